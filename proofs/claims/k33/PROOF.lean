import PyProof.Rows.All
import Wide.All
import OpenK.AllK
import Wide.FinOn
import Lean
import PyProof.EqAt
import PyProof.EqKinds
import PyProof.TupleCall
import PySem.Challenge.RW_linepress_k33_whole_wider_no_more
set_option Elab.async false
set_option genSizeOfSpec false
set_option genInjectivity false
def PySem.W.Fast.tw9886066911660947394:=()
def PySem.W.Fast.tw14430125533661711027:=()
def PySem.W.Fast.tw6411847889378940797:=()
def PySem.W.Fast.tw426704661542330208:=()
def PySem.W.Fast.tw2739675176363358698:=()
def PySem.W.Fast.tw3882869725439165656:=()
def PySem.W.Fast.tw1202937919549909099:=()
def PySem.W.Fast.tw10239163655579506840:=()
def PySem.W.Fast.tw17852377676312495258:=()
def PySem.W.Fast.tw17778144164306935223:=()
def PySem.W.Fast.tw5242948869745591337:=()
def PySem.W.Fast.tw7424322513389022195:=()
def PySem.W.Fast.tw6814141017106742223:=()
def PySem.W.Fast.tw1291788861401713603:=()
def PySem.W.Fast.tw1637485984655380745:=()
def PySem.W.Fast.tw17613777728423616643:=()
def PySem.W.Fast.tw1280127237441169801:=()
def PySem.W.Fast.tw8233520943746310811:=()
def PySem.W.Fast.tw14172058582151100825:=()
def PySem.W.Fast.tw17482024566919320775:=()
def PySem.W.Fast.tw14680270007730696490:=()
def PySem.W.Fast.tw14946454853291743272:=()
def PySem.W.Fast.tw14918349191955004903:=()
def PySem.W.Fast.tw17037851098690438495:=()
def PySem.W.Fast.tw5589696273448999108:=()
def PySem.W.Fast.tw8853495737448333535:=()
def PySem.W.Fast.tw12411490912650724651:=()
def PySem.W.Fast.tw14929897794786855800:=()
def PySem.W.Fast.tw2461815471462535048:=()
def PySem.W.Fast.tw5914216865600762827:=()
def PySem.W.Fast.tw6905987877327058285:=()
def PySem.W.Fast.tw8446220263668538512:=()
def PySem.W.Fast.tw13320014833161048923:=()
def PySem.W.Fast.tw14647985584632421955:=()
def PySem.W.Fast.tw11898962975864863253:=()
def PySem.W.Fast.tw9867633138510715277:=()
def PySem.W.Fast.tw9790482471126551386:=()
def PySem.W.Fast.tw16295532250794152118:=()
def PySem.W.Fast.tw8144329776536988226:=()
def PySem.W.Fast.tw11743411326884186134:=()
def PySem.W.Fast.tw13887309997774220540:=()
def PySem.W.Fast.tw13997874413259134306:=()
def PySem.W.Fast.tw11888415184867078070:=()
def PySem.W.Fast.tw13394566110549141425:=()
set_option linter.all false
set_option maxRecDepth 100000
set_option maxHeartbeats 1000000
abbrev NDb(x:PySem.Str):Prop:=(x==("__debug__":PySem.Str))=false
def Z0:=@List.mem_cons_self
def Z1:=@List.mem_cons_of_mem
def Z2:=@List.getElem?_eq_some_iff
def Z3:=@Option.bind_some
def Z4:=@List.length_cons
def Z5:=@List.length_append
def Z6:=@List.mem_cons
def Z7:=@Bool.false_ne_true
def Z8:=@List.map_cons
def Z9:=@List.mem_append_right
def Za:=@Nat.le_refl
def Zb:=@List.getElem?_map
def Zc:=@List.mem_singleton
def Zd:=@Nat.le_of_ble_eq_true
def Ze:=@PySem.Heap.get?_push_of_some
def Zf:=@decide_eq_false
def Zg:=@PySem.wpAny_bind
def Zh:=@List.length_map
def Zi:=@List.nodup_nil
def Zj:=@List.size_toArray
def Zk:=@PySem.Heap.lt_size
def Zl:=@List.append_nil
def Zm:=@List.mem_append_left
def Zn:=@decide_eq_true
def Zo:=@Option.map_eq_some_iff
def Zp:=@List.append_assoc
def Zq:=@List.mem_append
def Zr:=@List.getElem?_eq_getElem
def Zs:=@List.nodup_cons
def Zt:=@List.getElem?_set_ne
def Zu:=@List.getElem?_set_self
def Zv:=@PySem.Heap.get?_push_size
def Zw:=@Nat.lt_of_lt_of_le
def Zx:=@Bool.and_eq_true
def Zy:=@List.lookup_cons
def Zz:=@List.nodup_append
def ZA:=@Option.some.inj
def ZB:=@Int.emod_lt_of_pos
def ZC:=@Nat.le_trans
def ZD:=@Int.emod_nonneg
def ZE:=@Nat.ne_of_lt
def ZF:=@PySem.wpAny_pure
def ZG:=@List.mem_of_getElem?
def ZH:=@Bool.false_eq_true
def ZI:=@PySem.Paired.length
def ZJ:=@List.length_nil
def ZK:=@PySem.boot_len
def ZL:=@Nat.zero_le
def ZM:=@congrArg
def ZN:=@List.getElem?_append_left
def ZO:=@List.drop_eq_getElem_cons
def ZP:=@PySem.wpAny_mono
def ZQ:=@List.cons_append
def ZR:=@PySem.PassesOwn.never
def ZS:=@if_true
def ZT:=@decide_eq_true_eq
def ZU:=@PySem.wpAny_truthy_bool
def ZV:=@PySem.Heap.get?_update_other
def ZW:=@List.zip_cons_cons
def ZX:=@List.not_mem_nil
def ZY:=@Nat.le_add_right
def ZZ:=@PySem.W.mg_none_of
def Y2:=@Nat.lt_irrefl
def Y3:=@PySem.wpAny_Call_Name_kw
def Y4:=@List.map_append
def Y5:=@PySem.wpAny_loadPart'
def Y6:=@Ne.symm
def Y7:=@beq_eq_false_iff_ne
def Y8:=@PySem.W.hideAll_get
def Y9:=@PySem.mem_of_lookup
def Ya:=@List.replicate_succ
def Yb:=@Int.le_refl
def Yc:=@PySem.F.plain_min_loop
def Yd:=@PyProof.Rows.callWith_type1
def Ye:=@PySem.sizeLine_eq
def Yf:=@PySem.wpAny_passesOwn
def Yg:=@if_false
def Yh:=@List.length_take
def Yi:=@Array.length_toList
def Yj:=@List.find?_cons
def Yk:=@List.nil_append
def Yl:=@eq_self
def Ym:=@Nat.not_lt_zero
def Yn:=@PySem.W.callWith_K
def Yo:=@Nat.lt_of_le_of_lt
def Yp:=@of_decide_eq_false
def Yq:=@List.getElem?_replicate
def Yr:=@List.getElem?_cons_succ
def Ys:=@List.flatten_cons
def Yt:=@List.length_range
def Yu:=@List.getElem?_eq_none
def Yv:=@List.perm_append_comm
def Yw:=@decide_eq_decide
def Yx:=@PySem.W.hideAll_none
def Yy:=@Bool.eq_iff_iff
def Yz:=@List.mem_map_of_mem
def YA:=@Nat.zero_add
def YB:=@List.map_map
def YC:=@List.mem_map
def YD:=@PySem.wpAny_holding
def YE:=@beq_iff_eq
def YF:=@List.getElem?_append_right
def YG:=@List.getD_eq_getElem?_getD
def YH:=@PySem.wpAny_execs_nil
def YI:=@List.zip_nil_left
def YJ:=@PySem.F.args_tuple_add_2
def YK:=@List.any_cons
def YL:=@List.set_eq_of_length_le
def YM:=@PySem.W.mg_of
def YN:=@PySem.Calls.Name_function_global
def YO:=@Nat.lt_succ_self
def YQ:=@PySem.Calls.spliced_cons
def YR:=@PySem.F.entry_tuple_add
def YS:=@List.length_drop
def YT:=@Option.join_some
def YU:=@List.append_cancel_left
def YV:=@Nat.le_of_lt
def YW:=@PySem.F.slot_tuple_add
def YX:=@List.sublist_cons_self
def YY:=@List.append_inj_right'
def YZ:=@PySem.Calls.spliced_nil
def X0:=@PySem.W.methodCall_KW
def X1:=@List.length_replicate
def X2:=@PySem.AutoSeq1.sub_tuple_tuple
def X3:=@List.append_inj_left'
def X4:=@PySem.wpAny_execs_cons
def X5:=@List.drop_zero
def X6:=@List.getElem?_of_mem
def X7:=@List.filterMap_cons
def X8:=@PySem.W.plainGet_of
def X9:=@PySem.codeAny_mono
def Xa:=@PySem.richCompare_meets_room
def Xb:=@PySem.Calls.callWith_builtin
def Xc:=@ne_true_of_eq_false
def Xd:=@List.reverse_append
def Xe:=@List.length_reverse
def Xf:=@List.cons.inj
def Xg:=@PySem.W.of_hideAll
def Xh:=@List.mem_filterMap
def Xi:=@List.zip_nil_right
def Xj:=@PySem.Heap.get?_update_self
def Xk:=@List.map_nil
def Xl:=@of_decide_eq_true
def Xm:=@Nat.add_zero
def Xn:=@PySem.Around.under_plainId
def Xo:=@PySem.wpAny_tryCatch
def Xp:=@or_false
def Xq:=@PyProof.Rows.callWith_builtin1
def Xr:=@List.nil_sublist
def Xs:=@List.drop_length
def Xt:=@Bool.not_eq_true
def Xu:=@Array.toList_inj
def Xv:=@PySem.plainId_quiet
def Xw:=@List.eq_nil_of_length_eq_zero
def Xx:=@List.of_mem_zip
def Xy:=@PySem.typeIs_str
def Xz:=@PySem.call_meets
def XA:=@PySem.tupleKind_room_in1
def XB:=@PySem.F.args_str_split_2
def XC:=@List.takeWhile_append_of_pos
def XD:=@List.mem_range
def XE:=@Bool.false_and
def XF:=@Int.fdiv_eq_ediv_of_nonneg
def XG:=@PySem.F.entry_str_split
def XH:=@List.sublist_append_right
def XI:=@PySem.wpAny_forIn_list
def XJ:=@PySem.noFill_tuple_add
def XL:=@List.all_cons
def XM:=@PySem.F.slot_str_split
def XN:=@List.sublist_append_left
def XO:=@PySem.F.entry_min_loop
def XQ:=@PySem.F.slot_dict_values
def XR:=@PySem.F.args_tuple_lt_2
def XS:=@PySem.F.plainAttrs_list
def XT:=@PySem.wpAny_letGo
def XU:=@Nat.ne_of_gt
def XV:=@PySem.W.cellsFrom_some
def XW:=@PySem.F.entry_tuple_lt
def XX:=@List.append_eq_nil_iff
def XY:=@Option.map_eq_none_iff
def XZ:=@PySem.W.funFrames_hide
def W0:=@PySem.W.funFrames_base
def W1:=@PySem.codeAny_builtin
def W2:=@PySem.wpAny_updateSeq
def W3:=@PySem.F.slot_str_split
def W4:=@PySem.F.type_str_split
def W5:=@PySem.F.slot_tuple_lt
def W6:=@List.length_singleton
def W7:=@Sum.inl.inj
def W8:=@PySem.Heap.size_push
def W9:=@PySem.wpAny_seqItems
def Wa:=@Int.le_of_lt_add_one
def Wb:=@PySem.W.callWith_K0
def Wc:=@List.dropLast_cons₂
def Wd:=@Int.toNat_of_nonneg
def We:=@Array.append_assoc
def Wf:=@PySem.wpAny_standAt
def Wg:=@PySem.seq_tuple_add
def Wh:=@PySem.wpAny_pyNext_values_item
def Wi:=@PySem.Calls.loadGlobal_global
def Wj:=@Option.isSome_map
def Wk:=@Nat.le_succ_of_le
namespace L2
open PySem PySem.Spec PyProof.Rows
abbrev Key:=Sum Int Str
abbrev _root_.tz9:=Str->Addr
abbrev _root_.tz0:=PySem.W.Frag
abbrev _root_.tzA:=Str->Option Value
abbrev _root_.tzB:=List (Addr×Obj)
def wE:Key->Value->Bool
 | .inl k,v=>Value.isInt k v
 | .inr x,v=>Value.isStrOf x v
def wg4(w:World):Key->Int
 | .inl k=>hashInt k
 | .inr x=>hashStr w x
theorem fG:∀{k:Key} {v:Value},wE k v=true->(∃i t,k=Sum.inl i/\v=Value.int i t)\/(∃x t,k=Sum.inr x/\v=Value.str x t)
 | .inl i,v,h=>by
  obtain⟨t,e⟩:=Value.isInt_shape (k:=i) (v:=v) h
  exact .inl ⟨i,t,rfl,e⟩
 | .inr x,v,h=>by
  obtain⟨t,e⟩:=Value.isStrOf_shape (x:=x) (v:=v) h
  exact .inr ⟨x,t,rfl,e⟩
theorem yq6(i:Int)(t:Tok):wE (.inl i) (.int i t)=true:=by simp [wE,Value.isInt]
theorem yq7(x:Str)(t:Tok):wE (.inr x) (.str x t)=true:=by simp [wE,Value.isStrOf]
theorem xt3(a b:Int):decide ((Sum.inl a:Key)=Sum.inl b)=(a==b):=by
 by_cases e:a=b
 ·subst e;simp
 ·have h:¬(Sum.inl a:Key)=Sum.inl b:=fun q=>e (W7 q)
  rw [Zf h]
  exact(Y7.mpr e).symm
theorem xt4(a b:Str):decide ((Sum.inr a:Key)=Sum.inr b)=decide (a=b):=by
 by_cases e:a=b
 ·subst e;simp
 ·have h:¬(Sum.inr a:Key)=Sum.inr b:=fun q=>e (Sum.inr.inj q)
  rw [Zf h,Zf e]
theorem xt5(a:Int)(b:Str):decide ((Sum.inl a:Key)=Sum.inr b)=false:=Zf (fun q=>nomatch q)
theorem xt6(a:Str)(b:Int):decide ((Sum.inr a:Key)=Sum.inl b)=false:=Zf (fun q=>nomatch q)
def eU(prog:Program)(w:World):PySem.KeyKind prog w Key where
 is:=wE
 hash:=wg4 w
 inj:=fun v a b ha hb=>by
  rcases fG ha with ⟨i,t,rfl,rfl⟩|⟨x,t,rfl,rfl⟩
  ·rcases fG hb with ⟨j,u,rfl,e⟩|⟨y,u,rfl,e⟩
   ·injection e with e1 _;rw [e1]
   ·exact nomatch e
  ·rcases fG hb with ⟨j,u,rfl,e⟩|⟨y,u,rfl,e⟩
   ·exact nomatch e
   ·injection e with e1 _;rw [e1]
 byValue:=fun k v h=>by
  rcases fG h with ⟨i,t,rfl,rfl⟩|⟨x,t,rfl,rfl⟩<;>rfl
 pyHash:=fun hv h=>by
  rcases fG hv with ⟨i,t,rfl,rfl⟩|⟨x,t,rfl,rfl⟩
  ·exact wpAny_pyHash_int h
  ·exact wpAny_pyHash_str h
 eqBool:=fun hu hv h=>by
  rcases fG hu with ⟨i,t,rfl,rfl⟩|⟨x,t,rfl,rfl⟩
  ·rcases fG hv with ⟨j,u,rfl,rfl⟩|⟨y,u,rfl,rfl⟩
   ·rw [xt3] at h;exact wpAny_eqBool_int h
   ·rw [xt5] at h;exact SeqAt.EqAt.int_str i t y u _ _ _ _ h
  ·rcases fG hv with ⟨j,u,rfl,rfl⟩|⟨y,u,rfl,rfl⟩
   ·rw [xt6] at h;exact SeqAt.EqAt.str_int x t j u _ _ _ _ h
   ·rw [xt4] at h;exact wpAny_eqBool_str h
 «strs»:=fun k x t v h=>by
  rcases fG h with ⟨i,u,rfl,e⟩|⟨y,u,rfl,e⟩
  ·exact nomatch e
  ·injection e with e1 _
   subst e1
   cases v<;>rfl
theorem yd6(prog:Program)(w:World)(i:Int)(t:Tok):(eU prog w).is (.inl i) (.int i t)=true:=yq6 i t
theorem yd7(prog:Program)(w:World)(x:Str)(t:Tok):(eU prog w).is (.inr x) (.str x t)=true:=yq7 x t
set_option genInjectivity true in
inductive V where
 |non|bl (b:Bool)|int (i:Int)|str (x:Str)|byt (b:Array UInt8)|flt (b:UInt64)|ref (a:Addr)|ty (n:String)
 deriving DecidableEq
def cG:V->Value->Prop
 | .non,u=>u=Value.none
 | .bl b,u=>u=Value.bool b
 | .int i,u=>∃t,u=Value.int i t
 | .str x,u=>∃t,u=Value.str x t
 | .byt b,u=>∃t,u=Value.bytes b t
 | .flt b,u=>∃t,u=Value.float b t
 | .ref a,u=>u=Value.ref a
 | .ty n,u=>u=Value.type n
abbrev bL:List V->List Value->Prop:=Paired cG
theorem bL.length{xs:List V}{us:List Value}(r:bL xs us):xs.length=us.length:=ZI r
theorem bL.get:∀{xs:List V} {us:List Value} {i:Nat} {x:V},bL xs us->xs[i]? =some x->∃u,us[i]? =some u/\cG x u
 |_,_,_,_,.nil,e=>by simp at e
 |_,_,0,_,.cons r _,e=>by simp at e;subst e;exact⟨_,rfl,r⟩
 |_,_,i+1,x,.cons _ t,e=>by
  obtain⟨u,h1,h2⟩:=bL.get (i:=i) (x:=x) t (by simpa using e)
  exact⟨u,by simpa using h1,h2⟩
theorem bL.set{x:V}{u:Value}(r:cG x u):∀{xs:List V} {us:List Value} (i:Nat),bL xs us->bL (xs.set i x) (us.set i u)
 |_,_,_,.nil=> .nil
 |_,_,0,.cons _ t=> .cons r t
 |_,_,i+1,.cons q t=> .cons q (bL.set r i t)
theorem bL.append:∀{xs ys:List V} {us ws:List Value},bL xs us->bL ys ws->bL (xs++ys) (us++ws)
 |_,_,_,_,.nil,s=>s
 |_,_,_,_,.cons r t,s=> .cons r (bL.append t s)
theorem bL.take:∀{xs:List V} {us:List Value} (n:Nat),bL xs us->bL (xs.take n) (us.take n)
 |_,_,0,_=> .nil
 |_,_,_+1,.nil=> .nil
 |_,_,n+1,.cons r t=> .cons r (bL.take n t)
theorem bL.drop:∀{xs:List V} {us:List Value} (n:Nat),bL xs us->bL (xs.drop n) (us.drop n)
 |_,_,0,r=>r
 |_,_,_+1,.nil=> .nil
 |_,_,n+1,.cons _ t=>bL.drop n t
def jU:Option V->Option Value->Prop
 |some v,some u=>cG v u
 |none,none=>True
 |_,_=>False
def KV{U:Type}:List (U×V)->List (U×Value)->Prop:=Paired fun(p:U×V) (q:U×Value)=>p.1=q.1/\cG p.2 q.2
def kV:Key->V
 | .inl i=> .int i
 | .inr x=> .str x
inductive HO where
 |lst (xs:List V)
 |tup (xs:List V)
 |dK (kvs:List (Key×V))|dT (kvs:List (List Key×V))
 |set (S:Int->Bool) (n:Nat)
 |ins (C dx:Addr) (fs:List (Str×V))
 |own (x:Addr)
 |xd (fs:List (Str×V))
 |met (f x:Addr)
 |rng (lo hi:Int)
 |frz (o:Obj) (u:HO)
 |tbl (ps:Array Value)
 |ext (φ:Heap->Prop)
abbrev Hp:=Addr->Option HO
def upd(H:Hp)(a:Addr)(o:HO):Hp:=fun b=>if b=a then some o else H b
theorem cK{H:Hp}{a:Addr}{o:HO}:upd H a o a=some o:=by unfold upd;rw [if_pos rfl]
theorem aX{H:Hp}{a b:Addr}{o:HO}(h:b≠a):upd H a o b=H b:=by unfold upd;rw [if_neg h]
theorem wb6{H:Hp}{a b:Addr}{o u:HO}(h:H a=some o)(h':H b=some u)(d:o≠u):a≠b:=by
 intro e;subst e;rw [h] at h';exact d (ZA h')
theorem lX{H:Hp}{a b:Addr}{o:HO}(h:H a=some o)(h':H b=none):a≠b:=by
 intro e;subst e;rw [h] at h';cases h'
section
variable(P:Program)(w:World)
def dO(H:Hp)(h:Heap)(a:Addr):HO->Prop
 | .lst xs=>xs.length<=sizeLine/\∃(its:List Value) (n:Nat),bL xs its/\h.get? a=some {cls:= .type "list",data:= .seq its.toArray n}
 | .tup xs=>xs.length<=sizeLine/\∃its:List Value,bL xs its/\IsTup h a its.toArray
 | .dK kvs=>kvs.length<=sizeLine/\(a==sysModules)=false/\∃vs,KV kvs vs/\h.DictOf (eU P w) a vs
 | .dT kvs=>kvs.length<=sizeLine/\(a==sysModules)=false/\∃xs:List (List Key×Addr×Value),
   Paired (fun(p:List Key×V) (q:List Key×Addr×Value)=>p.1=q.1/\H q.2.1=some (.tup (p.1.map kV))/\cG p.2 q.2.2) kvs xs/\
   ∃o es ep,h.get? a=some o/\o.ExactDict/\o.data= .dict es ep/\es.toList=xs.map (entryOfKey (tupleKind (eU P w)))/\(xs.map (·.1)).Nodup
 | .set S n=>h.SetOf (intKind P w) a S n
 | .ins C dx fs=>H dx=some (.own a)/\fs.length<=1000/\dx≠a/\h.get? a=some (PySem.W.instObj C dx)/\
   ∃mA,h.Ns1 dx mA/\(∀f,jU (fs.lookup f) (mA f))/\PySem.Within mA (fs.map (·.1))
 | .own _=>∃o,h.get? a=some o
 | .xd fs=>∃mA,h.Ns1 a mA/\∀f,jU (fs.lookup f) (mA f)
 | .rng lo hi=>∃t u v,h.get? a=some {cls:= .type "range",data:= .fields #[.int lo t,.int hi u,.int 1 v]}
 | .frz o u=>h.get? a=some o/\dO H h a u
 | .tbl ps=>h.get? a=some {cls:= .none,data:= .fields ps}
 | .met f x=>h.get? a=some (PySem.W.methodObj (.ref f) (.ref x))
 | .ext φ=>φ h/\(∃o,h.get? a=some o)/\∀h1 h2:Heap,φ h1->(∀o,h1.get? a=some o->h2.get? a=some o)->φ h2
def HOk(H:Hp)(h:Heap):Prop:=∀a o,H a=some o->dO P w H h a o
end
section
variable{P:Program}{w:World}{H H':Hp}{h h':Heap}{a:Addr}{o:HO}
theorem dO.lt(x:dO P w H h a o):a<h.objs.size:=by
 cases o with
 |lst xs=>obtain⟨_,_,_,_,e⟩:=x;exact Zk e
 |tup xs=>obtain⟨_,_,_,p⟩:=x;exact p.lt
 |dK kvs=>obtain⟨_,_,_,_,o,_,_,e,_⟩:=x;exact Zk e
 |dT kvs=>obtain⟨_,_,_,_,o,_,_,e,_⟩:=x;exact Zk e
 |set S n=>obtain⟨o,_,_,_,e,_⟩:=x;exact Zk e
 |ins C dx fs=>obtain⟨_,_,_,e,_⟩:=x;exact Zk e
 |own y=>obtain⟨_,e⟩:=x;exact Zk e
 |xd fs=>obtain⟨_,⟨_,_,_,e,_⟩,_⟩:=x;exact Zk e
 |rng lo hi=>obtain⟨_,_,_,e⟩:=x;exact Zk e
 |frz ob u=>obtain⟨e,_⟩:=x;exact Zk e
 |tbl ps=>exact Zk (show h.get? a=some _ from x)
 |met f y=>exact Zk (show h.get? a=some _ from x)
 |ext φ=>obtain⟨_,⟨_,e⟩,_⟩:=x;exact Zk e
theorem Paired.mapP{α β:Type}{F G:α->β->Prop}:∀{l₁:List α} {l₂:List β},Paired F l₁ l₂->(∀a b,F a b->G a b)->Paired G l₁ l₂
 |_,_,.nil,_=> .nil
 |_,_,.cons r t,f=> .cons (f _ _ r) (Paired.mapP t f)
theorem dO.stay(x:dO P w H h a o)(k:∀b u,(b=a\/H b=some (.own a))->h.get? b=some u->h'.get? b=some u)
  (ho:∀b,H b=some (.own a)->H' b=some (.own a)) (ht:∀b xs,H b=some (.tup xs)->H' b=some (.tup xs)):dO P w H' h' a o:=by
 induction o with
 |lst xs=>obtain⟨z,its,n,r,e⟩:=x;exact⟨z,its,n,r,k _ _ (.inl rfl) e⟩
 |tup xs=>obtain⟨z,its,r,ob,e,c⟩:=x;exact⟨z,its,r,ob,k _ _ (.inl rfl) e,c⟩
 |dK kvs=>obtain⟨z,y,vs,r,ob,es,ep,e,c⟩:=x;exact⟨z,y,vs,r,ob,es,ep,k _ _ (.inl rfl) e,c⟩
 |dT kvs=>
  obtain⟨z,y,xs,r,ob,es,ep,e,c⟩:=x
  exact⟨z,y,xs,Paired.mapP r fun p q z=>⟨z.1,ht _ _ z.2.1,z.2.2⟩,ob,es,ep,k _ _ (.inl rfl) e,c⟩
 |set S n=>obtain⟨ob,es,ep,t,e,c⟩:=x;exact⟨ob,es,ep,t,k _ _ (.inl rfl) e,c⟩
 |ins C dx fs=>
  obtain⟨d,z,ne,e,mA,⟨od,es,ep,e2,c⟩,r⟩:=x
  exact⟨ho _ d,z,ne,k _ _ (.inl rfl) e,mA,⟨od,es,ep,k _ _ (.inr d) e2,c⟩,r⟩
 |own y=>obtain⟨ob,e⟩:=x;exact⟨ob,k _ _ (.inl rfl) e⟩
 |xd fs=>obtain⟨mA,⟨od,es,ep,e,c⟩,r⟩:=x;exact⟨mA,⟨od,es,ep,k _ _ (.inl rfl) e,c⟩,r⟩
 |rng lo hi=>obtain⟨t,u,v,e⟩:=x;exact⟨t,u,v,k _ _ (.inl rfl) e⟩
 |frz ob u ih=>obtain⟨e,q⟩:=x;exact⟨k _ _ (.inl rfl) e,ih q⟩
 |tbl ps=>
  have e:h.get? a=some {cls:= .none,data:= .fields ps}:=x
  show h'.get? a=some {cls:= .none,data:= .fields ps}
  exact k a _ (.inl rfl) e
 |met f y=>
  have e:h.get? a=some (PySem.W.methodObj (.ref f) (.ref y)):=x
  show h'.get? a=some (PySem.W.methodObj (.ref f) (.ref y))
  exact k a _ (.inl rfl) e
 |ext φ=>obtain⟨p,⟨o,e⟩,st⟩:=x;exact⟨st _ _ p fun o q=>k _ _ (.inl rfl) q,⟨o,k _ _ (.inl rfl) e⟩,st⟩
theorem HOk.lt(x:HOk P w H h)(e:H a=some o):a<h.objs.size:=(x a o e).lt
theorem HOk.fresh(x:HOk P w H h)(e:h.objs.size<=a):H a=none:=by
 cases q:H a with
 |none=>rfl
 |some u=>exact absurd (Zw (x.lt q) e) (Y2 _)
theorem HOk.kept(x:HOk P w H h)(k:∀b u,h.get? b=some u->h'.get? b=some u):HOk P w H h':=fun a o e=>
 (x a o e).stay (fun b u _ q=>k b u q) (fun _ q=>q) fun _ _ q=>q
theorem HOk.laid(x:HOk P w H h)(k:∀b u,h.get? b=some u->h'.get? b=some u)(hp:h.objs.size<=a)(new:dO P w (upd H a o) h' a o):HOk P w (upd H a o) h':=fun b u e=>by
 have hn:=x.fresh hp
 by_cases hb:b=a
 ·subst hb;rw [cK] at e;cases e;exact new
 ·rw [aX hb] at e
  exact(x b u e).stay (fun c v _ q=>k c v q) (fun c q=>by rw [aX (lX q hn)];exact q) fun c xs q=>by rw [aX (lX q hn)];exact q
end
def Rd(H:Hp)(a:Addr)(u:HO):Prop:=H a=some u\/∃o,H a=some (.frz o u)
theorem Rd.ok{P:Program}{w:World}{H:Hp}{h:Heap}{a:Addr}{u:HO}(r:Rd H a u)(x:HOk P w H h):dO P w H h a u:=by
 rcases r with r|⟨o,r⟩
 ·exact x a u r
 ·obtain⟨_,q⟩:=x a _ r
  exact q
def Mut:Option HO->Prop
 |some (.lst _)=>True
 |some (.dK _)=>True
 |some (.dT _)=>True
 |some (.set _ _)=>True
 |some (.ins _ _ _)=>True
 |some (.ext _)=>True
 |_=>False
section
variable{P:Program}{w:World}{H:Hp}{h h':Heap}{x e:Addr}{o':HO}
theorem HOk.write(ok:HOk P w H h)(mu:Mut (H x))(he:e=x\/H e=some (.own x))(k:∀b u,b≠e->h.get? b=some u->h'.get? b=some u)(heo:∃u,h'.get? e=some u)
  (new:dO P w (upd H x o') h' x o'):HOk P w (upd H x o') h':=fun b u q=>by
 have nown:∀c y,H c=some (.own y)->c≠x:=fun c y r z=>by subst z;rw [r] at mu;exact mu
 have ntup:∀c xs,H c=some (.tup xs)->c≠x:=fun c xs r z=>by subst z;rw [r] at mu;exact mu
 by_cases hb:b=x
 ·subst hb;rw [cK] at q;cases q;exact new
 ·rw [aX hb] at q
  by_cases hbe:b=e
  ·have q':H b=some (.own x):=by
    rcases he with z|z
    ·exact absurd (hbe.trans z) hb
    ·rw [hbe];exact z
   rw [q] at q';cases q'
   obtain⟨v,hv⟩:=heo
   exact⟨v,by rw [hbe];exact hv⟩
  ·refine(ok b u q).stay (fun c v hc r=>k c v ?_ r) (fun c r=>by rw [aX (nown c b r)];exact r) fun c xs r=>by rw [aX (ntup c xs r)];exact r
   rcases hc with rfl|hc
   ·exact hbe
   ·rintro rfl
    rcases he with z|z
    ·exact nown c b hc z
    ·rw [hc] at z;cases z;exact hb rfl
end
structure Un(fs ex:List Addr)(H H':Hp)(h h':Heap):Prop where
 keep:∀b o,h.get? b=some o->H b=none->b∉fs->b∉ex->h'.get? b=some o
 slot:∀b o,h.get? b=some o->H b=none->b∈fs->b∉ex->∃sl,h'.get? b=some {o with slots:=sl}
 free:∀b o,h.get? b=some o->H b=none->b∉ex->H' b=none
 there:∀b o,h.get? b=some o->b∉ex->∃o',h'.get? b=some o'
 tups:∀b xs,H b=some (.tup xs)->H' b=some (.tup xs)
 frzs:∀b o u,H b=some (.frz o u)->H' b=some (.frz o u)
 tbls:∀b ps,H b=some (.tbl ps)->∃more,H' b=some (.tbl (ps++more))
section
variable{fs fs' ex ex':List Addr}{H H1 H2:Hp}{h h1 h2 h':Heap}{a x e:Addr}{o:HO}
theorem Un.any(u:Un fs ex H H1 h h1){b:Addr}{ob:Obj}(q:h.get? b=some ob)(n:H b=none)(hx:b∉ex):∃sl,h1.get? b=some {ob with slots:=sl}:=by
 by_cases hb:b∈fs
 ·exact u.slot b ob q n hb hx
 ·exact⟨ob.slots,u.keep b ob q n hb hx⟩
theorem Un.trans(a:Un fs ex H H1 h h1)(b:Un fs ex H1 H2 h1 h2):Un fs ex H H2 h h2 where
 keep:=fun c ob q n hc hx=>b.keep c ob (a.keep c ob q n hc hx) (a.free c ob q n hx) hc hx
 slot:=fun c ob q n hc hx=>by
  obtain⟨sl,e1⟩:=a.slot c ob q n hc hx
  obtain⟨sl',e2⟩:=b.slot c _ e1 (a.free c ob q n hx) hc hx
  exact⟨sl',e2⟩
 free:=fun c ob q n hx=>by
  obtain⟨o',e1⟩:=a.there c ob q hx
  exact b.free c o' e1 (a.free c ob q n hx) hx
 there:=fun c ob q hx=>by
  obtain⟨o',e1⟩:=a.there c ob q hx
  exact b.there c o' e1 hx
 tups:=fun c xs q=>b.tups c xs (a.tups c xs q)
 frzs:=fun c ob xs q=>b.frzs c ob xs (a.frzs c ob xs q)
 tbls:=fun c ps q=>by
  obtain⟨m1,e1⟩:=a.tbls c ps q
  obtain⟨m2,e2⟩:=b.tbls c _ e1
  exact⟨m1++m2,by rw [e2,We]⟩
theorem Un.kept(k:∀b u,h.get? b=some u->h'.get? b=some u):Un fs ex H H h h':=
 ⟨fun b ob q _ _ _=>k b ob q,fun b ob q _ _ _=>⟨ob.slots,k b ob q⟩,fun _ _ _ n _=>n,fun b ob q _=>⟨ob,k b ob q⟩,fun _ _ q=>q,fun _ _ _ q=>q,fun _ ps q=>⟨#[],by rw [q];simp⟩⟩
theorem Un.refl:Un fs ex H H h h:=Un.kept fun _ _ q=>q
theorem Un.laid(k:∀b u,h.get? b=some u->h'.get? b=some u)(hp:h.objs.size<=a)(hn:H a=none):Un fs ex H (upd H a o) h h' where
 keep:=fun b u q _ _ _=>k b u q
 slot:=fun b u q _ _ _=>⟨u.slots,k b u q⟩
 free:=fun b u q n _=>by rw [aX (ZE (Zw (Zk q) hp))];exact n
 there:=fun b u q _=>⟨u,k b u q⟩
 tups:=fun b xs q=>by rw [aX (lX q hn)];exact q
 frzs:=fun b u xs q=>by rw [aX (lX q hn)];exact q
 tbls:=fun b ps q=>⟨#[],by rw [aX (lX q hn),q];simp⟩
theorem Un.write(mu:Mut (H x))(he:e=x\/H e=some (.own x))(k:∀b u,b≠e->h.get? b=some u->h'.get? b=some u)(heo:∃u,h'.get? e=some u):Un fs ex H (upd H x o) h h':=by
 have hx:∀b,H b=none->b≠x:=fun b n z=>by subst z;rw [n] at mu;exact mu
 have hb:∀b,H b=none->b≠e:=fun b n z=>by
  subst z
  rcases he with r|r
  ·exact hx b n r
  ·rw [n] at r;cases r
 have hm:∀b u,H b=some u->¬Mut (some u)->b≠x:=fun b u q nm z=>by subst z;rw [q] at mu;exact nm mu
 refine⟨fun b u q n _ _=>k b u (hb b n) q,fun b u q n _ _=>⟨u.slots,k b u (hb b n) q⟩,fun b u q n _=>by rw [aX (hx b n)];exact n,fun b u q _=> ?_,
  fun b xs q=>by rw [aX (hm b _ q fun z=>z)];exact q,fun b u xs q=>by rw [aX (hm b _ q fun z=>z)];exact q,fun b ps q=>⟨#[],by rw [aX (hm b _ q fun z=>z),q];simp⟩⟩
 by_cases hbe:b=e
 ·subst hbe;exact heo
 ·exact⟨u,k b u hbe q⟩
theorem Un.mono(u:Un fs ex H H1 h h1)(hs:∀b∈fs,b∈fs')(hx:∀b∈ex,b∈ex'):Un fs' ex' H H1 h h1:=
 ⟨fun b ob q n hb he=>u.keep b ob q n (fun z=>hb (hs b z)) fun z=>he (hx b z),fun _ _ q n _ he=>u.any q n fun z=>he (hx _ z),fun b ob q n he=>u.free b ob q n fun z=>he (hx b z),fun b ob q he=>u.there b ob q fun z=>he (hx b z),u.tups,u.frzs,u.tbls⟩
end
def trk(h:Heap)(H:Hp):List Addr:=(List.range h.objs.size).filter fun a=>(H a).isSome
def wH(h:Heap)(H:Hp):Heap:=PySem.W.hideAll h (trk h H)
theorem yq8(h:Heap)(H:Hp):(wH h H).objs.size=h.objs.size:=PySem.W.hideAll_size _ _
theorem xb9{h:Heap}{H:Hp}{b:Addr}{o:Obj}(e:h.get? b=some o)(n:H b=none):(wH h H).get? b=some o:=
 Y8 _ e fun hm=>by
  have q:(H b).isSome=true:=(List.mem_filter.mp hm).2
  rw [n] at q;simp at q
theorem xm4{h:Heap}{H:Hp}{b:Addr}{o:Obj}(e:(wH h H).get? b=some o):h.get? b=some o/\H b=none:=by
 have e':h.get? b=some o:=Xg (trk h H) e
 refine⟨e',?_⟩
 cases q:H b with
 |none=>rfl
 |some x=>
  have hm:b∈trk h H:=List.mem_filter.mpr ⟨XD.mpr (Zk e'),by simp [q]⟩
  have z:(wH h H).get? b=none:=Yx (trk h H) hm
  rw [z] at e;cases e
structure Mod(K:tz0)(mg:tzA)(base:Heap):Prop where
 kin:K.In base
 glob:base.Ns mainGlobals mg
 blt:∃mb,base.Ns builtinsNs mb/\∀x:Str,x≠"__name__"->mb x=bootBuiltins x
 nolimit:base.NoLimit
structure Cx where
 prog:Program
 w:World
 K:tz0
 mg:tzA
 base:Heap
 A:Around
 N:List Str
 s₀:Shared
 H₀:Hp
 env:Env
 outer:List Env
 stack:List Env
 ex:List Addr
 fn:Str->Bool
 calm:Bool
 pn:tzB
 xe:Value->Shared->Prop
def frs(l:List Env):List Addr:=l.filterMap (·.frame)
abbrev Cx.fs(X:Cx):List Addr:=frs X.outer
def Vis(sc:Scope)(x:Str):Prop:=sc.names.lookup x=some .local\/sc.names.lookup x=some .cell\/sc.names.lookup x=some .free
def Loc(sc:Scope)(x:Str):Prop:=sc.names.lookup x=some .local\/sc.names.lookup x=some .cell
def wg5(env:Env)(h:Heap)(m:tzA)(x:Str)(u:Value):Prop:=
 (env.kindOf x=some .local/\m x=some u)\/((env.kindOf x=some .cell\/env.kindOf x=some .free)/\∃c,env.cells.lookup x=some c/\h.IsCell c (some u))
structure Cx.Ok(X:Cx):Prop where
 mod:Mod X.K X.mg X.base
 kind:X.env.scope.kind= .function
 glob:X.env.globals=mainGlobals
 blt:X.env.builtins=builtinsNs
 above:X.s₀.heap.objs.size<=X.env.locals
 inj:∀x y c,X.env.cells.lookup x=some c->X.env.cells.lookup y=some c->x=y
 has:∀x,(X.env.kindOf x=some .cell\/X.env.kindOf x=some .free)->∃c,X.env.cells.lookup x=some c
 cab:∀x c,X.fn x=true->X.env.cells.lookup x=some c->X.s₀.heap.objs.size<=c
 hd:X.calm=true->X.A.handled=none
 frames:X.A.frames=some X.stack
 stk:X.stack=X.outer\/(X.stack=X.env::X.outer/\X.env.frame=some X.env.locals)
 exf:∀b∈X.ex,b≠X.env.locals/\∀x c,X.env.cells.lookup x=some c->c≠b
 bs:∀b o,X.base.get? b=some o->X.s₀.heap.get? b=some o/\X.H₀ b=none
 bsz:X.base.objs.size<=X.s₀.heap.objs.size
 noex:∀b o,X.base.get? b=some o->b∉X.ex
 exfs:∀b∈X.ex,b∉X.fs
 funs:X.s₀.heap.FunFrames X.base X.outer
 frf:∀b∈X.fs,X.H₀ b=none
structure Inv(X:Cx)(pins:tzB)(σ:List (Option V))(H:Hp)(s:Shared):Prop where
 ok:X.Ok
 os:s.os=X.s₀.os
 bare:AllBare s.gens
 base:Un X.fs X.ex X.H₀ H X.s₀.heap s.heap
 loc:∃m,s.heap.Ns X.env.locals m/\∀(i:Nat) (x:Str) (v:V),X.N[i]? =some x->σ[i]? =some (some v)->Vis X.env.scope x->∃u,cG v u/\wg5 X.env s.heap m x u
 cell:∀x c,X.env.cells.lookup x=some c->∃v,s.heap.IsCell c v
 free:H X.env.locals=none
 freeC:∀x c,X.env.cells.lookup x=some c->H c=none
 pin:∀p∈X.pn++pins,s.heap.get? p.1=some p.2/\H p.1=none/\p.1≠X.env.locals/\p.1∉X.fs/\∀v,p.2.data≠ .cell v
 hok:HOk X.prog X.w H s.heap
 len:σ.length=X.N.length
section
variable{X:Cx}{pins:tzB}{σ:List (Option V)}{H H':Hp}{s:Shared}{h':Heap}
theorem Cx.Ok.nofr(ok:X.Ok){b:Addr}{o:Obj}(e:X.base.get? b=some o):b∉X.fs:=fun hb=>by
 have:=(ok.funs.mem hb).1
 rw [e] at this;cases this
theorem Inv.bs(I:Inv X pins σ H s):∀b o,X.base.get? b=some o->s.heap.get? b=some o/\H b=none:=fun b o e=>
 ⟨I.base.keep b o (I.ok.bs b o e).1 (I.ok.bs b o e).2 (I.ok.nofr e) (I.ok.noex b o e),I.base.free b o (I.ok.bs b o e).1 (I.ok.bs b o e).2 (I.ok.noex b o e)⟩
theorem Inv.bk(I:Inv X pins σ H s):∀b o,X.base.get? b=some o->s.heap.get? b=some o:=fun b o e=>(I.bs b o e).1
theorem Inv.mod(I:Inv X pins σ H s):Mod X.K X.mg X.base:=I.ok.mod
theorem Inv.kIn(I:Inv X pins σ H s):X.K.In s.heap:=I.ok.mod.kin.keeps I.bk
theorem Inv.lt(I:Inv X pins σ H s):X.env.locals<s.heap.objs.size:=let ⟨_,hn,_⟩:=I.loc;hn.lt
theorem Inv.sz(I:Inv X pins σ H s):X.s₀.heap.objs.size<=s.heap.objs.size:=ZC I.ok.above (YV I.lt)
theorem Inv.nofs(I:Inv X pins σ H s){a:Addr}(h:s.heap.objs.size<=a):a∉X.fs:=fun hb=>by
 obtain⟨_,o,ho,_⟩:=I.ok.funs.mem hb
 exact absurd (Zw (Zk ho) (ZC I.sz h)) (Y2 _)
theorem Inv.cne(I:Inv X pins σ H s):∀x c,X.env.cells.lookup x=some c->c≠X.env.locals:=fun x c e z=>by
 obtain⟨v,o,ho,hd⟩:=I.cell x c e
 obtain⟨m,⟨o',es,ep,ho',hd',_⟩,_⟩:=I.loc
 rw [z,ho'] at ho;cases ho;rw [hd'] at hd;cases hd
theorem Inv.funs(I:Inv X pins σ H s):s.heap.FunFrames X.base X.outer:=by
 have all:∀(l:List Env),(∀b∈frs l,b∈X.fs)->X.s₀.heap.FunFrames X.base l->s.heap.FunFrames X.base l:=by
  intro l
  induction l with
  |nil=>intro _ _;trivial
  |cons env r ih=>
   intro hs hl
   obtain⟨hk,⟨L,o,hf,hn,ho,hd⟩,hr⟩:=hl
   have hL:L∈X.fs:=hs L (by unfold frs;rw [X7,hf];exact Z0)
   obtain⟨sl,e⟩:=I.base.slot L o ho (I.ok.frf L hL) hL fun z=>I.ok.exfs L z hL
   exact⟨hk,⟨L,_,hf,hn,e,hd⟩,ih (fun b hb=>hs b (by unfold frs;rw [X7,hf];exact Z1 _ hb)) hr⟩
 exact all X.outer (fun _ hb=>hb) I.ok.funs
theorem Inv.stack(I:Inv X pins σ H s):s.heap.FunFrames X.base X.stack:=by
 rcases I.ok.stk with e|⟨e,hf⟩
 ·rw [e];exact I.funs
 ·rw [e]
  obtain⟨m,hn,_⟩:=I.loc
  refine .cons (by rw [I.ok.kind];decide) hf hn ?_ I.funs
  exact Heap.get?_none_of_le (ZC I.ok.bsz I.ok.above)
theorem Inv.stkSub(I:Inv X pins σ H s):∀b∈frs X.stack,b∈X.env.locals::X.fs:=fun b hb=>by
 rcases I.ok.stk with e|⟨e,hf⟩
 ·rw [e] at hb;exact Z1 _ hb
 ·rw [e] at hb
  unfold frs at hb
  rw [X7,hf] at hb
  exact hb
theorem Inv.stkFree(I:Inv X pins σ H s):∀b∈frs X.stack,H b=none:=fun b hb=>by
 rcases Z6.mp (I.stkSub b hb) with e|hb
 ·rw [e];exact I.free
 ·obtain⟨_,o,ho,_⟩:=I.ok.funs.mem hb
  exact I.base.free b o ho (I.ok.frf b hb) fun z=>I.ok.exfs b z hb
theorem Inv.step{g':Array GenState}{t':Nat}{d':Drawn}{ch:List Addr}(I:Inv X pins σ H s)
  (hch:∀b∈ch,(b∈X.ex\/X.s₀.heap.objs.size<=b)/\b≠X.env.locals/\(∀x c,X.env.cells.lookup x=some c->c≠b)/\∀p∈X.pn++pins,p.1≠b)
  (keep:∀b o,b≠X.env.locals->b∉X.fs->b∉ch->s.heap.get? b=some o->H b=none->h'.get? b=some o)
  (slot:∀b o,b≠X.env.locals->b∈X.fs->b∉ch->s.heap.get? b=some o->H b=none->∃sl,h'.get? b=some {o with slots:=sl}) (free:∀b o,b∉ch->s.heap.get? b=some o->H b=none->H' b=none)
  (there:∀b o,b∉ch->s.heap.get? b=some o->∃o',h'.get? b=some o')
  (tups:∀b xs,H b=some (.tup xs)->H' b=some (.tup xs)) (frzs:∀b o u,H b=some (.frz o u)->H' b=some (.frz o u)) (tbls:∀b ps,H b=some (.tbl ps)->∃more,H' b=some (.tbl (ps++more)))
  (ns:∀m,s.heap.Ns X.env.locals m->h'.Ns X.env.locals m) (hok:HOk X.prog X.w H' h') (hg:AllBare g'):
  Inv X pins σ H' {s with heap:=h',gens:=g',drawn:=d',toks:=t'}:=by
 have neL:∀b o,X.s₀.heap.get? b=some o->b≠X.env.locals:=fun b o e=>ZE (Zw (Zk e) I.ok.above)
 have neC:∀b o,X.s₀.heap.get? b=some o->b∉X.ex->b∉ch:=fun b o e hx hb=>by
  rcases(hch b hb).1 with z|z
  ·exact hx z
  ·exact absurd (Zw (Zk e) z) (Y2 _)
 have cellK:∀x c,X.env.cells.lookup x=some c->∀v,s.heap.IsCell c v->h'.IsCell c v:=fun x c e v ⟨o,ho,hd⟩=>by
  have nch:c∉ch:=fun z=>(hch c z).2.2.1 x c e rfl
  by_cases hc:c∈X.fs
  ·obtain⟨sl,q⟩:=slot c o (I.cne x c e) hc nch ho (I.freeC x c e)
   exact⟨_,q,hd⟩
  ·exact⟨o,keep c o (I.cne x c e) hc nch ho (I.freeC x c e),hd⟩
 refine⟨I.ok,I.os,hg,⟨fun b o e n hb hx=> ?_,fun b o e n hb hx=> ?_,fun b o e n hx=> ?_,fun b o e hx=> ?_,fun b xs e=>tups b xs (I.base.tups b xs e),fun b o xs e=>frzs b o xs (I.base.frzs b o xs e),fun b ps e=> ?_⟩,?_,fun x c e=> ?_,?_,fun x c e=> ?_,fun p hp=> ?_,hok,I.len⟩
 ·exact keep b o (neL b o e) hb (neC b o e hx) (I.base.keep b o e n hb hx) (I.base.free b o e n hx)
 ·obtain⟨sl,e1⟩:=I.base.slot b o e n hb hx
  obtain⟨sl',e2⟩:=slot b _ (neL b o e) hb (neC b o e hx) e1 (I.base.free b o e n hx)
  exact⟨sl',e2⟩
 ·obtain⟨o',e1⟩:=I.base.there b o e hx
  exact free b o' (neC b o e hx) e1 (I.base.free b o e n hx)
 ·obtain⟨o',e1⟩:=I.base.there b o e hx
  exact there b o' (neC b o e hx) e1
 ·obtain⟨m1,e1⟩:=I.base.tbls b ps e
  obtain⟨m2,e2⟩:=tbls b _ e1
  exact⟨m1++m2,by rw [e2,We]⟩
 ·obtain⟨m,hn,hl⟩:=I.loc
  refine⟨m,ns m hn,fun i x v e1 e2 e3=> ?_⟩
  obtain⟨u,r,l⟩:=hl i x v e1 e2 e3
  refine⟨u,r,?_⟩
  rcases l with l|⟨k,c,e,z⟩
  ·exact .inl l
  ·exact .inr ⟨k,c,e,cellK x c e _ z⟩
 ·obtain⟨v,z⟩:=I.cell x c e
  exact⟨v,cellK x c e v z⟩
 ·obtain⟨m,⟨o,_,_,ho,_⟩,_⟩:=I.loc
  exact free _ o (fun z=>(hch _ z).2.1 rfl) ho I.free
 ·obtain⟨v,o,ho,hd⟩:=I.cell x c e
  exact free c o (fun z=>(hch c z).2.2.1 x c e rfl) ho (I.freeC x c e)
 ·obtain⟨e,n,ne,nf,d⟩:=I.pin p hp
  have nch:p.1∉ch:=fun z=>(hch p.1 z).2.2.2 p hp rfl
  exact⟨keep p.1 p.2 ne nf nch e n,free p.1 p.2 nch e n,ne,nf,d⟩
theorem Inv.un{t':Nat}(I:Inv X pins σ H s)(u:Un X.fs [] H H' s.heap h')(hok:HOk X.prog X.w H' h'):Inv X pins σ H' {s with heap:=h',toks:=t'}:=by
 obtain⟨m,⟨o,es,ep,ho,r⟩,_⟩:=id I.loc
 obtain⟨sl,hL⟩:=u.any ho I.free (by simp)
 exact I.step (g':=s.gens) (d':=s.drawn) (ch:=[]) (fun _ z=>nomatch z) (fun b o _ hb _ e n=>u.keep b o e n hb (by simp)) (fun b o _ hb _ e n=>u.slot b o e n hb (by simp)) (fun b o _ e n=>u.free b o e n (by simp)) (fun b o _ e=>u.there b o e (by simp)) u.tups u.frzs u.tbls (fun m' hm=>by
  obtain⟨o',es',ep',ho',r'⟩:=hm
  rw [ho] at ho';cases ho'
  exact⟨_,es',ep',hL,r'⟩) hok I.bare
theorem Inv.call{g':Array GenState}{t':Nat}{d':Drawn}{ch:List Addr}(I:Inv X pins σ H s)(u:Un (frs X.stack) ch H H' s.heap h')(hok:HOk X.prog X.w H' h')(hg:AllBare g')
  (hch:∀b∈ch,(b∈X.ex\/X.s₀.heap.objs.size<=b)/\b≠X.env.locals/\(∀x c,X.env.cells.lookup x=some c->c≠b)/\∀p∈X.pn++pins,p.1≠b):
  Inv X pins σ H' {s with heap:=h',gens:=g',drawn:=d',toks:=t'}:=by
 obtain⟨m,⟨o,es,ep,ho,r⟩,_⟩:=id I.loc
 obtain⟨sl,hL⟩:=u.any ho I.free fun z=>(hch _ z).2.1 rfl
 exact I.step (ch:=ch) hch (fun b o hL hb hc e n=>u.keep b o e n (fun z=>(Z6.mp (I.stkSub b z)).elim hL hb) hc) (fun b o _ _ hc e n=>u.any e n hc) (fun b o hc e n=>u.free b o e n hc) (fun b o hc e=>u.there b o e hc) u.tups u.frzs u.tbls (fun m' hm=>by
  obtain⟨o',es',ep',ho',r'⟩:=hm
  rw [ho] at ho';cases ho'
  exact⟨_,es',ep',hL,r'⟩) hok hg
theorem Inv.turned{t':Nat}{it:Addr}(I:Inv X pins σ H s)(k:∀b o,b≠it->s.heap.get? b=some o->h'.get? b=some o)(hn:H it=none)(hL:it≠X.env.locals)
  (h1:it∈X.ex\/X.s₀.heap.objs.size<=it) (h2:∀x c,X.env.cells.lookup x=some c->c≠it) (h3:∀p∈X.pn++pins,p.1≠it):Inv X pins σ H {s with heap:=h',toks:=t'}:=by
 have nit:∀b u,H b=some u->b≠it:=fun b u e z=>by rw [z,hn] at e;cases e
 refine I.step (g':=s.gens) (d':=s.drawn) (ch:=[it]) (fun b hb=> ?_) (fun b o _ _ hc e _=>k b o (fun z=>hc (by simp [z])) e) (fun b o _ _ hc e _=>⟨o.slots,k b o (fun z=>hc (by simp [z])) e⟩) (fun _ _ _ _ n=>n)
  (fun b o hc e=>⟨o,k b o (fun z=>hc (by simp [z])) e⟩) (fun _ _ e=>e) (fun _ _ _ e=>e) (fun b ps e=>⟨#[],by rw [e];simp⟩) (fun m hm=> ?_) (fun b u e=> ?_) I.bare
 ·have e:b=it:=by simpa using hb
  subst e
  exact⟨h1,hL,h2,h3⟩
 ·obtain⟨o,es,ep,ho,r⟩:=hm
  exact⟨o,es,ep,k _ o (Y6 hL) ho,r⟩
 ·refine(I.hok b u e).stay (fun c v hc q=>k c v ?_ q) (fun _ q=>q) fun _ _ q=>q
  rcases hc with z|z
  ·rw [z];exact nit b u e
  ·exact nit c _ z
theorem Inv.tok(I:Inv X pins σ H s)(t:Nat):Inv X pins σ H {s with toks:=t}:=I.un (h':=s.heap) (t':=t) Un.refl I.hok
theorem Inv.kept{t':Nat}(I:Inv X pins σ H s)(k:∀b u,s.heap.get? b=some u->h'.get? b=some u):Inv X pins σ H {s with heap:=h',toks:=t'}:=I.un (Un.kept k) (I.hok.kept k)
theorem Inv.laid{a:Addr}{o:HO}{t':Nat}(I:Inv X pins σ H s)(k:∀b u,s.heap.get? b=some u->h'.get? b=some u)(hp:s.heap.objs.size<=a)(new:dO X.prog X.w (upd H a o) h' a o):
  Inv X pins σ (upd H a o) {s with heap:=h',toks:=t'}:=I.un (Un.laid k hp (I.hok.fresh hp)) (I.hok.laid k hp new)
theorem Inv.write{x e:Addr}{o:HO}{t':Nat}(I:Inv X pins σ H s)(mu:Mut (H x))(he:e=x\/H e=some (.own x))(k:∀b u,b≠e->s.heap.get? b=some u->h'.get? b=some u)(heo:∃u,h'.get? e=some u)
  (new:dO X.prog X.w (upd H x o) h' x o):Inv X pins σ (upd H x o) {s with heap:=h',toks:=t'}:=I.un (Un.write mu he k heo) (I.hok.write mu he k heo new)
theorem Inv.pins_of{pins':tzB}(I:Inv X pins σ H s)(h:∀p∈pins',s.heap.get? p.1=some p.2/\H p.1=none/\p.1≠X.env.locals/\p.1∉X.fs/\∀v,p.2.data≠ .cell v):Inv X pins' σ H s:=
 ⟨I.ok,I.os,I.bare,I.base,I.loc,I.cell,I.free,I.freeC,fun p hp=>(Zq.mp hp).elim (fun z=>I.pin p (Zm _ z)) (h p),I.hok,I.len⟩
theorem zv2{N:List Str}(hN:N.Nodup){i j:Nat}{x:Str}(a:N[i]? =some x)(b:N[j]? =some x):i=j:=by
 obtain⟨h1,e1⟩:=Z2.mp a
 obtain⟨h2,e2⟩:=Z2.mp b
 exact(List.getElem_inj hN).mp (e1.trans e2.symm)
theorem yq9{M:Model}{A:Around}{E:Value->Shared->Prop}{i:Nat}{x:Str}{v:V}{u:Value}{Q:Unit->Shared->Prop}(I:Inv X pins σ H s)(hN:X.N.Nodup)(hi:X.N[i]? =some x)(hx:Loc X.env.scope x)(r:cG v u)
  (h:∀s',Inv X pins (σ.set i (some v)) H s'->(∃a,Heap.SameBut a s.heap s'.heap/\(a=X.env.locals\/X.env.cells.lookup x=some a))->Q () s') (hf:X.fn x=true\/X.env.scope.names.lookup x=some .local:=by first|exact .inl rfl|exact .inr rfl|assumption):wpAny M A (storeName X.env x u) Q E s:=by
 obtain⟨m,hn,hl⟩:=id I.loc
 have hcls:(X.env.scope.kind== .class||(X.env.scope.kind== .module&&X.env.locals !=X.env.globals))=false:=by rw [I.ok.kind];rfl
 have hiσ:i<σ.length:=by rw [I.len];exact(Z2.mp hi).1
 have cne:=I.cne
 have tracked:∀{a:Addr} {h':Heap},(∃o,s.heap.get? a=some o/\H a=none)->Heap.SameBut a s.heap h'->HOk X.prog X.w H h':=fun {a h'} ha hs b ob e=>by
  obtain⟨_,_,hfree⟩:=ha
  refine(I.hok b ob e).stay (fun c w' hc q=>(hs.2 c ?_).trans q) (fun _ q=>q) fun _ _ q=>q
  rintro rfl
  rcases hc with rfl|hc
  ·rw [hfree] at e;cases e
  ·rw [hfree] at hc;cases hc
 rcases hx with hk|hk
 ·refine wpAny_storeName_local hk hn (fun h' hn' hs=> ?_) hcls
  obtain⟨oL,_,_,hoL,_⟩:=id hn
  refine h _ ⟨I.ok,I.os,I.bare,⟨fun b o e n hb hx=> ?_,fun b o e n hb hx=> ?_,I.base.free,fun b o e hx=> ?_,I.base.tups,I.base.frzs,I.base.tbls⟩,⟨_,hn',fun j y v' e1 e2 e3=> ?_⟩,fun y c e=> ?_,I.free,I.freeC,fun p hp=> ?_,tracked ⟨oL,hoL,I.free⟩ hs,by simpa using I.len⟩ ⟨_,hs,.inl rfl⟩
  ·exact(hs.2 b (ZE (Zw (Zk e) I.ok.above))).trans (I.base.keep b o e n hb hx)
  ·obtain⟨sl,e1⟩:=I.base.slot b o e n hb hx
   exact⟨sl,(hs.2 b (ZE (Zw (Zk e) I.ok.above))).trans e1⟩
  ·obtain⟨o',e1⟩:=I.base.there b o e hx
   exact⟨o',(hs.2 b (ZE (Zw (Zk e) I.ok.above))).trans e1⟩
  ·by_cases hj:j=i
   ·subst hj
    rw [hi] at e1;cases e1
    rw [Zu hiσ] at e2
    cases e2
    exact⟨u,r,.inl ⟨hk,by simp⟩⟩
   ·rw [Zt (Y6 hj)] at e2
    obtain⟨u',r',q⟩:=hl j y v' e1 e2 e3
    refine⟨u',r',?_⟩
    rcases q with ⟨k,e⟩|⟨k,c,e,z⟩
    ·refine .inl ⟨k,?_⟩
     have:y≠x:=fun e=>hj (zv2 hN e1 (e▸hi))
     simp [this,e]
    ·exact .inr ⟨k,c,e,z.sameBut hs (cne y c e)⟩
  ·obtain⟨w',z⟩:=I.cell y c e
   exact⟨w',z.sameBut hs (cne y c e)⟩
  ·obtain⟨e,n,ne,nf,d⟩:=I.pin p hp
   exact⟨(hs.2 p.1 ne).trans e,n,ne,nf,d⟩
 ·have hfn:X.fn x=true:=by
   rcases hf with z|z
   ·exact z
   ·rw [z] at hk;cases hk
  obtain⟨c,hc⟩:=I.ok.has x (.inl hk)
  obtain⟨w',z⟩:=I.cell x c hc
  refine wpAny_storeName_cell I.ok.kind hk hc z (fun h' hc' hs=> ?_)
  obtain⟨oc,hoc,hocd⟩:=id z
  refine h {s with heap:=h'} ⟨I.ok,I.os,I.bare,⟨fun b o e n hb hx=> ?_,fun b o e n hb hx=> ?_,I.base.free,fun b o e hx=> ?_,I.base.tups,I.base.frzs,I.base.tbls⟩,⟨m,hn.sameBut hs (Y6 (cne x c hc)),fun j y v' e1 e2 e3=> ?_⟩,fun y c' e=> ?_,I.free,I.freeC,fun p hp=> ?_,tracked ⟨oc,hoc,I.freeC x c hc⟩ hs,by simpa using I.len⟩ ⟨c,hs,.inr hc⟩
  ·exact(hs.2 b (ZE (Zw (Zk e) (I.ok.cab x c hfn hc)))).trans (I.base.keep b o e n hb hx)
  ·obtain⟨sl,e1⟩:=I.base.slot b o e n hb hx
   exact⟨sl,(hs.2 b (ZE (Zw (Zk e) (I.ok.cab x c hfn hc)))).trans e1⟩
  ·obtain⟨o',e1⟩:=I.base.there b o e hx
   exact⟨o',(hs.2 b (ZE (Zw (Zk e) (I.ok.cab x c hfn hc)))).trans e1⟩
  ·by_cases hj:j=i
   ·subst hj
    rw [hi] at e1;cases e1
    rw [Zu hiσ] at e2
    cases e2
    exact⟨u,r,.inr ⟨.inl hk,c,hc,hc'⟩⟩
   ·rw [Zt (Y6 hj)] at e2
    obtain⟨u',r',q⟩:=hl j y v' e1 e2 e3
    refine⟨u',r',?_⟩
    rcases q with q|⟨k,c',e,z'⟩
    ·exact .inl q
    ·refine .inr ⟨k,c',e,z'.sameBut hs ?_⟩
     rintro rfl
     exact hj (zv2 hN e1 (I.ok.inj _ _ _ e hc▸hi))
  ·by_cases hcc:c'=c
   ·subst hcc;exact⟨_,hc'⟩
   ·obtain⟨w2,z2⟩:=I.cell y c' e
    exact⟨w2,z2.sameBut hs hcc⟩
  ·obtain⟨e,n,ne,nf,d⟩:=I.pin p hp
   refine⟨(hs.2 p.1 ?_).trans e,n,ne,nf,d⟩
   intro q
   rw [q,hoc] at e
   have q':oc=p.2:=ZA e
   exact d w' (by rw [<-q'];exact hocd)
theorem zv3{M:Model}{A:Around}{E:Value->Shared->Prop}{i:Nat}{x:Str}{v:V}{u:Value}{Q:Unit->Shared->Prop}(I:Inv X pins σ H s)(hN:X.N.Nodup)(hi:X.N[i]? =some x)(hx:Loc X.env.scope x)(r:cG v u)
  (h:∀s',Inv X pins (σ.set i (some v)) H s'->Q () s') (hf:X.fn x=true\/X.env.scope.names.lookup x=some .local:=by first|exact .inl rfl|exact .inr rfl|assumption):wpAny M A (storeName X.env x u) Q E s:=
 yq9 I hN hi hx r (fun s' I' _=>h s' I') hf
theorem Inv.call'{s':Shared}{ch:List Addr}(I:Inv X pins σ H s)(ho:s'.os=s.os)(u:Un (frs X.stack) ch H H' s.heap s'.heap)(hok:HOk X.prog X.w H' s'.heap)(hg:AllBare s'.gens)
  (hch:∀b∈ch,(b∈X.ex\/X.s₀.heap.objs.size<=b)/\b≠X.env.locals/\(∀x c,X.env.cells.lookup x=some c->c≠b)/\∀p∈X.pn++pins,p.1≠b):Inv X pins σ H' s':=by
 obtain⟨h',g',d',t',o'⟩:=s'
 have e:o'=s.os:=ho
 subst e
 exact I.call (g':=g') (t':=t') (d':=d') u hok hg hch
end
abbrev XK:=Value->Option Addr->Hp->Prop
abbrev St:=List (Option V)
abbrev VK:=V->Hp->Prop
abbrev TE:=St->Hp->VK->Prop
abbrev TT:=St->Hp->(Bool->Hp->Prop)->Prop
abbrev TA:=St->Hp->(List V->Hp->Prop)->Prop
structure Ends where
 nx:St->Hp->Prop
 rt:VK
 bk:St->Hp->Prop:=fun _ _=>False
 ct:St->Hp->Prop:=fun _ _=>False
abbrev TS:=Ends->St->Hp->Prop
def EP(X:Cx)(pins:tzB)(σ:St)(Q:VK)(u:Value)(s':Shared):Prop:=∃v H',Inv X pins σ H' s'/\cG v u/\Q v H'
def TP(X:Cx)(pins:tzB)(σ:St)(Q:Bool->Hp->Prop)(b:Bool)(s':Shared):Prop:=∃H',Inv X pins σ H' s'/\Q b H'
def AP(X:Cx)(pins:tzB)(σ:St)(Q:List V->Hp->Prop)(us:List Value)(s':Shared):Prop:=∃vs H',Inv X pins σ H' s'/\bL vs us/\Q vs H'
def SP(X:Cx)(pins:tzB)(D:Ends)(f:Flow)(s':Shared):Prop:=
 match f with
 | .next=>∃σ' H',Inv X pins σ' H' s'/\D.nx σ' H'
 | .brk=>∃σ' H',Inv X pins σ' H' s'/\D.bk σ' H'
 | .cont=>∃σ' H',Inv X pins σ' H' s'/\D.ct σ' H'
 | .ret u=>∃v σ' H',Inv X pins σ' H' s'/\cG v u/\D.rt v H'
def PEd(X:Cx)(e:Expr)(t:TE):Prop:=
 ∀(pins:tzB) (s:Shared) (σ:St) (H:Hp) (Q:VK),Inv X pins σ H s->t σ H Q->wpAny (model X.prog X.w) X.A (eval e X.env) (EP X pins σ Q) X.xe s
structure PE(X:Cx)(e:Expr)(t:TE):Prop where
 go:PEd X e t
instance {X:Cx} {e:Expr} {t:TE}:CoeFun (PE X e t) fun _=>PEd X e t:=⟨PE.go⟩
def PTd(X:Cx)(e:Expr)(t:TT):Prop:=
 ∀(pins:tzB) (s:Shared) (σ:St) (H:Hp) (Q:Bool->Hp->Prop),Inv X pins σ H s->t σ H Q->wpAny (model X.prog X.w) X.A (isTrue e X.env (eval e X.env)) (TP X pins σ Q) X.xe s
structure PT(X:Cx)(e:Expr)(t:TT):Prop where
 go:PTd X e t
instance {X:Cx} {e:Expr} {t:TT}:CoeFun (PT X e t) fun _=>PTd X e t:=⟨PT.go⟩
def PWd(X:Cx)(e:Expr)(t:TT):Prop:=
 ∀(whole:Sem Value) (pins:tzB) (s:Shared) (σ:St) (H:Hp) (Q:Bool->Hp->Prop),Inv X pins σ H s->t σ H Q->wpAny (model X.prog X.w) X.A (isTrue e X.env whole) (TP X pins σ Q) X.xe s
structure PW(X:Cx)(e:Expr)(t:TT):Prop where
 go:PWd X e t
instance {X:Cx} {e:Expr} {t:TT}:CoeFun (PW X e t) fun _=>PWd X e t:=⟨PW.go⟩
theorem PW.pt{X:Cx}{e:Expr}{t:TT}(h:PW X e t):PT X e t:=⟨h _⟩
def PAd(X:Cx)(es:List Expr)(t:TA):Prop:=
 ∀(pos:Pos) (pins:tzB) (s:Shared) (σ:St) (H:Hp) (Q:List V->Hp->Prop),Inv X pins σ H s->t σ H Q->wpAny (model X.prog X.w) X.A (spliced (backTo pos (starEach es X.env))) (AP X pins σ Q) X.xe s
structure PA(X:Cx)(es:List Expr)(t:TA):Prop where
 go:PAd X es t
instance {X:Cx} {es:List Expr} {t:TA}:CoeFun (PA X es t) fun _=>PAd X es t:=⟨PA.go⟩
def PSd(X:Cx)(st:Stmt)(t:TS):Prop:=
 ∀(pins:tzB) (s:Shared) (σ:St) (H:Hp) (D:Ends),Inv X pins σ H s->t D σ H->wpAny (model X.prog X.w) X.A (exec st X.env) (SP X pins D) X.xe s
structure PS(X:Cx)(st:Stmt)(t:TS):Prop where
 go:PSd X st t
instance {X:Cx} {st:Stmt} {t:TS}:CoeFun (PS X st t) fun _=>PSd X st t:=⟨PS.go⟩
def xz1(X:Cx)(st:List Stmt)(t:TS):Prop:=
 ∀(pins:tzB) (s:Shared) (σ:St) (H:Hp) (D:Ends),Inv X pins σ H s->t D σ H->wpAny (model X.prog X.w) X.A (execs st X.env) (SP X pins D) X.xe s
structure PSs(X:Cx)(st:List Stmt)(t:TS):Prop where
 go:xz1 X st t
instance {X:Cx} {st:List Stmt} {t:TS}:CoeFun (PSs X st t) fun _=>xz1 X st t:=⟨PSs.go⟩
theorem thn{α:Type}{t:Sem α}{Q Q':α->Shared->Prop}{M:Model}{A:Around}{E:Value->Shared->Prop}{s:Shared}(h:wpAny M A t Q E s)(hQ:∀a s,Q a s->Q' a s):wpAny M A t Q' E s:=ZP h hQ fun _ _ x=>x
section
variable{X:Cx}
def xi6(i:Nat):TE:=fun σ H Q=>∃v,σ[i]? =some (some v)/\Q v H
def tC(v:V):TE:=fun _ H Q=>Q v H
theorem rM{i:Nat}{x:Str}{pos:Pos}(hN:X.N[i]? =some x)(hv:Vis X.env.scope x)(hd:NDb x:=by decide)(hcd:(x==("__classdict__":Str))=false:=by decide):PE X (.Name x pos) (xi6 i):=⟨by
 intro pins s σ H Q I h
 obtain⟨v,e,h⟩:=h
 obtain⟨m,hn,hl⟩:=I.loc
 obtain⟨u,r,l⟩:=hl i x v hN e hv
 have fin:EP X pins σ Q u s:=⟨v,H,I,r,h⟩
 rcases l with ⟨hk,hm⟩|⟨hk,c,hc,hcell⟩
 ·exact wpAny_Name (wpAny_loadName_local I.ok.kind hk hn hm fin) hd
 ·rcases hk with hk|hk
  ·exact wpAny_Name (wpAny_loadName_cell I.ok.kind hk hc hcell fin) hd
  ·exact wpAny_Name (wpAny_loadName_free I.ok.kind hk hc hcell fin hcd) hd⟩
theorem iF{i j pos}:PE X (.Constant (.int i) j pos) (tC (.int i)):=⟨fun _ _ _ H _ I h=>wpAny_Constant_int ⟨.int i,H,I.tok _,⟨_,rfl⟩,h⟩⟩
theorem xk1{b j pos}:PE X (.Constant (.bool b) j pos) (tC (.bl b)):=⟨fun _ _ _ H _ I h=>Constant_bool ⟨.bl b,H,I,rfl,h⟩⟩
theorem yr0{j pos}:PE X (.Constant .none j pos) (tC .non):=⟨fun _ _ _ H _ I h=>Constant_none ⟨.non,H,I,rfl,h⟩⟩
theorem yr1{x j pos}:PE X (.Constant (.str x) j pos) (tC (.str x)):=⟨fun _ _ _ H _ I h=>Calls.Constant_str ⟨.str x,H,I.tok _,⟨_,rfl⟩,h⟩⟩
def Gl(X:Cx)(x:Str):Prop:=X.env.kindOf x=some .globalImplicit
theorem rH{E:Value->Shared->Prop}{pins:tzB}{s:Shared}{σ:St}{H:Hp}{x:Str}{u:Value}{pos:Pos}{Q:Value->Shared->Prop}(I:Inv X pins σ H s)(hg:Gl X x)(hm:X.mg x=some u)(h:Q u s)
  (hd:NDb x:=by decide):wpAny (model X.prog X.w) X.A (eval (.Name x pos) X.env) Q E s:=
 YN I.ok.kind hg (Wi (by rw [I.ok.glob];exact I.mod.glob.keeps I.bk) hm h) hd
theorem uC{E:Value->Shared->Prop}{pins:tzB}{s:Shared}{σ:St}{H:Hp}{x:Str}{u:Value}{pos:Pos}{Q:Value->Shared->Prop}(I:Inv X pins σ H s)(hg:Gl X x)(hm:X.mg x=none)(hv:bootBuiltins x=some u)(h:Q u s)
  (hn:x≠"__name__":=by decide) (hd:NDb x:=by decide):wpAny (model X.prog X.w) X.A (eval (.Name x pos) X.env) Q E s:=by
 obtain⟨mb,h1,h2⟩:=I.mod.blt
 exact YN I.ok.kind hg (Calls.loadGlobal_builtin (by rw [I.ok.glob];exact I.mod.glob.keeps I.bk) hm (by rw [I.ok.blt];exact h1.keeps I.bk) ((h2 x hn).trans hv) h) hd
theorem xm5{x:Str}{v:V}{u:Value}{pos:Pos}(hg:Gl X x)(hm:X.mg x=some u)(r:cG v u)(hd:NDb x:=by decide):PE X (.Name x pos) (tC v):=
 ⟨fun _ _ _ H _ I h=>rH I hg hm ⟨v,H,I,r,h⟩ hd⟩
variable{a b:Expr}{ta tb:TE}{pos:Pos}
def PC(X:Cx)(op:CmpOp)(a b:Expr)(t:TE):Prop:=
 ∀(pins:tzB) (s:Shared) (σ:St) (H:Hp) (Q:VK),Inv X pins σ H s->t σ H Q->
  wpAny (model X.prog X.w) X.A (eval a X.env) (fun v s₁=>wpAny (model X.prog X.w) X.A (eval b X.env) (fun u s₂=>wpAny (model X.prog X.w) X.A (compareOp op v u) (EP X pins σ Q) X.xe s₂) X.xe s₁) X.xe s
def tB(t:TE):TT:=fun σ H Q=>t σ H fun x H1=>∃c,x= .bl c/\Q c H1
theorem xt7{op:CmpOp}{t:TE}(h:PC X op a b t)(h1:behindInMarks op b=false:=by first|exact nobehind _ (by decide) (by decide)|rfl):PT X (.Compare a [op] [b] pos) (tB t):=⟨by
 intro pins s σ H Q I hw
 refine wpAny_isTrue_Compare1 (thn (h pins s σ H _ I hw) fun v s1 h1=>thn h1 fun u s2 h2=>thn h2 fun c s3 ⟨x,H1,I1,r1,q1⟩=> ?_) h1
 obtain⟨d,rfl,q⟩:=q1
 cases r1
 exact ZU ⟨H1,I1,q⟩⟩
variable{tA tB':TT}{rest:List Expr}
def wg6(t u:TT):TT:=fun σ H Q=>t σ H fun c H1=>if c=true then u σ H1 Q else Q false H1
def tOr(t u:TT):TT:=fun σ H Q=>t σ H fun c H1=>if c=true then Q true H1 else u σ H1 Q
def wg7(t:TT):TT:=fun σ H Q=>t σ H fun c H1=>Q (!c) H1
theorem xm6(ha:PT X a tA):PW X (.BoolOp .And [a] pos) tA:=⟨by
 intro wh pins s σ H Q I h
 refine isTrue_and (thn (ha pins s σ H Q I h) fun c s1 e=> ?_)
 cases c with
 |true=>exact isTrue_and_nil e
 |false=>exact e⟩
theorem yr2(ha:PT X a tA):PW X (.BoolOp .Or [a] pos) tA:=⟨by
 intro wh pins s σ H Q I h
 refine isTrue_or (thn (ha pins s σ H Q I h) fun c s1 e=> ?_)
 cases c with
 |false=>exact isTrue_or_nil e
 |true=>exact e⟩
theorem xt8(ha:PT X a tA)(hb:PW X (.BoolOp .And (b::rest) pos) tB'):PW X (.BoolOp .And (a::b::rest) pos) (wg6 tA tB'):=⟨by
 intro wh pins s σ H Q I h
 refine isTrue_and (thn (ha pins s σ H _ I h) fun c s1 ⟨H1,I1,q1⟩=> ?_)
 cases c with
 |true=>exact hb wh pins s1 σ H1 Q I1 q1
 |false=>exact⟨H1,I1,q1⟩⟩
theorem xk2(ha:PT X a tA)(hb:PW X (.BoolOp .Or (b::rest) pos) tB'):PW X (.BoolOp .Or (a::b::rest) pos) (tOr tA tB'):=⟨by
 intro wh pins s σ H Q I h
 refine isTrue_or (thn (ha pins s σ H _ I h) fun c s1 ⟨H1,I1,q1⟩=> ?_)
 cases c with
 |true=>exact⟨H1,I1,q1⟩
 |false=>exact hb wh pins s1 σ H1 Q I1 q1⟩
theorem yr3(ha:PT X a tA):PT X (.UnaryOp .Not a pos) (wg7 tA):=⟨by
 intro pins s σ H Q I h
 exact isTrue_not (ha pins s σ H (fun c H1=>Q (!c) H1) I h)⟩
def we2(ta tb:TE):TE:=fun σ H Q=>ta σ H fun x H1=>∃c,x= .bl c/\if c=true then tb σ H1 Q else Q (.bl false) H1
def wg8(ta tb:TE):TE:=fun σ H Q=>ta σ H fun x H1=>∃c,x= .bl c/\if c=true then Q (.bl true) H1 else tb σ H1 Q
theorem yr4{op}{t:TE}(h:PE X a t):PE X (.BoolOp op [a] pos) t:=⟨fun pins s σ H Q I hw=>BoolOp_one (h pins s σ H Q I hw)⟩
theorem yr5(ha:PE X a ta)(hb:PE X (.BoolOp .And (b::rest) pos) tb):PE X (.BoolOp .And (a::b::rest) pos) (we2 ta tb):=⟨by
 intro pins s σ H Q I h
 refine BoolOp_and (thn (ha pins s σ H _ I h) fun v s1 ⟨x,H1,I1,r1,q1⟩=> ?_)
 obtain⟨c,rfl,q1⟩:=q1
 cases r1
 refine ZU ?_
 cases c with
 |true=>exact hb pins s1 σ H1 Q I1 q1
 |false=>exact⟨.bl false,H1,I1,rfl,q1⟩⟩
theorem wb7(ha:PE X a ta)(hb:PE X (.BoolOp .Or (b::rest) pos) tb):PE X (.BoolOp .Or (a::b::rest) pos) (wg8 ta tb):=⟨by
 intro pins s σ H Q I h
 refine BoolOp_or (thn (ha pins s σ H _ I h) fun v s1 ⟨x,H1,I1,r1,q1⟩=> ?_)
 obtain⟨c,rfl,q1⟩:=q1
 cases r1
 refine ZU ?_
 cases c with
 |false=>exact hb pins s1 σ H1 Q I1 q1
 |true=>exact⟨.bl true,H1,I1,rfl,q1⟩⟩
end
def SqL(K:tz0)(H:Hp)(a:Addr)(xs:List V):Prop:=
 Rd H a (.lst xs)\/
  ∃(o:Obj) (its:Array Value) (n:Nat),K.lookup a=some o/\o.cls= .type "list"/\o.dict=none/\o.data= .seq its n/\its.size<=sizeLine/\bL xs its.toList
def SqT(K:tz0)(H:Hp)(a:Addr)(xs:List V):Prop:=
 Rd H a (.tup xs)\/
  ∃(o:Obj) (its:Array Value) (n:Nat),K.lookup a=some o/\o.cls= .type "tuple"/\o.data= .seq its n/\its.size<=sizeLine/\bL xs its.toList
def wg9:Value->Option V
 | .none=>some .non
 | .bool b=>some (.bl b)
 | .int i _=>some (.int i)
 | .str x _=>some (.str x)
 | .bytes b _=>some (.byt b)
 | .float b _=>some (.flt b)
 | .ref a=>some (.ref a)
 | .type n=>some (.ty n)
 |_=>none
theorem cG.abs{x:V}{u:Value}(r:cG x u):wg9 u=some x:=by
 cases x with
 |non=>cases r;rfl
 |bl _=>cases r;rfl
 |int _=>obtain⟨t,rfl⟩:=r;rfl
 |str _=>obtain⟨t,rfl⟩:=r;rfl
 |byt _=>obtain⟨t,rfl⟩:=r;rfl
 |flt _=>obtain⟨t,rfl⟩:=r;rfl
 |ref _=>cases r;rfl
 |ty _=>cases r;rfl
theorem cG.inj{x y:V}{u:Value}(r:cG x u)(q:cG y u):x=y:=ZA (r.abs.symm.trans q.abs)
theorem bL.inj:∀{xs ys:List V} {us:List Value},bL xs us->bL ys us->xs=ys
 |_,_,_,.nil,.nil=>rfl
 |_,_,_,.cons r t,.cons r' t'=>by rw [r.inj r',bL.inj t t']
section
variable{X:Cx}{pins:tzB}{σ:St}{H:Hp}{s:Shared}{a:Addr}{xs ys:List V}
theorem Inv.list(I:Inv X pins σ H s)(h:SqL X.K H a xs):∃its:List Value,bL xs its/\PlainL s.heap a its.toArray/\xs.length<=sizeLine:=by
 rcases h with h|⟨o,its,n,hk,hc,hd,hs,hz,r⟩
 ·obtain⟨z,its,n,r,e⟩:=h.ok I.hok
  exact⟨its,r,⟨_,n,e,rfl,rfl,rfl⟩,z⟩
 ·refine⟨its.toList,r,⟨o,n,I.kIn a o hk,hc,hd,by simpa using hs⟩,?_⟩
  have e:=r.length
  simp only [Yi] at e
  omega
theorem Inv.tuple(I:Inv X pins σ H s)(h:SqT X.K H a xs):∃its:List Value,bL xs its/\IsTup s.heap a its.toArray/\xs.length<=sizeLine:=by
 rcases h with h|⟨o,its,n,hk,hc,hs,hz,r⟩
 ·obtain⟨z,its,r,p⟩:=h.ok I.hok
  exact⟨its,r,p,z⟩
 ·refine⟨its.toList,r,⟨o,I.kIn a o hk,hc,n,by simpa using hs⟩,?_⟩
  have e:=r.length
  simp only [Yi] at e
  omega
theorem Inv.list_inj(I:Inv X pins σ H s)(h:SqL X.K H a xs)(h':SqL X.K H a ys):xs=ys:=by
 obtain⟨its,r,⟨o,n,e,_,_,d⟩,_⟩:=I.list h
 obtain⟨its',r',⟨o',n',e',_,_,d'⟩,_⟩:=I.list h'
 rw [e] at e';cases e'
 rw [d] at d'
 injection d' with d1 _
 have:its=its':=by simpa using ZM Array.toList d1
 subst this
 exact r.inj r'
theorem Inv.tuple_inj(I:Inv X pins σ H s)(h:SqT X.K H a xs)(h':SqT X.K H a ys):xs=ys:=by
 obtain⟨its,r,⟨o,e,_,n,d⟩,_⟩:=I.tuple h
 obtain⟨its',r',⟨o',e',_,n',d'⟩,_⟩:=I.tuple h'
 rw [e] at e';cases e'
 rw [d] at d'
 injection d' with d1 _
 have:its=its':=by simpa using ZM Array.toList d1
 subst this
 exact r.inj r'
end
abbrev Cx.wish(X:Cx)(E:Value->Shared->Prop):Cx:={X with xe:=E}
abbrev Cx.nox(X:Cx):Cx:=X.wish fun _ _=>False
theorem Cx.Ok.wish{X:Cx}(ok:X.Ok)(E:Value->Shared->Prop):(X.wish E).Ok:=
 ⟨ok.mod,ok.kind,ok.glob,ok.blt,ok.above,ok.inj,ok.has,ok.cab,ok.hd,ok.frames,ok.stk,ok.exf,ok.bs,ok.bsz,ok.noex,ok.exfs,ok.funs,ok.frf⟩
theorem Cx.Ok.unwish{X:Cx}{E:Value->Shared->Prop}(ok:(X.wish E).Ok):X.Ok:=
 ⟨ok.mod,ok.kind,ok.glob,ok.blt,ok.above,ok.inj,ok.has,ok.cab,ok.hd,ok.frames,ok.stk,ok.exf,ok.bs,ok.bsz,ok.noex,ok.exfs,ok.funs,ok.frf⟩
section
variable{X:Cx}{pins:tzB}{σ:St}{H:Hp}{s:Shared}{E:Value->Shared->Prop}
theorem Inv.wish(I:Inv X pins σ H s)(E:Value->Shared->Prop):Inv (X.wish E) pins σ H s:=⟨I.ok.wish E,I.os,I.bare,I.base,I.loc,I.cell,I.free,I.freeC,I.pin,I.hok,I.len⟩
theorem Inv.unwish(I:Inv (X.wish E) pins σ H s):Inv X pins σ H s:=⟨I.ok.unwish,I.os,I.bare,I.base,I.loc,I.cell,I.free,I.freeC,I.pin,I.hok,I.len⟩
theorem SP.unwish{D:Ends}{f:Flow}{s':Shared}(h:SP (X.wish E) pins D f s'):SP X pins D f s':=by
 cases f with
 |next=>obtain⟨σ',H',I,q⟩:=h;exact⟨σ',H',I.unwish,q⟩
 |brk=>obtain⟨σ',H',I,q⟩:=h;exact⟨σ',H',I.unwish,q⟩
 |cont=>obtain⟨σ',H',I,q⟩:=h;exact⟨σ',H',I.unwish,q⟩
 |ret u=>obtain⟨v,σ',H',I,r,q⟩:=h;exact⟨v,σ',H',I.unwish,r,q⟩
theorem PT.nox{e:Expr}{t:TT}(h:PT X.nox e t):PT X e t:=⟨fun pins s σ H Q I hw=>
 ZP (h pins s σ H Q (I.wish _) hw) (fun _ _ ⟨H',I',q⟩=>⟨H',I'.unwish,q⟩) fun _ _ z=>False.elim z⟩
theorem PSs.nox{st:List Stmt}{t:TS}(h:PSs X.nox st t):PSs X st t:=⟨fun pins s σ H D I hw=>
 ZP (h pins s σ H D (I.wish _) hw) (fun _ _ q=>q.unwish) fun _ _ z=>False.elim z⟩
end
section
variable{X:Cx}{st:Stmt}{rest:List Stmt}{t u:TS}{e:Expr}{te:TE}{pos:Pos}
def we3:TS:=fun D σ H=>D.nx σ H
def wh0(t u:TS):TS:=fun D σ H=>t {D with nx:=u D} σ H
theorem ye9:PSs X [] we3:=⟨fun _ _ σ H _ I h=>YH ⟨σ,H,I,h⟩⟩
theorem kZ(h1:PS X st t)(h2:PSs X rest u):PSs X (st::rest) (wh0 t u):=⟨by
 intro pins s σ H D I h
 refine X4 (thn (h1 pins s σ H {D with nx:=u D} I h) fun f s1 q=> ?_)
 cases f with
 |next=>
  obtain⟨σ',H',I',q⟩:=q
  exact h2 pins s1 σ' H' D I' q
 |ret v=>exact q
 |brk=>exact q
 |cont=>exact q⟩
theorem yY(h1:PS X st t):PSs X [st] t:=⟨by
 intro pins s σ H D I h
 refine X4 (thn (h1 pins s σ H D I h) fun f s1 q=> ?_)
 cases f with
 |next=>exact YH q
 |ret v=>exact q
 |brk=>exact q
 |cont=>exact q⟩
theorem Inv.quiet{pins:tzB}{σ:St}{H:Hp}{s:Shared}(I:Inv X pins σ H s):interactive X.env=false:=by simp [interactive,I.ok.kind]
def we4(te:TE):TS:=fun D σ H=>te σ H fun _ H1=>D.nx σ H1
theorem xm7(he:PE X e te)(hs:swapsWith e none pos.line X.env=pure false:=by rfl):PS X (.Expr e pos) (we4 te):=⟨by
 intro pins s σ H D I h
 exact wpAny_Expr_any (thn (he pins s σ H _ I h) fun v s1 ⟨x,H1,I1,r1,q1⟩=>⟨σ,H1,I1,q1⟩) I.quiet hs⟩
def wh1(te:TE):TS:=fun D σ H=>te σ H D.rt
theorem xI(he:PE X e te):PS X (.Return (some e) pos) (wh1 te):=⟨by
 intro pins s σ H D I h
 exact wpAny_Return_some (thn (he pins s σ H _ I h) fun v s1 ⟨x,H1,I1,r1,q1⟩=>⟨x,σ,H1,I1,r1,q1⟩)⟩
def wh2(c:TT)(t u:TS):TS:=fun D σ H=>c σ H fun b H1=>if b=true then t D σ H1 else u D σ H1
theorem yk1{c:Expr}{a b:List Stmt}{tc:TT}(hc:PT X c tc)(ha:PSs X a t)(hb:PSs X b u):PS X (.If c a b pos) (wh2 tc t u):=⟨by
 intro pins s σ H D I h
 refine wpAny_If (thn (hc pins s σ H _ I h) fun d s1 ⟨H1,I1,q1⟩=> ?_)
 cases d with
 |true=>exact ha pins s1 σ H1 D I1 q1
 |false=>exact hb pins s1 σ H1 D I1 q1⟩
def xz2:TS:=fun _ _ _=>False
theorem xc0:PS X st xz2:=⟨fun _ _ _ _ _ _ h=>h.elim⟩
end
abbrev TG:=V->St->Hp->(St->Hp->Prop)->Prop
abbrev TGs:=List V->St->Hp->(St->Hp->Prop)->Prop
def PGd(X:Cx)(target:Expr)(t:TG):Prop:=
 ∀(pins:tzB) (s:Shared) (σ:St) (H:Hp) (v:V) (u:Value) (Q:St->Hp->Prop),Inv X pins σ H s->cG v u->t v σ H Q->
  wpAny (model X.prog X.w) X.A (assign target X.env u) (fun _ s'=>∃σ' H',Inv X pins σ' H' s'/\Q σ' H') X.xe s
structure PG(X:Cx)(target:Expr)(t:TG):Prop where
 go:PGd X target t
instance {X:Cx} {target:Expr} {t:TG}:CoeFun (PG X target t) fun _=>PGd X target t:=⟨PG.go⟩
def xz3(X:Cx)(ts:List Expr)(t:TGs):Prop:=
 ∀(pins:tzB) (s:Shared) (σ:St) (H:Hp) (vs:List V) (us:List Value) (Q:St->Hp->Prop),Inv X pins σ H s->bL vs us->t vs σ H Q->
  wpAny (model X.prog X.w) X.A (assignInOrder ((assignEach ts X.env).map (·.2)) us) (fun _ s'=>∃σ' H',Inv X pins σ' H' s'/\Q σ' H') X.xe s
structure PGs(X:Cx)(ts:List Expr)(t:TGs):Prop where
 go:xz3 X ts t
instance {X:Cx} {ts:List Expr} {t:TGs}:CoeFun (PGs X ts t) fun _=>xz3 X ts t:=⟨PGs.go⟩
abbrev xi7:=V->V->V->Hp->(Hp->Prop)->Prop
def xz4(X:Cx)(t:xi7):Prop:=
 ∀(pins:tzB) (s:Shared) (σ:St) (H:Hp) (o i v:V) (ov iv u:Value) (Q:Hp->Prop),Inv X pins σ H s->cG o ov->cG i iv->cG v u->t o i v H Q->
  wpAny (model X.prog X.w) X.A (setItem ov iv u) (fun _ s'=>∃H',Inv X pins σ H' s'/\Q H') X.xe s
section
variable{X:Cx}{pos:Pos}
def rA(i:Nat):TG:=fun v σ H Q=>Q (σ.set i (some v)) H
theorem iD{i:Nat}{x:Str}(hN:X.N.Nodup)(hi:X.N[i]? =some x)(hx:Loc X.env.scope x)(hf:X.fn x=true\/X.env.scope.names.lookup x=some .local:=by first|exact .inl rfl|exact .inr rfl|assumption):PG X (.Name x pos) (rA i):=⟨by
 intro pins s σ H v u Q I r h
 exact wpAny_assign_Name (zv3 I hN hi hx r (fun s' I'=>⟨_,H,I',h⟩) hf)⟩
def xz5:TGs:=fun vs σ H Q=>vs=[]/\Q σ H
def xl5(t:TG)(u:TGs):TGs:=fun vs σ H Q=>∃v r,vs=v::r/\t v σ H fun σ' H'=>u r σ' H' Q
theorem yf0:PGs X [] xz5:=⟨by
 intro pins s σ H vs us Q I r h
 obtain⟨e,h⟩:=h
 subst e
 cases r
 exact assignInOrder_nil ⟨σ,H,I,h⟩⟩
theorem oU{e:Expr}{es:List Expr}{t:TG}{u:TGs}(h1:PG X e t)(h2:PGs X es u)
  (hs:(assignEach (e::es) X.env).map (·.2)=assign e X.env::(assignEach es X.env).map (·.2):=by rfl):PGs X (e::es) (xl5 t u):=⟨by
 intro pins s σ H vs us Q I r h
 obtain⟨v,vr,e1,h⟩:=h
 subst e1
 cases r with
 |cons r rr=>
  rw [hs]
  refine assignInOrder_cons (thn (h1 pins s σ H _ _ _ I r h) fun _ s1 ⟨σ1,H1,I1,q1⟩=> ?_)
  exact h2 pins s1 σ1 H1 _ _ Q I1 rr q1⟩
def xi8(K:tz0)(n:Nat)(t:TGs):TG:=fun v σ H Q=>∃a xs,v= .ref a/\SqT K H a xs/\xs.length=n/\t xs σ H Q
theorem xt9{es:List Expr}{k:Nat}{t:TGs}{n:Nat}(hc:X.calm=true)(h:PGs X es t)
  (hn:(assignEach es X.env).length=n:=by rfl) (hst:(assignEach es X.env).findIdx? (·.1)=none:=by rfl):PG X (.Tuple es k pos) (xi8 X.K n t):=⟨by
 intro pins s σ H v u Q I r hw
 obtain⟨a,xs,e1,hq,hl,hw⟩:=hw
 subst e1
 cases r
 obtain⟨its,rv,ht,hz⟩:=I.tuple hq
 refine assign_Tuple_tuple (I.ok.hd hc) ht (by simp [hn,<-hl,rv.length]) hst fun h' hx=> ?_
 have I1:Inv X pins σ H {s with heap:=h'}:=I.kept (t':=s.toks) fun b o e=>hx b o (ZE (Zk e)) e
 exact h pins _ σ H xs _ Q I1 (by simpa using rv) hw⟩
def wh3(to ti:TE)(t:xi7):TG:=fun v σ H Q=>to σ H fun o H1=>ti σ H1 fun i H2=>t o i v H2 fun H3=>Q σ H3
theorem xu0{o i:Expr}{to ti:TE}{t:xi7}(ho:PE X o to)(hi:PE X i ti)(hs:xz4 X t)
  (ha:∀v,assign (.Subscript o i pos) X.env v=(do
   let ov<-holding [v] (eval o X.env)
   let iv<-holding [v,ov] (eval i X.env)
   standAt pos
   holding [v,ov,iv] (setItem ov iv v)
   release [v,ov,iv] []):=by intro _;rfl):PG X (.Subscript o i pos) (wh3 to ti t):=⟨by
 intro pins s σ H v u Q I r h
 rw [ha]
 refine Zg (YD (thn (ho pins s σ H _ I h) fun ov s1 ⟨x,H1,I1,r1,q1⟩=> ?_))
 refine Zg (YD (thn (hi pins s1 σ H1 _ I1 q1) fun iv s2 ⟨y,H2,I2,r2,q2⟩=> ?_))
 refine Zg (Wf (Zg (YD (thn (hs pins s2 σ H2 x y v ov iv u _ I2 r1 r2 r q2) fun _ s3 ⟨H3,I3,q3⟩=> ?_))))
 exact wpAny_release ⟨σ,H3,I3,q3⟩⟩
def xz6(te:TE)(g:TG):TS:=fun D σ H=>te σ H fun x H1=>g x σ H1 D.nx
theorem yr6{tg e:Expr}{te:TE}{g:TG}(he:PE X e te)(hg:PG X tg g)(hs:swapsWithSole [tg] e pos.line X.env=pure false:=by rfl)(hw:swappedStores [tg] e X.env=pure none:=by rfl)
  (h1:(assignEach [tg] X.env).map (·.2)=[assign tg X.env]:=by rfl):PS X (.Assign [tg] e pos) (xz6 te g):=⟨by
 intro pins s σ H D I h
 refine wpAny_Assign_stores (thn (he pins s σ H _ I h) fun v s1 ⟨x,H1,I1,r1,q1⟩=> ?_) hs hw
 rw [h1]
 exact thn (hg pins s1 σ H1 x v _ I1 r1 q1) fun _ s2 q=>q⟩
theorem rN{i:Nat}{x:Str}{e:Expr}{te:TE}{pos':Pos}(hN:X.N.Nodup)(hi:X.N[i]? =some x)(hx:Loc X.env.scope x)(he:PE X e te)(hs:swapsWith e (some (.Name x pos')) pos.line X.env=pure false:=by rfl)(hf:X.fn x=true\/X.env.scope.names.lookup x=some .local:=by first|exact .inl rfl|exact .inr rfl|assumption):
  PS X (.Assign [.Name x pos'] e pos) (xz6 te (rA i)):=⟨by
 intro pins s σ H D I h
 refine wpAny_Assign_Name (thn (he pins s σ H _ I h) fun v s1 ⟨y,H1,I1,r1,q1⟩=> ?_) hs
 exact zv3 I1 hN hi hx r1 (fun s2 I2=>⟨_,H1,I2,q1⟩) hf⟩
def xz7(c:TT)(tb:TS):TS:=fun D σ H=>∃W:Nat->St->Hp->Prop,(∃m,W m σ H)/\∀m σ H,W m σ H->
 c σ H fun b H1=>if b=true then ∃N:St->Hp->Prop,(∀σ' H',N σ' H'->∃m',m'<m/\W m' σ' H')/\tb {D with nx:=N,ct:=N,bk:=D.nx} σ H1 else D.nx σ H1
theorem xc1{c:Expr}{body:List Stmt}{tc:TT}{tb:TS}(hp:PassesOwn (model X.prog X.w) X.A X.env X.xe)(hc:PT X c tc)(hb:PSs X body tb):PS X (.While c body [] pos) (xz7 tc tb):=⟨by
 intro pins s σ H D I h
 obtain⟨W,⟨m0,w0⟩,turn⟩:=h
 refine wpAny_While (codeAny_whileLoop (fun n s'=>∃σ' H',Inv X pins σ' H' s'/\W n σ' H') ?_ m0 ⟨σ,H,I,w0⟩)
 rintro n s1 ⟨σ1,H1,I1,w1⟩
 refine Yf hp (thn (hc pins s1 σ1 H1 _ I1 (turn n σ1 H1 w1)) fun b s2 ⟨H2,I2,q2⟩=> ?_)
 cases b with
 | true=>
  obtain⟨N,hN,q2⟩:=q2
  rw [if_pos rfl]
  refine Yf hp (thn (hb pins s2 σ1 H2 _ I2 q2) fun f s3 q3=> ?_)
  cases f with
  |next=>
   obtain⟨σ3,H3,I3,n3⟩:=q3
   obtain⟨m',hm,w3⟩:=hN σ3 H3 n3
   exact⟨m',hm,σ3,H3,I3,w3⟩
  |cont=>
   obtain⟨σ3,H3,I3,n3⟩:=q3
   obtain⟨m',hm,w3⟩:=hN σ3 H3 n3
   exact⟨m',hm,σ3,H3,I3,w3⟩
  |brk=>exact q3
  |ret v=>exact q3
 |false=>
  rw [if_neg Z7]
  exact YH ⟨σ1,H2,I2,q2⟩⟩
end
structure It where
 go:Nat->Hp->Prop
 yld:Nat->Hp->V->Hp->Prop
 stop:Nat->Hp->Prop
def nX(X:Cx)(pins:tzB)(H:Hp)(b:Addr):Prop:=
 H b=none/\b≠X.env.locals/\b∉X.fs/\(b∈X.ex\/X.s₀.heap.objs.size<=b)/\(∀x c,X.env.cells.lookup x=some c->c≠b)/\∀p∈X.pn++pins,p.1≠b
theorem Inv.fpOk{X:Cx}{pins:tzB}{σ:St}{H H':Hp}{s:Shared}{b:Addr}(I:Inv X pins σ H s)(hb:s.heap.objs.size<=b)(hn:H' b=none):nX X pins H' b:=by
 refine⟨hn,XU (Zw I.lt hb),I.nofs hb,.inr (ZC I.sz hb),fun x c e z=> ?_,fun p hp z=> ?_⟩
 ·obtain⟨v,q⟩:=I.cell x c e
  exact absurd (Zw q.lt (by rw [z];exact hb)) (Y2 _)
 ·exact absurd (Zw (Zk (I.pin p hp).1) (by rw [z];exact hb)) (Y2 _)
structure Turn(P:Program)(w:World)(K:tz0)(tg:Expr)(J:It)(fp:List Addr)(it:Addr)(tn:Nat->Heap->Prop):Prop where
 mem:it∈fp
 obj:∀i h,tn i h->∀b∈fp,∃o,h.get? b=some o/\∀v,o.data≠ .cell v
 keep:∀i h h',tn i h->(∀b∈fp,∀o,h.get? b=some o->h'.get? b=some o)->tn i h'
 item:∀(X:Cx),X.prog=P->X.w=w->X.K=K->X.calm=true->∀(i:Nat) (pins:tzB) (s:Shared) (σ:St) (H:Hp) (E:Value->Shared->Prop),Inv X pins σ H s->(∀b∈fp,nX X pins H b)->tn i s.heap->J.go i H->
  wpAny (model P w) X.A (pyNext (.ref it)) (fun r s1=>∃u,r=some u/\
   wpAny (model P w) X.A (letOwnedTupleGo tg (.ref it) u) (fun _ s2=>∃x H',Inv X pins σ H' s2/\cG x u/\J.yld i H x H'/\tn (i+1) s2.heap/\∀b∈fp,H' b=none) E s1) E s
 done:∀(X:Cx),X.prog=P->X.w=w->X.K=K->X.calm=true->∀(i:Nat) (pins:tzB) (s:Shared) (σ:St) (H:Hp) (E:Value->Shared->Prop),Inv X pins σ H s->(∀b∈fp,nX X pins H b)->tn i s.heap->J.stop i H->
  wpAny (model P w) X.A (pyNext (.ref it)) (fun r s1=>r=none/\Inv X pins σ H s1) E s
 self:∀(A:Around) (i:Nat) (s:Shared) (Q:Value->Shared->Prop) (E:Value->Shared->Prop),tn i s.heap->Q (.ref it) s->wpAny (model P w) A (pyIter (.ref it)) Q E s
abbrev TI:=St->Hp->(It->Hp->Prop)->Prop
def PIE(X:Cx)(pins:tzB)(σ:St)(tg:Expr)(R:It->Hp->Prop)(itv:Value)(s2:Shared):Prop:=
 ∃(it:Addr) (fp:List Addr) (tn:Nat->Heap->Prop) (J:It) (H':Hp),itv= .ref it/\Inv X pins σ H' s2/\Turn X.prog X.w X.K tg J fp it tn/\tn 0 s2.heap/\(∀b∈fp,nX X pins H' b)/\R J H'
def PId(X:Cx)(tg iter:Expr)(wi:TI):Prop:=
 ∀(pins:tzB) (s:Shared) (σ:St) (H:Hp) (R:It->Hp->Prop),Inv X pins σ H s->wi σ H R->
  wpAny (model X.prog X.w) X.A (eval iter X.env) (fun v s1=>wpAny (model X.prog X.w) X.A (pyIter v) (PIE X pins σ tg R) X.xe s1) X.xe s
structure PI(X:Cx)(tg iter:Expr)(wi:TI):Prop where
 go:PId X tg iter wi
instance {X:Cx} {tg iter:Expr} {wi:TI}:CoeFun (PI X tg iter wi) fun _=>PId X tg iter wi:=⟨PI.go⟩
theorem zs7{M:Model}{A:Around}{E:Value->Shared->Prop}{s:Shared}{tg:Expr}{it:Addr}{u:Value}{o:Obj}{n:String}{vs:Array Value}{Q:Unit->Shared->Prop}(ho:s.heap.get? it=some o)(hc:o.cls= .type n)(hd:o.data= .fields vs)
  (hn:["enumerate","zip","dict_itemiterator","dict_reverseitemiterator","odict_iterator","itertools.zip_longest","itertools.pairwise"].contains n=false) (hQ:Q () s):wpAny M A (letOwnedTupleGo tg (.ref it) u) Q E s:=by
 unfold letOwnedTupleGo
 cases tg<;>first
  |exact ZF hQ
  | (cases u<;>first
    |exact ZF hQ
    | (refine Zg (wpAny_load ho ?_)
       rw [hc,hd]
       show wpAny M A (if (["enumerate","zip","dict_itemiterator","dict_reverseitemiterator","odict_iterator","itertools.zip_longest","itertools.pairwise"].contains n&&vs[0]? ==some (rawInt _))=true then _ else _) Q E s
       rw [if_neg (by intro h;rw [hn,XE] at h;cases h)]
       exact ZF hQ))
def Itl(K:tz0)(a:Addr):It:=
 ⟨fun i H=>∃xs x,SqL K H a xs/\xs[i]? =some x,fun i H x H'=>H'=H/\∀xs,SqL K H a xs->xs[i]? =some x,fun i H=>∃xs,SqL K H a xs/\xs.length<=i⟩
def Itt(K:tz0)(a:Addr):It:=
 ⟨fun i H=>∃xs x,SqT K H a xs/\xs[i]? =some x,fun i H x H'=>H'=H/\∀xs,SqT K H a xs->xs[i]? =some x,fun i H=>∃xs,SqT K H a xs/\xs.length<=i⟩
def Itr(lo:Int)(n:Nat):It:=⟨fun i _=>i<n,fun i H x H'=>H'=H/\x= .int (lo+i),fun i _=>n<=i⟩
theorem yr7{P:Program}{w:World}{K:tz0}{tg:Expr}(a it:Addr):Turn P w K tg (Itl K a) [it] it (fun i h=>h.IsListIter it a i) where
 mem:=by simp
 obj:=fun i h st b hb=>by
  have e:b=it:=by simpa using hb
  subst e
  obtain⟨o,e,c,d⟩:=st
  exact⟨o,e,fun v z=>by rw [d] at z;cases z⟩
 keep:=fun i h h' st k=>st.at fun o e=>k it (by simp) o e
 item:=by
  intro X hP hw hK hc i pins s σ H E I hf st hg
  subst hP hw hK
  obtain⟨xs,x,hq,hx⟩:=hg
  obtain⟨its,rv,p,hz⟩:=I.list hq
  obtain⟨u,hu,ru⟩:=rv.get hx
  obtain⟨f0,f1,f2,f3,f4,f5⟩:=hf it (by simp)
  refine wpAny_pyNext_list_item st p.isList (x:=u) (by simpa using hu) fun h' st' sb=> ?_
  have I1:Inv X pins σ H {s with heap:=h'}:=I.turned (t':=s.toks) (fun b o hb e=>(sb.2 b hb).trans e) f0 f1 f3 f4 f5
  obtain⟨o,e,c,d⟩:=id st'
  exact⟨u,rfl,zs7 (s:={s with heap:=h'}) e c d (by decide) ⟨x,H,I1,ru,⟨rfl,fun ys hy=>by rw [I.list_inj hy hq];exact hx⟩,st',fun b hb=>(hf b hb).1⟩⟩
 done:=by
  intro X hP hw hK hc i pins s σ H E I hf st hg
  subst hP hw hK
  obtain⟨xs,hq,hx⟩:=hg
  obtain⟨its,rv,p,hz⟩:=I.list hq
  obtain⟨f0,f1,f2,f3,f4,f5⟩:=hf it (by simp)
  have hl:=rv.length
  exact wpAny_pyNext_list_end (I.ok.hd hc) st p.isList (by simp;omega) fun h' eb=>⟨rfl,I.turned (t':=s.toks) (fun b o hb e=>eb b o hb e) f0 f1 f3 f4 f5⟩
 self:=fun _ _ _ _ _ st h=>wpAny_pyIter_listiter st h
theorem yk2{P:Program}{w:World}{K:tz0}{tg:Expr}(a it:Addr):Turn P w K tg (Itt K a) [it] it (fun i h=>h.IsTupleIter it a i) where
 mem:=by simp
 obj:=fun i h st b hb=>by
  have e:b=it:=by simpa using hb
  subst e
  obtain⟨o,e,c,d⟩:=st
  exact⟨o,e,fun v z=>by rw [d] at z;cases z⟩
 keep:=fun i h h' st k=>st.at fun o e=>k it (by simp) o e
 item:=by
  intro X hP hw hK hc i pins s σ H E I hf st hg
  subst hP hw hK
  obtain⟨xs,x,hq,hx⟩:=hg
  obtain⟨its,rv,p,hz⟩:=I.tuple hq
  obtain⟨u,hu,ru⟩:=rv.get hx
  obtain⟨f0,f1,f2,f3,f4,f5⟩:=hf it (by simp)
  refine wpAny_pyNext_tuple_item st (show s.heap.IsTuple a its.toArray from p) (x:=u) (by simpa using hu) fun h' st' sb=> ?_
  have I1:Inv X pins σ H {s with heap:=h'}:=I.turned (t':=s.toks) (fun b o hb e=>(sb.2 b hb).trans e) f0 f1 f3 f4 f5
  obtain⟨o,e,c,d⟩:=id st'
  exact⟨u,rfl,zs7 (s:={s with heap:=h'}) e c d (by decide) ⟨x,H,I1,ru,⟨rfl,fun ys hy=>by rw [I.tuple_inj hy hq];exact hx⟩,st',fun b hb=>(hf b hb).1⟩⟩
 done:=by
  intro X hP hw hK hc i pins s σ H E I hf st hg
  subst hP hw hK
  obtain⟨xs,hq,hx⟩:=hg
  obtain⟨its,rv,p,hz⟩:=I.tuple hq
  obtain⟨f0,f1,f2,f3,f4,f5⟩:=hf it (by simp)
  have hl:=rv.length
  exact wpAny_pyNext_tuple_end (I.ok.hd hc) st (show s.heap.IsTuple a its.toArray from p) (by simp;omega) fun h' eb=>⟨rfl,I.turned (t':=s.toks) (fun b o hb e=>eb b o hb e) f0 f1 f3 f4 f5⟩
 self:=fun _ _ _ _ _ st h=>wpAny_pyIter_tupleiter st h
theorem yk3{P:Program}{w:World}{K:tz0}{tg:Expr}(it:Addr)(lo:Int)(n:Nat):Turn P w K tg (Itr lo n) [it] it (fun i h=>IsRangeIter h it (lo+(i:Nat)*1) ((n:Int)-(i:Nat)) 1) where
 mem:=by simp
 obj:=fun i h st b hb=>by
  have e:b=it:=by simpa using hb
  subst e
  exact⟨_,st,fun v z=>by
   have z':Data.fields _=Data.cell v:=z
   cases z'⟩
 keep:=fun i h h' st k=>k it (by simp) _ st
 item:=by
  intro X hP hw hK hc i pins s σ H E I hf st hg
  subst hP hw hK
  obtain⟨f0,f1,f2,f3,f4,f5⟩:=hf it (by simp)
  have W:=Walks.range (prog:=X.prog) (w:=X.w) (I.ok.hd hc) it lo 1 n
  refine W.item i s _ _ hg st fun v h' tk hv st' kk=> ?_
  obtain⟨t,rfl⟩:=hv
  have I1:Inv X pins σ H {s with heap:=h',toks:=tk}:=I.turned (fun b o hb e=>kk b o (by simpa using hb) e) f0 f1 f3 f4 f5
  refine⟨_,rfl,zs7 (s:={s with heap:=h',toks:=tk}) (n:="range_iterator") st' rfl rfl (by decide) ⟨.int (lo+i),H,I1,⟨t,?_⟩,⟨rfl,rfl⟩,st',fun b hb=>(hf b hb).1⟩⟩
  rw [Int.mul_one]
 done:=by
  intro X hP hw hK hc i pins s σ H E I hf st hg
  subst hP hw hK
  obtain⟨f0,f1,f2,f3,f4,f5⟩:=hf it (by simp)
  exact wpAny_pyNext_range_end (I.ok.hd hc) st (by have:n<=i:=hg;omega) fun h' eb=>⟨rfl,I.turned (t':=s.toks) (fun b o hb e=>eb b o hb e) f0 f1 f3 f4 f5⟩
 self:=fun _ _ _ _ _ st h=>wpAny_pyIter_rangeiter st h
section
variable{X:Cx}{tg:Expr}
theorem zv4{pins:tzB}{σ:St}{H:Hp}{s:Shared}{R:It->Hp->Prop}{E:Value->Shared->Prop}{lo hi:Int}{t u v:Tok}{tk:Nat}(I:Inv X pins σ H s)(h1: -(2^62)<=lo)(h2:lo<2^62)(h3: -(2^62)<=hi)(h4:hi<2^62)
  (q:R (Itr lo (hi-lo).toNat) H):wpAny (model X.prog X.w) X.A (pyIter (.ref s.heap.objs.size)) (PIE X pins σ tg R) E {s with heap:=s.heap.push {cls:= .type "range",data:= .fields #[.int lo t,.int hi u,.int 1 v]},toks:=tk}:=by
 refine wpAny_pyIter_range (IsRange.new ..) (small_one h1 h2 h3 h4) ?_
 have I1:Inv X pins σ H {s with heap:=s.heap.push {cls:= .type "range",data:= .fields #[.int lo t,.int hi u,.int 1 v]},toks:=tk}:=I.kept fun b o e=>Ze _ e
 refine⟨(s.heap.push {cls:= .type "range",data:= .fields #[.int lo t,.int hi u,.int 1 v]}).objs.size,[(s.heap.push {cls:= .type "range",data:= .fields #[.int lo t,.int hi u,.int 1 v]}).objs.size],_,_,H,rfl,
  I1.kept (t':=tk) fun b o e=>Ze _ e,yk3 _ lo (hi-lo).toNat,?_,fun b hb=> ?_,q⟩
 ·have e1:lo+((0:Nat):Int)*1=lo:=by simp
  have e2:(((hi-lo).toNat:Nat):Int)-((0:Nat):Int)=Builtin.Range.rangeSize lo hi 1:=by rw [rangeSize_one];split<;>omega
  show IsRangeIter _ _ (lo+((0:Nat):Int)*1) ((((hi-lo).toNat:Nat):Int)-((0:Nat):Int)) 1
  rw [e1,e2]
  exact Zv _ rfl
 ·have e:b=(s.heap.push {cls:= .type "range",data:= .fields #[.int lo t,.int hi u,.int 1 v]}).objs.size:=by simpa using hb
  subst e
  exact I1.fpOk (Za _) (I1.hok.fresh (Za _))
def we5(ta:TA):TI:=fun σ H R=>ta σ H fun vs H1=>∃j:Int,vs=[.int j]/\ -(2^62)<=j/\j<2^62/\R (Itr 0 j.toNat) H1
def we6(ta:TA):TI:=fun σ H R=>ta σ H fun vs H1=>∃i j:Int,vs=[.int i,.int j]/\(-(2^62)<=i/\i<2^62/\ -(2^62)<=j/\j<2^62)/\R (Itr i (j-i).toNat) H1
theorem yr8{a:Expr}{ta:TA}{p pos:Pos}(hg:Gl X "range")(hm:X.mg "range"=none)(ha:PA X [a] ta)(hs:starEach [a] X.env=[(false,eval a X.env)]:=by rfl):PI X tg (.Call (.Name "range" p) [a] [] pos) (we5 ta):=⟨by
 intro pins s σ H R I h
 refine Call_ (uC I hg hm boot_range (Yd (thn (ha pos pins s σ H _ I h) fun us s1 ⟨vs,H1,I1,r1,q1⟩=> ?_) hs rfl))
 obtain⟨j,e,q1,q2,q⟩:=q1
 subst e
 cases r1 with
 |cons r rr=>
  cases rr
  obtain⟨t,rfl⟩:=r
  exact call_range_1 (zv4 I1 (by omega) (by omega) q1 q2 (by simpa using q))⟩
theorem yr9{a b:Expr}{ta:TA}{p pos:Pos}(hg:Gl X "range")(hm:X.mg "range"=none)(ha:PA X [a,b] ta)(hs:starEach [a,b] X.env=[(false,eval a X.env),(false,eval b X.env)]:=by rfl)(hs2:starEach [b] X.env=[(false,eval b X.env)]:=by rfl):
  PI X tg (.Call (.Name "range" p) [a,b] [] pos) (we6 ta):=⟨by
 intro pins s σ H R I h
 refine Call_ (uC I hg hm boot_range (Yd (thn (ha pos pins s σ H _ I h) fun us s1 ⟨vs,H1,I1,r1,q1⟩=> ?_) (by rw [hs,hs2]) (by rw [hs2];rfl)))
 obtain⟨i,j,e,⟨q1,q2,q3,q4⟩,q⟩:=q1
 subst e
 cases r1 with
 | cons r rr=>
  cases rr with
  |cons r' rr=>
   cases rr
   obtain⟨t,rfl⟩:=r
   obtain⟨t',rfl⟩:=r'
   exact call_range_2 (zv4 I1 q1 q2 q3 q4 q)⟩
def wh4(wi:TI)(g:TG)(tb:TS):TS:=fun D σ H=>wi σ H fun J H1=>∃W:Nat->Nat->St->Hp->Prop,(∃m,W 0 m σ H1)/\∀i m σ H,W i m σ H->
 (J.stop i H/\D.nx σ H)\/(J.go i H/\∃N:St->Hp->Prop,(∀σ' H',N σ' H'->∃m',m'<m/\W (i+1) m' σ' H')/\∀x H',J.yld i H x H'->g x σ H' fun σ2 H2=>tb {D with nx:=N,ct:=N,bk:=D.nx} σ2 H2)
def uS(fp:List Addr)(h:Heap):tzB:=fp.filterMap fun b=>(h.get? b).map fun o=>(b,o)
theorem qR{fp:List Addr}{h:Heap}{b:Addr}{o:Obj}(hb:b∈fp)(e:h.get? b=some o):(b,o)∈uS fp h:=Xh.mpr ⟨b,hb,by rw [e];rfl⟩
theorem ys0{fp:List Addr}{h:Heap}{p:Addr×Obj}(hp:p∈uS fp h):p.1∈fp/\h.get? p.1=some p.2:=by
 obtain⟨b,hb,e⟩:=Xh.mp hp
 cases q:h.get? b with
 |none=>rw [q] at e;cases e
 |some o=>
  rw [q] at e
  have e':(b,o)=p:=ZA e
  subst e'
  exact⟨hb,q⟩
theorem Inv.pinned{pins:tzB}{σ:St}{H:Hp}{s:Shared}{fp:List Addr}(I:Inv X pins σ H s)(hf:∀b∈fp,nX X pins H b)(ho:∀b∈fp,∃o,s.heap.get? b=some o/\∀v,o.data≠ .cell v):Inv X (pins++uS fp s.heap) σ H s:=
 I.pins_of fun p hp=>(Zq.mp hp).elim (fun z=>I.pin p (Z9 _ z)) fun z=>by
  obtain⟨hb,e⟩:=ys0 z
  obtain⟨f0,f1,f2,_⟩:=hf p.1 hb
  obtain⟨o,e',d⟩:=ho p.1 hb
  rw [e] at e';cases e'
  exact⟨e,f0,f1,f2,d⟩
theorem Inv.unpinned{pins pl:tzB}{σ:St}{H:Hp}{s:Shared}(I:Inv X (pins++pl) σ H s):Inv X pins σ H s:=I.pins_of fun p hp=>I.pin p (Z9 _ (Zm _ hp))
theorem zd8{iter:Expr}{body:List Stmt}{wi:TI}{g:TG}{tb:TS}{pos:Pos}(hp:PassesOwn (model X.prog X.w) X.A X.env X.xe)(hc:X.calm=true)(hi:PI X tg iter wi)(hg:PG X tg g)(hb:PSs X body tb)
  (hs:∀x,foldedSetIterable iter X.env x=pure x:=by intro _;rfl):PS X (.For tg iter body [] pos) (wh4 wi g tb):=⟨by
 intro pins s σ H D I h
 refine wpAny_For (thn (hi pins s σ H _ I h) fun v s1 h1=>thn h1 fun itv s2 h2=> ?_) hs
 obtain⟨it,fp,tn,J,H2,e,I2,T,st2,f2,W,⟨m0,w0⟩,turn⟩:=h2
 subst e
 have stat:∀{H':Hp},(∀b∈fp,H' b=none)->∀b∈fp,nX X pins H' b:=fun hn b hb=>⟨hn b hb,(f2 b hb).2⟩
 refine codeAny_forLoop_any (fun n s'=>∃i σ' H',Inv X pins σ' H' s'/\tn i s'.heap/\(∀b∈fp,H' b=none)/\W i n σ' H') ?_ m0 ⟨0,σ,H2,I2,st2,fun b hb=>(f2 b hb).1,w0⟩
 rintro n s3 ⟨i,σ3,H3,I3,st3,fr3,w3⟩
 rcases turn i n σ3 H3 w3 with ⟨stop,qn⟩|⟨go,N,hN,step⟩
 ·refine Yf hp (thn (T.done X rfl rfl rfl hc i pins s3 σ3 H3 X.xe I3 (stat fr3) st3 stop) fun r s4 ⟨hr,I4⟩=> ?_)
  subst hr
  exact YH ⟨σ3,H3,I4,qn⟩
 ·refine Yf hp (thn (T.item X rfl rfl rfl hc i pins s3 σ3 H3 X.xe I3 (stat fr3) st3 go) fun r s4 ⟨u,hr,h4⟩=> ?_)
  subst hr
  refine Yf hp (thn h4 fun _ s5 ⟨x,H5,I5,r5,y5,st5,fr5⟩=> ?_)
  have I5':=I5.pinned (stat fr5) (T.obj _ _ st5)
  refine Yf hp (thn (hg _ s5 σ3 H5 x u _ I5' r5 (step x H5 y5)) fun _ s6 ⟨σ6,H6,I6,q6⟩=> ?_)
  refine Yf hp (thn (hb _ s6 σ6 H6 _ I6 q6) fun f s7 q7=> ?_)
  have again:∀{σ7:St} {H7:Hp},Inv X (pins++uS fp s5.heap) σ7 H7 s7->N σ7 H7->∃m,m<n/\∃i σ' H',Inv X pins σ' H' s7/\tn i s7.heap/\(∀b∈fp,H' b=none)/\W i m σ' H':=fun {σ7 H7} I7 n7=>by
   obtain⟨m',hm,w7⟩:=hN σ7 H7 n7
   refine⟨m',hm,i+1,σ7,H7,I7.unpinned,T.keep _ _ _ st5 fun b hb o e=>(I7.pin (b,o) (Z9 _ (Z9 _ (qR hb e)))).1,fun b hb=> ?_,w7⟩
   obtain⟨o,e,d⟩:=T.obj _ _ st5 b hb
   exact(I7.pin (b,o) (Z9 _ (Z9 _ (qR hb e)))).2.1
  cases f with
  |next=>obtain⟨σ7,H7,I7,n7⟩:=q7;exact again I7 n7
  |cont=>obtain⟨σ7,H7,I7,n7⟩:=q7;exact again I7 n7
  |brk=>obtain⟨σ7,H7,I7,q7⟩:=q7;exact⟨σ7,H7,I7.unpinned,q7⟩
  |ret v=>obtain⟨x7,σ7,H7,I7,r7,q7⟩:=q7;exact⟨x7,σ7,H7,I7.unpinned,r7,q7⟩⟩
end
abbrev R2:=V->V->Hp->VK->Prop
def xz8(X:Cx)(f:Value->Value->Sem Value)(r:R2):Prop:=
 ∀(pins:tzB) (s:Shared) (σ:St) (H:Hp) (x y:V) (v u:Value) (Q:VK),Inv X pins σ H s->cG x v->cG y u->r x y H Q->
  wpAny (model X.prog X.w) X.A (f v u) (EP X pins σ Q) X.xe s
structure OpR(X:Cx)(f:Value->Value->Sem Value)(r:R2):Prop where
 go:xz8 X f r
instance {X:Cx} {f:Value->Value->Sem Value} {r:R2}:CoeFun (OpR X f r) fun _=>xz8 X f r:=⟨OpR.go⟩
def UnR(X:Cx)(f:Value->Sem Value)(r:V->Hp->VK->Prop):Prop:=
 ∀(pins:tzB) (s:Shared) (σ:St) (H:Hp) (x:V) (v:Value) (Q:VK),Inv X pins σ H s->cG x v->r x H Q->
  wpAny (model X.prog X.w) X.A (f v) (EP X pins σ Q) X.xe s
def xb3(X:Cx)(f:Value)(r:List V->Hp->VK->Prop):Prop:=
 ∀(pins:tzB) (s:Shared) (σ:St) (H:Hp) (xs:List V) (us:List Value) (Q:VK),Inv X pins σ H s->bL xs us->r xs H Q->
  wpAny (model X.prog X.w) X.A (call f us) (EP X pins σ Q) X.xe s
structure CallR(X:Cx)(f:Value)(r:List V->Hp->VK->Prop):Prop where
 go:xb3 X f r
instance {X:Cx} {f:Value} {r:List V->Hp->VK->Prop}:CoeFun (CallR X f r) fun _=>xb3 X f r:=⟨CallR.go⟩
def wh5(X:Cx)(r:V->Hp->(Bool->Hp->Prop)->Prop):Prop:=
 ∀(pins:tzB) (s:Shared) (σ:St) (H:Hp) (x:V) (v:Value) (Q:Bool->Hp->Prop),Inv X pins σ H s->cG x v->r x H Q->
  wpAny (model X.prog X.w) X.A (truthy v) (TP X pins σ Q) X.xe s
def tOp(r:R2)(ta tb:TE):TE:=fun σ H Q=>ta σ H fun x H1=>tb σ H1 fun y H2=>r x y H2 Q
def tUn(r:V->Hp->VK->Prop)(ta:TE):TE:=fun σ H Q=>ta σ H fun x H1=>r x H1 Q
def rI(C:Int->Int->Prop)(g:Int->Int->V):R2:=fun x y H Q=>∃i j,x= .int i/\y= .int j/\C i j/\Q (g i j) H
def rI0(g:Int->Int->V):R2:=fun x y H Q=>∃i j,x= .int i/\y= .int j/\Q (g i j) H
def rU(g:Int->V):V->Hp->VK->Prop:=fun x H Q=>∃i,x= .int i/\Q (g i) H
section
variable{X:Cx}{a b c:Expr}{ta tb tc:TE}{pos:Pos}
theorem xc2(ha:PE X a ta)(hb:PE X b tb){pins:tzB}{s:Shared}{σ:St}{H:Hp}{R:V->V->Hp->Prop}(I:Inv X pins σ H s)
  (h:ta σ H fun x H1=>tb σ H1 fun y H2=>R x y H2) {Q:Value->Shared->Prop} {f:Value->Value->Sem Value}
  (hf:∀v u s2 x y H2,Inv X pins σ H2 s2->cG x v->cG y u->R x y H2->wpAny (model X.prog X.w) X.A (f v u) Q X.xe s2):
  wpAny (model X.prog X.w) X.A (eval a X.env) (fun v s₁=>wpAny (model X.prog X.w) X.A (eval b X.env) (fun u s₂=>wpAny (model X.prog X.w) X.A (f v u) Q X.xe s₂) X.xe s₁) X.xe s:=by
 refine thn (ha pins s σ H _ I h) fun v s1 ⟨x,H1,I1,r1,q1⟩=> ?_
 refine thn (hb pins s1 σ H1 _ I1 q1) fun u s2 ⟨y,H2,I2,r2,q2⟩=> ?_
 exact hf v u s2 x y H2 I2 r1 r2 q2
theorem fY{op:Operator}{r:R2}(ho:OpR X (binaryOp op) r)(ha:PE X a ta)(hb:PE X b tb):PE X (.BinOp a op b pos) (tOp r ta tb):=⟨by
 intro pins s σ H Q I h
 exact wpAny_BinOp (xc2 ha hb I h fun v u s2 x y H2 I2 rx ry q=>ho pins s2 σ H2 x y v u Q I2 rx ry q)⟩
theorem wb8{op:UnaryOp}{r:V->Hp->VK->Prop}(ho:UnR X (unaryOp op) r)(ha:PE X a ta):PE X (.UnaryOp op a pos) (tUn r ta):=⟨by
 intro pins s σ H Q I h
 exact UnaryOp_ (thn (ha pins s σ H _ I h) fun v s1 ⟨x,H1,I1,r1,q1⟩=>ho pins s1 σ H1 x v Q I1 r1 q1)⟩
theorem opI{f:Value->Value->Sem Value}{C:Int->Int->Prop}{g:Int->Int->Int}
  (rule:∀(i j:Int) (t u:Tok) (s:Shared) (Q:Value->Shared->Prop) (E:Value->Shared->Prop),C i j->Q (.int (g i j) s.toks) {s with toks:=s.toks+1}->wpAny (model X.prog X.w) X.A (f (.int i t) (.int j u)) Q E s):
  OpR X f (rI C fun i j=> .int (g i j)):=⟨by
 intro pins s σ H x y v u Q I rx ry h
 obtain⟨i,j,rfl,rfl,hc,q⟩:=h
 obtain⟨t,rfl⟩:=rx
 obtain⟨t',rfl⟩:=ry
 exact rule i j t t' s _ _ hc ⟨.int (g i j),H,I.tok _,⟨_,rfl⟩,q⟩⟩
theorem xc3{f:Value->Value->Sem Value}{g:Int->Int->Int}
  (rule:∀(i j:Int) (t u:Tok) (s:Shared) (Q:Value->Shared->Prop) (E:Value->Shared->Prop),Q (.int (g i j) s.toks) {s with toks:=s.toks+1}->wpAny (model X.prog X.w) X.A (f (.int i t) (.int j u)) Q E s):
  OpR X f (rI0 fun i j=> .int (g i j)):=⟨by
 intro pins s σ H x y v u Q I rx ry h
 obtain⟨i,j,rfl,rfl,q⟩:=h
 obtain⟨t,rfl⟩:=rx
 obtain⟨t',rfl⟩:=ry
 exact rule i j t t' s _ _ ⟨.int (g i j),H,I.tok _,⟨_,rfl⟩,q⟩⟩
theorem yk4{f:Value->Value->Sem Value}{g:Int->Int->Bool}
  (rule:∀(i j:Int) (t u:Tok) (s:Shared) (Q:Value->Shared->Prop) (E:Value->Shared->Prop),Q (.bool (g i j)) s->wpAny (model X.prog X.w) X.A (f (.int i t) (.int j u)) Q E s):
  OpR X f (rI0 fun i j=> .bl (g i j)):=⟨by
 intro pins s σ H x y v u Q I rx ry h
 obtain⟨i,j,rfl,rfl,q⟩:=h
 obtain⟨t,rfl⟩:=rx
 obtain⟨t',rfl⟩:=ry
 exact rule i j t t' s _ _ ⟨.bl (g i j),H,I,rfl,q⟩⟩
def wh6(i j:Int):Prop:=0<j/\j<1073741824
def xi9(i j:Int):Prop:=(-(2^64)<i/\i<2^64)\/(-(2^64)<j/\j<2^64)
theorem xi9.ok{i j:Int}(h:xi9 i j):IntMulOk i j:=by
 rcases h with ⟨h1,h2⟩|⟨h1,h2⟩
 ·exact .of_left (intBits_le_64 h1 h2)
 ·exact .of_right (intBits_le_64 h1 h2)
theorem yk5(k:Nat):(0:Int)<=2^k:=by
 rw [two_pow_cast]
 exact Int.natCast_nonneg _
theorem uE:OpR X (binaryOp .Add) (rI0 fun i j=> .int (i+j)):=xc3 fun _ _ _ _ _ _ _ q=>add_int q
theorem xu1:OpR X (binaryOp .Sub) (rI0 fun i j=> .int (i-j)):=xc3 fun _ _ _ _ _ _ _ q=>sub_int q
theorem nL:OpR X (binaryOp .Mult) (rI xi9 fun i j=> .int (i*j)):=opI fun _ _ _ _ _ _ _ hc q=>mul_int q hc.ok
theorem yf1:OpR X (binaryOp .FloorDiv) (rI wh6 fun i j=> .int (i/j)):=opI fun i j _ _ _ _ _ hc q=>by
 have h1:(0:Int)<j:=hc.1
 have h2:j<1073741824:=hc.2
 exact floordiv_int (by omega) (by rw [XF i (by omega)];exact q) (.inl (PyProof.noPylong_small (by omega)))
theorem zd9:OpR X (binaryOp .Mod) (rI (fun _ j=>0<j) fun i j=> .int (i % j)):=opI fun i j _ _ _ _ _ hc q=>by
 have h1:(0:Int)<j:=hc
 exact mod_int' (by omega) (by rw [Int.fmod_eq_emod_of_nonneg i (by omega)];exact q)
theorem xu2:OpR X (binaryOp .RShift) (rI (fun _ j=>0<=j) fun i j=> .int (i/2^j.toNat)):=opI fun i j _ _ _ _ _ hc q=>
 rshift_int hc (by rw [XF i (yk5 _)];exact q)
theorem ys1:OpR X (binaryOp .BitAnd) (rI0 fun i j=> .int (Builtin.bitAnd i j)):=xc3 fun _ _ _ _ _ _ _ q=>and_int q
theorem unI{f:Value->Sem Value}{g:Int->Int}
  (rule:∀(i:Int) (t:Tok) (s:Shared) (Q:Value->Shared->Prop) (E:Value->Shared->Prop),Q (.int (g i) s.toks) {s with toks:=s.toks+1}->wpAny (model X.prog X.w) X.A (f (.int i t)) Q E s):
  UnR X f (rU fun i=> .int (g i)):=by
 intro pins s σ H x v Q I rx h
 obtain⟨i,rfl,q⟩:=h
 obtain⟨t,rfl⟩:=rx
 exact rule i t s _ _ ⟨.int (g i),H,I.tok _,⟨_,rfl⟩,q⟩
theorem xu3:UnR X (unaryOp .USub) (rU fun i=> .int (-i)):=unI fun _ _ _ _ _ q=>neg_int q
end
def xz9:V->V->Bool
 | .non,.non=>true| .non,.int _=>true| .int _,.non=>true| .non,.bl _=>true| .bl _,.non=>true| .non,.str _=>true| .str _,.non=>true
 | .int _,.int _=>true| .bl _,.bl _=>true| .str _,.str _=>true| .byt _,.byt _=>true
 | .int _,.str _=>true| .str _,.int _=>true| .bl _,.str _=>true| .str _,.bl _=>true
 |_,_=>false
def rEq:R2:=fun x y H Q=>xz9 x y=true/\Q (.bl (decide (x=y))) H
def rNe:R2:=fun x y H Q=>xz9 x y=true/\Q (.bl (!decide (x=y))) H
theorem yf2{i j:Int}:decide (V.int i=V.int j)=(i==j):=by
 rw [Yy]
 simp
theorem ys2{i j:Bool}:decide (V.bl i=V.bl j)=(i==j):=by
 rw [Yy]
 simp
theorem yf3{i j:Str}:decide (V.str i=V.str j)=(i==j):=by
 rw [Yy]
 simp
theorem yf4{i j:Array UInt8}:decide (V.byt i=V.byt j)=(i.toList==j.toList):=by
 rw [Yy]
 cases i
 cases j
 simp
section
variable{X:Cx}{a b c:Expr}{ta tb tc:TE}{pos:Pos}
theorem dE{pins:tzB}{σ:St}{H:Hp}{s:Shared}{Q:VK}{k k':Bool}(I:Inv X pins σ H s)(q:Q (.bl k) H)(e:k=k'):EP X pins σ Q (.bool k') s:=by
 subst e
 exact⟨.bl k,H,I,rfl,q⟩
theorem yk6:OpR X (compareOp .Eq) rEq:=⟨by
 intro pins s σ H x y v u Q I rx ry h
 obtain⟨hs,q⟩:=h
 cases x with
 |non=>
  cases rx
  cases y with
  |non=>cases ry;exact PySem.EqNone.eq_none_none (dE I q (by simp))
  |bl j=>cases ry;exact PySem.EqNone.eq_none_bool (dE I q (by simp))
  |int j=>obtain⟨t',rfl⟩:=ry;exact PySem.EqNone.eq_none_int (dE I q (by simp))
  |str j=>obtain⟨t',rfl⟩:=ry;exact PySem.EqNone.eq_none_str (dE I q (by simp))
  |_=>exact absurd (show false=true from hs) Z7
 |bl i=>
  cases rx
  cases y with
  |non=>cases ry;exact PySem.EqNone.eq_bool_none (dE I q (by simp))
  |bl j=>cases ry;exact eq_bool (dE I q ys2)
  |str j=>obtain⟨t',rfl⟩:=ry;exact PySem.EqMixed.eq_bool_str (dE I q (by simp))
  |_=>exact absurd (show false=true from hs) Z7
 |int i=>
  obtain⟨t,rfl⟩:=rx
  cases y with
  |non=>cases ry;exact PySem.EqNone.eq_int_none (dE I q (by simp))
  |int j=>obtain⟨t',rfl⟩:=ry;exact eq_int (dE I q yf2)
  |str j=>obtain⟨t',rfl⟩:=ry;exact PySem.EqMixed.eq_int_str (dE I q (by simp))
  |_=>exact absurd (show false=true from hs) Z7
 |str i=>
  obtain⟨t,rfl⟩:=rx
  cases y with
  |non=>cases ry;exact PySem.EqNone.eq_str_none (dE I q (by simp))
  |bl j=>cases ry;exact PySem.EqMixed.eq_str_bool (dE I q (by simp))
  |int j=>obtain⟨t',rfl⟩:=ry;exact PySem.EqMixed.eq_str_int (dE I q (by simp))
  |str j=>obtain⟨t',rfl⟩:=ry;exact eq_str (dE I q yf3)
  |_=>exact absurd (show false=true from hs) Z7
 |byt i=>
  obtain⟨t,rfl⟩:=rx
  cases y with
  |byt j=>obtain⟨t',rfl⟩:=ry;exact PySem.W.eq_bytes (dE I q yf4)
  |_=>exact absurd (show false=true from hs) Z7
 |_=>cases y<;>exact absurd (show false=true from hs) Z7⟩
theorem xk3:OpR X (compareOp .NotEq) rNe:=⟨by
 intro pins s σ H x y v u Q I rx ry h
 obtain⟨hs,q⟩:=h
 cases x with
 |non=>
  cases rx
  cases y with
  |non=>cases ry;exact PySem.EqNone.ne_none_none (dE I q (by simp))
  |bl j=>cases ry;exact PySem.EqNone.ne_none_bool (dE I q (by simp))
  |int j=>obtain⟨t',rfl⟩:=ry;exact PySem.EqNone.ne_none_int (dE I q (by simp))
  |str j=>obtain⟨t',rfl⟩:=ry;exact PySem.EqNone.ne_none_str (dE I q (by simp))
  |_=>exact absurd (show false=true from hs) Z7
 |bl i=>
  cases rx
  cases y with
  |non=>cases ry;exact PySem.EqNone.ne_bool_none (dE I q (by simp))
  |bl j=>cases ry;exact ne_bool (dE I q (ZM not ys2))
  |str j=>obtain⟨t',rfl⟩:=ry;exact PySem.EqMixed.ne_bool_str (dE I q (by simp))
  |_=>exact absurd (show false=true from hs) Z7
 |int i=>
  obtain⟨t,rfl⟩:=rx
  cases y with
  |non=>cases ry;exact PySem.EqNone.ne_int_none (dE I q (by simp))
  |int j=>obtain⟨t',rfl⟩:=ry;exact ne_int (dE I q (ZM not yf2))
  |str j=>obtain⟨t',rfl⟩:=ry;exact PySem.EqMixed.ne_int_str (dE I q (by simp))
  |_=>exact absurd (show false=true from hs) Z7
 |str i=>
  obtain⟨t,rfl⟩:=rx
  cases y with
  |non=>cases ry;exact PySem.EqNone.ne_str_none (dE I q (by simp))
  |bl j=>cases ry;exact PySem.EqMixed.ne_str_bool (dE I q (by simp))
  |int j=>obtain⟨t',rfl⟩:=ry;exact PySem.EqMixed.ne_str_int (dE I q (by simp))
  |str j=>obtain⟨t',rfl⟩:=ry;exact ne_str (dE I q (ZM not yf3))
  |_=>exact absurd (show false=true from hs) Z7
 |byt i=>
  obtain⟨t,rfl⟩:=rx
  cases y with
  |byt j=>obtain⟨t',rfl⟩:=ry;exact PySem.W.ne_bytes (dE I q (ZM not yf4))
  |_=>exact absurd (show false=true from hs) Z7
 |_=>cases y<;>exact absurd (show false=true from hs) Z7⟩
theorem wb9:OpR X (compareOp .Lt) (rI0 fun i j=> .bl (decide (i<j))):=yk4 fun _ _ _ _ _ _ _ q=>lt_int q
theorem wc0:OpR X (compareOp .LtE) (rI0 fun i j=> .bl (decide (i<=j))):=yk4 fun _ _ _ _ _ _ _ q=>le_int q
theorem wc1:OpR X (compareOp .Gt) (rI0 fun i j=> .bl (decide (j<i))):=yk4 fun _ _ _ _ _ _ _ q=>gt_int q
theorem wc2:OpR X (compareOp .GtE) (rI0 fun i j=> .bl (decide (j<=i))):=yk4 fun _ _ _ _ _ _ _ q=>ge_int q
theorem xu4:OpR X (compareOp .Is) (fun x y H Q=>y= .non/\Q (.bl (decide (x= .non))) H):=⟨by
 intro pins s σ H x y v u Q I rx ry h
 obtain⟨rfl,q⟩:=h
 cases ry
 refine is_none_gen (dE I q ?_)
 cases x<;>first
  |(cases rx;rfl)
  |(obtain⟨t,rfl⟩:=rx;rfl)⟩
theorem xm8:OpR X (compareOp .IsNot) (fun x y H Q=>y= .non/\Q (.bl (!decide (x= .non))) H):=⟨by
 intro pins s σ H x y v u Q I rx ry h
 obtain⟨rfl,q⟩:=h
 cases ry
 refine isnot_none_gen (dE I q ?_)
 cases x<;>first
  |(cases rx;rfl)
  |(obtain⟨t,rfl⟩:=rx;rfl)⟩
theorem bG(b:Expr){op:CmpOp}(h:op≠ .In:=by decide)(h2:op≠ .NotIn:=by decide):behindInMarks op b=false:=by
 have e1:(op==CmpOp.In)=false:=by cases op<;>first|rfl|exact absurd rfl h
 have e2:(op==CmpOp.NotIn)=false:=by cases op<;>first|rfl|exact absurd rfl h2
 cases b<;>simp [behindInMarks,e1,e2]
theorem xm9{op:CmpOp}{r:R2}(ho:OpR X (compareOp op) r)(ha:PE X a ta)(hb:PE X b tb)(hm:behindInMarks op b=false):PE X (.Compare a [op] [b] pos) (tOp r ta tb):=⟨by
 intro pins s σ H Q I h
 exact wpAny_Compare1 (xc2 ha hb I h fun v u s2 x y H2 I2 rx ry q=>ho pins s2 σ H2 x y v u Q I2 rx ry q) hm⟩
def xl6(t:TE):TT:=fun σ H Q=>t σ H fun x H'=>∃k,x= .bl k/\Q k H'
theorem yf5{op:CmpOp}{r:R2}(ho:OpR X (compareOp op) r)(ha:PE X a ta)(hb:PE X b tb)(hm:behindInMarks op b=false):PT X (.Compare a [op] [b] pos) (xl6 (tOp r ta tb)):=⟨by
 intro pins s σ H Q I h
 refine wpAny_isTrue_Compare1 (thn (ha pins s σ H _ I h) fun v s1 ⟨x,H1,I1,r1,q1⟩=>thn (hb pins s1 σ H1 _ I1 q1) fun u s2 ⟨y,H2,I2,r2,q2⟩=>
  thn (ho pins s2 σ H2 x y v u _ I2 r1 r2 q2) fun c s3 ⟨z,H3,I3,r3,k,e,q3⟩=> ?_) hm
 subst e
 cases r3
 exact ZU ⟨H3,I3,q3⟩⟩
def xb4(r r':R2)(ta tb tc:TE):TE:=fun σ H Q=>ta σ H fun x H1=>tb σ H1 fun y H2=>r x y H2 fun z H3=>∃k,z= .bl k/\
 (if k=true then tc σ H3 fun w' H4=>r' y w' H4 Q else Q (.bl false) H3)
theorem xc4{op op':CmpOp}{r r':R2}(ho:OpR X (compareOp op) r)(ho':OpR X (compareOp op') r')(ha:PE X a ta)(hb:PE X b tb)(hc:PE X c tc)
  (hm:lastMarks [op,op'] [b,c]=false:=by with_unfolding_all rfl):PT X (.Compare a [op,op'] [b,c] pos) (xl6 (xb4 r r' ta tb tc)):=⟨by
 intro pins s σ H Q I h
 refine isTrue_chain (thn (ha pins s σ H _ I h) fun v s1 ⟨x,H1,I1,r1,q1⟩=>test_link (thn (hb pins s1 σ H1 _ I1 q1) fun u s2 ⟨y,H2,I2,r2,q2⟩=>
  thn (ho pins s2 σ H2 x y v u _ I2 r1 r2 q2) fun d s3 ⟨z,H3,I3,r3,k,e,q3⟩=> ?_)) hm
 subst e
 cases r3
 refine ZU ?_
 cases k with
 |false=>
  obtain⟨k',e',q'⟩:=q3
  cases e'
  exact ite_ff ⟨H3,I3,q'⟩
 |true=>
  refine ite_tt (test_last (thn (hc pins s3 σ H3 _ I3 q3) fun w' s4 ⟨z',H4,I4,r4,q4⟩=>thn (ho' pins s4 σ H4 y z' u w' _ I4 r2 r4 q4) fun d' s5 ⟨z2,H5,I5,r5,k2,e2,q5⟩=> ?_))
  subst e2
  cases r5
  exact ZU ⟨H5,I5,q5⟩⟩
def xj0(K:tz0)(x:V)(H:Hp)(k:Bool):Prop:=
 match x with
 | .non=>k=false
 | .bl b=>k=b
 | .int i=>k=(i !=0)
 | .str y=>y.length<=sizeLine/\k=((y.length:Int) !=0)
 | .byt y=>y.size<=sizeLine/\k=((y.size:Int) !=0)
 | .ref p=>(∃xs,SqL K H p xs/\k= !xs.isEmpty)\/(∃xs,SqT K H p xs/\k= !xs.isEmpty)\/∃kvs,H p=some (.dK kvs)/\k= !kvs.isEmpty
 |_=>False
theorem yk7{U:Type}{kvs:List (U×V)}{vs:List (U×Value)}(r:KV kvs vs):(!vs.isEmpty)= !kvs.isEmpty:=by
 cases r<;>rfl
theorem ze0{xs:List V}{its:List Value}(r:bL xs its):(!its.toArray.isEmpty)= !xs.isEmpty:=by
 cases r<;>simp
theorem rO:(sizeLine:Nat)<2^63:=by rw [Ye];decide
theorem xu5:wh5 X (fun x H Q=>∃k,xj0 X.K x H k/\Q k H):=by
 intro pins s σ H x v Q I rx h
 obtain⟨k,e,q⟩:=h
 have hl:=rO
 have hs:sizeLine=16777216:=Ye
 cases x with
 |non=>
  cases rx
  have e':k=false:=e
  subst e'
  exact truthy_none ⟨H,I,q⟩
 |bl b=>
  cases rx
  have e':k=b:=e
  subst e'
  exact ZU ⟨H,I,q⟩
 |int i=>
  obtain⟨t,rfl⟩:=rx
  have e':k=(i !=0):=e
  subst e'
  exact PySem.P.truthy_int ⟨H,I,q⟩
 |str y=>
  obtain⟨t,rfl⟩:=rx
  obtain⟨hy,e'⟩:y.length<=sizeLine/\k=((y.length:Int) !=0):=e
  subst e'
  exact PySem.P.truthy_str (by omega) ⟨H,I.tok _,q⟩
 |byt y=>
  obtain⟨t,rfl⟩:=rx
  obtain⟨hy,e'⟩:y.size<=sizeLine/\k=((y.size:Int) !=0):=e
  subst e'
  exact PySem.W.truthy_bytes (by omega) ⟨H,I.tok _,q⟩
 | ref p=>
  cases rx
  have e':(∃xs,SqL X.K H p xs/\k= !xs.isEmpty)\/(∃xs,SqT X.K H p xs/\k= !xs.isEmpty)\/∃kvs,H p=some (.dK kvs)/\k= !kvs.isEmpty:=e
  rcases e' with ⟨xs,hx,e'⟩|⟨xs,hx,e'⟩|⟨kvs,hx,e'⟩
  ·subst e'
   obtain⟨its,r,pl,hz⟩:=I.list hx
   have hlen:=r.length
   exact wpAny_truthy_list pl.isList (by simp only [Zj];omega) ⟨H,I.tok _,by rw [ze0 r];exact q⟩
  ·subst e'
   obtain⟨its,r,pl,hz⟩:=I.tuple hx
   have hlen:=r.length
   exact truthy_tuple pl (by simp only [Zj];omega) ⟨H,I.tok _,by rw [ze0 r];exact q⟩
  ·subst e'
   obtain⟨hz,hS,vs,r,m⟩:kvs.length<=sizeLine/\(p==sysModules)=false/\∃vs,KV kvs vs/\s.heap.DictOf (eU X.prog X.w) p vs:=I.hok p _ hx
   have hlen:kvs.length=vs.length:=ZI r
   exact wpAny_truthy_dict hS m (by omega) ⟨H,I.tok _,by rw [yk7 r];exact q⟩
 |_=>exact(show False from e).elim
theorem zv5(ha:PE X a ta)(he:∀whole,isTrue a X.env whole=(do let v<-whole;standAt a.pos;holding [v] (truthy v))):
  PT X a (fun σ H Q=>ta σ H fun x H'=>∃k,xj0 X.K x H' k/\Q k H'):=⟨by
 intro pins s σ H Q I h
 exact isTrue_plain (thn (ha pins s σ H _ I h) fun v s1 ⟨x,H1,I1,r1,q1⟩=>xu5 pins s1 σ H1 x v Q I1 r1 q1) (he _)⟩
theorem yk8:OpR X (binaryOp .Add) (fun x y H Q=>∃i j,x= .str i/\y= .str j/\i.length+j.length<=sizeLine/\Q (.str (i++j)) H):=⟨by
 intro pins s σ H x y v u Q I rx ry h
 obtain⟨i,j,rfl,rfl,hz,q⟩:=h
 obtain⟨t,rfl⟩:=rx
 obtain⟨t',rfl⟩:=ry
 exact add_str (fun t' tk=>⟨.str (i++j),H,I.tok _,⟨_,rfl⟩,q⟩) hz⟩
theorem qS{x:V}{us:List Value}(r:bL [x] us):∃u,us=[u]/\cG x u:=by
 cases r with
 |cons r1 r2=>cases r2;exact⟨_,rfl,r1⟩
theorem xk4{x y:V}{us:List Value}(r:bL [x,y] us):∃u w',us=[u,w']/\cG x u/\cG y w':=by
 cases r with
 |cons r1 r2=>
  cases r2 with
  |cons r3 r4=>cases r4;exact⟨_,_,rfl,r1,r3⟩
theorem ys3(hc:X.calm=true):CallR X (.builtin "max") (fun xs H Q=>∃i j,xs=[.int i,.int j]/\Q (.int (if j>i then j else i)) H):=⟨by
 intro pins s σ H xs us Q I r h
 obtain⟨i,j,rfl,q⟩:=h
 obtain⟨u,w',rfl,⟨t,rfl⟩,⟨t',rfl⟩⟩:=xk4 r
 refine max_two_ints (I.ok.hd hc) fun h' tk k=>⟨_,H,I.kept k,?_,q⟩
 by_cases hj:j>i
 ·rw [if_pos hj,if_pos hj];exact⟨_,rfl⟩
 ·rw [if_neg hj,if_neg hj];exact⟨_,rfl⟩⟩
theorem ys4(hc:X.calm=true):CallR X (.builtin "min") (fun xs H Q=>∃i j,xs=[.int i,.int j]/\Q (.int (if j<i then j else i)) H):=⟨by
 intro pins s σ H xs us Q I r h
 obtain⟨i,j,rfl,q⟩:=h
 obtain⟨u,w',rfl,⟨t,rfl⟩,⟨t',rfl⟩⟩:=xk4 r
 refine min_two_ints (I.ok.hd hc) fun h' tk k=>⟨_,H,I.kept k,?_,q⟩
 by_cases hj:j<i
 ·rw [if_pos hj,if_pos hj];exact⟨_,rfl⟩
 ·rw [if_neg hj,if_neg hj];exact⟨_,rfl⟩⟩
end
structure ObjM(h:Heap)(x dx C:Addr)(mA:tzA):Prop where
 obj:h.get? x=some (PySem.W.instObj C dx)
 ns:h.Ns1 dx mA
 ne:dx≠x
theorem ys5{h:Heap}{dx:Addr}{mA:tzA}(n:h.Ns1 dx mA):∃od,h.get? dx=some od/\∀name,PySem.W.lookIn name od=some (mA name):=by
 obtain⟨o,es,ep,ho,hd,hk,_,hm⟩:=n
 refine⟨o,ho,fun name=> ?_⟩
 have e:=hm name
 unfold nsFind findBy at e
 rw [<-Array.find?_toList] at e
 unfold PySem.W.lookIn
 rw [hd]
 dsimp only
 split
 ·rename_i y q
  rw [q] at e
  exact ZM some e
 ·rename_i q
  rw [q] at e
  have a:es.toList.any (·.refKey)=false:=by
   rw [List.any_eq_false]
   intro y hy
   obtain⟨z,t,hkey⟩:=hk y (Array.mem_toList_iff.mp hy)
   simp [DictEntry.refKey,hkey]
  have a':¬es.toList.any (·.refKey)=true:=by rw [a];exact Z7
  rw [if_neg a']
  exact ZM some e
theorem ObjM.look{h:Heap}{x dx C:Addr}{mA:tzA}(I:ObjM h x dx C mA):∃od,PySem.W.InstAt h x (PySem.W.instObj C dx) C (some od)/\∀name,PySem.W.lookIn name od=some (mA name):=
 let ⟨od,ho,hl⟩:=ys5 I.ns
 ⟨od,⟨I.obj,rfl,rfl,ho⟩,hl⟩
section
variable{prog:Program}{w:World}{A:Around}{E:Value->Shared->Prop}{s:Shared}{K:tz0}{x dx C f:Addr}{mA:tzA}{name:Str}{v:Value}
theorem yf6{expr:Bool}{Q:Value->Shared->Prop}(X:K.In s.heap)(I:ObjM s.heap x dx C mA)(hg:PySem.W.plainGet K C name=true)(hh:PySem.W.hasDictIn K C=true)
  (ha:PySem.W.findIn K (.ref C) name=some none) (hv:mA name=some v) (hv':PySem.W.handedIn v=true) (h:Q v {s with toks:=s.toks+1}):
  wpAny (model prog w) A (getAttr (.ref x) name expr) Q E s:=by
 obtain⟨od,J,hl⟩:=I.look
 exact PySem.W.get_value X J (X8 hg).1 (PySem.W.findObj_own hh ha rfl (by rw [hl,hv])) hv' h
theorem zv6{pl:Sem Bool}{Q:Value×List Value->Shared->Prop}(X:K.In s.heap)(I:ObjM s.heap x dx C mA)(hg:PySem.W.plainGet K C name=true)
  (hf:PySem.W.findIn K (.ref C) name=some (some (.ref f))) (ht:PySem.W.isFn K (.ref f)=true) (hv:mA name=none) (h:Q (.ref f,[.ref x]) s):
  wpAny (model prog w) A (getMethod (.ref x) name pl) Q E s:=by
 obtain⟨od,J,hl⟩:=I.look
 exact PySem.W.method_fn X J (X8 hg).1 (X8 hg).2 hf (YE.mp ht) (by show(PySem.W.lookIn name od).map (·.isSome)=some false;rw [hl,hv];rfl) h
theorem xn0{ns:List Str}{Q:Unit->Shared->Prop}(X:K.In s.heap)(I:ObjM s.heap x dx C mA)
  (hs:PySem.W.findIn K (.ref C) "__setattr__"=some (some (.builtin "object.__setattr__"))) (hp:PySem.W.plainOver K C=true) (ht:PySem.W.takerIn K C name=some none) (hh:PySem.W.hasDictIn K C=true)
  (hw:PySem.Within mA ns) (hsz:ns.length<=sizeLine)
  (h:∀h',ObjM h' x dx C (fun y=>if y=name then some v else mA y)->Heap.SameBut dx s.heap h'->Q () {s with heap:=h',toks:=s.toks+2}):
  wpAny (model prog w) A (setAttr (.ref x) name v) Q E s:=by
 obtain⟨od,J,hl⟩:=I.look
 refine PySem.W.set_plain X J hs (PySem.W.osa_open (s:={s with toks:=s.toks+1}) (r:=none) X J hp ht fun b=> ?_)
 obtain⟨cd,hc,hd'⟩:=PySem.W.any_some hh
 have hx:s.heap.get? x=some ⟨.ref C,some dx,.plain,#[]⟩:=I.obj
 refine Zg (ZF (Zg (Zg (wpAny_loadPart hx (Zg (PySem.W.Looks.here (s:={s with toks:=s.toks+1}) (PySem.W.looks_clsIn X hc) ?_))))))
 rw [hd']
 refine ZF (a:=some dx) (Zg (ZF (Zg ?_)))
 refine wpAny_nsSet1 (s:={s with toks:=s.toks+1}) I.ns fun h' hn2 hs2=> ?_
 obtain⟨oD,esD,epD,hoD,hdD,hcD⟩:=hn2.count (PySem.Within.cons name v hw)
 refine Zg (wpAny_lookBehind hoD (by rw [hdD];exact pastItsLine_dict (ZC hcD (by rw [Z4];omega))) ?_)
 exact ZF (h _ ⟨(hs2.2 _ (Y6 I.ne)).trans I.obj,hn2,I.ne⟩ hs2)
theorem xc5{R:Result->Shared->Prop}{vs:List Value}{kw:List (Str×Value)}(X:K.In s.heap)(hm:PySem.W.makesIn K C=true)
  (hi:PySem.W.findIn K (.ref C) "__init__"=some (some (.ref f))) (hf:PySem.W.typeIn K (.ref f)=some (.type "function"))
  (h:codeAny (model prog w) (A.under (.builtin "type.__call__" ⟨.ref C::vs,kw⟩)) (.call (.ref f) ⟨.ref (s.heap.objs.size+1)::vs,kw⟩) (PySem.W.InitBack (s.heap.objs.size+1) R)
   {s with heap:=(s.heap.push PySem.W.emptyDict).push (PySem.W.instObj C s.heap.objs.size)}):
  codeAny (model prog w) A (.call (.ref C) ⟨vs,kw⟩) R s:=by
 obtain⟨hh,g,d,t,os⟩:=s
 exact PySem.W.make_core (PySem.W.makes_of X hm) (PySem.W.looks_findIn X hi) (fun self=>PySem.W.bind_fn X self hf) (.inl rfl) h
end
def gD(f:Str)(v:V):List (Str×V)->List (Str×V)
 |[]=>[(f,v)]
 |(g,x)::r=>if g=f then(g,v)::r else(g,x)::gD f v r
theorem za6(f g:Str)(v:V):∀fs:List (Str×V),(gD f v fs).lookup g=if g=f then some v else fs.lookup g
 | []=>by
  show List.lookup g [(f,v)]=_
  by_cases h:g=f
  ·have hb:(g==f)=true:=YE.mpr h
   simp only [List.lookup,hb,if_pos h]
  ·have hb:(g==f)=false:=Y7.mpr h
   simp only [List.lookup,hb,if_neg h]
 | (k,x)::r=>by
  have ih:=za6 f g v r
  rw [show gD f v ((k,x)::r)=(if k=f then(k,v)::r else(k,x)::gD f v r) from rfl]
  by_cases hk:k=f
  ·rw [if_pos hk]
   by_cases h:g=k
   ·have hb:(g==k)=true:=YE.mpr h
    simp only [List.lookup,hb,if_pos (h.trans hk)]
   ·have hb:(g==k)=false:=Y7.mpr h
    simp only [List.lookup,hb,if_neg (fun e:g=f=>h (e.trans hk.symm))]
  ·rw [if_neg hk]
   by_cases h:g=k
   ·have hb:(g==k)=true:=YE.mpr h
    simp only [List.lookup,hb,if_neg (fun e:g=f=>hk (h.symm.trans e))]
   ·have hb:(g==k)=false:=Y7.mpr h
    simp only [List.lookup,hb]
    exact ih
theorem xJ(f:Str)(v:V):∀fs:List (Str×V),f∈(gD f v fs).map (·.1)/\∀g,g∈fs.map (·.1)->g∈(gD f v fs).map (·.1)
 |[]=>⟨by simp [gD],fun g h=>by simp at h⟩
 | (k,x)::r=>by
  obtain⟨i1,i2⟩:=xJ f v r
  rw [show gD f v ((k,x)::r)=(if k=f then(k,v)::r else(k,x)::gD f v r) from rfl]
  by_cases hk:k=f
  ·rw [if_pos hk]
   subst hk
   exact⟨by simp,fun g h=>by simpa using h⟩
  ·rw [if_neg hk]
   refine⟨?_,fun g h=> ?_⟩
   ·rw [Z8]
    exact Z1 _ i1
   ·rw [Z8] at h|-
    rcases Z6.mp h with e|e
    ·exact Z6.mpr (.inl e)
    ·exact Z1 _ (i2 g e)
theorem za7(f:Str)(v:V):∀fs:List (Str×V),(gD f v fs).length<=fs.length+1
 |[]=>by simp [gD]
 |(k,x)::r=>by
  have ih:=za7 f v r
  rw [show gD f v ((k,x)::r)=(if k=f then(k,v)::r else(k,x)::gD f v r) from rfl]
  by_cases hk:k=f
  ·rw [if_pos hk,Z4,Z4];omega
  ·rw [if_neg hk,Z4,Z4];omega
theorem jU.some_of{v:V}{o:Option Value}(r:jU (some v) o):∃u,o=some u/\cG v u:=by
 cases o with
 |none=>exact(show False from r).elim
 |some u=>exact⟨u,rfl,r⟩
theorem jU.none_of{o:Option Value}(r:jU none o):o=none:=by
 cases o with
 |none=>rfl
 |some u=>exact(show False from r).elim
theorem zo0{v:V}{u:Value}(r:cG v u):PySem.W.handedIn u=true:=by
 cases v with
 |non=>cases(show u=Value.none from r);rfl
 |bl b=>cases(show u=Value.bool b from r);rfl
 |int i=>obtain⟨t,e⟩:=(show ∃t,u=Value.int i t from r);cases e;rfl
 |str x=>obtain⟨t,e⟩:=(show ∃t,u=Value.str x t from r);cases e;rfl
 |byt b=>obtain⟨t,e⟩:=(show ∃t,u=Value.bytes b t from r);cases e;rfl
 |flt b=>obtain⟨t,e⟩:=(show ∃t,u=Value.float b t from r);cases e;rfl
 |ref a=>cases(show u=Value.ref a from r);rfl
 |ty n=>cases(show u=Value.type n from r);rfl
section
variable{P:Program}{w:World}{H H':Hp}{h h':Heap}{a C dx:Addr}{fs fs':List (Str×V)}
theorem zj7(hok:HOk P w H h)(e:H a=some (.ins C dx fs)):∃mA,ObjM h a dx C mA/\(∀f,jU (fs.lookup f) (mA f))/\PySem.Within mA (fs.map (·.1))/\fs.length<=1000/\H dx=some (.own a):=by
 obtain⟨d,z,ne,ob,mA,n,r,q⟩:=(show dO P w H h a (.ins C dx fs) from hok a _ e)
 exact⟨mA,⟨ob,n,ne⟩,r,q,z,d⟩
end
structure Cls(K:tz0)(C:Addr):Prop where
 pg:PySem.W.plainGet K C Str.empty=true
 hd:PySem.W.hasDictIn K C=true
 po:PySem.W.plainOver K C=true
 sa:PySem.W.findIn K (.ref C) "__setattr__"=some (some (.builtin "object.__setattr__"))
theorem Cls.get{K:tz0}{C:Addr}(c:Cls K C)(f:Str):PySem.W.plainGet K C f=true:=c.pg
def cC(K:tz0)(C:Addr)(f:Str):Prop:=PySem.W.findIn K (.ref C) f=some none
theorem cC.taker{K:tz0}{C:Addr}{f:Str}(n:cC K C f):PySem.W.takerIn K C f=some none:=by
 unfold PySem.W.takerIn
 rw [show PySem.W.findIn K (.ref C) f=some none from n]
 rfl
structure Meth(K:tz0)(C:Addr)(m:Str)(f:Addr):Prop where
 at_:PySem.W.findIn K (.ref C) m=some (some (.ref f))
 fn:PySem.W.isFn K (.ref f)=true
 kp:PySem.W.keepIn K (.ref f)=true
section
variable{X:Cx}{pins:tzB}{σ:St}{H:Hp}{s:Shared}{a C dx:Addr}{fs:List (Str×V)}{f:Str}{v:V}{A:Around}{E:Value->Shared->Prop}
theorem yk9{b:Bool}{Q:Value->Shared->Prop}(I:Inv X pins σ H s)(e:H a=some (.ins C dx fs))(c:Cls X.K C)(n:cC X.K C f)(l:fs.lookup f=some v)
  (h:∀u s',Inv X pins σ H s'->cG v u->Q u s'):wpAny (model X.prog X.w) A (getAttr (.ref a) f b) Q E s:=by
 obtain⟨mA,O,r,_,_,_⟩:=zj7 I.hok e
 obtain⟨u,hu,ru⟩:=jU.some_of (v:=v) (o:=mA f) (by rw [<-l];exact r f)
 exact yf6 I.kIn O (c.get f) c.hd n hu (zo0 ru) (h u _ (I.tok _) ru)
theorem ze1{m:Str}{g:Addr}{pl:Sem Bool}{Q:Value×List Value->Shared->Prop}(I:Inv X pins σ H s)(e:H a=some (.ins C dx fs))(c:Cls X.K C)(k:Meth X.K C m g)(l:fs.lookup m=none)
  (h:Q (.ref g,[.ref a]) s):wpAny (model X.prog X.w) A (getMethod (.ref a) m pl) Q E s:=by
 obtain⟨mA,O,r,_,_,_⟩:=zj7 I.hok e
 have hn:mA m=none:=jU.none_of (by rw [<-l];exact r m)
 exact zv6 I.kIn O (c.get m) k.at_ k.fn hn h
theorem yl0{y:V}{u:Value}{Q:Unit->Shared->Prop}(I:Inv X pins σ H s)(e:H a=some (.ins C dx fs))(c:Cls X.K C)(n:cC X.K C f)(hl:fs.length<1000)(ry:cG y u)
  (h:∀s',Inv X pins σ (upd H a (.ins C dx (gD f y fs))) s'->Q () s'):wpAny (model X.prog X.w) A (setAttr (.ref a) f u) Q E s:=by
 obtain⟨mA,O,r,wi,_,ho⟩:=zj7 I.hok e
 have hz:(fs.map (·.1)).length<=sizeLine:=by rw [Zh,Ye];omega
 refine xn0 I.kIn O c.sa c.po n.taker c.hd wi hz fun h' O' sb=>h _ ?_
 have hd:∃o,h'.get? dx=some o:=let ⟨o,_,_,e',_⟩:=O'.ns;⟨o,e'⟩
 refine I.write (x:=a) (e:=dx) (by rw [e];exact True.intro) (.inr ho) (fun b q hb z=>(sb.2 b hb).trans z) hd ?_
 refine⟨by rw [aX O.ne];exact ho,?_,O.ne,O'.obj,_,O'.ns,fun g=> ?_,fun g hg=> ?_⟩
 ·have:=za7 f y fs;omega
 ·show jU ((gD f y fs).lookup g) (if g=f then some u else mA g)
  rw [za6]
  by_cases q:g=f
  ·rw [if_pos q,if_pos q];exact ry
  ·rw [if_neg q,if_neg q];exact r g
 ·by_cases q:g=f
  ·rw [q];exact(xJ f y fs).1
  ·refine(xJ f y fs).2 g (wi g fun z=>hg ?_)
   show(if g=f then some u else mA g)=none
   rw [if_neg q];exact z
theorem Inv.made(I:Inv X pins σ H s):Inv X pins σ (upd (upd H s.heap.objs.size (.own (s.heap.objs.size+1))) (s.heap.objs.size+1) (.ins C s.heap.objs.size []))
  {s with heap:=(s.heap.push PySem.W.emptyDict).push (PySem.W.instObj C s.heap.objs.size)}:=by
 have e1:(s.heap.push PySem.W.emptyDict).get? s.heap.objs.size=some PySem.W.emptyDict:=Zv s.heap rfl
 have e2:((s.heap.push PySem.W.emptyDict).push (PySem.W.instObj C s.heap.objs.size)).get? (s.heap.objs.size+1)=some (PySem.W.instObj C s.heap.objs.size):=by
  have:=Zv (s.heap.push PySem.W.emptyDict) (o:=PySem.W.instObj C s.heap.objs.size) rfl
  rwa [W8] at this
 have e3:(s.heap.push PySem.W.emptyDict).Ns s.heap.objs.size (fun _=>none):=⟨PySem.W.emptyDict,#[],_,e1,rfl,(fun e he=>absurd he (by simp)),fun _=>rfl⟩
 have I1:=I.laid (a:=s.heap.objs.size) (o:= .own (s.heap.objs.size+1)) (h':=s.heap.push PySem.W.emptyDict) (t':=s.toks) (fun b u q=>Ze _ q) (Za _) ⟨_,e1⟩
 refine I1.laid (a:=s.heap.objs.size+1) (o:= .ins C s.heap.objs.size []) (t':=s.toks) (fun b u q=>Ze _ q) (Nat.le_of_eq (W8 _ _)) ?_
 have ne:s.heap.objs.size≠s.heap.objs.size+1:=ZE (YO _)
 refine⟨by rw [aX ne,cK],ZL _,ne,e2,fun _=>none,(Heap.Ns1.of_empty e3).at fun o q=>Ze _ q,fun _=>True.intro,fun y hy=>absurd rfl hy⟩
theorem yf7{prog:Program}{w:World}{env:Env}{e:Expr}{f:Str}{pos:Pos}{s:Shared}{Q:Value->Shared->Prop}(hb:attributeBase e f env (eval e env)=eval e env)
  (h:wpAny (model prog w) A (eval e env) (fun o s₁=>wpAny (model prog w) A (getAttr o f true) Q E s₁) E s):wpAny (model prog w) A (eval (.Attribute e f pos) env) Q E s:=
 Attribute_any_ h (by rw [arm_eval_Attribute,hb])
end
def wh7(K:tz0)(ta:TE)(f:Str):TE:=fun σ H Q=>ta σ H fun x H1=>∃a C dx fs v,x= .ref a/\H1 a=some (.ins C dx fs)/\Cls K C/\cC K C f/\fs.lookup f=some v/\Q v H1
def wh8(K:tz0)(ta tv:TE)(f:Str):TS:=fun D σ H=>tv σ H fun y H1=>ta σ H1 fun x H2=>∃a C dx fs,x= .ref a/\H2 a=some (.ins C dx fs)/\Cls K C/\cC K C f/\fs.length<1000/\
 D.nx σ (upd H2 a (.ins C dx (gD f y fs)))
section
variable{X:Cx}{o e value:Expr}{f:Str}{pos pos' tpos:Pos}{ta tv:TE}
theorem xu6(he:PE X e ta)(hb:attributeBase e f X.env (eval e X.env)=eval e X.env):PE X (.Attribute e f pos) (wh7 X.K ta f):=⟨by
 intro pins s σ H Q I h
 refine yf7 hb (thn (he pins s σ H _ I h) fun u s1 ⟨x,H1,I1,rx,a,C,dx,fs,v,ex,ea,c,n,l,q⟩=> ?_)
 subst ex
 obtain rfl:u=Value.ref a:=rx
 exact yk9 I1 ea c n l fun u' s2 I2 ru=>⟨v,H1,I2,ru,q⟩⟩
theorem xu7(ha:PE X o ta)(hv:PE X value tv)(hs:swapsWith value (some (.Attribute o f pos')) pos.line X.env=pure false):PS X (.Assign [.Attribute o f pos'] value pos) (wh8 X.K ta tv f):=⟨by
 intro pins s σ H D I h
 refine plainObj_wpAny_Assign_Attribute (thn (hv pins s σ H _ I h) fun u s1 ⟨y,H1,I1,ry,q⟩=>thn (ha pins s1 σ H1 _ I1 q) fun ov s2 ⟨x,H2,I2,rx,a,C,dx,fs,ex,ea,c,n,l,q2⟩=> ?_) hs
 subst ex
 obtain rfl:ov=Value.ref a:=rx
 exact yl0 I2 ea c n l ry fun s3 I3=>⟨σ,_,I3,q2⟩⟩
end
section
variable{X:Cx}{pins:tzB}{σ:St}{H:Hp}{s:Shared}{A:Around}{E:Value->Shared->Prop}{Q:Value->Shared->Prop}{c:Value}{b:Bool}
inductive TyOf(K:tz0)(H:Hp):V->Value->Prop where
 |non:TyOf K H .non (.type "NoneType")
 |bl (x:Bool):TyOf K H (.bl x) (.type "bool")
 |int (i:Int):TyOf K H (.int i) (.type "int")
 |str (x:Str):TyOf K H (.str x) (.type "str")
 |flt (x:UInt64):TyOf K H (.flt x) (.type "float")
 |lst {a:Addr} {xs:List V} (e:H a=some (.lst xs)):TyOf K H (.ref a) (.type "list")
 |frz {a:Addr} {o:Obj} {xs:List V} (e:H a=some (.frz o (.lst xs))):TyOf K H (.ref a) (.type "list")
 |tup {a:Addr} {xs:List V} (e:H a=some (.tup xs)):TyOf K H (.ref a) (.type "tuple")
 |dK {a:Addr} {kvs:List (Key×V)} (e:H a=some (.dK kvs)):TyOf K H (.ref a) (.type "dict")
 |dT {a:Addr} {kvs:List (List Key×V)} (e:H a=some (.dT kvs)):TyOf K H (.ref a) (.type "dict")
 | ins {a C dx:Addr} {fs:List (Str×V)} (e:H a=some (.ins C dx fs)) (cl:Cls K C) (ha:PySem.W.findIn K (.ref C) "__class__"=some (some (.builtin "object.__class__")))
   (hn:PySem.W.specialIn K (.builtin "object.__class__") "__get__"=some (some (.builtin "getset_descriptor.__get__"))) (htk:PySem.W.takesIn K (.builtin "object.__class__")=some true)
   (hm:PySem.W.mroIn K C (.type "object")=some true):TyOf K H (.ref a) (.ref C)
end
structure Room(k:Nat)(A:Around):Prop where
 hd:A.handled=none
 dp:A.depth+3*k+5<recursionLimit
 un:A.units+16*k+200<cLine
theorem Room.mono{j k:Nat}{A:Around}(r:Room k A)(h:j<=k):Room j A:=⟨r.hd,by have:=r.dp;omega,by have:=r.un;omega⟩
theorem Room.deeper{k:Nat}{A:Around}(r:Room (k+1) A)(env:Env):Room k (A.deeper env):=
 ⟨r.hd,by have:=r.dp;show A.depth+1+3*k+5<_;omega,by have:=r.un;show A.units+3+16*k+200<_;omega⟩
theorem yl1{A:Around}{C:Addr}{us:List Value}{kw:List (Str×Value)}:(A.under (.builtin "type.__call__" ⟨.ref C::us,kw⟩)).depth=A.depth+1:=by
 first|rfl|simp [Around.under,Code.weight,Code.isCreation,Code.isGuard,Code.isCaller,Code.frames,Code.isFrame,guardIds]
theorem yl2{A:Around}{C:Addr}{us:List Value}{kw:List (Str×Value)}:(A.under (.builtin "type.__call__" ⟨.ref C::us,kw⟩)).units=A.units+1:=by
 first|rfl|simp [Around.under,Code.cUnits,Code.frames,Code.isFrame]
theorem Room.make{k:Nat}{A:Around}(r:Room (k+1) A)(C:Addr)(us:List Value)(kw:List (Str×Value)):Room k (A.under (.builtin "type.__call__" ⟨.ref C::us,kw⟩)):=
 ⟨r.hd,by have:=r.dp;rw [yl1];omega,by have:=r.un;rw [yl2];omega⟩
theorem Room.depth{k:Nat}{A:Around}(r:Room k A):A.depth<recursionLimit:=by have:=r.dp;omega
theorem Room.units{k:Nat}{A:Around}(r:Room k A):A.units+64<cLine:=by have:=r.un;omega
theorem Room.units0{k:Nat}{A:Around}(r:Room k A):A.units<cLine:=by have:=r.un;omega
def yp4:TA:=fun _ H Q=>Q [] H
def we7(ta:TE)(tr:TA):TA:=fun σ H Q=>ta σ H fun x H1=>tr σ H1 fun xs H2=>Q (x::xs) H2
abbrev StE(e:PySem.Expr)(es:List PySem.Expr)(X:Cx):Prop:=starEach (e::es) X.env=(false,eval e X.env)::starEach es X.env
section
variable{X:Cx}{e:Expr}{es:List Expr}{te:TE}{t:TA}{pos:Pos}
theorem nM:PA X [] yp4:=⟨fun _ _ _ _ H Q I h=>YZ ⟨[],H,I,.nil,h⟩⟩
theorem fU(ha:PE X e te)(hr:PA X es t)(hs:StE e es X:=by rfl):PA X (e::es) (we7 te t):=⟨by
 intro pos pins s σ H Q I h
 rw [hs]
 show wpAny _ _ (spliced ((false,eval e X.env)::backTo pos (starEach es X.env))) _ _ s
 refine YQ (thn (ha pins s σ H _ I h) fun u s1 ⟨x,H1,I1,r1,q1⟩=> ?_)
 exact thn (hr pos pins s1 σ H1 _ I1 q1) fun us s2 ⟨xs,H2,I2,r2,q2⟩=>⟨x::xs,H2,I2,.cons r1 r2,q2⟩⟩
def wh9(t:TA):TE:=fun σ H Q=>t σ H fun xs H1=>xs.length<=sizeLine/\∀p,H1 p=none->Q (.ref p) (upd H1 p (.tup xs))
def wi0(t:TA):TE:=fun σ H Q=>t σ H fun xs H1=>xs.length<=sizeLine/\∀p,H1 p=none->Q (.ref p) (upd H1 p (.lst xs))
theorem xu8{x1}(h:PA X es t):PE X (.Tuple es x1 pos) (wh9 t):=⟨by
 intro pins s σ H Q I hq
 refine wpAny_Tuple_spliced (thn (h pos pins s σ H _ I hq) fun us s1 ⟨xs,H1,I1,r,z,q⟩=>⟨by rw [<-r.length];exact z,?_⟩)
 have hf:H1 s1.heap.objs.size=none:=I1.hok.fresh (Za _)
 refine⟨.ref s1.heap.objs.size,upd H1 s1.heap.objs.size (.tup xs),I1.laid (t':=s1.toks) (fun b u e=>Ze _ e) (Za _) ?_,rfl,q _ hf⟩
 exact⟨z,us,r,⟨_,Zv _ rfl,rfl,_,rfl⟩⟩⟩
theorem xu9(h:PA X es t):PE X (.List es pos) (wi0 t):=⟨by
 intro pins s σ H Q I hq
 refine wpAny_List_spliced (thn (h pos pins s σ H _ I hq) fun us s1 ⟨xs,H1,I1,r,z,q⟩=>⟨by rw [<-r.length];exact z,?_⟩)
 have hf:H1 s1.heap.objs.size=none:=I1.hok.fresh (Za _)
 refine⟨.ref s1.heap.objs.size,upd H1 s1.heap.objs.size (.lst xs),I1.laid (t':=s1.toks) (fun b u e=>Ze _ e) (Za _) ?_,rfl,q _ hf⟩
 exact⟨z,us,0,r,Zv _ rfl⟩⟩
end
abbrev Sp:=List V->Hp->VK->XK->Prop
abbrev CXT:=List Env->Hp->Shared->XK->Value->Shared->Prop
structure Env0(P:Program)(w:World)(K:tz0)(mg:tzA)(base:Heap)(A:Around)(outer:List Env)(s:Shared)(H:Hp):Prop where
 frames:A.frames=some outer
 mod:Mod K mg base
 bs:∀b o,base.get? b=some o->s.heap.get? b=some o/\H b=none
 bsz:base.objs.size<=s.heap.objs.size
 funs:s.heap.FunFrames base outer
 frf:∀b∈frs outer,H b=none
 hok:HOk P w H s.heap
 bare:AllBare s.gens
def CE(outer:List Env)(P:Program)(w:World)(H:Hp)(s:Shared)(Q:VK)(u:Value)(s':Shared):Prop:=
 ∃v H',s'.os=s.os/\AllBare s'.gens/\Un (frs outer) [] H H' s.heap s'.heap/\HOk P w H' s'.heap/\cG v u/\Q v H'
def CR(CX:CXT)(outer:List Env)(P:Program)(w:World)(H:Hp)(s:Shared)(Q:VK)(E:XK)(r:Result)(s':Shared):Prop:=
 match r with
 | .ok (.ret u)=>CE outer P w H s Q u s'
 | .ok _=>False
 | .error e=>CX outer H s E e s'
structure FnOk(P:Program)(w:World)(K:tz0)(mg:tzA)(base:Heap)(CX:CXT)(k:Nat)(f:Addr)(fd:FuncData)(ps:List Str)(sp:Sp):Prop where
 len:∀vs H Q E,sp vs H Q E->vs.length=ps.length
 run:∀(A:Around) (outer:List Env) (s:Shared) (H:Hp) (args:Args) (us:List Value) (vs:List V) (Q:VK) (E:XK),Room k A->Env0 P w K mg base A outer s H->BindsTo s fd args (ps.zip us)->bL vs us->sp vs H Q E->
  codeAny (model P w) A (.call (.ref f) args) (CR CX outer P w H s Q E) s
theorem FnOk.mono{P:Program}{w:World}{K:tz0}{mg:tzA}{base:Heap}{CX:CXT}{j k:Nat}{f:Addr}{fd:FuncData}{ps:List Str}{sp:Sp}(F:FnOk P w K mg base CX j f fd ps sp)(h:j<=k):
  FnOk P w K mg base CX k f fd ps sp:=⟨F.len,fun A outer s H args us vs Q E hr=>F.run A outer s H args us vs Q E (hr.mono h)⟩
theorem FnOk.imp{P:Program}{w:World}{K:tz0}{mg:tzA}{base:Heap}{CX:CXT}{k:Nat}{f:Addr}{fd:FuncData}{ps:List Str}{sp sp':Sp}(F:FnOk P w K mg base CX k f fd ps sp)
  (h:∀vs H Q E,sp' vs H Q E->sp vs H Q E):FnOk P w K mg base CX k f fd ps sp':=
 ⟨fun vs H Q E q=>F.len vs H Q E (h _ _ _ _ q),fun A outer s H args us vs Q E hr he hb hv hs=>F.run A outer s H args us vs Q E hr he hb hv (h _ _ _ _ hs)⟩
theorem Env0.make{P:Program}{w:World}{K:tz0}{mg:tzA}{base:Heap}{A:Around}{outer:List Env}{s:Shared}{H:Hp}(e:Env0 P w K mg base A outer s H)(C:Addr)(us:List Value)(kw:List (Str×Value)):
  Env0 P w K mg base (A.under (.builtin "type.__call__" ⟨.ref C::us,kw⟩)) outer s H:=⟨by first|exact e.frames|(simpa [Around.under,Code.envs,Code.isFrame,pushEnvs] using e.frames),e.mod,e.bs,e.bsz,e.funs,e.frf,e.hok,e.bare⟩
section
variable{X:Cx}{pins:tzB}{σ:St}{H:Hp}{s s':Shared}
theorem Inv.env0(I:Inv X pins σ H s):Env0 X.prog X.w X.K X.mg X.base X.A X.stack s H:=
 ⟨I.ok.frames,I.ok.mod,I.bs,ZC I.ok.bsz I.sz,I.stack,I.stkFree,I.hok,I.bare⟩
theorem Inv.after{Q:VK}{u:Value}(I:Inv X pins σ H s)(h:CE X.stack X.prog X.w H s Q u s'):EP X pins σ Q u s':=by
 obtain⟨v,H',os,bare,un,hok,r,q⟩:=h
 obtain⟨hh,g,d,t,os'⟩:=s'
 obtain rfl:os'=s.os:=os
 exact⟨v,H',I.call (h':=hh) (g':=g) (d':=d) (t':=t) (ch:=[]) un hok bare (fun b z=>absurd z (by simp)),r,q⟩
end
def zt4(sp:Sp)(dvs:List V)(E:XK)(t:TA):TE:=fun σ H Q=>t σ H fun vs H1=>sp (vs++dvs) H1 Q E
def xl7(C:Addr)(m:Str)(sp:Sp)(dvs:List V)(E:XK)(ta:TE)(t:TA):TE:=fun σ H Q=>ta σ H fun x H1=>∃a dx fs,x= .ref a/\H1 a=some (.ins C dx fs)/\fs.lookup m=none/\
 t σ H1 fun vs H2=>sp (x::(vs++dvs)) H2 Q E
def we8(C:Addr)(sp:Sp)(dvs:List V)(E:XK)(t:TA):TE:=fun σ H Q=>t σ H fun vs H1=>∀x dx,H1 x=none->H1 dx=none->dx≠x->
 sp (.ref x::(vs++dvs)) (upd (upd H1 dx (.own x)) x (.ins C dx [])) (fun v H2=>v= .non/\Q (.ref x) H2) E
def kW(K:tz0)(fd:FuncData)(ps:List Str)(ds:List Value):Prop:=
 ∀(s:Shared) (us:List Value),K.In s.heap->(us++ds).length=ps.length->BindsTo s fd ⟨us,[]⟩ (ps.zip (us++ds))
theorem kW.all{K:tz0}{fd:FuncData}{ps:List Str}(h:∀us:List Value,us.length=ps.length->bindArgs fd ⟨us,[]⟩=pure (ps.zip us)):kW K fd ps []:=fun s us _ hl=>by
 rw [Zl] at hl|-
 exact .of_eq (h us hl)
def mR(CX:CXT)(X:Cx)(E:XK):Prop:=∀(pins:tzB) (σ:St) (H:Hp) (s:Shared) (e:Value) (s':Shared),Inv X pins σ H s->CX X.stack H s E e s'->X.xe e s'
abbrev BkE(pos:PySem.Pos)(es:List PySem.Expr)(X:Cx):Prop:=(backTo pos (starEach es X.env)).any (·.1)=false
section
variable{X:Cx}{CX:CXT}{k:Nat}{f C:Addr}{fd:FuncData}{ps:List Str}{sp:Sp}{dvs:List V}{ds:List Value}{E:XK}{x m:Str}{p pos apos:Pos}{e o:Expr}{es:List Expr}{ta:TE}{t:TA}
theorem xK{pins:tzB}{σ:St}{H:Hp}{s:Shared}{Q:VK}{us:List Value}{vs:List V}(F:FnOk X.prog X.w X.K X.mg X.base CX k f fd ps sp)(hr:Room k X.A)(hb:kW X.K fd ps ds)(hd:bL dvs ds)(hx:mR CX X E)
  (I:Inv X pins σ H s) (r:bL vs us) (h:sp (vs++dvs) H Q E):wpAny (model X.prog X.w) X.A (call (.ref f) us) (EP X pins σ Q) X.xe s:=by
 have r2:bL (vs++dvs) (us++ds):=r.append hd
 have hl:(us++ds).length=ps.length:=by rw [<-r2.length];exact F.len _ _ _ _ h
 refine wpAny_call (X9 (F.run X.A X.stack s H ⟨us,[]⟩ (us++ds) (vs++dvs) Q E hr I.env0 (hb s us I.kIn hl) r2 h) fun r s' hq=> ?_)
 cases r with
 |error e=>exact hx pins σ H s e s' I hq
 |ok fl=>
  cases fl with
  |ret u=>exact I.after hq
  |next=>exact False.elim hq
  |brk=>exact False.elim hq
  |cont=>exact False.elim hq
theorem yf8(F:FnOk X.prog X.w X.K X.mg X.base CX k f fd ps sp)(hr:Room k X.A)(hg:Gl X x)(hm:X.mg x=some (.ref f))(hk:PySem.W.keepIn X.K (.ref f)=true)(hb:kW X.K fd ps ds)(hd:bL dvs ds)(hx:mR CX X E)
  (ha:PA X (e::es) t) (hdb:NDb x:=by decide) (he:StE e es X:=by rfl) (hpl:BkE pos es X:=by rfl):
  PE X (.Call (.Name x p) (e::es) [] pos) (zt4 sp dvs E t):=⟨by
 intro pins s σ H Q I h
 refine Y3 (rH I hg hm ?_ hdb)
 refine Yn (h₀:=X.base) I.ok.mod.kin hk (thn (ha pos pins s σ H _ I h) fun us s1 ⟨vs,H1,I1,r,q⟩=>⟨I1.kIn,?_⟩) he hpl
 exact xK F hr hb hd hx I1 r q⟩
theorem xc6(F:FnOk X.prog X.w X.K X.mg X.base CX k f fd ps sp)(hr:Room k X.A)(hg:Gl X x)(hm:X.mg x=some (.ref f))(hk:PySem.W.keepIn X.K (.ref f)=true)(hb:kW X.K fd ps ds)(hd:bL dvs ds)(hx:mR CX X E)
  (hdb:NDb x:=by decide):PE X (.Call (.Name x p) [] [] pos) (zt4 sp dvs E yp4):=⟨by
 intro pins s σ H Q I h
 refine Y3 (rH I hg hm ?_ hdb)
 exact Wb I.kIn hk (xK (us:=[]) F hr hb hd hx I .nil h)⟩
theorem xn1{pl:Sem Bool}(he:PE X o ta)(c:Cls X.K C)(hm:Meth X.K C m f)(F:FnOk X.prog X.w X.K X.mg X.base CX k f fd ps sp)(hr:Room k X.A)(hb:kW X.K fd ps ds)(hd:bL dvs ds)(hx:mR CX X E)(ha:PA X (e::es) t)
  (hst:StE e es X:=by rfl) (hpl:BkE pos es X:=by rfl)
  (ht:eval (.Call (.Attribute o m apos) (e::es) [] pos) X.env=(do
   let ov<-eval o X.env
   standAt apos.atName
   let (f,first)<-holding [ov] (getMethod ov m pl)
   callWith pos f first (backTo pos (starEach (e::es) X.env)) (backToKw pos (keywordEach [] X.env))):=by rfl):
  PE X (.Call (.Attribute o m apos) (e::es) [] pos) (xl7 C m sp dvs E ta t):=⟨by
 intro pins s σ H Q I h
 refine X0 (pl:=pl) (thn (he pins s σ H _ I h) fun u s1 ⟨x,H1,I1,rx,a,dx,fs,ex,ea,l,q⟩=> ?_) ht
 subst ex
 obtain rfl:u=Value.ref a:=rx
 refine ze1 I1 ea c hm l ?_
 refine Yn (first:=[.ref a]) (h₀:=X.base) I.ok.mod.kin hm.kp (thn (ha pos pins s1 σ H1 _ I1 q) fun us s2 ⟨vs,H2,I2,r,q2⟩=>⟨I2.kIn,?_⟩) hst hpl
 exact xK (us:= .ref a::us) (vs:= .ref a::vs) F hr hb hd hx I2 (.cons rfl r) q2⟩
theorem xc7{pl:Sem Bool}(he:PE X o ta)(c:Cls X.K C)(hm:Meth X.K C m f)(F:FnOk X.prog X.w X.K X.mg X.base CX k f fd ps sp)(hr:Room k X.A)(hb:kW X.K fd ps ds)(hd:bL dvs ds)(hx:mR CX X E)
  (ht:eval (.Call (.Attribute o m apos) [] [] pos) X.env=(do
   let ov<-eval o X.env
   standAt apos.atName
   let (f,first)<-holding [ov] (getMethod ov m pl)
   callWith pos f first (backTo pos (starEach [] X.env)) (backToKw pos (keywordEach [] X.env))):=by rfl):
  PE X (.Call (.Attribute o m apos) [] [] pos) (xl7 C m sp dvs E ta yp4):=⟨by
 intro pins s σ H Q I h
 refine X0 (pl:=pl) (thn (he pins s σ H _ I h) fun u s1 ⟨x,H1,I1,rx,a,dx,fs,ex,ea,l,q⟩=> ?_) ht
 subst ex
 obtain rfl:u=Value.ref a:=rx
 refine ze1 I1 ea c hm l ?_
 exact Wb (first:=[.ref a]) I1.kIn hm.kp (xK (us:=[.ref a]) (vs:=[.ref a]) F hr hb hd hx I1 (.cons rfl .nil) q)⟩
structure Mk(K:tz0)(C f:Addr):Prop where
 makes:PySem.W.makesIn K C=true
 init:PySem.W.findIn K (.ref C) "__init__"=some (some (.ref f))
 fn:PySem.W.isFn K (.ref f)=true
 kp:PySem.W.keepIn K (.ref C)=true
theorem xc8{pins:tzB}{σ:St}{H:Hp}{s:Shared}{Q:VK}{us:List Value}{vs:List V}(M:Mk X.K C f)(F:FnOk X.prog X.w X.K X.mg X.base CX k f fd ps sp)(hr:Room (k+1) X.A)(hb:kW X.K fd ps ds)(hd:bL dvs ds)
  (hx:mR CX X E) (I:Inv X pins σ H s) (r:bL vs us)
  (h:∀x dx,H x=none->H dx=none->dx≠x->sp (.ref x::(vs++dvs)) (upd (upd H dx (.own x)) x (.ins C dx [])) (fun v H2=>v= .non/\Q (.ref x) H2) E):
  wpAny (model X.prog X.w) X.A (call (.ref C) us) (EP X pins σ Q) X.xe s:=by
 have hq:=h (s.heap.objs.size+1) s.heap.objs.size (I.hok.fresh (Nat.le_succ _)) (I.hok.fresh (Za _)) (ZE (YO _))
 have I2:=Inv.made (C:=C) I
 have r2:bL (V.ref (s.heap.objs.size+1)::(vs++dvs)) (Value.ref (s.heap.objs.size+1)::(us++ds)):= .cons rfl (r.append hd)
 have hl:(Value.ref (s.heap.objs.size+1)::us++ds).length=ps.length:=by
  have e:=r2.length
  rw [F.len _ _ _ _ hq] at e
  exact e.symm
 refine wpAny_call (xc5 (f:=f) I.kIn M.makes M.init (YE.mp M.fn) (X9 (F.run _ X.stack _ _ ⟨Value.ref (s.heap.objs.size+1)::us,[]⟩ (Value.ref (s.heap.objs.size+1)::(us++ds)) _ _ E (hr.make C us [])
  (I2.env0.make C us []) (hb _ (Value.ref (s.heap.objs.size+1)::us) I2.kIn hl) r2 hq) fun r s' hq'=> ?_))
 cases r with
 |error e=>exact hx pins σ _ _ e s' I2 hq'
 | ok fl=>
  cases fl with
  |ret u=>
   obtain⟨v,H',I3,rv,ev,q3⟩:=I2.after hq'
   subst ev
   exact⟨rv,⟨V.ref (s.heap.objs.size+1),H',I3,rfl,q3⟩⟩
  |next=>exact False.elim hq'
  |brk=>exact False.elim hq'
  |cont=>exact False.elim hq'
theorem xn2(M:Mk X.K C f)(F:FnOk X.prog X.w X.K X.mg X.base CX k f fd ps sp)(hr:Room (k+1) X.A)(hg:Gl X x)(hm:X.mg x=some (.ref C))(hb:kW X.K fd ps ds)(hd:bL dvs ds)(hx:mR CX X E)
  (ha:PA X (e::es) t) (hdb:NDb x:=by decide) (he:StE e es X:=by rfl) (hpl:BkE pos es X:=by rfl):
  PE X (.Call (.Name x p) (e::es) [] pos) (we8 C sp dvs E t):=⟨by
 intro pins s σ H Q I h
 refine Y3 (rH I hg hm ?_ hdb)
 refine Yn (h₀:=X.base) I.ok.mod.kin M.kp (thn (ha pos pins s σ H _ I h) fun us s1 ⟨vs,H1,I1,r,q⟩=>⟨I1.kIn,?_⟩) he hpl
 exact xc8 M F hr hb hd hx I1 r q⟩
end
structure FnScope(N P:List Str)(sc:Scope):Prop where
 kind:sc.kind= .function
 co:sc.isCoroutine=false
 gen:sc.isGenerator=false
 nd:N.Nodup
 pre:N.take P.length=P
 par:∀x∈P,sc.names.lookup x=some .local\/sc.names.lookup x=some .cell
 nofree:∀y∈sc.names,y.2≠ .free
theorem zo1{kindOf:Str->Option NameKind}{x:Str}:∀{binds:List (Str×Value)} {m:tzA},(∀v,(x,v)∉binds)->bindL kindOf binds m x=m x
 |[],_,_=>rfl
 | (n,v)::r,m,h=>by
  unfold bindL
  rw [zo1 fun w hw=>h w (Z1 _ hw)]
  split
  ·have:x≠n:=by rintro rfl;exact h v Z0
   simp [this]
  ·rfl
theorem zo2{kindOf:Str->Option NameKind}{x:Str}:∀{binds:List (Str×Value)} {m:tzA},(∀v,(x,v)∉binds)->bindC kindOf binds m x=m x
 |[],_,_=>rfl
 | (n,v)::r,m,h=>by
  unfold bindC
  rw [zo2 fun w hw=>h w (Z1 _ hw)]
  split
  ·rfl
  ·have:x≠n:=by rintro rfl;exact h v Z0
   simp [this]
theorem zo3{kindOf:Str->Option NameKind}{x:Str}{v:Value}:∀{P:List Str} {vs:List Value} {i:Nat} {m:tzA},P.Nodup->P[i]? =some x->vs[i]? =some v->kindOf x=some .local->
  bindL kindOf (P.zip vs) m x=some v
 |[],_,_,_,_,h,_,_=>by simp at h
 |_::_,[],_,_,_,_,h,_=>by simp at h
 |p::P,w::vs,0,m,nd,h1,h2,hk=>by
  simp at h1 h2;subst h1;subst h2
  show bindL kindOf ((p,w)::P.zip vs) m p=_
  unfold bindL
  rw [zo1 fun v hv=>(Zs.mp nd).1 (Xx hv).1,if_pos hk]
  simp
 |p::P,w::vs,i+1,m,nd,h1,h2,hk=>by
  show bindL kindOf ((p,w)::P.zip vs) m x=_
  unfold bindL
  exact zo3 (i:=i) (Zs.mp nd).2 (by simpa using h1) (by simpa using h2) hk
theorem zo4{kindOf:Str->Option NameKind}{x:Str}{v:Value}:∀{P:List Str} {vs:List Value} {i:Nat} {m:tzA},P.Nodup->P[i]? =some x->vs[i]? =some v->kindOf x≠some .local->
  bindC kindOf (P.zip vs) m x=some v
 |[],_,_,_,_,h,_,_=>by simp at h
 |_::_,[],_,_,_,_,h,_=>by simp at h
 |p::P,w::vs,0,m,nd,h1,h2,hk=>by
  simp at h1 h2;subst h1;subst h2
  show bindC kindOf ((p,w)::P.zip vs) m p=_
  unfold bindC
  rw [zo2 fun v hv=>(Zs.mp nd).1 (Xx hv).1,if_neg hk]
  simp
 |p::P,w::vs,i+1,m,nd,h1,h2,hk=>by
  show bindC kindOf ((p,w)::P.zip vs) m x=_
  unfold bindC
  exact zo4 (i:=i) (Zs.mp nd).2 (by simpa using h1) (by simpa using h2) hk
def start(N:List Str)(vs:List V):St:=vs.map some++List.replicate (N.length-vs.length) none
def iH(CX:CXT)(P:Program)(w:World)(K:tz0)(mg:tzA)(base:Heap)(N:List Str)(qual:Str)(scope:Scope)(f:Addr)(cd:Value)(A:Around)(outer:List Env)(s:Shared)(H:Hp)(E:XK):Cx where
 prog:=P
 w:=w
 K:=K
 mg:=mg
 base:=base
 A:=A.deeper (envOfC qual scope s.heap.objs.size f cd)
 N:=N
 s₀:=s
 H₀:=H
 env:=envOfC qual scope s.heap.objs.size f cd
 outer:=outer
 stack:=envOfC qual scope s.heap.objs.size f cd::outer
 ex:=[]
 calm:=true
 fn:=fun _=>true
 pn:=[]
 xe:=fun e s'=>wpAny (model P w) (A.deeper (envOfC qual scope s.heap.objs.size f cd)) (leaving (envOfC qual scope s.heap.objs.size f cd) e) (fun _ s''=>CX outer H s E e s'') (fun e' s''=>CX outer H s E e' s'') s'
theorem zv7{sc:Scope}{n:Nat}{x:Str}(h:sc.names.lookup x=some .cell):∃c,(cellsFrom n sc.names []).lookup x=some c:=by
 have q:=XV sc.names n [] (.inl h)
 exact Option.isSome_iff_exists.mp q
theorem ys6{CX:CXT}{P:Program}{w:World}{K:tz0}{mg:tzA}{base:Heap}{N ps:List Str}{qual:Str}{scope:Scope}{f:Addr}{cd:Value}{A:Around}{outer:List Env}{s s1:Shared}{H:Hp}{E:XK}{us:List Value}{vs:List V}
  (S:FnScope N ps scope) (hd:A.handled=none) (e0:Env0 P w K mg base A outer s H) (hl:vs.length=ps.length) (r:bL vs us)
  (x:InCallC s s.heap.objs.size (bindL (envOfC qual scope s.heap.objs.size f cd).kindOf (ps.zip us) fun _=>none) (cellsFrom (s.heap.objs.size+1) scope.names []) (bindC (envOfC qual scope s.heap.objs.size f cd).kindOf (ps.zip us) fun _=>none) s1):
  Inv (iH CX P w K mg base N qual scope f cd A outer s H E) [] (start N vs) H s1:=by
 have hpl:ps.length<=N.length:=by have:=ZM List.length S.pre;rw [Yh] at this;omega
 obtain⟨h1,tk,rfl,hk⟩:=x.done
 have noA:∀b:Addr,b∉(iH CX P w K mg base N qual scope f cd A outer s H E).ex:=fun b z=>absurd (show b∈([]:List Addr) from z) (by simp)
 refine⟨⟨e0.mod,S.kind,rfl,rfl,Za _,fun y z c h1 h2=> ?_,fun y hy=> ?_,fun y c _ h=> ?_,fun _=>hd,Around.frames_deeper e0.frames,.inr ⟨rfl,rfl⟩,fun b z=>absurd z (noA b),e0.bs,e0.bsz,fun b _ _=>noA b,fun b z=>absurd z (noA b),e0.funs,e0.frf⟩,
  rfl,e0.bare,Un.kept hk,⟨_,x.toInCall.ns,fun i y v h1 h2 h3=> ?_⟩,fun y c h=>⟨_,x.cell y c h⟩,e0.hok.fresh (Za _),fun y c h=> ?_,fun p hp=>absurd (show p∈([]:tzB) from hp) (by simp),e0.hok.kept hk,?_⟩
 ·exact name_of_addr x.apart (Y9 h1) (Y9 h2)
 ·have hy:scope.names.lookup y=some .cell\/scope.names.lookup y=some .free:=hy
  rcases hy with hy|hy
  ·exact zv7 hy
  ·exact absurd rfl (S.nofree _ (Y9 hy))
 ·exact YV (x.above y c (Y9 h))
 ·have hi:i<vs.length:=by
   unfold start at h2
   by_cases hi:i<vs.length
   ·exact hi
   ·rw [YF (by simpa using hi)] at h2
    rw [Yq] at h2
    split at h2<;>cases h2
  have ha:vs[i]? =some v:=by
   unfold start at h2
   rw [ZN (by simpa using hi),Zb] at h2
   cases e:vs[i]? with
   |none=>rw [e] at h2;cases h2
   |some a=>rw [e] at h2;cases h2;rfl
  obtain⟨u,hu,rv⟩:=r.get ha
  have hp:ps[i]? =some y:=by
   rw [<-S.pre,List.getElem?_take_of_lt (by omega)];exact h1
  have ndP:ps.Nodup:=by rw [<-S.pre];exact S.nd.sublist (List.take_sublist _ _)
  refine⟨u,rv,?_⟩
  rcases S.par y (ZG hp) with k|k
  ·exact .inl ⟨k,zo3 ndP hp hu k⟩
  ·obtain⟨c,e⟩:=zv7 (n:=s.heap.objs.size+1) k
   refine .inr ⟨.inl k,c,e,?_⟩
   have q:=x.cell y c e
   rw [zo4 ndP hp hu (by show scope.names.lookup y≠_;rw [k];decide)] at q
   exact q
 ·exact e0.hok.fresh (YV (x.above y c (Y9 h)))
 ·unfold start
  show _=N.length
  rw [Z5,Zh,X1]
  omega
theorem xk5{CX:CXT}{P:Program}{w:World}{K:tz0}{mg:tzA}{base:Heap}{k:Nat}{f:Addr}{name qual:Str}{params:Arguments}{body:List Stmt}{scope:Scope}{dV kV doc pm cdv ct oc:Value}{an od:Option Addr}
  {osl:Array (Option Value)} {N ps:List Str} {sp:Sp} (lk:K.lookup f=some ⟨oc,od,.func (PySem.W.fnOf name qual params body scope dV kV doc pm an cdv ct),osl⟩) (hcd:PySem.W.codeIn K cdv qual=true) (S:FnScope N ps scope)
  (len:∀vs H Q E,sp vs H Q E->vs.length=ps.length)
  (hbody:∀(A:Around) (outer:List Env) (s:Shared) (H:Hp) (vs:List V) (Q:VK) (E:XK),Room k (A.deeper (envOfC qual scope s.heap.objs.size f cdv))->sp vs H Q E->
   ∃t,PSs (iH CX P w K mg base N qual scope f cdv A outer s H E) body t/\t {nx:=fun _ H'=>Q .non H',rt:=Q} (start N vs) H):
  FnOk P w K mg base CX (k+1) f (PySem.W.fnOf name qual params body scope dV kV doc pm an cdv ct) ps sp:=by
 refine⟨len,fun A outer s H args us vs Q E hr e0 hb r hsp=> ?_⟩
 have hl:=len _ _ _ _ hsp
 have KX:K.In s.heap:=e0.mod.kin.keeps fun b o e=>(e0.bs b o e).1
 have lim:s.heap.NoLimit:=e0.mod.nolimit.keeps fun b o e=>(e0.bs b o e).1
 have hkind:∀y∈ps.zip us,scope.names.lookup y.1=some .local\/(scope.names.lookup y.1=some .cell/\((cellsFrom (s.heap.objs.size+1) scope.names []).lookup y.1).isSome=true):=fun⟨n,v⟩ hy=>by
  rcases S.par n (Xx hy).1 with q|q
  ·exact .inl q
  ·exact .inr ⟨q,XV _ _ _ (.inl q)⟩
 refine codeAny_call_function hr.depth (KX _ _ lk) rfl S.co S.gen rfl (PySem.W.codeRec_of KX hcd) (hb _ _ _ _ ?_)
 refine wpAny_newFunctionEnv_cells S.kind hkind fun env he s1 x=> ?_
 subst he
 refine⟨lim.keeps x.toInCall.keep,codeAny_func ?_⟩
 obtain⟨t,ht,hq⟩:=hbody A outer s H vs Q E (hr.deeper _) hsp
 have I:Inv (iH CX P w K mg base N qual scope f cdv A outer s H E) [] (start N vs) H s1:=ys6 S hr.hd e0 hl r x
 refine ZP (ht [] s1 (start N vs) H _ I hq) (fun fl s' hs=> ?_) fun e s' hs=>hs
 have fin:∀{σ':St} {H':Hp} {v:V} {u:Value},Inv (iH CX P w K mg base N qual scope f cdv A outer s H E) [] σ' H' s'->cG v u->Q v H'->CE outer P w H s Q u s':=
  fun {σ' H' v u} J rv q=>⟨v,H',J.os,J.bare,J.base,J.hok,rv,q⟩
 cases fl with
 |ret u=>
  obtain⟨v,σ',H',J,rv,q⟩:=hs
  exact fin J rv q
 |next=>
  obtain⟨σ',H',J,q⟩:=hs
  exact fin (v:=V.non) (u:=Value.none) J rfl q
 |brk=>
  obtain⟨_,_,_,q⟩:=hs
  exact False.elim q
 |cont=>
  obtain⟨_,_,_,q⟩:=hs
  exact False.elim q
section
variable{X:Cx}{x:Str}{p pos:Pos}{e:Expr}{es:List Expr}{t:TA}{id T:String}{r:List V->Hp->VK->Prop}
def tCB(r:List V->Hp->VK->Prop)(t:TA):TE:=fun σ H Q=>t σ H fun vs H1=>r vs H1 Q
theorem rP(hc:CallR X (.builtin id) r)(hg:Gl X x)(hm:X.mg x=none)(hv:bootBuiltins x=some (.builtin id))(ha:PA X (e::es) t)(hn:x≠"__name__":=by decide)(hdb:NDb x:=by decide)
  (he:StE e es X:=by rfl) (hpl:BkE pos es X:=by rfl):PE X (.Call (.Name x p) (e::es) [] pos) (tCB r t):=⟨by
 intro pins s σ H Q I h
 refine Y3 (uC I hg hm hv ?_ hn hdb)
 exact Xq (thn (ha pos pins s σ H _ I h) fun us s1 ⟨vs,H1,I1,r1,q1⟩=>hc pins s1 σ H1 vs us Q I1 r1 q1) he hpl⟩
theorem ys7(hc:CallR X (.type T) r)(hg:Gl X x)(hm:X.mg x=none)(hv:bootBuiltins x=some (.type T))(ha:PA X (e::es) t)(hn:x≠"__name__":=by decide)(hdb:NDb x:=by decide)
  (he:StE e es X:=by rfl) (hpl:BkE pos es X:=by rfl):PE X (.Call (.Name x p) (e::es) [] pos) (tCB r t):=⟨by
 intro pins s σ H Q I h
 refine Y3 (uC I hg hm hv ?_ hn hdb)
 exact Yd (thn (ha pos pins s σ H _ I h) fun us s1 ⟨vs,H1,I1,r1,q1⟩=>hc pins s1 σ H1 vs us Q I1 r1 q1) he hpl⟩
end
end L2
namespace HT
open PySem PyProof.Rows
def lexLt:List Int->List Int->Bool
 |[],[]=>false
 |[],_::_=>true
 |_::_,[]=>false
 |x::xs,y::ys=>if x=y then lexLt xs ys else decide (x<y)
theorem yl3(x y:Int)(xs ys:List Int):lexLt (x::xs) (y::ys)=if x=y then lexLt xs ys else decide (x<y):=rfl
theorem zr8:lexLt [] []=false:=rfl
theorem zj8(y:Int)(ys:List Int):lexLt [] (y::ys)=true:=rfl
theorem zj9(x:Int)(xs:List Int):lexLt (x::xs) []=false:=rfl
theorem eqAt_int(A:Around)(s:Shared)(a:Int)(t:Tok)(c:Int)(u:Tok):∃e,SeqAt.EqAt A s (.int a t) (.int c u) e/\(e=true↔a=c):=
 ⟨(a==c),SeqAt.EqAt.int_int a t c u,by simp⟩
theorem xc9(A:Around)(s:Shared)(a:Int)(t:Tok)(c:Int)(u:Tok)(prog:Program)(w:World)(E:Value->Shared->Prop)(Q:Value->Shared->Prop)(h:Q (.bool (decide (a<c))) s):
  wpAny (model prog w) A (richCompare .Lt (.int a t) (.int c u)) Q E s:=
 (PyProof.Rows.lt_int h:wpAny (model prog w) A (compareOp .Lt (.int a t) (.int c u)) Q E s)
section
open PySem.SeqAt
open PySem.AutoSeq1 (wpAny_loadPart')
open PySem.MeetsSeq PySem.MeetsSeq2 PySem.MeetsSeq3
theorem zr9(l b:Addr)(items items2:Array Value)(n n2:Nat)(dd dd2:Option Addr)(sl sl2:Array (Option Value))(ns ms:List Int)(hi:IntsAre items.toList ns)(hj:IntsAre items2.toList ms):
  Meets (Builtin.«tuple.__lt__» ⟨[.ref l,.ref b],[]⟩)
   (fun _ R s=>s.heap.get? l=some {cls:= .type "tuple",dict:=dd,data:= .seq items n,slots:=sl}/\s.heap.get? b=some {cls:= .type "tuple",dict:=dd2,data:= .seq items2 n2,slots:=sl2}/\
    R (.ok (.ret (.bool (lexLt ns ms)))) s):=
 .of_wp fun prog w A R s h=>by
  obtain⟨hp,g,d,tk,os⟩:=s;obtain⟨hl,hb,h⟩:=h
  have f2:=X2
  have z1:items.size=ns.length:=by rw [<-hi.length];simp
  have z2:items2.size=ms.length:=by rw [<-hj.length];simp
  wp_walk using Y5 hl,Y5 hb,XI _ (fun rest b s'=>b.1=none/\s'=⟨hp,g,d,tk,os⟩/\∃(vs ws:List Value) (ns' ms':List Int),rest=vs.zip ws/\
   IntsAre vs ns'/\IntsAre ws ms'/\ns'.length+items2.size=ms'.length+items.size/\R (.ok (.ret (.bool (lexLt ns' ms')))) ⟨hp,g,d,tk,os⟩) _
  case turn=>
   rintro⟨y,x⟩ rest b s' ⟨hb',rfl,vs,ws,ns',ms',hz,hvi,hwi,hlen,hR⟩
   cases hvi with
   |nil=>rw [YI] at hz;cases hz
   | cons a t hvi'=>
    cases hwi with
    |nil=>rw [Xi] at hz;cases hz
    | cons c u hwi'=>
     rw [ZW] at hz
     injection hz with hyx hrest
     injection hyx with hy hx
     subst hy hx
     rw [yl3] at hR
     simp only [Z4] at hlen
     obtain⟨e,he,hiff⟩:=eqAt_int A.in1 ⟨hp,g,d,tk,os⟩ a t c u
     refine Zg (he prog w _ _ ?_)
     cases e with
     |true=>
      rw [if_pos (hiff.mp rfl)] at hR
      wp_walk
      exact⟨rfl,rfl,_,_,_,_,hrest,hvi',hwi',by omega,hR⟩
     |false=>
      rw [if_neg (fun q=>absurd (hiff.mpr q) Z7)] at hR
      have hri:=xc9 A.in1 ⟨hp,g,d,tk,os⟩ a t c u prog w
      wp_walk using hri
      exact⟨_,rfl,by simpa using hR⟩
  case fin=>
   rintro⟨b1,b2⟩ s' ⟨hb',rfl,vs,ws,ns',ms',hz,hvi,hwi,hlen,hR⟩
   simp only at hb'
   subst hb'
   have hv:lexLt ns' ms'=decide (items.size<items2.size):=by
    cases hvi with
    | nil=>
     cases hwi with
     |nil=>
      simp only [ZJ] at hlen
      rw [zr8]
      exact(Zf (by omega)).symm
     |cons c u hw=>
      simp only [ZJ,Z4] at hlen
      rw [zj8]
      exact(Zn (by omega)).symm
    | cons a t hv=>
     cases hwi with
     |nil=>
      simp only [ZJ,Z4] at hlen
      rw [zj9]
      exact(Zf (by omega)).symm
     |cons c u hw=>
      rw [ZW] at hz
      cases hz
   rw [hv] at hR
   wp_walk
   exact⟨_,rfl,by simpa [Builtin.Tuple.tupleCompareSizes] using hR⟩
  case h=>
   exact⟨rfl,rfl,items.toList,items2.toList,ns,ms,rfl,hi,hj,by omega,h⟩
end
section
variable{prog:Program}{w:World}{A:Around}{E:Value->Shared->Prop}{s:Shared}
theorem lt_tupInts{l b:Addr}{items items2:Array Value}{ns ms:List Int}{Q:Value->Shared->Prop}(hl:IsTup s.heap l items)(hb:IsTup s.heap b items2)(hi:IntsAre items.toList ns)(hj:IntsAre items2.toList ms)
  (hu:A.units<cLine) (h:Q (.bool (lexLt ns ms)) s):wpAny (model prog w) A (compareOp .Lt (.ref l) (.ref b)) Q E s:=by
 obtain⟨⟨cls,dd,data,sl⟩,ho,hc,n,hd⟩:=id hl
 obtain⟨⟨cls2,dd2,data2,sl2⟩,ho2,hc2,n2,hd2⟩:=id hb
 simp only at hc hd hc2 hd2
 subst hc hd hc2 hd2
 exact Xa (op:= .Lt) ⟨_,ho,rfl⟩ ⟨_,ho2,rfl⟩ W5 XW (XR _ _) (zr9 l b items items2 n n2 dd dd2 sl sl2 ns ms hi hj)
  ⟨ho,ho2,show Value.bool (lexLt ns ms)≠Value.notImplemented/\Q (.bool (lexLt ns ms)) s from⟨(fun x=>nomatch x),h⟩⟩ hu
theorem cat_tup{t b:Addr}{vs ws:List Value}{Q:Value->Shared->Prop}(ht:IsTup s.heap t vs.toArray)(hb:IsTup s.heap b ws.toArray)(hv:vs≠[])
  (h1:ws=[]->Q (.ref t) s) (h2:ws≠[]->Q (.ref s.heap.objs.size) {s with heap:=s.heap.push {cls:= .type "tuple",data:= .seq (vs++ws).toArray}})
  (hsz:vs.length+ws.length<=sizeLine):wpAny (model prog w) A (binaryOp .Add (.ref t) (.ref b)) Q E s:=by
 obtain⟨⟨cls,dd,data,sl⟩,ho,hc,n,hd⟩:=id ht
 obtain⟨⟨cls2,dd2,data2,sl2⟩,ho2,hc2,n2,hd2⟩:=id hb
 simp only at hc hd hc2 hd2
 subst hc hd hc2 hd2
 have e:vs.toArray++ws.toArray=(vs++ws).toArray:=by simp
 by_cases hw:ws=[]
 ·exact concat_meets ⟨_,ho,rfl⟩ ⟨_,ho2,rfl⟩ XJ Wg YW YR (YJ _ _)
   (tuple_addW1 t b vs.toArray ws.toArray n n2 dd dd2 sl sl2 (by simpa using hv) (by simp [hw])) ⟨ho,ho2,h1 hw⟩
 ·refine concat_meets ⟨_,ho,rfl⟩ ⟨_,ho2,rfl⟩ XJ Wg YW YR (YJ _ _)
   (tuple_addW2 t b vs.toArray ws.toArray n n2 dd dd2 sl sl2 (by simpa using hv) (by simpa using hw) (by rw [Zj,Zj];exact hsz)) ⟨ho,ho2,?_⟩
  rw [e]
  exact h2 hw
def sIx(n d:Nat):Option Int->Nat
 |none=>d
 |some v=>if v<0 then(v+(n:Int)).toNat else min v.toNat n
theorem sIx_none(n d:Nat):sIx n d none=d:=rfl
end
end HT
namespace L2
open PySem PySem.Spec PyProof.Rows
abbrev TO:=St->Hp->(Option Int->Hp->Prop)->Prop
def POd(X:Cx)(e:Option Expr)(t:TO):Prop:=
 ∀(pins:tzB) (s:Shared) (σ:St) (H:Hp) (Q:Option Int->Hp->Prop),Inv X pins σ H s->t σ H Q->
  wpAny (model X.prog X.w) X.A (evalPart e X.env) (fun u s'=>∃o H',Inv X pins σ H' s'/\IsPart u o/\Q o H') X.xe s
structure PO(X:Cx)(e:Option Expr)(t:TO):Prop where
 go:POd X e t
instance {X:Cx} {e:Option Expr} {t:TO}:CoeFun (PO X e t) fun _=>POd X e t:=⟨PO.go⟩
def xt0:TO:=fun _ H Q=>Q none H
def we9(t:TE):TO:=fun σ H Q=>t σ H fun x H1=>∃i,x= .int i/\Q (some i) H1
section
variable{X:Cx}{e:Expr}{te:TE}{lo hi:Option Expr}{tl th:TO}{pos p2:Pos}
theorem xn3:PO X none xt0:=⟨by
 intro pins s σ H Q I h
 rw [evalPart_none]
 exact ZF ⟨none,H,I,.none,h⟩⟩
theorem xn4(h:PE X e te):PO X (some e) (we9 te):=⟨by
 intro pins s σ H Q I hw
 rw [evalPart_some]
 refine thn (h pins s σ H _ I hw) fun u s1 ⟨x,H1,I1,r1,q1⟩=> ?_
 obtain⟨i,rfl,q⟩:=q1
 obtain⟨t,rfl⟩:=r1
 exact⟨some i,H1,I1,.int i t,q⟩⟩
def SlR(X:Cx)(r:V->Option Int->Option Int->Hp->VK->Prop):Prop:=
 ∀(pins:tzB) (s:Shared) (σ:St) (H:Hp) (x:V) (v vl vu:Value) (lo hi:Option Int) (sl:Addr) (Q:VK),Inv X pins σ H s->cG x v->s.heap.IsSliceOf sl vl vu .none->IsPart vl lo->IsPart vu hi->r x lo hi H Q->
  ∃T id,typeLookup (.type T) "__getitem__"=pure (some (.builtin id))/\s.TypeIs v T/\wpAny (model X.prog X.w) X.A (getItem v (.ref sl)) (EP X pins σ Q) X.xe s
def tSl(r:V->Option Int->Option Int->Hp->VK->Prop)(te:TE)(tl th:TO):TE:=fun σ H Q=>te σ H fun x H1=>tl σ H1 fun l H2=>th σ H2 fun u H3=>r x l u H3 Q
theorem xd0{r:V->Option Int->Option Int->Hp->VK->Prop}(hr:SlR X r)(he:PE X e te)(hl:PO X lo tl)(hu:PO X hi th):PE X (.Subscript e (.Slice lo hi none p2) pos) (tSl r te tl th):=⟨by
 intro pins s σ H Q I h
 refine Subscript_ (thn (he pins s σ H _ I h) fun v s1 ⟨x,H1,I1,r1,q1⟩=> ?_)
 refine wpAny_Slice (thn (hl pins s1 σ H1 _ I1 q1) fun vl s2 ⟨l,H2,I2,pl,q2⟩=>thn (hu pins s2 σ H2 _ I2 q2) fun vu s3 ⟨u,H3,I3,pu,q3⟩=> ?_)
 rw [evalPart_none]
 refine ZF ?_
 have I4:Inv X pins σ H3 {s3 with heap:=s3.heap.push {cls:= .type "slice",data:= .fields #[vl,vu,.none]}}:=I3.kept (t':=s3.toks) fun b ob q=>Ze _ q
 obtain⟨T,id,hT,ht,hg⟩:=hr pins {s3 with heap:=s3.heap.push {cls:= .type "slice",data:= .fields #[vl,vu,.none]}} σ H3 x v vl vu l u s3.heap.objs.size Q I4 r1 (Heap.IsSliceOf.new ..) pl pu q3
 show wpAny (model X.prog X.w) X.A (subscriptTail e (.Slice lo hi none p2) v (.ref s3.heap.objs.size)) (EP X pins σ Q) X.xe {s3 with heap:=s3.heap.push {cls:= .type "slice",data:= .fields #[vl,vu,.none]}}
 exact tail_any (ops:=[.ref s3.heap.objs.size,v]) ht hT hg (by with_unfolding_all rfl)⟩
def zn4(xs:List V)(lo hi:Option Int):List V:=(xs.drop (HT.sIx xs.length 0 lo)).take (HT.sIx xs.length xs.length hi-HT.sIx xs.length 0 lo)
theorem yd8(xs:List V)(lo hi:Option Int):(zn4 xs lo hi).length<=xs.length:=by
 unfold zn4
 rw [Yh,YS]
 omega
def wf0(K:tz0):R2:=fun x y H Q=>∃a b xs ys,x= .ref a/\y= .ref b/\SqT K H a xs/\SqT K H b ys/\xs≠[]/\xs.length+ys.length<=sizeLine/\
 (ys=[]->Q (.ref a) H)/\(ys≠[]->∀p,H p=none->Q (.ref p) (upd H p (.tup (xs++ys))))
theorem bL.nil_iff{xs:List V}{us:List Value}(r:bL xs us):us=[]↔xs=[]:=by
 cases r with
 |nil=>simp
 |cons _ _=>simp
theorem xn5:OpR X (binaryOp .Add) (wf0 X.K):=⟨by
 intro pins s σ H x y v u Q I rx ry h
 obtain⟨a,b,xs,ys,rfl,rfl,ha,hb,hx,hz,q1,q2⟩:=h
 cases rx
 cases ry
 obtain⟨its,r1,p1,_⟩:=I.tuple ha
 obtain⟨its2,r2,p2,_⟩:=I.tuple hb
 refine HT.cat_tup p1 p2 (fun z=>hx (r1.nil_iff.mp z)) (fun z=>⟨.ref a,H,I,rfl,q1 (r2.nil_iff.mp z)⟩) (fun z=> ?_) (by rw [<-r1.length,<-r2.length];exact hz)
 refine⟨.ref s.heap.objs.size,_,I.laid (t':=s.toks) (o:= .tup (xs++ys)) (fun b ob q=>Ze _ q) (Za _) ?_,rfl,q2 (fun w=>z (r2.nil_iff.mpr w)) _ (I.hok.fresh (Za _))⟩
 exact⟨by rw [Z5];exact hz,_,r1.append r2,IsTup.new _ _⟩⟩
end
def ixN(n:Nat)(i:Int):Option Nat:=if 0<=i then(if i<n then some i.toNat else none) else if-(n:Int)<=i then some (i+n).toNat else none
def atI{α:Type}(xs:List α)(i:Int):Option α:=(ixN xs.length i).bind fun j=>xs[j]?
theorem yZ{n:Nat}{i:Int}{j:Nat}(h:ixN n i=some j):seqIndex? i n=some j/\j<n/\ -(n:Int)<=i/\i<n:=by
 unfold ixN at h
 by_cases h0:0<=i
 ·rw [if_pos h0] at h
  by_cases h1:i<n
  ·rw [if_pos h1] at h
   have e:i.toNat=j:=ZA h
   exact⟨by rw [seqIndex_of h0 h1,e],by omega,by omega,h1⟩
  ·rw [if_neg h1] at h;cases h
 ·rw [if_neg h0] at h
  by_cases h1: -(n:Int)<=i
  ·rw [if_pos h1] at h
   have e:(i+n).toNat=j:=ZA h
   exact⟨by rw [seqIndex_neg (by omega) h1,e],by omega,h1,by omega⟩
  ·rw [if_neg h1] at h;cases h
theorem nD{α:Type}{xs:List α}{i:Int}{v:α}(h:atI xs i=some v):∃j,seqIndex? i xs.length=some j/\xs[j]? =some v/\j<xs.length/\ -(xs.length:Int)<=i/\i<xs.length:=by
 unfold atI at h
 cases e:ixN xs.length i with
 |none=>rw [e] at h;cases h
 |some j=>
  rw [e] at h
  obtain⟨h1,h2,h3,h4⟩:=yZ e
  exact⟨j,h1,h,h2,h3,h4⟩
theorem zk0{α:Type}{xs:List α}{j:Nat}{v:α}(h:xs[j]? =some v):atI xs (j:Int)=some v:=by
 have hj:j<xs.length:=(Z2.mp h).1
 have e:ixN xs.length (j:Int)=some j:=by
  unfold ixN
  rw [if_pos (by omega),if_pos (by omega)];simp
 unfold atI;rw [e];exact h
theorem gQ{α:Type}(xs:List α)(v:α):atI (xs++[v]) (-1)=some v:=by
 have hl:(xs++[v]).length=xs.length+1:=by simp
 have e:ixN (xs++[v]).length (-1)=some xs.length:=by
  unfold ixN
  rw [hl,if_neg (by decide),if_pos (by omega)]
  congr 1
  omega
 unfold atI
 rw [e]
 show(xs++[v])[xs.length]? =some v
 simp
def zS(b:Expr):Prop:=∀o i,subscripted b false o i=operate [o,i] (getItem o i)
def IxR(X:Cx)(r:R2):Prop:=
 ∀(value slice:Expr) (pins:tzB) (s:Shared) (σ:St) (H:Hp) (x y:V) (v u:Value) (Q:VK),Inv X pins σ H s->cG x v->cG y u->r x y H Q->
  subscripted slice false v u=operate [v,u] (getItem v u)->wpAny (model X.prog X.w) X.A (subscriptTail value slice v u) (EP X pins σ Q) X.xe s
def wa0(X:Cx)(id:String)(r:V->List V->Hp->VK->Prop):Prop:=
 ∀(pins:tzB) (s:Shared) (σ:St) (H:Hp) (x:V) (xs:List V) (v:Value) (us:List Value) (Q:VK),Inv X pins σ H s->cG x v->bL xs us->r x xs H Q->
  wpAny (model X.prog X.w) X.A (call (.builtin id) (v::us)) (EP X pins σ Q) X.xe s
structure MtR(X:Cx)(id:String)(r:V->List V->Hp->VK->Prop):Prop where
 go:wa0 X id r
instance {X:Cx} {id:String} {r:V->List V->Hp->VK->Prop}:CoeFun (MtR X id r) fun _=>wa0 X id r:=⟨MtR.go⟩
section
variable{X:Cx}{a b:Expr}{ta tb:TE}{pos:Pos}
theorem IxR.or{r r':R2}(h:IxR X r)(h':IxR X r'):IxR X (fun x y H Q=>r x y H Q\/r' x y H Q):=by
 intro value slice pins s σ H x y v u Q I rx ry q hs
 rcases q with q|q
 ·exact h value slice pins s σ H x y v u Q I rx ry q hs
 ·exact h' value slice pins s σ H x y v u Q I rx ry q hs
theorem zs8{r:R2}(hr:IxR X r)(ha:PE X a ta)(hb:PE X b tb)(hs:zS b):PE X (.Subscript a b pos) (tOp r ta tb):=⟨by
 intro pins s σ H Q I h
 exact Subscript_ (xc2 ha hb I h fun v u s2 x y H2 I2 rx ry q=>hr a b pins s2 σ H2 x y v u Q I2 rx ry q (hs _ _))⟩
def wa1(K:tz0):R2:=fun x y H Q=>∃p xs i v,x= .ref p/\y= .int i/\SqL K H p xs/\atI xs i=some v/\Q v H
def wa2(K:tz0):R2:=fun x y H Q=>∃p xs i v,x= .ref p/\y= .int i/\SqT K H p xs/\atI xs i=some v/\Q v H
def wa3:R2:=fun x y H Q=>∃z i c,x= .str z/\y= .int i/\z.length<=sizeLine/\atI z.cps.toList i=some c/\Q (.str ⟨#[c]⟩) H
theorem zk1:IxR X (wa1 X.K):=by
 intro value slice pins s σ H x y v u Q I rx ry h hs
 obtain⟨p,xs,i,z,rfl,rfl,hq,he,q⟩:=h
 cases rx
 obtain⟨t,rfl⟩:=ry
 obtain⟨its,r,pl,hz⟩:=I.list hq
 obtain⟨j,h1,h2,h3,h4,h5⟩:=nD he
 obtain⟨w,ew,rw'⟩:=r.get h2
 have hl:=r.length
 have hn:=rO
 have fin:EP X pins σ Q w s:=⟨z,H,I,rw',q⟩
 by_cases h0:0<=i
 ·have hj:i.toNat=j:=by
   rw [seqIndex_of h0 h5] at h1
   exact ZA h1
  exact item_listR pl.isList h0 (by omega) (by rw [hj];simpa using ew) fin hs
 ·have hj:(i+(its.toArray.size:Int)).toNat=j:=by
   rw [seqIndex_neg (by omega) h4] at h1
   rw [Zj,<-hl]
   exact ZA h1
  exact subscriptTail_builtinR (x:=w) pl.isList.typeIs slot_list_getitem.lookup
   (wpAny_getItem_list_neg (Q:=fun r s'=>r=w/\EP X pins σ Q r s') pl.isList (by omega) (by rw [Zj]<;>omega) (by omega) (by rw [hj];simpa using ew) ⟨rfl,fin⟩) hs
theorem xv0:IxR X (wa2 X.K):=by
 intro value slice pins s σ H x y v u Q I rx ry h hs
 obtain⟨p,xs,i,z,rfl,rfl,hq,he,q⟩:=h
 cases rx
 obtain⟨t,rfl⟩:=ry
 obtain⟨its,r,pl,hz⟩:=I.tuple hq
 obtain⟨j,h1,h2,h3,h4,h5⟩:=nD he
 obtain⟨w,ew,rw'⟩:=r.get h2
 have hl:=r.length
 have hn:=rO
 have fin:EP X pins σ Q w s:=⟨z,H,I,rw',q⟩
 exact subscriptTail_builtinR (x:=w) pl.typeIs slot_tuple_getitem.lookup
  (getItem_tuple (j:=j) (Q:=fun r s'=>r=w/\EP X pins σ Q r s') pl (by omega) (by omega) (by rw [Zj,<-hl];exact h1) (by simpa using ew) ⟨rfl,fin⟩) hs
theorem xv1:IxR X wa3:=by
 intro value slice pins s σ H x y v u Q I rx ry h hs
 obtain⟨z,i,c,rfl,rfl,hz,he,q⟩:=h
 obtain⟨t,rfl⟩:=rx
 obtain⟨t',rfl⟩:=ry
 obtain⟨j,h1,h2,h3,h4,h5⟩:=nD he
 have hl:z.cps.toList.length=z.length:=by simp [Str.length]
 rw [hl] at h1 h4 h5
 have hn:=rO
 exact tail_any (Xy s z t) slot_str_getitem.lookup (getItem_str (c:=c) (by
  have e1:decide (i< -(2^63:Int))=false:=Zf (by omega)
  have e2:decide (i>=2^63)=false:=Zf (by omega)
  rw [e1,e2,Bool.or_false]) (by rw [h1];simpa using h2) ⟨.str ⟨#[c]⟩,H,I.tok _,⟨_,rfl⟩,q⟩) hs
def rIx(K:tz0):R2:=fun x y H Q=>wa1 K x y H Q\/wa2 K x y H Q\/wa3 x y H Q
theorem ys8:IxR X (rIx X.K):=zk1.or (xv0.or xv1)
theorem yl4(its:List Value)(n j:Nat)(u:Value):Obj.mapSeq (·.setIfInBounds j u) {cls:= .type "list",data:= .seq its.toArray n}={cls:= .type "list",data:= .seq (its.set j u).toArray n}:=by
 simp [Obj.mapSeq]
theorem Inv.lst{pins:tzB}{σ:St}{H:Hp}{s:Shared}{p:Addr}{xs:List V}(I:Inv X pins σ H s)(h:H p=some (.lst xs)):
  ∃(its:List Value) (n:Nat),bL xs its/\s.heap.get? p=some {cls:= .type "list",data:= .seq its.toArray n}/\xs.length<=sizeLine:=by
 obtain⟨z,its,n,r,e⟩:=I.hok p _ h
 exact⟨its,n,r,e,z⟩
theorem Inv.lstUpd{pins:tzB}{σ:St}{H:Hp}{s:Shared}{p:Addr}{xs ys:List V}{its its':List Value}{n n':Nat}{f:Obj->Obj}(I:Inv X pins σ H s)(h:H p=some (.lst xs))
  (ho:s.heap.get? p=some {cls:= .type "list",data:= .seq its.toArray n}) (hf:f {cls:= .type "list",data:= .seq its.toArray n}={cls:= .type "list",data:= .seq its'.toArray n'}) (r:bL ys its') (hz:ys.length<=sizeLine) (t:Nat):
  Inv X pins σ (upd H p (.lst ys)) {s with heap:=s.heap.update p f,toks:=t}:=by
 have e:(s.heap.update p f).get? p=some {cls:= .type "list",data:= .seq its'.toArray n'}:=by
  rw [Xj f ho (by rw [hf]<;>rfl),hf]
 refine I.write (x:=p) (e:=p) (by rw [h];trivial) (.inl rfl) (fun b u hb q=>(ZV _ _ (Y6 hb)).trans q) ⟨_,e⟩ ?_
 exact⟨hz,its',n',r,e⟩
def wf1:V->V->V->Hp->(Hp->Prop)->Prop:=fun o i v H Q=>∃p xs k j,o= .ref p/\i= .int k/\H p=some (.lst xs)/\ixN xs.length k=some j/\Q (upd H p (.lst (xs.set j v)))
theorem xd1:xz4 X wf1:=by
 intro pins s σ H o i v ov iv u Q I ro ri rv h
 obtain⟨p,xs,k,j,rfl,rfl,hp,hj,q⟩:=h
 cases ro
 obtain⟨t,rfl⟩:=ri
 obtain⟨its,n,r,ho,hz⟩:=I.lst hp
 obtain⟨h1,h2,h3,h4⟩:=yZ hj
 have hl:=r.length
 have hn:=rO
 have I':Inv X pins σ (upd H p (.lst (xs.set j v))) {s with heap:=s.heap.update p (Obj.mapSeq (·.setIfInBounds j u))}:=
  I.lstUpd hp ho (yl4 its n j u) (r.set rv j) (by rw [List.length_set];exact hz) s.toks
 by_cases h0:0<=k
 ·have hk:k.toNat=j:=by
   rw [seqIndex_of h0 h4] at h1
   exact ZA h1
  exact PySem.W.ki_setAt ho h0 (by omega) (by rw [Zj,<-hl];exact h4) (by rw [hk];exact⟨_,I',q⟩)
 ·have hk:(k+(its.toArray.size:Int)).toNat=j:=by
   rw [seqIndex_neg (by omega) h3] at h1
   rw [Zj,<-hl]
   exact ZA h1
  exact PySem.W.ki_setBack ho (by omega) (by rw [Zj,<-hl];exact h3) (by omega) (by rw [hk];exact⟨_,I',q⟩)
theorem zv8(lo hi:Option Int)(n:Nat):(sliceBounds lo hi none n).1=((HT.sIx n 0 lo:Nat):Int)/\(sliceBounds lo hi none n).2.1=((HT.sIx n n hi:Nat):Int)/\(sliceBounds lo hi none n).2.2=1:=by
 refine⟨?_,?_,rfl⟩
 ·cases lo with
  |none=>simp [sliceBounds,HT.sIx]
  |some i=>
   simp only [sliceBounds,HT.sIx,Option.getD_none,show(1:Int)>0 by decide,ZS]
   by_cases h:i<0
   ·simp only [h,ZS]<;>omega
   ·simp only [h,Yg]<;>omega
 ·cases hi with
  |none=>simp [sliceBounds,HT.sIx]
  |some i=>
   simp only [sliceBounds,HT.sIx,Option.getD_none,show(1:Int)>0 by decide,ZS]
   by_cases h:i<0
   ·simp only [h,ZS]<;>omega
   ·simp only [h,Yg]<;>omega
theorem zs0(its:List Value)(lo hi:Option Int):slicePick its.toArray lo hi none=((its.drop (HT.sIx its.length 0 lo)).take (HT.sIx its.length its.length hi-HT.sIx its.length 0 lo)).toArray:=by
 obtain⟨h1,h2,h3⟩:=zv8 lo hi its.toArray.size
 unfold slicePick
 rw [h1,h2,h3]
 simp only [sliceRange_one,pick_run,Zj]<;>rfl
def wi1(K:tz0):V->Option Int->Option Int->Hp->VK->Prop:=fun x lo hi H Q=>∃a xs,x= .ref a/\SqL K H a xs/\∀p,H p=none->Q (.ref p) (upd H p (.lst (zn4 xs lo hi)))
theorem xn6:SlR X (wi1 X.K):=by
 intro pins s σ H x v vl vu lo hi sl Q I rx hs pl pu h
 obtain⟨a,xs,rfl,hx,q⟩:=h
 cases rx
 obtain⟨its,r,ht,hz⟩:=I.list hx
 have hlen:=r.length
 refine⟨"list",_,slot_list_getitem.lookup,ht.isList.typeIs,?_⟩
 refine wpAny_getItem_list_slice ht.isList hs pl pu .none (by simp) ?_ (by rw [Zj]<;>omega)
 rw [zs0,<-hlen]
 refine⟨.ref s.heap.objs.size,_,I.laid (t':=s.toks) (o:= .lst (zn4 xs lo hi)) (fun b ob q=>Ze _ q) (Za _) ?_,rfl,q _ (I.hok.fresh (Za _))⟩
 exact⟨ZC (yd8 xs lo hi) hz,_,0,(r.drop (HT.sIx xs.length 0 lo)).take (HT.sIx xs.length xs.length hi-HT.sIx xs.length 0 lo),Zv _ rfl⟩
def kX:V->Bool
 | .non=>true
 | .bl _=>true
 | .int _=>true
 | .str _=>true
 |_=>false
def eqV:V->V->Bool
 | .non,.non=>true
 | .bl a,.bl b=>a==b
 | .bl a,.int b=>(if a then 1 else 0)==b
 | .int a,.bl b=>a==(if b then 1 else 0)
 | .int a,.int b=>a==b
 | .str a,.str b=>a==b
 |_,_=>false
theorem xv2{A:Around}{s:Shared}{y x:V}{u v:Value}(ry:cG y u)(rx:cG x v)(fy:kX y=true)(fx:kX x=true):SeqAt.EqAt A s u v (eqV y x):=by
 cases y with
 |non=>
  cases ry
  cases x with
  |non=>cases rx;exact SeqAt.EqAt.same _
  |bl b=>cases rx;exact SeqAt.EqAt.none_bool b
  |int b=>obtain⟨t,rfl⟩:=rx;exact SeqAt.EqAt.none_int b t
  |str b=>obtain⟨t,rfl⟩:=rx;exact SeqAt.EqAt.none_str b t
  |_=>exact absurd (show false=true from fx) Z7
 |bl a=>
  cases ry
  cases x with
  |non=>cases rx;exact SeqAt.EqAt.bool_none a
  |bl b=>cases rx;exact SeqAt.EqAt.bool_bool a b
  |int b=>obtain⟨t,rfl⟩:=rx;exact SeqAt.EqAt.bool_int a b t
  |str b=>obtain⟨t,rfl⟩:=rx;exact SeqAt.EqAt.bool_str a b t
  |_=>exact absurd (show false=true from fx) Z7
 |int a=>
  obtain⟨t',rfl⟩:=ry
  cases x with
  |non=>cases rx;exact SeqAt.EqAt.int_none a t'
  |bl b=>cases rx;exact SeqAt.EqAt.int_bool a t' b
  |int b=>obtain⟨t,rfl⟩:=rx;exact SeqAt.EqAt.int_int a t' b t
  |str b=>obtain⟨t,rfl⟩:=rx;exact SeqAt.EqAt.int_str a t' b t
  |_=>exact absurd (show false=true from fx) Z7
 |str a=>
  obtain⟨t',rfl⟩:=ry
  cases x with
  |non=>cases rx;exact SeqAt.EqAt.str_none a t'
  |bl b=>cases rx;exact SeqAt.EqAt.str_bool a t' b
  |int b=>obtain⟨t,rfl⟩:=rx;exact SeqAt.EqAt.str_int a t' b t
  |str b=>obtain⟨t,rfl⟩:=rx;exact SeqAt.EqAt.str_str a t' b t
  |_=>exact absurd (show false=true from fx) Z7
 |_=>exact absurd (show false=true from fy) Z7
def eqU(x:V)(u:Value):Bool:=match u with
 | .none=>eqV .non x
 | .bool b=>eqV (.bl b) x
 | .int i _=>eqV (.int i) x
 | .str z _=>eqV (.str z) x
 |_=>false
theorem ys9{x y:V}{u:Value}(r:cG y u)(f:kX y=true):eqU x u=eqV y x:=by
 cases y with
 |non=>cases r;rfl
 |bl b=>cases r;rfl
 |int i=>obtain⟨t,rfl⟩:=r;rfl
 |str z=>obtain⟨t,rfl⟩:=r;rfl
 |_=>exact absurd (show false=true from f) Z7
theorem zk2{x:V}:∀{xs:List V} {us:List Value},bL xs us->xs.all kX=true->us.any (eqU x)=xs.any fun y=>eqV y x
 |_,_,.nil,_=>rfl
 |y::xs,u::us,.cons r t,f=>by
  rw [XL,Zx] at f
  rw [YK,YK,ys9 r f.1,zk2 t f.2]
theorem zb1{A:Around}{s:Shared}{x:V}{v:Value}(rx:cG x v)(fx:kX x=true):∀{xs:List V} {us:List Value},bL xs us->xs.all kX=true->∀u∈us,SeqAt.EqAt A s u v (eqU x u)
 |_,_,.nil,_=>fun u hu=>by cases hu
 |y::xs,u::us,.cons r t,f=>fun u' hu=>by
  rw [XL,Zx] at f
  rcases Z6.mp hu with rfl|hu
  ·rw [ys9 r f.1];exact xv2 r rx f.1 fx
  ·exact zb1 rx fx t f.2 u' hu
def inV(x:V)(xs:List V):Bool:=xs.any fun y=>eqV y x
def rIn(K:tz0)(neg:Bool):R2:=fun x y H Q=>∃p xs,y= .ref p/\(SqL K H p xs\/SqT K H p xs)/\kX x=true/\xs.all kX=true/\Q (.bl (if neg then !inV x xs else inV x xs)) H
theorem yt0:OpR X (compareOp .In) (rIn X.K false):=⟨by
 intro pins s σ H x y v u Q I rx ry h
 obtain⟨p,xs,rfl,hq,fx,fs,q⟩:=h
 cases ry
 rcases hq with hq|hq
 ·obtain⟨its,r,pl,hz⟩:=I.list hq
  refine SeqAt.in_listAt (eqU x) pl.isList (fun w hw=>zb1 rx fx r fs w (by simpa using hw)) ⟨.bl _,H,I,rfl,?_⟩
  rw [show its.toArray.any (eqU x)=its.any (eqU x) by simp,zk2 r fs]
  exact q
 ·obtain⟨its,r,pl,hz⟩:=I.tuple hq
  refine SeqAt.in_tupleAt (eqU x) pl (fun w hw=>zb1 rx fx r fs w (by simpa using hw)) ⟨.bl _,H,I,rfl,?_⟩
  rw [show its.toArray.any (eqU x)=its.any (eqU x) by simp,zk2 r fs]
  exact q⟩
theorem jE:CallR X (.builtin "len") (fun xs H Q=>∃p ys,xs=[.ref p]/\(SqL X.K H p ys\/SqT X.K H p ys)/\Q (.int ys.length) H):=⟨by
 intro pins s σ H xs us Q I r h
 obtain⟨p,ys,rfl,hq,q⟩:=h
 obtain⟨u,rfl,rx⟩:=qS r
 cases rx
 have hn:=rO
 rcases hq with hq|hq
 ·obtain⟨its,r',pl,hz⟩:=I.list hq
  have hlen:=r'.length
  exact Calls.call_len_list pl.isList (by simp only [Zj]<;>omega) ⟨.int ys.length,H,I.tok _,⟨s.toks+1,by rw [Zj,hlen]⟩,q⟩
 ·obtain⟨its,r',pl,hz⟩:=I.tuple hq
  have hlen:=r'.length
  exact len_tuple pl (by simp only [Zj]<;>omega) ⟨.int ys.length,H,I.tok _,⟨s.toks+1,by rw [Zj,hlen]⟩,q⟩⟩
theorem zv9:CallR X (.builtin "len") (fun xs H Q=>∃z,xs=[.str z]/\z.length<=sizeLine/\Q (.int z.length) H):=⟨by
 intro pins s σ H xs us Q I r h
 obtain⟨z,rfl,hz,q⟩:=h
 obtain⟨u,rfl,t,rfl⟩:=qS r
 have hn:=rO
 exact len_str (by omega) ⟨.int z.length,H,I.tok _,⟨_,rfl⟩,q⟩⟩
theorem wW:CallR X (.type "tuple") (fun xs H Q=>∃p ys,xs=[.ref p]/\((SqL X.K H p ys/\∀l,H l=none->Q (.ref l) (upd H l (.tup ys)))\/(SqT X.K H p ys/\Q (.ref p) H))):=⟨by
 intro pins s σ H xs us Q I r h
 obtain⟨p,ys,rfl,h⟩:=h
 obtain⟨u,rfl,rx⟩:=qS r
 cases rx
 rcases h with ⟨hq,q⟩|⟨hq,q⟩
 ·obtain⟨its,r',pl,hz⟩:=I.list hq
  have hlen:=r'.length
  refine call_tuple_list pl.isList (fun h' kp=> ?_) (by simp only [Zj]<;>omega)
  have I1:Inv X pins σ H {s with heap:=h'}:=I.kept (t':=s.toks) kp
  have I2:Inv X pins σ (upd H h'.objs.size (.tup ys)) {s with heap:=h'.push {cls:= .type "tuple",data:= .seq its.toArray}}:=
   I1.laid (t':=s.toks) (fun b o e=>Ze _ e) (Za _) (show dO X.prog X.w _ _ _ (.tup ys) from⟨hz,its,r',IsTup.new _ _⟩)
  exact⟨.ref h'.objs.size,_,I2,rfl,q _ (I1.hok.fresh (Za _))⟩
 ·obtain⟨its,r',pl,hz⟩:=I.tuple hq
  exact call_tuple_same pl ⟨.ref p,H,I,rfl,q⟩⟩
def tyV(K:tz0)(T:String)(x:V)(H:Hp):Prop:=match x with
 | .str _=>T="str"
 | .int _=>T="int"
 | .ref p=>(T="list"/\∃xs,SqL K H p xs)\/(T="tuple"/\∃o,K.lookup p=some o/\o.cls= .type "tuple"/\o.dict=none)\/
   (T="dict"/\((∃kvs,H p=some (.dK kvs))\/∃kvs,H p=some (.dT kvs)))\/(T="set"/\∃S n,H p=some (.set S n))
 |_=>False
theorem yt1{pins:tzB}{σ:St}{H:Hp}{s:Shared}{T:String}{x:V}{v:Value}(I:Inv X pins σ H s)(r:cG x v)(ty:tyV X.K T x H):
  s.TypeIs v T/\∀a,v= .ref a->∃ob,s.heap.get? a=some ob/\ob.dict=none:=by
 cases x with
 |str z=>
  obtain⟨t,rfl⟩:=r
  cases(show T="str" from ty)
  exact⟨Xy s z t,fun _ e=>nomatch e⟩
 |int i=>
  obtain⟨t,rfl⟩:=r
  cases(show T="int" from ty)
  exact⟨typeIs_int s i t,fun _ e=>nomatch e⟩
 | ref p=>
  cases r
  rcases ty with ⟨rfl,xs,hq⟩|⟨rfl,o,hk,hc,hd⟩|⟨rfl,hk⟩|⟨rfl,S,n,hk⟩
  ·obtain⟨its,_,pl,_⟩:=I.list hq
   refine⟨pl.isList.typeIs,fun a e=> ?_⟩
   cases e
   obtain⟨o,n,e,c,hd,_⟩:=pl
   exact⟨o,e,hd⟩
  ·refine⟨⟨o,I.kIn p o hk,hc⟩,fun a e=> ?_⟩
   cases e
   exact⟨o,I.kIn _ o hk,hd⟩
  ·have z:∃o,s.heap.get? p=some o/\o.ExactDict:=by
    rcases hk with ⟨kvs,hk⟩|⟨kvs,hk⟩
    ·obtain⟨_,_,_,_,o,_,_,e,ex,_⟩:=I.hok p _ hk
     exact⟨o,e,ex⟩
    ·obtain⟨_,_,_,_,o,_,_,e,ex,_⟩:=I.hok p _ hk
     exact⟨o,e,ex⟩
   obtain⟨o,e,ex⟩:=z
   refine⟨⟨o,e,ex.1⟩,fun a e2=> ?_⟩
   cases e2
   exact⟨o,e,ex.2.1⟩
  ·obtain⟨o,_,_,_,e,ex,_⟩:=I.hok p _ hk
   refine⟨⟨o,e,ex.1⟩,fun a e2=> ?_⟩
   cases e2
   exact⟨o,e,ex.2.1⟩
 |_=>exact False.elim ty
def wi2(K:tz0)(T:String)(r:V->List V->Hp->VK->Prop)(to:TE):TE:=fun σ H Q=>to σ H fun x H1=>tyV K T x H1/\r x [] H1 Q
def tBM(K:tz0)(T:String)(r:V->List V->Hp->VK->Prop)(to:TE)(t:TA):TE:=fun σ H Q=>to σ H fun x H1=>tyV K T x H1/\t σ H1 fun xs H2=>r x xs H2 Q
variable{o e:Expr}{es:List Expr}{to:TE}{t:TA}{name:Str}{apos cpos:Pos}{T id:String}{r:V->List V->Hp->VK->Prop}
theorem xv3(pa:PlainAttrs T)(slot:Slot T name id)(hty:typeOf (.builtin id)=pure (.type "method_descriptor"))(hm:MtR X id r)(ho:PE X o to)
  (hbase:attributeBase o name X.env (eval o X.env)=eval o X.env:=by rfl) (hline:(apos.endLine==cpos.line)=true:=by rfl):PE X (.Call (.Attribute o name apos) [] [] cpos) (wi2 X.K T r to):=⟨by
 intro pins s σ H Q I h
 refine wpAny_Call_method0_late hbase hline (thn (ho pins s σ H _ I h) fun v s1 ⟨x,H1,I1,r1,ty,q1⟩=> ?_)
 obtain⟨h1,h2⟩:=yt1 I1 r1 ty
 exact⟨T,id,pa,slot,hty,h1,h2,Xb rfl (PySem.evalArgs_none (hm pins s1 σ H1 x [] v [] Q I1 r1 .nil q1))⟩⟩
theorem xk6(pa:PlainAttrs T)(slot:Slot T name id)(hty:typeOf (.builtin id)=pure (.type "method_descriptor"))(hm:MtR X id r)(ho:PE X o to)(ha:PA X (e::es) t)
  (hbase:attributeBase o name X.env (eval o X.env)=eval o X.env:=by rfl)
  (hfew:((backTo cpos (starEach (e::es) X.env)).all (fun x=> !x.1)&&(backToKw cpos (keywordEach [] X.env)).all (fun x=>x.1.isSome)
   &&decide ((e::es).length+([]:List Keyword).length+(if ([]:List Keyword).isEmpty then 0 else 1)<30))=true:=by rfl)
  (hline:(apos.endLine==cpos.line)=true:=by rfl) (hs:StE e es X:=by rfl) (hplain:(backTo cpos (starEach es X.env)).any (·.1)=false:=by rfl):
  PE X (.Call (.Attribute o name apos) (e::es) [] cpos) (tBM X.K T r to t):=⟨by
 intro pins s σ H Q I h
 refine wpAny_Call_method_late hbase hfew hline rfl (thn (ho pins s σ H _ I h) fun v s1 ⟨x,H1,I1,r1,ty,q1⟩=> ?_)
 obtain⟨h1,h2⟩:=yt1 I1 r1 ty
 refine⟨T,id,pa,slot,hty,h1,h2,?_⟩
 have hA:=ha cpos pins s1 σ H1 _ I1 q1
 rw [hs] at hA|-
 refine Xb (by show(false||(backTo cpos (starEach es X.env)).any (·.1))=false;rw [hplain]<;>rfl) (Calls.evalArgs_plain ?_)
 exact thn hA fun us s2 ⟨vs,H2,I2,r2,q2⟩=>hm pins s2 σ H2 x vs v us Q I2 r1 r2 q2⟩
end
theorem bL.one:∀{x:V} {us:List Value},bL [x] us->∃u,us=[u]/\cG x u
 |_,_,.cons r .nil=>⟨_,rfl,r⟩
theorem bL.zero:∀{us:List Value},bL [] us->us=[]
 |_,.nil=>rfl
theorem bL.dropLast{xs:List V}{us:List Value}(h:bL xs us):bL xs.dropLast us.dropLast:=by
 induction h with
 |nil=>exact .nil
 |cons r t ih=>
  cases t with
  |nil=>exact .nil
  |cons q t'=>exact .cons r ih
theorem bL.rep{xs:List V}{us:List Value}(h:bL xs us):∀k:Nat,bL (List.replicate k xs).flatten (List.replicate k us).flatten
 |0=> .nil
 |k+1=>by
  rw [Ya,Ya,Ys,Ys]
  exact bL.append h (bL.rep h k)
theorem yl5{α:Type}(l:List α):l.eraseIdx (l.length-1)=l.dropLast:=by
 induction l with
 |nil=>rfl
 | cons a r ih=>
  cases r with
  |nil=>rfl
  | cons b r=>
   have e:(a::b::r).length-1=((b::r).length-1)+1:=by
    have h1:(a::b::r).length=r.length+2:=rfl
    have h2:(b::r).length=r.length+1:=rfl
    omega
   rw [e,List.eraseIdx_cons_succ,ih]
   all_goals rfl
section
variable{X:Cx}{pins:tzB}{σ:St}{H:Hp}{s:Shared}{l b:Addr}{xs ys zs:List V}
theorem Inv.lset{its its':List Value}{n:Nat}{f:Array Value->Array Value}{t':Nat}(I:Inv X pins σ H s)(hH:H l=some (.lst xs))
  (e:s.heap.get? l=some {cls:= .type "list",data:= .seq its.toArray n}) (hf:f its.toArray=its'.toArray) (hv:bL ys its') (hz:ys.length<=sizeLine):
  Inv X pins σ (upd H l (.lst ys)) {s with heap:=s.heap.update l (Obj.mapSeq f),toks:=t'}:=by
 have q:=PySem.IsL.update e f
 rw [hf] at q
 refine I.write (x:=l) (e:=l) (by rw [hH];exact trivial) (.inl rfl) (fun b' u hb hu=>(ZV s.heap (Obj.mapSeq f) (Y6 hb)).trans hu) ⟨_,q⟩ ?_
 exact⟨hz,its',_,hv,q⟩
theorem Inv.lnew{its:List Value}{t':Nat}(I:Inv X pins σ H s)(hv:bL ys its)(hz:ys.length<=sizeLine):
  Inv X pins σ (upd H s.heap.objs.size (.lst ys)) {s with heap:=s.heap.push {cls:= .type "list",data:= .seq its.toArray},toks:=t'}:=
 I.laid (fun _ _ q=>Ze _ q) (Za _) ⟨hz,its,0,hv,Zv _ rfl⟩
theorem Inv.fresh(I:Inv X pins σ H s):H s.heap.objs.size=none:=I.hok.fresh (Za _)
theorem Inv.lstM(I:Inv X pins σ H s)(hH:H l=some (.lst xs)):xs.length<=sizeLine/\∃(its:List Value) (n:Nat),bL xs its/\xs.length=its.length/\s.heap.get? l=some {cls:= .type "list",data:= .seq its.toArray n}:=by
 obtain⟨z,its,n,r,e⟩:=I.hok l _ hH
 exact⟨z,its,n,r,r.length,e⟩
end
section
variable{X:Cx}
def xt1:V->List V->Hp->VK->Prop:=fun x vs H Q=>∃l xs y,x= .ref l/\vs=[y]/\H l=some (.lst xs)/\xs.length<sizeLine/\Q .non (upd H l (.lst (xs++[y])))
theorem zo5:MtR X "list.append" xt1:=⟨by
 intro pins s σ H x vs v us Q I rx rv h
 obtain⟨l,xs,y,rfl,rfl,hH,hz,q⟩:=h
 cases rx
 obtain⟨u,rfl,ru⟩:=rv.one
 obtain⟨z,its,n,r,hl,e⟩:=I.lstM hH
 refine Xz F.slot_list_append ⟨_,e,rfl⟩ F.entry_list_append (F.args_list_append_2 _ _) (PySem.list_append l its.toArray n u (by rw [Zj];omega)) ⟨e,?_⟩
 refine⟨.non,_,I.lset (its':=its++[u]) hH e (by simp) (r.append (.cons ru .nil)) ?_,rfl,q⟩
 rw [Z5,W6]
 omega⟩
def wi3:V->List V->Hp->VK->Prop:=fun x vs H Q=>∃l xs y,x= .ref l/\vs=[]/\H l=some (.lst xs)/\xs[xs.length-1]? =some y/\Q y (upd H l (.lst xs.dropLast))
theorem xv4:MtR X "list.pop" wi3:=⟨by
 intro pins s σ H x vs v us Q I rx rv h
 obtain⟨l,xs,y,rfl,rfl,hH,hy,q⟩:=h
 cases rx
 have hus:=rv.zero
 subst hus
 obtain⟨z,its,n,r,hl,e⟩:=I.lstM hH
 obtain⟨u,hu,ru⟩:=r.get hy
 have hy':its.toArray[its.toArray.size-1]? =some u:=by
  show its.toArray[its.length-1]? =some u
  rw [<-Array.getElem?_toList,<-hl]
  exact hu
 refine Xz F.slot_list_pop ⟨_,e,rfl⟩ F.entry_list_pop (F.args_list_pop_1 _) (MeetsSeq.list_pop_last l its.toArray n u hy' (by rw [Zj];omega)) ⟨e,?_⟩
 refine⟨y,_,I.lset (its':=its.dropLast) hH e ?_ r.dropLast ?_,ru,q⟩
 ·show its.toArray.eraseIdxIfInBounds (its.toArray.size-1)=its.dropLast.toArray
  rw [Zj,List.eraseIdxIfInBounds_toArray,yl5]
 ·rw [List.length_dropLast]
  omega⟩
end
end L2
namespace Att
open PySem PySem.W PySem.Calls PyProof.Rows
theorem ze2{P:Params}{h:Heap}:∀(ns:List Int) (vs:List Value),WellAll P h vs (ns.map WData.int)->IntsAre vs ns:=by
 intro ns
 induction ns with
 |nil=>
  intro vs w
  rw [Xk] at w
  cases w
  exact .nil
 | cons n ns ih=>
  intro vs w
  rw [Z8] at w
  cases w with
  |cons a b=>
   cases a
   exact .cons _ _ (ih _ b)
theorem yt2{l:OpenLaw}{n:Nat}(hn:l.most=some n){P:Params}{h:Heap}{args:List WData}{vals:List Value}
  (hpre:l.row.toRowW.claim.pre args=true) (hwl:WellAll P h vals args):
  ∃a vs ns,vals=[Value.ref a]/\args=[WData.list (ns.map WData.int)]/\h.get? a=some {cls:= .type "list",data:= .seq vs.toArray}/\IntsAre vs ns/\ns.length<=n:=by
 have hsh:WShape.hasAll [] args [.list .int]=true:=(pre_splitW hpre).1
 have hc:l.pre.holds [] {args:=args}=true:=(pre_splitW hpre).2
 obtain⟨d,r,rfl,h1,h2⟩:=hasAllW_cons hsh
 obtain rfl:=hasAllW_nil h2
 obtain⟨xs,rfl,h3⟩:=hasW_list h1
 obtain⟨ns,rfl⟩:=items_int h3
 have hlen:ns.length<=n:=by
  unfold OpenLaw.pre at hc
  have h4:(WTm.not (.lt (.lit (.int (n:Int))) (.len (.arg 0)))).holds [] {args:=[.list (ns.map .int)]}=true:=by
   have h4:=(holds_andW hc).1
   rw [hn] at h4
   exact h4
  have h5:=condW_of h4 (w_not (w_lt w_lit (w_len_list (w_arg rfl))))
  rw [Zh] at h5
  refine Nat.le_of_not_lt fun q=> ?_
  have q':(n:Int)<((ns.length:Nat):Int):=by omega
  first
   |(rw [Zn q'] at h5;exact absurd h5 (by decide))
   |(simp at h5;omega)
 cases hwl with
 |cons w1 w2=>
  cases w2
  cases w1 with
  |list ho hall=>exact⟨_,_,ns,rfl,rfl,ho,ze2 ns _ hall,hlen⟩
theorem yt3(l:OpenLaw)(args:List WData):l.row.toRowW.claim.post args (.bool true) args=true:=
 postW_of (r:=l.row.toRowW) (X:=(true==true))
  (show WShape.has [] (.bool true) .bool=true by first|rfl|decide|simp [WShape.has,WShape.arms,WShape.armsAll])
  (show(WTm.eq .res (.lit (.bool true))).value [] {args:=args,res:=some (.bool true),after:=args}=some (.bool (true==true)) from w_eq_bool (w_res rfl) w_lit) rfl
theorem attach_call{l:OpenLaw}{n:Nat}{q:Program}{loose:List Str}{XP:(tzA)->Heap->Prop}{YP:World->Heap->Prop}{d:DefRec}
  (hn:l.most=some n) (hdf:d.params.defaults=[])
  (call:∀(w:World) (s₀ s₁:Shared) (mg mb:tzA) (fa:Addr) (o:Obj) (pm cd doc:Value) (a:Addr) (vs:List Value) (ns:List Int),
   Ground q loose [] XP w s₀ mg mb s₁.heap->YP w s₁.heap->
   s₁.heap.get? fa=some o->o.data= .func (docDef d.name d.params d.body d.scope pm cd doc)->s₁.heap.CodeRec cd d.name->mg d.name=some (.ref fa)->
   s₁.heap.get? a=some {cls:= .type "list",data:= .seq vs.toArray}->IntsAre vs ns->ns.length<=n->s₁.gens= #[]->
   codeAny (model l.prog w) callerA (.call (.ref fa) ⟨[.ref a],[]⟩) (fun r s'=>r= .ok (.ret (.bool true))/\OldK s₁.heap s'.heap/\s'.os=s₁.os/\AllBare s'.gens) s₁):
  WalkO q loose XP YP l.row.toRowW d [] (fun f vs=>PySem.call f vs):=by
 intro w s₀ s₁ mg mb G Y fa o pm cd doc dV kV ho hd hcd hD hmg hg args vals as hpre hlay hrd hwl hlo
 obtain rfl:dV= .none:=Dflts.none hD hdf
 obtain rfl:kV= .none:=Dflts.noKw hD
 obtain⟨a,vs,ns,rfl,rfl,hobj,hints,hlen⟩:=yt2 hn hpre hwl
 refine enter_call (X9 (call w s₀ s₁ mg mb fa o pm cd doc a vs ns G Y ho (fd_plain hd) hcd hmg hobj hints hlen hg) fun r s' hq=> ?_)
 obtain⟨rfl,h2,h3,h4⟩:=hq
 exact⟨.inl ⟨.bool true,.bool true,[],rfl,fun _=>rfl,.bool true,yt3 l _,fun _=>⟨List.Pairwise.nil,fun _ hm=>(nomatch hm)⟩⟩,h2,h3,h4⟩
end Att
namespace L2
open PySem PySem.Spec PyProof.Rows
theorem zo6:∀{vs:List Value} {ns:List Int},IntsAre vs ns->bL (ns.map V.int) vs
 |_,_,.nil=> .nil
 |_,_,.cons n t h=> .cons ⟨t,rfl⟩ (zo6 h)
def xj1(H:Hp):Prop:=∀b,H b=none\/∃o xs,H b=some (.frz o (.lst xs))
theorem xd2{P:Program}{w:World}{K:tz0}{mg mb:tzA}{CX:CXT}{k:Nat}{fa a:Addr}{fd:FuncData}{x:Str}{sp:Sp}{s₁:Shared}{vs:List Value}{ns:List Int}
  (KX:K.In s₁.heap) (hns:s₁.heap.Ns mainGlobals mg) (hb:s₁.heap.Ns builtinsNs mb) (hbb:∀x:Str,x≠"__name__"->mb x=bootBuiltins x) (hlim:s₁.heap.NoLimit) (hg:s₁.gens= #[])
  (ha:s₁.heap.get? a=some {cls:= .type "list",data:= .seq vs.toArray}) (hi:IntsAre vs ns) (hl:ns.length<=sizeLine) (hr:Room k callerA)
  (F:∀base:Heap,K.In base->base.Ns mainGlobals mg->FnOk P w K mg base CX k fa fd [x] sp) (hbind:∀(s:Shared) (u:Value),BindsTo s fd ⟨[u],[]⟩ [(x,u)])
  (hsp:∀H:Hp,xj1 H->SqL K H a (ns.map V.int)->sp [.ref a] H (fun v _=>v= .bl true) fun _ _ _=>False)
  (hCX:∀H e s',CX [] H s₁ (fun _ _ _=>False) e s'->False):
  codeAny (model P w) callerA (.call (.ref fa) ⟨[.ref a],[]⟩) (fun r s'=>r= .ok (.ret (.bool true))/\OldK s₁.heap s'.heap/\s'.os=s₁.os/\AllBare s'.gens) s₁:=by
 have rv:=zo6 hi
 have lenV:=hi.length
 have core:∀H:Hp,xj1 H->SqL K H a (ns.map V.int)->HOk P w H s₁.heap->(∀b,H b≠none->b=a)->(H a≠none->K.lookup a=none)->
   codeAny (model P w) callerA (.call (.ref fa) ⟨[.ref a],[]⟩) (fun r s'=>r= .ok (.ret (.bool true))/\OldK s₁.heap s'.heap/\s'.os=s₁.os/\AllBare s'.gens) s₁:=by
  intro H hO hS hok hA hK
  have base_of:∀{b:Addr} {o:Obj},s₁.heap.get? b=some o->H b=none->(wH s₁.heap H).get? b=some o:=fun e n=>xb9 e n
  have noA:∀{b:Addr} {o:Obj} {es:Array DictEntry} {ep:Nat},s₁.heap.get? b=some o->o.data= .dict es ep->H b=none:=fun {b o es ep} e d=>by
   cases q:H b with
   |none=>rfl
   |some u=>
    have e':b=a:=hA b (by rw [q];simp)
    subst e'
    rw [ha] at e;cases e
    have d':Data.seq vs.toArray _=Data.dict es ep:=d
    cases d'
  have nsK:∀{b:Addr} {m:tzA},s₁.heap.Ns b m->(wH s₁.heap H).Ns b m:=fun {b m} ⟨o,es,ep,e,d,r⟩=>⟨o,es,ep,base_of e (noA e d),d,r⟩
  have hKb:K.In (wH s₁.heap H):=fun b o e=>base_of (KX b o e) (by
   cases q:H b with
   |none=>rfl
   |some u=>
    have e':b=a:=hA b (by rw [q];simp)
    subst e'
    rw [hK (by rw [q];simp)] at e;cases e)
  have hM:Mod K mg (wH s₁.heap H):=⟨hKb,nsK hns,⟨mb,nsK hb,hbb⟩,let ⟨mc,h1,h2⟩:=hlim;⟨mc,nsK h1,h2⟩⟩
  have e0:Env0 P w K mg (wH s₁.heap H) callerA [] s₁ H:=⟨rfl,hM,fun b o e=>xm4 e,Nat.le_of_eq (yq8 _ _),trivial,fun b hb=>absurd (show b∈([]:List Addr) from hb) (by simp),hok,.of_eq hg⟩
  refine X9 ((F _ hKb (nsK hns)).run callerA [] s₁ H ⟨[.ref a],[]⟩ [.ref a] [.ref a] _ _ hr e0 (hbind s₁ (.ref a)) (.cons rfl .nil) (hsp H hO hS)) fun r s' h=> ?_
  cases r with
  |error e=>exact(hCX H e s' h).elim
  | ok fl=>
   cases fl with
   |next=>exact False.elim h
   |brk=>exact False.elim h
   |cont=>exact False.elim h
   | ret u=>
    obtain⟨v,H',os,bare,un,hok',r',q⟩:=h
    have q':v= .bl true:=q
    subst q'
    obtain rfl:u=Value.bool true:=r'
    refine⟨rfl,OldK.of_keep fun b o e=> ?_,os,bare⟩
    cases q:H b with
    |none=>exact un.keep b o e q (by intro z;exact absurd (show b∈([]:List Addr) from z) (by simp)) (by simp)
    | some u=>
     rcases hO b with z|⟨ob,xs,z⟩
     ·rw [q] at z;cases z
     ·have z2:=un.frzs b ob _ z
      obtain⟨e1,_⟩:=hok b _ z
      obtain⟨e2,_⟩:=hok' b _ z2
      rw [e] at e1;cases e1
      exact e2
 cases hk:K.lookup a with
 |some o=>
  have e:=KX a o hk
  rw [ha] at e
  cases e
  refine core (fun _=>none) (fun _=> .inl rfl) (.inr ⟨_,vs.toArray,_,hk,rfl,rfl,rfl,by rw [Zj,lenV];exact hl,by simpa using rv⟩) (fun b u z=>by have z':(none:Option HO)=some u:=z;cases z') (fun b z=>absurd rfl z) fun z=>absurd rfl z
 | none=>
  refine core (fun b=>if b=a then some (.frz {cls:= .type "list",data:= .seq vs.toArray} (.lst (ns.map V.int))) else none) (fun b=> ?_) (.inl (.inr ⟨{cls:= .type "list",data:= .seq vs.toArray},if_pos rfl⟩)) (fun b u z=> ?_) (fun b z=> ?_) fun _=>hk
  ·by_cases hb:b=a
   ·exact .inr ⟨_,_,if_pos hb⟩
   ·exact .inl (if_neg hb)
  ·by_cases hb:b=a
   ·have z':=(if_pos hb).symm.trans z
    cases z'
    subst hb
    exact⟨ha,by rw [Zh];exact hl,vs,_,rv,ha⟩
   ·have z':=(if_neg hb).symm.trans z
    cases z'
  ·by_cases hb:b=a
   ·exact hb
   ·exact absurd (if_neg hb) z
theorem xn7{l:PySem.W.OpenLaw}{n k:Nat}{q:Program}{loose:List Str}{XP:(tzA)->Heap->Prop}{YP:World->Heap->Prop}{d:DefRec}{K:Params->tz0}{CX:World->CXT}{sp:World->Sp}{x:Str}
  (hn:l.most=some n) (hn2:n<=sizeLine) (hdf:d.params.defaults=[]) (hr:Room k callerA)
  (hY:∀(w:World) (h:Heap),YP w h->(K w.params).In h)
  (F:∀(w:World) (mg:tzA) (fa:Addr) (h:Heap),(K w.params).In h->h.Ns mainGlobals mg->mg d.name=some (.ref fa)->
   ∃fd:FuncData,(∀(s:Shared) (u:Value),BindsTo s fd ⟨[u],[]⟩ [(x,u)])/\
    ∀base:Heap,(K w.params).In base->base.Ns mainGlobals mg->FnOk l.prog w (K w.params) mg base (CX w) k fa fd [x] (sp w))
  (hsp:∀(w:World) (H:Hp) (a:Addr) (ns:List Int),ns.length<=n->xj1 H->SqL (K w.params) H a (ns.map V.int)->sp w [.ref a] H (fun v _=>v= .bl true) fun _ _ _=>False)
  (hCX:∀(w:World) (H:Hp) (s:Shared) (e:Value) (s':Shared),CX w [] H s (fun _ _ _=>False) e s'->False):
  PySem.W.WalkO q loose XP YP l.row.toRowW d [] (fun f vs=>PySem.call f vs):=by
 refine Att.attach_call hn hdf fun w s₀ s₁ mg mb fa o pm cd doc a vs ns G Y ho hd hcd hmg hobj hints hlen hg=> ?_
 have KX:=hY w _ Y
 obtain⟨fd,hb,hF⟩:=F w mg fa _ KX G.T.g hmg
 exact xd2 KX G.T.g G.T.b G.T.builtins G.T.nolimit hg hobj hints (ZC hlen hn2) hr hF hb (fun H hO hS=>hsp w H a ns hlen hO hS) fun H e s'=>hCX w H s₁ e s'
def iE(s:Stmt)(j:Nat):Stmt:=match s with
 | .ClassDef _ _ _ body _ _ _ _ _ _ _=>body.getD j (.Pass ⟨0,0,0,0⟩)
 |_=> .Pass ⟨0,0,0,0⟩
def uT(s:Stmt):Arguments:=match s with
 | .FunctionDef _ a _ _ _ _ _ _ _ _=>a
 |_=>{posonlyargs:=[],args:=[],vararg:=none,kwonlyargs:=[],kw_defaults:=[],kwarg:=none,defaults:=[]}
def mF(s:Stmt):List Stmt:=match s with
 | .FunctionDef _ _ b _ _ _ _ _ _ _=>b
 |_=>[]
def aU(s:Stmt):Scope:=match s with
 | .FunctionDef _ _ _ _ _ _ sc _ _ _=>sc
 |_=>{kind:= .function,names:=[],isGenerator:=false,isCoroutine:=false}
abbrev CX0:CXT:=fun _ _ _ _ _ _=>False
abbrev E0:XK:=fun _ _ _=>False
theorem zA{X:Cx}:mR CX0 X E0:=fun _ _ _ _ _ _ _ h=>h.elim
structure Fun(K:tz0)(x qual:Str)(st:Stmt)(f:Addr)(fd:FuncData):Prop where
 ex:∃(oc:Value) (od:Option Addr) (kV doc pm:Value) (an:Option Addr) (cdv ct:Value) (osl:Array (Option Value)),
  fd=PySem.W.fnOf x qual (uT st) (mF st) (aU st) .none kV doc pm an cdv ct/\K.lookup f=some ⟨oc,od,.func fd,osl⟩/\PySem.W.codeIn K cdv qual=true
 kp:PySem.W.keepIn K (.ref f)=true
section
variable{P:Program}{w:World}{K:tz0}{mg:tzA}{base:Heap}
theorem Fun.ok{x qual:Str}{st:Stmt}{f:Addr}{fd:FuncData}{N ps:List Str}{k:Nat}{sp:Sp}(F:Fun K x qual st f fd)(S:FnScope N ps (aU st))(len:∀vs H Q E,sp vs H Q E->vs.length=ps.length)
  (hbody:∀(cdv:Value) (A:Around) (outer:List Env) (s:Shared) (H:Hp) (vs:List V) (Q:VK) (E:XK),Room k (A.deeper (envOfC qual (aU st) s.heap.objs.size f cdv))->sp vs H Q E->
   ∃t,PSs (iH CX0 P w K mg base N qual (aU st) f cdv A outer s H E).nox (mF st) t/\t {nx:=fun _ H'=>Q .non H',rt:=Q} (start N vs) H):FnOk P w K mg base CX0 (k+1) f fd ps sp:=by
 obtain⟨oc,od,kV,doc,pm,an,cdv,ct,osl,rfl,lk,hcd⟩:=F.ex
 refine xk5 lk hcd S len fun A outer s H vs Q E hr hsp=> ?_
 obtain⟨t,h,q⟩:=hbody cdv A outer s H vs Q E hr hsp
 exact⟨t,h.nox,q⟩
theorem Fun.binds{x qual:Str}{st:Stmt}{f:Addr}{fd:FuncData}{ps:List Str}(F:Fun K x qual st f fd)
  (h:∀(kV doc pm:Value) (an:Option Addr) (cdv ct:Value) (us:List Value),us.length=ps.length->bindArgs (PySem.W.fnOf x qual (uT st) (mF st) (aU st) .none kV doc pm an cdv ct) ⟨us,[]⟩=pure (ps.zip us)):kW K fd ps []:=by
 obtain⟨oc,od,kV,doc,pm,an,cdv,ct,osl,rfl,lk,hcd⟩:=F.ex
 exact .all (h kV doc pm an cdv ct)
theorem yt4{x qual:Str}{st:Stmt}{f:Addr}{oc:Value}{od an:Option Addr}{osl:Array (Option Value)}{kV doc pm cdv ct:Value}(l:K.lookup f=some ⟨oc,od,.func (PySem.W.fnOf x qual (uT st) (mF st) (aU st) .none kV doc pm an cdv ct),osl⟩)
  (c:PySem.W.codeIn K cdv qual=true) (k:PySem.W.keepIn K (.ref f)=true):Fun K x qual st f (PySem.W.fnOf x qual (uT st) (mF st) (aU st) .none kV doc pm an cdv ct):=⟨⟨oc,od,kV,doc,pm,an,cdv,ct,osl,rfl,l,c⟩,k⟩
end
theorem zB{A:Around}{k:Nat}(hr:Room k A):A.units+1<cLine:=Yo (Nat.add_le_add_left (by decide:1<=64) _) hr.units
theorem sN{n:Nat}(h:n<=1000):n<sizeLine:=Yo h (by decide)
section
variable{X:Cx}
theorem pv(i:Nat){x:Str}{pos:Pos}(hN:X.N[i]? =some x:=by rfl)(hv:Vis X.env.scope x:=by first|exact Or.inl rfl|exact Or.inr (Or.inl rfl)|exact Or.inr (Or.inr rfl))(hd:NDb x:=by decide)
  (hcd:(x==("__classdict__":Str))=false:=by decide):PE X (.Name x pos) (xi6 i):=rM hN hv hd hcd
end
theorem wf8{c A B:Prop}[Decidable c](h1:c->A)(h2:¬c->B):if c then A else B:=by
 by_cases h:c
 ·rw [if_pos h]
  exact h1 h
 ·rw [if_neg h]
  exact h2 h
def yp5(H H':Hp):Prop:=∀b o,H b=some o->H' b=some o
theorem yp5.free{H H':Hp}(e:yp5 H H'){l:Addr}(h:H' l=Option.none):H l=Option.none:=by
 cases q:H l with
 |none=>rfl
 |some o=>
  rw [e l o q] at h
  cases h
section
variable{U:Type}[DecidableEq U]
def pA(kvs:List (U×V))(k:U):Option V:=(kvs.find? fun kv=>decide (kv.1=k)).map (·.2)
def jH(kvs:List (U×V))(k:U)(v:V):List (U×V):=
 if (kvs.any fun kv=>decide (kv.1=k))=true then kvs.map (fun kv=>if kv.1=k then(kv.1,v) else kv) else kvs++[(k,v)]
theorem rQ{p:U×V}{r:List (U×V)}{k:U}(e:p.1=k):pA (p::r) k=some p.2:=by simp [pA,Yj,e]
theorem rR{p:U×V}{r:List (U×V)}{k:U}(e:¬p.1=k):pA (p::r) k=pA r k:=by simp [pA,Yj,e]
theorem zb2(k:U):∀kvs:List (U×V),(kvs.any fun kv=>decide (kv.1=k))=(pA kvs k).isSome
 |[]=>rfl
 |p::r=>by
  rw [YK]
  by_cases e:p.1=k
  ·simp only [rQ e,Zn e,Bool.true_or,Option.isSome_some]
  ·rw [rR e,Zf e,Bool.false_or];exact zb2 k r
theorem za8(kvs:List (U×V))(k:U)(v:V):(jH kvs k v).length<=kvs.length+1:=by
 unfold jH
 split
 ·rw [Zh];omega
 ·rw [Z5,Z4,ZJ];omega
theorem jU.isSome_eq{o:Option V}{u:Option Value}(r:jU o u):o.isSome=u.isSome:=by
 cases o with
 |none=>cases u with
  |none=>rfl
  |some _=>exact(show False from r).elim
 |some _=>cases u with
  |none=>exact(show False from r).elim
  |some _=>rfl
theorem KV.val{kvs:List (U×V)}{vs:List (U×Value)}(r:KV kvs vs)(k:U):jU (pA kvs k) (valueAt vs k):=by
 unfold KV at r
 induction r with
 |nil=>exact True.intro
 | @cons p q ps qs h t ih=>
  obtain⟨h1,h2⟩:=h
  by_cases e:p.1=k
  ·have e':q.1=k:=h1.symm.trans e
   have b:valueAt (q::qs) k=some q.2:=by simp [valueAt,Yj,e']
   rw [rQ e,b];exact h2
  ·have e':¬q.1=k:=fun z=>e (h1.trans z)
   have b:valueAt (q::qs) k=valueAt qs k:=by simp [valueAt,Yj,e']
   rw [rR e,b];exact ih
theorem KV.any{kvs:List (U×V)}{vs:List (U×Value)}(r:KV kvs vs)(k:U):(kvs.any fun kv=>decide (kv.1=k))=vs.any fun kv=>decide (kv.1=k):=by
 unfold KV at r
 induction r with
 |nil=>rfl
 |cons h t ih=>rw [YK,YK,ih,h.1]
theorem KV.repl{kvs:List (U×V)}{vs:List (U×Value)}(r:KV kvs vs)(k:U){y:V}{u:Value}(ry:cG y u):
  KV (kvs.map fun kv=>if kv.1=k then(kv.1,y) else kv) (vs.map fun kv=>if kv.1=k then(kv.1,u) else kv):=by
 unfold KV at r|-
 induction r with
 |nil=>exact .nil
 | @cons p q ps qs h t ih=>
  rw [Z8,Z8]
  refine .cons ?_ ih
  obtain⟨h1,h2⟩:=h
  by_cases e:p.1=k
  ·rw [if_pos e,if_pos (h1.symm.trans e)];exact⟨h1,ry⟩
  ·rw [if_neg e,if_neg (fun z=>e (h1.trans z))];exact⟨h1,h2⟩
theorem KV.put{kvs:List (U×V)}{vs:List (U×Value)}(r:KV kvs vs)(k:U){y:V}{u:Value}(ry:cG y u):KV (jH kvs k y) (stored vs k u):=by
 unfold jH stored
 rw [r.any k]
 by_cases e:(vs.any fun kv=>decide (kv.1=k))=true
 ·rw [if_pos e,if_pos e];exact r.repl k ry
 ·rw [if_neg e,if_neg e];exact Paired.snoc r ⟨rfl,ry⟩
theorem KV.length{kvs:List (U×V)}{vs:List (U×Value)}(r:KV kvs vs):kvs.length=vs.length:=ZI r
end
theorem zs9{P:Program}{w:World}{k:Key}{u:Value}(r:cG (kV k) u):(eU P w).is k u=true:=by
 cases k with
 |inl i=>obtain⟨t,e⟩:=(show ∃t,u=Value.int i t from r);subst e;exact yd6 P w i t
 |inr x=>obtain⟨t,e⟩:=(show ∃t,u=Value.str x t from r);subst e;exact yd7 P w x t
theorem zo7{P:Program}{w:World}:∀{ks:List Key} {us:List Value},bL (ks.map kV) us->ItemsAre (eU P w) ks us
 |[],_,r=>by rw [Xk] at r;cases r;exact .nil
 |k::ks,_,r=>by
  rw [Z8] at r
  cases r with
  |cons h t=>exact .cons (zs9 h) (zo7 t)
abbrev KT(H:Hp):List (List Key×V)->List (List Key×Addr×Value)->Prop:=Paired fun p q=>p.1=q.1/\H q.2.1=some (.tup (p.1.map kV))/\cG p.2 q.2.2
theorem KT.val{H:Hp}{kvs:List (List Key×V)}{xs:List (List Key×Addr×Value)}(r:KT H kvs xs)(k:List Key):jU (pA kvs k) ((atKey xs k).map (·.2)):=by
 induction r with
 |nil=>exact True.intro
 | @cons p q ps qs h t ih=>
  obtain⟨h1,_,h2⟩:=h
  by_cases e:p.1=k
  ·have e':q.1=k:=h1.symm.trans e
   have b:atKey (q::qs) k=some q.2:=by simp [atKey,Yj,e']
   rw [rQ e,b];exact h2
  ·have e':¬q.1=k:=fun z=>e (h1.trans z)
   have b:atKey (q::qs) k=atKey qs k:=by simp [atKey,Yj,e']
   rw [rR e,b];exact ih
theorem KT.repl{H:Hp}{kvs:List (List Key×V)}{xs:List (List Key×Addr×Value)}(r:KT H kvs xs)(k:List Key){y:V}{u:Value}(ry:cG y u):
  KT H (kvs.map fun kv=>if kv.1=k then(kv.1,y) else kv) (xs.map (putAt k u)):=by
 induction r with
 |nil=>exact .nil
 | @cons p q ps qs h t ih=>
  rw [Z8,Z8]
  refine .cons ?_ ih
  obtain⟨h1,h2,h3⟩:=h
  unfold putAt
  by_cases e:p.1=k
  ·rw [if_pos e,if_pos (h1.symm.trans e)];exact⟨h1,h2,ry⟩
  ·rw [if_neg e,if_neg (fun z=>e (h1.trans z))];exact⟨h1,h2,h3⟩
theorem KT.put{H:Hp}{kvs:List (List Key×V)}{xs:List (List Key×Addr×Value)}(r:KT H kvs xs)(k:List Key){b:Addr}{y:V}{u:Value}(hb:H b=some (.tup (k.map kV)))(ry:cG y u):
  KT H (jH kvs k y) (storedH xs k b u):=by
 have e:(kvs.any fun kv=>decide (kv.1=k))=(atKey xs k).isSome:=by
  rw [zb2,(r.val k).isSome_eq,Wj]
 unfold jH storedH
 rw [e]
 by_cases q:(atKey xs k).isSome=true
 ·rw [if_pos q,if_pos q];exact r.repl k ry
 ·rw [if_neg q,if_neg q];exact Paired.snoc r ⟨rfl,hb,ry⟩
theorem KT.keeps{H H':Hp}{kvs:List (List Key×V)}{xs:List (List Key×Addr×Value)}(r:KT H kvs xs)(ht:∀b ys,H b=some (.tup ys)->H' b=some (.tup ys)):KT H' kvs xs:=
 Paired.mapP r fun _ _ z=>⟨z.1,ht _ _ z.2.1,z.2.2⟩
section
variable{P:Program}{w:World}{H:Hp}{h:Heap}{a:Addr}
theorem xk7{u:HO}(ok:HOk P w H h)(e:Rd H a u):dO P w H h a u:=e.ok ok
theorem vD{kvs:List (Key×V)}(ok:HOk P w H h)(e:Rd H a (.dK kvs)):kvs.length<=sizeLine/\(a==sysModules)=false/\∃vs,KV kvs vs/\h.DictOf (eU P w) a vs:=
 show dO P w H h a (.dK kvs) from xk7 ok e
theorem wc3{kvs:List (Key×V)}(ok:HOk P w H h)(e:H a=some (.dK kvs)):kvs.length<=sizeLine/\(a==sysModules)=false/\∃vs,KV kvs vs/\h.DictOf (eU P w) a vs:=vD ok (.inl e)
theorem ze3{ks:List Key}(ok:HOk P w H h)(e:H a=some (.tup (ks.map kV))):(tupleKind (eU P w)).is h ks a:=by
 obtain⟨_,its,r,o,h1,h2,n,h3⟩:=(show dO P w H h a (.tup (ks.map kV)) from ok a _ e)
 exact⟨o,its.toArray,n,h1,h2,h3,by simpa using zo7 r⟩
theorem ze4{kvs:List (List Key×V)}(ok:HOk P w H h)(e:Rd H a (.dT kvs)):kvs.length<=sizeLine/\(a==sysModules)=false/\
  ∃xs,KT H kvs xs/\h.DictOfH (tupleKind (eU P w)) a xs:=by
 obtain⟨z,y,xs,r,o,es,ep,h1,h2,h3,h4,h5⟩:=(show dO P w H h a (.dT kvs) from xk7 ok e)
 refine⟨z,y,xs,r,o,es,ep,h1,h2,h3,h4,fun x hx=> ?_,h5⟩
 have all:∀{l:List (List Key×V)} {m:List (List Key×Addr×Value)},KT H l m->∀x∈m,(tupleKind (eU P w)).is h x.1 x.2.1:=by
  intro l m q
  induction q with
  |nil=>intro x hx;exact nomatch hx
  | @cons p q ps qs hq t ih=>
   intro x hx
   rcases Z6.mp hx with e|hx
   ·subst e
    exact ze3 ok (by rw [<-hq.1];exact hq.2.1)
   ·exact ih x hx
 exact all r x hx
theorem wc4{kvs:List (List Key×V)}(ok:HOk P w H h)(e:H a=some (.dT kvs)):kvs.length<=sizeLine/\(a==sysModules)=false/\
  ∃xs,KT H kvs xs/\h.DictOfH (tupleKind (eU P w)) a xs:=ze4 ok (.inl e)
end
def zn5(H:Hp)(a:Addr)(y:V)(r:Option V):Prop:=
 (∃kvs k,Rd H a (.dK kvs)/\y=kV k/\r=pA kvs k)\/∃kvs k b,Rd H a (.dT kvs)/\y= .ref b/\H b=some (.tup (k.map kV))/\r=pA kvs k
def wa4(H:Hp)(a:Addr)(y v:V)(H':Hp):Prop:=
 (∃kvs k,H a=some (.dK kvs)/\y=kV k/\kvs.length<sizeLine/\H'=upd H a (.dK (jH kvs k v)))\/
 ∃kvs k b,H a=some (.dT kvs)/\y= .ref b/\H b=some (.tup (k.map kV))/\kvs.length<sizeLine/\H'=upd H a (.dT (jH kvs k v))
section
variable{X:Cx}{pins:tzB}{σ:St}{H:Hp}{s:Shared}{a:Addr}{y v:V}{u r:Value}{o:Option V}{A:Around}{E:Value->Shared->Prop}
theorem Inv.big(I:Inv X pins σ H s):sysModules<s.heap.objs.size:=by
 have h:mainGlobals<s.heap.objs.size:=(I.mod.glob.keeps I.bk).lt
 exact Nat.lt_trans (by decide) h
theorem yt5{Q:Value->Shared->Prop}(hu:A.units+1<cLine)(I:Inv X pins σ H s)(g:zn5 H a y (some v))(ry:cG y u)(h:∀w' s',Inv X pins σ H s'->cG v w'->Q w' s'):
  wpAny (model X.prog X.w) A (getItem (.ref a) u) Q E s:=by
 rcases g with ⟨kvs,k,e,ey,l⟩|⟨kvs,k,b,e,ey,eb,l⟩
 ·subst ey
  obtain⟨z,hd,vs,rel,dd⟩:=vD I.hok e
  obtain⟨w',hw,rw'⟩:=jU.some_of (v:=v) (o:=valueAt vs k) (by rw [l];exact rel.val k)
  exact wpAny_getItem_of (zs9 ry) dd.mapOf hw (h w' _ (I.tok _) rw')
 ·subst ey
  cases(show u=Value.ref b from ry)
  obtain⟨z,hd,xs,rel,dd⟩:=ze4 I.hok e
  obtain⟨w',hw,rw'⟩:=jU.some_of (v:=v) (o:=(atKey xs k).map (·.2)) (by rw [l];exact rel.val k)
  obtain⟨p,hp,hp2⟩:=Zo.mp hw
  refine wpAny_getItem_heap (XA hu) (ze3 I.hok eb) dd hp ?_
  rw [hp2]
  exact h w' _ (I.tok _) rw'
theorem xn8{Q:Value->Shared->Prop}(hu:A.units+1<cLine)(I:Inv X pins σ H s)(g:zn5 H a y o)(ry:cG y u)(h:∀s',Inv X pins σ H s'->Q (.bool (!o.isSome)) s'):
  wpAny (model X.prog X.w) A (compareOp .NotIn u (.ref a)) Q E s:=by
 rcases g with ⟨kvs,k,e,ey,l⟩|⟨kvs,k,b,e,ey,eb,l⟩
 ·subst ey
  obtain⟨z,hd,vs,rel,dd⟩:=vD I.hok e
  refine wpAny_notIn_of (zs9 ry) hd dd.mapOf ?_
  rw [<-(rel.val k).isSome_eq,<-l]
  exact h _ (I.tok _)
 ·subst ey
  cases(show u=Value.ref b from ry)
  obtain⟨z,hd,xs,rel,dd⟩:=ze4 I.hok e
  refine wpAny_notIn_heap (XA hu) (ze3 I.hok eb) hd dd ?_
  have q:=(rel.val k).isSome_eq
  rw [Wj] at q
  rw [<-q,<-l]
  exact h _ (I.tok _)
theorem yf9{h':Heap}{t':Nat}{ob:HO}(I:Inv X pins σ H s)(mu:Mut (H a))(hs:Heap.SameBut a s.heap h')(he:∃q,h'.get? a=some q)(new:dO X.prog X.w (upd H a ob) h' a ob):
  Inv X pins σ (upd H a ob) {s with heap:=h',toks:=t'}:=
 I.write (x:=a) (e:=a) mu (.inl rfl) (fun b q hb z=>(hs.2 b hb).trans z) he new
theorem xv5{P:Program}{w:World}{H':Hp}{h':Heap}{kvs:List (Key×V)}{vs:List (Key×Value)}(z:kvs.length<=sizeLine)(hd:(a==sysModules)=false)(rel:KV kvs vs)(dd:h'.DictOf (eU P w) a vs):
  dO P w H' h' a (.dK kvs):=⟨z,hd,vs,rel,dd⟩
theorem yt6{H':Hp}{Q:Unit->Shared->Prop}(hu:A.units+1<cLine)(I:Inv X pins σ H s)(g:wa4 H a y v H')(ry:cG y u)(rv:cG v r)(h:∀s',Inv X pins σ H' s'->Q () s'):
  wpAny (model X.prog X.w) A (setItem (.ref a) u r) Q E s:=by
 rcases g with ⟨kvs,k,e,ey,l,eH⟩|⟨kvs,k,b,e,ey,eb,l,eH⟩
 ·subst ey eH
  obtain⟨z,hd,vs,rel,dd⟩:=wc3 I.hok e
  have hz:vs.length<=sizeLine:=by rw [<-rel.length];exact z
  have hl:(jH kvs k v).length<=sizeLine:=by have:=za8 kvs k v;omega
  refine wpAny_setItem_pairs (hsz:=hz) (zs9 ry) dd fun h' dd' hs=>h _ ?_
  have he:∃q,h'.get? a=some q:=let ⟨q,_,_,hq,_⟩:=dd';⟨q,hq⟩
  exact yf9 I (by rw [e];exact True.intro) hs he (xv5 hl hd (rel.put k rv) dd')
 ·subst ey eH
  cases(show u=Value.ref b from ry)
  obtain⟨z,hd,xs,rel,dd⟩:=wc4 I.hok e
  have hz:xs.length<=sizeLine:=by rw [<-ZI rel];exact z
  have hl:(jH kvs k v).length<=sizeLine:=by have:=za8 kvs k v;omega
  refine wpAny_setItem_heap (hsz:=hz) (XA hu) (ze3 I.hok eb) dd fun h' dd' hs=>h _ ?_
  obtain⟨q,es,ep,hq,h2,h3,h4,_,h5⟩:=dd'
  refine yf9 I (by rw [e];exact True.intro) hs ⟨q,hq⟩ ⟨hl,hd,_,(rel.put k eb rv).keeps fun c ys ec=> ?_,q,es,ep,hq,h2,h3,h4,h5⟩
  rw [aX (wb6 ec e (fun z=>nomatch z))]
  exact ec
end
section
variable{X:Cx}{pins:tzB}{σ:St}{H:Hp}{s:Shared}{a:Addr}{kvs:List (Key×V)}{k:Key}{u:Value}{A:Around}{E:Value->Shared->Prop}
theorem xn9{Q:Bool->Shared->Prop}(I:Inv X pins σ H s)(e:Rd H a (.dK kvs))(h:∀s',Inv X pins σ H s'->Q (!kvs.isEmpty) s'):wpAny (model X.prog X.w) A (truthy (.ref a)) Q E s:=by
 obtain⟨z,hd,vs,rel,dd⟩:=vD I.hok e
 refine wpAny_truthy_dict hd dd (by rw [<-rel.length];rw [Ye] at z;omega) ?_
 have q:kvs.isEmpty=vs.isEmpty:=by cases rel<;>rfl
 rw [<-q]
 exact h _ (I.tok _)
end
def xj2(i:Expr):Prop:=∀ov iv,subscripted i false ov iv=operate [ov,iv] (getItem ov iv)
theorem xo0{prog:Program}{w:World}{A:Around}{E:Value->Shared->Prop}{s:Shared}{env:Env}{value slice:Expr}{pos:Pos}{T id:String}{Q:Value->Shared->Prop}
  (hl:typeLookup (.type T) "__getitem__"=pure (some (.builtin id))) (hs:xj2 slice)
  (h:wpAny (model prog w) A (eval value env) (fun o s₁=>wpAny (model prog w) A (eval slice env) (fun i s₂=>s₂.TypeIs o T/\wpAny (model prog w) A (getItem o i) Q E s₂) E s₁) E s):
  wpAny (model prog w) A (eval (.Subscript value slice pos) env) Q E s:=by
 refine Subscript_ (ZP h (fun o s₁ h₁=>ZP h₁ (fun i s₂ h₂=> ?_) fun _ _ x=>x) fun _ _ x=>x)
 obtain⟨hT,h₂⟩:=h₂
 unfold subscriptTail
 refine Zg ?_
 rw [getitemInPython_of_ne hT.not_modules]
 refine Zg (wpAny_specialOf hT hl ?_)
 have fin:wpAny (model prog w) A (subscripted slice false o i) (fun r s₃=>wpAny (model prog w) A (letTemporaryGo value o r>>=fun _=>pure r) Q E s₃) E s₂:=by
  rw [hs o i]
  exact wpAny_operating (ZP h₂ (fun r s₃ h₃=>Zg (wpAny_letTemporaryGo (ZF h₃))) fun _ _ x=>x)
 first
  |exact ZF (Zg fin)
  |exact Zg (ZF (Zg fin))
  |exact Zg fin
theorem yd9{X:Cx}{pins:tzB}{σ:St}{H:Hp}{s:Shared}{a:Addr}{y:V}{o:Option V}(I:Inv X pins σ H s)(g:zn5 H a y o):s.TypeIs (.ref a) "dict":=by
 rcases g with ⟨kvs,k,e,_,_⟩|⟨kvs,k,b,e,_,_,_⟩
 ·obtain⟨_,_,vs,_,dd⟩:=vD I.hok e
  exact dd.typeIs
 ·obtain⟨_,_,xs,_,dd⟩:=ze4 I.hok e
  exact dd.typeIs
def wf2(td ty:TE):TE:=fun σ H Q=>td σ H fun x H1=>ty σ H1 fun y H2=>∃a v,x= .ref a/\zn5 H2 a y (some v)/\Q v H2
def xt2(ty td:TE):TE:=fun σ H Q=>ty σ H fun y H1=>td σ H1 fun x H2=>∃a o,x= .ref a/\zn5 H2 a y o/\Q (.bl (!o.isSome)) H2
def wf3(td ty tv:TE):TS:=fun D σ H=>tv σ H fun v H1=>td σ H1 fun x H2=>ty σ H2 fun y H3=>∃a H4,x= .ref a/\wa4 H3 a y v H4/\D.nx σ H4
section
variable{X:Cx}{o i e value:Expr}{pos pos' tpos:Pos}{td ty tv:TE}
theorem xo1(hu:X.A.units+1<cLine)(ho:PE X o td)(hi:PE X i ty)(hs:xj2 i):PE X (.Subscript o i pos) (wf2 td ty):=⟨by
 intro pins s σ H Q I h
 refine xo0 PySem.F.slot_dict_getitem.lookup hs (thn (ho pins s σ H _ I h) fun u s1 ⟨x,H1,I1,rx,q1⟩=>thn (hi pins s1 σ H1 _ I1 q1) fun iv s2 ⟨y,H2,I2,ry,a,v,ex,g,q2⟩=> ?_)
 subst ex
 obtain rfl:u=Value.ref a:=rx
 exact⟨yd9 I2 g,yt5 hu I2 g ry fun w' s3 I3 rw'=>⟨v,H2,I3,rw',q2⟩⟩⟩
theorem yt7(hu:X.A.units+1<cLine)(hi:PE X i ty)(ho:PE X o td):PC X .NotIn i o (xt2 ty td):=by
 intro pins s σ H Q I h
 refine thn (hi pins s σ H _ I h) fun iv s1 ⟨y,H1,I1,ry,q1⟩=>thn (ho pins s1 σ H1 _ I1 q1) fun u s2 ⟨x,H2,I2,rx,a,ov,ex,g,q2⟩=> ?_
 subst ex
 obtain rfl:u=Value.ref a:=rx
 exact xn8 hu I2 g ry fun s3 I3=>⟨.bl (!ov.isSome),H2,I3,rfl,q2⟩
theorem xo2(hu:X.A.units+1<cLine)(ho:PE X o td)(hi:PE X i ty)(hv:PE X value tv)(hs:swapsWith value (some (.Subscript o i pos')) pos.line X.env=pure false):
  PS X (.Assign [.Subscript o i pos'] value pos) (wf3 td ty tv):=⟨by
 intro pins s σ H D I h
 refine wpAny_Assign_Subscript (thn (hv pins s σ H _ I h) fun r s1 ⟨v,H1,I1,rv,q1⟩=>thn (ho pins s1 σ H1 _ I1 q1) fun u s2 ⟨x,H2,I2,rx,q2⟩=>thn (hi pins s2 σ H2 _ I2 q2) fun iv s3 ⟨y,H3,I3,ry,a,H4,ex,g,q3⟩=> ?_) hs
 subst ex
 obtain rfl:u=Value.ref a:=rx
 exact yt6 hu I3 g ry rv fun s4 I4=>⟨σ,H4,I4,q3⟩⟩
end
theorem xd3{P:Program}{w:World}{H:Hp}(h:Heap)(hb:sysModules<h.objs.size):dO P w H (h.push {cls:= .type "dict",data:= .dict #[]}) h.objs.size (.dK []):=
 ⟨ZL _,Y7.mpr (Y6 (ZE hb)),[],.nil,Heap.DictOf.new h⟩
def wa5:TE:=fun _ H Q=>∀p,H p=none->Q (.ref p) (upd H p (.dK []))
section
variable{X:Cx}{pos:Pos}
theorem xd4:PE X (.Dict [] [] pos) wa5:=⟨fun pins s σ H Q I h=>
 wpAny_Dict_empty ⟨.ref s.heap.objs.size,_,I.laid (a:=s.heap.objs.size) (o:= .dK []) (t':=s.toks) (fun _ _ q=>Ze _ q) (Za _) (xd3 s.heap I.big),rfl,h _ (I.hok.fresh (Za _))⟩⟩
end
def IsD(H:Hp)(a:Addr):Prop:=(∃kvs,Rd H a (.dK kvs))\/∃kvs,Rd H a (.dT kvs)
theorem xv6{X:Cx}{pins:tzB}{σ:St}{H:Hp}{s:Shared}{a:Addr}(I:Inv X pins σ H s)(d:IsD H a):
  s.TypeIs (.ref a) "dict"/\(∀b,Value.ref a= .ref b->∃ob,s.heap.get? b=some ob/\ob.dict=none)/\(a==sysModules)=false:=by
 rcases d with ⟨kvs,e⟩|⟨kvs,e⟩
 ·obtain⟨_,hd,vs,_,dd⟩:=vD I.hok e
  refine⟨dd.typeIs,fun b q=> ?_,hd⟩
  cases q
  obtain⟨ob,_,_,h1,h2,_⟩:=dd
  exact⟨ob,h1,h2.2.1⟩
 ·obtain⟨_,hd,xs,_,dd⟩:=ze4 I.hok e
  refine⟨dd.typeIs,fun b q=> ?_,hd⟩
  cases q
  obtain⟨ob,_,_,h1,h2,_⟩:=dd
  exact⟨ob,h1,h2.2.1⟩
structure Dn(K:tz0)(mg:tzA)(x:Str)(st:Stmt)(ps:List Str)(f:Addr)(fd:FuncData):Prop where
 F:Fun K x x st f fd
 b:kW K fd ps []
 m:mg x=some (.ref f)
section
variable{X:Cx}{x:Str}{st:Stmt}{ps:List Str}{f:Addr}{fd:FuncData}{k:Nat}{sp:Sp}{p pos:Pos}{e:Expr}{es:List Expr}{t:TA}
theorem yl6(D:Dn X.K X.mg x st ps f fd)(G:FnOk X.prog X.w X.K X.mg X.base CX0 k f fd ps sp)(hr:Room k X.A)(hg:Gl X x)(ha:PA X (e::es) t)
  (hdb:NDb x:=by decide) (he:StE e es X:=by rfl) (hpl:BkE pos es X:=by rfl):
  PE X (.Call (.Name x p) (e::es) [] pos) (zt4 sp [] E0 t):=yf8 G hr hg D.m D.F.kp D.b .nil zA ha hdb he hpl
theorem xv7(D:Dn X.K X.mg x st ps f fd)(G:FnOk X.prog X.w X.K X.mg X.base CX0 k f fd ps sp)(hr:Room k X.A)(hg:Gl X x)
  (hdb:NDb x:=by decide):PE X (.Call (.Name x p) [] [] pos) (zt4 sp [] E0 yp4):=xc6 G hr hg D.m D.F.kp D.b .nil zA hdb
end
theorem xd5{H:Hp}{p:Addr}(h:H p=none)(o:HO):yp5 H (upd H p o):=fun b u q=>by rw [aX (lX q h)];exact q
theorem zt0{n:Nat}(h:n<=1000):n<=sizeLine:=YV (sN h)
section
variable{X:Cx}
theorem zo8:∀{bs:List Bool} {us:List Value},bL (bs.map V.bl) us->LSm.BoolsAre us bs
 |[],_,.nil=> .nil
 |b::bs,_,.cons r t=>by
  cases(show _=Value.bool b from r)
  exact .cons b (zo8 t)
theorem rS:∀{ns:List Int} {us:List Value},bL (ns.map V.int) us->IntsAre us ns
 |[],_,.nil=> .nil
 |n::ns,_,.cons r t=>by
  obtain⟨k,rfl⟩:=r
  exact .cons n k (rS t)
theorem yt8(hc:X.calm=true):CallR X (.builtin "all") (fun xs H Q=>∃(a:Addr) (bs:List Bool),xs=[.ref a]/\SqL X.K H a (bs.map V.bl)/\Q (.bl (bs.all id)) H):=⟨by
 intro pins s σ H xs us Q I r h
 obtain⟨a,bs,rfl,hq,q⟩:=h
 obtain⟨u,rfl,rx⟩:=qS r
 cases(show u=Value.ref a from rx)
 obtain⟨its,rv,p,hz⟩:=I.list hq
 have hl:=p.isList
 have hb:=zo8 rv
 have hlt:a<s.heap.objs.size:=by obtain⟨_,e,_⟩:=hl;exact Zk e
 refine call_all_walk (wpAny_pyIter_list hl ?_)
 refine⟨s.heap.objs.size,[s.heap.objs.size,a],[s.heap.objs.size],its.toArray.size,_,_,fun i=>(bs[i]?).getD true,rfl,Walks.list (A:=X.A.in1) (I.ok.hd hc) _ a (ZE hlt) its.toArray,
  ⟨⟨_,Zv _ rfl,rfl,rfl⟩,hl.push _⟩,fun i v s' Q' E' hP hQ=> ?_,fun h' tk hk=> ?_⟩
 ·obtain⟨b,e,rfl⟩:=hb.get i v (by simpa using hP)
  simp only [e,Option.getD_some] at hQ
  exact ZU hQ
 ·have e:((List.range its.toArray.size).all fun i=>(bs[i]?).getD true)=bs.all id:=by
   rw [Zj,hb.length];exact LSm.range_all bs
  rw [e]
  exact⟨.bl (bs.all id),H,I.kept (LSm.kept_iter hk),rfl,q⟩⟩
theorem yt9(hc:X.calm=true):CallR X (.builtin "sum") (fun xs H Q=>∃(a:Addr) (ns:List Int),xs=[.ref a]/\SqL X.K H a (ns.map V.int)/\Q (.int ns.sum) H):=⟨by
 intro pins s σ H xs us Q I r h
 obtain⟨a,ns,rfl,hq,q⟩:=h
 obtain⟨u,rfl,rx⟩:=qS r
 cases(show u=Value.ref a from rx)
 obtain⟨its,rv,p,hz⟩:=I.list hq
 have hi:=rS rv
 obtain⟨xs,hx⟩:=hi.allInts.items
 have hl':s.heap.IsList a (intItems xs):=hx▸p.isList
 refine sum_intListG (I.ok.hd hc) hl' fun h' tk t' hk=> ?_
 have e1:ns=xs.toList.map (·.1):=by
  rw [<-nums_intItems,<-hx]
  exact(show numsOf its.toArray.toList=ns from hi.numsOf).symm
 have e2:preSum (numAt xs) xs.size=ns.sum:=by
  rw [preSum_eq,List.take_of_length_le (by simp),e1]
 rw [e2]
 exact⟨.int ns.sum,H,I.kept hk,⟨_,rfl⟩,q⟩⟩
end
theorem vE{env:Env}:∀(names:List (Str×NameKind)) (cs:List (Str×Addr)),
  (∀y∈names,y.2= .free->∃c,env.cells.lookup y.1=some c)->(∀x c,cs.lookup x=some c->env.cells.lookup x=some c)->
  ∃ cl,(forIn names cs fun(y:Str×NameKind) (r:List (Str×Addr))=>
    (if (y.2== .free)=true then(do let a<-cellOf env y.1;pure (ForInStep.yield ((y.1,a)::r))) else pure (ForInStep.yield r):Sem (ForInStep (List (Str×Addr)))))=pure cl/\
   (∀x c,cl.lookup x=some c->env.cells.lookup x=some c)/\(∀x c,cs.lookup x=some c->∃c',cl.lookup x=some c')/\(∀y∈names,y.2= .free->∃c,cl.lookup y.1=some c)
 |[],cs,_,hc=>⟨cs,rfl,hc,fun x c h=>⟨c,h⟩,fun y hy=>absurd hy (ZX)⟩
 | (n,k)::r,cs,hn,hc=>by
  have hr:∀y∈r,y.2= .free->∃c,env.cells.lookup y.1=some c:=fun y hy=>hn y (Z1 _ hy)
  by_cases hk:k= .free
  ·subst hk
   obtain⟨c,e⟩:=hn (n,.free) Z0 rfl
   have hc':∀x c',((n,c)::cs).lookup x=some c'->env.cells.lookup x=some c':=fun x c' h=>by
    rw [Zy] at h
    cases hx:x==n with
    |true=>
     rw [hx] at h
     have e1:x=n:=by simpa using hx
     have e2:c=c':=ZA h
     rw [e1,<-e2];exact e
    |false=>rw [hx] at h;exact hc x c' h
   obtain⟨cl,h1,h2,h3,h4⟩:=vE (env:=env) r ((n,c)::cs) hr hc'
   refine⟨cl,?_,h2,fun x c' h=> ?_,fun y hy hf=> ?_⟩
   ·rw [List.forIn_cons]
    have e0:cellOf env n=pure c:=by unfold cellOf;rw [e]
    simp only [e0]
    exact h1
   ·cases hx:x==n with
    |true=>
     have e1:x=n:=by simpa using hx
     exact h3 x c (by rw [Zy,hx])
    |false=>exact h3 x c' (by rw [Zy,hx];exact h)
   ·rcases Z6.mp hy with e1|hy
    ·rw [e1];exact h3 n c (by rw [Zy];simp)
    ·exact h4 y hy hf
  ·obtain⟨cl,h1,h2,h3,h4⟩:=vE (env:=env) r cs hr hc
   refine⟨cl,?_,h2,h3,fun y hy hf=> ?_⟩
   ·rw [List.forIn_cons]
    have e0:(k==NameKind.free)=false:=by simpa using hk
    simp only [e0]
    exact h1
   ·rcases Z6.mp hy with e1|hy
    ·rw [e1] at hf;exact absurd hf hk
    ·exact h4 y hy hf
theorem yl7{env:Env}{scope:Scope}(h:∀y∈scope.names,y.2= .free->∃c,env.cells.lookup y.1=some c):
  ∃cl,closureFor scope env=pure cl/\(∀x c,cl.lookup x=some c->env.cells.lookup x=some c)/\(∀y∈scope.names,y.2= .free->∃c,cl.lookup y.1=some c):=by
 obtain⟨cl,h1,h2,_,h4⟩:=vE (env:=env) scope.names [] h (fun x c e=>by simp at e)
 refine⟨cl,?_,h2,h4⟩
 have e:((forIn scope.names [] fun(y:Str×NameKind) (r:List (Str×Addr))=>
    (if (y.2== .free)=true then(do let a<-cellOf env y.1;pure (ForInStep.yield ((y.1,a)::r))) else pure (ForInStep.yield r):Sem (ForInStep (List (Str×Addr)))))>>=fun s=>pure s)=pure cl:=by rw [h1];rfl
 exact e
structure CScope(sc:Scope)(NX N:List Str)(pick:List (Option Nat))(scope:Scope):Prop where
 kind:scope.kind= .function
 nocell:∀y∈scope.names,y.2≠ .cell
 names:∀y∈scope.names,y.2= .local->scope.names.lookup y.1=some .local
 frees:∀y∈scope.names,y.2= .free->sc.names.lookup y.1=some .cell\/sc.names.lookup y.1=some .free
 pk:∀p∈N.zip pick,∀j∈p.2,NX[j]? =some p.1/\scope.names.lookup p.1=some .free
 nd:N.Nodup
 len:pick.length=N.length
def qI(pick:List (Option Nat))(σ:St):St:=pick.map fun o=>o.bind fun j=>(σ[j]?).join
def cxB(X:Cx)(N:List Str)(scope:Scope)(cl:List (Str×Addr))(fp:List Addr)(s:Shared)(H:Hp):Cx where
 prog:=X.prog
 w:=X.w
 K:=X.K
 mg:=X.mg
 base:=X.base
 A:=X.A
 N:=N
 s₀:=s
 H₀:=H
 env:=compEnvC scope cl s.heap.objs.size X.env
 outer:=X.stack
 stack:=X.stack
 ex:=fp
 fn:=fun _=>false
 calm:=X.calm
 pn:=[]
 xe:=fun _ _=>False
def wa6(X:Cx)(ifs:List Expr)(t:TT):Prop:=
 ∀(pins:tzB) (s:Shared) (σ:St) (H:Hp) (Q:Bool->Hp->Prop),Inv X pins σ H s->t σ H Q->
  wpAny (model X.prog X.w) X.A (forIn ifs true fun c r=>if r=true then do let ok<-isTrue c X.env (eval c X.env);pure (ForInStep.yield ok) else pure (ForInStep.yield r)) (TP X pins σ Q) X.xe s
structure PTs(X:Cx)(ifs:List Expr)(t:TT):Prop where
 go:wa6 X ifs t
instance {X:Cx} {ifs:List Expr} {t:TT}:CoeFun (PTs X ifs t) fun _=>wa6 X ifs t:=⟨PTs.go⟩
def wi4:TT:=fun _ H Q=>Q true H
theorem xv8{X:Cx}:PTs X [] wi4:=⟨fun pins s σ H Q I h=>wpAny_tests_nil ⟨H,I,h⟩⟩
section
variable{prog:Program}{w:World}{A:Around}{R:Result->Shared->Prop}{s:Shared}
theorem yu0{elt target iter:Expr}{ifs:List Expr}{scope:Scope}{pos:Pos}{it acc:Value}{env:Env}(I:Nat->Shared->Prop)
  (turn:∀n s,I n s->wpAny (model prog w) A (pyNext it) (fun r s1=>match r with
   |none=>R (.ok .next) s1
   | some v=>wpAny (model prog w) A (letOwnedTupleGo target it v) (fun _ s1=>wpAny (model prog w) A (assign target env v) (fun _ s2=>
     wpAny (model prog w) A (forIn ifs true fun c r=>if r=true then do let ok<-isTrue c env (eval c env);pure (ForInStep.yield ok) else pure (ForInStep.yield r)) (fun ok s3=>
      if ok=true then wpAny (model prog w) A (eval elt env) (fun x s4=>
       wpAny (model prog w) A (call (.builtin "list.append") [acc,x]) (fun _ s5=>∃m,m<n/\I m s5) (fun _ _=>False) s4) (fun _ _=>False) s3
      else ∃m,m<n/\I m s3) (fun _ _=>False) s2) (fun _ _=>False) s1) (fun _ _=>False) s1) (fun _ _=>False) s)
  (n:Nat) (h:I n s):codeAny (model prog w) A (.compLoop (.ListComp elt [⟨target,iter,ifs,0⟩] scope pos) 0 it acc env) R s:=by
 refine codeAny_loop rfl I (fun n s hI=> ?_) n h
 show wpAny _ A ((compTurn (.ListComp elt [⟨target,iter,ifs,0⟩] scope pos) 0 it acc env).onRaise (fun x=>do noteFrame x env;theTreesLotGoes x)) _ _ s
 refine wpAny_noted ?_
 rw [compTurn_list]
 refine Zg (Wf (Zg (ZP (turn n s hI) (fun r s1 h1=> ?_) fun _ _ z=>z.elim)))
 cases r with
 |none=>exact ZF h1
 | some v=>
  refine Zg (ZP h1 (fun _ s1 h1=>Zg (ZP h1 (fun _ s2 h2=>Zg (ZP h2 (fun ok s3 h3=> ?_) fun _ _ z=>z.elim)) fun _ _ z=>z.elim)) fun _ _ z=>z.elim)
  cases ok with
  |false=>exact ZF ⟨rfl,h3⟩
  |true=>
   exact Zg (Zg (ZP h3 (fun x s4 h4=>Zg (ZP h4 (fun _ s5 h5=>ZF (ZF ⟨rfl,h5⟩)) fun _ _ z=>z.elim)) fun _ _ z=>z.elim))
end
def wa7(pick:List (Option Nat))(wi:TI)(g:TG)(tt:TT)(te:TE)(σ:St)(H:Hp)(Q:Addr->Hp->Prop):Prop:=wi σ H fun J H1=>∀D,H1 D=none->
 ∃ W:Nat->Nat->St->Hp->Prop,(∃m,W 0 m (qI pick σ) (upd H1 D (.lst [])))/\∀i m σ' H',W i m σ' H'->
  (J.stop i H'/\Q D H')\/(J.go i H'/\∀x H2,J.yld i H' x H2->g x σ' H2 fun σ3 H3=>tt σ3 H3 fun b H4=>
   if b=true then te σ3 H4 fun y H5=>∃ys,H5 D=some (.lst ys)/\ys.length<sizeLine/\∃m',m'<m/\W (i+1) m' σ3 (upd H5 D (.lst (ys++[y]))) else ∃m',m'<m/\W (i+1) m' σ3 H4)
def wf4(pick:List (Option Nat))(wi:TI)(g:TG)(tt:TT)(te:TE):TE:=fun σ H Q=>wa7 pick wi g tt te σ H fun D H'=>Q (.ref D) H'
section
variable{X:Cx}{sc:Scope}{NX N:List Str}{pick:List (Option Nat)}{elt tg iter:Expr}{ifs:List Expr}{scope:Scope}{pos:Pos}{wi:TI}{g:TG}{tt:TT}{te:TE}
theorem iM{env:Env}:∀{names:List (Str×NameKind)} {x:Str} {k:NameKind},(∀y∈names,y.2≠ .cell)->
  (names.map fun(n,k)=>if (k==NameKind.free&&env.scope.kind== .function&&env.kindOf n==some .cell) then(n,NameKind.cell) else(n,k)).lookup x=some k->(k= .cell\/k= .free)->(x,NameKind.free)∈names
 |[],_,_,_,h,_=>by simp at h
 | (n,k0)::r,x,k,hn,h,hk=>by
  have hr:∀y∈r,y.2≠ .cell:=fun y hy=>hn y (Z1 _ hy)
  have h':List.lookup x ((if (k0==NameKind.free&&env.scope.kind== .function&&env.kindOf n==some .cell)=true then(n,NameKind.cell) else(n,k0))::(r.map fun(n,k)=>if (k==NameKind.free&&env.scope.kind== .function&&env.kindOf n==some .cell) then(n,NameKind.cell) else(n,k)))=some k:=h
  by_cases hc:(k0==NameKind.free&&env.scope.kind== .function&&env.kindOf n==some .cell)=true
  ·rw [if_pos hc,Zy] at h'
   cases hx:x==n with
   | true=>
    have e1:x=n:=by simpa using hx
    have e2:k0= .free:=by
     simp only [Zx,YE] at hc
     exact hc.1.1
    rw [e1,e2];exact Z0
   |false=>rw [hx] at h';exact Z1 _ (iM hr h' hk)
  ·rw [if_neg hc,Zy] at h'
   cases hx:x==n with
   | true=>
    rw [hx] at h'
    have e1:x=n:=by simpa using hx
    have e2:k0=k:=ZA h'
    have e3:k0= .free:=by
     rcases hk with z|z
     ·exact absurd (e2.trans z) (hn (n,k0) Z0)
     ·exact e2.trans z
    rw [e1,e3];exact Z0
   |false=>rw [hx] at h';exact Z1 _ (iM hr h' hk)
theorem sO{env:Env}:∀{names:List (Str×NameKind)} {x:Str},names.lookup x=some .free->
  (names.map fun(n,k)=>if (k==NameKind.free&&env.scope.kind== .function&&env.kindOf n==some .cell) then(n,NameKind.cell) else(n,k)).lookup x=some .cell\/
  (names.map fun(n,k)=>if (k==NameKind.free&&env.scope.kind== .function&&env.kindOf n==some .cell) then(n,NameKind.cell) else(n,k)).lookup x=some .free
 |[],_,h=>by simp at h
 | (n,k0)::r,x,h=>by
  have ih:= @sO env r x
  show List.lookup x ((if (k0==NameKind.free&&env.scope.kind== .function&&env.kindOf n==some .cell)=true then(n,NameKind.cell) else(n,k0))::_)=_\/List.lookup x ((if (k0==NameKind.free&&env.scope.kind== .function&&env.kindOf n==some .cell)=true then(n,NameKind.cell) else(n,k0))::_)=_
  rw [Zy] at h
  cases hx:x==n with
  |true=>
   rw [hx] at h
   have e:k0= .free:=ZA h
   subst e
   by_cases hc:(NameKind.free==NameKind.free&&env.scope.kind== .function&&env.kindOf n==some .cell)=true
   ·rw [if_pos hc];left;rw [Zy,hx]
   ·rw [if_neg hc];right;rw [Zy,hx]
  | false=>
   rw [hx] at h
   rcases ih h with z|z
   ·left
    by_cases hc:(k0==NameKind.free&&env.scope.kind== .function&&env.kindOf n==some .cell)=true
    ·rw [if_pos hc,Zy,hx];exact z
    ·rw [if_neg hc,Zy,hx];exact z
   ·right
    by_cases hc:(k0==NameKind.free&&env.scope.kind== .function&&env.kindOf n==some .cell)=true
    ·rw [if_pos hc,Zy,hx];exact z
    ·rw [if_neg hc,Zy,hx];exact z
theorem yu1{pins:tzB}{σ:St}{H:Hp}{s:Shared}{cl:List (Str×Addr)}{fp:List Addr}{h':Heap}{tk:Nat}(S:CScope sc NX N pick scope)(hsc:X.env.scope=sc)(hNX:X.N=NX)
  (I:Inv X pins σ H s) (hf:∀b∈fp,nX X pins H b) (ho:∀b∈fp,∃o,s.heap.get? b=some o)
  (c1:∀x c,cl.lookup x=some c->X.env.cells.lookup x=some c) (c2:∀y∈scope.names,y.2= .free->∃c,cl.lookup y.1=some c)
  (hns:h'.Ns s.heap.objs.size fun _=>none) (hk:∀b o,s.heap.get? b=some o->h'.get? b=some o):
  Inv (cxB X N scope cl fp s H) [] (qI pick σ) H {s with heap:=h',toks:=tk}:=by
 have lt:∀b∈fp,b<s.heap.objs.size:=fun b hb=>by obtain⟨o,e⟩:=ho b hb;exact Zk e
 refine⟨⟨I.ok.mod,S.kind,I.ok.glob,I.ok.blt,Za _,fun x y c h1 h2=>I.ok.inj x y c (c1 x c h1) (c1 y c h2),fun x hx=> ?_,fun x c z=>absurd z (by simp [cxB]),I.ok.hd,I.ok.frames,.inl rfl,
  fun b hb=>⟨ZE (lt b hb),fun x c e=>(hf b hb).2.2.2.2.1 x c (c1 x c e)⟩,I.bs,ZC I.ok.bsz I.sz,fun b o e hb=> ?_,fun b hb z=> ?_,I.stack,I.stkFree⟩,
  rfl,I.bare,Un.kept hk,⟨_,hns,fun i x v h1 h2 h3=> ?_⟩,fun x c e=> ?_,I.hok.fresh (Za _),fun x c e=>I.freeC x c (c1 x c e),fun p hp=>absurd (show p∈([]:tzB) from hp) (by simp),I.hok.kept hk,?_⟩
 ·have hx':(relabel scope X.env).names.lookup x=some .cell\/(relabel scope X.env).names.lookup x=some .free:=hx
  have hm:(x,NameKind.free)∈scope.names:=by
   rcases hx' with z|z
   ·exact iM S.nocell z (.inl rfl)
   ·exact iM S.nocell z (.inr rfl)
  exact c2 _ hm rfl
 ·rcases(hf b hb).2.2.2.1 with z|z
  ·exact I.ok.noex b o e z
  ·exact absurd (Zw (Zk e) (ZC I.ok.bsz z)) (Y2 _)
 ·rcases Z6.mp (I.stkSub b z) with z|z
  ·exact(hf b hb).2.1 z
  ·exact(hf b hb).2.2.1 z
 ·
  have hN':N[i]? =some x:=h1
  have h2':(qI pick σ)[i]? =some (some v):=h2
  unfold qI at h2'
  rw [Zb] at h2'
  cases ep:pick[i]? with
  |none=>rw [ep] at h2';cases h2'
  | some o=>
   rw [ep] at h2'
   cases o with
   |none=>cases h2'
   | some j=>
    have h4:(σ[j]?).join=some v:=ZA h2'
    have h5:σ[j]? =some (some v):=by
     cases e:σ[j]? with
     |none=>rw [e] at h4;cases h4
     |some q=>rw [e] at h4;exact ZM some h4
    have hz:(x,some j)∈N.zip pick:=by
     refine ZG (i:=i) ?_
     rw [List.getElem?_zip_eq_some];exact⟨hN',ep⟩
    obtain⟨h6,h7⟩:=S.pk _ hz j rfl
    have hfr:(x,NameKind.free)∈scope.names:=Y9 h7
    have hcf:=S.frees _ hfr rfl
    have hcf':X.env.kindOf x=some .cell\/X.env.kindOf x=some .free:=by
     show X.env.scope.names.lookup x=_\/X.env.scope.names.lookup x=_
     rw [hsc];exact hcf
    obtain⟨m,hn,hl⟩:=I.loc
    obtain⟨u,ru,lk⟩:=hl j x v (by rw [hNX];exact h6) h5 (.inr hcf')
    refine⟨u,ru,.inr ⟨sO h7,?_⟩⟩
    obtain⟨c,ec⟩:=c2 _ hfr rfl
    refine⟨c,ec,?_⟩
    rcases lk with ⟨k1,_⟩|⟨_,c',ec',hcell⟩
    ·rcases hcf' with z|z
     ·rw [k1] at z;cases z
     ·rw [k1] at z;cases z
    ·have e':=c1 x c ec
     rw [ec'] at e'
     cases e'
     obtain⟨o,e1,e2⟩:=hcell
     exact⟨o,hk _ _ e1,e2⟩
 ·obtain⟨v,o,e1,e2⟩:=I.cell x c (c1 x c e)
  exact⟨v,o,hk _ _ e1,e2⟩
 ·show(qI pick σ).length=N.length
  unfold qI
  rw [Zh];exact S.len
theorem yl8{pins:tzB}{σ σ':St}{H H':Hp}{s s':Shared}{cl:List (Str×Addr)}{fp:List Addr}(I:Inv X pins σ H s)(hf:∀b∈fp,nX X pins H b)
  (J:Inv (cxB X N scope cl fp s H) [] σ' H' s'):Inv X pins σ H' s':=
 I.call' (ch:=fp) J.os J.base J.hok J.bare fun b hb=>⟨(hf b hb).2.2.2.1,(hf b hb).2.1,(hf b hb).2.2.2.2.1,(hf b hb).2.2.2.2.2⟩
theorem yl9{pins:tzB}{σ:St}{H2:Hp}{s2:Shared}{cl:List (Str×Addr)}{J:It}{fp:List Addr}{it:Addr}{tn:Nat->Heap->Prop}{RR:Value->Addr->Result->Shared->Prop}{E:Value->Shared->Prop}{Q:Addr->Hp->Prop}
  (S:CScope sc NX N pick scope) (hsc:X.env.scope=sc) (hNX:X.N=NX) (hc:X.calm=true)
  (hg:∀cl fp s H,PG (cxB X N scope cl fp s H) tg g) (ht:∀cl fp s H,PTs (cxB X N scope cl fp s H) ifs tt) (he:∀cl fp s H,PE (cxB X N scope cl fp s H) elt te)
  (I2:Inv X pins σ H2 s2) (T:Turn X.prog X.w X.K tg J fp it tn) (st2:tn 0 s2.heap) (f2:∀b∈fp,nX X pins H2 b)
  (c1:∀x c,cl.lookup x=some c->X.env.cells.lookup x=some c) (c2:∀y∈scope.names,y.2= .free->∃c,cl.lookup y.1=some c)
  (q:∀D,H2 D=none->∃W:Nat->Nat->St->Hp->Prop,(∃m,W 0 m (qI pick σ) (upd H2 D (.lst [])))/\∀i m σ' H',W i m σ' H'->
   (J.stop i H'/\Q D H')\/(J.go i H'/\∀x H2,J.yld i H' x H2->g x σ' H2 fun σ3 H3=>tt σ3 H3 fun b H4=>
    if b=true then te σ3 H4 fun y H5=>∃ys,H5 D=some (.lst ys)/\ys.length<sizeLine/\∃m',m'<m/\W (i+1) m' σ3 (upd H5 D (.lst (ys++[y]))) else ∃m',m'<m/\W (i+1) m' σ3 H4))
  (fin:∀D C H' s',Inv X pins σ H' s'->H' C=none->X.s₀.heap.objs.size<=C->C≠X.env.locals->(∀x c,X.env.cells.lookup x=some c->c≠C)->(∀p∈X.pn++pins,p.1≠C)->(∃m,s'.heap.Ns C m)->Q D H'->RR (.ref D) C (.ok .next) s'):
  wpAny (model X.prog X.w) X.A (newList []) (fun acc s3=>wpAny (model X.prog X.w) X.A (newFunctionEnv scope X.env.globals cl [] X.env.qual none .none (some X.env)) (fun cenv s4=>
   codeAny (model X.prog X.w) X.A (.compStart (.ListComp elt [⟨tg,iter,ifs,0⟩] scope pos) 0 (.ref it) acc {cenv with scope:=relabel scope X.env}) (RR acc cenv.locals) s4) E s3) E s2:=by
 have hD:H2 s2.heap.objs.size=none:=I2.hok.fresh (Za _)
 obtain⟨W,⟨m0,w0⟩,turn⟩:=q _ hD
 refine wpAny_newObj_type (wpAny_newFunctionEnv S.nocell (by intro y hy;simp at hy) (fun h1 hns hsb=> ?_) S.kind)
 have I3:Inv X pins σ (upd H2 s2.heap.objs.size (.lst [])) {s2 with heap:=s2.heap.push {cls:= .type "list",dict:=none,data:= .seq ([]:List Value).toArray}}:=
  I2.lnew (t':=s2.toks) (its:=[]) (ys:=[]) .nil (ZL _)
 have ne:∀b∈fp,b≠s2.heap.objs.size:=fun b hb z=>by
  obtain⟨o,e,_⟩:=T.obj _ _ st2 b hb
  exact absurd (Zk e) (by rw [z];exact Y2 _)
 have f3:∀b∈fp,nX X pins (upd H2 s2.heap.objs.size (.lst [])) b:=fun b hb=>⟨by rw [aX (ne b hb)];exact(f2 b hb).1,(f2 b hb).2⟩
 have ho3:∀b∈fp,∀o,s2.heap.get? b=some o->(s2.heap.push {cls:= .type "list",dict:=none,data:= .seq ([]:List Value).toArray}).get? b=some o:=fun b _ o e=>Ze _ e
 have st3:=T.keep _ _ _ st2 ho3
 generalize hH3:s2.heap.push {cls:= .type "list",dict:=none,data:= .seq ([]:List Value).toArray}=H3 at hns hsb I3 ho3 st3|-
 dsimp only at hns hsb|-
 have hk:∀b o,H3.get? b=some o->h1.get? b=some o:=fun b o e=>hsb.extBut b o (ZE (Zk e)) (Ze _ e)
 have B0:Inv (cxB X N scope cl fp {s2 with heap:=H3} (upd H2 s2.heap.objs.size (.lst []))) [] (qI pick σ) (upd H2 s2.heap.objs.size (.lst [])) {s2 with heap:=h1,toks:=s2.toks+([]:List (Str×Value)).length}:=
  yu1 (s:={s2 with heap:=H3}) S hsc hNX I3 f3 (fun b hb=>by obtain⟨o,e,_⟩:=T.obj _ _ st3 b hb;exact⟨o,e⟩) c1 c2 hns hk
 have st4:tn 0 h1:=T.keep _ _ _ st3 fun b _ o e=>hk b o e
 have fpY:∀{H':Hp},(∀b∈fp,H' b=none)->∀b∈fp,nX (cxB X N scope cl fp {s2 with heap:=H3} (upd H2 s2.heap.objs.size (.lst []))) [] H' b:=fun hn b hb=>
  ⟨hn b hb,(B0.ok.exf b hb).1,B0.ok.exfs b hb,.inl hb,(B0.ok.exf b hb).2,fun p hp=>absurd (show p∈([]:tzB) from hp) (by simp)⟩
 have loop:∀s4:Shared,s4={s2 with heap:=h1,toks:=s2.toks+([]:List (Str×Value)).length}->
   codeAny (model X.prog X.w) X.A (.compLoop (.ListComp elt [⟨tg,iter,ifs,0⟩] scope pos) 0 (.ref it) (.ref s2.heap.objs.size) (compEnvC scope cl H3.objs.size X.env)) (RR (.ref s2.heap.objs.size) H3.objs.size) s4:=by
  rintro s4 rfl
  refine yu0 (fun n s'=>∃i σ' H',Inv (cxB X N scope cl fp {s2 with heap:=H3} (upd H2 s2.heap.objs.size (.lst []))) [] σ' H' s'/\tn i s'.heap/\(∀b∈fp,H' b=none)/\W i n σ' H') ?_ m0
   ⟨0,_,_,B0,st4,fun b hb=>(f3 b hb).1,w0⟩
  rintro n s5 ⟨i,σ5,H5,I5,st5,fr5,w5⟩
  rcases turn i n σ5 H5 w5 with ⟨stop,qn⟩|⟨go,step⟩
  ·refine thn (T.done (cxB X N scope cl fp {s2 with heap:=H3} (upd H2 s2.heap.objs.size (.lst []))) rfl rfl rfl hc i [] s5 σ5 H5 _ I5 (fpY fr5) st5 stop) fun r s6 ⟨hr,I6⟩=> ?_
   subst hr
   obtain⟨m,hm,_⟩:=I6.loc
   have sz:X.s₀.heap.objs.size<=H3.objs.size:=I3.sz
   refine fin _ _ H5 s6 (yl8 I3 f3 I6) I6.free sz (XU I3.lt) (fun x c e z=> ?_) (fun p hp z=> ?_) ⟨m,hm⟩ qn
   ·obtain⟨v,z2⟩:=I3.cell x c e
    exact absurd z2.lt (by rw [z];exact Y2 _)
   ·exact absurd (Zk (I3.pin p hp).1) (by rw [z];exact Y2 _)
  ·refine thn (T.item (cxB X N scope cl fp {s2 with heap:=H3} (upd H2 s2.heap.objs.size (.lst []))) rfl rfl rfl hc i [] s5 σ5 H5 _ I5 (fpY fr5) st5 go) fun r s6 ⟨u,hr,h6⟩=> ?_
   subst hr
   refine thn h6 fun _ s7 ⟨x,H7,I7,r7,y7,st7,fr7⟩=> ?_
   have I7':=I7.pinned (fpY fr7) (T.obj _ _ st7)
   have back:∀{σ8:St} {H8:Hp} {s8:Shared},Inv (cxB X N scope cl fp {s2 with heap:=H3} (upd H2 s2.heap.objs.size (.lst []))) ([]++uS fp s7.heap) σ8 H8 s8->
     tn (i+1) s8.heap/\∀b∈fp,H8 b=none:=fun {σ8 H8 s8} I8=>by
    refine⟨T.keep _ _ _ st7 fun b hb o e=>(I8.pin (b,o) (Z9 _ (Z9 _ (qR hb e)))).1,fun b hb=> ?_⟩
    obtain⟨o,e,d⟩:=T.obj _ _ st7 b hb
    exact(I8.pin (b,o) (Z9 _ (Z9 _ (qR hb e)))).2.1
   refine thn (hg _ _ _ _ _ s7 σ5 H7 x u _ I7' r7 (step x H7 y7)) fun _ s8 ⟨σ8,H8,I8,q8⟩=> ?_
   refine thn (ht _ _ _ _ _ s8 σ8 H8 _ I8 q8) fun ok s9 ⟨H9,I9,q9⟩=> ?_
   cases ok with
   |false=>
    rw [if_neg (by decide)] at q9|-
    obtain⟨m',hm,w9⟩:=q9
    obtain⟨b1,b2⟩:=back I9
    exact⟨m',hm,i+1,σ8,H9,I9.unpinned,b1,b2,w9⟩
   | true=>
    rw [if_pos rfl] at q9|-
    refine thn (he _ _ _ _ _ s9 σ8 H9 _ I9 q9) fun v s10 ⟨y,H10,I10,ry,ys,hys,hlen,m',hm,w10⟩=> ?_
    have ap:=zo5 (X:=cxB X N scope cl fp {s2 with heap:=H3} (upd H2 s2.heap.objs.size (.lst []))) ([]++uS fp s7.heap) s10 σ8 H10 (.ref s2.heap.objs.size) [y] (.ref s2.heap.objs.size) [v]
     (fun z H'=>z= .non/\H'=upd H10 s2.heap.objs.size (.lst (ys++[y]))) I10 rfl (.cons ry .nil) ⟨_,ys,y,rfl,rfl,hys,hlen,rfl,rfl⟩
    refine thn ap fun z s11 ⟨z',H11,I11,_,_,e11⟩=> ?_
    subst e11
    obtain⟨b1,b2⟩:=back I11
    exact⟨m',hm,i+1,σ8,_,I11.unpinned,b1,b2,w10⟩
 exact codeAny_compStart_list (loop _ rfl) (T.self _ _ _ _ _ st4 (loop _ rfl))
theorem xo3(S:CScope sc NX N pick scope)(hsc:X.env.scope=sc)(hNX:X.N=NX)(hc:X.calm=true)(hi:PI X tg iter wi)
  (hg:∀cl fp s H,PG (cxB X N scope cl fp s H) tg g) (ht:∀cl fp s H,PTs (cxB X N scope cl fp s H) ifs tt) (he:∀cl fp s H,PE (cxB X N scope cl fp s H) elt te)
  (hs:∀x,foldedSetIterable iter X.env x=pure x:=by intro _;rfl):PE X (.ListComp elt [⟨tg,iter,ifs,0⟩] scope pos) (wf4 pick wi g tt te):=⟨by
 intro pins s σ H Q I h
 rw [eval_ListComp]
 have hfr:∀y∈scope.names,y.2= .free->∃c,X.env.cells.lookup y.1=some c:=fun y hy hf=>I.ok.has y.1 (by
  show X.env.scope.names.lookup y.1=_\/X.env.scope.names.lookup y.1=_
  rw [hsc];exact S.frees y hy hf)
 obtain⟨cl,hcl,c1,c2⟩:=yl7 hfr
 refine wpAny_comprehension_free (use:=none) rfl hs hcl S.kind S.names (thn (hi pins s σ H _ I h) fun v s1 h1=>thn h1 fun itv s2 h2=> ?_)
 obtain⟨it,fp,tn,J,H2,e,I2,T,st2,f2,q⟩:=h2
 subst e
 refine yl9 (RR:=fun acc C=>compPost (model X.prog X.w) X.A X.xe none (EP X pins σ Q) acc C) (Q:=fun D H'=>Q (.ref D) H') S hsc hNX hc hg ht he I2 T st2 f2 c1 c2 q ?_
 intro D C H' s' I' n1 n2 n3 n4 n5 ⟨m,hm⟩ q'
 exact⟨m,hm,fun h' hb=>⟨.ref D,H',I'.turned (t':=s'.toks) (it:=C) (fun b o hbc e=>(hb.2 b hbc).trans e) n1 n3 (.inr n2) n4 n5,rfl,q'⟩⟩⟩
end
section
variable{X:Cx}{tg:Expr}
theorem zo9:∀(l:List (Str×Tok)),bL ((l.map (·.1)).map V.str) (strValues l)
 |[]=> .nil
 |(x,t)::r=> .cons ⟨t,rfl⟩ (zo9 r)
theorem zw0:∀{ys:List Str} {us:List Value},bL (ys.map V.str) us->StrsAre us ys
 |[],_,.nil=> .nil
 |y::ys,_,.cons r t=>by
  obtain⟨k,rfl⟩:=r
  exact .cons y k (zw0 t)
theorem xd6:MtR X "str.split" (fun x xs H Q=>∃z y,x= .str z/\xs=[.str y]/\(y.length==0)=false/\z.length<1000000/\∀p,H p=none->Q (.ref p) (upd H p (.lst ((Txt.split z y).map V.str)))):=⟨by
 intro pins s σ H x xs v us Q I rx r h
 obtain⟨z,y,rfl,rfl,hy,hz,q⟩:=h
 obtain⟨t,rfl⟩:=rx
 obtain⟨u,rfl,t',rfl⟩:=qS r
 have hs:sizeLine=16777216:=Ye
 have hsz:z.length<=sizeLine:=by omega
 have hoc:=StrLaws.occ_length_le_len z y 0 z.length (z.length+1)
 have hpb:(Builtin.Str.partsBetween z (Builtin.Str.occurrences z y 0 z.length (z.length+1)) y.length).length<=z.length+2:=by
  unfold Builtin.Str.partsBetween
  rw [Zh,List.length_zip]
  simp only [Z4,Zh,Z5,ZJ]
  omega
 have hn:H s.heap.objs.size=none:=I.fresh
 have fin:∀(l:List (Str×Tok)) (tk:Nat),l.map (·.1)=Txt.split z y->l.length<=sizeLine->EP X pins σ Q (.ref s.heap.objs.size) {s with heap:=s.heap.push {cls:= .type "list",data:= .seq (strValues l).toArray},toks:=tk}:=fun l tk e hl=>by
  refine⟨.ref s.heap.objs.size,_,I.lnew (t':=tk) (ys:=(l.map (·.1)).map V.str) (zo9 l) (by rw [Zh,Zh];exact hl),rfl,?_⟩
  rw [e];exact q _ hn
 cases h1:(decide (z.length<y.length)||decide (Builtin.Str.strKind z<Builtin.Str.strKind y))
 ·cases hf:(Builtin.Str.occurrences z y 0 z.length (z.length+1)).isEmpty
  ·refine Xz XM (Xy _ _ _) XG (XB _ _) (meets_str_split_sep z y t t' h1 hy hf hsz (by omega)) ?_
   show wants _ _ _ {s with toks:=_,heap:=s.heap.push {cls:= .type "list",data:= .seq (strsFrom s.toks (Builtin.Str.partsBetween z (Builtin.Str.occurrences z y 0 z.length (z.length+1)) y.length)).toArray}}
   rw [strsFrom_eq]
   refine fin (numbered s.toks _) _ ((numbered_texts _ _).trans ((if_neg (Xc h1)).trans (if_neg (Xc hf))).symm) ?_
   have e:=ZM List.length (numbered_texts s.toks (Builtin.Str.partsBetween z (Builtin.Str.occurrences z y 0 z.length (z.length+1)) y.length))
   rw [Zh] at e
   omega
  ·exact Xz XM (Xy _ _ _) XG (XB _ _) (meets_str_split_not_found z y t t' h1 hy hf) (fin [(z,t)] s.toks ((if_neg (Xc h1)).trans (if_pos hf)).symm (by simp;omega))
 ·exact Xz XM (Xy _ _ _) XG (XB _ _) (meets_str_split_cannot_occur z y t t' h1) (fin [(z,t)] s.toks (if_pos h1).symm (by simp;omega))⟩
theorem xo4:MtR X "str.join" (fun x xs H Q=>∃(z:Str) (a:Addr) (ys:List Str),x= .str z/\xs=[.ref a]/\SqL X.K H a (ys.map V.str)/\z.length<=16/\(ys.map (·.length)).sum+ys.length<=1048576/\Q (.str (Txt.join z ys)) H):=⟨by
 intro pins s σ H x xs v us Q I rx r h
 obtain⟨z,a,ys,rfl,rfl,hq,hz,hw,q⟩:=h
 obtain⟨t,rfl⟩:=rx
 obtain⟨u,rfl,ru⟩:=qS r
 cases(show u=Value.ref a from ru)
 obtain⟨its,rv,p,hl⟩:=I.list hq
 exact join_listW p.isList (by simpa using zw0 rv) hz hw fun t' k=>⟨.str _,H,I.tok k,⟨_,rfl⟩,q⟩⟩
end
mutual
inductive Dp(K:tz0)(H:Hp):V->PyData->Prop
 |non:Dp K H .non .none
 |bl (b:Bool):Dp K H (.bl b) (.bool b)
 |int (i:Int):Dp K H (.int i) (.int i)
 |str (x:Str):Dp K H (.str x) (.str x)
 |lst {a:Addr} {xs:List V} {ds:List PyData}:SqL K H a xs->DpAll K H xs ds->Dp K H (.ref a) (.list ds)
 |tup {a:Addr} {xs:List V} {ds:List PyData}:SqT K H a xs->DpAll K H xs ds->Dp K H (.ref a) (.tuple ds)
inductive DpAll(K:tz0)(H:Hp):List V->List PyData->Prop
 |nil:DpAll K H [] []
 |cons {v:V} {vs:List V} {d:PyData} {ds:List PyData}:Dp K H v d->DpAll K H vs ds->DpAll K H (v::vs) (d::ds)
end
section
variable{X:Cx}{pins:tzB}{σ:St}{H:Hp}{s:Shared}
mutual
theorem Dp.reads(I:Inv X pins σ H s):∀{v:V} {d:PyData} {u:Value},Dp X.K H v d->cG v u->∃as,Reads s.heap u d as
 |_,_,u,.non,r=>by cases(show u=Value.none from r);exact⟨_,.none⟩
 |_,_,u,.bl b,r=>by cases(show u=Value.bool b from r);exact⟨_,.bool b⟩
 |_,_,u,.int i,r=>by obtain⟨t,rfl⟩:=r;exact⟨_,.int i t⟩
 |_,_,u,.str x,r=>by obtain⟨t,rfl⟩:=r;exact⟨_,.str x t⟩
 |_,_,u,.lst (a:=a) h hs,r=>by
  cases(show u=Value.ref a from r)
  obtain⟨its,rv,p,hz⟩:=I.list h
  obtain⟨as,ra⟩:=DpAll.reads I hs rv
  obtain⟨o,e,c,n,d⟩:=p.isList
  exact⟨_,.list e c d (by simpa using ra)⟩
 |_,_,u,.tup (a:=a) h hs,r=>by
  cases(show u=Value.ref a from r)
  obtain⟨its,rv,p,hz⟩:=I.tuple h
  obtain⟨as,ra⟩:=DpAll.reads I hs rv
  obtain⟨o,e,c,n,d⟩:=p
  exact⟨_,.tuple e c d (by simpa using ra)⟩
theorem DpAll.reads(I:Inv X pins σ H s):∀{vs:List V} {ds:List PyData} {us:List Value},DpAll X.K H vs ds->bL vs us->∃as,ReadsAll s.heap us ds as
 |_,_,_,.nil,.nil=>⟨_,.nil⟩
 |_,_,_,.cons h hs,.cons r rs=>by
  obtain⟨as,ra⟩:=Dp.reads I h r
  obtain⟨bs,rb⟩:=DpAll.reads I hs rs
  exact⟨_,.cons ra rb⟩
end
end
section
variable{X:Cx}
def wa8(K:tz0)(neg:Bool):R2:=fun x y H Q=>∃d e,Dp K H x d/\Dp K H y e/\d.canLay0=true/\e.canLay0=true/\d.depth<=60/\Q (.bl (if neg then !PyData.eqv d e else PyData.eqv d e)) H
theorem xv9(hu:X.A.units+64<cLine):OpR X (compareOp .Eq) (wa8 X.K false):=⟨by
 intro pins s σ H x y v u Q I rx ry h
 obtain⟨d,e,hx,hy,cx,cy,dz,q⟩:=h
 obtain⟨as,ra⟩:=hx.reads I rx
 obtain⟨bs,rb⟩:=hy.reads I ry
 exact SeqAt.compareEq_reads ra rb cx cy (by have:=Nat.min_le_left d.depth e.depth;omega) ⟨.bl _,H,I,rfl,q⟩⟩
theorem xw0(hu:X.A.units+64<cLine):OpR X (compareOp .NotEq) (wa8 X.K true):=⟨by
 intro pins s σ H x y v u Q I rx ry h
 obtain⟨d,e,hx,hy,cx,cy,dz,q⟩:=h
 obtain⟨as,ra⟩:=hx.reads I rx
 obtain⟨bs,rb⟩:=hy.reads I ry
 exact SeqAt.compareNe_reads ra rb cx cy (by have:=Nat.min_le_left d.depth e.depth;omega) ⟨.bl _,H,I,rfl,q⟩⟩
end
section
variable{prog:Program}{w:World}{A:Around}{E:Value->Shared->Prop}{s:Shared}{env:Env}
theorem ye0{l:Addr}{items:Array Value}{elts:List Expr}{k:Nat}{pos:Pos}{Q:Unit->Shared->Prop}(hh:A.handled=none)(hl:s.heap.IsList l items)(hn:(assignEach elts env).length=items.size)
  (hstar:(assignEach elts env).findIdx? (·.1)=none) (h:∀h',Heap.ExtBut s.heap.objs.size s.heap h'->wpAny (model prog w) A (assignInOrder ((assignEach elts env).map (·.2)) items.toList) Q E {s with heap:=h'}):
  wpAny (model prog w) A (assign (.Tuple elts k pos) env (.ref l)) Q E s:=by
 rw [assign_Tuple]
 refine Zg (Wf ?_)
 unfold unpack
 rw [hn,hstar]
 exact Zg (YD (PySem.W.kun_itemsOf hh hl h))
end
section
variable{X:Cx}{pos:Pos}
def xj3(K:tz0)(n:Nat)(t:TGs):TG:=fun v σ H Q=>∃a xs,v= .ref a/\SqL K H a xs/\xs.length=n/\t xs σ H Q
theorem xw1{es:List Expr}{k:Nat}{t:TGs}{n:Nat}(hc:X.calm=true)(h:PGs X es t)
  (hn:(assignEach es X.env).length=n:=by rfl) (hst:(assignEach es X.env).findIdx? (·.1)=none:=by rfl):PG X (.Tuple es k pos) (xj3 X.K n t):=⟨by
 intro pins s σ H v u Q I r hw
 obtain⟨a,xs,e1,hq,hl,hw⟩:=hw
 subst e1
 cases r
 obtain⟨its,rv,ht,hz⟩:=I.list hq
 refine ye0 (I.ok.hd hc) ht.isList (by simp [hn,<-hl,rv.length]) hst fun h' hx=> ?_
 have I1:Inv X pins σ H {s with heap:=h'}:=I.kept (t':=s.toks) fun b o e=>hx b o (ZE (Zk e)) e
 exact h pins _ σ H xs _ Q I1 (by simpa using rv) hw⟩
end
inductive AreC:List Expr->List V->Prop
 |nil:AreC [] []
 |int {i:Int} {j:Nat} {pos:Pos} {es:List Expr} {vs:List V}:AreC es vs->AreC (.Constant (.int i) j pos::es) (.int i::vs)
 |str {x:Str} {j:Nat} {pos:Pos} {es:List Expr} {vs:List V}:AreC es vs->AreC (.Constant (.str x) j pos::es) (.str x::vs)
 |bl {b:Bool} {j:Nat} {pos:Pos} {es:List Expr} {vs:List V}:AreC es vs->AreC (.Constant (.bool b) j pos::es) (.bl b::vs)
 |non {j:Nat} {pos:Pos} {es:List Expr} {vs:List V}:AreC es vs->AreC (.Constant .none j pos::es) (.non::vs)
def zh8(vs:List V):TA:=fun _ H Q=>Q vs H
theorem yu2{X:Cx}{es:List Expr}{vs:List V}(h:AreC es vs):PA X es (zh8 vs):=by
 induction h with
 |nil=>exact nM
 |int _ ih=>exact⟨fun pos pins s σ H Q I q=>fU (t:=zh8 _) iF ih rfl pos pins s σ H Q I q⟩
 |str _ ih=>exact⟨fun pos pins s σ H Q I q=>fU (t:=zh8 _) yr1 ih rfl pos pins s σ H Q I q⟩
 |bl _ ih=>exact⟨fun pos pins s σ H Q I q=>fU (t:=zh8 _) xk1 ih rfl pos pins s σ H Q I q⟩
 |non _ ih=>exact⟨fun pos pins s σ H Q I q=>fU (t:=zh8 _) yr0 ih rfl pos pins s σ H Q I q⟩
set_option genInjectivity true in
inductive D where
 |non|bl (b:Bool)|int (i:Int)|str (x:Str)|ty (n:String)
 |tup (xs:List D)|con (xs:List D)|lst (o:Bool) (xs:List D)|dic (o:Bool) (ks:List Key) (vs:List D)|obj (o:Bool) (C:Str) (ns:List Str) (vs:List D)
mutual
def D.imm:D->Bool
 | .tup xs=>D.imms xs
 | .con xs=>D.imms xs
 | .lst o xs=> !o&&D.imms xs
 | .dic o _ vs=> !o&&D.imms vs
 | .obj o _ _ vs=> !o&&D.imms vs
 |_=>true
def D.imms:List D->Bool
 |[]=>true
 |d::ds=>d.imm&&D.imms ds
end
def kd:HO->Bool
 | .lst _=>true
 | .tup _=>true
 | .dK _=>true
 | .ins _ _ _=>true
 | .frz _ _=>true
 | .xd _=>true
 |_=>false
def tf:HO->Bool
 | .tup _=>true
 | .frz _ _=>true
 |_=>false
theorem lA(h:tf o=true):kd o=true:=by cases o<;>first|rfl|cases h
def SqF(K:tz0)(H:Hp)(a:Addr)(xs:List V):Prop:=(∃o,H a=some (.frz o (.lst xs)))\/
 ∃(o:Obj) (its:Array Value) (n:Nat),K.lookup a=some o/\o.cls= .type "list"/\o.dict=none/\o.data= .seq its n/\its.size<=sizeLine/\bL xs its.toList
mutual
inductive Rep(K:tz0)(U:tz9)(H:Hp):V->D->List Addr->Prop
 |non:Rep K U H .non .non []
 |bl (b:Bool):Rep K U H (.bl b) (.bl b) []
 |int (i:Int):Rep K U H (.int i) (.int i) []
 |str (x:Str):Rep K U H (.str x) (.str x) []
 |ty (n:String):Rep K U H (.ty n) (.ty n) []
 |tup {a:Addr} {vs:List V} {ds:List D}:SqT K H a vs->Reps K U H vs ds []->Rep K U H (.ref a) (.tup ds) []
 |con {a:Addr} {vs:List V} {ds:List D}:SqF K H a vs->Reps K U H vs ds []->Rep K U H (.ref a) (.con ds) []
 |lst {a:Addr} {vs:List V} {ds:List D} {fp:List Addr}:H a=some (.lst vs)->Reps K U H vs ds fp->Rep K U H (.ref a) (.lst true ds) (a::fp)
 |lstF {a:Addr} {o:Obj} {vs:List V} {ds:List D}:H a=some (.frz o (.lst vs))->Reps K U H vs ds []->Rep K U H (.ref a) (.lst false ds) []
 |dic {a:Addr} {kvs:List (Key×V)} {ks:List Key} {ds:List D} {fp:List Addr}:H a=some (.dK kvs)->kvs.map (·.1)=ks->Reps K U H (kvs.map (·.2)) ds fp->Rep K U H (.ref a) (.dic true ks ds) (a::fp)
 |dicF {a:Addr} {o:Obj} {kvs:List (Key×V)} {ks:List Key} {ds:List D}:H a=some (.frz o (.dK kvs))->kvs.map (·.1)=ks->Reps K U H (kvs.map (·.2)) ds []->Rep K U H (.ref a) (.dic false ks ds) []
 |obj {a dx:Addr} {C:Str} {fs:List (Str×V)} {ns:List Str} {ds:List D} {fp:List Addr}:H a=some (.ins (U C) dx fs)->fs.map (·.1)=ns->Reps K U H (fs.map (·.2)) ds fp->Rep K U H (.ref a) (.obj true C ns ds) (a::fp)
 |objF {a dx:Addr} {o:Obj} {C:Str} {fs:List (Str×V)} {ns:List Str} {ds:List D}:H a=some (.frz o (.ins (U C) dx fs))->fs.map (·.1)=ns->Reps K U H (fs.map (·.2)) ds []->Rep K U H (.ref a) (.obj false C ns ds) []
inductive Reps(K:tz0)(U:tz9)(H:Hp):List V->List D->List Addr->Prop
 |nil:Reps K U H [] [] []
 |cons {v:V} {vs:List V} {d:D} {ds:List D} {f g:List Addr}:Rep K U H v d f->Reps K U H vs ds g->Reps K U H (v::vs) (d::ds) (f++g)
end
section
variable{K:tz0}{U:tz9}{H H':Hp}
theorem SqT.tf(t:∀a o,H a=some o->tf o=true->H' a=some o){a:Addr}{xs:List V}(h:SqT K H a xs):SqT K H' a xs:=by
 rcases h with (h|⟨o,h⟩)|h
 ·exact .inl (.inl (t _ _ h rfl))
 ·exact .inl (.inr ⟨o,t _ _ h rfl⟩)
 ·exact .inr h
theorem SqF.tf(t:∀a o,H a=some o->tf o=true->H' a=some o){a:Addr}{xs:List V}(h:SqF K H a xs):SqF K H' a xs:=h.elim (fun⟨o,h⟩=> .inl ⟨o,t _ _ h rfl⟩) .inr
theorem SqF.l(h:SqF K H a xs):SqL K H a xs:=h.elim (fun⟨o,h⟩=> .inl (.inr ⟨o,h⟩)) .inr
theorem gU{P:Addr->Prop}:∀a∈([]:List Addr),P a:=fun _ h=>nomatch h
theorem Reps.move(t:∀a o,H a=some o->tf o=true->H' a=some o){vs:List V}{ds:List D}{fp:List Addr}(h:Reps K U H vs ds fp):(∀a∈fp,H' a=H a)->Reps K U H' vs ds fp:=
 Reps.rec (motive_1:=fun v d fp _=>(∀a∈fp,H' a=H a)->Rep K U H' v d fp) (motive_2:=fun vs ds fp _=>(∀a∈fp,H' a=H a)->Reps K U H' vs ds fp)
  (fun _=> .non) (fun b _=> .bl b) (fun b _=> .int b) (fun b _=> .str b) (fun b _=> .ty b) (fun h _ ih _=> .tup (h.tf t) (ih gU)) (fun h _ ih _=> .con (h.tf t) (ih gU))
  (fun h _ ih k=> .lst ((k _ Z0).trans h) (ih fun a ha=>k a (Z1 _ ha))) (fun h _ ih _=> .lstF (t _ _ h rfl) (ih gU))
  (fun h e _ ih k=> .dic ((k _ Z0).trans h) e (ih fun a ha=>k a (Z1 _ ha))) (fun h e _ ih _=> .dicF (t _ _ h rfl) e (ih gU))
  (fun h e _ ih k=> .obj ((k _ Z0).trans h) e (ih fun a ha=>k a (Z1 _ ha))) (fun h e _ ih _=> .objF (t _ _ h rfl) e (ih gU))
  (fun _=> .nil) (fun _ _ i1 i2 k=> .cons (i1 fun a ha=>k a (Zm _ ha)) (i2 fun a ha=>k a (Z9 _ ha))) h
theorem Reps.nil_fp(h:Reps K U H vs [] fp):vs=[]/\fp=[]:=by cases h;exact⟨rfl,rfl⟩
theorem Reps.one_inv(r:Reps K U H vs [d] fp):∃v,vs=[v]/\Rep K U H v d fp:=by
 cases r with
 |cons h hs=>
  obtain⟨rfl,rfl⟩:=hs.nil_fp
  exact⟨_,rfl,by rw [Zl];exact h⟩
theorem Reps.one(h:Rep K U H v d f):Reps K U H [v] [d] f:=by have:=Reps.cons h (Reps.nil (K:=K) (U:=U) (H:=H));rwa [Zl] at this
theorem Rep.move(t:∀a o,H a=some o->tf o=true->H' a=some o){v:V}{d:D}{fp:List Addr}(h:Rep K U H v d fp)(k:∀a∈fp,H' a=H a):Rep K U H' v d fp:=by
 obtain⟨u,e,r⟩:=((Reps.one h).move t k).one_inv
 cases e;exact r
theorem Reps.own{vs:List V}{ds:List D}{fp:List Addr}(h:Reps K U H vs ds fp):∀a∈fp,∃o,H a=some o/\kd o=true/\tf o=false:=
 Reps.rec (motive_1:=fun _ _ fp _=>∀a∈fp,∃o,H a=some o/\kd o=true/\tf o=false) (motive_2:=fun _ _ fp _=>∀a∈fp,∃o,H a=some o/\kd o=true/\tf o=false)
  gU (fun _=>gU) (fun _=>gU) (fun _=>gU) (fun _=>gU) (fun _ _ _=>gU) (fun _ _ _=>gU)
  (fun h _ ih a ha=>(Z6.mp ha).elim (fun e=>e▸⟨_,h,rfl,rfl⟩) (ih a)) (fun _ _ _=>gU)
  (fun h _ _ ih a ha=>(Z6.mp ha).elim (fun e=>e▸⟨_,h,rfl,rfl⟩) (ih a)) (fun _ _ _ _=>gU)
  (fun h _ _ ih a ha=>(Z6.mp ha).elim (fun e=>e▸⟨_,h,rfl,rfl⟩) (ih a)) (fun _ _ _ _=>gU)
  gU (fun _ _ i1 i2 a ha=>(Zq.mp ha).elim (i1 a) (i2 a)) h
theorem Rep.own(h:Rep K U H v d fp):∀a∈fp,∃o,H a=some o/\kd o=true/\tf o=false:=(Reps.one h).own
theorem Rep.imm(h:Rep K U H v d fp)(e:d.imm=true):fp=[]:=by
 cases h<;>first|rfl|exact nomatch e
theorem Reps.imm:∀{vs:List V} {ds:List D} {fp:List Addr},Reps K U H vs ds fp->D.imms ds=true->fp=[]
 |_,_,_,.nil,_=>rfl
 |_,_,_,.cons h hs,e=>by
  rw [D.imms,Zx] at e
  rw [h.imm e.1,Reps.imm hs e.2];rfl
theorem Reps.length:∀{vs:List V} {ds:List D} {fp:List Addr},Reps K U H vs ds fp->vs.length=ds.length
 |_,_,_,.nil=>rfl
 |_,_,_,.cons _ hs=>by rw [Z4,Z4,Reps.length hs]
theorem Reps.get:∀{vs:List V} {ds:List D} {fp:List Addr} {i:Nat} {d:D},Reps K U H vs ds fp->ds[i]? =some d->∃v f,vs[i]? =some v/\Rep K U H v d f/\∀a∈f,a∈fp
 |_,_,_,_,_,.nil,e=>by simp at e
 |_,_,_,0,_,.cons h _,e=>by simp at e;subst e;exact⟨_,_,rfl,h,fun a ha=>Zm _ ha⟩
 |_,_,_,i+1,_,.cons _ hs,e=>by
  obtain⟨v,f,h1,h2,h3⟩:=Reps.get (i:=i) hs (by simpa using e)
  exact⟨v,f,by simpa using h1,h2,fun a ha=>Z9 _ (h3 a ha)⟩
theorem Reps.append:∀{vs:List V} {ds:List D} {f:List Addr} {us:List V} {es:List D} {g:List Addr},Reps K U H vs ds f->Reps K U H us es g->Reps K U H (vs++us) (ds++es) (f++g)
 |_,_,_,_,_,_,.nil,r=>r
 |_,_,_,_,_,_,.cons h hs,r=>by rw [Zp];exact .cons h (Reps.append hs r)
theorem Reps.split:∀{vs:List V} {d:D} {ds:List D} {fp:List Addr},Reps K U H vs (d::ds) fp->∃v us f g,vs=v::us/\Rep K U H v d f/\Reps K U H us ds g/\fp=f++g
 |_,_,_,_,.cons h hs=>⟨_,_,_,_,rfl,h,hs,rfl⟩
theorem Reps.nilp:∀{vs:List V} {ds:List D},Reps K U H vs ds []->Paired (fun v d=>Rep K U H v d []) vs ds:=by
 intro vs ds h
 generalize e:([]:List Addr)=fp at h
 induction h using Reps.rec (motive_1:=fun _ _ _ _=>True) with
 |nil=>exact .nil
 |cons h hs _ ih=>
  obtain⟨e1,e2⟩:=XX.mp e.symm
  subst e1;subst e2
  exact .cons h (ih rfl)
 |_=>trivial
theorem Reps.ofp:∀{vs:List V} {ds:List D},Paired (fun v d=>Rep K U H v d []) vs ds->Reps K U H vs ds []
 |_,_,.nil=> .nil
 |_,_,.cons h hs=> .cons (f:=[]) (g:=[]) h (Reps.ofp hs)
end
theorem Paired.takeN:∀{l₁:List α} {l₂:List β} (n:Nat),Paired R l₁ l₂->Paired R (l₁.take n) (l₂.take n)
 |_,_,0,_=> .nil
 |_,_,_+1,.nil=> .nil
 |_,_,n+1,.cons h t=> .cons h (Paired.takeN n t)
theorem Paired.dropN:∀{l₁:List α} {l₂:List β} (n:Nat),Paired R l₁ l₂->Paired R (l₁.drop n) (l₂.drop n)
 |_,_,0,r=>r
 |_,_,_+1,.nil=> .nil
 |_,_,n+1,.cons _ t=>Paired.dropN n t
theorem Paired.app:∀{l₁:List α} {l₂:List β} {m₁:List α} {m₂:List β},Paired R l₁ l₂->Paired R m₁ m₂->Paired R (l₁++m₁) (l₂++m₂)
 |_,_,_,_,.nil,r=>r
 |_,_,_,_,.cons h t,r=> .cons h (Paired.app t r)
theorem Paired.repl(r:Paired R l₁ l₂):∀k:Nat,Paired R (List.replicate k l₁).flatten (List.replicate k l₂).flatten
 |0=> .nil
 |k+1=>by rw [Ya,Ya,Ys,Ys];exact Paired.app r (Paired.repl r k)
structure SameK(H H':Hp):Prop where
 keep:∀a o,H a=some o->kd o=true->H' a=some o
 grow:∀a,H' a=none->H a=none
theorem SameK.refl(H:Hp):SameK H H:=⟨fun _ _ h _=>h,fun _ h=>h⟩
theorem SameK.trans(a:SameK H H1)(b:SameK H1 H2):SameK H H2:=⟨fun c o h k=>b.keep c o (a.keep c o h k) k,fun c h=>a.grow c (b.grow c h)⟩
theorem SameK.of(h:yp5 H H'):SameK H H':=⟨fun a o e _=>h a o e,fun a e=>h.free e⟩
theorem SameK.new(h:H p=none)(o:HO):SameK H (upd H p o):= .of (xd5 h o)
section
variable{K:tz0}{U:tz9}{H H':Hp}
theorem Rep.same(e:SameK H H'){v:V}{d:D}{fp:List Addr}(r:Rep K U H v d fp):Rep K U H' v d fp:=
 r.move (fun a o h t=>e.keep a o h (lA t)) fun a ha=>by obtain⟨o,h,k,_⟩:=r.own a ha;rw [h];exact e.keep a o h k
theorem Reps.same(e:SameK H H'){v:List V}{d:List D}{fp:List Addr}(r:Reps K U H v d fp):Reps K U H' v d fp:=
 r.move (fun a o h t=>e.keep a o h (lA t)) fun a ha=>by obtain⟨o,h,k,_⟩:=r.own a ha;rw [h];exact e.keep a o h k
end
theorem PE.imp(h:PE X e t)(k:∀σ H Q,t' σ H Q->t σ H Q):PE X e t':=⟨fun pins s σ H Q I q=>h pins s σ H Q I (k σ H Q q)⟩
theorem PT.imp(h:PT X e t)(k:∀σ H Q,t' σ H Q->t σ H Q):PT X e t':=⟨fun pins s σ H Q I q=>h pins s σ H Q I (k σ H Q q)⟩
theorem PW.imp(h:PW X e t)(k:∀σ H Q,t' σ H Q->t σ H Q):PW X e t':=⟨fun wh pins s σ H Q I q=>h wh pins s σ H Q I (k σ H Q q)⟩
theorem PA.imp(h:PA X e t)(k:∀σ H Q,t' σ H Q->t σ H Q):PA X e t':=⟨fun pos pins s σ H Q I q=>h pos pins s σ H Q I (k σ H Q q)⟩
theorem PS.imp{X:Cx}{st:Stmt}{t t':TS}(h:PS X st t)(k:∀D σ H,t' D σ H->t D σ H):PS X st t':=⟨fun pins s σ H D I q=>h pins s σ H D I (k D σ H q)⟩
theorem PSs.imp{X:Cx}{st:List Stmt}{t t':TS}(h:PSs X st t)(k:∀D σ H,t' D σ H->t D σ H):PSs X st t':=⟨fun pins s σ H D I q=>h pins s σ H D I (k D σ H q)⟩
abbrev PSt:=List (Option D)
abbrev _root_.tz7:=List D->Option (D×List D)
abbrev _root_.tz8:=PSt->Option (D×PSt)
abbrev _root_.tz3:=PSt->Option (List D)
abbrev _root_.tz4:=PSt->Option Bool
abbrev _root_.tz6:=List D->Option D
abbrev _root_.tz2:=PSt->Option D
abbrev _root_.tz5:=PSt->Bool
def WS(K:tz0)(U:tz9)(H:Hp)(σ:St)(ps:PSt):Prop:=∀(i:Nat) (d:D),ps[i]? =some (some d)->∃v fp,σ[i]? =some (some v)/\Rep K U H v d fp
theorem WS.same{K:tz0}{U:tz9}{H H':Hp}{σ:St}{ps:PSt}(w:WS K U H σ ps)(e:SameK H H'):WS K U H' σ ps:=fun i d h=>by
 obtain⟨v,fp,h1,h2⟩:=w i d h
 exact⟨v,fp,h1,h2.same e⟩
def kQ(K:tz0)(U:tz9)(H:Hp)(d:D)(Q:VK):Prop:=∀v H' fv,SameK H H'->(∀a∈fv,H a=none)->fv.Nodup->Rep K U H' v d fv->Q v H'
def wa9(K:tz0)(U:tz9)(H:Hp)(d:D)(Q:VK):Prop:=∀v H' fp,SameK H H'->Rep K U H' v d fp->Q v H'
def tV(K:tz0)(U:tz9)(f:tz2):TE:=fun σ H Q=>∃ps d,WS K U H σ ps/\f ps=some d/\wa9 K U H d Q
def tP(K:tz0)(U:tz9)(f:tz2):TE:=fun σ H Q=>∃ps d,WS K U H σ ps/\f ps=some d/\kQ K U H d Q
def tQ(K:tz0)(U:tz9)(f:tz4):TT:=fun σ H Q=>∃ps b,WS K U H σ ps/\f ps=some b/\∀H',SameK H H'->Q b H'
def tVA(K:tz0)(U:tz9)(f:tz3):TA:=fun σ H Q=>∃ps ds,WS K U H σ ps/\f ps=some ds/\∀vs H' fp,SameK H H'->Reps K U H' vs ds fp->Q vs H'
def tPA(K:tz0)(U:tz9)(f:tz3):TA:=fun σ H Q=>∃ps ds,WS K U H σ ps/\f ps=some ds/\∀vs H' fv,SameK H H'->(∀a∈fv,H a=none)->fv.Nodup->Reps K U H' vs ds fv->Q vs H'
abbrev QV(X:Cx)(U:tz9)(e:Expr)(f:tz2):Prop:=PE X e (tV X.K U f)
abbrev QP(X:Cx)(U:tz9)(e:Expr)(f:tz2):Prop:=PE X e (tP X.K U f)
abbrev QT(X:Cx)(U:tz9)(e:Expr)(f:tz4):Prop:=PT X e (tQ X.K U f)
abbrev QW(X:Cx)(U:tz9)(e:Expr)(f:tz4):Prop:=PW X e (tQ X.K U f)
abbrev QVA(X:Cx)(U:tz9)(es:List Expr)(f:tz3):Prop:=PA X es (tVA X.K U f)
abbrev QPA(X:Cx)(U:tz9)(es:List Expr)(f:tz3):Prop:=PA X es (tPA X.K U f)
theorem kQ.see{K:tz0}{U:tz9}{H:Hp}{d:D}{Q:VK}(h:wa9 K U H d Q):kQ K U H d Q:=fun v H' fv s _ _ r=>h v H' fv s r
theorem kQ.after{K:tz0}{U:tz9}{H H1:Hp}{d:D}{Q:VK}(h:kQ K U H d Q)(s:SameK H H1):kQ K U H1 d Q:=
 fun v H' fv s' n nd r=>h v H' fv (s.trans s') (fun a ha=>s.grow a (n a ha)) nd r
theorem kQ.now{K:tz0}{U:tz9}{H:Hp}{d:D}{Q:VK}{v:V}(h:kQ K U H d Q)(r:Rep K U H v d []):Q v H:=h v H [] (.refl H) (fun _ h=>absurd h (by simp)) Zi r
theorem kQ.at{K:tz0}{U:tz9}{H:Hp}{d:D}{Q:VK}{p:Addr}{o:HO}{fv:List Addr}(h:kQ K U H d Q)(hp:H p=none)(hn:∀a∈fv,H a=none)(nd:fv.Nodup)(r:Rep K U (upd H p o) (.ref p) d fv):Q (.ref p) (upd H p o):=
 h _ _ fv (.new hp o) hn nd r
section
variable{X:Cx}{U:tz9}{e a b:Expr}{f fa fb:tz2}
theorem QP.v(h:QP X U e f):QV X U e f:=h.imp fun _ _ _ ⟨ps,d,w,e,q⟩=>⟨ps,d,w,e,.see q⟩
def bB(f:tz2):tz2:=fun ps=>(f ps).bind fun d=>if d.imm=true then some d else none
theorem QV.p(h:QV X U e f):QP X U e (bB f):=h.imp fun σ H Q hh_=>by
 obtain⟨ps,d,w,e,q⟩:=hh_
 unfold bB at e
 cases e1:f ps with
 |none=>rw [e1] at e;cases e
 | some d1=>
  rw [e1] at e
  by_cases hi:d1.imm=true
  ·have e2:d1=d:=by simpa [hi] using e
   subst e2
   refine⟨ps,d1,w,e1,fun v H' fp s r=> ?_⟩
   have:=r.imm hi;subst this
   exact q v H' [] s (fun _ h=>absurd h (by simp)) Zi r
  ·simp [hi] at e
def aA(i:Nat):tz2:=fun ps=>(ps[i]?).join
theorem aB(i:Nat){x:Str}{pos:Pos}(hN:X.N[i]? =some x:=by rfl)(hv:Vis X.env.scope x:=by first|exact Or.inl rfl|exact Or.inr (Or.inl rfl)|exact Or.inr (Or.inr rfl))(hd:NDb x:=by decide)
  (hcd:(x==("__classdict__":Str))=false:=by decide):QV X U (.Name x pos) (aA i):=(rM hN hv hd hcd).imp fun σ H Q hh_=>by
 obtain⟨ps,d,w,e,q⟩:=hh_
 have e':ps[i]? =some (some d):=by
  unfold aA at e
  cases q:ps[i]? with
  |none=>rw [q] at e;cases e
  |some o=>rw [q] at e;exact ZM some e
 obtain⟨v,fp,h1,h2⟩:=w i d e'
 exact⟨v,h1,q v H fp (.refl H) h2⟩
def fC(d:D):tz2:=fun _=>some d
theorem aG{i j pos}:QP X U (.Constant (.int i) j pos) (fC (.int i)):=iF.imp fun σ H Q ⟨ps,d,w,e,q⟩=>by cases e;exact q _ H [] (.refl H) (fun _ h=>absurd h (by simp)) Zi (.int i)
theorem bZ{x j pos}:QP X U (.Constant (.str x) j pos) (fC (.str x)):=yr1.imp fun σ H Q ⟨ps,d,w,e,q⟩=>by cases e;exact q _ H [] (.refl H) (fun _ h=>absurd h (by simp)) Zi (.str x)
theorem qT{b j pos}:QP X U (.Constant (.bool b) j pos) (fC (.bl b)):=xk1.imp fun σ H Q ⟨ps,d,w,e,q⟩=>by cases e;exact q _ H [] (.refl H) (fun _ h=>absurd h (by simp)) Zi (.bl b)
theorem gV{j pos}:QP X U (.Constant .none j pos) (fC .non):=yr0.imp fun σ H Q ⟨ps,d,w,e,q⟩=>by cases e;exact q _ H [] (.refl H) (fun _ h=>absurd h (by simp)) Zi .non
theorem xo5(hg:Gl X x)(hm:X.mg x=some u)(r:cG v u)(hd:∀H,Rep X.K U H v d [])(hdb:NDb x:=by decide):QP X U (.Name x pos) (fC d):=
 (xm5 hg hm r hdb).imp fun σ H Q ⟨ps,d,w,e,q⟩=>by cases e;exact q _ H [] (.refl H) (fun _ h=>absurd h (by simp)) Zi (hd H)
def f2(g:D->D->Option D)(fa fb:tz2):tz2:=fun ps=>(fa ps).bind fun x=>(fb ps).bind fun y=>g x y
def POp(K:tz0)(U:tz9)(g:D->D->Option D):R2:=fun x y H Q=>∃dx dy d fx fy,Rep K U H x dx fx/\Rep K U H y dy fy/\g dx dy=some d/\kQ K U H d Q
theorem uF(h:f2 g fa fb ps=some d):∃x y,fa ps=some x/\fb ps=some y/\g x y=some d:=by
 unfold f2 at h
 cases e1:fa ps with
 |none=>rw [e1] at h;cases h
 |some x=>
  rw [e1] at h
  cases e2:fb ps with
  |none=>rw [e2] at h;cases h
  |some y=>rw [e2] at h;exact⟨x,y,rfl,rfl,h⟩
theorem zw1(hr:∀x y H Q,POp X.K U g x y H Q->r x y H Q)(h:tP X.K U (f2 g fa fb) σ H Q):tOp r (tV X.K U fa) (tV X.K U fb) σ H Q:=by
 obtain⟨ps,d,w,e,q⟩:=h
 obtain⟨x,y,e1,e2,e3⟩:=uF e
 exact⟨ps,x,w,e1,fun v H1 fp s1 r1=>⟨ps,y,w.same s1,e2,fun u H2 fq s2 r2=>hr _ _ _ _ ⟨x,y,d,fp,fq,r1.same s2,r2,e3,q.after (s1.trans s2)⟩⟩⟩
theorem bC(ho:OpR X (binaryOp op) (POp X.K U g))(ha:QV X U a fa)(hb:QV X U b fb):QP X U (.BinOp a op b pos) (f2 g fa fb):=
 (fY ho ha hb).imp fun _ _ _ h=>zw1 (fun _ _ _ _ h=>h) h
theorem nN(ho:OpR X (compareOp op) (POp X.K U g))(ha:QV X U a fa)(hb:QV X U b fb)(hm:behindInMarks op b=false):QP X U (.Compare a [op] [b] pos) (f2 g fa fb):=
 (xm9 ho ha hb hm).imp fun _ _ _ h=>zw1 (fun _ _ _ _ h=>h) h
def dB:D->Option Bool
 | .bl b=>some b
 |_=>none
def fB(f:tz2):tz4:=fun ps=>(f ps).bind dB
theorem zk3{f:tz2}{ps:PSt}{b:Bool}(h:fB f ps=some b):f ps=some (.bl b):=by
 unfold fB at h
 cases e:f ps with
 |none=>rw [e] at h;cases h
 |some d=>rw [e] at h;cases d<;>first|(cases h;rfl)|cases h
theorem Rep.is_bl{K:tz0}{H:Hp}{v:V}{b:Bool}{fp:List Addr}(r:Rep K U H v (.bl b) fp):v= .bl b:=by cases r;rfl
theorem Rep.is_int{K:tz0}{H:Hp}{v:V}{b:Int}{fp:List Addr}(r:Rep K U H v (.int b) fp):v= .int b:=by cases r;rfl
theorem Rep.is_str{K:tz0}{H:Hp}{v:V}{b:Str}{fp:List Addr}(r:Rep K U H v (.str b) fp):v= .str b:=by cases r;rfl
theorem bP(ho:OpR X (compareOp op) (POp X.K U g))(ha:QV X U a fa)(hb:QV X U b fb)(hm:behindInMarks op b=false):QT X U (.Compare a [op] [b] pos) (fB (f2 g fa fb)):=
 (yf5 ho ha hb hm).imp fun σ H Q ⟨ps,c,w,e,q⟩=>zw1 (Q:=fun x H'=>∃k,x= .bl k/\Q k H') (fun _ _ _ _ h=>h) ⟨ps,_,w,zk3 e,fun v H' fv s _ _ r=>⟨c,r.is_bl,q H' s⟩⟩
def f3(g g':D->D->Option D)(fa fb fc:tz2):tz2:=fun ps=>(fa ps).bind fun x=>(fb ps).bind fun y=>(g x y).bind fun k=>match k with
 | .bl true=>(fc ps).bind fun z=>g' y z
 | .bl false=>some (.bl false)
 |_=>none
def zn6:D->Option Bool
 | .non=>some false
 | .bl b=>some b
 | .int i=>some (i !=0)
 | .str y=>if y.length<=sizeLine then some ((y.length:Int) !=0) else none
 | .lst _ xs=>some (!xs.isEmpty)
 | .tup xs=>some (!xs.isEmpty)
 | .con xs=>some (!xs.isEmpty)
 |_=>none
theorem nO{K:tz0}{H:Hp}{vs:List V}{ds:List D}{fp:List Addr}(r:Reps K U H vs ds fp):ds.isEmpty=vs.isEmpty:=by cases r<;>rfl
theorem yg0{K:tz0}{H:Hp}{v:V}{d:D}{fp:List Addr}{b:Bool}(r:Rep K U H v d fp)(h:zn6 d=some b):xj0 K v H b:=by
 cases r with
 |non=>cases h;rfl
 |bl b=>cases h;rfl
 |int i=>cases h;rfl
 |str x=>
  rw [zn6] at h
  split at h
  ·cases h;exact⟨by assumption,rfl⟩
  ·cases h
 |tup s rs=>cases h;exact .inr (.inl ⟨_,s,by rw [nO rs]⟩)
 |con s rs=>cases h;exact .inl ⟨_,s.l,by rw [nO rs]⟩
 |lst s rs=>cases h;exact .inl ⟨_,.inl (.inl s),by rw [nO rs]⟩
 |lstF s rs=>cases h;exact .inl ⟨_,.inl (.inr ⟨_,s⟩),by rw [nO rs]⟩
 |_=>cases h
def fT(f:tz2):tz4:=fun ps=>(f ps).bind zn6
theorem xo6{f:tz2}{ps:PSt}{b:Bool}(h:fT f ps=some b):∃d,f ps=some d/\zn6 d=some b:=by
 unfold fT at h
 cases e:f ps with
 |none=>rw [e] at h;cases h
 |some d=>rw [e] at h;exact⟨d,rfl,h⟩
theorem iR(ha:QV X U a fa)(he:∀whole,isTrue a X.env whole=(do let v<-whole;standAt a.pos;holding [v] (truthy v)):=by intro _;rfl):QT X U a (fT fa):=
 (zv5 ha he).imp fun σ H Q hh_=>by
  obtain⟨ps,c,w,e,q⟩:=hh_
  obtain⟨d,e1,e2⟩:=xo6 e
  exact⟨ps,d,w,e1,fun v H' fp s r=>⟨c,yg0 r e2,q H' s⟩⟩
def cH(f g:tz4):tz4:=fun ps=>(f ps).bind fun c=>if c=true then g ps else some false
def lL(f g:tz4):tz4:=fun ps=>(f ps).bind fun c=>if c=true then some true else g ps
def eD(f:tz4):tz4:=fun ps=>(f ps).map (!·)
variable{pos:Pos}{rest:List Expr}{ta tb:tz4}
theorem jF(ha:QT X U a ta):QW X U (.BoolOp .And [a] pos) ta:=xm6 ha
theorem xL(ha:QT X U a ta):QW X U (.BoolOp .Or [a] pos) ta:=yr2 ha
theorem kE(ha:QT X U a ta)(hb:QW X U (.BoolOp .And (b::rest) pos) tb):QW X U (.BoolOp .And (a::b::rest) pos) (cH ta tb):=
 (xt8 ha hb).imp fun σ H Q hh_=>by
  obtain⟨ps,c,w,e,q⟩:=hh_
  unfold cH at e
  cases e1:ta ps with
  |none=>rw [e1] at e;cases e
  | some k=>
   rw [e1] at e
   refine⟨ps,k,w,e1,fun H1 s1=> ?_⟩
   cases k with
   |true=>rw [if_pos rfl];exact⟨ps,c,w.same s1,by simpa using e,fun H2 s2=>q H2 (s1.trans s2)⟩
   |false=>
    rw [if_neg Z7]
    have:c=false:=by simpa using e.symm
    subst this;exact q H1 s1
theorem ze5(ha:QT X U a ta)(hb:QW X U (.BoolOp .Or (b::rest) pos) tb):QW X U (.BoolOp .Or (a::b::rest) pos) (lL ta tb):=
 (xk2 ha hb).imp fun σ H Q hh_=>by
  obtain⟨ps,c,w,e,q⟩:=hh_
  unfold lL at e
  cases e1:ta ps with
  |none=>rw [e1] at e;cases e
  | some k=>
   rw [e1] at e
   refine⟨ps,k,w,e1,fun H1 s1=> ?_⟩
   cases k with
   |true=>
    rw [if_pos rfl]
    have:c=true:=by simpa using e.symm
    subst this;exact q H1 s1
   |false=>rw [if_neg Z7];exact⟨ps,c,w.same s1,by simpa using e,fun H2 s2=>q H2 (s1.trans s2)⟩
theorem mI(h:QW X U a ta):QT X U a ta:=PW.pt h
theorem rT(ha:QT X U a ta):QT X U (.UnaryOp .Not a pos) (eD ta):=
 (yr3 ha).imp fun σ H Q hh_=>by
  obtain⟨ps,c,w,e,q⟩:=hh_
  unfold eD at e
  cases e1:ta ps with
  |none=>rw [e1] at e;cases e
  |some k=>
   rw [e1] at e
   have:c= !k:=by simpa using e.symm
   subst this
   exact⟨ps,k,w,e1,fun H1 s1=>q H1 s1⟩
def qJ(f g:tz2):tz2:=fun ps=>(f ps).bind fun c=>match c with
 | .bl true=>g ps
 | .bl false=>some (.bl false)
 |_=>none
def fOr(f g:tz2):tz2:=fun ps=>(f ps).bind fun c=>match c with
 | .bl true=>some (.bl true)
 | .bl false=>g ps
 |_=>none
theorem zt1{d:D}{α:Type}{x y:Option α}{z:α}(h:(match d with| .bl true=>x| .bl false=>y|_=>none)=some z):∃b,d= .bl b/\(if b=true then x else y)=some z:=by
 cases d with
 |bl b=>cases b<;>exact⟨_,rfl,h⟩
 |_=>cases h
theorem zw2{op}(h:QP X U a fa):QP X U (.BoolOp op [a] pos) fa:=yr4 h
theorem yu3(ha:QP X U a fa)(hb:QP X U (.BoolOp .And (b::rest) pos) fb):QP X U (.BoolOp .And (a::b::rest) pos) (qJ fa fb):=
 (yr5 ha hb).imp fun σ H Q hh_=>by
  obtain⟨ps,d,w,e,q⟩:=hh_
  unfold qJ at e
  cases e1:fa ps with
  |none=>rw [e1] at e;cases e
  | some k=>
   rw [e1] at e
   obtain⟨c,rfl,e2⟩:=zt1 (x:=fb ps) (y:=some (.bl false)) e
   refine⟨ps,_,w,e1,fun v H1 fv s1 _ _ r1=>⟨c,r1.is_bl,?_⟩⟩
   cases c with
   |true=>rw [if_pos rfl] at e2|-;exact⟨ps,d,w.same s1,e2,q.after s1⟩
   |false=>
    rw [if_neg Z7] at e2|-
    cases e2;exact(q.after s1).now (.bl false)
theorem wc5(ha:QP X U a fa)(hb:QP X U (.BoolOp .Or (b::rest) pos) fb):QP X U (.BoolOp .Or (a::b::rest) pos) (fOr fa fb):=
 (wb7 ha hb).imp fun σ H Q hh_=>by
  obtain⟨ps,d,w,e,q⟩:=hh_
  unfold fOr at e
  cases e1:fa ps with
  |none=>rw [e1] at e;cases e
  |some k=>
   rw [e1] at e
   obtain⟨c,rfl,e2⟩:=zt1 (d:=k) (x:=some (D.bl true)) (y:=fb ps) (z:=d) e
   refine⟨ps,_,w,e1,fun v H1 fv s1 _ _ r1=>⟨c,r1.is_bl,?_⟩⟩
   cases c with
   |true=>rw [if_pos rfl] at e2|-;cases e2;exact(q.after s1).now (.bl true)
   |false=>rw [if_neg Z7] at e2|-;exact⟨ps,d,w.same s1,e2,q.after s1⟩
def dL(f:tz2):tz2:=fun ps=>(f ps).bind fun c=>match c with
 | .int i=>some (.int (-i))
 |_=>none
theorem mQ(ha:QV X U a fa):QP X U (.UnaryOp .USub a pos) (dL fa):=
 (wb8 xu3 ha).imp fun σ H Q hh_=>by
  obtain⟨ps,d,w,e,q⟩:=hh_
  unfold dL at e
  cases e1:fa ps with
  |none=>rw [e1] at e;cases e
  |some k=>
   rw [e1] at e
   cases k with
   |int i=>cases e;exact⟨ps,_,w,e1,fun v H1 fp s1 r1=>⟨i,r1.is_int,(q.after s1).now (.int _)⟩⟩
   |_=>cases e
end
section
variable{X:Cx}{U:tz9}
theorem Inv.lstR(I:Inv X pins σ H s)(h:Rd H l (.lst xs)):
  xs.length<=sizeLine/\∃(its:List Value) (n:Nat),bL xs its/\xs.length=its.length/\s.heap.get? l=some {cls:= .type "list",data:= .seq its.toArray n}:=by
 obtain⟨z,its,n,r,e⟩:=h.ok I.hok
 exact⟨z,its,n,r,r.length,e⟩
theorem xo7:OpR X (binaryOp .Add) (fun x y H Q=>∃l b xs zs,x= .ref l/\y= .ref b/\Rd H l (.lst xs)/\Rd H b (.lst zs)/\xs.length+zs.length<=sizeLine/\∀p,H p=none->Q (.ref p) (upd H p (.lst (xs++zs)))):=⟨by
 intro pins s σ H x y v u Q I rx ry h
 obtain⟨l,b,xs,zs,rfl,rfl,hH,hB,hz,q⟩:=h
 cases rx
 cases ry
 obtain⟨z,its,n,r,hl,e⟩:=I.lstR hH
 obtain⟨z2,its2,n2,r2,hl2,e2⟩:=I.lstR hB
 refine PySem.P.add_list e e2 ?_ (by rw [Zj,Zj];omega)
 have ea:its.toArray++its2.toArray=(its++its2).toArray:=by simp
 rw [ea]
 exact⟨.ref _,_,I.lnew (t':=s.toks) (r.append r2) (by rw [Z5];omega),rfl,q _ I.fresh⟩⟩
theorem xd7:OpR X (binaryOp .Add) (fun x y H Q=>∃a b ys,x= .ref a/\y= .ref b/\SqT X.K H a []/\SqT X.K H b ys/\Q (.ref b) H):=⟨by
 intro pins s σ H x y v u Q I rx ry h
 obtain⟨a,b,ys,rfl,rfl,ha,hb,q⟩:=h
 cases rx
 cases ry
 obtain⟨its,r1,p1,_⟩:=I.tuple ha
 obtain⟨its2,r2,p2,_⟩:=I.tuple hb
 cases r1
 obtain⟨⟨cls,dd,data,sl⟩,ho,hc,n,hd⟩:=id p1
 obtain⟨⟨cls2,dd2,data2,sl2⟩,ho2,hc2,n2,hd2⟩:=id p2
 simp only at hc hd hc2 hd2
 subst hc hd hc2 hd2
 exact concat_meets ⟨_,ho,rfl⟩ ⟨_,ho2,rfl⟩ XJ Wg YW YR (YJ _ _)
   (tuple_addW0 a b _ _ n n2 dd dd2 sl sl2 rfl) ⟨ho,ho2,⟨.ref b,H,I,rfl,q⟩⟩⟩
theorem Rep.lst_inv{K:tz0}{H:Hp}{v:V}{o:Bool}{ds:List D}{fp:List Addr}(r:Rep K U H v (.lst o ds) fp):∃a vs g,v= .ref a/\Rd H a (.lst vs)/\Reps K U H vs ds g/\g.Sublist fp:=by
 cases r with
 |lst h hs=>exact⟨_,_,_,rfl,.inl h,hs,YX _ _⟩
 |lstF h hs=>exact⟨_,_,_,rfl,.inr ⟨_,h⟩,hs,.refl _⟩
theorem Rep.lstT_inv{K:tz0}{H:Hp}{v:V}{ds:List D}{fp:List Addr}(r:Rep K U H v (.lst true ds) fp):∃a vs g,v= .ref a/\H a=some (.lst vs)/\Reps K U H vs ds g/\fp=a::g:=by
 cases r with
 |lst h hs=>exact⟨_,_,_,rfl,h,hs,rfl⟩
theorem Rep.objT_inv{K:tz0}{H:Hp}{v:V}{C:Str}{ns:List Str}{ds:List D}{fp:List Addr}(r:Rep K U H v (.obj true C ns ds) fp):∃a dx fs g,v= .ref a/\H a=some (.ins (U C) dx fs)/\fs.map (·.1)=ns/\Reps K U H (fs.map (·.2)) ds g/\fp=a::g:=by
 cases r with
 |obj h e hs=>exact⟨_,_,_,_,rfl,h,e,hs,rfl⟩
theorem Rep.tup_inv{K:tz0}{H:Hp}{v:V}{ds:List D}{fp:List Addr}(r:Rep K U H v (.tup ds) fp):∃a vs,v= .ref a/\SqT K H a vs/\Reps K U H vs ds []:=by
 cases r with
 |tup h hs=>exact⟨_,_,rfl,h,hs⟩
theorem Reps.pair{K:tz0}{H:Hp}{vs:List V}{ds:List D}{fp:List Addr}(r:Reps K U H vs ds fp)(h:D.imms ds=true):Paired (fun v d=>Rep K U H v d []) vs ds:=by
 have e:=r.imm h
 subst e
 exact r.nilp
theorem Rep.con_inv{K:tz0}{H:Hp}{v:V}{ds:List D}{fp:List Addr}(r:Rep K U H v (.con ds) fp):∃a vs,v= .ref a/\SqF K H a vs/\Reps K U H vs ds []:=by
 cases r with
 |con h hs=>exact⟨_,_,rfl,h,hs⟩
theorem zk4{K:tz0}{H:Hp}{vs:List V}{ds:List D}{Q:VK}{p:Addr}(hp:H p=none)(r:Paired (fun v d=>Rep K U H v d []) vs ds)(q:kQ K U H (.lst true ds) Q):Q (.ref p) (upd H p (.lst vs)):=
 q.at hp (fv:=[p]) (fun a ha=>by simp at ha;subst ha;exact hp) (by simp) (.lst cK ((Reps.ofp r).same (.new hp _)))
theorem zk5{K:tz0}{H:Hp}{vs:List V}{ds:List D}{Q:VK}{p:Addr}(hp:H p=none)(r:Paired (fun v d=>Rep K U H v d []) vs ds)(q:kQ K U H (.tup ds) Q):Q (.ref p) (upd H p (.tup vs)):=
 q.at hp (fv:=[]) (fun a ha=>by simp at ha) (by simp) (.tup (.inl (.inl cK)) ((Reps.ofp r).same (.new hp _)))
def cE:D->D->Option D
 | .int i,.int j=>some (.int (i+j))
 | .str x,.str y=>if x.length+y.length<=sizeLine then some (.str (x++y)) else none
 | .lst _ xs,.lst _ ys=>if (D.imms xs&&D.imms ys&&decide (xs.length+ys.length<=sizeLine))=true then some (.lst true (xs++ys)) else none
 | .tup xs,.tup ys=>if xs.length+ys.length<=sizeLine then some (.tup (xs++ys)) else none
 |_,_=>none
theorem bind_some(h:o.bind g=some z):∃x,o=some x/\g x=some z:=by
 cases o with
 |none=>cases h
 |some x=>exact⟨x,rfl,h⟩
theorem bX[Decidable c]{x:Option α}{z:α}(h:(if c then x else none)=some z):c/\x=some z:=by
 by_cases k:c
 ·rw [if_pos k] at h;exact⟨k,h⟩
 ·rw [if_neg k] at h;cases h
theorem eM:OpR X (binaryOp .Add) (POp X.K U cE):=⟨by
 rintro pins s σ H x y v u Q I rx ry ⟨dx,dy,d,fx,fy,r1,r2,e,q⟩
 unfold cE at e
 split at e
 ·rename_i i j
  cases e;exact uE pins s σ H x y v u Q I rx ry ⟨i,j,r1.is_int,r2.is_int,q.now (.int _)⟩
 ·rename_i i j
  obtain⟨hc,e⟩:=bX e
  cases e;exact yk8 pins s σ H x y v u Q I rx ry ⟨i,j,r1.is_str,r2.is_str,hc,q.now (.str _)⟩
 ·rename_i o xs o' ys
  obtain⟨hc,e⟩:=bX e
  simp only [Zx,ZT] at hc
  cases e
  obtain⟨a,vs,g,rfl,h1,s1,_⟩:=r1.lst_inv
  obtain⟨b,us,g',rfl,h2,s2,_⟩:=r2.lst_inv
  exact xo7 pins s σ H _ _ v u Q I rx ry ⟨a,b,vs,us,rfl,rfl,h1,h2,by rw [s1.length,s2.length];exact hc.2,fun p hp=>zk4 hp (Paired.app (s1.pair hc.1.1) (s2.pair hc.1.2)) q⟩
 ·rename_i xs ys
  obtain⟨hc,e⟩:=bX e
  cases e
  obtain⟨a,vs,rfl,h1,s1⟩:=r1.tup_inv
  obtain⟨b,us,rfl,h2,s2⟩:=r2.tup_inv
  have l1:=s1.length;have l2:=s2.length
  cases vs with
  |nil=>
   cases s1
   exact xd7 pins s σ H _ _ v u Q I rx ry ⟨a,b,us,rfl,rfl,h1,h2,q.now (.tup h2 s2)⟩
  |cons w ws=>
   refine xn5 pins s σ H _ _ v u Q I rx ry ⟨a,b,_,us,rfl,rfl,h1,h2,by simp,by omega,fun z=> ?_,fun z p hp=>zk5 hp (Paired.app s1.nilp s2.nilp) q⟩
   subst z
   cases s2
   rw [Zl] at q
   exact q.now (.tup h1 s1)
 ·cases e⟩
def dII(C:Int->Int->Bool)(g:Int->Int->D):D->D->Option D
 | .int i,.int j=>if C i j=true then some (g i j) else none
 |_,_=>none
theorem zw3(h:dII C g x y=some d):∃i j,x= .int i/\y= .int j/\C i j=true/\d=g i j:=by
 unfold dII at h
 split at h
 ·obtain⟨hc,h⟩:=bX h
  cases h;exact⟨_,_,rfl,rfl,hc,rfl⟩
 ·cases h
def gF:D->D->Option D
 | .int i,.int j=>some (.int (i-j))
 |_,_=>none
theorem lY:OpR X (binaryOp .Sub) (POp X.K U gF):=⟨by
 rintro pins s σ H x y v u Q I rx ry ⟨dx,dy,d,fx,fy,r1,r2,e,q⟩
 unfold gF at e
 split at e
 ·rename_i i j
  cases e;exact xu1 pins s σ H x y v u Q I rx ry ⟨i,j,r1.is_int,r2.is_int,q.now (.int _)⟩
 ·cases e⟩
def pV(i j:Int):Bool:=(decide (-(2^64)<i)&&decide (i<2^64))||(decide (-(2^64)<j)&&decide (j<2^64))
def hX:D->D->Option D
 | .int i,.int j=>if pV i j=true then some (.int (i*j)) else none
 | .str x,.int n=>if (decide (x.length<=1)&&decide (-(2^63)<=n)&&decide (n<=16777216))=true then some (.str (Txt.mul x n)) else none
 |_,_=>none
theorem ym0:OpR X (binaryOp .Mult) (fun x y H Q=>∃z n,x= .str z/\y= .int n/\MulOk z n/\Q (.str (Txt.mul z n)) H):=⟨by
 rintro pins s σ H x y v u Q I rx ry ⟨z,n,e1,e2,ok,q⟩
 subst e1 e2
 obtain⟨t,rfl⟩:=rx
 obtain⟨t',rfl⟩:=ry
 exact SB.mul ok fun t' k=>⟨.str _,H,I.tok k,⟨_,rfl⟩,q⟩⟩
theorem qU:OpR X (binaryOp .Mult) (POp X.K U hX):=⟨by
 rintro pins s σ H x y v u Q I rx ry ⟨dx,dy,d,fx,fy,r1,r2,e,q⟩
 unfold hX at e
 split at e
 ·rename_i i j
  obtain⟨hc,e⟩:=bX e
  cases e
  refine nL pins s σ H x y v u Q I rx ry ⟨i,j,r1.is_int,r2.is_int,?_,q.now (.int _)⟩
  unfold pV at hc
  simp only [Bool.or_eq_true,Zx,ZT] at hc
  exact hc
 ·rename_i z n
  obtain⟨hc,e⟩:=bX e
  simp only [Zx,ZT] at hc
  cases e
  exact ym0 pins s σ H _ _ v u Q I rx ry ⟨z,n,r1.is_str,r2.is_int,mulOk_of 1 16777216 hc.1.1 (by omega) hc.1.2 (by decide) (by decide),q.now (.str _)⟩
 ·cases e⟩
def eA:D->D->Option D:=dII (fun _ j=>decide (0<j)) fun i j=> .int (i % j)
theorem gZ:OpR X (binaryOp .Mod) (POp X.K U eA):=⟨by
 rintro pins s σ H x y v u Q I rx ry ⟨dx,dy,d,fx,fy,r1,r2,e,q⟩
 obtain⟨i,j,rfl,rfl,hc,rfl⟩:=zw3 e
 exact zd9 pins s σ H x y v u Q I rx ry ⟨i,j,r1.is_int,r2.is_int,Xl hc,q.now (.int _)⟩⟩
def gG:D->D->Option D:=dII (fun _ j=>decide (0<j)&&decide (j<1073741824)) fun i j=> .int (i/j)
theorem nP:OpR X (binaryOp .FloorDiv) (POp X.K U gG):=⟨by
 rintro pins s σ H x y v u Q I rx ry ⟨dx,dy,d,fx,fy,r1,r2,e,q⟩
 obtain⟨i,j,rfl,rfl,hc,rfl⟩:=zw3 e
 simp only [Zx,ZT] at hc
 exact yf1 pins s σ H x y v u Q I rx ry ⟨i,j,r1.is_int,r2.is_int,hc,q.now (.int _)⟩⟩
def D.ints:List D->Option (List Int)
 |[]=>some []
 | .int i::ds=>(D.ints ds).map (i::·)
 |_::_=>none
theorem oV{K:tz0}{H:Hp}:∀{vs:List V} {ds:List D} {fp:List Addr} {ns:List Int},Reps K U H vs ds fp->D.ints ds=some ns->vs=ns.map V.int
 |_,_,_,_,.nil,e=>by cases e;rfl
 | _,d::ds,_,ns,.cons h hs,e=>by
  cases d with
  |int i=>
   rw [D.ints] at e
   cases e1:D.ints ds with
   |none=>rw [e1] at e;cases e
   |some ms=>rw [e1] at e;cases e;rw [h.is_int,oV hs e1];rfl
  |_=>cases e
def dLt:D->D->Option D
 | .int i,.int j=>some (.bl (decide (i<j)))
 |_,_=>none
theorem tN(hu:X.A.units<cLine):OpR X (compareOp .Lt) (POp X.K U dLt):=⟨by
 rintro pins s σ H x y v u Q I rx ry ⟨dx,dy,d,fx,fy,r1,r2,e,q⟩
 unfold dLt at e
 split at e
 ·rename_i i j
  cases e;exact wb9 pins s σ H x y v u Q I rx ry ⟨i,j,r1.is_int,r2.is_int,q.now (.bl _)⟩
 ·cases e⟩
def dLe:D->D->Option D
 | .int i,.int j=>some (.bl (decide (i<=j)))
 |_,_=>none
theorem zw4:OpR X (compareOp .LtE) (POp X.K U dLe):=⟨by
 rintro pins s σ H x y v u Q I rx ry ⟨dx,dy,d,fx,fy,r1,r2,e,q⟩
 unfold dLe at e
 split at e
 ·rename_i i j
  cases e;exact wc0 pins s σ H x y v u Q I rx ry ⟨i,j,r1.is_int,r2.is_int,q.now (.bl _)⟩
 ·cases e⟩
def dGt:D->D->Option D
 | .int i,.int j=>some (.bl (decide (j<i)))
 |_,_=>none
theorem ym1:OpR X (compareOp .Gt) (POp X.K U dGt):=⟨by
 rintro pins s σ H x y v u Q I rx ry ⟨dx,dy,d,fx,fy,r1,r2,e,q⟩
 unfold dGt at e
 split at e
 ·rename_i i j
  cases e;exact wc1 pins s σ H x y v u Q I rx ry ⟨i,j,r1.is_int,r2.is_int,q.now (.bl _)⟩
 ·cases e⟩
def dGe:D->D->Option D
 | .int i,.int j=>some (.bl (decide (j<=i)))
 |_,_=>none
theorem ym2:OpR X (compareOp .GtE) (POp X.K U dGe):=⟨by
 rintro pins s σ H x y v u Q I rx ry ⟨dx,dy,d,fx,fy,r1,r2,e,q⟩
 unfold dGe at e
 split at e
 ·rename_i i j
  cases e;exact wc2 pins s σ H x y v u Q I rx ry ⟨i,j,r1.is_int,r2.is_int,q.now (.bl _)⟩
 ·cases e⟩
mutual
def D.data:D->Option PyData
 | .non=>some .none
 | .bl b=>some (.bool b)
 | .int i=>some (.int i)
 | .str x=>some (.str x)
 | .tup xs=>(D.datas xs).map .tuple
 | .lst _ xs=>(D.datas xs).map .list
 |_=>none
def D.datas:List D->Option (List PyData)
 |[]=>some []
 |d::ds=>d.data.bind fun p=>(D.datas ds).map (p::·)
end
theorem Reps.dps{K:tz0}{H:Hp}{vs:List V}{ds:List D}{fp:List Addr}(h:Reps K U H vs ds fp):∀{p:List PyData},D.datas ds=some p->DpAll K H vs p:=
 Reps.rec (motive_1:=fun v d _ _=>∀{p:PyData},d.data=some p->Dp K H v p) (motive_2:=fun vs ds _ _=>∀{p:List PyData},D.datas ds=some p->DpAll K H vs p)
  (fun e=>by cases e;exact .non) (fun b _ e=>by cases e;exact .bl b) (fun b _ e=>by cases e;exact .int b) (fun b _ e=>by cases e;exact .str b) (fun b _ e=>nomatch e)
  (fun h _ ih _ e=>by obtain⟨ps,e1,e⟩:=Zo.mp e;subst e;exact .tup h (ih e1)) (fun _ _ _ _ e=>nomatch e)
  (fun h _ ih _ e=>by obtain⟨ps,e1,e⟩:=Zo.mp e;subst e;exact .lst (.inl (.inl h)) (ih e1))
  (fun h _ ih _ e=>by obtain⟨ps,e1,e⟩:=Zo.mp e;subst e;exact .lst (.inl (.inr ⟨_,h⟩)) (ih e1))
  (fun _ _ _ _ _ e=>nomatch e) (fun _ _ _ _ _ e=>nomatch e) (fun _ _ _ _ _ e=>nomatch e) (fun _ _ _ _ _ e=>nomatch e)
  (fun e=>by cases e;exact .nil)
  (fun _ _ i1 i2 _ e=>by
   obtain⟨q,e1,e⟩:=bind_some e
   obtain⟨qs,e2,e⟩:=Zo.mp e
   subst e
   exact .cons (i1 e1) (i2 e2)) h
theorem Rep.dp{K:tz0}{H:Hp}{v:V}{d:D}{fp:List Addr}{p:PyData}(h:Rep K U H v d fp)(e:d.data=some p):Dp K H v p:=by
 have:=(Reps.one h).dps (p:=[p]) (by show(d.data.bind _)=_;rw [e];rfl)
 cases this;assumption
def yb8(x y:D):Option Bool:=x.data.bind fun a=>y.data.bind fun b=>if (a.canLay0&&b.canLay0&&decide (a.depth<=60))=true then some (PyData.eqv a b) else none
def eqB(x y:D):Option Bool:=match x,y with
 | .int i,.int j=>some (decide (i=j))
 | .str i,.str j=>some (decide (i=j))
 |x,y=>yb8 x y
def dEq(x y:D):Option D:=(eqB x y).map .bl
def dNe(x y:D):Option D:=(eqB x y).map fun b=> .bl (!b)
theorem zp0(h:eqB x y=some b):(∃i j,x= .int i/\y= .int j/\b=decide (i=j))\/(∃i j,x= .str i/\y= .str j/\b=decide (i=j))\/
  ∃p q,x.data=some p/\y.data=some q/\p.canLay0=true/\q.canLay0=true/\p.depth<=60/\b=PyData.eqv p q:=by
 have gen:yb8 x y=some b->∃p q,x.data=some p/\y.data=some q/\p.canLay0=true/\q.canLay0=true/\p.depth<=60/\b=PyData.eqv p q:=fun h=>by
  unfold yb8 at h
  cases e1:x.data with
  |none=>rw [e1] at h;cases h
  | some p=>
   rw [e1] at h
   cases e2:y.data with
   |none=>rw [e2] at h;cases h
   | some q=>
    rw [e2] at h
    have h':(if (p.canLay0&&q.canLay0&&decide (p.depth<=60))=true then some (PyData.eqv p q) else none)=some b:=h
    split at h'
    ·rename_i hc
     simp only [Zx,ZT] at hc
     exact⟨p,q,rfl,rfl,hc.1.1,hc.1.2,hc.2,(ZA h').symm⟩
    ·cases h'
 unfold eqB at h
 split at h
 ·cases h;exact .inl ⟨_,_,rfl,rfl,rfl⟩
 ·cases h;exact .inr (.inl ⟨_,_,rfl,rfl,rfl⟩)
 ·exact .inr (.inr (gen h))
theorem hJ(hu:X.A.units+64<cLine):OpR X (compareOp .Eq) (POp X.K U dEq):=⟨by
 rintro pins s σ H x y v u Q I rx ry ⟨dx,dy,d,fx,fy,r1,r2,e,q⟩
 unfold dEq at e
 cases e1:eqB dx dy with
 |none=>rw [e1] at e;cases e
 | some b=>
  rw [e1] at e
  cases e
  rcases zp0 e1 with ⟨i,j,rfl,rfl,rfl⟩|⟨i,j,rfl,rfl,rfl⟩|⟨p,p',h1,h2,h3,h4,h5,rfl⟩
  ·rw [r1.is_int] at rx;rw [r2.is_int] at ry
   exact yk6 pins s σ H _ _ v u Q I rx ry ⟨rfl,by rw [show decide (V.int i=V.int j)=decide (i=j) by simp];exact q.now (.bl _)⟩
  ·rw [r1.is_str] at rx;rw [r2.is_str] at ry
   exact yk6 pins s σ H _ _ v u Q I rx ry ⟨rfl,by rw [show decide (V.str i=V.str j)=decide (i=j) by simp];exact q.now (.bl _)⟩
  ·exact xv9 hu pins s σ H _ _ v u Q I rx ry ⟨p,p',r1.dp h1,r2.dp h2,h3,h4,h5,q.now (.bl _)⟩⟩
theorem xd8(hu:X.A.units+64<cLine):OpR X (compareOp .NotEq) (POp X.K U dNe):=⟨by
 rintro pins s σ H x y v u Q I rx ry ⟨dx,dy,d,fx,fy,r1,r2,e,q⟩
 unfold dNe at e
 cases e1:eqB dx dy with
 |none=>rw [e1] at e;cases e
 | some b=>
  rw [e1] at e
  cases e
  rcases zp0 e1 with ⟨i,j,rfl,rfl,rfl⟩|⟨i,j,rfl,rfl,rfl⟩|⟨p,p',h1,h2,h3,h4,h5,rfl⟩
  ·rw [r1.is_int] at rx;rw [r2.is_int] at ry
   exact xk3 pins s σ H _ _ v u Q I rx ry ⟨rfl,by rw [show decide (V.int i=V.int j)=decide (i=j) by simp];exact q.now (.bl _)⟩
  ·rw [r1.is_str] at rx;rw [r2.is_str] at ry
   exact xk3 pins s σ H _ _ v u Q I rx ry ⟨rfl,by rw [show decide (V.str i=V.str j)=decide (i=j) by simp];exact q.now (.bl _)⟩
  ·exact xw0 hu pins s σ H _ _ v u Q I rx ry ⟨p,p',r1.dp h1,r2.dp h2,h3,h4,h5,q.now (.bl _)⟩⟩
def zh9:D->Bool
 | .non=>true
 |_=>false
theorem zw5{K:tz0}{H:Hp}{v:V}{d:D}{fp:List Addr}(r:Rep K U H v d fp):decide (v= .non)=zh9 d:=by cases r<;>first|rfl|simp [zh9]
def dIs:D->D->Option D
 |x,.non=>some (.bl (zh9 x))
 |_,_=>none
def mS:D->D->Option D
 |x,.non=>some (.bl (!(zh9 x)))
 |_,_=>none
theorem zb3:OpR X (compareOp .Is) (POp X.K U dIs):=⟨by
 rintro pins s σ H x y v u Q I rx ry ⟨dx,dy,d,fx,fy,r1,r2,e,q⟩
 cases dy with
 |non=>
  cases e;cases r2
  refine xu4 pins s σ H x _ v u Q I rx ry ⟨rfl,?_⟩
  rw [zw5 r1];exact q.now (.bl _)
 |_=>cases e⟩
theorem zk6:OpR X (compareOp .IsNot) (POp X.K U mS):=⟨by
 rintro pins s σ H x y v u Q I rx ry ⟨dx,dy,d,fx,fy,r1,r2,e,q⟩
 cases dy with
 |non=>
  cases e;cases r2
  refine xm8 pins s σ H x _ v u Q I rx ry ⟨rfl,?_⟩
  rw [zw5 r1];exact q.now (.bl _)
 |_=>cases e⟩
def D.flat:D->Option V
 | .non=>some .non
 | .bl b=>some (.bl b)
 | .int i=>some (.int i)
 | .str x=>some (.str x)
 |_=>none
def D.flats:List D->Option (List V)
 |[]=>some []
 |d::ds=>d.flat.bind fun v=>(D.flats ds).map (v::·)
theorem yg1{K:tz0}{H:Hp}{v w:V}{d:D}{fp:List Addr}(r:Rep K U H v d fp)(h:d.flat=some w):v=w/\kX v=true:=by
 cases r<;>first|(cases h;exact⟨rfl,rfl⟩)|cases h
theorem zw6{K:tz0}{H:Hp}:∀{vs ws:List V} {ds:List D} {fp:List Addr},Reps K U H vs ds fp->D.flats ds=some ws->vs=ws/\vs.all kX=true
 |_,_,_,_,.nil,e=>by cases e;exact⟨rfl,rfl⟩
 | _,ws,d::ds,_,.cons h hs,e=>by
  rw [D.flats] at e
  cases e1:d.flat with
  |none=>rw [e1] at e;cases e
  | some w=>
   rw [e1] at e
   cases e2:D.flats ds with
   |none=>rw [e2] at e;cases e
   |some us=>
    rw [e2] at e;cases e
    obtain⟨a1,a2⟩:=yg1 h e1
    obtain⟨b1,b2⟩:=zw6 hs e2
    exact⟨by rw [a1,b1],by rw [XL,a2,b2];rfl⟩
def rB(x:D)(ds:List D):Option Bool:=x.flat.bind fun v=>(D.flats ds).map fun ws=>inV v ws
def inB(x:D):D->Option Bool
 | .lst _ ds=>rB x ds
 | .tup ds=>rB x ds
 |_=>none
def dIn(x y:D):Option D:=(inB x y).map .bl
theorem xw2{H:Hp}{x y:V}{dx dy:D}{fx fy:List Addr}{b:Bool}(r1:Rep X.K U H x dx fx)(r2:Rep X.K U H y dy fy)(e:inB dx dy=some b):
  ∃p xs,y= .ref p/\(SqL X.K H p xs\/SqT X.K H p xs)/\kX x=true/\xs.all kX=true/\b=inV x xs:=by
 have gen:∀{vs:List V} {ds:List D} {g:List Addr},Reps X.K U H vs ds g->rB dx ds=some b->kX x=true/\vs.all kX=true/\b=inV x vs:=fun {vs ds g} rs h=>by
  unfold rB at h
  cases e1:dx.flat with
  |none=>rw [e1] at h;cases h
  | some w=>
   rw [e1] at h
   cases e2:D.flats ds with
   |none=>rw [e2] at h;cases h
   |some ws=>
    rw [e2] at h
    obtain⟨a1,a2⟩:=yg1 r1 e1
    obtain⟨b1,b2⟩:=zw6 rs e2
    subst a1 b1
    exact⟨a2,b2,(ZA h).symm⟩
 cases dy with
 |lst o ds=>
  obtain⟨a,vs,g,rfl,h,hs,_⟩:=r2.lst_inv
  obtain⟨g1,g2,g3⟩:=gen hs e
  exact⟨a,vs,rfl,.inl (.inl h),g1,g2,g3⟩
 |tup ds=>
  obtain⟨a,vs,rfl,h,hs⟩:=r2.tup_inv
  obtain⟨g1,g2,g3⟩:=gen hs e
  exact⟨a,vs,rfl,.inr h,g1,g2,g3⟩
 |_=>cases e
theorem xw3:OpR X (compareOp .In) (POp X.K U dIn):=⟨by
 rintro pins s σ H x y v u Q I rx ry ⟨dx,dy,d,fx,fy,r1,r2,e,q⟩
 unfold dIn at e
 cases e1:inB dx dy with
 |none=>rw [e1] at e;cases e
 |some b=>
  rw [e1] at e;cases e
  obtain⟨p,xs,ey,h,f1,f2,rfl⟩:=xw2 r1 r2 e1
  exact yt0 pins s σ H x y v u Q I rx ry ⟨p,xs,ey,h,f1,f2,q.now (.bl _)⟩⟩
end
theorem Reps.getS{K:tz0}{U:tz9}{H:Hp}:∀{vs:List V} {ds:List D} {fp:List Addr} {i:Nat} {d:D},Reps K U H vs ds fp->ds[i]? =some d->∃v f,vs[i]? =some v/\Rep K U H v d f/\f.Sublist fp
 |_,_,_,_,_,.nil,e=>by simp at e
 |_,_,_,0,_,.cons h _,e=>by simp at e;subst e;exact⟨_,_,rfl,h,XN _ _⟩
 |_,_,_,i+1,_,.cons _ hs,e=>by
  obtain⟨v,f,h1,h2,h3⟩:=Reps.getS (i:=i) hs (by simpa using e)
  exact⟨v,f,by simpa using h1,h2,h3.trans (XH _ _)⟩
theorem Reps.atI{K:tz0}{U:tz9}{H:Hp}{vs:List V}{ds:List D}{fp:List Addr}{i:Int}{d:D}(r:Reps K U H vs ds fp)(h:L2.atI ds i=some d):∃v f,L2.atI vs i=some v/\Rep K U H v d f/\f.Sublist fp:=by
 unfold L2.atI at h|-
 rw [r.length]
 cases e:ixN ds.length i with
 |none=>rw [e] at h;cases h
 |some j=>rw [e] at h;exact r.getS h
section
variable{X:Cx}{U:tz9}{e a b:Expr}{es:List Expr}{f fa fb:tz2}{g:tz3}{pos p2:Pos}
def aE:tz3:=fun _=>some []
def aC(f:tz2)(g:tz3):tz3:=fun ps=>(f ps).bind fun d=>(g ps).bind fun ds=>some (d::ds)
theorem vF(h:aC f g ps=some ds):∃d es,f ps=some d/\g ps=some es/\ds=d::es:=by
 unfold aC at h
 cases e1:f ps with
 |none=>rw [e1] at h;cases h
 |some d=>
  rw [e1] at h
  cases e2:g ps with
  |none=>rw [e2] at h;cases h
  |some es=>rw [e2] at h;cases h;exact⟨d,es,rfl,rfl,rfl⟩
theorem aQ:QVA X U [] aE:=nM.imp fun σ H Q ⟨ps,ds,w,e,q⟩=>by cases e;exact q [] H [] (.refl H) .nil
theorem aF(ha:QV X U e f)(hr:QVA X U es g)(hs:StE e es X:=by rfl):QVA X U (e::es) (aC f g):=
 (fU ha hr hs).imp fun σ H Q hh_=>by
  obtain⟨ps,ds,w,e,q⟩:=hh_
  obtain⟨d,es,e1,e2,rfl⟩:=vF e
  exact⟨ps,d,w,e1,fun v H1 fp s1 r1=>⟨ps,es,w.same s1,e2,fun vs H2 fq s2 r2=>q _ H2 _ (s1.trans s2) (.cons (r1.same s2) r2)⟩⟩
theorem bI:QPA X U [] aE:=nM.imp fun σ H Q ⟨ps,ds,w,e,q⟩=>by cases e;exact q [] H [] (.refl H) (fun _ h=>absurd h (by simp)) Zi .nil
theorem yu4{K:tz0}{H1:Hp}{v:V}{d:D}{fv fw:List Addr}(r:Rep K U H1 v d fv)(n1:fv.Nodup)(hw:∀a∈fw,H1 a=none)(n2:fw.Nodup):(fv++fw).Nodup:=by
 rw [Zz]
 refine⟨n1,n2,fun a ha b hb e=> ?_⟩
 subst e
 obtain⟨o,h,_⟩:=r.own a ha
 rw [hw a hb] at h;cases h
theorem aR(ha:QP X U e f)(hr:QPA X U es g)(hs:StE e es X:=by rfl):QPA X U (e::es) (aC f g):=
 (fU ha hr hs).imp fun σ H Q hh_=>by
  obtain⟨ps,ds,w,e,q⟩:=hh_
  obtain⟨d,es,e1,e2,rfl⟩:=vF e
  refine⟨ps,d,w,e1,fun v H1 fv s1 n1 nd1 r1=>⟨ps,es,w.same s1,e2,fun vs H2 fw s2 n2 nd2 r2=> ?_⟩⟩
  refine q _ H2 (fv++fw) (s1.trans s2) (fun a ha=> ?_) (yu4 r1 nd1 n2 nd2) (.cons (r1.same s2) r2)
  rcases Zq.mp ha with z|z
  ·exact n1 a z
  ·exact s1.grow a (n2 a z)
def cZ(g:tz3):tz2:=fun ps=>(g ps).bind fun ds=>if (D.imms ds&&decide (ds.length<=1000))=true then some (.tup ds) else none
def dA(g:tz3):tz2:=fun ps=>(g ps).bind fun ds=>if ds.length<=1000 then some (.lst true ds) else none
theorem eC{x1}(h:QPA X U es g):QP X U (.Tuple es x1 pos) (cZ g):=
 (xu8 h).imp fun σ H Q hh_=>by
  obtain⟨ps,d,w,e,q⟩:=hh_
  obtain⟨ds,e1,e2⟩:=bind_some e
  obtain⟨hc,e3⟩:=bX e2
  cases e3
  rw [Zx,ZT] at hc
  refine⟨ps,ds,w,e1,fun vs H1 fv s1 n1 nd1 r1=>⟨by rw [r1.length];exact zt0 hc.2,fun p hp=> ?_⟩⟩
  exact zk5 hp (r1.pair hc.1) (q.after s1)
theorem eG(h:QPA X U es g):QP X U (.List es pos) (dA g):=
 (xu9 h).imp fun σ H Q hh_=>by
  obtain⟨ps,d,w,e,q⟩:=hh_
  obtain⟨ds,e1,e2⟩:=bind_some e
  obtain⟨hc,e3⟩:=bX e2
  cases e3
  refine⟨ps,ds,w,e1,fun vs H1 fv s1 n1 nd1 r1=>⟨by rw [r1.length];exact zt0 hc,fun p hp=> ?_⟩⟩
  refine q _ _ (p::fv) (s1.trans (.new hp _)) (fun a ha=> ?_) (Zs.mpr ⟨fun hm=> ?_,nd1⟩) (.lst cK (r1.same (.new hp _)))
  ·rcases Z6.mp ha with z|z
   ·rw [z];exact s1.grow p hp
   ·exact n1 a z
  ·obtain⟨o,h,_⟩:=r1.own p hm
   rw [hp] at h;cases h
def dIx:D->D->Option D
 | .lst _ xs,.int i=>atI xs i
 | .tup xs,.int i=>atI xs i
 | .con xs,.int i=>atI xs i
 | .str z,.int i=>if z.length<=sizeLine then(atI z.cps.toList i).map fun c=> .str ⟨#[c]⟩ else none
 |_,_=>none
theorem yu5{K:tz0}{H:Hp}{x y:V}{dx dy d:D}{fx fy:List Addr}{Q:VK}(r1:Rep K U H x dx fx)(r2:Rep K U H y dy fy)(e:dIx dx dy=some d)(q:∀v f,Rep K U H v d f->f.Sublist fx->Q v H):rIx K x y H Q:=by
 unfold dIx at e
 split at e
 ·rename_i o xs i
  obtain⟨a,vs,g,rfl,h,hs,sub⟩:=r1.lst_inv
  obtain⟨v,f,h1,h2,h3⟩:=hs.atI e
  exact .inl ⟨a,vs,i,v,rfl,r2.is_int,.inl h,h1,q v f h2 (h3.trans sub)⟩
 ·rename_i xs i
  obtain⟨a,vs,rfl,h,hs⟩:=r1.tup_inv
  obtain⟨v,f,h1,h2,h3⟩:=hs.atI e
  cases List.sublist_nil.mp h3
  exact .inr (.inl ⟨a,vs,i,v,rfl,r2.is_int,h,h1,q v [] h2 (Xr _)⟩)
 ·rename_i xs i
  obtain⟨a,vs,rfl,h,hs⟩:=r1.con_inv
  obtain⟨v,f,h1,h2,h3⟩:=hs.atI e
  cases List.sublist_nil.mp h3
  exact .inl ⟨a,vs,i,v,rfl,r2.is_int,h.l,h1,q v [] h2 (Xr _)⟩
 ·rename_i z i
  obtain⟨hz,e⟩:=bX e
  obtain⟨c,e1,e⟩:=Zo.mp e
  subst e
  exact .inr (.inr ⟨z,i,c,r1.is_str,r2.is_int,hz,e1,q _ [] (.str _) (Xr _)⟩)
 ·cases e
theorem aZ(ha:QV X U a fa)(hb:QV X U b fb)(hs:zS b:=by exact fun _ _=>rfl):QV X U (.Subscript a b pos) (f2 dIx fa fb):=
 (zs8 ys8 ha hb hs).imp fun σ H Q hh_=>by
  obtain⟨ps,d,w,e,q⟩:=hh_
  obtain⟨x,y,e1,e2,e3⟩:=uF e
  exact⟨ps,x,w,e1,fun v H1 fp s1 r1=>⟨ps,y,w.same s1,e2,fun u H2 fq s2 r2=>yu5 (r1.same s2) r2 e3 fun v f r _=>q v H2 f (s1.trans s2) r⟩⟩
theorem zC(ha:QP X U a fa)(hb:QV X U b fb)(hs:zS b:=by exact fun _ _=>rfl):QP X U (.Subscript a b pos) (f2 dIx fa fb):=
 (zs8 ys8 ha hb hs).imp fun σ H Q hh_=>by
  obtain⟨ps,d,w,e,q⟩:=hh_
  obtain⟨x,y,e1,e2,e3⟩:=uF e
  exact⟨ps,x,w,e1,fun v H1 fv s1 n1 nd1 r1=>⟨ps,y,w.same s1,e2,fun u H2 fq s2 r2=>yu5 (r1.same s2) r2 e3 fun v f r sub=>q v H2 f (s1.trans s2) (fun c hc=>n1 c (sub.subset hc)) (nd1.sublist sub) r⟩⟩
def tO(K:tz0)(U:tz9)(f:PSt->Option (Option Int)):TO:=fun σ H Q=>∃ps o,WS K U H σ ps/\f ps=some o/\∀H',SameK H H'->Q o H'
abbrev QO(X:Cx)(U:tz9)(e:Option Expr)(f:PSt->Option (Option Int)):Prop:=PO X e (tO X.K U f)
def jI:PSt->Option (Option Int):=fun _=>some none
def nY(f:tz2):PSt->Option (Option Int):=fun ps=>(f ps).bind fun d=>match d with
 | .int i=>some (some i)
 |_=>none
theorem yg2:QO X U none jI:=⟨fun pins s σ H Q I ⟨ps,o,w,e,q⟩=>by cases e;exact xn3 pins s σ H Q I (q H (.refl H))⟩
theorem yg3(h:QV X U e f):QO X U (some e) (nY f):=⟨fun pins s σ H Q I hh_=>by
 obtain⟨ps,o,w,e,q⟩:=hh_
 obtain⟨d,e1,e2⟩:=bind_some e
 cases d with
 |int i=>cases e2;exact xn4 h pins s σ H Q I ⟨ps,_,w,e1,fun v H1 fp s1 r1=>⟨i,r1.is_int,q H1 s1⟩⟩
 |_=>cases e2⟩
def yb9(xs:List D)(lo hi:Option Int):List D:=(xs.drop (HT.sIx xs.length 0 lo)).take (HT.sIx xs.length xs.length hi-HT.sIx xs.length 0 lo)
def dSl:D->Option Int->Option Int->Option D
 | .lst _ xs,lo,hi=>if D.imms xs=true then some (.lst true (yb9 xs lo hi)) else none
 |_,_,_=>none
theorem xd9{K:tz0}{H:Hp}{vs:List V}{ds:List D}{lo hi:Option Int}(r:Paired (fun v d=>Rep K U H v d []) vs ds):Paired (fun v d=>Rep K U H v d []) (zn4 vs lo hi) (yb9 ds lo hi):=by
 unfold zn4 yb9
 rw [ZI r]
 exact Paired.takeN _ (Paired.dropN _ r)
def PSl(K:tz0)(U:tz9):V->Option Int->Option Int->Hp->VK->Prop:=fun x lo hi H Q=>∃dx d fx,Rep K U H x dx fx/\dSl dx lo hi=some d/\kQ K U H d Q
theorem xw4:SlR X (PSl X.K U):=by
 rintro pins s σ H x v vl vu lo hi sl Q I rx hs pl pu ⟨dx,d,fx,r,e,q⟩
 unfold dSl at e
 split at e
 ·obtain⟨hc,e2⟩:=bX e
  cases e2
  obtain⟨a,vs,g,rfl,h,rs,sub⟩:=r.lst_inv
  exact xn6 pins s σ H _ v vl vu _ _ sl Q I rx hs pl pu ⟨a,vs,rfl,.inl h,fun p hp=>zk4 hp (xd9 (rs.pair hc)) q⟩
 ·cases e
def fSl(f:tz2)(fl fh:PSt->Option (Option Int)):tz2:=fun ps=>(f ps).bind fun d=>(fl ps).bind fun l=>(fh ps).bind fun h=>dSl d l h
theorem zw7{lo hi:Option Expr}{fl fh:PSt->Option (Option Int)}(he:QV X U e f)(hl:QO X U lo fl)(hh:QO X U hi fh):QP X U (.Subscript e (.Slice lo hi none p2) pos) (fSl f fl fh):=
 (xd0 xw4 he hl hh).imp fun σ H Q hh_=>by
  obtain⟨ps,d,w,e,q⟩:=hh_
  obtain⟨d1,e1,e2⟩:=bind_some e
  obtain⟨l,e3,e4⟩:=bind_some e2
  obtain⟨h,e5,e6⟩:=bind_some e4
  exact⟨ps,d1,w,e1,fun v H1 fp s1 r1=>⟨ps,l,w.same s1,e3,fun H2 s2=>⟨ps,h,(w.same s1).same s2,e5,fun H3 s3=>⟨d1,d,fp,(r1.same s2).same s3,e6,q.after ((s1.trans s2).trans s3)⟩⟩⟩⟩
def PCl(K:tz0)(U:tz9)(g:tz6):List V->Hp->VK->Prop:=fun vs H Q=>∃ds fp d,Reps K U H vs ds fp/\g ds=some d/\kQ K U H d Q
def aJ(h:tz6)(g:tz3):tz2:=fun ps=>(g ps).bind h
theorem yu6(q:tP X.K U (aJ h g) σ H Q):tCB (PCl X.K U h) (tVA X.K U g) σ H Q:=by
 obtain⟨ps,d,w,e,q⟩:=q
 obtain⟨ds,e1,e2⟩:=bind_some e
 exact⟨ps,ds,w,e1,fun vs H1 fp s1 r1=>⟨ds,fp,d,r1,e2,q.after s1⟩⟩
theorem cO{x:Str}{id:String}{p:Pos}{h:tz6}(hc:CallR X (.builtin id) (PCl X.K U h))(hg:Gl X x)(hm:X.mg x=none)(hv:bootBuiltins x=some (.builtin id))(ha:QVA X U (e::es) g)(hn:x≠"__name__":=by decide)(hdb:NDb x:=by decide)
  (hs:StE e es X:=by rfl) (hpl:BkE pos es X:=by rfl):QP X U (.Call (.Name x p) (e::es) [] pos) (aJ h g):=
 (rP hc hg hm hv ha hn hdb hs hpl).imp fun _ _ _ q=>yu6 q
theorem sP(hc:CallR X (.type T) (PCl X.K U h))(hg:Gl X x)(hm:X.mg x=none)(hv:bootBuiltins x=some (.type T))(ha:QVA X U (e::es) g)(hn:x≠"__name__":=by decide)(hdb:NDb x:=by decide)
  (hs:StE e es X:=by rfl) (hpl:BkE pos es X:=by rfl):QP X U (.Call (.Name x p) (e::es) [] pos) (aJ h g):=
 (ys7 hc hg hm hv ha hn hdb hs hpl).imp fun _ _ _ q=>yu6 q
theorem Reps.two_inv{K:tz0}{H:Hp}{vs:List V}{d e:D}{fp:List Addr}(r:Reps K U H vs [d,e] fp):∃v u f g,vs=[v,u]/\Rep K U H v d f/\Rep K U H u e g:=by
 obtain⟨v,us,f,g,rfl,h,t,rfl⟩:=r.split
 obtain⟨u,rfl,h2⟩:=t.one_inv
 exact⟨v,u,f,g,rfl,h,h2⟩
def cT:tz6
 |[.lst _ xs]=>some (.int xs.length)
 |[.tup xs]=>some (.int xs.length)
 |[.con xs]=>some (.int xs.length)
 |[.str z]=>if z.length<=sizeLine then some (.int z.length) else none
 |_=>none
theorem eW:CallR X (.builtin "len") (PCl X.K U cT):=⟨by
 rintro pins s σ H vs us Q I r ⟨ds,fp,d,rs,e,q⟩
 unfold cT at e
 split at e
 ·cases e
  obtain⟨v,rfl,r1⟩:=rs.one_inv
  obtain⟨a,ws,g,rfl,h,hs,_⟩:=r1.lst_inv
  exact jE pins s σ H _ us Q I r ⟨a,ws,rfl,.inl (.inl h),by rw [hs.length];exact q.now (.int _)⟩
 ·cases e
  obtain⟨v,rfl,r1⟩:=rs.one_inv
  obtain⟨a,ws,rfl,h,hs⟩:=r1.tup_inv
  exact jE pins s σ H _ us Q I r ⟨a,ws,rfl,.inr h,by rw [hs.length];exact q.now (.int _)⟩
 ·cases e
  obtain⟨v,rfl,r1⟩:=rs.one_inv
  obtain⟨a,ws,rfl,h,hs⟩:=r1.con_inv
  exact jE pins s σ H _ us Q I r ⟨a,ws,rfl,.inl h.l,by rw [hs.length];exact q.now (.int _)⟩
 ·obtain⟨hz,e⟩:=bX e
  cases e
  obtain⟨v,rfl,r1⟩:=rs.one_inv
  exact zv9 pins s σ H _ us Q I r ⟨_,by rw [r1.is_str],hz,q.now (.int _)⟩
 ·cases e⟩
def zt5:tz6
 |[.int i,.int j]=>some (.int (if j<i then j else i))
 |_=>none
theorem xw5(hc:X.calm=true):CallR X (.builtin "min") (PCl X.K U zt5):=⟨by
 rintro pins s σ H vs us Q I r ⟨ds,fp,d,rs,e,q⟩
 unfold zt5 at e
 split at e
 ·cases e
  obtain⟨v,u,f,g,rfl,r1,r2⟩:=rs.two_inv
  exact ys4 hc pins s σ H _ us Q I r ⟨_,_,by rw [r1.is_int,r2.is_int],q.now (.int _)⟩
 ·cases e⟩
def iT:tz6
 |[.lst _ xs]=>if D.imms xs=true then some (.tup xs) else none
 |[.tup xs]=>some (.tup xs)
 |_=>none
theorem zD:CallR X (.type "tuple") (PCl X.K U iT):=⟨by
 rintro pins s σ H vs us Q I r ⟨ds,fp,d,rs,e,q⟩
 unfold iT at e
 split at e
 ·obtain⟨hc,e⟩:=bX e
  cases e
  obtain⟨v,rfl,r1⟩:=rs.one_inv
  obtain⟨a,ws,g,rfl,h,hs,_⟩:=r1.lst_inv
  exact wW pins s σ H _ us Q I r ⟨a,ws,rfl,.inl ⟨.inl h,fun p hp=>zk5 hp (hs.pair hc) q⟩⟩
 ·cases e
  obtain⟨v,rfl,r1⟩:=rs.one_inv
  obtain⟨a,ws,rfl,h,hs⟩:=r1.tup_inv
  exact wW pins s σ H _ us Q I r ⟨a,ws,rfl,.inr ⟨h,q.now (.tup h hs)⟩⟩
 ·cases e⟩
def D.bools:List D->Option (List Bool)
 |[]=>some []
 | .bl b::ds=>(D.bools ds).map (b::·)
 |_::_=>none
theorem zw8{K:tz0}{H:Hp}:∀{vs:List V} {ds:List D} {fp:List Addr} {ns:List Bool},Reps K U H vs ds fp->D.bools ds=some ns->vs=ns.map V.bl
 |_,_,_,_,.nil,e=>by cases e;rfl
 | _,d::ds,_,ns,.cons h hs,e=>by
  cases d with
  |bl i=>
   rw [D.bools] at e
   cases e1:D.bools ds with
   |none=>rw [e1] at e;cases e
   |some ms=>rw [e1] at e;cases e;rw [h.is_bl,zw8 hs e1];rfl
  |_=>cases e
def yp6:tz6
 |[.lst _ xs]=>(D.bools xs).map fun bs=> .bl (bs.all id)
 |_=>none
theorem wc6(hc:X.calm=true):CallR X (.builtin "all") (PCl X.K U yp6):=⟨by
 rintro pins s σ H vs us Q I r ⟨ds,fp,d,rs,e,q⟩
 unfold yp6 at e
 split at e
 ·rename_i xs
  cases e1:D.bools xs with
  |none=>rw [e1] at e;cases e
  |some bs=>
   rw [e1] at e;cases e
   obtain⟨v,rfl,r1⟩:=rs.one_inv
   obtain⟨a,ws,g,rfl,h,hs,_⟩:=r1.lst_inv
   rw [zw8 hs e1] at h
   exact yt8 hc pins s σ H _ us Q I r ⟨a,bs,rfl,.inl h,q.now (.bl _)⟩
 ·cases e⟩
def yc0:tz6
 |[.lst _ xs]=>(D.ints xs).map fun ns=> .int ns.sum
 |_=>none
theorem xk8(hc:X.calm=true):CallR X (.builtin "sum") (PCl X.K U yc0):=⟨by
 rintro pins s σ H vs us Q I r ⟨ds,fp,d,rs,e,q⟩
 unfold yc0 at e
 split at e
 ·rename_i xs
  cases e1:D.ints xs with
  |none=>rw [e1] at e;cases e
  |some bs=>
   rw [e1] at e;cases e
   obtain⟨v,rfl,r1⟩:=rs.one_inv
   obtain⟨a,ws,g,rfl,h,hs,_⟩:=r1.lst_inv
   rw [oV hs e1] at h
   exact yt9 hc pins s σ H _ us Q I r ⟨a,bs,rfl,.inl h,q.now (.int _)⟩
 ·cases e⟩
def PMt(K:tz0)(U:tz9)(g:D->tz6):V->List V->Hp->VK->Prop:=fun x vs H Q=>∃dx ds fx fp d,Rep K U H x dx fx/\Reps K U H vs ds fp/\g dx ds=some d/\kQ K U H d Q
def zi0:D->Bool
 | .str _=>true
 |_=>false
def fMt(h:D->tz6)(f:tz2)(g:tz3):tz2:=fun ps=>(f ps).bind fun x=>(g ps).bind fun ds=>if zi0 x=true then h x ds else none
theorem ze6{name:Str}{id:String}{apos:Pos}{h:D->tz6}(slot:Slot "str" name id)(hty:typeOf (.builtin id)=pure (.type "method_descriptor"))(hm:MtR X id (PMt X.K U h))(ho:QV X U a fa)(ha:QVA X U (e::es) g)
  (hbase:attributeBase a name X.env (eval a X.env)=eval a X.env:=by rfl)
  (hfew:((backTo pos (starEach (e::es) X.env)).all (fun x=> !x.1)&&(backToKw pos (keywordEach [] X.env)).all (fun x=>x.1.isSome)
   &&decide ((e::es).length+([]:List Keyword).length+(if ([]:List Keyword).isEmpty then 0 else 1)<30))=true:=by rfl)
  (hline:(apos.endLine==pos.line)=true:=by rfl) (hs:StE e es X:=by rfl) (hplain:BkE pos es X:=by rfl):
  QP X U (.Call (.Attribute a name apos) (e::es) [] pos) (fMt h fa g):=
 (xk6 PySem.F.plainAttrs_str slot hty hm ho ha hbase hfew hline hs hplain).imp fun σ H Q hh_=>by
  obtain⟨ps,d,w,e,q⟩:=hh_
  obtain⟨x,e1,e2⟩:=bind_some e
  obtain⟨ds,e3,e4⟩:=bind_some e2
  obtain⟨hc,e5⟩:=bX e4
  refine⟨ps,x,w,e1,fun v H1 fp s1 r1=>⟨?_,ps,ds,w.same s1,e3,fun vs H2 fq s2 r2=>⟨x,ds,fp,fq,d,r1.same s2,r2,e5,q.after (s1.trans s2)⟩⟩⟩
  cases x with
  |str z=>rw [r1.is_str];rfl
  |_=>cases hc
def cQ(l:List Str):List D:=l.map .str
theorem zp1{K:tz0}{H:Hp}:∀l:List Str,Paired (fun v d=>Rep K U H v d []) (l.map V.str) (cQ l)
 |[]=> .nil
 |x::l=> .cons (.str x) (zp1 l)
def uU:D->tz6
 | .str z,[.str y]=>if ((y.length==0)=false/\z.length<1000000) then some (.lst true (cQ (Txt.split z y))) else none
 |_,_=>none
theorem yg4:MtR X "str.split" (PMt X.K U uU):=⟨by
 rintro pins s σ H x vs v us Q I rx r ⟨dx,ds,fx,fp,d,r1,rs,e,q⟩
 unfold uU at e
 split at e
 ·obtain⟨hc,e⟩:=bX e
  cases e
  obtain⟨w,rfl,r2⟩:=rs.one_inv
  exact xd6 pins s σ H x _ v us Q I rx r ⟨_,_,r1.is_str,by rw [r2.is_str],hc.1,hc.2,fun p hp=>zk4 hp (zp1 _) q⟩
 ·cases e⟩
def D.strs:List D->Option (List Str)
 |[]=>some []
 | .str b::ds=>(D.strs ds).map (b::·)
 |_::_=>none
theorem uG{K:tz0}{H:Hp}:∀{vs:List V} {ds:List D} {fp:List Addr} {ns:List Str},Reps K U H vs ds fp->D.strs ds=some ns->vs=ns.map V.str
 |_,_,_,_,.nil,e=>by cases e;rfl
 | _,d::ds,_,ns,.cons h hs,e=>by
  cases d with
  |str i=>
   rw [D.strs] at e
   cases e1:D.strs ds with
   |none=>rw [e1] at e;cases e
   |some ms=>rw [e1] at e;cases e;rw [h.is_str,uG hs e1];rfl
  |_=>cases e
def zi1:D->tz6
 | .str z,[.lst _ xs]=>(D.strs xs).bind fun ys=>if (z.length<=16/\(ys.map (·.length)).sum+ys.length<=1048576) then some (.str (Txt.join z ys)) else none
 |_,_=>none
theorem xw6:MtR X "str.join" (PMt X.K U zi1):=⟨by
 rintro pins s σ H x vs v us Q I rx r ⟨dx,ds,fx,fp,d,r1,rs,e,q⟩
 unfold zi1 at e
 split at e
 ·obtain⟨ys,e1,e2⟩:=bind_some e
  obtain⟨hc,e⟩:=bX e2
  cases e
  obtain⟨w,rfl,r2⟩:=rs.one_inv
  obtain⟨a,ws,g,rfl,h,hs,_⟩:=r2.lst_inv
  rw [uG hs e1] at h
  exact xo4 pins s σ H x _ v us Q I rx r ⟨_,a,ys,r1.is_str,rfl,.inl h,hc.1,hc.2,q.now (.str _)⟩
 ·cases e⟩
end
structure Fx where
 K:tz0
 U:tz9
 bor:Nat->Bool
 M:Nat->Bool
 B:Nat->Addr->Prop
structure RS(φ:Fx)(H:Hp)(σ:St)(ps:PSt)(F:Nat->List Addr):Prop where
 rep:∀(i:Nat) (d:D),ps[i]? =some (some d)->∃v fp,σ[i]? =some (some v)/\Rep φ.K φ.U H v d fp/\(φ.bor i=false->fp=F i)/\(φ.bor i=true->∀a∈fp,φ.B i a)
 emp:∀i a,a∈F i->φ.bor i=false/\∃d,ps[i]? =some (some d)
 dis:∀i j a,a∈F i->a∈F j->i=j
 nd:∀i,(F i).Nodup
 nb:∀i a,a∈F i->∀k,¬φ.B k a
 bt:∀k a,φ.B k a->H a≠none
 len:ps.length<=σ.length
structure Frm(F:Nat->List Addr)(H H':Hp):Prop where
 keep:∀a o,H a=some o->kd o=true->(∀i,a∉F i)->H' a=some o
 grow:∀a,H' a=none->H a=none
structure Stp(φ:Fx)(σ:St)(H:Hp)(F:Nat->List Addr)(σ':St)(H':Hp)(ps':PSt)(F':Nat->List Addr):Prop where
 fr:Frm F H H'
 nw:∀i a,a∈F' i->(∃j,a∈F j)\/H a=none
 rs:RS φ H' σ' ps' F'
 msk:∀i,φ.M i=true->σ'[i]? =σ[i]?
structure OwnV(F:Nat->List Addr)(H:Hp)(F':Nat->List Addr)(fv:List Addr):Prop where
 nw:∀a∈fv,(∃j,a∈F j)\/H a=none
 nd:fv.Nodup
 dis:∀i,∀a∈F' i,a∉fv
section
variable{φ:Fx}{H H' H1 H2:Hp}{σ σ1 σ2:St}{ps ps1 ps2:PSt}{F F1 F2:Nat->List Addr}
theorem RS.own(R:RS φ H σ ps F){i:Nat}{a:Addr}(h:a∈F i):∃o,H a=some o/\kd o=true/\tf o=false:=by
 obtain⟨b,d,e⟩:=R.emp i a h
 obtain⟨v,fp,_,r,q,_⟩:=R.rep i d e
 rw [<-q b] at h
 exact r.own a h
theorem RS.ws(R:RS φ H σ ps F):WS φ.K φ.U H σ ps:=fun i d h=>by
 obtain⟨v,fp,h1,h2,_⟩:=R.rep i d h
 exact⟨v,fp,h1,h2⟩
theorem RS.same(R:RS φ H σ ps F)(s:SameK H H'):RS φ H' σ ps F:=
 ⟨fun i d h=>by obtain⟨v,fp,h1,h2,h3⟩:=R.rep i d h;exact⟨v,fp,h1,h2.same s,h3⟩,R.emp,R.dis,R.nd,R.nb,fun k a h z=>R.bt k a h (s.grow a z),R.len⟩
theorem RS.notB(R:RS φ H σ ps F){a:Addr}(h:(∃j,a∈F j)\/H a=none):∀k,¬φ.B k a:=fun k hb=>h.elim (fun⟨j,hj⟩=>R.nb j a hj k hb) fun z=>R.bt k a hb z
theorem Stp.same(R:RS φ H σ ps F)(s:SameK H H'):Stp φ σ H F σ H' ps F:=
 ⟨⟨fun a o h k _=>s.keep a o h k,s.grow⟩,fun i a h=> .inl ⟨i,h⟩,R.same s,fun _ _=>rfl⟩
theorem Stp.refl(R:RS φ H σ ps F):Stp φ σ H F σ H ps F:= .same R (.refl H)
theorem Stp.trans(s1:Stp φ σ H F σ1 H1 ps1 F1)(s2:Stp φ σ1 H1 F1 σ2 H2 ps2 F2):Stp φ σ H F σ2 H2 ps2 F2:=by
 refine⟨⟨fun a o h k n=>s2.fr.keep a o (s1.fr.keep a o h k n) k fun i hi=> ?_,fun a h=>s1.fr.grow a (s2.fr.grow a h)⟩,fun i a h=> ?_,s2.rs,fun i h=>(s2.msk i h).trans (s1.msk i h)⟩
 ·rcases s1.nw i a hi with ⟨j,hj⟩|z
  ·exact n j hj
  ·rw [h] at z;cases z
 ·rcases s2.nw i a h with ⟨j,hj⟩|z
  ·exact s1.nw j a hj
  ·exact .inr (s1.fr.grow a z)
theorem OwnV.after(s1:Stp φ σ H F σ1 H1 ps1 F1)(o:OwnV F1 H1 F2 fv):OwnV F H F2 fv:=
 ⟨fun a ha=>(o.nw a ha).elim (fun⟨j,hj⟩=>s1.nw j a hj) fun z=> .inr (s1.fr.grow a z),o.nd,o.dis⟩
theorem OwnV.new(R:RS φ H σ ps F)(n:∀a∈fv,H a=none)(nd:fv.Nodup):OwnV F H F fv:=
 ⟨fun a ha=> .inr (n a ha),nd,fun i a ha hb=>by obtain⟨o,h,_⟩:=R.own ha;rw [n a hb] at h;cases h⟩
def mL(F:Nat->List Addr)(i:Nat)(fv:List Addr):Nat->List Addr:=fun j=>if j=i then fv else F j
theorem cX:mL F i fv i=fv:=by simp [mL]
theorem cV(h:j≠i):mL F i fv j=F j:=by simp [mL,h]
theorem gR(h:a∈mL F i fv j):a∈fv\/a∈F j:=by
 by_cases e:j=i
 ·subst e;rw [cX] at h;exact .inl h
 ·rw [cV e] at h;exact .inr h
theorem RS.drop(R:RS φ H σ ps F)(i:Nat):RS φ H σ (ps.set i none) (mL F i []):=by
 have eF:∀j a,a∈mL F i [] j->j≠i/\a∈F j:=fun j a h=>by
  by_cases e:j=i
  ·subst e;rw [cX] at h;exact absurd h (by simp)
  ·rw [cV e] at h;exact⟨e,h⟩
 refine⟨fun j d h=> ?_,fun j a h=> ?_,fun j k a h1 h2=>R.dis j k a (eF j a h1).2 (eF k a h2).2,fun j=> ?_,fun j a h=>R.nb j a (eF j a h).2,R.bt,by simpa using R.len⟩
 ·have e:j≠i:=by
   rintro rfl
   by_cases hj:j<ps.length
   ·rw [Zu hj] at h;cases h
   ·rw [Yu (by simpa using hj)] at h;cases h
  rw [Zt (fun z=>e z.symm)] at h
  rw [cV e]
  exact R.rep j d h
 ·obtain⟨e,h⟩:=eF j a h
  obtain⟨b,d,q⟩:=R.emp j a h
  exact⟨b,d,by rw [Zt (fun z=>e z.symm)];exact q⟩
 ·by_cases e:j=i
  ·subst e;rw [cX];exact Zi
  ·rw [cV e];exact R.nd j
theorem RS.set(R:RS φ H σ ps F){i:Nat}{v:V}{d:D}{fv:List Addr}(r:Rep φ.K φ.U H v d fv)(hb:φ.bor i=false\/fv=[])(hd:∀j,j≠i->∀a∈F j,a∉fv)(hn:fv.Nodup)(hB:∀a∈fv,∀k,¬φ.B k a):
  RS φ H (σ.set i (some v)) (ps.set i (some d)) (mL F i (if i<ps.length then fv else [])):=by
 by_cases hi:i<ps.length
 ·rw [if_pos hi]
  have hl:=R.len
  refine⟨fun j d' h=> ?_,fun j a h=> ?_,fun j k a h1 h2=> ?_,fun j=> ?_,fun j a h=> ?_,R.bt,by simpa using R.len⟩
  ·by_cases e:j=i
   ·subst e
    rw [Zu hi] at h
    cases h
    refine⟨v,fv,by rw [Zu (by omega)],r,fun _=>cX.symm,fun z=> ?_⟩
    rcases hb with q|q
    ·rw [q] at z;cases z
    ·subst q;intro a ha;exact absurd ha (by simp)
   ·rw [Zt (fun z=>e z.symm)] at h|-
    rw [cV e]
    exact R.rep j d' h
  ·by_cases e:j=i
   ·subst e
    rw [cX] at h
    refine⟨?_,d,by rw [Zu hi]⟩
    rcases hb with q|q
    ·exact q
    ·subst q;exact absurd h (by simp)
   ·rw [cV e] at h
    obtain⟨b,d',q⟩:=R.emp j a h
    exact⟨b,d',by rw [Zt (fun z=>e z.symm)];exact q⟩
  ·by_cases e1:j=i
   ·by_cases e2:k=i
    ·rw [e1,e2]
    ·subst e1;rw [cX] at h1;rw [cV e2] at h2;exact absurd h1 (hd k e2 a h2)
   ·by_cases e2:k=i
    ·subst e2;rw [cX] at h2;rw [cV e1] at h1;exact absurd h2 (hd j e1 a h1)
    ·rw [cV e1] at h1;rw [cV e2] at h2;exact R.dis j k a h1 h2
  ·by_cases e:j=i
   ·subst e;rw [cX];exact hn
   ·rw [cV e];exact R.nd j
  ·rcases gR h with z|z
   ·exact hB a z
   ·exact R.nb j a z
 ·rw [if_neg hi]
  have e0:ps.set i (some d)=ps:=YL (by omega)
  rw [e0]
  have R':=R.drop i
  rw [YL (by omega)] at R'
  refine⟨fun j d' h=> ?_,R'.emp,R'.dis,R'.nd,R'.nb,R'.bt,by simpa using R.len⟩
  have hj:j≠i:=by
   rintro rfl
   have:=(Z2.mp h).1
   omega
  rw [Zt (fun z=>hj z.symm)]
  exact R'.rep j d' h
theorem Stp.set(s1:Stp φ σ H F σ1 H1 ps1 F1)(o:OwnV F H F1 fv)(R:RS φ H σ ps F)(r:Rep φ.K φ.U H1 v d fv)(hb:φ.bor i=false\/fv=[])(hm:φ.M i=false):
  ∃F',Stp φ σ H F (σ1.set i (some v)) H1 (ps1.set i (some d)) F':=by
 refine⟨_,s1.fr,fun j a h=> ?_,s1.rs.set r hb (fun j _=>o.dis j) o.nd fun a ha=>R.notB (o.nw a ha),fun j h=> ?_⟩
 ·rcases gR h with z|z
  ·by_cases k:i<ps1.length
   ·rw [if_pos k] at z;exact o.nw a z
   ·rw [if_neg k] at z;exact absurd z (by simp)
  ·exact s1.nw j a z
 ·rw [Zt (fun z=>by subst z;rw [hm] at h;cases h)]
  exact s1.msk j h
end
inductive Fl where
 |nx|bk|ct|ret (d:D)
abbrev _root_.tz1:=PSt->Option (Fl×PSt)
def wI(φ:Fx)(E:Ends)(σ:St)(H:Hp)(F:Nat->List Addr)(fl:Fl)(ps':PSt):Prop:=match fl with
 | .nx=>∀σ' H' F',Stp φ σ H F σ' H' ps' F'->E.nx σ' H'
 | .bk=>∀σ' H' F',Stp φ σ H F σ' H' ps' F'->E.bk σ' H'
 | .ct=>∀σ' H' F',Stp φ σ H F σ' H' ps' F'->E.ct σ' H'
 | .ret d=>∀v σ' H' F' fv,Stp φ σ H F σ' H' ps' F'->OwnV F H F' fv->Rep φ.K φ.U H' v d fv->E.rt v H'
def tS(φ:Fx)(f:tz1):TS:=fun E σ H=>∃ps F fl ps',RS φ H σ ps F/\f ps=some (fl,ps')/\wI φ E σ H F fl ps'
def tE(φ:Fx)(f:tz8):TE:=fun σ H Q=>∃ps F d ps',RS φ H σ ps F/\f ps=some (d,ps')/\∀v H' F' fv,Stp φ σ H F σ H' ps' F'->OwnV F H F' fv->Rep φ.K φ.U H' v d fv->Q v H'
def tTE(φ:Fx)(f:PSt->Option (Bool×PSt)):TT:=fun σ H Q=>∃ps F b ps',RS φ H σ ps F/\f ps=some (b,ps')/\∀H' F',Stp φ σ H F σ H' ps' F'->Q b H'
structure F0 where
 bor:Nat->Bool
 M:Nat->Bool
 B:Nat->Addr->Prop
def F0.fx(φ:F0)(K:tz0)(U:tz9):Fx:=⟨K,U,φ.bor,φ.M,φ.B⟩
abbrev QS(X:Cx)(U:tz9)(φ:F0)(st:Stmt)(f:tz1):Prop:=PS X st (tS (φ.fx X.K U) f)
abbrev QSs(X:Cx)(U:tz9)(φ:F0)(st:List Stmt)(f:tz1):Prop:=PSs X st (tS (φ.fx X.K U) f)
abbrev QE(X:Cx)(U:tz9)(φ:F0)(e:Expr)(f:tz8):Prop:=PE X e (tE (φ.fx X.K U) f)
abbrev QTE(X:Cx)(U:tz9)(φ:F0)(e:Expr)(f:PSt->Option (Bool×PSt)):Prop:=PT X e (tTE (φ.fx X.K U) f)
theorem zb4(s1:Stp φ σ H F σ1 H1 ps1 F1)(e:f ps1=some (fl,ps2))(q:wI φ E σ H F fl ps2):tS φ f E σ1 H1:=by
 refine⟨ps1,F1,fl,ps2,s1.rs,e,?_⟩
 cases fl with
 |nx=>exact fun σ' H' F' s=>q σ' H' F' (s1.trans s)
 |bk=>exact fun σ' H' F' s=>q σ' H' F' (s1.trans s)
 |ct=>exact fun σ' H' F' s=>q σ' H' F' (s1.trans s)
 |ret d=>exact fun v σ' H' F' fv s o r=>q v σ' H' F' fv (s1.trans s) (o.after s1) r
def bK:tz1:=fun ps=>some (.nx,ps)
def aS(f g:tz1):tz1:=fun ps=>(f ps).bind fun r=>match r with
 |(.nx,ps')=>g ps'
 |(.bk,ps')=>some (.bk,ps')
 |(.ct,ps')=>some (.ct,ps')
 |(.ret d,ps')=>some (.ret d,ps')
def uV:tz1:=fun _=>none
section
variable{X:Cx}{U:tz9}{φ:F0}{st:Stmt}{rest:List Stmt}{f g:tz1}{pos:Pos}
theorem bU:QSs X U φ [] bK:=ye9.imp fun E σ H ⟨ps,F,fl,ps',R,e,q⟩=>by cases e;exact q σ H F (.refl R)
theorem aM(h:QS X U φ st f):QSs X U φ [st] f:=yY h
theorem aL(h1:QS X U φ st f)(h2:QSs X U φ rest g):QSs X U φ (st::rest) (aS f g):=
 (kZ h1 h2).imp fun E σ H hh_=>by
  obtain⟨ps,F,fl,ps',R,e,q⟩:=hh_
  obtain⟨⟨fl1,ps1⟩,e1,e2⟩:=bind_some e
  refine⟨ps,F,fl1,ps1,R,e1,?_⟩
  cases fl1 with
  |nx=>exact fun σ' H' F' s=>zb4 s e2 q
  |bk=>cases e2;exact q
  |ct=>cases e2;exact q
  |ret d=>cases e2;exact q
theorem rV:QS X U φ st uV:=xc0.imp fun E σ H ⟨ps,F,fl,ps',R,e,q⟩=>by cases e
def aH(f:tz2):tz8:=fun ps=>(f ps).bind fun d=>some (d,ps)
theorem QP.e{e:Expr}{f:tz2}(h:PE X e (tP X.K U f)):QE X U φ e (aH f):=h.imp fun σ H Q hh_=>by
 obtain⟨ps,F,d,ps',R,e,q⟩:=hh_
 obtain⟨d1,e1,e2⟩:=bind_some e
 cases e2
 exact⟨ps,_,R.ws,e1,fun v H' fv s n nd r=>q v H' F fv (.same R s) (.new R n nd) r⟩
def aT(f:tz4):PSt->Option (Bool×PSt):=fun ps=>(f ps).bind fun d=>some (d,ps)
theorem QT.e{e:Expr}{f:tz4}(h:PT X e (tQ X.K U f)):QTE X U φ e (aT f):=h.imp fun σ H Q hh_=>by
 obtain⟨ps,F,d,ps',R,e,q⟩:=hh_
 obtain⟨d1,e1,e2⟩:=bind_some e
 cases e2
 exact⟨ps,_,R.ws,e1,fun H' s=>q H' F (.same R s)⟩
def aV(i:Nat)(f:tz8):tz1:=fun ps=>(f ps).bind fun r=>some (.nx,r.2.set i (some r.1))
theorem ze7(i:Nat){x:Str}{e:Expr}{pos':Pos}{f:tz8}(hN:X.N.Nodup)(hi:X.N[i]? =some x)(hx:Loc X.env.scope x)(hb:φ.bor i=false)(hm:φ.M i=false)(he:QE X U φ e f)(hs:swapsWith e (some (.Name x pos')) pos.line X.env=pure false:=by rfl)(hf:X.fn x=true\/X.env.scope.names.lookup x=some .local:=by first|exact .inl rfl|exact .inr rfl|assumption):
  QS X U φ (.Assign [.Name x pos'] e pos) (aV i f):=(rN hN hi hx he hs hf).imp fun E σ H hh_=>by
 obtain⟨ps,F,fl,ps',R,e,q⟩:=hh_
 obtain⟨⟨d,ps1⟩,e1,e2⟩:=bind_some e
 cases e2
 refine⟨ps,F,d,ps1,R,e1,fun v H' F' fv s o r=> ?_⟩
 obtain⟨F2,s2⟩:=s.set o R r (.inl hb) hm (i:=i)
 exact q _ _ F2 s2
def cY(f:tz8):tz1:=fun ps=>(f ps).bind fun r=>some (.nx,r.2)
theorem fD{e:Expr}{f:tz8}(he:QE X U φ e f)(hs:swapsWith e none pos.line X.env=pure false:=by rfl):QS X U φ (.Expr e pos) (cY f):=(xm7 he hs).imp fun E σ H hh_=>by
 obtain⟨ps,F,fl,ps',R,e,q⟩:=hh_
 obtain⟨⟨d,ps1⟩,e1,e2⟩:=bind_some e
 cases e2
 exact⟨ps,F,d,ps1,R,e1,fun v H' F' fv s o r=>q _ _ F' s⟩
def bS(f:tz8):tz1:=fun ps=>(f ps).bind fun r=>some (.ret r.1,r.2)
theorem bQ{e:Expr}{f:tz8}(he:QE X U φ e f):QS X U φ (.Return (some e) pos) (bS f):=(xI he).imp fun E σ H hh_=>by
 obtain⟨ps,F,fl,ps',R,e,q⟩:=hh_
 obtain⟨⟨d,ps1⟩,e1,e2⟩:=bind_some e
 cases e2
 exact⟨ps,F,d,ps1,R,e1,fun v H' F' fv s o r=>q v σ H' F' fv s o r⟩
def nZ(i:Nat):tz1:=fun ps=>((ps[i]?).join).bind fun d=>some (.ret d,ps.set i none)
theorem join_some{ps:PSt}{i:Nat}{d:D}(h:(ps[i]?).join=some d):ps[i]? =some (some d):=by
 cases q:ps[i]? with
 |none=>rw [q] at h;cases h
 |some o=>rw [q] at h;exact ZM some h
theorem lZ(i:Nat){x:Str}{p:Pos}(hb:φ.bor i=false)(hN:X.N[i]? =some x:=by rfl)(hv:Vis X.env.scope x:=by first|exact Or.inl rfl|exact Or.inr (Or.inl rfl)|exact Or.inr (Or.inr rfl))(hd:NDb x:=by decide)
  (hcd:(x==("__classdict__":Str))=false:=by decide):QS X U φ (.Return (some (.Name x p)) pos) (nZ i):=(xI (rM hN hv hd hcd)).imp fun E σ H hh_=>by
 obtain⟨ps,F,fl,ps',R,e,q⟩:=hh_
 obtain⟨d,e1,e2⟩:=bind_some e
 cases e2
 obtain⟨v,fp,h1,h2,h3,_⟩:=R.rep i d (join_some e1)
 have h3:=h3 hb
 subst h3
 refine⟨v,h1,q v σ H (mL F i []) (F i) ⟨⟨fun a o h _ _=>h,fun a h=>h⟩,fun j a h=> ?_,R.drop i,fun _ _=>rfl⟩ ⟨fun a h=> .inl ⟨i,h⟩,R.nd i,fun j a h1 h2=> ?_⟩ h2⟩
 ·rcases gR h with z|z
  ·exact absurd z (by simp)
  ·exact .inl ⟨j,z⟩
 ·rcases gR h1 with z|z
  ·exact absurd z (by simp)
  ·have:=R.dis j i a z h2
   subst this
   rw [cX] at h1;exact absurd h1 (by simp)
def fIf(c:PSt->Option (Bool×PSt))(f g:tz1):tz1:=fun ps=>(c ps).bind fun r=>if r.1=true then f r.2 else g r.2
theorem cB(hc:QTE X U φ c tc)(ha:QSs X U φ a f)(hb:QSs X U φ b g):QS X U φ (.If c a b pos) (fIf tc f g):=(yk1 hc ha hb).imp fun E σ H hh_=>by
 obtain⟨ps,F,fl,ps',R,e,q⟩:=hh_
 obtain⟨⟨k,ps1⟩,e1,e2⟩:=bind_some e
 refine⟨ps,F,k,ps1,R,e1,fun H' F' s=> ?_⟩
 cases k with
 |true=>rw [if_pos rfl] at e2|-;exact zb4 s e2 q
 |false=>rw [if_neg Z7] at e2|-;exact zb4 s e2 q
end
def lM(c:PSt->Option (Bool×PSt))(f:tz1):Nat->tz1
 |0,_=>none
 | n+1,ps=>(c ps).bind fun r=>if r.1=true then(f r.2).bind fun q=>match q with
   |(.nx,p)=>lM c f n p
   |(.ct,p)=>lM c f n p
   |(.bk,p)=>some (.nx,p)
   |(.ret d,p)=>some (.ret d,p)
  else some (.nx,r.2)
section
variable{X:Cx}{φ:Fx}{pos:Pos}{body:List Stmt}{f:tz1}
theorem wI.back(s1:Stp φ σ H F σ1 H1 ps1 F1)(q:wI φ E σ H F fl ps2):wI φ E σ1 H1 F1 fl ps2:=by
 cases fl with
 |nx=>exact fun σ' H' F' s=>q σ' H' F' (s1.trans s)
 |bk=>exact fun σ' H' F' s=>q σ' H' F' (s1.trans s)
 |ct=>exact fun σ' H' F' s=>q σ' H' F' (s1.trans s)
 |ret d=>exact fun v σ' H' F' fv s o r=>q v σ' H' F' fv (s1.trans s) (o.after s1) r
def wi5(φ:Fx)(σ:St)(H:Hp)(F:Nat->List Addr)(tc:PSt->Option (Bool×PSt))(f:tz1)(fl:Fl)(ps':PSt)(m:Nat)(σ1:St)(H1:Hp):Prop:=∃ps1 F1,Stp φ σ H F σ1 H1 ps1 F1/\lM tc f m ps1=some (fl,ps')
theorem xe0{U:tz9}{φ:F0}(n:Nat){c:Expr}{tc:PSt->Option (Bool×PSt)}(hp:PassesOwn (model X.prog X.w) X.A X.env X.xe)(hc:QTE X U φ c tc)(hb:QSs X U φ body f):QS X U φ (.While c body [] pos) (lM tc f n):=
 (xc1 hp hc hb).imp fun E σ H hh_=>by
  obtain⟨ps,F,fl,ps',R,e,q⟩:=hh_
  refine⟨wi5 (φ.fx X.K U) σ H F tc f fl ps',⟨n,ps,F,.refl R,e⟩,?_⟩
  rintro m σ1 H1 ⟨ps1,F1,s1,e1⟩
  cases m with
  |zero=>cases e1
  | succ m=>
   rw [lM] at e1
   obtain⟨⟨k,ps2⟩,e2,e3⟩:=bind_some e1
   refine⟨ps1,F1,k,ps2,s1.rs,e2,fun H2 F2 s2=> ?_⟩
   have s12:=s1.trans s2
   cases k with
   |true=>
    dsimp only at e3|-
    rw [if_pos rfl] at e3|-
    obtain⟨⟨fl3,ps3⟩,e4,e5⟩:=bind_some e3
    refine⟨fun σ' H'=>∃F',Stp (φ.fx X.K U) σ1 H2 F2 σ' H' ps3 F'/\lM tc f m ps3=some (fl,ps'),fun σ' H' ⟨F',s,e⟩=>⟨m,YO m,ps3,F',s12.trans s,e⟩,?_⟩
    refine⟨ps2,F2,fl3,ps3,s2.rs,e4,?_⟩
    cases fl3 with
    |nx=>exact fun σ' H' F' s=>⟨F',s,e5⟩
    |ct=>exact fun σ' H' F' s=>⟨F',s,e5⟩
    |bk=>cases e5;exact fun σ' H' F' s=>q σ' H' F' (s12.trans s)
    |ret d=>cases e5;exact fun v σ' H' F' fv s o r=>q v σ' H' F' fv (s12.trans s) (o.after s12) r
   |false=>
    dsimp only at e3|-
    rw [if_neg Z7] at e3|-
    cases e3
    exact q _ _ F2 s12
end
def qK(Z:List Addr)(H H':Hp):Prop:=∀a o,H a=some o->(tf o=true\/(kd o=true/\a∈Z))->H' a=some o
structure Walk(K:tz0)(U:tz9)(J:It)(Z:List Addr)(H1:Hp)(ds:List D):Prop where
 go:∀H',qK Z H1 H'->∀(i:Nat) d,ds[i]? =some d->J.go i H'/\∀x H2,J.yld i H' x H2->H2=H'/\Rep K U H' x d []
 stop:∀H',qK Z H1 H'->J.stop ds.length H'
def tIV(K:tz0)(U:tz9)(f:tz3):TI:=fun σ H R=>∃ps ds,WS K U H σ ps/\f ps=some ds/\∀J H1 Z,SameK H H1->Walk K U J Z H1 ds->R J H1
def tIP(K:tz0)(U:tz9)(f:tz3):TI:=fun σ H R=>∃ps ds,WS K U H σ ps/\f ps=some ds/\∀J H1 Z,SameK H H1->(∀a∈Z,H a=none/\H1 a≠none)->Walk K U J Z H1 ds->R J H1
theorem qK.sq{K:tz0}{Z:List Addr}{H H':Hp}{a:Addr}{vs:List V}(k:qK Z H H')(h:Rd H a (.lst vs))(hz:H a=some (.lst vs)->a∈Z):SqL K H' a vs:=by
 rcases h with h|⟨o,h⟩
 ·exact .inl (.inl (k a _ h (.inr ⟨rfl,hz h⟩)))
 ·exact .inl (.inr ⟨o,k a _ h (.inl rfl)⟩)
theorem qK.rep{K:tz0}{U:tz9}{Z:List Addr}{H H':Hp}{v:V}{d:D}(k:qK Z H H')(r:Rep K U H v d []):Rep K U H' v d []:=r.move (fun a o h t=>k a o h (.inl t)) fun a ha=>absurd ha (by simp)
theorem lB:∀{l₁:List α} {l₂:List β} {i:Nat} {y:β},Paired R l₁ l₂->l₂[i]? =some y->∃x,l₁[i]? =some x/\R x y
 |_,_,_,_,.nil,e=>by simp at e
 |_,_,0,_,.cons h _,e=>by simp at e;subst e;exact⟨_,rfl,h⟩
 |_,_,i+1,_,.cons _ t,e=>by obtain⟨x,h1,h2⟩:=lB (i:=i) t (by simpa using e);exact⟨x,by simpa using h1,h2⟩
section
variable{K:tz0}{U:tz9}{H1:Hp}{a:Addr}{vs:List V}{ds:List D}{Z:List Addr}
theorem zp2(h:Rd H1 a (.lst vs))(hz:H1 a=some (.lst vs)->a∈Z)(r:Paired (fun v d=>Rep K U H1 v d []) vs ds):Walk K U (Itl K a) Z H1 ds where
 go:=fun H' k i d e=>by
  obtain⟨x,e1,r1⟩:=lB r e
  have sq:SqL K H' a vs:=k.sq h hz
  refine⟨⟨vs,x,sq,e1⟩,fun y H2 hy=>⟨hy.1,?_⟩⟩
  have e2:=hy.2 vs sq
  rw [e1] at e2;cases e2
  exact k.rep r1
 stop:=fun H' k=>⟨vs,k.sq h hz,by rw [ZI r];exact Za _⟩
theorem xe1(h:SqF K H1 a vs)(r:Paired (fun v d=>Rep K U H1 v d []) vs ds):Walk K U (Itl K a) Z H1 ds where
 go:=fun H' k i d e=>by
  obtain⟨x,e1,r1⟩:=lB r e
  have sq:SqL K H' a vs:=(h.tf fun a o e t=>k a o e (.inl t)).l
  refine⟨⟨vs,x,sq,e1⟩,fun y H2 hy=>⟨hy.1,?_⟩⟩
  have e2:=hy.2 vs sq
  rw [e1] at e2;cases e2
  exact k.rep r1
 stop:=fun H' k=>⟨vs,(h.tf fun a o e t=>k a o e (.inl t)).l,by rw [ZI r];exact Za _⟩
theorem xe2(h:SqT K H1 a vs)(r:Paired (fun v d=>Rep K U H1 v d []) vs ds):Walk K U (Itt K a) Z H1 ds where
 go:=fun H' k i d e=>by
  obtain⟨x,e1,r1⟩:=lB r e
  have sq:SqT K H' a vs:=h.tf fun a o e t=>k a o e (.inl t)
  refine⟨⟨vs,x,sq,e1⟩,fun y H2 hy=>⟨hy.1,?_⟩⟩
  have e2:=hy.2 vs sq
  rw [e1] at e2;cases e2
  exact k.rep r1
 stop:=fun H' k=>⟨vs,h.tf fun a o e t=>k a o e (.inl t),by rw [ZI r];exact Za _⟩
end
def oA(lo:Int)(n:Nat):List D:=(List.range n).map fun(k:Nat)=> .int (lo+(k:Int))
theorem ze8{K:tz0}{U:tz9}{H1:Hp}{Z:List Addr}(lo:Int)(n:Nat):Walk K U (Itr lo n) Z H1 (oA lo n) where
 go:=fun H' _ i d e=>by
  have hi:=(Z2.mp e).1
  unfold oA at hi e
  rw [Zh,Yt] at hi
  rw [Zb,List.getElem?_range hi] at e
  cases e
  exact⟨hi,fun x H2 ⟨h1,h2⟩=>⟨h1,by rw [h2];exact .int _⟩⟩
 stop:=fun H' _=>by
  show n<=(oA lo n).length
  unfold oA
  rw [Zh,Yt];exact Za _
abbrev QIV(X:Cx)(U:tz9)(tg iter:Expr)(f:tz3):Prop:=PI X tg iter (tIV X.K U f)
abbrev QIP(X:Cx)(U:tz9)(tg iter:Expr)(f:tz3):Prop:=PI X tg iter (tIP X.K U f)
theorem PI.imp(h:PI X tg e t)(k:∀σ H Q,t' σ H Q->t σ H Q):PI X tg e t':=⟨fun pins s σ H Q I q=>h pins s σ H Q I (k σ H Q q)⟩
section
variable{X:Cx}{U:tz9}{tg l a b:Expr}{f:tz2}{g:tz3}{p pos:Pos}
def zT:List D->Option (List D)
 |[.int j]=>if (-(2^62)<=j/\j<2^62) then some (oA 0 j.toNat) else none
 |_=>none
def zt6:List D->Option (List D)
 |[.int i,.int j]=>if (-(2^62)<=i/\i<2^62/\ -(2^62)<=j/\j<2^62) then some (oA i (j-i).toNat) else none
 |_=>none
def zU(g:tz3):tz3:=fun ps=>(g ps).bind zT
def zi2(g:tz3):tz3:=fun ps=>(g ps).bind zt6
theorem yu7(hg:Gl X "range")(hm:X.mg "range"=none)(ha:QVA X U [a] g)(hs:starEach [a] X.env=[(false,eval a X.env)]:=by rfl):QIP X U tg (.Call (.Name "range" p) [a] [] pos) (zU g):=
 PI.imp (yr8 hg hm ha hs) fun σ H R hh_=>by
  obtain⟨ps,ds,w,e,q⟩:=hh_
  obtain⟨as,e1,e2⟩:=bind_some e
  refine⟨ps,as,w,e1,fun vs H1 fp s1 r1=> ?_⟩
  unfold zT at e2
  split at e2
  ·obtain⟨hc,e3⟩:=bX e2
   cases e3
   obtain⟨v,rfl,r⟩:=r1.one_inv
   exact⟨_,by rw [r.is_int],hc.1,hc.2,q _ H1 [] s1 (fun _ h=>absurd h (by simp)) (ze8 _ _)⟩
  ·cases e2
theorem yu8(hg:Gl X "range")(hm:X.mg "range"=none)(ha:QVA X U [a,b] g)(hs:starEach [a,b] X.env=[(false,eval a X.env),(false,eval b X.env)]:=by rfl)(hs2:starEach [b] X.env=[(false,eval b X.env)]:=by rfl):QIP X U tg (.Call (.Name "range" p) [a,b] [] pos) (zi2 g):=
 PI.imp (yr9 hg hm ha hs hs2) fun σ H R hh_=>by
  obtain⟨ps,ds,w,e,q⟩:=hh_
  obtain⟨as,e1,e2⟩:=bind_some e
  refine⟨ps,as,w,e1,fun vs H1 fp s1 r1=> ?_⟩
  unfold zt6 at e2
  split at e2
  ·obtain⟨hc,e3⟩:=bX e2
   cases e3
   obtain⟨v,u,f,g,rfl,r,r'⟩:=r1.two_inv
   exact⟨_,_,by rw [r.is_int,r'.is_int],hc,q _ H1 [] s1 (fun _ h=>absurd h (by simp)) (ze8 _ _)⟩
  ·cases e2
def wb0(K:tz0)(tl:TE):TI:=fun σ H R=>tl σ H fun x H1=>∃a,x= .ref a/\(((∃xs,SqL K H1 a xs)/\R (Itl K a) H1)\/((∃xs,SqT K H1 a xs)/\R (Itt K a) H1))
theorem zw9(hl:PE X l tl):PI X tg l (wb0 X.K tl):=⟨by
 intro pins s σ H R I h
 refine thn (hl pins s σ H _ I h) fun v s1 ⟨x,H1,I1,r1,q1⟩=> ?_
 obtain⟨a,e,q1⟩:=q1
 subst e
 cases r1
 rcases q1 with ⟨⟨xs,hq⟩,q⟩|⟨⟨xs,hq⟩,q⟩
 ·obtain⟨its,rv,p,hz⟩:=I1.list hq
  refine wpAny_pyIter_list p.isList ?_
  refine⟨s1.heap.objs.size,[s1.heap.objs.size],_,_,H1,rfl,I1.kept (t':=s1.toks) fun b o e=>Ze _ e,yr7 a _,⟨_,Zv _ rfl,rfl,rfl⟩,fun b hb=> ?_,q⟩
  have e:b=s1.heap.objs.size:=by simpa using hb
  subst e
  exact I1.fpOk (Za _) (I1.hok.fresh (Za _))
 ·obtain⟨its,rv,p,hz⟩:=I1.tuple hq
  refine wpAny_pyIter_tuple (show s1.heap.IsTuple a its.toArray from p) ?_
  refine⟨s1.heap.objs.size,[s1.heap.objs.size],_,_,H1,rfl,I1.kept (t':=s1.toks) fun b o e=>Ze _ e,yk2 a _,⟨_,Zv _ rfl,rfl,rfl⟩,fun b hb=> ?_,q⟩
  have e:b=s1.heap.objs.size:=by simpa using hb
  subst e
  exact I1.fpOk (Za _) (I1.hok.fresh (Za _))⟩
def jV:D->Option (List D)
 | .lst _ xs=>if D.imms xs=true then some xs else none
 | .tup xs=>some xs
 | .con xs=>some xs
 |_=>none
theorem zk7{K:tz0}{H:Hp}{v:V}{d:D}{fp:List Addr}{ds:List D}{R:It->Hp->Prop}(r:Rep K U H v d fp)(e:jV d=some ds)(q:∀J Z,(∀a∈Z,a∈fp)->Walk K U J Z H ds->R J H):
  ∃a,v= .ref a/\(((∃xs,SqL K H a xs)/\R (Itl K a) H)\/((∃xs,SqT K H a xs)/\R (Itt K a) H)):=by
 cases d with
 |lst o xs=>
  obtain⟨hc,e⟩:=bX e
  cases e
  cases r with
  |lst h hs=>exact⟨_,rfl,.inl ⟨⟨_,.inl (.inl h)⟩,q _ [_] (fun a ha=>by simp at ha;subst ha;exact Z0) (zp2 (.inl h) (fun _=>by simp) (hs.pair hc))⟩⟩
  |lstF h hs=>exact⟨_,rfl,.inl ⟨⟨_,.inl (.inr ⟨_,h⟩)⟩,q _ [] (fun a ha=>absurd ha (by simp)) (zp2 (.inr ⟨_,h⟩) (fun z=>by rw [h] at z;cases z) (hs.pair hc))⟩⟩
 |tup xs=>
  cases e
  obtain⟨a,vs,rfl,h,hs⟩:=r.tup_inv
  exact⟨a,rfl,.inr ⟨⟨_,h⟩,q _ [] (fun a ha=>absurd ha (by simp)) (xe2 h hs.nilp)⟩⟩
 |con xs=>
  cases e
  obtain⟨a,vs,rfl,h,hs⟩:=r.con_inv
  exact⟨a,rfl,.inl ⟨⟨_,h.l⟩,q _ [] (fun a ha=>absurd ha (by simp)) (xe1 h hs.nilp)⟩⟩
 |_=>cases e
def eT(f:tz2):tz3:=fun ps=>(f ps).bind jV
theorem ze9(h:QV X U l f):QIV X U tg l (eT f):=PI.imp (zw9 h) fun σ H R hh_=>by
 obtain⟨ps,ds,w,e,q⟩:=hh_
 obtain⟨d,e1,e2⟩:=bind_some e
 exact⟨ps,d,w,e1,fun v H1 fv s1 r1=>zk7 r1 e2 fun J Z _ k=>q J H1 Z s1 k⟩
end
def dX(i:Nat)(f:tz1):List D->tz1
 |[],ps=>some (.nx,ps)
 | d::ds,ps=>(f (ps.set i (some d))).bind fun q=>match q with
   |(.nx,p)=>dX i f ds p
   |(.ct,p)=>dX i f ds p
   |(.bk,p)=>some (.nx,p)
   |(.ret d,p)=>some (.ret d,p)
section
variable{X:Cx}{φ:Fx}{pos:Pos}{body:List Stmt}{f:tz1}
theorem Frm.kept(R:RS φ H σ ps F)(k:Frm F H H')(hz:∀a∈Z,∀i,a∉F i):qK Z H H':=fun a o h t=>by
 rcases t with t|⟨t1,t2⟩
 ·refine k.keep a o h (lA t) fun i hi=> ?_
  obtain⟨o',h',_,t'⟩:=R.own hi
  rw [h] at h';cases h';rw [t] at t';cases t'
 ·exact k.keep a o h t1 (hz a t2)
def wf5(J:It)(E:Ends)(V:Nat->Nat->St->Hp->Prop)(g:TG)(tb:TS)(k m:Nat)(σ:St)(H:Hp):Prop:=
 (J.stop k H/\E.nx σ H)\/(J.go k H/\∃N:St->Hp->Prop,(∀σ' H',N σ' H'->∃m',m'<m/\V (k+1) m' σ' H')/\∀x H',J.yld k H x H'->g x σ H' fun σ2 H2=>tb {E with nx:=N,ct:=N,bk:=E.nx} σ2 H2)
def wi6(φ:Fx)(σ:St)(H:Hp)(F:Nat->List Addr)(i:Nat)(f:tz1)(ds:List D)(fl:Fl)(ps':PSt)(k m:Nat)(σ1:St)(H1:Hp):Prop:=k<=ds.length/\m=ds.length-k/\∃ps1 F1,Stp φ σ H F σ1 H1 ps1 F1/\dX i f (ds.drop k) ps1=some (fl,ps')
theorem zb5(R:RS φ H σ ps F)(hz:∀a∈Z,H a≠none/\∀i,a∉F i)(W:Walk φ.K φ.U J Z H ds)(hb:φ.bor i=false)(hm:φ.M i=false)
  (e:dX i f ds ps=some (fl,ps')) (q:wI φ E σ H F fl ps'):∃V:Nat->Nat->St->Hp->Prop,(∃m,V 0 m σ H)/\∀k m σ H,V k m σ H->wf5 J E V (rA i) (tS φ f) k m σ H:=by
 refine⟨wi6 φ σ H F i f ds fl ps',⟨_,ZL _,rfl,ps,F,.refl R,by rw [X5];exact e⟩,?_⟩
 rintro k m σ1 H1 ⟨hk,rfl,ps1,F1,s1,e1⟩
 have kp:qK Z H H1:=s1.fr.kept R fun a ha=>(hz a ha).2
 by_cases hlt:k<ds.length
 ·right
  have ed:ds[k]? =some ds[k]:=Zr hlt
  obtain⟨hgo,hy⟩:=W.go H1 kp k _ ed
  rw [ZO hlt,dX] at e1
  obtain⟨⟨fl2,ps2⟩,e2,e3⟩:=bind_some e1
  refine⟨hgo,fun σ' H'=>∃F',Stp φ σ H F σ' H' ps2 F'/\dX i f (ds.drop (k+1)) ps2=some (fl,ps'),fun σ' H' ⟨F',s,e⟩=>⟨ds.length-(k+1),by omega,hlt,rfl,ps2,F',s,e⟩,fun x H' y=> ?_⟩
  obtain⟨rfl,rx⟩:=hy x H' y
  obtain⟨F2,s2⟩:=(Stp.refl s1.rs).set (i:=i) (fv:=[]) (v:=x) (d:=ds[k]) ⟨fun _ h=>absurd h (by simp),Zi,fun _ _ _ h=>absurd h (by simp)⟩ s1.rs rx (.inl hb) hm
  have s12:=s1.trans s2
  refine⟨_,F2,fl2,ps2,s2.rs,e2,?_⟩
  cases fl2 with
  |nx=>exact fun σ' H' F' s=>⟨F',s12.trans s,e3⟩
  |ct=>exact fun σ' H' F' s=>⟨F',s12.trans s,e3⟩
  |bk=>cases e3;exact fun σ' H' F' s=>q σ' H' F' (s12.trans s)
  |ret d=>cases e3;exact fun v σ' H' F' fv s o r=>q v σ' H' F' fv (s12.trans s) (o.after s12) r
 ·left
  have ek:k=ds.length:=by omega
  subst ek
  rw [Xs,dX] at e1
  cases e1
  exact⟨W.stop H1 kp,q _ _ F1 s1⟩
def iQ(i:Nat)(fi:tz3)(f:tz1):tz1:=fun ps=>(fi ps).bind fun ds=>dX i f ds ps
theorem xM{U:tz9}{φ:F0}(i:Nat){x:Str}{px:Pos}{iter:Expr}{fi:tz3}(hp:PassesOwn (model X.prog X.w) X.A X.env X.xe)(hc:X.calm=true)(hN:X.N.Nodup)(hi:X.N[i]? =some x)(hx:Loc X.env.scope x)(hb:φ.bor i=false)(hm:φ.M i=false)
  (hit:PI X (.Name x px) iter (tIP X.K U fi)) (hbd:QSs X U φ body f) (hs:∀x,foldedSetIterable iter X.env x=pure x:=by intro _;rfl) (hf:X.fn x=true\/X.env.scope.names.lookup x=some .local:=by first|exact .inl rfl|exact .inr rfl|assumption):
  QS X U φ (.For (.Name x px) iter body [] pos) (iQ i fi f):=(zd8 hp hc hit (iD hN hi hx hf) hbd hs).imp fun E σ H hh_=>by
 obtain⟨ps,F,fl,ps',R,e,q⟩:=hh_
 obtain⟨ds,e1,e2⟩:=bind_some e
 refine⟨ps,ds,R.ws,e1,fun J H1 Z s1 hz W=> ?_⟩
 have s:=Stp.same R s1
 exact zb5 s.rs (fun a ha=>⟨(hz a ha).2,fun j hj=>by obtain⟨o,h,_⟩:=R.own hj;rw [(hz a ha).1] at h;cases h⟩) W hb hm e2 (q.back s)
def yp7(g:TG)(tb:TS)(E:Ends)(σ:St):It->Hp->Prop:=fun J H1=>∃W:Nat->Nat->St->Hp->Prop,(∃m,W 0 m σ H1)/\∀i m σ H,W i m σ H->
 (J.stop i H/\E.nx σ H)\/(J.go i H/\∃N:St->Hp->Prop,(∀σ' H',N σ' H'->∃m',m'<m/\W (i+1) m' σ' H')/\∀x H',J.yld i H x H'->g x σ H' fun σ2 H2=>tb {E with nx:=N,ct:=N,bk:=E.nx} σ2 H2)
theorem zk8{U:tz9}{φ:F0}(i j:Nat){x y:Str}{px py:Pos}(hp:PassesOwn (model X.prog X.w) X.A X.env X.xe)(hc:X.calm=true)(hN:X.N.Nodup)(hi:X.N[i]? =some x)(hx:Loc X.env.scope x)(hb:φ.bor i=false)(hm:φ.M i=false)(hj:φ.bor j=true)
  (hbd:QSs X U φ body f) (hNj:X.N[j]? =some y:=by rfl) (hv:Vis X.env.scope y:=by first|exact Or.inl rfl|exact Or.inr (Or.inl rfl)|exact Or.inr (Or.inr rfl)) (hd:NDb y:=by decide)
  (hcd:(y==("__classdict__":Str))=false:=by decide) (hs:∀x,foldedSetIterable (.Name y py) X.env x=pure x:=by intro _;rfl) (hf:X.fn x=true\/X.env.scope.names.lookup x=some .local:=by first|exact .inl rfl|exact .inr rfl|assumption):
  QS X U φ (.For (.Name x px) (.Name y py) body [] pos) (iQ i (eT (aA j)) f):=(zd8 hp hc (zw9 (rM hNj hv hd hcd)) (iD hN hi hx hf) hbd hs).imp fun E σ H hh_=>by
 obtain⟨ps,F,fl,ps',R,e,q⟩:=hh_
 obtain⟨ds,e1,e2⟩:=bind_some e
 obtain⟨d,e3,e4⟩:=bind_some e1
 obtain⟨v,fp,h1,h2,_,h4⟩:=R.rep j d (join_some e3)
 refine⟨v,h1,?_⟩
 refine zk7 (R:=yp7 (rA i) (tS (φ.fx X.K U) f) E σ) h2 e4 fun J Z hz W=> ?_
 exact zb5 R (fun a ha=>⟨R.bt j a (h4 hj a (hz a ha)),fun k hk=>R.nb k a hk j (h4 hj a (hz a ha))⟩) W hb hm e2 q
end
def gP(np n:Nat)(f:tz1):tz6:=fun ds=>if ds.length=np then(f (ds.map some++List.replicate n none)).bind fun r=>match r with
 |(.ret d,_)=>some d
 |(.nx,_)=>some .non
 |_=>none
 else none
def SpP(np:Nat)(K:tz0)(U:tz9)(g:tz6):Sp:=fun vs H Q _=>vs.length=np/\∃ds fp d,Reps K U H vs ds fp/\g ds=some d/\kQ K U H d Q
def fxP(K:tz0)(U:tz9)(np:Nat)(B:Nat->Addr->Prop):Fx:=⟨K,U,fun i=>decide (i<np),fun _=>false,B⟩
def f0P(np:Nat)(B:Nat->Addr->Prop):F0:=⟨fun i=>decide (i<np),fun _=>false,B⟩
theorem yu9{N:List Str}{vs:List V}{i:Nat}{v:V}(h:vs[i]? =some v):(start N vs)[i]? =some (some v):=by
 unfold start
 have hi:=(Z2.mp h).1
 rw [ZN (by simpa using hi),Zb,h];rfl
theorem RS.start{K:tz0}{U:tz9}{H:Hp}{N:List Str}{vs:List V}{ds:List D}{fp:List Addr}{np:Nat}(r:Reps K U H vs ds fp)(hl:vs.length=np)(hn:np<=N.length):
  RS (fxP K U np (fun _ a=>a∈fp)) H (start N vs) (ds.map some++List.replicate (N.length-np) none) (fun _=>[]):=by
 have el:=r.length
 refine⟨fun i d h=> ?_,fun i a h=>absurd h (by simp),fun i j a h=>absurd h (by simp),fun i=>Zi,fun i a h=>absurd h (by simp),fun k a h z=> ?_,?_⟩
 ·by_cases hi:i<ds.length
  ·rw [ZN (by simpa using hi),Zb] at h
   cases e:ds[i]? with
   |none=>rw [e] at h;cases h
   |some d'=>
    rw [e] at h;cases h
    obtain⟨v,f,h1,h2,h3⟩:=r.get e
    refine⟨v,f,yu9 h1,h2,fun z=> ?_,fun _=>h3⟩
    exact absurd (Yp z) (by omega)
  ·rw [YF (by simpa using hi),Yq] at h
   split at h<;>cases h
 ·obtain⟨o,h,_⟩:=r.own a h
  rw [z] at h;cases h
 ·unfold L2.start
  simp only [Z5,Zh,X1]
  omega
section
variable{P:Program}{w:World}{K:tz0}{mg:tzA}{base:Heap}{U:tz9}
theorem cW{x qual:Str}{st:Stmt}{f:Addr}{fd:FuncData}{N ps:List Str}{k:Nat}{fb:tz1}(F:Fun K x qual st f fd)(S:FnScope N ps (aU st))
  (hbody:∀(cdv:Value) (A:Around) (outer:List Env) (s:Shared) (H:Hp) (E:XK) (B:Nat->Addr->Prop),Room k (A.deeper (envOfC qual (aU st) s.heap.objs.size f cdv))->
   QSs (iH CX0 P w K mg base N qual (aU st) f cdv A outer s H E).nox U (f0P ps.length B) (mF st) fb):
  FnOk P w K mg base CX0 (k+1) f fd ps (SpP ps.length K U (gP ps.length (N.length-ps.length) fb)):=by
 refine F.ok S (fun vs H Q E h=>h.1) fun cdv A outer s H vs Q E hr ⟨hl,ds,fp,d,r,e,q⟩=>⟨_,hbody cdv A outer s H E (fun _ a=>a∈fp) hr,?_⟩
 have hn:ps.length<=N.length:=by have:=ZM List.length S.pre;rw [Yh] at this;omega
 unfold gP at e
 obtain⟨_,e0⟩:=bX e
 obtain⟨⟨fl,ps'⟩,e1,e2⟩:=bind_some e0
 refine⟨_,fun _=>[],fl,ps',RS.start r hl hn,e1,?_⟩
 have sm:∀{H':Hp},Frm (fun _=>[]) H H'->SameK H H':=fun k=>⟨fun a o h kk=>k.keep a o h kk (fun _=>by simp),k.grow⟩
 cases fl with
 |ret d'=>
  cases e2
  exact fun v σ' H' F' fv s o rv=>q v H' fv (sm s.fr) (fun a ha=>(o.nw a ha).elim (fun⟨j,hj⟩=>absurd hj (by simp)) id) o.nd rv
 |nx=>
  cases e2
  exact fun σ' H' F' s=>q .non H' [] (sm s.fr) (fun a ha=>absurd ha (by simp)) Zi .non
 |bk=>cases e2
 |ct=>cases e2
end
section
variable{X:Cx}{U:tz9}{e:Expr}{es:List Expr}{g:tz3}{pos p:Pos}
theorem cS{x:Str}{st:Stmt}{ps:List Str}{f:Addr}{fd:FuncData}{k np:Nat}{h:tz6}(Dd:Dn X.K X.mg x st ps f fd)(G:FnOk X.prog X.w X.K X.mg X.base CX0 k f fd ps (SpP np X.K U h))(hr:Room k X.A)(hg:Gl X x)(hnp:(e::es).length=np)(ha:QVA X U (e::es) g)
  (hlen:∀ps ds,g ps=some ds->ds.length=(e::es).length)
  (hdb:NDb x:=by decide) (he:StE e es X:=by rfl) (hpl:BkE pos es X:=by rfl):
  QP X U (.Call (.Name x p) (e::es) [] pos) (aJ h g):=(yl6 Dd G hr hg ha hdb he hpl).imp fun σ H Q hh_=>by
 obtain⟨ps,d,w,e,q⟩:=hh_
 obtain⟨ds,e1,e2⟩:=bind_some e
 refine⟨ps,ds,w,e1,fun vs H1 fp s1 r1=> ?_⟩
 show SpP np X.K U h (vs++[]) H1 Q E0
 rw [Zl]
 exact⟨by rw [r1.length,hlen ps ds e1,hnp],ds,fp,d,r1,e2,q.after s1⟩
theorem yv0{x:Str}{st:Stmt}{ps:List Str}{f:Addr}{fd:FuncData}{k:Nat}{h:tz6}(Dd:Dn X.K X.mg x st ps f fd)(G:FnOk X.prog X.w X.K X.mg X.base CX0 k f fd ps (SpP 0 X.K U h))(hr:Room k X.A)(hg:Gl X x)
  (hdb:NDb x:=by decide):QP X U (.Call (.Name x p) [] [] pos) (aJ h aE):=(xv7 Dd G hr hg hdb).imp fun σ H Q hh_=>by
 obtain⟨ps,d,w,e,q⟩:=hh_
 obtain⟨ds,e1,e2⟩:=bind_some e
 cases e1
 exact⟨rfl,[],[],d,.nil,e2,q⟩
theorem bM:∀(ps:PSt) (ds:List D),aE ps=some ds->ds.length=([]:List Expr).length:=fun _ _ h=>by cases h;rfl
theorem aN(h:∀ps ds,g ps=some ds->ds.length=es.length):∀(ps:PSt) (ds:List D),aC f g ps=some ds->ds.length=(e::es).length:=fun ps ds q=>by
 obtain⟨d,es',_,e2,rfl⟩:=vF q
 rw [Z4,Z4,h ps es' e2]
end
def qL(pick:List (Option Nat))(ps:PSt):PSt:=pick.map fun o=>o.bind fun j=>(ps[j]?).join
def jA(psb:PSt)(ft:tz4)(fe:tz2):List D->Option (List D)
 |[]=>some []
 |d::ds=>(ft (psb.set 0 (some d))).bind fun b=>if b=true then(fe (psb.set 0 (some d))).bind fun r=>(jA psb ft fe ds).bind fun rs=>some (r::rs) else jA psb ft fe ds
def mX(pick:List (Option Nat))(fi:tz3)(ft:tz4)(fe:tz2):tz2:=fun ps=>(fi ps).bind fun ds=>if ds.length<=sizeLine then(jA (qL pick ps) ft fe ds).bind fun rs=>some (.lst true rs) else none
def nC:tz4:=fun _=>some true
theorem WS.sub{K:tz0}{U:tz9}{H:Hp}{σ:St}{ps:PSt}(pick:List (Option Nat))(w:WS K U H σ ps):WS K U H (qI pick σ) (qL pick ps):=fun i d h=>by
 unfold qL at h
 unfold qI
 rw [Zb] at h|-
 cases e:pick[i]? with
 |none=>rw [e] at h;cases h
 | some o=>
  rw [e] at h
  cases o with
  |none=>cases h
  |some j=>
   have h':(ps[j]?).join=some d:=ZA h
   obtain⟨v,fp,h1,h2⟩:=w j d (join_some h')
   refine⟨v,fp,?_,h2⟩
   show some ((σ[j]?).join)=some (some v)
   rw [h1];rfl
theorem WS.set0{K:tz0}{U:tz9}{H:Hp}{σ:St}{ps:PSt}{v:V}{d:D}{fp:List Addr}(w:∀(i:Nat) (d:D),i≠0->ps[i]? =some (some d)->∃v fp,σ[i]? =some (some v)/\Rep K U H v d fp)(hl:ps.length<=σ.length)(r:Rep K U H v d fp):WS K U H (σ.set 0 (some v)) (ps.set 0 (some d)):=fun i d' h=>by
 by_cases e:i=0
 ·subst e
  by_cases hp:0<ps.length
  ·rw [Zu hp] at h
   cases h
   exact⟨v,fp,by rw [Zu (by omega)],r⟩
  ·rw [Yu (by simpa using hp)] at h;cases h
 ·rw [Zt (fun z=>e z.symm)] at h|-
  exact w i d' e h
section
variable{X:Cx}{U:tz9}{sc:Scope}{NX N:List Str}{pick:List (Option Nat)}{elt iter:Expr}{ifs:List Expr}{scope:Scope}{pos px:Pos}{x:Str}{fi:tz3}{ft:tz4}{fe:tz2}
theorem PTs.imp(h:PTs X ifs t)(k:∀σ H Q,t' σ H Q->t σ H Q):PTs X ifs t':=⟨fun pins s σ H Q I q=>h pins s σ H Q I (k σ H Q q)⟩
theorem zE:PTs X [] (tQ X.K U nC):=xv8.imp fun σ H Q ⟨ps,b,w,e,q⟩=>by cases e;exact q H (.refl H)
structure Grown(K:tz0)(U:tz9)(H1:Hp)(Dd:Addr)(H':Hp)(vs:List V)(rs:List D)(fv:List Addr):Prop where
 same:SameK H1 H'
 at_:H' Dd=some (.lst vs)
 rep:Reps K U H' vs rs fv
 new:∀a∈fv,H1 a=none
 ne:Dd∉fv
 nd:fv.Nodup
def wf6(K:tz0)(U:tz9)(J:It)(Dd:Addr)(q:Hp->Prop)(V:Nat->Nat->St->Hp->Prop)(ft:tz4)(fe:tz2)(i m:Nat)(σ':St)(H':Hp):Prop:=
  (J.stop i H'/\q H')\/(J.go i H'/\∀x H2,J.yld i H' x H2->rA 0 x σ' H2 fun σ3 H3=>tQ K U ft σ3 H3 fun b H4=>
   if b=true then tP K U fe σ3 H4 fun y H5=>∃ys,H5 Dd=some (.lst ys)/\ys.length<sizeLine/\∃m',m'<m/\V (i+1) m' σ3 (upd H5 Dd (.lst (ys++[y]))) else ∃m',m'<m/\V (i+1) m' σ3 H4)
def wi7(K:tz0)(U:tz9)(H1:Hp)(Dd:Addr)(pick:List (Option Nat))(ps:PSt)(ft:tz4)(fe:tz2)(ds rs:List D)(i m:Nat)(σ':St)(H':Hp):Prop:=i<=ds.length/\m=ds.length-i/\(∀(j:Nat) (d:D),j≠0->(qL pick ps)[j]? =some (some d)->∃v fp,σ'[j]? =some (some v)/\Rep K U H1 v d fp)/\(qL pick ps).length<=σ'.length/\
  ∃vs fv done rest,Grown K U H1 Dd H' vs done fv/\done.length<=i/\jA (qL pick ps) ft fe (ds.drop i)=some rest/\rs=done++rest
theorem xe3{pick:List (Option Nat)}{J:It}{Z:List Addr}{σ:St}{ps:PSt}{H1:Hp}{Dd:Addr}{ds rs:List D}{Q:Addr->Hp->Prop}(w:WS X.K U H1 σ ps)(hD:H1 Dd=none)(W:Walk X.K U J Z H1 ds)(hz:ds.length<=sizeLine)
  (e:jA (qL pick ps) ft fe ds=some rs) (q:∀H' vs fv,Grown X.K U H1 Dd H' vs rs fv->Q Dd H'):
  ∃V:Nat->Nat->St->Hp->Prop,(∃m,V 0 m (qI pick σ) (upd H1 Dd (.lst [])))/\∀i m σ' H',V i m σ' H'->wf6 X.K U J Dd (Q Dd) V ft fe i m σ' H':=by
 refine⟨wi7 X.K U H1 Dd pick ps ft fe ds rs,⟨_,ZL _,rfl,fun j d _ h=>w.sub pick j d h,by simp [qL,qI],[],[],[],rs,⟨.new hD _,cK,.nil,fun _ h=>absurd h (by simp),by simp,Zi⟩,ZL _,by rw [X5];exact e,rfl⟩,?_⟩
 rintro i m σ' H' ⟨hi,rfl,ws,wl,vs,fv,done,rest,G,hdn,er,ers⟩
 have kp:qK Z H1 H':=fun a o h t=>G.same.keep a o h (t.elim lA fun t=>t.1)
 by_cases hlt:i<ds.length
 ·right
  have ed:ds[i]? =some ds[i]:=Zr hlt
  obtain⟨hgo,hy⟩:=W.go H' kp i _ ed
  refine⟨hgo,fun x H2 y=> ?_⟩
  obtain⟨rfl,rx⟩:=hy x H2 y
  rw [ZO hlt,jA] at er
  obtain⟨b,e1,e2⟩:=bind_some er
  have wset:WS X.K U H2 (σ'.set 0 (some x)) ((qL pick ps).set 0 (some ds[i])):=WS.set0 (fun j d hj h=>by obtain⟨v,fp,h1,h2⟩:=ws j d hj h;exact⟨v,fp,h1,h2.same G.same⟩) wl rx
  refine⟨_,b,wset,e1,fun H3 s3=> ?_⟩
  have keepS:∀(j:Nat) (d:D),j≠0->(qL pick ps)[j]? =some (some d)->∃v fp,(σ'.set 0 (some x))[j]? =some (some v)/\Rep X.K U H1 v d fp:=fun j d hj h=>by
   obtain⟨v,fp,h1,h2⟩:=ws j d hj h
   exact⟨v,fp,by rw [Zt (fun z=>hj z.symm)];exact h1,h2⟩
  have Dkeep:∀{H5:Hp},SameK H2 H5->H5 Dd=some (.lst vs):=fun s=>s.keep _ _ G.at_ rfl
  cases b with
  | true=>
   dsimp only
   rw [if_pos rfl] at e2|-
   obtain⟨r,e3,e4⟩:=bind_some e2
   obtain⟨rs',e5,e6⟩:=bind_some e4
   cases e6
   refine⟨_,r,wset.same s3,e3,fun y H5 fw s5 n5 nd5 r5=> ?_⟩
   have s25:=s3.trans s5
   refine⟨vs,Dkeep s25,?_,ds.length-(i+1),by omega,hlt,rfl,keepS,by simpa using wl,vs++[y],fv++fw,done++[r],rs',?_,?_,e5,by rw [ers];simp⟩
   ·have:=G.rep.length;omega
   ·have hDw:Dd∉fw:=fun z=>by have:=s3.grow Dd (n5 Dd z);rw [G.at_] at this;cases this
    have hup:∀a,a≠Dd->upd H5 Dd (.lst (vs++[y])) a=H5 a:=fun a h=>aX h
    have tfk:∀a o,H5 a=some o->tf o=true->upd H5 Dd (.lst (vs++[y])) a=some o:=fun a o h t=>by
     rw [hup a]
     ·exact h
     ·rintro rfl;rw [Dkeep s25] at h;cases h;cases t
    have rv5:Reps X.K U H5 vs done fv:=G.rep.same s25
    refine⟨⟨fun a o h k=> ?_,fun a h=> ?_⟩,cK,Reps.append (rv5.move tfk fun a ha=>hup a fun z=>G.ne (z▸ha)) (Reps.one (r5.move tfk fun a ha=>hup a fun z=>hDw (z▸ha))),fun a ha=> ?_,fun z=> ?_,?_⟩
    ·rw [hup a (fun z=>by subst z;rw [hD] at h;cases h)]
     exact(G.same.trans s25).keep a o h k
    ·by_cases z:a=Dd
     ·subst z;rw [cK] at h;cases h
     ·rw [hup a z] at h;exact(G.same.trans s25).grow a h
    ·rcases Zq.mp ha with z|z
     ·exact G.new a z
     ·exact(G.same.trans s3).grow a (n5 a z)
    ·rcases Zq.mp z with z|z
     ·exact G.ne z
     ·exact hDw z
    ·rw [Zz]
     refine⟨G.nd,nd5,fun a ha b hb e=> ?_⟩
     subst e
     obtain⟨o,h,k,_⟩:=G.rep.own a ha
     have:=s3.keep a o h k
     rw [n5 a hb] at this;cases this
   ·rw [Z5,W6];omega
  |false=>
   dsimp only
   rw [if_neg Z7] at e2|-
   refine⟨ds.length-(i+1),by omega,hlt,rfl,keepS,by simpa using wl,vs,fv,done,rest,⟨G.same.trans s3,Dkeep s3,G.rep.same s3,G.new,G.ne,G.nd⟩,by omega,e2,ers⟩
 ·left
  have ek:i=ds.length:=by omega
  subst ek
  rw [Xs,jA] at er
  cases er
  rw [Zl] at ers
  subst ers
  exact⟨W.stop H' kp,q H' vs fv G⟩
theorem zF(S:CScope sc NX N pick scope)(hsc:X.env.scope=sc)(hNX:X.N=NX)(hc:X.calm=true)(hi:QIV X U (.Name x px) iter fi)
  (hg:∀cl fp s H,PG (cxB X N scope cl fp s H) (.Name x px) (rA 0)) (ht:∀cl fp s H,PTs (cxB X N scope cl fp s H) ifs (tQ X.K U ft)) (he:∀cl fp s H,PE (cxB X N scope cl fp s H) elt (tP X.K U fe))
  (hs:∀x,foldedSetIterable iter X.env x=pure x:=by intro _;rfl):QP X U (.ListComp elt [⟨.Name x px,iter,ifs,0⟩] scope pos) (mX pick fi ft fe):=
 (xo3 S hsc hNX hc hi hg ht he hs).imp fun σ H Q hh_=>by
  obtain⟨ps,d,w,e,q⟩:=hh_
  obtain⟨ds,e1,e2⟩:=bind_some e
  obtain⟨hz,e3⟩:=bX e2
  obtain⟨rs,e4,e5⟩:=bind_some e3
  cases e5
  refine⟨ps,ds,w,e1,fun J H1 Z s1 W Dd hD=> ?_⟩
  refine xe3 (Q:=fun Dd H'=>Q (.ref Dd) H') (w.same s1) hD W hz e4 fun H' vs fv G=> ?_
  refine q _ H' (Dd::fv) (s1.trans G.same) (fun a ha=> ?_) (Zs.mpr ⟨G.ne,G.nd⟩) (.lst G.at_ G.rep)
  rcases Z6.mp ha with z|z
  ·rw [z];exact s1.grow Dd hD
  ·exact s1.grow a (G.new a z)
end
inductive Ps1 where
 |ix (n:Nat)|fld (f:Str)
def cI:List Str->Str->Option Nat
 |[],_=>none
 |n::ns,f=>if n=f then some 0 else(cI ns f).map (·+1)
def fO{α:Type}(h:D->Option (α×D)):D->List Ps1->Option (α×D)
 |d,[]=>h d
 | .lst true xs,.ix n::p=>(xs[n]?).bind fun d=>(fO h d p).bind fun r=>some (r.1,.lst true (xs.set n r.2))
 | .obj true C ns vs,.fld f::p=>(cI ns f).bind fun n=>(vs[n]?).bind fun d=>(fO h d p).bind fun r=>some (r.1,.obj true C ns (vs.set n r.2))
 |_,_=>none
def jW:D->List Ps1->Option D
 |d,[]=>some d
 | .lst true xs,.ix n::p=>(xs[n]?).bind fun d=>jW d p
 | .obj true _ ns vs,.fld f::p=>(cI ns f).bind fun n=>(vs[n]?).bind fun d=>jW d p
 |_,_=>none
def At(H:Hp):V->List Ps1->V->Prop
 |v0,[],v=>v=v0
 |v0,.ix n::p,v=>∃a vs v1,v0= .ref a/\H a=some (.lst vs)/\vs[n]? =some v1/\At H v1 p v
 |v0,.fld f::p,v=>∃a C dx fs n v1,v0= .ref a/\H a=some (.ins C dx fs)/\cI (fs.map (·.1)) f=some n/\(fs.map (·.2))[n]? =some v1/\At H v1 p v
theorem At.same(s:SameK H H'):∀{p:List Ps1} {v0 v:V},At H v0 p v->At H' v0 p v
 |[],_,_,h=>h
 | .ix n::p,_,_,⟨a,vs,v1,h1,h2,h3,h4⟩=>⟨a,vs,v1,h1,s.keep _ _ h2 rfl,h3,At.same s h4⟩
 | .fld f::p,_,_,⟨a,C,dx,fs,n,v1,h1,h2,h3,h4,h5⟩=>⟨a,C,dx,fs,n,v1,h1,s.keep _ _ h2 rfl,h3,h4,At.same s h5⟩
theorem At.snoc_ix(h:H a=some (.lst vs))(hv:vs[n]? =some v):∀{p:List Ps1} {v0:V},At H v0 p (.ref a)->At H v0 (p++[.ix n]) v
 |[],_,e=>⟨a,vs,v,e.symm,h,hv,rfl⟩
 | .ix m::p,_,⟨b,us,v1,h1,h2,h3,h4⟩=>⟨b,us,v1,h1,h2,h3,At.snoc_ix h hv h4⟩
 | .fld f::p,_,⟨b,C,dx,fs,m,v1,h1,h2,h3,h4,h5⟩=>⟨b,C,dx,fs,m,v1,h1,h2,h3,h4,At.snoc_ix h hv h5⟩
theorem At.snoc_fld(h:H a=some (.ins C dx fs))(hn:cI (fs.map (·.1)) f=some n)(hv:(fs.map (·.2))[n]? =some v):∀{p:List Ps1} {v0:V},At H v0 p (.ref a)->At H v0 (p++[.fld f]) v
 |[],_,e=>⟨a,C,dx,fs,n,v,e.symm,h,hn,hv,rfl⟩
 | .ix m::p,_,⟨b,us,v1,h1,h2,h3,h4⟩=>⟨b,us,v1,h1,h2,h3,At.snoc_fld h hn hv h4⟩
 | .fld f'::p,_,⟨b,C',dx',fs',m,v1,h1,h2,h3,h4,h5⟩=>⟨b,C',dx',fs',m,v1,h1,h2,h3,h4,At.snoc_fld h hn hv h5⟩
theorem yg5(e:fO h d0 (.ix n::p)=some (r,d')):∃xs d1 d2,d0= .lst true xs/\xs[n]? =some d1/\fO h d1 p=some (r,d2)/\d'= .lst true (xs.set n d2):=by
 unfold fO at e
 split at e
 ·rename_i z;cases z
 ·rename_i z;cases z
  obtain⟨d1,h1,h2⟩:=bind_some e
  obtain⟨⟨r1,d2⟩,h3,h4⟩:=bind_some h2
  cases h4
  exact⟨_,_,_,rfl,h1,h3,rfl⟩
 ·rename_i z;cases z
 ·cases e
theorem zx0(e:fO h d0 (.fld f::p)=some (r,d')):∃C ns xs n d1 d2,d0= .obj true C ns xs/\cI ns f=some n/\xs[n]? =some d1/\fO h d1 p=some (r,d2)/\d'= .obj true C ns (xs.set n d2):=by
 unfold fO at e
 split at e
 ·rename_i z;cases z
 ·rename_i z;cases z
 ·rename_i z;cases z
  obtain⟨n,h0,h9⟩:=bind_some e
  obtain⟨d1,h1,h2⟩:=bind_some h9
  obtain⟨⟨r1,d2⟩,h3,h4⟩:=bind_some h2
  cases h4
  exact⟨_,_,_,_,_,_,rfl,h0,h1,h3,rfl⟩
 ·cases e
theorem zk9(e:jW d0 (.ix n::p)=some d):∃xs d1,d0= .lst true xs/\xs[n]? =some d1/\jW d1 p=some d:=by
 unfold jW at e
 split at e
 ·rename_i z;cases z
 ·rename_i z;cases z
  obtain⟨d1,h1,h2⟩:=bind_some e
  exact⟨_,_,rfl,h1,h2⟩
 ·rename_i z;cases z
 ·cases e
theorem zb6(e:jW d0 (.fld f::p)=some d):∃C ns xs n d1,d0= .obj true C ns xs/\cI ns f=some n/\xs[n]? =some d1/\jW d1 p=some d:=by
 unfold jW at e
 split at e
 ·rename_i z;cases z
 ·rename_i z;cases z
 ·rename_i z;cases z
  obtain⟨n,h0,h9⟩:=bind_some e
  obtain⟨d1,h1,h2⟩:=bind_some h9
  exact⟨_,_,_,_,_,rfl,h0,h1,h2⟩
 ·cases e
theorem nA:∀{d0:D},fO h d0 p=some (r,d')->∃d dn,jW d0 p=some d/\h d=some (r,dn):=by
 induction p generalizing d' with
 |nil=>intro d0 e;rw [fO] at e;exact⟨d0,d',by rw [jW],e⟩
 | cons s p ih=>
  intro d0 e
  cases s with
  |ix m=>
   obtain⟨xs,d1,d2,rfl,h1,h3,rfl⟩:=yg5 e
   obtain⟨d,dn,g1,g2⟩:=ih h3
   refine⟨d,dn,?_,g2⟩
   show(xs[m]?).bind _=_
   rw [h1];exact g1
  |fld f=>
   obtain⟨C,ns,xs,m,d1,d2,rfl,h0,h1,h3,rfl⟩:=zx0 e
   obtain⟨d,dn,g1,g2⟩:=ih h3
   refine⟨d,dn,?_,g2⟩
   show(cI ns f).bind _=_
   rw [h0]
   show(xs[m]?).bind _=_
   rw [h1];exact g1
section
variable{K:tz0}{U:tz9}{H:Hp}
theorem Reps.focus:∀{vs:List V} {ds:List D} {g:List Addr} {n:Nat} {d1:D} {v1:V},Reps K U H vs ds g->ds[n]? =some d1->vs[n]? =some v1->∃f1 rest,Rep K U H v1 d1 f1/\g.Perm (f1++rest)/\
  ∀(H':Hp) (d':D) (f':List Addr),(∀a o,H a=some o->tf o=true->H' a=some o)->(∀a∈rest,H' a=H a)->Rep K U H' v1 d' f'->∃g',Reps K U H' vs (ds.set n d') g'/\g'.Perm (f'++rest)
 |_,_,_,_,_,_,.nil,e,_=>by simp at e
 |_,_,_,0,_,_,.cons (f:=f) (g:=g) h hs,e,e'=>by
  simp at e e';subst e;subst e'
  exact⟨f,g,h,.refl _,fun H' d' f' t k r=>⟨f'++g,.cons r (hs.move t k),.refl _⟩⟩
 | _,_,_,n+1,_,_,.cons (f:=f) (g:=g) h hs,e,e'=>by
  obtain⟨f1,rest,h1,h2,h3⟩:=Reps.focus (n:=n) hs (by simpa using e) (by simpa using e')
  refine⟨f1,f++rest,h1,?_,fun H' d' f' t k r=> ?_⟩
  ·refine(h2.append_left f).trans ?_
   rw [<-Zp,<-Zp]
   exact Yv.append_right rest
  ·obtain⟨g',r1,r2⟩:=h3 H' d' f' t (fun a ha=>k a (Z9 _ ha)) r
   refine⟨f++g',.cons (h.move t fun a ha=>k a (Zm _ ha)) r1,?_⟩
   refine(r2.append_left f).trans ?_
   rw [<-Zp,<-Zp]
   exact Yv.append_right rest
theorem zp3{b:Addr}{g f1 fd rest rest1:List Addr}(k2:g.Perm (f1++rest1))(m3:f1.Perm (fd++rest)):(b::g).Perm (fd++b::(rest++rest1)):=by
 refine((k2.trans (m3.append_right rest1)).cons b).trans ?_
 rw [Zp]
 exact List.perm_middle.symm
def Foc(K:tz0)(U:tz9)(H:Hp){α:Type}(h:D->Option (α×D))(r:α)(v v0:V)(d0':D)(fp:List Addr):Prop:=∃d d' fd rest,Rep K U H v d fd/\h d=some (r,d')/\fp.Perm (fd++rest)/\
  ∀(H':Hp) (f':List Addr),(∀a o,H a=some o->tf o=true->H' a=some o)->(∀a∈rest,H' a=H a)->Rep K U H' v d' f'->∃fp',Rep K U H' v0 d0' fp'/\fp'.Perm (f'++rest)
theorem focus{α:Type}{h:D->Option (α×D)}{r:α}{p:List Ps1}:∀{v0 v:V} {d0 d0':D} {fp:List Addr},Rep K U H v0 d0 fp->fO h d0 p=some (r,d0')->At H v0 p v->Foc K U H h r v v0 d0' fp:=by
 induction p with
 |nil=>
  intro v0 v d0 d0' fp R e a
  rw [fO] at e
  cases(show v=v0 from a)
  exact⟨d0,d0',fp,[],R,e,by rw [Zl],fun H' f' t k r=>⟨f',r,by rw [Zl]⟩⟩
 | cons s p ih=>
  intro v0 v d0 d0' fp R e a
  have deep:∀(b:Addr) (vs:List V) (xs:List D) (n:Nat) (d1 d2:D) (v1:V) (g:List Addr),fp=b::g->Reps K U H vs xs g->xs[n]? =some d1->vs[n]? =some v1->fO h d1 p=some (r,d2)->At H v1 p v->(∀(H':Hp) (g2:List Addr),H' b=H b->Reps K U H' vs (xs.set n d2) g2->Rep K U H' v0 d0' (b::g2))->
    Foc K U H h r v v0 d0' fp:=fun b vs xs n d1 d2 v1 g ef hs h1 e3 h3 e4 mk=>by
   subst ef
   obtain⟨f1,rest1,k1,k2,k3⟩:=hs.focus h1 e3
   obtain⟨d,d',fd,rest,m1,m2,m3,m4⟩:=ih k1 h3 e4
   refine⟨d,d',fd,b::(rest++rest1),m1,m2,zp3 k2 m3,fun H' f' t k rr=> ?_⟩
   obtain⟨g1,q1,q2⟩:=m4 H' f' t (fun a ha=>k a (Z1 _ (Zm _ ha))) rr
   obtain⟨g2,q3,q4⟩:=k3 H' d2 g1 t (fun a ha=>k a (Z1 _ (Z9 _ ha))) q1
   exact⟨b::g2,mk H' g2 (k b Z0) q3,zp3 q4 q2⟩
  cases s with
  |ix n=>
   obtain⟨b,vs,v1,e1,e2,e3,e4⟩:=a
   subst e1
   obtain⟨xs,d1,d2,rfl,h1,h3,rfl⟩:=yg5 e
   obtain⟨_,_,g,e5,hb,hs,ef⟩:=R.lstT_inv
   cases e5
   rw [e2] at hb;cases hb
   exact deep b vs xs n d1 d2 v1 g ef hs h1 e3 h3 e4 fun H' g2 k q3=> .lst (k.trans e2) q3
  |fld f=>
   obtain⟨b,C,dx,fs,n,v1,e1,e2,e2',e3,e4⟩:=a
   subst e1
   obtain⟨C',ns,xs,n',d1,d2,rfl,h0,h1,h3,rfl⟩:=zx0 e
   obtain⟨_,_,_,g,e5,hb,hn,hs,ef⟩:=R.objT_inv
   cases e5
   rw [e2] at hb;cases hb
   subst hn
   rw [e2'] at h0;cases h0
   exact deep b _ xs n d1 d2 v1 g ef hs h1 e3 h3 e4 fun H' g2 k q3=> .obj (k.trans e2) rfl q3
end
theorem uH(R:RS φ H σ ps F)(s1:SameK H H1)(hb:φ.bor j=false)(e0:ps[j]? =some (some d0))(ev:σ[j]? =some (some v0))
  (em:fO h d0 p=some (r,d0')) (at_:At H1 v0 p v):∃d d' fd,Rep φ.K φ.U H1 v d fd/\h d=some (r,d')/\fd.Nodup/\(∀a∈fd,a∈F j)/\
  ∀(H':Hp) (fd' fr:List Addr),(∀a o,H1 a=some o->kd o=true->a∉fd->H' a=some o)->(∀a,H' a=none->H1 a=none)->Rep φ.K φ.U H' v d' fd'->(fd'++fr).Nodup->(∀a∈fd'++fr,a∈fd\/H a=none)->
   ∃F',Stp φ σ H F σ H' (ps.set j (some d0')) F'/\OwnV F H F' fr:=by
 obtain⟨v0',fp,h1,h2,h3,_⟩:=R.rep j d0 e0
 rw [ev] at h1;cases h1
 have h3:=h3 hb
 subst h3
 obtain⟨d,d',fd,rest,m1,m2,m3,m4⟩:=focus (h2.same s1) em at_
 have ndF:=R.nd j
 have ndp:(fd++rest).Nodup:=m3.nodup_iff.mp ndF
 obtain⟨nd1,nd2,nd3⟩:=Zz.mp ndp
 have inF:∀a,a∈fd\/a∈rest->a∈F j:=fun a ha=>m3.mem_iff.mpr (Zq.mpr ha)
 refine⟨d,d',fd,m1,m2,nd1,fun a ha=>inF a (.inl ha),fun H' fd' fr k1 k2 k3 k4 k5=> ?_⟩
 have tfk:∀a o,H1 a=some o->tf o=true->H' a=some o:=fun a o ha t=>k1 a o ha (lA t) fun hm=>by
  obtain⟨o',q,_,q'⟩:=m1.own a hm
  rw [ha] at q;cases q;rw [t] at q';cases q'
 have keepO:∀a,(∃i,a∈F i)->a∉fd->H' a=H1 a:=fun a ⟨i,hi⟩ hn=>by
  obtain⟨o,q,q',_⟩:=R.own hi
  have q1:=s1.keep a o q q'
  rw [q1];exact k1 a o q1 q' hn
 have notfd:∀a,a∈rest->a∉fd:=fun a hr hf=>nd3 a hf a hr rfl
 obtain⟨fp',r1,r2⟩:=m4 H' fd' tfk (fun a ha=>keepO a ⟨j,inF a (.inr ha)⟩ (notfd a ha)) k3
 obtain⟨kd1,kd2,kd3⟩:=Zz.mp k4
 have memfp:∀a,a∈fp'->a∈fd'\/a∈rest:=fun a ha=>Zq.mp (r2.mem_iff.mp ha)
 have lt:j<ps.length:=(Z2.mp e0).1
 have old:∀a,a∈fd'++fr->∀i,a∈F i->a∈fd:=fun a ha i hi=>(k5 a ha).elim id fun z=>by
  obtain⟨o,q,_⟩:=R.own hi
  rw [z] at q;cases q
 refine⟨mL F j fp',⟨⟨fun a o ha hk hn=> ?_,fun a ha=>s1.grow a (k2 a ha)⟩,fun i a ha=> ?_,⟨fun i d2 hi=> ?_,fun i a ha=> ?_,fun i k a ha hk=> ?_,fun i=> ?_,fun i a ha kk hB=> ?_,fun kk a hB z=>R.bt kk a hB (s1.grow a (k2 a z)),by simpa using R.len⟩,fun _ _=>rfl⟩,⟨fun a ha=> ?_,kd2,fun i a ha hr=> ?_⟩⟩
 ·exact k1 a o (s1.keep a o ha hk) hk fun hm=>hn j (inF a (.inl hm))
 ·rcases gR ha with z|z
  ·rcases memfp a z with z|z
   ·exact(k5 a (Zm _ z)).elim (fun z=> .inl ⟨j,inF a (.inl z)⟩) .inr
   ·exact .inl ⟨j,inF a (.inr z)⟩
  ·exact .inl ⟨i,z⟩
 ·by_cases e:i=j
  ·subst e
   rw [Zu lt] at hi
   cases hi
   exact⟨v0,fp',ev,r1,fun _=>cX.symm,fun z=>by rw [hb] at z;cases z⟩
  ·rw [Zt (fun z=>e z.symm)] at hi
   obtain⟨v2,f2,q1,q2,q3,q4⟩:=R.rep i d2 hi
   refine⟨v2,f2,q1,(q2.same s1).move tfk fun a ha=> ?_,fun z=>by rw [cV e];exact q3 z,q4⟩
   obtain⟨o,w1,w2,_⟩:=q2.own a ha
   have w3:=s1.keep a o w1 w2
   rw [w3]
   refine k1 a o w3 w2 fun hm=> ?_
   have hF:=inF a (.inl hm)
   cases hbi:φ.bor i with
   |true=>exact R.nb j a hF i (q4 hbi a ha)
   |false=>rw [q3 hbi] at ha;exact e (R.dis i j a ha hF)
 ·by_cases e:i=j
  ·subst e;exact⟨hb,d0',by rw [Zu lt]⟩
  ·rw [cV e] at ha
   obtain⟨b1,d1,b2⟩:=R.emp i a ha
   exact⟨b1,d1,by rw [Zt (fun z=>e z.symm)];exact b2⟩
 ·have hh:∀a,a∈fp'->∀i,i≠j->a∈F i->False:=fun a ha i hij hi=>by
   rcases memfp a ha with z|z
   ·exact hij (R.dis i j a hi (inF a (.inl (old a (Zm _ z) i hi))))
   ·exact hij (R.dis i j a hi (inF a (.inr z)))
  by_cases e1:i=j
  ·by_cases e2:k=j
   ·rw [e1,e2]
   ·subst e1;rw [cX] at ha;rw [cV e2] at hk;exact(hh a ha k e2 hk).elim
  ·by_cases e2:k=j
   ·subst e2;rw [cX] at hk;rw [cV e1] at ha;exact(hh a hk i e1 ha).elim
   ·rw [cV e1] at ha;rw [cV e2] at hk;exact R.dis i k a ha hk
 ·by_cases e:i=j
  ·subst e
   rw [cX]
   refine r2.nodup_iff.mpr (Zz.mpr ⟨kd1,nd2,fun a ha b hb' e=> ?_⟩)
   subst e
   exact notfd a hb' (old a (Zm _ ha) i (inF a (.inr hb')))
  ·rw [cV e];exact R.nd i
 ·rcases gR ha with z|z
  ·rcases memfp a z with z|z
   ·exact R.notB ((k5 a (Zm _ z)).elim (fun z=> .inl ⟨j,inF a (.inl z)⟩) .inr) kk hB
   ·exact R.nb j a (inF a (.inr z)) kk hB
  ·exact R.nb i a z kk hB
 ·exact(k5 a (Z9 _ ha)).elim (fun z=> .inl ⟨j,inF a (.inl z)⟩) .inr
 ·rcases gR ha with z|z
  ·rcases memfp a z with z|z
   ·exact kd3 a z a hr rfl
   ·exact notfd a z (old a (Z9 _ hr) j (inF a (.inr z)))
  ·have:=old a (Z9 _ hr) i z
   by_cases e:i=j
   ·subst e
    rw [cX] at ha
    rcases memfp a ha with w|w
    ·exact kd3 a w a hr rfl
    ·exact notfd a w this
   ·exact e (R.dis i j a z (inF a (.inl this)))
def oB(K:tz0)(U:tz9)(j:Nat)(pf:PSt->Option (List Ps1)):TE:=fun σ H Q=>∃ps p d0 d,WS K U H σ ps/\ps[j]? =some (some d0)/\pf ps=some p/\jW d0 p=some d/\∀v H' v0,SameK H H'->σ[j]? =some (some v0)->At H' v0 p v->Q v H'
theorem zb7{K:tz0}{U:tz9}{H:Hp}{v0 v:V}{d0 d:D}{fp:List Addr}{p:List Ps1}(R:Rep K U H v0 d0 fp)(g:jW d0 p=some d)(a:At H v0 p v):∃fd,Rep K U H v d fd:=by
 have key:∀{p:List Ps1} {v0 v:V} {d0 d:D} {fp:List Addr},Rep K U H v0 d0 fp->jW d0 p=some d->At H v0 p v->∃fd,Rep K U H v d fd:=by
  intro p
  induction p with
  |nil=>intro v0 v d0 d fp R g a;cases g;cases(show v=v0 from a);exact⟨fp,R⟩
  | cons s p ih=>
   intro v0 v d0 d fp R g a
   cases s with
   |ix n=>
    obtain⟨b,vs,v1,e1,e2,e3,e4⟩:=a
    subst e1
    obtain⟨xs,d1,rfl,h1,h2⟩:=zk9 g
    obtain⟨_,_,_,e5,hb,hs,_⟩:=R.lstT_inv
    cases e5
    rw [e2] at hb;cases hb
    obtain⟨v',f,q1,q2,_⟩:=hs.get h1
    rw [e3] at q1;cases q1
    exact ih q2 h2 e4
   |fld f=>
    obtain⟨b,C,dx,fs,n,v1,e1,e2,e2',e3,e4⟩:=a
    subst e1
    obtain⟨C',ns,xs,n',d1,rfl,h0,h1,h2⟩:=zb6 g
    obtain⟨_,_,_,_,e5,hb,hn,hs,_⟩:=R.objT_inv
    cases e5
    rw [e2] at hb;cases hb
    subst hn
    rw [e2'] at h0;cases h0
    obtain⟨v',f,q1,q2,_⟩:=hs.get h1
    rw [e3] at q1;cases q1
    exact ih q2 h2 e4
 exact key R g a
def bH:PSt->Option (List Ps1):=fun _=>some []
def dN(j:Nat)(pf:PSt->Option (List Ps1))(fb:tz2):PSt->Option (List Ps1):=fun ps=>(pf ps).bind fun p=>((ps[j]?).join).bind fun d0=>(jW d0 p).bind fun d=>(fb ps).bind fun y=>match d,y with
 | .lst true xs,.int i=>(ixN xs.length i).bind fun n=>some (p++[.ix n])
 |_,_=>none
def zt7(j:Nat)(pf:PSt->Option (List Ps1))(C f:Str):PSt->Option (List Ps1):=fun ps=>(pf ps).bind fun p=>((ps[j]?).join).bind fun d0=>(jW d0 p).bind fun d=>match d with
 | .obj true C' _ _=>if C'=C then some (p++[.fld f]) else none
 |_=>none
theorem rW:∀{fs:List (Str×V)} {f:Str} {n:Nat} {v:V},cI (fs.map (·.1)) f=some n->(fs.map (·.2))[n]? =some v->fs.lookup f=some v
 |[],_,_,_,h,_=>by cases h
 | (g,u)::fs,f,n,v,h,hv=>by
  rw [Z8,cI] at h
  by_cases e:g=f
  ·rw [if_pos e] at h
   cases h
   rw [Zy]
   have:(f==g)=true:=by simp [e]
   rw [this]
   simpa using hv
  ·rw [if_neg e] at h
   cases q:cI (fs.map (·.1)) f with
   |none=>rw [q] at h;cases h
   |some m=>
    rw [q] at h;cases h
    rw [Zy]
    have:(f==g)=false:=by simp;exact fun z=>e z.symm
    rw [this]
    exact rW q (by simpa using hv)
section
variable{X:Cx}{φ:F0}{U:tz9}{K:tz0}{o e a b:Expr}{f fb fe:tz2}{g:tz3}{pf:PSt->Option (List Ps1)}{j:Nat}{pos apos:Pos}
theorem bJ(j:Nat){x:Str}(hN:X.N[j]? =some x:=by rfl)(hv:Vis X.env.scope x:=by first|exact Or.inl rfl|exact Or.inr (Or.inl rfl)|exact Or.inr (Or.inr rfl))(hd:NDb x:=by decide)
  (hcd:(x==("__classdict__":Str))=false:=by decide):PE X (.Name x pos) (oB K U j bH):=(rM hN hv hd hcd).imp fun σ H Q hh_=>by
 obtain⟨ps,p,d0,d,w,e0,ep,eg,q⟩:=hh_
 cases ep
 obtain⟨v,fp,h1,h2⟩:=w j d0 e0
 exact⟨v,h1,q v H v (.refl H) h1 rfl⟩
theorem lC(ha:PE X a (oB X.K U j pf))(hb:QV X U b fb)(hs:zS b:=by exact fun _ _=>rfl):PE X (.Subscript a b pos) (oB X.K U j (dN j pf fb)):=
 (zs8 zk1 ha hb hs).imp fun σ H Q hh_=>by
  obtain⟨ps,p,d0,d,w,e0,ep,eg,q⟩:=hh_
  obtain⟨p1,e1,e2⟩:=bind_some ep
  obtain⟨d0',e3,e4⟩:=bind_some e2
  have:=join_some e3
  rw [e0] at this;cases this
  obtain⟨d1,e5,e6⟩:=bind_some e4
  obtain⟨y,e7,e8⟩:=bind_some e6
  split at e8
  ·rename_i xs i
   obtain⟨n,e9,e10⟩:=bind_some e8
   cases e10
   refine⟨ps,p1,d0,_,w,e0,e1,e5,fun v H1 v0 s1 ev a1=>⟨ps,_,w.same s1,e7,fun u H2 fq s2 r2=> ?_⟩⟩
   obtain⟨v0',fp,h1,h2⟩:=w j d0 e0
   rw [ev] at h1;cases h1
   obtain⟨fd,rd⟩:=zb7 (h2.same (s1.trans s2)) e5 (a1.same s2)
   obtain⟨l,vs,g,rfl,hl,hr,_⟩:=rd.lstT_inv
   have ln:=hr.length
   have hn:=(yZ e9).2.1
   obtain⟨v1,hv⟩:∃v1,vs[n]? =some v1:=⟨_,Zr (by rw [ln];exact hn)⟩
   refine⟨l,vs,i,v1,rfl,r2.is_int,.inl (.inl hl),?_,q _ H2 v0 (s1.trans s2) ev (At.snoc_ix hl hv (a1.same s2))⟩
   unfold atI
   rw [ln,e9];exact hv
  ·cases e8
theorem zp4{C fn:Str}(hc:Cls X.K (U C))(hna:cC X.K (U C) fn)(ha:PE X a (oB X.K U j pf))(hb:attributeBase a fn X.env (eval a X.env)=eval a X.env:=by rfl):PE X (.Attribute a fn pos) (oB X.K U j (zt7 j pf C fn)):=
 (xu6 ha hb).imp fun σ H Q hh_=>by
  obtain⟨ps,p,d0,d,w,e0,ep,eg,q⟩:=hh_
  obtain⟨p1,e1,e2⟩:=bind_some ep
  obtain⟨d0',e3,e4⟩:=bind_some e2
  have:=join_some e3
  rw [e0] at this;cases this
  obtain⟨d1,e5,e6⟩:=bind_some e4
  split at e6
  ·rename_i C' ns xs
   obtain⟨hC,e7⟩:=bX e6
   subst hC
   cases e7
   refine⟨ps,p1,d0,_,w,e0,e1,e5,fun v H1 v0 s1 ev a1=> ?_⟩
   obtain⟨v0',fp,h1,h2⟩:=w j d0 e0
   rw [ev] at h1;cases h1
   obtain⟨fd,rd⟩:=zb7 (h2.same s1) e5 a1
   have key:∀{p:List Ps1} {d0:D},jW d0 p=some (.obj true C' ns xs)->jW d0 (p++[.fld fn])=some d->∃n d',cI ns fn=some n/\xs[n]? =some d':=by
    intro p
    induction p with
    |nil=>
     intro d0 h1 h2
     cases h1
     obtain⟨n,k1,k2⟩:=bind_some h2
     obtain⟨d',k3,_⟩:=bind_some k2
     exact⟨n,d',k1,k3⟩
    | cons s p ih=>
     intro d0 h1 h2
     cases s with
     |ix m=>
      obtain⟨ys,x1,rfl,k1,k2⟩:=zk9 h1
      obtain⟨_,x2,z,k3,k4⟩:=zk9 h2
      cases z
      rw [k1] at k3;cases k3
      exact ih k2 k4
     |fld f'=>
      obtain⟨C2,ns2,ys,m1,x1,rfl,k0,k1,k2⟩:=zb6 h1
      obtain⟨_,_,_,m2,x2,z,k5,k3,k4⟩:=zb6 h2
      cases z
      rw [k0] at k5;cases k5
      rw [k1] at k3;cases k3
      exact ih k2 k4
   obtain⟨n,d',k1,k2⟩:=key e5 eg
   obtain⟨l,dx,fs,g,rfl,hl,hn,hr,_⟩:=rd.objT_inv
   subst hn
   obtain⟨v1,f1,k3,_⟩:=hr.get k2
   exact⟨l,U C',dx,fs,v1,rfl,hl,hc,hna,rW k1 k3,q _ H1 v0 s1 ev (At.snoc_fld hl k1 k3 a1)⟩
  ·cases e6
def dH(j:Nat)(pf:PSt->Option (List Ps1))(g:tz3)(h:List D->D->Option (D×D)):tz8:=fun ps=>((ps[j]?).join).bind fun d0=>(pf ps).bind fun p=>(g ps).bind fun ys=>(fO (h ys) d0 p).bind fun r=>some (r.1,ps.set j (some r.2))
theorem xN(e:dH j pf g h ps=some (d,ps')):∃d0 p ys d0',ps[j]? =some (some d0)/\pf ps=some p/\g ps=some ys/\fO (h ys) d0 p=some (d,d0')/\ps'=ps.set j (some d0'):=by
 obtain⟨d0,e1,e2⟩:=bind_some e
 obtain⟨p,e3,e4⟩:=bind_some e2
 obtain⟨ys,e5,e6⟩:=bind_some e4
 obtain⟨⟨r,d0'⟩,e7,e8⟩:=bind_some e6
 cases e8
 exact⟨d0,p,ys,d0',join_some e1,e3,e5,e7,rfl⟩
def eE:List D->D->Option (D×D)
 |[y],.lst true xs=>if xs.length<sizeLine then some (.non,.lst true (xs++[y])) else none
 |_,_=>none
theorem xO(h:eE ys d=some (r,d')):∃y xs,ys=[y]/\d= .lst true xs/\xs.length<sizeLine/\r= .non/\d'= .lst true (xs++[y]):=by
 unfold eE at h
 split at h
 ·obtain⟨hc,e⟩:=bX h
  cases e
  exact⟨_,_,rfl,rfl,hc,rfl,rfl⟩
 ·cases h
theorem zl0(w:WS K U H σ ps)(s1:SameK H H1)(e0:ps[j]? =some (some d0))(ev:σ[j]? =some (some v0))(g:jW d0 p=some d)(a:At H1 v0 p v):∃fd,Rep K U H1 v d fd:=by
 obtain⟨v0',fp,h1,h2⟩:=w j d0 e0
 rw [ev] at h1;cases h1
 exact zb7 (h2.same s1) g a
theorem nE(hb:φ.bor j=false)(ho:PE X o (oB X.K U j pf))(ha:PA X [e] (tPA X.K U g))
  (hbase:attributeBase o "append" X.env (eval o X.env)=eval o X.env:=by rfl)
  (hfew:((backTo pos (starEach [e] X.env)).all (fun x=> !x.1)&&(backToKw pos (keywordEach [] X.env)).all (fun x=>x.1.isSome)
   &&decide ([e].length+([]:List Keyword).length+(if ([]:List Keyword).isEmpty then 0 else 1)<30))=true:=by rfl)
  (hline:(apos.endLine==pos.line)=true:=by rfl) (hs:starEach [e] X.env=(false,eval e X.env)::starEach [] X.env:=by rfl) (hplain:(backTo pos (starEach [] X.env)).any (·.1)=false:=by rfl):
  QE X U φ (.Call (.Attribute o "append" apos) [e] [] pos) (dH j pf g eE):=
 (xk6 XS PySem.F.slot_list_append PySem.F.type_list_append zo5 ho ha hbase hfew hline hs hplain).imp fun σ H Q hh_=>by
  obtain⟨ps,F,d,ps',R,e,q⟩:=hh_
  obtain⟨d0,p,ys,d0',e0,ep,eg,em,rfl⟩:=xN e
  obtain⟨dd,dn,gp,hh⟩:=nA em
  refine⟨ps,p,d0,dd,R.ws,e0,ep,gp,fun v H1 v0 s1 ev a1=>⟨?_,ps,ys,R.ws.same s1,eg,fun vs H2 fy s2 n2 nd2 r2=> ?_⟩⟩
  ·obtain⟨y,xs,rfl,rfl,_⟩:=xO hh
   obtain⟨fd,rd⟩:=zl0 R.ws s1 e0 ev gp a1
   obtain⟨_,_,_,rfl,hl,hr,rfl⟩:=rd.lstT_inv
   exact .inl ⟨rfl,_,.inl (.inl hl)⟩
  ·obtain⟨d1,d1',fd,m1,m2,m3,m4,m5⟩:=uH R (s1.trans s2) hb e0 ev em (a1.same s2)
   obtain⟨y,xs,rfl,rfl,hz,rfl,rfl⟩:=xO m2
   obtain⟨u,rfl,ru⟩:=r2.one_inv
   obtain⟨l,us,g1,rfl,hl,hr,rfl⟩:=m1.lstT_inv
   have ln:=hr.length
   refine⟨l,us,u,rfl,rfl,hl,by omega,?_⟩
   have nl:l∉fy:=fun z=>by have:=n2 l z;have:=s1.keep l;obtain⟨o,h1,h2,_⟩:=R.own (m4 l Z0);have:=s1.keep l o h1 h2;rw [n2 l z] at this;cases this
   obtain⟨nl2,nd3⟩:=Zs.mp m3
   have up:∀a,a≠l->upd H2 l (.lst (us++[u])) a=H2 a:=fun a h=>aX h
   have tfk:∀a o,H2 a=some o->tf o=true->upd H2 l (.lst (us++[u])) a=some o:=fun a o h t=>by
    rw [up a]
    ·exact h
    ·rintro rfl;rw [hl] at h;cases h;cases t
   obtain⟨F',st,ow⟩:=m5 (upd H2 l (.lst (us++[u]))) (l::(g1++fy)) [] (fun a o h _ hn=>by rw [up a (fun z=>hn (z▸Z0))];exact h)
    (fun a h=>by
     by_cases z:a=l
     ·subst z;rw [cK] at h;cases h
     ·rw [up a z] at h;exact h)
    (.lst cK (Reps.append (hr.move tfk fun a ha=>up a fun z=>nl2 (z▸ha)) (Reps.one (ru.move tfk fun a ha=>up a fun z=>nl (z▸ha)))))
    (by
     rw [Zl,Zs,Zz]
     refine⟨fun z=>(Zq.mp z).elim nl2 nl,nd3,nd2,fun a ha b hb e=> ?_⟩
     subst e
     obtain⟨o,h1,h2,_⟩:=R.own (m4 a (Z1 _ ha))
     have:=s1.keep a o h1 h2
     rw [n2 a hb] at this;cases this)
    (fun a ha=>by
     rw [Zl] at ha
     rcases Z6.mp ha with z|z
     ·exact .inl (z▸Z0)
     ·rcases Zq.mp z with z|z
      ·exact .inl (Z1 _ z)
      ·exact .inr (s1.grow a (n2 a z)))
   exact q .non _ F' [] st ow .non
end
section
variable{K:tz0}{U:tz9}{H:Hp}{l:Addr}{o0 o:HO}
theorem yv1(hl:H l=some o0)(ht:tf o0=false):∀a u,H a=some u->tf u=true->upd H l o a=some u:=fun a u h t=>by
 rw [aX]
 ·exact h
 ·rintro rfl;rw [hl] at h;cases h;rw [ht] at t;cases t
theorem Rep.updL(r:Rep K U H v d g)(hl:H l=some o0)(ht:tf o0=false)(n:l∉g):Rep K U (upd H l o) v d g:=r.move (yv1 hl ht) fun a ha=>aX fun z=>n (z▸ha)
theorem Reps.updL(r:Reps K U H v d g)(hl:H l=some o0)(ht:tf o0=false)(n:l∉g):Reps K U (upd H l o) v d g:=r.move (yv1 hl ht) fun a ha=>aX fun z=>n (z▸ha)
theorem vG(h:H a=some u)(n:a∉l::g):upd H l o a=some u:=by
 rw [aX (fun z=>n (by rw [z];exact Z0))];exact h
theorem oW(h:upd H l o a=none):H a=none:=by
 by_cases z:a=l
 ·subst z;rw [cK] at h;cases h
 ·rw [aX z] at h;exact h
theorem Reps.pop:∀{vs:List V} {ds:List D} {g:List Addr} {d:D},Reps K U H vs ds g->ds[ds.length-1]? =some d->∃v g1 f,vs[vs.length-1]? =some v/\Rep K U H v d f/\Reps K U H vs.dropLast ds.dropLast g1/\g=g1++f
 |_,_,_,_,.nil,e=>by simp at e
 |_,[d1],_,d,.cons (f:=f) h .nil,e=>by
  have e':d1=d:=by simpa using e
  subst e'
  exact⟨_,[],f,by simp,h,.nil,by simp⟩
 |v::v2::vs,d1::d2::ds,_,d,.cons (f:=f) h (.cons (f:=f2) (g:=g2) h2 hs),e=>by
  obtain⟨w,g1,f',k1,k2,k3,k4⟩:=Reps.pop (.cons h2 hs) (d:=d) (by simpa using e)
  refine⟨w,f++g1,f',by simpa using k1,k2,?_,by rw [Zp,<-k4]⟩
  rw [Wc,Wc]
  exact .cons h k3
theorem Reps.setV:∀{vs:List V} {ds:List D} {g:List Addr} {n:Nat} {v':V} {d':D} {f':List Addr},Reps K U H vs ds g->n<ds.length->Rep K U H v' d' f'->∃f1 rest g',g.Perm (f1++rest)/\Reps K U H (vs.set n v') (ds.set n d') g'/\g'.Perm (f'++rest)
 |_,_,_,_,_,_,_,.nil,e,_=>by simp at e
 |_,_,_,0,_,_,f',.cons (f:=f) (g:=g) h hs,_,r=>⟨f,g,f'++g,.refl _,.cons r hs,.refl _⟩
 | _,_,_,n+1,_,_,f',.cons (f:=f) (g:=g) h hs,e,r=>by
  obtain⟨f1,rest,g',h1,h2,h3⟩:=Reps.setV (n:=n) hs (by simpa using e) r
  refine⟨f1,f++rest,f++g',?_,.cons h h2,?_⟩
  ·refine(h1.append_left f).trans ?_
   rw [<-Zp,<-Zp]
   exact Yv.append_right rest
  ·refine(h3.append_left f).trans ?_
   rw [<-Zp,<-Zp]
   exact Yv.append_right rest
end
section
variable{X:Cx}{φ:F0}{U:tz9}{K:tz0}{o e a b:Expr}{f fi fe:tz2}{g:tz3}{pf:PSt->Option (List Ps1)}{j:Nat}{pos apos:Pos}
def tZ:List D->D->Option (D×D)
 |[],.lst true xs=>(xs[xs.length-1]?).bind fun y=>some (y,.lst true xs.dropLast)
 |_,_=>none
theorem zp5(h:tZ ys d=some (r,d')):∃xs,ys=[]/\d= .lst true xs/\xs[xs.length-1]? =some r/\d'= .lst true xs.dropLast:=by
 unfold tZ at h
 split at h
 ·obtain⟨y,h1,h2⟩:=bind_some h
  cases h2
  exact⟨_,rfl,rfl,h1,rfl⟩
 ·cases h
theorem xw7(hb:φ.bor j=false)(ho:PE X o (oB X.K U j pf))
  (hbase:attributeBase o "pop" X.env (eval o X.env)=eval o X.env:=by rfl) (hline:(apos.endLine==pos.line)=true:=by rfl):QE X U φ (.Call (.Attribute o "pop" apos) [] [] pos) (dH j pf aE tZ):=
 (xv3 XS PySem.F.slot_list_pop PySem.F.type_list_pop xv4 ho hbase hline).imp fun σ H Q hh_=>by
  obtain⟨ps,F,d,ps',R,e,q⟩:=hh_
  obtain⟨d0,p,ys,d0',e0,ep,eg,em,rfl⟩:=xN e
  cases eg
  obtain⟨dd,dn,gp,hh⟩:=nA em
  refine⟨ps,p,d0,dd,R.ws,e0,ep,gp,fun v H1 v0 s1 ev a1=>⟨?_,?_⟩⟩
  ·obtain⟨xs,_,rfl,_⟩:=zp5 hh
   obtain⟨fd,rd⟩:=zl0 R.ws s1 e0 ev gp a1
   obtain⟨_,_,_,rfl,hl,hr,rfl⟩:=rd.lstT_inv
   exact .inl ⟨rfl,_,.inl (.inl hl)⟩
  ·obtain⟨d1,d1',fd,m1,m2,m3,m4,m5⟩:=uH R s1 hb e0 ev em a1
   obtain⟨xs,_,rfl,hx,rfl⟩:=zp5 m2
   obtain⟨l,us,g1,rfl,hl,hr,rfl⟩:=m1.lstT_inv
   obtain⟨u,g2,f2,k1,k2,k3,rfl⟩:=hr.pop hx
   obtain⟨nl,nd3⟩:=Zs.mp m3
   have n1:l∉g2:=fun z=>nl (Zm _ z)
   have n2:l∉f2:=fun z=>nl (Z9 _ z)
   refine⟨l,us,u,rfl,rfl,hl,k1,?_⟩
   obtain⟨F',st,ow⟩:=m5 (upd H1 l (.lst us.dropLast)) (l::g2) f2 (fun a o h _ hn=>vG h hn)
    (fun a h=>oW h)
    (.lst cK (k3.updL hl rfl n1)) (by rw [ZQ,Zs];exact⟨nl,nd3⟩) (fun a ha=> .inl ha)
   exact q u _ F' f2 st ow (k2.updL hl rfl n2)
def gH:D->D->D->Option (Unit×D)
 | .int i,y,.lst true xs=>(ixN xs.length i).bind fun n=>some ((),.lst true (xs.set n y))
 |_,_,_=>none
def dR(j:Nat)(pf:PSt->Option (List Ps1))(fi fe:tz2):tz1:=fun ps=>(fe ps).bind fun y=>((ps[j]?).join).bind fun d0=>(pf ps).bind fun p=>(fi ps).bind fun i=>(fO (gH i y) d0 p).bind fun r=>some (.nx,ps.set j (some r.2))
theorem ye1(h:gH i y d=some (r,d')):∃k xs n,i= .int k/\d= .lst true xs/\ixN xs.length k=some n/\d'= .lst true (xs.set n y):=by
 unfold gH at h
 split at h
 ·obtain⟨n,h1,h2⟩:=bind_some h
  cases h2
  exact⟨_,_,n,rfl,rfl,h1,rfl⟩
 ·cases h
theorem rX(hb:φ.bor j=false)(he:PE X e (tP X.K U fe))(ho:PE X o (oB X.K U j pf))(hi:PE X i (tV X.K U fi))(hs:swapsWithSole [.Subscript o i apos] e pos.line X.env=pure false:=by rfl)(hw:swappedStores [.Subscript o i apos] e X.env=pure none:=by rfl)
  (h1:(assignEach [.Subscript o i apos] X.env).map (·.2)=[assign (.Subscript o i apos) X.env]:=by rfl)
  (ha:∀v,assign (.Subscript o i apos) X.env v=(do
   let ov<-holding [v] (eval o X.env)
   let iv<-holding [v,ov] (eval i X.env)
   standAt apos
   holding [v,ov,iv] (setItem ov iv v)
   release [v,ov,iv] []):=by intro _;rfl):QS X U φ (.Assign [.Subscript o i apos] e pos) (dR j pf fi fe):=
 (yr6 he (xu0 ho hi xd1 ha) hs hw h1).imp fun E σ H hh_=>by
  obtain⟨ps,F,fl,ps',R,e,q⟩:=hh_
  obtain⟨y,e1,e2⟩:=bind_some e
  obtain⟨d0,e3,e4⟩:=bind_some e2
  have e0:=join_some e3
  obtain⟨p,e5,e6⟩:=bind_some e4
  obtain⟨iv,e7,e8⟩:=bind_some e6
  obtain⟨⟨r,d0'⟩,em,e9⟩:=bind_some e8
  cases e9
  obtain⟨dd,dn,gp,hh⟩:=nA em
  refine⟨ps,y,R.ws,e1,fun v H1 fy s1 n1 nd1 ry=>⟨ps,p,d0,dd,R.ws.same s1,e0,e5,gp,fun lv H2 v0 s2 ev a2=>⟨ps,iv,(R.ws.same s1).same s2,e7,fun u H3 fu s3 r3=> ?_⟩⟩⟩
  have s13:=(s1.trans s2).trans s3
  obtain⟨d1,d1',fd,m1,m2,m3,m4,m5⟩:=uH R s13 hb e0 ev em (a2.same s3)
  obtain⟨k,xs,n,rfl,rfl,hn,rfl⟩:=ye1 m2
  obtain⟨l,us,g1,rfl,hl,hr,rfl⟩:=m1.lstT_inv
  have ln:=hr.length
  have ry3:=(ry.same s2).same s3
  obtain⟨nl,nd3⟩:=Zs.mp m3
  have own0:∀a∈l::g1,H a≠none:=fun a ha z=>by obtain⟨o,h,_⟩:=R.own (m4 a ha);rw [z] at h;cases h
  have nl2:l∉fy:=fun z=>own0 l Z0 (n1 l z)
  obtain⟨f1,rest,g2,k1,k2,k3⟩:=hr.setV (n:=n) (yZ hn).2.1 ry3
  have mem2:∀a∈g2,a∈fy\/a∈g1:=fun a ha=>(Zq.mp (k3.mem_iff.mp ha)).elim .inl fun z=> .inr (k1.mem_iff.mpr (Z9 _ z))
  have n2:l∉g2:=fun z=>(mem2 l z).elim nl2 nl
  refine⟨l,us,k,n,rfl,r3.is_int,hl,by rw [ln];exact hn,?_⟩
  obtain⟨F',st,ow⟩:=m5 (upd H3 l (.lst (us.set n v))) (l::g2) [] (fun a o h _ hn=>vG h hn)
   (fun a h=>oW h)
   (.lst cK (k2.updL hl rfl n2))
   (by
    rw [Zl,Zs]
    refine⟨n2,k3.nodup_iff.mpr (Zz.mpr ⟨nd1,?_,fun a ha b hb e=> ?_⟩)⟩
    ·exact(Zz.mp (k1.nodup_iff.mp nd3)).2.1
    ·subst e
     exact own0 a (Z1 _ (k1.mem_iff.mpr (Z9 _ hb))) (n1 a ha))
   (fun a ha=>by
    rw [Zl] at ha
    rcases Z6.mp ha with z|z
    ·exact .inl (by rw [z];exact Z0)
    ·exact(mem2 a z).elim (fun z=> .inr (n1 a z)) fun z=> .inl (Z1 _ z))
  exact q _ _ F' st
end
section
variable{φ:Fx}{H H1:Hp}{σ σ1:St}{ps ps1:PSt}{F F1:Nat->List Addr}
theorem Stp.set'(s1:Stp φ σ H F σ1 H1 ps1 F1)(o:OwnV F H F1 fv)(R:RS φ H σ ps F)(r:Rep φ.K φ.U H1 v d fv)(hb:φ.bor i=false\/fv=[])(hm:φ.M i=false):
  ∃F',Stp φ σ H F (σ1.set i (some v)) H1 (ps1.set i (some d)) F'/\∀k a,a∈F' k->a∈fv\/a∈F1 k:=by
 refine⟨_,⟨s1.fr,fun j a h=> ?_,s1.rs.set r hb (fun j _=>o.dis j) o.nd fun a ha=>R.notB (o.nw a ha),fun j h=> ?_⟩,fun k a h=> ?_⟩
 ·rcases gR h with z|z
  ·by_cases k:i<ps1.length
   ·rw [if_pos k] at z;exact o.nw a z
   ·rw [if_neg k] at z;exact absurd z (by simp)
  ·exact s1.nw j a z
 ·rw [Zt (fun z=>by subst z;rw [hm] at h;cases h)]
  exact s1.msk j h
 ·rcases gR h with z|z
  ·by_cases k:i<ps1.length
   ·rw [if_pos k] at z;exact .inl z
   ·rw [if_neg k] at z;exact absurd z (by simp)
  ·exact .inr z
def setN:St->List Nat->List V->St
 |σ,i::is,v::vs=>setN (σ.set i (some v)) is vs
 |σ,_,_=>σ
def uA:PSt->List Nat->List D->PSt
 |ps,i::is,d::ds=>uA (ps.set i (some d)) is ds
 |ps,_,_=>ps
def uW:List Nat->TGs
 |[]=>xz5
 |i::is=>xl5 (rA i) (uW is)
theorem sQ:∀{is:List Nat} {vs:List V} {σ:St},vs.length=is.length->Q (setN σ is vs) H->uW is vs σ H Q
 |[],[],σ,_,q=>⟨rfl,q⟩
 |i::is,v::vs,σ,h,q=>⟨v,vs,rfl,sQ (is:=is) (by simpa using h) q⟩
 |[],_::_,_,h,_=>by simp at h
 |_::_,[],_,h,_=>by simp at h
theorem Stp.setN(R:RS φ H σ ps F):∀{is:List Nat} {vs:List V} {ds:List D} {g:List Addr} {σ1:St} {ps1:PSt} {F1:Nat->List Addr},Stp φ σ H F σ1 H1 ps1 F1->OwnV F H F1 g->Reps φ.K φ.U H1 vs ds g->(∀i∈is,φ.bor i=false/\φ.M i=false)->
  ∃F',Stp φ σ H F (L2.setN σ1 is vs) H1 (uA ps1 is ds) F':=by
 intro is
 induction is with
 |nil=>intro vs ds g σ1 ps1 F1 s _ _ _;exact⟨F1,by simpa [L2.setN,uA] using s⟩
 | cons i is ih=>
  intro vs ds g σ1 ps1 F1 s o r hi
  cases ds with
  |nil=>cases r;exact⟨F1,by simpa [L2.setN,uA] using s⟩
  |cons d ds=>
   obtain⟨v,us,f,g',rfl,h,hs,rfl⟩:=r.split
   obtain⟨nd1,nd2,nd3⟩:=Zz.mp o.nd
   obtain⟨F2,s2,hF⟩:=s.set' (i:=i) (fv:=f) ⟨fun a ha=>o.nw a (Zm _ ha),nd1,fun k a ha hf=>o.dis k a ha (Zm _ hf)⟩ R h (.inl (hi i Z0).1) (hi i Z0).2
   refine ih s2 ⟨fun a ha=>o.nw a (Z9 _ ha),nd2,fun k a ha hg=> ?_⟩ hs fun k hk=>hi k (Z1 _ hk)
   rcases hF k a ha with z|z
   ·exact nd3 a z a hg rfl
   ·exact o.dis k a z (Z9 _ hg)
end
def yc1:D->Option (List D)
 | .lst _ ds=>some ds
 | .tup ds=>some ds
 |_=>none
def yK(is:List Nat)(f:tz8):tz1:=fun ps=>(f ps).bind fun r=>(yc1 r.1).bind fun ds=>if ds.length=is.length then some (.nx,uA r.2 is ds) else none
section
variable{X:Cx}{U:tz9}{φ:F0}{es:List Expr}{pos p:Pos}{k:Nat}{is:List Nat}{e:Expr}{f:tz8}
theorem yv2(hc:X.calm=true)(h:PGs X es t)
  (hn:(assignEach es X.env).length=n:=by rfl) (hst:(assignEach es X.env).findIdx? (·.1)=none:=by rfl):PG X (.Tuple es k pos) (fun v σ H Q=>xj3 X.K n t v σ H Q\/xi8 X.K n t v σ H Q):=⟨by
 intro pins s σ H v u Q I r hw
 rcases hw with hw|hw
 ·exact xw1 hc h hn hst pins s σ H v u Q I r hw
 ·exact xt9 hc h hn hst pins s σ H v u Q I r hw⟩
theorem yv3(hc:X.calm=true)(hg:PGs X es (uW is))(he:QE X U φ e f)(hb:∀i∈is,φ.bor i=false/\φ.M i=false)(hn:(assignEach es X.env).length=is.length:=by rfl)(hst:(assignEach es X.env).findIdx? (·.1)=none:=by rfl)
  (hs:swapsWithSole [.Tuple es k p] e pos.line X.env=pure false:=by rfl) (hw:swappedStores [.Tuple es k p] e X.env=pure none:=by rfl)
  (h1:(assignEach [.Tuple es k p] X.env).map (·.2)=[assign (.Tuple es k p) X.env]:=by rfl):QS X U φ (.Assign [.Tuple es k p] e pos) (yK is f):=
 (yr6 he (yv2 (n:=is.length) hc hg hn hst) hs hw h1).imp fun E σ H hh_=>by
  obtain⟨ps,F,fl,ps',R,e,q⟩:=hh_
  obtain⟨⟨d,ps1⟩,e1,e2⟩:=bind_some e
  obtain⟨ds,e3,e4⟩:=bind_some e2
  obtain⟨hl,e5⟩:=bX e4
  cases e5
  refine⟨ps,F,d,ps1,R,e1,fun v H' F' fv s o r=> ?_⟩
  cases d with
  |lst ow xs=>
   cases e3
   obtain⟨a,vs,g,rfl,h,hs,sub⟩:=r.lst_inv
   have ln:=hs.length
   obtain⟨F2,s2⟩:=Stp.setN R s ⟨fun a ha=>o.nw a (sub.subset ha),o.nd.sublist sub,fun k a ha hg=>o.dis k a ha (sub.subset hg)⟩ hs hb
   exact .inl ⟨a,vs,rfl,.inl h,by omega,sQ (by omega) (q _ _ F2 s2)⟩
  |tup xs=>
   cases e3
   obtain⟨a,vs,rfl,h,hs⟩:=r.tup_inv
   have ln:=hs.length
   obtain⟨F2,s2⟩:=Stp.setN R s ⟨fun a ha=>absurd ha (by simp),Zi,fun k a ha hg=>absurd hg (by simp)⟩ hs hb
   exact .inr ⟨a,vs,rfl,h,by omega,sQ (by omega) (q _ _ F2 s2)⟩
  |_=>cases e3
end
def D.key:D->Option Key
 | .int i=>some (.inl i)
 | .str x=>some (.inr x)
 |_=>none
theorem zl1{K:tz0}{U:tz9}{H:Hp}{v:V}{d:D}{fp:List Addr}{k:Key}(r:Rep K U H v d fp)(h:d.key=some k):v=kV k:=by
 cases r<;>first|(cases h;rfl)|cases h
def oC:List Key->List D->Key->Option D
 |k::ks,d::ds,j=>if k=j then some d else oC ks ds j
 |_,_,_=>none
def kR:D->D->Option D
 | .dic _ ks ds,y=>y.key.bind fun k=>oC ks ds k
 |_,_=>none
theorem zx1{K:tz0}{U:tz9}{H:Hp}:∀{kvs:List (Key×V)} {ks:List Key} {ds:List D} {g:List Addr} {k:Key} {d:D},kvs.map (·.1)=ks->Reps K U H (kvs.map (·.2)) ds g->oC ks ds k=some d->∃v f,pA kvs k=some v/\Rep K U H v d f/\f.Sublist g
 |[],_,_,_,_,_,e,r,h=>by subst e;cases r;cases h
 | (k0,v0)::kvs,_,_,_,k,d,e,.cons (f:=f) (g:=g) h hs,q=>by
  subst e
  rw [Z8,oC] at q
  by_cases z:k0=k
  ·rw [if_pos z] at q
   cases q
   exact⟨v0,f,rQ z,h,XN _ _⟩
  ·rw [if_neg z] at q
   obtain⟨v,f',q1,q2,q3⟩:=zx1 rfl hs q
   exact⟨v,f',by rw [rR z];exact q1,q2,q3.trans (XH _ _)⟩
theorem Rep.dic_inv{K:tz0}{U:tz9}{H:Hp}{v:V}{o:Bool}{ks:List Key}{ds:List D}{fp:List Addr}(r:Rep K U H v (.dic o ks ds) fp):∃a kvs g,v= .ref a/\Rd H a (.dK kvs)/\kvs.map (·.1)=ks/\Reps K U H (kvs.map (·.2)) ds g/\g.Sublist fp:=by
 cases r with
 |dic h e hs=>exact⟨_,_,_,rfl,.inl h,e,hs,YX _ _⟩
 |dicF h e hs=>exact⟨_,_,_,rfl,.inr ⟨_,h⟩,e,hs,.refl _⟩
section
variable{X:Cx}{U:tz9}{a b:Expr}{fa fb:tz2}{pos:Pos}
theorem xo8{K:tz0}{H:Hp}{x y:V}{dx dy d:D}{fx fy:List Addr}{Q:VK}(r1:Rep K U H x dx fx)(r2:Rep K U H y dy fy)(e:kR dx dy=some d)(q:∀v f,Rep K U H v d f->f.Sublist fx->Q v H):∃a v,x= .ref a/\zn5 H a y (some v)/\Q v H:=by
 cases dx with
 |dic o ks ds=>
  obtain⟨k,e1,e2⟩:=bind_some e
  obtain⟨a,kvs,g,rfl,h,hk,hs,sub⟩:=r1.dic_inv
  obtain⟨v,f,q1,q2,q3⟩:=zx1 hk hs e2
  exact⟨a,v,rfl,.inl ⟨kvs,k,h,zl1 r2 e1,q1.symm⟩,q v f q2 (q3.trans sub)⟩
 |_=>cases e
theorem zG(hu:X.A.units+1<cLine)(ha:QV X U a fa)(hb:QV X U b fb)(hs:xj2 b:=by exact fun _ _=>rfl):QV X U (.Subscript a b pos) (f2 kR fa fb):=
 (xo1 hu ha hb hs).imp fun σ H Q hh_=>by
  obtain⟨ps,d,w,e,q⟩:=hh_
  obtain⟨x,y,e1,e2,e3⟩:=uF e
  exact⟨ps,x,w,e1,fun v H1 fp s1 r1=>⟨ps,y,w.same s1,e2,fun u H2 fq s2 r2=>xo8 (r1.same s2) r2 e3 fun v f r _=>q v H2 f (s1.trans s2) r⟩⟩
end
def fxE(K:tz0)(U:tz9)(np:Nat)(m:Nat->Bool):Fx:=⟨K,U,fun i=>decide (i<np)&& !m i,m,fun _ _=>False⟩
def f0E(np:Nat)(m:Nat->Bool):F0:=⟨fun i=>decide (i<np)&& !m i,m,fun _ _=>False⟩
def SpE(np:Nat)(K:tz0)(U:tz9)(m:Nat->Bool)(g:tz7):Sp:=fun vs H Q _=>vs.length=np/\∃ds r ds' F,ds.length=np/\RS (fxE K U np m) H (vs.map some) (ds.map some) F/\g ds=some (r,ds')/\
 ∀v H' F' fv,Stp (fxE K U np m) (vs.map some) H F (vs.map some) H' (ds'.map some) F'->OwnV F H F' fv->Rep K U H' v r fv->Q v H'
def wJ(m:Nat->Bool)(ps:PSt):Nat->List D->Option (List D)
 |_,[]=>some []
 |i,d::ds=>(if m i=true then(ps[i]?).join else some d).bind fun d'=>(wJ m ps (i+1) ds).bind fun ds'=>some (d'::ds')
theorem zp6:∀{ds ds':List D} {i:Nat},wJ m ps i ds=some ds'->ds'.length=ds.length/\∀(k:Nat) (d':D),ds'[k]? =some d'->(m (i+k)=true->ps[i+k]? =some (some d'))/\(m (i+k)=false->ds[k]? =some d')
 |[],_,_,e=>by cases e;exact⟨rfl,fun k d' h=>by simp at h⟩
 | d::ds,_,i,e=>by
  obtain⟨d1,e1,e2⟩:=bind_some e
  obtain⟨ds1,e3,e4⟩:=bind_some e2
  cases e4
  obtain⟨l,h⟩:=zp6 e3
  refine⟨by simp [l],fun k d' hk=> ?_⟩
  cases k with
  |zero=>
   simp at hk;subst hk
   refine⟨fun z=> ?_,fun z=> ?_⟩
   ·rw [Xm] at z|-;rw [if_pos z] at e1;exact join_some e1
   ·rw [Xm] at z;rw [if_neg (by rw [z];simp)] at e1;simpa using e1
  |succ k=>
   obtain⟨h1,h2⟩:=h k d' (by simpa using hk)
   have ea:i+(k+1)=i+1+k:=by omega
   rw [ea]
   exact⟨h1,fun z=>by simpa using h2 z⟩
def gE(np n:Nat)(m:Nat->Bool)(f:tz1):tz7:=fun ds=>if ds.length=np then(f (ds.map some++List.replicate n none)).bind fun r=>match r with
 |(.ret d,ps)=>(wJ m ps 0 ds).bind fun ds'=>some (d,ds')
 |(.nx,ps)=>(wJ m ps 0 ds).bind fun ds'=>some (.non,ds')
 |_=>none
 else none
theorem RS.more(R:RS φ H σ ps F)(hl:ps.length=σ.length)(h2:n<=σ2.length):RS φ H (σ++σ2) (ps++List.replicate n none) F:=by
 refine⟨fun i d h=> ?_,fun i a h=> ?_,R.dis,R.nd,R.nb,R.bt,by simp [hl];omega⟩
 ·by_cases hi:i<ps.length
  ·rw [ZN hi] at h
   rw [ZN (by omega)]
   exact R.rep i d h
  ·rw [YF (by omega),Yq] at h
   split at h<;>cases h
 ·obtain⟨b,d,e⟩:=R.emp i a h
  have hi:=(Z2.mp e).1
  exact⟨b,d,by rw [ZN hi];exact e⟩
theorem zx2{K:tz0}{U:tz9}{np n:Nat}{m:Nat->Bool}{H H':Hp}{vs:List V}{σ2 σ':St}{ds ds':List D}{ps':PSt}{F F':Nat->List Addr}{fv:List Addr}(hm:∀i,m i=true->i<np)(hl:vs.length=np)(hd:ds.length=np)(R:RS (fxE K U np m) H (vs.map some) (ds.map some) F)
  (s:Stp (fxE K U np m) (vs.map some++σ2) H F σ' H' ps' F') (o:OwnV F H F' fv) (e:wJ m ps' 0 ds=some ds'):
  ∃F2,Stp (fxE K U np m) (vs.map some) H F (vs.map some) H' (ds'.map some) F2/\OwnV F H F2 fv:=by
 obtain⟨l,ho⟩:=zp6 e
 have sub:∀i a,a∈(if m i=true then F' i else [])->m i=true/\a∈F' i:=fun i a h=>by
  by_cases z:m i=true
  ·rw [if_pos z] at h;exact⟨z,h⟩
  ·rw [if_neg z] at h;exact absurd h (by simp)
 have tfk:∀a u,H a=some u->tf u=true->H' a=some u:=fun a u h t=>s.fr.keep a u h (lA t) fun i hi=>by
  obtain⟨u',h',_,t'⟩:=R.own hi
  rw [h] at h';cases h';rw [t] at t';cases t'
 have mb:∀i,m i=true->(fxE K U np m).bor i=false:=fun i h=>by simp [fxE,h]
 refine⟨fun i=>if m i=true then F' i else [],⟨s.fr,fun i a h=>s.nw i a (sub i a h).2,⟨fun i d h=> ?_,fun i a h=> ?_,fun i j a h1 h2=>s.rs.dis i j a (sub i a h1).2 (sub j a h2).2,fun i=> ?_,fun i a h=>s.rs.nb i a (sub i a h).2,fun _ a h=>h.elim,by simp [l,hl,hd]⟩,fun _ _=>rfl⟩,⟨o.nw,o.nd,fun i a h=>o.dis i a (sub i a h).2⟩⟩
 ·rw [Zb] at h
  cases q:ds'[i]? with
  |none=>rw [q] at h;cases h
  | some d1=>
   rw [q] at h;cases h
   obtain⟨h1,h2⟩:=ho i d q
   rw [YA] at h1 h2
   by_cases z:m i=true
   ·obtain⟨v,fp,k1,k2,k3,_⟩:=s.rs.rep i d (h1 z)
    refine⟨v,fp,?_,k2,fun _=>by rw [if_pos z];exact k3 (mb i z),fun w=>by rw [mb i z] at w;cases w⟩
    rw [<-k1]
    have:=s.msk i z
    rw [this,ZN (by simp [hl];exact hm i z)]
   ·have zf:m i=false:=by simpa using z
    have hi:(ds.map some)[i]? =some (some d):=by rw [Zb,h2 zf];rfl
    have hib:(fxE K U np m).bor i=true:=by
     have:=(Z2.mp (h2 zf)).1
     simp [fxE,zf];omega
    obtain⟨v,fp,k1,k2,_,k4⟩:=R.rep i d hi
    have efp:fp=[]:=by
     cases fp with
     |nil=>rfl
     |cons a r=>exact(k4 hib a Z0).elim
    subst efp
    exact⟨v,[],k1,k2.move tfk (fun a ha=>absurd ha (by simp)),(fun w=>by rw [hib] at w;cases w),(fun _ a ha=>absurd ha (by simp))⟩
 ·obtain⟨z,h⟩:=sub i a h
  refine⟨mb i z,?_⟩
  have hi:i<ds'.length:=by rw [l,hd];exact hm i z
  exact⟨ds'[i],by rw [Zb,Zr hi];rfl⟩
 ·by_cases z:m i=true
  ·rw [if_pos z];exact s.rs.nd i
  ·rw [if_neg z];exact Zi
section
variable{P:Program}{w:World}{K:tz0}{mg:tzA}{base:Heap}{U:tz9}
theorem kU{x qual:Str}{st:Stmt}{f:Addr}{fd:FuncData}{N ps:List Str}{k:Nat}{fb:tz1}{m:Nat->Bool}(F:Fun K x qual st f fd)(S:FnScope N ps (aU st))(hm:∀i,m i=true->i<ps.length)
  (hbody:∀(cdv:Value) (A:Around) (outer:List Env) (s:Shared) (H:Hp) (E:XK),Room k (A.deeper (envOfC qual (aU st) s.heap.objs.size f cdv))->
   QSs (iH CX0 P w K mg base N qual (aU st) f cdv A outer s H E).nox U (f0E ps.length m) (mF st) fb):
  FnOk P w K mg base CX0 (k+1) f fd ps (SpE ps.length K U m (gE ps.length (N.length-ps.length) m fb)):=by
 refine F.ok S (fun vs H Q E h=>h.1) fun cdv A outer s H vs Q E hr ⟨hl,ds,r,ds',F0,hd,R,e,q⟩=>⟨_,hbody cdv A outer s H E hr,?_⟩
 have hn:ps.length<=N.length:=by have:=ZM List.length S.pre;rw [Yh] at this;omega
 unfold gE at e
 obtain⟨_,e0⟩:=bX e
 obtain⟨⟨fl,ps'⟩,e1,e2⟩:=bind_some e0
 have R0:=R.more (σ2:=List.replicate (N.length-vs.length) none) (n:=N.length-ps.length) (by simp [hl,hd]) (by simp [hl])
 refine⟨_,F0,fl,ps',R0,e1,?_⟩
 cases fl with
 | ret d'=>
  obtain⟨ds1,e3,e4⟩:=bind_some e2
  cases e4
  exact fun v σ' H' F' fv s o rv=>by
   obtain⟨F2,s2,o2⟩:=zx2 (n:=0) hm hl hd R s o e3
   exact q v H' F2 fv s2 o2 rv
 | nx=>
  obtain⟨ds1,e3,e4⟩:=bind_some e2
  cases e4
  exact fun σ' H' F' s=>by
   obtain⟨F2,s2,o2⟩:=zx2 (n:=0) (fv:=[]) hm hl hd R s ⟨fun _ h=>absurd h (by simp),Zi,fun _ _ _ h=>absurd h (by simp)⟩ e3
   exact q .non H' F2 [] s2 o2 .non
 |bk=>cases e2
 |ct=>cases e2
end
set_option genInjectivity true in
inductive Arg where
 |io (j:Nat)|im (f:tz2)
def cA:List Arg->tz3
 |[],_=>some []
 | .io j::as,ps=>((ps[j]?).join).bind fun d=>(cA as ps).bind fun ds=>some (d::ds)
 | .im f::as,ps=>(bB f ps).bind fun d=>(cA as ps).bind fun ds=>some (d::ds)
def mM:List Arg->Nat->Bool
 | .io _::_,0=>true
 |_::as,i+1=>mM as i
 |_,_=>false
def slots:List Arg->List Nat
 |[]=>[]
 | .io j::as=>j::slots as
 | .im _::as=>slots as
def dY:PSt->List Arg->List D->PSt
 |ps,.io j::as,d::ds=>dY (ps.set j (some d)) as ds
 |ps,.im _::as,_::ds=>dY ps as ds
 |ps,_,_=>ps
inductive ArgsAt(K:tz0)(U:tz9)(H:Hp)(σ:St)(ps:PSt):List Arg->List V->List D->Prop
 |nil:ArgsAt K U H σ ps [] [] []
 |io {j:Nat} {as:List Arg} {v:V} {vs:List V} {d:D} {ds:List D}:σ[j]? =some (some v)->ps[j]? =some (some d)->ArgsAt K U H σ ps as vs ds->ArgsAt K U H σ ps (.io j::as) (v::vs) (d::ds)
 |im {f:tz2} {as:List Arg} {v:V} {vs:List V} {d:D} {ds:List D}:Rep K U H v d []->ArgsAt K U H σ ps as vs ds->ArgsAt K U H σ ps (.im f::as) (v::vs) (d::ds)
theorem ArgsAt.len{K:tz0}{U:tz9}{H:Hp}{σ:St}{ps:PSt}:∀{as:List Arg} {vs:List V} {ds:List D},ArgsAt K U H σ ps as vs ds->vs.length=as.length/\ds.length=as.length
 |_,_,_,.nil=>⟨rfl,rfl⟩
 |_,_,_,.io _ _ h=>by have:=h.len;simp [this]
 |_,_,_,.im _ h=>by have:=h.len;simp [this]
theorem ArgsAt.get{K:tz0}{U:tz9}{H:Hp}{σ:St}{ps:PSt}:∀{as:List Arg} {vs:List V} {ds:List D} {i:Nat} {d:D},ArgsAt K U H σ ps as vs ds->ds[i]? =some d->∃v,vs[i]? =some v/\((∃j,as[i]? =some (.io j)/\mM as i=true/\σ[j]? =some (some v)/\ps[j]? =some (some d))\/(mM as i=false/\Rep K U H v d []))
 |_,_,_,_,_,.nil,e=>by simp at e
 |_,_,_,0,_,.io h1 h2 _,e=>by simp at e;subst e;exact⟨_,rfl,.inl ⟨_,rfl,rfl,h1,h2⟩⟩
 |_,_,_,0,_,.im r _,e=>by simp at e;subst e;exact⟨_,rfl,.inr ⟨rfl,r⟩⟩
 |_,_,_,i+1,_,.io _ _ h,e=>by
  obtain⟨v,h1,h2⟩:=ArgsAt.get (i:=i) h (by simpa using e)
  exact⟨v,by simpa using h1,by simpa [mM] using h2⟩
 |_,_,_,i+1,_,.im _ h,e=>by
  obtain⟨v,h1,h2⟩:=ArgsAt.get (i:=i) h (by simpa using e)
  exact⟨v,by simpa using h1,by simpa [mM] using h2⟩
theorem zl2:∀{as:List Arg} {i:Nat},mM as i=true->∃j,as[i]? =some (.io j)
 | .io j::_,0,_=>⟨j,rfl⟩
 | .im _::_,0,h=>by cases h
 | .io _::as,i+1,h=>by obtain⟨j,e⟩:=zl2 (as:=as) (i:=i) h;exact⟨j,by simpa using e⟩
 | .im _::as,i+1,h=>by obtain⟨j,e⟩:=zl2 (as:=as) (i:=i) h;exact⟨j,by simpa using e⟩
 |[],_,h=>by cases h
theorem oX:∀{as:List Arg} {i j:Nat},as[i]? =some (.io j)->mM as i=true
 | .io _::_,0,_,_=>rfl
 | .im _::_,0,_,h=>by simp at h
 | .io _::as,i+1,j,h=>oX (as:=as) (i:=i) (j:=j) (by simpa using h)
 | .im _::as,i+1,j,h=>oX (as:=as) (i:=i) (j:=j) (by simpa using h)
 |[],_,_,h=>by simp at h
theorem iS:∀{as:List Arg} {i j:Nat},as[i]? =some (.io j)->j∈slots as
 | .io _::_,0,_,h=>by simp at h;subst h;exact Z0
 | .im _::_,0,_,h=>by simp at h
 | .io _::as,i+1,j,h=>Z1 _ (iS (as:=as) (i:=i) (by simpa using h))
 | .im _::as,i+1,j,h=>iS (as:=as) (i:=i) (by simpa using h)
 |[],_,_,h=>by simp at h
theorem xP:∀{as:List Arg} {i k j:Nat},(slots as).Nodup->as[i]? =some (.io j)->as[k]? =some (.io j)->i=k
 |[],_,_,_,_,h,_=>by simp at h
 |a::as,0,0,_,_,_,_=>rfl
 | .io j'::as,0,k+1,j,nd,h1,h2=>by
  simp at h1;subst h1
  exact absurd (iS (as:=as) (i:=k) (by simpa using h2)) (Zs.mp nd).1
 | .im _::as,0,k+1,j,_,h1,_=>by simp at h1
 | .io j'::as,i+1,0,j,nd,h1,h2=>by
  simp at h2;subst h2
  exact absurd (iS (as:=as) (i:=i) (by simpa using h1)) (Zs.mp nd).1
 | .im _::as,i+1,0,j,_,_,h2=>by simp at h2
 | .io j'::as,i+1,k+1,j,nd,h1,h2=>by rw [xP (as:=as) (i:=i) (k:=k) (j:=j) (Zs.mp nd).2 (by simpa using h1) (by simpa using h2)]
 | .im _::as,i+1,k+1,j,nd,h1,h2=>by rw [xP (as:=as) (i:=i) (k:=k) (j:=j) nd (by simpa using h1) (by simpa using h2)]
def fF:List Arg->Nat->Option Nat
 |[],_=>none
 | .io i::as,j=>if i=j then some 0 else(fF as j).map (·+1)
 | .im _::as,j=>(fF as j).map (·+1)
theorem mB:∀{as:List Arg} {j i:Nat},fF as j=some i->as[i]? =some (.io j)
 |[],_,_,h=>by cases h
 | .io k::as,j,i,h=>by
  rw [fF] at h
  by_cases z:k=j
  ·rw [if_pos z] at h;cases h;rw [z];rfl
  ·rw [if_neg z] at h
   cases q:fF as j with
   |none=>rw [q] at h;cases h
   |some n=>rw [q] at h;cases h;simpa using mB q
 | .im _::as,j,i,h=>by
  rw [fF] at h
  cases q:fF as j with
  |none=>rw [q] at h;cases h
  |some n=>rw [q] at h;cases h;simpa using mB q
theorem jQ:∀{as:List Arg} {j:Nat},fF as j=none->j∉slots as
 |[],_,_=>by simp [slots]
 | .io k::as,j,h=>by
  rw [fF] at h
  by_cases z:k=j
  ·rw [if_pos z] at h;cases h
  ·rw [if_neg z] at h
   have h':fF as j=none:=by
    cases q:fF as j with
    |none=>rfl
    |some n=>rw [q] at h;cases h
   exact fun hm=>(Z6.mp hm).elim (fun e=>z e.symm) (jQ h')
 | .im _::as,j,h=>by
  rw [fF] at h
  have h':fF as j=none:=by
   cases q:fF as j with
   |none=>rfl
   |some n=>rw [q] at h;cases h
  exact fun hm=>jQ (as:=as) h' hm
theorem vH:∀{as:List Arg} {ds:List D} {ps:PSt},(dY ps as ds).length=ps.length
 |[],_,_=>by simp [dY]
 | .io j::as,[],_=>by simp [dY]
 | .im _::as,[],_=>by simp [dY]
 | .io j::as,d::ds,ps=>by rw [dY,vH (as:=as)];simp
 | .im _::as,d::ds,ps=>by rw [dY,vH (as:=as)]
theorem nQ:∀{as:List Arg} {ds:List D} {ps:PSt} {j:Nat},j∉slots as->(dY ps as ds)[j]? =ps[j]?
 |[],_,_,_,_=>by simp [dY]
 | .io _::_,[],_,_,_=>by simp [dY]
 | .im _::_,[],_,_,_=>by simp [dY]
 | .io k::as,d::ds,ps,j,h=>by
  rw [dY,nQ (as:=as) (fun z=>h (Z1 _ z)),Zt (fun z=>h (by rw [<-z];exact Z0))]
 | .im _::as,d::ds,ps,j,h=>by rw [dY];exact nQ (as:=as) h
theorem zH:∀{as:List Arg} {ds:List D} {ps:PSt} {i j:Nat} {d:D},(slots as).Nodup->as[i]? =some (.io j)->ds[i]? =some d->j<ps.length->(dY ps as ds)[j]? =some (some d)
 |[],_,_,_,_,_,_,h,_,_=>by simp at h
 |_::_,[],_,_,_,_,_,_,h,_=>by simp at h
 | .io k::as,d1::ds,ps,0,j,d,nd,h1,h2,h3=>by
  simp at h1 h2;subst h1;subst h2
  rw [dY,nQ (Zs.mp nd).1,Zu h3]
 | .im _::as,d1::ds,ps,0,j,d,_,h1,_,_=>by simp at h1
 | .io k::as,d1::ds,ps,i+1,j,d,nd,h1,h2,h3=>by
  rw [dY];exact zH (Zs.mp nd).2 (by simpa using h1) (by simpa using h2) (by simpa using h3)
 | .im _::as,d1::ds,ps,i+1,j,d,nd,h1,h2,h3=>by
  rw [dY];exact zH (as:=as) nd (by simpa using h1) (by simpa using h2) h3
def pB(as:List Arg)(F:Nat->List Addr):Nat->List Addr:=fun i=>match as[i]? with
 |some (.io j)=>F j
 |_=>[]
theorem yg6(e:as[i]? =some (.io j)):pB as F i=F j:=by unfold pB;rw [e]
theorem zx3(h:b∈pB as F i):∃j,as[i]? =some (.io j)/\b∈F j:=by
 unfold pB at h
 cases q:as[i]? with
 |none=>rw [q] at h;exact absurd h (by simp)
 |some x=>
  cases x with
  |io j=>rw [q] at h;exact⟨j,rfl,h⟩
  |im _=>rw [q] at h;exact absurd h (by simp)
theorem zl3(e:mM as i=false):pB as F i=[]:=by
 unfold pB
 cases q:as[i]? with
 |none=>rfl
 |some x=>cases x with
  |io j=>rw [oX q] at e;cases e
  |im _=>rfl
theorem xe4{φ:Fx}{H:Hp}{σ:St}{ps:PSt}{F:Nat->List Addr}{as:List Arg}{vs:List V}{ds:List D}(R:RS φ H σ ps F)(nd:(slots as).Nodup)(hb:∀j∈slots as,φ.bor j=false)(a:ArgsAt φ.K φ.U H σ ps as vs ds):
  RS (fxE φ.K φ.U as.length (mM as)) H (vs.map some) (ds.map some) (pB as F):=by
 obtain⟨lv,ld⟩:=a.len
 have memF:∀i b,b∈pB as F i->∃j,as[i]? =some (Arg.io j)/\b∈F j:=fun i b h=>zx3 h
 refine⟨fun i d h=> ?_,fun i b h=> ?_,fun i k b h1 h2=> ?_,fun i=> ?_,fun i b h k z=>z.elim,fun k b z=>z.elim,by simp [lv,ld]⟩
 ·rw [Zb] at h
  cases q:ds[i]? with
  |none=>rw [q] at h;cases h
  | some d1=>
   rw [q] at h;cases h
   obtain⟨v,h1,h2⟩:=a.get q
   have hi:=(Z2.mp q).1
   refine⟨v,pB as F i,by rw [Zb,h1];rfl,?_,fun _=>rfl,fun z=> ?_⟩
   ·rcases h2 with ⟨j,e1,e2,e3,e4⟩|⟨e1,r⟩
    ·obtain⟨v',fp,k1,k2,k3,_⟩:=R.rep j d e4
     rw [e3] at k1;cases k1
     rw [yg6 e1]
     have:=k3 (hb j (iS e1))
     subst this
     exact k2
    ·rw [zl3 e1];exact r
   ·rcases h2 with ⟨j,e1,e2,_⟩|⟨e1,r⟩
    ·simp [fxE,e2] at z
    ·rw [zl3 e1];intro b hb;exact absurd hb (by simp)
 ·obtain⟨j,e,hj⟩:=memF i b h
  have hi:i<ds.length:=by rw [ld];exact(Z2.mp e).1
  exact⟨by simp [fxE,oX e],ds[i],by rw [Zb,Zr hi];rfl⟩
 ·obtain⟨j1,e1,m1⟩:=memF i b h1
  obtain⟨j2,e2,m2⟩:=memF k b h2
  have:=R.dis j1 j2 b m1 m2
  subst this
  exact xP nd e1 e2
 ·cases z:mM as i with
  |true=>obtain⟨j,e⟩:=zl2 z;rw [yg6 e];exact R.nd j
  |false=>rw [zl3 z];exact Zi
def tD(as:List Arg)(F Fc:Nat->List Addr):Nat->List Addr:=fun j=>match fF as j with
 |some i=>Fc i
 |none=>F j
theorem yv4(h:b∈tD as F Fc j):(∃i,fF as j=some i/\b∈Fc i)\/(fF as j=none/\b∈F j):=by
 unfold tD at h
 cases q:fF as j with
 |none=>rw [q] at h;exact .inr ⟨rfl,h⟩
 |some i=>rw [q] at h;exact .inl ⟨i,rfl,h⟩
theorem zf0(e:fF as j=some i):tD as F Fc j=Fc i:=by unfold tD;rw [e]
theorem zf1(e:fF as j=none):tD as F Fc j=F j:=by unfold tD;rw [e]
theorem xo9{φ:Fx}{H H1 H':Hp}{σ:St}{ps:PSt}{F Fc':Nat->List Addr}{as:List Arg}{vs:List V}{ds ds':List D}{fv:List Addr}(R:RS φ H σ ps F)(s1:SameK H H1)(nd:(slots as).Nodup)(hb:∀j∈slots as,φ.bor j=false)(a:ArgsAt φ.K φ.U H1 σ ps as vs ds)(hl:ds'.length=as.length)
  (s:Stp (fxE φ.K φ.U as.length (mM as)) (vs.map some) H1 (pB as F) (vs.map some) H' (ds'.map some) Fc') (o:OwnV (pB as F) H1 Fc' fv):
  ∃F',Stp φ σ H F σ H' (dY ps as ds') F'/\OwnV F H F' fv:=by
 have memF:∀i b,b∈pB as F i->∃j,as[i]? =some (Arg.io j)/\b∈F j:=fun i b h=>zx3 h
 have nwA:∀b,((∃i,b∈pB as F i)\/H1 b=none)->(∃j∈slots as,b∈F j)\/H b=none:=fun b h=>by
  rcases h with ⟨i,h⟩|h
  ·obtain⟨j,e,m⟩:=memF i b h
   exact .inl ⟨j,iS e,m⟩
  ·exact .inr (s1.grow b h)
 have isDisj:∀b,((∃i,b∈Fc' i)\/b∈fv)->∀j,j∉slots as->b∉F j:=fun b h j hj hm=>by
  have h':(∃j∈slots as,b∈F j)\/H b=none:=by
   rcases h with ⟨i,h⟩|h
   ·exact nwA b (s.nw i b h)
   ·exact nwA b (o.nw b h)
  rcases h' with ⟨k,hk,hm2⟩|z
  ·exact hj (R.dis j k b hm hm2▸hk)
  ·obtain⟨u,q,_⟩:=R.own hm;rw [z] at q;cases q
 have keepN:∀b u,H b=some u->kd u=true->(∀j∈slots as,b∉F j)->H' b=some u:=fun b u h k n=>s.fr.keep b u (s1.keep b u h k) k fun i hi=>by
  obtain⟨j,e,m⟩:=memF i b hi
  exact n j (iS e) m
 have tfk:∀b u,H b=some u->tf u=true->H' b=some u:=fun b u h t=>keepN b u h (lA t) fun j _ hm=>by
  obtain⟨u',h',_,t'⟩:=R.own hm
  rw [h] at h';cases h';rw [t] at t';cases t'
 have posmem:∀j b,b∈tD as F Fc' j->(∃i,fF as j=some i/\b∈Fc' i)\/(fF as j=none/\b∈F j):=fun j b h=>yv4 h
 refine⟨tD as F Fc',⟨⟨fun b u h k n=>keepN b u h k fun j _=>n j,fun b h=>s1.grow b (s.fr.grow b h)⟩,fun j b h=> ?_,⟨fun j d h=> ?_,fun j b h=> ?_,fun j k b h1 h2=> ?_,fun j=> ?_,fun j b h=> ?_,fun kk b hB z=>R.bt kk b hB (s1.grow b (s.fr.grow b z)),by rw [vH];exact R.len⟩,fun _ _=>rfl⟩,⟨fun b hb'=> ?_,o.nd,fun j b h hv=> ?_⟩⟩
 ·rcases posmem j b h with ⟨i,e,m⟩|⟨e,m⟩
  ·exact(nwA b (s.nw i b m)).elim (fun⟨k,_,hk⟩=> .inl ⟨k,hk⟩) .inr
  ·exact .inl ⟨j,m⟩
 ·cases q:fF as j with
  | some i=>
   have e:=mB q
   have hi:i<ds'.length:=by rw [hl];exact(Z2.mp e).1
   have ei:ds'[i]? =some ds'[i]:=Zr hi
   have hj:j<ps.length:=by
    have:=(Z2.mp h).1
    rwa [vH] at this
   rw [zH nd e ei hj] at h
   cases h
   obtain⟨v,fp,k1,k2,k3,_⟩:=s.rs.rep i ds'[i] (by rw [Zb,ei];rfl)
   have hbi:(fxE φ.K φ.U as.length (mM as)).bor i=false:=by simp [fxE,oX e]
   have k3:=k3 hbi
   subst k3
   have hvi:i<vs.length:=by rw [a.len.1];exact(Z2.mp e).1
   have hdi:i<ds.length:=by rw [a.len.2];exact(Z2.mp e).1
   obtain⟨v',g1,g2⟩:=a.get (Zr hdi)
   rw [Zb,g1] at k1
   cases k1
   rcases g2 with ⟨j',e1,_,e3,_⟩|⟨e1,_⟩
   ·rw [e] at e1;cases e1
    exact⟨v,Fc' i,e3,k2,(fun _=>(zf0 q).symm),(fun z=>by rw [hb j (iS e)] at z;cases z)⟩
   ·rw [oX e] at e1;cases e1
  |none=>
   have hn:=jQ q
   rw [nQ hn] at h
   obtain⟨v,fp,k1,k2,k3,k4⟩:=R.rep j d h
   refine⟨v,fp,k1,k2.move tfk fun b hb'=> ?_,(fun z=>by rw [zf1 q];exact k3 z),k4⟩
   obtain⟨u,q1,q2,_⟩:=k2.own b hb'
   rw [q1]
   refine keepN b u q1 q2 fun k hk hm=> ?_
   cases z:φ.bor j with
   |true=>exact R.nb k b hm j (k4 z b hb')
   |false=>rw [k3 z] at hb';exact hn (R.dis j k b hb' hm▸hk)
 ·rcases posmem j b h with ⟨i,e,m⟩|⟨e,m⟩
  ·have e':=mB e
   refine⟨hb j (iS e'),?_⟩
   have hi:i<ds'.length:=by rw [hl];exact(Z2.mp e').1
   have hdi:i<ds.length:=by rw [a.len.2];exact(Z2.mp e').1
   obtain⟨v',g1,g2⟩:=a.get (Zr hdi)
   rcases g2 with ⟨j',e1,_,_,e4⟩|⟨e1,_⟩
   ·rw [e'] at e1;cases e1
    exact⟨_,zH nd e' (Zr hi) (Z2.mp e4).1⟩
   ·rw [oX e'] at e1;cases e1
  ·obtain⟨b1,d,b2⟩:=R.emp j b m
   exact⟨b1,d,by rw [nQ (jQ e)];exact b2⟩
 ·rcases posmem j b h1 with ⟨i,e,m⟩|⟨e,m⟩
  ·rcases posmem k b h2 with ⟨i',e',m'⟩|⟨e',m'⟩
   ·have:=s.rs.dis i i' b m m'
    subst this
    have q1:=mB e
    have q2:=mB e'
    rw [q1] at q2
    cases q2;rfl
   ·exact absurd m' (isDisj b (.inl ⟨i,m⟩) k (jQ e'))
  ·rcases posmem k b h2 with ⟨i',e',m'⟩|⟨e',m'⟩
   ·exact absurd m (isDisj b (.inl ⟨i',m'⟩) j (jQ e))
   ·exact R.dis j k b m m'
 ·cases q:fF as j with
  |some i=>rw [zf0 q];exact s.rs.nd i
  |none=>rw [zf1 q];exact R.nd j
 ·rcases posmem j b h with ⟨i,e,m⟩|⟨e,m⟩
  ·exact R.notB ((nwA b (s.nw i b m)).elim (fun⟨k,_,hk⟩=> .inl ⟨k,hk⟩) .inr)
  ·exact R.nb j b m
 ·exact(nwA b (o.nw b hb')).elim (fun⟨k,_,hk⟩=> .inl ⟨k,hk⟩) .inr
 ·rcases posmem j b h with ⟨i,e,m⟩|⟨e,m⟩
  ·exact o.dis i b m hv
  ·exact isDisj b (.inr hv) j (jQ e) m
def tIO(K:tz0)(U:tz9)(as:List Arg):TA:=fun σ H Q=>∃ps ds,WS K U H σ ps/\cA as ps=some ds/\∀vs H',SameK H H'->ArgsAt K U H' σ ps as vs ds->Q vs H'
def fIO(as:List Arg)(g:tz7):tz8:=fun ps=>(cA as ps).bind fun ds=>(g ds).bind fun r=>if r.2.length=as.length then some (r.1,dY ps as r.2) else none
section
variable{X:Cx}{φ:F0}{U:tz9}{e:Expr}{es:List Expr}{as:List Arg}{f:tz2}{pos p:Pos}
theorem dC:PA X [] (tIO X.K U []):=nM.imp fun σ H Q ⟨ps,ds,w,e,q⟩=>by cases e;exact q [] H (.refl H) .nil
theorem nR(j:Nat){x:Str}(hr:PA X es (tIO X.K U as))(hN:X.N[j]? =some x:=by rfl)(hv:Vis X.env.scope x:=by first|exact Or.inl rfl|exact Or.inr (Or.inl rfl)|exact Or.inr (Or.inr rfl))(hd:NDb x:=by decide)
  (hcd:(x==("__classdict__":Str))=false:=by decide) (hs:starEach (.Name x pos::es) X.env=(false,eval (.Name x pos) X.env)::starEach es X.env:=by rfl):PA X (.Name x pos::es) (tIO X.K U (.io j::as)):=
 (fU (rM hN hv hd hcd) hr hs).imp fun σ H Q hh_=>by
  obtain⟨ps,ds,w,e,q⟩:=hh_
  obtain⟨d,e1,e2⟩:=bind_some e
  obtain⟨ds',e3,e4⟩:=bind_some e2
  cases e4
  have e0:=join_some e1
  obtain⟨v,fp,h1,h2⟩:=w j d e0
  exact⟨v,h1,ps,ds',w,e3,fun vs H1 s1 a1=>q (v::vs) H1 s1 (.io h1 e0 a1)⟩
theorem bO(ha:QV X U e f)(hr:PA X es (tIO X.K U as))(hs:StE e es X:=by rfl):PA X (e::es) (tIO X.K U (.im f::as)):=
 (fU ha.p hr hs).imp fun σ H Q hh_=>by
  obtain⟨ps,ds,w,e,q⟩:=hh_
  obtain⟨d,e1,e2⟩:=bind_some e
  obtain⟨ds',e3,e4⟩:=bind_some e2
  cases e4
  refine⟨ps,d,w,e1,fun v H1 fv s1 n1 nd1 r1=>⟨ps,ds',w.same s1,e3,fun vs H2 s2 a2=>q (v::vs) H2 (s1.trans s2) (.im ?_ a2)⟩⟩
  unfold bB at e1
  obtain⟨d1,k1,k2⟩:=bind_some e1
  obtain⟨k3,k4⟩:=bX k2
  cases k4
  have:=r1.imm k3
  subst this
  exact r1.same s2
theorem qV{x:Str}{st:Stmt}{ps:List Str}{fa:Addr}{fd:FuncData}{k np:Nat}{m:Nat->Bool}{g:tz7}(Dd:Dn X.K X.mg x st ps fa fd)(G:FnOk X.prog X.w X.K X.mg X.base CX0 k fa fd ps (SpE np X.K U m g))(hr:Room k X.A)(hg:Gl X x)(ha:PA X (e::es) (tIO X.K U as))
  (hnp:np=as.length) (hm:m=mM as) (nd:(slots as).Nodup) (hb:∀j∈slots as,φ.bor j=false)
  (hdb:NDb x:=by decide) (he:StE e es X:=by rfl) (hpl:BkE pos es X:=by rfl):
  QE X U φ (.Call (.Name x p) (e::es) [] pos) (fIO as g):=(yl6 Dd G hr hg ha hdb he hpl).imp fun σ H Q hh_=>by
 obtain⟨ps,F,d,ps',R,e,q⟩:=hh_
 obtain⟨ds,e1,e2⟩:=bind_some e
 obtain⟨⟨r,ds'⟩,e3,e4⟩:=bind_some e2
 obtain⟨hl,e5⟩:=bX e4
 cases e5
 subst hnp hm
 refine⟨ps,ds,R.ws,e1,fun vs H1 s1 a1=> ?_⟩
 show SpE _ X.K U _ g (vs++[]) H1 Q E0
 rw [Zl]
 refine⟨a1.len.1,ds,r,ds',_,a1.len.2,xe4 (R.same s1) nd hb a1,e3,fun v H' F' fv s o rv=> ?_⟩
 obtain⟨F2,s2,o2⟩:=xo9 R s1 nd hb a1 hl s o
 exact q v H' F2 fv s2 o2 rv
end
def lend(φ:Fx)(j:Nat)(fp:List Addr):Fx:=⟨φ.K,φ.U,fun i=>decide (i=j)||φ.bor i,fun i=>decide (i=j)||φ.M i,fun i a=>if i=j then a∈fp else φ.B i a⟩
section
variable{φ:Fx}{H H':Hp}{σ σ':St}{ps ps':PSt}{F F':Nat->List Addr}{j:Nat}{d:D}
theorem RS.lend(R:RS φ H σ ps F)(hb:φ.bor j=false)(e:ps[j]? =some (some d)):RS (L2.lend φ j (F j)) H σ ps (mL F j []):=by
 have eF:∀i a,a∈mL F j [] i->i≠j/\a∈F i:=fun i a h=>by
  by_cases z:i=j
  ·subst z;rw [cX] at h;exact absurd h (by simp)
  ·rw [cV z] at h;exact⟨z,h⟩
 refine⟨fun i d' h=> ?_,fun i a h=> ?_,fun i k a h1 h2=>R.dis i k a (eF i a h1).2 (eF k a h2).2,fun i=> ?_,fun i a h k hB=> ?_,fun k a hB=> ?_,R.len⟩
 ·obtain⟨v,fp,h1,h2,h3,h4⟩:=R.rep i d' h
  refine⟨v,fp,h1,h2,fun z=> ?_,fun z=> ?_⟩
  ·have hij:i≠j:=by rintro rfl;simp [L2.lend] at z
   rw [cV hij]
   exact h3 (by simpa [L2.lend,hij] using z)
  ·by_cases hij:i=j
   ·subst hij
    rw [h3 hb]
    intro a ha
    show(if i=i then a∈F i else φ.B i a)
    rw [if_pos rfl];exact ha
   ·intro a ha
    show(if i=j then a∈F j else φ.B i a)
    rw [if_neg hij]
    exact h4 (by simpa [L2.lend,hij] using z) a ha
 ·obtain⟨hij,h⟩:=eF i a h
  obtain⟨b,d',q⟩:=R.emp i a h
  exact⟨by simp [L2.lend,hij,b],d',q⟩
 ·by_cases z:i=j
  ·subst z;rw [cX];exact Zi
  ·rw [cV z];exact R.nd i
 ·obtain⟨hij,h⟩:=eF i a h
  have hB':(if k=j then a∈F j else φ.B k a):=hB
  by_cases z:k=j
  ·rw [if_pos z] at hB';exact hij (R.dis i j a h hB')
  ·rw [if_neg z] at hB';exact R.nb i a h k hB'
 ·have hB':(if k=j then a∈F j else φ.B k a):=hB
  by_cases z:k=j
  ·rw [if_pos z] at hB'
   obtain⟨o,q,_⟩:=R.own hB'
   rw [q];exact fun w=>nomatch w
  ·rw [if_neg z] at hB';exact R.bt k a hB'
theorem Stp.unlend(R:RS φ H σ ps F)(hb:φ.bor j=false)(e:ps[j]? =some (some d))(s:Stp (L2.lend φ j (F j)) σ H (mL F j []) σ' H' ps' F'):
  ∃F2,Stp φ σ H F σ' H' (ps'.set j (some d)) F2/\∀fv,OwnV (mL F j []) H F' fv->OwnV F H F2 fv:=by
 have eF:∀i a,a∈mL F j [] i->i≠j/\a∈F i:=fun i a h=>by
  by_cases z:i=j
  ·subst z;rw [cX] at h;exact absurd h (by simp)
  ·rw [cV z] at h;exact⟨z,h⟩
 obtain⟨v,fp,h1,h2,h3,_⟩:=R.rep j d e
 have h3:=h3 hb
 subst h3
 have keepJ:∀a∈F j,∀o,H a=some o->kd o=true->H' a=some o:=fun a ha o h k=>s.fr.keep a o h k fun i hi=>(eF i a hi).1 (R.dis i j a (eF i a hi).2 ha)
 have tfk:∀a o,H a=some o->tf o=true->H' a=some o:=fun a o h t=>s.fr.keep a o h (lA t) fun i hi=>by
  obtain⟨o',h',_,t'⟩:=R.own (eF i a hi).2
  rw [h] at h';cases h';rw [t] at t';cases t'
 have repJ:Rep φ.K φ.U H' v d (F j):=h2.move tfk fun a ha=>by
  obtain⟨o,q1,q2,_⟩:=h2.own a ha
  rw [q1];exact keepJ a ha o q1 q2
 have notJ:∀i a,a∈F' i->a∉F j:=fun i a h hj=>by
  rcases s.nw i a h with ⟨k,hk⟩|z
  ·exact(eF k a hk).1 (R.dis k j a (eF k a hk).2 hj)
  ·obtain⟨o,q,_⟩:=R.own hj;rw [z] at q;cases q
 have nj:∀a,a∉F' j:=fun a h=>by
  have:=(s.rs.emp j a h).1
  simp [L2.lend] at this
 have hM:σ'[j]? =σ[j]? :=s.msk j (by simp [L2.lend])
 have lt:j<ps.length:=(Z2.mp e).1
 refine⟨if j<ps'.length then mL F' j (F j) else F',⟨⟨fun a o h k n=>s.fr.keep a o h k fun i hi=>n i (eF i a hi).2,s.fr.grow⟩,fun i a h=> ?_,?_,fun i h=>s.msk i (by simp [L2.lend,h])⟩,fun fv o=> ?_⟩
 ·have h':a∈F j\/a∈F' i:=by
   by_cases z:j<ps'.length
   ·rw [if_pos z] at h;exact gR h
   ·rw [if_neg z] at h;exact .inr h
  rcases h' with z|z
  ·exact .inl ⟨j,z⟩
  ·exact(s.nw i a z).elim (fun⟨k,hk⟩=> .inl ⟨k,(eF k a hk).2⟩) .inr
 ·have back:∀i d',i≠j->ps'[i]? =some (some d')->∃v fp,σ'[i]? =some (some v)/\Rep φ.K φ.U H' v d' fp/\(φ.bor i=false->fp=F' i)/\(φ.bor i=true->∀a∈fp,φ.B i a):=fun i d' hij h=>by
   obtain⟨v',fp',q1,q2,q3,q4⟩:=s.rs.rep i d' h
   refine⟨v',fp',q1,q2,fun z=>q3 (by simp [L2.lend,hij,z]),fun z a ha=> ?_⟩
   have:=q4 (by simp [L2.lend,z]) a ha
   have this':(if i=j then a∈F j else φ.B i a):=this
   rwa [if_neg hij] at this'
  have bt:∀k a,φ.B k a->H' a≠none:=fun k a hB z=>R.bt k a hB (s.fr.grow a z)
  by_cases z:j<ps'.length
  ·rw [if_pos z]
   refine⟨fun i d' h=> ?_,fun i a h=> ?_,fun i k a h1 h2=> ?_,fun i=> ?_,fun i a h k hB=> ?_,bt,by simpa using s.rs.len⟩
   ·by_cases hij:i=j
    ·subst hij
     rw [Zu z] at h
     cases h
     exact⟨v,F i,hM.trans h1,repJ,fun _=>cX.symm,fun w=>by rw [hb] at w;cases w⟩
    ·rw [Zt (fun w=>hij w.symm)] at h
     rw [cV hij]
     exact back i d' hij h
   ·by_cases hij:i=j
    ·subst hij;exact⟨hb,d,by rw [Zu z]⟩
    ·rw [cV hij] at h
     obtain⟨b,d',q⟩:=s.rs.emp i a h
     exact⟨by simpa [L2.lend,hij] using b,d',by rw [Zt (fun w=>hij w.symm)];exact q⟩
   ·by_cases e1:i=j
    ·by_cases e2:k=j
     ·rw [e1,e2]
     ·subst e1;rw [cX] at h1;rw [cV e2] at h2;exact absurd h1 (notJ k a h2)
    ·by_cases e2:k=j
     ·subst e2;rw [cX] at h2;rw [cV e1] at h1;exact absurd h2 (notJ i a h1)
     ·rw [cV e1] at h1;rw [cV e2] at h2;exact s.rs.dis i k a h1 h2
   ·by_cases hij:i=j
    ·subst hij;rw [cX];exact R.nd i
    ·rw [cV hij];exact s.rs.nd i
   ·rcases gR h with w|w
    ·exact R.nb j a w k hB
    ·by_cases hkj:k=j
     ·subst hkj
      have hH:=R.bt k a hB
      rcases s.nw i a w with ⟨m,hm⟩|y
      ·exact R.nb m a (eF m a hm).2 k hB
      ·exact hH y
     ·have hB':(L2.lend φ j (F j)).B k a:=by show(if k=j then a∈F j else φ.B k a);rw [if_neg hkj];exact hB
      exact s.rs.nb i a w k hB'
  ·rw [if_neg z,YL (by omega)]
   refine⟨fun i d' h=> ?_,fun i a h=> ?_,s.rs.dis,s.rs.nd,fun i a h k hB=> ?_,bt,s.rs.len⟩
   ·have hij:i≠j:=by rintro rfl;exact z (Z2.mp h).1
    exact back i d' hij h
   ·obtain⟨b,d',q⟩:=s.rs.emp i a h
    have hij:i≠j:=by rintro rfl;exact nj a h
    exact⟨by simpa [L2.lend,hij] using b,d',q⟩
   ·rcases s.nw i a h with ⟨m,hm⟩|y
    ·exact R.nb m a (eF m a hm).2 k hB
    ·exact R.bt k a hB y
 ·refine⟨fun a ha=>(o.nw a ha).elim (fun⟨k,hk⟩=> .inl ⟨k,(eF k a hk).2⟩) .inr,o.nd,fun i a h hv=> ?_⟩
  have h':a∈F j\/a∈F' i:=by
   by_cases z:j<ps'.length
   ·rw [if_pos z] at h;exact gR h
   ·rw [if_neg z] at h;exact .inr h
  rcases h' with w|w
  ·rcases o.nw a hv with ⟨k,hk⟩|y
   ·exact(eF k a hk).1 (R.dis k j a (eF k a hk).2 w)
   ·obtain⟨o',q,_⟩:=R.own w;rw [y] at q;cases q
  ·exact o.dis i a w hv
end
def zt8(i j:Nat)(f:tz1):tz1:=fun ps=>((ps[j]?).join).bind fun d=>(jV d).bind fun ds=>(dX i f ds ps).bind fun r=>some (r.1,r.2.set j (some d))
def F0.lend(φ:F0)(j:Nat)(fp:List Addr):F0:=⟨fun i=>decide (i=j)||φ.bor i,fun i=>decide (i=j)||φ.M i,fun i a=>if i=j then a∈fp else φ.B i a⟩
section
variable{X:Cx}{U:tz9}{φ:F0}{pos:Pos}{body:List Stmt}{f:tz1}
theorem xp0(i j:Nat){x y:Str}{px py:Pos}(hp:PassesOwn (model X.prog X.w) X.A X.env X.xe)(hc:X.calm=true)(hN:X.N.Nodup)(hi:X.N[i]? =some x)(hx:Loc X.env.scope x)(hb:φ.bor i=false)(hm:φ.M i=false)(hij:i≠j)(hj:φ.bor j=false)
  (hbd:∀fp,QSs X U (φ.lend j fp) body f) (hNj:X.N[j]? =some y:=by rfl) (hv:Vis X.env.scope y:=by first|exact Or.inl rfl|exact Or.inr (Or.inl rfl)|exact Or.inr (Or.inr rfl)) (hd:NDb y:=by decide)
  (hcd:(y==("__classdict__":Str))=false:=by decide) (hs:∀x,foldedSetIterable (.Name y py) X.env x=pure x:=by intro _;rfl) (hf:X.fn x=true\/X.env.scope.names.lookup x=some .local:=by first|exact .inl rfl|exact .inr rfl|assumption):
  QS X U φ (.For (.Name x px) (.Name y py) body [] pos) (zt8 i j f):=⟨by
 rintro pins s0 σ H E I ⟨ps,F,fl,ps',R,e,q⟩
 obtain⟨d,e3,e1⟩:=bind_some e
 obtain⟨ds,e4,e5⟩:=bind_some e1
 obtain⟨⟨fl',ps2⟩,e2,e6⟩:=bind_some e5
 cases e6
 have e0:=join_some e3
 have R2:=R.lend hj e0
 obtain⟨v,fp,h1,h2,h3,_⟩:=R.rep j d e0
 have h3:=h3 hj
 subst h3
 refine zd8 hp hc (zw9 (rM hNj hv hd hcd)) (iD hN hi hx hf) (hbd (F j)) hs pins s0 σ H E I ?_
 show wb0 X.K (xi6 j) σ H (yp7 (rA i) (tS (lend (φ.fx X.K U) j (F j)) f) E σ)
 refine⟨v,h1,?_⟩
 refine zk7 (R:=yp7 (rA i) (tS (lend (φ.fx X.K U) j (F j)) f) E σ) h2 e4 fun J Z hz W=> ?_
 refine zb5 (φ:=lend (φ.fx X.K U) j (F j)) R2 (fun a ha=>⟨?_,fun k hk=> ?_⟩) W (by simp [lend,F0.fx,hb,hij]) (by simp [lend,F0.fx,hm,hij]) e2 ?_
 ·obtain⟨o,q1,_⟩:=h2.own a (hz a ha);rw [q1];exact fun w=>nomatch w
 ·by_cases w:k=j
  ·subst w;rw [cX] at hk;exact absurd hk (by simp)
  ·rw [cV w] at hk;exact w (R.dis k j a hk (hz a ha))
 ·cases fl' with
  |nx=>exact fun σ' H' F' st=>by obtain⟨F2,s2,_⟩:=Stp.unlend R hj e0 st;exact q σ' H' F2 s2
  |bk=>exact fun σ' H' F' st=>by obtain⟨F2,s2,_⟩:=Stp.unlend R hj e0 st;exact q σ' H' F2 s2
  |ct=>exact fun σ' H' F' st=>by obtain⟨F2,s2,_⟩:=Stp.unlend R hj e0 st;exact q σ' H' F2 s2
  |ret d'=>exact fun v σ' H' F' fv st o r=>by obtain⟨F2,s2,o2⟩:=Stp.unlend R hj e0 st;exact q v σ' H' F2 fv s2 (o2 fv o) r⟩
end
inductive AreD:List Expr->List D->Prop
 |nil:AreD [] []
 |int {i:Int} {j:Nat} {pos:Pos} {es:List Expr} {ds:List D}:AreD es ds->AreD (.Constant (.int i) j pos::es) (.int i::ds)
 |str {x:Str} {j:Nat} {pos:Pos} {es:List Expr} {ds:List D}:AreD es ds->AreD (.Constant (.str x) j pos::es) (.str x::ds)
def fKs(ds:List D):tz3:=fun _=>some ds
theorem qW(h:AreD es ds):QPA X U es (fKs ds):=by
 have key:∃vs,AreC es vs/\∀K U H,Reps K U H vs ds []:=by
  induction h with
  |nil=>exact⟨[],.nil,fun _ _ _=> .nil⟩
  |int _ ih=>obtain⟨vs,h1,h2⟩:=ih;exact⟨_,.int h1,fun K U H=> .cons (f:=[]) (g:=[]) (.int _) (h2 K U H)⟩
  |str _ ih=>obtain⟨vs,h1,h2⟩:=ih;exact⟨_,.str h1,fun K U H=> .cons (f:=[]) (g:=[]) (.str _) (h2 K U H)⟩
 obtain⟨vs,h1,h2⟩:=key
 exact(yu2 h1).imp fun σ H Q ⟨ps,ds',w,e,q⟩=>by cases e;exact q vs H [] (.refl H) (fun _ h=>absurd h (by simp)) Zi (h2 _ _ _)
def bD(l:List Bool):Nat->Bool:=fun i=>(l[i]?).getD false
def xb5(as:List Arg):List Bool:=as.map fun a=>match a with
 | .io _=>true
 | .im _=>false
theorem hV:∀{as:List Arg} {l:List Bool},xb5 as=l->bD l=mM as:=by
 intro as l h
 subst h
 funext i
 induction as generalizing i with
 |nil=>cases i<;>rfl
 | cons a as ih=>
  cases i with
  |zero=>cases a<;>rfl
  |succ i=>
   have e:mM (a::as) (i+1)=mM as i:=by cases a<;>rfl
   rw [e,<-ih i]
   simp [bD,xb5]
theorem fH(h:bD l i=true):i<l.length:=by
 unfold bD at h
 cases q:l[i]? with
 |none=>rw [q] at h;cases h
 |some b=>exact(Z2.mp q).1
section
variable{P:Program}{w:World}{K:tz0}{mg:tzA}{base:Heap}{U:tz9}
theorem FnOk.noneP:FnOk P w K mg base CX0 k f fd ps (SpP ps.length K U fun _=>none):=
 ⟨fun vs H Q E h=>h.1,fun A outer s H args us vs Q E _ _ _ _ ⟨_,ds,fp,d,_,e,_⟩=>by cases e⟩
theorem FnOk.noneE:FnOk P w K mg base CX0 k f fd ps (SpE ps.length K U m fun _=>none):=
 ⟨fun vs H Q E h=>h.1,fun A outer s H args us vs Q E _ _ _ _ ⟨_,ds,r,ds',F,_,_,e,_⟩=>by cases e⟩
end
section
variable{X:Cx}{U:tz9}{a b c:Expr}{fa fb fc:tz2}{g g':D->D->Option D}{pos:Pos}
theorem xe5(h:tP X.K U (f3 g g' fa fb fc) σ H Q):xb4 (POp X.K U g) (POp X.K U g') (tV X.K U fa) (tV X.K U fb) (tV X.K U fc) σ H Q:=by
 obtain⟨ps,d,w,e,q⟩:=h
 obtain⟨x,e1,e2⟩:=bind_some e
 obtain⟨y,e3,e4⟩:=bind_some e2
 obtain⟨k,e5,e6⟩:=bind_some e4
 obtain⟨t,rfl,e7⟩:=zt1 (x:=(fc ps).bind fun z=>g' y z) (y:=some (D.bl false)) e6
 refine⟨ps,x,w,e1,fun v H1 f1 s1 r1=>⟨ps,y,w.same s1,e3,fun u H2 f2 s2 r2=>⟨x,y,_,f1,f2,r1.same s2,r2,e5,fun z H3 fz s3 n3 nd3 r3=>⟨t,r3.is_bl,?_⟩⟩⟩⟩
 have s13:=(s1.trans s2).trans s3
 cases t with
 |true=>
  rw [if_pos rfl] at e7|-
  obtain⟨zz,e8,e9⟩:=bind_some e7
  exact⟨ps,zz,w.same s13,e8,fun u' H4 f4 s4 r4=>⟨y,zz,d,f2,f4,(r2.same s3).same s4,r4,e9,q.after (s13.trans s4)⟩⟩
 |false=>
  rw [if_neg Z7] at e7|-
  cases e7
  exact(q.after s13).now (.bl false)
theorem xe6(ho:OpR X (compareOp op) (POp X.K U g))(ho':OpR X (compareOp op') (POp X.K U g'))(ha:QV X U a fa)(hb:QV X U b fb)(hc:QV X U c fc)(hm:lastMarks [op,op'] [b,c]=false:=by with_unfolding_all rfl):QT X U (.Compare a [op,op'] [b,c] pos) (fB (f3 g g' fa fb fc)):=
 (xc4 ho ho' ha hb hc hm).imp fun σ H Q ⟨ps,k,w,e,q⟩=>xe5 (Q:=fun x H'=>∃k,x= .bl k/\Q k H') ⟨ps,_,w,zk3 e,fun v H' fv s _ _ r=>⟨k,r.is_bl,q H' s⟩⟩
end
theorem xp1(h:wE k u=true):cG (kV k) u:=by
 rcases fG h with ⟨i,t,rfl,rfl⟩|⟨x,t,rfl,rfl⟩
 ·exact⟨t,rfl⟩
 ·exact⟨t,rfl⟩
def yp8:Key->D
 | .inl i=> .int i
 | .inr x=> .str x
theorem xe7{K:tz0}{U:tz9}{H:Hp}(k:Key):Rep K U H (kV k) (yp8 k) []:=by
 cases k with
 |inl i=>exact .int i
 |inr x=>exact .str x
theorem zf2:∀ys:List (Str×Tok),bL (ys.map fun p=>V.str p.1) (ys.map fun p=>Value.str p.1 p.2)
 |[]=> .nil
 |y::ys=> .cons ⟨y.2,rfl⟩ (zf2 ys)
theorem zp7{K:tz0}{U:tz9}{H:Hp}:∀ys:List (Str×Tok),Reps K U H (ys.map fun p=>V.str p.1) (ys.map fun p=>D.str p.1) []
 |[]=> .nil
 |y::ys=> .cons (f:=[]) (g:=[]) (.str _) (zp7 ys)
theorem xe8{K:tz0}{U:tz9}{a:Addr}{ys:List (Str×Tok)}{od:Option Addr}{n:Nat}{sl:Array (Option Value)}(h:K.lookup a=some ⟨.type "tuple",od,.seq (ys.map fun p=>Value.str p.1 p.2).toArray n,sl⟩)(hl:ys.length<=1000)(H:Hp):
  Rep K U H (.ref a) (.tup (ys.map fun p=>D.str p.1)) []:=
 .tup (.inr ⟨_,_,n,h,rfl,rfl,by rw [Zj,Zh];exact zt0 hl,zf2 ys⟩) (zp7 ys)
section
variable{X:Cx}{pins:tzB}{σ:St}{H:Hp}{s:Shared}{a C dx:Addr}{fs:List (Str×V)}{f:Str}{v:V}{A:Around}{E:Value->Shared->Prop}
theorem yv5(hok:HOk P w H h)(e:Rd H a (.ins C dx fs)):∃mA,ObjM h a dx C mA/\(∀f,jU (fs.lookup f) (mA f)):=by
 obtain⟨d,z,ne,ob,mA,n,r,q⟩:=(show dO P w H h a (.ins C dx fs) from e.ok hok)
 exact⟨mA,⟨ob,n,ne⟩,r⟩
theorem ym3(I:Inv X pins σ H s)(e:Rd H a (.ins C dx fs))(c:Cls X.K C)(n:cC X.K C f)(l:fs.lookup f=some v)
  (h:∀u s',Inv X pins σ H s'->cG v u->Q u s'):wpAny (model X.prog X.w) A (getAttr (.ref a) f b) Q E s:=by
 obtain⟨mA,O,r⟩:=yv5 I.hok e
 obtain⟨u,hu,ru⟩:=jU.some_of (v:=v) (o:=mA f) (by rw [<-l];exact r f)
 exact yf6 I.kIn O (c.get f) c.hd n hu (zo0 ru) (h u _ (I.tok _) ru)
theorem ym4(I:Inv X pins σ H s)(e:Rd H a (.ins C dx fs))(c:Cls X.K C)(k:Meth X.K C m g)(l:fs.lookup m=none)
  (h:Q (.ref g,[.ref a]) s):wpAny (model X.prog X.w) A (getMethod (.ref a) m pl) Q E s:=by
 obtain⟨mA,O,r⟩:=yv5 I.hok e
 have hn:mA m=none:=jU.none_of (by rw [<-l];exact r m)
 exact zv6 I.kIn O (c.get m) k.at_ k.fn hn h
end
def wf7(K:tz0)(ta:TE)(f:Str):TE:=fun σ H Q=>ta σ H fun x H1=>∃a C dx fs v,x= .ref a/\Rd H1 a (.ins C dx fs)/\Cls K C/\cC K C f/\fs.lookup f=some v/\Q v H1
theorem xp2(he:PE X e ta)(hb:attributeBase e f X.env (eval e X.env)=eval e X.env):PE X (.Attribute e f pos) (wf7 X.K ta f):=⟨by
 intro pins s σ H Q I h
 refine yf7 hb (thn (he pins s σ H _ I h) fun u s1 ⟨x,H1,I1,rx,a,C,dx,fs,v,ex,ea,c,n,l,q⟩=> ?_)
 subst ex
 obtain rfl:u=Value.ref a:=rx
 exact ym3 I1 ea c n l fun w' s2 I2 rw'=>⟨v,H1,I2,rw',q⟩⟩
def yc2(C f:Str):D->Option D
 | .obj _ C' ns vs=>if C'=C then(cI ns f).bind fun n=>vs[n]? else none
 |_=>none
def cD(C f:Str)(fo:tz2):tz2:=fun ps=>(fo ps).bind (yc2 C f)
theorem Rep.obj_inv{K:tz0}{U:tz9}{H:Hp}{v:V}{o:Bool}{C:Str}{ns:List Str}{ds:List D}{fp:List Addr}(r:Rep K U H v (.obj o C ns ds) fp):∃a dx fs g,v= .ref a/\Rd H a (.ins (U C) dx fs)/\fs.map (·.1)=ns/\Reps K U H (fs.map (·.2)) ds g/\g.Sublist fp:=by
 cases r with
 |obj h e hs=>exact⟨_,_,_,_,rfl,.inl h,e,hs,YX _ _⟩
 |objF h e hs=>exact⟨_,_,_,_,rfl,.inr ⟨_,h⟩,e,hs,.refl _⟩
section
variable{X:Cx}{U:tz9}{o e:Expr}{C fn:Str}{fo:tz2}{pos:Pos}
theorem cU(hc:Cls X.K (U C))(hna:cC X.K (U C) fn)(ho:QV X U o fo)(hb:attributeBase o fn X.env (eval o X.env)=eval o X.env:=by rfl):QV X U (.Attribute o fn pos) (cD C fn fo):=
 (xp2 ho hb).imp fun σ H Q hh_=>by
  obtain⟨ps,d,w,e,q⟩:=hh_
  obtain⟨x,e1,e2⟩:=bind_some e
  refine⟨ps,x,w,e1,fun v H1 fp s1 r1=> ?_⟩
  cases x with
  |obj ow C' ns ds=>
   have e2':(if C'=C then(cI ns fn).bind fun n=>ds[n]? else none)=some d:=e2
   by_cases hC:C'=C
   case neg=>rw [if_neg hC] at e2';cases e2'
   rw [if_pos hC] at e2'
   subst hC
   obtain⟨n,e4,e5⟩:=bind_some e2'
   obtain⟨a,dx,fs,g,rfl,h,hk,hs,sub⟩:=r1.obj_inv
   subst hk
   obtain⟨u,f1,k3,k4,_⟩:=hs.get e5
   exact⟨a,U C',dx,fs,u,rfl,h,hc,hna,rW e4 k3,q u H1 f1 s1 k4⟩
  |_=>cases e2
end
theorem yg7:∀{fs:List (Str×V)} {f:Str} {n:Nat} (v:V),cI (fs.map (·.1)) f=some n->(gD f v fs).map (·.1)=fs.map (·.1)/\(gD f v fs).map (·.2)=(fs.map (·.2)).set n v
 |[],_,_,_,h=>by cases h
 | (g,x)::r,f,n,v,h=>by
  rw [Z8,cI] at h
  by_cases z:g=f
  ·have z':(g,x).1=f:=z
   rw [if_pos z'] at h;cases h
   rw [gD,if_pos z];exact⟨rfl,rfl⟩
  ·have z':¬(g,x).1=f:=z
   rw [if_neg z'] at h
   obtain⟨m,h1,h2⟩:=Zo.mp h
   subst h2
   obtain⟨k1,k2⟩:=yg7 v h1
   rw [gD,if_neg z]
   exact⟨by rw [Z8,Z8,k1],by rw [Z8,Z8,List.set_cons_succ,k2]⟩
theorem zx4:∀{fs:List (Str×V)} {f:Str} (v:V),cI (fs.map (·.1)) f=none->(gD f v fs).map (·.1)=fs.map (·.1)++[f]/\(gD f v fs).map (·.2)=fs.map (·.2)++[v]
 |[],_,_,_=>⟨rfl,rfl⟩
 | (g,x)::r,f,v,h=>by
  rw [Z8,cI] at h
  by_cases z:g=f
  ·have z':(g,x).1=f:=z
   rw [if_pos z'] at h;cases h
  ·have z':¬(g,x).1=f:=z
   rw [if_neg z'] at h
   obtain⟨k1,k2⟩:=zx4 v (XY.mp h)
   rw [gD,if_neg z]
   exact⟨by rw [Z8,Z8,k1];rfl,by rw [Z8,Z8,k2];rfl⟩
def uX(C f:Str)(y:D):D->Option (Unit×D)
 | .obj true C' ns vs=>if (C'=C/\ns.length<900) then(match cI ns f with
   |some n=>some ((),.obj true C' ns (vs.set n y))
   |none=>some ((),.obj true C' (ns++[f]) (vs++[y]))) else none
 |_=>none
theorem zx5(h:uX C f y d=some (r,d')):∃ns vs,d= .obj true C ns vs/\ns.length<900/\((∃n,cI ns f=some n/\d'= .obj true C ns (vs.set n y))\/(cI ns f=none/\d'= .obj true C (ns++[f]) (vs++[y]))):=by
 unfold uX at h
 split at h
 ·rename_i C' ns vs
  by_cases hh:C'=C/\ns.length<900
  ·rw [if_pos hh] at h
   obtain⟨hC,hl⟩:=hh
   subst hC
   cases q:cI ns f with
   |some n=>rw [q] at h;cases h;exact⟨ns,vs,rfl,hl,.inl ⟨n,q,rfl⟩⟩
   |none=>rw [q] at h;cases h;exact⟨ns,vs,rfl,hl,.inr ⟨q,rfl⟩⟩
  ·rw [if_neg hh] at h;cases h
 ·cases h
def gO(j:Nat)(pf:PSt->Option (List Ps1))(C f:Str)(fe:tz2):tz1:=fun ps=>(fe ps).bind fun y=>((ps[j]?).join).bind fun d0=>(pf ps).bind fun p=>(fO (uX C f y) d0 p).bind fun r=>some (.nx,ps.set j (some r.2))
theorem zx6:∀{ns:List Str} {f:Str} {n:Nat},cI ns f=some n->n<ns.length
 |[],_,_,h=>by cases h
 | m::ns,f,n,h=>by
  rw [cI] at h
  by_cases z:m=f
  ·rw [if_pos z] at h;cases h;simp
  ·rw [if_neg z] at h
   obtain⟨k,h1,h2⟩:=Zo.mp h
   subst h2
   have:=zx6 h1
   simp;omega
section
variable{X:Cx}{U:tz9}{φ:F0}{o e:Expr}{C fn:Str}{j:Nat}{pf:PSt->Option (List Ps1)}{fe:tz2}{pos pos':Pos}
theorem gB(hc:Cls X.K (U C))(hna:cC X.K (U C) fn)(hb:φ.bor j=false)(he:PE X e (tP X.K U fe))(ho:PE X o (oB X.K U j pf))(hs:swapsWith e (some (.Attribute o fn pos')) pos.line X.env=pure false:=by rfl):
  QS X U φ (.Assign [.Attribute o fn pos'] e pos) (gO j pf C fn fe):=
 (xu7 ho he hs).imp fun E σ H hh_=>by
  obtain⟨ps,F,fl,ps',R,e,q⟩:=hh_
  obtain⟨y,e1,e2⟩:=bind_some e
  obtain⟨d0,e3,e4⟩:=bind_some e2
  have e0:=join_some e3
  obtain⟨p,e5,e6⟩:=bind_some e4
  obtain⟨⟨r,d0'⟩,em,e9⟩:=bind_some e6
  cases e9
  obtain⟨dd,dn,gp,hh⟩:=nA em
  refine⟨ps,y,R.ws,e1,fun v H1 fy s1 n1 nd1 ry=>⟨ps,p,d0,dd,R.ws.same s1,e0,e5,gp,fun lv H2 v0 s2 ev a2=> ?_⟩⟩
  have s12:=s1.trans s2
  obtain⟨d1,d1',fd,m1,m2,m3,m4,m5⟩:=uH R s12 hb e0 ev em a2
  obtain⟨ns,vs,rfl,hlen,hd⟩:=zx5 m2
  obtain⟨l,dx,fs,g1,rfl,hl,hn,hr,rfl⟩:=m1.objT_inv
  subst hn
  have ry2:=ry.same s2
  obtain⟨nl,nd3⟩:=Zs.mp m3
  have own0:∀a∈l::g1,H a≠none:=fun a ha z=>by obtain⟨o,h,_⟩:=R.own (m4 a ha);rw [z] at h;cases h
  have nl2:l∉fy:=fun z=>own0 l Z0 (n1 l z)
  have hl9:fs.length<900:=by rw [Zh] at hlen;exact hlen
  refine⟨l,U C,dx,fs,rfl,hl,hc,hna,by omega,?_⟩
  have go:∀(g2:List Addr),(∀a∈g2,a∈fy\/a∈g1)->g2.Nodup->Rep X.K U (upd H2 l (.ins (U C) dx (gD fn v fs))) (.ref l) d1' (l::g2)->∃F',Stp (φ.fx X.K U) σ H F σ (upd H2 l (.ins (U C) dx (gD fn v fs))) (ps.set j (some d0')) F':=fun g2 mem2 nd2 rp=>by
   have n2:l∉g2:=fun z=>(mem2 l z).elim nl2 nl
   obtain⟨F',st,ow⟩:=m5 (upd H2 l (.ins (U C) dx (gD fn v fs))) (l::g2) [] (fun a o h _ hn=>vG h hn) (fun a h=>oW h) rp
    (by rw [Zl,Zs];exact⟨n2,nd2⟩)
    (fun a ha=>by
     rw [Zl] at ha
     rcases Z6.mp ha with z|z
     ·exact .inl (by rw [z];exact Z0)
     ·exact(mem2 a z).elim (fun z=> .inr (n1 a z)) fun z=> .inl (Z1 _ z))
   exact⟨F',st⟩
  rcases hd with ⟨n,hx,rfl⟩|⟨hx,rfl⟩
  ·obtain⟨k1,k2⟩:=yg7 v hx
   have hn':=zx6 hx
   obtain⟨f1,rest,g2,p1,p2,p3⟩:=hr.setV (n:=n) (by rw [<-hr.length,Zh];rw [Zh] at hn';exact hn') ry2
   have mem2:∀a∈g2,a∈fy\/a∈g1:=fun a ha=>(Zq.mp (p3.mem_iff.mp ha)).elim .inl fun z=> .inr (p1.mem_iff.mpr (Z9 _ z))
   have n2:l∉g2:=fun z=>(mem2 l z).elim nl2 nl
   have nd2:g2.Nodup:=p3.nodup_iff.mpr (Zz.mpr ⟨nd1,(Zz.mp (p1.nodup_iff.mp nd3)).2.1,fun a ha b hb e=>by
    subst e
    exact own0 a (Z1 _ (p1.mem_iff.mpr (Z9 _ hb))) (n1 a ha)⟩)
   obtain⟨F',st⟩:=go g2 mem2 nd2 (.obj cK k1 (by rw [k2];exact p2.updL hl rfl n2))
   exact q _ _ F' st
  ·obtain⟨k1,k2⟩:=zx4 v hx
   have mem2:∀a∈g1++fy,a∈fy\/a∈g1:=fun a ha=>(Zq.mp ha).elim .inr .inl
   have n2:l∉g1++fy:=fun z=>(mem2 l z).elim nl2 nl
   have nd2:(g1++fy).Nodup:=Zz.mpr ⟨nd3,nd1,fun a ha b hb e=>by
    subst e
    exact own0 a (Z1 _ ha) (n1 a hb)⟩
   obtain⟨F',st⟩:=go (g1++fy) mem2 nd2 (.obj cK k1 (by rw [k2];exact(Reps.append hr (Reps.one ry2)).updL hl rfl n2))
   exact q _ _ F' st
end
structure Mn(K:tz0)(U:tz9)(C m qual:Str)(st:Stmt)(ps:List Str)(f:Addr)(fd:FuncData):Prop where
 F:Fun K m qual st f fd
 b:kW K fd ps []
 c:Cls K (U C)
 h:Meth K (U C) m f
def zi3(C m:Str)(fo:tz2):tz2:=fun ps=>(fo ps).bind fun d=>match d with
 | .obj true C' ns vs=>if (C'=C/\cI ns m=none) then some (.obj true C' ns vs) else none
 |_=>none
theorem ym5(h:zi3 C m fo ps=some d):∃ns vs,d= .obj true C ns vs/\fo ps=some d/\cI ns m=none:=by
 obtain⟨x,e1,e2⟩:=bind_some h
 cases x with
 | obj o C' ns vs=>cases o with
  |true=>
   have e2':(if (C'=C/\cI ns m=none) then some (D.obj true C' ns vs) else none)=some d:=e2
   obtain⟨⟨hC,hn⟩,e3⟩:=bX e2'
   subst hC;cases e3
   exact⟨ns,vs,rfl,e1,hn⟩
  |false=>cases e2
 |_=>cases e2
theorem pH:∀{fs:List (Str×V)} {m:Str},cI (fs.map (·.1)) m=none->fs.lookup m=none
 |[],_,_=>rfl
 | (g,x)::r,m,h=>by
  rw [Z8,cI] at h
  by_cases z:g=m
  ·have z':(g,x).1=m:=z
   rw [if_pos z'] at h;cases h
  ·have z':¬(g,x).1=m:=z
   rw [if_neg z'] at h
   have ih:=pH (XY.mp h)
   rw [Zy]
   have:(m==g)=false:=by
    rw [Y7];exact fun e=>z e.symm
   rw [this];exact ih
section
variable{X:Cx}{U:tz9}{o e:Expr}{es:List Expr}{C m qual:Str}{st:Stmt}{ps:List Str}{f:Addr}{fd:FuncData}{k np:Nat}{h:tz6}{fo:tz2}{g:tz3}{apos pos p:Pos}{pl:Sem Bool}
theorem xe9(M:Mn X.K U C m qual st ps f fd)(G:FnOk X.prog X.w X.K X.mg X.base CX0 k f fd ps (SpP 1 X.K U h))(hr:Room k X.A)(ho:QV X U o fo)
  (ht:eval (.Call (.Attribute o m apos) [] [] pos) X.env=(do
   let ov<-eval o X.env
   standAt apos.atName
   let (f,first)<-holding [ov] (getMethod ov m pl)
   callWith pos f first (backTo pos (starEach [] X.env)) (backToKw pos (keywordEach [] X.env))):=by rfl):
  QP X U (.Call (.Attribute o m apos) [] [] pos) (aJ h (aC (zi3 C m fo) aE)):=(xc7 ho M.c M.h G hr M.b .nil zA ht).imp fun σ H Q hh_=>by
 obtain⟨ps,d,w,e,q⟩:=hh_
 obtain⟨ds,e1,e2⟩:=bind_some e
 obtain⟨x,k1,k2⟩:=bind_some e1
 obtain⟨ds',k3,k4⟩:=bind_some k2
 cases k4;cases k3
 obtain⟨ns,vs,rfl,k5,k6⟩:=ym5 k1
 refine⟨ps,_,w,k5,fun v H1 fp s1 r1=> ?_⟩
 have r1':=r1
 obtain⟨_,_,_,_,rfl,hl,hn,hs,rfl⟩:=r1.objT_inv
 subst hn
 exact⟨_,_,_,rfl,hl,pH k6,rfl,_,_,d,Reps.one r1',e2,q.after s1⟩
end
def oE:Nat->Bool:=fun i=>decide (i=0)
def tF(fd:List Addr):Nat->List Addr:=fun i=>if i=0 then fd else []
theorem lD(h:a∈tF fd i):i=0/\a∈fd:=by
 unfold tF at h
 by_cases z:i=0
 ·rw [if_pos z] at h;exact⟨z,h⟩
 ·rw [if_neg z] at h;exact absurd h (by simp)
theorem zf3{K:tz0}{U:tz9}{H:Hp}{v:V}{vs:List V}{d:D}{ds:List D}{fd:List Addr}(r:Rep K U H v d fd)(nd:fd.Nodup)(rs:Reps K U H vs ds []):
  RS (fxE K U (ds.length+1) oE) H ((v::vs).map some) ((d::ds).map some) (tF fd):=by
 refine⟨fun i x hx=> ?_,fun i a ha=> ?_,fun i j a h1 h2=> ?_,fun i=> ?_,fun i a _ k z=>z.elim,fun k a z=>z.elim,by simp [rs.length]⟩
 ·cases i with
  |zero=>
   simp at hx;subst hx
   exact⟨v,fd,rfl,r,fun _=>rfl,fun z=>by simp [fxE,oE] at z⟩
  | succ i=>
   rw [Z8,Yr,Zb] at hx
   obtain⟨y,hy,e⟩:=Zo.mp hx
   cases e
   obtain⟨u,f1,k1,k2,k3⟩:=rs.get hy
   have ef:f1=[]:=by
    cases f1 with
    |nil=>rfl
    |cons b l=>exact absurd (k3 b Z0) (by simp)
   subst ef
   exact⟨u,[],by rw [Z8,Yr,Zb,k1];rfl,k2,(fun _=>by simp [tF]),fun _ a ha=>absurd ha (by simp)⟩
 ·obtain⟨e,h⟩:=lD ha
  subst e
  exact⟨by simp [fxE,oE],d,rfl⟩
 ·rw [(lD h1).1,(lD h2).1]
 ·unfold tF;split
  ·exact nd
  ·exact Zi
def zt9:List Arg->Bool
 |[]=>true
 | .im _::as=>zt9 as
 | .io _::_=>false
theorem ArgsAt.reps{K:tz0}{U:tz9}{H:Hp}{σ:St}{ps:PSt}:∀{as:List Arg} {vs:List V} {ds:List D},ArgsAt K U H σ ps as vs ds->zt9 as=true->Reps K U H vs ds []
 |_,_,_,.nil,_=> .nil
 |_,_,_,.io _ _ _,h=>by cases h
 |_,_,_,.im r a,h=> .cons (f:=[]) (g:=[]) r (ArgsAt.reps a h)
def dS(C m:Str)(g:tz7)(ys:List D)(d:D):Option (D×D):=match d with
 | .obj true C' ns vs=>if (C'=C/\cI ns m=none) then(g (.obj true C' ns vs::ys)).bind fun r=>match r.2 with
   |d'::ds=>if ds.length=ys.length then some (r.1,d') else none
   |[]=>none
  else none
 |_=>none
theorem zf4(h:dS C m g ys d=some (r,d')):∃ns vs ds,d= .obj true C ns vs/\cI ns m=none/\g (d::ys)=some (r,d'::ds)/\ds.length=ys.length:=by
 unfold dS at h
 split at h
 ·rename_i C' ns vs
  by_cases hc:C'=C/\cI ns m=none
  ·rw [if_pos hc] at h
   obtain⟨hC,hn⟩:=hc
   subst hC
   obtain⟨⟨r1,ds⟩,e1,e2⟩:=bind_some h
   cases ds with
   |nil=>cases e2
   |cons d1 ds=>
    obtain⟨hl,e3⟩:=bX e2
    cases e3
    exact⟨ns,vs,ds,rfl,hn,e1,hl⟩
  ·rw [if_neg hc] at h;cases h
 ·cases h
section
variable{X:Cx}{U:tz9}{φ:F0}{o e:Expr}{es:List Expr}{C m qual:Str}{st:Stmt}{ps:List Str}{f:Addr}{fd:FuncData}{k np j:Nat}{mk:Nat->Bool}{g:tz7}{pf:PSt->Option (List Ps1)}{as:List Arg}{apos pos p:Pos}{pl:Sem Bool}
theorem xf0{σ:St}{H H1:Hp}{Q:VK}{ps:PSt}{F:Nat->List Addr}{d0 d0' r:D}{pp:List Ps1}{v0 v:V}{ys:List D}{us:List V}(R:RS (φ.fx X.K U) H σ ps F)(s1:SameK H H1)(hb:φ.bor j=false)(e0:ps[j]? =some (some d0))(ev:σ[j]? =some (some v0))
  (em:fO (dS C m g ys) d0 pp=some (r,d0')) (at_:At H1 v0 pp v) (ry:Reps X.K U H1 us ys []) (hnp:np=ys.length+1) (hm:mk=oE)
  (q:∀v H' F' fv,Stp (φ.fx X.K U) σ H F σ H' (ps.set j (some d0')) F'->OwnV F H F' fv->Rep X.K U H' v r fv->Q v H'):SpE np X.K U mk g (v::us) H1 Q E0:=by
 subst hnp hm
 obtain⟨d1,d1',fd,m1,m2,m3,m4,m5⟩:=uH R s1 hb e0 ev em at_
 obtain⟨ns,vs,ds,rfl,hn,eg,hl⟩:=zf4 m2
 refine⟨by rw [Z4,ry.length],_,r,d1'::ds,tF fd,by simp,zf3 m1 m3 ry,eg,fun u H' F' fv s o rv=> ?_⟩
 obtain⟨v2,fp2,k1,k2,k3,_⟩:=s.rs.rep 0 d1' rfl
 have ek:v2=v:=by
  have:(List.map some (v::us))[0]? =some (some v2):=k1
  simp at this;exact this.symm
 subst ek
 have k3':=k3 (by simp [fxE,oE])
 subst k3'
 have old:∀a,((∃i,a∈tF fd i)\/H1 a=none)->a∈fd\/H a=none:=fun a h=>h.elim (fun⟨i,hi⟩=> .inl (lD hi).2) fun z=> .inr (s1.grow a z)
 obtain⟨F2,st2,ow2⟩:=m5 H' (F' 0) fv (fun a o h k hn=>s.fr.keep a o h k fun i hi=>hn (lD hi).2) (fun a h=>s.fr.grow a h) k2
  (Zz.mpr ⟨s.rs.nd 0,o.nd,fun a ha b hb e=>by subst e;exact o.dis 0 a ha hb⟩)
  (fun a ha=>(Zq.mp ha).elim (fun z=>old a (s.nw 0 a z)) fun z=>old a (o.nw a z))
 exact q u H' F2 fv st2 ow2 rv
theorem xf1{σ:St}{H H1:Hp}{ps:PSt}{F:Nat->List Addr}{d0 d0' r:D}{pp:List Ps1}{v0 v:V}{ys:List D}(R:RS (φ.fx X.K U) H σ ps F)(s1:SameK H H1)(e0:ps[j]? =some (some d0))(ev:σ[j]? =some (some v0))
  (em:fO (dS C m g ys) d0 pp=some (r,d0')) (at_:At H1 v0 pp v):∃a dx fs,v= .ref a/\H1 a=some (.ins (U C) dx fs)/\fs.lookup m=none:=by
 obtain⟨dd,dn,gp,hh⟩:=nA em
 obtain⟨ns,vs,ds,rfl,hn,_⟩:=zf4 hh
 obtain⟨fd,rd⟩:=zl0 R.ws s1 e0 ev gp at_
 obtain⟨_,_,_,_,rfl,hl,hk,hs,rfl⟩:=rd.objT_inv
 subst hk;exact⟨_,_,_,rfl,hl,pH hn⟩
theorem kL(M:Mn X.K U C m qual st ps f fd)(G:FnOk X.prog X.w X.K X.mg X.base CX0 k f fd ps (SpE np X.K U mk g))(hr:Room k X.A)(hb:φ.bor j=false)(ho:PE X o (oB X.K U j pf))(ha:PA X (e::es) (tIO X.K U as))(has:zt9 as=true)(hnp:np=as.length+1)(hm:mk=oE)
  (hst:StE e es X:=by rfl) (hpl:BkE pos es X:=by rfl)
  (ht:eval (.Call (.Attribute o m apos) (e::es) [] pos) X.env=(do
   let ov<-eval o X.env
   standAt apos.atName
   let (f,first)<-holding [ov] (getMethod ov m pl)
   callWith pos f first (backTo pos (starEach (e::es) X.env)) (backToKw pos (keywordEach [] X.env))):=by rfl):
  QE X U φ (.Call (.Attribute o m apos) (e::es) [] pos) (dH j pf (cA as) (dS C m g)):=(xn1 ho M.c M.h G hr M.b .nil zA ha hst hpl ht).imp fun σ H Q hh_=>by
 obtain⟨ps,F,d,ps',R,e,q⟩:=hh_
 obtain⟨d0,pp,ys,d0',e0,ep,eg,em,rfl⟩:=xN e
 obtain⟨dd,dn,gp,hh⟩:=nA em
 refine⟨ps,pp,d0,dd,R.ws,e0,ep,gp,fun v H1 v0 s1 ev a1=> ?_⟩
 obtain⟨a,dx,fs,rfl,hl,hn⟩:=xf1 R s1 e0 ev em a1
 refine⟨a,dx,fs,rfl,hl,hn,ps,ys,R.ws.same s1,eg,fun us H2 s2 a2=> ?_⟩
 show SpE np X.K U mk g (_::(us++[])) H2 Q E0
 rw [Zl]
 exact xf0 R (s1.trans s2) hb e0 ev em (a1.same s2) (a2.reps has) (by rw [hnp,a2.len.2]) hm q
end
structure Kn(K:tz0)(mg:tzA)(U:tz9)(C qual:Str)(st:Stmt)(ps:List Str)(f:Addr)(fd:FuncData):Prop where
 F:Fun K "__init__" qual st f fd
 b:kW K fd ps []
 M:Mk K (U C) f
 m:mg C=some (.ref (U C))
def eP(C:Str)(ga:tz3)(g:tz7):tz2:=fun ps=>(ga ps).bind fun ys=>(g (.obj true C [] []::ys)).bind fun r=>match r with
 |(.non,d'::_)=>some d'
 |_=>none
theorem ym6(h:eP C ga g ps=some d):∃ys ds,ga ps=some ys/\g (.obj true C [] []::ys)=some (.non,d::ds):=by
 obtain⟨ys,e1,e2⟩:=bind_some h
 obtain⟨⟨r,ds⟩,e3,e4⟩:=bind_some e2
 cases r with
 |non=>cases ds with
  |nil=>cases e4
  |cons d1 ds=>cases e4;exact⟨ys,ds,e1,e3⟩
 |_=>cases e4
section
variable{X:Cx}{U:tz9}{e:Expr}{es:List Expr}{C qual:Str}{st:Stmt}{ps:List Str}{f:Addr}{fd:FuncData}{k np:Nat}{mk:Nat->Bool}{g:tz7}{as:List Arg}{pos p:Pos}
theorem xp3{H H1:Hp}{Q:VK}{d:D}{ys ds:List D}{us:List V}{x dx:Addr}(s1:SameK H H1)(hx:H1 x=none)(hdx:H1 dx=none)(hne:dx≠x)(ry:Reps X.K U H1 us ys [])(hnp:np=ys.length+1)(hm:mk=oE)(eg:g (.obj true C [] []::ys)=some (.non,d::ds))(q:kQ X.K U H d Q):
  SpE np X.K U mk g (.ref x::us) (upd (upd H1 dx (.own x)) x (.ins (U C) dx [])) (fun v H2=>v= .non/\Q (.ref x) H2) E0:=by
 subst hnp hm
 have ne:∀a o,H1 a=some o->a≠x/\a≠dx:=fun a o h=>⟨fun z=>(by rw [z,hx] at h;cases h),fun z=>(by rw [z,hdx] at h;cases h)⟩
 have up:∀a o,H1 a=some o->upd (upd H1 dx (.own x)) x (.ins (U C) dx []) a=some o:=fun a o h=>by rw [aX (ne a o h).1,aX (ne a o h).2];exact h
 have gr:∀a,upd (upd H1 dx (.own x)) x (.ins (U C) dx []) a=none->H1 a=none:=fun a h=>by
  by_cases z:a=x
  ·rw [z];exact hx
  ·rw [aX z] at h
   by_cases z2:a=dx
   ·rw [z2];exact hdx
   ·rwa [aX z2] at h
 have s2:SameK H1 (upd (upd H1 dx (.own x)) x (.ins (U C) dx [])):=⟨fun a o h _=>up a o h,gr⟩
 have r0:Rep X.K U (upd (upd H1 dx (.own x)) x (.ins (U C) dx [])) (.ref x) (.obj true C [] []) [x]:= .obj (fs:=[]) cK rfl .nil
 have ry2:Reps X.K U (upd (upd H1 dx (.own x)) x (.ins (U C) dx [])) us ys []:=ry.move (fun a o h _=>up a o h) fun a ha=>absurd ha (by simp)
 refine⟨by rw [Z4,ry.length],_,.non,d::ds,tF [x],by simp,zf3 r0 (by simp) ry2,eg,fun u H' F' fv s o rv=>⟨by cases rv;rfl,?_⟩⟩
 obtain⟨v2,fp2,k1,k2,k3,_⟩:=s.rs.rep 0 d rfl
 have ek:v2= .ref x:=by
  have:(List.map some (V.ref x::us))[0]? =some (some v2):=k1
  simp at this;exact this.symm
 subst ek
 have k3':=k3 (by simp [fxE,oE])
 subst k3'
 refine q (.ref x) H' (F' 0) ⟨fun a o h hk=> ?_,fun a h=>s1.grow a (gr a (s.fr.grow a h))⟩ (fun a ha=> ?_) (s.rs.nd 0) k2
 ·have h1:=s1.keep a o h hk
  refine s.fr.keep a o (up a o h1) hk fun i hi=> ?_
  have:=(lD hi).2
  simp at this
  exact(ne a o h1).1 this
 ·rcases s.nw 0 a ha with ⟨i,hi⟩|z
  ·have:=(lD hi).2
   simp at this
   subst this
   exact s1.grow a hx
  ·exact s1.grow a (gr a z)
theorem mC(Kd:Kn X.K X.mg U C qual st ps f fd)(G:FnOk X.prog X.w X.K X.mg X.base CX0 k f fd ps (SpE np X.K U mk g))(hr:Room (k+1) X.A)(hg:Gl X C)(ha:PA X (e::es) (tIO X.K U as))(has:zt9 as=true)(hnp:np=as.length+1)(hm:mk=oE)
  (hdb:NDb C:=by decide) (he:StE e es X:=by rfl) (hpl:BkE pos es X:=by rfl):
  QP X U (.Call (.Name C p) (e::es) [] pos) (eP C (cA as) g):=(xn2 Kd.M G hr hg Kd.m Kd.b .nil zA ha hdb he hpl).imp fun σ H Q hh_=>by
 obtain⟨ps,d,w,e,q⟩:=hh_
 obtain⟨ys,ds,e1,e2⟩:=ym6 e
 refine⟨ps,ys,w,e1,fun us H1 s1 a1 x dx hx hdx hne=> ?_⟩
 show SpE np X.K U mk g (_::(us++[])) _ _ E0
 rw [Zl]
 exact xp3 s1 hx hdx hne (a1.reps has) (by rw [hnp,a1.len.2]) hm e2 q
end
section
variable{X:Cx}{U:tz9}
theorem yv6:MtR X "str.startswith" (fun x xs H Q=>∃z y,x= .str z/\xs=[.str y]/\Q (.bl (Txt.startswith z y)) H):=⟨by
 intro pins s σ H x xs v us Q I rx r h
 obtain⟨z,y,rfl,rfl,q⟩:=h
 obtain⟨t,rfl⟩:=rx
 obtain⟨u,rfl,t',rfl⟩:=qS r
 exact SC.startswith ⟨.bl _,H,I.tok _,rfl,q⟩⟩
def pJ:D->tz6
 | .str z,[.str y]=>some (.bl (Txt.startswith z y))
 |_,_=>none
theorem zx7:MtR X "str.startswith" (PMt X.K U pJ):=⟨by
 rintro pins s σ H x vs v us Q I rx r ⟨dx,ds,fx,fp,d,r1,rs,e,q⟩
 unfold pJ at e
 split at e
 ·cases e
  obtain⟨w,rfl,r2⟩:=rs.one_inv
  exact yv6 pins s σ H x _ v us Q I rx r ⟨_,_,r1.is_str,by rw [r2.is_str],q.now (.bl _)⟩
 ·cases e⟩
end
theorem dD(n:Nat):bD (true::List.replicate n false)=oE:=by
 funext i
 unfold bD oE
 cases i with
 |zero=>rfl
 |succ i=>
  rw [Yr,Yq]
  split<;>simp
def kap:List (Str×Addr)->tz9
 |[],_=>mainGlobals
 |(x,a)::r,y=>if x=y then a else kap r y
section
variable{X:Cx}{pins:tzB}{σ:St}{H:Hp}{s:Shared}{a C dx:Addr}{fs:List (Str×V)}
theorem Inv.freeze(I:Inv X pins σ H s)(h:H a=some (.ins C dx fs)):Inv X pins σ (upd H a (.frz (PySem.W.instObj C dx) (.ins C dx fs))) s:=by
 have ne:∀b,H b=none->b≠a:=fun b hb z=>by rw [z,h] at hb;cases hb
 have nt:∀b o,H b=some o->(∀C' dx' fs',o≠ .ins C' dx' fs')->b≠a:=fun b o hb ho z=>by
  rw [z,h] at hb
  cases hb
  exact ho _ _ _ rfl
 refine⟨I.ok,I.os,I.bare,⟨I.base.keep,I.base.slot,fun b o h1 h2 h3=> ?_,I.base.there,fun b xs h1=> ?_,fun b o u h1=> ?_,fun b ps h1=> ?_⟩,I.loc,I.cell,?_,fun x c e=> ?_,fun p hp=> ?_,fun b o e=> ?_,I.len⟩
 ·have:=I.base.free b o h1 h2 h3
  rw [aX (ne b this)];exact this
 ·have:=I.base.tups b xs h1
  rw [aX (nt b _ this fun _ _ _ z=>by cases z)];exact this
 ·have:=I.base.frzs b o u h1
  rw [aX (nt b _ this fun _ _ _ z=>by cases z)];exact this
 ·obtain⟨more,this⟩:=I.base.tbls b ps h1
  exact⟨more,by rw [aX (nt b _ this fun _ _ _ z=>by cases z)];exact this⟩
 ·rw [aX (ne _ I.free)];exact I.free
 ·have:=I.freeC x c e
  rw [aX (ne _ this)];exact this
 ·obtain⟨p1,p2,p3⟩:=I.pin p hp
  exact⟨p1,by rw [aX (ne _ p2)];exact p2,p3⟩
 ·have st:∀{b o},dO X.prog X.w H s.heap b o->dO X.prog X.w (upd H a (.frz (PySem.W.instObj C dx) (.ins C dx fs))) s.heap b o:=fun x=>
   x.stay (fun _ _ _ q=>q) (fun b' hb=>by rw [aX (nt b' _ hb fun _ _ _ z=>by cases z)];exact hb) fun b' xs hb=>by rw [aX (nt b' _ hb fun _ _ _ z=>by cases z)];exact hb
  by_cases z:b=a
  ·subst z
   rw [cK] at e
   cases e
   have x:=I.hok b _ h
   obtain⟨_,_,_,ob,_⟩:=(show dO X.prog X.w H s.heap b (.ins C dx fs) from x)
   exact⟨ob,st x⟩
  ·rw [aX z] at e
   exact st (I.hok b o e)
end
theorem PE.frz(h:PE X e t):PE X e (fun σ H Q=>t σ H fun x H'=>∃a C dx fs,x= .ref a/\H' a=some (.ins C dx fs)/\Q x (upd H' a (.frz (PySem.W.instObj C dx) (.ins C dx fs)))):=⟨by
 intro pins s σ H Q I q
 exact thn (h pins s σ H _ I q) fun v s1 ⟨x,H1,I1,rx,a,C,dx,fs,ex,ea,q1⟩=>⟨x,_,I1.freeze ea,rx,q1⟩⟩
def mO(f:tz2):tz2:=fun ps=>(f ps).bind fun d=>match d with
 | .obj true C ns vs=>if D.imms vs=true then some (.obj false C ns vs) else none
 |_=>none
theorem zf5(h:QP X U e f):QP X U e (mO f):=
 (PE.frz h).imp fun σ H Q hh_=>by
  obtain⟨ps,d,w,e,q⟩:=hh_
  obtain⟨d0,e1,e2⟩:=bind_some e
  refine⟨ps,d0,w,e1,fun v H1 fv s1 n1 nd1 r1=> ?_⟩
  cases d0 with
  | obj o C ns vs=>cases o with
   | true=>
    have e2':(if D.imms vs=true then some (D.obj false C ns vs) else none)=some d:=e2
    obtain⟨hi,e3⟩:=bX e2'
    cases e3
    obtain⟨l,dx,fs,g,rfl,hl,hn,hs,rfl⟩:=r1.objT_inv
    have eg:=hs.imm hi
    subst eg
    have hln:=n1 l Z0
    have up:∀b o,H b=some o->b≠l:=fun b o hb z=>by rw [z,hln] at hb;cases hb
    refine⟨l,U C,dx,fs,rfl,hl,q (.ref l) _ [] ⟨fun b o hb hk=> ?_,fun b hb=> ?_⟩ (fun _ h=>absurd h (by simp)) Zi (.objF cK hn (hs.move (fun b o hb ht=> ?_) fun _ h=>absurd h (by simp)))⟩
    ·rw [aX (up b o hb)];exact s1.keep b o hb hk
    ·by_cases z:b=l
     ·rw [z,cK] at hb;cases hb
     ·rw [aX z] at hb;exact s1.grow b hb
    ·by_cases z:b=l
     ·rw [z,hl] at hb;cases hb;cases ht
     ·rw [aX z];exact hb
   |false=>cases e2
  |_=>cases e2
section
variable{X:Cx}{U:tz9}
theorem xf2:MtR X "str.rfind" (fun x xs H Q=>∃z y,x= .str z/\xs=[.str y]/\Q (.int (Txt.rfind z y)) H):=⟨by
 intro pins s σ H x xs v us Q I rx r h
 obtain⟨z,y,rfl,rfl,q⟩:=h
 obtain⟨t,rfl⟩:=rx
 obtain⟨u,rfl,t',rfl⟩:=qS r
 exact SC.rfind ⟨.int _,H,I.tok _,⟨_,rfl⟩,q⟩⟩
def yL:D->tz6
 | .str z,[.str y]=>some (.int (Txt.rfind z y))
 |_,_=>none
theorem xp4:MtR X "str.rfind" (PMt X.K U yL):=⟨by
 rintro pins s σ H x vs v us Q I rx r ⟨dx,ds,fx,fp,d,r1,rs,e,q⟩
 unfold yL at e
 split at e
 ·cases e
  obtain⟨w,rfl,r2⟩:=rs.one_inv
  exact xf2 pins s σ H x _ v us Q I rx r ⟨_,_,r1.is_str,by rw [r2.is_str],q.now (.int _)⟩
 ·cases e⟩
end
def wK(f:PSt->Option (Bool×PSt)):PSt->Option (Bool×PSt):=fun ps=>(f ps).bind fun r=>some (!r.1,r.2)
def fTE(f:tz8):PSt->Option (Bool×PSt):=fun ps=>(f ps).bind fun r=>(zn6 r.1).bind fun b=>some (b,r.2)
section
variable{X:Cx}{U:tz9}{φ:F0}{a b:Expr}{pos:Pos}
theorem yg8(h:QTE X U φ a f):QTE X U φ (.UnaryOp .Not a pos) (wK f):=(yr3 h).imp fun σ H Q hh_=>by
 obtain⟨ps,F,c,ps',R,e,q⟩:=hh_
 obtain⟨⟨c1,p1⟩,e1,e2⟩:=bind_some e
 cases e2
 exact⟨ps,F,c1,p1,R,e1,fun H' F' s=>q H' F' s⟩
theorem yg9(h:QE X U φ a f)(he:∀whole,isTrue a X.env whole=(do let v<-whole;standAt a.pos;holding [v] (truthy v)):=by intro _;rfl):QTE X U φ a (fTE f):=(zv5 h he).imp fun σ H Q hh_=>by
 obtain⟨ps,F,c,ps',R,e,q⟩:=hh_
 obtain⟨⟨d,p1⟩,e1,e2⟩:=bind_some e
 obtain⟨c1,e3,e4⟩:=bind_some e2
 cases e4
 exact⟨ps,F,d,p1,R,e1,fun v H' F' fv s o r=>⟨_,yg0 r e3,q H' F' s⟩⟩
end
def xj4:D->Option (List D)
 | .tup ds=>some ds
 |_=>none
theorem yv7(h:xj4 d=some ys):d= .tup ys:=by
 unfold xj4 at h
 split at h
 ·cases h;rfl
 ·cases h
def mT(is:List Nat)(f:tz1):List D->tz1
 |[],ps=>some (.nx,ps)
 | d::ds,ps=>(xj4 d).bind fun ys=>if ys.length=is.length then(f (uA ps is ys)).bind fun q=>match q with
   |(.nx,p)=>mT is f ds p
   |(.ct,p)=>mT is f ds p
   |(.bk,p)=>some (.nx,p)
   |(.ret d,p)=>some (.ret d,p)
  else none
def zu0(is:List Nat)(fi:tz3)(f:tz1):tz1:=fun ps=>(fi ps).bind fun ds=>mT is f ds ps
def zu1:D->Option (List D)
 | .lst true xs=>if D.imms xs=true then some xs else none
 |_=>none
theorem zf6(h:zu1 d=some xs):d= .lst true xs/\D.imms xs=true:=by
 unfold zu1 at h
 split at h
 ·obtain⟨h1,h2⟩:=bX h
  cases h2
  exact⟨rfl,h1⟩
 ·cases h
section
variable{X:Cx}{pins:tzB}{σ:St}{H:Hp}{s:Shared}{a:Addr}{xs:List V}
theorem ye2(I:Inv X pins σ H s)(h:H a=some (.lst xs)):∃ob,Inv X pins σ (upd H a (.frz ob (.lst xs))) s:=by
 have ne:∀b,H b=none->b≠a:=fun b hb z=>by rw [z,h] at hb;cases hb
 have nt:∀b o,H b=some o->(∀ys,o≠ .lst ys)->b≠a:=fun b o hb ho z=>by
  rw [z,h] at hb
  cases hb
  exact ho _ rfl
 obtain⟨z0,its,n,r,e0⟩:=I.hok a _ h
 generalize ({cls:= .type "list",data:= .seq its.toArray n}:Obj)=ob at e0
 refine⟨ob,I.ok,I.os,I.bare,⟨I.base.keep,I.base.slot,fun b o h1 h2 h3=> ?_,I.base.there,fun b xs h1=> ?_,fun b o u h1=> ?_,fun b ps h1=> ?_⟩,I.loc,I.cell,?_,fun x c e=> ?_,fun p hp=> ?_,fun b o e=> ?_,I.len⟩
 ·have:=I.base.free b o h1 h2 h3
  rw [aX (ne b this)];exact this
 ·have:=I.base.tups b xs h1
  rw [aX (nt b _ this fun _ z=>by cases z)];exact this
 ·have:=I.base.frzs b o u h1
  rw [aX (nt b _ this fun _ z=>by cases z)];exact this
 ·obtain⟨more,this⟩:=I.base.tbls b ps h1
  exact⟨more,by rw [aX (nt b _ this fun _ z=>by cases z)];exact this⟩
 ·rw [aX (ne _ I.free)];exact I.free
 ·have:=I.freeC x c e
  rw [aX (ne _ this)];exact this
 ·obtain⟨p1,p2,p3⟩:=I.pin p hp
  exact⟨p1,by rw [aX (ne _ p2)];exact p2,p3⟩
 ·have st:∀{b o},dO X.prog X.w H s.heap b o->dO X.prog X.w (upd H a (.frz ob (.lst xs))) s.heap b o:=fun x=>
   x.stay (fun _ _ _ q=>q) (fun b' hb=>by rw [aX (nt b' _ hb fun _ z=>by cases z)];exact hb) fun b' xs hb=>by rw [aX (nt b' _ hb fun _ z=>by cases z)];exact hb
  by_cases z:b=a
  ·subst z
   rw [cK] at e
   cases e
   exact⟨e0,st (I.hok b _ h)⟩
  ·rw [aX z] at e
   exact st (I.hok b o e)
end
theorem xp5(h:PE X e t):PE X e (fun σ H Q=>t σ H fun x H'=>∃a xs,x= .ref a/\H' a=some (.lst xs)/\∀ob,Q x (upd H' a (.frz ob (.lst xs)))):=⟨by
 intro pins s σ H Q I q
 refine thn (h pins s σ H _ I q) fun v s1 ⟨x,H1,I1,rx,a,xs,ex,ea,q1⟩=> ?_
 obtain⟨ob,I2⟩:=ye2 I1 ea
 exact⟨x,_,I2,rx,q1 ob⟩⟩
def DkT{α:Type}:Sem α->Prop
 | .pure _=>True
 | .raise _=>True
 | .unsupported _=>True
 | .rule _ k=>∀x,DkT (k x)
 | .at _ k=>∀x,DkT (k x)
 | .load _ _ k=>∀x,DkT (k x)
 | .update _ _ f k=>(∀o:Obj,(f o).dict=o.dict)/\∀x,DkT (k x)
 | .alloc _ k=>∀x,DkT (k x)
 | .stack k=>∀x,DkT (k x)
 |_=>False
theorem DkT.bind{α β:Type}{f:α->Sem β}(hf:∀a,DkT (f a)):∀{m:Sem α},DkT m->DkT (m>>=f):=by
 intro m
 show DkT m->DkT (m.bind f)
 induction m with
 |pure a=>exact fun _=>hf a
 |raise=>exact fun _=>trivial
 |unsupported=>exact fun _=>trivial
 |rule _ k ih=>exact fun h x=>ih x (h x)
 |«at» _ k ih=>exact fun h x=>ih x (h x)
 |load _ _ k ih=>exact fun h x=>ih x (h x)
 |update _ _ f k ih=>exact fun h=>⟨h.1,fun x=>ih x (h.2 x)⟩
 |alloc _ k ih=>exact fun h x=>ih x (h x)
 |stack k ih=>exact fun h x=>ih x (h x)
 |_=>exact fun h=>h.elim
def KDs(h h':Heap):Prop:=∀(b:Nat) (o:Obj),h.objs[b]? =some o->∃o':Obj,h'.objs[b]? =some o'/\o'.dict=o.dict
theorem KDs.refl(h:Heap):KDs h h:=fun b o e=>⟨o,e,rfl⟩
theorem KDs.trans(x:KDs a b)(y:KDs b c):KDs a c:=fun i o e=>by
 obtain⟨o1,e1,q1⟩:=x i o e
 obtain⟨o2,e2,q2⟩:=y i o1 e1
 exact⟨o2,e2,q2.trans q1⟩
theorem ym7(d:∀o:Obj,(f o).dict=o.dict)(h:Heap):KDs h (h.update a f):=fun b o e=>by
 obtain⟨os,l⟩:=h
 show ∃o':Obj,(os.modify a f)[b]? =some o'/\o'.dict=o.dict
 have e':os[b]? =some o:=e
 rw [Array.getElem?_modify,e']
 split
 ·exact⟨_,rfl,d o⟩
 ·exact⟨o,rfl,rfl⟩
theorem xf3(h:Heap)(x:Obj):KDs h (h.push x):=fun b o e=>by
 obtain⟨os,l⟩:=h
 have e':os[b]? =some o:=e
 refine⟨o,?_,rfl⟩
 show(os.push x)[b]? =some o
 have hl:=(Array.getElem?_eq_some_iff.mp e').1
 rw [Array.getElem?_push,if_neg (ZE hl)];exact e'
theorem wc7:∀(t:Sem α),DkT t->∀{Q:α->Pos->Shared->Prop} (p:Pos) (s:Shared),Sem.wp M Γ t Q E p s->Sem.wp M Γ t (fun a p s'=>Q a p s'/\KDs s.heap s'.heap) E p s:=by
 intro t
 have up:∀{t:Sem α} {Q:α->Pos->Shared->Prop} {p:Pos} {s:Shared} {h:Heap},KDs h s.heap->Sem.wp M Γ t (fun a p s'=>Q a p s'/\KDs s.heap s'.heap) E p s->Sem.wp M Γ t (fun a p s'=>Q a p s'/\KDs h s'.heap) E p s:=fun k x=>Sem.wp_mono M Γ _ (fun _ _ _ z=>⟨z.1,k.trans z.2⟩) (fun _ _ _ z=>z) _ _ x
 induction t with
 |pure a=>exact fun _ Q p s h=>⟨h,.refl _⟩
 |raise e=>exact fun _ Q p s h=>h
 |unsupported=>exact fun _ Q p s h=>h
 |rule _ k ih=>exact fun d Q p s h=>ih () (d ()) p s h
 |«at» p' k ih=>exact fun d Q p s h=>ih () (d ()) p' s h
 |load a _ k ih=>exact fun d Q p s h=>by obtain⟨o,e,h⟩:=h;exact⟨o,e,ih o (d o) p s h⟩
 |update a _ f k ih=>exact fun d Q p s h=>⟨h.1,up (ym7 d.1 _) (ih () (d.2 ()) p _ h.2)⟩
 |alloc o k ih=>exact fun d Q p s h=>up (t:=k s.heap.objs.size) (s:={s with heap:=s.heap.push o}) (xf3 _ o) (ih _ (d _) p _ h)
 |stack k ih=>exact fun d Q p s h=>ih _ (d _) p s h
 |_=>exact fun d=>d.elim
theorem zx8(d:DkT t)(h:wpAny M A t Q E s):wpAny M A t (fun a s'=>Q a s'/\KDs s.heap s'.heap) E s:=
 fun Γ p hΓ=>wc7 t d p s (h Γ p hΓ)
theorem zl4(o:Obj)(f:Array Value->Array Value):(Obj.mapFields f o).dict=o.dict:=by
 unfold Obj.mapFields
 split<;>rfl
theorem zl5:DkT (load a):=fun _=>trivial
theorem vI{v:Value}{i:Nat}:DkT (field v i):=by
 unfold field fieldsOf
 refine DkT.bind (fun _=>by split<;>trivial) ?_
 split
 ·exact DkT.bind (fun _=>by split<;>trivial) zl5
 ·trivial
theorem zx9{v x:Value}{i:Nat}:DkT (setField v i x):=by
 unfold setField updateField
 split
 ·refine DkT.bind (fun _=> ?_) zl5
  split
  ·split
   ·exact⟨fun o=>zl4 o _,fun _=>trivial⟩
   ·trivial
  ·trivial
 ·trivial
theorem yv8{e:Value}{f:Option Addr}:DkT (setFlight e f):=by
 unfold setFlight
 refine DkT.bind (fun _=> ?_) vI
 split
 ·exact zx9
 ·trivial
theorem zy0:∀l:List Env,DkT (readyFrames l)
 |[]=>trivial
 | env::outer=>by
  unfold readyFrames
  split
  ·refine DkT.bind (fun _=> ?_) zl5
   split
   ·trivial
   ·refine DkT.bind (fun _=>DkT.bind (fun _=>DkT.bind (fun _=>zy0 outer) (by exact⟨fun _=>rfl,fun _=>True.intro⟩)) ?_) ?_
    ·unfold keptBack
     split
     ·split
      ·trivial
      ·exact DkT.bind (fun _=>by exact True.intro) (DkT.bind (fun _=>by exact True.intro) (by exact fun _=>True.intro))
     ·trivial
    ·unfold behindIsImport
     split
     ·trivial
     ·split
      ·trivial
      ·exact DkT.bind (fun _=>by exact True.intro) vI
  ·trivial
theorem xp6{e:Value}{env:Env}:DkT (noteFrame e env):=by
 unfold noteFrame
 split
 ·refine DkT.bind (fun hd=> ?_) vI
  have nw:∀{f:Addr} {b:Bool},DkT (do setField e 1 (<-EntryCells.newEntry hd (<-PySem.frameOf env) .none (rawInt f) .none (<-entryPlaceOf f b))):=fun {f b}=>by
   refine DkT.bind (fun _=>DkT.bind (fun _=>DkT.bind (fun _=>zx9) ?_) ?_) ?_
   ·unfold EntryCells.newEntry newFields newObj newObjAsIs
    dsimp only
    split<;>split<;>first|exact True.intro|exact fun _=>True.intro
   ·unfold entryPlaceOf
    refine DkT.bind (fun _=> ?_) (by exact fun _=>True.intro)
    split<;>trivial
   ·unfold PySem.frameOf
    refine DkT.bind (fun _=>DkT.bind (fun _=>by split<;>trivial) ?_) (DkT.bind (fun _=>by exact True.intro) (by exact fun _=>True.intro))
    unfold frameObject
    split
    ·trivial
    ·exact DkT.bind (fun _=>by exact True.intro) (zy0 _)
  split
  ·refine DkT.bind (fun _=> ?_) vI
   split
   ·exact True.intro
   ·exact DkT.bind (fun _=>nw) zx9
  ·exact nw
 ·trivial
theorem zy1{e:Value}{env:Env}:DkT (leaving env e):=DkT.bind (fun _=>yv8) xp6
def KD(e:Addr)(dd:Option Addr)(h:Heap):Prop:=∃o,h.get? e=some o/\o.dict=dd
theorem zy2{h:Heap}{e:Addr}{o:Obj}(q:h.get? e=some o):h.objs[e]? =some o:=by
 unfold Heap.get? at q
 split at q
 ·cases q
 ·exact q
theorem KD.step{e:Addr}{dd:Option Addr}{h h':Heap}(k:KD e dd h)(s:KDs h h')(t:∃o,h'.get? e=some o):KD e dd h':=by
 obtain⟨o,q1,q2⟩:=k
 obtain⟨o',q3⟩:=t
 obtain⟨o2,q4,q5⟩:=s e o (zy2 q1)
 rw [zy2 q3] at q4
 cases q4
 exact⟨o',q3,q5.trans q2⟩
section
variable{M:Model}{A:Around}{E:Value->Shared->Prop}{s:Shared}{base:Heap}{env:Env}{outer:List Env}{L e:Addr}{oe:Obj}{vs:Array Value}{dd:Option Addr}{cls a0:Value}
theorem ym8(fr:A.frames=some (env::outer))(hf:env.frame=some L)(fl:Heap.FlyingW base (env::outer) e cls a0 s.heap)(kd:KD e dd s.heap)(q:∀h',Heap.FlyingW base outer e cls a0 h'->s.heap.UpToSlots h'->KD e dd h'->Q () {s with heap:=h'}):wpAny M A (leaving env (.ref e)) Q E s:=
 ZP (zx8 zy1 (wpAny_leaves_onW (Q:=fun _ s'=>∃h',s'={s with heap:=h'}/\Heap.FlyingW base outer e cls a0 h'/\s.heap.UpToSlots h') fr hf fl fun h' x y=>⟨h',rfl,x,y⟩)) (fun _ _ h=>by
  obtain⟨⟨h',rfl,x,y⟩,z⟩:=h
  exact q h' x y (kd.step z (x.there.imp fun _ w=>w.1))) fun _ _ h=>h
theorem yv9(fr:A.frames=some (env::outer))(ff:s.heap.FunFrames base (env::outer))(hf:env.frame=some L)(he:s.heap.get? e=some oe)(kb:base.StaysIn s.heap)(en:base.get? e=none)(hd:oe.data= .fields vs)(h1:vs[1]? =some .none)(h0:vs[0]? =some a0)(kd:oe.dict=dd)
  (q:∀h',Heap.LeftW base (env::outer) e oe.cls a0 s.heap h'->KD e dd h'->Q () {s with heap:=h'}):wpAny M A (leaving env (.ref e)) Q E s:=
 ZP (zx8 zy1 (wpAny_leaving_firstW (Q:=fun _ s'=>∃h',s'={s with heap:=h'}/\Heap.LeftW base (env::outer) e oe.cls a0 s.heap h') fr ff hf he kb en hd h1 h0 fun h' x=>⟨h',rfl,x⟩)) (fun _ _ h=>by
  obtain⟨⟨h',rfl,x⟩,z⟩:=h
  exact q h' x (KD.step ⟨oe,he,kd⟩ z (x.2.2.1.at.there.imp fun _ w=>w.1))) fun _ _ h=>h
end
theorem dO.get(x:dO P w H h a o):∃u,h.get? a=some u:=by
 cases o with
 |lst xs=>obtain⟨_,_,_,_,e⟩:=x;exact⟨_,e⟩
 |tup xs=>obtain⟨_,_,_,_,e,_⟩:=x;exact⟨_,e⟩
 |dK kvs=>obtain⟨_,_,_,_,o,_,_,e,_⟩:=x;exact⟨_,e⟩
 |dT kvs=>obtain⟨_,_,_,_,o,_,_,e,_⟩:=x;exact⟨_,e⟩
 |set S n=>obtain⟨o,_,_,_,e,_⟩:=x;exact⟨_,e⟩
 |ins C dx fs=>obtain⟨_,_,_,e,_⟩:=x;exact⟨_,e⟩
 |own y=>exact x
 |xd fs=>obtain⟨_,⟨_,_,_,e,_⟩,_⟩:=x;exact⟨_,e⟩
 |rng lo hi=>obtain⟨_,_,_,e⟩:=x;exact⟨_,e⟩
 |frz ob u=>obtain⟨e,_⟩:=x;exact⟨_,e⟩
 |tbl ps=>exact⟨_,(show h.get? a=some _ from x)⟩
 |met f y=>exact⟨_,(show h.get? a=some _ from x)⟩
 |ext φ=>obtain⟨_,e,_⟩:=x;exact e
theorem HOk.none_of(x:HOk P w H h){a:Addr}(e:h.get? a=none):H a=none:=by
 cases q:H a with
 |none=>rfl
 |some o=>obtain⟨u,z⟩:=(x a o q).get;rw [e] at z;cases z
theorem HOk.but(x:HOk P w H h)(k:∀b o u,H b=some o->h.get? b=some u->h'.get? b=some u):HOk P w H h':=fun a o e=>
 (x a o e).stay (fun b u hb q=>by
  rcases hb with rfl|hb
  ·exact k _ _ _ e q
  ·exact k _ _ _ hb q) (fun _ q=>q) fun _ _ q=>q
theorem zp8(e:(PySem.W.hideAll h as).get? b=none):b∈as\/h.get? b=none:=by
 cases q:h.get? b with
 |none=>exact .inr rfl
 |some o=>
  by_cases m:b∈as
  ·exact .inl m
  ·rw [Y8 as q m] at e;cases e
theorem yh0(h:env∈l)(e:env.frame=some a):a∈frs l:=Xh.mpr ⟨env,h,e⟩
structure Fly(base:Heap)(C:Addr)(l:List Env)(H:Hp)(h0:Heap)(e T:Addr)(a0:Value)(h:Heap):Prop where
 ne:h0.get? e=none
 nT:h0.get? T=none
 He:H e=none
 HT:H T=none
 st:base.StaysIn h
 be:base.get? e=none
 bT:base.get? T=none
 fr:h.FunFrames base l
 tr:∃oe vs oT ts,h.get? e=some oe/\(oe.cls= .ref C/\vs[0]? =some a0)/\oe.data= .fields vs/\vs[1]? =some (.ref T)/\T≠e/\h.get? T=some oT/\oT.data= .fields ts/\ts[3]? =some .none
abbrev xj5(h:Heap)(l:List Env)(e T:Addr):Heap:=PySem.W.hideAll h (e::T::frs l)
section
variable{base h0 h:Heap}{C e T:Addr}{l:List Env}{H:Hp}{a0:Value}
theorem Fly.flying(x:Fly base C l H h0 e T a0 h):Heap.FlyingW (xj5 h l e T) l e (.ref C) a0 h:=by
 obtain⟨oe,vs,oT,ts,h1,h2,h3,h4,h5,h6,h7,h8⟩:=x.tr
 refine⟨fun b o q=>Xg _ q,Yx _ Z0,XZ x.fr fun env m a q=>Z1 _ (Z1 _ (yh0 m q)),?_⟩
 exact⟨oe,vs,T,oT,ts,h1,h2,h3,h4,Yx _ (Z1 _ Z0),h5,h6,h7,h8⟩
theorem Fly.base_in(x:Fly base C l H h0 e T a0 h):base.StaysIn (xj5 h l e T):=fun b o q=>by
 refine Y8 _ (x.st b o q) fun m=> ?_
 rcases Z6.mp m with z|m
 ·rw [z,x.be] at q;cases q
 ·rcases Z6.mp m with z|m
  ·rw [z,x.bT] at q;cases q
  ·rw [(x.fr.mem m).1] at q;cases q
theorem Fly.next(x:Fly base C l H h0 e T a0 h)(ok:HOk P w H h)(th:∀b o,h0.get? b=some o->∃o',h.get? b=some o'){h':Heap}{l':List Env}(ups:h.UpToSlots h')(f:Heap.FlyingW (xj5 h l e T) l' e (.ref C) a0 h'):∃T',Fly base C l' H h0 e T' a0 h':=by
 obtain⟨k1,k2,k3,oe,vs,T',oT,ts,h1,h2,h3,h4,h5,h6,h7,h8,h9⟩:=f
 have hT:T'=T\/h.get? T'=none:=by
  rcases zp8 h5 with m|m
  ·rcases Z6.mp m with z|m
   ·exact absurd z h6
   ·rcases Z6.mp m with z|m
    ·exact .inl z
    ·obtain⟨_,o,q1,q2⟩:=x.fr.mem m
     obtain⟨sl,q3⟩:=ups T' o q1 q2
     rw [h7] at q3;cases q3
     exact absurd h8 (q2 _)
  ·exact .inr m
 refine⟨T',x.ne,?_,x.He,?_,fun b o q=>k1 b o (x.base_in b o q),x.be,?_,W0 x.base_in k3,oe,vs,oT,ts,h1,h2,h3,h4,h6,h7,h8,h9⟩
 ·rcases hT with z|z
  ·rw [z];exact x.nT
  ·cases q:h0.get? T' with
   |none=>rfl
   |some o=>obtain⟨o',q'⟩:=th _ _ q;rw [z] at q';cases q'
 ·rcases hT with z|z
  ·rw [z];exact x.HT
  ·exact ok.none_of z
 ·cases q:base.get? T' with
  |none=>rfl
  |some o=>have:=x.base_in T' o q;rw [h5] at this;cases this
end
theorem zl6(fr:h.FunFrames base l)(ups:h.UpToSlots h')(st:(PySem.W.hideAll h (S++frs l)).StaysIn h'):Un (frs l) S H H h h':=by
 have kp:∀b o,h.get? b=some o->b∉frs l->b∉S->h'.get? b=some o:=fun b o q n1 n2=>st b o (Y8 _ q fun m=>(Zq.mp m).elim n2 n1)
 have sl:∀b o,h.get? b=some o->b∈frs l->∃s,h'.get? b=some {o with slots:=s}:=fun b o q m=>by
  obtain⟨_,o',q1,q2⟩:=fr.mem m
  rw [q] at q1;cases q1
  exact ups b o q q2
 refine⟨fun b o q _ hb hx=>kp b o q hb hx,fun b o q _ hb _=>sl b o q hb,fun _ _ _ n _=>n,fun b o q hx=> ?_,fun _ _ q=>q,fun _ _ _ q=>q,fun _ ps q=>⟨#[],by rw [q];simp⟩⟩
 by_cases hb:b∈frs l
 ·obtain⟨s,e⟩:=sl b o q hb;exact⟨_,e⟩
 ·exact⟨o,kp b o q hb hx⟩
theorem zl7(u:Un fs' ex' H H' h h')(hx:∀b o,h.get? b=some o->b∉ex')(hf:∀b o,h.get? b=some o->b∈fs'->b∈fs):Un fs [] H H' h h':=
 ⟨fun b o q n hb _=>u.keep b o q n (fun z=>hb (hf b o q z)) (hx b o q),fun b o q n _ _=>u.any q n (hx b o q),fun b o q n _=>u.free b o q n (hx b o q),fun b o q _=>u.there b o q (hx b o q),u.tups,u.frzs,u.tbls⟩
theorem zb8(ok:HOk P w H h)(hS:∀b∈S,H b=none)(hF:∀b∈frs l,H b=none)(st:(PySem.W.hideAll h (S++frs l)).StaysIn h'):HOk P w H h':=
 ok.but fun b o u e q=>st b u (Y8 _ q fun m=>by
  rcases Zq.mp m with m|m
  ·rw [hS b m] at e;cases e
  ·rw [hF b m] at e;cases e)
def CXn(P:Program)(w:World)(base:Heap)(C:Addr):CXT:=fun outer H s E e s'=>∃ea T a0 dd H',e= .ref ea/\s'.os=s.os/\AllBare s'.gens/\Un (frs outer) [] H H' s.heap s'.heap/\HOk P w H' s'.heap/\Fly base C outer H' s.heap ea T a0 s'.heap/\KD ea dd s'.heap/\E (.ref C) dd H'
theorem Fly.down(x:Fly base C l H h1 e T a0 h)(th:∀b o,h0.get? b=some o->∃o',h1.get? b=some o'):Fly base C l H h0 e T a0 h:=by
 have none:∀{b:Addr},h1.get? b=none->h0.get? b=none:=fun {b} z=>by
  cases q:h0.get? b with
  |none=>rfl
  |some o=>obtain⟨o',q'⟩:=th _ _ q;rw [z] at q';cases q'
 exact⟨none x.ne,none x.nT,x.He,x.HT,x.st,x.be,x.bT,x.fr,x.tr⟩
section
variable{P:Program}{w:World}{K:tz0}{mg:tzA}{base:Heap}{N:List Str}{qual:Str}{scope:Scope}{f C:Addr}{cd:Value}{A:Around}{outer:List Env}{s:Shared}{H:Hp}{E:XK}
theorem zI:frs (envOfC qual scope s.heap.objs.size f cd::outer)=s.heap.objs.size::frs outer:=rfl
theorem wc8:mR (CXn P w base C) (iH (CXn P w base C) P w K mg base N qual scope f cd A outer s H E) E:=by
 intro pins σ H1 s1 e s2 I h
 obtain⟨ea,T,a0,dd,H2,rfl,os,bare,un,hok,fly,kd,q⟩:=h
 have stk:∀b∈frs (envOfC qual scope s.heap.objs.size f cd::outer),H2 b=none:=fun b m=>by
  obtain⟨_,o,q1,_⟩:=(show s1.heap.FunFrames base (envOfC qual scope s.heap.objs.size f cd::outer) from I.stack).mem m
  exact un.free b o q1 (I.stkFree b m) (by simp)
 have th1:∀b o,s1.heap.get? b=some o->∃o',s2.heap.get? b=some o':=fun b o q=>un.there b o q (by simp)
 have th0:∀b o,s.heap.get? b=some o->∃o',s1.heap.get? b=some o':=fun b o q=>I.base.there b o q (by show b∉([]:List Addr);simp)
 show wpAny (model P w) (A.deeper (envOfC qual scope s.heap.objs.size f cd)) (leaving (envOfC qual scope s.heap.objs.size f cd) (.ref ea)) (fun _ s''=>CXn P w base C outer H s E (.ref ea) s'') (fun e' s''=>CXn P w base C outer H s E e' s'') s2
 refine ym8 (L:=s.heap.objs.size) I.ok.frames rfl fly.flying kd fun h' fl ups kd'=> ?_
 obtain⟨T',fly'⟩:=fly.next hok th1 ups fl
 have st:(PySem.W.hideAll s2.heap ([ea,T]++frs (envOfC qual scope s.heap.objs.size f cd::outer))).StaysIn h':=fl.1
 have u1:Un (frs (envOfC qual scope s.heap.objs.size f cd::outer)) [ea,T] H H1 s.heap s1.heap:=(show Un (frs outer) [] H H1 s.heap s1.heap from I.base).mono (fun b m=>by rw [zI];exact Z1 _ m) (fun b m=>absurd m (by simp))
 have u2:=un.mono (fs':=frs (envOfC qual scope s.heap.objs.size f cd::outer)) (ex':=[ea,T]) (fun b m=>m) (fun b m=>absurd m (by simp))
 have u3:Un (frs (envOfC qual scope s.heap.objs.size f cd::outer)) [ea,T] H2 H2 s2.heap h':=zl6 fly.fr ups st
 refine⟨ea,T',a0,dd,H2,rfl,os.trans (show s1.os=s.os from I.os),bare,zl7 ((u1.trans u2).trans u3) (fun b o q m=> ?_) (fun b o q m=> ?_),zb8 hok (fun b m=> ?_) stk st,fly'.down th0,kd',q⟩
 ·obtain⟨o',q'⟩:=th0 b o q
  rcases Z6.mp m with z|m
  ·rw [z,fly.ne] at q';cases q'
  ·rw [Zc.mp m,fly.nT] at q';cases q'
 ·rw [zI] at m
  rcases Z6.mp m with z|m
  ·exact absurd (Zk q) (by rw [z];exact Y2 _)
  ·exact m
 ·rcases Z6.mp m with z|m
  ·rw [z];exact fly.He
  ·rw [Zc.mp m];exact fly.HT
end
abbrev wb1(C:Addr)(dx:Option Addr)(t:Addr):Obj:={cls:= .ref C,dict:=dx,data:= .fields #[.ref t,.none,.none,.none,.bool false,.none]}
section
variable{P:Program}{w:World}{K:tz0}{mg:tzA}{base:Heap}{N:List Str}{qual:Str}{scope:Scope}{f C:Addr}{cd:Value}{A:Around}{outer:List Env}{s:Shared}{H:Hp}{E:XK}
theorem yw0(I:Inv (iH (CXn P w base C) P w K mg base N qual scope f cd A outer s H E) pins σ H2 s2)(ne:s.heap.get? e=none)(He:H2 e=none)(he:s2.heap.get? e=some (wb1 C dd t))(q:E (.ref C) dd H2):
  (iH (CXn P w base C) P w K mg base N qual scope f cd A outer s H E).xe (.ref e) s2:=by
 have fr1:s2.heap.FunFrames base (envOfC qual scope s.heap.objs.size f cd::outer):=I.stack
 have nf:∀b∈frs (envOfC qual scope s.heap.objs.size f cd::outer),base.get? b=none:=fun b m=>(fr1.mem m).1
 have be:base.get? e=none:=by
  cases z:base.get? e with
  |none=>rfl
  |some o=>have:=(I.ok.bs e o z).1;rw [show(iH (CXn P w base C) P w K mg base N qual scope f cd A outer s H E).s₀.heap.get? e=none from ne] at this;cases this
 have th0:∀b o,s.heap.get? b=some o->∃o',s2.heap.get? b=some o':=fun b o q=>I.base.there b o q (by show b∉([]:List Addr);simp)
 have bin:base.StaysIn (PySem.W.hideAll s2.heap ([e]++frs (envOfC qual scope s.heap.objs.size f cd::outer))):=fun b o q=>by
  refine Y8 _ (I.bk b o q) fun m=> ?_
  rcases Zq.mp m with m|m
  ·rw [Zc.mp m,be] at q;cases q
  ·rw [nf b m] at q;cases q
 show wpAny (model P w) (A.deeper (envOfC qual scope s.heap.objs.size f cd)) (leaving (envOfC qual scope s.heap.objs.size f cd) (.ref e)) (fun _ s''=>CXn P w base C outer H s E (.ref e) s'') (fun e' s''=>CXn P w base C outer H s E e' s'') s2
 refine yv9 (base:=PySem.W.hideAll s2.heap ([e]++frs (envOfC qual scope s.heap.objs.size f cd::outer))) (L:=s.heap.objs.size) (a0:= .ref t) I.ok.frames (XZ fr1 fun env m a q=>Z9 _ (yh0 m q)) rfl he (fun b o q=>Xg _ q) (Yx _ (Zm _ (List.mem_singleton_self e))) rfl rfl rfl rfl fun h'' hL kd=> ?_
 obtain⟨st,fr2,⟨oe,vs2,T,oT,ts,h1,h2,h3,h4,h5,h6,h7,h8,h9⟩,ups⟩:=hL
 have hT:s2.heap.get? T=none:=by
  rcases zp8 h5 with m|m
  ·rcases Zq.mp m with m|m
   ·exact absurd (Zc.mp m) h6
   ·obtain⟨_,o,q1,q2⟩:=fr1.mem m
    obtain⟨sl,q3⟩:=ups T o q1 q2
    rw [h7] at q3;cases q3
    exact absurd h8 (q2 _)
  ·exact m
 have hT0:s.heap.get? T=none:=by
  cases z:s.heap.get? T with
  |none=>rfl
  |some o=>obtain⟨o',z'⟩:=th0 T o z;rw [hT] at z';cases z'
 have bT:base.get? T=none:=by
  cases z:base.get? T with
  |none=>rfl
  |some o=>have:=I.bk T o z;rw [hT] at this;cases this
 have u1:Un (frs (envOfC qual scope s.heap.objs.size f cd::outer)) [e] H H2 s.heap s2.heap:=(show Un (frs outer) [] H H2 s.heap s2.heap from I.base).mono (fun b m=>by rw [zI];exact Z1 _ m) (fun b m=>absurd m (by simp))
 have u3:Un (frs (envOfC qual scope s.heap.objs.size f cd::outer)) [e] H2 H2 s2.heap h'':=zl6 fr1 ups st
 refine⟨e,T,.ref t,dd,H2,rfl,(show s2.os=s.os from I.os),I.bare,zl7 (u1.trans u3) (fun b o q m=> ?_) (fun b o q m=> ?_),zb8 I.hok (fun b m=> ?_) I.stkFree st,⟨ne,hT0,He,I.hok.none_of hT,fun b o q=>st b o (bin b o q),be,bT,W0 bin fr2.2.2,oe,vs2,oT,ts,h1,h2,h3,h4,h6,h7,h8,h9⟩,kd,q⟩
 ·rw [Zc.mp m,ne] at q;cases q
 ·rw [zI] at m
  rcases Z6.mp m with z|m
  ·exact absurd (Zk q) (by rw [z];exact Y2 _)
  ·exact m
 ·rw [Zc.mp m];exact He
theorem yw1(I:Inv (iH (CXn P w base C) P w K mg base N qual scope f cd A outer s H E) pins σ H1 s1)(mk:Heap.MadeExcOf s1.heap h' e (.ref C) vs)(q:E (.ref C) none H1):
  (iH (CXn P w base C) P w K mg base N qual scope f cd A outer s H E).xe (.ref e) {s1 with heap:=h'}:=by
 obtain⟨t,he,ht,_⟩:=mk.there
 refine yw0 (I.kept (t':=s1.toks) mk.keeps) ?_ (I.hok.none_of mk.new) he q
 cases z:s.heap.get? e with
 |none=>rfl
 |some o=>obtain⟨o',z'⟩:=I.base.there e o z (by show e∉([]:List Addr);simp);rw [mk.new] at z';cases z'
theorem yw2(O:OwnCls x C bmB newId mg base)(FB:ExcBaseFacts B newId initId bmB)(hg:Gl (iH (CXn P w base C) P w K mg base N qual scope f cd A outer s H E) x)
  (hd:NDb x:=by decide) (hs:starEach [.Constant (.str z) j p1] (envOfC qual scope s.heap.objs.size f cd)=[(false,eval (.Constant (.str z) j p1) (envOfC qual scope s.heap.objs.size f cd))]:=by rfl):
  PS (iH (CXn P w base C) P w K mg base N qual scope f cd A outer s H E) (.Raise (some (.Call (.Name x np) [.Constant (.str z) j p1] [] cpos)) none pos) (fun _ _ H'=>E (.ref C) none H'):=⟨by
 intro pins s1 σ H1 D I h
 obtain⟨tl,N',nm,q,bs,hdct,sn,sub,ab,col,dd,k0,k1,k2,k3,k5,mN,hC,hN,hni,T⟩:=O.obj
 refine wpAny_Raise_call_subT (C:=C) (nm:=nm) (q:=q) (N:=N') (bs:=bs) (bm:=tl) (hdct:=hdct) (sn:=sn) (sub:=sub) (ab:=ab) (col:=col) (dd:=dd) (k0:=k0) (k1:=k1) (k2:=k2) (k3:=k3) (k5:=k5)
  FB (mN:=mN) (T.hasType FB.hasBase) (I.ok.hd rfl) (by show(backTo cpos (starEach [.Constant (.str z) j p1] (envOfC qual scope s.heap.objs.size f cd))).any (·.1)=false;rw [hs];rfl) hni (rH I hg O.bound ⟨rfl,?_⟩ hd)
 show wpAny (model P w) (A.deeper (envOfC qual scope s.heap.objs.size f cd)) (evalArgs (.ref C) true (backTo cpos (starEach [.Constant (.str z) j p1] (envOfC qual scope s.heap.objs.size f cd))) []) _ _ s1
 rw [hs]
 refine Calls.evalArgs_plain (YQ (Calls.Constant_str (k:=j) (pos:=p1) (YZ ?_)))
 have kp:∀b o,base.get? b=some o->s1.heap.get? b=some o:=I.bk
 refine⟨rfl,(show 1<=sizeLine from ZC (by decide) (sN (n:=1) (by decide))),kp _ _ hC,hN.keeps kp,T.keeps kp,fun h' e mk=> ?_⟩
 exact yw1 (I.tok (s1.toks+1)) mk h⟩
end
def tX(φ:Fx)(fx:tz5)(Ex:Hp->Prop):TS:=fun _ σ H=>∃ps F,RS φ H σ ps F/\fx ps=true/\∀H',Frm F H H'->Ex H'
def yM(np:Nat)(K:tz0)(U:tz9)(C:Addr)(g:List D->Bool):Sp:=fun vs H _ E=>vs.length=np/\∃ds fp,Reps K U H vs ds fp/\g ds=true/\∀H',SameK H H'->E (.ref C) none H'
def gX(np n:Nat)(fx:tz5):List D->Bool:=fun ds=>decide (ds.length=np)&&fx (ds.map some++List.replicate n none)
def xj6(ft:tz4)(fx:tz5):tz5:=fun ps=>match ft ps with
 |some true=>fx ps
 |_=>false
def xl8:tz5:=fun _=>true
abbrev QX(X:Cx)(U:tz9)(φ:F0)(Ex:Hp->Prop)(st:Stmt)(fx:tz5):Prop:=PS X st (tX (φ.fx X.K U) fx Ex)
abbrev QXs(X:Cx)(U:tz9)(φ:F0)(Ex:Hp->Prop)(st:List Stmt)(fx:tz5):Prop:=PSs X st (tX (φ.fx X.K U) fx Ex)
theorem yw3(k:Frm (fun _=>[]) H H'):SameK H H':=⟨fun a o h kk=>k.keep a o h kk (fun _=>by simp),k.grow⟩
section
variable{P:Program}{w:World}{K:tz0}{mg:tzA}{base:Heap}{U:tz9}{C:Addr}
theorem zp9{x qual:Str}{st:Stmt}{f:Addr}{fd:FuncData}{N ps:List Str}{k:Nat}{fx:tz5}(F:Fun K x qual st f fd)(S:FnScope N ps (aU st))
  (hbody:∀(cdv:Value) (A:Around) (outer:List Env) (s:Shared) (H:Hp) (E:XK) (B:Nat->Addr->Prop),Room k (A.deeper (envOfC qual (aU st) s.heap.objs.size f cdv))->
   QXs (iH (CXn P w base C) P w K mg base N qual (aU st) f cdv A outer s H E) U (f0P ps.length B) (E (.ref C) none) (mF st) fx):
  FnOk P w K mg base (CXn P w base C) (k+1) f fd ps (yM ps.length K U C (gX ps.length (N.length-ps.length) fx)):=by
 obtain⟨oc,od,kV,doc,pm,an,cdv,ct,osl,rfl,lk,hcd⟩:=F.ex
 refine xk5 lk hcd S (fun vs H Q E h=>h.1) fun A outer s H vs Q E hr hsp=> ?_
 obtain⟨hl,ds,fp,r,e,q⟩:=hsp
 have hn:ps.length<=N.length:=by have:=ZM List.length S.pre;rw [Yh] at this;omega
 refine⟨_,hbody cdv A outer s H E (fun _ a=>a∈fp) hr,_,fun _=>[],RS.start r hl hn,?_,fun H' fr=>q H' (yw3 fr)⟩
 unfold gX at e
 exact(Bool.and_eq_true_iff.mp e).2
end
section
variable{X:Cx}{U:tz9}{φ:F0}{Ex:Hp->Prop}{fx:tz5}{st:Stmt}{rest:List Stmt}{pos:Pos}
theorem zq0:PSs X rest (fun _ _ _=>False):=⟨fun _ _ _ _ _ _ h=>h.elim⟩
theorem zl8(h1:QX X U φ Ex st fx):QXs X U φ Ex (st::rest) fx:=(kZ h1 zq0).imp fun D σ H h=>h
theorem wc9(hc:QT X.nox U c ft)(ha:QXs X U φ Ex a fx):QX X U φ Ex (.If c a b pos) (xj6 ft fx):=
 (yk1 (PT.nox hc) ha zq0).imp fun D σ H hh_=>by
  obtain⟨ps,F,R,e,q⟩:=hh_
  unfold xj6 at e
  split at e
  ·rename_i he
   refine⟨ps,true,R.ws,he,fun H' s=> ?_⟩
   show(if true=true then tX (φ.fx X.K U) fx Ex D σ H' else _)
   rw [if_pos rfl]
   exact⟨ps,F,R.same s,e,fun H'' fr=>q H'' ⟨fun a o h k n=>fr.keep a o (s.keep a o h k) k n,fun a z=>s.grow a (fr.grow a z)⟩⟩
  ·cases e
end
section
variable{P:Program}{w:World}{K:tz0}{mg:tzA}{base:Heap}{N:List Str}{qual:Str}{scope:Scope}{f C:Addr}{cd:Value}{A:Around}{outer:List Env}{s:Shared}{H:Hp}{E:XK}{U:tz9}{φ:F0}
theorem xf4(O:OwnCls x C bmB newId mg base)(FB:ExcBaseFacts B newId initId bmB)(hg:Gl (iH (CXn P w base C) P w K mg base N qual scope f cd A outer s H E) x)
  (hd:NDb x:=by decide) (hs:starEach [.Constant (.str z) j p1] (envOfC qual scope s.heap.objs.size f cd)=[(false,eval (.Constant (.str z) j p1) (envOfC qual scope s.heap.objs.size f cd))]:=by rfl):
  QX (iH (CXn P w base C) P w K mg base N qual scope f cd A outer s H E) U φ (E (.ref C) none) (.Raise (some (.Call (.Name x np) [.Constant (.str z) j p1] [] cpos)) none pos) xl8:=
 (yw2 O FB hg hd hs).imp fun D σ H' hh_=>by
  obtain⟨ps,F,R,e,q⟩:=hh_
  exact q H' ⟨fun a o h _ _=>h,fun a h=>h⟩
end
theorem PA.nox(h:PA X.nox es t):PA X es t:=⟨fun pos pins s σ H Q I hw=>
 ZP (h pos pins s σ H Q (I.wish _) hw) (fun _ _ q=>by obtain⟨vs,H',I',r,q⟩:=q;exact⟨vs,H',I'.unwish,r,q⟩) fun _ _ z=>False.elim z⟩
abbrev bmV:List Value:=[.type "ValueError",.type "Exception",.type "BaseException",.type "object"]
theorem xp7{K:tz0}{h:Heap}{C:Addr}{bm:List Value}{nid:String}(X:K.In h)(q:PySem.W.excIn K C bm nid=true):
  ∃bm' N nm qn bs hd sn sub ab col dd k0 k1 k2 k3 k5 mN,h.get? C=some (excClassObj nm qn C N bs bm' hd sn sub ab col dd k0 k1 k2 k3 k5 nid)/\h.Ns N mN/\mN "__init__"=none/\OwnTail h bm bm':=by
 unfold PySem.W.excIn at q
 split at q
 case h_2=>cases q
 rename_i dd c sl look
 split at q
 case h_2=>cases q
 rename_i C1 bm1 a0 a1 a2 a3 n1 a5 em es
 rw [Zx,Zx,Zx,Zx,Zx] at q
 obtain⟨⟨⟨⟨⟨q1,q2⟩,q3⟩,q4⟩,q5⟩,q6⟩:=q
 have z1:=eq_of_beq q1
 have z2:=eq_of_beq q2
 have z6:=eq_of_beq q6
 subst z1 z2
 cases c with
 | mk nm bs mro ns qn hd sn sub ab col del=>
  dsimp only at em q3 q5 z6
  have z3:del=false:=by cases del<;>first|rfl|cases q3
  subst em z3
  have zs:sl= #[a0,a1,a2,a3,some (.builtin n1),a5]:=by
   cases sl
   dsimp only at es
   rw [es]
  subst zs
  exact⟨bm1,ns,nm,qn,bs,hd,sn,sub,ab,col,dd,a0,a1,a2,a3,a5,_,X _ _ look,.of_isNs (PySem.W.isNs_of_in X q5),PySem.W.nsMap_none_of_in X q5 z6,PySem.W.tail_of_in X q4⟩
def tXe(φ:Fx)(fx:tz5)(Ex:Hp->Prop):TE:=fun σ H _=>∃ps F,RS φ H σ ps F/\fx ps=true/\∀H',Frm F H H'->Ex H'
abbrev QXe(X:Cx)(U:tz9)(φ:F0)(Ex:Hp->Prop)(e:Expr)(fx:tz5):Prop:=PE X e (tXe (φ.fx X.K U) fx Ex)
section
variable{X:Cx}{U:tz9}{φ:F0}{Ex:Hp->Prop}{fx fy:tz5}{st:Stmt}{rest l:List Stmt}{pos:Pos}
theorem xw8(i:Nat){x:Str}{e:Expr}{pos':Pos}(hN:X.N.Nodup)(hi:X.N[i]? =some x)(hx:Loc X.env.scope x)(he:QXe X U φ Ex e fx)(hs:swapsWith e (some (.Name x pos')) pos.line X.env=pure false:=by rfl)(hf:X.fn x=true\/X.env.scope.names.lookup x=some .local:=by first|exact .inl rfl|exact .inr rfl|assumption):
  QX X U φ Ex (.Assign [.Name x pos'] e pos) fx:=(rN hN hi hx he hs hf).imp fun _ _ _ h=>h
end
end L2
namespace L2
section
open PySem PySem.W PySem.Calls PyProof.Rows Builtin Builtin.ObjectAttr Builtin.Getset_descriptor
variable{prog:Program}{w:World}{A:Around}{E:Value->Shared->Prop}{s:Shared}{K:tz0}{x D:Addr}{name:Str}
end
open PySem PySem.Spec PyProof.Rows
def zu2(f:tz2):tz2:=fun ps=>(f ps).bind fun d=>(zu1 d).bind fun xs=>some (.lst false xs)
theorem xp8{X:Cx}{U:tz9}{e:Expr}{f:tz2}(h:QP X U e f):QP X U e (zu2 f):=
 (xp5 h).imp fun σ H Q hh_=>by
  obtain⟨ps,d,w,e,q⟩:=hh_
  obtain⟨d0,e1,e2⟩:=bind_some e
  obtain⟨xs,e3,e4⟩:=bind_some e2
  cases e4
  obtain⟨rfl,hi⟩:=zf6 e3
  refine⟨ps,_,w,e1,fun v H1 fv s1 n1 nd1 r1=> ?_⟩
  obtain⟨l,us,g,rfl,hl,hs,rfl⟩:=r1.lstT_inv
  have eg:=hs.imm hi
  subst eg
  have hln:=n1 l Z0
  have up:∀b o,H b=some o->b≠l:=fun b o hb z=>by rw [z,hln] at hb;cases hb
  refine⟨l,us,rfl,hl,fun ob=>q (.ref l) _ [] ⟨fun b o hb hk=> ?_,fun b hb=> ?_⟩ (fun _ h=>absurd h (by simp)) Zi (.lstF cK (hs.move (fun b o hb ht=> ?_) fun _ h=>absurd h (by simp)))⟩
  ·rw [aX (up b o hb)];exact s1.keep b o hb hk
  ·by_cases z:b=l
   ·rw [z,cK] at hb;cases hb
   ·rw [aX z] at hb;exact s1.grow b hb
  ·by_cases z:b=l
   ·rw [z,hl] at hb;cases hb;cases ht
   ·rw [aX z];exact hb
section
variable{P:Program}{w:World}{A:Around}{E:Value->Shared->Prop}{h:Heap}{g:Array GenState}{d:Drawn}{t:Nat}{os:OsState}{nm q:Str}{C N:Addr}{bs bm bmB:List Value}{hdct ab:Bool}{sn:List Str}{sub:List Value}
 {col:Option Bool} {dd:Option Addr} {k0 k1 k2 k3 k5:Option Value} {B newId initId:String}
end
section
variable{P:Program}{w:World}{A:Around}{E:Value->Shared->Prop}{s:Shared}{env:Env}{nm q:Str}{C N:Addr}{bs bm bmB:List Value}{hdct ab:Bool}{sn:List Str}{sub:List Value}
 {col:Option Bool} {dd:Option Addr} {k0 k1 k2 k3 k5:Option Value} {B newId initId:String}
end
end L2
namespace L2
section
open PySem PySem.W PySem.Calls PyProof.Rows Builtin Builtin.ObjectAttr Builtin.Getset_descriptor
variable{prog:Program}{w:World}{A:Around}{E:Value->Shared->Prop}{K:tz0}{x C:Addr}{name:Str}
end
open PySem PySem.Spec PyProof.Rows
def rC:tz2:=fun _=>some (.dic true [] [])
theorem xf5{X:Cx}{U:tz9}{pos:Pos}:QP X U (.Dict [] [] pos) rC:=xd4.imp fun σ H Q hh_=>by
 obtain⟨ps,d,w,e,q⟩:=hh_
 cases e
 exact fun p hp=>q.at hp (fv:=[p]) (fun a ha=>by rw [Zc.mp ha];exact hp) (by simp) (.dic (kvs:=[]) cK rfl .nil)
section
variable{K:tz0}{U:tz9}{H:Hp}
theorem tR:∀{kvs:List (Key×V)} {ks:List Key} {ds:List D} {g:List Addr} {k:Key},kvs.map (·.1)=ks->Reps K U H (kvs.map (·.2)) ds g->(pA kvs k).isSome=(oC ks ds k).isSome
 |[],_,_,_,_,e,r=>by subst e;cases r;rfl
 |(k0,v0)::kvs,_,_,_,k,e,.cons h hs=>by
  subst e
  rw [Z8,oC]
  by_cases z:k0=k
  ·rw [if_pos z,rQ z];rfl
  ·rw [if_neg z,rR z];exact tR rfl hs
theorem Rep.dicT_inv(r:Rep K U H v (.dic true ks ds) fp):∃a kvs g,v= .ref a/\H a=some (.dK kvs)/\kvs.map (·.1)=ks/\Reps K U H (kvs.map (·.2)) ds g/\fp=a::g:=by
 cases r with
 |dic h e hs=>exact⟨_,_,_,rfl,h,e,hs,rfl⟩
theorem Rep.dicF_inv(r:Rep K U H v (.dic false ks ds) fp):∃a o kvs,v= .ref a/\H a=some (.frz o (.dK kvs))/\kvs.map (·.1)=ks/\Reps K U H (kvs.map (·.2)) ds []:=by
 cases r with
 |dicF h e hs=>exact⟨_,_,_,rfl,h,e,hs⟩
end
def kO:D->D->Option D
 |y,.dic _ ks ds=>y.key.bind fun k=>some (.bl (!(oC ks ds k).isSome))
 |_,_=>none
def wL:List Key->List D->Key->D->List D
 |k::ks,d::ds,j,y=>(if k=j then y else d)::wL ks ds j y
 |_,_,_,_=>[]
def pK:D->D->D->Option (Unit×D)
 |i,y,.dic true ks ds=>i.key.bind fun k=>if D.imms ds=true/\y.imm=true/\ks.length<sizeLine then some ((),if (oC ks ds k).isSome=true then .dic true ks (wL ks ds k y) else .dic true (ks++[k]) (ds++[y])) else none
 |_,_,_=>none
theorem ym9(h:pK i y d=some (r,d')):∃k ks ds,d= .dic true ks ds/\i.key=some k/\D.imms ds=true/\y.imm=true/\ks.length<sizeLine/\d'=if (oC ks ds k).isSome=true then .dic true ks (wL ks ds k y) else .dic true (ks++[k]) (ds++[y]):=by
 unfold pK at h
 split at h
 ·obtain⟨k,e1,e2⟩:=bind_some h
  obtain⟨hc,e3⟩:=bX e2
  cases e3
  exact⟨k,_,_,rfl,e1,hc.1,hc.2.1,hc.2.2,rfl⟩
 ·cases h
theorem xQ{K:tz0}{U:tz9}{H:Hp}{v:V}{y:D}{k:Key}(r:Rep K U H v y []):∀{kvs:List (Key×V)} {ds:List D},Paired (fun v d=>Rep K U H v d []) (kvs.map (·.2)) ds->Paired (fun v d=>Rep K U H v d []) ((kvs.map fun kv=>if kv.1=k then(kv.1,v) else kv).map (·.2)) (wL (kvs.map (·.1)) ds k y)
 |[],_,.nil=> .nil
 |(k0,v0)::kvs,_,.cons h t=>by
  rw [Z8,Z8,Z8,wL]
  by_cases z:k0=k
  ·rw [if_pos z,if_pos z];exact .cons r (xQ r t)
  ·rw [if_neg z,if_neg z];exact .cons h (xQ r t)
theorem wX{k:Key}{v:V}:∀kvs:List (Key×V),(kvs.map fun kv=>if kv.1=k then(kv.1,v) else kv).map (·.1)=kvs.map (·.1)
 |[]=>rfl
 |(k0,v0)::kvs=>by
  rw [Z8,Z8,Z8,wX kvs]
  by_cases z:k0=k
  ·rw [if_pos z]
  ·rw [if_neg z]
theorem xp9{K:tz0}{U:tz9}{H:Hp}{l:Addr}{v:V}{y:D}{kvs:List (Key×V)}{ds:List D}{k:Key}(hl:H l=some (.dK kvs))(hs:Reps K U H (kvs.map (·.2)) ds [])(ry:Rep K U H v y []):
  Rep K U (upd H l (.dK (jH kvs k v))) (.ref l) (if (oC (kvs.map (·.1)) ds k).isSome=true then .dic true (kvs.map (·.1)) (wL (kvs.map (·.1)) ds k y) else .dic true (kvs.map (·.1)++[k]) (ds++[y])) [l]:=by
 have ha:=zb2 k kvs
 rw [tR (k:=k) rfl hs] at ha
 have hs':Reps K U (upd H l (.dK (jH kvs k v))) (kvs.map (·.2)) ds []:=hs.updL hl rfl (by simp)
 have ry':Rep K U (upd H l (.dK (jH kvs k v))) v y []:=ry.updL hl rfl (by simp)
 by_cases hc:(oC (kvs.map (·.1)) ds k).isSome=true
 ·rw [if_pos hc]
  rw [hc] at ha
  have e:jH kvs k v=kvs.map fun kv=>if kv.1=k then(kv.1,v) else kv:=by unfold jH;rw [if_pos ha]
  exact .dic (fp:=[]) (kvs:=jH kvs k v) cK (by rw [e];exact wX kvs) (.ofp (by rw [e];rw [e] at hs' ry';exact xQ ry' hs'.nilp))
 ·rw [if_neg hc]
  rw [Xt] at hc
  rw [hc] at ha
  have e:jH kvs k v=kvs++[(k,v)]:=by unfold jH;rw [if_neg (by rw [ha];exact Z7)]
  have hh:=Reps.append hs' (Reps.one ry')
  exact .dic (fp:=[]) (kvs:=jH kvs k v) cK (by rw [e,Y4];rfl) (by rw [e,Y4];rw [e] at hh;exact hh)
section
variable{X:Cx}{U:tz9}{φ:F0}{a b o e i:Expr}{f fa fb fi fe:tz2}{pf:PSt->Option (List Ps1)}{j:Nat}{pos apos:Pos}{tg:Expr}
theorem yw4(hu:X.A.units+1<cLine)(ha:QV X U a fa)(hb:QV X U b fb)(hm:behindInMarks .NotIn b=false:=by rfl):QT X U (.Compare a [.NotIn] [b] pos) (fB (f2 kO fa fb)):=
 (xt7 (yt7 hu ha hb) hm).imp fun σ H Q hh_=>by
  obtain⟨ps,c,w,e,q⟩:=hh_
  obtain⟨x,y,e1,e2,e3⟩:=uF (zk3 e)
  refine⟨ps,x,w,e1,fun v H1 fp s1 r1=>⟨ps,y,w.same s1,e2,fun u H2 fq s2 r2=> ?_⟩⟩
  unfold kO at e3
  split at e3
  ·obtain⟨k,e4,e5⟩:=bind_some e3
   cases e5
   obtain⟨l,kvs,g,rfl,h,hk,hs,_⟩:=r2.dic_inv
   exact⟨l,pA kvs k,rfl,.inl ⟨kvs,k,h,zl1 r1 e4,rfl⟩,_,by rw [tR hk hs],q H2 (s1.trans s2)⟩
  ·cases e3
def rD(j:Nat)(pf:PSt->Option (List Ps1))(fi fe:tz2):tz1:=fun ps=>(fe ps).bind fun y=>((ps[j]?).join).bind fun d0=>(pf ps).bind fun p=>(fi ps).bind fun i=>(fO (pK i y) d0 p).bind fun r=>some (.nx,ps.set j (some r.2))
theorem xq0(hu:X.A.units+1<cLine)(hb:φ.bor j=false)(he:PE X e (tP X.K U fe))(ho:PE X o (oB X.K U j pf))(hi:PE X i (tV X.K U fi))(hs:swapsWith e (some (.Subscript o i apos)) pos.line X.env=pure false:=by rfl):QS X U φ (.Assign [.Subscript o i apos] e pos) (rD j pf fi fe):=
 (xo2 hu ho hi he hs).imp fun E σ H hh_=>by
  obtain⟨ps,F,fl,ps',R,e,q⟩:=hh_
  obtain⟨y,e1,e2⟩:=bind_some e
  obtain⟨d0,e3,e4⟩:=bind_some e2
  have e0:=join_some e3
  obtain⟨p,e5,e6⟩:=bind_some e4
  obtain⟨iv,e7,e8⟩:=bind_some e6
  obtain⟨⟨r,d0'⟩,em,e9⟩:=bind_some e8
  cases e9
  obtain⟨dd,dn,gp,hh⟩:=nA em
  refine⟨ps,y,R.ws,e1,fun v H1 fy s1 n1 nd1 ry=>⟨ps,p,d0,dd,R.ws.same s1,e0,e5,gp,fun lv H2 v0 s2 ev a2=>⟨ps,iv,(R.ws.same s1).same s2,e7,fun u H3 fu s3 r3=> ?_⟩⟩⟩
  have s13:=(s1.trans s2).trans s3
  obtain⟨d1,d1',fd,m1,m2,m3,m4,m5⟩:=uH R s13 hb e0 ev em (a2.same s3)
  obtain⟨k,ks,ds,rfl,ek,hi,hy,hl,rfl⟩:=ym9 m2
  obtain⟨l,kvs,g,rfl,hd,hk,hs,rfl⟩:=m1.dicT_inv
  subst hk
  have eg:=hs.imm hi
  subst eg
  have ey:=ry.imm hy
  subst ey
  refine⟨l,_,rfl,.inl ⟨kvs,k,hd,zl1 r3 ek,by simpa using hl,rfl⟩,?_⟩
  obtain⟨F',st,ow⟩:=m5 (upd H3 l (.dK (jH kvs k v))) [l] [] (fun a o h _ hn=>vG h hn) (fun a h=>oW h)
   (xp9 hd hs ((ry.same s2).same s3)) (by simp) (fun a ha=> .inl (by simpa using ha))
  exact q _ _ F' st
end
def Itf(a:Addr)(o:Obj)(kvs:List (Key×V)):It:=⟨fun i H=>H a=some (.frz o (.dK kvs))/\i<kvs.length,fun i H x H'=>H'=H/\(kvs.map fun kv=>kV kv.1)[i]? =some x,fun i H=>H a=some (.frz o (.dK kvs))/\kvs.length<=i⟩
theorem zb9{X:Cx}{pins:tzB}{σ:St}{H:Hp}{s:Shared}{a:Addr}{o:Obj}{kvs:List (Key×V)}(I:Inv X pins σ H s)(h:H a=some (.frz o (.dK kvs))):
  (a==sysModules)=false/\kvs.length<=sizeLine/\∃vs es ep,KV kvs vs/\o.data= .dict es ep/\s.heap.DictAt (eU X.prog X.w) a vs ep:=by
 obtain⟨g,z,sm,vs,hv,hd⟩:=(show dO X.prog X.w H s.heap a (.frz o (.dK kvs)) from I.hok a _ h)
 obtain⟨ep,hat⟩:=hd.dictAt
 obtain⟨o',es,g',h1,h2,h3⟩:=id hat
 rw [g] at g'
 cases g'
 exact⟨sm,z,vs,es,ep,hv,h2,hat⟩
theorem xq1{P:Program}{w:World}{K:tz0}{tg:Expr}{a it:Addr}{o:Obj}{es:Array DictEntry}{ep:Nat}{kvs:List (Key×V)}(hd:o.data= .dict es ep):Turn P w K tg (Itf a o kvs) [it] it (fun i h=>h.IsKeyIter it a i kvs.length ep) where
 mem:=by simp
 obj:=fun i h st b hb=>by
  have e:b=it:=by simpa using hb
  subst e
  obtain⟨o,e,c,d⟩:=st
  exact⟨o,e,fun v z=>by rw [d] at z;cases z⟩
 keep:=fun i h h' st k=>st.at fun o e=>k it (by simp) o e
 item:=by
  intro X hP hw hK hc i pins s σ H E I hf st hg
  subst hP hw hK
  obtain⟨sm,z,vs,es',ep',hv,hd',dd⟩:=zb9 I hg.1
  rw [hd] at hd'
  cases hd'
  have hi:i<vs.length:=by rw [<-ZI hv];exact hg.2
  obtain⟨⟨k,x⟩,hx'⟩:∃p,vs[i]? =some p:=⟨vs[i],by simp [hi]⟩
  obtain⟨⟨k',v'⟩,hx2,he,_⟩:=lB hv hx'
  have he':k'=k:=he
  subst he'
  obtain⟨f0,f1,f2,f3,f4,f5⟩:=hf it (by simp)
  rw [ZI hv] at st
  refine wpAny_pyNext_dict_item st dd hx' fun key h' hkey st' sb=> ?_
  have I1:Inv X pins σ H {s with heap:=h'}:=I.turned (t':=s.toks) (fun b o hb e=>(sb.2 b hb).trans e) f0 f1 f3 f4 f5
  obtain⟨o2,e,c,d⟩:=id st'
  rw [<-ZI hv] at st'
  exact⟨key,rfl,zs7 (s:={s with heap:=h'}) e c d (by decide) ⟨kV k',H,I1,xp1 hkey,⟨rfl,by rw [Zb,hx2];rfl⟩,st',fun b hb=>(hf b hb).1⟩⟩
 done:=by
  intro X hP hw hK hc i pins s σ H E I hf st hg
  subst hP hw hK
  obtain⟨sm,z,vs,es',ep',hv,hd',dd⟩:=zb9 I hg.1
  rw [hd] at hd'
  cases hd'
  have hi:vs.length<=i:=by rw [<-ZI hv];exact hg.2
  obtain⟨f0,f1,f2,f3,f4,f5⟩:=hf it (by simp)
  rw [ZI hv] at st
  exact wpAny_pyNext_dict_end (I.ok.hd hc) st dd (Yu hi) fun h' eb=>⟨rfl,I.turned (t':=s.toks) (fun b o hb e=>eb b o hb e) f0 f1 f3 f4 f5⟩
 self:=fun _ _ _ _ _ st h=>wpAny_pyIter_keyiter st h
def eY:D->Option (List D)
 | .dic false ks _=>some (ks.map yp8)
 |_=>none
def uY(f:tz2):tz3:=fun ps=>(f ps).bind eY
theorem xq2{K:tz0}{U:tz9}{H:Hp}{a:Addr}{o:Obj}{kvs:List (Key×V)}(h:H a=some (.frz o (.dK kvs))):Walk K U (Itf a o kvs) [] H ((kvs.map (·.1)).map yp8) where
 go:=fun H' k i d e=>by
  rw [YB,Zb] at e
  obtain⟨kv,hkv,e⟩:=Zo.mp e
  refine⟨⟨k a _ h (.inl rfl),(Z2.mp hkv).1⟩,fun y H2 ⟨hy1,hy2⟩=>⟨hy1,?_⟩⟩
  rw [Zb,hkv] at hy2
  cases hy2
  rw [<-e]
  exact xe7 kv.1
 stop:=fun H' k=>⟨k a _ h (.inl rfl),by rw [Zh,Zh];exact Za _⟩
theorem zl9{X:Cx}{U:tz9}{tg e:Expr}{f:tz2}(h:QP X U e f):QIP X U tg e (uY f):=⟨by
 rintro pins s σ H R I ⟨ps,l,w,e,q⟩
 obtain⟨d,e1,e2⟩:=bind_some e
 unfold eY at e2
 split at e2
 ·cases e2
  refine thn (h pins s σ H (fun x H1=>SameK H H1/\∃fp,Rep X.K U H1 x _ fp) I ⟨ps,_,w,e1,fun v H' fv s1 _ _ r=>⟨s1,fv,r⟩⟩) fun v s1 ⟨x,H1,I1,r1,sm,fp,rp⟩=> ?_
  obtain⟨a,o,kvs,rfl,ha,hk,_⟩:=rp.dicF_inv
  subst hk
  cases r1
  obtain⟨hsm,z,vs,es,ep,hv,hd,dd⟩:=zb9 I1 ha
  refine wpAny_pyIter_dict hsm dd ?_
  refine⟨s1.heap.objs.size,[s1.heap.objs.size],_,_,H1,rfl,I1.kept (t':=s1.toks) fun b o e=>Ze _ e,xq1 (kvs:=kvs) (a:=a) hd,⟨_,Zv _ rfl,rfl,by rw [ZI hv];rfl⟩,fun b hb=> ?_,q _ H1 [] sm (fun _ h=>absurd h (by simp)) (xq2 ha)⟩
  have e:b=s1.heap.objs.size:=by simpa using hb
  subst e
  exact I1.fpOk (Za _) (I1.hok.fresh (Za _))
 ·cases e2⟩
theorem xf6(I:Inv X pins σ H s)(h:H a=some (.dK kvs)):∃ob,Inv X pins σ (upd H a (.frz ob (.dK kvs))) s:=by
 have ne:∀b,H b=none->b≠a:=fun b hb z=>by rw [z,h] at hb;cases hb
 have nt:∀b o,H b=some o->(∀ys,o≠ .dK ys)->b≠a:=fun b o hb ho z=>by
  rw [z,h] at hb
  cases hb
  exact ho _ rfl
 obtain⟨z0,sm,vs,hv,hd⟩:=(show dO X.prog X.w H s.heap a (.dK kvs) from I.hok a _ h)
 obtain⟨ep,ob,es,e0,_⟩:=hd.dictAt
 refine⟨ob,I.ok,I.os,I.bare,⟨I.base.keep,I.base.slot,fun b o h1 h2 h3=> ?_,I.base.there,fun b xs h1=> ?_,fun b o u h1=> ?_,fun b ps h1=> ?_⟩,I.loc,I.cell,?_,fun x c e=> ?_,fun p hp=> ?_,fun b o e=> ?_,I.len⟩
 ·have:=I.base.free b o h1 h2 h3
  rw [aX (ne b this)];exact this
 ·have:=I.base.tups b xs h1
  rw [aX (nt b _ this fun _ z=>by cases z)];exact this
 ·have:=I.base.frzs b o u h1
  rw [aX (nt b _ this fun _ z=>by cases z)];exact this
 ·obtain⟨more,this⟩:=I.base.tbls b ps h1
  exact⟨more,by rw [aX (nt b _ this fun _ z=>by cases z)];exact this⟩
 ·rw [aX (ne _ I.free)];exact I.free
 ·have:=I.freeC x c e
  rw [aX (ne _ this)];exact this
 ·obtain⟨p1,p2,p3⟩:=I.pin p hp
  exact⟨p1,by rw [aX (ne _ p2)];exact p2,p3⟩
 ·have st:∀{b o},dO X.prog X.w H s.heap b o->dO X.prog X.w (upd H a (.frz ob (.dK kvs))) s.heap b o:=fun x=>
   x.stay (fun _ _ _ q=>q) (fun b' hb=>by rw [aX (nt b' _ hb fun _ z=>by cases z)];exact hb) fun b' xs hb=>by rw [aX (nt b' _ hb fun _ z=>by cases z)];exact hb
  by_cases z:b=a
  ·subst z
   rw [cK] at e
   cases e
   exact⟨e0,st (I.hok b _ h)⟩
  ·rw [aX z] at e
   exact st (I.hok b o e)
def yp9:D->Option D
 | .obj true C ns [x,.dic true ks ds]=>if x.imm=true/\D.imms ds=true then some (.obj false C ns [x,.dic false ks ds]) else none
 |_=>none
def jX(f:tz2):tz2:=fun ps=>(f ps).bind yp9
theorem uI{X:Cx}{U:tz9}{e:Expr}{f:tz2}(h:QP X U e f):QP X U e (jX f):=⟨by
 intro pins s σ H Q I hh_
 obtain⟨ps,d,w,e,q⟩:=hh_
 obtain⟨d0,e1,e2⟩:=bind_some e
 unfold yp9 at e2
 split at e2
 ·rename_i C ns x ks ds
  obtain⟨⟨hx,hi⟩,e3⟩:=bX e2
  cases e3
  refine thn (h pins s σ H (fun y H1=>SameK H H1/\∃fv,(∀a∈fv,H a=none)/\fv.Nodup/\Rep X.K U H1 y _ fv) I ⟨ps,_,w,e1,fun v H' fv s1 n1 nd1 r=>⟨s1,fv,n1,nd1,r⟩⟩) fun v s1 ⟨y,H1,I1,r1,sm,fv,n1,nd1,rp⟩=> ?_
  obtain⟨l,dx,fs,g,rfl,hl,hn,hs,rfl⟩:=rp.objT_inv
  obtain⟨v1,us,f1,g1,ev,k1,k2,rfl⟩:=hs.split
  obtain⟨v2,rfl,k3⟩:=k2.one_inv
  obtain⟨b,kvs,g2,rfl,hb,hk,k4,rfl⟩:=k3.dicT_inv
  have z1:=k1.imm hx
  subst z1
  have z2:=k4.imm hi
  subst z2
  rw [Yk] at nd1 n1
  have hln:=n1 l Z0
  have hbn:=n1 b (Z1 _ Z0)
  have nbl:b≠l:=fun z=>(Zs.mp nd1).1 (z▸Z0)
  obtain⟨ob,I2⟩:=xf6 I1 hb
  have hl2:upd H1 b (.frz ob (.dK kvs)) l=some (.ins (U C) dx fs):=by rw [aX (Y6 nbl)];exact hl
  refine⟨.ref l,_,I2.freeze hl2,r1,q (.ref l) _ [] ⟨fun c o hc hk'=> ?_,fun c hc=> ?_⟩ (fun _ h=>absurd h (by simp)) Zi (.objF cK hn ?_)⟩
  ·rw [aX (fun z=>by rw [z,hln] at hc;cases hc),aX (fun z=>by rw [z,hbn] at hc;cases hc)]
   exact sm.keep c o hc hk'
  ·exact sm.grow c (oW (oW hc))
  ·have mv:∀c o,H1 c=some o->tf o=true->upd (upd H1 b (.frz ob (.dK kvs))) l (.frz (PySem.W.instObj (U C) dx) (.ins (U C) dx fs)) c=some o:=fun c o hc ht=>by
    rw [aX (fun z=>by rw [z,hl] at hc;cases hc;cases ht),aX (fun z=>by rw [z,hb] at hc;cases hc;cases ht)];exact hc
   rw [ev]
   exact .cons (f:=[]) (g:=[]) (k1.move mv fun _ h=>absurd h (by simp)) (.one (.dicF (o:=ob) (by rw [aX nbl];exact cK) hk (k4.move mv fun _ h=>absurd h (by simp))))
 ·cases e2⟩
def Ite(K:tz0)(a:Addr):It:=
 ⟨fun i H=>∃xs x,SqL K H a xs/\xs[i]? =some x,fun i H x H'=>∃p v,H p=none/\x= .ref p/\H'=upd H p (.tup [.int i,v])/\∀xs,SqL K H a xs->xs[i]? =some v,fun i H=>∃xs,SqL K H a xs/\xs.length<=i⟩
theorem ye3{X:Cx}{pins:tzB}{σ:St}{H:Hp}{s:Shared}{h':Heap}{t':Nat}{e it:Addr}(I:Inv X pins σ H s)(k:∀b o,b≠e->b≠it->s.heap.get? b=some o->h'.get? b=some o)(he:nX X pins H e)(hi:nX X pins H it):Inv X pins σ H {s with heap:=h',toks:=t'}:=by
 have nn:∀b,(b∉[e,it])->b≠e/\b≠it:=fun b h=>⟨fun z=>h (by simp [z]),fun z=>h (by simp [z])⟩
 have nit:∀b u,H b=some u->b≠e/\b≠it:=fun b u q=>⟨fun z=>by(rw [z,he.1] at q;cases q),fun z=>by(rw [z,hi.1] at q;cases q)⟩
 refine I.step (g':=s.gens) (d':=s.drawn) (ch:=[e,it]) (fun b hb=> ?_) (fun b o _ _ hc q _=>k b o (nn b hc).1 (nn b hc).2 q) (fun b o _ _ hc q _=>⟨o.slots,k b o (nn b hc).1 (nn b hc).2 q⟩) (fun _ _ _ _ n=>n)
  (fun b o hc q=>⟨o,k b o (nn b hc).1 (nn b hc).2 q⟩) (fun _ _ e=>e) (fun _ _ _ e=>e) (fun b ps e=>⟨#[],by rw [e];simp⟩) (fun m hm=> ?_) (fun b u q=> ?_) I.bare
 ·rcases Z6.mp hb with z|z
  ·rw [z];exact⟨he.2.2.2.1,he.2.1,he.2.2.2.2.1,he.2.2.2.2.2⟩
  ·rw [Zc.mp z];exact⟨hi.2.2.2.1,hi.2.1,hi.2.2.2.2.1,hi.2.2.2.2.2⟩
 ·obtain⟨o,es,ep,ho,r⟩:=hm
  exact⟨o,es,ep,k _ o (Y6 he.2.1) (Y6 hi.2.1) ho,r⟩
 ·refine(I.hok b u q).stay (fun c v hc q'=> ?_) (fun _ q=>q) fun _ _ q=>q
  rcases hc with z|z
  ·rw [z] at q'|-;exact k b v (nit b u q).1 (nit b u q).2 q'
  ·exact k c v (nit c _ z).1 (nit c _ z).2 q'
theorem xq3{P:Program}{w:World}{K:tz0}{elts:List Expr}{x1:Nat}{pos:Pos}(a e it:Addr)(hne:e≠it):Turn P w K (.Tuple elts x1 pos) (Ite K a) [e,it] e (fun i h=>(∃old,IsEnum h e it (i:Nat) old)/\h.IsListIter it a i) where
 mem:=by simp
 obj:=fun i h st b hb=>by
  obtain⟨⟨old,st1⟩,st2⟩:=st
  rcases Z6.mp hb with rfl|hb
  ·exact⟨_,st1,fun v z=>by
    have z':Data.fields _=Data.cell v:=z
    cases z'⟩
  ·have z:b=it:=by simpa using hb
   subst z
   obtain⟨o,q,c,d⟩:=st2
   exact⟨o,q,fun v z=>by rw [d] at z;cases z⟩
 keep:=fun i h h' st k=>⟨by obtain⟨⟨old,st1⟩,_⟩:=st;exact⟨old,k e (by simp) _ st1⟩,st.2.at fun o q=>k it (by simp) o q⟩
 item:=by
  intro X hP hw hK hc i pins s σ H E I hf st hg
  subst hP hw hK
  obtain⟨xs,x,hq,hx⟩:=hg
  obtain⟨its,rv,p,hz⟩:=I.list hq
  obtain⟨u,hu,ru⟩:=rv.get hx
  obtain⟨⟨old,st1⟩,st2⟩:=st
  refine wpAny_pyNext_enum_item st1 st2 p.isList (x:=u) (by simpa using hu) hne fun h' heo hit ht hsz hk=> ?_
  refine⟨_,rfl,wpAny_letOwnedTupleGo_enum heo fun h2 he2 hs2=> ?_⟩
  have hs2':Heap.SameBut e h' h2:=hs2
  have hes:e<s.heap.objs.size:=Zk st1
  have ni:Heap.get? h2 s.heap.objs.size=some {cls:= .type "tuple",data:= .seq #[.int i s.toks,u]}:=(hs2'.2 _ (XU hes)).trans ht
  have hp:H s.heap.objs.size=none:=I.hok.fresh (Za _)
  have kk:∀b o,b≠e->b≠it->s.heap.get? b=some o->h2.get? b=some o:=fun b o h3 h4 h5=>(hs2'.2 b h3).trans (hk b o h3 h4 h5)
  have hes2:it<s.heap.objs.size:=by obtain⟨o,q,_⟩:=st2;exact Zk q
  have I0:Inv X pins σ (upd H s.heap.objs.size (.tup [.int i,x])) {s with heap:=s.heap.push {cls:= .type "tuple",data:= .seq #[.int i s.toks,u]}}:=
   I.laid (t':=s.toks) (fun b o q=>Ze _ q) (Za _) ⟨YV (sN (by simp)),[.int i s.toks,u],.cons ⟨_,rfl⟩ (.cons ru .nil),⟨_,Zv _ rfl,rfl,0,rfl⟩⟩
  have fo:∀b∈[e,it],nX X pins (upd H s.heap.objs.size (.tup [.int i,x])) b:=fun b hb=>by
   refine⟨?_,(hf b hb).2⟩
   rw [aX]
   ·exact(hf b hb).1
   ·rcases Z6.mp hb with z|z
    ·rw [z];exact ZE hes
    ·rw [Zc.mp z];exact ZE hes2
  have I1:Inv X pins σ (upd H s.heap.objs.size (.tup [.int i,x])) {s with heap:=h2,toks:=s.toks+1}:=ye3 (s:={s with heap:=s.heap.push {cls:= .type "tuple",data:= .seq #[.int i s.toks,u]}}) (t':=s.toks+1) I0 (fun b o h3 h4 h5=>by
   rcases Heap.get?_push_cases h5 with ⟨rfl,rfl⟩|h5
   ·exact ni
   ·exact kk b o h3 h4 h5) (fo e (by simp)) (fo it (by simp))
  refine⟨.ref s.heap.objs.size,_,I1,rfl,⟨_,x,hp,rfl,rfl,fun ys hy=>by rw [I.list_inj hy hq];exact hx⟩,⟨⟨u,?_⟩,?_⟩,fun b hb=> ?_⟩
  ·have:((i+1:Nat):Int)=(i:Int)+1:=by push_cast;rfl
   rw [this];exact he2
  ·exact hit.at fun o q=>(hs2'.2 it (Y6 hne)).trans q
  ·exact(fo b hb).1
 done:=by
  intro X hP hw hK hc i pins s σ H E I hf st hg
  subst hP hw hK
  obtain⟨xs,hq,hx⟩:=hg
  obtain⟨its,rv,p,hz⟩:=I.list hq
  obtain⟨⟨old,st1⟩,st2⟩:=st
  obtain⟨f0,f1,f2,f3,f4,f5⟩:=hf it (by simp)
  have hl:=rv.length
  exact wpAny_pyNext_enum_end (I.ok.hd hc) st1 st2 p.isList (by simp;omega) fun h' eb=>⟨rfl,I.turned (t':=s.toks) (fun b o hb e=>eb b o hb e) f0 f1 f3 f4 f5⟩
 self:=fun _ _ _ _ _ st h=>by
  obtain⟨⟨old,st1⟩,_⟩:=st
  exact wpAny_pyIter_enum st1 h
structure WalkE(K:tz0)(U:tz9)(J:It)(Z:List Addr)(H1:Hp)(ds:List D):Prop where
 go:∀H',qK Z H1 H'->∀(i:Nat) d,ds[i]? =some d->J.go i H'/\∀x H2,J.yld i H' x H2->SameK H' H2/\Rep K U H2 x d []
 stop:∀H',qK Z H1 H'->J.stop ds.length H'
def mG:Nat->List D->List D
 |_,[]=>[]
 |n,d::ds=> .tup [.int n,d]::mG (n+1) ds
theorem zq1:∀{ds:List D} {n i:Nat} {d:D},(mG n ds)[i]? =some d->∃y,ds[i]? =some y/\d= .tup [.int ((n+i:Nat):Int),y]
 |[],_,_,_,h=>by simp [mG] at h
 |y::ds,n,0,d,h=>by
  rw [mG] at h
  exact⟨y,rfl,by simpa using h.symm⟩
 |y::ds,n,i+1,d,h=>by
  rw [mG,Yr] at h
  obtain⟨z,h1,h2⟩:=zq1 h
  exact⟨z,by simpa using h1,by rw [h2,show n+1+i=n+(i+1) by omega]⟩
theorem zq2:∀(ds:List D) (n:Nat),(mG n ds).length=ds.length
 |[],_=>rfl
 |d::ds,n=>by rw [mG,Z4,Z4,zq2 ds]
theorem xq4{K:tz0}{U:tz9}{H1:Hp}{a:Addr}{vs:List V}{ds:List D}{Z:List Addr}(h:Rd H1 a (.lst vs))(hz:H1 a=some (.lst vs)->a∈Z)(r:Paired (fun v d=>Rep K U H1 v d []) vs ds):WalkE K U (Ite K a) Z H1 (mG 0 ds) where
 go:=fun H' k i d e=>by
  obtain⟨y,e0,rfl⟩:=zq1 e
  obtain⟨x,e1,r1⟩:=lB r e0
  have sq:SqL K H' a vs:=k.sq h hz
  refine⟨⟨vs,x,sq,e1⟩,fun z H2 hy=> ?_⟩
  obtain⟨p,v,hp,rfl,rfl,hv⟩:=hy
  have e2:=hv vs sq
  rw [e1] at e2;cases e2
  have sm:SameK H' (upd H' p (.tup [.int i,x])):= .new hp _
  refine⟨sm,.tup (.inl (.inl cK)) (.cons (f:=[]) (g:=[]) ?_ (.one ((k.rep r1).same sm)))⟩
  rw [YA];exact .int _
 stop:=fun H' k=>⟨vs,k.sq h hz,by rw [zq2,ZI r];exact Za _⟩
def zu3(f:tz2):tz3:=fun ps=>(f ps).bind fun d=>(zu1 d).map (mG 0)
section
variable{X:Cx}{U:tz9}{φ:F0}{pos:Pos}{body:List Stmt}{f:tz1}
theorem yw5{φ:Fx}(R:RS φ H σ ps F)(hz:∀a∈Z,H a≠none/\∀i,a∉F i)(W:WalkE φ.K φ.U J Z H ds)(hb:∀i∈is,φ.bor i=false/\φ.M i=false)
  (e:mT is f ds ps=some (fl,ps')) (q:wI φ E σ H F fl ps'):yp7 (fun v σ H Q=>xj3 φ.K is.length (uW is) v σ H Q\/xi8 φ.K is.length (uW is) v σ H Q) (tS φ f) E σ J H:=by
 refine⟨fun k m σ1 H1=>k<=ds.length/\m=ds.length-k/\∃ps1 F1,Stp φ σ H F σ1 H1 ps1 F1/\mT is f (ds.drop k) ps1=some (fl,ps'),⟨_,ZL _,rfl,ps,F,.refl R,by rw [X5];exact e⟩,?_⟩
 rintro k m σ1 H1 ⟨hk,rfl,ps1,F1,s1,e1⟩
 have kp:qK Z H H1:=s1.fr.kept R fun a ha=>(hz a ha).2
 by_cases hlt:k<ds.length
 ·right
  have ed:ds[k]? =some ds[k]:=Zr hlt
  obtain⟨hgo,hy⟩:=W.go H1 kp k _ ed
  rw [ZO hlt,mT] at e1
  obtain⟨ys,e0,e1⟩:=bind_some e1
  obtain⟨hl,e1⟩:=bX e1
  obtain⟨⟨fl2,ps2⟩,e2,e3⟩:=bind_some e1
  refine⟨hgo,fun σ' H'=>∃F',Stp φ σ H F σ' H' ps2 F'/\mT is f (ds.drop (k+1)) ps2=some (fl,ps'),fun σ' H' ⟨F',s,e⟩=>⟨ds.length-(k+1),by omega,hlt,rfl,ps2,F',s,e⟩,fun x H' y=> ?_⟩
  obtain⟨sm,rx⟩:=hy x H' y
  rw [yv7 e0] at rx
  obtain⟨a,vs,rfl,h,hs⟩:=rx.tup_inv
  have ln:=hs.length
  have s0:=Stp.same s1.rs sm
  obtain⟨F2,s2⟩:=Stp.setN s1.rs s0 ⟨fun a ha=>absurd ha (by simp),Zi,fun k a ha hg=>absurd hg (by simp)⟩ hs hb
  have s12:=s1.trans s2
  refine .inr ⟨a,vs,rfl,h,by omega,sQ (by omega) ⟨_,F2,fl2,ps2,s2.rs,e2,?_⟩⟩
  cases fl2 with
  |nx=>exact fun σ' H' F' s=>⟨F',s12.trans s,e3⟩
  |ct=>exact fun σ' H' F' s=>⟨F',s12.trans s,e3⟩
  |bk=>cases e3;exact fun σ' H' F' s=>q σ' H' F' (s12.trans s)
  |ret d=>cases e3;exact fun v σ' H' F' fv s o r=>q v σ' H' F' fv (s12.trans s) (o.after s12) r
 ·left
  have ek:k=ds.length:=by omega
  subst ek
  rw [Xs,mT] at e1
  cases e1
  exact⟨W.stop H1 kp,q _ _ F1 s1⟩
theorem xq5(is:List Nat){es:List Expr}{k:Nat}{l:Expr}{fl:tz2}{px p p2:Pos}(hp:PassesOwn (model X.prog X.w) X.A X.env X.xe)(hc:X.calm=true)(hg:Gl X "enumerate")(hm:X.mg "enumerate"=none)(hl:QP X U l fl)(hgs:PGs X es (uW is))(hb:∀i∈is,φ.bor i=false/\φ.M i=false)
  (hbd:QSs X U φ body f) (hn:(assignEach es X.env).length=is.length:=by rfl) (hst:(assignEach es X.env).findIdx? (·.1)=none:=by rfl) (hs1:starEach [l] X.env=(false,eval l X.env)::starEach [] X.env:=by rfl) (hs:∀x,foldedSetIterable (.Call (.Name "enumerate" p) [l] [] p2) X.env x=pure x:=by intro _;rfl):
  QS X U φ (.For (.Tuple es k px) (.Call (.Name "enumerate" p) [l] [] p2) body [] pos) (zu0 is (zu3 fl) f):=by
 have hi:PI X (.Tuple es k px) (.Call (.Name "enumerate" p) [l] [] p2) (fun σ H R=>∃ps xs,WS X.K U H σ ps/\fl ps=some (.lst true xs)/\D.imms xs=true/\∀J H1 Z,SameK H H1->(∀a∈Z,H a=none/\H1 a≠none)->WalkE X.K U J Z H1 (mG 0 xs)->R J H1):=by
  constructor
  intro pins s σ H R I hh_
  obtain⟨ps,xs,w,e1,him,q⟩:=hh_
  refine Y3 (uC I hg hm (u:= .type "enumerate") rfl ?_)
  refine Yd ?_ hs1 rfl
  rw [hs1]
  refine YQ (thn (hl pins s σ H (fun v H1=>SameK H H1/\∃fv,(∀a∈fv,H a=none)/\Rep X.K U H1 v (.lst true xs) fv) I ⟨ps,_,w,e1,fun v H1 fv s1 n1 _ r1=>⟨s1,fv,n1,r1⟩⟩) fun u s1 hu=>YZ ?_)
  obtain⟨v,H1,I1,r1,sm,fv,n1,rp⟩:=hu
  obtain⟨a,ws,g,rfl,ha,hws,rfl⟩:=rp.lstT_inv
  have eg:=hws.imm him
  subst eg
  cases r1
  obtain⟨its,rv,pl,hz⟩:=I1.list (.inl (.inl ha))
  refine call_enumerate_list pl.isList fun h' hE hI hsz hk=>wpAny_pyIter_enum hE ?_
  have I2:Inv X pins σ H1 {s1 with heap:=h'}:=I1.kept (t':=s1.toks) hk
  refine⟨s1.heap.objs.size+1,[s1.heap.objs.size+1,s1.heap.objs.size],_,_,H1,rfl,I2,xq3 a (s1.heap.objs.size+1) s1.heap.objs.size (Nat.succ_ne_self _),⟨⟨_,hE⟩,hI⟩,fun b hb=> ?_,q _ H1 [a] sm (fun b hb=> ?_) (xq4 (.inl ha) (fun _=>by simp) hws.nilp)⟩
  ·have hb2:s1.heap.objs.size<=b:=by
    rcases Z6.mp hb with z|z
    ·rw [z];exact Nat.le_succ _
    ·rw [Zc.mp z];exact Za _
   exact I1.fpOk hb2 (I1.hok.fresh hb2)
  ·rw [Zc.mp hb]
   exact⟨n1 a Z0,by rw [ha];simp⟩
 exact(zd8 hp hc hi (yv2 (n:=is.length) hc hgs hn hst) hbd hs).imp fun E σ H hh_=>by
  obtain⟨ps,F,fl',ps',R,e,q⟩:=hh_
  obtain⟨ds,e1,e2⟩:=bind_some e
  obtain⟨d,e4,e3⟩:=bind_some e1
  obtain⟨xs,e5,rfl⟩:=Zo.mp e3
  obtain⟨rfl,him⟩:=zf6 e5
  refine⟨ps,_,R.ws,e4,him,fun J H1 Z s1 hz W=> ?_⟩
  have s:=Stp.same R s1
  exact yw5 s.rs (fun a ha=>⟨(hz a ha).2,fun j hj=>by obtain⟨o,h,_⟩:=R.own hj;rw [(hz a ha).1] at h;cases h⟩) W hb e2 (q.back s)
end
inductive LtS(A:Around)(s:Shared):List Value->List Value->Bool->Prop
 |nn:LtS A s [] [] false
 |nc {y:Value} {ys:List Value}:LtS A s [] (y::ys) true
 |cn {x:Value} {xs:List Value}:LtS A s (x::xs) [] false
 |eq {x y:Value} {xs ys:List Value} {c:Bool}:SeqAt.EqAt A s x y true->LtS A s xs ys c->LtS A s (x::xs) (y::ys) c
 |ne {x y:Value} {xs ys:List Value} {c:Bool}:SeqAt.EqAt A s x y false->(∀(prog:Program) (w:World) (E Q:Value->Shared->Prop),Q (.bool c) s->wpAny (model prog w) A (richCompare .Lt x y) Q E s)->LtS A s (x::xs) (y::ys) c
section
open PySem.SeqAt
open PySem.AutoSeq1 (wpAny_loadPart')
open PySem.MeetsSeq PySem.MeetsSeq2 PySem.MeetsSeq3
theorem yn0(l b:Addr)(items items2:Array Value)(n n2:Nat)(dd dd2:Option Addr)(sl sl2:Array (Option Value))(c:Bool):
  Meets (Builtin.«tuple.__lt__» ⟨[.ref l,.ref b],[]⟩)
   (fun A R s=>s.heap.get? l=some {cls:= .type "tuple",dict:=dd,data:= .seq items n,slots:=sl}/\s.heap.get? b=some {cls:= .type "tuple",dict:=dd2,data:= .seq items2 n2,slots:=sl2}/\
    LtS A.in1 s items.toList items2.toList c/\R (.ok (.ret (.bool c))) s):=
 .of_wp fun prog w A R s h=>by
  obtain⟨hp,g,d,tk,os⟩:=s;obtain⟨hl,hb,hL,h⟩:=h
  have f2:=X2
  wp_walk using Y5 hl,Y5 hb,XI _ (fun rest b s'=>b.1=none/\s'=⟨hp,g,d,tk,os⟩/\∃(vs ws:List Value),rest=vs.zip ws/\
   LtS A.in1 ⟨hp,g,d,tk,os⟩ vs ws c/\vs.length+items2.size=ws.length+items.size/\R (.ok (.ret (.bool c))) ⟨hp,g,d,tk,os⟩) _
  case turn=>
   rintro⟨y,x⟩ rest b s' ⟨hb',rfl,vs,ws,hz,hS,hlen,hR⟩
   cases hS with
   |nn=>rw [YI] at hz;cases hz
   |nc=>rw [YI] at hz;cases hz
   |cn=>rw [Xi] at hz;cases hz
   |eq he hS'=>
    rw [ZW] at hz
    injection hz with hyx hrest
    injection hyx with hy hx
    subst hy hx
    simp only [Z4] at hlen
    refine Zg (he prog w _ _ ?_)
    wp_walk
    exact⟨rfl,rfl,_,_,hrest,hS',by omega,hR⟩
   |ne he hlt=>
    rw [ZW] at hz
    injection hz with hyx hrest
    injection hyx with hy hx
    subst hy hx
    refine Zg (he prog w _ _ ?_)
    have hri:=hlt prog w
    wp_walk using hri
    exact⟨_,rfl,by simpa using hR⟩
  case fin=>
   rintro⟨b1,b2⟩ s' ⟨hb',rfl,vs,ws,hz,hS,hlen,hR⟩
   simp only at hb'
   subst hb'
   have hv:c=decide (items.size<items2.size):=by
    cases hS with
    |nn=>simp only [ZJ] at hlen;exact(Zf (by omega)).symm
    |nc=>simp only [ZJ,Z4] at hlen;exact(Zn (by omega)).symm
    |cn=>simp only [ZJ,Z4] at hlen;exact(Zf (by omega)).symm
    |eq _ _=>rw [ZW] at hz;cases hz
    |ne _ _=>rw [ZW] at hz;cases hz
   rw [hv] at hR
   wp_walk
   exact⟨_,rfl,by simpa [Builtin.Tuple.tupleCompareSizes] using hR⟩
  case h=>
   exact⟨rfl,rfl,items.toList,items2.toList,rfl,hL,by simp;omega,h⟩
end
section
variable{prog:Program}{w:World}{A:Around}{E:Value->Shared->Prop}{s:Shared}
theorem yh1{l b:Addr}{items items2:Array Value}{c:Bool}{Q:Value->Shared->Prop}(hl:IsTup s.heap l items)(hb:IsTup s.heap b items2)(hS:LtS A.in1 s items.toList items2.toList c)
  (hu:A.units<cLine) (h:Q (.bool c) s):wpAny (model prog w) A (compareOp .Lt (.ref l) (.ref b)) Q E s:=by
 obtain⟨⟨cls,dd,data,sl⟩,ho,hc,n,hd⟩:=id hl
 obtain⟨⟨cls2,dd2,data2,sl2⟩,ho2,hc2,n2,hd2⟩:=id hb
 simp only at hc hd hc2 hd2
 subst hc hd hc2 hd2
 exact Xa (op:= .Lt) ⟨_,ho,rfl⟩ ⟨_,ho2,rfl⟩ W5 XW (XR _ _) (yn0 l b items items2 n n2 dd dd2 sl sl2 c)
  ⟨ho,ho2,hS,show Value.bool c≠Value.notImplemented/\Q (.bool c) s from⟨(fun x=>nomatch x),h⟩⟩ hu
end
def yN:List (List Int)->List (List Int)->Bool
 |[],[]=>false
 |[],_::_=>true
 |_::_,[]=>false
 |x::xs,y::ys=>if x=y then yN xs ys else HT.lexLt x y
inductive TI2(s:Shared):List Value->List (List Int)->Prop
 |nil:TI2 s [] []
 |cons {a:Addr} {its:Array Value} {ns:List Int} {vs:List Value} {nss:List (List Int)}:IsTup s.heap a its->IntsAre its.toList ns->TI2 s vs nss->TI2 s (.ref a::vs) (ns::nss)
theorem zf7{h:Heap}:∀{vs:List Value} {ns:List Int},IntsAre vs ns->∃as,ReadsAll h vs (ns.map .int) as
 |_,_,.nil=>⟨_,.nil⟩
 |_,_,.cons i t hs=>by
  obtain⟨as,r⟩:=zf7 (h:=h) hs
  exact⟨_,.cons (.int i t) r⟩
theorem zq3{s:Shared}{a:Addr}{its:Array Value}{ns:List Int}(h:IsTup s.heap a its)(hi:IntsAre its.toList ns):∃as,Reads s.heap (.ref a) (.tuple (ns.map .int)) as:=by
 obtain⟨o,e,c,n,d⟩:=h
 obtain⟨as,r⟩:=zf7 (h:=s.heap) hi
 exact⟨_,.tuple e c d r⟩
theorem za9:∀ns ms:List Int,PyData.eqvAll (ns.map .int) (ms.map .int)=decide (ns=ms)
 |[],[]=>by simp [PyData.eqvAll]
 |[],_::_=>by simp [PyData.eqvAll]
 |_::_,[]=>by simp [PyData.eqvAll]
 |n::ns,m::ms=>by
  rw [Z8,Z8,PyData.eqvAll,za9 ns ms,PyData.eqv]
  by_cases h:n=m<;>by_cases h2:ns=ms<;>simp [h,h2]
theorem xf7{A:Around}{s:Shared}(hu:A.units+8<cLine):∀{vs ws:List Value} {nss mss:List (List Int)},TI2 s vs nss->TI2 s ws mss->LtS A s vs ws (yN nss mss)
 |_,_,_,_,.nil,.nil=> .nn
 |_,_,_,_,.nil,.cons _ _ _=> .nc
 |_,_,_,_,.cons _ _ _,.nil=> .cn
 | _,_,_,_,.cons (ns:=ns) h1 i1 t1,.cons (ns:=ms) h2 i2 t2=>by
  obtain⟨as,r1⟩:=zq3 h1 i1
  obtain⟨bs,r2⟩:=zq3 h2 i2
  have e:=SeqAt.eqAt_reads _ _ A s _ _ as bs r1 r2 (by simp only [PyData.canLay0,canLayAll_ints]) (by simp only [PyData.canLay0,canLayAll_ints]) (by simp only [PyData.depth,depthAll_ints];omega)
  rw [PyData.eqv,za9] at e
  rw [yN]
  by_cases z:ns=ms
  ·rw [Zn z] at e
   rw [if_pos z]
   exact .eq e (xf7 hu t1 t2)
  ·rw [Zf z] at e
   rw [if_neg z]
   exact .ne e fun prog w E Q q=>HT.lt_tupInts h1 h2 i1 i2 (by omega) q
def D.intss:List D->Option (List (List Int))
 |[]=>some []
 | .tup xs::ds=>(D.ints xs).bind fun ns=>(D.intss ds).map (ns::·)
 |_=>none
theorem zf8{X:Cx}{U:tz9}{pins:tzB}{σ:St}{H:Hp}{s:Shared}(I:Inv X pins σ H s):∀{ds:List D} {vs:List V} {us:List Value} {nss:List (List Int)},Reps X.K U H vs ds []->bL vs us->D.intss ds=some nss->TI2 s us nss
 |[],_,_,_,r,v,e=>by
  cases r;cases v;cases e
  exact .nil
 | d::ds,_,_,nss,r,v,e=>by
  obtain⟨v1,vs1,f,g,rfl,r1,r2,ef⟩:=r.split
  obtain⟨rfl,rfl⟩:=XX.mp ef.symm
  cases v with
  | cons ru rus=>
   cases d with
   |tup xs=>
    obtain⟨ns,e1,e2⟩:=bind_some (show(D.ints xs).bind _=some nss from e)
    obtain⟨mss,e3,rfl⟩:=Zo.mp e2
    obtain⟨a,ws,rfl,h1,s1⟩:=r1.tup_inv
    rw [oV s1 e1] at h1
    cases ru
    obtain⟨its,rv,p,_⟩:=I.tuple h1
    exact .cons p (by simpa using rS rv) (zf8 I r2 rus e3)
   |_=>cases e
def yc3:D->D->Option D
 | .tup xs,.tup ys=>(D.intss xs).bind fun ns=>(D.intss ys).map fun ms=> .bl (yN ns ms)
 |_,_=>none
theorem wd0{X:Cx}{U:tz9}(hu:X.A.units+64<cLine):OpR X (compareOp .Lt) (POp X.K U yc3):=⟨by
 rintro pins s σ H x y v u Q I rx ry ⟨dx,dy,d,fx,fy,r1,r2,e,q⟩
 unfold yc3 at e
 split at e
 ·obtain⟨ns,e1,e⟩:=bind_some e
  obtain⟨ms,e2,e⟩:=Zo.mp e
  subst e
  obtain⟨a,vs,rfl,h1,s1⟩:=r1.tup_inv
  obtain⟨b,us,rfl,h2,s2⟩:=r2.tup_inv
  cases rx
  cases ry
  obtain⟨its,rv,p1,_⟩:=I.tuple h1
  obtain⟨its2,rv2,p2,_⟩:=I.tuple h2
  refine yh1 p1 p2 (xf7 (by show X.A.units+1+8<cLine;omega) (zf8 I s1 rv e1) (zf8 I s2 rv2 e2)) (by omega) ⟨.bl _,H,I,rfl,q.now (.bl _)⟩
 ·cases e⟩
def wb2(C:Addr)(m:Str)(sp:Sp)(dvs:List V)(E:XK)(ta:TE)(t:TA):TE:=fun σ H Q=>ta σ H fun x H1=>∃a dx fs,x= .ref a/\Rd H1 a (.ins C dx fs)/\fs.lookup m=none/\
 t σ H1 fun vs H2=>sp (x::(vs++dvs)) H2 Q E
section
variable{X:Cx}{U:tz9}{o e:Expr}{es:List Expr}{m qual:Str}{st:Stmt}{ps:List Str}{f:Addr}{fd:FuncData}{k np:Nat}{apos pos p:Pos}{pl:Sem Bool}
theorem xf8{C:Addr}{CX:CXT}{sp:Sp}{E:XK}{ds:List Value}{dvs:List V}{ta:TE}{t:TA}(he:PE X o ta)(c:Cls X.K C)(hm:Meth X.K C m f)(F:FnOk X.prog X.w X.K X.mg X.base CX k f fd ps sp)(hr:Room k X.A)(hb:kW X.K fd ps ds)(hd:bL dvs ds)(hx:mR CX X E)(ha:PA X (e::es) t)
  (hst:StE e es X:=by rfl) (hpl:BkE pos es X:=by rfl)
  (ht:eval (.Call (.Attribute o m apos) (e::es) [] pos) X.env=(do
   let ov<-eval o X.env
   standAt apos.atName
   let (f,first)<-holding [ov] (getMethod ov m pl)
   callWith pos f first (backTo pos (starEach (e::es) X.env)) (backToKw pos (keywordEach [] X.env))):=by rfl):
  PE X (.Call (.Attribute o m apos) (e::es) [] pos) (wb2 C m sp dvs E ta t):=⟨by
 intro pins s σ H Q I h
 refine X0 (pl:=pl) (thn (he pins s σ H _ I h) fun u s1 ⟨x,H1,I1,rx,a,dx,fs,ex,ea,l,q⟩=> ?_) ht
 subst ex
 obtain rfl:u=Value.ref a:=rx
 refine ym4 I1 ea c hm l ?_
 refine Yn (first:=[.ref a]) (h₀:=X.base) I.ok.mod.kin hm.kp (thn (ha pos pins s1 σ H1 _ I1 q) fun us s2 ⟨vs,H2,I2,r,q2⟩=>⟨I2.kIn,?_⟩) hst hpl
 exact xK (us:= .ref a::us) (vs:= .ref a::vs) F hr hb hd hx I2 (.cons rfl r) q2⟩
def zV(C m:Str):D->Option D
 | .obj false C' ns vs=>if (C'=C/\cI ns m=none) then some (.obj false C' ns vs) else none
 |_=>none
def pW(C m:Str)(fo:tz2):tz2:=fun ps=>(fo ps).bind (zV C m)
theorem yn1(h:zV C m x=some d):∃ns vs,x=d/\d= .obj false C ns vs/\cI ns m=none:=by
 unfold zV at h
 split at h
 ·obtain⟨⟨hC,hn⟩,e3⟩:=bX h
  subst hC;cases e3
  exact⟨_,_,rfl,rfl,hn⟩
 ·cases h
theorem zy3{C:Str}{h:tz6}{fo:tz2}{g:tz3}(M:Mn X.K U C m qual st ps f fd)(G:FnOk X.prog X.w X.K X.mg X.base CX0 k f fd ps (SpP np X.K U h))(hr:Room k X.A)(ho:QV X U o fo)(hnp:(e::es).length+1=np)(ha:QVA X U (e::es) g)(hlen:∀ps ds,g ps=some ds->ds.length=(e::es).length)
  (hst:StE e es X:=by rfl) (hpl:BkE pos es X:=by rfl)
  (ht:eval (.Call (.Attribute o m apos) (e::es) [] pos) X.env=(do
   let ov<-eval o X.env
   standAt apos.atName
   let (f,first)<-holding [ov] (getMethod ov m pl)
   callWith pos f first (backTo pos (starEach (e::es) X.env)) (backToKw pos (keywordEach [] X.env))):=by rfl):
  QP X U (.Call (.Attribute o m apos) (e::es) [] pos) (aJ h (aC (pW C m fo) g)):=(xf8 ho M.c M.h G hr M.b .nil zA ha hst hpl ht).imp fun σ H Q hh_=>by
 obtain⟨ps,d,w,e,q⟩:=hh_
 obtain⟨ds,e1,e2⟩:=bind_some e
 obtain⟨x,k1,k2⟩:=bind_some e1
 obtain⟨ds',k3,k4⟩:=bind_some k2
 cases k4
 obtain⟨y,k0,k1⟩:=bind_some k1
 obtain⟨ns,vs,rfl,rfl,k6⟩:=yn1 k1
 refine⟨ps,_,w,k0,fun v H1 fp s1 r1=> ?_⟩
 have r1':=r1
 obtain⟨_,_,_,_,rfl,hl,hn,hs,_⟩:=r1.obj_inv
 subst hn
 refine⟨_,_,_,rfl,hl,pH k6,ps,ds',w.same s1,k3,fun us H2 fq s2 r2=> ?_⟩
 show SpP np X.K U h (_::(us++[])) H2 Q E0
 rw [Zl]
 exact⟨by rw [Z4,r2.length,hlen ps ds' k3,hnp],_,_,d,.cons (r1'.same s2) r2,e2,q.after (s1.trans s2)⟩
end
def xl9:D->Option Bool
 | .dic _ ks _=>some (!ks.isEmpty)
 |_=>none
def fTK(f:tz2):tz4:=fun ps=>(f ps).bind xl9
theorem yh2{X:Cx}{U:tz9}{a:Expr}{fa:tz2}(ha:QV X U a fa)(he:∀whole,isTrue a X.env whole=(do let v<-whole;standAt a.pos;holding [v] (truthy v)):=by intro _;rfl):QT X U a (fTK fa):=⟨by
 intro pins s σ H Q I hh_
 obtain⟨ps,c,w,e,q⟩:=hh_
 obtain⟨d,e1,e2⟩:=bind_some e
 unfold xl9 at e2
 split at e2
 ·rename_i o ks ds
  cases e2
  refine isTrue_plain (thn (ha pins s σ H (fun v H1=>SameK H H1/\∃fp,Rep X.K U H1 v (.dic o ks ds) fp) I ⟨ps,_,w,e1,fun v H1 fp s1 r1=>⟨s1,fp,r1⟩⟩) fun v s1 hv=> ?_) (he _)
  obtain⟨x,H1,I1,r1,sm,fp,rp⟩:=hv
  obtain⟨l,kvs,g,rfl,hl,hk,_⟩:=rp.dic_inv
  cases r1
  refine xn9 I1 hl fun s2 I2=>⟨H1,I2,?_⟩
  rw [show kvs.isEmpty=ks.isEmpty by rw [<-hk];cases kvs<;>rfl]
  exact q H1 sm
 ·cases e2⟩
section
variable{prog:Program}{w:World}{A:Around}{E:Value->Shared->Prop}
def pL(h0 h:Heap):Prop:=∀b o,h0.get? b=some o->h.get? b=some o
theorem TI2.keep{s s':Shared}(k:pL s.heap s'.heap):∀{vs:List Value} {n:List (List Int)},TI2 s vs n->TI2 s' vs n
 |_,_,.nil=> .nil
 |_,_,.cons (a:=a) h1 h2 h3=> .cons (let ⟨o,e,r⟩:=h1;⟨o,k a o e,r⟩) h2 (TI2.keep k h3)
def yO(s:Shared)(v:Value)(n:List (List Int)):Prop:=∃a its,v= .ref a/\IsTup s.heap a its/\TI2 s its.toList n
theorem yO.keep{s s':Shared}{v:Value}{n:List (List Int)}(k:pL s.heap s'.heap)(h:yO s v n):yO s' v n:=by
 obtain⟨a,its,rfl,h1,h2⟩:=h
 exact⟨a,its,rfl,let ⟨o,e,r⟩:=h1;⟨o,k a o e,r⟩,h2.keep k⟩
theorem wd1{s:Shared}{v u:Value}{n m:List (List Int)}{Q:Value->Shared->Prop}(hu:A.units+9<cLine)(h1:yO s v n)(h2:yO s u m)(q:Q (.bool (yN n m)) s):wpAny (model prog w) A (richCompare .Lt v u) Q E s:=by
 obtain⟨a,its,rfl,a1,a2⟩:=h1
 obtain⟨b,jts,rfl,b1,b2⟩:=h2
 exact yh1 a1 b1 (xf7 (by show A.units+1+8<cLine;omega) a2 b2) (by omega) q
def ltN(N:List (List (List Int)))(i j:Nat):Bool:=yN (N.getD i []) (N.getD j [])
theorem wd2{R:Result->Shared->Prop}{s0:Shared}{vs:List (Key×Value)}{N:List (List (List Int))}{d it S:Addr}{ep:Nat}(hh:A.in1.handled=none)(hu:A.units+10<cLine)(hN:∀(i:Nat) (k:Key) v,vs[i]? =some (k,v)->yO s0 v (N.getD i []))(dd:s0.heap.DictAt (eU prog w) d vs ep)(n1:s0.heap.get? it=none)(n2:s0.heap.get? S=none)(ne:it≠S):
  ∀(m j:Nat) (s:Shared) (vb:Value) (c:Nat) (k:Key),vs.length=j+1+m->s.heap.IsValIter it d (j+1) vs.length ep->pL s0.heap s.heap->vs[argBest (ltN N) j]? =some (k,vb)->s.heap.get? S=some {cls:= .type "list",dict:=none,data:= .seq #[vb,vb] c,slots:= #[]}->
  (∀v k h' tk,vs[argBest (ltN N) (vs.length-1)]? =some (k,v)->pL s0.heap h'->R (.ok (.ret v)) {s with heap:=h',toks:=tk})->codeAny (model prog w) A (.builtin "min.loop" ⟨[.ref it,.none,.ref S],[]⟩) R s:=by
 have hname:(toString "min"++toString ".loop":String)="min.loop"/\∀b o,s0.heap.get? b=some o->b≠it/\b≠S:=⟨by decide,fun b o e=>⟨fun z=>(by rw [z,n1] at e;cases e),fun z=>(by rw [z,n2] at e;cases e)⟩⟩
 intro m
 induction m with
 |zero=>
  intro j s vb c k hj hit K hb hS hR
  refine W1 XO (?_:wpAny _ _ _ _ _ s);rw [Xn Yc _]
  show wpAny _ A.in1 (seqItems? (.ref S)>>=fun _=>_) _ _ s;refine Zg (W9 hS rfl (?_:wpAny _ _ _ _ _ s))
  show wpAny _ A.in1 (tryCatch (pyNext (.ref it)) _>>=_) _ _ s
  refine Zg (Xo (wpAny_pyNext_values_end hh hit (dd.keep K) (Yu (by omega)) fun h' eb=> ?_))
  have hS':=eb S _ (Y6 ne) hS;show wpAny _ A.in1 (updateSeq S (fun _=> #[])>>=fun _=>_) _ _ _
  refine Zg (W2 hS' rfl (Zg (XT (ZF ?_))))
  exact hR vb k _ s.toks (by rw [show vs.length-1=j by omega];exact hb) fun b o e=>(ZV _ _ (Y6 (hname.2 b o e).2)).trans (eb b o (hname.2 b o e).1 (K b o e))
 | succ m ih=>
  intro j s vb c k hj hit K hb hS hR
  obtain⟨⟨kx,vx⟩,hx⟩:∃p,vs[j+1]? =some p:=⟨vs[j+1],by simp⟩
  refine W1 XO (?_:wpAny _ _ _ _ _ s);rw [Xn Yc _]
  show wpAny _ A.in1 (seqItems? (.ref S)>>=fun _=>_) _ _ s;refine Zg (W9 hS rfl (?_:wpAny _ _ _ _ _ s))
  show wpAny _ A.in1 (tryCatch (pyNext (.ref it)) _>>=_) _ _ s
  refine Zg (Xo (Wh hit (dd.keep K) hx fun h' hit' sb=> ?_))
  have K':pL s0.heap h':=fun b o e=>(sb.2 b (hname.2 b o e).1).trans (K b o e)
  have hS':h'.get? S=_:=(sb.2 S (Y6 ne)).trans hS;show wpAny _ A.in1 (tryCatch (holding [vx,vx] (richCompare .Lt vx vb>>=fun _=>_)) _>>=_) _ _ _
  refine Zg (Xo (YD (Zg (wd1 (s:={s with heap:=h'}) (by show A.units+1+9<cLine;omega) ((hN _ _ _ hx).keep K') ((hN _ _ _ hb).keep K') ?_))))
  refine Zg (YD (ZU (Zg (XT (ZF ?_)))))
  have tl:∀(h2:Heap) (vb2:Value) (k2:Key) (c2:Nat),h2.IsValIter it d (j+1+1) vs.length ep->pL s0.heap h2->vs[argBest (ltN N) (j+1)]? =some (k2,vb2)->h2.get? S=some {cls:= .type "list",dict:=none,data:= .seq #[vb2,vb2] c2,slots:= #[]}->codeAny (model prog w) A (.builtin "min.loop" ⟨[.ref it,.none,.ref S],[]⟩) R {s with heap:=h2}:=fun h2 vb2 k2 c2 a1 a2 a3 a4=>ih (j+1) {s with heap:=h2} vb2 c2 k2 (by omega) a1 a2 a3 a4 fun v k h3 tk a5 a6=>hR v k h3 tk a5 a6
  have hlt:yN (N.getD (j+1) []) (N.getD (argBest (ltN N) j) [])=ltN N (j+1) (argBest (ltN N) j):=rfl
  rw [hlt]
  cases hbt:ltN N (j+1) (argBest (ltN N) j) with
  | true=>
   simp only [ZS]
   refine Zg (W2 hS' rfl (Zg (XT ?_)));rw [hname.1]
   refine ZF ⟨Xv Yc _,tl _ vx kx _ ?_ ?_ ?_ (Xj _ hS' rfl)⟩
   ·obtain⟨oi,q1,q2⟩:=hit'
    exact⟨oi,(ZV _ _ (Y6 ne)).trans q1,q2⟩
   ·exact fun b o e=>(ZV _ _ (Y6 (hname.2 b o e).2)).trans (K' b o e)
   ·rw [argBest,hbt,if_pos rfl];exact hx
  |false=>
   simp only [ZH,Yg]
   refine Zg (XT ?_);rw [hname.1]
   exact ZF ⟨Xv Yc _,tl _ vb k c hit' K' (by rw [argBest,hbt,if_neg Z7];exact hb) hS'⟩
theorem zs1{Q:Value->Shared->Prop}{s0 s:Shared}{vs:List (Key×Value)}{N:List (List (List Int))}{d vw:Addr}{ep:Nat}(hh:A.handled=none)(hu:A.units+11<cLine)(hN:∀(i:Nat) (k:Key) v,vs[i]? =some (k,v)->yO s0 v (N.getD i []))(dd:s0.heap.DictAt (eU prog w) d vs ep)(K:pL s0.heap s.heap)(hv:s.heap.IsValuesView vw d)(h0:0<vs.length)
  (hQ:∀v k h' tk,vs[argBest (ltN N) (vs.length-1)]? =some (k,v)->pL s0.heap h'->Q v {s with heap:=h',toks:=tk}):wpAny (model prog w) A (call (.builtin "min") [.ref vw]) Q E s:=by
 have hname:(toString "min"++toString ".loop":String)="min.loop"/\True:=⟨by decide,trivial⟩
 refine call_function_tree F.kind_min F.plain_min F.entry_min (F.args_min1 (.ref vw)) (?_:wpAny _ _ _ _ _ s)
 show wpAny _ A.in1 (Builtin.Builtins.bindParams "min" ["key","default"] 0 ⟨[],[]⟩>>=fun _=>_) _ _ s
 refine Zg (wpAny_of_eq (a:=[none,none]) rfl (Zg (ZF (Zg (wpAny_pyIter_values hv (dd.keep K) (Zg (wpAny_newObj_type ?_)))))))
 rw [hname.1]
 refine ZF ⟨Xv Yc _,?_⟩
 have e0:∀b o,s0.heap.get? b=some o->b<s.heap.objs.size:=fun b o e=>Zk (K b o e)
 have nn:∀b,s.heap.objs.size<=b->s0.heap.get? b=none:=fun b hb=>by
  cases z:s0.heap.get? b with
  |none=>rfl
  |some o=>exact absurd (e0 b o z) (Nat.not_lt.mpr hb)
 have szp:∀o:Obj,(s.heap.push o).objs.size=s.heap.objs.size+1:=fun o=>W8 ..
 obtain⟨⟨k0,v0⟩,hx⟩:∃p,vs[0]? =some p:=⟨vs[0],by simp⟩
 generalize hio:({cls:= .type "dict_valueiterator",data:= .fields #[.ref d,.int 0 0,.int vs.length 0,.int ep 0]}:Obj)=io
 have K1:pL s0.heap ((s.heap.push io).push {cls:= .type "list",data:= .seq #[]}):=fun b o e=>Ze _ (Ze _ (K b o e))
 have hS:((s.heap.push io).push {cls:= .type "list",data:= .seq #[]}).get? (s.heap.push io).objs.size=some {cls:= .type "list",data:= .seq #[]}:=Zv _ rfl
 have hI:((s.heap.push io).push {cls:= .type "list",data:= .seq #[]}).IsValIter s.heap.objs.size d 0 vs.length ep:=⟨io,Ze _ (Zv _ (by rw [<-hio];rfl)),by rw [<-hio],by rw [<-hio];rfl⟩
 have ne:s.heap.objs.size≠(s.heap.push io).objs.size:=by rw [szp];omega
 have n2:s0.heap.get? (s.heap.push io).objs.size=none:=nn _ (by rw [szp];omega)
 generalize (s.heap.push io).objs.size=S at hS ne n2|-
 generalize (s.heap.push io).push {cls:= .type "list",data:= .seq #[]}=hp at K1 hS hI|-
 refine W1 XO (?_:wpAny _ _ _ _ _ {s with heap:=hp});rw [Xn Yc _]
 show wpAny _ A.in1 (seqItems? (.ref S)>>=fun _=>_) _ _ _;refine Zg (W9 hS rfl (?_:wpAny _ _ _ _ _ {s with heap:=hp}))
 show wpAny _ A.in1 (tryCatch (pyNext (.ref s.heap.objs.size)) _>>=fun _=>_) _ _ _
 refine Zg (Xo (Wh (s:={s with heap:=hp}) hI (dd.keep K1) hx fun h' hit' sb=> ?_))
 have K':pL s0.heap h':=fun b o e=>(sb.2 b (fun z=>by rw [z,nn _ (Za _)] at e;cases e)).trans (K1 b o e)
 have hS':h'.get? S=_:=(sb.2 S (Y6 ne)).trans hS;show wpAny _ A.in1 (updateSeq S (fun _=> #[v0,v0])>>=fun _=>_) _ _ _
 refine Zg (W2 hS' rfl ?_);rw [hname.1]
 refine ZF ⟨Xv Yc _,wd2 (s0:=s0) (A:=A) (N:=N) (vs:=vs) hh (by omega) hN dd (nn _ (Za _)) n2 ne (vs.length-1) 0 _ v0 _ k0 (by omega) ?_ ?_ hx (Xj _ hS' rfl) fun v k h2 tk a1 a2=> ?_⟩
 ·obtain⟨oi,q1,q2⟩:=hit'
  exact⟨oi,(ZV _ _ (Y6 ne)).trans q1,q2⟩
 ·exact fun b o e=>(ZV _ _ (fun z=>by rw [<-z,n2] at e;cases e)).trans (K' b o e)
 ·exact hQ v k h2 tk a1 a2
end
def D.intsss:List D->Option (List (List (List Int)))
 |[]=>some []
 | .tup xs::ds=>(D.intss xs).bind fun n=>(D.intsss ds).map (n::·)
 |_=>none
theorem zq4:∀{ds:List D} {N:List (List (List Int))},D.intsss ds=some N->ds.length=N.length/\∀(i:Nat) d,ds[i]? =some d->∃xs,d= .tup xs/\D.intss xs=some (N.getD i [])
 |[],_,e=>by cases e;exact⟨rfl,fun i d h=>by simp at h⟩
 | .tup xs::ds,N,e=>by
  obtain⟨n,e1,e2⟩:=bind_some (show(D.intss xs).bind _=some N from e)
  obtain⟨M,e3,rfl⟩:=Zo.mp e2
  obtain⟨h1,h2⟩:=zq4 e3
  refine⟨by simp [h1],fun i d h=> ?_⟩
  cases i with
  |zero=>simp at h;exact⟨xs,h.symm,e1⟩
  |succ i=>simpa using h2 i d (by simpa using h)
 | .non::_,_,e=>by cases e
 | .bl _::_,_,e=>by cases e
 | .int _::_,_,e=>by cases e
 | .str _::_,_,e=>by cases e
 | .lst _ _::_,_,e=>by cases e
 | .con _::_,_,e=>by cases e
 | .ty _::_,_,e=>by cases e
 | .dic _ _ _::_,_,e=>by cases e
 | .obj _ _ _ _::_,_,e=>by cases e
def xm0:D->Option D
 | .dic _ _ ds=>(D.intsss ds).bind fun N=>ds[argBest (ltN N) (N.length-1)]?
 |_=>none
def zu4(f:tz2):tz2:=fun ps=>(f ps).bind xm0
section
variable{X:Cx}{U:tz9}{a:Expr}{fa:tz2}{p1 p2 ap pos:Pos}
theorem xq6(hc:X.calm=true)(hu:X.A.units+64<cLine)(ha:QV X U a fa)(hg:Gl X "min")(hm:X.mg "min"=none)(hb:attributeBase a "values" X.env (eval a X.env)=eval a X.env:=by rfl)(hln:(ap.endLine==p2.line)=true:=by rfl)
  (hs1:starEach [.Call (.Attribute a "values" ap) [] [] p2] X.env=(false,eval (.Call (.Attribute a "values" ap) [] [] p2) X.env)::starEach [] X.env:=by rfl):
  QV X U (.Call (.Name "min" p1) [.Call (.Attribute a "values" ap) [] [] p2] [] pos) (zu4 fa):=⟨by
 intro pins s σ H Q I hh_
 obtain⟨ps,d,w,e,q⟩:=hh_
 obtain⟨d1,e1,e2⟩:=bind_some e
 unfold xm0 at e2
 split at e2
 ·rename_i b ks ds
  obtain⟨N,eN,e3⟩:=bind_some e2
  obtain⟨hNl,hNa⟩:=zq4 eN
  refine Y3 (uC I hg hm (u:= .builtin "min") boot_min ?_)
  refine Xq ?_ hs1 rfl
  rw [hs1]
  refine YQ ?_
  refine wpAny_Call_method hb rfl hln PySem.F.plainAttrs_dict XQ PySem.F.type_dict_values (thn (ha pins s σ H (fun v H1=>SameK H H1/\∃fp,Rep X.K U H1 v (.dic b ks ds) fp) I ⟨ps,_,w,e1,fun v H1 fp s1 r1=>⟨s1,fp,r1⟩⟩) fun u s1 hx=> ?_)
  obtain⟨v,H1,I1,r1,sm,fp,rp⟩:=hx
  obtain⟨l,kvs,g,rfl,hl,hk,hrs,_⟩:=rp.dic_inv
  cases r1
  obtain⟨t1,t2,t3⟩:=xv6 I1 (.inl ⟨kvs,hl⟩)
  refine⟨t1,t2,?_⟩
  obtain⟨z,sm',vs,hv,hd⟩:=vD I1.hok hl
  obtain⟨ep,dd⟩:=hd.dictAt
  refine Xb rfl (PyProof.Rows.evalArgs_nil3 (?_:wpAny _ _ _ _ _ s1))
  refine call_meetsIn XQ t1 PySem.F.entry_dict_values (PySem.F.args_dict_values_1 (.ref l)) (meets_dict_values (eU X.prog X.w) l t3) ⟨⟨vs,hd⟩,YZ ?_⟩
  have lv:=ZI hv
  have ld:kvs.length=ds.length:=by have:=hrs.length;simpa using this
  have h0:argBest (ltN N) (N.length-1)<ds.length:=(Z2.mp e3).1
  have hN:∀(i:Nat) (k:Key) v,vs[i]? =some (k,v)->yO s1 v (N.getD i []):=fun i k v hi=>by
   obtain⟨⟨k',vv⟩,hx2,hk',rv⟩:=lB hv hi
   have hlt:i<ds.length:=by have:=(Z2.mp hx2).1;omega
   obtain⟨xs,hxs,en⟩:=hNa i ds[i] (by simp [hlt])
   obtain⟨v2,f2,g1,g2,_⟩:=hrs.get (i:=i) (d:=ds[i]) (by simp [hlt])
   rw [Zb,hx2] at g1
   cases g1
   rw [hxs] at g2
   obtain⟨a2,ws,rfl,hw,sw⟩:=g2.tup_inv
   cases rv
   obtain⟨its,rvs,p,_⟩:=I1.tuple hw
   exact⟨a2,_,rfl,p,by simpa using zf8 I1 sw rvs en⟩
  refine zs1 (s0:=s1) (N:=N) (vs:=vs) (d:=l) (I.ok.hd hc) (by show X.A.units+11<cLine;omega) hN dd (fun b o e=>Ze _ e) ⟨_,Zv _ rfl,rfl,rfl⟩ (by omega) fun v k h' tk hv' K=> ?_
  rw [<-lv,ld,hNl] at hv'
  obtain⟨⟨k',vv⟩,hx2,hk',rv⟩:=lB hv hv'
  obtain⟨v2,f2,g1,g2,_⟩:=hrs.get e3
  rw [Zb,hx2] at g1
  cases g1
  exact⟨vv,H1,I1.kept (t':=tk) (h':=h') K,rv,q vv H1 f2 sm g2⟩
 ·cases e2⟩
end
def zd5(g:List D->Bool)(ga:tz3):tz5:=fun ps=>match ga ps with
 |some ds=>g ds
 |none=>false
section
variable{P:Program}{w:World}{K:tz0}{mg:tzA}{base:Heap}{N:List Str}{qual:Str}{scope:Scope}{f C:Addr}{cd:Value}{A:Around}{outer:List Env}{s:Shared}{H:Hp}{E:XK}{U:tz9}{φ:F0}
theorem xw9{x:Str}{st:Stmt}{ps:List Str}{fa:Addr}{fd:FuncData}{k np:Nat}{g:List D->Bool}{e:Expr}{es:List Expr}{ga:tz3}{p pos:Pos}(Dd:Dn K mg x st ps fa fd)(G:FnOk P w K mg base (CXn P w base C) k fa fd ps (yM np K U C g))(hr:Room k (A.deeper (envOfC qual scope s.heap.objs.size f cd)))(hg:Gl (iH (CXn P w base C) P w K mg base N qual scope f cd A outer s H E) x)
  (hnp:(e::es).length=np) (ha:QVA (iH (CXn P w base C) P w K mg base N qual scope f cd A outer s H E).nox U (e::es) ga) (hlen:∀ps ds,ga ps=some ds->ds.length=(e::es).length)
  (hdb:NDb x:=by decide) (he:starEach (e::es) (envOfC qual scope s.heap.objs.size f cd)=(false,eval e (envOfC qual scope s.heap.objs.size f cd))::starEach es (envOfC qual scope s.heap.objs.size f cd):=by rfl) (hpl:(backTo pos (starEach es (envOfC qual scope s.heap.objs.size f cd))).any (·.1)=false:=by rfl):
  QXe (iH (CXn P w base C) P w K mg base N qual scope f cd A outer s H E) U φ (E (.ref C) none) (.Call (.Name x p) (e::es) [] pos) (zd5 g ga):=
 (yf8 (X:=iH (CXn P w base C) P w K mg base N qual scope f cd A outer s H E) G hr hg Dd.m Dd.F.kp Dd.b .nil wc8 (PA.nox ha) hdb he hpl).imp fun σ H0 Q hh_=>by
  obtain⟨ps,F,R,e,q⟩:=hh_
  unfold zd5 at e
  split at e
  ·rename_i ds e1
   refine⟨ps,ds,R.ws,e1,fun vs H1 fp s1 r1=> ?_⟩
   show yM np K U C g (vs++[]) H1 Q E
   rw [Zl]
   exact⟨by rw [r1.length,hlen ps ds e1,hnp],ds,fp,r1,e,fun H' s2=>q H' ⟨fun a o h kk _=>(s1.trans s2).keep a o h kk,(s1.trans s2).grow⟩⟩
  ·cases e
end
def zi4(g:List D->Bool)(fa:tz3)(f:tz1):tz1:=fun ps=>(fa ps).bind fun ds=>if g ds=true then some (.ret .non,ps) else f ps
section
variable{X:Cx}{C:Addr}{pins:tzB}{σ:St}{H1:Hp}{s1 s2:Shared}{D:Ends}{E1:XK}{e:Value}
theorem xq7(I:Inv X pins σ H1 s1)(hstk:X.stack=X.env::X.outer)(hf:X.env.frame=some X.env.locals)(O:OwnCls x C bmB newId X.mg X.base)(hbase:bmB.contains (.type "BaseException")=true)(hg:Gl X x)
  (h:CXn X.prog X.w X.base C X.stack H1 s1 E1 e s2) (q:∀dd H',E1 (.ref C) dd H'->D.rt .non H') (hd:NDb x:=by decide):
  wpAny (model X.prog X.w) X.A (noteFrame e X.env) (fun _ s3=>wpAny (model X.prog X.w) X.A (setFlight e none) (fun _ s4=>wpAny (model X.prog X.w) X.A (handleBy e X.env [.ExceptHandler (some (.Name x np)) none [.Return (some (.Constant .none j p3)) p4] p5]) (SP X pins D) E s4) E s3) E s2:=by
 obtain⟨ea,T,a0,dx,H2,rfl,os,bare,un,hok,fly,kd,q0⟩:=h
 rw [hstk] at un fly
 have hfr:X.A.frames=some (X.env::X.outer):=by rw [<-hstk];exact I.ok.frames
 refine wpAny_looks_onW (L:=X.env.locals) hfr hf fly.flying fun h4 held4 ups4=> ?_
 refine wpAny_landsW held4 fun h5 held ups5=> ?_
 have kp5:∀b o,X.base.get? b=some o->h5.get? b=some o:=fun b o z=>held.1 b o (fly.base_in b o z)
 obtain⟨ob,hob,hobc⟩:=held.there
 obtain⟨bm,N,nm,qn,bs,hdct,sn,sub,ab,col,dd,k0,k1,k2,k3,k5,mN,hC,hN,hni,TL⟩:=(O.keeps kp5).obj
 refine wpAny_handleBy_cons (codeAny_handlers_test (YN I.ok.kind hg (Wi (by rw [I.ok.glob];exact I.ok.mod.glob.keeps kp5) O.bound ?_) hd)) (by intro q;cases q)
 refine wpAny_excMatches_sub_self hC hob hobc (TL.hasType hbase) (codeAny_handlers_suite ?_)
 refine lands_againW held fun h6 fl6 ups6=> ?_
 refine X4 (wpAny_Return_some (Constant_none ?_))
 have ups:s2.heap.UpToSlots h6:=(ups4.trans ups5).trans ups6
 have st:(PySem.W.hideAll s2.heap ([ea,T]++frs (X.env::X.outer))).StaysIn h6:=fl6.1
 have stk:∀b∈frs (X.env::X.outer),H2 b=none:=fun b m=>by
  have m':b∈frs X.stack:=by rw [hstk];exact m
  obtain⟨_,o,q1,_⟩:=I.stack.mem m'
  exact un.free b o q1 (I.stkFree b m') (by simp)
 have u2:=un.mono (fs':=frs (X.env::X.outer)) (ex':=[ea,T]) (fun b m=>m) (fun b m=>absurd m (by simp))
 have u3:Un (frs (X.env::X.outer)) [ea,T] H2 H2 s2.heap h6:=zl6 fly.fr ups st
 have ce:CE X.stack X.prog X.w H1 s1 D.rt .none {s2 with heap:=h6}:=by
  rw [hstk]
  refine⟨.non,H2,os,bare,zl7 (u2.trans u3) (fun b o z m=> ?_) (fun _ _ _ m=>m),zb8 hok (fun b m=> ?_) stk st,rfl,q dx H2 q0⟩
  ·rcases Z6.mp m with y|m
   ·rw [y,fly.ne] at z;cases z
   ·rw [Zc.mp m,fly.nT] at z;cases z
  ·rcases Z6.mp m with z|m
   ·rw [z];exact fly.He
   ·rw [Zc.mp m];exact fly.HT
 obtain⟨v,H',I',r,qv⟩:=I.after ce
 exact⟨v,σ,H',I',r,qv⟩
end
section
variable{X:Cx}{C:Addr}{U:tz9}{φ:F0}
theorem xq8{x cx y:Str}{st:Stmt}{ps:List Str}{fa:Addr}{fd:FuncData}{k np:Nat}{g:List D->Bool}{e:Expr}{es:List Expr}{ga:tz3}{f:tz1}{p pos pos2 py np' p3 p4 p5 pos6:Pos}{j:Nat}{bmB:List Value}{newId:String}
  (Dd:Dn X.K X.mg x st ps fa fd) (G:FnOk X.prog X.w X.K X.mg X.base (CXn X.prog X.w X.base C) k fa fd ps (yM np X.K U C g)) (O:OwnCls cx C bmB newId X.mg X.base) (hbase:bmB.contains (.type "BaseException")=true) (hr:Room k X.A) (hg:Gl X x) (hgc:Gl X cx) (hnp:(e::es).length=np) (ha:QVA X.nox U (e::es) ga) (hlen:∀ps ds,ga ps=some ds->ds.length=(e::es).length)
  (hA:QSs X.nox U φ [.Assign [.Name y py] (.Call (.Name x p) (e::es) [] pos) pos2] f) (hstk:X.stack=X.env::X.outer) (hf:X.env.frame=some X.env.locals)
  (hdb:NDb x:=by decide) (hdc:NDb cx:=by decide) (he:StE e es X:=by rfl) (hpl:BkE pos es X:=by rfl)
  (hs:swapsWith (.Call (.Name x p) (e::es) [] pos) (some (.Name y py)) pos2.line X.env=pure false:=by rfl):
  QS X.nox U φ (.Try [.Assign [.Name y py] (.Call (.Name x p) (e::es) [] pos) pos2] [.ExceptHandler (some (.Name cx np')) none [.Return (some (.Constant .none j p3)) p4] p5] [] [] pos6) (zi4 g ga f):=⟨by
 intro pins s σ H D I hh_
 obtain⟨pp,F,fl,ps',R,e1,q⟩:=hh_
 obtain⟨ds,e2,e3⟩:=bind_some e1
 have J:Inv X pins σ H s:=I.unwish
 refine wpAny_Try_except ?_
 by_cases hgd:g ds=true
 ·rw [if_pos hgd] at e3
  cases e3
  show wpAny (model X.prog X.w) X.A (execs [.Assign [.Name y py] (.Call (.Name x p) (e::es) [] pos) pos2] X.env) _ _ s
  refine X4 (wpAny_Assign_Name ?_ hs)
  refine Y3 (rH J hg Dd.m ?_ hdb)
  refine Yn (h₀:=X.base) J.ok.mod.kin Dd.F.kp (ZP (ha pos pins s σ H (fun vs H1=>SameK H H1/\∃fp,Reps X.K U H1 vs ds fp) I ⟨pp,ds,R.ws,e2,fun vs H1 fp s1 r1=>⟨s1,fp,r1⟩⟩) (fun us s1 hu=> ?_) fun _ _ z=>z.elim) he hpl
  obtain⟨vs,H1,I1,r,sm,fp,rs⟩:=hu
  have J1:Inv X pins σ H1 s1:=I1.unwish
  refine⟨J1.kIn,?_⟩
  have hl:vs.length=np:=by rw [rs.length,hlen pp ds e2,hnp]
  have hps:ps.length=np:=(G.len vs H1 (fun _ _=>False) (fun _ _ _=>True) ⟨hl,ds,fp,rs,hgd,fun _ _=>trivial⟩).symm.trans hl
  have hlu:(us++([]:List Value)).length=ps.length:=by rw [Zl,hps,<-hl,r.length]
  refine wpAny_call (X9 (G.run X.A X.stack s1 H1 ⟨us,[]⟩ us vs (fun _ _=>False) (fun _ _ H'=>D.rt .non H') hr J1.env0 (by have:=Dd.b s1 us J1.kIn hlu;rwa [Zl] at this) r ⟨hl,ds,fp,rs,hgd,fun H' s2=> ?_⟩) fun rr s' hq=> ?_)
  ·exact q .non σ H' F [] (Stp.same R (sm.trans s2)) (OwnV.new R (fun _ h=>absurd h (by simp)) Zi) .non
  ·cases rr with
   |error ee=>exact xq7 (X:=X.nox) (D:=D) (E1:=fun _ _ H'=>D.rt .non H') I1 hstk hf O hbase hgc hq (fun dd H' z=>z) hdc
   |ok f2=>
    cases f2 with
    |ret u=>obtain⟨_,_,_,_,_,_,_,z⟩:=hq;exact z.elim
    |next=>exact hq.elim
    |brk=>exact hq.elim
    |cont=>exact hq.elim
 ·rw [if_neg hgd] at e3
  refine ZP (hA pins s σ H D I ⟨pp,F,fl,ps',R,e3,q⟩) (fun fw s' hq=> ?_) fun _ _ z=>z.elim
  cases fw with
  |next=>exact YH hq
  |brk=>exact hq
  |cont=>exact hq
  |ret u=>exact hq⟩
end
def zW(fa:tz2)(f:tz8):tz8:=fun ps=>(fa ps).bind fun c=>match c with
 | .bl true=>f ps
 | .bl false=>some (.bl false,ps)
 |_=>none
def zu5(f:PSt->Option (Bool×PSt))(g:tz4):PSt->Option (Bool×PSt):=fun ps=>(f ps).bind fun r=>if r.1=true then some (true,r.2) else(g r.2).map (·,r.2)
section
variable{X:Cx}{U:tz9}{φ:F0}{a b:Expr}{pos:Pos}
theorem yw6{fa:tz2}{f:tz8}(ha:QP X U a fa)(hb:QE X U φ b f):QE X U φ (.BoolOp .And [a,b] pos) (zW fa f):=
 (yr5 ha (yr4 hb)).imp fun σ H Q hh_=>by
  obtain⟨ps,F,d,ps',R,e,q⟩:=hh_
  unfold zW at e
  obtain⟨k,e1,e2⟩:=bind_some e
  obtain⟨c,rfl,e3⟩:=zt1 (x:=f ps) (y:=some (.bl false,ps)) e2
  refine⟨ps,_,R.ws,e1,fun v H1 fv s1 _ _ r1=>⟨c,r1.is_bl,?_⟩⟩
  cases c with
  |true=>
   rw [if_pos rfl] at e3|-
   exact⟨ps,F,d,ps',R.same s1,e3,fun u H2 F2 fu s2 o2 r2=>q u H2 F2 fu ((Stp.same R s1).trans s2) (OwnV.after (Stp.same R s1) o2) r2⟩
  |false=>
   rw [if_neg Z7] at e3|-
   cases e3
   exact q _ H1 F [] (Stp.same R s1) (OwnV.new R (fun _ h=>absurd h (by simp)) Zi) (.bl false)
theorem xx0{f:PSt->Option (Bool×PSt)}{g:tz4}(ha:QTE X U φ a f)(hb:QT X U b g):QTE X U φ (.BoolOp .Or [a,b] pos) (zu5 f g):=
 (PW.pt (xk2 ha (yr2 hb))).imp fun σ H Q hh_=>by
  obtain⟨ps,F,c,ps',R,e,q⟩:=hh_
  obtain⟨⟨c1,p1⟩,e1,e2⟩:=bind_some e
  refine⟨ps,F,c1,p1,R,e1,fun H1 F1 s1=> ?_⟩
  cases c1 with
  |true=>
   rw [if_pos rfl] at e2
   cases e2
   exact q H1 F1 s1
  |false=>
   rw [if_neg Z7] at e2
   obtain⟨c2,e3,e4⟩:=Zo.mp e2
   cases e4
   exact⟨p1,_,s1.rs.ws,e3,fun H2 s2=>q H2 F1 (s1.trans (.same s1.rs s2))⟩
end
def oF:List Int->List Int->Bool
 |[],_=>true
 |_::_,[]=>false
 |x::xs,y::ys=>if x=y then oF xs ys else decide (x<=y)
section
open PySem.SeqAt
open PySem.AutoSeq1 (wpAny_loadPart')
open PySem.MeetsSeq PySem.MeetsSeq2 PySem.MeetsSeq3
theorem wd3{prog:Program}{w:World}{A:Around}{E Q:Value->Shared->Prop}{s:Shared}{a c:Int}{t u:Tok}(h:Q (.bool (decide (a<=c))) s):wpAny (model prog w) A (richCompare .LtE (.int a t) (.int c u)) Q E s:=(PyProof.Rows.le_int h:wpAny (model prog w) A (compareOp .LtE (.int a t) (.int c u)) Q E s)
theorem xf9(l b:Addr)(items items2:Array Value)(n n2:Nat)(dd dd2:Option Addr)(sl sl2:Array (Option Value))(ns ms:List Int)(hi:IntsAre items.toList ns)(hj:IntsAre items2.toList ms):
  Meets (Builtin.«tuple.__le__» ⟨[.ref l,.ref b],[]⟩)
   (fun _ R s=>s.heap.get? l=some {cls:= .type "tuple",dict:=dd,data:= .seq items n,slots:=sl}/\s.heap.get? b=some {cls:= .type "tuple",dict:=dd2,data:= .seq items2 n2,slots:=sl2}/\R (.ok (.ret (.bool (oF ns ms)))) s):=
 .of_wp fun prog w A R s h=>by
  obtain⟨hp,g,d,tk,os⟩:=s
  obtain⟨hl,hb,h⟩:=h
  have f2:=X2
  have z1:items.size=ns.length:=by rw [<-hi.length];simp
  have z2:items2.size=ms.length:=by rw [<-hj.length];simp
  wp_walk using Y5 hl,Y5 hb,XI _ (fun rest b s'=>b.1=none/\s'=⟨hp,g,d,tk,os⟩/\∃(vs ws:List Value) (xs ys:List Int),rest=vs.zip ws/\IntsAre vs xs/\IntsAre ws ys/\xs.length+items2.size=ys.length+items.size/\R (.ok (.ret (.bool (oF xs ys)))) ⟨hp,g,d,tk,os⟩) _
  case turn=>
   rintro⟨y,x⟩ rest b s' ⟨hb',rfl,vs,ws,xs,ys,hz,hvi,hwi,hlen,hR⟩
   cases hvi with
   |nil=>rw [YI] at hz;cases hz
   | cons i t hv=>
    cases hwi with
    |nil=>rw [Xi] at hz;cases hz
    | cons j u hw=>
     rw [ZW] at hz
     injection hz with hyx hrest
     injection hyx with hy hx
     subst hy hx
     simp only [Z4] at hlen
     rw [oF] at hR
     obtain⟨e,he,hiff⟩:=HT.eqAt_int A.in1 ⟨hp,g,d,tk,os⟩ i t j u
     refine Zg (he prog w _ _ (?_:wpAny _ _ _ _ _ _))
     cases e with
     |true=>
      rw [if_pos (hiff.mp rfl)] at hR
      wp_walk;exact⟨rfl,rfl,_,_,_,_,hrest,hv,hw,by omega,hR⟩
     |false=>
      rw [if_neg fun q=>absurd (hiff.mpr q) Z7] at hR
      have hri:∀(E Q:Value->Shared->Prop),Q (.bool (decide (i<=j))) ⟨hp,g,d,tk,os⟩->wpAny (model prog w) A.in1 (richCompare .LtE (.int i t) (.int j u)) Q E ⟨hp,g,d,tk,os⟩:=fun E Q h=>wd3 h
      wp_walk using hri;exact⟨_,rfl,by simpa using hR⟩
  case fin=>
   rintro⟨b1,b2⟩ s' ⟨hb',rfl,vs,ws,xs,ys,hz,hvi,hwi,hlen,hR⟩
   simp only at hb'
   subst hb'
   have hv:oF xs ys=decide (items.size<=items2.size):=by
    cases hvi with
    |nil=>rw [oF];simp only [ZJ] at hlen;exact(Zn (by omega)).symm
    |cons i t hv=>
     cases hwi with
     |nil=>rw [oF];simp only [ZJ,Z4] at hlen;exact(Zf (by omega)).symm
     |cons j u hw=>rw [ZW] at hz;cases hz
   rw [hv] at hR;wp_walk
   exact⟨_,rfl,by simpa [Builtin.Tuple.tupleCompareSizes] using hR⟩
  case h=>exact⟨rfl,rfl,items.toList,items2.toList,ns,ms,rfl,hi,hj,by omega,h⟩
end
def yc4:D->D->Option D
 | .tup xs,.tup ys=>(D.ints xs).bind fun ns=>(D.ints ys).map fun ms=> .bl (oF ns ms)
 |_,_=>none
theorem wd4{X:Cx}{U:tz9}(hu:X.A.units+64<cLine):OpR X (compareOp .LtE) (POp X.K U yc4):=⟨by
 rintro pins s σ H x y v u Q I rx ry ⟨dx,dy,d,fx,fy,r1,r2,e,q⟩
 unfold yc4 at e
 split at e
 ·obtain⟨ns,e1,e⟩:=bind_some e
  obtain⟨ms,e2,e⟩:=Zo.mp e
  subst e
  obtain⟨a,vs,rfl,h1,s1⟩:=r1.tup_inv
  obtain⟨b,us,rfl,h2,s2⟩:=r2.tup_inv
  rw [oV s1 e1] at h1
  rw [oV s2 e2] at h2
  cases rx
  cases ry
  obtain⟨its,rv,p1,_⟩:=I.tuple h1
  obtain⟨its2,rv2,p2,_⟩:=I.tuple h2
  obtain⟨⟨cls,dd,data,sl⟩,ho,hc,n,hd⟩:=id p1
  obtain⟨⟨cls2,dd2,data2,sl2⟩,ho2,hc2,n2,hd2⟩:=id p2
  simp only at hc hd hc2 hd2
  subst hc hd hc2 hd2
  exact Xa (op:= .LtE) ⟨_,ho,rfl⟩ ⟨_,ho2,rfl⟩ PySem.F.slot_tuple_le PySem.F.entry_tuple_le (PySem.F.args_tuple_le_2 _ _) (xf9 a b its.toArray its2.toArray n n2 dd dd2 sl sl2 ns ms (by simpa using rS rv) (by simpa using rS rv2))
   ⟨ho,ho2,show Value.bool (oF ns ms)≠Value.notImplemented/\_ from⟨(fun x=>nomatch x),.bl _,H,I,rfl,q.now (.bl _)⟩⟩ (by omega)
 ·cases e⟩
theorem aY{X:Cx}{U:tz9}{φ:F0}(i:Nat){x:Str}{e:Expr}{pos pos':Pos}{f:tz2}(hN:X.N.Nodup)(he:QP X U e f)(hi:X.N[i]? =some x:=by exact rfl)(hx:Loc X.env.scope x:=by first|exact Or.inl rfl|exact Or.inr rfl)(hb:φ.bor i=false:=by exact rfl)(hm:φ.M i=false:=by exact rfl)
  (hs:swapsWith e (some (.Name x pos')) pos.line X.env=pure false:=by exact rfl) (hf:X.fn x=true\/X.env.scope.names.lookup x=some .local:=by first|exact .inl rfl|exact .inr rfl):QS X U φ (.Assign [.Name x pos'] e pos) (aV i (aH f)):=ze7 i hN hi hx hb hm (QP.e he) hs hf
theorem vJ{φ:F0}(k:Nat)(h:φ.bor k=false:=by exact rfl):∀j∈([k]:List Nat),φ.bor j=false:=fun j hj=>by rw [Zc.mp hj];exact h
theorem nd1(k:Nat):([k]:List Nat).Nodup:=by simp
def Cx.held(X:Cx)(ea:Addr)(oe:Obj):Cx:={X with pn:=X.pn++[(ea,oe)],A:=X.A.mark (some (.ref ea)),calm:=false}
end L2
namespace L3
open PySem PySem.Spec PyProof.Rows L2
def top(i:Nat):Stmt:=PySem.Challenge.pw_linepress_k33_whole_wider_no_more.main.body.getD i (.Pass ⟨0,0,0,0⟩)
end L3
namespace My
open PySem PySem.Spec PyProof.Rows L2 L3
variable{P:Program}{w:World}{K:tz0}{mg:tzA}{base:Heap}{U:tz9}
theorem cP{N ps:List Str}{sc:Scope}(a:sc.kind= .function:=by rfl)(b:sc.isCoroutine=false:=by rfl)(c:sc.isGenerator=false:=by rfl)(d:N.Nodup:=by decide+kernel)(e:N.take ps.length=ps:=by rfl)(f:∀x∈ps,sc.names.lookup x=some .local\/sc.names.lookup x=some .cell:=by decide+kernel)(g:∀y∈sc.names,y.2≠ .free:=by decide+kernel):FnScope N ps sc:=⟨a,b,c,d,e,f,g⟩
inductive Leaf where
 |word (x:Str)|gap (x:Str)|stop (c:Int)|fin
inductive Tk where
 |leaf (l:Leaf)|opn|cls|hng (n:Int)|bck|eit|orr|don
inductive Pc where
 |leaf (l:Leaf)|group (r:List Pc)|hang (n:Int) (r:List Pc)|either (rs:List (List Pc))
mutual
def cN:Pc->List Tk
 | .leaf l=>[.leaf l]
 | .group r=> .opn::(toksR r++[.cls])
 | .hang n r=> .hng n::(toksR r++[.bck])
 | .either rs=> .eit::(toksRows rs++[.don])
def toksR:List Pc->List Tk
 |[]=>[]
 |p::r=>cN p++toksR r
def toksRows:List (List Pc)->List Tk
 |[]=>[]
 |r::rs=>toksR r++toksMore rs
def toksMore:List (List Pc)->List Tk
 |[]=>[]
 |r::rs=> .orr::(toksR r++toksMore rs)
end
theorem rY:∀r s:List Pc,toksR (r++s)=toksR r++toksR s
 |[],s=>rfl
 |p::r,s=>by
  show cN p++toksR (r++s)=(cN p++toksR r)++toksR s
  rw [rY r s,Zp]
theorem yw7(p:Pc):toksR [p]=cN p:=by
 show cN p++[]=cN p
 rw [Zl]
mutual
def dZ:Pc->Nat
 | .leaf _=>0
 | .group r=>depR r+1
 | .hang _ r=>depR r+1
 | .either rs=>depRs rs+1
def depR:List Pc->Nat
 |[]=>0
 |p::r=>max (dZ p) (depR r)
def depRs:List (List Pc)->Nat
 |[]=>0
 |r::rs=>max (depR r) (depRs rs)
end
theorem xR:∀(r:List Pc) (p:Pc),depR (r++[p])=max (depR r) (dZ p)
 |[],p=>by
  exact Nat.max_comm (dZ p) 0
 |q::r,p=>by
  show max (dZ q) (depR (r++[p]))=max (max (dZ q) (depR r)) (dZ p)
  rw [xR r p,Nat.max_assoc]
theorem vK:∀(rs:List (List Pc)) (r:List Pc),depRs (rs++[r])=max (depRs rs) (depR r)
 |[],r=>by
  exact Nat.max_comm (depR r) 0
 |q::rs,r=>by
  show max (depR q) (depRs (rs++[r]))=max (max (depR q) (depRs rs)) (depR r)
  rw [vK rs r,Nat.max_assoc]
def zX(c:Nat):Bool:=decide (33<=c)&&decide (c<=126)
def yc5(z:Str):Prop:=1<=z.length/\z.length<=12/\z.cps.toList.all zX=true
def fR:Leaf->Prop
 | .word x=>yc5 x
 | .gap x=>x=""\/x=" "
 | .stop c=>0<=c/\c<=40
 | .fin=>True
end My
namespace My
open PySem PySem.Spec PyProof.Rows L2 L3
variable{P:Program}{w:World}{K:tz0}{mg:tzA}{base:Heap}{U:tz9}
def uZ(ns:List Int)(k:Int):Int:=ns.getD (k % (ns.length:Int)).toNat 0
def zi5(ns:List Int)(k:Int):Int:=k/(if (ns.length:Int)>1 then(ns.length:Int) else 1)
def wb3(ns:List Int)(k salt:Int):Int:=PySem.Builtin.bitAnd (uZ ns k) 2147483647+1009*k*k+7919*salt*salt+12
def zY(ns:List Int)(k salt:Int):Int:=wb3 ns k salt*48271 % 2147483647
def xm1(ns:List Int)(k salt:Int):Int:=zY ns k salt*zY ns k salt % 2147483629
def wM(ns:List Int)(k salt:Int):Int:=PySem.Builtin.bitAnd (uZ ns k/2^(31*(salt+128*zi5 ns k)).toNat+xm1 ns k salt) 2147483647
theorem ye4(ns:List Int)(k salt:Int):0<=wM ns k salt/\wM ns k salt<2147483648:=by
 have e:wM ns k salt=(uZ ns k/2^(31*(salt+128*zi5 ns k)).toNat+xm1 ns k salt) % 2147483648:=PySem.W.kbt_mask _ 31
 rw [e]
 exact⟨ZD _ (by decide),ZB _ (by decide)⟩
def yc6(K:tz0):Sp:=fun vs H Q _=>∃(a:Addr) (ns:List Int) (k:Int),vs=[.ref a,.int k]/\SqL K H a (ns.map V.int)/\Q (.int (uZ ns k)) H
def yj9(K:tz0):Sp:=fun vs H Q _=>∃(a:Addr) (ns:List Int) (k salt:Int),vs=[.ref a,.int k,.int salt]/\SqL K H a (ns.map V.int)/\ns.length<=63/\(0<=k/\k<1000000)/\(0<=salt/\salt<1000000)/\Q (.int (wM ns k salt)) H
abbrev oG:Stmt:=top 36
abbrev yc7:List Str:=["_law_script","_law_k"]
theorem xS:FnScope ["_law_script","_law_k"] yc7 (aU oG):=cP
theorem zy4{n:Nat}{f:Addr}{fd:FuncData}(D:Dn K mg "_law_cell_at" oG ["_law_script","_law_k"] f fd)(aa:mg "len"=none):
  FnOk P w K mg base CX0 (n+1) f fd ["_law_script","_law_k"] (yc6 K):=by
 refine D.F.ok xS (fun vs H Q E h=> ?_) (fun cdv A outer s H vs Q E hr h=> ?_)
 ·obtain⟨a,ns,k,rfl,_⟩:=h
  rfl
 obtain⟨a,ns,k,rfl,hS,q⟩:=h
 refine⟨_,(kZ (yk1 (yf5 yk6 (rP jE rfl aa ZK (fU (pv 0) nM)) iF (bG _)) (yY (xI iF)) ye9)
  (yY (xI (zs8 zk1 (pv 0) (fY zd9 (pv 1) (rP jE rfl aa ZK (fU (pv 0) nM))) (fun _ _=>rfl))))),?_⟩
 have hl:(ns.map V.int).length=ns.length:=Zh _
 refine⟨_,rfl,a,_,rfl,.inl hS,rfl,_,rfl,?_⟩
 refine wf8 (fun c=> ?_) (fun c=> ?_)
 ·have e:(((ns.map V.int).length:Nat):Int)=0:=by simpa using c
  have e':ns=[]:=by
   rw [hl] at e
   exact Xw (by omega)
  subst e'
  exact q
 ·have e:¬(((ns.map V.int).length:Nat):Int)=0:=by simpa using c
  rw [hl] at e
  have hp:(0:Int)<((ns.map V.int).length:Nat):=by rw [hl];omega
  refine⟨_,rfl,_,rfl,_,rfl,a,_,rfl,.inl hS,_,_,rfl,rfl,hp,a,_,_,_,rfl,rfl,hS,?_,q⟩
  rw [hl]
  have h0:=ZD k e
  have h1:=ZB k (show(0:Int)<ns.length by omega)
  have ek:k % (ns.length:Int)=(((k % (ns.length:Int)).toNat:Nat):Int):=by omega
  rw [ek]
  refine zk0 ?_
  rw [Zb,Zr (by omega)]
  unfold uZ
  rw [YG,Zr (by omega)]
  rfl
abbrev mH:Stmt:=top 37
abbrev jY:List Str:=["_law_script","_law_k","_law_salt"]
theorem jR:FnScope ["_law_script","_law_k","_law_salt","_law_cell","_law_lap","_law_near"] jY (aU mH):=cP
theorem yn2{n:Nat}{f f1:Addr}{fd fd1:FuncData}(D:Dn K mg "_law_mixed" mH ["_law_script","_law_k","_law_salt"] f fd)(jw:Dn K mg "_law_cell_at" oG ["_law_script","_law_k"] f1 fd1)
  (mz:FnOk P w K mg base CX0 n f1 fd1 ["_law_script","_law_k"] (yc6 K)) (aa:mg "len"=none) (qe:mg "max"=none):
  FnOk P w K mg base CX0 (n+1) f fd ["_law_script","_law_k","_law_salt"] (yj9 K):=by
 refine D.F.ok jR (fun vs H Q E h=> ?_) (fun cdv A outer s H vs Q E hr h=> ?_)
 ·obtain⟨a,ns,k,salt,rfl,_⟩:=h
  rfl
 obtain⟨a,ns,k,salt,rfl,hS,h63,⟨hk0,hk1⟩,⟨hs0,hs1⟩,q⟩:=h
 refine⟨_,(kZ (rN (i:=3) jR.nd rfl (.inl rfl) (yl6 jw mz hr rfl (fU (pv 0) (fU (pv 1) nM))))
  (kZ (rN (i:=4) jR.nd rfl (.inl rfl) (fY yf1 (pv 1) (rP (ys3 rfl) rfl qe boot_max (fU iF (fU (rP jE rfl aa ZK (fU (pv 0) nM)) nM)))))
  (kZ (rN (i:=5) jR.nd rfl (.inl rfl) (fY uE (fY uE (fY uE (fY ys1 (pv 3) iF) (fY nL (fY nL iF (pv 1)) (pv 1))) (fY nL (fY nL iF (pv 2)) (pv 2))) iF))
  (kZ (rN (i:=5) jR.nd rfl (.inl rfl) (fY zd9 (fY nL (pv 5) iF) iF))
  (kZ (rN (i:=5) jR.nd rfl (.inl rfl) (fY zd9 (fY nL (pv 5) (pv 5)) iF))
  (yY (xI (fY ys1 (fY uE (fY xu2 (pv 3) (fY nL iF (fY uE (pv 2) (fY nL iF (pv 4))))) (pv 5)) iF)))))))),?_⟩
 have hl:(ns.map V.int).length=ns.length:=Zh _
 have hlap:0<=zi5 ns k:=by unfold zi5;exact Int.ediv_nonneg hk0 (by split<;>omega)
 have hn1:0<=zY ns k salt/\zY ns k salt<2147483647:=⟨ZD _ (by decide),ZB _ (by decide)⟩
 refine⟨_,rfl,_,rfl,a,ns,k,rfl,hS,?_⟩
 refine⟨_,rfl,_,rfl,a,_,rfl,.inl hS,_,_,rfl,_,_,rfl,rfl,?_,?_⟩
 ·rw [hl];constructor
  ·split<;>omega
  ·split<;>omega
 rw [hl]
 refine⟨_,rfl,_,_,rfl,rfl,_,rfl,_,_,rfl,rfl,.inl ⟨by decide,by decide⟩,_,rfl,_,_,rfl,rfl,.inr ⟨by omega,by omega⟩,_,_,rfl,rfl,_,rfl,_,_,rfl,rfl,.inl ⟨by decide,by decide⟩,_,rfl,_,_,rfl,rfl,.inr ⟨by omega,by omega⟩,_,_,rfl,rfl,_,_,rfl,rfl,?_⟩
 refine⟨_,rfl,_,_,rfl,rfl,.inr ⟨by decide,by decide⟩,_,_,rfl,rfl,(by show(0:Int)<2147483647;decide),?_⟩
 refine⟨_,rfl,_,rfl,_,_,rfl,rfl,.inl ⟨by show-(2^64)<zY ns k salt;omega,by show zY ns k salt<2^64;omega⟩,_,_,rfl,rfl,(by show(0:Int)<2147483629;decide),?_⟩
 refine⟨_,rfl,_,rfl,_,rfl,_,_,rfl,rfl,.inl ⟨by decide,by decide⟩,_,_,rfl,rfl,_,_,rfl,rfl,.inl ⟨by decide,by decide⟩,_,_,rfl,rfl,?_,_,rfl,_,_,rfl,rfl,_,_,rfl,rfl,q⟩
 show 0<=31*(salt+128*zi5 ns k)
 omega
end My
namespace L3
open PySem PySem.Spec PyProof.Rows L2 My
variable{P:Program}{w:World}{K:tz0}{mg:tzA}{base:Heap}{U:tz9}
def sI(cg:(tz7)):tz1:=
 (bS (aH (mO (eP "Place" (cA [.im (fC (.bl true)),.im (fC (.int 0))]) cg))))
abbrev iI:Stmt:=top 7
abbrev eZ:List Str:=[]
theorem rZ:FnScope [] eZ (aU iI):=cP
theorem zc0(aw:Dn K mg "first_place" iI eZ f fd)
  (gi:Kn K mg U "Place" "Place.__init__" st_Place_init ps_Place_init i8 ij) (dc:FnOk P w K mg base CX0 n i8 ij ps_Place_init (SpE 3 K U (bD [true,false,false]) cg)):
  FnOk P w K mg base CX0 ((n+1)+1) f fd eZ (SpP 0 K U (gP 0 0 (sI cg))):=
 cW aw.F rZ fun cdv A outer s H E B hr=>
 (aM (bQ (QP.e (zf5 (mC gi dc hr rfl (bO (QP.v qT) (bO (QP.v aG) dC)) rfl rfl (dD 2))))))
def tG:tz1:=
 (bS (aH (f2 dIn (f2 dIx (aA 0) (fC (.int 0))) (fC (.tup [(.str "group"),(.str "hang"),(.str "either")])))))
abbrev iU:Stmt:=top 8
abbrev fI:List Str:=["piece"]
theorem sR:FnScope ["piece"] fI (aU iU):=cP
theorem zf9(a7:Dn K mg "holds_rows" iU fI f fd)
  (l6:mg "HOLDERS"=some (.ref j0)) (l7:∀H,Rep K U H (.ref j0) (.tup [(.str "group"),(.str "hang"),(.str "either")]) []):
  FnOk P w K mg base CX0 (n+1) f fd fI (SpP 1 K U (gP 1 0 (tG))):=
 cW a7.F sR fun cdv A outer s H E B hr=>
 (aM (bQ (QP.e (nN xw3 (aZ (aB 0) (QP.v aG)) (QP.v (xo5 (v:= .ref j0) (d:=(.tup [(.str "group"),(.str "hang"),(.str "either")])) rfl l6 rfl l7)) (by with_unfolding_all rfl)))))
def qO:tz1:=
 (bS (aH (fOr (f2 dEq (f2 dIx (aA 0) (fC (.int 0))) (fC (.str "either"))) (qJ (f2 dEq (f2 dIx (aA 0) (fC (.int 0))) (fC (.str "group"))) (bB (cD "Place" "broken" (aA 1)))))))
abbrev gW:Stmt:=top 9
abbrev eR:List Str:=["piece","place"]
theorem qN:FnScope ["piece","place"] eR (aU gW):=cP
theorem za2(ao:Dn K mg "takes_choice" gW eR f fd)
  (av:Cls K (U "Place"))
  (bd:cC K (U "Place") "broken"):
  FnOk P w K mg base CX0 (n+1) f fd eR (SpP 2 K U (gP 2 0 (qO))):=
 cW ao.F qN fun cdv A outer s H E B hr=>
 (aM (bQ (QP.e (wc5 (nN (hJ (Room.units hr)) (aZ (aB 0) (QP.v aG)) (QP.v bZ) (bG _)) (zw2 (yu3 (nN (hJ (Room.units hr)) (aZ (aB 0) (QP.v aG)) (QP.v bZ) (bG _)) (zw2 (QV.p (cU (C:="Place") av bd (aB 1))))))))))
def lN(cg:(tz7)):tz1:=
 (aS (aV 2 (aH (bB (f2 dIx (aA 0) (fC (.int 0))))))
 (aS (fIf (aT (fB (f2 dEq (aA 2) (fC (.str "hang")))))
  (bS (aH (dA (aC (cZ (aC (bB (f2 dIx (aA 0) (fC (.int 2)))) (aC (mO (eP "Place" (cA [.im (cD "Place" "broken" (aA 1)),.im (f2 cE (cD "Place" "margin" (aA 1)) (f2 dIx (aA 0) (fC (.int 1))))]) cg)) aE))) aE))))
  bK)
 (aS (fIf (aT (fB (f2 dEq (aA 2) (fC (.str "either")))))
  (bS (aH (mX [none,some 1] (eT (f2 dIx (aA 0) (fC (.int 1)))) nC (cZ (aC (bB (aA 0)) (aC (bB (aA 1)) aE))))))
  bK)
 (aS (aV 3 (aH (cZ (aC (bB (f2 dIx (aA 0) (fC (.int 1)))) (aC (mO (eP "Place" (cA [.im (fC (.bl false)),.im (cD "Place" "margin" (aA 1))]) cg)) aE)))))
 (aS (fIf (aT (fT (cD "Place" "broken" (aA 1))))
  (bS (aH (dA (aC (bB (aA 3)) (aC (cZ (aC (bB (f2 dIx (aA 0) (fC (.int 1)))) (aC (bB (aA 1)) aE))) aE)))))
  bK)
 (bS (aH (dA (aC (bB (aA 3)) aE)))))))))
abbrev nH:Stmt:=top 10
abbrev lO:List Str:=["piece","place"]
theorem sS:FnScope ["piece","place","kind","on_one_line"] lO (aU nH):=cP
theorem yw8(fm:Dn K mg "ways" nH lO f fd)
  (gi:Kn K mg U "Place" "Place.__init__" st_Place_init ps_Place_init i8 ij) (dc:FnOk P w K mg base CX0 n i8 ij ps_Place_init (SpE 3 K U (bD [true,false,false]) cg))
  (av:Cls K (U "Place"))
  (bd:cC K (U "Place") "broken")
  (c8:cC K (U "Place") "margin"):
  FnOk P w K mg base CX0 ((n+1)+1) f fd lO (SpP 2 K U (gP 2 2 (lN cg))):=
 cW fm.F sS fun cdv A outer s H E B hr=>
 (aL (aY 2 sS.nd (QV.p (aZ (aB 0) (QP.v aG))))
 (aL (cB (QT.e (bP (hJ (Room.units hr)) (aB 2) (QP.v bZ) (bG _)))
  (aM (bQ (QP.e (eG (aR (eC (aR (QV.p (aZ (aB 0) (QP.v aG))) (aR (zf5 (mC gi dc hr rfl (bO (cU (C:="Place") av bd (aB 1)) (bO (QP.v (bC eM (cU (C:="Place") av c8 (aB 1)) (aZ (aB 0) (QP.v aG)))) dC)) rfl rfl (dD 2))) bI))) bI)))))
  bU)
 (aL (cB (QT.e (bP (hJ (Room.units hr)) (aB 2) (QP.v bZ) (bG _)))
  (aM (bQ (QP.e (zF (sc:=aU nH) (NX:=["piece","place","kind","on_one_line"]) (N:=["row","place"]) (pick:=[none,some 1]) ⟨rfl,by decide+kernel,by decide+kernel,by decide+kernel,by decide+kernel,by decide,rfl⟩ rfl rfl rfl (ze9 (aZ (aB 0) (QP.v aG))) (fun _ _ _ _=>(iD (i:=0) (show(["row","place"]:List Str).Nodup by decide) rfl (by first|exact Or.inl rfl|exact Or.inr rfl))) (fun _ _ _ _=>zE) (fun _ _ _ _=>(eC (aR (QV.p (aB 0)) (aR (QV.p (aB 1)) bI))))))))
  bU)
 (aL (aY 3 sS.nd (eC (aR (QV.p (aZ (aB 0) (QP.v aG))) (aR (zf5 (mC gi dc hr rfl (bO (QP.v qT) (bO (cU (C:="Place") av c8 (aB 1)) dC)) rfl rfl (dD 2))) bI))))
 (aL (cB (QT.e (iR (cU (C:="Place") av bd (aB 1))))
  (aM (bQ (QP.e (eG (aR (QV.p (aB 3)) (aR (eC (aR (QV.p (aZ (aB 0) (QP.v aG))) (aR (QV.p (aB 1)) bI))) bI))))))
  bU)
 (aM (bQ (QP.e (eG (aR (QV.p (aB 3)) bI))))))))))
def xC:tz1:=
 (bS (aH (f2 cE (fC (.str "\n")) (f2 hX (fC (.str " ")) (aA 0)))))
abbrev mY:Stmt:=top 11
abbrev kH:List Str:=["blanks"]
theorem wY:FnScope ["blanks"] kH (aU mY):=cP
theorem zs2(de:Dn K mg "new_line" mY kH f fd)
     :
  FnOk P w K mg base CX0 (n+1) f fd kH (SpP 1 K U (gP 1 0 (xC))):=
 cW de.F wY fun cdv A outer s H E B hr=>
 (aM (bQ (QP.e (bC eM (QP.v bZ) (QP.v (bC qU (QP.v bZ) (aB 0)))))))
def oH(i9:(tz6)):tz1:=
 (aS (aV 3 (aH (bB (f2 dIx (aA 0) (fC (.int 0))))))
 (aS (fIf (aT (fB (f2 dEq (aA 3) (fC (.str "word")))))
  (bS (aH (bB (f2 dIx (aA 0) (fC (.int 1))))))
  bK)
 (aS (fIf (aT (cH (fB (f2 dEq (aA 3) (fC (.str "gap")))) (eD (fT (cD "Place" "broken" (aA 1))))))
  (bS (aH (bB (f2 dIx (aA 0) (fC (.int 1))))))
  bK)
 (aS (fIf (aT (cH (fB (f2 dEq (aA 3) (fC (.str "stop")))) (fB (f2 dLe (aA 2) (f2 dIx (aA 0) (fC (.int 1)))))))
  (bS (aH (f2 hX (fC (.str " ")) (f2 gF (f2 dIx (aA 0) (fC (.int 1))) (aA 2)))))
  bK)
 (aS (fIf (aT (eD (fT (cD "Place" "broken" (aA 1)))))
  (bS (aH (fC .non)))
  bK)
 (aS (fIf (aT (fB (f2 dEq (aA 3) (fC (.str "stop")))))
  (bS (aH (aJ i9 (aC (f2 dIx (aA 0) (fC (.int 1))) aE))))
  bK)
 (bS (aH (aJ i9 (aC (cD "Place" "margin" (aA 1)) aE))))))))))
abbrev lP:Stmt:=top 12
abbrev iJ:List Str:=["piece","place","column"]
theorem sA:FnScope ["piece","place","column","kind"] iJ (aU lP):=cP
theorem zy5(cc:Dn K mg "writing" lP iJ f fd)
  (de:Dn K mg "new_line" mY kH l9 lz) (ja:FnOk P w K mg base CX0 n l9 lz kH (SpP 1 K U i9))
  (av:Cls K (U "Place"))
  (bd:cC K (U "Place") "broken")
  (c8:cC K (U "Place") "margin"):
  FnOk P w K mg base CX0 (n+1) f fd iJ (SpP 3 K U (gP 3 1 (oH i9))):=
 cW cc.F sA fun cdv A outer s H E B hr=>
 (aL (aY 3 sA.nd (QV.p (aZ (aB 0) (QP.v aG))))
 (aL (cB (QT.e (bP (hJ (Room.units hr)) (aB 3) (QP.v bZ) (bG _)))
  (aM (bQ (QP.e (QV.p (aZ (aB 0) (QP.v aG))))))
  bU)
 (aL (cB (QT.e (mI (kE (bP (hJ (Room.units hr)) (aB 3) (QP.v bZ) (bG _)) (jF (rT (iR (cU (C:="Place") av bd (aB 1))))))))
  (aM (bQ (QP.e (QV.p (aZ (aB 0) (QP.v aG))))))
  bU)
 (aL (cB (QT.e (mI (kE (bP (hJ (Room.units hr)) (aB 3) (QP.v bZ) (bG _)) (jF (bP zw4 (aB 2) (aZ (aB 0) (QP.v aG)) (bG _))))))
  (aM (bQ (QP.e (bC qU (QP.v bZ) (QP.v (bC lY (aZ (aB 0) (QP.v aG)) (aB 2)))))))
  bU)
 (aL (cB (QT.e (rT (iR (cU (C:="Place") av bd (aB 1)))))
  (aM (bQ (QP.e gV)))
  bU)
 (aL (cB (QT.e (bP (hJ (Room.units hr)) (aB 3) (QP.v bZ) (bG _)))
  (aM (bQ (QP.e (cS de ja hr rfl rfl (aF (aZ (aB 0) (QP.v aG)) aQ) (aN bM)))))
  bU)
 (aM (bQ (QP.e (cS de ja hr rfl rfl (aF (cU (C:="Place") av c8 (aB 1)) aQ) (aN bM)))))))))))
def pC:tz1:=
 (bS (aH (fMt pJ (aA 0) (aC (fC (.str "\n")) aE))))
abbrev jJ:Stmt:=top 13
abbrev fX:List Str:=["wrote"]
theorem uJ:FnScope ["wrote"] fX (aU jJ):=cP
theorem zm0(bh:Dn K mg "ends_line" jJ fX f fd)
     :
  FnOk P w K mg base CX0 (n+1) f fd fX (SpP 1 K U (gP 1 0 (pC))):=
 cW bh.F uJ fun cdv A outer s H E B hr=>
 (aM (bQ (QP.e (ze6 PySem.F.slot_str_startswith PySem.F.type_str_startswith zx7 (aB 0) (aF (QP.v bZ) aQ)))))
def dW(cz:(tz6)):tz1:=
 (aS (fIf (aT (fT (aJ cz (aC (aA 1) aE))))
  (bS (aH (f2 gF (aJ cT (aC (aA 1) aE)) (fC (.int 1)))))
  bK)
 (bS (aH (f2 cE (aA 0) (aJ cT (aC (aA 1) aE))))))
abbrev gI:Stmt:=top 14
abbrev eK:List Str:=["column","wrote"]
theorem pP:FnScope ["column","wrote"] eK (aU gI):=cP
theorem xT(al:Dn K mg "column_behind" gI eK f fd)
  (bh:Dn K mg "ends_line" jJ fX ik g4) (dh:FnOk P w K mg base CX0 n ik g4 fX (SpP 1 K U cz))
  (aa:mg "len"=none):
  FnOk P w K mg base CX0 (n+1) f fd eK (SpP 2 K U (gP 2 0 (dW cz))):=
 cW al.F pP fun cdv A outer s H E B hr=>
 (aL (cB (QT.e (iR (QP.v (cS bh dh hr rfl rfl (aF (aB 1) aQ) (aN bM)))))
  (aM (bQ (QP.e (bC lY (QP.v (cO eW rfl aa ZK (aF (aB 1) aQ))) (QP.v aG)))))
  bU)
 (aM (bQ (QP.e (bC eM (aB 0) (QP.v (cO eW rfl aa ZK (aF (aB 1) aQ))))))))
def sJ(ah:(tz7))(aj:(tz7)):tz1:=
 (aS (aV 2 (aH (eP "Front" (cA [.im (cD "Front" "steps" (aA 0))]) ah)))
 (aS (iQ 3 (uY (bB (cD "Front" "best" (aA 0))))
  (aS (aV 4 (aH (bB (f2 kR (cD "Front" "best" (aA 0)) (aA 3)))))
 (cY (dH 2 bH (cA [.im (aA 3),.im (cZ (aC (bB (f2 dIx (aA 4) (fC (.int 0)))) (aC (f2 cE (f2 dIx (aA 4) (fC (.int 1))) (cZ (aC (bB (aA 1)) aE))) aE)))]) (dS "Front" "add" aj)))))
 (nZ 2)))
abbrev jZ:Stmt:=top 17
abbrev iK:List Str:=["front","number"]
theorem iG:FnScope ["front","number","chosen","state","way"] iK (aU jZ):=cP
theorem zc1(cr:Dn K mg "with_choice" jZ iK f fd)
  (b5:Kn K mg U "Front" "Front.__init__" st_Front_init ps_Front_init ci bz) (ar:FnOk P w K mg base CX0 n ci bz ps_Front_init (SpE 2 K U (bD [true,false]) ah))
  (ak:Mn K U "Front" "add" "Front.add" st_Front_add ps_Front_add c9 cj) (az:FnOk P w K mg base CX0 (n+1) c9 cj ps_Front_add (SpE 3 K U (bD [true,false,false]) aj))
  (ac:Cls K (U "Front"))
  (ag:cC K (U "Front") "best")
  (b6:cC K (U "Front") "steps"):
  FnOk P w K mg base CX0 ((n+1)+1) f fd iK (SpP 2 K U (gP 2 3 (sJ ah aj))):=
 cW cr.F iG fun cdv A outer s H E B hr=>
 (aL (aY 2 iG.nd (mC b5 ar hr rfl (bO (cU (C:="Front") ac b6 (aB 0)) dC) rfl rfl (dD 1)))
 (aL (xM 3 ZR rfl iG.nd rfl (.inl rfl) rfl rfl (zl9 (QV.p (cU (C:="Front") ac ag (aB 0))))
  (aL (aY 4 iG.nd (QV.p (zG (zB hr) (cU (C:="Front") ac ag (aB 0)) (aB 3))))
 (aM (fD (kL ak az hr rfl (bJ 2) (bO (aB 3) (bO (QP.v (eC (aR (QV.p (aZ (aB 4) (QP.v aG))) (aR (bC eM (aZ (aB 4) (QP.v aG)) (QP.v (eC (aR (QV.p (aB 1)) bI)))) bI)))) dC)) rfl rfl (dD 2))))))
 (aM (lZ 2 rfl))))
def qP(ah:(tz7))(c5:(tz6))(aj:(tz7)):tz1:=
 (aS (aV 3 (aH (eP "Front" (cA [.im (cD "Front" "steps" (aA 0))]) ah)))
 (aS (iQ 4 (uY (bB (cD "Front" "best" (aA 0))))
  (aS (aV 5 (aH (bB (f2 kR (cD "Front" "best" (aA 0)) (aA 4)))))
 (aS (aV 6 (aH (aJ c5 (aC (pW "WithinWidth" "state_behind" (cD "Front" "steps" (aA 0))) (aC (aA 4) (aC (f2 dIx (aA 5) (fC (.int 0))) (aC (aA 1) (aC (aA 2) aE))))))))
 (fIf (aT (fB (f2 mS (aA 6) (fC .non))))
  (cY (dH 3 bH (cA [.im (f2 dIx (aA 6) (fC (.int 0))),.im (cZ (aC (bB (f2 dIx (aA 6) (fC (.int 1)))) (aC (bB (f2 dIx (aA 5) (fC (.int 1)))) aE)))]) (dS "Front" "add" aj)))
  bK))))
 (nZ 3)))
abbrev jB:Stmt:=top 18
abbrev gY:List Str:=["front","piece","place"]
theorem fK:FnScope ["front","piece","place","behind","state","way","reached"] gY (aU jB):=cP
theorem za3(b7:Dn K mg "behind_plain" jB gY f fd)
  (b5:Kn K mg U "Front" "Front.__init__" st_Front_init ps_Front_init ci bz) (ar:FnOk P w K mg base CX0 n ci bz ps_Front_init (SpE 2 K U (bD [true,false]) ah))
  (ai:Mn K U "WithinWidth" "state_behind" "WithinWidth.state_behind" st_WithinWidth_state_behind ps_WithinWidth_state_behind gh fg) (c6:FnOk P w K mg base CX0 (n+1) gh fg ps_WithinWidth_state_behind (SpP 5 K U c5))
  (ak:Mn K U "Front" "add" "Front.add" st_Front_add ps_Front_add c9 cj) (az:FnOk P w K mg base CX0 (n+1) c9 cj ps_Front_add (SpE 3 K U (bD [true,false,false]) aj))
  (ac:Cls K (U "Front"))
  (ag:cC K (U "Front") "best")
  (b6:cC K (U "Front") "steps"):
  FnOk P w K mg base CX0 ((n+1)+1) f fd gY (SpP 3 K U (gP 3 4 (qP ah c5 aj))):=
 cW b7.F fK fun cdv A outer s H E B hr=>
 (aL (aY 3 fK.nd (mC b5 ar hr rfl (bO (cU (C:="Front") ac b6 (aB 0)) dC) rfl rfl (dD 1)))
 (aL (xM 4 ZR rfl fK.nd rfl (.inl rfl) rfl rfl (zl9 (QV.p (cU (C:="Front") ac ag (aB 0))))
  (aL (aY 5 fK.nd (QV.p (zG (zB hr) (cU (C:="Front") ac ag (aB 0)) (aB 4))))
 (aL (aY 6 fK.nd (zy3 ai c6 hr (cU (C:="Front") ac b6 (aB 0)) rfl (aF (aB 4) (aF (aZ (aB 5) (QP.v aG)) (aF (aB 1) (aF (aB 2) aQ)))) (aN (aN (aN (aN bM))))))
 (aM (cB (QT.e (bP zk6 (aB 6) (QP.v gV) (bG _)))
  (aM (fD (kL ak az hr rfl (bJ 3) (bO (aZ (aB 6) (QP.v aG)) (bO (QP.v (eC (aR (QV.p (aZ (aB 6) (QP.v aG))) (aR (QV.p (aZ (aB 5) (QP.v aG))) bI)))) dC)) rfl rfl (dD 2))))
  bU)))))
 (aM (lZ 3 rfl))))
def pX(ah:(tz7))(ip:(tz6))(bi:(tz6))(jb:(tz6))(jc:(tz7))(b8:(tz6)):tz1:=
 (aS (aV 3 (aH (eP "Front" (cA [.im (cD "Front" "steps" (aA 0))]) ah)))
 (aS (zu0 [4,5] (zu3 (aJ ip (aC (aA 1) (aC (aA 2) aE))))
  (aS (aV 6 (aH (bB (aA 0))))
 (aS (fIf (aT (fT (aJ bi (aC (aA 1) (aC (aA 2) aE)))))
  (aV 6 (aH (jX (aJ jb (aC (aA 0) (aC (aA 4) aE))))))
  bK)
 (cY (dH 3 bH (cA [.im (aJ b8 (aC (aA 6) (aC (f2 dIx (aA 5) (fC (.int 0))) (aC (f2 dIx (aA 5) (fC (.int 1))) aE))))]) (dS "Front" "add_all" jc))))))
 (nZ 3)))
abbrev iV:Stmt:=top 19
abbrev gJ:List Str:=["front","piece","place"]
theorem eI:FnScope ["front","piece","place","behind","number","way","chosen"] gJ (aU iV):=cP
theorem xU(bv:Dn K mg "behind_holder" iV gJ f fd)
  (b5:Kn K mg U "Front" "Front.__init__" st_Front_init ps_Front_init ci bz) (ar:FnOk P w K mg base CX0 n ci bz ps_Front_init (SpE 2 K U (bD [true,false]) ah))
  (fm:Dn K mg "ways" nH lO lj ku) (jo:FnOk P w K mg base CX0 (n+1) lj ku lO (SpP 2 K U ip))
  (ao:Dn K mg "takes_choice" gW eR f6 dw) (b9:FnOk P w K mg base CX0 (n+1) f6 dw eR (SpP 2 K U bi))
  (cr:Dn K mg "with_choice" jZ iK ky kj) (jd:FnOk P w K mg base CX0 (n+1) ky kj iK (SpP 2 K U jb))
  (cu:Mn K U "Front" "add_all" "Front.add_all" st_Front_add_all ps_Front_add_all kz kl) (je:FnOk P w K mg base CX0 (n+1) kz kl ps_Front_add_all (SpE 2 K U (bD [true,false]) jc))
  (a8:Dn K mg "behind_row" st_p_behind_row ps_p_behind_row g5 gn) (eh:FnOk P w K mg base CX0 (n+1) g5 gn ps_p_behind_row (SpP 3 K U b8))
  (ac:Cls K (U "Front"))
  (b6:cC K (U "Front") "steps")
  (k8:mg "enumerate"=none):
  FnOk P w K mg base CX0 ((n+1)+1) f fd gJ (SpP 3 K U (gP 3 4 (pX ah ip bi jb jc b8))):=
 cW bv.F eI fun cdv A outer s H E B hr=>
 (aL (aY 3 eI.nd (mC b5 ar hr rfl (bO (cU (C:="Front") ac b6 (aB 0)) dC) rfl rfl (dD 1)))
 (aL (xq5 [4,5] ZR rfl rfl k8 (cS fm jo hr rfl rfl (aF (aB 1) (aF (aB 2) aQ)) (aN (aN bM))) (oU (iD (i:=4) eI.nd rfl (.inl rfl)) (oU (iD (i:=5) eI.nd rfl (.inl rfl)) yf0)) (fun j hj=>by simp only [Z6,ZX,Xp] at hj;rcases hj with rfl|rfl<;>exact⟨rfl,rfl⟩)
  (aL (aY 6 eI.nd (QV.p (aB 0)))
 (aL (cB (QT.e (iR (QP.v (cS ao b9 hr rfl rfl (aF (aB 1) (aF (aB 2) aQ)) (aN (aN bM))))))
  (aM (aY 6 eI.nd (uI (cS cr jd hr rfl rfl (aF (aB 0) (aF (aB 4) aQ)) (aN (aN bM))))))
  bU)
 (aM (fD (kL cu je hr rfl (bJ 3) (bO (QP.v (cS a8 eh hr rfl rfl (aF (aB 6) (aF (aZ (aB 5) (QP.v aG)) (aF (aZ (aB 5) (QP.v aG)) aQ))) (aN (aN (aN bM))))) dC) rfl rfl (dD 1)))))))
 (aM (lZ 3 rfl))))
def oI(ca:(tz6))(ib:(tz6))(iq:(tz6)):tz1:=
 (aS (aV 3 (aH (bB (aA 0))))
 (aS (iQ 4 (eT (aA 1))
  (fIf (aT (fT (aJ ca (aC (aA 4) aE))))
  (aV 3 (aH (jX (aJ ib (aC (aA 3) (aC (aA 4) (aC (aA 2) aE)))))))
  (aV 3 (aH (jX (aJ iq (aC (aA 3) (aC (aA 4) (aC (aA 2) aE)))))))))
 (nZ 3)))
abbrev st_p_behind_row:Stmt:=top 20
abbrev ps_p_behind_row:List Str:=["front","row","place"]
theorem gM:FnScope ["front","row","place","behind","piece"] ps_p_behind_row (aU st_p_behind_row):=cP
theorem zg0(a8:Dn K mg "behind_row" st_p_behind_row ps_p_behind_row f fd)
  (a7:Dn K mg "holds_rows" iU fI g6 gq) (db:FnOk P w K mg base CX0 n g6 gq fI (SpP 1 K U ca))
  (bv:Dn K mg "behind_holder" iV gJ kc j3) (mo:FnOk P w K mg base CX0 n kc j3 gJ (SpP 3 K U ib))
  (b7:Dn K mg "behind_plain" jB gY km ke) (ir:FnOk P w K mg base CX0 n km ke gY (SpP 3 K U iq)):
  FnOk P w K mg base CX0 (n+1) f fd ps_p_behind_row (SpP 3 K U (gP 3 2 (oI ca ib iq))):=
 cW a8.F gM fun cdv A outer s H E B hr=>
 (aL (aY 3 gM.nd (QV.p (aB 0)))
 (aL (zk8 4 1 ZR rfl gM.nd rfl (.inl rfl) rfl rfl rfl
  (aM (cB (QT.e (iR (QP.v (cS a7 db hr rfl rfl (aF (aB 4) aQ) (aN bM)))))
  (aM (aY 3 gM.nd (uI (cS bv mo hr rfl rfl (aF (aB 3) (aF (aB 4) (aF (aB 2) aQ))) (aN (aN (aN bM)))))))
  (aM (aY 3 gM.nd (uI (cS b7 ir hr rfl rfl (aF (aB 3) (aF (aB 4) (aF (aB 2) aQ))) (aN (aN (aN bM))))))))))
 (aM (lZ 3 rfl))))
def pY(b8:(tz6))(bp:(tz6)):tz1:=
 (bS (aH (aJ b8 (aC (aA 0) (aC (aA 1) (aC (aJ bp aE) aE))))))
abbrev gK:Stmt:=top 21
abbrev eL:List Str:=["front","pieces"]
theorem pQ:FnScope ["front","pieces"] eL (aU gK):=cP
theorem xV(am:Dn K mg "behind_pieces" gK eL f fd)
  (a8:Dn K mg "behind_row" st_p_behind_row ps_p_behind_row g5 gn) (eh:FnOk P w K mg base CX0 n g5 gn ps_p_behind_row (SpP 3 K U b8))
  (aw:Dn K mg "first_place" iI eZ gs f7) (cv:FnOk P w K mg base CX0 n gs f7 eZ (SpP 0 K U bp)):
  FnOk P w K mg base CX0 (n+1) f fd eL (SpP 2 K U (gP 2 0 (pY b8 bp))):=
 cW am.F pQ fun cdv A outer s H E B hr=>
 (aM (bQ (QP.e (cS a8 eh hr rfl rfl (aF (aB 0) (aF (aB 1) (aF (QP.v (yv0 aw cv hr rfl)) aQ))) (aN (aN (aN bM)))))))
def xD:tz1:=
 (bS (aH (fMt uU (aA 0) (aC (fC (.str "\n")) aE))))
abbrev kI:Stmt:=top 23
abbrev gS:List Str:=["text"]
theorem wZ:FnScope ["text"] gS (aU kI):=cP
theorem zs3(bq:Dn K mg "lines_of" kI gS f fd)
     :
  FnOk P w K mg base CX0 (n+1) f fd gS (SpP 1 K U (gP 1 0 (xD))):=
 cW bq.F wZ fun cdv A outer s H E B hr=>
 (aM (bQ (QP.e (ze6 W3 W4 yg4 (aB 0) (aF (QP.v bZ) aQ)))))
def tH(df:(tz6)):tz1:=
 (bS (aH (aJ yp6 (aC (mX [none,some 1] (eT (aJ df (aC (aA 0) aE))) nC (f2 dLe (aJ cT (aC (aA 0) aE)) (aA 1))) aE))))
abbrev pZ:Stmt:=top 24
abbrev qA:List Str:=["text","width"]
theorem zq5:FnScope ["text","width"] qA (aU pZ):=cP
theorem yw9(jp:Dn K mg "fits" pZ qA f fd)
  (bq:Dn K mg "lines_of" kI gS jf il) (ej:FnOk P w K mg base CX0 n jf il gS (SpP 1 K U df))
  (qf:mg "all"=none)
  (aa:mg "len"=none):
  FnOk P w K mg base CX0 (n+1) f fd qA (SpP 2 K U (gP 2 0 (tH df))):=
 cW jp.F zq5 fun cdv A outer s H E B hr=>
 (aM (bQ (QP.e (cO (wc6 rfl) rfl qf boot_all (aF (QP.v (zF (sc:=aU pZ) (NX:=["text","width"]) (N:=["line","width"]) (pick:=[none,some 1]) ⟨rfl,by decide+kernel,by decide+kernel,by decide+kernel,by decide+kernel,by decide,rfl⟩ rfl rfl rfl (ze9 (QP.v (cS bq ej hr rfl rfl (aF (aB 0) aQ) (aN bM)))) (fun _ _ _ _=>(iD (i:=0) (show(["line","width"]:List Str).Nodup by decide) rfl (by first|exact Or.inl rfl|exact Or.inr rfl))) (fun _ _ _ _=>zE) (fun _ _ _ _=>(nN zw4 (QP.v (cO eW rfl aa ZK (aF (aB 0) aQ))) (aB 1) (bG _))))) aQ)))))
def wN(m9:(tz6))(df:(tz6)):tz1:=
 (aS (fIf (aT (eD (fT (aJ m9 (aC (aA 0) (aC (aA 1) aE))))))
  (bS (aH (fC .non)))
  bK)
 (aS (aV 2 (aH (aJ df (aC (aA 0) aE))))
 (aS (aV 3 (aH (aJ yc0 (aC (mX [none,some 1] (eT (fSl (aA 2) jI (nY (dL (fC (.int 1)))))) nC (f2 hX (f2 gF (aA 1) (aJ cT (aC (aA 0) aE))) (f2 gF (aA 1) (aJ cT (aC (aA 0) aE))))) aE))))
 (bS (aH (cZ (aC (aJ cT (aC (aA 2) aE)) (aC (bB (aA 3)) aE))))))))
abbrev oJ:Stmt:=top 25
abbrev oK:List Str:=["text","width"]
theorem qX:FnScope ["text","width","lines","rag"] oK (aU oJ):=cP
theorem yn3(iz:Dn K mg "price" oJ oK f fd)
  (jp:Dn K mg "fits" pZ qA pb ou) (na:FnOk P w K mg base CX0 n pb ou qA (SpP 2 K U m9))
  (bq:Dn K mg "lines_of" kI gS jf il) (ej:FnOk P w K mg base CX0 n jf il gS (SpP 1 K U df))
  (mm:mg "sum"=none)
  (aa:mg "len"=none):
  FnOk P w K mg base CX0 (n+1) f fd oK (SpP 2 K U (gP 2 2 (wN m9 df))):=
 cW iz.F qX fun cdv A outer s H E B hr=>
 (aL (cB (QT.e (rT (iR (QP.v (cS jp na hr rfl rfl (aF (aB 0) (aF (aB 1) aQ)) (aN (aN bM)))))))
  (aM (bQ (QP.e gV)))
  bU)
 (aL (aY 2 qX.nd (cS bq ej hr rfl rfl (aF (aB 0) aQ) (aN bM)))
 (aL (aY 3 qX.nd (cO (xk8 rfl) rfl mm boot_sum (aF (QP.v (zF (sc:=aU oJ) (NX:=["text","width","lines","rag"]) (N:=["line","width"]) (pick:=[none,some 1]) ⟨rfl,by decide+kernel,by decide+kernel,by decide+kernel,by decide+kernel,by decide,rfl⟩ rfl rfl rfl (ze9 (QP.v (zw7 (aB 2) yg2 (yg3 (QP.v (mQ (QP.v aG))))))) (fun _ _ _ _=>(iD (i:=0) (show(["line","width"]:List Str).Nodup by decide) rfl (by first|exact Or.inl rfl|exact Or.inr rfl))) (fun _ _ _ _=>zE) (fun _ _ _ _=>(bC qU (QP.v (bC lY (aB 1) (QP.v (cO eW rfl aa ZK (aF (aB 0) aQ))))) (QP.v (bC lY (aB 1) (QP.v (cO eW rfl aa ZK (aF (aB 0) aQ))))))))) aQ)))
 (aM (bQ (QP.e (eC (aR (cO eW rfl aa ZK (aF (aB 2) aQ)) (aR (QV.p (aB 3)) bI)))))))))
def sK(ah:(tz7))(gu:(tz7))(ma:(tz6))(aj:(tz7)):tz1:=
 (aS (aV 1 (aH (eP "Front" (cA [.im (mO (eP "WithinWidth" (cA [.im (aA 0)]) gu))]) ah)))
 (aS (aV 2 (aH (aJ ma (aC (fC (.str "")) (aC (aA 0) aE)))))
 (aS (fIf (aT (fB (f2 mS (aA 2) (fC .non))))
  (cY (dH 1 bH (cA [.im (fC (.int 0)),.im (cZ (aC (bB (aA 2)) (aC (cZ aE) aE)))]) (dS "Front" "add" aj)))
  bK)
 (nZ 1))))
abbrev iL:Stmt:=top 28
abbrev fA:List Str:=["width"]
theorem jS:FnScope ["width","front","cost"] fA (aU iL):=cP
theorem zc2(ax:Dn K mg "roads_begin" iL fA f fd)
  (b5:Kn K mg U "Front" "Front.__init__" st_Front_init ps_Front_init ci bz) (ar:FnOk P w K mg base CX0 n ci bz ps_Front_init (SpE 2 K U (bD [true,false]) ah))
  (di:Kn K mg U "WithinWidth" "WithinWidth.__init__" st_WithinWidth_init ps_WithinWidth_init j4 jk) (gv:FnOk P w K mg base CX0 n j4 jk ps_WithinWidth_init (SpE 2 K U (bD [true,false]) gu))
  (iz:Dn K mg "price" oJ oK ox nz) (me:FnOk P w K mg base CX0 (n+1) ox nz oK (SpP 2 K U ma))
  (ak:Mn K U "Front" "add" "Front.add" st_Front_add ps_Front_add c9 cj) (az:FnOk P w K mg base CX0 (n+1) c9 cj ps_Front_add (SpE 3 K U (bD [true,false,false]) aj)):
  FnOk P w K mg base CX0 ((n+1)+1) f fd fA (SpP 1 K U (gP 1 2 (sK ah gu ma aj))):=
 cW ax.F jS fun cdv A outer s H E B hr=>
 (aL (aY 1 jS.nd (mC b5 ar hr rfl (bO (QP.v (zf5 (mC di gv hr rfl (bO (aB 0) dC) rfl rfl (dD 1)))) dC) rfl rfl (dD 1)))
 (aL (aY 2 jS.nd (cS iz me hr rfl rfl (aF (QP.v bZ) (aF (aB 0) aQ)) (aN (aN bM))))
 (aL (cB (QT.e (bP zk6 (aB 2) (QP.v gV) (bG _)))
  (aM (fD (kL ak az hr rfl (bJ 1) (bO (QP.v aG) (bO (QP.v (eC (aR (QV.p (aB 2)) (aR (eC bI) bI)))) dC)) rfl rfl (dD 2))))
  bU)
 (aM (lZ 1 rfl)))))
def uB(j9:(tz7))(bj:(tz7))(bp:(tz6))(gk:(tz6)):tz1:=
 (aS (aV 2 (aH (eP "Setter" (cA [.im (aA 1)]) j9)))
 (aS (cY (dH 2 bH (cA [.im (aA 0),.im (aJ bp aE)]) (dS "Setter" "set_row" bj)))
 (bS (aH (aJ gk (aC (zi3 "Setter" "whole_text" (aA 2)) aE))))))
abbrev pM:Stmt:=top 31
abbrev mU:List Str:=["row","choices"]
theorem tT:FnScope ["row","choices","setter"] mU (aU pM):=cP
theorem ye5(g7:Dn K mg "set_by" pM mU f fd)
  (jq:Kn K mg U "Setter" "Setter.__init__" st_Setter_init ps_Setter_init l0 lg) (ka:FnOk P w K mg base CX0 n l0 lg ps_Setter_init (SpE 2 K U (bD [true,false]) j9))
  (aq:Mn K U "Setter" "set_row" "Setter.set_row" st_Setter_set_row ps_Setter_set_row f8 d6) (dg:FnOk P w K mg base CX0 (n+1) f8 d6 ps_Setter_set_row (SpE 3 K U (bD [true,false,false]) bj))
  (aw:Dn K mg "first_place" iI eZ gs f7) (cv:FnOk P w K mg base CX0 (n+1) gs f7 eZ (SpP 0 K U bp))
  (bf:Mn K U "Setter" "whole_text" "Setter.whole_text" st_Setter_whole_text ps_Setter_whole_text jl jg) (gl:FnOk P w K mg base CX0 (n+1) jl jg ps_Setter_whole_text (SpP 1 K U gk)):
  FnOk P w K mg base CX0 ((n+1)+1) f fd mU (SpP 2 K U (gP 2 1 (uB j9 bj bp gk))):=
 cW g7.F tT fun cdv A outer s H E B hr=>
 (aL (aY 2 tT.nd (mC jq ka hr rfl (bO (aB 1) dC) rfl rfl (dD 1)))
 (aL (fD (kL aq dg hr rfl (bJ 2) (bO (aB 0) (bO (QP.v (yv0 aw cv hr rfl)) dC)) rfl rfl (dD 2)))
 (aM (bQ (QP.e (xe9 bf gl hr (aB 2)))))))
def qQ:tz1:=
 (aS (fIf (aT (eD (fTK (cD "Front" "best" (aA 0)))))
  uV
  bK)
 (bS (aH (f2 dIx (bB (zu4 (cD "Front" "best" (aA 0)))) (fC (.int 1))))))
abbrev fM:Stmt:=top 33
abbrev dP:List Str:=["front"]
theorem mJ:FnScope ["front"] dP (aU fM):=cP
theorem za4(af:Dn K mg "best_choices" fM dP f fd)
  (ac:Cls K (U "Front"))
  (ag:cC K (U "Front") "best")
  (k7:mg "min"=none):
  FnOk P w K mg base CX0 (n+1) f fd dP (SpP 1 K U (gP 1 0 (qQ))):=
 cW af.F mJ fun cdv A outer s H E B hr=>
 (aL (cB (QT.e (rT (yh2 (cU (C:="Front") ac ag (aB 0)))))
  (aM rV)
  bU)
 (aM (bQ (QP.e (zC (QV.p (xq6 rfl (Room.units hr) (cU (C:="Front") ac ag (aB 0)) rfl k7)) (QP.v aG))))))
def qB:tz5:=
 (xj6 (eD (fTK (cD "Front" "best" (aA 0)))) xl8)
theorem xW(af:Dn K mg "best_choices" fM dP f fd)
  (gw:OwnCls "NoRoom" cb bmV "ValueError.__new__" mg base)
  (ac:Cls K (U "Front"))
  (ag:cC K (U "Front") "best")
  (k7:mg "min"=none):
  FnOk P w K mg base (CXn P w base cb) (n+1) f fd dP (yM 1 K U cb (gX 1 0 (qB))):=
 zp9 af.F mJ fun cdv A outer s H E B hr=>
 (zl8 (wc9 (rT (yh2 (cU (C:="Front") ac ag (aB 0)))) (zl8 (xf4 gw PySem.F.excBase_ValueError rfl))))
def yP(iu:(tz6))(ba:(tz6))(bu:(tz6))(ll:(tz6)):tz1:=
 (aS (aV 2 (aH (aJ iu (aC (aJ ba (aC (jX (aJ bu (aC (aA 1) aE))) (aC (aA 0) aE))) aE))))
 (bS (aH (cZ (aC (aJ ll (aC (aA 0) (aC (aA 2) aE))) (aC (bB (aA 2)) aE))))))
abbrev lQ:Stmt:=top 34
abbrev gL:List Str:=["row","width"]
theorem lE:FnScope ["row","width","choices"] gL (aU lQ):=cP
theorem zy6(bo:Dn K mg "pressed" lQ gL f fd)
  (af:Dn K mg "best_choices" fM dP f9 d7) (iw:FnOk P w K mg base CX0 n f9 d7 dP (SpP 1 K U iu))
  (am:Dn K mg "behind_pieces" gK eL d8 dm) (bw:FnOk P w K mg base CX0 n d8 dm eL (SpP 2 K U ba))
  (ax:Dn K mg "roads_begin" iL fA gt gb) (cw:FnOk P w K mg base CX0 n gt gb fA (SpP 1 K U bu))
  (g7:Dn K mg "set_by" pM mU n6 m6) (lm:FnOk P w K mg base CX0 n n6 m6 mU (SpP 2 K U ll)):
  FnOk P w K mg base CX0 (n+1) f fd gL (SpP 2 K U (gP 2 1 (yP iu ba bu ll))):=
 cW bo.F lE fun cdv A outer s H E B hr=>
 (aL (aY 2 lE.nd (cS af iw hr rfl rfl (aF (QP.v (cS am bw hr rfl rfl (aF (QP.v (uI (cS ax cw hr rfl rfl (aF (aB 1) aQ) (aN bM)))) (aF (aB 0) aQ)) (aN (aN bM)))) aQ) (aN bM)))
 (aM (bQ (QP.e (eC (aR (cS g7 lm hr rfl rfl (aF (aB 0) (aF (aB 2) aQ)) (aN (aN bM))) (aR (QV.p (aB 2)) bI)))))))
def xE(ie:(List D->Bool))(ba:(tz6))(bu:(tz6)):tz5:=
 (zd5 ie (aC (aJ ba (aC (jX (aJ bu (aC (aA 1) aE))) (aC (aA 0) aE))) aE))
theorem zs4(bo:Dn K mg "pressed" lQ gL f fd)
  (af:Dn K mg "best_choices" fM dP f9 d7) (ig:FnOk P w K mg base (CXn P w base cb) n f9 d7 dP (yM 1 K U cb ie))
  (am:Dn K mg "behind_pieces" gK eL d8 dm) (bw:FnOk P w K mg base CX0 n d8 dm eL (SpP 2 K U ba))
  (ax:Dn K mg "roads_begin" iL fA gt gb) (cw:FnOk P w K mg base CX0 n gt gb fA (SpP 1 K U bu))
  (gw:OwnCls "NoRoom" cb bmV "ValueError.__new__" mg base):
  FnOk P w K mg base (CXn P w base cb) (n+1) f fd gL (yM 2 K U cb (gX 2 1 (xE ie ba bu))):=
 zp9 bo.F lE fun cdv A outer s H E B hr=>
 (zl8 (xw8 2 lE.nd rfl (.inl rfl) (xw9 af ig hr rfl rfl (aF (QP.v (cS am bw hr rfl rfl (aF (QP.v (uI (cS ax cw hr rfl rfl (aF (aB 1) aQ) (aN bM)))) (aF (aB 0) aQ)) (aN (aN bM)))) aQ) (aN bM))))
def yQ:tz1:=
 (aS (aV 1 (aH (fC (.str "abcdefghijklmnopqrstuvwxyzABCDEFGHIJKLMNOPQRSTUVWXYZ0123456789"))))
 (aS (aV 1 (aH (f2 cE (aA 1) (fC (.str "!\"#$&'()*+,-./:;<=>?\x40[\\]^_`{|}~")))))
 (aS (aV 2 (aH (f2 dIx (dA (fKs [.int 1,.int 2,.int 3,.int 4,.int 5,.int 6,.int 7,.int 8,.int 10,.int 11,.int 9,.int 12])) (f2 eA (aA 0) (fC (.int 12))))))
 (aS (aV 3 (aH (fC (.str ""))))
 (aS (iQ 4 (zU (aC (aA 2) aE))
  (aV 3 (aH (f2 cE (aA 3) (f2 dIx (aA 1) (f2 eA (f2 cE (f2 gG (aA 0) (fC (.int 12))) (f2 hX (aA 4) (f2 eA (f2 gG (aA 0) (fC (.int 9000))) (fC (.int 93))))) (fC (.int 93))))))))
 (nZ 3))))))
abbrev tI:Stmt:=top 38
abbrev qC:List Str:=["_law_number"]
theorem jN:FnScope ["_law_number","_law_signs","_law_size","_law_word_here","_law_j"] qC (aU tI):=cP
theorem yx0(jr:Dn K mg "_law_word" tI qC f fd)
  (kh:mg "range"=none):
  FnOk P w K mg base CX0 (n+1) f fd qC (SpP 1 K U (gP 1 4 (yQ))):=
 cW jr.F jN fun cdv A outer s H E B hr=>
 (aL (aY 1 jN.nd bZ)
 (aL (aY 1 jN.nd (bC eM (aB 1) (QP.v bZ)))
 (aL (aY 2 jN.nd (zC (eG (qW (.int (.int (.int (.int (.int (.int (.int (.int (.int (.int (.int (.int .nil)))))))))))))) (QP.v (bC gZ (aB 0) (QP.v aG)))))
 (aL (aY 3 jN.nd bZ)
 (aL (xM 4 ZR rfl jN.nd rfl (.inl rfl) rfl rfl (yu7 rfl kh (aF (aB 2) aQ))
  (aM (aY 3 jN.nd (bC eM (aB 3) (aZ (aB 1) (QP.v (bC gZ (QP.v (bC eM (QP.v (bC nP (aB 0) (QP.v aG))) (QP.v (bC qU (aB 4) (QP.v (bC gZ (QP.v (bC nP (aB 0) (QP.v aG))) (QP.v aG))))))) (QP.v aG))))))))
 (aM (lZ 3 rfl)))))))
def yR(ng:(tz6)):tz1:=
 (aS (aV 1 (aH (f2 gG (aA 0) (fC (.int 16)))))
 (aS (fIf (aT (fB (f2 dLt (f2 eA (aA 0) (fC (.int 16))) (fC (.int 8)))))
  (bS (aH (cZ (aC (fC (.str "word")) (aC (aJ ng (aC (aA 1) aE)) aE)))))
  bK)
 (aS (fIf (aT (fB (f2 dLt (f2 eA (aA 0) (fC (.int 16))) (fC (.int 13)))))
  (bS (aH (cZ (aC (fC (.str "gap")) (aC (f2 dIx (dA (fKs [.str " ",.str " ",.str " ",.str ""])) (f2 eA (aA 1) (fC (.int 4)))) aE)))))
  bK)
 (aS (fIf (aT (fB (f2 dEq (f2 eA (aA 0) (fC (.int 16))) (fC (.int 13)))))
  (bS (aH (cZ (aC (fC (.str "end")) aE))))
  bK)
 (bS (aH (cZ (aC (fC (.str "stop")) (aC (f2 dIx (dA (aC (f2 eA (f2 gG (aA 1) (fC (.int 2))) (fC (.int 10))) (aC (f2 eA (f2 gG (aA 1) (fC (.int 2))) (fC (.int 41))) aE))) (f2 eA (aA 1) (fC (.int 2)))) aE)))))))))
abbrev tJ:Stmt:=top 39
abbrev qD:List Str:=["_law_number"]
theorem xX:FnScope ["_law_number","_law_some"] qD (aU tJ):=cP
theorem yx1(js:Dn K mg "_law_leaf" tJ qD f fd)
  (jr:Dn K mg "_law_word" tI qC pd oy) (nh:FnOk P w K mg base CX0 n pd oy qC (SpP 1 K U ng)):
  FnOk P w K mg base CX0 (n+1) f fd qD (SpP 1 K U (gP 1 1 (yR ng))):=
 cW js.F xX fun cdv A outer s H E B hr=>
 (aL (aY 1 xX.nd (bC nP (aB 0) (QP.v aG)))
 (aL (cB (QT.e (bP (tN (Room.units0 hr)) (QP.v (bC gZ (aB 0) (QP.v aG))) (QP.v aG) (bG _)))
  (aM (bQ (QP.e (eC (aR bZ (aR (cS jr nh hr rfl rfl (aF (aB 1) aQ) (aN bM)) bI))))))
  bU)
 (aL (cB (QT.e (bP (tN (Room.units0 hr)) (QP.v (bC gZ (aB 0) (QP.v aG))) (QP.v aG) (bG _)))
  (aM (bQ (QP.e (eC (aR bZ (aR (zC (eG (qW (.str (.str (.str (.str .nil)))))) (QP.v (bC gZ (aB 1) (QP.v aG)))) bI))))))
  bU)
 (aL (cB (QT.e (bP (hJ (Room.units hr)) (QP.v (bC gZ (aB 0) (QP.v aG))) (QP.v aG) (bG _)))
  (aM (bQ (QP.e (eC (aR bZ bI)))))
  bU)
 (aM (bQ (QP.e (eC (aR bZ (aR (zC (eG (aR (bC gZ (QP.v (bC nP (aB 1) (QP.v aG))) (QP.v aG)) (aR (bC gZ (QP.v (bC nP (aB 1) (QP.v aG))) (QP.v aG)) bI))) (QP.v (bC gZ (aB 1) (QP.v aG)))) bI))))))))))
def qE:tz1:=
 (aS (yK [1,2,3,4] (dH 0 bH aE tZ))
 (aS (aV 3 (aH (f2 cE (aA 3) (dA (aC (aJ iT (aC (aA 4) aE)) aE)))))
 (aS (fIf (aT (cH (fB (f2 dEq (aA 1) (fC (.str "either")))) (fB (f2 dLt (aJ cT (aC (aA 3) aE)) (fC (.int 2))))))
  (aV 3 (aH (f2 cE (aA 3) (dA (aC (cZ (aC (cZ (aC (fC (.str "word")) (aC (fC (.str "or")) aE))) aE)) aE)))))
  bK)
 (aS (aV 5 (aH (cZ (aC (fC (.str "group")) (aC (bB (f2 dIx (aA 3) (fC (.int 0)))) aE)))))
 (aS (fIf (aT (fB (f2 dEq (aA 1) (fC (.str "hang")))))
  (aV 5 (aH (cZ (aC (fC (.str "hang")) (aC (bB (aA 2)) (aC (bB (f2 dIx (aA 3) (fC (.int 0)))) aE))))))
  bK)
 (aS (fIf (aT (fB (f2 dEq (aA 1) (fC (.str "either")))))
  (aV 5 (aH (cZ (aC (fC (.str "either")) (aC (aJ iT (aC (aA 3) aE)) aE)))))
  bK)
 (cY (dH 0 (dN 0 (dN 0 bH (dL (fC (.int 1)))) (fC (.int 3))) (aC (bB (aA 5)) aE) eE))))))))
abbrev tK:Stmt:=top 40
abbrev qF:List Str:=["_law_frames"]
theorem gC:FnScope ["_law_frames","_law_kind","_law_n","_law_full","_law_parts","_law_piece"] qF (aU tK):=cP
theorem yx2(iy:Dn K mg "_law_shut" tK qF f fd)
  (i3:mg "tuple"=none)
  (aa:mg "len"=none):
  FnOk P w K mg base CX0 (n+1) f fd qF (SpE 1 K U (bD [true]) (gE 1 5 (bD [true]) (qE))):=
 kU iy.F gC (fun i hi=>fH hi) fun cdv A outer s H E hr=>
 (aL (yv3 (is:=[1,2,3,4]) rfl (oU (iD (i:=1) gC.nd rfl (.inl rfl)) (oU (iD (i:=2) gC.nd rfl (.inl rfl)) (oU (iD (i:=3) gC.nd rfl (.inl rfl)) (oU (iD (i:=4) gC.nd rfl (.inl rfl)) yf0)))) (xw7 (j:=0) rfl (bJ 0)) (fun j hj=>by simp only [Z6,ZX,Xp] at hj;rcases hj with rfl|rfl|rfl|rfl<;>exact⟨rfl,rfl⟩))
 (aL (aY 3 gC.nd (bC eM (aB 3) (QP.v (eG (aR (sP zD rfl i3 boot_tuple (aF (aB 4) aQ)) bI)))))
 (aL (cB (QT.e (mI (kE (bP (hJ (Room.units hr)) (aB 1) (QP.v bZ) (bG _)) (jF (bP (tN (Room.units0 hr)) (QP.v (cO eW rfl aa ZK (aF (aB 3) aQ))) (QP.v aG) (bG _))))))
  (aM (aY 3 gC.nd (bC eM (aB 3) (QP.v (eG (aR (eC (aR (eC (aR bZ (aR bZ bI))) bI)) bI))))))
  bU)
 (aL (aY 5 gC.nd (eC (aR bZ (aR (QV.p (aZ (aB 3) (QP.v aG))) bI))))
 (aL (cB (QT.e (bP (hJ (Room.units hr)) (aB 1) (QP.v bZ) (bG _)))
  (aM (aY 5 gC.nd (eC (aR bZ (aR (QV.p (aB 2)) (aR (QV.p (aZ (aB 3) (QP.v aG))) bI))))))
  bU)
 (aL (cB (QT.e (bP (hJ (Room.units hr)) (aB 1) (QP.v bZ) (bG _)))
  (aM (aY 5 gC.nd (eC (aR bZ (aR (sP zD rfl i3 boot_tuple (aF (aB 3) aQ)) bI)))))
  bU)
 (aM (fD (nE (j:=0) rfl (lC (lC (bJ 0) (QP.v (mQ (QP.v aG)))) (QP.v aG)) (aR (QV.p (aB 5)) bI))))))))))
def yc8(b0:(tz6))(lp:(tz7))(nk:(tz6)):tz1:=
 (aS (aV 4 (aH (dA (aC (dA (aC (fC (.str "top")) (aC (fC (.int 0)) (aC (dA aE) (aC (dA aE) aE))))) aE))))
 (aS (iQ 5 (zi2 (aC (aA 1) (aC (f2 cE (aA 1) (aA 2)) aE)))
  (aS (aV 6 (aH (aJ b0 (aC (aA 0) (aC (aA 5) (aC (fC (.int 31)) aE))))))
 (aS (aV 7 (aH (f2 eA (aA 6) (fC (.int 13)))))
 (aS (aV 8 (aH (bB (f2 dIx (f2 dIx (aA 4) (dL (fC (.int 1)))) (fC (.int 0))))))
 (fIf (aT (cH (fB (f2 dLt (aA 7) (fC (.int 4)))) (fB (f2 dLe (aJ cT (aC (aA 4) aE)) (aA 3)))))
  (aS (aV 9 (aH (f2 dIx (dA (fKs [.str "group",.str "group",.str "hang",.str "either"])) (aA 7))))
 (cY (dH 4 bH (aC (dA (aC (bB (aA 9)) (aC (f2 dIx (dA (aC (fC (.int 1)) (aC (fC (.int 2)) (aC (fC (.int 4)) (aC (f2 eA (f2 gG (aA 6) (fC (.int 13))) (fC (.int 13))) aE))))) (f2 eA (f2 gG (aA 6) (fC (.int 169))) (fC (.int 4)))) (aC (dA aE) (aC (dA aE) aE))))) aE) eE)))
  (fIf (aT (cH (fB (f2 dEq (aA 7) (fC (.int 4)))) (fB (f2 dGt (aJ cT (aC (aA 4) aE)) (fC (.int 1))))))
  (cY (fIO [.io 4] lp))
  (fIf (aT (cH (fB (f2 dLt (aA 7) (fC (.int 7)))) (cH (fB (f2 dEq (aA 8) (fC (.str "either")))) (fB (f2 dLt (aJ cT (aC (f2 dIx (f2 dIx (aA 4) (dL (fC (.int 1)))) (fC (.int 2))) aE)) (fC (.int 3)))))))
  (aS (cY (dH 4 (dN 4 (dN 4 bH (dL (fC (.int 1)))) (fC (.int 2))) (aC (aJ iT (aC (f2 dIx (f2 dIx (aA 4) (dL (fC (.int 1)))) (fC (.int 3))) aE)) aE) eE))
 (dR 4 (dN 4 bH (dL (fC (.int 1)))) (fC (.int 3)) (dA aE)))
  (cY (dH 4 (dN 4 (dN 4 bH (dL (fC (.int 1)))) (fC (.int 3))) (aC (aJ nk (aC (aJ b0 (aC (aA 0) (aC (aA 5) (aC (fC (.int 32)) aE)))) aE)) aE) eE)))))))))
 (aS (lM (aT (fB (f2 dGt (aJ cT (aC (aA 4) aE)) (fC (.int 1)))))
  (cY (fIO [.io 4] lp)) 400)
 (bS (aH (aJ iT (aC (f2 dIx (f2 dIx (aA 4) (fC (.int 0))) (fC (.int 3))) aE)))))))
abbrev wO:Stmt:=top 41
abbrev sL:List Str:=["_law_script","_law_at","_law_many","_law_nest"]
theorem lF:FnScope ["_law_script","_law_at","_law_many","_law_nest","_law_frames","_law_k","_law_number","_law_way","_law_kind","_law_new"] sL (aU wO):=cP
theorem xg0(ki:Dn K mg "_law_row" wO sL f fd)
  (cm:Dn K mg "_law_mixed" mH jY i4 g8) (da:FnOk P w K mg base CX0 n i4 g8 jY (SpP 3 K U b0))
  (iy:Dn K mg "_law_shut" tK qF pe oz) (lq:FnOk P w K mg base CX0 n pe oz qF (SpE 1 K U (bD [true]) lp))
  (js:Dn K mg "_law_leaf" tJ qD ph o3) (no:FnOk P w K mg base CX0 n ph o3 qD (SpP 1 K U nk))
  (kh:mg "range"=none)
  (i3:mg "tuple"=none)
  (aa:mg "len"=none):
  FnOk P w K mg base CX0 (n+1) f fd sL (SpP 4 K U (gP 4 6 (yc8 b0 lp nk))):=
 cW ki.F lF fun cdv A outer s H E B hr=>
 (aL (aY 4 lF.nd (eG (aR (eG (aR bZ (aR aG (aR (eG bI) (aR (eG bI) bI))))) bI)))
 (aL (xM 5 ZR rfl lF.nd rfl (.inl rfl) rfl rfl (yu8 rfl kh (aF (aB 1) (aF (QP.v (bC eM (aB 1) (aB 2))) aQ)))
  (aL (aY 6 lF.nd (cS cm da hr rfl rfl (aF (aB 0) (aF (aB 5) (aF (QP.v aG) aQ))) (aN (aN (aN bM)))))
 (aL (aY 7 lF.nd (bC gZ (aB 6) (QP.v aG)))
 (aL (aY 8 lF.nd (QV.p (aZ (aZ (aB 4) (QP.v (mQ (QP.v aG)))) (QP.v aG))))
 (aM (cB (QT.e (mI (kE (bP (tN (Room.units0 hr)) (aB 7) (QP.v aG) (bG _)) (jF (bP zw4 (QP.v (cO eW rfl aa ZK (aF (aB 4) aQ))) (aB 3) (bG _))))))
  (aL (aY 9 lF.nd (zC (eG (qW (.str (.str (.str (.str .nil)))))) (aB 7)))
 (aM (fD (nE (j:=4) rfl (bJ 4) (aR (eG (aR (QV.p (aB 9)) (aR (zC (eG (aR aG (aR aG (aR aG (aR (bC gZ (QP.v (bC nP (aB 6) (QP.v aG))) (QP.v aG)) bI))))) (QP.v (bC gZ (QP.v (bC nP (aB 6) (QP.v aG))) (QP.v aG)))) (aR (eG bI) (aR (eG bI) bI))))) bI)))))
  (aM (cB (QT.e (mI (kE (bP (hJ (Room.units hr)) (aB 7) (QP.v aG) (bG _)) (jF (bP ym1 (QP.v (cO eW rfl aa ZK (aF (aB 4) aQ))) (QP.v aG) (bG _))))))
  (aM (fD (qV iy lq hr rfl (nR 4 dC) rfl (hV rfl) (nd1 4) (vJ 4))))
  (aM (cB (QT.e (mI (kE (bP (tN (Room.units0 hr)) (aB 7) (QP.v aG) (bG _)) (kE (bP (hJ (Room.units hr)) (aB 8) (QP.v bZ) (bG _)) (jF (bP (tN (Room.units0 hr)) (QP.v (cO eW rfl aa ZK (aF (aZ (aZ (aB 4) (QP.v (mQ (QP.v aG)))) (QP.v aG)) aQ))) (QP.v aG) (bG _)))))))
  (aL (fD (nE (j:=4) rfl (lC (lC (bJ 4) (QP.v (mQ (QP.v aG)))) (QP.v aG)) (aR (sP zD rfl i3 boot_tuple (aF (aZ (aZ (aB 4) (QP.v (mQ (QP.v aG)))) (QP.v aG)) aQ)) bI)))
 (aM (rX (j:=4) rfl (eG bI) (lC (bJ 4) (QP.v (mQ (QP.v aG)))) (QP.v aG))))
  (aM (fD (nE (j:=4) rfl (lC (lC (bJ 4) (QP.v (mQ (QP.v aG)))) (QP.v aG)) (aR (cS js no hr rfl rfl (aF (QP.v (cS cm da hr rfl rfl (aF (aB 0) (aF (aB 5) (aF (QP.v aG) aQ))) (aN (aN (aN bM))))) aQ) (aN bM)) bI))))))))))))))
 (aL (xe0 400 ZR (QT.e (bP ym1 (QP.v (cO eW rfl aa ZK (aF (aB 4) aQ))) (QP.v aG) (bG _)))
  (aM (fD (qV iy lq hr rfl (nR 4 dC) rfl (hV rfl) (nd1 4) (vJ 4)))))
 (aM (bQ (QP.e (sP zD rfl i3 boot_tuple (aF (aZ (aZ (aB 4) (QP.v aG)) (QP.v aG)) aQ))))))))
def zb0(b0:(tz6)):tz1:=
 (aS (aV 3 (aH (aJ cT (aC (f2 dIx (aA 1) (fC (.int 1))) aE))))
 (aS (fIf (aT (cH (fB (f2 dIs (f2 dIx (aA 1) (fC (.int 2))) (fC .non))) (fB (f2 dEq (f2 dIx (aA 1) (fC (.int 3))) (fC (.int 0))))))
  (aV 4 (aH (f2 gF (aA 2) (fC (.int 1)))))
  (fIf (aT (fB (f2 dIs (f2 dIx (aA 1) (fC (.int 2))) (fC .non))))
  (aV 4 (aH (f2 eA (aJ b0 (aC (aA 0) (aC (f2 cE (aA 3) (fC (.int 7))) (aC (f2 dIx (aA 1) (fC (.int 3))) aE)))) (aA 2))))
  (fIf (aT (cH (fB (f2 dLt (aA 3) (aJ cT (aC (f2 dIx (aA 1) (fC (.int 2))) aE)))) (fB (f3 dLe dLt (fC (.int 0)) (f2 dIx (f2 dIx (aA 1) (fC (.int 2))) (aA 3)) (aA 2)))))
  (aV 4 (aH (bB (f2 dIx (f2 dIx (aA 1) (fC (.int 2))) (aA 3)))))
  (bS (aH (dL (fC (.int 1))))))))
 (aS (cY (dH 1 (dN 1 bH (fC (.int 1))) (aC (bB (aA 4)) aE) eE))
 (nZ 4))))
abbrev pN:Stmt:=top 42
abbrev mV:List Str:=["_law_script","_law_state","_law_many"]
theorem kM:FnScope ["_law_script","_law_state","_law_many","_law_at","_law_number"] mV (aU pN):=cP
theorem ye6(gc:Dn K mg "_law_choose" pN mV f fd)
  (cm:Dn K mg "_law_mixed" mH jY i4 g8) (da:FnOk P w K mg base CX0 n i4 g8 jY (SpP 3 K U b0))
  (aa:mg "len"=none):
  FnOk P w K mg base CX0 (n+1) f fd mV (SpE 3 K U (bD [false,true,false]) (gE 3 2 (bD [false,true,false]) (zb0 b0))):=
 kU gc.F kM (fun i hi=>fH hi) fun cdv A outer s H E hr=>
 (aL (aY 3 kM.nd (cO eW rfl aa ZK (aF (aZ (aB 1) (QP.v aG)) aQ)))
 (aL (cB (QT.e (mI (kE (bP zb3 (aZ (aB 1) (QP.v aG)) (QP.v gV) (bG _)) (jF (bP (hJ (Room.units hr)) (aZ (aB 1) (QP.v aG)) (QP.v aG) (bG _))))))
  (aM (aY 4 kM.nd (bC lY (aB 2) (QP.v aG))))
  (aM (cB (QT.e (bP zb3 (aZ (aB 1) (QP.v aG)) (QP.v gV) (bG _)))
  (aM (aY 4 kM.nd (bC gZ (QP.v (cS cm da hr rfl rfl (aF (aB 0) (aF (QP.v (bC eM (aB 3) (QP.v aG))) (aF (aZ (aB 1) (QP.v aG)) aQ))) (aN (aN (aN bM))))) (aB 2))))
  (aM (cB (QT.e (mI (kE (bP (tN (Room.units0 hr)) (aB 3) (QP.v (cO eW rfl aa ZK (aF (aZ (aB 1) (QP.v aG)) aQ))) (bG _)) (jF (xe6 zw4 (tN (Room.units0 hr)) (QP.v aG) (aZ (aZ (aB 1) (QP.v aG)) (aB 3)) (aB 2))))))
  (aM (aY 4 kM.nd (QV.p (aZ (aZ (aB 1) (QP.v aG)) (aB 3)))))
  (aM (bQ (QP.e (mQ (QP.v aG))))))))))
 (aL (fD (nE (j:=1) rfl (lC (bJ 1) (QP.v aG)) (aR (QV.p (aB 4)) bI)))
 (aM (lZ 4 rfl)))))
def zi6(g9:(tz7))(kf:(tz7)):tz1:=
 (aS (fIf (aT (fB (f2 dEq (f2 dIx (aA 1) (fC (.int 0))) (fC (.str "hang")))))
  (bS (fIO [.im (aA 0),.im (f2 dIx (aA 1) (fC (.int 2))),.im (aA 2),.im (f2 cE (aA 3) (f2 dIx (aA 1) (fC (.int 1)))),.io 4] g9))
  bK)
 (aS (fIf (aT (fB (f2 dEq (f2 dIx (aA 1) (fC (.int 0))) (fC (.str "group")))))
  (aS (aV 5 (aH (fC (.int 0))))
 (aS (fIf (aT (eD (fT (aA 2))))
  (aV 5 (fIO [.im (aA 0),.io 4,.im (fC (.int 2))] kf))
  bK)
 (bS (zW (f2 dGe (aA 5) (fC (.int 0))) (fIO [.im (aA 0),.im (f2 dIx (aA 1) (fC (.int 1))),.im (f2 dEq (aA 5) (fC (.int 0))),.im (aA 3),.io 4] g9)))))
  bK)
 (aS (aV 5 (fIO [.im (aA 0),.io 4,.im (aJ cT (aC (f2 dIx (aA 1) (fC (.int 1))) aE))] kf))
 (bS (zW (f2 dGe (aA 5) (fC (.int 0))) (fIO [.im (aA 0),.im (f2 dIx (f2 dIx (aA 1) (fC (.int 1))) (aA 5)),.im (aA 2),.im (aA 3),.io 4] g9))))))
abbrev rE:Stmt:=top 43
abbrev oM:List Str:=["_law_script","_law_piece","_law_flat","_law_hang","_law_state"]
theorem nS:FnScope ["_law_script","_law_piece","_law_flat","_law_hang","_law_state","_law_at"] oM (aU rE):=cP
theorem yn4(i5:Dn K mg "_law_inner" rE oM f fd)
  (eo:Dn K mg "_law_set" st_l_set ps_l_set mn lr) (jt:FnOk P w K mg base CX0 n mn lr ps_l_set (SpE 5 K U (bD [false,false,false,false,true]) g9))
  (gc:Dn K mg "_law_choose" pN mV n8 m7) (kg:FnOk P w K mg base CX0 n n8 m7 mV (SpE 3 K U (bD [false,true,false]) kf))
  (aa:mg "len"=none):
  FnOk P w K mg base CX0 (n+1) f fd oM (SpE 5 K U (bD [false,false,false,false,true]) (gE 5 1 (bD [false,false,false,false,true]) (zi6 g9 kf))):=
 kU i5.F nS (fun i hi=>fH hi) fun cdv A outer s H E hr=>
 (aL (cB (QT.e (bP (hJ (Room.units hr)) (aZ (aB 1) (QP.v aG)) (QP.v bZ) (bG _)))
  (aM (bQ (qV eo jt hr rfl (bO (aB 0) (bO (aZ (aB 1) (QP.v aG)) (bO (aB 2) (bO (QP.v (bC eM (aB 3) (aZ (aB 1) (QP.v aG)))) (nR 4 dC))))) rfl (hV rfl) (nd1 4) (vJ 4))))
  bU)
 (aL (cB (QT.e (bP (hJ (Room.units hr)) (aZ (aB 1) (QP.v aG)) (QP.v bZ) (bG _)))
  (aL (aY 5 nS.nd aG)
 (aL (cB (QT.e (rT (iR (aB 2))))
  (aM (ze7 5 nS.nd rfl (.inl rfl) rfl rfl (qV gc kg hr rfl (bO (aB 0) (nR 4 (bO (QP.v aG) dC))) rfl (hV rfl) (nd1 4) (vJ 4))))
  bU)
 (aM (bQ (yw6 (nN ym2 (aB 5) (QP.v aG) (bG _)) (qV eo jt hr rfl (bO (aB 0) (bO (aZ (aB 1) (QP.v aG)) (bO (QP.v (nN (hJ (Room.units hr)) (aB 5) (QP.v aG) (bG _))) (bO (aB 3) (nR 4 dC))))) rfl (hV rfl) (nd1 4) (vJ 4)))))))
  bU)
 (aL (ze7 5 nS.nd rfl (.inl rfl) rfl rfl (qV gc kg hr rfl (bO (aB 0) (nR 4 (bO (QP.v (cO eW rfl aa ZK (aF (aZ (aB 1) (QP.v aG)) aQ))) dC))) rfl (hV rfl) (nd1 4) (vJ 4)))
 (aM (bQ (yw6 (nN ym2 (aB 5) (QP.v aG) (bG _)) (qV eo jt hr rfl (bO (aB 0) (bO (aZ (aZ (aB 1) (QP.v aG)) (aB 5)) (bO (aB 2) (bO (aB 3) (nR 4 dC))))) rfl (hV rfl) (nd1 4) (vJ 4))))))))
def yc9(mf:(tz7)):tz1:=
 (aS (iQ 5 (eT (aA 1))
  (aS (aV 6 (aH (f2 gF (f2 gF (aJ cT (aC (f2 dIx (aA 4) (fC (.int 0))) aE)) (fC (.int 1))) (fMt yL (f2 dIx (aA 4) (fC (.int 0))) (aC (fC (.str "\n")) aE)))))
 (fIf (aT (lL (fB (f2 dEq (f2 dIx (aA 5) (fC (.int 0))) (fC (.str "word")))) (cH (fB (f2 dEq (f2 dIx (aA 5) (fC (.int 0))) (fC (.str "gap")))) (fT (aA 2)))))
  (dR 4 bH (fC (.int 0)) (f2 cE (f2 dIx (aA 4) (fC (.int 0))) (f2 dIx (aA 5) (fC (.int 1)))))
  (fIf (aT (cH (fB (f2 dEq (f2 dIx (aA 5) (fC (.int 0))) (fC (.str "stop")))) (fB (f2 dLe (aA 6) (f2 dIx (aA 5) (fC (.int 1)))))))
  (dR 4 bH (fC (.int 0)) (f2 cE (f2 dIx (aA 4) (fC (.int 0))) (f2 hX (fC (.str " ")) (f2 gF (f2 dIx (aA 5) (fC (.int 1))) (aA 6)))))
  (fIf (aT (cH (fB (f2 dEq (f2 dIx (aA 5) (fC (.int 0))) (fC (.str "stop")))) (eD (fT (aA 2)))))
  (dR 4 bH (fC (.int 0)) (f2 cE (f2 cE (f2 dIx (aA 4) (fC (.int 0))) (fC (.str "\n"))) (f2 hX (fC (.str " ")) (f2 dIx (aA 5) (fC (.int 1))))))
  (fIf (aT (fB (f2 dIn (f2 dIx (aA 5) (fC (.int 0))) (dA (fKs [.str "gap",.str "end",.str "stop"])))))
  (aS (fIf (aT (fT (aA 2)))
  (bS (aH (fC (.bl false))))
  bK)
 (dR 4 bH (fC (.int 0)) (f2 cE (f2 cE (f2 dIx (aA 4) (fC (.int 0))) (fC (.str "\n"))) (f2 hX (fC (.str " ")) (aA 3)))))
  (fIf (wK (fTE (fIO [.im (aA 0),.im (aA 5),.im (aA 2),.im (aA 3),.io 4] mf)))
  (bS (aH (fC (.bl false))))
  bK)))))))
 (bS (aH (fC (.bl true)))))
abbrev st_l_set:Stmt:=top 44
abbrev ps_l_set:List Str:=["_law_script","_law_row_here","_law_flat","_law_hang","_law_state"]
theorem vL:FnScope ["_law_script","_law_row_here","_law_flat","_law_hang","_law_state","_law_piece","_law_column"] ps_l_set (aU st_l_set):=cP
theorem xg1(eo:Dn K mg "_law_set" st_l_set ps_l_set f fd)
  (i5:Dn K mg "_law_inner" rE oM o4 n9) (qo:FnOk P w K mg base CX0 n o4 n9 oM (SpE 5 K U (bD [false,false,false,false,true]) mf))
  (aa:mg "len"=none):
  FnOk P w K mg base CX0 (n+1) f fd ps_l_set (SpE 5 K U (bD [false,false,false,false,true]) (gE 5 2 (bD [false,false,false,false,true]) (yc9 mf))):=
 kU eo.F vL (fun i hi=>fH hi) fun cdv A outer s H E hr=>
 (aL (zk8 5 1 ZR rfl vL.nd rfl (.inl rfl) rfl rfl rfl
  (aL (aY 6 vL.nd (bC lY (QP.v (bC lY (QP.v (cO eW rfl aa ZK (aF (aZ (aB 4) (QP.v aG)) aQ))) (QP.v aG))) (QP.v (ze6 PySem.F.slot_str_rfind PySem.F.type_str_rfind xp4 (aZ (aB 4) (QP.v aG)) (aF (QP.v bZ) aQ)))))
 (aM (cB (QT.e (mI (ze5 (bP (hJ (Room.units hr)) (aZ (aB 5) (QP.v aG)) (QP.v bZ) (bG _)) (xL (mI (kE (bP (hJ (Room.units hr)) (aZ (aB 5) (QP.v aG)) (QP.v bZ) (bG _)) (jF (iR (aB 2)))))))))
  (aM (rX (j:=4) rfl (bC eM (aZ (aB 4) (QP.v aG)) (aZ (aB 5) (QP.v aG))) (bJ 4) (QP.v aG)))
  (aM (cB (QT.e (mI (kE (bP (hJ (Room.units hr)) (aZ (aB 5) (QP.v aG)) (QP.v bZ) (bG _)) (jF (bP zw4 (aB 6) (aZ (aB 5) (QP.v aG)) (bG _))))))
  (aM (rX (j:=4) rfl (bC eM (aZ (aB 4) (QP.v aG)) (QP.v (bC qU (QP.v bZ) (QP.v (bC lY (aZ (aB 5) (QP.v aG)) (aB 6)))))) (bJ 4) (QP.v aG)))
  (aM (cB (QT.e (mI (kE (bP (hJ (Room.units hr)) (aZ (aB 5) (QP.v aG)) (QP.v bZ) (bG _)) (jF (rT (iR (aB 2)))))))
  (aM (rX (j:=4) rfl (bC eM (QP.v (bC eM (aZ (aB 4) (QP.v aG)) (QP.v bZ))) (QP.v (bC qU (QP.v bZ) (aZ (aB 5) (QP.v aG))))) (bJ 4) (QP.v aG)))
  (aM (cB (QT.e (bP xw3 (aZ (aB 5) (QP.v aG)) (QP.v (eG (qW (.str (.str (.str .nil)))))) (by with_unfolding_all rfl)))
  (aL (cB (QT.e (iR (aB 2)))
  (aM (bQ (QP.e qT)))
  bU)
 (aM (rX (j:=4) rfl (bC eM (QP.v (bC eM (aZ (aB 4) (QP.v aG)) (QP.v bZ))) (QP.v (bC qU (QP.v bZ) (aB 3)))) (bJ 4) (QP.v aG))))
  (aM (cB (yg8 (yg9 (qV i5 qo hr rfl (bO (aB 0) (bO (aB 5) (bO (aB 2) (bO (aB 3) (nR 4 dC))))) rfl (hV rfl) (nd1 4) (vJ 4))))
  (aM (bQ (QP.e qT)))
  bU))))))))))))
 (aM (bQ (QP.e qT))))
def yk0(g9:(tz7)):tz1:=
 (aS (aV 2 (aH (dA (aC (fC (.str "")) (aC (dA aE) (aC (bB (aA 1)) (aC (fC (.int 0)) aE)))))))
 (aS (fIf (zu5 (wK (fTE (fIO [.im (zu2 (dA aE)),.im (aA 0),.im (fC (.bl false)),.im (fC (.int 0)),.io 2] g9))) (fB (f2 dNe (aJ cT (aC (f2 dIx (aA 2) (fC (.int 1))) aE)) (aJ cT (aC (aA 1) aE)))))
  (bS (aH (fC .non)))
  bK)
 (bS (aH (bB (f2 dIx (aA 2) (fC (.int 0))))))))
abbrev zZ:Stmt:=top 46
abbrev vA:List Str:=["_law_row_here","_law_choices"]
theorem zm1:FnScope ["_law_row_here","_law_choices","_law_state"] vA (aU zZ):=cP
theorem xq9(ko:Dn K mg "_law_by" zZ vA f fd)
  (eo:Dn K mg "_law_set" st_l_set ps_l_set mn lr) (jt:FnOk P w K mg base CX0 n mn lr ps_l_set (SpE 5 K U (bD [false,false,false,false,true]) g9))
  (aa:mg "len"=none):
  FnOk P w K mg base CX0 (n+1) f fd vA (SpP 2 K U (gP 2 1 (yk0 g9))):=
 cW ko.F zm1 fun cdv A outer s H E B hr=>
 (aL (aY 2 zm1.nd (eG (aR bZ (aR (eG bI) (aR (QV.p (aB 1)) (aR aG bI))))))
 (aL (cB (xx0 (yg8 (yg9 (qV eo jt hr rfl (bO (QP.v (xp8 (eG bI))) (bO (aB 0) (bO (QP.v qT) (bO (QP.v aG) (nR 2 dC))))) rfl (hV rfl) (nd1 2) (vJ 2)))) (bP (xd8 (Room.units hr)) (QP.v (cO eW rfl aa ZK (aF (aZ (aB 2) (QP.v aG)) aQ))) (QP.v (cO eW rfl aa ZK (aF (aB 1) aQ))) (bG _)))
  (aM (bQ (QP.e gV)))
  bU)
 (aM (bQ (QP.e (QV.p (aZ (aB 2) (QP.v aG))))))))
def yS(k9:(tz6))(kq:(List D->Bool)):tz1:=
 (aS (zi4 kq (aC (aA 0) (aC (aA 1) aE))
  (aV 2 (aH (aJ k9 (aC (aA 0) (aC (aA 1) aE))))))
 (nZ 2))
abbrev oN:Stmt:=top 47
abbrev lR:List Str:=["_law_row_here","_law_width"]
theorem sB:FnScope ["_law_row_here","_law_width","_law_found"] lR (aU oN):=cP
theorem zy7(dr:Dn K mg "_law_pressed" oN lR f fd)
  (bo:Dn K mg "pressed" lQ gL la kr) (lb:FnOk P w K mg base CX0 n la kr gL (SpP 2 K U k9))
   (kt:FnOk P w K mg base (CXn P w base cb) n la kr gL (yM 2 K U cb kq))
  (gw:OwnCls "NoRoom" cb bmV "ValueError.__new__" mg base):
  FnOk P w K mg base CX0 (n+1) f fd lR (SpP 2 K U (gP 2 1 (yS k9 kq))):=
 cW dr.F sB fun cdv A outer s H E B hr=>
 (aL (xq8 bo kt gw rfl hr rfl rfl rfl (aF (aB 0) (aF (aB 1) aQ)) (aN (aN bM)) (aM (aY 2 sB.nd (cS bo lb hr rfl rfl (aF (aB 0) (aF (aB 1) aQ)) (aN (aN bM))))) rfl rfl)
 (aM (lZ 2 rfl)))
def zi7:tz1:=
 (aS (aV 2 (aH (fMt uU (aA 0) (aC (fC (.str "\n")) aE))))
 (aS (zt8 3 2
  (fIf (aT (fB (f2 dGt (aJ cT (aC (aA 3) aE)) (aA 1))))
  (bS (aH (fC .non)))
  bK))
 (bS (aH (cZ (aC (aJ cT (aC (aA 2) aE)) (aC (aJ yc0 (aC (mX [none,some 1] (eT (fSl (aA 2) jI (nY (dL (fC (.int 1)))))) nC (f2 hX (f2 gF (aA 1) (aJ cT (aC (aA 0) aE))) (f2 gF (aA 1) (aJ cT (aC (aA 0) aE))))) aE)) aE)))))))
abbrev oO:Stmt:=top 48
abbrev oP:List Str:=["_law_text","_law_width"]
theorem qY:FnScope ["_law_text","_law_width","_law_lines","_law_line"] oP (aU oO):=cP
theorem yn5(fj:Dn K mg "_law_price" oO oP f fd)
  (aa:mg "len"=none)
  (mm:mg "sum"=none):
  FnOk P w K mg base CX0 (n+1) f fd oP (SpP 2 K U (gP 2 2 (zi7))):=
 cW fj.F qY fun cdv A outer s H E B hr=>
 (aL (aY 2 qY.nd (ze6 W3 W4 yg4 (aB 0) (aF (QP.v bZ) aQ)))
 (aL (xp0 3 2 ZR rfl qY.nd rfl (by first|exact Or.inl rfl|exact Or.inr rfl) rfl rfl (by decide) rfl (fun fp=>
  (aM (cB (QT.e (bP ym1 (QP.v (cO eW rfl aa ZK (aF (aB 3) aQ))) (aB 1) (bG _)))
  (aM (bQ (QP.e gV)))
  bU))))
 (aM (bQ (QP.e (eC (aR (cO eW rfl aa ZK (aF (aB 2) aQ)) (aR (cO (xk8 rfl) rfl mm boot_sum (aF (QP.v (zF (sc:=aU oO) (NX:=["_law_text","_law_width","_law_lines","_law_line"]) (N:=["_law_line","_law_width"]) (pick:=[none,some 1]) ⟨rfl,by decide+kernel,by decide+kernel,by decide+kernel,by decide+kernel,by decide,rfl⟩ rfl rfl rfl (ze9 (QP.v (zw7 (aB 2) yg2 (yg3 (QP.v (mQ (QP.v aG))))))) (fun _ _ _ _=>(iD (i:=0) (show(["_law_line","_law_width"]:List Str).Nodup by decide) rfl (by first|exact Or.inl rfl|exact Or.inr rfl))) (fun _ _ _ _=>zE) (fun _ _ _ _=>(bC qU (QP.v (bC lY (aB 1) (QP.v (cO eW rfl aa ZK (aF (aB 0) aQ))))) (QP.v (bC lY (aB 1) (QP.v (cO eW rfl aa ZK (aF (aB 0) aQ))))))))) aQ)) bI))))))))
def xb6(om:(tz6))(b0:(tz6))(jx:(tz6))(j5:(tz6))(oa:(tz6)):tz1:=
 (aS (aV 1 (aH (aJ om (aC (aA 0) (aC (fC (.int 0)) (aC (f2 cE (fC (.int 3)) (aJ zt5 (aC (aJ cT (aC (aA 0) aE)) (aC (fC (.int 27)) aE)))) (aC (fC (.int 3)) aE)))))))
 (aS (aV 2 (aH (aJ b0 (aC (aA 0) (aC (fC (.int 2)) (aC (fC (.int 64)) aE))))))
 (aS (aV 3 (aH (f2 cE (fC (.int 1)) (f2 eA (aA 2) (fC (.int 39))))))
 (aS (fIf (aT (fB (f2 dEq (f2 eA (f2 gG (aA 2) (fC (.int 39))) (fC (.int 2))) (fC (.int 0)))))
  (aV 3 (aH (f2 cE (fC (.int 12)) (f2 eA (f2 gG (aA 2) (fC (.int 78))) (fC (.int 28))))))
  bK)
 (aS (aV 4 (aH (f2 cE (aA 3) (fC (.int 1)))))
 (aS (fIf (aT (fB (f2 dEq (f2 eA (f2 gG (aA 2) (fC (.int 3000))) (fC (.int 2))) (fC (.int 0)))))
  (aV 4 (aH (f2 cE (f2 cE (aA 3) (fC (.int 1))) (f2 eA (f2 gG (aA 2) (fC (.int 6000))) (f2 gF (fC (.int 40)) (aA 3))))))
  bK)
 (aS (aV 5 (aH (aJ jx (aC (aA 1) (aC (aA 3) aE)))))
 (aS (aV 6 (aH (aJ jx (aC (aA 1) (aC (aA 4) aE)))))
 (aS (fIf (aT (fB (f2 dIs (aA 5) (fC .non))))
  (bS (aH (fC (.bl true))))
  bK)
 (aS (fIf (aT (lL (fB (f2 dIs (aA 6) (fC .non))) (fB (f2 dIs (aJ j5 (aC (f2 dIx (aA 5) (fC (.int 0))) (aC (aA 3) aE))) (fC .non)))))
  (bS (aH (fC (.bl false))))
  bK)
 (aS (fIf (aT (lL (fB (f2 dNe (aJ oa (aC (aA 1) (aC (f2 dIx (aA 5) (fC (.int 1))) aE))) (f2 dIx (aA 5) (fC (.int 0))))) (fB (f2 dNe (aJ oa (aC (aA 1) (aC (f2 dIx (aA 6) (fC (.int 1))) aE))) (f2 dIx (aA 6) (fC (.int 0)))))))
  (bS (aH (fC (.bl false))))
  bK)
 (aS (aV 7 (aH (aJ j5 (aC (f2 dIx (aA 6) (fC (.int 0))) (aC (aA 4) aE)))))
 (bS (aH (qJ (f2 mS (aA 7) (fC .non)) (f2 yc4 (aA 7) (aJ j5 (aC (f2 dIx (aA 5) (fC (.int 0))) (aC (aA 4) aE)))))))))))))))))))
abbrev yd0:Stmt:=top 49
abbrev yd1:List Str:=["_law_script"]
theorem lG:FnScope ["_law_script","_law_row_here","_law_number","_law_width","_law_wider","_law_one","_law_other","_law_least"] yd1 (aU yd0):=cP
theorem xx1(qg:Dn K mg "law" yd0 yd1 f fd)
  (ki:Dn K mg "_law_row" wO sL qc pi) (on:FnOk P w K mg base CX0 n qc pi sL (SpP 4 K U om))
  (cm:Dn K mg "_law_mixed" mH jY i4 g8) (da:FnOk P w K mg base CX0 n i4 g8 jY (SpP 3 K U b0))
  (dr:Dn K mg "_law_pressed" oN lR m8 mh) (jy:FnOk P w K mg base CX0 n m8 mh lR (SpP 2 K U jx))
  (fj:Dn K mg "_law_price" oO oP o5 og) (j6:FnOk P w K mg base CX0 n o5 og oP (SpP 2 K U j5))
  (ko:Dn K mg "_law_by" zZ vA qq qd) (oh:FnOk P w K mg base CX0 n qq qd vA (SpP 2 K U oa))
  (k7:mg "min"=none)
  (aa:mg "len"=none):
  FnOk P w K mg base CX0 (n+1) f fd yd1 (SpP 1 K U (gP 1 7 (xb6 om b0 jx j5 oa))):=
 cW qg.F lG fun cdv A outer s H E B hr=>
 (aL (aY 1 lG.nd (cS ki on hr rfl rfl (aF (aB 0) (aF (QP.v aG) (aF (QP.v (bC eM (QP.v aG) (QP.v (cO (xw5 rfl) rfl k7 boot_min (aF (QP.v (cO eW rfl aa ZK (aF (aB 0) aQ))) (aF (QP.v aG) aQ)))))) (aF (QP.v aG) aQ)))) (aN (aN (aN (aN bM))))))
 (aL (aY 2 lG.nd (cS cm da hr rfl rfl (aF (aB 0) (aF (QP.v aG) (aF (QP.v aG) aQ))) (aN (aN (aN bM)))))
 (aL (aY 3 lG.nd (bC eM (QP.v aG) (QP.v (bC gZ (aB 2) (QP.v aG)))))
 (aL (cB (QT.e (bP (hJ (Room.units hr)) (QP.v (bC gZ (QP.v (bC nP (aB 2) (QP.v aG))) (QP.v aG))) (QP.v aG) (bG _)))
  (aM (aY 3 lG.nd (bC eM (QP.v aG) (QP.v (bC gZ (QP.v (bC nP (aB 2) (QP.v aG))) (QP.v aG))))))
  bU)
 (aL (aY 4 lG.nd (bC eM (aB 3) (QP.v aG)))
 (aL (cB (QT.e (bP (hJ (Room.units hr)) (QP.v (bC gZ (QP.v (bC nP (aB 2) (QP.v aG))) (QP.v aG))) (QP.v aG) (bG _)))
  (aM (aY 4 lG.nd (bC eM (QP.v (bC eM (aB 3) (QP.v aG))) (QP.v (bC gZ (QP.v (bC nP (aB 2) (QP.v aG))) (QP.v (bC lY (QP.v aG) (aB 3))))))))
  bU)
 (aL (aY 5 lG.nd (cS dr jy hr rfl rfl (aF (aB 1) (aF (aB 3) aQ)) (aN (aN bM))))
 (aL (aY 6 lG.nd (cS dr jy hr rfl rfl (aF (aB 1) (aF (aB 4) aQ)) (aN (aN bM))))
 (aL (cB (QT.e (bP zb3 (aB 5) (QP.v gV) (bG _)))
  (aM (bQ (QP.e qT)))
  bU)
 (aL (cB (QT.e (mI (ze5 (bP zb3 (aB 6) (QP.v gV) (bG _)) (xL (bP zb3 (QP.v (cS fj j6 hr rfl rfl (aF (aZ (aB 5) (QP.v aG)) (aF (aB 3) aQ)) (aN (aN bM)))) (QP.v gV) (bG _))))))
  (aM (bQ (QP.e qT)))
  bU)
 (aL (cB (QT.e (mI (ze5 (bP (xd8 (Room.units hr)) (QP.v (cS ko oh hr rfl rfl (aF (aB 1) (aF (aZ (aB 5) (QP.v aG)) aQ)) (aN (aN bM)))) (aZ (aB 5) (QP.v aG)) (bG _)) (xL (bP (xd8 (Room.units hr)) (QP.v (cS ko oh hr rfl rfl (aF (aB 1) (aF (aZ (aB 6) (QP.v aG)) aQ)) (aN (aN bM)))) (aZ (aB 6) (QP.v aG)) (bG _))))))
  (aM (bQ (QP.e qT)))
  bU)
 (aL (aY 7 lG.nd (cS fj j6 hr rfl rfl (aF (aZ (aB 6) (QP.v aG)) (aF (aB 4) aQ)) (aN (aN bM))))
 (aM (bQ (QP.e (yu3 (nN zk6 (aB 7) (QP.v gV) (bG _)) (zw2 (nN (wd4 (Room.units hr)) (aB 7) (QP.v (cS fj j6 hr rfl rfl (aF (aZ (aB 5) (QP.v aG)) (aF (aB 4) aQ)) (aN (aN bM)))) (bG _)))))))))))))))))))
def xF:tz1:=
 (aS (gO 0 bH "Place" "broken" (bB (aA 1)))
 (gO 0 bH "Place" "margin" (bB (aA 2))))
abbrev st_Place_init:Stmt:=iE (top 6) 0
abbrev ps_Place_init:List Str:=["self","broken","margin"]
theorem xA:FnScope ["self","broken","margin"] ps_Place_init (aU st_Place_init):=cP
theorem zs5(gi:Kn K mg U "Place" "Place.__init__" st_Place_init ps_Place_init f fd)
  (av:Cls K (U "Place"))
  (bd:cC K (U "Place") "broken")
  (c8:cC K (U "Place") "margin"):
  FnOk P w K mg base CX0 (n+1) f fd ps_Place_init (SpE 3 K U (bD [true,false,false]) (gE 3 0 (bD [true,false,false]) (xF))):=
 kU gi.F xA (fun i hi=>fH hi) fun cdv A outer s H E hr=>
 (aL (gB (C:="Place") av bd rfl (QV.p (aB 1)) (bJ 0))
 (aM (gB (C:="Place") av c8 rfl (QV.p (aB 2)) (bJ 0))))
def qM:tz1:=
 (aS (gO 0 bH "Front" "steps" (bB (aA 1)))
 (gO 0 bH "Front" "best" rC))
abbrev st_Front_init:Stmt:=iE (top 16) 0
abbrev ps_Front_init:List Str:=["self","steps"]
theorem xB:FnScope ["self","steps"] ps_Front_init (aU st_Front_init):=cP
theorem zs6(b5:Kn K mg U "Front" "Front.__init__" st_Front_init ps_Front_init f fd)
  (ac:Cls K (U "Front"))
  (b6:cC K (U "Front") "steps")
  (ag:cC K (U "Front") "best"):
  FnOk P w K mg base CX0 (n+1) f fd ps_Front_init (SpE 2 K U (bD [true,false]) (gE 2 0 (bD [true,false]) (qM))):=
 kU b5.F xB (fun i hi=>fH hi) fun cdv A outer s H E hr=>
 (aL (gB (C:="Front") ac b6 rfl (QV.p (aB 1)) (bJ 0))
 (aM (gB (C:="Front") ac ag rfl xf5 (bJ 0))))
def lS:tz1:=
 (fIf (aT (lL (fB (f2 kO (aA 1) (cD "Front" "best" (aA 0)))) (fB (f2 yc3 (aA 2) (f2 kR (cD "Front" "best" (aA 0)) (aA 1))))))
  (rD 0 (zt7 0 bH "Front" "best") (aA 1) (bB (aA 2)))
  bK)
abbrev st_Front_add:Stmt:=iE (top 16) 1
abbrev ps_Front_add:List Str:=["self","state","way"]
theorem xY:FnScope ["self","state","way"] ps_Front_add (aU st_Front_add):=cP
theorem zy8(ak:Mn K U "Front" "add" "Front.add" st_Front_add ps_Front_add f fd)
  (ac:Cls K (U "Front"))
  (ag:cC K (U "Front") "best"):
  FnOk P w K mg base CX0 (n+1) f fd ps_Front_add (SpE 3 K U (bD [true,false,false]) (gE 3 0 (bD [true,false,false]) (lS))):=
 kU ak.F xY (fun i hi=>fH hi) fun cdv A outer s H E hr=>
 (aM (cB (QT.e (mI (ze5 (yw4 (zB hr) (aB 1) (cU (C:="Front") ac ag (aB 0))) (xL (bP (wd0 (Room.units hr)) (aB 2) (zG (zB hr) (cU (C:="Front") ac ag (aB 0)) (aB 1)) (bG _))))))
  (aM (xq0 (j:=0) (zB hr) rfl (QV.p (aB 2)) (zp4 (C:="Front") ac ag (bJ 0)) (aB 1)))
  bU))
def kA(aj:(tz7)):tz1:=
 (iQ 2 (uY (bB (cD "Front" "best" (aA 1))))
  (cY (dH 0 bH (cA [.im (aA 2),.im (f2 kR (cD "Front" "best" (aA 1)) (aA 2))]) (dS "Front" "add" aj))))
abbrev st_Front_add_all:Stmt:=iE (top 16) 2
abbrev ps_Front_add_all:List Str:=["self","other"]
theorem nB:FnScope ["self","other","state"] ps_Front_add_all (aU st_Front_add_all):=cP
theorem zc3(cu:Mn K U "Front" "add_all" "Front.add_all" st_Front_add_all ps_Front_add_all f fd)
  (ak:Mn K U "Front" "add" "Front.add" st_Front_add ps_Front_add c9 cj) (az:FnOk P w K mg base CX0 n c9 cj ps_Front_add (SpE 3 K U (bD [true,false,false]) aj))
  (ac:Cls K (U "Front"))
  (ag:cC K (U "Front") "best"):
  FnOk P w K mg base CX0 (n+1) f fd ps_Front_add_all (SpE 2 K U (bD [true,false]) (gE 2 1 (bD [true,false]) (kA aj))):=
 kU cu.F nB (fun i hi=>fH hi) fun cdv A outer s H E hr=>
 (aM (xM 2 ZR rfl nB.nd rfl (.inl rfl) rfl rfl (zl9 (QV.p (cU (C:="Front") ac ag (aB 1))))
  (aM (fD (kL ak az hr rfl (bJ 0) (bO (aB 2) (bO (zG (zB hr) (cU (C:="Front") ac ag (aB 1)) (aB 2)) dC)) rfl rfl (dD 2))))))
def kS:tz1:=
 (gO 0 bH "WithinWidth" "width" (bB (aA 1)))
abbrev st_WithinWidth_init:Stmt:=iE (top 27) 0
abbrev ps_WithinWidth_init:List Str:=["self","width"]
theorem oS:FnScope ["self","width"] ps_WithinWidth_init (aU st_WithinWidth_init):=cP
theorem xG(di:Kn K mg U "WithinWidth" "WithinWidth.__init__" st_WithinWidth_init ps_WithinWidth_init f fd)
  (au:Cls K (U "WithinWidth"))
  (dt:cC K (U "WithinWidth") "width"):
  FnOk P w K mg base CX0 (n+1) f fd ps_WithinWidth_init (SpE 2 K U (bD [true,false]) (gE 2 0 (bD [true,false]) (kS))):=
 kU di.F oS (fun i hi=>fH hi) fun cdv A outer s H E hr=>
 (aM (gB (C:="WithinWidth") au dt rfl (QV.p (aB 1)) (bJ 0)))
def jP(du:(tz6))(bc:(tz6))(cz:(tz6))(gd:(tz6)):tz1:=
 (aS (aV 5 (aH (aJ du (aC (aA 3) (aC (aA 4) (aC (aA 1) aE))))))
 (aS (fIf (aT (fB (f2 dIs (aA 5) (fC .non))))
  (bS (aH (fC .non)))
  bK)
 (aS (aV 6 (aH (aJ bc (aC (aA 1) (aC (aA 5) aE)))))
 (aS (fIf (aT (fB (f2 dGt (aA 6) (cD "WithinWidth" "width" (aA 0)))))
  (bS (aH (fC .non)))
  bK)
 (aS (fIf (aT (fT (aJ cz (aC (aA 5) aE))))
  (bS (aH (cZ (aC (bB (aA 6)) (aC (cZ (aC (f2 cE (f2 dIx (aA 2) (fC (.int 0))) (fC (.int 1))) (aC (f2 cE (f2 dIx (aA 2) (fC (.int 1))) (aJ gd (aC (pW "WithinWidth" "rag_of" (aA 0)) (aC (aA 1) aE)))) aE))) aE)))))
  bK)
 (bS (aH (cZ (aC (bB (aA 6)) (aC (bB (aA 2)) aE))))))))))
abbrev st_WithinWidth_state_behind:Stmt:=iE (top 27) 1
abbrev ps_WithinWidth_state_behind:List Str:=["self","length","cost","piece","place"]
theorem eS:FnScope ["self","length","cost","piece","place","wrote","column"] ps_WithinWidth_state_behind (aU st_WithinWidth_state_behind):=cP
theorem pR(ai:Mn K U "WithinWidth" "state_behind" "WithinWidth.state_behind" st_WithinWidth_state_behind ps_WithinWidth_state_behind f fd)
  (cc:Dn K mg "writing" lP iJ jz jh) (gj:FnOk P w K mg base CX0 n jz jh iJ (SpP 3 K U du))
  (al:Dn K mg "column_behind" gI eK d9 dq) (bx:FnOk P w K mg base CX0 n d9 dq eK (SpP 2 K U bc))
  (bh:Dn K mg "ends_line" jJ fX ik g4) (dh:FnOk P w K mg base CX0 n ik g4 fX (SpP 1 K U cz))
  (a9:Mn K U "WithinWidth" "rag_of" "WithinWidth.rag_of" st_WithinWidth_rag_of ps_WithinWidth_rag_of ji i6) (ge:FnOk P w K mg base CX0 n ji i6 ps_WithinWidth_rag_of (SpP 2 K U gd))
  (au:Cls K (U "WithinWidth"))
  (dt:cC K (U "WithinWidth") "width"):
  FnOk P w K mg base CX0 (n+1) f fd ps_WithinWidth_state_behind (SpP 5 K U (gP 5 2 (jP du bc cz gd))):=
 cW ai.F eS fun cdv A outer s H E B hr=>
 (aL (aY 5 eS.nd (cS cc gj hr rfl rfl (aF (aB 3) (aF (aB 4) (aF (aB 1) aQ))) (aN (aN (aN bM)))))
 (aL (cB (QT.e (bP zb3 (aB 5) (QP.v gV) (bG _)))
  (aM (bQ (QP.e gV)))
  bU)
 (aL (aY 6 eS.nd (cS al bx hr rfl rfl (aF (aB 1) (aF (aB 5) aQ)) (aN (aN bM))))
 (aL (cB (QT.e (bP ym1 (aB 6) (cU (C:="WithinWidth") au dt (aB 0)) (bG _)))
  (aM (bQ (QP.e gV)))
  bU)
 (aL (cB (QT.e (iR (QP.v (cS bh dh hr rfl rfl (aF (aB 5) aQ) (aN bM)))))
  (aM (bQ (QP.e (eC (aR (QV.p (aB 6)) (aR (eC (aR (bC eM (aZ (aB 2) (QP.v aG)) (QP.v aG)) (aR (bC eM (aZ (aB 2) (QP.v aG)) (QP.v (zy3 a9 ge hr (aB 0) rfl (aF (aB 1) aQ) (aN bM)))) bI))) bI))))))
  bU)
 (aM (bQ (QP.e (eC (aR (QV.p (aB 6)) (aR (QV.p (aB 2)) bI)))))))))))
def nI:tz1:=
 (bS (aH (f2 hX (f2 gF (cD "WithinWidth" "width" (aA 0)) (aA 1)) (f2 gF (cD "WithinWidth" "width" (aA 0)) (aA 1)))))
abbrev st_WithinWidth_rag_of:Stmt:=iE (top 27) 2
abbrev ps_WithinWidth_rag_of:List Str:=["self","length"]
theorem nF:FnScope ["self","length"] ps_WithinWidth_rag_of (aU st_WithinWidth_rag_of):=cP
theorem uK(a9:Mn K U "WithinWidth" "rag_of" "WithinWidth.rag_of" st_WithinWidth_rag_of ps_WithinWidth_rag_of f fd)
  (au:Cls K (U "WithinWidth"))
  (dt:cC K (U "WithinWidth") "width"):
  FnOk P w K mg base CX0 (n+1) f fd ps_WithinWidth_rag_of (SpP 2 K U (gP 2 0 (nI))):=
 cW a9.F nF fun cdv A outer s H E B hr=>
 (aM (bQ (QP.e (bC qU (QP.v (bC lY (cU (C:="WithinWidth") au dt (aB 0)) (aB 1))) (QP.v (bC lY (cU (C:="WithinWidth") au dt (aB 0)) (aB 1)))))))
def pD:tz1:=
 (aS (gO 0 bH "Setter" "choices" (bB (aA 1)))
 (aS (gO 0 bH "Setter" "used" (fC (.int 0)))
 (aS (gO 0 bH "Setter" "column" (fC (.int 0)))
 (gO 0 bH "Setter" "parts" (dA aE)))))
abbrev st_Setter_init:Stmt:=iE (top 30) 0
abbrev ps_Setter_init:List Str:=["self","choices"]
theorem uL:FnScope ["self","choices"] ps_Setter_init (aU st_Setter_init):=cP
theorem zm2(jq:Kn K mg U "Setter" "Setter.__init__" st_Setter_init ps_Setter_init f fd)
  (ae:Cls K (U "Setter"))
  (cf:cC K (U "Setter") "choices")
  (dj:cC K (U "Setter") "used")
  (fk:cC K (U "Setter") "column")
  (gf:cC K (U "Setter") "parts"):
  FnOk P w K mg base CX0 (n+1) f fd ps_Setter_init (SpE 2 K U (bD [true,false]) (gE 2 0 (bD [true,false]) (pD))):=
 kU jq.F uL (fun i hi=>fH hi) fun cdv A outer s H E hr=>
 (aL (gB (C:="Setter") ae cf rfl (QV.p (aB 1)) (bJ 0))
 (aL (gB (C:="Setter") ae dj rfl aG (bJ 0))
 (aL (gB (C:="Setter") ae fk rfl aG (bJ 0))
 (aM (gB (C:="Setter") ae gf rfl (eG bI) (bJ 0))))))
def iZ:tz1:=
 (aS (fIf (aT (fB (f2 dGe (cD "Setter" "used" (aA 0)) (aJ cT (aC (cD "Setter" "choices" (aA 0)) aE)))))
  uV
  bK)
 (aS (aV 2 (aH (bB (f2 dIx (cD "Setter" "choices" (aA 0)) (cD "Setter" "used" (aA 0))))))
 (aS (fIf (aT (lL (fB (f2 dLt (aA 2) (fC (.int 0)))) (fB (f2 dGe (aA 2) (aA 1)))))
  uV
  bK)
 (aS (gO 0 bH "Setter" "used" (f2 cE (cD "Setter" "used" (aA 0)) (fC (.int 1))))
 (nZ 2)))))
abbrev fZ:Stmt:=iE (top 30) 1
abbrev eV:List Str:=["self","count"]
theorem iX:FnScope ["self","count","number"] eV (aU fZ):=cP
theorem tU(ay:Mn K U "Setter" "choice_below" "Setter.choice_below" fZ eV f fd)
  (ae:Cls K (U "Setter"))
  (dj:cC K (U "Setter") "used")
  (cf:cC K (U "Setter") "choices")
  (aa:mg "len"=none):
  FnOk P w K mg base CX0 (n+1) f fd eV (SpE 2 K U (bD [true,false]) (gE 2 1 (bD [true,false]) (iZ))):=
 kU ay.F iX (fun i hi=>fH hi) fun cdv A outer s H E hr=>
 (aL (cB (QT.e (bP ym2 (cU (C:="Setter") ae dj (aB 0)) (QP.v (cO eW rfl aa ZK (aF (cU (C:="Setter") ae cf (aB 0)) aQ))) (bG _)))
  (aM rV)
  bU)
 (aL (aY 2 iX.nd (QV.p (aZ (cU (C:="Setter") ae cf (aB 0)) (cU (C:="Setter") ae dj (aB 0)))))
 (aL (cB (QT.e (mI (ze5 (bP (tN (Room.units0 hr)) (aB 2) (QP.v aG) (bG _)) (xL (bP ym2 (aB 2) (aB 1) (bG _))))))
  (aM rV)
  bU)
 (aL (gB (C:="Setter") ae dj rfl (bC eM (cU (C:="Setter") ae dj (aB 0)) (QP.v aG)) (bJ 0))
 (aM (lZ 2 rfl))))))
def iO(du:(tz6))(bc:(tz6)):tz1:=
 (aS (aV 3 (aH (aJ du (aC (aA 1) (aC (aA 2) (aC (cD "Setter" "column" (aA 0)) aE))))))
 (aS (fIf (aT (fB (f2 dIs (aA 3) (fC .non))))
  uV
  bK)
 (aS (cY (dH 0 (zt7 0 bH "Setter" "parts") (aC (bB (aA 3)) aE) eE))
 (gO 0 bH "Setter" "column" (aJ bc (aC (cD "Setter" "column" (aA 0)) (aC (aA 3) aE)))))))
abbrev iP:Stmt:=iE (top 30) 2
abbrev fS:List Str:=["self","piece","place"]
theorem kP:FnScope ["self","piece","place","wrote"] fS (aU iP):=cP
theorem xH(bn:Mn K U "Setter" "set_plain" "Setter.set_plain" iP fS f fd)
  (cc:Dn K mg "writing" lP iJ jz jh) (gj:FnOk P w K mg base CX0 n jz jh iJ (SpP 3 K U du))
  (al:Dn K mg "column_behind" gI eK d9 dq) (bx:FnOk P w K mg base CX0 n d9 dq eK (SpP 2 K U bc))
  (ae:Cls K (U "Setter"))
  (fk:cC K (U "Setter") "column")
  (gf:cC K (U "Setter") "parts"):
  FnOk P w K mg base CX0 (n+1) f fd fS (SpE 3 K U (bD [true,false,false]) (gE 3 1 (bD [true,false,false]) (iO du bc))):=
 kU bn.F kP (fun i hi=>fH hi) fun cdv A outer s H E hr=>
 (aL (aY 3 kP.nd (cS cc gj hr rfl rfl (aF (aB 1) (aF (aB 2) (aF (cU (C:="Setter") ae fk (aB 0)) aQ))) (aN (aN (aN bM)))))
 (aL (cB (QT.e (bP zb3 (aB 3) (QP.v gV) (bG _)))
  (aM rV)
  bU)
 (aL (fD (nE (j:=0) rfl (zp4 (C:="Setter") ae gf (bJ 0)) (aR (QV.p (aB 3)) bI)))
 (aM (gB (C:="Setter") ae fk rfl (cS al bx hr rfl rfl (aF (cU (C:="Setter") ae fk (aB 0)) (aF (aB 3) aQ)) (aN (aN bM))) (bJ 0))))))
def iA(ip:(tz6))(bi:(tz6))(et:(tz7))(bj:(tz7)):tz1:=
 (aS (aV 3 (aH (aJ ip (aC (aA 1) (aC (aA 2) aE)))))
 (aS (aV 4 (aH (fC (.int 0))))
 (aS (fIf (aT (fT (aJ bi (aC (aA 1) (aC (aA 2) aE)))))
  (aV 4 (dH 0 bH (cA [.im (aJ cT (aC (aA 3) aE))]) (dS "Setter" "choice_below" et)))
  bK)
 (aS (aV 5 (aH (bB (f2 dIx (aA 3) (aA 4)))))
 (cY (dH 0 bH (cA [.im (f2 dIx (aA 5) (fC (.int 0))),.im (f2 dIx (aA 5) (fC (.int 1)))]) (dS "Setter" "set_row" bj)))))))
abbrev iB:Stmt:=iE (top 30) 3
abbrev fJ:List Str:=["self","piece","place"]
theorem eO:FnScope ["self","piece","place","found","number","way"] fJ (aU iB):=cP
theorem vM(bg:Mn K U "Setter" "set_holder" "Setter.set_holder" iB fJ f fd)
  (fm:Dn K mg "ways" nH lO lj ku) (jo:FnOk P w K mg base CX0 n lj ku lO (SpP 2 K U ip))
  (ao:Dn K mg "takes_choice" gW eR f6 dw) (b9:FnOk P w K mg base CX0 n f6 dw eR (SpP 2 K U bi))
  (ay:Mn K U "Setter" "choice_below" "Setter.choice_below" fZ eV i7 ii) (eu:FnOk P w K mg base CX0 n i7 ii eV (SpE 2 K U (bD [true,false]) et))
  (aq:Mn K U "Setter" "set_row" "Setter.set_row" st_Setter_set_row ps_Setter_set_row f8 d6) (dg:FnOk P w K mg base CX0 n f8 d6 ps_Setter_set_row (SpE 3 K U (bD [true,false,false]) bj))
  (aa:mg "len"=none):
  FnOk P w K mg base CX0 (n+1) f fd fJ (SpE 3 K U (bD [true,false,false]) (gE 3 3 (bD [true,false,false]) (iA ip bi et bj))):=
 kU bg.F eO (fun i hi=>fH hi) fun cdv A outer s H E hr=>
 (aL (aY 3 eO.nd (cS fm jo hr rfl rfl (aF (aB 1) (aF (aB 2) aQ)) (aN (aN bM))))
 (aL (aY 4 eO.nd aG)
 (aL (cB (QT.e (iR (QP.v (cS ao b9 hr rfl rfl (aF (aB 1) (aF (aB 2) aQ)) (aN (aN bM))))))
  (aM (ze7 4 eO.nd rfl (.inl rfl) rfl rfl (kL ay eu hr rfl (bJ 0) (bO (QP.v (cO eW rfl aa ZK (aF (aB 3) aQ))) dC) rfl rfl (dD 1))))
  bU)
 (aL (aY 5 eO.nd (QV.p (aZ (aB 3) (aB 4))))
 (aM (fD (kL aq dg hr rfl (bJ 0) (bO (aZ (aB 5) (QP.v aG)) (bO (aZ (aB 5) (QP.v aG)) dC)) rfl rfl (dD 2))))))))
def jC(ca:(tz6))(gm:(tz7))(gx:(tz7)):tz1:=
 (iQ 3 (eT (aA 1))
  (fIf (aT (fT (aJ ca (aC (aA 3) aE))))
  (cY (dH 0 bH (cA [.im (aA 3),.im (aA 2)]) (dS "Setter" "set_holder" gm)))
  (cY (dH 0 bH (cA [.im (aA 3),.im (aA 2)]) (dS "Setter" "set_plain" gx)))))
abbrev st_Setter_set_row:Stmt:=iE (top 30) 4
abbrev ps_Setter_set_row:List Str:=["self","row","place"]
theorem mK:FnScope ["self","row","place","piece"] ps_Setter_set_row (aU st_Setter_set_row):=cP
theorem za5(aq:Mn K U "Setter" "set_row" "Setter.set_row" st_Setter_set_row ps_Setter_set_row f fd)
  (a7:Dn K mg "holds_rows" iU fI g6 gq) (db:FnOk P w K mg base CX0 n g6 gq fI (SpP 1 K U ca))
  (bg:Mn K U "Setter" "set_holder" "Setter.set_holder" iB fJ jm jj) (l3:FnOk P w K mg base CX0 n jm jj fJ (SpE 3 K U (bD [true,false,false]) gm))
  (bn:Mn K U "Setter" "set_plain" "Setter.set_plain" iP fS j7 jn) (gy:FnOk P w K mg base CX0 n j7 jn fS (SpE 3 K U (bD [true,false,false]) gx)):
  FnOk P w K mg base CX0 (n+1) f fd ps_Setter_set_row (SpE 3 K U (bD [true,false,false]) (gE 3 1 (bD [true,false,false]) (jC ca gm gx))):=
 kU aq.F mK (fun i hi=>fH hi) fun cdv A outer s H E hr=>
 (aM (zk8 3 1 ZR rfl mK.nd rfl (.inl rfl) rfl rfl rfl
  (aM (cB (QT.e (iR (QP.v (cS a7 db hr rfl rfl (aF (aB 3) aQ) (aN bM)))))
  (aM (fD (kL bg l3 hr rfl (bJ 0) (bO (aB 3) (bO (aB 2) dC)) rfl rfl (dD 2))))
  (aM (fD (kL bn gy hr rfl (bJ 0) (bO (aB 3) (bO (aB 2) dC)) rfl rfl (dD 2))))))))
def kB:tz1:=
 (aS (fIf (aT (fB (f2 dLt (cD "Setter" "used" (aA 0)) (aJ cT (aC (cD "Setter" "choices" (aA 0)) aE)))))
  uV
  bK)
 (bS (aH (fMt zi1 (fC (.str "")) (aC (cD "Setter" "parts" (aA 0)) aE)))))
abbrev st_Setter_whole_text:Stmt:=iE (top 30) 5
abbrev ps_Setter_whole_text:List Str:=["self"]
theorem nU:FnScope ["self"] ps_Setter_whole_text (aU st_Setter_whole_text):=cP
theorem vN(bf:Mn K U "Setter" "whole_text" "Setter.whole_text" st_Setter_whole_text ps_Setter_whole_text f fd)
  (ae:Cls K (U "Setter"))
  (dj:cC K (U "Setter") "used")
  (gf:cC K (U "Setter") "parts")
  (cf:cC K (U "Setter") "choices")
  (aa:mg "len"=none):
  FnOk P w K mg base CX0 (n+1) f fd ps_Setter_whole_text (SpP 1 K U (gP 1 0 (kB))):=
 cW bf.F nU fun cdv A outer s H E B hr=>
 (aL (cB (QT.e (bP (tN (Room.units0 hr)) (cU (C:="Setter") ae dj (aB 0)) (QP.v (cO eW rfl aa ZK (aF (cU (C:="Setter") ae cf (aB 0)) aQ))) (bG _)))
  (aM rV)
  bU)
 (aM (bQ (QP.e (ze6 PySem.F.slot_str_join PySem.F.type_str_join xw6 (QP.v bZ) (aF (cU (C:="Setter") ae gf (aB 0)) aQ))))))
end L3
namespace My
open PySem PySem.Spec PyProof.Rows L2 L3
def bN:Leaf->D
 | .word x=> .tup [.str "word",.str x]
 | .gap x=> .tup [.str "gap",.str x]
 | .stop c=> .tup [.str "stop",.int c]
 | .fin=> .tup [.str "end"]
mutual
def pcD:Pc->D
 | .leaf l=>bN l
 | .group r=> .tup [.str "group",.tup (pcsD r)]
 | .hang n r=> .tup [.str "hang",.int n,.tup (pcsD r)]
 | .either rs=> .tup [.str "either",.tup (rowsD rs)]
def pcsD:List Pc->List D
 |[]=>[]
 |p::r=>pcD p::pcsD r
def rowsD:List (List Pc)->List D
 |[]=>[]
 |r::rs=> .tup (pcsD r)::rowsD rs
end
theorem zy9(l:Leaf):(bN l).imm=true:=by cases l<;>rfl
mutual
theorem sC:∀p:Pc,(pcD p).imm=true
 | .leaf l=>zy9 l
 | .group r=>by show(D.imm (.str "group")&&(D.imm (.tup (pcsD r))&&D.imms []))=true;rw [show D.imm (.tup (pcsD r))=D.imms (pcsD r) from rfl,pcs_imm r];rfl
 | .hang n r=>by show(D.imm (.str "hang")&&(D.imm (.int n)&&(D.imm (.tup (pcsD r))&&D.imms [])))=true;rw [show D.imm (.tup (pcsD r))=D.imms (pcsD r) from rfl,pcs_imm r];rfl
 | .either rs=>by show(D.imm (.str "either")&&(D.imm (.tup (rowsD rs))&&D.imms []))=true;rw [show D.imm (.tup (rowsD rs))=D.imms (rowsD rs) from rfl,rows_imm rs];rfl
theorem pcs_imm:∀r:List Pc,D.imms (pcsD r)=true
 |[]=>rfl
 |p::r=>by show(D.imm (pcD p)&&D.imms (pcsD r))=true;rw [sC p,pcs_imm r];rfl
theorem rows_imm:∀rs:List (List Pc),D.imms (rowsD rs)=true
 |[]=>rfl
 |r::rs=>by show(D.imm (.tup (pcsD r))&&D.imms (rowsD rs))=true;rw [show D.imm (.tup (pcsD r))=D.imms (pcsD r) from rfl,pcs_imm r,rows_imm rs];rfl
end
theorem zc4:∀a b:List Pc,pcsD (a++b)=pcsD a++pcsD b
 |[],b=>rfl
 |p::a,b=>by show pcD p::pcsD (a++b)=pcD p::(pcsD a++pcsD b);rw [zc4 a b]
theorem xZ:∀a b:List (List Pc),rowsD (a++b)=rowsD a++rowsD b
 |[],b=>rfl
 |p::a,b=>by show D.tup (pcsD p)::rowsD (a++b)=D.tup (pcsD p)::(rowsD a++rowsD b);rw [xZ a b]
theorem zc5:∀a:List Pc,(pcsD a).length=a.length
 |[]=>rfl
 |p::a=>by show(pcsD a).length+1=a.length+1;rw [zc5 a]
theorem jO:∀a:List (List Pc),(rowsD a).length=a.length
 |[]=>rfl
 |p::a=>by show(rowsD a).length+1=a.length+1;rw [jO a]
theorem yh3{α β:Type}(f:α->β)(hf:∀a b,f a=f b->a=b):∀{l m:List α},l.map f=m.map f->l=m
 |[],[],_=>rfl
 |[],_::_,h=>by simp at h
 |_::_,[],h=>by simp at h
 |a::l,b::m,h=>by
  simp only [Z8,List.cons.injEq] at h
  rw [hf a b h.1,yh3 f hf h.2]
theorem fL(a b:String):(Str.ofString a=Str.ofString b)=(a=b):=by
 refine propext ⟨fun h=> ?_,fun h=>by rw [h]⟩
 rw [Str.ofString_eq_toList,Str.ofString_eq_toList] at h
 have h1:(a.toList.map Char.toNat).toArray=(b.toList.map Char.toNat).toArray:=(Str.mk.inj h)
 have h2:a.toList.map Char.toNat=b.toList.map Char.toNat:=by simpa using ZM Array.toList h1
 have h3:a.toList=b.toList:=yh3 _ (fun x y e=>by
  have:Char.ofNat x.toNat=Char.ofNat y.toNat:=by rw [e]
  simpa using this) h2
 exact String.toList_inj.mp h3
theorem lH{α:Type}(a:α)(l:List α):atI (a::l) 0=some a:=by simp [atI,ixN]
theorem fN{α:Type}(a b:α)(l:List α):atI (a::b::l) 1=some b:=by
 have h:ixN (a::b::l).length 1=some 1:=by unfold ixN;rw [if_pos (by decide),if_pos (by simp only [Z4];omega)];rfl
 simp only [atI,h];rfl
theorem yn6{α:Type}(a b c:α)(l:List α):atI (a::b::c::l) 2=some c:=by
 have h:ixN (a::b::c::l).length 2=some 2:=by unfold ixN;rw [if_pos (by decide),if_pos (by simp only [Z4];omega)];rfl
 simp only [atI,h];rfl
local macro_rules|`(tactic|simp! [$a,*] $[$l]?)=>`(tactic|simp [aA,aE,aC,aJ,aH,zn6,D.imm,aT,fT,bB,D.imms,cY,cA,dH,fO,jW,bH,fC,f2,aS,bS,fIf,bK,lH,dB,cE,fB,dIx,aV,fN,fL,cT,gP,lL,dLt,dGe,cI,eE,gE,wJ,bD,nZ,dA,gF,yc2,uX,eP,gO,cD,cZ,zi3,yn6,zt7,dIs,zh9,dGt,iT,dLe,fMt,eqB,dNe,dEq,$a,*] $[$l]?)
theorem sz{n:Nat}(h:n<=1000):n<=sizeLine:=zt0 h
theorem sz1{n:Nat}(h:n<=1000):n<sizeLine:=sN h
theorem ye7{rs:List (List Pc)}{r:List Pc}(h:r∈rs):(toksR r).length<=(toksMore rs).length:=by
 induction rs with
 |nil=>simp at h
 |cons q rs ih=>
  show _<=(Tk.orr::(toksR q++toksMore rs)).length
  rw [Z4,Z5]
  rcases Z6.mp h with e|e
  ·subst e;omega
  ·have:=ih e;omega
theorem tW{rs:List (List Pc)}{r:List Pc}(h:r∈rs):(toksR r).length<=(toksRows rs).length:=by
 cases rs with
 |nil=>simp at h
 |cons q rs=>
  show _<=(toksR q++toksMore rs).length
  rw [Z5]
  rcases Z6.mp h with e|e
  ·subst e;omega
  ·have:=ye7 e;omega
theorem fV(n:Nat):ixN (n+1) (-1)=some n:=by
 unfold ixN
 rw [if_neg (by decide),if_pos (by omega)]
 congr 1
 omega
theorem fW{α:Type}(l:List α)(a b:α):(l++[a]).set l.length b=l++[b]:=by
 induction l with
 |nil=>rfl
 |cons x l ih=>show x::(l++[a]).set l.length b=_;rw [ih];rfl
theorem qH(n:Nat):ixN (n+1) 0=some 0:=by unfold ixN;rw [if_pos (by decide),if_pos (by omega)];rfl
theorem dF(i j:Int):eA (.int i) (.int j)=if 0<j then some (.int (i % j)) else none:=by simp [eA,dII]
theorem dQ(i j:Int):gG (.int i) (.int j)=if 0<j/\j<1073741824 then some (.int (i/j)) else none:=by simp [gG,dII]
theorem bY(x y:Str):(x++y).cps.toList=x.cps.toList++y.cps.toList:=by
 show(x.cps++y.cps).toList=_
 simp
theorem dM(x y:Str):(x++y).length=x.length+y.length:=by
 show(x.cps++y.cps).size=x.cps.size+y.cps.size
 simp
def sg:Str:=("abcdefghijklmnopqrstuvwxyzABCDEFGHIJKLMNOPQRSTUVWXYZ0123456789":Str)++("!\"#$&'()*+,-./:;<=>?\x40[\\]^_`{|}~":Str)
theorem yx3:sg.cps.toList.length=93:=by decide+kernel
theorem xr0:sg.cps.toList.all zX=true:=by decide+kernel
theorem xr1:sg.length<=sizeLine:=by
 have e:sg.length=sg.cps.toList.length:=by simp [Str.length]
 rw [e,yx3];exact sz (by decide)
theorem uM{α:Type}(xs:List α)(i:Int)(h0:0<=i)(h1:i<xs.length):∃v∈xs,atI xs i=some v:=by
 have hn:i.toNat<xs.length:=by omega
 obtain⟨v,hv⟩:∃v,xs[i.toNat]? =some v:=⟨_,Zr hn⟩
 refine⟨v,ZG hv,?_⟩
 have e:i=((i.toNat:Nat):Int):=by omega
 rw [e]
 exact zk0 hv
theorem wd5(i:Int)(h0:0<=i)(h1:i<93):∃c,atI sg.cps.toList i=some c/\zX c=true:=by
 obtain⟨c,hc,e⟩:=uM sg.cps.toList i h0 (by rw [yx3];omega)
 exact⟨c,e,List.all_eq_true.mp xr0 c hc⟩
theorem xx2(n:Nat):oA 0 n=((List.range n).map fun(k:Nat)=>(k:Int)).map .int:=by
 unfold oA
 rw [YB]
 refine List.map_congr_left fun k _=> ?_
 show D.int (0+(k:Int))=D.int (k:Int)
 rw [Int.zero_add]
theorem xr2(m:Int):∃s:Int,atI [D.int 1,.int 2,.int 3,.int 4,.int 5,.int 6,.int 7,.int 8,.int 10,.int 11,.int 9,.int 12] (m % 12)=some (.int s)/\1<=s/\s<=12:=by
 have h0:=ZD m (show(12:Int)≠0 by decide)
 have h1:=ZB m (show(0:Int)<12 by decide)
 obtain⟨d,hd,e⟩:=uM [D.int 1,.int 2,.int 3,.int 4,.int 5,.int 6,.int 7,.int 8,.int 10,.int 11,.int 9,.int 12] (m % 12) h0 (by simpa using h1)
 simp only [Z6,ZX,Xp] at hd
 rcases hd with rfl|rfl|rfl|rfl|rfl|rfl|rfl|rfl|rfl|rfl|rfl|rfl<;>exact⟨_,e,by decide,by decide⟩
theorem xx3(k:Int):∃x:Str,atI [D.str (Str.ofString " "),.str (Str.ofString " "),.str (Str.ofString " "),.str (Str.ofString "")] (k % 4)=some (.str x)/\(x=""\/x=" "):=by
 have h0:=ZD k (show(4:Int)≠0 by decide)
 have h1:=ZB k (show(0:Int)<4 by decide)
 obtain⟨d,hd,e⟩:=uM [D.str (Str.ofString " "),.str (Str.ofString " "),.str (Str.ofString " "),.str (Str.ofString "")] (k % 4) h0 (by simpa using h1)
 simp only [Z6,ZX,Xp] at hd
 rcases hd with rfl|rfl|rfl|rfl
 ·exact⟨_,e,.inr rfl⟩
 ·exact⟨_,e,.inr rfl⟩
 ·exact⟨_,e,.inr rfl⟩
 ·exact⟨_,e,.inl rfl⟩
theorem xr3(a b k:Int)(ha:0<=a/\a<=40)(hb:0<=b/\b<=40):∃c:Int,atI [D.int a,.int b] (k % 2)=some (.int c)/\0<=c/\c<=40:=by
 have h0:=ZD k (show(2:Int)≠0 by decide)
 have h1:=ZB k (show(0:Int)<2 by decide)
 obtain⟨d,hd,e⟩:=uM [D.int a,.int b] (k % 2) h0 (by simpa using h1)
 simp only [Z6,ZX,Xp] at hd
 rcases hd with rfl|rfl
 ·exact⟨_,e,ha⟩
 ·exact⟨_,e,hb⟩
theorem wf9{α:Type}(a b c d:α):atI [a,b,c,d] 3=some d:=rfl
theorem xr4{i j:Int}(h1: -1000000<=i)(h2:i<=1000000)(h3: -1000000<=j)(h4:j<=1000000):zt6 [.int i,.int j]=some (oA i (j-i).toNat):=by
 rw [zt6]
 exact if_pos ⟨by omega,by omega,by omega,by omega⟩
theorem xx4(a:Int)(n:Nat):oA a n=((List.range n).map fun(k:Nat)=>a+(k:Int)).map .int:=by
 unfold oA
 rw [YB];rfl
theorem aP{f g:tz1}{p p':PSt}(h:f p=some (.nx,p')):aS f g p=g p':=by unfold aS;rw [h];rfl
theorem dG{f g:tz1}{p p':PSt}{R:Fl}(h:f p=some (.nx,p'))(e:∃q,g p'=some (R,q)):∃q,aS f g p=some (R,q):=e.elim fun q e=>⟨q,(aP h).trans e⟩
theorem eJ{f g:tz1}{p p':PSt}{d:D}(h:f p=some (.ret d,p')):aS f g p=some (.ret d,p'):=by unfold aS;rw [h];rfl
theorem yn7{c:PSt->Option (Bool×PSt)}{f g:tz1}{p p':PSt}(h:c p=some (true,p')):fIf c f g p=f p':=by unfold fIf;rw [h];rfl
theorem eX{c:PSt->Option (Bool×PSt)}{f g:tz1}{p p':PSt}(h:c p=some (false,p')):fIf c f g p=g p':=by unfold fIf;rw [h];rfl
theorem bF{i:Nat}{f:tz2}{p:PSt}{d:D}(h:f p=some d):aV i (aH f) p=some (.nx,p.set i (some d)):=by unfold aV aH;rw [h];rfl
theorem cL{f:tz2}{p:PSt}{d:D}(h:f p=some d):bS (aH f) p=some (.ret d,p):=by unfold bS aH;rw [h];rfl
theorem kF{np n:Nat}{f:tz1}{ds:List D}{d:D}{p:PSt}(hl:ds.length=np)(h:f (ds.map some++List.replicate n none)=some (.ret d,p)):gP np n f ds=some d:=by
 unfold gP;rw [if_pos hl,h];rfl
theorem aO{g:D->D->Option D}{fa fb:tz2}{p:PSt}{x y d:D}(h1:fa p=some x)(h2:fb p=some y)(h3:g x y=some d):f2 g fa fb p=some d:=by unfold f2;rw [h1,h2];exact h3
theorem aW{h:tz6}{g:tz3}{p:PSt}{ds:List D}{d:D}(h1:g p=some ds)(h2:h ds=some d):aJ h g p=some d:=by unfold aJ;rw [h1];exact h2
theorem yx4{o o':Bool}{ys zs:List D}(h1:D.imms ys=true)(h2:D.imms zs=true)(h:ys.length+zs.length<=1000):cE (.lst o ys) (.lst o' zs)=some (.lst true (ys++zs)):=by
 rw [cE]
 exact if_pos (by rw [h1,h2];simpa using sz h)
theorem aD{f:tz2}{g:tz3}{p:PSt}{d:D}{ds:List D}(h1:f p=some d)(h2:g p=some ds):aC f g p=some (d::ds):=by unfold aC;rw [h1,h2];rfl
def cQ(ws:List Str):List D:=ws.map .str
theorem yx5(a b:List Str):cQ (a++b)=cQ a++cQ b:=by simp [cQ]
theorem yx6(a:List Str):(cQ a).length=a.length:=by simp [cQ]
theorem gN{g:tz3}{p:PSt}{ds:List D}(h:g p=some ds)(hl:ds.length<=1000):dA g p=some (.lst true ds):=by unfold dA;rw [h];exact if_pos hl
theorem fE{g:tz3}{p:PSt}{ds:List D}(h:g p=some ds)(hi:D.imms ds=true)(hl:ds.length<=1000):cZ g p=some (.tup ds):=by
 unfold cZ
 rw [h]
 exact if_pos (by rw [hi];simpa using hl)
theorem mD{i:Nat}{p:PSt}{d:D}(h:p[i]? =some (some d)):aA i p=some d:=by unfold aA;rw [h];rfl
theorem dJ{f:tz4}{p:PSt}{b:Bool}(h:f p=some b):aT f p=some (b,p):=by unfold aT;rw [h];rfl
theorem dI{f:tz2}{p:PSt}{b:Bool}(h:f p=some (.bl b)):fB f p=some b:=by unfold fB;rw [h];rfl
theorem pI{f:tz2}{p:PSt}{b:Bool}(h:f p=some (.bl b)):fT f p=some b:=by unfold fT;rw [h];rfl
theorem fQ{f g:tz4}{p:PSt}(h:f p=some false):cH f g p=some false:=by unfold cH;rw [h];rfl
theorem jG{f g:tz4}{p:PSt}{b:Bool}(h:f p=some true)(h2:g p=some b):cH f g p=some b:=by unfold cH;rw [h];exact h2
theorem wd6{f g:tz4}{p:PSt}(h:f p=some true):lL f g p=some true:=by unfold lL;rw [h];rfl
theorem sT{f g:tz4}{p:PSt}{b:Bool}(h:f p=some false)(h2:g p=some b):lL f g p=some b:=by unfold lL;rw [h];exact h2
theorem mE{f:tz4}{p:PSt}{b:Bool}(h:f p=some b):eD f p=some (!b):=by unfold eD;rw [h];rfl
theorem bA{c:tz4}{F:tz1}{p:PSt}(h:c p=some false):fIf (aT c) F bK p=some (.nx,p):=(eX (dJ h)).trans rfl
theorem bR{c:tz4}{F G:tz1}{p:PSt}(h:c p=some true):fIf (aT c) F G p=F p:=yn7 (dJ h)
def kdT(i:Nat)(w:String):tz4:=fB (f2 dEq (f2 dIx (aA i) (fC (.int 0))) (fC (.str w)))
theorem kG{i:Nat}{p:PSt}{k w:String}{ds:List D}{b:Bool}(hp:p[i]? =some (some (.tup (.str k::ds))))(h:decide (k=w)=b):kdT i w p=some b:=by
 refine dI (aO (aO (mD hp) rfl (lH _ _)) rfl ?_)
 show some (D.bl (decide ((k:Str)=(w:Str))))=_
 rw [<-h]
 congr 2
 exact Yw.mpr (by rw [fL])
theorem sD{f:tz8}{p p':PSt}{d:D}(h:f p=some (d,p')):cY f p=some (.nx,p'):=by unfold cY;rw [h];rfl
theorem yA{as:List L2.Arg}{g:tz7}{p:PSt}{ds ds':List D}{d:D}(h1:cA as p=some ds)(h2:g ds=some (d,ds'))(h3:ds'.length=as.length):fIO as g p=some (d,dY p as ds'):=by unfold fIO;rw [h1,Z3,h2,Z3,if_pos h3]
theorem cM{f:tz2}{p:PSt}{d:D}(h:f p=some d)(hi:d.imm=true):bB f p=some d:=by unfold bB;rw [h];exact if_pos hi
theorem iY{p:PSt}:cA [] p=some []:=rfl
theorem eB{f:tz2}{as:List L2.Arg}{p:PSt}{d:D}{ds:List D}(h:f p=some d)(hi:d.imm=true)(h2:cA as p=some ds):cA (.im f::as) p=some (d::ds):=by
 show(bB f p).bind _=_
 rw [cM h hi,Z3,h2];rfl
theorem uN{j:Nat}{as:List L2.Arg}{p:PSt}{d:D}{ds:List D}(h:p[j]? =some (some d))(h2:cA as p=some ds):cA (.io j::as) p=some (d::ds):=by
 show((p[j]?).join).bind _=_
 rw [h,YT,Z3,h2];rfl
theorem yx7(c:Nat):∀(a b u v:List Nat),c∉a->c∉b->a++c::u=b++c::v->a=b/\u=v
 |[],[],u,v,_,_,e=>⟨rfl,(Xf e).2⟩
 |[],y::b,u,v,_,hb,e=>absurd (Xf e).1 (fun z=>hb (z▸Z0))
 |x::a,[],u,v,ha,_,e=>absurd (Xf e).1 (fun z=>ha (z▸Z0))
 |x::a,y::b,u,v,ha,hb,e=>by
  obtain⟨e1,e2⟩:=Xf e
  obtain⟨e3,e4⟩:=yx7 c a b u v (fun z=>ha (Z1 _ z)) (fun z=>hb (Z1 _ z)) e2
  exact⟨by rw [e1,e3],e4⟩
theorem rJ{x y:Str}(h:x.cps.toList=y.cps.toList):x=y:=by
 cases x;cases y
 congr
 exact Xu.mp h
section
variable{c:Nat}
theorem lI(x y:Str)(r:List Str):(Str.join ⟨#[c]⟩ (x::y::r)).cps.toList=x.cps.toList++c::(Str.join ⟨#[c]⟩ (y::r)).cps.toList:=by
 show((x++⟨#[c]⟩)++Str.join ⟨#[c]⟩ (y::r)).cps.toList=_
 rw [bY,bY]
 show(x.cps.toList++[c])++_=_
 simp
theorem zz0:∀xs ys:List Str,xs≠[]->ys≠[]->(∀p∈xs,c∉p.cps.toList)->(∀p∈ys,c∉p.cps.toList)->Str.join ⟨#[c]⟩ xs=Str.join ⟨#[c]⟩ ys->xs=ys
 |[],_,h,_,_,_,_=>absurd rfl h
 |_,[],_,h,_,_,_=>absurd rfl h
 |[x],[y],_,_,_,_,e=>by rw [show x=y from e]
 |[x],y::y'::r,_,_,hx,_,e=>by
  have e':=ZM (fun z=>z.cps.toList) (show x=Str.join ⟨#[c]⟩ (y::y'::r) from e)
  rw [lI] at e'
  exact absurd (by rw [e'];simp) (hx x Z0)
 |x::x'::r,[y],_,_,_,hy,e=>by
  have e':=ZM (fun z=>z.cps.toList) (show Str.join ⟨#[c]⟩ (x::x'::r)=y from e)
  rw [lI] at e'
  exact absurd (by rw [<-e'];simp) (hy y Z0)
 |x::x'::r,y::y'::s,_,_,hx,hy,e=>by
  have e':=ZM (fun z=>z.cps.toList) e
  rw [lI,lI] at e'
  obtain⟨e1,e2⟩:=yx7 c _ _ _ _ (hx x Z0) (hy y Z0) e'
  have ih:=zz0 (x'::r) (y'::s) (by simp) (by simp) (fun p hp=>hx p (Z1 _ hp)) (fun p hp=>hy p (Z1 _ hp)) (rJ e2)
  rw [rJ e1,ih]
end
structure Gm where
 kd:Nat
 n:Int
 full:List (List Pc)
 parts:List Pc
def kdS:Nat->String
 |0=>"top"
 |1=>"group"
 |2=>"hang"
 |_=>"either"
def gmD(f:Gm):D:= .lst true [.str (kdS f.kd),.int f.n,.lst true (rowsD f.full),.lst true (pcsD f.parts)]
def bW:List Gm->List D
 |[]=>[]
 |f::fs=>bW fs++[gmD f]
theorem oY:∀fs,(bW fs).length=fs.length
 |[]=>rfl
 |f::fs=>by rw [bW,Z5,oY fs];rfl
def tL:List Pc:=[.leaf (.word "or")]
def pO(f:Gm):List (List Pc):=if f.full=[] then [f.parts,tL] else f.full++[f.parts]
def gA(f:Gm):Pc:=match f.kd with
 |1=> .group f.parts
 |2=> .hang f.n f.parts
 |_=> .either (pO f)
def kT(g:Gm)(p:Pc):Gm:={g with parts:=g.parts++[p]}
mutual
def okP:Pc->Prop
 | .leaf l=>fR l
 | .group r=>okR r
 | .hang n r=>(0<=n/\n<=12)/\okR r
 | .either rs=>(2<=rs.length/\rs.length<=4)/\okRs rs
def okR:List Pc->Prop
 |[]=>True
 |p::r=>okP p/\okR r
def okRs:List (List Pc)->Prop
 |[]=>True
 |r::rs=>okR r/\okRs rs
end
theorem zm3:∀a b:List Pc,okR (a++b)↔okR a/\okR b
 |[],b=>by simp [okR]
 |p::a,b=>by rw [ZQ,okR,okR,zm3 a b,and_assoc]
theorem zc6:∀a b:List (List Pc),okRs (a++b)↔okRs a/\okRs b
 |[],b=>by simp [okRs]
 |p::a,b=>by rw [ZQ,okRs,okRs,zc6 a b,and_assoc]
theorem yh4(p:Pc):okR [p]↔okP p:=by simp [okR]
theorem zz1(r:List Pc):okRs [r]↔okR r:=by simp [okRs]
theorem sE:∀a b:List (List Pc),toksMore (a++b)=toksMore a++toksMore b
 |[],b=>rfl
 |r::a,b=>by
  show Tk.orr::(toksR r++toksMore (a++b))=(Tk.orr::(toksR r++toksMore a))++toksMore b
  rw [sE a b];simp
def wF(f:Gm):Nat:=(toksMore f.full).length+(toksR f.parts).length+4
def wG:List Gm->Nat
 |[]=>0
 |f::fs=>wF f+wG fs
def wb4(f:Gm):Prop:=okRs f.full/\okR f.parts/\f.full.length<=3/\(f.kd≠3->f.full=[])/\0<=f.n/\f.n<=12
def yd2:List Gm->Prop
 |[]=>False
 |[f]=>f.kd=0
 |f::g::fs=>(1<=f.kd/\f.kd<=3)/\yd2 (g::fs)
def xm2(m:Nat):List Gm->Prop
 |[]=>True
 |f::fs=>depR f.parts+fs.length<=m/\depRs f.full+fs.length<=m/\xm2 m fs
structure GInv(nest k:Nat)(fs:List Gm):Prop where
 len:fs.length<=nest+1
 wt:wG fs<=4*k+4
 each:∀f∈fs,wb4 f
 kinds:yd2 fs
 deep:xm2 nest fs
theorem yn8{f:Gm}(h:f.kd≠3->f.full=[])(hk:1<=f.kd/\f.kd<=3):(cN (gA f)).length<=wF f:=by
 have e:f.kd=1\/f.kd=2\/f.kd=3:=by omega
 unfold wF gA
 rcases e with e|e|e
 ·rw [e];show(Tk.opn::(toksR f.parts++[.cls])).length<=_;rw [Z4,Z5];simp;omega
 ·rw [e];show(Tk.hng f.n::(toksR f.parts++[.bck])).length<=_;rw [Z4,Z5];simp;omega
 ·rw [e]
  show(Tk.eit::(toksRows (pO f)++[.don])).length<=_
  rw [Z4,Z5]
  unfold pO
  cases hf:f.full with
  |nil=>
   rw [if_pos rfl]
   show(toksR f.parts++(Tk.orr::(toksR tL++[]))).length+1+1<=_
   simp [tL,toksR,cN,toksMore]
  |cons r rs=>
   rw [if_neg (by simp)]
   show(toksR r++toksMore (rs++[f.parts])).length+1+1<=(Tk.orr::(toksR r++toksMore rs)).length+_+4
   rw [sE]
   simp [toksMore];omega
theorem xg2{f:Gm}(h:wb4 f)(hk:1<=f.kd/\f.kd<=3):okP (gA f):=by
 obtain⟨h1,h2,h3,h4,h5,h6⟩:=h
 have e:f.kd=1\/f.kd=2\/f.kd=3:=by omega
 unfold gA
 rcases e with e|e|e
 ·rw [e];exact h2
 ·rw [e];exact⟨⟨h5,h6⟩,h2⟩
 ·rw [e]
  show(2<=(pO f).length/\(pO f).length<=4)/\okRs (pO f)
  unfold pO
  by_cases c:f.full=[]
  ·rw [if_pos c]
   refine⟨⟨by simp,by simp⟩,h2,?_,trivial⟩
   exact⟨⟨by decide+kernel,by decide+kernel,by decide+kernel⟩,trivial⟩
  ·rw [if_neg c]
   have hp:1<=f.full.length:=by cases hf:f.full with|nil=>exact absurd hf c|cons a l=>simp
   refine⟨⟨by rw [Z5];simp;omega,by rw [Z5];simp;omega⟩,?_⟩
   rw [zc6,zz1];exact⟨h1,h2⟩
theorem yx8{f:Gm}{m k:Nat}(h1:depR f.parts+(k+1)<=m)(h2:depRs f.full+(k+1)<=m):dZ (gA f)+k<=m:=by
 unfold gA
 split
 ·show depR f.parts+1+k<=m;omega
 ·show depR f.parts+1+k<=m;omega
 ·show depRs (pO f)+1+k<=m
  unfold pO
  split
  ·show max (depR f.parts) (max (depR tL) 0)+1+k<=m
   have:depR tL=0:=rfl
   omega
  ·rw [vK];omega
theorem GInv.leaf{nest k:Nat}{f:Gm}{fs:List Gm}{l:Leaf}(h:GInv nest k (f::fs))(hl:fR l):GInv nest (k+1) (kT f (.leaf l)::fs):=by
 obtain⟨h1,h2,h3,h4,h5⟩:=h
 have hf:=h3 f Z0
 refine⟨h1,?_,?_,?_,?_⟩
 ·have h2':wF f+wG fs<=4*k+4:=h2
  show(toksMore f.full).length+(toksR (f.parts++[.leaf l])).length+4+wG fs<=_
  rw [rY,Z5]
  unfold wF at h2'
  show _+(_+1)+4+_<=_
  omega
 ·intro x hx
  rcases Z6.mp hx with rfl|hx
  ·obtain⟨a1,a2,a3,a4,a5⟩:=hf
   exact⟨a1,(zm3 _ _).mpr ⟨a2,(yh4 _).mpr hl⟩,a3,a4,a5⟩
  ·exact h3 x (Z1 _ hx)
 ·cases fs with
  |nil=>exact h4
  |cons g fs=>exact⟨h4.1,h4.2⟩
 ·refine⟨?_,h5.2.1,h5.2.2⟩
  show depR (f.parts++[.leaf l])+fs.length<=nest
  rw [xR]
  have:=h5.1
  show max _ 0+_<=_
  omega
theorem GInv.opener{nest k:Nat}{fs:List Gm}{kd:Nat}{n:Int}(h:GInv nest k fs)(hk:1<=kd/\kd<=3)(hn:0<=n/\n<=12)(hl:fs.length<=nest):GInv nest (k+1) (⟨kd,n,[],[]⟩::fs):=by
 obtain⟨h1,h2,h3,h4,h5⟩:=h
 refine⟨by simp;omega,?_,?_,?_,?_⟩
 ·show 0+0+4+wG fs<=_;omega
 ·intro x hx
  rcases Z6.mp hx with rfl|hx
  ·exact⟨trivial,trivial,ZL _,fun _=>rfl,hn⟩
  ·exact h3 x hx
 ·cases fs with
  |nil=>exact h4.elim
  |cons g fs=>exact⟨hk,h4⟩
 ·exact⟨by show 0+_<=_;omega,by show 0+_<=_;omega,h5⟩
theorem GInv.orr{nest k:Nat}{f:Gm}{fs:List Gm}(h:GInv nest k (f::fs))(hf3:f.full.length<3)(hk:f.kd=3):GInv nest (k+1) ({f with full:=f.full++[f.parts],parts:=[]}::fs):=by
 obtain⟨h1,h2,h3,h4,h5⟩:=h
 have hf:=h3 f Z0
 refine⟨h1,?_,?_,?_,?_⟩
 ·have h2':wF f+wG fs<=4*k+4:=h2
  show(toksMore (f.full++[f.parts])).length+0+4+wG fs<=_
  rw [sE,Z5]
  unfold wF at h2'
  simp [toksMore];omega
 ·intro x hx
  rcases Z6.mp hx with rfl|hx
  ·obtain⟨a1,a2,a3,a4,a5⟩:=hf
   exact⟨(zc6 _ _).mpr ⟨a1,(zz1 _).mpr a2⟩,trivial,by show(f.full++[f.parts]).length<=3;rw [Z5];simp;omega,fun z=>absurd hk z,a5⟩
  ·exact h3 x (Z1 _ hx)
 ·cases fs with
  |nil=>exact h4
  |cons g fs=>exact⟨h4.1,h4.2⟩
 ·refine⟨?_,?_,h5.2.2⟩
  ·show 0+_<=_
   have:=h5.1;omega
  ·show depRs (f.full++[f.parts])+fs.length<=nest
   rw [vK]
   have a1:=h5.1;have a2:=h5.2.1
   omega
theorem GInv.shut{nest k:Nat}{f g:Gm}{fs:List Gm}(h:GInv nest k (f::g::fs)):GInv nest k (kT g (gA f)::fs):=by
 obtain⟨h1,h2,h3,h4,h5⟩:=h
 have hf:=h3 f Z0
 have hg:=h3 g (Z1 _ Z0)
 have hk:=h4.1
 refine⟨by simp at h1|-;omega,?_,?_,?_,?_⟩
 ·have h2':wF f+(wF g+wG fs)<=4*k+4:=h2
  have t:=yn8 hf.2.2.2.1 hk
  show(toksMore g.full).length+(toksR (g.parts++[gA f])).length+4+wG fs<=_
  rw [rY,Z5,yw7]
  unfold wF at h2' t
  omega
 ·intro x hx
  rcases Z6.mp hx with rfl|hx
  ·obtain⟨a1,a2,a3,a4,a5⟩:=hg
   exact⟨a1,(zm3 _ _).mpr ⟨a2,(yh4 _).mpr (xg2 hf hk)⟩,a3,a4,a5⟩
  ·exact h3 x (Z1 _ (Z1 _ hx))
 ·cases fs with
  |nil=>exact h4.2
  |cons g' fs=>exact⟨h4.2.1,h4.2.2⟩
 ·obtain⟨d1,d2,d3,d4,d5⟩:=h5
  refine⟨?_,d4,d5⟩
  show depR (g.parts++[gA f])+fs.length<=nest
  rw [xR]
  have:=yx8 (f:=f) (m:=nest) (k:=fs.length) d1 d2
  omega
theorem GInv.more{nest k k':Nat}{fs:List Gm}(h:GInv nest k fs)(hk:k<=k'):GInv nest k' fs:=⟨h.len,by have:=h.wt;omega,h.each,h.kinds,h.deep⟩
theorem yx9:∀{fs:List Gm} {f:Gm},f∈fs->wF f<=wG fs
 |[],_,h=>by simp at h
 |g::fs,f,h=>by
  show wF f<=wF g+wG fs
  rcases Z6.mp h with rfl|h
  ·omega
  ·have:=yx9 h;omega
theorem yn9(p:Pc):1<=(cN p).length:=by cases p<;>simp [cN]
theorem zg1:∀r:List Pc,r.length<=(toksR r).length
 |[]=>Za _
 |p::r=>by
  show r.length+1<=(cN p++toksR r).length
  rw [Z5]
  have:=zg1 r;have:=yn9 p;omega
theorem GInv.parts{nest k:Nat}{fs:List Gm}{f:Gm}(h:GInv nest k fs)(hf:f∈fs):f.parts.length<=4*k+4:=by
 have h1:=yx9 hf;have h2:=h.wt;have h3:=zg1 f.parts
 unfold wF at h1;omega
theorem zg2:("\n":Str)=⟨#[10]⟩:=by decide+kernel
theorem xk9:(" ":Str)=⟨#[32]⟩:=by decide+kernel
theorem sF{x y:Str}(h:x.cps.toList=y.cps.toList):x=y:=by
 cases x;cases y
 simp only at h
 rw [Xu.mp h]
theorem lJ(x:Str):x.length=x.cps.toList.length:=by simp [Str.length]
theorem zq6:∀(n:Nat) (a b:Array Nat),((List.replicate n a).foldl (·++·) b).toList=b.toList++(List.replicate n a.toList).flatten
 |0,a,b=>by simp
 |n+1,a,b=>by
  rw [Ya,List.foldl_cons,zq6 n a (b++a),Ya,Ys]
  simp
theorem vO(n:Int):(Txt.mul " " n).cps.toList=List.replicate n.toNat 32:=by
 rw [xk9]
 unfold Txt.mul
 by_cases h:n<1
 ·rw [if_pos h,show n.toNat=0 by omega];rfl
 ·rw [if_neg h]
  by_cases h1:n=1
  ·subst h1;rfl
  ·rw [if_neg]
   ·show((List.replicate n.toNat #[32]).foldl (·++·) #[]).toList=_
    rw [zq6]
    simp
   ·simp [h1,Str.length]
theorem kN(n:Int):(Txt.mul " " n).length=n.toNat:=by rw [lJ,vO,X1]
theorem zg3(n:Int):(10:Nat)∉(Txt.mul " " n).cps.toList:=by rw [vO];simp
def col(t:Str):Nat:=(t.cps.toList.reverse.takeWhile (· !=10)).length
theorem yy0{l:List Nat}(h:(10:Nat)∉l):∀a∈l,(a !=10)=true:=fun a ha=>by
 simp only [bne_iff_ne,ne_eq]
 intro e;subst e;exact h ha
theorem zm4{t w:Str}(h:(10:Nat)∉w.cps.toList):col (t++w)=col t+w.length:=by
 unfold col
 rw [bY,Xd,XC (yy0 (by simpa using h)),Z5,Xe,lJ]
 omega
theorem zz2{t w:Str}(h:(10:Nat)∉w.cps.toList):col (t++((⟨#[10]⟩:Str)++w))=w.length:=by
 unfold col
 rw [bY,bY,Xd,Xd,Zp,XC (yy0 (by simpa using h)),Z5,Xe,lJ]
 simp
theorem xx5(t:Str):col t<=t.length:=by
 unfold col
 rw [lJ,<-Xe (as:=t.cps.toList)]
 exact(List.takeWhile_sublist _).length_le
theorem zt2{t:Str}{i:Nat}:StrLaws.At t ⟨#[10]⟩ t.length i↔t.cps.toList[i]? =some 10:=by
 unfold StrLaws.At Builtin.Str.subAt
 show i+1<=t.length/\(t.cps.extract i (i+1)== #[10])=true↔_
 rw [YE,<-Xu]
 have e:(t.cps.extract i (i+1)).toList=(t.cps.toList.drop i).take 1:=by simp [Array.toList_extract,List.extract]
 rw [e,lJ]
 constructor
 ·intro ⟨h1,h2⟩
  rw [Zr (by omega)]
  rw [ZO (by omega)] at h2
  simpa using h2
 ·intro h
  obtain⟨hi,h2⟩:=Z2.mp h
  refine⟨by omega,?_⟩
  rw [ZO hi,h2]
  rfl
theorem yy1(t:Str):(t.length:Int)-1-Txt.rfind t ⟨#[10]⟩=(col t:Int):=by
 rcases rfind_whole t ⟨#[10]⟩ with ⟨e,h⟩|⟨i,e,h1,h2⟩
 ·have hn:(10:Nat)∉t.cps.toList:=fun hm=>by
   obtain⟨i,hi⟩:=X6 hm
   exact h i (zt2.mpr hi)
  have:=zm4 (t:=⟨#[]⟩) hn
  have e0:(⟨#[]⟩:Str)++t=t:=sF (by rw [bY];rfl)
  rw [e0,show col ⟨#[]⟩=0 from rfl] at this
  rw [e,this];omega
 ·rw [zt2] at h1
  obtain⟨hi,h3⟩:=Z2.mp h1
  have hs:t.cps.toList=t.cps.toList.take i++10::t.cps.toList.drop (i+1):=by
   rw [<-h3,<-ZO hi,List.take_append_drop]
  have hn:(10:Nat)∉t.cps.toList.drop (i+1):=fun hm=>by
   obtain⟨j,hj⟩:=X6 hm
   rw [List.getElem?_drop] at hj
   exact h2 (i+1+j) (by omega) (zt2.mpr hj)
  have e1:t=(⟨(t.cps.toList.take i).toArray⟩:Str)++((⟨#[10]⟩:Str)++(⟨(t.cps.toList.drop (i+1)).toArray⟩:Str)):=sF (by
   rw [bY,bY]
   exact hs)
  have e2:=zz2 (t:=⟨(t.cps.toList.take i).toArray⟩) (w:=⟨(t.cps.toList.drop (i+1)).toArray⟩) hn
  rw [<-e1] at e2
  rw [e,e2,lJ,lJ]
  show((t.cps.toList.length:Nat):Int)-1-(i:Int)=(((t.cps.toList.drop (i+1)).length:Nat):Int)
  rw [YS]
  omega
def nlw(m:Int):Str:=(⟨#[10]⟩:Str)++Txt.mul " " m
def wr(b:Bool)(m:Int)(k:Nat):Leaf->Option Str
 | .word x=>some x
 | .gap x=>if b then some (nlw m) else some x
 | .stop c=>if (k:Int)<=c then some (Txt.mul " " (c-k)) else if b then some (nlw c) else none
 | .fin=>if b then some (nlw m) else none
def Wr(w:Str):Prop:=(10:Nat)∉w.cps.toList\/∃m:Int,w=nlw m
theorem xr5{x:Str}(h:yc5 x):(10:Nat)∉x.cps.toList:=fun hm=>by
 have:=List.all_eq_true.mp h.2.2 _ hm
 simp [zX] at this
theorem xx6{x:Str}(h:x=""\/x=" "):(10:Nat)∉x.cps.toList:=by
 rcases h with rfl|rfl
 ·simp [show("":Str)=⟨#[]⟩ from by decide+kernel]
 ·simp [xk9]
theorem zJ{b:Bool}{m:Int}{k:Nat}{l:Leaf}{w:Str}(hl:fR l)(h0:0<=m)(h1:m<=200)(h:wr b m k l=some w):Wr w/\w.length<=201:=by
 have nl:∀c:Int,0<=c->c<=200->Wr (nlw c)/\(nlw c).length<=201:=fun c c0 c1=>⟨.inr ⟨c,rfl⟩,by unfold nlw;rw [dM,kN];show 1+_<=_;omega⟩
 cases l with
 |word x=>cases h;exact⟨.inl (xr5 hl),by have:=hl.2.1;omega⟩
 | gap x=>
  cases b with
  |true=>cases h;exact nl m h0 h1
  |false=>
   have e:x=w:=by simpa [wr] using h
   subst e
   have hl':x=""\/x=" ":=hl
   refine⟨.inl (xx6 hl'),?_⟩
   rcases hl' with e|e<;>subst e
   ·show(0:Nat)<=201;decide
   ·show(1:Nat)<=201;decide
 | stop c=>
  have hc:0<=c/\c<=40:=hl
  change (if (k:Int)<=c then some (Txt.mul " " (c-k)) else if b=true then some (nlw c) else none)=some w at h
  by_cases hk:(k:Int)<=c
  ·rw [if_pos hk] at h;cases h
   exact⟨.inl (zg3 _),by rw [kN];omega⟩
  ·rw [if_neg hk] at h
   cases b with
   |true=>cases h;exact nl c hc.1 (by omega)
   |false=>cases h
 |fin=>
  cases b with
  |true=>cases h;exact nl m h0 h1
  |false=>cases h
mutual
def cF:Bool->Int->Pc->List Int->Str->Option (List Int×Str)
 |b,m,.leaf l,cs,t=>(wr b m (col t) l).map fun w=>(cs,t++w)
 | b,m,.group r,cs,t=>if b=true then(match cs with
   |[]=>none
   |c::cs=>if c=0 then setR false m r cs t else if c=1 then setR true m r cs t else none) else setR false m r cs t
 |b,m,.hang n r,cs,t=>setR b (m+n) r cs t
 | b,m,.either rs,cs,t=>match cs with
   |[]=>none
   |c::cs=>if 0<=c then setAt b m rs c.toNat cs t else none
def setR:Bool->Int->List Pc->List Int->Str->Option (List Int×Str)
 |_,_,[],cs,t=>some (cs,t)
 |b,m,p::r,cs,t=>(cF b m p cs t).bind fun s=>setR b m r s.1 s.2
def setAt:Bool->Int->List (List Pc)->Nat->List Int->Str->Option (List Int×Str)
 |_,_,[],_,_,_=>none
 |b,m,r::_,0,cs,t=>setR b m r cs t
 |b,m,_::rs,i+1,cs,t=>setAt b m rs i cs t
end
theorem pS:∀{rs:List (List Pc)} {i:Nat} {b:Bool} {m:Int} {cs:List Int} {t:Str} {r:List Pc},rs[i]? =some r->setAt b m rs i cs t=setR b m r cs t
 |[],i,_,_,_,_,_,h=>by simp at h
 |q::rs,0,_,_,_,_,_,h=>by simp at h;subst h;rw [setAt]
 |q::rs,i+1,_,_,_,_,_,h=>by rw [setAt];exact pS (by simpa using h)
theorem qZ:∀{rs:List (List Pc)} {i:Nat} {b:Bool} {m:Int} {cs:List Int} {t:Str},rs[i]? =none->setAt b m rs i cs t=none
 |[],i,_,_,_,_,h=>by rw [setAt]
 |q::rs,0,_,_,_,_,h=>by simp at h
 |q::rs,i+1,_,_,_,_,h=>by rw [setAt];exact qZ (by simpa using h)
mutual
theorem sU:∀{p:Pc} {b:Bool} {m:Int} {cs cs':List Int} {t t':Str} (x:List Int),cF b m p cs t=some (cs',t')->cF b m p (cs++x) t=some (cs'++x,t')
 | .leaf l,b,m,cs,cs',t,t',x,h=>by
  rw [cF] at h|-
  cases e:wr b m (col t) l with
  |none=>rw [e] at h;cases h
  |some w=>rw [e] at h;cases h;rfl
 | .group r,b,m,cs,cs',t,t',x,h=>by
  rw [cF.eq_def] at h|-
  simp only at h|-
  cases b with
  |false=>simp only [ZH,Yg] at h|-;exact setR_more x h
  | true=>
   cases cs with
   |nil=>simp at h
   | cons c cs=>
    simp only [ZS,ZQ] at h|-
    by_cases c0:c=0
    ·simp only [c0,ZS] at h|-;exact setR_more x h
    ·by_cases c1:c=1
     ·simp only [c1,ZS] at h|-;exact setR_more x h
     ·simp [c0,c1] at h
 | .hang n r,b,m,cs,cs',t,t',x,h=>by rw [cF] at h|-;exact setR_more x h
 | .either rs,b,m,cs,cs',t,t',x,h=>by
  rw [cF.eq_def] at h|-
  cases cs with
  |nil=>cases h
  |cons c cs=>
   simp only [ZQ] at h|-
   by_cases c0:0<=c
   ·simp only [c0,ZS] at h|-;exact setAt_more x h
   ·simp [c0] at h
theorem setR_more:∀{r:List Pc} {b:Bool} {m:Int} {cs cs':List Int} {t t':Str} (x:List Int),setR b m r cs t=some (cs',t')->setR b m r (cs++x) t=some (cs'++x,t')
 |[],b,m,cs,cs',t,t',x,h=>by rw [setR] at h|-;cases h;rfl
 | p::r,b,m,cs,cs',t,t',x,h=>by
  rw [setR] at h|-
  cases e:cF b m p cs t with
  |none=>rw [e] at h;cases h
  |some s=>
   obtain⟨c1,t1⟩:=s
   rw [e] at h
   rw [sU x e]
   exact setR_more x h
theorem setAt_more:∀{rs:List (List Pc)} {i:Nat} {b:Bool} {m:Int} {cs cs':List Int} {t t':Str} (x:List Int),setAt b m rs i cs t=some (cs',t')->setAt b m rs i (cs++x) t=some (cs'++x,t')
 |[],i,b,m,cs,cs',t,t',x,h=>by rw [setAt] at h;cases h
 |r::rs,0,b,m,cs,cs',t,t',x,h=>by rw [setAt] at h|-;exact setR_more x h
 |r::rs,i+1,b,m,cs,cs',t,t',x,h=>by rw [setAt] at h|-;exact setAt_more x h
end
abbrev nsP:List Str:=["broken","margin"]
def aK(b:Bool)(m:Int):D:= .obj false "Place" nsP [.bl b,.int m]
abbrev iC:tz7:=gE 3 0 (bD [true,false,false]) xF
theorem yo0(b:Bool)(m:Int):iC [.obj true "Place" [] [],.bl b,.int m]=some (.non,[.obj true "Place" nsP [.bl b,.int m],.bl b,.int m]):=by
 kernel_rfl
abbrev yT:tz6:=gP 0 0 (sI iC)
abbrev kJ:tz6:=gP 1 0 tG
def mW:Pc->Bool
 | .leaf _=>false
 |_=>true
theorem zc7(p:Pc):kJ [pcD p]=some (.bl (mW p)):=by
 cases p with
 |leaf l=>cases l<;>kernel_rfl
 |_=>kernel_rfl
abbrev lT:tz6:=gP 2 0 qO
def cR(b:Bool):Pc->Bool
 | .either _=>true
 | .group _=>b
 |_=>false
theorem zz3(p:Pc)(b:Bool)(m:Int)(hp:mW p=true):lT [pcD p,aK b m]=some (.bl (cR b p)):=by
 cases p with
 |leaf l=>cases hp
 |group r=>cases b<;>kernel_rfl
 |_=>kernel_rfl
def cJ(b:Bool)(m:Int):Pc->List (List Pc×Bool×Int)
 | .leaf _=>[]
 | .group r=>if b=true then [(r,false,m),(r,true,m)] else [(r,false,m)]
 | .hang n r=>[(r,b,m+n)]
 | .either rs=>rs.map fun r=>(r,b,m)
def dU(x:List Pc×Bool×Int):D:= .tup [.tup (pcsD x.1),aK x.2.1 x.2.2]
abbrev tM:tz6:=gP 2 2 (lN iC)
theorem pT(b:Bool)(m:Int):(aK b m).imm=true:=rfl
theorem zK(x:List Pc×Bool×Int):(dU x).imm=true:=by
 show(D.imm (.tup (pcsD x.1))&&(D.imm (aK x.2.1 x.2.2)&&D.imms []))=true
 rw [show D.imm (.tup (pcsD x.1))=D.imms (pcsD x.1) from rfl,pcs_imm];rfl
theorem zq7(b:Bool)(m:Int):∀(rs:List (List Pc)) (x:Option D),jA [x,some (aK b m)] nC (cZ (aC (bB (aA 0)) (aC (bB (aA 1)) aE))) (rowsD rs)=some ((rs.map fun r=>(r,b,m)).map dU)
 |[],_=>rfl
 | r::rs,x=>by
  have ih:=zq7 b m rs x
  have hi:=pT b m
  have hp:=pcs_imm r
  show jA _ _ _ (.tup (pcsD r)::rowsD rs)=_
  rw [jA]
  show(nC [some (.tup (pcsD r)),some (aK b m)]).bind _=_
  rw [Z8,Z8]
  have e:cZ (aC (bB (aA 0)) (aC (bB (aA 1)) aE)) [some (.tup (pcsD r)),some (aK b m)]=some (dU (r,b,m)):=by
   unfold dU
   generalize aK b m=q at hi|-
   simp! [dN,dIn,inB,rB,D.flat,D.flats,inV,eqV,eD,cH,qJ,fOr,mO,eT,jV,hp,hi]
  show((cZ (aC (bB (aA 0)) (aC (bB (aA 1)) aE)) [some (.tup (pcsD r)),some (aK b m)]).bind _)=_
  rw [e,Z3,ih];rfl
def za0:Pc->Nat
 | .either rs=>rs.length
 |_=>0
theorem kd2{p:PSt}{k w:String}{b:Bool}(hp:p[2]? =some (some (.str k)))(h:decide (k=w)=b):fB (f2 dEq (aA 2) (fC (.str w))) p=some b:=by
 refine dI (aO (mD hp) rfl ?_)
 show some (D.bl (decide ((k:Str)=(w:Str))))=_
 rw [<-h]
 congr 2
 exact Yw.mpr (by rw [fL])
theorem zc8{p:PSt}{f g:tz2}{b:Bool}{m:Int}(h1:f p=some (.bl b))(h2:g p=some (.int m)):mO (eP "Place" (cA [.im f,.im g]) iC) p=some (aK b m):=by
 have q:=yo0 b m
 have e:eP "Place" (cA [.im f,.im g]) iC p=some (.obj true "Place" nsP [.bl b,.int m]):=by
  unfold eP
  rw [eB h1 rfl (eB h2 rfl iY),Z3,q];rfl
 unfold mO
 rw [e];rfl
theorem zz4:yT []=some (aK true 0):=kF (p:=[]) rfl (cL (zc8 rfl rfl))
theorem zm5{p:PSt}{f g:tz2}{r:List Pc}{b:Bool}{m:Int}(h1:f p=some (.tup (pcsD r)))(h2:g p=some (aK b m)):cZ (aC f (aC g aE)) p=some (dU (r,b,m)):=by
 unfold cZ
 rw [aD h1 (aD h2 rfl)]
 refine(if_pos ?_).trans rfl
 have:=zK (r,b,m)
 rw [show D.imms [.tup (pcsD r),aK b m]=true from this];rfl
theorem yh5(p:Pc)(b:Bool)(m:Int)(hp:mW p=true)(hl:za0 p<=1000):tM [pcD p,aK b m]=some (.lst true ((cJ b m p).map dU)):=by
 show gP 2 2 (lN iC) _=_
 cases p with
 |leaf l=>cases hp
 | group r=>
  have s1:aV 2 (aH (bB (f2 dIx (aA 0) (fC (.int 0))))) [some (pcD (.group r)),some (aK b m),none,none]=some (.nx,[some (pcD (.group r)),some (aK b m),some (.str "group"),none]):=bF (cM (aO rfl rfl (lH _ _)) rfl)
  have s4:aV 3 (aH (cZ (aC (bB (f2 dIx (aA 0) (fC (.int 1)))) (aC (mO (eP "Place" (cA [.im (fC (.bl false)),.im (cD "Place" "margin" (aA 1))]) iC)) aE)))) [some (pcD (.group r)),some (aK b m),some (.str "group"),none]=some (.nx,[some (pcD (.group r)),some (aK b m),some (.str "group"),some (dU (r,false,m))]):=bF (zm5 (cM (aO rfl rfl (fN _ _ _)) (pcs_imm r)) (zc8 rfl (by kernel_rfl)))
  have w3:bB (aA 3) [some (pcD (.group r)),some (aK b m),some (.str "group"),some (dU (r,false,m))]=some (dU (r,false,m)):=cM rfl (zK _)
  have br:fT (cD "Place" "broken" (aA 1)) [some (pcD (.group r)),some (aK b m),some (.str "group"),some (dU (r,false,m))]=some b:=pI (by kernel_rfl)
  suffices h:∃q,lN iC [some (pcD (.group r)),some (aK b m),none,none]=some (.ret (.lst true ((cJ b m (.group r)).map dU)),q) from by
   obtain⟨q,hq⟩:=h;exact kF rfl hq
  unfold lN
  rw [aP s1,aP (bA (kd2 rfl (by decide))),aP (bA (kd2 rfl (by decide))),aP s4]
  cases b with
  |true=>exact⟨_,eJ ((bR br).trans (cL (gN (aD w3 (aD (zm5 (cM (aO rfl rfl (fN _ _ _)) (pcs_imm r)) (cM rfl rfl)) rfl)) (Zd rfl))))⟩
  |false=>exact⟨_,(aP (bA br)).trans (cL (gN (aD w3 rfl) (Zd rfl)))⟩
 |hang n r=>
  have s1:aV 2 (aH (bB (f2 dIx (aA 0) (fC (.int 0))))) [some (pcD (.hang n r)),some (aK b m),none,none]=some (.nx,[some (pcD (.hang n r)),some (aK b m),some (.str "hang"),none]):=bF (cM (aO rfl rfl (lH _ _)) rfl)
  refine kF (p:=[some (pcD (.hang n r)),some (aK b m),some (.str "hang"),none]) rfl ?_
  unfold lN
  exact(aP s1).trans (eJ ((bR (kd2 rfl (by decide))).trans (cL (gN (aD (zm5 (cM (aO rfl rfl (yn6 _ _ _ _)) (pcs_imm r)) (zc8 (by kernel_rfl) (aO (x:= .int m) (by kernel_rfl) (aO rfl rfl (fN _ _ _)) rfl))) rfl) (Zd rfl)))))
 | either rs=>
  generalize iC=G
  have hz:(rowsD rs).length<=sizeLine:=by rw [jO];exact sz hl
  have e:=zq7 b m rs none
  have e2:mX [none,some 1] (eT (f2 dIx (aA 0) (fC (.int 1)))) nC (cZ (aC (bB (aA 0)) (aC (bB (aA 1)) aE))) [some (pcD (.either rs)),some (aK b m),some (.str "either"),none]=some (.lst true ((cJ b m (.either rs)).map dU)):=by
   unfold mX
   have e3:eT (f2 dIx (aA 0) (fC (.int 1))) [some (pcD (.either rs)),some (aK b m),some (.str "either"),none]=some (rowsD rs):=by simp! [dN,dIn,inB,rB,D.flat,D.flats,inV,eqV,eD,cH,qJ,fOr,mO,eT,jV,pcD]
   rw [e3,Z3,if_pos hz]
   have e4:jA (qL [none,some 1] [some (pcD (.either rs)),some (aK b m),some (.str "either"),none]) nC (cZ (aC (bB (aA 0)) (aC (bB (aA 1)) aE))) (rowsD rs)=some ((rs.map fun r=>(r,b,m)).map dU):=e
   rw [e4];rfl
  have s1:aV 2 (aH (bB (f2 dIx (aA 0) (fC (.int 0))))) [some (pcD (.either rs)),some (aK b m),none,none]=some (.nx,[some (pcD (.either rs)),some (aK b m),some (.str "either"),none]):=by simp! [dN,dIn,inB,rB,D.flat,D.flats,inV,eqV,eD,cH,qJ,fOr,mO,eT,jV,pcD]
  have s2:∀F:tz1,fIf (aT (fB (f2 dEq (aA 2) (fC (.str "hang"))))) F bK [some (pcD (.either rs)),some (aK b m),some (.str "either"),none]=some (.nx,[some (pcD (.either rs)),some (aK b m),some (.str "either"),none]):=fun F=>by simp! [dN,dIn,inB,rB,D.flat,D.flats,inV,eqV,eD,cH,qJ,fOr,mO,eT,jV]
  have s3:∀F:tz1,fIf (aT (fB (f2 dEq (aA 2) (fC (.str "either"))))) F bK [some (pcD (.either rs)),some (aK b m),some (.str "either"),none]=F [some (pcD (.either rs)),some (aK b m),some (.str "either"),none]:=fun F=>by simp! [dN,dIn,inB,rB,D.flat,D.flats,inV,eqV,eD,cH,qJ,fOr,mO,eT,jV]
  refine kF rfl ?_ (p:=[some (pcD (.either rs)),some (aK b m),some (.str "either"),none])
  unfold lN
  exact(aP s1).trans ((aP (s2 _)).trans (eJ ((s3 _).trans (cL e2))))
abbrev gNl:tz6:=gP 1 0 xC
theorem zt3(m:Int)(h0: -1000<=m)(h1:m<=1000):hX (.str " ") (.int m)=some (.str (Txt.mul " " m)):=by
 rw [hX,if_pos]
 simp only [Zx,ZT]
 exact⟨⟨by decide+kernel,by omega⟩,by omega⟩
theorem xl0(m:Int)(h0:0<=m)(h1:m<=200):gNl [.int m]=some (.str (nlw m)):=by
 have q:=zt3 m (by omega) (by omega)
 have hl:1+(Txt.mul " " m).length<=sizeLine:=by rw [kN];exact sz (by omega)
 have e:((⟨#[10]⟩:Str)++Txt.mul " " m)=nlw m:=rfl
 have e1:cE (.str "\n") (.str (Txt.mul " " m))=some (.str (nlw m)):=by
  rw [zg2,cE,if_pos (by exact hl)];rfl
 exact kF rfl (cL (aO rfl (aO rfl rfl q) e1))
abbrev pE:tz6:=gP 3 1 (oH gNl)
def wrD:Option Str->D
 |some w=> .str w
 |none=> .non
theorem kd3{p:PSt}{k w:String}{b:Bool}(hp:p[3]? =some (some (.str k)))(h:decide (k=w)=b):fB (f2 dEq (aA 3) (fC (.str w))) p=some b:=by
 refine dI (aO (mD hp) rfl ?_)
 show some (D.bl (decide ((k:Str)=(w:Str))))=_
 rw [<-h]
 congr 2
 exact Yw.mpr (by rw [fL])
theorem zg4(l:Leaf)(b:Bool)(m:Int)(k:Nat)(hl:fR l)(h0:0<=m)(h1:m<=200)(hk:k<=1000000):pE [bN l,aK b m,.int k]=some (wrD (wr b m k l)):=by
 suffices h:∃q,oH gNl [some (bN l),some (aK b m),some (.int k),none]=some (.ret (wrD (wr b m k l)),q) from by
  obtain⟨q,hq⟩:=h;exact kF rfl hq
 have br:∀d x,fT (cD "Place" "broken" (aA 1)) [some d,some (aK b m),some (.int k),x]=some b:=fun d x=>pI (by kernel_rfl)
 have mg:∀d x,aJ gNl (aC (cD "Place" "margin" (aA 1)) aE) [some d,some (aK b m),some (.int k),x]=some (.str (nlw m)):=fun d x=>aW (ds:=[.int m]) (aD (by kernel_rfl) rfl) (xl0 m h0 h1)
 have s1:∀(w:String) (ds:List D),aV 3 (aH (bB (f2 dIx (aA 0) (fC (.int 0))))) [some (.tup (.str w::ds)),some (aK b m),some (.int k),none]=some (.nx,[some (.tup (.str w::ds)),some (aK b m),some (.int k),some (.str w)]):=fun w ds=>bF (cM (aO rfl rfl (lH _ _)) rfl)
 unfold oH
 cases l with
 |word x=>exact⟨_,(aP (s1 "word" [.str x])).trans (eJ ((bR (kd3 rfl (by decide))).trans (cL (cM (aO rfl rfl (fN _ _ _)) rfl))))⟩
 |gap x=>
  show ∃q,aS _ _ [some (.tup [.str "gap",.str x]),some (aK b m),some (.int k),none]=_
  rw [aP (s1 "gap" [.str x]),aP (bA (kd3 rfl (by decide)))]
  cases b with
  |false=>exact⟨_,eJ ((bR (jG (kd3 rfl (by decide)) (mE (br _ _)))).trans (cL (cM (aO rfl rfl (fN _ _ _)) rfl)))⟩
  |true=>exact⟨_,(aP (bA (jG (kd3 rfl (by decide)) (mE (br _ _))))).trans ((aP (bA (fQ (kd3 rfl (by decide))))).trans ((aP (bA (mE (br _ _)))).trans ((aP (bA (kd3 rfl (by decide)))).trans (cL (mg _ _)))))⟩
 |fin=>
  show ∃q,aS _ _ [some (.tup [.str "end"]),some (aK b m),some (.int k),none]=_
  rw [aP (s1 "end" []),aP (bA (kd3 rfl (by decide))),aP (bA (fQ (kd3 rfl (by decide)))),aP (bA (fQ (kd3 rfl (by decide))))]
  cases b with
  |false=>exact⟨_,eJ ((bR (mE (br _ _))).trans (cL rfl))⟩
  |true=>exact⟨_,(aP (bA (mE (br _ _)))).trans ((aP (bA (kd3 rfl (by decide)))).trans (cL (mg _ _)))⟩
 | stop c=>
  have hc:0<=c/\c<=40:=hl
  show ∃q,aS _ _ [some (.tup [.str "stop",.int c]),some (aK b m),some (.int k),none]=_
  have le:fB (f2 dLe (aA 2) (f2 dIx (aA 0) (fC (.int 1)))) [some (.tup [.str "stop",.int c]),some (aK b m),some (.int k),some (.str "stop")]=some (decide ((k:Int)<=c)):=dI (aO rfl (aO rfl rfl (fN _ _ _)) rfl)
  rw [aP (s1 "stop" [.int c]),aP (bA (kd3 rfl (by decide))),aP (bA (fQ (kd3 rfl (by decide))))]
  by_cases hkc:(k:Int)<=c
  ·rw [Zn hkc] at le
   rw [show wr b m k (.stop c)=some (Txt.mul " " (c-k)) from if_pos hkc]
   exact⟨_,eJ ((bR (jG (kd3 rfl (by decide)) le)).trans (cL (aO rfl (aO (aO rfl rfl (fN _ _ _)) rfl rfl) (zt3 (c-k) (by omega) (by omega)))))⟩
  ·rw [Zf hkc] at le
   rw [aP (bA (jG (kd3 rfl (by decide)) le))]
   cases b with
   |false=>
    rw [show wr false m k (.stop c)=none from(if_neg hkc).trans rfl]
    exact⟨_,eJ ((bR (mE (br _ _))).trans (cL rfl))⟩
   |true=>
    rw [show wr true m k (.stop c)=some (nlw c) from(if_neg hkc).trans rfl]
    exact⟨_,(aP (bA (mE (br _ _)))).trans (eJ ((bR (kd3 rfl (by decide))).trans (cL (aW (aD (aO rfl rfl (fN _ _ _)) rfl) (xl0 c hc.1 (by omega))))))⟩
theorem yy2{w:Str}:Txt.startswith w ⟨#[10]⟩=decide (w.cps.toList[0]? =some 10):=by
 rw [Yy,ZT,<-zt2 (t:=w) (i:=0)]
 unfold Txt.startswith StrLaws.At
 simp only [Zx,ZT]
abbrev rF:tz6:=gP 1 0 pC
theorem zm6(w:Str):rF [.str w]=some (.bl (decide (w.cps.toList[0]? =some 10))):=by
 rw [<-yy2,<-zg2]
 simp! [pC,pJ,zi0]
abbrev pF:tz6:=gP 2 0 (dW rF)
theorem yy3{t w:Str}(hw:Wr w)(hz:w.length<=1000):pF [.int (col t),.str w]=some (.int (col (t++w))):=by
 have q:=zm6 w
 have hz':w.length<=sizeLine:=sz hz
 show gP 2 0 (dW rF) _=_
 rcases hw with h|⟨m,rfl⟩
 ·have e:decide (w.cps.toList[0]? =some 10)=false:=Zf fun h'=>h (ZG h')
  rw [e] at q
  rw [zm4 h]
  generalize rF=G at q|-
  simp! [dW,q,hz']
 ·have e:decide ((nlw m).cps.toList[0]? =some 10)=true:=Zn (by unfold nlw;rw [bY];rfl)
  rw [e] at q
  have e2:col (t++nlw m)=(nlw m).length-1:=by
   unfold nlw
   rw [zz2 (zg3 m),dM];show _=1+_-1;omega
  have e3:1<=(nlw m).length:=by unfold nlw;rw [dM];show 1<=1+_;omega
  rw [e2]
  generalize rF=G at q|-
  generalize nlw m=w at hz' q e3|-
  simp! [dW,q,hz']
  omega
def cat:List Str->Str
 |[]=>⟨#[]⟩
 |x::xs=>x++cat xs
theorem zm7(t:Str):t++(⟨#[]⟩:Str)=t:=sF (by rw [bY];simp! [Yl])
theorem yh6(t:Str):(⟨#[]⟩:Str)++t=t:=sF (by rw [bY];simp! [Yl])
theorem yh7(a b c:Str):(a++b)++c=a++(b++c):=sF (by simp only [bY,Zp])
theorem vP:∀(ps:List Str) (w:Str),cat (ps++[w])=cat ps++w
 |[],w=>by show w++(⟨#[]⟩:Str)=(⟨#[]⟩:Str)++w;rw [zm7,yh6]
 |x::ps,w=>by show x++cat (ps++[w])=(x++cat ps)++w;rw [vP ps w,yh7]
abbrev nsS:List Str:=["choices","used","column","parts"]
def bE(C:List Int):List D:=C.map .int
theorem zq8(a b:List Int):bE (a++b)=bE a++bE b:=by simp! [bE]
theorem nG(a:List Int):(bE a).length=a.length:=by simp! [bE]
theorem zg5:∀C:List Int,D.ints (bE C)=some C
 |[]=>rfl
 |c::C=>by show D.ints (.int c::bE C)=_;rw [D.ints,zg5 C];rfl
def stD(C:List Int)(u:Nat)(ps:List Str):D:= .obj true "Setter" nsS [.tup (bE C),.int u,.int (col (cat ps)),.lst true (cQ ps)]
theorem lK:∀C,D.imms (bE C)=true
 |[]=>rfl
 |c::C=>by show(D.imm (.int c)&&D.imms (bE C))=true;rw [lK C];rfl
abbrev kK:tz7:=gE 3 1 (bD [true,false,false]) (iO pE pF)
theorem xg3{C:List Int}{u:Nat}{ps:List Str}{l:Leaf}{b:Bool}{m:Int}{w:Str}(hl:fR l)(h0:0<=m)(h1:m<=200)(hw:wr b m (col (cat ps)) l=some w)(hp:ps.length<=900)(hc:(cat ps).length<=1000000):
  kK [stD C u ps,bN l,aK b m]=some (.non,[stD C u (ps++[w]),bN l,aK b m]):=by
 obtain⟨hW,hz⟩:=zJ hl h0 h1 hw
 have q1:=zg4 l b m (col (cat ps)) hl h0 h1 (ZC (xx5 _) hc)
 rw [hw] at q1
 have q2:=yy3 (t:=cat ps) hW (by omega)
 have hi:(cQ ps).length<sizeLine:=by rw [yx6];exact sz1 (by omega)
 have es:cQ (ps++[w])=cQ ps++[.str w]:=by rw [yx5];rfl
 show gE 3 1 _ (iO pE pF) _=_
 unfold stD
 rw [vP,es]
 generalize bN l=dl at q1|-
 generalize aK b m=dp at q1|-
 generalize pE=G1 at q1|-
 generalize pF=G2 at q2|-
 simp only [wrD] at q1
 simp! [iO,q1,q2,hi]
abbrev oQ:tz7:=gE 2 1 (bD [true,false]) iZ
theorem nD{α:Type}{xs:List α}{n:Nat}{v:α}(h:xs[n]? =some v):atI xs (n:Int)=some v:=zk0 h
theorem xg4{C:List Int}{u n:Nat}{c:Int}{ps:List Str}(hc:C[u]? =some c)(h0:0<=c)(h1:c<n):oQ [stD C u ps,.int n]=some (.int c,[stD C (u+1) ps,.int n]):=by
 obtain⟨hu,_⟩:=Z2.mp hc
 have hl:(bE C).length=C.length:=Zh _
 have e:atI (bE C) (u:Int)=some (.int c):=nD (by unfold bE;rw [Zb,hc];rfl)
 have g1:¬((C.length:Int)<=(u:Int)):=by omega
 have g2:¬(c<0):=by omega
 have g3:¬((n:Int)<=c):=by omega
 unfold stD
 simp! [iZ,hl,e,g1,g2,g3]
abbrev wP(GR:tz7):tz7:=gE 3 3 (bD [true,false,false]) (iA tM lT oQ GR)
theorem zL{GR:tz7}{p:Pc}{b:Bool}{m:Int}{C:List Int}{u u1 i:Nat}{ps:List Str}{x:List Pc×Bool×Int}{N:D}(hp:mW p=true)(hn:za0 p<=1000)(hi:(cJ b m p)[i]? =some x)
  (hc:(cR b p=true/\C[u]? =some (i:Int)/\u1=u+1)\/(cR b p=false/\i=0/\u1=u)) (hR:GR [stD C u1 ps,.tup (pcsD x.1),aK x.2.1 x.2.2]=some (.non,[N,.tup (pcsD x.1),aK x.2.1 x.2.2])):
  wP GR [stD C u ps,pcD p,aK b m]=some (.non,[N,pcD p,aK b m]):=by
 have q1:=yh5 p b m hp hn
 have q2:=zz3 p b m hp
 have hil:i<((cJ b m p).map dU).length:=by rw [Zh];exact(Z2.mp hi).1
 have e1:atI ((cJ b m p).map dU) (i:Int)=some (dU x):=nD (by rw [Zb,hi];rfl)
 have hw:=zK x
 have p1:=pcs_imm x.1
 have p2:=pT x.2.1 x.2.2
 generalize hW:(cJ b m p).map dU=W at q1 hil e1
 have st1:∀v ps',stD C v ps'= .obj true "Setter" nsS [.tup (bE C),.int v,.int (col (cat ps')),.lst true (cQ ps')]:=fun _ _=>rfl
 have hm:∀v,dS "Setter" "set_row" GR [.tup (pcsD x.1),aK x.2.1 x.2.2] (stD C v ps)=(GR [stD C v ps,.tup (pcsD x.1),aK x.2.1 x.2.2]).bind fun r=>match r.2 with
   |d'::ds=>if ds.length=2 then some (r.1,d') else none
   |[]=>none:=fun v=>by
  rw [st1]
  show(if (("Setter":Str)="Setter"/\cI nsS "set_row"=none) then _ else none)=_
  exact if_pos ⟨rfl,by simp! [Yl]⟩
 have hm1:dS "Setter" "set_row" GR [.tup (pcsD x.1),aK x.2.1 x.2.2] (stD C u1 ps)=some (.non,N):=by rw [hm,hR];rfl
 have body:∀f4:Int,aS (aV 5 (aH (bB (f2 dIx (aA 3) (aA 4))))) (cY (dH 0 bH (cA [.im (f2 dIx (aA 5) (fC (.int 0))),.im (f2 dIx (aA 5) (fC (.int 1)))]) (dS "Setter" "set_row" GR))) [some (stD C u1 ps),some (pcD p),some (aK b m),some (.lst true W),some (.int (i:Int)),none]=some (.nx,[some N,some (pcD p),some (aK b m),some (.lst true W),some (.int (i:Int)),some (dU x)]):=fun _=>by
  have s1:aV 5 (aH (bB (f2 dIx (aA 3) (aA 4)))) [some (stD C u1 ps),some (pcD p),some (aK b m),some (.lst true W),some (.int (i:Int)),none]=some (.nx,[some (stD C u1 ps),some (pcD p),some (aK b m),some (.lst true W),some (.int (i:Int)),some (dU x)]):=by
   refine bF ?_
   simp! [e1,hw]
  refine(aP s1).trans ?_
  unfold dU at*
  generalize aK x.2.1 x.2.2=PX at*
  generalize stD C u1 ps=ST at*
  simp! [p1,p2,hm1]
 show gE 3 3 _ (iA tM lT oQ GR) _=_
 have s1:aV 3 (aH (aJ tM (aC (aA 1) (aC (aA 2) aE)))) [some (stD C u ps),some (pcD p),some (aK b m),none,none,none]=some (.nx,[some (stD C u ps),some (pcD p),some (aK b m),some (.lst true W),none,none]):=bF (aW (aD rfl (aD rfl rfl)) q1)
 have s2:aV 4 (aH (fC (.int 0))) [some (stD C u ps),some (pcD p),some (aK b m),some (.lst true W),none,none]=some (.nx,[some (stD C u ps),some (pcD p),some (aK b m),some (.lst true W),some (.int 0),none]):=rfl
 have t1:∀B,cR b p=B->aT (fT (aJ lT (aC (aA 1) (aC (aA 2) aE)))) [some (stD C u ps),some (pcD p),some (aK b m),some (.lst true W),some (.int 0),none]=some (B,[some (stD C u ps),some (pcD p),some (aK b m),some (.lst true W),some (.int 0),none]):=fun B hB=>by
  have e:aJ lT (aC (aA 1) (aC (aA 2) aE)) [some (stD C u ps),some (pcD p),some (aK b m),some (.lst true W),some (.int 0),none]=some (.bl B):=aW (aD rfl (aD rfl rfl)) (hB▸q2)
  unfold aT fT
  rw [e];rfl
 have s3:fIf (aT (fT (aJ lT (aC (aA 1) (aC (aA 2) aE))))) (aV 4 (dH 0 bH (cA [.im (aJ cT (aC (aA 3) aE))]) (dS "Setter" "choice_below" oQ))) bK [some (stD C u ps),some (pcD p),some (aK b m),some (.lst true W),some (.int 0),none]=some (.nx,[some (stD C u1 ps),some (pcD p),some (aK b m),some (.lst true W),some (.int (i:Int)),none]):=by
  rcases hc with ⟨hT,hC,rfl⟩|⟨hT,rfl,rfl⟩
  ·refine(yn7 (t1 _ hT)).trans ?_
   have qb:=xg4 (ps:=ps) hC (by omega) (show(i:Int)<(W.length:Nat) by omega)
   have hb:dS "Setter" "choice_below" oQ [.int (W.length:Nat)] (stD C u ps)=some (.int (i:Int),stD C (u+1) ps):=by
    have e:dS "Setter" "choice_below" oQ [.int (W.length:Nat)] (stD C u ps)=(oQ [stD C u ps,.int (W.length:Nat)]).bind fun r=>match r.2 with
      |d'::ds=>if ds.length=1 then some (r.1,d') else none
      |[]=>none:=by
     rw [st1]
     show(if (("Setter":Str)="Setter"/\cI nsS "choice_below"=none) then _ else none)=_
     exact if_pos ⟨rfl,by simp! [Yl]⟩
    rw [e,qb];rfl
   generalize oQ=G at hb|-
   generalize stD C u ps=S0 at hb|-
   generalize stD C (u+1) ps=S1 at hb|-
   generalize pcD p=d1
   generalize aK b m=d2
   simp! [hb]
  ·exact(eX (t1 _ hT)).trans rfl
 have z:=(aP s1).trans ((aP s2).trans ((aP s3).trans (body 0)))
 unfold gE
 refine(if_pos rfl).trans ?_
 have z':iA tM lT oQ GR ([stD C u ps,pcD p,aK b m].map some++List.replicate 3 none)=some (.nx,[some N,some (pcD p),some (aK b m),some (.lst true W),some (.int (i:Int)),some (dU x)]):=z
 rw [z']
 rfl
def wQ(GH GPl:tz7):tz1:=
   (fIf (aT (fT (aJ kJ (aC (aA 3) aE))))
   (cY (dH 0 bH (cA [.im (aA 3),.im (aA 2)]) (dS "Setter" "set_holder" GH)))
   (cY (dH 0 bH (cA [.im (aA 3),.im (aA 2)]) (dS "Setter" "set_plain" GPl))))
theorem zm8{g:tz7}{m:Str}{C:List Int}{u:Nat}{ps:List Str}{d1 d2 N v:D}(hm:cI nsS m=none)(h:g [stD C u ps,d1,d2]=some (v,[N,d1,d2])):dS "Setter" m g [d1,d2] (stD C u ps)=some (v,N):=by
 show(if (("Setter":Str)="Setter"/\cI nsS m=none) then(g [stD C u ps,d1,d2]).bind _ else none)=_
 rw [if_pos ⟨rfl,hm⟩,h];rfl
theorem zM{GH:tz7}{C:List Int}{u:Nat}{ps:List Str}{p:Pc}{b:Bool}{m:Int}{R:Option D}{N:D}(hp:mW p=true)(h:GH [stD C u ps,pcD p,aK b m]=some (.non,[N,pcD p,aK b m])):
  wQ GH kK [some (stD C u ps),R,some (aK b m),some (pcD p)]=some (.nx,[some N,R,some (aK b m),some (pcD p)]):=by
 have q:=zc7 p
 rw [hp] at q
 have hm:=zm8 (m:="set_holder") (by simp! [Yl]) h
 have i1:=sC p
 have i2:=pT b m
 unfold wQ
 generalize kJ=G1 at q|-
 generalize kK=G2
 generalize stD C u ps=S at hm|-
 generalize pcD p=d1 at*
 generalize aK b m=d2 at*
 refine(yn7 (p':=[some S,R,some d2,some d1]) (by simp! [q])).trans ?_
 simp! [i1,i2,hm]
theorem xg5{GH:tz7}{C:List Int}{u:Nat}{ps:List Str}{l:Leaf}{b:Bool}{m:Int}{R:Option D}{N:D}(h:kK [stD C u ps,bN l,aK b m]=some (.non,[N,bN l,aK b m])):
  wQ GH kK [some (stD C u ps),R,some (aK b m),some (bN l)]=some (.nx,[some N,R,some (aK b m),some (bN l)]):=by
 have q:kJ [bN l]=some (.bl false):=zc7 (.leaf l)
 have hm:=zm8 (m:="set_plain") (by simp! [Yl]) h
 have i1:=zy9 l
 have i2:=pT b m
 unfold wQ
 generalize kJ=G1 at q|-
 generalize kK=G2 at hm|-
 generalize stD C u ps=S at hm|-
 generalize bN l=d1 at*
 generalize aK b m=d2 at*
 refine(eX (p':=[some S,R,some d2,some d1]) (by simp! [q])).trans ?_
 simp! [i1,i2,hm]
def rG:Nat->tz7
 |0=>fun _=>none
 |n+1=>gE 3 1 (bD [true,false,false]) (jC kJ (wP (rG n)) kK)
def wR(a l w:Nat):Prop:=a+w<=900/\l+201*w<=1000000
def kY(a a' l l' w:Nat):Prop:=a'<=a+w/\l'<=l+201*w
theorem zN{a l w w':Nat}(h:wR a l w)(hw:w'<=w):wR a l w':=by unfold wR at*;omega
theorem vQ{a a' l l' w w':Nat}(h:kY a a' l l' w)(hw:w<=w'):kY a a' l l' w':=by unfold kY at*;omega
theorem yy4{a a' l l' v w:Nat}(h:wR a l (v+w))(g:kY a a' l l' v):wR a' l' w:=by unfold wR kY at*;omega
theorem ye8{a a1 a2 l l1 l2 v w:Nat}(g:kY a a1 l l1 v)(h:kY a1 a2 l1 l2 w):kY a a2 l l2 (v+w):=by unfold kY at*;omega
theorem yB{m:Int}{x:Nat}(h:m+12*((x+1:Nat):Int)<=200):m+12*(x:Int)<=200:=by omega
theorem zO{m:Int}{x y:Nat}(h:m+12*(y:Int)<=200)(hx:x<=y):m+12*(x:Int)<=200:=by omega
theorem yy5{m k:Int}{x:Nat}(h:m+12*((x+1:Nat):Int)<=200)(hk:k<=12):m+k+12*(x:Int)<=200:=by omega
theorem xg6{ps:List Str}{w:Str}(hw:w.length<=201):kY ps.length (ps++[w]).length (cat ps).length (cat (ps++[w])).length 1:=by
 rw [vP,dM,Z5]
 unfold kY
 show _+1<=_/\_
 omega
def yq0(GR:tz7)(r:List Pc):Prop:=∀(b:Bool) (m:Int) (C:List Int) (u:Nat) (ps:List Str) (cs':List Int) (t':Str),0<=m->m+12*depR r<=200->setR b m r (C.drop u) (cat ps)=some (cs',t')->u<=C.length->
 wR ps.length (cat ps).length (toksR r).length->
 ∃u' ps',GR [stD C u ps,.tup (pcsD r),aK b m]=some (.non,[stD C u' ps',.tup (pcsD r),aK b m])/\C.drop u'=cs'/\cat ps'=t'/\u'<=C.length/\kY ps.length ps'.length (cat ps).length (cat ps').length (toksR r).length
theorem sV{C:List Int}{u:Nat}{c:Int}{cs:List Int}(h:C.drop u=c::cs):C[u]? =some c/\C.drop (u+1)=cs/\u+1<=C.length:=by
 have hu:u<C.length:=by
  rcases Nat.lt_or_ge u C.length with h1|h1
  ·exact h1
  ·rw [List.drop_eq_nil_of_le h1] at h;cases h
 rw [ZO hu] at h
 cases h
 exact⟨Zr hu,rfl,hu⟩
theorem sW:∀{rs:List (List Pc)} {i:Nat} {r:List Pc},rs[i]? =some r->depR r<=depRs rs
 |[],i,_,h=>by simp! [Yl] at h
 |q::rs,0,_,h=>by simp! [Yl] at h;subst h;rw [depRs];omega
 |q::rs,i+1,_,h=>by have:=sW (rs:=rs) (i:=i) (by simpa using h);rw [depRs];omega
theorem vR:∀{rs:List (List Pc)} {i:Nat} {r:List Pc},okRs rs->rs[i]? =some r->okR r
 |[],i,_,_,h=>by simp! [Yl] at h
 |q::rs,0,_,o,h=>by simp! [Yl] at h;subst h;rw [okRs] at o;exact o.1
 |q::rs,i+1,_,o,h=>by rw [okRs] at o;exact vR (rs:=rs) (i:=i) o.2 (by simpa using h)
def zd6(GR:tz7)(p:Pc)(b:Bool)(m:Int)(C:List Int)(u:Nat)(ps:List Str)(cs':List Int)(t':Str)(R:Option D):Prop:=∃u' ps',wQ (wP GR) kK [some (stD C u ps),R,some (aK b m),some (pcD p)]=some (.nx,[some (stD C u' ps'),R,some (aK b m),some (pcD p)])/\C.drop u'=cs'/\cat ps'=t'/\u'<=C.length/\kY ps.length ps'.length (cat ps).length (cat ps').length (cN p).length
theorem yy6{GR:tz7}{p:Pc}{k:Nat}(hG:∀r,depR r<k->okR r->yq0 GR r)(hd:dZ p<=k)(ho:okP p){b:Bool}{m:Int}{C:List Int}{u:Nat}{ps:List Str}{cs':List Int}{t':Str}{R:Option D}(h0:0<=m)(h1:m+12*dZ p<=200)
  (h:cF b m p (C.drop u) (cat ps)=some (cs',t')) (hu:u<=C.length) (hp:wR ps.length (cat ps).length (cN p).length):zd6 GR p b m C u ps cs' t' R:=by
 cases p with
 | leaf l=>
  rw [cF] at h
  cases e:wr b m (col (cat ps)) l with
  |none=>rw [e] at h;cases h
  |some w=>
   rw [e] at h
   cases h
   have hl:fR l:=ho
   have h1':m<=200:=by rw [dZ] at h1;omega
   obtain⟨_,hz⟩:=zJ hl h0 h1' e
   rw [show(cN (.leaf l)).length=1 from rfl] at hp
   have q:=xg3 (C:=C) (u:=u) hl h0 h1' e (by have:=hp.1;omega) (by have:=hp.2;omega)
   delta zd6
   exact⟨u,ps++[w],xg5 q,rfl,vP ps w,hu,(show(cN (.leaf l)).length=1 from rfl)▸xg6 hz⟩
 | group r=>
  have ho':okR r:=ho
  rw [dZ] at hd h1
  have hd':depR r<k:=hd
  have h1':m+12*depR r<=200:=yB h1
  have ht:(cN (.group r)).length=(toksR r).length+2:=by simp! [cN]
  rw [ht] at hp
  have hp':=zN hp (ZY _ 2)
  rw [cF.eq_def] at h
  simp only at h
  cases b with
  |false=>
   simp only [ZH,Yg] at h
   obtain⟨u',ps',q,e1,e2,e3,e4⟩:=hG r hd' ho' false m C u ps cs' t' h0 h1' h hu hp'
   delta zd6
   exact⟨u',ps',zM rfl (zL (i:=0) (x:=(r,false,m)) rfl (by simp! [za0]) rfl (.inr ⟨rfl,rfl,rfl⟩) q),e1,e2,e3,ht▸vQ e4 (ZY _ 2)⟩
  | true=>
   cases hC:C.drop u with
   |nil=>rw [hC] at h;simp! [Yl] at h
   | cons c cs=>
    obtain⟨g1,g2,g3⟩:=sV hC
    rw [hC] at h
    simp only [ZS] at h
    have go:∀(i:Nat) (bb:Bool),(i:Int)=c->(cJ true m (.group r))[i]? =some (r,bb,m)->setR bb m r cs (cat ps)=some (cs',t')->zd6 GR (.group r) true m C u ps cs' t' R:=fun i bb hi hw hs=>by
     rw [<-g2] at hs
     obtain⟨u',ps',q,e1,e2,e3,e4⟩:=hG r hd' ho' bb m C (u+1) ps cs' t' h0 h1' hs g3 hp'
     delta zd6
     exact⟨u',ps',zM rfl (zL (i:=i) (x:=(r,bb,m)) rfl (by simp! [za0]) hw (.inl ⟨rfl,by rw [hi];exact g1,rfl⟩) q),e1,e2,e3,ht▸vQ e4 (ZY _ 2)⟩
    by_cases c0:c=0
    ·subst c0
     rw [if_pos rfl] at h
     exact go 0 false rfl rfl h
    ·rw [if_neg c0] at h
     by_cases c1:c=1
     ·subst c1
      rw [if_pos rfl] at h
      exact go 1 true rfl rfl h
     ·rw [if_neg c1] at h;cases h
 |hang n r=>
  have ho':(0<=n/\n<=12)/\okR r:=ho
  rw [dZ] at hd h1
  have ht:(cN (.hang n r)).length=(toksR r).length+2:=by simp! [cN]
  rw [ht] at hp
  rw [cF] at h
  obtain⟨u',ps',q,e1,e2,e3,e4⟩:=hG r hd ho'.2 b (m+n) C u ps cs' t' (Int.add_nonneg h0 ho'.1.1) (yy5 h1 ho'.1.2) h hu (zN hp (ZY _ 2))
  delta zd6
  exact⟨u',ps',zM rfl (zL (i:=0) (x:=(r,b,m+n)) rfl (by simp! [za0]) rfl (.inr ⟨rfl,rfl,rfl⟩) q),e1,e2,e3,ht▸vQ e4 (ZY _ 2)⟩
 | either rs=>
  have ho':(2<=rs.length/\rs.length<=4)/\okRs rs:=ho
  rw [cF.eq_def] at h
  simp only at h
  cases hC:C.drop u with
  |nil=>rw [hC] at h;cases h
  | cons c cs=>
   obtain⟨g1,g2,g3⟩:=sV hC
   rw [hC] at h
   simp only at h
   by_cases c0:0<=c
   ·rw [if_pos c0] at h
    cases hr:rs[c.toNat]? with
    |none=>rw [qZ hr] at h;cases h
    |some r=>
     rw [pS hr,<-g2] at h
     have hdr:=sW hr
     have hor:=vR ho'.2 hr
     have htr:=tW (ZG hr)
     have ht:(cN (.either rs)).length=(toksRows rs).length+2:=by simp! [cN]
     rw [dZ] at hd h1
     rw [ht] at hp
     obtain⟨u',ps',q,e1,e2,e3,e4⟩:=hG r (Yo hdr hd) hor b m C (u+1) ps cs' t' h0 (zO (yB h1) hdr) h g3 (zN hp (ZC htr (ZY _ 2)))
     delta zd6
     refine⟨u',ps',zM rfl (zL (i:=c.toNat) (x:=(r,b,m)) rfl (ZC ho'.1.2 (by decide)) (by show(rs.map _)[c.toNat]? =_;rw [Zb,hr];rfl) (.inl ⟨rfl,by rw [Wd c0];exact g1,rfl⟩) q),e1,e2,e3,ht▸vQ e4 (ZC htr (ZY _ 2))⟩
   ·rw [if_neg c0] at h;cases h
theorem zz5{GR:tz7}{k:Nat}(hG:∀r,depR r<k->okR r->yq0 GR r){b:Bool}{m:Int}{C:List Int}{R:Option D}(h0:0<=m):∀(r:List Pc) (u:Nat) (ps:List Str) (cs':List Int) (t':Str) (x:Option D),depR r<=k->okR r->m+12*depR r<=200->
  setR b m r (C.drop u) (cat ps)=some (cs',t')->u<=C.length->wR ps.length (cat ps).length (toksR r).length->
  ∃u' ps' y,dX 3 (wQ (wP GR) kK) (pcsD r) [some (stD C u ps),R,some (aK b m),x]=some (.nx,[some (stD C u' ps'),R,some (aK b m),y])/\C.drop u'=cs'/\cat ps'=t'/\u'<=C.length/\kY ps.length ps'.length (cat ps).length (cat ps').length (toksR r).length
 |[],u,ps,cs',t',x,_,_,_,h,hu,_=>by
  rw [setR] at h;cases h
  exact⟨u,ps,x,rfl,rfl,rfl,hu,⟨Za _,Za _⟩⟩
 | p::r,u,ps,cs',t',x,hd,ho,h1,h,hu,hp=>by
  rw [okR] at ho
  rw [depR] at hd h1
  have ht:(toksR (p::r)).length=(cN p).length+(toksR r).length:=by rw [toksR,Z5]
  rw [ht] at hp|-
  rw [setR] at h
  cases e:cF b m p (C.drop u) (cat ps) with
  |none=>rw [e] at h;cases h
  |some s=>
   obtain⟨c1,t1⟩:=s
   rw [e] at h
   obtain⟨u1,ps1,q1,a1,a2,a3,a4⟩:=yy6 (R:=R) hG (ZC (Nat.le_max_left _ _) hd) ho.1 h0 (zO h1 (Nat.le_max_left _ _)) e hu (zN hp (ZY _ _))
   have h':setR b m r (C.drop u1) (cat ps1)=some (cs',t'):=by rw [a1,a2];exact h
   obtain⟨u2,ps2,y,q2,b1,b2,b3,b4⟩:=zz5 hG h0 r u1 ps1 cs' t' (some (pcD p)) (ZC (Nat.le_max_right _ _) hd) ho.2 (zO h1 (Nat.le_max_right _ _)) h' a3 (yy4 hp a4)
   refine⟨u2,ps2,y,?_,b1,b2,b3,ye8 a4 b4⟩
   show dX 3 _ (pcD p::pcsD r) _=_
   rw [dX]
   show((wQ (wP GR) kK [some (stD C u ps),R,some (aK b m),some (pcD p)]).bind _)=_
   rw [q1];exact q2
theorem zm9:∀(n:Nat) (r:List Pc),depR r<n->okR r->yq0 (rG n) r
 |0,_,h,_=>absurd h (Ym _)
 |n+1,r,hd,ho=>fun b m C u ps cs' t' h0 h1 h hu hp=>by
  obtain⟨u',ps',y,q,e1,e2,e3,e4⟩:=zz5 (GR:=rG n) (k:=n) (R:=some (.tup (pcsD r))) (fun s hs hk=>zm9 n s hs hk) h0 r u ps cs' t' none (Nat.le_of_lt_succ hd) ho h1 h hu hp
  refine⟨u',ps',?_,e1,e2,e3,e4⟩
  show gE 3 1 _ (jC kJ (wP (rG n)) kK) _=_
  unfold gE
  refine(if_pos rfl).trans ?_
  have z:jC kJ (wP (rG n)) kK ([stD C u ps,.tup (pcsD r),aK b m].map some++List.replicate 1 none)=some (.nx,[some (stD C u' ps'),some (.tup (pcsD r)),some (aK b m),y]):=q
  rw [z];rfl
abbrev zi8:tz6:=gP 1 0 kB
theorem zz6:∀ps:List Str,(Str.join "" ps)=cat ps
 |[]=>by decide+kernel
 |[x]=>by show x=x++(⟨#[]⟩:Str);rw [zm7]
 |x::y::r=>by
  have ih:=zz6 (y::r)
  show(x++("":Str))++Str.join "" (y::r)=x++cat (y::r)
  rw [ih,show("":Str)=⟨#[]⟩ from by decide+kernel,zm7]
theorem yh8:∀ps:List Str,(ps.map (·.length)).sum=(cat ps).length
 |[]=>rfl
 |x::ps=>by rw [Z8,List.sum_cons,yh8 ps];show _=(x++cat ps).length;rw [dM]
theorem uG:∀ps:List Str,D.strs (cQ ps)=some ps
 |[]=>rfl
 |x::ps=>by show D.strs (.str x::cQ ps)=_;rw [D.strs,uG ps];rfl
theorem xg7{C:List Int}{u:Nat}{ps:List Str}(hu:C.length<=u)(hp:ps.length<=1000)(hc:(cat ps).length<=1000000):zi8 [stD C u ps]=some (.str (cat ps)):=by
 have hl:(bE C).length=C.length:=Zh _
 have g:¬((u:Int)<(C.length:Int)):=by omega
 have e:zi1 (.str "") [.lst true (cQ ps)]=some (.str (cat ps)):=by
  rw [zi1,uG,Z3,if_pos]
  ·rw [show Txt.join ("":Str) ps=Str.join "" ps from StrLaws.glued_eq_join _ _,zz6]
  ·rw [yh8]
   exact⟨by decide+kernel,by omega⟩
 unfold stD
 simp! [kB,hl,g,e,zi0]
abbrev zi9:tz7:=gE 2 0 (bD [true,false]) pD
theorem xx7(C:List Int):zi9 [.obj true "Setter" [] [],.tup (bE C)]=some (.non,[stD C 0 [],.tup (bE C)]):=by
 have hi:=lK C
 have e:stD C 0 []= .obj true "Setter" nsS [.tup (bE C),.int 0,.int 0,.lst true []]:=rfl
 rw [e]
 simp! [pD,hi]
abbrev xb7(n:Nat):tz6:=gP 2 1 (uB zi9 (rG n) yT zi8)
theorem yy7{n:Nat}{r:List Pc}{C:List Int}{t:Str}(hd:depR r<n)(h8:depR r<=16)(ho:okR r)(hl:(toksR r).length<=800)(h:setR true 0 r C ⟨#[]⟩=some ([],t)):xb7 n [.tup (pcsD r),.tup (bE C)]=some (.str t):=by
 obtain⟨u',ps',q,e1,e2,e3,e4,e5⟩:=zm9 n r hd ho true 0 C 0 [] [] t (Yb _) (by omega) h (ZL _) ⟨by show 0+_<=_;omega,by show 0+_<=_;omega⟩
 have e5':(cat ps').length<=0+201*(toksR r).length:=e5
 have e4':ps'.length<=0+(toksR r).length:=e4
 have hu:C.length<=u':=by
  have:=ZM List.length e1
  rw [YS] at this
  simp! [Yl] at this;omega
 have w:=xg7 (C:=C) (ps:=ps') hu (by omega) (by omega)
 rw [e2] at w
 have i:=xx7 C
 have f:=zz4
 have hm:=zm8 (m:="set_row") (by simp! [Yl]) q
 have p1:=pcs_imm r
 have p2:=lK C
 have p3:=pT true 0
 have w':zi3 "Setter" "whole_text" (aA 2) [some (.tup (pcsD r)),some (.tup (bE C)),some (stD C u' ps')]=some (stD C u' ps'):=by
  unfold stD
  simp! [Yl]
 show gP 2 1 (uB zi9 (rG n) yT zi8) _=_
 generalize zi9=G1 at i|-
 generalize rG n=G2 at hm|-
 generalize yT=G3 at f|-
 generalize zi8=G4 at w|-
 generalize stD C u' ps'=S1 at*
 generalize stD C 0 []=S0 at*
 generalize aK true 0=pl at*
 have s1:aV 2 (aH (eP "Setter" (cA [.im (aA 1)]) G1)) [some (.tup (pcsD r)),some (.tup (bE C)),none]=some (.nx,[some (.tup (pcsD r)),some (.tup (bE C)),some S0]):=by
  refine bF ?_
  simp! [p2,i]
 have s2:cY (dH 2 bH (cA [.im (aA 0),.im (aJ G3 aE)]) (dS "Setter" "set_row" G2)) [some (.tup (pcsD r)),some (.tup (bE C)),some S0]=some (.nx,[some (.tup (pcsD r)),some (.tup (bE C)),some S1]):=by
  simp! [p1,p3,f,hm]
 exact kF rfl ((aP s1).trans ((aP s2).trans (cL (aW (aD w' rfl) w))))
def uD(C:List Int)(t:Str)(u:Nat):D:= .lst true [.str t,.lst true (bE (C.take u)),.tup (bE C),.int 0]
theorem wd7:ixN 4 1=some 1:=by decide
theorem uO{np n:Nat}{m:Nat->Bool}{f:tz1}{ds ds':List D}{d:D}{q:PSt}(hl:ds.length=np)(h:f (ds.map some++List.replicate n none)=some (.ret d,q))(ho:wJ m q 0 ds=some ds'):gE np n m f ds=some (d,ds'):=by
 unfold gE
 rw [if_pos hl,h,Z3]
 show(wJ m q 0 ds).bind _=_
 rw [ho];rfl
theorem zz7{f:tz8}{p p':PSt}{d:D}(h:f p=some (d,p')):bS f p=some (.ret d,p'):=by unfold bS;rw [h];rfl
theorem xg8{i:Nat}{f:tz8}{p p':PSt}{d:D}(h:f p=some (d,p')):aV i f p=some (.nx,p'.set i (some d)):=by unfold aV;rw [h];rfl
theorem xx8{i:Nat}{fe:tz2}{y a:D}{l:List D}{p:PSt}(h:fe p=some y)(hp:p[i]? =some (some (.lst true (a::l)))):dR i bH (fC (.int 0)) fe p=some (.nx,p.set i (some (.lst true (y::l)))):=by
 have e:ixN (l.length+1) 0=some 0:=qH _
 simp [dR,h,hp,bH,fC,fO,gH,e]
theorem zz8:∀{rs:List (List Pc)} {i:Nat} {r:List Pc},rs[i]? =some r->(rowsD rs)[i]? =some (.tup (pcsD r))
 |[],i,_,h=>by simp at h
 |q::rs,0,_,h=>by simp at h;subst h;rfl
 |q::rs,i+1,_,h=>by show(rowsD rs)[i]? =_;exact zz8 (by simpa using h)
section
variable{GM:tz6}{S:D}
abbrev zn7(GM:tz6):tz7:=gE 3 2 (bD [false,true,false]) (zb0 GM)
theorem yy8{C:List Int}{t:Str}{u many:Nat}{c:Int}(hu:C[u]? =some c)(h0:0<=c)(h1:c<many)(hl:C.length<=900):zn7 GM [S,uD C t u,.int (many:Int)]=some (.int c,[S,uD C t (u+1),.int (many:Int)]):=by
 have hlt:u<C.length:=(Z2.mp hu).1
 have tl:(C.take u).length=u:=by rw [Yh];omega
 have s1:aV 3 (aH (aJ cT (aC (f2 dIx (aA 1) (fC (.int 1))) aE))) [some S,some (uD C t u),some (.int (many:Int)),none,none]=some (.nx,[some S,some (uD C t u),some (.int (many:Int)),some (.int (u:Int)),none]):=by
  refine bF (aW (aD (aO (x:=uD C t u) rfl rfl (fN _ _ _)) rfl) ?_)
  show some (D.int ((bE (C.take u)).length:Int))=_
  rw [nG,tl]
 generalize hp:[some S,some (uD C t u),some (D.int (many:Int)),some (D.int (u:Int)),none]=p at s1
 have v1:aA 1 p=some (uD C t u):=by rw [<-hp];rfl
 have v2:aA 2 p=some (.int (many:Int)):=by rw [<-hp];rfl
 have v3:aA 3 p=some (.int (u:Int)):=by rw [<-hp];rfl
 have i2:f2 dIx (aA 1) (fC (.int 2)) p=some (.tup (bE C)):=aO v1 rfl rfl
 have n1:fB (f2 dIs (f2 dIx (aA 1) (fC (.int 2))) (fC .non)) p=some false:=dI (aO i2 rfl rfl)
 have ic:f2 dIx (f2 dIx (aA 1) (fC (.int 2))) (aA 3) p=some (.int c):=aO i2 v3 (nD (by unfold bE;rw [Zb,hu];rfl))
 have t1:fB (f2 dLt (aA 3) (aJ cT (aC (f2 dIx (aA 1) (fC (.int 2))) aE))) p=some true:=dI (aO v3 (aW (aD i2 rfl) rfl) (by
  show some (D.bl (decide ((u:Int)<((bE C).length:Int))))=_
  rw [nG,Zn (by omega)]))
 have t2:fB (f3 dLe dLt (fC (.int 0)) (f2 dIx (f2 dIx (aA 1) (fC (.int 2))) (aA 3)) (aA 2)) p=some true:=by
  refine dI ?_
  unfold f3
  rw [ic,v2]
  simp [fC,dLe,dLt,h0,h1]
 have s2:=bF (i:=4) (cM ic rfl)
 have s3:=(eX (f:=aV 4 (aH (f2 gF (aA 2) (fC (.int 1))))) (dJ (fQ (g:=fB (f2 dEq (f2 dIx (aA 1) (fC (.int 3))) (fC (.int 0)))) n1))).trans ((eX (f:=aV 4 (aH (f2 eA (aJ GM (aC (aA 0) (aC (f2 cE (aA 3) (fC (.int 7))) (aC (f2 dIx (aA 1) (fC (.int 3))) aE)))) (aA 2)))) (dJ n1)).trans ((bR (G:=bS (aH (dL (fC (.int 1))))) (jG t1 t2)).trans s2))
 have hl2:(bE (C.take u)).length<sizeLine:=by rw [nG,tl];exact sz1 (by omega)
 have ei:bE (C.take (u+1))=bE (C.take u)++[.int c]:=by
  rw [List.take_add_one,hu,zq8];rfl
 have s4:cY (dH 1 (dN 1 bH (fC (.int 1))) (aC (bB (aA 4)) aE) eE) (p.set 4 (some (.int c)))=some (.nx,[some S,some (uD C t (u+1)),some (.int (many:Int)),some (.int (u:Int)),some (.int c)]):=by
  rw [<-hp]
  unfold uD
  rw [ei]
  simp! [dN,wd7,hl2]
 exact uO rfl ((aP s1).trans ((aP s3).trans ((aP s4).trans rfl))) rfl
abbrev jK(GM:tz6)(GS:tz7):tz7:=gE 5 1 (bD [false,false,false,false,true]) (zi6 GS (zn7 GM))
def wS(GM:tz6):Nat->tz7
 |0=>fun _=>none
 |n+1=>gE 5 2 (bD [false,false,false,false,true]) (yc9 (jK GM (wS GM n)))
def ByR(S:D)(GS:tz7)(r:List Pc):Prop:=∀(flat:Bool) (m:Int) (C:List Int) (u:Nat) (t:Str) (cs':List Int) (t':Str),0<=m->m+12*depR r<=200->C.length<=900->setR (!flat) m r (C.drop u) t=some (cs',t')->u<=C.length->t.length+201*(toksR r).length<=900000->
 ∃u',GS [S,.tup (pcsD r),.bl flat,.int m,uD C t u]=some (.bl true,[S,.tup (pcsD r),.bl flat,.int m,uD C t' u'])/\C.drop u'=cs'/\u'<=C.length/\t'.length<=t.length+201*(toksR r).length
theorem xg9{GS:tz7}{p:Pc}{k:Nat}(hS:S.imm=true)(hG:∀r,depR r<k->okR r->ByR S GS r)(hd:dZ p<=k)(ho:okP p)(hp:∀l,p≠ .leaf l){flat:Bool}{m:Int}{C:List Int}{u:Nat}{t:Str}{cs':List Int}{t':Str}(h0:0<=m)(h1:m+12*dZ p<=200)(hC:C.length<=900)
  (h:cF (!flat) m p (C.drop u) t=some (cs',t')) (hu:u<=C.length) (hf:t.length+201*(cN p).length<=900000):∃u',jK GM GS [S,pcD p,.bl flat,.int m,uD C t u]=some (.bl true,[S,pcD p,.bl flat,.int m,uD C t' u'])/\C.drop u'=cs'/\u'<=C.length/\t'.length<=t.length+201*(cN p).length:=by
 have kd:∀(k w:String) (ds:List D) (b:Bool) (x5:Option D) (st:D),pcD p= .tup (.str k::ds)->decide (k=w)=b->kdT 1 w [some S,some (pcD p),some (.bl flat),some (.int m),some st,x5]=some b:=fun k w ds b x5 st hk hb=>kG (i:=1) (k:=k) (ds:=ds) (by rw [hk];rfl) hb
 have call:∀{a1 a2 a3:tz2} {r:List Pc} {b:Bool} {m':Int} {s0 s1:D} {x5:Option D},a1 [some S,some (pcD p),some (.bl flat),some (.int m),some s0,x5]=some (.tup (pcsD r))->a2 [some S,some (pcD p),some (.bl flat),some (.int m),some s0,x5]=some (.bl b)->a3 [some S,some (pcD p),some (.bl flat),some (.int m),some s0,x5]=some (.int m')->GS [S,.tup (pcsD r),.bl b,.int m',s0]=some (.bl true,[S,.tup (pcsD r),.bl b,.int m',s1])->
   fIO [.im (aA 0),.im a1,.im a2,.im a3,.io 4] GS [some S,some (pcD p),some (.bl flat),some (.int m),some s0,x5]=some (.bl true,[some S,some (pcD p),some (.bl flat),some (.int m),some s1,x5]):=fun e1 e2 e3 q=>yA (eB (f:=aA 0) rfl hS (eB e1 (pcs_imm _) (eB e2 rfl (eB e3 rfl (uN (j:=4) rfl iY))))) q rfl
 have draw:∀{f:tz2} {many:Nat} {c:Int} {x5:Option D},f [some S,some (pcD p),some (.bl flat),some (.int m),some (uD C t u),x5]=some (.int (many:Int))->C[u]? =some c->0<=c->c<many->aV 5 (fIO [.im (aA 0),.io 4,.im f] (zn7 GM)) [some S,some (pcD p),some (.bl flat),some (.int m),some (uD C t u),x5]=some (.nx,[some S,some (pcD p),some (.bl flat),some (.int m),some (uD C t (u+1)),some (.int c)]):=fun hf hu h0 h1=>xg8 (yA (eB (f:=aA 0) rfl hS (uN (j:=4) rfl (eB hf rfl iY))) (yy8 hu h0 h1 hC) rfl)
 have fin:∀{a1 a2 a3:tz2} {r:List Pc} {b:Bool} {m':Int} {s0 s1:D} {c:Int},0<=c->a1 [some S,some (pcD p),some (.bl flat),some (.int m),some s0,some (.int c)]=some (.tup (pcsD r))->a2 [some S,some (pcD p),some (.bl flat),some (.int m),some s0,some (.int c)]=some (.bl b)->a3 [some S,some (pcD p),some (.bl flat),some (.int m),some s0,some (.int c)]=some (.int m')->GS [S,.tup (pcsD r),.bl b,.int m',s0]=some (.bl true,[S,.tup (pcsD r),.bl b,.int m',s1])->
   bS (zW (f2 dGe (aA 5) (fC (.int 0))) (fIO [.im (aA 0),.im a1,.im a2,.im a3,.io 4] GS)) [some S,some (pcD p),some (.bl flat),some (.int m),some s0,some (.int c)]=some (.ret (.bl true),[some S,some (pcD p),some (.bl flat),some (.int m),some s1,some (.int c)]):=fun {a1 a2 a3 r b m' s0 s1 c} h0 e1 e2 e3 q=>by
  have g:f2 dGe (aA 5) (fC (.int 0)) [some S,some (pcD p),some (.bl flat),some (.int m),some s0,some (.int c)]=some (.bl true):=aO rfl rfl (by
   show some (D.bl (decide _))=_
   rw [Zn h0])
  refine zz7 ?_
  unfold zW
  rw [g]
  exact call e1 e2 e3 q
 cases p with
 |leaf l=>exact absurd rfl (hp l)
 |hang n r=>
  have ho':(0<=n/\n<=12)/\okR r:=ho
  rw [dZ] at hd h1
  have ht:(cN (.hang n r)).length=(toksR r).length+2:=by simp [cN]
  rw [ht] at hf|-
  rw [cF] at h
  obtain⟨u',q,e1,e2,e3⟩:=hG r hd ho'.2 flat (m+n) C u t cs' t' (Int.add_nonneg h0 ho'.1.1) (yy5 h1 ho'.1.2) hC h hu (by omega)
  refine⟨u',uO rfl (eJ ((bR (kd "hang" "hang" _ true none _ rfl (by decide))).trans (zz7 (call (aO rfl rfl (yn6 _ _ _ _)) rfl (aO rfl (aO rfl rfl (fN _ _ _)) rfl) q)))) rfl,e1,e2,by omega⟩
 | group r=>
  have ho':okR r:=ho
  rw [dZ] at hd h1
  have ht:(cN (.group r)).length=(toksR r).length+2:=by simp [cN]
  rw [ht] at hf|-
  rw [cF.eq_def] at h
  simp only at h
  have k1:=kd "group" "hang" _ false none (uD C t u) rfl (by decide)
  have k2:=kd "group" "group" _ true none (uD C t u) rfl (by decide)
  cases flat with
  |true=>
   simp only [Bool.not_true,ZH,Yg] at h
   obtain⟨u',q,e1,e2,e3⟩:=hG r hd ho' true m C u t cs' t' h0 (yB h1) hC h hu (by omega)
   refine⟨u',uO rfl ((aP (bA k1)).trans (eJ ((bR k2).trans ((aP (bF rfl)).trans ((aP (bA rfl)).trans (fin (Yb _) (aO rfl rfl (fN _ _ _)) rfl rfl q)))))) rfl,e1,e2,by omega⟩
  | false=>
   cases hCu:C.drop u with
   |nil=>rw [hCu] at h;simp at h
   | cons c cs=>
    obtain⟨g1,g2,g3⟩:=sV hCu
    rw [hCu] at h
    simp only [Bool.not_false,ZS] at h
    have go:∀bb:Bool,decide (c=0)=bb->0<=c->c<((2:Nat):Int)->setR (!bb) m r cs t=some (cs',t')->∃u',jK GM GS [S,pcD (.group r),.bl false,.int m,uD C t u]=some (.bl true,[S,pcD (.group r),.bl false,.int m,uD C t' u'])/\C.drop u'=cs'/\u'<=C.length/\t'.length<=t.length+201*((toksR r).length+2):=fun bb hbb c0 c1 hs=>by
     rw [<-g2] at hs
     obtain⟨u',q,e1,e2,e3⟩:=hG r hd ho' bb m C (u+1) t cs' t' h0 (yB h1) hC hs g3 (by omega)
     refine⟨u',uO rfl ((aP (bA k1)).trans (eJ ((bR k2).trans ((aP (bF rfl)).trans ((aP ((bR rfl).trans (draw (many:=2) rfl g1 c0 c1))).trans (fin c0 (aO rfl rfl (fN _ _ _)) (aO rfl rfl (by rw [<-hbb];rfl)) rfl q)))))) rfl,e1,e2,by omega⟩
    by_cases c0:c=0
    ·subst c0
     rw [if_pos rfl] at h
     exact go true rfl (Yb _) (by decide) h
    ·rw [if_neg c0] at h
     by_cases c1:c=1
     ·subst c1
      rw [if_pos rfl] at h
      exact go false rfl (by decide) (by decide) h
     ·rw [if_neg c1] at h;cases h
 | either rs=>
  have ho':(2<=rs.length/\rs.length<=4)/\okRs rs:=ho
  rw [cF.eq_def] at h
  simp only at h
  have k1:=kd "either" "hang" _ false none (uD C t u) rfl (by decide)
  have k2:=kd "either" "group" _ false none (uD C t u) rfl (by decide)
  cases hCu:C.drop u with
  |nil=>rw [hCu] at h;cases h
  | cons c cs=>
   obtain⟨g1,g2,g3⟩:=sV hCu
   rw [hCu] at h
   simp only at h
   by_cases c0:0<=c
   ·rw [if_pos c0] at h
    cases hr:rs[c.toNat]? with
    |none=>rw [qZ hr] at h;cases h
    | some r=>
     rw [pS hr,<-g2] at h
     have hdr:=sW hr
     have hor:=vR ho'.2 hr
     have htr:=tW (ZG hr)
     have ht:(cN (.either rs)).length=(toksRows rs).length+2:=by simp [cN]
     have hlt:c.toNat<rs.length:=(Z2.mp hr).1
     rw [dZ] at hd h1
     rw [ht] at hf|-
     obtain⟨u',q,e1,e2,e3⟩:=hG r (Yo hdr hd) hor flat m C (u+1) t cs' t' h0 (zO (yB h1) hdr) hC h g3 (by omega)
     have ix:atI (rowsD rs) c=some (.tup (pcsD r)):=by
      have:=nD (zz8 hr)
      rwa [Wd c0] at this
     refine⟨u',uO rfl ((aP (bA k1)).trans ((aP (bA k2)).trans ((aP (draw (many:=rs.length) (aW (aD (aO rfl rfl (fN _ _ _)) rfl) (by show some (D.int ((rowsD rs).length:Int))=_;rw [jO])) g1 c0 (by omega))).trans (fin c0 (aO (aO rfl rfl (fN _ _ _)) rfl ix) rfl rfl q)))) rfl,e1,e2,by omega⟩
   ·rw [if_neg c0] at h;cases h
abbrev xj7:tz2:=f2 gF (f2 gF (aJ cT (aC (f2 dIx (aA 4) (fC (.int 0))) aE)) (fC (.int 1))) (fMt yL (f2 dIx (aA 4) (fC (.int 0))) (aC (fC (.str "\n")) aE))
def wT(GI:tz7):tz1:=aS (aV 6 (aH xj7))
 (fIf (aT (lL (kdT 5 "word") (cH (kdT 5 "gap") (fT (aA 2)))))
  (dR 4 bH (fC (.int 0)) (f2 cE (f2 dIx (aA 4) (fC (.int 0))) (f2 dIx (aA 5) (fC (.int 1)))))
  (fIf (aT (cH (kdT 5 "stop") (fB (f2 dLe (aA 6) (f2 dIx (aA 5) (fC (.int 1)))))))
  (dR 4 bH (fC (.int 0)) (f2 cE (f2 dIx (aA 4) (fC (.int 0))) (f2 hX (fC (.str " ")) (f2 gF (f2 dIx (aA 5) (fC (.int 1))) (aA 6)))))
  (fIf (aT (cH (kdT 5 "stop") (eD (fT (aA 2)))))
  (dR 4 bH (fC (.int 0)) (f2 cE (f2 cE (f2 dIx (aA 4) (fC (.int 0))) (fC (.str "\n"))) (f2 hX (fC (.str " ")) (f2 dIx (aA 5) (fC (.int 1))))))
  (fIf (aT (fB (f2 dIn (f2 dIx (aA 5) (fC (.int 0))) (dA (fKs [.str "gap",.str "end",.str "stop"])))))
  (aS (fIf (aT (fT (aA 2)))
  (bS (aH (fC (.bl false))))
  bK)
 (dR 4 bH (fC (.int 0)) (f2 cE (f2 cE (f2 dIx (aA 4) (fC (.int 0))) (fC (.str "\n"))) (f2 hX (fC (.str " ")) (aA 3)))))
  (fIf (wK (fTE (fIO [.im (aA 0),.im (aA 5),.im (aA 2),.im (aA 3),.io 4] GI)))
  (bS (aH (fC (.bl false))))
  bK)))))
theorem zz9(k:String)(b:Bool)(h:dIn (.str k) (.lst true [.str "gap",.str "end",.str "stop"])=some (.bl b)){p:PSt}{ds:List D}(hp:p[5]? =some (some (.tup (.str k::ds)))):fB (f2 dIn (f2 dIx (aA 5) (fC (.int 0))) (dA (fKs [.str "gap",.str "end",.str "stop"]))) p=some b:=dI (aO (y:= .lst true [.str "gap",.str "end",.str "stop"]) (aO (mD hp) rfl (lH _ _)) rfl h)
theorem yy9{C:List Int}{t:Str}{u:Nat}{x0 x1 x2 x3 x5 x6:Option D}(ht:t.length<=1000000):aV 6 (aH xj7) [x0,x1,x2,x3,some (uD C t u),x5,x6]=some (.nx,[x0,x1,x2,x3,some (uD C t u),x5,some (.int (col t:Int))]):=by
 have hs:sizeLine=16777216:=Ye
 have hz:t.length<=sizeLine:=by omega
 have e:=yy1 t
 rw [<-zg2] at e
 refine bF (d:= .int (col t:Int)) ?_
 simp! [xj7,uD,hz,zi0,yL,e]
theorem xr6{GI:tz7}{l:Leaf}{flat:Bool}{m:Int}{C:List Int}{u:Nat}{t w:Str}{R x6:Option D}(hl:fR l)(h0:0<=m)(h1:m<=200)(ht:t.length<=900000)(e:wr (!flat) m (col t) l=some w):
  ∃y6,wT GI [some S,R,some (.bl flat),some (.int m),some (uD C t u),some (bN l),x6]=some (.nx,[some S,R,some (.bl flat),some (.int m),some (uD C (t++w) u),some (bN l),y6]):=by
 have hs:sizeLine=16777216:=Ye
 have c:=yy9 (C:=C) (u:=u) (x0:=some S) (x1:=R) (x2:=some (.bl flat)) (x3:=some (.int m)) (x5:=some (bN l)) (x6:=x6) (t:=t) (by omega)
 have add:∀x:Str,x.length<=1000->cE (.str t) (.str x)=some (.str (t++x)):=fun x hx=>by rw [cE,if_pos];omega
 have wrote:∀{fe:tz2} {x:Str} {y6:Option D},fe [some S,R,some (.bl flat),some (.int m),some (uD C t u),some (bN l),y6]=some (.str (t++x))->dR 4 bH (fC (.int 0)) fe [some S,R,some (.bl flat),some (.int m),some (uD C t u),some (bN l),y6]=some (.nx,[some S,R,some (.bl flat),some (.int m),some (uD C (t++x) u),some (bN l),y6]):=fun h=>xx8 h rfl
 have i0:∀y6:Option D,f2 dIx (aA 4) (fC (.int 0)) [some S,R,some (.bl flat),some (.int m),some (uD C t u),some (bN l),y6]=some (.str t):=fun y6=>aO (x:=uD C t u) rfl rfl (lH _ _)
 have nl:∀{fe:tz2} {k:Int} {y6:Option D},0<=k->k<=200->fe [some S,R,some (.bl flat),some (.int m),some (uD C t u),some (bN l),y6]=some (.int k)->f2 cE (f2 cE (f2 dIx (aA 4) (fC (.int 0))) (fC (.str "\n"))) (f2 hX (fC (.str " ")) fe) [some S,R,some (.bl flat),some (.int m),some (uD C t u),some (bN l),y6]=some (.str (t++nlw k)):=fun {fe k y6} k0 k1 hf=>by
  have q:=zt3 k (by omega) (by omega)
  have e1:cE (.str t) (.str "\n")=some (.str (t++(⟨#[10]⟩:Str))):=by
   rw [zg2,cE,if_pos]
   show t.length+1<=_;omega
  have e2:cE (.str (t++(⟨#[10]⟩:Str))) (.str (Txt.mul " " k))=some (.str (t++nlw k)):=by
   rw [cE,if_pos,yh7];rfl
   rw [dM,kN];show t.length+1+_<=_;omega
  exact aO (aO (i0 y6) rfl e1) (aO rfl hf q) e2
 cases l with
 |word x=>
  have e':x=w:=by simpa [wr] using e
  subst e'
  exact⟨_,(aP c).trans ((bR (wd6 (kG (i:=5) (k:="word") rfl (by decide)))).trans (wrote (aO (i0 _) (aO rfl rfl (fN _ _ _)) (add x (by have:=hl.2.1;omega)))))⟩
 | gap x=>
  have hx:x.length<=1:=by
   rcases(hl:x=""\/x=" ") with rfl|rfl<;>decide+kernel
  have w0:=kG (i:=5) (p:=[some S,R,some (.bl flat),some (.int m),some (uD C t u),some (bN (.gap x)),some (.int (col t:Int))]) (k:="gap") (w:="word") rfl (b:=false) (by decide)
  have g0:=kG (i:=5) (p:=[some S,R,some (.bl flat),some (.int m),some (uD C t u),some (bN (.gap x)),some (.int (col t:Int))]) (k:="gap") (w:="gap") rfl (b:=true) (by decide)
  have s0:=kG (i:=5) (p:=[some S,R,some (.bl flat),some (.int m),some (uD C t u),some (bN (.gap x)),some (.int (col t:Int))]) (k:="gap") (w:="stop") rfl (b:=false) (by decide)
  cases flat with
  |true=>
   have e':x=w:=by simpa [wr] using e
   subst e'
   exact⟨_,(aP c).trans ((bR (sT w0 (jG g0 (pI rfl)))).trans (wrote (aO (i0 _) (aO rfl rfl (fN _ _ _)) (add x (by omega)))))⟩
  |false=>
   have e':nlw m=w:=by simpa [wr] using e
   subst e'
   exact⟨_,(aP c).trans ((eX (dJ (sT w0 (jG g0 (pI rfl))))).trans ((eX (dJ (fQ s0))).trans ((eX (dJ (fQ s0))).trans ((bR (zz9 "gap" true (by kernel_rfl) rfl)).trans ((aP (bA (pI rfl))).trans (wrote (nl h0 h1 rfl)))))))⟩
 | fin=>
  have w0:=kG (i:=5) (p:=[some S,R,some (.bl flat),some (.int m),some (uD C t u),some (bN .fin),some (.int (col t:Int))]) (k:="end") (w:="word") rfl (b:=false) (by decide)
  have g0:=kG (i:=5) (p:=[some S,R,some (.bl flat),some (.int m),some (uD C t u),some (bN .fin),some (.int (col t:Int))]) (k:="end") (w:="gap") rfl (b:=false) (by decide)
  have s0:=kG (i:=5) (p:=[some S,R,some (.bl flat),some (.int m),some (uD C t u),some (bN .fin),some (.int (col t:Int))]) (k:="end") (w:="stop") rfl (b:=false) (by decide)
  cases flat with
  |true=>simp [wr] at e
  |false=>
   have e':nlw m=w:=by simpa [wr] using e
   subst e'
   exact⟨_,(aP c).trans ((eX (dJ (sT w0 (fQ g0)))).trans ((eX (dJ (fQ s0))).trans ((eX (dJ (fQ s0))).trans ((bR (zz9 "end" true (by kernel_rfl) rfl)).trans ((aP (bA (pI rfl))).trans (wrote (nl h0 h1 rfl)))))))⟩
 | stop k=>
  have hk:0<=k/\k<=40:=hl
  have w0:=kG (i:=5) (p:=[some S,R,some (.bl flat),some (.int m),some (uD C t u),some (bN (.stop k)),some (.int (col t:Int))]) (k:="stop") (w:="word") rfl (b:=false) (by decide)
  have g0:=kG (i:=5) (p:=[some S,R,some (.bl flat),some (.int m),some (uD C t u),some (bN (.stop k)),some (.int (col t:Int))]) (k:="stop") (w:="gap") rfl (b:=false) (by decide)
  have s0:=kG (i:=5) (p:=[some S,R,some (.bl flat),some (.int m),some (uD C t u),some (bN (.stop k)),some (.int (col t:Int))]) (k:="stop") (w:="stop") rfl (b:=true) (by decide)
  have le:fB (f2 dLe (aA 6) (f2 dIx (aA 5) (fC (.int 1)))) [some S,R,some (.bl flat),some (.int m),some (uD C t u),some (bN (.stop k)),some (.int (col t:Int))]=some (decide ((col t:Int)<=k)):=dI (aO rfl (aO rfl rfl (fN _ _ _)) rfl)
  change (if ((col t:Nat):Int)<=k then some (Txt.mul " " (k-col t)) else if (!flat)=true then some (nlw k) else none)=some w at e
  by_cases z:(col t:Int)<=k
  ·rw [if_pos z] at e
   cases e
   rw [Zn z] at le
   have q:=zt3 (k-col t) (by omega) (by omega)
   exact⟨_,(aP c).trans ((eX (dJ (sT w0 (fQ g0)))).trans ((bR (jG s0 le)).trans (wrote (aO (i0 _) (aO rfl (aO (aO rfl rfl (fN _ _ _)) rfl rfl) q) (add _ (by rw [kN];omega))))))⟩
  ·rw [if_neg z] at e
   rw [Zf z] at le
   cases flat with
   |true=>simp at e
   |false=>
    have e':nlw k=w:=by simpa using e
    subst e'
    exact⟨_,(aP c).trans ((eX (dJ (sT w0 (fQ g0)))).trans ((eX (dJ (jG s0 le))).trans ((bR (jG s0 rfl)).trans (wrote (nl hk.1 (by omega) (aO rfl rfl (fN _ _ _)))))))⟩
theorem xh0{i:Nat}{fi:tz3}{f:tz1}{p p':PSt}{ds:List D}(h:fi p=some ds)(e:dX i f ds p=some (.nx,p')):iQ i fi f p=some (.nx,p'):=by
 unfold iQ
 rw [h];exact e
theorem ya0{f:tz8}{p p':PSt}(h:f p=some (.bl true,p')):wK (fTE f) p=some (false,p'):=by unfold wK fTE;rw [h];rfl
theorem zn0{p:Pc}{k:Nat}{GS:tz7}(hS:S.imm=true)(hG:∀r,depR r<k->okR r->ByR S GS r)(hd:dZ p<=k)(ho:okP p)(hp:∀l,p≠ .leaf l){flat:Bool}{m:Int}{C:List Int}{u:Nat}{t:Str}{cs':List Int}{t':Str}{R x6:Option D}(h0:0<=m)(h1:m+12*dZ p<=200)(hC:C.length<=900)
  (h:cF (!flat) m p (C.drop u) t=some (cs',t')) (hu:u<=C.length) (hf:t.length+201*(cN p).length<=900000):∃u' y6,wT (jK GM GS) [some S,R,some (.bl flat),some (.int m),some (uD C t u),some (pcD p),x6]=some (.nx,[some S,R,some (.bl flat),some (.int m),some (uD C t' u'),some (pcD p),y6])/\C.drop u'=cs'/\u'<=C.length/\t'.length<=t.length+201*(cN p).length:=by
 obtain⟨u',q,e1,e2,e3⟩:=xg9 (GM:=GM) hS hG hd ho hp h0 h1 hC h hu hf
 have c:=yy9 (C:=C) (u:=u) (x0:=some S) (x1:=R) (x2:=some (.bl flat)) (x3:=some (.int m)) (x5:=some (pcD p)) (x6:=x6) (t:=t) (by omega)
 refine⟨u',some (.int (col t:Int)),?_,e1,e2,e3⟩
 have io:fIO [.im (aA 0),.im (aA 5),.im (aA 2),.im (aA 3),.io 4] (jK GM GS) [some S,R,some (.bl flat),some (.int m),some (uD C t u),some (pcD p),some (.int (col t:Int))]=some (.bl true,[some S,R,some (.bl flat),some (.int m),some (uD C t' u'),some (pcD p),some (.int (col t:Int))]):=yA (eB (f:=aA 0) rfl hS (eB (f:=aA 5) rfl (sC p) (eB (f:=aA 2) rfl rfl (eB (f:=aA 3) rfl rfl (uN (j:=4) rfl iY))))) q rfl
 have go:∀(kn:String) (ds:List D),pcD p= .tup (.str kn::ds)->decide (kn="word")=false->decide (kn="gap")=false->decide (kn="stop")=false->dIn (.str kn) (.lst true [.str "gap",.str "end",.str "stop"])=some (.bl false)->wT (jK GM GS) [some S,R,some (.bl flat),some (.int m),some (uD C t u),some (pcD p),x6]=some (.nx,[some S,R,some (.bl flat),some (.int m),some (uD C t' u'),some (pcD p),some (.int (col t:Int))]):=fun kn ds hk a b d e=>by
  have kk:∀(w:String),decide (kn=w)=false->kdT 5 w [some S,R,some (.bl flat),some (.int m),some (uD C t u),some (pcD p),some (.int (col t:Int))]=some false:=fun w hw=>kG (i:=5) (k:=kn) (ds:=ds) (by rw [hk];rfl) hw
  exact(aP c).trans ((eX (dJ (sT (kk _ a) (fQ (kk _ b))))).trans ((eX (dJ (fQ (kk _ d)))).trans ((eX (dJ (fQ (kk _ d)))).trans ((eX (dJ (zz9 kn false e (ds:=ds) (by rw [hk];rfl)))).trans ((eX (ya0 io)).trans rfl)))))
 cases p with
 |leaf l=>exact absurd rfl (hp l)
 |group r=>exact go "group" _ rfl (by decide) (by decide) (by decide) (by kernel_rfl)
 |hang n r=>exact go "hang" _ rfl (by decide) (by decide) (by decide) (by kernel_rfl)
 |either rs=>exact go "either" _ rfl (by decide) (by decide) (by decide) (by kernel_rfl)
theorem yh9{GS:tz7}{k:Nat}{R:Option D}{flat:Bool}{m:Int}{C:List Int}(hS:S.imm=true)(hG:∀r,depR r<k->okR r->ByR S GS r)(h0:0<=m)(hC:C.length<=900):∀(r:List Pc) (u:Nat) (t:Str) (cs':List Int) (t':Str) (x5 x6:Option D),depR r<=k->okR r->m+12*depR r<=200->setR (!flat) m r (C.drop u) t=some (cs',t')->u<=C.length->t.length+201*(toksR r).length<=900000->
  ∃u' y5 y6,dX 5 (wT (jK GM GS)) (pcsD r) [some S,R,some (.bl flat),some (.int m),some (uD C t u),x5,x6]=some (.nx,[some S,R,some (.bl flat),some (.int m),some (uD C t' u'),y5,y6])/\C.drop u'=cs'/\u'<=C.length/\t'.length<=t.length+201*(toksR r).length
 |[],u,t,cs',t',x5,x6,_,_,_,h,hu,_=>by
  rw [setR] at h
  cases h
  exact⟨u,x5,x6,rfl,rfl,hu,ZY _ _⟩
 | p ::r,u,t,cs',t',x5,x6,hd,ho,h1,h,hu,hf=>by
  have htk:(toksR (p::r)).length=(cN p).length+(toksR r).length:=by rw [toksR,Z5]
  rw [htk] at hf|-
  rw [depR] at hd h1
  rw [setR] at h
  cases e:cF (!flat) m p (C.drop u) t with
  |none=>rw [e] at h;cases h
  | some s=>
   obtain⟨c1,t1⟩:=s
   rw [e] at h
   have one:∃u1 y6,wT (jK GM GS) [some S,R,some (.bl flat),some (.int m),some (uD C t u),some (pcD p),x6]=some (.nx,[some S,R,some (.bl flat),some (.int m),some (uD C t1 u1),some (pcD p),y6])/\C.drop u1=c1/\u1<=C.length/\t1.length<=t.length+201*(cN p).length:=by
    cases hp:p with
    | leaf l=>
     subst hp
     rw [cF] at e
     cases ew:wr (!flat) m (col t) l with
     |none=>rw [ew] at e;cases e
     |some w=>
      rw [ew] at e
      cases e
      have h1':m<=200:=by omega
      obtain⟨_,hz⟩:=zJ (l:=l) ho.1 h0 h1' ew
      obtain⟨y6,q⟩:=xr6 (GI:=jK GM GS) (S:=S) (C:=C) (u:=u) (R:=R) (x6:=x6) (l:=l) ho.1 h0 h1' (by omega) ew
      refine⟨u,y6,q,rfl,hu,?_⟩
      rw [dM,show(cN (.leaf l)).length=1 from rfl];omega
    |group r'=>subst hp;exact zn0 hS hG (by omega) ho.1 nofun h0 (by omega) hC e hu (by omega)
    |hang n r'=>subst hp;exact zn0 hS hG (by omega) ho.1 nofun h0 (by omega) hC e hu (by omega)
    |either rs=>subst hp;exact zn0 hS hG (by omega) ho.1 nofun h0 (by omega) hC e hu (by omega)
   obtain⟨u1,y6,q1,g1,g2,g3⟩:=one
   subst g1
   obtain⟨u',z5,z6,q2,k1,k2,k3⟩:=yh9 hS hG h0 hC r u1 t1 cs' t' (some (pcD p)) y6 (by omega) ho.2 (by omega) h g2 (by omega)
   refine⟨u',z5,z6,?_,k1,k2,by omega⟩
   show dX 5 (wT (jK GM GS)) (pcD p::pcsD r) _=_
   rw [dX]
   show((wT (jK GM GS) [some S,R,some (.bl flat),some (.int m),some (uD C t u),some (pcD p),x6]).bind _)=_
   rw [q1]
   exact q2
theorem yi0(hS:S.imm=true):∀(n:Nat) (r:List Pc),depR r<n->okR r->ByR S (wS GM n) r
 |0,_,h,_=>absurd h (Ym _)
 |n+1,r,h,ho=>fun flat m C u t cs' t' h0 h1 hC hs hu hf=>by
  obtain⟨u',y5,y6,q,e1,e2,e3⟩:=yh9 (GM:=GM) (GS:=wS GM n) (R:=some (.tup (pcsD r))) hS (fun r' a b=>yi0 hS n r' a b) h0 hC r u t cs' t' none none (by omega) ho h1 hs hu hf
  refine⟨u',uO rfl ((aP (xh0 rfl q)).trans (cL rfl)) rfl,e1,e2,e3⟩
abbrev gBy(GM:tz6)(n:Nat):tz6:=gP 2 1 (yk0 (wS GM n))
theorem xl1{n:Nat}{r:List Pc}{C:List Int}{t:Str}(hd:depR r<n)(h8:depR r<=16)(ho:okR r)(hl:(toksR r).length<=800)(hC:C.length<=900)(h:setR true 0 r C ⟨#[]⟩=some ([],t)):gBy GM n [.tup (pcsD r),.tup (bE C)]=some (.str t):=by
 obtain⟨u',q,e1,e2,e3⟩:=yi0 (GM:=GM) (S:= .lst false []) rfl n r hd ho false 0 C 0 ⟨#[]⟩ [] t (Yb _) (by omega) hC h (ZL _) (by show 0+_<=_;omega)
 have hu:u'=C.length:=by
  have:=ZM List.length e1
  rw [YS,ZJ] at this
  omega
 subst hu
 have im:=lK C
 have em:uD C ⟨#[]⟩ 0= .lst true [.str "",.lst true [],.tup (bE C),.int 0]:=by
  unfold uD
  rw [show("":Str)=⟨#[]⟩ from by decide+kernel];rfl
 have s1:aV 2 (aH (dA (aC (fC (.str "")) (aC (dA aE) (aC (bB (aA 1)) (aC (fC (.int 0)) aE)))))) [some (.tup (pcsD r)),some (.tup (bE C)),none]=some (.nx,[some (.tup (pcsD r)),some (.tup (bE C)),some (uD C ⟨#[]⟩ 0)]):=by
  rw [em]
  exact bF (gN (aD rfl (aD (d:= .lst true []) rfl (aD (cM (d:= .tup (bE C)) rfl im) (aD rfl rfl)))) (Zd rfl))
 have io:fIO [.im (zu2 (dA aE)),.im (aA 0),.im (fC (.bl false)),.im (fC (.int 0)),.io 2] (wS GM n) [some (.tup (pcsD r)),some (.tup (bE C)),some (uD C ⟨#[]⟩ 0)]=some (.bl true,[some (.tup (pcsD r)),some (.tup (bE C)),some (uD C t C.length)]):=yA (eB (d:= .lst false []) rfl rfl (eB (f:=aA 0) (d:= .tup (pcsD r)) rfl (pcs_imm r) (eB (f:=fC (.bl false)) rfl rfl (eB (f:=fC (.int 0)) rfl rfl (uN (j:=2) rfl iY))))) q rfl
 have ne:fB (f2 dNe (aJ cT (aC (f2 dIx (aA 2) (fC (.int 1))) aE)) (aJ cT (aC (aA 1) aE))) [some (.tup (pcsD r)),some (.tup (bE C)),some (uD C t C.length)]=some false:=dI (aO (x:= .int (C.length:Int)) (y:= .int (C.length:Int)) (aW (aD (aO (x:=uD C t C.length) rfl rfl (fN _ _ _)) rfl) (by show some (D.int ((bE (C.take C.length)).length:Int))=_;rw [nG,List.take_length])) (aW (aD rfl rfl) (by show some (D.int ((bE C).length:Int))=_;rw [nG])) (by show some (D.bl (!decide ((C.length:Int)=C.length)))=_;rw [Zn rfl];rfl))
 have s2:fIf (zu5 (wK (fTE (fIO [.im (zu2 (dA aE)),.im (aA 0),.im (fC (.bl false)),.im (fC (.int 0)),.io 2] (wS GM n)))) (fB (f2 dNe (aJ cT (aC (f2 dIx (aA 2) (fC (.int 1))) aE)) (aJ cT (aC (aA 1) aE))))) (bS (aH (fC .non))) bK [some (.tup (pcsD r)),some (.tup (bE C)),some (uD C ⟨#[]⟩ 0)]=some (.nx,[some (.tup (pcsD r)),some (.tup (bE C)),some (uD C t C.length)]):=by
  refine(eX (p':=[some (.tup (pcsD r)),some (.tup (bE C)),some (uD C t C.length)]) ?_).trans rfl
  unfold zu5
  rw [ya0 io,Z3]
  simp only [ZH,Yg]
  rw [ne];rfl
 exact kF rfl ((aP s1).trans ((aP s2).trans (cL (cM (aO (x:=uD C t C.length) rfl rfl (lH _ _)) rfl))))
end
def lns(t:Str):List Str:=Txt.split t ⟨#[10]⟩
theorem zg6(t:Str):lns t≠[]:=fun z=>by
 have:=split_pos t ⟨#[10]⟩
 rw [show Txt.split t ⟨#[10]⟩=[] from z] at this
 exact absurd this (by decide)
theorem vS(t:Str):∀p∈lns t,(10:Nat)∉p.cps.toList:=StrLaws.split_free _ 10
theorem oZ(t:Str):Str.join ⟨#[10]⟩ (lns t)=t:=StrLaws.join_split _ _
theorem ya1{t:Str}{ys:List Str}(hne:ys≠[])(hy:∀p∈ys,(10:Nat)∉p.cps.toList)(e:Str.join ⟨#[10]⟩ ys=t):lns t=ys:=
 zz0 _ _ (zg6 t) hne (vS t) hy ((oZ t).trans e.symm)
theorem xh1(t:Str):∃xs y,lns t=xs++[y]:=⟨(lns t).dropLast,(lns t).getLast (zg6 t),(List.dropLast_concat_getLast _).symm⟩
theorem pU:∀(x:Str) (xs:List Str) (y:Str),Str.join ⟨#[10]⟩ (x::xs++[y])=Str.join ⟨#[10]⟩ (x::xs)++((⟨#[10]⟩:Str)++y)
 |x,[],y=>rJ (by rw [ZQ,Yk,lI,bY,bY];rfl)
 |x,x'::xs,y=>rJ (by
  rw [ZQ,ZQ,lI,bY,lI,<-ZQ,pU x' xs y,bY]
  simp [bY])
theorem yz0:∀(xs:List Str) (y w:Str),Str.join ⟨#[10]⟩ (xs++[y++w])=Str.join ⟨#[10]⟩ (xs++[y])++w
 |[],y,w=>rfl
 |x::xs,y,w=>rJ (by
  rw [pU,pU]
  simp [bY])
theorem yi1{t w y:Str}{xs:List Str}(h:lns t=xs++[y])(hw:(10:Nat)∉w.cps.toList):lns (t++w)=xs++[y++w]:=by
 have hf:=vS t
 rw [h] at hf
 refine ya1 (by simp) (fun p hp=> ?_) (by rw [yz0,<-h,oZ])
 rcases Zq.mp hp with z|z
 ·exact hf p (Zm _ z)
 ·rw [Zc.mp z,bY]
  exact fun m=>(Zq.mp m).elim (hf y (by simp)) hw
theorem yz1{t w:Str}(hw:(10:Nat)∉w.cps.toList):lns (t++((⟨#[10]⟩:Str)++w))=lns t++[w]:=by
 obtain⟨x,xs,h⟩:=List.exists_cons_of_ne_nil (zg6 t)
 refine ya1 (by simp) (fun p hp=> ?_) ?_
 ·rcases Zq.mp hp with z|z
  ·exact vS t p z
  ·rw [Zc.mp z];exact hw
 ·rw [h,pU,<-h,oZ]
theorem ya2{t y:Str}{xs:List Str}(h:lns t=xs++[y]):col t=y.length:=by
 have hf:=vS t
 rw [h] at hf
 have hy:=hf y (by simp)
 cases xs with
 |nil=>
  have e:y=t:=by have:=oZ t;rw [h] at this;exact this
  have:=zm4 (t:=⟨#[]⟩) hy
  rw [yh6] at this
  rw [<-e,this]
  show 0+_=_
  omega
 |cons x xs=>
  have:=oZ t
  rw [h,pU] at this
  rw [<-this,zz2 hy]
def zd7(W:Int)(ls:List Str):Int:=(ls.map fun l=>(W-(l.length:Int))*(W-(l.length:Int))).sum
def kC(W:Int)(t:Str)(k:Nat)(ln rg:Int):Prop:=∃xs y,lns t=xs++[y]/\(∀l∈xs++[y],((l:Str).length:Int)<=W)/\k=y.length/\ln=(xs.length:Int)+1/\rg=zd7 W xs
theorem kC.col{W:Int}{t:Str}{k:Nat}{ln rg:Int}(h:kC W t k ln rg):My.col t=k:=by
 obtain⟨xs,y,h1,_,h3,_⟩:=h
 rw [ya2 h1,h3]
theorem zc9{W:Int}(h:0<=W):kC W ⟨#[]⟩ 0 1 0:=⟨[],⟨#[]⟩,ya1 (by simp) (fun p hp=>by rw [Zc.mp hp];simp) rfl,fun l hl=>by
 rw [Yk] at hl
 rw [Zc.mp hl];exact h,rfl,rfl,rfl⟩
theorem xh2{W:Int}{t w:Str}{k:Nat}{ln rg:Int}(h:kC W t k ln rg)(hw:(10:Nat)∉w.cps.toList)(hk:((k+w.length:Nat):Int)<=W):kC W (t++w) (k+w.length) ln rg:=by
 obtain⟨xs,y,h1,h2,h3,h4,h5⟩:=h
 refine⟨xs,y++w,yi1 h1 hw,fun l hl=> ?_,by rw [dM,h3],h4,h5⟩
 rcases Zq.mp hl with z|z
 ·exact h2 l (Zm _ z)
 ·rw [Zc.mp z,dM,<-h3];exact hk
theorem yi2{W:Int}{t:Str}{k:Nat}{ln rg m:Int}(h:kC W t k ln rg)(h0:0<=m)(hm:m<=W):kC W (t++nlw m) m.toNat (ln+1) (rg+(W-(k:Int))*(W-(k:Int))):=by
 obtain⟨xs,y,h1,h2,h3,h4,h5⟩:=h
 refine⟨xs++[y],Txt.mul " " m,?_,fun l hl=> ?_,by rw [kN],by rw [Z5,h4];simp,?_⟩
 ·unfold nlw
  rw [yz1 (zg3 m),h1]
 ·rcases Zq.mp hl with z|z
  ·exact h2 l z
  ·rw [Zc.mp z,kN];omega
 ·unfold zd7
  rw [Y4,List.sum_append,h5,h3]
  simp [zd7]
abbrev Way:=(Int×Int)×List Int
abbrev Frt:=List (Nat×Way)
def ltW(x y:Way):Bool:=L2.yN [[x.1.1,x.1.2],x.2] [[y.1.1,y.1.2],y.2]
def mP:Frt->Nat->Option Way
 |[],_=>none
 |p::F,j=>if p.1=j then some p.2 else mP F j
def lU:Frt->Nat->Way->Frt
 |[],_,_=>[]
 |p::F,j,y=>(if p.1=j then(p.1,y) else p)::lU F j y
def gT(F:Frt)(k:Nat)(x:Way):Frt:=match mP F k with
 |none=>F++[(k,x)]
 |some y=>if ltW x y=true then lU F k x else F
def jL(F G:Frt):Frt:=G.foldl (fun F p=>gT F p.1 p.2) F
def yd3(n:Int)(p:Nat×Way):Nat×Way:=(p.1,(p.2.1,p.2.2++[n]))
def kD(F:Frt)(n:Int):Frt:=jL [] (F.map (yd3 n))
def lfB(w:Str):Bool:=decide (w.cps.toList[0]? =some 10)
def iW(W:Int)(b:Bool)(m:Int)(l:Leaf)(k:Nat)(c:Int×Int):Option (Nat×(Int×Int)):=(wr b m k l).bind fun w=>
 if W<((if lfB w=true then w.length-1 else k+w.length:Nat):Int) then none
 else some (if lfB w=true then w.length-1 else k+w.length,if lfB w=true then(c.1+1,c.2+(W-(k:Int))*(W-(k:Int))) else c)
def jM(W:Int)(b:Bool)(m:Int)(l:Leaf)(F G:Frt):Frt:=F.foldl (fun G p=>match iW W b m l p.1 p.2.1 with
 |none=>G
 |some s=>gT G s.1 (s.2,p.2.2)) G
def frW(GR:Bool->Int->List Pc->Frt->Frt)(tk:Bool)(F:Frt):Nat->List (List Pc×Bool×Int)->Frt->Frt
 |_,[],A=>A
 |n,x::xs,A=>frW GR tk F (n+1) xs (jL A (GR x.2.1 x.2.2 x.1 (if tk=true then kD F n else F)))
def frP(W:Int)(GR:Bool->Int->List Pc->Frt->Frt)(b:Bool)(m:Int)(F:Frt):Pc->Frt
 | .leaf l=>jM W b m l F []
 |p=>frW GR (cR b p) F 0 (cJ b m p) []
def frN(W:Int):Nat->Bool->Int->List Pc->Frt->Frt
 |0,_,_,_,F=>F
 |n+1,b,m,r,F=>r.foldl (fun F p=>frP W (frN W n) b m F p) F
def Hit(W:Int)(R:List Int->Str->Prop)(p:Nat×Way):Prop:=∃t,R p.2.2 t/\kC W t p.1 p.2.1.1 p.2.1.2
structure Good(W:Int)(R:List Int->Str->Prop)(F:Frt):Prop where
 nd:(F.map (·.1)).Nodup
 hit:∀p∈F,Hit W R p
theorem Good.nil{W:Int}{R:List Int->Str->Prop}:Good W R []:=⟨Zi,fun _ h=>nomatch h⟩
theorem Good.mono{W:Int}{R R':List Int->Str->Prop}{F:Frt}(h:Good W R F)(k:∀c t,R c t->R' c t):Good W R' F:=⟨h.nd,fun p hp=>by
 obtain⟨t,h1,h2⟩:=h.hit p hp
 exact⟨t,k _ _ h1,h2⟩⟩
theorem yC:∀{F:Frt} {k:Nat},mP F k=none->k∉F.map (·.1)
 |[],_,_=>by simp
 | p::F,k,h=>by
  rw [mP] at h
  by_cases e:p.1=k
  ·rw [if_pos e] at h;cases h
  ·rw [if_neg e] at h
   simp only [Z8,Z6,not_or]
   exact⟨fun z=>e z.symm,yC h⟩
theorem sX:∀(F:Frt) (k:Nat) (y:Way),(lU F k y).map (·.1)=F.map (·.1)
 |[],_,_=>rfl
 |p::F,k,y=>by
  rw [lU,Z8,Z8,sX F]
  by_cases e:p.1=k
  ·rw [if_pos e]
  ·rw [if_neg e]
theorem ya3:∀{F:Frt} {k:Nat} {y:Way} {p:Nat×Way},p∈lU F k y->p=(k,y)\/p∈F
 |[],_,_,_,h=>by cases h
 | q::F,k,y,p,h=>by
  rw [lU] at h
  rcases Z6.mp h with e|e
  ·by_cases z:q.1=k
   ·rw [if_pos z,z] at e;exact .inl e
   ·rw [if_neg z] at e;exact .inr (by rw [e];exact Z0)
  ·exact(ya3 e).imp id (Z1 _)
theorem zq9{W:Int}{R:List Int->Str->Prop}{F:Frt}{k:Nat}{x:Way}(h:Good W R F)(hx:Hit W R (k,x)):Good W R (gT F k x):=by
 unfold gT
 cases e:mP F k with
 | none=>
  simp only
  refine⟨?_,fun p hp=> ?_⟩
  ·rw [Y4,Zz]
   refine⟨h.nd,by simp,fun a ha b hb z=> ?_⟩
   simp only [Z8,Xk,Zc] at hb
   subst hb
   subst z
   exact yC e ha
  ·rcases Zq.mp hp with z|z
   ·exact h.hit p z
   ·rw [Zc.mp z];exact hx
 | some y=>
  simp only
  by_cases c:ltW x y=true
  ·rw [if_pos c]
   refine⟨by rw [sX];exact h.nd,fun p hp=> ?_⟩
   rcases ya3 hp with z|z
   ·rw [z];exact hx
   ·exact h.hit p z
  ·rw [if_neg c];exact h
theorem tY{W:Int}{R:List Int->Str->Prop}:∀{G F:Frt},Good W R F->(∀p∈G,Hit W R p)->Good W R (jL F G)
 |[],F,h,_=>h
 |p::G,F,h,hG=>tY (G:=G) (zq9 h (hG p Z0)) fun q hq=>hG q (Z1 _ hq)
def zu6(R:List Int->Str->Prop)(n:Int):List Int->Str->Prop:=fun cs t=>∃c0,R c0 t/\cs=c0++[n]
theorem vT{W:Int}{R:List Int->Str->Prop}{F:Frt}(h:Good W R F)(n:Int):Good W (zu6 R n) (kD F n):=tY .nil fun p hp=>by
 obtain⟨q,hq,rfl⟩:=YC.mp hp
 obtain⟨t,h1,h2⟩:=h.hit q hq
 exact⟨t,⟨_,h1,rfl⟩,h2⟩
def Aft(R:List Int->Str->Prop)(set:List Int->Str->Option (List Int×Str)):List Int->Str->Prop:=fun cs t=>∃c0 t0 c1,R c0 t0/\cs=c0++c1/\set c1 t0=some ([],t)
theorem yz2(m:Int):lfB (nlw m)=true:=by
 unfold lfB nlw
 rw [bY]
 exact Zn rfl
theorem xl2{w:Str}(h:(10:Nat)∉w.cps.toList):lfB w=false:=by
 unfold lfB
 refine Zf fun e=>h (ZG e)
theorem yi3(m:Int):(nlw m).length-1=m.toNat:=by
 unfold nlw
 rw [dM,kN]
 show 1+m.toNat-1=_
 omega
theorem xh3{W:Int}{b:Bool}{m:Int}{l:Leaf}{k:Nat}{c:Int×Int}{s:Nat×(Int×Int)}{t:Str}(hl:fR l)(h0:0<=m)(h1:m<=200)(hc:kC W t k c.1 c.2)(h:iW W b m l k c=some s):∃w,wr b m (col t) l=some w/\kC W (t++w) s.1 s.2.1 s.2.2:=by
 unfold iW at h
 rw [hc.col]
 cases e:wr b m k l with
 |none=>rw [e] at h;cases h
 | some w=>
  rw [e,Z3] at h
  refine⟨w,rfl,?_⟩
  rcases(zJ hl h0 h1 e).1 with hw|⟨m',hw⟩
  ·rw [xl2 hw] at h
   simp only [ZH,Yg] at h
   by_cases z:W<((k+w.length:Nat):Int)
   ·rw [if_pos z] at h;cases h
   ·rw [if_neg z] at h
    cases h
    exact xh2 hc hw (by omega)
  ·subst hw
   rw [yz2] at h
   simp only [ZS] at h
   rw [yi3] at h
   by_cases z:W<((m'.toNat:Nat):Int)
   ·rw [if_pos z] at h;cases h
   ·rw [if_neg z] at h
    cases h
    by_cases hm:0<=m'
    ·exact yi2 hc hm (by omega)
    ·have e0:nlw m'=nlw 0:=by unfold nlw;rw [rJ (x:=Txt.mul " " m') (y:=Txt.mul " " 0) (by rw [vO,vO];congr 1;omega)]
     have:=yi2 hc (m:=0) (Yb _) (by omega)
     rw [e0,show m'.toNat=(0:Int).toNat by omega]
     exact this
theorem zg7{W:Int}{R:List Int->Str->Prop}{b:Bool}{m:Int}{l:Leaf}(hl:fR l)(h0:0<=m)(h1:m<=200):∀{F G:Frt},(∀p∈F,Hit W R p)->Good W (Aft R (cF b m (.leaf l))) G->Good W (Aft R (cF b m (.leaf l))) (jM W b m l F G)
 |[],G,_,hG=>hG
 | p::F,G,hF,hG=>by
  have key:Good W (Aft R (cF b m (.leaf l))) (match iW W b m l p.1 p.2.1 with|none=>G|some s=>gT G s.1 (s.2,p.2.2)):=by
   cases e:iW W b m l p.1 p.2.1 with
   |none=>exact hG
   |some s=>
    obtain⟨t,r1,r2⟩:=hF p Z0
    obtain⟨w,e1,e2⟩:=xh3 hl h0 h1 r2 e
    exact zq9 (x:=(s.2,p.2.2)) hG ⟨t++w,⟨_,t,[],r1,by simp,by rw [cF,e1];rfl⟩,e2⟩
  exact zg7 (F:=F) hl h0 h1 (fun q hq=>hF q (Z1 _ hq)) key
theorem xr7{b:Bool}{m:Int}{p:Pc}{i:Nat}{x:List Pc×Bool×Int}(hx:(cJ b m p)[i]? =some x)(c:List Int)(t:Str):cF b m p ((if cR b p=true then [(i:Int)] else [])++c) t=setR x.2.1 x.2.2 x.1 c t:=by
 cases p with
 |leaf l=>simp [cJ] at hx
 | group r=>
  rw [cF.eq_def]
  cases b with
  | false=>
   have e:i=0:=by
    cases i with
    |zero=>rfl
    |succ i=>simp [cJ] at hx
   subst e
   simp [cJ] at hx
   subst hx
   simp [cR]
  |true=>
   match i,hx with
   |0,hx=>simp [cJ] at hx;subst hx;simp [cR]
   |1,hx=>simp [cJ] at hx;subst hx;simp [cR]
   |i+2,hx=>simp [cJ] at hx
 | hang n r=>
  have e:i=0:=by
   cases i with
   |zero=>rfl
   |succ i=>simp [cJ] at hx
  subst e
  simp [cJ] at hx
  subst hx
  simp [cR,cF]
 |either rs=>
  have hx':(rs.map fun r=>(r,b,m))[i]? =some x:=hx
  rw [Zb] at hx'
  obtain⟨r,hr,rfl⟩:=Zo.mp hx'
  rw [cF.eq_def]
  simp only [cR,ZS,ZQ,Yk]
  rw [if_pos (by omega)]
  exact pS (by simpa using hr)
def pG(W:Int)(GR:Bool->Int->List Pc->Frt->Frt)(r:List Pc):Prop:=∀(b:Bool) (m:Int) (R:List Int->Str->Prop) (F:Frt),0<=m->m+12*depR r<=200->Good W R F->Good W (Aft R (setR b m r)) (GR b m r F)
theorem zr0{W:Int}{GR:Bool->Int->List Pc->Frt->Frt}{R:List Int->Str->Prop}{b:Bool}{m:Int}{p:Pc}{F:Frt}(hF:Good W R F):∀(xs:List (List Pc×Bool×Int)) (n:Nat) (A:Frt),(∀(i:Nat) x,xs[i]? =some x->(cJ b m p)[n+i]? =some x)->(∀x∈xs,0<=x.2.2/\x.2.2+12*depR x.1<=200/\pG W GR x.1)->
  Good W (Aft R (cF b m p)) A->Good W (Aft R (cF b m p)) (frW GR (cR b p) F n xs A)
 |[],n,A,_,_,hA=>hA
 | x::xs,n,A,hi,hx,hA=>by
  rw [frW]
  refine zr0 hF xs (n+1) _ (fun i y hy=>by have:=hi (i+1) y (by simpa using hy);rwa [show n+1+i=n+(i+1) by omega]) (fun y hy=>hx y (Z1 _ hy)) (tY hA ?_)
  obtain⟨h0,h1,hG⟩:=hx x Z0
  have hw:=fun c t=>xr7 (hi 0 x rfl) c t
  rw [Xm] at hw
  by_cases tk:cR b p=true
  ·rw [if_pos tk]
   simp only [tk,ZS] at hw
   intro q hq
   obtain⟨t,⟨c0,t0,c1,⟨c,r1,rfl⟩,e1,e2⟩,hc⟩:=(hG x.2.1 x.2.2 _ _ h0 h1 (vT hF n)).hit q hq
   exact⟨t,⟨c,t0,n::c1,r1,by rw [e1];simp,by rw [<-e2,<-hw];rfl⟩,hc⟩
  ·rw [if_neg tk]
   simp only [tk,ZH,Yg,Yk] at hw
   intro q hq
   obtain⟨t,⟨c0,t0,c1,r1,e1,e2⟩,hc⟩:=(hG x.2.1 x.2.2 _ _ h0 h1 hF).hit q hq
   exact⟨t,⟨c0,t0,c1,r1,e1,by rw [<-e2,<-hw]⟩,hc⟩
theorem zd0{b:Bool}{m:Int}{p:Pc}{x:List Pc×Bool×Int}{k:Nat}(ho:okP p)(h0:0<=m)(h1:m+12*dZ p<=200)(hk:dZ p<=k)(hx:x∈cJ b m p):0<=x.2.2/\x.2.2+12*depR x.1<=200/\depR x.1<k/\okR x.1:=by
 cases p with
 |leaf l=>simp [cJ] at hx
 | group r=>
  rw [dZ] at h1 hk
  have hr:okR r:=ho
  have:x.1=r/\x.2.2=m:=by
   cases b<;>simp [cJ] at hx
   ·subst hx;exact⟨rfl,rfl⟩
   ·rcases hx with e|e<;>subst e<;>exact⟨rfl,rfl⟩
  rw [this.1,this.2]
  exact⟨h0,by omega,by omega,hr⟩
 |hang n r=>
  rw [dZ] at h1 hk
  have hr:(0<=n/\n<=12)/\okR r:=ho
  simp [cJ] at hx
  subst hx
  exact⟨by show 0<=m+n;omega,by show m+n+12*(depR r:Int)<=200;omega,by show depR r<k;omega,hr.2⟩
 |either rs=>
  rw [dZ] at h1 hk
  have hr:(2<=rs.length/\rs.length<=4)/\okRs rs:=ho
  obtain⟨r,hm,rfl⟩:=YC.mp (show x∈rs.map fun r=>(r,b,m) from hx)
  obtain⟨i,hi⟩:=X6 hm
  have:=sW hi
  exact⟨h0,by show m+12*(depR r:Int)<=200;omega,by show depR r<k;omega,vR hr.2 hi⟩
theorem vU{W:Int}{GR:Bool->Int->List Pc->Frt->Frt}{k:Nat}(hG:∀r,depR r<k->okR r->pG W GR r){R:List Int->Str->Prop}{b:Bool}{m:Int}{p:Pc}{F:Frt}(hk:dZ p<=k)(ho:okP p)(h0:0<=m)(h1:m+12*dZ p<=200)(hF:Good W R F):Good W (Aft R (cF b m p)) (frP W GR b m F p):=by
 have hold:Good W (Aft R (cF b m p)) (frW GR (cR b p) F 0 (cJ b m p) []):=zr0 hF _ 0 [] (fun i x h=>by rwa [YA]) (fun x hx=>by
  obtain⟨a1,a2,a3,a4⟩:=zd0 ho h0 h1 hk hx
  exact⟨a1,a2,hG x.1 a3 a4⟩) .nil
 cases p with
 |leaf l=>exact zg7 ho h0 (by rw [dZ] at h1;omega) hF.hit .nil
 |group r=>exact hold
 |hang n r=>exact hold
 |either rs=>exact hold
theorem zr1{W:Int}{GR:Bool->Int->List Pc->Frt->Frt}{k:Nat}(hG:∀r,depR r<k->okR r->pG W GR r){b:Bool}{m:Int}(h0:0<=m):∀{r:List Pc} {R:List Int->Str->Prop} {F:Frt},depR r<=k->okR r->m+12*depR r<=200->Good W R F->Good W (Aft R (setR b m r)) (r.foldl (fun F p=>frP W GR b m F p) F)
 |[],R,F,_,_,_,hF=>hF.mono fun c t h=>⟨c,t,[],h,by simp,by rw [setR]⟩
 |p::r,R,F,hk,ho,h1,hF=>by
  rw [depR] at hk h1
  have hp:=vU hG (b:=b) (show dZ p<=k by omega) ho.1 h0 (by omega) hF
  refine(zr1 hG h0 (r:=r) (by omega) ho.2 (by omega) hp).mono fun c t=> ?_
  rintro⟨c0,t0,c2,⟨d0,s0,c1,r1,rfl,e1⟩,rfl,e2⟩
  refine⟨d0,s0,c1++c2,r1,by simp,?_⟩
  rw [setR,sU c2 e1]
  exact e2
theorem vV{W:Int}:∀(n:Nat) (r:List Pc),depR r<n->okR r->pG W (frN W n) r
 |0,_,h,_=>absurd h (Ym _)
 |n+1,r,h,ho=>fun b m R F h0 h1 hF=>by
  rw [frN]
  exact zr1 (fun q h1 h2=>vV n q h1 h2) h0 (by omega) ho h1 hF
theorem yo1{W:Int}{n:Nat}{r:List Pc}(hW:0<=W)(hd:depR r<n)(ho:okR r)(h1:12*(depR r:Int)<=200):Good W (fun cs t=>setR true 0 r cs ⟨#[]⟩=some ([],t)) (frN W n true 0 r [(0,((1,0),[]))]):=by
 have g0:Good W (fun cs t=>cs=[]/\t=⟨#[]⟩) [(0,((1,0),[]))]:=⟨by simp,fun p hp=>by
  rw [Zc.mp hp];exact⟨_,⟨rfl,rfl⟩,zc9 hW⟩⟩
 refine(vV n r hd ho true 0 _ _ (Yb _) (by omega) g0).mono fun c t=> ?_
 rintro⟨c0,t0,c1,⟨rfl,rfl⟩,rfl,e⟩
 exact e
abbrev nsF:List Str:=["steps","best"]
def bV(W:Int):D:= .obj false "WithinWidth" ["width"] [.int W]
def wyD(x:Way):D:= .tup [.tup [.int x.1.1,.int x.1.2],.tup (bE x.2)]
def eY(F:Frt):List Key:=F.map fun p=> .inl (p.1:Int)
def fP(F:Frt):List D:=F.map fun p=>wyD p.2
def aI(o:Bool)(W:Int)(F:Frt):D:= .obj o "Front" nsF [bV W,.dic o (eY F) (fP F)]
theorem sG(x:Way):(wyD x).imm=true:=by
 have:=lK x.2
 simp! [kO,kR,D.key,rD,pK,rC,wyD,this]
theorem sH:∀F:Frt,D.imms (fP F)=true
 |[]=>rfl
 |p::F=>by
  show(D.imm (wyD p.2)&&D.imms (fP F))=true
  rw [sG,sH F];rfl
theorem yD(W:Int)(F:Frt):(aI false W F).imm=true:=by
 have:=sH F
 simp! [kO,kR,D.key,rD,pK,rC,aI,bV,this]
theorem xh4(F:Frt):(eY F).length=F.length:=Zh _
theorem vW:∀(F:Frt) (k:Nat),oC (eY F) (fP F) (.inl (k:Int))=(mP F k).map wyD
 |[],_=>rfl
 |p::F,k=>by
  show oC (.inl (p.1:Int)::eY F) (wyD p.2::fP F) _=_
  rw [oC,mP]
  by_cases e:p.1=k
  ·rw [if_pos e,if_pos (by rw [e])];rfl
  ·rw [if_neg e,if_neg (fun z=>e (by have:=W7 z;omega)),vW F k]
theorem zg8:∀(F:Frt) (k:Nat) (x:Way),wL (eY F) (fP F) (.inl (k:Int)) (wyD x)=fP (lU F k x)
 |[],_,_=>rfl
 |p::F,k,x=>by
  show wL (.inl (p.1:Int)::eY F) (wyD p.2::fP F) _ _=_
  rw [wL,zg8 F,lU]
  by_cases e:p.1=k
  ·rw [if_pos e,if_pos (by rw [e])];rfl
  ·rw [if_neg e,if_neg (fun z=>e (by have:=W7 z;omega))];rfl
theorem yz3(F:Frt)(k:Nat)(x:Way):eY (lU F k x)=eY F:=by
 unfold eY
 have:=ZM (List.map fun(k:Nat)=>(Sum.inl (k:Int):Key)) (sX F k x)
 rw [YB,YB] at this
 exact this
theorem xr8(x y:Way):yc3 (wyD x) (wyD y)=some (.bl (ltW x y)):=by
 unfold wyD yc3 ltW
 simp! [kO,kR,D.key,rD,pK,rC,D.intss,D.ints,zg5]
abbrev lV:tz7:=gE 2 0 (bD [true,false]) qM
theorem xx9(W:Int):lV [.obj true "Front" [] [],bV W]=some (.non,[aI true W [],bV W]):=by
 have e:aI true W []= .obj true "Front" nsF [bV W,.dic true [] []]:=rfl
 have h:(bV W).imm=true:=rfl
 rw [e]
 generalize bV W=w at h|-
 simp! [kO,kR,D.key,rD,pK,rC,qM,h]
theorem vX{p:PSt}{f:tz2}{W:Int}(h:f p=some (bV W)):eP "Front" (cA [.im f]) lV p=some (aI true W []):=by
 have hi:(bV W).imm=true:=rfl
 have i:=xx9 W
 generalize lV=G at i|-
 generalize aI true W []=X at i|-
 generalize bV W=w at h hi i|-
 unfold eP
 rw [eB h hi iY,Z3,i]
 rfl
abbrev mZ:tz7:=gE 3 0 (bD [true,false,false]) lS
theorem xy0{W:Int}{F:Frt}{k:Nat}{x:Way}(hl:F.length<=900):mZ [aI true W F,.int (k:Int),wyD x]=some (.non,[aI true W (gT F k x),.int (k:Int),wyD x]):=by
 have g:=vW F k
 have hx:=sG x
 have hv:=sH F
 have hz:(eY F).length<sizeLine:=by rw [xh4];exact sz1 (by omega)
 unfold gT
 cases e:mP F k with
 | none=>
  rw [e] at g
  have e1:aI true W (F++[(k,x)])= .obj true "Front" nsF [bV W,.dic true (eY F++[.inl (k:Int)]) (fP F++[wyD x])]:=by
   unfold aI eY fP
   rw [Y4,Y4];rfl
  simp only
  rw [e1]
  unfold aI
  generalize eY F=ks at*
  generalize fP F=vs at*
  generalize wyD x=X at*
  generalize bV W=w at*
  simp only [Option.map_none] at g
  simp! [kO,kR,D.key,rD,pK,rC,lS,g,hx,hv,hz]
 | some y=>
  rw [e] at g
  have l:=xr8 x y
  have pv:=zg8 F k x
  have ks:=yz3 F k x
  simp only [Option.map_some] at g
  by_cases c:ltW x y=true
  ·rw [c] at l
   simp only [c,ZS]
   have e1:aI true W (lU F k x)= .obj true "Front" nsF [bV W,.dic true (eY F) (fP (lU F k x))]:=by unfold aI;rw [ks]
   rw [e1,<-pv]
   unfold aI
   generalize eY F=ks at*
   generalize fP F=vs at*
   generalize wyD x=X at*
   generalize wyD y=Y at*
   generalize bV W=w at*
   simp! [kO,kR,D.key,rD,pK,rC,lS,g,hx,hv,hz,l]
  ·rw [Xt] at c
   rw [c] at l
   simp only [c,ZH,Yg]
   unfold aI
   generalize eY F=ks at*
   generalize fP F=vs at*
   generalize wyD x=X at*
   generalize wyD y=Y at*
   generalize bV W=w at*
   simp! [kO,kR,D.key,rD,pK,rC,lS,g,hx,hv,hz,l]
theorem yz4{g:tz7}{m:Str}{W:Int}{F:Frt}{ys:List D}{N v:D}(hm:cI nsF m=none)(h:g (aI true W F::ys)=some (v,N::ys)):dS "Front" m g ys (aI true W F)=some (v,N):=by
 show(if (("Front":Str)="Front"/\cI nsF m=none) then(g (aI true W F::ys)).bind _ else none)=_
 rw [if_pos ⟨rfl,hm⟩,h]
 show(if ys.length=ys.length then some (v,N) else none)=_
 rw [if_pos rfl]
theorem ya4:∀(F:Frt) (k:Nat) (x:Way),(lU F k x).length=F.length
 |[],_,_=>rfl
 |p::F,k,x=>by rw [lU,Z4,Z4,ya4 F]
theorem vY(F:Frt)(k:Nat)(x:Way):(gT F k x).length<=F.length+1:=by
 unfold gT
 cases mP F k with
 |none=>simp
 |some y=>
  simp only
  split
  ·rw [ya4];omega
  ·omega
theorem zg9:∀(G F:Frt),(jL F G).length<=F.length+G.length
 |[],F=>Za _
 |p::G,F=>by
  have h1:=zg9 G (gT F p.1 p.2)
  have h2:=vY F p.1 p.2
  show(jL (gT F p.1 p.2) G).length<=_
  rw [Z4];omega
theorem vZ:∀{F:Frt} {p:Nat×Way},(F.map (·.1)).Nodup->p∈F->mP F p.1=some p.2
 |[],_,_,h=>by cases h
 | q::F,p,nd,h=>by
  rw [Z8,Zs] at nd
  rw [mP]
  rcases Z6.mp h with e|e
  ·rw [e,if_pos rfl]
  ·rw [if_neg (fun z=>nd.1 (by rw [z];exact Yz e))]
   exact vZ nd.2 e
theorem zd1{p:PSt}{f:tz2}{o:Bool}{W:Int}{F:Frt}(h:f p=some (aI o W F)):cD "Front" "best" f p=some (.dic o (eY F) (fP F)):=by
 unfold cD
 rw [h,Z3]
 unfold aI
 generalize bV W=w
 simp [yc2,cI,fL]
theorem sY{p:PSt}{f:tz2}{o:Bool}{W:Int}{F:Frt}(h:f p=some (aI o W F)):cD "Front" "steps" f p=some (bV W):=by
 unfold cD
 rw [h,Z3]
 unfold aI
 generalize bV W=w
 simp [yc2,cI,fL]
def zj0(F:Frt):List D:=F.map fun q=> .int (q.1:Int)
theorem yz5(F:Frt):(eY F).map yp8=zj0 F:=by
 unfold eY zj0
 rw [YB];rfl
theorem xr9(F:Frt):(D.dic false (eY F) (fP F)).imm=true:=by
 have:=sH F
 simp [D.imm,this]
theorem zn1{p:PSt}{f:tz2}{W:Int}{F:Frt}(h:f p=some (aI false W F)):uY (bB (cD "Front" "best" f)) p=some (zj0 F):=by
 unfold uY
 rw [cM (zd1 h) (xr9 F),Z3,<-yz5];rfl
theorem ya5{p:PSt}{f g:tz2}{W:Int}{F:Frt}{k:Nat}{x:Way}(h:f p=some (aI false W F))(hg:g p=some (.int (k:Int)))(hx:mP F k=some x):f2 kR (cD "Front" "best" f) g p=some (wyD x):=by
 refine aO (zd1 h) hg ?_
 show(some (Sum.inl (k:Int):Key)).bind _=_
 rw [Z3,vW,hx];rfl
theorem yi4{j:Nat}{g:tz3}{h:List D->D->Option (D×D)}{p:PSt}{d0 d0' r:D}{ys:List D}(h0:p[j]? =some (some d0))(hg:g p=some ys)(hh:h ys d0=some (r,d0')):dH j bH g h p=some (r,p.set j (some d0')):=by
 unfold dH bH
 rw [h0]
 simp only [YT,Z3,hg,fO,hh]
theorem zP{j:Nat}{p:PSt}{f g:tz2}{W:Int}{F:Frt}{k:Nat}{x:Way}(h0:p[j]? =some (some (aI true W F)))(hf:f p=some (.int (k:Int)))(hg:g p=some (wyD x))(hl:F.length<=900):
  cY (dH j bH (cA [.im f,.im g]) (dS "Front" "add" mZ)) p=some (.nx,p.set j (some (aI true W (gT F k x)))):=
 sD (yi4 h0 (eB hf rfl (eB hg (sG x) iY)) (yz4 (by simp [cI,fL]) (xy0 hl)))
theorem zQ{i N:Nat}{f:tz1}(S:Nat->Frt->PSt->Prop)(st:Frt->Nat×Way->Frt):∀{L:Frt} {p:PSt} {n:Nat} {A:Frt},n+L.length<=N->S n A p->(∀n A p q,n<N->q∈L->S n A p->∃p',f (p.set i (some (.int (q.1:Int))))=some (.nx,p')/\S (n+1) (st A q) p')->∃p',dX i f (zj0 L) p=some (.nx,p')/\S (n+L.length) (L.foldl st A) p'
 |[],p,n,A,_,h,_=>⟨p,rfl,h⟩
 |q::L,p,n,A,hn,h,hs=>by
  rw [Z4] at hn
  obtain⟨p1,e1,h1⟩:=hs n A p q (by omega) Z0 h
  obtain⟨p2,e2,h2⟩:=zQ S st (L:=L) (n:=n+1) (by omega) h1 fun n A p r h1 hr=>hs n A p r h1 (Z1 _ hr)
  refine⟨p2,?_,by rw [Z4,show n+(L.length+1)=n+1+L.length by omega];exact h2⟩
  show dX i f (.int (q.1:Int)::zj0 L) p=_
  rw [dX,e1]
  exact e2
theorem zR{i:Nat}{fi:tz3}{f:tz1}{p p':PSt}{ds:List D}(h:fi p=some ds)(e:dX i f ds p=some (.nx,p')):iQ i fi f p=some (.nx,p'):=by
 unfold iQ
 rw [h];exact e
abbrev yq1:tz7:=gE 2 1 (bD [true,false]) (kA mZ)
theorem xy1{W:Int}{F G:Frt}(nd:(G.map (·.1)).Nodup)(hl:F.length+G.length<=800):yq1 [aI true W F,aI false W G]=some (.non,[aI true W (jL F G),aI false W G]):=by
 obtain⟨p',e,_,z,rfl⟩:=zQ (i:=2) (N:=G.length) (f:=cY (dH 0 bH (cA [.im (aA 2),.im (f2 kR (cD "Front" "best" (aA 1)) (aA 2))]) (dS "Front" "add" mZ)))
  (fun n A p=>A.length<=F.length+n/\∃z,p=[some (aI true W A),some (aI false W G),z]) (fun A q=>gT A q.1 q.2) (L:=G) (p:=[some (aI true W F),some (aI false W G),none]) (n:=0) (A:=F) (by omega) ⟨Za _,none,rfl⟩
  (by
   rintro n A p q hn hq ⟨hA,z,rfl⟩
   refine⟨_,zP (j:=0) (F:=A) (W:=W) (k:=q.1) (x:=q.2) rfl rfl (ya5 (F:=G) (W:=W) rfl rfl (vZ nd hq)) (by omega),?_,_,rfl⟩
   have:=vY A q.1 q.2
   omega)
 have e2:=zR (i:=2) (zn1 (f:=aA 1) (W:=W) (F:=G) (p:=[some (aI true W F),some (aI false W G),none]) rfl) e
 show gE 2 1 _ (kA mZ) _=_
 have e3:kA mZ ([aI true W F,aI false W G].map some++List.replicate 1 none)=some (.nx,[some (aI true W (jL F G)),some (aI false W G),z]):=e2
 unfold gE
 rw [if_pos (show [aI true W F,aI false W G].length=2 from rfl),e3]
 rfl
theorem jT{np n:Nat}{f:tz1}{ds:List D}{d:D}(hl:ds.length=np)(h:∃q,f (ds.map some++List.replicate n none)=some (.ret d,q)):gP np n f ds=some d:=h.elim fun _ e=>kF hl e
theorem zh0{f g:tz1}{p:PSt}{d:D}(h:∃q,f p=some (.ret d,q)):∃q,aS f g p=some (.ret d,q):=h.elim fun q e=>⟨q,eJ e⟩
theorem yo2(F:Frt)(n:Int):kD F n=F.foldl (fun A q=>gT A q.1 (q.2.1,q.2.2++[n])) []:=by
 unfold kD jL
 rw [List.foldl_map];rfl
theorem yi5{p:PSt}{i:Nat}{x:Way}(h:p[i]? =some (some (wyD x))):f2 dIx (aA i) (fC (.int 0)) p=some (.tup [.int x.1.1,.int x.1.2]):=aO (mD h) rfl (lH _ _)
theorem yi6{p:PSt}{i:Nat}{x:Way}(h:p[i]? =some (some (wyD x))):f2 dIx (aA i) (fC (.int 1)) p=some (.tup (bE x.2)):=aO (mD h) rfl (fN _ _ _)
theorem zd2{p:PSt}{f g:tz2}{x:Way}(h1:f p=some (.tup [.int x.1.1,.int x.1.2]))(h2:g p=some (.tup (bE x.2))):cZ (aC f (aC g aE)) p=some (wyD x):=
 fE (aD h1 (aD h2 rfl)) (sG x) (by simp)
theorem xh5{p:PSt}{i j:Nat}{x:Way}{n:Int}(h:p[i]? =some (some (wyD x)))(hn:p[j]? =some (some (.int n)))(hl:x.2.length<=900):cZ (aC (bB (f2 dIx (aA i) (fC (.int 0)))) (aC (f2 cE (f2 dIx (aA i) (fC (.int 1))) (cZ (aC (bB (aA j)) aE))) aE)) p=some (wyD (x.1,x.2++[n])):=by
 refine zd2 (x:=(x.1,x.2++[n])) (cM (yi5 (x:=x) h) rfl) (aO (yi6 (x:=x) h) (fE (aD (cM (mD hn) rfl) rfl) rfl (by simp)) ?_)
 show(if (bE x.2).length+[D.int n].length<=sizeLine then some (D.tup (bE x.2++[.int n])) else none)=_
 rw [if_pos (by rw [nG];exact sz (by show x.2.length+1<=1000;omega)),zq8];rfl
abbrev zj1:tz6:=gP 2 3 (sJ lV mZ)
theorem xh6{W:Int}{F:Frt}{n:Int}(nd:(F.map (·.1)).Nodup)(hl:F.length<=800)(hc:∀q∈F,q.2.2.length<=900):zj1 [aI false W F,.int n]=some (aI true W (kD F n)):=by
 have s1:aV 2 (aH (eP "Front" (cA [.im (cD "Front" "steps" (aA 0))]) lV)) [some (aI false W F),some (.int n),none,none,none]=some (.nx,[some (aI false W F),some (.int n),some (aI true W []),none,none]):=bF (vX (sY (f:=aA 0) (F:=F) rfl))
 obtain⟨p',e,_,y,z,rfl⟩:=zQ (i:=3) (N:=F.length) (f:=aS (aV 4 (aH (bB (f2 kR (cD "Front" "best" (aA 0)) (aA 3))))) (cY (dH 2 bH (cA [.im (aA 3),.im (cZ (aC (bB (f2 dIx (aA 4) (fC (.int 0)))) (aC (f2 cE (f2 dIx (aA 4) (fC (.int 1))) (cZ (aC (bB (aA 1)) aE))) aE)))]) (dS "Front" "add" mZ))))
  (fun k A p=>A.length<=k/\∃y z,p=[some (aI false W F),some (.int n),some (aI true W A),y,z]) (fun A q=>gT A q.1 (q.2.1,q.2.2++[n])) (L:=F) (p:=[some (aI false W F),some (.int n),some (aI true W []),none,none]) (n:=0) (A:=[]) (by omega) ⟨Za _,none,none,rfl⟩
  (by
   rintro k A p q hk hq ⟨hA,y,z,rfl⟩
   refine⟨_,(aP (bF (cM (ya5 (F:=F) (W:=W) (k:=q.1) rfl rfl (vZ nd hq)) (sG q.2)))).trans (zP (j:=2) (F:=A) (W:=W) (k:=q.1) (x:=(q.2.1,q.2.2++[n])) rfl rfl (xh5 rfl rfl (hc q hq)) (by omega)),?_,_,_,rfl⟩
   have:=vY A q.1 (q.2.1,q.2.2++[n])
   omega)
 refine jT rfl (dG s1 (dG (zR (i:=3) (zn1 (f:=aA 0) (W:=W) (F:=F) rfl) e) ?_))
 rw [yo2]
 exact⟨_,rfl⟩
theorem yz6{i j:Int}(h1: -100000<=i)(h2:i<=100000):L2.pV i j=true:=by
 unfold L2.pV
 rw [Zn (show-(2^64)<i by omega),Zn (show i<2^64 by omega)];rfl
abbrev xj8:tz6:=gP 2 0 nI
theorem zr2{p:PSt}{f:tz2}{W:Int}(h:f p=some (bV W)):cD "WithinWidth" "width" f p=some (.int W):=by
 unfold cD
 rw [h,Z3]
 simp [bV,yc2,cI]
theorem xy2{W:Int}{k:Nat}(hW0:0<=W)(hW:W<=40)(hk:k<=1000):xj8 [bV W,.int (k:Int)]=some (.int ((W-k)*(W-k))):=by
 have e:f2 gF (cD "WithinWidth" "width" (aA 0)) (aA 1) [some (bV W),some (.int (k:Int))]=some (.int (W-k)):=aO (zr2 rfl) rfl rfl
 exact kF (p:=[some (bV W),some (.int (k:Int))]) rfl (cL (aO e e (if_pos (yz6 (by omega) (by omega)))))
theorem xh7(k:Nat)(w:Str)(hz:w.length<=1000):pF [.int (k:Int),.str w]=some (.int ((if lfB w=true then w.length-1 else k+w.length:Nat):Int)):=by
 have q:=zm6 w
 have hs:w.length<=sizeLine:=sz hz
 show gP 2 0 (dW rF) _=_
 unfold lfB
 generalize rF=G at q|-
 by_cases c:w.cps.toList[0]? =some 10
 ·rw [Zn c] at q|-
  have h1:1<=w.length:=by
   rw [lJ]
   have:=(Z2.mp c).1
   omega
  rw [if_pos rfl,show((w.length-1:Nat):Int)=(w.length:Int)-1 by omega]
  simp! [dW,q,hs]
 ·rw [Zf c] at q|-
  rw [if_neg Z7]
  simp! [dW,q,hs]
def zu7:Option (Nat×(Int×Int))->D
 |none=> .non
 |some s=> .tup [.int (s.1:Int),.tup [.int s.2.1,.int s.2.2]]
abbrev zu8:tz6:=gP 5 2 (jP pE pF rF xj8)
theorem xs0{W:Int}{b:Bool}{m:Int}{l:Leaf}{k:Nat}{c:Int×Int}(hW0:0<=W)(hW1:W<=40)(hl:fR l)(h0:0<=m)(h1:m<=200)(hk:k<=1000):zu8 [bV W,.int (k:Int),.tup [.int c.1,.int c.2],bN l,aK b m]=some (zu7 (iW W b m l k c)):=by
 have q1:=zg4 l b m k hl h0 h1 (by omega)
 have s1:∀P5 P6,aV 5 (aH (aJ pE (aC (aA 3) (aC (aA 4) (aC (aA 1) aE))))) [some (bV W),some (.int (k:Int)),some (.tup [.int c.1,.int c.2]),some (bN l),some (aK b m),P5,P6]=some (.nx,[some (bV W),some (.int (k:Int)),some (.tup [.int c.1,.int c.2]),some (bN l),some (aK b m),some (wrD (wr b m k l)),P6]):=fun _ _=>bF (aW (aD rfl (aD rfl (aD rfl rfl))) q1)
 unfold iW
 cases e:wr b m k l with
 |none=>
  rw [e] at s1
  exact jT rfl (dG (s1 none none) (zh0 ⟨_,(bR (dI (aO rfl rfl rfl))).trans (cL rfl)⟩))
 | some w=>
  rw [e] at s1
  obtain⟨_,hz⟩:=zJ hl h0 h1 e
  have q2:=xh7 k w (by omega)
  have q3:=zm6 w
  have q4:=xy2 hW0 hW1 hk
  rw [Z3]
  generalize hK:(if lfB w=true then w.length-1 else k+w.length:Nat)=K at q2|-
  have s2:∀P6,fIf (aT (fB (f2 dIs (aA 5) (fC .non)))) (bS (aH (fC .non))) bK [some (bV W),some (.int (k:Int)),some (.tup [.int c.1,.int c.2]),some (bN l),some (aK b m),some (.str w),P6]=some (.nx,[some (bV W),some (.int (k:Int)),some (.tup [.int c.1,.int c.2]),some (bN l),some (aK b m),some (.str w),P6]):=fun _=>bA (dI (aO rfl rfl rfl))
  have s3:aV 6 (aH (aJ pF (aC (aA 1) (aC (aA 5) aE)))) [some (bV W),some (.int (k:Int)),some (.tup [.int c.1,.int c.2]),some (bN l),some (aK b m),some (.str w),none]=some (.nx,[some (bV W),some (.int (k:Int)),some (.tup [.int c.1,.int c.2]),some (bN l),some (aK b m),some (.str w),some (.int (K:Int))]):=bF (aW (aD rfl (aD rfl rfl)) q2)
  refine jT rfl (dG (s1 none none) (dG (s2 none) (dG s3 ?_)))
  ·have c1:fB (f2 dGt (aA 6) (cD "WithinWidth" "width" (aA 0))) [some (bV W),some (.int (k:Int)),some (.tup [.int c.1,.int c.2]),some (bN l),some (aK b m),some (.str w),some (.int (K:Int))]=some (decide (W<(K:Int))):=dI (aO rfl (zr2 rfl) rfl)
   by_cases hW:W<(K:Int)
   ·rw [if_pos hW]
    rw [Zn hW] at c1
    exact zh0 ⟨_,(bR c1).trans (cL rfl)⟩
   ·rw [if_neg hW]
    rw [Zf hW] at c1
    refine dG (bA c1) ?_
    have c2:fT (aJ rF (aC (aA 5) aE)) [some (bV W),some (.int (k:Int)),some (.tup [.int c.1,.int c.2]),some (bN l),some (aK b m),some (.str w),some (.int (K:Int))]=some (lfB w):=pI (aW (aD rfl rfl) q3)
    have x0:f2 dIx (aA 2) (fC (.int 0)) [some (bV W),some (.int (k:Int)),some (.tup [.int c.1,.int c.2]),some (bN l),some (aK b m),some (.str w),some (.int (K:Int))]=some (.int c.1):=aO rfl rfl (lH _ _)
    have x1:f2 dIx (aA 2) (fC (.int 1)) [some (bV W),some (.int (k:Int)),some (.tup [.int c.1,.int c.2]),some (bN l),some (aK b m),some (.str w),some (.int (K:Int))]=some (.int c.2):=aO rfl rfl (fN _ _ _)
    cases lf:lfB w with
    | true=>
     rw [lf] at c2
     have x2:pW "WithinWidth" "rag_of" (aA 0) [some (bV W),some (.int (k:Int)),some (.tup [.int c.1,.int c.2]),some (bN l),some (aK b m),some (.str w),some (.int (K:Int))]=some (bV W):=by
      show zV "WithinWidth" "rag_of" (bV W)=_
      unfold zV bV
      exact if_pos ⟨rfl,by simp [cI,fL]⟩
     have x3:=aW (h:=xj8) (aD x2 (aD (f:=aA 1) (g:=aE) (d:= .int (k:Int)) rfl rfl)) q4
     refine zh0 ⟨_,(bR c2).trans (cL (fE (aD (cM rfl rfl) (aD (fE (aD (aO x0 rfl rfl) (aD (aO x1 x3 rfl) rfl)) rfl (by simp)) rfl)) rfl (by simp)))⟩
    |false=>
     rw [lf] at c2
     exact dG (bA c2) ⟨_,cL (fE (aD (cM rfl rfl) (aD (cM rfl rfl) rfl)) rfl (by simp))⟩
abbrev za1:tz6:=gP 3 4 (qP lV zu8 mZ)
theorem yz7{W:Int}{F:Frt}{b:Bool}{m:Int}{l:Leaf}(hW0:0<=W)(hW1:W<=40)(hl:fR l)(h0:0<=m)(h1:m<=200)(nd:(F.map (·.1)).Nodup)(hF:F.length<=800)(hk:∀q∈F,q.1<=1000):
  za1 [aI false W F,bN l,aK b m]=some (aI true W (jM W b m l F [])):=by
 have s1:aV 3 (aH (eP "Front" (cA [.im (cD "Front" "steps" (aA 0))]) lV)) [some (aI false W F),some (bN l),some (aK b m),none,none,none,none]=some (.nx,[some (aI false W F),some (bN l),some (aK b m),some (aI true W []),none,none,none]):=bF (vX (sY (f:=aA 0) (F:=F) rfl))
 obtain⟨p',e,_,x,y,z,rfl⟩:=zQ (i:=4) (N:=F.length) (f:=aS (aV 5 (aH (bB (f2 kR (cD "Front" "best" (aA 0)) (aA 4)))))
  (aS (aV 6 (aH (aJ zu8 (aC (pW "WithinWidth" "state_behind" (cD "Front" "steps" (aA 0))) (aC (aA 4) (aC (f2 dIx (aA 5) (fC (.int 0))) (aC (aA 1) (aC (aA 2) aE))))))))
  (fIf (aT (fB (f2 mS (aA 6) (fC .non)))) (cY (dH 3 bH (cA [.im (f2 dIx (aA 6) (fC (.int 0))),.im (cZ (aC (bB (f2 dIx (aA 6) (fC (.int 1)))) (aC (bB (f2 dIx (aA 5) (fC (.int 1)))) aE)))]) (dS "Front" "add" mZ))) bK)))
  (fun k A p=>A.length<=k/\∃x y z,p=[some (aI false W F),some (bN l),some (aK b m),some (aI true W A),x,y,z]) (fun G p=>match iW W b m l p.1 p.2.1 with
   |none=>G
   |some s=>gT G s.1 (s.2,p.2.2)) (L:=F) (p:=[some (aI false W F),some (bN l),some (aK b m),some (aI true W []),none,none,none]) (n:=0) (A:=[]) (by omega) ⟨Za _,none,none,none,rfl⟩
  (by
   rintro k A p q hn hq ⟨hA,x,y,z,rfl⟩
   have t1:aV 5 (aH (bB (f2 kR (cD "Front" "best" (aA 0)) (aA 4)))) [some (aI false W F),some (bN l),some (aK b m),some (aI true W A),some (.int (q.1:Int)),y,z]=some (.nx,[some (aI false W F),some (bN l),some (aK b m),some (aI true W A),some (.int (q.1:Int)),some (wyD q.2),z]):=bF (cM (ya5 (F:=F) (W:=W) (k:=q.1) rfl rfl (vZ nd hq)) (sG q.2))
   have r1:pW "WithinWidth" "state_behind" (cD "Front" "steps" (aA 0)) [some (aI false W F),some (bN l),some (aK b m),some (aI true W A),some (.int (q.1:Int)),some (wyD q.2),z]=some (bV W):=by
    unfold pW
    rw [sY (f:=aA 0) (o:=false) (W:=W) (F:=F) rfl,Z3]
    unfold zV bV
    exact if_pos ⟨rfl,by simp [cI,fL]⟩
   have t2:aV 6 (aH (aJ zu8 (aC (pW "WithinWidth" "state_behind" (cD "Front" "steps" (aA 0))) (aC (aA 4) (aC (f2 dIx (aA 5) (fC (.int 0))) (aC (aA 1) (aC (aA 2) aE))))))) [some (aI false W F),some (bN l),some (aK b m),some (aI true W A),some (.int (q.1:Int)),some (wyD q.2),z]=some (.nx,[some (aI false W F),some (bN l),some (aK b m),some (aI true W A),some (.int (q.1:Int)),some (wyD q.2),some (zu7 (iW W b m l q.1 q.2.1))]):=
    bF (aW (aD r1 (aD rfl (aD (yi5 rfl) (aD rfl (aD rfl rfl))))) (xs0 hW0 hW1 hl h0 h1 (hk q hq)))
   cases es:iW W b m l q.1 q.2.1 with
   |none=>
    rw [es] at t2
    exact⟨_,(aP t1).trans ((aP t2).trans (bA (dI (aO rfl rfl rfl)))),Wk hA,_,_,_,rfl⟩
   |some s=>
    rw [es] at t2
    have w0:f2 dIx (aA 6) (fC (.int 0)) [some (aI false W F),some (bN l),some (aK b m),some (aI true W A),some (.int (q.1:Int)),some (wyD q.2),some (zu7 (some s))]=some (.int (s.1:Int)):=aO rfl rfl (lH _ _)
    have w1:f2 dIx (aA 6) (fC (.int 1)) [some (aI false W F),some (bN l),some (aK b m),some (aI true W A),some (.int (q.1:Int)),some (wyD q.2),some (zu7 (some s))]=some (.tup [.int s.2.1,.int s.2.2]):=aO rfl rfl (fN _ _ _)
    refine⟨_,(aP t1).trans ((aP t2).trans ((bR (dI (aO rfl rfl rfl))).trans (zP (j:=3) (F:=A) (W:=W) (k:=s.1) (x:=(s.2,q.2.2)) rfl w0 (zd2 (x:=(s.2,q.2.2)) (cM w1 rfl) (cM (yi6 (x:=q.2) rfl) (lK q.2.2))) (by omega)))),?_,_,_,_,rfl⟩
    have:=vY A s.1 (s.2,q.2.2)
    show(gT A s.1 (s.2,q.2.2)).length<=_
    omega)
 exact jT rfl (dG s1 (dG (zR (i:=4) (zn1 (f:=aA 0) (W:=W) (F:=F) rfl) e) ⟨_,rfl⟩))
mutual
theorem ya6:∀{p:Pc} {b:Bool} {m:Int} {cs cs':List Int} {t t':Str},cF b m p cs t=some (cs',t')->cs.length<=cs'.length+(cN p).length
 | .leaf l,b,m,cs,cs',t,t',h=>by
  rw [cF] at h
  cases e:wr b m (col t) l with
  |none=>rw [e] at h;cases h
  |some w=>rw [e] at h;cases h;omega
 | .group r,b,m,cs,cs',t,t',h=>by
  rw [cF.eq_def] at h
  simp only at h
  have hl:(cN (.group r)).length=(toksR r).length+2:=by simp [cN]
  cases b with
  |false=>
   simp only [ZH,Yg] at h
   have:=setR_len h
   omega
  | true=>
   cases cs with
   |nil=>simp at h
   | cons c cs=>
    simp only [ZS] at h
    rw [Z4]
    by_cases c0:c=0
    ·simp only [c0,ZS] at h;have:=setR_len h;omega
    ·by_cases c1:c=1
     ·simp only [c1,ZS] at h;have:=setR_len h;omega
     ·simp [c0,c1] at h
 | .hang n r,b,m,cs,cs',t,t',h=>by
  rw [cF] at h
  have hl:(cN (.hang n r)).length=(toksR r).length+2:=by simp [cN]
  have:=setR_len h
  omega
 | .either rs,b,m,cs,cs',t,t',h=>by
  rw [cF.eq_def] at h
  have hl:(cN (.either rs)).length=(toksRows rs).length+2:=by simp [cN]
  cases cs with
  |nil=>cases h
  |cons c cs=>
   simp only at h
   rw [Z4]
   by_cases c0:0<=c
   ·simp only [c0,ZS] at h;have:=setAt_len h;omega
   ·simp [c0] at h
theorem setR_len:∀{r:List Pc} {b:Bool} {m:Int} {cs cs':List Int} {t t':Str},setR b m r cs t=some (cs',t')->cs.length<=cs'.length+(toksR r).length
 |[],b,m,cs,cs',t,t',h=>by rw [setR] at h;cases h;omega
 | p::r,b,m,cs,cs',t,t',h=>by
  rw [setR] at h
  cases e:cF b m p cs t with
  |none=>rw [e] at h;cases h
  |some s=>
   obtain⟨c1,t1⟩:=s
   rw [e] at h
   have h1:=ya6 e
   have h2:=setR_len (cs:=c1) (t:=t1) h
   rw [toksR,Z5]
   omega
theorem setAt_len:∀{rs:List (List Pc)} {i:Nat} {b:Bool} {m:Int} {cs cs':List Int} {t t':Str},setAt b m rs i cs t=some (cs',t')->cs.length<=cs'.length+(toksRows rs).length
 |[],i,b,m,cs,cs',t,t',h=>by rw [setAt] at h;cases h
 |r::rs,0,b,m,cs,cs',t,t',h=>by
  rw [setAt] at h
  have:=setR_len h
  rw [toksRows,Z5]
  omega
 | r::rs,i+1,b,m,cs,cs',t,t',h=>by
  rw [setAt] at h
  have h1:=setAt_len h
  rw [toksRows,Z5]
  cases rs with
  |nil=>rw [setAt] at h;cases h
  |cons q qs=>
   rw [toksRows,Z5] at h1
   rw [toksMore,Z4,Z5]
   omega
end
def Few(N:Nat)(R:List Int->Str->Prop):Prop:=∀c t,R c t->c.length<=N
theorem xh8{N:Nat}{R:List Int->Str->Prop}{b:Bool}{m:Int}{p:Pc}(h:Few N R):Few (N+(cN p).length) (Aft R (cF b m p)):=by
 rintro c t ⟨c0,t0,c1,r,rfl,e⟩
 have h1:=h c0 t0 r
 have h2:=ya6 e
 rw [ZJ] at h2
 rw [Z5];omega
theorem yz8{N:Nat}{R:List Int->Str->Prop}{n:Int}(h:Few N R):Few (N+1) (zu6 R n):=by
 rintro c t ⟨c0,r,rfl⟩
 have:=h c0 t r
 rw [Z5]
 show c0.length+1<=_
 omega
theorem ya7:∀{n:Nat} {l:List Nat},l.Nodup->(∀x∈l,x<n)->l.length<=n
 |0,l,_,h=>by
  cases l with
  |nil=>exact Za _
  |cons a l=>exact absurd (h a Z0) (Ym _)
 | n+1,l,nd,h=>by
  have h2:=ya7 (n:=n) (nd.erase n) fun x hx=>by
   have h3:=h x (List.mem_of_mem_erase hx)
   have h4:x≠n:=fun z=>by
    rw [z] at hx
    exact absurd hx nd.not_mem_erase
   omega
  by_cases hm:n∈l
  ·rw [List.length_erase_of_mem hm] at h2;omega
  ·rw [List.erase_of_not_mem hm] at h2;omega
theorem Good.key{W:Int}{R:List Int->Str->Prop}{F:Frt}(h:Good W R F)(hW:W<=40){q:Nat×Way}(hq:q∈F):q.1<=40:=by
 obtain⟨t,_,xs,y,_,h2,h3,_⟩:=h.hit q hq
 have:=h2 y (by simp)
 omega
theorem Good.len{W:Int}{R:List Int->Str->Prop}{F:Frt}(h:Good W R F)(hW:W<=40):F.length<=41:=by
 have:=ya7 (n:=41) h.nd fun x hx=>by
  obtain⟨q,hq,rfl⟩:=YC.mp hx
  have:=h.key hW hq
  omega
 rwa [Zh] at this
theorem Good.few{W:Int}{R:List Int->Str->Prop}{F:Frt}{N:Nat}(h:Good W R F)(hN:Few N R){q:Nat×Way}(hq:q∈F):q.2.2.length<=N:=by
 obtain⟨t,r,_⟩:=h.hit q hq
 exact hN _ _ r
theorem yz9(W:Int)(F:Frt):yp9 (aI true W F)=some (aI false W F):=by
 have h:=sH F
 unfold aI yp9
 exact if_pos ⟨rfl,h⟩
theorem uP{f:tz2}{p:PSt}{W:Int}{F:Frt}(h:f p=some (aI true W F)):jX f p=some (aI false W F):=by
 unfold jX
 rw [h,Z3,yz9]
abbrev qG(GR:tz6):tz6:=gP 3 4 (pX lV tM lT zj1 yq1 GR)
def zu9(GR:tz6):tz1:=aS (aV 6 (aH (bB (aA 0))))
 (aS (fIf (aT (fT (aJ lT (aC (aA 1) (aC (aA 2) aE))))) (aV 6 (aH (jX (aJ zj1 (aC (aA 0) (aC (aA 4) aE)))))) bK)
 (cY (dH 3 bH (cA [.im (aJ GR (aC (aA 6) (aC (f2 dIx (aA 5) (fC (.int 0))) (aC (f2 dIx (aA 5) (fC (.int 1))) aE))))]) (dS "Front" "add_all" yq1))))
theorem xa0{GR:tz6}{W:Int}{F A Z:Frt}{p:Pc}{b:Bool}{m:Int}{n:Nat}{x:List Pc×Bool×Int}{y:Option D}(hp:mW p=true)(nd:(F.map (·.1)).Nodup)(hF:F.length<=41)(hc:∀q∈F,q.2.2.length<=900)
  (hG:GR [aI false W (if cR b p=true then kD F n else F),.tup (pcsD x.1),aK x.2.1 x.2.2]=some (aI false W Z)) (ndZ:(Z.map (·.1)).Nodup) (hZ:A.length+Z.length<=800):
  ∃z,zu9 GR [some (aI false W F),some (pcD p),some (aK b m),some (aI true W A),some (.int (n:Int)),some (dU x),y]=some (.nx,[some (aI false W F),some (pcD p),some (aK b m),some (aI true W (jL A Z)),some (.int (n:Int)),some (dU x),z]):=by
 have t1:aV 6 (aH (bB (aA 0))) [some (aI false W F),some (pcD p),some (aK b m),some (aI true W A),some (.int (n:Int)),some (dU x),y]=some (.nx,[some (aI false W F),some (pcD p),some (aK b m),some (aI true W A),some (.int (n:Int)),some (dU x),some (aI false W F)]):=bF (cM rfl (yD W F))
 have q2:=zz3 p b m hp
 have c2:fT (aJ lT (aC (aA 1) (aC (aA 2) aE))) [some (aI false W F),some (pcD p),some (aK b m),some (aI true W A),some (.int (n:Int)),some (dU x),some (aI false W F)]=some (cR b p):=pI (aW (aD rfl (aD rfl rfl)) q2)
 have t2:fIf (aT (fT (aJ lT (aC (aA 1) (aC (aA 2) aE))))) (aV 6 (aH (jX (aJ zj1 (aC (aA 0) (aC (aA 4) aE)))))) bK [some (aI false W F),some (pcD p),some (aK b m),some (aI true W A),some (.int (n:Int)),some (dU x),some (aI false W F)]=some (.nx,[some (aI false W F),some (pcD p),some (aK b m),some (aI true W A),some (.int (n:Int)),some (dU x),some (aI false W (if cR b p=true then kD F n else F))]):=by
  cases tk:cR b p with
  |true=>
   rw [tk] at c2
   exact(bR c2).trans (bF (uP (aW (aD rfl (aD rfl rfl)) (xh6 nd (by omega) hc))))
  |false=>
   rw [tk] at c2
   exact bA c2
 generalize (if cR b p=true then kD F n else F)=F' at hG t2
 have x0:f2 dIx (aA 5) (fC (.int 0)) [some (aI false W F),some (pcD p),some (aK b m),some (aI true W A),some (.int (n:Int)),some (dU x),some (aI false W F')]=some (.tup (pcsD x.1)):=aO rfl rfl (lH _ _)
 have x1:f2 dIx (aA 5) (fC (.int 1)) [some (aI false W F),some (pcD p),some (aK b m),some (aI true W A),some (.int (n:Int)),some (dU x),some (aI false W F')]=some (aK x.2.1 x.2.2):=aO rfl rfl (fN _ _ _)
 have x2:=aW (h:=GR) (aD (f:=aA 6) (d:=aI false W F') rfl (aD x0 (aD (g:=aE) x1 rfl))) hG
 exact⟨_,(aP t1).trans ((aP t2).trans (sD (yi4 (j:=3) rfl (eB x2 (yD W Z) iY) (yz4 (by simp [cI,fL]) (xy1 ndZ hZ)))))⟩
theorem zr3{GR:tz6}{GA:Bool->Int->List Pc->Frt->Frt}{W:Int}{F:Frt}{p:Pc}{b:Bool}{m:Int}(hp:mW p=true)(nd:(F.map (·.1)).Nodup)(hF:F.length<=41)(hc:∀q∈F,q.2.2.length<=900):∀(xs:List (List Pc×Bool×Int)) (n:Nat) (A:Frt) (y4 y5 y6:Option D),
  (∀(i:Nat) x,xs[i]? =some x->∃Z,Z=GA x.2.1 x.2.2 x.1 (if cR b p=true then kD F (n+i:Nat) else F)/\GR [aI false W (if cR b p=true then kD F (n+i:Nat) else F),.tup (pcsD x.1),aK x.2.1 x.2.2]=some (aI false W Z)/\(Z.map (·.1)).Nodup/\Z.length<=41)->A.length+41*xs.length<=400->
  ∃z4 z5 z6,mT [4,5] (zu9 GR) (mG n (xs.map dU)) [some (aI false W F),some (pcD p),some (aK b m),some (aI true W A),y4,y5,y6]=some (.nx,[some (aI false W F),some (pcD p),some (aK b m),some (aI true W (frW GA (cR b p) F n xs A)),z4,z5,z6])
 |[],n,A,y4,y5,y6,_,_=>⟨y4,y5,y6,rfl⟩
 | x::xs,n,A,y4,y5,y6,hG,hA=>by
  rw [Z4] at hA
  obtain⟨Z,e1,e2,e3,e4⟩:=hG 0 x rfl
  rw [Xm] at e1 e2
  obtain⟨z,t⟩:=xa0 (m:=m) (A:=A) (y:=y6) hp nd hF hc e2 e3 (by omega)
  have hl:=zg9 Z A
  obtain⟨z4,z5,z6,ih⟩:=zr3 (m:=m) hp nd hF hc xs (n+1) (jL A Z) (some (.int (n:Int))) (some (dU x)) z (fun i y hy=>by
   have:=hG (i+1) y (by simpa using hy)
   rwa [show n+(i+1)=n+1+i by omega] at this) (by omega)
  refine⟨z4,z5,z6,?_⟩
  rw [Z8,mG,mT]
  show(some [D.int (n:Int),dU x]).bind _=_
  rw [Z3,if_pos (show [D.int (n:Int),dU x].length=[4,5].length from rfl)]
  show(zu9 GR [some (aI false W F),some (pcD p),some (aK b m),some (aI true W A),some (.int (n:Int)),some (dU x),y6]).bind _=_
  rw [frW,<-e1]
  rw [t,Z3]
  exact ih
theorem xh9{GR:tz6}{GA:Bool->Int->List Pc->Frt->Frt}{W:Int}{F:Frt}{p:Pc}{b:Bool}{m:Int}(hp:mW p=true)(ho:okP p)(nd:(F.map (·.1)).Nodup)(hF:F.length<=41)(hc:∀q∈F,q.2.2.length<=900)
  (hG:∀(i:Nat) x,(cJ b m p)[i]? =some x->∃Z,Z=GA x.2.1 x.2.2 x.1 (if cR b p=true then kD F i else F)/\GR [aI false W (if cR b p=true then kD F i else F),.tup (pcsD x.1),aK x.2.1 x.2.2]=some (aI false W Z)/\(Z.map (·.1)).Nodup/\Z.length<=41):
  qG GR [aI false W F,pcD p,aK b m]=some (aI true W (frW GA (cR b p) F 0 (cJ b m p) [])):=by
 have h4:(cJ b m p).length<=4:=by
  cases p with
  |leaf l=>simp [cJ]
  |group r=>cases b<;>simp [cJ]
  |hang k r=>simp [cJ]
  |either rs=>have:=ho.1.2;simpa [cJ] using this
 have hn:za0 p<=1000:=by
  cases p with
  |either rs=>have:=ho.1.2;show rs.length<=1000;omega
  |_=>exact ZL _
 have q1:=yh5 p b m hp hn
 have him:D.imms ((cJ b m p).map dU)=true:=by
  generalize cJ b m p=xs
  induction xs with
  |nil=>rfl
  |cons x xs ih=>
   show(D.imm (dU x)&&D.imms (xs.map dU))=true
   rw [zK,ih];rfl
 have s1:aV 3 (aH (eP "Front" (cA [.im (cD "Front" "steps" (aA 0))]) lV)) [some (aI false W F),some (pcD p),some (aK b m),none,none,none,none]=some (.nx,[some (aI false W F),some (pcD p),some (aK b m),some (aI true W []),none,none,none]):=bF (vX (sY (f:=aA 0) (F:=F) rfl))
 obtain⟨z4,z5,z6,e⟩:=zr3 (m:=m) hp nd hF hc (cJ b m p) 0 [] none none none (fun i x hx=>by rw [YA];exact hG i x hx) (by show 0+_<=_;omega)
 have s2:zu0 [4,5] (zu3 (aJ tM (aC (aA 1) (aC (aA 2) aE)))) (zu9 GR) [some (aI false W F),some (pcD p),some (aK b m),some (aI true W []),none,none,none]=some (.nx,[some (aI false W F),some (pcD p),some (aK b m),some (aI true W (frW GA (cR b p) F 0 (cJ b m p) [])),z4,z5,z6]):=by
  unfold zu0 zu3
  rw [aW (h:=tM) (aD (f:=aA 1) (d:=pcD p) rfl (aD (f:=aA 2) (d:=aK b m) (g:=aE) rfl rfl)) q1,Z3]
  show((if D.imms ((cJ b m p).map dU)=true then some ((cJ b m p).map dU) else none).map (mG 0)).bind _=_
  rw [if_pos him]
  exact e
 exact jT rfl (dG s1 (dG s2 ⟨_,rfl⟩))
def wU:Nat->tz6
 |0=>fun _=>none
 |n+1=>gP 3 2 (oI kJ (qG (wU n)) za1)
def yU(GH:tz6):tz1:=fIf (aT (fT (aJ kJ (aC (aA 4) aE))))
 (aV 3 (aH (jX (aJ GH (aC (aA 3) (aC (aA 4) (aC (aA 2) aE)))))))
 (aV 3 (aH (jX (aJ za1 (aC (aA 3) (aC (aA 4) (aC (aA 2) aE)))))))
def xj9(W:Int)(GR:tz6)(GA:Bool->Int->List Pc->Frt->Frt)(r:List Pc):Prop:=∀(b:Bool) (m:Int) (R:List Int->Str->Prop) (F:Frt) (N:Nat),0<=m->m+12*depR r<=200->Good W R F->Few N R->N+(toksR r).length<=900->
 GR [aI false W F,.tup (pcsD r),aK b m]=some (aI false W (GA b m r F))
theorem yo3{b:Bool}{m:Int}{p:Pc}{x:List Pc×Bool×Int}(hx:x∈cJ b m p):(toksR x.1).length+1<=(cN p).length:=by
 cases p with
 |leaf l=>simp [cJ] at hx
 | group r=>
  have:x.1=r:=by
   cases b<;>simp [cJ] at hx
   ·subst hx;rfl
   ·rcases hx with e|e<;>subst e<;>rfl
  rw [this];simp [cN]
 |hang n r=>
  simp [cJ] at hx
  subst hx;simp [cN]
 |either rs=>
  obtain⟨r,hm,rfl⟩:=YC.mp (show x∈rs.map fun r=>(r,b,m) from hx)
  have:=tW hm
  simp [cN];omega
theorem xs1{W:Int}{GR:tz6}{GA:Bool->Int->List Pc->Frt->Frt}{k:Nat}(hW0:0<=W)(hW1:W<=40)(hG:∀r,depR r<k->okR r->pG W GA r)(hD:∀r,depR r<k->okR r->xj9 W GR GA r)
  {b:Bool} {m:Int} {R:List Int->Str->Prop} {F:Frt} {N:Nat} {p:Pc} {Y0 Y1:Option D} (hk:dZ p<=k) (ho:okP p) (h0:0<=m) (h1:m+12*dZ p<=200) (hF:Good W R F) (hN:Few N R) (hT:N+(cN p).length<=900):
  yU (qG GR) [Y0,Y1,some (aK b m),some (aI false W F),some (pcD p)]=some (.nx,[Y0,Y1,some (aK b m),some (aI false W (frP W GA b m F p)),some (pcD p)]):=by
 have c1:fT (aJ kJ (aC (aA 4) aE)) [Y0,Y1,some (aK b m),some (aI false W F),some (pcD p)]=some (mW p):=pI (aW (aD rfl rfl) (zc7 p))
 have hl:=hF.len hW1
 have hc:∀q∈F,q.2.2.length<=900:=fun q hq=>by have:=hF.few hN hq;omega
 have hold:mW p=true->yU (qG GR) [Y0,Y1,some (aK b m),some (aI false W F),some (pcD p)]=some (.nx,[Y0,Y1,some (aK b m),some (aI false W (frW GA (cR b p) F 0 (cJ b m p) [])),some (pcD p)]):=fun hp=>by
  rw [hp] at c1
  refine(bR c1).trans (bF (uP (aW (aD rfl (aD rfl (aD rfl rfl))) (xh9 (GA:=GA) hp ho hF.nd hl hc fun i x hx=> ?_))))
  have hm:=ZG hx
  obtain⟨a1,a2,a3,a4⟩:=zd0 ho h0 h1 hk hm
  have ht:=yo3 hm
  have gg:∀(R':List Int->Str->Prop) (F':Frt),Good W R' F'->Few (N+1) R'->∃Z,Z=GA x.2.1 x.2.2 x.1 F'/\GR [aI false W F',.tup (pcsD x.1),aK x.2.1 x.2.2]=some (aI false W Z)/\(Z.map (·.1)).Nodup/\Z.length<=41:=fun R' F' hR hf=>by
   have g:=hG x.1 a3 a4 x.2.1 x.2.2 R' F' a1 a2 hR
   exact⟨_,rfl,hD x.1 a3 a4 x.2.1 x.2.2 R' F' (N+1) a1 a2 hR hf (by omega),g.nd,g.len hW1⟩
  by_cases tk:cR b p=true
  ·rw [if_pos tk]
   exact gg _ _ (vT hF i) (yz8 hN)
  ·rw [if_neg tk]
   exact gg _ _ hF fun c t h=>Wk (hN c t h)
 cases p with
 |leaf l=>
  have hm:m<=200:=by rw [dZ] at h1;omega
  exact(eX (dJ c1)).trans (bF (uP (aW (aD rfl (aD rfl (aD rfl rfl))) (yz7 hW0 hW1 ho h0 hm hF.nd (by omega) fun q hq=>by have:=hF.key hW1 hq;omega))))
 |group r=>exact hold rfl
 |hang n r=>exact hold rfl
 |either rs=>exact hold rfl
theorem xa1{W:Int}{GR:tz6}{GA:Bool->Int->List Pc->Frt->Frt}{k:Nat}(hW0:0<=W)(hW1:W<=40)(hG:∀r,depR r<k->okR r->pG W GA r)(hD:∀r,depR r<k->okR r->xj9 W GR GA r){b:Bool}{m:Int}{Y0 Y1:Option D}(h0:0<=m):∀(r:List Pc) (R:List Int->Str->Prop) (F:Frt) (N:Nat) (y:Option D),depR r<=k->okR r->m+12*depR r<=200->Good W R F->Few N R->N+(toksR r).length<=900->
  ∃z,dX 4 (yU (qG GR)) (pcsD r) [Y0,Y1,some (aK b m),some (aI false W F),y]=some (.nx,[Y0,Y1,some (aK b m),some (aI false W (r.foldl (fun F p=>frP W GA b m F p) F)),z])
 |[],R,F,N,y,_,_,_,_,_,_=>⟨y,rfl⟩
 |p::r,R,F,N,y,hk,ho,h1,hF,hN,hT=>by
  rw [depR] at hk h1
  rw [toksR,Z5] at hT
  have q1:=xs1 hW0 hW1 hG hD (b:=b) (Y0:=Y0) (Y1:=Y1) (show dZ p<=k by omega) ho.1 h0 (by omega) hF hN (by omega)
  obtain⟨z,e⟩:=xa1 hW0 hW1 hG hD h0 r _ _ _ (some (pcD p)) (by omega) ho.2 (by omega) (vU hG (b:=b) (show dZ p<=k by omega) ho.1 h0 (by omega) hF) (xh8 hN) (by omega)
  refine⟨z,?_⟩
  show dX 4 _ (pcD p::pcsD r) _=_
  rw [dX]
  show((yU (qG GR) [Y0,Y1,some (aK b m),some (aI false W F),some (pcD p)]).bind _)=_
  rw [q1];exact e
theorem yi7{W:Int}(hW0:0<=W)(hW1:W<=40):∀(n:Nat) (r:List Pc),depR r<n->okR r->xj9 W (wU n) (frN W n) r
 |0,_,h,_=>absurd h (Ym _)
 |n+1,r,hd,ho=>fun b m R F N h0 h1 hF hN hT=>by
  obtain⟨z,e⟩:=xa1 (GR:=wU n) (GA:=frN W n) (k:=n) (Y0:=some (aI false W F)) (Y1:=some (.tup (pcsD r))) hW0 hW1 (fun q h2 h3=>vV n q h2 h3) (fun q h2 h3=>yi7 hW0 hW1 n q h2 h3) h0 r R F N none (by omega) ho h1 hF hN hT
  have s1:aV 3 (aH (bB (aA 0))) [some (aI false W F),some (.tup (pcsD r)),some (aK b m),none,none]=some (.nx,[some (aI false W F),some (.tup (pcsD r)),some (aK b m),some (aI false W F),none]):=bF (cM rfl (yD W F))
  have s2:iQ 4 (eT (aA 1)) (yU (qG (wU n))) [some (aI false W F),some (.tup (pcsD r)),some (aK b m),some (aI false W F),none]=some (.nx,[some (aI false W F),some (.tup (pcsD r)),some (aK b m),some (aI false W (frN W (n+1) b m r F)),z]):=zR rfl e
  show gP 3 2 (oI kJ (qG (wU n)) za1) _=_
  exact jT rfl (dG s1 (dG s2 ⟨_,rfl⟩))
abbrev yV:tz7:=gE 2 0 (bD [true,false]) kS
theorem xy3(W:Int):yV [.obj true "WithinWidth" [] [],.int W]=some (.non,[.obj true "WithinWidth" ["width"] [.int W],.int W]):=by
 simp [gE,kS,gO,uX,cI,bB,aA,bH,fO,wJ,bD,D.imm]
theorem xa2{p:PSt}{f:tz2}{W:Int}(h:f p=some (.int W)):mO (eP "WithinWidth" (cA [.im f]) yV) p=some (bV W):=by
 have i:=xy3 W
 unfold mO
 have e:eP "WithinWidth" (cA [.im f]) yV p=some (.obj true "WithinWidth" ["width"] [.int W]):=by
  unfold eP
  rw [eB h rfl iY,Z3,i];rfl
 rw [e];rfl
abbrev sM:tz6:=gP 1 0 xD
abbrev zv0:tz6:=gP 2 0 (tH sM)
abbrev yd4:tz6:=gP 2 2 (wN zv0 sM)
theorem xa3:sM [.str ""]=some (.lst true [.str ""]):=by kernel_rfl
theorem wd8{W:Int}(hW:0<=W):zv0 [.str "",.int W]=some (.bl true):=by
 have q:=xa3
 have e:("":Str).length=0:=by decide+kernel
 show gP 2 0 (tH sM) _=_
 generalize sM=G at q|-
 have z:(0:Nat)<=sizeLine:=ZL _
 have z1:1<=sizeLine:=sz (by decide)
 simp! [tH,mX,eT,q,jV,jA,qL,nC,yp6,D.bools,e,hW,z,z1]
theorem xy4{W:Int}(hW:0<=W):yd4 [.str "",.int W]=some (.tup [.int 1,.int 0]):=by
 have q:=xa3
 have f:=wd8 hW
 show gP 2 2 (wN zv0 sM) _=_
 generalize zv0=G1 at f|-
 generalize sM=G2 at q|-
 have s1:fIf (aT (eD (fT (aJ G1 (aC (aA 0) (aC (aA 1) aE)))))) (bS (aH (fC .non))) bK [some (.str ""),some (.int W),none,none]=some (.nx,[some (.str ""),some (.int W),none,none]):=bA (mE (pI (aW (aD rfl (aD rfl rfl)) f)))
 have s2:aV 2 (aH (aJ G2 (aC (aA 0) aE))) [some (.str ""),some (.int W),none,none]=some (.nx,[some (.str ""),some (.int W),some (.lst true [.str ""]),none]):=bF (aW (aD rfl rfl) q)
 have e3:fSl (aA 2) jI (nY (dL (fC (.int 1)))) [some (.str ""),some (.int W),some (.lst true [.str ""]),none]=some (.lst true []):=by rfl
 have s3:aV 3 (aH (aJ yc0 (aC (mX [none,some 1] (eT (fSl (aA 2) jI (nY (dL (fC (.int 1)))))) nC (f2 hX (f2 gF (aA 1) (aJ cT (aC (aA 0) aE))) (f2 gF (aA 1) (aJ cT (aC (aA 0) aE))))) aE))) [some (.str ""),some (.int W),some (.lst true [.str ""]),none]=some (.nx,[some (.str ""),some (.int W),some (.lst true [.str ""]),some (.int 0)]):=by
  refine bF (aW (aD (d:= .lst true []) ?_ rfl) rfl)
  unfold mX eT
  rw [e3]
  rfl
 refine jT rfl (dG s1 (dG s2 (dG s3 ⟨_,cL (fE (aD (d:= .int 1) ?_ (aD (cM rfl rfl) rfl)) rfl (by simp))⟩)))
 exact aW (aD (g:=aE) rfl rfl) rfl
abbrev vB:tz6:=gP 1 2 (sK lV yV yd4 mZ)
theorem zd3{W:Int}(hW:0<=W):vB [.int W]=some (aI true W [(0,((1,0),[]))]):=by
 have p0:=xy4 hW
 have s1:aV 1 (aH (eP "Front" (cA [.im (mO (eP "WithinWidth" (cA [.im (aA 0)]) yV))]) lV)) [some (.int W),none,none]=some (.nx,[some (.int W),some (aI true W []),none]):=bF (vX (xa2 rfl))
 have s2:aV 2 (aH (aJ yd4 (aC (fC (.str "")) (aC (aA 0) aE)))) [some (.int W),some (aI true W []),none]=some (.nx,[some (.int W),some (aI true W []),some (.tup [.int 1,.int 0])]):=bF (aW (aD rfl (aD rfl rfl)) p0)
 have s3:fIf (aT (fB (f2 mS (aA 2) (fC .non)))) (cY (dH 1 bH (cA [.im (fC (.int 0)),.im (cZ (aC (bB (aA 2)) (aC (cZ aE) aE)))]) (dS "Front" "add" mZ))) bK [some (.int W),some (aI true W []),some (.tup [.int 1,.int 0])]=some (.nx,[some (.int W),some (aI true W [(0,((1,0),[]))]),some (.tup [.int 1,.int 0])]):=
  (bR (dI (aO rfl rfl rfl))).trans (zP (j:=1) (F:=[]) (W:=W) (k:=0) (x:=((1,0),[])) rfl rfl (zd2 (x:=((1,0),[])) (cM rfl rfl) (fE rfl rfl (ZL _))) (by simp))
 exact jT rfl (dG s1 (dG s2 (dG s3 ⟨_,rfl⟩)))
abbrev rL(n:Nat):tz6:=gP 2 0 (pY (wU n) yT)
def jD(W:Int)(n:Nat)(r:List Pc):Frt:=frN W n true 0 r [(0,((1,0),[]))]
theorem zh1{W:Int}(hW:0<=W):Good W (fun cs t=>cs=[]/\t=⟨#[]⟩) [(0,((1,0),[]))]:=⟨by simp,fun p hp=>by
 rw [Zc.mp hp];exact⟨_,⟨rfl,rfl⟩,zc9 hW⟩⟩
theorem yE{W:Int}{n:Nat}{r:List Pc}(hW0:0<=W)(hW1:W<=40)(hd:depR r<n)(h8:depR r<=16)(ho:okR r)(hl:(toksR r).length<=800):rL n [aI false W [(0,((1,0),[]))],.tup (pcsD r)]=some (aI false W (jD W n r)):=by
 have q:=yi7 hW0 hW1 n r hd ho true 0 _ _ 0 (Yb _) (by omega) (zh1 hW0) (fun c t h=>by rw [h.1];exact Za _) (by omega)
 exact jT rfl ⟨_,cL (aW (aD rfl (aD rfl (aD (aW rfl zz4) rfl))) q)⟩
theorem nV:ixN 4 3=some 3:=by decide
theorem nW:ixN 4 2=some 2:=by decide
theorem iN{α:Type}(a b c d:α):atI [a,b,c,d] 3=some d:=rfl
abbrev zj2:tz7:=gE 1 5 (bD [true]) qE
theorem wg0{N:List D}{a b c d:D}:yK [1,2,3,4] (dH 0 bH aE tZ) [some (.lst true (N++[.lst true [a,b,c,d]])),none,none,none,none,none]=some (.nx,[some (.lst true N),some a,some b,some c,some d,none]):=by
 simp! [fKs,tZ,eT,jV,nY,jI,fSl,dN,dR,gH,dL,yK,yc1,uA,cH,eD,fIO,dY,dF,dQ,fV,fW,qH,L2.gQ,nV,nW,iN]
theorem kd1{p:PSt}{k w:String}{b:Bool}(hp:p[1]? =some (some (.str k)))(h:decide (k=w)=b):fB (f2 dEq (aA 1) (fC (.str w))) p=some b:=by
 refine dI (aO (mD hp) rfl ?_)
 show some (D.bl (decide ((k:Str)=(w:Str))))=_
 rw [<-h]
 congr 2
 exact Yw.mpr (by rw [fL])
theorem xi0{f g:Gm}{fs:List Gm}(hk:1<=f.kd/\f.kd<=3)(hf:f.kd≠3->f.full=[])(hfl:f.full.length<=3)(hg:g.parts.length<=900):zj2 [.lst true (bW (f::g::fs))]=some (.non,[.lst true (bW (kT g (gA f)::fs))]):=by
 obtain⟨kd,n,full,parts⟩:=f
 have hfl':full.length<=3:=hfl
 have hz:(pcsD g.parts).length<sizeLine:=by rw [zc5];exact sz1 (by omega)
 have s2:∀K x0,aV 3 (aH (f2 cE (aA 3) (dA (aC (aJ iT (aC (aA 4) aE)) aE)))) [x0,some K,some (.int n),some (.lst true (rowsD full)),some (.lst true (pcsD parts)),none]=some (.nx,[x0,some K,some (.int n),some (.lst true (rowsD (full++[parts]))),some (.lst true (pcsD parts)),none]):=fun K x0=>by
  refine bF (aO rfl (gN (aD (aW (aD rfl rfl) (if_pos (pcs_imm parts))) rfl) (Zd rfl)) ?_)
  rw [xZ]
  refine yx4 (rows_imm full) (rows_imm [parts]) ?_
  rw [jO];show full.length+1<=1000;omega
 have s4:∀K x0 x4 (r0:List Pc) rs,aV 5 (aH (cZ (aC (fC (.str "group")) (aC (bB (f2 dIx (aA 3) (fC (.int 0)))) aE)))) [x0,some K,some (.int n),some (.lst true (rowsD (r0::rs))),x4,none]=some (.nx,[x0,some K,some (.int n),some (.lst true (rowsD (r0::rs))),x4,some (pcD (.group r0))]):=fun K x0 x4 r0 rs=>
  bF (fE (aD rfl (aD (cM (aO rfl rfl (lH _ _)) (pcs_imm r0)) rfl)) (sC (.group r0)) (Zd rfl))
 have s7:∀(pc:Pc) K x3 x4,cY (dH 0 (dN 0 (dN 0 bH (dL (fC (.int 1)))) (fC (.int 3))) (aC (bB (aA 5)) aE) eE) [some (.lst true (bW fs++[gmD g])),K,some (.int n),x3,x4,some (pcD pc)]=some (.nx,[some (.lst true (bW fs++[gmD (kT g pc)])),K,some (.int n),x3,x4,some (pcD pc)]):=fun pc K x3 x4=>by
  have hi:=sC pc
  have e:gmD (kT g pc)= .lst true [.str (kdS g.kd),.int g.n,.lst true (rowsD g.full),.lst true (pcsD g.parts++[pcD pc])]:=by unfold gmD kT;rw [zc4];rfl
  rw [e]
  unfold gmD
  generalize pcD pc=d at hi|-
  simp! [fKs,tZ,eT,jV,nY,jI,fSl,dN,dR,gH,dL,yK,yc1,uA,cH,eD,fIO,dY,dF,dQ,fV,fW,qH,L2.gQ,nV,nW,iN,hi,hz]
 suffices h:∃q1 q2 q3 q4 q5,qE [some (.lst true (bW (⟨kd,n,full,parts⟩::g::fs))),none,none,none,none,none]=some (.nx,[some (.lst true (bW fs++[gmD (kT g (gA ⟨kd,n,full,parts⟩))])),q1,q2,q3,q4,q5]) from by
  obtain⟨q1,q2,q3,q4,q5,hq⟩:=h
  unfold zj2 gE
  refine(if_pos rfl).trans ?_
  show(qE [some (.lst true (bW (⟨kd,n,full,parts⟩::g::fs))),none,none,none,none,none]).bind _=_
  rw [hq];rfl
 have s1:yK [1,2,3,4] (dH 0 bH aE tZ) [some (.lst true (bW (⟨kd,n,full,parts⟩::g::fs))),none,none,none,none,none]=_:=wg0
 have e:kd=1\/kd=2\/kd=3:=by have:1<=kd/\kd<=3:=hk;omega
 unfold qE
 rw [aP s1,aP (s2 _ _)]
 rcases e with rfl|rfl|rfl
 ·have e1:full=[]:=hf (by simp! [fKs,tZ,eT,jV,nY,jI,fSl,dN,dR,gH,dL,yK,yc1,uA,cH,eD,fIO,dY,dF,dQ,fV,fW,qH,L2.gQ,nV,nW,iN])
  subst e1
  exact⟨_,_,_,_,_,(aP (bA (fQ (kd1 (k:="group") rfl (by decide))))).trans ((aP (s4 _ _ _ parts [])).trans ((aP (bA (kd1 (k:="group") rfl (by decide)))).trans ((aP (bA (kd1 (k:="group") rfl (by decide)))).trans (s7 _ _ _ _))))⟩
 ·have e1:full=[]:=hf (by simp! [fKs,tZ,eT,jV,nY,jI,fSl,dN,dR,gH,dL,yK,yc1,uA,cH,eD,fIO,dY,dF,dQ,fV,fW,qH,L2.gQ,nV,nW,iN])
  subst e1
  exact⟨_,_,_,_,_,(aP (bA (fQ (kd1 (k:="hang") rfl (by decide))))).trans ((aP (s4 _ _ _ parts [])).trans ((aP ((bR (kd1 (k:="hang") rfl (by decide))).trans (bF (fE (aD rfl (aD (cM rfl rfl) (aD (cM (d:= .tup (pcsD parts)) (aO rfl rfl (lH _ _)) (pcs_imm parts)) rfl))) (sC (.hang n parts)) (Zd rfl))))).trans ((aP (bA (kd1 (k:="hang") rfl (by decide)))).trans (s7 (.hang n parts) _ _ _))))⟩
 ·have fin:∀(r0:List Pc) (rs:List (List Pc)),pO ⟨3,n,full,parts⟩=r0::rs->∃q1 q2 q3 q4 q5,aS (aV 5 (aH (cZ (aC (fC (.str "group")) (aC (bB (f2 dIx (aA 3) (fC (.int 0)))) aE))))) (aS (fIf (aT (fB (f2 dEq (aA 1) (fC (.str "hang"))))) (aV 5 (aH (cZ (aC (fC (.str "hang")) (aC (bB (aA 2)) (aC (bB (f2 dIx (aA 3) (fC (.int 0)))) aE)))))) bK)
    (aS (fIf (aT (fB (f2 dEq (aA 1) (fC (.str "either"))))) (aV 5 (aH (cZ (aC (fC (.str "either")) (aC (aJ iT (aC (aA 3) aE)) aE))))) bK) (cY (dH 0 (dN 0 (dN 0 bH (dL (fC (.int 1)))) (fC (.int 3))) (aC (bB (aA 5)) aE) eE)))) [some (.lst true (bW fs++[gmD g])),some (.str "either"),some (.int n),some (.lst true (rowsD (r0::rs))),some (.lst true (pcsD parts)),none]=some (.nx,[some (.lst true (bW fs++[gmD (kT g (gA ⟨3,n,full,parts⟩))])),q1,q2,q3,q4,q5]):=fun r0 rs he=>by
   have hs:gA ⟨3,n,full,parts⟩= .either (r0::rs):=by rw [<-he];rfl
   rw [hs]
   exact⟨_,_,_,_,_,(aP (s4 _ _ _ r0 rs)).trans ((aP (bA (kd1 rfl (by decide)))).trans ((aP ((bR (kd1 rfl (by decide))).trans (bF (fE (aD rfl (aD (aW (aD rfl rfl) (if_pos (rows_imm (r0::rs)))) rfl)) (sC (.either (r0::rs))) (Zd rfl))))).trans (s7 (.either (r0::rs)) _ _ _)))⟩
  have lt:∀x0 x4,fB (f2 dLt (aJ cT (aC (aA 3) aE)) (fC (.int 2))) [x0,some (.str "either"),some (.int n),some (.lst true (rowsD (full++[parts]))),x4,none]=some (decide ((((full++[parts]).length:Nat):Int)<2)):=fun x0 x4=>by
   refine dI (aO (aW (aD rfl rfl) rfl) rfl ?_)
   show some (D.bl (decide ((((rowsD (full++[parts])).length:Nat):Int)<2)))=_
   rw [jO]
  cases full with
  | nil=>
   have s3:∀x0 x4,fIf (aT (cH (fB (f2 dEq (aA 1) (fC (.str "either")))) (fB (f2 dLt (aJ cT (aC (aA 3) aE)) (fC (.int 2)))))) (aV 3 (aH (f2 cE (aA 3) (dA (aC (cZ (aC (cZ (aC (fC (.str "word")) (aC (fC (.str "or")) aE))) aE)) aE))))) bK [x0,some (.str "either"),some (.int n),some (.lst true (rowsD ([]++[parts]))),x4,none]=some (.nx,[x0,some (.str "either"),some (.int n),some (.lst true (rowsD [parts,tL])),x4,none]):=fun x0 x4=>
    (bR (jG (kd1 rfl (by decide)) (lt _ _))).trans (bF (aO rfl (gN (aD (fE (aD (fE (aD rfl (aD rfl rfl)) rfl (Zd rfl)) rfl) rfl (Zd rfl)) rfl) (Zd rfl)) (yx4 (rows_imm [parts]) (rows_imm [tL]) (Zd rfl))))
   show ∃q1 q2 q3 q4 q5,aS _ _ [some (.lst true (bW fs++[gmD g])),some (.str "either"),some (.int n),some (.lst true (rowsD ([]++[parts]))),some (.lst true (pcsD parts)),none]=_
   rw [aP (s3 _ _)]
   exact fin parts [tL] rfl
  |cons r rs=>
   have lt':=lt (some (.lst true (bW fs++[gmD g]))) (some (.lst true (pcsD parts)))
   rw [Zf (by simp;omega)] at lt'
   show ∃q1 q2 q3 q4 q5,aS _ _ [some (.lst true (bW fs++[gmD g])),some (.str "either"),some (.int n),some (.lst true (rowsD (r::rs++[parts]))),some (.lst true (pcsD parts)),none]=_
   rw [aP (bA (jG (kd1 rfl (by decide)) lt'))]
   exact fin r (rs++[parts]) rfl
def ifR(GM:tz6)(GS:tz7)(GL:tz6):tz1:=
 (fIf (aT (cH (fB (f2 dLt (aA 7) (fC (.int 4)))) (fB (f2 dLe (aJ cT (aC (aA 4) aE)) (aA 3)))))
  (aS (aV 9 (aH (f2 dIx (dA (fKs [.str "group",.str "group",.str "hang",.str "either"])) (aA 7))))
 (cY (dH 4 bH (aC (dA (aC (bB (aA 9)) (aC (f2 dIx (dA (aC (fC (.int 1)) (aC (fC (.int 2)) (aC (fC (.int 4)) (aC (f2 eA (f2 gG (aA 6) (fC (.int 13))) (fC (.int 13))) aE))))) (f2 eA (f2 gG (aA 6) (fC (.int 169))) (fC (.int 4)))) (aC (dA aE) (aC (dA aE) aE))))) aE) eE)))
  (fIf (aT (cH (fB (f2 dEq (aA 7) (fC (.int 4)))) (fB (f2 dGt (aJ cT (aC (aA 4) aE)) (fC (.int 1))))))
  (cY (fIO [.io 4] GS))
  (fIf (aT (cH (fB (f2 dLt (aA 7) (fC (.int 7)))) (cH (fB (f2 dEq (aA 8) (fC (.str "either")))) (fB (f2 dLt (aJ cT (aC (f2 dIx (f2 dIx (aA 4) (dL (fC (.int 1)))) (fC (.int 2))) aE)) (fC (.int 3)))))))
  (aS (cY (dH 4 (dN 4 (dN 4 bH (dL (fC (.int 1)))) (fC (.int 2))) (aC (aJ iT (aC (f2 dIx (f2 dIx (aA 4) (dL (fC (.int 1)))) (fC (.int 3))) aE)) aE) eE))
 (dR 4 (dN 4 bH (dL (fC (.int 1)))) (fC (.int 3)) (dA aE)))
  (cY (dH 4 (dN 4 (dN 4 bH (dL (fC (.int 1)))) (fC (.int 3))) (aC (aJ GL (aC (aJ GM (aC (aA 0) (aC (aA 5) (aC (fC (.int 32)) aE)))) aE)) aE) eE)))))
def wV(GM:tz6)(GS:tz7)(GL:tz6):tz1:=
   (aS (aV 6 (aH (aJ GM (aC (aA 0) (aC (aA 5) (aC (fC (.int 31)) aE))))))
 (aS (aV 7 (aH (f2 eA (aA 6) (fC (.int 13)))))
 (aS (aV 8 (aH (bB (f2 dIx (f2 dIx (aA 4) (dL (fC (.int 1)))) (fC (.int 0))))))
 (ifR GM GS GL))))
section
variable{GM:tz6}{GS:tz7}{GL:tz6}{S:D}{x1 x2 x6 x7 x8 x9:Option D}{nest:Nat}{f:Gm}{fs:List Gm}{i m:Int}
theorem xa4(hm:GM [S,.int i,.int 31]=some (.int m)):wV GM GS GL [some S,x1,x2,some (.int nest),some (.lst true (bW (f::fs))),some (.int i),x6,x7,x8,x9]
  =ifR GM GS GL [some S,x1,x2,some (.int nest),some (.lst true (bW (f::fs))),some (.int i),some (.int m),some (.int (m % 13)),some (.str (kdS f.kd)),x9]:=by
 unfold wV
 refine(aP (bF (aW rfl hm))).trans ?_
 refine(aP (bF (d:= .int (m % 13)) (by simp! [fKs,dN,dR,gH,dL,cH,eD,fIO,dY,dF,dQ,fV,fW,qH,L2.gQ,nV,nW,iN]))).trans ?_
 exact aP (bF (d:= .str (kdS f.kd)) (by simp! [fKs,dN,dR,gH,dL,cH,eD,fIO,dY,dF,dQ,fV,fW,qH,L2.gQ,nV,nW,iN,bW,gmD]))
theorem xy5(a k:Int)(ha:0<=a/\a<=12):∃n:Int,atI [D.int 1,.int 2,.int 4,.int a] (k % 4)=some (.int n)/\0<=n/\n<=12:=by
 have h0:=ZD k (show(4:Int)≠0 by decide)
 have h1:=ZB k (show(0:Int)<4 by decide)
 obtain⟨d,hd,e⟩:=uM [D.int 1,.int 2,.int 4,.int a] (k % 4) h0 (by simpa using h1)
 simp only [Z6,ZX,Xp] at hd
 rcases hd with rfl|rfl|rfl|rfl
 ·exact⟨_,e,by decide,by decide⟩
 ·exact⟨_,e,by decide,by decide⟩
 ·exact⟨_,e,by decide,by decide⟩
 ·exact⟨_,e,ha⟩
theorem xs2(m:Int)(h0:0<=m % 13)(h:m % 13<4):∃kd:Nat,atI [D.str (Str.ofString "group"),.str (Str.ofString "group"),.str (Str.ofString "hang"),.str (Str.ofString "either")] (m % 13)=some (.str (kdS kd))/\1<=kd/\kd<=3:=by
 have hn:m % 13=0\/m % 13=1\/m % 13=2\/m % 13=3:=by omega
 rcases hn with e|e|e|e<;>rw [e]
 ·exact⟨1,rfl,by decide,by decide⟩
 ·exact⟨1,rfl,by decide,by decide⟩
 ·exact⟨2,rfl,by decide,by decide⟩
 ·exact⟨3,rfl,by decide,by decide⟩
theorem zh2{a b:Prop}[Decidable a][Decidable b](h:¬(a/\b)):(decide a&&decide b)=false:=by
 by_cases ha:a
 ·rw [Zf (fun hb=>h ⟨ha,hb⟩),Bool.and_false]
 ·rw [Zf ha,XE]
theorem yi8{a b:Prop}[Decidable a][Decidable b](ha:a)(hb:b):(decide a&&decide b)=true:=by rw [Zn ha,Zn hb];rfl
theorem zh3{f g:tz4}{p:PSt}{a b:Bool}(h1:f p=some a)(h2:g p=some b):cH f g p=some (a&&b):=by
 cases a with
 |true=>exact jG h1 h2
 |false=>exact fQ h1
theorem yo4{N:List D}{w:Int}{x0 x5 x6:Option D}:cH (fB (f2 dLt (aA 7) (fC (.int 4)))) (fB (f2 dLe (aJ cT (aC (aA 4) aE)) (aA 3))) [x0,x1,x2,some (.int nest),some (.lst true N),x5,x6,some (.int w),x8,x9]=some (decide (w<4)&&decide ((N.length:Int)<=(nest:Int))):=
 zh3 (dI (aO rfl rfl rfl)) (dI (aO (aW (aD rfl rfl) rfl) rfl rfl))
theorem xl3{N:List D}{w:Int}{x0 x3 x5 x6:Option D}:cH (fB (f2 dEq (aA 7) (fC (.int 4)))) (fB (f2 dGt (aJ cT (aC (aA 4) aE)) (fC (.int 1)))) [x0,x1,x2,x3,some (.lst true N),x5,x6,some (.int w),x8,x9]=some (decide (w=4)&&decide ((1:Int)<(N.length:Int))):=
 zh3 (dI (aO rfl rfl rfl)) (dI (aO (aW (aD rfl rfl) rfl) rfl rfl))
theorem yi9{p:PSt}{j:Nat}{M:List D}{d:D}(hp:p[j]? =some (some (.lst true (M++[d])))):f2 dIx (aA j) (dL (fC (.int 1))) p=some d:=aO (mD hp) rfl (show atI (M++[d]) (-1)=_ from L2.gQ _ _)
theorem xl4{M R:List D}{w:Int}{k:String}{a b c:D}{x0 x3 x5 x6:Option D}:cH (fB (f2 dLt (aA 7) (fC (.int 7)))) (cH (fB (f2 dEq (aA 8) (fC (.str "either")))) (fB (f2 dLt (aJ cT (aC (f2 dIx (f2 dIx (aA 4) (dL (fC (.int 1)))) (fC (.int 2))) aE)) (fC (.int 3))))) [x0,x1,x2,x3,some (.lst true (M++[.lst true [a,b,.lst true R,c]])),x5,x6,some (.int w),some (.str k),x9]=some (decide (w<7)&&(decide (k="either")&&decide ((R.length:Int)<3))):=by
 refine zh3 (dI (aO rfl rfl rfl)) (zh3 (dI (aO rfl rfl ?_)) (dI (aO (aW (aD (aO (yi9 (j:=4) rfl) rfl (yn6 _ _ _ _)) rfl) rfl) rfl rfl)))
 show some (D.bl (decide ((k:Str)=(("either":String):Str))))=_
 congr 2
 exact Yw.mpr (by rw [fL])
theorem xa5{p:PSt}{j:Nat}{M:List D}{k n:Nat}{l:List D}(hp:p[j]? =some (some (.lst true (M++[.lst true l]))))(hk:ixN l.length (k:Int)=some n):dN j (dN j bH (dL (fC (.int 1)))) (fC (.int (k:Int))) p=some [.ix M.length,.ix n]:=by
 have e1:ixN (M++[D.lst true l]).length (-1)=some M.length:=by rw [Z5];exact fV _
 have e2:(M++[D.lst true l])[M.length]? =some (.lst true l):=by simp! [fKs,dN,dR,gH,dL,cH,eD,fIO,dY,dF,dQ,fV,fW,qH,L2.gQ,nV,nW,iN]
 simp! [fKs,dN,dR,gH,dL,cH,eD,fIO,dY,dF,dQ,fV,fW,qH,L2.gQ,nV,nW,iN,dN,hp,e1,e2,hk,dL]
theorem xi1{α:Type}{h:D->Option (α×D)}{M l:List D}{n:Nat}{d d':D}{r:α}(hl:l[n]? =some d)(e:h d=some (r,d')):fO h (.lst true (M++[.lst true l])) [.ix M.length,.ix n]=some (r,.lst true (M++[.lst true (l.set n d')])):=by
 have e2:(M++[D.lst true l])[M.length]? =some (.lst true l):=by simp! [fKs,dN,dR,gH,dL,cH,eD,fIO,dY,dF,dQ,fV,fW,qH,L2.gQ,nV,nW,iN]
 show(((M++[D.lst true l])[M.length]?).bind _)=_
 rw [e2,Z3]
 show(((l[n]?).bind _).bind _)=_
 rw [hl,Z3]
 show(((h d).bind _).bind _)=_
 rw [e]
 show some (r,D.lst true ((M++[D.lst true l]).set M.length _))=_
 rw [fW]
theorem ya8{p:PSt}{j k n:Nat}{M l xs:List D}{fe:tz2}{y:D}(hp:p[j]? =some (some (.lst true (M++[.lst true l]))))(hk:ixN l.length (k:Int)=some n)(hl:l[n]? =some (.lst true xs))(h:fe p=some y)(hz:xs.length<sizeLine):cY (dH j (dN j (dN j bH (dL (fC (.int 1)))) (fC (.int (k:Int)))) (aC fe aE) eE) p=some (.nx,p.set j (some (.lst true (M++[.lst true (l.set n (.lst true (xs++[y])))])))):=by
 refine sD (d:= .non) ?_
 unfold dH
 rw [hp,YT,Z3,xa5 hp hk,Z3,aD h rfl,Z3,xi1 hl (show eE [y] (.lst true xs)=_ from if_pos hz)]
 rfl
theorem yo5{p:PSt}{j k n:Nat}{M l:List D}{fe:tz2}{y:D}(hp:p[j]? =some (some (.lst true (M++[.lst true l]))))(hk:ixN l.length (k:Int)=some n)(h:fe p=some y):dR j (dN j bH (dL (fC (.int 1)))) (fC (.int (k:Int))) fe p=some (.nx,p.set j (some (.lst true (M++[.lst true (l.set n y)])))):=by
 have e1:ixN (M++[D.lst true l]).length (-1)=some M.length:=by rw [Z5];exact fV _
 have e2:(M++[D.lst true l])[M.length]? =some (.lst true l):=by simp! [fKs,dN,dR,gH,dL,cH,eD,fIO,dY,dF,dQ,fV,fW,qH,L2.gQ,nV,nW,iN]
 have ep:dN j bH (dL (fC (.int 1))) p=some [.ix M.length]:=by simp! [fKs,dN,dR,gH,dL,cH,eD,fIO,dY,dF,dQ,fV,fW,qH,L2.gQ,nV,nW,iN,dN,hp,e1,dL]
 unfold dR
 rw [h,Z3,hp,YT,Z3,ep,Z3]
 show((fO (gH (.int (k:Int)) y) (.lst true (M++[.lst true l])) [.ix M.length]).bind _)=_
 have em:fO (gH (.int (k:Int)) y) (.lst true (M++[.lst true l])) [.ix M.length]=some ((),.lst true (M++[.lst true (l.set n y)])):=by
  show(((M++[D.lst true l])[M.length]?).bind _)=_
  rw [e2,Z3]
  show(((ixN l.length (k:Int)).bind _).bind _)=_
  rw [hk]
  show some ((),D.lst true ((M++[D.lst true l]).set M.length _))=_
  rw [fW]
 rw [em];rfl
theorem xa6(hw:m % 13<4)(hl:(f::fs).length<=nest)(hz:(f::fs).length<=900):∃kd n y9,ifR GM GS GL [some S,x1,x2,some (.int nest),some (.lst true (bW (f::fs))),some (.int i),some (.int m),some (.int (m % 13)),x8,x9]
  =some (.nx,[some S,x1,x2,some (.int nest),some (.lst true (bW (⟨kd,n,[],[]⟩::f::fs))),some (.int i),some (.int m),some (.int (m % 13)),x8,y9])/\(1<=kd/\kd<=3)/\0<=n/\n<=12:=by
 have h0:=ZD m (show(13:Int)≠0 by decide)
 have d0:=ZD (m/13) (show(13:Int)≠0 by decide)
 have d1:=ZB (m/13) (show(0:Int)<13 by decide)
 obtain⟨kd,q1,hk1,hk2⟩:=xs2 m h0 hw
 obtain⟨n,q2,hn1,hn2⟩:=xy5 (m/13 % 13) (m/169) ⟨d0,Wa d1⟩
 have hz':(bW (f::fs)).length<sizeLine:=by rw [oY];exact sz1 (by omega)
 have hl':((bW (f::fs)).length:Int)<=(nest:Int):=by rw [oY];exact Int.ofNat_le.mpr hl
 refine⟨kd,n,some (.str (kdS kd)),?_,⟨hk1,hk2⟩,hn1,hn2⟩
 have e:bW (⟨kd,n,[],[]⟩::f::fs)=bW (f::fs)++[.lst true [.str (kdS kd),.int n,.lst true [],.lst true []]]:=rfl
 rw [e]
 generalize bW (f::fs)=N at hz' hl'|-
 unfold ifR
 refine(bR (yo4.trans (by rw [yi8 hw hl']))).trans ((aP (bF (aO (gN rfl (Zd rfl)) rfl q1))).trans ?_)
 refine sD (d:= .non) ?_
 unfold dH
 rw [aD (gN (aD (cM (d:= .str (kdS kd)) rfl rfl) (aD (aO (gN (aD rfl (aD rfl (aD rfl (aD (aO (aO rfl rfl ((dQ _ _).trans (if_pos (by decide)))) rfl ((dF _ _).trans (if_pos (by decide)))) rfl)))) (Zd rfl)) (aO (aO rfl rfl ((dQ _ _).trans (if_pos (by decide)))) rfl ((dF _ _).trans (if_pos (by decide)))) q2) (aD (gN rfl (Zd rfl)) (aD (gN rfl (Zd rfl)) rfl)))) (Zd rfl)) rfl]
 show((eE [.lst true [.str (kdS kd),.int n,.lst true [],.lst true []]] (.lst true N)).bind _)=_
 rw [show eE [.lst true [.str (kdS kd),.int n,.lst true [],.lst true []]] (.lst true N)=_ from if_pos hz']
 rfl
theorem xa7{g:Gm}(q:GS [.lst true (bW (f::g::fs))]=some (.non,[.lst true (bW (kT g (gA f)::fs))]))(hw:m % 13=4):
  ifR GM GS GL [some S,x1,x2,some (.int nest),some (.lst true (bW (f::g::fs))),some (.int i),some (.int m),some (.int (m % 13)),x8,x9]
  =some (.nx,[some S,x1,x2,some (.int nest),some (.lst true (bW (kT g (gA f)::fs))),some (.int i),some (.int m),some (.int (m % 13)),x8,x9]):=by
 have hl:(1:Int)<((bW (f::g::fs)).length:Int):=by rw [oY];simp;omega
 unfold ifR
 exact(eX (dJ (yo4.trans (by rw [zh2 (fun z=>by omega)])))).trans ((bR (xl3.trans (by rw [yi8 hw hl]))).trans (sD (yA (uN rfl iY) q rfl)))
theorem yj0(hw:¬(m % 13<4/\(f::fs).length<=nest))(hw4:¬(m % 13=4/\fs≠[])){F1 F2 F3:tz1}:fIf (aT (cH (fB (f2 dLt (aA 7) (fC (.int 4)))) (fB (f2 dLe (aJ cT (aC (aA 4) aE)) (aA 3))))) F1 (fIf (aT (cH (fB (f2 dEq (aA 7) (fC (.int 4)))) (fB (f2 dGt (aJ cT (aC (aA 4) aE)) (fC (.int 1)))))) F2 F3) [some S,x1,x2,some (.int nest),some (.lst true (bW (f::fs))),some (.int i),some (.int m),some (.int (m % 13)),x8,x9]
  =F3 [some S,x1,x2,some (.int nest),some (.lst true (bW (f::fs))),some (.int i),some (.int m),some (.int (m % 13)),x8,x9]:=by
 have hl:(bW (f::fs)).length=(f::fs).length:=oY _
 have hn:¬(m % 13=4/\(1:Int)<((f::fs).length:Int)):=fun z=>hw4 ⟨z.1,fun e=>by rw [e] at z;exact absurd z.2 (Int.lt_irrefl 1)⟩
 exact(eX (dJ (yo4.trans (by rw [hl,zh2 (fun z=>hw ⟨z.1,Int.ofNat_le.mp z.2⟩)])))).trans (eX (dJ (xl3.trans (by rw [hl,zh2 hn]))))
theorem xs3(hw:¬(m % 13<4/\(f::fs).length<=nest))(hw4:¬(m % 13=4/\fs≠[]))(hw7:m % 13<7)(hk:f.kd=3)(hf:f.full.length<3):
  ifR GM GS GL [some S,x1,x2,some (.int nest),some (.lst true (bW (f::fs))),some (.int i),some (.int m),some (.int (m % 13)),some (.str (kdS f.kd)),x9]
  =some (.nx,[some S,x1,x2,some (.int nest),some (.lst true (bW ({f with full:=f.full++[f.parts],parts:=[]}::fs))),some (.int i),some (.int m),some (.int (m % 13)),some (.str (kdS f.kd)),x9]):=by
 unfold ifR
 refine(yj0 hw hw4).trans ?_
 obtain⟨kd,n,full,parts⟩:=f
 have hk':kd=3:=hk
 subst hk'
 have hz:(rowsD full).length<sizeLine:=by rw [jO];exact sz1 (by have:full.length<3:=hf;omega)
 have hf':((rowsD full).length:Int)<3:=by rw [jO];exact Int.ofNat_lt.mpr hf
 have er:rowsD (full++[parts])=rowsD full++[.tup (pcsD parts)]:=by rw [xZ];rfl
 have b3:(decide (m % 13<7)&&(decide (kdS 3="either")&&decide (((rowsD full).length:Int)<3)))=true:=by rw [Zn hw7,Zn hf'];rfl
 have s1:=ya8 (p:=[some S,x1,x2,some (.int nest),some (.lst true (bW (⟨3,n,full,parts⟩::fs))),some (.int i),some (.int m),some (.int (m % 13)),some (.str (kdS 3)),x9]) (j:=4) (k:=2) (n:=2) (M:=bW fs) (fe:=aJ iT (aC (f2 dIx (f2 dIx (aA 4) (dL (fC (.int 1)))) (fC (.int 3))) aE)) rfl rfl rfl (aW (aD (aO (yi9 (M:=bW fs) rfl) rfl (wf9 _ _ _ _)) rfl) (if_pos (pcs_imm parts))) hz
 rw [<-er] at s1
 have s2:=yo5 (p:=[some S,x1,x2,some (.int nest),some (.lst true (bW fs++[.lst true [.str (kdS 3),.int n,.lst true (rowsD (full++[parts])),.lst true (pcsD parts)]])),some (.int i),some (.int m),some (.int (m % 13)),some (.str (kdS 3)),x9]) (j:=4) (k:=3) (n:=3) (M:=bW fs) (fe:=dA aE) (y:= .lst true []) rfl rfl (gN rfl (Zd rfl))
 exact(bR (xl4.trans (ZM some b3))).trans ((aP s1).trans s2)
theorem xa8{l:Leaf}{m2:Int}(hm2:GM [S,.int i,.int 32]=some (.int m2))(hL:GL [.int m2]=some (bN l))(hz:f.parts.length<=900)
  (hw:¬(m % 13<4/\(f::fs).length<=nest)) (hw4:¬(m % 13=4/\fs≠[])) (h3:¬(m % 13<7/\f.kd=3/\f.full.length<3)) (hkd:f.kd<=3):
  ifR GM GS GL [some S,x1,x2,some (.int nest),some (.lst true (bW (f::fs))),some (.int i),some (.int m),some (.int (m % 13)),some (.str (kdS f.kd)),x9]
  =some (.nx,[some S,x1,x2,some (.int nest),some (.lst true (bW (kT f (.leaf l)::fs))),some (.int i),some (.int m),some (.int (m % 13)),some (.str (kdS f.kd)),x9]):=by
 have hz':(pcsD f.parts).length<sizeLine:=by rw [zc5];exact sz1 (by omega)
 have ep:pcsD (f.parts++[.leaf l])=pcsD f.parts++[bN l]:=by rw [zc4];rfl
 have b3:(decide (m % 13<7)&&(decide (kdS f.kd="either")&&decide (((rowsD f.full).length:Int)<3)))=false:=by
  by_cases a1:m % 13<7
  ·rw [zh2,Bool.and_false]
   intro ⟨z1,z2⟩
   rw [jO] at z2
   have hk:f.kd=0\/f.kd=1\/f.kd=2\/f.kd=3:=by omega
   rcases hk with e|e|e|e
   ·rw [e] at z1;exact absurd z1 (by decide)
   ·rw [e] at z1;exact absurd z1 (by decide)
   ·rw [e] at z1;exact absurd z1 (by decide)
   ·exact h3 ⟨a1,e,Int.ofNat_lt.mp z2⟩
  ·rw [Zf a1,XE]
 unfold ifR
 refine(yj0 hw hw4).trans ((eX (dJ (xl4.trans (by rw [b3])))).trans ?_)
 have e:bW (kT f (.leaf l)::fs)=bW fs++[.lst true [.str (kdS f.kd),.int f.n,.lst true (rowsD f.full),.lst true (pcsD f.parts++[bN l])]]:=by rw [<-ep];rfl
 rw [e]
 have s1:=ya8 (p:=[some S,x1,x2,some (.int nest),some (.lst true (bW (f::fs))),some (.int i),some (.int m),some (.int (m % 13)),some (.str (kdS f.kd)),x9]) (j:=4) (k:=3) (n:=3) (M:=bW fs) (fe:=aJ GL (aC (aJ GM (aC (aA 0) (aC (aA 5) (aC (fC (.int 32)) aE)))) aE)) rfl rfl rfl (aW (aD (aW (aD rfl (aD rfl (aD rfl rfl))) hm2) rfl) hL) hz'
 exact s1
end
section
variable{GM:tz6}{GS:tz7}{GL:tz6}{S:D}{x1 x2 x6 x7 x8 x9:Option D}{nest k:Nat}{fs:List Gm}{i:Int}
theorem yo6{f:Gm}{fs:List Gm}(h:yd2 (f::fs)):f.kd<=3:=by
 cases fs with
 |nil=>have:f.kd=0:=h;omega
 |cons g fs=>exact h.1.2
theorem xs4(hS:∀(f g:Gm) (fs:List Gm),(1<=f.kd/\f.kd<=3)->(f.kd≠3->f.full=[])->f.full.length<=3->g.parts.length<=900->GS [.lst true (bW (f::g::fs))]=some (.non,[.lst true (bW (kT g (gA f)::fs))]))
  (hL:∀m,0<=m->∃l,GL [.int m]=some (bN l)/\fR l) (hM:∀s:Int,s=31\/s=32->∃m,GM [S,.int i,.int s]=some (.int m)/\0<=m) (h:GInv nest k fs) (hk:4*k+4<=800) (hn:nest<=100):
  ∃fs' y6 y7 y8 y9,wV GM GS GL [some S,x1,x2,some (.int nest),some (.lst true (bW fs)),some (.int i),x6,x7,x8,x9]=some (.nx,[some S,x1,x2,some (.int nest),some (.lst true (bW fs')),some (.int i),y6,y7,y8,y9])/\GInv nest (k+1) fs':=by
 obtain⟨m,hm,hm0⟩:=hM 31 (.inl rfl)
 obtain⟨m2,hm2,hm20⟩:=hM 32 (.inr rfl)
 have hln:=h.len
 cases fs with
 |nil=>exact h.kinds.elim
 | cons f fs=>
  have hd:=xa4 (GS:=GS) (GL:=GL) (x1:=x1) (x2:=x2) (x6:=x6) (x7:=x7) (x8:=x8) (x9:=x9) (nest:=nest) (f:=f) (fs:=fs) hm
  by_cases c1:m % 13<4/\(f::fs).length<=nest
  ·obtain⟨kd,n,y9,q,h1,h2⟩:=xa6 (GM:=GM) (GS:=GS) (GL:=GL) (S:=S) (x1:=x1) (x2:=x2) (x8:=some (.str (kdS f.kd))) (x9:=x9) (i:=i) c1.1 c1.2 (by omega)
   exact⟨_,_,_,_,y9,hd.trans q,h.opener h1 h2 c1.2⟩
  ·by_cases c2:m % 13=4/\fs≠[]
   ·cases fs with
    |nil=>exact absurd rfl c2.2
    |cons g fs=>
     have hf:=h.each f Z0
     have hg:=h.parts (f:=g) (Z1 _ Z0)
     have q:=xa7 (GM:=GM) (GL:=GL) (S:=S) (x1:=x1) (x2:=x2) (x8:=some (.str (kdS f.kd))) (x9:=x9) (nest:=nest) (i:=i) (hS f g fs h.kinds.1 hf.2.2.2.1 hf.2.2.1 (by omega)) c2.1
     exact⟨_,_,_,_,_,hd.trans q,h.shut.more (by omega)⟩
   ·by_cases c3:m % 13<7/\f.kd=3/\f.full.length<3
    ·have q:=xs3 (GM:=GM) (GS:=GS) (GL:=GL) (S:=S) (x1:=x1) (x2:=x2) (x9:=x9) (i:=i) c1 c2 c3.1 c3.2.1 c3.2.2
     exact⟨_,_,_,_,_,hd.trans q,h.orr c3.2.2 c3.2.1⟩
    ·obtain⟨l,hl,hlk⟩:=hL m2 hm20
     have q:=xa8 (GM:=GM) (GS:=GS) (GL:=GL) (S:=S) (x1:=x1) (x2:=x2) (x9:=x9) (i:=i) hm2 hl (by have:=h.parts (f:=f) Z0;omega) c1 c2 c3 (yo6 h.kinds)
     exact⟨_,_,_,_,_,hd.trans q,h.leaf hlk⟩
theorem yj1(hS:∀(f g:Gm) (fs:List Gm),(1<=f.kd/\f.kd<=3)->(f.kd≠3->f.full=[])->f.full.length<=3->g.parts.length<=900->GS [.lst true (bW (f::g::fs))]=some (.non,[.lst true (bW (kT g (gA f)::fs))]))
  (hL:∀m,0<=m->∃l,GL [.int m]=some (bN l)/\fR l) (hn:nest<=100):∀(l:List Int) (fs:List Gm) (k:Nat) (x5 x6 x7 x8 x9:Option D),(∀j∈l,∀s:Int,s=31\/s=32->∃m,GM [S,.int j,.int s]=some (.int m)/\0<=m)->GInv nest k fs->4*(k+l.length)+4<=800->
  ∃fs' y5 y6 y7 y8 y9,dX 5 (wV GM GS GL) (l.map .int) [some S,x1,x2,some (.int nest),some (.lst true (bW fs)),x5,x6,x7,x8,x9]=some (.nx,[some S,x1,x2,some (.int nest),some (.lst true (bW fs')),y5,y6,y7,y8,y9])/\GInv nest (k+l.length) fs'
 |[],fs,k,x5,x6,x7,x8,x9,_,h,_=>⟨fs,x5,x6,x7,x8,x9,by simp! [fIO,dY,iN,dX],h⟩
 |j::l,fs,k,x5,x6,x7,x8,x9,hM,h,hk=>by
  rw [Z4] at hk
  obtain⟨fs1,y6,y7,y8,y9,q,h1⟩:=xs4 (x1:=x1) (x2:=x2) (x6:=x6) (x7:=x7) (x8:=x8) (x9:=x9) hS hL (hM j Z0) h (by omega) hn
  obtain⟨fs2,z5,z6,z7,z8,z9,q2,h2⟩:=yj1 hS hL hn l fs1 (k+1) (some (.int j)) y6 y7 y8 y9 (fun i hi=>hM i (Z1 _ hi)) h1 (by omega)
  refine⟨fs2,z5,z6,z7,z8,z9,?_,(show k+1+l.length=k+(j::l).length by rw [Z4];omega)▸h2⟩
  rw [<-q2]
  show(wV GM GS GL [some S,x1,x2,some (.int nest),some (.lst true (bW fs)),some (.int j),x6,x7,x8,x9]).bind _=_
  rw [q];rfl
def zj3(GS:tz7)(n:Nat):tz1:=lM (aT (fB (f2 dGt (aJ cT (aC (aA 4) aE)) (fC (.int 1))))) (cY (fIO [.io 4] GS)) n
theorem yj2{x0 x3 x5:Option D}(hS:∀(f g:Gm) (fs:List Gm),(1<=f.kd/\f.kd<=3)->(f.kd≠3->f.full=[])->f.full.length<=3->g.parts.length<=900->GS [.lst true (bW (f::g::fs))]=some (.non,[.lst true (bW (kT g (gA f)::fs))]))(hk:4*k+4<=800):
  ∀(n:Nat) (fs:List Gm),fs.length<=n->GInv nest k fs->∃f,zj3 GS n [x0,x1,x2,x3,some (.lst true (bW fs)),x5,x6,x7,x8,x9]=some (.nx,[x0,x1,x2,x3,some (.lst true (bW [f])),x5,x6,x7,x8,x9])/\GInv nest k [f]
 |0,[],_,h=>h.kinds.elim
 |0,_::_,hl,_=>by simp! [fIO,dY,iN] at hl
 |n+1,[],_,h=>h.kinds.elim
 |n+1,[f],_,h=>by
  refine⟨f,?_,h⟩
  unfold zj3
  rw [lM]
  have hl:(bW [f]).length=1:=rfl
  generalize bW [f]=N at hl|-
  simp! [fIO,dY,iN,hl]
 |n+1,f::g::fs,hl,h=>by
  have hf:=h.each f Z0
  have hg:=h.parts (f:=g) (Z1 _ Z0)
  have q:=hS f g fs h.kinds.1 hf.2.2.2.1 hf.2.2.1 (by omega)
  obtain⟨f',w,h'⟩:=yj2 (x0:=x0) (x3:=x3) (x5:=x5) hS hk n (kT g (gA f)::fs) (by simp! [fIO,dY,iN] at hl|-;omega) h.shut
  refine⟨f',?_,h'⟩
  rw [<-w]
  have hl2:(bW (f::g::fs)).length=fs.length+1+1:=by rw [oY];rfl
  have hpos:(1:Int)<((fs.length:Int)+1+1):=by omega
  show lM _ _ (n+1) _=_
  rw [lM]
  generalize bW (f::g::fs)=N at q hl2|-
  generalize bW (kT g (gA f)::fs)=M at q|-
  simp! [fIO,dY,iN,hl2,hpos,q,zj3]
def wi8(n:Nat)(GM:tz6)(GS:tz7)(GL:tz6):tz1:=
 aS (aV 4 (aH (dA (aC (dA (aC (fC (.str "top")) (aC (fC (.int 0)) (aC (dA aE) (aC (dA aE) aE))))) aE)))) (aS (iQ 5 (zi2 (aC (aA 1) (aC (f2 cE (aA 1) (aA 2)) aE))) (wV GM GS GL)) (aS (zj3 GS n) (bS (aH (aJ iT (aC (f2 dIx (f2 dIx (aA 4) (fC (.int 0))) (fC (.int 3))) aE))))))
structure RowOk(nest w:Nat)(r:List Pc):Prop where
 ok:okR r
 dep:depR r<=nest
 len:(toksR r).length<=w
theorem wd9{a many n:Nat}(hS:∀(f g:Gm) (fs:List Gm),(1<=f.kd/\f.kd<=3)->(f.kd≠3->f.full=[])->f.full.length<=3->g.parts.length<=900->GS [.lst true (bW (f::g::fs))]=some (.non,[.lst true (bW (kT g (gA f)::fs))]))
  (hL:∀m,0<=m->∃l,GL [.int m]=some (bN l)/\fR l) (hM:∀j s:Int,(a:Int)<=j/\j<a+many->s=31\/s=32->∃m,GM [S,.int j,.int s]=some (.int m)/\0<=m) (hn:nest<=100) (hmany:many<=90) (ha:a<=1000) (hnn:nest<n):
  ∃r,gP 4 6 (wi8 n GM GS GL) [S,.int a,.int many,.int nest]=some (.tup (pcsD r))/\RowOk nest (4*many) r:=by
 have i0:GInv nest 0 [⟨0,0,[],[]⟩]:=⟨by simp! [fIO,dY,iN],by decide,fun f hf=>by rw [Zc.mp hf];exact⟨trivial,trivial,ZL _,fun _=>rfl,Yb _,by decide⟩,rfl,⟨ZL _,ZL _,trivial⟩⟩
 obtain⟨fs1,y5,y6,y7,y8,y9,q,h1⟩:=yj1 (GM:=GM) (GS:=GS) (GL:=GL) (S:=S) (x1:=some (.int a)) (x2:=some (.int many)) hS hL hn ((List.range many).map fun(k:Nat)=>(a:Int)+(k:Int)) [⟨0,0,[],[]⟩] 0 none none none none none
  (fun j hj s hs=>by obtain⟨k,hk,rfl⟩:=YC.mp hj;have:=XD.mp hk;exact hM _ s (by omega) hs) i0 (by simp;omega)
 rw [<-xx4] at q
 rw [Zh,Yt,YA] at h1
 have hln:=h1.len
 obtain⟨f,w,h2⟩:=yj2 (GS:=GS) (x0:=some S) (x1:=some (.int a)) (x2:=some (.int many)) (x3:=some (.int nest)) (x5:=y5) (x6:=y6) (x7:=y7) (x8:=y8) (x9:=y9) hS (by omega) n fs1 (by omega) h1
 have hf:=h2.each f Z0
 have hd:=h2.deep.1
 have hwt:wF f+0<=4*many+4:=h2.wt
 refine⟨f.parts,?_,hf.2.1,by simpa using hd,by unfold wF at hwt;omega⟩
 have e:((a:Int)+(many:Int)-(a:Int)).toNat=many:=by omega
 have s0:aV 4 (aH (dA (aC (dA (aC (fC (.str "top")) (aC (fC (.int 0)) (aC (dA aE) (aC (dA aE) aE))))) aE))) [some S,some (.int a),some (.int many),some (.int nest),none,none,none,none,none,none]=some (.nx,[some S,some (.int a),some (.int many),some (.int nest),some (.lst true (bW [⟨0,0,[],[]⟩])),none,none,none,none,none]):=bF rfl
 have s1:iQ 5 (zi2 (aC (aA 1) (aC (f2 cE (aA 1) (aA 2)) aE))) (wV GM GS GL) [some S,some (.int a),some (.int many),some (.int nest),some (.lst true (bW [⟨0,0,[],[]⟩])),none,none,none,none,none]=some (.nx,[some S,some (.int a),some (.int many),some (.int nest),some (.lst true (bW fs1)),y5,y6,y7,y8,y9]):=by
  have e1:aC (aA 1) (aC (f2 cE (aA 1) (aA 2)) aE) [some S,some (.int a),some (.int many),some (.int nest),some (.lst true (bW [⟨0,0,[],[]⟩])),none,none,none,none,none]=some [.int a,.int ((a:Int)+(many:Int))]:=rfl
  unfold iQ zi2
  rw [e1,Z3,xr4 (by omega) (by omega) (by omega) (by omega),e]
  exact q
 have s3:aJ iT (aC (f2 dIx (f2 dIx (aA 4) (fC (.int 0))) (fC (.int 3))) aE) [some S,some (.int a),some (.int many),some (.int nest),some (.lst true (bW [f])),y5,y6,y7,y8,y9]=some (.tup (pcsD f.parts)):=by
  show aJ iT (aC (f2 dIx (f2 dIx (aA 4) (fC (.int 0))) (fC (.int 3))) aE) [some S,some (.int a),some (.int many),some (.int nest),some (.lst true [.lst true [.str (kdS f.kd),.int f.n,.lst true (rowsD f.full),.lst true (pcsD f.parts)]]),y5,y6,y7,y8,y9]=_
  simp! [fIO,dY,iN,pcs_imm]
 have z:=(aP s0).trans ((aP s1).trans ((aP w).trans (cL s3)))
 exact kF rfl z
end
abbrev xk0(GM GL:tz6):tz6:=gP 4 6 (yc8 GM zj2 GL)
theorem xy6{GM GL:tz6}{S:D}{nest a many:Nat}(hL:∀m,0<=m->∃l,GL [.int m]=some (bN l)/\fR l)(hM:∀j s:Int,(a:Int)<=j/\j<a+many->s=31\/s=32->∃m,GM [S,.int j,.int s]=some (.int m)/\0<=m)(hn:nest<=100)(hmany:many<=90)(ha:a<=1000):
  ∃r,xk0 GM GL [S,.int a,.int many,.int nest]=some (.tup (pcsD r))/\RowOk nest (4*many) r:=by
 obtain⟨r,h1,h2⟩:=wd9 (n:=400) (GS:=zj2) (fun f g fs h1 h2 h3 h4=>xi0 h1 h2 h3 h4) hL hM hn hmany ha (Yo hn (by decide))
 exact⟨r,h1,h2⟩
theorem ya9{m:Int}:∀(l:List Int) (w:Str) (x2 x4:Option D),(∀j∈l,0<=j/\j<100)->w.length+l.length<=100->w.cps.toList.all zX=true->
  ∃w' x4',dX 4 (aV 3 (aH (f2 cE (aA 3) (f2 dIx (aA 1) (f2 eA (f2 cE (f2 gG (aA 0) (fC (.int 12))) (f2 hX (aA 4) (f2 eA (f2 gG (aA 0) (fC (.int 9000))) (fC (.int 93))))) (fC (.int 93))))))) (l.map .int) [some (.int m),some (.str sg),x2,some (.str w),x4]
   =some (.nx,[some (.int m),some (.str sg),x2,some (.str w'),x4'])/\w'.length=w.length+l.length/\w'.cps.toList.all zX=true
 |[],w,x2,x4,_,_,hw=>⟨w,x4,by simp! [fKs,iQ,jV,hX,dF,dQ,zU,zT,D.flat,pV,dX],rfl,hw⟩
 |j::l,w,x2,x4,hj,hl,hw=>by
  rw [Z4] at hl
  have hj0:=hj j Z0
  obtain⟨c,hc,hg⟩:=wd5 ((m/12+j*(m/9000 % 93)) % 93) (ZD _ (by decide)) (ZB _ (by decide))
  have hw1:(w++(⟨#[c]⟩:Str)).length=w.length+1:=by rw [dM];rfl
  obtain⟨w',x4',q1,q2,q3⟩:=ya9 (m:=m) l (w++⟨#[c]⟩) x2 (some (.int j)) (fun i hi=>hj i (Z1 _ hi)) (by rw [hw1];omega) (by rw [bY,List.all_append,hw];simp! [fKs,iQ,jV,hX,dF,dQ,zU,zT,D.flat,pV,hg])
  refine⟨w',x4',?_,by rw [q2,hw1,Z4];omega,q3⟩
  rw [<-q1]
  have hz:w.length+(⟨#[c]⟩:Str).length<=sizeLine:=sz (by show w.length+1<=1000;omega)
  have b1:(-18446744073709551616<j/\j<18446744073709551616):=by omega
  simp! [fKs,iQ,jV,hX,dF,dQ,zU,zT,D.flat,pV,dX,hc,xr1,hz,b1]
abbrev yq2:tz6:=gP 1 4 yQ
theorem xs5{m:Int}(hm:0<=m):∃z,yq2 [.int m]=some (.str z)/\yc5 z:=by
 obtain⟨s,hs,h1,h2⟩:=xr2 m
 obtain⟨w,x4,q1,q2,q3⟩:=ya9 (m:=m) ((List.range s.toNat).map fun(k:Nat)=>(k:Int)) "" (some (.int s)) none
  (fun j hj=>by obtain⟨k,hk,rfl⟩:=YC.mp hj;have:=XD.mp hk;omega) (by rw [Zh,Yt];show 0+_<=100;omega) (by decide+kernel)
 rw [<-xx2] at q1
 rw [Zh,Yt] at q2
 have q2':w.length=s.toNat:=by rw [q2];show 0+_=_;omega
 refine⟨w,?_,by omega,by omega,q3⟩
 have hz:(Str.ofString "abcdefghijklmnopqrstuvwxyzABCDEFGHIJKLMNOPQRSTUVWXYZ0123456789").length+(Str.ofString "!\"#$&'()*+,-./:;<=>?\x40[\\]^_`{|}~").length<=sizeLine:=by decide+kernel
 have e1:Str.ofString "abcdefghijklmnopqrstuvwxyzABCDEFGHIJKLMNOPQRSTUVWXYZ0123456789"++Str.ofString "!\"#$&'()*+,-./:;<=>?\x40[\\]^_`{|}~"=sg:=rfl
 have b1:(-4611686018427387904<=s/\s<4611686018427387904):=by omega
 simp! [fKs,iQ,jV,hX,dF,dQ,zU,zT,D.flat,pV,yQ,hz,e1,hs,q1,b1]
abbrev zj4:tz6:=gP 1 1 (yR yq2)
theorem xs6{m:Int}(hm:0<=m):∃l,zj4 [.int m]=some (bN l)/\fR l:=by
 have hd:0<=m/16:=Int.ediv_nonneg hm (by decide)
 have s1:aV 1 (aH (f2 gG (aA 0) (fC (.int 16)))) [some (.int m),none]=some (.nx,[some (.int m),some (.int (m/16))]):=bF (aO rfl rfl ((dQ _ _).trans (if_pos (by decide))))
 have md:f2 eA (aA 0) (fC (.int 16)) [some (.int m),some (.int (m/16))]=some (.int (m % 16)):=aO rfl rfl ((dF _ _).trans (if_pos (by decide)))
 have t:∀c:Int,fB (f2 dLt (f2 eA (aA 0) (fC (.int 16))) (fC (.int c))) [some (.int m),some (.int (m/16))]=some (decide (m % 16<c)):=fun c=>dI (aO md rfl rfl)
 have out:∀{p:PSt} (l:Leaf),yR yq2 [some (.int m),none]=some (.ret (bN l),p)->zj4 [.int m]=some (bN l):=fun l h=>kF rfl h
 have t8:=t 8
 have t13:=t 13
 by_cases c1:m % 16<8
 ·obtain⟨z,q,hz⟩:=xs5 hd
  rw [Zn c1] at t8
  exact⟨.word z,out (.word z) ((aP s1).trans (eJ ((bR t8).trans (cL (fE (aD rfl (aD (aW (aD rfl rfl) q) rfl)) rfl (Zd rfl)))))),hz⟩
 ·rw [Zf c1] at t8
  by_cases c2:m % 16<13
  ·obtain⟨x,q,hx⟩:=xx3 (m/16)
   rw [Zn c2] at t13
   exact⟨.gap x,out (.gap x) ((aP s1).trans ((aP (bA t8)).trans (eJ ((bR t13).trans (cL (fE (aD rfl (aD (aO (gN rfl (Zd rfl)) (aO rfl rfl ((dF _ _).trans (if_pos (by decide)))) q) rfl)) rfl (Zd rfl))))))),hx⟩
  ·rw [Zf c2] at t13
   have te:fB (f2 dEq (f2 eA (aA 0) (fC (.int 16))) (fC (.int 13))) [some (.int m),some (.int (m/16))]=some (decide (m % 16=13)):=dI (aO md rfl rfl)
   by_cases c3:m % 16=13
   ·rw [Zn c3] at te
    exact⟨.fin,out .fin ((aP s1).trans ((aP (bA t8)).trans ((aP (bA t13)).trans (eJ ((bR te).trans (cL rfl)))))),trivial⟩
   ·rw [Zf c3] at te
    have ha:=ZD (m/16/2) (show(10:Int)≠0 by decide)
    have hb:=ZB (m/16/2) (show(0:Int)<10 by decide)
    have hc:=ZD (m/16/2) (show(41:Int)≠0 by decide)
    have he:=ZB (m/16/2) (show(0:Int)<41 by decide)
    obtain⟨c,q,h1,h2⟩:=xr3 (m/16/2 % 10) (m/16/2 % 41) (m/16) ⟨ha,Int.le_trans (Int.le_of_lt hb) (by decide)⟩ ⟨hc,Wa he⟩
    have dv:f2 gG (aA 1) (fC (.int 2)) [some (.int m),some (.int (m/16))]=some (.int (m/16/2)):=aO rfl rfl ((dQ _ _).trans (if_pos (by decide)))
    exact⟨.stop c,out (.stop c) ((aP s1).trans ((aP (bA t8)).trans ((aP (bA t13)).trans ((aP (bA te)).trans (cL (fE (aD rfl (aD (aO (gN (aD (aO dv rfl ((dF _ _).trans (if_pos (by decide)))) (aD (aO dv rfl ((dF _ _).trans (if_pos (by decide)))) rfl)) (Zd rfl)) (aO rfl rfl ((dF _ _).trans (if_pos (by decide)))) q) rfl)) rfl (Zd rfl))))))),h1,h2⟩
theorem yb0:∀(ys:List Str),ys≠[]->(∀y∈ys,(y:Str).length<=(Str.join ⟨#[10]⟩ ys).length)/\ys.length<=(Str.join ⟨#[10]⟩ ys).length+1
 |[],h=>absurd rfl h
 |[y],_=>⟨fun z hz=>by rw [Zc.mp hz];exact Za _,Nat.le_add_left _ _⟩
 | x::y::r,_=>by
  obtain⟨h1,h2⟩:=yb0 (y::r) (by simp)
  have e:(Str.join ⟨#[10]⟩ (x::y::r)).length=x.length+1+(Str.join ⟨#[10]⟩ (y::r)).length:=by
   show(Str.join ⟨#[10]⟩ (x::y::r)).cps.size=x.cps.size+1+(Str.join ⟨#[10]⟩ (y::r)).cps.size
   rw [<-Yi,lI,Z5,Z4,Yi,Yi];omega
  rw [e]
  refine⟨fun z hz=> ?_,by rw [Z4];omega⟩
  rcases Z6.mp hz with rfl|hz
  ·omega
  ·have:=h1 z hz;omega
theorem xs7(t:Str):(∀y∈lns t,(y:Str).length<=t.length)/\(lns t).length<=t.length+1:=by
 have:=yb0 (lns t) (zg6 t)
 rwa [oZ] at this
theorem xi2{f:tz2}{p:PSt}{t:Str}(h:f p=some (.str t))(hl:t.length<=900000):fMt uU f (aC (fC (.str "\n")) aE) p=some (.lst true (L2.cQ (lns t))):=by
 unfold fMt
 rw [h,Z3,aD (f:=fC (.str "\n")) (g:=aE) (d:= .str "\n") (ds:=[]) rfl rfl,Z3,if_pos (show zi0 (.str t)=true from rfl)]
 unfold lns
 rw [<-zg2]
 exact if_pos ⟨by decide+kernel,by omega⟩
theorem sZ:∀ys:List Str,D.imms (L2.cQ ys)=true
 |[]=>rfl
 |y::ys=>by show((D.str y).imm&&D.imms (L2.cQ ys))=true;rw [sZ ys];rfl
def yW:tz1:=fIf (aT (fB (f2 dGt (aJ cT (aC (aA 3) aE)) (aA 1)))) (bS (aH (fC .non))) bK
theorem zh4{W:Int}{a c:Option D}:∀(ls:List Str) (x3:Option D),(∀l∈ls,((l:Str).length:Int)<=W/\l.length<=900000)->∃z,dX 3 yW (L2.cQ ls) [a,some (.int W),c,x3]=some (.nx,[a,some (.int W),c,z])
 |[],x3,_=>⟨x3,rfl⟩
 | l::ls,x3,h=>by
  obtain⟨h1,h2⟩:=h l Z0
  obtain⟨z,q⟩:=zh4 (W:=W) (a:=a) (c:=c) ls (some (.str l)) fun y hy=>h y (Z1 _ hy)
  refine⟨z,?_⟩
  have hs:sizeLine=16777216:=Ye
  have t:fB (f2 dGt (aJ cT (aC (aA 3) aE)) (aA 1)) [a,some (.int W),c,some (.str l)]=some false:=dI (aO (aW (aD rfl rfl) (if_pos (by omega))) rfl (by
   show some (D.bl (decide (W<(l.length:Int))))=_
   rw [Zf (by omega)]))
  show dX 3 yW (.str l::L2.cQ ls) _=_
  rw [dX]
  show((yW [a,some (.int W),c,some (.str l)]).bind _)=_
  rw [show yW [a,some (.int W),c,some (.str l)]=some (.nx,[a,some (.int W),c,some (.str l)]) from bA t]
  exact q
def yq3(W:Int)(ls:List Str):List Int:=ls.map fun l=>(W-(l.length:Int))*(W-(l.length:Int))
abbrev zn8:tz2:=f2 hX (f2 gF (aA 1) (aJ cT (aC (aA 0) aE))) (f2 gF (aA 1) (aJ cT (aC (aA 0) aE)))
theorem yb1{W:Int}(x:Option D)(hW:W<=40):∀ls:List Str,(∀l∈ls,((l:Str).length:Int)<=W)->jA [x,some (.int W)] nC zn8 (L2.cQ ls)=some (bE (yq3 W ls))
 |[],_=>rfl
 |l::ls,h=>by
  have h1:=h l Z0
  have ih:=yb1 x hW ls fun y hy=>h y (Z1 _ hy)
  have hs:sizeLine=16777216:=Ye
  have ln:aJ cT (aC (aA 0) aE) [some (.str l),some (.int W)]=some (.int (l.length:Int)):=aW (aD rfl rfl) (if_pos (by omega))
  have e:zn8 [some (.str l),some (.int W)]=some (.int ((W-(l.length:Int))*(W-(l.length:Int)))):=aO (aO rfl ln rfl) (aO rfl ln rfl) (if_pos (yz6 (by omega) (by omega)))
  show jA [x,some (.int W)] nC zn8 (.str l::L2.cQ ls)=_
  rw [jA]
  show(some true).bind (fun b=>if b=true then(zn8 [some (.str l),some (.int W)]).bind _ else _)=_
  rw [Z3,if_pos rfl,e,Z3,ih];rfl
abbrev nJ:tz6:=gP 2 2 zi7
theorem yF{t:Str}{W:Int}{k:Nat}{ln rg:Int}(h:kC W t k ln rg)(hW:W<=40)(hl:t.length<=900000):nJ [.str t,.int W]=some (.tup [.int ln,.int rg]):=by
 obtain⟨xs,y,e1,e2,e3,rfl,rfl⟩:=h
 obtain⟨hy,hn⟩:=xs7 t
 rw [e1] at hy hn
 have hs:sizeLine=16777216:=Ye
 have le:(L2.cQ (xs++[y])).length=xs.length+1:=by unfold L2.cQ;simp
 have sp:=xi2 (f:=aA 0) (p:=[some (.str t),some (.int W),none,none]) (t:=t) rfl hl
 rw [e1] at sp
 obtain⟨z,q⟩:=zh4 (W:=W) (a:=some (.str t)) (c:=some (.lst true (L2.cQ (xs++[y])))) (xs++[y]) none fun l h=>⟨e2 l h,ZC (hy l h) hl⟩
 have s1:aV 2 (aH (fMt uU (aA 0) (aC (fC (.str "\n")) aE))) [some (.str t),some (.int W),none,none]=some (.nx,[some (.str t),some (.int W),some (.lst true (L2.cQ (xs++[y]))),none]):=bF sp
 have s2:zt8 3 2 yW [some (.str t),some (.int W),some (.lst true (L2.cQ (xs++[y]))),none]=some (.nx,[some (.str t),some (.int W),some (.lst true (L2.cQ (xs++[y]))),z]):=by
  unfold zt8
  show(some (D.lst true (L2.cQ (xs++[y])))).bind _=_
  rw [Z3,show jV (.lst true (L2.cQ (xs++[y])))=some (L2.cQ (xs++[y])) from if_pos (sZ _),Z3,q];rfl
 have sl:fSl (aA 2) jI (nY (dL (fC (.int 1)))) [some (.str t),some (.int W),some (.lst true (L2.cQ (xs++[y]))),z]=some (.lst true (L2.cQ xs)):=by
  show(if D.imms (L2.cQ (xs++[y]))=true then some (D.lst true (L2.yb9 (L2.cQ (xs++[y])) none (some (-1)))) else none)=_
  rw [if_pos (sZ _)]
  unfold L2.yb9
  rw [HT.sIx_none,X5,Nat.sub_zero,show HT.sIx (L2.cQ (xs++[y])).length (L2.cQ (xs++[y])).length (some (-1))=xs.length by rw [le];simp only [HT.sIx];rw [if_pos (by decide)];omega]
  unfold L2.cQ
  rw [Y4,List.take_left' (by simp)]
 have cp:mX [none,some 1] (eT (fSl (aA 2) jI (nY (dL (fC (.int 1)))))) nC zn8 [some (.str t),some (.int W),some (.lst true (L2.cQ (xs++[y]))),z]=some (.lst true (bE (yq3 W xs))):=by
  unfold mX eT
  rw [sl,Z3,show jV (.lst true (L2.cQ xs))=some (L2.cQ xs) from if_pos (sZ _),Z3]
  rw [if_pos (by unfold L2.cQ;rw [Zh];simp at hn;omega)]
  show(jA [none,some (.int W)] nC zn8 (L2.cQ xs)).bind _=_
  rw [yb1 none hW xs fun l h=>e2 l (Zm _ h)];rfl
 refine jT rfl (dG s1 (dG s2 ⟨_,cL (fE (aD (d:= .int ((xs.length:Int)+1)) (aW (aD rfl rfl) (by show some (D.int ((L2.cQ (xs++[y])).length:Int))=_;rw [le];rfl)) (aD (d:= .int (zd7 W xs)) (aW (aD cp rfl) (by show(D.ints (bE (yq3 W xs))).map _=_;rw [zg5];rfl)) rfl)) rfl (by simp))⟩))
def nb(y x:Way):Prop:=ltW x y=false
theorem rK:∀a:List Int,HT.lexLt a a=false
 |[]=>rfl
 |x::a=>by show(if x=x then HT.lexLt a a else _)=_;rw [if_pos rfl];exact rK a
theorem yj3:∀{a b c:List Int},HT.lexLt a b=false->HT.lexLt b c=false->HT.lexLt a c=false
 |[],[],c,_,h=>h
 |[],_::_,_,h,_=>by cases h
 |x::a,b,[],_,_=>rfl
 |x::a,[],z::c,_,h=>by cases h
 | x::a,y::b,z::c,h1,h2=>by
  have h1':(if x=y then HT.lexLt a b else decide (x<y))=false:=h1
  have h2':(if y=z then HT.lexLt b c else decide (y<z))=false:=h2
  show(if x=z then HT.lexLt a c else decide (x<z))=false
  by_cases e1:x=y
  ·subst e1
   rw [if_pos rfl] at h1'
   by_cases e2:x=z
   ·subst e2
    rw [if_pos rfl] at h2'|-
    exact yj3 h1' h2'
   ·rw [if_neg e2] at h2'|-;exact h2'
  ·rw [if_neg e1] at h1'
   have g1:=Yp h1'
   by_cases e2:y=z
   ·subst e2
    rw [if_neg e1];exact h1'
   ·rw [if_neg e2] at h2'
    have g2:=Yp h2'
    rw [if_neg (by omega)]
    exact Zf (by omega)
theorem xy7(a b a' b':Int):HT.lexLt [a,b] [a',b']=(if a=a' then(if b=b' then false else decide (b<b')) else decide (a<a')):=rfl
theorem uQ{y x:Way}:nb y x↔y.1.1<x.1.1\/(y.1.1=x.1.1/\(y.1.2<x.1.2\/(y.1.2=x.1.2/\HT.lexLt x.2 y.2=false))):=by
 have e:ltW x y=(if [x.1.1,x.1.2]=[y.1.1,y.1.2] then(if x.2=y.2 then false else HT.lexLt x.2 y.2) else HT.lexLt [x.1.1,x.1.2] [y.1.1,y.1.2]):=rfl
 have e2:(if x.2=y.2 then false else HT.lexLt x.2 y.2)=HT.lexLt x.2 y.2:=by
  by_cases c:x.2=y.2
  ·rw [if_pos c,c,rK]
  ·rw [if_neg c]
 unfold nb
 rw [e,e2,xy7]
 by_cases c1:x.1.1=y.1.1
 ·by_cases c2:x.1.2=y.1.2
  ·rw [if_pos (by rw [c1,c2])]
   constructor
   ·exact fun h=> .inr ⟨c1.symm,.inr ⟨c2.symm,h⟩⟩
   ·rintro(h|⟨_,h|⟨_,h⟩⟩)
    ·omega
    ·omega
    ·exact h
  ·rw [if_neg (by simp [c1,c2]),if_pos c1,if_neg c2]
   constructor
   ·intro h
    have:=Yp h
    exact .inr ⟨c1.symm,.inl (by omega)⟩
   ·rintro(h|⟨_,h|⟨h,_⟩⟩)
    ·omega
    ·exact Zf (by omega)
    ·omega
 ·rw [if_neg (by simp [c1]),if_neg c1]
  constructor
  ·intro h
   have:=Yp h
   exact .inl (by omega)
  ·rintro(h|⟨h,_⟩)
   ·exact Zf (by omega)
   ·omega
theorem uR(x:Way):nb x x:=uQ.mpr (.inr ⟨rfl,.inr ⟨rfl,rK _⟩⟩)
theorem wA{z y x:Way}(h1:nb z y)(h2:nb y x):nb z x:=by
 rw [uQ] at*
 rcases h1 with a|⟨a,a'|⟨a',a''⟩⟩<;>rcases h2 with b|⟨b,b'|⟨b',b''⟩⟩
 ·exact .inl (by omega)
 ·exact .inl (by omega)
 ·exact .inl (by omega)
 ·exact .inl (by omega)
 ·exact .inr ⟨by omega,.inl (by omega)⟩
 ·exact .inr ⟨by omega,.inl (by omega)⟩
 ·exact .inl (by omega)
 ·exact .inr ⟨by omega,.inl (by omega)⟩
 ·exact .inr ⟨by omega,.inr ⟨by omega,yj3 b'' a''⟩⟩
theorem xi3:∀{a b:List Int},HT.lexLt a b=true->HT.lexLt b a=false:=fun {a b} h=>by
 cases e:HT.lexLt b a with
 |false=>rfl
 | true =>
  cases e2:HT.lexLt a a with
  | false=>
   exact absurd h (by
    intro _
    have:∀{a b:List Int},HT.lexLt a b=true->HT.lexLt b a=true->False:=by
     intro a
     induction a with
     |nil=>intro b _ h2;cases b<;>cases h2
     | cons x a ih=>
      intro b h1 h2
      cases b with
      |nil=>cases h1
      | cons y b=>
       have h1':(if x=y then HT.lexLt a b else decide (x<y))=true:=h1
       have h2':(if y=x then HT.lexLt b a else decide (y<x))=true:=h2
       by_cases c:x=y
       ·subst c
        rw [if_pos rfl] at h1' h2'
        exact ih h1' h2'
       ·rw [if_neg c] at h1'
        rw [if_neg (fun z=>c z.symm)] at h2'
        have:=Xl h1'
        have:=Xl h2'
        omega
    exact this h e)
  |true=>rw [rK] at e2;cases e2
theorem yb2{x y:Way}(h:ltW x y=true):nb x y:=by
 have h':¬nb y x:=fun z=>by unfold nb at z;rw [h] at z;cases z
 rw [uQ] at h'|-
 by_cases c1:x.1.1<y.1.1
 ·exact .inl c1
 ·by_cases c2:x.1.1=y.1.1
  ·refine .inr ⟨c2,?_⟩
   by_cases c3:x.1.2<y.1.2
   ·exact .inl c3
   ·by_cases c4:x.1.2=y.1.2
    ·refine .inr ⟨c4,?_⟩
     cases e:HT.lexLt x.2 y.2 with
     |false=>exact absurd (.inr ⟨c2.symm,.inr ⟨c4.symm,e⟩⟩) h'
     |true=>exact xi3 e
    ·exact absurd (.inr ⟨c2.symm,.inl (by omega)⟩) h'
  ·exact absurd (.inl (by omega)) h'
theorem xy8{y x:Way}(h:nb y x)(i j:Int):nb ((y.1.1+i,y.1.2+j),y.2) ((x.1.1+i,x.1.2+j),x.2):=by
 rw [uQ] at h|-
 rcases h with a|⟨a,b|⟨b,c⟩⟩
 ·exact .inl (by show y.1.1+i<x.1.1+i;omega)
 ·exact .inr ⟨by show y.1.1+i=x.1.1+i;omega,.inl (by show y.1.2+j<x.1.2+j;omega)⟩
 ·exact .inr ⟨by show y.1.1+i=x.1.1+i;omega,.inr ⟨by show y.1.2+j=x.1.2+j;omega,c⟩⟩
def yq4(a b:List Int):Prop:=(∀x,b=a++x->x=[])/\(∀x,a=b++x->x=[])
theorem yj4:∀{a b:List Int},yq4 a b->∀u,HT.lexLt (a++u) (b++u)=HT.lexLt a b
 |[],b,h,u=>by
  have:b=[]:=h.1 b rfl
  subst this
  rw [Yk,rK,rK]
 |a::as,[],h,u=>by have:=h.2 (a::as) rfl;cases this
 | x::a,y::b,h,u=>by
  show(if x=y then HT.lexLt (a++u) (b++u) else decide (x<y))=(if x=y then HT.lexLt a b else decide (x<y))
  by_cases c:x=y
  ·subst c
   rw [if_pos rfl,if_pos rfl]
   exact yj4 ⟨fun z hz=>h.1 z (by rw [hz];rfl),fun z hz=>h.2 z (by rw [hz];rfl)⟩ u
  ·rw [if_neg c,if_neg c]
theorem xy9{y x:Way}(h:nb y x)(ha:yq4 x.2 y.2)(u:List Int):nb (y.1,y.2++u) (x.1,x.2++u):=by
 rw [uQ] at h|-
 rcases h with a|⟨a,b|⟨b,c⟩⟩
 ·exact .inl a
 ·exact .inr ⟨a,.inl b⟩
 ·exact .inr ⟨a,.inr ⟨b,by show HT.lexLt (x.2++u) (y.2++u)=false;rw [yj4 ha];exact c⟩⟩
theorem yj5:∀{F:Frt} {k:Nat} {y:Way},mP F k=some y->(k,y)∈F
 |[],_,_,h=>by cases h
 |p::F,k,y,h=>by
  rw [mP] at h
  by_cases e:p.1=k
  ·rw [if_pos e] at h;cases h;subst e;exact Z0
  ·rw [if_neg e] at h;exact Z1 _ (yj5 h)
theorem yj6:∀{F:Frt} {k:Nat} {y z:Way},(F.map (·.1)).Nodup->(k,y)∈F->(k,z)∈F->y=z
 |[],_,_,_,_,h,_=>by cases h
 |p::F,k,y,z,nd,h1,h2=>by
  rw [Z8,Zs] at nd
  rcases Z6.mp h1 with e1|e1<;>rcases Z6.mp h2 with e2|e2
  ·rw [<-e2] at e1;cases e1;rfl
  ·exact absurd (Yz (f:=(·.1)) e2) (by rw [<-e1] at nd;exact nd.1)
  ·exact absurd (Yz (f:=(·.1)) e1) (by rw [<-e2] at nd;exact nd.1)
  ·exact yj6 nd.2 e1 e2
theorem zn2:∀{F:Frt} {k:Nat} {x y:Way},(k,y)∈F->(k,x)∈lU F k x
 |[],_,_,_,h=>by cases h
 |p::F,k,x,y,h=>by
  rw [lU]
  rcases Z6.mp h with e|e
  ·rw [<-e,if_pos rfl];exact Z0
  ·exact Z1 _ (zn2 e)
theorem yb3:∀{F:Frt} {k:Nat} {x:Way} {q:Nat×Way},q∈F->q.1≠k->q∈lU F k x
 |[],_,_,_,h,_=>by cases h
 |p::F,k,x,q,h,hk=>by
  rw [lU]
  rcases Z6.mp h with e|e
  ·rw [<-e,if_neg hk];exact Z0
  ·exact Z1 _ (yb3 e hk)
def Has(F:Frt)(k:Nat)(x:Way):Prop:=∃y,(k,y)∈F/\nb y x
theorem Has.le{F:Frt}{k:Nat}{x z:Way}(h:Has F k x)(hz:nb x z):Has F k z:=by
 obtain⟨y,a,b⟩:=h
 exact⟨y,a,wA b hz⟩
theorem yj7{F:Frt}{k:Nat}{x:Way}(h:(F.map (·.1)).Nodup):((gT F k x).map (·.1)).Nodup:=by
 unfold gT
 cases e:mP F k with
 |none=>
  simp only
  rw [Y4,Zz]
  refine⟨h,by simp,fun a ha b hb z=> ?_⟩
  simp only [Z8,Xk,Zc] at hb
  subst hb
  subst z
  exact yC e ha
 |some y=>
  simp only
  split
  ·rw [sX];exact h
  ·exact h
theorem yb4{F:Frt}{k:Nat}{x:Way}(nd:(F.map (·.1)).Nodup):Has (gT F k x) k x/\∀j z,Has F j z->Has (gT F k x) j z:=by
 unfold gT
 cases e:mP F k with
 |none=>
  simp only
  exact⟨⟨x,by simp,uR x⟩,fun j z ⟨y,a,b⟩=>⟨y,Zm _ a,b⟩⟩
 | some y=>
  simp only
  have hy:=yj5 e
  by_cases c:ltW x y=true
  ·rw [if_pos c]
   refine⟨⟨x,zn2 hy,uR x⟩,fun j z ⟨y',a,b⟩=> ?_⟩
   by_cases hj:j=k
   ·subst hj
    rw [yj6 nd a hy] at b
    exact⟨x,zn2 hy,wA (yb2 c) b⟩
   ·exact⟨y',yb3 a hj,b⟩
  ·rw [if_neg c]
   exact⟨⟨y,hy,by unfold nb;simpa using c⟩,fun j z h=>h⟩
theorem wB:∀{G F:Frt},(F.map (·.1)).Nodup->((jL F G).map (·.1)).Nodup/\(∀p∈G,Has (jL F G) p.1 p.2)/\∀j z,Has F j z->Has (jL F G) j z
 |[],F,nd=>⟨nd,fun p h=>absurd h ZX,fun _ _ h=>h⟩
 |p::G,F,nd=>by
  obtain⟨a,b,c⟩:=wB (G:=G) (yj7 (k:=p.1) (x:=p.2) nd)
  obtain⟨d,e⟩:=yb4 (k:=p.1) (x:=p.2) nd
  refine⟨a,fun q hq=> ?_,fun j z h=>c j z (e j z h)⟩
  rcases Z6.mp hq with h|h
  ·subst h;exact c _ _ d
  ·exact b q h
mutual
theorem yb5:∀{p:Pc} {b:Bool} {m:Int} {cs cs':List Int} {t t':Str},cF b m p cs t=some (cs',t')->∃a,cs=a++cs'/\cF b m p a t=some ([],t')
 | .leaf l,b,m,cs,cs',t,t',h=>by
  rw [cF] at h
  cases e:wr b m (col t) l with
  |none=>rw [e] at h;cases h
  |some w=>rw [e] at h;cases h;exact⟨[],rfl,by rw [cF,e];rfl⟩
 | .group r,b,m,cs,cs',t,t',h=>by
  rw [cF.eq_def] at h
  simp only at h
  cases b with
  |false=>
   simp only [ZH,Yg] at h
   obtain⟨a,e1,e2⟩:=setR_cut h
   exact⟨a,e1,by rw [cF.eq_def];simpa using e2⟩
  | true=>
   cases cs with
   |nil=>simp at h
   | cons c cs=>
    simp only [ZS] at h
    by_cases c0:c=0
    ·simp only [c0,ZS] at h
     obtain⟨a,e1,e2⟩:=setR_cut h
     exact⟨c::a,by rw [e1];rfl,by rw [cF.eq_def];simpa [c0] using e2⟩
    ·by_cases c1:c=1
     ·simp [c1] at h
      obtain⟨a,e1,e2⟩:=setR_cut h
      exact⟨c::a,by rw [e1];rfl,by rw [cF.eq_def];simpa [c1] using e2⟩
     ·simp [c0,c1] at h
 | .hang n r,b,m,cs,cs',t,t',h=>by
  rw [cF] at h
  obtain⟨a,e1,e2⟩:=setR_cut h
  exact⟨a,e1,by rw [cF];exact e2⟩
 | .either rs,b,m,cs,cs',t,t',h=>by
  rw [cF.eq_def] at h
  cases cs with
  |nil=>cases h
  | cons c cs=>
   simp only at h
   by_cases c0:0<=c
   ·simp only [c0,ZS] at h
    obtain⟨a,e1,e2⟩:=setAt_cut h
    exact⟨c::a,by rw [e1];rfl,by rw [cF.eq_def];simpa [c0] using e2⟩
   ·simp [c0] at h
theorem setR_cut:∀{r:List Pc} {b:Bool} {m:Int} {cs cs':List Int} {t t':Str},setR b m r cs t=some (cs',t')->∃a,cs=a++cs'/\setR b m r a t=some ([],t')
 |[],b,m,cs,cs',t,t',h=>by rw [setR] at h;cases h;exact⟨[],rfl,by rw [setR]⟩
 | p::r,b,m,cs,cs',t,t',h=>by
  rw [setR] at h
  cases e:cF b m p cs t with
  |none=>rw [e] at h;cases h
  |some s=>
   obtain⟨c1,t1⟩:=s
   rw [e] at h
   obtain⟨a,e1,e2⟩:=yb5 e
   obtain⟨a',e3,e4⟩:=setR_cut (show setR b m r c1 t1=some (cs',t') from h)
   refine⟨a++a',by rw [e1,e3,Zp],?_⟩
   rw [setR,sU a' e2]
   exact e4
theorem setAt_cut:∀{rs:List (List Pc)} {i:Nat} {b:Bool} {m:Int} {cs cs':List Int} {t t':Str},setAt b m rs i cs t=some (cs',t')->∃a,cs=a++cs'/\setAt b m rs i a t=some ([],t')
 |[],i,b,m,cs,cs',t,t',h=>by rw [setAt] at h;cases h
 |r::rs,0,b,m,cs,cs',t,t',h=>by
  rw [setAt] at h
  obtain⟨a,e1,e2⟩:=setR_cut h
  exact⟨a,e1,by rw [setAt];exact e2⟩
 |r::rs,i+1,b,m,cs,cs',t,t',h=>by
  rw [setAt] at h
  obtain⟨a,e1,e2⟩:=setAt_cut h
  exact⟨a,e1,by rw [setAt];exact e2⟩
end
def oR(R:List Int->Str->Prop):Prop:=∀c x t t',R c t->R (c++x) t'->x=[]/\t=t'
theorem oR.apart{R:List Int->Str->Prop}(h:oR R){a b:List Int}{s t:Str}(ha:R a s)(hb:R b t):yq4 a b:=
 ⟨fun x e=>by subst e;exact(h a x s t ha hb).1,fun x e=>by subst e;exact(h b x t s hb ha).1⟩
theorem zr4:∀{a b c d:List Int},a++b=c++d->(∃x,c=a++x)\/∃x,a=c++x:=fun {a b c d} h=>by
 rcases List.append_eq_append_iff.mp h with ⟨x,e,_⟩|⟨x,e,_⟩
 ·exact .inl ⟨x,e⟩
 ·exact .inr ⟨x,e⟩
theorem oR.aft{R:List Int->Str->Prop}{set:List Int->Str->Option (List Int×Str)}(h:oR R)(hs:∀c x t t',set c t=some ([],t')->set (c++x) t=some (x,t')):oR (Aft R set):=by
 rintro c x t t' ⟨c0,t0,c1,r1,rfl,e1⟩ ⟨d0,s0,d1,r2,e,e2⟩
 have key:c0=d0/\t0=s0:=by
  rcases zr4 (show c0++(c1++x)=d0++d1 by rw [<-e,Zp]) with ⟨z,rfl⟩|⟨z,rfl⟩
  ·obtain⟨rfl,rfl⟩:=h c0 z t0 s0 r1 r2
   exact⟨by rw [Zl],rfl⟩
  ·obtain⟨rfl,rfl⟩:=h d0 z s0 t0 r2 r1
   exact⟨by rw [Zl],rfl⟩
 obtain⟨rfl,rfl⟩:=key
 rw [Zp] at e
 have ed:=YU e
 subst ed
 rw [hs c1 x t0 t e1] at e2
 cases e2
 exact⟨rfl,rfl⟩
theorem oR.chose{R:List Int->Str->Prop}(h:oR R)(n:Int):oR (zu6 R n):=by
 rintro c x t t' ⟨c0,r1,rfl⟩ ⟨d0,r2,e⟩
 rcases zr4 (show c0++([n]++x)=d0++[n] by rw [<-e,Zp]) with ⟨z,rfl⟩|⟨z,rfl⟩
 ·obtain⟨rfl,rfl⟩:=h c0 z t t' r1 r2
  rw [Zl,Zp] at e
  have:=YU e
  exact⟨by simpa using this,rfl⟩
 ·obtain⟨rfl,rfl⟩:=h d0 z t' t r2 r1
  rw [Zl,Zp] at e
  have:=YU e
  exact⟨by simpa using this,rfl⟩
def lW(W:Int)(R:List Int->Str->Prop)(F:Frt):Prop:=∀c t k ln rg,R c t->kC W t k ln rg->Has F k ((ln,rg),c)
theorem lW.mono{W:Int}{R R':List Int->Str->Prop}{F:Frt}(h:lW W R F)(k:∀c t,R' c t->R c t):lW W R' F:=fun c t j ln rg r hc=>h c t j ln rg (k c t r) hc
theorem yo7{W:Int}{R:List Int->Str->Prop}{F:Frt}(hf:oR R)(hg:Good W R F)(h:lW W R F)(n:Int):lW W (zu6 R n) (kD F n):=by
 rintro c t k ln rg ⟨c0,r,rfl⟩ hc
 obtain⟨y,hy,hn⟩:=h c0 t k ln rg r hc
 obtain⟨t',ry,_⟩:=hg.hit _ hy
 have:=(wB (G:=F.map (yd3 n)) (F:=[]) Zi).2.1 (yd3 n (k,y)) (Yz hy)
 exact this.le (xy9 hn (hf.apart r ry) [n])
theorem xa9{W:Int}{t:Str}{k k':Nat}{ln ln' rg rg':Int}(h:kC W t k ln rg)(h':kC W t k' ln' rg'):k=k'/\ln=ln'/\rg=rg':=by
 obtain⟨xs,y,e,_,rfl,rfl,rfl⟩:=h
 obtain⟨xs',y',e',_,rfl,rfl,rfl⟩:=h'
 rw [e] at e'
 have h1:=X3 e' rfl
 have h2:=YY e' rfl
 subst h1
 cases h2
 exact⟨rfl,rfl,rfl⟩
theorem xb0{W:Int}{b:Bool}{m:Int}{l:Leaf}{t w:Str}{k:Nat}{ln rg:Int}(hl:fR l)(h0:0<=m)(h1:m<=200)(hw:wr b m (col t) l=some w)(hc:kC W (t++w) k ln rg):∃ln0 rg0 i j,kC W t (col t) ln0 rg0/\(∀c:Int×Int,iW W b m l (col t) c=some (k,(c.1+i,c.2+j)))/\ln=ln0+i/\rg=rg0+j:=by
 obtain⟨xs,y,e⟩:=xh1 t
 have ck:=ya2 e
 obtain⟨ys,z,f1,f2,rfl,rfl,rfl⟩:=hc
 rcases(zJ hl h0 h1 hw).1 with hn|⟨m',rfl⟩
 ·have e2:=yi1 e hn
  rw [e2] at f1
  have g1:=X3 f1 rfl
  have g2:=YY f1 rfl
  subst g1
  cases g2
  have hz:=f2 (y++w) (by simp)
  rw [dM] at hz
  refine⟨(xs.length:Int)+1,zd7 W xs,0,0,⟨xs,y,e,fun q hq=> ?_,ck,rfl,rfl⟩,fun c=> ?_,by omega,by omega⟩
  ·rcases Zq.mp hq with g|g
   ·exact f2 q (Zm _ g)
   ·rw [Zc.mp g];omega
  ·unfold iW
   rw [hw,Z3,xl2 hn]
   simp only [ZH,Yg]
   rw [if_neg (by rw [ck];omega),dM,ck,Int.add_zero,Int.add_zero]
 ·have e2:lns (t++nlw m')=lns t++[Txt.mul " " m']:=yz1 (zg3 m')
  rw [e2,e] at f1
  have g1:=X3 f1 rfl
  have g2:=YY f1 rfl
  subst g1
  cases g2
  have hz:=f2 (Txt.mul " " m') (by simp)
  rw [kN] at hz
  refine⟨(xs.length:Int)+1,zd7 W xs,1,(W-(col t:Int))*(W-(col t:Int)),⟨xs,y,e,fun q hq=>f2 q (Zm _ hq),ck,rfl,rfl⟩,fun c=> ?_,by rw [Z5];simp,?_⟩
  ·unfold iW
   rw [hw,Z3,yz2]
   simp only [ZS]
   rw [yi3,if_neg (by omega),kN]
  ·rw [ck]
   unfold zd7
   rw [Y4,List.sum_append]
   simp
theorem yG{W:Int}{b:Bool}{m:Int}{l:Leaf}:∀{F G:Frt},(G.map (·.1)).Nodup->((jM W b m l F G).map (·.1)).Nodup/\(∀p∈F,∀s,iW W b m l p.1 p.2.1=some s->Has (jM W b m l F G) s.1 (s.2,p.2.2))/\∀j z,Has G j z->Has (jM W b m l F G) j z
 |[],G,nd=>⟨nd,fun p h=>absurd h ZX,fun _ _ h=>h⟩
 | p::F,G,nd=>by
  cases e:iW W b m l p.1 p.2.1 with
  | none=>
   have eq:jM W b m l (p::F) G=jM W b m l F G:=by
    show jM W b m l F (match iW W b m l p.1 p.2.1 with|none=>G|some s=>gT G s.1 (s.2,p.2.2))=_
    rw [e]
   obtain⟨a,h1,h2⟩:=yG (W:=W) (b:=b) (m:=m) (l:=l) (F:=F) nd
   rw [eq]
   refine⟨a,fun q hq s hs=> ?_,h2⟩
   rcases Z6.mp hq with z|z
   ·rw [z,e] at hs;cases hs
   ·exact h1 q z s hs
  | some s=>
   have eq:jM W b m l (p::F) G=jM W b m l F (gT G s.1 (s.2,p.2.2)):=by
    show jM W b m l F (match iW W b m l p.1 p.2.1 with|none=>G|some s=>gT G s.1 (s.2,p.2.2))=_
    rw [e]
   obtain⟨a,h1,h2⟩:=yG (W:=W) (b:=b) (m:=m) (l:=l) (F:=F) (yj7 (k:=s.1) (x:=(s.2,p.2.2)) nd)
   obtain⟨d,f⟩:=yb4 (k:=s.1) (x:=(s.2,p.2.2)) nd
   rw [eq]
   refine⟨a,fun q hq s' hs=> ?_,fun j z h=>h2 j z (f j z h)⟩
   rcases Z6.mp hq with z|z
   ·rw [z,e] at hs;cases hs;rw [z];exact h2 _ _ d
   ·exact h1 q z s' hs
theorem yo8{W:Int}{R:List Int->Str->Prop}{b:Bool}{m:Int}{l:Leaf}{F:Frt}(hl:fR l)(h0:0<=m)(h1:m<=200)(h:lW W R F):lW W (Aft R (cF b m (.leaf l))) (jM W b m l F []):=by
 rintro c t k ln rg ⟨c0,t0,c1,r,rfl,e⟩ hc
 rw [cF] at e
 cases ew:wr b m (col t0) l with
 |none=>rw [ew] at e;cases e
 |some w=>
  rw [ew] at e
  cases e
  obtain⟨ln0,rg0,i,j,g1,g2,rfl,rfl⟩:=xb0 hl h0 h1 ew hc
  obtain⟨y,hy,hn⟩:=h c0 t0 _ _ _ r g1
  have:=(yG (W:=W) (b:=b) (m:=m) (l:=l) (F:=F) (G:=[]) Zi).2.1 (col t0,y) hy _ (g2 y.1)
  rw [Zl]
  exact this.le (xy8 hn i j)
theorem xs8{b:Bool}{m:Int}{p:Pc}{c:List Int}{t t':Str}(hp:∀l,p≠ .leaf l)(h:cF b m p c t=some ([],t')):∃(i:Nat) (x:List Pc×Bool×Int) (c':List Int),(cJ b m p)[i]? =some x/\c=(if cR b p=true then [(i:Int)] else [])++c'/\setR x.2.1 x.2.2 x.1 c' t=some ([],t'):=by
 cases p with
 |leaf l=>exact absurd rfl (hp l)
 | group r=>
  rw [cF.eq_def] at h
  cases b with
  |false=>exact⟨0,(r,false,m),c,by simp [cJ],by simp [cR],by simpa using h⟩
  | true=>
   cases c with
   |nil=>simp at h
   | cons d c=>
    simp only [ZS] at h
    by_cases c0:d=0
    ·subst c0
     exact⟨0,(r,false,m),c,by simp [cJ],by simp [cR],by simpa using h⟩
    ·by_cases c1:d=1
     ·subst c1
      exact⟨1,(r,true,m),c,by simp [cJ],by simp [cR],by simpa using h⟩
     ·simp [c0,c1] at h
 |hang n r=>exact⟨0,(r,b,m+n),c,by simp [cJ],by simp [cR],by rw [cF] at h;exact h⟩
 | either rs=>
  rw [cF.eq_def] at h
  cases c with
  |nil=>cases h
  | cons d c=>
   simp only at h
   by_cases c0:0<=d
   ·simp only [c0,ZS] at h
    cases e:rs[d.toNat]? with
    |none=>rw [qZ e] at h;cases h
    |some r=>
     rw [pS e] at h
     refine⟨d.toNat,(r,b,m),c,?_,by simp [cR];omega,h⟩
     show(rs.map fun r=>(r,b,m))[d.toNat]? =_
     rw [Zb,e];rfl
   ·simp [c0] at h
def zn9(W:Int)(GR:Bool->Int->List Pc->Frt->Frt)(r:List Pc):Prop:=∀(b:Bool) (m:Int) (R:List Int->Str->Prop) (F:Frt),0<=m->m+12*depR r<=200->oR R->Good W R F->lW W R F->lW W (Aft R (setR b m r)) (GR b m r F)
theorem yj8{GR:Bool->Int->List Pc->Frt->Frt}{tk:Bool}{F:Frt}:∀(xs:List (List Pc×Bool×Int)) (n:Nat) (A:Frt),(A.map (·.1)).Nodup->(∀(i:Nat) x,xs[i]? =some x->∀k z,Has (GR x.2.1 x.2.2 x.1 (if tk=true then kD F ((n+i:Nat):Int) else F)) k z->Has (frW GR tk F n xs A) k z)/\∀j z,Has A j z->Has (frW GR tk F n xs A) j z
 |[],n,A,nd=>⟨fun i x h=>by simp at h,fun _ _ h=>h⟩
 | x::xs,n,A,nd=>by
  rw [frW]
  obtain⟨a,b,c⟩:=wB (G:=GR x.2.1 x.2.2 x.1 (if tk=true then kD F n else F)) nd
  obtain⟨d,e⟩:=yj8 (GR:=GR) (tk:=tk) (F:=F) xs (n+1) _ a
  refine⟨fun i y hy k z hk=> ?_,fun j z h=>e j z (c j z h)⟩
  cases i with
  |zero=>
   simp at hy
   subst hy
   obtain⟨w,hw,hn⟩:=hk
   exact e k z ((b (k,w) hw).le hn)
  |succ i=>exact d i y (by simpa using hy) k z (by rwa [show n+1+i=n+(i+1) by omega])
theorem yo9{W:Int}{GR:Bool->Int->List Pc->Frt->Frt}{k:Nat}(hG:∀r,depR r<k->okR r->zn9 W GR r){R:List Int->Str->Prop}{b:Bool}{m:Int}{p:Pc}{F:Frt}(hk:dZ p<=k)(ho:okP p)(h0:0<=m)(h1:m+12*dZ p<=200)(hf:oR R)(hF:Good W R F)(hB:lW W R F):lW W (Aft R (cF b m p)) (frP W GR b m F p):=by
 have hold:(∀l,p≠ .leaf l)->lW W (Aft R (cF b m p)) (frW GR (cR b p) F 0 (cJ b m p) []):=by
  intro hp
  rintro c t q ln rg ⟨c0,t0,c1,r,rfl,e⟩ hc
  obtain⟨i,x,c',hx,rfl,hs⟩:=xs8 hp e
  obtain⟨a1,a2,a3,a4⟩:=zd0 ho h0 h1 hk (ZG hx)
  refine(yj8 (GR:=GR) (tk:=cR b p) (F:=F) (cJ b m p) 0 [] Zi).1 i x hx q _ ?_
  rw [YA]
  by_cases tk:cR b p=true
  ·rw [if_pos tk,if_pos tk]
   exact hG x.1 a3 a4 x.2.1 x.2.2 _ _ a1 a2 (hf.chose i) (vT hF i) (yo7 hf hF hB i) _ t q ln rg ⟨c0++[(i:Int)],t0,c',⟨c0,r,rfl⟩,by rw [Zp],hs⟩ hc
  ·rw [if_neg tk,if_neg tk]
   exact hG x.1 a3 a4 x.2.1 x.2.2 _ _ a1 a2 hf hF hB _ t q ln rg ⟨c0,t0,c',r,rfl,hs⟩ hc
 cases p with
 |leaf l=>exact yo8 ho h0 (by rw [dZ] at h1;omega) hB
 |group r=>exact hold nofun
 |hang n r=>exact hold nofun
 |either rs=>exact hold nofun
theorem zr5{W:Int}{GR:Bool->Int->List Pc->Frt->Frt}{k:Nat}(hGd:∀r,depR r<k->okR r->pG W GR r)(hG:∀r,depR r<k->okR r->zn9 W GR r){b:Bool}{m:Int}(h0:0<=m):∀{r:List Pc} {R:List Int->Str->Prop} {F:Frt},depR r<=k->okR r->m+12*depR r<=200->oR R->Good W R F->lW W R F->lW W (Aft R (setR b m r)) (r.foldl (fun F p=>frP W GR b m F p) F)
 |[],R,F,_,_,_,_,_,hB=>hB.mono fun c t ⟨c0,t0,c1,r,e,h⟩=>by
  rw [setR] at h
  cases h
  rw [e,Zl];exact r
 | p::r,R,F,hk,ho,h1,hf,hF,hB=>by
  rw [depR] at hk h1
  have hp:=vU hGd (b:=b) (show dZ p<=k by omega) ho.1 h0 (by omega) hF
  have hb:=yo9 hG (b:=b) (show dZ p<=k by omega) ho.1 h0 (by omega) hf hF hB
  have hff:oR (Aft R (cF b m p)):=hf.aft fun c x t t' e=>by rw [sU x e];rfl
  refine(zr5 hGd hG h0 (r:=r) (by omega) ho.2 (by omega) hff hp hb).mono fun c t=> ?_
  rintro⟨c0,t0,c1,r1,rfl,e⟩
  rw [setR] at e
  cases e2:cF b m p c1 t0 with
  |none=>rw [e2] at e;cases e
  |some s=>
   obtain⟨c2,t1⟩:=s
   rw [e2] at e
   obtain⟨a,rfl,e3⟩:=yb5 e2
   exact⟨c0++a,t1,c2,⟨c0,t0,a,r1,rfl,e3⟩,by rw [Zp],e⟩
theorem yb6{W:Int}:∀(n:Nat) (r:List Pc),depR r<n->okR r->zn9 W (frN W n) r
 |0,_,h,_=>absurd h (Ym _)
 |n+1,r,h,ho=>fun b m R F h0 h1 hf hF hB=>by
  rw [frN]
  exact zr5 (fun q h1 h2=>vV n q h1 h2) (fun q h1 h2=>yb6 n q h1 h2) h0 (by omega) ho h1 hf hF hB
theorem yp0{W:Int}{n:Nat}{r:List Pc}(hW:0<=W)(hd:depR r<n)(ho:okR r)(h1:12*(depR r:Int)<=200):lW W (fun cs t=>setR true 0 r cs ⟨#[]⟩=some ([],t)) (jD W n r):=by
 have hf:oR (fun cs t=>cs=[]/\t=⟨#[]⟩):=by
  rintro c x t t' ⟨rfl,rfl⟩ ⟨e,rfl⟩
  exact⟨e,rfl⟩
 have hb:lW W (fun cs t=>cs=[]/\t=⟨#[]⟩) [(0,((1,0),[]))]:=by
  rintro c t k ln rg ⟨rfl,rfl⟩ hc
  obtain⟨rfl,rfl,rfl⟩:=xa9 hc (zc9 hW)
  exact⟨_,Zc.mpr rfl,uR _⟩
 refine(yb6 n r hd ho true 0 _ _ (Yb _) (by omega) hf (zh1 hW) hb).mono fun c t e=> ?_
 exact⟨[],⟨#[]⟩,c,⟨rfl,rfl⟩,rfl,e⟩
def nnW(x:Way):List (List Int):=[[x.1.1,x.1.2],x.2]
theorem yH:∀F:Frt,D.intsss (fP F)=some (F.map fun q=>nnW q.2)
 |[]=>rfl
 |q::F=>by
  show(D.intss [.tup [.int q.2.1.1,.int q.2.1.2],.tup (bE q.2.2)]).bind (fun n=>(D.intsss (fP F)).map (n::·))=_
  rw [yH F]
  have:D.intss [.tup [.int q.2.1.1,.int q.2.1.2],.tup (bE q.2.2)]=some (nnW q.2):=by simp [D.intss,D.ints,zg5,nnW]
  rw [this];rfl
theorem zh5{F:Frt}:∀k:Nat,k<F.length->∃q,F[PySem.argBest (ltN (F.map fun q=>nnW q.2)) k]? =some q/\∀i x,i<=k->F[i]? =some x->nb q.2 x.2
 |0,h=>by
  obtain⟨q,hq⟩:∃q,F[0]? =some q:=⟨F[0],by simp⟩
  refine⟨q,hq,fun i x hi hx=> ?_⟩
  have:i=0:=by omega
  subst this
  rw [hq] at hx
  cases hx
  exact uR _
 | k+1,h=>by
  obtain⟨q,hq,hn⟩:=zh5 (F:=F) k (by omega)
  obtain⟨y,hy⟩:∃y,F[k+1]? =some y:=⟨F[k+1],by simp [h]⟩
  have e:ltN (F.map fun q=>nnW q.2) (k+1) (PySem.argBest (ltN (F.map fun q=>nnW q.2)) k)=ltW y.2 q.2:=by
   generalize PySem.argBest (ltN (F.map fun q=>nnW q.2)) k=z at hq
   unfold ltN
   rw [YG,YG,Zb,Zb,hy,hq];rfl
  rw [PySem.argBest,e]
  by_cases c:ltW y.2 q.2=true
  ·rw [if_pos c]
   refine⟨y,hy,fun i x hi hx=> ?_⟩
   by_cases z:i=k+1
   ·subst z
    rw [hy] at hx
    cases hx
    exact uR _
   ·exact wA (yb2 c) (hn i x (by omega) hx)
  ·rw [if_neg c]
   refine⟨q,hq,fun i x hi hx=> ?_⟩
   by_cases z:i=k+1
   ·subst z
    rw [hy] at hx
    cases hx
    unfold nb
    rwa [Xt] at c
   ·exact hn i x (by omega) hx
abbrev yd5:tz6:=gP 1 0 qQ
theorem xs9{W:Int}{F:Frt}(h:F≠[]):∃q∈F,(∀x∈F,nb q.2 x.2)/\yd5 [aI false W F]=some (.tup (bE q.2.2)):=by
 have hl:0<F.length:=List.length_pos_iff.mpr h
 obtain⟨q,hq,hn⟩:=zh5 (F:=F) (F.length-1) (by omega)
 refine⟨q,ZG hq,fun x hx=> ?_,?_⟩
 ·obtain⟨i,hi,e⟩:=List.mem_iff_getElem.mp hx
  exact hn i x (by omega) (by simp [hi,e])
 ·have fb:cD "Front" "best" (aA 0) [some (aI false W F)]=some (.dic false (eY F) (fP F)):=zd1 rfl
  have t:fTK (cD "Front" "best" (aA 0)) [some (aI false W F)]=some true:=by
   unfold fTK
   rw [fb]
   show some (!(eY F).isEmpty)=_
   cases F with
   |nil=>exact absurd rfl h
   |cons q F=>rfl
  have m:zu4 (cD "Front" "best" (aA 0)) [some (aI false W F)]=some (wyD q.2):=by
   unfold zu4
   rw [fb]
   show(D.intsss (fP F)).bind _=_
   rw [yH,Z3]
   show(fP F)[PySem.argBest (ltN (F.map fun q=>nnW q.2)) ((F.map fun q=>nnW q.2).length-1)]? =_
   rw [Zh]
   unfold fP
   rw [Zb,hq];rfl
  exact jT rfl (dG (bA (mE t)) ⟨_,cL (aO (cM m (sG _)) rfl (fN _ _ _))⟩)
abbrev yX:List D->Bool:=gX 1 0 qB
theorem xi4(W:Int):yX [aI false W []]=true:=rfl
abbrev zj5(n m:Nat):tz6:=gP 2 1 (yP yd5 (rL n) vB (xb7 m))
theorem zd4{W:Int}{n m:Nat}{r:List Pc}(hW0:0<=W)(hW1:W<=40)(hd:depR r<n)(hdm:depR r<m)(h8:depR r<=16)(ho:okR r)(hl:(toksR r).length<=800)(hne:jD W n r≠[]):
  ∃q∈jD W n r,(∀x∈jD W n r,nb q.2 x.2)/\∃t,setR true 0 r q.2.2 ⟨#[]⟩=some ([],t)/\kC W t q.1 q.2.1.1 q.2.1.2/\zj5 n m [.tup (pcsD r),.int W]=some (.tup [.str t,.tup (bE q.2.2)]):=by
 have g:Good W (fun cs t=>setR true 0 r cs ⟨#[]⟩=some ([],t)) (jD W n r):=yo1 (n:=n) hW0 hd ho (by omega)
 obtain⟨q,hq,hn,e⟩:=xs9 (W:=W) hne
 obtain⟨t,hs,hc⟩:=g.hit q hq
 refine⟨q,hq,hn,t,hs,hc,?_⟩
 have s1:aV 2 (aH (aJ yd5 (aC (aJ (rL n) (aC (jX (aJ vB (aC (aA 1) aE))) (aC (aA 0) aE))) aE))) [some (.tup (pcsD r)),some (.int W),none]=some (.nx,[some (.tup (pcsD r)),some (.int W),some (.tup (bE q.2.2))]):=
  bF (aW (aD (aW (aD (uP (aW (aD rfl rfl) (zd3 hW0))) (aD rfl rfl)) (yE hW0 hW1 hd h8 ho hl)) rfl) e)
 have im:=lK q.2.2
 exact jT rfl (dG s1 ⟨_,cL (fE (aD (aW (aD rfl (aD rfl rfl)) (yy7 hdm h8 ho hl hs)) (aD (cM (d:= .tup (bE q.2.2)) rfl im) rfl)) (by simp [D.imms,D.imm,im]) (by simp))⟩)
abbrev vC(n:Nat):List D->Bool:=gX 2 1 (xE yX (rL n) vB)
theorem xb1{W:Int}{n:Nat}{r:List Pc}(hW0:0<=W)(hW1:W<=40)(hd:depR r<n)(h8:depR r<=16)(ho:okR r)(hl:(toksR r).length<=800)(he:jD W n r=[]):vC n [.tup (pcsD r),.int W]=true:=by
 have q:=yE hW0 hW1 hd h8 ho hl
 rw [he] at q
 have e:aC (aJ (rL n) (aC (jX (aJ vB (aC (aA 1) aE))) (aC (aA 0) aE))) aE [some (.tup (pcsD r)),some (.int W),none]=some [aI false W []]:=aD (aW (aD (uP (aW (aD rfl rfl) (zd3 hW0))) (aD rfl rfl)) q) rfl
 show zd5 yX _ [some (.tup (pcsD r)),some (.int W),none]=true
 unfold zd5
 rw [e]
 exact xi4 W
abbrev nK(n m:Nat):tz6:=gP 2 1 (yS (zj5 n m) (vC n))
theorem zr6{W:Int}{n m:Nat}{r:List Pc}(hW0:0<=W)(hW1:W<=40)(hd:depR r<n)(h8:depR r<=16)(ho:okR r)(hl:(toksR r).length<=800)(he:jD W n r=[]):nK n m [.tup (pcsD r),.int W]=some .non:=by
 have q:=xb1 hW0 hW1 hd h8 ho hl he
 refine jT rfl (zh0 ⟨[some (.tup (pcsD r)),some (.int W),none],?_⟩)
 unfold zi4
 rw [aD (d:= .tup (pcsD r)) rfl (aD (d:= .int W) rfl (show aE _=some [] from rfl)),Z3,if_pos q];rfl
theorem yI{W:Int}{n m:Nat}{r:List Pc}{t:Str}{C:List Int}(hn:vC n [.tup (pcsD r),.int W]=false)(q:zj5 n m [.tup (pcsD r),.int W]=some (.tup [.str t,.tup (bE C)])):nK n m [.tup (pcsD r),.int W]=some (.tup [.str t,.tup (bE C)]):=by
 have s1:zi4 (vC n) (aC (aA 0) (aC (aA 1) aE)) (aV 2 (aH (aJ (zj5 n m) (aC (aA 0) (aC (aA 1) aE))))) [some (.tup (pcsD r)),some (.int W),none]=some (.nx,[some (.tup (pcsD r)),some (.int W),some (.tup [.str t,.tup (bE C)])]):=by
  unfold zi4
  rw [aD (d:= .tup (pcsD r)) rfl (aD (d:= .int W) rfl (show aE _=some [] from rfl)),Z3,if_neg (by rw [hn];exact Z7)]
  exact bF (aW (aD rfl (aD rfl rfl)) q)
 exact jT rfl (dG s1 ⟨_,rfl⟩)
theorem yJ{W:Int}{n:Nat}{r:List Pc}(hW0:0<=W)(hW1:W<=40)(hd:depR r<n)(h8:depR r<=16)(ho:okR r)(hl:(toksR r).length<=800)(he:jD W n r≠[]):vC n [.tup (pcsD r),.int W]=false:=by
 have q:=yE hW0 hW1 hd h8 ho hl
 have e:aC (aJ (rL n) (aC (jX (aJ vB (aC (aA 1) aE))) (aC (aA 0) aE))) aE [some (.tup (pcsD r)),some (.int W),none]=some [aI false W (jD W n r)]:=aD (aW (aD (uP (aW (aD rfl rfl) (zd3 hW0))) (aD rfl rfl)) q) rfl
 show(decide (([.tup (pcsD r),.int W]:List D).length=2)&&zd5 yX _ [some (.tup (pcsD r)),some (.int W),none])=false
 unfold zd5
 rw [e]
 show(true&&yX [aI false W (jD W n r)])=false
 cases h:jD W n r with
 |nil=>exact absurd h he
 |cons q F=>rfl
theorem yb7{r:List Pc}{C:List Int}{t:Str}(h8:depR r<=16)(ho:okR r)(hl:(toksR r).length<=800)(h:setR true 0 r C ⟨#[]⟩=some ([],t)):t.length<=900000:=by
 obtain⟨u',ps',q,e1,e2,e3,e4,e5⟩:=zm9 (depR r+1) r (YO _) ho true 0 C 0 [] [] t (Yb _) (by omega) h (ZL _) ⟨by show 0+_<=_;omega,by show 0+_<=_;omega⟩
 have e5':(cat ps').length<=0+201*(toksR r).length:=e5
 rw [e2] at e5'
 omega
theorem yp1{W W':Int}{t:Str}{k:Nat}{ln rg:Int}(h:kC W t k ln rg)(hW:W<=W'):∃rg',kC W' t k ln rg':=by
 obtain⟨xs,y,h1,h2,h3,h4,h5⟩:=h
 exact⟨_,xs,y,h1,fun l hl=>Int.le_trans (h2 l hl) hW,h3,h4,rfl⟩
theorem we0{x:Way}{ln rg:Int}{C:List Int}(h:nb x ((ln,rg),C)):oF [x.1.1,x.1.2] [ln,rg]=true:=by
 rw [uQ] at h
 show(if x.1.1=ln then(if x.1.2=rg then true else decide (x.1.2<=rg)) else decide (x.1.1<=ln))=true
 rcases h with h|⟨h,h'|⟨h',_⟩⟩
 ·have:x.1.1<ln:=h
  rw [if_neg (by omega)];exact Zn (by omega)
 ·have h1:x.1.1=ln:=h
  have h2:x.1.2<rg:=h'
  rw [if_pos h1,if_neg (by omega)];exact Zn (by omega)
 ·have h1:x.1.1=ln:=h
  have h2:x.1.2=rg:=h'
  rw [if_pos h1,if_pos h2]
section
variable{GM:tz6}{xs:List D}
def xb8(GP GR GB:tz6):tz1:=aS (aV 5 (aH (aJ GP (aC (aA 1) (aC (aA 3) aE)))))
 (aS (aV 6 (aH (aJ GP (aC (aA 1) (aC (aA 4) aE)))))
 (aS (fIf (aT (fB (f2 dIs (aA 5) (fC .non))))
  (bS (aH (fC (.bl true))))
  bK)
 (aS (fIf (aT (lL (fB (f2 dIs (aA 6) (fC .non))) (fB (f2 dIs (aJ GR (aC (f2 dIx (aA 5) (fC (.int 0))) (aC (aA 3) aE))) (fC .non)))))
  (bS (aH (fC (.bl false))))
  bK)
 (aS (fIf (aT (lL (fB (f2 dNe (aJ GB (aC (aA 1) (aC (f2 dIx (aA 5) (fC (.int 1))) aE))) (f2 dIx (aA 5) (fC (.int 0))))) (fB (f2 dNe (aJ GB (aC (aA 1) (aC (f2 dIx (aA 6) (fC (.int 1))) aE))) (f2 dIx (aA 6) (fC (.int 0)))))))
  (bS (aH (fC (.bl false))))
  bK)
 (aS (aV 7 (aH (aJ GR (aC (f2 dIx (aA 6) (fC (.int 0))) (aC (aA 4) aE)))))
 (bS (aH (qJ (f2 mS (aA 7) (fC .non)) (f2 yc4 (aA 7) (aJ GR (aC (f2 dIx (aA 5) (fC (.int 0))) (aC (aA 4) aE))))))))))))
theorem xb2{S:D}{k1 n m:Nat}{r:List Pc}{W W':Int}{x2:Option D}(hk1:3<k1)(hn:3<n)(hm:3<m)(hr:RowOk 3 120 r)(hW0:1<=W)(hWW:W<=W')(hW1:W'<=40):
  ∃z,xb8 (nK n m) nJ (gBy GM k1) [some S,some (.tup (pcsD r)),x2,some (.int W),some (.int W'),none,none,none]=some (.ret (.bl true),z):=by
 have hd:=hr.dep
 have l8:(toksR r).length<=800:=ZC hr.len (by decide)
 have ne0:∀t:Str,dNe (.str t) (.str t)=some (.bl false):=fun t=>by show some (D.bl (!decide (t=t)))=_;rw [Zn rfl];rfl
 have go:∀d d',nK n m [.tup (pcsD r),.int W]=some d->nK n m [.tup (pcsD r),.int W']=some d'->(∃z,(aS (fIf (aT (fB (f2 dIs (aA 5) (fC .non)))) (bS (aH (fC (.bl true)))) bK) (aS (fIf (aT (lL (fB (f2 dIs (aA 6) (fC .non))) (fB (f2 dIs (aJ nJ (aC (f2 dIx (aA 5) (fC (.int 0))) (aC (aA 3) aE))) (fC .non))))) (bS (aH (fC (.bl false)))) bK) (aS (fIf (aT (lL (fB (f2 dNe (aJ (gBy GM k1) (aC (aA 1) (aC (f2 dIx (aA 5) (fC (.int 1))) aE))) (f2 dIx (aA 5) (fC (.int 0))))) (fB (f2 dNe (aJ (gBy GM k1) (aC (aA 1) (aC (f2 dIx (aA 6) (fC (.int 1))) aE))) (f2 dIx (aA 6) (fC (.int 0))))))) (bS (aH (fC (.bl false)))) bK) (aS (aV 7 (aH (aJ nJ (aC (f2 dIx (aA 6) (fC (.int 0))) (aC (aA 4) aE))))) (bS (aH (qJ (f2 mS (aA 7) (fC .non)) (f2 yc4 (aA 7) (aJ nJ (aC (f2 dIx (aA 5) (fC (.int 0))) (aC (aA 4) aE))))))))))) [some S,some (.tup (pcsD r)),x2,some (.int W),some (.int W'),some d,some d',none]=some (.ret (.bl true),z))->∃z,xb8 (nK n m) nJ (gBy GM k1) [some S,some (.tup (pcsD r)),x2,some (.int W),some (.int W'),none,none,none]=some (.ret (.bl true),z):=fun d d' h1 h2 ⟨z,h3⟩=>
  ⟨z,(aP (bF (aW (aD rfl (aD rfl rfl)) h1))).trans ((aP (bF (aW (aD rfl (aD rfl rfl)) h2))).trans h3)⟩
 have any:∀{V:Int},1<=V->V<=40->∃d,nK n m [.tup (pcsD r),.int V]=some d:=fun {V} v0 v1=>by
  by_cases he:jD V n r=[]
  ·exact⟨_,zr6 (by omega) v1 (by omega) (by omega) hr.ok l8 he⟩
  ·obtain⟨q,hq,hn,t,hs,hc,qp⟩:=zd4 (W:=V) (n:=n) (m:=m) (by omega) v1 (by omega) (by omega) (by omega) hr.ok l8 he
   exact⟨_,yI (yJ (by omega) v1 (by omega) (by omega) hr.ok l8 he) qp⟩
 by_cases he:jD W n r=[]
 ·obtain⟨d',hd'⟩:=any (V:=W') (by omega) hW1
  exact go .non d' (zr6 (by omega) (by omega) (by omega) (by omega) hr.ok l8 he) hd' ⟨_,eJ ((bR (dI (aO rfl rfl rfl))).trans (cL rfl))⟩
 ·obtain⟨q,hq,hnq,t,hs,hc,qp⟩:=zd4 (W:=W) (n:=n) (m:=m) (by omega) (by omega) (by omega) (by omega) (by omega) hr.ok l8 he
  have bs:lW W' (fun cs t=>setR true 0 r cs ⟨#[]⟩=some ([],t)) (jD W' n r):=yp0 (n:=n) (by omega) (by omega) hr.ok (by omega)
  obtain⟨rg',hc'⟩:=yp1 hc hWW
  obtain⟨y,hy,hny⟩:=bs _ _ _ _ _ hs hc'
  have he':jD W' n r≠[]:=fun z=>by rw [z] at hy;cases hy
  obtain⟨q',hq',hnq',t',hs',hcq,qp'⟩:=zd4 (W:=W') (n:=n) (m:=m) (by omega) hW1 (by omega) (by omega) (by omega) hr.ok l8 he'
  have le:=we0 (wA (hnq' _ hy) hny)
  have tl:=yb7 (by omega) hr.ok l8 hs
  have tl':=yb7 (by omega) hr.ok l8 hs'
  have cl:∀{C t},setR true 0 r C ⟨#[]⟩=some ([],t)->C.length<=900:=fun h=>by
   have:=setR_len h
   rw [ZJ] at this
   omega
  refine go _ _ (yI (yJ (by omega) (by omega) (by omega) (by omega) hr.ok l8 he) qp) (yI (yJ (by omega) hW1 (by omega) (by omega) hr.ok l8 he') qp') ?_
  have b1:=xl1 (GM:=GM) (n:=k1) (by omega) (by omega) hr.ok l8 (cl hs) hs
  have b2:=xl1 (GM:=GM) (n:=k1) (by omega) (by omega) hr.ok l8 (cl hs') hs'
  have p1:=yF hc (by omega) tl
  have p2:=yF hc' hW1 tl
  have p3:=yF hcq hW1 tl'
  generalize hp:[some S,some (D.tup (pcsD r)),x2,some (D.int W),some (D.int W'),some (D.tup [.str t,.tup (bE q.2.2)]),some (D.tup [.str t',.tup (bE q'.2.2)]),none]=p
  generalize hp':[some S,some (D.tup (pcsD r)),x2,some (D.int W),some (D.int W'),some (D.tup [.str t,.tup (bE q.2.2)]),some (D.tup [.str t',.tup (bE q'.2.2)]),some (D.tup [.int q'.2.1.1,.int q'.2.1.2])]=p'
  have v1:aA 1 p=some (.tup (pcsD r)):=by rw [<-hp];rfl
  have v3:aA 3 p=some (.int W):=by rw [<-hp];rfl
  have v4:aA 4 p=some (.int W'):=by rw [<-hp];rfl
  have v5:aA 5 p=some (.tup [.str t,.tup (bE q.2.2)]):=by rw [<-hp];rfl
  have v6:aA 6 p=some (.tup [.str t',.tup (bE q'.2.2)]):=by rw [<-hp];rfl
  have w4:aA 4 p'=some (.int W'):=by rw [<-hp'];rfl
  have w5:aA 5 p'=some (.tup [.str t,.tup (bE q.2.2)]):=by rw [<-hp'];rfl
  have w7:aA 7 p'=some (.tup (bE [q'.2.1.1,q'.2.1.2])):=by rw [<-hp'];rfl
  have i50:f2 dIx (aA 5) (fC (.int 0)) p=some (.str t):=aO v5 rfl (lH _ _)
  have i51:f2 dIx (aA 5) (fC (.int 1)) p=some (.tup (bE q.2.2)):=aO v5 rfl (fN _ _ _)
  have i60:f2 dIx (aA 6) (fC (.int 0)) p=some (.str t'):=aO v6 rfl (lH _ _)
  have i61:f2 dIx (aA 6) (fC (.int 1)) p=some (.tup (bE q'.2.2)):=aO v6 rfl (fN _ _ _)
  have j50:f2 dIx (aA 5) (fC (.int 0)) p'=some (.str t):=aO w5 rfl (lH _ _)
  have e7:aV 7 (aH (aJ nJ (aC (f2 dIx (aA 6) (fC (.int 0))) (aC (aA 4) aE)))) p=some (.nx,p'):=(bF (aW (aD i60 (aD v4 rfl)) p3)).trans (by rw [<-hp,<-hp'];rfl)
  refine⟨p',(aP (bA (dI (aO v5 rfl rfl)))).trans ((aP (bA (sT (dI (aO v6 rfl rfl)) (dI (aO (aW (aD i50 (aD v3 rfl)) p1) rfl rfl))))).trans ((aP (bA (sT (dI (aO (aW (aD v1 (aD i51 rfl)) b1) i50 (ne0 _))) (dI (aO (aW (aD v1 (aD i61 rfl)) b2) i60 (ne0 _)))))).trans ((aP e7).trans (cL ?_))))⟩
  unfold qJ
  rw [aO (g:=mS) w7 (show fC .non p'=some .non from rfl) (show mS (.tup (bE [q'.2.1.1,q'.2.1.2])) .non=some (.bl true) from rfl),Z3]
  refine aO w7 (aW (aD j50 (aD w4 rfl)) p2) ?_
  show some (D.bl (oF [q'.2.1.1,q'.2.1.2] [q.2.1.1,rg']))=_
  rw [le]
abbrev wb5(k1 k2 k3:Nat)(GM:tz6):tz6:=gP 1 7 (xb6 (xk0 GM zj4) GM (nK k2 k3) nJ (gBy GM k1))
theorem yp2{k1 k2 k3:Nat}(hk1:3<k1)(hk2:3<k2)(hk3:3<k3)(hM:∀j s:Int,0<=j->j<1000->0<=s->s<1000->∃a,GM [.con xs,.int j,.int s]=some (.int a)/\0<=a):wb5 k1 k2 k3 GM [.con xs]=some (.bl true):=by
 obtain⟨mr,hc,c1⟩:∃c:Nat,3+(if (27:Int)<(xs.length:Int) then(27:Int) else(xs.length:Int))=(c:Int)/\c<=30:=by
  by_cases z:(27:Int)<(xs.length:Int)
  ·exact⟨30,by rw [if_pos z];rfl,Za _⟩
  ·exact⟨3+xs.length,by rw [if_neg z];push_cast;rfl,by omega⟩
 obtain⟨r,qr,hr0⟩:=xy6 (GM:=GM) (GL:=zj4) (S:= .con xs) (nest:=3) (a:=0) (many:=mr) (fun m hm=>xs6 hm) (fun j s hj hs=>hM j s (by omega) (by omega) (by omega) (by omega)) (by decide) (by omega) (by decide)
 have hr:RowOk 3 120 r:=⟨hr0.ok,hr0.dep,ZC hr0.len (by omega)⟩
 obtain⟨a,qa,ha⟩:=hM 2 64 (by decide) (by decide) (by decide) (by decide)
 have s1:aV 1 (aH (aJ (xk0 GM zj4) (aC (aA 0) (aC (fC (.int 0)) (aC (f2 cE (fC (.int 3)) (aJ zt5 (aC (aJ cT (aC (aA 0) aE)) (aC (fC (.int 27)) aE)))) (aC (fC (.int 3)) aE)))))) [some (.con xs),none,none,none,none,none,none,none]=some (.nx,[some (.con xs),some (.tup (pcsD r)),none,none,none,none,none,none]):=by
  refine bF (aW (ds:=[.con xs,.int ((0:Nat):Int),.int (mr:Int),.int ((3:Nat):Int)]) (aD rfl (aD rfl (aD ?_ (aD rfl rfl)))) qr)
  refine(aO rfl (aW (aD (aW (aD rfl rfl) rfl) (aD rfl rfl)) rfl) rfl).trans ?_
  rw [<-hc]
 have s2:aV 2 (aH (aJ GM (aC (aA 0) (aC (fC (.int 2)) (aC (fC (.int 64)) aE))))) [some (.con xs),some (.tup (pcsD r)),none,none,none,none,none,none]=some (.nx,[some (.con xs),some (.tup (pcsD r)),some (.int a),none,none,none,none,none]):=bF (aW (aD rfl (aD rfl (aD rfl rfl))) qa)
 have s3:aV 3 (aH (f2 cE (fC (.int 1)) (f2 eA (aA 2) (fC (.int 39))))) [some (.con xs),some (.tup (pcsD r)),some (.int a),none,none,none,none,none]=some (.nx,[some (.con xs),some (.tup (pcsD r)),some (.int a),some (.int (1+a % 39)),none,none,none,none]):=bF (aO rfl (aO rfl rfl ((dF _ _).trans (if_pos (by decide)))) rfl)
 have m0:=ZD a (show(39:Int)≠0 by decide)
 have m1:=ZB a (show(0:Int)<39 by decide)
 obtain⟨W,w0,w1,s4⟩:∃W:Int,1<=W/\W<=39/\fIf (aT (fB (f2 dEq (f2 eA (f2 gG (aA 2) (fC (.int 39))) (fC (.int 2))) (fC (.int 0))))) (aV 3 (aH (f2 cE (fC (.int 12)) (f2 eA (f2 gG (aA 2) (fC (.int 78))) (fC (.int 28)))))) bK [some (.con xs),some (.tup (pcsD r)),some (.int a),some (.int (1+a % 39)),none,none,none,none]=some (.nx,[some (.con xs),some (.tup (pcsD r)),some (.int a),some (.int W),none,none,none,none]):=by
  have t:fB (f2 dEq (f2 eA (f2 gG (aA 2) (fC (.int 39))) (fC (.int 2))) (fC (.int 0))) [some (.con xs),some (.tup (pcsD r)),some (.int a),some (.int (1+a % 39)),none,none,none,none]=some (decide (a/39 % 2=0)):=dI (aO (aO (aO rfl rfl ((dQ _ _).trans (if_pos (by decide)))) rfl ((dF _ _).trans (if_pos (by decide)))) rfl rfl)
  by_cases z:a/39 % 2=0
  ·rw [Zn z] at t
   have n0:=ZD (a/78) (show(28:Int)≠0 by decide)
   have n1:=ZB (a/78) (show(0:Int)<28 by decide)
   exact⟨12+a/78 % 28,by omega,by omega,(bR t).trans (bF (aO rfl (aO (aO rfl rfl ((dQ _ _).trans (if_pos (by decide)))) rfl ((dF _ _).trans (if_pos (by decide)))) rfl))⟩
  ·rw [Zf z] at t
   exact⟨_,by omega,by omega,bA t⟩
 have s5:aV 4 (aH (f2 cE (aA 3) (fC (.int 1)))) [some (.con xs),some (.tup (pcsD r)),some (.int a),some (.int W),none,none,none,none]=some (.nx,[some (.con xs),some (.tup (pcsD r)),some (.int a),some (.int W),some (.int (W+1)),none,none,none]):=bF (aO rfl rfl rfl)
 obtain⟨V,v0,v1,s6⟩:∃V:Int,W<=V/\V<=40/\fIf (aT (fB (f2 dEq (f2 eA (f2 gG (aA 2) (fC (.int 3000))) (fC (.int 2))) (fC (.int 0))))) (aV 4 (aH (f2 cE (f2 cE (aA 3) (fC (.int 1))) (f2 eA (f2 gG (aA 2) (fC (.int 6000))) (f2 gF (fC (.int 40)) (aA 3)))))) bK [some (.con xs),some (.tup (pcsD r)),some (.int a),some (.int W),some (.int (W+1)),none,none,none]=some (.nx,[some (.con xs),some (.tup (pcsD r)),some (.int a),some (.int W),some (.int V),none,none,none]):=by
  have t:fB (f2 dEq (f2 eA (f2 gG (aA 2) (fC (.int 3000))) (fC (.int 2))) (fC (.int 0))) [some (.con xs),some (.tup (pcsD r)),some (.int a),some (.int W),some (.int (W+1)),none,none,none]=some (decide (a/3000 % 2=0)):=dI (aO (aO (aO rfl rfl ((dQ _ _).trans (if_pos (by decide)))) rfl ((dF _ _).trans (if_pos (by decide)))) rfl rfl)
  by_cases z:a/3000 % 2=0
  ·rw [Zn z] at t
   have n0:=ZD (a/6000) (show 40-W≠0 by omega)
   have n1:=ZB (a/6000) (show 0<40-W by omega)
   exact⟨W+1+a/6000 % (40-W),by omega,by omega,(bR t).trans (bF (aO (aO rfl rfl rfl) (aO (aO rfl rfl ((dQ _ _).trans (if_pos (by decide)))) (aO rfl rfl rfl) ((dF _ _).trans (if_pos (by omega)))) rfl))⟩
  ·rw [Zf z] at t
   exact⟨_,by omega,by omega,bA t⟩
 obtain⟨z,hz⟩:=xb2 (GM:=GM) (S:= .con xs) (x2:=some (.int a)) hk1 hk2 hk3 hr w0 v0 v1
 exact jT rfl (dG s1 (dG s2 (dG s3 (dG s4 (dG s5 (dG s6 ⟨_,hz⟩))))))
end
end My
namespace My
open PySem PySem.Spec PyProof.Rows L2 L3
variable{P:Program}{w:World}{K:tz0}{mg:tzA}{base:Heap}{U:tz9}
abbrev zj6:List D->Option (List Int):=D.ints
theorem zh6:∀ns:List Int,zj6 (ns.map .int)=some ns
 |[]=>rfl
 |n::ns=>by show(D.ints (ns.map .int)).map (n::·)=_;rw [show D.ints (ns.map .int)=some ns from zh6 ns];rfl
def yq5:tz6
 |[.con xs,.int k,.int s]=>match zj6 xs with
  |some ns=>if ns.length<=63/\(0<=k/\k<1000000)/\(0<=s/\s<1000000) then some (.int (wM ns k s)) else none
  |none=>none
 |_=>none
theorem xi5{ns:List Int}(h:ns.length<=63)(k s:Int)(hk:0<=k)(hk1:k<1000)(hs:0<=s)(hs1:s<1000):∃m,yq5 [.con (ns.map .int),.int k,.int s]=some (.int m)/\0<=m:=by
 refine⟨wM ns k s,?_,(ye4 ns k s).1⟩
 show(match zj6 (ns.map .int) with|some ns=>if ns.length<=63/\(0<=k/\k<1000000)/\(0<=s/\s<1000000) then some (D.int (wM ns k s)) else none|none=>none)=_
 rw [zh6]
 exact if_pos ⟨h,⟨hk,by omega⟩,hs,by omega⟩
theorem wg1{k:Nat}{f:Addr}{fd:FuncData}{ps:List Str}(F:FnOk P w K mg base CX0 k f fd ps (yj9 K)):FnOk P w K mg base CX0 k f fd ps (SpP 3 K U yq5):=by
 refine F.imp fun vs H Q E ⟨_,ds,fp,d,r,e,q⟩=> ?_
 unfold yq5 at e
 split at e
 ·rename_i xs k s
  split at e
  ·rename_i ns hns
   obtain⟨hc,e⟩:=bX e
   cases e
   obtain⟨v1,us,f,g,rfl,r1,r2,rfl⟩:=r.split
   obtain⟨v2,us2,f2,g2,rfl,r3,r4,rfl⟩:=r2.split
   obtain⟨v3,rfl,r5⟩:=r4.one_inv
   rw [r3.is_int,r5.is_int]
   obtain⟨a,vs,rfl,hS,hs⟩:=r1.con_inv
   rw [oV hs hns] at hS
   exact⟨a,ns,k,s,rfl,hS.l,hc.1,hc.2.1,hc.2.2,q _ H [] (SameK.refl H) (fun _ ha=>absurd ha (by simp)) Zi (.int _)⟩
  ·cases e
 ·cases e
def zv1(K:tz0):Sp:=fun vs H Q _=>∃(a:Addr) (ns:List Int),vs=[.ref a]/\SqF K H a (ns.map V.int)/\ns.length<=63/\∀H',Q (.bl true) H'
theorem zr7{H:Hp}:∀ns:List Int,Reps K U H (ns.map V.int) (ns.map .int) []
 |[]=> .nil
 |n::ns=> .cons (f:=[]) (g:=[]) (.int n) (zr7 ns)
theorem wg2{k:Nat}{f:Addr}{fd:FuncData}{ps:List Str}{g:tz6}(F:FnOk P w K mg base CX0 k f fd ps (SpP 1 K U g))(h:∀ns:List Int,ns.length<=63->g [.con (ns.map .int)]=some (.bl true)):FnOk P w K mg base CX0 k f fd ps (zv1 K):=
 F.imp fun vs H Q E ⟨a,ns,e,hS,hl,q⟩=>e▸⟨rfl,[.con (ns.map .int)],[],.bl true,.cons (f:=[]) (g:=[]) (.con hS (zr7 ns)) .nil,h ns hl,fun v H' fv _ _ _ r=>by cases r;exact q H'⟩
def Cur:Nat->(List Value->Prop)->Prop
 |0,P=>P []
 |n+1,P=>∀a,Cur n fun us=>P (a::us)
theorem zn3{n:Nat}:∀{P:List Value->Prop},Cur n P->∀us:List Value,us.length=n->P us:=by
 induction n with
 |zero=>intro P h us hl;cases Xw hl;exact h
 |succ n ih=>
  intro P h us hl
  cases us with
  |nil=>cases hl
  |cons a us=>exact ih (h a) us (Nat.succ.inj hl)
structure FzT(K:tz0)(x:Str)(st:Stmt)(f:Addr)(fd:FuncData):Prop where
 a:PySem.W.nsIn K mainGlobals x=some (some (.ref f))
 F:Fun K x x st f fd
structure MzT(K:tz0)(C:Addr)(m q:Str)(st:Stmt)(f:Addr)(fd:FuncData):Prop where
 i:PySem.W.findIn K (.ref C) m=some (some (.ref f))
 s:PySem.W.isFn K (.ref f)=true
 F:Fun K m q st f fd
structure CzT(K:tz0)(x:Str)(C:Addr):Prop where
 a:PySem.W.nsIn K mainGlobals x=some (some (.ref C))
 g:PySem.W.plainGet K C Str.empty=true
 d:PySem.W.hasDictIn K C=true
 o:PySem.W.plainOver K C=true
 s:PySem.W.findIn K (.ref C) "__setattr__"=some (some (.builtin "object.__setattr__"))
 m:PySem.W.makesIn K C=true
 k:PySem.W.keepIn K (.ref C)=true
abbrev BiT(x q:Str)(st:Stmt)(ps:List Str):Prop:=∀(kV doc pm:Value) (an:Option Addr) (cdv ct:Value) (us:List Value),us.length=ps.length->bindArgs (PySem.W.fnOf x q (uT st) (mF st) (aU st) .none kV doc pm an cdv ct) ⟨us,[]⟩=pure (ps.zip us)
theorem eQ{N ps:List Str}{h:Heap}{x:Str}{st:Stmt}{f:Addr}{fd:FuncData}(_:FnScope N ps (aU st))(X:K.In h)(G:h.Ns mainGlobals mg)(a:FzT K x st f fd)(hb:BiT x x st ps:=by exact fun _ _ _ _ _ _=>zn3 (by(repeat intro _);exact rfl)):Dn K mg x st ps f fd:=
 ⟨a.F,a.F.binds hb,YM X G a.a⟩
theorem zh7{x:Str}{C:Addr}(e:U x=C)(c:CzT K x C):Cls K (U x):=by rw [e];exact⟨c.g,c.d,c.o,c.s⟩
theorem wC{x y:Str}{C:Addr}(e:U x=C)(h:PySem.W.findIn K (.ref C) y=some none):cC K (U x) y:=by rw [e];exact h
theorem wD{N ps:List Str}{x m q:Str}{C:Addr}{st:Stmt}{f:Addr}{fd:FuncData}(_:FnScope N ps (aU st))(e:U x=C)(c:CzT K x C)(a:MzT K C m q st f fd)(hb:BiT m q st ps:=by exact fun _ _ _ _ _ _=>zn3 (by(repeat intro _);exact rfl)):Mn K U x m q st ps f fd:=
 ⟨a.F,a.F.binds hb,zh7 e c,by rw [e];exact⟨a.i,a.s,a.F.kp⟩⟩
theorem yp3{N ps:List Str}{h:Heap}{x q:Str}{C:Addr}{st:Stmt}{f:Addr}{fd:FuncData}(_:FnScope N ps (aU st))(X:K.In h)(G:h.Ns mainGlobals mg)(e:U x=C)(c:CzT K x C)(a:MzT K C "__init__" q st f fd)(hb:BiT "__init__" q st ps:=by exact fun _ _ _ _ _ _=>zn3 (by(repeat intro _);exact rfl)):Kn K mg U x q st ps f fd:=
 ⟨a.F,a.F.binds hb,by rw [e];exact⟨c.m,a.i,a.s,c.k⟩,by rw [e];exact YM X G c.a⟩
theorem _root_.L2.FnOk.up{CX:CXT}{k k':Nat}{f:Addr}{fd:FuncData}{ps:List Str}{sp:Sp}(h:FnOk P w K mg base CX k f fd ps sp)(hk:k<=k':=by decide):FnOk P w K mg base CX k' f fd ps sp:=h.mono hk
theorem wg3{l:PySem.W.OpenLaw}{q:Program}{loose:List Str}{XP:(tzA)->Heap->Prop}{YP:World->Heap->Prop}{d:DefRec}{K:Params->tz0}{lev:Nat}(hn:l.most=some 63)(hdf:d.params.defaults=[])(hr:Room lev callerA)
  (hY:∀(w:World) (h:Heap),YP w h->(K w.params).In h)
  (F:∀(w:World) (mg:tzA) (fa:Addr) (h:Heap),(K w.params).In h->h.Ns mainGlobals mg->mg d.name=some (.ref fa)->
   ∃fd:FuncData,(∀(s:Shared) (u:Value),BindsTo s fd ⟨[u],[]⟩ [("_law_script",u)])/\∀base:Heap,(K w.params).In base->base.Ns mainGlobals mg->FnOk l.prog w (K w.params) mg base CX0 lev fa fd ["_law_script"] (zv1 (K w.params))):
  PySem.W.WalkO q loose XP YP l.row.toRowW d [] (fun f vs=>PySem.call f vs):=
 L2.xn7 (n:=63) (k:=lev) (x:="_law_script") (CX:=fun _=>CX0) (sp:=fun w=>zv1 (K w.params)) hn (by decide) hdf hr hY F (fun _ H a ns hl hO hS=>⟨a,ns,rfl,by
  rcases hS with (h|h)|h
  ·rcases hO a with z|⟨o,xs,z⟩<;>rw [h] at z<;>cases z
  ·exact .inl h
  ·exact .inr h,hl,fun _=>rfl⟩) fun _ _ _ _ _ z=>z
end My
namespace My
open PySem PySem.Spec PyProof.Rows L2 L3
variable{P:Program}{w:World}{K:tz0}{mg:tzA}{base:Heap}{U:tz9}
def xm3:tz6
 |[.con xs,.int k]=>match zj6 xs with
  |some ns=>some (.int (uZ ns k))
  |none=>none
 |_=>none
theorem we1{k:Nat}{f:Addr}{fd:FuncData}{ps:List Str}(F:FnOk P w K mg base CX0 k f fd ps (yc6 K)):FnOk P w K mg base CX0 k f fd ps (SpP 2 K U xm3):=by
 refine F.imp fun vs H Q E ⟨_,ds,fp,d,r,e,q⟩=> ?_
 unfold xm3 at e
 split at e
 ·rename_i xs k
  split at e
  ·rename_i ns hns
   cases e
   obtain⟨v1,us,f,g,rfl,r1,r2,rfl⟩:=r.split
   obtain⟨v3,rfl,r5⟩:=r2.one_inv
   rw [r5.is_int]
   obtain⟨a,vs,rfl,hS,hs⟩:=r1.con_inv
   rw [oV hs hns] at hS
   exact⟨a,ns,k,rfl,hS.l,q _ H [] (SameK.refl H) (fun _ ha=>absurd ha (by simp)) Zi (.int _)⟩
  ·cases e
 ·cases e
end My
namespace My
open PySem PySem.Spec PyProof.Rows L2 L3
theorem xz0{l:PySem.W.OpenLaw}{w:World}{K:tz0}{h:Heap}{mg:tzA}{fa:Addr}(X:K.In h)(G:h.Ns mainGlobals mg)(hfa:mg "law"=some (.ref fa))
  (nq:FzT K "first_place" iI gs f7)
  (oj:FzT K "holds_rows" iU g6 gq)
  (mq:FzT K "takes_choice" gW f6 dw)
  (qt:FzT K "ways" nH lj ku)
  (o6:FzT K "new_line" mY l9 lz)
  (pj:FzT K "writing" lP jz jh)
  (oo:FzT K "ends_line" jJ ik g4)
  (mi:FzT K "column_behind" gI d9 dq)
  (nr:FzT K "with_choice" jZ ky kj)
  (mw:FzT K "behind_plain" jB km ke)
  (mj:FzT K "behind_holder" iV kc j3)
  (ol:FzT K "behind_row" st_p_behind_row g5 gn)
  (ml:FzT K "behind_pieces" gK d8 dm)
  (o7:FzT K "lines_of" kI jf il)
  (qu:FzT K "fits" pZ pb ou)
  (qh:FzT K "price" oJ ox nz)
  (nu:FzT K "roads_begin" iL gt gb)
  (p8:FzT K "set_by" pM n6 m6)
  (mx:FzT K "best_choices" fM f9 d7)
  (pq:FzT K "pressed" lQ la kr)
  (pr:FzT K "_law_cell_at" oG se r9)
  (qi:FzT K "_law_mixed" mH i4 g8)
  (qw:FzT K "_law_word" tI pd oy)
  (qx:FzT K "_law_leaf" tJ ph o3)
  (qy:FzT K "_law_shut" tK pe oz)
  (rj:FzT K "_law_row" wO qc pi)
  (p9:FzT K "_law_choose" pN n8 m7)
  (qj:FzT K "_law_inner" rE o4 n9)
  (rk:FzT K "_law_set" st_l_set mn lr)
  (rq:FzT K "_law_by" zZ qq qd)
  (pw:FzT K "_law_pressed" oN m8 mh)
  (qk:FzT K "_law_price" oO o5 og)
  (pz:FzT K "law" yd0 ss sd)
  (z0:PySem.W.nsIn K mainGlobals "len"=some none)
  (z1:PySem.W.nsIn K mainGlobals "enumerate"=some none)
  (z2:PySem.W.nsIn K mainGlobals "all"=some none)
  (z3:PySem.W.nsIn K mainGlobals "sum"=some none)
  (z4:PySem.W.nsIn K mainGlobals "min"=some none)
  (z5:PySem.W.nsIn K mainGlobals "max"=some none)
  (z6:PySem.W.nsIn K mainGlobals "range"=some none)
  (z7:PySem.W.nsIn K mainGlobals "tuple"=some none)
  (g0:PySem.W.nsIn K mainGlobals "HOLDERS"=some (some (.ref j0)))
  (ql:K.lookup j0=some ⟨.type "tuple",sf,.seq #[.str "group" sh,.str "hang" si,.str "either" sj] sk,so⟩)
  (p6:CzT K "Place" lh)
  (o8:MzT K lh "__init__" "Place.__init__" st_Place_init i8 ij)
  (qz:PySem.W.findIn K (.ref lh) "broken"=some none)
  (rc:PySem.W.findIn K (.ref lh) "margin"=some none)
  (lu:CzT K "Front" ju)
  (o9:MzT K ju "__init__" "Front.__init__" st_Front_init ci bz)
  (p7:MzT K ju "add" "Front.add" st_Front_add c9 cj)
  (nv:MzT K ju "add_all" "Front.add_all" st_Front_add_all kz kl)
  (rl:PySem.W.findIn K (.ref ju) "steps"=some none)
  (rz:PySem.W.findIn K (.ref ju) "best"=some none)
  (ia:CzT K "WithinWidth" dk)
  (l4:MzT K dk "__init__" "WithinWidth.__init__" st_WithinWidth_init j4 jk)
  (j8:MzT K dk "state_behind" "WithinWidth.state_behind" st_WithinWidth_state_behind gh fg)
  (li:MzT K dk "rag_of" "WithinWidth.rag_of" st_WithinWidth_rag_of ji i6)
  (rm:PySem.W.findIn K (.ref dk) "width"=some none)
  (gz:CzT K "Setter" c7)
  (oq:MzT K c7 "__init__" "Setter.__init__" st_Setter_init l0 lg)
  (lc:MzT K c7 "choice_below" "Setter.choice_below" fZ i7 ii)
  (l5:MzT K c7 "set_plain" "Setter.set_plain" iP j7 jn)
  (lw:MzT K c7 "set_holder" "Setter.set_holder" iB jm jj)
  (my:MzT K c7 "set_row" "Setter.set_row" st_Setter_set_row f8 d6)
  (lx:MzT K c7 "whole_text" "Setter.whole_text" st_Setter_whole_text jl jg)
  (qm:PySem.W.findIn K (.ref c7) "choices"=some none)
  (r6:PySem.W.findIn K (.ref c7) "used"=some none)
  (re:PySem.W.findIn K (.ref c7) "column"=some none)
  (rn:PySem.W.findIn K (.ref c7) "parts"=some none)
  (rf:PySem.W.nsIn K mainGlobals "NoRoom"=some (some (.ref cb)))
  (rh:PySem.W.excIn K cb [.type "ValueError",.type "Exception",.type "BaseException",.type "object"] "ValueError.__new__"=true)
  :∃fd:FuncData,(∀(s:Shared) (v:Value),BindsTo s fd ⟨[v],[]⟩ [("_law_script",v)])/\∀base:Heap,K.In base->base.Ns mainGlobals mg->FnOk l.prog w K mg base CX0 47 fa fd ["_law_script"] (zv1 K):=by
 have e:=hfa.symm.trans (YM X G pz.a)
 cases e
 have aw:=eQ rZ X G nq
 have a7:=eQ sR X G oj
 have ao:=eQ qN X G mq
 have fm:=eQ sS X G qt
 have de:=eQ wY X G o6
 have cc:=eQ sA X G pj
 have bh:=eQ uJ X G oo
 have al:=eQ pP X G mi
 have cr:=eQ iG X G nr
 have b7:=eQ fK X G mw
 have bv:=eQ eI X G mj
 have a8:=eQ gM X G ol
 have am:=eQ pQ X G ml
 have bq:=eQ wZ X G o7
 have jp:=eQ zq5 X G qu
 have iz:=eQ qX X G qh
 have ax:=eQ jS X G nu
 have g7:=eQ tT X G p8
 have af:=eQ mJ X G mx
 have bo:=eQ lE X G pq
 have jw:=eQ xS X G pr
 have cm:=eQ jR X G qi
 have jr:=eQ jN X G qw
 have js:=eQ xX X G qx
 have iy:=eQ gC X G qy
 have ki:=eQ lF X G rj
 have gc:=eQ kM X G p9
 have i5:=eQ nS X G qj
 have eo:=eQ vL X G rk
 have ko:=eQ zm1 X G rq
 have dr:=eQ sB X G pw
 have fj:=eQ qY X G qk
 have qg:=eQ lG X G pz
 obtain⟨U,hU⟩:∃U,U=(kap [("Place",lh),("Front",ju),("WithinWidth",dk),("Setter",c7)]):=⟨_,rfl⟩
 have ly:U "Place"=lh:=by rw [hU];simp [kap,fL]
 have av:=zh7 ly p6
 have gi:=yp3 xA X G ly p6 o8
 have bd:=wC ly qz
 have c8:=wC ly rc
 have jv:U "Front"=ju:=by rw [hU];simp [kap,fL]
 have ac:=zh7 jv lu
 have b5:=yp3 xB X G jv lu o9
 have ak:=wD xY jv lu p7
 have cu:=wD nB jv lu nv
 have b6:=wC jv rl
 have ag:=wC jv rz
 have ez:U "WithinWidth"=dk:=by rw [hU];simp [kap,fL]
 have au:=zh7 ez ia
 have di:=yp3 oS X G ez ia l4
 have ai:=wD eS ez ia j8
 have a9:=wD nF ez ia li
 have dt:=wC ez rm
 have cq:U "Setter"=c7:=by rw [hU];simp [kap,fL]
 have ae:=zh7 cq gz
 have jq:=yp3 uL X G cq gz oq
 have ay:=wD iX cq gz lc
 have bn:=wD kP cq gz l5
 have bg:=wD eO cq gz lw
 have aq:=wD mK cq gz my
 have bf:=wD nU cq gz lx
 have cf:=wC cq qm
 have dj:=wC cq r6
 have fk:=wC cq re
 have gf:=wC cq rn
 have aa:=ZZ X G z0
 have k8:=ZZ X G z1
 have qf:=ZZ X G z2
 have mm:=ZZ X G z3
 have k7:=ZZ X G z4
 have qe:=ZZ X G z5
 have kh:=ZZ X G z6
 have i3:=ZZ X G z7
 have l6:=YM X G g0
 have l7:∀H,Rep K U H (.ref j0) (.tup [(.str "group"),(.str "hang"),(.str "either")]) []:=fun H=>xe8 (ys:=[("group",_),("hang",_),("either",_)]) ql (Zd rfl) H
 obtain⟨oc,od,kV,doc,pm,an,cdv,ct,osl,el,_,_⟩:=pz.F.ex
 refine⟨sd,fun s v=>by rw [el];exact .of_eq rfl,fun base KB _=> ?_⟩
 have gw:OwnCls "NoRoom" cb bmV "ValueError.__new__" mg base:=⟨YM X G rf,xp7 KB rh⟩
 have H1:=zy4 (P:=l.prog) (w:=w) (base:=base) (n:=0) jw aa
 have H2:=yn2 (n:=1) cm jw H1 aa qe
 have da:=wg1 (U:=U) H2
 have mz:=we1 (U:=U) H1
 have lq:=yx2 (P:=l.prog) (w:=w) (base:=base) (U:=U) (n:=0) iy i3 aa
 have nh:=yx0 (P:=l.prog) (w:=w) (base:=base) (U:=U) (n:=0) jr kh
 have no:=yx1 (n:=1) js jr nh.up
 have on:=xg0 (n:=2) ki cm da.up iy lq.up js no.up kh i3 aa
 have db:=zf9 (P:=l.prog) (w:=w) (base:=base) (U:=U) (n:=0) a7 l6 l7
 have ar:=zs6 (P:=l.prog) (w:=w) (base:=base) (U:=U) (n:=0) b5 ac b6 ag
 have ja:=zs2 (P:=l.prog) (w:=w) (base:=base) (U:=U) (n:=0) de
 have gj:=zy5 (n:=1) cc de ja.up av bd c8
 have dh:=zm0 (P:=l.prog) (w:=w) (base:=base) (U:=U) (n:=0) bh
 have bx:=xT (n:=1) al bh dh.up aa
 have ge:=uK (P:=l.prog) (w:=w) (base:=base) (U:=U) (mg:=mg) (n:=0) a9 au dt
 have c6:=pR (n:=2) ai cc gj.up al bx.up bh dh.up a9 ge.up au dt
 have az:=zy8 (P:=l.prog) (w:=w) (base:=base) (U:=U) (mg:=mg) (n:=0) ak ac ag
 have ir:=za3 (n:=2) b7 b5 ar.up ai c6.up ak az.up ac ag b6
 have dc:=zs5 (P:=l.prog) (w:=w) (base:=base) (U:=U) (n:=0) gi av bd c8
 have jo:=yw8 (n:=1) fm gi dc.up av bd c8
 have b9:=za2 (P:=l.prog) (w:=w) (base:=base) (U:=U) (n:=0) ao av bd
 have jd:=zc1 (n:=1) cr b5 ar.up ak az.up ac ag b6
 have je:=zc3 (n:=1) cu ak az.up ac ag
 have ot:∀n,FnOk l.prog w K mg base CX0 (3*n+4) _ _ ["front","row","place"] (SpP 3 K U (wU n)):=fun n=>by
  induction n with
  |zero=>exact FnOk.noneP (ps:=["front","row","place"])
  |succ n ih=>exact zg0 (n:=3*n+6) a8 a7 (db.mono (by omega)) bv (xU (n:=3*n+4) bv b5 (ar.mono (by omega)) fm (jo.mono (by omega)) ao (b9.mono (by omega)) cr (jd.mono (by omega)) cu (je.mono (by omega)) a8 (ih.mono (by omega)) ac b6 k8) b7 (ir.mono (by omega))
 have eh:=ot 13
 have cv:=zc0 (n:=1) aw gi dc.up
 have bw:=xV (n:=43) am a8 eh.up aw cv.up
 have gv:=xG (P:=l.prog) (w:=w) (base:=base) (U:=U) (n:=0) di au dt
 have ej:=zs3 (P:=l.prog) (w:=w) (base:=base) (U:=U) (n:=0) bq
 have na:=yw9 (n:=1) jp bq ej.up qf aa
 have me:=yn3 (n:=2) iz jp na.up bq ej.up mm aa
 have cw:=zc2 (n:=2) ax b5 ar.up di gv.up iz me.up ak az.up
 have ig:=xW (P:=l.prog) (w:=w) (base:=base) (U:=U) (n:=0) af gw ac ag k7
 have kt:=zs4 (n:=44) bo af ig.up am bw.up ax cw.up gw
 have iw:=za4 (P:=l.prog) (w:=w) (base:=base) (U:=U) (n:=0) af ac ag k7
 have ka:=zm2 (P:=l.prog) (w:=w) (base:=base) (U:=U) (n:=0) jq ae cf dj fk gf
 have gy:=xH (n:=2) bn cc gj.up al bx.up ae fk gf
 have eu:=tU (P:=l.prog) (w:=w) (base:=base) (U:=U) (n:=0) ay ae dj cf aa
 have ny:∀n,FnOk l.prog w K mg base CX0 (2*n+3) _ _ ["self","row","place"] (SpE 3 K U (bD [true,false,false]) (rG n)):=fun n=>by
  induction n with
  |zero=>exact FnOk.noneE (ps:=["self","row","place"])
  |succ n ih=>exact za5 (n:=2*n+4) aq a7 (db.mono (by omega)) bg (vM (n:=2*n+3) bg fm (jo.mono (by omega)) ao (b9.mono (by omega)) ay (eu.mono (by omega)) aq ih aa) bn (gy.mono (by omega))
 have dg:=ny 13
 have gl:=vN (P:=l.prog) (w:=w) (base:=base) (U:=U) (n:=0) bf ae dj gf cf aa
 have lm:=ye5 (n:=28) g7 jq ka.up aq dg.up aw cv.up bf gl.up
 have lb:=zy6 (n:=44) bo af iw.up am bw.up ax cw.up g7 lm.up
 have jy:=zy7 (n:=45) dr bo lb.up kt.up gw
 have j6:=yn5 (P:=l.prog) (w:=w) (base:=base) (U:=U) (n:=0) fj aa mm
 have kg:=ye6 (n:=2) gc cm da.up aa
 have r8:∀n,FnOk l.prog w K mg base CX0 (2*n+3) _ _ ["_law_script","_law_row_here","_law_flat","_law_hang","_law_state"] (SpE 5 K U (bD [false,false,false,false,true]) (wS yq5 n)):=fun n=>by
  induction n with
  |zero=>exact FnOk.noneE (ps:=["_law_script","_law_row_here","_law_flat","_law_hang","_law_state"])
  |succ n ih=>exact xg1 (n:=2*n+4) eo i5 (yn4 (n:=2*n+3) i5 eo ih gc (kg.mono (by omega)) aa) aa
 have jt:=r8 13
 have oh:=xq9 (n:=29) ko eo jt.up aa
 have sr:=xx1 (n:=46) qg ki on.up cm da.up dr jy.up fj j6.up ko oh.up k7 aa
 exact wg2 sr fun ns hl=>yp2 (by decide) (by decide) (by decide) (fun j s h0 h1 h2 h3=>xi5 hl j s h0 h1 h2 h3)
end My
open PySem PySem.W PyProof.Rows
set_option maxRecDepth 100000 in
set_option maxHeartbeats 0 in
theorem PySem.Challenge.cw_linepress_k33_whole_wider_no_more_holds : PySem.Challenge.rw_linepress_k33_whole_wider_no_more.Holds := by
 w_on;o_law;k_head;(case hw=>w_witness2)
 k_fill
 refine My.wg3 (lev:=47) (l:=PySem.Challenge.rw_linepress_k33_whole_wider_no_more) rfl rfl ⟨rfl,by decide,by decide⟩ (fun w h Y=>PySem.W.kIn_of Y) ?F
 case F=>
  intro w mg fa h KX G hmg
  apply My.xz0 KX G hmg
  all_goals first
   |(refine' My.FzT.mk ?a (L2.yt4 ?b ?c ?d);(case a=>k_is);(case b=>k_is);(case c=>k_is);(case d=>k_is))
   |(refine' My.MzT.mk ?a ?e (L2.yt4 ?b ?c ?d);(case a=>k_is);(case e=>k_is);(case b=>k_is);(case c=>k_is);(case d=>k_is))
   |(refine' My.CzT.mk ?a ?_ ?_ ?_ ?_ ?_ ?_;(case a=>k_is);all_goals k_is)
   |(refine' My.vz_mk ?a ?b;(case a=>k_is);(case b=>exact⟨_,rfl⟩))
   |k_is
   |rfl
   |kit_is
   |k_exc
   |kernel_rfl
#print axioms PySem.Challenge.cw_linepress_k33_whole_wider_no_more_holds

