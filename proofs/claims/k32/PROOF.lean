import PyProof.Rows.All
import Wide.All
import OpenK.AllK
import Wide.FinOn
import Lean
import PyProof.EqAt
import PyProof.EqKinds
import PyProof.TupleCall
import PySem.Challenge.RW_linepress_k32_stairs
set_option Elab.async false
set_option genSizeOfSpec false
set_option genInjectivity false
def PySem.W.Fast.tw17885424355328441073:=()
def PySem.W.Fast.tw6327834453305606920:=()
def PySem.W.Fast.tw49273212715389249:=()
def PySem.W.Fast.tw5345991460673319046:=()
def PySem.W.Fast.tw10482886264473873082:=()
def PySem.W.Fast.tw13645690358076505276:=()
def PySem.W.Fast.tw5042924059625817730:=()
def PySem.W.Fast.tw10988141419070428437:=()
def PySem.W.Fast.tw14688907481530889274:=()
def PySem.W.Fast.tw9115702066488584062:=()
def PySem.W.Fast.tw13512865386555194075:=()
def PySem.W.Fast.tw16982316913579751290:=()
def PySem.W.Fast.tw14530518840753670607:=()
def PySem.W.Fast.tw5449877932783772265:=()
def PySem.W.Fast.tw3618838286117445929:=()
def PySem.W.Fast.tw11644786772164883429:=()
def PySem.W.Fast.tw2373508205160866084:=()
def PySem.W.Fast.tw10777860174927263881:=()
def PySem.W.Fast.tw10933049746059430285:=()
def PySem.W.Fast.tw3022581148794430282:=()
def PySem.W.Fast.tw9240754747609716323:=()
def PySem.W.Fast.tw17385843847487797835:=()
def PySem.W.Fast.tw14509926602105569399:=()
def PySem.W.Fast.tw16503502968496998196:=()
def PySem.W.Fast.tw10404574878811095228:=()
def PySem.W.Fast.tw3225547665679922968:=()
def PySem.W.Fast.tw2419804525322522619:=()
def PySem.W.Fast.tw1171213706568839851:=()
def PySem.W.Fast.tw12622605781834824163:=()
def PySem.W.Fast.tw12024919220800870656:=()
def PySem.W.Fast.tw16140922828336721735:=()
def PySem.W.Fast.tw7688476839410020854:=()
def PySem.W.Fast.tw13402098755275307747:=()
def PySem.W.Fast.tw5739597993526784311:=()
def PySem.W.Fast.tw5767436634784758077:=()
def PySem.W.Fast.tw8372114854834876593:=()
def PySem.W.Fast.tw6175301925090699152:=()
def PySem.W.Fast.tw4644868897151314738:=()
def PySem.W.Fast.tw5370670374724601638:=()
def PySem.W.Fast.tw12109181354733354322:=()
def PySem.W.Fast.tw7860907988936634780:=()
def PySem.W.Fast.tw8036654970558597656:=()
def PySem.W.Fast.tw1019443054720733830:=()
def PySem.W.Fast.tw16684052661683789874:=()
def PySem.W.Fast.tw2780323838204971661:=()
set_option linter.all false
set_option maxRecDepth 100000
set_option maxHeartbeats 1000000
abbrev NDb(x:PySem.Str):Prop:=(x==("__debug__":PySem.Str))=false
def Z0:=@List.mem_cons_self
def Z1:=@List.mem_cons_of_mem
def Z2:=@Option.bind_some
def Z3:=@List.mem_cons
def Z4:=@List.getElem?_eq_some_iff
def Z5:=@List.length_append
def Z6:=@List.length_cons
def Z7:=@List.length_map
def Z8:=@List.map_cons
def Z9:=@Nat.le_of_ble_eq_true
def Za:=@Bool.false_ne_true
def Zb:=@Nat.le_refl
def Zc:=@List.mem_singleton
def Zd:=@List.getElem?_map
def Ze:=@List.mem_append_right
def Zf:=@PySem.Heap.get?_push_of_some
def Zg:=@decide_eq_false
def Zh:=@PySem.wpAny_bind
def Zi:=@List.size_toArray
def Zj:=@PySem.Heap.lt_size
def Zk:=@List.nodup_nil
def Zl:=@List.append_nil
def Zm:=@List.getElem?_eq_getElem
def Zn:=@List.mem_append
def Zo:=@List.mem_append_left
def Zp:=@Option.map_eq_some_iff
def Zq:=@List.append_assoc
def Zr:=@decide_eq_true
def Zs:=@List.nodup_cons
def Zt:=@List.getElem?_set_ne
def Zu:=@Nat.le_trans
def Zv:=@PySem.Heap.get?_push_size
def Zw:=@List.getElem?_set_self
def Zx:=@Nat.lt_of_lt_of_le
def Zy:=@Bool.and_eq_true
def Zz:=@List.lookup_cons
def ZA:=@List.nodup_append
def ZB:=@Option.some.inj
def ZC:=@Int.emod_lt_of_pos
def ZD:=@PySem.PassesOwn.never
def ZE:=@Int.emod_nonneg
def ZF:=@PySem.W.mg_none_of
def ZG:=@Nat.ne_of_lt
def ZH:=@PySem.wpAny_pure
def ZI:=@PySem.Paired.length
def ZJ:=@congrArg
def ZK:=@Nat.zero_le
def ZL:=@List.mem_of_getElem?
def ZM:=@PySem.W.kia_one
def ZN:=@PySem.wpAny_mono
def ZO:=@List.getElem?_append_left
def ZP:=@List.mem_map
def ZQ:=@Bool.false_eq_true
def ZR:=@List.not_mem_nil
def ZS:=@List.cons_append
def ZT:=@decide_eq_true_eq
def ZU:=@List.length_nil
def ZV:=@List.map_append
def ZW:=@if_true
def ZX:=@List.drop_eq_getElem_cons
def ZY:=@PySem.Heap.get?_update_other
def ZZ:=@PySem.boot_len
def Y2:=@Nat.lt_irrefl
def Y3:=@PySem.wpAny_Call_Name_kw
def Y4:=@PySem.wpAny_truthy_bool
def Y5:=@Nat.le_add_right
def Y6:=@PySem.W.sortI_perm
def Y7:=@Ne.symm
def Y8:=@beq_eq_false_iff_ne
def Y9:=@PySem.W.hideAll_get
def Ya:=@Array.length_toList
def Yb:=@PySem.mem_of_lookup
def Yc:=@List.replicate_succ
def Yd:=@List.mem_map_of_mem
def Ye:=@List.zip_cons_cons
def Yf:=@Nat.lt_of_le_of_lt
def Yg:=@PySem.F.plain_min_loop
def Yh:=@PyProof.Rows.callWith_type1
def Yi:=@PySem.sizeLine_eq
def Yj:=@List.length_range
def Yk:=@PySem.wpAny_passesOwn
def Yl:=@PySem.wpAny_loadPart'
def Ym:=@Int.le_refl
def Yn:=@Nat.lt_succ_self
def Yo:=@PySem.W.mg_of
def Yp:=@List.find?_cons
def Yq:=@List.nil_append
def Yr:=@eq_self
def Ys:=@PySem.W.callWith_K
def Yt:=@of_decide_eq_false
def Yu:=@List.getElem?_replicate
def Yv:=@List.getElem?_cons_succ
def Yw:=@Nat.le_of_lt
def Yx:=@PySem.wpAny_holding
def Yy:=@if_false
def Yz:=@List.flatten_cons
def YA:=@List.map_map
def YB:=@PySem.wpAny_getItem_str_slice
def YC:=@List.getElem?_eq_none
def YD:=@List.perm_append_comm
def YE:=@List.length_take
def YF:=@PySem.W.hideAll_none
def YG:=@Bool.eq_iff_iff
def YH:=@Nat.not_lt_zero
def YI:=@Nat.zero_add
def YJ:=@List.mem_range
def YK:=@List.mem_filterMap
def YL:=@beq_iff_eq
def YM:=@List.getElem?_append_right
def YN:=@List.getD_eq_getElem?_getD
def YO:=@PySem.wpAny_execs_nil
def YQ:=@Int.toNat_natCast
def YR:=@PySem.F.args_tuple_add_2
def YS:=@List.any_cons
def YT:=@List.set_eq_of_length_le
def YU:=@PySem.Calls.Name_function_global
def YV:=@PySem.Calls.spliced_cons
def YW:=@PySem.F.entry_tuple_add
def YX:=@Option.join_some
def YY:=@decide_eq_decide
def YZ:=@List.append_cancel_left
def X0:=@PySem.F.slot_tuple_add
def X1:=@List.sublist_cons_self
def X2:=@List.append_inj_right'
def X3:=@PySem.Calls.spliced_nil
def X4:=@PySem.W.methodCall_KW
def X5:=@List.length_replicate
def X6:=@List.append_inj_left'
def X7:=@PySem.wpAny_execs_cons
def X8:=@or_false
def X9:=@List.filterMap_cons
def Xa:=@PySem.W.plainGet_of
def Xb:=@PySem.codeAny_mono
def Xc:=@PySem.typeIs_str
def Xd:=@PySem.Calls.callWith_builtin
def Xe:=@ne_true_of_eq_false
def Xf:=@List.reverse_append
def Xg:=@List.length_reverse
def Xh:=@PySem.post_val_or_str
def Xi:=@List.cons.inj
def Xj:=@PySem.W.of_hideAll
def Xk:=@PySem.Heap.get?_update_self
def Xl:=@List.zip_nil_left
def Xm:=@List.map_nil
def Xn:=@of_decide_eq_true
def Xo:=@Nat.add_zero
def Xp:=@PySem.Around.under_plainId
def Xq:=@PySem.wpAny_tryCatch
def Xr:=@PyProof.Rows.callWith_builtin1
def Xs:=@List.nil_sublist
def Xt:=@List.drop_length
def Xu:=@Bool.not_eq_true
def Xv:=@Array.toList_inj
def Xw:=@PySem.plainId_quiet
def Xx:=@List.eq_nil_of_length_eq_zero
def Xy:=@PyProof.Rows.boot_tuple
def Xz:=@List.of_mem_zip
def XA:=@PySem.call_meets
def XB:=@PySem.tupleKind_room_in1
def XC:=@PySem.F.args_str_split_2
def XD:=@PyProof.Rows.boot_isinstance
def XE:=@List.takeWhile_append_of_pos
def XF:=@Bool.false_and
def XG:=@Int.fdiv_eq_ediv_of_nonneg
def XH:=@PySem.F.entry_str_split
def XI:=@PySem.Txt.slice_le
def XJ:=@List.drop_zero
def XL:=@PySem.F.excBase_ValueError
def XM:=@List.sublist_append_right
def XN:=@PySem.noFill_tuple_add
def XO:=@List.all_cons
def XQ:=@PySem.F.slot_str_split
def XR:=@List.sublist_append_left
def XS:=@PySem.F.entry_min_loop
def XT:=@PySem.F.slot_dict_values
def XU:=@List.filterMap_cons_some
def XV:=@PySem.F.args_tuple_lt_2
def XW:=@PySem.F.plainAttrs_list
def XX:=@PySem.wpAny_letGo
def XY:=@Nat.ne_of_gt
def XZ:=@PySem.W.cellsFrom_some
def W0:=@PySem.F.entry_tuple_lt
def W1:=@List.append_eq_nil_iff
def W2:=@Option.map_eq_none_iff
def W3:=@PySem.W.funFrames_hide
def W4:=@PySem.W.funFrames_base
def W5:=@PySem.codeAny_builtin
def W6:=@PySem.wpAny_updateSeq
def W7:=@PySem.F.slot_str_split
def W8:=@PySem.F.type_str_split
def W9:=@Int.le_of_lt
def Wa:=@PySem.F.slot_tuple_lt
def Wb:=@List.length_singleton
def Wc:=@Array.getElem?_toList
def Wd:=@Sum.inl.inj
def We:=@PySem.Heap.size_push
def Wf:=@PySem.wpAny_seqItems
def Wg:=@Int.le_of_lt_add_one
def Wh:=@PySem.W.callWith_K0
def Wi:=@List.dropLast_cons₂
def Wj:=@Array.append_assoc
def Wk:=@PySem.wpAny_standAt
def Wl:=@PySem.W.kitx_tuple
def Wm:=@PySem.AutoSeq1.sub_tuple_tuple
def Wn:=@List.zip_nil_right
def Wo:=@PySem.seq_tuple_add
def Wp:=@PySem.wpAny_pyNext_values_item
def Wq:=@PySem.Calls.loadGlobal_global
def Ws:=@PySem.W.kitx_list
def Wt:=@PySem.W.kitx_dict
def Wu:=@Option.isSome_map
def Wv:=@Nat.le_succ_of_le
namespace L2
open PySem PySem.Spec PyProof.Rows
abbrev Key:=Sum Int Str
abbrev _root_.tz9:=Str->Addr
abbrev _root_.tz0:=PySem.W.Frag
abbrev _root_.tzA:=Str->Option Value
abbrev _root_.tzB:=List (Addr×Obj)
def yA:Key->Value->Bool
 | .inl k,v=>Value.isInt k v
 | .inr x,v=>Value.isStrOf x v
def wo7(w:World):Key->Int
 | .inl k=>hashInt k
 | .inr x=>hashStr w x
theorem fL:∀{k:Key} {v:Value},yA k v=true->(∃i t,k=Sum.inl i/\v=Value.int i t)\/(∃x t,k=Sum.inr x/\v=Value.str x t)
 | .inl i,v,h=>by
  obtain⟨t,e⟩:=Value.isInt_shape (k:=i) (v:=v) h
  exact .inl ⟨i,t,rfl,e⟩
 | .inr x,v,h=>by
  obtain⟨t,e⟩:=Value.isStrOf_shape (x:=x) (v:=v) h
  exact .inr ⟨x,t,rfl,e⟩
theorem yw0(i:Int)(t:Tok):yA (.inl i) (.int i t)=true:=by simp [yA,Value.isInt]
theorem yw1(x:Str)(t:Tok):yA (.inr x) (.str x t)=true:=by simp [yA,Value.isStrOf]
theorem wa4(a b:Int):decide ((Sum.inl a:Key)=Sum.inl b)=(a==b):=by
 by_cases e:a=b
 ·subst e;simp
 ·have h:¬(Sum.inl a:Key)=Sum.inl b:=fun q=>e (Wd q)
  rw [Zg h]
  exact(Y8.mpr e).symm
theorem wa5(a b:Str):decide ((Sum.inr a:Key)=Sum.inr b)=decide (a=b):=by
 by_cases e:a=b
 ·subst e;simp
 ·have h:¬(Sum.inr a:Key)=Sum.inr b:=fun q=>e (Sum.inr.inj q)
  rw [Zg h,Zg e]
theorem wa6(a:Int)(b:Str):decide ((Sum.inl a:Key)=Sum.inr b)=false:=Zg (fun q=>nomatch q)
theorem wa7(a:Str)(b:Int):decide ((Sum.inr a:Key)=Sum.inl b)=false:=Zg (fun q=>nomatch q)
def eO(prog:Program)(w:World):PySem.KeyKind prog w Key where
 is:=yA
 hash:=wo7 w
 inj:=fun v a b ha hb=>by
  rcases fL ha with ⟨i,t,rfl,rfl⟩|⟨x,t,rfl,rfl⟩
  ·rcases fL hb with ⟨j,u,rfl,e⟩|⟨y,u,rfl,e⟩
   ·injection e with e1 _;rw [e1]
   ·exact nomatch e
  ·rcases fL hb with ⟨j,u,rfl,e⟩|⟨y,u,rfl,e⟩
   ·exact nomatch e
   ·injection e with e1 _;rw [e1]
 byValue:=fun k v h=>by
  rcases fL h with ⟨i,t,rfl,rfl⟩|⟨x,t,rfl,rfl⟩<;>rfl
 pyHash:=fun hv h=>by
  rcases fL hv with ⟨i,t,rfl,rfl⟩|⟨x,t,rfl,rfl⟩
  ·exact wpAny_pyHash_int h
  ·exact wpAny_pyHash_str h
 eqBool:=fun hu hv h=>by
  rcases fL hu with ⟨i,t,rfl,rfl⟩|⟨x,t,rfl,rfl⟩
  ·rcases fL hv with ⟨j,u,rfl,rfl⟩|⟨y,u,rfl,rfl⟩
   ·rw [wa4] at h;exact wpAny_eqBool_int h
   ·rw [wa6] at h;exact SeqAt.EqAt.int_str i t y u _ _ _ _ h
  ·rcases fL hv with ⟨j,u,rfl,rfl⟩|⟨y,u,rfl,rfl⟩
   ·rw [wa7] at h;exact SeqAt.EqAt.str_int x t j u _ _ _ _ h
   ·rw [wa5] at h;exact wpAny_eqBool_str h
 «strs»:=fun k x t v h=>by
  rcases fL h with ⟨i,u,rfl,e⟩|⟨y,u,rfl,e⟩
  ·exact nomatch e
  ·injection e with e1 _
   subst e1
   cases v<;>rfl
theorem yi1(prog:Program)(w:World)(i:Int)(t:Tok):(eO prog w).is (.inl i) (.int i t)=true:=yw0 i t
theorem yi2(prog:Program)(w:World)(x:Str)(t:Tok):(eO prog w).is (.inr x) (.str x t)=true:=yw1 x t
set_option genInjectivity true in
inductive V where
 |non|bl (b:Bool)|int (i:Int)|str (x:Str)|byt (b:Array UInt8)|flt (b:UInt64)|ref (a:Addr)|ty (n:String)
 deriving DecidableEq
def cF:V->Value->Prop
 | .non,u=>u=Value.none
 | .bl b,u=>u=Value.bool b
 | .int i,u=>∃t,u=Value.int i t
 | .str x,u=>∃t,u=Value.str x t
 | .byt b,u=>∃t,u=Value.bytes b t
 | .flt b,u=>∃t,u=Value.float b t
 | .ref a,u=>u=Value.ref a
 | .ty n,u=>u=Value.type n
abbrev bF:List V->List Value->Prop:=Paired cF
theorem bF.length{xs:List V}{us:List Value}(r:bF xs us):xs.length=us.length:=ZI r
theorem bF.get:∀{xs:List V} {us:List Value} {i:Nat} {x:V},bF xs us->xs[i]? =some x->∃u,us[i]? =some u/\cF x u
 |_,_,_,_,.nil,e=>by simp at e
 |_,_,0,_,.cons r _,e=>by simp at e;subst e;exact⟨_,rfl,r⟩
 |_,_,i+1,x,.cons _ t,e=>by
  obtain⟨u,h1,h2⟩:=bF.get (i:=i) (x:=x) t (by simpa using e)
  exact⟨u,by simpa using h1,h2⟩
theorem bF.set{x:V}{u:Value}(r:cF x u):∀{xs:List V} {us:List Value} (i:Nat),bF xs us->bF (xs.set i x) (us.set i u)
 |_,_,_,.nil=> .nil
 |_,_,0,.cons _ t=> .cons r t
 |_,_,i+1,.cons q t=> .cons q (bF.set r i t)
theorem bF.append:∀{xs ys:List V} {us ws:List Value},bF xs us->bF ys ws->bF (xs++ys) (us++ws)
 |_,_,_,_,.nil,s=>s
 |_,_,_,_,.cons r t,s=> .cons r (bF.append t s)
theorem bF.take:∀{xs:List V} {us:List Value} (n:Nat),bF xs us->bF (xs.take n) (us.take n)
 |_,_,0,_=> .nil
 |_,_,_+1,.nil=> .nil
 |_,_,n+1,.cons r t=> .cons r (bF.take n t)
theorem bF.drop:∀{xs:List V} {us:List Value} (n:Nat),bF xs us->bF (xs.drop n) (us.drop n)
 |_,_,0,r=>r
 |_,_,_+1,.nil=> .nil
 |_,_,n+1,.cons _ t=>bF.drop n t
def kH:Option V->Option Value->Prop
 |some v,some u=>cF v u
 |none,none=>True
 |_,_=>False
def KV{κ:Type}:List (κ×V)->List (κ×Value)->Prop:=Paired fun(p:κ×V) (q:κ×Value)=>p.1=q.1/\cF p.2 q.2
def kV:Key->V
 | .inl i=> .int i
 | .inr x=> .str x
inductive HO where
 |lst (xs:List V)
 |tup (xs:List V)
 |dK (kvs:List (Key×V))|dT (kvs:List (List Key×V))
 |set (S:Int->Bool) (n:Nat)
 |ins (C dx:Addr) (fs:List (Str×V))
 |own (x:Addr)
 |xd (fs:List (Str×V))
 |met (f x:Addr)
 |rng (lo hi:Int)
 |frz (o:Obj) (u:HO)
 |tbl (ps:Array Value)
 |ext (φ:Heap->Prop)
abbrev Hp:=Addr->Option HO
def upd(H:Hp)(a:Addr)(o:HO):Hp:=fun b=>if b=a then some o else H b
theorem cV{H:Hp}{a:Addr}{o:HO}:upd H a o a=some o:=by unfold upd;rw [if_pos rfl]
theorem bE{H:Hp}{a b:Addr}{o:HO}(h:b≠a):upd H a o b=H b:=by unfold upd;rw [if_neg h]
theorem wj6{H:Hp}{a b:Addr}{o u:HO}(h:H a=some o)(h':H b=some u)(d:o≠u):a≠b:=by
 intro e;subst e;rw [h] at h';exact d (ZB h')
theorem mK{H:Hp}{a b:Addr}{o:HO}(h:H a=some o)(h':H b=none):a≠b:=by
 intro e;subst e;rw [h] at h';cases h'
section
variable(P:Program)(w:World)
def dI(H:Hp)(h:Heap)(a:Addr):HO->Prop
 | .lst xs=>xs.length<=sizeLine/\∃(its:List Value) (n:Nat),bF xs its/\h.get? a=some {cls:= .type "list",data:= .seq its.toArray n}
 | .tup xs=>xs.length<=sizeLine/\∃its:List Value,bF xs its/\IsTup h a its.toArray
 | .dK kvs=>kvs.length<=sizeLine/\(a==sysModules)=false/\∃vs,KV kvs vs/\h.DictOf (eO P w) a vs
 | .dT kvs=>kvs.length<=sizeLine/\(a==sysModules)=false/\∃xs:List (List Key×Addr×Value),
   Paired (fun(p:List Key×V) (q:List Key×Addr×Value)=>p.1=q.1/\H q.2.1=some (.tup (p.1.map kV))/\cF p.2 q.2.2) kvs xs/\
   ∃o es ep,h.get? a=some o/\o.ExactDict/\o.data= .dict es ep/\es.toList=xs.map (entryOfKey (tupleKind (eO P w)))/\(xs.map (·.1)).Nodup
 | .set S n=>h.SetOf (intKind P w) a S n
 | .ins C dx fs=>H dx=some (.own a)/\fs.length<=1000/\dx≠a/\h.get? a=some (PySem.W.instObj C dx)/\
   ∃mA,h.Ns1 dx mA/\(∀f,kH (fs.lookup f) (mA f))/\PySem.Within mA (fs.map (·.1))
 | .own _=>∃o,h.get? a=some o
 | .xd fs=>∃mA,h.Ns1 a mA/\∀f,kH (fs.lookup f) (mA f)
 | .rng lo hi=>∃t u v,h.get? a=some {cls:= .type "range",data:= .fields #[.int lo t,.int hi u,.int 1 v]}
 | .frz o u=>h.get? a=some o/\dI H h a u
 | .tbl ps=>h.get? a=some {cls:= .none,data:= .fields ps}
 | .met f x=>h.get? a=some (PySem.W.methodObj (.ref f) (.ref x))
 | .ext φ=>φ h/\(∃o,h.get? a=some o)/\∀h1 h2:Heap,φ h1->(∀o,h1.get? a=some o->h2.get? a=some o)->φ h2
def HOk(H:Hp)(h:Heap):Prop:=∀a o,H a=some o->dI P w H h a o
end
section
variable{P:Program}{w:World}{H H':Hp}{h h':Heap}{a:Addr}{o:HO}
theorem dI.lt(x:dI P w H h a o):a<h.objs.size:=by
 cases o with
 |lst xs=>obtain⟨_,_,_,_,e⟩:=x;exact Zj e
 |tup xs=>obtain⟨_,_,_,p⟩:=x;exact p.lt
 |dK kvs=>obtain⟨_,_,_,_,o,_,_,e,_⟩:=x;exact Zj e
 |dT kvs=>obtain⟨_,_,_,_,o,_,_,e,_⟩:=x;exact Zj e
 |set S n=>obtain⟨o,_,_,_,e,_⟩:=x;exact Zj e
 |ins C dx fs=>obtain⟨_,_,_,e,_⟩:=x;exact Zj e
 |own y=>obtain⟨_,e⟩:=x;exact Zj e
 |xd fs=>obtain⟨_,⟨_,_,_,e,_⟩,_⟩:=x;exact Zj e
 |rng lo hi=>obtain⟨_,_,_,e⟩:=x;exact Zj e
 |frz ob u=>obtain⟨e,_⟩:=x;exact Zj e
 |tbl ps=>exact Zj (show h.get? a=some _ from x)
 |met f y=>exact Zj (show h.get? a=some _ from x)
 |ext φ=>obtain⟨_,⟨_,e⟩,_⟩:=x;exact Zj e
theorem Paired.mapP{α β:Type}{F G:α->β->Prop}:∀{l₁:List α} {l₂:List β},Paired F l₁ l₂->(∀a b,F a b->G a b)->Paired G l₁ l₂
 |_,_,.nil,_=> .nil
 |_,_,.cons r t,f=> .cons (f _ _ r) (Paired.mapP t f)
theorem dI.stay(x:dI P w H h a o)(k:∀b u,(b=a\/H b=some (.own a))->h.get? b=some u->h'.get? b=some u)
  (ho:∀b,H b=some (.own a)->H' b=some (.own a)) (ht:∀b xs,H b=some (.tup xs)->H' b=some (.tup xs)):dI P w H' h' a o:=by
 induction o with
 |lst xs=>obtain⟨z,its,n,r,e⟩:=x;exact⟨z,its,n,r,k _ _ (.inl rfl) e⟩
 |tup xs=>obtain⟨z,its,r,ob,e,c⟩:=x;exact⟨z,its,r,ob,k _ _ (.inl rfl) e,c⟩
 |dK kvs=>obtain⟨z,y,vs,r,ob,es,ep,e,c⟩:=x;exact⟨z,y,vs,r,ob,es,ep,k _ _ (.inl rfl) e,c⟩
 |dT kvs=>
  obtain⟨z,y,xs,r,ob,es,ep,e,c⟩:=x
  exact⟨z,y,xs,Paired.mapP r fun p q z=>⟨z.1,ht _ _ z.2.1,z.2.2⟩,ob,es,ep,k _ _ (.inl rfl) e,c⟩
 |set S n=>obtain⟨ob,es,ep,t,e,c⟩:=x;exact⟨ob,es,ep,t,k _ _ (.inl rfl) e,c⟩
 |ins C dx fs=>
  obtain⟨d,z,ne,e,mA,⟨od,es,ep,e2,c⟩,r⟩:=x
  exact⟨ho _ d,z,ne,k _ _ (.inl rfl) e,mA,⟨od,es,ep,k _ _ (.inr d) e2,c⟩,r⟩
 |own y=>obtain⟨ob,e⟩:=x;exact⟨ob,k _ _ (.inl rfl) e⟩
 |xd fs=>obtain⟨mA,⟨od,es,ep,e,c⟩,r⟩:=x;exact⟨mA,⟨od,es,ep,k _ _ (.inl rfl) e,c⟩,r⟩
 |rng lo hi=>obtain⟨t,u,v,e⟩:=x;exact⟨t,u,v,k _ _ (.inl rfl) e⟩
 |frz ob u ih=>obtain⟨e,q⟩:=x;exact⟨k _ _ (.inl rfl) e,ih q⟩
 |tbl ps=>
  have e:h.get? a=some {cls:= .none,data:= .fields ps}:=x
  show h'.get? a=some {cls:= .none,data:= .fields ps}
  exact k a _ (.inl rfl) e
 |met f y=>
  have e:h.get? a=some (PySem.W.methodObj (.ref f) (.ref y)):=x
  show h'.get? a=some (PySem.W.methodObj (.ref f) (.ref y))
  exact k a _ (.inl rfl) e
 |ext φ=>obtain⟨p,⟨o,e⟩,st⟩:=x;exact⟨st _ _ p fun o q=>k _ _ (.inl rfl) q,⟨o,k _ _ (.inl rfl) e⟩,st⟩
theorem HOk.lt(x:HOk P w H h)(e:H a=some o):a<h.objs.size:=(x a o e).lt
theorem HOk.fresh(x:HOk P w H h)(e:h.objs.size<=a):H a=none:=by
 cases q:H a with
 |none=>rfl
 |some u=>exact absurd (Zx (x.lt q) e) (Y2 _)
theorem HOk.kept(x:HOk P w H h)(k:∀b u,h.get? b=some u->h'.get? b=some u):HOk P w H h':=fun a o e=>
 (x a o e).stay (fun b u _ q=>k b u q) (fun _ q=>q) fun _ _ q=>q
theorem HOk.laid(x:HOk P w H h)(k:∀b u,h.get? b=some u->h'.get? b=some u)(hp:h.objs.size<=a)(new:dI P w (upd H a o) h' a o):HOk P w (upd H a o) h':=fun b u e=>by
 have hn:=x.fresh hp
 by_cases hb:b=a
 ·subst hb;rw [cV] at e;cases e;exact new
 ·rw [bE hb] at e
  exact(x b u e).stay (fun c v _ q=>k c v q) (fun c q=>by rw [bE (mK q hn)];exact q) fun c xs q=>by rw [bE (mK q hn)];exact q
end
def Rd(H:Hp)(a:Addr)(u:HO):Prop:=H a=some u\/∃o,H a=some (.frz o u)
theorem Rd.ok{P:Program}{w:World}{H:Hp}{h:Heap}{a:Addr}{u:HO}(r:Rd H a u)(x:HOk P w H h):dI P w H h a u:=by
 rcases r with r|⟨o,r⟩
 ·exact x a u r
 ·obtain⟨_,q⟩:=x a _ r
  exact q
def Mut:Option HO->Prop
 |some (.lst _)=>True
 |some (.dK _)=>True
 |some (.dT _)=>True
 |some (.set _ _)=>True
 |some (.ins _ _ _)=>True
 |some (.ext _)=>True
 |_=>False
section
variable{P:Program}{w:World}{H:Hp}{h h':Heap}{x e:Addr}{o':HO}
theorem HOk.write(ok:HOk P w H h)(mu:Mut (H x))(he:e=x\/H e=some (.own x))(k:∀b u,b≠e->h.get? b=some u->h'.get? b=some u)(heo:∃u,h'.get? e=some u)
  (new:dI P w (upd H x o') h' x o'):HOk P w (upd H x o') h':=fun b u q=>by
 have nown:∀c y,H c=some (.own y)->c≠x:=fun c y r z=>by subst z;rw [r] at mu;exact mu
 have ntup:∀c xs,H c=some (.tup xs)->c≠x:=fun c xs r z=>by subst z;rw [r] at mu;exact mu
 by_cases hb:b=x
 ·subst hb;rw [cV] at q;cases q;exact new
 ·rw [bE hb] at q
  by_cases hbe:b=e
  ·have q':H b=some (.own x):=by
    rcases he with z|z
    ·exact absurd (hbe.trans z) hb
    ·rw [hbe];exact z
   rw [q] at q';cases q'
   obtain⟨v,hv⟩:=heo
   exact⟨v,by rw [hbe];exact hv⟩
  ·refine(ok b u q).stay (fun c v hc r=>k c v ?_ r) (fun c r=>by rw [bE (nown c b r)];exact r) fun c xs r=>by rw [bE (ntup c xs r)];exact r
   rcases hc with rfl|hc
   ·exact hbe
   ·rintro rfl
    rcases he with z|z
    ·exact nown c b hc z
    ·rw [hc] at z;cases z;exact hb rfl
end
structure Un(fs ex:List Addr)(H H':Hp)(h h':Heap):Prop where
 keep:∀b o,h.get? b=some o->H b=none->b∉fs->b∉ex->h'.get? b=some o
 slot:∀b o,h.get? b=some o->H b=none->b∈fs->b∉ex->∃sl,h'.get? b=some {o with slots:=sl}
 free:∀b o,h.get? b=some o->H b=none->b∉ex->H' b=none
 there:∀b o,h.get? b=some o->b∉ex->∃o',h'.get? b=some o'
 tups:∀b xs,H b=some (.tup xs)->H' b=some (.tup xs)
 frzs:∀b o u,H b=some (.frz o u)->H' b=some (.frz o u)
 tbls:∀b ps,H b=some (.tbl ps)->∃more,H' b=some (.tbl (ps++more))
section
variable{fs fs' ex ex':List Addr}{H H1 H2:Hp}{h h1 h2 h':Heap}{a x e:Addr}{o:HO}
theorem Un.any(u:Un fs ex H H1 h h1){b:Addr}{ob:Obj}(q:h.get? b=some ob)(n:H b=none)(hx:b∉ex):∃sl,h1.get? b=some {ob with slots:=sl}:=by
 by_cases hb:b∈fs
 ·exact u.slot b ob q n hb hx
 ·exact⟨ob.slots,u.keep b ob q n hb hx⟩
theorem Un.trans(a:Un fs ex H H1 h h1)(b:Un fs ex H1 H2 h1 h2):Un fs ex H H2 h h2 where
 keep:=fun c ob q n hc hx=>b.keep c ob (a.keep c ob q n hc hx) (a.free c ob q n hx) hc hx
 slot:=fun c ob q n hc hx=>by
  obtain⟨sl,e1⟩:=a.slot c ob q n hc hx
  obtain⟨sl',e2⟩:=b.slot c _ e1 (a.free c ob q n hx) hc hx
  exact⟨sl',e2⟩
 free:=fun c ob q n hx=>by
  obtain⟨o',e1⟩:=a.there c ob q hx
  exact b.free c o' e1 (a.free c ob q n hx) hx
 there:=fun c ob q hx=>by
  obtain⟨o',e1⟩:=a.there c ob q hx
  exact b.there c o' e1 hx
 tups:=fun c xs q=>b.tups c xs (a.tups c xs q)
 frzs:=fun c ob xs q=>b.frzs c ob xs (a.frzs c ob xs q)
 tbls:=fun c ps q=>by
  obtain⟨m1,e1⟩:=a.tbls c ps q
  obtain⟨m2,e2⟩:=b.tbls c _ e1
  exact⟨m1++m2,by rw [e2,Wj]⟩
theorem Un.kept(k:∀b u,h.get? b=some u->h'.get? b=some u):Un fs ex H H h h':=
 ⟨fun b ob q _ _ _=>k b ob q,fun b ob q _ _ _=>⟨ob.slots,k b ob q⟩,fun _ _ _ n _=>n,fun b ob q _=>⟨ob,k b ob q⟩,fun _ _ q=>q,fun _ _ _ q=>q,fun _ ps q=>⟨#[],by rw [q];simp⟩⟩
theorem Un.refl:Un fs ex H H h h:=Un.kept fun _ _ q=>q
theorem Un.laid(k:∀b u,h.get? b=some u->h'.get? b=some u)(hp:h.objs.size<=a)(hn:H a=none):Un fs ex H (upd H a o) h h' where
 keep:=fun b u q _ _ _=>k b u q
 slot:=fun b u q _ _ _=>⟨u.slots,k b u q⟩
 free:=fun b u q n _=>by rw [bE (ZG (Zx (Zj q) hp))];exact n
 there:=fun b u q _=>⟨u,k b u q⟩
 tups:=fun b xs q=>by rw [bE (mK q hn)];exact q
 frzs:=fun b u xs q=>by rw [bE (mK q hn)];exact q
 tbls:=fun b ps q=>⟨#[],by rw [bE (mK q hn),q];simp⟩
theorem Un.write(mu:Mut (H x))(he:e=x\/H e=some (.own x))(k:∀b u,b≠e->h.get? b=some u->h'.get? b=some u)(heo:∃u,h'.get? e=some u):Un fs ex H (upd H x o) h h':=by
 have hx:∀b,H b=none->b≠x:=fun b n z=>by subst z;rw [n] at mu;exact mu
 have hb:∀b,H b=none->b≠e:=fun b n z=>by
  subst z
  rcases he with r|r
  ·exact hx b n r
  ·rw [n] at r;cases r
 have hm:∀b u,H b=some u->¬Mut (some u)->b≠x:=fun b u q nm z=>by subst z;rw [q] at mu;exact nm mu
 refine⟨fun b u q n _ _=>k b u (hb b n) q,fun b u q n _ _=>⟨u.slots,k b u (hb b n) q⟩,fun b u q n _=>by rw [bE (hx b n)];exact n,fun b u q _=> ?_,
  fun b xs q=>by rw [bE (hm b _ q fun z=>z)];exact q,fun b u xs q=>by rw [bE (hm b _ q fun z=>z)];exact q,fun b ps q=>⟨#[],by rw [bE (hm b _ q fun z=>z),q];simp⟩⟩
 by_cases hbe:b=e
 ·subst hbe;exact heo
 ·exact⟨u,k b u hbe q⟩
theorem Un.mono(u:Un fs ex H H1 h h1)(hs:∀b∈fs,b∈fs')(hx:∀b∈ex,b∈ex'):Un fs' ex' H H1 h h1:=
 ⟨fun b ob q n hb he=>u.keep b ob q n (fun z=>hb (hs b z)) fun z=>he (hx b z),fun _ _ q n _ he=>u.any q n fun z=>he (hx _ z),fun b ob q n he=>u.free b ob q n fun z=>he (hx b z),fun b ob q he=>u.there b ob q fun z=>he (hx b z),u.tups,u.frzs,u.tbls⟩
end
def trk(h:Heap)(H:Hp):List Addr:=(List.range h.objs.size).filter fun a=>(H a).isSome
def yB(h:Heap)(H:Hp):Heap:=PySem.W.hideAll h (trk h H)
theorem yw2(h:Heap)(H:Hp):(yB h H).objs.size=h.objs.size:=PySem.W.hideAll_size _ _
theorem xh6{h:Heap}{H:Hp}{b:Addr}{o:Obj}(e:h.get? b=some o)(n:H b=none):(yB h H).get? b=some o:=
 Y9 _ e fun hm=>by
  have q:(H b).isSome=true:=(List.mem_filter.mp hm).2
  rw [n] at q;simp at q
theorem xs8{h:Heap}{H:Hp}{b:Addr}{o:Obj}(e:(yB h H).get? b=some o):h.get? b=some o/\H b=none:=by
 have e':h.get? b=some o:=Xj (trk h H) e
 refine⟨e',?_⟩
 cases q:H b with
 |none=>rfl
 |some x=>
  have hm:b∈trk h H:=List.mem_filter.mpr ⟨YJ.mpr (Zj e'),by simp [q]⟩
  have z:(yB h H).get? b=none:=YF (trk h H) hm
  rw [z] at e;cases e
structure Mod(K:tz0)(mg:tzA)(base:Heap):Prop where
 kin:K.In base
 glob:base.Ns mainGlobals mg
 blt:∃mb,base.Ns builtinsNs mb/\∀x:Str,x≠"__name__"->mb x=bootBuiltins x
 nolimit:base.NoLimit
structure Cx where
 prog:Program
 w:World
 K:tz0
 mg:tzA
 base:Heap
 A:Around
 N:List Str
 s₀:Shared
 H₀:Hp
 env:Env
 outer:List Env
 stack:List Env
 ex:List Addr
 fn:Str->Bool
 calm:Bool
 pn:tzB
 xe:Value->Shared->Prop
def frs(l:List Env):List Addr:=l.filterMap (·.frame)
abbrev Cx.fs(X:Cx):List Addr:=frs X.outer
def Vis(sc:Scope)(x:Str):Prop:=sc.names.lookup x=some .local\/sc.names.lookup x=some .cell\/sc.names.lookup x=some .free
def Loc(sc:Scope)(x:Str):Prop:=sc.names.lookup x=some .local\/sc.names.lookup x=some .cell
def wo8(env:Env)(h:Heap)(m:tzA)(x:Str)(u:Value):Prop:=
 (env.kindOf x=some .local/\m x=some u)\/((env.kindOf x=some .cell\/env.kindOf x=some .free)/\∃c,env.cells.lookup x=some c/\h.IsCell c (some u))
structure Cx.Ok(X:Cx):Prop where
 mod:Mod X.K X.mg X.base
 kind:X.env.scope.kind= .function
 glob:X.env.globals=mainGlobals
 blt:X.env.builtins=builtinsNs
 above:X.s₀.heap.objs.size<=X.env.locals
 inj:∀x y c,X.env.cells.lookup x=some c->X.env.cells.lookup y=some c->x=y
 has:∀x,(X.env.kindOf x=some .cell\/X.env.kindOf x=some .free)->∃c,X.env.cells.lookup x=some c
 cab:∀x c,X.fn x=true->X.env.cells.lookup x=some c->X.s₀.heap.objs.size<=c
 hd:X.calm=true->X.A.handled=none
 frames:X.A.frames=some X.stack
 stk:X.stack=X.outer\/(X.stack=X.env::X.outer/\X.env.frame=some X.env.locals)
 exf:∀b∈X.ex,b≠X.env.locals/\∀x c,X.env.cells.lookup x=some c->c≠b
 bs:∀b o,X.base.get? b=some o->X.s₀.heap.get? b=some o/\X.H₀ b=none
 bsz:X.base.objs.size<=X.s₀.heap.objs.size
 noex:∀b o,X.base.get? b=some o->b∉X.ex
 exfs:∀b∈X.ex,b∉X.fs
 funs:X.s₀.heap.FunFrames X.base X.outer
 frf:∀b∈X.fs,X.H₀ b=none
structure Inv(X:Cx)(pins:tzB)(σ:List (Option V))(H:Hp)(s:Shared):Prop where
 ok:X.Ok
 os:s.os=X.s₀.os
 bare:AllBare s.gens
 base:Un X.fs X.ex X.H₀ H X.s₀.heap s.heap
 loc:∃m,s.heap.Ns X.env.locals m/\∀(i:Nat) (x:Str) (v:V),X.N[i]? =some x->σ[i]? =some (some v)->Vis X.env.scope x->∃u,cF v u/\wo8 X.env s.heap m x u
 cell:∀x c,X.env.cells.lookup x=some c->∃v,s.heap.IsCell c v
 free:H X.env.locals=none
 freeC:∀x c,X.env.cells.lookup x=some c->H c=none
 pin:∀p∈X.pn++pins,s.heap.get? p.1=some p.2/\H p.1=none/\p.1≠X.env.locals/\p.1∉X.fs/\∀v,p.2.data≠ .cell v
 hok:HOk X.prog X.w H s.heap
 len:σ.length=X.N.length
section
variable{X:Cx}{pins:tzB}{σ:List (Option V)}{H H':Hp}{s:Shared}{h':Heap}
theorem Cx.Ok.nofr(ok:X.Ok){b:Addr}{o:Obj}(e:X.base.get? b=some o):b∉X.fs:=fun hb=>by
 have:=(ok.funs.mem hb).1
 rw [e] at this;cases this
theorem Inv.bs(I:Inv X pins σ H s):∀b o,X.base.get? b=some o->s.heap.get? b=some o/\H b=none:=fun b o e=>
 ⟨I.base.keep b o (I.ok.bs b o e).1 (I.ok.bs b o e).2 (I.ok.nofr e) (I.ok.noex b o e),I.base.free b o (I.ok.bs b o e).1 (I.ok.bs b o e).2 (I.ok.noex b o e)⟩
theorem Inv.bk(I:Inv X pins σ H s):∀b o,X.base.get? b=some o->s.heap.get? b=some o:=fun b o e=>(I.bs b o e).1
theorem Inv.mod(I:Inv X pins σ H s):Mod X.K X.mg X.base:=I.ok.mod
theorem Inv.kIn(I:Inv X pins σ H s):X.K.In s.heap:=I.ok.mod.kin.keeps I.bk
theorem Inv.lt(I:Inv X pins σ H s):X.env.locals<s.heap.objs.size:=let ⟨_,hn,_⟩:=I.loc;hn.lt
theorem Inv.sz(I:Inv X pins σ H s):X.s₀.heap.objs.size<=s.heap.objs.size:=Zu I.ok.above (Yw I.lt)
theorem Inv.nofs(I:Inv X pins σ H s){a:Addr}(h:s.heap.objs.size<=a):a∉X.fs:=fun hb=>by
 obtain⟨_,o,ho,_⟩:=I.ok.funs.mem hb
 exact absurd (Zx (Zj ho) (Zu I.sz h)) (Y2 _)
theorem Inv.cne(I:Inv X pins σ H s):∀x c,X.env.cells.lookup x=some c->c≠X.env.locals:=fun x c e z=>by
 obtain⟨v,o,ho,hd⟩:=I.cell x c e
 obtain⟨m,⟨o',es,ep,ho',hd',_⟩,_⟩:=I.loc
 rw [z,ho'] at ho;cases ho;rw [hd'] at hd;cases hd
theorem Inv.funs(I:Inv X pins σ H s):s.heap.FunFrames X.base X.outer:=by
 have all:∀(l:List Env),(∀b∈frs l,b∈X.fs)->X.s₀.heap.FunFrames X.base l->s.heap.FunFrames X.base l:=by
  intro l
  induction l with
  |nil=>intro _ _;trivial
  |cons env r ih=>
   intro hs hl
   obtain⟨hk,⟨L,o,hf,hn,ho,hd⟩,hr⟩:=hl
   have hL:L∈X.fs:=hs L (by unfold frs;rw [X9,hf];exact Z0)
   obtain⟨sl,e⟩:=I.base.slot L o ho (I.ok.frf L hL) hL fun z=>I.ok.exfs L z hL
   exact⟨hk,⟨L,_,hf,hn,e,hd⟩,ih (fun b hb=>hs b (by unfold frs;rw [X9,hf];exact Z1 _ hb)) hr⟩
 exact all X.outer (fun _ hb=>hb) I.ok.funs
theorem Inv.stack(I:Inv X pins σ H s):s.heap.FunFrames X.base X.stack:=by
 rcases I.ok.stk with e|⟨e,hf⟩
 ·rw [e];exact I.funs
 ·rw [e]
  obtain⟨m,hn,_⟩:=I.loc
  refine .cons (by rw [I.ok.kind];decide) hf hn ?_ I.funs
  exact Heap.get?_none_of_le (Zu I.ok.bsz I.ok.above)
theorem Inv.stkSub(I:Inv X pins σ H s):∀b∈frs X.stack,b∈X.env.locals::X.fs:=fun b hb=>by
 rcases I.ok.stk with e|⟨e,hf⟩
 ·rw [e] at hb;exact Z1 _ hb
 ·rw [e] at hb
  unfold frs at hb
  rw [X9,hf] at hb
  exact hb
theorem Inv.stkFree(I:Inv X pins σ H s):∀b∈frs X.stack,H b=none:=fun b hb=>by
 rcases Z3.mp (I.stkSub b hb) with e|hb
 ·rw [e];exact I.free
 ·obtain⟨_,o,ho,_⟩:=I.ok.funs.mem hb
  exact I.base.free b o ho (I.ok.frf b hb) fun z=>I.ok.exfs b z hb
theorem Inv.step{g':Array GenState}{t':Nat}{d':Drawn}{ch:List Addr}(I:Inv X pins σ H s)
  (hch:∀b∈ch,(b∈X.ex\/X.s₀.heap.objs.size<=b)/\b≠X.env.locals/\(∀x c,X.env.cells.lookup x=some c->c≠b)/\∀p∈X.pn++pins,p.1≠b)
  (keep:∀b o,b≠X.env.locals->b∉X.fs->b∉ch->s.heap.get? b=some o->H b=none->h'.get? b=some o)
  (slot:∀b o,b≠X.env.locals->b∈X.fs->b∉ch->s.heap.get? b=some o->H b=none->∃sl,h'.get? b=some {o with slots:=sl}) (free:∀b o,b∉ch->s.heap.get? b=some o->H b=none->H' b=none)
  (there:∀b o,b∉ch->s.heap.get? b=some o->∃o',h'.get? b=some o')
  (tups:∀b xs,H b=some (.tup xs)->H' b=some (.tup xs)) (frzs:∀b o u,H b=some (.frz o u)->H' b=some (.frz o u)) (tbls:∀b ps,H b=some (.tbl ps)->∃more,H' b=some (.tbl (ps++more)))
  (ns:∀m,s.heap.Ns X.env.locals m->h'.Ns X.env.locals m) (hok:HOk X.prog X.w H' h') (hg:AllBare g'):
  Inv X pins σ H' {s with heap:=h',gens:=g',drawn:=d',toks:=t'}:=by
 have neL:∀b o,X.s₀.heap.get? b=some o->b≠X.env.locals:=fun b o e=>ZG (Zx (Zj e) I.ok.above)
 have neC:∀b o,X.s₀.heap.get? b=some o->b∉X.ex->b∉ch:=fun b o e hx hb=>by
  rcases(hch b hb).1 with z|z
  ·exact hx z
  ·exact absurd (Zx (Zj e) z) (Y2 _)
 have cellK:∀x c,X.env.cells.lookup x=some c->∀v,s.heap.IsCell c v->h'.IsCell c v:=fun x c e v ⟨o,ho,hd⟩=>by
  have nch:c∉ch:=fun z=>(hch c z).2.2.1 x c e rfl
  by_cases hc:c∈X.fs
  ·obtain⟨sl,q⟩:=slot c o (I.cne x c e) hc nch ho (I.freeC x c e)
   exact⟨_,q,hd⟩
  ·exact⟨o,keep c o (I.cne x c e) hc nch ho (I.freeC x c e),hd⟩
 refine⟨I.ok,I.os,hg,⟨fun b o e n hb hx=> ?_,fun b o e n hb hx=> ?_,fun b o e n hx=> ?_,fun b o e hx=> ?_,fun b xs e=>tups b xs (I.base.tups b xs e),fun b o xs e=>frzs b o xs (I.base.frzs b o xs e),fun b ps e=> ?_⟩,?_,fun x c e=> ?_,?_,fun x c e=> ?_,fun p hp=> ?_,hok,I.len⟩
 ·exact keep b o (neL b o e) hb (neC b o e hx) (I.base.keep b o e n hb hx) (I.base.free b o e n hx)
 ·obtain⟨sl,e1⟩:=I.base.slot b o e n hb hx
  obtain⟨sl',e2⟩:=slot b _ (neL b o e) hb (neC b o e hx) e1 (I.base.free b o e n hx)
  exact⟨sl',e2⟩
 ·obtain⟨o',e1⟩:=I.base.there b o e hx
  exact free b o' (neC b o e hx) e1 (I.base.free b o e n hx)
 ·obtain⟨o',e1⟩:=I.base.there b o e hx
  exact there b o' (neC b o e hx) e1
 ·obtain⟨m1,e1⟩:=I.base.tbls b ps e
  obtain⟨m2,e2⟩:=tbls b _ e1
  exact⟨m1++m2,by rw [e2,Wj]⟩
 ·obtain⟨m,hn,hl⟩:=I.loc
  refine⟨m,ns m hn,fun i x v e1 e2 e3=> ?_⟩
  obtain⟨u,r,l⟩:=hl i x v e1 e2 e3
  refine⟨u,r,?_⟩
  rcases l with l|⟨k,c,e,z⟩
  ·exact .inl l
  ·exact .inr ⟨k,c,e,cellK x c e _ z⟩
 ·obtain⟨v,z⟩:=I.cell x c e
  exact⟨v,cellK x c e v z⟩
 ·obtain⟨m,⟨o,_,_,ho,_⟩,_⟩:=I.loc
  exact free _ o (fun z=>(hch _ z).2.1 rfl) ho I.free
 ·obtain⟨v,o,ho,hd⟩:=I.cell x c e
  exact free c o (fun z=>(hch c z).2.2.1 x c e rfl) ho (I.freeC x c e)
 ·obtain⟨e,n,ne,nf,d⟩:=I.pin p hp
  have nch:p.1∉ch:=fun z=>(hch p.1 z).2.2.2 p hp rfl
  exact⟨keep p.1 p.2 ne nf nch e n,free p.1 p.2 nch e n,ne,nf,d⟩
theorem Inv.un{t':Nat}(I:Inv X pins σ H s)(u:Un X.fs [] H H' s.heap h')(hok:HOk X.prog X.w H' h'):Inv X pins σ H' {s with heap:=h',toks:=t'}:=by
 obtain⟨m,⟨o,es,ep,ho,r⟩,_⟩:=id I.loc
 obtain⟨sl,hL⟩:=u.any ho I.free (by simp)
 exact I.step (g':=s.gens) (d':=s.drawn) (ch:=[]) (fun _ z=>nomatch z) (fun b o _ hb _ e n=>u.keep b o e n hb (by simp)) (fun b o _ hb _ e n=>u.slot b o e n hb (by simp)) (fun b o _ e n=>u.free b o e n (by simp)) (fun b o _ e=>u.there b o e (by simp)) u.tups u.frzs u.tbls (fun m' hm=>by
  obtain⟨o',es',ep',ho',r'⟩:=hm
  rw [ho] at ho';cases ho'
  exact⟨_,es',ep',hL,r'⟩) hok I.bare
theorem Inv.call{g':Array GenState}{t':Nat}{d':Drawn}{ch:List Addr}(I:Inv X pins σ H s)(u:Un (frs X.stack) ch H H' s.heap h')(hok:HOk X.prog X.w H' h')(hg:AllBare g')
  (hch:∀b∈ch,(b∈X.ex\/X.s₀.heap.objs.size<=b)/\b≠X.env.locals/\(∀x c,X.env.cells.lookup x=some c->c≠b)/\∀p∈X.pn++pins,p.1≠b):
  Inv X pins σ H' {s with heap:=h',gens:=g',drawn:=d',toks:=t'}:=by
 obtain⟨m,⟨o,es,ep,ho,r⟩,_⟩:=id I.loc
 obtain⟨sl,hL⟩:=u.any ho I.free fun z=>(hch _ z).2.1 rfl
 exact I.step (ch:=ch) hch (fun b o hL hb hc e n=>u.keep b o e n (fun z=>(Z3.mp (I.stkSub b z)).elim hL hb) hc) (fun b o _ _ hc e n=>u.any e n hc) (fun b o hc e n=>u.free b o e n hc) (fun b o hc e=>u.there b o e hc) u.tups u.frzs u.tbls (fun m' hm=>by
  obtain⟨o',es',ep',ho',r'⟩:=hm
  rw [ho] at ho';cases ho'
  exact⟨_,es',ep',hL,r'⟩) hok hg
theorem Inv.turned{t':Nat}{it:Addr}(I:Inv X pins σ H s)(k:∀b o,b≠it->s.heap.get? b=some o->h'.get? b=some o)(hn:H it=none)(hL:it≠X.env.locals)
  (h1:it∈X.ex\/X.s₀.heap.objs.size<=it) (h2:∀x c,X.env.cells.lookup x=some c->c≠it) (h3:∀p∈X.pn++pins,p.1≠it):Inv X pins σ H {s with heap:=h',toks:=t'}:=by
 have nit:∀b u,H b=some u->b≠it:=fun b u e z=>by rw [z,hn] at e;cases e
 refine I.step (g':=s.gens) (d':=s.drawn) (ch:=[it]) (fun b hb=> ?_) (fun b o _ _ hc e _=>k b o (fun z=>hc (by simp [z])) e) (fun b o _ _ hc e _=>⟨o.slots,k b o (fun z=>hc (by simp [z])) e⟩) (fun _ _ _ _ n=>n)
  (fun b o hc e=>⟨o,k b o (fun z=>hc (by simp [z])) e⟩) (fun _ _ e=>e) (fun _ _ _ e=>e) (fun b ps e=>⟨#[],by rw [e];simp⟩) (fun m hm=> ?_) (fun b u e=> ?_) I.bare
 ·have e:b=it:=by simpa using hb
  subst e
  exact⟨h1,hL,h2,h3⟩
 ·obtain⟨o,es,ep,ho,r⟩:=hm
  exact⟨o,es,ep,k _ o (Y7 hL) ho,r⟩
 ·refine(I.hok b u e).stay (fun c v hc q=>k c v ?_ q) (fun _ q=>q) fun _ _ q=>q
  rcases hc with z|z
  ·rw [z];exact nit b u e
  ·exact nit c _ z
theorem Inv.tok(I:Inv X pins σ H s)(t:Nat):Inv X pins σ H {s with toks:=t}:=I.un (h':=s.heap) (t':=t) Un.refl I.hok
theorem Inv.kept{t':Nat}(I:Inv X pins σ H s)(k:∀b u,s.heap.get? b=some u->h'.get? b=some u):Inv X pins σ H {s with heap:=h',toks:=t'}:=I.un (Un.kept k) (I.hok.kept k)
theorem Inv.laid{a:Addr}{o:HO}{t':Nat}(I:Inv X pins σ H s)(k:∀b u,s.heap.get? b=some u->h'.get? b=some u)(hp:s.heap.objs.size<=a)(new:dI X.prog X.w (upd H a o) h' a o):
  Inv X pins σ (upd H a o) {s with heap:=h',toks:=t'}:=I.un (Un.laid k hp (I.hok.fresh hp)) (I.hok.laid k hp new)
theorem Inv.write{x e:Addr}{o:HO}{t':Nat}(I:Inv X pins σ H s)(mu:Mut (H x))(he:e=x\/H e=some (.own x))(k:∀b u,b≠e->s.heap.get? b=some u->h'.get? b=some u)(heo:∃u,h'.get? e=some u)
  (new:dI X.prog X.w (upd H x o) h' x o):Inv X pins σ (upd H x o) {s with heap:=h',toks:=t'}:=I.un (Un.write mu he k heo) (I.hok.write mu he k heo new)
theorem Inv.pins_of{pins':tzB}(I:Inv X pins σ H s)(h:∀p∈pins',s.heap.get? p.1=some p.2/\H p.1=none/\p.1≠X.env.locals/\p.1∉X.fs/\∀v,p.2.data≠ .cell v):Inv X pins' σ H s:=
 ⟨I.ok,I.os,I.bare,I.base,I.loc,I.cell,I.free,I.freeC,fun p hp=>(Zn.mp hp).elim (fun z=>I.pin p (Zo _ z)) (h p),I.hok,I.len⟩
theorem zz6{N:List Str}(hN:N.Nodup){i j:Nat}{x:Str}(a:N[i]? =some x)(b:N[j]? =some x):i=j:=by
 obtain⟨h1,e1⟩:=Z4.mp a
 obtain⟨h2,e2⟩:=Z4.mp b
 exact(List.getElem_inj hN).mp (e1.trans e2.symm)
theorem yw3{M:Model}{A:Around}{E:Value->Shared->Prop}{i:Nat}{x:Str}{v:V}{u:Value}{Q:Unit->Shared->Prop}(I:Inv X pins σ H s)(hN:X.N.Nodup)(hi:X.N[i]? =some x)(hx:Loc X.env.scope x)(r:cF v u)
  (h:∀s',Inv X pins (σ.set i (some v)) H s'->(∃a,Heap.SameBut a s.heap s'.heap/\(a=X.env.locals\/X.env.cells.lookup x=some a))->Q () s') (hf:X.fn x=true\/X.env.scope.names.lookup x=some .local:=by first|exact .inl rfl|exact .inr rfl|assumption):wpAny M A (storeName X.env x u) Q E s:=by
 obtain⟨m,hn,hl⟩:=id I.loc
 have hcls:(X.env.scope.kind== .class||(X.env.scope.kind== .module&&X.env.locals !=X.env.globals))=false:=by rw [I.ok.kind];rfl
 have hiσ:i<σ.length:=by rw [I.len];exact(Z4.mp hi).1
 have cne:=I.cne
 have tracked:∀{a:Addr} {h':Heap},(∃o,s.heap.get? a=some o/\H a=none)->Heap.SameBut a s.heap h'->HOk X.prog X.w H h':=fun {a h'} ha hs b ob e=>by
  obtain⟨_,_,hfree⟩:=ha
  refine(I.hok b ob e).stay (fun c w' hc q=>(hs.2 c ?_).trans q) (fun _ q=>q) fun _ _ q=>q
  rintro rfl
  rcases hc with rfl|hc
  ·rw [hfree] at e;cases e
  ·rw [hfree] at hc;cases hc
 rcases hx with hk|hk
 ·refine wpAny_storeName_local hk hn (fun h' hn' hs=> ?_) hcls
  obtain⟨oL,_,_,hoL,_⟩:=id hn
  refine h _ ⟨I.ok,I.os,I.bare,⟨fun b o e n hb hx=> ?_,fun b o e n hb hx=> ?_,I.base.free,fun b o e hx=> ?_,I.base.tups,I.base.frzs,I.base.tbls⟩,⟨_,hn',fun j y v' e1 e2 e3=> ?_⟩,fun y c e=> ?_,I.free,I.freeC,fun p hp=> ?_,tracked ⟨oL,hoL,I.free⟩ hs,by simpa using I.len⟩ ⟨_,hs,.inl rfl⟩
  ·exact(hs.2 b (ZG (Zx (Zj e) I.ok.above))).trans (I.base.keep b o e n hb hx)
  ·obtain⟨sl,e1⟩:=I.base.slot b o e n hb hx
   exact⟨sl,(hs.2 b (ZG (Zx (Zj e) I.ok.above))).trans e1⟩
  ·obtain⟨o',e1⟩:=I.base.there b o e hx
   exact⟨o',(hs.2 b (ZG (Zx (Zj e) I.ok.above))).trans e1⟩
  ·by_cases hj:j=i
   ·subst hj
    rw [hi] at e1;cases e1
    rw [Zw hiσ] at e2
    cases e2
    exact⟨u,r,.inl ⟨hk,by simp⟩⟩
   ·rw [Zt (Y7 hj)] at e2
    obtain⟨u',r',q⟩:=hl j y v' e1 e2 e3
    refine⟨u',r',?_⟩
    rcases q with ⟨k,e⟩|⟨k,c,e,z⟩
    ·refine .inl ⟨k,?_⟩
     have:y≠x:=fun e=>hj (zz6 hN e1 (e▸hi))
     simp [this,e]
    ·exact .inr ⟨k,c,e,z.sameBut hs (cne y c e)⟩
  ·obtain⟨w',z⟩:=I.cell y c e
   exact⟨w',z.sameBut hs (cne y c e)⟩
  ·obtain⟨e,n,ne,nf,d⟩:=I.pin p hp
   exact⟨(hs.2 p.1 ne).trans e,n,ne,nf,d⟩
 ·have hfn:X.fn x=true:=by
   rcases hf with z|z
   ·exact z
   ·rw [z] at hk;cases hk
  obtain⟨c,hc⟩:=I.ok.has x (.inl hk)
  obtain⟨w',z⟩:=I.cell x c hc
  refine wpAny_storeName_cell I.ok.kind hk hc z (fun h' hc' hs=> ?_)
  obtain⟨oc,hoc,hocd⟩:=id z
  refine h {s with heap:=h'} ⟨I.ok,I.os,I.bare,⟨fun b o e n hb hx=> ?_,fun b o e n hb hx=> ?_,I.base.free,fun b o e hx=> ?_,I.base.tups,I.base.frzs,I.base.tbls⟩,⟨m,hn.sameBut hs (Y7 (cne x c hc)),fun j y v' e1 e2 e3=> ?_⟩,fun y c' e=> ?_,I.free,I.freeC,fun p hp=> ?_,tracked ⟨oc,hoc,I.freeC x c hc⟩ hs,by simpa using I.len⟩ ⟨c,hs,.inr hc⟩
  ·exact(hs.2 b (ZG (Zx (Zj e) (I.ok.cab x c hfn hc)))).trans (I.base.keep b o e n hb hx)
  ·obtain⟨sl,e1⟩:=I.base.slot b o e n hb hx
   exact⟨sl,(hs.2 b (ZG (Zx (Zj e) (I.ok.cab x c hfn hc)))).trans e1⟩
  ·obtain⟨o',e1⟩:=I.base.there b o e hx
   exact⟨o',(hs.2 b (ZG (Zx (Zj e) (I.ok.cab x c hfn hc)))).trans e1⟩
  ·by_cases hj:j=i
   ·subst hj
    rw [hi] at e1;cases e1
    rw [Zw hiσ] at e2
    cases e2
    exact⟨u,r,.inr ⟨.inl hk,c,hc,hc'⟩⟩
   ·rw [Zt (Y7 hj)] at e2
    obtain⟨u',r',q⟩:=hl j y v' e1 e2 e3
    refine⟨u',r',?_⟩
    rcases q with q|⟨k,c',e,z'⟩
    ·exact .inl q
    ·refine .inr ⟨k,c',e,z'.sameBut hs ?_⟩
     rintro rfl
     exact hj (zz6 hN e1 (I.ok.inj _ _ _ e hc▸hi))
  ·by_cases hcc:c'=c
   ·subst hcc;exact⟨_,hc'⟩
   ·obtain⟨w2,z2⟩:=I.cell y c' e
    exact⟨w2,z2.sameBut hs hcc⟩
  ·obtain⟨e,n,ne,nf,d⟩:=I.pin p hp
   refine⟨(hs.2 p.1 ?_).trans e,n,ne,nf,d⟩
   intro q
   rw [q,hoc] at e
   have q':oc=p.2:=ZB e
   exact d w' (by rw [<-q'];exact hocd)
theorem zz7{M:Model}{A:Around}{E:Value->Shared->Prop}{i:Nat}{x:Str}{v:V}{u:Value}{Q:Unit->Shared->Prop}(I:Inv X pins σ H s)(hN:X.N.Nodup)(hi:X.N[i]? =some x)(hx:Loc X.env.scope x)(r:cF v u)
  (h:∀s',Inv X pins (σ.set i (some v)) H s'->Q () s') (hf:X.fn x=true\/X.env.scope.names.lookup x=some .local:=by first|exact .inl rfl|exact .inr rfl|assumption):wpAny M A (storeName X.env x u) Q E s:=
 yw3 I hN hi hx r (fun s' I' _=>h s' I') hf
theorem Inv.call'{s':Shared}{ch:List Addr}(I:Inv X pins σ H s)(ho:s'.os=s.os)(u:Un (frs X.stack) ch H H' s.heap s'.heap)(hok:HOk X.prog X.w H' s'.heap)(hg:AllBare s'.gens)
  (hch:∀b∈ch,(b∈X.ex\/X.s₀.heap.objs.size<=b)/\b≠X.env.locals/\(∀x c,X.env.cells.lookup x=some c->c≠b)/\∀p∈X.pn++pins,p.1≠b):Inv X pins σ H' s':=by
 obtain⟨h',g',d',t',o'⟩:=s'
 have e:o'=s.os:=ho
 subst e
 exact I.call (g':=g') (t':=t') (d':=d') u hok hg hch
end
abbrev XK:=Value->Option Addr->Hp->Prop
abbrev St:=List (Option V)
abbrev VK:=V->Hp->Prop
abbrev TE:=St->Hp->VK->Prop
abbrev TT:=St->Hp->(Bool->Hp->Prop)->Prop
abbrev TA:=St->Hp->(List V->Hp->Prop)->Prop
structure Ends where
 nx:St->Hp->Prop
 rt:VK
 bk:St->Hp->Prop:=fun _ _=>False
 ct:St->Hp->Prop:=fun _ _=>False
abbrev TS:=Ends->St->Hp->Prop
def EP(X:Cx)(pins:tzB)(σ:St)(Q:VK)(u:Value)(s':Shared):Prop:=∃v H',Inv X pins σ H' s'/\cF v u/\Q v H'
def TP(X:Cx)(pins:tzB)(σ:St)(Q:Bool->Hp->Prop)(b:Bool)(s':Shared):Prop:=∃H',Inv X pins σ H' s'/\Q b H'
def AP(X:Cx)(pins:tzB)(σ:St)(Q:List V->Hp->Prop)(us:List Value)(s':Shared):Prop:=∃vs H',Inv X pins σ H' s'/\bF vs us/\Q vs H'
def SP(X:Cx)(pins:tzB)(D:Ends)(f:Flow)(s':Shared):Prop:=
 match f with
 | .next=>∃σ' H',Inv X pins σ' H' s'/\D.nx σ' H'
 | .brk=>∃σ' H',Inv X pins σ' H' s'/\D.bk σ' H'
 | .cont=>∃σ' H',Inv X pins σ' H' s'/\D.ct σ' H'
 | .ret u=>∃v σ' H',Inv X pins σ' H' s'/\cF v u/\D.rt v H'
def PEd(X:Cx)(e:Expr)(t:TE):Prop:=
 ∀(pins:tzB) (s:Shared) (σ:St) (H:Hp) (Q:VK),Inv X pins σ H s->t σ H Q->wpAny (model X.prog X.w) X.A (eval e X.env) (EP X pins σ Q) X.xe s
structure PE(X:Cx)(e:Expr)(t:TE):Prop where
 go:PEd X e t
instance {X:Cx} {e:Expr} {t:TE}:CoeFun (PE X e t) fun _=>PEd X e t:=⟨PE.go⟩
def PTd(X:Cx)(e:Expr)(t:TT):Prop:=
 ∀(pins:tzB) (s:Shared) (σ:St) (H:Hp) (Q:Bool->Hp->Prop),Inv X pins σ H s->t σ H Q->wpAny (model X.prog X.w) X.A (isTrue e X.env (eval e X.env)) (TP X pins σ Q) X.xe s
structure PT(X:Cx)(e:Expr)(t:TT):Prop where
 go:PTd X e t
instance {X:Cx} {e:Expr} {t:TT}:CoeFun (PT X e t) fun _=>PTd X e t:=⟨PT.go⟩
def PWd(X:Cx)(e:Expr)(t:TT):Prop:=
 ∀(whole:Sem Value) (pins:tzB) (s:Shared) (σ:St) (H:Hp) (Q:Bool->Hp->Prop),Inv X pins σ H s->t σ H Q->wpAny (model X.prog X.w) X.A (isTrue e X.env whole) (TP X pins σ Q) X.xe s
structure PW(X:Cx)(e:Expr)(t:TT):Prop where
 go:PWd X e t
instance {X:Cx} {e:Expr} {t:TT}:CoeFun (PW X e t) fun _=>PWd X e t:=⟨PW.go⟩
theorem PW.pt{X:Cx}{e:Expr}{t:TT}(h:PW X e t):PT X e t:=⟨h _⟩
def PAd(X:Cx)(es:List Expr)(t:TA):Prop:=
 ∀(pos:Pos) (pins:tzB) (s:Shared) (σ:St) (H:Hp) (Q:List V->Hp->Prop),Inv X pins σ H s->t σ H Q->wpAny (model X.prog X.w) X.A (spliced (backTo pos (starEach es X.env))) (AP X pins σ Q) X.xe s
structure PA(X:Cx)(es:List Expr)(t:TA):Prop where
 go:PAd X es t
instance {X:Cx} {es:List Expr} {t:TA}:CoeFun (PA X es t) fun _=>PAd X es t:=⟨PA.go⟩
def PSd(X:Cx)(st:Stmt)(t:TS):Prop:=
 ∀(pins:tzB) (s:Shared) (σ:St) (H:Hp) (D:Ends),Inv X pins σ H s->t D σ H->wpAny (model X.prog X.w) X.A (exec st X.env) (SP X pins D) X.xe s
structure PS(X:Cx)(st:Stmt)(t:TS):Prop where
 go:PSd X st t
instance {X:Cx} {st:Stmt} {t:TS}:CoeFun (PS X st t) fun _=>PSd X st t:=⟨PS.go⟩
def wh1(X:Cx)(st:List Stmt)(t:TS):Prop:=
 ∀(pins:tzB) (s:Shared) (σ:St) (H:Hp) (D:Ends),Inv X pins σ H s->t D σ H->wpAny (model X.prog X.w) X.A (execs st X.env) (SP X pins D) X.xe s
structure PSs(X:Cx)(st:List Stmt)(t:TS):Prop where
 go:wh1 X st t
instance {X:Cx} {st:List Stmt} {t:TS}:CoeFun (PSs X st t) fun _=>wh1 X st t:=⟨PSs.go⟩
theorem thn{α:Type}{t:Sem α}{Q Q':α->Shared->Prop}{M:Model}{A:Around}{E:Value->Shared->Prop}{s:Shared}(h:wpAny M A t Q E s)(hQ:∀a s,Q a s->Q' a s):wpAny M A t Q' E s:=ZN h hQ fun _ _ x=>x
section
variable{X:Cx}
def xp1(i:Nat):TE:=fun σ H Q=>∃v,σ[i]? =some (some v)/\Q v H
def tC(v:V):TE:=fun _ H Q=>Q v H
theorem tF{i:Nat}{x:Str}{pos:Pos}(hN:X.N[i]? =some x)(hv:Vis X.env.scope x)(hd:NDb x:=by decide)(hcd:(x==("__classdict__":Str))=false:=by decide):PE X (.Name x pos) (xp1 i):=⟨by
 intro pins s σ H Q I h
 obtain⟨v,e,h⟩:=h
 obtain⟨m,hn,hl⟩:=I.loc
 obtain⟨u,r,l⟩:=hl i x v hN e hv
 have fin:EP X pins σ Q u s:=⟨v,H,I,r,h⟩
 rcases l with ⟨hk,hm⟩|⟨hk,c,hc,hcell⟩
 ·exact wpAny_Name (wpAny_loadName_local I.ok.kind hk hn hm fin) hd
 ·rcases hk with hk|hk
  ·exact wpAny_Name (wpAny_loadName_cell I.ok.kind hk hc hcell fin) hd
  ·exact wpAny_Name (wpAny_loadName_free I.ok.kind hk hc hcell fin hcd) hd⟩
theorem iP{i j pos}:PE X (.Constant (.int i) j pos) (tC (.int i)):=⟨fun _ _ _ H _ I h=>wpAny_Constant_int ⟨.int i,H,I.tok _,⟨_,rfl⟩,h⟩⟩
theorem xq7{b j pos}:PE X (.Constant (.bool b) j pos) (tC (.bl b)):=⟨fun _ _ _ H _ I h=>Constant_bool ⟨.bl b,H,I,rfl,h⟩⟩
theorem yw4{j pos}:PE X (.Constant .none j pos) (tC .non):=⟨fun _ _ _ H _ I h=>Constant_none ⟨.non,H,I,rfl,h⟩⟩
theorem yw5{x j pos}:PE X (.Constant (.str x) j pos) (tC (.str x)):=⟨fun _ _ _ H _ I h=>Calls.Constant_str ⟨.str x,H,I.tok _,⟨_,rfl⟩,h⟩⟩
def Gl(X:Cx)(x:Str):Prop:=X.env.kindOf x=some .globalImplicit
theorem sR{E:Value->Shared->Prop}{pins:tzB}{s:Shared}{σ:St}{H:Hp}{x:Str}{u:Value}{pos:Pos}{Q:Value->Shared->Prop}(I:Inv X pins σ H s)(hg:Gl X x)(hm:X.mg x=some u)(h:Q u s)
  (hd:NDb x:=by decide):wpAny (model X.prog X.w) X.A (eval (.Name x pos) X.env) Q E s:=
 YU I.ok.kind hg (Wq (by rw [I.ok.glob];exact I.mod.glob.keeps I.bk) hm h) hd
theorem tG{E:Value->Shared->Prop}{pins:tzB}{s:Shared}{σ:St}{H:Hp}{x:Str}{u:Value}{pos:Pos}{Q:Value->Shared->Prop}(I:Inv X pins σ H s)(hg:Gl X x)(hm:X.mg x=none)(hv:bootBuiltins x=some u)(h:Q u s)
  (hn:x≠"__name__":=by decide) (hd:NDb x:=by decide):wpAny (model X.prog X.w) X.A (eval (.Name x pos) X.env) Q E s:=by
 obtain⟨mb,h1,h2⟩:=I.mod.blt
 exact YU I.ok.kind hg (Calls.loadGlobal_builtin (by rw [I.ok.glob];exact I.mod.glob.keeps I.bk) hm (by rw [I.ok.blt];exact h1.keeps I.bk) ((h2 x hn).trans hv) h) hd
theorem xs9{x:Str}{v:V}{u:Value}{pos:Pos}(hg:Gl X x)(hm:X.mg x=some u)(r:cF v u)(hd:NDb x:=by decide):PE X (.Name x pos) (tC v):=
 ⟨fun _ _ _ H _ I h=>sR I hg hm ⟨v,H,I,r,h⟩ hd⟩
theorem xt0{x:Str}{v:V}{u:Value}{pos:Pos}(hg:Gl X x)(hm:X.mg x=none)(hv:bootBuiltins x=some u)(r:cF v u)(hn:x≠"__name__":=by decide)(hd:NDb x:=by decide):PE X (.Name x pos) (tC v):=
 ⟨fun _ _ _ H _ I h=>tG I hg hm hv ⟨v,H,I,r,h⟩ hn hd⟩
variable{a b:Expr}{ta tb:TE}{pos:Pos}
def PC(X:Cx)(op:CmpOp)(a b:Expr)(t:TE):Prop:=
 ∀(pins:tzB) (s:Shared) (σ:St) (H:Hp) (Q:VK),Inv X pins σ H s->t σ H Q->
  wpAny (model X.prog X.w) X.A (eval a X.env) (fun v s₁=>wpAny (model X.prog X.w) X.A (eval b X.env) (fun u s₂=>wpAny (model X.prog X.w) X.A (compareOp op v u) (EP X pins σ Q) X.xe s₂) X.xe s₁) X.xe s
def tB(t:TE):TT:=fun σ H Q=>t σ H fun x H1=>∃c,x= .bl c/\Q c H1
theorem wa8{op:CmpOp}{t:TE}(h:PC X op a b t)(h1:behindInMarks op b=false:=by first|exact nobehind _ (by decide) (by decide)|rfl):PT X (.Compare a [op] [b] pos) (tB t):=⟨by
 intro pins s σ H Q I hw
 refine wpAny_isTrue_Compare1 (thn (h pins s σ H _ I hw) fun v s1 h1=>thn h1 fun u s2 h2=>thn h2 fun c s3 ⟨x,H1,I1,r1,q1⟩=> ?_) h1
 obtain⟨d,rfl,q⟩:=q1
 cases r1
 exact Y4 ⟨H1,I1,q⟩⟩
variable{tA tB':TT}{rest:List Expr}
def wo9(t u:TT):TT:=fun σ H Q=>t σ H fun c H1=>if c=true then u σ H1 Q else Q false H1
def tOr(t u:TT):TT:=fun σ H Q=>t σ H fun c H1=>if c=true then Q true H1 else u σ H1 Q
def wp0(t:TT):TT:=fun σ H Q=>t σ H fun c H1=>Q (!c) H1
theorem xt1(ha:PT X a tA):PW X (.BoolOp .And [a] pos) tA:=⟨by
 intro wh pins s σ H Q I h
 refine isTrue_and (thn (ha pins s σ H Q I h) fun c s1 e=> ?_)
 cases c with
 |true=>exact isTrue_and_nil e
 |false=>exact e⟩
theorem wa9(ha:PT X a tA):PW X (.BoolOp .Or [a] pos) tA:=⟨by
 intro wh pins s σ H Q I h
 refine isTrue_or (thn (ha pins s σ H Q I h) fun c s1 e=> ?_)
 cases c with
 |false=>exact isTrue_or_nil e
 |true=>exact e⟩
theorem wb0(ha:PT X a tA)(hb:PW X (.BoolOp .And (b::rest) pos) tB'):PW X (.BoolOp .And (a::b::rest) pos) (wo9 tA tB'):=⟨by
 intro wh pins s σ H Q I h
 refine isTrue_and (thn (ha pins s σ H _ I h) fun c s1 ⟨H1,I1,q1⟩=> ?_)
 cases c with
 |true=>exact hb wh pins s1 σ H1 Q I1 q1
 |false=>exact⟨H1,I1,q1⟩⟩
theorem wj7(ha:PT X a tA)(hb:PW X (.BoolOp .Or (b::rest) pos) tB'):PW X (.BoolOp .Or (a::b::rest) pos) (tOr tA tB'):=⟨by
 intro wh pins s σ H Q I h
 refine isTrue_or (thn (ha pins s σ H _ I h) fun c s1 ⟨H1,I1,q1⟩=> ?_)
 cases c with
 |true=>exact⟨H1,I1,q1⟩
 |false=>exact hb wh pins s1 σ H1 Q I1 q1⟩
theorem wb1(ha:PT X a tA):PT X (.UnaryOp .Not a pos) (wp0 tA):=⟨by
 intro pins s σ H Q I h
 exact isTrue_not (ha pins s σ H (fun c H1=>Q (!c) H1) I h)⟩
def wm2(ta tb:TE):TE:=fun σ H Q=>ta σ H fun x H1=>∃c,x= .bl c/\if c=true then tb σ H1 Q else Q (.bl false) H1
def wp1(ta tb:TE):TE:=fun σ H Q=>ta σ H fun x H1=>∃c,x= .bl c/\if c=true then Q (.bl true) H1 else tb σ H1 Q
theorem wb2{op}{t:TE}(h:PE X a t):PE X (.BoolOp op [a] pos) t:=⟨fun pins s σ H Q I hw=>BoolOp_one (h pins s σ H Q I hw)⟩
theorem wb3(ha:PE X a ta)(hb:PE X (.BoolOp .And (b::rest) pos) tb):PE X (.BoolOp .And (a::b::rest) pos) (wm2 ta tb):=⟨by
 intro pins s σ H Q I h
 refine BoolOp_and (thn (ha pins s σ H _ I h) fun v s1 ⟨x,H1,I1,r1,q1⟩=> ?_)
 obtain⟨c,rfl,q1⟩:=q1
 cases r1
 refine Y4 ?_
 cases c with
 |true=>exact hb pins s1 σ H1 Q I1 q1
 |false=>exact⟨.bl false,H1,I1,rfl,q1⟩⟩
theorem wj8(ha:PE X a ta)(hb:PE X (.BoolOp .Or (b::rest) pos) tb):PE X (.BoolOp .Or (a::b::rest) pos) (wp1 ta tb):=⟨by
 intro pins s σ H Q I h
 refine BoolOp_or (thn (ha pins s σ H _ I h) fun v s1 ⟨x,H1,I1,r1,q1⟩=> ?_)
 obtain⟨c,rfl,q1⟩:=q1
 cases r1
 refine Y4 ?_
 cases c with
 |false=>exact hb pins s1 σ H1 Q I1 q1
 |true=>exact⟨.bl true,H1,I1,rfl,q1⟩⟩
end
def SqL(K:tz0)(H:Hp)(a:Addr)(xs:List V):Prop:=
 Rd H a (.lst xs)\/
  ∃(o:Obj) (its:Array Value) (n:Nat),K.lookup a=some o/\o.cls= .type "list"/\o.dict=none/\o.data= .seq its n/\its.size<=sizeLine/\bF xs its.toList
def SqT(K:tz0)(H:Hp)(a:Addr)(xs:List V):Prop:=
 Rd H a (.tup xs)\/
  ∃(o:Obj) (its:Array Value) (n:Nat),K.lookup a=some o/\o.cls= .type "tuple"/\o.data= .seq its n/\its.size<=sizeLine/\bF xs its.toList
def wp2:Value->Option V
 | .none=>some .non
 | .bool b=>some (.bl b)
 | .int i _=>some (.int i)
 | .str x _=>some (.str x)
 | .bytes b _=>some (.byt b)
 | .float b _=>some (.flt b)
 | .ref a=>some (.ref a)
 | .type n=>some (.ty n)
 |_=>none
theorem cF.abs{x:V}{u:Value}(r:cF x u):wp2 u=some x:=by
 cases x with
 |non=>cases r;rfl
 |bl _=>cases r;rfl
 |int _=>obtain⟨t,rfl⟩:=r;rfl
 |str _=>obtain⟨t,rfl⟩:=r;rfl
 |byt _=>obtain⟨t,rfl⟩:=r;rfl
 |flt _=>obtain⟨t,rfl⟩:=r;rfl
 |ref _=>cases r;rfl
 |ty _=>cases r;rfl
theorem cF.inj{x y:V}{u:Value}(r:cF x u)(q:cF y u):x=y:=ZB (r.abs.symm.trans q.abs)
theorem bF.inj:∀{xs ys:List V} {us:List Value},bF xs us->bF ys us->xs=ys
 |_,_,_,.nil,.nil=>rfl
 |_,_,_,.cons r t,.cons r' t'=>by rw [r.inj r',bF.inj t t']
section
variable{X:Cx}{pins:tzB}{σ:St}{H:Hp}{s:Shared}{a:Addr}{xs ys:List V}
theorem Inv.list(I:Inv X pins σ H s)(h:SqL X.K H a xs):∃its:List Value,bF xs its/\PlainL s.heap a its.toArray/\xs.length<=sizeLine:=by
 rcases h with h|⟨o,its,n,hk,hc,hd,hs,hz,r⟩
 ·obtain⟨z,its,n,r,e⟩:=h.ok I.hok
  exact⟨its,r,⟨_,n,e,rfl,rfl,rfl⟩,z⟩
 ·refine⟨its.toList,r,⟨o,n,I.kIn a o hk,hc,hd,by simpa using hs⟩,?_⟩
  have e:=r.length
  simp only [Ya] at e
  omega
theorem Inv.tuple(I:Inv X pins σ H s)(h:SqT X.K H a xs):∃its:List Value,bF xs its/\IsTup s.heap a its.toArray/\xs.length<=sizeLine:=by
 rcases h with h|⟨o,its,n,hk,hc,hs,hz,r⟩
 ·obtain⟨z,its,r,p⟩:=h.ok I.hok
  exact⟨its,r,p,z⟩
 ·refine⟨its.toList,r,⟨o,I.kIn a o hk,hc,n,by simpa using hs⟩,?_⟩
  have e:=r.length
  simp only [Ya] at e
  omega
theorem Inv.list_inj(I:Inv X pins σ H s)(h:SqL X.K H a xs)(h':SqL X.K H a ys):xs=ys:=by
 obtain⟨its,r,⟨o,n,e,_,_,d⟩,_⟩:=I.list h
 obtain⟨its',r',⟨o',n',e',_,_,d'⟩,_⟩:=I.list h'
 rw [e] at e';cases e'
 rw [d] at d'
 injection d' with d1 _
 have:its=its':=by simpa using ZJ Array.toList d1
 subst this
 exact r.inj r'
theorem Inv.tuple_inj(I:Inv X pins σ H s)(h:SqT X.K H a xs)(h':SqT X.K H a ys):xs=ys:=by
 obtain⟨its,r,⟨o,e,_,n,d⟩,_⟩:=I.tuple h
 obtain⟨its',r',⟨o',e',_,n',d'⟩,_⟩:=I.tuple h'
 rw [e] at e';cases e'
 rw [d] at d'
 injection d' with d1 _
 have:its=its':=by simpa using ZJ Array.toList d1
 subst this
 exact r.inj r'
end
abbrev Cx.wish(X:Cx)(E:Value->Shared->Prop):Cx:={X with xe:=E}
abbrev Cx.nox(X:Cx):Cx:=X.wish fun _ _=>False
theorem Cx.Ok.wish{X:Cx}(ok:X.Ok)(E:Value->Shared->Prop):(X.wish E).Ok:=
 ⟨ok.mod,ok.kind,ok.glob,ok.blt,ok.above,ok.inj,ok.has,ok.cab,ok.hd,ok.frames,ok.stk,ok.exf,ok.bs,ok.bsz,ok.noex,ok.exfs,ok.funs,ok.frf⟩
theorem Cx.Ok.unwish{X:Cx}{E:Value->Shared->Prop}(ok:(X.wish E).Ok):X.Ok:=
 ⟨ok.mod,ok.kind,ok.glob,ok.blt,ok.above,ok.inj,ok.has,ok.cab,ok.hd,ok.frames,ok.stk,ok.exf,ok.bs,ok.bsz,ok.noex,ok.exfs,ok.funs,ok.frf⟩
section
variable{X:Cx}{pins:tzB}{σ:St}{H:Hp}{s:Shared}{E:Value->Shared->Prop}
theorem Inv.wish(I:Inv X pins σ H s)(E:Value->Shared->Prop):Inv (X.wish E) pins σ H s:=⟨I.ok.wish E,I.os,I.bare,I.base,I.loc,I.cell,I.free,I.freeC,I.pin,I.hok,I.len⟩
theorem Inv.unwish(I:Inv (X.wish E) pins σ H s):Inv X pins σ H s:=⟨I.ok.unwish,I.os,I.bare,I.base,I.loc,I.cell,I.free,I.freeC,I.pin,I.hok,I.len⟩
theorem SP.unwish{D:Ends}{f:Flow}{s':Shared}(h:SP (X.wish E) pins D f s'):SP X pins D f s':=by
 cases f with
 |next=>obtain⟨σ',H',I,q⟩:=h;exact⟨σ',H',I.unwish,q⟩
 |brk=>obtain⟨σ',H',I,q⟩:=h;exact⟨σ',H',I.unwish,q⟩
 |cont=>obtain⟨σ',H',I,q⟩:=h;exact⟨σ',H',I.unwish,q⟩
 |ret u=>obtain⟨v,σ',H',I,r,q⟩:=h;exact⟨v,σ',H',I.unwish,r,q⟩
theorem PT.nox{e:Expr}{t:TT}(h:PT X.nox e t):PT X e t:=⟨fun pins s σ H Q I hw=>
 ZN (h pins s σ H Q (I.wish _) hw) (fun _ _ ⟨H',I',q⟩=>⟨H',I'.unwish,q⟩) fun _ _ z=>False.elim z⟩
theorem PSs.nox{st:List Stmt}{t:TS}(h:PSs X.nox st t):PSs X st t:=⟨fun pins s σ H D I hw=>
 ZN (h pins s σ H D (I.wish _) hw) (fun _ _ q=>q.unwish) fun _ _ z=>False.elim z⟩
end
section
variable{X:Cx}{st:Stmt}{rest:List Stmt}{t u:TS}{e:Expr}{te:TE}{pos:Pos}
def wm3:TS:=fun D σ H=>D.nx σ H
def wp3(t u:TS):TS:=fun D σ H=>t {D with nx:=u D} σ H
theorem yj5:PSs X [] wm3:=⟨fun _ _ σ H _ I h=>YO ⟨σ,H,I,h⟩⟩
theorem kA(h1:PS X st t)(h2:PSs X rest u):PSs X (st::rest) (wp3 t u):=⟨by
 intro pins s σ H D I h
 refine X7 (thn (h1 pins s σ H {D with nx:=u D} I h) fun f s1 q=> ?_)
 cases f with
 |next=>
  obtain⟨σ',H',I',q⟩:=q
  exact h2 pins s1 σ' H' D I' q
 |ret v=>exact q
 |brk=>exact q
 |cont=>exact q⟩
theorem zc2(h1:PS X st t):PSs X [st] t:=⟨by
 intro pins s σ H D I h
 refine X7 (thn (h1 pins s σ H D I h) fun f s1 q=> ?_)
 cases f with
 |next=>exact YO q
 |ret v=>exact q
 |brk=>exact q
 |cont=>exact q⟩
theorem Inv.quiet{pins:tzB}{σ:St}{H:Hp}{s:Shared}(I:Inv X pins σ H s):interactive X.env=false:=by simp [interactive,I.ok.kind]
def wm4(te:TE):TS:=fun D σ H=>te σ H fun _ H1=>D.nx σ H1
theorem xt2(he:PE X e te)(hs:swapsWith e none pos.line X.env=pure false:=by rfl):PS X (.Expr e pos) (wm4 te):=⟨by
 intro pins s σ H D I h
 exact wpAny_Expr_any (thn (he pins s σ H _ I h) fun v s1 ⟨x,H1,I1,r1,q1⟩=>⟨σ,H1,I1,q1⟩) I.quiet hs⟩
def wp4(te:TE):TS:=fun D σ H=>te σ H D.rt
theorem zE(he:PE X e te):PS X (.Return (some e) pos) (wp4 te):=⟨by
 intro pins s σ H D I h
 exact wpAny_Return_some (thn (he pins s σ H _ I h) fun v s1 ⟨x,H1,I1,r1,q1⟩=>⟨x,σ,H1,I1,r1,q1⟩)⟩
def wp5(c:TT)(t u:TS):TS:=fun D σ H=>c σ H fun b H1=>if b=true then t D σ H1 else u D σ H1
theorem yp2{c:Expr}{a b:List Stmt}{tc:TT}(hc:PT X c tc)(ha:PSs X a t)(hb:PSs X b u):PS X (.If c a b pos) (wp5 tc t u):=⟨by
 intro pins s σ H D I h
 refine wpAny_If (thn (hc pins s σ H _ I h) fun d s1 ⟨H1,I1,q1⟩=> ?_)
 cases d with
 |true=>exact ha pins s1 σ H1 D I1 q1
 |false=>exact hb pins s1 σ H1 D I1 q1⟩
def wh2:TS:=fun _ _ _=>False
theorem xh7:PS X st wh2:=⟨fun _ _ _ _ _ _ h=>h.elim⟩
end
abbrev TG:=V->St->Hp->(St->Hp->Prop)->Prop
abbrev TGs:=List V->St->Hp->(St->Hp->Prop)->Prop
def PGd(X:Cx)(target:Expr)(t:TG):Prop:=
 ∀(pins:tzB) (s:Shared) (σ:St) (H:Hp) (v:V) (u:Value) (Q:St->Hp->Prop),Inv X pins σ H s->cF v u->t v σ H Q->
  wpAny (model X.prog X.w) X.A (assign target X.env u) (fun _ s'=>∃σ' H',Inv X pins σ' H' s'/\Q σ' H') X.xe s
structure PG(X:Cx)(target:Expr)(t:TG):Prop where
 go:PGd X target t
instance {X:Cx} {target:Expr} {t:TG}:CoeFun (PG X target t) fun _=>PGd X target t:=⟨PG.go⟩
def wh3(X:Cx)(ts:List Expr)(t:TGs):Prop:=
 ∀(pins:tzB) (s:Shared) (σ:St) (H:Hp) (vs:List V) (us:List Value) (Q:St->Hp->Prop),Inv X pins σ H s->bF vs us->t vs σ H Q->
  wpAny (model X.prog X.w) X.A (assignInOrder ((assignEach ts X.env).map (·.2)) us) (fun _ s'=>∃σ' H',Inv X pins σ' H' s'/\Q σ' H') X.xe s
structure PGs(X:Cx)(ts:List Expr)(t:TGs):Prop where
 go:wh3 X ts t
instance {X:Cx} {ts:List Expr} {t:TGs}:CoeFun (PGs X ts t) fun _=>wh3 X ts t:=⟨PGs.go⟩
abbrev xp2:=V->V->V->Hp->(Hp->Prop)->Prop
def wh4(X:Cx)(t:xp2):Prop:=
 ∀(pins:tzB) (s:Shared) (σ:St) (H:Hp) (o i v:V) (ov iv u:Value) (Q:Hp->Prop),Inv X pins σ H s->cF o ov->cF i iv->cF v u->t o i v H Q->
  wpAny (model X.prog X.w) X.A (setItem ov iv u) (fun _ s'=>∃H',Inv X pins σ H' s'/\Q H') X.xe s
section
variable{X:Cx}{pos:Pos}
def sI(i:Nat):TG:=fun v σ H Q=>Q (σ.set i (some v)) H
theorem fG{i:Nat}{x:Str}(hN:X.N.Nodup)(hi:X.N[i]? =some x)(hx:Loc X.env.scope x)(hf:X.fn x=true\/X.env.scope.names.lookup x=some .local:=by first|exact .inl rfl|exact .inr rfl|assumption):PG X (.Name x pos) (sI i):=⟨by
 intro pins s σ H v u Q I r h
 exact wpAny_assign_Name (zz7 I hN hi hx r (fun s' I'=>⟨_,H,I',h⟩) hf)⟩
def wh5:TGs:=fun vs σ H Q=>vs=[]/\Q σ H
def xs1(t:TG)(u:TGs):TGs:=fun vs σ H Q=>∃v r,vs=v::r/\t v σ H fun σ' H'=>u r σ' H' Q
theorem yj6:PGs X [] wh5:=⟨by
 intro pins s σ H vs us Q I r h
 obtain⟨e,h⟩:=h
 subst e
 cases r
 exact assignInOrder_nil ⟨σ,H,I,h⟩⟩
theorem pE{e:Expr}{es:List Expr}{t:TG}{u:TGs}(h1:PG X e t)(h2:PGs X es u)
  (hs:(assignEach (e::es) X.env).map (·.2)=assign e X.env::(assignEach es X.env).map (·.2):=by rfl):PGs X (e::es) (xs1 t u):=⟨by
 intro pins s σ H vs us Q I r h
 obtain⟨v,vr,e1,h⟩:=h
 subst e1
 cases r with
 |cons r rr=>
  rw [hs]
  refine assignInOrder_cons (thn (h1 pins s σ H _ _ _ I r h) fun _ s1 ⟨σ1,H1,I1,q1⟩=> ?_)
  exact h2 pins s1 σ1 H1 _ _ Q I1 rr q1⟩
def xp3(K:tz0)(n:Nat)(t:TGs):TG:=fun v σ H Q=>∃a xs,v= .ref a/\SqT K H a xs/\xs.length=n/\t xs σ H Q
theorem wb4{es:List Expr}{k:Nat}{t:TGs}{n:Nat}(hc:X.calm=true)(h:PGs X es t)
  (hn:(assignEach es X.env).length=n:=by rfl) (hst:(assignEach es X.env).findIdx? (·.1)=none:=by rfl):PG X (.Tuple es k pos) (xp3 X.K n t):=⟨by
 intro pins s σ H v u Q I r hw
 obtain⟨a,xs,e1,hq,hl,hw⟩:=hw
 subst e1
 cases r
 obtain⟨its,rv,ht,hz⟩:=I.tuple hq
 refine assign_Tuple_tuple (I.ok.hd hc) ht (by simp [hn,<-hl,rv.length]) hst fun h' hx=> ?_
 have I1:Inv X pins σ H {s with heap:=h'}:=I.kept (t':=s.toks) fun b o e=>hx b o (ZG (Zj e)) e
 exact h pins _ σ H xs _ Q I1 (by simpa using rv) hw⟩
def wp6(to ti:TE)(t:xp2):TG:=fun v σ H Q=>to σ H fun o H1=>ti σ H1 fun i H2=>t o i v H2 fun H3=>Q σ H3
theorem wb5{o i:Expr}{to ti:TE}{t:xp2}(ho:PE X o to)(hi:PE X i ti)(hs:wh4 X t)
  (ha:∀v,assign (.Subscript o i pos) X.env v=(do
   let ov<-holding [v] (eval o X.env)
   let iv<-holding [v,ov] (eval i X.env)
   standAt pos
   holding [v,ov,iv] (setItem ov iv v)
   release [v,ov,iv] []):=by intro _;rfl):PG X (.Subscript o i pos) (wp6 to ti t):=⟨by
 intro pins s σ H v u Q I r h
 rw [ha]
 refine Zh (Yx (thn (ho pins s σ H _ I h) fun ov s1 ⟨x,H1,I1,r1,q1⟩=> ?_))
 refine Zh (Yx (thn (hi pins s1 σ H1 _ I1 q1) fun iv s2 ⟨y,H2,I2,r2,q2⟩=> ?_))
 refine Zh (Wk (Zh (Yx (thn (hs pins s2 σ H2 x y v ov iv u _ I2 r1 r2 r q2) fun _ s3 ⟨H3,I3,q3⟩=> ?_))))
 exact wpAny_release ⟨σ,H3,I3,q3⟩⟩
def wh6(te:TE)(g:TG):TS:=fun D σ H=>te σ H fun x H1=>g x σ H1 D.nx
theorem yw6{tg e:Expr}{te:TE}{g:TG}(he:PE X e te)(hg:PG X tg g)(hs:swapsWithSole [tg] e pos.line X.env=pure false:=by rfl)(hw:swappedStores [tg] e X.env=pure none:=by rfl)
  (h1:(assignEach [tg] X.env).map (·.2)=[assign tg X.env]:=by rfl):PS X (.Assign [tg] e pos) (wh6 te g):=⟨by
 intro pins s σ H D I h
 refine wpAny_Assign_stores (thn (he pins s σ H _ I h) fun v s1 ⟨x,H1,I1,r1,q1⟩=> ?_) hs hw
 rw [h1]
 exact thn (hg pins s1 σ H1 x v _ I1 r1 q1) fun _ s2 q=>q⟩
theorem tH{i:Nat}{x:Str}{e:Expr}{te:TE}{pos':Pos}(hN:X.N.Nodup)(hi:X.N[i]? =some x)(hx:Loc X.env.scope x)(he:PE X e te)(hs:swapsWith e (some (.Name x pos')) pos.line X.env=pure false:=by rfl)(hf:X.fn x=true\/X.env.scope.names.lookup x=some .local:=by first|exact .inl rfl|exact .inr rfl|assumption):
  PS X (.Assign [.Name x pos'] e pos) (wh6 te (sI i)):=⟨by
 intro pins s σ H D I h
 refine wpAny_Assign_Name (thn (he pins s σ H _ I h) fun v s1 ⟨y,H1,I1,r1,q1⟩=> ?_) hs
 exact zz7 I1 hN hi hx r1 (fun s2 I2=>⟨_,H1,I2,q1⟩) hf⟩
def wh7(c:TT)(tb:TS):TS:=fun D σ H=>∃W:Nat->St->Hp->Prop,(∃m,W m σ H)/\∀m σ H,W m σ H->
 c σ H fun b H1=>if b=true then ∃N:St->Hp->Prop,(∀σ' H',N σ' H'->∃m',m'<m/\W m' σ' H')/\tb {D with nx:=N,ct:=N,bk:=D.nx} σ H1 else D.nx σ H1
theorem xh8{c:Expr}{body:List Stmt}{tc:TT}{tb:TS}(hp:PassesOwn (model X.prog X.w) X.A X.env X.xe)(hc:PT X c tc)(hb:PSs X body tb):PS X (.While c body [] pos) (wh7 tc tb):=⟨by
 intro pins s σ H D I h
 obtain⟨W,⟨m0,w0⟩,turn⟩:=h
 refine wpAny_While (codeAny_whileLoop (fun n s'=>∃σ' H',Inv X pins σ' H' s'/\W n σ' H') ?_ m0 ⟨σ,H,I,w0⟩)
 rintro n s1 ⟨σ1,H1,I1,w1⟩
 refine Yk hp (thn (hc pins s1 σ1 H1 _ I1 (turn n σ1 H1 w1)) fun b s2 ⟨H2,I2,q2⟩=> ?_)
 cases b with
 | true=>
  obtain⟨N,hN,q2⟩:=q2
  rw [if_pos rfl]
  refine Yk hp (thn (hb pins s2 σ1 H2 _ I2 q2) fun f s3 q3=> ?_)
  cases f with
  |next=>
   obtain⟨σ3,H3,I3,n3⟩:=q3
   obtain⟨m',hm,w3⟩:=hN σ3 H3 n3
   exact⟨m',hm,σ3,H3,I3,w3⟩
  |cont=>
   obtain⟨σ3,H3,I3,n3⟩:=q3
   obtain⟨m',hm,w3⟩:=hN σ3 H3 n3
   exact⟨m',hm,σ3,H3,I3,w3⟩
  |brk=>exact q3
  |ret v=>exact q3
 |false=>
  rw [if_neg Za]
  exact YO ⟨σ1,H2,I2,q2⟩⟩
end
structure It where
 go:Nat->Hp->Prop
 yld:Nat->Hp->V->Hp->Prop
 stop:Nat->Hp->Prop
def oO(X:Cx)(pins:tzB)(H:Hp)(b:Addr):Prop:=
 H b=none/\b≠X.env.locals/\b∉X.fs/\(b∈X.ex\/X.s₀.heap.objs.size<=b)/\(∀x c,X.env.cells.lookup x=some c->c≠b)/\∀p∈X.pn++pins,p.1≠b
theorem Inv.fpOk{X:Cx}{pins:tzB}{σ:St}{H H':Hp}{s:Shared}{b:Addr}(I:Inv X pins σ H s)(hb:s.heap.objs.size<=b)(hn:H' b=none):oO X pins H' b:=by
 refine⟨hn,XY (Zx I.lt hb),I.nofs hb,.inr (Zu I.sz hb),fun x c e z=> ?_,fun p hp z=> ?_⟩
 ·obtain⟨v,q⟩:=I.cell x c e
  exact absurd (Zx q.lt (by rw [z];exact hb)) (Y2 _)
 ·exact absurd (Zx (Zj (I.pin p hp).1) (by rw [z];exact hb)) (Y2 _)
structure Turn(P:Program)(w:World)(K:tz0)(tg:Expr)(J:It)(fp:List Addr)(it:Addr)(tn:Nat->Heap->Prop):Prop where
 mem:it∈fp
 obj:∀i h,tn i h->∀b∈fp,∃o,h.get? b=some o/\∀v,o.data≠ .cell v
 keep:∀i h h',tn i h->(∀b∈fp,∀o,h.get? b=some o->h'.get? b=some o)->tn i h'
 item:∀(X:Cx),X.prog=P->X.w=w->X.K=K->X.calm=true->∀(i:Nat) (pins:tzB) (s:Shared) (σ:St) (H:Hp) (E:Value->Shared->Prop),Inv X pins σ H s->(∀b∈fp,oO X pins H b)->tn i s.heap->J.go i H->
  wpAny (model P w) X.A (pyNext (.ref it)) (fun r s1=>∃u,r=some u/\
   wpAny (model P w) X.A (letOwnedTupleGo tg (.ref it) u) (fun _ s2=>∃x H',Inv X pins σ H' s2/\cF x u/\J.yld i H x H'/\tn (i+1) s2.heap/\∀b∈fp,H' b=none) E s1) E s
 done:∀(X:Cx),X.prog=P->X.w=w->X.K=K->X.calm=true->∀(i:Nat) (pins:tzB) (s:Shared) (σ:St) (H:Hp) (E:Value->Shared->Prop),Inv X pins σ H s->(∀b∈fp,oO X pins H b)->tn i s.heap->J.stop i H->
  wpAny (model P w) X.A (pyNext (.ref it)) (fun r s1=>r=none/\Inv X pins σ H s1) E s
 self:∀(A:Around) (i:Nat) (s:Shared) (Q:Value->Shared->Prop) (E:Value->Shared->Prop),tn i s.heap->Q (.ref it) s->wpAny (model P w) A (pyIter (.ref it)) Q E s
abbrev TI:=St->Hp->(It->Hp->Prop)->Prop
def PIE(X:Cx)(pins:tzB)(σ:St)(tg:Expr)(R:It->Hp->Prop)(itv:Value)(s2:Shared):Prop:=
 ∃(it:Addr) (fp:List Addr) (tn:Nat->Heap->Prop) (J:It) (H':Hp),itv= .ref it/\Inv X pins σ H' s2/\Turn X.prog X.w X.K tg J fp it tn/\tn 0 s2.heap/\(∀b∈fp,oO X pins H' b)/\R J H'
def PId(X:Cx)(tg iter:Expr)(wi:TI):Prop:=
 ∀(pins:tzB) (s:Shared) (σ:St) (H:Hp) (R:It->Hp->Prop),Inv X pins σ H s->wi σ H R->
  wpAny (model X.prog X.w) X.A (eval iter X.env) (fun v s1=>wpAny (model X.prog X.w) X.A (pyIter v) (PIE X pins σ tg R) X.xe s1) X.xe s
structure PI(X:Cx)(tg iter:Expr)(wi:TI):Prop where
 go:PId X tg iter wi
instance {X:Cx} {tg iter:Expr} {wi:TI}:CoeFun (PI X tg iter wi) fun _=>PId X tg iter wi:=⟨PI.go⟩
theorem zx3{M:Model}{A:Around}{E:Value->Shared->Prop}{s:Shared}{tg:Expr}{it:Addr}{u:Value}{o:Obj}{n:String}{vs:Array Value}{Q:Unit->Shared->Prop}(ho:s.heap.get? it=some o)(hc:o.cls= .type n)(hd:o.data= .fields vs)
  (hn:["enumerate","zip","dict_itemiterator","dict_reverseitemiterator","odict_iterator","itertools.zip_longest","itertools.pairwise"].contains n=false) (hQ:Q () s):wpAny M A (letOwnedTupleGo tg (.ref it) u) Q E s:=by
 unfold letOwnedTupleGo
 cases tg<;>first
  |exact ZH hQ
  | (cases u<;>first
    |exact ZH hQ
    | (refine Zh (wpAny_load ho ?_)
       rw [hc,hd]
       show wpAny M A (if (["enumerate","zip","dict_itemiterator","dict_reverseitemiterator","odict_iterator","itertools.zip_longest","itertools.pairwise"].contains n&&vs[0]? ==some (rawInt _))=true then _ else _) Q E s
       rw [if_neg (by intro h;rw [hn,XF] at h;cases h)]
       exact ZH hQ))
def Itl(K:tz0)(a:Addr):It:=
 ⟨fun i H=>∃xs x,SqL K H a xs/\xs[i]? =some x,fun i H x H'=>H'=H/\∀xs,SqL K H a xs->xs[i]? =some x,fun i H=>∃xs,SqL K H a xs/\xs.length<=i⟩
def Itt(K:tz0)(a:Addr):It:=
 ⟨fun i H=>∃xs x,SqT K H a xs/\xs[i]? =some x,fun i H x H'=>H'=H/\∀xs,SqT K H a xs->xs[i]? =some x,fun i H=>∃xs,SqT K H a xs/\xs.length<=i⟩
def Itr(lo:Int)(n:Nat):It:=⟨fun i _=>i<n,fun i H x H'=>H'=H/\x= .int (lo+i),fun i _=>n<=i⟩
theorem yw7{P:Program}{w:World}{K:tz0}{tg:Expr}(a it:Addr):Turn P w K tg (Itl K a) [it] it (fun i h=>h.IsListIter it a i) where
 mem:=by simp
 obj:=fun i h st b hb=>by
  have e:b=it:=by simpa using hb
  subst e
  obtain⟨o,e,c,d⟩:=st
  exact⟨o,e,fun v z=>by rw [d] at z;cases z⟩
 keep:=fun i h h' st k=>st.at fun o e=>k it (by simp) o e
 item:=by
  intro X hP hw hK hc i pins s σ H E I hf st hg
  subst hP hw hK
  obtain⟨xs,x,hq,hx⟩:=hg
  obtain⟨its,rv,p,hz⟩:=I.list hq
  obtain⟨u,hu,ru⟩:=rv.get hx
  obtain⟨f0,f1,f2,f3,f4,f5⟩:=hf it (by simp)
  refine wpAny_pyNext_list_item st p.isList (x:=u) (by simpa using hu) fun h' st' sb=> ?_
  have I1:Inv X pins σ H {s with heap:=h'}:=I.turned (t':=s.toks) (fun b o hb e=>(sb.2 b hb).trans e) f0 f1 f3 f4 f5
  obtain⟨o,e,c,d⟩:=id st'
  exact⟨u,rfl,zx3 (s:={s with heap:=h'}) e c d (by decide) ⟨x,H,I1,ru,⟨rfl,fun ys hy=>by rw [I.list_inj hy hq];exact hx⟩,st',fun b hb=>(hf b hb).1⟩⟩
 done:=by
  intro X hP hw hK hc i pins s σ H E I hf st hg
  subst hP hw hK
  obtain⟨xs,hq,hx⟩:=hg
  obtain⟨its,rv,p,hz⟩:=I.list hq
  obtain⟨f0,f1,f2,f3,f4,f5⟩:=hf it (by simp)
  have hl:=rv.length
  exact wpAny_pyNext_list_end (I.ok.hd hc) st p.isList (by simp;omega) fun h' eb=>⟨rfl,I.turned (t':=s.toks) (fun b o hb e=>eb b o hb e) f0 f1 f3 f4 f5⟩
 self:=fun _ _ _ _ _ st h=>wpAny_pyIter_listiter st h
theorem yp3{P:Program}{w:World}{K:tz0}{tg:Expr}(a it:Addr):Turn P w K tg (Itt K a) [it] it (fun i h=>h.IsTupleIter it a i) where
 mem:=by simp
 obj:=fun i h st b hb=>by
  have e:b=it:=by simpa using hb
  subst e
  obtain⟨o,e,c,d⟩:=st
  exact⟨o,e,fun v z=>by rw [d] at z;cases z⟩
 keep:=fun i h h' st k=>st.at fun o e=>k it (by simp) o e
 item:=by
  intro X hP hw hK hc i pins s σ H E I hf st hg
  subst hP hw hK
  obtain⟨xs,x,hq,hx⟩:=hg
  obtain⟨its,rv,p,hz⟩:=I.tuple hq
  obtain⟨u,hu,ru⟩:=rv.get hx
  obtain⟨f0,f1,f2,f3,f4,f5⟩:=hf it (by simp)
  refine wpAny_pyNext_tuple_item st (show s.heap.IsTuple a its.toArray from p) (x:=u) (by simpa using hu) fun h' st' sb=> ?_
  have I1:Inv X pins σ H {s with heap:=h'}:=I.turned (t':=s.toks) (fun b o hb e=>(sb.2 b hb).trans e) f0 f1 f3 f4 f5
  obtain⟨o,e,c,d⟩:=id st'
  exact⟨u,rfl,zx3 (s:={s with heap:=h'}) e c d (by decide) ⟨x,H,I1,ru,⟨rfl,fun ys hy=>by rw [I.tuple_inj hy hq];exact hx⟩,st',fun b hb=>(hf b hb).1⟩⟩
 done:=by
  intro X hP hw hK hc i pins s σ H E I hf st hg
  subst hP hw hK
  obtain⟨xs,hq,hx⟩:=hg
  obtain⟨its,rv,p,hz⟩:=I.tuple hq
  obtain⟨f0,f1,f2,f3,f4,f5⟩:=hf it (by simp)
  have hl:=rv.length
  exact wpAny_pyNext_tuple_end (I.ok.hd hc) st (show s.heap.IsTuple a its.toArray from p) (by simp;omega) fun h' eb=>⟨rfl,I.turned (t':=s.toks) (fun b o hb e=>eb b o hb e) f0 f1 f3 f4 f5⟩
 self:=fun _ _ _ _ _ st h=>wpAny_pyIter_tupleiter st h
theorem yp4{P:Program}{w:World}{K:tz0}{tg:Expr}(it:Addr)(lo:Int)(n:Nat):Turn P w K tg (Itr lo n) [it] it (fun i h=>IsRangeIter h it (lo+(i:Nat)*1) ((n:Int)-(i:Nat)) 1) where
 mem:=by simp
 obj:=fun i h st b hb=>by
  have e:b=it:=by simpa using hb
  subst e
  exact⟨_,st,fun v z=>by
   have z':Data.fields _=Data.cell v:=z
   cases z'⟩
 keep:=fun i h h' st k=>k it (by simp) _ st
 item:=by
  intro X hP hw hK hc i pins s σ H E I hf st hg
  subst hP hw hK
  obtain⟨f0,f1,f2,f3,f4,f5⟩:=hf it (by simp)
  have W:=Walks.range (prog:=X.prog) (w:=X.w) (I.ok.hd hc) it lo 1 n
  refine W.item i s _ _ hg st fun v h' tk hv st' kk=> ?_
  obtain⟨t,rfl⟩:=hv
  have I1:Inv X pins σ H {s with heap:=h',toks:=tk}:=I.turned (fun b o hb e=>kk b o (by simpa using hb) e) f0 f1 f3 f4 f5
  refine⟨_,rfl,zx3 (s:={s with heap:=h',toks:=tk}) (n:="range_iterator") st' rfl rfl (by decide) ⟨.int (lo+i),H,I1,⟨t,?_⟩,⟨rfl,rfl⟩,st',fun b hb=>(hf b hb).1⟩⟩
  rw [Int.mul_one]
 done:=by
  intro X hP hw hK hc i pins s σ H E I hf st hg
  subst hP hw hK
  obtain⟨f0,f1,f2,f3,f4,f5⟩:=hf it (by simp)
  exact wpAny_pyNext_range_end (I.ok.hd hc) st (by have:n<=i:=hg;omega) fun h' eb=>⟨rfl,I.turned (t':=s.toks) (fun b o hb e=>eb b o hb e) f0 f1 f3 f4 f5⟩
 self:=fun _ _ _ _ _ st h=>wpAny_pyIter_rangeiter st h
section
variable{X:Cx}{tg:Expr}
theorem zz8{pins:tzB}{σ:St}{H:Hp}{s:Shared}{R:It->Hp->Prop}{E:Value->Shared->Prop}{lo hi:Int}{t u v:Tok}{tk:Nat}(I:Inv X pins σ H s)(h1: -(2^62)<=lo)(h2:lo<2^62)(h3: -(2^62)<=hi)(h4:hi<2^62)
  (q:R (Itr lo (hi-lo).toNat) H):wpAny (model X.prog X.w) X.A (pyIter (.ref s.heap.objs.size)) (PIE X pins σ tg R) E {s with heap:=s.heap.push {cls:= .type "range",data:= .fields #[.int lo t,.int hi u,.int 1 v]},toks:=tk}:=by
 refine wpAny_pyIter_range (IsRange.new ..) (small_one h1 h2 h3 h4) ?_
 have I1:Inv X pins σ H {s with heap:=s.heap.push {cls:= .type "range",data:= .fields #[.int lo t,.int hi u,.int 1 v]},toks:=tk}:=I.kept fun b o e=>Zf _ e
 refine⟨(s.heap.push {cls:= .type "range",data:= .fields #[.int lo t,.int hi u,.int 1 v]}).objs.size,[(s.heap.push {cls:= .type "range",data:= .fields #[.int lo t,.int hi u,.int 1 v]}).objs.size],_,_,H,rfl,
  I1.kept (t':=tk) fun b o e=>Zf _ e,yp4 _ lo (hi-lo).toNat,?_,fun b hb=> ?_,q⟩
 ·have e1:lo+((0:Nat):Int)*1=lo:=by simp
  have e2:(((hi-lo).toNat:Nat):Int)-((0:Nat):Int)=Builtin.Range.rangeSize lo hi 1:=by rw [rangeSize_one];split<;>omega
  show IsRangeIter _ _ (lo+((0:Nat):Int)*1) ((((hi-lo).toNat:Nat):Int)-((0:Nat):Int)) 1
  rw [e1,e2]
  exact Zv _ rfl
 ·have e:b=(s.heap.push {cls:= .type "range",data:= .fields #[.int lo t,.int hi u,.int 1 v]}).objs.size:=by simpa using hb
  subst e
  exact I1.fpOk (Zb _) (I1.hok.fresh (Zb _))
def wm5(ta:TA):TI:=fun σ H R=>ta σ H fun vs H1=>∃j:Int,vs=[.int j]/\ -(2^62)<=j/\j<2^62/\R (Itr 0 j.toNat) H1
def wm6(ta:TA):TI:=fun σ H R=>ta σ H fun vs H1=>∃i j:Int,vs=[.int i,.int j]/\(-(2^62)<=i/\i<2^62/\ -(2^62)<=j/\j<2^62)/\R (Itr i (j-i).toNat) H1
theorem yw8{a:Expr}{ta:TA}{p pos:Pos}(hg:Gl X "range")(hm:X.mg "range"=none)(ha:PA X [a] ta)(hs:starEach [a] X.env=[(false,eval a X.env)]:=by rfl):PI X tg (.Call (.Name "range" p) [a] [] pos) (wm5 ta):=⟨by
 intro pins s σ H R I h
 refine Call_ (tG I hg hm boot_range (Yh (thn (ha pos pins s σ H _ I h) fun us s1 ⟨vs,H1,I1,r1,q1⟩=> ?_) hs rfl))
 obtain⟨j,e,q1,q2,q⟩:=q1
 subst e
 cases r1 with
 |cons r rr=>
  cases rr
  obtain⟨t,rfl⟩:=r
  exact call_range_1 (zz8 I1 (by omega) (by omega) q1 q2 (by simpa using q))⟩
theorem zr8{a b:Expr}{ta:TA}{p pos:Pos}(hg:Gl X "range")(hm:X.mg "range"=none)(ha:PA X [a,b] ta)(hs:starEach [a,b] X.env=[(false,eval a X.env),(false,eval b X.env)]:=by rfl)(hs2:starEach [b] X.env=[(false,eval b X.env)]:=by rfl):
  PI X tg (.Call (.Name "range" p) [a,b] [] pos) (wm6 ta):=⟨by
 intro pins s σ H R I h
 refine Call_ (tG I hg hm boot_range (Yh (thn (ha pos pins s σ H _ I h) fun us s1 ⟨vs,H1,I1,r1,q1⟩=> ?_) (by rw [hs,hs2]) (by rw [hs2];rfl)))
 obtain⟨i,j,e,⟨q1,q2,q3,q4⟩,q⟩:=q1
 subst e
 cases r1 with
 | cons r rr=>
  cases rr with
  |cons r' rr=>
   cases rr
   obtain⟨t,rfl⟩:=r
   obtain⟨t',rfl⟩:=r'
   exact call_range_2 (zz8 I1 q1 q2 q3 q4 q)⟩
def wp7(wi:TI)(g:TG)(tb:TS):TS:=fun D σ H=>wi σ H fun J H1=>∃W:Nat->Nat->St->Hp->Prop,(∃m,W 0 m σ H1)/\∀i m σ H,W i m σ H->
 (J.stop i H/\D.nx σ H)\/(J.go i H/\∃N:St->Hp->Prop,(∀σ' H',N σ' H'->∃m',m'<m/\W (i+1) m' σ' H')/\∀x H',J.yld i H x H'->g x σ H' fun σ2 H2=>tb {D with nx:=N,ct:=N,bk:=D.nx} σ2 H2)
def wN(fp:List Addr)(h:Heap):tzB:=fp.filterMap fun b=>(h.get? b).map fun o=>(b,o)
theorem sA{fp:List Addr}{h:Heap}{b:Addr}{o:Obj}(hb:b∈fp)(e:h.get? b=some o):(b,o)∈wN fp h:=YK.mpr ⟨b,hb,by rw [e];rfl⟩
theorem yw9{fp:List Addr}{h:Heap}{p:Addr×Obj}(hp:p∈wN fp h):p.1∈fp/\h.get? p.1=some p.2:=by
 obtain⟨b,hb,e⟩:=YK.mp hp
 cases q:h.get? b with
 |none=>rw [q] at e;cases e
 |some o=>
  rw [q] at e
  have e':(b,o)=p:=ZB e
  subst e'
  exact⟨hb,q⟩
theorem Inv.pinned{pins:tzB}{σ:St}{H:Hp}{s:Shared}{fp:List Addr}(I:Inv X pins σ H s)(hf:∀b∈fp,oO X pins H b)(ho:∀b∈fp,∃o,s.heap.get? b=some o/\∀v,o.data≠ .cell v):Inv X (pins++wN fp s.heap) σ H s:=
 I.pins_of fun p hp=>(Zn.mp hp).elim (fun z=>I.pin p (Ze _ z)) fun z=>by
  obtain⟨hb,e⟩:=yw9 z
  obtain⟨f0,f1,f2,_⟩:=hf p.1 hb
  obtain⟨o,e',d⟩:=ho p.1 hb
  rw [e] at e';cases e'
  exact⟨e,f0,f1,f2,d⟩
theorem Inv.unpinned{pins pl:tzB}{σ:St}{H:Hp}{s:Shared}(I:Inv X (pins++pl) σ H s):Inv X pins σ H s:=I.pins_of fun p hp=>I.pin p (Ze _ (Zo _ hp))
theorem zF{iter:Expr}{body:List Stmt}{wi:TI}{g:TG}{tb:TS}{pos:Pos}(hp:PassesOwn (model X.prog X.w) X.A X.env X.xe)(hc:X.calm=true)(hi:PI X tg iter wi)(hg:PG X tg g)(hb:PSs X body tb)
  (hs:∀x,foldedSetIterable iter X.env x=pure x:=by intro _;rfl):PS X (.For tg iter body [] pos) (wp7 wi g tb):=⟨by
 intro pins s σ H D I h
 refine wpAny_For (thn (hi pins s σ H _ I h) fun v s1 h1=>thn h1 fun itv s2 h2=> ?_) hs
 obtain⟨it,fp,tn,J,H2,e,I2,T,st2,f2,W,⟨m0,w0⟩,turn⟩:=h2
 subst e
 have stat:∀{H':Hp},(∀b∈fp,H' b=none)->∀b∈fp,oO X pins H' b:=fun hn b hb=>⟨hn b hb,(f2 b hb).2⟩
 refine codeAny_forLoop_any (fun n s'=>∃i σ' H',Inv X pins σ' H' s'/\tn i s'.heap/\(∀b∈fp,H' b=none)/\W i n σ' H') ?_ m0 ⟨0,σ,H2,I2,st2,fun b hb=>(f2 b hb).1,w0⟩
 rintro n s3 ⟨i,σ3,H3,I3,st3,fr3,w3⟩
 rcases turn i n σ3 H3 w3 with ⟨stop,qn⟩|⟨go,N,hN,step⟩
 ·refine Yk hp (thn (T.done X rfl rfl rfl hc i pins s3 σ3 H3 X.xe I3 (stat fr3) st3 stop) fun r s4 ⟨hr,I4⟩=> ?_)
  subst hr
  exact YO ⟨σ3,H3,I4,qn⟩
 ·refine Yk hp (thn (T.item X rfl rfl rfl hc i pins s3 σ3 H3 X.xe I3 (stat fr3) st3 go) fun r s4 ⟨u,hr,h4⟩=> ?_)
  subst hr
  refine Yk hp (thn h4 fun _ s5 ⟨x,H5,I5,r5,y5,st5,fr5⟩=> ?_)
  have I5':=I5.pinned (stat fr5) (T.obj _ _ st5)
  refine Yk hp (thn (hg _ s5 σ3 H5 x u _ I5' r5 (step x H5 y5)) fun _ s6 ⟨σ6,H6,I6,q6⟩=> ?_)
  refine Yk hp (thn (hb _ s6 σ6 H6 _ I6 q6) fun f s7 q7=> ?_)
  have again:∀{σ7:St} {H7:Hp},Inv X (pins++wN fp s5.heap) σ7 H7 s7->N σ7 H7->∃m,m<n/\∃i σ' H',Inv X pins σ' H' s7/\tn i s7.heap/\(∀b∈fp,H' b=none)/\W i m σ' H':=fun {σ7 H7} I7 n7=>by
   obtain⟨m',hm,w7⟩:=hN σ7 H7 n7
   refine⟨m',hm,i+1,σ7,H7,I7.unpinned,T.keep _ _ _ st5 fun b hb o e=>(I7.pin (b,o) (Ze _ (Ze _ (sA hb e)))).1,fun b hb=> ?_,w7⟩
   obtain⟨o,e,d⟩:=T.obj _ _ st5 b hb
   exact(I7.pin (b,o) (Ze _ (Ze _ (sA hb e)))).2.1
  cases f with
  |next=>obtain⟨σ7,H7,I7,n7⟩:=q7;exact again I7 n7
  |cont=>obtain⟨σ7,H7,I7,n7⟩:=q7;exact again I7 n7
  |brk=>obtain⟨σ7,H7,I7,q7⟩:=q7;exact⟨σ7,H7,I7.unpinned,q7⟩
  |ret v=>obtain⟨x7,σ7,H7,I7,r7,q7⟩:=q7;exact⟨x7,σ7,H7,I7.unpinned,r7,q7⟩⟩
end
abbrev R2:=V->V->Hp->VK->Prop
def wh8(X:Cx)(f:Value->Value->Sem Value)(r:R2):Prop:=
 ∀(pins:tzB) (s:Shared) (σ:St) (H:Hp) (x y:V) (v u:Value) (Q:VK),Inv X pins σ H s->cF x v->cF y u->r x y H Q->
  wpAny (model X.prog X.w) X.A (f v u) (EP X pins σ Q) X.xe s
structure OpR(X:Cx)(f:Value->Value->Sem Value)(r:R2):Prop where
 go:wh8 X f r
instance {X:Cx} {f:Value->Value->Sem Value} {r:R2}:CoeFun (OpR X f r) fun _=>wh8 X f r:=⟨OpR.go⟩
def UnR(X:Cx)(f:Value->Sem Value)(r:V->Hp->VK->Prop):Prop:=
 ∀(pins:tzB) (s:Shared) (σ:St) (H:Hp) (x:V) (v:Value) (Q:VK),Inv X pins σ H s->cF x v->r x H Q->
  wpAny (model X.prog X.w) X.A (f v) (EP X pins σ Q) X.xe s
def xh0(X:Cx)(f:Value)(r:List V->Hp->VK->Prop):Prop:=
 ∀(pins:tzB) (s:Shared) (σ:St) (H:Hp) (xs:List V) (us:List Value) (Q:VK),Inv X pins σ H s->bF xs us->r xs H Q->
  wpAny (model X.prog X.w) X.A (call f us) (EP X pins σ Q) X.xe s
structure CallR(X:Cx)(f:Value)(r:List V->Hp->VK->Prop):Prop where
 go:xh0 X f r
instance {X:Cx} {f:Value} {r:List V->Hp->VK->Prop}:CoeFun (CallR X f r) fun _=>xh0 X f r:=⟨CallR.go⟩
def wp8(X:Cx)(r:V->Hp->(Bool->Hp->Prop)->Prop):Prop:=
 ∀(pins:tzB) (s:Shared) (σ:St) (H:Hp) (x:V) (v:Value) (Q:Bool->Hp->Prop),Inv X pins σ H s->cF x v->r x H Q->
  wpAny (model X.prog X.w) X.A (truthy v) (TP X pins σ Q) X.xe s
def tOp(r:R2)(ta tb:TE):TE:=fun σ H Q=>ta σ H fun x H1=>tb σ H1 fun y H2=>r x y H2 Q
def tUn(r:V->Hp->VK->Prop)(ta:TE):TE:=fun σ H Q=>ta σ H fun x H1=>r x H1 Q
def rI(C:Int->Int->Prop)(g:Int->Int->V):R2:=fun x y H Q=>∃i j,x= .int i/\y= .int j/\C i j/\Q (g i j) H
def rI0(g:Int->Int->V):R2:=fun x y H Q=>∃i j,x= .int i/\y= .int j/\Q (g i j) H
def rU(g:Int->V):V->Hp->VK->Prop:=fun x H Q=>∃i,x= .int i/\Q (g i) H
section
variable{X:Cx}{a b c:Expr}{ta tb tc:TE}{pos:Pos}
theorem xh9(ha:PE X a ta)(hb:PE X b tb){pins:tzB}{s:Shared}{σ:St}{H:Hp}{R:V->V->Hp->Prop}(I:Inv X pins σ H s)
  (h:ta σ H fun x H1=>tb σ H1 fun y H2=>R x y H2) {Q:Value->Shared->Prop} {f:Value->Value->Sem Value}
  (hf:∀v u s2 x y H2,Inv X pins σ H2 s2->cF x v->cF y u->R x y H2->wpAny (model X.prog X.w) X.A (f v u) Q X.xe s2):
  wpAny (model X.prog X.w) X.A (eval a X.env) (fun v s₁=>wpAny (model X.prog X.w) X.A (eval b X.env) (fun u s₂=>wpAny (model X.prog X.w) X.A (f v u) Q X.xe s₂) X.xe s₁) X.xe s:=by
 refine thn (ha pins s σ H _ I h) fun v s1 ⟨x,H1,I1,r1,q1⟩=> ?_
 refine thn (hb pins s1 σ H1 _ I1 q1) fun u s2 ⟨y,H2,I2,r2,q2⟩=> ?_
 exact hf v u s2 x y H2 I2 r1 r2 q2
theorem gH{op:Operator}{r:R2}(ho:OpR X (binaryOp op) r)(ha:PE X a ta)(hb:PE X b tb):PE X (.BinOp a op b pos) (tOp r ta tb):=⟨by
 intro pins s σ H Q I h
 exact wpAny_BinOp (xh9 ha hb I h fun v u s2 x y H2 I2 rx ry q=>ho pins s2 σ H2 x y v u Q I2 rx ry q)⟩
theorem wj9{op:UnaryOp}{r:V->Hp->VK->Prop}(ho:UnR X (unaryOp op) r)(ha:PE X a ta):PE X (.UnaryOp op a pos) (tUn r ta):=⟨by
 intro pins s σ H Q I h
 exact UnaryOp_ (thn (ha pins s σ H _ I h) fun v s1 ⟨x,H1,I1,r1,q1⟩=>ho pins s1 σ H1 x v Q I1 r1 q1)⟩
theorem opI{f:Value->Value->Sem Value}{C:Int->Int->Prop}{g:Int->Int->Int}
  (rule:∀(i j:Int) (t u:Tok) (s:Shared) (Q:Value->Shared->Prop) (E:Value->Shared->Prop),C i j->Q (.int (g i j) s.toks) {s with toks:=s.toks+1}->wpAny (model X.prog X.w) X.A (f (.int i t) (.int j u)) Q E s):
  OpR X f (rI C fun i j=> .int (g i j)):=⟨by
 intro pins s σ H x y v u Q I rx ry h
 obtain⟨i,j,rfl,rfl,hc,q⟩:=h
 obtain⟨t,rfl⟩:=rx
 obtain⟨t',rfl⟩:=ry
 exact rule i j t t' s _ _ hc ⟨.int (g i j),H,I.tok _,⟨_,rfl⟩,q⟩⟩
theorem xi0{f:Value->Value->Sem Value}{g:Int->Int->Int}
  (rule:∀(i j:Int) (t u:Tok) (s:Shared) (Q:Value->Shared->Prop) (E:Value->Shared->Prop),Q (.int (g i j) s.toks) {s with toks:=s.toks+1}->wpAny (model X.prog X.w) X.A (f (.int i t) (.int j u)) Q E s):
  OpR X f (rI0 fun i j=> .int (g i j)):=⟨by
 intro pins s σ H x y v u Q I rx ry h
 obtain⟨i,j,rfl,rfl,q⟩:=h
 obtain⟨t,rfl⟩:=rx
 obtain⟨t',rfl⟩:=ry
 exact rule i j t t' s _ _ ⟨.int (g i j),H,I.tok _,⟨_,rfl⟩,q⟩⟩
theorem yp5{f:Value->Value->Sem Value}{g:Int->Int->Bool}
  (rule:∀(i j:Int) (t u:Tok) (s:Shared) (Q:Value->Shared->Prop) (E:Value->Shared->Prop),Q (.bool (g i j)) s->wpAny (model X.prog X.w) X.A (f (.int i t) (.int j u)) Q E s):
  OpR X f (rI0 fun i j=> .bl (g i j)):=⟨by
 intro pins s σ H x y v u Q I rx ry h
 obtain⟨i,j,rfl,rfl,q⟩:=h
 obtain⟨t,rfl⟩:=rx
 obtain⟨t',rfl⟩:=ry
 exact rule i j t t' s _ _ ⟨.bl (g i j),H,I,rfl,q⟩⟩
def wp9(i j:Int):Prop:=0<j/\j<1073741824
def xp4(i j:Int):Prop:=(-(2^64)<i/\i<2^64)\/(-(2^64)<j/\j<2^64)
theorem xp4.ok{i j:Int}(h:xp4 i j):IntMulOk i j:=by
 rcases h with ⟨h1,h2⟩|⟨h1,h2⟩
 ·exact .of_left (intBits_le_64 h1 h2)
 ·exact .of_right (intBits_le_64 h1 h2)
theorem yp6(k:Nat):(0:Int)<=2^k:=by
 rw [two_pow_cast]
 exact Int.natCast_nonneg _
theorem vW:OpR X (binaryOp .Add) (rI0 fun i j=> .int (i+j)):=xi0 fun _ _ _ _ _ _ _ q=>add_int q
theorem wb6:OpR X (binaryOp .Sub) (rI0 fun i j=> .int (i-j)):=xi0 fun _ _ _ _ _ _ _ q=>sub_int q
theorem oA:OpR X (binaryOp .Mult) (rI xp4 fun i j=> .int (i*j)):=opI fun _ _ _ _ _ _ _ hc q=>mul_int q hc.ok
theorem yj7:OpR X (binaryOp .FloorDiv) (rI wp9 fun i j=> .int (i/j)):=opI fun i j _ _ _ _ _ hc q=>by
 have h1:(0:Int)<j:=hc.1
 have h2:j<1073741824:=hc.2
 exact floordiv_int (by omega) (by rw [XG i (by omega)];exact q) (.inl (PyProof.noPylong_small (by omega)))
theorem zi3:OpR X (binaryOp .Mod) (rI (fun _ j=>0<j) fun i j=> .int (i % j)):=opI fun i j _ _ _ _ _ hc q=>by
 have h1:(0:Int)<j:=hc
 exact mod_int' (by omega) (by rw [Int.fmod_eq_emod_of_nonneg i (by omega)];exact q)
theorem wb7:OpR X (binaryOp .RShift) (rI (fun _ j=>0<=j) fun i j=> .int (i/2^j.toNat)):=opI fun i j _ _ _ _ _ hc q=>
 rshift_int hc (by rw [XG i (yp6 _)];exact q)
theorem yx0:OpR X (binaryOp .BitAnd) (rI0 fun i j=> .int (Builtin.bitAnd i j)):=xi0 fun _ _ _ _ _ _ _ q=>and_int q
theorem unI{f:Value->Sem Value}{g:Int->Int}
  (rule:∀(i:Int) (t:Tok) (s:Shared) (Q:Value->Shared->Prop) (E:Value->Shared->Prop),Q (.int (g i) s.toks) {s with toks:=s.toks+1}->wpAny (model X.prog X.w) X.A (f (.int i t)) Q E s):
  UnR X f (rU fun i=> .int (g i)):=by
 intro pins s σ H x v Q I rx h
 obtain⟨i,rfl,q⟩:=h
 obtain⟨t,rfl⟩:=rx
 exact rule i t s _ _ ⟨.int (g i),H,I.tok _,⟨_,rfl⟩,q⟩
theorem wb8:UnR X (unaryOp .USub) (rU fun i=> .int (-i)):=unI fun _ _ _ _ _ q=>neg_int q
end
def wh9:V->V->Bool
 | .non,.non=>true| .non,.int _=>true| .int _,.non=>true| .non,.bl _=>true| .bl _,.non=>true| .non,.str _=>true| .str _,.non=>true
 | .int _,.int _=>true| .bl _,.bl _=>true| .str _,.str _=>true| .byt _,.byt _=>true
 | .int _,.str _=>true| .str _,.int _=>true| .bl _,.str _=>true| .str _,.bl _=>true
 |_,_=>false
def rEq:R2:=fun x y H Q=>wh9 x y=true/\Q (.bl (decide (x=y))) H
def rNe:R2:=fun x y H Q=>wh9 x y=true/\Q (.bl (!decide (x=y))) H
theorem yj8{i j:Int}:decide (V.int i=V.int j)=(i==j):=by
 rw [YG]
 simp
theorem yx1{i j:Bool}:decide (V.bl i=V.bl j)=(i==j):=by
 rw [YG]
 simp
theorem yj9{i j:Str}:decide (V.str i=V.str j)=(i==j):=by
 rw [YG]
 simp
theorem yk0{i j:Array UInt8}:decide (V.byt i=V.byt j)=(i.toList==j.toList):=by
 rw [YG]
 cases i
 cases j
 simp
section
variable{X:Cx}{a b c:Expr}{ta tb tc:TE}{pos:Pos}
theorem dG{pins:tzB}{σ:St}{H:Hp}{s:Shared}{Q:VK}{k k':Bool}(I:Inv X pins σ H s)(q:Q (.bl k) H)(e:k=k'):EP X pins σ Q (.bool k') s:=by
 subst e
 exact⟨.bl k,H,I,rfl,q⟩
theorem yp7:OpR X (compareOp .Eq) rEq:=⟨by
 intro pins s σ H x y v u Q I rx ry h
 obtain⟨hs,q⟩:=h
 cases x with
 |non=>
  cases rx
  cases y with
  |non=>cases ry;exact PySem.EqNone.eq_none_none (dG I q (by simp))
  |bl j=>cases ry;exact PySem.EqNone.eq_none_bool (dG I q (by simp))
  |int j=>obtain⟨t',rfl⟩:=ry;exact PySem.EqNone.eq_none_int (dG I q (by simp))
  |str j=>obtain⟨t',rfl⟩:=ry;exact PySem.EqNone.eq_none_str (dG I q (by simp))
  |_=>exact absurd (show false=true from hs) Za
 |bl i=>
  cases rx
  cases y with
  |non=>cases ry;exact PySem.EqNone.eq_bool_none (dG I q (by simp))
  |bl j=>cases ry;exact eq_bool (dG I q yx1)
  |str j=>obtain⟨t',rfl⟩:=ry;exact PySem.EqMixed.eq_bool_str (dG I q (by simp))
  |_=>exact absurd (show false=true from hs) Za
 |int i=>
  obtain⟨t,rfl⟩:=rx
  cases y with
  |non=>cases ry;exact PySem.EqNone.eq_int_none (dG I q (by simp))
  |int j=>obtain⟨t',rfl⟩:=ry;exact eq_int (dG I q yj8)
  |str j=>obtain⟨t',rfl⟩:=ry;exact PySem.EqMixed.eq_int_str (dG I q (by simp))
  |_=>exact absurd (show false=true from hs) Za
 |str i=>
  obtain⟨t,rfl⟩:=rx
  cases y with
  |non=>cases ry;exact PySem.EqNone.eq_str_none (dG I q (by simp))
  |bl j=>cases ry;exact PySem.EqMixed.eq_str_bool (dG I q (by simp))
  |int j=>obtain⟨t',rfl⟩:=ry;exact PySem.EqMixed.eq_str_int (dG I q (by simp))
  |str j=>obtain⟨t',rfl⟩:=ry;exact eq_str (dG I q yj9)
  |_=>exact absurd (show false=true from hs) Za
 |byt i=>
  obtain⟨t,rfl⟩:=rx
  cases y with
  |byt j=>obtain⟨t',rfl⟩:=ry;exact PySem.W.eq_bytes (dG I q yk0)
  |_=>exact absurd (show false=true from hs) Za
 |_=>cases y<;>exact absurd (show false=true from hs) Za⟩
theorem xq8:OpR X (compareOp .NotEq) rNe:=⟨by
 intro pins s σ H x y v u Q I rx ry h
 obtain⟨hs,q⟩:=h
 cases x with
 |non=>
  cases rx
  cases y with
  |non=>cases ry;exact PySem.EqNone.ne_none_none (dG I q (by simp))
  |bl j=>cases ry;exact PySem.EqNone.ne_none_bool (dG I q (by simp))
  |int j=>obtain⟨t',rfl⟩:=ry;exact PySem.EqNone.ne_none_int (dG I q (by simp))
  |str j=>obtain⟨t',rfl⟩:=ry;exact PySem.EqNone.ne_none_str (dG I q (by simp))
  |_=>exact absurd (show false=true from hs) Za
 |bl i=>
  cases rx
  cases y with
  |non=>cases ry;exact PySem.EqNone.ne_bool_none (dG I q (by simp))
  |bl j=>cases ry;exact ne_bool (dG I q (ZJ not yx1))
  |str j=>obtain⟨t',rfl⟩:=ry;exact PySem.EqMixed.ne_bool_str (dG I q (by simp))
  |_=>exact absurd (show false=true from hs) Za
 |int i=>
  obtain⟨t,rfl⟩:=rx
  cases y with
  |non=>cases ry;exact PySem.EqNone.ne_int_none (dG I q (by simp))
  |int j=>obtain⟨t',rfl⟩:=ry;exact ne_int (dG I q (ZJ not yj8))
  |str j=>obtain⟨t',rfl⟩:=ry;exact PySem.EqMixed.ne_int_str (dG I q (by simp))
  |_=>exact absurd (show false=true from hs) Za
 |str i=>
  obtain⟨t,rfl⟩:=rx
  cases y with
  |non=>cases ry;exact PySem.EqNone.ne_str_none (dG I q (by simp))
  |bl j=>cases ry;exact PySem.EqMixed.ne_str_bool (dG I q (by simp))
  |int j=>obtain⟨t',rfl⟩:=ry;exact PySem.EqMixed.ne_str_int (dG I q (by simp))
  |str j=>obtain⟨t',rfl⟩:=ry;exact ne_str (dG I q (ZJ not yj9))
  |_=>exact absurd (show false=true from hs) Za
 |byt i=>
  obtain⟨t,rfl⟩:=rx
  cases y with
  |byt j=>obtain⟨t',rfl⟩:=ry;exact PySem.W.ne_bytes (dG I q (ZJ not yk0))
  |_=>exact absurd (show false=true from hs) Za
 |_=>cases y<;>exact absurd (show false=true from hs) Za⟩
theorem wk0:OpR X (compareOp .Lt) (rI0 fun i j=> .bl (decide (i<j))):=yp5 fun _ _ _ _ _ _ _ q=>lt_int q
theorem wk1:OpR X (compareOp .LtE) (rI0 fun i j=> .bl (decide (i<=j))):=yp5 fun _ _ _ _ _ _ _ q=>le_int q
theorem wk2:OpR X (compareOp .Gt) (rI0 fun i j=> .bl (decide (j<i))):=yp5 fun _ _ _ _ _ _ _ q=>gt_int q
theorem wk3:OpR X (compareOp .GtE) (rI0 fun i j=> .bl (decide (j<=i))):=yp5 fun _ _ _ _ _ _ _ q=>ge_int q
theorem wb9:OpR X (compareOp .Is) (fun x y H Q=>y= .non/\Q (.bl (decide (x= .non))) H):=⟨by
 intro pins s σ H x y v u Q I rx ry h
 obtain⟨rfl,q⟩:=h
 cases ry
 refine is_none_gen (dG I q ?_)
 cases x<;>first
  |(cases rx;rfl)
  |(obtain⟨t,rfl⟩:=rx;rfl)⟩
theorem xt3:OpR X (compareOp .IsNot) (fun x y H Q=>y= .non/\Q (.bl (!decide (x= .non))) H):=⟨by
 intro pins s σ H x y v u Q I rx ry h
 obtain⟨rfl,q⟩:=h
 cases ry
 refine isnot_none_gen (dG I q ?_)
 cases x<;>first
  |(cases rx;rfl)
  |(obtain⟨t,rfl⟩:=rx;rfl)⟩
theorem bJ(b:Expr){op:CmpOp}(h:op≠ .In:=by decide)(h2:op≠ .NotIn:=by decide):behindInMarks op b=false:=by
 have e1:(op==CmpOp.In)=false:=by cases op<;>first|rfl|exact absurd rfl h
 have e2:(op==CmpOp.NotIn)=false:=by cases op<;>first|rfl|exact absurd rfl h2
 cases b<;>simp [behindInMarks,e1,e2]
theorem xt4{op:CmpOp}{r:R2}(ho:OpR X (compareOp op) r)(ha:PE X a ta)(hb:PE X b tb)(hm:behindInMarks op b=false):PE X (.Compare a [op] [b] pos) (tOp r ta tb):=⟨by
 intro pins s σ H Q I h
 exact wpAny_Compare1 (xh9 ha hb I h fun v u s2 x y H2 I2 rx ry q=>ho pins s2 σ H2 x y v u Q I2 rx ry q) hm⟩
def wm7(t:TE):TT:=fun σ H Q=>t σ H fun x H'=>∃k,x= .bl k/\Q k H'
theorem yk1{op:CmpOp}{r:R2}(ho:OpR X (compareOp op) r)(ha:PE X a ta)(hb:PE X b tb)(hm:behindInMarks op b=false):PT X (.Compare a [op] [b] pos) (wm7 (tOp r ta tb)):=⟨by
 intro pins s σ H Q I h
 refine wpAny_isTrue_Compare1 (thn (ha pins s σ H _ I h) fun v s1 ⟨x,H1,I1,r1,q1⟩=>thn (hb pins s1 σ H1 _ I1 q1) fun u s2 ⟨y,H2,I2,r2,q2⟩=>
  thn (ho pins s2 σ H2 x y v u _ I2 r1 r2 q2) fun c s3 ⟨z,H3,I3,r3,k,e,q3⟩=> ?_) hm
 subst e
 cases r3
 exact Y4 ⟨H3,I3,q3⟩⟩
def xh1(r r':R2)(ta tb tc:TE):TE:=fun σ H Q=>ta σ H fun x H1=>tb σ H1 fun y H2=>r x y H2 fun z H3=>∃k,z= .bl k/\
 (if k=true then tc σ H3 fun w' H4=>r' y w' H4 Q else Q (.bl false) H3)
theorem xi1{op op':CmpOp}{r r':R2}(ho:OpR X (compareOp op) r)(ho':OpR X (compareOp op') r')(ha:PE X a ta)(hb:PE X b tb)(hc:PE X c tc)
  (hm:lastMarks [op,op'] [b,c]=false:=by with_unfolding_all rfl):PE X (.Compare a [op,op'] [b,c] pos) (xh1 r r' ta tb tc):=⟨by
 intro pins s σ H Q I h
 refine Compare_chain (thn (ha pins s σ H _ I h) fun v s1 ⟨x,H1,I1,r1,q1⟩=>chain_link (thn (hb pins s1 σ H1 _ I1 q1) fun u s2 ⟨y,H2,I2,r2,q2⟩=>
  thn (ho pins s2 σ H2 x y v u _ I2 r1 r2 q2) fun d s3 ⟨z,H3,I3,r3,k,e,q3⟩=> ?_)) hm
 subst e
 cases r3
 refine Y4 ?_
 cases k with
 |false=>exact ite_ff ⟨.bl false,H3,I3,rfl,q3⟩
 |true=>exact ite_tt (chain_last (thn (hc pins s3 σ H3 _ I3 q3) fun w' s4 ⟨z',H4,I4,r4,q4⟩=>ho' pins s4 σ H4 y z' u w' Q I4 r2 r4 q4))⟩
def xp5(K:tz0)(x:V)(H:Hp)(k:Bool):Prop:=
 match x with
 | .non=>k=false
 | .bl b=>k=b
 | .int i=>k=(i !=0)
 | .str y=>y.length<=sizeLine/\k=((y.length:Int) !=0)
 | .byt y=>y.size<=sizeLine/\k=((y.size:Int) !=0)
 | .ref p=>(∃xs,SqL K H p xs/\k= !xs.isEmpty)\/(∃xs,SqT K H p xs/\k= !xs.isEmpty)\/∃kvs,H p=some (.dK kvs)/\k= !kvs.isEmpty
 |_=>False
theorem yp8{κ:Type}{kvs:List (κ×V)}{vs:List (κ×Value)}(r:KV kvs vs):(!vs.isEmpty)= !kvs.isEmpty:=by
 cases r<;>rfl
theorem zi4{xs:List V}{its:List Value}(r:bF xs its):(!its.toArray.isEmpty)= !xs.isEmpty:=by
 cases r<;>simp
theorem tI:(sizeLine:Nat)<2^63:=by rw [Yi];decide
theorem wc0:wp8 X (fun x H Q=>∃k,xp5 X.K x H k/\Q k H):=by
 intro pins s σ H x v Q I rx h
 obtain⟨k,e,q⟩:=h
 have hl:=tI
 have hs:sizeLine=16777216:=Yi
 cases x with
 |non=>
  cases rx
  have e':k=false:=e
  subst e'
  exact truthy_none ⟨H,I,q⟩
 |bl b=>
  cases rx
  have e':k=b:=e
  subst e'
  exact Y4 ⟨H,I,q⟩
 |int i=>
  obtain⟨t,rfl⟩:=rx
  have e':k=(i !=0):=e
  subst e'
  exact PySem.P.truthy_int ⟨H,I,q⟩
 |str y=>
  obtain⟨t,rfl⟩:=rx
  obtain⟨hy,e'⟩:y.length<=sizeLine/\k=((y.length:Int) !=0):=e
  subst e'
  exact PySem.P.truthy_str (by omega) ⟨H,I.tok _,q⟩
 |byt y=>
  obtain⟨t,rfl⟩:=rx
  obtain⟨hy,e'⟩:y.size<=sizeLine/\k=((y.size:Int) !=0):=e
  subst e'
  exact PySem.W.truthy_bytes (by omega) ⟨H,I.tok _,q⟩
 | ref p=>
  cases rx
  have e':(∃xs,SqL X.K H p xs/\k= !xs.isEmpty)\/(∃xs,SqT X.K H p xs/\k= !xs.isEmpty)\/∃kvs,H p=some (.dK kvs)/\k= !kvs.isEmpty:=e
  rcases e' with ⟨xs,hx,e'⟩|⟨xs,hx,e'⟩|⟨kvs,hx,e'⟩
  ·subst e'
   obtain⟨its,r,pl,hz⟩:=I.list hx
   have hlen:=r.length
   exact wpAny_truthy_list pl.isList (by simp only [Zi];omega) ⟨H,I.tok _,by rw [zi4 r];exact q⟩
  ·subst e'
   obtain⟨its,r,pl,hz⟩:=I.tuple hx
   have hlen:=r.length
   exact truthy_tuple pl (by simp only [Zi];omega) ⟨H,I.tok _,by rw [zi4 r];exact q⟩
  ·subst e'
   obtain⟨hz,hS,vs,r,m⟩:kvs.length<=sizeLine/\(p==sysModules)=false/\∃vs,KV kvs vs/\s.heap.DictOf (eO X.prog X.w) p vs:=I.hok p _ hx
   have hlen:kvs.length=vs.length:=ZI r
   exact wpAny_truthy_dict hS m (by omega) ⟨H,I.tok _,by rw [yp8 r];exact q⟩
 |_=>exact(show False from e).elim
theorem xi2(ha:PE X a ta)(he:∀whole,isTrue a X.env whole=(do let v<-whole;standAt a.pos;holding [v] (truthy v))):
  PT X a (fun σ H Q=>ta σ H fun x H'=>∃k,xp5 X.K x H' k/\Q k H'):=⟨by
 intro pins s σ H Q I h
 exact isTrue_plain (thn (ha pins s σ H _ I h) fun v s1 ⟨x,H1,I1,r1,q1⟩=>wc0 pins s1 σ H1 x v Q I1 r1 q1) (he _)⟩
theorem yp9:OpR X (binaryOp .Add) (fun x y H Q=>∃i j,x= .str i/\y= .str j/\i.length+j.length<=sizeLine/\Q (.str (i++j)) H):=⟨by
 intro pins s σ H x y v u Q I rx ry h
 obtain⟨i,j,rfl,rfl,hz,q⟩:=h
 obtain⟨t,rfl⟩:=rx
 obtain⟨t',rfl⟩:=ry
 exact add_str (fun t' tk=>⟨.str (i++j),H,I.tok _,⟨_,rfl⟩,q⟩) hz⟩
theorem oB{x:V}{us:List Value}(r:bF [x] us):∃u,us=[u]/\cF x u:=by
 cases r with
 |cons r1 r2=>cases r2;exact⟨_,rfl,r1⟩
theorem yq0{x y:V}{us:List Value}(r:bF [x,y] us):∃u w',us=[u,w']/\cF x u/\cF y w':=by
 cases r with
 |cons r1 r2=>
  cases r2 with
  |cons r3 r4=>cases r4;exact⟨_,_,rfl,r1,r3⟩
theorem yx2(hc:X.calm=true):CallR X (.builtin "max") (fun xs H Q=>∃i j,xs=[.int i,.int j]/\Q (.int (if j>i then j else i)) H):=⟨by
 intro pins s σ H xs us Q I r h
 obtain⟨i,j,rfl,q⟩:=h
 obtain⟨u,w',rfl,⟨t,rfl⟩,⟨t',rfl⟩⟩:=yq0 r
 refine max_two_ints (I.ok.hd hc) fun h' tk k=>⟨_,H,I.kept k,?_,q⟩
 by_cases hj:j>i
 ·rw [if_pos hj,if_pos hj];exact⟨_,rfl⟩
 ·rw [if_neg hj,if_neg hj];exact⟨_,rfl⟩⟩
end
structure ObjM(h:Heap)(x dx C:Addr)(mA:tzA):Prop where
 obj:h.get? x=some (PySem.W.instObj C dx)
 ns:h.Ns1 dx mA
 ne:dx≠x
theorem yx3{h:Heap}{dx:Addr}{mA:tzA}(n:h.Ns1 dx mA):∃od,h.get? dx=some od/\∀name,PySem.W.lookIn name od=some (mA name):=by
 obtain⟨o,es,ep,ho,hd,hk,_,hm⟩:=n
 refine⟨o,ho,fun name=> ?_⟩
 have e:=hm name
 unfold nsFind findBy at e
 rw [<-Array.find?_toList] at e
 unfold PySem.W.lookIn
 rw [hd]
 dsimp only
 split
 ·rename_i y q
  rw [q] at e
  exact ZJ some e
 ·rename_i q
  rw [q] at e
  have a:es.toList.any (·.refKey)=false:=by
   rw [List.any_eq_false]
   intro y hy
   obtain⟨z,t,hkey⟩:=hk y (Array.mem_toList_iff.mp hy)
   simp [DictEntry.refKey,hkey]
  have a':¬es.toList.any (·.refKey)=true:=by rw [a];exact Za
  rw [if_neg a']
  exact ZJ some e
theorem ObjM.look{h:Heap}{x dx C:Addr}{mA:tzA}(I:ObjM h x dx C mA):∃od,PySem.W.InstAt h x (PySem.W.instObj C dx) C (some od)/\∀name,PySem.W.lookIn name od=some (mA name):=
 let ⟨od,ho,hl⟩:=yx3 I.ns
 ⟨od,⟨I.obj,rfl,rfl,ho⟩,hl⟩
section
variable{prog:Program}{w:World}{A:Around}{E:Value->Shared->Prop}{s:Shared}{K:tz0}{x dx C f:Addr}{mA:tzA}{name:Str}{v:Value}
theorem yk2{expr:Bool}{Q:Value->Shared->Prop}(X:K.In s.heap)(I:ObjM s.heap x dx C mA)(hg:PySem.W.plainGet K C name=true)(hh:PySem.W.hasDictIn K C=true)
  (ha:PySem.W.findIn K (.ref C) name=some none) (hv:mA name=some v) (hv':PySem.W.handedIn v=true) (h:Q v {s with toks:=s.toks+1}):
  wpAny (model prog w) A (getAttr (.ref x) name expr) Q E s:=by
 obtain⟨od,J,hl⟩:=I.look
 exact PySem.W.get_value X J (Xa hg).1 (PySem.W.findObj_own hh ha rfl (by rw [hl,hv])) hv' h
theorem zz9{pl:Sem Bool}{Q:Value×List Value->Shared->Prop}(X:K.In s.heap)(I:ObjM s.heap x dx C mA)(hg:PySem.W.plainGet K C name=true)
  (hf:PySem.W.findIn K (.ref C) name=some (some (.ref f))) (ht:PySem.W.isFn K (.ref f)=true) (hv:mA name=none) (h:Q (.ref f,[.ref x]) s):
  wpAny (model prog w) A (getMethod (.ref x) name pl) Q E s:=by
 obtain⟨od,J,hl⟩:=I.look
 exact PySem.W.method_fn X J (Xa hg).1 (Xa hg).2 hf (YL.mp ht) (by show(PySem.W.lookIn name od).map (·.isSome)=some false;rw [hl,hv];rfl) h
theorem xt5{ns:List Str}{Q:Unit->Shared->Prop}(X:K.In s.heap)(I:ObjM s.heap x dx C mA)
  (hs:PySem.W.findIn K (.ref C) "__setattr__"=some (some (.builtin "object.__setattr__"))) (hp:PySem.W.plainOver K C=true) (ht:PySem.W.takerIn K C name=some none) (hh:PySem.W.hasDictIn K C=true)
  (hw:PySem.Within mA ns) (hsz:ns.length<=sizeLine)
  (h:∀h',ObjM h' x dx C (fun y=>if y=name then some v else mA y)->Heap.SameBut dx s.heap h'->Q () {s with heap:=h',toks:=s.toks+2}):
  wpAny (model prog w) A (setAttr (.ref x) name v) Q E s:=by
 obtain⟨od,J,hl⟩:=I.look
 refine PySem.W.set_plain X J hs (PySem.W.osa_open (s:={s with toks:=s.toks+1}) (r:=none) X J hp ht fun b=> ?_)
 obtain⟨cd,hc,hd'⟩:=PySem.W.any_some hh
 have hx:s.heap.get? x=some ⟨.ref C,some dx,.plain,#[]⟩:=I.obj
 refine Zh (ZH (Zh (Zh (wpAny_loadPart hx (Zh (PySem.W.Looks.here (s:={s with toks:=s.toks+1}) (PySem.W.looks_clsIn X hc) ?_))))))
 rw [hd']
 refine ZH (a:=some dx) (Zh (ZH (Zh ?_)))
 refine wpAny_nsSet1 (s:={s with toks:=s.toks+1}) I.ns fun h' hn2 hs2=> ?_
 obtain⟨oD,esD,epD,hoD,hdD,hcD⟩:=hn2.count (PySem.Within.cons name v hw)
 refine Zh (wpAny_lookBehind hoD (by rw [hdD];exact pastItsLine_dict (Zu hcD (by rw [Z6];omega))) ?_)
 exact ZH (h _ ⟨(hs2.2 _ (Y7 I.ne)).trans I.obj,hn2,I.ne⟩ hs2)
theorem xi3{R:Result->Shared->Prop}{vs:List Value}{kw:List (Str×Value)}(X:K.In s.heap)(hm:PySem.W.makesIn K C=true)
  (hi:PySem.W.findIn K (.ref C) "__init__"=some (some (.ref f))) (hf:PySem.W.typeIn K (.ref f)=some (.type "function"))
  (h:codeAny (model prog w) (A.under (.builtin "type.__call__" ⟨.ref C::vs,kw⟩)) (.call (.ref f) ⟨.ref (s.heap.objs.size+1)::vs,kw⟩) (PySem.W.InitBack (s.heap.objs.size+1) R)
   {s with heap:=(s.heap.push PySem.W.emptyDict).push (PySem.W.instObj C s.heap.objs.size)}):
  codeAny (model prog w) A (.call (.ref C) ⟨vs,kw⟩) R s:=by
 obtain⟨hh,g,d,t,os⟩:=s
 exact PySem.W.make_core (PySem.W.makes_of X hm) (PySem.W.looks_findIn X hi) (fun self=>PySem.W.bind_fn X self hf) (.inl rfl) h
end
def gM(f:Str)(v:V):List (Str×V)->List (Str×V)
 |[]=>[(f,v)]
 |(g,x)::r=>if g=f then(g,v)::r else(g,x)::gM f v r
theorem ze9(f g:Str)(v:V):∀fs:List (Str×V),(gM f v fs).lookup g=if g=f then some v else fs.lookup g
 | []=>by
  show List.lookup g [(f,v)]=_
  by_cases h:g=f
  ·have hb:(g==f)=true:=YL.mpr h
   simp only [List.lookup,hb,if_pos h]
  ·have hb:(g==f)=false:=Y8.mpr h
   simp only [List.lookup,hb,if_neg h]
 | (k,x)::r=>by
  have ih:=ze9 f g v r
  rw [show gM f v ((k,x)::r)=(if k=f then(k,v)::r else(k,x)::gM f v r) from rfl]
  by_cases hk:k=f
  ·rw [if_pos hk]
   by_cases h:g=k
   ·have hb:(g==k)=true:=YL.mpr h
    simp only [List.lookup,hb,if_pos (h.trans hk)]
   ·have hb:(g==k)=false:=Y8.mpr h
    simp only [List.lookup,hb,if_neg (fun e:g=f=>h (e.trans hk.symm))]
  ·rw [if_neg hk]
   by_cases h:g=k
   ·have hb:(g==k)=true:=YL.mpr h
    simp only [List.lookup,hb,if_neg (fun e:g=f=>hk (h.symm.trans e))]
   ·have hb:(g==k)=false:=Y8.mpr h
    simp only [List.lookup,hb]
    exact ih
theorem zG(f:Str)(v:V):∀fs:List (Str×V),f∈(gM f v fs).map (·.1)/\∀g,g∈fs.map (·.1)->g∈(gM f v fs).map (·.1)
 |[]=>⟨by simp [gM],fun g h=>by simp at h⟩
 | (k,x)::r=>by
  obtain⟨i1,i2⟩:=zG f v r
  rw [show gM f v ((k,x)::r)=(if k=f then(k,v)::r else(k,x)::gM f v r) from rfl]
  by_cases hk:k=f
  ·rw [if_pos hk]
   subst hk
   exact⟨by simp,fun g h=>by simpa using h⟩
  ·rw [if_neg hk]
   refine⟨?_,fun g h=> ?_⟩
   ·rw [Z8]
    exact Z1 _ i1
   ·rw [Z8] at h|-
    rcases Z3.mp h with e|e
    ·exact Z3.mpr (.inl e)
    ·exact Z1 _ (i2 g e)
theorem zf0(f:Str)(v:V):∀fs:List (Str×V),(gM f v fs).length<=fs.length+1
 |[]=>by simp [gM]
 |(k,x)::r=>by
  have ih:=zf0 f v r
  rw [show gM f v ((k,x)::r)=(if k=f then(k,v)::r else(k,x)::gM f v r) from rfl]
  by_cases hk:k=f
  ·rw [if_pos hk,Z6,Z6];omega
  ·rw [if_neg hk,Z6,Z6];omega
theorem kH.some_of{v:V}{o:Option Value}(r:kH (some v) o):∃u,o=some u/\cF v u:=by
 cases o with
 |none=>exact(show False from r).elim
 |some u=>exact⟨u,rfl,r⟩
theorem kH.none_of{o:Option Value}(r:kH none o):o=none:=by
 cases o with
 |none=>rfl
 |some u=>exact(show False from r).elim
theorem zr9{v:V}{u:Value}(r:cF v u):PySem.W.handedIn u=true:=by
 cases v with
 |non=>cases(show u=Value.none from r);rfl
 |bl b=>cases(show u=Value.bool b from r);rfl
 |int i=>obtain⟨t,e⟩:=(show ∃t,u=Value.int i t from r);cases e;rfl
 |str x=>obtain⟨t,e⟩:=(show ∃t,u=Value.str x t from r);cases e;rfl
 |byt b=>obtain⟨t,e⟩:=(show ∃t,u=Value.bytes b t from r);cases e;rfl
 |flt b=>obtain⟨t,e⟩:=(show ∃t,u=Value.float b t from r);cases e;rfl
 |ref a=>cases(show u=Value.ref a from r);rfl
 |ty n=>cases(show u=Value.type n from r);rfl
section
variable{P:Program}{w:World}{H H':Hp}{h h':Heap}{a C dx:Addr}{fs fs':List (Str×V)}
theorem zc3(hok:HOk P w H h)(e:H a=some (.ins C dx fs)):∃mA,ObjM h a dx C mA/\(∀f,kH (fs.lookup f) (mA f))/\PySem.Within mA (fs.map (·.1))/\fs.length<=1000/\H dx=some (.own a):=by
 obtain⟨d,z,ne,ob,mA,n,r,q⟩:=(show dI P w H h a (.ins C dx fs) from hok a _ e)
 exact⟨mA,⟨ob,n,ne⟩,r,q,z,d⟩
end
structure Cls(K:tz0)(C:Addr):Prop where
 pg:PySem.W.plainGet K C Str.empty=true
 hd:PySem.W.hasDictIn K C=true
 po:PySem.W.plainOver K C=true
 sa:PySem.W.findIn K (.ref C) "__setattr__"=some (some (.builtin "object.__setattr__"))
theorem Cls.get{K:tz0}{C:Addr}(c:Cls K C)(f:Str):PySem.W.plainGet K C f=true:=c.pg
def bZ(K:tz0)(C:Addr)(f:Str):Prop:=PySem.W.findIn K (.ref C) f=some none
theorem bZ.taker{K:tz0}{C:Addr}{f:Str}(n:bZ K C f):PySem.W.takerIn K C f=some none:=by
 unfold PySem.W.takerIn
 rw [show PySem.W.findIn K (.ref C) f=some none from n]
 rfl
structure Meth(K:tz0)(C:Addr)(m:Str)(f:Addr):Prop where
 at_:PySem.W.findIn K (.ref C) m=some (some (.ref f))
 fn:PySem.W.isFn K (.ref f)=true
 kp:PySem.W.keepIn K (.ref f)=true
section
variable{X:Cx}{pins:tzB}{σ:St}{H:Hp}{s:Shared}{a C dx:Addr}{fs:List (Str×V)}{f:Str}{v:V}{A:Around}{E:Value->Shared->Prop}
theorem yq1{b:Bool}{Q:Value->Shared->Prop}(I:Inv X pins σ H s)(e:H a=some (.ins C dx fs))(c:Cls X.K C)(n:bZ X.K C f)(l:fs.lookup f=some v)
  (h:∀u s',Inv X pins σ H s'->cF v u->Q u s'):wpAny (model X.prog X.w) A (getAttr (.ref a) f b) Q E s:=by
 obtain⟨mA,O,r,_,_,_⟩:=zc3 I.hok e
 obtain⟨u,hu,ru⟩:=kH.some_of (v:=v) (o:=mA f) (by rw [<-l];exact r f)
 exact yk2 I.kIn O (c.get f) c.hd n hu (zr9 ru) (h u _ (I.tok _) ru)
theorem zi5{m:Str}{g:Addr}{pl:Sem Bool}{Q:Value×List Value->Shared->Prop}(I:Inv X pins σ H s)(e:H a=some (.ins C dx fs))(c:Cls X.K C)(k:Meth X.K C m g)(l:fs.lookup m=none)
  (h:Q (.ref g,[.ref a]) s):wpAny (model X.prog X.w) A (getMethod (.ref a) m pl) Q E s:=by
 obtain⟨mA,O,r,_,_,_⟩:=zc3 I.hok e
 have hn:mA m=none:=kH.none_of (by rw [<-l];exact r m)
 exact zz9 I.kIn O (c.get m) k.at_ k.fn hn h
theorem yq2{y:V}{u:Value}{Q:Unit->Shared->Prop}(I:Inv X pins σ H s)(e:H a=some (.ins C dx fs))(c:Cls X.K C)(n:bZ X.K C f)(hl:fs.length<1000)(ry:cF y u)
  (h:∀s',Inv X pins σ (upd H a (.ins C dx (gM f y fs))) s'->Q () s'):wpAny (model X.prog X.w) A (setAttr (.ref a) f u) Q E s:=by
 obtain⟨mA,O,r,wi,_,ho⟩:=zc3 I.hok e
 have hz:(fs.map (·.1)).length<=sizeLine:=by rw [Z7,Yi];omega
 refine xt5 I.kIn O c.sa c.po n.taker c.hd wi hz fun h' O' sb=>h _ ?_
 have hd:∃o,h'.get? dx=some o:=let ⟨o,_,_,e',_⟩:=O'.ns;⟨o,e'⟩
 refine I.write (x:=a) (e:=dx) (by rw [e];exact True.intro) (.inr ho) (fun b q hb z=>(sb.2 b hb).trans z) hd ?_
 refine⟨by rw [bE O.ne];exact ho,?_,O.ne,O'.obj,_,O'.ns,fun g=> ?_,fun g hg=> ?_⟩
 ·have:=zf0 f y fs;omega
 ·show kH ((gM f y fs).lookup g) (if g=f then some u else mA g)
  rw [ze9]
  by_cases q:g=f
  ·rw [if_pos q,if_pos q];exact ry
  ·rw [if_neg q,if_neg q];exact r g
 ·by_cases q:g=f
  ·rw [q];exact(zG f y fs).1
  ·refine(zG f y fs).2 g (wi g fun z=>hg ?_)
   show(if g=f then some u else mA g)=none
   rw [if_neg q];exact z
theorem Inv.made(I:Inv X pins σ H s):Inv X pins σ (upd (upd H s.heap.objs.size (.own (s.heap.objs.size+1))) (s.heap.objs.size+1) (.ins C s.heap.objs.size []))
  {s with heap:=(s.heap.push PySem.W.emptyDict).push (PySem.W.instObj C s.heap.objs.size)}:=by
 have e1:(s.heap.push PySem.W.emptyDict).get? s.heap.objs.size=some PySem.W.emptyDict:=Zv s.heap rfl
 have e2:((s.heap.push PySem.W.emptyDict).push (PySem.W.instObj C s.heap.objs.size)).get? (s.heap.objs.size+1)=some (PySem.W.instObj C s.heap.objs.size):=by
  have:=Zv (s.heap.push PySem.W.emptyDict) (o:=PySem.W.instObj C s.heap.objs.size) rfl
  rwa [We] at this
 have e3:(s.heap.push PySem.W.emptyDict).Ns s.heap.objs.size (fun _=>none):=⟨PySem.W.emptyDict,#[],_,e1,rfl,(fun e he=>absurd he (by simp)),fun _=>rfl⟩
 have I1:=I.laid (a:=s.heap.objs.size) (o:= .own (s.heap.objs.size+1)) (h':=s.heap.push PySem.W.emptyDict) (t':=s.toks) (fun b u q=>Zf _ q) (Zb _) ⟨_,e1⟩
 refine I1.laid (a:=s.heap.objs.size+1) (o:= .ins C s.heap.objs.size []) (t':=s.toks) (fun b u q=>Zf _ q) (Nat.le_of_eq (We _ _)) ?_
 have ne:s.heap.objs.size≠s.heap.objs.size+1:=ZG (Yn _)
 refine⟨by rw [bE ne,cV],ZK _,ne,e2,fun _=>none,(Heap.Ns1.of_empty e3).at fun o q=>Zf _ q,fun _=>True.intro,fun y hy=>absurd rfl hy⟩
theorem yk3{prog:Program}{w:World}{env:Env}{e:Expr}{f:Str}{pos:Pos}{s:Shared}{Q:Value->Shared->Prop}(hb:attributeBase e f env (eval e env)=eval e env)
  (h:wpAny (model prog w) A (eval e env) (fun o s₁=>wpAny (model prog w) A (getAttr o f true) Q E s₁) E s):wpAny (model prog w) A (eval (.Attribute e f pos) env) Q E s:=
 Attribute_any_ h (by rw [arm_eval_Attribute,hb])
end
def wq0(K:tz0)(ta:TE)(f:Str):TE:=fun σ H Q=>ta σ H fun x H1=>∃a C dx fs v,x= .ref a/\H1 a=some (.ins C dx fs)/\Cls K C/\bZ K C f/\fs.lookup f=some v/\Q v H1
def wq1(K:tz0)(ta tv:TE)(f:Str):TS:=fun D σ H=>tv σ H fun y H1=>ta σ H1 fun x H2=>∃a C dx fs,x= .ref a/\H2 a=some (.ins C dx fs)/\Cls K C/\bZ K C f/\fs.length<1000/\
 D.nx σ (upd H2 a (.ins C dx (gM f y fs)))
section
variable{X:Cx}{o e value:Expr}{f:Str}{pos pos' tpos:Pos}{ta tv:TE}
theorem wc1(he:PE X e ta)(hb:attributeBase e f X.env (eval e X.env)=eval e X.env):PE X (.Attribute e f pos) (wq0 X.K ta f):=⟨by
 intro pins s σ H Q I h
 refine yk3 hb (thn (he pins s σ H _ I h) fun u s1 ⟨x,H1,I1,rx,a,C,dx,fs,v,ex,ea,c,n,l,q⟩=> ?_)
 subst ex
 obtain rfl:u=Value.ref a:=rx
 exact yq1 I1 ea c n l fun u' s2 I2 ru=>⟨v,H1,I2,ru,q⟩⟩
theorem wc2(ha:PE X o ta)(hv:PE X value tv)(hs:swapsWith value (some (.Attribute o f pos')) pos.line X.env=pure false):PS X (.Assign [.Attribute o f pos'] value pos) (wq1 X.K ta tv f):=⟨by
 intro pins s σ H D I h
 refine plainObj_wpAny_Assign_Attribute (thn (hv pins s σ H _ I h) fun u s1 ⟨y,H1,I1,ry,q⟩=>thn (ha pins s1 σ H1 _ I1 q) fun ov s2 ⟨x,H2,I2,rx,a,C,dx,fs,ex,ea,c,n,l,q2⟩=> ?_) hs
 subst ex
 obtain rfl:ov=Value.ref a:=rx
 exact yq2 I2 ea c n l ry fun s3 I3=>⟨σ,_,I3,q2⟩⟩
end
section
variable{X:Cx}{pins:tzB}{σ:St}{H:Hp}{s:Shared}{A:Around}{E:Value->Shared->Prop}{Q:Value->Shared->Prop}{c:Value}{b:Bool}
inductive TyOf(K:tz0)(H:Hp):V->Value->Prop where
 |non:TyOf K H .non (.type "NoneType")
 |bl (x:Bool):TyOf K H (.bl x) (.type "bool")
 |int (i:Int):TyOf K H (.int i) (.type "int")
 |str (x:Str):TyOf K H (.str x) (.type "str")
 |flt (x:UInt64):TyOf K H (.flt x) (.type "float")
 |lst {a:Addr} {xs:List V} (e:H a=some (.lst xs)):TyOf K H (.ref a) (.type "list")
 |frz {a:Addr} {o:Obj} {xs:List V} (e:H a=some (.frz o (.lst xs))):TyOf K H (.ref a) (.type "list")
 |tup {a:Addr} {xs:List V} (e:H a=some (.tup xs)):TyOf K H (.ref a) (.type "tuple")
 |dK {a:Addr} {kvs:List (Key×V)} (e:H a=some (.dK kvs)):TyOf K H (.ref a) (.type "dict")
 |dT {a:Addr} {kvs:List (List Key×V)} (e:H a=some (.dT kvs)):TyOf K H (.ref a) (.type "dict")
 | ins {a C dx:Addr} {fs:List (Str×V)} (e:H a=some (.ins C dx fs)) (cl:Cls K C) (ha:PySem.W.findIn K (.ref C) "__class__"=some (some (.builtin "object.__class__")))
   (hn:PySem.W.specialIn K (.builtin "object.__class__") "__get__"=some (some (.builtin "getset_descriptor.__get__"))) (htk:PySem.W.takesIn K (.builtin "object.__class__")=some true)
   (hm:PySem.W.mroIn K C (.type "object")=some true):TyOf K H (.ref a) (.ref C)
theorem yx4{x:V}{u t:Value}(I:Inv X pins σ H s)(rx:cF x u)(ty:TyOf X.K H x t)(e:PySem.W.kitOne X.K t c=some b)(h:∀tk,Q (.bool b) {s with toks:=tk}):
  wpAny (model X.prog X.w) A (call (.builtin "isinstance") [u,c]) Q E s:=by
 cases ty with
 |non=>cases(show u=Value.none from rx);exact ZM PySem.W.kitx_none I.kIn True.intro e (fun z=>nomatch z) h
 |bl y=>cases(show u=Value.bool y from rx);exact ZM PySem.W.kitx_bool I.kIn True.intro e (fun z=>nomatch z) h
 |int i=>obtain⟨t,q⟩:=(show ∃t,u=Value.int i t from rx);cases q;exact ZM PySem.W.kitx_int I.kIn True.intro e (fun z=>nomatch z) h
 |str y=>obtain⟨t,q⟩:=(show ∃t,u=Value.str y t from rx);cases q;exact ZM PySem.W.kitx_str I.kIn True.intro e (fun z=>nomatch z) h
 |flt y=>obtain⟨t,q⟩:=(show ∃t,u=Value.float y t from rx);cases q;exact ZM PySem.W.kitx_float I.kIn True.intro e (fun z=>nomatch z) h
 | @lst a xs ea=>
  cases(show u=Value.ref a from rx)
  obtain⟨_,_,n,_,h1⟩:=(show dI X.prog X.w H s.heap a (.lst xs) from I.hok a _ ea)
  exact ZM Ws I.kIn ⟨_,h1,rfl⟩ e (fun z=>nomatch z) h
 | @frz a ob xs ea=>
  cases(show u=Value.ref a from rx)
  obtain⟨_,_,_,n,_,h1⟩:=(show dI X.prog X.w H s.heap a (.frz ob (.lst xs)) from I.hok a _ ea)
  exact ZM Ws I.kIn ⟨_,h1,rfl⟩ e (fun z=>nomatch z) h
 | @tup a xs ea=>
  cases(show u=Value.ref a from rx)
  obtain⟨_,_,_,p⟩:=(show dI X.prog X.w H s.heap a (.tup xs) from I.hok a _ ea)
  obtain⟨o,h1,h2,_⟩:=p
  exact ZM Wl I.kIn ⟨o,h1,h2⟩ e (fun z=>nomatch z) h
 | @dK a kvs ea=>
  cases(show u=Value.ref a from rx)
  obtain⟨_,_,vs,_,p⟩:=(show dI X.prog X.w H s.heap a (.dK kvs) from I.hok a _ ea)
  obtain⟨o,es,ep,h1,h2,_⟩:=p
  exact ZM Wt I.kIn ⟨o,h1,h2.1⟩ e (fun z=>nomatch z) h
 | @dT a kvs ea=>
  cases(show u=Value.ref a from rx)
  obtain⟨_,_,xs,_,o,es,ep,h1,h2,_⟩:=(show dI X.prog X.w H s.heap a (.dT kvs) from I.hok a _ ea)
  exact ZM Wt I.kIn ⟨o,h1,h2.1⟩ e (fun z=>nomatch z) h
 | @ins a C dx fs ea cl ha hn htk hm=>
  cases(show u=Value.ref a from rx)
  obtain⟨mA,O,_⟩:=zc3 I.hok ea
  obtain⟨od,J,_⟩:=O.look
  exact ZM (PySem.W.kitx_own (cl.get _) cl.hd ha hn htk hm) I.kIn J e (fun z=>nomatch z) h
end
structure Room(k:Nat)(A:Around):Prop where
 hd:A.handled=none
 dp:A.depth+3*k+5<recursionLimit
 un:A.units+16*k+200<cLine
theorem Room.mono{j k:Nat}{A:Around}(r:Room k A)(h:j<=k):Room j A:=⟨r.hd,by have:=r.dp;omega,by have:=r.un;omega⟩
theorem Room.deeper{k:Nat}{A:Around}(r:Room (k+1) A)(env:Env):Room k (A.deeper env):=
 ⟨r.hd,by have:=r.dp;show A.depth+1+3*k+5<_;omega,by have:=r.un;show A.units+3+16*k+200<_;omega⟩
theorem yq3{A:Around}{C:Addr}{us:List Value}{kw:List (Str×Value)}:(A.under (.builtin "type.__call__" ⟨.ref C::us,kw⟩)).depth=A.depth+1:=by
 first|rfl|simp [Around.under,Code.weight,Code.isCreation,Code.isGuard,Code.isCaller,Code.frames,Code.isFrame,guardIds]
theorem yq4{A:Around}{C:Addr}{us:List Value}{kw:List (Str×Value)}:(A.under (.builtin "type.__call__" ⟨.ref C::us,kw⟩)).units=A.units+1:=by
 first|rfl|simp [Around.under,Code.cUnits,Code.frames,Code.isFrame]
theorem Room.make{k:Nat}{A:Around}(r:Room (k+1) A)(C:Addr)(us:List Value)(kw:List (Str×Value)):Room k (A.under (.builtin "type.__call__" ⟨.ref C::us,kw⟩)):=
 ⟨r.hd,by have:=r.dp;rw [yq3];omega,by have:=r.un;rw [yq4];omega⟩
theorem Room.depth{k:Nat}{A:Around}(r:Room k A):A.depth<recursionLimit:=by have:=r.dp;omega
theorem Room.units{k:Nat}{A:Around}(r:Room k A):A.units+64<cLine:=by have:=r.un;omega
theorem Room.units0{k:Nat}{A:Around}(r:Room k A):A.units<cLine:=by have:=r.un;omega
def yu6:TA:=fun _ H Q=>Q [] H
def wm8(ta:TE)(tr:TA):TA:=fun σ H Q=>ta σ H fun x H1=>tr σ H1 fun xs H2=>Q (x::xs) H2
abbrev StE(e:PySem.Expr)(es:List PySem.Expr)(X:Cx):Prop:=starEach (e::es) X.env=(false,eval e X.env)::starEach es X.env
section
variable{X:Cx}{e:Expr}{es:List Expr}{te:TE}{t:TA}{pos:Pos}
theorem oC:PA X [] yu6:=⟨fun _ _ _ _ H Q I h=>X3 ⟨[],H,I,.nil,h⟩⟩
theorem fV(ha:PE X e te)(hr:PA X es t)(hs:StE e es X:=by rfl):PA X (e::es) (wm8 te t):=⟨by
 intro pos pins s σ H Q I h
 rw [hs]
 show wpAny _ _ (spliced ((false,eval e X.env)::backTo pos (starEach es X.env))) _ _ s
 refine YV (thn (ha pins s σ H _ I h) fun u s1 ⟨x,H1,I1,r1,q1⟩=> ?_)
 exact thn (hr pos pins s1 σ H1 _ I1 q1) fun us s2 ⟨xs,H2,I2,r2,q2⟩=>⟨x::xs,H2,I2,.cons r1 r2,q2⟩⟩
def wq2(t:TA):TE:=fun σ H Q=>t σ H fun xs H1=>xs.length<=sizeLine/\∀p,H1 p=none->Q (.ref p) (upd H1 p (.tup xs))
def wq3(t:TA):TE:=fun σ H Q=>t σ H fun xs H1=>xs.length<=sizeLine/\∀p,H1 p=none->Q (.ref p) (upd H1 p (.lst xs))
theorem wc3{x1}(h:PA X es t):PE X (.Tuple es x1 pos) (wq2 t):=⟨by
 intro pins s σ H Q I hq
 refine wpAny_Tuple_spliced (thn (h pos pins s σ H _ I hq) fun us s1 ⟨xs,H1,I1,r,z,q⟩=>⟨by rw [<-r.length];exact z,?_⟩)
 have hf:H1 s1.heap.objs.size=none:=I1.hok.fresh (Zb _)
 refine⟨.ref s1.heap.objs.size,upd H1 s1.heap.objs.size (.tup xs),I1.laid (t':=s1.toks) (fun b u e=>Zf _ e) (Zb _) ?_,rfl,q _ hf⟩
 exact⟨z,us,r,⟨_,Zv _ rfl,rfl,_,rfl⟩⟩⟩
theorem wc4(h:PA X es t):PE X (.List es pos) (wq3 t):=⟨by
 intro pins s σ H Q I hq
 refine wpAny_List_spliced (thn (h pos pins s σ H _ I hq) fun us s1 ⟨xs,H1,I1,r,z,q⟩=>⟨by rw [<-r.length];exact z,?_⟩)
 have hf:H1 s1.heap.objs.size=none:=I1.hok.fresh (Zb _)
 refine⟨.ref s1.heap.objs.size,upd H1 s1.heap.objs.size (.lst xs),I1.laid (t':=s1.toks) (fun b u e=>Zf _ e) (Zb _) ?_,rfl,q _ hf⟩
 exact⟨z,us,0,r,Zv _ rfl⟩⟩
end
abbrev Sp:=List V->Hp->VK->XK->Prop
abbrev CXT:=List Env->Hp->Shared->XK->Value->Shared->Prop
structure Env0(P:Program)(w:World)(K:tz0)(mg:tzA)(base:Heap)(A:Around)(outer:List Env)(s:Shared)(H:Hp):Prop where
 frames:A.frames=some outer
 mod:Mod K mg base
 bs:∀b o,base.get? b=some o->s.heap.get? b=some o/\H b=none
 bsz:base.objs.size<=s.heap.objs.size
 funs:s.heap.FunFrames base outer
 frf:∀b∈frs outer,H b=none
 hok:HOk P w H s.heap
 bare:AllBare s.gens
def CE(outer:List Env)(P:Program)(w:World)(H:Hp)(s:Shared)(Q:VK)(u:Value)(s':Shared):Prop:=
 ∃v H',s'.os=s.os/\AllBare s'.gens/\Un (frs outer) [] H H' s.heap s'.heap/\HOk P w H' s'.heap/\cF v u/\Q v H'
def CR(CX:CXT)(outer:List Env)(P:Program)(w:World)(H:Hp)(s:Shared)(Q:VK)(E:XK)(r:Result)(s':Shared):Prop:=
 match r with
 | .ok (.ret u)=>CE outer P w H s Q u s'
 | .ok _=>False
 | .error e=>CX outer H s E e s'
structure FnOk(P:Program)(w:World)(K:tz0)(mg:tzA)(base:Heap)(CX:CXT)(k:Nat)(f:Addr)(fd:FuncData)(ps:List Str)(sp:Sp):Prop where
 len:∀vs H Q E,sp vs H Q E->vs.length=ps.length
 run:∀(A:Around) (outer:List Env) (s:Shared) (H:Hp) (args:Args) (us:List Value) (vs:List V) (Q:VK) (E:XK),Room k A->Env0 P w K mg base A outer s H->BindsTo s fd args (ps.zip us)->bF vs us->sp vs H Q E->
  codeAny (model P w) A (.call (.ref f) args) (CR CX outer P w H s Q E) s
theorem FnOk.mono{P:Program}{w:World}{K:tz0}{mg:tzA}{base:Heap}{CX:CXT}{j k:Nat}{f:Addr}{fd:FuncData}{ps:List Str}{sp:Sp}(F:FnOk P w K mg base CX j f fd ps sp)(h:j<=k):
  FnOk P w K mg base CX k f fd ps sp:=⟨F.len,fun A outer s H args us vs Q E hr=>F.run A outer s H args us vs Q E (hr.mono h)⟩
theorem FnOk.imp{P:Program}{w:World}{K:tz0}{mg:tzA}{base:Heap}{CX:CXT}{k:Nat}{f:Addr}{fd:FuncData}{ps:List Str}{sp sp':Sp}(F:FnOk P w K mg base CX k f fd ps sp)
  (h:∀vs H Q E,sp' vs H Q E->sp vs H Q E):FnOk P w K mg base CX k f fd ps sp':=
 ⟨fun vs H Q E q=>F.len vs H Q E (h _ _ _ _ q),fun A outer s H args us vs Q E hr he hb hv hs=>F.run A outer s H args us vs Q E hr he hb hv (h _ _ _ _ hs)⟩
theorem Env0.make{P:Program}{w:World}{K:tz0}{mg:tzA}{base:Heap}{A:Around}{outer:List Env}{s:Shared}{H:Hp}(e:Env0 P w K mg base A outer s H)(C:Addr)(us:List Value)(kw:List (Str×Value)):
  Env0 P w K mg base (A.under (.builtin "type.__call__" ⟨.ref C::us,kw⟩)) outer s H:=⟨by first|exact e.frames|(simpa [Around.under,Code.envs,Code.isFrame,pushEnvs] using e.frames),e.mod,e.bs,e.bsz,e.funs,e.frf,e.hok,e.bare⟩
section
variable{X:Cx}{pins:tzB}{σ:St}{H:Hp}{s s':Shared}
theorem Inv.env0(I:Inv X pins σ H s):Env0 X.prog X.w X.K X.mg X.base X.A X.stack s H:=
 ⟨I.ok.frames,I.ok.mod,I.bs,Zu I.ok.bsz I.sz,I.stack,I.stkFree,I.hok,I.bare⟩
theorem Inv.after{Q:VK}{u:Value}(I:Inv X pins σ H s)(h:CE X.stack X.prog X.w H s Q u s'):EP X pins σ Q u s':=by
 obtain⟨v,H',os,bare,un,hok,r,q⟩:=h
 obtain⟨hh,g,d,t,os'⟩:=s'
 obtain rfl:os'=s.os:=os
 exact⟨v,H',I.call (h':=hh) (g':=g) (d':=d) (t':=t) (ch:=[]) un hok bare (fun b z=>absurd z (by simp)),r,q⟩
end
def zy0(sp:Sp)(dvs:List V)(E:XK)(t:TA):TE:=fun σ H Q=>t σ H fun vs H1=>sp (vs++dvs) H1 Q E
def xs2(C:Addr)(m:Str)(sp:Sp)(dvs:List V)(E:XK)(ta:TE)(t:TA):TE:=fun σ H Q=>ta σ H fun x H1=>∃a dx fs,x= .ref a/\H1 a=some (.ins C dx fs)/\fs.lookup m=none/\
 t σ H1 fun vs H2=>sp (x::(vs++dvs)) H2 Q E
def wm9(C:Addr)(sp:Sp)(dvs:List V)(E:XK)(t:TA):TE:=fun σ H Q=>t σ H fun vs H1=>∀x dx,H1 x=none->H1 dx=none->dx≠x->
 sp (.ref x::(vs++dvs)) (upd (upd H1 dx (.own x)) x (.ins C dx [])) (fun v H2=>v= .non/\Q (.ref x) H2) E
def lI(K:tz0)(fd:FuncData)(ps:List Str)(ds:List Value):Prop:=
 ∀(s:Shared) (us:List Value),K.In s.heap->(us++ds).length=ps.length->BindsTo s fd ⟨us,[]⟩ (ps.zip (us++ds))
theorem lI.all{K:tz0}{fd:FuncData}{ps:List Str}(h:∀us:List Value,us.length=ps.length->bindArgs fd ⟨us,[]⟩=pure (ps.zip us)):lI K fd ps []:=fun s us _ hl=>by
 rw [Zl] at hl|-
 exact .of_eq (h us hl)
def mZ(CX:CXT)(X:Cx)(E:XK):Prop:=∀(pins:tzB) (σ:St) (H:Hp) (s:Shared) (e:Value) (s':Shared),Inv X pins σ H s->CX X.stack H s E e s'->X.xe e s'
abbrev BkE(pos:PySem.Pos)(es:List PySem.Expr)(X:Cx):Prop:=(backTo pos (starEach es X.env)).any (·.1)=false
section
variable{X:Cx}{CX:CXT}{k:Nat}{f C:Addr}{fd:FuncData}{ps:List Str}{sp:Sp}{dvs:List V}{ds:List Value}{E:XK}{x m:Str}{p pos apos:Pos}{e o:Expr}{es:List Expr}{ta:TE}{t:TA}
theorem zH{pins:tzB}{σ:St}{H:Hp}{s:Shared}{Q:VK}{us:List Value}{vs:List V}(F:FnOk X.prog X.w X.K X.mg X.base CX k f fd ps sp)(hr:Room k X.A)(hb:lI X.K fd ps ds)(hd:bF dvs ds)(hx:mZ CX X E)
  (I:Inv X pins σ H s) (r:bF vs us) (h:sp (vs++dvs) H Q E):wpAny (model X.prog X.w) X.A (call (.ref f) us) (EP X pins σ Q) X.xe s:=by
 have r2:bF (vs++dvs) (us++ds):=r.append hd
 have hl:(us++ds).length=ps.length:=by rw [<-r2.length];exact F.len _ _ _ _ h
 refine wpAny_call (Xb (F.run X.A X.stack s H ⟨us,[]⟩ (us++ds) (vs++dvs) Q E hr I.env0 (hb s us I.kIn hl) r2 h) fun r s' hq=> ?_)
 cases r with
 |error e=>exact hx pins σ H s e s' I hq
 |ok fl=>
  cases fl with
  |ret u=>exact I.after hq
  |next=>exact False.elim hq
  |brk=>exact False.elim hq
  |cont=>exact False.elim hq
theorem yk4(F:FnOk X.prog X.w X.K X.mg X.base CX k f fd ps sp)(hr:Room k X.A)(hg:Gl X x)(hm:X.mg x=some (.ref f))(hk:PySem.W.keepIn X.K (.ref f)=true)(hb:lI X.K fd ps ds)(hd:bF dvs ds)(hx:mZ CX X E)
  (ha:PA X (e::es) t) (hdb:NDb x:=by decide) (he:StE e es X:=by rfl) (hpl:BkE pos es X:=by rfl):
  PE X (.Call (.Name x p) (e::es) [] pos) (zy0 sp dvs E t):=⟨by
 intro pins s σ H Q I h
 refine Y3 (sR I hg hm ?_ hdb)
 refine Ys (h₀:=X.base) I.ok.mod.kin hk (thn (ha pos pins s σ H _ I h) fun us s1 ⟨vs,H1,I1,r,q⟩=>⟨I1.kIn,?_⟩) he hpl
 exact zH F hr hb hd hx I1 r q⟩
theorem xi4(F:FnOk X.prog X.w X.K X.mg X.base CX k f fd ps sp)(hr:Room k X.A)(hg:Gl X x)(hm:X.mg x=some (.ref f))(hk:PySem.W.keepIn X.K (.ref f)=true)(hb:lI X.K fd ps ds)(hd:bF dvs ds)(hx:mZ CX X E)
  (hdb:NDb x:=by decide):PE X (.Call (.Name x p) [] [] pos) (zy0 sp dvs E yu6):=⟨by
 intro pins s σ H Q I h
 refine Y3 (sR I hg hm ?_ hdb)
 exact Wh I.kIn hk (zH (us:=[]) F hr hb hd hx I .nil h)⟩
theorem xt6{pl:Sem Bool}(he:PE X o ta)(c:Cls X.K C)(hm:Meth X.K C m f)(F:FnOk X.prog X.w X.K X.mg X.base CX k f fd ps sp)(hr:Room k X.A)(hb:lI X.K fd ps ds)(hd:bF dvs ds)(hx:mZ CX X E)(ha:PA X (e::es) t)
  (hst:StE e es X:=by rfl) (hpl:BkE pos es X:=by rfl)
  (ht:eval (.Call (.Attribute o m apos) (e::es) [] pos) X.env=(do
   let ov<-eval o X.env
   standAt apos.atName
   let (f,first)<-holding [ov] (getMethod ov m pl)
   callWith pos f first (backTo pos (starEach (e::es) X.env)) (backToKw pos (keywordEach [] X.env))):=by rfl):
  PE X (.Call (.Attribute o m apos) (e::es) [] pos) (xs2 C m sp dvs E ta t):=⟨by
 intro pins s σ H Q I h
 refine X4 (pl:=pl) (thn (he pins s σ H _ I h) fun u s1 ⟨x,H1,I1,rx,a,dx,fs,ex,ea,l,q⟩=> ?_) ht
 subst ex
 obtain rfl:u=Value.ref a:=rx
 refine zi5 I1 ea c hm l ?_
 refine Ys (first:=[.ref a]) (h₀:=X.base) I.ok.mod.kin hm.kp (thn (ha pos pins s1 σ H1 _ I1 q) fun us s2 ⟨vs,H2,I2,r,q2⟩=>⟨I2.kIn,?_⟩) hst hpl
 exact zH (us:= .ref a::us) (vs:= .ref a::vs) F hr hb hd hx I2 (.cons rfl r) q2⟩
theorem xi5{pl:Sem Bool}(he:PE X o ta)(c:Cls X.K C)(hm:Meth X.K C m f)(F:FnOk X.prog X.w X.K X.mg X.base CX k f fd ps sp)(hr:Room k X.A)(hb:lI X.K fd ps ds)(hd:bF dvs ds)(hx:mZ CX X E)
  (ht:eval (.Call (.Attribute o m apos) [] [] pos) X.env=(do
   let ov<-eval o X.env
   standAt apos.atName
   let (f,first)<-holding [ov] (getMethod ov m pl)
   callWith pos f first (backTo pos (starEach [] X.env)) (backToKw pos (keywordEach [] X.env))):=by rfl):
  PE X (.Call (.Attribute o m apos) [] [] pos) (xs2 C m sp dvs E ta yu6):=⟨by
 intro pins s σ H Q I h
 refine X4 (pl:=pl) (thn (he pins s σ H _ I h) fun u s1 ⟨x,H1,I1,rx,a,dx,fs,ex,ea,l,q⟩=> ?_) ht
 subst ex
 obtain rfl:u=Value.ref a:=rx
 refine zi5 I1 ea c hm l ?_
 exact Wh (first:=[.ref a]) I1.kIn hm.kp (zH (us:=[.ref a]) (vs:=[.ref a]) F hr hb hd hx I1 (.cons rfl .nil) q)⟩
structure Mk(K:tz0)(C f:Addr):Prop where
 makes:PySem.W.makesIn K C=true
 init:PySem.W.findIn K (.ref C) "__init__"=some (some (.ref f))
 fn:PySem.W.isFn K (.ref f)=true
 kp:PySem.W.keepIn K (.ref C)=true
theorem xi6{pins:tzB}{σ:St}{H:Hp}{s:Shared}{Q:VK}{us:List Value}{vs:List V}(M:Mk X.K C f)(F:FnOk X.prog X.w X.K X.mg X.base CX k f fd ps sp)(hr:Room (k+1) X.A)(hb:lI X.K fd ps ds)(hd:bF dvs ds)
  (hx:mZ CX X E) (I:Inv X pins σ H s) (r:bF vs us)
  (h:∀x dx,H x=none->H dx=none->dx≠x->sp (.ref x::(vs++dvs)) (upd (upd H dx (.own x)) x (.ins C dx [])) (fun v H2=>v= .non/\Q (.ref x) H2) E):
  wpAny (model X.prog X.w) X.A (call (.ref C) us) (EP X pins σ Q) X.xe s:=by
 have hq:=h (s.heap.objs.size+1) s.heap.objs.size (I.hok.fresh (Nat.le_succ _)) (I.hok.fresh (Zb _)) (ZG (Yn _))
 have I2:=Inv.made (C:=C) I
 have r2:bF (V.ref (s.heap.objs.size+1)::(vs++dvs)) (Value.ref (s.heap.objs.size+1)::(us++ds)):= .cons rfl (r.append hd)
 have hl:(Value.ref (s.heap.objs.size+1)::us++ds).length=ps.length:=by
  have e:=r2.length
  rw [F.len _ _ _ _ hq] at e
  exact e.symm
 refine wpAny_call (xi3 (f:=f) I.kIn M.makes M.init (YL.mp M.fn) (Xb (F.run _ X.stack _ _ ⟨Value.ref (s.heap.objs.size+1)::us,[]⟩ (Value.ref (s.heap.objs.size+1)::(us++ds)) _ _ E (hr.make C us [])
  (I2.env0.make C us []) (hb _ (Value.ref (s.heap.objs.size+1)::us) I2.kIn hl) r2 hq) fun r s' hq'=> ?_))
 cases r with
 |error e=>exact hx pins σ _ _ e s' I2 hq'
 | ok fl=>
  cases fl with
  |ret u=>
   obtain⟨v,H',I3,rv,ev,q3⟩:=I2.after hq'
   subst ev
   exact⟨rv,⟨V.ref (s.heap.objs.size+1),H',I3,rfl,q3⟩⟩
  |next=>exact False.elim hq'
  |brk=>exact False.elim hq'
  |cont=>exact False.elim hq'
theorem xt7(M:Mk X.K C f)(F:FnOk X.prog X.w X.K X.mg X.base CX k f fd ps sp)(hr:Room (k+1) X.A)(hg:Gl X x)(hm:X.mg x=some (.ref C))(hb:lI X.K fd ps ds)(hd:bF dvs ds)(hx:mZ CX X E)
  (ha:PA X (e::es) t) (hdb:NDb x:=by decide) (he:StE e es X:=by rfl) (hpl:BkE pos es X:=by rfl):
  PE X (.Call (.Name x p) (e::es) [] pos) (wm9 C sp dvs E t):=⟨by
 intro pins s σ H Q I h
 refine Y3 (sR I hg hm ?_ hdb)
 refine Ys (h₀:=X.base) I.ok.mod.kin M.kp (thn (ha pos pins s σ H _ I h) fun us s1 ⟨vs,H1,I1,r,q⟩=>⟨I1.kIn,?_⟩) he hpl
 exact xi6 M F hr hb hd hx I1 r q⟩
end
structure FnScope(N P:List Str)(sc:Scope):Prop where
 kind:sc.kind= .function
 co:sc.isCoroutine=false
 gen:sc.isGenerator=false
 nd:N.Nodup
 pre:N.take P.length=P
 par:∀x∈P,sc.names.lookup x=some .local\/sc.names.lookup x=some .cell
 nofree:∀y∈sc.names,y.2≠ .free
theorem zs0{kindOf:Str->Option NameKind}{x:Str}:∀{binds:List (Str×Value)} {m:tzA},(∀v,(x,v)∉binds)->bindL kindOf binds m x=m x
 |[],_,_=>rfl
 | (n,v)::r,m,h=>by
  unfold bindL
  rw [zs0 fun w hw=>h w (Z1 _ hw)]
  split
  ·have:x≠n:=by rintro rfl;exact h v Z0
   simp [this]
  ·rfl
theorem zs1{kindOf:Str->Option NameKind}{x:Str}:∀{binds:List (Str×Value)} {m:tzA},(∀v,(x,v)∉binds)->bindC kindOf binds m x=m x
 |[],_,_=>rfl
 | (n,v)::r,m,h=>by
  unfold bindC
  rw [zs1 fun w hw=>h w (Z1 _ hw)]
  split
  ·rfl
  ·have:x≠n:=by rintro rfl;exact h v Z0
   simp [this]
theorem zs2{kindOf:Str->Option NameKind}{x:Str}{v:Value}:∀{P:List Str} {vs:List Value} {i:Nat} {m:tzA},P.Nodup->P[i]? =some x->vs[i]? =some v->kindOf x=some .local->
  bindL kindOf (P.zip vs) m x=some v
 |[],_,_,_,_,h,_,_=>by simp at h
 |_::_,[],_,_,_,_,h,_=>by simp at h
 |p::P,w::vs,0,m,nd,h1,h2,hk=>by
  simp at h1 h2;subst h1;subst h2
  show bindL kindOf ((p,w)::P.zip vs) m p=_
  unfold bindL
  rw [zs0 fun v hv=>(Zs.mp nd).1 (Xz hv).1,if_pos hk]
  simp
 |p::P,w::vs,i+1,m,nd,h1,h2,hk=>by
  show bindL kindOf ((p,w)::P.zip vs) m x=_
  unfold bindL
  exact zs2 (i:=i) (Zs.mp nd).2 (by simpa using h1) (by simpa using h2) hk
theorem zs3{kindOf:Str->Option NameKind}{x:Str}{v:Value}:∀{P:List Str} {vs:List Value} {i:Nat} {m:tzA},P.Nodup->P[i]? =some x->vs[i]? =some v->kindOf x≠some .local->
  bindC kindOf (P.zip vs) m x=some v
 |[],_,_,_,_,h,_,_=>by simp at h
 |_::_,[],_,_,_,_,h,_=>by simp at h
 |p::P,w::vs,0,m,nd,h1,h2,hk=>by
  simp at h1 h2;subst h1;subst h2
  show bindC kindOf ((p,w)::P.zip vs) m p=_
  unfold bindC
  rw [zs1 fun v hv=>(Zs.mp nd).1 (Xz hv).1,if_neg hk]
  simp
 |p::P,w::vs,i+1,m,nd,h1,h2,hk=>by
  show bindC kindOf ((p,w)::P.zip vs) m x=_
  unfold bindC
  exact zs3 (i:=i) (Zs.mp nd).2 (by simpa using h1) (by simpa using h2) hk
def start(N:List Str)(vs:List V):St:=vs.map some++List.replicate (N.length-vs.length) none
def iS(CX:CXT)(P:Program)(w:World)(K:tz0)(mg:tzA)(base:Heap)(N:List Str)(qual:Str)(scope:Scope)(f:Addr)(cd:Value)(A:Around)(outer:List Env)(s:Shared)(H:Hp)(E:XK):Cx where
 prog:=P
 w:=w
 K:=K
 mg:=mg
 base:=base
 A:=A.deeper (envOfC qual scope s.heap.objs.size f cd)
 N:=N
 s₀:=s
 H₀:=H
 env:=envOfC qual scope s.heap.objs.size f cd
 outer:=outer
 stack:=envOfC qual scope s.heap.objs.size f cd::outer
 ex:=[]
 calm:=true
 fn:=fun _=>true
 pn:=[]
 xe:=fun e s'=>wpAny (model P w) (A.deeper (envOfC qual scope s.heap.objs.size f cd)) (leaving (envOfC qual scope s.heap.objs.size f cd) e) (fun _ s''=>CX outer H s E e s'') (fun e' s''=>CX outer H s E e' s'') s'
theorem ya0{sc:Scope}{n:Nat}{x:Str}(h:sc.names.lookup x=some .cell):∃c,(cellsFrom n sc.names []).lookup x=some c:=by
 have q:=XZ sc.names n [] (.inl h)
 exact Option.isSome_iff_exists.mp q
theorem yx5{CX:CXT}{P:Program}{w:World}{K:tz0}{mg:tzA}{base:Heap}{N ps:List Str}{qual:Str}{scope:Scope}{f:Addr}{cd:Value}{A:Around}{outer:List Env}{s s1:Shared}{H:Hp}{E:XK}{us:List Value}{vs:List V}
  (S:FnScope N ps scope) (hd:A.handled=none) (e0:Env0 P w K mg base A outer s H) (hl:vs.length=ps.length) (r:bF vs us)
  (x:InCallC s s.heap.objs.size (bindL (envOfC qual scope s.heap.objs.size f cd).kindOf (ps.zip us) fun _=>none) (cellsFrom (s.heap.objs.size+1) scope.names []) (bindC (envOfC qual scope s.heap.objs.size f cd).kindOf (ps.zip us) fun _=>none) s1):
  Inv (iS CX P w K mg base N qual scope f cd A outer s H E) [] (start N vs) H s1:=by
 have hpl:ps.length<=N.length:=by have:=ZJ List.length S.pre;rw [YE] at this;omega
 obtain⟨h1,tk,rfl,hk⟩:=x.done
 have noA:∀b:Addr,b∉(iS CX P w K mg base N qual scope f cd A outer s H E).ex:=fun b z=>absurd (show b∈([]:List Addr) from z) (by simp)
 refine⟨⟨e0.mod,S.kind,rfl,rfl,Zb _,fun y z c h1 h2=> ?_,fun y hy=> ?_,fun y c _ h=> ?_,fun _=>hd,Around.frames_deeper e0.frames,.inr ⟨rfl,rfl⟩,fun b z=>absurd z (noA b),e0.bs,e0.bsz,fun b _ _=>noA b,fun b z=>absurd z (noA b),e0.funs,e0.frf⟩,
  rfl,e0.bare,Un.kept hk,⟨_,x.toInCall.ns,fun i y v h1 h2 h3=> ?_⟩,fun y c h=>⟨_,x.cell y c h⟩,e0.hok.fresh (Zb _),fun y c h=> ?_,fun p hp=>absurd (show p∈([]:tzB) from hp) (by simp),e0.hok.kept hk,?_⟩
 ·exact name_of_addr x.apart (Yb h1) (Yb h2)
 ·have hy:scope.names.lookup y=some .cell\/scope.names.lookup y=some .free:=hy
  rcases hy with hy|hy
  ·exact ya0 hy
  ·exact absurd rfl (S.nofree _ (Yb hy))
 ·exact Yw (x.above y c (Yb h))
 ·have hi:i<vs.length:=by
   unfold start at h2
   by_cases hi:i<vs.length
   ·exact hi
   ·rw [YM (by simpa using hi)] at h2
    rw [Yu] at h2
    split at h2<;>cases h2
  have ha:vs[i]? =some v:=by
   unfold start at h2
   rw [ZO (by simpa using hi),Zd] at h2
   cases e:vs[i]? with
   |none=>rw [e] at h2;cases h2
   |some a=>rw [e] at h2;cases h2;rfl
  obtain⟨u,hu,rv⟩:=r.get ha
  have hp:ps[i]? =some y:=by
   rw [<-S.pre,List.getElem?_take_of_lt (by omega)];exact h1
  have ndP:ps.Nodup:=by rw [<-S.pre];exact S.nd.sublist (List.take_sublist _ _)
  refine⟨u,rv,?_⟩
  rcases S.par y (ZL hp) with k|k
  ·exact .inl ⟨k,zs2 ndP hp hu k⟩
  ·obtain⟨c,e⟩:=ya0 (n:=s.heap.objs.size+1) k
   refine .inr ⟨.inl k,c,e,?_⟩
   have q:=x.cell y c e
   rw [zs3 ndP hp hu (by show scope.names.lookup y≠_;rw [k];decide)] at q
   exact q
 ·exact e0.hok.fresh (Yw (x.above y c (Yb h)))
 ·unfold start
  show _=N.length
  rw [Z5,Z7,X5]
  omega
theorem xq9{CX:CXT}{P:Program}{w:World}{K:tz0}{mg:tzA}{base:Heap}{k:Nat}{f:Addr}{name qual:Str}{params:Arguments}{body:List Stmt}{scope:Scope}{dV kV doc pm cdv ct oc:Value}{an od:Option Addr}
  {osl:Array (Option Value)} {N ps:List Str} {sp:Sp} (lk:K.lookup f=some ⟨oc,od,.func (PySem.W.fnOf name qual params body scope dV kV doc pm an cdv ct),osl⟩) (hcd:PySem.W.codeIn K cdv qual=true) (S:FnScope N ps scope)
  (len:∀vs H Q E,sp vs H Q E->vs.length=ps.length)
  (hbody:∀(A:Around) (outer:List Env) (s:Shared) (H:Hp) (vs:List V) (Q:VK) (E:XK),Room k (A.deeper (envOfC qual scope s.heap.objs.size f cdv))->sp vs H Q E->
   ∃t,PSs (iS CX P w K mg base N qual scope f cdv A outer s H E) body t/\t {nx:=fun _ H'=>Q .non H',rt:=Q} (start N vs) H):
  FnOk P w K mg base CX (k+1) f (PySem.W.fnOf name qual params body scope dV kV doc pm an cdv ct) ps sp:=by
 refine⟨len,fun A outer s H args us vs Q E hr e0 hb r hsp=> ?_⟩
 have hl:=len _ _ _ _ hsp
 have KX:K.In s.heap:=e0.mod.kin.keeps fun b o e=>(e0.bs b o e).1
 have lim:s.heap.NoLimit:=e0.mod.nolimit.keeps fun b o e=>(e0.bs b o e).1
 have hkind:∀y∈ps.zip us,scope.names.lookup y.1=some .local\/(scope.names.lookup y.1=some .cell/\((cellsFrom (s.heap.objs.size+1) scope.names []).lookup y.1).isSome=true):=fun⟨n,v⟩ hy=>by
  rcases S.par n (Xz hy).1 with q|q
  ·exact .inl q
  ·exact .inr ⟨q,XZ _ _ _ (.inl q)⟩
 refine codeAny_call_function hr.depth (KX _ _ lk) rfl S.co S.gen rfl (PySem.W.codeRec_of KX hcd) (hb _ _ _ _ ?_)
 refine wpAny_newFunctionEnv_cells S.kind hkind fun env he s1 x=> ?_
 subst he
 refine⟨lim.keeps x.toInCall.keep,codeAny_func ?_⟩
 obtain⟨t,ht,hq⟩:=hbody A outer s H vs Q E (hr.deeper _) hsp
 have I:Inv (iS CX P w K mg base N qual scope f cdv A outer s H E) [] (start N vs) H s1:=yx5 S hr.hd e0 hl r x
 refine ZN (ht [] s1 (start N vs) H _ I hq) (fun fl s' hs=> ?_) fun e s' hs=>hs
 have fin:∀{σ':St} {H':Hp} {v:V} {u:Value},Inv (iS CX P w K mg base N qual scope f cdv A outer s H E) [] σ' H' s'->cF v u->Q v H'->CE outer P w H s Q u s':=
  fun {σ' H' v u} J rv q=>⟨v,H',J.os,J.bare,J.base,J.hok,rv,q⟩
 cases fl with
 |ret u=>
  obtain⟨v,σ',H',J,rv,q⟩:=hs
  exact fin J rv q
 |next=>
  obtain⟨σ',H',J,q⟩:=hs
  exact fin (v:=V.non) (u:=Value.none) J rfl q
 |brk=>
  obtain⟨_,_,_,q⟩:=hs
  exact False.elim q
 |cont=>
  obtain⟨_,_,_,q⟩:=hs
  exact False.elim q
section
variable{X:Cx}{x:Str}{p pos:Pos}{e:Expr}{es:List Expr}{t:TA}{id T:String}{r:List V->Hp->VK->Prop}
def tCB(r:List V->Hp->VK->Prop)(t:TA):TE:=fun σ H Q=>t σ H fun vs H1=>r vs H1 Q
theorem tJ(hc:CallR X (.builtin id) r)(hg:Gl X x)(hm:X.mg x=none)(hv:bootBuiltins x=some (.builtin id))(ha:PA X (e::es) t)(hn:x≠"__name__":=by decide)(hdb:NDb x:=by decide)
  (he:StE e es X:=by rfl) (hpl:BkE pos es X:=by rfl):PE X (.Call (.Name x p) (e::es) [] pos) (tCB r t):=⟨by
 intro pins s σ H Q I h
 refine Y3 (tG I hg hm hv ?_ hn hdb)
 exact Xr (thn (ha pos pins s σ H _ I h) fun us s1 ⟨vs,H1,I1,r1,q1⟩=>hc pins s1 σ H1 vs us Q I1 r1 q1) he hpl⟩
theorem yx6(hc:CallR X (.type T) r)(hg:Gl X x)(hm:X.mg x=none)(hv:bootBuiltins x=some (.type T))(ha:PA X (e::es) t)(hn:x≠"__name__":=by decide)(hdb:NDb x:=by decide)
  (he:StE e es X:=by rfl) (hpl:BkE pos es X:=by rfl):PE X (.Call (.Name x p) (e::es) [] pos) (tCB r t):=⟨by
 intro pins s σ H Q I h
 refine Y3 (tG I hg hm hv ?_ hn hdb)
 exact Yh (thn (ha pos pins s σ H _ I h) fun us s1 ⟨vs,H1,I1,r1,q1⟩=>hc pins s1 σ H1 vs us Q I1 r1 q1) he hpl⟩
end
end L2
namespace HT
open PySem PyProof.Rows
def lexLt:List Int->List Int->Bool
 |[],[]=>false
 |[],_::_=>true
 |_::_,[]=>false
 |x::xs,y::ys=>if x=y then lexLt xs ys else decide (x<y)
theorem yq5(x y:Int)(xs ys:List Int):lexLt (x::xs) (y::ys)=if x=y then lexLt xs ys else decide (x<y):=rfl
theorem zw2:lexLt [] []=false:=rfl
theorem zn9(y:Int)(ys:List Int):lexLt [] (y::ys)=true:=rfl
theorem zo0(x:Int)(xs:List Int):lexLt (x::xs) []=false:=rfl
theorem xi7(A:Around)(s:Shared)(a:Int)(t:Tok)(c:Int)(u:Tok):∃e,SeqAt.EqAt A s (.int a t) (.int c u) e/\(e=true↔a=c):=
 ⟨(a==c),SeqAt.EqAt.int_int a t c u,by simp⟩
theorem xi8(A:Around)(s:Shared)(a:Int)(t:Tok)(c:Int)(u:Tok)(prog:Program)(w:World)(E:Value->Shared->Prop)(Q:Value->Shared->Prop)(h:Q (.bool (decide (a<c))) s):
  wpAny (model prog w) A (richCompare .Lt (.int a t) (.int c u)) Q E s:=
 (PyProof.Rows.lt_int h:wpAny (model prog w) A (compareOp .Lt (.int a t) (.int c u)) Q E s)
section
open PySem.SeqAt
open PySem.AutoSeq1 (wpAny_loadPart')
open PySem.MeetsSeq PySem.MeetsSeq2 PySem.MeetsSeq3
theorem zw3(l b:Addr)(items items2:Array Value)(n n2:Nat)(dd dd2:Option Addr)(sl sl2:Array (Option Value))(ns ms:List Int)(hi:IntsAre items.toList ns)(hj:IntsAre items2.toList ms):
  Meets (Builtin.«tuple.__lt__» ⟨[.ref l,.ref b],[]⟩)
   (fun _ R s=>s.heap.get? l=some {cls:= .type "tuple",dict:=dd,data:= .seq items n,slots:=sl}/\s.heap.get? b=some {cls:= .type "tuple",dict:=dd2,data:= .seq items2 n2,slots:=sl2}/\
    R (.ok (.ret (.bool (lexLt ns ms)))) s):=
 .of_wp fun prog w A R s h=>by
  obtain⟨hp,g,d,tk,os⟩:=s;obtain⟨hl,hb,h⟩:=h
  have f2:=Wm
  have z1:items.size=ns.length:=by rw [<-hi.length];simp
  have z2:items2.size=ms.length:=by rw [<-hj.length];simp
  wp_walk using Yl hl,Yl hb,wpAny_forIn_list _ (fun rest b s'=>b.1=none/\s'=⟨hp,g,d,tk,os⟩/\∃(vs ws:List Value) (ns' ms':List Int),rest=vs.zip ws/\
   IntsAre vs ns'/\IntsAre ws ms'/\ns'.length+items2.size=ms'.length+items.size/\R (.ok (.ret (.bool (lexLt ns' ms')))) ⟨hp,g,d,tk,os⟩) _
  case turn=>
   rintro⟨y,x⟩ rest b s' ⟨hb',rfl,vs,ws,ns',ms',hz,hvi,hwi,hlen,hR⟩
   cases hvi with
   |nil=>rw [Xl] at hz;cases hz
   | cons a t hvi'=>
    cases hwi with
    |nil=>rw [Wn] at hz;cases hz
    | cons c u hwi'=>
     rw [Ye] at hz
     injection hz with hyx hrest
     injection hyx with hy hx
     subst hy hx
     rw [yq5] at hR
     simp only [Z6] at hlen
     obtain⟨e,he,hiff⟩:=xi7 A.in1 ⟨hp,g,d,tk,os⟩ a t c u
     refine Zh (he prog w _ _ ?_)
     cases e with
     |true=>
      rw [if_pos (hiff.mp rfl)] at hR
      wp_walk
      exact⟨rfl,rfl,_,_,_,_,hrest,hvi',hwi',by omega,hR⟩
     |false=>
      rw [if_neg (fun q=>absurd (hiff.mpr q) Za)] at hR
      have hri:=xi8 A.in1 ⟨hp,g,d,tk,os⟩ a t c u prog w
      wp_walk using hri
      exact⟨_,rfl,by simpa using hR⟩
  case fin=>
   rintro⟨b1,b2⟩ s' ⟨hb',rfl,vs,ws,ns',ms',hz,hvi,hwi,hlen,hR⟩
   simp only at hb'
   subst hb'
   have hv:lexLt ns' ms'=decide (items.size<items2.size):=by
    cases hvi with
    | nil=>
     cases hwi with
     |nil=>
      simp only [ZU] at hlen
      rw [zw2]
      exact(Zg (by omega)).symm
     |cons c u hw=>
      simp only [ZU,Z6] at hlen
      rw [zn9]
      exact(Zr (by omega)).symm
    | cons a t hv=>
     cases hwi with
     |nil=>
      simp only [ZU,Z6] at hlen
      rw [zo0]
      exact(Zg (by omega)).symm
     |cons c u hw=>
      rw [Ye] at hz
      cases hz
   rw [hv] at hR
   wp_walk
   exact⟨_,rfl,by simpa [Builtin.Tuple.tupleCompareSizes] using hR⟩
  case h=>
   exact⟨rfl,rfl,items.toList,items2.toList,ns,ms,rfl,hi,hj,by omega,h⟩
end
section
variable{prog:Program}{w:World}{A:Around}{E:Value->Shared->Prop}{s:Shared}
theorem lt_tupInts{l b:Addr}{items items2:Array Value}{ns ms:List Int}{Q:Value->Shared->Prop}(hl:IsTup s.heap l items)(hb:IsTup s.heap b items2)(hi:IntsAre items.toList ns)(hj:IntsAre items2.toList ms)
  (hu:A.units<cLine) (h:Q (.bool (lexLt ns ms)) s):wpAny (model prog w) A (compareOp .Lt (.ref l) (.ref b)) Q E s:=by
 obtain⟨⟨cls,dd,data,sl⟩,ho,hc,n,hd⟩:=id hl
 obtain⟨⟨cls2,dd2,data2,sl2⟩,ho2,hc2,n2,hd2⟩:=id hb
 simp only at hc hd hc2 hd2
 subst hc hd hc2 hd2
 exact richCompare_meets_room (op:= .Lt) ⟨_,ho,rfl⟩ ⟨_,ho2,rfl⟩ Wa W0 (XV _ _) (zw3 l b items items2 n n2 dd dd2 sl sl2 ns ms hi hj)
  ⟨ho,ho2,show Value.bool (lexLt ns ms)≠Value.notImplemented/\Q (.bool (lexLt ns ms)) s from⟨(fun x=>nomatch x),h⟩⟩ hu
theorem cat_tup{t b:Addr}{vs ws:List Value}{Q:Value->Shared->Prop}(ht:IsTup s.heap t vs.toArray)(hb:IsTup s.heap b ws.toArray)(hv:vs≠[])
  (h1:ws=[]->Q (.ref t) s) (h2:ws≠[]->Q (.ref s.heap.objs.size) {s with heap:=s.heap.push {cls:= .type "tuple",data:= .seq (vs++ws).toArray}})
  (hsz:vs.length+ws.length<=sizeLine):wpAny (model prog w) A (binaryOp .Add (.ref t) (.ref b)) Q E s:=by
 obtain⟨⟨cls,dd,data,sl⟩,ho,hc,n,hd⟩:=id ht
 obtain⟨⟨cls2,dd2,data2,sl2⟩,ho2,hc2,n2,hd2⟩:=id hb
 simp only at hc hd hc2 hd2
 subst hc hd hc2 hd2
 have e:vs.toArray++ws.toArray=(vs++ws).toArray:=by simp
 by_cases hw:ws=[]
 ·exact concat_meets ⟨_,ho,rfl⟩ ⟨_,ho2,rfl⟩ XN Wo X0 YW (YR _ _)
   (tuple_addW1 t b vs.toArray ws.toArray n n2 dd dd2 sl sl2 (by simpa using hv) (by simp [hw])) ⟨ho,ho2,h1 hw⟩
 ·refine concat_meets ⟨_,ho,rfl⟩ ⟨_,ho2,rfl⟩ XN Wo X0 YW (YR _ _)
   (tuple_addW2 t b vs.toArray ws.toArray n n2 dd dd2 sl sl2 (by simpa using hv) (by simpa using hw) (by rw [Zi,Zi];exact hsz)) ⟨ho,ho2,?_⟩
  rw [e]
  exact h2 hw
def sIx(n d:Nat):Option Int->Nat
 |none=>d
 |some v=>if v<0 then(v+(n:Int)).toNat else min v.toNat n
end
end HT
namespace L2
open PySem PySem.Spec PyProof.Rows
abbrev TO:=St->Hp->(Option Int->Hp->Prop)->Prop
def POd(X:Cx)(e:Option Expr)(t:TO):Prop:=
 ∀(pins:tzB) (s:Shared) (σ:St) (H:Hp) (Q:Option Int->Hp->Prop),Inv X pins σ H s->t σ H Q->
  wpAny (model X.prog X.w) X.A (evalPart e X.env) (fun u s'=>∃o H',Inv X pins σ H' s'/\IsPart u o/\Q o H') X.xe s
structure PO(X:Cx)(e:Option Expr)(t:TO):Prop where
 go:POd X e t
instance {X:Cx} {e:Option Expr} {t:TO}:CoeFun (PO X e t) fun _=>POd X e t:=⟨PO.go⟩
def wa1:TO:=fun _ H Q=>Q none H
def wn0(t:TE):TO:=fun σ H Q=>t σ H fun x H1=>∃i,x= .int i/\Q (some i) H1
section
variable{X:Cx}{e:Expr}{te:TE}{lo hi:Option Expr}{tl th:TO}{pos p2:Pos}
theorem xt8:PO X none wa1:=⟨by
 intro pins s σ H Q I h
 rw [evalPart_none]
 exact ZH ⟨none,H,I,.none,h⟩⟩
theorem xt9(h:PE X e te):PO X (some e) (wn0 te):=⟨by
 intro pins s σ H Q I hw
 rw [evalPart_some]
 refine thn (h pins s σ H _ I hw) fun u s1 ⟨x,H1,I1,r1,q1⟩=> ?_
 obtain⟨i,rfl,q⟩:=q1
 obtain⟨t,rfl⟩:=r1
 exact⟨some i,H1,I1,.int i t,q⟩⟩
def SlR(X:Cx)(r:V->Option Int->Option Int->Hp->VK->Prop):Prop:=
 ∀(pins:tzB) (s:Shared) (σ:St) (H:Hp) (x:V) (v vl vu:Value) (lo hi:Option Int) (sl:Addr) (Q:VK),Inv X pins σ H s->cF x v->s.heap.IsSliceOf sl vl vu .none->IsPart vl lo->IsPart vu hi->r x lo hi H Q->
  ∃T id,typeLookup (.type T) "__getitem__"=pure (some (.builtin id))/\s.TypeIs v T/\wpAny (model X.prog X.w) X.A (getItem v (.ref sl)) (EP X pins σ Q) X.xe s
def tSl(r:V->Option Int->Option Int->Hp->VK->Prop)(te:TE)(tl th:TO):TE:=fun σ H Q=>te σ H fun x H1=>tl σ H1 fun l H2=>th σ H2 fun u H3=>r x l u H3 Q
theorem xi9{r:V->Option Int->Option Int->Hp->VK->Prop}(hr:SlR X r)(he:PE X e te)(hl:PO X lo tl)(hu:PO X hi th):PE X (.Subscript e (.Slice lo hi none p2) pos) (tSl r te tl th):=⟨by
 intro pins s σ H Q I h
 refine Subscript_ (thn (he pins s σ H _ I h) fun v s1 ⟨x,H1,I1,r1,q1⟩=> ?_)
 refine wpAny_Slice (thn (hl pins s1 σ H1 _ I1 q1) fun vl s2 ⟨l,H2,I2,pl,q2⟩=>thn (hu pins s2 σ H2 _ I2 q2) fun vu s3 ⟨u,H3,I3,pu,q3⟩=> ?_)
 rw [evalPart_none]
 refine ZH ?_
 have I4:Inv X pins σ H3 {s3 with heap:=s3.heap.push {cls:= .type "slice",data:= .fields #[vl,vu,.none]}}:=I3.kept (t':=s3.toks) fun b ob q=>Zf _ q
 obtain⟨T,id,hT,ht,hg⟩:=hr pins {s3 with heap:=s3.heap.push {cls:= .type "slice",data:= .fields #[vl,vu,.none]}} σ H3 x v vl vu l u s3.heap.objs.size Q I4 r1 (Heap.IsSliceOf.new ..) pl pu q3
 show wpAny (model X.prog X.w) X.A (subscriptTail e (.Slice lo hi none p2) v (.ref s3.heap.objs.size)) (EP X pins σ Q) X.xe {s3 with heap:=s3.heap.push {cls:= .type "slice",data:= .fields #[vl,vu,.none]}}
 exact tail_any (ops:=[.ref s3.heap.objs.size,v]) ht hT hg (by with_unfolding_all rfl)⟩
def zr2(xs:List V)(lo hi:Option Int):List V:=(xs.drop (HT.sIx xs.length 0 lo)).take (HT.sIx xs.length xs.length hi-HT.sIx xs.length 0 lo)
theorem yi3(xs:List V)(lo hi:Option Int):(zr2 xs lo hi).length<=xs.length:=by
 unfold zr2
 rw [YE,List.length_drop]
 omega
def wn1(K:tz0):R2:=fun x y H Q=>∃a b xs ys,x= .ref a/\y= .ref b/\SqT K H a xs/\SqT K H b ys/\xs≠[]/\xs.length+ys.length<=sizeLine/\
 (ys=[]->Q (.ref a) H)/\(ys≠[]->∀p,H p=none->Q (.ref p) (upd H p (.tup (xs++ys))))
theorem bF.nil_iff{xs:List V}{us:List Value}(r:bF xs us):us=[]↔xs=[]:=by
 cases r with
 |nil=>simp
 |cons _ _=>simp
theorem xu0:OpR X (binaryOp .Add) (wn1 X.K):=⟨by
 intro pins s σ H x y v u Q I rx ry h
 obtain⟨a,b,xs,ys,rfl,rfl,ha,hb,hx,hz,q1,q2⟩:=h
 cases rx
 cases ry
 obtain⟨its,r1,p1,_⟩:=I.tuple ha
 obtain⟨its2,r2,p2,_⟩:=I.tuple hb
 refine HT.cat_tup p1 p2 (fun z=>hx (r1.nil_iff.mp z)) (fun z=>⟨.ref a,H,I,rfl,q1 (r2.nil_iff.mp z)⟩) (fun z=> ?_) (by rw [<-r1.length,<-r2.length];exact hz)
 refine⟨.ref s.heap.objs.size,_,I.laid (t':=s.toks) (o:= .tup (xs++ys)) (fun b ob q=>Zf _ q) (Zb _) ?_,rfl,q2 (fun w=>z (r2.nil_iff.mpr w)) _ (I.hok.fresh (Zb _))⟩
 exact⟨by rw [Z5];exact hz,_,r1.append r2,IsTup.new _ _⟩⟩
end
def ixN(n:Nat)(i:Int):Option Nat:=if 0<=i then(if i<n then some i.toNat else none) else if-(n:Int)<=i then some (i+n).toNat else none
def atI{α:Type}(xs:List α)(i:Int):Option α:=(ixN xs.length i).bind fun j=>xs[j]?
theorem zc4{n:Nat}{i:Int}{j:Nat}(h:ixN n i=some j):seqIndex? i n=some j/\j<n/\ -(n:Int)<=i/\i<n:=by
 unfold ixN at h
 by_cases h0:0<=i
 ·rw [if_pos h0] at h
  by_cases h1:i<n
  ·rw [if_pos h1] at h
   have e:i.toNat=j:=ZB h
   exact⟨by rw [seqIndex_of h0 h1,e],by omega,by omega,h1⟩
  ·rw [if_neg h1] at h;cases h
 ·rw [if_neg h0] at h
  by_cases h1: -(n:Int)<=i
  ·rw [if_pos h1] at h
   have e:(i+n).toNat=j:=ZB h
   exact⟨by rw [seqIndex_neg (by omega) h1,e],by omega,h1,by omega⟩
  ·rw [if_neg h1] at h;cases h
theorem pF{α:Type}{xs:List α}{i:Int}{v:α}(h:atI xs i=some v):∃j,seqIndex? i xs.length=some j/\xs[j]? =some v/\j<xs.length/\ -(xs.length:Int)<=i/\i<xs.length:=by
 unfold atI at h
 cases e:ixN xs.length i with
 |none=>rw [e] at h;cases h
 |some j=>
  rw [e] at h
  obtain⟨h1,h2,h3,h4⟩:=zc4 e
  exact⟨j,h1,h,h2,h3,h4⟩
theorem zo1{α:Type}{xs:List α}{j:Nat}{v:α}(h:xs[j]? =some v):atI xs (j:Int)=some v:=by
 have hj:j<xs.length:=(Z4.mp h).1
 have e:ixN xs.length (j:Int)=some j:=by
  unfold ixN
  rw [if_pos (by omega),if_pos (by omega)];simp
 unfold atI;rw [e];exact h
theorem gY{α:Type}(xs:List α)(v:α):atI (xs++[v]) (-1)=some v:=by
 have hl:(xs++[v]).length=xs.length+1:=by simp
 have e:ixN (xs++[v]).length (-1)=some xs.length:=by
  unfold ixN
  rw [hl,if_neg (by decide),if_pos (by omega)]
  congr 1
  omega
 unfold atI
 rw [e]
 show(xs++[v])[xs.length]? =some v
 simp
def zd7(b:Expr):Prop:=∀o i,subscripted b false o i=operate [o,i] (getItem o i)
def IxR(X:Cx)(r:R2):Prop:=
 ∀(value slice:Expr) (pins:tzB) (s:Shared) (σ:St) (H:Hp) (x y:V) (v u:Value) (Q:VK),Inv X pins σ H s->cF x v->cF y u->r x y H Q->
  subscripted slice false v u=operate [v,u] (getItem v u)->wpAny (model X.prog X.w) X.A (subscriptTail value slice v u) (EP X pins σ Q) X.xe s
def wi0(X:Cx)(id:String)(r:V->List V->Hp->VK->Prop):Prop:=
 ∀(pins:tzB) (s:Shared) (σ:St) (H:Hp) (x:V) (xs:List V) (v:Value) (us:List Value) (Q:VK),Inv X pins σ H s->cF x v->bF xs us->r x xs H Q->
  wpAny (model X.prog X.w) X.A (call (.builtin id) (v::us)) (EP X pins σ Q) X.xe s
structure MtR(X:Cx)(id:String)(r:V->List V->Hp->VK->Prop):Prop where
 go:wi0 X id r
instance {X:Cx} {id:String} {r:V->List V->Hp->VK->Prop}:CoeFun (MtR X id r) fun _=>wi0 X id r:=⟨MtR.go⟩
section
variable{X:Cx}{a b:Expr}{ta tb:TE}{pos:Pos}
theorem IxR.or{r r':R2}(h:IxR X r)(h':IxR X r'):IxR X (fun x y H Q=>r x y H Q\/r' x y H Q):=by
 intro value slice pins s σ H x y v u Q I rx ry q hs
 rcases q with q|q
 ·exact h value slice pins s σ H x y v u Q I rx ry q hs
 ·exact h' value slice pins s σ H x y v u Q I rx ry q hs
theorem zx4{r:R2}(hr:IxR X r)(ha:PE X a ta)(hb:PE X b tb)(hs:zd7 b):PE X (.Subscript a b pos) (tOp r ta tb):=⟨by
 intro pins s σ H Q I h
 exact Subscript_ (xh9 ha hb I h fun v u s2 x y H2 I2 rx ry q=>hr a b pins s2 σ H2 x y v u Q I2 rx ry q (hs _ _))⟩
def wi1(K:tz0):R2:=fun x y H Q=>∃p xs i v,x= .ref p/\y= .int i/\SqL K H p xs/\atI xs i=some v/\Q v H
def wi2(K:tz0):R2:=fun x y H Q=>∃p xs i v,x= .ref p/\y= .int i/\SqT K H p xs/\atI xs i=some v/\Q v H
def wi3:R2:=fun x y H Q=>∃z i c,x= .str z/\y= .int i/\z.length<=sizeLine/\atI z.cps.toList i=some c/\Q (.str ⟨#[c]⟩) H
theorem zo2:IxR X (wi1 X.K):=by
 intro value slice pins s σ H x y v u Q I rx ry h hs
 obtain⟨p,xs,i,z,rfl,rfl,hq,he,q⟩:=h
 cases rx
 obtain⟨t,rfl⟩:=ry
 obtain⟨its,r,pl,hz⟩:=I.list hq
 obtain⟨j,h1,h2,h3,h4,h5⟩:=pF he
 obtain⟨w,ew,rw'⟩:=r.get h2
 have hl:=r.length
 have hn:=tI
 have fin:EP X pins σ Q w s:=⟨z,H,I,rw',q⟩
 by_cases h0:0<=i
 ·have hj:i.toNat=j:=by
   rw [seqIndex_of h0 h5] at h1
   exact ZB h1
  exact item_listR pl.isList h0 (by omega) (by rw [hj];simpa using ew) fin hs
 ·have hj:(i+(its.toArray.size:Int)).toNat=j:=by
   rw [seqIndex_neg (by omega) h4] at h1
   rw [Zi,<-hl]
   exact ZB h1
  exact subscriptTail_builtinR (x:=w) pl.isList.typeIs slot_list_getitem.lookup
   (wpAny_getItem_list_neg (Q:=fun r s'=>r=w/\EP X pins σ Q r s') pl.isList (by omega) (by rw [Zi]<;>omega) (by omega) (by rw [hj];simpa using ew) ⟨rfl,fin⟩) hs
theorem wc5:IxR X (wi2 X.K):=by
 intro value slice pins s σ H x y v u Q I rx ry h hs
 obtain⟨p,xs,i,z,rfl,rfl,hq,he,q⟩:=h
 cases rx
 obtain⟨t,rfl⟩:=ry
 obtain⟨its,r,pl,hz⟩:=I.tuple hq
 obtain⟨j,h1,h2,h3,h4,h5⟩:=pF he
 obtain⟨w,ew,rw'⟩:=r.get h2
 have hl:=r.length
 have hn:=tI
 have fin:EP X pins σ Q w s:=⟨z,H,I,rw',q⟩
 exact subscriptTail_builtinR (x:=w) pl.typeIs slot_tuple_getitem.lookup
  (getItem_tuple (j:=j) (Q:=fun r s'=>r=w/\EP X pins σ Q r s') pl (by omega) (by omega) (by rw [Zi,<-hl];exact h1) (by simpa using ew) ⟨rfl,fin⟩) hs
theorem wc6:IxR X wi3:=by
 intro value slice pins s σ H x y v u Q I rx ry h hs
 obtain⟨z,i,c,rfl,rfl,hz,he,q⟩:=h
 obtain⟨t,rfl⟩:=rx
 obtain⟨t',rfl⟩:=ry
 obtain⟨j,h1,h2,h3,h4,h5⟩:=pF he
 have hl:z.cps.toList.length=z.length:=by simp [Str.length]
 rw [hl] at h1 h4 h5
 have hn:=tI
 exact tail_any (Xc s z t) slot_str_getitem.lookup (getItem_str (c:=c) (by
  have e1:decide (i< -(2^63:Int))=false:=Zg (by omega)
  have e2:decide (i>=2^63)=false:=Zg (by omega)
  rw [e1,e2,Bool.or_false]) (by rw [h1];simpa using h2) ⟨.str ⟨#[c]⟩,H,I.tok _,⟨_,rfl⟩,q⟩) hs
def rIx(K:tz0):R2:=fun x y H Q=>wi1 K x y H Q\/wi2 K x y H Q\/wi3 x y H Q
theorem yx7:IxR X (rIx X.K):=zo2.or (wc5.or wc6)
theorem yq6(its:List Value)(n j:Nat)(u:Value):Obj.mapSeq (·.setIfInBounds j u) {cls:= .type "list",data:= .seq its.toArray n}={cls:= .type "list",data:= .seq (its.set j u).toArray n}:=by
 simp [Obj.mapSeq]
theorem Inv.lst{pins:tzB}{σ:St}{H:Hp}{s:Shared}{p:Addr}{xs:List V}(I:Inv X pins σ H s)(h:H p=some (.lst xs)):
  ∃(its:List Value) (n:Nat),bF xs its/\s.heap.get? p=some {cls:= .type "list",data:= .seq its.toArray n}/\xs.length<=sizeLine:=by
 obtain⟨z,its,n,r,e⟩:=I.hok p _ h
 exact⟨its,n,r,e,z⟩
theorem Inv.lstUpd{pins:tzB}{σ:St}{H:Hp}{s:Shared}{p:Addr}{xs ys:List V}{its its':List Value}{n n':Nat}{f:Obj->Obj}(I:Inv X pins σ H s)(h:H p=some (.lst xs))
  (ho:s.heap.get? p=some {cls:= .type "list",data:= .seq its.toArray n}) (hf:f {cls:= .type "list",data:= .seq its.toArray n}={cls:= .type "list",data:= .seq its'.toArray n'}) (r:bF ys its') (hz:ys.length<=sizeLine) (t:Nat):
  Inv X pins σ (upd H p (.lst ys)) {s with heap:=s.heap.update p f,toks:=t}:=by
 have e:(s.heap.update p f).get? p=some {cls:= .type "list",data:= .seq its'.toArray n'}:=by
  rw [Xk f ho (by rw [hf]<;>rfl),hf]
 refine I.write (x:=p) (e:=p) (by rw [h];trivial) (.inl rfl) (fun b u hb q=>(ZY _ _ (Y7 hb)).trans q) ⟨_,e⟩ ?_
 exact⟨hz,its',n',r,e⟩
def wn2:V->V->V->Hp->(Hp->Prop)->Prop:=fun o i v H Q=>∃p xs k j,o= .ref p/\i= .int k/\H p=some (.lst xs)/\ixN xs.length k=some j/\Q (upd H p (.lst (xs.set j v)))
theorem xj0:wh4 X wn2:=by
 intro pins s σ H o i v ov iv u Q I ro ri rv h
 obtain⟨p,xs,k,j,rfl,rfl,hp,hj,q⟩:=h
 cases ro
 obtain⟨t,rfl⟩:=ri
 obtain⟨its,n,r,ho,hz⟩:=I.lst hp
 obtain⟨h1,h2,h3,h4⟩:=zc4 hj
 have hl:=r.length
 have hn:=tI
 have I':Inv X pins σ (upd H p (.lst (xs.set j v))) {s with heap:=s.heap.update p (Obj.mapSeq (·.setIfInBounds j u))}:=
  I.lstUpd hp ho (yq6 its n j u) (r.set rv j) (by rw [List.length_set];exact hz) s.toks
 by_cases h0:0<=k
 ·have hk:k.toNat=j:=by
   rw [seqIndex_of h0 h4] at h1
   exact ZB h1
  exact PySem.W.ki_setAt ho h0 (by omega) (by rw [Zi,<-hl];exact h4) (by rw [hk];exact⟨_,I',q⟩)
 ·have hk:(k+(its.toArray.size:Int)).toNat=j:=by
   rw [seqIndex_neg (by omega) h3] at h1
   rw [Zi,<-hl]
   exact ZB h1
  exact PySem.W.ki_setBack ho (by omega) (by rw [Zi,<-hl];exact h3) (by omega) (by rw [hk];exact⟨_,I',q⟩)
theorem ya1(lo hi:Option Int)(n:Nat):(sliceBounds lo hi none n).1=((HT.sIx n 0 lo:Nat):Int)/\(sliceBounds lo hi none n).2.1=((HT.sIx n n hi:Nat):Int)/\(sliceBounds lo hi none n).2.2=1:=by
 refine⟨?_,?_,rfl⟩
 ·cases lo with
  |none=>simp [sliceBounds,HT.sIx]
  |some i=>
   simp only [sliceBounds,HT.sIx,Option.getD_none,show(1:Int)>0 by decide,ZW]
   by_cases h:i<0
   ·simp only [h,ZW]<;>omega
   ·simp only [h,Yy]<;>omega
 ·cases hi with
  |none=>simp [sliceBounds,HT.sIx]
  |some i=>
   simp only [sliceBounds,HT.sIx,Option.getD_none,show(1:Int)>0 by decide,ZW]
   by_cases h:i<0
   ·simp only [h,ZW]<;>omega
   ·simp only [h,Yy]<;>omega
theorem zw4(its:List Value)(lo hi:Option Int):slicePick its.toArray lo hi none=((its.drop (HT.sIx its.length 0 lo)).take (HT.sIx its.length its.length hi-HT.sIx its.length 0 lo)).toArray:=by
 obtain⟨h1,h2,h3⟩:=ya1 lo hi its.toArray.size
 unfold slicePick
 rw [h1,h2,h3]
 simp only [sliceRange_one,pick_run,Zi]<;>rfl
def wq4(K:tz0):V->Option Int->Option Int->Hp->VK->Prop:=fun x lo hi H Q=>∃a xs,x= .ref a/\SqL K H a xs/\∀p,H p=none->Q (.ref p) (upd H p (.lst (zr2 xs lo hi)))
theorem xu1:SlR X (wq4 X.K):=by
 intro pins s σ H x v vl vu lo hi sl Q I rx hs pl pu h
 obtain⟨a,xs,rfl,hx,q⟩:=h
 cases rx
 obtain⟨its,r,ht,hz⟩:=I.list hx
 have hlen:=r.length
 refine⟨"list",_,slot_list_getitem.lookup,ht.isList.typeIs,?_⟩
 refine wpAny_getItem_list_slice ht.isList hs pl pu .none (by simp) ?_ (by rw [Zi]<;>omega)
 rw [zw4,<-hlen]
 refine⟨.ref s.heap.objs.size,_,I.laid (t':=s.toks) (o:= .lst (zr2 xs lo hi)) (fun b ob q=>Zf _ q) (Zb _) ?_,rfl,q _ (I.hok.fresh (Zb _))⟩
 exact⟨Zu (yi3 xs lo hi) hz,_,0,(r.drop (HT.sIx xs.length 0 lo)).take (HT.sIx xs.length xs.length hi-HT.sIx xs.length 0 lo),Zv _ rfl⟩
def lJ:V->Bool
 | .non=>true
 | .bl _=>true
 | .int _=>true
 | .str _=>true
 |_=>false
def eqV:V->V->Bool
 | .non,.non=>true
 | .bl a,.bl b=>a==b
 | .bl a,.int b=>(if a then 1 else 0)==b
 | .int a,.bl b=>a==(if b then 1 else 0)
 | .int a,.int b=>a==b
 | .str a,.str b=>a==b
 |_,_=>false
theorem wc7{A:Around}{s:Shared}{y x:V}{u v:Value}(ry:cF y u)(rx:cF x v)(fy:lJ y=true)(fx:lJ x=true):SeqAt.EqAt A s u v (eqV y x):=by
 cases y with
 |non=>
  cases ry
  cases x with
  |non=>cases rx;exact SeqAt.EqAt.same _
  |bl b=>cases rx;exact SeqAt.EqAt.none_bool b
  |int b=>obtain⟨t,rfl⟩:=rx;exact SeqAt.EqAt.none_int b t
  |str b=>obtain⟨t,rfl⟩:=rx;exact SeqAt.EqAt.none_str b t
  |_=>exact absurd (show false=true from fx) Za
 |bl a=>
  cases ry
  cases x with
  |non=>cases rx;exact SeqAt.EqAt.bool_none a
  |bl b=>cases rx;exact SeqAt.EqAt.bool_bool a b
  |int b=>obtain⟨t,rfl⟩:=rx;exact SeqAt.EqAt.bool_int a b t
  |str b=>obtain⟨t,rfl⟩:=rx;exact SeqAt.EqAt.bool_str a b t
  |_=>exact absurd (show false=true from fx) Za
 |int a=>
  obtain⟨t',rfl⟩:=ry
  cases x with
  |non=>cases rx;exact SeqAt.EqAt.int_none a t'
  |bl b=>cases rx;exact SeqAt.EqAt.int_bool a t' b
  |int b=>obtain⟨t,rfl⟩:=rx;exact SeqAt.EqAt.int_int a t' b t
  |str b=>obtain⟨t,rfl⟩:=rx;exact SeqAt.EqAt.int_str a t' b t
  |_=>exact absurd (show false=true from fx) Za
 |str a=>
  obtain⟨t',rfl⟩:=ry
  cases x with
  |non=>cases rx;exact SeqAt.EqAt.str_none a t'
  |bl b=>cases rx;exact SeqAt.EqAt.str_bool a t' b
  |int b=>obtain⟨t,rfl⟩:=rx;exact SeqAt.EqAt.str_int a t' b t
  |str b=>obtain⟨t,rfl⟩:=rx;exact SeqAt.EqAt.str_str a t' b t
  |_=>exact absurd (show false=true from fx) Za
 |_=>exact absurd (show false=true from fy) Za
def eqU(x:V)(u:Value):Bool:=match u with
 | .none=>eqV .non x
 | .bool b=>eqV (.bl b) x
 | .int i _=>eqV (.int i) x
 | .str z _=>eqV (.str z) x
 |_=>false
theorem yx8{x y:V}{u:Value}(r:cF y u)(f:lJ y=true):eqU x u=eqV y x:=by
 cases y with
 |non=>cases r;rfl
 |bl b=>cases r;rfl
 |int i=>obtain⟨t,rfl⟩:=r;rfl
 |str z=>obtain⟨t,rfl⟩:=r;rfl
 |_=>exact absurd (show false=true from f) Za
theorem zo3{x:V}:∀{xs:List V} {us:List Value},bF xs us->xs.all lJ=true->us.any (eqU x)=xs.any fun y=>eqV y x
 |_,_,.nil,_=>rfl
 |y::xs,u::us,.cons r t,f=>by
  rw [XO,Zy] at f
  rw [YS,YS,yx8 r f.1,zo3 t f.2]
theorem zf7{A:Around}{s:Shared}{x:V}{v:Value}(rx:cF x v)(fx:lJ x=true):∀{xs:List V} {us:List Value},bF xs us->xs.all lJ=true->∀u∈us,SeqAt.EqAt A s u v (eqU x u)
 |_,_,.nil,_=>fun u hu=>by cases hu
 |y::xs,u::us,.cons r t,f=>fun u' hu=>by
  rw [XO,Zy] at f
  rcases Z3.mp hu with rfl|hu
  ·rw [yx8 r f.1];exact wc7 r rx f.1 fx
  ·exact zf7 rx fx t f.2 u' hu
def inV(x:V)(xs:List V):Bool:=xs.any fun y=>eqV y x
def rIn(K:tz0)(neg:Bool):R2:=fun x y H Q=>∃p xs,y= .ref p/\(SqL K H p xs\/SqT K H p xs)/\lJ x=true/\xs.all lJ=true/\Q (.bl (if neg then !inV x xs else inV x xs)) H
theorem yx9:OpR X (compareOp .In) (rIn X.K false):=⟨by
 intro pins s σ H x y v u Q I rx ry h
 obtain⟨p,xs,rfl,hq,fx,fs,q⟩:=h
 cases ry
 rcases hq with hq|hq
 ·obtain⟨its,r,pl,hz⟩:=I.list hq
  refine SeqAt.in_listAt (eqU x) pl.isList (fun w hw=>zf7 rx fx r fs w (by simpa using hw)) ⟨.bl _,H,I,rfl,?_⟩
  rw [show its.toArray.any (eqU x)=its.any (eqU x) by simp,zo3 r fs]
  exact q
 ·obtain⟨its,r,pl,hz⟩:=I.tuple hq
  refine SeqAt.in_tupleAt (eqU x) pl (fun w hw=>zf7 rx fx r fs w (by simpa using hw)) ⟨.bl _,H,I,rfl,?_⟩
  rw [show its.toArray.any (eqU x)=its.any (eqU x) by simp,zo3 r fs]
  exact q⟩
theorem jR:CallR X (.builtin "len") (fun xs H Q=>∃p ys,xs=[.ref p]/\(SqL X.K H p ys\/SqT X.K H p ys)/\Q (.int ys.length) H):=⟨by
 intro pins s σ H xs us Q I r h
 obtain⟨p,ys,rfl,hq,q⟩:=h
 obtain⟨u,rfl,rx⟩:=oB r
 cases rx
 have hn:=tI
 rcases hq with hq|hq
 ·obtain⟨its,r',pl,hz⟩:=I.list hq
  have hlen:=r'.length
  exact Calls.call_len_list pl.isList (by simp only [Zi]<;>omega) ⟨.int ys.length,H,I.tok _,⟨s.toks+1,by rw [Zi,hlen]⟩,q⟩
 ·obtain⟨its,r',pl,hz⟩:=I.tuple hq
  have hlen:=r'.length
  exact len_tuple pl (by simp only [Zi]<;>omega) ⟨.int ys.length,H,I.tok _,⟨s.toks+1,by rw [Zi,hlen]⟩,q⟩⟩
theorem ya2:CallR X (.builtin "len") (fun xs H Q=>∃z,xs=[.str z]/\z.length<=sizeLine/\Q (.int z.length) H):=⟨by
 intro pins s σ H xs us Q I r h
 obtain⟨z,rfl,hz,q⟩:=h
 obtain⟨u,rfl,t,rfl⟩:=oB r
 have hn:=tI
 exact len_str (by omega) ⟨.int z.length,H,I.tok _,⟨_,rfl⟩,q⟩⟩
theorem zI:CallR X (.type "list") (fun xs H Q=>∃p ys,xs=[.ref p]/\(SqL X.K H p ys\/SqT X.K H p ys)/\∀l,H l=none->Q (.ref l) (upd H l (.lst ys))):=⟨by
 intro pins s σ H xs us Q I r h
 obtain⟨p,ys,rfl,hq,q⟩:=h
 obtain⟨u,rfl,rx⟩:=oB r
 cases rx
 have fin:∀(its:List Value),bF ys its->ys.length<=sizeLine->∀(h':Heap) (c':Nat),(∀b o',s.heap.get? b=some o'->h'.get? b=some o')->
   h'.get? s.heap.objs.size=some {cls:= .type "list",dict:=none,data:= .seq its.toArray c',slots:= #[]}->EP X pins σ Q (.ref s.heap.objs.size) {s with heap:=h'}:=fun its r' hz h' c' kp e=>
  ⟨.ref s.heap.objs.size,_,I.laid (t':=s.toks) kp (Zb _) (show dI X.prog X.w _ h' _ (.lst ys) from⟨hz,its,c',r',e⟩),rfl,q _ (I.hok.fresh (Zb _))⟩
 rcases hq with hq|hq
 ·obtain⟨its,r',pl,hz⟩:=I.list hq
  have hlen:=r'.length
  obtain⟨o,ho,hc,n,hd⟩:=pl.isList
  exact call_list_seq p (.inl rfl) ho hc hd (fun h' c' kp e=>fin its r' hz h' c' kp e) (by simp only [Zi]<;>omega)
 ·obtain⟨its,r',pl,hz⟩:=I.tuple hq
  have hlen:=r'.length
  obtain⟨o,ho,hc,n,hd⟩:=pl
  exact call_list_seq p (.inr rfl) ho hc hd (fun h' c' kp e=>fin its r' hz h' c' kp e) (by simp only [Zi]<;>omega)⟩
theorem yQ:CallR X (.type "tuple") (fun xs H Q=>∃p ys,xs=[.ref p]/\((SqL X.K H p ys/\∀l,H l=none->Q (.ref l) (upd H l (.tup ys)))\/(SqT X.K H p ys/\Q (.ref p) H))):=⟨by
 intro pins s σ H xs us Q I r h
 obtain⟨p,ys,rfl,h⟩:=h
 obtain⟨u,rfl,rx⟩:=oB r
 cases rx
 rcases h with ⟨hq,q⟩|⟨hq,q⟩
 ·obtain⟨its,r',pl,hz⟩:=I.list hq
  have hlen:=r'.length
  refine call_tuple_list pl.isList (fun h' kp=> ?_) (by simp only [Zi]<;>omega)
  have I1:Inv X pins σ H {s with heap:=h'}:=I.kept (t':=s.toks) kp
  have I2:Inv X pins σ (upd H h'.objs.size (.tup ys)) {s with heap:=h'.push {cls:= .type "tuple",data:= .seq its.toArray}}:=
   I1.laid (t':=s.toks) (fun b o e=>Zf _ e) (Zb _) (show dI X.prog X.w _ _ _ (.tup ys) from⟨hz,its,r',IsTup.new _ _⟩)
  exact⟨.ref h'.objs.size,_,I2,rfl,q _ (I1.hok.fresh (Zb _))⟩
 ·obtain⟨its,r',pl,hz⟩:=I.tuple hq
  exact call_tuple_same pl ⟨.ref p,H,I,rfl,q⟩⟩
def tyV(K:tz0)(T:String)(x:V)(H:Hp):Prop:=match x with
 | .str _=>T="str"
 | .int _=>T="int"
 | .ref p=>(T="list"/\∃xs,SqL K H p xs)\/(T="tuple"/\∃o,K.lookup p=some o/\o.cls= .type "tuple"/\o.dict=none)\/
   (T="dict"/\((∃kvs,H p=some (.dK kvs))\/∃kvs,H p=some (.dT kvs)))\/(T="set"/\∃S n,H p=some (.set S n))
 |_=>False
theorem yy0{pins:tzB}{σ:St}{H:Hp}{s:Shared}{T:String}{x:V}{v:Value}(I:Inv X pins σ H s)(r:cF x v)(ty:tyV X.K T x H):
  s.TypeIs v T/\∀a,v= .ref a->∃ob,s.heap.get? a=some ob/\ob.dict=none:=by
 cases x with
 |str z=>
  obtain⟨t,rfl⟩:=r
  cases(show T="str" from ty)
  exact⟨Xc s z t,fun _ e=>nomatch e⟩
 |int i=>
  obtain⟨t,rfl⟩:=r
  cases(show T="int" from ty)
  exact⟨typeIs_int s i t,fun _ e=>nomatch e⟩
 | ref p=>
  cases r
  rcases ty with ⟨rfl,xs,hq⟩|⟨rfl,o,hk,hc,hd⟩|⟨rfl,hk⟩|⟨rfl,S,n,hk⟩
  ·obtain⟨its,_,pl,_⟩:=I.list hq
   refine⟨pl.isList.typeIs,fun a e=> ?_⟩
   cases e
   obtain⟨o,n,e,c,hd,_⟩:=pl
   exact⟨o,e,hd⟩
  ·refine⟨⟨o,I.kIn p o hk,hc⟩,fun a e=> ?_⟩
   cases e
   exact⟨o,I.kIn _ o hk,hd⟩
  ·have z:∃o,s.heap.get? p=some o/\o.ExactDict:=by
    rcases hk with ⟨kvs,hk⟩|⟨kvs,hk⟩
    ·obtain⟨_,_,_,_,o,_,_,e,ex,_⟩:=I.hok p _ hk
     exact⟨o,e,ex⟩
    ·obtain⟨_,_,_,_,o,_,_,e,ex,_⟩:=I.hok p _ hk
     exact⟨o,e,ex⟩
   obtain⟨o,e,ex⟩:=z
   refine⟨⟨o,e,ex.1⟩,fun a e2=> ?_⟩
   cases e2
   exact⟨o,e,ex.2.1⟩
  ·obtain⟨o,_,_,_,e,ex,_⟩:=I.hok p _ hk
   refine⟨⟨o,e,ex.1⟩,fun a e2=> ?_⟩
   cases e2
   exact⟨o,e,ex.2.1⟩
 |_=>exact False.elim ty
def wq5(K:tz0)(T:String)(r:V->List V->Hp->VK->Prop)(to:TE):TE:=fun σ H Q=>to σ H fun x H1=>tyV K T x H1/\r x [] H1 Q
def tBM(K:tz0)(T:String)(r:V->List V->Hp->VK->Prop)(to:TE)(t:TA):TE:=fun σ H Q=>to σ H fun x H1=>tyV K T x H1/\t σ H1 fun xs H2=>r x xs H2 Q
variable{o e:Expr}{es:List Expr}{to:TE}{t:TA}{name:Str}{apos cpos:Pos}{T id:String}{r:V->List V->Hp->VK->Prop}
theorem wc8(pa:PlainAttrs T)(slot:Slot T name id)(hty:typeOf (.builtin id)=pure (.type "method_descriptor"))(hm:MtR X id r)(ho:PE X o to)
  (hbase:attributeBase o name X.env (eval o X.env)=eval o X.env:=by rfl) (hline:(apos.endLine==cpos.line)=true:=by rfl):PE X (.Call (.Attribute o name apos) [] [] cpos) (wq5 X.K T r to):=⟨by
 intro pins s σ H Q I h
 refine wpAny_Call_method0_late hbase hline (thn (ho pins s σ H _ I h) fun v s1 ⟨x,H1,I1,r1,ty,q1⟩=> ?_)
 obtain⟨h1,h2⟩:=yy0 I1 r1 ty
 exact⟨T,id,pa,slot,hty,h1,h2,Xd rfl (PySem.evalArgs_none (hm pins s1 σ H1 x [] v [] Q I1 r1 .nil q1))⟩⟩
theorem xr0(pa:PlainAttrs T)(slot:Slot T name id)(hty:typeOf (.builtin id)=pure (.type "method_descriptor"))(hm:MtR X id r)(ho:PE X o to)(ha:PA X (e::es) t)
  (hbase:attributeBase o name X.env (eval o X.env)=eval o X.env:=by rfl)
  (hfew:((backTo cpos (starEach (e::es) X.env)).all (fun x=> !x.1)&&(backToKw cpos (keywordEach [] X.env)).all (fun x=>x.1.isSome)
   &&decide ((e::es).length+([]:List Keyword).length+(if ([]:List Keyword).isEmpty then 0 else 1)<30))=true:=by rfl)
  (hline:(apos.endLine==cpos.line)=true:=by rfl) (hs:StE e es X:=by rfl) (hplain:(backTo cpos (starEach es X.env)).any (·.1)=false:=by rfl):
  PE X (.Call (.Attribute o name apos) (e::es) [] cpos) (tBM X.K T r to t):=⟨by
 intro pins s σ H Q I h
 refine wpAny_Call_method_late hbase hfew hline rfl (thn (ho pins s σ H _ I h) fun v s1 ⟨x,H1,I1,r1,ty,q1⟩=> ?_)
 obtain⟨h1,h2⟩:=yy0 I1 r1 ty
 refine⟨T,id,pa,slot,hty,h1,h2,?_⟩
 have hA:=ha cpos pins s1 σ H1 _ I1 q1
 rw [hs] at hA|-
 refine Xd (by show(false||(backTo cpos (starEach es X.env)).any (·.1))=false;rw [hplain]<;>rfl) (Calls.evalArgs_plain ?_)
 exact thn hA fun us s2 ⟨vs,H2,I2,r2,q2⟩=>hm pins s2 σ H2 x vs v us Q I2 r1 r2 q2⟩
end
theorem bF.one:∀{x:V} {us:List Value},bF [x] us->∃u,us=[u]/\cF x u
 |_,_,.cons r .nil=>⟨_,rfl,r⟩
theorem bF.zero:∀{us:List Value},bF [] us->us=[]
 |_,.nil=>rfl
theorem bF.dropLast{xs:List V}{us:List Value}(h:bF xs us):bF xs.dropLast us.dropLast:=by
 induction h with
 |nil=>exact .nil
 |cons r t ih=>
  cases t with
  |nil=>exact .nil
  |cons q t'=>exact .cons r ih
theorem bF.rep{xs:List V}{us:List Value}(h:bF xs us):∀k:Nat,bF (List.replicate k xs).flatten (List.replicate k us).flatten
 |0=> .nil
 |k+1=>by
  rw [Yc,Yc,Yz,Yz]
  exact bF.append h (bF.rep h k)
theorem yq7{α:Type}(l:List α):l.eraseIdx (l.length-1)=l.dropLast:=by
 induction l with
 |nil=>rfl
 | cons a r ih=>
  cases r with
  |nil=>rfl
  | cons b r=>
   have e:(a::b::r).length-1=((b::r).length-1)+1:=by
    have h1:(a::b::r).length=r.length+2:=rfl
    have h2:(b::r).length=r.length+1:=rfl
    omega
   rw [e,List.eraseIdx_cons_succ,ih]
   all_goals rfl
section
variable{X:Cx}{pins:tzB}{σ:St}{H:Hp}{s:Shared}{l b:Addr}{xs ys zs:List V}
theorem Inv.lset{its its':List Value}{n:Nat}{f:Array Value->Array Value}{t':Nat}(I:Inv X pins σ H s)(hH:H l=some (.lst xs))
  (e:s.heap.get? l=some {cls:= .type "list",data:= .seq its.toArray n}) (hf:f its.toArray=its'.toArray) (hv:bF ys its') (hz:ys.length<=sizeLine):
  Inv X pins σ (upd H l (.lst ys)) {s with heap:=s.heap.update l (Obj.mapSeq f),toks:=t'}:=by
 have q:=PySem.IsL.update e f
 rw [hf] at q
 refine I.write (x:=l) (e:=l) (by rw [hH];exact trivial) (.inl rfl) (fun b' u hb hu=>(ZY s.heap (Obj.mapSeq f) (Y7 hb)).trans hu) ⟨_,q⟩ ?_
 exact⟨hz,its',_,hv,q⟩
theorem Inv.lnew{its:List Value}{t':Nat}(I:Inv X pins σ H s)(hv:bF ys its)(hz:ys.length<=sizeLine):
  Inv X pins σ (upd H s.heap.objs.size (.lst ys)) {s with heap:=s.heap.push {cls:= .type "list",data:= .seq its.toArray},toks:=t'}:=
 I.laid (fun _ _ q=>Zf _ q) (Zb _) ⟨hz,its,0,hv,Zv _ rfl⟩
theorem Inv.fresh(I:Inv X pins σ H s):H s.heap.objs.size=none:=I.hok.fresh (Zb _)
theorem Inv.lstM(I:Inv X pins σ H s)(hH:H l=some (.lst xs)):xs.length<=sizeLine/\∃(its:List Value) (n:Nat),bF xs its/\xs.length=its.length/\s.heap.get? l=some {cls:= .type "list",data:= .seq its.toArray n}:=by
 obtain⟨z,its,n,r,e⟩:=I.hok l _ hH
 exact⟨z,its,n,r,r.length,e⟩
end
section
variable{X:Cx}
def wa2:V->List V->Hp->VK->Prop:=fun x vs H Q=>∃l xs y,x= .ref l/\vs=[y]/\H l=some (.lst xs)/\xs.length<sizeLine/\Q .non (upd H l (.lst (xs++[y])))
theorem zs4:MtR X "list.append" wa2:=⟨by
 intro pins s σ H x vs v us Q I rx rv h
 obtain⟨l,xs,y,rfl,rfl,hH,hz,q⟩:=h
 cases rx
 obtain⟨u,rfl,ru⟩:=rv.one
 obtain⟨z,its,n,r,hl,e⟩:=I.lstM hH
 refine XA F.slot_list_append ⟨_,e,rfl⟩ F.entry_list_append (F.args_list_append_2 _ _) (PySem.list_append l its.toArray n u (by rw [Zi];omega)) ⟨e,?_⟩
 refine⟨.non,_,I.lset (its':=its++[u]) hH e (by simp) (r.append (.cons ru .nil)) ?_,rfl,q⟩
 rw [Z5,Wb]
 omega⟩
def wq6:V->List V->Hp->VK->Prop:=fun x vs H Q=>∃l xs y,x= .ref l/\vs=[]/\H l=some (.lst xs)/\xs[xs.length-1]? =some y/\Q y (upd H l (.lst xs.dropLast))
theorem wc9:MtR X "list.pop" wq6:=⟨by
 intro pins s σ H x vs v us Q I rx rv h
 obtain⟨l,xs,y,rfl,rfl,hH,hy,q⟩:=h
 cases rx
 have hus:=rv.zero
 subst hus
 obtain⟨z,its,n,r,hl,e⟩:=I.lstM hH
 obtain⟨u,hu,ru⟩:=r.get hy
 have hy':its.toArray[its.toArray.size-1]? =some u:=by
  show its.toArray[its.length-1]? =some u
  rw [<-Wc,<-hl]
  exact hu
 refine XA F.slot_list_pop ⟨_,e,rfl⟩ F.entry_list_pop (F.args_list_pop_1 _) (MeetsSeq.list_pop_last l its.toArray n u hy' (by rw [Zi];omega)) ⟨e,?_⟩
 refine⟨y,_,I.lset (its':=its.dropLast) hH e ?_ r.dropLast ?_,ru,q⟩
 ·show its.toArray.eraseIdxIfInBounds (its.toArray.size-1)=its.dropLast.toArray
  rw [Zi,List.eraseIdxIfInBounds_toArray,yq7]
 ·rw [List.length_dropLast]
  omega⟩
end
end L2
namespace Att
open PySem PySem.W PySem.Calls PyProof.Rows
theorem zi6{P:Params}{h:Heap}:∀(ns:List Int) (vs:List Value),WellAll P h vs (ns.map WData.int)->IntsAre vs ns:=by
 intro ns
 induction ns with
 |nil=>
  intro vs w
  rw [Xm] at w
  cases w
  exact .nil
 | cons n ns ih=>
  intro vs w
  rw [Z8] at w
  cases w with
  |cons a b=>
   cases a
   exact .cons _ _ (ih _ b)
theorem yy1{l:OpenLaw}{n:Nat}(hn:l.most=some n){P:Params}{h:Heap}{args:List WData}{vals:List Value}
  (hpre:l.row.toRowW.claim.pre args=true) (hwl:WellAll P h vals args):
  ∃a vs ns,vals=[Value.ref a]/\args=[WData.list (ns.map WData.int)]/\h.get? a=some {cls:= .type "list",data:= .seq vs.toArray}/\IntsAre vs ns/\ns.length<=n:=by
 have hsh:WShape.hasAll [] args [.list .int]=true:=(pre_splitW hpre).1
 have hc:l.pre.holds [] {args:=args}=true:=(pre_splitW hpre).2
 obtain⟨d,r,rfl,h1,h2⟩:=hasAllW_cons hsh
 obtain rfl:=hasAllW_nil h2
 obtain⟨xs,rfl,h3⟩:=hasW_list h1
 obtain⟨ns,rfl⟩:=items_int h3
 have hlen:ns.length<=n:=by
  unfold OpenLaw.pre at hc
  have h4:(WTm.not (.lt (.lit (.int (n:Int))) (.len (.arg 0)))).holds [] {args:=[.list (ns.map .int)]}=true:=by
   have h4:=(holds_andW hc).1
   rw [hn] at h4
   exact h4
  have h5:=condW_of h4 (w_not (w_lt w_lit (w_len_list (w_arg rfl))))
  rw [Z7] at h5
  refine Nat.le_of_not_lt fun q=> ?_
  have q':(n:Int)<((ns.length:Nat):Int):=by omega
  first
   |(rw [Zr q'] at h5;exact absurd h5 (by decide))
   |(simp at h5;omega)
 cases hwl with
 |cons w1 w2=>
  cases w2
  cases w1 with
  |list ho hall=>exact⟨_,_,ns,rfl,rfl,ho,zi6 ns _ hall,hlen⟩
theorem yy2(l:OpenLaw)(args:List WData):l.row.toRowW.claim.post args (.bool true) args=true:=
 postW_of (r:=l.row.toRowW) (X:=(true==true))
  (show WShape.has [] (.bool true) .bool=true by first|rfl|decide|simp [WShape.has,WShape.arms,WShape.armsAll])
  (show(WTm.eq .res (.lit (.bool true))).value [] {args:=args,res:=some (.bool true),after:=args}=some (.bool (true==true)) from w_eq_bool (w_res rfl) w_lit) rfl
theorem attach_call{l:OpenLaw}{n:Nat}{q:Program}{loose:List Str}{XP:(tzA)->Heap->Prop}{YP:World->Heap->Prop}{d:DefRec}
  (hn:l.most=some n) (hdf:d.params.defaults=[])
  (call:∀(w:World) (s₀ s₁:Shared) (mg mb:tzA) (fa:Addr) (o:Obj) (pm cd doc:Value) (a:Addr) (vs:List Value) (ns:List Int),
   Ground q loose [] XP w s₀ mg mb s₁.heap->YP w s₁.heap->
   s₁.heap.get? fa=some o->o.data= .func (docDef d.name d.params d.body d.scope pm cd doc)->s₁.heap.CodeRec cd d.name->mg d.name=some (.ref fa)->
   s₁.heap.get? a=some {cls:= .type "list",data:= .seq vs.toArray}->IntsAre vs ns->ns.length<=n->s₁.gens= #[]->
   codeAny (model l.prog w) callerA (.call (.ref fa) ⟨[.ref a],[]⟩) (fun r s'=>r= .ok (.ret (.bool true))/\OldK s₁.heap s'.heap/\s'.os=s₁.os/\AllBare s'.gens) s₁):
  WalkO q loose XP YP l.row.toRowW d [] (fun f vs=>PySem.call f vs):=by
 intro w s₀ s₁ mg mb G Y fa o pm cd doc dV kV ho hd hcd hD hmg hg args vals as hpre hlay hrd hwl hlo
 obtain rfl:dV= .none:=Dflts.none hD hdf
 obtain rfl:kV= .none:=Dflts.noKw hD
 obtain⟨a,vs,ns,rfl,rfl,hobj,hints,hlen⟩:=yy1 hn hpre hwl
 refine enter_call (Xb (call w s₀ s₁ mg mb fa o pm cd doc a vs ns G Y ho (fd_plain hd) hcd hmg hobj hints hlen hg) fun r s' hq=> ?_)
 obtain⟨rfl,h2,h3,h4⟩:=hq
 exact⟨.inl ⟨.bool true,.bool true,[],rfl,fun _=>rfl,.bool true,yy2 l _,fun _=>⟨List.Pairwise.nil,fun _ hm=>(nomatch hm)⟩⟩,h2,h3,h4⟩
end Att
namespace L2
open PySem PySem.Spec PyProof.Rows
theorem zs5:∀{vs:List Value} {ns:List Int},IntsAre vs ns->bF (ns.map V.int) vs
 |_,_,.nil=> .nil
 |_,_,.cons n t h=> .cons ⟨t,rfl⟩ (zs5 h)
def xp6(H:Hp):Prop:=∀b,H b=none\/∃o xs,H b=some (.frz o (.lst xs))
theorem xj1{P:Program}{w:World}{K:tz0}{mg mb:tzA}{CX:CXT}{k:Nat}{fa a:Addr}{fd:FuncData}{x:Str}{sp:Sp}{s₁:Shared}{vs:List Value}{ns:List Int}
  (KX:K.In s₁.heap) (hns:s₁.heap.Ns mainGlobals mg) (hb:s₁.heap.Ns builtinsNs mb) (hbb:∀x:Str,x≠"__name__"->mb x=bootBuiltins x) (hlim:s₁.heap.NoLimit) (hg:s₁.gens= #[])
  (ha:s₁.heap.get? a=some {cls:= .type "list",data:= .seq vs.toArray}) (hi:IntsAre vs ns) (hl:ns.length<=sizeLine) (hr:Room k callerA)
  (F:∀base:Heap,K.In base->base.Ns mainGlobals mg->FnOk P w K mg base CX k fa fd [x] sp) (hbind:∀(s:Shared) (u:Value),BindsTo s fd ⟨[u],[]⟩ [(x,u)])
  (hsp:∀H:Hp,xp6 H->SqL K H a (ns.map V.int)->sp [.ref a] H (fun v _=>v= .bl true) fun _ _ _=>False)
  (hCX:∀H e s',CX [] H s₁ (fun _ _ _=>False) e s'->False):
  codeAny (model P w) callerA (.call (.ref fa) ⟨[.ref a],[]⟩) (fun r s'=>r= .ok (.ret (.bool true))/\OldK s₁.heap s'.heap/\s'.os=s₁.os/\AllBare s'.gens) s₁:=by
 have rv:=zs5 hi
 have lenV:=hi.length
 have core:∀H:Hp,xp6 H->SqL K H a (ns.map V.int)->HOk P w H s₁.heap->(∀b,H b≠none->b=a)->(H a≠none->K.lookup a=none)->
   codeAny (model P w) callerA (.call (.ref fa) ⟨[.ref a],[]⟩) (fun r s'=>r= .ok (.ret (.bool true))/\OldK s₁.heap s'.heap/\s'.os=s₁.os/\AllBare s'.gens) s₁:=by
  intro H hO hS hok hA hK
  have base_of:∀{b:Addr} {o:Obj},s₁.heap.get? b=some o->H b=none->(yB s₁.heap H).get? b=some o:=fun e n=>xh6 e n
  have noA:∀{b:Addr} {o:Obj} {es:Array DictEntry} {ep:Nat},s₁.heap.get? b=some o->o.data= .dict es ep->H b=none:=fun {b o es ep} e d=>by
   cases q:H b with
   |none=>rfl
   |some u=>
    have e':b=a:=hA b (by rw [q];simp)
    subst e'
    rw [ha] at e;cases e
    have d':Data.seq vs.toArray _=Data.dict es ep:=d
    cases d'
  have nsK:∀{b:Addr} {m:tzA},s₁.heap.Ns b m->(yB s₁.heap H).Ns b m:=fun {b m} ⟨o,es,ep,e,d,r⟩=>⟨o,es,ep,base_of e (noA e d),d,r⟩
  have hKb:K.In (yB s₁.heap H):=fun b o e=>base_of (KX b o e) (by
   cases q:H b with
   |none=>rfl
   |some u=>
    have e':b=a:=hA b (by rw [q];simp)
    subst e'
    rw [hK (by rw [q];simp)] at e;cases e)
  have hM:Mod K mg (yB s₁.heap H):=⟨hKb,nsK hns,⟨mb,nsK hb,hbb⟩,let ⟨mc,h1,h2⟩:=hlim;⟨mc,nsK h1,h2⟩⟩
  have e0:Env0 P w K mg (yB s₁.heap H) callerA [] s₁ H:=⟨rfl,hM,fun b o e=>xs8 e,Nat.le_of_eq (yw2 _ _),trivial,fun b hb=>absurd (show b∈([]:List Addr) from hb) (by simp),hok,.of_eq hg⟩
  refine Xb ((F _ hKb (nsK hns)).run callerA [] s₁ H ⟨[.ref a],[]⟩ [.ref a] [.ref a] _ _ hr e0 (hbind s₁ (.ref a)) (.cons rfl .nil) (hsp H hO hS)) fun r s' h=> ?_
  cases r with
  |error e=>exact(hCX H e s' h).elim
  | ok fl=>
   cases fl with
   |next=>exact False.elim h
   |brk=>exact False.elim h
   |cont=>exact False.elim h
   | ret u=>
    obtain⟨v,H',os,bare,un,hok',r',q⟩:=h
    have q':v= .bl true:=q
    subst q'
    obtain rfl:u=Value.bool true:=r'
    refine⟨rfl,OldK.of_keep fun b o e=> ?_,os,bare⟩
    cases q:H b with
    |none=>exact un.keep b o e q (by intro z;exact absurd (show b∈([]:List Addr) from z) (by simp)) (by simp)
    | some u=>
     rcases hO b with z|⟨ob,xs,z⟩
     ·rw [q] at z;cases z
     ·have z2:=un.frzs b ob _ z
      obtain⟨e1,_⟩:=hok b _ z
      obtain⟨e2,_⟩:=hok' b _ z2
      rw [e] at e1;cases e1
      exact e2
 cases hk:K.lookup a with
 |some o=>
  have e:=KX a o hk
  rw [ha] at e
  cases e
  refine core (fun _=>none) (fun _=> .inl rfl) (.inr ⟨_,vs.toArray,_,hk,rfl,rfl,rfl,by rw [Zi,lenV];exact hl,by simpa using rv⟩) (fun b u z=>by have z':(none:Option HO)=some u:=z;cases z') (fun b z=>absurd rfl z) fun z=>absurd rfl z
 | none=>
  refine core (fun b=>if b=a then some (.frz {cls:= .type "list",data:= .seq vs.toArray} (.lst (ns.map V.int))) else none) (fun b=> ?_) (.inl (.inr ⟨{cls:= .type "list",data:= .seq vs.toArray},if_pos rfl⟩)) (fun b u z=> ?_) (fun b z=> ?_) fun _=>hk
  ·by_cases hb:b=a
   ·exact .inr ⟨_,_,if_pos hb⟩
   ·exact .inl (if_neg hb)
  ·by_cases hb:b=a
   ·have z':=(if_pos hb).symm.trans z
    cases z'
    subst hb
    exact⟨ha,by rw [Z7];exact hl,vs,_,rv,ha⟩
   ·have z':=(if_neg hb).symm.trans z
    cases z'
  ·by_cases hb:b=a
   ·exact hb
   ·exact absurd (if_neg hb) z
theorem xu2{l:PySem.W.OpenLaw}{n k:Nat}{q:Program}{loose:List Str}{XP:(tzA)->Heap->Prop}{YP:World->Heap->Prop}{d:DefRec}{K:Params->tz0}{CX:World->CXT}{sp:World->Sp}{x:Str}
  (hn:l.most=some n) (hn2:n<=sizeLine) (hdf:d.params.defaults=[]) (hr:Room k callerA)
  (hY:∀(w:World) (h:Heap),YP w h->(K w.params).In h)
  (F:∀(w:World) (mg:tzA) (fa:Addr) (h:Heap),(K w.params).In h->h.Ns mainGlobals mg->mg d.name=some (.ref fa)->
   ∃fd:FuncData,(∀(s:Shared) (u:Value),BindsTo s fd ⟨[u],[]⟩ [(x,u)])/\
    ∀base:Heap,(K w.params).In base->base.Ns mainGlobals mg->FnOk l.prog w (K w.params) mg base (CX w) k fa fd [x] (sp w))
  (hsp:∀(w:World) (H:Hp) (a:Addr) (ns:List Int),ns.length<=n->xp6 H->SqL (K w.params) H a (ns.map V.int)->sp w [.ref a] H (fun v _=>v= .bl true) fun _ _ _=>False)
  (hCX:∀(w:World) (H:Hp) (s:Shared) (e:Value) (s':Shared),CX w [] H s (fun _ _ _=>False) e s'->False):
  PySem.W.WalkO q loose XP YP l.row.toRowW d [] (fun f vs=>PySem.call f vs):=by
 refine Att.attach_call hn hdf fun w s₀ s₁ mg mb fa o pm cd doc a vs ns G Y ho hd hcd hmg hobj hints hlen hg=> ?_
 have KX:=hY w _ Y
 obtain⟨fd,hb,hF⟩:=F w mg fa _ KX G.T.g hmg
 exact xj1 KX G.T.g G.T.b G.T.builtins G.T.nolimit hg hobj hints (Zu hlen hn2) hr hF hb (fun H hO hS=>hsp w H a ns hlen hO hS) fun H e s'=>hCX w H s₁ e s'
def iO(s:Stmt)(j:Nat):Stmt:=match s with
 | .ClassDef _ _ _ body _ _ _ _ _ _ _=>body.getD j (.Pass ⟨0,0,0,0⟩)
 |_=> .Pass ⟨0,0,0,0⟩
def wO(s:Stmt):Arguments:=match s with
 | .FunctionDef _ a _ _ _ _ _ _ _ _=>a
 |_=>{posonlyargs:=[],args:=[],vararg:=none,kwonlyargs:=[],kw_defaults:=[],kwarg:=none,defaults:=[]}
def mO(s:Stmt):List Stmt:=match s with
 | .FunctionDef _ _ b _ _ _ _ _ _ _=>b
 |_=>[]
def aS(s:Stmt):Scope:=match s with
 | .FunctionDef _ _ _ _ _ _ sc _ _ _=>sc
 |_=>{kind:= .function,names:=[],isGenerator:=false,isCoroutine:=false}
abbrev CX0:CXT:=fun _ _ _ _ _ _=>False
abbrev E0:XK:=fun _ _ _=>False
theorem zc5{X:Cx}:mZ CX0 X E0:=fun _ _ _ _ _ _ _ h=>h.elim
structure Fun(K:tz0)(x qual:Str)(st:Stmt)(f:Addr)(fd:FuncData):Prop where
 ex:∃(oc:Value) (od:Option Addr) (kV doc pm:Value) (an:Option Addr) (cdv ct:Value) (osl:Array (Option Value)),
  fd=PySem.W.fnOf x qual (wO st) (mO st) (aS st) .none kV doc pm an cdv ct/\K.lookup f=some ⟨oc,od,.func fd,osl⟩/\PySem.W.codeIn K cdv qual=true
 kp:PySem.W.keepIn K (.ref f)=true
section
variable{P:Program}{w:World}{K:tz0}{mg:tzA}{base:Heap}
theorem Fun.ok{x qual:Str}{st:Stmt}{f:Addr}{fd:FuncData}{N ps:List Str}{k:Nat}{sp:Sp}(F:Fun K x qual st f fd)(S:FnScope N ps (aS st))(len:∀vs H Q E,sp vs H Q E->vs.length=ps.length)
  (hbody:∀(cdv:Value) (A:Around) (outer:List Env) (s:Shared) (H:Hp) (vs:List V) (Q:VK) (E:XK),Room k (A.deeper (envOfC qual (aS st) s.heap.objs.size f cdv))->sp vs H Q E->
   ∃t,PSs (iS CX0 P w K mg base N qual (aS st) f cdv A outer s H E).nox (mO st) t/\t {nx:=fun _ H'=>Q .non H',rt:=Q} (start N vs) H):FnOk P w K mg base CX0 (k+1) f fd ps sp:=by
 obtain⟨oc,od,kV,doc,pm,an,cdv,ct,osl,rfl,lk,hcd⟩:=F.ex
 refine xq9 lk hcd S len fun A outer s H vs Q E hr hsp=> ?_
 obtain⟨t,h,q⟩:=hbody cdv A outer s H vs Q E hr hsp
 exact⟨t,h.nox,q⟩
theorem Fun.binds{x qual:Str}{st:Stmt}{f:Addr}{fd:FuncData}{ps:List Str}(F:Fun K x qual st f fd)
  (h:∀(kV doc pm:Value) (an:Option Addr) (cdv ct:Value) (us:List Value),us.length=ps.length->bindArgs (PySem.W.fnOf x qual (wO st) (mO st) (aS st) .none kV doc pm an cdv ct) ⟨us,[]⟩=pure (ps.zip us)):lI K fd ps []:=by
 obtain⟨oc,od,kV,doc,pm,an,cdv,ct,osl,rfl,lk,hcd⟩:=F.ex
 exact .all (h kV doc pm an cdv ct)
theorem yy3{x qual:Str}{st:Stmt}{f:Addr}{oc:Value}{od an:Option Addr}{osl:Array (Option Value)}{kV doc pm cdv ct:Value}(l:K.lookup f=some ⟨oc,od,.func (PySem.W.fnOf x qual (wO st) (mO st) (aS st) .none kV doc pm an cdv ct),osl⟩)
  (c:PySem.W.codeIn K cdv qual=true) (k:PySem.W.keepIn K (.ref f)=true):Fun K x qual st f (PySem.W.fnOf x qual (wO st) (mO st) (aS st) .none kV doc pm an cdv ct):=⟨⟨oc,od,kV,doc,pm,an,cdv,ct,osl,rfl,l,c⟩,k⟩
end
theorem uO{A:Around}{k:Nat}(hr:Room k A):A.units+1<cLine:=Yf (Nat.add_le_add_left (by decide:1<=64) _) hr.units
theorem qJ{n:Nat}(h:n<=1000):n<sizeLine:=Yf h (by decide)
section
variable{X:Cx}
theorem pv(i:Nat){x:Str}{pos:Pos}(hN:X.N[i]? =some x:=by rfl)(hv:Vis X.env.scope x:=by first|exact Or.inl rfl|exact Or.inr (Or.inl rfl)|exact Or.inr (Or.inr rfl))(hd:NDb x:=by decide)
  (hcd:(x==("__classdict__":Str))=false:=by decide):PE X (.Name x pos) (xp1 i):=tF hN hv hd hcd
end
theorem wn9{c A B:Prop}[Decidable c](h1:c->A)(h2:¬c->B):if c then A else B:=by
 by_cases h:c
 ·rw [if_pos h]
  exact h1 h
 ·rw [if_neg h]
  exact h2 h
def yu7(H H':Hp):Prop:=∀b o,H b=some o->H' b=some o
theorem yu7.free{H H':Hp}(e:yu7 H H'){l:Addr}(h:H' l=Option.none):H l=Option.none:=by
 cases q:H l with
 |none=>rfl
 |some o=>
  rw [e l o q] at h
  cases h
section
variable{κ:Type}[DecidableEq κ]
def pR(kvs:List (κ×V))(k:κ):Option V:=(kvs.find? fun kv=>decide (kv.1=k)).map (·.2)
def jU(kvs:List (κ×V))(k:κ)(v:V):List (κ×V):=
 if (kvs.any fun kv=>decide (kv.1=k))=true then kvs.map (fun kv=>if kv.1=k then(kv.1,v) else kv) else kvs++[(k,v)]
theorem tK{p:κ×V}{r:List (κ×V)}{k:κ}(e:p.1=k):pR (p::r) k=some p.2:=by simp [pR,Yp,e]
theorem tL{p:κ×V}{r:List (κ×V)}{k:κ}(e:¬p.1=k):pR (p::r) k=pR r k:=by simp [pR,Yp,e]
theorem zf8(k:κ):∀kvs:List (κ×V),(kvs.any fun kv=>decide (kv.1=k))=(pR kvs k).isSome
 |[]=>rfl
 |p::r=>by
  rw [YS]
  by_cases e:p.1=k
  ·simp only [tK e,Zr e,Bool.true_or,Option.isSome_some]
  ·rw [tL e,Zg e,Bool.false_or];exact zf8 k r
theorem zf1(kvs:List (κ×V))(k:κ)(v:V):(jU kvs k v).length<=kvs.length+1:=by
 unfold jU
 split
 ·rw [Z7];omega
 ·rw [Z5,Z6,ZU];omega
theorem kH.isSome_eq{o:Option V}{u:Option Value}(r:kH o u):o.isSome=u.isSome:=by
 cases o with
 |none=>cases u with
  |none=>rfl
  |some _=>exact(show False from r).elim
 |some _=>cases u with
  |none=>exact(show False from r).elim
  |some _=>rfl
theorem KV.val{kvs:List (κ×V)}{vs:List (κ×Value)}(r:KV kvs vs)(k:κ):kH (pR kvs k) (valueAt vs k):=by
 unfold KV at r
 induction r with
 |nil=>exact True.intro
 | @cons p q ps qs h t ih=>
  obtain⟨h1,h2⟩:=h
  by_cases e:p.1=k
  ·have e':q.1=k:=h1.symm.trans e
   have b:valueAt (q::qs) k=some q.2:=by simp [valueAt,Yp,e']
   rw [tK e,b];exact h2
  ·have e':¬q.1=k:=fun z=>e (h1.trans z)
   have b:valueAt (q::qs) k=valueAt qs k:=by simp [valueAt,Yp,e']
   rw [tL e,b];exact ih
theorem KV.any{kvs:List (κ×V)}{vs:List (κ×Value)}(r:KV kvs vs)(k:κ):(kvs.any fun kv=>decide (kv.1=k))=vs.any fun kv=>decide (kv.1=k):=by
 unfold KV at r
 induction r with
 |nil=>rfl
 |cons h t ih=>rw [YS,YS,ih,h.1]
theorem KV.repl{kvs:List (κ×V)}{vs:List (κ×Value)}(r:KV kvs vs)(k:κ){y:V}{u:Value}(ry:cF y u):
  KV (kvs.map fun kv=>if kv.1=k then(kv.1,y) else kv) (vs.map fun kv=>if kv.1=k then(kv.1,u) else kv):=by
 unfold KV at r|-
 induction r with
 |nil=>exact .nil
 | @cons p q ps qs h t ih=>
  rw [Z8,Z8]
  refine .cons ?_ ih
  obtain⟨h1,h2⟩:=h
  by_cases e:p.1=k
  ·rw [if_pos e,if_pos (h1.symm.trans e)];exact⟨h1,ry⟩
  ·rw [if_neg e,if_neg (fun z=>e (h1.trans z))];exact⟨h1,h2⟩
theorem KV.put{kvs:List (κ×V)}{vs:List (κ×Value)}(r:KV kvs vs)(k:κ){y:V}{u:Value}(ry:cF y u):KV (jU kvs k y) (stored vs k u):=by
 unfold jU stored
 rw [r.any k]
 by_cases e:(vs.any fun kv=>decide (kv.1=k))=true
 ·rw [if_pos e,if_pos e];exact r.repl k ry
 ·rw [if_neg e,if_neg e];exact Paired.snoc r ⟨rfl,ry⟩
theorem KV.keys{kvs:List (κ×V)}{vs:List (κ×Value)}(r:KV kvs vs):kvs.map (·.1)=vs.map (·.1):=by
 unfold KV at r
 induction r with
 |nil=>rfl
 |cons h t ih=>rw [Z8,Z8,ih,h.1]
theorem KV.length{kvs:List (κ×V)}{vs:List (κ×Value)}(r:KV kvs vs):kvs.length=vs.length:=ZI r
end
theorem zx5{P:Program}{w:World}{k:Key}{u:Value}(r:cF (kV k) u):(eO P w).is k u=true:=by
 cases k with
 |inl i=>obtain⟨t,e⟩:=(show ∃t,u=Value.int i t from r);subst e;exact yi1 P w i t
 |inr x=>obtain⟨t,e⟩:=(show ∃t,u=Value.str x t from r);subst e;exact yi2 P w x t
theorem zs6{P:Program}{w:World}:∀{ks:List Key} {us:List Value},bF (ks.map kV) us->ItemsAre (eO P w) ks us
 |[],_,r=>by rw [Xm] at r;cases r;exact .nil
 |k::ks,_,r=>by
  rw [Z8] at r
  cases r with
  |cons h t=>exact .cons (zx5 h) (zs6 t)
abbrev KT(H:Hp):List (List Key×V)->List (List Key×Addr×Value)->Prop:=Paired fun p q=>p.1=q.1/\H q.2.1=some (.tup (p.1.map kV))/\cF p.2 q.2.2
theorem KT.val{H:Hp}{kvs:List (List Key×V)}{xs:List (List Key×Addr×Value)}(r:KT H kvs xs)(k:List Key):kH (pR kvs k) ((atKey xs k).map (·.2)):=by
 induction r with
 |nil=>exact True.intro
 | @cons p q ps qs h t ih=>
  obtain⟨h1,_,h2⟩:=h
  by_cases e:p.1=k
  ·have e':q.1=k:=h1.symm.trans e
   have b:atKey (q::qs) k=some q.2:=by simp [atKey,Yp,e']
   rw [tK e,b];exact h2
  ·have e':¬q.1=k:=fun z=>e (h1.trans z)
   have b:atKey (q::qs) k=atKey qs k:=by simp [atKey,Yp,e']
   rw [tL e,b];exact ih
theorem KT.repl{H:Hp}{kvs:List (List Key×V)}{xs:List (List Key×Addr×Value)}(r:KT H kvs xs)(k:List Key){y:V}{u:Value}(ry:cF y u):
  KT H (kvs.map fun kv=>if kv.1=k then(kv.1,y) else kv) (xs.map (putAt k u)):=by
 induction r with
 |nil=>exact .nil
 | @cons p q ps qs h t ih=>
  rw [Z8,Z8]
  refine .cons ?_ ih
  obtain⟨h1,h2,h3⟩:=h
  unfold putAt
  by_cases e:p.1=k
  ·rw [if_pos e,if_pos (h1.symm.trans e)];exact⟨h1,h2,ry⟩
  ·rw [if_neg e,if_neg (fun z=>e (h1.trans z))];exact⟨h1,h2,h3⟩
theorem KT.put{H:Hp}{kvs:List (List Key×V)}{xs:List (List Key×Addr×Value)}(r:KT H kvs xs)(k:List Key){b:Addr}{y:V}{u:Value}(hb:H b=some (.tup (k.map kV)))(ry:cF y u):
  KT H (jU kvs k y) (storedH xs k b u):=by
 have e:(kvs.any fun kv=>decide (kv.1=k))=(atKey xs k).isSome:=by
  rw [zf8,(r.val k).isSome_eq,Wu]
 unfold jU storedH
 rw [e]
 by_cases q:(atKey xs k).isSome=true
 ·rw [if_pos q,if_pos q];exact r.repl k ry
 ·rw [if_neg q,if_neg q];exact Paired.snoc r ⟨rfl,hb,ry⟩
theorem KT.keeps{H H':Hp}{kvs:List (List Key×V)}{xs:List (List Key×Addr×Value)}(r:KT H kvs xs)(ht:∀b ys,H b=some (.tup ys)->H' b=some (.tup ys)):KT H' kvs xs:=
 Paired.mapP r fun _ _ z=>⟨z.1,ht _ _ z.2.1,z.2.2⟩
section
variable{P:Program}{w:World}{H:Hp}{h:Heap}{a:Addr}
theorem xr1{u:HO}(ok:HOk P w H h)(e:Rd H a u):dI P w H h a u:=e.ok ok
theorem uP{kvs:List (Key×V)}(ok:HOk P w H h)(e:Rd H a (.dK kvs)):kvs.length<=sizeLine/\(a==sysModules)=false/\∃vs,KV kvs vs/\h.DictOf (eO P w) a vs:=
 show dI P w H h a (.dK kvs) from xr1 ok e
theorem wk4{kvs:List (Key×V)}(ok:HOk P w H h)(e:H a=some (.dK kvs)):kvs.length<=sizeLine/\(a==sysModules)=false/\∃vs,KV kvs vs/\h.DictOf (eO P w) a vs:=uP ok (.inl e)
theorem zi7{ks:List Key}(ok:HOk P w H h)(e:H a=some (.tup (ks.map kV))):(tupleKind (eO P w)).is h ks a:=by
 obtain⟨_,its,r,o,h1,h2,n,h3⟩:=(show dI P w H h a (.tup (ks.map kV)) from ok a _ e)
 exact⟨o,its.toArray,n,h1,h2,h3,by simpa using zs6 r⟩
theorem zi8{kvs:List (List Key×V)}(ok:HOk P w H h)(e:Rd H a (.dT kvs)):kvs.length<=sizeLine/\(a==sysModules)=false/\
  ∃xs,KT H kvs xs/\h.DictOfH (tupleKind (eO P w)) a xs:=by
 obtain⟨z,y,xs,r,o,es,ep,h1,h2,h3,h4,h5⟩:=(show dI P w H h a (.dT kvs) from xr1 ok e)
 refine⟨z,y,xs,r,o,es,ep,h1,h2,h3,h4,fun x hx=> ?_,h5⟩
 have all:∀{l:List (List Key×V)} {m:List (List Key×Addr×Value)},KT H l m->∀x∈m,(tupleKind (eO P w)).is h x.1 x.2.1:=by
  intro l m q
  induction q with
  |nil=>intro x hx;exact nomatch hx
  | @cons p q ps qs hq t ih=>
   intro x hx
   rcases Z3.mp hx with e|hx
   ·subst e
    exact zi7 ok (by rw [<-hq.1];exact hq.2.1)
   ·exact ih x hx
 exact all r x hx
theorem wk5{kvs:List (List Key×V)}(ok:HOk P w H h)(e:H a=some (.dT kvs)):kvs.length<=sizeLine/\(a==sysModules)=false/\
  ∃xs,KT H kvs xs/\h.DictOfH (tupleKind (eO P w)) a xs:=zi8 ok (.inl e)
end
def zr3(H:Hp)(a:Addr)(y:V)(r:Option V):Prop:=
 (∃kvs k,Rd H a (.dK kvs)/\y=kV k/\r=pR kvs k)\/∃kvs k b,Rd H a (.dT kvs)/\y= .ref b/\H b=some (.tup (k.map kV))/\r=pR kvs k
def wi4(H:Hp)(a:Addr)(y v:V)(H':Hp):Prop:=
 (∃kvs k,H a=some (.dK kvs)/\y=kV k/\kvs.length<sizeLine/\H'=upd H a (.dK (jU kvs k v)))\/
 ∃kvs k b,H a=some (.dT kvs)/\y= .ref b/\H b=some (.tup (k.map kV))/\kvs.length<sizeLine/\H'=upd H a (.dT (jU kvs k v))
section
variable{X:Cx}{pins:tzB}{σ:St}{H:Hp}{s:Shared}{a:Addr}{y v:V}{u r:Value}{o:Option V}{A:Around}{E:Value->Shared->Prop}
theorem Inv.big(I:Inv X pins σ H s):sysModules<s.heap.objs.size:=by
 have h:mainGlobals<s.heap.objs.size:=(I.mod.glob.keeps I.bk).lt
 exact Nat.lt_trans (by decide) h
theorem yy4{Q:Value->Shared->Prop}(hu:A.units+1<cLine)(I:Inv X pins σ H s)(g:zr3 H a y (some v))(ry:cF y u)(h:∀w' s',Inv X pins σ H s'->cF v w'->Q w' s'):
  wpAny (model X.prog X.w) A (getItem (.ref a) u) Q E s:=by
 rcases g with ⟨kvs,k,e,ey,l⟩|⟨kvs,k,b,e,ey,eb,l⟩
 ·subst ey
  obtain⟨z,hd,vs,rel,dd⟩:=uP I.hok e
  obtain⟨w',hw,rw'⟩:=kH.some_of (v:=v) (o:=valueAt vs k) (by rw [l];exact rel.val k)
  exact wpAny_getItem_of (zx5 ry) dd.mapOf hw (h w' _ (I.tok _) rw')
 ·subst ey
  cases(show u=Value.ref b from ry)
  obtain⟨z,hd,xs,rel,dd⟩:=zi8 I.hok e
  obtain⟨w',hw,rw'⟩:=kH.some_of (v:=v) (o:=(atKey xs k).map (·.2)) (by rw [l];exact rel.val k)
  obtain⟨p,hp,hp2⟩:=Zp.mp hw
  refine wpAny_getItem_heap (XB hu) (zi7 I.hok eb) dd hp ?_
  rw [hp2]
  exact h w' _ (I.tok _) rw'
theorem xu3{Q:Value->Shared->Prop}(hu:A.units+1<cLine)(I:Inv X pins σ H s)(g:zr3 H a y o)(ry:cF y u)(h:∀s',Inv X pins σ H s'->Q (.bool (!o.isSome)) s'):
  wpAny (model X.prog X.w) A (compareOp .NotIn u (.ref a)) Q E s:=by
 rcases g with ⟨kvs,k,e,ey,l⟩|⟨kvs,k,b,e,ey,eb,l⟩
 ·subst ey
  obtain⟨z,hd,vs,rel,dd⟩:=uP I.hok e
  refine wpAny_notIn_of (zx5 ry) hd dd.mapOf ?_
  rw [<-(rel.val k).isSome_eq,<-l]
  exact h _ (I.tok _)
 ·subst ey
  cases(show u=Value.ref b from ry)
  obtain⟨z,hd,xs,rel,dd⟩:=zi8 I.hok e
  refine wpAny_notIn_heap (XB hu) (zi7 I.hok eb) hd dd ?_
  have q:=(rel.val k).isSome_eq
  rw [Wu] at q
  rw [<-q,<-l]
  exact h _ (I.tok _)
theorem yk5{h':Heap}{t':Nat}{ob:HO}(I:Inv X pins σ H s)(mu:Mut (H a))(hs:Heap.SameBut a s.heap h')(he:∃q,h'.get? a=some q)(new:dI X.prog X.w (upd H a ob) h' a ob):
  Inv X pins σ (upd H a ob) {s with heap:=h',toks:=t'}:=
 I.write (x:=a) (e:=a) mu (.inl rfl) (fun b q hb z=>(hs.2 b hb).trans z) he new
theorem wd0{P:Program}{w:World}{H':Hp}{h':Heap}{kvs:List (Key×V)}{vs:List (Key×Value)}(z:kvs.length<=sizeLine)(hd:(a==sysModules)=false)(rel:KV kvs vs)(dd:h'.DictOf (eO P w) a vs):
  dI P w H' h' a (.dK kvs):=⟨z,hd,vs,rel,dd⟩
theorem yy5{H':Hp}{Q:Unit->Shared->Prop}(hu:A.units+1<cLine)(I:Inv X pins σ H s)(g:wi4 H a y v H')(ry:cF y u)(rv:cF v r)(h:∀s',Inv X pins σ H' s'->Q () s'):
  wpAny (model X.prog X.w) A (setItem (.ref a) u r) Q E s:=by
 rcases g with ⟨kvs,k,e,ey,l,eH⟩|⟨kvs,k,b,e,ey,eb,l,eH⟩
 ·subst ey eH
  obtain⟨z,hd,vs,rel,dd⟩:=wk4 I.hok e
  have hz:vs.length<=sizeLine:=by rw [<-rel.length];exact z
  have hl:(jU kvs k v).length<=sizeLine:=by have:=zf1 kvs k v;omega
  refine wpAny_setItem_pairs (hsz:=hz) (zx5 ry) dd fun h' dd' hs=>h _ ?_
  have he:∃q,h'.get? a=some q:=let ⟨q,_,_,hq,_⟩:=dd';⟨q,hq⟩
  exact yk5 I (by rw [e];exact True.intro) hs he (wd0 hl hd (rel.put k rv) dd')
 ·subst ey eH
  cases(show u=Value.ref b from ry)
  obtain⟨z,hd,xs,rel,dd⟩:=wk5 I.hok e
  have hz:xs.length<=sizeLine:=by rw [<-ZI rel];exact z
  have hl:(jU kvs k v).length<=sizeLine:=by have:=zf1 kvs k v;omega
  refine wpAny_setItem_heap (hsz:=hz) (XB hu) (zi7 I.hok eb) dd fun h' dd' hs=>h _ ?_
  obtain⟨q,es,ep,hq,h2,h3,h4,_,h5⟩:=dd'
  refine yk5 I (by rw [e];exact True.intro) hs ⟨q,hq⟩ ⟨hl,hd,_,(rel.put k eb rv).keeps fun c ys ec=> ?_,q,es,ep,hq,h2,h3,h4,h5⟩
  rw [bE (wj6 ec e (fun z=>nomatch z))]
  exact ec
end
section
variable{X:Cx}{pins:tzB}{σ:St}{H:Hp}{s:Shared}{a:Addr}{kvs:List (Key×V)}{k:Key}{u:Value}{A:Around}{E:Value->Shared->Prop}
theorem xu4{Q:Bool->Shared->Prop}(I:Inv X pins σ H s)(e:Rd H a (.dK kvs))(h:∀s',Inv X pins σ H s'->Q (!kvs.isEmpty) s'):wpAny (model X.prog X.w) A (truthy (.ref a)) Q E s:=by
 obtain⟨z,hd,vs,rel,dd⟩:=uP I.hok e
 refine wpAny_truthy_dict hd dd (by rw [<-rel.length];rw [Yi] at z;omega) ?_
 have q:kvs.isEmpty=vs.isEmpty:=by cases rel<;>rfl
 rw [<-q]
 exact h _ (I.tok _)
end
def xp7(i:Expr):Prop:=∀ov iv,subscripted i false ov iv=operate [ov,iv] (getItem ov iv)
theorem xu5{prog:Program}{w:World}{A:Around}{E:Value->Shared->Prop}{s:Shared}{env:Env}{value slice:Expr}{pos:Pos}{T id:String}{Q:Value->Shared->Prop}
  (hl:typeLookup (.type T) "__getitem__"=pure (some (.builtin id))) (hs:xp7 slice)
  (h:wpAny (model prog w) A (eval value env) (fun o s₁=>wpAny (model prog w) A (eval slice env) (fun i s₂=>s₂.TypeIs o T/\wpAny (model prog w) A (getItem o i) Q E s₂) E s₁) E s):
  wpAny (model prog w) A (eval (.Subscript value slice pos) env) Q E s:=by
 refine Subscript_ (ZN h (fun o s₁ h₁=>ZN h₁ (fun i s₂ h₂=> ?_) fun _ _ x=>x) fun _ _ x=>x)
 obtain⟨hT,h₂⟩:=h₂
 unfold subscriptTail
 refine Zh ?_
 rw [getitemInPython_of_ne hT.not_modules]
 refine Zh (wpAny_specialOf hT hl ?_)
 have fin:wpAny (model prog w) A (subscripted slice false o i) (fun r s₃=>wpAny (model prog w) A (letTemporaryGo value o r>>=fun _=>pure r) Q E s₃) E s₂:=by
  rw [hs o i]
  exact wpAny_operating (ZN h₂ (fun r s₃ h₃=>Zh (wpAny_letTemporaryGo (ZH h₃))) fun _ _ x=>x)
 first
  |exact ZH (Zh fin)
  |exact Zh (ZH (Zh fin))
  |exact Zh fin
theorem yi4{X:Cx}{pins:tzB}{σ:St}{H:Hp}{s:Shared}{a:Addr}{y:V}{o:Option V}(I:Inv X pins σ H s)(g:zr3 H a y o):s.TypeIs (.ref a) "dict":=by
 rcases g with ⟨kvs,k,e,_,_⟩|⟨kvs,k,b,e,_,_,_⟩
 ·obtain⟨_,_,vs,_,dd⟩:=uP I.hok e
  exact dd.typeIs
 ·obtain⟨_,_,xs,_,dd⟩:=zi8 I.hok e
  exact dd.typeIs
def wn3(td ty:TE):TE:=fun σ H Q=>td σ H fun x H1=>ty σ H1 fun y H2=>∃a v,x= .ref a/\zr3 H2 a y (some v)/\Q v H2
def wa3(ty td:TE):TE:=fun σ H Q=>ty σ H fun y H1=>td σ H1 fun x H2=>∃a o,x= .ref a/\zr3 H2 a y o/\Q (.bl (!o.isSome)) H2
def wn4(td ty tv:TE):TS:=fun D σ H=>tv σ H fun v H1=>td σ H1 fun x H2=>ty σ H2 fun y H3=>∃a H4,x= .ref a/\wi4 H3 a y v H4/\D.nx σ H4
section
variable{X:Cx}{o i e value:Expr}{pos pos' tpos:Pos}{td ty tv:TE}
theorem xu6(hu:X.A.units+1<cLine)(ho:PE X o td)(hi:PE X i ty)(hs:xp7 i):PE X (.Subscript o i pos) (wn3 td ty):=⟨by
 intro pins s σ H Q I h
 refine xu5 PySem.F.slot_dict_getitem.lookup hs (thn (ho pins s σ H _ I h) fun u s1 ⟨x,H1,I1,rx,q1⟩=>thn (hi pins s1 σ H1 _ I1 q1) fun iv s2 ⟨y,H2,I2,ry,a,v,ex,g,q2⟩=> ?_)
 subst ex
 obtain rfl:u=Value.ref a:=rx
 exact⟨yi4 I2 g,yy4 hu I2 g ry fun w' s3 I3 rw'=>⟨v,H2,I3,rw',q2⟩⟩⟩
theorem yy6(hu:X.A.units+1<cLine)(hi:PE X i ty)(ho:PE X o td):PC X .NotIn i o (wa3 ty td):=by
 intro pins s σ H Q I h
 refine thn (hi pins s σ H _ I h) fun iv s1 ⟨y,H1,I1,ry,q1⟩=>thn (ho pins s1 σ H1 _ I1 q1) fun u s2 ⟨x,H2,I2,rx,a,ov,ex,g,q2⟩=> ?_
 subst ex
 obtain rfl:u=Value.ref a:=rx
 exact xu3 hu I2 g ry fun s3 I3=>⟨.bl (!ov.isSome),H2,I3,rfl,q2⟩
theorem xu7(hu:X.A.units+1<cLine)(ho:PE X o td)(hi:PE X i ty)(hv:PE X value tv)(hs:swapsWith value (some (.Subscript o i pos')) pos.line X.env=pure false):
  PS X (.Assign [.Subscript o i pos'] value pos) (wn4 td ty tv):=⟨by
 intro pins s σ H D I h
 refine wpAny_Assign_Subscript (thn (hv pins s σ H _ I h) fun r s1 ⟨v,H1,I1,rv,q1⟩=>thn (ho pins s1 σ H1 _ I1 q1) fun u s2 ⟨x,H2,I2,rx,q2⟩=>thn (hi pins s2 σ H2 _ I2 q2) fun iv s3 ⟨y,H3,I3,ry,a,H4,ex,g,q3⟩=> ?_) hs
 subst ex
 obtain rfl:u=Value.ref a:=rx
 exact yy5 hu I3 g ry rv fun s4 I4=>⟨σ,H4,I4,q3⟩⟩
end
theorem xj2{P:Program}{w:World}{H:Hp}(h:Heap)(hb:sysModules<h.objs.size):dI P w H (h.push {cls:= .type "dict",data:= .dict #[]}) h.objs.size (.dK []):=
 ⟨ZK _,Y8.mpr (Y7 (ZG hb)),[],.nil,Heap.DictOf.new h⟩
def wi5:TE:=fun _ H Q=>∀p,H p=none->Q (.ref p) (upd H p (.dK []))
section
variable{X:Cx}{pos:Pos}
theorem xj3:PE X (.Dict [] [] pos) wi5:=⟨fun pins s σ H Q I h=>
 wpAny_Dict_empty ⟨.ref s.heap.objs.size,_,I.laid (a:=s.heap.objs.size) (o:= .dK []) (t':=s.toks) (fun _ _ q=>Zf _ q) (Zb _) (xj2 s.heap I.big),rfl,h _ (I.hok.fresh (Zb _))⟩⟩
end
def IsD(H:Hp)(a:Addr):Prop:=(∃kvs,Rd H a (.dK kvs))\/∃kvs,Rd H a (.dT kvs)
theorem wd1{X:Cx}{pins:tzB}{σ:St}{H:Hp}{s:Shared}{a:Addr}(I:Inv X pins σ H s)(d:IsD H a):
  s.TypeIs (.ref a) "dict"/\(∀b,Value.ref a= .ref b->∃ob,s.heap.get? b=some ob/\ob.dict=none)/\(a==sysModules)=false:=by
 rcases d with ⟨kvs,e⟩|⟨kvs,e⟩
 ·obtain⟨_,hd,vs,_,dd⟩:=uP I.hok e
  refine⟨dd.typeIs,fun b q=> ?_,hd⟩
  cases q
  obtain⟨ob,_,_,h1,h2,_⟩:=dd
  exact⟨ob,h1,h2.2.1⟩
 ·obtain⟨_,hd,xs,_,dd⟩:=zi8 I.hok e
  refine⟨dd.typeIs,fun b q=> ?_,hd⟩
  cases q
  obtain⟨ob,_,_,h1,h2,_⟩:=dd
  exact⟨ob,h1,h2.2.1⟩
structure Dn(K:tz0)(mg:tzA)(x:Str)(st:Stmt)(ps:List Str)(f:Addr)(fd:FuncData):Prop where
 F:Fun K x x st f fd
 b:lI K fd ps []
 m:mg x=some (.ref f)
section
variable{X:Cx}{x:Str}{st:Stmt}{ps:List Str}{f:Addr}{fd:FuncData}{k:Nat}{sp:Sp}{p pos:Pos}{e:Expr}{es:List Expr}{t:TA}
theorem yq8(D:Dn X.K X.mg x st ps f fd)(G:FnOk X.prog X.w X.K X.mg X.base CX0 k f fd ps sp)(hr:Room k X.A)(hg:Gl X x)(ha:PA X (e::es) t)
  (hdb:NDb x:=by decide) (he:StE e es X:=by rfl) (hpl:BkE pos es X:=by rfl):
  PE X (.Call (.Name x p) (e::es) [] pos) (zy0 sp [] E0 t):=yk4 G hr hg D.m D.F.kp D.b .nil zc5 ha hdb he hpl
theorem wd2(D:Dn X.K X.mg x st ps f fd)(G:FnOk X.prog X.w X.K X.mg X.base CX0 k f fd ps sp)(hr:Room k X.A)(hg:Gl X x)
  (hdb:NDb x:=by decide):PE X (.Call (.Name x p) [] [] pos) (zy0 sp [] E0 yu6):=xi4 G hr hg D.m D.F.kp D.b .nil zc5 hdb
end
theorem xj4{H:Hp}{p:Addr}(h:H p=none)(o:HO):yu7 H (upd H p o):=fun b u q=>by rw [bE (mK q h)];exact q
theorem zx6{n:Nat}(h:n<=1000):n<=sizeLine:=Yw (qJ h)
def wP(H:Hp):V->Option String
 | .non=>some "NoneType"
 | .bl _=>some "bool"
 | .int _=>some "int"
 | .str _=>some "str"
 | .ref a=>match H a with
  |some (.lst _)=>some "list"
  |some (.frz _ (.lst _))=>some "list"
  |some (.tup _)=>some "tuple"
  |some (.dK _)=>some "dict"
  |_=>none
 |_=>none
def yC(t c:String):Bool:=decide (t=c)||(decide (t="bool")&&decide (c="int"))
def kinds:List String:=["NoneType","bool","int","str","list","tuple","dict"]
theorem ya3(K:tz0):∀t∈kinds,∀c∈["bool","int","str","list","tuple","dict"],PySem.W.kitOne K (.type t) (.type c)=some (yC t c):=by
 intro t ht c hc
 simp only [kinds,Z3,ZR,X8] at ht hc
 rcases ht with rfl|rfl|rfl|rfl|rfl|rfl|rfl<;>rcases hc with rfl|rfl|rfl|rfl|rfl|rfl<;>rfl
theorem yy7{K:tz0}{H:Hp}{x:V}{t:String}(h:wP H x=some t):TyOf K H x (.type t)/\t∈kinds:=by
 cases x with
 |non=>cases h;exact⟨.non,by decide⟩
 |bl b=>cases h;exact⟨.bl b,by decide⟩
 |int i=>cases h;exact⟨.int i,by decide⟩
 |str x=>cases h;exact⟨.str x,by decide⟩
 | ref a=>
  have h':(match H a with
   |some (.lst _)=>some "list"
   |some (.frz _ (.lst _))=>some "list"
   |some (.tup _)=>some "tuple"
   |some (.dK _)=>some "dict"
   |_=>none)=some t:=h
  cases e:H a with
  |none=>rw [e] at h';cases h'
  | some o=>
   rw [e] at h'
   cases o with
   |lst xs=>cases h';exact⟨.lst e,by decide⟩
   |tup xs=>cases h';exact⟨.tup e,by decide⟩
   |dK kvs=>cases h';exact⟨.dK e,by decide⟩
   |frz ob u=>
    cases u with
    |lst xs=>cases h';exact⟨.frz e,by decide⟩
    |_=>cases h'
   |_=>cases h'
 |_=>cases h
section
variable{X:Cx}
theorem xj5:CallR X (.builtin "isinstance") (fun xs H Q=>∃x c t,xs=[x,.ty c]/\wP H x=some t/\c∈["bool","int","str","list","tuple","dict"]/\Q (.bl (yC t c)) H):=⟨by
 intro pins s σ H xs us Q I r h
 obtain⟨x,c,t,rfl,ht,hc,q⟩:=h
 obtain⟨u,v,rfl,rx,rc⟩:=yq0 r
 cases(show v=Value.type c from rc)
 obtain⟨ty,hk⟩:=yy7 (K:=X.K) ht
 exact yx4 I rx ty (ya3 X.K t hk c hc) fun tk=>⟨.bl (yC t c),H,I.tok tk,rfl,q⟩⟩
theorem zs7:∀{bs:List Bool} {us:List Value},bF (bs.map V.bl) us->LSm.BoolsAre us bs
 |[],_,.nil=> .nil
 |b::bs,_,.cons r t=>by
  cases(show _=Value.bool b from r)
  exact .cons b (zs7 t)
theorem wW:∀{ns:List Int} {us:List Value},bF (ns.map V.int) us->IntsAre us ns
 |[],_,.nil=> .nil
 |n::ns,_,.cons r t=>by
  obtain⟨k,rfl⟩:=r
  exact .cons n k (wW t)
theorem yy8(hc:X.calm=true):CallR X (.builtin "all") (fun xs H Q=>∃(a:Addr) (bs:List Bool),xs=[.ref a]/\SqL X.K H a (bs.map V.bl)/\Q (.bl (bs.all id)) H):=⟨by
 intro pins s σ H xs us Q I r h
 obtain⟨a,bs,rfl,hq,q⟩:=h
 obtain⟨u,rfl,rx⟩:=oB r
 cases(show u=Value.ref a from rx)
 obtain⟨its,rv,p,hz⟩:=I.list hq
 have hl:=p.isList
 have hb:=zs7 rv
 have hlt:a<s.heap.objs.size:=by obtain⟨_,e,_⟩:=hl;exact Zj e
 refine call_all_walk (wpAny_pyIter_list hl ?_)
 refine⟨s.heap.objs.size,[s.heap.objs.size,a],[s.heap.objs.size],its.toArray.size,_,_,fun i=>(bs[i]?).getD true,rfl,Walks.list (A:=X.A.in1) (I.ok.hd hc) _ a (ZG hlt) its.toArray,
  ⟨⟨_,Zv _ rfl,rfl,rfl⟩,hl.push _⟩,fun i v s' Q' E' hP hQ=> ?_,fun h' tk hk=> ?_⟩
 ·obtain⟨b,e,rfl⟩:=hb.get i v (by simpa using hP)
  simp only [e,Option.getD_some] at hQ
  exact Y4 hQ
 ·have e:((List.range its.toArray.size).all fun i=>(bs[i]?).getD true)=bs.all id:=by
   rw [Zi,hb.length];exact LSm.range_all bs
  rw [e]
  exact⟨.bl (bs.all id),H,I.kept (LSm.kept_iter hk),rfl,q⟩⟩
theorem yy9(hc:X.calm=true):CallR X (.builtin "sum") (fun xs H Q=>∃(a:Addr) (ns:List Int),xs=[.ref a]/\SqL X.K H a (ns.map V.int)/\Q (.int ns.sum) H):=⟨by
 intro pins s σ H xs us Q I r h
 obtain⟨a,ns,rfl,hq,q⟩:=h
 obtain⟨u,rfl,rx⟩:=oB r
 cases(show u=Value.ref a from rx)
 obtain⟨its,rv,p,hz⟩:=I.list hq
 have hi:=wW rv
 obtain⟨xs,hx⟩:=hi.allInts.items
 have hl':s.heap.IsList a (intItems xs):=hx▸p.isList
 refine sum_intListG (I.ok.hd hc) hl' fun h' tk t' hk=> ?_
 have e1:ns=xs.toList.map (·.1):=by
  rw [<-nums_intItems,<-hx]
  exact(show numsOf its.toArray.toList=ns from hi.numsOf).symm
 have e2:preSum (numAt xs) xs.size=ns.sum:=by
  rw [preSum_eq,List.take_of_length_le (by simp),e1]
 rw [e2]
 exact⟨.int ns.sum,H,I.kept hk,⟨_,rfl⟩,q⟩⟩
theorem yz0(hc:X.calm=true):CallR X (.builtin "min") (fun xs H Q=>∃(a:Addr) (ns:List Int),xs=[.ref a]/\SqL X.K H a (ns.map V.int)/\0<ns.length/\∀m,m∈ns->(∀n∈ns,m<=n)->Q (.int m) H):=⟨by
 intro pins s σ H xs us Q I r h
 obtain⟨a,ns,rfl,hq,hne,q⟩:=h
 obtain⟨u,rfl,rx⟩:=oB r
 cases(show u=Value.ref a from rx)
 obtain⟨its,rv,p,hz⟩:=I.list hq
 have hi:=wW rv
 obtain⟨xs,e⟩:=hi.allInts.items
 have hns:ns=xs.toList.map (·.1):=by
  rw [<-hi.numsOf,<-nums_intItems,<-e]
 have hsz:0<xs.size:=by
  have h3:=hne;rw [hns,Z7,Ya] at h3;exact h3
 have hl':s.heap.IsList a (intItems xs):=e▸p.isList
 refine min_intList (I.ok.hd hc) hl' hsz fun v h' tk hv hk=> ?_
 obtain⟨t,rfl⟩:=intItems_at hv
 obtain⟨h1,h2⟩:=argBest_lt (numAt xs) (xs.size-1)
 refine⟨.int _,H,I.kept hk,⟨t,rfl⟩,q _ ?_ fun b hb=> ?_⟩
 ·rw [hns,numAt_eq];exact getD_mem (by rw [Z7,Ya];omega)
 ·rw [hns] at hb
  obtain⟨j,hj,rfl⟩:=mem_getD hb
  rw [Z7,Ya] at hj
  rw [<-numAt_eq];exact h2 j (by omega)⟩
end
theorem wX{env:Env}:∀(names:List (Str×NameKind)) (cs:List (Str×Addr)),
  (∀y∈names,y.2= .free->∃c,env.cells.lookup y.1=some c)->(∀x c,cs.lookup x=some c->env.cells.lookup x=some c)->
  ∃ cl,(forIn names cs fun(y:Str×NameKind) (r:List (Str×Addr))=>
    (if (y.2== .free)=true then(do let a<-cellOf env y.1;pure (ForInStep.yield ((y.1,a)::r))) else pure (ForInStep.yield r):Sem (ForInStep (List (Str×Addr)))))=pure cl/\
   (∀x c,cl.lookup x=some c->env.cells.lookup x=some c)/\(∀x c,cs.lookup x=some c->∃c',cl.lookup x=some c')/\(∀y∈names,y.2= .free->∃c,cl.lookup y.1=some c)
 |[],cs,_,hc=>⟨cs,rfl,hc,fun x c h=>⟨c,h⟩,fun y hy=>absurd hy (ZR)⟩
 | (n,k)::r,cs,hn,hc=>by
  have hr:∀y∈r,y.2= .free->∃c,env.cells.lookup y.1=some c:=fun y hy=>hn y (Z1 _ hy)
  by_cases hk:k= .free
  ·subst hk
   obtain⟨c,e⟩:=hn (n,.free) Z0 rfl
   have hc':∀x c',((n,c)::cs).lookup x=some c'->env.cells.lookup x=some c':=fun x c' h=>by
    rw [Zz] at h
    cases hx:x==n with
    |true=>
     rw [hx] at h
     have e1:x=n:=by simpa using hx
     have e2:c=c':=ZB h
     rw [e1,<-e2];exact e
    |false=>rw [hx] at h;exact hc x c' h
   obtain⟨cl,h1,h2,h3,h4⟩:=wX (env:=env) r ((n,c)::cs) hr hc'
   refine⟨cl,?_,h2,fun x c' h=> ?_,fun y hy hf=> ?_⟩
   ·rw [List.forIn_cons]
    have e0:cellOf env n=pure c:=by unfold cellOf;rw [e]
    simp only [e0]
    exact h1
   ·cases hx:x==n with
    |true=>
     have e1:x=n:=by simpa using hx
     exact h3 x c (by rw [Zz,hx])
    |false=>exact h3 x c' (by rw [Zz,hx];exact h)
   ·rcases Z3.mp hy with e1|hy
    ·rw [e1];exact h3 n c (by rw [Zz];simp)
    ·exact h4 y hy hf
  ·obtain⟨cl,h1,h2,h3,h4⟩:=wX (env:=env) r cs hr hc
   refine⟨cl,?_,h2,h3,fun y hy hf=> ?_⟩
   ·rw [List.forIn_cons]
    have e0:(k==NameKind.free)=false:=by simpa using hk
    simp only [e0]
    exact h1
   ·rcases Z3.mp hy with e1|hy
    ·rw [e1] at hf;exact absurd hf hk
    ·exact h4 y hy hf
theorem yq9{env:Env}{scope:Scope}(h:∀y∈scope.names,y.2= .free->∃c,env.cells.lookup y.1=some c):
  ∃cl,closureFor scope env=pure cl/\(∀x c,cl.lookup x=some c->env.cells.lookup x=some c)/\(∀y∈scope.names,y.2= .free->∃c,cl.lookup y.1=some c):=by
 obtain⟨cl,h1,h2,_,h4⟩:=wX (env:=env) scope.names [] h (fun x c e=>by simp at e)
 refine⟨cl,?_,h2,h4⟩
 have e:((forIn scope.names [] fun(y:Str×NameKind) (r:List (Str×Addr))=>
    (if (y.2== .free)=true then(do let a<-cellOf env y.1;pure (ForInStep.yield ((y.1,a)::r))) else pure (ForInStep.yield r):Sem (ForInStep (List (Str×Addr)))))>>=fun s=>pure s)=pure cl:=by rw [h1];rfl
 exact e
structure CScope(sc:Scope)(NX N:List Str)(pick:List (Option Nat))(scope:Scope):Prop where
 kind:scope.kind= .function
 nocell:∀y∈scope.names,y.2≠ .cell
 names:∀y∈scope.names,y.2= .local->scope.names.lookup y.1=some .local
 frees:∀y∈scope.names,y.2= .free->sc.names.lookup y.1=some .cell\/sc.names.lookup y.1=some .free
 pk:∀p∈N.zip pick,∀j∈p.2,NX[j]? =some p.1/\scope.names.lookup p.1=some .free
 nd:N.Nodup
 len:pick.length=N.length
def rN(pick:List (Option Nat))(σ:St):St:=pick.map fun o=>o.bind fun j=>(σ[j]?).join
def cxB(X:Cx)(N:List Str)(scope:Scope)(cl:List (Str×Addr))(fp:List Addr)(s:Shared)(H:Hp):Cx where
 prog:=X.prog
 w:=X.w
 K:=X.K
 mg:=X.mg
 base:=X.base
 A:=X.A
 N:=N
 s₀:=s
 H₀:=H
 env:=compEnvC scope cl s.heap.objs.size X.env
 outer:=X.stack
 stack:=X.stack
 ex:=fp
 fn:=fun _=>false
 calm:=X.calm
 pn:=[]
 xe:=fun _ _=>False
def wi6(X:Cx)(ifs:List Expr)(t:TT):Prop:=
 ∀(pins:tzB) (s:Shared) (σ:St) (H:Hp) (Q:Bool->Hp->Prop),Inv X pins σ H s->t σ H Q->
  wpAny (model X.prog X.w) X.A (forIn ifs true fun c r=>if r=true then do let ok<-isTrue c X.env (eval c X.env);pure (ForInStep.yield ok) else pure (ForInStep.yield r)) (TP X pins σ Q) X.xe s
structure PTs(X:Cx)(ifs:List Expr)(t:TT):Prop where
 go:wi6 X ifs t
instance {X:Cx} {ifs:List Expr} {t:TT}:CoeFun (PTs X ifs t) fun _=>wi6 X ifs t:=⟨PTs.go⟩
def wq7:TT:=fun _ H Q=>Q true H
theorem wd3{X:Cx}:PTs X [] wq7:=⟨fun pins s σ H Q I h=>wpAny_tests_nil ⟨H,I,h⟩⟩
section
variable{prog:Program}{w:World}{A:Around}{R:Result->Shared->Prop}{s:Shared}
theorem yz1{elt target iter:Expr}{ifs:List Expr}{scope:Scope}{pos:Pos}{it acc:Value}{env:Env}(I:Nat->Shared->Prop)
  (turn:∀n s,I n s->wpAny (model prog w) A (pyNext it) (fun r s1=>match r with
   |none=>R (.ok .next) s1
   | some v=>wpAny (model prog w) A (letOwnedTupleGo target it v) (fun _ s1=>wpAny (model prog w) A (assign target env v) (fun _ s2=>
     wpAny (model prog w) A (forIn ifs true fun c r=>if r=true then do let ok<-isTrue c env (eval c env);pure (ForInStep.yield ok) else pure (ForInStep.yield r)) (fun ok s3=>
      if ok=true then wpAny (model prog w) A (eval elt env) (fun x s4=>
       wpAny (model prog w) A (call (.builtin "list.append") [acc,x]) (fun _ s5=>∃m,m<n/\I m s5) (fun _ _=>False) s4) (fun _ _=>False) s3
      else ∃m,m<n/\I m s3) (fun _ _=>False) s2) (fun _ _=>False) s1) (fun _ _=>False) s1) (fun _ _=>False) s)
  (n:Nat) (h:I n s):codeAny (model prog w) A (.compLoop (.ListComp elt [⟨target,iter,ifs,0⟩] scope pos) 0 it acc env) R s:=by
 refine codeAny_loop rfl I (fun n s hI=> ?_) n h
 show wpAny _ A ((compTurn (.ListComp elt [⟨target,iter,ifs,0⟩] scope pos) 0 it acc env).onRaise (fun x=>do noteFrame x env;theTreesLotGoes x)) _ _ s
 refine wpAny_noted ?_
 rw [compTurn_list]
 refine Zh (Wk (Zh (ZN (turn n s hI) (fun r s1 h1=> ?_) fun _ _ z=>z.elim)))
 cases r with
 |none=>exact ZH h1
 | some v=>
  refine Zh (ZN h1 (fun _ s1 h1=>Zh (ZN h1 (fun _ s2 h2=>Zh (ZN h2 (fun ok s3 h3=> ?_) fun _ _ z=>z.elim)) fun _ _ z=>z.elim)) fun _ _ z=>z.elim)
  cases ok with
  |false=>exact ZH ⟨rfl,h3⟩
  |true=>
   exact Zh (Zh (ZN h3 (fun x s4 h4=>Zh (ZN h4 (fun _ s5 h5=>ZH (ZH ⟨rfl,h5⟩)) fun _ _ z=>z.elim)) fun _ _ z=>z.elim))
end
def wi7(pick:List (Option Nat))(wi:TI)(g:TG)(tt:TT)(te:TE)(σ:St)(H:Hp)(Q:Addr->Hp->Prop):Prop:=wi σ H fun J H1=>∀D,H1 D=none->
 ∃ W:Nat->Nat->St->Hp->Prop,(∃m,W 0 m (rN pick σ) (upd H1 D (.lst [])))/\∀i m σ' H',W i m σ' H'->
  (J.stop i H'/\Q D H')\/(J.go i H'/\∀x H2,J.yld i H' x H2->g x σ' H2 fun σ3 H3=>tt σ3 H3 fun b H4=>
   if b=true then te σ3 H4 fun y H5=>∃ys,H5 D=some (.lst ys)/\ys.length<sizeLine/\∃m',m'<m/\W (i+1) m' σ3 (upd H5 D (.lst (ys++[y]))) else ∃m',m'<m/\W (i+1) m' σ3 H4)
def wn5(pick:List (Option Nat))(wi:TI)(g:TG)(tt:TT)(te:TE):TE:=fun σ H Q=>wi7 pick wi g tt te σ H fun D H'=>Q (.ref D) H'
section
variable{X:Cx}{sc:Scope}{NX N:List Str}{pick:List (Option Nat)}{elt tg iter:Expr}{ifs:List Expr}{scope:Scope}{pos:Pos}{wi:TI}{g:TG}{tt:TT}{te:TE}
theorem iY{env:Env}:∀{names:List (Str×NameKind)} {x:Str} {k:NameKind},(∀y∈names,y.2≠ .cell)->
  (names.map fun(n,k)=>if (k==NameKind.free&&env.scope.kind== .function&&env.kindOf n==some .cell) then(n,NameKind.cell) else(n,k)).lookup x=some k->(k= .cell\/k= .free)->(x,NameKind.free)∈names
 |[],_,_,_,h,_=>by simp at h
 | (n,k0)::r,x,k,hn,h,hk=>by
  have hr:∀y∈r,y.2≠ .cell:=fun y hy=>hn y (Z1 _ hy)
  have h':List.lookup x ((if (k0==NameKind.free&&env.scope.kind== .function&&env.kindOf n==some .cell)=true then(n,NameKind.cell) else(n,k0))::(r.map fun(n,k)=>if (k==NameKind.free&&env.scope.kind== .function&&env.kindOf n==some .cell) then(n,NameKind.cell) else(n,k)))=some k:=h
  by_cases hc:(k0==NameKind.free&&env.scope.kind== .function&&env.kindOf n==some .cell)=true
  ·rw [if_pos hc,Zz] at h'
   cases hx:x==n with
   | true=>
    have e1:x=n:=by simpa using hx
    have e2:k0= .free:=by
     simp only [Zy,YL] at hc
     exact hc.1.1
    rw [e1,e2];exact Z0
   |false=>rw [hx] at h';exact Z1 _ (iY hr h' hk)
  ·rw [if_neg hc,Zz] at h'
   cases hx:x==n with
   | true=>
    rw [hx] at h'
    have e1:x=n:=by simpa using hx
    have e2:k0=k:=ZB h'
    have e3:k0= .free:=by
     rcases hk with z|z
     ·exact absurd (e2.trans z) (hn (n,k0) Z0)
     ·exact e2.trans z
    rw [e1,e3];exact Z0
   |false=>rw [hx] at h';exact Z1 _ (iY hr h' hk)
theorem uQ{env:Env}:∀{names:List (Str×NameKind)} {x:Str},names.lookup x=some .free->
  (names.map fun(n,k)=>if (k==NameKind.free&&env.scope.kind== .function&&env.kindOf n==some .cell) then(n,NameKind.cell) else(n,k)).lookup x=some .cell\/
  (names.map fun(n,k)=>if (k==NameKind.free&&env.scope.kind== .function&&env.kindOf n==some .cell) then(n,NameKind.cell) else(n,k)).lookup x=some .free
 |[],_,h=>by simp at h
 | (n,k0)::r,x,h=>by
  have ih:= @uQ env r x
  show List.lookup x ((if (k0==NameKind.free&&env.scope.kind== .function&&env.kindOf n==some .cell)=true then(n,NameKind.cell) else(n,k0))::_)=_\/List.lookup x ((if (k0==NameKind.free&&env.scope.kind== .function&&env.kindOf n==some .cell)=true then(n,NameKind.cell) else(n,k0))::_)=_
  rw [Zz] at h
  cases hx:x==n with
  |true=>
   rw [hx] at h
   have e:k0= .free:=ZB h
   subst e
   by_cases hc:(NameKind.free==NameKind.free&&env.scope.kind== .function&&env.kindOf n==some .cell)=true
   ·rw [if_pos hc];left;rw [Zz,hx]
   ·rw [if_neg hc];right;rw [Zz,hx]
  | false=>
   rw [hx] at h
   rcases ih h with z|z
   ·left
    by_cases hc:(k0==NameKind.free&&env.scope.kind== .function&&env.kindOf n==some .cell)=true
    ·rw [if_pos hc,Zz,hx];exact z
    ·rw [if_neg hc,Zz,hx];exact z
   ·right
    by_cases hc:(k0==NameKind.free&&env.scope.kind== .function&&env.kindOf n==some .cell)=true
    ·rw [if_pos hc,Zz,hx];exact z
    ·rw [if_neg hc,Zz,hx];exact z
theorem yz2{pins:tzB}{σ:St}{H:Hp}{s:Shared}{cl:List (Str×Addr)}{fp:List Addr}{h':Heap}{tk:Nat}(S:CScope sc NX N pick scope)(hsc:X.env.scope=sc)(hNX:X.N=NX)
  (I:Inv X pins σ H s) (hf:∀b∈fp,oO X pins H b) (ho:∀b∈fp,∃o,s.heap.get? b=some o)
  (c1:∀x c,cl.lookup x=some c->X.env.cells.lookup x=some c) (c2:∀y∈scope.names,y.2= .free->∃c,cl.lookup y.1=some c)
  (hns:h'.Ns s.heap.objs.size fun _=>none) (hk:∀b o,s.heap.get? b=some o->h'.get? b=some o):
  Inv (cxB X N scope cl fp s H) [] (rN pick σ) H {s with heap:=h',toks:=tk}:=by
 have lt:∀b∈fp,b<s.heap.objs.size:=fun b hb=>by obtain⟨o,e⟩:=ho b hb;exact Zj e
 refine⟨⟨I.ok.mod,S.kind,I.ok.glob,I.ok.blt,Zb _,fun x y c h1 h2=>I.ok.inj x y c (c1 x c h1) (c1 y c h2),fun x hx=> ?_,fun x c z=>absurd z (by simp [cxB]),I.ok.hd,I.ok.frames,.inl rfl,
  fun b hb=>⟨ZG (lt b hb),fun x c e=>(hf b hb).2.2.2.2.1 x c (c1 x c e)⟩,I.bs,Zu I.ok.bsz I.sz,fun b o e hb=> ?_,fun b hb z=> ?_,I.stack,I.stkFree⟩,
  rfl,I.bare,Un.kept hk,⟨_,hns,fun i x v h1 h2 h3=> ?_⟩,fun x c e=> ?_,I.hok.fresh (Zb _),fun x c e=>I.freeC x c (c1 x c e),fun p hp=>absurd (show p∈([]:tzB) from hp) (by simp),I.hok.kept hk,?_⟩
 ·have hx':(relabel scope X.env).names.lookup x=some .cell\/(relabel scope X.env).names.lookup x=some .free:=hx
  have hm:(x,NameKind.free)∈scope.names:=by
   rcases hx' with z|z
   ·exact iY S.nocell z (.inl rfl)
   ·exact iY S.nocell z (.inr rfl)
  exact c2 _ hm rfl
 ·rcases(hf b hb).2.2.2.1 with z|z
  ·exact I.ok.noex b o e z
  ·exact absurd (Zx (Zj e) (Zu I.ok.bsz z)) (Y2 _)
 ·rcases Z3.mp (I.stkSub b z) with z|z
  ·exact(hf b hb).2.1 z
  ·exact(hf b hb).2.2.1 z
 ·
  have hN':N[i]? =some x:=h1
  have h2':(rN pick σ)[i]? =some (some v):=h2
  unfold rN at h2'
  rw [Zd] at h2'
  cases ep:pick[i]? with
  |none=>rw [ep] at h2';cases h2'
  | some o=>
   rw [ep] at h2'
   cases o with
   |none=>cases h2'
   | some j=>
    have h4:(σ[j]?).join=some v:=ZB h2'
    have h5:σ[j]? =some (some v):=by
     cases e:σ[j]? with
     |none=>rw [e] at h4;cases h4
     |some q=>rw [e] at h4;exact ZJ some h4
    have hz:(x,some j)∈N.zip pick:=by
     refine ZL (i:=i) ?_
     rw [List.getElem?_zip_eq_some];exact⟨hN',ep⟩
    obtain⟨h6,h7⟩:=S.pk _ hz j rfl
    have hfr:(x,NameKind.free)∈scope.names:=Yb h7
    have hcf:=S.frees _ hfr rfl
    have hcf':X.env.kindOf x=some .cell\/X.env.kindOf x=some .free:=by
     show X.env.scope.names.lookup x=_\/X.env.scope.names.lookup x=_
     rw [hsc];exact hcf
    obtain⟨m,hn,hl⟩:=I.loc
    obtain⟨u,ru,lk⟩:=hl j x v (by rw [hNX];exact h6) h5 (.inr hcf')
    refine⟨u,ru,.inr ⟨uQ h7,?_⟩⟩
    obtain⟨c,ec⟩:=c2 _ hfr rfl
    refine⟨c,ec,?_⟩
    rcases lk with ⟨k1,_⟩|⟨_,c',ec',hcell⟩
    ·rcases hcf' with z|z
     ·rw [k1] at z;cases z
     ·rw [k1] at z;cases z
    ·have e':=c1 x c ec
     rw [ec'] at e'
     cases e'
     obtain⟨o,e1,e2⟩:=hcell
     exact⟨o,hk _ _ e1,e2⟩
 ·obtain⟨v,o,e1,e2⟩:=I.cell x c (c1 x c e)
  exact⟨v,o,hk _ _ e1,e2⟩
 ·show(rN pick σ).length=N.length
  unfold rN
  rw [Z7];exact S.len
theorem yr0{pins:tzB}{σ σ':St}{H H':Hp}{s s':Shared}{cl:List (Str×Addr)}{fp:List Addr}(I:Inv X pins σ H s)(hf:∀b∈fp,oO X pins H b)
  (J:Inv (cxB X N scope cl fp s H) [] σ' H' s'):Inv X pins σ H' s':=
 I.call' (ch:=fp) J.os J.base J.hok J.bare fun b hb=>⟨(hf b hb).2.2.2.1,(hf b hb).2.1,(hf b hb).2.2.2.2.1,(hf b hb).2.2.2.2.2⟩
theorem yr1{pins:tzB}{σ:St}{H2:Hp}{s2:Shared}{cl:List (Str×Addr)}{J:It}{fp:List Addr}{it:Addr}{tn:Nat->Heap->Prop}{RR:Value->Addr->Result->Shared->Prop}{E:Value->Shared->Prop}{Q:Addr->Hp->Prop}
  (S:CScope sc NX N pick scope) (hsc:X.env.scope=sc) (hNX:X.N=NX) (hc:X.calm=true)
  (hg:∀cl fp s H,PG (cxB X N scope cl fp s H) tg g) (ht:∀cl fp s H,PTs (cxB X N scope cl fp s H) ifs tt) (he:∀cl fp s H,PE (cxB X N scope cl fp s H) elt te)
  (I2:Inv X pins σ H2 s2) (T:Turn X.prog X.w X.K tg J fp it tn) (st2:tn 0 s2.heap) (f2:∀b∈fp,oO X pins H2 b)
  (c1:∀x c,cl.lookup x=some c->X.env.cells.lookup x=some c) (c2:∀y∈scope.names,y.2= .free->∃c,cl.lookup y.1=some c)
  (q:∀D,H2 D=none->∃W:Nat->Nat->St->Hp->Prop,(∃m,W 0 m (rN pick σ) (upd H2 D (.lst [])))/\∀i m σ' H',W i m σ' H'->
   (J.stop i H'/\Q D H')\/(J.go i H'/\∀x H2,J.yld i H' x H2->g x σ' H2 fun σ3 H3=>tt σ3 H3 fun b H4=>
    if b=true then te σ3 H4 fun y H5=>∃ys,H5 D=some (.lst ys)/\ys.length<sizeLine/\∃m',m'<m/\W (i+1) m' σ3 (upd H5 D (.lst (ys++[y]))) else ∃m',m'<m/\W (i+1) m' σ3 H4))
  (fin:∀D C H' s',Inv X pins σ H' s'->H' C=none->X.s₀.heap.objs.size<=C->C≠X.env.locals->(∀x c,X.env.cells.lookup x=some c->c≠C)->(∀p∈X.pn++pins,p.1≠C)->(∃m,s'.heap.Ns C m)->Q D H'->RR (.ref D) C (.ok .next) s'):
  wpAny (model X.prog X.w) X.A (newList []) (fun acc s3=>wpAny (model X.prog X.w) X.A (newFunctionEnv scope X.env.globals cl [] X.env.qual none .none (some X.env)) (fun cenv s4=>
   codeAny (model X.prog X.w) X.A (.compStart (.ListComp elt [⟨tg,iter,ifs,0⟩] scope pos) 0 (.ref it) acc {cenv with scope:=relabel scope X.env}) (RR acc cenv.locals) s4) E s3) E s2:=by
 have hD:H2 s2.heap.objs.size=none:=I2.hok.fresh (Zb _)
 obtain⟨W,⟨m0,w0⟩,turn⟩:=q _ hD
 refine wpAny_newObj_type (wpAny_newFunctionEnv S.nocell (by intro y hy;simp at hy) (fun h1 hns hsb=> ?_) S.kind)
 have I3:Inv X pins σ (upd H2 s2.heap.objs.size (.lst [])) {s2 with heap:=s2.heap.push {cls:= .type "list",dict:=none,data:= .seq ([]:List Value).toArray}}:=
  I2.lnew (t':=s2.toks) (its:=[]) (ys:=[]) .nil (ZK _)
 have ne:∀b∈fp,b≠s2.heap.objs.size:=fun b hb z=>by
  obtain⟨o,e,_⟩:=T.obj _ _ st2 b hb
  exact absurd (Zj e) (by rw [z];exact Y2 _)
 have f3:∀b∈fp,oO X pins (upd H2 s2.heap.objs.size (.lst [])) b:=fun b hb=>⟨by rw [bE (ne b hb)];exact(f2 b hb).1,(f2 b hb).2⟩
 have ho3:∀b∈fp,∀o,s2.heap.get? b=some o->(s2.heap.push {cls:= .type "list",dict:=none,data:= .seq ([]:List Value).toArray}).get? b=some o:=fun b _ o e=>Zf _ e
 have st3:=T.keep _ _ _ st2 ho3
 generalize hH3:s2.heap.push {cls:= .type "list",dict:=none,data:= .seq ([]:List Value).toArray}=H3 at hns hsb I3 ho3 st3|-
 dsimp only at hns hsb|-
 have hk:∀b o,H3.get? b=some o->h1.get? b=some o:=fun b o e=>hsb.extBut b o (ZG (Zj e)) (Zf _ e)
 have B0:Inv (cxB X N scope cl fp {s2 with heap:=H3} (upd H2 s2.heap.objs.size (.lst []))) [] (rN pick σ) (upd H2 s2.heap.objs.size (.lst [])) {s2 with heap:=h1,toks:=s2.toks+([]:List (Str×Value)).length}:=
  yz2 (s:={s2 with heap:=H3}) S hsc hNX I3 f3 (fun b hb=>by obtain⟨o,e,_⟩:=T.obj _ _ st3 b hb;exact⟨o,e⟩) c1 c2 hns hk
 have st4:tn 0 h1:=T.keep _ _ _ st3 fun b _ o e=>hk b o e
 have fpY:∀{H':Hp},(∀b∈fp,H' b=none)->∀b∈fp,oO (cxB X N scope cl fp {s2 with heap:=H3} (upd H2 s2.heap.objs.size (.lst []))) [] H' b:=fun hn b hb=>
  ⟨hn b hb,(B0.ok.exf b hb).1,B0.ok.exfs b hb,.inl hb,(B0.ok.exf b hb).2,fun p hp=>absurd (show p∈([]:tzB) from hp) (by simp)⟩
 have loop:∀s4:Shared,s4={s2 with heap:=h1,toks:=s2.toks+([]:List (Str×Value)).length}->
   codeAny (model X.prog X.w) X.A (.compLoop (.ListComp elt [⟨tg,iter,ifs,0⟩] scope pos) 0 (.ref it) (.ref s2.heap.objs.size) (compEnvC scope cl H3.objs.size X.env)) (RR (.ref s2.heap.objs.size) H3.objs.size) s4:=by
  rintro s4 rfl
  refine yz1 (fun n s'=>∃i σ' H',Inv (cxB X N scope cl fp {s2 with heap:=H3} (upd H2 s2.heap.objs.size (.lst []))) [] σ' H' s'/\tn i s'.heap/\(∀b∈fp,H' b=none)/\W i n σ' H') ?_ m0
   ⟨0,_,_,B0,st4,fun b hb=>(f3 b hb).1,w0⟩
  rintro n s5 ⟨i,σ5,H5,I5,st5,fr5,w5⟩
  rcases turn i n σ5 H5 w5 with ⟨stop,qn⟩|⟨go,step⟩
  ·refine thn (T.done (cxB X N scope cl fp {s2 with heap:=H3} (upd H2 s2.heap.objs.size (.lst []))) rfl rfl rfl hc i [] s5 σ5 H5 _ I5 (fpY fr5) st5 stop) fun r s6 ⟨hr,I6⟩=> ?_
   subst hr
   obtain⟨m,hm,_⟩:=I6.loc
   have sz:X.s₀.heap.objs.size<=H3.objs.size:=I3.sz
   refine fin _ _ H5 s6 (yr0 I3 f3 I6) I6.free sz (XY I3.lt) (fun x c e z=> ?_) (fun p hp z=> ?_) ⟨m,hm⟩ qn
   ·obtain⟨v,z2⟩:=I3.cell x c e
    exact absurd z2.lt (by rw [z];exact Y2 _)
   ·exact absurd (Zj (I3.pin p hp).1) (by rw [z];exact Y2 _)
  ·refine thn (T.item (cxB X N scope cl fp {s2 with heap:=H3} (upd H2 s2.heap.objs.size (.lst []))) rfl rfl rfl hc i [] s5 σ5 H5 _ I5 (fpY fr5) st5 go) fun r s6 ⟨u,hr,h6⟩=> ?_
   subst hr
   refine thn h6 fun _ s7 ⟨x,H7,I7,r7,y7,st7,fr7⟩=> ?_
   have I7':=I7.pinned (fpY fr7) (T.obj _ _ st7)
   have back:∀{σ8:St} {H8:Hp} {s8:Shared},Inv (cxB X N scope cl fp {s2 with heap:=H3} (upd H2 s2.heap.objs.size (.lst []))) ([]++wN fp s7.heap) σ8 H8 s8->
     tn (i+1) s8.heap/\∀b∈fp,H8 b=none:=fun {σ8 H8 s8} I8=>by
    refine⟨T.keep _ _ _ st7 fun b hb o e=>(I8.pin (b,o) (Ze _ (Ze _ (sA hb e)))).1,fun b hb=> ?_⟩
    obtain⟨o,e,d⟩:=T.obj _ _ st7 b hb
    exact(I8.pin (b,o) (Ze _ (Ze _ (sA hb e)))).2.1
   refine thn (hg _ _ _ _ _ s7 σ5 H7 x u _ I7' r7 (step x H7 y7)) fun _ s8 ⟨σ8,H8,I8,q8⟩=> ?_
   refine thn (ht _ _ _ _ _ s8 σ8 H8 _ I8 q8) fun ok s9 ⟨H9,I9,q9⟩=> ?_
   cases ok with
   |false=>
    rw [if_neg (by decide)] at q9|-
    obtain⟨m',hm,w9⟩:=q9
    obtain⟨b1,b2⟩:=back I9
    exact⟨m',hm,i+1,σ8,H9,I9.unpinned,b1,b2,w9⟩
   | true=>
    rw [if_pos rfl] at q9|-
    refine thn (he _ _ _ _ _ s9 σ8 H9 _ I9 q9) fun v s10 ⟨y,H10,I10,ry,ys,hys,hlen,m',hm,w10⟩=> ?_
    have ap:=zs4 (X:=cxB X N scope cl fp {s2 with heap:=H3} (upd H2 s2.heap.objs.size (.lst []))) ([]++wN fp s7.heap) s10 σ8 H10 (.ref s2.heap.objs.size) [y] (.ref s2.heap.objs.size) [v]
     (fun z H'=>z= .non/\H'=upd H10 s2.heap.objs.size (.lst (ys++[y]))) I10 rfl (.cons ry .nil) ⟨_,ys,y,rfl,rfl,hys,hlen,rfl,rfl⟩
    refine thn ap fun z s11 ⟨z',H11,I11,_,_,e11⟩=> ?_
    subst e11
    obtain⟨b1,b2⟩:=back I11
    exact⟨m',hm,i+1,σ8,_,I11.unpinned,b1,b2,w10⟩
 exact codeAny_compStart_list (loop _ rfl) (T.self _ _ _ _ _ st4 (loop _ rfl))
theorem xu8(S:CScope sc NX N pick scope)(hsc:X.env.scope=sc)(hNX:X.N=NX)(hc:X.calm=true)(hi:PI X tg iter wi)
  (hg:∀cl fp s H,PG (cxB X N scope cl fp s H) tg g) (ht:∀cl fp s H,PTs (cxB X N scope cl fp s H) ifs tt) (he:∀cl fp s H,PE (cxB X N scope cl fp s H) elt te)
  (hs:∀x,foldedSetIterable iter X.env x=pure x:=by intro _;rfl):PE X (.ListComp elt [⟨tg,iter,ifs,0⟩] scope pos) (wn5 pick wi g tt te):=⟨by
 intro pins s σ H Q I h
 rw [eval_ListComp]
 have hfr:∀y∈scope.names,y.2= .free->∃c,X.env.cells.lookup y.1=some c:=fun y hy hf=>I.ok.has y.1 (by
  show X.env.scope.names.lookup y.1=_\/X.env.scope.names.lookup y.1=_
  rw [hsc];exact S.frees y hy hf)
 obtain⟨cl,hcl,c1,c2⟩:=yq9 hfr
 refine wpAny_comprehension_free (use:=none) rfl hs hcl S.kind S.names (thn (hi pins s σ H _ I h) fun v s1 h1=>thn h1 fun itv s2 h2=> ?_)
 obtain⟨it,fp,tn,J,H2,e,I2,T,st2,f2,q⟩:=h2
 subst e
 refine yr1 (RR:=fun acc C=>compPost (model X.prog X.w) X.A X.xe none (EP X pins σ Q) acc C) (Q:=fun D H'=>Q (.ref D) H') S hsc hNX hc hg ht he I2 T st2 f2 c1 c2 q ?_
 intro D C H' s' I' n1 n2 n3 n4 n5 ⟨m,hm⟩ q'
 exact⟨m,hm,fun h' hb=>⟨.ref D,H',I'.turned (t':=s'.toks) (it:=C) (fun b o hbc e=>(hb.2 b hbc).trans e) n1 n3 (.inr n2) n4 n5,rfl,q'⟩⟩⟩
end
section
variable{X:Cx}{tg:Expr}
theorem zs8:∀(l:List (Str×Tok)),bF ((l.map (·.1)).map V.str) (strValues l)
 |[]=> .nil
 |(x,t)::r=> .cons ⟨t,rfl⟩ (zs8 r)
theorem ya4:∀{ys:List Str} {us:List Value},bF (ys.map V.str) us->StrsAre us ys
 |[],_,.nil=> .nil
 |y::ys,_,.cons r t=>by
  obtain⟨k,rfl⟩:=r
  exact .cons y k (ya4 t)
theorem xj6:MtR X "str.split" (fun x xs H Q=>∃z y,x= .str z/\xs=[.str y]/\(y.length==0)=false/\z.length<1000000/\∀p,H p=none->Q (.ref p) (upd H p (.lst ((Txt.split z y).map V.str)))):=⟨by
 intro pins s σ H x xs v us Q I rx r h
 obtain⟨z,y,rfl,rfl,hy,hz,q⟩:=h
 obtain⟨t,rfl⟩:=rx
 obtain⟨u,rfl,t',rfl⟩:=oB r
 have hs:sizeLine=16777216:=Yi
 have hsz:z.length<=sizeLine:=by omega
 have hoc:=StrLaws.occ_length_le_len z y 0 z.length (z.length+1)
 have hpb:(Builtin.Str.partsBetween z (Builtin.Str.occurrences z y 0 z.length (z.length+1)) y.length).length<=z.length+2:=by
  unfold Builtin.Str.partsBetween
  rw [Z7,List.length_zip]
  simp only [Z6,Z7,Z5,ZU]
  omega
 have hn:H s.heap.objs.size=none:=I.fresh
 have fin:∀(l:List (Str×Tok)) (tk:Nat),l.map (·.1)=Txt.split z y->l.length<=sizeLine->EP X pins σ Q (.ref s.heap.objs.size) {s with heap:=s.heap.push {cls:= .type "list",data:= .seq (strValues l).toArray},toks:=tk}:=fun l tk e hl=>by
  refine⟨.ref s.heap.objs.size,_,I.lnew (t':=tk) (ys:=(l.map (·.1)).map V.str) (zs8 l) (by rw [Z7,Z7];exact hl),rfl,?_⟩
  rw [e];exact q _ hn
 cases h1:(decide (z.length<y.length)||decide (Builtin.Str.strKind z<Builtin.Str.strKind y))
 ·cases hf:(Builtin.Str.occurrences z y 0 z.length (z.length+1)).isEmpty
  ·refine XA XQ (Xc _ _ _) XH (XC _ _) (meets_str_split_sep z y t t' h1 hy hf hsz (by omega)) ?_
   show wants _ _ _ {s with toks:=_,heap:=s.heap.push {cls:= .type "list",data:= .seq (strsFrom s.toks (Builtin.Str.partsBetween z (Builtin.Str.occurrences z y 0 z.length (z.length+1)) y.length)).toArray}}
   rw [strsFrom_eq]
   refine fin (numbered s.toks _) _ ((numbered_texts _ _).trans ((if_neg (Xe h1)).trans (if_neg (Xe hf))).symm) ?_
   have e:=ZJ List.length (numbered_texts s.toks (Builtin.Str.partsBetween z (Builtin.Str.occurrences z y 0 z.length (z.length+1)) y.length))
   rw [Z7] at e
   omega
  ·exact XA XQ (Xc _ _ _) XH (XC _ _) (meets_str_split_not_found z y t t' h1 hy hf) (fin [(z,t)] s.toks ((if_neg (Xe h1)).trans (if_pos hf)).symm (by simp;omega))
 ·exact XA XQ (Xc _ _ _) XH (XC _ _) (meets_str_split_cannot_occur z y t t' h1) (fin [(z,t)] s.toks (if_pos h1).symm (by simp;omega))⟩
theorem xu9:MtR X "str.join" (fun x xs H Q=>∃(z:Str) (a:Addr) (ys:List Str),x= .str z/\xs=[.ref a]/\SqL X.K H a (ys.map V.str)/\z.length<=16/\(ys.map (·.length)).sum+ys.length<=1048576/\Q (.str (Txt.join z ys)) H):=⟨by
 intro pins s σ H x xs v us Q I rx r h
 obtain⟨z,a,ys,rfl,rfl,hq,hz,hw,q⟩:=h
 obtain⟨t,rfl⟩:=rx
 obtain⟨u,rfl,ru⟩:=oB r
 cases(show u=Value.ref a from ru)
 obtain⟨its,rv,p,hl⟩:=I.list hq
 exact join_listW p.isList (by simpa using ya4 rv) hz hw fun t' k=>⟨.str _,H,I.tok k,⟨_,rfl⟩,q⟩⟩
end
section
variable{X:Cx}
theorem wd4:SlR X (fun x lo hi H Q=>∃z:Str,x= .str z/\z.length<=sizeLine/\Q (.str (Txt.slice z lo hi)) H):=by
 intro pins s σ H x v vl vu lo hi sl Q I rx hs pl pu h
 obtain⟨z,rfl,hz,q⟩:=h
 obtain⟨t,rfl⟩:=rx
 refine⟨"str",_,F.slot_str_getitem.lookup,Xc _ _ _,?_⟩
 have fin:∀t' k,EP X pins σ Q (.str (Txt.slice z lo hi) t') {s with toks:=k}:=fun t' k=>⟨.str _,H,I.tok k,⟨_,rfl⟩,q⟩
 cases pl with
 |none=>
  cases pu with
  |none=>exact YB (l:=none) (u:=none) (st:=none) hs rfl (Xh ⟨Zu (XI z _ _) hz,fun t' k=>fin t' k⟩)
  |int j u=>exact YB (l:=none) (u:=some (j,u)) (st:=none) hs rfl (Xh ⟨Zu (XI z _ _) hz,fun t' k=>fin t' k⟩)
 |int i u'=>
  cases pu with
  |none=>exact YB (l:=some (i,u')) (u:=none) (st:=none) hs rfl (Xh ⟨Zu (XI z _ _) hz,fun t' k=>fin t' k⟩)
  |int j u=>exact YB (l:=some (i,u')) (u:=some (j,u)) (st:=none) hs rfl (Xh ⟨Zu (XI z _ _) hz,fun t' k=>fin t' k⟩)
end
mutual
inductive Dp(K:tz0)(H:Hp):V->PyData->Prop
 |non:Dp K H .non .none
 |bl (b:Bool):Dp K H (.bl b) (.bool b)
 |int (i:Int):Dp K H (.int i) (.int i)
 |str (x:Str):Dp K H (.str x) (.str x)
 |lst {a:Addr} {xs:List V} {ds:List PyData}:SqL K H a xs->DpAll K H xs ds->Dp K H (.ref a) (.list ds)
 |tup {a:Addr} {xs:List V} {ds:List PyData}:SqT K H a xs->DpAll K H xs ds->Dp K H (.ref a) (.tuple ds)
inductive DpAll(K:tz0)(H:Hp):List V->List PyData->Prop
 |nil:DpAll K H [] []
 |cons {v:V} {vs:List V} {d:PyData} {ds:List PyData}:Dp K H v d->DpAll K H vs ds->DpAll K H (v::vs) (d::ds)
end
section
variable{X:Cx}{pins:tzB}{σ:St}{H:Hp}{s:Shared}
mutual
theorem Dp.reads(I:Inv X pins σ H s):∀{v:V} {d:PyData} {u:Value},Dp X.K H v d->cF v u->∃as,Reads s.heap u d as
 |_,_,u,.non,r=>by cases(show u=Value.none from r);exact⟨_,.none⟩
 |_,_,u,.bl b,r=>by cases(show u=Value.bool b from r);exact⟨_,.bool b⟩
 |_,_,u,.int i,r=>by obtain⟨t,rfl⟩:=r;exact⟨_,.int i t⟩
 |_,_,u,.str x,r=>by obtain⟨t,rfl⟩:=r;exact⟨_,.str x t⟩
 |_,_,u,.lst (a:=a) h hs,r=>by
  cases(show u=Value.ref a from r)
  obtain⟨its,rv,p,hz⟩:=I.list h
  obtain⟨as,ra⟩:=DpAll.reads I hs rv
  obtain⟨o,e,c,n,d⟩:=p.isList
  exact⟨_,.list e c d (by simpa using ra)⟩
 |_,_,u,.tup (a:=a) h hs,r=>by
  cases(show u=Value.ref a from r)
  obtain⟨its,rv,p,hz⟩:=I.tuple h
  obtain⟨as,ra⟩:=DpAll.reads I hs rv
  obtain⟨o,e,c,n,d⟩:=p
  exact⟨_,.tuple e c d (by simpa using ra)⟩
theorem DpAll.reads(I:Inv X pins σ H s):∀{vs:List V} {ds:List PyData} {us:List Value},DpAll X.K H vs ds->bF vs us->∃as,ReadsAll s.heap us ds as
 |_,_,_,.nil,.nil=>⟨_,.nil⟩
 |_,_,_,.cons h hs,.cons r rs=>by
  obtain⟨as,ra⟩:=Dp.reads I h r
  obtain⟨bs,rb⟩:=DpAll.reads I hs rs
  exact⟨_,.cons ra rb⟩
end
end
section
variable{X:Cx}
def wi8(K:tz0)(neg:Bool):R2:=fun x y H Q=>∃d e,Dp K H x d/\Dp K H y e/\d.canLay0=true/\e.canLay0=true/\d.depth<=60/\Q (.bl (if neg then !PyData.eqv d e else PyData.eqv d e)) H
theorem wd5(hu:X.A.units+64<cLine):OpR X (compareOp .Eq) (wi8 X.K false):=⟨by
 intro pins s σ H x y v u Q I rx ry h
 obtain⟨d,e,hx,hy,cx,cy,dz,q⟩:=h
 obtain⟨as,ra⟩:=hx.reads I rx
 obtain⟨bs,rb⟩:=hy.reads I ry
 exact SeqAt.compareEq_reads ra rb cx cy (by have:=Nat.min_le_left d.depth e.depth;omega) ⟨.bl _,H,I,rfl,q⟩⟩
theorem wd6(hu:X.A.units+64<cLine):OpR X (compareOp .NotEq) (wi8 X.K true):=⟨by
 intro pins s σ H x y v u Q I rx ry h
 obtain⟨d,e,hx,hy,cx,cy,dz,q⟩:=h
 obtain⟨as,ra⟩:=hx.reads I rx
 obtain⟨bs,rb⟩:=hy.reads I ry
 exact SeqAt.compareNe_reads ra rb cx cy (by have:=Nat.min_le_left d.depth e.depth;omega) ⟨.bl _,H,I,rfl,q⟩⟩
end
section
variable{prog:Program}{w:World}{A:Around}{E:Value->Shared->Prop}{s:Shared}{env:Env}
theorem yi5{l:Addr}{items:Array Value}{elts:List Expr}{k:Nat}{pos:Pos}{Q:Unit->Shared->Prop}(hh:A.handled=none)(hl:s.heap.IsList l items)(hn:(assignEach elts env).length=items.size)
  (hstar:(assignEach elts env).findIdx? (·.1)=none) (h:∀h',Heap.ExtBut s.heap.objs.size s.heap h'->wpAny (model prog w) A (assignInOrder ((assignEach elts env).map (·.2)) items.toList) Q E {s with heap:=h'}):
  wpAny (model prog w) A (assign (.Tuple elts k pos) env (.ref l)) Q E s:=by
 rw [assign_Tuple]
 refine Zh (Wk ?_)
 unfold unpack
 rw [hn,hstar]
 exact Zh (Yx (PySem.W.kun_itemsOf hh hl h))
end
section
variable{X:Cx}{pos:Pos}
def xp8(K:tz0)(n:Nat)(t:TGs):TG:=fun v σ H Q=>∃a xs,v= .ref a/\SqL K H a xs/\xs.length=n/\t xs σ H Q
theorem wd7{es:List Expr}{k:Nat}{t:TGs}{n:Nat}(hc:X.calm=true)(h:PGs X es t)
  (hn:(assignEach es X.env).length=n:=by rfl) (hst:(assignEach es X.env).findIdx? (·.1)=none:=by rfl):PG X (.Tuple es k pos) (xp8 X.K n t):=⟨by
 intro pins s σ H v u Q I r hw
 obtain⟨a,xs,e1,hq,hl,hw⟩:=hw
 subst e1
 cases r
 obtain⟨its,rv,ht,hz⟩:=I.list hq
 refine yi5 (I.ok.hd hc) ht.isList (by simp [hn,<-hl,rv.length]) hst fun h' hx=> ?_
 have I1:Inv X pins σ H {s with heap:=h'}:=I.kept (t':=s.toks) fun b o e=>hx b o (ZG (Zj e)) e
 exact h pins _ σ H xs _ Q I1 (by simpa using rv) hw⟩
end
inductive AreC:List Expr->List V->Prop
 |nil:AreC [] []
 |int {i:Int} {j:Nat} {pos:Pos} {es:List Expr} {vs:List V}:AreC es vs->AreC (.Constant (.int i) j pos::es) (.int i::vs)
 |str {x:Str} {j:Nat} {pos:Pos} {es:List Expr} {vs:List V}:AreC es vs->AreC (.Constant (.str x) j pos::es) (.str x::vs)
 |bl {b:Bool} {j:Nat} {pos:Pos} {es:List Expr} {vs:List V}:AreC es vs->AreC (.Constant (.bool b) j pos::es) (.bl b::vs)
 |non {j:Nat} {pos:Pos} {es:List Expr} {vs:List V}:AreC es vs->AreC (.Constant .none j pos::es) (.non::vs)
def zm2(vs:List V):TA:=fun _ H Q=>Q vs H
theorem yz3{X:Cx}{es:List Expr}{vs:List V}(h:AreC es vs):PA X es (zm2 vs):=by
 induction h with
 |nil=>exact oC
 |int _ ih=>exact⟨fun pos pins s σ H Q I q=>fV (t:=zm2 _) iP ih rfl pos pins s σ H Q I q⟩
 |str _ ih=>exact⟨fun pos pins s σ H Q I q=>fV (t:=zm2 _) yw5 ih rfl pos pins s σ H Q I q⟩
 |bl _ ih=>exact⟨fun pos pins s σ H Q I q=>fV (t:=zm2 _) xq7 ih rfl pos pins s σ H Q I q⟩
 |non _ ih=>exact⟨fun pos pins s σ H Q I q=>fV (t:=zm2 _) yw4 ih rfl pos pins s σ H Q I q⟩
set_option genInjectivity true in
inductive D where
 |non|bl (b:Bool)|int (i:Int)|str (x:Str)|ty (n:String)
 |tup (xs:List D)|con (xs:List D)|lst (o:Bool) (xs:List D)|dic (o:Bool) (ks:List Key) (vs:List D)|obj (o:Bool) (C:Str) (ns:List Str) (vs:List D)
mutual
def D.imm:D->Bool
 | .tup xs=>D.imms xs
 | .con xs=>D.imms xs
 | .lst o xs=> !o&&D.imms xs
 | .dic o _ vs=> !o&&D.imms vs
 | .obj o _ _ vs=> !o&&D.imms vs
 |_=>true
def D.imms:List D->Bool
 |[]=>true
 |d::ds=>d.imm&&D.imms ds
end
def kd:HO->Bool
 | .lst _=>true
 | .tup _=>true
 | .dK _=>true
 | .ins _ _ _=>true
 | .frz _ _=>true
 | .xd _=>true
 |_=>false
def tf:HO->Bool
 | .tup _=>true
 | .frz _ _=>true
 |_=>false
theorem lN(h:tf o=true):kd o=true:=by cases o<;>first|rfl|cases h
def SqF(K:tz0)(H:Hp)(a:Addr)(xs:List V):Prop:=(∃o,H a=some (.frz o (.lst xs)))\/
 ∃(o:Obj) (its:Array Value) (n:Nat),K.lookup a=some o/\o.cls= .type "list"/\o.dict=none/\o.data= .seq its n/\its.size<=sizeLine/\bF xs its.toList
mutual
inductive Rep(K:tz0)(κ:tz9)(H:Hp):V->D->List Addr->Prop
 |non:Rep K κ H .non .non []
 |bl (b:Bool):Rep K κ H (.bl b) (.bl b) []
 |int (i:Int):Rep K κ H (.int i) (.int i) []
 |str (x:Str):Rep K κ H (.str x) (.str x) []
 |ty (n:String):Rep K κ H (.ty n) (.ty n) []
 |tup {a:Addr} {vs:List V} {ds:List D}:SqT K H a vs->Reps K κ H vs ds []->Rep K κ H (.ref a) (.tup ds) []
 |con {a:Addr} {vs:List V} {ds:List D}:SqF K H a vs->Reps K κ H vs ds []->Rep K κ H (.ref a) (.con ds) []
 |lst {a:Addr} {vs:List V} {ds:List D} {fp:List Addr}:H a=some (.lst vs)->Reps K κ H vs ds fp->Rep K κ H (.ref a) (.lst true ds) (a::fp)
 |lstF {a:Addr} {o:Obj} {vs:List V} {ds:List D}:H a=some (.frz o (.lst vs))->Reps K κ H vs ds []->Rep K κ H (.ref a) (.lst false ds) []
 |dic {a:Addr} {kvs:List (Key×V)} {ks:List Key} {ds:List D} {fp:List Addr}:H a=some (.dK kvs)->kvs.map (·.1)=ks->Reps K κ H (kvs.map (·.2)) ds fp->Rep K κ H (.ref a) (.dic true ks ds) (a::fp)
 |dicF {a:Addr} {o:Obj} {kvs:List (Key×V)} {ks:List Key} {ds:List D}:H a=some (.frz o (.dK kvs))->kvs.map (·.1)=ks->Reps K κ H (kvs.map (·.2)) ds []->Rep K κ H (.ref a) (.dic false ks ds) []
 |obj {a dx:Addr} {C:Str} {fs:List (Str×V)} {ns:List Str} {ds:List D} {fp:List Addr}:H a=some (.ins (κ C) dx fs)->fs.map (·.1)=ns->Reps K κ H (fs.map (·.2)) ds fp->Rep K κ H (.ref a) (.obj true C ns ds) (a::fp)
 |objF {a dx:Addr} {o:Obj} {C:Str} {fs:List (Str×V)} {ns:List Str} {ds:List D}:H a=some (.frz o (.ins (κ C) dx fs))->fs.map (·.1)=ns->Reps K κ H (fs.map (·.2)) ds []->Rep K κ H (.ref a) (.obj false C ns ds) []
inductive Reps(K:tz0)(κ:tz9)(H:Hp):List V->List D->List Addr->Prop
 |nil:Reps K κ H [] [] []
 |cons {v:V} {vs:List V} {d:D} {ds:List D} {f g:List Addr}:Rep K κ H v d f->Reps K κ H vs ds g->Reps K κ H (v::vs) (d::ds) (f++g)
end
section
variable{K:tz0}{κ:tz9}{H H':Hp}
theorem SqT.tf(t:∀a o,H a=some o->tf o=true->H' a=some o){a:Addr}{xs:List V}(h:SqT K H a xs):SqT K H' a xs:=by
 rcases h with (h|⟨o,h⟩)|h
 ·exact .inl (.inl (t _ _ h rfl))
 ·exact .inl (.inr ⟨o,t _ _ h rfl⟩)
 ·exact .inr h
theorem SqF.tf(t:∀a o,H a=some o->tf o=true->H' a=some o){a:Addr}{xs:List V}(h:SqF K H a xs):SqF K H' a xs:=h.elim (fun⟨o,h⟩=> .inl ⟨o,t _ _ h rfl⟩) .inr
theorem SqF.l(h:SqF K H a xs):SqL K H a xs:=h.elim (fun⟨o,h⟩=> .inl (.inr ⟨o,h⟩)) .inr
theorem hX{P:Addr->Prop}:∀a∈([]:List Addr),P a:=fun _ h=>nomatch h
theorem Reps.move(t:∀a o,H a=some o->tf o=true->H' a=some o){vs:List V}{ds:List D}{fp:List Addr}(h:Reps K κ H vs ds fp):(∀a∈fp,H' a=H a)->Reps K κ H' vs ds fp:=
 Reps.rec (motive_1:=fun v d fp _=>(∀a∈fp,H' a=H a)->Rep K κ H' v d fp) (motive_2:=fun vs ds fp _=>(∀a∈fp,H' a=H a)->Reps K κ H' vs ds fp)
  (fun _=> .non) (fun b _=> .bl b) (fun b _=> .int b) (fun b _=> .str b) (fun b _=> .ty b) (fun h _ ih _=> .tup (h.tf t) (ih hX)) (fun h _ ih _=> .con (h.tf t) (ih hX))
  (fun h _ ih k=> .lst ((k _ Z0).trans h) (ih fun a ha=>k a (Z1 _ ha))) (fun h _ ih _=> .lstF (t _ _ h rfl) (ih hX))
  (fun h e _ ih k=> .dic ((k _ Z0).trans h) e (ih fun a ha=>k a (Z1 _ ha))) (fun h e _ ih _=> .dicF (t _ _ h rfl) e (ih hX))
  (fun h e _ ih k=> .obj ((k _ Z0).trans h) e (ih fun a ha=>k a (Z1 _ ha))) (fun h e _ ih _=> .objF (t _ _ h rfl) e (ih hX))
  (fun _=> .nil) (fun _ _ i1 i2 k=> .cons (i1 fun a ha=>k a (Zo _ ha)) (i2 fun a ha=>k a (Ze _ ha))) h
theorem Reps.nil_fp(h:Reps K κ H vs [] fp):vs=[]/\fp=[]:=by cases h;exact⟨rfl,rfl⟩
theorem Reps.one_inv(r:Reps K κ H vs [d] fp):∃v,vs=[v]/\Rep K κ H v d fp:=by
 cases r with
 |cons h hs=>
  obtain⟨rfl,rfl⟩:=hs.nil_fp
  exact⟨_,rfl,by rw [Zl];exact h⟩
theorem Reps.one(h:Rep K κ H v d f):Reps K κ H [v] [d] f:=by have:=Reps.cons h (Reps.nil (K:=K) (κ:=κ) (H:=H));rwa [Zl] at this
theorem Rep.move(t:∀a o,H a=some o->tf o=true->H' a=some o){v:V}{d:D}{fp:List Addr}(h:Rep K κ H v d fp)(k:∀a∈fp,H' a=H a):Rep K κ H' v d fp:=by
 obtain⟨u,e,r⟩:=((Reps.one h).move t k).one_inv
 cases e;exact r
theorem Reps.own{vs:List V}{ds:List D}{fp:List Addr}(h:Reps K κ H vs ds fp):∀a∈fp,∃o,H a=some o/\kd o=true/\tf o=false:=
 Reps.rec (motive_1:=fun _ _ fp _=>∀a∈fp,∃o,H a=some o/\kd o=true/\tf o=false) (motive_2:=fun _ _ fp _=>∀a∈fp,∃o,H a=some o/\kd o=true/\tf o=false)
  hX (fun _=>hX) (fun _=>hX) (fun _=>hX) (fun _=>hX) (fun _ _ _=>hX) (fun _ _ _=>hX)
  (fun h _ ih a ha=>(Z3.mp ha).elim (fun e=>e▸⟨_,h,rfl,rfl⟩) (ih a)) (fun _ _ _=>hX)
  (fun h _ _ ih a ha=>(Z3.mp ha).elim (fun e=>e▸⟨_,h,rfl,rfl⟩) (ih a)) (fun _ _ _ _=>hX)
  (fun h _ _ ih a ha=>(Z3.mp ha).elim (fun e=>e▸⟨_,h,rfl,rfl⟩) (ih a)) (fun _ _ _ _=>hX)
  hX (fun _ _ i1 i2 a ha=>(Zn.mp ha).elim (i1 a) (i2 a)) h
theorem Rep.own(h:Rep K κ H v d fp):∀a∈fp,∃o,H a=some o/\kd o=true/\tf o=false:=(Reps.one h).own
theorem Rep.imm(h:Rep K κ H v d fp)(e:d.imm=true):fp=[]:=by
 cases h<;>first|rfl|exact nomatch e
theorem Reps.imm:∀{vs:List V} {ds:List D} {fp:List Addr},Reps K κ H vs ds fp->D.imms ds=true->fp=[]
 |_,_,_,.nil,_=>rfl
 |_,_,_,.cons h hs,e=>by
  rw [D.imms,Zy] at e
  rw [h.imm e.1,Reps.imm hs e.2];rfl
theorem Reps.length:∀{vs:List V} {ds:List D} {fp:List Addr},Reps K κ H vs ds fp->vs.length=ds.length
 |_,_,_,.nil=>rfl
 |_,_,_,.cons _ hs=>by rw [Z6,Z6,Reps.length hs]
theorem Reps.get:∀{vs:List V} {ds:List D} {fp:List Addr} {i:Nat} {d:D},Reps K κ H vs ds fp->ds[i]? =some d->∃v f,vs[i]? =some v/\Rep K κ H v d f/\∀a∈f,a∈fp
 |_,_,_,_,_,.nil,e=>by simp at e
 |_,_,_,0,_,.cons h _,e=>by simp at e;subst e;exact⟨_,_,rfl,h,fun a ha=>Zo _ ha⟩
 |_,_,_,i+1,_,.cons _ hs,e=>by
  obtain⟨v,f,h1,h2,h3⟩:=Reps.get (i:=i) hs (by simpa using e)
  exact⟨v,f,by simpa using h1,h2,fun a ha=>Ze _ (h3 a ha)⟩
theorem Reps.append:∀{vs:List V} {ds:List D} {f:List Addr} {us:List V} {es:List D} {g:List Addr},Reps K κ H vs ds f->Reps K κ H us es g->Reps K κ H (vs++us) (ds++es) (f++g)
 |_,_,_,_,_,_,.nil,r=>r
 |_,_,_,_,_,_,.cons h hs,r=>by rw [Zq];exact .cons h (Reps.append hs r)
theorem Reps.split:∀{vs:List V} {d:D} {ds:List D} {fp:List Addr},Reps K κ H vs (d::ds) fp->∃v us f g,vs=v::us/\Rep K κ H v d f/\Reps K κ H us ds g/\fp=f++g
 |_,_,_,_,.cons h hs=>⟨_,_,_,_,rfl,h,hs,rfl⟩
theorem Reps.nilp:∀{vs:List V} {ds:List D},Reps K κ H vs ds []->Paired (fun v d=>Rep K κ H v d []) vs ds:=by
 intro vs ds h
 generalize e:([]:List Addr)=fp at h
 induction h using Reps.rec (motive_1:=fun _ _ _ _=>True) with
 |nil=>exact .nil
 |cons h hs _ ih=>
  obtain⟨e1,e2⟩:=W1.mp e.symm
  subst e1;subst e2
  exact .cons h (ih rfl)
 |_=>trivial
theorem Reps.ofp:∀{vs:List V} {ds:List D},Paired (fun v d=>Rep K κ H v d []) vs ds->Reps K κ H vs ds []
 |_,_,.nil=> .nil
 |_,_,.cons h hs=> .cons (f:=[]) (g:=[]) h (Reps.ofp hs)
end
theorem Paired.takeN:∀{l₁:List α} {l₂:List β} (n:Nat),Paired R l₁ l₂->Paired R (l₁.take n) (l₂.take n)
 |_,_,0,_=> .nil
 |_,_,_+1,.nil=> .nil
 |_,_,n+1,.cons h t=> .cons h (Paired.takeN n t)
theorem Paired.dropN:∀{l₁:List α} {l₂:List β} (n:Nat),Paired R l₁ l₂->Paired R (l₁.drop n) (l₂.drop n)
 |_,_,0,r=>r
 |_,_,_+1,.nil=> .nil
 |_,_,n+1,.cons _ t=>Paired.dropN n t
theorem Paired.app:∀{l₁:List α} {l₂:List β} {m₁:List α} {m₂:List β},Paired R l₁ l₂->Paired R m₁ m₂->Paired R (l₁++m₁) (l₂++m₂)
 |_,_,_,_,.nil,r=>r
 |_,_,_,_,.cons h t,r=> .cons h (Paired.app t r)
theorem Paired.repl(r:Paired R l₁ l₂):∀k:Nat,Paired R (List.replicate k l₁).flatten (List.replicate k l₂).flatten
 |0=> .nil
 |k+1=>by rw [Yc,Yc,Yz,Yz];exact Paired.app r (Paired.repl r k)
structure SameK(H H':Hp):Prop where
 keep:∀a o,H a=some o->kd o=true->H' a=some o
 grow:∀a,H' a=none->H a=none
theorem SameK.refl(H:Hp):SameK H H:=⟨fun _ _ h _=>h,fun _ h=>h⟩
theorem SameK.trans(a:SameK H H1)(b:SameK H1 H2):SameK H H2:=⟨fun c o h k=>b.keep c o (a.keep c o h k) k,fun c h=>a.grow c (b.grow c h)⟩
theorem SameK.of(h:yu7 H H'):SameK H H':=⟨fun a o e _=>h a o e,fun a e=>h.free e⟩
theorem SameK.new(h:H p=none)(o:HO):SameK H (upd H p o):= .of (xj4 h o)
section
variable{K:tz0}{κ:tz9}{H H':Hp}
theorem Rep.same(e:SameK H H'){v:V}{d:D}{fp:List Addr}(r:Rep K κ H v d fp):Rep K κ H' v d fp:=
 r.move (fun a o h t=>e.keep a o h (lN t)) fun a ha=>by obtain⟨o,h,k,_⟩:=r.own a ha;rw [h];exact e.keep a o h k
theorem Reps.same(e:SameK H H'){v:List V}{d:List D}{fp:List Addr}(r:Reps K κ H v d fp):Reps K κ H' v d fp:=
 r.move (fun a o h t=>e.keep a o h (lN t)) fun a ha=>by obtain⟨o,h,k,_⟩:=r.own a ha;rw [h];exact e.keep a o h k
end
theorem PE.imp(h:PE X e t)(k:∀σ H Q,t' σ H Q->t σ H Q):PE X e t':=⟨fun pins s σ H Q I q=>h pins s σ H Q I (k σ H Q q)⟩
theorem PT.imp(h:PT X e t)(k:∀σ H Q,t' σ H Q->t σ H Q):PT X e t':=⟨fun pins s σ H Q I q=>h pins s σ H Q I (k σ H Q q)⟩
theorem PW.imp(h:PW X e t)(k:∀σ H Q,t' σ H Q->t σ H Q):PW X e t':=⟨fun wh pins s σ H Q I q=>h wh pins s σ H Q I (k σ H Q q)⟩
theorem PA.imp(h:PA X e t)(k:∀σ H Q,t' σ H Q->t σ H Q):PA X e t':=⟨fun pos pins s σ H Q I q=>h pos pins s σ H Q I (k σ H Q q)⟩
theorem PS.imp{X:Cx}{st:Stmt}{t t':TS}(h:PS X st t)(k:∀D σ H,t' D σ H->t D σ H):PS X st t':=⟨fun pins s σ H D I q=>h pins s σ H D I (k D σ H q)⟩
theorem PSs.imp{X:Cx}{st:List Stmt}{t t':TS}(h:PSs X st t)(k:∀D σ H,t' D σ H->t D σ H):PSs X st t':=⟨fun pins s σ H D I q=>h pins s σ H D I (k D σ H q)⟩
abbrev PSt:=List (Option D)
abbrev _root_.tz7:=List D->Option (D×List D)
abbrev _root_.tz8:=PSt->Option (D×PSt)
abbrev _root_.tz3:=PSt->Option (List D)
abbrev _root_.tz4:=PSt->Option Bool
abbrev _root_.tz6:=List D->Option D
abbrev _root_.tz2:=PSt->Option D
abbrev _root_.tz5:=PSt->Bool
def WS(K:tz0)(κ:tz9)(H:Hp)(σ:St)(ps:PSt):Prop:=∀(i:Nat) (d:D),ps[i]? =some (some d)->∃v fp,σ[i]? =some (some v)/\Rep K κ H v d fp
theorem WS.same{K:tz0}{κ:tz9}{H H':Hp}{σ:St}{ps:PSt}(w:WS K κ H σ ps)(e:SameK H H'):WS K κ H' σ ps:=fun i d h=>by
 obtain⟨v,fp,h1,h2⟩:=w i d h
 exact⟨v,fp,h1,h2.same e⟩
def lF(K:tz0)(κ:tz9)(H:Hp)(d:D)(Q:VK):Prop:=∀v H' fv,SameK H H'->(∀a∈fv,H a=none)->fv.Nodup->Rep K κ H' v d fv->Q v H'
def wi9(K:tz0)(κ:tz9)(H:Hp)(d:D)(Q:VK):Prop:=∀v H' fp,SameK H H'->Rep K κ H' v d fp->Q v H'
def tV(K:tz0)(κ:tz9)(f:tz2):TE:=fun σ H Q=>∃ps d,WS K κ H σ ps/\f ps=some d/\wi9 K κ H d Q
def tP(K:tz0)(κ:tz9)(f:tz2):TE:=fun σ H Q=>∃ps d,WS K κ H σ ps/\f ps=some d/\lF K κ H d Q
def tQ(K:tz0)(κ:tz9)(f:tz4):TT:=fun σ H Q=>∃ps b,WS K κ H σ ps/\f ps=some b/\∀H',SameK H H'->Q b H'
def tVA(K:tz0)(κ:tz9)(f:tz3):TA:=fun σ H Q=>∃ps ds,WS K κ H σ ps/\f ps=some ds/\∀vs H' fp,SameK H H'->Reps K κ H' vs ds fp->Q vs H'
def tPA(K:tz0)(κ:tz9)(f:tz3):TA:=fun σ H Q=>∃ps ds,WS K κ H σ ps/\f ps=some ds/\∀vs H' fv,SameK H H'->(∀a∈fv,H a=none)->fv.Nodup->Reps K κ H' vs ds fv->Q vs H'
abbrev QV(X:Cx)(κ:tz9)(e:Expr)(f:tz2):Prop:=PE X e (tV X.K κ f)
abbrev QP(X:Cx)(κ:tz9)(e:Expr)(f:tz2):Prop:=PE X e (tP X.K κ f)
abbrev QT(X:Cx)(κ:tz9)(e:Expr)(f:tz4):Prop:=PT X e (tQ X.K κ f)
abbrev QW(X:Cx)(κ:tz9)(e:Expr)(f:tz4):Prop:=PW X e (tQ X.K κ f)
abbrev QVA(X:Cx)(κ:tz9)(es:List Expr)(f:tz3):Prop:=PA X es (tVA X.K κ f)
abbrev QPA(X:Cx)(κ:tz9)(es:List Expr)(f:tz3):Prop:=PA X es (tPA X.K κ f)
theorem lF.see{K:tz0}{κ:tz9}{H:Hp}{d:D}{Q:VK}(h:wi9 K κ H d Q):lF K κ H d Q:=fun v H' fv s _ _ r=>h v H' fv s r
theorem lF.after{K:tz0}{κ:tz9}{H H1:Hp}{d:D}{Q:VK}(h:lF K κ H d Q)(s:SameK H H1):lF K κ H1 d Q:=
 fun v H' fv s' n nd r=>h v H' fv (s.trans s') (fun a ha=>s.grow a (n a ha)) nd r
theorem lF.now{K:tz0}{κ:tz9}{H:Hp}{d:D}{Q:VK}{v:V}(h:lF K κ H d Q)(r:Rep K κ H v d []):Q v H:=h v H [] (.refl H) (fun _ h=>absurd h (by simp)) Zk r
theorem lF.at{K:tz0}{κ:tz9}{H:Hp}{d:D}{Q:VK}{p:Addr}{o:HO}{fv:List Addr}(h:lF K κ H d Q)(hp:H p=none)(hn:∀a∈fv,H a=none)(nd:fv.Nodup)(r:Rep K κ (upd H p o) (.ref p) d fv):Q (.ref p) (upd H p o):=
 h _ _ fv (.new hp o) hn nd r
section
variable{X:Cx}{κ:tz9}{e a b:Expr}{f fa fb:tz2}
theorem QP.v(h:QP X κ e f):QV X κ e f:=h.imp fun _ _ _ ⟨ps,d,w,e,q⟩=>⟨ps,d,w,e,.see q⟩
def aX(f:tz2):tz2:=fun ps=>(f ps).bind fun d=>if d.imm=true then some d else none
theorem QV.p(h:QV X κ e f):QP X κ e (aX f):=h.imp fun σ H Q hh_=>by
 obtain⟨ps,d,w,e,q⟩:=hh_
 unfold aX at e
 cases e1:f ps with
 |none=>rw [e1] at e;cases e
 | some d1=>
  rw [e1] at e
  by_cases hi:d1.imm=true
  ·have e2:d1=d:=by simpa [hi] using e
   subst e2
   refine⟨ps,d1,w,e1,fun v H' fp s r=> ?_⟩
   have:=r.imm hi;subst this
   exact q v H' [] s (fun _ h=>absurd h (by simp)) Zk r
  ·simp [hi] at e
def aB(i:Nat):tz2:=fun ps=>(ps[i]?).join
theorem aC(i:Nat){x:Str}{pos:Pos}(hN:X.N[i]? =some x:=by rfl)(hv:Vis X.env.scope x:=by first|exact Or.inl rfl|exact Or.inr (Or.inl rfl)|exact Or.inr (Or.inr rfl))(hd:NDb x:=by decide)
  (hcd:(x==("__classdict__":Str))=false:=by decide):QV X κ (.Name x pos) (aB i):=(tF hN hv hd hcd).imp fun σ H Q hh_=>by
 obtain⟨ps,d,w,e,q⟩:=hh_
 have e':ps[i]? =some (some d):=by
  unfold aB at e
  cases q:ps[i]? with
  |none=>rw [q] at e;cases e
  |some o=>rw [q] at e;exact ZJ some e
 obtain⟨v,fp,h1,h2⟩:=w i d e'
 exact⟨v,h1,q v H fp (.refl H) h2⟩
def fC(d:D):tz2:=fun _=>some d
theorem aK{i j pos}:QP X κ (.Constant (.int i) j pos) (fC (.int i)):=iP.imp fun σ H Q ⟨ps,d,w,e,q⟩=>by cases e;exact q _ H [] (.refl H) (fun _ h=>absurd h (by simp)) Zk (.int i)
theorem cY{x j pos}:QP X κ (.Constant (.str x) j pos) (fC (.str x)):=yw5.imp fun σ H Q ⟨ps,d,w,e,q⟩=>by cases e;exact q _ H [] (.refl H) (fun _ h=>absurd h (by simp)) Zk (.str x)
theorem qA{b j pos}:QP X κ (.Constant (.bool b) j pos) (fC (.bl b)):=xq7.imp fun σ H Q ⟨ps,d,w,e,q⟩=>by cases e;exact q _ H [] (.refl H) (fun _ h=>absurd h (by simp)) Zk (.bl b)
theorem lO{j pos}:QP X κ (.Constant .none j pos) (fC .non):=yw4.imp fun σ H Q ⟨ps,d,w,e,q⟩=>by cases e;exact q _ H [] (.refl H) (fun _ h=>absurd h (by simp)) Zk .non
theorem sS(hg:Gl X x)(hm:X.mg x=some u)(r:cF v u)(hd:∀H,Rep X.K κ H v d [])(hdb:NDb x:=by decide):QP X κ (.Name x pos) (fC d):=
 (xs9 hg hm r hdb).imp fun σ H Q ⟨ps,d,w,e,q⟩=>by cases e;exact q _ H [] (.refl H) (fun _ h=>absurd h (by simp)) Zk (hd H)
theorem zx7(hg:Gl X x)(hm:X.mg x=none)(hv:bootBuiltins x=some (.type n))(hn:x≠"__name__":=by decide)(hd:NDb x:=by decide):QP X κ (.Name x pos) (fC (.ty n)):=
 (xt0 (v:= .ty n) hg hm hv rfl hn hd).imp fun σ H Q ⟨ps,d,w,e,q⟩=>by cases e;exact q _ H [] (.refl H) (fun _ h=>absurd h (by simp)) Zk (.ty n)
def f2(g:D->D->Option D)(fa fb:tz2):tz2:=fun ps=>(fa ps).bind fun x=>(fb ps).bind fun y=>g x y
def POp(K:tz0)(κ:tz9)(g:D->D->Option D):R2:=fun x y H Q=>∃dx dy d fx fy,Rep K κ H x dx fx/\Rep K κ H y dy fy/\g dx dy=some d/\lF K κ H d Q
theorem vX(h:f2 g fa fb ps=some d):∃x y,fa ps=some x/\fb ps=some y/\g x y=some d:=by
 unfold f2 at h
 cases e1:fa ps with
 |none=>rw [e1] at h;cases h
 |some x=>
  rw [e1] at h
  cases e2:fb ps with
  |none=>rw [e2] at h;cases h
  |some y=>rw [e2] at h;exact⟨x,y,rfl,rfl,h⟩
theorem ya5(hr:∀x y H Q,POp X.K κ g x y H Q->r x y H Q)(h:tP X.K κ (f2 g fa fb) σ H Q):tOp r (tV X.K κ fa) (tV X.K κ fb) σ H Q:=by
 obtain⟨ps,d,w,e,q⟩:=h
 obtain⟨x,y,e1,e2,e3⟩:=vX e
 exact⟨ps,x,w,e1,fun v H1 fp s1 r1=>⟨ps,y,w.same s1,e2,fun u H2 fq s2 r2=>hr _ _ _ _ ⟨x,y,d,fp,fq,r1.same s2,r2,e3,q.after (s1.trans s2)⟩⟩⟩
theorem bO(ho:OpR X (binaryOp op) (POp X.K κ g))(ha:QV X κ a fa)(hb:QV X κ b fb):QP X κ (.BinOp a op b pos) (f2 g fa fb):=
 (gH ho ha hb).imp fun _ _ _ h=>ya5 (fun _ _ _ _ h=>h) h
theorem oE(ho:OpR X (compareOp op) (POp X.K κ g))(ha:QV X κ a fa)(hb:QV X κ b fb)(hm:behindInMarks op b=false):QP X κ (.Compare a [op] [b] pos) (f2 g fa fb):=
 (xt4 ho ha hb hm).imp fun _ _ _ h=>ya5 (fun _ _ _ _ h=>h) h
def dB:D->Option Bool
 | .bl b=>some b
 |_=>none
def fB(f:tz2):tz4:=fun ps=>(f ps).bind dB
theorem yk6{f:tz2}{ps:PSt}{b:Bool}(h:fB f ps=some b):f ps=some (.bl b):=by
 unfold fB at h
 cases e:f ps with
 |none=>rw [e] at h;cases h
 |some d=>rw [e] at h;cases d<;>first|(cases h;rfl)|cases h
theorem Rep.is_bl{K:tz0}{H:Hp}{v:V}{b:Bool}{fp:List Addr}(r:Rep K κ H v (.bl b) fp):v= .bl b:=by cases r;rfl
theorem Rep.is_int{K:tz0}{H:Hp}{v:V}{b:Int}{fp:List Addr}(r:Rep K κ H v (.int b) fp):v= .int b:=by cases r;rfl
theorem Rep.is_str{K:tz0}{H:Hp}{v:V}{b:Str}{fp:List Addr}(r:Rep K κ H v (.str b) fp):v= .str b:=by cases r;rfl
theorem cC(ho:OpR X (compareOp op) (POp X.K κ g))(ha:QV X κ a fa)(hb:QV X κ b fb)(hm:behindInMarks op b=false):QT X κ (.Compare a [op] [b] pos) (fB (f2 g fa fb)):=
 (yk1 ho ha hb hm).imp fun σ H Q ⟨ps,c,w,e,q⟩=>ya5 (Q:=fun x H'=>∃k,x= .bl k/\Q k H') (fun _ _ _ _ h=>h) ⟨ps,_,w,yk6 e,fun v H' fv s _ _ r=>⟨c,r.is_bl,q H' s⟩⟩
def f3(g g':D->D->Option D)(fa fb fc:tz2):tz2:=fun ps=>(fa ps).bind fun x=>(fb ps).bind fun y=>(g x y).bind fun k=>match k with
 | .bl true=>(fc ps).bind fun z=>g' y z
 | .bl false=>some (.bl false)
 |_=>none
def zr4:D->Option Bool
 | .non=>some false
 | .bl b=>some b
 | .int i=>some (i !=0)
 | .str y=>if y.length<=sizeLine then some ((y.length:Int) !=0) else none
 | .lst _ xs=>some (!xs.isEmpty)
 | .tup xs=>some (!xs.isEmpty)
 | .con xs=>some (!xs.isEmpty)
 |_=>none
theorem oF{K:tz0}{H:Hp}{vs:List V}{ds:List D}{fp:List Addr}(r:Reps K κ H vs ds fp):ds.isEmpty=vs.isEmpty:=by cases r<;>rfl
theorem xv0{K:tz0}{H:Hp}{v:V}{d:D}{fp:List Addr}{b:Bool}(r:Rep K κ H v d fp)(h:zr4 d=some b):xp5 K v H b:=by
 cases r with
 |non=>cases h;rfl
 |bl b=>cases h;rfl
 |int i=>cases h;rfl
 |str x=>
  rw [zr4] at h
  split at h
  ·cases h;exact⟨by assumption,rfl⟩
  ·cases h
 |tup s rs=>cases h;exact .inr (.inl ⟨_,s,by rw [oF rs]⟩)
 |con s rs=>cases h;exact .inl ⟨_,s.l,by rw [oF rs]⟩
 |lst s rs=>cases h;exact .inl ⟨_,.inl (.inl s),by rw [oF rs]⟩
 |lstF s rs=>cases h;exact .inl ⟨_,.inl (.inr ⟨_,s⟩),by rw [oF rs]⟩
 |_=>cases h
def fT(f:tz2):tz4:=fun ps=>(f ps).bind zr4
theorem xv1{f:tz2}{ps:PSt}{b:Bool}(h:fT f ps=some b):∃d,f ps=some d/\zr4 d=some b:=by
 unfold fT at h
 cases e:f ps with
 |none=>rw [e] at h;cases h
 |some d=>rw [e] at h;exact⟨d,rfl,h⟩
theorem fD(ha:QV X κ a fa)(he:∀whole,isTrue a X.env whole=(do let v<-whole;standAt a.pos;holding [v] (truthy v)):=by intro _;rfl):QT X κ a (fT fa):=
 (xi2 ha he).imp fun σ H Q hh_=>by
  obtain⟨ps,c,w,e,q⟩:=hh_
  obtain⟨d,e1,e2⟩:=xv1 e
  exact⟨ps,d,w,e1,fun v H' fp s r=>⟨c,xv0 r e2,q H' s⟩⟩
def cU(f g:tz4):tz4:=fun ps=>(f ps).bind fun c=>if c=true then g ps else some false
def gN(f g:tz4):tz4:=fun ps=>(f ps).bind fun c=>if c=true then some true else g ps
def cM(f:tz4):tz4:=fun ps=>(f ps).map (!·)
variable{pos:Pos}{rest:List Expr}{ta tb:tz4}
theorem pG(ha:QT X κ a ta):QW X κ (.BoolOp .And [a] pos) ta:=xt1 ha
theorem qK(ha:QT X κ a ta):QW X κ (.BoolOp .Or [a] pos) ta:=wa9 ha
theorem qL(ha:QT X κ a ta)(hb:QW X κ (.BoolOp .And (b::rest) pos) tb):QW X κ (.BoolOp .And (a::b::rest) pos) (cU ta tb):=
 (wb0 ha hb).imp fun σ H Q hh_=>by
  obtain⟨ps,c,w,e,q⟩:=hh_
  unfold cU at e
  cases e1:ta ps with
  |none=>rw [e1] at e;cases e
  | some k=>
   rw [e1] at e
   refine⟨ps,k,w,e1,fun H1 s1=> ?_⟩
   cases k with
   |true=>rw [if_pos rfl];exact⟨ps,c,w.same s1,by simpa using e,fun H2 s2=>q H2 (s1.trans s2)⟩
   |false=>
    rw [if_neg Za]
    have:c=false:=by simpa using e.symm
    subst this;exact q H1 s1
theorem sB(ha:QT X κ a ta)(hb:QW X κ (.BoolOp .Or (b::rest) pos) tb):QW X κ (.BoolOp .Or (a::b::rest) pos) (gN ta tb):=
 (wj7 ha hb).imp fun σ H Q hh_=>by
  obtain⟨ps,c,w,e,q⟩:=hh_
  unfold gN at e
  cases e1:ta ps with
  |none=>rw [e1] at e;cases e
  | some k=>
   rw [e1] at e
   refine⟨ps,k,w,e1,fun H1 s1=> ?_⟩
   cases k with
   |true=>
    rw [if_pos rfl]
    have:c=true:=by simpa using e.symm
    subst this;exact q H1 s1
   |false=>rw [if_neg Za];exact⟨ps,c,w.same s1,by simpa using e,fun H2 s2=>q H2 (s1.trans s2)⟩
theorem nL(h:QW X κ a ta):QT X κ a ta:=PW.pt h
theorem jS(ha:QT X κ a ta):QT X κ (.UnaryOp .Not a pos) (cM ta):=
 (wb1 ha).imp fun σ H Q hh_=>by
  obtain⟨ps,c,w,e,q⟩:=hh_
  unfold cM at e
  cases e1:ta ps with
  |none=>rw [e1] at e;cases e
  |some k=>
   rw [e1] at e
   have:c= !k:=by simpa using e.symm
   subst this
   exact⟨ps,k,w,e1,fun H1 s1=>q H1 s1⟩
def vS(f g:tz2):tz2:=fun ps=>(f ps).bind fun c=>match c with
 | .bl true=>g ps
 | .bl false=>some (.bl false)
 |_=>none
def fOr(f g:tz2):tz2:=fun ps=>(f ps).bind fun c=>match c with
 | .bl true=>some (.bl true)
 | .bl false=>g ps
 |_=>none
theorem yr2{d:D}{α:Type}{x y:Option α}{z:α}(h:(match d with| .bl true=>x| .bl false=>y|_=>none)=some z):∃b,d= .bl b/\(if b=true then x else y)=some z:=by
 cases d with
 |bl b=>cases b<;>exact⟨_,rfl,h⟩
 |_=>cases h
theorem ya6{op}(h:QP X κ a fa):QP X κ (.BoolOp op [a] pos) fa:=wb2 h
theorem yz4(ha:QP X κ a fa)(hb:QP X κ (.BoolOp .And (b::rest) pos) fb):QP X κ (.BoolOp .And (a::b::rest) pos) (vS fa fb):=
 (wb3 ha hb).imp fun σ H Q hh_=>by
  obtain⟨ps,d,w,e,q⟩:=hh_
  unfold vS at e
  cases e1:fa ps with
  |none=>rw [e1] at e;cases e
  | some k=>
   rw [e1] at e
   obtain⟨c,rfl,e2⟩:=yr2 (x:=fb ps) (y:=some (.bl false)) e
   refine⟨ps,_,w,e1,fun v H1 fv s1 _ _ r1=>⟨c,r1.is_bl,?_⟩⟩
   cases c with
   |true=>rw [if_pos rfl] at e2|-;exact⟨ps,d,w.same s1,e2,q.after s1⟩
   |false=>
    rw [if_neg Za] at e2|-
    cases e2;exact(q.after s1).now (.bl false)
theorem wk6(ha:QP X κ a fa)(hb:QP X κ (.BoolOp .Or (b::rest) pos) fb):QP X κ (.BoolOp .Or (a::b::rest) pos) (fOr fa fb):=
 (wj8 ha hb).imp fun σ H Q hh_=>by
  obtain⟨ps,d,w,e,q⟩:=hh_
  unfold fOr at e
  cases e1:fa ps with
  |none=>rw [e1] at e;cases e
  |some k=>
   rw [e1] at e
   obtain⟨c,rfl,e2⟩:=yr2 (d:=k) (x:=some (D.bl true)) (y:=fb ps) (z:=d) e
   refine⟨ps,_,w,e1,fun v H1 fv s1 _ _ r1=>⟨c,r1.is_bl,?_⟩⟩
   cases c with
   |true=>rw [if_pos rfl] at e2|-;cases e2;exact(q.after s1).now (.bl true)
   |false=>rw [if_neg Za] at e2|-;exact⟨ps,d,w.same s1,e2,q.after s1⟩
def dN(f:tz2):tz2:=fun ps=>(f ps).bind fun c=>match c with
 | .int i=>some (.int (-i))
 |_=>none
theorem oG(ha:QV X κ a fa):QP X κ (.UnaryOp .USub a pos) (dN fa):=
 (wj9 wb8 ha).imp fun σ H Q hh_=>by
  obtain⟨ps,d,w,e,q⟩:=hh_
  unfold dN at e
  cases e1:fa ps with
  |none=>rw [e1] at e;cases e
  |some k=>
   rw [e1] at e
   cases k with
   |int i=>cases e;exact⟨ps,_,w,e1,fun v H1 fp s1 r1=>⟨i,r1.is_int,(q.after s1).now (.int _)⟩⟩
   |_=>cases e
end
section
variable{X:Cx}{κ:tz9}
theorem Inv.lstR(I:Inv X pins σ H s)(h:Rd H l (.lst xs)):
  xs.length<=sizeLine/\∃(its:List Value) (n:Nat),bF xs its/\xs.length=its.length/\s.heap.get? l=some {cls:= .type "list",data:= .seq its.toArray n}:=by
 obtain⟨z,its,n,r,e⟩:=h.ok I.hok
 exact⟨z,its,n,r,r.length,e⟩
theorem xv2:OpR X (binaryOp .Add) (fun x y H Q=>∃l b xs zs,x= .ref l/\y= .ref b/\Rd H l (.lst xs)/\Rd H b (.lst zs)/\xs.length+zs.length<=sizeLine/\∀p,H p=none->Q (.ref p) (upd H p (.lst (xs++zs)))):=⟨by
 intro pins s σ H x y v u Q I rx ry h
 obtain⟨l,b,xs,zs,rfl,rfl,hH,hB,hz,q⟩:=h
 cases rx
 cases ry
 obtain⟨z,its,n,r,hl,e⟩:=I.lstR hH
 obtain⟨z2,its2,n2,r2,hl2,e2⟩:=I.lstR hB
 refine PySem.P.add_list e e2 ?_ (by rw [Zi,Zi];omega)
 have ea:its.toArray++its2.toArray=(its++its2).toArray:=by simp
 rw [ea]
 exact⟨.ref _,_,I.lnew (t':=s.toks) (r.append r2) (by rw [Z5];omega),rfl,q _ I.fresh⟩⟩
theorem xj7:OpR X (binaryOp .Add) (fun x y H Q=>∃a b ys,x= .ref a/\y= .ref b/\SqT X.K H a []/\SqT X.K H b ys/\Q (.ref b) H):=⟨by
 intro pins s σ H x y v u Q I rx ry h
 obtain⟨a,b,ys,rfl,rfl,ha,hb,q⟩:=h
 cases rx
 cases ry
 obtain⟨its,r1,p1,_⟩:=I.tuple ha
 obtain⟨its2,r2,p2,_⟩:=I.tuple hb
 cases r1
 obtain⟨⟨cls,dd,data,sl⟩,ho,hc,n,hd⟩:=id p1
 obtain⟨⟨cls2,dd2,data2,sl2⟩,ho2,hc2,n2,hd2⟩:=id p2
 simp only at hc hd hc2 hd2
 subst hc hd hc2 hd2
 exact concat_meets ⟨_,ho,rfl⟩ ⟨_,ho2,rfl⟩ XN Wo X0 YW (YR _ _)
   (tuple_addW0 a b _ _ n n2 dd dd2 sl sl2 rfl) ⟨ho,ho2,⟨.ref b,H,I,rfl,q⟩⟩⟩
theorem Rep.lst_inv{K:tz0}{H:Hp}{v:V}{o:Bool}{ds:List D}{fp:List Addr}(r:Rep K κ H v (.lst o ds) fp):∃a vs g,v= .ref a/\Rd H a (.lst vs)/\Reps K κ H vs ds g/\g.Sublist fp:=by
 cases r with
 |lst h hs=>exact⟨_,_,_,rfl,.inl h,hs,X1 _ _⟩
 |lstF h hs=>exact⟨_,_,_,rfl,.inr ⟨_,h⟩,hs,.refl _⟩
theorem Rep.lstT_inv{K:tz0}{H:Hp}{v:V}{ds:List D}{fp:List Addr}(r:Rep K κ H v (.lst true ds) fp):∃a vs g,v= .ref a/\H a=some (.lst vs)/\Reps K κ H vs ds g/\fp=a::g:=by
 cases r with
 |lst h hs=>exact⟨_,_,_,rfl,h,hs,rfl⟩
theorem Rep.objT_inv{K:tz0}{H:Hp}{v:V}{C:Str}{ns:List Str}{ds:List D}{fp:List Addr}(r:Rep K κ H v (.obj true C ns ds) fp):∃a dx fs g,v= .ref a/\H a=some (.ins (κ C) dx fs)/\fs.map (·.1)=ns/\Reps K κ H (fs.map (·.2)) ds g/\fp=a::g:=by
 cases r with
 |obj h e hs=>exact⟨_,_,_,_,rfl,h,e,hs,rfl⟩
theorem Rep.tup_inv{K:tz0}{H:Hp}{v:V}{ds:List D}{fp:List Addr}(r:Rep K κ H v (.tup ds) fp):∃a vs,v= .ref a/\SqT K H a vs/\Reps K κ H vs ds []:=by
 cases r with
 |tup h hs=>exact⟨_,_,rfl,h,hs⟩
theorem Reps.pair{K:tz0}{H:Hp}{vs:List V}{ds:List D}{fp:List Addr}(r:Reps K κ H vs ds fp)(h:D.imms ds=true):Paired (fun v d=>Rep K κ H v d []) vs ds:=by
 have e:=r.imm h
 subst e
 exact r.nilp
theorem Rep.con_inv{K:tz0}{H:Hp}{v:V}{ds:List D}{fp:List Addr}(r:Rep K κ H v (.con ds) fp):∃a vs,v= .ref a/\SqF K H a vs/\Reps K κ H vs ds []:=by
 cases r with
 |con h hs=>exact⟨_,_,rfl,h,hs⟩
theorem sT{K:tz0}{H:Hp}{vs:List V}{ds:List D}{Q:VK}{p:Addr}(hp:H p=none)(r:Paired (fun v d=>Rep K κ H v d []) vs ds)(q:lF K κ H (.lst true ds) Q):Q (.ref p) (upd H p (.lst vs)):=
 q.at hp (fv:=[p]) (fun a ha=>by simp at ha;subst ha;exact hp) (by simp) (.lst cV ((Reps.ofp r).same (.new hp _)))
theorem zo4{K:tz0}{H:Hp}{vs:List V}{ds:List D}{Q:VK}{p:Addr}(hp:H p=none)(r:Paired (fun v d=>Rep K κ H v d []) vs ds)(q:lF K κ H (.tup ds) Q):Q (.ref p) (upd H p (.tup vs)):=
 q.at hp (fv:=[]) (fun a ha=>by simp at ha) (by simp) (.tup (.inl (.inl cV)) ((Reps.ofp r).same (.new hp _)))
def cO:D->D->Option D
 | .int i,.int j=>some (.int (i+j))
 | .str x,.str y=>if x.length+y.length<=sizeLine then some (.str (x++y)) else none
 | .lst _ xs,.lst _ ys=>if (D.imms xs&&D.imms ys&&decide (xs.length+ys.length<=sizeLine))=true then some (.lst true (xs++ys)) else none
 | .tup xs,.tup ys=>if xs.length+ys.length<=sizeLine then some (.tup (xs++ys)) else none
 |_,_=>none
theorem bind_some(h:o.bind g=some z):∃x,o=some x/\g x=some z:=by
 cases o with
 |none=>cases h
 |some x=>exact⟨x,rfl,h⟩
theorem bK[Decidable c]{x:Option α}{z:α}(h:(if c then x else none)=some z):c/\x=some z:=by
 by_cases k:c
 ·rw [if_pos k] at h;exact⟨k,h⟩
 ·rw [if_neg k] at h;cases h
theorem fN:OpR X (binaryOp .Add) (POp X.K κ cO):=⟨by
 rintro pins s σ H x y v u Q I rx ry ⟨dx,dy,d,fx,fy,r1,r2,e,q⟩
 unfold cO at e
 split at e
 ·rename_i i j
  cases e;exact vW pins s σ H x y v u Q I rx ry ⟨i,j,r1.is_int,r2.is_int,q.now (.int _)⟩
 ·rename_i i j
  obtain⟨hc,e⟩:=bK e
  cases e;exact yp9 pins s σ H x y v u Q I rx ry ⟨i,j,r1.is_str,r2.is_str,hc,q.now (.str _)⟩
 ·rename_i o xs o' ys
  obtain⟨hc,e⟩:=bK e
  simp only [Zy,ZT] at hc
  cases e
  obtain⟨a,vs,g,rfl,h1,s1,_⟩:=r1.lst_inv
  obtain⟨b,us,g',rfl,h2,s2,_⟩:=r2.lst_inv
  exact xv2 pins s σ H _ _ v u Q I rx ry ⟨a,b,vs,us,rfl,rfl,h1,h2,by rw [s1.length,s2.length];exact hc.2,fun p hp=>sT hp (Paired.app (s1.pair hc.1.1) (s2.pair hc.1.2)) q⟩
 ·rename_i xs ys
  obtain⟨hc,e⟩:=bK e
  cases e
  obtain⟨a,vs,rfl,h1,s1⟩:=r1.tup_inv
  obtain⟨b,us,rfl,h2,s2⟩:=r2.tup_inv
  have l1:=s1.length;have l2:=s2.length
  cases vs with
  |nil=>
   cases s1
   exact xj7 pins s σ H _ _ v u Q I rx ry ⟨a,b,us,rfl,rfl,h1,h2,q.now (.tup h2 s2)⟩
  |cons w ws=>
   refine xu0 pins s σ H _ _ v u Q I rx ry ⟨a,b,_,us,rfl,rfl,h1,h2,by simp,by omega,fun z=> ?_,fun z p hp=>zo4 hp (Paired.app s1.nilp s2.nilp) q⟩
   subst z
   cases s2
   rw [Zl] at q
   exact q.now (.tup h1 s1)
 ·cases e⟩
def dII(C:Int->Int->Bool)(g:Int->Int->D):D->D->Option D
 | .int i,.int j=>if C i j=true then some (g i j) else none
 |_,_=>none
theorem ya7(h:dII C g x y=some d):∃i j,x= .int i/\y= .int j/\C i j=true/\d=g i j:=by
 unfold dII at h
 split at h
 ·obtain⟨hc,h⟩:=bK h
  cases h;exact⟨_,_,rfl,rfl,hc,rfl⟩
 ·cases h
def iT:D->D->Option D
 | .int i,.int j=>some (.int (i-j))
 |_,_=>none
theorem sC:OpR X (binaryOp .Sub) (POp X.K κ iT):=⟨by
 rintro pins s σ H x y v u Q I rx ry ⟨dx,dy,d,fx,fy,r1,r2,e,q⟩
 unfold iT at e
 split at e
 ·rename_i i j
  cases e;exact wb6 pins s σ H x y v u Q I rx ry ⟨i,j,r1.is_int,r2.is_int,q.now (.int _)⟩
 ·cases e⟩
def qW(i j:Int):Bool:=(decide (-(2^64)<i)&&decide (i<2^64))||(decide (-(2^64)<j)&&decide (j<2^64))
def nR:D->D->Option D
 | .int i,.int j=>if qW i j=true then some (.int (i*j)) else none
 | .str x,.int n=>if (decide (x.length<=1)&&decide (-(2^63)<=n)&&decide (n<=16777216))=true then some (.str (Txt.mul x n)) else none
 |_,_=>none
theorem yr3:OpR X (binaryOp .Mult) (fun x y H Q=>∃z n,x= .str z/\y= .int n/\MulOk z n/\Q (.str (Txt.mul z n)) H):=⟨by
 rintro pins s σ H x y v u Q I rx ry ⟨z,n,e1,e2,ok,q⟩
 subst e1 e2
 obtain⟨t,rfl⟩:=rx
 obtain⟨t',rfl⟩:=ry
 exact SB.mul ok fun t' k=>⟨.str _,H,I.tok k,⟨_,rfl⟩,q⟩⟩
theorem zi9:OpR X (binaryOp .Mult) (POp X.K κ nR):=⟨by
 rintro pins s σ H x y v u Q I rx ry ⟨dx,dy,d,fx,fy,r1,r2,e,q⟩
 unfold nR at e
 split at e
 ·rename_i i j
  obtain⟨hc,e⟩:=bK e
  cases e
  refine oA pins s σ H x y v u Q I rx ry ⟨i,j,r1.is_int,r2.is_int,?_,q.now (.int _)⟩
  unfold qW at hc
  simp only [Bool.or_eq_true,Zy,ZT] at hc
  exact hc
 ·rename_i z n
  obtain⟨hc,e⟩:=bK e
  simp only [Zy,ZT] at hc
  cases e
  exact yr3 pins s σ H _ _ v u Q I rx ry ⟨z,n,r1.is_str,r2.is_int,mulOk_of 1 16777216 hc.1.1 (by omega) hc.1.2 (by decide) (by decide),q.now (.str _)⟩
 ·cases e⟩
def eC:D->D->Option D:=dII (fun _ j=>decide (0<j)) fun i j=> .int (i % j)
theorem iZ:OpR X (binaryOp .Mod) (POp X.K κ eC):=⟨by
 rintro pins s σ H x y v u Q I rx ry ⟨dx,dy,d,fx,fy,r1,r2,e,q⟩
 obtain⟨i,j,rfl,rfl,hc,rfl⟩:=ya7 e
 exact zi3 pins s σ H x y v u Q I rx ry ⟨i,j,r1.is_int,r2.is_int,Xn hc,q.now (.int _)⟩⟩
def mT:D->D->Option D:=dII (fun _ j=>decide (0<j)&&decide (j<1073741824)) fun i j=> .int (i/j)
theorem wY:OpR X (binaryOp .FloorDiv) (POp X.K κ mT):=⟨by
 rintro pins s σ H x y v u Q I rx ry ⟨dx,dy,d,fx,fy,r1,r2,e,q⟩
 obtain⟨i,j,rfl,rfl,hc,rfl⟩:=ya7 e
 simp only [Zy,ZT] at hc
 exact yj7 pins s σ H x y v u Q I rx ry ⟨i,j,r1.is_int,r2.is_int,hc,q.now (.int _)⟩⟩
def D.ints:List D->Option (List Int)
 |[]=>some []
 | .int i::ds=>(D.ints ds).map (i::·)
 |_::_=>none
theorem sU{K:tz0}{H:Hp}:∀{vs:List V} {ds:List D} {fp:List Addr} {ns:List Int},Reps K κ H vs ds fp->D.ints ds=some ns->vs=ns.map V.int
 |_,_,_,_,.nil,e=>by cases e;rfl
 | _,d::ds,_,ns,.cons h hs,e=>by
  cases d with
  |int i=>
   rw [D.ints] at e
   cases e1:D.ints ds with
   |none=>rw [e1] at e;cases e
   |some ms=>rw [e1] at e;cases e;rw [h.is_int,sU hs e1];rfl
  |_=>cases e
def dLt:D->D->Option D
 | .int i,.int j=>some (.bl (decide (i<j)))
 |_,_=>none
theorem wZ(hu:X.A.units<cLine):OpR X (compareOp .Lt) (POp X.K κ dLt):=⟨by
 rintro pins s σ H x y v u Q I rx ry ⟨dx,dy,d,fx,fy,r1,r2,e,q⟩
 unfold dLt at e
 split at e
 ·rename_i i j
  cases e;exact wk0 pins s σ H x y v u Q I rx ry ⟨i,j,r1.is_int,r2.is_int,q.now (.bl _)⟩
 ·cases e⟩
def dLe:D->D->Option D
 | .int i,.int j=>some (.bl (decide (i<=j)))
 |_,_=>none
theorem zf9:OpR X (compareOp .LtE) (POp X.K κ dLe):=⟨by
 rintro pins s σ H x y v u Q I rx ry ⟨dx,dy,d,fx,fy,r1,r2,e,q⟩
 unfold dLe at e
 split at e
 ·rename_i i j
  cases e;exact wk1 pins s σ H x y v u Q I rx ry ⟨i,j,r1.is_int,r2.is_int,q.now (.bl _)⟩
 ·cases e⟩
def dGt:D->D->Option D
 | .int i,.int j=>some (.bl (decide (j<i)))
 |_,_=>none
theorem ya8:OpR X (compareOp .Gt) (POp X.K κ dGt):=⟨by
 rintro pins s σ H x y v u Q I rx ry ⟨dx,dy,d,fx,fy,r1,r2,e,q⟩
 unfold dGt at e
 split at e
 ·rename_i i j
  cases e;exact wk2 pins s σ H x y v u Q I rx ry ⟨i,j,r1.is_int,r2.is_int,q.now (.bl _)⟩
 ·cases e⟩
def dGe:D->D->Option D
 | .int i,.int j=>some (.bl (decide (j<=i)))
 |_,_=>none
theorem xj8:OpR X (compareOp .GtE) (POp X.K κ dGe):=⟨by
 rintro pins s σ H x y v u Q I rx ry ⟨dx,dy,d,fx,fy,r1,r2,e,q⟩
 unfold dGe at e
 split at e
 ·rename_i i j
  cases e;exact wk3 pins s σ H x y v u Q I rx ry ⟨i,j,r1.is_int,r2.is_int,q.now (.bl _)⟩
 ·cases e⟩
mutual
def D.data:D->Option PyData
 | .non=>some .none
 | .bl b=>some (.bool b)
 | .int i=>some (.int i)
 | .str x=>some (.str x)
 | .tup xs=>(D.datas xs).map .tuple
 | .lst _ xs=>(D.datas xs).map .list
 |_=>none
def D.datas:List D->Option (List PyData)
 |[]=>some []
 |d::ds=>d.data.bind fun p=>(D.datas ds).map (p::·)
end
theorem Reps.dps{K:tz0}{H:Hp}{vs:List V}{ds:List D}{fp:List Addr}(h:Reps K κ H vs ds fp):∀{p:List PyData},D.datas ds=some p->DpAll K H vs p:=
 Reps.rec (motive_1:=fun v d _ _=>∀{p:PyData},d.data=some p->Dp K H v p) (motive_2:=fun vs ds _ _=>∀{p:List PyData},D.datas ds=some p->DpAll K H vs p)
  (fun e=>by cases e;exact .non) (fun b _ e=>by cases e;exact .bl b) (fun b _ e=>by cases e;exact .int b) (fun b _ e=>by cases e;exact .str b) (fun b _ e=>nomatch e)
  (fun h _ ih _ e=>by obtain⟨ps,e1,e⟩:=Zp.mp e;subst e;exact .tup h (ih e1)) (fun _ _ _ _ e=>nomatch e)
  (fun h _ ih _ e=>by obtain⟨ps,e1,e⟩:=Zp.mp e;subst e;exact .lst (.inl (.inl h)) (ih e1))
  (fun h _ ih _ e=>by obtain⟨ps,e1,e⟩:=Zp.mp e;subst e;exact .lst (.inl (.inr ⟨_,h⟩)) (ih e1))
  (fun _ _ _ _ _ e=>nomatch e) (fun _ _ _ _ _ e=>nomatch e) (fun _ _ _ _ _ e=>nomatch e) (fun _ _ _ _ _ e=>nomatch e)
  (fun e=>by cases e;exact .nil)
  (fun _ _ i1 i2 _ e=>by
   obtain⟨q,e1,e⟩:=bind_some e
   obtain⟨qs,e2,e⟩:=Zp.mp e
   subst e
   exact .cons (i1 e1) (i2 e2)) h
theorem Rep.dp{K:tz0}{H:Hp}{v:V}{d:D}{fp:List Addr}{p:PyData}(h:Rep K κ H v d fp)(e:d.data=some p):Dp K H v p:=by
 have:=(Reps.one h).dps (p:=[p]) (by show(d.data.bind _)=_;rw [e];rfl)
 cases this;assumption
def za4(x y:D):Option Bool:=x.data.bind fun a=>y.data.bind fun b=>if (a.canLay0&&b.canLay0&&decide (a.depth<=60))=true then some (PyData.eqv a b) else none
def eqB(x y:D):Option Bool:=match x,y with
 | .int i,.int j=>some (decide (i=j))
 | .str i,.str j=>some (decide (i=j))
 |x,y=>za4 x y
def dEq(x y:D):Option D:=(eqB x y).map .bl
def dNe(x y:D):Option D:=(eqB x y).map fun b=> .bl (!b)
theorem zs9(h:eqB x y=some b):(∃i j,x= .int i/\y= .int j/\b=decide (i=j))\/(∃i j,x= .str i/\y= .str j/\b=decide (i=j))\/
  ∃p q,x.data=some p/\y.data=some q/\p.canLay0=true/\q.canLay0=true/\p.depth<=60/\b=PyData.eqv p q:=by
 have gen:za4 x y=some b->∃p q,x.data=some p/\y.data=some q/\p.canLay0=true/\q.canLay0=true/\p.depth<=60/\b=PyData.eqv p q:=fun h=>by
  unfold za4 at h
  cases e1:x.data with
  |none=>rw [e1] at h;cases h
  | some p=>
   rw [e1] at h
   cases e2:y.data with
   |none=>rw [e2] at h;cases h
   | some q=>
    rw [e2] at h
    have h':(if (p.canLay0&&q.canLay0&&decide (p.depth<=60))=true then some (PyData.eqv p q) else none)=some b:=h
    split at h'
    ·rename_i hc
     simp only [Zy,ZT] at hc
     exact⟨p,q,rfl,rfl,hc.1.1,hc.1.2,hc.2,(ZB h').symm⟩
    ·cases h'
 unfold eqB at h
 split at h
 ·cases h;exact .inl ⟨_,_,rfl,rfl,rfl⟩
 ·cases h;exact .inr (.inl ⟨_,_,rfl,rfl,rfl⟩)
 ·exact .inr (.inr (gen h))
theorem kB(hu:X.A.units+64<cLine):OpR X (compareOp .Eq) (POp X.K κ dEq):=⟨by
 rintro pins s σ H x y v u Q I rx ry ⟨dx,dy,d,fx,fy,r1,r2,e,q⟩
 unfold dEq at e
 cases e1:eqB dx dy with
 |none=>rw [e1] at e;cases e
 | some b=>
  rw [e1] at e
  cases e
  rcases zs9 e1 with ⟨i,j,rfl,rfl,rfl⟩|⟨i,j,rfl,rfl,rfl⟩|⟨p,p',h1,h2,h3,h4,h5,rfl⟩
  ·rw [r1.is_int] at rx;rw [r2.is_int] at ry
   exact yp7 pins s σ H _ _ v u Q I rx ry ⟨rfl,by rw [show decide (V.int i=V.int j)=decide (i=j) by simp];exact q.now (.bl _)⟩
  ·rw [r1.is_str] at rx;rw [r2.is_str] at ry
   exact yp7 pins s σ H _ _ v u Q I rx ry ⟨rfl,by rw [show decide (V.str i=V.str j)=decide (i=j) by simp];exact q.now (.bl _)⟩
  ·exact wd5 hu pins s σ H _ _ v u Q I rx ry ⟨p,p',r1.dp h1,r2.dp h2,h3,h4,h5,q.now (.bl _)⟩⟩
theorem xj9(hu:X.A.units+64<cLine):OpR X (compareOp .NotEq) (POp X.K κ dNe):=⟨by
 rintro pins s σ H x y v u Q I rx ry ⟨dx,dy,d,fx,fy,r1,r2,e,q⟩
 unfold dNe at e
 cases e1:eqB dx dy with
 |none=>rw [e1] at e;cases e
 | some b=>
  rw [e1] at e
  cases e
  rcases zs9 e1 with ⟨i,j,rfl,rfl,rfl⟩|⟨i,j,rfl,rfl,rfl⟩|⟨p,p',h1,h2,h3,h4,h5,rfl⟩
  ·rw [r1.is_int] at rx;rw [r2.is_int] at ry
   exact xq8 pins s σ H _ _ v u Q I rx ry ⟨rfl,by rw [show decide (V.int i=V.int j)=decide (i=j) by simp];exact q.now (.bl _)⟩
  ·rw [r1.is_str] at rx;rw [r2.is_str] at ry
   exact xq8 pins s σ H _ _ v u Q I rx ry ⟨rfl,by rw [show decide (V.str i=V.str j)=decide (i=j) by simp];exact q.now (.bl _)⟩
  ·exact wd6 hu pins s σ H _ _ v u Q I rx ry ⟨p,p',r1.dp h1,r2.dp h2,h3,h4,h5,q.now (.bl _)⟩⟩
def zm3:D->Bool
 | .non=>true
 |_=>false
theorem ya9{K:tz0}{H:Hp}{v:V}{d:D}{fp:List Addr}(r:Rep K κ H v d fp):decide (v= .non)=zm3 d:=by cases r<;>first|rfl|simp [zm3]
def dIs:D->D->Option D
 |x,.non=>some (.bl (zm3 x))
 |_,_=>none
def za5:D->D->Option D
 |x,.non=>some (.bl (!(zm3 x)))
 |_,_=>none
theorem yb0:OpR X (compareOp .Is) (POp X.K κ dIs):=⟨by
 rintro pins s σ H x y v u Q I rx ry ⟨dx,dy,d,fx,fy,r1,r2,e,q⟩
 cases dy with
 |non=>
  cases e;cases r2
  refine wb9 pins s σ H x _ v u Q I rx ry ⟨rfl,?_⟩
  rw [ya9 r1];exact q.now (.bl _)
 |_=>cases e⟩
theorem yk7:OpR X (compareOp .IsNot) (POp X.K κ za5):=⟨by
 rintro pins s σ H x y v u Q I rx ry ⟨dx,dy,d,fx,fy,r1,r2,e,q⟩
 cases dy with
 |non=>
  cases e;cases r2
  refine xt3 pins s σ H x _ v u Q I rx ry ⟨rfl,?_⟩
  rw [ya9 r1];exact q.now (.bl _)
 |_=>cases e⟩
def D.flat:D->Option V
 | .non=>some .non
 | .bl b=>some (.bl b)
 | .int i=>some (.int i)
 | .str x=>some (.str x)
 |_=>none
def D.flats:List D->Option (List V)
 |[]=>some []
 |d::ds=>d.flat.bind fun v=>(D.flats ds).map (v::·)
theorem yk8{K:tz0}{H:Hp}{v w:V}{d:D}{fp:List Addr}(r:Rep K κ H v d fp)(h:d.flat=some w):v=w/\lJ v=true:=by
 cases r<;>first|(cases h;exact⟨rfl,rfl⟩)|cases h
theorem yb1{K:tz0}{H:Hp}:∀{vs ws:List V} {ds:List D} {fp:List Addr},Reps K κ H vs ds fp->D.flats ds=some ws->vs=ws/\vs.all lJ=true
 |_,_,_,_,.nil,e=>by cases e;exact⟨rfl,rfl⟩
 | _,ws,d::ds,_,.cons h hs,e=>by
  rw [D.flats] at e
  cases e1:d.flat with
  |none=>rw [e1] at e;cases e
  | some w=>
   rw [e1] at e
   cases e2:D.flats ds with
   |none=>rw [e2] at e;cases e
   |some us=>
    rw [e2] at e;cases e
    obtain⟨a1,a2⟩:=yk8 h e1
    obtain⟨b1,b2⟩:=yb1 hs e2
    exact⟨by rw [a1,b1],by rw [XO,a2,b2];rfl⟩
def sJ(x:D)(ds:List D):Option Bool:=x.flat.bind fun v=>(D.flats ds).map fun ws=>inV v ws
def inB(x:D):D->Option Bool
 | .lst _ ds=>sJ x ds
 | .tup ds=>sJ x ds
 |_=>none
def dIn(x y:D):Option D:=(inB x y).map .bl
theorem wd8{H:Hp}{x y:V}{dx dy:D}{fx fy:List Addr}{b:Bool}(r1:Rep X.K κ H x dx fx)(r2:Rep X.K κ H y dy fy)(e:inB dx dy=some b):
  ∃p xs,y= .ref p/\(SqL X.K H p xs\/SqT X.K H p xs)/\lJ x=true/\xs.all lJ=true/\b=inV x xs:=by
 have gen:∀{vs:List V} {ds:List D} {g:List Addr},Reps X.K κ H vs ds g->sJ dx ds=some b->lJ x=true/\vs.all lJ=true/\b=inV x vs:=fun {vs ds g} rs h=>by
  unfold sJ at h
  cases e1:dx.flat with
  |none=>rw [e1] at h;cases h
  | some w=>
   rw [e1] at h
   cases e2:D.flats ds with
   |none=>rw [e2] at h;cases h
   |some ws=>
    rw [e2] at h
    obtain⟨a1,a2⟩:=yk8 r1 e1
    obtain⟨b1,b2⟩:=yb1 rs e2
    subst a1 b1
    exact⟨a2,b2,(ZB h).symm⟩
 cases dy with
 |lst o ds=>
  obtain⟨a,vs,g,rfl,h,hs,_⟩:=r2.lst_inv
  obtain⟨g1,g2,g3⟩:=gen hs e
  exact⟨a,vs,rfl,.inl (.inl h),g1,g2,g3⟩
 |tup ds=>
  obtain⟨a,vs,rfl,h,hs⟩:=r2.tup_inv
  obtain⟨g1,g2,g3⟩:=gen hs e
  exact⟨a,vs,rfl,.inr h,g1,g2,g3⟩
 |_=>cases e
theorem wo0:OpR X (compareOp .In) (POp X.K κ dIn):=⟨by
 rintro pins s σ H x y v u Q I rx ry ⟨dx,dy,d,fx,fy,r1,r2,e,q⟩
 unfold dIn at e
 cases e1:inB dx dy with
 |none=>rw [e1] at e;cases e
 |some b=>
  rw [e1] at e;cases e
  obtain⟨p,xs,ey,h,f1,f2,rfl⟩:=wd8 r1 r2 e1
  exact yx9 pins s σ H x y v u Q I rx ry ⟨p,xs,ey,h,f1,f2,q.now (.bl _)⟩⟩
end
theorem Reps.getS{K:tz0}{κ:tz9}{H:Hp}:∀{vs:List V} {ds:List D} {fp:List Addr} {i:Nat} {d:D},Reps K κ H vs ds fp->ds[i]? =some d->∃v f,vs[i]? =some v/\Rep K κ H v d f/\f.Sublist fp
 |_,_,_,_,_,.nil,e=>by simp at e
 |_,_,_,0,_,.cons h _,e=>by simp at e;subst e;exact⟨_,_,rfl,h,XR _ _⟩
 |_,_,_,i+1,_,.cons _ hs,e=>by
  obtain⟨v,f,h1,h2,h3⟩:=Reps.getS (i:=i) hs (by simpa using e)
  exact⟨v,f,by simpa using h1,h2,h3.trans (XM _ _)⟩
theorem Reps.atI{K:tz0}{κ:tz9}{H:Hp}{vs:List V}{ds:List D}{fp:List Addr}{i:Int}{d:D}(r:Reps K κ H vs ds fp)(h:L2.atI ds i=some d):∃v f,L2.atI vs i=some v/\Rep K κ H v d f/\f.Sublist fp:=by
 unfold L2.atI at h|-
 rw [r.length]
 cases e:ixN ds.length i with
 |none=>rw [e] at h;cases h
 |some j=>rw [e] at h;exact r.getS h
section
variable{X:Cx}{κ:tz9}{e a b:Expr}{es:List Expr}{f fa fb:tz2}{g:tz3}{pos p2:Pos}
def aE:tz3:=fun _=>some []
def aA(f:tz2)(g:tz3):tz3:=fun ps=>(f ps).bind fun d=>(g ps).bind fun ds=>some (d::ds)
theorem xA(h:aA f g ps=some ds):∃d es,f ps=some d/\g ps=some es/\ds=d::es:=by
 unfold aA at h
 cases e1:f ps with
 |none=>rw [e1] at h;cases h
 |some d=>
  rw [e1] at h
  cases e2:g ps with
  |none=>rw [e2] at h;cases h
  |some es=>rw [e2] at h;cases h;exact⟨d,es,rfl,rfl,rfl⟩
theorem aO:QVA X κ [] aE:=oC.imp fun σ H Q ⟨ps,ds,w,e,q⟩=>by cases e;exact q [] H [] (.refl H) .nil
theorem aF(ha:QV X κ e f)(hr:QVA X κ es g)(hs:StE e es X:=by rfl):QVA X κ (e::es) (aA f g):=
 (fV ha hr hs).imp fun σ H Q hh_=>by
  obtain⟨ps,ds,w,e,q⟩:=hh_
  obtain⟨d,es,e1,e2,rfl⟩:=xA e
  exact⟨ps,d,w,e1,fun v H1 fp s1 r1=>⟨ps,es,w.same s1,e2,fun vs H2 fq s2 r2=>q _ H2 _ (s1.trans s2) (.cons (r1.same s2) r2)⟩⟩
theorem bB:QPA X κ [] aE:=oC.imp fun σ H Q ⟨ps,ds,w,e,q⟩=>by cases e;exact q [] H [] (.refl H) (fun _ h=>absurd h (by simp)) Zk .nil
theorem yz5{K:tz0}{H1:Hp}{v:V}{d:D}{fv fw:List Addr}(r:Rep K κ H1 v d fv)(n1:fv.Nodup)(hw:∀a∈fw,H1 a=none)(n2:fw.Nodup):(fv++fw).Nodup:=by
 rw [ZA]
 refine⟨n1,n2,fun a ha b hb e=> ?_⟩
 subst e
 obtain⟨o,h,_⟩:=r.own a ha
 rw [hw a hb] at h;cases h
theorem aQ(ha:QP X κ e f)(hr:QPA X κ es g)(hs:StE e es X:=by rfl):QPA X κ (e::es) (aA f g):=
 (fV ha hr hs).imp fun σ H Q hh_=>by
  obtain⟨ps,ds,w,e,q⟩:=hh_
  obtain⟨d,es,e1,e2,rfl⟩:=xA e
  refine⟨ps,d,w,e1,fun v H1 fv s1 n1 nd1 r1=>⟨ps,es,w.same s1,e2,fun vs H2 fw s2 n2 nd2 r2=> ?_⟩⟩
  refine q _ H2 (fv++fw) (s1.trans s2) (fun a ha=> ?_) (yz5 r1 nd1 n2 nd2) (.cons (r1.same s2) r2)
  rcases Zn.mp ha with z|z
  ·exact n1 a z
  ·exact s1.grow a (n2 a z)
def cA(g:tz3):tz2:=fun ps=>(g ps).bind fun ds=>if (D.imms ds&&decide (ds.length<=1000))=true then some (.tup ds) else none
def dM(g:tz3):tz2:=fun ps=>(g ps).bind fun ds=>if ds.length<=1000 then some (.lst true ds) else none
theorem dJ{x1}(h:QPA X κ es g):QP X κ (.Tuple es x1 pos) (cA g):=
 (wc3 h).imp fun σ H Q hh_=>by
  obtain⟨ps,d,w,e,q⟩:=hh_
  obtain⟨ds,e1,e2⟩:=bind_some e
  obtain⟨hc,e3⟩:=bK e2
  cases e3
  rw [Zy,ZT] at hc
  refine⟨ps,ds,w,e1,fun vs H1 fv s1 n1 nd1 r1=>⟨by rw [r1.length];exact zx6 hc.2,fun p hp=> ?_⟩⟩
  exact zo4 hp (r1.pair hc.1) (q.after s1)
theorem eW(h:QPA X κ es g):QP X κ (.List es pos) (dM g):=
 (wc4 h).imp fun σ H Q hh_=>by
  obtain⟨ps,d,w,e,q⟩:=hh_
  obtain⟨ds,e1,e2⟩:=bind_some e
  obtain⟨hc,e3⟩:=bK e2
  cases e3
  refine⟨ps,ds,w,e1,fun vs H1 fv s1 n1 nd1 r1=>⟨by rw [r1.length];exact zx6 hc,fun p hp=> ?_⟩⟩
  refine q _ _ (p::fv) (s1.trans (.new hp _)) (fun a ha=> ?_) (Zs.mpr ⟨fun hm=> ?_,nd1⟩) (.lst cV (r1.same (.new hp _)))
  ·rcases Z3.mp ha with z|z
   ·rw [z];exact s1.grow p hp
   ·exact n1 a z
  ·obtain⟨o,h,_⟩:=r1.own p hm
   rw [hp] at h;cases h
def dIx:D->D->Option D
 | .lst _ xs,.int i=>atI xs i
 | .tup xs,.int i=>atI xs i
 | .con xs,.int i=>atI xs i
 | .str z,.int i=>if z.length<=sizeLine then(atI z.cps.toList i).map fun c=> .str ⟨#[c]⟩ else none
 |_,_=>none
theorem yz6{K:tz0}{H:Hp}{x y:V}{dx dy d:D}{fx fy:List Addr}{Q:VK}(r1:Rep K κ H x dx fx)(r2:Rep K κ H y dy fy)(e:dIx dx dy=some d)(q:∀v f,Rep K κ H v d f->f.Sublist fx->Q v H):rIx K x y H Q:=by
 unfold dIx at e
 split at e
 ·rename_i o xs i
  obtain⟨a,vs,g,rfl,h,hs,sub⟩:=r1.lst_inv
  obtain⟨v,f,h1,h2,h3⟩:=hs.atI e
  exact .inl ⟨a,vs,i,v,rfl,r2.is_int,.inl h,h1,q v f h2 (h3.trans sub)⟩
 ·rename_i xs i
  obtain⟨a,vs,rfl,h,hs⟩:=r1.tup_inv
  obtain⟨v,f,h1,h2,h3⟩:=hs.atI e
  cases List.sublist_nil.mp h3
  exact .inr (.inl ⟨a,vs,i,v,rfl,r2.is_int,h,h1,q v [] h2 (Xs _)⟩)
 ·rename_i xs i
  obtain⟨a,vs,rfl,h,hs⟩:=r1.con_inv
  obtain⟨v,f,h1,h2,h3⟩:=hs.atI e
  cases List.sublist_nil.mp h3
  exact .inl ⟨a,vs,i,v,rfl,r2.is_int,h.l,h1,q v [] h2 (Xs _)⟩
 ·rename_i z i
  obtain⟨hz,e⟩:=bK e
  obtain⟨c,e1,e⟩:=Zp.mp e
  subst e
  exact .inr (.inr ⟨z,i,c,r1.is_str,r2.is_int,hz,e1,q _ [] (.str _) (Xs _)⟩)
 ·cases e
theorem bL(ha:QV X κ a fa)(hb:QV X κ b fb)(hs:zd7 b:=by exact fun _ _=>rfl):QV X κ (.Subscript a b pos) (f2 dIx fa fb):=
 (zx4 yx7 ha hb hs).imp fun σ H Q hh_=>by
  obtain⟨ps,d,w,e,q⟩:=hh_
  obtain⟨x,y,e1,e2,e3⟩:=vX e
  exact⟨ps,x,w,e1,fun v H1 fp s1 r1=>⟨ps,y,w.same s1,e2,fun u H2 fq s2 r2=>yz6 (r1.same s2) r2 e3 fun v f r _=>q v H2 f (s1.trans s2) r⟩⟩
theorem zc6(ha:QP X κ a fa)(hb:QV X κ b fb)(hs:zd7 b:=by exact fun _ _=>rfl):QP X κ (.Subscript a b pos) (f2 dIx fa fb):=
 (zx4 yx7 ha hb hs).imp fun σ H Q hh_=>by
  obtain⟨ps,d,w,e,q⟩:=hh_
  obtain⟨x,y,e1,e2,e3⟩:=vX e
  exact⟨ps,x,w,e1,fun v H1 fv s1 n1 nd1 r1=>⟨ps,y,w.same s1,e2,fun u H2 fq s2 r2=>yz6 (r1.same s2) r2 e3 fun v f r sub=>q v H2 f (s1.trans s2) (fun c hc=>n1 c (sub.subset hc)) (nd1.sublist sub) r⟩⟩
def tO(K:tz0)(κ:tz9)(f:PSt->Option (Option Int)):TO:=fun σ H Q=>∃ps o,WS K κ H σ ps/\f ps=some o/\∀H',SameK H H'->Q o H'
abbrev QO(X:Cx)(κ:tz9)(e:Option Expr)(f:PSt->Option (Option Int)):Prop:=PO X e (tO X.K κ f)
def lB:PSt->Option (Option Int):=fun _=>some none
def nG(f:tz2):PSt->Option (Option Int):=fun ps=>(f ps).bind fun d=>match d with
 | .int i=>some (some i)
 |_=>none
theorem yk9:QO X κ none lB:=⟨fun pins s σ H Q I ⟨ps,o,w,e,q⟩=>by cases e;exact xt8 pins s σ H Q I (q H (.refl H))⟩
theorem yl0(h:QV X κ e f):QO X κ (some e) (nG f):=⟨fun pins s σ H Q I hh_=>by
 obtain⟨ps,o,w,e,q⟩:=hh_
 obtain⟨d,e1,e2⟩:=bind_some e
 cases d with
 |int i=>cases e2;exact xt9 h pins s σ H Q I ⟨ps,_,w,e1,fun v H1 fp s1 r1=>⟨i,r1.is_int,q H1 s1⟩⟩
 |_=>cases e2⟩
def xp9(xs:List D)(lo hi:Option Int):List D:=(xs.drop (HT.sIx xs.length 0 lo)).take (HT.sIx xs.length xs.length hi-HT.sIx xs.length 0 lo)
def dSl:D->Option Int->Option Int->Option D
 | .lst _ xs,lo,hi=>if D.imms xs=true then some (.lst true (xp9 xs lo hi)) else none
 | .str z,lo,hi=>if z.length<=sizeLine then some (.str (Txt.slice z lo hi)) else none
 |_,_,_=>none
theorem xk0{K:tz0}{H:Hp}{vs:List V}{ds:List D}{lo hi:Option Int}(r:Paired (fun v d=>Rep K κ H v d []) vs ds):Paired (fun v d=>Rep K κ H v d []) (zr2 vs lo hi) (xp9 ds lo hi):=by
 unfold zr2 xp9
 rw [ZI r]
 exact Paired.takeN _ (Paired.dropN _ r)
def PSl(K:tz0)(κ:tz9):V->Option Int->Option Int->Hp->VK->Prop:=fun x lo hi H Q=>∃dx d fx,Rep K κ H x dx fx/\dSl dx lo hi=some d/\lF K κ H d Q
theorem wd9:SlR X (PSl X.K κ):=by
 rintro pins s σ H x v vl vu lo hi sl Q I rx hs pl pu ⟨dx,d,fx,r,e,q⟩
 unfold dSl at e
 split at e
 ·obtain⟨hc,e2⟩:=bK e
  cases e2
  obtain⟨a,vs,g,rfl,h,rs,sub⟩:=r.lst_inv
  exact xu1 pins s σ H _ v vl vu _ _ sl Q I rx hs pl pu ⟨a,vs,rfl,.inl h,fun p hp=>sT hp (xk0 (rs.pair hc)) q⟩
 ·obtain⟨hc,e2⟩:=bK e
  cases e2
  exact wd4 pins s σ H _ v vl vu _ _ sl Q I rx hs pl pu ⟨_,r.is_str,hc,q.now (.str _)⟩
 ·cases e
def fSl(f:tz2)(fl fh:PSt->Option (Option Int)):tz2:=fun ps=>(f ps).bind fun d=>(fl ps).bind fun l=>(fh ps).bind fun h=>dSl d l h
theorem yb2{lo hi:Option Expr}{fl fh:PSt->Option (Option Int)}(he:QV X κ e f)(hl:QO X κ lo fl)(hh:QO X κ hi fh):QP X κ (.Subscript e (.Slice lo hi none p2) pos) (fSl f fl fh):=
 (xi9 wd9 he hl hh).imp fun σ H Q hh_=>by
  obtain⟨ps,d,w,e,q⟩:=hh_
  obtain⟨d1,e1,e2⟩:=bind_some e
  obtain⟨l,e3,e4⟩:=bind_some e2
  obtain⟨h,e5,e6⟩:=bind_some e4
  exact⟨ps,d1,w,e1,fun v H1 fp s1 r1=>⟨ps,l,w.same s1,e3,fun H2 s2=>⟨ps,h,(w.same s1).same s2,e5,fun H3 s3=>⟨d1,d,fp,(r1.same s2).same s3,e6,q.after ((s1.trans s2).trans s3)⟩⟩⟩⟩
def PCl(K:tz0)(κ:tz9)(g:tz6):List V->Hp->VK->Prop:=fun vs H Q=>∃ds fp d,Reps K κ H vs ds fp/\g ds=some d/\lF K κ H d Q
def aG(h:tz6)(g:tz3):tz2:=fun ps=>(g ps).bind h
theorem yz7(q:tP X.K κ (aG h g) σ H Q):tCB (PCl X.K κ h) (tVA X.K κ g) σ H Q:=by
 obtain⟨ps,d,w,e,q⟩:=q
 obtain⟨ds,e1,e2⟩:=bind_some e
 exact⟨ps,ds,w,e1,fun vs H1 fp s1 r1=>⟨ds,fp,d,r1,e2,q.after s1⟩⟩
theorem cW{x:Str}{id:String}{p:Pos}{h:tz6}(hc:CallR X (.builtin id) (PCl X.K κ h))(hg:Gl X x)(hm:X.mg x=none)(hv:bootBuiltins x=some (.builtin id))(ha:QVA X κ (e::es) g)(hn:x≠"__name__":=by decide)(hdb:NDb x:=by decide)
  (hs:StE e es X:=by rfl) (hpl:BkE pos es X:=by rfl):QP X κ (.Call (.Name x p) (e::es) [] pos) (aG h g):=
 (tJ hc hg hm hv ha hn hdb hs hpl).imp fun _ _ _ q=>yz7 q
theorem nS(hc:CallR X (.type T) (PCl X.K κ h))(hg:Gl X x)(hm:X.mg x=none)(hv:bootBuiltins x=some (.type T))(ha:QVA X κ (e::es) g)(hn:x≠"__name__":=by decide)(hdb:NDb x:=by decide)
  (hs:StE e es X:=by rfl) (hpl:BkE pos es X:=by rfl):QP X κ (.Call (.Name x p) (e::es) [] pos) (aG h g):=
 (yx6 hc hg hm hv ha hn hdb hs hpl).imp fun _ _ _ q=>yz7 q
theorem Reps.two_inv{K:tz0}{H:Hp}{vs:List V}{d e:D}{fp:List Addr}(r:Reps K κ H vs [d,e] fp):∃v u f g,vs=[v,u]/\Rep K κ H v d f/\Rep K κ H u e g:=by
 obtain⟨v,us,f,g,rfl,h,t,rfl⟩:=r.split
 obtain⟨u,rfl,h2⟩:=t.one_inv
 exact⟨v,u,f,g,rfl,h,h2⟩
def eI:tz6
 |[.lst _ xs]=>some (.int xs.length)
 |[.tup xs]=>some (.int xs.length)
 |[.con xs]=>some (.int xs.length)
 |[.str z]=>if z.length<=sizeLine then some (.int z.length) else none
 |_=>none
theorem jA:CallR X (.builtin "len") (PCl X.K κ eI):=⟨by
 rintro pins s σ H vs us Q I r ⟨ds,fp,d,rs,e,q⟩
 unfold eI at e
 split at e
 ·cases e
  obtain⟨v,rfl,r1⟩:=rs.one_inv
  obtain⟨a,ws,g,rfl,h,hs,_⟩:=r1.lst_inv
  exact jR pins s σ H _ us Q I r ⟨a,ws,rfl,.inl (.inl h),by rw [hs.length];exact q.now (.int _)⟩
 ·cases e
  obtain⟨v,rfl,r1⟩:=rs.one_inv
  obtain⟨a,ws,rfl,h,hs⟩:=r1.tup_inv
  exact jR pins s σ H _ us Q I r ⟨a,ws,rfl,.inr h,by rw [hs.length];exact q.now (.int _)⟩
 ·cases e
  obtain⟨v,rfl,r1⟩:=rs.one_inv
  obtain⟨a,ws,rfl,h,hs⟩:=r1.con_inv
  exact jR pins s σ H _ us Q I r ⟨a,ws,rfl,.inl h.l,by rw [hs.length];exact q.now (.int _)⟩
 ·obtain⟨hz,e⟩:=bK e
  cases e
  obtain⟨v,rfl,r1⟩:=rs.one_inv
  exact ya2 pins s σ H _ us Q I r ⟨_,by rw [r1.is_str],hz,q.now (.int _)⟩
 ·cases e⟩
def dTy:D->Option String
 | .non=>some "NoneType"
 | .bl _=>some "bool"
 | .int _=>some "int"
 | .str _=>some "str"
 | .lst _ _=>some "list"
 | .tup _=>some "tuple"
 | .dic true _ _=>some "dict"
 |_=>none
def kI:tz6
 |[x,.ty c]=>(dTy x).bind fun t=>if c∈["bool","int","str","list","tuple","dict"] then some (.bl (yC t c)) else none
 |_=>none
theorem we0{K:tz0}{H:Hp}{v:V}{d:D}{fp:List Addr}{t:String}(r:Rep K κ H v d fp)(h:dTy d=some t):(wP H v=some t\/(t="tuple"/\∃a xs,v= .ref a/\SqT K H a xs)):=by
 cases r with
 |non=>cases h;exact .inl rfl
 |bl _=>cases h;exact .inl rfl
 |int _=>cases h;exact .inl rfl
 |str _=>cases h;exact .inl rfl
 |tup s _=>cases h;exact .inr ⟨rfl,_,_,rfl,s⟩
 |lst s _=>cases h;exact .inl (by simp [wP,s])
 |lstF s _=>cases h;exact .inl (by simp [wP,s])
 |dic s _ _=>cases h;exact .inl (by simp [wP,s])
 |_=>cases h
theorem zx8:CallR X (.builtin "isinstance") (PCl X.K κ kI):=⟨by
 rintro pins s σ H vs us Q I r ⟨ds,fp,d,rs,e,q⟩
 unfold kI at e
 split at e
 ·obtain⟨t,e1,e2⟩:=bind_some e
  obtain⟨hc,e3⟩:=bK e2
  cases e3
  obtain⟨v,u,f,g,rfl,r1,r2⟩:=rs.two_inv
  cases r2
  rcases we0 r1 e1 with h|⟨rfl,a,xs,rfl,h⟩
  ·exact xj5 pins s σ H _ us Q I r ⟨_,_,t,rfl,h,hc,q.now (.bl _)⟩
  ·obtain⟨u1,u2,rfl,rx,rc⟩:=yq0 r
   cases(show u2=Value.type _ from rc)
   cases(show u1=Value.ref a from rx)
   obtain⟨its,rv,⟨o,h1,h2,_⟩,_⟩:=I.tuple h
   exact ZM Wl I.kIn ⟨o,h1,h2⟩ (ya3 X.K "tuple" (by decide) _ hc) (fun z=>nomatch z) fun tk=>⟨.bl _,H,I.tok tk,rfl,q.now (.bl _)⟩
 ·cases e⟩
def zy1:tz6
 |[.lst _ xs]=>if D.imms xs=true then some (.lst true xs) else none
 |[.tup xs]=>some (.lst true xs)
 |_=>none
theorem we1:CallR X (.type "list") (PCl X.K κ zy1):=⟨by
 rintro pins s σ H vs us Q I r ⟨ds,fp,d,rs,e,q⟩
 unfold zy1 at e
 split at e
 ·obtain⟨hc,e⟩:=bK e
  cases e
  obtain⟨v,rfl,r1⟩:=rs.one_inv
  obtain⟨a,ws,g,rfl,h,hs,_⟩:=r1.lst_inv
  exact zI pins s σ H _ us Q I r ⟨a,ws,rfl,.inl (.inl h),fun p hp=>sT hp (hs.pair hc) q⟩
 ·cases e
  obtain⟨v,rfl,r1⟩:=rs.one_inv
  obtain⟨a,ws,rfl,h,hs⟩:=r1.tup_inv
  exact zI pins s σ H _ us Q I r ⟨a,ws,rfl,.inr h,fun p hp=>sT hp hs.nilp q⟩
 ·cases e⟩
def gO:tz6
 |[.lst _ xs]=>if D.imms xs=true then some (.tup xs) else none
 |[.tup xs]=>some (.tup xs)
 |_=>none
theorem vY:CallR X (.type "tuple") (PCl X.K κ gO):=⟨by
 rintro pins s σ H vs us Q I r ⟨ds,fp,d,rs,e,q⟩
 unfold gO at e
 split at e
 ·obtain⟨hc,e⟩:=bK e
  cases e
  obtain⟨v,rfl,r1⟩:=rs.one_inv
  obtain⟨a,ws,g,rfl,h,hs,_⟩:=r1.lst_inv
  exact yQ pins s σ H _ us Q I r ⟨a,ws,rfl,.inl ⟨.inl h,fun p hp=>zo4 hp (hs.pair hc) q⟩⟩
 ·cases e
  obtain⟨v,rfl,r1⟩:=rs.one_inv
  obtain⟨a,ws,rfl,h,hs⟩:=r1.tup_inv
  exact yQ pins s σ H _ us Q I r ⟨a,ws,rfl,.inr ⟨h,q.now (.tup h hs)⟩⟩
 ·cases e⟩
def D.bools:List D->Option (List Bool)
 |[]=>some []
 | .bl b::ds=>(D.bools ds).map (b::·)
 |_::_=>none
theorem yb3{K:tz0}{H:Hp}:∀{vs:List V} {ds:List D} {fp:List Addr} {ns:List Bool},Reps K κ H vs ds fp->D.bools ds=some ns->vs=ns.map V.bl
 |_,_,_,_,.nil,e=>by cases e;rfl
 | _,d::ds,_,ns,.cons h hs,e=>by
  cases d with
  |bl i=>
   rw [D.bools] at e
   cases e1:D.bools ds with
   |none=>rw [e1] at e;cases e
   |some ms=>rw [e1] at e;cases e;rw [h.is_bl,yb3 hs e1];rfl
  |_=>cases e
def zr5:tz6
 |[.lst _ xs]=>(D.bools xs).map fun bs=> .bl (bs.all id)
 |_=>none
theorem xr2(hc:X.calm=true):CallR X (.builtin "all") (PCl X.K κ zr5):=⟨by
 rintro pins s σ H vs us Q I r ⟨ds,fp,d,rs,e,q⟩
 unfold zr5 at e
 split at e
 ·rename_i xs
  cases e1:D.bools xs with
  |none=>rw [e1] at e;cases e
  |some bs=>
   rw [e1] at e;cases e
   obtain⟨v,rfl,r1⟩:=rs.one_inv
   obtain⟨a,ws,g,rfl,h,hs,_⟩:=r1.lst_inv
   rw [yb3 hs e1] at h
   exact yy8 hc pins s σ H _ us Q I r ⟨a,bs,rfl,.inl h,q.now (.bl _)⟩
 ·cases e⟩
def yu8:tz6
 |[.lst _ xs]=>(D.ints xs).map fun ns=> .int ns.sum
 |_=>none
theorem wk7(hc:X.calm=true):CallR X (.builtin "sum") (PCl X.K κ yu8):=⟨by
 rintro pins s σ H vs us Q I r ⟨ds,fp,d,rs,e,q⟩
 unfold yu8 at e
 split at e
 ·rename_i xs
  cases e1:D.ints xs with
  |none=>rw [e1] at e;cases e
  |some bs=>
   rw [e1] at e;cases e
   obtain⟨v,rfl,r1⟩:=rs.one_inv
   obtain⟨a,ws,g,rfl,h,hs,_⟩:=r1.lst_inv
   rw [sU hs e1] at h
   exact yy9 hc pins s σ H _ us Q I r ⟨a,bs,rfl,.inl h,q.now (.int _)⟩
 ·cases e⟩
def PMt(K:tz0)(κ:tz9)(g:D->tz6):V->List V->Hp->VK->Prop:=fun x vs H Q=>∃dx ds fx fp d,Rep K κ H x dx fx/\Reps K κ H vs ds fp/\g dx ds=some d/\lF K κ H d Q
def zy2:D->Bool
 | .str _=>true
 |_=>false
def fMt(h:D->tz6)(f:tz2)(g:tz3):tz2:=fun ps=>(f ps).bind fun x=>(g ps).bind fun ds=>if zy2 x=true then h x ds else none
theorem zx9{name:Str}{id:String}{apos:Pos}{h:D->tz6}(slot:Slot "str" name id)(hty:typeOf (.builtin id)=pure (.type "method_descriptor"))(hm:MtR X id (PMt X.K κ h))(ho:QV X κ a fa)(ha:QVA X κ (e::es) g)
  (hbase:attributeBase a name X.env (eval a X.env)=eval a X.env:=by rfl)
  (hfew:((backTo pos (starEach (e::es) X.env)).all (fun x=> !x.1)&&(backToKw pos (keywordEach [] X.env)).all (fun x=>x.1.isSome)
   &&decide ((e::es).length+([]:List Keyword).length+(if ([]:List Keyword).isEmpty then 0 else 1)<30))=true:=by rfl)
  (hline:(apos.endLine==pos.line)=true:=by rfl) (hs:StE e es X:=by rfl) (hplain:BkE pos es X:=by rfl):
  QP X κ (.Call (.Attribute a name apos) (e::es) [] pos) (fMt h fa g):=
 (xr0 PySem.F.plainAttrs_str slot hty hm ho ha hbase hfew hline hs hplain).imp fun σ H Q hh_=>by
  obtain⟨ps,d,w,e,q⟩:=hh_
  obtain⟨x,e1,e2⟩:=bind_some e
  obtain⟨ds,e3,e4⟩:=bind_some e2
  obtain⟨hc,e5⟩:=bK e4
  refine⟨ps,x,w,e1,fun v H1 fp s1 r1=>⟨?_,ps,ds,w.same s1,e3,fun vs H2 fq s2 r2=>⟨x,ds,fp,fq,d,r1.same s2,r2,e5,q.after (s1.trans s2)⟩⟩⟩
  cases x with
  |str z=>rw [r1.is_str];rfl
  |_=>cases hc
def gV(l:List Str):List D:=l.map .str
theorem zt0{K:tz0}{H:Hp}:∀l:List Str,Paired (fun v d=>Rep K κ H v d []) (l.map V.str) (gV l)
 |[]=> .nil
 |x::l=> .cons (.str x) (zt0 l)
def za6:D->tz6
 | .str z,[.str y]=>if ((y.length==0)=false/\z.length<1000000) then some (.lst true (gV (Txt.split z y))) else none
 |_,_=>none
theorem yl1:MtR X "str.split" (PMt X.K κ za6):=⟨by
 rintro pins s σ H x vs v us Q I rx r ⟨dx,ds,fx,fp,d,r1,rs,e,q⟩
 unfold za6 at e
 split at e
 ·obtain⟨hc,e⟩:=bK e
  cases e
  obtain⟨w,rfl,r2⟩:=rs.one_inv
  exact xj6 pins s σ H x _ v us Q I rx r ⟨_,_,r1.is_str,by rw [r2.is_str],hc.1,hc.2,fun p hp=>sT hp (zt0 _) q⟩
 ·cases e⟩
def D.strs:List D->Option (List Str)
 |[]=>some []
 | .str b::ds=>(D.strs ds).map (b::·)
 |_::_=>none
theorem vZ{K:tz0}{H:Hp}:∀{vs:List V} {ds:List D} {fp:List Addr} {ns:List Str},Reps K κ H vs ds fp->D.strs ds=some ns->vs=ns.map V.str
 |_,_,_,_,.nil,e=>by cases e;rfl
 | _,d::ds,_,ns,.cons h hs,e=>by
  cases d with
  |str i=>
   rw [D.strs] at e
   cases e1:D.strs ds with
   |none=>rw [e1] at e;cases e
   |some ms=>rw [e1] at e;cases e;rw [h.is_str,vZ hs e1];rfl
  |_=>cases e
def zm4:D->tz6
 | .str z,[.lst _ xs]=>(D.strs xs).bind fun ys=>if (z.length<=16/\(ys.map (·.length)).sum+ys.length<=1048576) then some (.str (Txt.join z ys)) else none
 |_,_=>none
theorem we2:MtR X "str.join" (PMt X.K κ zm4):=⟨by
 rintro pins s σ H x vs v us Q I rx r ⟨dx,ds,fx,fp,d,r1,rs,e,q⟩
 unfold zm4 at e
 split at e
 ·obtain⟨ys,e1,e2⟩:=bind_some e
  obtain⟨hc,e⟩:=bK e2
  cases e
  obtain⟨w,rfl,r2⟩:=rs.one_inv
  obtain⟨a,ws,g,rfl,h,hs,_⟩:=r2.lst_inv
  rw [vZ hs e1] at h
  exact xu9 pins s σ H x _ v us Q I rx r ⟨_,a,ys,r1.is_str,rfl,.inl h,hc.1,hc.2,q.now (.str _)⟩
 ·cases e⟩
end
structure Fx where
 K:tz0
 κ:tz9
 bor:Nat->Bool
 M:Nat->Bool
 B:Nat->Addr->Prop
structure RS(φ:Fx)(H:Hp)(σ:St)(ps:PSt)(F:Nat->List Addr):Prop where
 rep:∀(i:Nat) (d:D),ps[i]? =some (some d)->∃v fp,σ[i]? =some (some v)/\Rep φ.K φ.κ H v d fp/\(φ.bor i=false->fp=F i)/\(φ.bor i=true->∀a∈fp,φ.B i a)
 emp:∀i a,a∈F i->φ.bor i=false/\∃d,ps[i]? =some (some d)
 dis:∀i j a,a∈F i->a∈F j->i=j
 nd:∀i,(F i).Nodup
 nb:∀i a,a∈F i->∀k,¬φ.B k a
 bt:∀k a,φ.B k a->H a≠none
 len:ps.length<=σ.length
structure Frm(F:Nat->List Addr)(H H':Hp):Prop where
 keep:∀a o,H a=some o->kd o=true->(∀i,a∉F i)->H' a=some o
 grow:∀a,H' a=none->H a=none
structure Stp(φ:Fx)(σ:St)(H:Hp)(F:Nat->List Addr)(σ':St)(H':Hp)(ps':PSt)(F':Nat->List Addr):Prop where
 fr:Frm F H H'
 nw:∀i a,a∈F' i->(∃j,a∈F j)\/H a=none
 rs:RS φ H' σ' ps' F'
 msk:∀i,φ.M i=true->σ'[i]? =σ[i]?
structure OwnV(F:Nat->List Addr)(H:Hp)(F':Nat->List Addr)(fv:List Addr):Prop where
 nw:∀a∈fv,(∃j,a∈F j)\/H a=none
 nd:fv.Nodup
 dis:∀i,∀a∈F' i,a∉fv
section
variable{φ:Fx}{H H' H1 H2:Hp}{σ σ1 σ2:St}{ps ps1 ps2:PSt}{F F1 F2:Nat->List Addr}
theorem RS.own(R:RS φ H σ ps F){i:Nat}{a:Addr}(h:a∈F i):∃o,H a=some o/\kd o=true/\tf o=false:=by
 obtain⟨b,d,e⟩:=R.emp i a h
 obtain⟨v,fp,_,r,q,_⟩:=R.rep i d e
 rw [<-q b] at h
 exact r.own a h
theorem RS.ws(R:RS φ H σ ps F):WS φ.K φ.κ H σ ps:=fun i d h=>by
 obtain⟨v,fp,h1,h2,_⟩:=R.rep i d h
 exact⟨v,fp,h1,h2⟩
theorem RS.same(R:RS φ H σ ps F)(s:SameK H H'):RS φ H' σ ps F:=
 ⟨fun i d h=>by obtain⟨v,fp,h1,h2,h3⟩:=R.rep i d h;exact⟨v,fp,h1,h2.same s,h3⟩,R.emp,R.dis,R.nd,R.nb,fun k a h z=>R.bt k a h (s.grow a z),R.len⟩
theorem RS.notB(R:RS φ H σ ps F){a:Addr}(h:(∃j,a∈F j)\/H a=none):∀k,¬φ.B k a:=fun k hb=>h.elim (fun⟨j,hj⟩=>R.nb j a hj k hb) fun z=>R.bt k a hb z
theorem Stp.same(R:RS φ H σ ps F)(s:SameK H H'):Stp φ σ H F σ H' ps F:=
 ⟨⟨fun a o h k _=>s.keep a o h k,s.grow⟩,fun i a h=> .inl ⟨i,h⟩,R.same s,fun _ _=>rfl⟩
theorem Stp.refl(R:RS φ H σ ps F):Stp φ σ H F σ H ps F:= .same R (.refl H)
theorem Stp.trans(s1:Stp φ σ H F σ1 H1 ps1 F1)(s2:Stp φ σ1 H1 F1 σ2 H2 ps2 F2):Stp φ σ H F σ2 H2 ps2 F2:=by
 refine⟨⟨fun a o h k n=>s2.fr.keep a o (s1.fr.keep a o h k n) k fun i hi=> ?_,fun a h=>s1.fr.grow a (s2.fr.grow a h)⟩,fun i a h=> ?_,s2.rs,fun i h=>(s2.msk i h).trans (s1.msk i h)⟩
 ·rcases s1.nw i a hi with ⟨j,hj⟩|z
  ·exact n j hj
  ·rw [h] at z;cases z
 ·rcases s2.nw i a h with ⟨j,hj⟩|z
  ·exact s1.nw j a hj
  ·exact .inr (s1.fr.grow a z)
theorem OwnV.after(s1:Stp φ σ H F σ1 H1 ps1 F1)(o:OwnV F1 H1 F2 fv):OwnV F H F2 fv:=
 ⟨fun a ha=>(o.nw a ha).elim (fun⟨j,hj⟩=>s1.nw j a hj) fun z=> .inr (s1.fr.grow a z),o.nd,o.dis⟩
theorem OwnV.new(R:RS φ H σ ps F)(n:∀a∈fv,H a=none)(nd:fv.Nodup):OwnV F H F fv:=
 ⟨fun a ha=> .inr (n a ha),nd,fun i a ha hb=>by obtain⟨o,h,_⟩:=R.own ha;rw [n a hb] at h;cases h⟩
def mU(F:Nat->List Addr)(i:Nat)(fv:List Addr):Nat->List Addr:=fun j=>if j=i then fv else F j
theorem dA:mU F i fv i=fv:=by simp [mU]
theorem cX(h:j≠i):mU F i fv j=F j:=by simp [mU,h]
theorem gZ(h:a∈mU F i fv j):a∈fv\/a∈F j:=by
 by_cases e:j=i
 ·subst e;rw [dA] at h;exact .inl h
 ·rw [cX e] at h;exact .inr h
theorem RS.drop(R:RS φ H σ ps F)(i:Nat):RS φ H σ (ps.set i none) (mU F i []):=by
 have eF:∀j a,a∈mU F i [] j->j≠i/\a∈F j:=fun j a h=>by
  by_cases e:j=i
  ·subst e;rw [dA] at h;exact absurd h (by simp)
  ·rw [cX e] at h;exact⟨e,h⟩
 refine⟨fun j d h=> ?_,fun j a h=> ?_,fun j k a h1 h2=>R.dis j k a (eF j a h1).2 (eF k a h2).2,fun j=> ?_,fun j a h=>R.nb j a (eF j a h).2,R.bt,by simpa using R.len⟩
 ·have e:j≠i:=by
   rintro rfl
   by_cases hj:j<ps.length
   ·rw [Zw hj] at h;cases h
   ·rw [YC (by simpa using hj)] at h;cases h
  rw [Zt (fun z=>e z.symm)] at h
  rw [cX e]
  exact R.rep j d h
 ·obtain⟨e,h⟩:=eF j a h
  obtain⟨b,d,q⟩:=R.emp j a h
  exact⟨b,d,by rw [Zt (fun z=>e z.symm)];exact q⟩
 ·by_cases e:j=i
  ·subst e;rw [dA];exact Zk
  ·rw [cX e];exact R.nd j
theorem RS.set(R:RS φ H σ ps F){i:Nat}{v:V}{d:D}{fv:List Addr}(r:Rep φ.K φ.κ H v d fv)(hb:φ.bor i=false\/fv=[])(hd:∀j,j≠i->∀a∈F j,a∉fv)(hn:fv.Nodup)(hB:∀a∈fv,∀k,¬φ.B k a):
  RS φ H (σ.set i (some v)) (ps.set i (some d)) (mU F i (if i<ps.length then fv else [])):=by
 by_cases hi:i<ps.length
 ·rw [if_pos hi]
  have hl:=R.len
  refine⟨fun j d' h=> ?_,fun j a h=> ?_,fun j k a h1 h2=> ?_,fun j=> ?_,fun j a h=> ?_,R.bt,by simpa using R.len⟩
  ·by_cases e:j=i
   ·subst e
    rw [Zw hi] at h
    cases h
    refine⟨v,fv,by rw [Zw (by omega)],r,fun _=>dA.symm,fun z=> ?_⟩
    rcases hb with q|q
    ·rw [q] at z;cases z
    ·subst q;intro a ha;exact absurd ha (by simp)
   ·rw [Zt (fun z=>e z.symm)] at h|-
    rw [cX e]
    exact R.rep j d' h
  ·by_cases e:j=i
   ·subst e
    rw [dA] at h
    refine⟨?_,d,by rw [Zw hi]⟩
    rcases hb with q|q
    ·exact q
    ·subst q;exact absurd h (by simp)
   ·rw [cX e] at h
    obtain⟨b,d',q⟩:=R.emp j a h
    exact⟨b,d',by rw [Zt (fun z=>e z.symm)];exact q⟩
  ·by_cases e1:j=i
   ·by_cases e2:k=i
    ·rw [e1,e2]
    ·subst e1;rw [dA] at h1;rw [cX e2] at h2;exact absurd h1 (hd k e2 a h2)
   ·by_cases e2:k=i
    ·subst e2;rw [dA] at h2;rw [cX e1] at h1;exact absurd h2 (hd j e1 a h1)
    ·rw [cX e1] at h1;rw [cX e2] at h2;exact R.dis j k a h1 h2
  ·by_cases e:j=i
   ·subst e;rw [dA];exact hn
   ·rw [cX e];exact R.nd j
  ·rcases gZ h with z|z
   ·exact hB a z
   ·exact R.nb j a z
 ·rw [if_neg hi]
  have e0:ps.set i (some d)=ps:=YT (by omega)
  rw [e0]
  have R':=R.drop i
  rw [YT (by omega)] at R'
  refine⟨fun j d' h=> ?_,R'.emp,R'.dis,R'.nd,R'.nb,R'.bt,by simpa using R.len⟩
  have hj:j≠i:=by
   rintro rfl
   have:=(Z4.mp h).1
   omega
  rw [Zt (fun z=>hj z.symm)]
  exact R'.rep j d' h
theorem Stp.set(s1:Stp φ σ H F σ1 H1 ps1 F1)(o:OwnV F H F1 fv)(R:RS φ H σ ps F)(r:Rep φ.K φ.κ H1 v d fv)(hb:φ.bor i=false\/fv=[])(hm:φ.M i=false):
  ∃F',Stp φ σ H F (σ1.set i (some v)) H1 (ps1.set i (some d)) F':=by
 refine⟨_,s1.fr,fun j a h=> ?_,s1.rs.set r hb (fun j _=>o.dis j) o.nd fun a ha=>R.notB (o.nw a ha),fun j h=> ?_⟩
 ·rcases gZ h with z|z
  ·by_cases k:i<ps1.length
   ·rw [if_pos k] at z;exact o.nw a z
   ·rw [if_neg k] at z;exact absurd z (by simp)
  ·exact s1.nw j a z
 ·rw [Zt (fun z=>by subst z;rw [hm] at h;cases h)]
  exact s1.msk j h
end
inductive Fl where
 |nx|bk|ct|ret (d:D)
abbrev _root_.tz1:=PSt->Option (Fl×PSt)
def yD(φ:Fx)(E:Ends)(σ:St)(H:Hp)(F:Nat->List Addr)(fl:Fl)(ps':PSt):Prop:=match fl with
 | .nx=>∀σ' H' F',Stp φ σ H F σ' H' ps' F'->E.nx σ' H'
 | .bk=>∀σ' H' F',Stp φ σ H F σ' H' ps' F'->E.bk σ' H'
 | .ct=>∀σ' H' F',Stp φ σ H F σ' H' ps' F'->E.ct σ' H'
 | .ret d=>∀v σ' H' F' fv,Stp φ σ H F σ' H' ps' F'->OwnV F H F' fv->Rep φ.K φ.κ H' v d fv->E.rt v H'
def tS(φ:Fx)(f:tz1):TS:=fun E σ H=>∃ps F fl ps',RS φ H σ ps F/\f ps=some (fl,ps')/\yD φ E σ H F fl ps'
def tE(φ:Fx)(f:tz8):TE:=fun σ H Q=>∃ps F d ps',RS φ H σ ps F/\f ps=some (d,ps')/\∀v H' F' fv,Stp φ σ H F σ H' ps' F'->OwnV F H F' fv->Rep φ.K φ.κ H' v d fv->Q v H'
def tTE(φ:Fx)(f:PSt->Option (Bool×PSt)):TT:=fun σ H Q=>∃ps F b ps',RS φ H σ ps F/\f ps=some (b,ps')/\∀H' F',Stp φ σ H F σ H' ps' F'->Q b H'
structure F0 where
 bor:Nat->Bool
 M:Nat->Bool
 B:Nat->Addr->Prop
def F0.fx(φ:F0)(K:tz0)(κ:tz9):Fx:=⟨K,κ,φ.bor,φ.M,φ.B⟩
abbrev QS(X:Cx)(κ:tz9)(φ:F0)(st:Stmt)(f:tz1):Prop:=PS X st (tS (φ.fx X.K κ) f)
abbrev QSs(X:Cx)(κ:tz9)(φ:F0)(st:List Stmt)(f:tz1):Prop:=PSs X st (tS (φ.fx X.K κ) f)
abbrev QE(X:Cx)(κ:tz9)(φ:F0)(e:Expr)(f:tz8):Prop:=PE X e (tE (φ.fx X.K κ) f)
abbrev QTE(X:Cx)(κ:tz9)(φ:F0)(e:Expr)(f:PSt->Option (Bool×PSt)):Prop:=PT X e (tTE (φ.fx X.K κ) f)
theorem zg0(s1:Stp φ σ H F σ1 H1 ps1 F1)(e:f ps1=some (fl,ps2))(q:yD φ E σ H F fl ps2):tS φ f E σ1 H1:=by
 refine⟨ps1,F1,fl,ps2,s1.rs,e,?_⟩
 cases fl with
 |nx=>exact fun σ' H' F' s=>q σ' H' F' (s1.trans s)
 |bk=>exact fun σ' H' F' s=>q σ' H' F' (s1.trans s)
 |ct=>exact fun σ' H' F' s=>q σ' H' F' (s1.trans s)
 |ret d=>exact fun v σ' H' F' fv s o r=>q v σ' H' F' fv (s1.trans s) (o.after s1) r
def bC:tz1:=fun ps=>some (.nx,ps)
def aT(f g:tz1):tz1:=fun ps=>(f ps).bind fun r=>match r with
 |(.nx,ps')=>g ps'
 |(.bk,ps')=>some (.bk,ps')
 |(.ct,ps')=>some (.ct,ps')
 |(.ret d,ps')=>some (.ret d,ps')
def uH:tz1:=fun _=>none
section
variable{X:Cx}{κ:tz9}{φ:F0}{st:Stmt}{rest:List Stmt}{f g:tz1}{pos:Pos}
theorem bP:QSs X κ φ [] bC:=yj5.imp fun E σ H ⟨ps,F,fl,ps',R,e,q⟩=>by cases e;exact q σ H F (.refl R)
theorem aN(h:QS X κ φ st f):QSs X κ φ [st] f:=zc2 h
theorem aM(h1:QS X κ φ st f)(h2:QSs X κ φ rest g):QSs X κ φ (st::rest) (aT f g):=
 (kA h1 h2).imp fun E σ H hh_=>by
  obtain⟨ps,F,fl,ps',R,e,q⟩:=hh_
  obtain⟨⟨fl1,ps1⟩,e1,e2⟩:=bind_some e
  refine⟨ps,F,fl1,ps1,R,e1,?_⟩
  cases fl1 with
  |nx=>exact fun σ' H' F' s=>zg0 s e2 q
  |bk=>cases e2;exact q
  |ct=>cases e2;exact q
  |ret d=>cases e2;exact q
theorem pH:QS X κ φ st uH:=xh7.imp fun E σ H ⟨ps,F,fl,ps',R,e,q⟩=>by cases e
def aI(f:tz2):tz8:=fun ps=>(f ps).bind fun d=>some (d,ps)
theorem QP.e{e:Expr}{f:tz2}(h:PE X e (tP X.K κ f)):QE X κ φ e (aI f):=h.imp fun σ H Q hh_=>by
 obtain⟨ps,F,d,ps',R,e,q⟩:=hh_
 obtain⟨d1,e1,e2⟩:=bind_some e
 cases e2
 exact⟨ps,_,R.ws,e1,fun v H' fv s n nd r=>q v H' F fv (.same R s) (.new R n nd) r⟩
def aU(f:tz4):PSt->Option (Bool×PSt):=fun ps=>(f ps).bind fun d=>some (d,ps)
theorem QT.e{e:Expr}{f:tz4}(h:PT X e (tQ X.K κ f)):QTE X κ φ e (aU f):=h.imp fun σ H Q hh_=>by
 obtain⟨ps,F,d,ps',R,e,q⟩:=hh_
 obtain⟨d1,e1,e2⟩:=bind_some e
 cases e2
 exact⟨ps,_,R.ws,e1,fun H' s=>q H' F (.same R s)⟩
def aV(i:Nat)(f:tz8):tz1:=fun ps=>(f ps).bind fun r=>some (.nx,r.2.set i (some r.1))
theorem yz8(i:Nat){x:Str}{e:Expr}{pos':Pos}{f:tz8}(hN:X.N.Nodup)(hi:X.N[i]? =some x)(hx:Loc X.env.scope x)(hb:φ.bor i=false)(hm:φ.M i=false)(he:QE X κ φ e f)(hs:swapsWith e (some (.Name x pos')) pos.line X.env=pure false:=by rfl)(hf:X.fn x=true\/X.env.scope.names.lookup x=some .local:=by first|exact .inl rfl|exact .inr rfl|assumption):
  QS X κ φ (.Assign [.Name x pos'] e pos) (aV i f):=(tH hN hi hx he hs hf).imp fun E σ H hh_=>by
 obtain⟨ps,F,fl,ps',R,e,q⟩:=hh_
 obtain⟨⟨d,ps1⟩,e1,e2⟩:=bind_some e
 cases e2
 refine⟨ps,F,d,ps1,R,e1,fun v H' F' fv s o r=> ?_⟩
 obtain⟨F2,s2⟩:=s.set o R r (.inl hb) hm (i:=i)
 exact q _ _ F2 s2
def cP(f:tz8):tz1:=fun ps=>(f ps).bind fun r=>some (.nx,r.2)
theorem fA{e:Expr}{f:tz8}(he:QE X κ φ e f)(hs:swapsWith e none pos.line X.env=pure false:=by rfl):QS X κ φ (.Expr e pos) (cP f):=(xt2 he hs).imp fun E σ H hh_=>by
 obtain⟨ps,F,fl,ps',R,e,q⟩:=hh_
 obtain⟨⟨d,ps1⟩,e1,e2⟩:=bind_some e
 cases e2
 exact⟨ps,F,d,ps1,R,e1,fun v H' F' fv s o r=>q _ _ F' s⟩
def bW(f:tz8):tz1:=fun ps=>(f ps).bind fun r=>some (.ret r.1,r.2)
theorem bN{e:Expr}{f:tz8}(he:QE X κ φ e f):QS X κ φ (.Return (some e) pos) (bW f):=(zE he).imp fun E σ H hh_=>by
 obtain⟨ps,F,fl,ps',R,e,q⟩:=hh_
 obtain⟨⟨d,ps1⟩,e1,e2⟩:=bind_some e
 cases e2
 exact⟨ps,F,d,ps1,R,e1,fun v H' F' fv s o r=>q v σ H' F' fv s o r⟩
def jG(i:Nat):tz1:=fun ps=>((ps[i]?).join).bind fun d=>some (.ret d,ps.set i none)
theorem join_some{ps:PSt}{i:Nat}{d:D}(h:(ps[i]?).join=some d):ps[i]? =some (some d):=by
 cases q:ps[i]? with
 |none=>rw [q] at h;cases h
 |some o=>rw [q] at h;exact ZJ some h
theorem iM(i:Nat){x:Str}{p:Pos}(hb:φ.bor i=false)(hN:X.N[i]? =some x:=by rfl)(hv:Vis X.env.scope x:=by first|exact Or.inl rfl|exact Or.inr (Or.inl rfl)|exact Or.inr (Or.inr rfl))(hd:NDb x:=by decide)
  (hcd:(x==("__classdict__":Str))=false:=by decide):QS X κ φ (.Return (some (.Name x p)) pos) (jG i):=(zE (tF hN hv hd hcd)).imp fun E σ H hh_=>by
 obtain⟨ps,F,fl,ps',R,e,q⟩:=hh_
 obtain⟨d,e1,e2⟩:=bind_some e
 cases e2
 obtain⟨v,fp,h1,h2,h3,_⟩:=R.rep i d (join_some e1)
 have h3:=h3 hb
 subst h3
 refine⟨v,h1,q v σ H (mU F i []) (F i) ⟨⟨fun a o h _ _=>h,fun a h=>h⟩,fun j a h=> ?_,R.drop i,fun _ _=>rfl⟩ ⟨fun a h=> .inl ⟨i,h⟩,R.nd i,fun j a h1 h2=> ?_⟩ h2⟩
 ·rcases gZ h with z|z
  ·exact absurd z (by simp)
  ·exact .inl ⟨j,z⟩
 ·rcases gZ h1 with z|z
  ·exact absurd z (by simp)
  ·have:=R.dis j i a z h2
   subst this
   rw [dA] at h1;exact absurd h1 (by simp)
def fIf(c:PSt->Option (Bool×PSt))(f g:tz1):tz1:=fun ps=>(c ps).bind fun r=>if r.1=true then f r.2 else g r.2
theorem cI(hc:QTE X κ φ c tc)(ha:QSs X κ φ a f)(hb:QSs X κ φ b g):QS X κ φ (.If c a b pos) (fIf tc f g):=(yp2 hc ha hb).imp fun E σ H hh_=>by
 obtain⟨ps,F,fl,ps',R,e,q⟩:=hh_
 obtain⟨⟨k,ps1⟩,e1,e2⟩:=bind_some e
 refine⟨ps,F,k,ps1,R,e1,fun H' F' s=> ?_⟩
 cases k with
 |true=>rw [if_pos rfl] at e2|-;exact zg0 s e2 q
 |false=>rw [if_neg Za] at e2|-;exact zg0 s e2 q
end
def lW(c:PSt->Option (Bool×PSt))(f:tz1):Nat->tz1
 |0,_=>none
 | n+1,ps=>(c ps).bind fun r=>if r.1=true then(f r.2).bind fun q=>match q with
   |(.nx,p)=>lW c f n p
   |(.ct,p)=>lW c f n p
   |(.bk,p)=>some (.nx,p)
   |(.ret d,p)=>some (.ret d,p)
  else some (.nx,r.2)
section
variable{X:Cx}{φ:Fx}{pos:Pos}{body:List Stmt}{f:tz1}
theorem yD.back(s1:Stp φ σ H F σ1 H1 ps1 F1)(q:yD φ E σ H F fl ps2):yD φ E σ1 H1 F1 fl ps2:=by
 cases fl with
 |nx=>exact fun σ' H' F' s=>q σ' H' F' (s1.trans s)
 |bk=>exact fun σ' H' F' s=>q σ' H' F' (s1.trans s)
 |ct=>exact fun σ' H' F' s=>q σ' H' F' (s1.trans s)
 |ret d=>exact fun v σ' H' F' fv s o r=>q v σ' H' F' fv (s1.trans s) (o.after s1) r
def wq8(φ:Fx)(σ:St)(H:Hp)(F:Nat->List Addr)(tc:PSt->Option (Bool×PSt))(f:tz1)(fl:Fl)(ps':PSt)(m:Nat)(σ1:St)(H1:Hp):Prop:=∃ps1 F1,Stp φ σ H F σ1 H1 ps1 F1/\lW tc f m ps1=some (fl,ps')
theorem xk1{κ:tz9}{φ:F0}(n:Nat){c:Expr}{tc:PSt->Option (Bool×PSt)}(hp:PassesOwn (model X.prog X.w) X.A X.env X.xe)(hc:QTE X κ φ c tc)(hb:QSs X κ φ body f):QS X κ φ (.While c body [] pos) (lW tc f n):=
 (xh8 hp hc hb).imp fun E σ H hh_=>by
  obtain⟨ps,F,fl,ps',R,e,q⟩:=hh_
  refine⟨wq8 (φ.fx X.K κ) σ H F tc f fl ps',⟨n,ps,F,.refl R,e⟩,?_⟩
  rintro m σ1 H1 ⟨ps1,F1,s1,e1⟩
  cases m with
  |zero=>cases e1
  | succ m=>
   rw [lW] at e1
   obtain⟨⟨k,ps2⟩,e2,e3⟩:=bind_some e1
   refine⟨ps1,F1,k,ps2,s1.rs,e2,fun H2 F2 s2=> ?_⟩
   have s12:=s1.trans s2
   cases k with
   |true=>
    dsimp only at e3|-
    rw [if_pos rfl] at e3|-
    obtain⟨⟨fl3,ps3⟩,e4,e5⟩:=bind_some e3
    refine⟨fun σ' H'=>∃F',Stp (φ.fx X.K κ) σ1 H2 F2 σ' H' ps3 F'/\lW tc f m ps3=some (fl,ps'),fun σ' H' ⟨F',s,e⟩=>⟨m,Yn m,ps3,F',s12.trans s,e⟩,?_⟩
    refine⟨ps2,F2,fl3,ps3,s2.rs,e4,?_⟩
    cases fl3 with
    |nx=>exact fun σ' H' F' s=>⟨F',s,e5⟩
    |ct=>exact fun σ' H' F' s=>⟨F',s,e5⟩
    |bk=>cases e5;exact fun σ' H' F' s=>q σ' H' F' (s12.trans s)
    |ret d=>cases e5;exact fun v σ' H' F' fv s o r=>q v σ' H' F' fv (s12.trans s) (o.after s12) r
   |false=>
    dsimp only at e3|-
    rw [if_neg Za] at e3|-
    cases e3
    exact q _ _ F2 s12
end
def rO(Z:List Addr)(H H':Hp):Prop:=∀a o,H a=some o->(tf o=true\/(kd o=true/\a∈Z))->H' a=some o
structure Walk(K:tz0)(κ:tz9)(J:It)(Z:List Addr)(H1:Hp)(ds:List D):Prop where
 go:∀H',rO Z H1 H'->∀(i:Nat) d,ds[i]? =some d->J.go i H'/\∀x H2,J.yld i H' x H2->H2=H'/\Rep K κ H' x d []
 stop:∀H',rO Z H1 H'->J.stop ds.length H'
def tIV(K:tz0)(κ:tz9)(f:tz3):TI:=fun σ H R=>∃ps ds,WS K κ H σ ps/\f ps=some ds/\∀J H1 Z,SameK H H1->Walk K κ J Z H1 ds->R J H1
def tIP(K:tz0)(κ:tz9)(f:tz3):TI:=fun σ H R=>∃ps ds,WS K κ H σ ps/\f ps=some ds/\∀J H1 Z,SameK H H1->(∀a∈Z,H a=none/\H1 a≠none)->Walk K κ J Z H1 ds->R J H1
theorem rO.sq{K:tz0}{Z:List Addr}{H H':Hp}{a:Addr}{vs:List V}(k:rO Z H H')(h:Rd H a (.lst vs))(hz:H a=some (.lst vs)->a∈Z):SqL K H' a vs:=by
 rcases h with h|⟨o,h⟩
 ·exact .inl (.inl (k a _ h (.inr ⟨rfl,hz h⟩)))
 ·exact .inl (.inr ⟨o,k a _ h (.inl rfl)⟩)
theorem rO.rep{K:tz0}{κ:tz9}{Z:List Addr}{H H':Hp}{v:V}{d:D}(k:rO Z H H')(r:Rep K κ H v d []):Rep K κ H' v d []:=r.move (fun a o h t=>k a o h (.inl t)) fun a ha=>absurd ha (by simp)
theorem lP:∀{l₁:List α} {l₂:List β} {i:Nat} {y:β},Paired R l₁ l₂->l₂[i]? =some y->∃x,l₁[i]? =some x/\R x y
 |_,_,_,_,.nil,e=>by simp at e
 |_,_,0,_,.cons h _,e=>by simp at e;subst e;exact⟨_,rfl,h⟩
 |_,_,i+1,_,.cons _ t,e=>by obtain⟨x,h1,h2⟩:=lP (i:=i) t (by simpa using e);exact⟨x,by simpa using h1,h2⟩
section
variable{K:tz0}{κ:tz9}{H1:Hp}{a:Addr}{vs:List V}{ds:List D}{Z:List Addr}
theorem zt1(h:Rd H1 a (.lst vs))(hz:H1 a=some (.lst vs)->a∈Z)(r:Paired (fun v d=>Rep K κ H1 v d []) vs ds):Walk K κ (Itl K a) Z H1 ds where
 go:=fun H' k i d e=>by
  obtain⟨x,e1,r1⟩:=lP r e
  have sq:SqL K H' a vs:=k.sq h hz
  refine⟨⟨vs,x,sq,e1⟩,fun y H2 hy=>⟨hy.1,?_⟩⟩
  have e2:=hy.2 vs sq
  rw [e1] at e2;cases e2
  exact k.rep r1
 stop:=fun H' k=>⟨vs,k.sq h hz,by rw [ZI r];exact Zb _⟩
theorem xk2(h:SqF K H1 a vs)(r:Paired (fun v d=>Rep K κ H1 v d []) vs ds):Walk K κ (Itl K a) Z H1 ds where
 go:=fun H' k i d e=>by
  obtain⟨x,e1,r1⟩:=lP r e
  have sq:SqL K H' a vs:=(h.tf fun a o e t=>k a o e (.inl t)).l
  refine⟨⟨vs,x,sq,e1⟩,fun y H2 hy=>⟨hy.1,?_⟩⟩
  have e2:=hy.2 vs sq
  rw [e1] at e2;cases e2
  exact k.rep r1
 stop:=fun H' k=>⟨vs,(h.tf fun a o e t=>k a o e (.inl t)).l,by rw [ZI r];exact Zb _⟩
theorem xk3(h:SqT K H1 a vs)(r:Paired (fun v d=>Rep K κ H1 v d []) vs ds):Walk K κ (Itt K a) Z H1 ds where
 go:=fun H' k i d e=>by
  obtain⟨x,e1,r1⟩:=lP r e
  have sq:SqT K H' a vs:=h.tf fun a o e t=>k a o e (.inl t)
  refine⟨⟨vs,x,sq,e1⟩,fun y H2 hy=>⟨hy.1,?_⟩⟩
  have e2:=hy.2 vs sq
  rw [e1] at e2;cases e2
  exact k.rep r1
 stop:=fun H' k=>⟨vs,h.tf fun a o e t=>k a o e (.inl t),by rw [ZI r];exact Zb _⟩
end
def dS(lo:Int)(n:Nat):List D:=(List.range n).map fun(k:Nat)=> .int (lo+(k:Int))
theorem zj0{K:tz0}{κ:tz9}{H1:Hp}{Z:List Addr}(lo:Int)(n:Nat):Walk K κ (Itr lo n) Z H1 (dS lo n) where
 go:=fun H' _ i d e=>by
  have hi:=(Z4.mp e).1
  unfold dS at hi e
  rw [Z7,Yj] at hi
  rw [Zd,List.getElem?_range hi] at e
  cases e
  exact⟨hi,fun x H2 ⟨h1,h2⟩=>⟨h1,by rw [h2];exact .int _⟩⟩
 stop:=fun H' _=>by
  show n<=(dS lo n).length
  unfold dS
  rw [Z7,Yj];exact Zb _
abbrev QIV(X:Cx)(κ:tz9)(tg iter:Expr)(f:tz3):Prop:=PI X tg iter (tIV X.K κ f)
abbrev QIP(X:Cx)(κ:tz9)(tg iter:Expr)(f:tz3):Prop:=PI X tg iter (tIP X.K κ f)
theorem PI.imp(h:PI X tg e t)(k:∀σ H Q,t' σ H Q->t σ H Q):PI X tg e t':=⟨fun pins s σ H Q I q=>h pins s σ H Q I (k σ H Q q)⟩
theorem QIP.v(h:QIP X κ tg iter f):QIV X κ tg iter f:=PI.imp h fun σ H R ⟨ps,ds,w,e,q⟩=>⟨ps,ds,w,e,fun J H1 Z s _ k=>q J H1 Z s k⟩
section
variable{X:Cx}{κ:tz9}{tg l a b:Expr}{f:tz2}{g:tz3}{p pos:Pos}
def sK:List D->Option (List D)
 |[.int j]=>if (-(2^62)<=j/\j<2^62) then some (dS 0 j.toNat) else none
 |_=>none
def zy3:List D->Option (List D)
 |[.int i,.int j]=>if (-(2^62)<=i/\i<2^62/\ -(2^62)<=j/\j<2^62) then some (dS i (j-i).toNat) else none
 |_=>none
def lK(g:tz3):tz3:=fun ps=>(g ps).bind sK
def lL(g:tz3):tz3:=fun ps=>(g ps).bind zy3
theorem zJ(hg:Gl X "range")(hm:X.mg "range"=none)(ha:QVA X κ [a] g)(hs:starEach [a] X.env=[(false,eval a X.env)]:=by rfl):QIP X κ tg (.Call (.Name "range" p) [a] [] pos) (lK g):=
 PI.imp (yw8 hg hm ha hs) fun σ H R hh_=>by
  obtain⟨ps,ds,w,e,q⟩:=hh_
  obtain⟨as,e1,e2⟩:=bind_some e
  refine⟨ps,as,w,e1,fun vs H1 fp s1 r1=> ?_⟩
  unfold sK at e2
  split at e2
  ·obtain⟨hc,e3⟩:=bK e2
   cases e3
   obtain⟨v,rfl,r⟩:=r1.one_inv
   exact⟨_,by rw [r.is_int],hc.1,hc.2,q _ H1 [] s1 (fun _ h=>absurd h (by simp)) (zj0 _ _)⟩
  ·cases e2
theorem qM(hg:Gl X "range")(hm:X.mg "range"=none)(ha:QVA X κ [a,b] g)(hs:starEach [a,b] X.env=[(false,eval a X.env),(false,eval b X.env)]:=by rfl)(hs2:starEach [b] X.env=[(false,eval b X.env)]:=by rfl):QIP X κ tg (.Call (.Name "range" p) [a,b] [] pos) (lL g):=
 PI.imp (zr8 hg hm ha hs hs2) fun σ H R hh_=>by
  obtain⟨ps,ds,w,e,q⟩:=hh_
  obtain⟨as,e1,e2⟩:=bind_some e
  refine⟨ps,as,w,e1,fun vs H1 fp s1 r1=> ?_⟩
  unfold zy3 at e2
  split at e2
  ·obtain⟨hc,e3⟩:=bK e2
   cases e3
   obtain⟨v,u,f,g,rfl,r,r'⟩:=r1.two_inv
   exact⟨_,_,by rw [r.is_int,r'.is_int],hc,q _ H1 [] s1 (fun _ h=>absurd h (by simp)) (zj0 _ _)⟩
  ·cases e2
def wj0(K:tz0)(tl:TE):TI:=fun σ H R=>tl σ H fun x H1=>∃a,x= .ref a/\(((∃xs,SqL K H1 a xs)/\R (Itl K a) H1)\/((∃xs,SqT K H1 a xs)/\R (Itt K a) H1))
theorem yb4(hl:PE X l tl):PI X tg l (wj0 X.K tl):=⟨by
 intro pins s σ H R I h
 refine thn (hl pins s σ H _ I h) fun v s1 ⟨x,H1,I1,r1,q1⟩=> ?_
 obtain⟨a,e,q1⟩:=q1
 subst e
 cases r1
 rcases q1 with ⟨⟨xs,hq⟩,q⟩|⟨⟨xs,hq⟩,q⟩
 ·obtain⟨its,rv,p,hz⟩:=I1.list hq
  refine wpAny_pyIter_list p.isList ?_
  refine⟨s1.heap.objs.size,[s1.heap.objs.size],_,_,H1,rfl,I1.kept (t':=s1.toks) fun b o e=>Zf _ e,yw7 a _,⟨_,Zv _ rfl,rfl,rfl⟩,fun b hb=> ?_,q⟩
  have e:b=s1.heap.objs.size:=by simpa using hb
  subst e
  exact I1.fpOk (Zb _) (I1.hok.fresh (Zb _))
 ·obtain⟨its,rv,p,hz⟩:=I1.tuple hq
  refine wpAny_pyIter_tuple (show s1.heap.IsTuple a its.toArray from p) ?_
  refine⟨s1.heap.objs.size,[s1.heap.objs.size],_,_,H1,rfl,I1.kept (t':=s1.toks) fun b o e=>Zf _ e,yp3 a _,⟨_,Zv _ rfl,rfl,rfl⟩,fun b hb=> ?_,q⟩
  have e:b=s1.heap.objs.size:=by simpa using hb
  subst e
  exact I1.fpOk (Zb _) (I1.hok.fresh (Zb _))⟩
def jN:D->Option (List D)
 | .lst _ xs=>if D.imms xs=true then some xs else none
 | .tup xs=>some xs
 | .con xs=>some xs
 |_=>none
theorem zo5{K:tz0}{H:Hp}{v:V}{d:D}{fp:List Addr}{ds:List D}{R:It->Hp->Prop}(r:Rep K κ H v d fp)(e:jN d=some ds)(q:∀J Z,(∀a∈Z,a∈fp)->Walk K κ J Z H ds->R J H):
  ∃a,v= .ref a/\(((∃xs,SqL K H a xs)/\R (Itl K a) H)\/((∃xs,SqT K H a xs)/\R (Itt K a) H)):=by
 cases d with
 |lst o xs=>
  obtain⟨hc,e⟩:=bK e
  cases e
  cases r with
  |lst h hs=>exact⟨_,rfl,.inl ⟨⟨_,.inl (.inl h)⟩,q _ [_] (fun a ha=>by simp at ha;subst ha;exact Z0) (zt1 (.inl h) (fun _=>by simp) (hs.pair hc))⟩⟩
  |lstF h hs=>exact⟨_,rfl,.inl ⟨⟨_,.inl (.inr ⟨_,h⟩)⟩,q _ [] (fun a ha=>absurd ha (by simp)) (zt1 (.inr ⟨_,h⟩) (fun z=>by rw [h] at z;cases z) (hs.pair hc))⟩⟩
 |tup xs=>
  cases e
  obtain⟨a,vs,rfl,h,hs⟩:=r.tup_inv
  exact⟨a,rfl,.inr ⟨⟨_,h⟩,q _ [] (fun a ha=>absurd ha (by simp)) (xk3 h hs.nilp)⟩⟩
 |con xs=>
  cases e
  obtain⟨a,vs,rfl,h,hs⟩:=r.con_inv
  exact⟨a,rfl,.inl ⟨⟨_,h.l⟩,q _ [] (fun a ha=>absurd ha (by simp)) (xk2 h hs.nilp)⟩⟩
 |_=>cases e
def dP(f:tz2):tz3:=fun ps=>(f ps).bind jN
theorem wA(h:QV X κ l f):QIV X κ tg l (dP f):=PI.imp (yb4 h) fun σ H R hh_=>by
 obtain⟨ps,ds,w,e,q⟩:=hh_
 obtain⟨d,e1,e2⟩:=bind_some e
 exact⟨ps,d,w,e1,fun v H1 fv s1 r1=>zo5 r1 e2 fun J Z _ k=>q J H1 Z s1 k⟩
end
def dC(i:Nat)(f:tz1):List D->tz1
 |[],ps=>some (.nx,ps)
 | d::ds,ps=>(f (ps.set i (some d))).bind fun q=>match q with
   |(.nx,p)=>dC i f ds p
   |(.ct,p)=>dC i f ds p
   |(.bk,p)=>some (.nx,p)
   |(.ret d,p)=>some (.ret d,p)
section
variable{X:Cx}{φ:Fx}{pos:Pos}{body:List Stmt}{f:tz1}
theorem Frm.kept(R:RS φ H σ ps F)(k:Frm F H H')(hz:∀a∈Z,∀i,a∉F i):rO Z H H':=fun a o h t=>by
 rcases t with t|⟨t1,t2⟩
 ·refine k.keep a o h (lN t) fun i hi=> ?_
  obtain⟨o',h',_,t'⟩:=R.own hi
  rw [h] at h';cases h';rw [t] at t';cases t'
 ·exact k.keep a o h t1 (hz a t2)
def wn6(J:It)(E:Ends)(V:Nat->Nat->St->Hp->Prop)(g:TG)(tb:TS)(k m:Nat)(σ:St)(H:Hp):Prop:=
 (J.stop k H/\E.nx σ H)\/(J.go k H/\∃N:St->Hp->Prop,(∀σ' H',N σ' H'->∃m',m'<m/\V (k+1) m' σ' H')/\∀x H',J.yld k H x H'->g x σ H' fun σ2 H2=>tb {E with nx:=N,ct:=N,bk:=E.nx} σ2 H2)
def wq9(φ:Fx)(σ:St)(H:Hp)(F:Nat->List Addr)(i:Nat)(f:tz1)(ds:List D)(fl:Fl)(ps':PSt)(k m:Nat)(σ1:St)(H1:Hp):Prop:=k<=ds.length/\m=ds.length-k/\∃ps1 F1,Stp φ σ H F σ1 H1 ps1 F1/\dC i f (ds.drop k) ps1=some (fl,ps')
theorem zg1(R:RS φ H σ ps F)(hz:∀a∈Z,H a≠none/\∀i,a∉F i)(W:Walk φ.K φ.κ J Z H ds)(hb:φ.bor i=false)(hm:φ.M i=false)
  (e:dC i f ds ps=some (fl,ps')) (q:yD φ E σ H F fl ps'):∃V:Nat->Nat->St->Hp->Prop,(∃m,V 0 m σ H)/\∀k m σ H,V k m σ H->wn6 J E V (sI i) (tS φ f) k m σ H:=by
 refine⟨wq9 φ σ H F i f ds fl ps',⟨_,ZK _,rfl,ps,F,.refl R,by rw [XJ];exact e⟩,?_⟩
 rintro k m σ1 H1 ⟨hk,rfl,ps1,F1,s1,e1⟩
 have kp:rO Z H H1:=s1.fr.kept R fun a ha=>(hz a ha).2
 by_cases hlt:k<ds.length
 ·right
  have ed:ds[k]? =some ds[k]:=Zm hlt
  obtain⟨hgo,hy⟩:=W.go H1 kp k _ ed
  rw [ZX hlt,dC] at e1
  obtain⟨⟨fl2,ps2⟩,e2,e3⟩:=bind_some e1
  refine⟨hgo,fun σ' H'=>∃F',Stp φ σ H F σ' H' ps2 F'/\dC i f (ds.drop (k+1)) ps2=some (fl,ps'),fun σ' H' ⟨F',s,e⟩=>⟨ds.length-(k+1),by omega,hlt,rfl,ps2,F',s,e⟩,fun x H' y=> ?_⟩
  obtain⟨rfl,rx⟩:=hy x H' y
  obtain⟨F2,s2⟩:=(Stp.refl s1.rs).set (i:=i) (fv:=[]) (v:=x) (d:=ds[k]) ⟨fun _ h=>absurd h (by simp),Zk,fun _ _ _ h=>absurd h (by simp)⟩ s1.rs rx (.inl hb) hm
  have s12:=s1.trans s2
  refine⟨_,F2,fl2,ps2,s2.rs,e2,?_⟩
  cases fl2 with
  |nx=>exact fun σ' H' F' s=>⟨F',s12.trans s,e3⟩
  |ct=>exact fun σ' H' F' s=>⟨F',s12.trans s,e3⟩
  |bk=>cases e3;exact fun σ' H' F' s=>q σ' H' F' (s12.trans s)
  |ret d=>cases e3;exact fun v σ' H' F' fv s o r=>q v σ' H' F' fv (s12.trans s) (o.after s12) r
 ·left
  have ek:k=ds.length:=by omega
  subst ek
  rw [Xt,dC] at e1
  cases e1
  exact⟨W.stop H1 kp,q _ _ F1 s1⟩
def fJ(i:Nat)(fi:tz3)(f:tz1):tz1:=fun ps=>(fi ps).bind fun ds=>dC i f ds ps
theorem mY{κ:tz9}{φ:F0}(i:Nat){x:Str}{px:Pos}{iter:Expr}{fi:tz3}(hp:PassesOwn (model X.prog X.w) X.A X.env X.xe)(hc:X.calm=true)(hN:X.N.Nodup)(hi:X.N[i]? =some x)(hx:Loc X.env.scope x)(hb:φ.bor i=false)(hm:φ.M i=false)
  (hit:PI X (.Name x px) iter (tIP X.K κ fi)) (hbd:QSs X κ φ body f) (hs:∀x,foldedSetIterable iter X.env x=pure x:=by intro _;rfl) (hf:X.fn x=true\/X.env.scope.names.lookup x=some .local:=by first|exact .inl rfl|exact .inr rfl|assumption):
  QS X κ φ (.For (.Name x px) iter body [] pos) (fJ i fi f):=(zF hp hc hit (fG hN hi hx hf) hbd hs).imp fun E σ H hh_=>by
 obtain⟨ps,F,fl,ps',R,e,q⟩:=hh_
 obtain⟨ds,e1,e2⟩:=bind_some e
 refine⟨ps,ds,R.ws,e1,fun J H1 Z s1 hz W=> ?_⟩
 have s:=Stp.same R s1
 exact zg1 s.rs (fun a ha=>⟨(hz a ha).2,fun j hj=>by obtain⟨o,h,_⟩:=R.own hj;rw [(hz a ha).1] at h;cases h⟩) W hb hm e2 (q.back s)
def yu9(g:TG)(tb:TS)(E:Ends)(σ:St):It->Hp->Prop:=fun J H1=>∃W:Nat->Nat->St->Hp->Prop,(∃m,W 0 m σ H1)/\∀i m σ H,W i m σ H->
 (J.stop i H/\E.nx σ H)\/(J.go i H/\∃N:St->Hp->Prop,(∀σ' H',N σ' H'->∃m',m'<m/\W (i+1) m' σ' H')/\∀x H',J.yld i H x H'->g x σ H' fun σ2 H2=>tb {E with nx:=N,ct:=N,bk:=E.nx} σ2 H2)
theorem zc7{κ:tz9}{φ:F0}(i j:Nat){x y:Str}{px py:Pos}(hp:PassesOwn (model X.prog X.w) X.A X.env X.xe)(hc:X.calm=true)(hN:X.N.Nodup)(hi:X.N[i]? =some x)(hx:Loc X.env.scope x)(hb:φ.bor i=false)(hm:φ.M i=false)(hj:φ.bor j=true)
  (hbd:QSs X κ φ body f) (hNj:X.N[j]? =some y:=by rfl) (hv:Vis X.env.scope y:=by first|exact Or.inl rfl|exact Or.inr (Or.inl rfl)|exact Or.inr (Or.inr rfl)) (hd:NDb y:=by decide)
  (hcd:(y==("__classdict__":Str))=false:=by decide) (hs:∀x,foldedSetIterable (.Name y py) X.env x=pure x:=by intro _;rfl) (hf:X.fn x=true\/X.env.scope.names.lookup x=some .local:=by first|exact .inl rfl|exact .inr rfl|assumption):
  QS X κ φ (.For (.Name x px) (.Name y py) body [] pos) (fJ i (dP (aB j)) f):=(zF hp hc (yb4 (tF hNj hv hd hcd)) (fG hN hi hx hf) hbd hs).imp fun E σ H hh_=>by
 obtain⟨ps,F,fl,ps',R,e,q⟩:=hh_
 obtain⟨ds,e1,e2⟩:=bind_some e
 obtain⟨d,e3,e4⟩:=bind_some e1
 obtain⟨v,fp,h1,h2,_,h4⟩:=R.rep j d (join_some e3)
 refine⟨v,h1,?_⟩
 refine zo5 (R:=yu9 (sI i) (tS (φ.fx X.K κ) f) E σ) h2 e4 fun J Z hz W=> ?_
 exact zg1 R (fun a ha=>⟨R.bt j a (h4 hj a (hz a ha)),fun k hk=>R.nb k a hk j (h4 hj a (hz a ha))⟩) W hb hm e2 q
end
def gP(np n:Nat)(f:tz1):tz6:=fun ds=>if ds.length=np then(f (ds.map some++List.replicate n none)).bind fun r=>match r with
 |(.ret d,_)=>some d
 |(.nx,_)=>some .non
 |_=>none
 else none
def SpP(np:Nat)(K:tz0)(κ:tz9)(g:tz6):Sp:=fun vs H Q _=>vs.length=np/\∃ds fp d,Reps K κ H vs ds fp/\g ds=some d/\lF K κ H d Q
def fxP(K:tz0)(κ:tz9)(np:Nat)(B:Nat->Addr->Prop):Fx:=⟨K,κ,fun i=>decide (i<np),fun _=>false,B⟩
def f0P(np:Nat)(B:Nat->Addr->Prop):F0:=⟨fun i=>decide (i<np),fun _=>false,B⟩
theorem yz9{N:List Str}{vs:List V}{i:Nat}{v:V}(h:vs[i]? =some v):(start N vs)[i]? =some (some v):=by
 unfold start
 have hi:=(Z4.mp h).1
 rw [ZO (by simpa using hi),Zd,h];rfl
theorem RS.start{K:tz0}{κ:tz9}{H:Hp}{N:List Str}{vs:List V}{ds:List D}{fp:List Addr}{np:Nat}(r:Reps K κ H vs ds fp)(hl:vs.length=np)(hn:np<=N.length):
  RS (fxP K κ np (fun _ a=>a∈fp)) H (start N vs) (ds.map some++List.replicate (N.length-np) none) (fun _=>[]):=by
 have el:=r.length
 refine⟨fun i d h=> ?_,fun i a h=>absurd h (by simp),fun i j a h=>absurd h (by simp),fun i=>Zk,fun i a h=>absurd h (by simp),fun k a h z=> ?_,?_⟩
 ·by_cases hi:i<ds.length
  ·rw [ZO (by simpa using hi),Zd] at h
   cases e:ds[i]? with
   |none=>rw [e] at h;cases h
   |some d'=>
    rw [e] at h;cases h
    obtain⟨v,f,h1,h2,h3⟩:=r.get e
    refine⟨v,f,yz9 h1,h2,fun z=> ?_,fun _=>h3⟩
    exact absurd (Yt z) (by omega)
  ·rw [YM (by simpa using hi),Yu] at h
   split at h<;>cases h
 ·obtain⟨o,h,_⟩:=r.own a h
  rw [z] at h;cases h
 ·unfold L2.start
  simp only [Z5,Z7,X5]
  omega
section
variable{P:Program}{w:World}{K:tz0}{mg:tzA}{base:Heap}{κ:tz9}
theorem cD{x qual:Str}{st:Stmt}{f:Addr}{fd:FuncData}{N ps:List Str}{k:Nat}{fb:tz1}(F:Fun K x qual st f fd)(S:FnScope N ps (aS st))
  (hbody:∀(cdv:Value) (A:Around) (outer:List Env) (s:Shared) (H:Hp) (E:XK) (B:Nat->Addr->Prop),Room k (A.deeper (envOfC qual (aS st) s.heap.objs.size f cdv))->
   QSs (iS CX0 P w K mg base N qual (aS st) f cdv A outer s H E).nox κ (f0P ps.length B) (mO st) fb):
  FnOk P w K mg base CX0 (k+1) f fd ps (SpP ps.length K κ (gP ps.length (N.length-ps.length) fb)):=by
 refine F.ok S (fun vs H Q E h=>h.1) fun cdv A outer s H vs Q E hr ⟨hl,ds,fp,d,r,e,q⟩=>⟨_,hbody cdv A outer s H E (fun _ a=>a∈fp) hr,?_⟩
 have hn:ps.length<=N.length:=by have:=ZJ List.length S.pre;rw [YE] at this;omega
 unfold gP at e
 obtain⟨_,e0⟩:=bK e
 obtain⟨⟨fl,ps'⟩,e1,e2⟩:=bind_some e0
 refine⟨_,fun _=>[],fl,ps',RS.start r hl hn,e1,?_⟩
 have sm:∀{H':Hp},Frm (fun _=>[]) H H'->SameK H H':=fun k=>⟨fun a o h kk=>k.keep a o h kk (fun _=>by simp),k.grow⟩
 cases fl with
 |ret d'=>
  cases e2
  exact fun v σ' H' F' fv s o rv=>q v H' fv (sm s.fr) (fun a ha=>(o.nw a ha).elim (fun⟨j,hj⟩=>absurd hj (by simp)) id) o.nd rv
 |nx=>
  cases e2
  exact fun σ' H' F' s=>q .non H' [] (sm s.fr) (fun a ha=>absurd ha (by simp)) Zk .non
 |bk=>cases e2
 |ct=>cases e2
end
section
variable{X:Cx}{κ:tz9}{e:Expr}{es:List Expr}{g:tz3}{pos p:Pos}
theorem bS{x:Str}{st:Stmt}{ps:List Str}{f:Addr}{fd:FuncData}{k np:Nat}{h:tz6}(Dd:Dn X.K X.mg x st ps f fd)(G:FnOk X.prog X.w X.K X.mg X.base CX0 k f fd ps (SpP np X.K κ h))(hr:Room k X.A)(hg:Gl X x)(hnp:(e::es).length=np)(ha:QVA X κ (e::es) g)
  (hlen:∀ps ds,g ps=some ds->ds.length=(e::es).length)
  (hdb:NDb x:=by decide) (he:StE e es X:=by rfl) (hpl:BkE pos es X:=by rfl):
  QP X κ (.Call (.Name x p) (e::es) [] pos) (aG h g):=(yq8 Dd G hr hg ha hdb he hpl).imp fun σ H Q hh_=>by
 obtain⟨ps,d,w,e,q⟩:=hh_
 obtain⟨ds,e1,e2⟩:=bind_some e
 refine⟨ps,ds,w,e1,fun vs H1 fp s1 r1=> ?_⟩
 show SpP np X.K κ h (vs++[]) H1 Q E0
 rw [Zl]
 exact⟨by rw [r1.length,hlen ps ds e1,hnp],ds,fp,d,r1,e2,q.after s1⟩
theorem xa0{x:Str}{st:Stmt}{ps:List Str}{f:Addr}{fd:FuncData}{k:Nat}{h:tz6}(Dd:Dn X.K X.mg x st ps f fd)(G:FnOk X.prog X.w X.K X.mg X.base CX0 k f fd ps (SpP 0 X.K κ h))(hr:Room k X.A)(hg:Gl X x)
  (hdb:NDb x:=by decide):QP X κ (.Call (.Name x p) [] [] pos) (aG h aE):=(wd2 Dd G hr hg hdb).imp fun σ H Q hh_=>by
 obtain⟨ps,d,w,e,q⟩:=hh_
 obtain⟨ds,e1,e2⟩:=bind_some e
 cases e1
 exact⟨rfl,[],[],d,.nil,e2,q⟩
theorem aY:∀(ps:PSt) (ds:List D),aE ps=some ds->ds.length=([]:List Expr).length:=fun _ _ h=>by cases h;rfl
theorem aH(h:∀ps ds,g ps=some ds->ds.length=es.length):∀(ps:PSt) (ds:List D),aA f g ps=some ds->ds.length=(e::es).length:=fun ps ds q=>by
 obtain⟨d,es',_,e2,rfl⟩:=xA q
 rw [Z6,Z6,h ps es' e2]
end
def rP(pick:List (Option Nat))(ps:PSt):PSt:=pick.map fun o=>o.bind fun j=>(ps[j]?).join
def eZ(psb:PSt)(ft:tz4)(fe:tz2):List D->Option (List D)
 |[]=>some []
 |d::ds=>(ft (psb.set 0 (some d))).bind fun b=>if b=true then(fe (psb.set 0 (some d))).bind fun r=>(eZ psb ft fe ds).bind fun rs=>some (r::rs) else eZ psb ft fe ds
def fQ(pick:List (Option Nat))(fi:tz3)(ft:tz4)(fe:tz2):tz2:=fun ps=>(fi ps).bind fun ds=>if ds.length<=sizeLine then(eZ (rP pick ps) ft fe ds).bind fun rs=>some (.lst true rs) else none
def fK:tz4:=fun _=>some true
theorem WS.sub{K:tz0}{κ:tz9}{H:Hp}{σ:St}{ps:PSt}(pick:List (Option Nat))(w:WS K κ H σ ps):WS K κ H (rN pick σ) (rP pick ps):=fun i d h=>by
 unfold rP at h
 unfold rN
 rw [Zd] at h|-
 cases e:pick[i]? with
 |none=>rw [e] at h;cases h
 | some o=>
  rw [e] at h
  cases o with
  |none=>cases h
  |some j=>
   have h':(ps[j]?).join=some d:=ZB h
   obtain⟨v,fp,h1,h2⟩:=w j d (join_some h')
   refine⟨v,fp,?_,h2⟩
   show some ((σ[j]?).join)=some (some v)
   rw [h1];rfl
theorem WS.set0{K:tz0}{κ:tz9}{H:Hp}{σ:St}{ps:PSt}{v:V}{d:D}{fp:List Addr}(w:∀(i:Nat) (d:D),i≠0->ps[i]? =some (some d)->∃v fp,σ[i]? =some (some v)/\Rep K κ H v d fp)(hl:ps.length<=σ.length)(r:Rep K κ H v d fp):WS K κ H (σ.set 0 (some v)) (ps.set 0 (some d)):=fun i d' h=>by
 by_cases e:i=0
 ·subst e
  by_cases hp:0<ps.length
  ·rw [Zw hp] at h
   cases h
   exact⟨v,fp,by rw [Zw (by omega)],r⟩
  ·rw [YC (by simpa using hp)] at h;cases h
 ·rw [Zt (fun z=>e z.symm)] at h|-
  exact w i d' e h
section
variable{X:Cx}{κ:tz9}{sc:Scope}{NX N:List Str}{pick:List (Option Nat)}{elt iter:Expr}{ifs:List Expr}{scope:Scope}{pos px:Pos}{x:Str}{fi:tz3}{ft:tz4}{fe:tz2}
theorem PTs.imp(h:PTs X ifs t)(k:∀σ H Q,t' σ H Q->t σ H Q):PTs X ifs t':=⟨fun pins s σ H Q I q=>h pins s σ H Q I (k σ H Q q)⟩
theorem pI:PTs X [] (tQ X.K κ fK):=wd3.imp fun σ H Q ⟨ps,b,w,e,q⟩=>by cases e;exact q H (.refl H)
structure Grown(K:tz0)(κ:tz9)(H1:Hp)(Dd:Addr)(H':Hp)(vs:List V)(rs:List D)(fv:List Addr):Prop where
 same:SameK H1 H'
 at_:H' Dd=some (.lst vs)
 rep:Reps K κ H' vs rs fv
 new:∀a∈fv,H1 a=none
 ne:Dd∉fv
 nd:fv.Nodup
def wn7(K:tz0)(κ:tz9)(J:It)(Dd:Addr)(q:Hp->Prop)(V:Nat->Nat->St->Hp->Prop)(ft:tz4)(fe:tz2)(i m:Nat)(σ':St)(H':Hp):Prop:=
  (J.stop i H'/\q H')\/(J.go i H'/\∀x H2,J.yld i H' x H2->sI 0 x σ' H2 fun σ3 H3=>tQ K κ ft σ3 H3 fun b H4=>
   if b=true then tP K κ fe σ3 H4 fun y H5=>∃ys,H5 Dd=some (.lst ys)/\ys.length<sizeLine/\∃m',m'<m/\V (i+1) m' σ3 (upd H5 Dd (.lst (ys++[y]))) else ∃m',m'<m/\V (i+1) m' σ3 H4)
def wr0(K:tz0)(κ:tz9)(H1:Hp)(Dd:Addr)(pick:List (Option Nat))(ps:PSt)(ft:tz4)(fe:tz2)(ds rs:List D)(i m:Nat)(σ':St)(H':Hp):Prop:=i<=ds.length/\m=ds.length-i/\(∀(j:Nat) (d:D),j≠0->(rP pick ps)[j]? =some (some d)->∃v fp,σ'[j]? =some (some v)/\Rep K κ H1 v d fp)/\(rP pick ps).length<=σ'.length/\
  ∃vs fv done rest,Grown K κ H1 Dd H' vs done fv/\done.length<=i/\eZ (rP pick ps) ft fe (ds.drop i)=some rest/\rs=done++rest
theorem xk4{pick:List (Option Nat)}{J:It}{Z:List Addr}{σ:St}{ps:PSt}{H1:Hp}{Dd:Addr}{ds rs:List D}{Q:Addr->Hp->Prop}(w:WS X.K κ H1 σ ps)(hD:H1 Dd=none)(W:Walk X.K κ J Z H1 ds)(hz:ds.length<=sizeLine)
  (e:eZ (rP pick ps) ft fe ds=some rs) (q:∀H' vs fv,Grown X.K κ H1 Dd H' vs rs fv->Q Dd H'):
  ∃V:Nat->Nat->St->Hp->Prop,(∃m,V 0 m (rN pick σ) (upd H1 Dd (.lst [])))/\∀i m σ' H',V i m σ' H'->wn7 X.K κ J Dd (Q Dd) V ft fe i m σ' H':=by
 refine⟨wr0 X.K κ H1 Dd pick ps ft fe ds rs,⟨_,ZK _,rfl,fun j d _ h=>w.sub pick j d h,by simp [rP,rN],[],[],[],rs,⟨.new hD _,cV,.nil,fun _ h=>absurd h (by simp),by simp,Zk⟩,ZK _,by rw [XJ];exact e,rfl⟩,?_⟩
 rintro i m σ' H' ⟨hi,rfl,ws,wl,vs,fv,done,rest,G,hdn,er,ers⟩
 have kp:rO Z H1 H':=fun a o h t=>G.same.keep a o h (t.elim lN fun t=>t.1)
 by_cases hlt:i<ds.length
 ·right
  have ed:ds[i]? =some ds[i]:=Zm hlt
  obtain⟨hgo,hy⟩:=W.go H' kp i _ ed
  refine⟨hgo,fun x H2 y=> ?_⟩
  obtain⟨rfl,rx⟩:=hy x H2 y
  rw [ZX hlt,eZ] at er
  obtain⟨b,e1,e2⟩:=bind_some er
  have wset:WS X.K κ H2 (σ'.set 0 (some x)) ((rP pick ps).set 0 (some ds[i])):=WS.set0 (fun j d hj h=>by obtain⟨v,fp,h1,h2⟩:=ws j d hj h;exact⟨v,fp,h1,h2.same G.same⟩) wl rx
  refine⟨_,b,wset,e1,fun H3 s3=> ?_⟩
  have keepS:∀(j:Nat) (d:D),j≠0->(rP pick ps)[j]? =some (some d)->∃v fp,(σ'.set 0 (some x))[j]? =some (some v)/\Rep X.K κ H1 v d fp:=fun j d hj h=>by
   obtain⟨v,fp,h1,h2⟩:=ws j d hj h
   exact⟨v,fp,by rw [Zt (fun z=>hj z.symm)];exact h1,h2⟩
  have Dkeep:∀{H5:Hp},SameK H2 H5->H5 Dd=some (.lst vs):=fun s=>s.keep _ _ G.at_ rfl
  cases b with
  | true=>
   dsimp only
   rw [if_pos rfl] at e2|-
   obtain⟨r,e3,e4⟩:=bind_some e2
   obtain⟨rs',e5,e6⟩:=bind_some e4
   cases e6
   refine⟨_,r,wset.same s3,e3,fun y H5 fw s5 n5 nd5 r5=> ?_⟩
   have s25:=s3.trans s5
   refine⟨vs,Dkeep s25,?_,ds.length-(i+1),by omega,hlt,rfl,keepS,by simpa using wl,vs++[y],fv++fw,done++[r],rs',?_,?_,e5,by rw [ers];simp⟩
   ·have:=G.rep.length;omega
   ·have hDw:Dd∉fw:=fun z=>by have:=s3.grow Dd (n5 Dd z);rw [G.at_] at this;cases this
    have hup:∀a,a≠Dd->upd H5 Dd (.lst (vs++[y])) a=H5 a:=fun a h=>bE h
    have tfk:∀a o,H5 a=some o->tf o=true->upd H5 Dd (.lst (vs++[y])) a=some o:=fun a o h t=>by
     rw [hup a]
     ·exact h
     ·rintro rfl;rw [Dkeep s25] at h;cases h;cases t
    have rv5:Reps X.K κ H5 vs done fv:=G.rep.same s25
    refine⟨⟨fun a o h k=> ?_,fun a h=> ?_⟩,cV,Reps.append (rv5.move tfk fun a ha=>hup a fun z=>G.ne (z▸ha)) (Reps.one (r5.move tfk fun a ha=>hup a fun z=>hDw (z▸ha))),fun a ha=> ?_,fun z=> ?_,?_⟩
    ·rw [hup a (fun z=>by subst z;rw [hD] at h;cases h)]
     exact(G.same.trans s25).keep a o h k
    ·by_cases z:a=Dd
     ·subst z;rw [cV] at h;cases h
     ·rw [hup a z] at h;exact(G.same.trans s25).grow a h
    ·rcases Zn.mp ha with z|z
     ·exact G.new a z
     ·exact(G.same.trans s3).grow a (n5 a z)
    ·rcases Zn.mp z with z|z
     ·exact G.ne z
     ·exact hDw z
    ·rw [ZA]
     refine⟨G.nd,nd5,fun a ha b hb e=> ?_⟩
     subst e
     obtain⟨o,h,k,_⟩:=G.rep.own a ha
     have:=s3.keep a o h k
     rw [n5 a hb] at this;cases this
   ·rw [Z5,Wb];omega
  |false=>
   dsimp only
   rw [if_neg Za] at e2|-
   refine⟨ds.length-(i+1),by omega,hlt,rfl,keepS,by simpa using wl,vs,fv,done,rest,⟨G.same.trans s3,Dkeep s3,G.rep.same s3,G.new,G.ne,G.nd⟩,by omega,e2,ers⟩
 ·left
  have ek:i=ds.length:=by omega
  subst ek
  rw [Xt,eZ] at er
  cases er
  rw [Zl] at ers
  subst ers
  exact⟨W.stop H' kp,q H' vs fv G⟩
theorem pJ(S:CScope sc NX N pick scope)(hsc:X.env.scope=sc)(hNX:X.N=NX)(hc:X.calm=true)(hi:QIV X κ (.Name x px) iter fi)
  (hg:∀cl fp s H,PG (cxB X N scope cl fp s H) (.Name x px) (sI 0)) (ht:∀cl fp s H,PTs (cxB X N scope cl fp s H) ifs (tQ X.K κ ft)) (he:∀cl fp s H,PE (cxB X N scope cl fp s H) elt (tP X.K κ fe))
  (hs:∀x,foldedSetIterable iter X.env x=pure x:=by intro _;rfl):QP X κ (.ListComp elt [⟨.Name x px,iter,ifs,0⟩] scope pos) (fQ pick fi ft fe):=
 (xu8 S hsc hNX hc hi hg ht he hs).imp fun σ H Q hh_=>by
  obtain⟨ps,d,w,e,q⟩:=hh_
  obtain⟨ds,e1,e2⟩:=bind_some e
  obtain⟨hz,e3⟩:=bK e2
  obtain⟨rs,e4,e5⟩:=bind_some e3
  cases e5
  refine⟨ps,ds,w,e1,fun J H1 Z s1 W Dd hD=> ?_⟩
  refine xk4 (Q:=fun Dd H'=>Q (.ref Dd) H') (w.same s1) hD W hz e4 fun H' vs fv G=> ?_
  refine q _ H' (Dd::fv) (s1.trans G.same) (fun a ha=> ?_) (Zs.mpr ⟨G.ne,G.nd⟩) (.lst G.at_ G.rep)
  rcases Z3.mp ha with z|z
  ·rw [z];exact s1.grow Dd hD
  ·exact s1.grow a (G.new a z)
end
inductive Ps1 where
 |ix (n:Nat)|fld (f:Str)
def cJ:List Str->Str->Option Nat
 |[],_=>none
 |n::ns,f=>if n=f then some 0 else(cJ ns f).map (·+1)
def gC{α:Type}(h:D->Option (α×D)):D->List Ps1->Option (α×D)
 |d,[]=>h d
 | .lst true xs,.ix n::p=>(xs[n]?).bind fun d=>(gC h d p).bind fun r=>some (r.1,.lst true (xs.set n r.2))
 | .obj true C ns vs,.fld f::p=>(cJ ns f).bind fun n=>(vs[n]?).bind fun d=>(gC h d p).bind fun r=>some (r.1,.obj true C ns (vs.set n r.2))
 |_,_=>none
def kJ:D->List Ps1->Option D
 |d,[]=>some d
 | .lst true xs,.ix n::p=>(xs[n]?).bind fun d=>kJ d p
 | .obj true _ ns vs,.fld f::p=>(cJ ns f).bind fun n=>(vs[n]?).bind fun d=>kJ d p
 |_,_=>none
def At(H:Hp):V->List Ps1->V->Prop
 |v0,[],v=>v=v0
 |v0,.ix n::p,v=>∃a vs v1,v0= .ref a/\H a=some (.lst vs)/\vs[n]? =some v1/\At H v1 p v
 |v0,.fld f::p,v=>∃a C dx fs n v1,v0= .ref a/\H a=some (.ins C dx fs)/\cJ (fs.map (·.1)) f=some n/\(fs.map (·.2))[n]? =some v1/\At H v1 p v
theorem At.same(s:SameK H H'):∀{p:List Ps1} {v0 v:V},At H v0 p v->At H' v0 p v
 |[],_,_,h=>h
 | .ix n::p,_,_,⟨a,vs,v1,h1,h2,h3,h4⟩=>⟨a,vs,v1,h1,s.keep _ _ h2 rfl,h3,At.same s h4⟩
 | .fld f::p,_,_,⟨a,C,dx,fs,n,v1,h1,h2,h3,h4,h5⟩=>⟨a,C,dx,fs,n,v1,h1,s.keep _ _ h2 rfl,h3,h4,At.same s h5⟩
theorem At.snoc_ix(h:H a=some (.lst vs))(hv:vs[n]? =some v):∀{p:List Ps1} {v0:V},At H v0 p (.ref a)->At H v0 (p++[.ix n]) v
 |[],_,e=>⟨a,vs,v,e.symm,h,hv,rfl⟩
 | .ix m::p,_,⟨b,us,v1,h1,h2,h3,h4⟩=>⟨b,us,v1,h1,h2,h3,At.snoc_ix h hv h4⟩
 | .fld f::p,_,⟨b,C,dx,fs,m,v1,h1,h2,h3,h4,h5⟩=>⟨b,C,dx,fs,m,v1,h1,h2,h3,h4,At.snoc_ix h hv h5⟩
theorem At.snoc_fld(h:H a=some (.ins C dx fs))(hn:cJ (fs.map (·.1)) f=some n)(hv:(fs.map (·.2))[n]? =some v):∀{p:List Ps1} {v0:V},At H v0 p (.ref a)->At H v0 (p++[.fld f]) v
 |[],_,e=>⟨a,C,dx,fs,n,v,e.symm,h,hn,hv,rfl⟩
 | .ix m::p,_,⟨b,us,v1,h1,h2,h3,h4⟩=>⟨b,us,v1,h1,h2,h3,At.snoc_fld h hn hv h4⟩
 | .fld f'::p,_,⟨b,C',dx',fs',m,v1,h1,h2,h3,h4,h5⟩=>⟨b,C',dx',fs',m,v1,h1,h2,h3,h4,At.snoc_fld h hn hv h5⟩
theorem yl2(e:gC h d0 (.ix n::p)=some (r,d')):∃xs d1 d2,d0= .lst true xs/\xs[n]? =some d1/\gC h d1 p=some (r,d2)/\d'= .lst true (xs.set n d2):=by
 unfold gC at e
 split at e
 ·rename_i z;cases z
 ·rename_i z;cases z
  obtain⟨d1,h1,h2⟩:=bind_some e
  obtain⟨⟨r1,d2⟩,h3,h4⟩:=bind_some h2
  cases h4
  exact⟨_,_,_,rfl,h1,h3,rfl⟩
 ·rename_i z;cases z
 ·cases e
theorem yb5(e:gC h d0 (.fld f::p)=some (r,d')):∃C ns xs n d1 d2,d0= .obj true C ns xs/\cJ ns f=some n/\xs[n]? =some d1/\gC h d1 p=some (r,d2)/\d'= .obj true C ns (xs.set n d2):=by
 unfold gC at e
 split at e
 ·rename_i z;cases z
 ·rename_i z;cases z
 ·rename_i z;cases z
  obtain⟨n,h0,h9⟩:=bind_some e
  obtain⟨d1,h1,h2⟩:=bind_some h9
  obtain⟨⟨r1,d2⟩,h3,h4⟩:=bind_some h2
  cases h4
  exact⟨_,_,_,_,_,_,rfl,h0,h1,h3,rfl⟩
 ·cases e
theorem zo6(e:kJ d0 (.ix n::p)=some d):∃xs d1,d0= .lst true xs/\xs[n]? =some d1/\kJ d1 p=some d:=by
 unfold kJ at e
 split at e
 ·rename_i z;cases z
 ·rename_i z;cases z
  obtain⟨d1,h1,h2⟩:=bind_some e
  exact⟨_,_,rfl,h1,h2⟩
 ·rename_i z;cases z
 ·cases e
theorem zg2(e:kJ d0 (.fld f::p)=some d):∃C ns xs n d1,d0= .obj true C ns xs/\cJ ns f=some n/\xs[n]? =some d1/\kJ d1 p=some d:=by
 unfold kJ at e
 split at e
 ·rename_i z;cases z
 ·rename_i z;cases z
 ·rename_i z;cases z
  obtain⟨n,h0,h9⟩:=bind_some e
  obtain⟨d1,h1,h2⟩:=bind_some h9
  exact⟨_,_,_,_,_,rfl,h0,h1,h2⟩
 ·cases e
theorem nM:∀{d0:D},gC h d0 p=some (r,d')->∃d dn,kJ d0 p=some d/\h d=some (r,dn):=by
 induction p generalizing d' with
 |nil=>intro d0 e;rw [gC] at e;exact⟨d0,d',by rw [kJ],e⟩
 | cons s p ih=>
  intro d0 e
  cases s with
  |ix m=>
   obtain⟨xs,d1,d2,rfl,h1,h3,rfl⟩:=yl2 e
   obtain⟨d,dn,g1,g2⟩:=ih h3
   refine⟨d,dn,?_,g2⟩
   show(xs[m]?).bind _=_
   rw [h1];exact g1
  |fld f=>
   obtain⟨C,ns,xs,m,d1,d2,rfl,h0,h1,h3,rfl⟩:=yb5 e
   obtain⟨d,dn,g1,g2⟩:=ih h3
   refine⟨d,dn,?_,g2⟩
   show(cJ ns f).bind _=_
   rw [h0]
   show(xs[m]?).bind _=_
   rw [h1];exact g1
section
variable{K:tz0}{κ:tz9}{H:Hp}
theorem Reps.focus:∀{vs:List V} {ds:List D} {g:List Addr} {n:Nat} {d1:D} {v1:V},Reps K κ H vs ds g->ds[n]? =some d1->vs[n]? =some v1->∃f1 rest,Rep K κ H v1 d1 f1/\g.Perm (f1++rest)/\
  ∀(H':Hp) (d':D) (f':List Addr),(∀a o,H a=some o->tf o=true->H' a=some o)->(∀a∈rest,H' a=H a)->Rep K κ H' v1 d' f'->∃g',Reps K κ H' vs (ds.set n d') g'/\g'.Perm (f'++rest)
 |_,_,_,_,_,_,.nil,e,_=>by simp at e
 |_,_,_,0,_,_,.cons (f:=f) (g:=g) h hs,e,e'=>by
  simp at e e';subst e;subst e'
  exact⟨f,g,h,.refl _,fun H' d' f' t k r=>⟨f'++g,.cons r (hs.move t k),.refl _⟩⟩
 | _,_,_,n+1,_,_,.cons (f:=f) (g:=g) h hs,e,e'=>by
  obtain⟨f1,rest,h1,h2,h3⟩:=Reps.focus (n:=n) hs (by simpa using e) (by simpa using e')
  refine⟨f1,f++rest,h1,?_,fun H' d' f' t k r=> ?_⟩
  ·refine(h2.append_left f).trans ?_
   rw [<-Zq,<-Zq]
   exact YD.append_right rest
  ·obtain⟨g',r1,r2⟩:=h3 H' d' f' t (fun a ha=>k a (Ze _ ha)) r
   refine⟨f++g',.cons (h.move t fun a ha=>k a (Zo _ ha)) r1,?_⟩
   refine(r2.append_left f).trans ?_
   rw [<-Zq,<-Zq]
   exact YD.append_right rest
theorem zt2{b:Addr}{g f1 fd rest rest1:List Addr}(k2:g.Perm (f1++rest1))(m3:f1.Perm (fd++rest)):(b::g).Perm (fd++b::(rest++rest1)):=by
 refine((k2.trans (m3.append_right rest1)).cons b).trans ?_
 rw [Zq]
 exact List.perm_middle.symm
def Foc(K:tz0)(κ:tz9)(H:Hp){α:Type}(h:D->Option (α×D))(r:α)(v v0:V)(d0':D)(fp:List Addr):Prop:=∃d d' fd rest,Rep K κ H v d fd/\h d=some (r,d')/\fp.Perm (fd++rest)/\
  ∀(H':Hp) (f':List Addr),(∀a o,H a=some o->tf o=true->H' a=some o)->(∀a∈rest,H' a=H a)->Rep K κ H' v d' f'->∃fp',Rep K κ H' v0 d0' fp'/\fp'.Perm (f'++rest)
theorem focus{α:Type}{h:D->Option (α×D)}{r:α}{p:List Ps1}:∀{v0 v:V} {d0 d0':D} {fp:List Addr},Rep K κ H v0 d0 fp->gC h d0 p=some (r,d0')->At H v0 p v->Foc K κ H h r v v0 d0' fp:=by
 induction p with
 |nil=>
  intro v0 v d0 d0' fp R e a
  rw [gC] at e
  cases(show v=v0 from a)
  exact⟨d0,d0',fp,[],R,e,by rw [Zl],fun H' f' t k r=>⟨f',r,by rw [Zl]⟩⟩
 | cons s p ih=>
  intro v0 v d0 d0' fp R e a
  have deep:∀(b:Addr) (vs:List V) (xs:List D) (n:Nat) (d1 d2:D) (v1:V) (g:List Addr),fp=b::g->Reps K κ H vs xs g->xs[n]? =some d1->vs[n]? =some v1->gC h d1 p=some (r,d2)->At H v1 p v->(∀(H':Hp) (g2:List Addr),H' b=H b->Reps K κ H' vs (xs.set n d2) g2->Rep K κ H' v0 d0' (b::g2))->
    Foc K κ H h r v v0 d0' fp:=fun b vs xs n d1 d2 v1 g ef hs h1 e3 h3 e4 mk=>by
   subst ef
   obtain⟨f1,rest1,k1,k2,k3⟩:=hs.focus h1 e3
   obtain⟨d,d',fd,rest,m1,m2,m3,m4⟩:=ih k1 h3 e4
   refine⟨d,d',fd,b::(rest++rest1),m1,m2,zt2 k2 m3,fun H' f' t k rr=> ?_⟩
   obtain⟨g1,q1,q2⟩:=m4 H' f' t (fun a ha=>k a (Z1 _ (Zo _ ha))) rr
   obtain⟨g2,q3,q4⟩:=k3 H' d2 g1 t (fun a ha=>k a (Z1 _ (Ze _ ha))) q1
   exact⟨b::g2,mk H' g2 (k b Z0) q3,zt2 q4 q2⟩
  cases s with
  |ix n=>
   obtain⟨b,vs,v1,e1,e2,e3,e4⟩:=a
   subst e1
   obtain⟨xs,d1,d2,rfl,h1,h3,rfl⟩:=yl2 e
   obtain⟨_,_,g,e5,hb,hs,ef⟩:=R.lstT_inv
   cases e5
   rw [e2] at hb;cases hb
   exact deep b vs xs n d1 d2 v1 g ef hs h1 e3 h3 e4 fun H' g2 k q3=> .lst (k.trans e2) q3
  |fld f=>
   obtain⟨b,C,dx,fs,n,v1,e1,e2,e2',e3,e4⟩:=a
   subst e1
   obtain⟨C',ns,xs,n',d1,d2,rfl,h0,h1,h3,rfl⟩:=yb5 e
   obtain⟨_,_,_,g,e5,hb,hn,hs,ef⟩:=R.objT_inv
   cases e5
   rw [e2] at hb;cases hb
   subst hn
   rw [e2'] at h0;cases h0
   exact deep b _ xs n d1 d2 v1 g ef hs h1 e3 h3 e4 fun H' g2 k q3=> .obj (k.trans e2) rfl q3
end
theorem wB(R:RS φ H σ ps F)(s1:SameK H H1)(hb:φ.bor j=false)(e0:ps[j]? =some (some d0))(ev:σ[j]? =some (some v0))
  (em:gC h d0 p=some (r,d0')) (at_:At H1 v0 p v):∃d d' fd,Rep φ.K φ.κ H1 v d fd/\h d=some (r,d')/\fd.Nodup/\(∀a∈fd,a∈F j)/\
  ∀(H':Hp) (fd' fr:List Addr),(∀a o,H1 a=some o->kd o=true->a∉fd->H' a=some o)->(∀a,H' a=none->H1 a=none)->Rep φ.K φ.κ H' v d' fd'->(fd'++fr).Nodup->(∀a∈fd'++fr,a∈fd\/H a=none)->
   ∃F',Stp φ σ H F σ H' (ps.set j (some d0')) F'/\OwnV F H F' fr:=by
 obtain⟨v0',fp,h1,h2,h3,_⟩:=R.rep j d0 e0
 rw [ev] at h1;cases h1
 have h3:=h3 hb
 subst h3
 obtain⟨d,d',fd,rest,m1,m2,m3,m4⟩:=focus (h2.same s1) em at_
 have ndF:=R.nd j
 have ndp:(fd++rest).Nodup:=m3.nodup_iff.mp ndF
 obtain⟨nd1,nd2,nd3⟩:=ZA.mp ndp
 have inF:∀a,a∈fd\/a∈rest->a∈F j:=fun a ha=>m3.mem_iff.mpr (Zn.mpr ha)
 refine⟨d,d',fd,m1,m2,nd1,fun a ha=>inF a (.inl ha),fun H' fd' fr k1 k2 k3 k4 k5=> ?_⟩
 have tfk:∀a o,H1 a=some o->tf o=true->H' a=some o:=fun a o ha t=>k1 a o ha (lN t) fun hm=>by
  obtain⟨o',q,_,q'⟩:=m1.own a hm
  rw [ha] at q;cases q;rw [t] at q';cases q'
 have keepO:∀a,(∃i,a∈F i)->a∉fd->H' a=H1 a:=fun a ⟨i,hi⟩ hn=>by
  obtain⟨o,q,q',_⟩:=R.own hi
  have q1:=s1.keep a o q q'
  rw [q1];exact k1 a o q1 q' hn
 have notfd:∀a,a∈rest->a∉fd:=fun a hr hf=>nd3 a hf a hr rfl
 obtain⟨fp',r1,r2⟩:=m4 H' fd' tfk (fun a ha=>keepO a ⟨j,inF a (.inr ha)⟩ (notfd a ha)) k3
 obtain⟨kd1,kd2,kd3⟩:=ZA.mp k4
 have memfp:∀a,a∈fp'->a∈fd'\/a∈rest:=fun a ha=>Zn.mp (r2.mem_iff.mp ha)
 have lt:j<ps.length:=(Z4.mp e0).1
 have old:∀a,a∈fd'++fr->∀i,a∈F i->a∈fd:=fun a ha i hi=>(k5 a ha).elim id fun z=>by
  obtain⟨o,q,_⟩:=R.own hi
  rw [z] at q;cases q
 refine⟨mU F j fp',⟨⟨fun a o ha hk hn=> ?_,fun a ha=>s1.grow a (k2 a ha)⟩,fun i a ha=> ?_,⟨fun i d2 hi=> ?_,fun i a ha=> ?_,fun i k a ha hk=> ?_,fun i=> ?_,fun i a ha kk hB=> ?_,fun kk a hB z=>R.bt kk a hB (s1.grow a (k2 a z)),by simpa using R.len⟩,fun _ _=>rfl⟩,⟨fun a ha=> ?_,kd2,fun i a ha hr=> ?_⟩⟩
 ·exact k1 a o (s1.keep a o ha hk) hk fun hm=>hn j (inF a (.inl hm))
 ·rcases gZ ha with z|z
  ·rcases memfp a z with z|z
   ·exact(k5 a (Zo _ z)).elim (fun z=> .inl ⟨j,inF a (.inl z)⟩) .inr
   ·exact .inl ⟨j,inF a (.inr z)⟩
  ·exact .inl ⟨i,z⟩
 ·by_cases e:i=j
  ·subst e
   rw [Zw lt] at hi
   cases hi
   exact⟨v0,fp',ev,r1,fun _=>dA.symm,fun z=>by rw [hb] at z;cases z⟩
  ·rw [Zt (fun z=>e z.symm)] at hi
   obtain⟨v2,f2,q1,q2,q3,q4⟩:=R.rep i d2 hi
   refine⟨v2,f2,q1,(q2.same s1).move tfk fun a ha=> ?_,fun z=>by rw [cX e];exact q3 z,q4⟩
   obtain⟨o,w1,w2,_⟩:=q2.own a ha
   have w3:=s1.keep a o w1 w2
   rw [w3]
   refine k1 a o w3 w2 fun hm=> ?_
   have hF:=inF a (.inl hm)
   cases hbi:φ.bor i with
   |true=>exact R.nb j a hF i (q4 hbi a ha)
   |false=>rw [q3 hbi] at ha;exact e (R.dis i j a ha hF)
 ·by_cases e:i=j
  ·subst e;exact⟨hb,d0',by rw [Zw lt]⟩
  ·rw [cX e] at ha
   obtain⟨b1,d1,b2⟩:=R.emp i a ha
   exact⟨b1,d1,by rw [Zt (fun z=>e z.symm)];exact b2⟩
 ·have hh:∀a,a∈fp'->∀i,i≠j->a∈F i->False:=fun a ha i hij hi=>by
   rcases memfp a ha with z|z
   ·exact hij (R.dis i j a hi (inF a (.inl (old a (Zo _ z) i hi))))
   ·exact hij (R.dis i j a hi (inF a (.inr z)))
  by_cases e1:i=j
  ·by_cases e2:k=j
   ·rw [e1,e2]
   ·subst e1;rw [dA] at ha;rw [cX e2] at hk;exact(hh a ha k e2 hk).elim
  ·by_cases e2:k=j
   ·subst e2;rw [dA] at hk;rw [cX e1] at ha;exact(hh a hk i e1 ha).elim
   ·rw [cX e1] at ha;rw [cX e2] at hk;exact R.dis i k a ha hk
 ·by_cases e:i=j
  ·subst e
   rw [dA]
   refine r2.nodup_iff.mpr (ZA.mpr ⟨kd1,nd2,fun a ha b hb' e=> ?_⟩)
   subst e
   exact notfd a hb' (old a (Zo _ ha) i (inF a (.inr hb')))
  ·rw [cX e];exact R.nd i
 ·rcases gZ ha with z|z
  ·rcases memfp a z with z|z
   ·exact R.notB ((k5 a (Zo _ z)).elim (fun z=> .inl ⟨j,inF a (.inl z)⟩) .inr) kk hB
   ·exact R.nb j a (inF a (.inr z)) kk hB
  ·exact R.nb i a z kk hB
 ·exact(k5 a (Ze _ ha)).elim (fun z=> .inl ⟨j,inF a (.inl z)⟩) .inr
 ·rcases gZ ha with z|z
  ·rcases memfp a z with z|z
   ·exact kd3 a z a hr rfl
   ·exact notfd a z (old a (Ze _ hr) j (inF a (.inr z)))
  ·have:=old a (Ze _ hr) i z
   by_cases e:i=j
   ·subst e
    rw [dA] at ha
    rcases memfp a ha with w|w
    ·exact kd3 a w a hr rfl
    ·exact notfd a w this
   ·exact e (R.dis i j a z (inF a (.inl this)))
def oP(K:tz0)(κ:tz9)(j:Nat)(pf:PSt->Option (List Ps1)):TE:=fun σ H Q=>∃ps p d0 d,WS K κ H σ ps/\ps[j]? =some (some d0)/\pf ps=some p/\kJ d0 p=some d/\∀v H' v0,SameK H H'->σ[j]? =some (some v0)->At H' v0 p v->Q v H'
theorem zg3{K:tz0}{κ:tz9}{H:Hp}{v0 v:V}{d0 d:D}{fp:List Addr}{p:List Ps1}(R:Rep K κ H v0 d0 fp)(g:kJ d0 p=some d)(a:At H v0 p v):∃fd,Rep K κ H v d fd:=by
 have key:∀{p:List Ps1} {v0 v:V} {d0 d:D} {fp:List Addr},Rep K κ H v0 d0 fp->kJ d0 p=some d->At H v0 p v->∃fd,Rep K κ H v d fd:=by
  intro p
  induction p with
  |nil=>intro v0 v d0 d fp R g a;cases g;cases(show v=v0 from a);exact⟨fp,R⟩
  | cons s p ih=>
   intro v0 v d0 d fp R g a
   cases s with
   |ix n=>
    obtain⟨b,vs,v1,e1,e2,e3,e4⟩:=a
    subst e1
    obtain⟨xs,d1,rfl,h1,h2⟩:=zo6 g
    obtain⟨_,_,_,e5,hb,hs,_⟩:=R.lstT_inv
    cases e5
    rw [e2] at hb;cases hb
    obtain⟨v',f,q1,q2,_⟩:=hs.get h1
    rw [e3] at q1;cases q1
    exact ih q2 h2 e4
   |fld f=>
    obtain⟨b,C,dx,fs,n,v1,e1,e2,e2',e3,e4⟩:=a
    subst e1
    obtain⟨C',ns,xs,n',d1,rfl,h0,h1,h2⟩:=zg2 g
    obtain⟨_,_,_,_,e5,hb,hn,hs,_⟩:=R.objT_inv
    cases e5
    rw [e2] at hb;cases hb
    subst hn
    rw [e2'] at h0;cases h0
    obtain⟨v',f,q1,q2,_⟩:=hs.get h1
    rw [e3] at q1;cases q1
    exact ih q2 h2 e4
 exact key R g a
def bQ:PSt->Option (List Ps1):=fun _=>some []
def dW(j:Nat)(pf:PSt->Option (List Ps1))(fb:tz2):PSt->Option (List Ps1):=fun ps=>(pf ps).bind fun p=>((ps[j]?).join).bind fun d0=>(kJ d0 p).bind fun d=>(fb ps).bind fun y=>match d,y with
 | .lst true xs,.int i=>(ixN xs.length i).bind fun n=>some (p++[.ix n])
 |_,_=>none
def zy4(j:Nat)(pf:PSt->Option (List Ps1))(C f:Str):PSt->Option (List Ps1):=fun ps=>(pf ps).bind fun p=>((ps[j]?).join).bind fun d0=>(kJ d0 p).bind fun d=>match d with
 | .obj true C' _ _=>if C'=C then some (p++[.fld f]) else none
 |_=>none
theorem tM:∀{fs:List (Str×V)} {f:Str} {n:Nat} {v:V},cJ (fs.map (·.1)) f=some n->(fs.map (·.2))[n]? =some v->fs.lookup f=some v
 |[],_,_,_,h,_=>by cases h
 | (g,u)::fs,f,n,v,h,hv=>by
  rw [Z8,cJ] at h
  by_cases e:g=f
  ·rw [if_pos e] at h
   cases h
   rw [Zz]
   have:(f==g)=true:=by simp [e]
   rw [this]
   simpa using hv
  ·rw [if_neg e] at h
   cases q:cJ (fs.map (·.1)) f with
   |none=>rw [q] at h;cases h
   |some m=>
    rw [q] at h;cases h
    rw [Zz]
    have:(f==g)=false:=by simp;exact fun z=>e z.symm
    rw [this]
    exact tM q (by simpa using hv)
section
variable{X:Cx}{φ:F0}{κ:tz9}{K:tz0}{o e a b:Expr}{f fb fe:tz2}{g:tz3}{pf:PSt->Option (List Ps1)}{j:Nat}{pos apos:Pos}
theorem bM(j:Nat){x:Str}(hN:X.N[j]? =some x:=by rfl)(hv:Vis X.env.scope x:=by first|exact Or.inl rfl|exact Or.inr (Or.inl rfl)|exact Or.inr (Or.inr rfl))(hd:NDb x:=by decide)
  (hcd:(x==("__classdict__":Str))=false:=by decide):PE X (.Name x pos) (oP K κ j bQ):=(tF hN hv hd hcd).imp fun σ H Q hh_=>by
 obtain⟨ps,p,d0,d,w,e0,ep,eg,q⟩:=hh_
 cases ep
 obtain⟨v,fp,h1,h2⟩:=w j d0 e0
 exact⟨v,h1,q v H v (.refl H) h1 rfl⟩
theorem nN(ha:PE X a (oP X.K κ j pf))(hb:QV X κ b fb)(hs:zd7 b:=by exact fun _ _=>rfl):PE X (.Subscript a b pos) (oP X.K κ j (dW j pf fb)):=
 (zx4 zo2 ha hb hs).imp fun σ H Q hh_=>by
  obtain⟨ps,p,d0,d,w,e0,ep,eg,q⟩:=hh_
  obtain⟨p1,e1,e2⟩:=bind_some ep
  obtain⟨d0',e3,e4⟩:=bind_some e2
  have:=join_some e3
  rw [e0] at this;cases this
  obtain⟨d1,e5,e6⟩:=bind_some e4
  obtain⟨y,e7,e8⟩:=bind_some e6
  split at e8
  ·rename_i xs i
   obtain⟨n,e9,e10⟩:=bind_some e8
   cases e10
   refine⟨ps,p1,d0,_,w,e0,e1,e5,fun v H1 v0 s1 ev a1=>⟨ps,_,w.same s1,e7,fun u H2 fq s2 r2=> ?_⟩⟩
   obtain⟨v0',fp,h1,h2⟩:=w j d0 e0
   rw [ev] at h1;cases h1
   obtain⟨fd,rd⟩:=zg3 (h2.same (s1.trans s2)) e5 (a1.same s2)
   obtain⟨l,vs,g,rfl,hl,hr,_⟩:=rd.lstT_inv
   have ln:=hr.length
   have hn:=(zc4 e9).2.1
   obtain⟨v1,hv⟩:∃v1,vs[n]? =some v1:=⟨_,Zm (by rw [ln];exact hn)⟩
   refine⟨l,vs,i,v1,rfl,r2.is_int,.inl (.inl hl),?_,q _ H2 v0 (s1.trans s2) ev (At.snoc_ix hl hv (a1.same s2))⟩
   unfold atI
   rw [ln,e9];exact hv
  ·cases e8
theorem zt3{C fn:Str}(hc:Cls X.K (κ C))(hna:bZ X.K (κ C) fn)(ha:PE X a (oP X.K κ j pf))(hb:attributeBase a fn X.env (eval a X.env)=eval a X.env:=by rfl):PE X (.Attribute a fn pos) (oP X.K κ j (zy4 j pf C fn)):=
 (wc1 ha hb).imp fun σ H Q hh_=>by
  obtain⟨ps,p,d0,d,w,e0,ep,eg,q⟩:=hh_
  obtain⟨p1,e1,e2⟩:=bind_some ep
  obtain⟨d0',e3,e4⟩:=bind_some e2
  have:=join_some e3
  rw [e0] at this;cases this
  obtain⟨d1,e5,e6⟩:=bind_some e4
  split at e6
  ·rename_i C' ns xs
   obtain⟨hC,e7⟩:=bK e6
   subst hC
   cases e7
   refine⟨ps,p1,d0,_,w,e0,e1,e5,fun v H1 v0 s1 ev a1=> ?_⟩
   obtain⟨v0',fp,h1,h2⟩:=w j d0 e0
   rw [ev] at h1;cases h1
   obtain⟨fd,rd⟩:=zg3 (h2.same s1) e5 a1
   have key:∀{p:List Ps1} {d0:D},kJ d0 p=some (.obj true C' ns xs)->kJ d0 (p++[.fld fn])=some d->∃n d',cJ ns fn=some n/\xs[n]? =some d':=by
    intro p
    induction p with
    |nil=>
     intro d0 h1 h2
     cases h1
     obtain⟨n,k1,k2⟩:=bind_some h2
     obtain⟨d',k3,_⟩:=bind_some k2
     exact⟨n,d',k1,k3⟩
    | cons s p ih=>
     intro d0 h1 h2
     cases s with
     |ix m=>
      obtain⟨ys,x1,rfl,k1,k2⟩:=zo6 h1
      obtain⟨_,x2,z,k3,k4⟩:=zo6 h2
      cases z
      rw [k1] at k3;cases k3
      exact ih k2 k4
     |fld f'=>
      obtain⟨C2,ns2,ys,m1,x1,rfl,k0,k1,k2⟩:=zg2 h1
      obtain⟨_,_,_,m2,x2,z,k5,k3,k4⟩:=zg2 h2
      cases z
      rw [k0] at k5;cases k5
      rw [k1] at k3;cases k3
      exact ih k2 k4
   obtain⟨n,d',k1,k2⟩:=key e5 eg
   obtain⟨l,dx,fs,g,rfl,hl,hn,hr,_⟩:=rd.objT_inv
   subst hn
   obtain⟨v1,f1,k3,_⟩:=hr.get k2
   exact⟨l,κ C',dx,fs,v1,rfl,hl,hc,hna,tM k1 k3,q _ H1 v0 s1 ev (At.snoc_fld hl k1 k3 a1)⟩
  ·cases e6
def cZ(j:Nat)(pf:PSt->Option (List Ps1))(g:tz3)(h:List D->D->Option (D×D)):tz8:=fun ps=>((ps[j]?).join).bind fun d0=>(pf ps).bind fun p=>(g ps).bind fun ys=>(gC (h ys) d0 p).bind fun r=>some (r.1,ps.set j (some r.2))
theorem zK(e:cZ j pf g h ps=some (d,ps')):∃d0 p ys d0',ps[j]? =some (some d0)/\pf ps=some p/\g ps=some ys/\gC (h ys) d0 p=some (d,d0')/\ps'=ps.set j (some d0'):=by
 obtain⟨d0,e1,e2⟩:=bind_some e
 obtain⟨p,e3,e4⟩:=bind_some e2
 obtain⟨ys,e5,e6⟩:=bind_some e4
 obtain⟨⟨r,d0'⟩,e7,e8⟩:=bind_some e6
 cases e8
 exact⟨d0,p,ys,d0',join_some e1,e3,e5,e7,rfl⟩
def dX:List D->D->Option (D×D)
 |[y],.lst true xs=>if xs.length<sizeLine then some (.non,.lst true (xs++[y])) else none
 |_,_=>none
theorem zL(h:dX ys d=some (r,d')):∃y xs,ys=[y]/\d= .lst true xs/\xs.length<sizeLine/\r= .non/\d'= .lst true (xs++[y]):=by
 unfold dX at h
 split at h
 ·obtain⟨hc,e⟩:=bK h
  cases e
  exact⟨_,_,rfl,rfl,hc,rfl,rfl⟩
 ·cases h
theorem zo7(w:WS K κ H σ ps)(s1:SameK H H1)(e0:ps[j]? =some (some d0))(ev:σ[j]? =some (some v0))(g:kJ d0 p=some d)(a:At H1 v0 p v):∃fd,Rep K κ H1 v d fd:=by
 obtain⟨v0',fp,h1,h2⟩:=w j d0 e0
 rw [ev] at h1;cases h1
 exact zg3 (h2.same s1) g a
theorem lQ(hb:φ.bor j=false)(ho:PE X o (oP X.K κ j pf))(ha:PA X [e] (tPA X.K κ g))
  (hbase:attributeBase o "append" X.env (eval o X.env)=eval o X.env:=by rfl)
  (hfew:((backTo pos (starEach [e] X.env)).all (fun x=> !x.1)&&(backToKw pos (keywordEach [] X.env)).all (fun x=>x.1.isSome)
   &&decide ([e].length+([]:List Keyword).length+(if ([]:List Keyword).isEmpty then 0 else 1)<30))=true:=by rfl)
  (hline:(apos.endLine==pos.line)=true:=by rfl) (hs:starEach [e] X.env=(false,eval e X.env)::starEach [] X.env:=by rfl) (hplain:(backTo pos (starEach [] X.env)).any (·.1)=false:=by rfl):
  QE X κ φ (.Call (.Attribute o "append" apos) [e] [] pos) (cZ j pf g dX):=
 (xr0 XW PySem.F.slot_list_append PySem.F.type_list_append zs4 ho ha hbase hfew hline hs hplain).imp fun σ H Q hh_=>by
  obtain⟨ps,F,d,ps',R,e,q⟩:=hh_
  obtain⟨d0,p,ys,d0',e0,ep,eg,em,rfl⟩:=zK e
  obtain⟨dd,dn,gp,hh⟩:=nM em
  refine⟨ps,p,d0,dd,R.ws,e0,ep,gp,fun v H1 v0 s1 ev a1=>⟨?_,ps,ys,R.ws.same s1,eg,fun vs H2 fy s2 n2 nd2 r2=> ?_⟩⟩
  ·obtain⟨y,xs,rfl,rfl,_⟩:=zL hh
   obtain⟨fd,rd⟩:=zo7 R.ws s1 e0 ev gp a1
   obtain⟨_,_,_,rfl,hl,hr,rfl⟩:=rd.lstT_inv
   exact .inl ⟨rfl,_,.inl (.inl hl)⟩
  ·obtain⟨d1,d1',fd,m1,m2,m3,m4,m5⟩:=wB R (s1.trans s2) hb e0 ev em (a1.same s2)
   obtain⟨y,xs,rfl,rfl,hz,rfl,rfl⟩:=zL m2
   obtain⟨u,rfl,ru⟩:=r2.one_inv
   obtain⟨l,us,g1,rfl,hl,hr,rfl⟩:=m1.lstT_inv
   have ln:=hr.length
   refine⟨l,us,u,rfl,rfl,hl,by omega,?_⟩
   have nl:l∉fy:=fun z=>by have:=n2 l z;have:=s1.keep l;obtain⟨o,h1,h2,_⟩:=R.own (m4 l Z0);have:=s1.keep l o h1 h2;rw [n2 l z] at this;cases this
   obtain⟨nl2,nd3⟩:=Zs.mp m3
   have up:∀a,a≠l->upd H2 l (.lst (us++[u])) a=H2 a:=fun a h=>bE h
   have tfk:∀a o,H2 a=some o->tf o=true->upd H2 l (.lst (us++[u])) a=some o:=fun a o h t=>by
    rw [up a]
    ·exact h
    ·rintro rfl;rw [hl] at h;cases h;cases t
   obtain⟨F',st,ow⟩:=m5 (upd H2 l (.lst (us++[u]))) (l::(g1++fy)) [] (fun a o h _ hn=>by rw [up a (fun z=>hn (z▸Z0))];exact h)
    (fun a h=>by
     by_cases z:a=l
     ·subst z;rw [cV] at h;cases h
     ·rw [up a z] at h;exact h)
    (.lst cV (Reps.append (hr.move tfk fun a ha=>up a fun z=>nl2 (z▸ha)) (Reps.one (ru.move tfk fun a ha=>up a fun z=>nl (z▸ha)))))
    (by
     rw [Zl,Zs,ZA]
     refine⟨fun z=>(Zn.mp z).elim nl2 nl,nd3,nd2,fun a ha b hb e=> ?_⟩
     subst e
     obtain⟨o,h1,h2,_⟩:=R.own (m4 a (Z1 _ ha))
     have:=s1.keep a o h1 h2
     rw [n2 a hb] at this;cases this)
    (fun a ha=>by
     rw [Zl] at ha
     rcases Z3.mp ha with z|z
     ·exact .inl (z▸Z0)
     ·rcases Zn.mp z with z|z
      ·exact .inl (Z1 _ z)
      ·exact .inr (s1.grow a (n2 a z)))
   exact q .non _ F' [] st ow .non
end
section
variable{K:tz0}{κ:tz9}{H:Hp}{l:Addr}{o0 o:HO}
theorem xa1(hl:H l=some o0)(ht:tf o0=false):∀a u,H a=some u->tf u=true->upd H l o a=some u:=fun a u h t=>by
 rw [bE]
 ·exact h
 ·rintro rfl;rw [hl] at h;cases h;rw [ht] at t;cases t
theorem Rep.updL(r:Rep K κ H v d g)(hl:H l=some o0)(ht:tf o0=false)(n:l∉g):Rep K κ (upd H l o) v d g:=r.move (xa1 hl ht) fun a ha=>bE fun z=>n (z▸ha)
theorem Reps.updL(r:Reps K κ H v d g)(hl:H l=some o0)(ht:tf o0=false)(n:l∉g):Reps K κ (upd H l o) v d g:=r.move (xa1 hl ht) fun a ha=>bE fun z=>n (z▸ha)
theorem xB(h:H a=some u)(n:a∉l::g):upd H l o a=some u:=by
 rw [bE (fun z=>n (by rw [z];exact Z0))];exact h
theorem pK(h:upd H l o a=none):H a=none:=by
 by_cases z:a=l
 ·subst z;rw [cV] at h;cases h
 ·rw [bE z] at h;exact h
theorem Reps.pop:∀{vs:List V} {ds:List D} {g:List Addr} {d:D},Reps K κ H vs ds g->ds[ds.length-1]? =some d->∃v g1 f,vs[vs.length-1]? =some v/\Rep K κ H v d f/\Reps K κ H vs.dropLast ds.dropLast g1/\g=g1++f
 |_,_,_,_,.nil,e=>by simp at e
 |_,[d1],_,d,.cons (f:=f) h .nil,e=>by
  have e':d1=d:=by simpa using e
  subst e'
  exact⟨_,[],f,by simp,h,.nil,by simp⟩
 |v::v2::vs,d1::d2::ds,_,d,.cons (f:=f) h (.cons (f:=f2) (g:=g2) h2 hs),e=>by
  obtain⟨w,g1,f',k1,k2,k3,k4⟩:=Reps.pop (.cons h2 hs) (d:=d) (by simpa using e)
  refine⟨w,f++g1,f',by simpa using k1,k2,?_,by rw [Zq,<-k4]⟩
  rw [Wi,Wi]
  exact .cons h k3
theorem Reps.setV:∀{vs:List V} {ds:List D} {g:List Addr} {n:Nat} {v':V} {d':D} {f':List Addr},Reps K κ H vs ds g->n<ds.length->Rep K κ H v' d' f'->∃f1 rest g',g.Perm (f1++rest)/\Reps K κ H (vs.set n v') (ds.set n d') g'/\g'.Perm (f'++rest)
 |_,_,_,_,_,_,_,.nil,e,_=>by simp at e
 |_,_,_,0,_,_,f',.cons (f:=f) (g:=g) h hs,_,r=>⟨f,g,f'++g,.refl _,.cons r hs,.refl _⟩
 | _,_,_,n+1,_,_,f',.cons (f:=f) (g:=g) h hs,e,r=>by
  obtain⟨f1,rest,g',h1,h2,h3⟩:=Reps.setV (n:=n) hs (by simpa using e) r
  refine⟨f1,f++rest,f++g',?_,.cons h h2,?_⟩
  ·refine(h1.append_left f).trans ?_
   rw [<-Zq,<-Zq]
   exact YD.append_right rest
  ·refine(h3.append_left f).trans ?_
   rw [<-Zq,<-Zq]
   exact YD.append_right rest
end
section
variable{X:Cx}{φ:F0}{κ:tz9}{K:tz0}{o e a b:Expr}{f fi fe:tz2}{g:tz3}{pf:PSt->Option (List Ps1)}{j:Nat}{pos apos:Pos}
def vT:List D->D->Option (D×D)
 |[],.lst true xs=>(xs[xs.length-1]?).bind fun y=>some (y,.lst true xs.dropLast)
 |_,_=>none
theorem zt4(h:vT ys d=some (r,d')):∃xs,ys=[]/\d= .lst true xs/\xs[xs.length-1]? =some r/\d'= .lst true xs.dropLast:=by
 unfold vT at h
 split at h
 ·obtain⟨y,h1,h2⟩:=bind_some h
  cases h2
  exact⟨_,rfl,rfl,h1,rfl⟩
 ·cases h
theorem we3(hb:φ.bor j=false)(ho:PE X o (oP X.K κ j pf))
  (hbase:attributeBase o "pop" X.env (eval o X.env)=eval o X.env:=by rfl) (hline:(apos.endLine==pos.line)=true:=by rfl):QE X κ φ (.Call (.Attribute o "pop" apos) [] [] pos) (cZ j pf aE vT):=
 (wc8 XW PySem.F.slot_list_pop PySem.F.type_list_pop wc9 ho hbase hline).imp fun σ H Q hh_=>by
  obtain⟨ps,F,d,ps',R,e,q⟩:=hh_
  obtain⟨d0,p,ys,d0',e0,ep,eg,em,rfl⟩:=zK e
  cases eg
  obtain⟨dd,dn,gp,hh⟩:=nM em
  refine⟨ps,p,d0,dd,R.ws,e0,ep,gp,fun v H1 v0 s1 ev a1=>⟨?_,?_⟩⟩
  ·obtain⟨xs,_,rfl,_⟩:=zt4 hh
   obtain⟨fd,rd⟩:=zo7 R.ws s1 e0 ev gp a1
   obtain⟨_,_,_,rfl,hl,hr,rfl⟩:=rd.lstT_inv
   exact .inl ⟨rfl,_,.inl (.inl hl)⟩
  ·obtain⟨d1,d1',fd,m1,m2,m3,m4,m5⟩:=wB R s1 hb e0 ev em a1
   obtain⟨xs,_,rfl,hx,rfl⟩:=zt4 m2
   obtain⟨l,us,g1,rfl,hl,hr,rfl⟩:=m1.lstT_inv
   obtain⟨u,g2,f2,k1,k2,k3,rfl⟩:=hr.pop hx
   obtain⟨nl,nd3⟩:=Zs.mp m3
   have n1:l∉g2:=fun z=>nl (Zo _ z)
   have n2:l∉f2:=fun z=>nl (Ze _ z)
   refine⟨l,us,u,rfl,rfl,hl,k1,?_⟩
   obtain⟨F',st,ow⟩:=m5 (upd H1 l (.lst us.dropLast)) (l::g2) f2 (fun a o h _ hn=>xB h hn)
    (fun a h=>pK h)
    (.lst cV (k3.updL hl rfl n1)) (by rw [ZS,Zs];exact⟨nl,nd3⟩) (fun a ha=> .inl ha)
   exact q u _ F' f2 st ow (k2.updL hl rfl n2)
def iA:D->D->D->Option (Unit×D)
 | .int i,y,.lst true xs=>(ixN xs.length i).bind fun n=>some ((),.lst true (xs.set n y))
 |_,_,_=>none
def iB(j:Nat)(pf:PSt->Option (List Ps1))(fi fe:tz2):tz1:=fun ps=>(fe ps).bind fun y=>((ps[j]?).join).bind fun d0=>(pf ps).bind fun p=>(fi ps).bind fun i=>(gC (iA i y) d0 p).bind fun r=>some (.nx,ps.set j (some r.2))
theorem yi6(h:iA i y d=some (r,d')):∃k xs n,i= .int k/\d= .lst true xs/\ixN xs.length k=some n/\d'= .lst true (xs.set n y):=by
 unfold iA at h
 split at h
 ·obtain⟨n,h1,h2⟩:=bind_some h
  cases h2
  exact⟨_,_,n,rfl,rfl,h1,rfl⟩
 ·cases h
theorem xk5(hb:φ.bor j=false)(he:PE X e (tP X.K κ fe))(ho:PE X o (oP X.K κ j pf))(hi:PE X i (tV X.K κ fi))(hs:swapsWithSole [.Subscript o i apos] e pos.line X.env=pure false:=by rfl)(hw:swappedStores [.Subscript o i apos] e X.env=pure none:=by rfl)
  (h1:(assignEach [.Subscript o i apos] X.env).map (·.2)=[assign (.Subscript o i apos) X.env]:=by rfl)
  (ha:∀v,assign (.Subscript o i apos) X.env v=(do
   let ov<-holding [v] (eval o X.env)
   let iv<-holding [v,ov] (eval i X.env)
   standAt apos
   holding [v,ov,iv] (setItem ov iv v)
   release [v,ov,iv] []):=by intro _;rfl):QS X κ φ (.Assign [.Subscript o i apos] e pos) (iB j pf fi fe):=
 (yw6 he (wb5 ho hi xj0 ha) hs hw h1).imp fun E σ H hh_=>by
  obtain⟨ps,F,fl,ps',R,e,q⟩:=hh_
  obtain⟨y,e1,e2⟩:=bind_some e
  obtain⟨d0,e3,e4⟩:=bind_some e2
  have e0:=join_some e3
  obtain⟨p,e5,e6⟩:=bind_some e4
  obtain⟨iv,e7,e8⟩:=bind_some e6
  obtain⟨⟨r,d0'⟩,em,e9⟩:=bind_some e8
  cases e9
  obtain⟨dd,dn,gp,hh⟩:=nM em
  refine⟨ps,y,R.ws,e1,fun v H1 fy s1 n1 nd1 ry=>⟨ps,p,d0,dd,R.ws.same s1,e0,e5,gp,fun lv H2 v0 s2 ev a2=>⟨ps,iv,(R.ws.same s1).same s2,e7,fun u H3 fu s3 r3=> ?_⟩⟩⟩
  have s13:=(s1.trans s2).trans s3
  obtain⟨d1,d1',fd,m1,m2,m3,m4,m5⟩:=wB R s13 hb e0 ev em (a2.same s3)
  obtain⟨k,xs,n,rfl,rfl,hn,rfl⟩:=yi6 m2
  obtain⟨l,us,g1,rfl,hl,hr,rfl⟩:=m1.lstT_inv
  have ln:=hr.length
  have ry3:=(ry.same s2).same s3
  obtain⟨nl,nd3⟩:=Zs.mp m3
  have own0:∀a∈l::g1,H a≠none:=fun a ha z=>by obtain⟨o,h,_⟩:=R.own (m4 a ha);rw [z] at h;cases h
  have nl2:l∉fy:=fun z=>own0 l Z0 (n1 l z)
  obtain⟨f1,rest,g2,k1,k2,k3⟩:=hr.setV (n:=n) (zc4 hn).2.1 ry3
  have mem2:∀a∈g2,a∈fy\/a∈g1:=fun a ha=>(Zn.mp (k3.mem_iff.mp ha)).elim .inl fun z=> .inr (k1.mem_iff.mpr (Ze _ z))
  have n2:l∉g2:=fun z=>(mem2 l z).elim nl2 nl
  refine⟨l,us,k,n,rfl,r3.is_int,hl,by rw [ln];exact hn,?_⟩
  obtain⟨F',st,ow⟩:=m5 (upd H3 l (.lst (us.set n v))) (l::g2) [] (fun a o h _ hn=>xB h hn)
   (fun a h=>pK h)
   (.lst cV (k2.updL hl rfl n2))
   (by
    rw [Zl,Zs]
    refine⟨n2,k3.nodup_iff.mpr (ZA.mpr ⟨nd1,?_,fun a ha b hb e=> ?_⟩)⟩
    ·exact(ZA.mp (k1.nodup_iff.mp nd3)).2.1
    ·subst e
     exact own0 a (Z1 _ (k1.mem_iff.mpr (Ze _ hb))) (n1 a ha))
   (fun a ha=>by
    rw [Zl] at ha
    rcases Z3.mp ha with z|z
    ·exact .inl (by rw [z];exact Z0)
    ·exact(mem2 a z).elim (fun z=> .inr (n1 a z)) fun z=> .inl (Z1 _ z))
  exact q _ _ F' st
end
section
variable{φ:Fx}{H H1:Hp}{σ σ1:St}{ps ps1:PSt}{F F1:Nat->List Addr}
theorem Stp.set'(s1:Stp φ σ H F σ1 H1 ps1 F1)(o:OwnV F H F1 fv)(R:RS φ H σ ps F)(r:Rep φ.K φ.κ H1 v d fv)(hb:φ.bor i=false\/fv=[])(hm:φ.M i=false):
  ∃F',Stp φ σ H F (σ1.set i (some v)) H1 (ps1.set i (some d)) F'/\∀k a,a∈F' k->a∈fv\/a∈F1 k:=by
 refine⟨_,⟨s1.fr,fun j a h=> ?_,s1.rs.set r hb (fun j _=>o.dis j) o.nd fun a ha=>R.notB (o.nw a ha),fun j h=> ?_⟩,fun k a h=> ?_⟩
 ·rcases gZ h with z|z
  ·by_cases k:i<ps1.length
   ·rw [if_pos k] at z;exact o.nw a z
   ·rw [if_neg k] at z;exact absurd z (by simp)
  ·exact s1.nw j a z
 ·rw [Zt (fun z=>by subst z;rw [hm] at h;cases h)]
  exact s1.msk j h
 ·rcases gZ h with z|z
  ·by_cases k:i<ps1.length
   ·rw [if_pos k] at z;exact .inl z
   ·rw [if_neg k] at z;exact absurd z (by simp)
  ·exact .inr z
def setN:St->List Nat->List V->St
 |σ,i::is,v::vs=>setN (σ.set i (some v)) is vs
 |σ,_,_=>σ
def vU:PSt->List Nat->List D->PSt
 |ps,i::is,d::ds=>vU (ps.set i (some d)) is ds
 |ps,_,_=>ps
def wQ:List Nat->TGs
 |[]=>wh5
 |i::is=>xs1 (sI i) (wQ is)
theorem uR:∀{is:List Nat} {vs:List V} {σ:St},vs.length=is.length->Q (setN σ is vs) H->wQ is vs σ H Q
 |[],[],σ,_,q=>⟨rfl,q⟩
 |i::is,v::vs,σ,h,q=>⟨v,vs,rfl,uR (is:=is) (by simpa using h) q⟩
 |[],_::_,_,h,_=>by simp at h
 |_::_,[],_,h,_=>by simp at h
theorem Stp.setN(R:RS φ H σ ps F):∀{is:List Nat} {vs:List V} {ds:List D} {g:List Addr} {σ1:St} {ps1:PSt} {F1:Nat->List Addr},Stp φ σ H F σ1 H1 ps1 F1->OwnV F H F1 g->Reps φ.K φ.κ H1 vs ds g->(∀i∈is,φ.bor i=false/\φ.M i=false)->
  ∃F',Stp φ σ H F (L2.setN σ1 is vs) H1 (vU ps1 is ds) F':=by
 intro is
 induction is with
 |nil=>intro vs ds g σ1 ps1 F1 s _ _ _;exact⟨F1,by simpa [L2.setN,vU] using s⟩
 | cons i is ih=>
  intro vs ds g σ1 ps1 F1 s o r hi
  cases ds with
  |nil=>cases r;exact⟨F1,by simpa [L2.setN,vU] using s⟩
  |cons d ds=>
   obtain⟨v,us,f,g',rfl,h,hs,rfl⟩:=r.split
   obtain⟨nd1,nd2,nd3⟩:=ZA.mp o.nd
   obtain⟨F2,s2,hF⟩:=s.set' (i:=i) (fv:=f) ⟨fun a ha=>o.nw a (Zo _ ha),nd1,fun k a ha hf=>o.dis k a ha (Zo _ hf)⟩ R h (.inl (hi i Z0).1) (hi i Z0).2
   refine ih s2 ⟨fun a ha=>o.nw a (Ze _ ha),nd2,fun k a ha hg=> ?_⟩ hs fun k hk=>hi k (Z1 _ hk)
   rcases hF k a ha with z|z
   ·exact nd3 a z a hg rfl
   ·exact o.dis k a z (Ze _ hg)
end
def yg4:D->Option (List D)
 | .lst _ ds=>some ds
 | .tup ds=>some ds
 |_=>none
def za7(is:List Nat)(f:tz8):tz1:=fun ps=>(f ps).bind fun r=>(yg4 r.1).bind fun ds=>if ds.length=is.length then some (.nx,vU r.2 is ds) else none
section
variable{X:Cx}{κ:tz9}{φ:F0}{es:List Expr}{pos p:Pos}{k:Nat}{is:List Nat}{e:Expr}{f:tz8}
theorem xa2(hc:X.calm=true)(h:PGs X es t)
  (hn:(assignEach es X.env).length=n:=by rfl) (hst:(assignEach es X.env).findIdx? (·.1)=none:=by rfl):PG X (.Tuple es k pos) (fun v σ H Q=>xp8 X.K n t v σ H Q\/xp3 X.K n t v σ H Q):=⟨by
 intro pins s σ H v u Q I r hw
 rcases hw with hw|hw
 ·exact wd7 hc h hn hst pins s σ H v u Q I r hw
 ·exact wb4 hc h hn hst pins s σ H v u Q I r hw⟩
theorem xa3(hc:X.calm=true)(hg:PGs X es (wQ is))(he:QE X κ φ e f)(hb:∀i∈is,φ.bor i=false/\φ.M i=false)(hn:(assignEach es X.env).length=is.length:=by rfl)(hst:(assignEach es X.env).findIdx? (·.1)=none:=by rfl)
  (hs:swapsWithSole [.Tuple es k p] e pos.line X.env=pure false:=by rfl) (hw:swappedStores [.Tuple es k p] e X.env=pure none:=by rfl)
  (h1:(assignEach [.Tuple es k p] X.env).map (·.2)=[assign (.Tuple es k p) X.env]:=by rfl):QS X κ φ (.Assign [.Tuple es k p] e pos) (za7 is f):=
 (yw6 he (xa2 (n:=is.length) hc hg hn hst) hs hw h1).imp fun E σ H hh_=>by
  obtain⟨ps,F,fl,ps',R,e,q⟩:=hh_
  obtain⟨⟨d,ps1⟩,e1,e2⟩:=bind_some e
  obtain⟨ds,e3,e4⟩:=bind_some e2
  obtain⟨hl,e5⟩:=bK e4
  cases e5
  refine⟨ps,F,d,ps1,R,e1,fun v H' F' fv s o r=> ?_⟩
  cases d with
  |lst ow xs=>
   cases e3
   obtain⟨a,vs,g,rfl,h,hs,sub⟩:=r.lst_inv
   have ln:=hs.length
   obtain⟨F2,s2⟩:=Stp.setN R s ⟨fun a ha=>o.nw a (sub.subset ha),o.nd.sublist sub,fun k a ha hg=>o.dis k a ha (sub.subset hg)⟩ hs hb
   exact .inl ⟨a,vs,rfl,.inl h,by omega,uR (by omega) (q _ _ F2 s2)⟩
  |tup xs=>
   cases e3
   obtain⟨a,vs,rfl,h,hs⟩:=r.tup_inv
   have ln:=hs.length
   obtain⟨F2,s2⟩:=Stp.setN R s ⟨fun a ha=>absurd ha (by simp),Zk,fun k a ha hg=>absurd hg (by simp)⟩ hs hb
   exact .inr ⟨a,vs,rfl,h,by omega,uR (by omega) (q _ _ F2 s2)⟩
  |_=>cases e3
end
def D.key:D->Option Key
 | .int i=>some (.inl i)
 | .str x=>some (.inr x)
 |_=>none
theorem zo8{K:tz0}{κ:tz9}{H:Hp}{v:V}{d:D}{fp:List Addr}{k:Key}(r:Rep K κ H v d fp)(h:d.key=some k):v=kV k:=by
 cases r<;>first|(cases h;rfl)|cases h
def oQ:List Key->List D->Key->Option D
 |k::ks,d::ds,j=>if k=j then some d else oQ ks ds j
 |_,_,_=>none
def gQ:D->D->Option D
 | .dic _ ks ds,y=>y.key.bind fun k=>oQ ks ds k
 |_,_=>none
theorem yb6{K:tz0}{κ:tz9}{H:Hp}:∀{kvs:List (Key×V)} {ks:List Key} {ds:List D} {g:List Addr} {k:Key} {d:D},kvs.map (·.1)=ks->Reps K κ H (kvs.map (·.2)) ds g->oQ ks ds k=some d->∃v f,pR kvs k=some v/\Rep K κ H v d f/\f.Sublist g
 |[],_,_,_,_,_,e,r,h=>by subst e;cases r;cases h
 | (k0,v0)::kvs,_,_,_,k,d,e,.cons (f:=f) (g:=g) h hs,q=>by
  subst e
  rw [Z8,oQ] at q
  by_cases z:k0=k
  ·rw [if_pos z] at q
   cases q
   exact⟨v0,f,tK z,h,XR _ _⟩
  ·rw [if_neg z] at q
   obtain⟨v,f',q1,q2,q3⟩:=yb6 rfl hs q
   exact⟨v,f',by rw [tL z];exact q1,q2,q3.trans (XM _ _)⟩
theorem Rep.dic_inv{K:tz0}{κ:tz9}{H:Hp}{v:V}{o:Bool}{ks:List Key}{ds:List D}{fp:List Addr}(r:Rep K κ H v (.dic o ks ds) fp):∃a kvs g,v= .ref a/\Rd H a (.dK kvs)/\kvs.map (·.1)=ks/\Reps K κ H (kvs.map (·.2)) ds g/\g.Sublist fp:=by
 cases r with
 |dic h e hs=>exact⟨_,_,_,rfl,.inl h,e,hs,X1 _ _⟩
 |dicF h e hs=>exact⟨_,_,_,rfl,.inr ⟨_,h⟩,e,hs,.refl _⟩
section
variable{X:Cx}{κ:tz9}{a b:Expr}{fa fb:tz2}{pos:Pos}
theorem xv3{K:tz0}{H:Hp}{x y:V}{dx dy d:D}{fx fy:List Addr}{Q:VK}(r1:Rep K κ H x dx fx)(r2:Rep K κ H y dy fy)(e:gQ dx dy=some d)(q:∀v f,Rep K κ H v d f->f.Sublist fx->Q v H):∃a v,x= .ref a/\zr3 H a y (some v)/\Q v H:=by
 cases dx with
 |dic o ks ds=>
  obtain⟨k,e1,e2⟩:=bind_some e
  obtain⟨a,kvs,g,rfl,h,hk,hs,sub⟩:=r1.dic_inv
  obtain⟨v,f,q1,q2,q3⟩:=yb6 hk hs e2
  exact⟨a,v,rfl,.inl ⟨kvs,k,h,zo8 r2 e1,q1.symm⟩,q v f q2 (q3.trans sub)⟩
 |_=>cases e
theorem sV(hu:X.A.units+1<cLine)(ha:QV X κ a fa)(hb:QV X κ b fb)(hs:xp7 b:=by exact fun _ _=>rfl):QV X κ (.Subscript a b pos) (f2 gQ fa fb):=
 (xu6 hu ha hb hs).imp fun σ H Q hh_=>by
  obtain⟨ps,d,w,e,q⟩:=hh_
  obtain⟨x,y,e1,e2,e3⟩:=vX e
  exact⟨ps,x,w,e1,fun v H1 fp s1 r1=>⟨ps,y,w.same s1,e2,fun u H2 fq s2 r2=>xv3 (r1.same s2) r2 e3 fun v f r _=>q v H2 f (s1.trans s2) r⟩⟩
end
def fxE(K:tz0)(κ:tz9)(np:Nat)(m:Nat->Bool):Fx:=⟨K,κ,fun i=>decide (i<np)&& !m i,m,fun _ _=>False⟩
def f0E(np:Nat)(m:Nat->Bool):F0:=⟨fun i=>decide (i<np)&& !m i,m,fun _ _=>False⟩
def SpE(np:Nat)(K:tz0)(κ:tz9)(m:Nat->Bool)(g:tz7):Sp:=fun vs H Q _=>vs.length=np/\∃ds r ds' F,ds.length=np/\RS (fxE K κ np m) H (vs.map some) (ds.map some) F/\g ds=some (r,ds')/\
 ∀v H' F' fv,Stp (fxE K κ np m) (vs.map some) H F (vs.map some) H' (ds'.map some) F'->OwnV F H F' fv->Rep K κ H' v r fv->Q v H'
def zi0(m:Nat->Bool)(ps:PSt):Nat->List D->Option (List D)
 |_,[]=>some []
 |i,d::ds=>(if m i=true then(ps[i]?).join else some d).bind fun d'=>(zi0 m ps (i+1) ds).bind fun ds'=>some (d'::ds')
theorem zt5:∀{ds ds':List D} {i:Nat},zi0 m ps i ds=some ds'->ds'.length=ds.length/\∀(k:Nat) (d':D),ds'[k]? =some d'->(m (i+k)=true->ps[i+k]? =some (some d'))/\(m (i+k)=false->ds[k]? =some d')
 |[],_,_,e=>by cases e;exact⟨rfl,fun k d' h=>by simp at h⟩
 | d::ds,_,i,e=>by
  obtain⟨d1,e1,e2⟩:=bind_some e
  obtain⟨ds1,e3,e4⟩:=bind_some e2
  cases e4
  obtain⟨l,h⟩:=zt5 e3
  refine⟨by simp [l],fun k d' hk=> ?_⟩
  cases k with
  |zero=>
   simp at hk;subst hk
   refine⟨fun z=> ?_,fun z=> ?_⟩
   ·rw [Xo] at z|-;rw [if_pos z] at e1;exact join_some e1
   ·rw [Xo] at z;rw [if_neg (by rw [z];simp)] at e1;simpa using e1
  |succ k=>
   obtain⟨h1,h2⟩:=h k d' (by simpa using hk)
   have ea:i+(k+1)=i+1+k:=by omega
   rw [ea]
   exact⟨h1,fun z=>by simpa using h2 z⟩
def gE(np n:Nat)(m:Nat->Bool)(f:tz1):tz7:=fun ds=>if ds.length=np then(f (ds.map some++List.replicate n none)).bind fun r=>match r with
 |(.ret d,ps)=>(zi0 m ps 0 ds).bind fun ds'=>some (d,ds')
 |(.nx,ps)=>(zi0 m ps 0 ds).bind fun ds'=>some (.non,ds')
 |_=>none
 else none
theorem RS.more(R:RS φ H σ ps F)(hl:ps.length=σ.length)(h2:n<=σ2.length):RS φ H (σ++σ2) (ps++List.replicate n none) F:=by
 refine⟨fun i d h=> ?_,fun i a h=> ?_,R.dis,R.nd,R.nb,R.bt,by simp [hl];omega⟩
 ·by_cases hi:i<ps.length
  ·rw [ZO hi] at h
   rw [ZO (by omega)]
   exact R.rep i d h
  ·rw [YM (by omega),Yu] at h
   split at h<;>cases h
 ·obtain⟨b,d,e⟩:=R.emp i a h
  have hi:=(Z4.mp e).1
  exact⟨b,d,by rw [ZO hi];exact e⟩
theorem yb7{K:tz0}{κ:tz9}{np n:Nat}{m:Nat->Bool}{H H':Hp}{vs:List V}{σ2 σ':St}{ds ds':List D}{ps':PSt}{F F':Nat->List Addr}{fv:List Addr}(hm:∀i,m i=true->i<np)(hl:vs.length=np)(hd:ds.length=np)(R:RS (fxE K κ np m) H (vs.map some) (ds.map some) F)
  (s:Stp (fxE K κ np m) (vs.map some++σ2) H F σ' H' ps' F') (o:OwnV F H F' fv) (e:zi0 m ps' 0 ds=some ds'):
  ∃F2,Stp (fxE K κ np m) (vs.map some) H F (vs.map some) H' (ds'.map some) F2/\OwnV F H F2 fv:=by
 obtain⟨l,ho⟩:=zt5 e
 have sub:∀i a,a∈(if m i=true then F' i else [])->m i=true/\a∈F' i:=fun i a h=>by
  by_cases z:m i=true
  ·rw [if_pos z] at h;exact⟨z,h⟩
  ·rw [if_neg z] at h;exact absurd h (by simp)
 have tfk:∀a u,H a=some u->tf u=true->H' a=some u:=fun a u h t=>s.fr.keep a u h (lN t) fun i hi=>by
  obtain⟨u',h',_,t'⟩:=R.own hi
  rw [h] at h';cases h';rw [t] at t';cases t'
 have mb:∀i,m i=true->(fxE K κ np m).bor i=false:=fun i h=>by simp [fxE,h]
 refine⟨fun i=>if m i=true then F' i else [],⟨s.fr,fun i a h=>s.nw i a (sub i a h).2,⟨fun i d h=> ?_,fun i a h=> ?_,fun i j a h1 h2=>s.rs.dis i j a (sub i a h1).2 (sub j a h2).2,fun i=> ?_,fun i a h=>s.rs.nb i a (sub i a h).2,fun _ a h=>h.elim,by simp [l,hl,hd]⟩,fun _ _=>rfl⟩,⟨o.nw,o.nd,fun i a h=>o.dis i a (sub i a h).2⟩⟩
 ·rw [Zd] at h
  cases q:ds'[i]? with
  |none=>rw [q] at h;cases h
  | some d1=>
   rw [q] at h;cases h
   obtain⟨h1,h2⟩:=ho i d q
   rw [YI] at h1 h2
   by_cases z:m i=true
   ·obtain⟨v,fp,k1,k2,k3,_⟩:=s.rs.rep i d (h1 z)
    refine⟨v,fp,?_,k2,fun _=>by rw [if_pos z];exact k3 (mb i z),fun w=>by rw [mb i z] at w;cases w⟩
    rw [<-k1]
    have:=s.msk i z
    rw [this,ZO (by simp [hl];exact hm i z)]
   ·have zf:m i=false:=by simpa using z
    have hi:(ds.map some)[i]? =some (some d):=by rw [Zd,h2 zf];rfl
    have hib:(fxE K κ np m).bor i=true:=by
     have:=(Z4.mp (h2 zf)).1
     simp [fxE,zf];omega
    obtain⟨v,fp,k1,k2,_,k4⟩:=R.rep i d hi
    have efp:fp=[]:=by
     cases fp with
     |nil=>rfl
     |cons a r=>exact(k4 hib a Z0).elim
    subst efp
    exact⟨v,[],k1,k2.move tfk (fun a ha=>absurd ha (by simp)),(fun w=>by rw [hib] at w;cases w),(fun _ a ha=>absurd ha (by simp))⟩
 ·obtain⟨z,h⟩:=sub i a h
  refine⟨mb i z,?_⟩
  have hi:i<ds'.length:=by rw [l,hd];exact hm i z
  exact⟨ds'[i],by rw [Zd,Zm hi];rfl⟩
 ·by_cases z:m i=true
  ·rw [if_pos z];exact s.rs.nd i
  ·rw [if_neg z];exact Zk
section
variable{P:Program}{w:World}{K:tz0}{mg:tzA}{base:Heap}{κ:tz9}
theorem oH{x qual:Str}{st:Stmt}{f:Addr}{fd:FuncData}{N ps:List Str}{k:Nat}{fb:tz1}{m:Nat->Bool}(F:Fun K x qual st f fd)(S:FnScope N ps (aS st))(hm:∀i,m i=true->i<ps.length)
  (hbody:∀(cdv:Value) (A:Around) (outer:List Env) (s:Shared) (H:Hp) (E:XK),Room k (A.deeper (envOfC qual (aS st) s.heap.objs.size f cdv))->
   QSs (iS CX0 P w K mg base N qual (aS st) f cdv A outer s H E).nox κ (f0E ps.length m) (mO st) fb):
  FnOk P w K mg base CX0 (k+1) f fd ps (SpE ps.length K κ m (gE ps.length (N.length-ps.length) m fb)):=by
 refine F.ok S (fun vs H Q E h=>h.1) fun cdv A outer s H vs Q E hr ⟨hl,ds,r,ds',F0,hd,R,e,q⟩=>⟨_,hbody cdv A outer s H E hr,?_⟩
 have hn:ps.length<=N.length:=by have:=ZJ List.length S.pre;rw [YE] at this;omega
 unfold gE at e
 obtain⟨_,e0⟩:=bK e
 obtain⟨⟨fl,ps'⟩,e1,e2⟩:=bind_some e0
 have R0:=R.more (σ2:=List.replicate (N.length-vs.length) none) (n:=N.length-ps.length) (by simp [hl,hd]) (by simp [hl])
 refine⟨_,F0,fl,ps',R0,e1,?_⟩
 cases fl with
 | ret d'=>
  obtain⟨ds1,e3,e4⟩:=bind_some e2
  cases e4
  exact fun v σ' H' F' fv s o rv=>by
   obtain⟨F2,s2,o2⟩:=yb7 (n:=0) hm hl hd R s o e3
   exact q v H' F2 fv s2 o2 rv
 | nx=>
  obtain⟨ds1,e3,e4⟩:=bind_some e2
  cases e4
  exact fun σ' H' F' s=>by
   obtain⟨F2,s2,o2⟩:=yb7 (n:=0) (fv:=[]) hm hl hd R s ⟨fun _ h=>absurd h (by simp),Zk,fun _ _ _ h=>absurd h (by simp)⟩ e3
   exact q .non H' F2 [] s2 o2 .non
 |bk=>cases e2
 |ct=>cases e2
end
set_option genInjectivity true in
inductive Arg where
 |io (j:Nat)|im (f:tz2)
def bY:List Arg->tz3
 |[],_=>some []
 | .io j::as,ps=>((ps[j]?).join).bind fun d=>(bY as ps).bind fun ds=>some (d::ds)
 | .im f::as,ps=>(aX f ps).bind fun d=>(bY as ps).bind fun ds=>some (d::ds)
def mV:List Arg->Nat->Bool
 | .io _::_,0=>true
 |_::as,i+1=>mV as i
 |_,_=>false
def slots:List Arg->List Nat
 |[]=>[]
 | .io j::as=>j::slots as
 | .im _::as=>slots as
def eD:PSt->List Arg->List D->PSt
 |ps,.io j::as,d::ds=>eD (ps.set j (some d)) as ds
 |ps,.im _::as,_::ds=>eD ps as ds
 |ps,_,_=>ps
inductive ArgsAt(K:tz0)(κ:tz9)(H:Hp)(σ:St)(ps:PSt):List Arg->List V->List D->Prop
 |nil:ArgsAt K κ H σ ps [] [] []
 |io {j:Nat} {as:List Arg} {v:V} {vs:List V} {d:D} {ds:List D}:σ[j]? =some (some v)->ps[j]? =some (some d)->ArgsAt K κ H σ ps as vs ds->ArgsAt K κ H σ ps (.io j::as) (v::vs) (d::ds)
 |im {f:tz2} {as:List Arg} {v:V} {vs:List V} {d:D} {ds:List D}:Rep K κ H v d []->ArgsAt K κ H σ ps as vs ds->ArgsAt K κ H σ ps (.im f::as) (v::vs) (d::ds)
theorem ArgsAt.len{K:tz0}{κ:tz9}{H:Hp}{σ:St}{ps:PSt}:∀{as:List Arg} {vs:List V} {ds:List D},ArgsAt K κ H σ ps as vs ds->vs.length=as.length/\ds.length=as.length
 |_,_,_,.nil=>⟨rfl,rfl⟩
 |_,_,_,.io _ _ h=>by have:=h.len;simp [this]
 |_,_,_,.im _ h=>by have:=h.len;simp [this]
theorem ArgsAt.get{K:tz0}{κ:tz9}{H:Hp}{σ:St}{ps:PSt}:∀{as:List Arg} {vs:List V} {ds:List D} {i:Nat} {d:D},ArgsAt K κ H σ ps as vs ds->ds[i]? =some d->∃v,vs[i]? =some v/\((∃j,as[i]? =some (.io j)/\mV as i=true/\σ[j]? =some (some v)/\ps[j]? =some (some d))\/(mV as i=false/\Rep K κ H v d []))
 |_,_,_,_,_,.nil,e=>by simp at e
 |_,_,_,0,_,.io h1 h2 _,e=>by simp at e;subst e;exact⟨_,rfl,.inl ⟨_,rfl,rfl,h1,h2⟩⟩
 |_,_,_,0,_,.im r _,e=>by simp at e;subst e;exact⟨_,rfl,.inr ⟨rfl,r⟩⟩
 |_,_,_,i+1,_,.io _ _ h,e=>by
  obtain⟨v,h1,h2⟩:=ArgsAt.get (i:=i) h (by simpa using e)
  exact⟨v,by simpa using h1,by simpa [mV] using h2⟩
 |_,_,_,i+1,_,.im _ h,e=>by
  obtain⟨v,h1,h2⟩:=ArgsAt.get (i:=i) h (by simpa using e)
  exact⟨v,by simpa using h1,by simpa [mV] using h2⟩
theorem zo9:∀{as:List Arg} {i:Nat},mV as i=true->∃j,as[i]? =some (.io j)
 | .io j::_,0,_=>⟨j,rfl⟩
 | .im _::_,0,h=>by cases h
 | .io _::as,i+1,h=>by obtain⟨j,e⟩:=zo9 (as:=as) (i:=i) h;exact⟨j,by simpa using e⟩
 | .im _::as,i+1,h=>by obtain⟨j,e⟩:=zo9 (as:=as) (i:=i) h;exact⟨j,by simpa using e⟩
 |[],_,h=>by cases h
theorem pL:∀{as:List Arg} {i j:Nat},as[i]? =some (.io j)->mV as i=true
 | .io _::_,0,_,_=>rfl
 | .im _::_,0,_,h=>by simp at h
 | .io _::as,i+1,j,h=>pL (as:=as) (i:=i) (j:=j) (by simpa using h)
 | .im _::as,i+1,j,h=>pL (as:=as) (i:=i) (j:=j) (by simpa using h)
 |[],_,_,h=>by simp at h
theorem jE:∀{as:List Arg} {i j:Nat},as[i]? =some (.io j)->j∈slots as
 | .io _::_,0,_,h=>by simp at h;subst h;exact Z0
 | .im _::_,0,_,h=>by simp at h
 | .io _::as,i+1,j,h=>Z1 _ (jE (as:=as) (i:=i) (by simpa using h))
 | .im _::as,i+1,j,h=>jE (as:=as) (i:=i) (by simpa using h)
 |[],_,_,h=>by simp at h
theorem zM:∀{as:List Arg} {i k j:Nat},(slots as).Nodup->as[i]? =some (.io j)->as[k]? =some (.io j)->i=k
 |[],_,_,_,_,h,_=>by simp at h
 |a::as,0,0,_,_,_,_=>rfl
 | .io j'::as,0,k+1,j,nd,h1,h2=>by
  simp at h1;subst h1
  exact absurd (jE (as:=as) (i:=k) (by simpa using h2)) (Zs.mp nd).1
 | .im _::as,0,k+1,j,_,h1,_=>by simp at h1
 | .io j'::as,i+1,0,j,nd,h1,h2=>by
  simp at h2;subst h2
  exact absurd (jE (as:=as) (i:=i) (by simpa using h1)) (Zs.mp nd).1
 | .im _::as,i+1,0,j,_,_,h2=>by simp at h2
 | .io j'::as,i+1,k+1,j,nd,h1,h2=>by rw [zM (as:=as) (i:=i) (k:=k) (j:=j) (Zs.mp nd).2 (by simpa using h1) (by simpa using h2)]
 | .im _::as,i+1,k+1,j,nd,h1,h2=>by rw [zM (as:=as) (i:=i) (k:=k) (j:=j) nd (by simpa using h1) (by simpa using h2)]
def fI:List Arg->Nat->Option Nat
 |[],_=>none
 | .io i::as,j=>if i=j then some 0 else(fI as j).map (·+1)
 | .im _::as,j=>(fI as j).map (·+1)
theorem mL:∀{as:List Arg} {j i:Nat},fI as j=some i->as[i]? =some (.io j)
 |[],_,_,h=>by cases h
 | .io k::as,j,i,h=>by
  rw [fI] at h
  by_cases z:k=j
  ·rw [if_pos z] at h;cases h;rw [z];rfl
  ·rw [if_neg z] at h
   cases q:fI as j with
   |none=>rw [q] at h;cases h
   |some n=>rw [q] at h;cases h;simpa using mL q
 | .im _::as,j,i,h=>by
  rw [fI] at h
  cases q:fI as j with
  |none=>rw [q] at h;cases h
  |some n=>rw [q] at h;cases h;simpa using mL q
theorem kC:∀{as:List Arg} {j:Nat},fI as j=none->j∉slots as
 |[],_,_=>by simp [slots]
 | .io k::as,j,h=>by
  rw [fI] at h
  by_cases z:k=j
  ·rw [if_pos z] at h;cases h
  ·rw [if_neg z] at h
   have h':fI as j=none:=by
    cases q:fI as j with
    |none=>rfl
    |some n=>rw [q] at h;cases h
   exact fun hm=>(Z3.mp hm).elim (fun e=>z e.symm) (kC h')
 | .im _::as,j,h=>by
  rw [fI] at h
  have h':fI as j=none:=by
   cases q:fI as j with
   |none=>rfl
   |some n=>rw [q] at h;cases h
  exact fun hm=>kC (as:=as) h' hm
theorem xC:∀{as:List Arg} {ds:List D} {ps:PSt},(eD ps as ds).length=ps.length
 |[],_,_=>by simp [eD]
 | .io j::as,[],_=>by simp [eD]
 | .im _::as,[],_=>by simp [eD]
 | .io j::as,d::ds,ps=>by rw [eD,xC (as:=as)];simp
 | .im _::as,d::ds,ps=>by rw [eD,xC (as:=as)]
theorem oI:∀{as:List Arg} {ds:List D} {ps:PSt} {j:Nat},j∉slots as->(eD ps as ds)[j]? =ps[j]?
 |[],_,_,_,_=>by simp [eD]
 | .io _::_,[],_,_,_=>by simp [eD]
 | .im _::_,[],_,_,_=>by simp [eD]
 | .io k::as,d::ds,ps,j,h=>by
  rw [eD,oI (as:=as) (fun z=>h (Z1 _ z)),Zt (fun z=>h (by rw [<-z];exact Z0))]
 | .im _::as,d::ds,ps,j,h=>by rw [eD];exact oI (as:=as) h
theorem zc8:∀{as:List Arg} {ds:List D} {ps:PSt} {i j:Nat} {d:D},(slots as).Nodup->as[i]? =some (.io j)->ds[i]? =some d->j<ps.length->(eD ps as ds)[j]? =some (some d)
 |[],_,_,_,_,_,_,h,_,_=>by simp at h
 |_::_,[],_,_,_,_,_,_,h,_=>by simp at h
 | .io k::as,d1::ds,ps,0,j,d,nd,h1,h2,h3=>by
  simp at h1 h2;subst h1;subst h2
  rw [eD,oI (Zs.mp nd).1,Zw h3]
 | .im _::as,d1::ds,ps,0,j,d,_,h1,_,_=>by simp at h1
 | .io k::as,d1::ds,ps,i+1,j,d,nd,h1,h2,h3=>by
  rw [eD];exact zc8 (Zs.mp nd).2 (by simpa using h1) (by simpa using h2) (by simpa using h3)
 | .im _::as,d1::ds,ps,i+1,j,d,nd,h1,h2,h3=>by
  rw [eD];exact zc8 (as:=as) nd (by simpa using h1) (by simpa using h2) h3
def pS(as:List Arg)(F:Nat->List Addr):Nat->List Addr:=fun i=>match as[i]? with
 |some (.io j)=>F j
 |_=>[]
theorem yl3(e:as[i]? =some (.io j)):pS as F i=F j:=by unfold pS;rw [e]
theorem yb8(h:b∈pS as F i):∃j,as[i]? =some (.io j)/\b∈F j:=by
 unfold pS at h
 cases q:as[i]? with
 |none=>rw [q] at h;exact absurd h (by simp)
 |some x=>
  cases x with
  |io j=>rw [q] at h;exact⟨j,rfl,h⟩
  |im _=>rw [q] at h;exact absurd h (by simp)
theorem zp0(e:mV as i=false):pS as F i=[]:=by
 unfold pS
 cases q:as[i]? with
 |none=>rfl
 |some x=>cases x with
  |io j=>rw [pL q] at e;cases e
  |im _=>rfl
theorem xk6{φ:Fx}{H:Hp}{σ:St}{ps:PSt}{F:Nat->List Addr}{as:List Arg}{vs:List V}{ds:List D}(R:RS φ H σ ps F)(nd:(slots as).Nodup)(hb:∀j∈slots as,φ.bor j=false)(a:ArgsAt φ.K φ.κ H σ ps as vs ds):
  RS (fxE φ.K φ.κ as.length (mV as)) H (vs.map some) (ds.map some) (pS as F):=by
 obtain⟨lv,ld⟩:=a.len
 have memF:∀i b,b∈pS as F i->∃j,as[i]? =some (Arg.io j)/\b∈F j:=fun i b h=>yb8 h
 refine⟨fun i d h=> ?_,fun i b h=> ?_,fun i k b h1 h2=> ?_,fun i=> ?_,fun i b h k z=>z.elim,fun k b z=>z.elim,by simp [lv,ld]⟩
 ·rw [Zd] at h
  cases q:ds[i]? with
  |none=>rw [q] at h;cases h
  | some d1=>
   rw [q] at h;cases h
   obtain⟨v,h1,h2⟩:=a.get q
   have hi:=(Z4.mp q).1
   refine⟨v,pS as F i,by rw [Zd,h1];rfl,?_,fun _=>rfl,fun z=> ?_⟩
   ·rcases h2 with ⟨j,e1,e2,e3,e4⟩|⟨e1,r⟩
    ·obtain⟨v',fp,k1,k2,k3,_⟩:=R.rep j d e4
     rw [e3] at k1;cases k1
     rw [yl3 e1]
     have:=k3 (hb j (jE e1))
     subst this
     exact k2
    ·rw [zp0 e1];exact r
   ·rcases h2 with ⟨j,e1,e2,_⟩|⟨e1,r⟩
    ·simp [fxE,e2] at z
    ·rw [zp0 e1];intro b hb;exact absurd hb (by simp)
 ·obtain⟨j,e,hj⟩:=memF i b h
  have hi:i<ds.length:=by rw [ld];exact(Z4.mp e).1
  exact⟨by simp [fxE,pL e],ds[i],by rw [Zd,Zm hi];rfl⟩
 ·obtain⟨j1,e1,m1⟩:=memF i b h1
  obtain⟨j2,e2,m2⟩:=memF k b h2
  have:=R.dis j1 j2 b m1 m2
  subst this
  exact zM nd e1 e2
 ·cases z:mV as i with
  |true=>obtain⟨j,e⟩:=zo9 z;rw [yl3 e];exact R.nd j
  |false=>rw [zp0 z];exact Zk
def vB(as:List Arg)(F Fc:Nat->List Addr):Nat->List Addr:=fun j=>match fI as j with
 |some i=>Fc i
 |none=>F j
theorem xa4(h:b∈vB as F Fc j):(∃i,fI as j=some i/\b∈Fc i)\/(fI as j=none/\b∈F j):=by
 unfold vB at h
 cases q:fI as j with
 |none=>rw [q] at h;exact .inr ⟨rfl,h⟩
 |some i=>rw [q] at h;exact .inl ⟨i,rfl,h⟩
theorem zj1(e:fI as j=some i):vB as F Fc j=Fc i:=by unfold vB;rw [e]
theorem zj2(e:fI as j=none):vB as F Fc j=F j:=by unfold vB;rw [e]
theorem xv4{φ:Fx}{H H1 H':Hp}{σ:St}{ps:PSt}{F Fc':Nat->List Addr}{as:List Arg}{vs:List V}{ds ds':List D}{fv:List Addr}(R:RS φ H σ ps F)(s1:SameK H H1)(nd:(slots as).Nodup)(hb:∀j∈slots as,φ.bor j=false)(a:ArgsAt φ.K φ.κ H1 σ ps as vs ds)(hl:ds'.length=as.length)
  (s:Stp (fxE φ.K φ.κ as.length (mV as)) (vs.map some) H1 (pS as F) (vs.map some) H' (ds'.map some) Fc') (o:OwnV (pS as F) H1 Fc' fv):
  ∃F',Stp φ σ H F σ H' (eD ps as ds') F'/\OwnV F H F' fv:=by
 have memF:∀i b,b∈pS as F i->∃j,as[i]? =some (Arg.io j)/\b∈F j:=fun i b h=>yb8 h
 have nwA:∀b,((∃i,b∈pS as F i)\/H1 b=none)->(∃j∈slots as,b∈F j)\/H b=none:=fun b h=>by
  rcases h with ⟨i,h⟩|h
  ·obtain⟨j,e,m⟩:=memF i b h
   exact .inl ⟨j,jE e,m⟩
  ·exact .inr (s1.grow b h)
 have isDisj:∀b,((∃i,b∈Fc' i)\/b∈fv)->∀j,j∉slots as->b∉F j:=fun b h j hj hm=>by
  have h':(∃j∈slots as,b∈F j)\/H b=none:=by
   rcases h with ⟨i,h⟩|h
   ·exact nwA b (s.nw i b h)
   ·exact nwA b (o.nw b h)
  rcases h' with ⟨k,hk,hm2⟩|z
  ·exact hj (R.dis j k b hm hm2▸hk)
  ·obtain⟨u,q,_⟩:=R.own hm;rw [z] at q;cases q
 have keepN:∀b u,H b=some u->kd u=true->(∀j∈slots as,b∉F j)->H' b=some u:=fun b u h k n=>s.fr.keep b u (s1.keep b u h k) k fun i hi=>by
  obtain⟨j,e,m⟩:=memF i b hi
  exact n j (jE e) m
 have tfk:∀b u,H b=some u->tf u=true->H' b=some u:=fun b u h t=>keepN b u h (lN t) fun j _ hm=>by
  obtain⟨u',h',_,t'⟩:=R.own hm
  rw [h] at h';cases h';rw [t] at t';cases t'
 have posmem:∀j b,b∈vB as F Fc' j->(∃i,fI as j=some i/\b∈Fc' i)\/(fI as j=none/\b∈F j):=fun j b h=>xa4 h
 refine⟨vB as F Fc',⟨⟨fun b u h k n=>keepN b u h k fun j _=>n j,fun b h=>s1.grow b (s.fr.grow b h)⟩,fun j b h=> ?_,⟨fun j d h=> ?_,fun j b h=> ?_,fun j k b h1 h2=> ?_,fun j=> ?_,fun j b h=> ?_,fun kk b hB z=>R.bt kk b hB (s1.grow b (s.fr.grow b z)),by rw [xC];exact R.len⟩,fun _ _=>rfl⟩,⟨fun b hb'=> ?_,o.nd,fun j b h hv=> ?_⟩⟩
 ·rcases posmem j b h with ⟨i,e,m⟩|⟨e,m⟩
  ·exact(nwA b (s.nw i b m)).elim (fun⟨k,_,hk⟩=> .inl ⟨k,hk⟩) .inr
  ·exact .inl ⟨j,m⟩
 ·cases q:fI as j with
  | some i=>
   have e:=mL q
   have hi:i<ds'.length:=by rw [hl];exact(Z4.mp e).1
   have ei:ds'[i]? =some ds'[i]:=Zm hi
   have hj:j<ps.length:=by
    have:=(Z4.mp h).1
    rwa [xC] at this
   rw [zc8 nd e ei hj] at h
   cases h
   obtain⟨v,fp,k1,k2,k3,_⟩:=s.rs.rep i ds'[i] (by rw [Zd,ei];rfl)
   have hbi:(fxE φ.K φ.κ as.length (mV as)).bor i=false:=by simp [fxE,pL e]
   have k3:=k3 hbi
   subst k3
   have hvi:i<vs.length:=by rw [a.len.1];exact(Z4.mp e).1
   have hdi:i<ds.length:=by rw [a.len.2];exact(Z4.mp e).1
   obtain⟨v',g1,g2⟩:=a.get (Zm hdi)
   rw [Zd,g1] at k1
   cases k1
   rcases g2 with ⟨j',e1,_,e3,_⟩|⟨e1,_⟩
   ·rw [e] at e1;cases e1
    exact⟨v,Fc' i,e3,k2,(fun _=>(zj1 q).symm),(fun z=>by rw [hb j (jE e)] at z;cases z)⟩
   ·rw [pL e] at e1;cases e1
  |none=>
   have hn:=kC q
   rw [oI hn] at h
   obtain⟨v,fp,k1,k2,k3,k4⟩:=R.rep j d h
   refine⟨v,fp,k1,k2.move tfk fun b hb'=> ?_,(fun z=>by rw [zj2 q];exact k3 z),k4⟩
   obtain⟨u,q1,q2,_⟩:=k2.own b hb'
   rw [q1]
   refine keepN b u q1 q2 fun k hk hm=> ?_
   cases z:φ.bor j with
   |true=>exact R.nb k b hm j (k4 z b hb')
   |false=>rw [k3 z] at hb';exact hn (R.dis j k b hb' hm▸hk)
 ·rcases posmem j b h with ⟨i,e,m⟩|⟨e,m⟩
  ·have e':=mL e
   refine⟨hb j (jE e'),?_⟩
   have hi:i<ds'.length:=by rw [hl];exact(Z4.mp e').1
   have hdi:i<ds.length:=by rw [a.len.2];exact(Z4.mp e').1
   obtain⟨v',g1,g2⟩:=a.get (Zm hdi)
   rcases g2 with ⟨j',e1,_,_,e4⟩|⟨e1,_⟩
   ·rw [e'] at e1;cases e1
    exact⟨_,zc8 nd e' (Zm hi) (Z4.mp e4).1⟩
   ·rw [pL e'] at e1;cases e1
  ·obtain⟨b1,d,b2⟩:=R.emp j b m
   exact⟨b1,d,by rw [oI (kC e)];exact b2⟩
 ·rcases posmem j b h1 with ⟨i,e,m⟩|⟨e,m⟩
  ·rcases posmem k b h2 with ⟨i',e',m'⟩|⟨e',m'⟩
   ·have:=s.rs.dis i i' b m m'
    subst this
    have q1:=mL e
    have q2:=mL e'
    rw [q1] at q2
    cases q2;rfl
   ·exact absurd m' (isDisj b (.inl ⟨i,m⟩) k (kC e'))
  ·rcases posmem k b h2 with ⟨i',e',m'⟩|⟨e',m'⟩
   ·exact absurd m (isDisj b (.inl ⟨i',m'⟩) j (kC e))
   ·exact R.dis j k b m m'
 ·cases q:fI as j with
  |some i=>rw [zj1 q];exact s.rs.nd i
  |none=>rw [zj2 q];exact R.nd j
 ·rcases posmem j b h with ⟨i,e,m⟩|⟨e,m⟩
  ·exact R.notB ((nwA b (s.nw i b m)).elim (fun⟨k,_,hk⟩=> .inl ⟨k,hk⟩) .inr)
  ·exact R.nb j b m
 ·exact(nwA b (o.nw b hb')).elim (fun⟨k,_,hk⟩=> .inl ⟨k,hk⟩) .inr
 ·rcases posmem j b h with ⟨i,e,m⟩|⟨e,m⟩
  ·exact o.dis i b m hv
  ·exact isDisj b (.inr hv) j (kC e) m
def tIO(K:tz0)(κ:tz9)(as:List Arg):TA:=fun σ H Q=>∃ps ds,WS K κ H σ ps/\bY as ps=some ds/\∀vs H',SameK H H'->ArgsAt K κ H' σ ps as vs ds->Q vs H'
def fIO(as:List Arg)(g:tz7):tz8:=fun ps=>(bY as ps).bind fun ds=>(g ds).bind fun r=>if r.2.length=as.length then some (r.1,eD ps as r.2) else none
section
variable{X:Cx}{φ:F0}{κ:tz9}{e:Expr}{es:List Expr}{as:List Arg}{f:tz2}{pos p:Pos}
theorem eJ:PA X [] (tIO X.K κ []):=oC.imp fun σ H Q ⟨ps,ds,w,e,q⟩=>by cases e;exact q [] H (.refl H) .nil
theorem xa5(j:Nat){x:Str}(hr:PA X es (tIO X.K κ as))(hN:X.N[j]? =some x:=by rfl)(hv:Vis X.env.scope x:=by first|exact Or.inl rfl|exact Or.inr (Or.inl rfl)|exact Or.inr (Or.inr rfl))(hd:NDb x:=by decide)
  (hcd:(x==("__classdict__":Str))=false:=by decide) (hs:starEach (.Name x pos::es) X.env=(false,eval (.Name x pos) X.env)::starEach es X.env:=by rfl):PA X (.Name x pos::es) (tIO X.K κ (.io j::as)):=
 (fV (tF hN hv hd hcd) hr hs).imp fun σ H Q hh_=>by
  obtain⟨ps,ds,w,e,q⟩:=hh_
  obtain⟨d,e1,e2⟩:=bind_some e
  obtain⟨ds',e3,e4⟩:=bind_some e2
  cases e4
  have e0:=join_some e1
  obtain⟨v,fp,h1,h2⟩:=w j d e0
  exact⟨v,h1,ps,ds',w,e3,fun vs H1 s1 a1=>q (v::vs) H1 s1 (.io h1 e0 a1)⟩
theorem dL(ha:QV X κ e f)(hr:PA X es (tIO X.K κ as))(hs:StE e es X:=by rfl):PA X (e::es) (tIO X.K κ (.im f::as)):=
 (fV ha.p hr hs).imp fun σ H Q hh_=>by
  obtain⟨ps,ds,w,e,q⟩:=hh_
  obtain⟨d,e1,e2⟩:=bind_some e
  obtain⟨ds',e3,e4⟩:=bind_some e2
  cases e4
  refine⟨ps,d,w,e1,fun v H1 fv s1 n1 nd1 r1=>⟨ps,ds',w.same s1,e3,fun vs H2 s2 a2=>q (v::vs) H2 (s1.trans s2) (.im ?_ a2)⟩⟩
  unfold aX at e1
  obtain⟨d1,k1,k2⟩:=bind_some e1
  obtain⟨k3,k4⟩:=bK k2
  cases k4
  have:=r1.imm k3
  subst this
  exact r1.same s2
theorem xr3{x:Str}{st:Stmt}{ps:List Str}{fa:Addr}{fd:FuncData}{k np:Nat}{m:Nat->Bool}{g:tz7}(Dd:Dn X.K X.mg x st ps fa fd)(G:FnOk X.prog X.w X.K X.mg X.base CX0 k fa fd ps (SpE np X.K κ m g))(hr:Room k X.A)(hg:Gl X x)(ha:PA X (e::es) (tIO X.K κ as))
  (hnp:np=as.length) (hm:m=mV as) (nd:(slots as).Nodup) (hb:∀j∈slots as,φ.bor j=false)
  (hdb:NDb x:=by decide) (he:StE e es X:=by rfl) (hpl:BkE pos es X:=by rfl):
  QE X κ φ (.Call (.Name x p) (e::es) [] pos) (fIO as g):=(yq8 Dd G hr hg ha hdb he hpl).imp fun σ H Q hh_=>by
 obtain⟨ps,F,d,ps',R,e,q⟩:=hh_
 obtain⟨ds,e1,e2⟩:=bind_some e
 obtain⟨⟨r,ds'⟩,e3,e4⟩:=bind_some e2
 obtain⟨hl,e5⟩:=bK e4
 cases e5
 subst hnp hm
 refine⟨ps,ds,R.ws,e1,fun vs H1 s1 a1=> ?_⟩
 show SpE _ X.K κ _ g (vs++[]) H1 Q E0
 rw [Zl]
 refine⟨a1.len.1,ds,r,ds',_,a1.len.2,xk6 (R.same s1) nd hb a1,e3,fun v H' F' fv s o rv=> ?_⟩
 obtain⟨F2,s2,o2⟩:=xv4 R s1 nd hb a1 hl s o
 exact q v H' F2 fv s2 o2 rv
end
def lend(φ:Fx)(j:Nat)(fp:List Addr):Fx:=⟨φ.K,φ.κ,fun i=>decide (i=j)||φ.bor i,fun i=>decide (i=j)||φ.M i,fun i a=>if i=j then a∈fp else φ.B i a⟩
section
variable{φ:Fx}{H H':Hp}{σ σ':St}{ps ps':PSt}{F F':Nat->List Addr}{j:Nat}{d:D}
theorem RS.lend(R:RS φ H σ ps F)(hb:φ.bor j=false)(e:ps[j]? =some (some d)):RS (L2.lend φ j (F j)) H σ ps (mU F j []):=by
 have eF:∀i a,a∈mU F j [] i->i≠j/\a∈F i:=fun i a h=>by
  by_cases z:i=j
  ·subst z;rw [dA] at h;exact absurd h (by simp)
  ·rw [cX z] at h;exact⟨z,h⟩
 refine⟨fun i d' h=> ?_,fun i a h=> ?_,fun i k a h1 h2=>R.dis i k a (eF i a h1).2 (eF k a h2).2,fun i=> ?_,fun i a h k hB=> ?_,fun k a hB=> ?_,R.len⟩
 ·obtain⟨v,fp,h1,h2,h3,h4⟩:=R.rep i d' h
  refine⟨v,fp,h1,h2,fun z=> ?_,fun z=> ?_⟩
  ·have hij:i≠j:=by rintro rfl;simp [L2.lend] at z
   rw [cX hij]
   exact h3 (by simpa [L2.lend,hij] using z)
  ·by_cases hij:i=j
   ·subst hij
    rw [h3 hb]
    intro a ha
    show(if i=i then a∈F i else φ.B i a)
    rw [if_pos rfl];exact ha
   ·intro a ha
    show(if i=j then a∈F j else φ.B i a)
    rw [if_neg hij]
    exact h4 (by simpa [L2.lend,hij] using z) a ha
 ·obtain⟨hij,h⟩:=eF i a h
  obtain⟨b,d',q⟩:=R.emp i a h
  exact⟨by simp [L2.lend,hij,b],d',q⟩
 ·by_cases z:i=j
  ·subst z;rw [dA];exact Zk
  ·rw [cX z];exact R.nd i
 ·obtain⟨hij,h⟩:=eF i a h
  have hB':(if k=j then a∈F j else φ.B k a):=hB
  by_cases z:k=j
  ·rw [if_pos z] at hB';exact hij (R.dis i j a h hB')
  ·rw [if_neg z] at hB';exact R.nb i a h k hB'
 ·have hB':(if k=j then a∈F j else φ.B k a):=hB
  by_cases z:k=j
  ·rw [if_pos z] at hB'
   obtain⟨o,q,_⟩:=R.own hB'
   rw [q];exact fun w=>nomatch w
  ·rw [if_neg z] at hB';exact R.bt k a hB'
theorem Stp.unlend(R:RS φ H σ ps F)(hb:φ.bor j=false)(e:ps[j]? =some (some d))(s:Stp (L2.lend φ j (F j)) σ H (mU F j []) σ' H' ps' F'):
  ∃F2,Stp φ σ H F σ' H' (ps'.set j (some d)) F2/\∀fv,OwnV (mU F j []) H F' fv->OwnV F H F2 fv:=by
 have eF:∀i a,a∈mU F j [] i->i≠j/\a∈F i:=fun i a h=>by
  by_cases z:i=j
  ·subst z;rw [dA] at h;exact absurd h (by simp)
  ·rw [cX z] at h;exact⟨z,h⟩
 obtain⟨v,fp,h1,h2,h3,_⟩:=R.rep j d e
 have h3:=h3 hb
 subst h3
 have keepJ:∀a∈F j,∀o,H a=some o->kd o=true->H' a=some o:=fun a ha o h k=>s.fr.keep a o h k fun i hi=>(eF i a hi).1 (R.dis i j a (eF i a hi).2 ha)
 have tfk:∀a o,H a=some o->tf o=true->H' a=some o:=fun a o h t=>s.fr.keep a o h (lN t) fun i hi=>by
  obtain⟨o',h',_,t'⟩:=R.own (eF i a hi).2
  rw [h] at h';cases h';rw [t] at t';cases t'
 have repJ:Rep φ.K φ.κ H' v d (F j):=h2.move tfk fun a ha=>by
  obtain⟨o,q1,q2,_⟩:=h2.own a ha
  rw [q1];exact keepJ a ha o q1 q2
 have notJ:∀i a,a∈F' i->a∉F j:=fun i a h hj=>by
  rcases s.nw i a h with ⟨k,hk⟩|z
  ·exact(eF k a hk).1 (R.dis k j a (eF k a hk).2 hj)
  ·obtain⟨o,q,_⟩:=R.own hj;rw [z] at q;cases q
 have nj:∀a,a∉F' j:=fun a h=>by
  have:=(s.rs.emp j a h).1
  simp [L2.lend] at this
 have hM:σ'[j]? =σ[j]? :=s.msk j (by simp [L2.lend])
 have lt:j<ps.length:=(Z4.mp e).1
 refine⟨if j<ps'.length then mU F' j (F j) else F',⟨⟨fun a o h k n=>s.fr.keep a o h k fun i hi=>n i (eF i a hi).2,s.fr.grow⟩,fun i a h=> ?_,?_,fun i h=>s.msk i (by simp [L2.lend,h])⟩,fun fv o=> ?_⟩
 ·have h':a∈F j\/a∈F' i:=by
   by_cases z:j<ps'.length
   ·rw [if_pos z] at h;exact gZ h
   ·rw [if_neg z] at h;exact .inr h
  rcases h' with z|z
  ·exact .inl ⟨j,z⟩
  ·exact(s.nw i a z).elim (fun⟨k,hk⟩=> .inl ⟨k,(eF k a hk).2⟩) .inr
 ·have back:∀i d',i≠j->ps'[i]? =some (some d')->∃v fp,σ'[i]? =some (some v)/\Rep φ.K φ.κ H' v d' fp/\(φ.bor i=false->fp=F' i)/\(φ.bor i=true->∀a∈fp,φ.B i a):=fun i d' hij h=>by
   obtain⟨v',fp',q1,q2,q3,q4⟩:=s.rs.rep i d' h
   refine⟨v',fp',q1,q2,fun z=>q3 (by simp [L2.lend,hij,z]),fun z a ha=> ?_⟩
   have:=q4 (by simp [L2.lend,z]) a ha
   have this':(if i=j then a∈F j else φ.B i a):=this
   rwa [if_neg hij] at this'
  have bt:∀k a,φ.B k a->H' a≠none:=fun k a hB z=>R.bt k a hB (s.fr.grow a z)
  by_cases z:j<ps'.length
  ·rw [if_pos z]
   refine⟨fun i d' h=> ?_,fun i a h=> ?_,fun i k a h1 h2=> ?_,fun i=> ?_,fun i a h k hB=> ?_,bt,by simpa using s.rs.len⟩
   ·by_cases hij:i=j
    ·subst hij
     rw [Zw z] at h
     cases h
     exact⟨v,F i,hM.trans h1,repJ,fun _=>dA.symm,fun w=>by rw [hb] at w;cases w⟩
    ·rw [Zt (fun w=>hij w.symm)] at h
     rw [cX hij]
     exact back i d' hij h
   ·by_cases hij:i=j
    ·subst hij;exact⟨hb,d,by rw [Zw z]⟩
    ·rw [cX hij] at h
     obtain⟨b,d',q⟩:=s.rs.emp i a h
     exact⟨by simpa [L2.lend,hij] using b,d',by rw [Zt (fun w=>hij w.symm)];exact q⟩
   ·by_cases e1:i=j
    ·by_cases e2:k=j
     ·rw [e1,e2]
     ·subst e1;rw [dA] at h1;rw [cX e2] at h2;exact absurd h1 (notJ k a h2)
    ·by_cases e2:k=j
     ·subst e2;rw [dA] at h2;rw [cX e1] at h1;exact absurd h2 (notJ i a h1)
     ·rw [cX e1] at h1;rw [cX e2] at h2;exact s.rs.dis i k a h1 h2
   ·by_cases hij:i=j
    ·subst hij;rw [dA];exact R.nd i
    ·rw [cX hij];exact s.rs.nd i
   ·rcases gZ h with w|w
    ·exact R.nb j a w k hB
    ·by_cases hkj:k=j
     ·subst hkj
      have hH:=R.bt k a hB
      rcases s.nw i a w with ⟨m,hm⟩|y
      ·exact R.nb m a (eF m a hm).2 k hB
      ·exact hH y
     ·have hB':(L2.lend φ j (F j)).B k a:=by show(if k=j then a∈F j else φ.B k a);rw [if_neg hkj];exact hB
      exact s.rs.nb i a w k hB'
  ·rw [if_neg z,YT (by omega)]
   refine⟨fun i d' h=> ?_,fun i a h=> ?_,s.rs.dis,s.rs.nd,fun i a h k hB=> ?_,bt,s.rs.len⟩
   ·have hij:i≠j:=by rintro rfl;exact z (Z4.mp h).1
    exact back i d' hij h
   ·obtain⟨b,d',q⟩:=s.rs.emp i a h
    have hij:i≠j:=by rintro rfl;exact nj a h
    exact⟨by simpa [L2.lend,hij] using b,d',q⟩
   ·rcases s.nw i a h with ⟨m,hm⟩|y
    ·exact R.nb m a (eF m a hm).2 k hB
    ·exact R.bt k a hB y
 ·refine⟨fun a ha=>(o.nw a ha).elim (fun⟨k,hk⟩=> .inl ⟨k,(eF k a hk).2⟩) .inr,o.nd,fun i a h hv=> ?_⟩
  have h':a∈F j\/a∈F' i:=by
   by_cases z:j<ps'.length
   ·rw [if_pos z] at h;exact gZ h
   ·rw [if_neg z] at h;exact .inr h
  rcases h' with w|w
  ·rcases o.nw a hv with ⟨k,hk⟩|y
   ·exact(eF k a hk).1 (R.dis k j a (eF k a hk).2 w)
   ·obtain⟨o',q,_⟩:=R.own w;rw [y] at q;cases q
  ·exact o.dis i a w hv
end
def zy5(i j:Nat)(f:tz1):tz1:=fun ps=>((ps[j]?).join).bind fun d=>(jN d).bind fun ds=>(dC i f ds ps).bind fun r=>some (r.1,r.2.set j (some d))
def F0.lend(φ:F0)(j:Nat)(fp:List Addr):F0:=⟨fun i=>decide (i=j)||φ.bor i,fun i=>decide (i=j)||φ.M i,fun i a=>if i=j then a∈fp else φ.B i a⟩
section
variable{X:Cx}{κ:tz9}{φ:F0}{pos:Pos}{body:List Stmt}{f:tz1}
theorem xv5(i j:Nat){x y:Str}{px py:Pos}(hp:PassesOwn (model X.prog X.w) X.A X.env X.xe)(hc:X.calm=true)(hN:X.N.Nodup)(hi:X.N[i]? =some x)(hx:Loc X.env.scope x)(hb:φ.bor i=false)(hm:φ.M i=false)(hij:i≠j)(hj:φ.bor j=false)
  (hbd:∀fp,QSs X κ (φ.lend j fp) body f) (hNj:X.N[j]? =some y:=by rfl) (hv:Vis X.env.scope y:=by first|exact Or.inl rfl|exact Or.inr (Or.inl rfl)|exact Or.inr (Or.inr rfl)) (hd:NDb y:=by decide)
  (hcd:(y==("__classdict__":Str))=false:=by decide) (hs:∀x,foldedSetIterable (.Name y py) X.env x=pure x:=by intro _;rfl) (hf:X.fn x=true\/X.env.scope.names.lookup x=some .local:=by first|exact .inl rfl|exact .inr rfl|assumption):
  QS X κ φ (.For (.Name x px) (.Name y py) body [] pos) (zy5 i j f):=⟨by
 rintro pins s0 σ H E I ⟨ps,F,fl,ps',R,e,q⟩
 obtain⟨d,e3,e1⟩:=bind_some e
 obtain⟨ds,e4,e5⟩:=bind_some e1
 obtain⟨⟨fl',ps2⟩,e2,e6⟩:=bind_some e5
 cases e6
 have e0:=join_some e3
 have R2:=R.lend hj e0
 obtain⟨v,fp,h1,h2,h3,_⟩:=R.rep j d e0
 have h3:=h3 hj
 subst h3
 refine zF hp hc (yb4 (tF hNj hv hd hcd)) (fG hN hi hx hf) (hbd (F j)) hs pins s0 σ H E I ?_
 show wj0 X.K (xp1 j) σ H (yu9 (sI i) (tS (lend (φ.fx X.K κ) j (F j)) f) E σ)
 refine⟨v,h1,?_⟩
 refine zo5 (R:=yu9 (sI i) (tS (lend (φ.fx X.K κ) j (F j)) f) E σ) h2 e4 fun J Z hz W=> ?_
 refine zg1 (φ:=lend (φ.fx X.K κ) j (F j)) R2 (fun a ha=>⟨?_,fun k hk=> ?_⟩) W (by simp [lend,F0.fx,hb,hij]) (by simp [lend,F0.fx,hm,hij]) e2 ?_
 ·obtain⟨o,q1,_⟩:=h2.own a (hz a ha);rw [q1];exact fun w=>nomatch w
 ·by_cases w:k=j
  ·subst w;rw [dA] at hk;exact absurd hk (by simp)
  ·rw [cX w] at hk;exact w (R.dis k j a hk (hz a ha))
 ·cases fl' with
  |nx=>exact fun σ' H' F' st=>by obtain⟨F2,s2,_⟩:=Stp.unlend R hj e0 st;exact q σ' H' F2 s2
  |bk=>exact fun σ' H' F' st=>by obtain⟨F2,s2,_⟩:=Stp.unlend R hj e0 st;exact q σ' H' F2 s2
  |ct=>exact fun σ' H' F' st=>by obtain⟨F2,s2,_⟩:=Stp.unlend R hj e0 st;exact q σ' H' F2 s2
  |ret d'=>exact fun v σ' H' F' fv st o r=>by obtain⟨F2,s2,o2⟩:=Stp.unlend R hj e0 st;exact q v σ' H' F2 fv s2 (o2 fv o) r⟩
end
inductive AreD:List Expr->List D->Prop
 |nil:AreD [] []
 |int {i:Int} {j:Nat} {pos:Pos} {es:List Expr} {ds:List D}:AreD es ds->AreD (.Constant (.int i) j pos::es) (.int i::ds)
 |str {x:Str} {j:Nat} {pos:Pos} {es:List Expr} {ds:List D}:AreD es ds->AreD (.Constant (.str x) j pos::es) (.str x::ds)
def fKs(ds:List D):tz3:=fun _=>some ds
theorem xD(h:AreD es ds):QPA X κ es (fKs ds):=by
 have key:∃vs,AreC es vs/\∀K κ H,Reps K κ H vs ds []:=by
  induction h with
  |nil=>exact⟨[],.nil,fun _ _ _=> .nil⟩
  |int _ ih=>obtain⟨vs,h1,h2⟩:=ih;exact⟨_,.int h1,fun K κ H=> .cons (f:=[]) (g:=[]) (.int _) (h2 K κ H)⟩
  |str _ ih=>obtain⟨vs,h1,h2⟩:=ih;exact⟨_,.str h1,fun K κ H=> .cons (f:=[]) (g:=[]) (.str _) (h2 K κ H)⟩
 obtain⟨vs,h1,h2⟩:=key
 exact(yz3 h1).imp fun σ H Q ⟨ps,ds',w,e,q⟩=>by cases e;exact q vs H [] (.refl H) (fun _ h=>absurd h (by simp)) Zk (h2 _ _ _)
def bR(l:List Bool):Nat->Bool:=fun i=>(l[i]?).getD false
def xh2(as:List Arg):List Bool:=as.map fun a=>match a with
 | .io _=>true
 | .im _=>false
theorem zj3:∀{as:List Arg} {l:List Bool},xh2 as=l->bR l=mV as:=by
 intro as l h
 subst h
 funext i
 induction as generalizing i with
 |nil=>cases i<;>rfl
 | cons a as ih=>
  cases i with
  |zero=>cases a<;>rfl
  |succ i=>
   have e:mV (a::as) (i+1)=mV as i:=by cases a<;>rfl
   rw [e,<-ih i]
   simp [bR,xh2]
theorem iQ(h:bR l i=true):i<l.length:=by
 unfold bR at h
 cases q:l[i]? with
 |none=>rw [q] at h;cases h
 |some b=>exact(Z4.mp q).1
section
variable{P:Program}{w:World}{K:tz0}{mg:tzA}{base:Heap}{κ:tz9}
theorem FnOk.noneP:FnOk P w K mg base CX0 k f fd ps (SpP ps.length K κ fun _=>none):=
 ⟨fun vs H Q E h=>h.1,fun A outer s H args us vs Q E _ _ _ _ ⟨_,ds,fp,d,_,e,_⟩=>by cases e⟩
theorem FnOk.noneE:FnOk P w K mg base CX0 k f fd ps (SpE ps.length K κ m fun _=>none):=
 ⟨fun vs H Q E h=>h.1,fun A outer s H args us vs Q E _ _ _ _ ⟨_,ds,r,ds',F,_,_,e,_⟩=>by cases e⟩
end
section
variable{X:Cx}{κ:tz9}{a b c:Expr}{fa fb fc:tz2}{g g':D->D->Option D}{pos:Pos}
theorem xk7(h:tP X.K κ (f3 g g' fa fb fc) σ H Q):xh1 (POp X.K κ g) (POp X.K κ g') (tV X.K κ fa) (tV X.K κ fb) (tV X.K κ fc) σ H Q:=by
 obtain⟨ps,d,w,e,q⟩:=h
 obtain⟨x,e1,e2⟩:=bind_some e
 obtain⟨y,e3,e4⟩:=bind_some e2
 obtain⟨k,e5,e6⟩:=bind_some e4
 obtain⟨t,rfl,e7⟩:=yr2 (x:=(fc ps).bind fun z=>g' y z) (y:=some (D.bl false)) e6
 refine⟨ps,x,w,e1,fun v H1 f1 s1 r1=>⟨ps,y,w.same s1,e3,fun u H2 f2 s2 r2=>⟨x,y,_,f1,f2,r1.same s2,r2,e5,fun z H3 fz s3 n3 nd3 r3=>⟨t,r3.is_bl,?_⟩⟩⟩⟩
 have s13:=(s1.trans s2).trans s3
 cases t with
 |true=>
  rw [if_pos rfl] at e7|-
  obtain⟨zz,e8,e9⟩:=bind_some e7
  exact⟨ps,zz,w.same s13,e8,fun u' H4 f4 s4 r4=>⟨y,zz,d,f2,f4,(r2.same s3).same s4,r4,e9,q.after (s13.trans s4)⟩⟩
 |false=>
  rw [if_neg Za] at e7|-
  cases e7
  exact(q.after s13).now (.bl false)
theorem xk8(ho:OpR X (compareOp op) (POp X.K κ g))(ho':OpR X (compareOp op') (POp X.K κ g'))(ha:QV X κ a fa)(hb:QV X κ b fb)(hc:QV X κ c fc)(hm:lastMarks [op,op'] [b,c]=false:=by with_unfolding_all rfl):QP X κ (.Compare a [op,op'] [b,c] pos) (f3 g g' fa fb fc):=
 (xi1 ho ho' ha hb hc hm).imp fun _ _ _ h=>xk7 h
end
theorem xv6(h:yA k u=true):cF (kV k) u:=by
 rcases fL h with ⟨i,t,rfl,rfl⟩|⟨x,t,rfl,rfl⟩
 ·exact⟨t,rfl⟩
 ·exact⟨t,rfl⟩
def yv0:Key->D
 | .inl i=> .int i
 | .inr x=> .str x
theorem xk9{K:tz0}{κ:tz9}{H:Hp}(k:Key):Rep K κ H (kV k) (yv0 k) []:=by
 cases k with
 |inl i=>exact .int i
 |inr x=>exact .str x
theorem zj4:∀ys:List (Str×Tok),bF (ys.map fun p=>V.str p.1) (ys.map fun p=>Value.str p.1 p.2)
 |[]=> .nil
 |y::ys=> .cons ⟨y.2,rfl⟩ (zj4 ys)
theorem zt6{K:tz0}{κ:tz9}{H:Hp}:∀ys:List (Str×Tok),Reps K κ H (ys.map fun p=>V.str p.1) (ys.map fun p=>D.str p.1) []
 |[]=> .nil
 |y::ys=> .cons (f:=[]) (g:=[]) (.str _) (zt6 ys)
theorem xl0{K:tz0}{κ:tz9}{a:Addr}{ys:List (Str×Tok)}{od:Option Addr}{n:Nat}{sl:Array (Option Value)}(h:K.lookup a=some ⟨.type "tuple",od,.seq (ys.map fun p=>Value.str p.1 p.2).toArray n,sl⟩)(hl:ys.length<=1000)(H:Hp):
  Rep K κ H (.ref a) (.tup (ys.map fun p=>D.str p.1)) []:=
 .tup (.inr ⟨_,_,n,h,rfl,rfl,by rw [Zi,Z7];exact zx6 hl,zj4 ys⟩) (zt6 ys)
section
variable{X:Cx}{pins:tzB}{σ:St}{H:Hp}{s:Shared}{a C dx:Addr}{fs:List (Str×V)}{f:Str}{v:V}{A:Around}{E:Value->Shared->Prop}
theorem xa6(hok:HOk P w H h)(e:Rd H a (.ins C dx fs)):∃mA,ObjM h a dx C mA/\(∀f,kH (fs.lookup f) (mA f)):=by
 obtain⟨d,z,ne,ob,mA,n,r,q⟩:=(show dI P w H h a (.ins C dx fs) from e.ok hok)
 exact⟨mA,⟨ob,n,ne⟩,r⟩
theorem yr4(I:Inv X pins σ H s)(e:Rd H a (.ins C dx fs))(c:Cls X.K C)(n:bZ X.K C f)(l:fs.lookup f=some v)
  (h:∀u s',Inv X pins σ H s'->cF v u->Q u s'):wpAny (model X.prog X.w) A (getAttr (.ref a) f b) Q E s:=by
 obtain⟨mA,O,r⟩:=xa6 I.hok e
 obtain⟨u,hu,ru⟩:=kH.some_of (v:=v) (o:=mA f) (by rw [<-l];exact r f)
 exact yk2 I.kIn O (c.get f) c.hd n hu (zr9 ru) (h u _ (I.tok _) ru)
theorem yr5(I:Inv X pins σ H s)(e:Rd H a (.ins C dx fs))(c:Cls X.K C)(k:Meth X.K C m g)(l:fs.lookup m=none)
  (h:Q (.ref g,[.ref a]) s):wpAny (model X.prog X.w) A (getMethod (.ref a) m pl) Q E s:=by
 obtain⟨mA,O,r⟩:=xa6 I.hok e
 have hn:mA m=none:=kH.none_of (by rw [<-l];exact r m)
 exact zz9 I.kIn O (c.get m) k.at_ k.fn hn h
end
def wn8(K:tz0)(ta:TE)(f:Str):TE:=fun σ H Q=>ta σ H fun x H1=>∃a C dx fs v,x= .ref a/\Rd H1 a (.ins C dx fs)/\Cls K C/\bZ K C f/\fs.lookup f=some v/\Q v H1
theorem xv7(he:PE X e ta)(hb:attributeBase e f X.env (eval e X.env)=eval e X.env):PE X (.Attribute e f pos) (wn8 X.K ta f):=⟨by
 intro pins s σ H Q I h
 refine yk3 hb (thn (he pins s σ H _ I h) fun u s1 ⟨x,H1,I1,rx,a,C,dx,fs,v,ex,ea,c,n,l,q⟩=> ?_)
 subst ex
 obtain rfl:u=Value.ref a:=rx
 exact yr4 I1 ea c n l fun w' s2 I2 rw'=>⟨v,H1,I2,rw',q⟩⟩
def yg5(C f:Str):D->Option D
 | .obj _ C' ns vs=>if C'=C then(cJ ns f).bind fun n=>vs[n]? else none
 |_=>none
def cB(C f:Str)(fo:tz2):tz2:=fun ps=>(fo ps).bind (yg5 C f)
theorem Rep.obj_inv{K:tz0}{κ:tz9}{H:Hp}{v:V}{o:Bool}{C:Str}{ns:List Str}{ds:List D}{fp:List Addr}(r:Rep K κ H v (.obj o C ns ds) fp):∃a dx fs g,v= .ref a/\Rd H a (.ins (κ C) dx fs)/\fs.map (·.1)=ns/\Reps K κ H (fs.map (·.2)) ds g/\g.Sublist fp:=by
 cases r with
 |obj h e hs=>exact⟨_,_,_,_,rfl,.inl h,e,hs,X1 _ _⟩
 |objF h e hs=>exact⟨_,_,_,_,rfl,.inr ⟨_,h⟩,e,hs,.refl _⟩
section
variable{X:Cx}{κ:tz9}{o e:Expr}{C fn:Str}{fo:tz2}{pos:Pos}
theorem cR(hc:Cls X.K (κ C))(hna:bZ X.K (κ C) fn)(ho:QV X κ o fo)(hb:attributeBase o fn X.env (eval o X.env)=eval o X.env:=by rfl):QV X κ (.Attribute o fn pos) (cB C fn fo):=
 (xv7 ho hb).imp fun σ H Q hh_=>by
  obtain⟨ps,d,w,e,q⟩:=hh_
  obtain⟨x,e1,e2⟩:=bind_some e
  refine⟨ps,x,w,e1,fun v H1 fp s1 r1=> ?_⟩
  cases x with
  |obj ow C' ns ds=>
   have e2':(if C'=C then(cJ ns fn).bind fun n=>ds[n]? else none)=some d:=e2
   by_cases hC:C'=C
   case neg=>rw [if_neg hC] at e2';cases e2'
   rw [if_pos hC] at e2'
   subst hC
   obtain⟨n,e4,e5⟩:=bind_some e2'
   obtain⟨a,dx,fs,g,rfl,h,hk,hs,sub⟩:=r1.obj_inv
   subst hk
   obtain⟨u,f1,k3,k4,_⟩:=hs.get e5
   exact⟨a,κ C',dx,fs,u,rfl,h,hc,hna,tM e4 k3,q u H1 f1 s1 k4⟩
  |_=>cases e2
end
theorem yl4:∀{fs:List (Str×V)} {f:Str} {n:Nat} (v:V),cJ (fs.map (·.1)) f=some n->(gM f v fs).map (·.1)=fs.map (·.1)/\(gM f v fs).map (·.2)=(fs.map (·.2)).set n v
 |[],_,_,_,h=>by cases h
 | (g,x)::r,f,n,v,h=>by
  rw [Z8,cJ] at h
  by_cases z:g=f
  ·have z':(g,x).1=f:=z
   rw [if_pos z'] at h;cases h
   rw [gM,if_pos z];exact⟨rfl,rfl⟩
  ·have z':¬(g,x).1=f:=z
   rw [if_neg z'] at h
   obtain⟨m,h1,h2⟩:=Zp.mp h
   subst h2
   obtain⟨k1,k2⟩:=yl4 v h1
   rw [gM,if_neg z]
   exact⟨by rw [Z8,Z8,k1],by rw [Z8,Z8,List.set_cons_succ,k2]⟩
theorem yb9:∀{fs:List (Str×V)} {f:Str} (v:V),cJ (fs.map (·.1)) f=none->(gM f v fs).map (·.1)=fs.map (·.1)++[f]/\(gM f v fs).map (·.2)=fs.map (·.2)++[v]
 |[],_,_,_=>⟨rfl,rfl⟩
 | (g,x)::r,f,v,h=>by
  rw [Z8,cJ] at h
  by_cases z:g=f
  ·have z':(g,x).1=f:=z
   rw [if_pos z'] at h;cases h
  ·have z':¬(g,x).1=f:=z
   rw [if_neg z'] at h
   obtain⟨k1,k2⟩:=yb9 v (W2.mp h)
   rw [gM,if_neg z]
   exact⟨by rw [Z8,Z8,k1];rfl,by rw [Z8,Z8,k2];rfl⟩
def wR(C f:Str)(y:D):D->Option (Unit×D)
 | .obj true C' ns vs=>if (C'=C/\ns.length<900) then(match cJ ns f with
   |some n=>some ((),.obj true C' ns (vs.set n y))
   |none=>some ((),.obj true C' (ns++[f]) (vs++[y]))) else none
 |_=>none
theorem yc0(h:wR C f y d=some (r,d')):∃ns vs,d= .obj true C ns vs/\ns.length<900/\((∃n,cJ ns f=some n/\d'= .obj true C ns (vs.set n y))\/(cJ ns f=none/\d'= .obj true C (ns++[f]) (vs++[y]))):=by
 unfold wR at h
 split at h
 ·rename_i C' ns vs
  by_cases hh:C'=C/\ns.length<900
  ·rw [if_pos hh] at h
   obtain⟨hC,hl⟩:=hh
   subst hC
   cases q:cJ ns f with
   |some n=>rw [q] at h;cases h;exact⟨ns,vs,rfl,hl,.inl ⟨n,q,rfl⟩⟩
   |none=>rw [q] at h;cases h;exact⟨ns,vs,rfl,hl,.inr ⟨q,rfl⟩⟩
  ·rw [if_neg hh] at h;cases h
 ·cases h
def gW(j:Nat)(pf:PSt->Option (List Ps1))(C f:Str)(fe:tz2):tz1:=fun ps=>(fe ps).bind fun y=>((ps[j]?).join).bind fun d0=>(pf ps).bind fun p=>(gC (wR C f y) d0 p).bind fun r=>some (.nx,ps.set j (some r.2))
theorem yc1:∀{ns:List Str} {f:Str} {n:Nat},cJ ns f=some n->n<ns.length
 |[],_,_,h=>by cases h
 | m::ns,f,n,h=>by
  rw [cJ] at h
  by_cases z:m=f
  ·rw [if_pos z] at h;cases h;simp
  ·rw [if_neg z] at h
   obtain⟨k,h1,h2⟩:=Zp.mp h
   subst h2
   have:=yc1 h1
   simp;omega
section
variable{X:Cx}{κ:tz9}{φ:F0}{o e:Expr}{C fn:Str}{j:Nat}{pf:PSt->Option (List Ps1)}{fe:tz2}{pos pos':Pos}
theorem gK(hc:Cls X.K (κ C))(hna:bZ X.K (κ C) fn)(hb:φ.bor j=false)(he:PE X e (tP X.K κ fe))(ho:PE X o (oP X.K κ j pf))(hs:swapsWith e (some (.Attribute o fn pos')) pos.line X.env=pure false:=by rfl):
  QS X κ φ (.Assign [.Attribute o fn pos'] e pos) (gW j pf C fn fe):=
 (wc2 ho he hs).imp fun E σ H hh_=>by
  obtain⟨ps,F,fl,ps',R,e,q⟩:=hh_
  obtain⟨y,e1,e2⟩:=bind_some e
  obtain⟨d0,e3,e4⟩:=bind_some e2
  have e0:=join_some e3
  obtain⟨p,e5,e6⟩:=bind_some e4
  obtain⟨⟨r,d0'⟩,em,e9⟩:=bind_some e6
  cases e9
  obtain⟨dd,dn,gp,hh⟩:=nM em
  refine⟨ps,y,R.ws,e1,fun v H1 fy s1 n1 nd1 ry=>⟨ps,p,d0,dd,R.ws.same s1,e0,e5,gp,fun lv H2 v0 s2 ev a2=> ?_⟩⟩
  have s12:=s1.trans s2
  obtain⟨d1,d1',fd,m1,m2,m3,m4,m5⟩:=wB R s12 hb e0 ev em a2
  obtain⟨ns,vs,rfl,hlen,hd⟩:=yc0 m2
  obtain⟨l,dx,fs,g1,rfl,hl,hn,hr,rfl⟩:=m1.objT_inv
  subst hn
  have ry2:=ry.same s2
  obtain⟨nl,nd3⟩:=Zs.mp m3
  have own0:∀a∈l::g1,H a≠none:=fun a ha z=>by obtain⟨o,h,_⟩:=R.own (m4 a ha);rw [z] at h;cases h
  have nl2:l∉fy:=fun z=>own0 l Z0 (n1 l z)
  have hl9:fs.length<900:=by rw [Z7] at hlen;exact hlen
  refine⟨l,κ C,dx,fs,rfl,hl,hc,hna,by omega,?_⟩
  have go:∀(g2:List Addr),(∀a∈g2,a∈fy\/a∈g1)->g2.Nodup->Rep X.K κ (upd H2 l (.ins (κ C) dx (gM fn v fs))) (.ref l) d1' (l::g2)->∃F',Stp (φ.fx X.K κ) σ H F σ (upd H2 l (.ins (κ C) dx (gM fn v fs))) (ps.set j (some d0')) F':=fun g2 mem2 nd2 rp=>by
   have n2:l∉g2:=fun z=>(mem2 l z).elim nl2 nl
   obtain⟨F',st,ow⟩:=m5 (upd H2 l (.ins (κ C) dx (gM fn v fs))) (l::g2) [] (fun a o h _ hn=>xB h hn) (fun a h=>pK h) rp
    (by rw [Zl,Zs];exact⟨n2,nd2⟩)
    (fun a ha=>by
     rw [Zl] at ha
     rcases Z3.mp ha with z|z
     ·exact .inl (by rw [z];exact Z0)
     ·exact(mem2 a z).elim (fun z=> .inr (n1 a z)) fun z=> .inl (Z1 _ z))
   exact⟨F',st⟩
  rcases hd with ⟨n,hx,rfl⟩|⟨hx,rfl⟩
  ·obtain⟨k1,k2⟩:=yl4 v hx
   have hn':=yc1 hx
   obtain⟨f1,rest,g2,p1,p2,p3⟩:=hr.setV (n:=n) (by rw [<-hr.length,Z7];rw [Z7] at hn';exact hn') ry2
   have mem2:∀a∈g2,a∈fy\/a∈g1:=fun a ha=>(Zn.mp (p3.mem_iff.mp ha)).elim .inl fun z=> .inr (p1.mem_iff.mpr (Ze _ z))
   have n2:l∉g2:=fun z=>(mem2 l z).elim nl2 nl
   have nd2:g2.Nodup:=p3.nodup_iff.mpr (ZA.mpr ⟨nd1,(ZA.mp (p1.nodup_iff.mp nd3)).2.1,fun a ha b hb e=>by
    subst e
    exact own0 a (Z1 _ (p1.mem_iff.mpr (Ze _ hb))) (n1 a ha)⟩)
   obtain⟨F',st⟩:=go g2 mem2 nd2 (.obj cV k1 (by rw [k2];exact p2.updL hl rfl n2))
   exact q _ _ F' st
  ·obtain⟨k1,k2⟩:=yb9 v hx
   have mem2:∀a∈g1++fy,a∈fy\/a∈g1:=fun a ha=>(Zn.mp ha).elim .inr .inl
   have n2:l∉g1++fy:=fun z=>(mem2 l z).elim nl2 nl
   have nd2:(g1++fy).Nodup:=ZA.mpr ⟨nd3,nd1,fun a ha b hb e=>by
    subst e
    exact own0 a (Z1 _ ha) (n1 a hb)⟩
   obtain⟨F',st⟩:=go (g1++fy) mem2 nd2 (.obj cV k1 (by rw [k2];exact(Reps.append hr (Reps.one ry2)).updL hl rfl n2))
   exact q _ _ F' st
end
structure Mn(K:tz0)(κ:tz9)(C m qual:Str)(st:Stmt)(ps:List Str)(f:Addr)(fd:FuncData):Prop where
 F:Fun K m qual st f fd
 b:lI K fd ps []
 c:Cls K (κ C)
 h:Meth K (κ C) m f
def zm5(C m:Str)(fo:tz2):tz2:=fun ps=>(fo ps).bind fun d=>match d with
 | .obj true C' ns vs=>if (C'=C/\cJ ns m=none) then some (.obj true C' ns vs) else none
 |_=>none
theorem yr6(h:zm5 C m fo ps=some d):∃ns vs,d= .obj true C ns vs/\fo ps=some d/\cJ ns m=none:=by
 obtain⟨x,e1,e2⟩:=bind_some h
 cases x with
 | obj o C' ns vs=>cases o with
  |true=>
   have e2':(if (C'=C/\cJ ns m=none) then some (D.obj true C' ns vs) else none)=some d:=e2
   obtain⟨⟨hC,hn⟩,e3⟩:=bK e2'
   subst hC;cases e3
   exact⟨ns,vs,rfl,e1,hn⟩
  |false=>cases e2
 |_=>cases e2
theorem qB:∀{fs:List (Str×V)} {m:Str},cJ (fs.map (·.1)) m=none->fs.lookup m=none
 |[],_,_=>rfl
 | (g,x)::r,m,h=>by
  rw [Z8,cJ] at h
  by_cases z:g=m
  ·have z':(g,x).1=m:=z
   rw [if_pos z'] at h;cases h
  ·have z':¬(g,x).1=m:=z
   rw [if_neg z'] at h
   have ih:=qB (W2.mp h)
   rw [Zz]
   have:(m==g)=false:=by
    rw [Y8];exact fun e=>z e.symm
   rw [this];exact ih
section
variable{X:Cx}{κ:tz9}{o e:Expr}{es:List Expr}{C m qual:Str}{st:Stmt}{ps:List Str}{f:Addr}{fd:FuncData}{k np:Nat}{h:tz6}{fo:tz2}{g:tz3}{apos pos p:Pos}{pl:Sem Bool}
theorem xl1(M:Mn X.K κ C m qual st ps f fd)(G:FnOk X.prog X.w X.K X.mg X.base CX0 k f fd ps (SpP 1 X.K κ h))(hr:Room k X.A)(ho:QV X κ o fo)
  (ht:eval (.Call (.Attribute o m apos) [] [] pos) X.env=(do
   let ov<-eval o X.env
   standAt apos.atName
   let (f,first)<-holding [ov] (getMethod ov m pl)
   callWith pos f first (backTo pos (starEach [] X.env)) (backToKw pos (keywordEach [] X.env))):=by rfl):
  QP X κ (.Call (.Attribute o m apos) [] [] pos) (aG h (aA (zm5 C m fo) aE)):=(xi5 ho M.c M.h G hr M.b .nil zc5 ht).imp fun σ H Q hh_=>by
 obtain⟨ps,d,w,e,q⟩:=hh_
 obtain⟨ds,e1,e2⟩:=bind_some e
 obtain⟨x,k1,k2⟩:=bind_some e1
 obtain⟨ds',k3,k4⟩:=bind_some k2
 cases k4;cases k3
 obtain⟨ns,vs,rfl,k5,k6⟩:=yr6 k1
 refine⟨ps,_,w,k5,fun v H1 fp s1 r1=> ?_⟩
 have r1':=r1
 obtain⟨_,_,_,_,rfl,hl,hn,hs,rfl⟩:=r1.objT_inv
 subst hn
 exact⟨_,_,_,rfl,hl,qB k6,rfl,_,_,d,Reps.one r1',e2,q.after s1⟩
end
def oR:Nat->Bool:=fun i=>decide (i=0)
def vC(fd:List Addr):Nat->List Addr:=fun i=>if i=0 then fd else []
theorem lR(h:a∈vC fd i):i=0/\a∈fd:=by
 unfold vC at h
 by_cases z:i=0
 ·rw [if_pos z] at h;exact⟨z,h⟩
 ·rw [if_neg z] at h;exact absurd h (by simp)
theorem zj5{K:tz0}{κ:tz9}{H:Hp}{v:V}{vs:List V}{d:D}{ds:List D}{fd:List Addr}(r:Rep K κ H v d fd)(nd:fd.Nodup)(rs:Reps K κ H vs ds []):
  RS (fxE K κ (ds.length+1) oR) H ((v::vs).map some) ((d::ds).map some) (vC fd):=by
 refine⟨fun i x hx=> ?_,fun i a ha=> ?_,fun i j a h1 h2=> ?_,fun i=> ?_,fun i a _ k z=>z.elim,fun k a z=>z.elim,by simp [rs.length]⟩
 ·cases i with
  |zero=>
   simp at hx;subst hx
   exact⟨v,fd,rfl,r,fun _=>rfl,fun z=>by simp [fxE,oR] at z⟩
  | succ i=>
   rw [Z8,Yv,Zd] at hx
   obtain⟨y,hy,e⟩:=Zp.mp hx
   cases e
   obtain⟨u,f1,k1,k2,k3⟩:=rs.get hy
   have ef:f1=[]:=by
    cases f1 with
    |nil=>rfl
    |cons b l=>exact absurd (k3 b Z0) (by simp)
   subst ef
   exact⟨u,[],by rw [Z8,Yv,Zd,k1];rfl,k2,(fun _=>by simp [vC]),fun _ a ha=>absurd ha (by simp)⟩
 ·obtain⟨e,h⟩:=lR ha
  subst e
  exact⟨by simp [fxE,oR],d,rfl⟩
 ·rw [(lR h1).1,(lR h2).1]
 ·unfold vC;split
  ·exact nd
  ·exact Zk
def zy6:List Arg->Bool
 |[]=>true
 | .im _::as=>zy6 as
 | .io _::_=>false
theorem ArgsAt.reps{K:tz0}{κ:tz9}{H:Hp}{σ:St}{ps:PSt}:∀{as:List Arg} {vs:List V} {ds:List D},ArgsAt K κ H σ ps as vs ds->zy6 as=true->Reps K κ H vs ds []
 |_,_,_,.nil,_=> .nil
 |_,_,_,.io _ _ _,h=>by cases h
 |_,_,_,.im r a,h=> .cons (f:=[]) (g:=[]) r (ArgsAt.reps a h)
def dZ(C m:Str)(g:tz7)(ys:List D)(d:D):Option (D×D):=match d with
 | .obj true C' ns vs=>if (C'=C/\cJ ns m=none) then(g (.obj true C' ns vs::ys)).bind fun r=>match r.2 with
   |d'::ds=>if ds.length=ys.length then some (r.1,d') else none
   |[]=>none
  else none
 |_=>none
theorem zj6(h:dZ C m g ys d=some (r,d')):∃ns vs ds,d= .obj true C ns vs/\cJ ns m=none/\g (d::ys)=some (r,d'::ds)/\ds.length=ys.length:=by
 unfold dZ at h
 split at h
 ·rename_i C' ns vs
  by_cases hc:C'=C/\cJ ns m=none
  ·rw [if_pos hc] at h
   obtain⟨hC,hn⟩:=hc
   subst hC
   obtain⟨⟨r1,ds⟩,e1,e2⟩:=bind_some h
   cases ds with
   |nil=>cases e2
   |cons d1 ds=>
    obtain⟨hl,e3⟩:=bK e2
    cases e3
    exact⟨ns,vs,ds,rfl,hn,e1,hl⟩
  ·rw [if_neg hc] at h;cases h
 ·cases h
section
variable{X:Cx}{κ:tz9}{φ:F0}{o e:Expr}{es:List Expr}{C m qual:Str}{st:Stmt}{ps:List Str}{f:Addr}{fd:FuncData}{k np j:Nat}{mk:Nat->Bool}{g:tz7}{pf:PSt->Option (List Ps1)}{as:List Arg}{apos pos p:Pos}{pl:Sem Bool}
theorem xl2{σ:St}{H H1:Hp}{Q:VK}{ps:PSt}{F:Nat->List Addr}{d0 d0' r:D}{pp:List Ps1}{v0 v:V}{ys:List D}{us:List V}(R:RS (φ.fx X.K κ) H σ ps F)(s1:SameK H H1)(hb:φ.bor j=false)(e0:ps[j]? =some (some d0))(ev:σ[j]? =some (some v0))
  (em:gC (dZ C m g ys) d0 pp=some (r,d0')) (at_:At H1 v0 pp v) (ry:Reps X.K κ H1 us ys []) (hnp:np=ys.length+1) (hm:mk=oR)
  (q:∀v H' F' fv,Stp (φ.fx X.K κ) σ H F σ H' (ps.set j (some d0')) F'->OwnV F H F' fv->Rep X.K κ H' v r fv->Q v H'):SpE np X.K κ mk g (v::us) H1 Q E0:=by
 subst hnp hm
 obtain⟨d1,d1',fd,m1,m2,m3,m4,m5⟩:=wB R s1 hb e0 ev em at_
 obtain⟨ns,vs,ds,rfl,hn,eg,hl⟩:=zj6 m2
 refine⟨by rw [Z6,ry.length],_,r,d1'::ds,vC fd,by simp,zj5 m1 m3 ry,eg,fun u H' F' fv s o rv=> ?_⟩
 obtain⟨v2,fp2,k1,k2,k3,_⟩:=s.rs.rep 0 d1' rfl
 have ek:v2=v:=by
  have:(List.map some (v::us))[0]? =some (some v2):=k1
  simp at this;exact this.symm
 subst ek
 have k3':=k3 (by simp [fxE,oR])
 subst k3'
 have old:∀a,((∃i,a∈vC fd i)\/H1 a=none)->a∈fd\/H a=none:=fun a h=>h.elim (fun⟨i,hi⟩=> .inl (lR hi).2) fun z=> .inr (s1.grow a z)
 obtain⟨F2,st2,ow2⟩:=m5 H' (F' 0) fv (fun a o h k hn=>s.fr.keep a o h k fun i hi=>hn (lR hi).2) (fun a h=>s.fr.grow a h) k2
  (ZA.mpr ⟨s.rs.nd 0,o.nd,fun a ha b hb e=>by subst e;exact o.dis 0 a ha hb⟩)
  (fun a ha=>(Zn.mp ha).elim (fun z=>old a (s.nw 0 a z)) fun z=>old a (o.nw a z))
 exact q u H' F2 fv st2 ow2 rv
theorem xl3{σ:St}{H H1:Hp}{ps:PSt}{F:Nat->List Addr}{d0 d0' r:D}{pp:List Ps1}{v0 v:V}{ys:List D}(R:RS (φ.fx X.K κ) H σ ps F)(s1:SameK H H1)(e0:ps[j]? =some (some d0))(ev:σ[j]? =some (some v0))
  (em:gC (dZ C m g ys) d0 pp=some (r,d0')) (at_:At H1 v0 pp v):∃a dx fs,v= .ref a/\H1 a=some (.ins (κ C) dx fs)/\fs.lookup m=none:=by
 obtain⟨dd,dn,gp,hh⟩:=nM em
 obtain⟨ns,vs,ds,rfl,hn,_⟩:=zj6 hh
 obtain⟨fd,rd⟩:=zo7 R.ws s1 e0 ev gp at_
 obtain⟨_,_,_,_,rfl,hl,hk,hs,rfl⟩:=rd.objT_inv
 subst hk;exact⟨_,_,_,rfl,hl,qB hn⟩
theorem kZ(M:Mn X.K κ C m qual st ps f fd)(G:FnOk X.prog X.w X.K X.mg X.base CX0 k f fd ps (SpE np X.K κ mk g))(hr:Room k X.A)(hb:φ.bor j=false)(ho:PE X o (oP X.K κ j pf))(ha:PA X (e::es) (tIO X.K κ as))(has:zy6 as=true)(hnp:np=as.length+1)(hm:mk=oR)
  (hst:StE e es X:=by rfl) (hpl:BkE pos es X:=by rfl)
  (ht:eval (.Call (.Attribute o m apos) (e::es) [] pos) X.env=(do
   let ov<-eval o X.env
   standAt apos.atName
   let (f,first)<-holding [ov] (getMethod ov m pl)
   callWith pos f first (backTo pos (starEach (e::es) X.env)) (backToKw pos (keywordEach [] X.env))):=by rfl):
  QE X κ φ (.Call (.Attribute o m apos) (e::es) [] pos) (cZ j pf (bY as) (dZ C m g)):=(xt6 ho M.c M.h G hr M.b .nil zc5 ha hst hpl ht).imp fun σ H Q hh_=>by
 obtain⟨ps,F,d,ps',R,e,q⟩:=hh_
 obtain⟨d0,pp,ys,d0',e0,ep,eg,em,rfl⟩:=zK e
 obtain⟨dd,dn,gp,hh⟩:=nM em
 refine⟨ps,pp,d0,dd,R.ws,e0,ep,gp,fun v H1 v0 s1 ev a1=> ?_⟩
 obtain⟨a,dx,fs,rfl,hl,hn⟩:=xl3 R s1 e0 ev em a1
 refine⟨a,dx,fs,rfl,hl,hn,ps,ys,R.ws.same s1,eg,fun us H2 s2 a2=> ?_⟩
 show SpE np X.K κ mk g (_::(us++[])) H2 Q E0
 rw [Zl]
 exact xl2 R (s1.trans s2) hb e0 ev em (a1.same s2) (a2.reps has) (by rw [hnp,a2.len.2]) hm q
end
structure Kn(K:tz0)(mg:tzA)(κ:tz9)(C qual:Str)(st:Stmt)(ps:List Str)(f:Addr)(fd:FuncData):Prop where
 F:Fun K "__init__" qual st f fd
 b:lI K fd ps []
 M:Mk K (κ C) f
 m:mg C=some (.ref (κ C))
def eU(C:Str)(ga:tz3)(g:tz7):tz2:=fun ps=>(ga ps).bind fun ys=>(g (.obj true C [] []::ys)).bind fun r=>match r with
 |(.non,d'::_)=>some d'
 |_=>none
theorem yr7(h:eU C ga g ps=some d):∃ys ds,ga ps=some ys/\g (.obj true C [] []::ys)=some (.non,d::ds):=by
 obtain⟨ys,e1,e2⟩:=bind_some h
 obtain⟨⟨r,ds⟩,e3,e4⟩:=bind_some e2
 cases r with
 |non=>cases ds with
  |nil=>cases e4
  |cons d1 ds=>cases e4;exact⟨ys,ds,e1,e3⟩
 |_=>cases e4
section
variable{X:Cx}{κ:tz9}{e:Expr}{es:List Expr}{C qual:Str}{st:Stmt}{ps:List Str}{f:Addr}{fd:FuncData}{k np:Nat}{mk:Nat->Bool}{g:tz7}{as:List Arg}{pos p:Pos}
theorem xv8{H H1:Hp}{Q:VK}{d:D}{ys ds:List D}{us:List V}{x dx:Addr}(s1:SameK H H1)(hx:H1 x=none)(hdx:H1 dx=none)(hne:dx≠x)(ry:Reps X.K κ H1 us ys [])(hnp:np=ys.length+1)(hm:mk=oR)(eg:g (.obj true C [] []::ys)=some (.non,d::ds))(q:lF X.K κ H d Q):
  SpE np X.K κ mk g (.ref x::us) (upd (upd H1 dx (.own x)) x (.ins (κ C) dx [])) (fun v H2=>v= .non/\Q (.ref x) H2) E0:=by
 subst hnp hm
 have ne:∀a o,H1 a=some o->a≠x/\a≠dx:=fun a o h=>⟨fun z=>(by rw [z,hx] at h;cases h),fun z=>(by rw [z,hdx] at h;cases h)⟩
 have up:∀a o,H1 a=some o->upd (upd H1 dx (.own x)) x (.ins (κ C) dx []) a=some o:=fun a o h=>by rw [bE (ne a o h).1,bE (ne a o h).2];exact h
 have gr:∀a,upd (upd H1 dx (.own x)) x (.ins (κ C) dx []) a=none->H1 a=none:=fun a h=>by
  by_cases z:a=x
  ·rw [z];exact hx
  ·rw [bE z] at h
   by_cases z2:a=dx
   ·rw [z2];exact hdx
   ·rwa [bE z2] at h
 have s2:SameK H1 (upd (upd H1 dx (.own x)) x (.ins (κ C) dx [])):=⟨fun a o h _=>up a o h,gr⟩
 have r0:Rep X.K κ (upd (upd H1 dx (.own x)) x (.ins (κ C) dx [])) (.ref x) (.obj true C [] []) [x]:= .obj (fs:=[]) cV rfl .nil
 have ry2:Reps X.K κ (upd (upd H1 dx (.own x)) x (.ins (κ C) dx [])) us ys []:=ry.move (fun a o h _=>up a o h) fun a ha=>absurd ha (by simp)
 refine⟨by rw [Z6,ry.length],_,.non,d::ds,vC [x],by simp,zj5 r0 (by simp) ry2,eg,fun u H' F' fv s o rv=>⟨by cases rv;rfl,?_⟩⟩
 obtain⟨v2,fp2,k1,k2,k3,_⟩:=s.rs.rep 0 d rfl
 have ek:v2= .ref x:=by
  have:(List.map some (V.ref x::us))[0]? =some (some v2):=k1
  simp at this;exact this.symm
 subst ek
 have k3':=k3 (by simp [fxE,oR])
 subst k3'
 refine q (.ref x) H' (F' 0) ⟨fun a o h hk=> ?_,fun a h=>s1.grow a (gr a (s.fr.grow a h))⟩ (fun a ha=> ?_) (s.rs.nd 0) k2
 ·have h1:=s1.keep a o h hk
  refine s.fr.keep a o (up a o h1) hk fun i hi=> ?_
  have:=(lR hi).2
  simp at this
  exact(ne a o h1).1 this
 ·rcases s.nw 0 a ha with ⟨i,hi⟩|z
  ·have:=(lR hi).2
   simp at this
   subst this
   exact s1.grow a hx
  ·exact s1.grow a (gr a z)
theorem mM(Kd:Kn X.K X.mg κ C qual st ps f fd)(G:FnOk X.prog X.w X.K X.mg X.base CX0 k f fd ps (SpE np X.K κ mk g))(hr:Room (k+1) X.A)(hg:Gl X C)(ha:PA X (e::es) (tIO X.K κ as))(has:zy6 as=true)(hnp:np=as.length+1)(hm:mk=oR)
  (hdb:NDb C:=by decide) (he:StE e es X:=by rfl) (hpl:BkE pos es X:=by rfl):
  QP X κ (.Call (.Name C p) (e::es) [] pos) (eU C (bY as) g):=(xt7 Kd.M G hr hg Kd.m Kd.b .nil zc5 ha hdb he hpl).imp fun σ H Q hh_=>by
 obtain⟨ps,d,w,e,q⟩:=hh_
 obtain⟨ys,ds,e1,e2⟩:=yr7 e
 refine⟨ps,ys,w,e1,fun us H1 s1 a1 x dx hx hdx hne=> ?_⟩
 show SpE np X.K κ mk g (_::(us++[])) _ _ E0
 rw [Zl]
 exact xv8 s1 hx hdx hne (a1.reps has) (by rw [hnp,a1.len.2]) hm e2 q
end
section
variable{X:Cx}{κ:tz9}
theorem xa7:MtR X "str.startswith" (fun x xs H Q=>∃z y,x= .str z/\xs=[.str y]/\Q (.bl (Txt.startswith z y)) H):=⟨by
 intro pins s σ H x xs v us Q I rx r h
 obtain⟨z,y,rfl,rfl,q⟩:=h
 obtain⟨t,rfl⟩:=rx
 obtain⟨u,rfl,t',rfl⟩:=oB r
 exact SC.startswith ⟨.bl _,H,I.tok _,rfl,q⟩⟩
def qC:D->tz6
 | .str z,[.str y]=>some (.bl (Txt.startswith z y))
 |_,_=>none
theorem yc2:MtR X "str.startswith" (PMt X.K κ qC):=⟨by
 rintro pins s σ H x vs v us Q I rx r ⟨dx,ds,fx,fp,d,r1,rs,e,q⟩
 unfold qC at e
 split at e
 ·cases e
  obtain⟨w,rfl,r2⟩:=rs.one_inv
  exact xa7 pins s σ H x _ v us Q I rx r ⟨_,_,r1.is_str,by rw [r2.is_str],q.now (.bl _)⟩
 ·cases e⟩
end
theorem dF(n:Nat):bR (true::List.replicate n false)=oR:=by
 funext i
 unfold bR oR
 cases i with
 |zero=>rfl
 |succ i=>
  rw [Yv,Yu]
  split<;>simp
def kap:List (Str×Addr)->tz9
 |[],_=>mainGlobals
 |(x,a)::r,y=>if x=y then a else kap r y
section
variable{X:Cx}{pins:tzB}{σ:St}{H:Hp}{s:Shared}{a C dx:Addr}{fs:List (Str×V)}
theorem Inv.freeze(I:Inv X pins σ H s)(h:H a=some (.ins C dx fs)):Inv X pins σ (upd H a (.frz (PySem.W.instObj C dx) (.ins C dx fs))) s:=by
 have ne:∀b,H b=none->b≠a:=fun b hb z=>by rw [z,h] at hb;cases hb
 have nt:∀b o,H b=some o->(∀C' dx' fs',o≠ .ins C' dx' fs')->b≠a:=fun b o hb ho z=>by
  rw [z,h] at hb
  cases hb
  exact ho _ _ _ rfl
 refine⟨I.ok,I.os,I.bare,⟨I.base.keep,I.base.slot,fun b o h1 h2 h3=> ?_,I.base.there,fun b xs h1=> ?_,fun b o u h1=> ?_,fun b ps h1=> ?_⟩,I.loc,I.cell,?_,fun x c e=> ?_,fun p hp=> ?_,fun b o e=> ?_,I.len⟩
 ·have:=I.base.free b o h1 h2 h3
  rw [bE (ne b this)];exact this
 ·have:=I.base.tups b xs h1
  rw [bE (nt b _ this fun _ _ _ z=>by cases z)];exact this
 ·have:=I.base.frzs b o u h1
  rw [bE (nt b _ this fun _ _ _ z=>by cases z)];exact this
 ·obtain⟨more,this⟩:=I.base.tbls b ps h1
  exact⟨more,by rw [bE (nt b _ this fun _ _ _ z=>by cases z)];exact this⟩
 ·rw [bE (ne _ I.free)];exact I.free
 ·have:=I.freeC x c e
  rw [bE (ne _ this)];exact this
 ·obtain⟨p1,p2,p3⟩:=I.pin p hp
  exact⟨p1,by rw [bE (ne _ p2)];exact p2,p3⟩
 ·have st:∀{b o},dI X.prog X.w H s.heap b o->dI X.prog X.w (upd H a (.frz (PySem.W.instObj C dx) (.ins C dx fs))) s.heap b o:=fun x=>
   x.stay (fun _ _ _ q=>q) (fun b' hb=>by rw [bE (nt b' _ hb fun _ _ _ z=>by cases z)];exact hb) fun b' xs hb=>by rw [bE (nt b' _ hb fun _ _ _ z=>by cases z)];exact hb
  by_cases z:b=a
  ·subst z
   rw [cV] at e
   cases e
   have x:=I.hok b _ h
   obtain⟨_,_,_,ob,_⟩:=(show dI X.prog X.w H s.heap b (.ins C dx fs) from x)
   exact⟨ob,st x⟩
  ·rw [bE z] at e
   exact st (I.hok b o e)
end
theorem PE.frz(h:PE X e t):PE X e (fun σ H Q=>t σ H fun x H'=>∃a C dx fs,x= .ref a/\H' a=some (.ins C dx fs)/\Q x (upd H' a (.frz (PySem.W.instObj C dx) (.ins C dx fs)))):=⟨by
 intro pins s σ H Q I q
 exact thn (h pins s σ H _ I q) fun v s1 ⟨x,H1,I1,rx,a,C,dx,fs,ex,ea,q1⟩=>⟨x,_,I1.freeze ea,rx,q1⟩⟩
def mX(f:tz2):tz2:=fun ps=>(f ps).bind fun d=>match d with
 | .obj true C ns vs=>if D.imms vs=true then some (.obj false C ns vs) else none
 |_=>none
theorem zj7(h:QP X κ e f):QP X κ e (mX f):=
 (PE.frz h).imp fun σ H Q hh_=>by
  obtain⟨ps,d,w,e,q⟩:=hh_
  obtain⟨d0,e1,e2⟩:=bind_some e
  refine⟨ps,d0,w,e1,fun v H1 fv s1 n1 nd1 r1=> ?_⟩
  cases d0 with
  | obj o C ns vs=>cases o with
   | true=>
    have e2':(if D.imms vs=true then some (D.obj false C ns vs) else none)=some d:=e2
    obtain⟨hi,e3⟩:=bK e2'
    cases e3
    obtain⟨l,dx,fs,g,rfl,hl,hn,hs,rfl⟩:=r1.objT_inv
    have eg:=hs.imm hi
    subst eg
    have hln:=n1 l Z0
    have up:∀b o,H b=some o->b≠l:=fun b o hb z=>by rw [z,hln] at hb;cases hb
    refine⟨l,κ C,dx,fs,rfl,hl,q (.ref l) _ [] ⟨fun b o hb hk=> ?_,fun b hb=> ?_⟩ (fun _ h=>absurd h (by simp)) Zk (.objF cV hn (hs.move (fun b o hb ht=> ?_) fun _ h=>absurd h (by simp)))⟩
    ·rw [bE (up b o hb)];exact s1.keep b o hb hk
    ·by_cases z:b=l
     ·rw [z,cV] at hb;cases hb
     ·rw [bE z] at hb;exact s1.grow b hb
    ·by_cases z:b=l
     ·rw [z,hl] at hb;cases hb;cases ht
     ·rw [bE z];exact hb
   |false=>cases e2
  |_=>cases e2
def xq0:D->Option (List D)
 | .tup ds=>some ds
 |_=>none
theorem xa8(h:xq0 d=some ys):d= .tup ys:=by
 unfold xq0 at h
 split at h
 ·cases h;rfl
 ·cases h
def nA(is:List Nat)(f:tz1):List D->tz1
 |[],ps=>some (.nx,ps)
 | d::ds,ps=>(xq0 d).bind fun ys=>if ys.length=is.length then(f (vU ps is ys)).bind fun q=>match q with
   |(.nx,p)=>nA is f ds p
   |(.ct,p)=>nA is f ds p
   |(.bk,p)=>some (.nx,p)
   |(.ret d,p)=>some (.ret d,p)
  else none
def zy7(is:List Nat)(fi:tz3)(f:tz1):tz1:=fun ps=>(fi ps).bind fun ds=>nA is f ds ps
def yv1:D->Option (List D)
 | .lst true xs=>if D.imms xs=true then some xs else none
 |_=>none
theorem yr8(h:yv1 d=some xs):d= .lst true xs/\D.imms xs=true:=by
 unfold yv1 at h
 split at h
 ·obtain⟨h1,h2⟩:=bK h
  cases h2
  exact⟨rfl,h1⟩
 ·cases h
def DkT{α:Type}:Sem α->Prop
 | .pure _=>True
 | .raise _=>True
 | .unsupported _=>True
 | .rule _ k=>∀x,DkT (k x)
 | .at _ k=>∀x,DkT (k x)
 | .load _ _ k=>∀x,DkT (k x)
 | .update _ _ f k=>(∀o:Obj,(f o).dict=o.dict)/\∀x,DkT (k x)
 | .alloc _ k=>∀x,DkT (k x)
 | .stack k=>∀x,DkT (k x)
 |_=>False
theorem DkT.bind{α β:Type}{f:α->Sem β}(hf:∀a,DkT (f a)):∀{m:Sem α},DkT m->DkT (m>>=f):=by
 intro m
 show DkT m->DkT (m.bind f)
 induction m with
 |pure a=>exact fun _=>hf a
 |raise=>exact fun _=>trivial
 |unsupported=>exact fun _=>trivial
 |rule _ k ih=>exact fun h x=>ih x (h x)
 |«at» _ k ih=>exact fun h x=>ih x (h x)
 |load _ _ k ih=>exact fun h x=>ih x (h x)
 |update _ _ f k ih=>exact fun h=>⟨h.1,fun x=>ih x (h.2 x)⟩
 |alloc _ k ih=>exact fun h x=>ih x (h x)
 |stack k ih=>exact fun h x=>ih x (h x)
 |_=>exact fun h=>h.elim
def KDs(h h':Heap):Prop:=∀(b:Nat) (o:Obj),h.objs[b]? =some o->∃o':Obj,h'.objs[b]? =some o'/\o'.dict=o.dict
theorem KDs.refl(h:Heap):KDs h h:=fun b o e=>⟨o,e,rfl⟩
theorem KDs.trans(x:KDs a b)(y:KDs b c):KDs a c:=fun i o e=>by
 obtain⟨o1,e1,q1⟩:=x i o e
 obtain⟨o2,e2,q2⟩:=y i o1 e1
 exact⟨o2,e2,q2.trans q1⟩
theorem yr9(d:∀o:Obj,(f o).dict=o.dict)(h:Heap):KDs h (h.update a f):=fun b o e=>by
 obtain⟨os,l⟩:=h
 show ∃o':Obj,(os.modify a f)[b]? =some o'/\o'.dict=o.dict
 have e':os[b]? =some o:=e
 rw [Array.getElem?_modify,e']
 split
 ·exact⟨_,rfl,d o⟩
 ·exact⟨o,rfl,rfl⟩
theorem xl4(h:Heap)(x:Obj):KDs h (h.push x):=fun b o e=>by
 obtain⟨os,l⟩:=h
 have e':os[b]? =some o:=e
 refine⟨o,?_,rfl⟩
 show(os.push x)[b]? =some o
 have hl:=(Array.getElem?_eq_some_iff.mp e').1
 rw [Array.getElem?_push,if_neg (ZG hl)];exact e'
theorem wk8:∀(t:Sem α),DkT t->∀{Q:α->Pos->Shared->Prop} (p:Pos) (s:Shared),Sem.wp M Γ t Q E p s->Sem.wp M Γ t (fun a p s'=>Q a p s'/\KDs s.heap s'.heap) E p s:=by
 intro t
 have up:∀{t:Sem α} {Q:α->Pos->Shared->Prop} {p:Pos} {s:Shared} {h:Heap},KDs h s.heap->Sem.wp M Γ t (fun a p s'=>Q a p s'/\KDs s.heap s'.heap) E p s->Sem.wp M Γ t (fun a p s'=>Q a p s'/\KDs h s'.heap) E p s:=fun k x=>Sem.wp_mono M Γ _ (fun _ _ _ z=>⟨z.1,k.trans z.2⟩) (fun _ _ _ z=>z) _ _ x
 induction t with
 |pure a=>exact fun _ Q p s h=>⟨h,.refl _⟩
 |raise e=>exact fun _ Q p s h=>h
 |unsupported=>exact fun _ Q p s h=>h
 |rule _ k ih=>exact fun d Q p s h=>ih () (d ()) p s h
 |«at» p' k ih=>exact fun d Q p s h=>ih () (d ()) p' s h
 |load a _ k ih=>exact fun d Q p s h=>by obtain⟨o,e,h⟩:=h;exact⟨o,e,ih o (d o) p s h⟩
 |update a _ f k ih=>exact fun d Q p s h=>⟨h.1,up (yr9 d.1 _) (ih () (d.2 ()) p _ h.2)⟩
 |alloc o k ih=>exact fun d Q p s h=>up (t:=k s.heap.objs.size) (s:={s with heap:=s.heap.push o}) (xl4 _ o) (ih _ (d _) p _ h)
 |stack k ih=>exact fun d Q p s h=>ih _ (d _) p s h
 |_=>exact fun d=>d.elim
theorem yc3(d:DkT t)(h:wpAny M A t Q E s):wpAny M A t (fun a s'=>Q a s'/\KDs s.heap s'.heap) E s:=
 fun Γ p hΓ=>wk8 t d p s (h Γ p hΓ)
theorem zp1(o:Obj)(f:Array Value->Array Value):(Obj.mapFields f o).dict=o.dict:=by
 unfold Obj.mapFields
 split<;>rfl
theorem zp2:DkT (load a):=fun _=>trivial
theorem xE{v:Value}{i:Nat}:DkT (field v i):=by
 unfold field fieldsOf
 refine DkT.bind (fun _=>by split<;>trivial) ?_
 split
 ·exact DkT.bind (fun _=>by split<;>trivial) zp2
 ·trivial
theorem yc4{v x:Value}{i:Nat}:DkT (setField v i x):=by
 unfold setField updateField
 split
 ·refine DkT.bind (fun _=> ?_) zp2
  split
  ·split
   ·exact⟨fun o=>zp1 o _,fun _=>trivial⟩
   ·trivial
  ·trivial
 ·trivial
theorem xa9{e:Value}{f:Option Addr}:DkT (setFlight e f):=by
 unfold setFlight
 refine DkT.bind (fun _=> ?_) xE
 split
 ·exact yc4
 ·trivial
theorem yc5:∀l:List Env,DkT (readyFrames l)
 |[]=>trivial
 | env::outer=>by
  unfold readyFrames
  split
  ·refine DkT.bind (fun _=> ?_) zp2
   split
   ·trivial
   ·refine DkT.bind (fun _=>DkT.bind (fun _=>DkT.bind (fun _=>yc5 outer) (by exact⟨fun _=>rfl,fun _=>True.intro⟩)) ?_) ?_
    ·unfold keptBack
     split
     ·split
      ·trivial
      ·exact DkT.bind (fun _=>by exact True.intro) (DkT.bind (fun _=>by exact True.intro) (by exact fun _=>True.intro))
     ·trivial
    ·unfold behindIsImport
     split
     ·trivial
     ·split
      ·trivial
      ·exact DkT.bind (fun _=>by exact True.intro) xE
  ·trivial
theorem xv9{e:Value}{env:Env}:DkT (noteFrame e env):=by
 unfold noteFrame
 split
 ·refine DkT.bind (fun hd=> ?_) xE
  have nw:∀{f:Addr} {b:Bool},DkT (do setField e 1 (<-EntryCells.newEntry hd (<-PySem.frameOf env) .none (rawInt f) .none (<-entryPlaceOf f b))):=fun {f b}=>by
   refine DkT.bind (fun _=>DkT.bind (fun _=>DkT.bind (fun _=>yc4) ?_) ?_) ?_
   ·unfold EntryCells.newEntry newFields newObj newObjAsIs
    dsimp only
    split<;>split<;>first|exact True.intro|exact fun _=>True.intro
   ·unfold entryPlaceOf
    refine DkT.bind (fun _=> ?_) (by exact fun _=>True.intro)
    split<;>trivial
   ·unfold PySem.frameOf
    refine DkT.bind (fun _=>DkT.bind (fun _=>by split<;>trivial) ?_) (DkT.bind (fun _=>by exact True.intro) (by exact fun _=>True.intro))
    unfold frameObject
    split
    ·trivial
    ·exact DkT.bind (fun _=>by exact True.intro) (yc5 _)
  split
  ·refine DkT.bind (fun _=> ?_) xE
   split
   ·exact True.intro
   ·exact DkT.bind (fun _=>nw) yc4
  ·exact nw
 ·trivial
theorem yc6{e:Value}{env:Env}:DkT (leaving env e):=DkT.bind (fun _=>xa9) xv9
def KD(e:Addr)(dd:Option Addr)(h:Heap):Prop:=∃o,h.get? e=some o/\o.dict=dd
theorem yc7{h:Heap}{e:Addr}{o:Obj}(q:h.get? e=some o):h.objs[e]? =some o:=by
 unfold Heap.get? at q
 split at q
 ·cases q
 ·exact q
theorem KD.step{e:Addr}{dd:Option Addr}{h h':Heap}(k:KD e dd h)(s:KDs h h')(t:∃o,h'.get? e=some o):KD e dd h':=by
 obtain⟨o,q1,q2⟩:=k
 obtain⟨o',q3⟩:=t
 obtain⟨o2,q4,q5⟩:=s e o (yc7 q1)
 rw [yc7 q3] at q4
 cases q4
 exact⟨o',q3,q5.trans q2⟩
section
variable{M:Model}{A:Around}{E:Value->Shared->Prop}{s:Shared}{base:Heap}{env:Env}{outer:List Env}{L e:Addr}{oe:Obj}{vs:Array Value}{dd:Option Addr}{cls a0:Value}
theorem ys0(fr:A.frames=some (env::outer))(hf:env.frame=some L)(fl:Heap.FlyingW base (env::outer) e cls a0 s.heap)(kd:KD e dd s.heap)(q:∀h',Heap.FlyingW base outer e cls a0 h'->s.heap.UpToSlots h'->KD e dd h'->Q () {s with heap:=h'}):wpAny M A (leaving env (.ref e)) Q E s:=
 ZN (yc3 yc6 (wpAny_leaves_onW (Q:=fun _ s'=>∃h',s'={s with heap:=h'}/\Heap.FlyingW base outer e cls a0 h'/\s.heap.UpToSlots h') fr hf fl fun h' x y=>⟨h',rfl,x,y⟩)) (fun _ _ h=>by
  obtain⟨⟨h',rfl,x,y⟩,z⟩:=h
  exact q h' x y (kd.step z (x.there.imp fun _ w=>w.1))) fun _ _ h=>h
theorem xb0(fr:A.frames=some (env::outer))(ff:s.heap.FunFrames base (env::outer))(hf:env.frame=some L)(he:s.heap.get? e=some oe)(kb:base.StaysIn s.heap)(en:base.get? e=none)(hd:oe.data= .fields vs)(h1:vs[1]? =some .none)(h0:vs[0]? =some a0)(kd:oe.dict=dd)
  (q:∀h',Heap.LeftW base (env::outer) e oe.cls a0 s.heap h'->KD e dd h'->Q () {s with heap:=h'}):wpAny M A (leaving env (.ref e)) Q E s:=
 ZN (yc3 yc6 (wpAny_leaving_firstW (Q:=fun _ s'=>∃h',s'={s with heap:=h'}/\Heap.LeftW base (env::outer) e oe.cls a0 s.heap h') fr ff hf he kb en hd h1 h0 fun h' x=>⟨h',rfl,x⟩)) (fun _ _ h=>by
  obtain⟨⟨h',rfl,x⟩,z⟩:=h
  exact q h' x (KD.step ⟨oe,he,kd⟩ z (x.2.2.1.at.there.imp fun _ w=>w.1))) fun _ _ h=>h
end
theorem dI.get(x:dI P w H h a o):∃u,h.get? a=some u:=by
 cases o with
 |lst xs=>obtain⟨_,_,_,_,e⟩:=x;exact⟨_,e⟩
 |tup xs=>obtain⟨_,_,_,_,e,_⟩:=x;exact⟨_,e⟩
 |dK kvs=>obtain⟨_,_,_,_,o,_,_,e,_⟩:=x;exact⟨_,e⟩
 |dT kvs=>obtain⟨_,_,_,_,o,_,_,e,_⟩:=x;exact⟨_,e⟩
 |set S n=>obtain⟨o,_,_,_,e,_⟩:=x;exact⟨_,e⟩
 |ins C dx fs=>obtain⟨_,_,_,e,_⟩:=x;exact⟨_,e⟩
 |own y=>exact x
 |xd fs=>obtain⟨_,⟨_,_,_,e,_⟩,_⟩:=x;exact⟨_,e⟩
 |rng lo hi=>obtain⟨_,_,_,e⟩:=x;exact⟨_,e⟩
 |frz ob u=>obtain⟨e,_⟩:=x;exact⟨_,e⟩
 |tbl ps=>exact⟨_,(show h.get? a=some _ from x)⟩
 |met f y=>exact⟨_,(show h.get? a=some _ from x)⟩
 |ext φ=>obtain⟨_,e,_⟩:=x;exact e
theorem HOk.none_of(x:HOk P w H h){a:Addr}(e:h.get? a=none):H a=none:=by
 cases q:H a with
 |none=>rfl
 |some o=>obtain⟨u,z⟩:=(x a o q).get;rw [e] at z;cases z
theorem HOk.but(x:HOk P w H h)(k:∀b o u,H b=some o->h.get? b=some u->h'.get? b=some u):HOk P w H h':=fun a o e=>
 (x a o e).stay (fun b u hb q=>by
  rcases hb with rfl|hb
  ·exact k _ _ _ e q
  ·exact k _ _ _ hb q) (fun _ q=>q) fun _ _ q=>q
theorem zt7(e:(PySem.W.hideAll h as).get? b=none):b∈as\/h.get? b=none:=by
 cases q:h.get? b with
 |none=>exact .inr rfl
 |some o=>
  by_cases m:b∈as
  ·exact .inl m
  ·rw [Y9 as q m] at e;cases e
theorem yl5(h:env∈l)(e:env.frame=some a):a∈frs l:=YK.mpr ⟨env,h,e⟩
structure Fly(base:Heap)(C:Addr)(l:List Env)(H:Hp)(h0:Heap)(e T:Addr)(a0:Value)(h:Heap):Prop where
 ne:h0.get? e=none
 nT:h0.get? T=none
 He:H e=none
 HT:H T=none
 st:base.StaysIn h
 be:base.get? e=none
 bT:base.get? T=none
 fr:h.FunFrames base l
 tr:∃oe vs oT ts,h.get? e=some oe/\(oe.cls= .ref C/\vs[0]? =some a0)/\oe.data= .fields vs/\vs[1]? =some (.ref T)/\T≠e/\h.get? T=some oT/\oT.data= .fields ts/\ts[3]? =some .none
abbrev xq1(h:Heap)(l:List Env)(e T:Addr):Heap:=PySem.W.hideAll h (e::T::frs l)
section
variable{base h0 h:Heap}{C e T:Addr}{l:List Env}{H:Hp}{a0:Value}
theorem Fly.flying(x:Fly base C l H h0 e T a0 h):Heap.FlyingW (xq1 h l e T) l e (.ref C) a0 h:=by
 obtain⟨oe,vs,oT,ts,h1,h2,h3,h4,h5,h6,h7,h8⟩:=x.tr
 refine⟨fun b o q=>Xj _ q,YF _ Z0,W3 x.fr fun env m a q=>Z1 _ (Z1 _ (yl5 m q)),?_⟩
 exact⟨oe,vs,T,oT,ts,h1,h2,h3,h4,YF _ (Z1 _ Z0),h5,h6,h7,h8⟩
theorem Fly.base_in(x:Fly base C l H h0 e T a0 h):base.StaysIn (xq1 h l e T):=fun b o q=>by
 refine Y9 _ (x.st b o q) fun m=> ?_
 rcases Z3.mp m with z|m
 ·rw [z,x.be] at q;cases q
 ·rcases Z3.mp m with z|m
  ·rw [z,x.bT] at q;cases q
  ·rw [(x.fr.mem m).1] at q;cases q
theorem Fly.next(x:Fly base C l H h0 e T a0 h)(ok:HOk P w H h)(th:∀b o,h0.get? b=some o->∃o',h.get? b=some o'){h':Heap}{l':List Env}(ups:h.UpToSlots h')(f:Heap.FlyingW (xq1 h l e T) l' e (.ref C) a0 h'):∃T',Fly base C l' H h0 e T' a0 h':=by
 obtain⟨k1,k2,k3,oe,vs,T',oT,ts,h1,h2,h3,h4,h5,h6,h7,h8,h9⟩:=f
 have hT:T'=T\/h.get? T'=none:=by
  rcases zt7 h5 with m|m
  ·rcases Z3.mp m with z|m
   ·exact absurd z h6
   ·rcases Z3.mp m with z|m
    ·exact .inl z
    ·obtain⟨_,o,q1,q2⟩:=x.fr.mem m
     obtain⟨sl,q3⟩:=ups T' o q1 q2
     rw [h7] at q3;cases q3
     exact absurd h8 (q2 _)
  ·exact .inr m
 refine⟨T',x.ne,?_,x.He,?_,fun b o q=>k1 b o (x.base_in b o q),x.be,?_,W4 x.base_in k3,oe,vs,oT,ts,h1,h2,h3,h4,h6,h7,h8,h9⟩
 ·rcases hT with z|z
  ·rw [z];exact x.nT
  ·cases q:h0.get? T' with
   |none=>rfl
   |some o=>obtain⟨o',q'⟩:=th _ _ q;rw [z] at q';cases q'
 ·rcases hT with z|z
  ·rw [z];exact x.HT
  ·exact ok.none_of z
 ·cases q:base.get? T' with
  |none=>rfl
  |some o=>have:=x.base_in T' o q;rw [h5] at this;cases this
end
theorem zp3(fr:h.FunFrames base l)(ups:h.UpToSlots h')(st:(PySem.W.hideAll h (S++frs l)).StaysIn h'):Un (frs l) S H H h h':=by
 have kp:∀b o,h.get? b=some o->b∉frs l->b∉S->h'.get? b=some o:=fun b o q n1 n2=>st b o (Y9 _ q fun m=>(Zn.mp m).elim n2 n1)
 have sl:∀b o,h.get? b=some o->b∈frs l->∃s,h'.get? b=some {o with slots:=s}:=fun b o q m=>by
  obtain⟨_,o',q1,q2⟩:=fr.mem m
  rw [q] at q1;cases q1
  exact ups b o q q2
 refine⟨fun b o q _ hb hx=>kp b o q hb hx,fun b o q _ hb _=>sl b o q hb,fun _ _ _ n _=>n,fun b o q hx=> ?_,fun _ _ q=>q,fun _ _ _ q=>q,fun _ ps q=>⟨#[],by rw [q];simp⟩⟩
 by_cases hb:b∈frs l
 ·obtain⟨s,e⟩:=sl b o q hb;exact⟨_,e⟩
 ·exact⟨o,kp b o q hb hx⟩
theorem zp4(u:Un fs' ex' H H' h h')(hx:∀b o,h.get? b=some o->b∉ex')(hf:∀b o,h.get? b=some o->b∈fs'->b∈fs):Un fs [] H H' h h':=
 ⟨fun b o q n hb _=>u.keep b o q n (fun z=>hb (hf b o q z)) (hx b o q),fun b o q n _ _=>u.any q n (hx b o q),fun b o q n _=>u.free b o q n (hx b o q),fun b o q _=>u.there b o q (hx b o q),u.tups,u.frzs,u.tbls⟩
theorem zg4(ok:HOk P w H h)(hS:∀b∈S,H b=none)(hF:∀b∈frs l,H b=none)(st:(PySem.W.hideAll h (S++frs l)).StaysIn h'):HOk P w H h':=
 ok.but fun b o u e q=>st b u (Y9 _ q fun m=>by
  rcases Zn.mp m with m|m
  ·rw [hS b m] at e;cases e
  ·rw [hF b m] at e;cases e)
def CXn(P:Program)(w:World)(base:Heap)(C:Addr):CXT:=fun outer H s E e s'=>∃ea T a0 dd H',e= .ref ea/\s'.os=s.os/\AllBare s'.gens/\Un (frs outer) [] H H' s.heap s'.heap/\HOk P w H' s'.heap/\Fly base C outer H' s.heap ea T a0 s'.heap/\KD ea dd s'.heap/\E (.ref C) dd H'
theorem Fly.down(x:Fly base C l H h1 e T a0 h)(th:∀b o,h0.get? b=some o->∃o',h1.get? b=some o'):Fly base C l H h0 e T a0 h:=by
 have none:∀{b:Addr},h1.get? b=none->h0.get? b=none:=fun {b} z=>by
  cases q:h0.get? b with
  |none=>rfl
  |some o=>obtain⟨o',q'⟩:=th _ _ q;rw [z] at q';cases q'
 exact⟨none x.ne,none x.nT,x.He,x.HT,x.st,x.be,x.bT,x.fr,x.tr⟩
section
variable{P:Program}{w:World}{K:tz0}{mg:tzA}{base:Heap}{N:List Str}{qual:Str}{scope:Scope}{f C:Addr}{cd:Value}{A:Around}{outer:List Env}{s:Shared}{H:Hp}{E:XK}
theorem zc9:frs (envOfC qual scope s.heap.objs.size f cd::outer)=s.heap.objs.size::frs outer:=rfl
theorem wk9:mZ (CXn P w base C) (iS (CXn P w base C) P w K mg base N qual scope f cd A outer s H E) E:=by
 intro pins σ H1 s1 e s2 I h
 obtain⟨ea,T,a0,dd,H2,rfl,os,bare,un,hok,fly,kd,q⟩:=h
 have stk:∀b∈frs (envOfC qual scope s.heap.objs.size f cd::outer),H2 b=none:=fun b m=>by
  obtain⟨_,o,q1,_⟩:=(show s1.heap.FunFrames base (envOfC qual scope s.heap.objs.size f cd::outer) from I.stack).mem m
  exact un.free b o q1 (I.stkFree b m) (by simp)
 have th1:∀b o,s1.heap.get? b=some o->∃o',s2.heap.get? b=some o':=fun b o q=>un.there b o q (by simp)
 have th0:∀b o,s.heap.get? b=some o->∃o',s1.heap.get? b=some o':=fun b o q=>I.base.there b o q (by show b∉([]:List Addr);simp)
 show wpAny (model P w) (A.deeper (envOfC qual scope s.heap.objs.size f cd)) (leaving (envOfC qual scope s.heap.objs.size f cd) (.ref ea)) (fun _ s''=>CXn P w base C outer H s E (.ref ea) s'') (fun e' s''=>CXn P w base C outer H s E e' s'') s2
 refine ys0 (L:=s.heap.objs.size) I.ok.frames rfl fly.flying kd fun h' fl ups kd'=> ?_
 obtain⟨T',fly'⟩:=fly.next hok th1 ups fl
 have st:(PySem.W.hideAll s2.heap ([ea,T]++frs (envOfC qual scope s.heap.objs.size f cd::outer))).StaysIn h':=fl.1
 have u1:Un (frs (envOfC qual scope s.heap.objs.size f cd::outer)) [ea,T] H H1 s.heap s1.heap:=(show Un (frs outer) [] H H1 s.heap s1.heap from I.base).mono (fun b m=>by rw [zc9];exact Z1 _ m) (fun b m=>absurd m (by simp))
 have u2:=un.mono (fs':=frs (envOfC qual scope s.heap.objs.size f cd::outer)) (ex':=[ea,T]) (fun b m=>m) (fun b m=>absurd m (by simp))
 have u3:Un (frs (envOfC qual scope s.heap.objs.size f cd::outer)) [ea,T] H2 H2 s2.heap h':=zp3 fly.fr ups st
 refine⟨ea,T',a0,dd,H2,rfl,os.trans (show s1.os=s.os from I.os),bare,zp4 ((u1.trans u2).trans u3) (fun b o q m=> ?_) (fun b o q m=> ?_),zg4 hok (fun b m=> ?_) stk st,fly'.down th0,kd',q⟩
 ·obtain⟨o',q'⟩:=th0 b o q
  rcases Z3.mp m with z|m
  ·rw [z,fly.ne] at q';cases q'
  ·rw [Zc.mp m,fly.nT] at q';cases q'
 ·rw [zc9] at m
  rcases Z3.mp m with z|m
  ·exact absurd (Zj q) (by rw [z];exact Y2 _)
  ·exact m
 ·rcases Z3.mp m with z|m
  ·rw [z];exact fly.He
  ·rw [Zc.mp m];exact fly.HT
end
abbrev wj1(C:Addr)(dx:Option Addr)(t:Addr):Obj:={cls:= .ref C,dict:=dx,data:= .fields #[.ref t,.none,.none,.none,.bool false,.none]}
section
variable{P:Program}{w:World}{K:tz0}{mg:tzA}{base:Heap}{N:List Str}{qual:Str}{scope:Scope}{f C:Addr}{cd:Value}{A:Around}{outer:List Env}{s:Shared}{H:Hp}{E:XK}
theorem xb1(I:Inv (iS (CXn P w base C) P w K mg base N qual scope f cd A outer s H E) pins σ H2 s2)(ne:s.heap.get? e=none)(He:H2 e=none)(he:s2.heap.get? e=some (wj1 C dd t))(q:E (.ref C) dd H2):
  (iS (CXn P w base C) P w K mg base N qual scope f cd A outer s H E).xe (.ref e) s2:=by
 have fr1:s2.heap.FunFrames base (envOfC qual scope s.heap.objs.size f cd::outer):=I.stack
 have nf:∀b∈frs (envOfC qual scope s.heap.objs.size f cd::outer),base.get? b=none:=fun b m=>(fr1.mem m).1
 have be:base.get? e=none:=by
  cases z:base.get? e with
  |none=>rfl
  |some o=>have:=(I.ok.bs e o z).1;rw [show(iS (CXn P w base C) P w K mg base N qual scope f cd A outer s H E).s₀.heap.get? e=none from ne] at this;cases this
 have th0:∀b o,s.heap.get? b=some o->∃o',s2.heap.get? b=some o':=fun b o q=>I.base.there b o q (by show b∉([]:List Addr);simp)
 have bin:base.StaysIn (PySem.W.hideAll s2.heap ([e]++frs (envOfC qual scope s.heap.objs.size f cd::outer))):=fun b o q=>by
  refine Y9 _ (I.bk b o q) fun m=> ?_
  rcases Zn.mp m with m|m
  ·rw [Zc.mp m,be] at q;cases q
  ·rw [nf b m] at q;cases q
 show wpAny (model P w) (A.deeper (envOfC qual scope s.heap.objs.size f cd)) (leaving (envOfC qual scope s.heap.objs.size f cd) (.ref e)) (fun _ s''=>CXn P w base C outer H s E (.ref e) s'') (fun e' s''=>CXn P w base C outer H s E e' s'') s2
 refine xb0 (base:=PySem.W.hideAll s2.heap ([e]++frs (envOfC qual scope s.heap.objs.size f cd::outer))) (L:=s.heap.objs.size) (a0:= .ref t) I.ok.frames (W3 fr1 fun env m a q=>Ze _ (yl5 m q)) rfl he (fun b o q=>Xj _ q) (YF _ (Zo _ (List.mem_singleton_self e))) rfl rfl rfl rfl fun h'' hL kd=> ?_
 obtain⟨st,fr2,⟨oe,vs2,T,oT,ts,h1,h2,h3,h4,h5,h6,h7,h8,h9⟩,ups⟩:=hL
 have hT:s2.heap.get? T=none:=by
  rcases zt7 h5 with m|m
  ·rcases Zn.mp m with m|m
   ·exact absurd (Zc.mp m) h6
   ·obtain⟨_,o,q1,q2⟩:=fr1.mem m
    obtain⟨sl,q3⟩:=ups T o q1 q2
    rw [h7] at q3;cases q3
    exact absurd h8 (q2 _)
  ·exact m
 have hT0:s.heap.get? T=none:=by
  cases z:s.heap.get? T with
  |none=>rfl
  |some o=>obtain⟨o',z'⟩:=th0 T o z;rw [hT] at z';cases z'
 have bT:base.get? T=none:=by
  cases z:base.get? T with
  |none=>rfl
  |some o=>have:=I.bk T o z;rw [hT] at this;cases this
 have u1:Un (frs (envOfC qual scope s.heap.objs.size f cd::outer)) [e] H H2 s.heap s2.heap:=(show Un (frs outer) [] H H2 s.heap s2.heap from I.base).mono (fun b m=>by rw [zc9];exact Z1 _ m) (fun b m=>absurd m (by simp))
 have u3:Un (frs (envOfC qual scope s.heap.objs.size f cd::outer)) [e] H2 H2 s2.heap h'':=zp3 fr1 ups st
 refine⟨e,T,.ref t,dd,H2,rfl,(show s2.os=s.os from I.os),I.bare,zp4 (u1.trans u3) (fun b o q m=> ?_) (fun b o q m=> ?_),zg4 I.hok (fun b m=> ?_) I.stkFree st,⟨ne,hT0,He,I.hok.none_of hT,fun b o q=>st b o (bin b o q),be,bT,W4 bin fr2.2.2,oe,vs2,oT,ts,h1,h2,h3,h4,h6,h7,h8,h9⟩,kd,q⟩
 ·rw [Zc.mp m,ne] at q;cases q
 ·rw [zc9] at m
  rcases Z3.mp m with z|m
  ·exact absurd (Zj q) (by rw [z];exact Y2 _)
  ·exact m
 ·rw [Zc.mp m];exact He
theorem xb2(I:Inv (iS (CXn P w base C) P w K mg base N qual scope f cd A outer s H E) pins σ H1 s1)(mk:Heap.MadeExcOf s1.heap h' e (.ref C) vs)(q:E (.ref C) none H1):
  (iS (CXn P w base C) P w K mg base N qual scope f cd A outer s H E).xe (.ref e) {s1 with heap:=h'}:=by
 obtain⟨t,he,ht,_⟩:=mk.there
 refine xb1 (I.kept (t':=s1.toks) mk.keeps) ?_ (I.hok.none_of mk.new) he q
 cases z:s.heap.get? e with
 |none=>rfl
 |some o=>obtain⟨o',z'⟩:=I.base.there e o z (by show e∉([]:List Addr);simp);rw [mk.new] at z';cases z'
theorem xb3(O:OwnCls x C bmB newId mg base)(FB:ExcBaseFacts B newId initId bmB)(hg:Gl (iS (CXn P w base C) P w K mg base N qual scope f cd A outer s H E) x)
  (hd:NDb x:=by decide) (hs:starEach [.Constant (.str z) j p1] (envOfC qual scope s.heap.objs.size f cd)=[(false,eval (.Constant (.str z) j p1) (envOfC qual scope s.heap.objs.size f cd))]:=by rfl):
  PS (iS (CXn P w base C) P w K mg base N qual scope f cd A outer s H E) (.Raise (some (.Call (.Name x np) [.Constant (.str z) j p1] [] cpos)) none pos) (fun _ _ H'=>E (.ref C) none H'):=⟨by
 intro pins s1 σ H1 D I h
 obtain⟨tl,N',nm,q,bs,hdct,sn,sub,ab,col,dd,k0,k1,k2,k3,k5,mN,hC,hN,hni,T⟩:=O.obj
 refine wpAny_Raise_call_subT (C:=C) (nm:=nm) (q:=q) (N:=N') (bs:=bs) (bm:=tl) (hdct:=hdct) (sn:=sn) (sub:=sub) (ab:=ab) (col:=col) (dd:=dd) (k0:=k0) (k1:=k1) (k2:=k2) (k3:=k3) (k5:=k5)
  FB (mN:=mN) (T.hasType FB.hasBase) (I.ok.hd rfl) (by show(backTo cpos (starEach [.Constant (.str z) j p1] (envOfC qual scope s.heap.objs.size f cd))).any (·.1)=false;rw [hs];rfl) hni (sR I hg O.bound ⟨rfl,?_⟩ hd)
 show wpAny (model P w) (A.deeper (envOfC qual scope s.heap.objs.size f cd)) (evalArgs (.ref C) true (backTo cpos (starEach [.Constant (.str z) j p1] (envOfC qual scope s.heap.objs.size f cd))) []) _ _ s1
 rw [hs]
 refine Calls.evalArgs_plain (YV (Calls.Constant_str (k:=j) (pos:=p1) (X3 ?_)))
 have kp:∀b o,base.get? b=some o->s1.heap.get? b=some o:=I.bk
 refine⟨rfl,(show 1<=sizeLine from Zu (by decide) (qJ (n:=1) (by decide))),kp _ _ hC,hN.keeps kp,T.keeps kp,fun h' e mk=> ?_⟩
 exact xb2 (I.tok (s1.toks+1)) mk h⟩
end
def tX(φ:Fx)(fx:tz5)(Ex:Hp->Prop):TS:=fun _ σ H=>∃ps F,RS φ H σ ps F/\fx ps=true/\∀H',Frm F H H'->Ex H'
def rQ(np:Nat)(K:tz0)(κ:tz9)(C:Addr)(g:List D->Bool):Sp:=fun vs H _ E=>vs.length=np/\∃ds fp,Reps K κ H vs ds fp/\g ds=true/\∀H',SameK H H'->E (.ref C) none H'
def gX(np n:Nat)(fx:tz5):List D->Bool:=fun ds=>decide (ds.length=np)&&fx (ds.map some++List.replicate n none)
def vD(f:tz1)(fx:tz5):tz5:=fun ps=>match f ps with
 |some (.nx,p)=>fx p
 |_=>false
def xq2(ft:tz4)(fx:tz5):tz5:=fun ps=>match ft ps with
 |some true=>fx ps
 |_=>false
def zm6:tz5:=fun _=>true
abbrev QX(X:Cx)(κ:tz9)(φ:F0)(Ex:Hp->Prop)(st:Stmt)(fx:tz5):Prop:=PS X st (tX (φ.fx X.K κ) fx Ex)
abbrev QXs(X:Cx)(κ:tz9)(φ:F0)(Ex:Hp->Prop)(st:List Stmt)(fx:tz5):Prop:=PSs X st (tX (φ.fx X.K κ) fx Ex)
theorem PS.nox{X:Cx}{st:Stmt}{t:TS}(h:PS X.nox st t):PS X st t:=⟨fun pins s σ H D I hw=>
 ZN (h pins s σ H D (I.wish _) hw) (fun _ _ q=>q.unwish) fun _ _ z=>False.elim z⟩
theorem xb4(k:Frm (fun _=>[]) H H'):SameK H H':=⟨fun a o h kk=>k.keep a o h kk (fun _=>by simp),k.grow⟩
section
variable{P:Program}{w:World}{K:tz0}{mg:tzA}{base:Heap}{κ:tz9}{C:Addr}
theorem uS{x qual:Str}{st:Stmt}{f:Addr}{fd:FuncData}{N ps:List Str}{k:Nat}{fx:tz5}(F:Fun K x qual st f fd)(S:FnScope N ps (aS st))
  (hbody:∀(cdv:Value) (A:Around) (outer:List Env) (s:Shared) (H:Hp) (E:XK) (B:Nat->Addr->Prop),Room k (A.deeper (envOfC qual (aS st) s.heap.objs.size f cdv))->
   QXs (iS (CXn P w base C) P w K mg base N qual (aS st) f cdv A outer s H E) κ (f0P ps.length B) (E (.ref C) none) (mO st) fx):
  FnOk P w K mg base (CXn P w base C) (k+1) f fd ps (rQ ps.length K κ C (gX ps.length (N.length-ps.length) fx)):=by
 obtain⟨oc,od,kV,doc,pm,an,cdv,ct,osl,rfl,lk,hcd⟩:=F.ex
 refine xq9 lk hcd S (fun vs H Q E h=>h.1) fun A outer s H vs Q E hr hsp=> ?_
 obtain⟨hl,ds,fp,r,e,q⟩:=hsp
 have hn:ps.length<=N.length:=by have:=ZJ List.length S.pre;rw [YE] at this;omega
 refine⟨_,hbody cdv A outer s H E (fun _ a=>a∈fp) hr,_,fun _=>[],RS.start r hl hn,?_,fun H' fr=>q H' (xb4 fr)⟩
 unfold gX at e
 exact(Bool.and_eq_true_iff.mp e).2
end
section
variable{X:Cx}{κ:tz9}{φ:F0}{Ex:Hp->Prop}{fx:tz5}{st:Stmt}{rest:List Stmt}{pos:Pos}
theorem zN:PSs X rest (fun _ _ _=>False):=⟨fun _ _ _ _ _ _ h=>h.elim⟩
theorem yl6{f:tz1}(h1:QS X.nox κ φ st f)(h2:QXs X κ φ Ex rest fx):QXs X κ φ Ex (st::rest) (vD f fx):=
 (kA (PS.nox h1) h2).imp fun D σ H hh_=>by
  obtain⟨ps,F,R,e,q⟩:=hh_
  unfold vD at e
  split at e
  ·rename_i p he
   refine⟨ps,F,.nx,p,R,he,fun σ' H' F' s=>⟨p,F',s.rs,e,fun H'' fr=>q H'' ⟨fun a o h k n=>fr.keep a o (s.fr.keep a o h k n) k fun i m=> ?_,fun a z=>s.fr.grow a (fr.grow a z)⟩⟩⟩
   rcases s.nw i a m with ⟨j,z⟩|z
   ·exact n j z
   ·rw [z] at h;cases h
  ·cases e
theorem wC(h1:QX X κ φ Ex st fx):QXs X κ φ Ex (st::rest) fx:=(kA h1 zN).imp fun D σ H h=>h
theorem wl0(hc:QT X.nox κ c ft)(ha:QXs X κ φ Ex a fx):QX X κ φ Ex (.If c a b pos) (xq2 ft fx):=
 (yp2 (PT.nox hc) ha zN).imp fun D σ H hh_=>by
  obtain⟨ps,F,R,e,q⟩:=hh_
  unfold xq2 at e
  split at e
  ·rename_i he
   refine⟨ps,true,R.ws,he,fun H' s=> ?_⟩
   show(if true=true then tX (φ.fx X.K κ) fx Ex D σ H' else _)
   rw [if_pos rfl]
   exact⟨ps,F,R.same s,e,fun H'' fr=>q H'' ⟨fun a o h k n=>fr.keep a o (s.keep a o h k) k n,fun a z=>s.grow a (fr.grow a z)⟩⟩
  ·cases e
end
section
variable{P:Program}{w:World}{K:tz0}{mg:tzA}{base:Heap}{N:List Str}{qual:Str}{scope:Scope}{f C:Addr}{cd:Value}{A:Around}{outer:List Env}{s:Shared}{H:Hp}{E:XK}{κ:tz9}{φ:F0}
theorem yc8(O:OwnCls x C bmB newId mg base)(FB:ExcBaseFacts B newId initId bmB)(hg:Gl (iS (CXn P w base C) P w K mg base N qual scope f cd A outer s H E) x)
  (hd:NDb x:=by decide) (hs:starEach [.Constant (.str z) j p1] (envOfC qual scope s.heap.objs.size f cd)=[(false,eval (.Constant (.str z) j p1) (envOfC qual scope s.heap.objs.size f cd))]:=by rfl):
  QX (iS (CXn P w base C) P w K mg base N qual scope f cd A outer s H E) κ φ (E (.ref C) none) (.Raise (some (.Call (.Name x np) [.Constant (.str z) j p1] [] cpos)) none pos) zm6:=
 (xb3 O FB hg hd hs).imp fun D σ H' hh_=>by
  obtain⟨ps,F,R,e,q⟩:=hh_
  exact q H' ⟨fun a o h _ _=>h,fun a h=>h⟩
end
theorem PA.nox(h:PA X.nox es t):PA X es t:=⟨fun pos pins s σ H Q I hw=>
 ZN (h pos pins s σ H Q (I.wish _) hw) (fun _ _ q=>by obtain⟨vs,H',I',r,q⟩:=q;exact⟨vs,H',I'.unwish,r,q⟩) fun _ _ z=>False.elim z⟩
abbrev bmV:List Value:=[.type "ValueError",.type "Exception",.type "BaseException",.type "object"]
theorem xw0{K:tz0}{h:Heap}{C:Addr}{bm:List Value}{nid:String}(X:K.In h)(q:PySem.W.excIn K C bm nid=true):
  ∃bm' N nm qn bs hd sn sub ab col dd k0 k1 k2 k3 k5 mN,h.get? C=some (excClassObj nm qn C N bs bm' hd sn sub ab col dd k0 k1 k2 k3 k5 nid)/\h.Ns N mN/\mN "__init__"=none/\OwnTail h bm bm':=by
 unfold PySem.W.excIn at q
 split at q
 case h_2=>cases q
 rename_i dd c sl look
 split at q
 case h_2=>cases q
 rename_i C1 bm1 a0 a1 a2 a3 n1 a5 em es
 rw [Zy,Zy,Zy,Zy,Zy] at q
 obtain⟨⟨⟨⟨⟨q1,q2⟩,q3⟩,q4⟩,q5⟩,q6⟩:=q
 have z1:=eq_of_beq q1
 have z2:=eq_of_beq q2
 have z6:=eq_of_beq q6
 subst z1 z2
 cases c with
 | mk nm bs mro ns qn hd sn sub ab col del=>
  dsimp only at em q3 q5 z6
  have z3:del=false:=by cases del<;>first|rfl|cases q3
  subst em z3
  have zs:sl= #[a0,a1,a2,a3,some (.builtin n1),a5]:=by
   cases sl
   dsimp only at es
   rw [es]
  subst zs
  exact⟨bm1,ns,nm,qn,bs,hd,sn,sub,ab,col,dd,a0,a1,a2,a3,a5,_,X _ _ look,.of_isNs (PySem.W.isNs_of_in X q5),PySem.W.nsMap_none_of_in X q5 z6,PySem.W.tail_of_in X q4⟩
def tXe(φ:Fx)(fx:tz5)(Ex:Hp->Prop):TE:=fun σ H _=>∃ps F,RS φ H σ ps F/\fx ps=true/\∀H',Frm F H H'->Ex H'
abbrev QXe(X:Cx)(κ:tz9)(φ:F0)(Ex:Hp->Prop)(e:Expr)(fx:tz5):Prop:=PE X e (tXe (φ.fx X.K κ) fx Ex)
section
variable{X:Cx}{κ:tz9}{φ:F0}{Ex:Hp->Prop}{fx fy:tz5}{st:Stmt}{rest l:List Stmt}{pos:Pos}
theorem we4(i:Nat){x:Str}{e:Expr}{pos':Pos}(hN:X.N.Nodup)(hi:X.N[i]? =some x)(hx:Loc X.env.scope x)(he:QXe X κ φ Ex e fx)(hs:swapsWith e (some (.Name x pos')) pos.line X.env=pure false:=by rfl)(hf:X.fn x=true\/X.env.scope.names.lookup x=some .local:=by first|exact .inl rfl|exact .inr rfl|assumption):
  QX X κ φ Ex (.Assign [.Name x pos'] e pos) fx:=(tH hN hi hx he hs hf).imp fun _ _ _ h=>h
end
end L2
namespace L2
section
open PySem PySem.W PySem.Calls PyProof.Rows Builtin Builtin.ObjectAttr Builtin.Getset_descriptor
variable{prog:Program}{w:World}{A:Around}{E:Value->Shared->Prop}{s:Shared}{K:tz0}{x D:Addr}{name:Str}
end
open PySem PySem.Spec PyProof.Rows
section
variable{P:Program}{w:World}{A:Around}{E:Value->Shared->Prop}{h:Heap}{g:Array GenState}{d:Drawn}{t:Nat}{os:OsState}{nm q:Str}{C N:Addr}{bs bm bmB:List Value}{hdct ab:Bool}{sn:List Str}{sub:List Value}
 {col:Option Bool} {dd:Option Addr} {k0 k1 k2 k3 k5:Option Value} {B newId initId:String}
end
section
variable{P:Program}{w:World}{A:Around}{E:Value->Shared->Prop}{s:Shared}{env:Env}{nm q:Str}{C N:Addr}{bs bm bmB:List Value}{hdct ab:Bool}{sn:List Str}{sub:List Value}
 {col:Option Bool} {dd:Option Addr} {k0 k1 k2 k3 k5:Option Value} {B newId initId:String}
end
end L2
namespace L2
section
open PySem PySem.W PySem.Calls PyProof.Rows Builtin Builtin.ObjectAttr Builtin.Getset_descriptor
variable{prog:Program}{w:World}{A:Around}{E:Value->Shared->Prop}{K:tz0}{x C:Addr}{name:Str}
end
open PySem PySem.Spec PyProof.Rows
def sL:tz2:=fun _=>some (.dic true [] [])
theorem xl5{X:Cx}{κ:tz9}{pos:Pos}:QP X κ (.Dict [] [] pos) sL:=xj3.imp fun σ H Q hh_=>by
 obtain⟨ps,d,w,e,q⟩:=hh_
 cases e
 exact fun p hp=>q.at hp (fv:=[p]) (fun a ha=>by rw [Zc.mp ha];exact hp) (by simp) (.dic (kvs:=[]) cV rfl .nil)
section
variable{K:tz0}{κ:tz9}{H:Hp}
theorem vN:∀{kvs:List (Key×V)} {ks:List Key} {ds:List D} {g:List Addr} {k:Key},kvs.map (·.1)=ks->Reps K κ H (kvs.map (·.2)) ds g->(pR kvs k).isSome=(oQ ks ds k).isSome
 |[],_,_,_,_,e,r=>by subst e;cases r;rfl
 |(k0,v0)::kvs,_,_,_,k,e,.cons h hs=>by
  subst e
  rw [Z8,oQ]
  by_cases z:k0=k
  ·rw [if_pos z,tK z];rfl
  ·rw [if_neg z,tL z];exact vN rfl hs
theorem Rep.dicT_inv(r:Rep K κ H v (.dic true ks ds) fp):∃a kvs g,v= .ref a/\H a=some (.dK kvs)/\kvs.map (·.1)=ks/\Reps K κ H (kvs.map (·.2)) ds g/\fp=a::g:=by
 cases r with
 |dic h e hs=>exact⟨_,_,_,rfl,h,e,hs,rfl⟩
theorem Rep.dicF_inv(r:Rep K κ H v (.dic false ks ds) fp):∃a o kvs,v= .ref a/\H a=some (.frz o (.dK kvs))/\kvs.map (·.1)=ks/\Reps K κ H (kvs.map (·.2)) ds []:=by
 cases r with
 |dicF h e hs=>exact⟨_,_,_,rfl,h,e,hs⟩
end
def lC:D->D->Option D
 |y,.dic _ ks ds=>y.key.bind fun k=>some (.bl (!(oQ ks ds k).isSome))
 |_,_=>none
def yE:List Key->List D->Key->D->List D
 |k::ks,d::ds,j,y=>(if k=j then y else d)::yE ks ds j y
 |_,_,_,_=>[]
def qD:D->D->D->Option (Unit×D)
 |i,y,.dic true ks ds=>i.key.bind fun k=>if D.imms ds=true/\y.imm=true/\ks.length<sizeLine then some ((),if (oQ ks ds k).isSome=true then .dic true ks (yE ks ds k y) else .dic true (ks++[k]) (ds++[y])) else none
 |_,_,_=>none
theorem ys1(h:qD i y d=some (r,d')):∃k ks ds,d= .dic true ks ds/\i.key=some k/\D.imms ds=true/\y.imm=true/\ks.length<sizeLine/\d'=if (oQ ks ds k).isSome=true then .dic true ks (yE ks ds k y) else .dic true (ks++[k]) (ds++[y]):=by
 unfold qD at h
 split at h
 ·obtain⟨k,e1,e2⟩:=bind_some h
  obtain⟨hc,e3⟩:=bK e2
  cases e3
  exact⟨k,_,_,rfl,e1,hc.1,hc.2.1,hc.2.2,rfl⟩
 ·cases h
theorem zO{K:tz0}{κ:tz9}{H:Hp}{v:V}{y:D}{k:Key}(r:Rep K κ H v y []):∀{kvs:List (Key×V)} {ds:List D},Paired (fun v d=>Rep K κ H v d []) (kvs.map (·.2)) ds->Paired (fun v d=>Rep K κ H v d []) ((kvs.map fun kv=>if kv.1=k then(kv.1,v) else kv).map (·.2)) (yE (kvs.map (·.1)) ds k y)
 |[],_,.nil=> .nil
 |(k0,v0)::kvs,_,.cons h t=>by
  rw [Z8,Z8,Z8,yE]
  by_cases z:k0=k
  ·rw [if_pos z,if_pos z];exact .cons r (zO r t)
  ·rw [if_neg z,if_neg z];exact .cons h (zO r t)
theorem yR{k:Key}{v:V}:∀kvs:List (Key×V),(kvs.map fun kv=>if kv.1=k then(kv.1,v) else kv).map (·.1)=kvs.map (·.1)
 |[]=>rfl
 |(k0,v0)::kvs=>by
  rw [Z8,Z8,Z8,yR kvs]
  by_cases z:k0=k
  ·rw [if_pos z]
  ·rw [if_neg z]
theorem xw1{K:tz0}{κ:tz9}{H:Hp}{l:Addr}{v:V}{y:D}{kvs:List (Key×V)}{ds:List D}{k:Key}(hl:H l=some (.dK kvs))(hs:Reps K κ H (kvs.map (·.2)) ds [])(ry:Rep K κ H v y []):
  Rep K κ (upd H l (.dK (jU kvs k v))) (.ref l) (if (oQ (kvs.map (·.1)) ds k).isSome=true then .dic true (kvs.map (·.1)) (yE (kvs.map (·.1)) ds k y) else .dic true (kvs.map (·.1)++[k]) (ds++[y])) [l]:=by
 have ha:=zf8 k kvs
 rw [vN (k:=k) rfl hs] at ha
 have hs':Reps K κ (upd H l (.dK (jU kvs k v))) (kvs.map (·.2)) ds []:=hs.updL hl rfl (by simp)
 have ry':Rep K κ (upd H l (.dK (jU kvs k v))) v y []:=ry.updL hl rfl (by simp)
 by_cases hc:(oQ (kvs.map (·.1)) ds k).isSome=true
 ·rw [if_pos hc]
  rw [hc] at ha
  have e:jU kvs k v=kvs.map fun kv=>if kv.1=k then(kv.1,v) else kv:=by unfold jU;rw [if_pos ha]
  exact .dic (fp:=[]) (kvs:=jU kvs k v) cV (by rw [e];exact yR kvs) (.ofp (by rw [e];rw [e] at hs' ry';exact zO ry' hs'.nilp))
 ·rw [if_neg hc]
  rw [Xu] at hc
  rw [hc] at ha
  have e:jU kvs k v=kvs++[(k,v)]:=by unfold jU;rw [if_neg (by rw [ha];exact Za)]
  have hh:=Reps.append hs' (Reps.one ry')
  exact .dic (fp:=[]) (kvs:=jU kvs k v) cV (by rw [e,ZV];rfl) (by rw [e,ZV];rw [e] at hh;exact hh)
section
variable{X:Cx}{κ:tz9}{φ:F0}{a b o e i:Expr}{f fa fb fi fe:tz2}{pf:PSt->Option (List Ps1)}{j:Nat}{pos apos:Pos}{tg:Expr}
theorem xb5(hu:X.A.units+1<cLine)(ha:QV X κ a fa)(hb:QV X κ b fb)(hm:behindInMarks .NotIn b=false:=by rfl):QT X κ (.Compare a [.NotIn] [b] pos) (fB (f2 lC fa fb)):=
 (wa8 (yy6 hu ha hb) hm).imp fun σ H Q hh_=>by
  obtain⟨ps,c,w,e,q⟩:=hh_
  obtain⟨x,y,e1,e2,e3⟩:=vX (yk6 e)
  refine⟨ps,x,w,e1,fun v H1 fp s1 r1=>⟨ps,y,w.same s1,e2,fun u H2 fq s2 r2=> ?_⟩⟩
  unfold lC at e3
  split at e3
  ·obtain⟨k,e4,e5⟩:=bind_some e3
   cases e5
   obtain⟨l,kvs,g,rfl,h,hk,hs,_⟩:=r2.dic_inv
   exact⟨l,pR kvs k,rfl,.inl ⟨kvs,k,h,zo8 r1 e4,rfl⟩,_,by rw [vN hk hs],q H2 (s1.trans s2)⟩
  ·cases e3
def sM(j:Nat)(pf:PSt->Option (List Ps1))(fi fe:tz2):tz1:=fun ps=>(fe ps).bind fun y=>((ps[j]?).join).bind fun d0=>(pf ps).bind fun p=>(fi ps).bind fun i=>(gC (qD i y) d0 p).bind fun r=>some (.nx,ps.set j (some r.2))
theorem xw2(hu:X.A.units+1<cLine)(hb:φ.bor j=false)(he:PE X e (tP X.K κ fe))(ho:PE X o (oP X.K κ j pf))(hi:PE X i (tV X.K κ fi))(hs:swapsWith e (some (.Subscript o i apos)) pos.line X.env=pure false:=by rfl):QS X κ φ (.Assign [.Subscript o i apos] e pos) (sM j pf fi fe):=
 (xu7 hu ho hi he hs).imp fun E σ H hh_=>by
  obtain⟨ps,F,fl,ps',R,e,q⟩:=hh_
  obtain⟨y,e1,e2⟩:=bind_some e
  obtain⟨d0,e3,e4⟩:=bind_some e2
  have e0:=join_some e3
  obtain⟨p,e5,e6⟩:=bind_some e4
  obtain⟨iv,e7,e8⟩:=bind_some e6
  obtain⟨⟨r,d0'⟩,em,e9⟩:=bind_some e8
  cases e9
  obtain⟨dd,dn,gp,hh⟩:=nM em
  refine⟨ps,y,R.ws,e1,fun v H1 fy s1 n1 nd1 ry=>⟨ps,p,d0,dd,R.ws.same s1,e0,e5,gp,fun lv H2 v0 s2 ev a2=>⟨ps,iv,(R.ws.same s1).same s2,e7,fun u H3 fu s3 r3=> ?_⟩⟩⟩
  have s13:=(s1.trans s2).trans s3
  obtain⟨d1,d1',fd,m1,m2,m3,m4,m5⟩:=wB R s13 hb e0 ev em (a2.same s3)
  obtain⟨k,ks,ds,rfl,ek,hi,hy,hl,rfl⟩:=ys1 m2
  obtain⟨l,kvs,g,rfl,hd,hk,hs,rfl⟩:=m1.dicT_inv
  subst hk
  have eg:=hs.imm hi
  subst eg
  have ey:=ry.imm hy
  subst ey
  refine⟨l,_,rfl,.inl ⟨kvs,k,hd,zo8 r3 ek,by simpa using hl,rfl⟩,?_⟩
  obtain⟨F',st,ow⟩:=m5 (upd H3 l (.dK (jU kvs k v))) [l] [] (fun a o h _ hn=>xB h hn) (fun a h=>pK h)
   (xw1 hd hs ((ry.same s2).same s3)) (by simp) (fun a ha=> .inl (by simpa using ha))
  exact q _ _ F' st
end
def Itf(a:Addr)(o:Obj)(kvs:List (Key×V)):It:=⟨fun i H=>H a=some (.frz o (.dK kvs))/\i<kvs.length,fun i H x H'=>H'=H/\(kvs.map fun kv=>kV kv.1)[i]? =some x,fun i H=>H a=some (.frz o (.dK kvs))/\kvs.length<=i⟩
theorem zg5{X:Cx}{pins:tzB}{σ:St}{H:Hp}{s:Shared}{a:Addr}{o:Obj}{kvs:List (Key×V)}(I:Inv X pins σ H s)(h:H a=some (.frz o (.dK kvs))):
  (a==sysModules)=false/\kvs.length<=sizeLine/\∃vs es ep,KV kvs vs/\o.data= .dict es ep/\s.heap.DictAt (eO X.prog X.w) a vs ep:=by
 obtain⟨g,z,sm,vs,hv,hd⟩:=(show dI X.prog X.w H s.heap a (.frz o (.dK kvs)) from I.hok a _ h)
 obtain⟨ep,hat⟩:=hd.dictAt
 obtain⟨o',es,g',h1,h2,h3⟩:=id hat
 rw [g] at g'
 cases g'
 exact⟨sm,z,vs,es,ep,hv,h2,hat⟩
theorem xw3{P:Program}{w:World}{K:tz0}{tg:Expr}{a it:Addr}{o:Obj}{es:Array DictEntry}{ep:Nat}{kvs:List (Key×V)}(hd:o.data= .dict es ep):Turn P w K tg (Itf a o kvs) [it] it (fun i h=>h.IsKeyIter it a i kvs.length ep) where
 mem:=by simp
 obj:=fun i h st b hb=>by
  have e:b=it:=by simpa using hb
  subst e
  obtain⟨o,e,c,d⟩:=st
  exact⟨o,e,fun v z=>by rw [d] at z;cases z⟩
 keep:=fun i h h' st k=>st.at fun o e=>k it (by simp) o e
 item:=by
  intro X hP hw hK hc i pins s σ H E I hf st hg
  subst hP hw hK
  obtain⟨sm,z,vs,es',ep',hv,hd',dd⟩:=zg5 I hg.1
  rw [hd] at hd'
  cases hd'
  have hi:i<vs.length:=by rw [<-ZI hv];exact hg.2
  obtain⟨⟨k,x⟩,hx'⟩:∃p,vs[i]? =some p:=⟨vs[i],by simp [hi]⟩
  obtain⟨⟨k',v'⟩,hx2,he,_⟩:=lP hv hx'
  have he':k'=k:=he
  subst he'
  obtain⟨f0,f1,f2,f3,f4,f5⟩:=hf it (by simp)
  rw [ZI hv] at st
  refine wpAny_pyNext_dict_item st dd hx' fun key h' hkey st' sb=> ?_
  have I1:Inv X pins σ H {s with heap:=h'}:=I.turned (t':=s.toks) (fun b o hb e=>(sb.2 b hb).trans e) f0 f1 f3 f4 f5
  obtain⟨o2,e,c,d⟩:=id st'
  rw [<-ZI hv] at st'
  exact⟨key,rfl,zx3 (s:={s with heap:=h'}) e c d (by decide) ⟨kV k',H,I1,xv6 hkey,⟨rfl,by rw [Zd,hx2];rfl⟩,st',fun b hb=>(hf b hb).1⟩⟩
 done:=by
  intro X hP hw hK hc i pins s σ H E I hf st hg
  subst hP hw hK
  obtain⟨sm,z,vs,es',ep',hv,hd',dd⟩:=zg5 I hg.1
  rw [hd] at hd'
  cases hd'
  have hi:vs.length<=i:=by rw [<-ZI hv];exact hg.2
  obtain⟨f0,f1,f2,f3,f4,f5⟩:=hf it (by simp)
  rw [ZI hv] at st
  exact wpAny_pyNext_dict_end (I.ok.hd hc) st dd (YC hi) fun h' eb=>⟨rfl,I.turned (t':=s.toks) (fun b o hb e=>eb b o hb e) f0 f1 f3 f4 f5⟩
 self:=fun _ _ _ _ _ st h=>wpAny_pyIter_keyiter st h
def dD:D->Option (List D)
 | .dic false ks _=>some (ks.map yv0)
 |_=>none
def wS(f:tz2):tz3:=fun ps=>(f ps).bind dD
theorem xw4{K:tz0}{κ:tz9}{H:Hp}{a:Addr}{o:Obj}{kvs:List (Key×V)}(h:H a=some (.frz o (.dK kvs))):Walk K κ (Itf a o kvs) [] H ((kvs.map (·.1)).map yv0) where
 go:=fun H' k i d e=>by
  rw [YA,Zd] at e
  obtain⟨kv,hkv,e⟩:=Zp.mp e
  refine⟨⟨k a _ h (.inl rfl),(Z4.mp hkv).1⟩,fun y H2 ⟨hy1,hy2⟩=>⟨hy1,?_⟩⟩
  rw [Zd,hkv] at hy2
  cases hy2
  rw [<-e]
  exact xk9 kv.1
 stop:=fun H' k=>⟨k a _ h (.inl rfl),by rw [Z7,Z7];exact Zb _⟩
theorem zp5{X:Cx}{κ:tz9}{tg e:Expr}{f:tz2}(h:QP X κ e f):QIP X κ tg e (wS f):=⟨by
 rintro pins s σ H R I ⟨ps,l,w,e,q⟩
 obtain⟨d,e1,e2⟩:=bind_some e
 unfold dD at e2
 split at e2
 ·cases e2
  refine thn (h pins s σ H (fun x H1=>SameK H H1/\∃fp,Rep X.K κ H1 x _ fp) I ⟨ps,_,w,e1,fun v H' fv s1 _ _ r=>⟨s1,fv,r⟩⟩) fun v s1 ⟨x,H1,I1,r1,sm,fp,rp⟩=> ?_
  obtain⟨a,o,kvs,rfl,ha,hk,_⟩:=rp.dicF_inv
  subst hk
  cases r1
  obtain⟨hsm,z,vs,es,ep,hv,hd,dd⟩:=zg5 I1 ha
  refine wpAny_pyIter_dict hsm dd ?_
  refine⟨s1.heap.objs.size,[s1.heap.objs.size],_,_,H1,rfl,I1.kept (t':=s1.toks) fun b o e=>Zf _ e,xw3 (kvs:=kvs) (a:=a) hd,⟨_,Zv _ rfl,rfl,by rw [ZI hv];rfl⟩,fun b hb=> ?_,q _ H1 [] sm (fun _ h=>absurd h (by simp)) (xw4 ha)⟩
  have e:b=s1.heap.objs.size:=by simpa using hb
  subst e
  exact I1.fpOk (Zb _) (I1.hok.fresh (Zb _))
 ·cases e2⟩
theorem xl6(I:Inv X pins σ H s)(h:H a=some (.dK kvs)):∃ob,Inv X pins σ (upd H a (.frz ob (.dK kvs))) s:=by
 have ne:∀b,H b=none->b≠a:=fun b hb z=>by rw [z,h] at hb;cases hb
 have nt:∀b o,H b=some o->(∀ys,o≠ .dK ys)->b≠a:=fun b o hb ho z=>by
  rw [z,h] at hb
  cases hb
  exact ho _ rfl
 obtain⟨z0,sm,vs,hv,hd⟩:=(show dI X.prog X.w H s.heap a (.dK kvs) from I.hok a _ h)
 obtain⟨ep,ob,es,e0,_⟩:=hd.dictAt
 refine⟨ob,I.ok,I.os,I.bare,⟨I.base.keep,I.base.slot,fun b o h1 h2 h3=> ?_,I.base.there,fun b xs h1=> ?_,fun b o u h1=> ?_,fun b ps h1=> ?_⟩,I.loc,I.cell,?_,fun x c e=> ?_,fun p hp=> ?_,fun b o e=> ?_,I.len⟩
 ·have:=I.base.free b o h1 h2 h3
  rw [bE (ne b this)];exact this
 ·have:=I.base.tups b xs h1
  rw [bE (nt b _ this fun _ z=>by cases z)];exact this
 ·have:=I.base.frzs b o u h1
  rw [bE (nt b _ this fun _ z=>by cases z)];exact this
 ·obtain⟨more,this⟩:=I.base.tbls b ps h1
  exact⟨more,by rw [bE (nt b _ this fun _ z=>by cases z)];exact this⟩
 ·rw [bE (ne _ I.free)];exact I.free
 ·have:=I.freeC x c e
  rw [bE (ne _ this)];exact this
 ·obtain⟨p1,p2,p3⟩:=I.pin p hp
  exact⟨p1,by rw [bE (ne _ p2)];exact p2,p3⟩
 ·have st:∀{b o},dI X.prog X.w H s.heap b o->dI X.prog X.w (upd H a (.frz ob (.dK kvs))) s.heap b o:=fun x=>
   x.stay (fun _ _ _ q=>q) (fun b' hb=>by rw [bE (nt b' _ hb fun _ z=>by cases z)];exact hb) fun b' xs hb=>by rw [bE (nt b' _ hb fun _ z=>by cases z)];exact hb
  by_cases z:b=a
  ·subst z
   rw [cV] at e
   cases e
   exact⟨e0,st (I.hok b _ h)⟩
  ·rw [bE z] at e
   exact st (I.hok b o e)
def yv2:D->Option D
 | .obj true C ns [x,.dic true ks ds]=>if x.imm=true/\D.imms ds=true then some (.obj false C ns [x,.dic false ks ds]) else none
 |_=>none
def jH(f:tz2):tz2:=fun ps=>(f ps).bind yv2
theorem sW{X:Cx}{κ:tz9}{e:Expr}{f:tz2}(h:QP X κ e f):QP X κ e (jH f):=⟨by
 intro pins s σ H Q I hh_
 obtain⟨ps,d,w,e,q⟩:=hh_
 obtain⟨d0,e1,e2⟩:=bind_some e
 unfold yv2 at e2
 split at e2
 ·rename_i C ns x ks ds
  obtain⟨⟨hx,hi⟩,e3⟩:=bK e2
  cases e3
  refine thn (h pins s σ H (fun y H1=>SameK H H1/\∃fv,(∀a∈fv,H a=none)/\fv.Nodup/\Rep X.K κ H1 y _ fv) I ⟨ps,_,w,e1,fun v H' fv s1 n1 nd1 r=>⟨s1,fv,n1,nd1,r⟩⟩) fun v s1 ⟨y,H1,I1,r1,sm,fv,n1,nd1,rp⟩=> ?_
  obtain⟨l,dx,fs,g,rfl,hl,hn,hs,rfl⟩:=rp.objT_inv
  obtain⟨v1,us,f1,g1,ev,k1,k2,rfl⟩:=hs.split
  obtain⟨v2,rfl,k3⟩:=k2.one_inv
  obtain⟨b,kvs,g2,rfl,hb,hk,k4,rfl⟩:=k3.dicT_inv
  have z1:=k1.imm hx
  subst z1
  have z2:=k4.imm hi
  subst z2
  rw [Yq] at nd1 n1
  have hln:=n1 l Z0
  have hbn:=n1 b (Z1 _ Z0)
  have nbl:b≠l:=fun z=>(Zs.mp nd1).1 (z▸Z0)
  obtain⟨ob,I2⟩:=xl6 I1 hb
  have hl2:upd H1 b (.frz ob (.dK kvs)) l=some (.ins (κ C) dx fs):=by rw [bE (Y7 nbl)];exact hl
  refine⟨.ref l,_,I2.freeze hl2,r1,q (.ref l) _ [] ⟨fun c o hc hk'=> ?_,fun c hc=> ?_⟩ (fun _ h=>absurd h (by simp)) Zk (.objF cV hn ?_)⟩
  ·rw [bE (fun z=>by rw [z,hln] at hc;cases hc),bE (fun z=>by rw [z,hbn] at hc;cases hc)]
   exact sm.keep c o hc hk'
  ·exact sm.grow c (pK (pK hc))
  ·have mv:∀c o,H1 c=some o->tf o=true->upd (upd H1 b (.frz ob (.dK kvs))) l (.frz (PySem.W.instObj (κ C) dx) (.ins (κ C) dx fs)) c=some o:=fun c o hc ht=>by
    rw [bE (fun z=>by rw [z,hl] at hc;cases hc;cases ht),bE (fun z=>by rw [z,hb] at hc;cases hc;cases ht)];exact hc
   rw [ev]
   exact .cons (f:=[]) (g:=[]) (k1.move mv fun _ h=>absurd h (by simp)) (.one (.dicF (o:=ob) (by rw [bE nbl];exact cV) hk (k4.move mv fun _ h=>absurd h (by simp))))
 ·cases e2⟩
theorem yl7:∀{vs:List Value} {ns:List Int},vs.length=ns.length->(∀(i:Nat) v n,vs[i]? =some v->ns[i]? =some n->∃t,v= .int n t)->IntsAre vs ns
 |[],[],_,_=> .nil
 |v::vs,n::ns,hl,h=>by
  obtain⟨t,rfl⟩:=h 0 v n rfl rfl
  exact .cons _ _ (yl7 (by simpa using hl) fun i v m h1 h2=>h (i+1) v m (by simpa using h1) (by simpa using h2))
 |[],_::_,hl,_=>by simp at hl
 |_::_,[],hl,_=>by simp at hl
theorem zt8:∀{vs:List Value} {ns:List Int},IntsAre vs ns->bF (ns.map V.int) vs
 |_,_,.nil=> .nil
 |_,_,.cons _ t h=> .cons ⟨t,rfl⟩ (zt8 h)
section
variable{prog:Program}{w:World}{A:Around}{E:Value->Shared->Prop}{s:Shared}
theorem zg6{a:Addr}{vs:List (Key×Value)}{ep:Nat}{ns:List Int}{Q:Value->Shared->Prop}(hh:A.handled=none)(sm:(a==sysModules)=false)(dd:s.heap.DictAt (eO prog w) a vs ep)(hk:vs.map (·.1)=ns.map Sum.inl)(h64:vs.length<64)
  (hQ:∀(h1 h':Heap) (tk:Nat) (its:Array Value) (c:Nat),(∀b o,s.heap.get? b=some o->h1.get? b=some o)->(∀b o,h1.get? b=some o->h'.get? b=some o)->h'.get? h1.objs.size=some {cls:= .type "list",data:= .seq its c}->IntsAre its.toList (PySem.W.sortI ns)->Q (.ref h1.objs.size) {s with heap:=h',toks:=tk}):
  wpAny (model prog w) A (call (.builtin "sorted") [.ref a]) Q E s:=by
 have ln:ns.length=vs.length:=by have:=ZJ List.length hk;simpa using this.symm
 refine PySem.Calls.call_function_entry kind_sorted plain_sorted entry_sorted (args_sorted1 _) ?_
 unfold Builtin.«sorted»
 refine Zh (m:=checkCount "sorted" 1 1 _) (ZH ?_)
 refine Zh (PySem.W.kdu_collect (A:=A.in1) (PySem.W.kdl_dict (knd:=eO prog w) (kvs:=vs) (ep:=ep) sm) hh dd (by rw [Yi];omega) fun h' tk acc hkk hacc=> ?_)
 have hl:acc.toList.length=vs.length:=by rw [Ya];exact hacc.1
 have hI:IntsAre acc.toList ns:=yl7 (by omega) fun i v n h1 h2=>by
  obtain⟨k,x,e1,e2⟩:=hacc.2 i v (by rw [<-Wc];exact h1)
  have e3:(vs.map (·.1))[i]? =(ns.map (Sum.inl (β:=Str)))[i]? :=by rw [hk]
  rw [Zd,Zd,e1,h2] at e3
  have e4:k=Sum.inl n:=by simpa using e3
  subst e4
  exact Value.isInt_shape (k:=n) (v:=v) e2
 refine Zh (wpAny_newList ?_ (by rw [hl,Yi];omega))
 have hoL:(h'.push (seqObj "list" acc.toList.toArray 0)).get? h'.objs.size=some (seqObj "list" acc.toList.toArray 0):=Zv _ rfl
 refine Zh (Yx (wpAny_call_entry slot_list_sort ⟨_,hoL,rfl⟩ entry_list_sort (list_sort_tree hoL hI (by omega) fun out ns' a1 a2 a3=>⟨_,rfl,?_⟩) (args_list_sort _)))
 obtain⟨e,he⟩:=sortedHeap_at (vs:=acc.toList) (out:=out) hoL
 refine ZH ⟨_,rfl,hQ h' _ tk out e hkk (fun b o hb=> ?_) he (by rw [<-PySem.W.eq_sortI a2 a3];exact a1)⟩
 rw [sortedHeap_old (ZG (Zj hb)) (by rw [size_push'];exact Nat.lt_succ_of_lt (Zj hb))]
 exact Zf _ hb
end
theorem zt9{K:tz0}{κ:tz9}{H:Hp}:∀ns:List Int,Paired (fun v d=>Rep K κ H v d []) (ns.map V.int) (ns.map D.int)
 |[]=> .nil
 |n::ns=> .cons (.int n) (zt9 ns)
def zd8:List Key->Option (List Int)
 |[]=>some []
 | .inl i::ks=>(zd8 ks).map (i::·)
 | .inr _::_=>none
theorem zj8:∀{ks:List Key} {ns:List Int},zd8 ks=some ns->ks=ns.map Sum.inl
 |[],_,e=>by cases e;rfl
 | .inl i::ks,_,e=>by
  obtain⟨ns,e1,rfl⟩:=Zp.mp e
  rw [Z8,zj8 e1]
 | .inr _::_,_,e=>by cases e
def za8:tz6
 |[.dic _ ks _]=>(zd8 ks).bind fun ns=>if ns.length<64 then some (.lst true ((PySem.W.sortI ns).map .int)) else none
 |_=>none
theorem xl7{X:Cx}{κ:tz9}(hc:X.calm=true):CallR X (.builtin "sorted") (PCl X.K κ za8):=⟨by
 rintro pins s σ H vs us Q I r ⟨ds,fp,d,rs,e,q⟩
 unfold za8 at e
 split at e
 ·obtain⟨ns,e1,e2⟩:=bind_some e
  obtain⟨h64,e3⟩:=bK e2
  cases e3
  obtain⟨v,rfl,r1⟩:=rs.one_inv
  obtain⟨a,kvs,g,rfl,ha,hk,_⟩:=r1.dic_inv
  obtain⟨u,rfl,ru⟩:=oB r
  cases ru
  subst hk
  have hns:=zj8 e1
  obtain⟨z,sm,vs,hv,hd⟩:=uP I.hok ha
  obtain⟨ep,dd⟩:=hd.dictAt
  have ln:ns.length=kvs.length:=by have:=ZJ List.length hns;simpa using this.symm
  have lv:=ZI hv
  refine zg6 (I.ok.hd hc) sm dd (hv.keys.symm.trans hns) (by omega) fun h1 h' tk its c k1 k2 ho hI=> ?_
  have I1:Inv X pins σ H {s with heap:=h1}:=I.kept (t':=s.toks) k1
  have hl:((PySem.W.sortI ns).map V.int).length<=sizeLine:=by
   rw [Z7,(Y6 ns).length_eq];exact Yw (qJ (by omega))
  have hp:H h1.objs.size=none:=I1.hok.fresh (Zb _)
  refine⟨.ref _,_,I1.laid (t':=tk) (o:= .lst ((PySem.W.sortI ns).map V.int)) k2 (Zb _) ⟨hl,its.toList,c,zt8 hI,by simpa using ho⟩,rfl,sT hp (zt9 _) q⟩
 ·cases e⟩
def Ite(K:tz0)(a:Addr):It:=
 ⟨fun i H=>∃xs x,SqL K H a xs/\xs[i]? =some x,fun i H x H'=>∃p v,H p=none/\x= .ref p/\H'=upd H p (.tup [.int i,v])/\∀xs,SqL K H a xs->xs[i]? =some v,fun i H=>∃xs,SqL K H a xs/\xs.length<=i⟩
theorem yi7{X:Cx}{pins:tzB}{σ:St}{H:Hp}{s:Shared}{h':Heap}{t':Nat}{e it:Addr}(I:Inv X pins σ H s)(k:∀b o,b≠e->b≠it->s.heap.get? b=some o->h'.get? b=some o)(he:oO X pins H e)(hi:oO X pins H it):Inv X pins σ H {s with heap:=h',toks:=t'}:=by
 have nn:∀b,(b∉[e,it])->b≠e/\b≠it:=fun b h=>⟨fun z=>h (by simp [z]),fun z=>h (by simp [z])⟩
 have nit:∀b u,H b=some u->b≠e/\b≠it:=fun b u q=>⟨fun z=>by(rw [z,he.1] at q;cases q),fun z=>by(rw [z,hi.1] at q;cases q)⟩
 refine I.step (g':=s.gens) (d':=s.drawn) (ch:=[e,it]) (fun b hb=> ?_) (fun b o _ _ hc q _=>k b o (nn b hc).1 (nn b hc).2 q) (fun b o _ _ hc q _=>⟨o.slots,k b o (nn b hc).1 (nn b hc).2 q⟩) (fun _ _ _ _ n=>n)
  (fun b o hc q=>⟨o,k b o (nn b hc).1 (nn b hc).2 q⟩) (fun _ _ e=>e) (fun _ _ _ e=>e) (fun b ps e=>⟨#[],by rw [e];simp⟩) (fun m hm=> ?_) (fun b u q=> ?_) I.bare
 ·rcases Z3.mp hb with z|z
  ·rw [z];exact⟨he.2.2.2.1,he.2.1,he.2.2.2.2.1,he.2.2.2.2.2⟩
  ·rw [Zc.mp z];exact⟨hi.2.2.2.1,hi.2.1,hi.2.2.2.2.1,hi.2.2.2.2.2⟩
 ·obtain⟨o,es,ep,ho,r⟩:=hm
  exact⟨o,es,ep,k _ o (Y7 he.2.1) (Y7 hi.2.1) ho,r⟩
 ·refine(I.hok b u q).stay (fun c v hc q'=> ?_) (fun _ q=>q) fun _ _ q=>q
  rcases hc with z|z
  ·rw [z] at q'|-;exact k b v (nit b u q).1 (nit b u q).2 q'
  ·exact k c v (nit c _ z).1 (nit c _ z).2 q'
theorem xw5{P:Program}{w:World}{K:tz0}{elts:List Expr}{x1:Nat}{pos:Pos}(a e it:Addr)(hne:e≠it):Turn P w K (.Tuple elts x1 pos) (Ite K a) [e,it] e (fun i h=>(∃old,IsEnum h e it (i:Nat) old)/\h.IsListIter it a i) where
 mem:=by simp
 obj:=fun i h st b hb=>by
  obtain⟨⟨old,st1⟩,st2⟩:=st
  rcases Z3.mp hb with rfl|hb
  ·exact⟨_,st1,fun v z=>by
    have z':Data.fields _=Data.cell v:=z
    cases z'⟩
  ·have z:b=it:=by simpa using hb
   subst z
   obtain⟨o,q,c,d⟩:=st2
   exact⟨o,q,fun v z=>by rw [d] at z;cases z⟩
 keep:=fun i h h' st k=>⟨by obtain⟨⟨old,st1⟩,_⟩:=st;exact⟨old,k e (by simp) _ st1⟩,st.2.at fun o q=>k it (by simp) o q⟩
 item:=by
  intro X hP hw hK hc i pins s σ H E I hf st hg
  subst hP hw hK
  obtain⟨xs,x,hq,hx⟩:=hg
  obtain⟨its,rv,p,hz⟩:=I.list hq
  obtain⟨u,hu,ru⟩:=rv.get hx
  obtain⟨⟨old,st1⟩,st2⟩:=st
  refine wpAny_pyNext_enum_item st1 st2 p.isList (x:=u) (by simpa using hu) hne fun h' heo hit ht hsz hk=> ?_
  refine⟨_,rfl,wpAny_letOwnedTupleGo_enum heo fun h2 he2 hs2=> ?_⟩
  have hs2':Heap.SameBut e h' h2:=hs2
  have hes:e<s.heap.objs.size:=Zj st1
  have ni:Heap.get? h2 s.heap.objs.size=some {cls:= .type "tuple",data:= .seq #[.int i s.toks,u]}:=(hs2'.2 _ (XY hes)).trans ht
  have hp:H s.heap.objs.size=none:=I.hok.fresh (Zb _)
  have kk:∀b o,b≠e->b≠it->s.heap.get? b=some o->h2.get? b=some o:=fun b o h3 h4 h5=>(hs2'.2 b h3).trans (hk b o h3 h4 h5)
  have hes2:it<s.heap.objs.size:=by obtain⟨o,q,_⟩:=st2;exact Zj q
  have I0:Inv X pins σ (upd H s.heap.objs.size (.tup [.int i,x])) {s with heap:=s.heap.push {cls:= .type "tuple",data:= .seq #[.int i s.toks,u]}}:=
   I.laid (t':=s.toks) (fun b o q=>Zf _ q) (Zb _) ⟨Yw (qJ (by simp)),[.int i s.toks,u],.cons ⟨_,rfl⟩ (.cons ru .nil),⟨_,Zv _ rfl,rfl,0,rfl⟩⟩
  have fo:∀b∈[e,it],oO X pins (upd H s.heap.objs.size (.tup [.int i,x])) b:=fun b hb=>by
   refine⟨?_,(hf b hb).2⟩
   rw [bE]
   ·exact(hf b hb).1
   ·rcases Z3.mp hb with z|z
    ·rw [z];exact ZG hes
    ·rw [Zc.mp z];exact ZG hes2
  have I1:Inv X pins σ (upd H s.heap.objs.size (.tup [.int i,x])) {s with heap:=h2,toks:=s.toks+1}:=yi7 (s:={s with heap:=s.heap.push {cls:= .type "tuple",data:= .seq #[.int i s.toks,u]}}) (t':=s.toks+1) I0 (fun b o h3 h4 h5=>by
   rcases Heap.get?_push_cases h5 with ⟨rfl,rfl⟩|h5
   ·exact ni
   ·exact kk b o h3 h4 h5) (fo e (by simp)) (fo it (by simp))
  refine⟨.ref s.heap.objs.size,_,I1,rfl,⟨_,x,hp,rfl,rfl,fun ys hy=>by rw [I.list_inj hy hq];exact hx⟩,⟨⟨u,?_⟩,?_⟩,fun b hb=> ?_⟩
  ·have:((i+1:Nat):Int)=(i:Int)+1:=by push_cast;rfl
   rw [this];exact he2
  ·exact hit.at fun o q=>(hs2'.2 it (Y7 hne)).trans q
  ·exact(fo b hb).1
 done:=by
  intro X hP hw hK hc i pins s σ H E I hf st hg
  subst hP hw hK
  obtain⟨xs,hq,hx⟩:=hg
  obtain⟨its,rv,p,hz⟩:=I.list hq
  obtain⟨⟨old,st1⟩,st2⟩:=st
  obtain⟨f0,f1,f2,f3,f4,f5⟩:=hf it (by simp)
  have hl:=rv.length
  exact wpAny_pyNext_enum_end (I.ok.hd hc) st1 st2 p.isList (by simp;omega) fun h' eb=>⟨rfl,I.turned (t':=s.toks) (fun b o hb e=>eb b o hb e) f0 f1 f3 f4 f5⟩
 self:=fun _ _ _ _ _ st h=>by
  obtain⟨⟨old,st1⟩,_⟩:=st
  exact wpAny_pyIter_enum st1 h
structure WalkE(K:tz0)(κ:tz9)(J:It)(Z:List Addr)(H1:Hp)(ds:List D):Prop where
 go:∀H',rO Z H1 H'->∀(i:Nat) d,ds[i]? =some d->J.go i H'/\∀x H2,J.yld i H' x H2->SameK H' H2/\Rep K κ H2 x d []
 stop:∀H',rO Z H1 H'->J.stop ds.length H'
def mP:Nat->List D->List D
 |_,[]=>[]
 |n,d::ds=> .tup [.int n,d]::mP (n+1) ds
theorem zu0:∀{ds:List D} {n i:Nat} {d:D},(mP n ds)[i]? =some d->∃y,ds[i]? =some y/\d= .tup [.int ((n+i:Nat):Int),y]
 |[],_,_,_,h=>by simp [mP] at h
 |y::ds,n,0,d,h=>by
  rw [mP] at h
  exact⟨y,rfl,by simpa using h.symm⟩
 |y::ds,n,i+1,d,h=>by
  rw [mP,Yv] at h
  obtain⟨z,h1,h2⟩:=zu0 h
  exact⟨z,by simpa using h1,by rw [h2,show n+1+i=n+(i+1) by omega]⟩
theorem zu1:∀(ds:List D) (n:Nat),(mP n ds).length=ds.length
 |[],_=>rfl
 |d::ds,n=>by rw [mP,Z6,Z6,zu1 ds]
theorem xw6{K:tz0}{κ:tz9}{H1:Hp}{a:Addr}{vs:List V}{ds:List D}{Z:List Addr}(h:Rd H1 a (.lst vs))(hz:H1 a=some (.lst vs)->a∈Z)(r:Paired (fun v d=>Rep K κ H1 v d []) vs ds):WalkE K κ (Ite K a) Z H1 (mP 0 ds) where
 go:=fun H' k i d e=>by
  obtain⟨y,e0,rfl⟩:=zu0 e
  obtain⟨x,e1,r1⟩:=lP r e0
  have sq:SqL K H' a vs:=k.sq h hz
  refine⟨⟨vs,x,sq,e1⟩,fun z H2 hy=> ?_⟩
  obtain⟨p,v,hp,rfl,rfl,hv⟩:=hy
  have e2:=hv vs sq
  rw [e1] at e2;cases e2
  have sm:SameK H' (upd H' p (.tup [.int i,x])):= .new hp _
  refine⟨sm,.tup (.inl (.inl cV)) (.cons (f:=[]) (g:=[]) ?_ (.one ((k.rep r1).same sm)))⟩
  rw [YI];exact .int _
 stop:=fun H' k=>⟨vs,k.sq h hz,by rw [zu1,ZI r];exact Zb _⟩
def zy8(f:tz2):tz3:=fun ps=>(f ps).bind fun d=>(yv1 d).map (mP 0)
section
variable{X:Cx}{κ:tz9}{φ:F0}{pos:Pos}{body:List Stmt}{f:tz1}
theorem xb6{φ:Fx}(R:RS φ H σ ps F)(hz:∀a∈Z,H a≠none/\∀i,a∉F i)(W:WalkE φ.K φ.κ J Z H ds)(hb:∀i∈is,φ.bor i=false/\φ.M i=false)
  (e:nA is f ds ps=some (fl,ps')) (q:yD φ E σ H F fl ps'):yu9 (fun v σ H Q=>xp8 φ.K is.length (wQ is) v σ H Q\/xp3 φ.K is.length (wQ is) v σ H Q) (tS φ f) E σ J H:=by
 refine⟨fun k m σ1 H1=>k<=ds.length/\m=ds.length-k/\∃ps1 F1,Stp φ σ H F σ1 H1 ps1 F1/\nA is f (ds.drop k) ps1=some (fl,ps'),⟨_,ZK _,rfl,ps,F,.refl R,by rw [XJ];exact e⟩,?_⟩
 rintro k m σ1 H1 ⟨hk,rfl,ps1,F1,s1,e1⟩
 have kp:rO Z H H1:=s1.fr.kept R fun a ha=>(hz a ha).2
 by_cases hlt:k<ds.length
 ·right
  have ed:ds[k]? =some ds[k]:=Zm hlt
  obtain⟨hgo,hy⟩:=W.go H1 kp k _ ed
  rw [ZX hlt,nA] at e1
  obtain⟨ys,e0,e1⟩:=bind_some e1
  obtain⟨hl,e1⟩:=bK e1
  obtain⟨⟨fl2,ps2⟩,e2,e3⟩:=bind_some e1
  refine⟨hgo,fun σ' H'=>∃F',Stp φ σ H F σ' H' ps2 F'/\nA is f (ds.drop (k+1)) ps2=some (fl,ps'),fun σ' H' ⟨F',s,e⟩=>⟨ds.length-(k+1),by omega,hlt,rfl,ps2,F',s,e⟩,fun x H' y=> ?_⟩
  obtain⟨sm,rx⟩:=hy x H' y
  rw [xa8 e0] at rx
  obtain⟨a,vs,rfl,h,hs⟩:=rx.tup_inv
  have ln:=hs.length
  have s0:=Stp.same s1.rs sm
  obtain⟨F2,s2⟩:=Stp.setN s1.rs s0 ⟨fun a ha=>absurd ha (by simp),Zk,fun k a ha hg=>absurd hg (by simp)⟩ hs hb
  have s12:=s1.trans s2
  refine .inr ⟨a,vs,rfl,h,by omega,uR (by omega) ⟨_,F2,fl2,ps2,s2.rs,e2,?_⟩⟩
  cases fl2 with
  |nx=>exact fun σ' H' F' s=>⟨F',s12.trans s,e3⟩
  |ct=>exact fun σ' H' F' s=>⟨F',s12.trans s,e3⟩
  |bk=>cases e3;exact fun σ' H' F' s=>q σ' H' F' (s12.trans s)
  |ret d=>cases e3;exact fun v σ' H' F' fv s o r=>q v σ' H' F' fv (s12.trans s) (o.after s12) r
 ·left
  have ek:k=ds.length:=by omega
  subst ek
  rw [Xt,nA] at e1
  cases e1
  exact⟨W.stop H1 kp,q _ _ F1 s1⟩
theorem xw7(is:List Nat){es:List Expr}{k:Nat}{l:Expr}{fl:tz2}{px p p2:Pos}(hp:PassesOwn (model X.prog X.w) X.A X.env X.xe)(hc:X.calm=true)(hg:Gl X "enumerate")(hm:X.mg "enumerate"=none)(hl:QP X κ l fl)(hgs:PGs X es (wQ is))(hb:∀i∈is,φ.bor i=false/\φ.M i=false)
  (hbd:QSs X κ φ body f) (hn:(assignEach es X.env).length=is.length:=by rfl) (hst:(assignEach es X.env).findIdx? (·.1)=none:=by rfl) (hs1:starEach [l] X.env=(false,eval l X.env)::starEach [] X.env:=by rfl) (hs:∀x,foldedSetIterable (.Call (.Name "enumerate" p) [l] [] p2) X.env x=pure x:=by intro _;rfl):
  QS X κ φ (.For (.Tuple es k px) (.Call (.Name "enumerate" p) [l] [] p2) body [] pos) (zy7 is (zy8 fl) f):=by
 have hi:PI X (.Tuple es k px) (.Call (.Name "enumerate" p) [l] [] p2) (fun σ H R=>∃ps xs,WS X.K κ H σ ps/\fl ps=some (.lst true xs)/\D.imms xs=true/\∀J H1 Z,SameK H H1->(∀a∈Z,H a=none/\H1 a≠none)->WalkE X.K κ J Z H1 (mP 0 xs)->R J H1):=by
  constructor
  intro pins s σ H R I hh_
  obtain⟨ps,xs,w,e1,him,q⟩:=hh_
  refine Y3 (tG I hg hm (u:= .type "enumerate") rfl ?_)
  refine Yh ?_ hs1 rfl
  rw [hs1]
  refine YV (thn (hl pins s σ H (fun v H1=>SameK H H1/\∃fv,(∀a∈fv,H a=none)/\Rep X.K κ H1 v (.lst true xs) fv) I ⟨ps,_,w,e1,fun v H1 fv s1 n1 _ r1=>⟨s1,fv,n1,r1⟩⟩) fun u s1 hu=>X3 ?_)
  obtain⟨v,H1,I1,r1,sm,fv,n1,rp⟩:=hu
  obtain⟨a,ws,g,rfl,ha,hws,rfl⟩:=rp.lstT_inv
  have eg:=hws.imm him
  subst eg
  cases r1
  obtain⟨its,rv,pl,hz⟩:=I1.list (.inl (.inl ha))
  refine call_enumerate_list pl.isList fun h' hE hI hsz hk=>wpAny_pyIter_enum hE ?_
  have I2:Inv X pins σ H1 {s1 with heap:=h'}:=I1.kept (t':=s1.toks) hk
  refine⟨s1.heap.objs.size+1,[s1.heap.objs.size+1,s1.heap.objs.size],_,_,H1,rfl,I2,xw5 a (s1.heap.objs.size+1) s1.heap.objs.size (Nat.succ_ne_self _),⟨⟨_,hE⟩,hI⟩,fun b hb=> ?_,q _ H1 [a] sm (fun b hb=> ?_) (xw6 (.inl ha) (fun _=>by simp) hws.nilp)⟩
  ·have hb2:s1.heap.objs.size<=b:=by
    rcases Z3.mp hb with z|z
    ·rw [z];exact Nat.le_succ _
    ·rw [Zc.mp z];exact Zb _
   exact I1.fpOk hb2 (I1.hok.fresh hb2)
  ·rw [Zc.mp hb]
   exact⟨n1 a Z0,by rw [ha];simp⟩
 exact(zF hp hc hi (xa2 (n:=is.length) hc hgs hn hst) hbd hs).imp fun E σ H hh_=>by
  obtain⟨ps,F,fl',ps',R,e,q⟩:=hh_
  obtain⟨ds,e1,e2⟩:=bind_some e
  obtain⟨d,e4,e3⟩:=bind_some e1
  obtain⟨xs,e5,rfl⟩:=Zp.mp e3
  obtain⟨rfl,him⟩:=yr8 e5
  refine⟨ps,_,R.ws,e4,him,fun J H1 Z s1 hz W=> ?_⟩
  have s:=Stp.same R s1
  exact xb6 s.rs (fun a ha=>⟨(hz a ha).2,fun j hj=>by obtain⟨o,h,_⟩:=R.own hj;rw [(hz a ha).1] at h;cases h⟩) W hb e2 (q.back s)
end
inductive LtS(A:Around)(s:Shared):List Value->List Value->Bool->Prop
 |nn:LtS A s [] [] false
 |nc {y:Value} {ys:List Value}:LtS A s [] (y::ys) true
 |cn {x:Value} {xs:List Value}:LtS A s (x::xs) [] false
 |eq {x y:Value} {xs ys:List Value} {c:Bool}:SeqAt.EqAt A s x y true->LtS A s xs ys c->LtS A s (x::xs) (y::ys) c
 |ne {x y:Value} {xs ys:List Value} {c:Bool}:SeqAt.EqAt A s x y false->(∀(prog:Program) (w:World) (E Q:Value->Shared->Prop),Q (.bool c) s->wpAny (model prog w) A (richCompare .Lt x y) Q E s)->LtS A s (x::xs) (y::ys) c
section
open PySem.SeqAt
open PySem.AutoSeq1 (wpAny_loadPart')
open PySem.MeetsSeq PySem.MeetsSeq2 PySem.MeetsSeq3
theorem ys2(l b:Addr)(items items2:Array Value)(n n2:Nat)(dd dd2:Option Addr)(sl sl2:Array (Option Value))(c:Bool):
  Meets (Builtin.«tuple.__lt__» ⟨[.ref l,.ref b],[]⟩)
   (fun A R s=>s.heap.get? l=some {cls:= .type "tuple",dict:=dd,data:= .seq items n,slots:=sl}/\s.heap.get? b=some {cls:= .type "tuple",dict:=dd2,data:= .seq items2 n2,slots:=sl2}/\
    LtS A.in1 s items.toList items2.toList c/\R (.ok (.ret (.bool c))) s):=
 .of_wp fun prog w A R s h=>by
  obtain⟨hp,g,d,tk,os⟩:=s;obtain⟨hl,hb,hL,h⟩:=h
  have f2:=Wm
  wp_walk using Yl hl,Yl hb,wpAny_forIn_list _ (fun rest b s'=>b.1=none/\s'=⟨hp,g,d,tk,os⟩/\∃(vs ws:List Value),rest=vs.zip ws/\
   LtS A.in1 ⟨hp,g,d,tk,os⟩ vs ws c/\vs.length+items2.size=ws.length+items.size/\R (.ok (.ret (.bool c))) ⟨hp,g,d,tk,os⟩) _
  case turn=>
   rintro⟨y,x⟩ rest b s' ⟨hb',rfl,vs,ws,hz,hS,hlen,hR⟩
   cases hS with
   |nn=>rw [Xl] at hz;cases hz
   |nc=>rw [Xl] at hz;cases hz
   |cn=>rw [Wn] at hz;cases hz
   |eq he hS'=>
    rw [Ye] at hz
    injection hz with hyx hrest
    injection hyx with hy hx
    subst hy hx
    simp only [Z6] at hlen
    refine Zh (he prog w _ _ ?_)
    wp_walk
    exact⟨rfl,rfl,_,_,hrest,hS',by omega,hR⟩
   |ne he hlt=>
    rw [Ye] at hz
    injection hz with hyx hrest
    injection hyx with hy hx
    subst hy hx
    refine Zh (he prog w _ _ ?_)
    have hri:=hlt prog w
    wp_walk using hri
    exact⟨_,rfl,by simpa using hR⟩
  case fin=>
   rintro⟨b1,b2⟩ s' ⟨hb',rfl,vs,ws,hz,hS,hlen,hR⟩
   simp only at hb'
   subst hb'
   have hv:c=decide (items.size<items2.size):=by
    cases hS with
    |nn=>simp only [ZU] at hlen;exact(Zg (by omega)).symm
    |nc=>simp only [ZU,Z6] at hlen;exact(Zr (by omega)).symm
    |cn=>simp only [ZU,Z6] at hlen;exact(Zg (by omega)).symm
    |eq _ _=>rw [Ye] at hz;cases hz
    |ne _ _=>rw [Ye] at hz;cases hz
   rw [hv] at hR
   wp_walk
   exact⟨_,rfl,by simpa [Builtin.Tuple.tupleCompareSizes] using hR⟩
  case h=>
   exact⟨rfl,rfl,items.toList,items2.toList,rfl,hL,by simp;omega,h⟩
end
section
variable{prog:Program}{w:World}{A:Around}{E:Value->Shared->Prop}{s:Shared}
theorem yl8{l b:Addr}{items items2:Array Value}{c:Bool}{Q:Value->Shared->Prop}(hl:IsTup s.heap l items)(hb:IsTup s.heap b items2)(hS:LtS A.in1 s items.toList items2.toList c)
  (hu:A.units<cLine) (h:Q (.bool c) s):wpAny (model prog w) A (compareOp .Lt (.ref l) (.ref b)) Q E s:=by
 obtain⟨⟨cls,dd,data,sl⟩,ho,hc,n,hd⟩:=id hl
 obtain⟨⟨cls2,dd2,data2,sl2⟩,ho2,hc2,n2,hd2⟩:=id hb
 simp only at hc hd hc2 hd2
 subst hc hd hc2 hd2
 exact richCompare_meets_room (op:= .Lt) ⟨_,ho,rfl⟩ ⟨_,ho2,rfl⟩ Wa W0 (XV _ _) (ys2 l b items items2 n n2 dd dd2 sl sl2 c)
  ⟨ho,ho2,hS,show Value.bool c≠Value.notImplemented/\Q (.bool c) s from⟨(fun x=>nomatch x),h⟩⟩ hu
end
def za9:List (List Int)->List (List Int)->Bool
 |[],[]=>false
 |[],_::_=>true
 |_::_,[]=>false
 |x::xs,y::ys=>if x=y then za9 xs ys else HT.lexLt x y
inductive TI2(s:Shared):List Value->List (List Int)->Prop
 |nil:TI2 s [] []
 |cons {a:Addr} {its:Array Value} {ns:List Int} {vs:List Value} {nss:List (List Int)}:IsTup s.heap a its->IntsAre its.toList ns->TI2 s vs nss->TI2 s (.ref a::vs) (ns::nss)
theorem zj9{h:Heap}:∀{vs:List Value} {ns:List Int},IntsAre vs ns->∃as,ReadsAll h vs (ns.map .int) as
 |_,_,.nil=>⟨_,.nil⟩
 |_,_,.cons i t hs=>by
  obtain⟨as,r⟩:=zj9 (h:=h) hs
  exact⟨_,.cons (.int i t) r⟩
theorem zu2{s:Shared}{a:Addr}{its:Array Value}{ns:List Int}(h:IsTup s.heap a its)(hi:IntsAre its.toList ns):∃as,Reads s.heap (.ref a) (.tuple (ns.map .int)) as:=by
 obtain⟨o,e,c,n,d⟩:=h
 obtain⟨as,r⟩:=zj9 (h:=s.heap) hi
 exact⟨_,.tuple e c d r⟩
theorem zf2:∀ns ms:List Int,PyData.eqvAll (ns.map .int) (ms.map .int)=decide (ns=ms)
 |[],[]=>by simp [PyData.eqvAll]
 |[],_::_=>by simp [PyData.eqvAll]
 |_::_,[]=>by simp [PyData.eqvAll]
 |n::ns,m::ms=>by
  rw [Z8,Z8,PyData.eqvAll,zf2 ns ms,PyData.eqv]
  by_cases h:n=m<;>by_cases h2:ns=ms<;>simp [h,h2]
theorem xl8{A:Around}{s:Shared}(hu:A.units+8<cLine):∀{vs ws:List Value} {nss mss:List (List Int)},TI2 s vs nss->TI2 s ws mss->LtS A s vs ws (za9 nss mss)
 |_,_,_,_,.nil,.nil=> .nn
 |_,_,_,_,.nil,.cons _ _ _=> .nc
 |_,_,_,_,.cons _ _ _,.nil=> .cn
 | _,_,_,_,.cons (ns:=ns) h1 i1 t1,.cons (ns:=ms) h2 i2 t2=>by
  obtain⟨as,r1⟩:=zu2 h1 i1
  obtain⟨bs,r2⟩:=zu2 h2 i2
  have e:=SeqAt.eqAt_reads _ _ A s _ _ as bs r1 r2 (by simp only [PyData.canLay0,canLayAll_ints]) (by simp only [PyData.canLay0,canLayAll_ints]) (by simp only [PyData.depth,depthAll_ints];omega)
  rw [PyData.eqv,zf2] at e
  rw [za9]
  by_cases z:ns=ms
  ·rw [Zr z] at e
   rw [if_pos z]
   exact .eq e (xl8 hu t1 t2)
  ·rw [Zg z] at e
   rw [if_neg z]
   exact .ne e fun prog w E Q q=>HT.lt_tupInts h1 h2 i1 i2 (by omega) q
def D.intss:List D->Option (List (List Int))
 |[]=>some []
 | .tup xs::ds=>(D.ints xs).bind fun ns=>(D.intss ds).map (ns::·)
 |_=>none
theorem zk0{X:Cx}{κ:tz9}{pins:tzB}{σ:St}{H:Hp}{s:Shared}(I:Inv X pins σ H s):∀{ds:List D} {vs:List V} {us:List Value} {nss:List (List Int)},Reps X.K κ H vs ds []->bF vs us->D.intss ds=some nss->TI2 s us nss
 |[],_,_,_,r,v,e=>by
  cases r;cases v;cases e
  exact .nil
 | d::ds,_,_,nss,r,v,e=>by
  obtain⟨v1,vs1,f,g,rfl,r1,r2,ef⟩:=r.split
  obtain⟨rfl,rfl⟩:=W1.mp ef.symm
  cases v with
  | cons ru rus=>
   cases d with
   |tup xs=>
    obtain⟨ns,e1,e2⟩:=bind_some (show(D.ints xs).bind _=some nss from e)
    obtain⟨mss,e3,rfl⟩:=Zp.mp e2
    obtain⟨a,ws,rfl,h1,s1⟩:=r1.tup_inv
    rw [sU s1 e1] at h1
    cases ru
    obtain⟨its,rv,p,_⟩:=I.tuple h1
    exact .cons p (by simpa using wW rv) (zk0 I r2 rus e3)
   |_=>cases e
def yg6:D->D->Option D
 | .tup xs,.tup ys=>(D.intss xs).bind fun ns=>(D.intss ys).map fun ms=> .bl (za9 ns ms)
 |_,_=>none
theorem wl1{X:Cx}{κ:tz9}(hu:X.A.units+64<cLine):OpR X (compareOp .Lt) (POp X.K κ yg6):=⟨by
 rintro pins s σ H x y v u Q I rx ry ⟨dx,dy,d,fx,fy,r1,r2,e,q⟩
 unfold yg6 at e
 split at e
 ·obtain⟨ns,e1,e⟩:=bind_some e
  obtain⟨ms,e2,e⟩:=Zp.mp e
  subst e
  obtain⟨a,vs,rfl,h1,s1⟩:=r1.tup_inv
  obtain⟨b,us,rfl,h2,s2⟩:=r2.tup_inv
  cases rx
  cases ry
  obtain⟨its,rv,p1,_⟩:=I.tuple h1
  obtain⟨its2,rv2,p2,_⟩:=I.tuple h2
  refine yl8 p1 p2 (xl8 (by show X.A.units+1+8<cLine;omega) (zk0 I s1 rv e1) (zk0 I s2 rv2 e2)) (by omega) ⟨.bl _,H,I,rfl,q.now (.bl _)⟩
 ·cases e⟩
def wj2(C:Addr)(m:Str)(sp:Sp)(dvs:List V)(E:XK)(ta:TE)(t:TA):TE:=fun σ H Q=>ta σ H fun x H1=>∃a dx fs,x= .ref a/\Rd H1 a (.ins C dx fs)/\fs.lookup m=none/\
 t σ H1 fun vs H2=>sp (x::(vs++dvs)) H2 Q E
section
variable{X:Cx}{κ:tz9}{o e:Expr}{es:List Expr}{m qual:Str}{st:Stmt}{ps:List Str}{f:Addr}{fd:FuncData}{k np:Nat}{apos pos p:Pos}{pl:Sem Bool}
theorem xl9{C:Addr}{CX:CXT}{sp:Sp}{E:XK}{ds:List Value}{dvs:List V}{ta:TE}{t:TA}(he:PE X o ta)(c:Cls X.K C)(hm:Meth X.K C m f)(F:FnOk X.prog X.w X.K X.mg X.base CX k f fd ps sp)(hr:Room k X.A)(hb:lI X.K fd ps ds)(hd:bF dvs ds)(hx:mZ CX X E)(ha:PA X (e::es) t)
  (hst:StE e es X:=by rfl) (hpl:BkE pos es X:=by rfl)
  (ht:eval (.Call (.Attribute o m apos) (e::es) [] pos) X.env=(do
   let ov<-eval o X.env
   standAt apos.atName
   let (f,first)<-holding [ov] (getMethod ov m pl)
   callWith pos f first (backTo pos (starEach (e::es) X.env)) (backToKw pos (keywordEach [] X.env))):=by rfl):
  PE X (.Call (.Attribute o m apos) (e::es) [] pos) (wj2 C m sp dvs E ta t):=⟨by
 intro pins s σ H Q I h
 refine X4 (pl:=pl) (thn (he pins s σ H _ I h) fun u s1 ⟨x,H1,I1,rx,a,dx,fs,ex,ea,l,q⟩=> ?_) ht
 subst ex
 obtain rfl:u=Value.ref a:=rx
 refine yr5 I1 ea c hm l ?_
 refine Ys (first:=[.ref a]) (h₀:=X.base) I.ok.mod.kin hm.kp (thn (ha pos pins s1 σ H1 _ I1 q) fun us s2 ⟨vs,H2,I2,r,q2⟩=>⟨I2.kIn,?_⟩) hst hpl
 exact zH (us:= .ref a::us) (vs:= .ref a::vs) F hr hb hd hx I2 (.cons rfl r) q2⟩
def zd9(C m:Str):D->Option D
 | .obj false C' ns vs=>if (C'=C/\cJ ns m=none) then some (.obj false C' ns vs) else none
 |_=>none
def qX(C m:Str)(fo:tz2):tz2:=fun ps=>(fo ps).bind (zd9 C m)
theorem ys3(h:zd9 C m x=some d):∃ns vs,x=d/\d= .obj false C ns vs/\cJ ns m=none:=by
 unfold zd9 at h
 split at h
 ·obtain⟨⟨hC,hn⟩,e3⟩:=bK h
  subst hC;cases e3
  exact⟨_,_,rfl,rfl,hn⟩
 ·cases h
theorem yc9{C:Str}{h:tz6}{fo:tz2}{g:tz3}(M:Mn X.K κ C m qual st ps f fd)(G:FnOk X.prog X.w X.K X.mg X.base CX0 k f fd ps (SpP np X.K κ h))(hr:Room k X.A)(ho:QV X κ o fo)(hnp:(e::es).length+1=np)(ha:QVA X κ (e::es) g)(hlen:∀ps ds,g ps=some ds->ds.length=(e::es).length)
  (hst:StE e es X:=by rfl) (hpl:BkE pos es X:=by rfl)
  (ht:eval (.Call (.Attribute o m apos) (e::es) [] pos) X.env=(do
   let ov<-eval o X.env
   standAt apos.atName
   let (f,first)<-holding [ov] (getMethod ov m pl)
   callWith pos f first (backTo pos (starEach (e::es) X.env)) (backToKw pos (keywordEach [] X.env))):=by rfl):
  QP X κ (.Call (.Attribute o m apos) (e::es) [] pos) (aG h (aA (qX C m fo) g)):=(xl9 ho M.c M.h G hr M.b .nil zc5 ha hst hpl ht).imp fun σ H Q hh_=>by
 obtain⟨ps,d,w,e,q⟩:=hh_
 obtain⟨ds,e1,e2⟩:=bind_some e
 obtain⟨x,k1,k2⟩:=bind_some e1
 obtain⟨ds',k3,k4⟩:=bind_some k2
 cases k4
 obtain⟨y,k0,k1⟩:=bind_some k1
 obtain⟨ns,vs,rfl,rfl,k6⟩:=ys3 k1
 refine⟨ps,_,w,k0,fun v H1 fp s1 r1=> ?_⟩
 have r1':=r1
 obtain⟨_,_,_,_,rfl,hl,hn,hs,_⟩:=r1.obj_inv
 subst hn
 refine⟨_,_,_,rfl,hl,qB k6,ps,ds',w.same s1,k3,fun us H2 fq s2 r2=> ?_⟩
 show SpP np X.K κ h (_::(us++[])) H2 Q E0
 rw [Zl]
 exact⟨by rw [Z6,r2.length,hlen ps ds' k3,hnp],_,_,d,.cons (r1'.same s2) r2,e2,q.after (s1.trans s2)⟩
end
def xs3:D->Option Bool
 | .dic _ ks _=>some (!ks.isEmpty)
 |_=>none
def fTK(f:tz2):tz4:=fun ps=>(f ps).bind xs3
theorem yl9{X:Cx}{κ:tz9}{a:Expr}{fa:tz2}(ha:QV X κ a fa)(he:∀whole,isTrue a X.env whole=(do let v<-whole;standAt a.pos;holding [v] (truthy v)):=by intro _;rfl):QT X κ a (fTK fa):=⟨by
 intro pins s σ H Q I hh_
 obtain⟨ps,c,w,e,q⟩:=hh_
 obtain⟨d,e1,e2⟩:=bind_some e
 unfold xs3 at e2
 split at e2
 ·rename_i o ks ds
  cases e2
  refine isTrue_plain (thn (ha pins s σ H (fun v H1=>SameK H H1/\∃fp,Rep X.K κ H1 v (.dic o ks ds) fp) I ⟨ps,_,w,e1,fun v H1 fp s1 r1=>⟨s1,fp,r1⟩⟩) fun v s1 hv=> ?_) (he _)
  obtain⟨x,H1,I1,r1,sm,fp,rp⟩:=hv
  obtain⟨l,kvs,g,rfl,hl,hk,_⟩:=rp.dic_inv
  cases r1
  refine xu4 I1 hl fun s2 I2=>⟨H1,I2,?_⟩
  rw [show kvs.isEmpty=ks.isEmpty by rw [<-hk];cases kvs<;>rfl]
  exact q H1 sm
 ·cases e2⟩
section
variable{prog:Program}{w:World}{A:Around}{E:Value->Shared->Prop}
def qE(h0 h:Heap):Prop:=∀b o,h0.get? b=some o->h.get? b=some o
theorem TI2.keep{s s':Shared}(k:qE s.heap s'.heap):∀{vs:List Value} {n:List (List Int)},TI2 s vs n->TI2 s' vs n
 |_,_,.nil=> .nil
 |_,_,.cons (a:=a) h1 h2 h3=> .cons (let ⟨o,e,r⟩:=h1;⟨o,k a o e,r⟩) h2 (TI2.keep k h3)
def zb0(s:Shared)(v:Value)(n:List (List Int)):Prop:=∃a its,v= .ref a/\IsTup s.heap a its/\TI2 s its.toList n
theorem zb0.keep{s s':Shared}{v:Value}{n:List (List Int)}(k:qE s.heap s'.heap)(h:zb0 s v n):zb0 s' v n:=by
 obtain⟨a,its,rfl,h1,h2⟩:=h
 exact⟨a,its,rfl,let ⟨o,e,r⟩:=h1;⟨o,k a o e,r⟩,h2.keep k⟩
theorem wl2{s:Shared}{v u:Value}{n m:List (List Int)}{Q:Value->Shared->Prop}(hu:A.units+9<cLine)(h1:zb0 s v n)(h2:zb0 s u m)(q:Q (.bool (za9 n m)) s):wpAny (model prog w) A (richCompare .Lt v u) Q E s:=by
 obtain⟨a,its,rfl,a1,a2⟩:=h1
 obtain⟨b,jts,rfl,b1,b2⟩:=h2
 exact yl8 a1 b1 (xl8 (by show A.units+1+8<cLine;omega) a2 b2) (by omega) q
def ltN(N:List (List (List Int)))(i j:Nat):Bool:=za9 (N.getD i []) (N.getD j [])
theorem wl3{R:Result->Shared->Prop}{s0:Shared}{vs:List (Key×Value)}{N:List (List (List Int))}{d it S:Addr}{ep:Nat}(hh:A.in1.handled=none)(hu:A.units+10<cLine)(hN:∀(i:Nat) (k:Key) v,vs[i]? =some (k,v)->zb0 s0 v (N.getD i []))(dd:s0.heap.DictAt (eO prog w) d vs ep)(n1:s0.heap.get? it=none)(n2:s0.heap.get? S=none)(ne:it≠S):
  ∀(m j:Nat) (s:Shared) (vb:Value) (c:Nat) (k:Key),vs.length=j+1+m->s.heap.IsValIter it d (j+1) vs.length ep->qE s0.heap s.heap->vs[argBest (ltN N) j]? =some (k,vb)->s.heap.get? S=some {cls:= .type "list",dict:=none,data:= .seq #[vb,vb] c,slots:= #[]}->
  (∀v k h' tk,vs[argBest (ltN N) (vs.length-1)]? =some (k,v)->qE s0.heap h'->R (.ok (.ret v)) {s with heap:=h',toks:=tk})->codeAny (model prog w) A (.builtin "min.loop" ⟨[.ref it,.none,.ref S],[]⟩) R s:=by
 have hname:(toString "min"++toString ".loop":String)="min.loop"/\∀b o,s0.heap.get? b=some o->b≠it/\b≠S:=⟨by decide,fun b o e=>⟨fun z=>(by rw [z,n1] at e;cases e),fun z=>(by rw [z,n2] at e;cases e)⟩⟩
 intro m
 induction m with
 |zero=>
  intro j s vb c k hj hit K hb hS hR
  refine W5 XS (?_:wpAny _ _ _ _ _ s);rw [Xp Yg _]
  show wpAny _ A.in1 (seqItems? (.ref S)>>=fun _=>_) _ _ s;refine Zh (Wf hS rfl (?_:wpAny _ _ _ _ _ s))
  show wpAny _ A.in1 (tryCatch (pyNext (.ref it)) _>>=_) _ _ s
  refine Zh (Xq (wpAny_pyNext_values_end hh hit (dd.keep K) (YC (by omega)) fun h' eb=> ?_))
  have hS':=eb S _ (Y7 ne) hS;show wpAny _ A.in1 (updateSeq S (fun _=> #[])>>=fun _=>_) _ _ _
  refine Zh (W6 hS' rfl (Zh (XX (ZH ?_))))
  exact hR vb k _ s.toks (by rw [show vs.length-1=j by omega];exact hb) fun b o e=>(ZY _ _ (Y7 (hname.2 b o e).2)).trans (eb b o (hname.2 b o e).1 (K b o e))
 | succ m ih=>
  intro j s vb c k hj hit K hb hS hR
  obtain⟨⟨kx,vx⟩,hx⟩:∃p,vs[j+1]? =some p:=⟨vs[j+1],by simp⟩
  refine W5 XS (?_:wpAny _ _ _ _ _ s);rw [Xp Yg _]
  show wpAny _ A.in1 (seqItems? (.ref S)>>=fun _=>_) _ _ s;refine Zh (Wf hS rfl (?_:wpAny _ _ _ _ _ s))
  show wpAny _ A.in1 (tryCatch (pyNext (.ref it)) _>>=_) _ _ s
  refine Zh (Xq (Wp hit (dd.keep K) hx fun h' hit' sb=> ?_))
  have K':qE s0.heap h':=fun b o e=>(sb.2 b (hname.2 b o e).1).trans (K b o e)
  have hS':h'.get? S=_:=(sb.2 S (Y7 ne)).trans hS;show wpAny _ A.in1 (tryCatch (holding [vx,vx] (richCompare .Lt vx vb>>=fun _=>_)) _>>=_) _ _ _
  refine Zh (Xq (Yx (Zh (wl2 (s:={s with heap:=h'}) (by show A.units+1+9<cLine;omega) ((hN _ _ _ hx).keep K') ((hN _ _ _ hb).keep K') ?_))))
  refine Zh (Yx (Y4 (Zh (XX (ZH ?_)))))
  have tl:∀(h2:Heap) (vb2:Value) (k2:Key) (c2:Nat),h2.IsValIter it d (j+1+1) vs.length ep->qE s0.heap h2->vs[argBest (ltN N) (j+1)]? =some (k2,vb2)->h2.get? S=some {cls:= .type "list",dict:=none,data:= .seq #[vb2,vb2] c2,slots:= #[]}->codeAny (model prog w) A (.builtin "min.loop" ⟨[.ref it,.none,.ref S],[]⟩) R {s with heap:=h2}:=fun h2 vb2 k2 c2 a1 a2 a3 a4=>ih (j+1) {s with heap:=h2} vb2 c2 k2 (by omega) a1 a2 a3 a4 fun v k h3 tk a5 a6=>hR v k h3 tk a5 a6
  have hlt:za9 (N.getD (j+1) []) (N.getD (argBest (ltN N) j) [])=ltN N (j+1) (argBest (ltN N) j):=rfl
  rw [hlt]
  cases hbt:ltN N (j+1) (argBest (ltN N) j) with
  | true=>
   simp only [ZW]
   refine Zh (W6 hS' rfl (Zh (XX ?_)));rw [hname.1]
   refine ZH ⟨Xw Yg _,tl _ vx kx _ ?_ ?_ ?_ (Xk _ hS' rfl)⟩
   ·obtain⟨oi,q1,q2⟩:=hit'
    exact⟨oi,(ZY _ _ (Y7 ne)).trans q1,q2⟩
   ·exact fun b o e=>(ZY _ _ (Y7 (hname.2 b o e).2)).trans (K' b o e)
   ·rw [argBest,hbt,if_pos rfl];exact hx
  |false=>
   simp only [ZQ,Yy]
   refine Zh (XX ?_);rw [hname.1]
   exact ZH ⟨Xw Yg _,tl _ vb k c hit' K' (by rw [argBest,hbt,if_neg Za];exact hb) hS'⟩
theorem zw5{Q:Value->Shared->Prop}{s0 s:Shared}{vs:List (Key×Value)}{N:List (List (List Int))}{d vw:Addr}{ep:Nat}(hh:A.handled=none)(hu:A.units+11<cLine)(hN:∀(i:Nat) (k:Key) v,vs[i]? =some (k,v)->zb0 s0 v (N.getD i []))(dd:s0.heap.DictAt (eO prog w) d vs ep)(K:qE s0.heap s.heap)(hv:s.heap.IsValuesView vw d)(h0:0<vs.length)
  (hQ:∀v k h' tk,vs[argBest (ltN N) (vs.length-1)]? =some (k,v)->qE s0.heap h'->Q v {s with heap:=h',toks:=tk}):wpAny (model prog w) A (call (.builtin "min") [.ref vw]) Q E s:=by
 have hname:(toString "min"++toString ".loop":String)="min.loop"/\True:=⟨by decide,trivial⟩
 refine call_function_tree F.kind_min F.plain_min F.entry_min (F.args_min1 (.ref vw)) (?_:wpAny _ _ _ _ _ s)
 show wpAny _ A.in1 (Builtin.Builtins.bindParams "min" ["key","default"] 0 ⟨[],[]⟩>>=fun _=>_) _ _ s
 refine Zh (wpAny_of_eq (a:=[none,none]) rfl (Zh (ZH (Zh (wpAny_pyIter_values hv (dd.keep K) (Zh (wpAny_newObj_type ?_)))))))
 rw [hname.1]
 refine ZH ⟨Xw Yg _,?_⟩
 have e0:∀b o,s0.heap.get? b=some o->b<s.heap.objs.size:=fun b o e=>Zj (K b o e)
 have nn:∀b,s.heap.objs.size<=b->s0.heap.get? b=none:=fun b hb=>by
  cases z:s0.heap.get? b with
  |none=>rfl
  |some o=>exact absurd (e0 b o z) (Nat.not_lt.mpr hb)
 have szp:∀o:Obj,(s.heap.push o).objs.size=s.heap.objs.size+1:=fun o=>We ..
 obtain⟨⟨k0,v0⟩,hx⟩:∃p,vs[0]? =some p:=⟨vs[0],by simp⟩
 generalize hio:({cls:= .type "dict_valueiterator",data:= .fields #[.ref d,.int 0 0,.int vs.length 0,.int ep 0]}:Obj)=io
 have K1:qE s0.heap ((s.heap.push io).push {cls:= .type "list",data:= .seq #[]}):=fun b o e=>Zf _ (Zf _ (K b o e))
 have hS:((s.heap.push io).push {cls:= .type "list",data:= .seq #[]}).get? (s.heap.push io).objs.size=some {cls:= .type "list",data:= .seq #[]}:=Zv _ rfl
 have hI:((s.heap.push io).push {cls:= .type "list",data:= .seq #[]}).IsValIter s.heap.objs.size d 0 vs.length ep:=⟨io,Zf _ (Zv _ (by rw [<-hio];rfl)),by rw [<-hio],by rw [<-hio];rfl⟩
 have ne:s.heap.objs.size≠(s.heap.push io).objs.size:=by rw [szp];omega
 have n2:s0.heap.get? (s.heap.push io).objs.size=none:=nn _ (by rw [szp];omega)
 generalize (s.heap.push io).objs.size=S at hS ne n2|-
 generalize (s.heap.push io).push {cls:= .type "list",data:= .seq #[]}=hp at K1 hS hI|-
 refine W5 XS (?_:wpAny _ _ _ _ _ {s with heap:=hp});rw [Xp Yg _]
 show wpAny _ A.in1 (seqItems? (.ref S)>>=fun _=>_) _ _ _;refine Zh (Wf hS rfl (?_:wpAny _ _ _ _ _ {s with heap:=hp}))
 show wpAny _ A.in1 (tryCatch (pyNext (.ref s.heap.objs.size)) _>>=fun _=>_) _ _ _
 refine Zh (Xq (Wp (s:={s with heap:=hp}) hI (dd.keep K1) hx fun h' hit' sb=> ?_))
 have K':qE s0.heap h':=fun b o e=>(sb.2 b (fun z=>by rw [z,nn _ (Zb _)] at e;cases e)).trans (K1 b o e)
 have hS':h'.get? S=_:=(sb.2 S (Y7 ne)).trans hS;show wpAny _ A.in1 (updateSeq S (fun _=> #[v0,v0])>>=fun _=>_) _ _ _
 refine Zh (W6 hS' rfl ?_);rw [hname.1]
 refine ZH ⟨Xw Yg _,wl3 (s0:=s0) (A:=A) (N:=N) (vs:=vs) hh (by omega) hN dd (nn _ (Zb _)) n2 ne (vs.length-1) 0 _ v0 _ k0 (by omega) ?_ ?_ hx (Xk _ hS' rfl) fun v k h2 tk a1 a2=> ?_⟩
 ·obtain⟨oi,q1,q2⟩:=hit'
  exact⟨oi,(ZY _ _ (Y7 ne)).trans q1,q2⟩
 ·exact fun b o e=>(ZY _ _ (fun z=>by rw [<-z,n2] at e;cases e)).trans (K' b o e)
 ·exact hQ v k h2 tk a1 a2
end
def D.intsss:List D->Option (List (List (List Int)))
 |[]=>some []
 | .tup xs::ds=>(D.intss xs).bind fun n=>(D.intsss ds).map (n::·)
 |_=>none
theorem zu3:∀{ds:List D} {N:List (List (List Int))},D.intsss ds=some N->ds.length=N.length/\∀(i:Nat) d,ds[i]? =some d->∃xs,d= .tup xs/\D.intss xs=some (N.getD i [])
 |[],_,e=>by cases e;exact⟨rfl,fun i d h=>by simp at h⟩
 | .tup xs::ds,N,e=>by
  obtain⟨n,e1,e2⟩:=bind_some (show(D.intss xs).bind _=some N from e)
  obtain⟨M,e3,rfl⟩:=Zp.mp e2
  obtain⟨h1,h2⟩:=zu3 e3
  refine⟨by simp [h1],fun i d h=> ?_⟩
  cases i with
  |zero=>simp at h;exact⟨xs,h.symm,e1⟩
  |succ i=>simpa using h2 i d (by simpa using h)
 | .non::_,_,e=>by cases e
 | .bl _::_,_,e=>by cases e
 | .int _::_,_,e=>by cases e
 | .str _::_,_,e=>by cases e
 | .lst _ _::_,_,e=>by cases e
 | .con _::_,_,e=>by cases e
 | .ty _::_,_,e=>by cases e
 | .dic _ _ _::_,_,e=>by cases e
 | .obj _ _ _ _::_,_,e=>by cases e
def xs4:D->Option D
 | .dic _ _ ds=>(D.intsss ds).bind fun N=>ds[argBest (ltN N) (N.length-1)]?
 |_=>none
def zy9(f:tz2):tz2:=fun ps=>(f ps).bind xs4
section
variable{X:Cx}{κ:tz9}{a:Expr}{fa:tz2}{p1 p2 ap pos:Pos}
theorem xw8(hc:X.calm=true)(hu:X.A.units+64<cLine)(ha:QV X κ a fa)(hg:Gl X "min")(hm:X.mg "min"=none)(hb:attributeBase a "values" X.env (eval a X.env)=eval a X.env:=by rfl)(hln:(ap.endLine==p2.line)=true:=by rfl)
  (hs1:starEach [.Call (.Attribute a "values" ap) [] [] p2] X.env=(false,eval (.Call (.Attribute a "values" ap) [] [] p2) X.env)::starEach [] X.env:=by rfl):
  QV X κ (.Call (.Name "min" p1) [.Call (.Attribute a "values" ap) [] [] p2] [] pos) (zy9 fa):=⟨by
 intro pins s σ H Q I hh_
 obtain⟨ps,d,w,e,q⟩:=hh_
 obtain⟨d1,e1,e2⟩:=bind_some e
 unfold xs4 at e2
 split at e2
 ·rename_i b ks ds
  obtain⟨N,eN,e3⟩:=bind_some e2
  obtain⟨hNl,hNa⟩:=zu3 eN
  refine Y3 (tG I hg hm (u:= .builtin "min") boot_min ?_)
  refine Xr ?_ hs1 rfl
  rw [hs1]
  refine YV ?_
  refine wpAny_Call_method hb rfl hln PySem.F.plainAttrs_dict XT PySem.F.type_dict_values (thn (ha pins s σ H (fun v H1=>SameK H H1/\∃fp,Rep X.K κ H1 v (.dic b ks ds) fp) I ⟨ps,_,w,e1,fun v H1 fp s1 r1=>⟨s1,fp,r1⟩⟩) fun u s1 hx=> ?_)
  obtain⟨v,H1,I1,r1,sm,fp,rp⟩:=hx
  obtain⟨l,kvs,g,rfl,hl,hk,hrs,_⟩:=rp.dic_inv
  cases r1
  obtain⟨t1,t2,t3⟩:=wd1 I1 (.inl ⟨kvs,hl⟩)
  refine⟨t1,t2,?_⟩
  obtain⟨z,sm',vs,hv,hd⟩:=uP I1.hok hl
  obtain⟨ep,dd⟩:=hd.dictAt
  refine Xd rfl (PyProof.Rows.evalArgs_nil3 (?_:wpAny _ _ _ _ _ s1))
  refine call_meetsIn XT t1 PySem.F.entry_dict_values (PySem.F.args_dict_values_1 (.ref l)) (meets_dict_values (eO X.prog X.w) l t3) ⟨⟨vs,hd⟩,X3 ?_⟩
  have lv:=ZI hv
  have ld:kvs.length=ds.length:=by have:=hrs.length;simpa using this
  have h0:argBest (ltN N) (N.length-1)<ds.length:=(Z4.mp e3).1
  have hN:∀(i:Nat) (k:Key) v,vs[i]? =some (k,v)->zb0 s1 v (N.getD i []):=fun i k v hi=>by
   obtain⟨⟨k',vv⟩,hx2,hk',rv⟩:=lP hv hi
   have hlt:i<ds.length:=by have:=(Z4.mp hx2).1;omega
   obtain⟨xs,hxs,en⟩:=hNa i ds[i] (by simp [hlt])
   obtain⟨v2,f2,g1,g2,_⟩:=hrs.get (i:=i) (d:=ds[i]) (by simp [hlt])
   rw [Zd,hx2] at g1
   cases g1
   rw [hxs] at g2
   obtain⟨a2,ws,rfl,hw,sw⟩:=g2.tup_inv
   cases rv
   obtain⟨its,rvs,p,_⟩:=I1.tuple hw
   exact⟨a2,_,rfl,p,by simpa using zk0 I1 sw rvs en⟩
  refine zw5 (s0:=s1) (N:=N) (vs:=vs) (d:=l) (I.ok.hd hc) (by show X.A.units+11<cLine;omega) hN dd (fun b o e=>Zf _ e) ⟨_,Zv _ rfl,rfl,rfl⟩ (by omega) fun v k h' tk hv' K=> ?_
  rw [<-lv,ld,hNl] at hv'
  obtain⟨⟨k',vv⟩,hx2,hk',rv⟩:=lP hv hv'
  obtain⟨v2,f2,g1,g2,_⟩:=hrs.get e3
  rw [Zd,hx2] at g1
  cases g1
  exact⟨vv,H1,I1.kept (t':=tk) (h':=h') K,rv,q vv H1 f2 sm g2⟩
 ·cases e2⟩
end
def zb1(g:List D->Bool)(ga:tz3):tz5:=fun ps=>match ga ps with
 |some ds=>g ds
 |none=>false
section
variable{P:Program}{w:World}{K:tz0}{mg:tzA}{base:Heap}{N:List Str}{qual:Str}{scope:Scope}{f C:Addr}{cd:Value}{A:Around}{outer:List Env}{s:Shared}{H:Hp}{E:XK}{κ:tz9}{φ:F0}
theorem xb7{x:Str}{st:Stmt}{ps:List Str}{fa:Addr}{fd:FuncData}{k np:Nat}{g:List D->Bool}{e:Expr}{es:List Expr}{ga:tz3}{p pos:Pos}(Dd:Dn K mg x st ps fa fd)(G:FnOk P w K mg base (CXn P w base C) k fa fd ps (rQ np K κ C g))(hr:Room k (A.deeper (envOfC qual scope s.heap.objs.size f cd)))(hg:Gl (iS (CXn P w base C) P w K mg base N qual scope f cd A outer s H E) x)
  (hnp:(e::es).length=np) (ha:QVA (iS (CXn P w base C) P w K mg base N qual scope f cd A outer s H E).nox κ (e::es) ga) (hlen:∀ps ds,ga ps=some ds->ds.length=(e::es).length)
  (hdb:NDb x:=by decide) (he:starEach (e::es) (envOfC qual scope s.heap.objs.size f cd)=(false,eval e (envOfC qual scope s.heap.objs.size f cd))::starEach es (envOfC qual scope s.heap.objs.size f cd):=by rfl) (hpl:(backTo pos (starEach es (envOfC qual scope s.heap.objs.size f cd))).any (·.1)=false:=by rfl):
  QXe (iS (CXn P w base C) P w K mg base N qual scope f cd A outer s H E) κ φ (E (.ref C) none) (.Call (.Name x p) (e::es) [] pos) (zb1 g ga):=
 (yk4 (X:=iS (CXn P w base C) P w K mg base N qual scope f cd A outer s H E) G hr hg Dd.m Dd.F.kp Dd.b .nil wk9 (PA.nox ha) hdb he hpl).imp fun σ H0 Q hh_=>by
  obtain⟨ps,F,R,e,q⟩:=hh_
  unfold zb1 at e
  split at e
  ·rename_i ds e1
   refine⟨ps,ds,R.ws,e1,fun vs H1 fp s1 r1=> ?_⟩
   show rQ np K κ C g (vs++[]) H1 Q E
   rw [Zl]
   exact⟨by rw [r1.length,hlen ps ds e1,hnp],ds,fp,r1,e,fun H' s2=>q H' ⟨fun a o h kk _=>(s1.trans s2).keep a o h kk,(s1.trans s2).grow⟩⟩
  ·cases e
end
def qF(g:List D->Bool)(fa:tz3)(f:tz1):tz1:=fun ps=>(fa ps).bind fun ds=>if g ds=true then some (.ret .non,ps) else f ps
section
variable{X:Cx}{C:Addr}{pins:tzB}{σ:St}{H1:Hp}{s1 s2:Shared}{D:Ends}{E1:XK}{e:Value}
theorem xw9(I:Inv X pins σ H1 s1)(hstk:X.stack=X.env::X.outer)(hf:X.env.frame=some X.env.locals)(O:OwnCls x C bmB newId X.mg X.base)(hbase:bmB.contains (.type "BaseException")=true)(hg:Gl X x)
  (h:CXn X.prog X.w X.base C X.stack H1 s1 E1 e s2) (q:∀dd H',E1 (.ref C) dd H'->D.rt .non H') (hd:NDb x:=by decide):
  wpAny (model X.prog X.w) X.A (noteFrame e X.env) (fun _ s3=>wpAny (model X.prog X.w) X.A (setFlight e none) (fun _ s4=>wpAny (model X.prog X.w) X.A (handleBy e X.env [.ExceptHandler (some (.Name x np)) none [.Return (some (.Constant .none j p3)) p4] p5]) (SP X pins D) E s4) E s3) E s2:=by
 obtain⟨ea,T,a0,dx,H2,rfl,os,bare,un,hok,fly,kd,q0⟩:=h
 rw [hstk] at un fly
 have hfr:X.A.frames=some (X.env::X.outer):=by rw [<-hstk];exact I.ok.frames
 refine wpAny_looks_onW (L:=X.env.locals) hfr hf fly.flying fun h4 held4 ups4=> ?_
 refine wpAny_landsW held4 fun h5 held ups5=> ?_
 have kp5:∀b o,X.base.get? b=some o->h5.get? b=some o:=fun b o z=>held.1 b o (fly.base_in b o z)
 obtain⟨ob,hob,hobc⟩:=held.there
 obtain⟨bm,N,nm,qn,bs,hdct,sn,sub,ab,col,dd,k0,k1,k2,k3,k5,mN,hC,hN,hni,TL⟩:=(O.keeps kp5).obj
 refine wpAny_handleBy_cons (codeAny_handlers_test (YU I.ok.kind hg (Wq (by rw [I.ok.glob];exact I.ok.mod.glob.keeps kp5) O.bound ?_) hd)) (by intro q;cases q)
 refine wpAny_excMatches_sub_self hC hob hobc (TL.hasType hbase) (codeAny_handlers_suite ?_)
 refine lands_againW held fun h6 fl6 ups6=> ?_
 refine X7 (wpAny_Return_some (Constant_none ?_))
 have ups:s2.heap.UpToSlots h6:=(ups4.trans ups5).trans ups6
 have st:(PySem.W.hideAll s2.heap ([ea,T]++frs (X.env::X.outer))).StaysIn h6:=fl6.1
 have stk:∀b∈frs (X.env::X.outer),H2 b=none:=fun b m=>by
  have m':b∈frs X.stack:=by rw [hstk];exact m
  obtain⟨_,o,q1,_⟩:=I.stack.mem m'
  exact un.free b o q1 (I.stkFree b m') (by simp)
 have u2:=un.mono (fs':=frs (X.env::X.outer)) (ex':=[ea,T]) (fun b m=>m) (fun b m=>absurd m (by simp))
 have u3:Un (frs (X.env::X.outer)) [ea,T] H2 H2 s2.heap h6:=zp3 fly.fr ups st
 have ce:CE X.stack X.prog X.w H1 s1 D.rt .none {s2 with heap:=h6}:=by
  rw [hstk]
  refine⟨.non,H2,os,bare,zp4 (u2.trans u3) (fun b o z m=> ?_) (fun _ _ _ m=>m),zg4 hok (fun b m=> ?_) stk st,rfl,q dx H2 q0⟩
  ·rcases Z3.mp m with y|m
   ·rw [y,fly.ne] at z;cases z
   ·rw [Zc.mp m,fly.nT] at z;cases z
  ·rcases Z3.mp m with z|m
   ·rw [z];exact fly.He
   ·rw [Zc.mp m];exact fly.HT
 obtain⟨v,H',I',r,qv⟩:=I.after ce
 exact⟨v,σ,H',I',r,qv⟩
end
section
variable{X:Cx}{C:Addr}{κ:tz9}{φ:F0}
theorem ym0{x cx y:Str}{st:Stmt}{ps:List Str}{fa:Addr}{fd:FuncData}{k np:Nat}{g:List D->Bool}{e:Expr}{es:List Expr}{ga:tz3}{f:tz1}{p pos pos2 py np' p3 p4 p5 pos6:Pos}{j:Nat}{bmB:List Value}{newId:String}
  (Dd:Dn X.K X.mg x st ps fa fd) (G:FnOk X.prog X.w X.K X.mg X.base (CXn X.prog X.w X.base C) k fa fd ps (rQ np X.K κ C g)) (O:OwnCls cx C bmB newId X.mg X.base) (hbase:bmB.contains (.type "BaseException")=true) (hr:Room k X.A) (hg:Gl X x) (hgc:Gl X cx) (hnp:(e::es).length=np) (ha:QVA X.nox κ (e::es) ga) (hlen:∀ps ds,ga ps=some ds->ds.length=(e::es).length)
  (hA:QSs X.nox κ φ [.Assign [.Name y py] (.Call (.Name x p) (e::es) [] pos) pos2] f) (hstk:X.stack=X.env::X.outer) (hf:X.env.frame=some X.env.locals)
  (hdb:NDb x:=by decide) (hdc:NDb cx:=by decide) (he:StE e es X:=by rfl) (hpl:BkE pos es X:=by rfl)
  (hs:swapsWith (.Call (.Name x p) (e::es) [] pos) (some (.Name y py)) pos2.line X.env=pure false:=by rfl):
  QS X.nox κ φ (.Try [.Assign [.Name y py] (.Call (.Name x p) (e::es) [] pos) pos2] [.ExceptHandler (some (.Name cx np')) none [.Return (some (.Constant .none j p3)) p4] p5] [] [] pos6) (qF g ga f):=⟨by
 intro pins s σ H D I hh_
 obtain⟨pp,F,fl,ps',R,e1,q⟩:=hh_
 obtain⟨ds,e2,e3⟩:=bind_some e1
 have J:Inv X pins σ H s:=I.unwish
 refine wpAny_Try_except ?_
 by_cases hgd:g ds=true
 ·rw [if_pos hgd] at e3
  cases e3
  show wpAny (model X.prog X.w) X.A (execs [.Assign [.Name y py] (.Call (.Name x p) (e::es) [] pos) pos2] X.env) _ _ s
  refine X7 (wpAny_Assign_Name ?_ hs)
  refine Y3 (sR J hg Dd.m ?_ hdb)
  refine Ys (h₀:=X.base) J.ok.mod.kin Dd.F.kp (ZN (ha pos pins s σ H (fun vs H1=>SameK H H1/\∃fp,Reps X.K κ H1 vs ds fp) I ⟨pp,ds,R.ws,e2,fun vs H1 fp s1 r1=>⟨s1,fp,r1⟩⟩) (fun us s1 hu=> ?_) fun _ _ z=>z.elim) he hpl
  obtain⟨vs,H1,I1,r,sm,fp,rs⟩:=hu
  have J1:Inv X pins σ H1 s1:=I1.unwish
  refine⟨J1.kIn,?_⟩
  have hl:vs.length=np:=by rw [rs.length,hlen pp ds e2,hnp]
  have hps:ps.length=np:=(G.len vs H1 (fun _ _=>False) (fun _ _ _=>True) ⟨hl,ds,fp,rs,hgd,fun _ _=>trivial⟩).symm.trans hl
  have hlu:(us++([]:List Value)).length=ps.length:=by rw [Zl,hps,<-hl,r.length]
  refine wpAny_call (Xb (G.run X.A X.stack s1 H1 ⟨us,[]⟩ us vs (fun _ _=>False) (fun _ _ H'=>D.rt .non H') hr J1.env0 (by have:=Dd.b s1 us J1.kIn hlu;rwa [Zl] at this) r ⟨hl,ds,fp,rs,hgd,fun H' s2=> ?_⟩) fun rr s' hq=> ?_)
  ·exact q .non σ H' F [] (Stp.same R (sm.trans s2)) (OwnV.new R (fun _ h=>absurd h (by simp)) Zk) .non
  ·cases rr with
   |error ee=>exact xw9 (X:=X.nox) (D:=D) (E1:=fun _ _ H'=>D.rt .non H') I1 hstk hf O hbase hgc hq (fun dd H' z=>z) hdc
   |ok f2=>
    cases f2 with
    |ret u=>obtain⟨_,_,_,_,_,_,_,z⟩:=hq;exact z.elim
    |next=>exact hq.elim
    |brk=>exact hq.elim
    |cont=>exact hq.elim
 ·rw [if_neg hgd] at e3
  refine ZN (hA pins s σ H D I ⟨pp,F,fl,ps',R,e3,q⟩) (fun fw s' hq=> ?_) fun _ _ z=>z.elim
  cases fw with
  |next=>exact YO hq
  |brk=>exact hq
  |cont=>exact hq
  |ret u=>exact hq⟩
end
section
open PySem.SeqAt
open PySem.AutoSeq1 (wpAny_loadPart')
open PySem.MeetsSeq PySem.MeetsSeq2 PySem.MeetsSeq3
end
theorem bA{X:Cx}{κ:tz9}{φ:F0}(i:Nat){x:Str}{e:Expr}{pos pos':Pos}{f:tz2}(hN:X.N.Nodup)(he:QP X κ e f)(hi:X.N[i]? =some x:=by exact rfl)(hx:Loc X.env.scope x:=by first|exact Or.inl rfl|exact Or.inr rfl)(hb:φ.bor i=false:=by exact rfl)(hm:φ.M i=false:=by exact rfl)
  (hs:swapsWith e (some (.Name x pos')) pos.line X.env=pure false:=by exact rfl) (hf:X.fn x=true\/X.env.scope.names.lookup x=some .local:=by first|exact .inl rfl|exact .inr rfl):QS X κ φ (.Assign [.Name x pos'] e pos) (aV i (aI f)):=yz8 i hN hi hx hb hm (QP.e he) hs hf
theorem we5{φ:F0}(k:Nat)(h:φ.bor k=false:=by exact rfl):∀j∈([k]:List Nat),φ.bor j=false:=fun j hj=>by rw [Zc.mp hj];exact h
theorem nd1(k:Nat):([k]:List Nat).Nodup:=by simp
section
variable{X:Cx}{κ:tz9}{φ:F0}{Ex:Hp->Prop}{fx:tz5}{pos:Pos}
theorem xm0{es:List Expr}:PA X es (fun _ _ _=>False):=⟨fun _ _ _ _ _ _ _ h=>h.elim⟩
theorem xx0{i:Nat}{body:List Stmt}{x:Str}{px p pos0:Pos}{a b:Expr}(hp:PassesOwn (model X.prog X.w) X.A X.env X.xe)(hc:X.calm=true)(hN:X.N.Nodup)(hi:X.N[i]? =some x)(hx:Loc X.env.scope x)(hg:Gl X "range")(hm:X.mg "range"=none)
  (he:QXe X κ φ Ex a fx) (hs:starEach [a,b] X.env=[(false,eval a X.env),(false,eval b X.env)]:=by rfl) (hs2:starEach [b] X.env=[(false,eval b X.env)]:=by rfl) (ha:starEach [a,b] X.env=(false,eval a X.env)::starEach [b] X.env:=by rfl)
  (hfs:∀x,foldedSetIterable (.Call (.Name "range" p) [a,b] [] pos0) X.env x=pure x:=by intro _;rfl) (hf:X.fn x=true\/X.env.scope.names.lookup x=some .local:=by first|exact .inl rfl|exact .inr rfl|assumption):
  QX X κ φ Ex (.For (.Name x px) (.Call (.Name "range" p) [a,b] [] pos0) body [] pos) fx:=
 (zF hp hc (zr8 hg hm (fV he xm0 ha) hs hs2) (fG hN hi hx hf) zN hfs).imp fun _ _ _ h=>h
end
def lX:List Int->Option Int
 |[]=>none
 |n::ns=>match lX ns with
  |none=>some n
  |some m=>some (if n<=m then n else m)
theorem wD:∀{ns:List Int} {k:Int},lX ns=some k->k∈ns/\∀n∈ns,k<=n
 |[],k,h=>by cases h
 | n::ns,k,h=>by
  rw [lX] at h
  cases e:lX ns with
  | none=>
   rw [e] at h
   cases h
   cases ns with
   |nil=>simp
   |cons m ms=>
    rw [lX] at e
    cases e2:lX ms<;>rw [e2] at e<;>cases e
  | some m=>
   rw [e] at h
   obtain⟨h1,h2⟩:=wD e
   have h3:(if n<=m then n else m)=k:=by simpa using h
   by_cases c:n<=m
   ·rw [if_pos c] at h3
    subst h3
    exact⟨by simp,fun x hx=>(Z3.mp hx).elim (fun z=>by omega) fun z=>by have:=h2 x z;omega⟩
   ·rw [if_neg c] at h3
    subst h3
    exact⟨by simp [h1],fun x hx=>(Z3.mp hx).elim (fun z=>by omega) fun z=>h2 x z⟩
def yv3:tz6
 |[.lst _ xs]=>(D.ints xs).bind fun ns=>(lX ns).map .int
 |_=>none
theorem we6{X:Cx}{κ:tz9}(hc:X.calm=true):CallR X (.builtin "min") (PCl X.K κ yv3):=⟨by
 rintro pins s σ H vs us Q I r ⟨ds,fp,d,rs,e,q⟩
 unfold yv3 at e
 split at e
 ·obtain⟨ns,e1,e2⟩:=bind_some e
  obtain⟨k,e3,rfl⟩:=Zp.mp e2
  obtain⟨v,rfl,r1⟩:=rs.one_inv
  obtain⟨a,ws,g,rfl,h,hs,_⟩:=r1.lst_inv
  rw [sU hs e1] at h
  obtain⟨h1,h2⟩:=wD e3
  refine yz0 hc pins s σ H _ us Q I r ⟨a,ns,rfl,.inl h,List.length_pos_of_mem h1,fun m hm hx=> ?_⟩
  have em:m=k:=by have:=h2 m hm;have:=hx k h1;omega
  rw [em]
  exact q.now (.int _)
 ·cases e⟩
end L2
namespace L3
open PySem PySem.Spec PyProof.Rows L2
def top(i:Nat):Stmt:=PySem.Challenge.pw_linepress_k32_stairs.main.body.getD i (.Pass ⟨0,0,0,0⟩)
end L3
namespace My
open PySem PySem.Spec PyProof.Rows L2 L3
variable{P:Program}{w:World}{K:tz0}{mg:tzA}{base:Heap}{κ:tz9}
theorem cH{N ps:List Str}{sc:Scope}(a:sc.kind= .function:=by rfl)(b:sc.isCoroutine=false:=by rfl)(c:sc.isGenerator=false:=by rfl)(d:N.Nodup:=by decide+kernel)(e:N.take ps.length=ps:=by rfl)(f:∀x∈ps,sc.names.lookup x=some .local\/sc.names.lookup x=some .cell:=by decide+kernel)(g:∀y∈sc.names,y.2≠ .free:=by decide+kernel):FnScope N ps sc:=⟨a,b,c,d,e,f,g⟩
inductive Leaf where
 |word (x:Str)|gap (x:Str)|stop (c:Int)|fin
inductive Tk where
 |leaf (l:Leaf)|opn|cls|hng (n:Int)|bck|eit|orr|don
inductive Pc where
 |leaf (l:Leaf)|group (r:List Pc)|hang (n:Int) (r:List Pc)|either (rs:List (List Pc))
mutual
def dE:Pc->List Tk
 | .leaf l=>[.leaf l]
 | .group r=> .opn::(toksR r++[.cls])
 | .hang n r=> .hng n::(toksR r++[.bck])
 | .either rs=> .eit::(toksRows rs++[.don])
def toksR:List Pc->List Tk
 |[]=>[]
 |p::r=>dE p++toksR r
def toksRows:List (List Pc)->List Tk
 |[]=>[]
 |r::rs=>toksR r++toksMore rs
def toksMore:List (List Pc)->List Tk
 |[]=>[]
 |r::rs=> .orr::(toksR r++toksMore rs)
end
theorem oJ:∀r s:List Pc,toksR (r++s)=toksR r++toksR s
 |[],s=>rfl
 |p::r,s=>by
  show dE p++toksR (r++s)=(dE p++toksR r)++toksR s
  rw [oJ r s,Zq]
theorem xb8(p:Pc):toksR [p]=dE p:=by
 show dE p++[]=dE p
 rw [Zl]
mutual
def eV:Pc->Nat
 | .leaf _=>0
 | .group r=>depR r+1
 | .hang _ r=>depR r+1
 | .either rs=>depRs rs+1
def depR:List Pc->Nat
 |[]=>0
 |p::r=>max (eV p) (depR r)
def depRs:List (List Pc)->Nat
 |[]=>0
 |r::rs=>max (depR r) (depRs rs)
end
theorem zP:∀(r:List Pc) (p:Pc),depR (r++[p])=max (depR r) (eV p)
 |[],p=>by
  exact Nat.max_comm (eV p) 0
 |q::r,p=>by
  show max (eV q) (depR (r++[p]))=max (max (eV q) (depR r)) (eV p)
  rw [zP r p,Nat.max_assoc]
theorem xF:∀(rs:List (List Pc)) (r:List Pc),depRs (rs++[r])=max (depRs rs) (depR r)
 |[],r=>by
  exact Nat.max_comm (depR r) 0
 |q::rs,r=>by
  show max (depR q) (depRs (rs++[r]))=max (max (depR q) (depRs rs)) (depR r)
  rw [xF rs r,Nat.max_assoc]
def vE(c:Nat):Bool:=decide (33<=c)&&decide (c<=126)
def yg7(z:Str):Prop:=1<=z.length/\z.length<=12/\z.cps.toList.all vE=true
def fR:Leaf->Prop
 | .word x=>yg7 x
 | .gap x=>x=""\/x=" "
 | .stop c=>0<=c/\c<=40
 | .fin=>True
end My
namespace My
open PySem PySem.Spec PyProof.Rows L2 L3
variable{P:Program}{w:World}{K:tz0}{mg:tzA}{base:Heap}{κ:tz9}
def wT(ns:List Int)(k:Int):Int:=ns.getD (k % (ns.length:Int)).toNat 0
def zm7(ns:List Int)(k:Int):Int:=k/(if (ns.length:Int)>1 then(ns.length:Int) else 1)
def wj3(ns:List Int)(k salt:Int):Int:=PySem.Builtin.bitAnd (wT ns k) 2147483647+1009*k*k+7919*salt*salt+12
def ze0(ns:List Int)(k salt:Int):Int:=wj3 ns k salt*48271 % 2147483647
def xs5(ns:List Int)(k salt:Int):Int:=ze0 ns k salt*ze0 ns k salt % 2147483629
def yF(ns:List Int)(k salt:Int):Int:=PySem.Builtin.bitAnd (wT ns k/2^(31*(salt+128*zm7 ns k)).toNat+xs5 ns k salt) 2147483647
theorem yi8(ns:List Int)(k salt:Int):0<=yF ns k salt/\yF ns k salt<2147483648:=by
 have e:yF ns k salt=(wT ns k/2^(31*(salt+128*zm7 ns k)).toNat+xs5 ns k salt) % 2147483648:=PySem.W.kbt_mask _ 31
 rw [e]
 exact⟨ZE _ (by decide),ZC _ (by decide)⟩
def yg8(K:tz0):Sp:=fun vs H Q _=>∃(a:Addr) (ns:List Int) (k:Int),vs=[.ref a,.int k]/\SqL K H a (ns.map V.int)/\Q (.int (wT ns k)) H
def yp1(K:tz0):Sp:=fun vs H Q _=>∃(a:Addr) (ns:List Int) (k salt:Int),vs=[.ref a,.int k,.int salt]/\SqL K H a (ns.map V.int)/\ns.length<=63/\(0<=k/\k<1000000)/\(0<=salt/\salt<1000000)/\Q (.int (yF ns k salt)) H
abbrev oS:Stmt:=top 43
abbrev yg9:List Str:=["_law_script","_law_k"]
theorem zQ:FnScope ["_law_script","_law_k"] yg9 (aS oS):=cH
theorem yd0{n:Nat}{f:Addr}{fd:FuncData}(D:Dn K mg "_law_cell_at" oS ["_law_script","_law_k"] f fd)(ac:mg "len"=none):
  FnOk P w K mg base CX0 (n+1) f fd ["_law_script","_law_k"] (yg8 K):=by
 refine D.F.ok zQ (fun vs H Q E h=> ?_) (fun cdv A outer s H vs Q E hr h=> ?_)
 ·obtain⟨a,ns,k,rfl,_⟩:=h
  rfl
 obtain⟨a,ns,k,rfl,hS,q⟩:=h
 refine⟨_,(kA (yp2 (yk1 yp7 (tJ jR rfl ac ZZ (fV (pv 0) oC)) iP (bJ _)) (zc2 (zE iP)) yj5)
  (zc2 (zE (zx4 zo2 (pv 0) (gH zi3 (pv 1) (tJ jR rfl ac ZZ (fV (pv 0) oC))) (fun _ _=>rfl))))),?_⟩
 have hl:(ns.map V.int).length=ns.length:=Z7 _
 refine⟨_,rfl,a,_,rfl,.inl hS,rfl,_,rfl,?_⟩
 refine wn9 (fun c=> ?_) (fun c=> ?_)
 ·have e:(((ns.map V.int).length:Nat):Int)=0:=by simpa using c
  have e':ns=[]:=by
   rw [hl] at e
   exact Xx (by omega)
  subst e'
  exact q
 ·have e:¬(((ns.map V.int).length:Nat):Int)=0:=by simpa using c
  rw [hl] at e
  have hp:(0:Int)<((ns.map V.int).length:Nat):=by rw [hl];omega
  refine⟨_,rfl,_,rfl,_,rfl,a,_,rfl,.inl hS,_,_,rfl,rfl,hp,a,_,_,_,rfl,rfl,hS,?_,q⟩
  rw [hl]
  have h0:=ZE k e
  have h1:=ZC k (show(0:Int)<ns.length by omega)
  have ek:k % (ns.length:Int)=(((k % (ns.length:Int)).toNat:Nat):Int):=by omega
  rw [ek]
  refine zo1 ?_
  rw [Zd,Zm (by omega)]
  unfold wT
  rw [YN,Zm (by omega)]
  rfl
abbrev mQ:Stmt:=top 44
abbrev kK:List Str:=["_law_script","_law_k","_law_salt"]
theorem kD:FnScope ["_law_script","_law_k","_law_salt","_law_cell","_law_lap","_law_near"] kK (aS mQ):=cH
theorem ys4{n:Nat}{f f1:Addr}{fd fd1:FuncData}(D:Dn K mg "_law_mixed" mQ ["_law_script","_law_k","_law_salt"] f fd)(kt:Dn K mg "_law_cell_at" oS ["_law_script","_law_k"] f1 fd1)
  (o4:FnOk P w K mg base CX0 n f1 fd1 ["_law_script","_law_k"] (yg8 K)) (ac:mg "len"=none) (tj:mg "max"=none):
  FnOk P w K mg base CX0 (n+1) f fd ["_law_script","_law_k","_law_salt"] (yp1 K):=by
 refine D.F.ok kD (fun vs H Q E h=> ?_) (fun cdv A outer s H vs Q E hr h=> ?_)
 ·obtain⟨a,ns,k,salt,rfl,_⟩:=h
  rfl
 obtain⟨a,ns,k,salt,rfl,hS,h63,⟨hk0,hk1⟩,⟨hs0,hs1⟩,q⟩:=h
 refine⟨_,(kA (tH (i:=3) kD.nd rfl (.inl rfl) (yq8 kt o4 hr rfl (fV (pv 0) (fV (pv 1) oC))))
  (kA (tH (i:=4) kD.nd rfl (.inl rfl) (gH yj7 (pv 1) (tJ (yx2 rfl) rfl tj boot_max (fV iP (fV (tJ jR rfl ac ZZ (fV (pv 0) oC)) oC)))))
  (kA (tH (i:=5) kD.nd rfl (.inl rfl) (gH vW (gH vW (gH vW (gH yx0 (pv 3) iP) (gH oA (gH oA iP (pv 1)) (pv 1))) (gH oA (gH oA iP (pv 2)) (pv 2))) iP))
  (kA (tH (i:=5) kD.nd rfl (.inl rfl) (gH zi3 (gH oA (pv 5) iP) iP))
  (kA (tH (i:=5) kD.nd rfl (.inl rfl) (gH zi3 (gH oA (pv 5) (pv 5)) iP))
  (zc2 (zE (gH yx0 (gH vW (gH wb7 (pv 3) (gH oA iP (gH vW (pv 2) (gH oA iP (pv 4))))) (pv 5)) iP)))))))),?_⟩
 have hl:(ns.map V.int).length=ns.length:=Z7 _
 have hlap:0<=zm7 ns k:=by unfold zm7;exact Int.ediv_nonneg hk0 (by split<;>omega)
 have hn1:0<=ze0 ns k salt/\ze0 ns k salt<2147483647:=⟨ZE _ (by decide),ZC _ (by decide)⟩
 refine⟨_,rfl,_,rfl,a,ns,k,rfl,hS,?_⟩
 refine⟨_,rfl,_,rfl,a,_,rfl,.inl hS,_,_,rfl,_,_,rfl,rfl,?_,?_⟩
 ·rw [hl];constructor
  ·split<;>omega
  ·split<;>omega
 rw [hl]
 refine⟨_,rfl,_,_,rfl,rfl,_,rfl,_,_,rfl,rfl,.inl ⟨by decide,by decide⟩,_,rfl,_,_,rfl,rfl,.inr ⟨by omega,by omega⟩,_,_,rfl,rfl,_,rfl,_,_,rfl,rfl,.inl ⟨by decide,by decide⟩,_,rfl,_,_,rfl,rfl,.inr ⟨by omega,by omega⟩,_,_,rfl,rfl,_,_,rfl,rfl,?_⟩
 refine⟨_,rfl,_,_,rfl,rfl,.inr ⟨by decide,by decide⟩,_,_,rfl,rfl,(by show(0:Int)<2147483647;decide),?_⟩
 refine⟨_,rfl,_,rfl,_,_,rfl,rfl,.inl ⟨by show-(2^64)<ze0 ns k salt;omega,by show ze0 ns k salt<2^64;omega⟩,_,_,rfl,rfl,(by show(0:Int)<2147483629;decide),?_⟩
 refine⟨_,rfl,_,rfl,_,rfl,_,_,rfl,rfl,.inl ⟨by decide,by decide⟩,_,_,rfl,rfl,_,_,rfl,rfl,.inl ⟨by decide,by decide⟩,_,_,rfl,rfl,?_,_,rfl,_,_,rfl,rfl,_,_,rfl,rfl,q⟩
 show 0<=31*(salt+128*zm7 ns k)
 omega
end My
namespace L3
open PySem PySem.Spec PyProof.Rows L2 My
variable{P:Program}{w:World}{K:tz0}{mg:tzA}{base:Heap}{κ:tz9}
def uI(c8:(tz7)):tz1:=
 (bW (aI (mX (eU "Place" (bY [.im (fC (.bl true)),.im (fC (.int 0))]) c8))))
abbrev iU:Stmt:=top 7
abbrev fF:List Str:=[]
theorem tN:FnScope [] fF (aS iU):=cH
theorem zg7(bc:Dn K mg "first_place" iU fF f fd)
  (g9:Kn K mg κ "Place" "Place.__init__" st_Place_init ps_Place_init ju jd) (d8:FnOk P w K mg base CX0 n ju jd ps_Place_init (SpE 3 K κ (bR [true,false,false]) c8)):
  FnOk P w K mg base CX0 ((n+1)+1) f fd fF (SpP 0 K κ (gP 0 0 (uI c8))):=
 cD bc.F tN fun cdv A outer s H E B hr=>
 (aN (bN (QP.e (zj7 (mM g9 d8 hr rfl (dL (QP.v qA) (dL (QP.v aK) eJ)) rfl rfl (dF 2))))))
def vF:tz1:=
 (bW (aI (f2 dIn (f2 dIx (aB 0) (fC (.int 0))) (fC (.tup [(.str "group"),(.str "hang"),(.str "either")])))))
abbrev jI:Stmt:=top 8
abbrev fS:List Str:=["piece"]
theorem uT:FnScope ["piece"] fS (aS jI):=cH
theorem zk1(bj:Dn K mg "holds_rows" jI fS f fd)
  (n8:mg "HOLDERS"=some (.ref kz)) (n9:∀H,Rep K κ H (.ref kz) (.tup [(.str "group"),(.str "hang"),(.str "either")]) []):
  FnOk P w K mg base CX0 (n+1) f fd fS (SpP 1 K κ (gP 1 0 (vF))):=
 cD bj.F uT fun cdv A outer s H E B hr=>
 (aN (bN (QP.e (oE wo0 (bL (aC 0) (QP.v aK)) (QP.v (sS (v:= .ref kz) (d:=(.tup [(.str "group"),(.str "hang"),(.str "either")])) rfl n8 rfl n9)) (by with_unfolding_all rfl)))))
def rW:tz1:=
 (bW (aI (fOr (f2 dEq (f2 dIx (aB 0) (fC (.int 0))) (fC (.str "either"))) (vS (f2 dEq (f2 dIx (aB 0) (fC (.int 0))) (fC (.str "group"))) (aX (cB "Place" "broken" (aB 1)))))))
abbrev iC:Stmt:=top 9
abbrev eX:List Str:=["piece","place"]
theorem rT:FnScope ["piece","place"] eX (aS iC):=cH
theorem ze4(az:Dn K mg "takes_choice" iC eX f fd)
  (ba:Cls K (κ "Place"))
  (bu:bZ K (κ "Place") "broken"):
  FnOk P w K mg base CX0 (n+1) f fd eX (SpP 2 K κ (gP 2 0 (rW))):=
 cD az.F rT fun cdv A outer s H E B hr=>
 (aN (bN (QP.e (wk6 (oE (kB (Room.units hr)) (bL (aC 0) (QP.v aK)) (QP.v cY) (bJ _)) (ya6 (yz4 (oE (kB (Room.units hr)) (bL (aC 0) (QP.v aK)) (QP.v cY) (bJ _)) (ya6 (QV.p (cR (C:="Place") ba bu (aC 1))))))))))
def lY(c8:(tz7)):tz1:=
 (aT (aV 2 (aI (aX (f2 dIx (aB 0) (fC (.int 0))))))
 (aT (fIf (aU (fB (f2 dEq (aB 2) (fC (.str "hang")))))
  (bW (aI (dM (aA (cA (aA (aX (f2 dIx (aB 0) (fC (.int 2)))) (aA (mX (eU "Place" (bY [.im (cB "Place" "broken" (aB 1)),.im (f2 cO (cB "Place" "margin" (aB 1)) (f2 dIx (aB 0) (fC (.int 1))))]) c8)) aE))) aE))))
  bC)
 (aT (fIf (aU (fB (f2 dEq (aB 2) (fC (.str "either")))))
  (bW (aI (fQ [none,some 1] (dP (f2 dIx (aB 0) (fC (.int 1)))) fK (cA (aA (aX (aB 0)) (aA (aX (aB 1)) aE))))))
  bC)
 (aT (aV 3 (aI (cA (aA (aX (f2 dIx (aB 0) (fC (.int 1)))) (aA (mX (eU "Place" (bY [.im (fC (.bl false)),.im (cB "Place" "margin" (aB 1))]) c8)) aE)))))
 (aT (fIf (aU (fT (cB "Place" "broken" (aB 1))))
  (bW (aI (dM (aA (aX (aB 3)) (aA (cA (aA (aX (f2 dIx (aB 0) (fC (.int 1)))) (aA (aX (aB 1)) aE))) aE)))))
  bC)
 (bW (aI (dM (aA (aX (aB 3)) aE)))))))))
abbrev nX:Stmt:=top 10
abbrev lZ:List Str:=["piece","place"]
theorem uU:FnScope ["piece","place","kind","on_one_line"] lZ (aS nX):=cH
theorem xb9(gv:Dn K mg "ways" nX lZ f fd)
  (g9:Kn K mg κ "Place" "Place.__init__" st_Place_init ps_Place_init ju jd) (d8:FnOk P w K mg base CX0 n ju jd ps_Place_init (SpE 3 K κ (bR [true,false,false]) c8))
  (ba:Cls K (κ "Place"))
  (bu:bZ K (κ "Place") "broken")
  (du:bZ K (κ "Place") "margin"):
  FnOk P w K mg base CX0 ((n+1)+1) f fd lZ (SpP 2 K κ (gP 2 2 (lY c8))):=
 cD gv.F uU fun cdv A outer s H E B hr=>
 (aM (bA 2 uU.nd (QV.p (bL (aC 0) (QP.v aK))))
 (aM (cI (QT.e (cC (kB (Room.units hr)) (aC 2) (QP.v cY) (bJ _)))
  (aN (bN (QP.e (eW (aQ (dJ (aQ (QV.p (bL (aC 0) (QP.v aK))) (aQ (zj7 (mM g9 d8 hr rfl (dL (cR (C:="Place") ba bu (aC 1)) (dL (QP.v (bO fN (cR (C:="Place") ba du (aC 1)) (bL (aC 0) (QP.v aK)))) eJ)) rfl rfl (dF 2))) bB))) bB)))))
  bP)
 (aM (cI (QT.e (cC (kB (Room.units hr)) (aC 2) (QP.v cY) (bJ _)))
  (aN (bN (QP.e (pJ (sc:=aS nX) (NX:=["piece","place","kind","on_one_line"]) (N:=["row","place"]) (pick:=[none,some 1]) ⟨rfl,by decide+kernel,by decide+kernel,by decide+kernel,by decide+kernel,by decide,rfl⟩ rfl rfl rfl (wA (bL (aC 0) (QP.v aK))) (fun _ _ _ _=>(fG (i:=0) (show(["row","place"]:List Str).Nodup by decide) rfl (by first|exact Or.inl rfl|exact Or.inr rfl))) (fun _ _ _ _=>pI) (fun _ _ _ _=>(dJ (aQ (QV.p (aC 0)) (aQ (QV.p (aC 1)) bB))))))))
  bP)
 (aM (bA 3 uU.nd (dJ (aQ (QV.p (bL (aC 0) (QP.v aK))) (aQ (zj7 (mM g9 d8 hr rfl (dL (QP.v qA) (dL (cR (C:="Place") ba du (aC 1)) eJ)) rfl rfl (dF 2))) bB))))
 (aM (cI (QT.e (fD (cR (C:="Place") ba bu (aC 1))))
  (aN (bN (QP.e (eW (aQ (QV.p (aC 3)) (aQ (dJ (aQ (QV.p (bL (aC 0) (QP.v aK))) (aQ (QV.p (aC 1)) bB))) bB))))))
  bP)
 (aN (bN (QP.e (eW (aQ (QV.p (aC 3)) bB))))))))))
def yW:tz1:=
 (bW (aI (f2 cO (fC (.str "\n")) (f2 nR (fC (.str " ")) (aB 0)))))
abbrev nH:Stmt:=top 11
abbrev kS:List Str:=["blanks"]
theorem yS:FnScope ["blanks"] kS (aS nH):=cH
theorem zw6(d9:Dn K mg "new_line" nH kS f fd)
     :
  FnOk P w K mg base CX0 (n+1) f fd kS (SpP 1 K κ (gP 1 0 (yW))):=
 cD d9.F yS fun cdv A outer s H E B hr=>
 (aN (bN (QP.e (bO fN (QP.v cY) (QP.v (bO zi9 (QP.v cY) (aC 0)))))))
def oU(jv:(tz6)):tz1:=
 (aT (aV 3 (aI (aX (f2 dIx (aB 0) (fC (.int 0))))))
 (aT (fIf (aU (fB (f2 dEq (aB 3) (fC (.str "word")))))
  (bW (aI (aX (f2 dIx (aB 0) (fC (.int 1))))))
  bC)
 (aT (fIf (aU (cU (fB (f2 dEq (aB 3) (fC (.str "gap")))) (cM (fT (cB "Place" "broken" (aB 1))))))
  (bW (aI (aX (f2 dIx (aB 0) (fC (.int 1))))))
  bC)
 (aT (fIf (aU (cU (fB (f2 dEq (aB 3) (fC (.str "stop")))) (fB (f2 dLe (aB 2) (f2 dIx (aB 0) (fC (.int 1)))))))
  (bW (aI (f2 nR (fC (.str " ")) (f2 iT (f2 dIx (aB 0) (fC (.int 1))) (aB 2)))))
  bC)
 (aT (fIf (aU (cM (fT (cB "Place" "broken" (aB 1)))))
  (bW (aI (fC .non)))
  bC)
 (aT (fIf (aU (fB (f2 dEq (aB 3) (fC (.str "stop")))))
  (bW (aI (aG jv (aA (f2 dIx (aB 0) (fC (.int 1))) aE))))
  bC)
 (bW (aI (aG jv (aA (cB "Place" "margin" (aB 1)) aE))))))))))
abbrev mB:Stmt:=top 12
abbrev iV:List Str:=["piece","place","column"]
theorem tR:FnScope ["piece","place","column","kind"] iV (aS mB):=cH
theorem yd1(c5:Dn K mg "writing" mB iV f fd)
  (d9:Dn K mg "new_line" nH kS oa nr) (jw:FnOk P w K mg base CX0 n oa nr kS (SpP 1 K κ jv))
  (ba:Cls K (κ "Place"))
  (bu:bZ K (κ "Place") "broken")
  (du:bZ K (κ "Place") "margin"):
  FnOk P w K mg base CX0 (n+1) f fd iV (SpP 3 K κ (gP 3 1 (oU jv))):=
 cD c5.F tR fun cdv A outer s H E B hr=>
 (aM (bA 3 tR.nd (QV.p (bL (aC 0) (QP.v aK))))
 (aM (cI (QT.e (cC (kB (Room.units hr)) (aC 3) (QP.v cY) (bJ _)))
  (aN (bN (QP.e (QV.p (bL (aC 0) (QP.v aK))))))
  bP)
 (aM (cI (QT.e (nL (qL (cC (kB (Room.units hr)) (aC 3) (QP.v cY) (bJ _)) (pG (jS (fD (cR (C:="Place") ba bu (aC 1))))))))
  (aN (bN (QP.e (QV.p (bL (aC 0) (QP.v aK))))))
  bP)
 (aM (cI (QT.e (nL (qL (cC (kB (Room.units hr)) (aC 3) (QP.v cY) (bJ _)) (pG (cC zf9 (aC 2) (bL (aC 0) (QP.v aK)) (bJ _))))))
  (aN (bN (QP.e (bO zi9 (QP.v cY) (QP.v (bO sC (bL (aC 0) (QP.v aK)) (aC 2)))))))
  bP)
 (aM (cI (QT.e (jS (fD (cR (C:="Place") ba bu (aC 1)))))
  (aN (bN (QP.e lO)))
  bP)
 (aM (cI (QT.e (cC (kB (Room.units hr)) (aC 3) (QP.v cY) (bJ _)))
  (aN (bN (QP.e (bS d9 jw hr rfl rfl (aF (bL (aC 0) (QP.v aK)) aO) (aH aY)))))
  bP)
 (aN (bN (QP.e (bS d9 jw hr rfl rfl (aF (cR (C:="Place") ba du (aC 1)) aO) (aH aY)))))))))))
def pT:tz1:=
 (bW (aI (fMt qC (aB 0) (aA (fC (.str "\n")) aE))))
abbrev jV:Stmt:=top 13
abbrev gD:List Str:=["wrote"]
theorem wE:FnScope ["wrote"] gD (aS jV):=cH
theorem zp6(bz:Dn K mg "ends_line" jV gD f fd)
     :
  FnOk P w K mg base CX0 (n+1) f fd gD (SpP 1 K κ (gP 1 0 (pT))):=
 cD bz.F wE fun cdv A outer s H E B hr=>
 (aN (bN (QP.e (zx9 PySem.F.slot_str_startswith PySem.F.type_str_startswith yc2 (aC 0) (aF (QP.v cY) aO)))))
def eB(dk:(tz6)):tz1:=
 (aT (fIf (aU (fT (aG dk (aA (aB 1) aE))))
  (bW (aI (f2 iT (aG eI (aA (aB 1) aE)) (fC (.int 1)))))
  bC)
 (bW (aI (f2 cO (aB 0) (aG eI (aA (aB 1) aE))))))
abbrev gR:Stmt:=top 14
abbrev eQ:List Str:=["column","wrote"]
theorem qN:FnScope ["column","wrote"] eQ (aS gR):=cH
theorem zR(ax:Dn K mg "column_behind" gR eQ f fd)
  (bz:Dn K mg "ends_line" jV gD je iw) (eo:FnOk P w K mg base CX0 n je iw gD (SpP 1 K κ dk))
  (ac:mg "len"=none):
  FnOk P w K mg base CX0 (n+1) f fd eQ (SpP 2 K κ (gP 2 0 (eB dk))):=
 cD ax.F qN fun cdv A outer s H E B hr=>
 (aM (cI (QT.e (fD (QP.v (bS bz eo hr rfl rfl (aF (aC 1) aO) (aH aY)))))
  (aN (bN (QP.e (bO sC (QP.v (cW jA rfl ac ZZ (aF (aC 1) aO))) (QP.v aK)))))
  bP)
 (aN (bN (QP.e (bO fN (aC 0) (QP.v (cW jA rfl ac ZZ (aF (aC 1) aO))))))))
def uJ(am:(tz7))(av:(tz7)):tz1:=
 (aT (aV 2 (aI (eU "Front" (bY [.im (cB "Front" "steps" (aB 0))]) am)))
 (aT (fJ 3 (wS (aX (cB "Front" "best" (aB 0))))
  (aT (aV 4 (aI (aX (f2 gQ (cB "Front" "best" (aB 0)) (aB 3)))))
 (cP (cZ 2 bQ (bY [.im (aB 3),.im (cA (aA (aX (f2 dIx (aB 4) (fC (.int 0)))) (aA (f2 cO (f2 dIx (aB 4) (fC (.int 1))) (cA (aA (aX (aB 1)) aE))) aE)))]) (dZ "Front" "add" av)))))
 (jG 2)))
abbrev kL:Stmt:=top 17
abbrev iW:List Str:=["front","number"]
theorem iR:FnScope ["front","number","chosen","state","way"] iW (aS kL):=cH
theorem zg8(df:Dn K mg "with_choice" kL iW f fd)
  (cm:Kn K mg κ "Front" "Front.__init__" st_Front_init ps_Front_init c9 ci) (a8:FnOk P w K mg base CX0 n c9 ci ps_Front_init (SpE 2 K κ (bR [true,false]) am))
  (aw:Mn K κ "Front" "add" "Front.add" st_Front_add ps_Front_add dw da) (bi:FnOk P w K mg base CX0 (n+1) dw da ps_Front_add (SpE 3 K κ (bR [true,false,false]) av))
  (aa:Cls K (κ "Front"))
  (ag:bZ K (κ "Front") "best")
  (cp:bZ K (κ "Front") "steps"):
  FnOk P w K mg base CX0 ((n+1)+1) f fd iW (SpP 2 K κ (gP 2 3 (uJ am av))):=
 cD df.F iR fun cdv A outer s H E B hr=>
 (aM (bA 2 iR.nd (mM cm a8 hr rfl (dL (cR (C:="Front") aa cp (aC 0)) eJ) rfl rfl (dF 1)))
 (aM (mY 3 ZD rfl iR.nd rfl (.inl rfl) rfl rfl (zp5 (QV.p (cR (C:="Front") aa ag (aC 0))))
  (aM (bA 4 iR.nd (QV.p (sV (uO hr) (cR (C:="Front") aa ag (aC 0)) (aC 3))))
 (aN (fA (kZ aw bi hr rfl (bM 2) (dL (aC 3) (dL (QP.v (dJ (aQ (QV.p (bL (aC 4) (QP.v aK))) (aQ (bO fN (bL (aC 4) (QP.v aK)) (QP.v (dJ (aQ (QV.p (aC 1)) bB)))) bB)))) eJ)) rfl rfl (dF 2))))))
 (aN (iM 2 rfl))))
def rX(am:(tz7))(dm:(tz6))(av:(tz7)):tz1:=
 (aT (aV 3 (aI (eU "Front" (bY [.im (cB "Front" "steps" (aB 0))]) am)))
 (aT (fJ 4 (wS (aX (cB "Front" "best" (aB 0))))
  (aT (aV 5 (aI (aX (f2 gQ (cB "Front" "best" (aB 0)) (aB 4)))))
 (aT (aV 6 (aI (aG dm (aA (qX "WithinWidth" "state_behind" (cB "Front" "steps" (aB 0))) (aA (aB 4) (aA (f2 dIx (aB 5) (fC (.int 0))) (aA (aB 1) (aA (aB 2) aE))))))))
 (fIf (aU (fB (f2 za5 (aB 6) (fC .non))))
  (cP (cZ 3 bQ (bY [.im (f2 dIx (aB 6) (fC (.int 0))),.im (cA (aA (aX (f2 dIx (aB 6) (fC (.int 1)))) (aA (aX (f2 dIx (aB 5) (fC (.int 1)))) aE)))]) (dZ "Front" "add" av)))
  bC))))
 (jG 3)))
abbrev jP:Stmt:=top 18
abbrev iD:List Str:=["front","piece","place"]
theorem fW:FnScope ["front","piece","place","behind","state","way","reached"] iD (aS jP):=cH
theorem ze5(cq:Dn K mg "behind_plain" jP iD f fd)
  (cm:Kn K mg κ "Front" "Front.__init__" st_Front_init ps_Front_init c9 ci) (a8:FnOk P w K mg base CX0 n c9 ci ps_Front_init (SpE 2 K κ (bR [true,false]) am))
  (aq:Mn K κ "WithinWidth" "state_behind" "WithinWidth.state_behind" st_WithinWidth_state_behind ps_WithinWidth_state_behind g8 gs) (dq:FnOk P w K mg base CX0 (n+1) g8 gs ps_WithinWidth_state_behind (SpP 5 K κ dm))
  (aw:Mn K κ "Front" "add" "Front.add" st_Front_add ps_Front_add dw da) (bi:FnOk P w K mg base CX0 (n+1) dw da ps_Front_add (SpE 3 K κ (bR [true,false,false]) av))
  (aa:Cls K (κ "Front"))
  (ag:bZ K (κ "Front") "best")
  (cp:bZ K (κ "Front") "steps"):
  FnOk P w K mg base CX0 ((n+1)+1) f fd iD (SpP 3 K κ (gP 3 4 (rX am dm av))):=
 cD cq.F fW fun cdv A outer s H E B hr=>
 (aM (bA 3 fW.nd (mM cm a8 hr rfl (dL (cR (C:="Front") aa cp (aC 0)) eJ) rfl rfl (dF 1)))
 (aM (mY 4 ZD rfl fW.nd rfl (.inl rfl) rfl rfl (zp5 (QV.p (cR (C:="Front") aa ag (aC 0))))
  (aM (bA 5 fW.nd (QV.p (sV (uO hr) (cR (C:="Front") aa ag (aC 0)) (aC 4))))
 (aM (bA 6 fW.nd (yc9 aq dq hr (cR (C:="Front") aa cp (aC 0)) rfl (aF (aC 4) (aF (bL (aC 5) (QP.v aK)) (aF (aC 1) (aF (aC 2) aO)))) (aH (aH (aH (aH aY))))))
 (aN (cI (QT.e (cC yk7 (aC 6) (QP.v lO) (bJ _)))
  (aN (fA (kZ aw bi hr rfl (bM 3) (dL (bL (aC 6) (QP.v aK)) (dL (QP.v (dJ (aQ (QV.p (bL (aC 6) (QP.v aK))) (aQ (QV.p (bL (aC 5) (QP.v aK))) bB)))) eJ)) rfl rfl (dF 2))))
  bP)))))
 (aN (iM 3 rfl))))
def qY(am:(tz7))(jg:(tz6))(b0:(tz6))(jx:(tz6))(jy:(tz7))(cr:(tz6)):tz1:=
 (aT (aV 3 (aI (eU "Front" (bY [.im (cB "Front" "steps" (aB 0))]) am)))
 (aT (zy7 [4,5] (zy8 (aG jg (aA (aB 1) (aA (aB 2) aE))))
  (aT (aV 6 (aI (aX (aB 0))))
 (aT (fIf (aU (fT (aG b0 (aA (aB 1) (aA (aB 2) aE)))))
  (aV 6 (aI (jH (aG jx (aA (aB 0) (aA (aB 4) aE))))))
  bC)
 (cP (cZ 3 bQ (bY [.im (aG cr (aA (aB 6) (aA (f2 dIx (aB 5) (fC (.int 0))) (aA (f2 dIx (aB 5) (fC (.int 1))) aE))))]) (dZ "Front" "add_all" jy))))))
 (jG 3)))
abbrev jJ:Stmt:=top 19
abbrev gS:List Str:=["front","piece","place"]
theorem eP:FnScope ["front","piece","place","behind","number","way","chosen"] gS (aS jJ):=cH
theorem zS(cc:Dn K mg "behind_holder" jJ gS f fd)
  (cm:Kn K mg κ "Front" "Front.__init__" st_Front_init ps_Front_init c9 ci) (a8:FnOk P w K mg base CX0 n c9 ci ps_Front_init (SpE 2 K κ (bR [true,false]) am))
  (gv:Dn K mg "ways" nX lZ mz ma) (kg:FnOk P w K mg base CX0 (n+1) mz ma lZ (SpP 2 K κ jg))
  (az:Dn K mg "takes_choice" iC eX gw gd) (cu:FnOk P w K mg base CX0 (n+1) gw gd eX (SpP 2 K κ b0))
  (df:Dn K mg "with_choice" kL iW me lr) (jz:FnOk P w K mg base CX0 (n+1) me lr iW (SpP 2 K κ jx))
  (dg:Mn K κ "Front" "add_all" "Front.add_all" st_Front_add_all ps_Front_add_all mf lu) (j0:FnOk P w K mg base CX0 (n+1) mf lu ps_Front_add_all (SpE 2 K κ (bR [true,false]) jy))
  (bn:Dn K mg "behind_row" st_p_behind_row ps_p_behind_row iy ii) (gi:FnOk P w K mg base CX0 (n+1) iy ii ps_p_behind_row (SpP 3 K κ cr))
  (aa:Cls K (κ "Front"))
  (cp:bZ K (κ "Front") "steps")
  (mi:mg "enumerate"=none):
  FnOk P w K mg base CX0 ((n+1)+1) f fd gS (SpP 3 K κ (gP 3 4 (qY am jg b0 jx jy cr))):=
 cD cc.F eP fun cdv A outer s H E B hr=>
 (aM (bA 3 eP.nd (mM cm a8 hr rfl (dL (cR (C:="Front") aa cp (aC 0)) eJ) rfl rfl (dF 1)))
 (aM (xw7 [4,5] ZD rfl rfl mi (bS gv kg hr rfl rfl (aF (aC 1) (aF (aC 2) aO)) (aH (aH aY))) (pE (fG (i:=4) eP.nd rfl (.inl rfl)) (pE (fG (i:=5) eP.nd rfl (.inl rfl)) yj6)) (fun j hj=>by simp only [Z3,ZR,X8] at hj;rcases hj with rfl|rfl<;>exact⟨rfl,rfl⟩)
  (aM (bA 6 eP.nd (QV.p (aC 0)))
 (aM (cI (QT.e (fD (QP.v (bS az cu hr rfl rfl (aF (aC 1) (aF (aC 2) aO)) (aH (aH aY))))))
  (aN (bA 6 eP.nd (sW (bS df jz hr rfl rfl (aF (aC 0) (aF (aC 4) aO)) (aH (aH aY))))))
  bP)
 (aN (fA (kZ dg j0 hr rfl (bM 3) (dL (QP.v (bS bn gi hr rfl rfl (aF (aC 6) (aF (bL (aC 5) (QP.v aK)) (aF (bL (aC 5) (QP.v aK)) aO))) (aH (aH (aH aY))))) eJ) rfl rfl (dF 1)))))))
 (aN (iM 3 rfl))))
def oV(cv:(tz6))(i8:(tz6))(jh:(tz6)):tz1:=
 (aT (aV 3 (aI (aX (aB 0))))
 (aT (fJ 4 (dP (aB 1))
  (fIf (aU (fT (aG cv (aA (aB 4) aE))))
  (aV 3 (aI (jH (aG i8 (aA (aB 3) (aA (aB 4) (aA (aB 2) aE)))))))
  (aV 3 (aI (jH (aG jh (aA (aB 3) (aA (aB 4) (aA (aB 2) aE)))))))))
 (jG 3)))
abbrev st_p_behind_row:Stmt:=top 20
abbrev ps_p_behind_row:List Str:=["front","row","place"]
theorem gU:FnScope ["front","row","place","behind","piece"] ps_p_behind_row (aS st_p_behind_row):=cH
theorem zk2(bn:Dn K mg "behind_row" st_p_behind_row ps_p_behind_row f fd)
  (bj:Dn K mg "holds_rows" jI fS iz ij) (d6:FnOk P w K mg base CX0 n iz ij fS (SpP 1 K κ cv))
  (cc:Dn K mg "behind_holder" jJ gS li k7) (ot:FnOk P w K mg base CX0 n li k7 gS (SpP 3 K κ i8))
  (cq:Dn K mg "behind_plain" jP iD lw lj) (ji:FnOk P w K mg base CX0 n lw lj iD (SpP 3 K κ jh)):
  FnOk P w K mg base CX0 (n+1) f fd ps_p_behind_row (SpP 3 K κ (gP 3 2 (oV cv i8 jh))):=
 cD bn.F gU fun cdv A outer s H E B hr=>
 (aM (bA 3 gU.nd (QV.p (aC 0)))
 (aM (zc7 4 1 ZD rfl gU.nd rfl (.inl rfl) rfl rfl rfl
  (aN (cI (QT.e (fD (QP.v (bS bj d6 hr rfl rfl (aF (aC 4) aO) (aH aY)))))
  (aN (bA 3 gU.nd (sW (bS cc ot hr rfl rfl (aF (aC 3) (aF (aC 4) (aF (aC 2) aO))) (aH (aH (aH aY)))))))
  (aN (bA 3 gU.nd (sW (bS cq ji hr rfl rfl (aF (aC 3) (aF (aC 4) (aF (aC 2) aO))) (aH (aH (aH aY))))))))))
 (aN (iM 3 rfl))))
def qZ(cr:(tz6))(ca:(tz6)):tz1:=
 (bW (aI (aG cr (aA (aB 0) (aA (aB 1) (aA (aG ca aE) aE))))))
abbrev fH:Stmt:=top 21
abbrev dO:List Str:=["front","pieces"]
theorem qO:FnScope ["front","pieces"] dO (aS fH):=cH
theorem zT(af:Dn K mg "behind_pieces" fH dO f fd)
  (bn:Dn K mg "behind_row" st_p_behind_row ps_p_behind_row iy ii) (gi:FnOk P w K mg base CX0 n iy ii ps_p_behind_row (SpP 3 K κ cr))
  (bc:Dn K mg "first_place" iU fF ik gx) (dh:FnOk P w K mg base CX0 n ik gx fF (SpP 0 K κ ca)):
  FnOk P w K mg base CX0 (n+1) f fd dO (SpP 2 K κ (gP 2 0 (qZ cr ca))):=
 cD af.F qO fun cdv A outer s H E B hr=>
 (aN (bN (QP.e (bS bn gi hr rfl rfl (aF (aC 0) (aF (aC 1) (aF (QP.v (xa0 bc dh hr rfl)) aO))) (aH (aH (aH aY)))))))
def yX:tz1:=
 (bW (aI (fMt za6 (aB 0) (aA (fC (.str "\n")) aE))))
abbrev kT:Stmt:=top 23
abbrev hJ:List Str:=["text"]
theorem yT:FnScope ["text"] hJ (aS kT):=cH
theorem zw7(cb:Dn K mg "lines_of" kT hJ f fd)
     :
  FnOk P w K mg base CX0 (n+1) f fd hJ (SpP 1 K κ (gP 1 0 (yX))):=
 cD cb.F yT fun cdv A outer s H E B hr=>
 (aN (bN (QP.e (zx9 W7 W8 yl1 (aC 0) (aF (QP.v cY) aO)))))
def vG(eh:(tz6)):tz1:=
 (bW (aI (aG zr5 (aA (fQ [none,some 1] (dP (aG eh (aA (aB 0) aE))) fK (f2 dLe (aG eI (aA (aB 0) aE)) (aB 1))) aE))))
abbrev rA:Stmt:=top 24
abbrev rB:List Str:=["text","width"]
theorem zu4:FnScope ["text","width"] rB (aS rA):=cH
theorem xc0(kh:Dn K mg "fits" rA rB f fd)
  (cb:Dn K mg "lines_of" kT hJ j3 jf) (gj:FnOk P w K mg base CX0 n j3 jf hJ (SpP 1 K κ eh))
  (oq:mg "all"=none)
  (ac:mg "len"=none):
  FnOk P w K mg base CX0 (n+1) f fd rB (SpP 2 K κ (gP 2 0 (vG eh))):=
 cD kh.F zu4 fun cdv A outer s H E B hr=>
 (aN (bN (QP.e (cW (xr2 rfl) rfl oq boot_all (aF (QP.v (pJ (sc:=aS rA) (NX:=["text","width"]) (N:=["line","width"]) (pick:=[none,some 1]) ⟨rfl,by decide+kernel,by decide+kernel,by decide+kernel,by decide+kernel,by decide,rfl⟩ rfl rfl rfl (wA (QP.v (bS cb gj hr rfl rfl (aF (aC 0) aO) (aH aY)))) (fun _ _ _ _=>(fG (i:=0) (show(["line","width"]:List Str).Nodup by decide) rfl (by first|exact Or.inl rfl|exact Or.inr rfl))) (fun _ _ _ _=>pI) (fun _ _ _ _=>(oE zf9 (QP.v (cW jA rfl ac ZZ (aF (aC 0) aO))) (aC 1) (bJ _))))) aO)))))
def yG(o7:(tz6))(eh:(tz6)):tz1:=
 (aT (fIf (aU (cM (fT (aG o7 (aA (aB 0) (aA (aB 1) aE))))))
  (bW (aI (fC .non)))
  bC)
 (aT (aV 2 (aI (aG eh (aA (aB 0) aE))))
 (aT (aV 3 (aI (aG yu8 (aA (fQ [none,some 1] (dP (fSl (aB 2) lB (nG (dN (fC (.int 1)))))) fK (f2 nR (f2 iT (aB 1) (aG eI (aA (aB 0) aE))) (f2 iT (aB 1) (aG eI (aA (aB 0) aE))))) aE))))
 (bW (aI (cA (aA (aG eI (aA (aB 2) aE)) (aA (aX (aB 3)) aE))))))))
abbrev oW:Stmt:=top 25
abbrev oX:List Str:=["text","width"]
theorem sD:FnScope ["text","width","lines","rag"] oX (aS oW):=cH
theorem ys5(jp:Dn K mg "price" oW oX f fd)
  (kh:Dn K mg "fits" rA rB rz qt) (o8:FnOk P w K mg base CX0 n rz qt rB (SpP 2 K κ o7))
  (cb:Dn K mg "lines_of" kT hJ j3 jf) (gj:FnOk P w K mg base CX0 n j3 jf hJ (SpP 1 K κ eh))
  (tm:mg "sum"=none)
  (ac:mg "len"=none):
  FnOk P w K mg base CX0 (n+1) f fd oX (SpP 2 K κ (gP 2 2 (yG o7 eh))):=
 cD jp.F sD fun cdv A outer s H E B hr=>
 (aM (cI (QT.e (jS (fD (QP.v (bS kh o8 hr rfl rfl (aF (aC 0) (aF (aC 1) aO)) (aH (aH aY)))))))
  (aN (bN (QP.e lO)))
  bP)
 (aM (bA 2 sD.nd (bS cb gj hr rfl rfl (aF (aC 0) aO) (aH aY)))
 (aM (bA 3 sD.nd (cW (wk7 rfl) rfl tm boot_sum (aF (QP.v (pJ (sc:=aS oW) (NX:=["text","width","lines","rag"]) (N:=["line","width"]) (pick:=[none,some 1]) ⟨rfl,by decide+kernel,by decide+kernel,by decide+kernel,by decide+kernel,by decide,rfl⟩ rfl rfl rfl (wA (QP.v (yb2 (aC 2) yk9 (yl0 (QP.v (oG (QP.v aK))))))) (fun _ _ _ _=>(fG (i:=0) (show(["line","width"]:List Str).Nodup by decide) rfl (by first|exact Or.inl rfl|exact Or.inr rfl))) (fun _ _ _ _=>pI) (fun _ _ _ _=>(bO zi9 (QP.v (bO sC (aC 1) (QP.v (cW jA rfl ac ZZ (aF (aC 0) aO))))) (QP.v (bO sC (aC 1) (QP.v (cW jA rfl ac ZZ (aF (aC 0) aO))))))))) aO)))
 (aN (bN (QP.e (dJ (aQ (cW jA rfl ac ZZ (aF (aC 2) aO)) (aQ (QV.p (aC 3)) bB)))))))))
def uK(am:(tz7))(il:(tz7))(og:(tz6))(av:(tz7)):tz1:=
 (aT (aV 1 (aI (eU "Front" (bY [.im (mX (eU "WithinWidth" (bY [.im (aB 0)]) il))]) am)))
 (aT (aV 2 (aI (aG og (aA (fC (.str "")) (aA (aB 0) aE)))))
 (aT (fIf (aU (fB (f2 za5 (aB 2) (fC .non))))
  (cP (cZ 1 bQ (bY [.im (fC (.int 0)),.im (cA (aA (aX (aB 2)) (aA (cA aE) aE)))]) (dZ "Front" "add" av)))
  bC)
 (jG 1))))
abbrev gF:Stmt:=top 28
abbrev eE:List Str:=["width"]
theorem kE:FnScope ["width","front","cost"] eE (aS gF):=cH
theorem zg9(al:Dn K mg "roads_begin" gF eE f fd)
  (cm:Kn K mg κ "Front" "Front.__init__" st_Front_init ps_Front_init c9 ci) (a8:FnOk P w K mg base CX0 n c9 ci ps_Front_init (SpE 2 K κ (bR [true,false]) am))
  (et:Kn K mg κ "WithinWidth" "WithinWidth.__init__" st_WithinWidth_init ps_WithinWidth_init k8 ka) (ip:FnOk P w K mg base CX0 n k8 ka ps_WithinWidth_init (SpE 2 K κ (bR [true,false]) il))
  (jp:Dn K mg "price" oW oX qu p7) (oh:FnOk P w K mg base CX0 (n+1) qu p7 oX (SpP 2 K κ og))
  (aw:Mn K κ "Front" "add" "Front.add" st_Front_add ps_Front_add dw da) (bi:FnOk P w K mg base CX0 (n+1) dw da ps_Front_add (SpE 3 K κ (bR [true,false,false]) av)):
  FnOk P w K mg base CX0 ((n+1)+1) f fd eE (SpP 1 K κ (gP 1 2 (uK am il og av))):=
 cD al.F kE fun cdv A outer s H E B hr=>
 (aM (bA 1 kE.nd (mM cm a8 hr rfl (dL (QP.v (zj7 (mM et ip hr rfl (dL (aC 0) eJ) rfl rfl (dF 1)))) eJ) rfl rfl (dF 1)))
 (aM (bA 2 kE.nd (bS jp oh hr rfl rfl (aF (QP.v cY) (aF (aC 0) aO)) (aH (aH aY))))
 (aM (cI (QT.e (cC yk7 (aC 2) (QP.v lO) (bJ _)))
  (aN (fA (kZ aw bi hr rfl (bM 1) (dL (QP.v aK) (dL (QP.v (dJ (aQ (QV.p (aC 2)) (aQ (dJ bB) bB)))) eJ)) rfl rfl (dF 2))))
  bP)
 (aN (iM 1 rfl)))))
def zm8(aj:(tz6))(au:(tz6)):tz1:=
 (aT (aV 2 (aI (aX (cB "Front" "best" (aG aj (aA (jH (aG au (aA (aB 1) aE))) (aA (aB 0) aE)))))))
 (bW (aI (fQ [none,some 2] (dP (aG za8 (aA (aB 2) aE))) fK (f2 cO (f2 cO (cA (aA (aX (aB 0)) aE)) (f2 dIx (f2 gQ (aB 1) (aB 0)) (fC (.int 0)))) (cA (aA (aX (f2 dIx (f2 gQ (aB 1) (aB 0)) (fC (.int 1)))) aE)))))))
abbrev kM:Stmt:=top 29
abbrev iG:List Str:=["row","width"]
theorem xG:FnScope ["row","width","best"] iG (aS kM):=cH
theorem ys6(cj:Dn K mg "roads" kM iG f fd)
  (af:Dn K mg "behind_pieces" fH dO cf b6) (ay:FnOk P w K mg base CX0 n cf b6 dO (SpP 2 K κ aj))
  (al:Dn K mg "roads_begin" gF eE di cw) (bd:FnOk P w K mg base CX0 n di cw eE (SpP 1 K κ au))
  (aa:Cls K (κ "Front"))
  (ag:bZ K (κ "Front") "best")
  (o9:mg "sorted"=none):
  FnOk P w K mg base CX0 (n+1) f fd iG (SpP 2 K κ (gP 2 1 (zm8 aj au))):=
 cD cj.F xG fun cdv A outer s H E B hr=>
 (aM (bA 2 xG.nd (QV.p (cR (C:="Front") aa ag (QP.v (bS af ay hr rfl rfl (aF (QP.v (sW (bS al bd hr rfl rfl (aF (aC 1) aO) (aH aY)))) (aF (aC 0) aO)) (aH (aH aY)))))))
 (aN (bN (QP.e (pJ (sc:=aS kM) (NX:=["row","width","best"]) (N:=["length","best"]) (pick:=[none,some 2]) ⟨rfl,by decide+kernel,by decide+kernel,by decide+kernel,by decide+kernel,by decide,rfl⟩ rfl rfl rfl (wA (QP.v (cW (xl7 rfl) rfl o9 boot_sorted (aF (aC 2) aO)))) (fun _ _ _ _=>(fG (i:=0) (show(["length","best"]:List Str).Nodup by decide) rfl (by first|exact Or.inl rfl|exact Or.inr rfl))) (fun _ _ _ _=>pI) (fun _ _ _ _=>(bO fN (QP.v (bO fN (QP.v (dJ (aQ (QV.p (aC 0)) bB))) (bL (sV (uO hr) (aC 1) (aC 0)) (QP.v aK)))) (QP.v (dJ (aQ (QV.p (bL (sV (uO hr) (aC 1) (aC 0)) (QP.v aK))) bB))))))))))
def wU(db:(tz6)):tz1:=
 (aT (fJ 1 (lL (aA (fC (.int 1)) (aA (f2 cO (fC (.int 40)) (fC (.int 1))) aE)))
  (fIf (aU (fT (aG db (aA (aB 0) (aA (aB 1) aE)))))
  (jG 1)
  bC))
 uH)
abbrev gG:Stmt:=top 33
abbrev dY:List Str:=["row"]
theorem jT:FnScope ["row","width"] dY (aS gG):=cH
theorem zp7(ah:Dn K mg "narrowest" gG dY f fd)
  (cj:Dn K mg "roads" kM iG jq i3) (f6:FnOk P w K mg base CX0 n jq i3 iG (SpP 2 K κ db))
  (ar:mg "range"=none)
  (eu:mg "LEAST_WIDTH"=some (.int 1 rh))
  (ao:mg "GREATEST_WIDTH"=some (.int 40 jj)):
  FnOk P w K mg base CX0 (n+1) f fd dY (SpP 1 K κ (gP 1 1 (wU db))):=
 cD ah.F jT fun cdv A outer s H E B hr=>
 (aM (mY 1 ZD rfl jT.nd rfl (.inl rfl) rfl rfl (qM rfl ar (aF (QP.v (sS (v:= .int 1) (d:= .int 1) rfl eu ⟨_,rfl⟩ (fun _=> .int 1))) (aF (QP.v (bO fN (QP.v (sS (v:= .int 40) (d:= .int 40) rfl ao ⟨_,rfl⟩ (fun _=> .int 40))) (QP.v aK))) aO)))
  (aN (cI (QT.e (fD (QP.v (bS cj f6 hr rfl rfl (aF (aC 0) (aF (aC 1) aO)) (aH (aH aY))))))
  (aN (iM 1 rfl))
  bP)))
 (aN pH))
def vH(db:(tz6)):tz5:=
 (vD (fJ 1 (lL (aA (fC (.int 1)) (aA (f2 cO (fC (.int 40)) (fC (.int 1))) aE)))
  (fIf (aU (fT (aG db (aA (aB 0) (aA (aB 1) aE)))))
  (jG 1)
  bC))
 zm6)
theorem zk3(ah:Dn K mg "narrowest" gG dY f fd)
  (cj:Dn K mg "roads" kM iG jq i3) (f6:FnOk P w K mg base CX0 n jq i3 iG (SpP 2 K κ db))
  (bp:OwnCls "NoRoom" ak bmV "ValueError.__new__" mg base)
  (ar:mg "range"=none)
  (eu:mg "LEAST_WIDTH"=some (.int 1 rh))
  (ao:mg "GREATEST_WIDTH"=some (.int 40 jj)):
  FnOk P w K mg base (CXn P w base ak) (n+1) f fd dY (rQ 1 K κ ak (gX 1 1 (vH db))):=
 uS ah.F jT fun cdv A outer s H E B hr=>
 (yl6 (mY 1 ZD rfl jT.nd rfl (.inl rfl) rfl rfl (qM rfl ar (aF (QP.v (sS (v:= .int 1) (d:= .int 1) rfl eu ⟨_,rfl⟩ (fun _=> .int 1))) (aF (QP.v (bO fN (QP.v (sS (v:= .int 40) (d:= .int 40) rfl ao ⟨_,rfl⟩ (fun _=> .int 40))) (QP.v aK))) aO)))
  (aN (cI (QT.e (fD (QP.v (bS cj f6 hr rfl rfl (aF (aC 0) (aF (aC 1) aO)) (aH (aH aY))))))
  (aN (iM 1 rfl))
  bP)))
 (wC (yc8 bp XL rfl)))
def rY(db:(tz6)):tz1:=
 (bW (aI (aG yv3 (aA (fQ [none] (dP (aG db (aA (aB 0) (aA (aB 1) aE)))) fK (aX (f2 dIx (aB 0) (fC (.int 1))))) aE))))
abbrev iE:Stmt:=top 34
abbrev iF:List Str:=["row","width"]
theorem rV:FnScope ["row","width"] iF (aS iE):=cH
theorem ze6(cz:Dn K mg "fewest_lines" iE iF f fd)
  (cj:Dn K mg "roads" kM iG jq i3) (f6:FnOk P w K mg base CX0 n jq i3 iG (SpP 2 K κ db))
  (mh:mg "min"=none):
  FnOk P w K mg base CX0 (n+1) f fd iF (SpP 2 K κ (gP 2 0 (rY db))):=
 cD cz.F rV fun cdv A outer s H E B hr=>
 (aN (bN (QP.e (cW (we6 rfl) rfl mh boot_min (aF (QP.v (pJ (sc:=aS iE) (NX:=["row","width"]) (N:=["road"]) (pick:=[none]) ⟨rfl,by decide+kernel,by decide+kernel,by decide+kernel,by decide+kernel,by decide,rfl⟩ rfl rfl rfl (wA (QP.v (bS cj f6 hr rfl rfl (aF (aC 0) (aF (aC 1) aO)) (aH (aH aY))))) (fun _ _ _ _=>(fG (i:=0) (show(["road"]:List Str).Nodup by decide) rfl (by first|exact Or.inl rfl|exact Or.inr rfl))) (fun _ _ _ _=>pI) (fun _ _ _ _=>(QV.p (bL (aC 0) (QP.v aK)))))) aO)))))
def zf5(dr:(tz6))(jk:(tz6)):tz1:=
 (aT (aV 1 (aI (dM aE)))
 (aT (fJ 2 (lL (aA (aG dr (aA (aB 0) aE)) (aA (f2 cO (fC (.int 40)) (fC (.int 1))) aE)))
  (aT (aV 3 (aI (aG jk (aA (aB 0) (aA (aB 2) aE)))))
 (fIf (aU (gN (cM (fT (aB 1))) (fB (f2 dLt (aB 3) (f2 dIx (f2 dIx (aB 1) (dN (fC (.int 1)))) (fC (.int 1)))))))
  (cP (cZ 1 bQ (aA (cA (aA (aX (aB 2)) (aA (aX (aB 3)) aE))) aE) dX))
  bC)))
 (jG 1)))
abbrev lD:Stmt:=top 35
abbrev fM:List Str:=["row"]
theorem iL:FnScope ["row","told","width","lines"] fM (aS lD):=cH
theorem yi9(bf:Dn K mg "stairs" lD fM f fd)
  (ah:Dn K mg "narrowest" gG dY fg d7) (fj:FnOk P w K mg base CX0 n fg d7 dY (SpP 1 K κ dr))
  (cz:Dn K mg "fewest_lines" iE iF lx lm) (jl:FnOk P w K mg base CX0 n lx lm iF (SpP 2 K κ jk))
  (ar:mg "range"=none)
  (ao:mg "GREATEST_WIDTH"=some (.int 40 jj)):
  FnOk P w K mg base CX0 (n+1) f fd fM (SpP 1 K κ (gP 1 3 (zf5 dr jk))):=
 cD bf.F iL fun cdv A outer s H E B hr=>
 (aM (bA 1 iL.nd (eW bB))
 (aM (mY 2 ZD rfl iL.nd rfl (.inl rfl) rfl rfl (qM rfl ar (aF (QP.v (bS ah fj hr rfl rfl (aF (aC 0) aO) (aH aY))) (aF (QP.v (bO fN (QP.v (sS (v:= .int 40) (d:= .int 40) rfl ao ⟨_,rfl⟩ (fun _=> .int 40))) (QP.v aK))) aO)))
  (aM (bA 3 iL.nd (bS cz jl hr rfl rfl (aF (aC 0) (aF (aC 2) aO)) (aH (aH aY))))
 (aN (cI (QT.e (nL (sB (jS (fD (aC 1))) (qK (cC (wZ (Room.units0 hr)) (aC 3) (bL (bL (aC 1) (QP.v (oG (QP.v aK)))) (QP.v aK)) (bJ _))))))
  (aN (fA (lQ (j:=1) rfl (bM 1) (aQ (dJ (aQ (QV.p (aC 2)) (aQ (QV.p (aC 3)) bB))) bB))))
  bP))))
 (aN (iM 1 rfl))))
def zb2(ki:(List D->Bool)):tz5:=
 (vD (aV 1 (aI (dM aE)))
 (zb1 ki (aA (aB 0) aE)))
theorem yd2(bf:Dn K mg "stairs" lD fM f fd)
  (ah:Dn K mg "narrowest" gG dY fg d7) (kj:FnOk P w K mg base (CXn P w base ak) n fg d7 dY (rQ 1 K κ ak ki))
  (bp:OwnCls "NoRoom" ak bmV "ValueError.__new__" mg base)
  (ar:mg "range"=none)
  (ao:mg "GREATEST_WIDTH"=some (.int 40 jj)):
  FnOk P w K mg base (CXn P w base ak) (n+1) f fd fM (rQ 1 K κ ak (gX 1 3 (zb2 ki))):=
 uS bf.F iL fun cdv A outer s H E B hr=>
 (yl6 (bA 1 iL.nd (eW bB))
 (wC (xx0 (i:=2) PassesOwn.leaving rfl iL.nd rfl (.inl rfl) rfl ar (xb7 ah kj hr rfl rfl (aF (aC 0) aO) (aH aY)))))
def vV(lg:(tz7))(b5:(tz7))(ca:(tz6))(ic:(tz6)):tz1:=
 (aT (aV 2 (aI (eU "Setter" (bY [.im (aB 1)]) lg)))
 (aT (cP (cZ 2 bQ (bY [.im (aB 0),.im (aG ca aE)]) (dZ "Setter" "set_row" b5)))
 (bW (aI (aG ic (aA (zm5 "Setter" "whole_text" (aB 2)) aE))))))
abbrev qG:Stmt:=top 38
abbrev nB:List Str:=["row","choices"]
theorem vO:FnScope ["row","choices","setter"] nB (aS qG):=cH
theorem yj0(i4:Dn K mg "set_by" qG nB f fd)
  (kl:Kn K mg κ "Setter" "Setter.__init__" st_Setter_init ps_Setter_init nu mw) (lh:FnOk P w K mg base CX0 n nu mw ps_Setter_init (SpE 2 K κ (bR [true,false]) lg))
  (a7:Mn K κ "Setter" "set_row" "Setter.set_row" st_Setter_set_row ps_Setter_set_row gy ge) (ej:FnOk P w K mg base CX0 (n+1) gy ge ps_Setter_set_row (SpE 3 K κ (bR [true,false,false]) b5))
  (bc:Dn K mg "first_place" iU fF ik gx) (dh:FnOk P w K mg base CX0 (n+1) ik gx fF (SpP 0 K κ ca))
  (bw:Mn K κ "Setter" "whole_text" "Setter.whole_text" st_Setter_whole_text ps_Setter_whole_text kc j4) (ie:FnOk P w K mg base CX0 (n+1) kc j4 ps_Setter_whole_text (SpP 1 K κ ic)):
  FnOk P w K mg base CX0 ((n+1)+1) f fd nB (SpP 2 K κ (gP 2 1 (vV lg b5 ca ic))):=
 cD i4.F vO fun cdv A outer s H E B hr=>
 (aM (bA 2 vO.nd (mM kl lh hr rfl (dL (aC 1) eJ) rfl rfl (dF 1)))
 (aM (fA (kZ a7 ej hr rfl (bM 2) (dL (aC 0) (dL (QP.v (xa0 bc dh hr rfl)) eJ)) rfl rfl (dF 2)))
 (aN (bN (QP.e (xl1 bw ie hr (aC 2)))))))
def rZ:tz1:=
 (aT (fIf (aU (cM (fTK (cB "Front" "best" (aB 0)))))
  uH
  bC)
 (bW (aI (f2 dIx (aX (zy9 (cB "Front" "best" (aB 0)))) (fC (.int 1))))))
abbrev fX:Stmt:=top 40
abbrev dU:List Str:=["front"]
theorem mR:FnScope ["front"] dU (aS fX):=cH
theorem ze7(ai:Dn K mg "best_choices" fX dU f fd)
  (aa:Cls K (κ "Front"))
  (ag:bZ K (κ "Front") "best")
  (mh:mg "min"=none):
  FnOk P w K mg base CX0 (n+1) f fd dU (SpP 1 K κ (gP 1 0 (rZ))):=
 cD ai.F mR fun cdv A outer s H E B hr=>
 (aM (cI (QT.e (jS (yl9 (cR (C:="Front") aa ag (aC 0)))))
  (aN pH)
  bP)
 (aN (bN (QP.e (zc6 (QV.p (xw8 rfl (Room.units hr) (cR (C:="Front") aa ag (aC 0)) rfl mh)) (QP.v aK))))))
def rC:tz5:=
 (xq2 (cM (fTK (cB "Front" "best" (aB 0)))) zm6)
theorem zU(ai:Dn K mg "best_choices" fX dU f fd)
  (bp:OwnCls "NoRoom" ak bmV "ValueError.__new__" mg base)
  (aa:Cls K (κ "Front"))
  (ag:bZ K (κ "Front") "best")
  (mh:mg "min"=none):
  FnOk P w K mg base (CXn P w base ak) (n+1) f fd dU (rQ 1 K κ ak (gX 1 0 (rC))):=
 uS ai.F mR fun cdv A outer s H E B hr=>
 (wC (wl0 (jS (yl9 (cR (C:="Front") aa ag (aC 0)))) (wC (yc8 bp XL rfl))))
def zb3(jm:(tz6))(aj:(tz6))(au:(tz6))(m6:(tz6)):tz1:=
 (aT (aV 2 (aI (aG jm (aA (aG aj (aA (jH (aG au (aA (aB 1) aE))) (aA (aB 0) aE))) aE))))
 (bW (aI (cA (aA (aG m6 (aA (aB 0) (aA (aB 2) aE))) (aA (aX (aB 2)) aE))))))
abbrev mC:Stmt:=top 41
abbrev gT:List Str:=["row","width"]
theorem lS:FnScope ["row","width","choices"] gT (aS mC):=cH
theorem yd3(b9:Dn K mg "pressed" mC gT f fd)
  (ai:Dn K mg "best_choices" fX dU gz gf) (jn:FnOk P w K mg base CX0 n gz gf dU (SpP 1 K κ jm))
  (af:Dn K mg "behind_pieces" fH dO cf b6) (ay:FnOk P w K mg base CX0 n cf b6 dO (SpP 2 K κ aj))
  (al:Dn K mg "roads_begin" gF eE di cw) (bd:FnOk P w K mg base CX0 n di cw eE (SpP 1 K κ au))
  (i4:Dn K mg "set_by" qG nB p8 o5) (m7:FnOk P w K mg base CX0 n p8 o5 nB (SpP 2 K κ m6)):
  FnOk P w K mg base CX0 (n+1) f fd gT (SpP 2 K κ (gP 2 1 (zb3 jm aj au m6))):=
 cD b9.F lS fun cdv A outer s H E B hr=>
 (aM (bA 2 lS.nd (bS ai jn hr rfl rfl (aF (QP.v (bS af ay hr rfl rfl (aF (QP.v (sW (bS al bd hr rfl rfl (aF (aC 1) aO) (aH aY)))) (aF (aC 0) aO)) (aH (aH aY)))) aO) (aH aY)))
 (aN (bN (QP.e (dJ (aQ (bS i4 m7 hr rfl rfl (aF (aC 0) (aF (aC 2) aO)) (aH (aH aY))) (aQ (QV.p (aC 2)) bB)))))))
def yY(i9:(List D->Bool))(aj:(tz6))(au:(tz6)):tz5:=
 (zb1 i9 (aA (aG aj (aA (jH (aG au (aA (aB 1) aE))) (aA (aB 0) aE))) aE))
theorem zw8(b9:Dn K mg "pressed" mC gT f fd)
  (ai:Dn K mg "best_choices" fX dU gz gf) (ja:FnOk P w K mg base (CXn P w base ak) n gz gf dU (rQ 1 K κ ak i9))
  (af:Dn K mg "behind_pieces" fH dO cf b6) (ay:FnOk P w K mg base CX0 n cf b6 dO (SpP 2 K κ aj))
  (al:Dn K mg "roads_begin" gF eE di cw) (bd:FnOk P w K mg base CX0 n di cw eE (SpP 1 K κ au))
  (bp:OwnCls "NoRoom" ak bmV "ValueError.__new__" mg base):
  FnOk P w K mg base (CXn P w base ak) (n+1) f fd gT (rQ 2 K κ ak (gX 2 1 (yY i9 aj au))):=
 uS b9.F lS fun cdv A outer s H E B hr=>
 (wC (we4 2 lS.nd rfl (.inl rfl) (xb7 ai ja hr rfl rfl (aF (QP.v (bS af ay hr rfl rfl (aF (QP.v (sW (bS al bd hr rfl rfl (aF (aC 1) aO) (aH aY)))) (aF (aC 0) aO)) (aH (aH aY)))) aO) (aH aY))))
def zb4:tz1:=
 (aT (aV 1 (aI (fC (.str "abcdefghijklmnopqrstuvwxyzABCDEFGHIJKLMNOPQRSTUVWXYZ0123456789"))))
 (aT (aV 1 (aI (f2 cO (aB 1) (fC (.str "!\"#$&'()*+,-./:;<=>?\x40[\\]^_`{|}~")))))
 (aT (aV 2 (aI (f2 dIx (dM (fKs [.int 1,.int 2,.int 3,.int 4,.int 5,.int 6,.int 7,.int 8,.int 10,.int 11,.int 9,.int 12])) (f2 eC (aB 0) (fC (.int 12))))))
 (aT (aV 3 (aI (fC (.str ""))))
 (aT (fJ 4 (lK (aA (aB 2) aE))
  (aV 3 (aI (f2 cO (aB 3) (f2 dIx (aB 1) (f2 eC (f2 cO (f2 mT (aB 0) (fC (.int 12))) (f2 nR (aB 4) (f2 eC (f2 mT (aB 0) (fC (.int 9000))) (fC (.int 93))))) (fC (.int 93))))))))
 (jG 3))))))
abbrev vI:Stmt:=top 45
abbrev rD:List Str:=["_law_number"]
theorem jY:FnScope ["_law_number","_law_signs","_law_size","_law_word_here","_law_j"] rD (aS vI):=cH
theorem xc1(km:Dn K mg "_law_word" vI rD f fd)
  (ar:mg "range"=none):
  FnOk P w K mg base CX0 (n+1) f fd rD (SpP 1 K κ (gP 1 4 (zb4))):=
 cD km.F jY fun cdv A outer s H E B hr=>
 (aM (bA 1 jY.nd cY)
 (aM (bA 1 jY.nd (bO fN (aC 1) (QP.v cY)))
 (aM (bA 2 jY.nd (zc6 (eW (xD (.int (.int (.int (.int (.int (.int (.int (.int (.int (.int (.int (.int .nil)))))))))))))) (QP.v (bO iZ (aC 0) (QP.v aK)))))
 (aM (bA 3 jY.nd cY)
 (aM (mY 4 ZD rfl jY.nd rfl (.inl rfl) rfl rfl (zJ rfl ar (aF (aC 2) aO))
  (aN (bA 3 jY.nd (bO fN (aC 3) (bL (aC 1) (QP.v (bO iZ (QP.v (bO fN (QP.v (bO wY (aC 0) (QP.v aK))) (QP.v (bO zi9 (aC 4) (QP.v (bO iZ (QP.v (bO wY (aC 0) (QP.v aK))) (QP.v aK))))))) (QP.v aK))))))))
 (aN (iM 3 rfl)))))))
def zb5(pb:(tz6)):tz1:=
 (aT (aV 1 (aI (f2 mT (aB 0) (fC (.int 16)))))
 (aT (fIf (aU (fB (f2 dLt (f2 eC (aB 0) (fC (.int 16))) (fC (.int 8)))))
  (bW (aI (cA (aA (fC (.str "word")) (aA (aG pb (aA (aB 1) aE)) aE)))))
  bC)
 (aT (fIf (aU (fB (f2 dLt (f2 eC (aB 0) (fC (.int 16))) (fC (.int 13)))))
  (bW (aI (cA (aA (fC (.str "gap")) (aA (f2 dIx (dM (fKs [.str " ",.str " ",.str " ",.str ""])) (f2 eC (aB 1) (fC (.int 4)))) aE)))))
  bC)
 (aT (fIf (aU (fB (f2 dEq (f2 eC (aB 0) (fC (.int 16))) (fC (.int 13)))))
  (bW (aI (cA (aA (fC (.str "end")) aE))))
  bC)
 (bW (aI (cA (aA (fC (.str "stop")) (aA (f2 dIx (dM (aA (f2 eC (f2 mT (aB 1) (fC (.int 2))) (fC (.int 10))) (aA (f2 eC (f2 mT (aB 1) (fC (.int 2))) (fC (.int 41))) aE))) (f2 eC (aB 1) (fC (.int 2)))) aE)))))))))
abbrev vJ:Stmt:=top 46
abbrev rE:List Str:=["_law_number"]
theorem zV:FnScope ["_law_number","_law_some_here"] rE (aS vJ):=cH
theorem xc2(kn:Dn K mg "_law_leaf" vJ rE f fd)
  (km:Dn K mg "_law_word" vI rD r6 qw) (pd:FnOk P w K mg base CX0 n r6 qw rD (SpP 1 K κ pb)):
  FnOk P w K mg base CX0 (n+1) f fd rE (SpP 1 K κ (gP 1 1 (zb5 pb))):=
 cD kn.F zV fun cdv A outer s H E B hr=>
 (aM (bA 1 zV.nd (bO wY (aC 0) (QP.v aK)))
 (aM (cI (QT.e (cC (wZ (Room.units0 hr)) (QP.v (bO iZ (aC 0) (QP.v aK))) (QP.v aK) (bJ _)))
  (aN (bN (QP.e (dJ (aQ cY (aQ (bS km pd hr rfl rfl (aF (aC 1) aO) (aH aY)) bB))))))
  bP)
 (aM (cI (QT.e (cC (wZ (Room.units0 hr)) (QP.v (bO iZ (aC 0) (QP.v aK))) (QP.v aK) (bJ _)))
  (aN (bN (QP.e (dJ (aQ cY (aQ (zc6 (eW (xD (.str (.str (.str (.str .nil)))))) (QP.v (bO iZ (aC 1) (QP.v aK)))) bB))))))
  bP)
 (aM (cI (QT.e (cC (kB (Room.units hr)) (QP.v (bO iZ (aC 0) (QP.v aK))) (QP.v aK) (bJ _)))
  (aN (bN (QP.e (dJ (aQ cY bB)))))
  bP)
 (aN (bN (QP.e (dJ (aQ cY (aQ (zc6 (eW (aQ (bO iZ (QP.v (bO wY (aC 1) (QP.v aK))) (QP.v aK)) (aQ (bO iZ (QP.v (bO wY (aC 1) (QP.v aK))) (QP.v aK)) bB))) (QP.v (bO iZ (aC 1) (QP.v aK)))) bB))))))))))
def rF:tz1:=
 (aT (za7 [1,2,3,4] (cZ 0 bQ aE vT))
 (aT (aV 3 (aI (f2 cO (aB 3) (dM (aA (aG gO (aA (aB 4) aE)) aE)))))
 (aT (fIf (aU (cU (fB (f2 dEq (aB 1) (fC (.str "either")))) (fB (f2 dLt (aG eI (aA (aB 3) aE)) (fC (.int 2))))))
  (aV 3 (aI (f2 cO (aB 3) (dM (aA (cA (aA (cA (aA (fC (.str "word")) (aA (fC (.str "or")) aE))) aE)) aE)))))
  bC)
 (aT (aV 5 (aI (cA (aA (fC (.str "group")) (aA (aX (f2 dIx (aB 3) (fC (.int 0)))) aE)))))
 (aT (fIf (aU (fB (f2 dEq (aB 1) (fC (.str "hang")))))
  (aV 5 (aI (cA (aA (fC (.str "hang")) (aA (aX (aB 2)) (aA (aX (f2 dIx (aB 3) (fC (.int 0)))) aE))))))
  bC)
 (aT (fIf (aU (fB (f2 dEq (aB 1) (fC (.str "either")))))
  (aV 5 (aI (cA (aA (fC (.str "either")) (aA (aG gO (aA (aB 3) aE)) aE)))))
  bC)
 (cP (cZ 0 (dW 0 (dW 0 bQ (dN (fC (.int 1)))) (fC (.int 3))) (aA (aX (aB 5)) aE) dX))))))))
abbrev vK:Stmt:=top 47
abbrev rG:List Str:=["_law_frames"]
theorem gL:FnScope ["_law_frames","_law_kind","_law_n","_law_full","_law_parts","_law_piece"] rG (aS vK):=cH
theorem xc3(jo:Dn K mg "_law_shut" vK rG f fd)
  (dj:mg "tuple"=none)
  (ac:mg "len"=none):
  FnOk P w K mg base CX0 (n+1) f fd rG (SpE 1 K κ (bR [true]) (gE 1 5 (bR [true]) (rF))):=
 oH jo.F gL (fun i hi=>iQ hi) fun cdv A outer s H E hr=>
 (aM (xa3 (is:=[1,2,3,4]) rfl (pE (fG (i:=1) gL.nd rfl (.inl rfl)) (pE (fG (i:=2) gL.nd rfl (.inl rfl)) (pE (fG (i:=3) gL.nd rfl (.inl rfl)) (pE (fG (i:=4) gL.nd rfl (.inl rfl)) yj6)))) (we3 (j:=0) rfl (bM 0)) (fun j hj=>by simp only [Z3,ZR,X8] at hj;rcases hj with rfl|rfl|rfl|rfl<;>exact⟨rfl,rfl⟩))
 (aM (bA 3 gL.nd (bO fN (aC 3) (QP.v (eW (aQ (nS vY rfl dj Xy (aF (aC 4) aO)) bB)))))
 (aM (cI (QT.e (nL (qL (cC (kB (Room.units hr)) (aC 1) (QP.v cY) (bJ _)) (pG (cC (wZ (Room.units0 hr)) (QP.v (cW jA rfl ac ZZ (aF (aC 3) aO))) (QP.v aK) (bJ _))))))
  (aN (bA 3 gL.nd (bO fN (aC 3) (QP.v (eW (aQ (dJ (aQ (dJ (aQ cY (aQ cY bB))) bB)) bB))))))
  bP)
 (aM (bA 5 gL.nd (dJ (aQ cY (aQ (QV.p (bL (aC 3) (QP.v aK))) bB))))
 (aM (cI (QT.e (cC (kB (Room.units hr)) (aC 1) (QP.v cY) (bJ _)))
  (aN (bA 5 gL.nd (dJ (aQ cY (aQ (QV.p (aC 2)) (aQ (QV.p (bL (aC 3) (QP.v aK))) bB))))))
  bP)
 (aM (cI (QT.e (cC (kB (Room.units hr)) (aC 1) (QP.v cY) (bJ _)))
  (aN (bA 5 gL.nd (dJ (aQ cY (aQ (nS vY rfl dj Xy (aF (aC 3) aO)) bB)))))
  bP)
 (aN (fA (lQ (j:=0) rfl (nN (nN (bM 0) (QP.v (oG (QP.v aK)))) (QP.v aK)) (aQ (QV.p (aC 5)) bB))))))))))
def yh0(bh:(tz6))(m8:(tz7))(pe:(tz6)):tz1:=
 (aT (aV 4 (aI (dM (aA (dM (aA (fC (.str "top")) (aA (fC (.int 0)) (aA (dM aE) (aA (dM aE) aE))))) aE))))
 (aT (fJ 5 (lL (aA (aB 1) (aA (f2 cO (aB 1) (aB 2)) aE)))
  (aT (aV 6 (aI (aG bh (aA (aB 0) (aA (aB 5) (aA (fC (.int 31)) aE))))))
 (aT (aV 7 (aI (f2 eC (aB 6) (fC (.int 13)))))
 (aT (aV 8 (aI (aX (f2 dIx (f2 dIx (aB 4) (dN (fC (.int 1)))) (fC (.int 0))))))
 (fIf (aU (cU (fB (f2 dLt (aB 7) (fC (.int 4)))) (fB (f2 dLe (aG eI (aA (aB 4) aE)) (aB 3)))))
  (aT (aV 9 (aI (f2 dIx (dM (fKs [.str "group",.str "group",.str "hang",.str "either"])) (aB 7))))
 (cP (cZ 4 bQ (aA (dM (aA (aX (aB 9)) (aA (f2 dIx (dM (aA (fC (.int 1)) (aA (fC (.int 2)) (aA (fC (.int 4)) (aA (f2 eC (f2 mT (aB 6) (fC (.int 13))) (fC (.int 13))) aE))))) (f2 eC (f2 mT (aB 6) (fC (.int 169))) (fC (.int 4)))) (aA (dM aE) (aA (dM aE) aE))))) aE) dX)))
  (fIf (aU (cU (fB (f2 dEq (aB 7) (fC (.int 4)))) (fB (f2 dGt (aG eI (aA (aB 4) aE)) (fC (.int 1))))))
  (cP (fIO [.io 4] m8))
  (fIf (aU (cU (fB (f2 dLt (aB 7) (fC (.int 7)))) (cU (fB (f2 dEq (aB 8) (fC (.str "either")))) (fB (f2 dLt (aG eI (aA (f2 dIx (f2 dIx (aB 4) (dN (fC (.int 1)))) (fC (.int 2))) aE)) (fC (.int 3)))))))
  (aT (cP (cZ 4 (dW 4 (dW 4 bQ (dN (fC (.int 1)))) (fC (.int 2))) (aA (aG gO (aA (f2 dIx (f2 dIx (aB 4) (dN (fC (.int 1)))) (fC (.int 3))) aE)) aE) dX))
 (iB 4 (dW 4 bQ (dN (fC (.int 1)))) (fC (.int 3)) (dM aE)))
  (cP (cZ 4 (dW 4 (dW 4 bQ (dN (fC (.int 1)))) (fC (.int 3))) (aA (aG pe (aA (aG bh (aA (aB 0) (aA (aB 5) (aA (fC (.int 32)) aE)))) aE)) aE) dX)))))))))
 (aT (lW (aU (fB (f2 dGt (aG eI (aA (aB 4) aE)) (fC (.int 1)))))
  (cP (fIO [.io 4] m8)) 400)
 (bW (aI (aG gO (aA (f2 dIx (f2 dIx (aB 4) (fC (.int 0))) (fC (.int 3))) aE)))))))
abbrev yH:Stmt:=top 48
abbrev uL:List Str:=["_law_script","_law_at","_law_many","_law_nest"]
theorem lT:FnScope ["_law_script","_law_at","_law_many","_law_nest","_law_frames","_law_k","_law_number","_law_way","_law_kind","_law_new"] uL (aS yH):=cH
theorem xm1(lq:Dn K mg "_law_row" yH uL f fd)
  (bv:Dn K mg "_law_mixed" mQ kK jr i5) (b7:FnOk P w K mg base CX0 n jr i5 kK (SpP 3 K κ bh))
  (jo:Dn K mg "_law_shut" vK rG r8 qy) (m9:FnOk P w K mg base CX0 n r8 qy rG (SpE 1 K κ (bR [true]) m8))
  (kn:Dn K mg "_law_leaf" vJ rE r9 qz) (ph:FnOk P w K mg base CX0 n r9 qz rE (SpP 1 K κ pe))
  (ar:mg "range"=none)
  (dj:mg "tuple"=none)
  (ac:mg "len"=none):
  FnOk P w K mg base CX0 (n+1) f fd uL (SpP 4 K κ (gP 4 6 (yh0 bh m8 pe))):=
 cD lq.F lT fun cdv A outer s H E B hr=>
 (aM (bA 4 lT.nd (eW (aQ (eW (aQ cY (aQ aK (aQ (eW bB) (aQ (eW bB) bB))))) bB)))
 (aM (mY 5 ZD rfl lT.nd rfl (.inl rfl) rfl rfl (qM rfl ar (aF (aC 1) (aF (QP.v (bO fN (aC 1) (aC 2))) aO)))
  (aM (bA 6 lT.nd (bS bv b7 hr rfl rfl (aF (aC 0) (aF (aC 5) (aF (QP.v aK) aO))) (aH (aH (aH aY)))))
 (aM (bA 7 lT.nd (bO iZ (aC 6) (QP.v aK)))
 (aM (bA 8 lT.nd (QV.p (bL (bL (aC 4) (QP.v (oG (QP.v aK)))) (QP.v aK))))
 (aN (cI (QT.e (nL (qL (cC (wZ (Room.units0 hr)) (aC 7) (QP.v aK) (bJ _)) (pG (cC zf9 (QP.v (cW jA rfl ac ZZ (aF (aC 4) aO))) (aC 3) (bJ _))))))
  (aM (bA 9 lT.nd (zc6 (eW (xD (.str (.str (.str (.str .nil)))))) (aC 7)))
 (aN (fA (lQ (j:=4) rfl (bM 4) (aQ (eW (aQ (QV.p (aC 9)) (aQ (zc6 (eW (aQ aK (aQ aK (aQ aK (aQ (bO iZ (QP.v (bO wY (aC 6) (QP.v aK))) (QP.v aK)) bB))))) (QP.v (bO iZ (QP.v (bO wY (aC 6) (QP.v aK))) (QP.v aK)))) (aQ (eW bB) (aQ (eW bB) bB))))) bB)))))
  (aN (cI (QT.e (nL (qL (cC (kB (Room.units hr)) (aC 7) (QP.v aK) (bJ _)) (pG (cC ya8 (QP.v (cW jA rfl ac ZZ (aF (aC 4) aO))) (QP.v aK) (bJ _))))))
  (aN (fA (xr3 jo m9 hr rfl (xa5 4 eJ) rfl (zj3 rfl) (nd1 4) (we5 4))))
  (aN (cI (QT.e (nL (qL (cC (wZ (Room.units0 hr)) (aC 7) (QP.v aK) (bJ _)) (qL (cC (kB (Room.units hr)) (aC 8) (QP.v cY) (bJ _)) (pG (cC (wZ (Room.units0 hr)) (QP.v (cW jA rfl ac ZZ (aF (bL (bL (aC 4) (QP.v (oG (QP.v aK)))) (QP.v aK)) aO))) (QP.v aK) (bJ _)))))))
  (aM (fA (lQ (j:=4) rfl (nN (nN (bM 4) (QP.v (oG (QP.v aK)))) (QP.v aK)) (aQ (nS vY rfl dj Xy (aF (bL (bL (aC 4) (QP.v (oG (QP.v aK)))) (QP.v aK)) aO)) bB)))
 (aN (xk5 (j:=4) rfl (eW bB) (nN (bM 4) (QP.v (oG (QP.v aK)))) (QP.v aK))))
  (aN (fA (lQ (j:=4) rfl (nN (nN (bM 4) (QP.v (oG (QP.v aK)))) (QP.v aK)) (aQ (bS kn ph hr rfl rfl (aF (QP.v (bS bv b7 hr rfl rfl (aF (aC 0) (aF (aC 5) (aF (QP.v aK) aO))) (aH (aH (aH aY))))) aO) (aH aY)) bB))))))))))))))
 (aM (xk1 400 ZD (QT.e (cC ya8 (QP.v (cW jA rfl ac ZZ (aF (aC 4) aO))) (QP.v aK) (bJ _)))
  (aN (fA (xr3 jo m9 hr rfl (xa5 4 eJ) rfl (zj3 rfl) (nd1 4) (we5 4)))))
 (aN (bN (QP.e (nS vY rfl dj Xy (aF (bL (bL (aC 4) (QP.v aK)) (QP.v aK)) aO))))))))
def xh3(qi:(tz6))(bh:(tz6)):tz1:=
 (aT (aV 1 (aI (aG qi (aA (aB 0) (aA (fC (.int 0)) (aA (f2 cO (fC (.int 3)) (f2 eC (aG bh (aA (aB 0) (aA (fC (.int 0)) (aA (fC (.int 40)) aE)))) (fC (.int 6)))) (aA (fC (.int 2)) aE)))))))
 (aT (fIf (aU (fB (f2 dEq (f2 eC (aG bh (aA (aB 0) (aA (fC (.int 1)) (aA (fC (.int 40)) aE)))) (fC (.int 4))) (fC (.int 0)))))
  (aT (aV 2 (aI (f2 eC (aG bh (aA (aB 0) (aA (fC (.int 2)) (aA (fC (.int 40)) aE)))) (fC (.int 4)))))
 (aV 1 (aI (f2 cO (aG gO (aA (fQ [none,some 0] (lK (aA (f2 cO (fC (.int 1)) (aB 2)) aE)) fK (cA (aA (fC (.str "word")) (aA (fSl (fC (.str "abcdefghijkl")) lB (nG (f2 cO (f2 eC (aG bh (aA (aB 1) (aA (aB 0) (aA (fC (.int 41)) aE)))) (fC (.int 12))) (fC (.int 1))))) aE)))) aE)) (aB 1)))))
  bC)
 (jG 1)))
abbrev rH:Stmt:=top 49
abbrev rJ:List Str:=["_law_script"]
theorem qP:FnScope ["_law_script","_law_row_here","_law_more"] rJ (aS rH):=cH
theorem xc4(ko:Dn K mg "_law_some" rH rJ f fd)
  (lq:Dn K mg "_law_row" yH uL sy sd) (qj:FnOk P w K mg base CX0 n sy sd uL (SpP 4 K κ qi))
  (bv:Dn K mg "_law_mixed" mQ kK jr i5) (b7:FnOk P w K mg base CX0 n jr i5 kK (SpP 3 K κ bh))
  (dj:mg "tuple"=none)
  (ar:mg "range"=none):
  FnOk P w K mg base CX0 (n+1) f fd rJ (SpP 1 K κ (gP 1 2 (xh3 qi bh))):=
 cD ko.F qP fun cdv A outer s H E B hr=>
 (aM (bA 1 qP.nd (bS lq qj hr rfl rfl (aF (aC 0) (aF (QP.v aK) (aF (QP.v (bO fN (QP.v aK) (QP.v (bO iZ (QP.v (bS bv b7 hr rfl rfl (aF (aC 0) (aF (QP.v aK) (aF (QP.v aK) aO))) (aH (aH (aH aY))))) (QP.v aK))))) (aF (QP.v aK) aO)))) (aH (aH (aH (aH aY))))))
 (aM (cI (QT.e (cC (kB (Room.units hr)) (QP.v (bO iZ (QP.v (bS bv b7 hr rfl rfl (aF (aC 0) (aF (QP.v aK) (aF (QP.v aK) aO))) (aH (aH (aH aY))))) (QP.v aK))) (QP.v aK) (bJ _)))
  (aM (bA 2 qP.nd (bO iZ (QP.v (bS bv b7 hr rfl rfl (aF (aC 0) (aF (QP.v aK) (aF (QP.v aK) aO))) (aH (aH (aH aY))))) (QP.v aK)))
 (aN (bA 1 qP.nd (bO fN (QP.v (nS vY rfl dj Xy (aF (QP.v (pJ (sc:=aS rH) (NX:=["_law_script","_law_row_here","_law_more"]) (N:=["_law_k","_law_script"]) (pick:=[none,some 0]) ⟨rfl,by decide+kernel,by decide+kernel,by decide+kernel,by decide+kernel,by decide,rfl⟩ rfl rfl rfl (QIP.v (zJ rfl ar (aF (QP.v (bO fN (QP.v aK) (aC 2))) aO))) (fun _ _ _ _=>(fG (i:=0) (show(["_law_k","_law_script"]:List Str).Nodup by decide) rfl (by first|exact Or.inl rfl|exact Or.inr rfl))) (fun _ _ _ _=>pI) (fun _ _ _ _=>(dJ (aQ cY (aQ (yb2 (QP.v cY) yk9 (yl0 (QP.v (bO fN (QP.v (bO iZ (QP.v (bS bv b7 hr rfl rfl (aF (aC 1) (aF (aC 0) (aF (QP.v aK) aO))) (aH (aH (aH aY))))) (QP.v aK))) (QP.v aK))))) bB)))))) aO))) (aC 1)))))
  bP)
 (aN (iM 1 rfl))))
def zb6(mj:(tz6))(ly:(List D->Bool)):tz1:=
 (aT (qF ly (aA (aB 0) (aA (aB 1) aE))
  (aV 2 (aI (aG mj (aA (aB 0) (aA (aB 1) aE))))))
 (bW (aI (aX (f2 dIx (aB 2) (fC (.int 0)))))))
abbrev mD:Stmt:=top 51
abbrev iX:List Str:=["_law_row_here","_law_width"]
theorem tT:FnScope ["_law_row_here","_law_width","_law_found"] iX (aS mD):=cH
theorem yd4(c6:Dn K mg "_law_pressed" mD iX f fd)
  (b9:Dn K mg "pressed" mC gT ml lz) (mm:FnOk P w K mg base CX0 n ml lz gT (SpP 2 K κ mj))
   (l0:FnOk P w K mg base (CXn P w base ak) n ml lz gT (rQ 2 K κ ak ly))
  (bp:OwnCls "NoRoom" ak bmV "ValueError.__new__" mg base):
  FnOk P w K mg base CX0 (n+1) f fd iX (SpP 2 K κ (gP 2 1 (zb6 mj ly))):=
 cD c6.F tT fun cdv A outer s H E B hr=>
 (aM (ym0 b9 l0 bp rfl hr rfl rfl rfl (aF (aC 0) (aF (aC 1) aO)) (aH (aH aY)) (aN (bA 2 tT.nd (bS b9 mm hr rfl rfl (aF (aC 0) (aF (aC 1) aO)) (aH (aH aY))))) rfl rfl)
 (aN (bN (QP.e (QV.p (bL (aC 2) (QP.v aK)))))))
def zf6(f7:(tz6))(mn:(List D->Bool)):tz1:=
 (aT (qF mn (aA (aB 0) aE)
  (aV 1 (aI (aG f7 (aA (aB 0) aE)))))
 (jG 1))
abbrev qH:Stmt:=top 52
abbrev nC:List Str:=["_law_row_here"]
theorem vP:FnScope ["_law_row_here","_law_found"] nC (aS qH):=cH
theorem yj1(i6:Dn K mg "_law_stairs" qH nC f fd)
  (bf:Dn K mg "stairs" lD fM j5 jb) (g4:FnOk P w K mg base CX0 n j5 jb fM (SpP 1 K κ f7))
   (mo:FnOk P w K mg base (CXn P w base ak) n j5 jb fM (rQ 1 K κ ak mn))
  (bp:OwnCls "NoRoom" ak bmV "ValueError.__new__" mg base):
  FnOk P w K mg base CX0 (n+1) f fd nC (SpP 1 K κ (gP 1 1 (zf6 f7 mn))):=
 cD i6.F vP fun cdv A outer s H E B hr=>
 (aM (ym0 bf mo bp rfl hr rfl rfl rfl (aF (aC 0) aO) (aH aY) (aN (bA 1 vP.nd (bS bf g4 hr rfl rfl (aF (aC 0) aO) (aH aY)))) rfl rfl)
 (aN (iM 1 rfl)))
def yZ:tz1:=
 (aT (fIf (aU (gN (cM (fT (aG kI (aA (aB 0) (aA (fC (.ty "tuple")) aE))))) (fB (f2 dNe (aG eI (aA (aB 0) aE)) (fC (.int 2))))))
  (bW (aI (fC (.bl false))))
  bC)
 (aT (fJ 1 (dP (aB 0))
  (fIf (aU (gN (cM (fT (aG kI (aA (aB 1) (aA (fC (.ty "int")) aE))))) (fT (aG kI (aA (aB 1) (aA (fC (.ty "bool")) aE))))))
  (bW (aI (fC (.bl false))))
  bC))
 (bW (aI (vS (f3 dLe dLe (fC (.int 1)) (f2 dIx (aB 0) (fC (.int 0))) (fC (.int 40))) (f2 dGt (f2 dIx (aB 0) (fC (.int 1))) (fC (.int 0))))))))
abbrev nI:Stmt:=top 53
abbrev kU:List Str:=["_law_step"]
theorem rM:FnScope ["_law_step","_law_number"] kU (aS nI):=cH
theorem zw9(gk:Dn K mg "_law_is_stair" nI kU f fd)
  (dc:mg "isinstance"=none)
  (dj:mg "tuple"=none)
  (ac:mg "len"=none)
  (se:mg "bool"=none)
  (tp:mg "int"=none):
  FnOk P w K mg base CX0 (n+1) f fd kU (SpP 1 K κ (gP 1 1 (yZ))):=
 cD gk.F rM fun cdv A outer s H E B hr=>
 (aM (cI (QT.e (nL (sB (jS (fD (QP.v (cW zx8 rfl dc XD (aF (aC 0) (aF (QP.v (zx7 rfl dj Xy)) aO)))))) (qK (cC (xj9 (Room.units hr)) (QP.v (cW jA rfl ac ZZ (aF (aC 0) aO))) (QP.v aK) (bJ _))))))
  (aN (bN (QP.e qA)))
  bP)
 (aM (zc7 1 0 ZD rfl rM.nd rfl (.inl rfl) rfl rfl rfl
  (aN (cI (QT.e (nL (sB (jS (fD (QP.v (cW zx8 rfl dc XD (aF (aC 1) (aF (QP.v (zx7 rfl tp boot_int)) aO)))))) (qK (fD (QP.v (cW zx8 rfl dc XD (aF (aC 1) (aF (QP.v (zx7 rfl se boot_bool)) aO)))))))))
  (aN (bN (QP.e qA)))
  bP)))
 (aN (bN (QP.e (yz4 (xk8 zf9 zf9 (QP.v aK) (bL (aC 0) (QP.v aK)) (QP.v aK)) (ya6 (oE ya8 (bL (aC 0) (QP.v aK)) (QP.v aK) (bJ _)))))))))
def zA:tz1:=
 (aT (aV 2 (aI (fC (.int 0))))
 (aT (fJ 3 (dP (aB 0))
  (fIf (aU (fB (f2 dLe (f2 dIx (aB 3) (fC (.int 0))) (aB 1))))
  (aV 2 (aI (aX (f2 dIx (aB 3) (fC (.int 1))))))
  bC))
 (jG 2)))
abbrev nJ:Stmt:=top 54
abbrev kW:List Str:=["_law_found","_law_width"]
theorem kR:FnScope ["_law_found","_law_width","_law_lines","_law_step"] kW (aS nJ):=cH
theorem zx0(gl:Dn K mg "_law_lines_at" nJ kW f fd)
     :
  FnOk P w K mg base CX0 (n+1) f fd kW (SpP 2 K κ (gP 2 2 (zA))):=
 cD gl.F kR fun cdv A outer s H E B hr=>
 (aM (bA 2 kR.nd aK)
 (aM (zc7 3 0 ZD rfl kR.nd rfl (.inl rfl) rfl rfl rfl
  (aN (cI (QT.e (cC zf9 (bL (aC 3) (QP.v aK)) (aC 1) (bJ _)))
  (aN (bA 2 kR.nd (QV.p (bL (aC 3) (QP.v aK)))))
  bP)))
 (aN (iM 2 rfl))))
def zm9(f9:(tz6))(l6:(tz6)):tz1:=
 (aT (aV 3 (aI (aG f9 (aA (aB 0) (aA (aB 2) aE)))))
 (aT (aV 4 (aI (aG l6 (aA (aB 1) (aA (aB 2) aE)))))
 (aT (fIf (aU (fB (f2 dIs (aB 3) (fC .non))))
  (bW (aI (f2 dEq (aB 4) (fC (.int 0)))))
  bC)
 (bW (aI (f2 dEq (aG eI (aA (fMt za6 (aB 3) (aA (fC (.str "\n")) aE)) aE)) (aB 4)))))))
abbrev sN:Stmt:=top 55
abbrev oY:List Str:=["_law_row_here","_law_found","_law_width"]
theorem sE:FnScope ["_law_row_here","_law_found","_law_width","_law_text","_law_due"] oY (aS sN):=cH
theorem ys7(gt:Dn K mg "_law_right" sN oY f fd)
  (c6:Dn K mg "_law_pressed" mD iX ku j6) (ia:FnOk P w K mg base CX0 n ku j6 iX (SpP 2 K κ f9))
  (gl:Dn K mg "_law_lines_at" nJ kW oj nv) (l7:FnOk P w K mg base CX0 n oj nv kW (SpP 2 K κ l6))
  (ac:mg "len"=none):
  FnOk P w K mg base CX0 (n+1) f fd oY (SpP 3 K κ (gP 3 2 (zm9 f9 l6))):=
 cD gt.F sE fun cdv A outer s H E B hr=>
 (aM (bA 3 sE.nd (bS c6 ia hr rfl rfl (aF (aC 0) (aF (aC 2) aO)) (aH (aH aY))))
 (aM (bA 4 sE.nd (bS gl l7 hr rfl rfl (aF (aC 1) (aF (aC 2) aO)) (aH (aH aY))))
 (aM (cI (QT.e (cC yb0 (aC 3) (QP.v lO) (bJ _)))
  (aN (bN (QP.e (oE (kB (Room.units hr)) (aC 4) (QP.v aK) (bJ _)))))
  bP)
 (aN (bN (QP.e (oE (kB (Room.units hr)) (QP.v (cW jA rfl ac ZZ (aF (QP.v (zx9 W7 W8 yl1 (aC 3) (aF (QP.v cY) aO))) aO))) (aC 4) (bJ _))))))))
def xh4(f7:(tz6))(pi:(tz6))(na:(tz6))(f9:(tz6))(l8:(tz6))(dr:(tz6))(k9:(tz6))(bh:(tz6)):tz1:=
 (aT (fIf (aU (fB (f2 dNe (aG f7 (aA (cA aE) aE)) (dM (aA (cA (aA (fC (.int 1)) (aA (fC (.int 1)) aE))) aE)))))
  (bW (aI (fC (.bl false))))
  bC)
 (aT (aV 1 (aI (aG pi (aA (aB 0) aE))))
 (aT (aV 2 (aI (aG na (aA (aB 1) aE))))
 (aT (fIf (aU (fB (f2 dIs (aB 2) (fC .non))))
  (bW (aI (f2 dIs (aG f9 (aA (aB 1) (aA (fC (.int 40)) aE))) (fC .non))))
  bC)
 (aT (fIf (aU (gN (cM (fT (aG kI (aA (aB 2) (aA (fC (.ty "list")) aE))))) (gN (fB (f2 dEq (aG eI (aA (aB 2) aE)) (fC (.int 0)))) (cM (fT (aG zr5 (aA (fQ [none] (dP (aB 2)) fK (aG l8 (aA (aB 0) aE))) aE)))))))
  (bW (aI (fC (.bl false))))
  bC)
 (aT (fIf (aU (fB (f2 dNe (f2 dIx (f2 dIx (aB 2) (fC (.int 0))) (fC (.int 0))) (aG dr (aA (aB 1) aE)))))
  (bW (aI (fC (.bl false))))
  bC)
 (aT (fJ 3 (lL (aA (fC (.int 1)) (aA (aG eI (aA (aB 2) aE)) aE)))
  (fIf (aU (gN (fB (f2 dLe (f2 dIx (f2 dIx (aB 2) (aB 3)) (fC (.int 0))) (f2 dIx (f2 dIx (aB 2) (f2 iT (aB 3) (fC (.int 1)))) (fC (.int 0))))) (fB (f2 dGe (f2 dIx (f2 dIx (aB 2) (aB 3)) (fC (.int 1))) (f2 dIx (f2 dIx (aB 2) (f2 iT (aB 3) (fC (.int 1)))) (fC (.int 1)))))))
  (bW (aI (fC (.bl false))))
  bC))
 (aT (zy5 4 2
  (fIf (aU (gN (cM (fT (aG k9 (aA (aB 1) (aA (aB 2) (aA (f2 dIx (aB 4) (fC (.int 0))) aE)))))) (cU (fB (f2 dGt (f2 dIx (aB 4) (fC (.int 0))) (fC (.int 1)))) (cM (fT (aG k9 (aA (aB 1) (aA (aB 2) (aA (f2 iT (f2 dIx (aB 4) (fC (.int 0))) (fC (.int 1))) aE)))))))))
  (bW (aI (fC (.bl false))))
  bC))
 (aT (fJ 5 (lK (aA (fC (.int 6)) aE))
  (fIf (aU (cM (fT (aG k9 (aA (aB 1) (aA (aB 2) (aA (f2 cO (fC (.int 1)) (f2 eC (aG bh (aA (aB 0) (aA (aB 5) (aA (fC (.int 63)) aE)))) (fC (.int 40)))) aE)))))))
  (bW (aI (fC (.bl false))))
  bC))
 (aT (aV 6 (aI (aG zy1 (aA (aB 2) aE))))
 (aT (cP (cZ 2 bQ (aA (cA (aA (fC (.int 41)) (aA (fC (.int 0)) aE))) aE) dX))
 (bW (aI (f2 dEq (aG f7 (aA (aB 1) aE)) (aB 6)))))))))))))))
abbrev zn0:Stmt:=top 56
abbrev yh1:List Str:=["_law_script"]
theorem qQ:FnScope ["_law_script","_law_row_here","_law_found","_law_k","_law_step","_law_lap","_law_kept"] yh1 (aS zn0):=cH
theorem we7(tq:Dn K mg "law" zn0 yh1 f fd)
  (bf:Dn K mg "stairs" lD fM j5 jb) (g4:FnOk P w K mg base CX0 n j5 jb fM (SpP 1 K κ f7))
  (ko:Dn K mg "_law_some" rH rJ sf re) (pj:FnOk P w K mg base CX0 n sf re rJ (SpP 1 K κ pi))
  (i6:Dn K mg "_law_stairs" qH nC p9 o6) (ng:FnOk P w K mg base CX0 n p9 o6 nC (SpP 1 K κ na))
  (c6:Dn K mg "_law_pressed" mD iX ku j6) (ia:FnOk P w K mg base CX0 n ku j6 iX (SpP 2 K κ f9))
  (gk:Dn K mg "_law_is_stair" nI kU ol ny) (l9:FnOk P w K mg base CX0 n ol ny kU (SpP 1 K κ l8))
  (ah:Dn K mg "narrowest" gG dY fg d7) (fj:FnOk P w K mg base CX0 n fg d7 dY (SpP 1 K κ dr))
  (gt:Dn K mg "_law_right" sN oY rf qc) (la:FnOk P w K mg base CX0 n rf qc oY (SpP 3 K κ k9))
  (bv:Dn K mg "_law_mixed" mQ kK jr i5) (b7:FnOk P w K mg base CX0 n jr i5 kK (SpP 3 K κ bh))
  (ar:mg "range"=none)
  (qe:mg "list"=none)
  (ac:mg "len"=none)
  (dc:mg "isinstance"=none)
  (oq:mg "all"=none):
  FnOk P w K mg base CX0 (n+1) f fd yh1 (SpP 1 K κ (gP 1 6 (xh4 f7 pi na f9 l8 dr k9 bh))):=
 cD tq.F qQ fun cdv A outer s H E B hr=>
 (aM (cI (QT.e (cC (xj9 (Room.units hr)) (QP.v (bS bf g4 hr rfl rfl (aF (QP.v (dJ bB)) aO) (aH aY))) (QP.v (eW (aQ (dJ (aQ aK (aQ aK bB))) bB))) (bJ _)))
  (aN (bN (QP.e qA)))
  bP)
 (aM (bA 1 qQ.nd (bS ko pj hr rfl rfl (aF (aC 0) aO) (aH aY)))
 (aM (bA 2 qQ.nd (bS i6 ng hr rfl rfl (aF (aC 1) aO) (aH aY)))
 (aM (cI (QT.e (cC yb0 (aC 2) (QP.v lO) (bJ _)))
  (aN (bN (QP.e (oE yb0 (QP.v (bS c6 ia hr rfl rfl (aF (aC 1) (aF (QP.v aK) aO)) (aH (aH aY)))) (QP.v lO) (bJ _)))))
  bP)
 (aM (cI (QT.e (nL (sB (jS (fD (QP.v (cW zx8 rfl dc XD (aF (aC 2) (aF (QP.v (zx7 rfl qe boot_list)) aO)))))) (sB (cC (kB (Room.units hr)) (QP.v (cW jA rfl ac ZZ (aF (aC 2) aO))) (QP.v aK) (bJ _)) (qK (jS (fD (QP.v (cW (xr2 rfl) rfl oq boot_all (aF (QP.v (pJ (sc:=aS zn0) (NX:=["_law_script","_law_row_here","_law_found","_law_k","_law_step","_law_lap","_law_kept"]) (N:=["_law_step"]) (pick:=[none]) ⟨rfl,by decide+kernel,by decide+kernel,by decide+kernel,by decide+kernel,by decide,rfl⟩ rfl rfl rfl (wA (aC 2)) (fun _ _ _ _=>(fG (i:=0) (show(["_law_step"]:List Str).Nodup by decide) rfl (by first|exact Or.inl rfl|exact Or.inr rfl))) (fun _ _ _ _=>pI) (fun _ _ _ _=>(bS gk l9 hr rfl rfl (aF (aC 0) aO) (aH aY))))) aO))))))))))
  (aN (bN (QP.e qA)))
  bP)
 (aM (cI (QT.e (cC (xj9 (Room.units hr)) (bL (bL (aC 2) (QP.v aK)) (QP.v aK)) (QP.v (bS ah fj hr rfl rfl (aF (aC 1) aO) (aH aY))) (bJ _)))
  (aN (bN (QP.e qA)))
  bP)
 (aM (mY 3 ZD rfl qQ.nd rfl (by first|exact Or.inl rfl|exact Or.inr rfl) rfl rfl (qM rfl ar (aF (QP.v aK) (aF (QP.v (cW jA rfl ac ZZ (aF (aC 2) aO))) aO)))
  (aN (cI (QT.e (nL (sB (cC zf9 (bL (bL (aC 2) (aC 3)) (QP.v aK)) (bL (bL (aC 2) (QP.v (bO sC (aC 3) (QP.v aK)))) (QP.v aK)) (bJ _)) (qK (cC xj8 (bL (bL (aC 2) (aC 3)) (QP.v aK)) (bL (bL (aC 2) (QP.v (bO sC (aC 3) (QP.v aK)))) (QP.v aK)) (bJ _))))))
  (aN (bN (QP.e qA)))
  bP)))
 (aM (xv5 4 2 ZD rfl qQ.nd rfl (by first|exact Or.inl rfl|exact Or.inr rfl) rfl rfl (by decide) rfl (fun fp=>
  (aN (cI (QT.e (nL (sB (jS (fD (QP.v (bS gt la hr rfl rfl (aF (aC 1) (aF (aC 2) (aF (bL (aC 4) (QP.v aK)) aO))) (aH (aH (aH aY))))))) (qK (nL (qL (cC ya8 (bL (aC 4) (QP.v aK)) (QP.v aK) (bJ _)) (pG (jS (fD (QP.v (bS gt la hr rfl rfl (aF (aC 1) (aF (aC 2) (aF (QP.v (bO sC (bL (aC 4) (QP.v aK)) (QP.v aK))) aO))) (aH (aH (aH aY))))))))))))))
  (aN (bN (QP.e qA)))
  bP))))
 (aM (mY 5 ZD rfl qQ.nd rfl (by first|exact Or.inl rfl|exact Or.inr rfl) rfl rfl (zJ rfl ar (aF (QP.v aK) aO))
  (aN (cI (QT.e (jS (fD (QP.v (bS gt la hr rfl rfl (aF (aC 1) (aF (aC 2) (aF (QP.v (bO fN (QP.v aK) (QP.v (bO iZ (QP.v (bS bv b7 hr rfl rfl (aF (aC 0) (aF (aC 5) (aF (QP.v aK) aO))) (aH (aH (aH aY))))) (QP.v aK))))) aO))) (aH (aH (aH aY))))))))
  (aN (bN (QP.e qA)))
  bP)))
 (aM (bA 6 qQ.nd (nS we1 rfl qe boot_list (aF (aC 2) aO)))
 (aM (fA (lQ (j:=2) rfl (bM 2) (aQ (dJ (aQ aK (aQ aK bB))) bB)))
 (aN (bN (QP.e (oE (kB (Room.units hr)) (QP.v (bS bf g4 hr rfl rfl (aF (aC 1) aO) (aH aY))) (aC 6) (bJ _))))))))))))))))
def zB:tz1:=
 (aT (gW 0 bQ "Place" "broken" (aX (aB 1)))
 (gW 0 bQ "Place" "margin" (aX (aB 2))))
abbrev st_Place_init:Stmt:=iO (top 6) 0
abbrev ps_Place_init:List Str:=["self","broken","margin"]
theorem yU:FnScope ["self","broken","margin"] ps_Place_init (aS st_Place_init):=cH
theorem zx1(g9:Kn K mg κ "Place" "Place.__init__" st_Place_init ps_Place_init f fd)
  (ba:Cls K (κ "Place"))
  (bu:bZ K (κ "Place") "broken")
  (du:bZ K (κ "Place") "margin"):
  FnOk P w K mg base CX0 (n+1) f fd ps_Place_init (SpE 3 K κ (bR [true,false,false]) (gE 3 0 (bR [true,false,false]) (zB))):=
 oH g9.F yU (fun i hi=>iQ hi) fun cdv A outer s H E hr=>
 (aM (gK (C:="Place") ba bu rfl (QV.p (aC 1)) (bM 0))
 (aN (gK (C:="Place") ba du rfl (QV.p (aC 2)) (bM 0))))
def rR:tz1:=
 (aT (gW 0 bQ "Front" "steps" (aX (aB 1)))
 (gW 0 bQ "Front" "best" sL))
abbrev st_Front_init:Stmt:=iO (top 16) 0
abbrev ps_Front_init:List Str:=["self","steps"]
theorem yV:FnScope ["self","steps"] ps_Front_init (aS st_Front_init):=cH
theorem zx2(cm:Kn K mg κ "Front" "Front.__init__" st_Front_init ps_Front_init f fd)
  (aa:Cls K (κ "Front"))
  (cp:bZ K (κ "Front") "steps")
  (ag:bZ K (κ "Front") "best"):
  FnOk P w K mg base CX0 (n+1) f fd ps_Front_init (SpE 2 K κ (bR [true,false]) (gE 2 0 (bR [true,false]) (rR))):=
 oH cm.F yV (fun i hi=>iQ hi) fun cdv A outer s H E hr=>
 (aM (gK (C:="Front") aa cp rfl (QV.p (aC 1)) (bM 0))
 (aN (gK (C:="Front") aa ag rfl xl5 (bM 0))))
def mE:tz1:=
 (fIf (aU (gN (fB (f2 lC (aB 1) (cB "Front" "best" (aB 0)))) (fB (f2 yg6 (aB 2) (f2 gQ (cB "Front" "best" (aB 0)) (aB 1))))))
  (sM 0 (zy4 0 bQ "Front" "best") (aB 1) (aX (aB 2)))
  bC)
abbrev st_Front_add:Stmt:=iO (top 16) 1
abbrev ps_Front_add:List Str:=["self","state","way"]
theorem zW:FnScope ["self","state","way"] ps_Front_add (aS st_Front_add):=cH
theorem yd5(aw:Mn K κ "Front" "add" "Front.add" st_Front_add ps_Front_add f fd)
  (aa:Cls K (κ "Front"))
  (ag:bZ K (κ "Front") "best"):
  FnOk P w K mg base CX0 (n+1) f fd ps_Front_add (SpE 3 K κ (bR [true,false,false]) (gE 3 0 (bR [true,false,false]) (mE))):=
 oH aw.F zW (fun i hi=>iQ hi) fun cdv A outer s H E hr=>
 (aN (cI (QT.e (nL (sB (xb5 (uO hr) (aC 1) (cR (C:="Front") aa ag (aC 0))) (qK (cC (wl1 (Room.units hr)) (aC 2) (sV (uO hr) (cR (C:="Front") aa ag (aC 0)) (aC 1)) (bJ _))))))
  (aN (xw2 (j:=0) (uO hr) rfl (QV.p (aC 2)) (zt3 (C:="Front") aa ag (bM 0)) (aC 1)))
  bP))
def kN(av:(tz7)):tz1:=
 (fJ 2 (wS (aX (cB "Front" "best" (aB 1))))
  (cP (cZ 0 bQ (bY [.im (aB 2),.im (f2 gQ (cB "Front" "best" (aB 1)) (aB 2))]) (dZ "Front" "add" av))))
abbrev st_Front_add_all:Stmt:=iO (top 16) 2
abbrev ps_Front_add_all:List Str:=["self","other"]
theorem nO:FnScope ["self","other","state"] ps_Front_add_all (aS st_Front_add_all):=cH
theorem zh0(dg:Mn K κ "Front" "add_all" "Front.add_all" st_Front_add_all ps_Front_add_all f fd)
  (aw:Mn K κ "Front" "add" "Front.add" st_Front_add ps_Front_add dw da) (bi:FnOk P w K mg base CX0 n dw da ps_Front_add (SpE 3 K κ (bR [true,false,false]) av))
  (aa:Cls K (κ "Front"))
  (ag:bZ K (κ "Front") "best"):
  FnOk P w K mg base CX0 (n+1) f fd ps_Front_add_all (SpE 2 K κ (bR [true,false]) (gE 2 1 (bR [true,false]) (kN av))):=
 oH dg.F nO (fun i hi=>iQ hi) fun cdv A outer s H E hr=>
 (aN (mY 2 ZD rfl nO.nd rfl (.inl rfl) rfl rfl (zp5 (QV.p (cR (C:="Front") aa ag (aC 1))))
  (aN (fA (kZ aw bi hr rfl (bM 0) (dL (aC 2) (dL (sV (uO hr) (cR (C:="Front") aa ag (aC 1)) (aC 2)) eJ)) rfl rfl (dF 2))))))
def lG:tz1:=
 (gW 0 bQ "WithinWidth" "width" (aX (aB 1)))
abbrev st_WithinWidth_init:Stmt:=iO (top 27) 0
abbrev ps_WithinWidth_init:List Str:=["self","width"]
theorem pD:FnScope ["self","width"] ps_WithinWidth_init (aS st_WithinWidth_init):=cH
theorem zC(et:Kn K mg κ "WithinWidth" "WithinWidth.__init__" st_WithinWidth_init ps_WithinWidth_init f fd)
  (a9:Cls K (κ "WithinWidth"))
  (gb:bZ K (κ "WithinWidth") "width"):
  FnOk P w K mg base CX0 (n+1) f fd ps_WithinWidth_init (SpE 2 K κ (bR [true,false]) (gE 2 0 (bR [true,false]) (lG))):=
 oH et.F pD (fun i hi=>iQ hi) fun cdv A outer s H E hr=>
 (aN (gK (C:="WithinWidth") a9 gb rfl (QV.p (aC 1)) (bM 0)))
def jZ(gc:(tz6))(bq:(tz6))(dk:(tz6))(g5:(tz6)):tz1:=
 (aT (aV 5 (aI (aG gc (aA (aB 3) (aA (aB 4) (aA (aB 1) aE))))))
 (aT (fIf (aU (fB (f2 dIs (aB 5) (fC .non))))
  (bW (aI (fC .non)))
  bC)
 (aT (aV 6 (aI (aG bq (aA (aB 1) (aA (aB 5) aE)))))
 (aT (fIf (aU (fB (f2 dGt (aB 6) (cB "WithinWidth" "width" (aB 0)))))
  (bW (aI (fC .non)))
  bC)
 (aT (fIf (aU (fT (aG dk (aA (aB 5) aE))))
  (bW (aI (cA (aA (aX (aB 6)) (aA (cA (aA (f2 cO (f2 dIx (aB 2) (fC (.int 0))) (fC (.int 1))) (aA (f2 cO (f2 dIx (aB 2) (fC (.int 1))) (aG g5 (aA (qX "WithinWidth" "rag_of" (aB 0)) (aA (aB 1) aE)))) aE))) aE)))))
  bC)
 (bW (aI (cA (aA (aX (aB 6)) (aA (aX (aB 2)) aE))))))))))
abbrev st_WithinWidth_state_behind:Stmt:=iO (top 27) 1
abbrev ps_WithinWidth_state_behind:List Str:=["self","length","cost","piece","place"]
theorem eY:FnScope ["self","length","cost","piece","place","wrote","column"] ps_WithinWidth_state_behind (aS st_WithinWidth_state_behind):=cH
theorem qR(aq:Mn K κ "WithinWidth" "state_behind" "WithinWidth.state_behind" st_WithinWidth_state_behind ps_WithinWidth_state_behind f fd)
  (c5:Dn K mg "writing" mB iV ky j7) (ib:FnOk P w K mg base CX0 n ky j7 iV (SpP 3 K κ gc))
  (ax:Dn K mg "column_behind" gR eQ gh f8) (cg:FnOk P w K mg base CX0 n gh f8 eQ (SpP 2 K κ bq))
  (bz:Dn K mg "ends_line" jV gD je iw) (eo:FnOk P w K mg base CX0 n je iw gD (SpP 1 K κ dk))
  (bo:Mn K κ "WithinWidth" "rag_of" "WithinWidth.rag_of" st_WithinWidth_rag_of ps_WithinWidth_rag_of j8 js) (g6:FnOk P w K mg base CX0 n j8 js ps_WithinWidth_rag_of (SpP 2 K κ g5))
  (a9:Cls K (κ "WithinWidth"))
  (gb:bZ K (κ "WithinWidth") "width"):
  FnOk P w K mg base CX0 (n+1) f fd ps_WithinWidth_state_behind (SpP 5 K κ (gP 5 2 (jZ gc bq dk g5))):=
 cD aq.F eY fun cdv A outer s H E B hr=>
 (aM (bA 5 eY.nd (bS c5 ib hr rfl rfl (aF (aC 3) (aF (aC 4) (aF (aC 1) aO))) (aH (aH (aH aY)))))
 (aM (cI (QT.e (cC yb0 (aC 5) (QP.v lO) (bJ _)))
  (aN (bN (QP.e lO)))
  bP)
 (aM (bA 6 eY.nd (bS ax cg hr rfl rfl (aF (aC 1) (aF (aC 5) aO)) (aH (aH aY))))
 (aM (cI (QT.e (cC ya8 (aC 6) (cR (C:="WithinWidth") a9 gb (aC 0)) (bJ _)))
  (aN (bN (QP.e lO)))
  bP)
 (aM (cI (QT.e (fD (QP.v (bS bz eo hr rfl rfl (aF (aC 5) aO) (aH aY)))))
  (aN (bN (QP.e (dJ (aQ (QV.p (aC 6)) (aQ (dJ (aQ (bO fN (bL (aC 2) (QP.v aK)) (QP.v aK)) (aQ (bO fN (bL (aC 2) (QP.v aK)) (QP.v (yc9 bo g6 hr (aC 0) rfl (aF (aC 1) aO) (aH aY)))) bB))) bB))))))
  bP)
 (aN (bN (QP.e (dJ (aQ (QV.p (aC 6)) (aQ (QV.p (aC 2)) bB)))))))))))
def nY:tz1:=
 (bW (aI (f2 nR (f2 iT (cB "WithinWidth" "width" (aB 0)) (aB 1)) (f2 iT (cB "WithinWidth" "width" (aB 0)) (aB 1)))))
abbrev st_WithinWidth_rag_of:Stmt:=iO (top 27) 2
abbrev ps_WithinWidth_rag_of:List Str:=["self","length"]
theorem nU:FnScope ["self","length"] ps_WithinWidth_rag_of (aS st_WithinWidth_rag_of):=cH
theorem wH(bo:Mn K κ "WithinWidth" "rag_of" "WithinWidth.rag_of" st_WithinWidth_rag_of ps_WithinWidth_rag_of f fd)
  (a9:Cls K (κ "WithinWidth"))
  (gb:bZ K (κ "WithinWidth") "width"):
  FnOk P w K mg base CX0 (n+1) f fd ps_WithinWidth_rag_of (SpP 2 K κ (gP 2 0 (nY))):=
 cD bo.F nU fun cdv A outer s H E B hr=>
 (aN (bN (QP.e (bO zi9 (QP.v (bO sC (cR (C:="WithinWidth") a9 gb (aC 0)) (aC 1))) (QP.v (bO sC (cR (C:="WithinWidth") a9 gb (aC 0)) (aC 1)))))))
def pU:tz1:=
 (aT (gW 0 bQ "Setter" "choices" (aX (aB 1)))
 (aT (gW 0 bQ "Setter" "used" (fC (.int 0)))
 (aT (gW 0 bQ "Setter" "column" (fC (.int 0)))
 (gW 0 bQ "Setter" "parts" (dM aE)))))
abbrev st_Setter_init:Stmt:=iO (top 37) 0
abbrev ps_Setter_init:List Str:=["self","choices"]
theorem wI:FnScope ["self","choices"] ps_Setter_init (aS st_Setter_init):=cH
theorem zp8(kl:Kn K mg κ "Setter" "Setter.__init__" st_Setter_init ps_Setter_init f fd)
  (ae:Cls K (κ "Setter"))
  (c7:bZ K (κ "Setter") "choices")
  (fk:bZ K (κ "Setter") "used")
  (gu:bZ K (κ "Setter") "column")
  (g7:bZ K (κ "Setter") "parts"):
  FnOk P w K mg base CX0 (n+1) f fd ps_Setter_init (SpE 2 K κ (bR [true,false]) (gE 2 0 (bR [true,false]) (pU))):=
 oH kl.F wI (fun i hi=>iQ hi) fun cdv A outer s H E hr=>
 (aM (gK (C:="Setter") ae c7 rfl (QV.p (aC 1)) (bM 0))
 (aM (gK (C:="Setter") ae fk rfl aK (bM 0))
 (aM (gK (C:="Setter") ae gu rfl aK (bM 0))
 (aN (gK (C:="Setter") ae g7 rfl (eW bB) (bM 0))))))
def jO:tz1:=
 (aT (fIf (aU (fB (f2 dGe (cB "Setter" "used" (aB 0)) (aG eI (aA (cB "Setter" "choices" (aB 0)) aE)))))
  uH
  bC)
 (aT (aV 2 (aI (aX (f2 dIx (cB "Setter" "choices" (aB 0)) (cB "Setter" "used" (aB 0))))))
 (aT (fIf (aU (gN (fB (f2 dLt (aB 2) (fC (.int 0)))) (fB (f2 dGe (aB 2) (aB 1)))))
  uH
  bC)
 (aT (gW 0 bQ "Setter" "used" (f2 cO (cB "Setter" "used" (aB 0)) (fC (.int 1))))
 (jG 2)))))
abbrev gI:Stmt:=iO (top 37) 1
abbrev fE:List Str:=["self","count"]
theorem jL:FnScope ["self","count","number"] fE (aS gI):=cH
theorem vQ(bg:Mn K κ "Setter" "choice_below" "Setter.choice_below" gI fE f fd)
  (ae:Cls K (κ "Setter"))
  (fk:bZ K (κ "Setter") "used")
  (c7:bZ K (κ "Setter") "choices")
  (ac:mg "len"=none):
  FnOk P w K mg base CX0 (n+1) f fd fE (SpE 2 K κ (bR [true,false]) (gE 2 1 (bR [true,false]) (jO))):=
 oH bg.F jL (fun i hi=>iQ hi) fun cdv A outer s H E hr=>
 (aM (cI (QT.e (cC xj8 (cR (C:="Setter") ae fk (aC 0)) (QP.v (cW jA rfl ac ZZ (aF (cR (C:="Setter") ae c7 (aC 0)) aO))) (bJ _)))
  (aN pH)
  bP)
 (aM (bA 2 jL.nd (QV.p (bL (cR (C:="Setter") ae c7 (aC 0)) (cR (C:="Setter") ae fk (aC 0)))))
 (aM (cI (QT.e (nL (sB (cC (wZ (Room.units0 hr)) (aC 2) (QP.v aK) (bJ _)) (qK (cC xj8 (aC 2) (aC 1) (bJ _))))))
  (aN pH)
  bP)
 (aM (gK (C:="Setter") ae fk rfl (bO fN (cR (C:="Setter") ae fk (aC 0)) (QP.v aK)) (bM 0))
 (aN (iM 2 rfl))))))
def jC(gc:(tz6))(bq:(tz6)):tz1:=
 (aT (aV 3 (aI (aG gc (aA (aB 1) (aA (aB 2) (aA (cB "Setter" "column" (aB 0)) aE))))))
 (aT (fIf (aU (fB (f2 dIs (aB 3) (fC .non))))
  uH
  bC)
 (aT (cP (cZ 0 (zy4 0 bQ "Setter" "parts") (aA (aX (aB 3)) aE) dX))
 (gW 0 bQ "Setter" "column" (aG bq (aA (cB "Setter" "column" (aB 0)) (aA (aB 3) aE)))))))
abbrev jD:Stmt:=iO (top 37) 2
abbrev fY:List Str:=["self","piece","place"]
theorem lE:FnScope ["self","piece","place","wrote"] fY (aS jD):=cH
theorem zD(b8:Mn K κ "Setter" "set_plain" "Setter.set_plain" jD fY f fd)
  (c5:Dn K mg "writing" mB iV ky j7) (ib:FnOk P w K mg base CX0 n ky j7 iV (SpP 3 K κ gc))
  (ax:Dn K mg "column_behind" gR eQ gh f8) (cg:FnOk P w K mg base CX0 n gh f8 eQ (SpP 2 K κ bq))
  (ae:Cls K (κ "Setter"))
  (gu:bZ K (κ "Setter") "column")
  (g7:bZ K (κ "Setter") "parts"):
  FnOk P w K mg base CX0 (n+1) f fd fY (SpE 3 K κ (bR [true,false,false]) (gE 3 1 (bR [true,false,false]) (jC gc bq))):=
 oH b8.F lE (fun i hi=>iQ hi) fun cdv A outer s H E hr=>
 (aM (bA 3 lE.nd (bS c5 ib hr rfl rfl (aF (aC 1) (aF (aC 2) (aF (cR (C:="Setter") ae gu (aC 0)) aO))) (aH (aH (aH aY)))))
 (aM (cI (QT.e (cC yb0 (aC 3) (QP.v lO) (bJ _)))
  (aN pH)
  bP)
 (aM (fA (lQ (j:=0) rfl (zt3 (C:="Setter") ae g7 (bM 0)) (aQ (QV.p (aC 3)) bB)))
 (aN (gK (C:="Setter") ae gu rfl (bS ax cg hr rfl rfl (aF (cR (C:="Setter") ae gu (aC 0)) (aF (aC 3) aO)) (aH (aH aY))) (bM 0))))))
def iH(jg:(tz6))(b0:(tz6))(gm:(tz7))(b5:(tz7)):tz1:=
 (aT (aV 3 (aI (aG jg (aA (aB 1) (aA (aB 2) aE)))))
 (aT (aV 4 (aI (fC (.int 0))))
 (aT (fIf (aU (fT (aG b0 (aA (aB 1) (aA (aB 2) aE)))))
  (aV 4 (cZ 0 bQ (bY [.im (aG eI (aA (aB 3) aE))]) (dZ "Setter" "choice_below" gm)))
  bC)
 (aT (aV 5 (aI (aX (f2 dIx (aB 3) (aB 4)))))
 (cP (cZ 0 bQ (bY [.im (f2 dIx (aB 5) (fC (.int 0))),.im (f2 dIx (aB 5) (fC (.int 1)))]) (dZ "Setter" "set_row" b5)))))))
abbrev iI:Stmt:=iO (top 37) 3
abbrev fU:List Str:=["self","piece","place"]
theorem eR:FnScope ["self","piece","place","found","number","way"] fU (aS iI):=cH
theorem xH(bx:Mn K κ "Setter" "set_holder" "Setter.set_holder" iI fU f fd)
  (gv:Dn K mg "ways" nX lZ mz ma) (kg:FnOk P w K mg base CX0 n mz ma lZ (SpP 2 K κ jg))
  (az:Dn K mg "takes_choice" iC eX gw gd) (cu:FnOk P w K mg base CX0 n gw gd eX (SpP 2 K κ b0))
  (bg:Mn K κ "Setter" "choice_below" "Setter.choice_below" gI fE jt jc) (gn:FnOk P w K mg base CX0 n jt jc fE (SpE 2 K κ (bR [true,false]) gm))
  (a7:Mn K κ "Setter" "set_row" "Setter.set_row" st_Setter_set_row ps_Setter_set_row gy ge) (ej:FnOk P w K mg base CX0 n gy ge ps_Setter_set_row (SpE 3 K κ (bR [true,false,false]) b5))
  (ac:mg "len"=none):
  FnOk P w K mg base CX0 (n+1) f fd fU (SpE 3 K κ (bR [true,false,false]) (gE 3 3 (bR [true,false,false]) (iH jg b0 gm b5))):=
 oH bx.F eR (fun i hi=>iQ hi) fun cdv A outer s H E hr=>
 (aM (bA 3 eR.nd (bS gv kg hr rfl rfl (aF (aC 1) (aF (aC 2) aO)) (aH (aH aY))))
 (aM (bA 4 eR.nd aK)
 (aM (cI (QT.e (fD (QP.v (bS az cu hr rfl rfl (aF (aC 1) (aF (aC 2) aO)) (aH (aH aY))))))
  (aN (yz8 4 eR.nd rfl (.inl rfl) rfl rfl (kZ bg gn hr rfl (bM 0) (dL (QP.v (cW jA rfl ac ZZ (aF (aC 3) aO))) eJ) rfl rfl (dF 1))))
  bP)
 (aM (bA 5 eR.nd (QV.p (bL (aC 3) (aC 4))))
 (aN (fA (kZ a7 ej hr rfl (bM 0) (dL (bL (aC 5) (QP.v aK)) (dL (bL (aC 5) (QP.v aK)) eJ)) rfl rfl (dF 2))))))))
def jQ(cv:(tz6))(ig:(tz7))(iq:(tz7)):tz1:=
 (fJ 3 (dP (aB 1))
  (fIf (aU (fT (aG cv (aA (aB 3) aE))))
  (cP (cZ 0 bQ (bY [.im (aB 3),.im (aB 2)]) (dZ "Setter" "set_holder" ig)))
  (cP (cZ 0 bQ (bY [.im (aB 3),.im (aB 2)]) (dZ "Setter" "set_plain" iq)))))
abbrev st_Setter_set_row:Stmt:=iO (top 37) 4
abbrev ps_Setter_set_row:List Str:=["self","row","place"]
theorem mS:FnScope ["self","row","place","piece"] ps_Setter_set_row (aS st_Setter_set_row):=cH
theorem ze8(a7:Mn K κ "Setter" "set_row" "Setter.set_row" st_Setter_set_row ps_Setter_set_row f fd)
  (bj:Dn K mg "holds_rows" jI fS iz ij) (d6:FnOk P w K mg base CX0 n iz ij fS (SpP 1 K κ cv))
  (bx:Mn K κ "Setter" "set_holder" "Setter.set_holder" iI fU ke j9) (nz:FnOk P w K mg base CX0 n ke j9 fU (SpE 3 K κ (bR [true,false,false]) ig))
  (b8:Mn K κ "Setter" "set_plain" "Setter.set_plain" jD fY lb kf) (ir:FnOk P w K mg base CX0 n lb kf fY (SpE 3 K κ (bR [true,false,false]) iq)):
  FnOk P w K mg base CX0 (n+1) f fd ps_Setter_set_row (SpE 3 K κ (bR [true,false,false]) (gE 3 1 (bR [true,false,false]) (jQ cv ig iq))):=
 oH a7.F mS (fun i hi=>iQ hi) fun cdv A outer s H E hr=>
 (aN (zc7 3 1 ZD rfl mS.nd rfl (.inl rfl) rfl rfl rfl
  (aN (cI (QT.e (fD (QP.v (bS bj d6 hr rfl rfl (aF (aC 3) aO) (aH aY)))))
  (aN (fA (kZ bx nz hr rfl (bM 0) (dL (aC 3) (dL (aC 2) eJ)) rfl rfl (dF 2))))
  (aN (fA (kZ b8 ir hr rfl (bM 0) (dL (aC 3) (dL (aC 2) eJ)) rfl rfl (dF 2))))))))
def kO:tz1:=
 (aT (fIf (aU (fB (f2 dLt (cB "Setter" "used" (aB 0)) (aG eI (aA (cB "Setter" "choices" (aB 0)) aE)))))
  uH
  bC)
 (bW (aI (fMt zm4 (fC (.str "")) (aA (cB "Setter" "parts" (aB 0)) aE)))))
abbrev st_Setter_whole_text:Stmt:=iO (top 37) 5
abbrev ps_Setter_whole_text:List Str:=["self"]
theorem oK:FnScope ["self"] ps_Setter_whole_text (aS st_Setter_whole_text):=cH
theorem xI(bw:Mn K κ "Setter" "whole_text" "Setter.whole_text" st_Setter_whole_text ps_Setter_whole_text f fd)
  (ae:Cls K (κ "Setter"))
  (fk:bZ K (κ "Setter") "used")
  (g7:bZ K (κ "Setter") "parts")
  (c7:bZ K (κ "Setter") "choices")
  (ac:mg "len"=none):
  FnOk P w K mg base CX0 (n+1) f fd ps_Setter_whole_text (SpP 1 K κ (gP 1 0 (kO))):=
 cD bw.F oK fun cdv A outer s H E B hr=>
 (aM (cI (QT.e (cC (wZ (Room.units0 hr)) (cR (C:="Setter") ae fk (aC 0)) (QP.v (cW jA rfl ac ZZ (aF (cR (C:="Setter") ae c7 (aC 0)) aO))) (bJ _)))
  (aN pH)
  bP)
 (aN (bN (QP.e (zx9 PySem.F.slot_str_join PySem.F.type_str_join we2 (QP.v cY) (aF (cR (C:="Setter") ae g7 (aC 0)) aO))))))
end L3
namespace My
open PySem PySem.Spec PyProof.Rows L2 L3
abbrev MxH(GM:List D->Option D)(S:D):Prop:=∀j s:Int,0<=j->j<1000->0<=s->s<1000->∃a,GM [S,.int j,.int s]=some (.int a)/\0<=a
def cN:Leaf->D
 | .word x=> .tup [.str "word",.str x]
 | .gap x=> .tup [.str "gap",.str x]
 | .stop c=> .tup [.str "stop",.int c]
 | .fin=> .tup [.str "end"]
mutual
def pcD:Pc->D
 | .leaf l=>cN l
 | .group r=> .tup [.str "group",.tup (pcsD r)]
 | .hang n r=> .tup [.str "hang",.int n,.tup (pcsD r)]
 | .either rs=> .tup [.str "either",.tup (rowsD rs)]
def pcsD:List Pc->List D
 |[]=>[]
 |p::r=>pcD p::pcsD r
def rowsD:List (List Pc)->List D
 |[]=>[]
 |r::rs=> .tup (pcsD r)::rowsD rs
end
theorem yd6(l:Leaf):(cN l).imm=true:=by cases l<;>rfl
mutual
theorem wJ:∀p:Pc,(pcD p).imm=true
 | .leaf l=>yd6 l
 | .group r=>by show(D.imm (.str "group")&&(D.imm (.tup (pcsD r))&&D.imms []))=true;rw [show D.imm (.tup (pcsD r))=D.imms (pcsD r) from rfl,pcs_imm r];rfl
 | .hang n r=>by show(D.imm (.str "hang")&&(D.imm (.int n)&&(D.imm (.tup (pcsD r))&&D.imms [])))=true;rw [show D.imm (.tup (pcsD r))=D.imms (pcsD r) from rfl,pcs_imm r];rfl
 | .either rs=>by show(D.imm (.str "either")&&(D.imm (.tup (rowsD rs))&&D.imms []))=true;rw [show D.imm (.tup (rowsD rs))=D.imms (rowsD rs) from rfl,rows_imm rs];rfl
theorem pcs_imm:∀r:List Pc,D.imms (pcsD r)=true
 |[]=>rfl
 |p::r=>by show(D.imm (pcD p)&&D.imms (pcsD r))=true;rw [wJ p,pcs_imm r];rfl
theorem rows_imm:∀rs:List (List Pc),D.imms (rowsD rs)=true
 |[]=>rfl
 |r::rs=>by show(D.imm (.tup (pcsD r))&&D.imms (rowsD rs))=true;rw [show D.imm (.tup (pcsD r))=D.imms (pcsD r) from rfl,pcs_imm r,rows_imm rs];rfl
end
theorem xJ:∀a b:List Pc,pcsD (a++b)=pcsD a++pcsD b
 |[],b=>rfl
 |p::a,b=>by show pcD p::pcsD (a++b)=pcD p::(pcsD a++pcsD b);rw [xJ a b]
theorem zX:∀a b:List (List Pc),rowsD (a++b)=rowsD a++rowsD b
 |[],b=>rfl
 |p::a,b=>by show D.tup (pcsD p)::rowsD (a++b)=D.tup (pcsD p)::(rowsD a++rowsD b);rw [zX a b]
theorem tU:∀a:List Pc,(pcsD a).length=a.length
 |[]=>rfl
 |p::a=>by show(pcsD a).length+1=a.length+1;rw [tU a]
theorem lU:∀a:List (List Pc),(rowsD a).length=a.length
 |[]=>rfl
 |p::a=>by show(rowsD a).length+1=a.length+1;rw [lU a]
theorem ym1{α β:Type}(f:α->β)(hf:∀a b,f a=f b->a=b):∀{l m:List α},l.map f=m.map f->l=m
 |[],[],_=>rfl
 |[],_::_,h=>by simp at h
 |_::_,[],h=>by simp at h
 |a::l,b::m,h=>by
  simp only [Z8,List.cons.injEq] at h
  rw [hf a b h.1,ym1 f hf h.2]
theorem fZ(a b:String):(Str.ofString a=Str.ofString b)=(a=b):=by
 refine propext ⟨fun h=> ?_,fun h=>by rw [h]⟩
 rw [Str.ofString_eq_toList,Str.ofString_eq_toList] at h
 have h1:(a.toList.map Char.toNat).toArray=(b.toList.map Char.toNat).toArray:=(Str.mk.inj h)
 have h2:a.toList.map Char.toNat=b.toList.map Char.toNat:=by simpa using ZJ Array.toList h1
 have h3:a.toList=b.toList:=ym1 _ (fun x y e=>by
  have:Char.ofNat x.toNat=Char.ofNat y.toNat:=by rw [e]
  simpa using this) h2
 exact String.toList_inj.mp h3
theorem kF{α:Type}(a:α)(l:List α):atI (a::l) 0=some a:=by simp [atI,ixN]
theorem jM{α:Type}(a b:α)(l:List α):atI (a::b::l) 1=some b:=by
 have h:ixN (a::b::l).length 1=some 1:=by unfold ixN;rw [if_pos (by decide),if_pos (by simp only [Z6];omega)];rfl
 simp only [atI,h];rfl
theorem xm2{α:Type}(a b c:α)(l:List α):atI (a::b::c::l) 2=some c:=by
 have h:ixN (a::b::c::l).length 2=some 2:=by unfold ixN;rw [if_pos (by decide),if_pos (by simp only [Z6];omega)];rfl
 simp only [atI,h];rfl
local macro_rules|`(tactic|simp! [$a,*] $[$l]?)=>`(tactic|simp [aE,aA,aG,aI,aB,aU,fT,zr4,D.imms,D.imm,aX,cP,bY,cZ,kJ,gC,bQ,bW,aT,fC,f2,fIf,bC,cO,fB,dB,aV,jM,kF,dIx,fZ,eI,gP,gN,dLt,dGe,cJ,zi0,bR,gE,dX,jG,dM,eU,iT,yg5,xm2,wR,cB,zm5,cA,gW,dIs,zy4,zm3,dGt,gO,dLe,eqB,dNe,fMt,dEq,$a,*] $[$l]?)
theorem sz{n:Nat}(h:n<=1000):n<=sizeLine:=zx6 h
theorem sz1{n:Nat}(h:n<=1000):n<sizeLine:=qJ h
theorem yj2{rs:List (List Pc)}{r:List Pc}(h:r∈rs):(toksR r).length<=(toksMore rs).length:=by
 induction rs with
 |nil=>simp at h
 |cons q rs ih=>
  show _<=(Tk.orr::(toksR q++toksMore rs)).length
  rw [Z6,Z5]
  rcases Z3.mp h with e|e
  ·subst e;omega
  ·have:=ih e;omega
theorem zf3{rs:List (List Pc)}{r:List Pc}(h:r∈rs):(toksR r).length<=(toksRows rs).length:=by
 cases rs with
 |nil=>simp at h
 |cons q rs=>
  show _<=(toksR q++toksMore rs).length
  rw [Z5]
  rcases Z3.mp h with e|e
  ·subst e;omega
  ·have:=yj2 e;omega
theorem fO(n:Nat):ixN (n+1) (-1)=some n:=by
 unfold ixN
 rw [if_neg (by decide),if_pos (by omega)]
 congr 1
 omega
theorem gA{α:Type}(l:List α)(a b:α):(l++[a]).set l.length b=l++[b]:=by
 induction l with
 |nil=>rfl
 |cons x l ih=>show x::(l++[a]).set l.length b=_;rw [ih];rfl
theorem tW(n:Nat):ixN (n+1) 0=some 0:=by unfold ixN;rw [if_pos (by decide),if_pos (by omega)];rfl
theorem dH(i j:Int):eC (.int i) (.int j)=if 0<j then some (.int (i % j)) else none:=by simp [eC,dII]
theorem eS(i j:Int):mT (.int i) (.int j)=if 0<j/\j<1073741824 then some (.int (i/j)) else none:=by simp [mT,dII]
theorem cL(x y:Str):(x++y).cps.toList=x.cps.toList++y.cps.toList:=by
 show(x.cps++y.cps).toList=_
 simp
theorem eG(x y:Str):(x++y).length=x.length+y.length:=by
 show(x.cps++y.cps).size=x.cps.size+y.cps.size
 simp
def sg:Str:=("abcdefghijklmnopqrstuvwxyzABCDEFGHIJKLMNOPQRSTUVWXYZ0123456789":Str)++("!\"#$&'()*+,-./:;<=>?\x40[\\]^_`{|}~":Str)
theorem xc5:sg.cps.toList.length=93:=by decide+kernel
theorem xx1:sg.cps.toList.all vE=true:=by decide+kernel
theorem xx2:sg.length<=sizeLine:=by
 have e:sg.length=sg.cps.toList.length:=by simp [Str.length]
 rw [e,xc5];exact sz (by decide)
theorem wK{α:Type}(xs:List α)(i:Int)(h0:0<=i)(h1:i<xs.length):∃v∈xs,atI xs i=some v:=by
 have hn:i.toNat<xs.length:=by omega
 obtain⟨v,hv⟩:∃v,xs[i.toNat]? =some v:=⟨_,Zm hn⟩
 refine⟨v,ZL hv,?_⟩
 have e:i=((i.toNat:Nat):Int):=by omega
 rw [e]
 exact zo1 hv
theorem wl4(i:Int)(h0:0<=i)(h1:i<93):∃c,atI sg.cps.toList i=some c/\vE c=true:=by
 obtain⟨c,hc,e⟩:=wK sg.cps.toList i h0 (by rw [xc5];omega)
 exact⟨c,e,List.all_eq_true.mp xx1 c hc⟩
theorem we8(n:Nat):dS 0 n=((List.range n).map fun(k:Nat)=>(k:Int)).map .int:=by
 unfold dS
 rw [YA]
 refine List.map_congr_left fun k _=> ?_
 show D.int (0+(k:Int))=D.int (k:Int)
 rw [Int.zero_add]
theorem xx3(m:Int):∃s:Int,atI [D.int 1,.int 2,.int 3,.int 4,.int 5,.int 6,.int 7,.int 8,.int 10,.int 11,.int 9,.int 12] (m % 12)=some (.int s)/\1<=s/\s<=12:=by
 have h0:=ZE m (show(12:Int)≠0 by decide)
 have h1:=ZC m (show(0:Int)<12 by decide)
 obtain⟨d,hd,e⟩:=wK [D.int 1,.int 2,.int 3,.int 4,.int 5,.int 6,.int 7,.int 8,.int 10,.int 11,.int 9,.int 12] (m % 12) h0 (by simpa using h1)
 simp only [Z3,ZR,X8] at hd
 rcases hd with rfl|rfl|rfl|rfl|rfl|rfl|rfl|rfl|rfl|rfl|rfl|rfl<;>exact⟨_,e,by decide,by decide⟩
theorem we9(k:Int):∃x:Str,atI [D.str (Str.ofString " "),.str (Str.ofString " "),.str (Str.ofString " "),.str (Str.ofString "")] (k % 4)=some (.str x)/\(x=""\/x=" "):=by
 have h0:=ZE k (show(4:Int)≠0 by decide)
 have h1:=ZC k (show(0:Int)<4 by decide)
 obtain⟨d,hd,e⟩:=wK [D.str (Str.ofString " "),.str (Str.ofString " "),.str (Str.ofString " "),.str (Str.ofString "")] (k % 4) h0 (by simpa using h1)
 simp only [Z3,ZR,X8] at hd
 rcases hd with rfl|rfl|rfl|rfl
 ·exact⟨_,e,.inr rfl⟩
 ·exact⟨_,e,.inr rfl⟩
 ·exact⟨_,e,.inr rfl⟩
 ·exact⟨_,e,.inl rfl⟩
theorem xx4(a b k:Int)(ha:0<=a/\a<=40)(hb:0<=b/\b<=40):∃c:Int,atI [D.int a,.int b] (k % 2)=some (.int c)/\0<=c/\c<=40:=by
 have h0:=ZE k (show(2:Int)≠0 by decide)
 have h1:=ZC k (show(0:Int)<2 by decide)
 obtain⟨d,hd,e⟩:=wK [D.int a,.int b] (k % 2) h0 (by simpa using h1)
 simp only [Z3,ZR,X8] at hd
 rcases hd with rfl|rfl
 ·exact⟨_,e,ha⟩
 ·exact⟨_,e,hb⟩
theorem wo1{α:Type}(a b c d:α):atI [a,b,c,d] 3=some d:=rfl
theorem zp9{i j:Int}(h1: -1000000<=i)(h2:i<=1000000)(h3: -1000000<=j)(h4:j<=1000000):zy3 [.int i,.int j]=some (dS i (j-i).toNat):=by
 rw [zy3]
 exact if_pos ⟨by omega,by omega,by omega,by omega⟩
theorem xx5{j:Int}(h3: -1000000<=j)(h4:j<=1000000):sK [.int j]=some (dS 0 j.toNat):=by
 rw [sK]
 exact if_pos ⟨by omega,by omega⟩
theorem wf0(a:Int)(n:Nat):dS a n=((List.range n).map fun(k:Nat)=>a+(k:Int)).map .int:=by
 unfold dS
 rw [YA];rfl
theorem aW{f g:tz1}{p p':PSt}(h:f p=some (.nx,p')):aT f g p=g p':=by unfold aT;rw [h];rfl
theorem bH{f g:tz1}{p p':PSt}{R:Fl}(h:f p=some (.nx,p'))(e:∃q,g p'=some (R,q)):∃q,aT f g p=some (R,q):=e.elim fun q e=>⟨q,(aW h).trans e⟩
theorem fP{f g:tz1}{p p':PSt}{d:D}(h:f p=some (.ret d,p')):aT f g p=some (.ret d,p'):=by unfold aT;rw [h];rfl
theorem ys8{c:PSt->Option (Bool×PSt)}{f g:tz1}{p p':PSt}(h:c p=some (true,p')):fIf c f g p=f p':=by unfold fIf;rw [h];rfl
theorem uV{c:PSt->Option (Bool×PSt)}{f g:tz1}{p p':PSt}(h:c p=some (false,p')):fIf c f g p=g p':=by unfold fIf;rw [h];rfl
theorem bD{i:Nat}{f:tz2}{p:PSt}{d:D}(h:f p=some d):aV i (aI f) p=some (.nx,p.set i (some d)):=by unfold aV aI;rw [h];rfl
theorem cE{f:tz2}{p:PSt}{d:D}(h:f p=some d):bW (aI f) p=some (.ret d,p):=by unfold bW aI;rw [h];rfl
theorem lV{np n:Nat}{f:tz1}{ds:List D}{d:D}{p:PSt}(hl:ds.length=np)(h:f (ds.map some++List.replicate n none)=some (.ret d,p)):gP np n f ds=some d:=by
 unfold gP;rw [if_pos hl,h];rfl
theorem aR{g:D->D->Option D}{fa fb:tz2}{p:PSt}{x y d:D}(h1:fa p=some x)(h2:fb p=some y)(h3:g x y=some d):f2 g fa fb p=some d:=by unfold f2;rw [h1,h2];exact h3
theorem aP{h:tz6}{g:tz3}{p:PSt}{ds:List D}{d:D}(h1:g p=some ds)(h2:h ds=some d):aG h g p=some d:=by unfold aG;rw [h1];exact h2
theorem xc6{o o':Bool}{ys zs:List D}(h1:D.imms ys=true)(h2:D.imms zs=true)(h:ys.length+zs.length<=1000):cO (.lst o ys) (.lst o' zs)=some (.lst true (ys++zs)):=by
 rw [cO]
 exact if_pos (by rw [h1,h2];simpa using sz h)
theorem aD{f:tz2}{g:tz3}{p:PSt}{d:D}{ds:List D}(h1:f p=some d)(h2:g p=some ds):aA f g p=some (d::ds):=by unfold aA;rw [h1,h2];rfl
def gV(ws:List Str):List D:=ws.map .str
theorem xc7(a b:List Str):gV (a++b)=gV a++gV b:=by simp [gV]
theorem xc8(a:List Str):(gV a).length=a.length:=by simp [gV]
theorem iN{g:tz3}{p:PSt}{ds:List D}(h:g p=some ds)(hl:ds.length<=1000):dM g p=some (.lst true ds):=by unfold dM;rw [h];exact if_pos hl
theorem ym2(a:Int)(b c:Nat)(hc:0<c):∃n:Nat,(b:Int)+a % (c:Int)=(n:Int)/\n<b+c:=by
 have h1:=ZE a (show(c:Int)≠0 by omega)
 have h2:=ZC a (show(0:Int)<c by omega)
 exact⟨(b+a % c).toNat,by omega,by omega⟩
theorem sF(k:Nat)(n:Nat):dS (k:Int) (n+1)= .int k::dS ((k+1:Nat):Int) n:=by
 unfold dS
 rw [List.range_succ_eq_map,Z8,YA]
 congr 1
 ·simp
  intro j _
  omega
theorem wo2{n:Nat}(h:n<=1000):sK [.int (n:Int)]=some (dS ((0:Nat):Int) n):=xx5 (j:=(n:Int)) (by omega) (by omega)
theorem eM{g:tz3}{p:PSt}{ds:List D}(h:g p=some ds)(hi:D.imms ds=true)(hl:ds.length<=1000):cA g p=some (.tup ds):=by
 unfold cA
 rw [h]
 exact if_pos (by rw [hi];simpa using hl)
theorem lA{i:Nat}{p:PSt}{d:D}(h:p[i]? =some (some d)):aB i p=some d:=by unfold aB;rw [h];rfl
theorem nP{f:tz4}{p:PSt}{b:Bool}(h:f p=some b):aU f p=some (b,p):=by unfold aU;rw [h];rfl
theorem dR{f:tz2}{p:PSt}{b:Bool}(h:f p=some (.bl b)):fB f p=some b:=by unfold fB;rw [h];rfl
theorem nF{f:tz2}{p:PSt}{b:Bool}(h:f p=some (.bl b)):fT f p=some b:=by unfold fT;rw [h];rfl
theorem qS{f g:tz4}{p:PSt}(h:f p=some false):cU f g p=some false:=by unfold cU;rw [h];rfl
theorem qT{f g:tz4}{p:PSt}{b:Bool}(h:f p=some true)(h2:g p=some b):cU f g p=some b:=by unfold cU;rw [h];exact h2
theorem wl5{f g:tz4}{p:PSt}(h:f p=some true):gN f g p=some true:=by unfold gN;rw [h];rfl
theorem sG{f g:tz4}{p:PSt}{b:Bool}(h:f p=some false)(h2:g p=some b):gN f g p=some b:=by unfold gN;rw [h];exact h2
theorem gB{f:tz4}{p:PSt}{b:Bool}(h:f p=some b):cM f p=some (!b):=by unfold cM;rw [h];rfl
theorem aZ{c:tz4}{F:tz1}{p:PSt}(h:c p=some false):fIf (aU c) F bC p=some (.nx,p):=(uV (nP h)).trans rfl
theorem cG{c:tz4}{F G:tz1}{p:PSt}(h:c p=some true):fIf (aU c) F G p=F p:=ys8 (nP h)
theorem tY{f:tz8}{p p':PSt}{d:D}(h:f p=some (d,p')):cP f p=some (.nx,p'):=by unfold cP;rw [h];rfl
theorem wf1{as:List L2.Arg}{g:tz7}{p:PSt}{ds ds':List D}{d:D}(h1:bY as p=some ds)(h2:g ds=some (d,ds'))(h3:ds'.length=as.length):fIO as g p=some (d,eD p as ds'):=by unfold fIO;rw [h1,Z2,h2,Z2,if_pos h3]
theorem bX{f:tz2}{p:PSt}{d:D}(h:f p=some d)(hi:d.imm=true):aX f p=some d:=by unfold aX;rw [h];exact if_pos hi
theorem pM{p:PSt}:bY [] p=some []:=rfl
theorem pN{f:tz2}{as:List L2.Arg}{p:PSt}{d:D}{ds:List D}(h:f p=some d)(hi:d.imm=true)(h2:bY as p=some ds):bY (.im f::as) p=some (d::ds):=by
 show(aX f p).bind _=_
 rw [bX h hi,Z2,h2];rfl
theorem xx6{j:Nat}{as:List L2.Arg}{p:PSt}{d:D}{ds:List D}(h:p[j]? =some (some d))(h2:bY as p=some ds):bY (.io j::as) p=some (d::ds):=by
 show((p[j]?).join).bind _=_
 rw [h,YX,Z2,h2];rfl
theorem xc9(c:Nat):∀(a b u v:List Nat),c∉a->c∉b->a++c::u=b++c::v->a=b/\u=v
 |[],[],u,v,_,_,e=>⟨rfl,(Xi e).2⟩
 |[],y::b,u,v,_,hb,e=>absurd (Xi e).1 (fun z=>hb (z▸Z0))
 |x::a,[],u,v,ha,_,e=>absurd (Xi e).1 (fun z=>ha (z▸Z0))
 |x::a,y::b,u,v,ha,hb,e=>by
  obtain⟨e1,e2⟩:=Xi e
  obtain⟨e3,e4⟩:=xc9 c a b u v (fun z=>ha (Z1 _ z)) (fun z=>hb (Z1 _ z)) e2
  exact⟨by rw [e1,e3],e4⟩
theorem sX{x y:Str}(h:x.cps.toList=y.cps.toList):x=y:=by
 cases x;cases y
 congr
 exact Xv.mp h
section
variable{c:Nat}
theorem nQ(x y:Str)(r:List Str):(Str.join ⟨#[c]⟩ (x::y::r)).cps.toList=x.cps.toList++c::(Str.join ⟨#[c]⟩ (y::r)).cps.toList:=by
 show((x++⟨#[c]⟩)++Str.join ⟨#[c]⟩ (y::r)).cps.toList=_
 rw [cL,cL]
 show(x.cps.toList++[c])++_=_
 simp
theorem yd7:∀xs ys:List Str,xs≠[]->ys≠[]->(∀p∈xs,c∉p.cps.toList)->(∀p∈ys,c∉p.cps.toList)->Str.join ⟨#[c]⟩ xs=Str.join ⟨#[c]⟩ ys->xs=ys
 |[],_,h,_,_,_,_=>absurd rfl h
 |_,[],_,h,_,_,_=>absurd rfl h
 |[x],[y],_,_,_,_,e=>by rw [show x=y from e]
 |[x],y::y'::r,_,_,hx,_,e=>by
  have e':=ZJ (fun z=>z.cps.toList) (show x=Str.join ⟨#[c]⟩ (y::y'::r) from e)
  rw [nQ] at e'
  exact absurd (by rw [e'];simp) (hx x Z0)
 |x::x'::r,[y],_,_,_,hy,e=>by
  have e':=ZJ (fun z=>z.cps.toList) (show Str.join ⟨#[c]⟩ (x::x'::r)=y from e)
  rw [nQ] at e'
  exact absurd (by rw [<-e'];simp) (hy y Z0)
 |x::x'::r,y::y'::s,_,_,hx,hy,e=>by
  have e':=ZJ (fun z=>z.cps.toList) e
  rw [nQ,nQ] at e'
  obtain⟨e1,e2⟩:=xc9 c _ _ _ _ (hx x Z0) (hy y Z0) e'
  have ih:=yd7 (x'::r) (y'::s) (by simp) (by simp) (fun p hp=>hx p (Z1 _ hp)) (fun p hp=>hy p (Z1 _ hp)) (sX e2)
  rw [sX e1,ih]
end
structure Gm where
 kd:Nat
 n:Int
 full:List (List Pc)
 parts:List Pc
def kdS:Nat->String
 |0=>"top"
 |1=>"group"
 |2=>"hang"
 |_=>"either"
def gmD(f:Gm):D:= .lst true [.str (kdS f.kd),.int f.n,.lst true (rowsD f.full),.lst true (pcsD f.parts)]
def bV:List Gm->List D
 |[]=>[]
 |f::fs=>bV fs++[gmD f]
theorem pO:∀fs,(bV fs).length=fs.length
 |[]=>rfl
 |f::fs=>by rw [bV,Z5,pO fs];rfl
def vL:List Pc:=[.leaf (.word "or")]
def qI(f:Gm):List (List Pc):=if f.full=[] then [f.parts,vL] else f.full++[f.parts]
def gJ(f:Gm):Pc:=match f.kd with
 |1=> .group f.parts
 |2=> .hang f.n f.parts
 |_=> .either (qI f)
def lH(g:Gm)(p:Pc):Gm:={g with parts:=g.parts++[p]}
mutual
def okP:Pc->Prop
 | .leaf l=>fR l
 | .group r=>okR r
 | .hang n r=>(0<=n/\n<=12)/\okR r
 | .either rs=>(2<=rs.length/\rs.length<=4)/\okRs rs
def okR:List Pc->Prop
 |[]=>True
 |p::r=>okP p/\okR r
def okRs:List (List Pc)->Prop
 |[]=>True
 |r::rs=>okR r/\okRs rs
end
theorem zd0:∀a b:List Pc,okR (a++b)↔okR a/\okR b
 |[],b=>by simp [okR]
 |p::a,b=>by rw [ZS,okR,okR,zd0 a b,and_assoc]
theorem zh1:∀a b:List (List Pc),okRs (a++b)↔okRs a/\okRs b
 |[],b=>by simp [okRs]
 |p::a,b=>by rw [ZS,okRs,okRs,zh1 a b,and_assoc]
theorem ym3(p:Pc):okR [p]↔okP p:=by simp [okR]
theorem yd8(r:List Pc):okRs [r]↔okR r:=by simp [okRs]
theorem tZ:∀a b:List (List Pc),toksMore (a++b)=toksMore a++toksMore b
 |[],b=>rfl
 |r::a,b=>by
  show Tk.orr::(toksR r++toksMore (a++b))=(Tk.orr::(toksR r++toksMore a))++toksMore b
  rw [tZ a b];simp
def wF(f:Gm):Nat:=(toksMore f.full).length+(toksR f.parts).length+4
def wG:List Gm->Nat
 |[]=>0
 |f::fs=>wF f+wG fs
def wj4(f:Gm):Prop:=okRs f.full/\okR f.parts/\f.full.length<=3/\(f.kd≠3->f.full=[])/\0<=f.n/\f.n<=12
def yh2:List Gm->Prop
 |[]=>False
 |[f]=>f.kd=0
 |f::g::fs=>(1<=f.kd/\f.kd<=3)/\yh2 (g::fs)
def xs6(m:Nat):List Gm->Prop
 |[]=>True
 |f::fs=>depR f.parts+fs.length<=m/\depRs f.full+fs.length<=m/\xs6 m fs
structure GInv(nest k:Nat)(fs:List Gm):Prop where
 len:fs.length<=nest+1
 wt:wG fs<=4*k+4
 each:∀f∈fs,wj4 f
 kinds:yh2 fs
 deep:xs6 nest fs
theorem ys9{f:Gm}(h:f.kd≠3->f.full=[])(hk:1<=f.kd/\f.kd<=3):(dE (gJ f)).length<=wF f:=by
 have e:f.kd=1\/f.kd=2\/f.kd=3:=by omega
 unfold wF gJ
 rcases e with e|e|e
 ·rw [e];show(Tk.opn::(toksR f.parts++[.cls])).length<=_;rw [Z6,Z5];simp;omega
 ·rw [e];show(Tk.hng f.n::(toksR f.parts++[.bck])).length<=_;rw [Z6,Z5];simp;omega
 ·rw [e]
  show(Tk.eit::(toksRows (qI f)++[.don])).length<=_
  rw [Z6,Z5]
  unfold qI
  cases hf:f.full with
  |nil=>
   rw [if_pos rfl]
   show(toksR f.parts++(Tk.orr::(toksR vL++[]))).length+1+1<=_
   simp [vL,toksR,dE,toksMore]
  |cons r rs=>
   rw [if_neg (by simp)]
   show(toksR r++toksMore (rs++[f.parts])).length+1+1<=(Tk.orr::(toksR r++toksMore rs)).length+_+4
   rw [tZ]
   simp [toksMore];omega
theorem xm3{f:Gm}(h:wj4 f)(hk:1<=f.kd/\f.kd<=3):okP (gJ f):=by
 obtain⟨h1,h2,h3,h4,h5,h6⟩:=h
 have e:f.kd=1\/f.kd=2\/f.kd=3:=by omega
 unfold gJ
 rcases e with e|e|e
 ·rw [e];exact h2
 ·rw [e];exact⟨⟨h5,h6⟩,h2⟩
 ·rw [e]
  show(2<=(qI f).length/\(qI f).length<=4)/\okRs (qI f)
  unfold qI
  by_cases c:f.full=[]
  ·rw [if_pos c]
   refine⟨⟨by simp,by simp⟩,h2,?_,trivial⟩
   exact⟨⟨by decide+kernel,by decide+kernel,by decide+kernel⟩,trivial⟩
  ·rw [if_neg c]
   have hp:1<=f.full.length:=by cases hf:f.full with|nil=>exact absurd hf c|cons a l=>simp
   refine⟨⟨by rw [Z5];simp;omega,by rw [Z5];simp;omega⟩,?_⟩
   rw [zh1,yd8];exact⟨h1,h2⟩
theorem xd0{f:Gm}{m k:Nat}(h1:depR f.parts+(k+1)<=m)(h2:depRs f.full+(k+1)<=m):eV (gJ f)+k<=m:=by
 unfold gJ
 split
 ·show depR f.parts+1+k<=m;omega
 ·show depR f.parts+1+k<=m;omega
 ·show depRs (qI f)+1+k<=m
  unfold qI
  split
  ·show max (depR f.parts) (max (depR vL) 0)+1+k<=m
   have:depR vL=0:=rfl
   omega
  ·rw [xF];omega
theorem GInv.leaf{nest k:Nat}{f:Gm}{fs:List Gm}{l:Leaf}(h:GInv nest k (f::fs))(hl:fR l):GInv nest (k+1) (lH f (.leaf l)::fs):=by
 obtain⟨h1,h2,h3,h4,h5⟩:=h
 have hf:=h3 f Z0
 refine⟨h1,?_,?_,?_,?_⟩
 ·have h2':wF f+wG fs<=4*k+4:=h2
  show(toksMore f.full).length+(toksR (f.parts++[.leaf l])).length+4+wG fs<=_
  rw [oJ,Z5]
  unfold wF at h2'
  show _+(_+1)+4+_<=_
  omega
 ·intro x hx
  rcases Z3.mp hx with rfl|hx
  ·obtain⟨a1,a2,a3,a4,a5⟩:=hf
   exact⟨a1,(zd0 _ _).mpr ⟨a2,(ym3 _).mpr hl⟩,a3,a4,a5⟩
  ·exact h3 x (Z1 _ hx)
 ·cases fs with
  |nil=>exact h4
  |cons g fs=>exact⟨h4.1,h4.2⟩
 ·refine⟨?_,h5.2.1,h5.2.2⟩
  show depR (f.parts++[.leaf l])+fs.length<=nest
  rw [zP]
  have:=h5.1
  show max _ 0+_<=_
  omega
theorem GInv.opener{nest k:Nat}{fs:List Gm}{kd:Nat}{n:Int}(h:GInv nest k fs)(hk:1<=kd/\kd<=3)(hn:0<=n/\n<=12)(hl:fs.length<=nest):GInv nest (k+1) (⟨kd,n,[],[]⟩::fs):=by
 obtain⟨h1,h2,h3,h4,h5⟩:=h
 refine⟨by simp;omega,?_,?_,?_,?_⟩
 ·show 0+0+4+wG fs<=_;omega
 ·intro x hx
  rcases Z3.mp hx with rfl|hx
  ·exact⟨trivial,trivial,ZK _,fun _=>rfl,hn⟩
  ·exact h3 x hx
 ·cases fs with
  |nil=>exact h4.elim
  |cons g fs=>exact⟨hk,h4⟩
 ·exact⟨by show 0+_<=_;omega,by show 0+_<=_;omega,h5⟩
theorem GInv.orr{nest k:Nat}{f:Gm}{fs:List Gm}(h:GInv nest k (f::fs))(hf3:f.full.length<3)(hk:f.kd=3):GInv nest (k+1) ({f with full:=f.full++[f.parts],parts:=[]}::fs):=by
 obtain⟨h1,h2,h3,h4,h5⟩:=h
 have hf:=h3 f Z0
 refine⟨h1,?_,?_,?_,?_⟩
 ·have h2':wF f+wG fs<=4*k+4:=h2
  show(toksMore (f.full++[f.parts])).length+0+4+wG fs<=_
  rw [tZ,Z5]
  unfold wF at h2'
  simp [toksMore];omega
 ·intro x hx
  rcases Z3.mp hx with rfl|hx
  ·obtain⟨a1,a2,a3,a4,a5⟩:=hf
   exact⟨(zh1 _ _).mpr ⟨a1,(yd8 _).mpr a2⟩,trivial,by show(f.full++[f.parts]).length<=3;rw [Z5];simp;omega,fun z=>absurd hk z,a5⟩
  ·exact h3 x (Z1 _ hx)
 ·cases fs with
  |nil=>exact h4
  |cons g fs=>exact⟨h4.1,h4.2⟩
 ·refine⟨?_,?_,h5.2.2⟩
  ·show 0+_<=_
   have:=h5.1;omega
  ·show depRs (f.full++[f.parts])+fs.length<=nest
   rw [xF]
   have a1:=h5.1;have a2:=h5.2.1
   omega
theorem GInv.shut{nest k:Nat}{f g:Gm}{fs:List Gm}(h:GInv nest k (f::g::fs)):GInv nest k (lH g (gJ f)::fs):=by
 obtain⟨h1,h2,h3,h4,h5⟩:=h
 have hf:=h3 f Z0
 have hg:=h3 g (Z1 _ Z0)
 have hk:=h4.1
 refine⟨by simp at h1|-;omega,?_,?_,?_,?_⟩
 ·have h2':wF f+(wF g+wG fs)<=4*k+4:=h2
  have t:=ys9 hf.2.2.2.1 hk
  show(toksMore g.full).length+(toksR (g.parts++[gJ f])).length+4+wG fs<=_
  rw [oJ,Z5,xb8]
  unfold wF at h2' t
  omega
 ·intro x hx
  rcases Z3.mp hx with rfl|hx
  ·obtain⟨a1,a2,a3,a4,a5⟩:=hg
   exact⟨a1,(zd0 _ _).mpr ⟨a2,(ym3 _).mpr (xm3 hf hk)⟩,a3,a4,a5⟩
  ·exact h3 x (Z1 _ (Z1 _ hx))
 ·cases fs with
  |nil=>exact h4.2
  |cons g' fs=>exact⟨h4.2.1,h4.2.2⟩
 ·obtain⟨d1,d2,d3,d4,d5⟩:=h5
  refine⟨?_,d4,d5⟩
  show depR (g.parts++[gJ f])+fs.length<=nest
  rw [zP]
  have:=xd0 (f:=f) (m:=nest) (k:=fs.length) d1 d2
  omega
theorem GInv.more{nest k k':Nat}{fs:List Gm}(h:GInv nest k fs)(hk:k<=k'):GInv nest k' fs:=⟨h.len,by have:=h.wt;omega,h.each,h.kinds,h.deep⟩
theorem xd1:∀{fs:List Gm} {f:Gm},f∈fs->wF f<=wG fs
 |[],_,h=>by simp at h
 |g::fs,f,h=>by
  show wF f<=wF g+wG fs
  rcases Z3.mp h with rfl|h
  ·omega
  ·have:=xd1 h;omega
theorem yt0(p:Pc):1<=(dE p).length:=by cases p<;>simp [dE]
theorem zk4:∀r:List Pc,r.length<=(toksR r).length
 |[]=>Zb _
 |p::r=>by
  show r.length+1<=(dE p++toksR r).length
  rw [Z5]
  have:=zk4 r;have:=yt0 p;omega
theorem GInv.parts{nest k:Nat}{fs:List Gm}{f:Gm}(h:GInv nest k fs)(hf:f∈fs):f.parts.length<=4*k+4:=by
 have h1:=xd1 hf;have h2:=h.wt;have h3:=zk4 f.parts
 unfold wF at h1;omega
theorem yt1:("\n":Str)=⟨#[10]⟩:=by decide+kernel
theorem xr4:(" ":Str)=⟨#[32]⟩:=by decide+kernel
theorem zh2{x y:Str}(h:x.cps.toList=y.cps.toList):x=y:=by
 cases x;cases y
 simp only at h
 rw [Xv.mp h]
theorem pP(x:Str):x.length=x.cps.toList.length:=by simp [Str.length]
theorem zu5:∀(n:Nat) (a b:Array Nat),((List.replicate n a).foldl (·++·) b).toList=b.toList++(List.replicate n a.toList).flatten
 |0,a,b=>by simp
 |n+1,a,b=>by
  rw [Yc,List.foldl_cons,zu5 n a (b++a),Yc,Yz]
  simp
theorem xK(n:Int):(Txt.mul " " n).cps.toList=List.replicate n.toNat 32:=by
 rw [xr4]
 unfold Txt.mul
 by_cases h:n<1
 ·rw [if_pos h,show n.toNat=0 by omega];rfl
 ·rw [if_neg h]
  by_cases h1:n=1
  ·subst h1;rfl
  ·rw [if_neg]
   ·show((List.replicate n.toNat #[32]).foldl (·++·) #[]).toList=_
    rw [zu5]
    simp
   ·simp [h1,Str.length]
theorem nV(n:Int):(Txt.mul " " n).length=n.toNat:=by rw [pP,xK,X5]
theorem zk5(n:Int):(10:Nat)∉(Txt.mul " " n).cps.toList:=by rw [xK];simp
def col(t:Str):Nat:=(t.cps.toList.reverse.takeWhile (· !=10)).length
theorem xd2{l:List Nat}(h:(10:Nat)∉l):∀a∈l,(a !=10)=true:=fun a ha=>by
 simp only [bne_iff_ne,ne_eq]
 intro e;subst e;exact h ha
theorem ym4{t w:Str}(h:(10:Nat)∉w.cps.toList):col (t++w)=col t+w.length:=by
 unfold col
 rw [cL,Xf,XE (xd2 (by simpa using h)),Z5,Xg,pP]
 omega
theorem xd3{t w:Str}(h:(10:Nat)∉w.cps.toList):col (t++((⟨#[10]⟩:Str)++w))=w.length:=by
 unfold col
 rw [cL,cL,Xf,Xf,Zq,XE (xd2 (by simpa using h)),Z5,Xg,pP]
 simp
theorem wf2(t:Str):col t<=t.length:=by
 unfold col
 rw [pP,<-Xg (as:=t.cps.toList)]
 exact(List.takeWhile_sublist _).length_le
theorem wl6{t:Str}{i:Nat}:StrLaws.At t ⟨#[10]⟩ t.length i↔t.cps.toList[i]? =some 10:=by
 unfold StrLaws.At Builtin.Str.subAt
 show i+1<=t.length/\(t.cps.extract i (i+1)== #[10])=true↔_
 rw [YL,<-Xv]
 have e:(t.cps.extract i (i+1)).toList=(t.cps.toList.drop i).take 1:=by simp [Array.toList_extract,List.extract]
 rw [e,pP]
 constructor
 ·intro ⟨h1,h2⟩
  rw [Zm (by omega)]
  rw [ZX (by omega)] at h2
  simpa using h2
 ·intro h
  obtain⟨hi,h2⟩:=Z4.mp h
  refine⟨by omega,?_⟩
  rw [ZX hi,h2]
  rfl
def nlw(m:Int):Str:=(⟨#[10]⟩:Str)++Txt.mul " " m
def wr(b:Bool)(m:Int)(k:Nat):Leaf->Option Str
 | .word x=>some x
 | .gap x=>if b then some (nlw m) else some x
 | .stop c=>if (k:Int)<=c then some (Txt.mul " " (c-k)) else if b then some (nlw c) else none
 | .fin=>if b then some (nlw m) else none
def Wr(w:Str):Prop:=(10:Nat)∉w.cps.toList\/∃m:Int,w=nlw m
theorem xx7{x:Str}(h:yg7 x):(10:Nat)∉x.cps.toList:=fun hm=>by
 have:=List.all_eq_true.mp h.2.2 _ hm
 simp [vE] at this
theorem wf3{x:Str}(h:x=""\/x=" "):(10:Nat)∉x.cps.toList:=by
 rcases h with rfl|rfl
 ·simp [show("":Str)=⟨#[]⟩ from by decide+kernel]
 ·simp [xr4]
theorem zk6{b:Bool}{m:Int}{k:Nat}{l:Leaf}{w:Str}(hl:fR l)(h0:0<=m)(h1:m<=200)(h:wr b m k l=some w):Wr w/\w.length<=201:=by
 have nl:∀c:Int,0<=c->c<=200->Wr (nlw c)/\(nlw c).length<=201:=fun c c0 c1=>⟨.inr ⟨c,rfl⟩,by unfold nlw;rw [eG,nV];show 1+_<=_;omega⟩
 cases l with
 |word x=>cases h;exact⟨.inl (xx7 hl),by have:=hl.2.1;omega⟩
 | gap x=>
  cases b with
  |true=>cases h;exact nl m h0 h1
  |false=>
   have e:x=w:=by simpa [wr] using h
   subst e
   have hl':x=""\/x=" ":=hl
   refine⟨.inl (wf3 hl'),?_⟩
   rcases hl' with e|e<;>subst e
   ·show(0:Nat)<=201;decide
   ·show(1:Nat)<=201;decide
 | stop c=>
  have hc:0<=c/\c<=40:=hl
  change (if (k:Int)<=c then some (Txt.mul " " (c-k)) else if b=true then some (nlw c) else none)=some w at h
  by_cases hk:(k:Int)<=c
  ·rw [if_pos hk] at h;cases h
   exact⟨.inl (zk5 _),by rw [nV];omega⟩
  ·rw [if_neg hk] at h
   cases b with
   |true=>cases h;exact nl c hc.1 (by omega)
   |false=>cases h
 |fin=>
  cases b with
  |true=>cases h;exact nl m h0 h1
  |false=>cases h
mutual
def cS:Bool->Int->Pc->List Int->Str->Option (List Int×Str)
 |b,m,.leaf l,cs,t=>(wr b m (col t) l).map fun w=>(cs,t++w)
 | b,m,.group r,cs,t=>if b=true then(match cs with
   |[]=>none
   |c::cs=>if c=0 then setR false m r cs t else if c=1 then setR true m r cs t else none) else setR false m r cs t
 |b,m,.hang n r,cs,t=>setR b (m+n) r cs t
 | b,m,.either rs,cs,t=>match cs with
   |[]=>none
   |c::cs=>if 0<=c then setAt b m rs c.toNat cs t else none
def setR:Bool->Int->List Pc->List Int->Str->Option (List Int×Str)
 |_,_,[],cs,t=>some (cs,t)
 |b,m,p::r,cs,t=>(cS b m p cs t).bind fun s=>setR b m r s.1 s.2
def setAt:Bool->Int->List (List Pc)->Nat->List Int->Str->Option (List Int×Str)
 |_,_,[],_,_,_=>none
 |b,m,r::_,0,cs,t=>setR b m r cs t
 |b,m,_::rs,i+1,cs,t=>setAt b m rs i cs t
end
theorem uW:∀{rs:List (List Pc)} {i:Nat} {b:Bool} {m:Int} {cs:List Int} {t:Str} {r:List Pc},rs[i]? =some r->setAt b m rs i cs t=setR b m r cs t
 |[],i,_,_,_,_,_,h=>by simp at h
 |q::rs,0,_,_,_,_,_,h=>by simp at h;subst h;rw [setAt]
 |q::rs,i+1,_,_,_,_,_,h=>by rw [setAt];exact uW (by simpa using h)
theorem xL:∀{rs:List (List Pc)} {i:Nat} {b:Bool} {m:Int} {cs:List Int} {t:Str},rs[i]? =none->setAt b m rs i cs t=none
 |[],i,_,_,_,_,h=>by rw [setAt]
 |q::rs,0,_,_,_,_,h=>by simp at h
 |q::rs,i+1,_,_,_,_,h=>by rw [setAt];exact xL (by simpa using h)
mutual
theorem uX:∀{p:Pc} {b:Bool} {m:Int} {cs cs':List Int} {t t':Str} (x:List Int),cS b m p cs t=some (cs',t')->cS b m p (cs++x) t=some (cs'++x,t')
 | .leaf l,b,m,cs,cs',t,t',x,h=>by
  rw [cS] at h|-
  cases e:wr b m (col t) l with
  |none=>rw [e] at h;cases h
  |some w=>rw [e] at h;cases h;rfl
 | .group r,b,m,cs,cs',t,t',x,h=>by
  rw [cS.eq_def] at h|-
  simp only at h|-
  cases b with
  |false=>simp only [ZQ,Yy] at h|-;exact setR_more x h
  | true=>
   cases cs with
   |nil=>simp at h
   | cons c cs=>
    simp only [ZW,ZS] at h|-
    by_cases c0:c=0
    ·simp only [c0,ZW] at h|-;exact setR_more x h
    ·by_cases c1:c=1
     ·simp only [c1,ZW] at h|-;exact setR_more x h
     ·simp [c0,c1] at h
 | .hang n r,b,m,cs,cs',t,t',x,h=>by rw [cS] at h|-;exact setR_more x h
 | .either rs,b,m,cs,cs',t,t',x,h=>by
  rw [cS.eq_def] at h|-
  cases cs with
  |nil=>cases h
  |cons c cs=>
   simp only [ZS] at h|-
   by_cases c0:0<=c
   ·simp only [c0,ZW] at h|-;exact setAt_more x h
   ·simp [c0] at h
theorem setR_more:∀{r:List Pc} {b:Bool} {m:Int} {cs cs':List Int} {t t':Str} (x:List Int),setR b m r cs t=some (cs',t')->setR b m r (cs++x) t=some (cs'++x,t')
 |[],b,m,cs,cs',t,t',x,h=>by rw [setR] at h|-;cases h;rfl
 | p::r,b,m,cs,cs',t,t',x,h=>by
  rw [setR] at h|-
  cases e:cS b m p cs t with
  |none=>rw [e] at h;cases h
  |some s=>
   obtain⟨c1,t1⟩:=s
   rw [e] at h
   rw [uX x e]
   exact setR_more x h
theorem setAt_more:∀{rs:List (List Pc)} {i:Nat} {b:Bool} {m:Int} {cs cs':List Int} {t t':Str} (x:List Int),setAt b m rs i cs t=some (cs',t')->setAt b m rs i (cs++x) t=some (cs'++x,t')
 |[],i,b,m,cs,cs',t,t',x,h=>by rw [setAt] at h;cases h
 |r::rs,0,b,m,cs,cs',t,t',x,h=>by rw [setAt] at h|-;exact setR_more x h
 |r::rs,i+1,b,m,cs,cs',t,t',x,h=>by rw [setAt] at h|-;exact setAt_more x h
end
abbrev nsP:List Str:=["broken","margin"]
def aL(b:Bool)(m:Int):D:= .obj false "Place" nsP [.bl b,.int m]
abbrev iJ:tz7:=gE 3 0 (bR [true,false,false]) zB
theorem yt2(b:Bool)(m:Int):iJ [.obj true "Place" [] [],.bl b,.int m]=some (.non,[.obj true "Place" nsP [.bl b,.int m],.bl b,.int m]):=by
 kernel_rfl
abbrev zb7:tz6:=gP 0 0 (uI iJ)
abbrev kX:tz6:=gP 1 0 vF
def nD:Pc->Bool
 | .leaf _=>false
 |_=>true
theorem zh3(p:Pc):kX [pcD p]=some (.bl (nD p)):=by
 cases p with
 |leaf l=>cases l<;>kernel_rfl
 |_=>kernel_rfl
abbrev mF:tz6:=gP 2 0 rW
def cT(b:Bool):Pc->Bool
 | .either _=>true
 | .group _=>b
 |_=>false
theorem yd9(p:Pc)(b:Bool)(m:Int)(hp:nD p=true):mF [pcD p,aL b m]=some (.bl (cT b p)):=by
 cases p with
 |leaf l=>cases hp
 |group r=>cases b<;>kernel_rfl
 |_=>kernel_rfl
def cK(b:Bool)(m:Int):Pc->List (List Pc×Bool×Int)
 | .leaf _=>[]
 | .group r=>if b=true then [(r,false,m),(r,true,m)] else [(r,false,m)]
 | .hang n r=>[(r,b,m+n)]
 | .either rs=>rs.map fun r=>(r,b,m)
def eA(x:List Pc×Bool×Int):D:= .tup [.tup (pcsD x.1),aL x.2.1 x.2.2]
abbrev vM:tz6:=gP 2 2 (lY iJ)
theorem qU(b:Bool)(m:Int):(aL b m).imm=true:=rfl
theorem zd1(x:List Pc×Bool×Int):(eA x).imm=true:=by
 show(D.imm (.tup (pcsD x.1))&&(D.imm (aL x.2.1 x.2.2)&&D.imms []))=true
 rw [show D.imm (.tup (pcsD x.1))=D.imms (pcsD x.1) from rfl,pcs_imm];rfl
theorem zu6(b:Bool)(m:Int):∀(rs:List (List Pc)) (x:Option D),eZ [x,some (aL b m)] fK (cA (aA (aX (aB 0)) (aA (aX (aB 1)) aE))) (rowsD rs)=some ((rs.map fun r=>(r,b,m)).map eA)
 |[],_=>rfl
 | r::rs,x=>by
  have ih:=zu6 b m rs x
  have hi:=qU b m
  have hp:=pcs_imm r
  show eZ _ _ _ (.tup (pcsD r)::rowsD rs)=_
  rw [eZ]
  show(fK [some (.tup (pcsD r)),some (aL b m)]).bind _=_
  rw [Z8,Z8]
  have e:cA (aA (aX (aB 0)) (aA (aX (aB 1)) aE)) [some (.tup (pcsD r)),some (aL b m)]=some (eA (r,b,m)):=by
   unfold eA
   generalize aL b m=q at hi|-
   simp! [dW,dIn,inB,sJ,D.flat,D.flats,inV,eqV,cM,cU,vS,fOr,mX,dP,jN,hp,hi]
  show((cA (aA (aX (aB 0)) (aA (aX (aB 1)) aE)) [some (.tup (pcsD r)),some (aL b m)]).bind _)=_
  rw [e,Z2,ih];rfl
def ze1:Pc->Nat
 | .either rs=>rs.length
 |_=>0
theorem kd2{p:PSt}{k w:String}{b:Bool}(hp:p[2]? =some (some (.str k)))(h:decide (k=w)=b):fB (f2 dEq (aB 2) (fC (.str w))) p=some b:=by
 refine dR (aR (lA hp) rfl ?_)
 show some (D.bl (decide ((k:Str)=(w:Str))))=_
 rw [<-h]
 congr 2
 exact YY.mpr (by rw [fZ])
theorem zh4{p:PSt}{f g:tz2}{b:Bool}{m:Int}(h1:f p=some (.bl b))(h2:g p=some (.int m)):mX (eU "Place" (bY [.im f,.im g]) iJ) p=some (aL b m):=by
 have q:=yt2 b m
 have e:eU "Place" (bY [.im f,.im g]) iJ p=some (.obj true "Place" nsP [.bl b,.int m]):=by
  unfold eU
  rw [pN h1 rfl (pN h2 rfl pM),Z2,q];rfl
 unfold mX
 rw [e];rfl
theorem ye0:zb7 []=some (aL true 0):=lV (p:=[]) rfl (cE (zh4 rfl rfl))
theorem zq0{p:PSt}{f g:tz2}{r:List Pc}{b:Bool}{m:Int}(h1:f p=some (.tup (pcsD r)))(h2:g p=some (aL b m)):cA (aA f (aA g aE)) p=some (eA (r,b,m)):=by
 unfold cA
 rw [aD h1 (aD h2 rfl)]
 refine(if_pos ?_).trans rfl
 have:=zd1 (r,b,m)
 rw [show D.imms [.tup (pcsD r),aL b m]=true from this];rfl
theorem ym5(p:Pc)(b:Bool)(m:Int)(hp:nD p=true)(hl:ze1 p<=1000):vM [pcD p,aL b m]=some (.lst true ((cK b m p).map eA)):=by
 show gP 2 2 (lY iJ) _=_
 cases p with
 |leaf l=>cases hp
 | group r=>
  have s1:aV 2 (aI (aX (f2 dIx (aB 0) (fC (.int 0))))) [some (pcD (.group r)),some (aL b m),none,none]=some (.nx,[some (pcD (.group r)),some (aL b m),some (.str "group"),none]):=bD (bX (aR rfl rfl (kF _ _)) rfl)
  have s4:aV 3 (aI (cA (aA (aX (f2 dIx (aB 0) (fC (.int 1)))) (aA (mX (eU "Place" (bY [.im (fC (.bl false)),.im (cB "Place" "margin" (aB 1))]) iJ)) aE)))) [some (pcD (.group r)),some (aL b m),some (.str "group"),none]=some (.nx,[some (pcD (.group r)),some (aL b m),some (.str "group"),some (eA (r,false,m))]):=bD (zq0 (bX (aR rfl rfl (jM _ _ _)) (pcs_imm r)) (zh4 rfl (by kernel_rfl)))
  have w3:aX (aB 3) [some (pcD (.group r)),some (aL b m),some (.str "group"),some (eA (r,false,m))]=some (eA (r,false,m)):=bX rfl (zd1 _)
  have br:fT (cB "Place" "broken" (aB 1)) [some (pcD (.group r)),some (aL b m),some (.str "group"),some (eA (r,false,m))]=some b:=nF (by kernel_rfl)
  suffices h:∃q,lY iJ [some (pcD (.group r)),some (aL b m),none,none]=some (.ret (.lst true ((cK b m (.group r)).map eA)),q) from by
   obtain⟨q,hq⟩:=h;exact lV rfl hq
  unfold lY
  rw [aW s1,aW (aZ (kd2 rfl (by decide))),aW (aZ (kd2 rfl (by decide))),aW s4]
  cases b with
  |true=>exact⟨_,fP ((cG br).trans (cE (iN (aD w3 (aD (zq0 (bX (aR rfl rfl (jM _ _ _)) (pcs_imm r)) (bX rfl rfl)) rfl)) (Z9 rfl))))⟩
  |false=>exact⟨_,(aW (aZ br)).trans (cE (iN (aD w3 rfl) (Z9 rfl)))⟩
 |hang n r=>
  have s1:aV 2 (aI (aX (f2 dIx (aB 0) (fC (.int 0))))) [some (pcD (.hang n r)),some (aL b m),none,none]=some (.nx,[some (pcD (.hang n r)),some (aL b m),some (.str "hang"),none]):=bD (bX (aR rfl rfl (kF _ _)) rfl)
  refine lV (p:=[some (pcD (.hang n r)),some (aL b m),some (.str "hang"),none]) rfl ?_
  unfold lY
  exact(aW s1).trans (fP ((cG (kd2 rfl (by decide))).trans (cE (iN (aD (zq0 (bX (aR rfl rfl (xm2 _ _ _ _)) (pcs_imm r)) (zh4 (by kernel_rfl) (aR (x:= .int m) (by kernel_rfl) (aR rfl rfl (jM _ _ _)) rfl))) rfl) (Z9 rfl)))))
 | either rs=>
  generalize iJ=G
  have hz:(rowsD rs).length<=sizeLine:=by rw [lU];exact sz hl
  have e:=zu6 b m rs none
  have e2:fQ [none,some 1] (dP (f2 dIx (aB 0) (fC (.int 1)))) fK (cA (aA (aX (aB 0)) (aA (aX (aB 1)) aE))) [some (pcD (.either rs)),some (aL b m),some (.str "either"),none]=some (.lst true ((cK b m (.either rs)).map eA)):=by
   unfold fQ
   have e3:dP (f2 dIx (aB 0) (fC (.int 1))) [some (pcD (.either rs)),some (aL b m),some (.str "either"),none]=some (rowsD rs):=by simp! [dW,dIn,inB,sJ,D.flat,D.flats,inV,eqV,cM,cU,vS,fOr,mX,dP,jN,pcD]
   rw [e3,Z2,if_pos hz]
   have e4:eZ (rP [none,some 1] [some (pcD (.either rs)),some (aL b m),some (.str "either"),none]) fK (cA (aA (aX (aB 0)) (aA (aX (aB 1)) aE))) (rowsD rs)=some ((rs.map fun r=>(r,b,m)).map eA):=e
   rw [e4];rfl
  have s1:aV 2 (aI (aX (f2 dIx (aB 0) (fC (.int 0))))) [some (pcD (.either rs)),some (aL b m),none,none]=some (.nx,[some (pcD (.either rs)),some (aL b m),some (.str "either"),none]):=by simp! [dW,dIn,inB,sJ,D.flat,D.flats,inV,eqV,cM,cU,vS,fOr,mX,dP,jN,pcD]
  have s2:∀F:tz1,fIf (aU (fB (f2 dEq (aB 2) (fC (.str "hang"))))) F bC [some (pcD (.either rs)),some (aL b m),some (.str "either"),none]=some (.nx,[some (pcD (.either rs)),some (aL b m),some (.str "either"),none]):=fun F=>by simp! [dW,dIn,inB,sJ,D.flat,D.flats,inV,eqV,cM,cU,vS,fOr,mX,dP,jN]
  have s3:∀F:tz1,fIf (aU (fB (f2 dEq (aB 2) (fC (.str "either"))))) F bC [some (pcD (.either rs)),some (aL b m),some (.str "either"),none]=F [some (pcD (.either rs)),some (aL b m),some (.str "either"),none]:=fun F=>by simp! [dW,dIn,inB,sJ,D.flat,D.flats,inV,eqV,cM,cU,vS,fOr,mX,dP,jN]
  refine lV rfl ?_ (p:=[some (pcD (.either rs)),some (aL b m),some (.str "either"),none])
  unfold lY
  exact(aW s1).trans ((aW (s2 _)).trans (fP ((s3 _).trans (cE e2))))
abbrev gNl:tz6:=gP 1 0 yW
theorem xr5(m:Int)(h0: -1000<=m)(h1:m<=1000):nR (.str " ") (.int m)=some (.str (Txt.mul " " m)):=by
 rw [nR,if_pos]
 simp only [Zy,ZT]
 exact⟨⟨by decide+kernel,by omega⟩,by omega⟩
theorem xr6(m:Int)(h0:0<=m)(h1:m<=200):gNl [.int m]=some (.str (nlw m)):=by
 have q:=xr5 m (by omega) (by omega)
 have hl:1+(Txt.mul " " m).length<=sizeLine:=by rw [nV];exact sz (by omega)
 have e:((⟨#[10]⟩:Str)++Txt.mul " " m)=nlw m:=rfl
 have e1:cO (.str "\n") (.str (Txt.mul " " m))=some (.str (nlw m)):=by
  rw [yt1,cO,if_pos (by exact hl)];rfl
 exact lV rfl (cE (aR rfl (aR rfl rfl q) e1))
abbrev pV:tz6:=gP 3 1 (oU gNl)
def wrD:Option Str->D
 |some w=> .str w
 |none=> .non
theorem kd3{p:PSt}{k w:String}{b:Bool}(hp:p[3]? =some (some (.str k)))(h:decide (k=w)=b):fB (f2 dEq (aB 3) (fC (.str w))) p=some b:=by
 refine dR (aR (lA hp) rfl ?_)
 show some (D.bl (decide ((k:Str)=(w:Str))))=_
 rw [<-h]
 congr 2
 exact YY.mpr (by rw [fZ])
theorem zk7(l:Leaf)(b:Bool)(m:Int)(k:Nat)(hl:fR l)(h0:0<=m)(h1:m<=200)(hk:k<=1000000):pV [cN l,aL b m,.int k]=some (wrD (wr b m k l)):=by
 suffices h:∃q,oU gNl [some (cN l),some (aL b m),some (.int k),none]=some (.ret (wrD (wr b m k l)),q) from by
  obtain⟨q,hq⟩:=h;exact lV rfl hq
 have br:∀d x,fT (cB "Place" "broken" (aB 1)) [some d,some (aL b m),some (.int k),x]=some b:=fun d x=>nF (by kernel_rfl)
 have mg:∀d x,aG gNl (aA (cB "Place" "margin" (aB 1)) aE) [some d,some (aL b m),some (.int k),x]=some (.str (nlw m)):=fun d x=>aP (ds:=[.int m]) (aD (by kernel_rfl) rfl) (xr6 m h0 h1)
 have s1:∀(w:String) (ds:List D),aV 3 (aI (aX (f2 dIx (aB 0) (fC (.int 0))))) [some (.tup (.str w::ds)),some (aL b m),some (.int k),none]=some (.nx,[some (.tup (.str w::ds)),some (aL b m),some (.int k),some (.str w)]):=fun w ds=>bD (bX (aR rfl rfl (kF _ _)) rfl)
 unfold oU
 cases l with
 |word x=>exact⟨_,(aW (s1 "word" [.str x])).trans (fP ((cG (kd3 rfl (by decide))).trans (cE (bX (aR rfl rfl (jM _ _ _)) rfl))))⟩
 |gap x=>
  show ∃q,aT _ _ [some (.tup [.str "gap",.str x]),some (aL b m),some (.int k),none]=_
  rw [aW (s1 "gap" [.str x]),aW (aZ (kd3 rfl (by decide)))]
  cases b with
  |false=>exact⟨_,fP ((cG (qT (kd3 rfl (by decide)) (gB (br _ _)))).trans (cE (bX (aR rfl rfl (jM _ _ _)) rfl)))⟩
  |true=>exact⟨_,(aW (aZ (qT (kd3 rfl (by decide)) (gB (br _ _))))).trans ((aW (aZ (qS (kd3 rfl (by decide))))).trans ((aW (aZ (gB (br _ _)))).trans ((aW (aZ (kd3 rfl (by decide)))).trans (cE (mg _ _)))))⟩
 |fin=>
  show ∃q,aT _ _ [some (.tup [.str "end"]),some (aL b m),some (.int k),none]=_
  rw [aW (s1 "end" []),aW (aZ (kd3 rfl (by decide))),aW (aZ (qS (kd3 rfl (by decide)))),aW (aZ (qS (kd3 rfl (by decide))))]
  cases b with
  |false=>exact⟨_,fP ((cG (gB (br _ _))).trans (cE rfl))⟩
  |true=>exact⟨_,(aW (aZ (gB (br _ _)))).trans ((aW (aZ (kd3 rfl (by decide)))).trans (cE (mg _ _)))⟩
 | stop c=>
  have hc:0<=c/\c<=40:=hl
  show ∃q,aT _ _ [some (.tup [.str "stop",.int c]),some (aL b m),some (.int k),none]=_
  have le:fB (f2 dLe (aB 2) (f2 dIx (aB 0) (fC (.int 1)))) [some (.tup [.str "stop",.int c]),some (aL b m),some (.int k),some (.str "stop")]=some (decide ((k:Int)<=c)):=dR (aR rfl (aR rfl rfl (jM _ _ _)) rfl)
  rw [aW (s1 "stop" [.int c]),aW (aZ (kd3 rfl (by decide))),aW (aZ (qS (kd3 rfl (by decide))))]
  by_cases hkc:(k:Int)<=c
  ·rw [Zr hkc] at le
   rw [show wr b m k (.stop c)=some (Txt.mul " " (c-k)) from if_pos hkc]
   exact⟨_,fP ((cG (qT (kd3 rfl (by decide)) le)).trans (cE (aR rfl (aR (aR rfl rfl (jM _ _ _)) rfl rfl) (xr5 (c-k) (by omega) (by omega)))))⟩
  ·rw [Zg hkc] at le
   rw [aW (aZ (qT (kd3 rfl (by decide)) le))]
   cases b with
   |false=>
    rw [show wr false m k (.stop c)=none from(if_neg hkc).trans rfl]
    exact⟨_,fP ((cG (gB (br _ _))).trans (cE rfl))⟩
   |true=>
    rw [show wr true m k (.stop c)=some (nlw c) from(if_neg hkc).trans rfl]
    exact⟨_,(aW (aZ (gB (br _ _)))).trans (fP ((cG (kd3 rfl (by decide))).trans (cE (aP (aD (aR rfl rfl (jM _ _ _)) rfl) (xr6 c hc.1 (by omega))))))⟩
theorem xd4{w:Str}:Txt.startswith w ⟨#[10]⟩=decide (w.cps.toList[0]? =some 10):=by
 rw [YG,ZT,<-wl6 (t:=w) (i:=0)]
 unfold Txt.startswith StrLaws.At
 simp only [Zy,ZT]
abbrev sO:tz6:=gP 1 0 pT
theorem zq1(w:Str):sO [.str w]=some (.bl (decide (w.cps.toList[0]? =some 10))):=by
 rw [<-xd4,<-yt1]
 simp! [pT,qC,zy2]
abbrev pW:tz6:=gP 2 0 (eB sO)
theorem xd5{t w:Str}(hw:Wr w)(hz:w.length<=1000):pW [.int (col t),.str w]=some (.int (col (t++w))):=by
 have q:=zq1 w
 have hz':w.length<=sizeLine:=sz hz
 show gP 2 0 (eB sO) _=_
 rcases hw with h|⟨m,rfl⟩
 ·have e:decide (w.cps.toList[0]? =some 10)=false:=Zg fun h'=>h (ZL h')
  rw [e] at q
  rw [ym4 h]
  generalize sO=G at q|-
  simp! [eB,q,hz']
 ·have e:decide ((nlw m).cps.toList[0]? =some 10)=true:=Zr (by unfold nlw;rw [cL];rfl)
  rw [e] at q
  have e2:col (t++nlw m)=(nlw m).length-1:=by
   unfold nlw
   rw [xd3 (zk5 m),eG];show _=1+_-1;omega
  have e3:1<=(nlw m).length:=by unfold nlw;rw [eG];show 1<=1+_;omega
  rw [e2]
  generalize sO=G at q|-
  generalize nlw m=w at hz' q e3|-
  simp! [eB,q,hz']
  omega
def cat:List Str->Str
 |[]=>⟨#[]⟩
 |x::xs=>x++cat xs
theorem zq2(t:Str):t++(⟨#[]⟩:Str)=t:=zh2 (by rw [cL];simp! [Yr])
theorem ym6(t:Str):(⟨#[]⟩:Str)++t=t:=zh2 (by rw [cL];simp! [Yr])
theorem xx8(a b c:Str):(a++b)++c=a++(b++c):=zh2 (by simp only [cL,Zq])
theorem xM:∀(ps:List Str) (w:Str),cat (ps++[w])=cat ps++w
 |[],w=>by show w++(⟨#[]⟩:Str)=(⟨#[]⟩:Str)++w;rw [zq2,ym6]
 |x::ps,w=>by show x++cat (ps++[w])=(x++cat ps)++w;rw [xM ps w,xx8]
abbrev nsS:List Str:=["choices","used","column","parts"]
def cQ(C:List Int):List D:=C.map .int
theorem xd6(a b:List Int):cQ (a++b)=cQ a++cQ b:=by simp! [cQ]
theorem xd7(a:List Int):(cQ a).length=a.length:=by simp! [cQ]
theorem zk8:∀C:List Int,D.ints (cQ C)=some C
 |[]=>rfl
 |c::C=>by show D.ints (.int c::cQ C)=_;rw [D.ints,zk8 C];rfl
def stD(C:List Int)(u:Nat)(ps:List Str):D:= .obj true "Setter" nsS [.tup (cQ C),.int u,.int (col (cat ps)),.lst true (gV ps)]
theorem jF:∀C,D.imms (cQ C)=true
 |[]=>rfl
 |c::C=>by show(D.imm (.int c)&&D.imms (cQ C))=true;rw [jF C];rfl
abbrev kY:tz7:=gE 3 1 (bR [true,false,false]) (jC pV pW)
theorem xm4{C:List Int}{u:Nat}{ps:List Str}{l:Leaf}{b:Bool}{m:Int}{w:Str}(hl:fR l)(h0:0<=m)(h1:m<=200)(hw:wr b m (col (cat ps)) l=some w)(hp:ps.length<=900)(hc:(cat ps).length<=1000000):
  kY [stD C u ps,cN l,aL b m]=some (.non,[stD C u (ps++[w]),cN l,aL b m]):=by
 obtain⟨hW,hz⟩:=zk6 hl h0 h1 hw
 have q1:=zk7 l b m (col (cat ps)) hl h0 h1 (Zu (wf2 _) hc)
 rw [hw] at q1
 have q2:=xd5 (t:=cat ps) hW (by omega)
 have hi:(gV ps).length<sizeLine:=by rw [xc8];exact sz1 (by omega)
 have es:gV (ps++[w])=gV ps++[.str w]:=by rw [xc7];rfl
 show gE 3 1 _ (jC pV pW) _=_
 unfold stD
 rw [xM,es]
 generalize cN l=dl at q1|-
 generalize aL b m=dp at q1|-
 generalize pV=G1 at q1|-
 generalize pW=G2 at q2|-
 simp only [wrD] at q1
 simp! [jC,q1,q2,hi]
abbrev oZ:tz7:=gE 2 1 (bR [true,false]) jO
theorem pF{α:Type}{xs:List α}{n:Nat}{v:α}(h:xs[n]? =some v):atI xs (n:Int)=some v:=zo1 h
theorem xm5{C:List Int}{u n:Nat}{c:Int}{ps:List Str}(hc:C[u]? =some c)(h0:0<=c)(h1:c<n):oZ [stD C u ps,.int n]=some (.int c,[stD C (u+1) ps,.int n]):=by
 obtain⟨hu,_⟩:=Z4.mp hc
 have hl:(cQ C).length=C.length:=Z7 _
 have e:atI (cQ C) (u:Int)=some (.int c):=pF (by unfold cQ;rw [Zd,hc];rfl)
 have g1:¬((C.length:Int)<=(u:Int)):=by omega
 have g2:¬(c<0):=by omega
 have g3:¬((n:Int)<=c):=by omega
 unfold stD
 simp! [jO,hl,e,g1,g2,g3]
abbrev yI(GR:tz7):tz7:=gE 3 3 (bR [true,false,false]) (iH vM mF oZ GR)
theorem zd2{GR:tz7}{p:Pc}{b:Bool}{m:Int}{C:List Int}{u u1 i:Nat}{ps:List Str}{x:List Pc×Bool×Int}{N:D}(hp:nD p=true)(hn:ze1 p<=1000)(hi:(cK b m p)[i]? =some x)
  (hc:(cT b p=true/\C[u]? =some (i:Int)/\u1=u+1)\/(cT b p=false/\i=0/\u1=u)) (hR:GR [stD C u1 ps,.tup (pcsD x.1),aL x.2.1 x.2.2]=some (.non,[N,.tup (pcsD x.1),aL x.2.1 x.2.2])):
  yI GR [stD C u ps,pcD p,aL b m]=some (.non,[N,pcD p,aL b m]):=by
 have q1:=ym5 p b m hp hn
 have q2:=yd9 p b m hp
 have hil:i<((cK b m p).map eA).length:=by rw [Z7];exact(Z4.mp hi).1
 have e1:atI ((cK b m p).map eA) (i:Int)=some (eA x):=pF (by rw [Zd,hi];rfl)
 have hw:=zd1 x
 have p1:=pcs_imm x.1
 have p2:=qU x.2.1 x.2.2
 generalize hW:(cK b m p).map eA=W at q1 hil e1
 have st1:∀v ps',stD C v ps'= .obj true "Setter" nsS [.tup (cQ C),.int v,.int (col (cat ps')),.lst true (gV ps')]:=fun _ _=>rfl
 have hm:∀v,dZ "Setter" "set_row" GR [.tup (pcsD x.1),aL x.2.1 x.2.2] (stD C v ps)=(GR [stD C v ps,.tup (pcsD x.1),aL x.2.1 x.2.2]).bind fun r=>match r.2 with
   |d'::ds=>if ds.length=2 then some (r.1,d') else none
   |[]=>none:=fun v=>by
  rw [st1]
  show(if (("Setter":Str)="Setter"/\cJ nsS "set_row"=none) then _ else none)=_
  exact if_pos ⟨rfl,by simp! [Yr]⟩
 have hm1:dZ "Setter" "set_row" GR [.tup (pcsD x.1),aL x.2.1 x.2.2] (stD C u1 ps)=some (.non,N):=by rw [hm,hR];rfl
 have body:∀f4:Int,aT (aV 5 (aI (aX (f2 dIx (aB 3) (aB 4))))) (cP (cZ 0 bQ (bY [.im (f2 dIx (aB 5) (fC (.int 0))),.im (f2 dIx (aB 5) (fC (.int 1)))]) (dZ "Setter" "set_row" GR))) [some (stD C u1 ps),some (pcD p),some (aL b m),some (.lst true W),some (.int (i:Int)),none]=some (.nx,[some N,some (pcD p),some (aL b m),some (.lst true W),some (.int (i:Int)),some (eA x)]):=fun _=>by
  have s1:aV 5 (aI (aX (f2 dIx (aB 3) (aB 4)))) [some (stD C u1 ps),some (pcD p),some (aL b m),some (.lst true W),some (.int (i:Int)),none]=some (.nx,[some (stD C u1 ps),some (pcD p),some (aL b m),some (.lst true W),some (.int (i:Int)),some (eA x)]):=by
   refine bD ?_
   simp! [e1,hw]
  refine(aW s1).trans ?_
  unfold eA at*
  generalize aL x.2.1 x.2.2=PX at*
  generalize stD C u1 ps=ST at*
  simp! [p1,p2,hm1]
 show gE 3 3 _ (iH vM mF oZ GR) _=_
 have s1:aV 3 (aI (aG vM (aA (aB 1) (aA (aB 2) aE)))) [some (stD C u ps),some (pcD p),some (aL b m),none,none,none]=some (.nx,[some (stD C u ps),some (pcD p),some (aL b m),some (.lst true W),none,none]):=bD (aP (aD rfl (aD rfl rfl)) q1)
 have s2:aV 4 (aI (fC (.int 0))) [some (stD C u ps),some (pcD p),some (aL b m),some (.lst true W),none,none]=some (.nx,[some (stD C u ps),some (pcD p),some (aL b m),some (.lst true W),some (.int 0),none]):=rfl
 have t1:∀B,cT b p=B->aU (fT (aG mF (aA (aB 1) (aA (aB 2) aE)))) [some (stD C u ps),some (pcD p),some (aL b m),some (.lst true W),some (.int 0),none]=some (B,[some (stD C u ps),some (pcD p),some (aL b m),some (.lst true W),some (.int 0),none]):=fun B hB=>by
  have e:aG mF (aA (aB 1) (aA (aB 2) aE)) [some (stD C u ps),some (pcD p),some (aL b m),some (.lst true W),some (.int 0),none]=some (.bl B):=aP (aD rfl (aD rfl rfl)) (hB▸q2)
  unfold aU fT
  rw [e];rfl
 have s3:fIf (aU (fT (aG mF (aA (aB 1) (aA (aB 2) aE))))) (aV 4 (cZ 0 bQ (bY [.im (aG eI (aA (aB 3) aE))]) (dZ "Setter" "choice_below" oZ))) bC [some (stD C u ps),some (pcD p),some (aL b m),some (.lst true W),some (.int 0),none]=some (.nx,[some (stD C u1 ps),some (pcD p),some (aL b m),some (.lst true W),some (.int (i:Int)),none]):=by
  rcases hc with ⟨hT,hC,rfl⟩|⟨hT,rfl,rfl⟩
  ·refine(ys8 (t1 _ hT)).trans ?_
   have qb:=xm5 (ps:=ps) hC (by omega) (show(i:Int)<(W.length:Nat) by omega)
   have hb:dZ "Setter" "choice_below" oZ [.int (W.length:Nat)] (stD C u ps)=some (.int (i:Int),stD C (u+1) ps):=by
    have e:dZ "Setter" "choice_below" oZ [.int (W.length:Nat)] (stD C u ps)=(oZ [stD C u ps,.int (W.length:Nat)]).bind fun r=>match r.2 with
      |d'::ds=>if ds.length=1 then some (r.1,d') else none
      |[]=>none:=by
     rw [st1]
     show(if (("Setter":Str)="Setter"/\cJ nsS "choice_below"=none) then _ else none)=_
     exact if_pos ⟨rfl,by simp! [Yr]⟩
    rw [e,qb];rfl
   generalize oZ=G at hb|-
   generalize stD C u ps=S0 at hb|-
   generalize stD C (u+1) ps=S1 at hb|-
   generalize pcD p=d1
   generalize aL b m=d2
   simp! [hb]
  ·exact(uV (t1 _ hT)).trans rfl
 have z:=(aW s1).trans ((aW s2).trans ((aW s3).trans (body 0)))
 unfold gE
 refine(if_pos rfl).trans ?_
 have z':iH vM mF oZ GR ([stD C u ps,pcD p,aL b m].map some++List.replicate 3 none)=some (.nx,[some N,some (pcD p),some (aL b m),some (.lst true W),some (.int (i:Int)),some (eA x)]):=z
 rw [z']
 rfl
def yJ(GH GPl:tz7):tz1:=
   (fIf (aU (fT (aG kX (aA (aB 3) aE))))
   (cP (cZ 0 bQ (bY [.im (aB 3),.im (aB 2)]) (dZ "Setter" "set_holder" GH)))
   (cP (cZ 0 bQ (bY [.im (aB 3),.im (aB 2)]) (dZ "Setter" "set_plain" GPl))))
theorem zq3{g:tz7}{m:Str}{C:List Int}{u:Nat}{ps:List Str}{d1 d2 N v:D}(hm:cJ nsS m=none)(h:g [stD C u ps,d1,d2]=some (v,[N,d1,d2])):dZ "Setter" m g [d1,d2] (stD C u ps)=some (v,N):=by
 show(if (("Setter":Str)="Setter"/\cJ nsS m=none) then(g [stD C u ps,d1,d2]).bind _ else none)=_
 rw [if_pos ⟨rfl,hm⟩,h];rfl
theorem zd3{GH:tz7}{C:List Int}{u:Nat}{ps:List Str}{p:Pc}{b:Bool}{m:Int}{R:Option D}{N:D}(hp:nD p=true)(h:GH [stD C u ps,pcD p,aL b m]=some (.non,[N,pcD p,aL b m])):
  yJ GH kY [some (stD C u ps),R,some (aL b m),some (pcD p)]=some (.nx,[some N,R,some (aL b m),some (pcD p)]):=by
 have q:=zh3 p
 rw [hp] at q
 have hm:=zq3 (m:="set_holder") (by simp! [Yr]) h
 have i1:=wJ p
 have i2:=qU b m
 unfold yJ
 generalize kX=G1 at q|-
 generalize kY=G2
 generalize stD C u ps=S at hm|-
 generalize pcD p=d1 at*
 generalize aL b m=d2 at*
 refine(ys8 (p':=[some S,R,some d2,some d1]) (by simp! [q])).trans ?_
 simp! [i1,i2,hm]
theorem xm6{GH:tz7}{C:List Int}{u:Nat}{ps:List Str}{l:Leaf}{b:Bool}{m:Int}{R:Option D}{N:D}(h:kY [stD C u ps,cN l,aL b m]=some (.non,[N,cN l,aL b m])):
  yJ GH kY [some (stD C u ps),R,some (aL b m),some (cN l)]=some (.nx,[some N,R,some (aL b m),some (cN l)]):=by
 have q:kX [cN l]=some (.bl false):=zh3 (.leaf l)
 have hm:=zq3 (m:="set_plain") (by simp! [Yr]) h
 have i1:=yd6 l
 have i2:=qU b m
 unfold yJ
 generalize kX=G1 at q|-
 generalize kY=G2 at hm|-
 generalize stD C u ps=S at hm|-
 generalize cN l=d1 at*
 generalize aL b m=d2 at*
 refine(uV (p':=[some S,R,some d2,some d1]) (by simp! [q])).trans ?_
 simp! [i1,i2,hm]
def sP:Nat->tz7
 |0=>fun _=>none
 |n+1=>gE 3 1 (bR [true,false,false]) (jQ kX (yI (sP n)) kY)
def yK(a l w:Nat):Prop:=a+w<=900/\l+201*w<=1000000
def lM(a a' l l' w:Nat):Prop:=a'<=a+w/\l'<=l+201*w
theorem zd4{a l w w':Nat}(h:yK a l w)(hw:w'<=w):yK a l w':=by unfold yK at*;omega
theorem xN{a a' l l' w w':Nat}(h:lM a a' l l' w)(hw:w<=w'):lM a a' l l' w':=by unfold lM at*;omega
theorem xd8{a a' l l' v w:Nat}(h:yK a l (v+w))(g:lM a a' l l' v):yK a' l' w:=by unfold yK lM at*;omega
theorem yj3{a a1 a2 l l1 l2 v w:Nat}(g:lM a a1 l l1 v)(h:lM a1 a2 l1 l2 w):lM a a2 l l2 (v+w):=by unfold lM at*;omega
theorem xd9{m:Int}{x:Nat}(h:m+12*((x+1:Nat):Int)<=200):m+12*(x:Int)<=200:=by omega
theorem zq4{m:Int}{x y:Nat}(h:m+12*(y:Int)<=200)(hx:x<=y):m+12*(x:Int)<=200:=by omega
theorem wf4{m k:Int}{x:Nat}(h:m+12*((x+1:Nat):Int)<=200)(hk:k<=12):m+k+12*(x:Int)<=200:=by omega
theorem xm7{ps:List Str}{w:Str}(hw:w.length<=201):lM ps.length (ps++[w]).length (cat ps).length (cat (ps++[w])).length 1:=by
 rw [xM,eG,Z5]
 unfold lM
 show _+1<=_/\_
 omega
def yv4(GR:tz7)(r:List Pc):Prop:=∀(b:Bool) (m:Int) (C:List Int) (u:Nat) (ps:List Str) (cs':List Int) (t':Str),0<=m->m+12*depR r<=200->setR b m r (C.drop u) (cat ps)=some (cs',t')->u<=C.length->
 yK ps.length (cat ps).length (toksR r).length->
 ∃u' ps',GR [stD C u ps,.tup (pcsD r),aL b m]=some (.non,[stD C u' ps',.tup (pcsD r),aL b m])/\C.drop u'=cs'/\cat ps'=t'/\u'<=C.length/\lM ps.length ps'.length (cat ps).length (cat ps').length (toksR r).length
theorem zu7{C:List Int}{u:Nat}{c:Int}{cs:List Int}(h:C.drop u=c::cs):C[u]? =some c/\C.drop (u+1)=cs/\u+1<=C.length:=by
 have hu:u<C.length:=by
  rcases Nat.lt_or_ge u C.length with h1|h1
  ·exact h1
  ·rw [List.drop_eq_nil_of_le h1] at h;cases h
 rw [ZX hu] at h
 cases h
 exact⟨Zm hu,rfl,hu⟩
theorem zY:∀{rs:List (List Pc)} {i:Nat} {r:List Pc},rs[i]? =some r->depR r<=depRs rs
 |[],i,_,h=>by simp! [Yr] at h
 |q::rs,0,_,h=>by simp! [Yr] at h;subst h;rw [depRs];omega
 |q::rs,i+1,_,h=>by have:=zY (rs:=rs) (i:=i) (by simpa using h);rw [depRs];omega
theorem zh5:∀{rs:List (List Pc)} {i:Nat} {r:List Pc},okRs rs->rs[i]? =some r->okR r
 |[],i,_,_,h=>by simp! [Yr] at h
 |q::rs,0,_,o,h=>by simp! [Yr] at h;subst h;rw [okRs] at o;exact o.1
 |q::rs,i+1,_,o,h=>by rw [okRs] at o;exact zh5 (rs:=rs) (i:=i) o.2 (by simpa using h)
def zi1(GR:tz7)(p:Pc)(b:Bool)(m:Int)(C:List Int)(u:Nat)(ps:List Str)(cs':List Int)(t':Str)(R:Option D):Prop:=∃u' ps',yJ (yI GR) kY [some (stD C u ps),R,some (aL b m),some (pcD p)]=some (.nx,[some (stD C u' ps'),R,some (aL b m),some (pcD p)])/\C.drop u'=cs'/\cat ps'=t'/\u'<=C.length/\lM ps.length ps'.length (cat ps).length (cat ps').length (dE p).length
theorem xe0{GR:tz7}{p:Pc}{k:Nat}(hG:∀r,depR r<k->okR r->yv4 GR r)(hd:eV p<=k)(ho:okP p){b:Bool}{m:Int}{C:List Int}{u:Nat}{ps:List Str}{cs':List Int}{t':Str}{R:Option D}(h0:0<=m)(h1:m+12*eV p<=200)
  (h:cS b m p (C.drop u) (cat ps)=some (cs',t')) (hu:u<=C.length) (hp:yK ps.length (cat ps).length (dE p).length):zi1 GR p b m C u ps cs' t' R:=by
 cases p with
 | leaf l=>
  rw [cS] at h
  cases e:wr b m (col (cat ps)) l with
  |none=>rw [e] at h;cases h
  |some w=>
   rw [e] at h
   cases h
   have hl:fR l:=ho
   have h1':m<=200:=by rw [eV] at h1;omega
   obtain⟨_,hz⟩:=zk6 hl h0 h1' e
   rw [show(dE (.leaf l)).length=1 from rfl] at hp
   have q:=xm4 (C:=C) (u:=u) hl h0 h1' e (by have:=hp.1;omega) (by have:=hp.2;omega)
   delta zi1
   exact⟨u,ps++[w],xm6 q,rfl,xM ps w,hu,(show(dE (.leaf l)).length=1 from rfl)▸xm7 hz⟩
 | group r=>
  have ho':okR r:=ho
  rw [eV] at hd h1
  have hd':depR r<k:=hd
  have h1':m+12*depR r<=200:=xd9 h1
  have ht:(dE (.group r)).length=(toksR r).length+2:=by simp! [dE]
  rw [ht] at hp
  have hp':=zd4 hp (Y5 _ 2)
  rw [cS.eq_def] at h
  simp only at h
  cases b with
  |false=>
   simp only [ZQ,Yy] at h
   obtain⟨u',ps',q,e1,e2,e3,e4⟩:=hG r hd' ho' false m C u ps cs' t' h0 h1' h hu hp'
   delta zi1
   exact⟨u',ps',zd3 rfl (zd2 (i:=0) (x:=(r,false,m)) rfl (by simp! [ze1]) rfl (.inr ⟨rfl,rfl,rfl⟩) q),e1,e2,e3,ht▸xN e4 (Y5 _ 2)⟩
  | true=>
   cases hC:C.drop u with
   |nil=>rw [hC] at h;simp! [Yr] at h
   | cons c cs=>
    obtain⟨g1,g2,g3⟩:=zu7 hC
    rw [hC] at h
    simp only [ZW] at h
    have go:∀(i:Nat) (bb:Bool),(i:Int)=c->(cK true m (.group r))[i]? =some (r,bb,m)->setR bb m r cs (cat ps)=some (cs',t')->zi1 GR (.group r) true m C u ps cs' t' R:=fun i bb hi hw hs=>by
     rw [<-g2] at hs
     obtain⟨u',ps',q,e1,e2,e3,e4⟩:=hG r hd' ho' bb m C (u+1) ps cs' t' h0 h1' hs g3 hp'
     delta zi1
     exact⟨u',ps',zd3 rfl (zd2 (i:=i) (x:=(r,bb,m)) rfl (by simp! [ze1]) hw (.inl ⟨rfl,by rw [hi];exact g1,rfl⟩) q),e1,e2,e3,ht▸xN e4 (Y5 _ 2)⟩
    by_cases c0:c=0
    ·subst c0
     rw [if_pos rfl] at h
     exact go 0 false rfl rfl h
    ·rw [if_neg c0] at h
     by_cases c1:c=1
     ·subst c1
      rw [if_pos rfl] at h
      exact go 1 true rfl rfl h
     ·rw [if_neg c1] at h;cases h
 |hang n r=>
  have ho':(0<=n/\n<=12)/\okR r:=ho
  rw [eV] at hd h1
  have ht:(dE (.hang n r)).length=(toksR r).length+2:=by simp! [dE]
  rw [ht] at hp
  rw [cS] at h
  obtain⟨u',ps',q,e1,e2,e3,e4⟩:=hG r hd ho'.2 b (m+n) C u ps cs' t' (Int.add_nonneg h0 ho'.1.1) (wf4 h1 ho'.1.2) h hu (zd4 hp (Y5 _ 2))
  delta zi1
  exact⟨u',ps',zd3 rfl (zd2 (i:=0) (x:=(r,b,m+n)) rfl (by simp! [ze1]) rfl (.inr ⟨rfl,rfl,rfl⟩) q),e1,e2,e3,ht▸xN e4 (Y5 _ 2)⟩
 | either rs=>
  have ho':(2<=rs.length/\rs.length<=4)/\okRs rs:=ho
  rw [cS.eq_def] at h
  simp only at h
  cases hC:C.drop u with
  |nil=>rw [hC] at h;cases h
  | cons c cs=>
   obtain⟨g1,g2,g3⟩:=zu7 hC
   rw [hC] at h
   simp only at h
   by_cases c0:0<=c
   ·rw [if_pos c0] at h
    cases hr:rs[c.toNat]? with
    |none=>rw [xL hr] at h;cases h
    |some r=>
     rw [uW hr,<-g2] at h
     have hdr:=zY hr
     have hor:=zh5 ho'.2 hr
     have htr:=zf3 (ZL hr)
     have ht:(dE (.either rs)).length=(toksRows rs).length+2:=by simp! [dE]
     rw [eV] at hd h1
     rw [ht] at hp
     obtain⟨u',ps',q,e1,e2,e3,e4⟩:=hG r (Yf hdr hd) hor b m C (u+1) ps cs' t' h0 (zq4 (xd9 h1) hdr) h g3 (zd4 hp (Zu htr (Y5 _ 2)))
     delta zi1
     refine⟨u',ps',zd3 rfl (zd2 (i:=c.toNat) (x:=(r,b,m)) rfl (Zu ho'.1.2 (by decide)) (by show(rs.map _)[c.toNat]? =_;rw [Zd,hr];rfl) (.inl ⟨rfl,by rw [Int.toNat_of_nonneg c0];exact g1,rfl⟩) q),e1,e2,e3,ht▸xN e4 (Zu htr (Y5 _ 2))⟩
   ·rw [if_neg c0] at h;cases h
theorem ye1{GR:tz7}{k:Nat}(hG:∀r,depR r<k->okR r->yv4 GR r){b:Bool}{m:Int}{C:List Int}{R:Option D}(h0:0<=m):∀(r:List Pc) (u:Nat) (ps:List Str) (cs':List Int) (t':Str) (x:Option D),depR r<=k->okR r->m+12*depR r<=200->
  setR b m r (C.drop u) (cat ps)=some (cs',t')->u<=C.length->yK ps.length (cat ps).length (toksR r).length->
  ∃u' ps' y,dC 3 (yJ (yI GR) kY) (pcsD r) [some (stD C u ps),R,some (aL b m),x]=some (.nx,[some (stD C u' ps'),R,some (aL b m),y])/\C.drop u'=cs'/\cat ps'=t'/\u'<=C.length/\lM ps.length ps'.length (cat ps).length (cat ps').length (toksR r).length
 |[],u,ps,cs',t',x,_,_,_,h,hu,_=>by
  rw [setR] at h;cases h
  exact⟨u,ps,x,rfl,rfl,rfl,hu,⟨Zb _,Zb _⟩⟩
 | p::r,u,ps,cs',t',x,hd,ho,h1,h,hu,hp=>by
  rw [okR] at ho
  rw [depR] at hd h1
  have ht:(toksR (p::r)).length=(dE p).length+(toksR r).length:=by rw [toksR,Z5]
  rw [ht] at hp|-
  rw [setR] at h
  cases e:cS b m p (C.drop u) (cat ps) with
  |none=>rw [e] at h;cases h
  |some s=>
   obtain⟨c1,t1⟩:=s
   rw [e] at h
   obtain⟨u1,ps1,q1,a1,a2,a3,a4⟩:=xe0 (R:=R) hG (Zu (Nat.le_max_left _ _) hd) ho.1 h0 (zq4 h1 (Nat.le_max_left _ _)) e hu (zd4 hp (Y5 _ _))
   have h':setR b m r (C.drop u1) (cat ps1)=some (cs',t'):=by rw [a1,a2];exact h
   obtain⟨u2,ps2,y,q2,b1,b2,b3,b4⟩:=ye1 hG h0 r u1 ps1 cs' t' (some (pcD p)) (Zu (Nat.le_max_right _ _) hd) ho.2 (zq4 h1 (Nat.le_max_right _ _)) h' a3 (xd8 hp a4)
   refine⟨u2,ps2,y,?_,b1,b2,b3,yj3 a4 b4⟩
   show dC 3 _ (pcD p::pcsD r) _=_
   rw [dC]
   show((yJ (yI GR) kY [some (stD C u ps),R,some (aL b m),some (pcD p)]).bind _)=_
   rw [q1];exact q2
theorem zq5:∀(n:Nat) (r:List Pc),depR r<n->okR r->yv4 (sP n) r
 |0,_,h,_=>absurd h (YH _)
 |n+1,r,hd,ho=>fun b m C u ps cs' t' h0 h1 h hu hp=>by
  obtain⟨u',ps',y,q,e1,e2,e3,e4⟩:=ye1 (GR:=sP n) (k:=n) (R:=some (.tup (pcsD r))) (fun s hs hk=>zq5 n s hs hk) h0 r u ps cs' t' none (Nat.le_of_lt_succ hd) ho h1 h hu hp
  refine⟨u',ps',?_,e1,e2,e3,e4⟩
  show gE 3 1 _ (jQ kX (yI (sP n)) kY) _=_
  unfold gE
  refine(if_pos rfl).trans ?_
  have z:jQ kX (yI (sP n)) kY ([stD C u ps,.tup (pcsD r),aL b m].map some++List.replicate 1 none)=some (.nx,[some (stD C u' ps'),some (.tup (pcsD r)),some (aL b m),y]):=q
  rw [z];rfl
abbrev zn1:tz6:=gP 1 0 kO
theorem ye2:∀ps:List Str,(Str.join "" ps)=cat ps
 |[]=>by decide+kernel
 |[x]=>by show x=x++(⟨#[]⟩:Str);rw [zq2]
 |x::y::r=>by
  have ih:=ye2 (y::r)
  show(x++("":Str))++Str.join "" (y::r)=x++cat (y::r)
  rw [ih,show("":Str)=⟨#[]⟩ from by decide+kernel,zq2]
theorem ym7:∀ps:List Str,(ps.map (·.length)).sum=(cat ps).length
 |[]=>rfl
 |x::ps=>by rw [Z8,List.sum_cons,ym7 ps];show _=(x++cat ps).length;rw [eG]
theorem vZ:∀ps:List Str,D.strs (gV ps)=some ps
 |[]=>rfl
 |x::ps=>by show D.strs (.str x::gV ps)=_;rw [D.strs,vZ ps];rfl
theorem xm8{C:List Int}{u:Nat}{ps:List Str}(hu:C.length<=u)(hp:ps.length<=1000)(hc:(cat ps).length<=1000000):zn1 [stD C u ps]=some (.str (cat ps)):=by
 have hl:(cQ C).length=C.length:=Z7 _
 have g:¬((u:Int)<(C.length:Int)):=by omega
 have e:zm4 (.str "") [.lst true (gV ps)]=some (.str (cat ps)):=by
  rw [zm4,vZ,Z2,if_pos]
  ·rw [show Txt.join ("":Str) ps=Str.join "" ps from StrLaws.glued_eq_join _ _,ye2]
  ·rw [ym7]
   exact⟨by decide+kernel,by omega⟩
 unfold stD
 simp! [kO,hl,g,e,zy2]
abbrev zn2:tz7:=gE 2 0 (bR [true,false]) pU
theorem wf5(C:List Int):zn2 [.obj true "Setter" [] [],.tup (cQ C)]=some (.non,[stD C 0 [],.tup (cQ C)]):=by
 have hi:=jF C
 have e:stD C 0 []= .obj true "Setter" nsS [.tup (cQ C),.int 0,.int 0,.lst true []]:=rfl
 rw [e]
 simp! [pU,hi]
abbrev xh5(n:Nat):tz6:=gP 2 1 (vV zn2 (sP n) zb7 zn1)
theorem xe1{n:Nat}{r:List Pc}{C:List Int}{t:Str}(hd:depR r<n)(h8:depR r<=16)(ho:okR r)(hl:(toksR r).length<=800)(h:setR true 0 r C ⟨#[]⟩=some ([],t)):xh5 n [.tup (pcsD r),.tup (cQ C)]=some (.str t):=by
 obtain⟨u',ps',q,e1,e2,e3,e4,e5⟩:=zq5 n r hd ho true 0 C 0 [] [] t (Ym _) (by omega) h (ZK _) ⟨by show 0+_<=_;omega,by show 0+_<=_;omega⟩
 have e5':(cat ps').length<=0+201*(toksR r).length:=e5
 have e4':ps'.length<=0+(toksR r).length:=e4
 have hu:C.length<=u':=by
  have:=ZJ List.length e1
  rw [List.length_drop] at this
  simp! [Yr] at this;omega
 have w:=xm8 (C:=C) (ps:=ps') hu (by omega) (by omega)
 rw [e2] at w
 have i:=wf5 C
 have f:=ye0
 have hm:=zq3 (m:="set_row") (by simp! [Yr]) q
 have p1:=pcs_imm r
 have p2:=jF C
 have p3:=qU true 0
 have w':zm5 "Setter" "whole_text" (aB 2) [some (.tup (pcsD r)),some (.tup (cQ C)),some (stD C u' ps')]=some (stD C u' ps'):=by
  unfold stD
  simp! [Yr]
 show gP 2 1 (vV zn2 (sP n) zb7 zn1) _=_
 generalize zn2=G1 at i|-
 generalize sP n=G2 at hm|-
 generalize zb7=G3 at f|-
 generalize zn1=G4 at w|-
 generalize stD C u' ps'=S1 at*
 generalize stD C 0 []=S0 at*
 generalize aL true 0=pl at*
 have s1:aV 2 (aI (eU "Setter" (bY [.im (aB 1)]) G1)) [some (.tup (pcsD r)),some (.tup (cQ C)),none]=some (.nx,[some (.tup (pcsD r)),some (.tup (cQ C)),some S0]):=by
  refine bD ?_
  simp! [p2,i]
 have s2:cP (cZ 2 bQ (bY [.im (aB 0),.im (aG G3 aE)]) (dZ "Setter" "set_row" G2)) [some (.tup (pcsD r)),some (.tup (cQ C)),some S0]=some (.nx,[some (.tup (pcsD r)),some (.tup (cQ C)),some S1]):=by
  simp! [p1,p3,f,hm]
 exact lV rfl ((aW s1).trans ((aW s2).trans (cE (aP (aD w' rfl) w))))
def lns(t:Str):List Str:=Txt.split t ⟨#[10]⟩
theorem ye3(t:Str):lns t≠[]:=fun z=>by
 have:=split_pos t ⟨#[10]⟩
 rw [show Txt.split t ⟨#[10]⟩=[] from z] at this
 exact absurd this (by decide)
theorem xO(t:Str):∀p∈lns t,(10:Nat)∉p.cps.toList:=StrLaws.split_free _ 10
theorem uA(t:Str):Str.join ⟨#[10]⟩ (lns t)=t:=StrLaws.join_split _ _
theorem ye4{t:Str}{ys:List Str}(hne:ys≠[])(hy:∀p∈ys,(10:Nat)∉p.cps.toList)(e:Str.join ⟨#[10]⟩ ys=t):lns t=ys:=
 yd7 _ _ (ye3 t) hne (xO t) hy ((uA t).trans e.symm)
theorem xm9(t:Str):∃xs y,lns t=xs++[y]:=⟨(lns t).dropLast,(lns t).getLast (ye3 t),(List.dropLast_concat_getLast _).symm⟩
theorem qV:∀(x:Str) (xs:List Str) (y:Str),Str.join ⟨#[10]⟩ (x::xs++[y])=Str.join ⟨#[10]⟩ (x::xs)++((⟨#[10]⟩:Str)++y)
 |x,[],y=>sX (by rw [ZS,Yq,nQ,cL,cL];rfl)
 |x,x'::xs,y=>sX (by
  rw [ZS,ZS,nQ,cL,nQ,<-ZS,qV x' xs y,cL]
  simp [cL])
theorem xe2:∀(xs:List Str) (y w:Str),Str.join ⟨#[10]⟩ (xs++[y++w])=Str.join ⟨#[10]⟩ (xs++[y])++w
 |[],y,w=>rfl
 |x::xs,y,w=>sX (by
  rw [qV,qV]
  simp [cL])
theorem ym8{t w y:Str}{xs:List Str}(h:lns t=xs++[y])(hw:(10:Nat)∉w.cps.toList):lns (t++w)=xs++[y++w]:=by
 have hf:=xO t
 rw [h] at hf
 refine ye4 (by simp) (fun p hp=> ?_) (by rw [xe2,<-h,uA])
 rcases Zn.mp hp with z|z
 ·exact hf p (Zo _ z)
 ·rw [Zc.mp z,cL]
  exact fun m=>(Zn.mp m).elim (hf y (by simp)) hw
theorem xe3{t w:Str}(hw:(10:Nat)∉w.cps.toList):lns (t++((⟨#[10]⟩:Str)++w))=lns t++[w]:=by
 obtain⟨x,xs,h⟩:=List.exists_cons_of_ne_nil (ye3 t)
 refine ye4 (by simp) (fun p hp=> ?_) ?_
 ·rcases Zn.mp hp with z|z
  ·exact xO t p z
  ·rw [Zc.mp z];exact hw
 ·rw [h,qV,<-h,uA]
theorem ye5{t y:Str}{xs:List Str}(h:lns t=xs++[y]):col t=y.length:=by
 have hf:=xO t
 rw [h] at hf
 have hy:=hf y (by simp)
 cases xs with
 |nil=>
  have e:y=t:=by have:=uA t;rw [h] at this;exact this
  have:=ym4 (t:=⟨#[]⟩) hy
  rw [ym6] at this
  rw [<-e,this]
  show 0+_=_
  omega
 |cons x xs=>
  have:=uA t
  rw [h,qV] at this
  rw [<-this,xd3 hy]
def zr6(W:Int)(ls:List Str):Int:=(ls.map fun l=>(W-(l.length:Int))*(W-(l.length:Int))).sum
def kP(W:Int)(t:Str)(k:Nat)(ln rg:Int):Prop:=∃xs y,lns t=xs++[y]/\(∀l∈xs++[y],((l:Str).length:Int)<=W)/\k=y.length/\ln=(xs.length:Int)+1/\rg=zr6 W xs
theorem kP.col{W:Int}{t:Str}{k:Nat}{ln rg:Int}(h:kP W t k ln rg):My.col t=k:=by
 obtain⟨xs,y,h1,_,h3,_⟩:=h
 rw [ye5 h1,h3]
theorem zh6{W:Int}(h:0<=W):kP W ⟨#[]⟩ 0 1 0:=⟨[],⟨#[]⟩,ye4 (by simp) (fun p hp=>by rw [Zc.mp hp];simp) rfl,fun l hl=>by
 rw [Yq] at hl
 rw [Zc.mp hl];exact h,rfl,rfl,rfl⟩
theorem xn0{W:Int}{t w:Str}{k:Nat}{ln rg:Int}(h:kP W t k ln rg)(hw:(10:Nat)∉w.cps.toList)(hk:((k+w.length:Nat):Int)<=W):kP W (t++w) (k+w.length) ln rg:=by
 obtain⟨xs,y,h1,h2,h3,h4,h5⟩:=h
 refine⟨xs,y++w,ym8 h1 hw,fun l hl=> ?_,by rw [eG,h3],h4,h5⟩
 rcases Zn.mp hl with z|z
 ·exact h2 l (Zo _ z)
 ·rw [Zc.mp z,eG,<-h3];exact hk
theorem ym9{W:Int}{t:Str}{k:Nat}{ln rg m:Int}(h:kP W t k ln rg)(h0:0<=m)(hm:m<=W):kP W (t++nlw m) m.toNat (ln+1) (rg+(W-(k:Int))*(W-(k:Int))):=by
 obtain⟨xs,y,h1,h2,h3,h4,h5⟩:=h
 refine⟨xs++[y],Txt.mul " " m,?_,fun l hl=> ?_,by rw [nV],by rw [Z5,h4];simp,?_⟩
 ·unfold nlw
  rw [xe3 (zk5 m),h1]
 ·rcases Zn.mp hl with z|z
  ·exact h2 l z
  ·rw [Zc.mp z,nV];omega
 ·unfold zr6
  rw [ZV,List.sum_append,h5,h3]
  simp [zr6]
abbrev Way:=(Int×Int)×List Int
abbrev Frt:=List (Nat×Way)
def ltW(x y:Way):Bool:=L2.za9 [[x.1.1,x.1.2],x.2] [[y.1.1,y.1.2],y.2]
def mG:Frt->Nat->Option Way
 |[],_=>none
 |p::F,j=>if p.1=j then some p.2 else mG F j
def mH:Frt->Nat->Way->Frt
 |[],_,_=>[]
 |p::F,j,y=>(if p.1=j then(p.1,y) else p)::mH F j y
def hU(F:Frt)(k:Nat)(x:Way):Frt:=match mG F k with
 |none=>F++[(k,x)]
 |some y=>if ltW x y=true then mH F k x else F
def jW(F G:Frt):Frt:=G.foldl (fun F p=>hU F p.1 p.2) F
def yh3(n:Int)(p:Nat×Way):Nat×Way:=(p.1,(p.2.1,p.2.2++[n]))
def kQ(F:Frt)(n:Int):Frt:=jW [] (F.map (yh3 n))
def lfB(w:Str):Bool:=decide (w.cps.toList[0]? =some 10)
def jK(W:Int)(b:Bool)(m:Int)(l:Leaf)(k:Nat)(c:Int×Int):Option (Nat×(Int×Int)):=(wr b m k l).bind fun w=>
 if W<((if lfB w=true then w.length-1 else k+w.length:Nat):Int) then none
 else some (if lfB w=true then w.length-1 else k+w.length,if lfB w=true then(c.1+1,c.2+(W-(k:Int))*(W-(k:Int))) else c)
def jX(W:Int)(b:Bool)(m:Int)(l:Leaf)(F G:Frt):Frt:=F.foldl (fun G p=>match jK W b m l p.1 p.2.1 with
 |none=>G
 |some s=>hU G s.1 (s.2,p.2.2)) G
def frW(GR:Bool->Int->List Pc->Frt->Frt)(tk:Bool)(F:Frt):Nat->List (List Pc×Bool×Int)->Frt->Frt
 |_,[],A=>A
 |n,x::xs,A=>frW GR tk F (n+1) xs (jW A (GR x.2.1 x.2.2 x.1 (if tk=true then kQ F n else F)))
def frP(W:Int)(GR:Bool->Int->List Pc->Frt->Frt)(b:Bool)(m:Int)(F:Frt):Pc->Frt
 | .leaf l=>jX W b m l F []
 |p=>frW GR (cT b p) F 0 (cK b m p) []
def frN(W:Int):Nat->Bool->Int->List Pc->Frt->Frt
 |0,_,_,_,F=>F
 |n+1,b,m,r,F=>r.foldl (fun F p=>frP W (frN W n) b m F p) F
def Hit(W:Int)(R:List Int->Str->Prop)(p:Nat×Way):Prop:=∃t,R p.2.2 t/\kP W t p.1 p.2.1.1 p.2.1.2
structure Good(W:Int)(R:List Int->Str->Prop)(F:Frt):Prop where
 nd:(F.map (·.1)).Nodup
 hit:∀p∈F,Hit W R p
theorem Good.nil{W:Int}{R:List Int->Str->Prop}:Good W R []:=⟨Zk,fun _ h=>nomatch h⟩
theorem Good.mono{W:Int}{R R':List Int->Str->Prop}{F:Frt}(h:Good W R F)(k:∀c t,R c t->R' c t):Good W R' F:=⟨h.nd,fun p hp=>by
 obtain⟨t,h1,h2⟩:=h.hit p hp
 exact⟨t,k _ _ h1,h2⟩⟩
theorem zZ:∀{F:Frt} {k:Nat},mG F k=none->k∉F.map (·.1)
 |[],_,_=>by simp
 | p::F,k,h=>by
  rw [mG] at h
  by_cases e:p.1=k
  ·rw [if_pos e] at h;cases h
  ·rw [if_neg e] at h
   simp only [Z8,Z3,not_or]
   exact⟨fun z=>e z.symm,zZ h⟩
theorem uY:∀(F:Frt) (k:Nat) (y:Way),(mH F k y).map (·.1)=F.map (·.1)
 |[],_,_=>rfl
 |p::F,k,y=>by
  rw [mH,Z8,Z8,uY F]
  by_cases e:p.1=k
  ·rw [if_pos e]
  ·rw [if_neg e]
theorem ye6:∀{F:Frt} {k:Nat} {y:Way} {p:Nat×Way},p∈mH F k y->p=(k,y)\/p∈F
 |[],_,_,_,h=>by cases h
 | q::F,k,y,p,h=>by
  rw [mH] at h
  rcases Z3.mp h with e|e
  ·by_cases z:q.1=k
   ·rw [if_pos z,z] at e;exact .inl e
   ·rw [if_neg z] at e;exact .inr (by rw [e];exact Z0)
  ·exact(ye6 e).imp id (Z1 _)
theorem zu8{W:Int}{R:List Int->Str->Prop}{F:Frt}{k:Nat}{x:Way}(h:Good W R F)(hx:Hit W R (k,x)):Good W R (hU F k x):=by
 unfold hU
 cases e:mG F k with
 | none=>
  simp only
  refine⟨?_,fun p hp=> ?_⟩
  ·rw [ZV,ZA]
   refine⟨h.nd,by simp,fun a ha b hb z=> ?_⟩
   simp only [Z8,Xm,Zc] at hb
   subst hb
   subst z
   exact zZ e ha
  ·rcases Zn.mp hp with z|z
   ·exact h.hit p z
   ·rw [Zc.mp z];exact hx
 | some y=>
  simp only
  by_cases c:ltW x y=true
  ·rw [if_pos c]
   refine⟨by rw [uY];exact h.nd,fun p hp=> ?_⟩
   rcases ye6 hp with z|z
   ·rw [z];exact hx
   ·exact h.hit p z
  ·rw [if_neg c];exact h
theorem vR{W:Int}{R:List Int->Str->Prop}:∀{G F:Frt},Good W R F->(∀p∈G,Hit W R p)->Good W R (jW F G)
 |[],F,h,_=>h
 |p::G,F,h,hG=>vR (G:=G) (zu8 h (hG p Z0)) fun q hq=>hG q (Z1 _ hq)
def zz0(R:List Int->Str->Prop)(n:Int):List Int->Str->Prop:=fun cs t=>∃c0,R c0 t/\cs=c0++[n]
theorem xP{W:Int}{R:List Int->Str->Prop}{F:Frt}(h:Good W R F)(n:Int):Good W (zz0 R n) (kQ F n):=vR .nil fun p hp=>by
 obtain⟨q,hq,rfl⟩:=ZP.mp hp
 obtain⟨t,h1,h2⟩:=h.hit q hq
 exact⟨t,⟨_,h1,rfl⟩,h2⟩
def Aft(R:List Int->Str->Prop)(set:List Int->Str->Option (List Int×Str)):List Int->Str->Prop:=fun cs t=>∃c0 t0 c1,R c0 t0/\cs=c0++c1/\set c1 t0=some ([],t)
theorem xe4(m:Int):lfB (nlw m)=true:=by
 unfold lfB nlw
 rw [cL]
 exact Zr rfl
theorem xr7{w:Str}(h:(10:Nat)∉w.cps.toList):lfB w=false:=by
 unfold lfB
 refine Zg fun e=>h (ZL e)
theorem yn0(m:Int):(nlw m).length-1=m.toNat:=by
 unfold nlw
 rw [eG,nV]
 show 1+m.toNat-1=_
 omega
theorem xn1{W:Int}{b:Bool}{m:Int}{l:Leaf}{k:Nat}{c:Int×Int}{s:Nat×(Int×Int)}{t:Str}(hl:fR l)(h0:0<=m)(h1:m<=200)(hc:kP W t k c.1 c.2)(h:jK W b m l k c=some s):∃w,wr b m (col t) l=some w/\kP W (t++w) s.1 s.2.1 s.2.2:=by
 unfold jK at h
 rw [hc.col]
 cases e:wr b m k l with
 |none=>rw [e] at h;cases h
 | some w=>
  rw [e,Z2] at h
  refine⟨w,rfl,?_⟩
  rcases(zk6 hl h0 h1 e).1 with hw|⟨m',hw⟩
  ·rw [xr7 hw] at h
   simp only [ZQ,Yy] at h
   by_cases z:W<((k+w.length:Nat):Int)
   ·rw [if_pos z] at h;cases h
   ·rw [if_neg z] at h
    cases h
    exact xn0 hc hw (by omega)
  ·subst hw
   rw [xe4] at h
   simp only [ZW] at h
   rw [yn0] at h
   by_cases z:W<((m'.toNat:Nat):Int)
   ·rw [if_pos z] at h;cases h
   ·rw [if_neg z] at h
    cases h
    by_cases hm:0<=m'
    ·exact ym9 hc hm (by omega)
    ·have e0:nlw m'=nlw 0:=by unfold nlw;rw [sX (x:=Txt.mul " " m') (y:=Txt.mul " " 0) (by rw [xK,xK];congr 1;omega)]
     have:=ym9 hc (m:=0) (Ym _) (by omega)
     rw [e0,show m'.toNat=(0:Int).toNat by omega]
     exact this
theorem zk9{W:Int}{R:List Int->Str->Prop}{b:Bool}{m:Int}{l:Leaf}(hl:fR l)(h0:0<=m)(h1:m<=200):∀{F G:Frt},(∀p∈F,Hit W R p)->Good W (Aft R (cS b m (.leaf l))) G->Good W (Aft R (cS b m (.leaf l))) (jX W b m l F G)
 |[],G,_,hG=>hG
 | p::F,G,hF,hG=>by
  have key:Good W (Aft R (cS b m (.leaf l))) (match jK W b m l p.1 p.2.1 with|none=>G|some s=>hU G s.1 (s.2,p.2.2)):=by
   cases e:jK W b m l p.1 p.2.1 with
   |none=>exact hG
   |some s=>
    obtain⟨t,r1,r2⟩:=hF p Z0
    obtain⟨w,e1,e2⟩:=xn1 hl h0 h1 r2 e
    exact zu8 (x:=(s.2,p.2.2)) hG ⟨t++w,⟨_,t,[],r1,by simp,by rw [cS,e1];rfl⟩,e2⟩
  exact zk9 (F:=F) hl h0 h1 (fun q hq=>hF q (Z1 _ hq)) key
theorem xx9{b:Bool}{m:Int}{p:Pc}{i:Nat}{x:List Pc×Bool×Int}(hx:(cK b m p)[i]? =some x)(c:List Int)(t:Str):cS b m p ((if cT b p=true then [(i:Int)] else [])++c) t=setR x.2.1 x.2.2 x.1 c t:=by
 cases p with
 |leaf l=>simp [cK] at hx
 | group r=>
  rw [cS.eq_def]
  cases b with
  | false=>
   have e:i=0:=by
    cases i with
    |zero=>rfl
    |succ i=>simp [cK] at hx
   subst e
   simp [cK] at hx
   subst hx
   simp [cT]
  |true=>
   match i,hx with
   |0,hx=>simp [cK] at hx;subst hx;simp [cT]
   |1,hx=>simp [cK] at hx;subst hx;simp [cT]
   |i+2,hx=>simp [cK] at hx
 | hang n r=>
  have e:i=0:=by
   cases i with
   |zero=>rfl
   |succ i=>simp [cK] at hx
  subst e
  simp [cK] at hx
  subst hx
  simp [cT,cS]
 |either rs=>
  have hx':(rs.map fun r=>(r,b,m))[i]? =some x:=hx
  rw [Zd] at hx'
  obtain⟨r,hr,rfl⟩:=Zp.mp hx'
  rw [cS.eq_def]
  simp only [cT,ZW,ZS,Yq]
  rw [if_pos (by omega)]
  exact uW (by simpa using hr)
def pX(W:Int)(GR:Bool->Int->List Pc->Frt->Frt)(r:List Pc):Prop:=∀(b:Bool) (m:Int) (R:List Int->Str->Prop) (F:Frt),0<=m->m+12*depR r<=200->Good W R F->Good W (Aft R (setR b m r)) (GR b m r F)
theorem zu9{W:Int}{GR:Bool->Int->List Pc->Frt->Frt}{R:List Int->Str->Prop}{b:Bool}{m:Int}{p:Pc}{F:Frt}(hF:Good W R F):∀(xs:List (List Pc×Bool×Int)) (n:Nat) (A:Frt),(∀(i:Nat) x,xs[i]? =some x->(cK b m p)[n+i]? =some x)->(∀x∈xs,0<=x.2.2/\x.2.2+12*depR x.1<=200/\pX W GR x.1)->
  Good W (Aft R (cS b m p)) A->Good W (Aft R (cS b m p)) (frW GR (cT b p) F n xs A)
 |[],n,A,_,_,hA=>hA
 | x::xs,n,A,hi,hx,hA=>by
  rw [frW]
  refine zu9 hF xs (n+1) _ (fun i y hy=>by have:=hi (i+1) y (by simpa using hy);rwa [show n+1+i=n+(i+1) by omega]) (fun y hy=>hx y (Z1 _ hy)) (vR hA ?_)
  obtain⟨h0,h1,hG⟩:=hx x Z0
  have hw:=fun c t=>xx9 (hi 0 x rfl) c t
  rw [Xo] at hw
  by_cases tk:cT b p=true
  ·rw [if_pos tk]
   simp only [tk,ZW] at hw
   intro q hq
   obtain⟨t,⟨c0,t0,c1,⟨c,r1,rfl⟩,e1,e2⟩,hc⟩:=(hG x.2.1 x.2.2 _ _ h0 h1 (xP hF n)).hit q hq
   exact⟨t,⟨c,t0,n::c1,r1,by rw [e1];simp,by rw [<-e2,<-hw];rfl⟩,hc⟩
  ·rw [if_neg tk]
   simp only [tk,ZQ,Yy,Yq] at hw
   intro q hq
   obtain⟨t,⟨c0,t0,c1,r1,e1,e2⟩,hc⟩:=(hG x.2.1 x.2.2 _ _ h0 h1 hF).hit q hq
   exact⟨t,⟨c0,t0,c1,r1,e1,by rw [<-e2,<-hw]⟩,hc⟩
theorem zh7{b:Bool}{m:Int}{p:Pc}{x:List Pc×Bool×Int}{k:Nat}(ho:okP p)(h0:0<=m)(h1:m+12*eV p<=200)(hk:eV p<=k)(hx:x∈cK b m p):0<=x.2.2/\x.2.2+12*depR x.1<=200/\depR x.1<k/\okR x.1:=by
 cases p with
 |leaf l=>simp [cK] at hx
 | group r=>
  rw [eV] at h1 hk
  have hr:okR r:=ho
  have:x.1=r/\x.2.2=m:=by
   cases b<;>simp [cK] at hx
   ·subst hx;exact⟨rfl,rfl⟩
   ·rcases hx with e|e<;>subst e<;>exact⟨rfl,rfl⟩
  rw [this.1,this.2]
  exact⟨h0,by omega,by omega,hr⟩
 |hang n r=>
  rw [eV] at h1 hk
  have hr:(0<=n/\n<=12)/\okR r:=ho
  simp [cK] at hx
  subst hx
  exact⟨by show 0<=m+n;omega,by show m+n+12*(depR r:Int)<=200;omega,by show depR r<k;omega,hr.2⟩
 |either rs=>
  rw [eV] at h1 hk
  have hr:(2<=rs.length/\rs.length<=4)/\okRs rs:=ho
  obtain⟨r,hm,rfl⟩:=ZP.mp (show x∈rs.map fun r=>(r,b,m) from hx)
  obtain⟨i,hi⟩:=List.getElem?_of_mem hm
  have:=zY hi
  exact⟨h0,by show m+12*(depR r:Int)<=200;omega,by show depR r<k;omega,zh5 hr.2 hi⟩
theorem xQ{W:Int}{GR:Bool->Int->List Pc->Frt->Frt}{k:Nat}(hG:∀r,depR r<k->okR r->pX W GR r){R:List Int->Str->Prop}{b:Bool}{m:Int}{p:Pc}{F:Frt}(hk:eV p<=k)(ho:okP p)(h0:0<=m)(h1:m+12*eV p<=200)(hF:Good W R F):Good W (Aft R (cS b m p)) (frP W GR b m F p):=by
 have hold:Good W (Aft R (cS b m p)) (frW GR (cT b p) F 0 (cK b m p) []):=zu9 hF _ 0 [] (fun i x h=>by rwa [YI]) (fun x hx=>by
  obtain⟨a1,a2,a3,a4⟩:=zh7 ho h0 h1 hk hx
  exact⟨a1,a2,hG x.1 a3 a4⟩) .nil
 cases p with
 |leaf l=>exact zk9 ho h0 (by rw [eV] at h1;omega) hF.hit .nil
 |group r=>exact hold
 |hang n r=>exact hold
 |either rs=>exact hold
theorem zv0{W:Int}{GR:Bool->Int->List Pc->Frt->Frt}{k:Nat}(hG:∀r,depR r<k->okR r->pX W GR r){b:Bool}{m:Int}(h0:0<=m):∀{r:List Pc} {R:List Int->Str->Prop} {F:Frt},depR r<=k->okR r->m+12*depR r<=200->Good W R F->Good W (Aft R (setR b m r)) (r.foldl (fun F p=>frP W GR b m F p) F)
 |[],R,F,_,_,_,hF=>hF.mono fun c t h=>⟨c,t,[],h,by simp,by rw [setR]⟩
 |p::r,R,F,hk,ho,h1,hF=>by
  rw [depR] at hk h1
  have hp:=xQ hG (b:=b) (show eV p<=k by omega) ho.1 h0 (by omega) hF
  refine(zv0 hG h0 (r:=r) (by omega) ho.2 (by omega) hp).mono fun c t=> ?_
  rintro⟨c0,t0,c2,⟨d0,s0,c1,r1,rfl,e1⟩,rfl,e2⟩
  refine⟨d0,s0,c1++c2,r1,by simp,?_⟩
  rw [setR,uX c2 e1]
  exact e2
theorem xR{W:Int}:∀(n:Nat) (r:List Pc),depR r<n->okR r->pX W (frN W n) r
 |0,_,h,_=>absurd h (YH _)
 |n+1,r,h,ho=>fun b m R F h0 h1 hF=>by
  rw [frN]
  exact zv0 (fun q h1 h2=>xR n q h1 h2) h0 (by omega) ho h1 hF
theorem xS{W:Int}{n:Nat}{r:List Pc}(hW:0<=W)(hd:depR r<n)(ho:okR r)(h1:12*(depR r:Int)<=200):Good W (fun cs t=>setR true 0 r cs ⟨#[]⟩=some ([],t)) (frN W n true 0 r [(0,((1,0),[]))]):=by
 have g0:Good W (fun cs t=>cs=[]/\t=⟨#[]⟩) [(0,((1,0),[]))]:=⟨by simp,fun p hp=>by
  rw [Zc.mp hp];exact⟨_,⟨rfl,rfl⟩,zh6 hW⟩⟩
 refine(xR n r hd ho true 0 _ _ (Ym _) (by omega) g0).mono fun c t=> ?_
 rintro⟨c0,t0,c1,⟨rfl,rfl⟩,rfl,e⟩
 exact e
abbrev nsF:List Str:=["steps","best"]
def bU(W:Int):D:= .obj false "WithinWidth" ["width"] [.int W]
def wyD(x:Way):D:= .tup [.tup [.int x.1.1,.int x.1.2],.tup (cQ x.2)]
def dD(F:Frt):List Key:=F.map fun p=> .inl (p.1:Int)
def dQ(F:Frt):List D:=F.map fun p=>wyD p.2
def aJ(o:Bool)(W:Int)(F:Frt):D:= .obj o "Front" nsF [bU W,.dic o (dD F) (dQ F)]
theorem uB(x:Way):(wyD x).imm=true:=by
 have:=jF x.2
 simp! [lC,gQ,D.key,sM,qD,sL,wyD,this]
theorem uC:∀F:Frt,D.imms (dQ F)=true
 |[]=>rfl
 |p::F=>by
  show(D.imm (wyD p.2)&&D.imms (dQ F))=true
  rw [uB,uC F];rfl
theorem za0(W:Int)(F:Frt):(aJ false W F).imm=true:=by
 have:=uC F
 simp! [lC,gQ,D.key,sM,qD,sL,aJ,bU,this]
theorem xn2(F:Frt):(dD F).length=F.length:=Z7 _
theorem sH:∀(F:Frt) (k:Nat),oQ (dD F) (dQ F) (.inl (k:Int))=(mG F k).map wyD
 |[],_=>rfl
 |p::F,k=>by
  show oQ (.inl (p.1:Int)::dD F) (wyD p.2::dQ F) _=_
  rw [oQ,mG]
  by_cases e:p.1=k
  ·rw [if_pos e,if_pos (by rw [e])];rfl
  ·rw [if_neg e,if_neg (fun z=>e (by have:=Wd z;omega)),sH F k]
theorem zl0:∀(F:Frt) (k:Nat) (x:Way),yE (dD F) (dQ F) (.inl (k:Int)) (wyD x)=dQ (mH F k x)
 |[],_,_=>rfl
 |p::F,k,x=>by
  show yE (.inl (p.1:Int)::dD F) (wyD p.2::dQ F) _ _=_
  rw [yE,zl0 F,mH]
  by_cases e:p.1=k
  ·rw [if_pos e,if_pos (by rw [e])];rfl
  ·rw [if_neg e,if_neg (fun z=>e (by have:=Wd z;omega))];rfl
theorem xe5(F:Frt)(k:Nat)(x:Way):dD (mH F k x)=dD F:=by
 unfold dD
 have:=ZJ (List.map fun(k:Nat)=>(Sum.inl (k:Int):Key)) (uY F k x)
 rw [YA,YA] at this
 exact this
theorem xy0(x y:Way):yg6 (wyD x) (wyD y)=some (.bl (ltW x y)):=by
 unfold wyD yg6 ltW
 simp! [lC,gQ,D.key,sM,qD,sL,D.intss,D.ints,zk8]
abbrev mI:tz7:=gE 2 0 (bR [true,false]) rR
theorem wf6(W:Int):mI [.obj true "Front" [] [],bU W]=some (.non,[aJ true W [],bU W]):=by
 have e:aJ true W []= .obj true "Front" nsF [bU W,.dic true [] []]:=rfl
 have h:(bU W).imm=true:=rfl
 rw [e]
 generalize bU W=w at h|-
 simp! [lC,gQ,D.key,sM,qD,sL,rR,h]
theorem xT{p:PSt}{f:tz2}{W:Int}(h:f p=some (bU W)):eU "Front" (bY [.im f]) mI p=some (aJ true W []):=by
 have hi:(bU W).imm=true:=rfl
 have i:=wf6 W
 generalize mI=G at i|-
 generalize aJ true W []=X at i|-
 generalize bU W=w at h hi i|-
 unfold eU
 rw [pN h hi pM,Z2,i]
 rfl
abbrev nK:tz7:=gE 3 0 (bR [true,false,false]) mE
theorem wf7{W:Int}{F:Frt}{k:Nat}{x:Way}(hl:F.length<=900):nK [aJ true W F,.int (k:Int),wyD x]=some (.non,[aJ true W (hU F k x),.int (k:Int),wyD x]):=by
 have g:=sH F k
 have hx:=uB x
 have hv:=uC F
 have hz:(dD F).length<sizeLine:=by rw [xn2];exact sz1 (by omega)
 unfold hU
 cases e:mG F k with
 | none=>
  rw [e] at g
  have e1:aJ true W (F++[(k,x)])= .obj true "Front" nsF [bU W,.dic true (dD F++[.inl (k:Int)]) (dQ F++[wyD x])]:=by
   unfold aJ dD dQ
   rw [ZV,ZV];rfl
  simp only
  rw [e1]
  unfold aJ
  generalize dD F=ks at*
  generalize dQ F=vs at*
  generalize wyD x=X at*
  generalize bU W=w at*
  simp only [Option.map_none] at g
  simp! [lC,gQ,D.key,sM,qD,sL,mE,g,hx,hv,hz]
 | some y=>
  rw [e] at g
  have l:=xy0 x y
  have pv:=zl0 F k x
  have ks:=xe5 F k x
  simp only [Option.map_some] at g
  by_cases c:ltW x y=true
  ·rw [c] at l
   simp only [c,ZW]
   have e1:aJ true W (mH F k x)= .obj true "Front" nsF [bU W,.dic true (dD F) (dQ (mH F k x))]:=by unfold aJ;rw [ks]
   rw [e1,<-pv]
   unfold aJ
   generalize dD F=ks at*
   generalize dQ F=vs at*
   generalize wyD x=X at*
   generalize wyD y=Y at*
   generalize bU W=w at*
   simp! [lC,gQ,D.key,sM,qD,sL,mE,g,hx,hv,hz,l]
  ·rw [Xu] at c
   rw [c] at l
   simp only [c,ZQ,Yy]
   unfold aJ
   generalize dD F=ks at*
   generalize dQ F=vs at*
   generalize wyD x=X at*
   generalize wyD y=Y at*
   generalize bU W=w at*
   simp! [lC,gQ,D.key,sM,qD,sL,mE,g,hx,hv,hz,l]
theorem xe6{g:tz7}{m:Str}{W:Int}{F:Frt}{ys:List D}{N v:D}(hm:cJ nsF m=none)(h:g (aJ true W F::ys)=some (v,N::ys)):dZ "Front" m g ys (aJ true W F)=some (v,N):=by
 show(if (("Front":Str)="Front"/\cJ nsF m=none) then(g (aJ true W F::ys)).bind _ else none)=_
 rw [if_pos ⟨rfl,hm⟩,h]
 show(if ys.length=ys.length then some (v,N) else none)=_
 rw [if_pos rfl]
theorem ye7:∀(F:Frt) (k:Nat) (x:Way),(mH F k x).length=F.length
 |[],_,_=>rfl
 |p::F,k,x=>by rw [mH,Z6,Z6,ye7 F]
theorem xU(F:Frt)(k:Nat)(x:Way):(hU F k x).length<=F.length+1:=by
 unfold hU
 cases mG F k with
 |none=>simp
 |some y=>
  simp only
  split
  ·rw [ye7];omega
  ·omega
theorem zl1:∀(G F:Frt),(jW F G).length<=F.length+G.length
 |[],F=>Zb _
 |p::G,F=>by
  have h1:=zl1 G (hU F p.1 p.2)
  have h2:=xU F p.1 p.2
  show(jW (hU F p.1 p.2) G).length<=_
  rw [Z6];omega
theorem kG:∀{F:Frt} {p:Nat×Way},(F.map (·.1)).Nodup->p∈F->mG F p.1=some p.2
 |[],_,_,h=>by cases h
 | q::F,p,nd,h=>by
  rw [Z8,Zs] at nd
  rw [mG]
  rcases Z3.mp h with e|e
  ·rw [e,if_pos rfl]
  ·rw [if_neg (fun z=>nd.1 (by rw [z];exact Yd e))]
   exact kG nd.2 e
theorem xV{p:PSt}{f:tz2}{o:Bool}{W:Int}{F:Frt}(h:f p=some (aJ o W F)):cB "Front" "best" f p=some (.dic o (dD F) (dQ F)):=by
 unfold cB
 rw [h,Z2]
 unfold aJ
 generalize bU W=w
 simp [yg5,cJ,fZ]
theorem uZ{p:PSt}{f:tz2}{o:Bool}{W:Int}{F:Frt}(h:f p=some (aJ o W F)):cB "Front" "steps" f p=some (bU W):=by
 unfold cB
 rw [h,Z2]
 unfold aJ
 generalize bU W=w
 simp [yg5,cJ,fZ]
def zn3(F:Frt):List D:=F.map fun q=> .int (q.1:Int)
theorem xe7(F:Frt):(dD F).map yv0=zn3 F:=by
 unfold dD zn3
 rw [YA];rfl
theorem yn1(F:Frt):(D.dic false (dD F) (dQ F)).imm=true:=by
 have:=uC F
 simp [D.imm,this]
theorem zq6{p:PSt}{f:tz2}{W:Int}{F:Frt}(h:f p=some (aJ false W F)):wS (aX (cB "Front" "best" f)) p=some (zn3 F):=by
 unfold wS
 rw [bX (xV h) (yn1 F),Z2,<-xe7];rfl
theorem ye8{p:PSt}{f g:tz2}{W:Int}{F:Frt}{k:Nat}{x:Way}(h:f p=some (aJ false W F))(hg:g p=some (.int (k:Int)))(hx:mG F k=some x):f2 gQ (cB "Front" "best" f) g p=some (wyD x):=by
 refine aR (xV h) hg ?_
 show(some (Sum.inl (k:Int):Key)).bind _=_
 rw [Z2,sH,hx];rfl
theorem yn2{j:Nat}{g:tz3}{h:List D->D->Option (D×D)}{p:PSt}{d0 d0' r:D}{ys:List D}(h0:p[j]? =some (some d0))(hg:g p=some ys)(hh:h ys d0=some (r,d0')):cZ j bQ g h p=some (r,p.set j (some d0')):=by
 unfold cZ bQ
 rw [h0]
 simp only [YX,Z2,hg,gC,hh]
theorem zd5{j:Nat}{p:PSt}{f g:tz2}{W:Int}{F:Frt}{k:Nat}{x:Way}(h0:p[j]? =some (some (aJ true W F)))(hf:f p=some (.int (k:Int)))(hg:g p=some (wyD x))(hl:F.length<=900):
  cP (cZ j bQ (bY [.im f,.im g]) (dZ "Front" "add" nK)) p=some (.nx,p.set j (some (aJ true W (hU F k x)))):=
 tY (yn2 h0 (pN hf rfl (pN hg (uB x) pM)) (xe6 (by simp [cJ,fZ]) (wf7 hl)))
theorem zd6{i N:Nat}{f:tz1}(S:Nat->Frt->PSt->Prop)(st:Frt->Nat×Way->Frt):∀{L:Frt} {p:PSt} {n:Nat} {A:Frt},n+L.length<=N->S n A p->(∀n A p q,n<N->q∈L->S n A p->∃p',f (p.set i (some (.int (q.1:Int))))=some (.nx,p')/\S (n+1) (st A q) p')->∃p',dC i f (zn3 L) p=some (.nx,p')/\S (n+L.length) (L.foldl st A) p'
 |[],p,n,A,_,h,_=>⟨p,rfl,h⟩
 |q::L,p,n,A,hn,h,hs=>by
  rw [Z6] at hn
  obtain⟨p1,e1,h1⟩:=hs n A p q (by omega) Z0 h
  obtain⟨p2,e2,h2⟩:=zd6 S st (L:=L) (n:=n+1) (by omega) h1 fun n A p r h1 hr=>hs n A p r h1 (Z1 _ hr)
  refine⟨p2,?_,by rw [Z6,show n+(L.length+1)=n+1+L.length by omega];exact h2⟩
  show dC i f (.int (q.1:Int)::zn3 L) p=_
  rw [dC,e1]
  exact e2
theorem nW{i:Nat}{fi:tz3}{f:tz1}{p p':PSt}{ds:List D}(h:fi p=some ds)(e:dC i f ds p=some (.nx,p')):fJ i fi f p=some (.nx,p'):=by
 unfold fJ
 rw [h];exact e
abbrev yv5:tz7:=gE 2 1 (bR [true,false]) (kN nK)
theorem wf8{W:Int}{F G:Frt}(nd:(G.map (·.1)).Nodup)(hl:F.length+G.length<=800):yv5 [aJ true W F,aJ false W G]=some (.non,[aJ true W (jW F G),aJ false W G]):=by
 obtain⟨p',e,_,z,rfl⟩:=zd6 (i:=2) (N:=G.length) (f:=cP (cZ 0 bQ (bY [.im (aB 2),.im (f2 gQ (cB "Front" "best" (aB 1)) (aB 2))]) (dZ "Front" "add" nK)))
  (fun n A p=>A.length<=F.length+n/\∃z,p=[some (aJ true W A),some (aJ false W G),z]) (fun A q=>hU A q.1 q.2) (L:=G) (p:=[some (aJ true W F),some (aJ false W G),none]) (n:=0) (A:=F) (by omega) ⟨Zb _,none,rfl⟩
  (by
   rintro n A p q hn hq ⟨hA,z,rfl⟩
   refine⟨_,zd5 (j:=0) (F:=A) (W:=W) (k:=q.1) (x:=q.2) rfl rfl (ye8 (F:=G) (W:=W) rfl rfl (kG nd hq)) (by omega),?_,_,rfl⟩
   have:=xU A q.1 q.2
   omega)
 have e2:=nW (i:=2) (zq6 (f:=aB 1) (W:=W) (F:=G) (p:=[some (aJ true W F),some (aJ false W G),none]) rfl) e
 show gE 2 1 _ (kN nK) _=_
 have e3:kN nK ([aJ true W F,aJ false W G].map some++List.replicate 1 none)=some (.nx,[some (aJ true W (jW F G)),some (aJ false W G),z]):=e2
 unfold gE
 rw [if_pos (show [aJ true W F,aJ false W G].length=2 from rfl),e3]
 rfl
theorem eT{np n:Nat}{f:tz1}{ds:List D}{d:D}(hl:ds.length=np)(h:∃q,f (ds.map some++List.replicate n none)=some (.ret d,q)):gP np n f ds=some d:=h.elim fun _ e=>lV hl e
theorem uD{f g:tz1}{p:PSt}{d:D}(h:∃q,f p=some (.ret d,q)):∃q,aT f g p=some (.ret d,q):=h.elim fun q e=>⟨q,fP e⟩
theorem yt3(F:Frt)(n:Int):kQ F n=F.foldl (fun A q=>hU A q.1 (q.2.1,q.2.2++[n])) []:=by
 unfold kQ jW
 rw [List.foldl_map];rfl
theorem yn3{p:PSt}{i:Nat}{x:Way}(h:p[i]? =some (some (wyD x))):f2 dIx (aB i) (fC (.int 0)) p=some (.tup [.int x.1.1,.int x.1.2]):=aR (lA h) rfl (kF _ _)
theorem yn4{p:PSt}{i:Nat}{x:Way}(h:p[i]? =some (some (wyD x))):f2 dIx (aB i) (fC (.int 1)) p=some (.tup (cQ x.2)):=aR (lA h) rfl (jM _ _ _)
theorem zh8{p:PSt}{f g:tz2}{x:Way}(h1:f p=some (.tup [.int x.1.1,.int x.1.2]))(h2:g p=some (.tup (cQ x.2))):cA (aA f (aA g aE)) p=some (wyD x):=
 eM (aD h1 (aD h2 rfl)) (uB x) (by simp)
theorem xn3{p:PSt}{i j:Nat}{x:Way}{n:Int}(h:p[i]? =some (some (wyD x)))(hn:p[j]? =some (some (.int n)))(hl:x.2.length<=900):cA (aA (aX (f2 dIx (aB i) (fC (.int 0)))) (aA (f2 cO (f2 dIx (aB i) (fC (.int 1))) (cA (aA (aX (aB j)) aE))) aE)) p=some (wyD (x.1,x.2++[n])):=by
 refine zh8 (x:=(x.1,x.2++[n])) (bX (yn3 (x:=x) h) rfl) (aR (yn4 (x:=x) h) (eM (aD (bX (lA hn) rfl) rfl) rfl (by simp)) ?_)
 show(if (cQ x.2).length+[D.int n].length<=sizeLine then some (D.tup (cQ x.2++[.int n])) else none)=_
 rw [if_pos (by rw [xd7];exact sz (by show x.2.length+1<=1000;omega)),xd6];rfl
abbrev zn4:tz6:=gP 2 3 (uJ mI nK)
theorem xn4{W:Int}{F:Frt}{n:Int}(nd:(F.map (·.1)).Nodup)(hl:F.length<=800)(hc:∀q∈F,q.2.2.length<=900):zn4 [aJ false W F,.int n]=some (aJ true W (kQ F n)):=by
 have s1:aV 2 (aI (eU "Front" (bY [.im (cB "Front" "steps" (aB 0))]) mI)) [some (aJ false W F),some (.int n),none,none,none]=some (.nx,[some (aJ false W F),some (.int n),some (aJ true W []),none,none]):=bD (xT (uZ (f:=aB 0) (F:=F) rfl))
 obtain⟨p',e,_,y,z,rfl⟩:=zd6 (i:=3) (N:=F.length) (f:=aT (aV 4 (aI (aX (f2 gQ (cB "Front" "best" (aB 0)) (aB 3))))) (cP (cZ 2 bQ (bY [.im (aB 3),.im (cA (aA (aX (f2 dIx (aB 4) (fC (.int 0)))) (aA (f2 cO (f2 dIx (aB 4) (fC (.int 1))) (cA (aA (aX (aB 1)) aE))) aE)))]) (dZ "Front" "add" nK))))
  (fun k A p=>A.length<=k/\∃y z,p=[some (aJ false W F),some (.int n),some (aJ true W A),y,z]) (fun A q=>hU A q.1 (q.2.1,q.2.2++[n])) (L:=F) (p:=[some (aJ false W F),some (.int n),some (aJ true W []),none,none]) (n:=0) (A:=[]) (by omega) ⟨Zb _,none,none,rfl⟩
  (by
   rintro k A p q hk hq ⟨hA,y,z,rfl⟩
   refine⟨_,(aW (bD (bX (ye8 (F:=F) (W:=W) (k:=q.1) rfl rfl (kG nd hq)) (uB q.2)))).trans (zd5 (j:=2) (F:=A) (W:=W) (k:=q.1) (x:=(q.2.1,q.2.2++[n])) rfl rfl (xn3 rfl rfl (hc q hq)) (by omega)),?_,_,_,rfl⟩
   have:=xU A q.1 (q.2.1,q.2.2++[n])
   omega)
 refine eT rfl (bH s1 (bH (nW (i:=3) (zq6 (f:=aB 0) (W:=W) (F:=F) rfl) e) ?_))
 rw [yt3]
 exact⟨_,rfl⟩
theorem wf9{i j:Int}(h1: -100000<=i)(h2:i<=100000):L2.qW i j=true:=by
 unfold L2.qW
 rw [Zr (show-(2^64)<i by omega),Zr (show i<2^64 by omega)];rfl
abbrev xq3:tz6:=gP 2 0 nY
theorem zv1{p:PSt}{f:tz2}{W:Int}(h:f p=some (bU W)):cB "WithinWidth" "width" f p=some (.int W):=by
 unfold cB
 rw [h,Z2]
 simp [bU,yg5,cJ]
theorem wg0{W:Int}{k:Nat}(hW0:0<=W)(hW:W<=40)(hk:k<=1000):xq3 [bU W,.int (k:Int)]=some (.int ((W-k)*(W-k))):=by
 have e:f2 iT (cB "WithinWidth" "width" (aB 0)) (aB 1) [some (bU W),some (.int (k:Int))]=some (.int (W-k)):=aR (zv1 rfl) rfl rfl
 exact lV (p:=[some (bU W),some (.int (k:Int))]) rfl (cE (aR e e (if_pos (wf9 (by omega) (by omega)))))
theorem xn5(k:Nat)(w:Str)(hz:w.length<=1000):pW [.int (k:Int),.str w]=some (.int ((if lfB w=true then w.length-1 else k+w.length:Nat):Int)):=by
 have q:=zq1 w
 have hs:w.length<=sizeLine:=sz hz
 show gP 2 0 (eB sO) _=_
 unfold lfB
 generalize sO=G at q|-
 by_cases c:w.cps.toList[0]? =some 10
 ·rw [Zr c] at q|-
  have h1:1<=w.length:=by
   rw [pP]
   have:=(Z4.mp c).1
   omega
  rw [if_pos rfl,show((w.length-1:Nat):Int)=(w.length:Int)-1 by omega]
  simp! [eB,q,hs]
 ·rw [Zg c] at q|-
  rw [if_neg Za]
  simp! [eB,q,hs]
def zz1:Option (Nat×(Int×Int))->D
 |none=> .non
 |some s=> .tup [.int (s.1:Int),.tup [.int s.2.1,.int s.2.2]]
abbrev zz2:tz6:=gP 5 2 (jZ pV pW sO xq3)
theorem xy1{W:Int}{b:Bool}{m:Int}{l:Leaf}{k:Nat}{c:Int×Int}(hW0:0<=W)(hW1:W<=40)(hl:fR l)(h0:0<=m)(h1:m<=200)(hk:k<=1000):zz2 [bU W,.int (k:Int),.tup [.int c.1,.int c.2],cN l,aL b m]=some (zz1 (jK W b m l k c)):=by
 have q1:=zk7 l b m k hl h0 h1 (by omega)
 have s1:∀P5 P6,aV 5 (aI (aG pV (aA (aB 3) (aA (aB 4) (aA (aB 1) aE))))) [some (bU W),some (.int (k:Int)),some (.tup [.int c.1,.int c.2]),some (cN l),some (aL b m),P5,P6]=some (.nx,[some (bU W),some (.int (k:Int)),some (.tup [.int c.1,.int c.2]),some (cN l),some (aL b m),some (wrD (wr b m k l)),P6]):=fun _ _=>bD (aP (aD rfl (aD rfl (aD rfl rfl))) q1)
 unfold jK
 cases e:wr b m k l with
 |none=>
  rw [e] at s1
  exact eT rfl (bH (s1 none none) (uD ⟨_,(cG (dR (aR rfl rfl rfl))).trans (cE rfl)⟩))
 | some w=>
  rw [e] at s1
  obtain⟨_,hz⟩:=zk6 hl h0 h1 e
  have q2:=xn5 k w (by omega)
  have q3:=zq1 w
  have q4:=wg0 hW0 hW1 hk
  rw [Z2]
  generalize hK:(if lfB w=true then w.length-1 else k+w.length:Nat)=K at q2|-
  have s2:∀P6,fIf (aU (fB (f2 dIs (aB 5) (fC .non)))) (bW (aI (fC .non))) bC [some (bU W),some (.int (k:Int)),some (.tup [.int c.1,.int c.2]),some (cN l),some (aL b m),some (.str w),P6]=some (.nx,[some (bU W),some (.int (k:Int)),some (.tup [.int c.1,.int c.2]),some (cN l),some (aL b m),some (.str w),P6]):=fun _=>aZ (dR (aR rfl rfl rfl))
  have s3:aV 6 (aI (aG pW (aA (aB 1) (aA (aB 5) aE)))) [some (bU W),some (.int (k:Int)),some (.tup [.int c.1,.int c.2]),some (cN l),some (aL b m),some (.str w),none]=some (.nx,[some (bU W),some (.int (k:Int)),some (.tup [.int c.1,.int c.2]),some (cN l),some (aL b m),some (.str w),some (.int (K:Int))]):=bD (aP (aD rfl (aD rfl rfl)) q2)
  refine eT rfl (bH (s1 none none) (bH (s2 none) (bH s3 ?_)))
  ·have c1:fB (f2 dGt (aB 6) (cB "WithinWidth" "width" (aB 0))) [some (bU W),some (.int (k:Int)),some (.tup [.int c.1,.int c.2]),some (cN l),some (aL b m),some (.str w),some (.int (K:Int))]=some (decide (W<(K:Int))):=dR (aR rfl (zv1 rfl) rfl)
   by_cases hW:W<(K:Int)
   ·rw [if_pos hW]
    rw [Zr hW] at c1
    exact uD ⟨_,(cG c1).trans (cE rfl)⟩
   ·rw [if_neg hW]
    rw [Zg hW] at c1
    refine bH (aZ c1) ?_
    have c2:fT (aG sO (aA (aB 5) aE)) [some (bU W),some (.int (k:Int)),some (.tup [.int c.1,.int c.2]),some (cN l),some (aL b m),some (.str w),some (.int (K:Int))]=some (lfB w):=nF (aP (aD rfl rfl) q3)
    have x0:f2 dIx (aB 2) (fC (.int 0)) [some (bU W),some (.int (k:Int)),some (.tup [.int c.1,.int c.2]),some (cN l),some (aL b m),some (.str w),some (.int (K:Int))]=some (.int c.1):=aR rfl rfl (kF _ _)
    have x1:f2 dIx (aB 2) (fC (.int 1)) [some (bU W),some (.int (k:Int)),some (.tup [.int c.1,.int c.2]),some (cN l),some (aL b m),some (.str w),some (.int (K:Int))]=some (.int c.2):=aR rfl rfl (jM _ _ _)
    cases lf:lfB w with
    | true=>
     rw [lf] at c2
     have x2:qX "WithinWidth" "rag_of" (aB 0) [some (bU W),some (.int (k:Int)),some (.tup [.int c.1,.int c.2]),some (cN l),some (aL b m),some (.str w),some (.int (K:Int))]=some (bU W):=by
      show zd9 "WithinWidth" "rag_of" (bU W)=_
      unfold zd9 bU
      exact if_pos ⟨rfl,by simp [cJ,fZ]⟩
     have x3:=aP (h:=xq3) (aD x2 (aD (f:=aB 1) (g:=aE) (d:= .int (k:Int)) rfl rfl)) q4
     refine uD ⟨_,(cG c2).trans (cE (eM (aD (bX rfl rfl) (aD (eM (aD (aR x0 rfl rfl) (aD (aR x1 x3 rfl) rfl)) rfl (by simp)) rfl)) rfl (by simp)))⟩
    |false=>
     rw [lf] at c2
     exact bH (aZ c2) ⟨_,cE (eM (aD (bX rfl rfl) (aD (bX rfl rfl) rfl)) rfl (by simp))⟩
abbrev ze2:tz6:=gP 3 4 (rX mI zz2 nK)
theorem xe8{W:Int}{F:Frt}{b:Bool}{m:Int}{l:Leaf}(hW0:0<=W)(hW1:W<=40)(hl:fR l)(h0:0<=m)(h1:m<=200)(nd:(F.map (·.1)).Nodup)(hF:F.length<=800)(hk:∀q∈F,q.1<=1000):
  ze2 [aJ false W F,cN l,aL b m]=some (aJ true W (jX W b m l F [])):=by
 have s1:aV 3 (aI (eU "Front" (bY [.im (cB "Front" "steps" (aB 0))]) mI)) [some (aJ false W F),some (cN l),some (aL b m),none,none,none,none]=some (.nx,[some (aJ false W F),some (cN l),some (aL b m),some (aJ true W []),none,none,none]):=bD (xT (uZ (f:=aB 0) (F:=F) rfl))
 obtain⟨p',e,_,x,y,z,rfl⟩:=zd6 (i:=4) (N:=F.length) (f:=aT (aV 5 (aI (aX (f2 gQ (cB "Front" "best" (aB 0)) (aB 4)))))
  (aT (aV 6 (aI (aG zz2 (aA (qX "WithinWidth" "state_behind" (cB "Front" "steps" (aB 0))) (aA (aB 4) (aA (f2 dIx (aB 5) (fC (.int 0))) (aA (aB 1) (aA (aB 2) aE))))))))
  (fIf (aU (fB (f2 za5 (aB 6) (fC .non)))) (cP (cZ 3 bQ (bY [.im (f2 dIx (aB 6) (fC (.int 0))),.im (cA (aA (aX (f2 dIx (aB 6) (fC (.int 1)))) (aA (aX (f2 dIx (aB 5) (fC (.int 1)))) aE)))]) (dZ "Front" "add" nK))) bC)))
  (fun k A p=>A.length<=k/\∃x y z,p=[some (aJ false W F),some (cN l),some (aL b m),some (aJ true W A),x,y,z]) (fun G p=>match jK W b m l p.1 p.2.1 with
   |none=>G
   |some s=>hU G s.1 (s.2,p.2.2)) (L:=F) (p:=[some (aJ false W F),some (cN l),some (aL b m),some (aJ true W []),none,none,none]) (n:=0) (A:=[]) (by omega) ⟨Zb _,none,none,none,rfl⟩
  (by
   rintro k A p q hn hq ⟨hA,x,y,z,rfl⟩
   have t1:aV 5 (aI (aX (f2 gQ (cB "Front" "best" (aB 0)) (aB 4)))) [some (aJ false W F),some (cN l),some (aL b m),some (aJ true W A),some (.int (q.1:Int)),y,z]=some (.nx,[some (aJ false W F),some (cN l),some (aL b m),some (aJ true W A),some (.int (q.1:Int)),some (wyD q.2),z]):=bD (bX (ye8 (F:=F) (W:=W) (k:=q.1) rfl rfl (kG nd hq)) (uB q.2))
   have r1:qX "WithinWidth" "state_behind" (cB "Front" "steps" (aB 0)) [some (aJ false W F),some (cN l),some (aL b m),some (aJ true W A),some (.int (q.1:Int)),some (wyD q.2),z]=some (bU W):=by
    unfold qX
    rw [uZ (f:=aB 0) (o:=false) (W:=W) (F:=F) rfl,Z2]
    unfold zd9 bU
    exact if_pos ⟨rfl,by simp [cJ,fZ]⟩
   have t2:aV 6 (aI (aG zz2 (aA (qX "WithinWidth" "state_behind" (cB "Front" "steps" (aB 0))) (aA (aB 4) (aA (f2 dIx (aB 5) (fC (.int 0))) (aA (aB 1) (aA (aB 2) aE))))))) [some (aJ false W F),some (cN l),some (aL b m),some (aJ true W A),some (.int (q.1:Int)),some (wyD q.2),z]=some (.nx,[some (aJ false W F),some (cN l),some (aL b m),some (aJ true W A),some (.int (q.1:Int)),some (wyD q.2),some (zz1 (jK W b m l q.1 q.2.1))]):=
    bD (aP (aD r1 (aD rfl (aD (yn3 rfl) (aD rfl (aD rfl rfl))))) (xy1 hW0 hW1 hl h0 h1 (hk q hq)))
   cases es:jK W b m l q.1 q.2.1 with
   |none=>
    rw [es] at t2
    exact⟨_,(aW t1).trans ((aW t2).trans (aZ (dR (aR rfl rfl rfl)))),Wv hA,_,_,_,rfl⟩
   |some s=>
    rw [es] at t2
    have w0:f2 dIx (aB 6) (fC (.int 0)) [some (aJ false W F),some (cN l),some (aL b m),some (aJ true W A),some (.int (q.1:Int)),some (wyD q.2),some (zz1 (some s))]=some (.int (s.1:Int)):=aR rfl rfl (kF _ _)
    have w1:f2 dIx (aB 6) (fC (.int 1)) [some (aJ false W F),some (cN l),some (aL b m),some (aJ true W A),some (.int (q.1:Int)),some (wyD q.2),some (zz1 (some s))]=some (.tup [.int s.2.1,.int s.2.2]):=aR rfl rfl (jM _ _ _)
    refine⟨_,(aW t1).trans ((aW t2).trans ((cG (dR (aR rfl rfl rfl))).trans (zd5 (j:=3) (F:=A) (W:=W) (k:=s.1) (x:=(s.2,q.2.2)) rfl w0 (zh8 (x:=(s.2,q.2.2)) (bX w1 rfl) (bX (yn4 (x:=q.2) rfl) (jF q.2.2))) (by omega)))),?_,_,_,_,rfl⟩
    have:=xU A s.1 (s.2,q.2.2)
    show(hU A s.1 (s.2,q.2.2)).length<=_
    omega)
 exact eT rfl (bH s1 (bH (nW (i:=4) (zq6 (f:=aB 0) (W:=W) (F:=F) rfl) e) ⟨_,rfl⟩))
mutual
theorem ye9:∀{p:Pc} {b:Bool} {m:Int} {cs cs':List Int} {t t':Str},cS b m p cs t=some (cs',t')->cs.length<=cs'.length+(dE p).length
 | .leaf l,b,m,cs,cs',t,t',h=>by
  rw [cS] at h
  cases e:wr b m (col t) l with
  |none=>rw [e] at h;cases h
  |some w=>rw [e] at h;cases h;omega
 | .group r,b,m,cs,cs',t,t',h=>by
  rw [cS.eq_def] at h
  simp only at h
  have hl:(dE (.group r)).length=(toksR r).length+2:=by simp [dE]
  cases b with
  |false=>
   simp only [ZQ,Yy] at h
   have:=setR_len h
   omega
  | true=>
   cases cs with
   |nil=>simp at h
   | cons c cs=>
    simp only [ZW] at h
    rw [Z6]
    by_cases c0:c=0
    ·simp only [c0,ZW] at h;have:=setR_len h;omega
    ·by_cases c1:c=1
     ·simp only [c1,ZW] at h;have:=setR_len h;omega
     ·simp [c0,c1] at h
 | .hang n r,b,m,cs,cs',t,t',h=>by
  rw [cS] at h
  have hl:(dE (.hang n r)).length=(toksR r).length+2:=by simp [dE]
  have:=setR_len h
  omega
 | .either rs,b,m,cs,cs',t,t',h=>by
  rw [cS.eq_def] at h
  have hl:(dE (.either rs)).length=(toksRows rs).length+2:=by simp [dE]
  cases cs with
  |nil=>cases h
  |cons c cs=>
   simp only at h
   rw [Z6]
   by_cases c0:0<=c
   ·simp only [c0,ZW] at h;have:=setAt_len h;omega
   ·simp [c0] at h
theorem setR_len:∀{r:List Pc} {b:Bool} {m:Int} {cs cs':List Int} {t t':Str},setR b m r cs t=some (cs',t')->cs.length<=cs'.length+(toksR r).length
 |[],b,m,cs,cs',t,t',h=>by rw [setR] at h;cases h;omega
 | p::r,b,m,cs,cs',t,t',h=>by
  rw [setR] at h
  cases e:cS b m p cs t with
  |none=>rw [e] at h;cases h
  |some s=>
   obtain⟨c1,t1⟩:=s
   rw [e] at h
   have h1:=ye9 e
   have h2:=setR_len (cs:=c1) (t:=t1) h
   rw [toksR,Z5]
   omega
theorem setAt_len:∀{rs:List (List Pc)} {i:Nat} {b:Bool} {m:Int} {cs cs':List Int} {t t':Str},setAt b m rs i cs t=some (cs',t')->cs.length<=cs'.length+(toksRows rs).length
 |[],i,b,m,cs,cs',t,t',h=>by rw [setAt] at h;cases h
 |r::rs,0,b,m,cs,cs',t,t',h=>by
  rw [setAt] at h
  have:=setR_len h
  rw [toksRows,Z5]
  omega
 | r::rs,i+1,b,m,cs,cs',t,t',h=>by
  rw [setAt] at h
  have h1:=setAt_len h
  rw [toksRows,Z5]
  cases rs with
  |nil=>rw [setAt] at h;cases h
  |cons q qs=>
   rw [toksRows,Z5] at h1
   rw [toksMore,Z6,Z5]
   omega
end
def Few(N:Nat)(R:List Int->Str->Prop):Prop:=∀c t,R c t->c.length<=N
theorem xn6{N:Nat}{R:List Int->Str->Prop}{b:Bool}{m:Int}{p:Pc}(h:Few N R):Few (N+(dE p).length) (Aft R (cS b m p)):=by
 rintro c t ⟨c0,t0,c1,r,rfl,e⟩
 have h1:=h c0 t0 r
 have h2:=ye9 e
 rw [ZU] at h2
 rw [Z5];omega
theorem xe9{N:Nat}{R:List Int->Str->Prop}{n:Int}(h:Few N R):Few (N+1) (zz0 R n):=by
 rintro c t ⟨c0,r,rfl⟩
 have:=h c0 t r
 rw [Z5]
 show c0.length+1<=_
 omega
theorem yf0:∀{n:Nat} {l:List Nat},l.Nodup->(∀x∈l,x<n)->l.length<=n
 |0,l,_,h=>by
  cases l with
  |nil=>exact Zb _
  |cons a l=>exact absurd (h a Z0) (YH _)
 | n+1,l,nd,h=>by
  have h2:=yf0 (n:=n) (nd.erase n) fun x hx=>by
   have h3:=h x (List.mem_of_mem_erase hx)
   have h4:x≠n:=fun z=>by
    rw [z] at hx
    exact absurd hx nd.not_mem_erase
   omega
  by_cases hm:n∈l
  ·rw [List.length_erase_of_mem hm] at h2;omega
  ·rw [List.erase_of_not_mem hm] at h2;omega
theorem Good.key{W:Int}{R:List Int->Str->Prop}{F:Frt}(h:Good W R F)(hW:W<=40){q:Nat×Way}(hq:q∈F):q.1<=40:=by
 obtain⟨t,_,xs,y,_,h2,h3,_⟩:=h.hit q hq
 have:=h2 y (by simp)
 omega
theorem Good.len{W:Int}{R:List Int->Str->Prop}{F:Frt}(h:Good W R F)(hW:W<=40):F.length<=41:=by
 have:=yf0 (n:=41) h.nd fun x hx=>by
  obtain⟨q,hq,rfl⟩:=ZP.mp hx
  have:=h.key hW hq
  omega
 rwa [Z7] at this
theorem Good.few{W:Int}{R:List Int->Str->Prop}{F:Frt}{N:Nat}(h:Good W R F)(hN:Few N R){q:Nat×Way}(hq:q∈F):q.2.2.length<=N:=by
 obtain⟨t,r,_⟩:=h.hit q hq
 exact hN _ _ r
theorem xf0(W:Int)(F:Frt):yv2 (aJ true W F)=some (aJ false W F):=by
 have h:=uC F
 unfold aJ yv2
 exact if_pos ⟨rfl,h⟩
theorem uE{f:tz2}{p:PSt}{W:Int}{F:Frt}(h:f p=some (aJ true W F)):jH f p=some (aJ false W F):=by
 unfold jH
 rw [h,Z2,xf0]
abbrev rK(GR:tz6):tz6:=gP 3 4 (qY mI vM mF zn4 yv5 GR)
def zz3(GR:tz6):tz1:=aT (aV 6 (aI (aX (aB 0))))
 (aT (fIf (aU (fT (aG mF (aA (aB 1) (aA (aB 2) aE))))) (aV 6 (aI (jH (aG zn4 (aA (aB 0) (aA (aB 4) aE)))))) bC)
 (cP (cZ 3 bQ (bY [.im (aG GR (aA (aB 6) (aA (f2 dIx (aB 5) (fC (.int 0))) (aA (f2 dIx (aB 5) (fC (.int 1))) aE))))]) (dZ "Front" "add_all" yv5))))
theorem xf1{GR:tz6}{W:Int}{F A Z:Frt}{p:Pc}{b:Bool}{m:Int}{n:Nat}{x:List Pc×Bool×Int}{y:Option D}(hp:nD p=true)(nd:(F.map (·.1)).Nodup)(hF:F.length<=41)(hc:∀q∈F,q.2.2.length<=900)
  (hG:GR [aJ false W (if cT b p=true then kQ F n else F),.tup (pcsD x.1),aL x.2.1 x.2.2]=some (aJ false W Z)) (ndZ:(Z.map (·.1)).Nodup) (hZ:A.length+Z.length<=800):
  ∃z,zz3 GR [some (aJ false W F),some (pcD p),some (aL b m),some (aJ true W A),some (.int (n:Int)),some (eA x),y]=some (.nx,[some (aJ false W F),some (pcD p),some (aL b m),some (aJ true W (jW A Z)),some (.int (n:Int)),some (eA x),z]):=by
 have t1:aV 6 (aI (aX (aB 0))) [some (aJ false W F),some (pcD p),some (aL b m),some (aJ true W A),some (.int (n:Int)),some (eA x),y]=some (.nx,[some (aJ false W F),some (pcD p),some (aL b m),some (aJ true W A),some (.int (n:Int)),some (eA x),some (aJ false W F)]):=bD (bX rfl (za0 W F))
 have q2:=yd9 p b m hp
 have c2:fT (aG mF (aA (aB 1) (aA (aB 2) aE))) [some (aJ false W F),some (pcD p),some (aL b m),some (aJ true W A),some (.int (n:Int)),some (eA x),some (aJ false W F)]=some (cT b p):=nF (aP (aD rfl (aD rfl rfl)) q2)
 have t2:fIf (aU (fT (aG mF (aA (aB 1) (aA (aB 2) aE))))) (aV 6 (aI (jH (aG zn4 (aA (aB 0) (aA (aB 4) aE)))))) bC [some (aJ false W F),some (pcD p),some (aL b m),some (aJ true W A),some (.int (n:Int)),some (eA x),some (aJ false W F)]=some (.nx,[some (aJ false W F),some (pcD p),some (aL b m),some (aJ true W A),some (.int (n:Int)),some (eA x),some (aJ false W (if cT b p=true then kQ F n else F))]):=by
  cases tk:cT b p with
  |true=>
   rw [tk] at c2
   exact(cG c2).trans (bD (uE (aP (aD rfl (aD rfl rfl)) (xn4 nd (by omega) hc))))
  |false=>
   rw [tk] at c2
   exact aZ c2
 generalize (if cT b p=true then kQ F n else F)=F' at hG t2
 have x0:f2 dIx (aB 5) (fC (.int 0)) [some (aJ false W F),some (pcD p),some (aL b m),some (aJ true W A),some (.int (n:Int)),some (eA x),some (aJ false W F')]=some (.tup (pcsD x.1)):=aR rfl rfl (kF _ _)
 have x1:f2 dIx (aB 5) (fC (.int 1)) [some (aJ false W F),some (pcD p),some (aL b m),some (aJ true W A),some (.int (n:Int)),some (eA x),some (aJ false W F')]=some (aL x.2.1 x.2.2):=aR rfl rfl (jM _ _ _)
 have x2:=aP (h:=GR) (aD (f:=aB 6) (d:=aJ false W F') rfl (aD x0 (aD (g:=aE) x1 rfl))) hG
 exact⟨_,(aW t1).trans ((aW t2).trans (tY (yn2 (j:=3) rfl (pN x2 (za0 W Z) pM) (xe6 (by simp [cJ,fZ]) (wf8 ndZ hZ)))))⟩
theorem zv2{GR:tz6}{GA:Bool->Int->List Pc->Frt->Frt}{W:Int}{F:Frt}{p:Pc}{b:Bool}{m:Int}(hp:nD p=true)(nd:(F.map (·.1)).Nodup)(hF:F.length<=41)(hc:∀q∈F,q.2.2.length<=900):∀(xs:List (List Pc×Bool×Int)) (n:Nat) (A:Frt) (y4 y5 y6:Option D),
  (∀(i:Nat) x,xs[i]? =some x->∃Z,Z=GA x.2.1 x.2.2 x.1 (if cT b p=true then kQ F (n+i:Nat) else F)/\GR [aJ false W (if cT b p=true then kQ F (n+i:Nat) else F),.tup (pcsD x.1),aL x.2.1 x.2.2]=some (aJ false W Z)/\(Z.map (·.1)).Nodup/\Z.length<=41)->A.length+41*xs.length<=400->
  ∃z4 z5 z6,nA [4,5] (zz3 GR) (mP n (xs.map eA)) [some (aJ false W F),some (pcD p),some (aL b m),some (aJ true W A),y4,y5,y6]=some (.nx,[some (aJ false W F),some (pcD p),some (aL b m),some (aJ true W (frW GA (cT b p) F n xs A)),z4,z5,z6])
 |[],n,A,y4,y5,y6,_,_=>⟨y4,y5,y6,rfl⟩
 | x::xs,n,A,y4,y5,y6,hG,hA=>by
  rw [Z6] at hA
  obtain⟨Z,e1,e2,e3,e4⟩:=hG 0 x rfl
  rw [Xo] at e1 e2
  obtain⟨z,t⟩:=xf1 (m:=m) (A:=A) (y:=y6) hp nd hF hc e2 e3 (by omega)
  have hl:=zl1 Z A
  obtain⟨z4,z5,z6,ih⟩:=zv2 (m:=m) hp nd hF hc xs (n+1) (jW A Z) (some (.int (n:Int))) (some (eA x)) z (fun i y hy=>by
   have:=hG (i+1) y (by simpa using hy)
   rwa [show n+(i+1)=n+1+i by omega] at this) (by omega)
  refine⟨z4,z5,z6,?_⟩
  rw [Z8,mP,nA]
  show(some [D.int (n:Int),eA x]).bind _=_
  rw [Z2,if_pos (show [D.int (n:Int),eA x].length=[4,5].length from rfl)]
  show(zz3 GR [some (aJ false W F),some (pcD p),some (aL b m),some (aJ true W A),some (.int (n:Int)),some (eA x),y6]).bind _=_
  rw [frW,<-e1]
  rw [t,Z2]
  exact ih
theorem xn7{GR:tz6}{GA:Bool->Int->List Pc->Frt->Frt}{W:Int}{F:Frt}{p:Pc}{b:Bool}{m:Int}(hp:nD p=true)(ho:okP p)(nd:(F.map (·.1)).Nodup)(hF:F.length<=41)(hc:∀q∈F,q.2.2.length<=900)
  (hG:∀(i:Nat) x,(cK b m p)[i]? =some x->∃Z,Z=GA x.2.1 x.2.2 x.1 (if cT b p=true then kQ F i else F)/\GR [aJ false W (if cT b p=true then kQ F i else F),.tup (pcsD x.1),aL x.2.1 x.2.2]=some (aJ false W Z)/\(Z.map (·.1)).Nodup/\Z.length<=41):
  rK GR [aJ false W F,pcD p,aL b m]=some (aJ true W (frW GA (cT b p) F 0 (cK b m p) [])):=by
 have h4:(cK b m p).length<=4:=by
  cases p with
  |leaf l=>simp [cK]
  |group r=>cases b<;>simp [cK]
  |hang k r=>simp [cK]
  |either rs=>have:=ho.1.2;simpa [cK] using this
 have hn:ze1 p<=1000:=by
  cases p with
  |either rs=>have:=ho.1.2;show rs.length<=1000;omega
  |_=>exact ZK _
 have q1:=ym5 p b m hp hn
 have him:D.imms ((cK b m p).map eA)=true:=by
  generalize cK b m p=xs
  induction xs with
  |nil=>rfl
  |cons x xs ih=>
   show(D.imm (eA x)&&D.imms (xs.map eA))=true
   rw [zd1,ih];rfl
 have s1:aV 3 (aI (eU "Front" (bY [.im (cB "Front" "steps" (aB 0))]) mI)) [some (aJ false W F),some (pcD p),some (aL b m),none,none,none,none]=some (.nx,[some (aJ false W F),some (pcD p),some (aL b m),some (aJ true W []),none,none,none]):=bD (xT (uZ (f:=aB 0) (F:=F) rfl))
 obtain⟨z4,z5,z6,e⟩:=zv2 (m:=m) hp nd hF hc (cK b m p) 0 [] none none none (fun i x hx=>by rw [YI];exact hG i x hx) (by show 0+_<=_;omega)
 have s2:zy7 [4,5] (zy8 (aG vM (aA (aB 1) (aA (aB 2) aE)))) (zz3 GR) [some (aJ false W F),some (pcD p),some (aL b m),some (aJ true W []),none,none,none]=some (.nx,[some (aJ false W F),some (pcD p),some (aL b m),some (aJ true W (frW GA (cT b p) F 0 (cK b m p) [])),z4,z5,z6]):=by
  unfold zy7 zy8
  rw [aP (h:=vM) (aD (f:=aB 1) (d:=pcD p) rfl (aD (f:=aB 2) (d:=aL b m) (g:=aE) rfl rfl)) q1,Z2]
  show((if D.imms ((cK b m p).map eA)=true then some ((cK b m p).map eA) else none).map (mP 0)).bind _=_
  rw [if_pos him]
  exact e
 exact eT rfl (bH s1 (bH s2 ⟨_,rfl⟩))
def yL:Nat->tz6
 |0=>fun _=>none
 |n+1=>gP 3 2 (oV kX (rK (yL n)) ze2)
def zb8(GH:tz6):tz1:=fIf (aU (fT (aG kX (aA (aB 4) aE))))
 (aV 3 (aI (jH (aG GH (aA (aB 3) (aA (aB 4) (aA (aB 2) aE)))))))
 (aV 3 (aI (jH (aG ze2 (aA (aB 3) (aA (aB 4) (aA (aB 2) aE)))))))
def xq4(W:Int)(GR:tz6)(GA:Bool->Int->List Pc->Frt->Frt)(r:List Pc):Prop:=∀(b:Bool) (m:Int) (R:List Int->Str->Prop) (F:Frt) (N:Nat),0<=m->m+12*depR r<=200->Good W R F->Few N R->N+(toksR r).length<=900->
 GR [aJ false W F,.tup (pcsD r),aL b m]=some (aJ false W (GA b m r F))
theorem yt4{b:Bool}{m:Int}{p:Pc}{x:List Pc×Bool×Int}(hx:x∈cK b m p):(toksR x.1).length+1<=(dE p).length:=by
 cases p with
 |leaf l=>simp [cK] at hx
 | group r=>
  have:x.1=r:=by
   cases b<;>simp [cK] at hx
   ·subst hx;rfl
   ·rcases hx with e|e<;>subst e<;>rfl
  rw [this];simp [dE]
 |hang n r=>
  simp [cK] at hx
  subst hx;simp [dE]
 |either rs=>
  obtain⟨r,hm,rfl⟩:=ZP.mp (show x∈rs.map fun r=>(r,b,m) from hx)
  have:=zf3 hm
  simp [dE];omega
theorem xy2{W:Int}{GR:tz6}{GA:Bool->Int->List Pc->Frt->Frt}{k:Nat}(hW0:0<=W)(hW1:W<=40)(hG:∀r,depR r<k->okR r->pX W GA r)(hD:∀r,depR r<k->okR r->xq4 W GR GA r)
  {b:Bool} {m:Int} {R:List Int->Str->Prop} {F:Frt} {N:Nat} {p:Pc} {Y0 Y1:Option D} (hk:eV p<=k) (ho:okP p) (h0:0<=m) (h1:m+12*eV p<=200) (hF:Good W R F) (hN:Few N R) (hT:N+(dE p).length<=900):
  zb8 (rK GR) [Y0,Y1,some (aL b m),some (aJ false W F),some (pcD p)]=some (.nx,[Y0,Y1,some (aL b m),some (aJ false W (frP W GA b m F p)),some (pcD p)]):=by
 have c1:fT (aG kX (aA (aB 4) aE)) [Y0,Y1,some (aL b m),some (aJ false W F),some (pcD p)]=some (nD p):=nF (aP (aD rfl rfl) (zh3 p))
 have hl:=hF.len hW1
 have hc:∀q∈F,q.2.2.length<=900:=fun q hq=>by have:=hF.few hN hq;omega
 have hold:nD p=true->zb8 (rK GR) [Y0,Y1,some (aL b m),some (aJ false W F),some (pcD p)]=some (.nx,[Y0,Y1,some (aL b m),some (aJ false W (frW GA (cT b p) F 0 (cK b m p) [])),some (pcD p)]):=fun hp=>by
  rw [hp] at c1
  refine(cG c1).trans (bD (uE (aP (aD rfl (aD rfl (aD rfl rfl))) (xn7 (GA:=GA) hp ho hF.nd hl hc fun i x hx=> ?_))))
  have hm:=ZL hx
  obtain⟨a1,a2,a3,a4⟩:=zh7 ho h0 h1 hk hm
  have ht:=yt4 hm
  have gg:∀(R':List Int->Str->Prop) (F':Frt),Good W R' F'->Few (N+1) R'->∃Z,Z=GA x.2.1 x.2.2 x.1 F'/\GR [aJ false W F',.tup (pcsD x.1),aL x.2.1 x.2.2]=some (aJ false W Z)/\(Z.map (·.1)).Nodup/\Z.length<=41:=fun R' F' hR hf=>by
   have g:=hG x.1 a3 a4 x.2.1 x.2.2 R' F' a1 a2 hR
   exact⟨_,rfl,hD x.1 a3 a4 x.2.1 x.2.2 R' F' (N+1) a1 a2 hR hf (by omega),g.nd,g.len hW1⟩
  by_cases tk:cT b p=true
  ·rw [if_pos tk]
   exact gg _ _ (xP hF i) (xe9 hN)
  ·rw [if_neg tk]
   exact gg _ _ hF fun c t h=>Wv (hN c t h)
 cases p with
 |leaf l=>
  have hm:m<=200:=by rw [eV] at h1;omega
  exact(uV (nP c1)).trans (bD (uE (aP (aD rfl (aD rfl (aD rfl rfl))) (xe8 hW0 hW1 ho h0 hm hF.nd (by omega) fun q hq=>by have:=hF.key hW1 hq;omega))))
 |group r=>exact hold rfl
 |hang n r=>exact hold rfl
 |either rs=>exact hold rfl
theorem xf2{W:Int}{GR:tz6}{GA:Bool->Int->List Pc->Frt->Frt}{k:Nat}(hW0:0<=W)(hW1:W<=40)(hG:∀r,depR r<k->okR r->pX W GA r)(hD:∀r,depR r<k->okR r->xq4 W GR GA r){b:Bool}{m:Int}{Y0 Y1:Option D}(h0:0<=m):∀(r:List Pc) (R:List Int->Str->Prop) (F:Frt) (N:Nat) (y:Option D),depR r<=k->okR r->m+12*depR r<=200->Good W R F->Few N R->N+(toksR r).length<=900->
  ∃z,dC 4 (zb8 (rK GR)) (pcsD r) [Y0,Y1,some (aL b m),some (aJ false W F),y]=some (.nx,[Y0,Y1,some (aL b m),some (aJ false W (r.foldl (fun F p=>frP W GA b m F p) F)),z])
 |[],R,F,N,y,_,_,_,_,_,_=>⟨y,rfl⟩
 |p::r,R,F,N,y,hk,ho,h1,hF,hN,hT=>by
  rw [depR] at hk h1
  rw [toksR,Z5] at hT
  have q1:=xy2 hW0 hW1 hG hD (b:=b) (Y0:=Y0) (Y1:=Y1) (show eV p<=k by omega) ho.1 h0 (by omega) hF hN (by omega)
  obtain⟨z,e⟩:=xf2 hW0 hW1 hG hD h0 r _ _ _ (some (pcD p)) (by omega) ho.2 (by omega) (xQ hG (b:=b) (show eV p<=k by omega) ho.1 h0 (by omega) hF) (xn6 hN) (by omega)
  refine⟨z,?_⟩
  show dC 4 _ (pcD p::pcsD r) _=_
  rw [dC]
  show((zb8 (rK GR) [Y0,Y1,some (aL b m),some (aJ false W F),some (pcD p)]).bind _)=_
  rw [q1];exact e
theorem yn5{W:Int}(hW0:0<=W)(hW1:W<=40):∀(n:Nat) (r:List Pc),depR r<n->okR r->xq4 W (yL n) (frN W n) r
 |0,_,h,_=>absurd h (YH _)
 |n+1,r,hd,ho=>fun b m R F N h0 h1 hF hN hT=>by
  obtain⟨z,e⟩:=xf2 (GR:=yL n) (GA:=frN W n) (k:=n) (Y0:=some (aJ false W F)) (Y1:=some (.tup (pcsD r))) hW0 hW1 (fun q h2 h3=>xR n q h2 h3) (fun q h2 h3=>yn5 hW0 hW1 n q h2 h3) h0 r R F N none (by omega) ho h1 hF hN hT
  have s1:aV 3 (aI (aX (aB 0))) [some (aJ false W F),some (.tup (pcsD r)),some (aL b m),none,none]=some (.nx,[some (aJ false W F),some (.tup (pcsD r)),some (aL b m),some (aJ false W F),none]):=bD (bX rfl (za0 W F))
  have s2:fJ 4 (dP (aB 1)) (zb8 (rK (yL n))) [some (aJ false W F),some (.tup (pcsD r)),some (aL b m),some (aJ false W F),none]=some (.nx,[some (aJ false W F),some (.tup (pcsD r)),some (aL b m),some (aJ false W (frN W (n+1) b m r F)),z]):=nW rfl e
  show gP 3 2 (oV kX (rK (yL n)) ze2) _=_
  exact eT rfl (bH s1 (bH s2 ⟨_,rfl⟩))
abbrev zb9:tz7:=gE 2 0 (bR [true,false]) lG
theorem wg1(W:Int):zb9 [.obj true "WithinWidth" [] [],.int W]=some (.non,[.obj true "WithinWidth" ["width"] [.int W],.int W]):=by
 simp [gE,lG,gW,wR,cJ,aX,aB,bQ,gC,zi0,bR,D.imm]
theorem xf3{p:PSt}{f:tz2}{W:Int}(h:f p=some (.int W)):mX (eU "WithinWidth" (bY [.im f]) zb9) p=some (bU W):=by
 have i:=wg1 W
 unfold mX
 have e:eU "WithinWidth" (bY [.im f]) zb9 p=some (.obj true "WithinWidth" ["width"] [.int W]):=by
  unfold eU
  rw [pN h rfl pM,Z2,i];rfl
 rw [e];rfl
abbrev uM:tz6:=gP 1 0 yX
abbrev zz4:tz6:=gP 2 0 (vG uM)
abbrev yh4:tz6:=gP 2 2 (yG zz4 uM)
theorem xf4:uM [.str ""]=some (.lst true [.str ""]):=by kernel_rfl
theorem wl7{W:Int}(hW:0<=W):zz4 [.str "",.int W]=some (.bl true):=by
 have q:=xf4
 have e:("":Str).length=0:=by decide+kernel
 show gP 2 0 (vG uM) _=_
 generalize uM=G at q|-
 have z:(0:Nat)<=sizeLine:=ZK _
 have z1:1<=sizeLine:=sz (by decide)
 simp! [vG,fQ,dP,q,jN,eZ,rP,fK,zr5,D.bools,e,hW,z,z1]
theorem wg2{W:Int}(hW:0<=W):yh4 [.str "",.int W]=some (.tup [.int 1,.int 0]):=by
 have q:=xf4
 have f:=wl7 hW
 show gP 2 2 (yG zz4 uM) _=_
 generalize zz4=G1 at f|-
 generalize uM=G2 at q|-
 have s1:fIf (aU (cM (fT (aG G1 (aA (aB 0) (aA (aB 1) aE)))))) (bW (aI (fC .non))) bC [some (.str ""),some (.int W),none,none]=some (.nx,[some (.str ""),some (.int W),none,none]):=aZ (gB (nF (aP (aD rfl (aD rfl rfl)) f)))
 have s2:aV 2 (aI (aG G2 (aA (aB 0) aE))) [some (.str ""),some (.int W),none,none]=some (.nx,[some (.str ""),some (.int W),some (.lst true [.str ""]),none]):=bD (aP (aD rfl rfl) q)
 have e3:fSl (aB 2) lB (nG (dN (fC (.int 1)))) [some (.str ""),some (.int W),some (.lst true [.str ""]),none]=some (.lst true []):=by rfl
 have s3:aV 3 (aI (aG yu8 (aA (fQ [none,some 1] (dP (fSl (aB 2) lB (nG (dN (fC (.int 1)))))) fK (f2 nR (f2 iT (aB 1) (aG eI (aA (aB 0) aE))) (f2 iT (aB 1) (aG eI (aA (aB 0) aE))))) aE))) [some (.str ""),some (.int W),some (.lst true [.str ""]),none]=some (.nx,[some (.str ""),some (.int W),some (.lst true [.str ""]),some (.int 0)]):=by
  refine bD (aP (aD (d:= .lst true []) ?_ rfl) rfl)
  unfold fQ dP
  rw [e3]
  rfl
 refine eT rfl (bH s1 (bH s2 (bH s3 ⟨_,cE (eM (aD (d:= .int 1) ?_ (aD (bX rfl rfl) rfl)) rfl (by simp))⟩)))
 exact aP (aD (g:=aE) rfl rfl) rfl
abbrev rL:tz6:=gP 1 2 (uK mI zb9 yh4 nK)
theorem xW{W:Int}(hW:0<=W):rL [.int W]=some (aJ true W [(0,((1,0),[]))]):=by
 have p0:=wg2 hW
 have s1:aV 1 (aI (eU "Front" (bY [.im (mX (eU "WithinWidth" (bY [.im (aB 0)]) zb9))]) mI)) [some (.int W),none,none]=some (.nx,[some (.int W),some (aJ true W []),none]):=bD (xT (xf3 rfl))
 have s2:aV 2 (aI (aG yh4 (aA (fC (.str "")) (aA (aB 0) aE)))) [some (.int W),some (aJ true W []),none]=some (.nx,[some (.int W),some (aJ true W []),some (.tup [.int 1,.int 0])]):=bD (aP (aD rfl (aD rfl rfl)) p0)
 have s3:fIf (aU (fB (f2 za5 (aB 2) (fC .non)))) (cP (cZ 1 bQ (bY [.im (fC (.int 0)),.im (cA (aA (aX (aB 2)) (aA (cA aE) aE)))]) (dZ "Front" "add" nK))) bC [some (.int W),some (aJ true W []),some (.tup [.int 1,.int 0])]=some (.nx,[some (.int W),some (aJ true W [(0,((1,0),[]))]),some (.tup [.int 1,.int 0])]):=
  (cG (dR (aR rfl rfl rfl))).trans (zd5 (j:=1) (F:=[]) (W:=W) (k:=0) (x:=((1,0),[])) rfl rfl (zh8 (x:=((1,0),[])) (bX rfl rfl) (eM rfl rfl (ZK _))) (by simp))
 exact eT rfl (bH s1 (bH s2 (bH s3 ⟨_,rfl⟩)))
abbrev nZ(n:Nat):tz6:=gP 2 0 (qZ (yL n) zb7)
def bI(W:Int)(n:Nat)(r:List Pc):Frt:=frN W n true 0 r [(0,((1,0),[]))]
theorem zl2{W:Int}(hW:0<=W):Good W (fun cs t=>cs=[]/\t=⟨#[]⟩) [(0,((1,0),[]))]:=⟨by simp,fun p hp=>by
 rw [Zc.mp hp];exact⟨_,⟨rfl,rfl⟩,zh6 hW⟩⟩
theorem vA{W:Int}{n:Nat}{r:List Pc}(hW0:0<=W)(hW1:W<=40)(hd:depR r<n)(h8:depR r<=16)(ho:okR r)(hl:(toksR r).length<=800):nZ n [aJ false W [(0,((1,0),[]))],.tup (pcsD r)]=some (aJ false W (bI W n r)):=by
 have q:=yn5 hW0 hW1 n r hd ho true 0 _ _ 0 (Ym _) (by omega) (zl2 hW0) (fun c t h=>by rw [h.1];exact Zb _) (by omega)
 exact eT rfl ⟨_,cE (aP (aD rfl (aD rfl (aD (aP rfl ye0) rfl))) q)⟩
def iK(q:Nat×Way):D:= .tup [.int (q.1:Int),.int q.2.1.1,.int q.2.1.2,.tup (cQ q.2.2)]
def sQ(F:Frt)(k:Int):Option (Nat×Way):=(mG F k.toNat).map fun x=>(k.toNat,x)
def pA(F:Frt):List Int:=F.map fun q=>(q.1:Int)
def rdL(F:Frt):List (Nat×Way):=(PySem.W.sortI (pA F)).filterMap (sQ F)
def yh5:tz2:=f2 cO (f2 cO (cA (aA (aX (aB 0)) aE)) (f2 dIx (f2 gQ (aB 1) (aB 0)) (fC (.int 0)))) (cA (aA (aX (f2 dIx (f2 gQ (aB 1) (aB 0)) (fC (.int 1)))) aE))
theorem wg3{F:Frt}{q:Nat×Way}(nd:(F.map (·.1)).Nodup)(hq:q∈F)(hc:q.2.2.length<=900):yh5 [some (.int (q.1:Int)),some (.dic false (dD F) (dQ F))]=some (iK q):=by
 have g:f2 gQ (aB 1) (aB 0) [some (.int (q.1:Int)),some (.dic false (dD F) (dQ F))]=some (wyD q.2):=aR rfl rfl (by
  show(some (Sum.inl (q.1:Int):Key)).bind _=_
  rw [Z2,sH,kG nd hq];rfl)
 have g0:f2 dIx (f2 gQ (aB 1) (aB 0)) (fC (.int 0)) [some (.int (q.1:Int)),some (.dic false (dD F) (dQ F))]=some (.tup [.int q.2.1.1,.int q.2.1.2]):=aR g rfl (kF _ _)
 have g1:f2 dIx (f2 gQ (aB 1) (aB 0)) (fC (.int 1)) [some (.int (q.1:Int)),some (.dic false (dD F) (dQ F))]=some (.tup (cQ q.2.2)):=aR g rfl (jM _ _ _)
 have z:(3:Nat)<=sizeLine:=sz (by decide)
 have z4:(4:Nat)<=sizeLine:=sz (by decide)
 have im:=jF q.2.2
 have a1:cA (aA (aX (aB 0)) aE) [some (.int (q.1:Int)),some (.dic false (dD F) (dQ F))]=some (.tup [.int (q.1:Int)]):=eM (aD (bX (d:= .int (q.1:Int)) rfl rfl) rfl) rfl (by simp)
 have d1:cO (.tup [.int (q.1:Int)]) (.tup [.int q.2.1.1,.int q.2.1.2])=some (.tup [.int (q.1:Int),.int q.2.1.1,.int q.2.1.2]):=by
  show(if 3<=sizeLine then _ else none)=_
  rw [if_pos z];rfl
 have d2:cO (.tup [.int (q.1:Int),.int q.2.1.1,.int q.2.1.2]) (.tup [.tup (cQ q.2.2)])=some (iK q):=by
  show(if 4<=sizeLine then _ else none)=_
  rw [if_pos z4];rfl
 have a2:cA (aA (aX (f2 dIx (f2 gQ (aB 1) (aB 0)) (fC (.int 1)))) aE) [some (.int (q.1:Int)),some (.dic false (dD F) (dQ F))]=some (.tup [.tup (cQ q.2.2)]):=eM (aD (bX g1 im) rfl) (by simp [D.imms,D.imm,im]) (by simp)
 exact aR (aR a1 g0 d1) a2 d2
theorem zv3{F:Frt}(nd:(F.map (·.1)).Nodup)(hc:∀q∈F,q.2.2.length<=900)(x:Option D):∀ks:List Int,(∀k∈ks,∃q∈F,k=(q.1:Int))->eZ [x,some (.dic false (dD F) (dQ F))] fK yh5 (ks.map .int)=some ((ks.filterMap (sQ F)).map iK)
 |[],_=>rfl
 |k::ks,h=>by
  obtain⟨q,hq,rfl⟩:=h k Z0
  have ih:=zv3 nd hc x ks fun j hj=>h j (Z1 _ hj)
  have e:=wg3 nd hq (hc q hq)
  have p:sQ F (q.1:Int)=some q:=by unfold sQ;rw [YQ,kG nd hq];rfl
  rw [Z8,eZ,XU p,Z8]
  show(some true).bind (fun b=>if b=true then(yh5 [some (.int (q.1:Int)),some (.dic false (dD F) (dQ F))]).bind _ else _)=_
  rw [Z2,if_pos rfl,e,Z2,ih];rfl
theorem zf4:∀F:Frt,zd8 (dD F)=some (pA F)
 |[]=>rfl
 |q::F=>by
  show(zd8 (dD F)).map ((q.1:Int)::·)=_
  rw [zf4 F];rfl
abbrev wV(n:Nat):tz6:=gP 2 1 (zm8 (nZ n) rL)
theorem yf1{W:Int}{n:Nat}{r:List Pc}(hW0:0<=W)(hW1:W<=40)(hd:depR r<n)(h8:depR r<=16)(ho:okR r)(hl:(toksR r).length<=800):wV n [.tup (pcsD r),.int W]=some (.lst true ((rdL (bI W n r)).map iK)):=by
 have g:Good W (fun cs t=>setR true 0 r cs ⟨#[]⟩=some ([],t)) (bI W n r):=xS (n:=n) hW0 hd ho (by omega)
 have hlen:=g.len hW1
 have hfew:∀q∈bI W n r,q.2.2.length<=900:=fun q hq=>by
  obtain⟨t,e,_⟩:=g.hit q hq
  have:=setR_len e
  rw [ZU] at this
  omega
 have q:=vA hW0 hW1 hd h8 ho hl
 have s1:aV 2 (aI (aX (cB "Front" "best" (aG (nZ n) (aA (jH (aG rL (aA (aB 1) aE))) (aA (aB 0) aE)))))) [some (.tup (pcsD r)),some (.int W),none]=some (.nx,[some (.tup (pcsD r)),some (.int W),some (.dic false (dD (bI W n r)) (dQ (bI W n r)))]):=
  bD (bX (xV (aP (aD (uE (aP (aD rfl rfl) (xW hW0))) (aD rfl rfl)) q)) (yn1 _))
 have nl:(pA (bI W n r)).length<=41:=by unfold pA;rw [Z7];exact hlen
 have e1:aG za8 (aA (aB 2) aE) [some (.tup (pcsD r)),some (.int W),some (.dic false (dD (bI W n r)) (dQ (bI W n r)))]=some (.lst true ((PySem.W.sortI (pA (bI W n r))).map .int)):=by
  refine aP (aD rfl rfl) ?_
  show(zd8 (dD (bI W n r))).bind _=_
  rw [zf4,Z2,if_pos (by omega)]
 have c:=zv3 g.nd hfew none (PySem.W.sortI (pA (bI W n r))) fun k hk=>by
  have hk':=(Y6 _).mem_iff.mp hk
  obtain⟨q,hq,e⟩:=ZP.mp hk'
  exact⟨q,hq,e.symm⟩
 have im:∀ks:List Int,D.imms (ks.map .int)=true:=fun ks=>jF ks
 have sl:((PySem.W.sortI (pA (bI W n r))).map D.int).length<=sizeLine:=by
  rw [Z7,(Y6 _).length_eq];exact sz (by omega)
 have e2:fQ [none,some 2] (dP (aG za8 (aA (aB 2) aE))) fK yh5 [some (.tup (pcsD r)),some (.int W),some (.dic false (dD (bI W n r)) (dQ (bI W n r)))]=some (.lst true ((rdL (bI W n r)).map iK)):=by
  unfold fQ dP
  rw [e1,Z2]
  show((if D.imms ((PySem.W.sortI (pA (bI W n r))).map D.int)=true then some ((PySem.W.sortI (pA (bI W n r))).map D.int) else none).bind _)=_
  rw [if_pos (im _),Z2,if_pos sl]
  show(eZ [none,some (.dic false (dD (bI W n r)) (dQ (bI W n r)))] fK yh5 _).bind _=_
  rw [c];rfl
 exact eT rfl (bH s1 ⟨_,cE e2⟩)
theorem zq7{F:Frt}(nd:(F.map (·.1)).Nodup){q:Nat×Way}:q∈rdL F↔q∈F:=by
 unfold rdL
 rw [YK]
 constructor
 ·rintro⟨k,hk,e⟩
  have hk':=(Y6 _).mem_iff.mp hk
  obtain⟨p,hp,rfl⟩:=ZP.mp hk'
  unfold sQ at e
  rw [YQ,kG nd hp] at e
  cases e
  exact hp
 ·intro hq
  refine⟨(q.1:Int),(Y6 _).mem_iff.mpr (Yd (f:=fun q:Nat×Way=>(q.1:Int)) hq),?_⟩
  unfold sQ
  rw [YQ,kG nd hq];rfl
theorem xn8{F:Frt}(nd:(F.map (·.1)).Nodup):(rdL F).map (fun q=>(q.1:Int))=PySem.W.sortI (pA F):=by
 unfold rdL
 have key:∀ks:List Int,(∀k∈ks,∃q∈F,k=(q.1:Int))->(ks.filterMap (sQ F)).map (fun q=>(q.1:Int))=ks:=by
  intro ks
  induction ks with
  |nil=>intro _;rfl
  |cons k ks ih=>
   intro h
   obtain⟨q,hq,rfl⟩:=h k Z0
   have p:sQ F (q.1:Int)=some q:=by unfold sQ;rw [YQ,kG nd hq];rfl
   rw [XU p,Z8,ih fun j hj=>h j (Z1 _ hj)]
 refine key _ fun k hk=> ?_
 have hk':=(Y6 _).mem_iff.mp hk
 obtain⟨q,hq,e⟩:=ZP.mp hk'
 exact⟨q,hq,e.symm⟩
theorem oM:ixN 4 3=some 3:=by decide
theorem oN:ixN 4 2=some 2:=by decide
theorem jB{α:Type}(a b c d:α):atI [a,b,c,d] 3=some d:=rfl
abbrev zn5:tz7:=gE 1 5 (bR [true]) rF
theorem wo3{N:List D}{a b c d:D}:za7 [1,2,3,4] (cZ 0 bQ aE vT) [some (.lst true (N++[.lst true [a,b,c,d]])),none,none,none,none,none]=some (.nx,[some (.lst true N),some a,some b,some c,some d,none]):=by
 simp! [fKs,vT,dP,jN,nG,lB,fSl,dW,iB,iA,dN,za7,yg4,vU,cU,cM,fIO,eD,dH,eS,fO,gA,tW,L2.gY,oM,oN,jB]
theorem kd1{p:PSt}{k w:String}{b:Bool}(hp:p[1]? =some (some (.str k)))(h:decide (k=w)=b):fB (f2 dEq (aB 1) (fC (.str w))) p=some b:=by
 refine dR (aR (lA hp) rfl ?_)
 show some (D.bl (decide ((k:Str)=(w:Str))))=_
 rw [<-h]
 congr 2
 exact YY.mpr (by rw [fZ])
theorem xn9{f g:Gm}{fs:List Gm}(hk:1<=f.kd/\f.kd<=3)(hf:f.kd≠3->f.full=[])(hfl:f.full.length<=3)(hg:g.parts.length<=900):zn5 [.lst true (bV (f::g::fs))]=some (.non,[.lst true (bV (lH g (gJ f)::fs))]):=by
 obtain⟨kd,n,full,parts⟩:=f
 have hfl':full.length<=3:=hfl
 have hz:(pcsD g.parts).length<sizeLine:=by rw [tU];exact sz1 (by omega)
 have s2:∀K x0,aV 3 (aI (f2 cO (aB 3) (dM (aA (aG gO (aA (aB 4) aE)) aE)))) [x0,some K,some (.int n),some (.lst true (rowsD full)),some (.lst true (pcsD parts)),none]=some (.nx,[x0,some K,some (.int n),some (.lst true (rowsD (full++[parts]))),some (.lst true (pcsD parts)),none]):=fun K x0=>by
  refine bD (aR rfl (iN (aD (aP (aD rfl rfl) (if_pos (pcs_imm parts))) rfl) (Z9 rfl)) ?_)
  rw [zX]
  refine xc6 (rows_imm full) (rows_imm [parts]) ?_
  rw [lU];show full.length+1<=1000;omega
 have s4:∀K x0 x4 (r0:List Pc) rs,aV 5 (aI (cA (aA (fC (.str "group")) (aA (aX (f2 dIx (aB 3) (fC (.int 0)))) aE)))) [x0,some K,some (.int n),some (.lst true (rowsD (r0::rs))),x4,none]=some (.nx,[x0,some K,some (.int n),some (.lst true (rowsD (r0::rs))),x4,some (pcD (.group r0))]):=fun K x0 x4 r0 rs=>
  bD (eM (aD rfl (aD (bX (aR rfl rfl (kF _ _)) (pcs_imm r0)) rfl)) (wJ (.group r0)) (Z9 rfl))
 have s7:∀(pc:Pc) K x3 x4,cP (cZ 0 (dW 0 (dW 0 bQ (dN (fC (.int 1)))) (fC (.int 3))) (aA (aX (aB 5)) aE) dX) [some (.lst true (bV fs++[gmD g])),K,some (.int n),x3,x4,some (pcD pc)]=some (.nx,[some (.lst true (bV fs++[gmD (lH g pc)])),K,some (.int n),x3,x4,some (pcD pc)]):=fun pc K x3 x4=>by
  have hi:=wJ pc
  have e:gmD (lH g pc)= .lst true [.str (kdS g.kd),.int g.n,.lst true (rowsD g.full),.lst true (pcsD g.parts++[pcD pc])]:=by unfold gmD lH;rw [xJ];rfl
  rw [e]
  unfold gmD
  generalize pcD pc=d at hi|-
  simp! [fKs,vT,dP,jN,nG,lB,fSl,dW,iB,iA,dN,za7,yg4,vU,cU,cM,fIO,eD,dH,eS,fO,gA,tW,L2.gY,oM,oN,jB,hi,hz]
 suffices h:∃q1 q2 q3 q4 q5,rF [some (.lst true (bV (⟨kd,n,full,parts⟩::g::fs))),none,none,none,none,none]=some (.nx,[some (.lst true (bV fs++[gmD (lH g (gJ ⟨kd,n,full,parts⟩))])),q1,q2,q3,q4,q5]) from by
  obtain⟨q1,q2,q3,q4,q5,hq⟩:=h
  unfold zn5 gE
  refine(if_pos rfl).trans ?_
  show(rF [some (.lst true (bV (⟨kd,n,full,parts⟩::g::fs))),none,none,none,none,none]).bind _=_
  rw [hq];rfl
 have s1:za7 [1,2,3,4] (cZ 0 bQ aE vT) [some (.lst true (bV (⟨kd,n,full,parts⟩::g::fs))),none,none,none,none,none]=_:=wo3
 have e:kd=1\/kd=2\/kd=3:=by have:1<=kd/\kd<=3:=hk;omega
 unfold rF
 rw [aW s1,aW (s2 _ _)]
 rcases e with rfl|rfl|rfl
 ·have e1:full=[]:=hf (by simp! [fKs,vT,dP,jN,nG,lB,fSl,dW,iB,iA,dN,za7,yg4,vU,cU,cM,fIO,eD,dH,eS,fO,gA,tW,L2.gY,oM,oN,jB])
  subst e1
  exact⟨_,_,_,_,_,(aW (aZ (qS (kd1 (k:="group") rfl (by decide))))).trans ((aW (s4 _ _ _ parts [])).trans ((aW (aZ (kd1 (k:="group") rfl (by decide)))).trans ((aW (aZ (kd1 (k:="group") rfl (by decide)))).trans (s7 _ _ _ _))))⟩
 ·have e1:full=[]:=hf (by simp! [fKs,vT,dP,jN,nG,lB,fSl,dW,iB,iA,dN,za7,yg4,vU,cU,cM,fIO,eD,dH,eS,fO,gA,tW,L2.gY,oM,oN,jB])
  subst e1
  exact⟨_,_,_,_,_,(aW (aZ (qS (kd1 (k:="hang") rfl (by decide))))).trans ((aW (s4 _ _ _ parts [])).trans ((aW ((cG (kd1 (k:="hang") rfl (by decide))).trans (bD (eM (aD rfl (aD (bX rfl rfl) (aD (bX (d:= .tup (pcsD parts)) (aR rfl rfl (kF _ _)) (pcs_imm parts)) rfl))) (wJ (.hang n parts)) (Z9 rfl))))).trans ((aW (aZ (kd1 (k:="hang") rfl (by decide)))).trans (s7 (.hang n parts) _ _ _))))⟩
 ·have fin:∀(r0:List Pc) (rs:List (List Pc)),qI ⟨3,n,full,parts⟩=r0::rs->∃q1 q2 q3 q4 q5,aT (aV 5 (aI (cA (aA (fC (.str "group")) (aA (aX (f2 dIx (aB 3) (fC (.int 0)))) aE))))) (aT (fIf (aU (fB (f2 dEq (aB 1) (fC (.str "hang"))))) (aV 5 (aI (cA (aA (fC (.str "hang")) (aA (aX (aB 2)) (aA (aX (f2 dIx (aB 3) (fC (.int 0)))) aE)))))) bC)
    (aT (fIf (aU (fB (f2 dEq (aB 1) (fC (.str "either"))))) (aV 5 (aI (cA (aA (fC (.str "either")) (aA (aG gO (aA (aB 3) aE)) aE))))) bC) (cP (cZ 0 (dW 0 (dW 0 bQ (dN (fC (.int 1)))) (fC (.int 3))) (aA (aX (aB 5)) aE) dX)))) [some (.lst true (bV fs++[gmD g])),some (.str "either"),some (.int n),some (.lst true (rowsD (r0::rs))),some (.lst true (pcsD parts)),none]=some (.nx,[some (.lst true (bV fs++[gmD (lH g (gJ ⟨3,n,full,parts⟩))])),q1,q2,q3,q4,q5]):=fun r0 rs he=>by
   have hs:gJ ⟨3,n,full,parts⟩= .either (r0::rs):=by rw [<-he];rfl
   rw [hs]
   exact⟨_,_,_,_,_,(aW (s4 _ _ _ r0 rs)).trans ((aW (aZ (kd1 rfl (by decide)))).trans ((aW ((cG (kd1 rfl (by decide))).trans (bD (eM (aD rfl (aD (aP (aD rfl rfl) (if_pos (rows_imm (r0::rs)))) rfl)) (wJ (.either (r0::rs))) (Z9 rfl))))).trans (s7 (.either (r0::rs)) _ _ _)))⟩
  have lt:∀x0 x4,fB (f2 dLt (aG eI (aA (aB 3) aE)) (fC (.int 2))) [x0,some (.str "either"),some (.int n),some (.lst true (rowsD (full++[parts]))),x4,none]=some (decide ((((full++[parts]).length:Nat):Int)<2)):=fun x0 x4=>by
   refine dR (aR (aP (aD rfl rfl) rfl) rfl ?_)
   show some (D.bl (decide ((((rowsD (full++[parts])).length:Nat):Int)<2)))=_
   rw [lU]
  cases full with
  | nil=>
   have s3:∀x0 x4,fIf (aU (cU (fB (f2 dEq (aB 1) (fC (.str "either")))) (fB (f2 dLt (aG eI (aA (aB 3) aE)) (fC (.int 2)))))) (aV 3 (aI (f2 cO (aB 3) (dM (aA (cA (aA (cA (aA (fC (.str "word")) (aA (fC (.str "or")) aE))) aE)) aE))))) bC [x0,some (.str "either"),some (.int n),some (.lst true (rowsD ([]++[parts]))),x4,none]=some (.nx,[x0,some (.str "either"),some (.int n),some (.lst true (rowsD [parts,vL])),x4,none]):=fun x0 x4=>
    (cG (qT (kd1 rfl (by decide)) (lt _ _))).trans (bD (aR rfl (iN (aD (eM (aD (eM (aD rfl (aD rfl rfl)) rfl (Z9 rfl)) rfl) rfl (Z9 rfl)) rfl) (Z9 rfl)) (xc6 (rows_imm [parts]) (rows_imm [vL]) (Z9 rfl))))
   show ∃q1 q2 q3 q4 q5,aT _ _ [some (.lst true (bV fs++[gmD g])),some (.str "either"),some (.int n),some (.lst true (rowsD ([]++[parts]))),some (.lst true (pcsD parts)),none]=_
   rw [aW (s3 _ _)]
   exact fin parts [vL] rfl
  |cons r rs=>
   have lt':=lt (some (.lst true (bV fs++[gmD g]))) (some (.lst true (pcsD parts)))
   rw [Zg (by simp;omega)] at lt'
   show ∃q1 q2 q3 q4 q5,aT _ _ [some (.lst true (bV fs++[gmD g])),some (.str "either"),some (.int n),some (.lst true (rowsD (r::rs++[parts]))),some (.lst true (pcsD parts)),none]=_
   rw [aW (aZ (qT (kd1 rfl (by decide)) lt'))]
   exact fin r (rs++[parts]) rfl
def ifR(GM:tz6)(GS:tz7)(GL:tz6):tz1:=
 (fIf (aU (cU (fB (f2 dLt (aB 7) (fC (.int 4)))) (fB (f2 dLe (aG eI (aA (aB 4) aE)) (aB 3)))))
  (aT (aV 9 (aI (f2 dIx (dM (fKs [.str "group",.str "group",.str "hang",.str "either"])) (aB 7))))
 (cP (cZ 4 bQ (aA (dM (aA (aX (aB 9)) (aA (f2 dIx (dM (aA (fC (.int 1)) (aA (fC (.int 2)) (aA (fC (.int 4)) (aA (f2 eC (f2 mT (aB 6) (fC (.int 13))) (fC (.int 13))) aE))))) (f2 eC (f2 mT (aB 6) (fC (.int 169))) (fC (.int 4)))) (aA (dM aE) (aA (dM aE) aE))))) aE) dX)))
  (fIf (aU (cU (fB (f2 dEq (aB 7) (fC (.int 4)))) (fB (f2 dGt (aG eI (aA (aB 4) aE)) (fC (.int 1))))))
  (cP (fIO [.io 4] GS))
  (fIf (aU (cU (fB (f2 dLt (aB 7) (fC (.int 7)))) (cU (fB (f2 dEq (aB 8) (fC (.str "either")))) (fB (f2 dLt (aG eI (aA (f2 dIx (f2 dIx (aB 4) (dN (fC (.int 1)))) (fC (.int 2))) aE)) (fC (.int 3)))))))
  (aT (cP (cZ 4 (dW 4 (dW 4 bQ (dN (fC (.int 1)))) (fC (.int 2))) (aA (aG gO (aA (f2 dIx (f2 dIx (aB 4) (dN (fC (.int 1)))) (fC (.int 3))) aE)) aE) dX))
 (iB 4 (dW 4 bQ (dN (fC (.int 1)))) (fC (.int 3)) (dM aE)))
  (cP (cZ 4 (dW 4 (dW 4 bQ (dN (fC (.int 1)))) (fC (.int 3))) (aA (aG GL (aA (aG GM (aA (aB 0) (aA (aB 5) (aA (fC (.int 32)) aE)))) aE)) aE) dX)))))
def yM(GM:tz6)(GS:tz7)(GL:tz6):tz1:=
   (aT (aV 6 (aI (aG GM (aA (aB 0) (aA (aB 5) (aA (fC (.int 31)) aE))))))
 (aT (aV 7 (aI (f2 eC (aB 6) (fC (.int 13)))))
 (aT (aV 8 (aI (aX (f2 dIx (f2 dIx (aB 4) (dN (fC (.int 1)))) (fC (.int 0))))))
 (ifR GM GS GL))))
section
variable{GM:tz6}{GS:tz7}{GL:tz6}{S:D}{x1 x2 x6 x7 x8 x9:Option D}{nest:Nat}{f:Gm}{fs:List Gm}{i m:Int}
theorem xf5(hm:GM [S,.int i,.int 31]=some (.int m)):yM GM GS GL [some S,x1,x2,some (.int nest),some (.lst true (bV (f::fs))),some (.int i),x6,x7,x8,x9]
  =ifR GM GS GL [some S,x1,x2,some (.int nest),some (.lst true (bV (f::fs))),some (.int i),some (.int m),some (.int (m % 13)),some (.str (kdS f.kd)),x9]:=by
 unfold yM
 refine(aW (bD (aP rfl hm))).trans ?_
 refine(aW (bD (d:= .int (m % 13)) (by simp! [fKs,dW,iB,iA,dN,cU,cM,fIO,eD,dH,eS,fO,gA,tW,L2.gY,oM,oN,jB]))).trans ?_
 exact aW (bD (d:= .str (kdS f.kd)) (by simp! [fKs,dW,iB,iA,dN,cU,cM,fIO,eD,dH,eS,fO,gA,tW,L2.gY,oM,oN,jB,bV,gmD]))
theorem wg4(a k:Int)(ha:0<=a/\a<=12):∃n:Int,atI [D.int 1,.int 2,.int 4,.int a] (k % 4)=some (.int n)/\0<=n/\n<=12:=by
 have h0:=ZE k (show(4:Int)≠0 by decide)
 have h1:=ZC k (show(0:Int)<4 by decide)
 obtain⟨d,hd,e⟩:=wK [D.int 1,.int 2,.int 4,.int a] (k % 4) h0 (by simpa using h1)
 simp only [Z3,ZR,X8] at hd
 rcases hd with rfl|rfl|rfl|rfl
 ·exact⟨_,e,by decide,by decide⟩
 ·exact⟨_,e,by decide,by decide⟩
 ·exact⟨_,e,by decide,by decide⟩
 ·exact⟨_,e,ha⟩
theorem xy3(m:Int)(h0:0<=m % 13)(h:m % 13<4):∃kd:Nat,atI [D.str (Str.ofString "group"),.str (Str.ofString "group"),.str (Str.ofString "hang"),.str (Str.ofString "either")] (m % 13)=some (.str (kdS kd))/\1<=kd/\kd<=3:=by
 have hn:m % 13=0\/m % 13=1\/m % 13=2\/m % 13=3:=by omega
 rcases hn with e|e|e|e<;>rw [e]
 ·exact⟨1,rfl,by decide,by decide⟩
 ·exact⟨1,rfl,by decide,by decide⟩
 ·exact⟨2,rfl,by decide,by decide⟩
 ·exact⟨3,rfl,by decide,by decide⟩
theorem zl3{a b:Prop}[Decidable a][Decidable b](h:¬(a/\b)):(decide a&&decide b)=false:=by
 by_cases ha:a
 ·rw [Zg (fun hb=>h ⟨ha,hb⟩),Bool.and_false]
 ·rw [Zg ha,XF]
theorem yn6{a b:Prop}[Decidable a][Decidable b](ha:a)(hb:b):(decide a&&decide b)=true:=by rw [Zr ha,Zr hb];rfl
theorem zl4{f g:tz4}{p:PSt}{a b:Bool}(h1:f p=some a)(h2:g p=some b):cU f g p=some (a&&b):=by
 cases a with
 |true=>exact qT h1 h2
 |false=>exact qS h1
theorem yt5{N:List D}{w:Int}{x0 x5 x6:Option D}:cU (fB (f2 dLt (aB 7) (fC (.int 4)))) (fB (f2 dLe (aG eI (aA (aB 4) aE)) (aB 3))) [x0,x1,x2,some (.int nest),some (.lst true N),x5,x6,some (.int w),x8,x9]=some (decide (w<4)&&decide ((N.length:Int)<=(nest:Int))):=
 zl4 (dR (aR rfl rfl rfl)) (dR (aR (aP (aD rfl rfl) rfl) rfl rfl))
theorem xr8{N:List D}{w:Int}{x0 x3 x5 x6:Option D}:cU (fB (f2 dEq (aB 7) (fC (.int 4)))) (fB (f2 dGt (aG eI (aA (aB 4) aE)) (fC (.int 1)))) [x0,x1,x2,x3,some (.lst true N),x5,x6,some (.int w),x8,x9]=some (decide (w=4)&&decide ((1:Int)<(N.length:Int))):=
 zl4 (dR (aR rfl rfl rfl)) (dR (aR (aP (aD rfl rfl) rfl) rfl rfl))
theorem yn7{p:PSt}{j:Nat}{M:List D}{d:D}(hp:p[j]? =some (some (.lst true (M++[d])))):f2 dIx (aB j) (dN (fC (.int 1))) p=some d:=aR (lA hp) rfl (show atI (M++[d]) (-1)=_ from L2.gY _ _)
theorem xr9{M R:List D}{w:Int}{k:String}{a b c:D}{x0 x3 x5 x6:Option D}:cU (fB (f2 dLt (aB 7) (fC (.int 7)))) (cU (fB (f2 dEq (aB 8) (fC (.str "either")))) (fB (f2 dLt (aG eI (aA (f2 dIx (f2 dIx (aB 4) (dN (fC (.int 1)))) (fC (.int 2))) aE)) (fC (.int 3))))) [x0,x1,x2,x3,some (.lst true (M++[.lst true [a,b,.lst true R,c]])),x5,x6,some (.int w),some (.str k),x9]=some (decide (w<7)&&(decide (k="either")&&decide ((R.length:Int)<3))):=by
 refine zl4 (dR (aR rfl rfl rfl)) (zl4 (dR (aR rfl rfl ?_)) (dR (aR (aP (aD (aR (yn7 (j:=4) rfl) rfl (xm2 _ _ _ _)) rfl) rfl) rfl rfl)))
 show some (D.bl (decide ((k:Str)=(("either":String):Str))))=_
 congr 2
 exact YY.mpr (by rw [fZ])
theorem xf6{p:PSt}{j:Nat}{M:List D}{k n:Nat}{l:List D}(hp:p[j]? =some (some (.lst true (M++[.lst true l]))))(hk:ixN l.length (k:Int)=some n):dW j (dW j bQ (dN (fC (.int 1)))) (fC (.int (k:Int))) p=some [.ix M.length,.ix n]:=by
 have e1:ixN (M++[D.lst true l]).length (-1)=some M.length:=by rw [Z5];exact fO _
 have e2:(M++[D.lst true l])[M.length]? =some (.lst true l):=by simp! [fKs,dW,iB,iA,dN,cU,cM,fIO,eD,dH,eS,fO,gA,tW,L2.gY,oM,oN,jB]
 simp! [fKs,dW,iB,iA,dN,cU,cM,fIO,eD,dH,eS,fO,gA,tW,L2.gY,oM,oN,jB,dW,hp,e1,e2,hk,dN]
theorem xo0{α:Type}{h:D->Option (α×D)}{M l:List D}{n:Nat}{d d':D}{r:α}(hl:l[n]? =some d)(e:h d=some (r,d')):gC h (.lst true (M++[.lst true l])) [.ix M.length,.ix n]=some (r,.lst true (M++[.lst true (l.set n d')])):=by
 have e2:(M++[D.lst true l])[M.length]? =some (.lst true l):=by simp! [fKs,dW,iB,iA,dN,cU,cM,fIO,eD,dH,eS,fO,gA,tW,L2.gY,oM,oN,jB]
 show(((M++[D.lst true l])[M.length]?).bind _)=_
 rw [e2,Z2]
 show(((l[n]?).bind _).bind _)=_
 rw [hl,Z2]
 show(((h d).bind _).bind _)=_
 rw [e]
 show some (r,D.lst true ((M++[D.lst true l]).set M.length _))=_
 rw [gA]
theorem yf2{p:PSt}{j k n:Nat}{M l xs:List D}{fe:tz2}{y:D}(hp:p[j]? =some (some (.lst true (M++[.lst true l]))))(hk:ixN l.length (k:Int)=some n)(hl:l[n]? =some (.lst true xs))(h:fe p=some y)(hz:xs.length<sizeLine):cP (cZ j (dW j (dW j bQ (dN (fC (.int 1)))) (fC (.int (k:Int)))) (aA fe aE) dX) p=some (.nx,p.set j (some (.lst true (M++[.lst true (l.set n (.lst true (xs++[y])))])))):=by
 refine tY (d:= .non) ?_
 unfold cZ
 rw [hp,YX,Z2,xf6 hp hk,Z2,aD h rfl,Z2,xo0 hl (show dX [y] (.lst true xs)=_ from if_pos hz)]
 rfl
theorem yt6{p:PSt}{j k n:Nat}{M l:List D}{fe:tz2}{y:D}(hp:p[j]? =some (some (.lst true (M++[.lst true l]))))(hk:ixN l.length (k:Int)=some n)(h:fe p=some y):iB j (dW j bQ (dN (fC (.int 1)))) (fC (.int (k:Int))) fe p=some (.nx,p.set j (some (.lst true (M++[.lst true (l.set n y)])))):=by
 have e1:ixN (M++[D.lst true l]).length (-1)=some M.length:=by rw [Z5];exact fO _
 have e2:(M++[D.lst true l])[M.length]? =some (.lst true l):=by simp! [fKs,dW,iB,iA,dN,cU,cM,fIO,eD,dH,eS,fO,gA,tW,L2.gY,oM,oN,jB]
 have ep:dW j bQ (dN (fC (.int 1))) p=some [.ix M.length]:=by simp! [fKs,dW,iB,iA,dN,cU,cM,fIO,eD,dH,eS,fO,gA,tW,L2.gY,oM,oN,jB,dW,hp,e1,dN]
 unfold iB
 rw [h,Z2,hp,YX,Z2,ep,Z2]
 show((gC (iA (.int (k:Int)) y) (.lst true (M++[.lst true l])) [.ix M.length]).bind _)=_
 have em:gC (iA (.int (k:Int)) y) (.lst true (M++[.lst true l])) [.ix M.length]=some ((),.lst true (M++[.lst true (l.set n y)])):=by
  show(((M++[D.lst true l])[M.length]?).bind _)=_
  rw [e2,Z2]
  show(((ixN l.length (k:Int)).bind _).bind _)=_
  rw [hk]
  show some ((),D.lst true ((M++[D.lst true l]).set M.length _))=_
  rw [gA]
 rw [em];rfl
theorem xf7(hw:m % 13<4)(hl:(f::fs).length<=nest)(hz:(f::fs).length<=900):∃kd n y9,ifR GM GS GL [some S,x1,x2,some (.int nest),some (.lst true (bV (f::fs))),some (.int i),some (.int m),some (.int (m % 13)),x8,x9]
  =some (.nx,[some S,x1,x2,some (.int nest),some (.lst true (bV (⟨kd,n,[],[]⟩::f::fs))),some (.int i),some (.int m),some (.int (m % 13)),x8,y9])/\(1<=kd/\kd<=3)/\0<=n/\n<=12:=by
 have h0:=ZE m (show(13:Int)≠0 by decide)
 have d0:=ZE (m/13) (show(13:Int)≠0 by decide)
 have d1:=ZC (m/13) (show(0:Int)<13 by decide)
 obtain⟨kd,q1,hk1,hk2⟩:=xy3 m h0 hw
 obtain⟨n,q2,hn1,hn2⟩:=wg4 (m/13 % 13) (m/169) ⟨d0,Wg d1⟩
 have hz':(bV (f::fs)).length<sizeLine:=by rw [pO];exact sz1 (by omega)
 have hl':((bV (f::fs)).length:Int)<=(nest:Int):=by rw [pO];exact Int.ofNat_le.mpr hl
 refine⟨kd,n,some (.str (kdS kd)),?_,⟨hk1,hk2⟩,hn1,hn2⟩
 have e:bV (⟨kd,n,[],[]⟩::f::fs)=bV (f::fs)++[.lst true [.str (kdS kd),.int n,.lst true [],.lst true []]]:=rfl
 rw [e]
 generalize bV (f::fs)=N at hz' hl'|-
 unfold ifR
 refine(cG (yt5.trans (by rw [yn6 hw hl']))).trans ((aW (bD (aR (iN rfl (Z9 rfl)) rfl q1))).trans ?_)
 refine tY (d:= .non) ?_
 unfold cZ
 rw [aD (iN (aD (bX (d:= .str (kdS kd)) rfl rfl) (aD (aR (iN (aD rfl (aD rfl (aD rfl (aD (aR (aR rfl rfl ((eS _ _).trans (if_pos (by decide)))) rfl ((dH _ _).trans (if_pos (by decide)))) rfl)))) (Z9 rfl)) (aR (aR rfl rfl ((eS _ _).trans (if_pos (by decide)))) rfl ((dH _ _).trans (if_pos (by decide)))) q2) (aD (iN rfl (Z9 rfl)) (aD (iN rfl (Z9 rfl)) rfl)))) (Z9 rfl)) rfl]
 show((dX [.lst true [.str (kdS kd),.int n,.lst true [],.lst true []]] (.lst true N)).bind _)=_
 rw [show dX [.lst true [.str (kdS kd),.int n,.lst true [],.lst true []]] (.lst true N)=_ from if_pos hz']
 rfl
theorem xf8{g:Gm}(q:GS [.lst true (bV (f::g::fs))]=some (.non,[.lst true (bV (lH g (gJ f)::fs))]))(hw:m % 13=4):
  ifR GM GS GL [some S,x1,x2,some (.int nest),some (.lst true (bV (f::g::fs))),some (.int i),some (.int m),some (.int (m % 13)),x8,x9]
  =some (.nx,[some S,x1,x2,some (.int nest),some (.lst true (bV (lH g (gJ f)::fs))),some (.int i),some (.int m),some (.int (m % 13)),x8,x9]):=by
 have hl:(1:Int)<((bV (f::g::fs)).length:Int):=by rw [pO];simp;omega
 unfold ifR
 exact(uV (nP (yt5.trans (by rw [zl3 (fun z=>by omega)])))).trans ((cG (xr8.trans (by rw [yn6 hw hl]))).trans (tY (wf1 (xx6 rfl pM) q rfl)))
theorem yn8(hw:¬(m % 13<4/\(f::fs).length<=nest))(hw4:¬(m % 13=4/\fs≠[])){F1 F2 F3:tz1}:fIf (aU (cU (fB (f2 dLt (aB 7) (fC (.int 4)))) (fB (f2 dLe (aG eI (aA (aB 4) aE)) (aB 3))))) F1 (fIf (aU (cU (fB (f2 dEq (aB 7) (fC (.int 4)))) (fB (f2 dGt (aG eI (aA (aB 4) aE)) (fC (.int 1)))))) F2 F3) [some S,x1,x2,some (.int nest),some (.lst true (bV (f::fs))),some (.int i),some (.int m),some (.int (m % 13)),x8,x9]
  =F3 [some S,x1,x2,some (.int nest),some (.lst true (bV (f::fs))),some (.int i),some (.int m),some (.int (m % 13)),x8,x9]:=by
 have hl:(bV (f::fs)).length=(f::fs).length:=pO _
 have hn:¬(m % 13=4/\(1:Int)<((f::fs).length:Int)):=fun z=>hw4 ⟨z.1,fun e=>by rw [e] at z;exact absurd z.2 (Int.lt_irrefl 1)⟩
 exact(uV (nP (yt5.trans (by rw [hl,zl3 (fun z=>hw ⟨z.1,Int.ofNat_le.mp z.2⟩)])))).trans (uV (nP (xr8.trans (by rw [hl,zl3 hn]))))
theorem xy4(hw:¬(m % 13<4/\(f::fs).length<=nest))(hw4:¬(m % 13=4/\fs≠[]))(hw7:m % 13<7)(hk:f.kd=3)(hf:f.full.length<3):
  ifR GM GS GL [some S,x1,x2,some (.int nest),some (.lst true (bV (f::fs))),some (.int i),some (.int m),some (.int (m % 13)),some (.str (kdS f.kd)),x9]
  =some (.nx,[some S,x1,x2,some (.int nest),some (.lst true (bV ({f with full:=f.full++[f.parts],parts:=[]}::fs))),some (.int i),some (.int m),some (.int (m % 13)),some (.str (kdS f.kd)),x9]):=by
 unfold ifR
 refine(yn8 hw hw4).trans ?_
 obtain⟨kd,n,full,parts⟩:=f
 have hk':kd=3:=hk
 subst hk'
 have hz:(rowsD full).length<sizeLine:=by rw [lU];exact sz1 (by have:full.length<3:=hf;omega)
 have hf':((rowsD full).length:Int)<3:=by rw [lU];exact Int.ofNat_lt.mpr hf
 have er:rowsD (full++[parts])=rowsD full++[.tup (pcsD parts)]:=by rw [zX];rfl
 have b3:(decide (m % 13<7)&&(decide (kdS 3="either")&&decide (((rowsD full).length:Int)<3)))=true:=by rw [Zr hw7,Zr hf'];rfl
 have s1:=yf2 (p:=[some S,x1,x2,some (.int nest),some (.lst true (bV (⟨3,n,full,parts⟩::fs))),some (.int i),some (.int m),some (.int (m % 13)),some (.str (kdS 3)),x9]) (j:=4) (k:=2) (n:=2) (M:=bV fs) (fe:=aG gO (aA (f2 dIx (f2 dIx (aB 4) (dN (fC (.int 1)))) (fC (.int 3))) aE)) rfl rfl rfl (aP (aD (aR (yn7 (M:=bV fs) rfl) rfl (wo1 _ _ _ _)) rfl) (if_pos (pcs_imm parts))) hz
 rw [<-er] at s1
 have s2:=yt6 (p:=[some S,x1,x2,some (.int nest),some (.lst true (bV fs++[.lst true [.str (kdS 3),.int n,.lst true (rowsD (full++[parts])),.lst true (pcsD parts)]])),some (.int i),some (.int m),some (.int (m % 13)),some (.str (kdS 3)),x9]) (j:=4) (k:=3) (n:=3) (M:=bV fs) (fe:=dM aE) (y:= .lst true []) rfl rfl (iN rfl (Z9 rfl))
 exact(cG (xr9.trans (ZJ some b3))).trans ((aW s1).trans s2)
theorem xf9{l:Leaf}{m2:Int}(hm2:GM [S,.int i,.int 32]=some (.int m2))(hL:GL [.int m2]=some (cN l))(hz:f.parts.length<=900)
  (hw:¬(m % 13<4/\(f::fs).length<=nest)) (hw4:¬(m % 13=4/\fs≠[])) (h3:¬(m % 13<7/\f.kd=3/\f.full.length<3)) (hkd:f.kd<=3):
  ifR GM GS GL [some S,x1,x2,some (.int nest),some (.lst true (bV (f::fs))),some (.int i),some (.int m),some (.int (m % 13)),some (.str (kdS f.kd)),x9]
  =some (.nx,[some S,x1,x2,some (.int nest),some (.lst true (bV (lH f (.leaf l)::fs))),some (.int i),some (.int m),some (.int (m % 13)),some (.str (kdS f.kd)),x9]):=by
 have hz':(pcsD f.parts).length<sizeLine:=by rw [tU];exact sz1 (by omega)
 have ep:pcsD (f.parts++[.leaf l])=pcsD f.parts++[cN l]:=by rw [xJ];rfl
 have b3:(decide (m % 13<7)&&(decide (kdS f.kd="either")&&decide (((rowsD f.full).length:Int)<3)))=false:=by
  by_cases a1:m % 13<7
  ·rw [zl3,Bool.and_false]
   intro ⟨z1,z2⟩
   rw [lU] at z2
   have hk:f.kd=0\/f.kd=1\/f.kd=2\/f.kd=3:=by omega
   rcases hk with e|e|e|e
   ·rw [e] at z1;exact absurd z1 (by decide)
   ·rw [e] at z1;exact absurd z1 (by decide)
   ·rw [e] at z1;exact absurd z1 (by decide)
   ·exact h3 ⟨a1,e,Int.ofNat_lt.mp z2⟩
  ·rw [Zg a1,XF]
 unfold ifR
 refine(yn8 hw hw4).trans ((uV (nP (xr9.trans (by rw [b3])))).trans ?_)
 have e:bV (lH f (.leaf l)::fs)=bV fs++[.lst true [.str (kdS f.kd),.int f.n,.lst true (rowsD f.full),.lst true (pcsD f.parts++[cN l])]]:=by rw [<-ep];rfl
 rw [e]
 have s1:=yf2 (p:=[some S,x1,x2,some (.int nest),some (.lst true (bV (f::fs))),some (.int i),some (.int m),some (.int (m % 13)),some (.str (kdS f.kd)),x9]) (j:=4) (k:=3) (n:=3) (M:=bV fs) (fe:=aG GL (aA (aG GM (aA (aB 0) (aA (aB 5) (aA (fC (.int 32)) aE)))) aE)) rfl rfl rfl (aP (aD (aP (aD rfl (aD rfl (aD rfl rfl))) hm2) rfl) hL) hz'
 exact s1
end
section
variable{GM:tz6}{GS:tz7}{GL:tz6}{S:D}{x1 x2 x6 x7 x8 x9:Option D}{nest k:Nat}{fs:List Gm}{i:Int}
theorem yt7{f:Gm}{fs:List Gm}(h:yh2 (f::fs)):f.kd<=3:=by
 cases fs with
 |nil=>have:f.kd=0:=h;omega
 |cons g fs=>exact h.1.2
theorem xy5(hS:∀(f g:Gm) (fs:List Gm),(1<=f.kd/\f.kd<=3)->(f.kd≠3->f.full=[])->f.full.length<=3->g.parts.length<=900->GS [.lst true (bV (f::g::fs))]=some (.non,[.lst true (bV (lH g (gJ f)::fs))]))
  (hL:∀m,0<=m->∃l,GL [.int m]=some (cN l)/\fR l) (hM:∀s:Int,s=31\/s=32->∃m,GM [S,.int i,.int s]=some (.int m)/\0<=m) (h:GInv nest k fs) (hk:4*k+4<=800) (hn:nest<=100):
  ∃fs' y6 y7 y8 y9,yM GM GS GL [some S,x1,x2,some (.int nest),some (.lst true (bV fs)),some (.int i),x6,x7,x8,x9]=some (.nx,[some S,x1,x2,some (.int nest),some (.lst true (bV fs')),some (.int i),y6,y7,y8,y9])/\GInv nest (k+1) fs':=by
 obtain⟨m,hm,hm0⟩:=hM 31 (.inl rfl)
 obtain⟨m2,hm2,hm20⟩:=hM 32 (.inr rfl)
 have hln:=h.len
 cases fs with
 |nil=>exact h.kinds.elim
 | cons f fs=>
  have hd:=xf5 (GS:=GS) (GL:=GL) (x1:=x1) (x2:=x2) (x6:=x6) (x7:=x7) (x8:=x8) (x9:=x9) (nest:=nest) (f:=f) (fs:=fs) hm
  by_cases c1:m % 13<4/\(f::fs).length<=nest
  ·obtain⟨kd,n,y9,q,h1,h2⟩:=xf7 (GM:=GM) (GS:=GS) (GL:=GL) (S:=S) (x1:=x1) (x2:=x2) (x8:=some (.str (kdS f.kd))) (x9:=x9) (i:=i) c1.1 c1.2 (by omega)
   exact⟨_,_,_,_,y9,hd.trans q,h.opener h1 h2 c1.2⟩
  ·by_cases c2:m % 13=4/\fs≠[]
   ·cases fs with
    |nil=>exact absurd rfl c2.2
    |cons g fs=>
     have hf:=h.each f Z0
     have hg:=h.parts (f:=g) (Z1 _ Z0)
     have q:=xf8 (GM:=GM) (GL:=GL) (S:=S) (x1:=x1) (x2:=x2) (x8:=some (.str (kdS f.kd))) (x9:=x9) (nest:=nest) (i:=i) (hS f g fs h.kinds.1 hf.2.2.2.1 hf.2.2.1 (by omega)) c2.1
     exact⟨_,_,_,_,_,hd.trans q,h.shut.more (by omega)⟩
   ·by_cases c3:m % 13<7/\f.kd=3/\f.full.length<3
    ·have q:=xy4 (GM:=GM) (GS:=GS) (GL:=GL) (S:=S) (x1:=x1) (x2:=x2) (x9:=x9) (i:=i) c1 c2 c3.1 c3.2.1 c3.2.2
     exact⟨_,_,_,_,_,hd.trans q,h.orr c3.2.2 c3.2.1⟩
    ·obtain⟨l,hl,hlk⟩:=hL m2 hm20
     have q:=xf9 (GM:=GM) (GS:=GS) (GL:=GL) (S:=S) (x1:=x1) (x2:=x2) (x9:=x9) (i:=i) hm2 hl (by have:=h.parts (f:=f) Z0;omega) c1 c2 c3 (yt7 h.kinds)
     exact⟨_,_,_,_,_,hd.trans q,h.leaf hlk⟩
theorem yn9(hS:∀(f g:Gm) (fs:List Gm),(1<=f.kd/\f.kd<=3)->(f.kd≠3->f.full=[])->f.full.length<=3->g.parts.length<=900->GS [.lst true (bV (f::g::fs))]=some (.non,[.lst true (bV (lH g (gJ f)::fs))]))
  (hL:∀m,0<=m->∃l,GL [.int m]=some (cN l)/\fR l) (hn:nest<=100):∀(l:List Int) (fs:List Gm) (k:Nat) (x5 x6 x7 x8 x9:Option D),(∀j∈l,∀s:Int,s=31\/s=32->∃m,GM [S,.int j,.int s]=some (.int m)/\0<=m)->GInv nest k fs->4*(k+l.length)+4<=800->
  ∃fs' y5 y6 y7 y8 y9,dC 5 (yM GM GS GL) (l.map .int) [some S,x1,x2,some (.int nest),some (.lst true (bV fs)),x5,x6,x7,x8,x9]=some (.nx,[some S,x1,x2,some (.int nest),some (.lst true (bV fs')),y5,y6,y7,y8,y9])/\GInv nest (k+l.length) fs'
 |[],fs,k,x5,x6,x7,x8,x9,_,h,_=>⟨fs,x5,x6,x7,x8,x9,by simp! [fIO,eD,jB,dC],h⟩
 |j::l,fs,k,x5,x6,x7,x8,x9,hM,h,hk=>by
  rw [Z6] at hk
  obtain⟨fs1,y6,y7,y8,y9,q,h1⟩:=xy5 (x1:=x1) (x2:=x2) (x6:=x6) (x7:=x7) (x8:=x8) (x9:=x9) hS hL (hM j Z0) h (by omega) hn
  obtain⟨fs2,z5,z6,z7,z8,z9,q2,h2⟩:=yn9 hS hL hn l fs1 (k+1) (some (.int j)) y6 y7 y8 y9 (fun i hi=>hM i (Z1 _ hi)) h1 (by omega)
  refine⟨fs2,z5,z6,z7,z8,z9,?_,(show k+1+l.length=k+(j::l).length by rw [Z6];omega)▸h2⟩
  rw [<-q2]
  show(yM GM GS GL [some S,x1,x2,some (.int nest),some (.lst true (bV fs)),some (.int j),x6,x7,x8,x9]).bind _=_
  rw [q];rfl
def zn6(GS:tz7)(n:Nat):tz1:=lW (aU (fB (f2 dGt (aG eI (aA (aB 4) aE)) (fC (.int 1))))) (cP (fIO [.io 4] GS)) n
theorem yo0{x0 x3 x5:Option D}(hS:∀(f g:Gm) (fs:List Gm),(1<=f.kd/\f.kd<=3)->(f.kd≠3->f.full=[])->f.full.length<=3->g.parts.length<=900->GS [.lst true (bV (f::g::fs))]=some (.non,[.lst true (bV (lH g (gJ f)::fs))]))(hk:4*k+4<=800):
  ∀(n:Nat) (fs:List Gm),fs.length<=n->GInv nest k fs->∃f,zn6 GS n [x0,x1,x2,x3,some (.lst true (bV fs)),x5,x6,x7,x8,x9]=some (.nx,[x0,x1,x2,x3,some (.lst true (bV [f])),x5,x6,x7,x8,x9])/\GInv nest k [f]
 |0,[],_,h=>h.kinds.elim
 |0,_::_,hl,_=>by simp! [fIO,eD,jB] at hl
 |n+1,[],_,h=>h.kinds.elim
 |n+1,[f],_,h=>by
  refine⟨f,?_,h⟩
  unfold zn6
  rw [lW]
  have hl:(bV [f]).length=1:=rfl
  generalize bV [f]=N at hl|-
  simp! [fIO,eD,jB,hl]
 |n+1,f::g::fs,hl,h=>by
  have hf:=h.each f Z0
  have hg:=h.parts (f:=g) (Z1 _ Z0)
  have q:=hS f g fs h.kinds.1 hf.2.2.2.1 hf.2.2.1 (by omega)
  obtain⟨f',w,h'⟩:=yo0 (x0:=x0) (x3:=x3) (x5:=x5) hS hk n (lH g (gJ f)::fs) (by simp! [fIO,eD,jB] at hl|-;omega) h.shut
  refine⟨f',?_,h'⟩
  rw [<-w]
  have hl2:(bV (f::g::fs)).length=fs.length+1+1:=by rw [pO];rfl
  have hpos:(1:Int)<((fs.length:Int)+1+1):=by omega
  show lW _ _ (n+1) _=_
  rw [lW]
  generalize bV (f::g::fs)=N at q hl2|-
  generalize bV (lH g (gJ f)::fs)=M at q|-
  simp! [fIO,eD,jB,hl2,hpos,q,zn6]
def wr1(n:Nat)(GM:tz6)(GS:tz7)(GL:tz6):tz1:=
 aT (aV 4 (aI (dM (aA (dM (aA (fC (.str "top")) (aA (fC (.int 0)) (aA (dM aE) (aA (dM aE) aE))))) aE)))) (aT (fJ 5 (lL (aA (aB 1) (aA (f2 cO (aB 1) (aB 2)) aE))) (yM GM GS GL)) (aT (zn6 GS n) (bW (aI (aG gO (aA (f2 dIx (f2 dIx (aB 4) (fC (.int 0))) (fC (.int 3))) aE))))))
structure RowOk(nest w:Nat)(r:List Pc):Prop where
 ok:okR r
 dep:depR r<=nest
 len:(toksR r).length<=w
theorem wl8{a many n:Nat}(hS:∀(f g:Gm) (fs:List Gm),(1<=f.kd/\f.kd<=3)->(f.kd≠3->f.full=[])->f.full.length<=3->g.parts.length<=900->GS [.lst true (bV (f::g::fs))]=some (.non,[.lst true (bV (lH g (gJ f)::fs))]))
  (hL:∀m,0<=m->∃l,GL [.int m]=some (cN l)/\fR l) (hM:∀j s:Int,(a:Int)<=j/\j<a+many->s=31\/s=32->∃m,GM [S,.int j,.int s]=some (.int m)/\0<=m) (hn:nest<=100) (hmany:many<=90) (ha:a<=1000) (hnn:nest<n):
  ∃r,gP 4 6 (wr1 n GM GS GL) [S,.int a,.int many,.int nest]=some (.tup (pcsD r))/\RowOk nest (4*many) r:=by
 have i0:GInv nest 0 [⟨0,0,[],[]⟩]:=⟨by simp! [fIO,eD,jB],by decide,fun f hf=>by rw [Zc.mp hf];exact⟨trivial,trivial,ZK _,fun _=>rfl,Ym _,by decide⟩,rfl,⟨ZK _,ZK _,trivial⟩⟩
 obtain⟨fs1,y5,y6,y7,y8,y9,q,h1⟩:=yn9 (GM:=GM) (GS:=GS) (GL:=GL) (S:=S) (x1:=some (.int a)) (x2:=some (.int many)) hS hL hn ((List.range many).map fun(k:Nat)=>(a:Int)+(k:Int)) [⟨0,0,[],[]⟩] 0 none none none none none
  (fun j hj s hs=>by obtain⟨k,hk,rfl⟩:=ZP.mp hj;have:=YJ.mp hk;exact hM _ s (by omega) hs) i0 (by simp;omega)
 rw [<-wf0] at q
 rw [Z7,Yj,YI] at h1
 have hln:=h1.len
 obtain⟨f,w,h2⟩:=yo0 (GS:=GS) (x0:=some S) (x1:=some (.int a)) (x2:=some (.int many)) (x3:=some (.int nest)) (x5:=y5) (x6:=y6) (x7:=y7) (x8:=y8) (x9:=y9) hS (by omega) n fs1 (by omega) h1
 have hf:=h2.each f Z0
 have hd:=h2.deep.1
 have hwt:wF f+0<=4*many+4:=h2.wt
 refine⟨f.parts,?_,hf.2.1,by simpa using hd,by unfold wF at hwt;omega⟩
 have e:((a:Int)+(many:Int)-(a:Int)).toNat=many:=by omega
 have s0:aV 4 (aI (dM (aA (dM (aA (fC (.str "top")) (aA (fC (.int 0)) (aA (dM aE) (aA (dM aE) aE))))) aE))) [some S,some (.int a),some (.int many),some (.int nest),none,none,none,none,none,none]=some (.nx,[some S,some (.int a),some (.int many),some (.int nest),some (.lst true (bV [⟨0,0,[],[]⟩])),none,none,none,none,none]):=bD rfl
 have s1:fJ 5 (lL (aA (aB 1) (aA (f2 cO (aB 1) (aB 2)) aE))) (yM GM GS GL) [some S,some (.int a),some (.int many),some (.int nest),some (.lst true (bV [⟨0,0,[],[]⟩])),none,none,none,none,none]=some (.nx,[some S,some (.int a),some (.int many),some (.int nest),some (.lst true (bV fs1)),y5,y6,y7,y8,y9]):=by
  have e1:aA (aB 1) (aA (f2 cO (aB 1) (aB 2)) aE) [some S,some (.int a),some (.int many),some (.int nest),some (.lst true (bV [⟨0,0,[],[]⟩])),none,none,none,none,none]=some [.int a,.int ((a:Int)+(many:Int))]:=rfl
  unfold fJ lL
  rw [e1,Z2,zp9 (by omega) (by omega) (by omega) (by omega),e]
  exact q
 have s3:aG gO (aA (f2 dIx (f2 dIx (aB 4) (fC (.int 0))) (fC (.int 3))) aE) [some S,some (.int a),some (.int many),some (.int nest),some (.lst true (bV [f])),y5,y6,y7,y8,y9]=some (.tup (pcsD f.parts)):=by
  show aG gO (aA (f2 dIx (f2 dIx (aB 4) (fC (.int 0))) (fC (.int 3))) aE) [some S,some (.int a),some (.int many),some (.int nest),some (.lst true [.lst true [.str (kdS f.kd),.int f.n,.lst true (rowsD f.full),.lst true (pcsD f.parts)]]),y5,y6,y7,y8,y9]=_
  simp! [fIO,eD,jB,pcs_imm]
 have z:=(aW s0).trans ((aW s1).trans ((aW w).trans (cE s3)))
 exact lV rfl z
end
abbrev xq5(GM GL:tz6):tz6:=gP 4 6 (yh0 GM zn5 GL)
theorem wg5{GM GL:tz6}{S:D}{nest a many:Nat}(hL:∀m,0<=m->∃l,GL [.int m]=some (cN l)/\fR l)(hM:∀j s:Int,(a:Int)<=j/\j<a+many->s=31\/s=32->∃m,GM [S,.int j,.int s]=some (.int m)/\0<=m)(hn:nest<=100)(hmany:many<=90)(ha:a<=1000):
  ∃r,xq5 GM GL [S,.int a,.int many,.int nest]=some (.tup (pcsD r))/\RowOk nest (4*many) r:=by
 obtain⟨r,h1,h2⟩:=wl8 (n:=400) (GS:=zn5) (fun f g fs h1 h2 h3 h4=>xn9 h1 h2 h3 h4) hL hM hn hmany ha (Yf hn (by decide))
 exact⟨r,h1,h2⟩
theorem yf3{m:Int}:∀(l:List Int) (w:Str) (x2 x4:Option D),(∀j∈l,0<=j/\j<100)->w.length+l.length<=100->w.cps.toList.all vE=true->
  ∃w' x4',dC 4 (aV 3 (aI (f2 cO (aB 3) (f2 dIx (aB 1) (f2 eC (f2 cO (f2 mT (aB 0) (fC (.int 12))) (f2 nR (aB 4) (f2 eC (f2 mT (aB 0) (fC (.int 9000))) (fC (.int 93))))) (fC (.int 93))))))) (l.map .int) [some (.int m),some (.str sg),x2,some (.str w),x4]
   =some (.nx,[some (.int m),some (.str sg),x2,some (.str w'),x4'])/\w'.length=w.length+l.length/\w'.cps.toList.all vE=true
 |[],w,x2,x4,_,_,hw=>⟨w,x4,by simp! [fKs,fJ,jN,nR,dH,eS,lK,sK,D.flat,qW,dC],rfl,hw⟩
 |j::l,w,x2,x4,hj,hl,hw=>by
  rw [Z6] at hl
  have hj0:=hj j Z0
  obtain⟨c,hc,hg⟩:=wl4 ((m/12+j*(m/9000 % 93)) % 93) (ZE _ (by decide)) (ZC _ (by decide))
  have hw1:(w++(⟨#[c]⟩:Str)).length=w.length+1:=by rw [eG];rfl
  obtain⟨w',x4',q1,q2,q3⟩:=yf3 (m:=m) l (w++⟨#[c]⟩) x2 (some (.int j)) (fun i hi=>hj i (Z1 _ hi)) (by rw [hw1];omega) (by rw [cL,List.all_append,hw];simp! [fKs,fJ,jN,nR,dH,eS,lK,sK,D.flat,qW,hg])
  refine⟨w',x4',?_,by rw [q2,hw1,Z6];omega,q3⟩
  rw [<-q1]
  have hz:w.length+(⟨#[c]⟩:Str).length<=sizeLine:=sz (by show w.length+1<=1000;omega)
  have b1:(-18446744073709551616<j/\j<18446744073709551616):=by omega
  simp! [fKs,fJ,jN,nR,dH,eS,lK,sK,D.flat,qW,dC,hc,xx2,hz,b1]
abbrev yv6:tz6:=gP 1 4 zb4
theorem xy6{m:Int}(hm:0<=m):∃z,yv6 [.int m]=some (.str z)/\yg7 z:=by
 obtain⟨s,hs,h1,h2⟩:=xx3 m
 obtain⟨w,x4,q1,q2,q3⟩:=yf3 (m:=m) ((List.range s.toNat).map fun(k:Nat)=>(k:Int)) "" (some (.int s)) none
  (fun j hj=>by obtain⟨k,hk,rfl⟩:=ZP.mp hj;have:=YJ.mp hk;omega) (by rw [Z7,Yj];show 0+_<=100;omega) (by decide+kernel)
 rw [<-we8] at q1
 rw [Z7,Yj] at q2
 have q2':w.length=s.toNat:=by rw [q2];show 0+_=_;omega
 refine⟨w,?_,by omega,by omega,q3⟩
 have hz:(Str.ofString "abcdefghijklmnopqrstuvwxyzABCDEFGHIJKLMNOPQRSTUVWXYZ0123456789").length+(Str.ofString "!\"#$&'()*+,-./:;<=>?\x40[\\]^_`{|}~").length<=sizeLine:=by decide+kernel
 have e1:Str.ofString "abcdefghijklmnopqrstuvwxyzABCDEFGHIJKLMNOPQRSTUVWXYZ0123456789"++Str.ofString "!\"#$&'()*+,-./:;<=>?\x40[\\]^_`{|}~"=sg:=rfl
 have b1:(-4611686018427387904<=s/\s<4611686018427387904):=by omega
 simp! [fKs,fJ,jN,nR,dH,eS,lK,sK,D.flat,qW,zb4,hz,e1,hs,q1,b1]
abbrev zn7:tz6:=gP 1 1 (zb5 yv6)
theorem xy7{m:Int}(hm:0<=m):∃l,zn7 [.int m]=some (cN l)/\fR l:=by
 have hd:0<=m/16:=Int.ediv_nonneg hm (by decide)
 have s1:aV 1 (aI (f2 mT (aB 0) (fC (.int 16)))) [some (.int m),none]=some (.nx,[some (.int m),some (.int (m/16))]):=bD (aR rfl rfl ((eS _ _).trans (if_pos (by decide))))
 have md:f2 eC (aB 0) (fC (.int 16)) [some (.int m),some (.int (m/16))]=some (.int (m % 16)):=aR rfl rfl ((dH _ _).trans (if_pos (by decide)))
 have t:∀c:Int,fB (f2 dLt (f2 eC (aB 0) (fC (.int 16))) (fC (.int c))) [some (.int m),some (.int (m/16))]=some (decide (m % 16<c)):=fun c=>dR (aR md rfl rfl)
 have out:∀{p:PSt} (l:Leaf),zb5 yv6 [some (.int m),none]=some (.ret (cN l),p)->zn7 [.int m]=some (cN l):=fun l h=>lV rfl h
 have t8:=t 8
 have t13:=t 13
 by_cases c1:m % 16<8
 ·obtain⟨z,q,hz⟩:=xy6 hd
  rw [Zr c1] at t8
  exact⟨.word z,out (.word z) ((aW s1).trans (fP ((cG t8).trans (cE (eM (aD rfl (aD (aP (aD rfl rfl) q) rfl)) rfl (Z9 rfl)))))),hz⟩
 ·rw [Zg c1] at t8
  by_cases c2:m % 16<13
  ·obtain⟨x,q,hx⟩:=we9 (m/16)
   rw [Zr c2] at t13
   exact⟨.gap x,out (.gap x) ((aW s1).trans ((aW (aZ t8)).trans (fP ((cG t13).trans (cE (eM (aD rfl (aD (aR (iN rfl (Z9 rfl)) (aR rfl rfl ((dH _ _).trans (if_pos (by decide)))) q) rfl)) rfl (Z9 rfl))))))),hx⟩
  ·rw [Zg c2] at t13
   have te:fB (f2 dEq (f2 eC (aB 0) (fC (.int 16))) (fC (.int 13))) [some (.int m),some (.int (m/16))]=some (decide (m % 16=13)):=dR (aR md rfl rfl)
   by_cases c3:m % 16=13
   ·rw [Zr c3] at te
    exact⟨.fin,out .fin ((aW s1).trans ((aW (aZ t8)).trans ((aW (aZ t13)).trans (fP ((cG te).trans (cE rfl)))))),trivial⟩
   ·rw [Zg c3] at te
    have ha:=ZE (m/16/2) (show(10:Int)≠0 by decide)
    have hb:=ZC (m/16/2) (show(0:Int)<10 by decide)
    have hc:=ZE (m/16/2) (show(41:Int)≠0 by decide)
    have he:=ZC (m/16/2) (show(0:Int)<41 by decide)
    obtain⟨c,q,h1,h2⟩:=xx4 (m/16/2 % 10) (m/16/2 % 41) (m/16) ⟨ha,Int.le_trans (W9 hb) (by decide)⟩ ⟨hc,Wg he⟩
    have dv:f2 mT (aB 1) (fC (.int 2)) [some (.int m),some (.int (m/16))]=some (.int (m/16/2)):=aR rfl rfl ((eS _ _).trans (if_pos (by decide)))
    exact⟨.stop c,out (.stop c) ((aW s1).trans ((aW (aZ t8)).trans ((aW (aZ t13)).trans ((aW (aZ te)).trans (cE (eM (aD rfl (aD (aR (iN (aD (aR dv rfl ((dH _ _).trans (if_pos (by decide)))) (aD (aR dv rfl ((dH _ _).trans (if_pos (by decide)))) rfl)) (Z9 rfl)) (aR rfl rfl ((dH _ _).trans (if_pos (by decide)))) q) rfl)) rfl (Z9 rfl))))))),h1,h2⟩
theorem xo1{f:tz2}{p:PSt}{t:Str}(h:f p=some (.str t))(hl:t.length<=900000):fMt za6 f (aA (fC (.str "\n")) aE) p=some (.lst true (L2.gV (lns t))):=by
 unfold fMt
 rw [h,Z2,aD (f:=fC (.str "\n")) (g:=aE) (d:= .str "\n") (ds:=[]) rfl rfl,Z2,if_pos (show zy2 (.str t)=true from rfl)]
 unfold lns
 rw [<-yt1]
 exact if_pos ⟨by decide+kernel,by omega⟩
def nb(y x:Way):Prop:=ltW x y=false
theorem sY:∀a:List Int,HT.lexLt a a=false
 |[]=>rfl
 |x::a=>by show(if x=x then HT.lexLt a a else _)=_;rw [if_pos rfl];exact sY a
theorem yo1:∀{a b c:List Int},HT.lexLt a b=false->HT.lexLt b c=false->HT.lexLt a c=false
 |[],[],c,_,h=>h
 |[],_::_,_,h,_=>by cases h
 |x::a,b,[],_,_=>rfl
 |x::a,[],z::c,_,h=>by cases h
 | x::a,y::b,z::c,h1,h2=>by
  have h1':(if x=y then HT.lexLt a b else decide (x<y))=false:=h1
  have h2':(if y=z then HT.lexLt b c else decide (y<z))=false:=h2
  show(if x=z then HT.lexLt a c else decide (x<z))=false
  by_cases e1:x=y
  ·subst e1
   rw [if_pos rfl] at h1'
   by_cases e2:x=z
   ·subst e2
    rw [if_pos rfl] at h2'|-
    exact yo1 h1' h2'
   ·rw [if_neg e2] at h2'|-;exact h2'
  ·rw [if_neg e1] at h1'
   have g1:=Yt h1'
   by_cases e2:y=z
   ·subst e2
    rw [if_neg e1];exact h1'
   ·rw [if_neg e2] at h2'
    have g2:=Yt h2'
    rw [if_neg (by omega)]
    exact Zg (by omega)
theorem wg6(a b a' b':Int):HT.lexLt [a,b] [a',b']=(if a=a' then(if b=b' then false else decide (b<b')) else decide (a<a')):=rfl
theorem uF{y x:Way}:nb y x↔y.1.1<x.1.1\/(y.1.1=x.1.1/\(y.1.2<x.1.2\/(y.1.2=x.1.2/\HT.lexLt x.2 y.2=false))):=by
 have e:ltW x y=(if [x.1.1,x.1.2]=[y.1.1,y.1.2] then(if x.2=y.2 then false else HT.lexLt x.2 y.2) else HT.lexLt [x.1.1,x.1.2] [y.1.1,y.1.2]):=rfl
 have e2:(if x.2=y.2 then false else HT.lexLt x.2 y.2)=HT.lexLt x.2 y.2:=by
  by_cases c:x.2=y.2
  ·rw [if_pos c,c,sY]
  ·rw [if_neg c]
 unfold nb
 rw [e,e2,wg6]
 by_cases c1:x.1.1=y.1.1
 ·by_cases c2:x.1.2=y.1.2
  ·rw [if_pos (by rw [c1,c2])]
   constructor
   ·exact fun h=> .inr ⟨c1.symm,.inr ⟨c2.symm,h⟩⟩
   ·rintro(h|⟨_,h|⟨_,h⟩⟩)
    ·omega
    ·omega
    ·exact h
  ·rw [if_neg (by simp [c1,c2]),if_pos c1,if_neg c2]
   constructor
   ·intro h
    have:=Yt h
    exact .inr ⟨c1.symm,.inl (by omega)⟩
   ·rintro(h|⟨_,h|⟨h,_⟩⟩)
    ·omega
    ·exact Zg (by omega)
    ·omega
 ·rw [if_neg (by simp [c1]),if_neg c1]
  constructor
  ·intro h
   have:=Yt h
   exact .inl (by omega)
  ·rintro(h|⟨h,_⟩)
   ·exact Zg (by omega)
   ·omega
theorem wL(x:Way):nb x x:=uF.mpr (.inr ⟨rfl,.inr ⟨rfl,sY _⟩⟩)
theorem zh9{z y x:Way}(h1:nb z y)(h2:nb y x):nb z x:=by
 rw [uF] at*
 rcases h1 with a|⟨a,a'|⟨a',a''⟩⟩<;>rcases h2 with b|⟨b,b'|⟨b',b''⟩⟩
 ·exact .inl (by omega)
 ·exact .inl (by omega)
 ·exact .inl (by omega)
 ·exact .inl (by omega)
 ·exact .inr ⟨by omega,.inl (by omega)⟩
 ·exact .inr ⟨by omega,.inl (by omega)⟩
 ·exact .inl (by omega)
 ·exact .inr ⟨by omega,.inl (by omega)⟩
 ·exact .inr ⟨by omega,.inr ⟨by omega,yo1 b'' a''⟩⟩
theorem xo2:∀{a b:List Int},HT.lexLt a b=true->HT.lexLt b a=false:=fun {a b} h=>by
 cases e:HT.lexLt b a with
 |false=>rfl
 | true =>
  cases e2:HT.lexLt a a with
  | false=>
   exact absurd h (by
    intro _
    have:∀{a b:List Int},HT.lexLt a b=true->HT.lexLt b a=true->False:=by
     intro a
     induction a with
     |nil=>intro b _ h2;cases b<;>cases h2
     | cons x a ih=>
      intro b h1 h2
      cases b with
      |nil=>cases h1
      | cons y b=>
       have h1':(if x=y then HT.lexLt a b else decide (x<y))=true:=h1
       have h2':(if y=x then HT.lexLt b a else decide (y<x))=true:=h2
       by_cases c:x=y
       ·subst c
        rw [if_pos rfl] at h1' h2'
        exact ih h1' h2'
       ·rw [if_neg c] at h1'
        rw [if_neg (fun z=>c z.symm)] at h2'
        have:=Xn h1'
        have:=Xn h2'
        omega
    exact this h e)
  |true=>rw [sY] at e2;cases e2
theorem yf4{x y:Way}(h:ltW x y=true):nb x y:=by
 have h':¬nb y x:=fun z=>by unfold nb at z;rw [h] at z;cases z
 rw [uF] at h'|-
 by_cases c1:x.1.1<y.1.1
 ·exact .inl c1
 ·by_cases c2:x.1.1=y.1.1
  ·refine .inr ⟨c2,?_⟩
   by_cases c3:x.1.2<y.1.2
   ·exact .inl c3
   ·by_cases c4:x.1.2=y.1.2
    ·refine .inr ⟨c4,?_⟩
     cases e:HT.lexLt x.2 y.2 with
     |false=>exact absurd (.inr ⟨c2.symm,.inr ⟨c4.symm,e⟩⟩) h'
     |true=>exact xo2 e
    ·exact absurd (.inr ⟨c2.symm,.inl (by omega)⟩) h'
  ·exact absurd (.inl (by omega)) h'
theorem wg7{y x:Way}(h:nb y x)(i j:Int):nb ((y.1.1+i,y.1.2+j),y.2) ((x.1.1+i,x.1.2+j),x.2):=by
 rw [uF] at h|-
 rcases h with a|⟨a,b|⟨b,c⟩⟩
 ·exact .inl (by show y.1.1+i<x.1.1+i;omega)
 ·exact .inr ⟨by show y.1.1+i=x.1.1+i;omega,.inl (by show y.1.2+j<x.1.2+j;omega)⟩
 ·exact .inr ⟨by show y.1.1+i=x.1.1+i;omega,.inr ⟨by show y.1.2+j=x.1.2+j;omega,c⟩⟩
def yv7(a b:List Int):Prop:=(∀x,b=a++x->x=[])/\(∀x,a=b++x->x=[])
theorem yo2:∀{a b:List Int},yv7 a b->∀u,HT.lexLt (a++u) (b++u)=HT.lexLt a b
 |[],b,h,u=>by
  have:b=[]:=h.1 b rfl
  subst this
  rw [Yq,sY,sY]
 |a::as,[],h,u=>by have:=h.2 (a::as) rfl;cases this
 | x::a,y::b,h,u=>by
  show(if x=y then HT.lexLt (a++u) (b++u) else decide (x<y))=(if x=y then HT.lexLt a b else decide (x<y))
  by_cases c:x=y
  ·subst c
   rw [if_pos rfl,if_pos rfl]
   exact yo2 ⟨fun z hz=>h.1 z (by rw [hz];rfl),fun z hz=>h.2 z (by rw [hz];rfl)⟩ u
  ·rw [if_neg c,if_neg c]
theorem wg8{y x:Way}(h:nb y x)(ha:yv7 x.2 y.2)(u:List Int):nb (y.1,y.2++u) (x.1,x.2++u):=by
 rw [uF] at h|-
 rcases h with a|⟨a,b|⟨b,c⟩⟩
 ·exact .inl a
 ·exact .inr ⟨a,.inl b⟩
 ·exact .inr ⟨a,.inr ⟨b,by show HT.lexLt (x.2++u) (y.2++u)=false;rw [yo2 ha];exact c⟩⟩
theorem yo3:∀{F:Frt} {k:Nat} {y:Way},mG F k=some y->(k,y)∈F
 |[],_,_,h=>by cases h
 |p::F,k,y,h=>by
  rw [mG] at h
  by_cases e:p.1=k
  ·rw [if_pos e] at h;cases h;subst e;exact Z0
  ·rw [if_neg e] at h;exact Z1 _ (yo3 h)
theorem yo4:∀{F:Frt} {k:Nat} {y z:Way},(F.map (·.1)).Nodup->(k,y)∈F->(k,z)∈F->y=z
 |[],_,_,_,_,h,_=>by cases h
 |p::F,k,y,z,nd,h1,h2=>by
  rw [Z8,Zs] at nd
  rcases Z3.mp h1 with e1|e1<;>rcases Z3.mp h2 with e2|e2
  ·rw [<-e2] at e1;cases e1;rfl
  ·exact absurd (Yd (f:=(·.1)) e2) (by rw [<-e1] at nd;exact nd.1)
  ·exact absurd (Yd (f:=(·.1)) e1) (by rw [<-e2] at nd;exact nd.1)
  ·exact yo4 nd.2 e1 e2
theorem zq8:∀{F:Frt} {k:Nat} {x y:Way},(k,y)∈F->(k,x)∈mH F k x
 |[],_,_,_,h=>by cases h
 |p::F,k,x,y,h=>by
  rw [mH]
  rcases Z3.mp h with e|e
  ·rw [<-e,if_pos rfl];exact Z0
  ·exact Z1 _ (zq8 e)
theorem yf5:∀{F:Frt} {k:Nat} {x:Way} {q:Nat×Way},q∈F->q.1≠k->q∈mH F k x
 |[],_,_,_,h,_=>by cases h
 |p::F,k,x,q,h,hk=>by
  rw [mH]
  rcases Z3.mp h with e|e
  ·rw [<-e,if_neg hk];exact Z0
  ·exact Z1 _ (yf5 e hk)
def Has(F:Frt)(k:Nat)(x:Way):Prop:=∃y,(k,y)∈F/\nb y x
theorem Has.le{F:Frt}{k:Nat}{x z:Way}(h:Has F k x)(hz:nb x z):Has F k z:=by
 obtain⟨y,a,b⟩:=h
 exact⟨y,a,zh9 b hz⟩
theorem yo5{F:Frt}{k:Nat}{x:Way}(h:(F.map (·.1)).Nodup):((hU F k x).map (·.1)).Nodup:=by
 unfold hU
 cases e:mG F k with
 |none=>
  simp only
  rw [ZV,ZA]
  refine⟨h,by simp,fun a ha b hb z=> ?_⟩
  simp only [Z8,Xm,Zc] at hb
  subst hb
  subst z
  exact zZ e ha
 |some y=>
  simp only
  split
  ·rw [uY];exact h
  ·exact h
theorem yf6{F:Frt}{k:Nat}{x:Way}(nd:(F.map (·.1)).Nodup):Has (hU F k x) k x/\∀j z,Has F j z->Has (hU F k x) j z:=by
 unfold hU
 cases e:mG F k with
 |none=>
  simp only
  exact⟨⟨x,by simp,wL x⟩,fun j z ⟨y,a,b⟩=>⟨y,Zo _ a,b⟩⟩
 | some y=>
  simp only
  have hy:=yo3 e
  by_cases c:ltW x y=true
  ·rw [if_pos c]
   refine⟨⟨x,zq8 hy,wL x⟩,fun j z ⟨y',a,b⟩=> ?_⟩
   by_cases hj:j=k
   ·subst hj
    rw [yo4 nd a hy] at b
    exact⟨x,zq8 hy,zh9 (yf4 c) b⟩
   ·exact⟨y',yf5 a hj,b⟩
  ·rw [if_neg c]
   exact⟨⟨y,hy,by unfold nb;simpa using c⟩,fun j z h=>h⟩
theorem xX:∀{G F:Frt},(F.map (·.1)).Nodup->((jW F G).map (·.1)).Nodup/\(∀p∈G,Has (jW F G) p.1 p.2)/\∀j z,Has F j z->Has (jW F G) j z
 |[],F,nd=>⟨nd,fun p h=>absurd h ZR,fun _ _ h=>h⟩
 |p::G,F,nd=>by
  obtain⟨a,b,c⟩:=xX (G:=G) (yo5 (k:=p.1) (x:=p.2) nd)
  obtain⟨d,e⟩:=yf6 (k:=p.1) (x:=p.2) nd
  refine⟨a,fun q hq=> ?_,fun j z h=>c j z (e j z h)⟩
  rcases Z3.mp hq with h|h
  ·subst h;exact c _ _ d
  ·exact b q h
mutual
theorem yf7:∀{p:Pc} {b:Bool} {m:Int} {cs cs':List Int} {t t':Str},cS b m p cs t=some (cs',t')->∃a,cs=a++cs'/\cS b m p a t=some ([],t')
 | .leaf l,b,m,cs,cs',t,t',h=>by
  rw [cS] at h
  cases e:wr b m (col t) l with
  |none=>rw [e] at h;cases h
  |some w=>rw [e] at h;cases h;exact⟨[],rfl,by rw [cS,e];rfl⟩
 | .group r,b,m,cs,cs',t,t',h=>by
  rw [cS.eq_def] at h
  simp only at h
  cases b with
  |false=>
   simp only [ZQ,Yy] at h
   obtain⟨a,e1,e2⟩:=setR_cut h
   exact⟨a,e1,by rw [cS.eq_def];simpa using e2⟩
  | true=>
   cases cs with
   |nil=>simp at h
   | cons c cs=>
    simp only [ZW] at h
    by_cases c0:c=0
    ·simp only [c0,ZW] at h
     obtain⟨a,e1,e2⟩:=setR_cut h
     exact⟨c::a,by rw [e1];rfl,by rw [cS.eq_def];simpa [c0] using e2⟩
    ·by_cases c1:c=1
     ·simp [c1] at h
      obtain⟨a,e1,e2⟩:=setR_cut h
      exact⟨c::a,by rw [e1];rfl,by rw [cS.eq_def];simpa [c1] using e2⟩
     ·simp [c0,c1] at h
 | .hang n r,b,m,cs,cs',t,t',h=>by
  rw [cS] at h
  obtain⟨a,e1,e2⟩:=setR_cut h
  exact⟨a,e1,by rw [cS];exact e2⟩
 | .either rs,b,m,cs,cs',t,t',h=>by
  rw [cS.eq_def] at h
  cases cs with
  |nil=>cases h
  | cons c cs=>
   simp only at h
   by_cases c0:0<=c
   ·simp only [c0,ZW] at h
    obtain⟨a,e1,e2⟩:=setAt_cut h
    exact⟨c::a,by rw [e1];rfl,by rw [cS.eq_def];simpa [c0] using e2⟩
   ·simp [c0] at h
theorem setR_cut:∀{r:List Pc} {b:Bool} {m:Int} {cs cs':List Int} {t t':Str},setR b m r cs t=some (cs',t')->∃a,cs=a++cs'/\setR b m r a t=some ([],t')
 |[],b,m,cs,cs',t,t',h=>by rw [setR] at h;cases h;exact⟨[],rfl,by rw [setR]⟩
 | p::r,b,m,cs,cs',t,t',h=>by
  rw [setR] at h
  cases e:cS b m p cs t with
  |none=>rw [e] at h;cases h
  |some s=>
   obtain⟨c1,t1⟩:=s
   rw [e] at h
   obtain⟨a,e1,e2⟩:=yf7 e
   obtain⟨a',e3,e4⟩:=setR_cut (show setR b m r c1 t1=some (cs',t') from h)
   refine⟨a++a',by rw [e1,e3,Zq],?_⟩
   rw [setR,uX a' e2]
   exact e4
theorem setAt_cut:∀{rs:List (List Pc)} {i:Nat} {b:Bool} {m:Int} {cs cs':List Int} {t t':Str},setAt b m rs i cs t=some (cs',t')->∃a,cs=a++cs'/\setAt b m rs i a t=some ([],t')
 |[],i,b,m,cs,cs',t,t',h=>by rw [setAt] at h;cases h
 |r::rs,0,b,m,cs,cs',t,t',h=>by
  rw [setAt] at h
  obtain⟨a,e1,e2⟩:=setR_cut h
  exact⟨a,e1,by rw [setAt];exact e2⟩
 |r::rs,i+1,b,m,cs,cs',t,t',h=>by
  rw [setAt] at h
  obtain⟨a,e1,e2⟩:=setAt_cut h
  exact⟨a,e1,by rw [setAt];exact e2⟩
end
def pB(R:List Int->Str->Prop):Prop:=∀c x t t',R c t->R (c++x) t'->x=[]/\t=t'
theorem pB.apart{R:List Int->Str->Prop}(h:pB R){a b:List Int}{s t:Str}(ha:R a s)(hb:R b t):yv7 a b:=
 ⟨fun x e=>by subst e;exact(h a x s t ha hb).1,fun x e=>by subst e;exact(h b x t s hb ha).1⟩
theorem zv4:∀{a b c d:List Int},a++b=c++d->(∃x,c=a++x)\/∃x,a=c++x:=fun {a b c d} h=>by
 rcases List.append_eq_append_iff.mp h with ⟨x,e,_⟩|⟨x,e,_⟩
 ·exact .inl ⟨x,e⟩
 ·exact .inr ⟨x,e⟩
theorem pB.aft{R:List Int->Str->Prop}{set:List Int->Str->Option (List Int×Str)}(h:pB R)(hs:∀c x t t',set c t=some ([],t')->set (c++x) t=some (x,t')):pB (Aft R set):=by
 rintro c x t t' ⟨c0,t0,c1,r1,rfl,e1⟩ ⟨d0,s0,d1,r2,e,e2⟩
 have key:c0=d0/\t0=s0:=by
  rcases zv4 (show c0++(c1++x)=d0++d1 by rw [<-e,Zq]) with ⟨z,rfl⟩|⟨z,rfl⟩
  ·obtain⟨rfl,rfl⟩:=h c0 z t0 s0 r1 r2
   exact⟨by rw [Zl],rfl⟩
  ·obtain⟨rfl,rfl⟩:=h d0 z s0 t0 r2 r1
   exact⟨by rw [Zl],rfl⟩
 obtain⟨rfl,rfl⟩:=key
 rw [Zq] at e
 have ed:=YZ e
 subst ed
 rw [hs c1 x t0 t e1] at e2
 cases e2
 exact⟨rfl,rfl⟩
theorem pB.chose{R:List Int->Str->Prop}(h:pB R)(n:Int):pB (zz0 R n):=by
 rintro c x t t' ⟨c0,r1,rfl⟩ ⟨d0,r2,e⟩
 rcases zv4 (show c0++([n]++x)=d0++[n] by rw [<-e,Zq]) with ⟨z,rfl⟩|⟨z,rfl⟩
 ·obtain⟨rfl,rfl⟩:=h c0 z t t' r1 r2
  rw [Zl,Zq] at e
  have:=YZ e
  exact⟨by simpa using this,rfl⟩
 ·obtain⟨rfl,rfl⟩:=h d0 z t' t r2 r1
  rw [Zl,Zq] at e
  have:=YZ e
  exact⟨by simpa using this,rfl⟩
def mJ(W:Int)(R:List Int->Str->Prop)(F:Frt):Prop:=∀c t k ln rg,R c t->kP W t k ln rg->Has F k ((ln,rg),c)
theorem mJ.mono{W:Int}{R R':List Int->Str->Prop}{F:Frt}(h:mJ W R F)(k:∀c t,R' c t->R c t):mJ W R' F:=fun c t j ln rg r hc=>h c t j ln rg (k c t r) hc
theorem yt8{W:Int}{R:List Int->Str->Prop}{F:Frt}(hf:pB R)(hg:Good W R F)(h:mJ W R F)(n:Int):mJ W (zz0 R n) (kQ F n):=by
 rintro c t k ln rg ⟨c0,r,rfl⟩ hc
 obtain⟨y,hy,hn⟩:=h c0 t k ln rg r hc
 obtain⟨t',ry,_⟩:=hg.hit _ hy
 have:=(xX (G:=F.map (yh3 n)) (F:=[]) Zk).2.1 (yh3 n (k,y)) (Yd hy)
 exact this.le (wg8 hn (hf.apart r ry) [n])
theorem xg0{W:Int}{t:Str}{k k':Nat}{ln ln' rg rg':Int}(h:kP W t k ln rg)(h':kP W t k' ln' rg'):k=k'/\ln=ln'/\rg=rg':=by
 obtain⟨xs,y,e,_,rfl,rfl,rfl⟩:=h
 obtain⟨xs',y',e',_,rfl,rfl,rfl⟩:=h'
 rw [e] at e'
 have h1:=X6 e' rfl
 have h2:=X2 e' rfl
 subst h1
 cases h2
 exact⟨rfl,rfl,rfl⟩
theorem xg1{W:Int}{b:Bool}{m:Int}{l:Leaf}{t w:Str}{k:Nat}{ln rg:Int}(hl:fR l)(h0:0<=m)(h1:m<=200)(hw:wr b m (col t) l=some w)(hc:kP W (t++w) k ln rg):∃ln0 rg0 i j,kP W t (col t) ln0 rg0/\(∀c:Int×Int,jK W b m l (col t) c=some (k,(c.1+i,c.2+j)))/\ln=ln0+i/\rg=rg0+j:=by
 obtain⟨xs,y,e⟩:=xm9 t
 have ck:=ye5 e
 obtain⟨ys,z,f1,f2,rfl,rfl,rfl⟩:=hc
 rcases(zk6 hl h0 h1 hw).1 with hn|⟨m',rfl⟩
 ·have e2:=ym8 e hn
  rw [e2] at f1
  have g1:=X6 f1 rfl
  have g2:=X2 f1 rfl
  subst g1
  cases g2
  have hz:=f2 (y++w) (by simp)
  rw [eG] at hz
  refine⟨(xs.length:Int)+1,zr6 W xs,0,0,⟨xs,y,e,fun q hq=> ?_,ck,rfl,rfl⟩,fun c=> ?_,by omega,by omega⟩
  ·rcases Zn.mp hq with g|g
   ·exact f2 q (Zo _ g)
   ·rw [Zc.mp g];omega
  ·unfold jK
   rw [hw,Z2,xr7 hn]
   simp only [ZQ,Yy]
   rw [if_neg (by rw [ck];omega),eG,ck,Int.add_zero,Int.add_zero]
 ·have e2:lns (t++nlw m')=lns t++[Txt.mul " " m']:=xe3 (zk5 m')
  rw [e2,e] at f1
  have g1:=X6 f1 rfl
  have g2:=X2 f1 rfl
  subst g1
  cases g2
  have hz:=f2 (Txt.mul " " m') (by simp)
  rw [nV] at hz
  refine⟨(xs.length:Int)+1,zr6 W xs,1,(W-(col t:Int))*(W-(col t:Int)),⟨xs,y,e,fun q hq=>f2 q (Zo _ hq),ck,rfl,rfl⟩,fun c=> ?_,by rw [Z5];simp,?_⟩
  ·unfold jK
   rw [hw,Z2,xe4]
   simp only [ZW]
   rw [yn0,if_neg (by omega),nV]
  ·rw [ck]
   unfold zr6
   rw [ZV,List.sum_append]
   simp
theorem za1{W:Int}{b:Bool}{m:Int}{l:Leaf}:∀{F G:Frt},(G.map (·.1)).Nodup->((jX W b m l F G).map (·.1)).Nodup/\(∀p∈F,∀s,jK W b m l p.1 p.2.1=some s->Has (jX W b m l F G) s.1 (s.2,p.2.2))/\∀j z,Has G j z->Has (jX W b m l F G) j z
 |[],G,nd=>⟨nd,fun p h=>absurd h ZR,fun _ _ h=>h⟩
 | p::F,G,nd=>by
  cases e:jK W b m l p.1 p.2.1 with
  | none=>
   have eq:jX W b m l (p::F) G=jX W b m l F G:=by
    show jX W b m l F (match jK W b m l p.1 p.2.1 with|none=>G|some s=>hU G s.1 (s.2,p.2.2))=_
    rw [e]
   obtain⟨a,h1,h2⟩:=za1 (W:=W) (b:=b) (m:=m) (l:=l) (F:=F) nd
   rw [eq]
   refine⟨a,fun q hq s hs=> ?_,h2⟩
   rcases Z3.mp hq with z|z
   ·rw [z,e] at hs;cases hs
   ·exact h1 q z s hs
  | some s=>
   have eq:jX W b m l (p::F) G=jX W b m l F (hU G s.1 (s.2,p.2.2)):=by
    show jX W b m l F (match jK W b m l p.1 p.2.1 with|none=>G|some s=>hU G s.1 (s.2,p.2.2))=_
    rw [e]
   obtain⟨a,h1,h2⟩:=za1 (W:=W) (b:=b) (m:=m) (l:=l) (F:=F) (yo5 (k:=s.1) (x:=(s.2,p.2.2)) nd)
   obtain⟨d,f⟩:=yf6 (k:=s.1) (x:=(s.2,p.2.2)) nd
   rw [eq]
   refine⟨a,fun q hq s' hs=> ?_,fun j z h=>h2 j z (f j z h)⟩
   rcases Z3.mp hq with z|z
   ·rw [z,e] at hs;cases hs;rw [z];exact h2 _ _ d
   ·exact h1 q z s' hs
theorem yt9{W:Int}{R:List Int->Str->Prop}{b:Bool}{m:Int}{l:Leaf}{F:Frt}(hl:fR l)(h0:0<=m)(h1:m<=200)(h:mJ W R F):mJ W (Aft R (cS b m (.leaf l))) (jX W b m l F []):=by
 rintro c t k ln rg ⟨c0,t0,c1,r,rfl,e⟩ hc
 rw [cS] at e
 cases ew:wr b m (col t0) l with
 |none=>rw [ew] at e;cases e
 |some w=>
  rw [ew] at e
  cases e
  obtain⟨ln0,rg0,i,j,g1,g2,rfl,rfl⟩:=xg1 hl h0 h1 ew hc
  obtain⟨y,hy,hn⟩:=h c0 t0 _ _ _ r g1
  have:=(za1 (W:=W) (b:=b) (m:=m) (l:=l) (F:=F) (G:=[]) Zk).2.1 (col t0,y) hy _ (g2 y.1)
  rw [Zl]
  exact this.le (wg7 hn i j)
theorem xy8{b:Bool}{m:Int}{p:Pc}{c:List Int}{t t':Str}(hp:∀l,p≠ .leaf l)(h:cS b m p c t=some ([],t')):∃(i:Nat) (x:List Pc×Bool×Int) (c':List Int),(cK b m p)[i]? =some x/\c=(if cT b p=true then [(i:Int)] else [])++c'/\setR x.2.1 x.2.2 x.1 c' t=some ([],t'):=by
 cases p with
 |leaf l=>exact absurd rfl (hp l)
 | group r=>
  rw [cS.eq_def] at h
  cases b with
  |false=>exact⟨0,(r,false,m),c,by simp [cK],by simp [cT],by simpa using h⟩
  | true=>
   cases c with
   |nil=>simp at h
   | cons d c=>
    simp only [ZW] at h
    by_cases c0:d=0
    ·subst c0
     exact⟨0,(r,false,m),c,by simp [cK],by simp [cT],by simpa using h⟩
    ·by_cases c1:d=1
     ·subst c1
      exact⟨1,(r,true,m),c,by simp [cK],by simp [cT],by simpa using h⟩
     ·simp [c0,c1] at h
 |hang n r=>exact⟨0,(r,b,m+n),c,by simp [cK],by simp [cT],by rw [cS] at h;exact h⟩
 | either rs=>
  rw [cS.eq_def] at h
  cases c with
  |nil=>cases h
  | cons d c=>
   simp only at h
   by_cases c0:0<=d
   ·simp only [c0,ZW] at h
    cases e:rs[d.toNat]? with
    |none=>rw [xL e] at h;cases h
    |some r=>
     rw [uW e] at h
     refine⟨d.toNat,(r,b,m),c,?_,by simp [cT];omega,h⟩
     show(rs.map fun r=>(r,b,m))[d.toNat]? =_
     rw [Zd,e];rfl
   ·simp [c0] at h
def zr7(W:Int)(GR:Bool->Int->List Pc->Frt->Frt)(r:List Pc):Prop:=∀(b:Bool) (m:Int) (R:List Int->Str->Prop) (F:Frt),0<=m->m+12*depR r<=200->pB R->Good W R F->mJ W R F->mJ W (Aft R (setR b m r)) (GR b m r F)
theorem yo6{GR:Bool->Int->List Pc->Frt->Frt}{tk:Bool}{F:Frt}:∀(xs:List (List Pc×Bool×Int)) (n:Nat) (A:Frt),(A.map (·.1)).Nodup->(∀(i:Nat) x,xs[i]? =some x->∀k z,Has (GR x.2.1 x.2.2 x.1 (if tk=true then kQ F ((n+i:Nat):Int) else F)) k z->Has (frW GR tk F n xs A) k z)/\∀j z,Has A j z->Has (frW GR tk F n xs A) j z
 |[],n,A,nd=>⟨fun i x h=>by simp at h,fun _ _ h=>h⟩
 | x::xs,n,A,nd=>by
  rw [frW]
  obtain⟨a,b,c⟩:=xX (G:=GR x.2.1 x.2.2 x.1 (if tk=true then kQ F n else F)) nd
  obtain⟨d,e⟩:=yo6 (GR:=GR) (tk:=tk) (F:=F) xs (n+1) _ a
  refine⟨fun i y hy k z hk=> ?_,fun j z h=>e j z (c j z h)⟩
  cases i with
  |zero=>
   simp at hy
   subst hy
   obtain⟨w,hw,hn⟩:=hk
   exact e k z ((b (k,w) hw).le hn)
  |succ i=>exact d i y (by simpa using hy) k z (by rwa [show n+1+i=n+(i+1) by omega])
theorem yu0{W:Int}{GR:Bool->Int->List Pc->Frt->Frt}{k:Nat}(hG:∀r,depR r<k->okR r->zr7 W GR r){R:List Int->Str->Prop}{b:Bool}{m:Int}{p:Pc}{F:Frt}(hk:eV p<=k)(ho:okP p)(h0:0<=m)(h1:m+12*eV p<=200)(hf:pB R)(hF:Good W R F)(hB:mJ W R F):mJ W (Aft R (cS b m p)) (frP W GR b m F p):=by
 have hold:(∀l,p≠ .leaf l)->mJ W (Aft R (cS b m p)) (frW GR (cT b p) F 0 (cK b m p) []):=by
  intro hp
  rintro c t q ln rg ⟨c0,t0,c1,r,rfl,e⟩ hc
  obtain⟨i,x,c',hx,rfl,hs⟩:=xy8 hp e
  obtain⟨a1,a2,a3,a4⟩:=zh7 ho h0 h1 hk (ZL hx)
  refine(yo6 (GR:=GR) (tk:=cT b p) (F:=F) (cK b m p) 0 [] Zk).1 i x hx q _ ?_
  rw [YI]
  by_cases tk:cT b p=true
  ·rw [if_pos tk,if_pos tk]
   exact hG x.1 a3 a4 x.2.1 x.2.2 _ _ a1 a2 (hf.chose i) (xP hF i) (yt8 hf hF hB i) _ t q ln rg ⟨c0++[(i:Int)],t0,c',⟨c0,r,rfl⟩,by rw [Zq],hs⟩ hc
  ·rw [if_neg tk,if_neg tk]
   exact hG x.1 a3 a4 x.2.1 x.2.2 _ _ a1 a2 hf hF hB _ t q ln rg ⟨c0,t0,c',r,rfl,hs⟩ hc
 cases p with
 |leaf l=>exact yt9 ho h0 (by rw [eV] at h1;omega) hB
 |group r=>exact hold nofun
 |hang n r=>exact hold nofun
 |either rs=>exact hold nofun
theorem zv5{W:Int}{GR:Bool->Int->List Pc->Frt->Frt}{k:Nat}(hGd:∀r,depR r<k->okR r->pX W GR r)(hG:∀r,depR r<k->okR r->zr7 W GR r){b:Bool}{m:Int}(h0:0<=m):∀{r:List Pc} {R:List Int->Str->Prop} {F:Frt},depR r<=k->okR r->m+12*depR r<=200->pB R->Good W R F->mJ W R F->mJ W (Aft R (setR b m r)) (r.foldl (fun F p=>frP W GR b m F p) F)
 |[],R,F,_,_,_,_,_,hB=>hB.mono fun c t ⟨c0,t0,c1,r,e,h⟩=>by
  rw [setR] at h
  cases h
  rw [e,Zl];exact r
 | p::r,R,F,hk,ho,h1,hf,hF,hB=>by
  rw [depR] at hk h1
  have hp:=xQ hGd (b:=b) (show eV p<=k by omega) ho.1 h0 (by omega) hF
  have hb:=yu0 hG (b:=b) (show eV p<=k by omega) ho.1 h0 (by omega) hf hF hB
  have hff:pB (Aft R (cS b m p)):=hf.aft fun c x t t' e=>by rw [uX x e];rfl
  refine(zv5 hGd hG h0 (r:=r) (by omega) ho.2 (by omega) hff hp hb).mono fun c t=> ?_
  rintro⟨c0,t0,c1,r1,rfl,e⟩
  rw [setR] at e
  cases e2:cS b m p c1 t0 with
  |none=>rw [e2] at e;cases e
  |some s=>
   obtain⟨c2,t1⟩:=s
   rw [e2] at e
   obtain⟨a,rfl,e3⟩:=yf7 e2
   exact⟨c0++a,t1,c2,⟨c0,t0,a,r1,rfl,e3⟩,by rw [Zq],e⟩
theorem yf8{W:Int}:∀(n:Nat) (r:List Pc),depR r<n->okR r->zr7 W (frN W n) r
 |0,_,h,_=>absurd h (YH _)
 |n+1,r,h,ho=>fun b m R F h0 h1 hf hF hB=>by
  rw [frN]
  exact zv5 (fun q h1 h2=>xR n q h1 h2) (fun q h1 h2=>yf8 n q h1 h2) h0 (by omega) ho h1 hf hF hB
theorem yu1{W:Int}{n:Nat}{r:List Pc}(hW:0<=W)(hd:depR r<n)(ho:okR r)(h1:12*(depR r:Int)<=200):mJ W (fun cs t=>setR true 0 r cs ⟨#[]⟩=some ([],t)) (bI W n r):=by
 have hf:pB (fun cs t=>cs=[]/\t=⟨#[]⟩):=by
  rintro c x t t' ⟨rfl,rfl⟩ ⟨e,rfl⟩
  exact⟨e,rfl⟩
 have hb:mJ W (fun cs t=>cs=[]/\t=⟨#[]⟩) [(0,((1,0),[]))]:=by
  rintro c t k ln rg ⟨rfl,rfl⟩ hc
  obtain⟨rfl,rfl,rfl⟩:=xg0 hc (zh6 hW)
  exact⟨_,Zc.mpr rfl,wL _⟩
 refine(yf8 n r hd ho true 0 _ _ (Ym _) (by omega) hf (zl2 hW) hb).mono fun c t e=> ?_
 exact⟨[],⟨#[]⟩,c,⟨rfl,rfl⟩,rfl,e⟩
def nnW(x:Way):List (List Int):=[[x.1.1,x.1.2],x.2]
theorem za2:∀F:Frt,D.intsss (dQ F)=some (F.map fun q=>nnW q.2)
 |[]=>rfl
 |q::F=>by
  show(D.intss [.tup [.int q.2.1.1,.int q.2.1.2],.tup (cQ q.2.2)]).bind (fun n=>(D.intsss (dQ F)).map (n::·))=_
  rw [za2 F]
  have:D.intss [.tup [.int q.2.1.1,.int q.2.1.2],.tup (cQ q.2.2)]=some (nnW q.2):=by simp [D.intss,D.ints,zk8,nnW]
  rw [this];rfl
theorem zl5{F:Frt}:∀k:Nat,k<F.length->∃q,F[PySem.argBest (ltN (F.map fun q=>nnW q.2)) k]? =some q/\∀i x,i<=k->F[i]? =some x->nb q.2 x.2
 |0,h=>by
  obtain⟨q,hq⟩:∃q,F[0]? =some q:=⟨F[0],by simp⟩
  refine⟨q,hq,fun i x hi hx=> ?_⟩
  have:i=0:=by omega
  subst this
  rw [hq] at hx
  cases hx
  exact wL _
 | k+1,h=>by
  obtain⟨q,hq,hn⟩:=zl5 (F:=F) k (by omega)
  obtain⟨y,hy⟩:∃y,F[k+1]? =some y:=⟨F[k+1],by simp [h]⟩
  have e:ltN (F.map fun q=>nnW q.2) (k+1) (PySem.argBest (ltN (F.map fun q=>nnW q.2)) k)=ltW y.2 q.2:=by
   generalize PySem.argBest (ltN (F.map fun q=>nnW q.2)) k=z at hq
   unfold ltN
   rw [YN,YN,Zd,Zd,hy,hq];rfl
  rw [PySem.argBest,e]
  by_cases c:ltW y.2 q.2=true
  ·rw [if_pos c]
   refine⟨y,hy,fun i x hi hx=> ?_⟩
   by_cases z:i=k+1
   ·subst z
    rw [hy] at hx
    cases hx
    exact wL _
   ·exact zh9 (yf4 c) (hn i x (by omega) hx)
  ·rw [if_neg c]
   refine⟨q,hq,fun i x hi hx=> ?_⟩
   by_cases z:i=k+1
   ·subst z
    rw [hy] at hx
    cases hx
    unfold nb
    rwa [Xu] at c
   ·exact hn i x (by omega) hx
abbrev yh6:tz6:=gP 1 0 rZ
theorem xy9{W:Int}{F:Frt}(h:F≠[]):∃q∈F,(∀x∈F,nb q.2 x.2)/\yh6 [aJ false W F]=some (.tup (cQ q.2.2)):=by
 have hl:0<F.length:=List.length_pos_iff.mpr h
 obtain⟨q,hq,hn⟩:=zl5 (F:=F) (F.length-1) (by omega)
 refine⟨q,ZL hq,fun x hx=> ?_,?_⟩
 ·obtain⟨i,hi,e⟩:=List.mem_iff_getElem.mp hx
  exact hn i x (by omega) (by simp [hi,e])
 ·have fb:cB "Front" "best" (aB 0) [some (aJ false W F)]=some (.dic false (dD F) (dQ F)):=xV rfl
  have t:fTK (cB "Front" "best" (aB 0)) [some (aJ false W F)]=some true:=by
   unfold fTK
   rw [fb]
   show some (!(dD F).isEmpty)=_
   cases F with
   |nil=>exact absurd rfl h
   |cons q F=>rfl
  have m:zy9 (cB "Front" "best" (aB 0)) [some (aJ false W F)]=some (wyD q.2):=by
   unfold zy9
   rw [fb]
   show(D.intsss (dQ F)).bind _=_
   rw [za2,Z2]
   show(dQ F)[PySem.argBest (ltN (F.map fun q=>nnW q.2)) ((F.map fun q=>nnW q.2).length-1)]? =_
   rw [Z7]
   unfold dQ
   rw [Zd,hq];rfl
  exact eT rfl (bH (aZ (gB t)) ⟨_,cE (aR (bX m (uB _)) rfl (jM _ _ _))⟩)
abbrev zc0:List D->Bool:=gX 1 0 rC
theorem xo3(W:Int):zc0 [aJ false W []]=true:=rfl
abbrev yh7(n m:Nat):tz6:=gP 2 1 (zb3 yh6 (nZ n) rL (xh5 m))
theorem xo4{W:Int}{n m:Nat}{r:List Pc}(hW0:0<=W)(hW1:W<=40)(hd:depR r<n)(hdm:depR r<m)(h8:depR r<=16)(ho:okR r)(hl:(toksR r).length<=800)(hne:bI W n r≠[]):
  ∃q∈bI W n r,(∀x∈bI W n r,nb q.2 x.2)/\∃t,setR true 0 r q.2.2 ⟨#[]⟩=some ([],t)/\kP W t q.1 q.2.1.1 q.2.1.2/\yh7 n m [.tup (pcsD r),.int W]=some (.tup [.str t,.tup (cQ q.2.2)]):=by
 have g:Good W (fun cs t=>setR true 0 r cs ⟨#[]⟩=some ([],t)) (bI W n r):=xS (n:=n) hW0 hd ho (by omega)
 obtain⟨q,hq,hn,e⟩:=xy9 (W:=W) hne
 obtain⟨t,hs,hc⟩:=g.hit q hq
 refine⟨q,hq,hn,t,hs,hc,?_⟩
 have s1:aV 2 (aI (aG yh6 (aA (aG (nZ n) (aA (jH (aG rL (aA (aB 1) aE))) (aA (aB 0) aE))) aE))) [some (.tup (pcsD r)),some (.int W),none]=some (.nx,[some (.tup (pcsD r)),some (.int W),some (.tup (cQ q.2.2))]):=
  bD (aP (aD (aP (aD (uE (aP (aD rfl rfl) (xW hW0))) (aD rfl rfl)) (vA hW0 hW1 hd h8 ho hl)) rfl) e)
 have im:=jF q.2.2
 exact eT rfl (bH s1 ⟨_,cE (eM (aD (aP (aD rfl (aD rfl rfl)) (xe1 hdm h8 ho hl hs)) (aD (bX (d:= .tup (cQ q.2.2)) rfl im) rfl)) (by simp [D.imms,D.imm,im]) (by simp))⟩)
abbrev ze3(n:Nat):List D->Bool:=gX 2 1 (yY zc0 (nZ n) rL)
theorem xg2{W:Int}{n:Nat}{r:List Pc}(hW0:0<=W)(hW1:W<=40)(hd:depR r<n)(h8:depR r<=16)(ho:okR r)(hl:(toksR r).length<=800)(he:bI W n r=[]):ze3 n [.tup (pcsD r),.int W]=true:=by
 have q:=vA hW0 hW1 hd h8 ho hl
 rw [he] at q
 have e:aA (aG (nZ n) (aA (jH (aG rL (aA (aB 1) aE))) (aA (aB 0) aE))) aE [some (.tup (pcsD r)),some (.int W),none]=some [aJ false W []]:=aD (aP (aD (uE (aP (aD rfl rfl) (xW hW0))) (aD rfl rfl)) q) rfl
 show zb1 zc0 _ [some (.tup (pcsD r)),some (.int W),none]=true
 unfold zb1
 rw [e]
 exact xo3 W
theorem xo5{r:List Pc}{C:List Int}{t:Str}(h8:depR r<=16)(ho:okR r)(hl:(toksR r).length<=800)(h:setR true 0 r C ⟨#[]⟩=some ([],t)):t.length<=900000:=by
 obtain⟨u',ps',q,e1,e2,e3,e4,e5⟩:=zq5 (depR r+1) r (Yn _) ho true 0 C 0 [] [] t (Ym _) (by omega) h (ZK _) ⟨by show 0+_<=_;omega,by show 0+_<=_;omega⟩
 have e5':(cat ps').length<=0+201*(toksR r).length:=e5
 rw [e2] at e5'
 omega
structure RowIn(n:Nat)(r:List Pc):Prop where
 dn:depR r<n
 d16:depR r<=16
 ok:okR r
 len:(toksR r).length<=800
theorem RowIn.good{n:Nat}{r:List Pc}(h:RowIn n r){W:Int}(hW:0<=W):Good W (fun cs t=>setR true 0 r cs ⟨#[]⟩=some ([],t)) (bI W n r):=xS (n:=n) hW h.dn h.ok (by have:=h.d16;omega)
theorem RowIn.best{n:Nat}{r:List Pc}(h:RowIn n r){W:Int}(hW:0<=W):mJ W (fun cs t=>setR true 0 r cs ⟨#[]⟩=some ([],t)) (bI W n r):=yu1 (n:=n) hW h.dn h.ok (by have:=h.d16;omega)
theorem xz0{F:Frt}(nd:(F.map (·.1)).Nodup):(rdL F).isEmpty=F.isEmpty:=by
 cases F with
 |nil=>rfl
 |cons q F=>
  have h:=(zq7 nd (q:=q)).mpr Z0
  cases e:rdL (q::F) with
  |nil=>rw [e] at h;cases h
  |cons x l=>rfl
abbrev yh8(n:Nat):tz4:=fT (aG (wV n) (aA (aB 0) (aA (aB 1) aE)))
theorem xg3{n:Nat}{r:List Pc}{W:Int}(h:RowIn n r)(hW0:0<=W)(hW1:W<=40):yh8 n [some (.tup (pcsD r)),some (.int W)]=some (!(bI W n r).isEmpty):=by
 have q:=yf1 hW0 hW1 h.dn h.d16 h.ok h.len
 unfold yh8 fT
 rw [aP (aD rfl (aD rfl rfl)) q,Z2]
 show some (!((rdL (bI W n r)).map iK).isEmpty)=_
 rw [List.isEmpty_map,xz0 (h.good hW0).nd]
abbrev nE(n:Nat):tz1:=fIf (aU (yh8 n)) (jG 1) bC
def yh9(n:Nat)(r:List Pc)(k W:Nat):Prop:=∀V:Nat,k<=V->V<W->bI V n r=[]
theorem yf9{n:Nat}{r:List Pc}(h:RowIn n r):∀(m k:Nat) (x:Option D),k+m=41->
  (∃W:Nat,k<=W/\W<=40/\bI W n r≠[]/\yh9 n r k W/\∃z,dC 1 (nE n) (dS (k:Int) m) [some (.tup (pcsD r)),x]=some (.ret (.int W),z))\/
  (yh9 n r k 41/\∃z,dC 1 (nE n) (dS (k:Int) m) [some (.tup (pcsD r)),x]=some (.nx,z))
 |0,k,x,hk=> .inr ⟨fun V a b=>by omega,_,rfl⟩
 | m +1,k,x,hk=>by
  have t:=xg3 (W:=k) h (by omega) (by omega)
  rw [sF]
  by_cases c:bI k n r=[]
  ·rw [c] at t
   have s:nE n [some (.tup (pcsD r)),some (.int k)]=some (.nx,[some (.tup (pcsD r)),some (.int k)]):=aZ t
   have e:dC 1 (nE n) (.int k::dS ((k+1:Nat):Int) m) [some (.tup (pcsD r)),x]=dC 1 (nE n) (dS ((k+1:Nat):Int) m) [some (.tup (pcsD r)),some (.int k)]:=by
    rw [dC]
    show((nE n [some (.tup (pcsD r)),some (.int k)]).bind _)=_
    rw [s];rfl
   rw [e]
   rcases yf9 h m (k+1) (some (.int k)) (by omega) with ⟨W,h1,h2,h3,h4,h5⟩|⟨h4,h5⟩
   ·exact .inl ⟨W,by omega,h2,h3,fun V a b=>by
     by_cases z:V=k
     ·rw [z];exact c
     ·exact h4 V (by omega) b,h5⟩
   ·exact .inr ⟨fun V a b=>by
     by_cases z:V=k
     ·rw [z];exact c
     ·exact h4 V (by omega) b,h5⟩
  ·have ne:(!(bI k n r).isEmpty)=true:=by
    cases hF:bI k n r with
    |nil=>exact absurd hF c
    |cons q F=>rfl
   rw [ne] at t
   refine .inl ⟨k,Zb _,by omega,c,fun V a b=>by omega,[some (.tup (pcsD r)),none],?_⟩
   rw [dC]
   show((nE n [some (.tup (pcsD r)),some (.int k)]).bind _)=_
   rw [show nE n [some (.tup (pcsD r)),some (.int k)]=some (.ret (.int k),[some (.tup (pcsD r)),none]) from(cG t).trans rfl];rfl
abbrev sZ(n:Nat):tz6:=gP 1 1 (wU (wV n))
abbrev yN(n:Nat):List D->Bool:=gX 1 1 (vH (wV n))
structure Nar(n:Nat)(r:List Pc)(W:Nat):Prop where
 lo:1<=W
 hi:W<=41
 un:yh9 n r 1 W
 at_:W<=40->bI W n r≠[]
abbrev yv8(n:Nat):tz1:=fJ 1 (lL (aA (fC (.int 1)) (aA (f2 cO (fC (.int 40)) (fC (.int 1))) aE))) (nE n)
theorem zv6{n:Nat}{r:List Pc}(h:RowIn n r):∃W:Nat,Nar n r W/\((W<=40/\sZ n [.tup (pcsD r)]=some (.int W)/\yN n [.tup (pcsD r)]=false)\/(W=41/\yN n [.tup (pcsD r)]=true)):=by
 have e:yv8 n [some (.tup (pcsD r)),none]=dC 1 (nE n) (dS ((1:Nat):Int) 40) [some (.tup (pcsD r)),none]:=rfl
 rcases yf9 h 40 1 none rfl with ⟨W,h1,h2,h3,h4,z,h5⟩|⟨h4,z,h5⟩
 ·refine⟨W,⟨h1,by omega,h4,fun _=>h3⟩,.inl ⟨h2,eT rfl ⟨z,fP (e.trans h5)⟩,?_⟩⟩
  show vD (yv8 n) zm6 [some (.tup (pcsD r)),none]=false
  unfold vD
  rw [e,h5]
 ·refine⟨41,⟨by omega,by omega,h4,fun z=>by omega⟩,.inr ⟨rfl,?_⟩⟩
  show vD (yv8 n) zm6 [some (.tup (pcsD r)),none]=true
  unfold vD
  rw [e,h5];rfl
theorem yu2{W W':Int}{t:Str}{k:Nat}{ln rg:Int}(h:kP W t k ln rg)(hW:W<=W'):∃rg',kP W' t k ln rg':=by
 obtain⟨xs,y,h1,h2,h3,h4,h5⟩:=h
 exact⟨_,xs,y,h1,fun l hl=>Int.le_trans (h2 l hl) hW,h3,h4,rfl⟩
abbrev tD(n m:Nat):tz6:=gP 2 1 (zb6 (yh7 n m) (ze3 n))
theorem xg4{W:Int}{n:Nat}{r:List Pc}(hW0:0<=W)(hW1:W<=40)(hd:depR r<n)(h8:depR r<=16)(ho:okR r)(hl:(toksR r).length<=800)(he:bI W n r≠[]):ze3 n [.tup (pcsD r),.int W]=false:=by
 have q:=vA hW0 hW1 hd h8 ho hl
 have e:aA (aG (nZ n) (aA (jH (aG rL (aA (aB 1) aE))) (aA (aB 0) aE))) aE [some (.tup (pcsD r)),some (.int W),none]=some [aJ false W (bI W n r)]:=aD (aP (aD (uE (aP (aD rfl rfl) (xW hW0))) (aD rfl rfl)) q) rfl
 show(decide (([.tup (pcsD r),.int W]:List D).length=2)&&zb1 zc0 _ [some (.tup (pcsD r)),some (.int W),none])=false
 unfold zb1
 rw [e]
 show(true&&zc0 [aJ false W (bI W n r)])=false
 cases h:bI W n r with
 |nil=>exact absurd h he
 |cons q F=>rfl
theorem zv7{W:Int}{n m:Nat}{r:List Pc}(h:RowIn n r)(hW0:0<=W)(hW1:W<=40)(he:bI W n r=[]):tD n m [.tup (pcsD r),.int W]=some .non:=by
 have q:=xg2 hW0 hW1 h.dn h.d16 h.ok h.len he
 refine eT rfl (uD ⟨[some (.tup (pcsD r)),some (.int W),none],?_⟩)
 unfold qF
 rw [aD (d:= .tup (pcsD r)) rfl (aD (d:= .int W) rfl (show aE _=some [] from rfl)),Z2,if_pos q];rfl
theorem xg5{W:Int}{n m:Nat}{r:List Pc}(h:RowIn n r)(hm:depR r<m)(hW0:0<=W)(hW1:W<=40)(he:bI W n r≠[]):
  ∃q∈bI W n r,(∀x∈bI W n r,nb q.2 x.2)/\∃t,setR true 0 r q.2.2 ⟨#[]⟩=some ([],t)/\kP W t q.1 q.2.1.1 q.2.1.2/\tD n m [.tup (pcsD r),.int W]=some (.str t):=by
 obtain⟨q,hq,hn,t,hs,hc,qp⟩:=xo4 hW0 hW1 h.dn hm h.d16 h.ok h.len he
 refine⟨q,hq,hn,t,hs,hc,?_⟩
 have s1:qF (ze3 n) (aA (aB 0) (aA (aB 1) aE)) (aV 2 (aI (aG (yh7 n m) (aA (aB 0) (aA (aB 1) aE))))) [some (.tup (pcsD r)),some (.int W),none]=some (.nx,[some (.tup (pcsD r)),some (.int W),some (.tup [.str t,.tup (cQ q.2.2)])]):=by
  unfold qF
  rw [aD (d:= .tup (pcsD r)) rfl (aD (d:= .int W) rfl (show aE _=some [] from rfl)),Z2,if_neg (by rw [xg4 hW0 hW1 h.dn h.d16 h.ok h.len he];exact Za)]
  exact bD (aP (aD rfl (aD rfl rfl)) qp)
 exact eT rfl (bH s1 ⟨_,cE (bX (aR (x:= .tup [.str t,.tup (cQ q.2.2)]) rfl rfl (kF _ _)) rfl)⟩)
theorem yg0:∀r:List Pc,r.length<=(toksR r).length
 |[]=>Zb _
 | p::r=>by
  have h:=yg0 r
  have h1:1<=(dE p).length:=by
   cases p with
   |leaf l=>exact Zb _
   |group q=>rw [dE,Z6];omega
   |hang m q=>rw [dE,Z6];omega
   |either qs=>rw [dE,Z6];omega
  show r.length+1<=(dE p++toksR r).length
  rw [Z5];omega
theorem wl9:∀j:Nat,j<12->∃z:Str,Txt.slice (Str.ofString "abcdefghijkl") none (some ((j:Int)+1))=z/\1<=z.length/\z.length<=12/\z.cps.toList.all vE=true:=by
 have h:∀j:Fin 12,1<=(Txt.slice (Str.ofString "abcdefghijkl") none (some ((j.val:Int)+1))).length/\(Txt.slice (Str.ofString "abcdefghijkl") none (some ((j.val:Int)+1))).length<=12/\(Txt.slice (Str.ofString "abcdefghijkl") none (some ((j.val:Int)+1))).cps.toList.all vE=true:=by decide+kernel
 exact fun j hj=>⟨_,rfl,h ⟨j,hj⟩⟩
def lvS(fs:List Leaf):List Pc:=fs.map .leaf
theorem xg6:∀{fs:List Leaf},(∀f∈fs,fR f)->okR (lvS fs)/\depR (lvS fs)=0/\(toksR (lvS fs)).length=fs.length
 |[],_=>⟨trivial,rfl,rfl⟩
 | l::fs,h=>by
  obtain⟨a,c,d⟩:=xg6 (fs:=fs) fun f hf=>h f (Z1 _ hf)
  refine⟨⟨h l Z0,a⟩,?_,?_⟩
  ·show max 0 (depR (lvS fs))=0
   rw [c];rfl
  ·show([Tk.leaf l]++toksR (lvS fs)).length=fs.length+1
   rw [Z5,d]
   show 1+_=_
   omega
theorem yg1:∀a b:List Pc,depR (a++b)=max (depR a) (depR b)
 |[],b=>by show depR b=max 0 (depR b);omega
 |p::a,b=>by
  show max (eV p) (depR (a++b))=max (max (eV p) (depR a)) (depR b)
  rw [yg1 a b];omega
section
variable{GM:tz6}{S:D}
def yO(GM:tz6):tz2:=cA (aA (fC (.str "word")) (aA (fSl (fC (.str "abcdefghijkl")) lB (nG (f2 cO (f2 eC (aG GM (aA (aB 1) (aA (aB 0) (aA (fC (.int 41)) aE)))) (fC (.int 12))) (fC (.int 1))))) aE))
theorem zl6(hM:MxH GM S)(x:Option D):∀n k:Nat,k+n<=900->∃fs:List Leaf,eZ [x,some S] fK (yO GM) (dS (k:Int) n)=some (pcsD (lvS fs))/\fs.length=n/\∀f∈fs,fR f
 |0,k,_=>⟨[],rfl,rfl,fun f h=>absurd h (by simp)⟩
 | n+1,k,hk=>by
  obtain⟨fs,q,hl,ho⟩:=zl6 hM x n (k+1) (by omega)
  obtain⟨a,qa,ha⟩:=hM (k:Int) 41 (by omega) (by omega) (by decide) (by decide)
  have m0:=ZE a (show(12:Int)≠0 by decide)
  have m1:=ZC a (show(0:Int)<12 by decide)
  obtain⟨j,hj⟩:∃j:Nat,a % 12=(j:Int):=⟨(a % 12).toNat,by omega⟩
  obtain⟨z,ez,hz⟩:=wl9 j (by omega)
  have e:yO GM [some (.int k),some S]=some (cN (.word z)):=by
   refine eM (aD rfl (aD (d:= .str z) ?_ rfl)) rfl (Z9 rfl)
   have p1:nG (f2 cO (f2 eC (aG GM (aA (aB 1) (aA (aB 0) (aA (fC (.int 41)) aE)))) (fC (.int 12))) (fC (.int 1))) [some (.int k),some S]=some (some ((j:Int)+1)):=by
    unfold nG
    rw [aR (x:= .int (j:Int)) (aR (aP (aD rfl (aD rfl (aD rfl rfl))) qa) rfl ((dH _ _).trans ((if_pos (by decide)).trans (by rw [hj])))) (show fC (.int 1) _=some (.int 1) from rfl) rfl];rfl
   unfold fSl
   rw [p1]
   show(if (Str.ofString "abcdefghijkl").length<=sizeLine then some (D.str (Txt.slice (Str.ofString "abcdefghijkl") none (some ((j:Int)+1)))) else none)=_
   rw [if_pos (by decide+kernel),ez]
  refine⟨.word z::fs,?_,by simp [hl],fun f h=> ?_⟩
  ·rw [sF,eZ]
   show((yO GM [some (.int k),some S]).bind _)=_
   rw [e,Z2,q];rfl
  ·rcases Z3.mp h with y|y
   ·rw [y];exact hz
   ·exact ho f y
def yv9(c:Int)(GM:tz6):tz1:=
 (aT (aV 1 (aI (aG (xq5 GM zn7) (aA (aB 0) (aA (fC (.int 0)) (aA (f2 cO (fC (.int 3)) (f2 eC (aG GM (aA (aB 0) (aA (fC (.int 0)) (aA (fC (.int 40)) aE)))) (fC (.int c)))) (aA (fC (.int 2)) aE)))))))
 (aT (fIf (aU (fB (f2 dEq (f2 eC (aG GM (aA (aB 0) (aA (fC (.int 1)) (aA (fC (.int 40)) aE)))) (fC (.int 4))) (fC (.int 0)))))
  (aT (aV 2 (aI (f2 eC (aG GM (aA (aB 0) (aA (fC (.int 2)) (aA (fC (.int 40)) aE)))) (fC (.int 4)))))
 (aV 1 (aI (f2 cO (aG gO (aA (fQ [none,some 0] (lK (aA (f2 cO (fC (.int 1)) (aB 2)) aE)) fK (yO GM)) aE)) (aB 1)))))
  bC)
 (jG 1)))
theorem xz1{c:Nat}(h0:0<c)(h1:c<=40)(hM:MxH GM S):∃r,gP 1 2 (yv9 (c:Int) GM) [S]=some (.tup (pcsD r))/\RowOk 2 200 r:=by
 obtain⟨a,qa,ha⟩:=hM 0 40 (by decide) (by decide) (by decide) (by decide)
 obtain⟨b,qb,hb⟩:=hM 1 40 (by decide) (by decide) (by decide) (by decide)
 obtain⟨d,qd,hd⟩:=hM 2 40 (by decide) (by decide) (by decide) (by decide)
 obtain⟨mr,hmr,mr1⟩:=ym2 a 3 c h0
 obtain⟨r,qr,hr⟩:=wg5 (GM:=GM) (GL:=zn7) (S:=S) (nest:=2) (a:=0) (many:=mr) (fun m hm=>xy7 hm) (fun j s hj hs=>hM j s (by omega) (by omega) (by omega) (by omega)) (by decide) (by omega) (by decide)
 have s1:aV 1 (aI (aG (xq5 GM zn7) (aA (aB 0) (aA (fC (.int 0)) (aA (f2 cO (fC (.int 3)) (f2 eC (aG GM (aA (aB 0) (aA (fC (.int 0)) (aA (fC (.int 40)) aE)))) (fC (.int (c:Int))))) (aA (fC (.int 2)) aE)))))) [some S,none,none]=some (.nx,[some S,some (.tup (pcsD r)),none]):=by
  refine bD (aP (ds:=[S,.int ((0:Nat):Int),.int (mr:Int),.int ((2:Nat):Int)]) (aD rfl (aD rfl (aD ?_ (aD rfl rfl)))) qr)
  refine aR rfl (aR (aP (aD rfl (aD rfl (aD rfl rfl))) qa) rfl ((dH _ _).trans (if_pos (by omega)))) ?_
  rw [<-hmr];rfl
 have t:fB (f2 dEq (f2 eC (aG GM (aA (aB 0) (aA (fC (.int 1)) (aA (fC (.int 40)) aE)))) (fC (.int 4))) (fC (.int 0))) [some S,some (.tup (pcsD r)),none]=some (decide (b % 4=0)):=dR (aR (aR (aP (aD rfl (aD rfl (aD rfl rfl))) qb) rfl ((dH _ _).trans (if_pos (by decide)))) rfl rfl)
 have R:RowOk 2 180 r:=⟨hr.ok,hr.dep,Zu hr.len (by omega)⟩
 by_cases z:b % 4=0
 ·rw [Zr z] at t
  have m0:=ZE d (show(4:Int)≠0 by decide)
  have m1:=ZC d (show(0:Int)<4 by decide)
  obtain⟨j,hj⟩:∃j:Nat,1+d % 4=(j:Int):=⟨(1+d % 4).toNat,by omega⟩
  obtain⟨fs,qf,hl,ho⟩:=zl6 (GM:=GM) (S:=S) hM none j 0 (by omega)
  obtain⟨k1,k2,k3⟩:=xg6 ho
  have hs:sizeLine=16777216:=Yi
  have s2:aV 2 (aI (f2 eC (aG GM (aA (aB 0) (aA (fC (.int 2)) (aA (fC (.int 40)) aE)))) (fC (.int 4)))) [some S,some (.tup (pcsD r)),none]=some (.nx,[some S,some (.tup (pcsD r)),some (.int (d % 4))]):=bD (aR (aP (aD rfl (aD rfl (aD rfl rfl))) qd) rfl ((dH _ _).trans (if_pos (by decide))))
  have er:lK (aA (f2 cO (fC (.int 1)) (aB 2)) aE) [some S,some (.tup (pcsD r)),some (.int (d % 4))]=some (dS ((0:Nat):Int) j):=by
   unfold lK
   rw [aD (d:= .int (j:Int)) (aR (x:= .int 1) (y:= .int (d % 4)) rfl rfl (by rw [<-hj];rfl)) (show aE _=some [] from rfl),Z2]
   exact wo2 (by omega)
  have e3:fQ [none,some 0] (lK (aA (f2 cO (fC (.int 1)) (aB 2)) aE)) fK (yO GM) [some S,some (.tup (pcsD r)),some (.int (d % 4))]=some (.lst true (pcsD (lvS fs))):=by
   unfold fQ
   rw [er,Z2,if_pos (by unfold dS;rw [Z7,Yj];omega)]
   show(eZ [none,some S] fK (yO GM) (dS ((0:Nat):Int) j)).bind _=_
   rw [qf];rfl
  have s3:aV 1 (aI (f2 cO (aG gO (aA (fQ [none,some 0] (lK (aA (f2 cO (fC (.int 1)) (aB 2)) aE)) fK (yO GM)) aE)) (aB 1))) [some S,some (.tup (pcsD r)),some (.int (d % 4))]=some (.nx,[some S,some (.tup (pcsD (lvS fs++r))),some (.int (d % 4))]):=by
   refine bD (aR (x:= .tup (pcsD (lvS fs))) (y:= .tup (pcsD r)) (aP (aD e3 rfl) (if_pos (pcs_imm _))) rfl ?_)
   show(if (pcsD (lvS fs)).length+(pcsD r).length<=sizeLine then some (D.tup (pcsD (lvS fs)++pcsD r)) else none)=_
   have l1:(pcsD (lvS fs)).length=fs.length:=by rw [tU];unfold lvS;rw [Z7]
   have l2:(pcsD r).length<=180:=by rw [tU];exact Zu (yg0 r) R.len
   rw [if_pos (by omega),xJ]
  refine⟨lvS fs++r,eT rfl (bH s1 (bH ((cG t).trans ((aW s2).trans s3)) ⟨_,rfl⟩)),?_,?_,?_⟩
  ·rw [zd0];exact⟨k1,R.ok⟩
  ·rw [yg1,k2];have:=R.dep;omega
  ·rw [oJ,Z5,k3];have:=R.len;omega
 ·rw [Zg z] at t
  exact⟨r,eT rfl (bH s1 (bH (aZ t) ⟨_,rfl⟩)),R.ok,R.dep,Zu R.len (by decide)⟩
end
def lnW(q:Nat×Way):Int:=q.2.1.1
theorem za3:∀{ns:List Int},ns≠[]->∃k,lX ns=some k
 |[],h=>absurd rfl h
 |n::ns,_=>by rw [lX];cases lX ns<;>exact⟨_,rfl⟩
theorem xz2{a b:List Int}(h:∀x,x∈a↔x∈b):lX a=lX b:=by
 cases ea:lX a with
 | none=>
  cases a with
  |nil=>
   cases b with
   |nil=>rfl
   |cons x b=>have:=(h x).mpr Z0;cases this
  |cons x a=>obtain⟨k,hk⟩:=za3 (ns:=x::a) (by simp);rw [hk] at ea;cases ea
 | some k=>
  obtain⟨h1,h2⟩:=wD ea
  cases eb:lX b with
  |none=>
   obtain⟨j,hj⟩:=za3 (ns:=b) (fun z=>by have:=(h k).mp h1;rw [z] at this;cases this)
   rw [hj] at eb;cases eb
  |some j=>
   obtain⟨h3,h4⟩:=wD eb
   have:=h2 j ((h j).mpr h3)
   have:=h4 k ((h k).mp h1)
   rw [show k=j by omega]
def mW(n:Nat)(r:List Pc)(W:Nat):Int:=(lX ((bI (W:Int) n r).map lnW)).getD 0
theorem wM{n:Nat}{r:List Pc}{W:Nat}(h:bI (W:Int) n r≠[]):lX ((bI (W:Int) n r).map lnW)=some (mW n r W)/\(∃q∈bI (W:Int) n r,lnW q=mW n r W)/\∀q∈bI (W:Int) n r,mW n r W<=lnW q:=by
 obtain⟨k,hk⟩:=za3 (ns:=(bI (W:Int) n r).map lnW) (by simpa using h)
 have e:mW n r W=k:=by unfold mW;rw [hk];rfl
 obtain⟨h1,h2⟩:=wD hk
 rw [e]
 refine⟨hk,?_,fun q hq=>h2 _ (Yd hq)⟩
 obtain⟨q,hq,eq⟩:=ZP.mp h1
 exact⟨q,hq,eq⟩
theorem pQ{n:Nat}{r:List Pc}(h:RowIn n r){W V:Nat}(hW:W<=V)(he:bI (W:Int) n r≠[]):bI (V:Int) n r≠[]/\mW n r V<=mW n r W:=by
 obtain⟨_,⟨q,hq,eq⟩,_⟩:=wM he
 obtain⟨t,hs,hc⟩:=(h.good (W:=(W:Int)) (by omega)).hit q hq
 obtain⟨rg',hc'⟩:=yu2 (W':=(V:Int)) hc (by omega)
 obtain⟨y,hy,hn⟩:=h.best (W:=(V:Int)) (by omega) _ _ _ _ _ hs hc'
 have ne:bI (V:Int) n r≠[]:=fun z=>by rw [z] at hy;cases hy
 refine⟨ne,?_⟩
 obtain⟨_,_,h3⟩:=wM ne
 have:=h3 _ hy
 rw [uF] at hn
 have le:y.1.1<=q.2.1.1:=by
  rcases hn with z|⟨z,_⟩
  ·exact W9 z
  ·exact Int.le_of_eq z
 have l1:lnW (q.1,y)=y.1.1:=rfl
 have l2:lnW q=q.2.1.1:=rfl
 omega
theorem xo6(q:Nat×Way):D.imm (iK q)=true:=by
 have:=jF q.2.2
 unfold iK
 simp [D.imm,D.imms,this]
theorem zv8:∀Q:List (Nat×Way),D.imms (Q.map iK)=true
 |[]=>rfl
 |q::Q=>by
  show(D.imm (iK q)&&D.imms (Q.map iK))=true
  rw [xo6,zv8 Q];rfl
theorem yg2(x:Option D):∀Q:List (Nat×Way),eZ [x] fK (aX (f2 dIx (aB 0) (fC (.int 1)))) (Q.map iK)=some (cQ (Q.map lnW))
 |[]=>rfl
 |q::Q=>by
  have e:aX (f2 dIx (aB 0) (fC (.int 1))) [some (iK q)]=some (.int (lnW q)):=bX (aR (x:=iK q) rfl rfl (jM _ _ _)) rfl
  show eZ [x] fK _ (iK q::Q.map iK)=_
  rw [eZ]
  show(some true).bind (fun b=>if b=true then(aX (f2 dIx (aB 0) (fC (.int 1))) [some (iK q)]).bind _ else _)=_
  rw [Z2,if_pos rfl,e,Z2,yg2 x Q];rfl
abbrev yi0(n:Nat):tz6:=gP 2 0 (rY (wV n))
theorem xg7{n:Nat}{r:List Pc}{W:Nat}(h:RowIn n r)(hW:W<=40)(he:bI (W:Int) n r≠[]):yi0 n [.tup (pcsD r),.int (W:Int)]=some (.int (mW n r W)):=by
 have q:=yf1 (W:=(W:Int)) (by omega) (by omega) h.dn h.d16 h.ok h.len
 have g:=h.good (W:=(W:Int)) (by omega)
 have ln:(rdL (bI (W:Int) n r)).length<=sizeLine:=by
  have e:=xn8 g.nd
  have:=ZJ List.length e
  rw [Z7,(Y6 _).length_eq] at this
  rw [this]
  unfold pA
  rw [Z7]
  exact sz (Zu (g.len (by omega)) (by decide))
 have c:fQ [none] (dP (aG (wV n) (aA (aB 0) (aA (aB 1) aE)))) fK (aX (f2 dIx (aB 0) (fC (.int 1)))) [some (.tup (pcsD r)),some (.int (W:Int))]=some (.lst true (cQ ((rdL (bI (W:Int) n r)).map lnW))):=by
  unfold fQ dP
  rw [aP (aD rfl (aD rfl rfl)) q,Z2,show jN (.lst true ((rdL (bI (W:Int) n r)).map iK))=some ((rdL (bI (W:Int) n r)).map iK) from if_pos (zv8 _),Z2,if_pos (by rw [Z7];exact ln)]
  show(eZ [none] fK _ _).bind _=_
  rw [yg2];rfl
 refine eT rfl ⟨_,cE (aP (aD c rfl) ?_)⟩
 show(D.ints (cQ _)).bind _=_
 have e:lX ((rdL (bI (W:Int) n r)).map lnW)=some (mW n r W):=by
  rw [<-(wM he).1]
  refine xz2 fun x=> ?_
  simp only [ZP]
  constructor
  ·rintro⟨a,ha,e⟩;exact⟨a,(zq7 g.nd).mp ha,e⟩
  ·rintro⟨a,ha,e⟩;exact⟨a,(zq7 g.nd).mpr ha,e⟩
 rw [zk8,Z2,e];rfl
theorem xz3{α:Type}(l:List α)(a:α):atI (l++[a]) (-1)=some a:=by
 unfold atI
 rw [Z5]
 show(ixN (l.length+1) (-1)).bind _=_
 rw [fO,Z2]
 simp
def eL(p:Int×Int):D:= .tup [.int p.1,.int p.2]
def bG(st:List (Int×Int)):List D:=st.map eL
def rS(st:List (Int×Int))(V a:Int):Int:=st.foldl (fun a p=>if p.1<=V then p.2 else a) a
structure Sts(m:Nat->Int)(A B:Nat)(st:List (Int×Int)):Prop where
 hd:∃t,st=((A:Int),m A)::t
 mem:∀p∈st,∃V:Nat,A<=V/\V<B/\p=((V:Int),m V)
 up:st.Pairwise fun p q=>p.1<q.1/\q.2<p.2
 at_:∀V:Nat,A<=V->V<B->rS st V 0=m V
 last:∃s V,st=s++[V]/\V.2=m (B-1)
theorem xz4(m:Nat->Int)(A:Nat):Sts m A (A+1) [((A:Int),m A)] where
 hd:=⟨[],rfl⟩
 mem:=fun p hp=>⟨A,Zb _,Yn _,Zc.mp hp⟩
 up:=List.pairwise_singleton _ _
 at_:=fun V h1 h2=>by
  have:V=A:=by omega
  subst this
  show(if (V:Int)<=V then m V else 0)=m V
  rw [if_pos (Ym _)]
 last:=⟨[],_,rfl,rfl⟩
theorem xz5{m:Nat->Int}{A B:Nat}{st:List (Int×Int)}(h:Sts m A B st)(hA:A<B)(hm:∀V W:Nat,A<=V->V<=W->W<=B->m W<=m V)(c:m B<m (B-1)):Sts m A (B+1) (st++[((B:Int),m B)]) where
 hd:=by obtain⟨t,e⟩:=h.hd;exact⟨t++[((B:Int),m B)],by rw [e];rfl⟩
 mem:=fun p hp=>by
  rcases Zn.mp hp with z|z
  ·obtain⟨V,a,b,e⟩:=h.mem p z
   exact⟨V,a,by omega,e⟩
  ·exact⟨B,by omega,by omega,Zc.mp z⟩
 up:=by
  rw [List.pairwise_append]
  refine⟨h.up,List.pairwise_singleton _ _,fun p hp q hq=> ?_⟩
  obtain⟨V,a,b,e⟩:=h.mem p hp
  rw [Zc.mp hq,e]
  have:=hm V (B-1) a (by omega) (by omega)
  exact⟨by show(V:Int)<B;omega,by show m B<m V;omega⟩
 at_:=fun V h1 h2=>by
  show(st++[((B:Int),m B)]).foldl _ 0=m V
  rw [List.foldl_append]
  show(if (B:Int)<=(V:Int) then m B else rS st V 0)=m V
  by_cases z:V=B
  ·subst z
   rw [if_pos (Ym _)]
  ·rw [if_neg (by omega)]
   exact h.at_ V h1 (by omega)
 last:=⟨st,_,rfl,rfl⟩
theorem xs0:∀{st:List (Int×Int)} {V W a:Int},(∀p∈st,(p.1<=V↔p.1<=W))->rS st V a=rS st W a
 |[],_,_,_,_=>rfl
 | p::st,V,W,a,h=>by
  show rS st V (if p.1<=V then p.2 else a)=rS st W (if p.1<=W then p.2 else a)
  have e:(if p.1<=V then p.2 else a)=(if p.1<=W then p.2 else a):=by
   have:=h p Z0
   by_cases c:p.1<=V
   ·rw [if_pos c,if_pos (this.mp c)]
   ·rw [if_neg c,if_neg fun z=>c (this.mpr z)]
  rw [e]
  exact xs0 fun q hq=>h q (Z1 _ hq)
theorem xo7{m:Nat->Int}{A B:Nat}{st:List (Int×Int)}(h:Sts m A B st)(hA:A<B)(e:m B=m (B-1)):Sts m A (B+1) st where
 hd:=h.hd
 mem:=fun p hp=>by
  obtain⟨V,a,b,e⟩:=h.mem p hp
  exact⟨V,a,by omega,e⟩
 up:=h.up
 at_:=fun V h1 h2=>by
  by_cases z:V=B
  ·subst z
   rw [e,<-h.at_ (V-1) (by omega) (by omega)]
   refine xs0 fun p hp=> ?_
   obtain⟨U,a,b,e⟩:=h.mem p hp
   rw [e]
   show(U:Int)<=V↔(U:Int)<=((V-1:Nat):Int)
   omega
  ·exact h.at_ V h1 (by omega)
 last:=by obtain⟨s,V,h1,h2⟩:=h.last;exact⟨s,V,h1,by rw [h2,show B+1-1=B by omega,e]⟩
theorem yo7:∀{st:List (Int×Int)} {V a:Int},(∀p∈st,V<p.1)->rS st V a=a
 |[],_,_,_=>rfl
 |p::st,V,a,h=>by
  show rS st V (if p.1<=V then p.2 else a)=a
  rw [if_neg (by have:=h p Z0;omega)]
  exact yo7 fun q hq=>h q (Z1 _ hq)
abbrev zc1(n:Nat):tz1:=aT (aV 3 (aI (aG (yi0 n) (aA (aB 0) (aA (aB 2) aE)))))
 (fIf (aU (gN (cM (fT (aB 1))) (fB (f2 dLt (aB 3) (f2 dIx (f2 dIx (aB 1) (dN (fC (.int 1)))) (fC (.int 1)))))))
  (cP (cZ 1 bQ (aA (cA (aA (aX (aB 2)) (aA (aX (aB 3)) aE))) aE) dX))
  bC)
abbrev stS(r:List Pc)(st:List (Int×Int))(x2 x3:Option D):PSt:=[some (.tup (pcsD r)),some (.lst true (bG st)),x2,x3]
theorem xg8{r:List Pc}{st:List (Int×Int)}{a b:Int}(hl:st.length<=1000):cP (cZ 1 bQ (aA (cA (aA (aX (aB 2)) (aA (aX (aB 3)) aE))) aE) dX) (stS r st (some (.int a)) (some (.int b)))=some (.nx,stS r (st++[(a,b)]) (some (.int a)) (some (.int b))):=by
 have hs:sizeLine=16777216:=Yi
 have e:aA (cA (aA (aX (aB 2)) (aA (aX (aB 3)) aE))) aE (stS r st (some (.int a)) (some (.int b)))=some [eL (a,b)]:=aD (eM (aD (bX rfl rfl) (aD (bX rfl rfl) rfl)) rfl (Z9 rfl)) rfl
 unfold cP cZ
 rw [e]
 show((if (bG st).length<sizeLine then some (D.non,D.lst true (bG st++[eL (a,b)])) else none).bind _).bind _=_
 rw [if_pos (by unfold bG;rw [Z7];omega)]
 unfold stS bG
 rw [ZV];rfl
theorem xz6{n:Nat}{r:List Pc}{st:List (Int×Int)}{A B:Nat}{x3:Option D}(h:RowIn n r)(hA:A<B)(hB:B<=40)(he:bI (A:Int) n r≠[])(hst:Sts (mW n r) A B st)(hl:st.length<=B):
  ∃st',Sts (mW n r) A (B+1) st'/\st'.length<=B+1/\zc1 n (stS r st (some (.int (B:Int))) x3)=some (.nx,stS r st' (some (.int (B:Int))) (some (.int (mW n r B)))):=by
 obtain⟨neB,le⟩:=pQ h (Yw hA) he
 have s1:aV 3 (aI (aG (yi0 n) (aA (aB 0) (aA (aB 2) aE)))) (stS r st (some (.int (B:Int))) x3)=some (.nx,stS r st (some (.int (B:Int))) (some (.int (mW n r B)))):=bD (aP (aD rfl (aD rfl rfl)) (xg7 h hB neB))
 obtain⟨s,q,e1,e2⟩:=hst.last
 have t1:cM (fT (aB 1)) (stS r st (some (.int (B:Int))) (some (.int (mW n r B))))=some false:=by
  refine gB (b:=true) ?_
  unfold fT
  show(some (D.lst true (bG st))).bind zr4=_
  obtain⟨t,e⟩:=hst.hd
  rw [e];rfl
 have t2:fB (f2 dLt (aB 3) (f2 dIx (f2 dIx (aB 1) (dN (fC (.int 1)))) (fC (.int 1)))) (stS r st (some (.int (B:Int))) (some (.int (mW n r B))))=some (decide (mW n r B<mW n r (B-1))):=by
  have i:f2 dIx (aB 1) (dN (fC (.int 1))) (stS r st (some (.int (B:Int))) (some (.int (mW n r B))))=some (eL q):=aR (x:= .lst true (bG st)) (y:= .int (-1)) rfl rfl (by
   show atI (bG st) (-1)=_
   unfold bG
   rw [e1,ZV]
   exact xz3 _ _)
  refine dR (aR (x:= .int (mW n r B)) (y:= .int q.2) rfl (aR i rfl (jM _ _ _)) ?_)
  rw [e2];rfl
 by_cases c:mW n r B<mW n r (B-1)
 ·rw [Zr c] at t2
  refine⟨st++[((B:Int),mW n r B)],xz5 hst hA (fun V W a b d=>(pQ h b (pQ h a he).1).2) c,by simp;omega,?_⟩
  exact(aW s1).trans ((cG (sG t1 t2)).trans (xg8 (by omega)))
 ·rw [Zg c] at t2
  have:=(pQ h (show B-1<=B by omega) (pQ h (show A<=B-1 by omega) he).1).2
  exact⟨st,xo7 hst hA (by omega),by omega,(aW s1).trans (aZ (sG t1 t2))⟩
theorem yo8{n:Nat}{r:List Pc}{A:Nat}(h:RowIn n r)(he:bI (A:Int) n r≠[]):∀(m B:Nat) (st:List (Int×Int)) (x2 x3:Option D),B+m=41->A<B->Sts (mW n r) A B st->st.length<=B->∃st' y2 y3,Sts (mW n r) A 41 st'/\st'.length<=41/\dC 2 (zc1 n) (dS (B:Int) m) (stS r st x2 x3)=some (.nx,stS r st' y2 y3)
 |0,B,st,x2,x3,hB,hA,hst,hl=>⟨st,x2,x3,by rw [show 41=B by omega];exact hst,by omega,rfl⟩
 |m+1,B,st,x2,x3,hB,hA,hst,hl=>by
  obtain⟨st1,h1,h2,q⟩:=xz6 (x3:=x3) h hA (by omega) he hst hl
  obtain⟨st',y2,y3,h3,h4,e⟩:=yo8 h he m (B+1) st1 (some (.int (B:Int))) (some (.int (mW n r B))) (by omega) (by omega) h1 h2
  refine⟨st',y2,y3,h3,h4,?_⟩
  rw [sF,dC]
  show((zc1 n (stS r st (some (.int (B:Int))) x3)).bind _)=_
  rw [q]
  exact e
abbrev pY(n:Nat):tz6:=gP 1 3 (zf5 (sZ n) (yi0 n))
theorem zv9{n:Nat}{r:List Pc}{A:Nat}(h:RowIn n r)(h1:1<=A)(h2:A<=40)(he:bI (A:Int) n r≠[])(qn:sZ n [.tup (pcsD r)]=some (.int (A:Int))):∃st,Sts (mW n r) A 41 st/\st.length<=41/\pY n [.tup (pcsD r)]=some (.lst true (bG st)):=by
 obtain⟨m,hm⟩:∃m,A+(m+1)=41:=⟨40-A,by omega⟩
 have s1:aV 1 (aI (dM aE)) [some (.tup (pcsD r)),none,none,none]=some (.nx,stS r [] none none):=rfl
 have f0:zc1 n (stS r [] (some (.int (A:Int))) none)=some (.nx,stS r [((A:Int),mW n r A)] (some (.int (A:Int))) (some (.int (mW n r A)))):=by
  have s:aV 3 (aI (aG (yi0 n) (aA (aB 0) (aA (aB 2) aE)))) (stS r [] (some (.int (A:Int))) none)=some (.nx,stS r [] (some (.int (A:Int))) (some (.int (mW n r A)))):=bD (aP (aD rfl (aD rfl rfl)) (xg7 h h2 he))
  exact(aW s).trans ((cG (wl5 rfl)).trans (xg8 (ZK _)))
 obtain⟨st,y2,y3,h3,h4,e⟩:=yo8 h he m (A+1) _ (some (.int (A:Int))) (some (.int (mW n r A))) (by omega) (Yn _) (xz4 _ A) (by simp)
 refine⟨st,h3,h4,eT rfl (bH s1 (bH (p':=stS r st y2 y3) ?_ ⟨_,rfl⟩))⟩
 have er:lL (aA (aG (sZ n) (aA (aB 0) aE)) (aA (f2 cO (fC (.int 40)) (fC (.int 1))) aE)) (stS r [] none none)=some (dS (A:Int) (m+1)):=by
  unfold lL
  rw [aD (d:= .int (A:Int)) (aP (aD rfl rfl) qn) (aD (d:= .int 41) rfl (show aE _=some [] from rfl)),Z2,zp9 (by omega) (by omega) (by decide) (by decide),show((41:Int)-A).toNat=m+1 by omega]
 unfold fJ
 rw [er,Z2,sF,dC]
 show((zc1 n (stS r [] (some (.int (A:Int))) none)).bind _)=_
 rw [f0]
 exact e
abbrev yP(n:Nat):List D->Bool:=gX 1 3 (zb2 (yN n))
theorem zl7{n:Nat}{r:List Pc}:yP n [.tup (pcsD r)]=yN n [.tup (pcsD r)]:=Eq.trans rfl rfl
theorem xz7{x:D}{p:PyData}(hx:(∀i,x≠ .int i)/\∀z,x≠ .str z)(e:x.data=some p)(c:p.canLay0=true)(d:p.depth<=60):eqB x x=some true:=by
 have:eqB x x=za4 x x:=by
  cases x<;>first|rfl|exact absurd rfl (hx.1 _)|exact absurd rfl (hx.2 _)
 rw [this]
 unfold za4
 rw [e]
 show(if (PyData.canLay0 _&&PyData.canLay0 _&&decide (PyData.depth _<=60))=true then some (PyData.eqv _ _) else none)=_
 rw [c,Zr d,PySem.SeqAt.eqv_refl _ c];rfl
theorem yo9(i:Int):kI [.int i,.ty "int"]=some (.bl true)/\kI [.int i,.ty "bool"]=some (.bl false):=by
 constructor<;>simp [kI,dTy,yC]
theorem xz8(xs:List D):kI [.tup xs,.ty "tuple"]=some (.bl true):=by simp [kI,dTy,yC]
theorem xz9(xs:List D):kI [.lst true xs,.ty "list"]=some (.bl true):=by simp [kI,dTy,yC]
theorem uG{i:Nat}{f:tz1}:∀(ds:List D) (p:PSt),i<p.length->(∀d∈ds,f (p.set i (some d))=some (.nx,p.set i (some d)))->∃x,dC i f ds p=some (.nx,p.set i x)
 |[],p,hi,_=>⟨p[i],by rw [dC,List.set_getElem_self]⟩
 |d::ds,p,hi,h=>by
  have e:=h d Z0
  obtain⟨x,q⟩:=uG (i:=i) (f:=f) ds (p.set i (some d)) (by rw [List.length_set];exact hi) fun d' hd=>by rw [List.set_set];exact h d' (Z1 _ hd)
  rw [List.set_set] at q
  refine⟨x,?_⟩
  rw [dC,e]
  exact q
theorem zq9:∀st:List (Int×Int),D.imms (bG st)=true
 |[]=>rfl
 |p::st=>by
  show(D.imm (eL p)&&D.imms (bG st))=true
  rw [zq9 st];rfl
theorem zr0(st:List (Int×Int)):jN (.lst true (bG st))=some (bG st):=if_pos (zq9 st)
abbrev pZ:tz6:=gP 1 1 yZ
theorem yu3{p:Int×Int}(h1:1<=p.1)(h2:p.1<=40)(h3:0<p.2):pZ [eL p]=some (.bl true):=by
 have t1:gN (cM (fT (aG kI (aA (aB 0) (aA (fC (.ty "tuple")) aE))))) (fB (f2 dNe (aG eI (aA (aB 0) aE)) (fC (.int 2)))) [some (eL p),none]=some false:=sG (gB (b:=true) (nF (aP (ds:=[eL p,.ty "tuple"]) (aD rfl (aD rfl rfl)) (xz8 _)))) rfl
 have lp:∀i:Int,fIf (aU (gN (cM (fT (aG kI (aA (aB 1) (aA (fC (.ty "int")) aE))))) (fT (aG kI (aA (aB 1) (aA (fC (.ty "bool")) aE)))))) (bW (aI (fC (.bl false)))) bC [some (eL p),some (.int i)]=some (.nx,[some (eL p),some (.int i)]):=fun i=>aZ (sG (gB (b:=true) (nF (aP (ds:=[.int i,.ty "int"]) (aD rfl (aD rfl rfl)) (yo9 i).1))) (nF (aP (ds:=[.int i,.ty "bool"]) (aD rfl (aD rfl rfl)) (yo9 i).2)))
 obtain⟨x,q⟩:=uG (i:=1) (f:=fIf (aU (gN (cM (fT (aG kI (aA (aB 1) (aA (fC (.ty "int")) aE))))) (fT (aG kI (aA (aB 1) (aA (fC (.ty "bool")) aE)))))) (bW (aI (fC (.bl false)))) bC) [.int p.1,.int p.2] [some (eL p),none] (Z9 rfl) (fun d hd=>by
  rcases Z3.mp hd with z|z
  ·rw [z];exact lp _
  ·rw [Zc.mp z];exact lp _)
 refine eT rfl (bH (aZ t1) (bH (p':=[some (eL p),x]) (nW (ds:=[.int p.1,.int p.2]) rfl q) ⟨_,cE ?_⟩))
 have i0:f2 dIx (aB 0) (fC (.int 0)) [some (eL p),x]=some (.int p.1):=aR (x:=eL p) rfl rfl (kF _ _)
 have i1:f2 dIx (aB 0) (fC (.int 1)) [some (eL p),x]=some (.int p.2):=aR (x:=eL p) rfl rfl (jM _ _ _)
 have a:f3 dLe dLe (fC (.int 1)) (f2 dIx (aB 0) (fC (.int 0))) (fC (.int 40)) [some (eL p),x]=some (.bl true):=by
  unfold f3
  rw [i0]
  simp [fC,dLe,h1,h2]
 unfold vS
 rw [a,Z2]
 refine aR i1 rfl ?_
 show some (D.bl (decide (0<p.2)))=_
 rw [Zr h3]
abbrev zi2:tz6:=gP 2 2 zA
theorem zl8{V:Int}{x0:Option D}:∀(st:List (Int×Int)) (a:Int) (x3:Option D),∃y3,dC 3 (fIf (aU (fB (f2 dLe (f2 dIx (aB 3) (fC (.int 0))) (aB 1)))) (aV 2 (aI (aX (f2 dIx (aB 3) (fC (.int 1)))))) bC) (bG st) [x0,some (.int V),some (.int a),x3]=some (.nx,[x0,some (.int V),some (.int (rS st V a)),y3])
 |[],a,x3=>⟨x3,rfl⟩
 | p::st,a,x3=>by
  obtain⟨y3,q⟩:=zl8 (V:=V) (x0:=x0) st (if p.1<=V then p.2 else a) (some (eL p))
  refine⟨y3,?_⟩
  have t:fB (f2 dLe (f2 dIx (aB 3) (fC (.int 0))) (aB 1)) [x0,some (.int V),some (.int a),some (eL p)]=some (decide (p.1<=V)):=dR (aR (aR (x:=eL p) rfl rfl (kF _ _)) rfl rfl)
  have s:fIf (aU (fB (f2 dLe (f2 dIx (aB 3) (fC (.int 0))) (aB 1)))) (aV 2 (aI (aX (f2 dIx (aB 3) (fC (.int 1)))))) bC [x0,some (.int V),some (.int a),some (eL p)]=some (.nx,[x0,some (.int V),some (.int (if p.1<=V then p.2 else a)),some (eL p)]):=by
   by_cases c:p.1<=V
   ·rw [Zr c] at t
    rw [if_pos c]
    exact(cG t).trans (bD (bX (aR (x:=eL p) rfl rfl (jM _ _ _)) rfl))
   ·rw [Zg c] at t
    rw [if_neg c]
    exact aZ t
  show dC 3 _ (eL p::bG st) _=_
  rw [dC]
  show((fIf _ _ bC [x0,some (.int V),some (.int a),some (eL p)]).bind _)=_
  rw [s]
  exact q
theorem xo8(st:List (Int×Int))(V:Int):zi2 [.lst true (bG st),.int V]=some (.int (rS st V 0)):=by
 obtain⟨y3,q⟩:=zl8 (V:=V) (x0:=some (.lst true (bG st))) st 0 none
 have s1:aV 2 (aI (fC (.int 0))) [some (.lst true (bG st)),some (.int V),none,none]=some (.nx,[some (.lst true (bG st)),some (.int V),some (.int 0),none]):=rfl
 refine eT rfl (bH s1 (bH (nW (ds:=bG st) ?_ q) ⟨_,rfl⟩))
 unfold dP
 show(some (D.lst true (bG st))).bind jN=_
 exact zr0 st
abbrev pC(n m:Nat):tz6:=gP 3 2 (zm9 (tD n m) zi2)
theorem xo9{n m A V:Nat}{r:List Pc}{st:List (Int×Int)}(h:RowIn n r)(hm:depR r<m)(ha:Nar n r A)(hs:Sts (mW n r) A 41 st)(v0:1<=V)(v1:V<=40):pC n m [.tup (pcsD r),.lst true (bG st),.int (V:Int)]=some (.bl true):=by
 have s2:∀x,aV 4 (aI (aG zi2 (aA (aB 1) (aA (aB 2) aE)))) [some (.tup (pcsD r)),some (.lst true (bG st)),some (.int (V:Int)),x,none]=some (.nx,[some (.tup (pcsD r)),some (.lst true (bG st)),some (.int (V:Int)),x,some (.int (rS st V 0))]):=fun x=>bD (aP (aD rfl (aD rfl rfl)) (xo8 st V))
 by_cases c:V<A
 ·have e0:rS st V 0=0:=yo7 fun p hp=>by
   obtain⟨U,a,_,e⟩:=hs.mem p hp
   rw [e];show(V:Int)<U;omega
  have q:=zv7 (W:=(V:Int)) (m:=m) h (by omega) (by omega) (ha.un V v0 c)
  have s1:aV 3 (aI (aG (tD n m) (aA (aB 0) (aA (aB 2) aE)))) [some (.tup (pcsD r)),some (.lst true (bG st)),some (.int (V:Int)),none,none]=some (.nx,[some (.tup (pcsD r)),some (.lst true (bG st)),some (.int (V:Int)),some .non,none]):=bD (aP (aD rfl (aD rfl rfl)) q)
  rw [e0] at s2
  exact eT rfl (bH s1 (bH (s2 _) (uD ⟨_,(cG (dR (aR rfl rfl rfl))).trans (cE (aR rfl rfl rfl))⟩)))
 ·have hA:A<=40:=by omega
  obtain⟨ne,_⟩:=pQ h (show A<=V by omega) (ha.at_ hA)
  obtain⟨q,hq,hn,t,hset,hc,qp⟩:=xg5 (W:=(V:Int)) (m:=m) h hm (by omega) (by omega) ne
  obtain⟨_,⟨x,hx,ex⟩,le⟩:=wM ne
  have el:q.2.1.1=mW n r V:=by
   have h1:=le q hq
   have h2:=hn x hx
   rw [uF] at h2
   have h3:q.2.1.1<=x.2.1.1:=by
    rcases h2 with z|⟨z,_⟩
    ·exact W9 z
    ·exact Int.le_of_eq z
   have l1:lnW q=q.2.1.1:=rfl
   have l2:lnW x=x.2.1.1:=rfl
   omega
  have ll:((lns t).length:Int)=mW n r V:=by
   obtain⟨xs,y,e1,_,_,e2,_⟩:=hc
   rw [e1,<-el,e2]
   simp
  have ea:=hs.at_ V (by omega) (by omega)
  have tl:=xo5 h.d16 h.ok h.len hset
  have s1:aV 3 (aI (aG (tD n m) (aA (aB 0) (aA (aB 2) aE)))) [some (.tup (pcsD r)),some (.lst true (bG st)),some (.int (V:Int)),none,none]=some (.nx,[some (.tup (pcsD r)),some (.lst true (bG st)),some (.int (V:Int)),some (.str t),none]):=bD (aP (aD rfl (aD rfl rfl)) qp)
  rw [ea] at s2
  have sp:=xo1 (f:=aB 3) (p:=[some (.tup (pcsD r)),some (.lst true (bG st)),some (.int (V:Int)),some (.str t),some (.int (mW n r V))]) (t:=t) rfl tl
  refine eT rfl (bH s1 (bH (s2 _) (bH (aZ (dR (aR rfl rfl rfl))) ⟨_,cE (aR (x:= .int (mW n r V)) (y:= .int (mW n r V)) (aP (aD sp rfl) ?_) rfl ?_)⟩)))
  ·show some (D.int ((L2.gV (lns t)).length:Int))=_
   rw [<-ll]
   unfold L2.gV
   rw [Z7]
  ·show some (D.bl (decide (mW n r V=mW n r V)))=_
   rw [Zr rfl]
theorem yg3:∀st:List (Int×Int),∃ps,D.datas (bG st)=some ps/\PyData.canLayAll0 ps=true/\PyData.depthAll ps<=2
 |[]=>⟨[],rfl,rfl,by decide⟩
 | p::st=>by
  obtain⟨ps,b1,b2,b3⟩:=yg3 st
  refine⟨.tuple [.int p.1,.int p.2]::ps,?_,?_,?_⟩
  ·show((eL p).data).bind (fun p=>(D.datas (bG st)).map (p::·))=_
   rw [b1];rfl
  ·show(true&&PyData.canLayAll0 ps)=true
   rw [b2];rfl
  ·show max 1 (PyData.depthAll ps)<=2
   omega
theorem xg9(st:List (Int×Int)):eqB (.lst true (bG st)) (.lst true (bG st))=some true:=by
 obtain⟨ps,b1,b2,b3⟩:=yg3 st
 exact xz7 ⟨fun _ h=>D.noConfusion h,fun _ h=>D.noConfusion h⟩ (p:= .list ps) (by rw [D.data,b1];rfl) b2 (by show PyData.depthAll ps+1<=60;omega)
theorem zl9{A:Nat}{m:Nat->Int}(h1:1<=A)(hm:∀V:Nat,A<=V->V<=40->0<m V):∀{st:List (Int×Int)},(∀p∈st,∃V:Nat,A<=V/\V<41/\p=((V:Int),m V))->∃bs:List Bool,eZ [none] fK (aG pZ (aA (aB 0) aE)) (bG st)=some (bs.map .bl)/\bs.all id=true
 |[],_=>⟨[],rfl,rfl⟩
 | p::st,h=>by
  obtain⟨bs,q,hb⟩:=zl9 h1 hm (st:=st) fun x hx=>h x (Z1 _ hx)
  obtain⟨V,a,b,e⟩:=h p Z0
  have e1:pZ [eL p]=some (.bl true):=by
   rw [e]
   exact yu3 (by show(1:Int)<=V;omega) (by show(V:Int)<=40;omega) (hm V a (by omega))
  refine⟨true::bs,?_,hb⟩
  show eZ [none] fK _ (eL p::bG st)=_
  rw [eZ]
  show(some true).bind (fun b=>if b=true then(aG pZ (aA (aB 0) aE) [some (eL p)]).bind _ else _)=_
  rw [Z2,if_pos rfl,aP (aD rfl rfl) e1,Z2,q];rfl
theorem zw0:∀bs:List Bool,D.bools (bs.map .bl)=some bs
 |[]=>rfl
 |b::bs=>by
  show(D.bools (bs.map .bl)).map (b::·)=_
  rw [zw0 bs];rfl
theorem wg9{n:Nat}{r:List Pc}(h:RowIn n r){V:Nat}(ne:bI (V:Int) n r≠[]):0<mW n r V:=by
 obtain⟨_,⟨q,hq,e⟩,_⟩:=wM ne
 obtain⟨t,hs,xs,y,_,_,_,el,_⟩:=(h.good (W:=(V:Int)) (by omega)).hit q hq
 rw [<-e]
 show 0<q.2.1.1
 rw [el];omega
theorem wa0{n:Nat}(hn:0<n):RowIn n []:=⟨hn,by decide,trivial,by decide⟩
theorem yp0{n:Nat}(hn:0<n)(W:Int):bI W n []=[(0,((1,0),[]))]:=by
 cases n with
 |zero=>omega
 |succ k=>rfl
abbrev uN(n:Nat):tz6:=gP 1 1 (zf6 (pY n) (yP n))
section
variable{GM:tz6}{S:D}
abbrev wj5(n m:Nat)(GM:tz6):tz6:=gP 1 6 (xh4 (pY n) (gP 1 2 (yv9 6 GM)) (uN n) (tD n m) pZ (sZ n) (pC n m) GM)
theorem yj4{n:Nat}(hn:0<n):pY n [.tup []]=some (.lst true [.tup [.int 1,.int 1]]):=by
 have h:=wa0 hn
 obtain⟨A,ha,hA⟩:=zv6 h
 have ne:∀W:Nat,bI (W:Int) n []≠[]:=fun W=>by rw [yp0 hn];simp
 have a1:A=1:=by
  by_cases z:1<A
  ·exact absurd (ha.un 1 (Zb _) z) (ne 1)
  ·have:=ha.lo;omega
 subst a1
 rcases hA with ⟨_,qn,_⟩|⟨z,_⟩
 ·obtain⟨st,hst,_,q⟩:=zv9 h (Zb _) (by decide) (ne 1) qn
  obtain⟨t,e⟩:=hst.hd
  have m1:∀W:Nat,mW n [] W=1:=fun W=>by
   unfold mW
   rw [yp0 hn];rfl
  have:t=[]:=by
   cases t with
   |nil=>rfl
   |cons p t=>
    have u:=hst.up
    rw [e] at u
    have v:=((List.pairwise_cons.mp u).1 p Z0).2
    obtain⟨V,_,_,ep⟩:=hst.mem p (by rw [e];simp)
    rw [ep] at v
    have v':mW n [] V<mW n [] 1:=v
    rw [m1,m1] at v'
    omega
  rw [this,m1] at e
  rw [e] at q
  exact q
 ·omega
theorem yu4{n m:Nat}(hn:2<n)(hm:2<m)(hM:MxH GM S):wj5 n m GM [S]=some (.bl true):=by
 obtain⟨r,qr,hr⟩:=xz1 (GM:=GM) (S:=S) (c:=6) (by decide) (by decide) hM
 have h:RowIn n r:=⟨Yf hr.dep hn,Zu hr.dep (by decide),hr.ok,Zu hr.len (by decide)⟩
 have hdm:depR r<m:=Yf hr.dep hm
 have s0:fIf (aU (fB (f2 dNe (aG (pY n) (aA (cA aE) aE)) (dM (aA (cA (aA (fC (.int 1)) (aA (fC (.int 1)) aE))) aE))))) (bW (aI (fC (.bl false)))) bC [some S,none,none,none,none,none,none]=some (.nx,[some S,none,none,none,none,none,none]):=by
  refine aZ (dR (aR (x:= .lst true (bG [(1,1)])) (y:= .lst true (bG [(1,1)])) (aP (aD rfl rfl) (yj4 (by omega))) rfl ?_))
  unfold dNe
  rw [xg9];rfl
 have s1:aV 1 (aI (aG (gP 1 2 (yv9 6 GM)) (aA (aB 0) aE))) [some S,none,none,none,none,none,none]=some (.nx,[some S,some (.tup (pcsD r)),none,none,none,none,none]):=bD (aP (aD rfl rfl) qr)
 obtain⟨A,ha,hA⟩:=zv6 h
 rcases hA with ⟨hA,qn,qx⟩|⟨hA,qx⟩
 ·have heA:=ha.at_ hA
  obtain⟨st,hst,hl,qs⟩:=zv9 h ha.lo hA heA qn
  have t0:qF (yP n) (aA (aB 0) aE) (aV 1 (aI (aG (pY n) (aA (aB 0) aE)))) [some (.tup (pcsD r)),none]=some (.nx,[some (.tup (pcsD r)),some (.lst true (bG st))]):=by
   unfold qF
   rw [aD (d:= .tup (pcsD r)) rfl (show aE _=some [] from rfl),Z2,if_neg (by rw [zl7,qx];exact Za)]
   exact bD (aP (aD rfl rfl) qs)
  have ql:uN n [.tup (pcsD r)]=some (.lst true (bG st)):=eT rfl (bH t0 ⟨_,rfl⟩)
  have s2:aV 2 (aI (aG (uN n) (aA (aB 1) aE))) [some S,some (.tup (pcsD r)),none,none,none,none,none]=some (.nx,[some S,some (.tup (pcsD r)),some (.lst true (bG st)),none,none,none,none]):=bD (aP (aD rfl rfl) ql)
  have hs:sizeLine=16777216:=Yi
  have hlen:(bG st).length=st.length:=by unfold bG;rw [Z7]
  obtain⟨tl,ehd⟩:=hst.hd
  have pos:0<st.length:=by rw [ehd];simp
  obtain⟨bs,qb,hb⟩:=zl9 ha.lo (fun V a b=>wg9 h (pQ h a heA).1) hst.mem
  have s4:fIf (aU (gN (cM (fT (aG kI (aA (aB 2) (aA (fC (.ty "list")) aE))))) (gN (fB (f2 dEq (aG eI (aA (aB 2) aE)) (fC (.int 0)))) (cM (fT (aG zr5 (aA (fQ [none] (dP (aB 2)) fK (aG pZ (aA (aB 0) aE))) aE))))))) (bW (aI (fC (.bl false)))) bC [some S,some (.tup (pcsD r)),some (.lst true (bG st)),none,none,none,none]=some (.nx,[some S,some (.tup (pcsD r)),some (.lst true (bG st)),none,none,none,none]):=by
   refine aZ (sG (gB (b:=true) (nF (aP (ds:=[.lst true (bG st),.ty "list"]) (aD rfl (aD rfl rfl)) (xz9 _)))) (sG (dR (aR (x:= .int (st.length:Int)) (y:= .int 0) (aP (aD rfl rfl) (by show some (D.int ((bG st).length:Int))=_;rw [hlen])) rfl (by show some (D.bl (decide ((st.length:Int)=0)))=_;rw [Zg (by omega)]))) (gB (b:=true) (nF (aP (aD (d:= .lst true (bs.map .bl)) ?_ rfl) ?_)))))
   ·unfold fQ dP
    show((some (D.lst true (bG st))).bind jN).bind _=_
    rw [Z2,zr0,Z2,if_pos (by omega)]
    show(eZ [none] fK _ _).bind _=_
    rw [qb];rfl
   ·show(D.bools (bs.map .bl)).map _=_
    rw [zw0]
    show some (D.bl (bs.all id))=_
    rw [hb]
  have s5:fIf (aU (fB (f2 dNe (f2 dIx (f2 dIx (aB 2) (fC (.int 0))) (fC (.int 0))) (aG (sZ n) (aA (aB 1) aE))))) (bW (aI (fC (.bl false)))) bC [some S,some (.tup (pcsD r)),some (.lst true (bG st)),none,none,none,none]=some (.nx,[some S,some (.tup (pcsD r)),some (.lst true (bG st)),none,none,none,none]):=by
   have e:bG st=eL ((A:Int),mW n r A)::bG tl:=by rw [ehd];rfl
   refine aZ (dR (aR (x:= .int (A:Int)) (y:= .int (A:Int)) (aR (x:=eL ((A:Int),mW n r A)) (aR (x:= .lst true (bG st)) rfl rfl (by rw [e];exact kF _ _)) rfl (kF _ _)) (aP (aD rfl rfl) qn) ?_))
   show some (D.bl (!decide ((A:Int)=A)))=_
   rw [Zr rfl];rfl
  have g2:∀(p:PSt) (fi:tz2) (k:Nat) (hk:k<st.length),p[2]? =some (some (.lst true (bG st)))->fi p=some (.int (k:Int))->f2 dIx (aB 2) fi p=some (eL st[k]):=fun p fi k hk hp hf=>aR (lA hp) hf (by
   refine pF ?_
   unfold bG
   rw [Zd,Zm hk];rfl)
  obtain⟨x3,l3⟩:=uG (i:=3) (f:=fIf (aU (gN (fB (f2 dLe (f2 dIx (f2 dIx (aB 2) (aB 3)) (fC (.int 0))) (f2 dIx (f2 dIx (aB 2) (f2 iT (aB 3) (fC (.int 1)))) (fC (.int 0))))) (fB (f2 dGe (f2 dIx (f2 dIx (aB 2) (aB 3)) (fC (.int 1))) (f2 dIx (f2 dIx (aB 2) (f2 iT (aB 3) (fC (.int 1)))) (fC (.int 1))))))) (bW (aI (fC (.bl false)))) bC) (dS 1 ((st.length:Int)-1).toNat) [some S,some (.tup (pcsD r)),some (.lst true (bG st)),none,none,none,none] (Z9 rfl) (fun d hd=>by
   unfold dS at hd
   obtain⟨j,hj,rfl⟩:=ZP.mp hd
   have hj':=YJ.mp hj
   have k1:j+1<st.length:=by omega
   have ord:=List.pairwise_iff_getElem.mp hst.up j (j+1) (by omega) k1 (by omega)
   have e1:(1:Int)+(j:Int)=((j+1:Nat):Int):=by omega
   rw [e1]
   generalize hp:[some S,some (D.tup (pcsD r)),some (D.lst true (bG st)),none,none,none,none].set 3 (some (D.int ((j+1:Nat):Int)))=p
   have p2:p[2]? =some (some (.lst true (bG st))):=by rw [<-hp];rfl
   have v3:aB 3 p=some (.int ((j+1:Nat):Int)):=by rw [<-hp];rfl
   have sb:f2 iT (aB 3) (fC (.int 1)) p=some (.int (j:Int)):=aR v3 rfl (by show some (D.int (((j+1:Nat):Int)-1))=_;rw [show(((j+1:Nat):Int)-1)=(j:Int) by omega])
   have a1:=g2 p (aB 3) (j+1) k1 p2 v3
   have a0:=g2 p _ j (by omega) p2 sb
   refine aZ (sG (dR (aR (aR a1 rfl (kF _ _)) (aR a0 rfl (kF _ _)) ?_)) (dR (aR (aR a1 rfl (jM _ _ _)) (aR a0 rfl (jM _ _ _)) ?_)))
   ·show some (D.bl (decide ((st[j+1]).1<=(st[j]).1)))=_
    rw [Zg (by have:=ord.1;omega)]
   ·show some (D.bl (decide ((st[j]).2<=(st[j+1]).2)))=_
    rw [Zg (by have:=ord.2;omega)])
  have s6:fJ 3 (lL (aA (fC (.int 1)) (aA (aG eI (aA (aB 2) aE)) aE))) (fIf (aU (gN (fB (f2 dLe (f2 dIx (f2 dIx (aB 2) (aB 3)) (fC (.int 0))) (f2 dIx (f2 dIx (aB 2) (f2 iT (aB 3) (fC (.int 1)))) (fC (.int 0))))) (fB (f2 dGe (f2 dIx (f2 dIx (aB 2) (aB 3)) (fC (.int 1))) (f2 dIx (f2 dIx (aB 2) (f2 iT (aB 3) (fC (.int 1)))) (fC (.int 1))))))) (bW (aI (fC (.bl false)))) bC) [some S,some (.tup (pcsD r)),some (.lst true (bG st)),none,none,none,none]=some (.nx,[some S,some (.tup (pcsD r)),some (.lst true (bG st)),x3,none,none,none]):=by
   refine nW (ds:=dS 1 ((st.length:Int)-1).toNat) ?_ l3
   unfold lL
   rw [aD (d:= .int 1) rfl (aD (d:= .int (st.length:Int)) (aP (aD rfl rfl) (by show some (D.int ((bG st).length:Int))=_;rw [hlen])) (show aE _=some [] from rfl)),Z2]
   exact zp9 (by decide) (by decide) (by omega) (by omega)
  have rt:∀(p:PSt) (fi:tz2) (V:Nat),p[1]? =some (some (.tup (pcsD r)))->p[2]? =some (some (.lst true (bG st)))->fi p=some (.int (V:Int))->1<=V->V<=40->cM (fT (aG (pC n m) (aA (aB 1) (aA (aB 2) (aA fi aE))))) p=some false:=fun p fi V p1 p2 hf v0 v1=>gB (b:=true) (nF (aP (aD (lA p1) (aD (lA p2) (aD hf rfl))) (xo9 h hdm ha hst v0 v1)))
  obtain⟨x4,l4⟩:=uG (i:=4) (f:=fIf (aU (gN (cM (fT (aG (pC n m) (aA (aB 1) (aA (aB 2) (aA (f2 dIx (aB 4) (fC (.int 0))) aE)))))) (cU (fB (f2 dGt (f2 dIx (aB 4) (fC (.int 0))) (fC (.int 1)))) (cM (fT (aG (pC n m) (aA (aB 1) (aA (aB 2) (aA (f2 iT (f2 dIx (aB 4) (fC (.int 0))) (fC (.int 1))) aE))))))))) (bW (aI (fC (.bl false)))) bC) (bG st) [some S,some (.tup (pcsD r)),some (.lst true (bG st)),x3,none,none,none] (Z9 rfl) (fun d hd=>by
   obtain⟨q,hq,rfl⟩:=ZP.mp hd
   obtain⟨V,a,b,rfl⟩:=hst.mem q hq
   have lo:=ha.lo
   generalize hp:[some S,some (D.tup (pcsD r)),some (D.lst true (bG st)),x3,none,none,none].set 4 (some (eL ((V:Int),mW n r V)))=p
   have p1:p[1]? =some (some (.tup (pcsD r))):=by rw [<-hp];rfl
   have p2:p[2]? =some (some (.lst true (bG st))):=by rw [<-hp];rfl
   have v4:aB 4 p=some (eL ((V:Int),mW n r V)):=by rw [<-hp];rfl
   have i0:f2 dIx (aB 4) (fC (.int 0)) p=some (.int (V:Int)):=aR v4 rfl (kF _ _)
   have r1:=rt p _ V p1 p2 i0 (by omega) (by omega)
   have g:fB (f2 dGt (f2 dIx (aB 4) (fC (.int 0))) (fC (.int 1))) p=some (decide ((1:Int)<V)):=dR (aR i0 rfl rfl)
   by_cases c:(1:Int)<V
   ·rw [Zr c] at g
    have sb:f2 iT (f2 dIx (aB 4) (fC (.int 0))) (fC (.int 1)) p=some (.int ((V-1:Nat):Int)):=aR i0 rfl (by show some (D.int ((V:Int)-1))=_;rw [show((V:Int)-1)=((V-1:Nat):Int) by omega])
    exact aZ (sG r1 (qT g (rt p _ (V-1) p1 p2 sb (by omega) (by omega))))
   ·rw [Zg c] at g
    exact aZ (sG r1 (qS g)))
  have s7:zy5 4 2 (fIf (aU (gN (cM (fT (aG (pC n m) (aA (aB 1) (aA (aB 2) (aA (f2 dIx (aB 4) (fC (.int 0))) aE)))))) (cU (fB (f2 dGt (f2 dIx (aB 4) (fC (.int 0))) (fC (.int 1)))) (cM (fT (aG (pC n m) (aA (aB 1) (aA (aB 2) (aA (f2 iT (f2 dIx (aB 4) (fC (.int 0))) (fC (.int 1))) aE))))))))) (bW (aI (fC (.bl false)))) bC) [some S,some (.tup (pcsD r)),some (.lst true (bG st)),x3,none,none,none]=some (.nx,[some S,some (.tup (pcsD r)),some (.lst true (bG st)),x3,x4,none,none]):=by
   unfold zy5
   show(some (D.lst true (bG st))).bind _=_
   rw [Z2,zr0,Z2,l4];rfl
  obtain⟨x5,l5⟩:=uG (i:=5) (f:=fIf (aU (cM (fT (aG (pC n m) (aA (aB 1) (aA (aB 2) (aA (f2 cO (fC (.int 1)) (f2 eC (aG GM (aA (aB 0) (aA (aB 5) (aA (fC (.int 63)) aE)))) (fC (.int 40)))) aE))))))) (bW (aI (fC (.bl false)))) bC) (dS 0 6) [some S,some (.tup (pcsD r)),some (.lst true (bG st)),x3,x4,none,none] (Z9 rfl) (fun d hd=>by
   unfold dS at hd
   obtain⟨j,hj,rfl⟩:=ZP.mp hd
   have hj':=YJ.mp hj
   obtain⟨a,qa,_⟩:=hM (0+(j:Int)) 63 (by omega) (by omega) (by decide) (by decide)
   obtain⟨V,hV,v1⟩:=ym2 a 1 40 (by decide)
   have v0:1<=V:=by
    have:=ZE a (show(40:Int)≠0 by decide)
    have hV':(1:Int)+a % 40=V:=hV
    omega
   generalize hp:[some S,some (D.tup (pcsD r)),some (D.lst true (bG st)),x3,x4,none,none].set 5 (some (D.int (0+(j:Int))))=p
   have p1:p[1]? =some (some (.tup (pcsD r))):=by rw [<-hp];rfl
   have p2:p[2]? =some (some (.lst true (bG st))):=by rw [<-hp];rfl
   have w0:aB 0 p=some S:=by rw [<-hp];rfl
   have w5:aB 5 p=some (.int (0+(j:Int))):=by rw [<-hp];rfl
   refine aZ (rt p _ V p1 p2 (aR (x:= .int 1) (y:= .int (a % 40)) rfl (aR (aP (aD w0 (aD w5 (aD rfl rfl))) qa) rfl ((dH _ _).trans (if_pos (by decide)))) ?_) v0 (by omega))
   rw [<-hV];rfl)
  have s8:fJ 5 (lK (aA (fC (.int 6)) aE)) (fIf (aU (cM (fT (aG (pC n m) (aA (aB 1) (aA (aB 2) (aA (f2 cO (fC (.int 1)) (f2 eC (aG GM (aA (aB 0) (aA (aB 5) (aA (fC (.int 63)) aE)))) (fC (.int 40)))) aE))))))) (bW (aI (fC (.bl false)))) bC) [some S,some (.tup (pcsD r)),some (.lst true (bG st)),x3,x4,none,none]=some (.nx,[some S,some (.tup (pcsD r)),some (.lst true (bG st)),x3,x4,x5,none]):=nW (ds:=dS 0 6) rfl l5
  have s9:aV 6 (aI (aG zy1 (aA (aB 2) aE))) [some S,some (.tup (pcsD r)),some (.lst true (bG st)),x3,x4,x5,none]=some (.nx,[some S,some (.tup (pcsD r)),some (.lst true (bG st)),x3,x4,x5,some (.lst true (bG st))]):=bD (aP (aD rfl rfl) (if_pos (zq9 st)))
  have s10:cP (cZ 2 bQ (aA (cA (aA (fC (.int 41)) (aA (fC (.int 0)) aE))) aE) dX) [some S,some (.tup (pcsD r)),some (.lst true (bG st)),x3,x4,x5,some (.lst true (bG st))]=some (.nx,[some S,some (.tup (pcsD r)),some (.lst true (bG st++[eL (41,0)])),x3,x4,x5,some (.lst true (bG st))]):=by
   have e:aA (cA (aA (fC (.int 41)) (aA (fC (.int 0)) aE))) aE [some S,some (.tup (pcsD r)),some (.lst true (bG st)),x3,x4,x5,some (.lst true (bG st))]=some [eL (41,0)]:=rfl
   unfold cP cZ
   rw [e]
   show((if (bG st).length<sizeLine then some (D.non,D.lst true (bG st++[eL (41,0)])) else none).bind _).bind _=_
   rw [if_pos (by omega)];rfl
  refine eT rfl (bH s0 (bH s1 (bH s2 (bH (aZ (dR (aR rfl rfl rfl))) (bH s4 (bH s5 (bH s6 (bH s7 (bH s8 (bH s9 (bH s10 ⟨_,cE (aR (aP (aD rfl rfl) qs) rfl ?_)⟩)))))))))))
  unfold dEq
  rw [xg9];rfl
 ·subst hA
  have t0:qF (yP n) (aA (aB 0) aE) (aV 1 (aI (aG (pY n) (aA (aB 0) aE)))) [some (.tup (pcsD r)),none]=some (.ret .non,[some (.tup (pcsD r)),none]):=by
   unfold qF
   rw [aD (d:= .tup (pcsD r)) rfl (show aE _=some [] from rfl),Z2,if_pos (by rw [zl7,qx])]
  have ql:uN n [.tup (pcsD r)]=some .non:=eT rfl (uD ⟨_,t0⟩)
  have s2:aV 2 (aI (aG (uN n) (aA (aB 1) aE))) [some S,some (.tup (pcsD r)),none,none,none,none,none]=some (.nx,[some S,some (.tup (pcsD r)),some .non,none,none,none,none]):=bD (aP (aD rfl rfl) ql)
  have q:=zv7 (W:=((40:Nat):Int)) (m:=m) h (by decide) (by decide) (ha.un 40 (by decide) (by decide))
  exact eT rfl (bH s0 (bH s1 (bH s2 (uD ⟨_,(cG (dR (aR rfl rfl rfl))).trans (cE (aR (aP (aD rfl (aD rfl rfl)) q) rfl rfl))⟩))))
end
end My
namespace My
open PySem PySem.Spec PyProof.Rows L2 L3
variable{P:Program}{w:World}{K:tz0}{mg:tzA}{base:Heap}{κ:tz9}
abbrev zn8:List D->Option (List Int):=D.ints
theorem zm0:∀ns:List Int,zn8 (ns.map .int)=some ns
 |[]=>rfl
 |n::ns=>by show(D.ints (ns.map .int)).map (n::·)=_;rw [show D.ints (ns.map .int)=some ns from zm0 ns];rfl
def xq6:tz6
 |[.con xs,.int k,.int s]=>match zn8 xs with
  |some ns=>if ns.length<=63/\(0<=k/\k<1000000)/\(0<=s/\s<1000000) then some (.int (yF ns k s)) else none
  |none=>none
 |_=>none
theorem xp0{ns:List Int}(h:ns.length<=63)(k s:Int)(hk:0<=k)(hk1:k<1000)(hs:0<=s)(hs1:s<1000):∃m,xq6 [.con (ns.map .int),.int k,.int s]=some (.int m)/\0<=m:=by
 refine⟨yF ns k s,?_,(yi8 ns k s).1⟩
 show(match zn8 (ns.map .int) with|some ns=>if ns.length<=63/\(0<=k/\k<1000000)/\(0<=s/\s<1000000) then some (D.int (yF ns k s)) else none|none=>none)=_
 rw [zm0]
 exact if_pos ⟨h,⟨hk,by omega⟩,hs,by omega⟩
theorem wo4{k:Nat}{f:Addr}{fd:FuncData}{ps:List Str}(F:FnOk P w K mg base CX0 k f fd ps (yp1 K)):FnOk P w K mg base CX0 k f fd ps (SpP 3 K κ xq6):=by
 refine F.imp fun vs H Q E ⟨_,ds,fp,d,r,e,q⟩=> ?_
 unfold xq6 at e
 split at e
 ·rename_i xs k s
  split at e
  ·rename_i ns hns
   obtain⟨hc,e⟩:=bK e
   cases e
   obtain⟨v1,us,f,g,rfl,r1,r2,rfl⟩:=r.split
   obtain⟨v2,us2,f2,g2,rfl,r3,r4,rfl⟩:=r2.split
   obtain⟨v3,rfl,r5⟩:=r4.one_inv
   rw [r3.is_int,r5.is_int]
   obtain⟨a,vs,rfl,hS,hs⟩:=r1.con_inv
   rw [sU hs hns] at hS
   exact⟨a,ns,k,s,rfl,hS.l,hc.1,hc.2.1,hc.2.2,q _ H [] (SameK.refl H) (fun _ ha=>absurd ha (by simp)) Zk (.int _)⟩
  ·cases e
 ·cases e
def zz5(K:tz0):Sp:=fun vs H Q _=>∃(a:Addr) (ns:List Int),vs=[.ref a]/\SqF K H a (ns.map V.int)/\ns.length<=63/\∀H',Q (.bl true) H'
theorem zw1{H:Hp}:∀ns:List Int,Reps K κ H (ns.map V.int) (ns.map .int) []
 |[]=> .nil
 |n::ns=> .cons (f:=[]) (g:=[]) (.int n) (zw1 ns)
theorem wo5{k:Nat}{f:Addr}{fd:FuncData}{ps:List Str}{g:tz6}(F:FnOk P w K mg base CX0 k f fd ps (SpP 1 K κ g))(h:∀ns:List Int,ns.length<=63->g [.con (ns.map .int)]=some (.bl true)):FnOk P w K mg base CX0 k f fd ps (zz5 K):=
 F.imp fun vs H Q E ⟨a,ns,e,hS,hl,q⟩=>e▸⟨rfl,[.con (ns.map .int)],[],.bl true,.cons (f:=[]) (g:=[]) (.con hS (zw1 ns)) .nil,h ns hl,fun v H' fv _ _ _ r=>by cases r;exact q H'⟩
def Cur:Nat->(List Value->Prop)->Prop
 |0,P=>P []
 |n+1,P=>∀a,Cur n fun us=>P (a::us)
theorem zr1{n:Nat}:∀{P:List Value->Prop},Cur n P->∀us:List Value,us.length=n->P us:=by
 induction n with
 |zero=>intro P h us hl;cases Xx hl;exact h
 |succ n ih=>
  intro P h us hl
  cases us with
  |nil=>cases hl
  |cons a us=>exact ih (h a) us (Nat.succ.inj hl)
structure FzT(K:tz0)(x:Str)(st:Stmt)(f:Addr)(fd:FuncData):Prop where
 a:PySem.W.nsIn K mainGlobals x=some (some (.ref f))
 F:Fun K x x st f fd
structure MzT(K:tz0)(C:Addr)(m q:Str)(st:Stmt)(f:Addr)(fd:FuncData):Prop where
 i:PySem.W.findIn K (.ref C) m=some (some (.ref f))
 s:PySem.W.isFn K (.ref f)=true
 F:Fun K m q st f fd
structure CzT(K:tz0)(x:Str)(C:Addr):Prop where
 a:PySem.W.nsIn K mainGlobals x=some (some (.ref C))
 g:PySem.W.plainGet K C Str.empty=true
 d:PySem.W.hasDictIn K C=true
 o:PySem.W.plainOver K C=true
 s:PySem.W.findIn K (.ref C) "__setattr__"=some (some (.builtin "object.__setattr__"))
 m:PySem.W.makesIn K C=true
 k:PySem.W.keepIn K (.ref C)=true
abbrev IzT(K:tz0)(x:Str)(i:Int):Prop:=∃v,PySem.W.nsIn K mainGlobals x=some (some v)/\∃t,v= .int i t
theorem wm0{x:Str}{v:Value}{p:Value->Prop}(h:PySem.W.nsIn K mainGlobals x=some (some v))(h2:p v):∃v,PySem.W.nsIn K mainGlobals x=some (some v)/\p v:=⟨v,h,h2⟩
abbrev BiT(x q:Str)(st:Stmt)(ps:List Str):Prop:=∀(kV doc pm:Value) (an:Option Addr) (cdv ct:Value) (us:List Value),us.length=ps.length->bindArgs (PySem.W.fnOf x q (wO st) (mO st) (aS st) .none kV doc pm an cdv ct) ⟨us,[]⟩=pure (ps.zip us)
theorem eK{N ps:List Str}{h:Heap}{x:Str}{st:Stmt}{f:Addr}{fd:FuncData}(_:FnScope N ps (aS st))(X:K.In h)(G:h.Ns mainGlobals mg)(a:FzT K x st f fd)(hb:BiT x x st ps:=by exact fun _ _ _ _ _ _=>zr1 (by(repeat intro _);exact rfl)):Dn K mg x st ps f fd:=
 ⟨a.F,a.F.binds hb,Yo X G a.a⟩
theorem zm1{x:Str}{C:Addr}(e:κ x=C)(c:CzT K x C):Cls K (κ x):=by rw [e];exact⟨c.g,c.d,c.o,c.s⟩
theorem xY{x y:Str}{C:Addr}(e:κ x=C)(h:PySem.W.findIn K (.ref C) y=some none):bZ K (κ x) y:=by rw [e];exact h
theorem xZ{N ps:List Str}{x m q:Str}{C:Addr}{st:Stmt}{f:Addr}{fd:FuncData}(_:FnScope N ps (aS st))(e:κ x=C)(c:CzT K x C)(a:MzT K C m q st f fd)(hb:BiT m q st ps:=by exact fun _ _ _ _ _ _=>zr1 (by(repeat intro _);exact rfl)):Mn K κ x m q st ps f fd:=
 ⟨a.F,a.F.binds hb,zm1 e c,by rw [e];exact⟨a.i,a.s,a.F.kp⟩⟩
theorem yu5{N ps:List Str}{h:Heap}{x q:Str}{C:Addr}{st:Stmt}{f:Addr}{fd:FuncData}(_:FnScope N ps (aS st))(X:K.In h)(G:h.Ns mainGlobals mg)(e:κ x=C)(c:CzT K x C)(a:MzT K C "__init__" q st f fd)(hb:BiT "__init__" q st ps:=by exact fun _ _ _ _ _ _=>zr1 (by(repeat intro _);exact rfl)):Kn K mg κ x q st ps f fd:=
 ⟨a.F,a.F.binds hb,by rw [e];exact⟨c.m,a.i,a.s,c.k⟩,by rw [e];exact Yo X G c.a⟩
theorem _root_.L2.FnOk.up{CX:CXT}{k k':Nat}{f:Addr}{fd:FuncData}{ps:List Str}{sp:Sp}(h:FnOk P w K mg base CX k f fd ps sp)(hk:k<=k':=by decide):FnOk P w K mg base CX k' f fd ps sp:=h.mono hk
theorem wo6{l:PySem.W.OpenLaw}{q:Program}{loose:List Str}{XP:(tzA)->Heap->Prop}{YP:World->Heap->Prop}{d:DefRec}{K:Params->tz0}{lev:Nat}(hn:l.most=some 63)(hdf:d.params.defaults=[])(hr:Room lev callerA)
  (hY:∀(w:World) (h:Heap),YP w h->(K w.params).In h)
  (F:∀(w:World) (mg:tzA) (fa:Addr) (h:Heap),(K w.params).In h->h.Ns mainGlobals mg->mg d.name=some (.ref fa)->
   ∃fd:FuncData,(∀(s:Shared) (u:Value),BindsTo s fd ⟨[u],[]⟩ [("_law_script",u)])/\∀base:Heap,(K w.params).In base->base.Ns mainGlobals mg->FnOk l.prog w (K w.params) mg base CX0 lev fa fd ["_law_script"] (zz5 (K w.params))):
  PySem.W.WalkO q loose XP YP l.row.toRowW d [] (fun f vs=>PySem.call f vs):=
 L2.xu2 (n:=63) (k:=lev) (x:="_law_script") (CX:=fun _=>CX0) (sp:=fun w=>zz5 (K w.params)) hn (by decide) hdf hr hY F (fun _ H a ns hl hO hS=>⟨a,ns,rfl,by
  rcases hS with (h|h)|h
  ·rcases hO a with z|⟨o,xs,z⟩<;>rw [h] at z<;>cases z
  ·exact .inl h
  ·exact .inr h,hl,fun _=>rfl⟩) fun _ _ _ _ _ z=>z
end My
namespace My
open PySem PySem.Spec PyProof.Rows L2 L3
variable{P:Program}{w:World}{K:tz0}{mg:tzA}{base:Heap}{κ:tz9}
def xs7:tz6
 |[.con xs,.int k]=>match zn8 xs with
  |some ns=>some (.int (wT ns k))
  |none=>none
 |_=>none
theorem wm1{k:Nat}{f:Addr}{fd:FuncData}{ps:List Str}(F:FnOk P w K mg base CX0 k f fd ps (yg8 K)):FnOk P w K mg base CX0 k f fd ps (SpP 2 K κ xs7):=by
 refine F.imp fun vs H Q E ⟨_,ds,fp,d,r,e,q⟩=> ?_
 unfold xs7 at e
 split at e
 ·rename_i xs k
  split at e
  ·rename_i ns hns
   cases e
   obtain⟨v1,us,f,g,rfl,r1,r2,rfl⟩:=r.split
   obtain⟨v3,rfl,r5⟩:=r2.one_inv
   rw [r5.is_int]
   obtain⟨a,vs,rfl,hS,hs⟩:=r1.con_inv
   rw [sU hs hns] at hS
   exact⟨a,ns,k,rfl,hS.l,q _ H [] (SameK.refl H) (fun _ ha=>absurd ha (by simp)) Zk (.int _)⟩
  ·cases e
 ·cases e
end My
namespace My
open PySem PySem.Spec PyProof.Rows L2 L3
theorem wh0{l:PySem.W.OpenLaw}{w:World}{K:tz0}{h:Heap}{mg:tzA}{fa:Addr}(X:K.In h)(G:h.Ns mainGlobals mg)(hfa:mg "law"=some (.ref fa))
  (pq:FzT K "first_place" iU ik gx)
  (qg:FzT K "holds_rows" jI iz ij)
  (ou:FzT K "takes_choice" iC gw gd)
  (t6:FzT K "ways" nX mz ma)
  (rj:FzT K "new_line" nH oa nr)
  (sh:FzT K "writing" mB ky j7)
  (qk:FzT K "ends_line" jV je iw)
  (om:FzT K "column_behind" gR gh f8)
  (pr:FzT K "with_choice" kL me lr)
  (ox:FzT K "behind_plain" jP lw lj)
  (on:FzT K "behind_holder" jJ li k7)
  (qh:FzT K "behind_row" st_p_behind_row iy ii)
  (oo:FzT K "behind_pieces" fH cf b6)
  (rk:FzT K "lines_of" kT j3 jf)
  (t7:FzT K "fits" rA rz qt)
  (tu:FzT K "price" oW qu p7)
  (pw:FzT K "roads_begin" gF di cw)
  (tw:FzT K "roads" kM jq i3)
  (qm:FzT K "narrowest" gG fg d7)
  (oy:FzT K "fewest_lines" iE lx lm)
  (su:FzT K "stairs" lD j5 jb)
  (sv:FzT K "set_by" qG p8 o5)
  (oz:FzT K "best_choices" fX gz gf)
  (si:FzT K "pressed" mC ml lz)
  (sj:FzT K "_law_cell_at" oS ut uq)
  (tx:FzT K "_law_mixed" mQ jr i5)
  (t9:FzT K "_law_word" vI r6 qw)
  (ua:FzT K "_law_leaf" vJ r9 qz)
  (ub:FzT K "_law_shut" vK r8 qy)
  (ui:FzT K "_law_row" yH sy sd)
  (uc:FzT K "_law_some" rH sf re)
  (sk:FzT K "_law_pressed" mD ku j6)
  (sx:FzT K "_law_stairs" qH p9 o6)
  (rl:FzT K "_law_is_stair" nI ol ny)
  (rm:FzT K "_law_lines_at" nJ oj nv)
  (tz:FzT K "_law_right" sN rf qc)
  (so:FzT K "law" zn0 u4 ur)
  (z0:PySem.W.nsIn K mainGlobals "len"=some none)
  (z1:PySem.W.nsIn K mainGlobals "enumerate"=some none)
  (z2:PySem.W.nsIn K mainGlobals "all"=some none)
  (z3:PySem.W.nsIn K mainGlobals "sum"=some none)
  (z4:PySem.W.nsIn K mainGlobals "sorted"=some none)
  (z5:PySem.W.nsIn K mainGlobals "range"=some none)
  (z6:PySem.W.nsIn K mainGlobals "min"=some none)
  (z7:PySem.W.nsIn K mainGlobals "max"=some none)
  (z8:PySem.W.nsIn K mainGlobals "tuple"=some none)
  (z9:PySem.W.nsIn K mainGlobals "isinstance"=some none)
  (z10:PySem.W.nsIn K mainGlobals "bool"=some none)
  (z11:PySem.W.nsIn K mainGlobals "int"=some none)
  (z12:PySem.W.nsIn K mainGlobals "list"=some none)
  (g0:PySem.W.nsIn K mainGlobals "HOLDERS"=some (some (.ref kz)))
  (t4:K.lookup kz=some ⟨.type "tuple",uu,.seq #[.str "group" uv,.str "hang" uw,.str "either" ux] uy,uz⟩)
  (g1:IzT K "LEAST_WIDTH" 1)
  (g2:IzT K "GREATEST_WIDTH" 40)
  (sr:CzT K "Place" mx)
  (rn:MzT K mx "__init__" "Place.__init__" st_Place_init ju jd)
  (ud:PySem.W.findIn K (.ref mx) "broken"=some none)
  (ue:PySem.W.findIn K (.ref mx) "margin"=some none)
  (nh:CzT K "Front" kq)
  (rq:MzT K kq "__init__" "Front.__init__" st_Front_init c9 ci)
  (ss:MzT K kq "add" "Front.add" st_Front_add dw da)
  (pz:MzT K kq "add_all" "Front.add_all" st_Front_add_all mf lu)
  (uj:PySem.W.findIn K (.ref kq) "steps"=some none)
  (um:PySem.W.findIn K (.ref kq) "best"=some none)
  (i7:CzT K "WithinWidth" fm)
  (n0:MzT K fm "__init__" "WithinWidth.__init__" st_WithinWidth_init k8 ka)
  (lc:MzT K fm "state_behind" "WithinWidth.state_behind" st_WithinWidth_state_behind g8 gs)
  (my:MzT K fm "rag_of" "WithinWidth.rag_of" st_WithinWidth_rag_of j8 js)
  (uk:PySem.W.findIn K (.ref fm) "width"=some none)
  (iu:CzT K "Setter" dt)
  (qo:MzT K dt "__init__" "Setter.__init__" st_Setter_init nu mw)
  (mq:MzT K dt "choice_below" "Setter.choice_below" gI jt jc)
  (n6:MzT K dt "set_plain" "Setter.set_plain" jD lb kf)
  (nk:MzT K dt "set_holder" "Setter.set_holder" iI ke j9)
  (o3:MzT K dt "set_row" "Setter.set_row" st_Setter_set_row gy ge)
  (no:MzT K dt "whole_text" "Setter.whole_text" st_Setter_whole_text kc j4)
  (t5:PySem.W.findIn K (.ref dt) "choices"=some none)
  (uo:PySem.W.findIn K (.ref dt) "used"=some none)
  (uf:PySem.W.findIn K (.ref dt) "column"=some none)
  (ul:PySem.W.findIn K (.ref dt) "parts"=some none)
  (ug:PySem.W.nsIn K mainGlobals "NoRoom"=some (some (.ref ak)))
  (uh:PySem.W.excIn K ak [.type "ValueError",.type "Exception",.type "BaseException",.type "object"] "ValueError.__new__"=true)
  :∃fd:FuncData,(∀(s:Shared) (v:Value),BindsTo s fd ⟨[v],[]⟩ [("_law_script",v)])/\∀base:Heap,K.In base->base.Ns mainGlobals mg->FnOk l.prog w K mg base CX0 49 fa fd ["_law_script"] (zz5 K):=by
 have e:=hfa.symm.trans (Yo X G so.a)
 cases e
 have bc:=eK tN X G pq
 have bj:=eK uT X G qg
 have az:=eK rT X G ou
 have gv:=eK uU X G t6
 have d9:=eK yS X G rj
 have c5:=eK tR X G sh
 have bz:=eK wE X G qk
 have ax:=eK qN X G om
 have df:=eK iR X G pr
 have cq:=eK fW X G ox
 have cc:=eK eP X G on
 have bn:=eK gU X G qh
 have af:=eK qO X G oo
 have cb:=eK yT X G rk
 have kh:=eK zu4 X G t7
 have jp:=eK sD X G tu
 have al:=eK kE X G pw
 have cj:=eK xG X G tw
 have ah:=eK jT X G qm
 have cz:=eK rV X G oy
 have bf:=eK iL X G su
 have i4:=eK vO X G sv
 have ai:=eK mR X G oz
 have b9:=eK lS X G si
 have kt:=eK zQ X G sj
 have bv:=eK kD X G tx
 have km:=eK jY X G t9
 have kn:=eK zV X G ua
 have jo:=eK gL X G ub
 have lq:=eK lT X G ui
 have ko:=eK qP X G uc
 have c6:=eK tT X G sk
 have i6:=eK vP X G sx
 have gk:=eK rM X G rl
 have gl:=eK kR X G rm
 have gt:=eK sE X G tz
 have tq:=eK qQ X G so
 obtain⟨κ,hκ⟩:∃κ,κ=(kap [("Place",mx),("Front",kq),("WithinWidth",fm),("Setter",dt)]):=⟨_,rfl⟩
 have nq:κ "Place"=mx:=by rw [hκ];simp [kap,fZ]
 have ba:=zm1 nq sr
 have g9:=yu5 yU X G nq sr rn
 have bu:=xY nq ud
 have du:=xY nq ue
 have kr:κ "Front"=kq:=by rw [hκ];simp [kap,fZ]
 have aa:=zm1 kr nh
 have cm:=yu5 yV X G kr nh rq
 have aw:=xZ zW kr nh ss
 have dg:=xZ nO kr nh pz
 have cp:=xY kr uj
 have ag:=xY kr um
 have gq:κ "WithinWidth"=fm:=by rw [hκ];simp [kap,fZ]
 have a9:=zm1 gq i7
 have et:=yu5 pD X G gq i7 n0
 have aq:=xZ eY gq i7 lc
 have bo:=xZ nU gq i7 my
 have gb:=xY gq uk
 have de:κ "Setter"=dt:=by rw [hκ];simp [kap,fZ]
 have ae:=zm1 de iu
 have kl:=yu5 wI X G de iu qo
 have bg:=xZ jL de iu mq
 have b8:=xZ lE de iu n6
 have bx:=xZ eR de iu nk
 have a7:=xZ mS de iu o3
 have bw:=xZ oK de iu no
 have c7:=xY de t5
 have fk:=xY de uo
 have gu:=xY de uf
 have g7:=xY de ul
 have ac:=ZF X G z0
 have mi:=ZF X G z1
 have oq:=ZF X G z2
 have tm:=ZF X G z3
 have o9:=ZF X G z4
 have ar:=ZF X G z5
 have mh:=ZF X G z6
 have tj:=ZF X G z7
 have dj:=ZF X G z8
 have dc:=ZF X G z9
 have se:=ZF X G z10
 have tp:=ZF X G z11
 have qe:=ZF X G z12
 have n8:=Yo X G g0
 have n9:∀H,Rep K κ H (.ref kz) (.tup [(.str "group"),(.str "hang"),(.str "either")]) []:=fun H=>xl0 (ys:=[("group",_),("hang",_),("either",_)]) t4 (Z9 rfl) H
 obtain⟨_,g1,_,rfl⟩:=g1
 have eu:=Yo X G g1
 obtain⟨_,g2,_,rfl⟩:=g2
 have ao:=Yo X G g2
 obtain⟨oc,od,kV,doc,pm,an,cdv,ct,osl,el,_,_⟩:=so.F.ex
 refine⟨ur,fun s v=>by rw [el];exact .of_eq rfl,fun base KB _=> ?_⟩
 have bp:OwnCls "NoRoom" ak bmV "ValueError.__new__" mg base:=⟨Yo X G ug,xw0 KB uh⟩
 have H1:=yd0 (P:=l.prog) (w:=w) (base:=base) (n:=0) kt ac
 have H2:=ys4 (n:=1) bv kt H1 ac tj
 have b7:=wo4 (κ:=κ) H2
 have o4:=wm1 (κ:=κ) H1
 have d6:=zk1 (P:=l.prog) (w:=w) (base:=base) (κ:=κ) (n:=0) bj n8 n9
 have a8:=zx2 (P:=l.prog) (w:=w) (base:=base) (κ:=κ) (n:=0) cm aa cp ag
 have jw:=zw6 (P:=l.prog) (w:=w) (base:=base) (κ:=κ) (n:=0) d9
 have ib:=yd1 (n:=1) c5 d9 jw.up ba bu du
 have eo:=zp6 (P:=l.prog) (w:=w) (base:=base) (κ:=κ) (n:=0) bz
 have cg:=zR (n:=1) ax bz eo.up ac
 have g6:=wH (P:=l.prog) (w:=w) (base:=base) (κ:=κ) (mg:=mg) (n:=0) bo a9 gb
 have dq:=qR (n:=2) aq c5 ib.up ax cg.up bz eo.up bo g6.up a9 gb
 have bi:=yd5 (P:=l.prog) (w:=w) (base:=base) (κ:=κ) (mg:=mg) (n:=0) aw aa ag
 have ji:=ze5 (n:=2) cq cm a8.up aq dq.up aw bi.up aa ag cp
 have d8:=zx1 (P:=l.prog) (w:=w) (base:=base) (κ:=κ) (n:=0) g9 ba bu du
 have kg:=xb9 (n:=1) gv g9 d8.up ba bu du
 have cu:=ze4 (P:=l.prog) (w:=w) (base:=base) (κ:=κ) (n:=0) az ba bu
 have jz:=zg8 (n:=1) df cm a8.up aw bi.up aa ag cp
 have j0:=zh0 (n:=1) dg aw bi.up aa ag
 have qq:∀n,FnOk l.prog w K mg base CX0 (3*n+4) _ _ ["front","row","place"] (SpP 3 K κ (yL n)):=fun n=>by
  induction n with
  |zero=>exact FnOk.noneP (ps:=["front","row","place"])
  |succ n ih=>exact zk2 (n:=3*n+6) bn bj (d6.mono (by omega)) cc (zS (n:=3*n+4) cc cm (a8.mono (by omega)) gv (kg.mono (by omega)) az (cu.mono (by omega)) df (jz.mono (by omega)) dg (j0.mono (by omega)) bn (ih.mono (by omega)) aa cp mi) cq (ji.mono (by omega))
 have gi:=qq 13
 have dh:=zg7 (n:=1) bc g9 d8.up
 have ay:=zT (n:=43) af bn gi.up bc dh.up
 have ip:=zC (P:=l.prog) (w:=w) (base:=base) (κ:=κ) (n:=0) et a9 gb
 have gj:=zw7 (P:=l.prog) (w:=w) (base:=base) (κ:=κ) (n:=0) cb
 have o8:=xc0 (n:=1) kh cb gj.up oq ac
 have oh:=ys5 (n:=2) jp kh o8.up cb gj.up tm ac
 have bd:=zg9 (n:=2) al cm a8.up et ip.up jp oh.up aw bi.up
 have f6:=ys6 (n:=44) cj af ay.up al bd.up aa ag o9
 have fj:=zp7 (n:=45) ah cj f6.up ar eu ao
 have jl:=ze6 (n:=45) cz cj f6.up mh
 have g4:=yi9 (n:=46) bf ah fj.up cz jl.up ar ao
 have m9:=xc3 (P:=l.prog) (w:=w) (base:=base) (κ:=κ) (n:=0) jo dj ac
 have pd:=xc1 (P:=l.prog) (w:=w) (base:=base) (κ:=κ) (n:=0) km ar
 have ph:=xc2 (n:=1) kn km pd.up
 have qj:=xm1 (n:=2) lq bv b7.up jo m9.up kn ph.up ar dj ac
 have pj:=xc4 (n:=3) ko lq qj.up bv b7.up dj ar
 have kj:=zk3 (n:=45) ah cj f6.up bp ar eu ao
 have mo:=yd2 (n:=46) bf ah kj.up bp ar ao
 have ng:=yj1 (n:=47) i6 bf g4.up mo.up bp
 have ja:=zU (P:=l.prog) (w:=w) (base:=base) (κ:=κ) (n:=0) ai bp aa ag mh
 have l0:=zw8 (n:=44) b9 ai ja.up af ay.up al bd.up bp
 have jn:=ze7 (P:=l.prog) (w:=w) (base:=base) (κ:=κ) (n:=0) ai aa ag mh
 have lh:=zp8 (P:=l.prog) (w:=w) (base:=base) (κ:=κ) (n:=0) kl ae c7 fk gu g7
 have ir:=zD (n:=2) b8 c5 ib.up ax cg.up ae gu g7
 have gn:=vQ (P:=l.prog) (w:=w) (base:=base) (κ:=κ) (n:=0) bg ae fk c7 ac
 have p6:∀n,FnOk l.prog w K mg base CX0 (2*n+3) _ _ ["self","row","place"] (SpE 3 K κ (bR [true,false,false]) (sP n)):=fun n=>by
  induction n with
  |zero=>exact FnOk.noneE (ps:=["self","row","place"])
  |succ n ih=>exact ze8 (n:=2*n+4) a7 bj (d6.mono (by omega)) bx (xH (n:=2*n+3) bx gv (kg.mono (by omega)) az (cu.mono (by omega)) bg (gn.mono (by omega)) a7 ih ac) b8 (ir.mono (by omega))
 have ej:=p6 13
 have ie:=xI (P:=l.prog) (w:=w) (base:=base) (κ:=κ) (n:=0) bw ae fk g7 c7 ac
 have m7:=yj0 (n:=28) i4 kl lh.up a7 ej.up bc dh.up bw ie.up
 have mm:=yd3 (n:=44) b9 ai jn.up af ay.up al bd.up i4 m7.up
 have ia:=yd4 (n:=45) c6 b9 mm.up l0.up bp
 have l9:=zw9 (P:=l.prog) (w:=w) (base:=base) (κ:=κ) (n:=0) gk dc dj ac se tp
 have l7:=zx0 (P:=l.prog) (w:=w) (base:=base) (κ:=κ) (n:=0) gl
 have la:=ys7 (n:=46) gt c6 ia.up gl l7.up ac
 have u0:=we7 (n:=48) tq bf g4.up ko pj.up i6 ng.up c6 ia.up gk l9.up ah fj.up gt la.up bv b7.up ar qe ac dc oq
 exact wo5 u0 fun ns hl=>yu4 (by decide) (by decide) (fun j s h0 h1 h2 h3=>xp0 hl j s h0 h1 h2 h3)
end My
open PySem PySem.W PyProof.Rows
set_option maxRecDepth 100000 in
set_option maxHeartbeats 0 in
theorem PySem.Challenge.cw_linepress_k32_stairs_holds : PySem.Challenge.rw_linepress_k32_stairs.Holds := by
 w_on;o_law;k_head;(case hw=>w_witness2)
 k_fill
 refine My.wo6 (lev:=49) (l:=PySem.Challenge.rw_linepress_k32_stairs) rfl rfl ⟨rfl,by decide,by decide⟩ (fun w h Y=>PySem.W.kIn_of Y) ?F
 case F=>
  intro w mg fa h KX G hmg
  apply My.wh0 KX G hmg
  all_goals first
   |(refine' My.FzT.mk ?a (L2.yy3 ?b ?c ?d);(case a=>k_is);(case b=>k_is);(case c=>k_is);(case d=>k_is))
   |(refine' My.MzT.mk ?a ?e (L2.yy3 ?b ?c ?d);(case a=>k_is);(case e=>k_is);(case b=>k_is);(case c=>k_is);(case d=>k_is))
   |(refine' My.CzT.mk ?a ?_ ?_ ?_ ?_ ?_ ?_;(case a=>k_is);all_goals k_is)
   |(refine' My.wm0 ?a ?b;(case a=>k_is);(case b=>exact⟨_,rfl⟩))
   |k_is
   |rfl
   |kit_is
   |k_exc
   |kernel_rfl
#print axioms PySem.Challenge.cw_linepress_k32_stairs_holds

