import PyProof.Rows.All
import Wide.All
import OpenK.AllK
import Wide.FinOn
import PyProof.EqAt
import PyProof.EqKinds
import PyProof.TupleCall
import KE.BitLaws
import Open.SpecLaws
import KE.OsHead
import KE.OsGo
import KE.KDictSum
import PyProof.SetKind
import PyProof.Rows.SetFrom
import PyProof.DictWalks
import KE.KSortTupG
import PyProof.ListRange
import PyProof.TupleOfSeq
import PySem.Challenge.RW_quizpackets_s01_answers
set_option Elab.async false
set_option linter.all false
set_option maxRecDepth 100000
set_option maxHeartbeats 4000000
abbrev ab:=@List.getElem?_eq_getElem
abbrev ae:=@List.getElem?_eq_some_iff
abbrev af:=@List.length_map
abbrev ag:=@PySem.wpAny_bind
abbrev ao:=@List.length_append
abbrev au:=@if_neg
abbrev aw:=@List.mem_of_getElem?
abbrev ay:=@List.getElem?_map
abbrev aA:=@if_pos
abbrev aB:=@List.length_cons
abbrev aD:=@PySem.Heap.get?_push_of_some
abbrev aE:=@List.mem_cons_of_mem
abbrev aF:=@Nat.le_refl
abbrev aH:=@PySem.wpAny_pure
abbrev aI:=@List.mem_append
abbrev aK:=@Int.toNat_natCast
abbrev aM:=@List.length_range
abbrev aO:=@List.filter_cons_of_neg
abbrev aP:=@List.mem_cons_self
abbrev aQ:=@PySem.F.plainAttrs_list
abbrev aR:=@Bool.and_eq_true
abbrev aS:=@List.filter_cons_of_pos
abbrev aT:=@PySem.PassesOwn.never
abbrev aW:=@decide_eq_true
abbrev aX:=@List.mem_cons
abbrev aY:=@Ne.symm
abbrev aZ:=@PySem.Heap.get?_push_size
abbrev a4:=@List.map_append
abbrev a5:=@Classical.byContradiction
abbrev a8:=@decide_eq_false
abbrev a9:=@List.mem_iff_getElem?
abbrev ba:=@List.size_toArray
abbrev bb:=@List.mem_singleton
abbrev bf:=@List.length_take
abbrev bg:=@Nat.le_trans
abbrev bh:=@PySem.boot_len
abbrev bp:=@List.mem_append_right
abbrev bq:=@List.getElem?_eq_none
abbrev br:=@List.mem_append_left
abbrev bu:=@List.take_length
abbrev bw:=@of_decide_eq_true
abbrev bz:=@PySem.Heap.lt_size
abbrev bA:=@List.map_cons
abbrev bC:=@List.mem_map
abbrev bD:=@Nat.zero_le
abbrev bH:=@Bool.or_eq_true
abbrev bI:=@List.Nodup.length_le_of_subset
abbrev bJ:=@List.getElem?_append_right
abbrev bK:=@Bool.false_ne_true
abbrev bL:=@PySem.F.slot_list_append
abbrev bM:=@PySem.F.type_list_append
abbrev bO:=@Nat.ne_of_lt
abbrev bP:=@List.getElem?_append_left
abbrev bQ:=@List.length_filter_le
abbrev bR:=@List.append_nil
abbrev bS:=@List.ext_getElem?
abbrev bU:=@List.mem_filter
abbrev bZ:=@beq_eq_false_iff_ne
abbrev b9:=@List.getElem?_range
abbrev cb:=@Nat.lt_of_lt_of_le
abbrev cc:=@List.nodup_append
abbrev cj:=@List.filter_append
abbrev cn:=@List.contains_iff_mem
abbrev cA:=@PySem.mem_of_lookup
abbrev cB:=@List.findSome?_cons
abbrev cD:=@List.any_eq_true
abbrev cF:=@Nat.not_lt_zero
abbrev cG:=@Nat.le_succ
abbrev cI:=@List.getElem?_set_self
abbrev cJ:=@decide_eq_true_eq
abbrev cK:=@List.filter_sublist
abbrev cM:=@Int.toNat_of_nonneg
abbrev cO:=@List.getElem?_set_ne
abbrev cQ:=@List.mem_range
abbrev cR:=@beq_iff_eq
abbrev cS:=@congrArg
abbrev cT:=@List.range_succ
abbrev cW:=@PySem.wpAny_newObj_type
abbrev cX:=@List.map_map
abbrev cY:=@Array.length_toList
abbrev cZ:=@PySem.Heap.size_push
abbrev c5:=@List.find?_range_eq_some
abbrev c8:=@List.countP_cons
abbrev c9:=@List.nodup_cons
abbrev da:=@List.flatMap_cons
abbrev df:=@List.perm_ext_iff_of_nodup
abbrev dg:=@Array.getElem?_toList
abbrev di:=@Int.zero_add
abbrev dj:=@List.getElem?_eq_none_iff
abbrev dq:=@Nat.lt_succ_of_lt
abbrev dt:=@List.find?_eq_none
abbrev dw:=@List.flatMap_append
abbrev dA:=@List.getD_eq_getElem?_getD
abbrev dB:=@List.any_cons
abbrev dD:=@Bool.false_eq_true
abbrev dE:=@List.all_eq_true
abbrev dG:=@List.filterMap_cons
abbrev dH:=@PySem.sizeLine_eq
abbrev dM:=@Nat.le_of_lt
abbrev dN:=@List.append_assoc
abbrev dO:=@Bool.eq_false_iff
abbrev dW:=@Bool.eq_iff_iff
abbrev dY:=@Nat.lt_succ_self
abbrev dZ:=@List.pairwise_lt_range
abbrev d7:=@PySem.Heap.SameBut.update
abbrev d9:=@List.countP_congr
abbrev eu:=@Nat.lt_irrefl
abbrev ez:=@Option.isSome_iff_exists
abbrev eE:=@List.filter_nil
abbrev eF:=@List.dropLast_concat_getLast
abbrev eG:=@List.foldl_cons
abbrev eJ:=@PySem.F.called_set
abbrev eO:=@PySem.wpAny_call_entry
abbrev eP:=@PySem.Around.under_plainId
abbrev eR:=@List.findIdx?_eq_some_iff_getElem
abbrev eU:=@PySem.wpAny_truthy_bool
abbrev eV:=@List.pairwise_map
abbrev eW:=@List.exists_of_findSome?_eq_some
abbrev e9:=@List.map_congr_left
abbrev fg:=@List.pairwise_iff_getElem
abbrev fh:=@List.mem_of_find?_eq_some
abbrev fi:=@PySem.wpAny_mono
abbrev fk:=@List.pairwise_cons
abbrev fm:=@List.getElem_mem
abbrev fw:=@PySem.wpAny_holding
abbrev fz:=@List.Perm.eq_of_pairwise
abbrev fA:=@PyProof.Rows.boot_sorted
abbrev fE:=@List.eq_nil_of_length_eq_zero
abbrev fL:=@PySem.wpAny_callSpecial?_slot
abbrev fM:=@List.foldl_append
abbrev fN:=@List.take_add_one
abbrev fO:=@bne_self_eq_false
abbrev fS:=@List.find?_cons
abbrev fT:=@Option.map_some
abbrev fU:=@List.length_nil
abbrev fV:=@Bool.decide_and
abbrev fW:=@PySem.codeAny_builtin
abbrev fX:=@PyProof.Rows.F.plain_set_update_loop
abbrev fZ:=@PyProof.Rows.callWith_type1
abbrev f6:=@List.sublist_cons_self
abbrev gh:=@List.lookup_cons
abbrev gj:=@List.nodup_range
abbrev gn:=@Nat.lt_of_le_of_lt
abbrev gp:=@PySem.Heap.get?_update_self
abbrev gq:=@PyProof.Rows.boot_max
abbrev gu:=@List.getLast?_eq_none_iff
abbrev gz:=@Array.getElem?_eq_getElem
abbrev gA:=@PySem.wpAny_passesOwn
abbrev gB:=@List.length_set
abbrev gE:=@PySem.codeAny_mono
abbrev gF:=@List.map_nil
abbrev gG:=@PySem.wpAny_setState_of
abbrev gN:=@List.getElem?_take_of_lt
abbrev gO:=@PySem.F.slot_list_extend
abbrev gP:=@PySem.F.type_list_extend
abbrev gR:=@PyProof.Rows.slot_tuple_getitem
abbrev gS:=@PySem.wpAny_setEntries_of
abbrev gW:=@PySem.wpAny_askSetting
abbrev h8:=@List.mem_filterMap
abbrev h9:=@PySem.wpAny_Call_Name_kw
abbrev ib:=@PySem.Heap.get?_update_other
abbrev ic:=@List.length_pos_of_mem
abbrev ie:=@List.getElem_replicate
abbrev ig:=@List.take_of_length_le
abbrev iC:=@List.countP_eq_length_filter
abbrev iF:=@Bool.or_false
abbrev iK:=@List.length_singleton
abbrev iL:=@List.getElem?_zipWith
abbrev iM:=@PySem.F.slot_list_pop
abbrev iN:=@PySem.F.type_list_pop
abbrev iO:=@PyProof.Rows.boot_min
abbrev iV:=@List.nodup_nil
abbrev iW:=@List.dropLast_concat
abbrev iX:=@PySem.wpAny_setField
abbrev i9:=@List.length_drop
abbrev ja:=@List.any_map
abbrev jc:=@beq_self_eq_true
abbrev jd:=@List.isEmpty_nil
abbrev jn:=@List.findIdx?_eq_none_iff
abbrev jo:=@PyProof.Rows.F.entry_set_update_loop
abbrev ju:=@Bool.not_true
abbrev jF:=@List.countP_map
abbrev jG:=@PySem.wpAny_ite_split
abbrev jO:=@PySem.tupleKind_room_in1
abbrev jP:=@Nat.add_sub_cancel
abbrev j1:=@PySem.F.slot_list_index
abbrev j2:=@PySem.F.slot_list_count
abbrev kf:=@Bool.false_and
abbrev kg:=@List.any_eq_false
abbrev kh:=@PySem.Calls.callWith_builtin
abbrev kl:=@Option.map_eq_some_iff
abbrev ko:=@Nat.le_of_succ_le
abbrev k8:=@List.length_replicate
abbrev k9:=@PySem.F.slot_dict_get
abbrev lb:=@PyProof.Rows.boot_any
abbrev lh:=@List.map_flatMap
abbrev lJ:=@PySem.plainId_quiet
abbrev lK:=@PySem.W.mg_of
abbrev lU:=@Classical.not_forall
abbrev lV:=@List.Pairwise.filter
abbrev lW:=@List.pairwise_append
abbrev lX:=@Array.toArray_toList
abbrev mz:=@PySem.wpAny_execs_nil
abbrev mB:=@PySem.pushCells_keeps
abbrev mC:=@Int.le_antisymm
abbrev mN:=@PySem.W.plainGet_of
abbrev mQ:=@List.any_nil
abbrev m5:=@PySem.Calls.Name_function_global
abbrev m6:=@PySem.Calls.spliced_cons
abbrev m7:=@PySem.W.callWith_K
abbrev m8:=@PyProof.Rows.sortedAll_old
abbrev m9:=@List.nodup_iff_pairwise_ne
abbrev nc:=@List.findSome?_eq_none_iff
abbrev ng:=@List.zip_cons_cons
abbrev nh:=@List.set_cons_zero
abbrev ni:=@List.set_cons_succ
abbrev nj:=@List.getElem?_drop
abbrev nq:=@List.length_eraseIdx_of_lt
abbrev nr:=@PySem.wpAny_fieldsOf
abbrev nt:=@Array.getElem?_eq_some_iff
abbrev nu:=@List.length_range'
abbrev oj:=@PyProof.Rows.sortedAll_at
abbrev om:=@PySem.Calls.call_function_entry
abbrev oo:=@List.getLast?_eq_getElem?
abbrev ot:=@PySem.Value.isInt_shape
abbrev ou:=@PySem.wpAny_pyIter_list
abbrev ow:=@if_true
abbrev ox:=@Classical.not_imp
abbrev oy:=@List.filter_congr
abbrev oz:=@List.find?_isSome
abbrev oA:=@Bool.not_eq_true'
abbrev oB:=@Nat.lt_trichotomy
abbrev oC:=@PySem.fits_of_scanBound
abbrev oE:=@List.getElem?_set
abbrev oR:=@List.all_cons
abbrev oS:=@Bool.false_or
abbrev oT:=@Bool.true_and
abbrev oU:=@List.length_filterMap_le
abbrev oV:=@PySem.wpAny_attempt
abbrev pE:=@if_false
abbrev pF:=@PySem.F.args_dict_get_3
abbrev pG:=@Bool.not_eq_true
abbrev pH:=@List.getElem?_cons_succ
abbrev pI:=@PySem.F.type_list_count
abbrev pJ:=@PySem.F.type_list_index
abbrev pK:=@PySem.wpAny_isInstance
abbrev pL:=@PySem.F.plain_list_iadd
abbrev pM:=@List.mem_flatMap
abbrev pN:=@PyProof.Rows.boot_tuple
abbrev pO:=@List.range'_succ
abbrev qd:=@PyProof.noPylong_small
abbrev qe:=@Nat.le_of_eq
abbrev qf:=@PySem.W.cellsFrom_some
abbrev qg:=@PySem.wpAny_typeOf
abbrev qh:=@PySem.call_meets
abbrev qi:=@PySem.F.entry_dict_get
abbrev qj:=@List.drop_eq_nil_of_le
abbrev qk:=@Array.getElem?_eq_none
abbrev ql:=@List.find?_cons_of_neg
abbrev qV:=@List.of_mem_zip
abbrev qW:=@List.find?_some
abbrev qX:=@List.foldr_cons
abbrev rf:=@PySem.W.methodCall_KW
abbrev rg:=@List.filterMap_append
abbrev rh:=@List.take_append_drop
abbrev rj:=@PySem.F.plain_set_new
abbrev rl:=@List.getElem?_toArray
abbrev rm:=@PySem.F.slot_set_iter
abbrev rE:=@Bool.and_eq_true_iff
abbrev rF:=@Nat.add_mul
abbrev rG:=@Nat.mul_add
abbrev rH:=@Nat.mul_le_mul
abbrev rJ:=@List.getElem?_mapIdx
abbrev rK:=@List.drop_zero
abbrev rL:=@List.getElem?_append
abbrev rM:=@PySem.wpAny_runValue
abbrev rN:=@PySem.isSubtype_type
abbrev rO:=@Nat.pow_le_pow_right
abbrev tG:=@PySem.W.callWith_K0
abbrev tL:=@PySem.wpAny_standAt
abbrev tM:=@List.sum_cons
abbrev tN:=@Bool.and_comm
abbrev ub:=@PySem.wpAny_load
abbrev uc:=@Option.isSome_some
abbrev ud:=@List.filter_filter
abbrev ue:=@List.filterMap_nil
abbrev uf:=@List.range'_concat
abbrev uS:=@Nat.ne_of_gt
abbrev uT:=@Option.isSome_map
abbrev uU:=@Bool.or_comm
abbrev uV:=@Nat.zero_add
abbrev uW:=@List.map_set
abbrev uX:=@Array.toList_push
abbrev yi:=@or_assoc
section
namespace L2
open PySem PySem.Spec PyProof.Rows
abbrev iq:=Sum Int Str
def y8:iq->Value->Bool
 | .inl k,v=>Value.isInt k v
 | .inr x,v=>Value.isStrOf x v
def Wz (w:World):iq->Int
 | .inl k=>hashInt k
 | .inr x=>hashStr w x
theorem gg:∀{k:iq} {v:Value},y8 k v=true->(∃i t,k=Sum.inl i/\v=Value.int i t)\/(∃x t,k=Sum.inr x/\v=Value.str x t)
 | .inl i,v,h=>by
  obtain ⟨t,e⟩:=ot (k:=i) (v:=v) h
  exact .inl ⟨i,t,rfl,e⟩
 | .inr x,v,h=>by
  obtain ⟨t,e⟩:=Value.isStrOf_shape (x:=x) (v:=v) h
  exact .inr ⟨x,t,rfl,e⟩
theorem HZ (i:Int) (t:Tok):y8 (.inl i) (.int i t)=true:=by simp [y8,Value.isInt]
theorem HV (x:Str) (t:Tok):y8 (.inr x) (.str x t)=true:=by simp [y8,Value.isStrOf]
theorem Oy (a b:Int):decide ((Sum.inl a:iq)=Sum.inl b)=(a==b):=by
 by_cases e:a=b
 ·subst e;simp
 ·have h:¬(Sum.inl a:iq)=Sum.inl b:=λq=>e (Sum.inl.inj q)
  rw [a8 h]
  exact (bZ.mpr e).symm
theorem NA (a b:Str):decide ((Sum.inr a:iq)=Sum.inr b)=decide (a=b):=by
 by_cases e:a=b
 ·subst e;simp
 ·have h:¬(Sum.inr a:iq)=Sum.inr b:=λq=>e (Sum.inr.inj q)
  rw [a8 h,a8 e]
theorem O1 (a:Int) (b:Str):decide ((Sum.inl a:iq)=Sum.inr b)=false:=a8 (λq=>nomatch q)
theorem NI (a:Str) (b:Int):decide ((Sum.inr a:iq)=Sum.inl b)=false:=a8 (λq=>nomatch q)
def f9 (prog:Program) (w:World):PySem.KeyKind prog w iq where
 is:=y8
 hash:=Wz w
 inj:=λv a b ha hb=>by
  rcases gg ha with ⟨i,t,rfl,rfl⟩|⟨x,t,rfl,rfl⟩
  ·rcases gg hb with ⟨j,u,rfl,e⟩|⟨y,u,rfl,e⟩
   ·injection e with e1 _;rw [e1]
   ·exact nomatch e
  ·rcases gg hb with ⟨j,u,rfl,e⟩|⟨y,u,rfl,e⟩
   ·exact nomatch e
   ·injection e with e1 _;rw [e1]
 byValue:=λk v h=>by
  rcases gg h with ⟨i,t,rfl,rfl⟩|⟨x,t,rfl,rfl⟩<;>rfl
 pyHash:=λhv h=>by
  rcases gg hv with ⟨i,t,rfl,rfl⟩|⟨x,t,rfl,rfl⟩
  ·exact wpAny_pyHash_int h
  ·exact wpAny_pyHash_str h
 eqBool:=λhu hv h=>by
  rcases gg hu with ⟨i,t,rfl,rfl⟩|⟨x,t,rfl,rfl⟩
  ·rcases gg hv with ⟨j,u,rfl,rfl⟩|⟨y,u,rfl,rfl⟩
   ·rw [Oy] at h;exact wpAny_eqBool_int h
   ·rw [O1] at h;exact SeqAt.EqAt.int_str i t y u _ _ _ _ h
  ·rcases gg hv with ⟨j,u,rfl,rfl⟩|⟨y,u,rfl,rfl⟩
   ·rw [NI] at h;exact SeqAt.EqAt.str_int x t j u _ _ _ _ h
   ·rw [NA] at h;exact wpAny_eqBool_str h
 «strs»:=λk x t v h=>by
  rcases gg h with ⟨i,u,rfl,e⟩|⟨y,u,rfl,e⟩
  ·exact nomatch e
  ·injection e with e1 _
   subst e1
   cases v<;>rfl
theorem C3 (prog:Program) (w:World) (i:Int) (t:Tok):(f9 prog w).is (.inl i) (.int i t)=true:=HZ i t
theorem CF (prog:Program) (w:World) (x:Str) (t:Tok):(f9 prog w).is (.inr x) (.str x t)=true:=HV x t
end L2
namespace L2
open PySem PySem.Spec PyProof.Rows
inductive V where
 |ll|bl (b:Bool)|int (i:Int)|str (x:Str)|Cg (b:Array UInt8)|flt (b:UInt64)|ref (a:Addr)|ty (n:String)
 deriving DecidableEq
def dP:V->Value->Prop
 | .ll,u=>u=Value.none
 | .bl b,u=>u=Value.bool b
 | .int i,u=>∃t,u=Value.int i t
 | .str x,u=>∃t,u=Value.str x t
 | .Cg b,u=>∃t,u=Value.bytes b t
 | .flt b,u=>∃t,u=Value.float b t
 | .ref a,u=>u=Value.ref a
 | .ty n,u=>u=Value.type n
abbrev c7:List V->List Value->Prop:=Paired dP
theorem c7.length {xs:List V} {us:List Value} (r:c7 xs us):xs.length=us.length:=Paired.length r
theorem c7.get:∀{xs:List V} {us:List Value} {i:Nat} {x:V},c7 xs us->xs[i]? =some x->∃u,us[i]? =some u/\dP x u
 |_,_,_,_,.nil,e=>by simp at e
 |_,_,0,_,.cons r _,e=>by simp at e;subst e;exact ⟨_,rfl,r⟩
 |_,_,i+1,x,.cons _ t,e=>by
  obtain ⟨u,h1,h2⟩:=c7.get (i:=i) (x:=x) t (by simpa using e)
  exact ⟨u,by simpa using h1,h2⟩
theorem c7.set {x:V} {u:Value} (r:dP x u):∀{xs:List V} {us:List Value} (i:Nat),c7 xs us->c7 (xs.set i x) (us.set i u)
 |_,_,_,.nil=> .nil
 |_,_,0,.cons _ t=> .cons r t
 |_,_,i+1,.cons q t=> .cons q (c7.set r i t)
theorem c7.append:∀{xs ys:List V} {us ws:List Value},c7 xs us->c7 ys ws->c7 (xs++ys) (us++ws)
 |_,_,_,_,.nil,s=>s
 |_,_,_,_,.cons r t,s=> .cons r (c7.append t s)
theorem c7.take:∀{xs:List V} {us:List Value} (n:Nat),c7 xs us->c7 (xs.take n) (us.take n)
 |_,_,0,_=> .nil
 |_,_,_+1,.nil=> .nil
 |_,_,n+1,.cons r t=> .cons r (c7.take n t)
theorem c7.drop:∀{xs:List V} {us:List Value} (n:Nat),c7 xs us->c7 (xs.drop n) (us.drop n)
 |_,_,0,r=>r
 |_,_,_+1,.nil=> .nil
 |_,_,n+1,.cons _ t=>c7.drop n t
def rn:Option V->Option Value->Prop
 |some v,some u=>dP v u
 |none,none=>True
 |_,_=>False
def KV {κ:Type}:List (κ×V)->List (κ×Value)->Prop:=Paired λ(p:κ×V) (q:κ×Value)=>p.1=q.1/\dP p.2 q.2
def kV:iq->V
 | .inl i=> .int i
 | .inr x=> .str x
inductive HO where
 |a6 (xs:List V)
 |dC (xs:List V)
 |dK (kvs:List (iq×V))|dT (kvs:List (List iq×V))
 |set (S:Int->Bool) (n:Nat)
 |ke (C dx:Addr) (fs:List (Str×V))
 |iU (x:Addr)
 |xd (fs:List (Str×V))
 |met (f x:Addr)
 |EU (lo hi:Int)
 |BP (o:Obj) (u:HO)
 |Oo (ps:Array Value)
 |ext (φ:Heap->Prop)
abbrev Hp:=Addr->Option HO
def bG (H:Hp) (a:Addr) (o:HO):Hp:=λb=>if b=a then some o else H b
theorem aj {H:Hp} {a:Addr} {o:HO}:bG H a o a=some o:=by unfold bG;rw [aA rfl]
theorem aL {H:Hp} {a b:Addr} {o:HO} (h:b≠a):bG H a o b=H b:=by unfold bG;rw [au h]
theorem mV {H:Hp} {a:Addr} {o u:HO}:bG (bG H a o) a u=bG H a u:=by
 funext b;unfold bG;split<;>rfl
theorem Tq {H:Hp} {a b:Addr} {o u:HO} (h:H a=some o) (h':H b=some u) (d:o≠u):a≠b:=by
 intro e;subst e;rw [h] at h';exact d (Option.some.inj h')
theorem az {H:Hp} {a b:Addr} {o:HO} (h:H a=some o) (h':H b=none):a≠b:=by
 intro e;subst e;rw [h] at h';cases h'
section
variable (P:Program) (w:World)
def g8 (H:Hp) (h:Heap) (a:Addr):HO->Prop
 | .a6 xs=>xs.length<=sizeLine/\∃(its:List Value) (n:Nat),c7 xs its/\h.get? a=some {cls:= .type "list",data:= .seq its.toArray n}
 | .dC xs=>xs.length<=sizeLine/\∃its:List Value,c7 xs its/\IsTup h a its.toArray
 | .dK kvs=>kvs.length<=sizeLine/\(a==sysModules)=false/\∃vs,KV kvs vs/\h.DictOf (f9 P w) a vs
 | .dT kvs=>kvs.length<=sizeLine/\(a==sysModules)=false/\∃xs:List (List iq×Addr×Value),
   Paired (λ(p:List iq×V) (q:List iq×Addr×Value)=>p.1=q.1/\H q.2.1=some (.dC (p.1.map kV))/\dP p.2 q.2.2) kvs xs/\
   ∃o es ep,h.get? a=some o/\o.ExactDict/\o.data= .dict es ep/\es.toList=xs.map (entryOfKey (tupleKind (f9 P w)))/\(xs.map (·.1)).Nodup
 | .set S n=>h.SetOf (intKind P w) a S n
 | .ke C dx fs=>H dx=some (.iU a)/\fs.length<=1000/\dx≠a/\h.get? a=some (PySem.W.instObj C dx)/\
   ∃mA,h.Ns1 dx mA/\(∀f,rn (fs.lookup f) (mA f))/\PySem.Within mA (fs.map (·.1))
 | .iU _=>∃o,h.get? a=some o
 | .xd fs=>∃mA,h.Ns1 a mA/\∀f,rn (fs.lookup f) (mA f)
 | .EU lo hi=>∃t u v,h.get? a=some {cls:= .type "range",data:= .fields #[.int lo t,.int hi u,.int 1 v]}
 | .BP o u=>h.get? a=some o/\g8 H h a u
 | .Oo ps=>h.get? a=some {cls:= .none,data:= .fields ps}
 | .met f x=>h.get? a=some (PySem.W.methodObj (.ref f) (.ref x))
 | .ext φ=>φ h/\(∃o,h.get? a=some o)/\∀h1 h2:Heap,φ h1->(∀o,h1.get? a=some o->h2.get? a=some o)->φ h2
def rP (H:Hp) (h:Heap):Prop:=∀a o,H a=some o->g8 P w H h a o
end
section
variable {P:Program} {w:World} {H H':Hp} {h h':Heap} {a:Addr} {o:HO}
theorem g8.lt (x:g8 P w H h a o):a< h.objs.size:=by
 cases o with
 |a6 xs=>obtain ⟨_,_,_,_,e⟩:=x;exact bz e
 |dC xs=>obtain ⟨_,_,_,p⟩:=x;exact p.lt
 |dK kvs=>obtain ⟨_,_,_,_,o,_,_,e,_⟩:=x;exact bz e
 |dT kvs=>obtain ⟨_,_,_,_,o,_,_,e,_⟩:=x;exact bz e
 |set S n=>obtain ⟨o,_,_,_,e,_⟩:=x;exact bz e
 |ke C dx fs=>obtain ⟨_,_,_,e,_⟩:=x;exact bz e
 |iU y=>obtain ⟨_,e⟩:=x;exact bz e
 |xd fs=>obtain ⟨_,⟨_,_,_,e,_⟩,_⟩:=x;exact bz e
 |EU lo hi=>obtain ⟨_,_,_,e⟩:=x;exact bz e
 |BP ob u=>obtain ⟨e,_⟩:=x;exact bz e
 |Oo ps=>exact bz (show h.get? a=some _ from x)
 |met f y=>exact bz (show h.get? a=some _ from x)
 |ext φ=>obtain ⟨_,⟨_,e⟩,_⟩:=x;exact bz e
theorem Paired.Oz {α β:Type} {F G:α->β->Prop}:∀{l₁:List α} {l₂:List β},Paired F l₁ l₂->(∀a b,F a b->G a b)->Paired G l₁ l₂
 |_,_,.nil,_=> .nil
 |_,_,.cons r t,f=> .cons (f _ _ r) (Paired.Oz t f)
theorem g8.ir (x:g8 P w H h a o) (k:∀b u,(b=a\/H b=some (.iU a))->h.get? b=some u->h'.get? b=some u)
  (ho:∀b,H b=some (.iU a)->H' b=some (.iU a)) (ht:∀b xs,H b=some (.dC xs)->H' b=some (.dC xs)):g8 P w H' h' a o:=by
 induction o with
 |a6 xs=>obtain ⟨z,its,n,r,e⟩:=x;exact ⟨z,its,n,r,k _ _ (.inl rfl) e⟩
 |dC xs=>obtain ⟨z,its,r,ob,e,c⟩:=x;exact ⟨z,its,r,ob,k _ _ (.inl rfl) e,c⟩
 |dK kvs=>obtain ⟨z,y,vs,r,ob,es,ep,e,c⟩:=x;exact ⟨z,y,vs,r,ob,es,ep,k _ _ (.inl rfl) e,c⟩
 |dT kvs=>
  obtain ⟨z,y,xs,r,ob,es,ep,e,c⟩:=x
  exact ⟨z,y,xs,Paired.Oz r λp q z=>⟨z.1,ht _ _ z.2.1,z.2.2⟩,ob,es,ep,k _ _ (.inl rfl) e,c⟩
 |set S n=>obtain ⟨ob,es,ep,t,e,c⟩:=x;exact ⟨ob,es,ep,t,k _ _ (.inl rfl) e,c⟩
 |ke C dx fs=>
  obtain ⟨d,z,ne,e,mA,⟨od,es,ep,e2,c⟩,r⟩:=x
  exact ⟨ho _ d,z,ne,k _ _ (.inl rfl) e,mA,⟨od,es,ep,k _ _ (.inr d) e2,c⟩,r⟩
 |iU y=>obtain ⟨ob,e⟩:=x;exact ⟨ob,k _ _ (.inl rfl) e⟩
 |xd fs=>obtain ⟨mA,⟨od,es,ep,e,c⟩,r⟩:=x;exact ⟨mA,⟨od,es,ep,k _ _ (.inl rfl) e,c⟩,r⟩
 |EU lo hi=>obtain ⟨t,u,v,e⟩:=x;exact ⟨t,u,v,k _ _ (.inl rfl) e⟩
 |BP ob u ih=>obtain ⟨e,q⟩:=x;exact ⟨k _ _ (.inl rfl) e,ih q⟩
 |Oo ps=>
  have e:h.get? a=some {cls:= .none,data:= .fields ps}:=x
  show h'.get? a=some {cls:= .none,data:= .fields ps}
  exact k a _ (.inl rfl) e
 |met f y=>
  have e:h.get? a=some (PySem.W.methodObj (.ref f) (.ref y)):=x
  show h'.get? a=some (PySem.W.methodObj (.ref f) (.ref y))
  exact k a _ (.inl rfl) e
 |ext φ=>obtain ⟨p,⟨o,e⟩,st⟩:=x;exact ⟨st _ _ p λo q=>k _ _ (.inl rfl) q,⟨o,k _ _ (.inl rfl) e⟩,st⟩
theorem rP.lt (x:rP P w H h) (e:H a=some o):a< h.objs.size:=(x a o e).lt
theorem rP.fresh (x:rP P w H h) (e:h.objs.size<=a):H a=none:=by
 cases q:H a with
 |none=>rfl
 |some u=>exact absurd (cb (x.lt q) e) (eu _)
theorem rP.k0 (x:rP P w H h) (k:∀b u,h.get? b=some u->h'.get? b=some u):rP P w H h':=λa o e=>
 (x a o e).ir (λb u _ q=>k b u q) (λ_ q=>q) λ_ _ q=>q
theorem rP.laid (x:rP P w H h) (k:∀b u,h.get? b=some u->h'.get? b=some u) (hp:h.objs.size<=a) (new:g8 P w (bG H a o) h' a o):rP P w (bG H a o) h':=λb u e=>by
 have hn:=x.fresh hp
 by_cases hb:b=a
 ·subst hb;rw [aj] at e;cases e;exact new
 ·rw [aL hb] at e
  exact (x b u e).ir (λc v _ q=>k c v q) (λc q=>by rw [aL (az q hn)];exact q) λc xs q=>by rw [aL (az q hn)];exact q
end
def Rd (H:Hp) (a:Addr) (u:HO):Prop:=H a=some u\/∃o,H a=some (.BP o u)
theorem Rd.ok {P:Program} {w:World} {H:Hp} {h:Heap} {a:Addr} {u:HO} (r:Rd H a u) (x:rP P w H h):g8 P w H h a u:=by
 rcases r with r|⟨o,r⟩
 ·exact x a u r
 ·obtain ⟨_,q⟩:=x a _ r
  exact q
def RS:Option HO->Prop
 |some (.a6 _)=>True
 |some (.dK _)=>True
 |some (.dT _)=>True
 |some (.set _ _)=>True
 |some (.ke _ _ _)=>True
 |some (.ext _)=>True
 |_=>False
section
variable {P:Program} {w:World} {H:Hp} {h h':Heap} {x e:Addr} {o':HO}
theorem rP.vw (ok:rP P w H h) (mu:RS (H x)) (he:e=x\/H e=some (.iU x)) (k:∀b u,b≠e->h.get? b=some u->h'.get? b=some u) (heo:∃u,h'.get? e=some u)
  (new:g8 P w (bG H x o') h' x o'):rP P w (bG H x o') h':=λb u q=>by
 have nown:∀c y,H c=some (.iU y)->c≠x:=λc y r z=>by subst z;rw [r] at mu;exact mu
 have ntup:∀c xs,H c=some (.dC xs)->c≠x:=λc xs r z=>by subst z;rw [r] at mu;exact mu
 by_cases hb:b=x
 ·subst hb;rw [aj] at q;cases q;exact new
 ·rw [aL hb] at q
  by_cases hbe:b=e
  ·have q':H b=some (.iU x):=by
    rcases he with z|z
    ·exact absurd (hbe.trans z) hb
    ·rw [hbe];exact z
   rw [q] at q';cases q'
   obtain ⟨v,hv⟩:=heo
   exact ⟨v,by rw [hbe];exact hv⟩
  ·refine (ok b u q).ir (λc v hc r=>k c v ?_ r) (λc r=>by rw [aL (nown c b r)];exact r) λc xs r=>by rw [aL (ntup c xs r)];exact r
   rcases hc with rfl|hc
   ·exact hbe
   ·rintro rfl
    rcases he with z|z
    ·exact nown c b hc z
    ·rw [hc] at z;cases z;exact hb rfl
end
structure Un (fs ex:List Addr) (H H':Hp) (h h':Heap):Prop where
 keep:∀b o,h.get? b=some o->H b=none->b∉fs->b∉ex->h'.get? b=some o
 slot:∀b o,h.get? b=some o->H b=none->b∈fs->b∉ex->∃sl,h'.get? b=some {o with slots:=sl}
 free:∀b o,h.get? b=some o->H b=none->b∉ex->H' b=none
 there:∀b o,h.get? b=some o->b∉ex->∃o',h'.get? b=some o'
 zH:∀b xs,H b=some (.dC xs)->H' b=some (.dC xs)
 BN:∀b o u,H b=some (.BP o u)->H' b=some (.BP o u)
 DD:∀b ps,H b=some (.Oo ps)->∃more,H' b=some (.Oo (ps++more))
section
variable {fs fs' ex ex':List Addr} {H H1 H2:Hp} {h h1 h2 h':Heap} {a x e:Addr} {o:HO}
theorem Un.any (u:Un fs ex H H1 h h1) {b:Addr} {ob:Obj} (q:h.get? b=some ob) (n:H b=none) (hx:b∉ex):∃sl,h1.get? b=some {ob with slots:=sl}:=by
 by_cases hb:b∈fs
 ·exact u.slot b ob q n hb hx
 ·exact ⟨ob.slots,u.keep b ob q n hb hx⟩
theorem Un.k0 (k:∀b u,h.get? b=some u->h'.get? b=some u):Un fs ex H H h h':=
 ⟨λb ob q _ _ _=>k b ob q,λb ob q _ _ _=>⟨ob.slots,k b ob q⟩,λ_ _ _ n _=>n,λb ob q _=>⟨ob,k b ob q⟩,λ_ _ q=>q,λ_ _ _ q=>q,λ_ ps q=>⟨#[],by rw [q];simp⟩⟩
theorem Un.refl:Un fs ex H H h h:=Un.k0 λ_ _ q=>q
theorem Un.laid (k:∀b u,h.get? b=some u->h'.get? b=some u) (hp:h.objs.size<=a) (hn:H a=none):Un fs ex H (bG H a o) h h' where
 keep:=λb u q _ _ _=>k b u q
 slot:=λb u q _ _ _=>⟨u.slots,k b u q⟩
 free:=λb u q n _=>by rw [aL (bO (cb (bz q) hp))];exact n
 there:=λb u q _=>⟨u,k b u q⟩
 zH:=λb xs q=>by rw [aL (az q hn)];exact q
 BN:=λb u xs q=>by rw [aL (az q hn)];exact q
 DD:=λb ps q=>⟨#[],by rw [aL (az q hn),q];simp⟩
theorem Un.vw (mu:RS (H x)) (he:e=x\/H e=some (.iU x)) (k:∀b u,b≠e->h.get? b=some u->h'.get? b=some u) (heo:∃u,h'.get? e=some u):Un fs ex H (bG H x o) h h':=by
 have hx:∀b,H b=none->b≠x:=λb n z=>by subst z;rw [n] at mu;exact mu
 have hb:∀b,H b=none->b≠e:=λb n z=>by
  subst z
  rcases he with r|r
  ·exact hx b n r
  ·rw [n] at r;cases r
 have hm:∀b u,H b=some u->¬RS (some u)->b≠x:=λb u q nm z=>by subst z;rw [q] at mu;exact nm mu
 refine ⟨λb u q n _ _=>k b u (hb b n) q,λb u q n _ _=>⟨u.slots,k b u (hb b n) q⟩,λb u q n _=>by rw [aL (hx b n)];exact n,λb u q _=> ?_,
  λb xs q=>by rw [aL (hm b _ q λz=>z)];exact q,λb u xs q=>by rw [aL (hm b _ q λz=>z)];exact q,λb ps q=>⟨#[],by rw [aL (hm b _ q λz=>z),q];simp⟩⟩
 by_cases hbe:b=e
 ·subst hbe;exact heo
 ·exact ⟨u,k b u hbe q⟩
end
def Vi (h:Heap) (H:Hp):List Addr:=(List.range h.objs.size).filter λa=>(H a).isSome
def Bs (h:Heap) (H:Hp):Heap:=PySem.W.hideAll h (Vi h H)
theorem Hk (h:Heap) (H:Hp):(Bs h H).objs.size=h.objs.size:=PySem.W.hideAll_size _ _
theorem I0 {h:Heap} {H:Hp} {b:Addr} {o:Obj} (e:h.get? b=some o) (n:H b=none):(Bs h H).get? b=some o:=
 PySem.W.hideAll_get _ e λhm=>by
  have q:(H b).isSome=true:=(bU.mp hm).2
  rw [n] at q;simp at q
theorem L0 {h:Heap} {H:Hp} {b:Addr} {o:Obj} (e:(Bs h H).get? b=some o):h.get? b=some o/\H b=none:=by
 have e':h.get? b=some o:=PySem.W.of_hideAll (Vi h H) e
 refine ⟨e',?_⟩
 cases q:H b with
 |none=>rfl
 |some x=>
  have hm:b∈Vi h H:=bU.mpr ⟨cQ.mpr (bz e'),by simp [q]⟩
  have z:(Bs h H).get? b=none:=PySem.W.hideAll_none (Vi h H) hm
  rw [z] at e;cases e
end L2
namespace L2
open PySem PySem.Spec PyProof.Rows
structure Mod (K:PySem.W.Frag) (mg:Str->Option Value) (base:Heap):Prop where
 Tj:K.In base
 BS:base.Ns mainGlobals mg
 blt:∃mb,base.Ns builtinsNs mb/\∀x:Str,x≠"__name__"->mb x=bootBuiltins x
 nolimit:base.NoLimit
structure Cx where
 prog:Program
 w:World
 K:PySem.W.Frag
 mg:Str->Option Value
 base:Heap
 A:Around
 N:List Str
 Aq:Shared
 SA:Hp
 bX:Env
 bE:List Env
 lg:List Env
 ex:List Addr
 fn:Str->Bool
 oq:Bool
 pn:List (Addr×Obj)
 xe:Value->Shared->Prop
def J6 (l:List Env):List Addr:=l.filterMap (·.frame)
abbrev Cx.fs (X:Cx):List Addr:=J6 X.bE
def P6 (sc:Scope) (x:Str):Prop:=sc.names.lookup x=some .local\/sc.names.lookup x=some .cell\/sc.names.lookup x=some .free
def RI (sc:Scope) (x:Str):Prop:=sc.names.lookup x=some .local\/sc.names.lookup x=some .cell
def Look (bX:Env) (h:Heap) (m:Str->Option Value) (x:Str) (u:Value):Prop:=
 (bX.kindOf x=some .local/\m x=some u)\/((bX.kindOf x=some .cell\/bX.kindOf x=some .free)/\∃c,bX.cells.lookup x=some c/\h.IsCell c (some u))
structure Cx.Ok (X:Cx):Prop where
 AZ:Mod X.K X.mg X.base
 kind:X.bX.scope.kind= .function
 BS:X.bX.globals=mainGlobals
 blt:X.bX.builtins=builtinsNs
 above:X.Aq.heap.objs.size<=X.bX.locals
 inj:∀x y c,X.bX.cells.lookup x=some c->X.bX.cells.lookup y=some c->x=y
 has:∀x,(X.bX.kindOf x=some .cell\/X.bX.kindOf x=some .free)->∃c,X.bX.cells.lookup x=some c
 Tg:∀x c,X.fn x=true->X.bX.cells.lookup x=some c->X.Aq.heap.objs.size<=c
 hd:X.oq=true->X.A.handled=none
 frames:X.A.frames=some X.lg
 Vn:X.lg=X.bE\/(X.lg=X.bX::X.bE/\X.bX.frame=some X.bX.locals)
 Vm:∀b∈X.ex,b≠X.bX.locals/\∀x c,X.bX.cells.lookup x=some c->c≠b
 bs:∀b o,X.base.get? b=some o->X.Aq.heap.get? b=some o/\X.SA b=none
 Lw:X.base.objs.size<=X.Aq.heap.objs.size
 Jv:∀b o,X.base.get? b=some o->b∉X.ex
 JZ:∀b∈X.ex,b∉X.fs
 xq:X.Aq.heap.FunFrames X.base X.bE
 Ow:∀b∈X.fs,X.SA b=none
structure cV (X:Cx) (pins:List (Addr×Obj)) (σ:List (Option V)) (H:Hp) (s:Shared):Prop where
 ok:X.Ok
 os:s.os=X.Aq.os
 bare:AllBare s.gens
 base:Un X.fs X.ex X.SA H X.Aq.heap s.heap
 Cy:∃m,s.heap.Ns X.bX.locals m/\∀(i:Nat) (x:Str) (v:V),X.N[i]? =some x->σ[i]? =some (some v)->P6 X.bX.scope x->∃u,dP v u/\Look X.bX s.heap m x u
 cell:∀x c,X.bX.cells.lookup x=some c->∃v,s.heap.IsCell c v
 free:H X.bX.locals=none
 qZ:∀x c,X.bX.cells.lookup x=some c->H c=none
 F9:∀p∈X.pn++pins,s.heap.get? p.1=some p.2/\H p.1=none/\p.1≠X.bX.locals/\p.1∉X.fs/\∀v,p.2.data≠.cell v
 fD:rP X.prog X.w H s.heap
 len:σ.length=X.N.length
section
variable {X:Cx} {pins:List (Addr×Obj)} {σ:List (Option V)} {H H':Hp} {s:Shared} {h':Heap}
theorem Cx.Ok.Wc (ok:X.Ok) {b:Addr} {o:Obj} (e:X.base.get? b=some o):b∉X.fs:=λhb=>by
 have:=(ok.xq.mem hb).1
 rw [e] at this;cases this
theorem cV.bs (I:cV X pins σ H s):∀b o,X.base.get? b=some o->s.heap.get? b=some o/\H b=none:=λb o e=>
 ⟨I.base.keep b o (I.ok.bs b o e).1 (I.ok.bs b o e).2 (I.ok.Wc e) (I.ok.Jv b o e),I.base.free b o (I.ok.bs b o e).1 (I.ok.bs b o e).2 (I.ok.Jv b o e)⟩
theorem cV.bk (I:cV X pins σ H s):∀b o,X.base.get? b=some o->s.heap.get? b=some o:=λb o e=>(I.bs b o e).1
theorem cV.AZ (I:cV X pins σ H s):Mod X.K X.mg X.base:=I.ok.AZ
theorem cV.Ei (I:cV X pins σ H s):X.K.In s.heap:=I.ok.AZ.Tj.keeps I.bk
theorem cV.lt (I:cV X pins σ H s):X.bX.locals< s.heap.objs.size:=let ⟨_,hn,_⟩:=I.Cy;hn.lt
theorem cV.sz (I:cV X pins σ H s):X.Aq.heap.objs.size<=s.heap.objs.size:=bg I.ok.above (dM I.lt)
theorem cV.WK (I:cV X pins σ H s) {a:Addr} (h:s.heap.objs.size<=a):a∉X.fs:=λhb=>by
 obtain ⟨_,o,ho,_⟩:=I.ok.xq.mem hb
 exact absurd (cb (bz ho) (bg I.sz h)) (eu _)
theorem cV.Ou (I:cV X pins σ H s):∀x c,X.bX.cells.lookup x=some c->c≠X.bX.locals:=λx c e z=>by
 obtain ⟨v,o,ho,hd⟩:=I.cell x c e
 obtain ⟨m,⟨o',es,ep,ho',hd',_⟩,_⟩:=I.Cy
 rw [z,ho'] at ho;cases ho;rw [hd'] at hd;cases hd
theorem cV.xq (I:cV X pins σ H s):s.heap.FunFrames X.base X.bE:=by
 have all:∀(l:List Env),(∀b∈J6 l,b∈X.fs)->X.Aq.heap.FunFrames X.base l->s.heap.FunFrames X.base l:=by
  intro l
  induction l with
  |nil=>intro _ _;trivial
  |cons bX r ih=>
   intro hs hl
   obtain ⟨hk,⟨L,o,hf,hn,ho,hd⟩,hr⟩:=hl
   have hL:L∈X.fs:=hs L (by unfold J6;rw [dG,hf];exact aP)
   obtain ⟨sl,e⟩:=I.base.slot L o ho (I.ok.Ow L hL) hL λz=>I.ok.JZ L z hL
   exact ⟨hk,⟨L,_,hf,hn,e,hd⟩,ih (λb hb=>hs b (by unfold J6;rw [dG,hf];exact aE _ hb)) hr⟩
 exact all X.bE (λ_ hb=>hb) I.ok.xq
theorem cV.lg (I:cV X pins σ H s):s.heap.FunFrames X.base X.lg:=by
 rcases I.ok.Vn with e|⟨e,hf⟩
 ·rw [e];exact I.xq
 ·rw [e]
  obtain ⟨m,hn,_⟩:=I.Cy
  refine .cons (by rw [I.ok.kind];decide) hf hn ?_ I.xq
  exact Heap.get?_none_of_le (bg I.ok.Lw I.ok.above)
theorem cV.E3 (I:cV X pins σ H s):∀b∈J6 X.lg,b∈X.bX.locals::X.fs:=λb hb=>by
 rcases I.ok.Vn with e|⟨e,hf⟩
 ·rw [e] at hb;exact aE _ hb
 ·rw [e] at hb
  unfold J6 at hb
  rw [dG,hf] at hb
  exact hb
theorem cV.Gw (I:cV X pins σ H s):∀b∈J6 X.lg,H b=none:=λb hb=>by
 rcases aX.mp (I.E3 b hb) with e|hb
 ·rw [e];exact I.free
 ·obtain ⟨_,o,ho,_⟩:=I.ok.xq.mem hb
  exact I.base.free b o ho (I.ok.Ow b hb) λz=>I.ok.JZ b z hb
theorem cV.step {g':Array GenState} {t':Nat} {d':Drawn} {ch:List Addr} (I:cV X pins σ H s)
  (hch:∀b∈ch,(b∈X.ex\/X.Aq.heap.objs.size<=b)/\b≠X.bX.locals/\(∀x c,X.bX.cells.lookup x=some c->c≠b)/\∀p∈X.pn++pins,p.1≠b)
  (keep:∀b o,b≠X.bX.locals->b∉X.fs->b∉ch->s.heap.get? b=some o->H b=none->h'.get? b=some o)
  (slot:∀b o,b≠X.bX.locals->b∈X.fs->b∉ch->s.heap.get? b=some o->H b=none->∃sl,h'.get? b=some {o with slots:=sl}) (free:∀b o,b∉ch->s.heap.get? b=some o->H b=none->H' b=none)
  (there:∀b o,b∉ch->s.heap.get? b=some o->∃o',h'.get? b=some o')
  (zH:∀b xs,H b=some (.dC xs)->H' b=some (.dC xs)) (BN:∀b o u,H b=some (.BP o u)->H' b=some (.BP o u)) (DD:∀b ps,H b=some (.Oo ps)->∃more,H' b=some (.Oo (ps++more)))
  (ns:∀m,s.heap.Ns X.bX.locals m->h'.Ns X.bX.locals m) (fD:rP X.prog X.w H' h') (hg:AllBare g'):
  cV X pins σ H' {s with heap:=h',gens:=g',drawn:=d',toks:=t'}:=by
 have neL:∀b o,X.Aq.heap.get? b=some o->b≠X.bX.locals:=λb o e=>bO (cb (bz e) I.ok.above)
 have neC:∀b o,X.Aq.heap.get? b=some o->b∉X.ex->b∉ch:=λb o e hx hb=>by
  rcases (hch b hb).1 with z|z
  ·exact hx z
  ·exact absurd (cb (bz e) z) (eu _)
 have cellK:∀x c,X.bX.cells.lookup x=some c->∀v,s.heap.IsCell c v->h'.IsCell c v:=λx c e v ⟨o,ho,hd⟩=>by
  have nch:c∉ch:=λz=>(hch c z).2.2.1 x c e rfl
  by_cases hc:c∈X.fs
  ·obtain ⟨sl,q⟩:=slot c o (I.Ou x c e) hc nch ho (I.qZ x c e)
   exact ⟨_,q,hd⟩
  ·exact ⟨o,keep c o (I.Ou x c e) hc nch ho (I.qZ x c e),hd⟩
 refine ⟨I.ok,I.os,hg,⟨λb o e n hb hx=> ?_,λb o e n hb hx=> ?_,λb o e n hx=> ?_,λb o e hx=> ?_,λb xs e=>zH b xs (I.base.zH b xs e),λb o xs e=>BN b o xs (I.base.BN b o xs e),λb ps e=> ?_⟩,?_,λx c e=> ?_,?_,λx c e=> ?_,λp hp=> ?_,fD,I.len⟩
 ·exact keep b o (neL b o e) hb (neC b o e hx) (I.base.keep b o e n hb hx) (I.base.free b o e n hx)
 ·obtain ⟨sl,e1⟩:=I.base.slot b o e n hb hx
  obtain ⟨sl',e2⟩:=slot b _ (neL b o e) hb (neC b o e hx) e1 (I.base.free b o e n hx)
  exact ⟨sl',e2⟩
 ·obtain ⟨o',e1⟩:=I.base.there b o e hx
  exact free b o' (neC b o e hx) e1 (I.base.free b o e n hx)
 ·obtain ⟨o',e1⟩:=I.base.there b o e hx
  exact there b o' (neC b o e hx) e1
 ·obtain ⟨m1,e1⟩:=I.base.DD b ps e
  obtain ⟨m2,e2⟩:=DD b _ e1
  exact ⟨m1++m2,by rw [e2,Array.append_assoc]⟩
 ·obtain ⟨m,hn,hl⟩:=I.Cy
  refine ⟨m,ns m hn,λi x v e1 e2 e3=> ?_⟩
  obtain ⟨u,r,l⟩:=hl i x v e1 e2 e3
  refine ⟨u,r,?_⟩
  rcases l with l|⟨k,c,e,z⟩
  ·exact .inl l
  ·exact .inr ⟨k,c,e,cellK x c e _ z⟩
 ·obtain ⟨v,z⟩:=I.cell x c e
  exact ⟨v,cellK x c e v z⟩
 ·obtain ⟨m,⟨o,_,_,ho,_⟩,_⟩:=I.Cy
  exact free _ o (λz=>(hch _ z).2.1 rfl) ho I.free
 ·obtain ⟨v,o,ho,hd⟩:=I.cell x c e
  exact free c o (λz=>(hch c z).2.2.1 x c e rfl) ho (I.qZ x c e)
 ·obtain ⟨e,n,ne,nf,d⟩:=I.F9 p hp
  have nch:p.1∉ch:=λz=>(hch p.1 z).2.2.2 p hp rfl
  exact ⟨keep p.1 p.2 ne nf nch e n,free p.1 p.2 nch e n,ne,nf,d⟩
theorem cV.un {t':Nat} (I:cV X pins σ H s) (u:Un X.fs [] H H' s.heap h') (fD:rP X.prog X.w H' h'):cV X pins σ H' {s with heap:=h',toks:=t'}:=by
 obtain ⟨m,⟨o,es,ep,ho,r⟩,_⟩:=id I.Cy
 obtain ⟨sl,hL⟩:=u.any ho I.free (by simp)
 exact I.step (g':=s.gens) (d':=s.drawn) (ch:=[]) (λ_ z=>nomatch z) (λb o _ hb _ e n=>u.keep b o e n hb (by simp)) (λb o _ hb _ e n=>u.slot b o e n hb (by simp)) (λb o _ e n=>u.free b o e n (by simp)) (λb o _ e=>u.there b o e (by simp)) u.zH u.BN u.DD (λm' hm=>by
  obtain ⟨o',es',ep',ho',r'⟩:=hm
  rw [ho] at ho';cases ho'
  exact ⟨_,es',ep',hL,r'⟩) fD I.bare
theorem cV.call {g':Array GenState} {t':Nat} {d':Drawn} {ch:List Addr} (I:cV X pins σ H s) (u:Un (J6 X.lg) ch H H' s.heap h') (fD:rP X.prog X.w H' h') (hg:AllBare g')
  (hch:∀b∈ch,(b∈X.ex\/X.Aq.heap.objs.size<=b)/\b≠X.bX.locals/\(∀x c,X.bX.cells.lookup x=some c->c≠b)/\∀p∈X.pn++pins,p.1≠b):
  cV X pins σ H' {s with heap:=h',gens:=g',drawn:=d',toks:=t'}:=by
 obtain ⟨m,⟨o,es,ep,ho,r⟩,_⟩:=id I.Cy
 obtain ⟨sl,hL⟩:=u.any ho I.free λz=>(hch _ z).2.1 rfl
 exact I.step (ch:=ch) hch (λb o hL hb hc e n=>u.keep b o e n (λz=>(aX.mp (I.E3 b z)).elim hL hb) hc) (λb o _ _ hc e n=>u.any e n hc) (λb o hc e n=>u.free b o e n hc) (λb o hc e=>u.there b o e hc) u.zH u.BN u.DD (λm' hm=>by
  obtain ⟨o',es',ep',ho',r'⟩:=hm
  rw [ho] at ho';cases ho'
  exact ⟨_,es',ep',hL,r'⟩) fD hg
theorem cV.o5 {t':Nat} {it:Addr} (I:cV X pins σ H s) (k:∀b o,b≠it->s.heap.get? b=some o->h'.get? b=some o) (hn:H it=none) (hL:it≠X.bX.locals)
  (h1:it∈X.ex\/X.Aq.heap.objs.size<=it) (h2:∀x c,X.bX.cells.lookup x=some c->c≠it) (h3:∀p∈X.pn++pins,p.1≠it):cV X pins σ H {s with heap:=h',toks:=t'}:=by
 have nit:∀b u,H b=some u->b≠it:=λb u e z=>by rw [z,hn] at e;cases e
 refine I.step (g':=s.gens) (d':=s.drawn) (ch:=[it]) (λb hb=> ?_) (λb o _ _ hc e _=>k b o (λz=>hc (by simp [z])) e) (λb o _ _ hc e _=>⟨o.slots,k b o (λz=>hc (by simp [z])) e⟩) (λ_ _ _ _ n=>n)
  (λb o hc e=>⟨o,k b o (λz=>hc (by simp [z])) e⟩) (λ_ _ e=>e) (λ_ _ _ e=>e) (λb ps e=>⟨#[],by rw [e];simp⟩) (λm hm=> ?_) (λb u e=> ?_) I.bare
 ·have e:b=it:=by simpa using hb
  subst e
  exact ⟨h1,hL,h2,h3⟩
 ·obtain ⟨o,es,ep,ho,r⟩:=hm
  exact ⟨o,es,ep,k _ o (aY hL) ho,r⟩
 ·refine (I.fD b u e).ir (λc v hc q=>k c v ?_ q) (λ_ q=>q) λ_ _ q=>q
  rcases hc with z|z
  ·rw [z];exact nit b u e
  ·exact nit c _ z
theorem cV.uR (I:cV X pins σ H s) (t:Nat):cV X pins σ H {s with toks:=t}:=I.un (h':=s.heap) (t':=t) Un.refl I.fD
theorem cV.k0 {t':Nat} (I:cV X pins σ H s) (k:∀b u,s.heap.get? b=some u->h'.get? b=some u):cV X pins σ H {s with heap:=h',toks:=t'}:=I.un (Un.k0 k) (I.fD.k0 k)
theorem cV.laid {a:Addr} {o:HO} {t':Nat} (I:cV X pins σ H s) (k:∀b u,s.heap.get? b=some u->h'.get? b=some u) (hp:s.heap.objs.size<=a) (new:g8 X.prog X.w (bG H a o) h' a o):
  cV X pins σ (bG H a o) {s with heap:=h',toks:=t'}:=I.un (Un.laid k hp (I.fD.fresh hp)) (I.fD.laid k hp new)
theorem cV.vw {x e:Addr} {o:HO} {t':Nat} (I:cV X pins σ H s) (mu:RS (H x)) (he:e=x\/H e=some (.iU x)) (k:∀b u,b≠e->s.heap.get? b=some u->h'.get? b=some u) (heo:∃u,h'.get? e=some u)
  (new:g8 X.prog X.w (bG H x o) h' x o):cV X pins σ (bG H x o) {s with heap:=h',toks:=t'}:=I.un (Un.vw mu he k heo) (I.fD.vw mu he k heo new)
theorem cV.WL {σ':List (Option V)} (I:cV X pins σ H s) (hl:σ'.length=σ.length) (w:∀(i:Nat) v,σ'[i]? =some (some v)->σ[i]? =some (some v)):cV X pins σ' H s:=
 ⟨I.ok,I.os,I.bare,I.base,let ⟨m,hn,hl'⟩:=I.Cy;⟨m,hn,λi x v e1 e2 e3=>hl' i x v e1 (w i v e2) e3⟩,I.cell,I.free,I.qZ,I.F9,I.fD,hl.trans I.len⟩
theorem cV.FW {pins':List (Addr×Obj)} (I:cV X pins σ H s) (h:∀p∈pins',s.heap.get? p.1=some p.2/\H p.1=none/\p.1≠X.bX.locals/\p.1∉X.fs/\∀v,p.2.data≠.cell v):cV X pins' σ H s:=
 ⟨I.ok,I.os,I.bare,I.base,I.Cy,I.cell,I.free,I.qZ,λp hp=>(aI.mp hp).elim (λz=>I.F9 p (br _ z)) (h p),I.fD,I.len⟩
theorem yG {N:List Str} (hN:N.Nodup) {i j:Nat} {x:Str} (a:N[i]? =some x) (b:N[j]? =some x):i=j:=by
 obtain ⟨h1,e1⟩:=ae.mp a
 obtain ⟨h2,e2⟩:=ae.mp b
 exact (List.getElem_inj hN).mp (e1.trans e2.symm)
theorem zL {M:Model} {A:Around} {E:Value->Shared->Prop} {i:Nat} {x:Str} {v:V} {u:Value} {Q:Unit->Shared->Prop} (I:cV X pins σ H s) (hN:X.N.Nodup) (hi:X.N[i]? =some x) (hx:RI X.bX.scope x) (r:dP v u)
  (h:∀s',cV X pins (σ.set i (some v)) H s'->(∃a,Heap.SameBut a s.heap s'.heap/\(a=X.bX.locals\/X.bX.cells.lookup x=some a))->Q () s') (hf:X.fn x=true\/X.bX.scope.names.lookup x=some .local:=by first|exact .inl rfl|exact .inr rfl|assumption):wpAny M A (storeName X.bX x u) Q E s:=by
 obtain ⟨m,hn,hl⟩:=id I.Cy
 have hcls:(X.bX.scope.kind== .class||(X.bX.scope.kind== .module&&X.bX.locals !=X.bX.globals))=false:=by rw [I.ok.kind];rfl
 have hiσ:i< σ.length:=by rw [I.len];exact (ae.mp hi).1
 have Ou:=I.Ou
 have tracked:∀{a:Addr} {h':Heap},(∃o,s.heap.get? a=some o/\H a=none)->Heap.SameBut a s.heap h'->rP X.prog X.w H h':=λ{a h'} ha hs b ob e=>by
  obtain ⟨_,_,hfree⟩:=ha
  refine (I.fD b ob e).ir (λc w' hc q=>(hs.2 c ?_).trans q) (λ_ q=>q) λ_ _ q=>q
  rintro rfl
  rcases hc with rfl|hc
  ·rw [hfree] at e;cases e
  ·rw [hfree] at hc;cases hc
 rcases hx with hk|hk
 ·refine wpAny_storeName_local hk hn (λh' hn' hs=> ?_) hcls
  obtain ⟨oL,_,_,hoL,_⟩:=id hn
  refine h _ ⟨I.ok,I.os,I.bare,⟨λb o e n hb hx=> ?_,λb o e n hb hx=> ?_,I.base.free,λb o e hx=> ?_,I.base.zH,I.base.BN,I.base.DD⟩,⟨_,hn',λj y v' e1 e2 e3=> ?_⟩,λy c e=> ?_,I.free,I.qZ,λp hp=> ?_,tracked ⟨oL,hoL,I.free⟩ hs,by simpa using I.len⟩ ⟨_,hs,.inl rfl⟩
  ·exact (hs.2 b (bO (cb (bz e) I.ok.above))).trans (I.base.keep b o e n hb hx)
  ·obtain ⟨sl,e1⟩:=I.base.slot b o e n hb hx
   exact ⟨sl,(hs.2 b (bO (cb (bz e) I.ok.above))).trans e1⟩
  ·obtain ⟨o',e1⟩:=I.base.there b o e hx
   exact ⟨o',(hs.2 b (bO (cb (bz e) I.ok.above))).trans e1⟩
  ·by_cases hj:j=i
   ·subst hj
    rw [hi] at e1;cases e1
    rw [cI hiσ] at e2
    cases e2
    exact ⟨u,r,.inl ⟨hk,by simp⟩⟩
   ·rw [cO (aY hj)] at e2
    obtain ⟨u',r',q⟩:=hl j y v' e1 e2 e3
    refine ⟨u',r',?_⟩
    rcases q with ⟨k,e⟩|⟨k,c,e,z⟩
    ·refine .inl ⟨k,?_⟩
     have:y≠x:=λe=>hj (yG hN e1 (e▸hi))
     simp [this,e]
    ·exact .inr ⟨k,c,e,z.sameBut hs (Ou y c e)⟩
  ·obtain ⟨w',z⟩:=I.cell y c e
   exact ⟨w',z.sameBut hs (Ou y c e)⟩
  ·obtain ⟨e,n,ne,nf,d⟩:=I.F9 p hp
   exact ⟨(hs.2 p.1 ne).trans e,n,ne,nf,d⟩
 ·have hfn:X.fn x=true:=by
   rcases hf with z|z
   ·exact z
   ·rw [z] at hk;cases hk
  obtain ⟨c,hc⟩:=I.ok.has x (.inl hk)
  obtain ⟨w',z⟩:=I.cell x c hc
  refine wpAny_storeName_cell I.ok.kind hk hc z (λh' hc' hs=> ?_)
  obtain ⟨oc,hoc,hocd⟩:=id z
  refine h {s with heap:=h'} ⟨I.ok,I.os,I.bare,⟨λb o e n hb hx=> ?_,λb o e n hb hx=> ?_,I.base.free,λb o e hx=> ?_,I.base.zH,I.base.BN,I.base.DD⟩,⟨m,hn.sameBut hs (aY (Ou x c hc)),λj y v' e1 e2 e3=> ?_⟩,λy c' e=> ?_,I.free,I.qZ,λp hp=> ?_,tracked ⟨oc,hoc,I.qZ x c hc⟩ hs,by simpa using I.len⟩ ⟨c,hs,.inr hc⟩
  ·exact (hs.2 b (bO (cb (bz e) (I.ok.Tg x c hfn hc)))).trans (I.base.keep b o e n hb hx)
  ·obtain ⟨sl,e1⟩:=I.base.slot b o e n hb hx
   exact ⟨sl,(hs.2 b (bO (cb (bz e) (I.ok.Tg x c hfn hc)))).trans e1⟩
  ·obtain ⟨o',e1⟩:=I.base.there b o e hx
   exact ⟨o',(hs.2 b (bO (cb (bz e) (I.ok.Tg x c hfn hc)))).trans e1⟩
  ·by_cases hj:j=i
   ·subst hj
    rw [hi] at e1;cases e1
    rw [cI hiσ] at e2
    cases e2
    exact ⟨u,r,.inr ⟨.inl hk,c,hc,hc'⟩⟩
   ·rw [cO (aY hj)] at e2
    obtain ⟨u',r',q⟩:=hl j y v' e1 e2 e3
    refine ⟨u',r',?_⟩
    rcases q with q|⟨k,c',e,z'⟩
    ·exact .inl q
    ·refine .inr ⟨k,c',e,z'.sameBut hs ?_⟩
     rintro rfl
     exact hj (yG hN e1 (I.ok.inj _ _ _ e hc▸hi))
  ·by_cases hcc:c'=c
   ·subst hcc;exact ⟨_,hc'⟩
   ·obtain ⟨w2,z2⟩:=I.cell y c' e
    exact ⟨w2,z2.sameBut hs hcc⟩
  ·obtain ⟨e,n,ne,nf,d⟩:=I.F9 p hp
   refine ⟨(hs.2 p.1 ?_).trans e,n,ne,nf,d⟩
   intro q
   rw [q,hoc] at e
   have q':oc=p.2:=Option.some.inj e
   exact d w' (by rw [<-q'];exact hocd)
theorem yX {M:Model} {A:Around} {E:Value->Shared->Prop} {i:Nat} {x:Str} {v:V} {u:Value} {Q:Unit->Shared->Prop} (I:cV X pins σ H s) (hN:X.N.Nodup) (hi:X.N[i]? =some x) (hx:RI X.bX.scope x) (r:dP v u)
  (h:∀s',cV X pins (σ.set i (some v)) H s'->Q () s') (hf:X.fn x=true\/X.bX.scope.names.lookup x=some .local:=by first|exact .inl rfl|exact .inr rfl|assumption):wpAny M A (storeName X.bX x u) Q E s:=
 zL I hN hi hx r (λs' I' _=>h s' I') hf
theorem cV.RL {s':Shared} {ch:List Addr} (I:cV X pins σ H s) (ho:s'.os=s.os) (u:Un (J6 X.lg) ch H H' s.heap s'.heap) (fD:rP X.prog X.w H' s'.heap) (hg:AllBare s'.gens)
  (hch:∀b∈ch,(b∈X.ex\/X.Aq.heap.objs.size<=b)/\b≠X.bX.locals/\(∀x c,X.bX.cells.lookup x=some c->c≠b)/\∀p∈X.pn++pins,p.1≠b):cV X pins σ H' s':=by
 obtain ⟨h',g',d',t',o'⟩:=s'
 have e:o'=s.os:=ho
 subst e
 exact I.call (g':=g') (t':=t') (d':=d') u fD hg hch
end
abbrev XK:=Value->Option Addr->Hp->Prop
abbrev St:=List (Option V)
abbrev VK:=V->Hp->Prop
abbrev TE:=St->Hp->VK->Prop
abbrev TT:=St->Hp->(Bool->Hp->Prop)->Prop
abbrev TA:=St->Hp->(List V->Hp->Prop)->Prop
structure Bc where
 nx:St->Hp->Prop
 rt:VK
 bk:St->Hp->Prop:=λ_ _=>False
 ct:St->Hp->Prop:=λ_ _=>False
abbrev TS:=Bc->St->Hp->Prop
def EP (X:Cx) (pins:List (Addr×Obj)) (σ:St) (Q:VK) (u:Value) (s':Shared):Prop:=∃v H',cV X pins σ H' s'/\dP v u/\Q v H'
def TP (X:Cx) (pins:List (Addr×Obj)) (σ:St) (Q:Bool->Hp->Prop) (b:Bool) (s':Shared):Prop:=∃H',cV X pins σ H' s'/\Q b H'
def AP (X:Cx) (pins:List (Addr×Obj)) (σ:St) (Q:List V->Hp->Prop) (us:List Value) (s':Shared):Prop:=∃vs H',cV X pins σ H' s'/\c7 vs us/\Q vs H'
def SP (X:Cx) (pins:List (Addr×Obj)) (D:Bc) (f:Flow) (s':Shared):Prop:=
 match f with
 | .next=>∃σ' H',cV X pins σ' H' s'/\D.nx σ' H'
 | .brk=>∃σ' H',cV X pins σ' H' s'/\D.bk σ' H'
 | .cont=>∃σ' H',cV X pins σ' H' s'/\D.ct σ' H'
 | .ret u=>∃v σ' H',cV X pins σ' H' s'/\dP v u/\D.rt v H'
def PE (X:Cx) (e:Expr) (t:TE):Prop:=
 ∀(pins:List (Addr×Obj)) (s:Shared) (σ:St) (H:Hp) (Q:VK),cV X pins σ H s->t σ H Q->wpAny (model X.prog X.w) X.A (eval e X.bX) (EP X pins σ Q) X.xe s
def PT (X:Cx) (e:Expr) (t:TT):Prop:=
 ∀(pins:List (Addr×Obj)) (s:Shared) (σ:St) (H:Hp) (Q:Bool->Hp->Prop),cV X pins σ H s->t σ H Q->wpAny (model X.prog X.w) X.A (isTrue e X.bX (eval e X.bX)) (TP X pins σ Q) X.xe s
def PW (X:Cx) (e:Expr) (t:TT):Prop:=
 ∀(whole:Sem Value) (pins:List (Addr×Obj)) (s:Shared) (σ:St) (H:Hp) (Q:Bool->Hp->Prop),cV X pins σ H s->t σ H Q->wpAny (model X.prog X.w) X.A (isTrue e X.bX whole) (TP X pins σ Q) X.xe s
theorem PW.pt {X:Cx} {e:Expr} {t:TT} (h:PW X e t):PT X e t:=h _
def PA (X:Cx) (es:List Expr) (t:TA):Prop:=
 ∀(pos:Pos) (pins:List (Addr×Obj)) (s:Shared) (σ:St) (H:Hp) (Q:List V->Hp->Prop),cV X pins σ H s->t σ H Q->wpAny (model X.prog X.w) X.A (spliced (backTo pos (starEach es X.bX))) (AP X pins σ Q) X.xe s
def PS (X:Cx) (st:Stmt) (t:TS):Prop:=
 ∀(pins:List (Addr×Obj)) (s:Shared) (σ:St) (H:Hp) (D:Bc),cV X pins σ H s->t D σ H->wpAny (model X.prog X.w) X.A (exec st X.bX) (SP X pins D) X.xe s
def Hs (X:Cx) (st:List Stmt) (t:TS):Prop:=
 ∀(pins:List (Addr×Obj)) (s:Shared) (σ:St) (H:Hp) (D:Bc),cV X pins σ H s->t D σ H->wpAny (model X.prog X.w) X.A (execs st X.bX) (SP X pins D) X.xe s
theorem gU {α:Type} {t:Sem α} {Q Q':α->Shared->Prop} {M:Model} {A:Around} {E:Value->Shared->Prop} {s:Shared} (h:wpAny M A t Q E s) (hQ:∀a s,Q a s->Q' a s):wpAny M A t Q' E s:=fi h hQ λ_ _ x=>x
end L2
namespace L2
open PySem PySem.Spec PyProof.Rows
section
variable {X:Cx}
def S6 (i:Nat):TE:=fun σ H Q=>∃v,σ[i]? =some (some v)/\Q v H
def tC (v:V):TE:=λ_ H Q=>Q v H
theorem O0 {i:Nat} {x:Str} {pos:Pos} (hN:X.N[i]? =some x) (hv:P6 X.bX.scope x) (hd:(x==("__debug__":Str))=false:=by decide) (hcd:(x==("__classdict__":Str))=false:=by decide):PE X (.Name x pos) (S6 i):=by
 intro pins s σ H Q I h
 obtain ⟨v,e,h⟩:=h
 obtain ⟨m,hn,hl⟩:=I.Cy
 obtain ⟨u,r,l⟩:=hl i x v hN e hv
 have fin:EP X pins σ Q u s:=⟨v,H,I,r,h⟩
 rcases l with ⟨hk,hm⟩|⟨hk,c,hc,hcell⟩
 ·exact wpAny_Name (wpAny_loadName_local I.ok.kind hk hn hm fin) hd
 ·rcases hk with hk|hk
  ·exact wpAny_Name (wpAny_loadName_cell I.ok.kind hk hc hcell fin) hd
  ·exact wpAny_Name (wpAny_loadName_free I.ok.kind hk hc hcell fin hcd) hd
theorem bc {i j pos}:PE X (.Constant (.int i) j pos) (tC (.int i)):=λ_ _ _ H _ I h=>wpAny_Constant_int ⟨.int i,H,I.uR _,⟨_,rfl⟩,h⟩
theorem sC {b j pos}:PE X (.Constant (.bool b) j pos) (tC (.bl b)):=λ_ _ _ H _ I h=>Constant_bool ⟨.bl b,H,I,rfl,h⟩
def Gl (X:Cx) (x:Str):Prop:=X.bX.kindOf x=some .globalImplicit
theorem xP {E:Value->Shared->Prop} {pins:List (Addr×Obj)} {s:Shared} {σ:St} {H:Hp} {x:Str} {u:Value} {pos:Pos} {Q:Value->Shared->Prop} (I:cV X pins σ H s) (hg:Gl X x) (hm:X.mg x=some u) (h:Q u s)
  (hd:(x==("__debug__":Str))=false:=by decide):wpAny (model X.prog X.w) X.A (eval (.Name x pos) X.bX) Q E s:=
 m5 I.ok.kind hg (Calls.loadGlobal_global (by rw [I.ok.BS];exact I.AZ.BS.keeps I.bk) hm h) hd
theorem ze {E:Value->Shared->Prop} {pins:List (Addr×Obj)} {s:Shared} {σ:St} {H:Hp} {x:Str} {u:Value} {pos:Pos} {Q:Value->Shared->Prop} (I:cV X pins σ H s) (hg:Gl X x) (hm:X.mg x=none) (hv:bootBuiltins x=some u) (h:Q u s)
  (hn:x≠"__name__":=by decide) (hd:(x==("__debug__":Str))=false:=by decide):wpAny (model X.prog X.w) X.A (eval (.Name x pos) X.bX) Q E s:=by
 obtain ⟨mb,h1,h2⟩:=I.AZ.blt
 exact m5 I.ok.kind hg (Calls.loadGlobal_builtin (by rw [I.ok.BS];exact I.AZ.BS.keeps I.bk) hm (by rw [I.ok.blt];exact h1.keeps I.bk) ((h2 x hn).trans hv) h) hd
theorem LY {x:Str} {v:V} {u:Value} {pos:Pos} (hg:Gl X x) (hm:X.mg x=some u) (r:dP v u) (hd:(x==("__debug__":Str))=false:=by decide):PE X (.Name x pos) (tC v):=
 λ_ _ _ H _ I h=>xP I hg hm ⟨v,H,I,r,h⟩ hd
variable {a b:Expr} {ta tb:TE} {pos:Pos}
def PC (X:Cx) (op:CmpOp) (a b:Expr) (t:TE):Prop:=
 ∀(pins:List (Addr×Obj)) (s:Shared) (σ:St) (H:Hp) (Q:VK),cV X pins σ H s->t σ H Q->
  wpAny (model X.prog X.w) X.A (eval a X.bX) (λv s₁=>wpAny (model X.prog X.w) X.A (eval b X.bX) (λu s₂=>wpAny (model X.prog X.w) X.A (compareOp op v u) (EP X pins σ Q) X.xe s₂) X.xe s₁) X.xe s
def tB (t:TE):TT:=fun σ H Q=>t σ H λx H1=>∃c,x= .bl c/\Q c H1
theorem Kq {op:CmpOp} {t:TE} (h:PC X op a b t) (h1:behindInMarks op b=false:=by first|exact nobehind _ (by decide) (by decide)|rfl):PT X (.Compare a [op] [b] pos) (tB t):=by
 intro pins s σ H Q I hw
 refine wpAny_isTrue_Compare1 (gU (h pins s σ H _ I hw) λv s1 h1=>gU h1 λu s2 h2=>gU h2 λc s3 ⟨x,H1,I1,r1,q1⟩=> ?_) h1
 obtain ⟨d,rfl,q⟩:=q1
 cases r1
 exact eU ⟨H1,I1,q⟩
theorem iP {e:Expr} {t:TE} (h:PE X e t) (he:∀whole,isTrue e X.bX whole=(do let v <-whole;standAt e.pos;holding [v] (truthy v)):=by intro _;rfl):PT X e (tB t):=by
 intro pins s σ H Q I hw
 refine isTrue_plain (gU (h pins s σ H _ I hw) λv s1 ⟨x,H1,I1,r1,q1⟩=> ?_) (he _)
 obtain ⟨d,rfl,q⟩:=q1
 cases r1
 exact eU ⟨H1,I1,q⟩
variable {tA tB':TT} {jv:List Expr}
def WG (t u:TT):TT:=fun σ H Q=>t σ H λc H1=>if c=true then u σ H1 Q else Q false H1
def Y8 (t u:TT):TT:=fun σ H Q=>t σ H λc H1=>if c=true then Q true H1 else u σ H1 Q
def V5 (t:TT):TT:=fun σ H Q=>t σ H λc H1=>Q (!c) H1
theorem tw (ha:PT X a tA):PW X (.BoolOp .And [a] pos) tA:=by
 intro wh pins s σ H Q I h
 refine isTrue_and (gU (ha pins s σ H Q I h) λc s1 e=> ?_)
 cases c with
 |true=>exact isTrue_and_nil e
 |false=>exact e
theorem wo (ha:PT X a tA):PW X (.BoolOp .Or [a] pos) tA:=by
 intro wh pins s σ H Q I h
 refine isTrue_or (gU (ha pins s σ H Q I h) λc s1 e=> ?_)
 cases c with
 |false=>exact isTrue_or_nil e
 |true=>exact e
theorem wj (ha:PT X a tA) (hb:PW X (.BoolOp .And (b::jv) pos) tB'):PW X (.BoolOp .And (a::b::jv) pos) (WG tA tB'):=by
 intro wh pins s σ H Q I h
 refine isTrue_and (gU (ha pins s σ H _ I h) λc s1 ⟨H1,I1,q1⟩=> ?_)
 cases c with
 |true=>exact hb wh pins s1 σ H1 Q I1 q1
 |false=>exact ⟨H1,I1,q1⟩
theorem tY (ha:PT X a tA) (hb:PW X (.BoolOp .Or (b::jv) pos) tB'):PW X (.BoolOp .Or (a::b::jv) pos) (Y8 tA tB'):=by
 intro wh pins s σ H Q I h
 refine isTrue_or (gU (ha pins s σ H _ I h) λc s1 ⟨H1,I1,q1⟩=> ?_)
 cases c with
 |true=>exact ⟨H1,I1,q1⟩
 |false=>exact hb wh pins s1 σ H1 Q I1 q1
theorem uv (ha:PT X a tA):PT X (.UnaryOp .Not a pos) (V5 tA):=by
 intro pins s σ H Q I h
 exact isTrue_not (ha pins s σ H (λc H1=>Q (!c) H1) I h)
def S8 (ta tb:TE):TE:=fun σ H Q=>ta σ H λx H1=>∃c,x= .bl c/\if c=true then tb σ H1 Q else Q (.bl false) H1
def VY (ta tb:TE):TE:=fun σ H Q=>ta σ H λx H1=>∃c,x= .bl c/\if c=true then Q (.bl true) H1 else tb σ H1 Q
def S7 (ta:TE):TE:=fun σ H Q=>ta σ H λx H1=>∃c,x= .bl c/\Q (.bl (!c)) H1
theorem E7 {op} {t:TE} (h:PE X a t):PE X (.BoolOp op [a] pos) t:=λpins s σ H Q I hw=>BoolOp_one (h pins s σ H Q I hw)
theorem OE (ha:PE X a ta) (hb:PE X (.BoolOp .And (b::jv) pos) tb):PE X (.BoolOp .And (a::b::jv) pos) (S8 ta tb):=by
 intro pins s σ H Q I h
 refine BoolOp_and (gU (ha pins s σ H _ I h) λv s1 ⟨x,H1,I1,r1,q1⟩=> ?_)
 obtain ⟨c,rfl,q1⟩:=q1
 cases r1
 refine eU ?_
 cases c with
 |true=>exact hb pins s1 σ H1 Q I1 q1
 |false=>exact ⟨.bl false,H1,I1,rfl,q1⟩
theorem MX (ha:PE X a ta) (hb:PE X (.BoolOp .Or (b::jv) pos) tb):PE X (.BoolOp .Or (a::b::jv) pos) (VY ta tb):=by
 intro pins s σ H Q I h
 refine BoolOp_or (gU (ha pins s σ H _ I h) λv s1 ⟨x,H1,I1,r1,q1⟩=> ?_)
 obtain ⟨c,rfl,q1⟩:=q1
 cases r1
 refine eU ?_
 cases c with
 |false=>exact hb pins s1 σ H1 Q I1 q1
 |true=>exact ⟨.bl true,H1,I1,rfl,q1⟩
theorem OA (ha:PE X a ta):PE X (.UnaryOp .Not a pos) (S7 ta):=by
 intro pins s σ H Q I h
 refine UnaryOp_ (gU (ha pins s σ H _ I h) λv s1 ⟨x,H1,I1,r1,q1⟩=> ?_)
 obtain ⟨c,rfl,q1⟩:=q1
 cases r1
 exact not_of (eU ⟨.bl (!c),H1,I1,rfl,q1⟩)
def Zc (t:TT) (ta tb:TE):TE:=fun σ H Q=>t σ H λc H1=>if c=true then ta σ H1 Q else tb σ H1 Q
theorem vC {c:Expr} (hc:PT X c tA) (ha:PE X a ta) (hb:PE X b tb):PE X (.IfExp c a b pos) (Zc tA ta tb):=by
 intro pins s σ H Q I h
 refine wpAny_IfExp (gU (hc pins s σ H _ I h) λd s1 ⟨H1,I1,q1⟩=> ?_)
 cases d with
 |true=>exact ha pins s1 σ H1 Q I1 q1
 |false=>exact hb pins s1 σ H1 Q I1 q1
end
end L2
namespace L2
open PySem PySem.Spec PyProof.Rows
def cE (K:PySem.W.Frag) (H:Hp) (a:Addr) (xs:List V):Prop:=
 Rd H a (.a6 xs)\/
  ∃(o:Obj) (its:Array Value) (n:Nat),K.lookup a=some o/\o.cls= .type "list"/\o.dict=none/\o.data= .seq its n/\its.size<=sizeLine/\c7 xs its.toList
def kY (K:PySem.W.Frag) (H:Hp) (a:Addr) (xs:List V):Prop:=
 Rd H a (.dC xs)\/
  ∃(o:Obj) (its:Array Value) (n:Nat),K.lookup a=some o/\o.cls= .type "tuple"/\o.data= .seq its n/\its.size<=sizeLine/\c7 xs its.toList
def We:Value->Option V
 | .none=>some .ll
 | .bool b=>some (.bl b)
 | .int i _=>some (.int i)
 | .str x _=>some (.str x)
 | .bytes b _=>some (.Cg b)
 | .float b _=>some (.flt b)
 | .ref a=>some (.ref a)
 | .type n=>some (.ty n)
 |_=>none
theorem dP.Ym {x:V} {u:Value} (r:dP x u):We u=some x:=by
 cases x with
 |ll=>cases r;rfl
 |bl _=>cases r;rfl
 |int _=>obtain ⟨t,rfl⟩:=r;rfl
 |str _=>obtain ⟨t,rfl⟩:=r;rfl
 |Cg _=>obtain ⟨t,rfl⟩:=r;rfl
 |flt _=>obtain ⟨t,rfl⟩:=r;rfl
 |ref _=>cases r;rfl
 |ty _=>cases r;rfl
theorem dP.inj {x y:V} {u:Value} (r:dP x u) (q:dP y u):x=y:=Option.some.inj (r.Ym.symm.trans q.Ym)
theorem c7.inj:∀{xs ys:List V} {us:List Value},c7 xs us->c7 ys us->xs=ys
 |_,_,_,.nil,.nil=>rfl
 |_,_,_,.cons r t,.cons r' t'=>by rw [r.inj r',c7.inj t t']
section
variable {X:Cx} {pins:List (Addr×Obj)} {σ:St} {H:Hp} {s:Shared} {a:Addr} {xs ys:List V}
theorem cE.of {K:PySem.W.Frag} (h:H a=some (.a6 xs)):cE K H a xs:= .inl (.inl h)
theorem kY.of {K:PySem.W.Frag} (h:H a=some (.dC xs)):kY K H a xs:= .inl (.inl h)
theorem cV.list (I:cV X pins σ H s) (h:cE X.K H a xs):∃its:List Value,c7 xs its/\PlainL s.heap a its.toArray/\xs.length<=sizeLine:=by
 rcases h with h|⟨o,its,n,hk,hc,hd,hs,hz,r⟩
 ·obtain ⟨z,its,n,r,e⟩:=h.ok I.fD
  exact ⟨its,r,⟨_,n,e,rfl,rfl,rfl⟩,z⟩
 ·refine ⟨its.toList,r,⟨o,n,I.Ei a o hk,hc,hd,by simpa using hs⟩,?_⟩
  have e:=r.length
  simp only [cY] at e
  lia
theorem cV.tuple (I:cV X pins σ H s) (h:kY X.K H a xs):∃its:List Value,c7 xs its/\IsTup s.heap a its.toArray/\xs.length<=sizeLine:=by
 rcases h with h|⟨o,its,n,hk,hc,hs,hz,r⟩
 ·obtain ⟨z,its,r,p⟩:=h.ok I.fD
  exact ⟨its,r,p,z⟩
 ·refine ⟨its.toList,r,⟨o,I.Ei a o hk,hc,n,by simpa using hs⟩,?_⟩
  have e:=r.length
  simp only [cY] at e
  lia
theorem cV.Jp (I:cV X pins σ H s) (h:cE X.K H a xs) (h':cE X.K H a ys):xs=ys:=by
 obtain ⟨its,r,⟨o,n,e,_,_,d⟩,_⟩:=I.list h
 obtain ⟨its',r',⟨o',n',e',_,_,d'⟩,_⟩:=I.list h'
 rw [e] at e';cases e'
 rw [d] at d'
 injection d' with d1 _
 have:its=its':=by simpa using cS Array.toList d1
 subst this
 exact r.inj r'
theorem cV.Hu (I:cV X pins σ H s) (h:kY X.K H a xs) (h':kY X.K H a ys):xs=ys:=by
 obtain ⟨its,r,⟨o,e,_,n,d⟩,_⟩:=I.tuple h
 obtain ⟨its',r',⟨o',e',_,n',d'⟩,_⟩:=I.tuple h'
 rw [e] at e';cases e'
 rw [d] at d'
 injection d' with d1 _
 have:its=its':=by simpa using cS Array.toList d1
 subst this
 exact r.inj r'
end
abbrev Cx.zJ (X:Cx) (E:Value->Shared->Prop):Cx:={X with xe:=E}
abbrev Cx.Vk (X:Cx):Cx:=X.zJ λ_ _=>False
theorem Cx.Ok.zJ {X:Cx} (ok:X.Ok) (E:Value->Shared->Prop):(X.zJ E).Ok:=
 ⟨ok.AZ,ok.kind,ok.BS,ok.blt,ok.above,ok.inj,ok.has,ok.Tg,ok.hd,ok.frames,ok.Vn,ok.Vm,ok.bs,ok.Lw,ok.Jv,ok.JZ,ok.xq,ok.Ow⟩
theorem Cx.Ok.sk {X:Cx} {E:Value->Shared->Prop} (ok:(X.zJ E).Ok):X.Ok:=
 ⟨ok.AZ,ok.kind,ok.BS,ok.blt,ok.above,ok.inj,ok.has,ok.Tg,ok.hd,ok.frames,ok.Vn,ok.Vm,ok.bs,ok.Lw,ok.Jv,ok.JZ,ok.xq,ok.Ow⟩
section
variable {X:Cx} {pins:List (Addr×Obj)} {σ:St} {H:Hp} {s:Shared} {E:Value->Shared->Prop}
theorem cV.zJ (I:cV X pins σ H s) (E:Value->Shared->Prop):cV (X.zJ E) pins σ H s:=⟨I.ok.zJ E,I.os,I.bare,I.base,I.Cy,I.cell,I.free,I.qZ,I.F9,I.fD,I.len⟩
theorem cV.sk (I:cV (X.zJ E) pins σ H s):cV X pins σ H s:=⟨I.ok.sk,I.os,I.bare,I.base,I.Cy,I.cell,I.free,I.qZ,I.F9,I.fD,I.len⟩
theorem SP.sk {D:Bc} {f:Flow} {s':Shared} (h:SP (X.zJ E) pins D f s'):SP X pins D f s':=by
 cases f with
 |next=>obtain ⟨σ',H',I,q⟩:=h;exact ⟨σ',H',I.sk,q⟩
 |brk=>obtain ⟨σ',H',I,q⟩:=h;exact ⟨σ',H',I.sk,q⟩
 |cont=>obtain ⟨σ',H',I,q⟩:=h;exact ⟨σ',H',I.sk,q⟩
 |ret u=>obtain ⟨v,σ',H',I,r,q⟩:=h;exact ⟨v,σ',H',I.sk,r,q⟩
theorem Hs.Vk {st:List Stmt} {t:TS} (h:Hs X.Vk st t):Hs X st t:=λpins s σ H D I hw=>
 fi (h pins s σ H D (I.zJ _) hw) (λ_ _ q=>q.sk) λ_ _ z=>False.elim z
end
section
variable {X:Cx} {st:Stmt} {jv:List Stmt} {t u:TS} {e:Expr} {te:TE} {pos:Pos}
def SN:TS:=λD σ H=>D.nx σ H
def Wr (t u:TS):TS:=λD σ H=>t {D with nx:=u D} σ H
theorem bF:Hs X [] SN:=λ_ _ σ H _ I h=>mz ⟨σ,H,I,h⟩
theorem ai (h1:PS X st t) (h2:Hs X jv u):Hs X (st::jv) (Wr t u):=by
 intro pins s σ H D I h
 refine wpAny_execs_cons (gU (h1 pins s σ H {D with nx:=u D} I h) λf s1 q=> ?_)
 cases f with
 |next=>
  obtain ⟨σ',H',I',q⟩:=q
  exact h2 pins s1 σ' H' D I' q
 |ret v=>exact q
 |brk=>exact q
 |cont=>exact q
theorem aq (h1:PS X st t):Hs X [st] t:=by
 intro pins s σ H D I h
 refine wpAny_execs_cons (gU (h1 pins s σ H D I h) λf s1 q=> ?_)
 cases f with
 |next=>exact mz q
 |ret v=>exact q
 |brk=>exact q
 |cont=>exact q
theorem cV.quiet {pins:List (Addr×Obj)} {σ:St} {H:Hp} {s:Shared} (I:cV X pins σ H s):interactive X.bX=false:=by simp [interactive,I.ok.kind]
def QM (te:TE):TS:=λD σ H=>te σ H λ_ H1=>D.nx σ H1
theorem dS (he:PE X e te) (hs:swapsWith e none pos.line X.bX=pure false:=by rfl):PS X (.Expr e pos) (QM te):=by
 intro pins s σ H D I h
 exact wpAny_Expr_any (gU (he pins s σ H _ I h) λv s1 ⟨x,H1,I1,r1,q1⟩=>⟨σ,H1,I1,q1⟩) I.quiet hs
def Wk (te:TE):TS:=λD σ H=>te σ H D.rt
theorem aV (he:PE X e te):PS X (.Return (some e) pos) (Wk te):=by
 intro pins s σ H D I h
 exact wpAny_Return_some (gU (he pins s σ H _ I h) λv s1 ⟨x,H1,I1,r1,q1⟩=>⟨x,σ,H1,I1,r1,q1⟩)
def V1 (c:TT) (t u:TS):TS:=λD σ H=>c σ H λb H1=>if b=true then t D σ H1 else u D σ H1
theorem cP {c:Expr} {a b:List Stmt} {tc:TT} (hc:PT X c tc) (ha:Hs X a t) (hb:Hs X b u):PS X (.If c a b pos) (V1 tc t u):=by
 intro pins s σ H D I h
 refine wpAny_If (gU (hc pins s σ H _ I h) λd s1 ⟨H1,I1,q1⟩=> ?_)
 cases d with
 |true=>exact ha pins s1 σ H1 D I1 q1
 |false=>exact hb pins s1 σ H1 D I1 q1
end
abbrev TG:=V->St->Hp->(St->Hp->Prop)->Prop
def PG (X:Cx) (target:Expr) (t:TG):Prop:=
 ∀(pins:List (Addr×Obj)) (s:Shared) (σ:St) (H:Hp) (v:V) (u:Value) (Q:St->Hp->Prop),cV X pins σ H s->dP v u->t v σ H Q->
  wpAny (model X.prog X.w) X.A (assign target X.bX u) (λ_ s'=>∃σ' H',cV X pins σ' H' s'/\Q σ' H') X.xe s
abbrev OK:=V->V->V->Hp->(Hp->Prop)->Prop
def QY (X:Cx) (t:OK):Prop:=
 ∀(pins:List (Addr×Obj)) (s:Shared) (σ:St) (H:Hp) (o i v:V) (ov iv u:Value) (Q:Hp->Prop),cV X pins σ H s->dP o ov->dP i iv->dP v u->t o i v H Q->
  wpAny (model X.prog X.w) X.A (setItem ov iv u) (λ_ s'=>∃H',cV X pins σ H' s'/\Q H') X.xe s
abbrev Vg:=V->V->Hp->VK->Prop
def Yq (X:Cx) (op:Operator) (t:Vg):Prop:=
 ∀(pins:List (Addr×Obj)) (s:Shared) (σ:St) (H:Hp) (x y:V) (v u:Value) (Q:VK),cV X pins σ H s->dP x v->dP y u->t x y H Q->
  wpAny (model X.prog X.w) X.A (inplaceOp op v u) (EP X pins σ Q) X.xe s
section
variable {X:Cx} {pos:Pos}
def tR (i:Nat):TG:=λv σ H Q=>Q (σ.set i (some v)) H
theorem cu {i:Nat} {x:Str} (hN:X.N.Nodup) (hi:X.N[i]? =some x) (hx:RI X.bX.scope x) (hf:X.fn x=true\/X.bX.scope.names.lookup x=some .local:=by first|exact .inl rfl|exact .inr rfl|assumption):PG X (.Name x pos) (tR i):=by
 intro pins s σ H v u Q I r h
 exact wpAny_assign_Name (yX I hN hi hx r (λs' I'=>⟨_,H,I',h⟩) hf)
def Wu (to ti:TE) (t:OK):TG:=λv σ H Q=>to σ H λo H1=>ti σ H1 λi H2=>t o i v H2 λH3=>Q σ H3
theorem wx {o i:Expr} {to ti:TE} {t:OK} (ho:PE X o to) (hi:PE X i ti) (hs:QY X t)
  (ha:∀v,assign (.Subscript o i pos) X.bX v=(do
   let ov <-holding [v] (eval o X.bX)
   let iv <-holding [v,ov] (eval i X.bX)
   standAt pos
   holding [v,ov,iv] (setItem ov iv v)
   release [v,ov,iv] []):=by intro _;rfl):PG X (.Subscript o i pos) (Wu to ti t):=by
 intro pins s σ H v u Q I r h
 rw [ha]
 refine ag (fw (gU (ho pins s σ H _ I h) λov s1 ⟨x,H1,I1,r1,q1⟩=> ?_))
 refine ag (fw (gU (hi pins s1 σ H1 _ I1 q1) λiv s2 ⟨y,H2,I2,r2,q2⟩=> ?_))
 refine ag (tL (ag (fw (gU (hs pins s2 σ H2 x y v ov iv u _ I2 r1 r2 r q2) λ_ s3 ⟨H3,I3,q3⟩=> ?_))))
 exact wpAny_release ⟨σ,H3,I3,q3⟩
def O8 (te:TE) (g:TG):TS:=λD σ H=>te σ H λx H1=>g x σ H1 D.nx
theorem vV {tg e:Expr} {te:TE} {g:TG} (he:PE X e te) (hg:PG X tg g) (hs:swapsWithSole [tg] e pos.line X.bX=pure false:=by rfl) (hw:swappedStores [tg] e X.bX=pure none:=by rfl)
  (h1:(assignEach [tg] X.bX).map (·.2)=[assign tg X.bX]:=by rfl):PS X (.Assign [tg] e pos) (O8 te g):=by
 intro pins s σ H D I h
 refine wpAny_Assign_stores (gU (he pins s σ H _ I h) λv s1 ⟨x,H1,I1,r1,q1⟩=> ?_) hs hw
 rw [h1]
 exact gU (hg pins s1 σ H1 x v _ I1 r1 q1) λ_ s2 q=>q
theorem bx {i:Nat} {x:Str} {e:Expr} {te:TE} {pos':Pos} (hN:X.N.Nodup) (hi:X.N[i]? =some x) (hx:RI X.bX.scope x) (he:PE X e te) (hs:swapsWith e (some (.Name x pos')) pos.line X.bX=pure false:=by rfl) (hf:X.fn x=true\/X.bX.scope.names.lookup x=some .local:=by first|exact .inl rfl|exact .inr rfl|assumption):
  PS X (.Assign [.Name x pos'] e pos) (O8 te (tR i)):=by
 intro pins s σ H D I h
 refine wpAny_Assign_Name (gU (he pins s σ H _ I h) λv s1 ⟨y,H1,I1,r1,q1⟩=> ?_) hs
 exact yX I1 hN hi hx r1 (λs2 I2=>⟨_,H1,I2,q1⟩) hf
def WE (i:Nat) (te:TE) (ti:Vg):TS:=λD σ H=>∃x,σ[i]? =some (some x)/\te σ H λy H1=>ti x y H1 λz H2=>D.nx (σ.set i (some z)) H2
theorem BF {i:Nat} {x:Str} {e:Expr} {te:TE} {op:Operator} {ti:Vg} {pos':Pos} (hN:X.N.Nodup) (hi:X.N[i]? =some x) (hx:RI X.bX.scope x) (he:PE X e te) (ho:Yq X op ti) (hf:X.fn x=true\/X.bX.scope.names.lookup x=some .local:=by first|exact .inl rfl|exact .inr rfl|assumption):
  PS X (.AugAssign (.Name x pos') op e pos) (WE i te ti):=by
 intro pins s σ H D I h
 obtain ⟨v,e1,h⟩:=h
 obtain ⟨m,hn,hl⟩:=I.Cy
 have vis:P6 X.bX.scope x:=by rcases hx with k|k;exact .inl k;exact .inr (.inl k)
 obtain ⟨u,r,l⟩:=hl i x v hi e1 vis
 refine wpAny_AugAssign_Name ?_
 have go:wpAny (model X.prog X.w) X.A (eval e X.bX) (λw s₂=>wpAny (model X.prog X.w) X.A (inplaceOp op u w) (λr s₃=>wpAny (model X.prog X.w) X.A (storeName X.bX x r) (λ_=>SP X pins D .next) X.xe s₃) X.xe s₂) X.xe s:=by
  refine gU (he pins s σ H _ I h) λw s1 ⟨y,H1,I1,r1,q1⟩=> ?_
  refine gU (ho pins s1 σ H1 v y u w _ I1 r r1 q1) λz s2 ⟨zv,H2,I2,r2,q2⟩=> ?_
  exact yX I2 hN hi hx r2 (λs3 I3=>⟨_,H2,I3,q2⟩) hf
 rcases l with ⟨hk,hm⟩|⟨hk,c,hc,hcell⟩
 ·exact wpAny_loadName_local I.ok.kind hk hn hm go
 ·rcases hk with hk|hk
  ·exact wpAny_loadName_cell I.ok.kind hk hc hcell go
  ·rcases hx with k|k
   ·have:X.bX.scope.names.lookup x=some .free:=hk
    rw [k] at this;cases this
   ·have:X.bX.scope.names.lookup x=some .free:=hk
    rw [k] at this;cases this
def Za (f:Int->Int->Int):Vg:=λx y H Q=>∃i j,x= .int i/\y= .int j/\Q (.int (f i j)) H
theorem AX:Yq X .Add (Za λi j=>i+j):=by
 intro pins s σ H x y v u Q I r1 r2 h
 obtain ⟨i,j,e1,e2,q⟩:=h
 subst e1;subst e2
 obtain ⟨t,rfl⟩:=r1
 obtain ⟨t',rfl⟩:=r2
 exact iadd_int ⟨.int _,H,I.uR _,⟨_,rfl⟩,q⟩
end
section
variable {X:Cx} {pos:Pos}
def OP (c:TT) (tb:TS):TS:=λD σ H=>∃W:Nat->St->Hp->Prop,(∃m,W m σ H)/\∀m σ H,W m σ H->
 c σ H λb H1=>if b=true then ∃N:St->Hp->Prop,(∀σ' H',N σ' H'->∃m',m'< m/\W m' σ' H')/\tb {D with nx:=N,ct:=N,bk:=D.nx} σ H1 else D.nx σ H1
theorem l5 {c:Expr} {body:List Stmt} {tc:TT} {tb:TS} (hp:PassesOwn (model X.prog X.w) X.A X.bX X.xe) (hc:PT X c tc) (hb:Hs X body tb):PS X (.While c body [] pos) (OP tc tb):=by
 intro pins s σ H D I h
 obtain ⟨W,⟨m0,w0⟩,turn⟩:=h
 refine wpAny_While (codeAny_whileLoop (λn s'=>∃σ' H',cV X pins σ' H' s'/\W n σ' H') ?_ m0 ⟨σ,H,I,w0⟩)
 rintro n s1 ⟨σ1,H1,I1,w1⟩
 refine gA hp (gU (hc pins s1 σ1 H1 _ I1 (turn n σ1 H1 w1)) λb s2 ⟨H2,I2,q2⟩=> ?_)
 cases b with
 |true=>
  obtain ⟨N,hN,q2⟩:=q2
  rw [aA rfl]
  refine gA hp (gU (hb pins s2 σ1 H2 _ I2 q2) λf s3 q3=> ?_)
  cases f with
  |next=>
   obtain ⟨σ3,H3,I3,n3⟩:=q3
   obtain ⟨m',hm,w3⟩:=hN σ3 H3 n3
   exact ⟨m',hm,σ3,H3,I3,w3⟩
  |cont=>
   obtain ⟨σ3,H3,I3,n3⟩:=q3
   obtain ⟨m',hm,w3⟩:=hN σ3 H3 n3
   exact ⟨m',hm,σ3,H3,I3,w3⟩
  |brk=>exact q3
  |ret v=>exact q3
 |false=>
  rw [au bK]
  exact mz ⟨σ1,H2,I2,q2⟩
end
structure It where
 go:Nat->Hp->Prop
 KR:Nat->Hp->V->Hp->Prop
 stop:Nat->Hp->Prop
def zw (X:Cx) (pins:List (Addr×Obj)) (H:Hp) (b:Addr):Prop:=
 H b=none/\b≠X.bX.locals/\b∉X.fs/\(b∈X.ex\/X.Aq.heap.objs.size<=b)/\(∀x c,X.bX.cells.lookup x=some c->c≠b)/\∀p∈X.pn++pins,p.1≠b
theorem cV.Kd {X:Cx} {pins:List (Addr×Obj)} {σ:St} {H H':Hp} {s:Shared} {b:Addr} (I:cV X pins σ H s) (hb:s.heap.objs.size<=b) (hn:H' b=none):zw X pins H' b:=by
 refine ⟨hn,uS (cb I.lt hb),I.WK hb,.inr (bg I.sz hb),λx c e z=> ?_,λp hp z=> ?_⟩
 ·obtain ⟨v,q⟩:=I.cell x c e
  exact absurd (cb q.lt (by rw [z];exact hb)) (eu _)
 ·exact absurd (cb (bz (I.F9 p hp).1) (by rw [z];exact hb)) (eu _)
structure Ie (P:Program) (w:World) (K:PySem.W.Frag) (tg:Expr) (J:It) (fp:List Addr) (it:Addr) (tn:Nat->Heap->Prop):Prop where
 mem:it∈fp
 obj:∀i h,tn i h->∀b∈fp,∃o,h.get? b=some o/\∀v,o.data≠.cell v
 keep:∀i h h',tn i h->(∀b∈fp,∀o,h.get? b=some o->h'.get? b=some o)->tn i h'
 item:∀(X:Cx),X.prog=P->X.w=w->X.K=K->X.oq=true->∀(i:Nat) (pins:List (Addr×Obj)) (s:Shared) (σ:St) (H:Hp) (E:Value->Shared->Prop),cV X pins σ H s->(∀b∈fp,zw X pins H b)->tn i s.heap->J.go i H->
  wpAny (model P w) X.A (pyNext (.ref it)) (λr s1=>∃u,r=some u/\
   wpAny (model P w) X.A (letOwnedTupleGo tg (.ref it) u) (λ_ s2=>∃x H',cV X pins σ H' s2/\dP x u/\J.KR i H x H'/\tn (i+1) s2.heap/\∀b∈fp,H' b=none) E s1) E s
 done:∀(X:Cx),X.prog=P->X.w=w->X.K=K->X.oq=true->∀(i:Nat) (pins:List (Addr×Obj)) (s:Shared) (σ:St) (H:Hp) (E:Value->Shared->Prop),cV X pins σ H s->(∀b∈fp,zw X pins H b)->tn i s.heap->J.stop i H->
  wpAny (model P w) X.A (pyNext (.ref it)) (λr s1=>r=none/\cV X pins σ H s1) E s
 self:∀(A:Around) (i:Nat) (s:Shared) (Q:Value->Shared->Prop) (E:Value->Shared->Prop),tn i s.heap->Q (.ref it) s->wpAny (model P w) A (pyIter (.ref it)) Q E s
abbrev TI:=St->Hp->(It->Hp->Prop)->Prop
def V9 (X:Cx) (pins:List (Addr×Obj)) (σ:St) (tg:Expr) (R:It->Hp->Prop) (itv:Value) (s2:Shared):Prop:=
 ∃(it:Addr) (fp:List Addr) (tn:Nat->Heap->Prop) (J:It) (H':Hp),itv= .ref it/\cV X pins σ H' s2/\Ie X.prog X.w X.K tg J fp it tn/\tn 0 s2.heap/\(∀b∈fp,zw X pins H' b)/\R J H'
def PI (X:Cx) (tg iter:Expr) (wi:TI):Prop:=
 ∀(pins:List (Addr×Obj)) (s:Shared) (σ:St) (H:Hp) (R:It->Hp->Prop),cV X pins σ H s->wi σ H R->
  wpAny (model X.prog X.w) X.A (eval iter X.bX) (λv s1=>wpAny (model X.prog X.w) X.A (pyIter v) (V9 X pins σ tg R) X.xe s1) X.xe s
theorem FE {M:Model} {A:Around} {E:Value->Shared->Prop} {s:Shared} {tg:Expr} {it:Addr} {u:Value} {o:Obj} {n:String} {vs:Array Value} {Q:Unit->Shared->Prop} (ho:s.heap.get? it=some o) (hc:o.cls= .type n) (hd:o.data= .fields vs)
  (hn:["enumerate","zip","dict_itemiterator","dict_reverseitemiterator","odict_iterator","itertools.zip_longest","itertools.pairwise"].contains n=false) (hQ:Q () s):wpAny M A (letOwnedTupleGo tg (.ref it) u) Q E s:=by
 unfold letOwnedTupleGo
 cases tg<;>first
  |exact aH hQ
  |(cases u<;>first
    |exact aH hQ
    |(refine ag (ub ho ?_)
      rw [hc,hd]
      show wpAny M A (if (["enumerate","zip","dict_itemiterator","dict_reverseitemiterator","odict_iterator","itertools.zip_longest","itertools.pairwise"].contains n&&vs[0]? ==some (rawInt _))=true then _ else _) Q E s
      rw [au (by intro h;rw [hn,kf] at h;cases h)]
      exact aH hQ))
def MK (K:PySem.W.Frag) (a:Addr):It:=
 ⟨λi H=>∃xs x,cE K H a xs/\xs[i]? =some x,λi H x H'=>H'=H/\∀xs,cE K H a xs->xs[i]? =some x,λi H=>∃xs,cE K H a xs/\xs.length<=i⟩
def M0 (K:PySem.W.Frag) (a:Addr):It:=
 ⟨λi H=>∃xs x,kY K H a xs/\xs[i]? =some x,λi H x H'=>H'=H/\∀xs,kY K H a xs->xs[i]? =some x,λi H=>∃xs,kY K H a xs/\xs.length<=i⟩
def KW (lo:Int) (n:Nat):It:=⟨λi _=>i< n,λi H x H'=>H'=H/\x= .int (lo+i),λi _=>n<=i⟩
theorem Hx {P:Program} {w:World} {K:PySem.W.Frag} {tg:Expr} (a it:Addr):Ie P w K tg (MK K a) [it] it (λi h=>h.IsListIter it a i) where
 mem:=by simp
 obj:=λi h st b hb=>by
  have e:b=it:=by simpa using hb
  subst e
  obtain ⟨o,e,c,d⟩:=st
  exact ⟨o,e,λv z=>by rw [d] at z;cases z⟩
 keep:=λi h h' st k=>st.at λo e=>k it (by simp) o e
 item:=by
  intro X hP hw hK hc i pins s σ H E I hf st hg
  subst hP hw hK
  obtain ⟨xs,x,hq,hx⟩:=hg
  obtain ⟨its,rv,p,hz⟩:=I.list hq
  obtain ⟨u,hu,ru⟩:=rv.get hx
  obtain ⟨f0,f1,f2,f3,f4,f5⟩:=hf it (by simp)
  refine wpAny_pyNext_list_item st p.isList (x:=u) (by simpa using hu) λh' st' sb=> ?_
  have I1:cV X pins σ H {s with heap:=h'}:=I.o5 (t':=s.toks) (λb o hb e=>(sb.2 b hb).trans e) f0 f1 f3 f4 f5
  obtain ⟨o,e,c,d⟩:=id st'
  exact ⟨u,rfl,FE (s:={s with heap:=h'}) e c d (by decide) ⟨x,H,I1,ru,⟨rfl,λys hy=>by rw [I.Jp hy hq];exact hx⟩,st',λb hb=>(hf b hb).1⟩⟩
 done:=by
  intro X hP hw hK hc i pins s σ H E I hf st hg
  subst hP hw hK
  obtain ⟨xs,hq,hx⟩:=hg
  obtain ⟨its,rv,p,hz⟩:=I.list hq
  obtain ⟨f0,f1,f2,f3,f4,f5⟩:=hf it (by simp)
  have hl:=rv.length
  exact wpAny_pyNext_list_end (I.ok.hd hc) st p.isList (by simp;lia) λh' eb=>⟨rfl,I.o5 (t':=s.toks) (λb o hb e=>eb b o hb e) f0 f1 f3 f4 f5⟩
 self:=λ_ _ _ _ _ st h=>wpAny_pyIter_listiter st h
theorem Ey {P:Program} {w:World} {K:PySem.W.Frag} {tg:Expr} (a it:Addr):Ie P w K tg (M0 K a) [it] it (λi h=>h.IsTupleIter it a i) where
 mem:=by simp
 obj:=λi h st b hb=>by
  have e:b=it:=by simpa using hb
  subst e
  obtain ⟨o,e,c,d⟩:=st
  exact ⟨o,e,λv z=>by rw [d] at z;cases z⟩
 keep:=λi h h' st k=>st.at λo e=>k it (by simp) o e
 item:=by
  intro X hP hw hK hc i pins s σ H E I hf st hg
  subst hP hw hK
  obtain ⟨xs,x,hq,hx⟩:=hg
  obtain ⟨its,rv,p,hz⟩:=I.tuple hq
  obtain ⟨u,hu,ru⟩:=rv.get hx
  obtain ⟨f0,f1,f2,f3,f4,f5⟩:=hf it (by simp)
  refine wpAny_pyNext_tuple_item st (show s.heap.IsTuple a its.toArray from p) (x:=u) (by simpa using hu) λh' st' sb=> ?_
  have I1:cV X pins σ H {s with heap:=h'}:=I.o5 (t':=s.toks) (λb o hb e=>(sb.2 b hb).trans e) f0 f1 f3 f4 f5
  obtain ⟨o,e,c,d⟩:=id st'
  exact ⟨u,rfl,FE (s:={s with heap:=h'}) e c d (by decide) ⟨x,H,I1,ru,⟨rfl,λys hy=>by rw [I.Hu hy hq];exact hx⟩,st',λb hb=>(hf b hb).1⟩⟩
 done:=by
  intro X hP hw hK hc i pins s σ H E I hf st hg
  subst hP hw hK
  obtain ⟨xs,hq,hx⟩:=hg
  obtain ⟨its,rv,p,hz⟩:=I.tuple hq
  obtain ⟨f0,f1,f2,f3,f4,f5⟩:=hf it (by simp)
  have hl:=rv.length
  exact wpAny_pyNext_tuple_end (I.ok.hd hc) st (show s.heap.IsTuple a its.toArray from p) (by simp;lia) λh' eb=>⟨rfl,I.o5 (t':=s.toks) (λb o hb e=>eb b o hb e) f0 f1 f3 f4 f5⟩
 self:=λ_ _ _ _ _ st h=>wpAny_pyIter_tupleiter st h
theorem EA {P:Program} {w:World} {K:PySem.W.Frag} {tg:Expr} (it:Addr) (lo:Int) (n:Nat):Ie P w K tg (KW lo n) [it] it (λi h=>IsRangeIter h it (lo+(i:Nat)*1) ((n:Int)-(i:Nat)) 1) where
 mem:=by simp
 obj:=λi h st b hb=>by
  have e:b=it:=by simpa using hb
  subst e
  exact ⟨_,st,λv z=>by
   have z':Data.fields _=Data.cell v:=z
   cases z'⟩
 keep:=λi h h' st k=>k it (by simp) _ st
 item:=by
  intro X hP hw hK hc i pins s σ H E I hf st hg
  subst hP hw hK
  obtain ⟨f0,f1,f2,f3,f4,f5⟩:=hf it (by simp)
  have W:=Walks.range (prog:=X.prog) (w:=X.w) (I.ok.hd hc) it lo 1 n
  refine W.item i s _ _ hg st λv h' tk hv st' kk=> ?_
  obtain ⟨t,rfl⟩:=hv
  have I1:cV X pins σ H {s with heap:=h',toks:=tk}:=I.o5 (λb o hb e=>kk b o (by simpa using hb) e) f0 f1 f3 f4 f5
  refine ⟨_,rfl,FE (s:={s with heap:=h',toks:=tk}) (n:="range_iterator") st' rfl rfl (by decide) ⟨.int (lo+i),H,I1,⟨t,?_⟩,⟨rfl,rfl⟩,st',λb hb=>(hf b hb).1⟩⟩
  rw [Int.mul_one]
 done:=by
  intro X hP hw hK hc i pins s σ H E I hf st hg
  subst hP hw hK
  obtain ⟨f0,f1,f2,f3,f4,f5⟩:=hf it (by simp)
  exact wpAny_pyNext_range_end (I.ok.hd hc) st (by have:n<=i:=hg;lia) λh' eb=>⟨rfl,I.o5 (t':=s.toks) (λb o hb e=>eb b o hb e) f0 f1 f3 f4 f5⟩
 self:=λ_ _ _ _ _ st h=>wpAny_pyIter_rangeiter st h
end L2
namespace L2
open PySem PySem.Spec PyProof.Rows
section
variable {X:Cx} {tg:Expr}
def MP (K:PySem.W.Frag) (tl:TE):TI:=fun σ H R=>tl σ H λx H1=>∃a,x= .ref a/\(∃xs,cE K H1 a xs)/\R (MK K a) H1
def SO (K:PySem.W.Frag) (tl:TE):TI:=fun σ H R=>tl σ H λx H1=>∃a,x= .ref a/\(∃xs,kY K H1 a xs)/\R (M0 K a) H1
theorem LL {l:Expr} {tl:TE} (hl:PE X l tl):PI X tg l (MP X.K tl):=by
 intro pins s σ H R I h
 refine gU (hl pins s σ H _ I h) λv s1 ⟨x,H1,I1,r1,q1⟩=> ?_
 obtain ⟨a,e,⟨xs,hq⟩,q⟩:=q1
 subst e
 cases r1
 obtain ⟨its,rv,p,hz⟩:=I1.list hq
 refine ou p.isList ?_
 refine ⟨s1.heap.objs.size,[s1.heap.objs.size],_,_,H1,rfl,I1.k0 (t':=s1.toks) λb o e=>aD _ e,Hx a _,⟨_,aZ _ rfl,rfl,rfl⟩,λb hb=> ?_,q⟩
 have e:b=s1.heap.objs.size:=by simpa using hb
 subst e
 exact I1.Kd (aF _) (I1.fD.fresh (aF _))
theorem NQ {l:Expr} {tl:TE} (hl:PE X l tl):PI X tg l (SO X.K tl):=by
 intro pins s σ H R I h
 refine gU (hl pins s σ H _ I h) λv s1 ⟨x,H1,I1,r1,q1⟩=> ?_
 obtain ⟨a,e,⟨xs,hq⟩,q⟩:=q1
 subst e
 cases r1
 obtain ⟨its,rv,p,hz⟩:=I1.tuple hq
 refine wpAny_pyIter_tuple (show s1.heap.IsTuple a its.toArray from p) ?_
 refine ⟨s1.heap.objs.size,[s1.heap.objs.size],_,_,H1,rfl,I1.k0 (t':=s1.toks) λb o e=>aD _ e,Ey a _,⟨_,aZ _ rfl,rfl,rfl⟩,λb hb=> ?_,q⟩
 have e:b=s1.heap.objs.size:=by simpa using hb
 subst e
 exact I1.Kd (aF _) (I1.fD.fresh (aF _))
theorem Dz {pins:List (Addr×Obj)} {σ:St} {H:Hp} {s:Shared} {R:It->Hp->Prop} {E:Value->Shared->Prop} {lo hi:Int} {t u v:Tok} {tk:Nat} (I:cV X pins σ H s) (h1: -(2 ^ 62)<=lo) (h2:lo< 2 ^ 62) (h3: -(2 ^ 62)<=hi) (h4:hi< 2 ^ 62)
  (q:R (KW lo (hi-lo).toNat) H):wpAny (model X.prog X.w) X.A (pyIter (.ref s.heap.objs.size)) (V9 X pins σ tg R) E {s with heap:=s.heap.push {cls:= .type "range",data:= .fields #[.int lo t,.int hi u,.int 1 v]},toks:=tk}:=by
 refine wpAny_pyIter_range (IsRange.new ..) (small_one h1 h2 h3 h4) ?_
 have I1:cV X pins σ H {s with heap:=s.heap.push {cls:= .type "range",data:= .fields #[.int lo t,.int hi u,.int 1 v]},toks:=tk}:=I.k0 λb o e=>aD _ e
 refine ⟨(s.heap.push {cls:= .type "range",data:= .fields #[.int lo t,.int hi u,.int 1 v]}).objs.size,[(s.heap.push {cls:= .type "range",data:= .fields #[.int lo t,.int hi u,.int 1 v]}).objs.size],_,_,H,rfl,
  I1.k0 (t':=tk) λb o e=>aD _ e,EA _ lo (hi-lo).toNat,?_,λb hb=> ?_,q⟩
 ·have e1:lo+((0:Nat):Int)*1=lo:=by simp
  have e2:(((hi-lo).toNat:Nat):Int)-((0:Nat):Int)=Builtin.Range.rangeSize lo hi 1:=by rw [rangeSize_one];split<;>lia
  show IsRangeIter _ _ (lo+((0:Nat):Int)*1) ((((hi-lo).toNat:Nat):Int)-((0:Nat):Int)) 1
  rw [e1,e2]
  exact aZ _ rfl
 ·have e:b=(s.heap.push {cls:= .type "range",data:= .fields #[.int lo t,.int hi u,.int 1 v]}).objs.size:=by simpa using hb
  subst e
  exact I1.Kd (aF _) (I1.fD.fresh (aF _))
def QB (ta:TA):TI:=fun σ H R=>ta σ H λvs H1=>∃j:Int,vs=[.int j]/\ -(2 ^ 62)<=j/\j< 2 ^ 62/\R (KW 0 j.toNat) H1
def So (ta:TA):TI:=fun σ H R=>ta σ H λvs H1=>∃i j:Int,vs=[.int i,.int j]/\(-(2 ^ 62)<=i/\i< 2 ^ 62/\ -(2 ^ 62)<=j/\j< 2 ^ 62)/\R (KW i (j-i).toNat) H1
theorem d3 {a:Expr} {ta:TA} {p pos:Pos} (hg:Gl X "range") (hm:X.mg "range"=none) (ha:PA X [a] ta) (hs:starEach [a] X.bX=[(false,eval a X.bX)]:=by rfl):PI X tg (.Call (.Name "range" p) [a] [] pos) (QB ta):=by
 intro pins s σ H R I h
 refine Call_ (ze I hg hm boot_range (fZ (gU (ha pos pins s σ H _ I h) λus s1 ⟨vs,H1,I1,r1,q1⟩=> ?_) hs rfl))
 obtain ⟨j,e,q1,q2,q⟩:=q1
 subst e
 cases r1 with
 |cons r rr=>
  cases rr
  obtain ⟨t,rfl⟩:=r
  exact call_range_1 (Dz I1 (by lia) (by lia) q1 q2 (by simpa using q))
theorem z8 {a b:Expr} {ta:TA} {p pos:Pos} (hg:Gl X "range") (hm:X.mg "range"=none) (ha:PA X [a,b] ta) (hs:starEach [a,b] X.bX=[(false,eval a X.bX),(false,eval b X.bX)]:=by rfl) (hs2:starEach [b] X.bX=[(false,eval b X.bX)]:=by rfl):
  PI X tg (.Call (.Name "range" p) [a,b] [] pos) (So ta):=by
 intro pins s σ H R I h
 refine Call_ (ze I hg hm boot_range (fZ (gU (ha pos pins s σ H _ I h) λus s1 ⟨vs,H1,I1,r1,q1⟩=> ?_) (by rw [hs,hs2]) (by rw [hs2];rfl)))
 obtain ⟨i,j,e,⟨q1,q2,q3,q4⟩,q⟩:=q1
 subst e
 cases r1 with
 |cons r rr=>
  cases rr with
  |cons r' rr=>
   cases rr
   obtain ⟨t,rfl⟩:=r
   obtain ⟨t',rfl⟩:=r'
   exact call_range_2 (Dz I1 q1 q2 q3 q4 q)
def V4 (wi:TI) (g:TG) (tb:TS):TS:=λD σ H=>wi σ H λJ H1=>∃W:Nat->Nat->St->Hp->Prop,(∃m,W 0 m σ H1)/\∀i m σ H,W i m σ H->
 (J.stop i H/\D.nx σ H)\/(J.go i H/\∃N:St->Hp->Prop,(∀σ' H',N σ' H'->∃m',m'< m/\W (i+1) m' σ' H')/\∀x H',J.KR i H x H'->g x σ H' fun σ2 H2=>tb {D with nx:=N,ct:=N,bk:=D.nx} σ2 H2)
def zh (fp:List Addr) (h:Heap):List (Addr×Obj):=fp.filterMap λb=>(h.get? b).map λo=>(b,o)
theorem ux {fp:List Addr} {h:Heap} {b:Addr} {o:Obj} (hb:b∈fp) (e:h.get? b=some o):(b,o)∈zh fp h:=h8.mpr ⟨b,hb,by rw [e];rfl⟩
theorem Hm {fp:List Addr} {h:Heap} {p:Addr×Obj} (hp:p∈zh fp h):p.1∈fp/\h.get? p.1=some p.2:=by
 obtain ⟨b,hb,e⟩:=h8.mp hp
 cases q:h.get? b with
 |none=>rw [q] at e;cases e
 |some o=>
  rw [q] at e
  have e':(b,o)=p:=Option.some.inj e
  subst e'
  exact ⟨hb,q⟩
theorem cV.Jo {pins:List (Addr×Obj)} {σ:St} {H:Hp} {s:Shared} {fp:List Addr} (I:cV X pins σ H s) (hf:∀b∈fp,zw X pins H b) (ho:∀b∈fp,∃o,s.heap.get? b=some o/\∀v,o.data≠.cell v):cV X (pins++zh fp s.heap) σ H s:=
 I.FW λp hp=>(aI.mp hp).elim (λz=>I.F9 p (bp _ z)) λz=>by
  obtain ⟨hb,e⟩:=Hm z
  obtain ⟨f0,f1,f2,_⟩:=hf p.1 hb
  obtain ⟨o,e',d⟩:=ho p.1 hb
  rw [e] at e';cases e'
  exact ⟨e,f0,f1,f2,d⟩
theorem cV.va {pins pl:List (Addr×Obj)} {σ:St} {H:Hp} {s:Shared} (I:cV X (pins++pl) σ H s):cV X pins σ H s:=I.FW λp hp=>I.F9 p (bp _ (br _ hp))
theorem d8 {iter:Expr} {body:List Stmt} {wi:TI} {g:TG} {tb:TS} {pos:Pos} (hp:PassesOwn (model X.prog X.w) X.A X.bX X.xe) (hc:X.oq=true) (hi:PI X tg iter wi) (hg:PG X tg g) (hb:Hs X body tb)
  (hs:∀x,foldedSetIterable iter X.bX x=pure x:=by intro _;rfl):PS X (.For tg iter body [] pos) (V4 wi g tb):=by
 intro pins s σ H D I h
 refine wpAny_For (gU (hi pins s σ H _ I h) λv s1 h1=>gU h1 λitv s2 h2=> ?_) hs
 obtain ⟨it,fp,tn,J,H2,e,I2,T,st2,f2,W,⟨m0,w0⟩,turn⟩:=h2
 subst e
 have stat:∀{H':Hp},(∀b∈fp,H' b=none)->∀b∈fp,zw X pins H' b:=λhn b hb=>⟨hn b hb,(f2 b hb).2⟩
 refine codeAny_forLoop_any (λn s'=>∃i σ' H',cV X pins σ' H' s'/\tn i s'.heap/\(∀b∈fp,H' b=none)/\W i n σ' H') ?_ m0 ⟨0,σ,H2,I2,st2,λb hb=>(f2 b hb).1,w0⟩
 rintro n s3 ⟨i,σ3,H3,I3,st3,fr3,w3⟩
 rcases turn i n σ3 H3 w3 with ⟨stop,qn⟩|⟨go,N,hN,step⟩
 ·refine gA hp (gU (T.done X rfl rfl rfl hc i pins s3 σ3 H3 X.xe I3 (stat fr3) st3 stop) λr s4 ⟨hr,I4⟩=> ?_)
  subst hr
  exact mz ⟨σ3,H3,I4,qn⟩
 ·refine gA hp (gU (T.item X rfl rfl rfl hc i pins s3 σ3 H3 X.xe I3 (stat fr3) st3 go) λr s4 ⟨u,hr,h4⟩=> ?_)
  subst hr
  refine gA hp (gU h4 λ_ s5 ⟨x,H5,I5,r5,y5,st5,fr5⟩=> ?_)
  have I5':=I5.Jo (stat fr5) (T.obj _ _ st5)
  refine gA hp (gU (hg _ s5 σ3 H5 x u _ I5' r5 (step x H5 y5)) λ_ s6 ⟨σ6,H6,I6,q6⟩=> ?_)
  refine gA hp (gU (hb _ s6 σ6 H6 _ I6 q6) λf s7 q7=> ?_)
  have again:∀{σ7:St} {H7:Hp},cV X (pins++zh fp s5.heap) σ7 H7 s7->N σ7 H7->∃m,m< n/\∃i σ' H',cV X pins σ' H' s7/\tn i s7.heap/\(∀b∈fp,H' b=none)/\W i m σ' H':=λ{σ7 H7} I7 n7=>by
   obtain ⟨m',hm,w7⟩:=hN σ7 H7 n7
   refine ⟨m',hm,i+1,σ7,H7,I7.va,T.keep _ _ _ st5 λb hb o e=>(I7.F9 (b,o) (bp _ (bp _ (ux hb e)))).1,λb hb=> ?_,w7⟩
   obtain ⟨o,e,d⟩:=T.obj _ _ st5 b hb
   exact (I7.F9 (b,o) (bp _ (bp _ (ux hb e)))).2.1
  cases f with
  |next=>obtain ⟨σ7,H7,I7,n7⟩:=q7;exact again I7 n7
  |cont=>obtain ⟨σ7,H7,I7,n7⟩:=q7;exact again I7 n7
  |brk=>obtain ⟨σ7,H7,I7,q7⟩:=q7;exact ⟨σ7,H7,I7.va,q7⟩
  |ret v=>obtain ⟨x7,σ7,H7,I7,r7,q7⟩:=q7;exact ⟨x7,σ7,H7,I7.va,r7,q7⟩
end
theorem fY {K:PySem.W.Frag} {a:Addr} {xs:List V} {g:TG} {tb:TS} {D:Bc} {σ:St} {H:Hp} (Pv:Nat->St->Hp->Prop) (h0:Pv 0 σ H) (hl:∀i σ H,i<=xs.length->Pv i σ H->cE K H a xs)
  (hs:∀i x σ H,xs[i]? =some x->Pv i σ H->g x σ H fun σ2 H2=>tb {D with nx:=Pv (i+1),ct:=Pv (i+1),bk:=D.nx} σ2 H2) (hd:∀σ H,Pv xs.length σ H->D.nx σ H):
  ∃W:Nat->Nat->St->Hp->Prop,(∃m,W 0 m σ H)/\∀i m σ H,W i m σ H->
   ((MK K a).stop i H/\D.nx σ H)\/((MK K a).go i H/\∃N:St->Hp->Prop,(∀σ' H',N σ' H'->∃m',m'< m/\W (i+1) m' σ' H')/\∀x H',(MK K a).KR i H x H'->g x σ H' fun σ2 H2=>tb {D with nx:=N,ct:=N,bk:=D.nx} σ2 H2):=by
 refine ⟨λi m σ H=>m=xs.length-i/\i<=xs.length/\Pv i σ H,⟨xs.length,by simp,bD _,h0⟩,?_⟩
 rintro i m σ H ⟨rfl,hi,p⟩
 have q:=hl i σ H hi p
 by_cases hlt:i< xs.length
 ·refine .inr ⟨⟨xs,xs[i],q,by simp [hlt]⟩,Pv (i+1),fun σ' H' p'=>⟨xs.length-(i+1),by lia,rfl,hlt,p'⟩,λx H' y=> ?_⟩
  obtain ⟨e,y⟩:=y
  subst e
  exact hs i x σ _ (y xs q) p
 ·have e:i=xs.length:=by lia
  subst e
  exact .inl ⟨⟨xs,q,aF _⟩,hd σ H p⟩
theorem F2 {K:PySem.W.Frag} {a:Addr} {xs:List V} {g:TG} {tb:TS} {D:Bc} {σ:St} {H:Hp} (Pv:Nat->St->Hp->Prop) (h0:Pv 0 σ H) (hl:∀i σ H,i<=xs.length->Pv i σ H->kY K H a xs)
  (hs:∀i x σ H,xs[i]? =some x->Pv i σ H->g x σ H fun σ2 H2=>tb {D with nx:=Pv (i+1),ct:=Pv (i+1),bk:=D.nx} σ2 H2) (hd:∀σ H,Pv xs.length σ H->D.nx σ H):
  ∃W:Nat->Nat->St->Hp->Prop,(∃m,W 0 m σ H)/\∀i m σ H,W i m σ H->
   ((M0 K a).stop i H/\D.nx σ H)\/((M0 K a).go i H/\∃N:St->Hp->Prop,(∀σ' H',N σ' H'->∃m',m'< m/\W (i+1) m' σ' H')/\∀x H',(M0 K a).KR i H x H'->g x σ H' fun σ2 H2=>tb {D with nx:=N,ct:=N,bk:=D.nx} σ2 H2):=by
 refine ⟨λi m σ H=>m=xs.length-i/\i<=xs.length/\Pv i σ H,⟨xs.length,by simp,bD _,h0⟩,?_⟩
 rintro i m σ H ⟨rfl,hi,p⟩
 have q:=hl i σ H hi p
 by_cases hlt:i< xs.length
 ·refine .inr ⟨⟨xs,xs[i],q,by simp [hlt]⟩,Pv (i+1),fun σ' H' p'=>⟨xs.length-(i+1),by lia,rfl,hlt,p'⟩,λx H' y=> ?_⟩
  obtain ⟨e,y⟩:=y
  subst e
  exact hs i x σ _ (y xs q) p
 ·have e:i=xs.length:=by lia
  subst e
  exact .inl ⟨⟨xs,q,aF _⟩,hd σ H p⟩
theorem fP {lo:Int} {n:Nat} {g:TG} {tb:TS} {D:Bc} {σ:St} {H:Hp} (Pv:Nat->St->Hp->Prop) (h0:Pv 0 σ H)
  (hs:∀i σ H,i< n->Pv i σ H->g (.int (lo+i)) σ H fun σ2 H2=>tb {D with nx:=Pv (i+1),ct:=Pv (i+1),bk:=D.nx} σ2 H2) (hd:∀σ H,Pv n σ H->D.nx σ H):
  ∃W:Nat->Nat->St->Hp->Prop,(∃m,W 0 m σ H)/\∀i m σ H,W i m σ H->
   ((KW lo n).stop i H/\D.nx σ H)\/((KW lo n).go i H/\∃N:St->Hp->Prop,(∀σ' H',N σ' H'->∃m',m'< m/\W (i+1) m' σ' H')/\∀x H',(KW lo n).KR i H x H'->g x σ H' fun σ2 H2=>tb {D with nx:=N,ct:=N,bk:=D.nx} σ2 H2):=by
 refine ⟨λi m σ H=>m=n-i/\i<=n/\Pv i σ H,⟨n,by simp,bD _,h0⟩,?_⟩
 rintro i m σ H ⟨rfl,hi,p⟩
 by_cases hlt:i< n
 ·refine .inr ⟨hlt,Pv (i+1),fun σ' H' p'=>⟨n-(i+1),by lia,rfl,hlt,p'⟩,λx H' y=> ?_⟩
  obtain ⟨e,y⟩:=y
  subst e y
  exact hs i σ _ hlt p
 ·have e:i=n:=by lia
  subst e
  exact .inl ⟨aF _,hd σ H p⟩
end L2
namespace L2
open PySem PySem.Spec PyProof.Rows
abbrev R2:=V->V->Hp->VK->Prop
def Aj (X:Cx) (f:Value->Value->Sem Value) (r:R2):Prop:=
 ∀(pins:List (Addr×Obj)) (s:Shared) (σ:St) (H:Hp) (x y:V) (v u:Value) (Q:VK),cV X pins σ H s->dP x v->dP y u->r x y H Q->
  wpAny (model X.prog X.w) X.A (f v u) (EP X pins σ Q) X.xe s
def WH (X:Cx) (f:Value->Sem Value) (r:V->Hp->VK->Prop):Prop:=
 ∀(pins:List (Addr×Obj)) (s:Shared) (σ:St) (H:Hp) (x:V) (v:Value) (Q:VK),cV X pins σ H s->dP x v->r x H Q->
  wpAny (model X.prog X.w) X.A (f v) (EP X pins σ Q) X.xe s
def hJ (X:Cx) (f:Value) (r:List V->Hp->VK->Prop):Prop:=
 ∀(pins:List (Addr×Obj)) (s:Shared) (σ:St) (H:Hp) (xs:List V) (us:List Value) (Q:VK),cV X pins σ H s->c7 xs us->r xs H Q->
  wpAny (model X.prog X.w) X.A (call f us) (EP X pins σ Q) X.xe s
def WN (X:Cx) (r:V->Hp->(Bool->Hp->Prop)->Prop):Prop:=
 ∀(pins:List (Addr×Obj)) (s:Shared) (σ:St) (H:Hp) (x:V) (v:Value) (Q:Bool->Hp->Prop),cV X pins σ H s->dP x v->r x H Q->
  wpAny (model X.prog X.w) X.A (truthy v) (TP X pins σ Q) X.xe s
def Vh (r:R2) (ta tb:TE):TE:=fun σ H Q=>ta σ H λx H1=>tb σ H1 λy H2=>r x y H2 Q
def Zb (r:V->Hp->VK->Prop) (ta:TE):TE:=fun σ H Q=>ta σ H λx H1=>r x H1 Q
def rI (C:Int->Int->Prop) (g:Int->Int->V):R2:=λx y H Q=>∃i j,x= .int i/\y= .int j/\C i j/\Q (g i j) H
def Nd (g:Int->Int->V):R2:=λx y H Q=>∃i j,x= .int i/\y= .int j/\Q (g i j) H
def rU (g:Int->V):V->Hp->VK->Prop:=λx H Q=>∃i,x= .int i/\Q (g i) H
section
variable {X:Cx} {a b c:Expr} {ta tb tc:TE} {pos:Pos}
theorem Oj (ha:PE X a ta) (hb:PE X b tb) {pins:List (Addr×Obj)} {s:Shared} {σ:St} {H:Hp} {R:V->V->Hp->Prop} (I:cV X pins σ H s)
  (h:ta σ H λx H1=>tb σ H1 λy H2=>R x y H2) {Q:Value->Shared->Prop} {f:Value->Value->Sem Value}
  (hf:∀v u s2 x y H2,cV X pins σ H2 s2->dP x v->dP y u->R x y H2->wpAny (model X.prog X.w) X.A (f v u) Q X.xe s2):
  wpAny (model X.prog X.w) X.A (eval a X.bX) (λv s₁=>wpAny (model X.prog X.w) X.A (eval b X.bX) (λu s₂=>wpAny (model X.prog X.w) X.A (f v u) Q X.xe s₂) X.xe s₁) X.xe s:=by
 refine gU (ha pins s σ H _ I h) λv s1 ⟨x,H1,I1,r1,q1⟩=> ?_
 refine gU (hb pins s1 σ H1 _ I1 q1) λu s2 ⟨y,H2,I2,r2,q2⟩=> ?_
 exact hf v u s2 x y H2 I2 r1 r2 q2
theorem eY {op:Operator} {r:R2} (ho:Aj X (binaryOp op) r) (ha:PE X a ta) (hb:PE X b tb):PE X (.BinOp a op b pos) (Vh r ta tb):=by
 intro pins s σ H Q I h
 exact wpAny_BinOp (Oj ha hb I h λv u s2 x y H2 I2 rx ry q=>ho pins s2 σ H2 x y v u Q I2 rx ry q)
theorem Jc {op:UnaryOp} {r:V->Hp->VK->Prop} (ho:WH X (unaryOp op) r) (ha:PE X a ta):PE X (.UnaryOp op a pos) (Zb r ta):=by
 intro pins s σ H Q I h
 exact UnaryOp_ (gU (ha pins s σ H _ I h) λv s1 ⟨x,H1,I1,r1,q1⟩=>ho pins s1 σ H1 x v Q I1 r1 q1)
theorem Wx {f:Value->Value->Sem Value} {C:Int->Int->Prop} {g:Int->Int->Int}
  (rule:∀(i j:Int) (t u:Tok) (s:Shared) (Q:Value->Shared->Prop) (E:Value->Shared->Prop),C i j->Q (.int (g i j) s.toks) {s with toks:=s.toks+1}->wpAny (model X.prog X.w) X.A (f (.int i t) (.int j u)) Q E s):
  Aj X f (rI C λi j=> .int (g i j)):=by
 intro pins s σ H x y v u Q I rx ry h
 obtain ⟨i,j,rfl,rfl,hc,q⟩:=h
 obtain ⟨t,rfl⟩:=rx
 obtain ⟨t',rfl⟩:=ry
 exact rule i j t t' s _ _ hc ⟨.int (g i j),H,I.uR _,⟨_,rfl⟩,q⟩
theorem QD {f:Value->Value->Sem Value} {g:Int->Int->Int}
  (rule:∀(i j:Int) (t u:Tok) (s:Shared) (Q:Value->Shared->Prop) (E:Value->Shared->Prop),Q (.int (g i j) s.toks) {s with toks:=s.toks+1}->wpAny (model X.prog X.w) X.A (f (.int i t) (.int j u)) Q E s):
  Aj X f (Nd λi j=> .int (g i j)):=by
 intro pins s σ H x y v u Q I rx ry h
 obtain ⟨i,j,rfl,rfl,q⟩:=h
 obtain ⟨t,rfl⟩:=rx
 obtain ⟨t',rfl⟩:=ry
 exact rule i j t t' s _ _ ⟨.int (g i j),H,I.uR _,⟨_,rfl⟩,q⟩
theorem LW {f:Value->Value->Sem Value} {g:Int->Int->Bool}
  (rule:∀(i j:Int) (t u:Tok) (s:Shared) (Q:Value->Shared->Prop) (E:Value->Shared->Prop),Q (.bool (g i j)) s->wpAny (model X.prog X.w) X.A (f (.int i t) (.int j u)) Q E s):
  Aj X f (Nd λi j=> .bl (g i j)):=by
 intro pins s σ H x y v u Q I rx ry h
 obtain ⟨i,j,rfl,rfl,q⟩:=h
 obtain ⟨t,rfl⟩:=rx
 obtain ⟨t',rfl⟩:=ry
 exact rule i j t t' s _ _ ⟨.bl (g i j),H,I,rfl,q⟩
def Wd (i j:Int):Prop:=0< j/\j< 1073741824
def NG (i j:Int):Prop:=(-(2 ^ 64)< i/\i< 2 ^ 64)\/(-(2 ^ 64)< j/\j< 2 ^ 64)
theorem NG.ok {i j:Int} (h:NG i j):IntMulOk i j:=by
 rcases h with ⟨h1,h2⟩|⟨h1,h2⟩
 ·exact .of_left (intBits_le_64 h1 h2)
 ·exact .of_right (intBits_le_64 h1 h2)
theorem lA:Aj X (binaryOp .Add) (Nd λi j=> .int (i+j)):=QD λ_ _ _ _ _ _ _ q=>add_int q
theorem o6:Aj X (binaryOp .Sub) (Nd λi j=> .int (i-j)):=QD λ_ _ _ _ _ _ _ q=>sub_int q
theorem NO:Aj X (binaryOp .Mult) (rI NG λi j=> .int (i*j)):=Wx λ_ _ _ _ _ _ _ hc q=>mul_int q hc.ok
theorem Bj:Aj X (binaryOp .FloorDiv) (rI Wd λi j=> .int (i / j)):=Wx λi j _ _ _ _ _ hc q=>by
 have h1:(0:Int)< j:=hc.1
 have h2:j< 1073741824:=hc.2
 exact floordiv_int (by lia) (by rw [Int.fdiv_eq_ediv_of_nonneg i (by lia)];exact q) (.inl (qd (by lia)))
theorem AV:Aj X (binaryOp .Mod) (rI (λ_ j=>0< j) λi j=> .int (i % j)):=Wx λi j _ _ _ _ _ hc q=>by
 have h1:(0:Int)< j:=hc
 exact mod_int' (by lia) (by rw [Int.fmod_eq_emod_of_nonneg i (by lia)];exact q)
theorem Zh {f:Value->Sem Value} {g:Int->Int}
  (rule:∀(i:Int) (t:Tok) (s:Shared) (Q:Value->Shared->Prop) (E:Value->Shared->Prop),Q (.int (g i) s.toks) {s with toks:=s.toks+1}->wpAny (model X.prog X.w) X.A (f (.int i t)) Q E s):
  WH X f (rU λi=> .int (g i)):=by
 intro pins s σ H x v Q I rx h
 obtain ⟨i,rfl,q⟩:=h
 obtain ⟨t,rfl⟩:=rx
 exact rule i t s _ _ ⟨.int (g i),H,I.uR _,⟨_,rfl⟩,q⟩
theorem Fj:WH X (unaryOp .USub) (rU λi=> .int (-i)):=Zh λ_ _ _ _ _ q=>neg_int q
end
def TM:V->V->Bool
 | .ll,.ll=>true| .ll,.int _=>true| .int _,.ll=>true| .ll,.bl _=>true| .bl _,.ll=>true| .ll,.str _=>true| .str _,.ll=>true
 | .int _,.int _=>true| .bl _,.bl _=>true| .str _,.str _=>true| .Cg _,.Cg _=>true
 | .int _,.str _=>true| .str _,.int _=>true| .bl _,.str _=>true| .str _,.bl _=>true
 |_,_=>false
def Zf:R2:=λx y H Q=>TM x y=true/\Q (.bl (decide (x=y))) H
def Zi:R2:=λx y H Q=>TM x y=true/\Q (.bl (!decide (x=y))) H
theorem FN {i j:Int}:decide (V.int i=V.int j)=(i==j):=by
 rw [dW]
 simp
theorem Jl {i j:Bool}:decide (V.bl i=V.bl j)=(i==j):=by
 rw [dW]
 simp
theorem Gi {i j:Str}:decide (V.str i=V.str j)=(i==j):=by
 rw [dW]
 simp
theorem FI {i j:Array UInt8}:decide (V.Cg i=V.Cg j)=(i.toList==j.toList):=by
 rw [dW]
 cases i
 cases j
 simp
section
variable {X:Cx} {a b c:Expr} {ta tb tc:TE} {pos:Pos}
theorem eS {pins:List (Addr×Obj)} {σ:St} {H:Hp} {s:Shared} {Q:VK} {k k':Bool} (I:cV X pins σ H s) (q:Q (.bl k) H) (e:k=k'):EP X pins σ Q (.bool k') s:=by
 subst e
 exact ⟨.bl k,H,I,rfl,q⟩
theorem dU:Aj X (compareOp .Eq) Zf:=by
 intro pins s σ H x y v u Q I rx ry h
 obtain ⟨hs,q⟩:=h
 cases x with
 |ll=>
  cases rx
  cases y with
  |ll=>cases ry;exact PySem.EqNone.eq_none_none (eS I q (by simp))
  |bl j=>cases ry;exact PySem.EqNone.eq_none_bool (eS I q (by simp))
  |int j=>obtain ⟨t',rfl⟩:=ry;exact PySem.EqNone.eq_none_int (eS I q (by simp))
  |str j=>obtain ⟨t',rfl⟩:=ry;exact PySem.EqNone.eq_none_str (eS I q (by simp))
  |_=>exact absurd (show false=true from hs) bK
 |bl i=>
  cases rx
  cases y with
  |ll=>cases ry;exact PySem.EqNone.eq_bool_none (eS I q (by simp))
  |bl j=>cases ry;exact eq_bool (eS I q Jl)
  |str j=>obtain ⟨t',rfl⟩:=ry;exact PySem.EqMixed.eq_bool_str (eS I q (by simp))
  |_=>exact absurd (show false=true from hs) bK
 |int i=>
  obtain ⟨t,rfl⟩:=rx
  cases y with
  |ll=>cases ry;exact PySem.EqNone.eq_int_none (eS I q (by simp))
  |int j=>obtain ⟨t',rfl⟩:=ry;exact eq_int (eS I q FN)
  |str j=>obtain ⟨t',rfl⟩:=ry;exact PySem.EqMixed.eq_int_str (eS I q (by simp))
  |_=>exact absurd (show false=true from hs) bK
 |str i=>
  obtain ⟨t,rfl⟩:=rx
  cases y with
  |ll=>cases ry;exact PySem.EqNone.eq_str_none (eS I q (by simp))
  |bl j=>cases ry;exact PySem.EqMixed.eq_str_bool (eS I q (by simp))
  |int j=>obtain ⟨t',rfl⟩:=ry;exact PySem.EqMixed.eq_str_int (eS I q (by simp))
  |str j=>obtain ⟨t',rfl⟩:=ry;exact eq_str (eS I q Gi)
  |_=>exact absurd (show false=true from hs) bK
 |Cg i=>
  obtain ⟨t,rfl⟩:=rx
  cases y with
  |Cg j=>obtain ⟨t',rfl⟩:=ry;exact PySem.W.eq_bytes (eS I q FI)
  |_=>exact absurd (show false=true from hs) bK
 |_=>cases y<;>exact absurd (show false=true from hs) bK
theorem mP:Aj X (compareOp .NotEq) Zi:=by
 intro pins s σ H x y v u Q I rx ry h
 obtain ⟨hs,q⟩:=h
 cases x with
 |ll=>
  cases rx
  cases y with
  |ll=>cases ry;exact PySem.EqNone.ne_none_none (eS I q (by simp))
  |bl j=>cases ry;exact PySem.EqNone.ne_none_bool (eS I q (by simp))
  |int j=>obtain ⟨t',rfl⟩:=ry;exact PySem.EqNone.ne_none_int (eS I q (by simp))
  |str j=>obtain ⟨t',rfl⟩:=ry;exact PySem.EqNone.ne_none_str (eS I q (by simp))
  |_=>exact absurd (show false=true from hs) bK
 |bl i=>
  cases rx
  cases y with
  |ll=>cases ry;exact PySem.EqNone.ne_bool_none (eS I q (by simp))
  |bl j=>cases ry;exact ne_bool (eS I q (cS not Jl))
  |str j=>obtain ⟨t',rfl⟩:=ry;exact PySem.EqMixed.ne_bool_str (eS I q (by simp))
  |_=>exact absurd (show false=true from hs) bK
 |int i=>
  obtain ⟨t,rfl⟩:=rx
  cases y with
  |ll=>cases ry;exact PySem.EqNone.ne_int_none (eS I q (by simp))
  |int j=>obtain ⟨t',rfl⟩:=ry;exact ne_int (eS I q (cS not FN))
  |str j=>obtain ⟨t',rfl⟩:=ry;exact PySem.EqMixed.ne_int_str (eS I q (by simp))
  |_=>exact absurd (show false=true from hs) bK
 |str i=>
  obtain ⟨t,rfl⟩:=rx
  cases y with
  |ll=>cases ry;exact PySem.EqNone.ne_str_none (eS I q (by simp))
  |bl j=>cases ry;exact PySem.EqMixed.ne_str_bool (eS I q (by simp))
  |int j=>obtain ⟨t',rfl⟩:=ry;exact PySem.EqMixed.ne_str_int (eS I q (by simp))
  |str j=>obtain ⟨t',rfl⟩:=ry;exact ne_str (eS I q (cS not Gi))
  |_=>exact absurd (show false=true from hs) bK
 |Cg i=>
  obtain ⟨t,rfl⟩:=rx
  cases y with
  |Cg j=>obtain ⟨t',rfl⟩:=ry;exact PySem.W.ne_bytes (eS I q (cS not FI))
  |_=>exact absurd (show false=true from hs) bK
 |_=>cases y<;>exact absurd (show false=true from hs) bK
theorem rb:Aj X (compareOp .Lt) (Nd λi j=> .bl (decide (i< j))):=LW λ_ _ _ _ _ _ _ q=>lt_int q
theorem MO:Aj X (compareOp .LtE) (Nd λi j=> .bl (decide (i<=j))):=LW λ_ _ _ _ _ _ _ q=>le_int q
theorem zi:Aj X (compareOp .Gt) (Nd λi j=> .bl (decide (j< i))):=LW λ_ _ _ _ _ _ _ q=>gt_int q
theorem JW:Aj X (compareOp .GtE) (Nd λi j=> .bl (decide (j<=i))):=LW λ_ _ _ _ _ _ _ q=>ge_int q
theorem bN (b:Expr) {op:CmpOp} (h:op≠.In:=by decide) (h2:op≠.NotIn:=by decide):behindInMarks op b=false:=by
 have e1:(op==CmpOp.In)=false:=by cases op<;>first|rfl|exact absurd rfl h
 have e2:(op==CmpOp.NotIn)=false:=by cases op<;>first|rfl|exact absurd rfl h2
 cases b<;>simp [behindInMarks,e1,e2]
theorem oH {op:CmpOp} {r:R2} (ho:Aj X (compareOp op) r) (ha:PE X a ta) (hb:PE X b tb) (hm:behindInMarks op b=false):PE X (.Compare a [op] [b] pos) (Vh r ta tb):=by
 intro pins s σ H Q I h
 exact wpAny_Compare1 (Oj ha hb I h λv u s2 x y H2 I2 rx ry q=>ho pins s2 σ H2 x y v u Q I2 rx ry q) hm
def R8 (t:TE):TT:=fun σ H Q=>t σ H λx H'=>∃k,x= .bl k/\Q k H'
theorem bo {op:CmpOp} {r:R2} (ho:Aj X (compareOp op) r) (ha:PE X a ta) (hb:PE X b tb) (hm:behindInMarks op b=false):PT X (.Compare a [op] [b] pos) (R8 (Vh r ta tb)):=by
 intro pins s σ H Q I h
 refine wpAny_isTrue_Compare1 (gU (ha pins s σ H _ I h) λv s1 ⟨x,H1,I1,r1,q1⟩=>gU (hb pins s1 σ H1 _ I1 q1) λu s2 ⟨y,H2,I2,r2,q2⟩=>
  gU (ho pins s2 σ H2 x y v u _ I2 r1 r2 q2) λc s3 ⟨z,H3,I3,r3,k,e,q3⟩=> ?_) hm
 subst e
 cases r3
 exact eU ⟨H3,I3,q3⟩
def O9 (K:PySem.W.Frag) (x:V) (H:Hp) (k:Bool):Prop:=
 match x with
 | .ll=>k=false
 | .bl b=>k=b
 | .int i=>k=(i !=0)
 | .str y=>y.length<=sizeLine/\k=((y.length:Int) !=0)
 | .Cg y=>y.size<=sizeLine/\k=((y.size:Int) !=0)
 | .ref p=>(∃xs,cE K H p xs/\k= !xs.isEmpty)\/(∃xs,kY K H p xs/\k= !xs.isEmpty)\/∃kvs,H p=some (.dK kvs)/\k= !kvs.isEmpty
 |_=>False
theorem EO {κ:Type} {kvs:List (κ×V)} {vs:List (κ×Value)} (r:KV kvs vs):(!vs.isEmpty)= !kvs.isEmpty:=by
 cases r<;>rfl
theorem yj {xs:List V} {its:List Value} (r:c7 xs its):(!its.toArray.isEmpty)= !xs.isEmpty:=by
 cases r<;>simp
theorem yS:(sizeLine:Nat)< 2 ^ 63:=by rw [dH];decide
theorem Ot:WN X (λx H Q=>∃k,O9 X.K x H k/\Q k H):=by
 intro pins s σ H x v Q I rx h
 obtain ⟨k,e,q⟩:=h
 have hl:=yS
 have hs:sizeLine=16777216:=dH
 cases x with
 |ll=>
  cases rx
  have e':k=false:=e
  subst e'
  exact truthy_none ⟨H,I,q⟩
 |bl b=>
  cases rx
  have e':k=b:=e
  subst e'
  exact eU ⟨H,I,q⟩
 |int i=>
  obtain ⟨t,rfl⟩:=rx
  have e':k=(i !=0):=e
  subst e'
  exact PySem.P.truthy_int ⟨H,I,q⟩
 |str y=>
  obtain ⟨t,rfl⟩:=rx
  obtain ⟨hy,e'⟩:y.length<=sizeLine/\k=((y.length:Int) !=0):=e
  subst e'
  exact PySem.P.truthy_str (by lia) ⟨H,I.uR _,q⟩
 |Cg y=>
  obtain ⟨t,rfl⟩:=rx
  obtain ⟨hy,e'⟩:y.size<=sizeLine/\k=((y.size:Int) !=0):=e
  subst e'
  exact PySem.W.truthy_bytes (by lia) ⟨H,I.uR _,q⟩
 |ref p=>
  cases rx
  have e':(∃xs,cE X.K H p xs/\k= !xs.isEmpty)\/(∃xs,kY X.K H p xs/\k= !xs.isEmpty)\/∃kvs,H p=some (.dK kvs)/\k= !kvs.isEmpty:=e
  rcases e' with ⟨xs,hx,e'⟩|⟨xs,hx,e'⟩|⟨kvs,hx,e'⟩
  ·subst e'
   obtain ⟨its,r,pl,hz⟩:=I.list hx
   have hlen:=r.length
   exact wpAny_truthy_list pl.isList (by simp only [ba];lia) ⟨H,I.uR _,by rw [yj r];exact q⟩
  ·subst e'
   obtain ⟨its,r,pl,hz⟩:=I.tuple hx
   have hlen:=r.length
   exact truthy_tuple pl (by simp only [ba];lia) ⟨H,I.uR _,by rw [yj r];exact q⟩
  ·subst e'
   obtain ⟨hz,hS,vs,r,m⟩:kvs.length<=sizeLine/\(p==sysModules)=false/\∃vs,KV kvs vs/\s.heap.DictOf (f9 X.prog X.w) p vs:=I.fD p _ hx
   have hlen:kvs.length=vs.length:=Paired.length r
   exact wpAny_truthy_dict hS m (by lia) ⟨H,I.uR _,by rw [EO r];exact q⟩
 |_=>exact (show False from e).elim
theorem Jz (ha:PE X a ta) (he:∀whole,isTrue a X.bX whole=(do let v <-whole;standAt a.pos;holding [v] (truthy v))):
  PT X a (fun σ H Q=>ta σ H λx H'=>∃k,O9 X.K x H' k/\Q k H'):=by
 intro pins s σ H Q I h
 exact isTrue_plain (gU (ha pins s σ H _ I h) λv s1 ⟨x,H1,I1,r1,q1⟩=>Ot pins s1 σ H1 x v Q I1 r1 q1) (he _)
theorem F3 {x:V} {us:List Value} (r:c7 [x] us):∃u,us=[u]/\dP x u:=by
 cases r with
 |cons r1 r2=>cases r2;exact ⟨_,rfl,r1⟩
theorem ML {x y:V} {us:List Value} (r:c7 [x,y] us):∃u w',us=[u,w']/\dP x u/\dP y w':=by
 cases r with
 |cons r1 r2=>
  cases r2 with
  |cons r3 r4=>cases r4;exact ⟨_,_,rfl,r1,r3⟩
theorem sZ (hc:X.oq=true):hJ X (.builtin "max") (λxs H Q=>∃i j,xs=[.int i,.int j]/\Q (.int (if j>i then j else i)) H):=by
 intro pins s σ H xs us Q I r h
 obtain ⟨i,j,rfl,q⟩:=h
 obtain ⟨u,w',rfl,⟨t,rfl⟩,⟨t',rfl⟩⟩:=ML r
 refine max_two_ints (I.ok.hd hc) λh' tk k=>⟨_,H,I.k0 k,?_,q⟩
 by_cases hj:j>i
 ·rw [aA hj,aA hj];exact ⟨_,rfl⟩
 ·rw [au hj,au hj];exact ⟨_,rfl⟩
theorem wB (hc:X.oq=true):hJ X (.builtin "min") (λxs H Q=>∃i j,xs=[.int i,.int j]/\Q (.int (if j< i then j else i)) H):=by
 intro pins s σ H xs us Q I r h
 obtain ⟨i,j,rfl,q⟩:=h
 obtain ⟨u,w',rfl,⟨t,rfl⟩,⟨t',rfl⟩⟩:=ML r
 refine min_two_ints (I.ok.hd hc) λh' tk k=>⟨_,H,I.k0 k,?_,q⟩
 by_cases hj:j< i
 ·rw [aA hj,aA hj];exact ⟨_,rfl⟩
 ·rw [au hj,au hj];exact ⟨_,rfl⟩
end
end L2
namespace L2
open PySem PySem.Spec PyProof.Rows
structure Fq (h:Heap) (x dx C:Addr) (mA:Str->Option Value):Prop where
 obj:h.get? x=some (PySem.W.instObj C dx)
 ns:h.Ns1 dx mA
 ne:dx≠x
theorem HE {h:Heap} {dx:Addr} {mA:Str->Option Value} (n:h.Ns1 dx mA):∃od,h.get? dx=some od/\∀name,PySem.W.lookIn name od=some (mA name):=by
 obtain ⟨o,es,ep,ho,hd,hk,_,hm⟩:=n
 refine ⟨o,ho,λname=> ?_⟩
 have e:=hm name
 unfold nsFind findBy at e
 rw [<-Array.find?_toList] at e
 unfold PySem.W.lookIn
 rw [hd]
 dsimp only
 split
 ·rename_i y q
  rw [q] at e
  exact cS some e
 ·rename_i q
  rw [q] at e
  have a:es.toList.any (·.refKey)=false:=by
   rw [kg]
   intro y hy
   obtain ⟨z,t,hkey⟩:=hk y (Array.mem_toList_iff.mp hy)
   simp [DictEntry.refKey,hkey]
  have a':¬es.toList.any (·.refKey)=true:=by rw [a];exact bK
  rw [au a']
  exact cS some e
theorem Fq.HK {h:Heap} {x dx C:Addr} {mA:Str->Option Value} (I:Fq h x dx C mA):∃od,PySem.W.InstAt h x (PySem.W.instObj C dx) C (some od)/\∀name,PySem.W.lookIn name od=some (mA name):=
 let ⟨od,ho,hl⟩:=HE I.ns
 ⟨od,⟨I.obj,rfl,rfl,ho⟩,hl⟩
section
variable {prog:Program} {w:World} {A:Around} {E:Value->Shared->Prop} {s:Shared} {K:PySem.W.Frag} {x dx C f:Addr} {mA:Str->Option Value} {name:Str} {v:Value}
theorem LK {expr:Bool} {Q:Value->Shared->Prop} (X:K.In s.heap) (I:Fq s.heap x dx C mA) (hg:PySem.W.plainGet K C name=true) (hh:PySem.W.hasDictIn K C=true)
  (ha:PySem.W.findIn K (.ref C) name=some none) (hv:mA name=some v) (hv':PySem.W.handedIn v=true) (h:Q v {s with toks:=s.toks+1}):
  wpAny (model prog w) A (getAttr (.ref x) name expr) Q E s:=by
 obtain ⟨od,J,hl⟩:=I.HK
 exact PySem.W.get_value X J (mN hg).1 (PySem.W.findObj_own hh ha rfl (by rw [hl,hv])) hv' h
theorem Ja {pl:Sem Bool} {Q:Value×List Value->Shared->Prop} (X:K.In s.heap) (I:Fq s.heap x dx C mA) (hg:PySem.W.plainGet K C name=true)
  (hf:PySem.W.findIn K (.ref C) name=some (some (.ref f))) (ht:PySem.W.isFn K (.ref f)=true) (hv:mA name=none) (h:Q (.ref f,[.ref x]) s):
  wpAny (model prog w) A (getMethod (.ref x) name pl) Q E s:=by
 obtain ⟨od,J,hl⟩:=I.HK
 exact PySem.W.method_fn X J (mN hg).1 (mN hg).2 hf (cR.mp ht) (by show (PySem.W.lookIn name od).map (·.isSome)=some false;rw [hl,hv];rfl) h
theorem Mc {ns:List Str} {Q:Unit->Shared->Prop} (X:K.In s.heap) (I:Fq s.heap x dx C mA)
  (hs:PySem.W.findIn K (.ref C) "__setattr__"=some (some (.builtin "object.__setattr__"))) (hp:PySem.W.plainOver K C=true) (ht:PySem.W.takerIn K C name=some none) (hh:PySem.W.hasDictIn K C=true)
  (hw:PySem.Within mA ns) (hsz:ns.length<=sizeLine)
  (h:∀h',Fq h' x dx C (λy=>if y=name then some v else mA y)->Heap.SameBut dx s.heap h'->Q () {s with heap:=h',toks:=s.toks+2}):
  wpAny (model prog w) A (setAttr (.ref x) name v) Q E s:=by
 obtain ⟨od,J,hl⟩:=I.HK
 refine PySem.W.set_plain X J hs (PySem.W.osa_open (s:={s with toks:=s.toks+1}) (r:=none) X J hp ht λb=> ?_)
 obtain ⟨cd,hc,hd'⟩:=PySem.W.any_some hh
 have hx:s.heap.get? x=some ⟨.ref C,some dx,.plain,#[]⟩:=I.obj
 refine ag (aH (ag (ag (wpAny_loadPart hx (ag (PySem.W.Looks.here (s:={s with toks:=s.toks+1}) (PySem.W.looks_clsIn X hc) ?_))))))
 rw [hd']
 refine aH (a:=some dx) (ag (aH (ag ?_)))
 refine wpAny_nsSet1 (s:={s with toks:=s.toks+1}) I.ns λh' hn2 hs2=> ?_
 obtain ⟨oD,esD,epD,hoD,hdD,hcD⟩:=hn2.count (PySem.Within.cons name v hw)
 refine ag (wpAny_lookBehind hoD (by rw [hdD];exact pastItsLine_dict (bg hcD (by rw [aB];lia))) ?_)
 exact aH (h _ ⟨(hs2.2 _ (aY I.ne)).trans I.obj,hn2,I.ne⟩ hs2)
theorem JT {R:Result->Shared->Prop} {vs:List Value} {kw:List (Str×Value)} (X:K.In s.heap) (hm:PySem.W.makesIn K C=true)
  (hi:PySem.W.findIn K (.ref C) "__init__"=some (some (.ref f))) (hf:PySem.W.typeIn K (.ref f)=some (.type "function"))
  (h:codeAny (model prog w) (A.under (.builtin "type.__call__" ⟨.ref C::vs,kw⟩)) (.call (.ref f) ⟨.ref (s.heap.objs.size+1)::vs,kw⟩) (PySem.W.InitBack (s.heap.objs.size+1) R)
   {s with heap:=(s.heap.push PySem.W.emptyDict).push (PySem.W.instObj C s.heap.objs.size)}):
  codeAny (model prog w) A (.call (.ref C) ⟨vs,kw⟩) R s:=by
 obtain ⟨hh,g,d,t,os⟩:=s
 exact PySem.W.make_core (PySem.W.makes_of X hm) (PySem.W.looks_findIn X hi) (λself=>PySem.W.bind_fn X self hf) (.inl rfl) h
end
def kd (f:Str) (v:V):List (Str×V)->List (Str×V)
 |[]=>[(f,v)]
 |(g,x)::r=>if g=f then (g,v)::r else (g,x)::kd f v r
theorem xf (f g:Str) (v:V):∀fs:List (Str×V),(kd f v fs).lookup g=if g=f then some v else fs.lookup g
 |[]=>by
  show List.lookup g [(f,v)]=_
  by_cases h:g=f
  ·have hb:(g==f)=true:=cR.mpr h
   simp only [List.lookup,hb,aA h]
  ·have hb:(g==f)=false:=bZ.mpr h
   simp only [List.lookup,hb,au h]
 |(k,x)::r=>by
  have ih:=xf f g v r
  rw [show kd f v ((k,x)::r)=(if k=f then (k,v)::r else (k,x)::kd f v r) from rfl]
  by_cases hk:k=f
  ·rw [aA hk]
   by_cases h:g=k
   ·have hb:(g==k)=true:=cR.mpr h
    simp only [List.lookup,hb,aA (h.trans hk)]
   ·have hb:(g==k)=false:=bZ.mpr h
    simp only [List.lookup,hb,au (λe:g=f=>h (e.trans hk.symm))]
  ·rw [au hk]
   by_cases h:g=k
   ·have hb:(g==k)=true:=cR.mpr h
    simp only [List.lookup,hb,au (λe:g=f=>hk (h.symm.trans e))]
   ·have hb:(g==k)=false:=bZ.mpr h
    simp only [List.lookup,hb]
    exact ih
theorem wt (f:Str) (v:V):∀fs:List (Str×V),f∈(kd f v fs).map (·.1)/\∀g,g∈fs.map (·.1)->g∈(kd f v fs).map (·.1)
 |[]=>⟨by simp [kd],λg h=>by simp at h⟩
 |(k,x)::r=>by
  obtain ⟨i1,i2⟩:=wt f v r
  rw [show kd f v ((k,x)::r)=(if k=f then (k,v)::r else (k,x)::kd f v r) from rfl]
  by_cases hk:k=f
  ·rw [aA hk]
   subst hk
   exact ⟨by simp,λg h=>by simpa using h⟩
  ·rw [au hk]
   refine ⟨?_,λg h=> ?_⟩
   ·rw [bA]
    exact aE _ i1
   ·rw [bA] at h ⊢
    rcases aX.mp h with e|e
    ·exact aX.mpr (.inl e)
    ·exact aE _ (i2 g e)
theorem wY (f:Str) (v:V):∀fs:List (Str×V),(kd f v fs).length<=fs.length+1
 |[]=>by simp [kd]
 |(k,x)::r=>by
  have ih:=wY f v r
  rw [show kd f v ((k,x)::r)=(if k=f then (k,v)::r else (k,x)::kd f v r) from rfl]
  by_cases hk:k=f
  ·rw [aA hk,aB,aB];lia
  ·rw [au hk,aB,aB];lia
theorem rn.AL {v:V} {o:Option Value} (r:rn (some v) o):∃u,o=some u/\dP v u:=by
 cases o with
 |none=>exact (show False from r).elim
 |some u=>exact ⟨u,rfl,r⟩
theorem rn.Le {o:Option Value} (r:rn none o):o=none:=by
 cases o with
 |none=>rfl
 |some u=>exact (show False from r).elim
theorem Ij {v:V} {u:Value} (r:dP v u):PySem.W.handedIn u=true:=by
 cases v with
 |ll=>cases (show u=Value.none from r);rfl
 |bl b=>cases (show u=Value.bool b from r);rfl
 |int i=>obtain ⟨t,e⟩:=(show ∃t,u=Value.int i t from r);cases e;rfl
 |str x=>obtain ⟨t,e⟩:=(show ∃t,u=Value.str x t from r);cases e;rfl
 |Cg b=>obtain ⟨t,e⟩:=(show ∃t,u=Value.bytes b t from r);cases e;rfl
 |flt b=>obtain ⟨t,e⟩:=(show ∃t,u=Value.float b t from r);cases e;rfl
 |ref a=>cases (show u=Value.ref a from r);rfl
 |ty n=>cases (show u=Value.type n from r);rfl
section
variable {P:Program} {w:World} {H H':Hp} {h h':Heap} {a C dx:Addr} {fs fs':List (Str×V)}
theorem BX (fD:rP P w H h) (e:H a=some (.ke C dx fs)):∃mA,Fq h a dx C mA/\(∀f,rn (fs.lookup f) (mA f))/\PySem.Within mA (fs.map (·.1))/\fs.length<=1000/\H dx=some (.iU a):=by
 obtain ⟨d,z,ne,ob,mA,n,r,q⟩:=(show g8 P w H h a (.ke C dx fs) from fD a _ e)
 exact ⟨mA,⟨ob,n,ne⟩,r,q,z,d⟩
end
structure Ek (K:PySem.W.Frag) (C:Addr):Prop where
 pg:PySem.W.plainGet K C Str.empty=true
 hd:PySem.W.hasDictIn K C=true
 po:PySem.W.plainOver K C=true
 sa:PySem.W.findIn K (.ref C) "__setattr__"=some (some (.builtin "object.__setattr__"))
theorem Ek.get {K:PySem.W.Frag} {C:Addr} (c:Ek K C) (f:Str):PySem.W.plainGet K C f=true:=c.pg
def jS (K:PySem.W.Frag) (C:Addr) (f:Str):Prop:=PySem.W.findIn K (.ref C) f=some none
theorem jS.RO {K:PySem.W.Frag} {C:Addr} {f:Str} (n:jS K C f):PySem.W.takerIn K C f=some none:=by
 unfold PySem.W.takerIn
 rw [show PySem.W.findIn K (.ref C) f=some none from n]
 rfl
structure JF (K:PySem.W.Frag) (C:Addr) (m:Str) (f:Addr):Prop where
 vO:PySem.W.findIn K (.ref C) m=some (some (.ref f))
 fn:PySem.W.isFn K (.ref f)=true
 kp:PySem.W.keepIn K (.ref f)=true
section
variable {X:Cx} {pins:List (Addr×Obj)} {σ:St} {H:Hp} {s:Shared} {a C dx:Addr} {fs:List (Str×V)} {f:Str} {v:V} {A:Around} {E:Value->Shared->Prop}
theorem EL {b:Bool} {Q:Value->Shared->Prop} (I:cV X pins σ H s) (e:H a=some (.ke C dx fs)) (c:Ek X.K C) (n:jS X.K C f) (l:fs.lookup f=some v)
  (h:∀u s',cV X pins σ H s'->dP v u->Q u s'):wpAny (model X.prog X.w) A (getAttr (.ref a) f b) Q E s:=by
 obtain ⟨mA,O,r,_,_,_⟩:=BX I.fD e
 obtain ⟨u,hu,ru⟩:=rn.AL (v:=v) (o:=mA f) (by rw [<-l];exact r f)
 exact LK I.Ei O (c.get f) c.hd n hu (Ij ru) (h u _ (I.uR _) ru)
theorem y6 {m:Str} {g:Addr} {pl:Sem Bool} {Q:Value×List Value->Shared->Prop} (I:cV X pins σ H s) (e:H a=some (.ke C dx fs)) (c:Ek X.K C) (k:JF X.K C m g) (l:fs.lookup m=none)
  (h:Q (.ref g,[.ref a]) s):wpAny (model X.prog X.w) A (getMethod (.ref a) m pl) Q E s:=by
 obtain ⟨mA,O,r,_,_,_⟩:=BX I.fD e
 have hn:mA m=none:=rn.Le (by rw [<-l];exact r m)
 exact Ja I.Ei O (c.get m) k.vO k.fn hn h
theorem Fl {y:V} {u:Value} {Q:Unit->Shared->Prop} (I:cV X pins σ H s) (e:H a=some (.ke C dx fs)) (c:Ek X.K C) (n:jS X.K C f) (hl:fs.length< 1000) (ry:dP y u)
  (h:∀s',cV X pins σ (bG H a (.ke C dx (kd f y fs))) s'->Q () s'):wpAny (model X.prog X.w) A (setAttr (.ref a) f u) Q E s:=by
 obtain ⟨mA,O,r,wi,_,ho⟩:=BX I.fD e
 have hz:(fs.map (·.1)).length<=sizeLine:=by rw [af,dH];lia
 refine Mc I.Ei O c.sa c.po n.RO c.hd wi hz λh' O' sb=>h _ ?_
 have hd:∃o,h'.get? dx=some o:=let ⟨o,_,_,e',_⟩:=O'.ns;⟨o,e'⟩
 refine I.vw (x:=a) (e:=dx) (by rw [e];exact True.intro) (.inr ho) (λb q hb z=>(sb.2 b hb).trans z) hd ?_
 refine ⟨by rw [aL O.ne];exact ho,?_,O.ne,O'.obj,_,O'.ns,λg=> ?_,λg hg=> ?_⟩
 ·have:=wY f y fs;lia
 ·show rn ((kd f y fs).lookup g) (if g=f then some u else mA g)
  rw [xf]
  by_cases q:g=f
  ·rw [aA q,aA q];exact ry
  ·rw [au q,au q];exact r g
 ·by_cases q:g=f
  ·rw [q];exact (wt f y fs).1
  ·refine (wt f y fs).2 g (wi g λz=>hg ?_)
   show (if g=f then some u else mA g)=none
   rw [au q];exact z
theorem cV.made (I:cV X pins σ H s):cV X pins σ (bG (bG H s.heap.objs.size (.iU (s.heap.objs.size+1))) (s.heap.objs.size+1) (.ke C s.heap.objs.size []))
  {s with heap:=(s.heap.push PySem.W.emptyDict).push (PySem.W.instObj C s.heap.objs.size)}:=by
 have e1:(s.heap.push PySem.W.emptyDict).get? s.heap.objs.size=some PySem.W.emptyDict:=aZ s.heap rfl
 have e2:((s.heap.push PySem.W.emptyDict).push (PySem.W.instObj C s.heap.objs.size)).get? (s.heap.objs.size+1)=some (PySem.W.instObj C s.heap.objs.size):=by
  have:=aZ (s.heap.push PySem.W.emptyDict) (o:=PySem.W.instObj C s.heap.objs.size) rfl
  rwa [cZ] at this
 have e3:(s.heap.push PySem.W.emptyDict).Ns s.heap.objs.size (λ_=>none):=⟨PySem.W.emptyDict,#[],_,e1,rfl,(λe he=>absurd he (by simp)),λ_=>rfl⟩
 have I1:=I.laid (a:=s.heap.objs.size) (o:= .iU (s.heap.objs.size+1)) (h':=s.heap.push PySem.W.emptyDict) (t':=s.toks) (λb u q=>aD _ q) (aF _) ⟨_,e1⟩
 refine I1.laid (a:=s.heap.objs.size+1) (o:= .ke C s.heap.objs.size []) (t':=s.toks) (λb u q=>aD _ q) (qe (cZ _ _)) ?_
 have ne:s.heap.objs.size≠s.heap.objs.size+1:=bO (dY _)
 refine ⟨by rw [aL ne,aj],bD _,ne,e2,λ_=>none,(Heap.Ns1.of_empty e3).at λo q=>aD _ q,λ_=>True.intro,λy hy=>absurd rfl hy⟩
theorem K6 {prog:Program} {w:World} {bX:Env} {e:Expr} {f:Str} {pos:Pos} {s:Shared} {Q:Value->Shared->Prop} (hb:attributeBase e f bX (eval e bX)=eval e bX)
  (h:wpAny (model prog w) A (eval e bX) (λo s₁=>wpAny (model prog w) A (getAttr o f true) Q E s₁) E s):wpAny (model prog w) A (eval (.Attribute e f pos) bX) Q E s:=
 Attribute_any_ h (by rw [arm_eval_Attribute,hb])
end
def Ra (K:PySem.W.Frag) (ta:TE) (f:Str):TE:=fun σ H Q=>ta σ H λx H1=>∃a C dx fs v,x= .ref a/\H1 a=some (.ke C dx fs)/\Ek K C/\jS K C f/\fs.lookup f=some v/\Q v H1
def Wo (K:PySem.W.Frag) (ta tv:TE) (f:Str):TS:=λD σ H=>tv σ H λy H1=>ta σ H1 λx H2=>∃a C dx fs,x= .ref a/\H2 a=some (.ke C dx fs)/\Ek K C/\jS K C f/\fs.length< 1000/\
 D.nx σ (bG H2 a (.ke C dx (kd f y fs)))
section
variable {X:Cx} {o e value:Expr} {f:Str} {pos pos' tpos:Pos} {ta tv:TE}
theorem OT (he:PE X e ta) (hb:attributeBase e f X.bX (eval e X.bX)=eval e X.bX):PE X (.Attribute e f pos) (Ra X.K ta f):=by
 intro pins s σ H Q I h
 refine K6 hb (gU (he pins s σ H _ I h) λu s1 ⟨x,H1,I1,rx,a,C,dx,fs,v,ex,ea,c,n,l,q⟩=> ?_)
 subst ex
 obtain rfl:u=Value.ref a:=rx
 exact EL I1 ea c n l λu' s2 I2 ru=>⟨v,H1,I2,ru,q⟩
theorem lu (ha:PE X o ta) (hv:PE X value tv) (hs:swapsWith value (some (.Attribute o f pos')) pos.line X.bX=pure false):PS X (.Assign [.Attribute o f pos'] value pos) (Wo X.K ta tv f):=by
 intro pins s σ H D I h
 refine plainObj_wpAny_Assign_Attribute (gU (hv pins s σ H _ I h) λu s1 ⟨y,H1,I1,ry,q⟩=>gU (ha pins s1 σ H1 _ I1 q) λov s2 ⟨x,H2,I2,rx,a,C,dx,fs,ex,ea,c,n,l,q2⟩=> ?_) hs
 subst ex
 obtain rfl:ov=Value.ref a:=rx
 exact Fl I2 ea c n l ry λs3 I3=>⟨σ,_,I3,q2⟩
end
end L2
namespace L2
open PySem PySem.Spec PyProof.Rows
structure jE (k:Nat) (A:Around):Prop where
 hd:A.handled=none
 dp:A.depth+3*k+5< recursionLimit
 un:A.units+16*k+200< cLine
theorem jE.bY {j k:Nat} {A:Around} (r:jE k A) (h:j<=k):jE j A:=⟨r.hd,by have:=r.dp;lia,by have:=r.un;lia⟩
theorem jE.deeper {k:Nat} {A:Around} (r:jE (k+1) A) (bX:Env):jE k (A.deeper bX):=
 ⟨r.hd,by have:=r.dp;show A.depth+1+3*k+5< _;lia,by have:=r.un;show A.units+3+16*k+200< _;lia⟩
theorem E8 {A:Around} {C:Addr} {us:List Value} {kw:List (Str×Value)}:(A.under (.builtin "type.__call__" ⟨.ref C::us,kw⟩)).depth=A.depth+1:=by
 first|rfl|simp [Around.under,Code.weight,Code.isCreation,Code.isGuard,Code.isCaller,Code.frames,Code.isFrame,guardIds]
theorem Fb {A:Around} {C:Addr} {us:List Value} {kw:List (Str×Value)}:(A.under (.builtin "type.__call__" ⟨.ref C::us,kw⟩)).units=A.units+1:=by
 first|rfl|simp [Around.under,Code.cUnits,Code.frames,Code.isFrame]
theorem jE.ND {k:Nat} {A:Around} (r:jE (k+1) A) (C:Addr) (us:List Value) (kw:List (Str×Value)):jE k (A.under (.builtin "type.__call__" ⟨.ref C::us,kw⟩)):=
 ⟨r.hd,by have:=r.dp;rw [E8];lia,by have:=r.un;rw [Fb];lia⟩
theorem jE.depth {k:Nat} {A:Around} (r:jE k A):A.depth< recursionLimit:=by have:=r.dp;lia
theorem jE.units {k:Nat} {A:Around} (r:jE k A):A.units+64< cLine:=by have:=r.un;lia
def Ks:TA:=λ_ H Q=>Q [] H
def SS (ta:TE) (tr:TA):TA:=fun σ H Q=>ta σ H λx H1=>tr σ H1 λxs H2=>Q (x::xs) H2
section
variable {X:Cx} {e:Expr} {es:List Expr} {te:TE} {t:TA} {pos:Pos}
theorem ah:PA X [] Ks:=λ_ _ _ _ H Q I h=>Calls.spliced_nil ⟨[],H,I,.nil,h⟩
theorem aa (ha:PE X e te) (hr:PA X es t) (hs:starEach (e::es) X.bX=(false,eval e X.bX)::starEach es X.bX:=by rfl):PA X (e::es) (SS te t):=by
 intro pos pins s σ H Q I h
 rw [hs]
 show wpAny _ _ (spliced ((false,eval e X.bX)::backTo pos (starEach es X.bX))) _ _ s
 refine m6 (gU (ha pins s σ H _ I h) λu s1 ⟨x,H1,I1,r1,q1⟩=> ?_)
 exact gU (hr pos pins s1 σ H1 _ I1 q1) λus s2 ⟨xs,H2,I2,r2,q2⟩=>⟨x::xs,H2,I2,.cons r1 r2,q2⟩
def Wv (t:TA):TE:=fun σ H Q=>t σ H λxs H1=>xs.length<=sizeLine/\∀p,H1 p=none->Q (.ref p) (bG H1 p (.dC xs))
def V0 (t:TA):TE:=fun σ H Q=>t σ H λxs H1=>xs.length<=sizeLine/\∀p,H1 p=none->Q (.ref p) (bG H1 p (.a6 xs))
theorem kM {x1} (h:PA X es t):PE X (.Tuple es x1 pos) (Wv t):=by
 intro pins s σ H Q I hq
 refine wpAny_Tuple_spliced (gU (h pos pins s σ H _ I hq) λus s1 ⟨xs,H1,I1,r,z,q⟩=>⟨by rw [<-r.length];exact z,?_⟩)
 have hf:H1 s1.heap.objs.size=none:=I1.fD.fresh (aF _)
 refine ⟨.ref s1.heap.objs.size,bG H1 s1.heap.objs.size (.dC xs),I1.laid (t':=s1.toks) (λb u e=>aD _ e) (aF _) ?_,rfl,q _ hf⟩
 exact ⟨z,us,r,⟨_,aZ _ rfl,rfl,_,rfl⟩⟩
theorem cf (h:PA X es t):PE X (.List es pos) (V0 t):=by
 intro pins s σ H Q I hq
 refine wpAny_List_spliced (gU (h pos pins s σ H _ I hq) λus s1 ⟨xs,H1,I1,r,z,q⟩=>⟨by rw [<-r.length];exact z,?_⟩)
 have hf:H1 s1.heap.objs.size=none:=I1.fD.fresh (aF _)
 refine ⟨.ref s1.heap.objs.size,bG H1 s1.heap.objs.size (.a6 xs),I1.laid (t':=s1.toks) (λb u e=>aD _ e) (aF _) ?_,rfl,q _ hf⟩
 exact ⟨z,us,0,r,aZ _ rfl⟩
end
abbrev Sp:=List V->Hp->VK->XK->Prop
abbrev JP:=List Env->Hp->Shared->XK->Value->Shared->Prop
structure Ed (P:Program) (w:World) (K:PySem.W.Frag) (mg:Str->Option Value) (base:Heap) (A:Around) (bE:List Env) (s:Shared) (H:Hp):Prop where
 frames:A.frames=some bE
 AZ:Mod K mg base
 bs:∀b o,base.get? b=some o->s.heap.get? b=some o/\H b=none
 Lw:base.objs.size<=s.heap.objs.size
 xq:s.heap.FunFrames base bE
 Ow:∀b∈J6 bE,H b=none
 fD:rP P w H s.heap
 bare:AllBare s.gens
def CE (bE:List Env) (P:Program) (w:World) (H:Hp) (s:Shared) (Q:VK) (u:Value) (s':Shared):Prop:=
 ∃v H',s'.os=s.os/\AllBare s'.gens/\Un (J6 bE) [] H H' s.heap s'.heap/\rP P w H' s'.heap/\dP v u/\Q v H'
def CR (CX:JP) (bE:List Env) (P:Program) (w:World) (H:Hp) (s:Shared) (Q:VK) (E:XK) (r:Result) (s':Shared):Prop:=
 match r with
 | .ok (.ret u)=>CE bE P w H s Q u s'
 | .ok _=>False
 | .error e=>CX bE H s E e s'
structure pQ (P:Program) (w:World) (K:PySem.W.Frag) (mg:Str->Option Value) (base:Heap) (CX:JP) (k:Nat) (f:Addr) (fd:FuncData) (ps:List Str) (sp:Sp):Prop where
 len:∀vs H Q E,sp vs H Q E->vs.length=ps.length
 V7:∀(A:Around) (bE:List Env) (s:Shared) (H:Hp) (args:Args) (us:List Value) (vs:List V) (Q:VK) (E:XK),jE k A->Ed P w K mg base A bE s H->BindsTo s fd args (ps.zip us)->c7 vs us->sp vs H Q E->
  codeAny (model P w) A (.call (.ref f) args) (CR CX bE P w H s Q E) s
theorem Ed.ND {P:Program} {w:World} {K:PySem.W.Frag} {mg:Str->Option Value} {base:Heap} {A:Around} {bE:List Env} {s:Shared} {H:Hp} (e:Ed P w K mg base A bE s H) (C:Addr) (us:List Value) (kw:List (Str×Value)):
  Ed P w K mg base (A.under (.builtin "type.__call__" ⟨.ref C::us,kw⟩)) bE s H:=⟨by first|exact e.frames|(simpa [Around.under,Code.envs,Code.isFrame,pushEnvs] using e.frames),e.AZ,e.bs,e.Lw,e.xq,e.Ow,e.fD,e.bare⟩
section
variable {X:Cx} {pins:List (Addr×Obj)} {σ:St} {H:Hp} {s s':Shared}
theorem cV.Tr (I:cV X pins σ H s):Ed X.prog X.w X.K X.mg X.base X.A X.lg s H:=
 ⟨I.ok.frames,I.ok.AZ,I.bs,bg I.ok.Lw I.sz,I.lg,I.Gw,I.fD,I.bare⟩
theorem cV.MT {Q:VK} {u:Value} (I:cV X pins σ H s) (h:CE X.lg X.prog X.w H s Q u s'):EP X pins σ Q u s':=by
 obtain ⟨v,H',os,bare,un,fD,r,q⟩:=h
 obtain ⟨hh,g,d,t,os'⟩:=s'
 obtain rfl:os'=s.os:=os
 exact ⟨v,H',I.call (h':=hh) (g':=g) (d':=d) (t':=t) (ch:=[]) un fD bare (λb z=>absurd z (by simp)),r,q⟩
end
def Na (sp:Sp) (dvs:List V) (E:XK) (t:TA):TE:=fun σ H Q=>t σ H λvs H1=>sp (vs++dvs) H1 Q E
def FX (C:Addr) (m:Str) (sp:Sp) (dvs:List V) (E:XK) (ta:TE) (t:TA):TE:=fun σ H Q=>ta σ H λx H1=>∃a dx fs,x= .ref a/\H1 a=some (.ke C dx fs)/\fs.lookup m=none/\
 t σ H1 λvs H2=>sp (x::(vs++dvs)) H2 Q E
def Gr (C:Addr) (sp:Sp) (dvs:List V) (E:XK) (t:TA):TE:=fun σ H Q=>t σ H λvs H1=>∀x dx,H1 x=none->H1 dx=none->dx≠x->
 sp (.ref x::(vs++dvs)) (bG (bG H1 dx (.iU x)) x (.ke C dx [])) (λv H2=>v= .ll/\Q (.ref x) H2) E
def p7 (K:PySem.W.Frag) (fd:FuncData) (ps:List Str) (ds:List Value):Prop:=
 ∀(s:Shared) (us:List Value),K.In s.heap->(us++ds).length=ps.length->BindsTo s fd ⟨us,[]⟩ (ps.zip (us++ds))
theorem p7.all {K:PySem.W.Frag} {fd:FuncData} {ps:List Str} (h:∀us:List Value,us.length=ps.length->bindArgs fd ⟨us,[]⟩=pure (ps.zip us)):p7 K fd ps []:=λs us _ hl=>by
 rw [bR] at hl ⊢
 exact .of_eq (h us hl)
def sF (CX:JP) (X:Cx) (E:XK):Prop:=∀(pins:List (Addr×Obj)) (σ:St) (H:Hp) (s:Shared) (e:Value) (s':Shared),cV X pins σ H s->CX X.lg H s E e s'->X.xe e s'
section
variable {X:Cx} {CX:JP} {k:Nat} {f C:Addr} {fd:FuncData} {ps:List Str} {sp:Sp} {dvs:List V} {ds:List Value} {E:XK} {x m:Str} {p pos apos:Pos} {e o:Expr} {es:List Expr} {ta:TE} {t:TA}
theorem E9 {pins:List (Addr×Obj)} {σ:St} {H:Hp} {s:Shared} {Q:VK} {us:List Value} {vs:List V} (F:pQ X.prog X.w X.K X.mg X.base CX k f fd ps sp) (hr:jE k X.A) (hb:p7 X.K fd ps ds) (hd:c7 dvs ds) (hx:sF CX X E)
  (I:cV X pins σ H s) (r:c7 vs us) (h:sp (vs++dvs) H Q E):wpAny (model X.prog X.w) X.A (call (.ref f) us) (EP X pins σ Q) X.xe s:=by
 have r2:c7 (vs++dvs) (us++ds):=r.append hd
 have hl:(us++ds).length=ps.length:=by rw [<-r2.length];exact F.len _ _ _ _ h
 refine wpAny_call (gE (F.V7 X.A X.lg s H ⟨us,[]⟩ (us++ds) (vs++dvs) Q E hr I.Tr (hb s us I.Ei hl) r2 h) λr s' hq=> ?_)
 cases r with
 |error e=>exact hx pins σ H s e s' I hq
 |ok fl=>
  cases fl with
  |ret u=>exact I.MT hq
  |next=>exact False.elim hq
  |brk=>exact False.elim hq
  |cont=>exact False.elim hq
theorem LC (F:pQ X.prog X.w X.K X.mg X.base CX k f fd ps sp) (hr:jE k X.A) (hg:Gl X x) (hm:X.mg x=some (.ref f)) (hk:PySem.W.keepIn X.K (.ref f)=true) (hb:p7 X.K fd ps ds) (hd:c7 dvs ds) (hx:sF CX X E)
  (ha:PA X (e::es) t) (hdb:(x==("__debug__":Str))=false:=by decide) (he:starEach (e::es) X.bX=(false,eval e X.bX)::starEach es X.bX:=by rfl) (hpl:(backTo pos (starEach es X.bX)).any (·.1)=false:=by rfl):
  PE X (.Call (.Name x p) (e::es) [] pos) (Na sp dvs E t):=by
 intro pins s σ H Q I h
 refine h9 (xP I hg hm ?_ hdb)
 refine m7 (h₀:=X.base) I.ok.AZ.Tj hk (gU (ha pos pins s σ H _ I h) λus s1 ⟨vs,H1,I1,r,q⟩=>⟨I1.Ei,?_⟩) he hpl
 exact E9 F hr hb hd hx I1 r q
theorem Mf {pl:Sem Bool} (he:PE X o ta) (c:Ek X.K C) (hm:JF X.K C m f) (F:pQ X.prog X.w X.K X.mg X.base CX k f fd ps sp) (hr:jE k X.A) (hb:p7 X.K fd ps ds) (hd:c7 dvs ds) (hx:sF CX X E) (ha:PA X (e::es) t)
  (hst:starEach (e::es) X.bX=(false,eval e X.bX)::starEach es X.bX:=by rfl) (hpl:(backTo pos (starEach es X.bX)).any (·.1)=false:=by rfl)
  (ht:eval (.Call (.Attribute o m apos) (e::es) [] pos) X.bX=(do
   let ov <-eval o X.bX
   standAt apos.atName
   let (f,first) <-holding [ov] (getMethod ov m pl)
   callWith pos f first (backTo pos (starEach (e::es) X.bX)) (backToKw pos (keywordEach [] X.bX))):=by rfl):
  PE X (.Call (.Attribute o m apos) (e::es) [] pos) (FX C m sp dvs E ta t):=by
 intro pins s σ H Q I h
 refine rf (pl:=pl) (gU (he pins s σ H _ I h) λu s1 ⟨x,H1,I1,rx,a,dx,fs,ex,ea,l,q⟩=> ?_) ht
 subst ex
 obtain rfl:u=Value.ref a:=rx
 refine y6 I1 ea c hm l ?_
 refine m7 (first:=[.ref a]) (h₀:=X.base) I.ok.AZ.Tj hm.kp (gU (ha pos pins s1 σ H1 _ I1 q) λus s2 ⟨vs,H2,I2,r,q2⟩=>⟨I2.Ei,?_⟩) hst hpl
 exact E9 (us:= .ref a::us) (vs:= .ref a::vs) F hr hb hd hx I2 (.cons rfl r) q2
theorem IQ {pl:Sem Bool} (he:PE X o ta) (c:Ek X.K C) (hm:JF X.K C m f) (F:pQ X.prog X.w X.K X.mg X.base CX k f fd ps sp) (hr:jE k X.A) (hb:p7 X.K fd ps ds) (hd:c7 dvs ds) (hx:sF CX X E)
  (ht:eval (.Call (.Attribute o m apos) [] [] pos) X.bX=(do
   let ov <-eval o X.bX
   standAt apos.atName
   let (f,first) <-holding [ov] (getMethod ov m pl)
   callWith pos f first (backTo pos (starEach [] X.bX)) (backToKw pos (keywordEach [] X.bX))):=by rfl):
  PE X (.Call (.Attribute o m apos) [] [] pos) (FX C m sp dvs E ta Ks):=by
 intro pins s σ H Q I h
 refine rf (pl:=pl) (gU (he pins s σ H _ I h) λu s1 ⟨x,H1,I1,rx,a,dx,fs,ex,ea,l,q⟩=> ?_) ht
 subst ex
 obtain rfl:u=Value.ref a:=rx
 refine y6 I1 ea c hm l ?_
 exact tG (first:=[.ref a]) I1.Ei hm.kp (E9 (us:=[.ref a]) (vs:=[.ref a]) F hr hb hd hx I1 (.cons rfl .nil) q)
structure Mk (K:PySem.W.Frag) (C f:Addr):Prop where
 S4:PySem.W.makesIn K C=true
 init:PySem.W.findIn K (.ref C) "__init__"=some (some (.ref f))
 fn:PySem.W.isFn K (.ref f)=true
 kp:PySem.W.keepIn K (.ref C)=true
theorem C0 {pins:List (Addr×Obj)} {σ:St} {H:Hp} {s:Shared} {Q:VK} {us:List Value} {vs:List V} (M:Mk X.K C f) (F:pQ X.prog X.w X.K X.mg X.base CX k f fd ps sp) (hr:jE (k+1) X.A) (hb:p7 X.K fd ps ds) (hd:c7 dvs ds)
  (hx:sF CX X E) (I:cV X pins σ H s) (r:c7 vs us)
  (h:∀x dx,H x=none->H dx=none->dx≠x->sp (.ref x::(vs++dvs)) (bG (bG H dx (.iU x)) x (.ke C dx [])) (λv H2=>v= .ll/\Q (.ref x) H2) E):
  wpAny (model X.prog X.w) X.A (call (.ref C) us) (EP X pins σ Q) X.xe s:=by
 have hq:=h (s.heap.objs.size+1) s.heap.objs.size (I.fD.fresh (cG _)) (I.fD.fresh (aF _)) (bO (dY _))
 have I2:=cV.made (C:=C) I
 have r2:c7 (V.ref (s.heap.objs.size+1)::(vs++dvs)) (Value.ref (s.heap.objs.size+1)::(us++ds)):= .cons rfl (r.append hd)
 have hl:(Value.ref (s.heap.objs.size+1)::us++ds).length=ps.length:=by
  have e:=r2.length
  rw [F.len _ _ _ _ hq] at e
  exact e.symm
 refine wpAny_call (JT (f:=f) I.Ei M.S4 M.init (cR.mp M.fn) (gE (F.V7 _ X.lg _ _ ⟨Value.ref (s.heap.objs.size+1)::us,[]⟩ (Value.ref (s.heap.objs.size+1)::(us++ds)) _ _ E (hr.ND C us [])
  (I2.Tr.ND C us []) (hb _ (Value.ref (s.heap.objs.size+1)::us) I2.Ei hl) r2 hq) λr s' hq'=> ?_))
 cases r with
 |error e=>exact hx pins σ _ _ e s' I2 hq'
 |ok fl=>
  cases fl with
  |ret u=>
   obtain ⟨v,H',I3,rv,ev,q3⟩:=I2.MT hq'
   subst ev
   exact ⟨rv,⟨V.ref (s.heap.objs.size+1),H',I3,rfl,q3⟩⟩
  |next=>exact False.elim hq'
  |brk=>exact False.elim hq'
  |cont=>exact False.elim hq'
theorem K7 (M:Mk X.K C f) (F:pQ X.prog X.w X.K X.mg X.base CX k f fd ps sp) (hr:jE (k+1) X.A) (hg:Gl X x) (hm:X.mg x=some (.ref C)) (hb:p7 X.K fd ps ds) (hd:c7 dvs ds) (hx:sF CX X E)
  (ha:PA X (e::es) t) (hdb:(x==("__debug__":Str))=false:=by decide) (he:starEach (e::es) X.bX=(false,eval e X.bX)::starEach es X.bX:=by rfl) (hpl:(backTo pos (starEach es X.bX)).any (·.1)=false:=by rfl):
  PE X (.Call (.Name x p) (e::es) [] pos) (Gr C sp dvs E t):=by
 intro pins s σ H Q I h
 refine h9 (xP I hg hm ?_ hdb)
 refine m7 (h₀:=X.base) I.ok.AZ.Tj M.kp (gU (ha pos pins s σ H _ I h) λus s1 ⟨vs,H1,I1,r,q⟩=>⟨I1.Ei,?_⟩) he hpl
 exact C0 M F hr hb hd hx I1 r q
theorem Km (M:Mk X.K C f) (F:pQ X.prog X.w X.K X.mg X.base CX k f fd ps sp) (hr:jE (k+1) X.A) (hg:Gl X x) (hm:X.mg x=some (.ref C)) (hb:p7 X.K fd ps ds) (hd:c7 dvs ds) (hx:sF CX X E)
  (hdb:(x==("__debug__":Str))=false:=by decide):PE X (.Call (.Name x p) [] [] pos) (Gr C sp dvs E Ks):=by
 intro pins s σ H Q I h
 refine h9 (xP I hg hm ?_ hdb)
 exact tG I.Ei M.kp (C0 (us:=[]) M F hr hb hd hx I .nil h)
end
structure bt (N P:List Str) (sc:Scope):Prop where
 kind:sc.kind= .function
 co:sc.isCoroutine=false
 Y9:sc.isGenerator=false
 nd:N.Nodup
 pre:N.take P.length=P
 Yj:∀x∈P,sc.names.lookup x=some .local\/sc.names.lookup x=some .cell
 N0:∀y∈sc.names,y.2≠.free
theorem zZ {kindOf:Str->Option NameKind} {x:Str}:∀{cC:List (Str×Value)} {m:Str->Option Value},(∀v,(x,v)∉cC)->bindL kindOf cC m x=m x
 |[],_,_=>rfl
 |(n,v)::r,m,h=>by
  unfold bindL
  rw [zZ λw hw=>h w (aE _ hw)]
  split
  ·have:x≠n:=by rintro rfl;exact h v aP
   simp [this]
  ·rfl
theorem Av {kindOf:Str->Option NameKind} {x:Str}:∀{cC:List (Str×Value)} {m:Str->Option Value},(∀v,(x,v)∉cC)->bindC kindOf cC m x=m x
 |[],_,_=>rfl
 |(n,v)::r,m,h=>by
  unfold bindC
  rw [Av λw hw=>h w (aE _ hw)]
  split
  ·rfl
  ·have:x≠n:=by rintro rfl;exact h v aP
   simp [this]
theorem zN {kindOf:Str->Option NameKind} {x:Str} {v:Value}:∀{P:List Str} {vs:List Value} {i:Nat} {m:Str->Option Value},P.Nodup->P[i]? =some x->vs[i]? =some v->kindOf x=some .local->
  bindL kindOf (P.zip vs) m x=some v
 |[],_,_,_,_,h,_,_=>by simp at h
 |_::_,[],_,_,_,_,h,_=>by simp at h
 |p::P,w::vs,0,m,nd,h1,h2,hk=>by
  simp at h1 h2;subst h1;subst h2
  show bindL kindOf ((p,w)::P.zip vs) m p=_
  unfold bindL
  rw [zZ λv hv=>(c9.mp nd).1 (qV hv).1,aA hk]
  simp
 |p::P,w::vs,i+1,m,nd,h1,h2,hk=>by
  show bindL kindOf ((p,w)::P.zip vs) m x=_
  unfold bindL
  exact zN (i:=i) (c9.mp nd).2 (by simpa using h1) (by simpa using h2) hk
theorem zW {kindOf:Str->Option NameKind} {x:Str} {v:Value}:∀{P:List Str} {vs:List Value} {i:Nat} {m:Str->Option Value},P.Nodup->P[i]? =some x->vs[i]? =some v->kindOf x≠some .local->
  bindC kindOf (P.zip vs) m x=some v
 |[],_,_,_,_,h,_,_=>by simp at h
 |_::_,[],_,_,_,_,h,_=>by simp at h
 |p::P,w::vs,0,m,nd,h1,h2,hk=>by
  simp at h1 h2;subst h1;subst h2
  show bindC kindOf ((p,w)::P.zip vs) m p=_
  unfold bindC
  rw [Av λv hv=>(c9.mp nd).1 (qV hv).1,au hk]
  simp
 |p::P,w::vs,i+1,m,nd,h1,h2,hk=>by
  show bindC kindOf ((p,w)::P.zip vs) m x=_
  unfold bindC
  exact zW (i:=i) (c9.mp nd).2 (by simpa using h1) (by simpa using h2) hk
def start (N:List Str) (vs:List V):St:=vs.map some++List.replicate (N.length-vs.length) none
def G3 (CX:JP) (P:Program) (w:World) (K:PySem.W.Frag) (mg:Str->Option Value) (base:Heap) (N:List Str) (qual:Str) (scope:Scope) (f:Addr) (cd:Value) (A:Around) (bE:List Env) (s:Shared) (H:Hp) (E:XK):Cx where
 prog:=P
 w:=w
 K:=K
 mg:=mg
 base:=base
 A:=A.deeper (envOfC qual scope s.heap.objs.size f cd)
 N:=N
 Aq:=s
 SA:=H
 bX:=envOfC qual scope s.heap.objs.size f cd
 bE:=bE
 lg:=envOfC qual scope s.heap.objs.size f cd::bE
 ex:=[]
 oq:=true
 fn:=λ_=>true
 pn:=[]
 xe:=λe s'=>wpAny (model P w) (A.deeper (envOfC qual scope s.heap.objs.size f cd)) (leaving (envOfC qual scope s.heap.objs.size f cd) e) (λ_ s''=>CX bE H s E e s'') (λe' s''=>CX bE H s E e' s'') s'
theorem Dr {sc:Scope} {n:Nat} {x:Str} (h:sc.names.lookup x=some .cell):∃c,(cellsFrom n sc.names []).lookup x=some c:=by
 have q:=qf sc.names n [] (.inl h)
 exact ez.mp q
theorem Ii {CX:JP} {P:Program} {w:World} {K:PySem.W.Frag} {mg:Str->Option Value} {base:Heap} {N ps:List Str} {qual:Str} {scope:Scope} {f:Addr} {cd:Value} {A:Around} {bE:List Env} {s s1:Shared} {H:Hp} {E:XK} {us:List Value} {vs:List V}
  (S:bt N ps scope) (hd:A.handled=none) (e0:Ed P w K mg base A bE s H) (hl:vs.length=ps.length) (r:c7 vs us)
  (x:InCallC s s.heap.objs.size (bindL (envOfC qual scope s.heap.objs.size f cd).kindOf (ps.zip us) λ_=>none) (cellsFrom (s.heap.objs.size+1) scope.names []) (bindC (envOfC qual scope s.heap.objs.size f cd).kindOf (ps.zip us) λ_=>none) s1):
  cV (G3 CX P w K mg base N qual scope f cd A bE s H E) [] (start N vs) H s1:=by
 have hpl:ps.length<=N.length:=by have:=cS List.length S.pre;rw [bf] at this;lia
 obtain ⟨h1,tk,rfl,hk⟩:=x.done
 have noA:∀b:Addr,b∉(G3 CX P w K mg base N qual scope f cd A bE s H E).ex:=λb z=>absurd (show b∈([]:List Addr) from z) (by simp)
 refine ⟨⟨e0.AZ,S.kind,rfl,rfl,aF _,λy z c h1 h2=> ?_,λy hy=> ?_,λy c _ h=> ?_,λ_=>hd,Around.frames_deeper e0.frames,.inr ⟨rfl,rfl⟩,λb z=>absurd z (noA b),e0.bs,e0.Lw,λb _ _=>noA b,λb z=>absurd z (noA b),e0.xq,e0.Ow⟩,
  rfl,e0.bare,Un.k0 hk,⟨_,x.toInCall.ns,λi y v h1 h2 h3=> ?_⟩,λy c h=>⟨_,x.cell y c h⟩,e0.fD.fresh (aF _),λy c h=> ?_,λp hp=>absurd (show p∈([]:List (Addr×Obj)) from hp) (by simp),e0.fD.k0 hk,?_⟩
 ·exact name_of_addr x.apart (cA h1) (cA h2)
 ·have hy:scope.names.lookup y=some .cell\/scope.names.lookup y=some .free:=hy
  rcases hy with hy|hy
  ·exact Dr hy
  ·exact absurd rfl (S.N0 _ (cA hy))
 ·exact dM (x.above y c (cA h))
 ·have hi:i< vs.length:=by
   unfold start at h2
   by_cases hi:i< vs.length
   ·exact hi
   ·rw [bJ (by simpa using hi)] at h2
    rw [List.getElem?_replicate] at h2
    split at h2<;>cases h2
  have ha:vs[i]? =some v:=by
   unfold start at h2
   rw [bP (by simpa using hi),ay] at h2
   cases e:vs[i]? with
   |none=>rw [e] at h2;cases h2
   |some a=>rw [e] at h2;cases h2;rfl
  obtain ⟨u,hu,rv⟩:=r.get ha
  have hp:ps[i]? =some y:=by
   rw [<-S.pre,gN (by lia)];exact h1
  have ndP:ps.Nodup:=by rw [<-S.pre];exact S.nd.sublist (List.take_sublist _ _)
  refine ⟨u,rv,?_⟩
  rcases S.Yj y (aw hp) with k|k
  ·exact .inl ⟨k,zN ndP hp hu k⟩
  ·obtain ⟨c,e⟩:=Dr (n:=s.heap.objs.size+1) k
   refine .inr ⟨.inl k,c,e,?_⟩
   have q:=x.cell y c e
   rw [zW ndP hp hu (by show scope.names.lookup y≠_;rw [k];decide)] at q
   exact q
 ·exact e0.fD.fresh (dM (x.above y c (cA h)))
 ·unfold start
  show _=N.length
  rw [ao,af,k8]
  lia
theorem Rx {CX:JP} {P:Program} {w:World} {K:PySem.W.Frag} {mg:Str->Option Value} {base:Heap} {k:Nat} {f:Addr} {name qual:Str} {params:Arguments} {body:List Stmt} {scope:Scope} {dV kV doc pm cdv ct oc:Value} {an od:Option Addr}
  {osl:Array (Option Value)} {N ps:List Str} {sp:Sp} (lk:K.lookup f=some ⟨oc,od,.func (PySem.W.fnOf name qual params body scope dV kV doc pm an cdv ct),osl⟩) (hcd:PySem.W.codeIn K cdv qual=true) (S:bt N ps scope)
  (len:∀vs H Q E,sp vs H Q E->vs.length=ps.length)
  (hbody:∀(A:Around) (bE:List Env) (s:Shared) (H:Hp) (vs:List V) (Q:VK) (E:XK),jE k (A.deeper (envOfC qual scope s.heap.objs.size f cdv))->sp vs H Q E->
   ∃t,Hs (G3 CX P w K mg base N qual scope f cdv A bE s H E) body t/\t {nx:=λ_ H'=>Q .ll H',rt:=Q} (start N vs) H):
  pQ P w K mg base CX (k+1) f (PySem.W.fnOf name qual params body scope dV kV doc pm an cdv ct) ps sp:=by
 refine ⟨len,λA bE s H args us vs Q E hr e0 hb r hsp=> ?_⟩
 have hl:=len _ _ _ _ hsp
 have KX:K.In s.heap:=e0.AZ.Tj.keeps λb o e=>(e0.bs b o e).1
 have lim:s.heap.NoLimit:=e0.AZ.nolimit.keeps λb o e=>(e0.bs b o e).1
 have hkind:∀y∈ps.zip us,scope.names.lookup y.1=some .local\/(scope.names.lookup y.1=some .cell/\((cellsFrom (s.heap.objs.size+1) scope.names []).lookup y.1).isSome=true):=λ⟨n,v⟩ hy=>by
  rcases S.Yj n (qV hy).1 with q|q
  ·exact .inl q
  ·exact .inr ⟨q,qf _ _ _ (.inl q)⟩
 refine codeAny_call_function hr.depth (KX _ _ lk) rfl S.co S.Y9 rfl (PySem.W.codeRec_of KX hcd) (hb _ _ _ _ ?_)
 refine wpAny_newFunctionEnv_cells S.kind hkind λbX he s1 x=> ?_
 subst he
 refine ⟨lim.keeps x.toInCall.keep,codeAny_func ?_⟩
 obtain ⟨t,ht,hq⟩:=hbody A bE s H vs Q E (hr.deeper _) hsp
 have I:cV (G3 CX P w K mg base N qual scope f cdv A bE s H E) [] (start N vs) H s1:=Ii S hr.hd e0 hl r x
 refine fi (ht [] s1 (start N vs) H _ I hq) (λfl s' hs=> ?_) λe s' hs=>hs
 have fin:∀{σ':St} {H':Hp} {v:V} {u:Value},cV (G3 CX P w K mg base N qual scope f cdv A bE s H E) [] σ' H' s'->dP v u->Q v H'->CE bE P w H s Q u s':=
  λ{σ' H' v u} J rv q=>⟨v,H',J.os,J.bare,J.base,J.fD,rv,q⟩
 cases fl with
 |ret u=>
  obtain ⟨v,σ',H',J,rv,q⟩:=hs
  exact fin J rv q
 |next=>
  obtain ⟨σ',H',J,q⟩:=hs
  exact fin (v:=V.ll) (u:=Value.none) J rfl q
 |brk=>
  obtain ⟨_,_,_,q⟩:=hs
  exact False.elim q
 |cont=>
  obtain ⟨_,_,_,q⟩:=hs
  exact False.elim q
end L2
namespace L2
open PySem PySem.Spec PyProof.Rows
section
variable {X:Cx} {x:Str} {p pos:Pos} {e:Expr} {es:List Expr} {t:TA} {id T:String} {r:List V->Hp->VK->Prop}
def Yi (r:List V->Hp->VK->Prop) (t:TA):TE:=fun σ H Q=>t σ H λvs H1=>r vs H1 Q
theorem bT (hc:hJ X (.builtin id) r) (hg:Gl X x) (hm:X.mg x=none) (hv:bootBuiltins x=some (.builtin id)) (ha:PA X (e::es) t) (hn:x≠"__name__":=by decide) (hdb:(x==("__debug__":Str))=false:=by decide)
  (he:starEach (e::es) X.bX=(false,eval e X.bX)::starEach es X.bX:=by rfl) (hpl:(backTo pos (starEach es X.bX)).any (·.1)=false:=by rfl):PE X (.Call (.Name x p) (e::es) [] pos) (Yi r t):=by
 intro pins s σ H Q I h
 refine h9 (ze I hg hm hv ?_ hn hdb)
 exact PyProof.Rows.callWith_builtin1 (gU (ha pos pins s σ H _ I h) λus s1 ⟨vs,H1,I1,r1,q1⟩=>hc pins s1 σ H1 vs us Q I1 r1 q1) he hpl
theorem pU (hc:hJ X (.type T) r) (hg:Gl X x) (hm:X.mg x=none) (hv:bootBuiltins x=some (.type T)) (ha:PA X (e::es) t) (hn:x≠"__name__":=by decide) (hdb:(x==("__debug__":Str))=false:=by decide)
  (he:starEach (e::es) X.bX=(false,eval e X.bX)::starEach es X.bX:=by rfl) (hpl:(backTo pos (starEach es X.bX)).any (·.1)=false:=by rfl):PE X (.Call (.Name x p) (e::es) [] pos) (Yi r t):=by
 intro pins s σ H Q I h
 refine h9 (ze I hg hm hv ?_ hn hdb)
 exact fZ (gU (ha pos pins s σ H _ I h) λus s1 ⟨vs,H1,I1,r1,q1⟩=>hc pins s1 σ H1 vs us Q I1 r1 q1) he hpl
end
end L2
namespace HT
open PySem PyProof.Rows
section
open PySem.SeqAt
open PySem.AutoSeq1 (wpAny_loadPart')
open PySem.MeetsSeq PySem.MeetsSeq2 PySem.MeetsSeq3
end
section
variable {prog:Program} {w:World} {A:Around} {E:Value->Shared->Prop} {s:Shared}
def kZ (n d:Nat):Option Int->Nat
 |none=>d
 |some v=>if v< 0 then (v+(n:Int)).toNat else min v.toNat n
theorem GG (n d k:Nat):kZ n d (some (k:Int))=min k n:=by
 show (if (k:Int)< 0 then ((k:Int)+(n:Int)).toNat else min (k:Int).toNat n)=min k n
 rw [au (by lia),aK]
theorem Of (n d:Nat) (hd:d<=n) (o:Option Int):kZ n d o<=n:=by
 cases o with
 |none=>exact hd
 |some v=>
  show (if v< 0 then (v+(n:Int)).toNat else min v.toNat n)<=n
  by_cases hv:v< 0
  ·rw [aA hv];lia
  ·rw [au hv];exact Nat.min_le_right _ _
theorem Gu (v:Int) (n d:Nat):(if v< 0 then max (v+(n:Int)) 0 else min v (n:Int))=((kZ n d (some v):Nat):Int):=by
 show (if v< 0 then max (v+(n:Int)) 0 else min v (n:Int))=(((if v< 0 then (v+(n:Int)).toNat else min v.toNat n):Nat):Int)
 by_cases hv:v< 0
 ·simp only [aA hv];lia
 ·simp only [au hv];lia
theorem EX (lo hi:Option Int) (n:Nat):Builtin.Slice.sliceAdjust lo hi 1 (n:Int)=(((kZ n 0 lo:Nat):Int),((kZ n n hi:Nat):Int)):=by
 have h1:¬((1:Int)< 0):=by lia
 unfold Builtin.Slice.sliceAdjust
 simp only [h1,pE]
 refine Prod.ext ?_ ?_
 ·cases lo with
  |none=>rfl
  |some v=>exact Gu v n 0
 ·cases hi with
  |none=>rfl
  |some v=>exact Gu v n n
theorem ET (i j:Nat):Builtin.Slice.slicePlaces (i:Int) (j:Int) 1=j-i:=by
 unfold Builtin.Slice.slicePlaces
 have h1:(1:Int)>0:=by lia
 simp only [h1,ow,Int.ediv_one]
 split<;>lia
theorem yR {v:Value} {o:Option Int} {Q:Option Int->Shared->Prop} (p:IsPart v o) (h:Q o s):wpAny (model prog w) A (Builtin.Slice.slicePartIndex v) Q E s:=by
 cases p with
 |none=>exact slicePart_none h
 |int i t=>exact slicePart_int h
theorem wk {sl:Addr} {vl vu:Value} {lo hi:Option Int} {n:Nat} {Q:Int×Int×Nat->Shared->Prop} (hs:s.heap.IsSliceOf sl vl vu .none) (pl:IsPart vl lo) (pu:IsPart vu hi)
  (h:Q (((kZ n 0 lo:Nat):Int),1,kZ n n hi-kZ n 0 lo) s):wpAny (model prog w) A (Builtin.Slice.sliceApplied (.ref sl) (pure (n:Int))) Q E s:=by
 obtain ⟨os,hos,hcs,hds⟩:=id hs
 unfold Builtin.Slice.sliceApplied Builtin.Slice.sliceFields
 refine ag (ag (wpAny_field hos hds (x:=vl) rfl (ag (wpAny_field hos hds (x:=vu) rfl (ag (wpAny_field hos hds (x:= .none) rfl (aH ?_)))))))
 refine ag (slicePart_none ?_)
 show wpAny _ _ (if ((1:Int)==0)=true then _ else _) _ _ s
 rw [au (by decide)]
 refine ag (yR pl (ag (yR pu (ag (aH ?_)))))
 show wpAny _ _ (match Builtin.Slice.sliceAdjust lo hi 1 (n:Int) with|(lo,hi)=>pure (lo,(1:Int),Builtin.Slice.slicePlaces lo hi 1)) _ _ s
 rw [EX lo hi n]
 show wpAny _ _ (pure (((kZ n 0 lo:Nat):Int),(1:Int),Builtin.Slice.slicePlaces ((kZ n 0 lo:Nat):Int) ((kZ n n hi:Nat):Int) 1)) _ _ s
 rw [ET]
 exact aH h
theorem IT (xs:Array Value) (i k:Nat):((List.range k).filterMap λ(m:Nat)=>xs[((i:Int)+(m:Int)*1).toNat]?).toArray=((xs.toList.drop i).take k).toArray:=by
 have e:(λ(m:Nat)=>xs[((i:Int)+(m:Int)*1).toNat]?)=λm=>xs[i+m]? :=by
  funext m
  have:((i:Int)+(m:Int)*1).toNat=i+m:=by lia
  rw [this]
 rw [e]
 have:=pick_run xs i k
 rw [List.filterMap_map] at this
 have e2:((λx=>xs[x]?)∘λx=>i+x)=λm=>xs[i+m]? :=rfl
 rw [e2] at this
 rw [this]
theorem vt {t sl:Addr} {items:Array Value} {vl vu:Value} {lo hi:Option Int} {Q:Value->Shared->Prop} (ht:IsTup s.heap t items) (hs:s.heap.IsSliceOf sl vl vu .none) (pl:IsPart vl lo) (pu:IsPart vu hi)
  (hw:¬(kZ items.size 0 lo=0/\kZ items.size items.size hi=items.size))
  (h:Q (.ref s.heap.objs.size) {s with heap:=s.heap.push {cls:= .type "tuple",data:= .seq ((items.toList.drop (kZ items.size 0 lo)).take (kZ items.size items.size hi-kZ items.size 0 lo)).toArray}})
  (hsz:items.size<=sizeLine):wpAny (model prog w) A (getItem (.ref t) (.ref sl)) Q E s:=by
 have htake:sizeOk (.seq ((items.toList.drop (kZ items.size 0 lo)).take (kZ items.size items.size hi-kZ items.size 0 lo)).toArray):=by
  show ((items.toList.drop (kZ items.size 0 lo)).take (kZ items.size items.size hi-kZ items.size 0 lo)).toArray.size<=sizeLine
  rw [ba,bf,i9,cY]
  lia
 have hj:kZ items.size items.size hi<=items.size:=Of _ _ (aF _) hi
 obtain ⟨os,hos,hcs,hds⟩:=id hs
 have hTs:s.TypeIs (.ref sl) "slice":=⟨os,hos,hcs⟩
 unfold getItem
 try with_reducible refine fw ?_
 first|refine ag (aH ?_)|skip
 refine ag (wpAny_sequenceKey ht.typeIs (by decide) ?_)
 refine ag (fL (name:=Str.ofString "__getitem__") ht.typeIs gR
  (eO gR ht.typeIs entry_tuple_getitem ?_ (args_tuple_getitem _ _)))
 show wpAny _ _ (Builtin.Tuple.tupleItemsOf (.ref t)>>=_) _ _ s
 refine ag (tupleItemsOf_ ht ?_)
 refine ag (qg hTs ?_)
 rw [aA (by decide)]
 refine ag (wk hs pl pu ?_)
 have hno:¬((((kZ items.size 0 lo:Nat):Int)==0&&(1:Int)==1&&(kZ items.size items.size hi-kZ items.size 0 lo)==items.size)=true):=by
  intro q
  rw [aR,aR] at q
  have q1:((kZ items.size 0 lo:Nat):Int)=0:=eq_of_beq q.1.1
  have q2:kZ items.size items.size hi-kZ items.size 0 lo=items.size:=eq_of_beq q.2
  exact hw ⟨by lia,by lia⟩
 show wpAny _ _ (if (((kZ items.size 0 lo:Nat):Int)==0&&(1:Int)==1&&(kZ items.size items.size hi-kZ items.size 0 lo)==items.size)=true then _ else _) _ _ s
 rw [au hno,IT]
 first
  |exact ag (m:=Builtin.Tuple.tupleExact _) (cW (aH ⟨_,rfl,aH h⟩) htake)
  |exact ag (m:=Builtin.Tuple.tupleExact _) (cW (ag (aH (aH ⟨_,rfl,aH h⟩))) htake)
  |exact ag (ag (m:=Builtin.Tuple.tupleExact _) (cW (aH (aH ⟨_,rfl,aH h⟩)) htake))
  |exact ag (ag (m:=Builtin.Tuple.tupleExact _) (cW (aH ⟨_,rfl,aH h⟩) htake))
end
end HT
namespace L2
open PySem PySem.Spec PyProof.Rows
abbrev TO:=St->Hp->(Option Int->Hp->Prop)->Prop
def PO (X:Cx) (e:Option Expr) (t:TO):Prop:=
 ∀(pins:List (Addr×Obj)) (s:Shared) (σ:St) (H:Hp) (Q:Option Int->Hp->Prop),cV X pins σ H s->t σ H Q->
  wpAny (model X.prog X.w) X.A (evalPart e X.bX) (λu s'=>∃o H',cV X pins σ H' s'/\IsPart u o/\Q o H') X.xe s
def L9:TO:=λ_ H Q=>Q none H
def Rw (t:TE):TO:=fun σ H Q=>t σ H λx H1=>∃i,x= .int i/\Q (some i) H1
section
variable {X:Cx} {e:Expr} {te:TE} {lo hi:Option Expr} {tl th:TO} {pos p2:Pos}
theorem xU:PO X none L9:=by
 intro pins s σ H Q I h
 rw [evalPart_none]
 exact aH ⟨none,H,I,.none,h⟩
theorem tu (h:PE X e te):PO X (some e) (Rw te):=by
 intro pins s σ H Q I hw
 rw [evalPart_some]
 refine gU (h pins s σ H _ I hw) λu s1 ⟨x,H1,I1,r1,q1⟩=> ?_
 obtain ⟨i,rfl,q⟩:=q1
 obtain ⟨t,rfl⟩:=r1
 exact ⟨some i,H1,I1,.int i t,q⟩
def RB (X:Cx) (r:V->Option Int->Option Int->Hp->VK->Prop):Prop:=
 ∀(pins:List (Addr×Obj)) (s:Shared) (σ:St) (H:Hp) (x:V) (v vl vu:Value) (lo hi:Option Int) (sl:Addr) (Q:VK),cV X pins σ H s->dP x v->s.heap.IsSliceOf sl vl vu .none->IsPart vl lo->IsPart vu hi->r x lo hi H Q->
  ∃T id,typeLookup (.type T) "__getitem__"=pure (some (.builtin id))/\s.TypeIs v T/\wpAny (model X.prog X.w) X.A (getItem v (.ref sl)) (EP X pins σ Q) X.xe s
def Zg (r:V->Option Int->Option Int->Hp->VK->Prop) (te:TE) (tl th:TO):TE:=fun σ H Q=>te σ H λx H1=>tl σ H1 λl H2=>th σ H2 λu H3=>r x l u H3 Q
theorem rW {r:V->Option Int->Option Int->Hp->VK->Prop} (hr:RB X r) (he:PE X e te) (hl:PO X lo tl) (hu:PO X hi th):PE X (.Subscript e (.Slice lo hi none p2) pos) (Zg r te tl th):=by
 intro pins s σ H Q I h
 refine Subscript_ (gU (he pins s σ H _ I h) λv s1 ⟨x,H1,I1,r1,q1⟩=> ?_)
 refine wpAny_Slice (gU (hl pins s1 σ H1 _ I1 q1) λvl s2 ⟨l,H2,I2,pl,q2⟩=>gU (hu pins s2 σ H2 _ I2 q2) λvu s3 ⟨u,H3,I3,pu,q3⟩=> ?_)
 rw [evalPart_none]
 refine aH ?_
 have I4:cV X pins σ H3 {s3 with heap:=s3.heap.push {cls:= .type "slice",data:= .fields #[vl,vu,.none]}}:=I3.k0 (t':=s3.toks) λb ob q=>aD _ q
 obtain ⟨T,id,hT,ht,hg⟩:=hr pins {s3 with heap:=s3.heap.push {cls:= .type "slice",data:= .fields #[vl,vu,.none]}} σ H3 x v vl vu l u s3.heap.objs.size Q I4 r1 (Heap.IsSliceOf.new ..) pl pu q3
 show wpAny (model X.prog X.w) X.A (subscriptTail e (.Slice lo hi none p2) v (.ref s3.heap.objs.size)) (EP X pins σ Q) X.xe {s3 with heap:=s3.heap.push {cls:= .type "slice",data:= .fields #[vl,vu,.none]}}
 exact tail_any (ops:=[.ref s3.heap.objs.size,v]) ht hT hg (by with_unfolding_all rfl)
def xA (xs:List V) (lo hi:Option Int):List V:=(xs.drop (HT.kZ xs.length 0 lo)).take (HT.kZ xs.length xs.length hi-HT.kZ xs.length 0 lo)
theorem wU (xs:List V) (lo hi:Option Int):(xA xs lo hi).length<=xs.length:=by
 unfold xA
 rw [bf,i9]
 lia
def Sa (K:PySem.W.Frag):V->Option Int->Option Int->Hp->VK->Prop:=λx lo hi H Q=>∃a xs,x= .ref a/\kY K H a xs/\
 ¬(HT.kZ xs.length 0 lo=0/\HT.kZ xs.length xs.length hi=xs.length)/\∀p,H p=none->Q (.ref p) (bG H p (.dC (xA xs lo hi)))
theorem ON:RB X (Sa X.K):=by
 intro pins s σ H x v vl vu lo hi sl Q I rx hs pl pu h
 obtain ⟨a,xs,rfl,hx,hw,q⟩:=h
 cases rx
 obtain ⟨its,r,ht,hz⟩:=I.tuple hx
 have hlen:its.toArray.size=xs.length:=by rw [ba];exact r.length.symm
 refine ⟨"tuple",_,gR.lookup,ht.typeIs,?_⟩
 refine HT.vt ht hs pl pu (by rw [hlen];exact hw) ?_ (by rw [hlen];exact hz)
 rw [hlen]
 refine ⟨.ref s.heap.objs.size,_,I.laid (t':=s.toks) (o:= .dC (xA xs lo hi)) (λb ob q=>aD _ q) (aF _) ?_,rfl,q _ (I.fD.fresh (aF _))⟩
 exact ⟨bg (wU xs lo hi) hz,_,(r.drop (HT.kZ xs.length 0 lo)).take (HT.kZ xs.length xs.length hi-HT.kZ xs.length 0 lo),IsTup.new _ _⟩
end
end L2
namespace L2
open PySem PySem.Spec PyProof.Rows
def IL (n:Nat) (i:Int):Option Nat:=if 0<=i then (if i< n then some i.toNat else none) else if -(n:Int)<=i then some (i+n).toNat else none
def Dj {α:Type} (xs:List α) (i:Int):Option α:=(IL xs.length i).bind λj=>xs[j]?
theorem Gf {n:Nat} {i:Int} {j:Nat} (h:IL n i=some j):seqIndex? i n=some j/\j< n/\ -(n:Int)<=i/\i< n:=by
 unfold IL at h
 by_cases h0:0<=i
 ·rw [aA h0] at h
  by_cases h1:i< n
  ·rw [aA h1] at h
   have e:i.toNat=j:=Option.some.inj h
   exact ⟨by rw [seqIndex_of h0 h1,e],by lia,by lia,h1⟩
  ·rw [au h1] at h;cases h
 ·rw [au h0] at h
  by_cases h1: -(n:Int)<=i
  ·rw [aA h1] at h
   have e:(i+n).toNat=j:=Option.some.inj h
   exact ⟨by rw [seqIndex_neg (by lia) h1,e],by lia,h1,by lia⟩
  ·rw [au h1] at h;cases h
theorem Gy {α:Type} {xs:List α} {i:Int} {v:α} (h:Dj xs i=some v):∃j,seqIndex? i xs.length=some j/\xs[j]? =some v/\j< xs.length/\ -(xs.length:Int)<=i/\i< xs.length:=by
 unfold Dj at h
 cases e:IL xs.length i with
 |none=>rw [e] at h;cases h
 |some j=>
  rw [e] at h
  obtain ⟨h1,h2,h3,h4⟩:=Gf e
  exact ⟨j,h1,h,h2,h3,h4⟩
theorem cg {α:Type} {xs:List α} {j:Nat} {v:α} (h:xs[j]? =some v):Dj xs (j:Int)=some v:=by
 have hj:j< xs.length:=(ae.mp h).1
 have e:IL xs.length (j:Int)=some j:=by
  unfold IL
  rw [aA (by lia),aA (by lia)];simp
 unfold Dj;rw [e];exact h
theorem DR {α:Type} (xs:List α) (v:α):Dj (xs++[v]) (-1)=some v:=by
 have hl:(xs++[v]).length=xs.length+1:=by simp
 have e:IL (xs++[v]).length (-1)=some xs.length:=by
  unfold IL
  rw [hl,au (by decide),aA (by lia)]
  congr 1
  lia
 unfold Dj
 rw [e]
 show (xs++[v])[xs.length]? =some v
 simp
def K4 (b:Expr):Prop:=∀o i,subscripted b false o i=operate [o,i] (getItem o i)
def Q8 (X:Cx) (r:R2):Prop:=
 ∀(value slice:Expr) (pins:List (Addr×Obj)) (s:Shared) (σ:St) (H:Hp) (x y:V) (v u:Value) (Q:VK),cV X pins σ H s->dP x v->dP y u->r x y H Q->
  subscripted slice false v u=operate [v,u] (getItem v u)->wpAny (model X.prog X.w) X.A (subscriptTail value slice v u) (EP X pins σ Q) X.xe s
def M8 (X:Cx) (id:String) (r:V->List V->Hp->VK->Prop):Prop:=
 ∀(pins:List (Addr×Obj)) (s:Shared) (σ:St) (H:Hp) (x:V) (xs:List V) (v:Value) (us:List Value) (Q:VK),cV X pins σ H s->dP x v->c7 xs us->r x xs H Q->
  wpAny (model X.prog X.w) X.A (call (.builtin id) (v::us)) (EP X pins σ Q) X.xe s
section
variable {X:Cx} {a b:Expr} {ta tb:TE} {pos:Pos}
theorem cH {r:R2} (hr:Q8 X r) (ha:PE X a ta) (hb:PE X b tb) (hs:K4 b):PE X (.Subscript a b pos) (Vh r ta tb):=by
 intro pins s σ H Q I h
 exact Subscript_ (Oj ha hb I h λv u s2 x y H2 I2 rx ry q=>hr a b pins s2 σ H2 x y v u Q I2 rx ry q (hs _ _))
def QW (K:PySem.W.Frag):R2:=λx y H Q=>∃p xs i v,x= .ref p/\y= .int i/\cE K H p xs/\Dj xs i=some v/\Q v H
def TC (K:PySem.W.Frag):R2:=λx y H Q=>∃p xs i v,x= .ref p/\y= .int i/\kY K H p xs/\Dj xs i=some v/\Q v H
theorem LV:Q8 X (QW X.K):=by
 intro value slice pins s σ H x y v u Q I rx ry h hs
 obtain ⟨p,xs,i,z,rfl,rfl,hq,he,q⟩:=h
 cases rx
 obtain ⟨t,rfl⟩:=ry
 obtain ⟨its,r,pl,hz⟩:=I.list hq
 obtain ⟨j,h1,h2,h3,h4,h5⟩:=Gy he
 obtain ⟨w,ew,rw'⟩:=r.get h2
 have hl:=r.length
 have hn:=yS
 have fin:EP X pins σ Q w s:=⟨z,H,I,rw',q⟩
 by_cases h0:0<=i
 ·have hj:i.toNat=j:=by
   rw [seqIndex_of h0 h5] at h1
   exact Option.some.inj h1
  exact item_listR pl.isList h0 (by lia) (by rw [hj];simpa using ew) fin hs
 ·have hj:(i+(its.toArray.size:Int)).toNat=j:=by
   rw [seqIndex_neg (by lia) h4] at h1
   rw [ba,<-hl]
   exact Option.some.inj h1
  exact subscriptTail_builtinR (x:=w) pl.isList.typeIs slot_list_getitem.lookup
   (wpAny_getItem_list_neg (Q:=λr s'=>r=w/\EP X pins σ Q r s') pl.isList (by lia) (by rw [ba]<;>lia) (by lia) (by rw [hj];simpa using ew) ⟨rfl,fin⟩) hs
theorem N9:Q8 X (TC X.K):=by
 intro value slice pins s σ H x y v u Q I rx ry h hs
 obtain ⟨p,xs,i,z,rfl,rfl,hq,he,q⟩:=h
 cases rx
 obtain ⟨t,rfl⟩:=ry
 obtain ⟨its,r,pl,hz⟩:=I.tuple hq
 obtain ⟨j,h1,h2,h3,h4,h5⟩:=Gy he
 obtain ⟨w,ew,rw'⟩:=r.get h2
 have hl:=r.length
 have hn:=yS
 have fin:EP X pins σ Q w s:=⟨z,H,I,rw',q⟩
 exact subscriptTail_builtinR (x:=w) pl.typeIs slot_tuple_getitem.lookup
  (getItem_tuple (j:=j) (Q:=λr s'=>r=w/\EP X pins σ Q r s') pl (by lia) (by lia) (by rw [ba,<-hl];exact h1) (by simpa using ew) ⟨rfl,fin⟩) hs
theorem Fe (its:List Value) (n j:Nat) (u:Value):Obj.mapSeq (·.setIfInBounds j u) {cls:= .type "list",data:= .seq its.toArray n}={cls:= .type "list",data:= .seq (its.set j u).toArray n}:=by
 simp [Obj.mapSeq]
theorem cV.a6 {pins:List (Addr×Obj)} {σ:St} {H:Hp} {s:Shared} {p:Addr} {xs:List V} (I:cV X pins σ H s) (h:H p=some (.a6 xs)):
  ∃(its:List Value) (n:Nat),c7 xs its/\s.heap.get? p=some {cls:= .type "list",data:= .seq its.toArray n}/\xs.length<=sizeLine:=by
 obtain ⟨z,its,n,r,e⟩:=I.fD p _ h
 exact ⟨its,n,r,e,z⟩
theorem cV.OR {pins:List (Addr×Obj)} {σ:St} {H:Hp} {s:Shared} {p:Addr} {xs ys:List V} {its its':List Value} {n n':Nat} {f:Obj->Obj} (I:cV X pins σ H s) (h:H p=some (.a6 xs))
  (ho:s.heap.get? p=some {cls:= .type "list",data:= .seq its.toArray n}) (hf:f {cls:= .type "list",data:= .seq its.toArray n}={cls:= .type "list",data:= .seq its'.toArray n'}) (r:c7 ys its') (hz:ys.length<=sizeLine) (t:Nat):
  cV X pins σ (bG H p (.a6 ys)) {s with heap:=s.heap.update p f,toks:=t}:=by
 have e:(s.heap.update p f).get? p=some {cls:= .type "list",data:= .seq its'.toArray n'}:=by
  rw [gp f ho (by rw [hf]<;>rfl),hf]
 refine I.vw (x:=p) (e:=p) (by rw [h];trivial) (.inl rfl) (λb u hb q=>(ib _ _ (aY hb)).trans q) ⟨_,e⟩ ?_
 exact ⟨hz,its',n',r,e⟩
def Rk:V->V->V->Hp->(Hp->Prop)->Prop:=λo i v H Q=>∃p xs k j,o= .ref p/\i= .int k/\H p=some (.a6 xs)/\IL xs.length k=some j/\Q (bG H p (.a6 (xs.set j v)))
theorem p6:QY X Rk:=by
 intro pins s σ H o i v ov iv u Q I ro ri rv h
 obtain ⟨p,xs,k,j,rfl,rfl,hp,hj,q⟩:=h
 cases ro
 obtain ⟨t,rfl⟩:=ri
 obtain ⟨its,n,r,ho,hz⟩:=I.a6 hp
 obtain ⟨h1,h2,h3,h4⟩:=Gf hj
 have hl:=r.length
 have hn:=yS
 have I':cV X pins σ (bG H p (.a6 (xs.set j v))) {s with heap:=s.heap.update p (Obj.mapSeq (·.setIfInBounds j u))}:=
  I.OR hp ho (Fe its n j u) (r.set rv j) (by rw [gB];exact hz) s.toks
 by_cases h0:0<=k
 ·have hk:k.toNat=j:=by
   rw [seqIndex_of h0 h4] at h1
   exact Option.some.inj h1
  exact PySem.W.ki_setAt ho h0 (by lia) (by rw [ba,<-hl];exact h4) (by rw [hk];exact ⟨_,I',q⟩)
 ·have hk:(k+(its.toArray.size:Int)).toNat=j:=by
   rw [seqIndex_neg (by lia) h3] at h1
   rw [ba,<-hl]
   exact Option.some.inj h1
  exact PySem.W.ki_setBack ho (by lia) (by rw [ba,<-hl];exact h3) (by lia) (by rw [hk];exact ⟨_,I',q⟩)
theorem A1 (lo hi:Option Int) (n:Nat):(sliceBounds lo hi none n).1=((HT.kZ n 0 lo:Nat):Int)/\(sliceBounds lo hi none n).2.1=((HT.kZ n n hi:Nat):Int)/\(sliceBounds lo hi none n).2.2=1:=by
 refine ⟨?_,?_,rfl⟩
 ·cases lo with
  |none=>simp [sliceBounds,HT.kZ]
  |some i=>
   simp only [sliceBounds,HT.kZ,Option.getD_none,show (1:Int)>0 by decide,ow]
   by_cases h:i< 0
   ·simp only [h,ow]<;>lia
   ·simp only [h,pE]<;>lia
 ·cases hi with
  |none=>simp [sliceBounds,HT.kZ]
  |some i=>
   simp only [sliceBounds,HT.kZ,Option.getD_none,show (1:Int)>0 by decide,ow]
   by_cases h:i< 0
   ·simp only [h,ow]<;>lia
   ·simp only [h,pE]<;>lia
theorem zD (its:List Value) (lo hi:Option Int):slicePick its.toArray lo hi none=((its.drop (HT.kZ its.length 0 lo)).take (HT.kZ its.length its.length hi-HT.kZ its.length 0 lo)).toArray:=by
 obtain ⟨h1,h2,h3⟩:=A1 lo hi its.toArray.size
 unfold slicePick
 rw [h1,h2,h3]
 simp only [sliceRange_one,pick_run,ba]<;>rfl
def RF (K:PySem.W.Frag):V->Option Int->Option Int->Hp->VK->Prop:=λx lo hi H Q=>∃a xs,x= .ref a/\cE K H a xs/\∀p,H p=none->Q (.ref p) (bG H p (.a6 (xA xs lo hi)))
theorem Lu:RB X (RF X.K):=by
 intro pins s σ H x v vl vu lo hi sl Q I rx hs pl pu h
 obtain ⟨a,xs,rfl,hx,q⟩:=h
 cases rx
 obtain ⟨its,r,ht,hz⟩:=I.list hx
 have hlen:=r.length
 refine ⟨"list",_,slot_list_getitem.lookup,ht.isList.typeIs,?_⟩
 refine wpAny_getItem_list_slice ht.isList hs pl pu .none (by simp) ?_ (by rw [ba]<;>lia)
 rw [zD,<-hlen]
 refine ⟨.ref s.heap.objs.size,_,I.laid (t':=s.toks) (o:= .a6 (xA xs lo hi)) (λb ob q=>aD _ q) (aF _) ?_,rfl,q _ (I.fD.fresh (aF _))⟩
 exact ⟨bg (wU xs lo hi) hz,_,0,(r.drop (HT.kZ xs.length 0 lo)).take (HT.kZ xs.length xs.length hi-HT.kZ xs.length 0 lo),aZ _ rfl⟩
def nL:V->Bool
 | .ll=>true
 | .bl _=>true
 | .int _=>true
 | .str _=>true
 |_=>false
def Cd:V->V->Bool
 | .ll,.ll=>true
 | .bl a,.bl b=>a==b
 | .bl a,.int b=>(if a then 1 else 0)==b
 | .int a,.bl b=>a==(if b then 1 else 0)
 | .int a,.int b=>a==b
 | .str a,.str b=>a==b
 |_,_=>false
theorem NN {A:Around} {s:Shared} {y x:V} {u v:Value} (ry:dP y u) (rx:dP x v) (fy:nL y=true) (fx:nL x=true):SeqAt.EqAt A s u v (Cd y x):=by
 cases y with
 |ll=>
  cases ry
  cases x with
  |ll=>cases rx;exact SeqAt.EqAt.same _
  |bl b=>cases rx;exact SeqAt.EqAt.none_bool b
  |int b=>obtain ⟨t,rfl⟩:=rx;exact SeqAt.EqAt.none_int b t
  |str b=>obtain ⟨t,rfl⟩:=rx;exact SeqAt.EqAt.none_str b t
  |_=>exact absurd (show false=true from fx) bK
 |bl a=>
  cases ry
  cases x with
  |ll=>cases rx;exact SeqAt.EqAt.bool_none a
  |bl b=>cases rx;exact SeqAt.EqAt.bool_bool a b
  |int b=>obtain ⟨t,rfl⟩:=rx;exact SeqAt.EqAt.bool_int a b t
  |str b=>obtain ⟨t,rfl⟩:=rx;exact SeqAt.EqAt.bool_str a b t
  |_=>exact absurd (show false=true from fx) bK
 |int a=>
  obtain ⟨t',rfl⟩:=ry
  cases x with
  |ll=>cases rx;exact SeqAt.EqAt.int_none a t'
  |bl b=>cases rx;exact SeqAt.EqAt.int_bool a t' b
  |int b=>obtain ⟨t,rfl⟩:=rx;exact SeqAt.EqAt.int_int a t' b t
  |str b=>obtain ⟨t,rfl⟩:=rx;exact SeqAt.EqAt.int_str a t' b t
  |_=>exact absurd (show false=true from fx) bK
 |str a=>
  obtain ⟨t',rfl⟩:=ry
  cases x with
  |ll=>cases rx;exact SeqAt.EqAt.str_none a t'
  |bl b=>cases rx;exact SeqAt.EqAt.str_bool a t' b
  |int b=>obtain ⟨t,rfl⟩:=rx;exact SeqAt.EqAt.str_int a t' b t
  |str b=>obtain ⟨t,rfl⟩:=rx;exact SeqAt.EqAt.str_str a t' b t
  |_=>exact absurd (show false=true from fx) bK
 |_=>exact absurd (show false=true from fy) bK
def HY (x:V) (u:Value):Bool:=match u with
 | .none=>Cd .ll x
 | .bool b=>Cd (.bl b) x
 | .int i _=>Cd (.int i) x
 | .str z _=>Cd (.str z) x
 |_=>false
theorem yK {x y:V} {u:Value} (r:dP y u) (f:nL y=true):HY x u=Cd y x:=by
 cases y with
 |ll=>cases r;rfl
 |bl b=>cases r;rfl
 |int i=>obtain ⟨t,rfl⟩:=r;rfl
 |str z=>obtain ⟨t,rfl⟩:=r;rfl
 |_=>exact absurd (show false=true from f) bK
theorem Bh {x:V}:∀{xs:List V} {us:List Value},c7 xs us->xs.all nL=true->us.any (HY x)=xs.any λy=>Cd y x
 |_,_,.nil,_=>rfl
 |y::xs,u::us,.cons r t,f=>by
  rw [oR,aR] at f
  rw [dB,dB,yK r f.1,Bh t f.2]
theorem rQ {A:Around} {s:Shared} {x:V} {v:Value} (rx:dP x v) (fx:nL x=true):∀{xs:List V} {us:List Value},c7 xs us->xs.all nL=true->∀u∈us,SeqAt.EqAt A s u v (HY x u)
 |_,_,.nil,_=>λu hu=>by cases hu
 |y::xs,u::us,.cons r t,f=>λu' hu=>by
  rw [oR,aR] at f
  rcases aX.mp hu with rfl|hu
  ·rw [yK r f.1];exact NN r rx f.1 fx
  ·exact rQ rx fx t f.2 u' hu
def LM (x:V) (xs:List V):Bool:=xs.any λy=>Cd y x
def Yf (K:PySem.W.Frag) (neg:Bool):R2:=λx y H Q=>∃p xs,y= .ref p/\(cE K H p xs\/kY K H p xs)/\nL x=true/\xs.all nL=true/\Q (.bl (if neg then !LM x xs else LM x xs)) H
theorem HL:Aj X (compareOp .In) (Yf X.K false):=by
 intro pins s σ H x y v u Q I rx ry h
 obtain ⟨p,xs,rfl,hq,fx,fs,q⟩:=h
 cases ry
 rcases hq with hq|hq
 ·obtain ⟨its,r,pl,hz⟩:=I.list hq
  refine SeqAt.in_listAt (HY x) pl.isList (λw hw=>rQ rx fx r fs w (by simpa using hw)) ⟨.bl _,H,I,rfl,?_⟩
  rw [show its.toArray.any (HY x)=its.any (HY x) by simp,Bh r fs]
  exact q
 ·obtain ⟨its,r,pl,hz⟩:=I.tuple hq
  refine SeqAt.in_tupleAt (HY x) pl (λw hw=>rQ rx fx r fs w (by simpa using hw)) ⟨.bl _,H,I,rfl,?_⟩
  rw [show its.toArray.any (HY x)=its.any (HY x) by simp,Bh r fs]
  exact q
theorem A8:hJ X (.builtin "len") (λxs H Q=>∃p ys,xs=[.ref p]/\(cE X.K H p ys\/kY X.K H p ys)/\Q (.int ys.length) H):=by
 intro pins s σ H xs us Q I r h
 obtain ⟨p,ys,rfl,hq,q⟩:=h
 obtain ⟨u,rfl,rx⟩:=F3 r
 cases rx
 have hn:=yS
 rcases hq with hq|hq
 ·obtain ⟨its,r',pl,hz⟩:=I.list hq
  have hlen:=r'.length
  exact Calls.call_len_list pl.isList (by simp only [ba]<;>lia) ⟨.int ys.length,H,I.uR _,⟨s.toks+1,by rw [ba,hlen]⟩,q⟩
 ·obtain ⟨its,r',pl,hz⟩:=I.tuple hq
  have hlen:=r'.length
  exact len_tuple pl (by simp only [ba]<;>lia) ⟨.int ys.length,H,I.uR _,⟨s.toks+1,by rw [ba,hlen]⟩,q⟩
theorem AO:hJ X (.type "list") (λxs H Q=>∃p ys,xs=[.ref p]/\(cE X.K H p ys\/kY X.K H p ys)/\∀l,H l=none->Q (.ref l) (bG H l (.a6 ys))):=by
 intro pins s σ H xs us Q I r h
 obtain ⟨p,ys,rfl,hq,q⟩:=h
 obtain ⟨u,rfl,rx⟩:=F3 r
 cases rx
 have fin:∀(its:List Value),c7 ys its->ys.length<=sizeLine->∀(h':Heap) (c':Nat),(∀b o',s.heap.get? b=some o'->h'.get? b=some o')->
   h'.get? s.heap.objs.size=some {cls:= .type "list",dict:=none,data:= .seq its.toArray c',slots:= #[]}->EP X pins σ Q (.ref s.heap.objs.size) {s with heap:=h'}:=λits r' hz h' c' kp e=>
  ⟨.ref s.heap.objs.size,_,I.laid (t':=s.toks) kp (aF _) (show g8 X.prog X.w _ h' _ (.a6 ys) from ⟨hz,its,c',r',e⟩),rfl,q _ (I.fD.fresh (aF _))⟩
 rcases hq with hq|hq
 ·obtain ⟨its,r',pl,hz⟩:=I.list hq
  have hlen:=r'.length
  obtain ⟨o,ho,hc,n,hd⟩:=pl.isList
  exact call_list_seq p (.inl rfl) ho hc hd (λh' c' kp e=>fin its r' hz h' c' kp e) (by simp only [ba]<;>lia)
 ·obtain ⟨its,r',pl,hz⟩:=I.tuple hq
  have hlen:=r'.length
  obtain ⟨o,ho,hc,n,hd⟩:=pl
  exact call_list_seq p (.inr rfl) ho hc hd (λh' c' kp e=>fin its r' hz h' c' kp e) (by simp only [ba]<;>lia)
theorem zq:hJ X (.type "tuple") (λxs H Q=>∃p ys,xs=[.ref p]/\((cE X.K H p ys/\∀l,H l=none->Q (.ref l) (bG H l (.dC ys)))\/(kY X.K H p ys/\Q (.ref p) H))):=by
 intro pins s σ H xs us Q I r h
 obtain ⟨p,ys,rfl,h⟩:=h
 obtain ⟨u,rfl,rx⟩:=F3 r
 cases rx
 rcases h with ⟨hq,q⟩|⟨hq,q⟩
 ·obtain ⟨its,r',pl,hz⟩:=I.list hq
  have hlen:=r'.length
  refine call_tuple_list pl.isList (λh' kp=> ?_) (by simp only [ba]<;>lia)
  have I1:cV X pins σ H {s with heap:=h'}:=I.k0 (t':=s.toks) kp
  have I2:cV X pins σ (bG H h'.objs.size (.dC ys)) {s with heap:=h'.push {cls:= .type "tuple",data:= .seq its.toArray}}:=
   I1.laid (t':=s.toks) (λb o e=>aD _ e) (aF _) (show g8 X.prog X.w _ _ _ (.dC ys) from ⟨hz,its,r',IsTup.new _ _⟩)
  exact ⟨.ref h'.objs.size,_,I2,rfl,q _ (I1.fD.fresh (aF _))⟩
 ·obtain ⟨its,r',pl,hz⟩:=I.tuple hq
  exact call_tuple_same pl ⟨.ref p,H,I,rfl,q⟩
def Wn (K:PySem.W.Frag) (T:String) (x:V) (H:Hp):Prop:=match x with
 | .str _=>T="str"
 | .int _=>T="int"
 | .ref p=>(T="list"/\∃xs,cE K H p xs)\/(T="tuple"/\∃o,K.lookup p=some o/\o.cls= .type "tuple"/\o.dict=none)\/
   (T="dict"/\((∃kvs,H p=some (.dK kvs))\/∃kvs,H p=some (.dT kvs)))\/(T="set"/\∃S n,H p=some (.set S n))
 |_=>False
theorem JG {pins:List (Addr×Obj)} {σ:St} {H:Hp} {s:Shared} {T:String} {x:V} {v:Value} (I:cV X pins σ H s) (r:dP x v) (ty:Wn X.K T x H):
  s.TypeIs v T/\∀a,v= .ref a->∃ob,s.heap.get? a=some ob/\ob.dict=none:=by
 cases x with
 |str z=>
  obtain ⟨t,rfl⟩:=r
  cases (show T="str" from ty)
  exact ⟨typeIs_str s z t,λ_ e=>nomatch e⟩
 |int i=>
  obtain ⟨t,rfl⟩:=r
  cases (show T="int" from ty)
  exact ⟨typeIs_int s i t,λ_ e=>nomatch e⟩
 |ref p=>
  cases r
  rcases ty with ⟨rfl,xs,hq⟩|⟨rfl,o,hk,hc,hd⟩|⟨rfl,hk⟩|⟨rfl,S,n,hk⟩
  ·obtain ⟨its,_,pl,_⟩:=I.list hq
   refine ⟨pl.isList.typeIs,λa e=> ?_⟩
   cases e
   obtain ⟨o,n,e,c,hd,_⟩:=pl
   exact ⟨o,e,hd⟩
  ·refine ⟨⟨o,I.Ei p o hk,hc⟩,λa e=> ?_⟩
   cases e
   exact ⟨o,I.Ei _ o hk,hd⟩
  ·have z:∃o,s.heap.get? p=some o/\o.ExactDict:=by
    rcases hk with ⟨kvs,hk⟩|⟨kvs,hk⟩
    ·obtain ⟨_,_,_,_,o,_,_,e,ex,_⟩:=I.fD p _ hk
     exact ⟨o,e,ex⟩
    ·obtain ⟨_,_,_,_,o,_,_,e,ex,_⟩:=I.fD p _ hk
     exact ⟨o,e,ex⟩
   obtain ⟨o,e,ex⟩:=z
   refine ⟨⟨o,e,ex.1⟩,λa e2=> ?_⟩
   cases e2
   exact ⟨o,e,ex.2.1⟩
  ·obtain ⟨o,_,_,_,e,ex,_⟩:=I.fD p _ hk
   refine ⟨⟨o,e,ex.1⟩,λa e2=> ?_⟩
   cases e2
   exact ⟨o,e,ex.2.1⟩
 |_=>exact False.elim ty
def S5 (K:PySem.W.Frag) (T:String) (r:V->List V->Hp->VK->Prop) (to:TE):TE:=fun σ H Q=>to σ H λx H1=>Wn K T x H1/\r x [] H1 Q
def Yo (K:PySem.W.Frag) (T:String) (r:V->List V->Hp->VK->Prop) (to:TE) (t:TA):TE:=fun σ H Q=>to σ H λx H1=>Wn K T x H1/\t σ H1 λxs H2=>r x xs H2 Q
variable {o e:Expr} {es:List Expr} {to:TE} {t:TA} {name:Str} {apos cpos:Pos} {T id:String} {r:V->List V->Hp->VK->Prop}
theorem Nz (pa:PlainAttrs T) (slot:Slot T name id) (hty:typeOf (.builtin id)=pure (.type "method_descriptor")) (hm:M8 X id r) (ho:PE X o to)
  (hbase:attributeBase o name X.bX (eval o X.bX)=eval o X.bX:=by rfl) (hline:(apos.endLine==cpos.line)=true:=by rfl):PE X (.Call (.Attribute o name apos) [] [] cpos) (S5 X.K T r to):=by
 intro pins s σ H Q I h
 refine wpAny_Call_method0_late hbase hline (gU (ho pins s σ H _ I h) λv s1 ⟨x,H1,I1,r1,ty,q1⟩=> ?_)
 obtain ⟨h1,h2⟩:=JG I1 r1 ty
 exact ⟨T,id,pa,slot,hty,h1,h2,kh rfl (PySem.evalArgs_none (hm pins s1 σ H1 x [] v [] Q I1 r1 .nil q1))⟩
theorem SU (pa:PlainAttrs T) (slot:Slot T name id) (hty:typeOf (.builtin id)=pure (.type "method_descriptor")) (hm:M8 X id r) (ho:PE X o to) (ha:PA X (e::es) t)
  (hbase:attributeBase o name X.bX (eval o X.bX)=eval o X.bX:=by rfl)
  (hfew:((backTo cpos (starEach (e::es) X.bX)).all (λx=> !x.1)&&(backToKw cpos (keywordEach [] X.bX)).all (λx=>x.1.isSome)
   &&decide ((e::es).length+([]:List Keyword).length+(if ([]:List Keyword).isEmpty then 0 else 1)< 30))=true:=by rfl)
  (hline:(apos.endLine==cpos.line)=true:=by rfl) (hs:starEach (e::es) X.bX=(false,eval e X.bX)::starEach es X.bX:=by rfl) (hplain:(backTo cpos (starEach es X.bX)).any (·.1)=false:=by rfl):
  PE X (.Call (.Attribute o name apos) (e::es) [] cpos) (Yo X.K T r to t):=by
 intro pins s σ H Q I h
 refine wpAny_Call_method_late hbase hfew hline rfl (gU (ho pins s σ H _ I h) λv s1 ⟨x,H1,I1,r1,ty,q1⟩=> ?_)
 obtain ⟨h1,h2⟩:=JG I1 r1 ty
 refine ⟨T,id,pa,slot,hty,h1,h2,?_⟩
 have hA:=ha cpos pins s1 σ H1 _ I1 q1
 rw [hs] at hA ⊢
 refine kh (by show (false||(backTo cpos (starEach es X.bX)).any (·.1))=false;rw [hplain]<;>rfl) (Calls.evalArgs_plain ?_)
 exact gU hA λus s2 ⟨vs,H2,I2,r2,q2⟩=>hm pins s2 σ H2 x vs v us Q I2 r1 r2 q2
end
end L2
namespace L2
open PySem PySem.Spec PyProof.Rows
def Ws (X:Cx) (id:String) (r:V->List V->Hp->VK->Prop):Prop:=
 ∀(pins:List (Addr×Obj)) (s:Shared) (σ:St) (H:Hp) (x:V) (xs:List V) (v:Value) (us:List Value) (Q:VK),cV X pins σ H s->dP x v->c7 xs us->r x xs H Q->
  wpAny (model X.prog X.w) X.A (call (.builtin id) (v::us)) (EP X pins σ Q) X.xe s
theorem c7.wL:∀{x:V} {us:List Value},c7 [x] us->∃u,us=[u]/\dP x u
 |_,_,.cons r .nil=>⟨_,rfl,r⟩
theorem c7.zero:∀{us:List Value},c7 [] us->us=[]
 |_,.nil=>rfl
theorem c7.dropLast {xs:List V} {us:List Value} (h:c7 xs us):c7 xs.dropLast us.dropLast:=by
 induction h with
 |nil=>exact .nil
 |cons r t ih=>
  cases t with
  |nil=>exact .nil
  |cons q t'=>exact .cons r ih
theorem Fs {α:Type} (l:List α):l.eraseIdx (l.length-1)=l.dropLast:=by
 induction l with
 |nil=>rfl
 |cons a r ih=>
  cases r with
  |nil=>rfl
  |cons b r=>
   have e:(a::b::r).length-1=((b::r).length-1)+1:=by
    have h1:(a::b::r).length=r.length+2:=rfl
    have h2:(b::r).length=r.length+1:=rfl
    lia
   rw [e,List.eraseIdx_cons_succ,ih]
   all_goals rfl
section
variable {X:Cx} {pins:List (Addr×Obj)} {σ:St} {H:Hp} {s:Shared} {l b:Addr} {xs ys zs:List V}
theorem cV.Pl {its its':List Value} {n:Nat} {f:Array Value->Array Value} {t':Nat} (I:cV X pins σ H s) (hH:H l=some (.a6 xs))
  (e:s.heap.get? l=some {cls:= .type "list",data:= .seq its.toArray n}) (hf:f its.toArray=its'.toArray) (hv:c7 ys its') (hz:ys.length<=sizeLine):
  cV X pins σ (bG H l (.a6 ys)) {s with heap:=s.heap.update l (Obj.mapSeq f),toks:=t'}:=by
 have q:=PySem.IsL.update e f
 rw [hf] at q
 refine I.vw (x:=l) (e:=l) (by rw [hH];exact trivial) (.inl rfl) (λb' u hb hu=>(ib s.heap (Obj.mapSeq f) (aY hb)).trans hu) ⟨_,q⟩ ?_
 exact ⟨hz,its',_,hv,q⟩
theorem cV.WB {its:List Value} {t':Nat} (I:cV X pins σ H s) (hv:c7 ys its) (hz:ys.length<=sizeLine):
  cV X pins σ (bG H s.heap.objs.size (.a6 ys)) {s with heap:=s.heap.push {cls:= .type "list",data:= .seq its.toArray},toks:=t'}:=
 I.laid (λ_ _ q=>aD _ q) (aF _) ⟨hz,its,0,hv,aZ _ rfl⟩
theorem cV.fresh (I:cV X pins σ H s):H s.heap.objs.size=none:=I.fD.fresh (aF _)
theorem cV.Hr (I:cV X pins σ H s) (hH:H l=some (.a6 xs)):xs.length<=sizeLine/\∃(its:List Value) (n:Nat),c7 xs its/\xs.length=its.length/\s.heap.get? l=some {cls:= .type "list",data:= .seq its.toArray n}:=by
 obtain ⟨z,its,n,r,e⟩:=I.fD l _ hH
 exact ⟨z,its,n,r,r.length,e⟩
theorem JI {n:Nat} (h:n<=sizeLine):Builtin.List.listTooLong n=false:=by
 unfold Builtin.List.listTooLong
 exact a8 (by lia)
end
section
variable {X:Cx}
def Lv:V->List V->Hp->VK->Prop:=λx vs H Q=>∃l xs y,x= .ref l/\vs=[y]/\H l=some (.a6 xs)/\xs.length< sizeLine/\Q .ll (bG H l (.a6 (xs++[y])))
theorem fe:Ws X "list.append" Lv:=by
 intro pins s σ H x vs v us Q I rx rv h
 obtain ⟨l,xs,y,rfl,rfl,hH,hz,q⟩:=h
 cases rx
 obtain ⟨u,rfl,ru⟩:=rv.wL
 obtain ⟨z,its,n,r,hl,e⟩:=I.Hr hH
 refine qh F.slot_list_append ⟨_,e,rfl⟩ F.entry_list_append (F.args_list_append_2 _ _) (PySem.list_append l its.toArray n u (by rw [ba];lia)) ⟨e,?_⟩
 refine ⟨.ll,_,I.Pl (its':=its++[u]) hH e (by simp) (r.append (.cons ru .nil)) ?_,rfl,q⟩
 rw [ao,iK]
 lia
def LD:V->List V->Hp->VK->Prop:=λx vs H Q=>∃l b xs zs,x= .ref l/\vs=[.ref b]/\H l=some (.a6 xs)/\H b=some (.a6 zs)/\xs.length+zs.length<=sizeLine/\Q .ll (bG H l (.a6 (xs++zs)))
theorem tj:Ws X "list.extend" LD:=by
 intro pins s σ H x vs v us Q I rx rv h
 obtain ⟨l,b,xs,zs,rfl,rfl,hH,hB,hz,q⟩:=h
 cases rx
 obtain ⟨u,rfl,ru⟩:=rv.wL
 cases ru
 obtain ⟨z,its,n,r,hl,e⟩:=I.Hr hH
 obtain ⟨z2,its2,n2,r2,hl2,e2⟩:=I.Hr hB
 have hsz:its.toArray.size+its2.toArray.size<=sizeLine:=by rw [ba,ba];lia
 have hlong:¬(!its.toArray.isEmpty&&Builtin.List.listTooLong (its.toArray.size+its2.toArray.size))=true:=by
  rw [JI hsz,Bool.and_false]
  exact bK
 refine qh F.slot_list_extend ⟨_,e,rfl⟩ F.entry_list_extend (F.args_list_extend_2 _ _)
  (AutoSeq1.list_extend_list_list_0 l its.toArray n b its2.toArray n2 hlong (by rw [ba];lia) (by lia)) ⟨e,e2,?_⟩
 refine ⟨.ll,_,I.Pl (its':=its++its2) hH e (by simp) (r.append r2) ?_,rfl,q⟩
 rw [ao]
 lia
def Ww:V->List V->Hp->VK->Prop:=λx vs H Q=>∃l xs y,x= .ref l/\vs=[]/\H l=some (.a6 xs)/\xs[xs.length-1]? =some y/\Q y (bG H l (.a6 xs.dropLast))
theorem Be:Ws X "list.pop" Ww:=by
 intro pins s σ H x vs v us Q I rx rv h
 obtain ⟨l,xs,y,rfl,rfl,hH,hy,q⟩:=h
 cases rx
 have hus:=rv.zero
 subst hus
 obtain ⟨z,its,n,r,hl,e⟩:=I.Hr hH
 obtain ⟨u,hu,ru⟩:=r.get hy
 have hy':its.toArray[its.toArray.size-1]? =some u:=by
  show its.toArray[its.length-1]? =some u
  rw [<-dg,<-hl]
  exact hu
 refine qh F.slot_list_pop ⟨_,e,rfl⟩ F.entry_list_pop (F.args_list_pop_1 _) (MeetsSeq.list_pop_last l its.toArray n u hy' (by rw [ba];lia)) ⟨e,?_⟩
 refine ⟨y,_,I.Pl (its':=its.dropLast) hH e ?_ r.dropLast ?_,ru,q⟩
 ·show its.toArray.eraseIdxIfInBounds (its.toArray.size-1)=its.dropLast.toArray
  rw [ba,List.eraseIdxIfInBounds_toArray,Fs]
 ·rw [List.length_dropLast]
  lia
def Wh:R2:=λx y H Q=>∃l b xs zs,x= .ref l/\y= .ref b/\H l=some (.a6 xs)/\H b=some (.a6 zs)/\xs.length+zs.length<=sizeLine/\∀p,H p=none->Q (.ref p) (bG H p (.a6 (xs++zs)))
theorem sr:Aj X (binaryOp .Add) Wh:=by
 intro pins s σ H x y v u Q I rx ry h
 obtain ⟨l,b,xs,zs,rfl,rfl,hH,hB,hz,q⟩:=h
 cases rx
 cases ry
 obtain ⟨z,its,n,r,hl,e⟩:=I.Hr hH
 obtain ⟨z2,its2,n2,r2,hl2,e2⟩:=I.Hr hB
 refine PySem.P.add_list e e2 ?_ (by rw [ba,ba];lia)
 have ea:its.toArray++its2.toArray=(its++its2).toArray:=by simp
 rw [ea]
 exact ⟨.ref _,_,I.WB (t':=s.toks) (r.append r2) (by rw [ao];lia),rfl,q _ I.fresh⟩
end
end L2
namespace L2
open PySem PySem.Spec PyProof.Rows
theorem c7.ints:∀{ns:List Int} {us:List Value},c7 (ns.map V.int) us->IntsAre us ns
 |[],us,h=>by
  rw [gF] at h
  cases h
  exact IntsAre.nil
 |n::ns,us,h=>by
  rw [bA] at h
  cases h with
  |cons r t=>
   obtain ⟨k,rfl⟩:=r
   exact IntsAre.cons n k (c7.ints t)
theorem mR:∀{us:List Value} {ns:List Int},IntsAre us ns->c7 (ns.map V.int) us
 |_,_,.nil=>by rw [gF];exact Paired.nil
 |_,_,.cons n t h=>by rw [bA];exact Paired.cons (show dP (V.int n) (Value.int n t) from ⟨t,rfl⟩) (mR h)
theorem c7.Yp:∀{bs:List Bool} {us:List Value},c7 (bs.map V.bl) us->us=bs.map Value.bool
 |[],us,h=>by
  rw [gF] at h
  cases h
  rfl
 |b::bs,us,h=>by
  rw [bA] at h
  cases h with
  |cons r t=>
   cases r
   rw [c7.Yp t,bA]
theorem c7.Bo {a:Addr} {us:List Value} (r:c7 [V.ref a] us):us=[Value.ref a]:=by
 cases r with
 |cons r t=>
  cases t
  cases r
  rfl
theorem c7.WM {i j:Int} {us:List Value} (r:c7 [V.int i,V.int j] us):∃t u,us=[Value.int i t,Value.int j u]:=by
 cases r with
 |cons r t=>
  cases t with
  |cons r2 t2=>
   cases t2
   obtain ⟨t,rfl⟩:=r
   obtain ⟨u,rfl⟩:=r2
   exact ⟨t,u,rfl⟩
section
variable {prog:Program} {w:World} {A:Around} {E:Value->Shared->Prop} {s:Shared} {l:Addr} {its:List Value} {ns:List Int} {Q:Value->Shared->Prop}
theorem LX (hh:A.handled=none) (hl:s.heap.IsList l its.toArray) (hi:IntsAre its ns) (hne:0< ns.length)
  (h:∀h' tk M t',(∀b o,s.heap.get? b=some o->h'.get? b=some o)->M∈ns->(∀a,a∈ns->a<=M)->Q (.int M t') {s with heap:=h',toks:=tk}):wpAny (model prog w) A (call (.builtin "max") [.ref l]) Q E s:=by
 obtain ⟨xs,e⟩:=hi.allInts.items
 have hn:numsOf (intItems xs).toList=ns:=by rw [<-e];exact hi.numsOf
 rw [nums_intItems] at hn
 subst hn
 rw [e] at hl
 have hsz:0< xs.size:=by simpa using hne
 refine PySem.max_intList hh hl hsz λv h' tk hv hk=> ?_
 obtain ⟨t,rfl⟩:=intItems_at hv
 obtain ⟨h1,h2⟩:=argBest_gt (numAt xs) (xs.size-1)
 refine h h' tk _ t hk ?_ λa ha=> ?_
 ·rw [numAt_eq];exact PySem.getD_mem (by rw [af,cY];lia)
 ·obtain ⟨j,hj,rfl⟩:=mem_getD ha
  rw [af,cY] at hj
  rw [<-numAt_eq];exact h2 j (by lia)
theorem Ld (hh:A.handled=none) (hl:s.heap.IsList l its.toArray) (hi:IntsAre its ns) (hne:0< ns.length)
  (h:∀h' tk M t',(∀b o,s.heap.get? b=some o->h'.get? b=some o)->M∈ns->(∀a,a∈ns->M<=a)->Q (.int M t') {s with heap:=h',toks:=tk}):wpAny (model prog w) A (call (.builtin "min") [.ref l]) Q E s:=by
 obtain ⟨xs,e⟩:=hi.allInts.items
 have hn:numsOf (intItems xs).toList=ns:=by rw [<-e];exact hi.numsOf
 rw [nums_intItems] at hn
 subst hn
 rw [e] at hl
 have hsz:0< xs.size:=by simpa using hne
 refine PySem.min_intList hh hl hsz λv h' tk hv hk=> ?_
 obtain ⟨t,rfl⟩:=intItems_at hv
 obtain ⟨h1,h2⟩:=argBest_lt (numAt xs) (xs.size-1)
 refine h h' tk _ t hk ?_ λa ha=> ?_
 ·rw [numAt_eq];exact PySem.getD_mem (by rw [af,cY];lia)
 ·obtain ⟨j,hj,rfl⟩:=mem_getD ha
  rw [af,cY] at hj
  rw [<-numAt_eq];exact h2 j (by lia)
end
section
variable {X:Cx}
def RM (K:PySem.W.Frag):List V->Hp->VK->Prop:=λvs H Q=>∃(a:Addr) (ns:List Int),vs=[V.ref a]/\cE K H a (ns.map V.int)/\0< ns.length/\∀m,m∈ns->(∀y,y∈ns->y<=m)->Q (.int m) H
def R7 (K:PySem.W.Frag):List V->Hp->VK->Prop:=λvs H Q=>∃(a:Addr) (ns:List Int),vs=[V.ref a]/\cE K H a (ns.map V.int)/\0< ns.length/\∀m,m∈ns->(∀y,y∈ns->m<=y)->Q (.int m) H
theorem O3 (hc:X.oq=true):hJ X (.builtin "max") (RM X.K):=by
 intro pins s σ H vs us Q I r h
 obtain ⟨a,ns,rfl,hs,hne,q⟩:=h
 obtain ⟨its,rv,hl,_⟩:=I.list hs
 rw [c7.Bo r]
 exact LX (I.ok.hd hc) hl.isList rv.ints hne λh' tk m t' hk h1 h2=>⟨.int _,H,I.k0 hk,⟨_,rfl⟩,q m h1 h2⟩
theorem NC (hc:X.oq=true):hJ X (.builtin "min") (R7 X.K):=by
 intro pins s σ H vs us Q I r h
 obtain ⟨a,ns,rfl,hs,hne,q⟩:=h
 obtain ⟨its,rv,hl,_⟩:=I.list hs
 rw [c7.Bo r]
 exact Ld (I.ok.hd hc) hl.isList rv.ints hne λh' tk m t' hk h1 h2=>⟨.int _,H,I.k0 hk,⟨_,rfl⟩,q m h1 h2⟩
def Gx (K:PySem.W.Frag):List V->Hp->VK->Prop:=λvs H Q=>∃(a:Addr) (ns:List Int),vs=[V.ref a]/\cE K H a (ns.map V.int)/\ns.length< 64/\
 ∀(ns':List Int) (p:Addr),ns'.Perm ns->ns'.Pairwise (·<=·)->H p=none->Q (.ref p) (bG H p (.a6 (ns'.map V.int)))
theorem xZ {n:Nat} (h:n< 64):n<=sizeLine:=by rw [dH];lia
theorem HI:hJ X (.builtin "sorted") (Gx X.K):=by
 intro pins s σ H vs us Q I r h
 obtain ⟨a,ns,rfl,hs,h64,q⟩:=h
 obtain ⟨its,rv,hl,_⟩:=I.list hs
 rw [c7.Bo r]
 have hi:=rv.ints
 refine PyProof.Rows.sorted_ints hl.isList hi (by rw [hi.length];exact h64) λout ns' h1 h2 h3=> ?_
 obtain ⟨ep,he'⟩:=oj s.heap its out
 have hlen:(ns'.map V.int).length<=sizeLine:=by rw [af,h2.length_eq];exact xZ h64
 exact ⟨.ref _,bG H (s.heap.objs.size+1) (.a6 (ns'.map V.int)),I.laid (t':=s.toks) (λ_ _=>m8) (cG _) ⟨hlen,out.toList,ep,mR h1,he'⟩,rfl,q ns' _ h2 h3 (I.fD.fresh (cG _))⟩
end
section
variable {X:Cx}
def J3 (K:PySem.W.Frag):V->List V->Hp->VK->Prop:=λx xs H Q=>∃(a:Addr) (ys:List V) (y:V) (j:Nat) (z:V),x=V.ref a/\xs=[y]/\cE K H a ys/\nL y=true/\ys.all nL=true/\ys[j]? =some z/\Cd z y=true/\
 (∀(m:Nat) (z':V),m< j->ys[m]? =some z'->Cd z' y=false)/\Q (.int (j:Nat)) H
theorem FJ {ys:List V} (f:ys.all nL=true) {j:Nat} {z:V} (h:ys[j]? =some z):nL z=true:=dE.mp f z (aw h)
theorem Js:M8 X "list.index" (J3 X.K):=by
 intro pins s σ H x xs v us Q I rx rxs h
 obtain ⟨a,ys,y,j,z,rfl,rfl,hs,fy,fys,hz,hzj,hno,q⟩:=h
 cases rx
 cases rxs with
 |cons ry rt=>
  rename_i uy ut
  cases rt
  obtain ⟨its,rv,⟨⟨cls,dd,data,sl⟩,n,ho,hc,hdn,hd⟩,hlen⟩:=I.list hs
  simp only at hc hd
  subst hc hd
  obtain ⟨u,hu,ru⟩:=rv.get hz
  obtain ⟨hjl,hje⟩:=ae.mp hu
  have hvl:=rv.length
  have hj:j< its.toArray.size:=by simpa using hjl
  have hsl:=dH
  refine qh j1 ⟨_,ho,rfl⟩ PySem.F.entry_list_index (PySem.F.args_list_index_2 _ _)
   (SeqAt.list_indexAt a its.toArray n dd sl uy (HY y) j hj (by lia) ?_ ?_) ⟨ho,λu' hu'=>rQ ry fy rv fys u' (by simpa using hu'),?_⟩
  ·have e1:its.toArray[j]=u:=by simpa using hje
   rw [e1,yK ru (FJ fys hz)]
   exact hzj
  ·intro m hm hmj
   have hml:m< its.length:=by simpa using hm
   have hmy:m< ys.length:=by lia
   have hy':ys[m]? =some ys[m]:=ab hmy
   obtain ⟨u2,hu2,ru2⟩:=rv.get hy'
   obtain ⟨_,hme⟩:=ae.mp hu2
   have e1:its.toArray[m]=u2:=by simpa using hme
   rw [e1,yK ru2 (FJ fys hy')]
   exact hno m _ hmj hy'
  ·exact ⟨.int (j:Nat),H,I.uR _,⟨_,rfl⟩,q⟩
end
theorem IU {prog:Program} {w:World} {A:Around} {E:Value->Shared->Prop} {s:Shared} {l:Addr} {items:Array Value} {Q:Value->Shared->Prop} (hl:s.heap.IsList l items)
  (h:∀s₂:Shared,s₂={s with heap:=s.heap.push {cls:= .type "list_iterator",data:= .fields #[.ref l,.int 0 0]}}->
   (s₂.heap.IsListIter s.heap.objs.size l 0/\s₂.heap.IsList l items)->l≠s.heap.objs.size->Q (.ref s.heap.objs.size) s₂):wpAny (model prog w) A (pyIter (.ref l)) Q E s:=by
 have hlt:l< s.heap.objs.size:=by obtain ⟨_,e,_⟩:=hl;exact bz e
 exact ou hl (h _ rfl ⟨⟨_,aZ _ rfl,rfl,rfl⟩,hl.push _⟩ (bO hlt))
theorem CH {prog:Program} {w:World} {A:Around} {bs:List Bool} {its:List Value} (e:its=bs.map Value.bool):
  TruthOf prog w A (λi v=>its.toArray[i]? =some v) (λi=>bs.getD i false):=λi v s Q E hv hq=>by
 have hv':its[i]? =some v:=by simpa using hv
 rw [e,ay] at hv'
 obtain ⟨b,hb,rfl⟩:=kl.mp hv'
 have hg:bs.getD i false=b:=by rw [dA,hb]<;>rfl
 have hq':Q (bs.getD i false) s:=hq
 rw [hg] at hq'
 exact eU hq'
theorem zQ:∀bs:List Bool,(List.range bs.length).any (λi=>bs.getD i false)=bs.any id
 |[]=>rfl
 |b::bs=>by
  rw [aB,List.range_succ_eq_map,dB,ja,dB,<-zQ bs]
  all_goals rfl
section
variable {X:Cx}
def SF (K:PySem.W.Frag):List V->Hp->VK->Prop:=λvs H Q=>∃(a:Addr) (bs:List Bool),vs=[V.ref a]/\cE K H a (bs.map V.bl)/\Q (.bl (bs.any id)) H
theorem N8 (hc:X.oq=true):hJ X (.builtin "any") (SF X.K):=by
 intro pins s σ H vs us Q I r h
 obtain ⟨a,bs,rfl,hs,q⟩:=h
 obtain ⟨its,rv,hl,_⟩:=I.list hs
 rw [c7.Bo r]
 have hb:=rv.Yp
 refine call_any_walk (IU hl.isList λs₂ e2 st hne=> ?_)
 subst e2
 refine ⟨_,_,_,_,_,_,_,rfl,Walks.list (A:=X.A.in1) (I.ok.hd hc) _ a hne its.toArray,st,CH hb,λh' tk hk=> ?_⟩
 refine ⟨.bl _,H,I.k0 λb o eo=>hk b o (λhmem=> ?_) (aD _ eo),?_,q⟩
 ·rcases aX.mp hmem with e1|hmem
  ·exact absurd (e1▸bz eo) (eu _)
  ·cases hmem
 ·show Value.bool _=Value.bool _
  rw [<-zQ,hb,ba,af]
end
end L2
namespace L2
open PySem PySem.Spec PyProof.Rows
abbrev JS (h:Heap) (c:Addr) (v:Option Value):Prop:=h.IsCell c v
def WD (scope sc:Scope):Scope:=
 {scope with names:=scope.names.map λ(n,k)=>if (k== .free&&sc.kind== .function&&sc.names.lookup n==some .cell) then (n,.cell) else (n,k)}
def fC (cells:List (Str×Addr)):List (Str×NameKind)->List (Str×Addr)->List (Str×Addr)
 |[],acc=>acc
 |(n,k)::r,acc=>if k== .free then fC cells r ((n,(cells.lookup n).getD 0)::acc) else fC cells r acc
theorem uZ (bX:Env) (f:Str×NameKind->List (Str×Addr)->Sem (ForInStep (List (Str×Addr))))
  (hf:∀n k c,f (n,k) c=if k== .free then (do let a <-cellOf bX n;pure (.yield ((n,a)::c))) else pure (.yield c)):
  ∀(names:List (Str×NameKind)) (acc:List (Str×Addr)),(∀y∈names,y.2= .free->∃c,bX.cells.lookup y.1=some c)->forIn names acc f=pure (fC bX.cells names acc)
 |[],acc,_=>by rw [List.forIn_nil];rfl
 |(n,k)::r,acc,h=>by
  rw [List.forIn_cons,hf]
  have ih:=λacc=>uZ bX f hf r acc λy hy=>h y (aE _ hy)
  unfold fC
  by_cases hk:(k==NameKind.free)=true
  ·rw [aA hk,aA hk]
   obtain ⟨c,hc⟩:=h (n,k) aP (by simpa using hk)
   have e:cellOf bX n=pure c:=by unfold cellOf;rw [hc]
   rw [e]
   have e2:(bX.cells.lookup n).getD 0=c:=by rw [hc];rfl
   rw [e2]
   exact ih _
  ·rw [au hk,au hk]
   exact ih _
theorem Fp {scope:Scope} {bX:Env} (h:∀y∈scope.names,y.2= .free->∃c,bX.cells.lookup y.1=some c):closureFor scope bX=pure (fC bX.cells scope.names []):=by
 simp only [closureFor]
 rw [uZ bX _ (λn k c=>rfl) scope.names [] h]
 rfl
theorem uH {α:Type}:∀{l:List (Str×α)} {n:Str} {c:α},(n,c)∈l->∃c',l.lookup n=some c'
 |(k,v)::r,n,c,h=>by
  rw [gh]
  cases hb:n==k with
  |true=>exact ⟨_,rfl⟩
  |false=>
   rcases aX.mp h with e|h
   ·cases e;simp at hb
   ·exact uH h
theorem oM {cells:List (Str×Addr)}:∀{names:List (Str×NameKind)} {acc:List (Str×Addr)} {n:Str} {c:Addr},(n,c)∈fC cells names acc->(n,c)∈acc\/((n,.free)∈names/\c=(cells.lookup n).getD 0)
 |[],_,_,_,h=> .inl h
 |(m,k)::r,acc,n,c,h=>by
  unfold fC at h
  split at h
  ·rename_i hk
   have hk:k= .free:=by simpa using hk
   rcases oM h with h|⟨h1,h2⟩
   ·rcases aX.mp h with e|h
    ·cases e;exact .inr ⟨hk▸aP,rfl⟩
    ·exact .inl h
   ·exact .inr ⟨aE _ h1,h2⟩
  ·rcases oM h with h|⟨h1,h2⟩
   ·exact .inl h
   ·exact .inr ⟨aE _ h1,h2⟩
theorem sL {cells:List (Str×Addr)}:∀{names:List (Str×NameKind)} {acc:List (Str×Addr)} {p:Str×Addr},p∈acc->p∈fC cells names acc
 |[],_,_,h=>h
 |(m,k)::r,acc,p,h=>by
  unfold fC
  split
  ·exact sL (aE _ h)
  ·exact sL h
theorem so {cells:List (Str×Addr)}:∀{names:List (Str×NameKind)} {acc:List (Str×Addr)} {n:Str},(n,.free)∈names->(n,(cells.lookup n).getD 0)∈fC cells names acc
 |(m,k)::r,acc,n,h=>by
  unfold fC
  rcases aX.mp h with e|h
  ·cases e
   exact sL aP
  ·split
   ·exact so h
   ·exact so h
theorem pP:∀{names:List (Str×NameKind)} {h:Heap} {acc:List (Str×Addr)} {x:Str} {c:Addr},(x,c)∈cellsFrom h.objs.size names acc->
  (x,c)∈acc\/((x,.cell)∈names/\h.objs.size<=c/\JS (pushCells h names) c none)
 |[],_,_,_,_,h=> .inl h
 |(n,k)::r,h,acc,x,c,hm=>by
  unfold cellsFrom at hm
  unfold pushCells
  split at hm
  ·rename_i hk
   rw [aA hk]
   have hk:k= .cell:=by simpa using hk
   rw [<-cZ h {cls:= .type "cell",data:= .cell none}] at hm
   rcases pP hm with hm|⟨h1,h2,h3⟩
   ·rcases aX.mp hm with e|hm
    ·cases e
     exact .inr ⟨hk▸aP,aF _,_,mB r _ _ _ (aZ _ rfl),rfl⟩
    ·exact .inl hm
   ·rw [cZ] at h2
    exact .inr ⟨aE _ h1,ko h2,h3⟩
  ·rename_i hk
   rw [au hk]
   rcases pP hm with hm|⟨h1,h2,h3⟩
   ·exact .inl hm
   ·exact .inr ⟨aE _ h1,h2,h3⟩
theorem sY:∀{names:List (Str×NameKind)} {n:Nat} {acc:List (Str×Addr)} {p:Str×Addr},p∈acc->p∈cellsFrom n names acc
 |[],_,_,_,h=>h
 |(m,k)::r,n,acc,p,h=>by
  unfold cellsFrom
  split
  ·exact sY (aE _ h)
  ·exact sY h
theorem wz:∀{names:List (Str×NameKind)} {n:Nat} {acc:List (Str×Addr)} {x:Str},(x,.cell)∈names->∃c,(x,c)∈cellsFrom n names acc
 |(m,k)::r,n,acc,x,h=>by
  unfold cellsFrom
  rcases aX.mp h with e|h
  ·cases e
   exact ⟨n,sY aP⟩
  ·split
   ·exact wz h
   ·exact wz h
theorem wC:∀{names:List (Str×NameKind)} {h:Heap} {acc:List (Str×Addr)} {x y:Str} {c:Addr},(∀p∈acc,p.2< h.objs.size)->(∀x y c,(x,c)∈acc->(y,c)∈acc->x=y)->
  (x,c)∈cellsFrom h.objs.size names acc->(y,c)∈cellsFrom h.objs.size names acc->x=y
 |[],_,_,_,_,_,_,hi,h1,h2=>hi _ _ _ h1 h2
 |(n,k)::r,h,acc,x,y,c,hl,hi,h1,h2=>by
  unfold cellsFrom at h1 h2
  split at h1
  ·rename_i hk
   rw [aA hk] at h2
   rw [<-cZ h {cls:= .type "cell",data:= .cell none}] at h1 h2
   refine wC (h:=h.push _) (λp hp=> ?_) (λx y c a b=> ?_) h1 h2
   ·rw [cZ]
    rcases aX.mp hp with rfl|hp
    ·exact dY _
    ·exact dq (hl p hp)
   ·rcases aX.mp a with e|a<;>rcases aX.mp b with e'|b
    ·cases e;cases e';rfl
    ·cases e;exact absurd (hl _ b) (eu _)
    ·cases e';exact absurd (hl _ a) (eu _)
    ·exact hi _ _ _ a b
  ·rename_i hk
   rw [au hk] at h2
   exact wC hl hi h1 h2
theorem Dh {M:Model} {A:Around} {E:Value->Shared->Prop} {s:Shared} {scope:Scope} {globals:Addr} {closure:List (Str×Addr)} {qual:Str} {func:Option Addr} {code:Value} {around:Env} {builtins:Addr} {Q:Env->Shared->Prop}
  (h:Q (newEnv scope s.heap.objs.size globals (cellsFrom (s.heap.objs.size+1) scope.names closure) qual func code (some around) builtins)
   {s with heap:=pushCells (s.heap.push {cls:= .type "dict",data:= .dict #[]}) scope.names}):
  wpAny M A (newFunctionEnv scope globals closure [] qual func code (some around) builtins) Q E s:=by
 simp only [newFunctionEnv,uc,ow]
 refine ag (wpAny_alloc ?_)
 refine ag (wpAny_layCells _ (λn k c=>rfl) scope.names closure _ _ ?_)
 rw [show ({s with heap:=s.heap.push {cls:= .type "dict",data:= .dict #[]}}:Shared).heap.objs.size=s.heap.objs.size+1 from cZ ..]
 rw [List.forIn_nil]
 exact ag (aH (aH h))
theorem sM {sc:Scope}:∀{names:List (Str×NameKind)} {x:Str} {k:NameKind},
  (names.map λ(n,k)=>if (k==NameKind.free&&sc.kind== .function&&sc.names.lookup n==some .cell) then (n,NameKind.cell) else (n,k)).lookup x=some k->
  ∃k',names.lookup x=some k'/\(k=k'\/(k'= .free/\k= .cell))
 |[],_,_,h=>by simp at h
 |(n,k₀)::r,x,k,h=>by
  have ih:= @sM sc r x k
  have h':List.lookup x ((if (k₀==NameKind.free&&sc.kind== .function&&sc.names.lookup n==some .cell)=true then (n,NameKind.cell) else (n,k₀))::(r.map _))=some k:=h
  cases hx:x==n with
  |true=>
   simp only [gh,hx]
   by_cases hc:(k₀==NameKind.free&&sc.kind== .function&&sc.names.lookup n==some .cell)=true
   ·rw [aA hc] at h'
    simp only [gh,hx] at h'
    cases h'
    simp only [aR,cR] at hc
    exact ⟨k₀,rfl,.inr ⟨hc.1.1,rfl⟩⟩
   ·rw [au hc] at h'
    simp only [gh,hx] at h'
    cases h'
    exact ⟨_,rfl,.inl rfl⟩
  |false=>
   simp only [gh,hx]
   by_cases hc:(k₀==NameKind.free&&sc.kind== .function&&sc.names.lookup n==some .cell)=true
   ·rw [aA hc] at h'
    simp only [gh,hx] at h'
    exact ih h'
   ·rw [au hc] at h'
    simp only [gh,hx] at h'
    exact ih h'
structure CG (N:List Str) (sc scope:Scope) (iU:List (Str×Nat)):Prop where
 kind:scope.kind= .function
 OU:∀y∈scope.names,scope.names.lookup y.1=some y.2
 ix:∀p∈iU,N[p.2]? =some p.1
 free:∀y∈scope.names,y.2= .free->sc.names.lookup y.1=some .cell\/sc.names.lookup y.1=some .free
 iU:∀y∈scope.names,y.2= .local\/y.2= .cell->y.1∈iU.map (·.1)\/y.1∉N
def jQ (σ:St):List Nat->St
 |[]=>σ
 |v::vs=>(jQ σ vs).set v none
theorem rY (σ:St):∀vs:List Nat,(jQ σ vs).length=σ.length
 |[]=>rfl
 |v::vs=>by unfold jQ;rw [gB,rY σ vs]
theorem vQ {σ:St} {i:Nat} {x:V}:∀{vs:List Nat},(jQ σ vs)[i]? =some (some x)->σ[i]? =some (some x)/\i∉vs
 |[],h=>⟨h,by simp⟩
 |v::vs,h=>by
  unfold jQ at h
  by_cases hi:v=i
  ·subst hi
   by_cases hv:v< (jQ σ vs).length
   ·rw [cI hv] at h;cases h
   ·rw [bq (by simpa using hv)] at h;cases h
  ·rw [cO hi] at h
   obtain ⟨h1,h2⟩:=vQ h
   exact ⟨h1,by simp only [aX,not_or];exact ⟨λe=>hi e.symm,h2⟩⟩
abbrev Cx.BG (X:Cx) (s:Shared) (H:Hp) (scope:Scope) (cenv:Env) (fp:List Addr):Cx:={X with Aq:=s,SA:=H,bX:=cenv,bE:=X.lg,ex:=fp,fn:=λx=>scope.names.lookup x==some .cell,pn:=[],xe:=λ_ _=>False}
section
variable {X:Cx} {pins:List (Addr×Obj)} {σ:St} {H:Hp} {s:Shared}
theorem DW {scope:Scope} {iU:List (Str×Nat)} {fp:List Addr} (I:cV X pins σ H s) (ok:CG X.N X.bX.scope scope iU) (hN:X.N.Nodup) (hfp:∀b∈fp,zw X pins H b/\b< s.heap.objs.size):
  cV (X.BG s H scope (compEnvC scope (cellsFrom (s.heap.objs.size+1) scope.names (fC X.bX.cells scope.names [])) s.heap.objs.size X.bX) fp) [] (jQ σ (iU.map (·.2))) H {s with heap:=pushCells (s.heap.push {cls:= .type "dict",data:= .dict #[]}) scope.names}:=by
 have hfree:∀y∈scope.names,y.2= .free->∃c,X.bX.cells.lookup y.1=some c:=λy hy e=>by
  rcases ok.free y hy e with k|k
  ·exact I.ok.has _ (.inl k)
  ·exact I.ok.has _ (.inr k)
 generalize hcenv:compEnvC scope (cellsFrom (s.heap.objs.size+1) scope.names (fC X.bX.cells scope.names [])) s.heap.objs.size X.bX=cenv
 have kp:∀b o,s.heap.get? b=some o->(pushCells (s.heap.push {cls:= .type "dict",data:= .dict #[]}) scope.names).get? b=some o:=λb o e=>mB _ _ _ _ (aD _ e)
 have hL:cenv.locals=s.heap.objs.size:=by rw [<-hcenv];rfl
 have hcl:cenv.cells=cellsFrom (s.heap.objs.size+1) scope.names (fC X.bX.cells scope.names []):=by rw [<-hcenv];rfl
 have hsc:cenv.scope=WD scope X.bX.scope:=by rw [<-hcenv];rfl
 rw [<-cZ s.heap {cls:= .type "dict",data:= .dict #[]}] at hcl
 have cm:∀{y c},(y,c)∈fC X.bX.cells scope.names []->X.bX.cells.lookup y=some c/\c< s.heap.objs.size:=λ{y c} hm=>by
  rcases oM hm with hm|⟨h1,rfl⟩
  ·cases hm
  ·obtain ⟨c,hc⟩:=hfree _ h1 rfl
   rw [hc]
   obtain ⟨w,z⟩:=I.cell _ _ hc
   exact ⟨rfl,z.lt⟩
 have mem:∀{y c},cenv.cells.lookup y=some c->(X.bX.cells.lookup y=some c/\c< s.heap.objs.size)\/(s.heap.objs.size+1<=c/\JS (pushCells (s.heap.push {cls:= .type "dict",data:= .dict #[]}) scope.names) c none):=λ{y c} e=>by
  rw [hcl] at e
  rcases pP (cA e) with hm|⟨_,h2,h3⟩
  ·exact .inl (cm hm)
  ·rw [cZ] at h2;exact .inr ⟨h2,h3⟩
 have HK:∀{y},scope.names.lookup y=some .free->∃c,cenv.cells.lookup y=some c/\X.bX.cells.lookup y=some c:=λ{y} hl=>by
  have hy:(y,NameKind.free)∈scope.names:=cA hl
  obtain ⟨c',e'⟩:=uH (sY (names:=scope.names) (n:=(s.heap.push {cls:= .type "dict",data:= .dict #[]}).objs.size) (so (cells:=X.bX.cells) (acc:=[]) hy))
  rw [<-hcl] at e'
  refine ⟨c',e',?_⟩
  rw [hcl] at e'
  rcases pP (cA e') with hm|⟨h1,_,_⟩
  ·exact (cm hm).1
  ·have:=ok.OU _ h1
   rw [hl] at this;cases this
 have okB:(X.BG s H scope cenv fp).Ok:=by
  refine ⟨I.ok.AZ,by show cenv.scope.kind=_;rw [hsc];exact ok.kind,by show cenv.globals=_;rw [<-hcenv];exact I.ok.BS,by show cenv.builtins=_;rw [<-hcenv];exact I.ok.blt,by show s.heap.objs.size<=cenv.locals;rw [hL];exact aF _,
   λy z c e1 e2=> ?_,λy hy=> ?_,λy c z e=> ?_,I.ok.hd,I.ok.frames,.inl rfl,λb hb=>⟨?_,λy c e z=> ?_⟩,I.bs,bg I.ok.Lw I.sz,λb o e hb=> ?_,λb hb z=> ?_,I.lg,I.Gw⟩
  ·have e1:cenv.cells.lookup y=some c:=e1
   have e2:cenv.cells.lookup z=some c:=e2
   rw [hcl] at e1 e2
   refine wC (λp hp=> ?_) (λy z c a b=>I.ok.inj y z c (cm a).1 (cm b).1) (cA e1) (cA e2)
   rw [cZ]
   exact dq (cm (y:=p.1) (c:=p.2) hp).2
  ·show ∃c,cenv.cells.lookup y=some c
   have key:∀k,cenv.kindOf y=some k->(k= .cell\/k= .free)->∃c,cenv.cells.lookup y=some c:=λk hk hk'=>by
    unfold Env.kindOf at hk
    rw [hsc] at hk
    obtain ⟨k',e,r⟩:=sM hk
    have:k'= .cell\/k'= .free:=by
     rcases r with rfl|⟨rfl,_⟩
     ·exact hk'
     ·exact .inr rfl
    rcases this with rfl|rfl
    ·obtain ⟨c,hm⟩:=wz (n:=(s.heap.push {cls:= .type "dict",data:= .dict #[]}).objs.size) (acc:=fC X.bX.cells scope.names []) (cA e)
     obtain ⟨c',e'⟩:=uH hm
     exact ⟨c',by rw [hcl];exact e'⟩
    ·obtain ⟨c,h1,_⟩:=HK e
     exact ⟨c,h1⟩
   rcases hy with hy|hy
   ·exact key _ hy (.inl rfl)
   ·exact key _ hy (.inr rfl)
  ·have z:(scope.names.lookup y==some NameKind.cell)=true:=z
   have z:scope.names.lookup y=some .cell:=by simpa using z
   have e:cenv.cells.lookup y=some c:=e
   rw [hcl] at e
   rcases pP (cA e) with hm|⟨_,h2,_⟩
   ·rcases oM hm with hm|⟨h1,_⟩
    ·cases hm
    ·have q:=ok.OU _ h1
     rw [z] at q;cases q
   ·rw [cZ] at h2
    exact ko h2
  ·show b≠cenv.locals
   rw [hL];exact bO (hfp b hb).2
  ·have e:cenv.cells.lookup y=some c:=e
   rcases mem e with ⟨h1,_⟩|⟨h1,_⟩
   ·exact (hfp b hb).1.2.2.2.2.1 y c h1 z
   ·have h2:s.heap.objs.size+1<=b:=by rw [<-z];exact h1
    exact absurd (cb (hfp b hb).2 (ko h2)) (eu _)
  ·rcases (hfp b hb).1.2.2.2.1 with z|z
   ·exact I.ok.Jv b o e z
   ·exact absurd (cb (bz e) (bg I.ok.Lw z)) (eu _)
  ·rcases aX.mp (I.E3 b z) with z|z
   ·exact (hfp b hb).1.2.1 z
   ·exact (hfp b hb).1.2.2.1 z
 refine ⟨okB,rfl,I.bare,Un.k0 kp,⟨λ_=>none,?_,λi y av e1 e2 e3=> ?_⟩,λy c e=> ?_,?_,λy c e=> ?_,λp hp=> ?_,I.fD.k0 kp,by rw [rY];exact I.len⟩
 ·show Heap.Ns _ cenv.locals _
  rw [hL]
  exact Heap.Ns.keeps (Heap.Ns.new ..) λb o e=>mB _ _ _ _ e
 ·obtain ⟨e2,hne⟩:=vQ e2
  have hfr:scope.names.lookup y=some .free/\(cenv.kindOf y=some .cell\/cenv.kindOf y=some .free):=by
   have key:∀k,cenv.scope.names.lookup y=some k->k= .local\/k= .cell\/k= .free->scope.names.lookup y=some .free/\(cenv.kindOf y=some .cell\/cenv.kindOf y=some .free):=λk hk hk'=>by
    have hk0:=hk
    rw [hsc] at hk
    obtain ⟨k',e,r⟩:=sM hk
    have no:¬(k'= .local\/k'= .cell):=λhh=>by
     rcases ok.iU _ (cA e) hh with e'|e'
     ·obtain ⟨p,hp,hpy⟩:=bC.mp e'
      have e3:=ok.ix p hp
      have:p.1=y:=hpy
      rw [this] at e3
      exact hne (bC.mpr ⟨p,hp,yG hN e3 e1⟩)
     ·exact e' (aw e1)
    rcases r with rfl|⟨rfl,rfl⟩
    ·rcases hk' with rfl|rfl|rfl
     ·exact absurd (.inl rfl) no
     ·exact absurd (.inr rfl) no
     ·exact ⟨e,.inr hk0⟩
    ·exact ⟨e,.inl hk0⟩
   have e3:P6 cenv.scope y:=e3
   rcases e3 with e3|e3|e3
   ·exact key _ e3 (.inl rfl)
   ·exact key _ e3 (.inr (.inl rfl))
   ·exact key _ e3 (.inr (.inr rfl))
  obtain ⟨m,hn,hl⟩:=I.Cy
  have hvis:P6 X.bX.scope y:=(ok.free _ (cA hfr.1) rfl).elim (λk=> .inr (.inl k)) (λk=> .inr (.inr k))
  obtain ⟨w,r,q⟩:=hl i y av e1 e2 hvis
  refine ⟨w,r,.inr ⟨hfr.2,?_⟩⟩
  obtain ⟨c,h1,h2⟩:=HK hfr.1
  rcases q with ⟨k,_⟩|⟨_,c',e',z⟩
  ·have k:X.bX.scope.names.lookup y=some .local:=k
   rcases ok.free _ (cA hfr.1) rfl with k'|k'<;>rw [show X.bX.scope.names.lookup y=_ from k'] at k<;>cases k
  ·rw [h2] at e';cases e'
   exact ⟨c,h1,z.keeps kp⟩
 ·have e:cenv.cells.lookup y=some c:=e
  rcases mem e with ⟨h1,_⟩|⟨_,z⟩
  ·obtain ⟨w,z⟩:=I.cell y c h1
   exact ⟨w,z.keeps kp⟩
  ·exact ⟨_,z⟩
 ·show H cenv.locals=none
  rw [hL];exact I.fD.fresh (aF _)
 ·have e:cenv.cells.lookup y=some c:=e
  rcases mem e with ⟨h1,_⟩|⟨h1,_⟩
  ·exact I.qZ y c h1
  ·exact I.fD.fresh (ko h1)
 ·exact absurd (show p∈([]:List (Addr×Obj))++[] from hp) (by simp)
theorem Pd {E:Value->Shared->Prop} {D:Addr} {xs:List V} {y:V} {v:Value} {Q:Value->Shared->Prop} (I:cV X pins σ H s) (hD:H D=some (.a6 xs)) (hz:xs.length< sizeLine) (r:dP y v)
  (h:∀s',cV X pins σ (bG H D (.a6 (xs++[y]))) s'->Q .none s'):wpAny (model X.prog X.w) X.A (call (.builtin "list.append") [.ref D,v]) Q E s:=by
 obtain ⟨hz',its,n,ri,e⟩:=I.fD D _ hD
 have hl:=ri.length
 refine append_at (hsz:=by rw [ba];lia) e λh' sb ho'=> ?_
 refine h {s with heap:=h'} (I.vw (t':=s.toks) (by rw [hD];trivial) (.inl rfl) (λb u hb q=>(sb.2 b hb).trans q) ⟨_,ho'⟩ ⟨by rw [ao];exact hz,its++[v],n+1,ri.append (.cons r .nil),?_⟩)
 rw [ho']
 simp
def RQ (X:Cx) (ifs:List Expr) (t:TT):Prop:=
 ∀(pins:List (Addr×Obj)) (s:Shared) (σ:St) (H:Hp) (Q:Bool->Hp->Prop),cV X pins σ H s->t σ H Q->
  wpAny (model X.prog X.w) X.A (forIn ifs true λc r=>if r=true then do let ok <-isTrue c X.bX (eval c X.bX);pure (ForInStep.yield ok) else pure (ForInStep.yield r)) (TP X pins σ Q) X.xe s
def Qv:TT:=λ_ H Q=>Q true H
theorem kJ:RQ X [] Qv:=λ_ _ _ H _ I h=>wpAny_tests_nil ⟨H,I,h⟩
theorem lT {c:Expr} {t:TT} (h:PT X c t):RQ X [c] t:=λpins s σ H Q I hw=>wpAny_tests_one (h pins s σ H Q I hw)
end
theorem Hq {α:Type} {t:Sem α} {Q Q':α->Shared->Prop} {M:Model} {A:Around} {E:Value->Shared->Prop} {s:Shared} (h:wpAny M A t Q (λ_ _=>False) s) (hQ:∀a s,Q a s->Q' a s):wpAny M A t Q' E s:=fi h hQ λ_ _ z=>False.elim z
theorem BB {prog:Program} {w:World} {A:Around} {R:Result->Shared->Prop} {s:Shared} {elt target iter:Expr} {ifs:List Expr} {scope:Scope} {pos:Pos} {it acc:Value} {bX:Env} (I:Nat->Shared->Prop)
  (turn:∀n s,I n s->wpAny (model prog w) A (pyNext it) (λr s₁=>match r with
   |none=>R (.ok .next) s₁
   |some v=>wpAny (model prog w) A (letOwnedTupleGo target it v) (λ_ s₁'=>wpAny (model prog w) A (assign target bX v) (λ_ s₂=>
     wpAny (model prog w) A (forIn ifs true λc r=>if r=true then do let ok <-isTrue c bX (eval c bX);pure (ForInStep.yield ok) else pure (ForInStep.yield r)) (λok s₃=>
      if ok=true then wpAny (model prog w) A (eval elt bX) (λx s₄=>
       wpAny (model prog w) A (call (.builtin "list.append") [acc,x]) (λ_ s₅=>∃m,m< n/\I m s₅) (notedBy (model prog w) A bX λe s'=>R (.error e) s') s₄) (notedBy (model prog w) A bX λe s'=>R (.error e) s') s₃
      else ∃m,m< n/\I m s₃) (notedBy (model prog w) A bX λe s'=>R (.error e) s') s₂) (notedBy (model prog w) A bX λe s'=>R (.error e) s') s₁') (notedBy (model prog w) A bX λe s'=>R (.error e) s') s₁) (notedBy (model prog w) A bX λe s'=>R (.error e) s') s)
  (n:Nat) (h:I n s):
  codeAny (model prog w) A (.compLoop (.ListComp elt [⟨target,iter,ifs,0⟩] scope pos) 0 it acc bX) R s:=by
 refine codeAny_loop rfl I (λn s hI=> ?_) n h
 show wpAny _ A ((compTurn (.ListComp elt [⟨target,iter,ifs,0⟩] scope pos) 0 it acc bX).onRaise (λx=>do noteFrame x bX;theTreesLotGoes x)) _ _ s
 refine wpAny_noted ?_
 rw [compTurn_list]
 refine ag (tL (ag (fi (turn n s hI) (λr s₁ h₁=> ?_) λ_ _ h'=>h')))
 cases r with
 |none=>exact aH h₁
 |some v=>
  refine ag (fi h₁ (λ_ s₁' h₁'=> ?_) λ_ _ h'=>h')
  refine ag (fi h₁' (λ_ s₂ h₂=>ag (fi h₂ (λok s₃ h₃=> ?_) λ_ _ h'=>h')) λ_ _ h'=>h')
  cases ok with
  |false=>exact aH ⟨rfl,h₃⟩
  |true=>
   exact ag (ag (fi h₃ (λx s₄ h₄=>ag (fi h₄ (λ_ s₅ h₅=>aH (aH ⟨rfl,h₅⟩)) λ_ _ h'=>h')) λ_ _ h'=>h'))
section
variable {X:Cx}
def Vj (wi:TI) (g:TG) (tt:TT) (te:TE) (vs:List Nat):TE:=fun σ H Q=>wi σ H λJ H1=>∀D,H1 D=none->∃W:Nat->Nat->Hp->Prop,(∃m,W 0 m (bG H1 D (.a6 [])))/\∀i m H,W i m H->
 (J.stop i H/\Q (.ref D) H)\/(J.go i H/\∃Nx:Hp->Prop,(∀H',Nx H'->∃m',m'< m/\W (i+1) m' H')/\∀x H',J.KR i H x H'->g x (jQ σ vs) H' fun σ2 H2=>jQ σ2 vs=jQ σ vs/\tt σ2 H2 λb H3=>
  if b=true then te σ2 H3 λy H4=>∃acc,H4 D=some (.a6 acc)/\acc.length< sizeLine/\Nx (bG H4 D (.a6 (acc++[y]))) else Nx H3)
theorem F8 {pins:List (Addr×Obj)} {s:Shared} {σ:St} {H:Hp} {Q:VK} {elt tg iter:Expr} {ifs:List Expr} {scope:Scope} {iU:List (Str×Nat)} {pos pos':Pos} {wi:TI} {g:TG} {tt:TT} {te:TE} {use:Option (Value->Sem Unit)} {Qf:Value->Shared->Prop}
  (hc:X.oq=true) (hN:X.N.Nodup) (I:cV X pins σ H s) (hi:PI X tg iter wi) (ok:CG X.N X.bX.scope scope iU)
  (hg:∀(s:Shared) (H:Hp) (C:Addr) (cl:List (Str×Addr)) (fp:List Addr),PG (X.BG s H scope (compEnvC scope cl C X.bX) fp) tg g) (ht:∀(s:Shared) (H:Hp) (C:Addr) (cl:List (Str×Addr)) (fp:List Addr),RQ (X.BG s H scope (compEnvC scope cl C X.bX) fp) ifs tt)
  (he:∀(s:Shared) (H:Hp) (C:Addr) (cl:List (Str×Addr)) (fp:List Addr),PE (X.BG s H scope (compEnvC scope cl C X.bX) fp) elt te) (hs:∀x,foldedSetIterable iter X.bX x=pure x)
  (h:Vj wi g tt te (iU.map (·.2)) σ H Q)
  (hRR:∀D C s' m H',cV X pins σ H' s'->Q (.ref D) H'->s'.heap.Ns C m->zw X pins H' C->compPost (model X.prog X.w) X.A X.xe use Qf (.ref D) C (.ok .next) s'):
  wpAny (model X.prog X.w) X.A (comprehension (.ListComp elt [⟨tg,iter,ifs,0⟩] scope pos) scope X.bX pos' (newList []) false (eval iter X.bX) use) Qf X.xe s:=by
 have hfree:∀y∈scope.names,y.2= .free->∃c,X.bX.cells.lookup y.1=some c:=λy hy e=>by
  rcases ok.free y hy e with k|k
  ·exact I.ok.has _ (.inl k)
  ·exact I.ok.has _ (.inr k)
 refine wpAny_comprehension_free (use:=use) rfl hs (Fp hfree) ok.kind (λy hy e=>by rw [ok.OU y hy,e])
  (gU (hi pins s σ H _ I h) λxv s1 hx=>gU hx λitv s2 h2=> ?_)
 obtain ⟨it,fp,tn,J,H2,e,I2,T,st2,f2,q⟩:=h2
 subst e
 refine cW (Dh ?_) (by show 0<=sizeLine;decide)
 generalize hD:s2.heap.objs.size=D
 have hDn:H2 D=none:=I2.fD.fresh (qe hD)
 obtain ⟨W,⟨m0,w0⟩,turn⟩:=q D hDn
 generalize hs3:({s2 with heap:=s2.heap.push {cls:= .type "list",data:= .seq ([]:List Value).toArray}}:Shared)=s3
 have I3:cV X pins σ (bG H2 D (.a6 [])) s3:=by
  rw [<-hs3]
  refine I2.laid (t':=s2.toks) (λb o e=>aD _ e) (qe hD) ⟨bD _,[],0,.nil,?_⟩
  rw [<-hD]
  exact aZ _ rfl
 have h3:s3.heap=s2.heap.push {cls:= .type "list",data:= .seq ([]:List Value).toArray}:=by rw [<-hs3]
 have sz:∀b∈fp,b< s2.heap.objs.size:=λb hb=>by
  obtain ⟨o,e,_⟩:=T.obj _ _ st2 b hb
  exact bz e
 have f3:∀b∈fp,zw X pins (bG H2 D (.a6 [])) b/\b< s3.heap.objs.size:=λb hb=>by
  have hlt:=sz b hb
  refine ⟨⟨?_,(f2 b hb).2⟩,by rw [h3,cZ];exact dq hlt⟩
  rw [aL (by rw [<-hD];exact bO hlt)]
  exact (f2 b hb).1
 have st3:tn 0 s3.heap:=T.keep _ _ _ st2 λb _ o e=>by rw [h3];exact aD _ e
 have I4:=DW I3 ok hN f3
 have pg:=hg s3 (bG H2 D (.a6 [])) s3.heap.objs.size (cellsFrom (s3.heap.objs.size+1) scope.names (fC X.bX.cells scope.names [])) fp
 have pt:=ht s3 (bG H2 D (.a6 [])) s3.heap.objs.size (cellsFrom (s3.heap.objs.size+1) scope.names (fC X.bX.cells scope.names [])) fp
 have pe:=he s3 (bG H2 D (.a6 [])) s3.heap.objs.size (cellsFrom (s3.heap.objs.size+1) scope.names (fC X.bX.cells scope.names [])) fp
 show codeAny _ _ (.compStart (.ListComp elt [⟨tg,iter,ifs,0⟩] scope pos) 0 (.ref it) (.ref D) (compEnvC scope (cellsFrom (s3.heap.objs.size+1) scope.names (fC X.bX.cells scope.names [])) s3.heap.objs.size X.bX)) (compPost (model X.prog X.w) X.A X.xe use Qf (.ref D) s3.heap.objs.size) {s3 with heap:=pushCells (s3.heap.push {cls:= .type "dict",data:= .dict #[]}) scope.names}
 have nfp:∀b∈fp,(bG H2 D (.a6 [])) b=none:=λb hb=>(f3 b hb).1.1
 generalize hce:compEnvC scope (cellsFrom (s3.heap.objs.size+1) scope.names (fC X.bX.cells scope.names [])) s3.heap.objs.size X.bX=ce at I4 pg pt pe ⊢
 have cL:ce.locals=s3.heap.objs.size:=by subst hce;rfl
 generalize hH3:bG H2 D (.a6 [])=H3 at I3 I4 pg pt pe w0 nfp f3
 generalize hs4:({s3 with heap:=pushCells (s3.heap.push {cls:= .type "dict",data:= .dict #[]}) scope.names}:Shared)=s4 at I4 ⊢
 have st4:tn 0 s4.heap:=T.keep _ _ _ st3 λb _ o e=>by rw [<-hs4];exact mB _ _ _ _ (aD _ e)
 have stat:∀{σ':St} {H':Hp} {s':Shared},cV (X.BG s3 H3 scope ce fp) [] σ' H' s'->(∀b∈fp,H' b=none)->∀b∈fp,zw (X.BG s3 H3 scope ce fp) [] H' b:=λ{σ' H' s'} I' hn b hb=>
  ⟨hn b hb,(I'.ok.Vm b hb).1,I'.ok.JZ b hb,.inl hb,λx c e=>(I'.ok.Vm b hb).2 x c e,λp hp=>absurd (show p∈([]:List (Addr×Obj))++[] from hp) (by simp)⟩
 have loop:codeAny (model X.prog X.w) X.A (.compLoop (.ListComp elt [⟨tg,iter,ifs,0⟩] scope pos) 0 (.ref it) (.ref D) ce) (compPost (model X.prog X.w) X.A X.xe use Qf (.ref D) s3.heap.objs.size) s4:=by
  refine BB (λn s'=>∃i H',cV (X.BG s3 H3 scope ce fp) [] (jQ σ (iU.map (·.2))) H' s'/\tn i s'.heap/\(∀b∈fp,H' b=none)/\W i n H') ?_ m0 ⟨0,H3,I4,st4,nfp,w0⟩
  rintro n s5 ⟨i,H5,I5,st5,n5,w5⟩
  rcases turn i n H5 w5 with ⟨stop,qq⟩|⟨go,Nx,hNx,step⟩
  ·have td:=T.done (X.BG s3 H3 scope ce fp) rfl rfl rfl hc i [] s5 _ H5 (λ_ _=>False) I5 (stat I5 n5) st5 stop
   refine Hq td λr s6 ⟨hr,I6⟩=> ?_
   subst hr
   have I7:cV X pins σ H5 s6:=I3.RL (ch:=fp) I6.os I6.base I6.fD I6.bare λb hb=>⟨(f3 b hb).1.2.2.2.1,(f3 b hb).1.2.1,(f3 b hb).1.2.2.2.2.1,(f3 b hb).1.2.2.2.2.2⟩
   have nC:H5 s3.heap.objs.size=none:=by
    have z:H5 ce.locals=none:=I6.free
    rw [cL] at z
    exact z
   obtain ⟨m,hn,_⟩:=I6.Cy
   have hn:s6.heap.Ns ce.locals m:=hn
   rw [cL] at hn
   exact hRR D s3.heap.objs.size s6 m H5 I7 qq hn (I3.Kd (aF _) nC)
  ·have ti:=T.item (X.BG s3 H3 scope ce fp) rfl rfl rfl hc i [] s5 _ H5 (λ_ _=>False) I5 (stat I5 n5) st5 go
   refine Hq ti λr s6 ⟨u,hr,h6⟩=> ?_
   subst hr
   refine Hq h6 λ_ s7 ⟨x,H7,I7,r7,y7,st7,n7⟩=> ?_
   have I7':=I7.Jo (stat I7 n7) (T.obj _ _ st7)
   refine Hq (pg _ s7 _ H7 x u _ I7' r7 (step x H7 y7)) λ_ s8 ⟨σ8,H8,I8,hw8,q8⟩=> ?_
   refine Hq (pt _ s8 σ8 H8 _ I8 q8) λb s9 ⟨H9,I9,q9⟩=> ?_
   have fin:∀{s':Shared} {H':Hp},cV (X.BG s3 H3 scope ce fp) ([]++zh fp s7.heap) σ8 H' s'->Nx H'->∃m,m< n/\∃i H',cV (X.BG s3 H3 scope ce fp) [] (jQ σ (iU.map (·.2))) H' s'/\tn i s'.heap/\(∀b∈fp,H' b=none)/\W i m H':=λ{s' H'} I' nx=>by
    obtain ⟨m',hm,w'⟩:=hNx H' nx
    have pin':∀b∈fp,∀o,s7.heap.get? b=some o->s'.heap.get? b=some o/\H' b=none:=λb hb o e=>
     let z:=I'.F9 (b,o) (bp _ (bp _ (ux hb e)))
     ⟨z.1,z.2.1⟩
    have hl:(jQ σ (iU.map (·.2))).length=σ8.length:=by rw [<-hw8,rY]
    refine ⟨m',hm,i+1,H',(I'.va (pins:=[])).WL hl (λj v e=> ?_),T.keep _ _ _ st7 λb hb o e=>(pin' b hb o e).1,λb hb=> ?_,w'⟩
    ·rw [<-hw8] at e
     exact (vQ e).1
    ·obtain ⟨o,e,_⟩:=T.obj _ _ st7 b hb
     exact (pin' b hb o e).2
   cases b with
   |false=>
    simp only [dD,pE] at q9 ⊢
    exact fin I9 q9
   |true=>
    simp only [ow] at q9 ⊢
    refine Hq (pe _ s9 σ8 H9 _ I9 q9) λz s10 ⟨yv,H10,I10,r10,acc,hD10,hz10,nx⟩=> ?_
    exact Pd (X:=X.BG s3 H3 scope ce fp) I10 hD10 hz10 r10 λs11 I11=>fin I11 nx
 exact codeAny_compStart_list loop (T.self X.A 0 _ _ _ st4 loop)
theorem mh {elt tg iter:Expr} {ifs:List Expr} {scope:Scope} {iU:List (Str×Nat)} {pos:Pos} {wi:TI} {g:TG} {tt:TT} {te:TE} (hc:X.oq=true) (hN:X.N.Nodup) (hi:PI X tg iter wi) (ok:CG X.N X.bX.scope scope iU)
  (hg:∀(s:Shared) (H:Hp) (C:Addr) (cl:List (Str×Addr)) (fp:List Addr),PG (X.BG s H scope (compEnvC scope cl C X.bX) fp) tg g) (ht:∀(s:Shared) (H:Hp) (C:Addr) (cl:List (Str×Addr)) (fp:List Addr),RQ (X.BG s H scope (compEnvC scope cl C X.bX) fp) ifs tt)
  (he:∀(s:Shared) (H:Hp) (C:Addr) (cl:List (Str×Addr)) (fp:List Addr),PE (X.BG s H scope (compEnvC scope cl C X.bX) fp) elt te) (hs:∀x,foldedSetIterable iter X.bX x=pure x:=by intro _;rfl):
  PE X (.ListComp elt [⟨tg,iter,ifs,0⟩] scope pos) (Vj wi g tt te (iU.map (·.2))):=by
 intro pins s σ H Q I h
 rw [eval_ListComp]
 refine F8 hc hN I hi ok hg ht he hs h λD C s' m H' I' q hn f=>⟨m,hn,λh'' sb=> ?_⟩
 obtain ⟨f0,f1,f2,f3,f4,f5⟩:=f
 exact ⟨.ref D,H',I'.o5 (t':=s'.toks) (λb o hb e=>(sb.2 b hb).trans e) f0 f1 f3 f4 f5,rfl,q⟩
theorem vI {i:Nat} {y:Str} {py:Pos} {elt tg iter:Expr} {ifs:List Expr} {scope:Scope} {iU:List (Str×Nat)} {pos spos:Pos} {wi:TI} {g:TG} {tt:TT} {te:TE} (hc:X.oq=true) (hN:X.N.Nodup) (hy:X.N[i]? =some y) (hyl:X.bX.scope.names.lookup y=some .local)
  (hsw:swapsWith (.ListComp elt [⟨tg,iter,ifs,0⟩] scope pos) (some (.Name y py)) spos.line X.bX=pure true) (hi:PI X tg iter wi) (ok:CG X.N X.bX.scope scope iU)
  (hg:∀(s:Shared) (H:Hp) (C:Addr) (cl:List (Str×Addr)) (fp:List Addr),PG (X.BG s H scope (compEnvC scope cl C X.bX) fp) tg g) (ht:∀(s:Shared) (H:Hp) (C:Addr) (cl:List (Str×Addr)) (fp:List Addr),RQ (X.BG s H scope (compEnvC scope cl C X.bX) fp) ifs tt)
  (he:∀(s:Shared) (H:Hp) (C:Addr) (cl:List (Str×Addr)) (fp:List Addr),PE (X.BG s H scope (compEnvC scope cl C X.bX) fp) elt te) (hs:∀x,foldedSetIterable iter X.bX x=pure x:=by intro _;rfl):
  PS X (.Assign [.Name y py] (.ListComp elt [⟨tg,iter,ifs,0⟩] scope pos) spos) (O8 (Vj wi g tt te (iU.map (·.2))) (tR i)):=by
 intro pins s σ H D I h
 rw [exec_Assign_Name_used _ _ _ _ hsw]
 refine ag (tL (ag ?_))
 show wpAny _ X.A (do let _ <-comprehension (.ListComp elt [⟨tg,iter,ifs,0⟩] scope pos) scope X.bX (firstIterPos [⟨tg,iter,ifs,0⟩] pos) (newList []) false (eval iter X.bX) (some (assign (.Name y py) X.bX))) _ _ s
 have h:Vj wi g tt te (iU.map (·.2)) σ H (λx H1=>tR i x σ H1 D.nx):=h
 refine ag (gU (F8 (Qf:=λ_ s'=>SP X pins D .next s') hc hN I hi ok hg ht he hs h λL C s' m H' I' q hn f=> ?_) λ_ s' hq=>aH (aH hq))
 show wpAny _ _ (assign (.Name y py) X.bX (.ref L)) _ _ _
 refine wpAny_assign_Name (zL (v:=V.ref L) I' hN hy (.inl hyl) rfl (λs2 I2 ⟨a,sb,ha⟩=> ?_) (.inr hyl))
 obtain ⟨f0,f1,f2,f3,f4,f5⟩:=f
 have haC:C≠a:=by
  rcases ha with z|z
  ·rw [z];exact f1
  ·exact λe=>f4 y a z e.symm
 refine ⟨m,hn.sameBut sb haC,λh3 sb3=> ?_⟩
 exact ⟨_,H',I2.o5 (t':=s2.toks) (λb o hb e=>(sb3.2 b hb).trans e) f0 f1 f3 f4 f5,q⟩
theorem yg {elt:Expr} {gs:List Comprehension} {scope:Scope} {pos py:Pos} {y:Str} {l:Nat} {bX:Env} (hk:bX.scope.kind= .function) (hy:bX.scope.names.lookup y=some .local) (hl:(py.line==pos.line)=true)
  (ha:(scope.names.any λ(n,k)=>n==y&&(k== .local||k== .cell))=false):swapsWith (.ListComp elt gs scope pos) (some (.Name y py)) l bX=pure true:=by
 have ky:bX.kindOf y=some .local:=hy
 have hb:bX.blockKind= .function:=by unfold Env.blockKind;rw [hk];rfl
 unfold swapsWith
 simp only [hb,ky,ha,Expr.pos,hl]
 rfl
end
theorem mf {lo:Int} {n:Nat} {g:TG} {tt:TT} {te:TE} {vs:List Nat} {σ:St} {H1:Hp} {D:Addr} {Qd:Hp->Prop} (Pv:Nat->Hp->Prop) (h0:Pv 0 (bG H1 D (.a6 [])))
  (hs:∀i H,i< n->Pv i H->g (.int (lo+i)) (jQ σ vs) H fun σ2 H2=>jQ σ2 vs=jQ σ vs/\tt σ2 H2 λb H3=>
   if b=true then te σ2 H3 λy H4=>∃acc,H4 D=some (.a6 acc)/\acc.length< sizeLine/\Pv (i+1) (bG H4 D (.a6 (acc++[y]))) else Pv (i+1) H3) (hd:∀H,Pv n H->Qd H):
  ∃W:Nat->Nat->Hp->Prop,(∃m,W 0 m (bG H1 D (.a6 [])))/\∀i m H,W i m H->
   ((KW lo n).stop i H/\Qd H)\/((KW lo n).go i H/\∃Nx:Hp->Prop,(∀H',Nx H'->∃m',m'< m/\W (i+1) m' H')/\∀x H',(KW lo n).KR i H x H'->g x (jQ σ vs) H' fun σ2 H2=>jQ σ2 vs=jQ σ vs/\tt σ2 H2 λb H3=>
    if b=true then te σ2 H3 λy H4=>∃acc,H4 D=some (.a6 acc)/\acc.length< sizeLine/\Nx (bG H4 D (.a6 (acc++[y]))) else Nx H3):=by
 refine ⟨λi m H=>m=n-i/\i<=n/\Pv i H,⟨n,by simp,bD _,h0⟩,?_⟩
 rintro i m H ⟨rfl,hi,p⟩
 by_cases hlt:i< n
 ·refine .inr ⟨hlt,Pv (i+1),λH' p'=>⟨n-(i+1),by lia,rfl,hlt,p'⟩,λx H' y=> ?_⟩
  obtain ⟨e,y⟩:=y
  subst e y
  exact hs i _ hlt p
 ·have e:i=n:=by lia
  subst e
  exact .inl ⟨aF _,hd H p⟩
theorem jK {K:PySem.W.Frag} {a:Addr} {xs:List V} {g:TG} {tt:TT} {te:TE} {vs:List Nat} {σ:St} {H1:Hp} {D:Addr} {Qd:Hp->Prop} (Pv:Nat->Hp->Prop) (h0:Pv 0 (bG H1 D (.a6 []))) (hl:∀i H,i<=xs.length->Pv i H->cE K H a xs)
  (hs:∀i x H,xs[i]? =some x->Pv i H->g x (jQ σ vs) H fun σ2 H2=>jQ σ2 vs=jQ σ vs/\tt σ2 H2 λb H3=>
   if b=true then te σ2 H3 λy H4=>∃acc,H4 D=some (.a6 acc)/\acc.length< sizeLine/\Pv (i+1) (bG H4 D (.a6 (acc++[y]))) else Pv (i+1) H3) (hd:∀H,Pv xs.length H->Qd H):
  ∃W:Nat->Nat->Hp->Prop,(∃m,W 0 m (bG H1 D (.a6 [])))/\∀i m H,W i m H->
   ((MK K a).stop i H/\Qd H)\/((MK K a).go i H/\∃Nx:Hp->Prop,(∀H',Nx H'->∃m',m'< m/\W (i+1) m' H')/\∀x H',(MK K a).KR i H x H'->g x (jQ σ vs) H' fun σ2 H2=>jQ σ2 vs=jQ σ vs/\tt σ2 H2 λb H3=>
    if b=true then te σ2 H3 λy H4=>∃acc,H4 D=some (.a6 acc)/\acc.length< sizeLine/\Nx (bG H4 D (.a6 (acc++[y]))) else Nx H3):=by
 refine ⟨λi m H=>m=xs.length-i/\i<=xs.length/\Pv i H,⟨xs.length,by simp,bD _,h0⟩,?_⟩
 rintro i m H ⟨rfl,hi,p⟩
 have q:=hl i H hi p
 by_cases hlt:i< xs.length
 ·refine .inr ⟨⟨xs,xs[i],q,by simp [hlt]⟩,Pv (i+1),λH' p'=>⟨xs.length-(i+1),by lia,rfl,hlt,p'⟩,λx H' y=> ?_⟩
  obtain ⟨e,y⟩:=y
  subst e
  exact hs i x _ (y xs q) p
 ·have e:i=xs.length:=by lia
  subst e
  exact .inl ⟨⟨xs,q,aF _⟩,hd H p⟩
theorem Jq {K:PySem.W.Frag} {a:Addr} {xs:List V} {g:TG} {tt:TT} {te:TE} {vs:List Nat} {σ:St} {H1:Hp} {D:Addr} {Qd:Hp->Prop} (Pv:Nat->Hp->Prop) (h0:Pv 0 (bG H1 D (.a6 []))) (hl:∀i H,i<=xs.length->Pv i H->kY K H a xs)
  (hs:∀i x H,xs[i]? =some x->Pv i H->g x (jQ σ vs) H fun σ2 H2=>jQ σ2 vs=jQ σ vs/\tt σ2 H2 λb H3=>
   if b=true then te σ2 H3 λy H4=>∃acc,H4 D=some (.a6 acc)/\acc.length< sizeLine/\Pv (i+1) (bG H4 D (.a6 (acc++[y]))) else Pv (i+1) H3) (hd:∀H,Pv xs.length H->Qd H):
  ∃W:Nat->Nat->Hp->Prop,(∃m,W 0 m (bG H1 D (.a6 [])))/\∀i m H,W i m H->
   ((M0 K a).stop i H/\Qd H)\/((M0 K a).go i H/\∃Nx:Hp->Prop,(∀H',Nx H'->∃m',m'< m/\W (i+1) m' H')/\∀x H',(M0 K a).KR i H x H'->g x (jQ σ vs) H' fun σ2 H2=>jQ σ2 vs=jQ σ vs/\tt σ2 H2 λb H3=>
    if b=true then te σ2 H3 λy H4=>∃acc,H4 D=some (.a6 acc)/\acc.length< sizeLine/\Nx (bG H4 D (.a6 (acc++[y]))) else Nx H3):=by
 refine ⟨λi m H=>m=xs.length-i/\i<=xs.length/\Pv i H,⟨xs.length,by simp,bD _,h0⟩,?_⟩
 rintro i m H ⟨rfl,hi,p⟩
 have q:=hl i H hi p
 by_cases hlt:i< xs.length
 ·refine .inr ⟨⟨xs,xs[i],q,by simp [hlt]⟩,Pv (i+1),λH' p'=>⟨xs.length-(i+1),by lia,rfl,hlt,p'⟩,λx H' y=> ?_⟩
  obtain ⟨e,y⟩:=y
  subst e
  exact hs i x _ (y xs q) p
 ·have e:i=xs.length:=by lia
  subst e
  exact .inl ⟨⟨xs,q,aF _⟩,hd H p⟩
def nP (N:List Str) (sc scope:Scope) (iU:List (Str×Nat)):Bool:=
 (match scope.kind with| .function=>true|_=>false)&&(scope.names.all λy=>decide (scope.names.lookup y.1=some y.2))&&(iU.all λp=>decide (N[p.2]? =some p.1))&&
  (scope.names.all λy=>match y.2 with
   | .free=>(match sc.names.lookup y.1 with|some .cell=>true|some .free=>true|_=>false)
   | .local=>decide (y.1∈iU.map (·.1))||decide (y.1∉N)
   | .cell=>decide (y.1∈iU.map (·.1))||decide (y.1∉N)
   |_=>true)
theorem eC {N:List Str} {sc scope:Scope} {iU:List (Str×Nat)} (h:nP N sc scope iU=true):CG N sc scope iU:=by
 unfold nP at h
 simp only [aR,dE,cJ] at h
 obtain ⟨⟨⟨h1,h2⟩,h3⟩,h4⟩:=h
 refine ⟨?_,h2,h3,λy hy e=> ?_,λy hy e=> ?_⟩
 ·split at h1
  ·assumption
  ·cases h1
 ·have q:=h4 y hy
  simp only [e] at q
  split at q<;>first|exact .inl (by assumption)|exact .inr (by assumption)|cases q
 ·have q:=h4 y hy
  rcases e with e|e<;>(simp only [e,bH,cJ] at q;exact q)
end L2
namespace L2
open PySem PySem.Spec PyProof.Rows
end L2
namespace L2
open PySem PySem.Spec PyProof.Rows
section
variable {κ:Type} [DecidableEq κ]
def k7 (kvs:List (κ×V)) (k:κ):Option V:=(kvs.find? λkv=>decide (kv.1=k)).map (·.2)
def lY (kvs:List (κ×V)) (k:κ) (v:V):List (κ×V):=
 if (kvs.any λkv=>decide (kv.1=k))=true then kvs.map (λkv=>if kv.1=k then (kv.1,v) else kv) else kvs++[(k,v)]
theorem iY {p:κ×V} {r:List (κ×V)} {k:κ} (e:p.1=k):k7 (p::r) k=some p.2:=by simp [k7,fS,e]
theorem i8 {p:κ×V} {r:List (κ×V)} {k:κ} (e:¬p.1=k):k7 (p::r) k=k7 r k:=by simp [k7,fS,e]
theorem pS (k:κ):∀kvs:List (κ×V),(kvs.any λkv=>decide (kv.1=k))=(k7 kvs k).isSome
 |[]=>rfl
 |p::r=>by
  rw [dB]
  by_cases e:p.1=k
  ·simp only [iY e,aW e,Bool.true_or,uc]
  ·rw [i8 e,a8 e,oS];exact pS k r
theorem DQ (k j:κ) (y:V):∀kvs:List (κ×V),k7 (kvs.map λkv=>if kv.1=k then (kv.1,y) else kv) j=(k7 kvs j).map λx=>if j=k then y else x
 |[]=>rfl
 |p::r=>by
  have ih:=DQ k j y r
  rw [bA]
  by_cases h:p.1=k
  ·rw [aA h]
   by_cases e:p.1=j
   ·rw [iY (p:=(p.1,y)) e,iY e,fT,aA (e.symm.trans h)]
   ·rw [i8 (p:=(p.1,y)) e,i8 e,ih]
  ·rw [au h]
   by_cases e:p.1=j
   ·rw [iY (p:=p) e,iY e,fT,au (λz=>h (e.trans z))]
   ·rw [i8 (p:=p) e,i8 e,ih]
theorem Ak (k j:κ) (y:V):∀kvs:List (κ×V),k7 kvs k=none->k7 (kvs++[(k,y)]) j=if j=k then some y else k7 kvs j
 |[],_=>by
  by_cases e:k=j
  ·rw [aA e.symm];exact iY (p:=(k,y)) e
  ·rw [au (λz=>e z.symm)];exact i8 (p:=(k,y)) e
 |p::r,hn=>by
  rw [List.cons_append]
  have hk:¬p.1=k:=λz=>by rw [iY z] at hn;cases hn
  rw [i8 hk] at hn
  have ih:=Ak k j y r hn
  by_cases e:p.1=j
  ·rw [iY e,iY e,au (λz=>hk (e.trans z))]
  ·rw [i8 e,i8 e,ih]
theorem C8 (kvs:List (κ×V)) (k j:κ) (y:V):k7 (lY kvs k y) j=if j=k then some y else k7 kvs j:=by
 unfold lY
 by_cases a:(kvs.any λkv=>decide (kv.1=k))=true
 ·rw [aA a,DQ]
  rw [pS] at a
  by_cases e:j=k
  ·obtain ⟨x,hx⟩:=ez.mp a
   rw [aA e,e,hx,fT,aA rfl]
  ·rw [au e]
   cases k7 kvs j with
   |none=>rfl
   |some x=>rw [fT,au e]
 ·rw [au a]
  refine Ak k j y kvs ?_
  rw [pS] at a
  cases q:k7 kvs k with
  |none=>rfl
  |some x=>rw [q] at a;exact (a rfl).elim
theorem oP (kvs:List (κ×V)) (k:κ) (v:V):(lY kvs k v).length<=kvs.length+1:=by
 unfold lY
 split
 ·rw [af];lia
 ·rw [ao,aB,fU];lia
theorem Jb {kvs:List (κ×V)} {k:κ} (v:V) (h:k7 kvs k=none):lY kvs k v=kvs++[(k,v)]:=by
 unfold lY
 rw [pS,h]
 exact au (by decide)
theorem rn.wF {o:Option V} {u:Option Value} (r:rn o u):o.isSome=u.isSome:=by
 cases o with
 |none=>cases u with
  |none=>rfl
  |some _=>exact (show False from r).elim
 |some _=>cases u with
  |none=>exact (show False from r).elim
  |some _=>rfl
theorem rn.getD {o:Option V} {u:Option Value} {d:V} {d':Value} (r:rn o u) (rd:dP d d'):dP (o.getD d) (u.getD d'):=by
 cases o with
 |none=>cases u with
  |none=>exact rd
  |some _=>exact (show False from r).elim
 |some _=>cases u with
  |none=>exact (show False from r).elim
  |some _=>exact r
theorem KV.val {kvs:List (κ×V)} {vs:List (κ×Value)} (r:KV kvs vs) (k:κ):rn (k7 kvs k) (valueAt vs k):=by
 unfold KV at r
 induction r with
 |nil=>exact True.intro
 | @cons p q ps qs h t ih=>
  obtain ⟨h1,h2⟩:=h
  by_cases e:p.1=k
  ·have e':q.1=k:=h1.symm.trans e
   have b:valueAt (q::qs) k=some q.2:=by simp [valueAt,fS,e']
   rw [iY e,b];exact h2
  ·have e':¬q.1=k:=λz=>e (h1.trans z)
   have b:valueAt (q::qs) k=valueAt qs k:=by simp [valueAt,fS,e']
   rw [i8 e,b];exact ih
theorem KV.any {kvs:List (κ×V)} {vs:List (κ×Value)} (r:KV kvs vs) (k:κ):(kvs.any λkv=>decide (kv.1=k))=vs.any λkv=>decide (kv.1=k):=by
 unfold KV at r
 induction r with
 |nil=>rfl
 |cons h t ih=>rw [dB,dB,ih,h.1]
theorem KV.NT {kvs:List (κ×V)} {vs:List (κ×Value)} (r:KV kvs vs) (k:κ) {y:V} {u:Value} (ry:dP y u):
  KV (kvs.map λkv=>if kv.1=k then (kv.1,y) else kv) (vs.map λkv=>if kv.1=k then (kv.1,u) else kv):=by
 unfold KV at r ⊢
 induction r with
 |nil=>exact .nil
 | @cons p q ps qs h t ih=>
  rw [bA,bA]
  refine .cons ?_ ih
  obtain ⟨h1,h2⟩:=h
  by_cases e:p.1=k
  ·rw [aA e,aA (h1.symm.trans e)];exact ⟨h1,ry⟩
  ·rw [au e,au (λz=>e (h1.trans z))];exact ⟨h1,h2⟩
theorem KV.put {kvs:List (κ×V)} {vs:List (κ×Value)} (r:KV kvs vs) (k:κ) {y:V} {u:Value} (ry:dP y u):KV (lY kvs k y) (stored vs k u):=by
 unfold lY stored
 rw [r.any k]
 by_cases e:(vs.any λkv=>decide (kv.1=k))=true
 ·rw [aA e,aA e];exact r.NT k ry
 ·rw [au e,au e];exact Paired.snoc r ⟨rfl,ry⟩
theorem KV.length {kvs:List (κ×V)} {vs:List (κ×Value)} (r:KV kvs vs):kvs.length=vs.length:=Paired.length r
end
theorem Ay {P:Program} {w:World} {k:iq} {u:Value} (r:dP (kV k) u):(f9 P w).is k u=true:=by
 cases k with
 |inl i=>obtain ⟨t,e⟩:=(show ∃t,u=Value.int i t from r);subst e;exact C3 P w i t
 |inr x=>obtain ⟨t,e⟩:=(show ∃t,u=Value.str x t from r);subst e;exact CF P w x t
theorem Aa {P:Program} {w:World}:∀{ks:List iq} {us:List Value},c7 (ks.map kV) us->ItemsAre (f9 P w) ks us
 |[],_,r=>by rw [gF] at r;cases r;exact .nil
 |k::ks,_,r=>by
  rw [bA] at r
  cases r with
  |cons h t=>exact .cons (Ay h) (Aa t)
abbrev KT (H:Hp):List (List iq×V)->List (List iq×Addr×Value)->Prop:=Paired λp q=>p.1=q.1/\H q.2.1=some (.dC (p.1.map kV))/\dP p.2 q.2.2
theorem KT.val {H:Hp} {kvs:List (List iq×V)} {xs:List (List iq×Addr×Value)} (r:KT H kvs xs) (k:List iq):rn (k7 kvs k) ((atKey xs k).map (·.2)):=by
 induction r with
 |nil=>exact True.intro
 | @cons p q ps qs h t ih=>
  obtain ⟨h1,_,h2⟩:=h
  by_cases e:p.1=k
  ·have e':q.1=k:=h1.symm.trans e
   have b:atKey (q::qs) k=some q.2:=by simp [atKey,fS,e']
   rw [iY e,b];exact h2
  ·have e':¬q.1=k:=λz=>e (h1.trans z)
   have b:atKey (q::qs) k=atKey qs k:=by simp [atKey,fS,e']
   rw [i8 e,b];exact ih
theorem KT.NT {H:Hp} {kvs:List (List iq×V)} {xs:List (List iq×Addr×Value)} (r:KT H kvs xs) (k:List iq) {y:V} {u:Value} (ry:dP y u):
  KT H (kvs.map λkv=>if kv.1=k then (kv.1,y) else kv) (xs.map (putAt k u)):=by
 induction r with
 |nil=>exact .nil
 | @cons p q ps qs h t ih=>
  rw [bA,bA]
  refine .cons ?_ ih
  obtain ⟨h1,h2,h3⟩:=h
  unfold putAt
  by_cases e:p.1=k
  ·rw [aA e,aA (h1.symm.trans e)];exact ⟨h1,h2,ry⟩
  ·rw [au e,au (λz=>e (h1.trans z))];exact ⟨h1,h2,h3⟩
theorem KT.put {H:Hp} {kvs:List (List iq×V)} {xs:List (List iq×Addr×Value)} (r:KT H kvs xs) (k:List iq) {b:Addr} {y:V} {u:Value} (hb:H b=some (.dC (k.map kV))) (ry:dP y u):
  KT H (lY kvs k y) (storedH xs k b u):=by
 have e:(kvs.any λkv=>decide (kv.1=k))=(atKey xs k).isSome:=by
  rw [pS,(r.val k).wF,uT]
 unfold lY storedH
 rw [e]
 by_cases q:(atKey xs k).isSome=true
 ·rw [aA q,aA q];exact r.NT k ry
 ·rw [au q,au q];exact Paired.snoc r ⟨rfl,hb,ry⟩
theorem KT.keeps {H H':Hp} {kvs:List (List iq×V)} {xs:List (List iq×Addr×Value)} (r:KT H kvs xs) (ht:∀b ys,H b=some (.dC ys)->H' b=some (.dC ys)):KT H' kvs xs:=
 Paired.Oz r λ_ _ z=>⟨z.1,ht _ _ z.2.1,z.2.2⟩
section
variable {P:Program} {w:World} {H:Hp} {h:Heap} {a:Addr}
theorem Nc {u:HO} (ok:rP P w H h) (e:Rd H a u):g8 P w H h a u:=e.ok ok
theorem Ae {kvs:List (iq×V)} (ok:rP P w H h) (e:Rd H a (.dK kvs)):kvs.length<=sizeLine/\(a==sysModules)=false/\∃vs,KV kvs vs/\h.DictOf (f9 P w) a vs:=
 show g8 P w H h a (.dK kvs) from Nc ok e
theorem Jy {kvs:List (iq×V)} (ok:rP P w H h) (e:H a=some (.dK kvs)):kvs.length<=sizeLine/\(a==sysModules)=false/\∃vs,KV kvs vs/\h.DictOf (f9 P w) a vs:=Ae ok (.inl e)
theorem yW {ks:List iq} (ok:rP P w H h) (e:H a=some (.dC (ks.map kV))):(tupleKind (f9 P w)).is h ks a:=by
 obtain ⟨_,its,r,o,h1,h2,n,h3⟩:=(show g8 P w H h a (.dC (ks.map kV)) from ok a _ e)
 exact ⟨o,its.toArray,n,h1,h2,h3,by simpa using Aa r⟩
theorem zR {kvs:List (List iq×V)} (ok:rP P w H h) (e:Rd H a (.dT kvs)):kvs.length<=sizeLine/\(a==sysModules)=false/\
  ∃xs,KT H kvs xs/\h.DictOfH (tupleKind (f9 P w)) a xs:=by
 obtain ⟨z,y,xs,r,o,es,ep,h1,h2,h3,h4,h5⟩:=(show g8 P w H h a (.dT kvs) from Nc ok e)
 refine ⟨z,y,xs,r,o,es,ep,h1,h2,h3,h4,λx hx=> ?_,h5⟩
 have all:∀{l:List (List iq×V)} {m:List (List iq×Addr×Value)},KT H l m->∀x∈m,(tupleKind (f9 P w)).is h x.1 x.2.1:=by
  intro l m q
  induction q with
  |nil=>intro x hx;exact nomatch hx
  | @cons p q ps qs hq t ih=>
   intro x hx
   rcases aX.mp hx with e|hx
   ·subst e
    exact yW ok (by rw [<-hq.1];exact hq.2.1)
   ·exact ih x hx
 exact all r x hx
theorem QI {kvs:List (List iq×V)} (ok:rP P w H h) (e:H a=some (.dT kvs)):kvs.length<=sizeLine/\(a==sysModules)=false/\
  ∃xs,KT H kvs xs/\h.DictOfH (tupleKind (f9 P w)) a xs:=zR ok (.inl e)
end
def tI (H:Hp) (a:Addr) (y:V) (r:Option V):Prop:=
 (∃kvs k,Rd H a (.dK kvs)/\y=kV k/\r=k7 kvs k)\/∃kvs k b,Rd H a (.dT kvs)/\y= .ref b/\H b=some (.dC (k.map kV))/\r=k7 kvs k
def By (H:Hp) (a:Addr) (y v:V) (H':Hp):Prop:=
 (∃kvs k,H a=some (.dK kvs)/\y=kV k/\kvs.length< sizeLine/\H'=bG H a (.dK (lY kvs k v)))\/
 ∃kvs k b,H a=some (.dT kvs)/\y= .ref b/\H b=some (.dC (k.map kV))/\kvs.length< sizeLine/\H'=bG H a (.dT (lY kvs k v))
theorem tI.k {H:Hp} {a:Addr} {kvs:List (iq×V)} {k:iq} (e:H a=some (.dK kvs)):tI H a (kV k) (k7 kvs k):= .inl ⟨kvs,k,.inl e,rfl,rfl⟩
theorem tI.t {H:Hp} {a b:Addr} {kvs:List (List iq×V)} {k:List iq} (e:H a=some (.dT kvs)) (eb:H b=some (.dC (k.map kV))):tI H a (.ref b) (k7 kvs k):= .inr ⟨kvs,k,b,.inl e,rfl,eb,rfl⟩
theorem By.k {H:Hp} {a:Addr} {kvs:List (iq×V)} {k:iq} {v:V} (e:H a=some (.dK kvs)) (hl:kvs.length< sizeLine):By H a (kV k) v (bG H a (.dK (lY kvs k v))):= .inl ⟨kvs,k,e,rfl,hl,rfl⟩
theorem By.t {H:Hp} {a b:Addr} {kvs:List (List iq×V)} {k:List iq} {v:V} (e:H a=some (.dT kvs)) (eb:H b=some (.dC (k.map kV))) (hl:kvs.length< sizeLine):
  By H a (.ref b) v (bG H a (.dT (lY kvs k v))):= .inr ⟨kvs,k,b,e,rfl,eb,hl,rfl⟩
section
variable {X:Cx} {pins:List (Addr×Obj)} {σ:St} {H:Hp} {s:Shared} {a:Addr} {y v:V} {u r:Value} {o:Option V} {A:Around} {E:Value->Shared->Prop}
theorem cV.Yn (I:cV X pins σ H s):sysModules< s.heap.objs.size:=by
 have h:mainGlobals< s.heap.objs.size:=(I.AZ.BS.keeps I.bk).lt
 exact Nat.lt_trans (by decide) h
theorem He {Q:Value->Shared->Prop} (hu:A.units+1< cLine) (I:cV X pins σ H s) (g:tI H a y (some v)) (ry:dP y u) (h:∀w' s',cV X pins σ H s'->dP v w'->Q w' s'):
  wpAny (model X.prog X.w) A (getItem (.ref a) u) Q E s:=by
 rcases g with ⟨kvs,k,e,ey,l⟩|⟨kvs,k,b,e,ey,eb,l⟩
 ·subst ey
  obtain ⟨z,hd,vs,rel,dd⟩:=Ae I.fD e
  obtain ⟨w',hw,rw'⟩:=rn.AL (v:=v) (o:=valueAt vs k) (by rw [l];exact rel.val k)
  exact wpAny_getItem_of (Ay ry) dd.mapOf hw (h w' _ (I.uR _) rw')
 ·subst ey
  cases (show u=Value.ref b from ry)
  obtain ⟨z,hd,xs,rel,dd⟩:=zR I.fD e
  obtain ⟨w',hw,rw'⟩:=rn.AL (v:=v) (o:=(atKey xs k).map (·.2)) (by rw [l];exact rel.val k)
  obtain ⟨p,hp,hp2⟩:=kl.mp hw
  refine wpAny_getItem_heap (jO hu) (yW I.fD eb) dd hp ?_
  rw [hp2]
  exact h w' _ (I.uR _) rw'
theorem LO {Q:Value->Shared->Prop} (hu:A.units+1< cLine) (I:cV X pins σ H s) (g:tI H a y o) (ry:dP y u) (h:∀s',cV X pins σ H s'->Q (.bool (!o.isSome)) s'):
  wpAny (model X.prog X.w) A (compareOp .NotIn u (.ref a)) Q E s:=by
 rcases g with ⟨kvs,k,e,ey,l⟩|⟨kvs,k,b,e,ey,eb,l⟩
 ·subst ey
  obtain ⟨z,hd,vs,rel,dd⟩:=Ae I.fD e
  refine wpAny_notIn_of (Ay ry) hd dd.mapOf ?_
  rw [<-(rel.val k).wF,<-l]
  exact h _ (I.uR _)
 ·subst ey
  cases (show u=Value.ref b from ry)
  obtain ⟨z,hd,xs,rel,dd⟩:=zR I.fD e
  refine wpAny_notIn_heap (jO hu) (yW I.fD eb) hd dd ?_
  have q:=(rel.val k).wF
  rw [uT] at q
  rw [<-q,<-l]
  exact h _ (I.uR _)
theorem Bd {h':Heap} {t':Nat} {ob:HO} (I:cV X pins σ H s) (mu:RS (H a)) (hs:Heap.SameBut a s.heap h') (he:∃q,h'.get? a=some q) (new:g8 X.prog X.w (bG H a ob) h' a ob):
  cV X pins σ (bG H a ob) {s with heap:=h',toks:=t'}:=
 I.vw (x:=a) (e:=a) mu (.inl rfl) (λb q hb z=>(hs.2 b hb).trans z) he new
theorem JU {P:Program} {w:World} {H':Hp} {h':Heap} {kvs:List (iq×V)} {vs:List (iq×Value)} (z:kvs.length<=sizeLine) (hd:(a==sysModules)=false) (rel:KV kvs vs) (dd:h'.DictOf (f9 P w) a vs):
  g8 P w H' h' a (.dK kvs):=⟨z,hd,vs,rel,dd⟩
theorem Hz {H':Hp} {Q:Unit->Shared->Prop} (hu:A.units+1< cLine) (I:cV X pins σ H s) (g:By H a y v H') (ry:dP y u) (rv:dP v r) (h:∀s',cV X pins σ H' s'->Q () s'):
  wpAny (model X.prog X.w) A (setItem (.ref a) u r) Q E s:=by
 rcases g with ⟨kvs,k,e,ey,l,eH⟩|⟨kvs,k,b,e,ey,eb,l,eH⟩
 ·subst ey eH
  obtain ⟨z,hd,vs,rel,dd⟩:=Jy I.fD e
  have hz:vs.length<=sizeLine:=by rw [<-rel.length];exact z
  have hl:(lY kvs k v).length<=sizeLine:=by have:=oP kvs k v;lia
  refine wpAny_setItem_pairs (hsz:=hz) (Ay ry) dd λh' dd' hs=>h _ ?_
  have he:∃q,h'.get? a=some q:=let ⟨q,_,_,hq,_⟩:=dd';⟨q,hq⟩
  exact Bd I (by rw [e];exact True.intro) hs he (JU hl hd (rel.put k rv) dd')
 ·subst ey eH
  cases (show u=Value.ref b from ry)
  obtain ⟨z,hd,xs,rel,dd⟩:=QI I.fD e
  have hz:xs.length<=sizeLine:=by rw [<-Paired.length rel];exact z
  have hl:(lY kvs k v).length<=sizeLine:=by have:=oP kvs k v;lia
  refine wpAny_setItem_heap (hsz:=hz) (jO hu) (yW I.fD eb) dd λh' dd' hs=>h _ ?_
  obtain ⟨q,es,ep,hq,h2,h3,h4,_,h5⟩:=dd'
  refine Bd I (by rw [e];exact True.intro) hs ⟨q,hq⟩ ⟨hl,hd,_,(rel.put k eb rv).keeps λc ys ec=> ?_,q,es,ep,hq,h2,h3,h4,h5⟩
  rw [aL (Tq ec e (λz=>nomatch z))]
  exact ec
end
def Sh (i:Expr):Prop:=∀ov iv,subscripted i false ov iv=operate [ov,iv] (getItem ov iv)
theorem Lo {prog:Program} {w:World} {A:Around} {E:Value->Shared->Prop} {s:Shared} {bX:Env} {value slice:Expr} {pos:Pos} {T id:String} {Q:Value->Shared->Prop}
  (hl:typeLookup (.type T) "__getitem__"=pure (some (.builtin id))) (hs:Sh slice)
  (h:wpAny (model prog w) A (eval value bX) (λo s₁=>wpAny (model prog w) A (eval slice bX) (λi s₂=>s₂.TypeIs o T/\wpAny (model prog w) A (getItem o i) Q E s₂) E s₁) E s):
  wpAny (model prog w) A (eval (.Subscript value slice pos) bX) Q E s:=by
 refine Subscript_ (fi h (λo s₁ h₁=>fi h₁ (λi s₂ h₂=> ?_) λ_ _ x=>x) λ_ _ x=>x)
 obtain ⟨hT,h₂⟩:=h₂
 unfold subscriptTail
 refine ag ?_
 rw [getitemInPython_of_ne hT.not_modules]
 refine ag (wpAny_specialOf hT hl ?_)
 have fin:wpAny (model prog w) A (subscripted slice false o i) (λr s₃=>wpAny (model prog w) A (letTemporaryGo value o r>>=λ_=>pure r) Q E s₃) E s₂:=by
  rw [hs o i]
  exact wpAny_operating (fi h₂ (λr s₃ h₃=>ag (wpAny_letTemporaryGo (aH h₃))) λ_ _ x=>x)
 first
  |exact aH (ag fin)
  |exact ag (aH (ag fin))
  |exact ag fin
theorem DB {X:Cx} {pins:List (Addr×Obj)} {σ:St} {H:Hp} {s:Shared} {a:Addr} {y:V} {o:Option V} (I:cV X pins σ H s) (g:tI H a y o):s.TypeIs (.ref a) "dict":=by
 rcases g with ⟨kvs,k,e,_,_⟩|⟨kvs,k,b,e,_,_,_⟩
 ·obtain ⟨_,_,vs,_,dd⟩:=Ae I.fD e
  exact dd.typeIs
 ·obtain ⟨_,_,xs,_,dd⟩:=zR I.fD e
  exact dd.typeIs
def Q3 (td ty:TE):TE:=fun σ H Q=>td σ H λx H1=>ty σ H1 λy H2=>∃a v,x= .ref a/\tI H2 a y (some v)/\Q v H2
def Li (ty td:TE):TE:=fun σ H Q=>ty σ H λy H1=>td σ H1 λx H2=>∃a o,x= .ref a/\tI H2 a y o/\Q (.bl (!o.isSome)) H2
def Rl (td ty tv:TE):TS:=λD σ H=>tv σ H λv H1=>td σ H1 λx H2=>ty σ H2 λy H3=>∃a H4,x= .ref a/\By H3 a y v H4/\D.nx σ H4
section
variable {X:Cx} {o i e value:Expr} {pos pos' tpos:Pos} {td ty tv:TE}
theorem Ly (hu:X.A.units+1< cLine) (ho:PE X o td) (hi:PE X i ty) (hs:Sh i):PE X (.Subscript o i pos) (Q3 td ty):=by
 intro pins s σ H Q I h
 refine Lo PySem.F.slot_dict_getitem.lookup hs (gU (ho pins s σ H _ I h) λu s1 ⟨x,H1,I1,rx,q1⟩=>gU (hi pins s1 σ H1 _ I1 q1) λiv s2 ⟨y,H2,I2,ry,a,v,ex,g,q2⟩=> ?_)
 subst ex
 obtain rfl:u=Value.ref a:=rx
 exact ⟨DB I2 g,He hu I2 g ry λw' s3 I3 rw'=>⟨v,H2,I3,rw',q2⟩⟩
theorem zO (hu:X.A.units+1< cLine) (hi:PE X i ty) (ho:PE X o td):PC X .NotIn i o (Li ty td):=by
 intro pins s σ H Q I h
 refine gU (hi pins s σ H _ I h) λiv s1 ⟨y,H1,I1,ry,q1⟩=>gU (ho pins s1 σ H1 _ I1 q1) λu s2 ⟨x,H2,I2,rx,a,ov,ex,g,q2⟩=> ?_
 subst ex
 obtain rfl:u=Value.ref a:=rx
 exact LO hu I2 g ry λs3 I3=>⟨.bl (!ov.isSome),H2,I3,rfl,q2⟩
theorem AG (hu:X.A.units+1< cLine) (ho:PE X o td) (hi:PE X i ty) (hv:PE X value tv) (hs:swapsWith value (some (.Subscript o i pos')) pos.line X.bX=pure false):
  PS X (.Assign [.Subscript o i pos'] value pos) (Rl td ty tv):=by
 intro pins s σ H D I h
 refine wpAny_Assign_Subscript (gU (hv pins s σ H _ I h) λr s1 ⟨v,H1,I1,rv,q1⟩=>gU (ho pins s1 σ H1 _ I1 q1) λu s2 ⟨x,H2,I2,rx,q2⟩=>gU (hi pins s2 σ H2 _ I2 q2) λiv s3 ⟨y,H3,I3,ry,a,H4,ex,g,q3⟩=> ?_) hs
 subst ex
 obtain rfl:u=Value.ref a:=rx
 exact Hz hu I3 g ry rv λs4 I4=>⟨σ,H4,I4,q3⟩
end
theorem J1 {P:Program} {w:World} {H:Hp} (h:Heap) (hb:sysModules< h.objs.size):g8 P w H (h.push {cls:= .type "dict",data:= .dict #[]}) h.objs.size (.dK []):=
 ⟨bD _,bZ.mpr (aY (bO hb)),[],.nil,Heap.DictOf.new h⟩
theorem J0 {P:Program} {w:World} {H:Hp} (h:Heap) (hb:sysModules< h.objs.size):g8 P w H (h.push {cls:= .type "dict",data:= .dict #[]}) h.objs.size (.dT []):=
 ⟨bD _,bZ.mpr (aY (bO hb)),[],.nil,_,#[],0,aZ _ rfl,⟨rfl,rfl,rfl⟩,rfl,rfl,iV⟩
def OB:TE:=λ_ H Q=>∀p,H p=none->Q (.ref p) (bG H p (.dT []))
section
variable {X:Cx} {pos:Pos}
theorem Co:PE X (.Dict [] [] pos) OB:=λpins s σ H Q I h=>
 wpAny_Dict_empty ⟨.ref s.heap.objs.size,_,I.laid (a:=s.heap.objs.size) (o:= .dT []) (t':=s.toks) (λ_ _ q=>aD _ q) (aF _) (J0 s.heap I.Yn),rfl,h _ (I.fD.fresh (aF _))⟩
end
def E6:List (TE×TE)->St->Hp->(List (V×V)->Hp->Prop)->Prop
 |[],_,H,Q=>Q [] H
 |(tk,tv)::r,σ,H,Q=>tk σ H λx H1=>tv σ H1 λy H2=>E6 r σ H2 λps H3=>Q ((x,y)::ps) H3
abbrev VV:List (V×V)->List (Value×Value)->Prop:=Paired λp q=>dP p.1 q.1/\dP p.2 q.2
def Vo (X:Cx) (pos:Pos) (keys:List (Option Expr)) (values:List Expr) (trs:List (TE×TE)):Prop:=
 ∀(pins:List (Addr×Obj)) (s:Shared) (σ:St) (H:Hp) (Q:List (V×V)->Hp->Prop),cV X pins σ H s->E6 trs σ H Q->
  wpAny (model X.prog X.w) X.A (evalPairs (pairTrees keys values X.bX pos)) (λvs s'=>∃ps H',cV X pins σ H' s'/\VV ps vs/\Q ps H') X.xe s
theorem Md {X:Cx} {pos:Pos}:Vo X pos [] [] []:=λpins s σ H Q I h=>pairTrees_nil_walk ⟨[],H,I,.nil,h⟩
theorem JM {X:Cx} {pos:Pos} {k v:Expr} {ks:List (Option Expr)} {vs:List Expr} {tk tv:TE} {trs:List (TE×TE)} (hk:PE X k tk) (hv:PE X v tv) (hr:Vo X pos ks vs trs):
  Vo X pos (some k::ks) (v::vs) ((tk,tv)::trs):=λpins s σ H Q I h=>
 pairTrees_cons_walk (gU (hk pins s σ H _ I h) λu s1 ⟨x,H1,I1,rx,q1⟩=>gU (hv pins s1 σ H1 _ I1 q1) λw2 s2 ⟨y,H2,I2,ry,q2⟩=>
  gU (hr pins s2 σ H2 _ I2 q2) λws s3 ⟨ps,H3,I3,rel,q3⟩=>⟨(x,y)::ps,H3,I3,.cons ⟨rx,ry⟩ rel,q3⟩)
def rS (kvs more:List (iq×V)):List (iq×V):=more.foldl (λacc kv=>lY acc kv.1 kv.2) kvs
theorem KV.merge:∀{more:List (iq×V)} {rs:List (iq×Value)} {kvs:List (iq×V)} {vs:List (iq×Value)},KV more rs->KV kvs vs->KV (rS kvs more) (merged vs rs):=by
 intro more rs kvs vs r
 unfold KV at r
 induction r generalizing kvs vs with
 |nil=>intro q;exact q
 | @cons p q ps qs h t ih=>
  intro r0
  have e:KV (lY kvs p.1 p.2) (stored vs q.1 q.2):=by
   have:=r0.put p.1 h.2
   rw [<-h.1];exact this
  exact ih e
theorem tS:∀(more kvs:List (iq×V)),(rS kvs more).length<=kvs.length+more.length
 |[],kvs=>by show kvs.length<=kvs.length+0;lia
 |p::r,kvs=>by
  have h1:=tS r (lY kvs p.1 p.2)
  have h2:=oP kvs p.1 p.2
  show (rS (lY kvs p.1 p.2) r).length<=_
  rw [aB];lia
theorem yP {P:Program} {w:World}:∀{kvs:List (iq×V)} {ws:List (Value×Value)},VV (kvs.map λkv=>(kV kv.1,kv.2)) ws->∃rs,Carries (f9 P w) ws rs/\KV kvs rs
 |[],_,r=>by rw [gF] at r;cases r;exact ⟨[],True.intro,.nil⟩
 |p::kvs,_,r=>by
  rw [bA] at r
  cases r with
  | @cons a b as bs h t=>
   obtain ⟨rs,c,q⟩:=yP (P:=P) (w:=w) t
   obtain ⟨b1,b2⟩:=b
   exact ⟨(p.1,b2)::rs,⟨Ay h.1,rfl,c⟩,.cons ⟨rfl,h.2⟩ q⟩
def SV (trs:List (TE×TE)):TE:=fun σ H Q=>∀p,H p=none->E6 trs σ (bG H p (.dK [])) λps H2=>H2 p=some (.dK [])/\∃kvs:List (iq×V),ps=kvs.map (λkv=>(kV kv.1,kv.2))/\kvs.length<=15/\Q (.ref p) (bG H2 p (.dK (rS [] kvs)))
theorem Mh {X:Cx} {pos:Pos} {keys:List (Option Expr)} {values:List Expr} {trs:List (TE×TE)} (h:Vo X pos keys values trs) (hall:keys.all (·.isSome)=true) (hl:keys.length=values.length) (h0:keys≠[])
  (h15:keys.length<=15):PE X (.Dict keys values pos) (SV trs):=by
 intro pins s σ H Q I q
 have hn:=I.fD.fresh (aF s.heap.objs.size)
 have I1:=I.laid (a:=s.heap.objs.size) (o:= .dK []) (h':=s.heap.push {cls:= .type "dict",data:= .dict #[]}) (t':=s.toks) (λ_ _ q=>aD _ q) (aF _) (J1 s.heap I.Yn)
 refine wpAny_Dict_walk (knd:=f9 X.prog X.w) hall hl h0 h15 (gU (h pins _ σ _ _ I1 (q _ hn)) λws s2 ⟨ps,H2,I2,rel,e,kvs,ep,lk,q2⟩=> ?_)
 subst ep
 obtain ⟨rs,c,rk⟩:=yP (P:=X.prog) (w:=X.w) rel
 obtain ⟨z,hd,vs0,r0,dd⟩:=Jy I2.fD e
 cases r0
 refine ⟨rs,c,dd,λh' dd' hs=>⟨.ref s.heap.objs.size,_,?_,rfl,q2⟩⟩
 have hz:(rS [] kvs).length<=sizeLine:=by
  have h1:=tS kvs []
  rw [fU] at h1
  rw [dH];lia
 have he:∃q,h'.get? s.heap.objs.size=some q:=let ⟨q,_,_,hq,_⟩:=dd';⟨q,hq⟩
 exact Bd I2 (by rw [e];exact True.intro) hs he (JU hz hd (rk.merge .nil) dd')
structure M2 (X:Cx) (o:Expr) (m:Str) (apos:Pos) (e f:Expr) (cpos:Pos):Prop where
 base:attributeBase o m X.bX (eval o X.bX)=eval o X.bX
 Q7:((backTo cpos (starEach [e,f] X.bX)).all (λx=> !x.1)&&(backToKw cpos (keywordEach [] X.bX)).all (λx=>x.1.isSome)
  &&decide (([e,f]:List Expr).length+([]:List Keyword).length+(if ([]:List Keyword).isEmpty then 0 else 1)< 30))=true
 line:(apos.endLine==cpos.line)=true
 QJ:backTo cpos (starEach [e,f] X.bX)=[(false,eval e X.bX),(false,eval f X.bX)]
def Yl (H:Hp) (a:Addr):Prop:=(∃kvs,Rd H a (.dK kvs))\/∃kvs,Rd H a (.dT kvs)
theorem Pb {X:Cx} {pins:List (Addr×Obj)} {σ:St} {H:Hp} {s:Shared} {a:Addr} (I:cV X pins σ H s) (d:Yl H a):
  s.TypeIs (.ref a) "dict"/\(∀b,Value.ref a= .ref b->∃ob,s.heap.get? b=some ob/\ob.dict=none)/\(a==sysModules)=false:=by
 rcases d with ⟨kvs,e⟩|⟨kvs,e⟩
 ·obtain ⟨_,hd,vs,_,dd⟩:=Ae I.fD e
  refine ⟨dd.typeIs,λb q=> ?_,hd⟩
  cases q
  obtain ⟨ob,_,_,h1,h2,_⟩:=dd
  exact ⟨ob,h1,h2.2.1⟩
 ·obtain ⟨_,hd,xs,_,dd⟩:=zR I.fD e
  refine ⟨dd.typeIs,λb q=> ?_,hd⟩
  cases q
  obtain ⟨ob,_,_,h1,h2,_⟩:=dd
  exact ⟨ob,h1,h2.2.1⟩
section
variable {X:Cx} {pins:List (Addr×Obj)} {σ:St} {H:Hp} {s:Shared} {a:Addr} {y d:V} {u r:Value} {o:Option V} {A:Around} {E:Value->Shared->Prop}
theorem Ny {Q:Value->Shared->Prop} (hu:A.units+1< cLine) (I:cV X pins σ H s) (g:tI H a y o) (ry:dP y u) (rd:dP d r) (h:∀w' s',cV X pins σ H s'->dP (o.getD d) w'->Q w' s'):
  wpAny (model X.prog X.w) A (call (.builtin "dict.get") [.ref a,u,r]) Q E s:=by
 rcases g with ⟨kvs,k,e,ey,l⟩|⟨kvs,k,b,e,ey,eb,l⟩
 ·subst ey
  obtain ⟨z,hd,vs,rel,dd⟩:=Ae I.fD e
  refine call_meetsIn k9 dd.typeIs qi (pF _ _ _) (meets_dict_get_default (f9 X.prog X.w) a (Ay ry) hd r) ⟨_,dd.mapOf,h _ _ (I.uR _) ?_⟩
  rw [l]
  exact (rel.val k).getD rd
 ·subst ey
  cases (show u=Value.ref b from ry)
  obtain ⟨z,hd,xs,rel,dd⟩:=zR I.fD e
  refine call_meetsIn k9 dd.typeIs qi (pF _ _ _) (meetsH_dict_get_default (tupleKind (f9 X.prog X.w)) a b hd r) ⟨jO hu,k,xs,yW I.fD eb,dd,h _ _ (I.uR _) ?_⟩
  rw [l]
  exact (rel.val k).getD rd
end
def OY (td ty tx:TE):TE:=fun σ H Q=>td σ H λx H1=>∃a,x= .ref a/\Yl H1 a/\ty σ H1 λy H2=>tx σ H2 λz H3=>∃o,tI H3 a y o/\Q (o.getD z) H3
section
variable {X:Cx} {o e f:Expr} {apos cpos:Pos} {td ty tx:TE}
theorem Kn (hu:X.A.units+1< cLine) (ho:PE X o td) (he:PE X e ty) (hf:PE X f tx) (m:M2 X o "get" apos e f cpos):PE X (.Call (.Attribute o "get" apos) [e,f] [] cpos) (OY td ty tx):=by
 intro pins s σ H Q I h
 refine wpAny_Call_method m.base m.Q7 m.line PySem.F.plainAttrs_dict k9 PySem.F.type_dict_get (gU (ho pins s σ H _ I h) λu s1 ⟨x,H1,I1,rx,a,ex,d,q1⟩=> ?_)
 subst ex
 obtain rfl:u=Value.ref a:=rx
 obtain ⟨t1,t2,_⟩:=Pb I1 d
 refine ⟨t1,t2,?_⟩
 rw [m.QJ]
 refine kh rfl (Calls.evalArgs_plain (m6 (gU (he pins s1 σ H1 _ I1 q1) λiv s2 ⟨y,H2,I2,ry,q2⟩=>
  m6 (gU (hf pins s2 σ H2 _ I2 q2) λfv s3 ⟨z,H3,I3,rz,ov,g,q3⟩=>Calls.spliced_nil ?_))))
 exact Ny hu I3 g ry rz λw' s4 I4 rw'=>⟨_,H3,I4,rw',q3⟩
end
end L2
namespace L2
open PySem PySem.Spec PyProof.Rows
end L2
namespace L2
open PySem PySem.Spec PyProof.Rows
section
variable {X:Cx}
theorem O2 {tg:Expr} {pins:List (Addr×Obj)} {σ:St} {H:Hp} {s:Shared} {R:It->Hp->Prop} {J:It} {tn:Nat->Heap->Prop} {tk:Nat} (I:cV X pins σ H s) (o:Obj)
  (T:Ie X.prog X.w X.K tg J [s.heap.objs.size] s.heap.objs.size tn) (st:tn 0 (s.heap.push o)) (q:R J H):V9 X pins σ tg R (.ref s.heap.objs.size) {s with heap:=s.heap.push o,toks:=tk}:=by
 refine ⟨s.heap.objs.size,[s.heap.objs.size],tn,J,H,rfl,I.k0 λb ob e=>aD _ e,T,st,λb hb=> ?_,q⟩
 have e:b=s.heap.objs.size:=by simpa using hb
 subst e
 exact I.Kd (aF _) (I.fD.fresh (aF _))
end
def RE (lo c:Int) (n:Nat):It:=⟨λi _=>i< n,λi H x H'=>H'=H/\x= .int (lo+(i:Nat)*c),λi _=>n<=i⟩
theorem DT {P:Program} {w:World} {K:PySem.W.Frag} {tg:Expr} (it:Addr) (lo c:Int) (n:Nat):Ie P w K tg (RE lo c n) [it] it (λi h=>IsRangeIter h it (lo+(i:Nat)*c) ((n:Int)-(i:Nat)) c) where
 mem:=by simp
 obj:=λi h st b hb=>by
  have e:b=it:=by simpa using hb
  subst e
  exact ⟨_,st,λv z=>nomatch z⟩
 keep:=λi h h' st k=>k it (by simp) _ st
 item:=by
  intro X hP hw hK hc i pins s σ H E I hf st hg
  subst hP hw hK
  obtain ⟨f0,f1,f2,f3,f4,f5⟩:=hf it (by simp)
  have W:=Walks.range (prog:=X.prog) (w:=X.w) (I.ok.hd hc) it lo c n
  refine W.item i s _ _ hg st λv h' tk hv st' kk=> ?_
  obtain ⟨t,rfl⟩:=hv
  have I1:cV X pins σ H {s with heap:=h',toks:=tk}:=I.o5 (λb o hb e=>kk b o (by simpa using hb) e) f0 f1 f3 f4 f5
  exact ⟨_,rfl,FE (s:={s with heap:=h',toks:=tk}) (n:="range_iterator") st' rfl rfl (by decide) ⟨.int (lo+(i:Nat)*c),H,I1,⟨t,rfl⟩,⟨rfl,rfl⟩,st',λb hb=>(hf b hb).1⟩⟩
 done:=by
  intro X hP hw hK hc i pins s σ H E I hf st hg
  subst hP hw hK
  obtain ⟨f0,f1,f2,f3,f4,f5⟩:=hf it (by simp)
  exact wpAny_pyNext_range_end (I.ok.hd hc) st (by have:n<=i:=hg;lia) λh' eb=>⟨rfl,I.o5 (t':=s.toks) (λb o hb e=>eb b o hb e) f0 f1 f3 f4 f5⟩
 self:=λA i s Q E st h=>wpAny_pyIter_rangeiter st h
def Ss (i j c:Int) (n:Nat):Prop:=c≠0/\c.natAbs< 1073741824/\Builtin.Range.small i j c=true/\Builtin.Range.rangeSize i j c=n
theorem Ss.neg {i j:Int} (ha: -(2 ^ 62)<=i) (ha':i< 2 ^ 62) (hb: -(2 ^ 62)<=j) (hb':j< 2 ^ 62):Ss i j (-1) (i-j).toNat:=
 ⟨by decide,by decide,PySem.W.small_down ha ha' hb hb',PySem.W.rangeSize_downNat i j⟩
def Sf (ta:TA):TI:=fun σ H R=>ta σ H λvs H1=>∃(i j c:Int) (n:Nat),vs=[.int i,.int j,.int c]/\Ss i j c n/\R (RE i c n) H1
section
variable {X:Cx} {tg:Expr}
theorem Ax {a b c:Expr} {ta:TA} {p pos:Pos} (hg:Gl X "range") (hm:X.mg "range"=none) (ha:PA X [a,b,c] ta)
  (hs:starEach [a,b,c] X.bX=(false,eval a X.bX)::starEach [b,c] X.bX:=by rfl) (hpl:(backTo pos (starEach [b,c] X.bX)).any (·.1)=false:=by rfl):
  PI X tg (.Call (.Name "range" p) [a,b,c] [] pos) (Sf ta):=by
 intro pins s σ H R I h
 refine Call_ (ze I hg hm boot_range (fZ (gU (ha pos pins s σ H _ I h) λus s1 ⟨vs,H1,I1,r1,q1⟩=> ?_) hs hpl))
 obtain ⟨i,j,k,n,e,⟨c0,c1,c2,c3⟩,q⟩:=q1
 subst e
 cases r1 with
 |cons r rr=>
  cases rr with
  |cons r' rr=>
   cases rr with
   |cons r'' rr=>
    cases rr
    obtain ⟨t,rfl⟩:=r
    obtain ⟨t',rfl⟩:=r'
    obtain ⟨t'',rfl⟩:=r''
    refine call_range_3 c0 ?_ (.inl (qd c1))
    refine wpAny_pyIter_range (IsRange.new ..) c2 ?_
    have I2:cV X pins σ H1 {s1 with heap:=s1.heap.push {cls:= .type "range",data:= .fields #[.int i t,.int j t',.int k t'']}}:=I1.k0 (t':=s1.toks) λb o e=>aD _ e
    refine O2 (tk:=s1.toks) I2 _ (DT _ i k n) ?_ q
    have e1:i+((0:Nat):Int)*k=i:=by simp
    have e2:(n:Int)-((0:Nat):Int)=Builtin.Range.rangeSize i j k:=by rw [c3];simp
    show IsRangeIter _ _ (i+((0:Nat):Int)*k) ((n:Int)-((0:Nat):Int)) k
    rw [e1,e2]
    exact aZ _ rfl
end
theorem yI {lo c:Int} {n:Nat} {g:TG} {tb:TS} {D:Bc} {σ:St} {H:Hp} (Pv:Nat->St->Hp->Prop) (h0:Pv 0 σ H)
  (hs:∀i σ H,i< n->Pv i σ H->g (.int (lo+(i:Nat)*c)) σ H fun σ2 H2=>tb {D with nx:=Pv (i+1),ct:=Pv (i+1),bk:=D.nx} σ2 H2) (hd:∀σ H,Pv n σ H->D.nx σ H):
  ∃W:Nat->Nat->St->Hp->Prop,(∃m,W 0 m σ H)/\∀i m σ H,W i m σ H->
   ((RE lo c n).stop i H/\D.nx σ H)\/((RE lo c n).go i H/\∃N:St->Hp->Prop,(∀σ' H',N σ' H'->∃m',m'< m/\W (i+1) m' σ' H')/\∀x H',(RE lo c n).KR i H x H'->g x σ H' fun σ2 H2=>tb {D with nx:=N,ct:=N,bk:=D.nx} σ2 H2):=by
 refine ⟨λi m σ H=>m=n-i/\i<=n/\Pv i σ H,⟨n,by simp,bD _,h0⟩,?_⟩
 rintro i m σ H ⟨rfl,hi,p⟩
 by_cases hlt:i< n
 ·refine .inr ⟨hlt,Pv (i+1),fun σ' H' p'=>⟨n-(i+1),by lia,rfl,hlt,p'⟩,λx H' y=> ?_⟩
  obtain ⟨e,y⟩:=y
  subst e y
  exact hs i σ _ hlt p
 ·have e:i=n:=by lia
  subst e
  exact .inl ⟨aF _,hd σ H p⟩
end L2
section
namespace Bits
open PySem PyProof.Rows
end Bits
end
section
namespace TL
open PySem PySem.Builtin PySem.Builtin.Str PySem.StrLaws
end TL
end
namespace L2
open PySem PySem.Spec PyProof.Rows
end L2
namespace L2
open PySem PySem.Spec PyProof.Rows
end L2
namespace Att
open PySem PySem.W PySem.Calls PyProof.Rows
end Att
namespace L2
open PySem PySem.Spec PyProof.Rows
end L2
namespace L2
open PySem PySem.Spec PyProof.Rows
end L2
namespace L2
open PySem PySem.Spec PyProof.Rows
def il (s:Stmt) (j:Nat):Stmt:=match s with
 | .ClassDef _ _ _ body _ _ _ _ _ _ _=>body.getD j (.Pass ⟨0,0,0,0⟩)
 |_=> .Pass ⟨0,0,0,0⟩
def mT (s:Stmt):Arguments:=match s with
 | .FunctionDef _ a _ _ _ _ _ _ _ _=>a
 |_=>{posonlyargs:=[],args:=[],vararg:=none,kwonlyargs:=[],kw_defaults:=[],kwarg:=none,defaults:=[]}
def lL (s:Stmt):List Stmt:=match s with
 | .FunctionDef _ _ b _ _ _ _ _ _ _=>b
 |_=>[]
def aJ (s:Stmt):Scope:=match s with
 | .FunctionDef _ _ _ _ _ _ sc _ _ _=>sc
 |_=>{kind:= .function,names:=[],isGenerator:=false,isCoroutine:=false}
abbrev JD:JP:=λ_ _ _ _ _ _=>False
abbrev E0:XK:=λ_ _ _=>False
theorem CT {X:Cx}:sF JD X E0:=λ_ _ _ _ _ _ _ h=>h.elim
structure Iy (K:PySem.W.Frag) (x qual:Str) (st:Stmt) (f:Addr) (fd:FuncData):Prop where
 ex:∃(oc:Value) (od:Option Addr) (kV doc pm:Value) (an:Option Addr) (cdv ct:Value) (osl:Array (Option Value)),
  fd=PySem.W.fnOf x qual (mT st) (lL st) (aJ st) .none kV doc pm an cdv ct/\K.lookup f=some ⟨oc,od,.func fd,osl⟩/\PySem.W.codeIn K cdv qual=true
 kp:PySem.W.keepIn K (.ref f)=true
section
variable {P:Program} {w:World} {K:PySem.W.Frag} {mg:Str->Option Value} {base:Heap}
theorem Iy.ok {x qual:Str} {st:Stmt} {f:Addr} {fd:FuncData} {N ps:List Str} {k:Nat} {sp:Sp} (F:Iy K x qual st f fd) (S:bt N ps (aJ st)) (len:∀vs H Q E,sp vs H Q E->vs.length=ps.length)
  (hbody:∀(cdv:Value) (A:Around) (bE:List Env) (s:Shared) (H:Hp) (vs:List V) (Q:VK) (E:XK),jE k (A.deeper (envOfC qual (aJ st) s.heap.objs.size f cdv))->sp vs H Q E->
   ∃t,Hs (G3 JD P w K mg base N qual (aJ st) f cdv A bE s H E).Vk (lL st) t/\t {nx:=λ_ H'=>Q .ll H',rt:=Q} (start N vs) H):pQ P w K mg base JD (k+1) f fd ps sp:=by
 obtain ⟨oc,od,kV,doc,pm,an,cdv,ct,osl,rfl,lk,hcd⟩:=F.ex
 refine Rx lk hcd S len λA bE s H vs Q E hr hsp=> ?_
 obtain ⟨t,h,q⟩:=hbody cdv A bE s H vs Q E hr hsp
 exact ⟨t,h.Vk,q⟩
theorem Iy.cC {x qual:Str} {st:Stmt} {f:Addr} {fd:FuncData} {ps:List Str} (F:Iy K x qual st f fd)
  (h:∀(kV doc pm:Value) (an:Option Addr) (cdv ct:Value) (us:List Value),us.length=ps.length->bindArgs (PySem.W.fnOf x qual (mT st) (lL st) (aJ st) .none kV doc pm an cdv ct) ⟨us,[]⟩=pure (ps.zip us)):p7 K fd ps []:=by
 obtain ⟨oc,od,kV,doc,pm,an,cdv,ct,osl,rfl,lk,hcd⟩:=F.ex
 exact .all (h kV doc pm an cdv ct)
theorem Bz {x qual:Str} {st:Stmt} {f:Addr} {oc:Value} {od an:Option Addr} {osl:Array (Option Value)} {kV doc pm cdv ct:Value} (l:K.lookup f=some ⟨oc,od,.func (PySem.W.fnOf x qual (mT st) (lL st) (aJ st) .none kV doc pm an cdv ct),osl⟩)
  (c:PySem.W.codeIn K cdv qual=true) (k:PySem.W.keepIn K (.ref f)=true):Iy K x qual st f (PySem.W.fnOf x qual (mT st) (lL st) (aJ st) .none kV doc pm an cdv ct):=⟨⟨oc,od,kV,doc,pm,an,cdv,ct,osl,rfl,l,c⟩,k⟩
end
theorem yC {A:Around} {k:Nat} (hr:jE k A):A.units+1< cLine:=gn (Nat.add_le_add_left (by decide:1<=64) _) hr.units
theorem cv {n:Nat} (h:n<=1000):n< sizeLine:=gn h (by decide)
section
variable {X:Cx}
theorem pv (i:Nat) {x:Str} {pos:Pos} (hN:X.N[i]? =some x:=by rfl) (hv:P6 X.bX.scope x:=by first|exact Or.inl rfl|exact Or.inr (Or.inl rfl)|exact Or.inr (Or.inr rfl)) (hd:(x==("__debug__":Str))=false:=by decide)
  (hcd:(x==("__classdict__":Str))=false:=by decide):PE X (.Name x pos) (S6 i):=O0 hN hv hd hcd
end
theorem i0 {A B:Prop} (h:B):if false=true then A else B:=by
 rw [au bK]
 exact h
theorem ij {A B:Prop} (h:A):if true=true then A else B:=by
 rw [aA rfl]
 exact h
theorem l4 {c A B:Prop} [Decidable c] (h1:c->A) (h2:¬c->B):if c then A else B:=by
 by_cases h:c
 ·rw [aA h]
  exact h1 h
 ·rw [au h]
  exact h2 h
def bB (H H':Hp):Prop:=∀b o,H b=some o->H' b=some o
theorem bB.refl (H:Hp):bB H H:=λ_ _ h=>h
theorem bB.trans {H H1 H2:Hp} (a:bB H H1) (b:bB H1 H2):bB H H2:=λc o h=>b c o (a c o h)
theorem bB.free {H H':Hp} (e:bB H H') {l:Addr} (h:H' l=Option.none):H l=Option.none:=by
 cases q:H l with
 |none=>rfl
 |some o=>
  rw [e l o q] at h
  cases h
theorem bB.seq {K:PySem.W.Frag} {H H':Hp} {a:Addr} {xs:List V} (e:bB H H') (h:cE K H a xs):cE K H' a xs:=by
 rcases h with (h|⟨o,h⟩)|h
 ·exact .inl (.inl (e _ _ h))
 ·exact .inl (.inr ⟨o,e _ _ h⟩)
 ·exact .inr h
theorem Am {xs:List V} {z:Int} {j:Nat} {v:V} (e:z=(j:Int)) (h:xs[j]? =some v):Dj xs z=some v:=by
 rw [e]
 exact cg h
theorem MV {α:Type} {l:List α} (hN:l.Nodup) {i j:Nat} {x:α} (a:l[i]? =some x) (b:l[j]? =some x):i=j:=by
 obtain ⟨h1,e1⟩:=ae.mp a
 obtain ⟨h2,e2⟩:=ae.mp b
 exact (List.getElem_inj hN).mp (e1.trans e2.symm)
end L2
end
section
namespace L2
open PySem PySem.Spec PyProof.Rows
open PySem.W (WData Codec OpenSpec Well WellAll ReadsW ReadsAllW)
mutual
inductive Dw (K:PySem.W.Frag) (H:Hp):V->WData->Prop
 |ll:Dw K H .ll .none
 |bl (b:Bool):Dw K H (.bl b) (.bool b)
 |int (i:Int):Dw K H (.int i) (.int i)
 |str (x:Str):Dw K H (.str x) (.str x)
 |Cg (b:Array UInt8):Dw K H (.Cg b) (.bytes b.toList)
 |a6 {a:Addr} {xs:List V} {ds:List WData}:cE K H a xs->qY K H xs ds->Dw K H (.ref a) (.list ds)
 |dC {a:Addr} {xs:List V} {ds:List WData}:kY K H a xs->qY K H xs ds->Dw K H (.ref a) (.tuple ds)
inductive qY (K:PySem.W.Frag) (H:Hp):List V->List WData->Prop
 |nil:qY K H [] []
 |cons {v:V} {vs:List V} {d:WData} {ds:List WData}:Dw K H v d->qY K H vs ds->qY K H (v::vs) (d::ds)
end
theorem Lc {K:PySem.W.Frag} {H:Hp}:∀ns:List Int,qY K H (ns.map V.int) (ns.map WData.int)
 |[]=> .nil
 |n::r=> .cons (.int n) (Lc r)
theorem Lj {K:PySem.W.Frag} {H:Hp}:∀(ns:List Int) (xs:List V),qY K H xs (ns.map WData.int)->xs=ns.map V.int
 |[],xs,h=>by
  cases h
  rfl
 |n::r,xs,h=>by
  cases h with
  |cons h1 h2=>
   cases h1
   rw [Lj r _ h2]<;>rfl
section
variable {P:Program} {w:World} {K:PySem.W.Frag} {H:Hp} {h:Heap} {R:PySem.W.WRecords} {cl:Str->Option Addr}
theorem NZ {a:Addr} {xs:List V} (fD:rP P w H h) (KX:K.In h) (q:cE K H a xs):∃(its:List Value) (o:Obj) (n:Nat),c7 xs its/\h.get? a=some o/\o.cls= .type "list"/\o.data= .seq its.toArray n:=by
 rcases q with q|⟨o,its,n,e,hc,_,hd,_,hv⟩
 ·obtain ⟨_,its,n,hv,e⟩:=(show g8 P w H h a (.a6 xs) from q.ok fD)
  exact ⟨its,_,n,hv,e,rfl,rfl⟩
 ·exact ⟨its.toList,o,n,hv,KX _ _ e,hc,by simp [hd]⟩
theorem Ox {a:Addr} {xs:List V} (fD:rP P w H h) (KX:K.In h) (q:kY K H a xs):∃(its:List Value) (o:Obj) (n:Nat),c7 xs its/\h.get? a=some o/\o.cls= .type "tuple"/\o.data= .seq its.toArray n:=by
 rcases q with q|⟨o,its,n,e,hc,hd,_,hv⟩
 ·obtain ⟨_,its,hv,o,e,hc,n,hd⟩:=(show g8 P w H h a (.dC xs) from q.ok fD)
  exact ⟨its,o,n,hv,e,hc,hd⟩
 ·exact ⟨its.toList,o,n,hv,KX _ _ e,hc,by simp [hd]⟩
mutual
theorem Dw.Nb (fD:rP P w H h) (KX:K.In h):∀(d:WData) (v:V) (u:Value),Dw K H v d->dP v u->∃as,ReadsW R cl h u d as
 | .none,_,_,x,r=>by
  cases x
  cases r
  exact ⟨_,ReadsW.none⟩
 | .bool b,_,_,x,r=>by
  cases x
  cases r
  exact ⟨_,ReadsW.bool b⟩
 | .int i,_,_,x,r=>by
  cases x
  obtain ⟨t,rfl⟩:=r
  exact ⟨_,ReadsW.int i t⟩
 | .str s,_,_,x,r=>by
  cases x
  obtain ⟨t,rfl⟩:=r
  exact ⟨_,ReadsW.str s t⟩
 | .bytes b,_,_,x,r=>by
  cases x
  obtain ⟨t,rfl⟩:=r
  exact ⟨_,ReadsW.bytes _ t⟩
 | .list ds,_,_,x,r=>by
  cases x with
  |a6 hs ha=>
   cases r
   obtain ⟨its,o,n,rv,ho,hc,hd⟩:=NZ fD KX hs
   obtain ⟨as,hr⟩:=Dw.yJ fD KX ds _ its ha rv
   exact ⟨_,ReadsW.list ho hc hd hr⟩
 | .tuple ds,_,_,x,r=>by
  cases x with
  |dC hs ha=>
   cases r
   obtain ⟨its,o,n,rv,ho,hc,hd⟩:=Ox fD KX hs
   obtain ⟨as,hr⟩:=Dw.yJ fD KX ds _ its ha rv
   exact ⟨_,ReadsW.tuple ho hc hd hr⟩
 | .float _,_,_,x,_=>by cases x
 | .dict _,_,_,x,_=>by cases x
 | .bytearray _,_,_,x,_=>by cases x
 | .set _,_,_,x,_=>by cases x
 | .frozenset _,_,_,x,_=>by cases x
 | .obj _ _,_,_,x,_=>by cases x
theorem Dw.yJ (fD:rP P w H h) (KX:K.In h):∀(ds:List WData) (vs:List V) (us:List Value),qY K H vs ds->c7 vs us->∃as,ReadsAllW R cl h us ds as
 |[],_,_,x,r=>by
  cases x
  cases r
  exact ⟨_,ReadsAllW.nil⟩
 |d::ds,_,_,x,r=>by
  cases x with
  |cons h1 h2=>
   cases r with
   |cons r1 r2=>
    obtain ⟨as,q1⟩:=Dw.Nb fD KX d _ _ h1 r1
    obtain ⟨bs,q2⟩:=Dw.yJ fD KX ds _ _ h2 r2
    exact ⟨_,ReadsAllW.cons q1 q2⟩
end
end
mutual
def F7:WData->Bool
 | .none=>true
 | .bool _=>true
 | .int _=>true
 | .str _=>true
 | .bytes _=>true
 | .list xs=>xC xs
 | .tuple xs=>xC xs
 |_=>false
def xC:List WData->Bool
 |[]=>true
 |x::r=>F7 x&&xC r
end
theorem DC {α:Type} {f:α->WData} (h:∀a,F7 (f a)=true):∀l:List α,xC (l.map f)=true
 |[]=>rfl
 |x::r=>by
  show (F7 (f x)&&xC (r.map f))=true
  rw [h x,DC h r]<;>rfl
theorem sH:∀(c:Codec) (a:c.denote),F7 (c.enc a)=true
 | .unit,_=>rfl
 | .bool,_=>rfl
 | .int _ _,_=>rfl
 | .nat _ _,_=>rfl
 | .u8,_=>rfl
 | .bytes _ _,_=>rfl
 | .text _ _ _ _,_=>rfl
 | .list _ _ c,a=>DC (λx=>sH c x) a
 | .pair c d,a=>by
  show (F7 (c.enc a.1)&&(F7 (d.enc a.2)&&true))=true
  rw [sH c a.1,sH d a.2]<;>rfl
 | .triple c d e,a=>by
  show (F7 (c.enc a.1)&&(F7 (d.enc a.2.1)&&(F7 (e.enc a.2.2)&&true)))=true
  rw [sH c a.1,sH d a.2.1,sH e a.2.2]<;>rfl
 | .option c,none=>rfl
 | .option c,some x=>sH c x
theorem Ab:∀(cs:List Codec) (a:Codec.denoteAll cs),xC (Codec.encAll cs a)=true
 |[],_=>rfl
 |c::cs,a=>by
  show (F7 (c.enc a.1)&&xC (Codec.encAll cs a.2))=true
  rw [sH c a.1,Ab cs a.2]<;>rfl
theorem uC:∀{xs:List WData} {d:WData},d∈xs->d.weight<=WData.weightAll xs
 |[],d,h=>absurd h (by simp)
 |x::r,d,h=>by
  show d.weight<=x.weight+1+WData.weightAll r
  rcases aX.mp h with e|m
  ·rw [e]
   lia
  ·have z:=uC m
   lia
def DX:Value->V
 | .none=> .ll
 | .bool b=> .bl b
 | .int i _=> .int i
 | .str x _=> .str x
 | .bytes b _=> .Cg b
 | .ref a=> .ref a
 |_=> .ll
def Hl (A:List Addr):Value->Prop
 | .none=>True
 | .bool _=>True
 | .int _ _=>True
 | .str _ _=>True
 | .bytes _ _=>True
 | .ref a=>a∈A
 |_=>False
theorem Hl.bY {A B:List Addr} (h:∀a∈A,a∈B):∀{u:Value},Hl A u->Hl B u:=λ{u} x=>by
 cases u with
 |ref a=>exact h a x
 |none=>trivial
 |bool b=>trivial
 |int i t=>trivial
 |str s t=>trivial
 |bytes b t=>trivial
 |_=>exact False.elim x
theorem Kl {A:List Addr} {u:Value} (x:Hl A u):dP (DX u) u:=by
 cases u with
 |ref a=>rfl
 |none=>rfl
 |bool b=>rfl
 |int i t=>exact ⟨t,rfl⟩
 |str s t=>exact ⟨t,rfl⟩
 |bytes b t=>exact ⟨t,rfl⟩
 |_=>exact False.elim x
theorem p0 {A:List Addr}:∀{vs:List Value},(∀u∈vs,Hl A u)->c7 (vs.map DX) vs
 |[],_=> .nil
 |u::r,h=> .cons (Kl (h u (aP ..))) (p0 λx hx=>h x (aE _ hx))
def q5 (h:Heap) (A:List Addr) (a:Addr):Prop:=∃vs:List Value,vs.length<=sizeLine/\(∀u∈vs,Hl A u)/\
 (h.get? a=some {cls:= .type "list",data:= .seq vs.toArray}\/h.get? a=some {cls:= .type "tuple",data:= .seq vs.toArray})
theorem q5.bY {h:Heap} {A B:List Addr} {a:Addr} (k:∀a∈A,a∈B) (x:q5 h A a):q5 h B a:=by
 obtain ⟨vs,h1,h2,h3⟩:=x
 exact ⟨vs,h1,λu hu=>(h2 u hu).bY k,h3⟩
theorem oG {P:Params} {h:Heap}:∀{vs:List Value} {ds:List WData},WellAll P h vs ds->vs.length=ds.length
 |_,_,.nil=>rfl
 |_,_,.cons _ b=>by
  show _+1=_+1
  rw [oG b]
theorem zM {P:Params} {h:Heap} {v:Value} {ds:List WData} (x:Well P h v (.list ds)):∃(a:Addr) (vs:List Value),v= .ref a/\h.get? a=some {cls:= .type "list",data:= .seq vs.toArray}/\WellAll P h vs ds:=by
 cases x with
 |list ho hall=>exact ⟨_,_,rfl,ho,hall⟩
theorem y4 {P:Params} {h:Heap} {v:Value} {ds:List WData} (x:Well P h v (.tuple ds)):∃(a:Addr) (vs:List Value),v= .ref a/\h.get? a=some {cls:= .type "tuple",data:= .seq vs.toArray}/\WellAll P h vs ds:=by
 cases x with
 |tuple ho hall=>exact ⟨_,_,rfl,ho,hall⟩
theorem Ag {P:Params} {h:Heap} {us:List Value} {d:WData} {ds:List WData} (x:WellAll P h us (d::ds)):∃(v:Value) (vs:List Value),us=v::vs/\Well P h v d/\WellAll P h vs ds:=by
 cases x with
 |cons a b=>exact ⟨_,_,rfl,a,b⟩
theorem Gb {n:Nat} (h:n<=1048576):n<=sizeLine:=bg h (by decide)
section
variable {P:Params} {h:Heap}
mutual
theorem Kt:∀(d:WData) (v:Value),Well P h v d->F7 d=true->d.weight<=1048576->∃A:List Addr,Hl A v/\∀a∈A,q5 h A a
 | .none,_,x,_,_=>by
  cases x
  exact ⟨[],trivial,λa m=>absurd m (by simp)⟩
 | .bool b,_,x,_,_=>by
  cases x
  exact ⟨[],trivial,λa m=>absurd m (by simp)⟩
 | .int i,_,x,_,_=>by
  cases x
  exact ⟨[],trivial,λa m=>absurd m (by simp)⟩
 | .str s,_,x,_,_=>by
  cases x
  exact ⟨[],trivial,λa m=>absurd m (by simp)⟩
 | .bytes b,_,x,_,_=>by
  cases x
  exact ⟨[],trivial,λa m=>absurd m (by simp)⟩
 | .list ds,_,x,p,z=>by
  obtain ⟨a,vs,rfl,ho,hall⟩:=zM x
  have z2:WData.weightAll ds<=1048576:=z
  obtain ⟨A,h1,h2⟩:=vm ds _ hall p λd hd=>bg (uC hd) z2
  have k:∀b∈A,b∈a::A:=λb hb=>aE _ hb
  refine ⟨a::A,aP ..,λb hb=> ?_⟩
  rcases aX.mp hb with e|m
  ·rw [e]
   exact ⟨vs,Gb (by rw [oG hall];exact bg (PySem.W.length_le_weightAllW ds) z2),λu hu=>(h1 u hu).bY k,.inl ho⟩
  ·exact (h2 b m).bY k
 | .tuple ds,_,x,p,z=>by
  obtain ⟨a,vs,rfl,ho,hall⟩:=y4 x
  have z2:WData.weightAll ds<=1048576:=z
  obtain ⟨A,h1,h2⟩:=vm ds _ hall p λd hd=>bg (uC hd) z2
  have k:∀b∈A,b∈a::A:=λb hb=>aE _ hb
  refine ⟨a::A,aP ..,λb hb=> ?_⟩
  rcases aX.mp hb with e|m
  ·rw [e]
   exact ⟨vs,Gb (by rw [oG hall];exact bg (PySem.W.length_le_weightAllW ds) z2),λu hu=>(h1 u hu).bY k,.inr ho⟩
  ·exact (h2 b m).bY k
 | .float _,_,_,p,_=>Bool.noConfusion (show false=true from p)
 | .dict _,_,_,p,_=>Bool.noConfusion (show false=true from p)
 | .bytearray _,_,_,p,_=>Bool.noConfusion (show false=true from p)
 | .set _,_,_,p,_=>Bool.noConfusion (show false=true from p)
 | .frozenset _,_,_,p,_=>Bool.noConfusion (show false=true from p)
 | .obj _ _,_,_,p,_=>Bool.noConfusion (show false=true from p)
theorem vm:∀(ds:List WData) (vs:List Value),WellAll P h vs ds->xC ds=true->(∀d∈ds,d.weight<=1048576)->∃A:List Addr,(∀u∈vs,Hl A u)/\∀a∈A,q5 h A a
 |[],_,x,_,_=>by
  cases x
  exact ⟨[],λu m=>absurd m (by simp),λa m=>absurd m (by simp)⟩
 |d::ds,_,x,p,z=>by
  obtain ⟨v,vs,rfl,x1,x2⟩:=Ag x
  have q:F7 d=true/\xC ds=true:=rE.mp p
  obtain ⟨A,a1,a2⟩:=Kt d v x1 q.1 (z d (aP ..))
  obtain ⟨B,b1,b2⟩:=vm ds vs x2 q.2 λe he=>z e (aE _ he)
  have kA:∀b∈A,b∈A++B:=λb hb=>aI.mpr (.inl hb)
  have kB:∀b∈B,b∈A++B:=λb hb=>aI.mpr (.inr hb)
  refine ⟨A++B,λu hu=> ?_,λb hb=> ?_⟩
  ·rcases aX.mp hu with e|m
   ·rw [e]
    exact a1.bY kA
   ·exact (b1 u m).bY kB
  ·rcases aI.mp hb with m|m
   ·exact (a2 b m).bY kA
   ·exact (b2 b m).bY kB
end
end
def Lq (o:Obj):Option HO:=match o.data with
 | .seq vs _=>if (o.cls==Value.type "list")=true then some (.BP o (.a6 (vs.toList.map DX))) else some (.BP o (.dC (vs.toList.map DX)))
 |_=>none
def qr (K:PySem.W.Frag) (h:Heap) (A:List Addr):Hp:=λb=>if b∈A then (if (K.lookup b).isNone=true then (h.get? b).bind Lq else none) else none
def Dy (H:Hp):Prop:=∀b,H b=none\/∃o u,H b=some (.BP o u)
theorem Cz (vs:List Value):Lq {cls:= .type "list",data:= .seq vs.toArray}=some (.BP {cls:= .type "list",data:= .seq vs.toArray} (.a6 (vs.map DX))):=by
 show (if (Value.type "list"==Value.type "list")=true then some (HO.BP {cls:= .type "list",data:= .seq vs.toArray} (.a6 (vs.toArray.toList.map DX))) else some (HO.BP {cls:= .type "list",data:= .seq vs.toArray} (.dC (vs.toArray.toList.map DX))))=_
 rw [aA (jc _)]
theorem CM (vs:List Value):Lq {cls:= .type "tuple",data:= .seq vs.toArray}=some (.BP {cls:= .type "tuple",data:= .seq vs.toArray} (.dC (vs.map DX))):=by
 show (if (Value.type "tuple"==Value.type "list")=true then some (HO.BP {cls:= .type "tuple",data:= .seq vs.toArray} (.a6 (vs.toArray.toList.map DX))) else some (HO.BP {cls:= .type "tuple",data:= .seq vs.toArray} (.dC (vs.toArray.toList.map DX))))=_
 rw [au (by decide)]
section
variable {P:Program} {w:World} {K:PySem.W.Frag} {h:Heap} {A:List Addr}
theorem yd {b:Addr} {o:Obj} (hb:b∈A) (hk:K.lookup b=none) (e:h.get? b=some o):qr K h A b=Lq o:=by
 unfold qr
 rw [aA hb,hk,aA (show (none:Option Obj).isNone=true from rfl),e]<;>rfl
theorem Ln {b:Addr} {u:HO} (q:qr K h A b=some u):b∈A/\K.lookup b=none:=by
 unfold qr at q
 by_cases hb:b∈A
 ·rw [aA hb] at q
  cases hk:K.lookup b with
  |none=>exact ⟨hb,rfl⟩
  |some o=>
   rw [hk,au (by simp)] at q
   cases q
 ·rw [au hb] at q
  cases q
theorem xO (ar:∀a∈A,q5 h A a) {b:Addr} {u:HO} (q:qr K h A b=some u):K.lookup b=none/\∃vs:List Value,vs.length<=sizeLine/\(∀u∈vs,Hl A u)/\
  ((h.get? b=some {cls:= .type "list",data:= .seq vs.toArray}/\u= .BP {cls:= .type "list",data:= .seq vs.toArray} (.a6 (vs.map DX)))\/
   (h.get? b=some {cls:= .type "tuple",data:= .seq vs.toArray}/\u= .BP {cls:= .type "tuple",data:= .seq vs.toArray} (.dC (vs.map DX)))):=by
 obtain ⟨hb,hk⟩:=Ln q
 obtain ⟨vs,h1,h2,h3⟩:=ar b hb
 refine ⟨hk,vs,h1,h2,?_⟩
 rcases h3 with e|e
 ·rw [yd hb hk e,Cz] at q
  exact .inl ⟨e,(Option.some.inj q).symm⟩
 ·rw [yd hb hk e,CM] at q
  exact .inr ⟨e,(Option.some.inj q).symm⟩
theorem G6 (ar:∀a∈A,q5 h A a):Dy (qr K h A):=λb=>by
 cases q:qr K h A b with
 |none=>exact .inl rfl
 |some u=>
  obtain ⟨_,vs,_,_,⟨_,e⟩|⟨_,e⟩⟩:=xO ar q
  ·exact .inr ⟨_,_,by rw [e]⟩
  ·exact .inr ⟨_,_,by rw [e]⟩
theorem Lx (ar:∀a∈A,q5 h A a):rP P w (qr K h A) h:=λb u q=>by
 obtain ⟨_,vs,h1,h2,⟨e,rfl⟩|⟨e,rfl⟩⟩:=xO ar q
 ·exact ⟨e,by rw [af];exact h1,vs,_,p0 h2,e⟩
 ·exact ⟨e,by rw [af];exact h1,vs,p0 h2,_,e,rfl,_,rfl⟩
theorem xX {c c':Value} {vs us:List Value} (e:(some {cls:=c,data:= .seq vs.toArray}:Option Obj)=some {cls:=c',data:= .seq us.toArray}):c=c'/\vs=us:=by
 have e1:=Option.some.inj e
 have e2:c=c':=cS Obj.cls e1
 have e3:Data.seq vs.toArray=Data.seq us.toArray:=cS Obj.data e1
 injection e3 with e4
 refine ⟨e2,?_⟩
 have e5:=cS Array.toList e4
 simpa using e5
theorem Wl (KX:K.In h) (ar:∀a∈A,q5 h A a) {a:Addr} {vs:List Value} (ha:a∈A) (e:h.get? a=some {cls:= .type "list",data:= .seq vs.toArray}):(∀u∈vs,Hl A u)/\cE K (qr K h A) a (vs.map DX):=by
 obtain ⟨us,h1,h2,h3⟩:=ar a ha
 have hu:us=vs:=by
  rcases h3 with q|q
  ·rw [e] at q
   exact (xX q).2.symm
  ·rw [e] at q
   exact absurd (Value.type.inj (xX q).1) (by decide)
 subst hu
 refine ⟨h2,?_⟩
 cases hk:K.lookup a with
 |none=>exact .inl (.inr ⟨_,by rw [yd ha hk e,Cz]⟩)
 |some o=>
  have e2:=KX a o hk
  rw [e] at e2
  obtain rfl:=Option.some.inj e2
  exact .inr ⟨_,us.toArray,_,hk,rfl,rfl,rfl,by rw [ba];exact h1,by simpa using p0 h2⟩
theorem WJ (KX:K.In h) (ar:∀a∈A,q5 h A a) {a:Addr} {vs:List Value} (ha:a∈A) (e:h.get? a=some {cls:= .type "tuple",data:= .seq vs.toArray}):(∀u∈vs,Hl A u)/\kY K (qr K h A) a (vs.map DX):=by
 obtain ⟨us,h1,h2,h3⟩:=ar a ha
 have hu:us=vs:=by
  rcases h3 with q|q
  ·rw [e] at q
   exact absurd (Value.type.inj (xX q).1) (by decide)
  ·rw [e] at q
   exact (xX q).2.symm
 subst hu
 refine ⟨h2,?_⟩
 cases hk:K.lookup a with
 |none=>exact .inl (.inr ⟨_,by rw [yd ha hk e,CM]⟩)
 |some o=>
  have e2:=KX a o hk
  rw [e] at e2
  obtain rfl:=Option.some.inj e2
  exact .inr ⟨_,us.toArray,_,hk,rfl,rfl,by rw [ba];exact h1,by simpa using p0 h2⟩
mutual
theorem NK {Pm:Params} (KX:K.In h) (ar:∀a∈A,q5 h A a):∀(d:WData) (v:Value),Well Pm h v d->F7 d=true->Hl A v->Dw K (qr K h A) (DX v) d
 | .none,_,x,_,_=>by
  cases x
  exact .ll
 | .bool b,_,x,_,_=>by
  cases x
  exact .bl b
 | .int i,_,x,_,_=>by
  cases x
  exact .int i
 | .str s,_,x,_,_=>by
  cases x
  exact .str s
 | .bytes b,_,x,_,_=>by
  cases x
  have z:=Dw.Cg (K:=K) (H:=qr K h A) b.toArray
  exact z
 | .list ds,_,x,p,hu=>by
  obtain ⟨a,vs,rfl,ho,hall⟩:=zM x
  obtain ⟨h2,hs⟩:=Wl KX ar hu ho
  exact .a6 hs (AQ KX ar ds _ hall p h2)
 | .tuple ds,_,x,p,hu=>by
  obtain ⟨a,vs,rfl,ho,hall⟩:=y4 x
  obtain ⟨h2,hs⟩:=WJ KX ar hu ho
  exact .dC hs (AQ KX ar ds _ hall p h2)
 | .float _,_,_,p,_=>Bool.noConfusion (show false=true from p)
 | .dict _,_,_,p,_=>Bool.noConfusion (show false=true from p)
 | .bytearray _,_,_,p,_=>Bool.noConfusion (show false=true from p)
 | .set _,_,_,p,_=>Bool.noConfusion (show false=true from p)
 | .frozenset _,_,_,p,_=>Bool.noConfusion (show false=true from p)
 | .obj _ _,_,_,p,_=>Bool.noConfusion (show false=true from p)
theorem AQ {Pm:Params} (KX:K.In h) (ar:∀a∈A,q5 h A a):∀(ds:List WData) (vs:List Value),WellAll Pm h vs ds->xC ds=true->(∀u∈vs,Hl A u)->qY K (qr K h A) (vs.map DX) ds
 |[],_,x,_,_=>by
  cases x
  exact .nil
 |d::ds,_,x,p,hu=>by
  obtain ⟨v,vs,rfl,x1,x2⟩:=Ag x
  have q:F7 d=true/\xC ds=true:=rE.mp p
  exact .cons (NK KX ar d v x1 q.1 (hu _ (aP ..))) (AQ KX ar ds vs x2 q.2 λu m=>hu u (aE _ m))
end
end
theorem Ig {P:Program} {w:World} {K:PySem.W.Frag} {mg mb:Str->Option Value} {CX:JP} {k:Nat} {fa:Addr} {fd:FuncData} {ps:List Str} {sp:Sp} {s₁:Shared} {tJ:List Value} {ds:List WData} {R:PySem.W.WRecords} {cl:Str->Option Addr} {d0:WData}
  (KX:K.In s₁.heap) (hns:s₁.heap.Ns mainGlobals mg) (hb:s₁.heap.Ns builtinsNs mb) (hbb:∀x:Str,x≠"__name__"->mb x=bootBuiltins x) (hlim:s₁.heap.NoLimit) (hg:s₁.gens= #[])
  (hwl:WellAll w.params s₁.heap tJ ds) (hpl:xC ds=true) (hwt:∀d∈ds,d.weight<=1048576) (hr:jE k callerA)
  (F:∀base:Heap,K.In base->base.Ns mainGlobals mg->pQ P w K mg base CX k fa fd ps sp) (hbind:∀(s:Shared) (us:List Value),us.length=ps.length->BindsTo s fd ⟨us,[]⟩ (ps.zip us)) (hlen:ds.length=ps.length)
  (hsp:∀(H:Hp) (xs:List V),Dy H->qY K H xs ds->sp xs H (λv H'=>Dw K H' v d0) λ_ _ _=>False)
  (hCX:∀H e s',CX [] H s₁ (λ_ _ _=>False) e s'->False):
  codeAny (model P w) callerA (.call (.ref fa) ⟨tJ,[]⟩) (λr s'=>∃u as,r= .ok (.ret u)/\ReadsW R cl s'.heap u d0 as/\OldK s₁.heap s'.heap/\s'.os=s₁.os/\AllBare s'.gens) s₁:=by
 obtain ⟨A,ho,ar⟩:=vm ds tJ hwl hpl hwt
 have hO:Dy (qr K s₁.heap A):=G6 ar
 have fD:rP P w (qr K s₁.heap A) s₁.heap:=Lx ar
 have hS:=AQ KX ar ds tJ hwl hpl ho
 have hV:=p0 ho
 have hK:∀b u,qr K s₁.heap A b=some u->K.lookup b=none:=λb u q=>(xO ar q).1
 have noA:∀{b:Addr} {o:Obj} {es:Array DictEntry} {ep:Nat},s₁.heap.get? b=some o->o.data= .dict es ep->qr K s₁.heap A b=none:=λ{b o es ep} e d=>by
  cases q:qr K s₁.heap A b with
  |none=>rfl
  |some u=>
   obtain ⟨_,vs,_,_,⟨e2,_⟩|⟨e2,_⟩⟩:=xO ar q
   ·rw [e2] at e
    cases e
    have d':Data.seq vs.toArray _=Data.dict es ep:=d
    cases d'
   ·rw [e2] at e
    cases e
    have d':Data.seq vs.toArray _=Data.dict es ep:=d
    cases d'
 generalize qr K s₁.heap A=H at hO fD hS hK noA
 have base_of:∀{b:Addr} {o:Obj},s₁.heap.get? b=some o->H b=none->(Bs s₁.heap H).get? b=some o:=λe n=>I0 e n
 have nsK:∀{b:Addr} {m:Str->Option Value},s₁.heap.Ns b m->(Bs s₁.heap H).Ns b m:=λ{b m} ⟨o,es,ep,e,d,r⟩=>⟨o,es,ep,base_of e (noA e d),d,r⟩
 have nK:∀b o,K.lookup b=some o->H b=none:=λb o e=>by
  cases q:H b with
  |none=>rfl
  |some u=>
   rw [hK b u q] at e
   cases e
 have hKb:K.In (Bs s₁.heap H):=λb o e=>base_of (KX b o e) (nK b o e)
 have hM:Mod K mg (Bs s₁.heap H):=⟨hKb,nsK hns,⟨mb,nsK hb,hbb⟩,let ⟨mc,h1,h2⟩:=hlim;⟨mc,nsK h1,h2⟩⟩
 have e0:Ed P w K mg (Bs s₁.heap H) callerA [] s₁ H:=⟨rfl,hM,λb o e=>L0 e,qe (Hk _ _),trivial,λb hb=>absurd (show b∈([]:List Addr) from hb) (by simp),fD,.of_eq hg⟩
 have hl:tJ.length=ps.length:=by rw [oG hwl];exact hlen
 refine gE ((F _ hKb (nsK hns)).V7 callerA [] s₁ H ⟨tJ,[]⟩ tJ (tJ.map DX) _ _ hr e0 (hbind s₁ tJ hl) hV (hsp H _ hO hS)) λr s' x=> ?_
 cases r with
 |error e=>exact (hCX H e s' x).elim
 |ok fl=>
  cases fl with
  |next=>exact False.elim x
  |brk=>exact False.elim x
  |cont=>exact False.elim x
  |ret u=>
   obtain ⟨v,H',os,bare,un,hok',r',q⟩:=x
   have k0:∀b o,s₁.heap.get? b=some o->s'.heap.get? b=some o:=λb o e=>by
    cases q2:H b with
    |none=>exact un.keep b o e q2 (by intro z;exact absurd (show b∈([]:List Addr) from z) (by simp)) (by simp)
    |some u2=>
     rcases hO b with z|⟨ob,u3,z⟩
     ·rw [q2] at z
      cases z
     ·have z2:=un.BN b ob _ z
      obtain ⟨e1,_⟩:=fD b _ z
      obtain ⟨e2,_⟩:=hok' b _ z2
      rw [e] at e1
      cases e1
      exact e2
   have KX':K.In s'.heap:=λb o e=>k0 b o (KX b o e)
   obtain ⟨as,hrd⟩:=Dw.Nb (R:=R) (cl:=cl) hok' KX' d0 v u q r'
   exact ⟨u,as,rfl,hrd,OldK.of_keep k0,os,bare⟩
theorem yp {ds:List WData} (h:WData.layableAll ds=true):∀d∈ds,d.weight<=1048576:=λd hd=>
 (PySem.W.layableW_iff.mp (dE.mp h d hd)).2.2
theorem yq:∀(cs:List Codec) (a:Codec.denoteAll cs),(Codec.encAll cs a).length=cs.length
 |[],_=>rfl
 |c::cs,a=>by
  show (Codec.encAll cs a.2).length+1=cs.length+1
  rw [yq cs a.2]
theorem G7 {r:OpenSpec} {k:Nat} {q:Program} {loose:List Str} {XP:(Str->Option Value)->Heap->Prop} {YP:World->Heap->Prop} {d:DefRec} {K:Params->PySem.W.Frag} {CX:World->JP} {ps:List Str} {sp:World->Sp}
  (hwell:r.wellSaid=true) (hdf:d.params.defaults=[]) (hlen:r.args.length=ps.length) (hr:jE k callerA)
  (hY:∀(w:World) (h:Heap),YP w h->(K w.params).In h)
  (F:∀(w:World) (mg:Str->Option Value) (fa:Addr) (h:Heap),YP w h->(K w.params).In h->h.Ns mainGlobals mg->mg d.name=some (.ref fa)->
   ∃fd:FuncData,(∀(s:Shared) (us:List Value),us.length=ps.length->BindsTo s fd ⟨us,[]⟩ (ps.zip us))/\
    ∀base:Heap,(K w.params).In base->base.Ns mainGlobals mg->pQ r.prog w (K w.params) mg base (CX w) k fa fd ps (sp w))
  (hsp:∀(w:World) (H:Hp) (xs:List V) (a:Codec.denoteAll r.args),Dy H->Codec.withinAll r.args a=true->Codec.app r.args r.asked a=true->qY (K w.params) H xs (Codec.encAll r.args a)->
   sp w xs H (λv H'=>Dw (K w.params) H' v (r.ret.enc (Codec.app r.args r.f a))) λ_ _ _=>False)
  (hCX:∀(w:World) (H:Hp) (s:Shared) (e:Value) (s':Shared),CX w [] H s (λ_ _ _=>False) e s'->False):
  PySem.W.WalkOS q loose XP YP r d [] (λf vs=>PySem.call f vs):=by
 intro w Aq s₁ mg mb G Y fa o pm cd doc dV kV ho hd hcd hD hmg hg args tJ as hpre hlay hrd hwl hlo
 obtain ⟨a,e1,e2⟩:=PySem.W.os_pre_some hpre
 obtain ⟨e3,hwi⟩:=Codec.encAll_of_decAll r.args args a e1
 subst e3
 have KX:=hY w _ Y
 obtain ⟨fd,hb,hF⟩:=F w mg fa _ Y KX G.T.g hmg
 refine PySem.W.enter_call (gE (Ig (R:=[]) (cl:=classAt Aq.heap) (d0:=r.ret.enc (Codec.app r.args r.f a)) KX G.T.g G.T.b G.T.builtins G.T.nolimit hg hwl (Ab _ _) (yp hlay) hr hF hb (by rw [yq];exact hlen)
  (λH xs hO hS=>hsp w H xs a hO hwi e2 hS) λH e s'=>hCX w H s₁ e s') λr' s' hq=> ?_)
 obtain ⟨u,as',rfl,h1,h2,h3,h4⟩:=hq
 exact ⟨.inl ⟨u,_,as',rfl,λ_=>rfl,h1,(OpenSpec.post_iff hwell hwi _ _).mpr rfl,λz=>Bool.noConfusion (show false=true from z)⟩,h2,h3,h4⟩
theorem NS {r:OpenSpec} {k:Nat} {q:Program} {loose:List Str} {XP:(Str->Option Value)->Heap->Prop} {YP:World->Heap->Prop} {d:DefRec} {K:Params->PySem.W.Frag} {CX:JP} {ps:List Str} {sp:PySem.W.Frag->Sp}
  (hwell:r.wellSaid=true) (hdf:d.params.defaults=[]) (hlen:r.args.length=ps.length) (hr:jE k callerA)
  (hY:∀(w:World) (h:Heap),YP w h->(K w.params).In h)
  (F:∀(w:World) (mg:Str->Option Value) (fa:Addr) (h:Heap),YP w h->(K w.params).In h->h.Ns mainGlobals mg->mg d.name=some (.ref fa)->
   ∃fd:FuncData,(∀(s:Shared) (us:List Value),us.length=ps.length->BindsTo s fd ⟨us,[]⟩ (ps.zip us))/\
    ∀base:Heap,(K w.params).In base->base.Ns mainGlobals mg->pQ r.prog w (K w.params) mg base CX k fa fd ps (sp (K w.params)))
  (hsp:∀(K:PySem.W.Frag) (H:Hp) (xs:List V) (a:Codec.denoteAll r.args),Dy H->Codec.withinAll r.args a=true->Codec.app r.args r.asked a=true->qY K H xs (Codec.encAll r.args a)->
   sp K xs H (λv H'=>Dw K H' v (r.ret.enc (Codec.app r.args r.f a))) λ_ _ _=>False)
  (hCX:∀(H:Hp) (s:Shared) (e:Value) (s':Shared),CX [] H s (λ_ _ _=>False) e s'->False):
  PySem.W.WalkOS q loose XP YP r d [] (λf vs=>PySem.call f vs):=
 G7 (K:=K) (CX:=λ_=>CX) (sp:=λw=>sp (K w.params)) hwell hdf hlen hr hY F (λw H xs a h1 h2 h3 h4=>hsp (K w.params) H xs a h1 h2 h3 h4) λ_ H s e s'=>hCX H s e s'
end L2
end
section
namespace L2
open PySem PySem.Spec PyProof.Rows
section
variable {X:Cx}
def Kk (K:PySem.W.Frag):V->List V->Hp->VK->Prop:=λx xs H Q=>∃(a:Addr) (ys:List V) (y:V),x=V.ref a/\xs=[y]/\cE K H a ys/\nL y=true/\ys.all nL=true/\Q (.int ((ys.countP λz=>Cd z y:Nat):Int)) H
theorem HW:M8 X "list.count" (Kk X.K):=by
 intro pins s σ H x xs v us Q I rx rxs h
 obtain ⟨a,ys,y,rfl,rfl,hs,fy,fys,q⟩:=h
 cases rx
 cases rxs with
 |cons ry rt=>
  rename_i uy ut
  cases rt
  obtain ⟨its,rv,⟨⟨cls,dd,data,sl⟩,n,ho,hc,hdn,hd⟩,hlen⟩:=I.list hs
  simp only at hc hd
  subst hc hd
  refine qh j2 ⟨_,ho,rfl⟩ PySem.F.entry_list_count (PySem.F.args_list_count_2 _ _)
   (SeqAt.list_countAt a its.toArray n dd sl uy (HY y)) ⟨ho,λu' hu'=>rQ ry fy rv fys u' (by simpa using hu'),?_⟩
  have e:its.countP (HY y)=ys.countP λz=>Cd z y:=by
   clear hlen ho q hs hdn
   induction rv with
   |nil=>rfl
   | @cons p u ps us' r t ih=>
    rw [oR,aR] at fys
    rw [c8,c8,ih fys.2,yK r fys.1]
  refine ⟨.int _,H,I.uR _,⟨_,rfl⟩,?_⟩
  show Q (.int ((its.toArray.toList.countP (HY y):Nat):Int)) H
  rw [show its.toArray.toList=its from rfl,e]
  exact q
theorem z7 {α β:Type} {F:α->β->Prop}:∀{l₁:List α} {l₂:List β} {i:Nat} {p:α},Paired F l₁ l₂->l₁[i]? =some p->∃q,l₂[i]? =some q/\F p q
 |_,_,_,_,.nil,h=>by simp at h
 |_,_,0,_,.cons r t,h=>⟨_,rfl,by have:=Option.some.inj h;subst this;exact r⟩
 |_,_,i+1,_,.cons r t,h=>z7 (i:=i) t h
theorem FC:∀(l:List Value) (ns:List Int),l.length=ns.length->(∀(i:Nat) (v:Value),l[i]? =some v->∃t,v=Value.int (ns.getD i 0) t)->IntsAre l ns
 |[],[],_,_=> .nil
 |[],_::_,h,_=>by cases h
 |_::_,[],h,_=>by cases h
 |v::l,z::ns,h,k=>by
  obtain ⟨t,e⟩:=k 0 v rfl
  subst e
  exact .cons z t (FC l ns (by simpa using h) λi u hu=>k (i+1) u hu)
def Jf:List V->Hp->VK->Prop:=λvs H Q=>∃(a:Addr) (kvs:List (iq×V)) (ns:List Int),vs=[V.ref a]/\H a=some (.dK kvs)/\kvs.map (·.1)=ns.map Sum.inl/\ns.length< 64/\
 ∀(ns':List Int) (p:Addr),ns'.Perm ns->ns'.Pairwise (·<=·)->H p=none->Q (.ref p) (bG H p (.a6 (ns'.map V.int)))
theorem Ej (hc:X.oq=true):hJ X (.builtin "sorted") Jf:=by
 intro pins s σ H vs us Q I r h
 obtain ⟨a,kvs,ns,rfl,ha,hk,h64,q⟩:=h
 rw [c7.Bo r]
 obtain ⟨hz,hS,vs0,rk,dd⟩:=Jy I.fD ha
 obtain ⟨ep,hat⟩:=dd.dictAt
 have hlen:kvs.length=vs0.length:=Paired.length rk
 have hlen2:kvs.length=ns.length:=by
  have:=cS List.length hk
  simpa using this
 refine om kind_sorted plain_sorted entry_sorted (args_sorted1 _) ?_
 unfold Builtin.«sorted»
 refine ag (m:=checkCount "sorted" 1 1 _) (aH ?_)
 refine ag (PySem.W.kdu_collect (A:=X.A.in1) (PySem.W.kdl_dict (knd:=f9 X.prog X.w) (kvs:=vs0) (ep:=ep) hS) (I.ok.hd hc) hat (by rw [<-hlen];exact hz) λh' tk acc hk' hacc=> ?_)
 have hl:acc.toList.length=vs0.length:=by rw [cY];exact hacc.1
 have hz2:acc.toList.length<=sizeLine:=by rw [hl,<-hlen];exact hz
 refine ag (wpAny_newList ?_ hz2)
 have hI:IntsAre acc.toList ns:=by
  have key:∀(i:Nat) (v:Value),acc.toList[i]? =some v->∃t,v=Value.int (ns.getD i 0) t:=λi v hv=>by
   obtain ⟨k,x,hkx,his⟩:=hacc.2 i v (by rw [<-dg];exact hv)
   have hi:i< vs0.length:=(ae.mp hkx).1
   have e1:(kvs.map (·.1))[i]? =some k:=by
    clear hat
    obtain ⟨p,hp⟩:∃p,kvs[i]? =some p:=⟨_,ab (by lia)⟩
    obtain ⟨q2,hq2,e,_⟩:=z7 rk hp
    rw [hkx] at hq2
    cases hq2
    rw [ay,hp]
    show some p.1=some k
    rw [e]
   rw [hk,ay] at e1
   cases e2:ns[i]? with
   |none=>rw [e2] at e1;cases e1
   |some z=>
    rw [e2] at e1
    have e3:Sum.inl z=k:=Option.some.inj e1
    subst e3
    rcases gg (show y8 (Sum.inl z) v=true from his) with ⟨j,t,e4,rfl⟩|⟨y,t,e4,_⟩
    ·have:=Sum.inl.inj e4
     subst this
     refine ⟨t,?_⟩
     rw [dA,e2]
     rfl
    ·cases e4
  exact FC acc.toList ns (by rw [hl,<-hlen,hlen2]) key
 show wpAny _ _ _ _ _ {s with heap:=h'.push (seqObj "list" acc.toList.toArray 0),toks:=tk}
 have hoL:(h'.push (seqObj "list" acc.toList.toArray 0)).get? h'.objs.size=some (seqObj "list" acc.toList.toArray 0):=aZ _ rfl
 refine ag (fw (eO slot_list_sort ⟨_,hoL,rfl⟩ entry_list_sort (list_sort_tree hoL hI (by rw [hl,<-hlen,hlen2];exact h64) λout ns' a1 a2 a3=>⟨_,rfl,?_⟩) (args_list_sort _)))
 refine aH ⟨_,rfl,?_⟩
 obtain ⟨ep2,he'⟩:=sortedHeap_at (vs:=acc.toList) (out:=out) hoL
 have I2:cV X pins σ H {s with heap:=h',toks:=tk}:=I.k0 hk'
 refine ⟨.ref h'.objs.size,bG H h'.objs.size (.a6 (ns'.map V.int)),I2.laid (t':=tk) (λb o e=> ?_) (aF _) ⟨?_,out.toList,ep2,mR a1,he'⟩,rfl,q ns' _ a2 a3 (I2.fD.fresh (aF _))⟩
 ·have e1:h'.get? b=some o:=e
  rw [sortedHeap_old (bO (bz e1)) (by rw [size_push'];exact dq (bz e1))]
  exact aD _ e1
 ·rw [af,a2.length_eq]
  exact xZ h64
end
end L2
end
section
namespace Qm
open Vbqzak
def Cc (U:List Nat) (R:Nat->Nat->Bool) (l:List Nat):List Nat:=U.filter λx=>l.contains x||l.any λy=>R x y
def mr (U:List Nat) (R:Nat->Nat->Bool):Nat->List Nat->List Nat
 |0,l=>l
 |k+1,l=>mr U R k (Cc U R l)
theorem lP {U:List Nat} {R:Nat->Nat->Bool} {l:List Nat} {x:Nat}:x∈Cc U R l↔x∈U/\(x∈l\/∃y∈l,R x y=true):=by
 unfold Cc
 rw [bU,bH,cn,cD]
theorem gC (U:List Nat) (R:Nat->Nat->Bool):∀(k:Nat) (l:List Nat),mr U R (k+1) l=Cc U R (mr U R k l)
 |0,_=>rfl
 |k+1,l=>by
  show mr U R (k+1) (Cc U R l)=Cc U R (mr U R k (Cc U R l))
  exact gC U R k (Cc U R l)
theorem mX {U:List Nat} {R:Nat->Nat->Bool} {l:List Nat} (hl:∀x∈l,x∈U):∀k,∀x∈mr U R k l,x∈U
 |0=>hl
 |k+1=>λx hx=>by
  rw [gC] at hx
  exact (lP.mp hx).1
theorem Ad {U:List Nat} {R:Nat->Nat->Bool} {l:List Nat} (hl:∀x∈l,x∈U) (k:Nat) {x:Nat} (hx:x∈mr U R k l):x∈mr U R (k+1) l:=by
 rw [gC]
 exact lP.mpr ⟨mX hl k x hx,.inl hx⟩
theorem J4 {U:List Nat} {R:Nat->Nat->Bool} {l:List Nat} (hl:∀x∈l,x∈U) {x:Nat} {k m:Nat} (h:k<=m) (hx:x∈mr U R k l):x∈mr U R m l:=by
 induction h with
 |refl=>exact hx
 |step _ ih=>exact Ad hl _ ih
theorem lz {U:List Nat} {R:Nat->Nat->Bool} {S:Nat->Prop} (hS:∀x y,x∈U->S y->R x y=true->S x):∀(k:Nat) (l:List Nat),(∀x∈l,S x)->∀x∈mr U R k l,S x
 |0,_,h=>h
 |k+1,l,h=>lz hS k (Cc U R l) λx hx=>by
  obtain ⟨hU,hx|⟨y,hy,hr⟩⟩:=lP.mp hx
  ·exact h x hx
  ·exact hS x y hU (h y hy) hr
theorem zX {U:List Nat} (hU:U.Nodup) (R:Nat->Nat->Bool) (l:List Nat):(Cc U R l).Nodup:=hU.sublist cK
theorem Ac {U:List Nat} {R:Nat->Nat->Bool} (hU:U.Nodup) {i:Nat} (hi:i∈U):∀k,(∀x∈Cc U R (mr U R (k+1) [i]),x∈mr U R (k+1) [i])\/k+1<=(mr U R (k+1) [i]).length
 |0=>by
  have hm:i∈mr U R 1 [i]:=Ad (by simpa using hi) 0 (by simp [mr])
  have h1:0< (mr U R 1 [i]).length:=ic hm
  exact .inr h1
 |k+1=>by
  by_cases hc:∀x∈Cc U R (mr U R (k+1) [i]),x∈mr U R (k+1) [i]
  ·left
   intro x hx
   rw [gC U R (k+1)] at hx ⊢
   have e:∀z,z∈Cc U R (mr U R (k+1) [i])↔z∈mr U R (k+1) [i]:=λz=>⟨hc z,λhz=>lP.mpr ⟨mX (by simpa using hi) _ z hz,.inl hz⟩⟩
   obtain ⟨P8,hx|⟨y,hy,hr⟩⟩:=lP.mp hx
   ·exact hx
   ·exact lP.mpr ⟨P8,.inr ⟨y,(e y).mp hy,hr⟩⟩
  ·right
   have h:=(Ac hU hi (R:=R) k).resolve_left hc
   have Pp:(mr U R (k+1) [i]).Nodup:=by rw [gC];exact zX hU R _
   have hlt:(mr U R (k+1) [i]).length+1<=(mr U R (k+1+1) [i]).length:=by
    rw [gC U R (k+1)]
    have ⟨x,hx⟩:=lU.mp hc
    have ⟨P9,Pq⟩:=ox.mp hx
    have h2:(x::mr U R (k+1) [i]).length<=(Cc U R (mr U R (k+1) [i])).length:=by
     refine bI (c9.mpr ⟨Pq,Pp⟩) λz hz=> ?_
     rcases aX.mp hz with rfl|hz
     ·exact P9
     ·exact lP.mpr ⟨mX (by simpa using hi) _ z hz,.inl hz⟩
    exact h2
   lia
theorem nN {U:List Nat} {R:Nat->Nat->Bool} (hU:U.Nodup) {i:Nat} (hi:i∈U) {m:Nat} (hm:U.length<=m) {x y:Nat} (hx:x∈U) (hy:y∈mr U R m [i]) (hr:R x y=true):x∈mr U R m [i]:=by
 have TN:0< U.length:=ic hi
 obtain ⟨k,rfl⟩:∃k,m=k+1:=⟨m-1,by lia⟩
 rcases Ac hU hi (R:=R) k with h|h
 ·exact h x (lP.mpr ⟨hx,.inr ⟨y,hy,hr⟩⟩)
 ·have Pp:(mr U R (k+1) [i]).Nodup:=by rw [gC];exact zX hU R _
  apply a5
  intro hn
  have:(x::mr U R (k+1) [i]).length<=U.length:=by
   refine bI (c9.mpr ⟨hn,Pp⟩) λz hz=> ?_
   rcases aX.mp hz with rfl|hz
   ·exact hx
   ·exact mX (by simpa using hi) _ z hz
  rw [aB] at this
  lia
theorem sD {U:List Nat} {R:Nat->Nat->Bool} {i:Nat} (hi:i∈U) (m:Nat):i∈mr U R m [i]:=
 J4 (by simpa using hi) (bD m) (by simp [mr])
theorem Dq {U:List Nat} {R:Nat->Nat->Bool} (hU:U.Nodup) (hR:∀x y,R x y=R y x) {i:Nat} (hi:i∈U) {m:Nat} (hm:U.length<=m) {x:Nat} (hx:x∈mr U R m [i]):i∈mr U R m [x]:=by
 have P8:x∈U:=mX (by simpa using hi) m x hx
 refine (lz (R:=R) (U:=U) (S:=λz=>z∈U/\i∈mr U R m [z]) (λa b ha hb hr=>⟨ha,?_⟩) m [i] (by simpa using ⟨hi,sD hi m⟩) x hx).2
 obtain ⟨Zj,hb⟩:=hb
 have h1:b∈mr U R m [a]:=nN hU ha hm Zj (sD ha m) (by rw [hR];exact hr)
 exact lz (R:=R) (U:=U) (S:=λz=>z∈mr U R m [a]) (λc d hc hd TQ=>nN hU ha hm hc hd TQ) m [b] (by simpa using h1) i hb
theorem yw {l m:List Nat} (hl:l.Pairwise (·< ·)) (hm:m.Pairwise (·< ·)) (h:∀x,x∈l↔x∈m):l=m:=by
 have nl:l.Nodup:=hl.imp λh=>bO h
 have nm:m.Nodup:=hm.imp λh=>bO h
 exact ((df nl nm).mpr h).eq_of_pairwise (λa b _ _ h1 h2=>absurd h1 (Nat.lt_asymm h2)) hl hm
theorem lS {n:Nat} (p:Nat->Bool):((List.range n).filter p).Pairwise (·< ·):=dZ.sublist cK
end Qm
end
section
namespace Qm
open Vbqzak
theorem uF (x y:Game):meets x y=meets y x:=by
 unfold meets has
 cases h1:x.a==y.a<;>cases h2:x.b==y.a<;>cases h3:x.a==y.b<;>cases h4:x.b==y.b<;>
  simp_all [BEq.comm]
theorem zY {x y:Game}:meets x y=true↔∃t,has x t=true/\has y t=true:=by
 unfold meets has
 constructor
 ·intro h
  rw [bH,bH,bH] at h
  rcases h with (h|h)|(h|h)
  ·exact ⟨y.a,by simp [h],by simp⟩
  ·exact ⟨y.a,by simp [h],by simp⟩
  ·exact ⟨y.b,by simp [h],by simp⟩
  ·exact ⟨y.b,by simp [h],by simp⟩
 ·rintro ⟨t,h1,h2⟩
  simp only [bH,cR] at h1 h2 ⊢
  rcases h2 with rfl|rfl
  ·exact .inl h1
  ·exact .inr h1
def i7 (gs:List Game) (p q i j:Nat):Bool:=(packetOf gs i==some p||packetOf gs i==some q)&&(match gs[i]?,gs[j]? with
 |some x,some y=>meets x y
 |_,_=>false)
theorem vy (c:Bool) (f:Nat->Bool):∀l:List Nat,(c&&l.any f)=l.any λy=>c&&f y
 |[]=>by simp
 |a::l=>by
  rw [dB,dB,<-vy c f l]
  cases c<;>simp
theorem Lg (gs:List Game) (p q:Nat) (l:List Nat):grow gs p q l=Cc (List.range gs.length) (i7 gs p q) l:=by
 unfold grow Cc
 refine oy λi _=> ?_
 rw [vy]
 congr 1
theorem DP (gs:List Game) (p q:Nat):∀(k:Nat) (l:List Nat),grown gs p q k l=mr (List.range gs.length) (i7 gs p q) k l
 |0,_=>rfl
 |k+1,l=>by
  show grown gs p q k (grow gs p q l)=mr _ _ k (Cc _ _ l)
  rw [Lg,DP gs p q k]
theorem ck {gs:List Game} {i:Nat} {x:Game} (h:gs[i]? =some x):packetOf gs i=x.p:=by
 unfold packetOf
 rw [h]
 rfl
theorem dI {gs:List Game} {i q:Nat} (h:packetOf gs i=some q):i< gs.length:=by
 unfold packetOf at h
 cases e:gs[i]? with
 |none=>rw [e] at h;cases h
 |some x=>exact (ae.mp e).1
theorem rR {gs:List Game} {i p q:Nat} (h:packetOf gs i=some q):chain gs i p=mr (List.range gs.length) (i7 gs p q) gs.length [i]:=by
 unfold chain
 rw [h]
 exact DP gs p q _ _
theorem gQ {gs:List Game} {p q i j:Nat}:i7 gs p q i j=true↔∃x y,gs[i]? =some x/\gs[j]? =some y/\meets x y=true/\(x.p=some p\/x.p=some q):=by
 unfold i7
 cases ei:gs[i]? with
 |none=>simp
 |some x=>
  cases ej:gs[j]? with
  |none=>simp
  |some y=>
   rw [ck ei]
   simp [aR]
   exact and_comm
section
variable {gs:List Game} {i p q:Nat} (h:packetOf gs i=some q)
include h
theorem kF {x:Nat} (hx:x∈chain gs i p):x< gs.length:=by
 rw [rR h] at hx
 have:=mX (U:=List.range gs.length) (by simpa using dI h) _ x hx
 simpa using this
theorem nJ:i∈chain gs i p:=by
 rw [rR h]
 exact sD (by simpa using dI h) _
theorem kT {k j:Nat} (hj:j∈chain gs i p) (hb:i7 gs p q k j=true):k∈chain gs i p:=by
 rw [rR h] at hj ⊢
 obtain ⟨x,_,hx,_⟩:=gQ.mp hb
 exact nN gj (by simpa using dI h) (by simp) (by simpa using (ae.mp hx).1) hj hb
theorem oI {S:Nat->Prop} (hi:S i) (hS:∀k j,S j->i7 gs p q k j=true->S k):∀x∈chain gs i p,S x:=by
 rw [rR h]
 exact lz (λx y _ hy hr=>hS x y hy hr) _ _ (by simpa using hi)
theorem qo:(chain gs i p).Pairwise (·< ·):=by
 rw [rR h]
 have:=dI h
 obtain ⟨k,hk⟩:∃k,gs.length=k+1:=⟨gs.length-1,by lia⟩
 rw [hk,gC]
 exact lS _
theorem gd:(chain gs i p).Nodup:=(qo h).imp λh=>bO h
theorem eX {x:Nat} (hx:x∈chain gs i p):packetOf gs x=some p\/packetOf gs x=some q:=by
 refine oI h (S:=λx=>packetOf gs x=some p\/packetOf gs x=some q) (.inr h) (λk j _ hb=> ?_) x hx
 obtain ⟨x,_,hx,_,_,e⟩:=gQ.mp hb
 rw [ck hx]
 exact e
end
def eT (gs:List Game):Prop:=∀(i j:Nat) (x y:Game) (q:Nat),i≠j->gs[i]? =some x->gs[j]? =some y->x.p=some q->y.p=some q->meets x y=false
theorem EV:eT []:=λi j x y q _ h=>by simp at h
def xk (p q:Nat) (g:Game):Game:={g with p:=if g.p=some p then some q else some p}
theorem iG {gs:List Game} {i p q:Nat} (h:packetOf gs i=some q) (k:Nat):(exchanged gs i p)[k]? =gs[k]?.map λg=>if k∈chain gs i p then xk p q g else g:=by
 unfold exchanged
 rw [h]
 simp only
 rw [ay,List.zip,iL]
 cases e:gs[k]? with
 |none=>
  have:(List.range gs.length)[k]? =none:=by
   rw [dj] at e ⊢
   simpa using e
  rw [this]
  rfl
 |some g=>
  have hk:=(ae.mp e).1
  have:(List.range gs.length)[k]? =some k:=by
   rw [b9 hk]
  rw [this]
  simp only [fT]
  by_cases hc:k∈chain gs i p
  ·rw [aA hc,aA (cn.mpr hc)]
   rfl
  ·rw [au hc,au (λq=>hc (cn.mp q))]
theorem vX {gs:List Game} {i p:Nat}:(exchanged gs i p).length=gs.length:=by
 unfold exchanged
 split
 ·rfl
 ·simp
theorem vB {p q:Nat} {g:Game}:(xk p q g).p=if g.p=some p then some q else some p:=rfl
theorem Ho {x y x' y':Game} (h1:x.a=x'.a) (h2:x.b=x'.b) (h3:y.a=y'.a) (h4:y.b=y'.b):meets x y=meets x' y':=by
 unfold meets has
 rw [h1,h2,h3,h4]
theorem i5 {gs:List Game} {i p q:Nat} (h:packetOf gs i=some q) {k:Nat} {z:Game} (hz:(exchanged gs i p)[k]? =some z):
  ∃g,gs[k]? =some g/\z.a=g.a/\z.b=g.b/\((k∈chain gs i p/\z=xk p q g)\/(k∉chain gs i p/\z=g)):=by
 rw [iG h] at hz
 cases e:gs[k]? with
 |none=>rw [e] at hz;cases hz
 |some g=>
  rw [e] at hz
  have hz:(if k∈chain gs i p then xk p q g else g)=z:=Option.some.inj hz
  refine ⟨g,rfl,?_⟩
  by_cases hk:k∈chain gs i p
  ·rw [aA hk] at hz
   subst hz
   exact ⟨rfl,rfl,.inl ⟨hk,rfl⟩⟩
  ·rw [au hk] at hz
   subst hz
   exact ⟨rfl,rfl,.inr ⟨hk,rfl⟩⟩
theorem ly {gs:List Game} {i p q:Nat} (h:packetOf gs i=some q) (ua:p≠q) (P:eT gs):eT (exchanged gs i p):=by
 intro k j x y r Nf hx hy vK wJ
 obtain ⟨gx,ex,xa,xb,cx⟩:=i5 h hx
 obtain ⟨gy,ey,ya,yb,cy⟩:=i5 h hy
 rw [Ho xa xb ya yb]
 cases hm:meets gx gy with
 |false=>rfl
 |true=>
  exfalso
  have hno:∀r,gx.p=some r->gy.p=some r->False:=λr h1 h2=>by
   have:=P k j gx gy r Nf ex ey h1 h2
   rw [hm] at this
   cases this
  rcases cx with ⟨TR,rfl⟩|⟨TR,rfl⟩<;>rcases cy with ⟨TU,rfl⟩|⟨TU,rfl⟩
  ·have px:=eX h TR
   have py:=eX h TU
   rw [ck ex] at px
   rw [ck ey] at py
   rw [vB] at vK wJ
   rcases px with px|px<;>rcases py with py|py
   ·exact hno _ px py
   ·rw [px,aA rfl] at vK
    rw [py,au (by simpa using aY ua)] at wJ
    rw [<-wJ] at vK
    exact ua (Option.some.inj vK).symm
   ·rw [px,au (by simpa using aY ua)] at vK
    rw [py,aA rfl] at wJ
    rw [<-wJ] at vK
    exact ua (Option.some.inj vK)
   ·exact hno _ px py
  ·have px:=eX h TR
   rw [ck ex] at px
   have hr:r=p\/r=q:=by
    rw [vB] at vK
    split at vK
    ·exact .inr (Option.some.inj vK).symm
    ·exact .inl (Option.some.inj vK).symm
   refine TU (kT h TR (gQ.mpr ⟨y,gx,ey,ex,by rw [uF];exact hm,?_⟩))
   rcases hr with rfl|rfl
   ·exact .inl wJ
   ·exact .inr wJ
  ·have py:=eX h TU
   have hr:r=p\/r=q:=by
    rw [vB] at wJ
    split at wJ
    ·exact .inr (Option.some.inj wJ).symm
    ·exact .inl (Option.some.inj wJ).symm
   refine TR (kT h TU (gQ.mpr ⟨x,gy,ex,ey,hm,?_⟩))
   rcases hr with rfl|rfl
   ·exact .inl vK
   ·exact .inr vK
  ·exact hno _ vK wJ
end Qm
end
section
namespace Qm
open Vbqzak
def Wf (gs:List Game):Prop:=∀g∈gs,g.a≠g.b
inductive A9 (gs:List Game):List Nat->Prop
 |wL (k:Nat):k< gs.length->A9 gs [k]
 |add {l:List Nat} {k j:Nat} {x y:Game}:A9 gs l->k∉l->j∈l->gs[k]? =some x->gs[j]? =some y->meets x y=true->A9 gs (k::l)
theorem El {gs:List Game} {l:List Nat} (h:A9 gs l):∃V:List Nat,V.length<=l.length+1/\∀k∈l,∀x,gs[k]? =some x->∀t,has x t=true->t∈V:=by
 induction h with
 |wL k hk=>
  refine ⟨[(gs[k]).a,(gs[k]).b],by simp,λj hj x hx t ht=> ?_⟩
  have:j=k:=by simpa using hj
  subst this
  rw [ab hk] at hx
  have:=Option.some.inj hx
  subst this
  unfold has at ht
  simp only [bH,cR] at ht
  rcases ht with ht|ht<;>simp [ht]
 | @add l k j x y hl hk hj hx hy hm ih=>
  obtain ⟨V,hV,hc⟩:=ih
  obtain ⟨t,h1,h2⟩:=zY.mp hm
  have tV:=hc j hj y hy t h2
  refine ⟨(if x.a=t then x.b else x.a)::V,by simpa using hV,λm hm z hz s hs=> ?_⟩
  rcases aX.mp hm with rfl|hm
  ·have e:x=z:=by rw [hx] at hz;exact Option.some.inj hz
   subst e
   unfold has at hs h1
   simp only [bH,cR] at hs h1
   by_cases ha:x.a=t
   ·rw [aA ha]
    rcases hs with rfl|rfl
    ·rw [ha];exact aE _ tV
    ·exact aP
   ·rw [au ha]
    have hb:x.b=t:=h1.resolve_left ha
    rcases hs with rfl|rfl
    ·exact aP
    ·rw [hb];exact aE _ tV
  ·exact aE _ (hc m hm z hz s hs)
theorem yD {gs:List Game} {l:List Nat} (h:A9 gs l):l.Nodup:=by
 induction h with
 |wL k hk=>simp
 |add hl hk _ _ _ _ ih=>exact c9.mpr ⟨hk,ih⟩
theorem sG {gs:List Game} {i p q:Nat} (h:packetOf gs i=some q):∀(m:Nat) (l:List Nat),gs.length<=l.length+m->A9 gs l->i∈l->(∀x∈l,x∈chain gs i p)->∃l',A9 gs l'/\∀x,x∈l'↔x∈chain gs i p
 |m,l,hm,hc,hi,hs=>by
  by_cases hcl:∀k j,j∈l->i7 gs p q k j=true->k∈l
  ·exact ⟨l,hc,λx=>⟨hs x,oI h (S:=λx=>x∈l) hi hcl x⟩⟩
  ·obtain ⟨k,hk⟩:=lU.mp hcl
   obtain ⟨j,hj⟩:=lU.mp hk
   obtain ⟨hjl,hj⟩:=ox.mp hj
   obtain ⟨hb,Mj⟩:=ox.mp hj
   obtain ⟨x,y,hx,hy,hme,_⟩:=gQ.mp hb
   have hc':=A9.add hc Mj hjl hx hy hme
   have Ys:∀z∈k::l,z∈chain gs i p:=λz hz=>by
    rcases aX.mp hz with rfl|hz
    ·exact kT h (hs j hjl) hb
    ·exact hs z hz
   have hle:(k::l).length<=(List.range gs.length).length:=bI (yD hc') λz hz=>by
    have:=kF h (Ys z hz)
    simpa using this
   rw [aB,aM] at hle
   match m with
   |0=>lia
   |m+1=>exact sG h m (k::l) (by rw [aB];lia) hc' (aE _ hi) Ys
theorem Es {gs:List Game} {i p q:Nat} (h:packetOf gs i=some q):∃l,A9 gs l/\∀x,x∈l↔x∈chain gs i p:=
 sG h gs.length [i] (by simp) (.wL i (dI h)) (by simp) (by simpa using nJ h)
theorem xc {gs:List Game} {i p q:Nat} (h:packetOf gs i=some q):∃V:List Nat,V.length<=(chain gs i p).length+1/\∀k∈chain gs i p,∀x,gs[k]? =some x->∀t,has x t=true->t∈V:=by
 obtain ⟨l,hc,he⟩:=Es (p:=p) h
 obtain ⟨V,hV,ht⟩:=El hc
 have hp:l.Perm (chain gs i p):=(df (yD hc) (gd h)).mpr he
 exact ⟨V,by rw [<-hp.length_eq];exact hV,λk hk=>ht k ((he k).mpr hk)⟩
def ta (gs:List Game) (k:Nat):Nat:=(gs[k]?.map (·.a)).getD 0
def tb (gs:List Game) (k:Nat):Nat:=(gs[k]?.map (·.b)).getD 0
theorem Gq {gs:List Game} {k:Nat} {x:Game} (h:gs[k]? =some x):ta gs k=x.a:=by unfold ta;rw [h];rfl
theorem FA {gs:List Game} {k:Nat} {x:Game} (h:gs[k]? =some x):tb gs k=x.b:=by unfold tb;rw [h];rfl
theorem CW (x:Game):has x x.a=true:=by simp [has]
theorem DI (x:Game):has x x.b=true:=by simp [has]
theorem qR {gs:List Game} (P:eT gs) {i j t r:Nat} {x y:Game} (hx:gs[i]? =some x) (hy:gs[j]? =some y) (vK:x.p=some r) (wJ:y.p=some r) (h1:has x t=true) (h2:has y t=true):i=j:=by
 apply a5
 intro hn
 have:=P i j x y r hn hx hy vK wJ
 rw [zY.mpr ⟨t,h1,h2⟩] at this
 cases this
theorem kC {gs:List Game} (P:eT gs) {r:Nat} {f:Nat->Nat}:∀{l:List Nat},l.Nodup->(∀k∈l,∃x,gs[k]? =some x/\x.p=some r/\has x (f k)=true)->(l.map f).Nodup
 |[],_,_=>by simp
 |k::l,hn,h=>by
  obtain ⟨hk,hn⟩:=c9.mp hn
  rw [bA]
  refine c9.mpr ⟨λhm=> ?_,kC P hn λj hj=>h j (aE _ hj)⟩
  obtain ⟨j,hj,e⟩:=bC.mp hm
  obtain ⟨x,hx,vK,h1⟩:=h k aP
  obtain ⟨y,hy,wJ,h2⟩:=h j (aE _ hj)
  have:=qR P hx hy vK wJ h1 (by rw [<-e];exact h2)
  exact hk (this▸hj)
theorem Eh {gs:List Game} (W:Wf gs) (P:eT gs) {r:Nat}:∀{l:List Nat},l.Nodup->(∀k∈l,∃x,gs[k]? =some x/\x.p=some r)->(l.map (ta gs)++l.map (tb gs)).Nodup:=λ{l} hn h=>by
 refine cc.mpr ⟨kC P (r:=r) hn λk hk=> ?_,kC P (r:=r) hn λk hk=> ?_,λu hu v hv e=> ?_⟩
 ·obtain ⟨x,hx,hr⟩:=h k hk
  exact ⟨x,hx,hr,by rw [Gq hx];exact CW x⟩
 ·obtain ⟨x,hx,hr⟩:=h k hk
  exact ⟨x,hx,hr,by rw [FA hx];exact DI x⟩
 ·obtain ⟨k,hk,rfl⟩:=bC.mp hu
  obtain ⟨j,hj,rfl⟩:=bC.mp hv
  obtain ⟨x,hx,vK⟩:=h k hk
  obtain ⟨y,hy,wJ⟩:=h j hj
  rw [Gq hx,FA hy] at e
  have Nf:=qR P hx hy vK wJ (CW x) (by rw [e];exact DI y)
  subst Nf
  rw [hx] at hy
  have:=Option.some.inj hy
  subst this
  exact W x (aw hx) e
theorem Cp (gs:List Game) (l:List Nat) (r:Nat):inChain gs l r=(l.filter λi=>packetOf gs i==some r).length:=rfl
theorem E4 {l:List Nat} {f g:Nat->Bool} (h:∀x∈l,(f x=true/\g x=false)\/(f x=false/\g x=true)):(l.filter f).length+(l.filter g).length=l.length:=by
 induction l with
 |nil=>rfl
 |cons a l ih=>
  have ih:=ih λx hx=>h x (aE _ hx)
  rcases h a aP with ⟨h1,h2⟩|⟨h1,h2⟩
  ·rw [aS h1,aO (by simp [h2]),aB,aB];lia
  ·rw [aS h2,aO (by simp [h1]),aB,aB];lia
theorem sE {gs:List Game} {i p q:Nat} (h:packetOf gs i=some q) (ua:p≠q):inChain gs (chain gs i p) p+inChain gs (chain gs i p) q=(chain gs i p).length:=by
 refine E4 λx hx=> ?_
 rcases eX h hx with e|e
 ·left;rw [e];simp [ua]
 ·right;rw [e];simp [aY ua]
theorem EC {gs:List Game} (W:Wf gs) (P:eT gs) {i p q r:Nat} (h:packetOf gs i=some q):2*inChain gs (chain gs i p) r<=(chain gs i p).length+1:=by
 obtain ⟨V,hV,hc⟩:=xc (p:=p) h
 rw [Cp]
 generalize hl:((chain gs i p).filter λi=>packetOf gs i==some r)=l
 have hmem:∀k∈l,k∈chain gs i p/\∃x,gs[k]? =some x/\x.p=some r:=λk hk=>by
  rw [<-hl] at hk
  obtain ⟨h1,h2⟩:=bU.mp hk
  have h2:packetOf gs k=some r:=by simpa using h2
  refine ⟨h1,?_⟩
  have hlt:=dI h2
  refine ⟨gs[k],ab hlt,?_⟩
  rw [<-ck (ab hlt)]
  exact h2
 have hn:l.Nodup:=by rw [<-hl];exact (gd h).sublist cK
 have h1:=Eh W P (r:=r) hn λk hk=>(hmem k hk).2
 have h2:=bI (l₂:=V) h1 λt ht=>by
  rcases aI.mp ht with ht|ht
  ·obtain ⟨k,hk,rfl⟩:=bC.mp ht
   obtain ⟨hk1,x,hx,_⟩:=hmem k hk
   exact hc k hk1 x hx _ (by rw [Gq hx];exact CW x)
  ·obtain ⟨k,hk,rfl⟩:=bC.mp ht
   obtain ⟨hk1,x,hx,_⟩:=hmem k hk
   exact hc k hk1 x hx _ (by rw [FA hx];exact DI x)
 rw [ao,af,af] at h2
 lia
theorem CI {gs:List Game} (P:eT gs) {side:Nat->Bool} (sR:∀g∈gs,side g.a≠side g.b) {j a b u v:Nat} {y:Game} (hab:a≠b) (hj:gs[j]? =some y) (Zk:y.p=some a) (Zl:has y u=true)
  (hu:∀(k:Nat) (x:Game),gs[k]? =some x->has x u=true->x.p≠some b) (hv:∀(k:Nat) (x:Game),gs[k]? =some x->has x v=true->x.p≠some a) (hs:side u≠side v):
  ∀k∈chain gs j b,∀x,gs[k]? =some x->has x v=false:=by
 have h:packetOf gs j=some a:=by rw [ck hj];exact Zk
 intro k hk x hx
 cases Zm:has x v with
 |false=>rfl
 |true=>
  exfalso
  obtain ⟨V,hV,hc⟩:=xc (p:=b) h
  let f:Bool->Nat->Nat:=λs k=>if side (ta gs k)=s then ta gs k else tb gs k
  have hf:∀(s:Bool) (k:Nat) (x:Game),gs[k]? =some x->has x (f s k)=true/\side (f s k)=s:=λs k x hx=>by
   show has x (if side (ta gs k)=s then ta gs k else tb gs k)=true/\side (if side (ta gs k)=s then ta gs k else tb gs k)=s
   rw [Gq hx,FA hx]
   have:=sR x (aw hx)
   by_cases e:side x.a=s
   ·rw [aA e];exact ⟨CW x,e⟩
   ·rw [au e]
    refine ⟨DI x,?_⟩
    cases h1:side x.a<;>cases h2:side x.b<;>cases s<;>simp_all
  let LA:=(chain gs j b).filter λi=>packetOf gs i==some a
  let LB:=(chain gs j b).filter λi=>packetOf gs i==some b
  have Ml:∀(r k:Nat),k∈((chain gs j b).filter λi=>packetOf gs i==some r)->k∈chain gs j b/\∃x,gs[k]? =some x/\x.p=some r:=λr k hk=>by
   obtain ⟨h1,h2⟩:=bU.mp hk
   have h2:packetOf gs k=some r:=by simpa using h2
   have hlt:=dI h2
   refine ⟨h1,gs[k],ab hlt,?_⟩
   rw [<-ck (ab hlt)]
   exact h2
  have nA:(LA.map (f (side v))).Nodup:=kC P (r:=a) ((gd h).sublist cK) λk hk=>by
   obtain ⟨_,x,hx,hr⟩:=Ml a k hk
   exact ⟨x,hx,hr,(hf _ k x hx).1⟩
  have nB:(LB.map (f (side u))).Nodup:=kC P (r:=b) ((gd h).sublist cK) λk hk=>by
   obtain ⟨_,x,hx,hr⟩:=Ml b k hk
   exact ⟨x,hx,hr,(hf _ k x hx).1⟩
  have sA:∀t∈LA.map (f (side v)),side t=side v/\t≠v/\t∈V:=λt ht=>by
   obtain ⟨k,hk,rfl⟩:=bC.mp ht
   obtain ⟨WO,x,hx,hr⟩:=Ml a k hk
   refine ⟨(hf _ k x hx).2,λe=> ?_,hc k WO x hx _ (hf _ k x hx).1⟩
   have:=(hf (side v) k x hx).1
   rw [e] at this
   exact hv k x hx this hr
  have sB:∀t∈LB.map (f (side u)),side t=side u/\t≠u/\t∈V:=λt ht=>by
   obtain ⟨k,hk,rfl⟩:=bC.mp ht
   obtain ⟨WO,x,hx,hr⟩:=Ml b k hk
   refine ⟨(hf _ k x hx).2,λe=> ?_,hc k WO x hx _ (hf _ k x hx).1⟩
   have:=(hf (side u) k x hx).1
   rw [e] at this
   exact hu k x hx this hr
  have Pp:(v::u::(LA.map (f (side v))++LB.map (f (side u)))).Nodup:=by
   refine c9.mpr ⟨λhm=> ?_,c9.mpr ⟨λhm=> ?_,cc.mpr ⟨nA,nB,λs hs1 t ht1 e=> ?_⟩⟩⟩
   ·rcases aX.mp hm with e|hm
    ·exact hs (by rw [e])
    ·rcases aI.mp hm with hm|hm
     ·exact (sA v hm).2.1 rfl
     ·exact hs (sB v hm).1.symm
   ·rcases aI.mp hm with hm|hm
    ·exact hs (sA u hm).1
    ·exact (sB u hm).2.1 rfl
   ·subst e
    exact hs ((sB s ht1).1.symm.trans (sA s hs1).1)
  have hle:=bI (l₂:=V) Pp λt ht=>by
   rcases aX.mp ht with rfl|ht
   ·exact hc k hk x hx _ Zm
   ·rcases aX.mp ht with rfl|ht
    ·exact hc j (nJ h) y hj _ Zl
    ·rcases aI.mp ht with ht|ht
     ·exact (sA t ht).2.2
     ·exact (sB t ht).2.2
  have hsp:LB.length+LA.length=(chain gs j b).length:=sE h (aY hab)
  simp only [aB,ao,af] at hle
  lia
end Qm
end
section
namespace Qm
open Vbqzak
abbrev Bq (gs:List Game) (l:List Nat) (q:Nat):Nat:=l.countP λi=>packetOf gs i==some q
theorem j8 (gs:List Game) (l:List Nat) (q:Nat):inChain gs l q=Bq gs l q:=by
 exact iC.symm
theorem EB (gs:List Game):gs.map (·.p)=(List.range gs.length).map (packetOf gs):=by
 apply bS
 intro i
 rw [ay,ay]
 cases e:gs[i]? with
 |none=>
  have:gs.length<=i:=dj.mp e
  rw [bq (by simpa using this)]
  rfl
 |some g=>
  have:=(ae.mp e).1
  rw [b9 this]
  show some g.p=some (packetOf gs i)
  rw [ck e]
theorem A5 (gs:List Game) (q:Nat):uses gs q=Bq gs (List.range gs.length) q:=by
 unfold uses
 rw [<-iC]
 have h1:gs.countP (λg=>g.p==some q)=(gs.map (·.p)).countP (λo=>o==some q):=by rw [jF];rfl
 rw [h1,EB,jF]
 rfl
theorem tD (gs:List Game) (f:Nat->Bool) (r:Nat) (l:List Nat):Bq gs l r=Bq gs (l.filter f) r+Bq gs (l.filter λx=> !f x) r:=by
 unfold Bq
 induction l with
 |nil=>rfl
 |cons a l ih=>
  rw [c8,ih]
  cases h:f a
  ·rw [aO (by simp [h]),aS (by simp [h]),c8]
   lia
  ·rw [aS h,aO (by simp [h]),c8]
   lia
theorem HR (gs:List Game) (p q i j:Nat):i7 gs p q i j=i7 gs q p i j:=by
 unfold i7
 rw [uU]
abbrev rD (gs:List Game) (i j g:Nat):Nat:=if packetOf gs g=some i then j else i
theorem vk {gs:List Game} {i j:Nat} (hij:i≠j):∀(m:Nat) (T:List Nat),T.length<=m->T.Nodup->(∀x∈T,packetOf gs x=some i\/packetOf gs x=some j)->(∀k x,x∈T->i7 gs i j k x=true->k∈T)->Bq gs T j< Bq gs T i->
  ∃g∈T,inChain gs (chain gs g (rD gs i j g)) j< inChain gs (chain gs g (rD gs i j g)) i
 |m,[],_,_,_,_,hc=>by simp [Bq] at hc
 |0,a::T,hm,_,_,_,_=>by simp at hm
 |m+1,a::T,hm,hn,hp,hcl,hc=>by
  generalize hC:chain gs a (rD gs i j a)=C
  have key:∃q,packetOf gs a=some q/\(∀k x,i7 gs (rD gs i j a) q k x=i7 gs i j k x):=by
   rcases hp a aP with e|e
   ·refine ⟨i,e,λk x=> ?_⟩
    unfold rD
    rw [aA e,HR]
   ·refine ⟨j,e,λk x=> ?_⟩
    unfold rD
    rw [au (by rw [e];simpa using aY hij)]
  obtain ⟨q,hq,hb⟩:=key
  by_cases Ku:inChain gs C j< inChain gs C i
  ·exact ⟨a,aP,by rw [hC];exact Ku⟩
  have hsub:∀x∈C,x∈a::T:=by
   rw [<-hC]
   exact oI hq (S:=λx=>x∈a::T) aP λk x hx hbe=>hcl k x hx (by rw [<-hb];exact hbe)
  have Zn:C.Nodup:=by rw [<-hC];exact gd hq
  have WQ:∀k x,x∈C->i7 gs i j k x=true->k∈C:=λk x hx hbe=>by
   rw [<-hC] at hx ⊢
   exact kT hq hx (by rw [hb];exact hbe)
  have haC:a∈C:=by rw [<-hC];exact nJ hq
  let T':=(a::T).filter λx=> !C.contains x
  have Zo:T'.length<=m:=by
   have h1:T'=T.filter λx=> !C.contains x:=by
    show (a::T).filter _=_
    rw [aO (by simp [haC])]
   rw [h1]
   refine bg (bQ _ _) ?_
   rw [aB] at hm
   lia
  have GS:∀x,x∈T'↔x∈a::T/\x∉C:=λx=>by
   show x∈(a::T).filter _↔_
   rw [bU]
   simp
  have Az:((a::T).filter λx=>C.contains x).Perm C:=by
   refine (df (hn.sublist cK) Zn).mpr λx=> ?_
   rw [bU,cn]
   exact ⟨λh=>h.2,λh=>⟨hsub x h,h⟩⟩
  have hci:Bq gs (a::T) i=Bq gs C i+Bq gs T' i:=by
   rw [tD gs (λx=>C.contains x) i (a::T)]
   show List.countP _ _+_=_
   rw [Az.countP_eq]
  have hcj:Bq gs (a::T) j=Bq gs C j+Bq gs T' j:=by
   rw [tD gs (λx=>C.contains x) j (a::T)]
   show List.countP _ _+_=_
   rw [Az.countP_eq]
  rw [j8,j8] at Ku
  obtain ⟨g,hg,hh⟩:=vk hij m T' Zo (hn.sublist cK) (λx hx=>hp x ((GS x).mp hx).1) (λk x hx hbe=>by
   obtain ⟨P9,Pq⟩:=(GS x).mp hx
   refine (GS k).mpr ⟨hcl k x P9 hbe,λhk=>Pq ?_⟩
   obtain ⟨gk,gx,TV,Ik,hme,_⟩:=gQ.mp hbe
   refine WQ x k hk (gQ.mpr ⟨gx,gk,Ik,TV,by rw [uF];exact hme,?_⟩)
   have:=hp x P9
   rw [ck Ik] at this
   exact this) (by lia)
  exact ⟨g,((GS g).mp hg).1,hh⟩
theorem Ef {gs:List Game} {i j:Nat} (h:uses gs j< uses gs i):∃g,heavy gs i j=some g:=by
 have hij:i≠j:=λe=>by subst e;exact eu _ h
 let T:=(List.range gs.length).filter λx=>packetOf gs x==some i||packetOf gs x==some j
 have Pt:∀x,x∈T↔packetOf gs x=some i\/packetOf gs x=some j:=λx=>by
  show x∈List.filter _ _↔_
  rw [bU]
  simp only [cQ,bH,cR]
  constructor
  ·exact λh=>h.2
  ·intro h
   refine ⟨?_,h⟩
   rcases h with h|h<;>exact dI h
 have hT:∀r,r=i\/r=j->Bq gs T r=uses gs r:=λr hr=>by
  rw [A5]
  show List.countP _ (List.filter _ _)=_
  rw [List.countP_filter]
  refine d9 λx _=> ?_
  simp only [aR,bH,cR]
  rcases hr with rfl|rfl
  ·exact ⟨λh=>h.1,λh=>⟨h,.inl h⟩⟩
  ·exact ⟨λh=>h.1,λh=>⟨h,.inr h⟩⟩
 obtain ⟨g,hg,hh⟩:=vk hij T.length T (aF _) (gj.sublist cK) (λx hx=>(Pt x).mp hx) (λk x hx hb=>by
  obtain ⟨gk,_,TV,_,_,e⟩:=gQ.mp hb
  rw [Pt,ck TV]
  exact e) (by rw [hT i (.inl rfl),hT j (.inr rfl)];exact h)
 have:(heavy gs i j).isSome=true:=by
  unfold heavy
  rw [oz]
  have hp:=(Pt g).mp hg
  refine ⟨g,?_,?_⟩
  ·rw [cQ]
   rcases hp with h|h<;>exact dI h
  ·simp only [aR,bH,cR,cJ]
   exact ⟨hp,hh⟩
 exact ez.mp this
theorem yT {gs:List Game} {i j g:Nat} (h:heavy gs i j=some g):(packetOf gs g=some i\/packetOf gs g=some j)/\inChain gs (chain gs g (rD gs i j g)) j< inChain gs (chain gs g (rD gs i j g)) i:=by
 unfold heavy at h
 have h1:=qW h
 simp only [aR,bH,cR,cJ] at h1
 exact h1
theorem eK {gs:List Game} {g p q:Nat} (h:packetOf gs g=some q) (k:Nat):packetOf (exchanged gs g p) k=if k∈chain gs g p then (if packetOf gs k=some p then some q else some p) else packetOf gs k:=by
 unfold packetOf
 rw [iG h]
 cases e:gs[k]? with
 |none=>
  by_cases hk:k∈chain gs g p
  ·have:=kF h hk
   rw [dj] at e
   lia
  ·rw [au hk]
   rfl
 |some x=>
  show ((if k∈chain gs g p then xk p q x else x):Game).p=if k∈chain gs g p then (if x.p=some p then some q else some p) else x.p
  split<;>rfl
theorem Bk {gs:List Game} {g p q:Nat} (h:packetOf gs g=some q):(List.range gs.length).filter (λx=>(chain gs g p).contains x)=chain gs g p:=
 yw (lS _) (qo h) λx=>by
  rw [bU,cn]
  exact ⟨λh=>h.2,λhx=>⟨by simpa using kF h hx,hx⟩⟩
theorem yu {gs:List Game} {g p q:Nat} (h:packetOf gs g=some q) (ua:p≠q) (r:Nat):
  uses (exchanged gs g p) r+inChain gs (chain gs g p) r=uses gs r+(if r=p then inChain gs (chain gs g p) q else if r=q then inChain gs (chain gs g p) p else inChain gs (chain gs g p) r):=by
 rw [A5,A5,vX]
 rw [tD (exchanged gs g p) (λx=>(chain gs g p).contains x) r,tD gs (λx=>(chain gs g p).contains x) r,Bk h]
 have h1:Bq (exchanged gs g p) ((List.range gs.length).filter λx=> !(chain gs g p).contains x) r=Bq gs ((List.range gs.length).filter λx=> !(chain gs g p).contains x) r:=by
  refine d9 λx hx=> ?_
  have Pq:x∉chain gs g p:=by
   have:=(bU.mp hx).2
   simpa using this
  rw [eK h,au Pq]
 have h2:Bq (exchanged gs g p) (chain gs g p) r=(if r=p then inChain gs (chain gs g p) q else if r=q then inChain gs (chain gs g p) p else inChain gs (chain gs g p) r):=by
  rw [j8,j8,j8]
  split
  ·rename_i e
   subst e
   refine d9 λx hx=> ?_
   rw [eK h,aA hx]
   rcases eX h hx with e|e<;>rw [e]<;>simp [ua,aY ua]
  ·rename_i e
   split
   ·rename_i e2
    subst e2
    refine d9 λx hx=> ?_
    rw [eK h,aA hx]
    rcases eX h hx with e|e<;>rw [e]<;>simp [ua,aY ua]
   ·rename_i e2
    refine d9 λx hx=> ?_
    rw [eK h,aA hx]
    rcases eX h hx with e3|e3<;>rw [e3]<;>simp [ua,aY ua,aY e,aY e2]
 have h3:=j8 gs (chain gs g p) r
 rw [h1,h2]
 lia
def Iw (gs:List Game) (c:Nat):Nat:=((List.range c).map λq=>uses gs q*uses gs q).sum
theorem ye {f f':Nat->Nat} {i:Nat}:∀c,i< c->(∀q,q≠i->f' q=f q)->((List.range c).map f').sum+f i=((List.range c).map f).sum+f' i
 |0,h,_=>by lia
 |c+1,h,e=>by
  rw [cT,a4,a4,List.sum_append,List.sum_append]
  simp only [bA,gF,tM,List.sum_nil]
  by_cases hi:i=c
  ·subst hi
   have:(List.range i).map f'=(List.range i).map f:=e9 λq hq=>e q (by have:=cQ.mp hq;lia)
   rw [this]
   lia
  ·have:=ye c (by lia) e
   have:=e c (aY hi)
   lia
theorem LN {f f':Nat->Nat} {i j c:Nat} (hi:i< c) (hj:j< c) (hij:i≠j) (e:∀q,q≠i->q≠j->f' q=f q):((List.range c).map f').sum+f i+f j=((List.range c).map f).sum+f' i+f' j:=by
 have h1:=ye (f:=f) (f':=λq=>if q=i then f' i else f q) c hi (λq hq=>by rw [au hq])
 have h2:=ye (f:=λq=>if q=i then f' i else f q) (f':=f') c hj (λq hq=>by
  by_cases Qa:q=i
  ·rw [aA Qa,Qa]
  ·rw [au Qa];exact e q Qa hq)
 simp only [aA,au (aY hij)] at h1 h2
 lia
theorem Ap:∀l:List Nat,(l.map λx=>x*x).sum<=l.sum*l.sum
 |[]=>by simp
 |a::l=>by
  have ih:=Ap l
  simp only [bA,tM]
  have:(a+l.sum)*(a+l.sum)=a*a+2*(a*l.sum)+l.sum*l.sum:=by
   rw [rF,rG,rG,Nat.mul_comm l.sum a];lia
  lia
theorem wM (c:Nat):∀gs:List Game,((List.range c).map λq=>uses gs q).sum<=gs.length
 |[]=>by
  have:(List.range c).map (λq=>uses [] q)=(List.range c).map λ_=>0:=rfl
  rw [this]
  have:∀l:List Nat,(l.map λ_=>0).sum=0:=λl=>by induction l with
   |nil=>rfl
   |cons a l ih=>rw [bA,tM,ih]
  rw [this]
  exact bD _
 |g::gs=>by
  have ih:=wM c gs
  have hu:∀q,uses (g::gs) q=uses gs q+if g.p=some q then 1 else 0:=λq=>by
   unfold uses
   by_cases h:g.p=some q
   ·rw [aS (by simp [h]),aA h,aB]
   ·rw [aO (by simp [h]),au h];rfl
  cases hp:g.p with
  |none=>
   have:(List.range c).map (λq=>uses (g::gs) q)=(List.range c).map λq=>uses gs q:=e9 λq _=>by rw [hu,hp];simp
   rw [this,aB]
   lia
  |some r=>
   by_cases hr:r< c
   ·have h1:=ye (f:=λq=>uses gs q) (f':=λq=>uses (g::gs) q) c hr (λq hq=>by
     show uses (g::gs) q=uses gs q
     rw [hu,hp,au (by simpa using aY hq)]
     rfl)
    have h2:uses (g::gs) r=uses gs r+1:=by rw [hu,hp,aA rfl]
    rw [aB]
    lia
   ·have:(List.range c).map (λq=>uses (g::gs) q)=(List.range c).map λq=>uses gs q:=e9 λq hq=>by
     have:=cQ.mp hq
     rw [hu,hp,au (by intro e;have:=Option.some.inj e;lia)]
     rfl
    rw [this,aB]
    lia
theorem O7 (gs:List Game) (c:Nat):Iw gs c<=gs.length*gs.length:=by
 unfold Iw
 have h1:=Ap ((List.range c).map λq=>uses gs q)
 rw [cX] at h1
 have h2:=wM c gs
 exact bg h1 (rH h2 h2)
theorem lO (gs:List Game):∀c,0< c->mostUsed gs c< c/\(∀q,q< c->uses gs q<=uses gs (mostUsed gs c))/\∀q,q< mostUsed gs c->uses gs q< uses gs (mostUsed gs c)
 |0,h=>by lia
 |1,_=>by
  have e:mostUsed gs 1=0:=by
   unfold mostUsed
   show (if uses gs 0< uses gs 0 then 0 else 0)=0
   split<;>rfl
  rw [e]
  refine ⟨by lia,λq hq=> ?_,λq hq=>by lia⟩
  have:q=0:=by lia
  rw [this]
  exact aF _
 |c+2,_=>by
  obtain ⟨h1,h2,h3⟩:=lO gs (c+1) (by lia)
  have e:mostUsed gs (c+2)=if uses gs (mostUsed gs (c+1))< uses gs (c+1) then c+1 else mostUsed gs (c+1):=by
   show (List.range (c+1+1)).foldl _ 0=_
   rw [cT,fM]
   rfl
  rw [e]
  split
  ·rename_i hlt
   refine ⟨by lia,λq hq=> ?_,λq hq=>gn (h2 q hq) hlt⟩
   by_cases Mn:q=c+1
   ·rw [Mn];exact aF _
   ·exact dM (gn (h2 q (by lia)) hlt)
  ·rename_i hlt
   refine ⟨by lia,λq hq=> ?_,h3⟩
   by_cases Mn:q=c+1
   ·rw [Mn];lia
   ·exact h2 q (by lia)
theorem kx (gs:List Game):∀c,0< c->leastUsed gs c< c/\(∀q,q< c->uses gs (leastUsed gs c)<=uses gs q)/\∀q,q< leastUsed gs c->uses gs (leastUsed gs c)< uses gs q
 |0,h=>by lia
 |1,_=>by
  have e:leastUsed gs 1=0:=by
   unfold leastUsed
   show (if uses gs 0< uses gs 0 then 0 else 0)=0
   split<;>rfl
  rw [e]
  refine ⟨by lia,λq hq=> ?_,λq hq=>by lia⟩
  have:q=0:=by lia
  rw [this]
  exact aF _
 |c+2,_=>by
  obtain ⟨h1,h2,h3⟩:=kx gs (c+1) (by lia)
  have e:leastUsed gs (c+2)=if uses gs (c+1)< uses gs (leastUsed gs (c+1)) then c+1 else leastUsed gs (c+1):=by
   show (List.range (c+1+1)).foldl _ 0=_
   rw [cT,fM]
   rfl
  rw [e]
  split
  ·rename_i hlt
   refine ⟨by lia,λq hq=> ?_,λq hq=>cb hlt (h2 q hq)⟩
   by_cases Mn:q=c+1
   ·rw [Mn];exact aF _
   ·exact dM (cb hlt (h2 q (by lia)))
  ·rename_i hlt
   refine ⟨by lia,λq hq=> ?_,h3⟩
   by_cases Mn:q=c+1
   ·rw [Mn];lia
   ·exact h2 q (by lia)
theorem ER {gs:List Game} (W:Wf gs) (P:eT gs) {c:Nat} (hc:0< c) (hgo:uses gs (leastUsed gs c)+1< uses gs (mostUsed gs c)):
  ∃g,heavy gs (mostUsed gs c) (leastUsed gs c)=some g/\Iw (exchanged gs g (rD gs (mostUsed gs c) (leastUsed gs c) g)) c+2<=Iw gs c:=by
 obtain ⟨m1,_,_⟩:=lO gs c hc
 obtain ⟨l1,_,_⟩:=kx gs c hc
 generalize mostUsed gs c=i at*
 generalize leastUsed gs c=j at*
 obtain ⟨g,hg⟩:=Ef (gs:=gs) (i:=i) (j:=j) (by lia)
 refine ⟨g,hg,?_⟩
 have hij:i≠j:=λe=>by subst e;lia
 obtain ⟨hp,hh⟩:=yT hg
 have key:∃q,packetOf gs g=some q/\rD gs i j g≠q/\((q=i/\rD gs i j g=j)\/(q=j/\rD gs i j g=i)):=by
  rcases hp with e|e
  ·refine ⟨i,e,?_,.inl ⟨rfl,?_⟩⟩<;>(unfold rD;rw [aA e])
   exact aY hij
  ·have h1:¬packetOf gs g=some i:=by rw [e];simpa using aY hij
   refine ⟨j,e,?_,.inr ⟨rfl,?_⟩⟩<;>(unfold rD;rw [au h1])
   exact hij
 obtain ⟨q,hq,hne,oQ⟩:=key
 generalize rD gs i j g=p at*
 have hsp:=sE hq hne
 have hi2:=EC W P (p:=p) (r:=i) hq
 have hu:=yu hq hne
 have Zp:uses (exchanged gs g p) i+1=uses gs i:=by
  have:=hu i
  rcases oQ with ⟨rfl,rfl⟩|⟨rfl,rfl⟩
  ·rw [au hij,aA rfl] at this
   lia
  ·rw [aA rfl] at this
   lia
 have Zq:uses (exchanged gs g p) j=uses gs j+1:=by
  have:=hu j
  rcases oQ with ⟨rfl,rfl⟩|⟨rfl,rfl⟩
  ·rw [aA rfl] at this
   lia
  ·rw [au (aY hij),aA rfl] at this
   lia
 have Zr:∀r,r≠i->r≠j->uses (exchanged gs g p) r=uses gs r:=λr h1 h2=>by
  have:=hu r
  rw [au (by rcases oQ with ⟨rfl,rfl⟩|⟨rfl,rfl⟩<;>assumption),au (by rcases oQ with ⟨rfl,rfl⟩|⟨rfl,rfl⟩<;>assumption)] at this
  lia
 have hs:=LN (f:=λq=>uses gs q*uses gs q) (f':=λq=>uses (exchanged gs g p) q*uses (exchanged gs g p) q) m1 l1 hij λr h1 h2=>by
  show uses (exchanged gs g p) r*uses (exchanged gs g p) r=_
  rw [Zr r h1 h2]
 rw [Zq] at hs
 unfold Iw
 have e1:uses gs i*uses gs i=uses (exchanged gs g p) i*uses (exchanged gs g p) i+2*uses (exchanged gs g p) i+1:=by
  rw [<-Zp,rF,rG];lia
 have e2:(uses gs j+1)*(uses gs j+1)=uses gs j*uses gs j+2*uses gs j+1:=by
  rw [rF,rG];lia
 lia
end Qm
end
section
namespace Qm
open Vbqzak
theorem ny (gs:List Game) (x y:Nat):plays gs x y=plays gs y x:=by
 unfold plays
 congr 1
 funext g
 rw [uU]
theorem pR {gs:List Game} {x y:Nat}:plays gs x y=true↔∃g∈gs,(g.a=x/\g.b=y)\/(g.a=y/\g.b=x):=by
 unfold plays
 rw [cD]
 simp only [bH,aR,cR]
theorem su (gs:List Game) (n:Nat):∀(k:Nat) (l:List Nat),reach gs n k l=mr (List.range n) (plays gs) k l
 |0,_=>rfl
 |k+1,l=>by
  show reach gs n k (near gs n l)=mr _ _ k (Cc _ _ l)
  rw [su gs n k]
  rfl
abbrev comp (gs:List Game) (n x:Nat):List Nat:=mr (List.range n) (plays gs) n [x]
section
variable {gs:List Game} {n:Nat}
theorem tf {x:Nat} (hx:x< n):x∈comp gs n x:=sD (by simpa using hx) _
theorem Br {x y:Nat} (hx:x< n) (hy:y∈comp gs n x):y< n:=by
 have:=mX (U:=List.range n) (by simpa using hx) n y hy
 simpa using this
theorem wV {x y z:Nat} (hx:x< n) (hz:z< n) (hy:y∈comp gs n x) (hp:plays gs z y=true):z∈comp gs n x:=
 nN gj (by simpa using hx) (by simp) (by simpa using hz) hy hp
theorem vT {x y:Nat} (hx:x< n) (hy:y∈comp gs n x):x∈comp gs n y:=
 Dq gj (ny gs) (by simpa using hx) (by simp) hy
theorem yt {x y z:Nat} (hx:x< n) (hy:y∈comp gs n x) (hz:z∈comp gs n y):z∈comp gs n x:=
 lz (U:=List.range n) (S:=λt=>t∈comp gs n x) (λa b ha hb hr=>wV hx (by simpa using ha) hb hr) n [y] (by simpa using hy) z hz
theorem Cv {x:Nat} (hx:x< n):(comp gs n x).Pairwise (·< ·):=by
 obtain ⟨k,rfl⟩:∃k,n=k+1:=⟨n-1,by lia⟩
 show (mr _ _ (k+1) _).Pairwise _
 rw [gC]
 exact lS _
theorem nG {x:Nat} (hx:x< n):rootOf gs n x∈comp gs n x/\∀y∈comp gs n x,rootOf gs n x<=y:=by
 unfold rootOf
 rw [su]
 have hr:=Cv (gs:=gs) hx
 have hm:=tf (gs:=gs) hx
 show ((comp gs n x).head?).getD x∈comp gs n x/\∀y∈comp gs n x,((comp gs n x).head?).getD x<=y
 cases e:comp gs n x with
 |nil=>rw [e] at hm;cases hm
 |cons a l=>
  rw [e] at hr
  refine ⟨aP,λy hy=> ?_⟩
  show a<=y
  rcases aX.mp hy with rfl|hy
  ·exact aF _
  ·exact dM ((fk.mp hr).1 y hy)
theorem Ba {x:Nat} (hx:x< n):rootOf gs n x< n:=Br hx (nG hx).1
theorem z5 {x r:Nat} (hx:x< n) (h1:r∈comp gs n x) (h2:∀y∈comp gs n x,r<=y):rootOf gs n x=r:=
 Nat.le_antisymm ((nG hx).2 r h1) (h2 _ (nG hx).1)
theorem zP {x y:Nat} (hx:x< n) (hy:y∈comp gs n x):rootOf gs n y=rootOf gs n x:=by
 have zK:=Br hx hy
 exact z5 zK (yt zK (vT hx hy) (nG hx).1) λz hz=>(nG hx).2 z (yt hx hy hz)
theorem Hv {x:Nat} (hx:x< n):rootOf gs n (rootOf gs n x)=rootOf gs n x:=zP hx (nG hx).1
theorem CK {r x:Nat} (hr:r< n) (hx:x∈comp gs n r):x∈mr (List.range n) (plays gs) (farFrom gs n r x) [r]/\∀k,k< farFrom gs n r x->x∉mr (List.range n) (plays gs) k [r]:=by
 unfold farFrom
 cases e:(List.range (n+1)).find? λk=>(reach gs n k [r]).contains x with
 |none=>
  have:=dt.mp e n (by simp)
  rw [su,cn] at this
  exact absurd hx this
 |some k=>
  obtain ⟨h1,h2,h3⟩:=c5.mp e
  rw [su,cn] at h1
  refine ⟨h1,λk' hk' hm=> ?_⟩
  have:=h3 k' hk'
  rw [su,oA,<-pG,cn] at this
  exact this hm
structure Sj (gs:List Game) (n:Nat) (col:Nat->Nat):Prop where
 LS:∀x,x< n->col x=0\/col x=1
 apart:∀x y,x< n->y< n->plays gs x y=true->col x≠col y
theorem FZ {col:Nat->Nat} (C:Sj gs n col) {r:Nat} (hr:r< n) (h0:col r=0):∀(k x:Nat),x∈mr (List.range n) (plays gs) k [r]->(∀k',k'< k->x∉mr (List.range n) (plays gs) k' [r])->col x=k % 2
 |0,x,hx,_=>by
  have:x=r:=by simpa [mr] using hx
  rw [this,h0]
 |k+1,x,hx,hn=>by
  have hsub:∀z∈[r],z∈List.range n:=by simpa using hr
  rw [gC] at hx
  obtain ⟨P8,hx|⟨y,hy,hp⟩⟩:=lP.mp hx
  ·exact absurd hx (hn k (by lia))
  ·have Zs:=mX hsub k y hy
   have zK:∀k',k'< k->y∉mr (List.range n) (plays gs) k' [r]:=λk' hk' hm=>by
    refine hn (k'+1) (by lia) ?_
    rw [gC]
    exact lP.mpr ⟨P8,.inr ⟨y,hm,hp⟩⟩
   have ih:=FZ C hr h0 k y hy zK
   have h1:=C.apart x y (by simpa using P8) (by simpa using Zs) hp
   have h2:=C.LS x (by simpa using P8)
   lia
theorem K3 {col:Nat->Nat} (C:Sj gs n col) {x:Nat} (hx:x< n) (h0:col (rootOf gs n x)=0):sideOf gs n x=col x:=by
 obtain ⟨h1,h2⟩:=CK (gs:=gs) (Ba (gs:=gs) hx) (vT hx (nG hx).1)
 rw [FZ C (Ba hx) h0 _ x h1 h2]
 rfl
theorem Hi {r:Nat} (hr:r< n) (h:rootOf gs n r=r):sideOf gs n r=0:=by
 unfold sideOf
 rw [h]
 obtain ⟨_,h2⟩:=CK (gs:=gs) hr (tf hr)
 have:farFrom gs n r r=0:=by
  apply a5
  intro hn
  exact h2 0 (by lia) (by simp [mr])
 rw [this]
theorem u0 (x:Nat):sideOf gs n x=0\/sideOf gs n x=1:=by
 unfold sideOf
 lia
theorem FP (h:twoSides gs n=true):Sj gs n (sideOf gs n) where
 LS:=λx _=>u0 x
 apart:=λx y _ _ hp=>by
  obtain ⟨g,hg,e⟩:=pR.mp hp
  unfold twoSides at h
  have:=dE.mp h g hg
  have:sideOf gs n g.a≠sideOf gs n g.b:=by simpa using this
  rcases e with ⟨rfl,rfl⟩|⟨rfl,rfl⟩
  ·exact this
  ·exact aY this
theorem EE {col:Nat->Nat} (C:Sj gs n col) (h0:∀r,r< n->rootOf gs n r=r->col r=0) (hin:∀g∈gs,g.a< n/\g.b< n):twoSides gs n=true/\∀x,x< n->sideOf gs n x=col x:=by
 have hs:∀x,x< n->sideOf gs n x=col x:=λx hx=>K3 C hx (h0 _ (Ba hx) (Hv hx))
 refine ⟨?_,hs⟩
 unfold twoSides
 rw [dE]
 intro g hg
 obtain ⟨ha,hb⟩:=hin g hg
 rw [hs _ ha,hs _ hb]
 have:=C.apart g.a g.b ha hb (pR.mpr ⟨g,hg,.inl ⟨rfl,rfl⟩⟩)
 simpa using this
theorem Au (h:twoSides gs n=true):∀g∈gs,(sideOf gs n g.a==0)≠(sideOf gs n g.b==0):=λg hg=>by
 unfold twoSides at h
 have:=dE.mp h g hg
 have h1:sideOf gs n g.a≠sideOf gs n g.b:=by simpa using this
 rcases u0 (gs:=gs) (n:=n) g.a with h2|h2<;>rcases u0 (gs:=gs) (n:=n) g.b with h3|h3<;>simp_all
end
end Qm
end
section
namespace Qm
open Vbqzak
theorem Gp {gs:List Game} {k:Nat} {x:Game}:(k,x)∈(List.range gs.length).zip gs↔gs[k]? =some x:=by
 constructor
 ·intro h
  obtain ⟨j,hj⟩:=a9.mp h
  rw [List.zip,iL] at hj
  cases e:gs[j]? with
  |none=>rw [e] at hj;cases h2:(List.range gs.length)[j]? <;>rw [h2] at hj<;>cases hj
  |some y=>
   have hl:=(ae.mp e).1
   rw [e,b9 hl] at hj
   have:=Option.some.inj hj
   have h1:j=k:=cS Prod.fst this
   have h2:y=x:=cS Prod.snd this
   rw [<-h1,<-h2]
   exact e
 ·intro h
  have hl:=(ae.mp h).1
  refine a9.mpr ⟨k,?_⟩
  rw [List.zip,iL,h,b9 hl]
theorem m4 {gs:List Game} {t q:Nat}:hears gs t q=true↔∃(k:Nat) (x:Game),gs[k]? =some x/\has x t=true/\x.p=some q:=by
 unfold hears
 rw [cD]
 constructor
 ·rintro ⟨x,hx,h⟩
  obtain ⟨k,hk⟩:=a9.mp hx
  rw [aR,cR] at h
  exact ⟨k,x,hk,h.1,h.2⟩
 ·rintro ⟨k,x,hk,h1,h2⟩
  exact ⟨x,aw hk,by rw [aR,cR];exact ⟨h1,h2⟩⟩
theorem pW {gs:List Game} {i q:Nat} {g:Game} (hi:gs[i]? =some g):clash gs i q=true↔∃(k:Nat) (x:Game),k≠i/\gs[k]? =some x/\x.p=some q/\(has x g.a=true\/has x g.b=true):=by
 unfold clash
 rw [hi]
 simp only
 rw [cD]
 constructor
 ·rintro ⟨⟨k,x⟩,hm,h⟩
  simp only [aR,bH,cR,bne_iff_ne,ne_eq] at h
  exact ⟨k,x,h.1,Gp.mp hm,h.2.1,h.2.2⟩
 ·rintro ⟨k,x,h1,h2,h3,h4⟩
  refine ⟨(k,x),Gp.mpr h2,?_⟩
  simp only [aR,bH,cR,bne_iff_ne,ne_eq]
  exact ⟨h1,h3,h4⟩
theorem xj {gs:List Game} {i q:Nat} {g:Game} (hi:gs[i]? =some g) (hg:g.p≠some q):clash gs i q=(hears gs g.a q||hears gs g.b q):=by
 rw [dW,pW hi,bH,m4,m4]
 constructor
 ·rintro ⟨k,x,_,h2,h3,h4|h4⟩
  ·exact .inl ⟨k,x,h2,h4,h3⟩
  ·exact .inr ⟨k,x,h2,h4,h3⟩
 ·rintro (⟨k,x,h2,h4,h3⟩|⟨k,x,h2,h4,h3⟩)
  ·refine ⟨k,x,λe=> ?_,h2,h3,.inl h4⟩
   subst e
   rw [hi] at h2
   exact hg (by rw [Option.some.inj h2];exact h3)
  ·refine ⟨k,x,λe=> ?_,h2,h3,.inr h4⟩
   subst e
   rw [hi] at h2
   exact hg (by rw [Option.some.inj h2];exact h3)
theorem HA {gs:List Game} (P:eT gs) {i q:Nat} {g:Game} (hi:gs[i]? =some g) (hg:g.p=some q):clash gs i q=false:=by
 cases e:clash gs i q with
 |false=>rfl
 |true=>
  obtain ⟨k,x,h1,h2,h3,h4⟩:=(pW hi).mp e
  have:=P k i x g q h1 h2 hi h3 hg
  have hm:meets x g=true:=by
   unfold meets
   rw [bH]
   exact h4
  rw [hm] at this
  cases this
theorem gL (gs:List Game) (i:Nat) (o:Option Nat) (k:Nat):(withPacket gs i o)[k]? =if i=k then gs[k]?.map (λg=>{g with p:=o}) else gs[k]? :=by
 unfold withPacket
 rw [List.getElem?_modify]
 split
 ·rfl
 ·cases gs[k]? <;>rfl
theorem pZ {gs:List Game} {i:Nat} {g:Game} (hi:gs[i]? =some g) (o:Option Nat):withPacket gs i o=gs.set i {g with p:=o}:=by
 apply bS
 intro k
 rw [gL]
 by_cases h:i=k
 ·subst h
  rw [aA rfl,cI (ae.mp hi).1,hi]
  rfl
 ·rw [au h,cO h]
theorem Hw {gs:List Game} {i:Nat} {g:Game} (hi:gs[i]? =some g):withPacket gs i g.p=gs:=by
 rw [pZ hi]
 apply bS
 intro k
 by_cases h:i=k
 ·subst h
  rw [cI (ae.mp hi).1,hi]
 ·rw [cO h]
theorem oW {gs:List Game} {i:Nat} {g:Game} (hi:gs[i]? =some g) (o:Option Nat) (k:Nat):packetOf (withPacket gs i o) k=if i=k then o else packetOf gs k:=by
 unfold packetOf
 rw [gL]
 by_cases h:i=k
 ·subst h
  rw [aA rfl,aA rfl,hi]
  rfl
 ·rw [au h,au h]
theorem oJ {gs:List Game} (P:eT gs) {i q:Nat} (h:clash gs i q=false):eT (withPacket gs i (some q)):=by
 cases hi:gs[i]? with
 |none=>
  have:withPacket gs i (some q)=gs:=by
   apply bS
   intro k
   rw [gL]
   split
   ·rename_i e;subst e;rw [hi];rfl
   ·rfl
  rw [this]
  exact P
 |some g=>
  intro k j x y r Nf hx hy vK wJ
  rw [gL] at hx hy
  have hno:∀(m:Nat) (z:Game),m≠i->gs[m]? =some z->z.p=some q->meets z g=false:=λm z h1 h2 h3=>by
   cases e:meets z g with
   |false=>rfl
   |true=>
    unfold meets at e
    rw [bH] at e
    rw [(pW hi).mpr ⟨m,z,h1,h2,h3,e⟩] at h
    cases h
  by_cases h1:i=k<;>by_cases h2:i=j
  ·exact absurd (h1.symm.trans h2) Nf
  ·rw [aA h1,<-h1,hi] at hx
   rw [au h2] at hy
   have hx:{g with p:=some q}=x:=Option.some.inj hx
   subst hx
   have hr:q=r:=Option.some.inj vK
   subst hr
   have:=hno j y (aY h2) hy wJ
   rw [uF] at this
   exact this
  ·rw [aA h2,<-h2,hi] at hy
   rw [au h1] at hx
   have hy:{g with p:=some q}=y:=Option.some.inj hy
   subst hy
   have hr:q=r:=Option.some.inj wJ
   subst hr
   exact hno k x (aY h1) hx vK
  ·rw [au h1] at hx
   rw [au h2] at hy
   exact P k j x y r Nf hx hy vK wJ
theorem wb {gs:List Game} (P:eT gs) (i:Nat):eT (withPacket gs i none):=by
 intro k j x y r Nf hx hy vK wJ
 rw [gL] at hx hy
 by_cases h1:i=k
 ·rw [aA h1] at hx
  cases e:gs[k]? with
  |none=>rw [e] at hx;cases hx
  |some z=>
   rw [e] at hx
   have hx:{z with p:=none}=x:=Option.some.inj hx
   subst hx
   cases vK
 ·by_cases h2:i=j
  ·rw [aA h2] at hy
   cases e:gs[j]? with
   |none=>rw [e] at hy;cases hy
   |some z=>
    rw [e] at hy
    have hy:{z with p:=none}=y:=Option.some.inj hy
    subst hy
    cases wJ
  ·rw [au h1] at hx
   rw [au h2] at hy
   exact P k j x y r Nf hx hy vK wJ
def pairsOf (gs:List Game):List (Nat×Nat):=gs.map λg=>(g.a,g.b)
theorem kN (gs:List Game) (i:Nat) (o:Option Nat):pairsOf (withPacket gs i o)=pairsOf gs:=by
 apply bS
 intro k
 unfold pairsOf
 rw [ay,ay,gL]
 split
 ·cases gs[k]? <;>rfl
 ·rfl
theorem iS (gs:List Game) (i p:Nat):pairsOf (exchanged gs i p)=pairsOf gs:=by
 cases h:packetOf gs i with
 |none=>
  unfold exchanged
  rw [h]
 |some q=>
  apply bS
  intro k
  unfold pairsOf
  rw [ay,ay,iG h]
  cases gs[k]? with
  |none=>rfl
  |some g=>
   show some (Game.a (if k∈chain gs i p then xk p q g else g),Game.b (if k∈chain gs i p then xk p q g else g))=some (g.a,g.b)
   split<;>rfl
theorem AJ (gs:List Game):pairsOf (gs.map λg=>{g with p:=none})=pairsOf gs:=by
 unfold pairsOf
 rw [cX]
 rfl
theorem fJ (gs:List Game):(pairsOf gs).length=gs.length:=by unfold pairsOf;rw [af]
theorem my {gs:List Game} {g:Game} (h:g∈gs):(g.a,g.b)∈pairsOf gs:=bC.mpr ⟨g,h,rfl⟩
theorem j9 (gs:List Game) (t:Nat):degree gs t=((pairsOf gs).filter λp=>p.1==t||p.2==t).length:=by
 unfold degree pairsOf has
 rw [List.filter_map,af]
 rfl
theorem wR {gs:List Game} {c t:Nat} {g:Game} (hg:g∈gs) (ht:has g t=true) (hp:g.p=none) (hd:degree gs t<=c):∃q,(List.range c).find? (λq=> !hears gs t q)=some q:=by
 cases e:(List.range c).find? λq=> !hears gs t q with
 |some q=>exact ⟨q,rfl⟩
 |none=>
  exfalso
  have hall:∀q,q< c->hears gs t q=true:=λq hq=>by
   have:=dt.mp e q (by simpa using hq)
   simpa using this
  have h1:(none::(List.range c).map some).Nodup:=by
   refine c9.mpr ⟨by simp,?_⟩
   rw [m9,eV]
   exact dZ.imp λh e=>bO h (Option.some.inj e)
  have h2:=bI (l₂:=(gs.filter λg=>has g t).map (·.p)) h1 λo ho=>by
   rcases aX.mp ho with rfl|ho
   ·exact bC.mpr ⟨g,bU.mpr ⟨hg,ht⟩,hp⟩
   ·obtain ⟨q,hq,rfl⟩:=bC.mp ho
    obtain ⟨k,x,hk,P9,Pq⟩:=m4.mp (hall q (by simpa using hq))
    exact bC.mpr ⟨x,bU.mpr ⟨aw hk,P9⟩,Pq⟩
  rw [aB,af,aM,af] at h2
  unfold degree at hd
  lia
theorem mH {gs:List Game} {c i:Nat} {g:Game} (hi:gs[i]? =some g) (hp:g.p=none):firstFree gs c i=(List.range c).find? λq=> !(hears gs g.a q||hears gs g.b q):=by
 unfold firstFree
 congr 1
 funext q
 rw [xj hi (by rw [hp];simp)]
theorem z6 {gs:List Game} {c i:Nat} {g:Game} {side:Nat->Bool} (P:eT gs) (sR:∀x∈gs,side x.a≠side x.b) (hi:gs[i]? =some g) (hp:g.p=none) (Ng:degree gs g.a<=c) (hdb:degree gs g.b<=c):
  (∃q,firstFree gs c i=some q/\q< c/\placed c gs i=withPacket gs i (some q)/\eT (placed c gs i))\/
  (firstFree gs c i=none/\∃a b j,(List.range c).find? (λq=> !hears gs g.a q)=some a/\(List.range c).find? (λq=> !hears gs g.b q)=some b/\(gs.findIdx? λh=>has h g.b&&h.p==some a)=some j/\
   packetOf gs j=some a/\a≠b/\a< c/\b< c/\i∉chain gs j b/\placed c gs i=withPacket (exchanged gs j b) i (some a)/\eT (placed c gs i)):=by
 cases hf:firstFree gs c i with
 |some q=>
  left
  have e:placed c gs i=withPacket gs i (some q):=by unfold placed;rw [hf]
  have hq:=hf
  unfold firstFree at hq
  obtain ⟨h1,h2,_⟩:=c5.mp hq
  refine ⟨q,rfl,by simpa using h2,e,?_⟩
  rw [e]
  exact oJ P (by simpa using h1)
 |none=>
  right
  refine ⟨rfl,?_⟩
  have hmem:=aw hi
  obtain ⟨a,ha⟩:=wR hmem (CW g) hp Ng
  obtain ⟨b,hb⟩:=wR hmem (DI g) hp hdb
  obtain ⟨a1,a2,_⟩:=c5.mp ha
  obtain ⟨b1,b2,_⟩:=c5.mp hb
  have a1:hears gs g.a a=false:=by simpa using a1
  have b1:hears gs g.b b=false:=by simpa using b1
  have TX:hears gs g.b a=true:=by
   rw [mH hi hp] at hf
   have:=dt.mp hf a a2
   simp only [a1,oS,oA,pG] at this
   simpa using this
  have hab:a≠b:=λe=>by
   subst e
   rw [b1] at TX
   cases TX
  obtain ⟨j0,y0,Zt,Zu,WR⟩:=m4.mp TX
  obtain ⟨j,hj⟩:∃j,(gs.findIdx? λh=>has h g.b&&h.p==some a)=some j:=by
   refine ez.mp ?_
   rw [List.findIdx?_isSome,cD]
   exact ⟨y0,aw Zt,by rw [Zu,WR];simp⟩
  obtain ⟨hjl,Qb,_⟩:=eR.mp hj
  rw [aR,cR] at Qb
  have WS:gs[j]? =some gs[j]:=ab hjl
  have Il:packetOf gs j=some a:=by rw [ck WS];exact Qb.2
  have TY:i∉chain gs j b:=λhm=>by
   have:=eX Il hm
   rw [ck hi,hp] at this
   rcases this with h|h<;>cases h
  have e:placed c gs i=withPacket (exchanged gs j b) i (some a):=by
   unfold placed
   rw [hf]
   simp only
   rw [hi]
   simp only
   rw [ha,hb]
   simp only
   rw [hj]
  have Yt:∀(k:Nat) (x:Game),gs[k]? =some x->has x g.b=true->x.p≠some b:=λk x h1 h2 h3=>by
   rw [m4.mpr ⟨k,x,h1,h2,h3⟩] at b1
   cases b1
  have Yu:∀(k:Nat) (x:Game),gs[k]? =some x->has x g.a=true->x.p≠some a:=λk x h1 h2 h3=>by
   rw [m4.mpr ⟨k,x,h1,h2,h3⟩] at a1
   cases a1
  have Zv:=CI P sR hab WS Qb.2 Qb.1 Yt Yu (λe=>sR g hmem e.symm)
  refine ⟨a,b,j,ha,hb,hj,Il,hab,by simpa using a2,by simpa using b2,TY,e,?_⟩
  rw [e]
  have PE:=ly Il (aY hab) P
  refine oJ PE ?_
  cases hcl:clash (exchanged gs j b) i a with
  |false=>rfl
  |true=>
   exfalso
   have Zw:(exchanged gs j b)[i]? =some g:=by
    rw [iG Il,hi]
    show some (if i∈chain gs j b then _ else g)=some g
    rw [au TY]
   obtain ⟨k,x,_,hx,Nh,WT⟩:=(pW Zw).mp hcl
   obtain ⟨z,hz,za,zb,oQ⟩:=i5 Il hx
   have TZ:∀t,has x t=has z t:=λt=>by unfold has;rw [za,zb]
   rw [TZ,TZ] at WT
   rcases oQ with ⟨hk,rfl⟩|⟨hk,rfl⟩
   ·rw [vB] at Nh
    have Zx:z.p=some b:=by
     apply a5
     intro hn
     rw [au hn] at Nh
     exact hab (Option.some.inj Nh).symm
    rcases WT with h|h
    ·have:=Zv k hk z hz
     rw [h] at this
     cases this
    ·exact Yt k z hz h Zx
   ·rcases WT with h|h
    ·exact Yu k x hz h Nh
    ·have:k=j:=qR P hz WS Nh Qb.2 h Qb.1
     subst this
     exact hk (nJ Il)
structure A7 (c:Nat) (g0:List Game) (i:Nat) (gs:List Game):Prop where
 j7:pairsOf gs=pairsOf g0
 fH:eT gs
 done:∀(k:Nat) (x:Game),gs[k]? =some x->k< i->∃q,q< c/\x.p=some q
 left:∀(k:Nat) (x:Game),gs[k]? =some x->i<=k->x.p=none
theorem A7.start (c:Nat) (g0:List Game):A7 c g0 0 (g0.map λg=>{g with p:=none}) where
 j7:=AJ g0
 fH:=λi j x y q _ hx _ Qc=>by
  rw [ay] at hx
  cases e:g0[i]? with
  |none=>rw [e] at hx;cases hx
  |some z=>
   rw [e] at hx
   have hx:{z with p:=none}=x:=Option.some.inj hx
   subst hx
   cases Qc
 done:=λk x _ h=>by lia
 left:=λk x hx _=>by
  rw [ay] at hx
  cases e:g0[k]? with
  |none=>rw [e] at hx;cases hx
  |some z=>
   rw [e] at hx
   have hx:{z with p:=none}=x:=Option.some.inj hx
   subst hx
   rfl
theorem yZ {g0 gs:List Game} {side:Nat->Bool} (e:pairsOf gs=pairsOf g0) (h:∀x∈g0,side x.a≠side x.b):∀x∈gs,side x.a≠side x.b:=λx hx=>by
 have:=my hx
 rw [e] at this
 obtain ⟨y,hy,e2⟩:=bC.mp this
 have h1:y.a=x.a:=cS Prod.fst e2
 have h2:y.b=x.b:=cS Prod.snd e2
 rw [<-h1,<-h2]
 exact h y hy
theorem A7.step {c:Nat} {g0 gs:List Game} {i:Nat} {g:Game} {side:Nat->Bool} (A:A7 c g0 i gs) (sR:∀x∈g0,side x.a≠side x.b) (hd:∀x∈g0,degree g0 x.a<=c/\degree g0 x.b<=c) (hi:gs[i]? =some g):
  A7 c g0 (i+1) (placed c gs i):=by
 have hp:=A.left i g hi (aF _)
 have hs:=yZ A.j7 sR
 have Kv:degree gs g.a<=c/\degree gs g.b<=c:=by
  have hm:=my (aw hi)
  rw [A.j7] at hm
  obtain ⟨y,hy,e2⟩:=bC.mp hm
  have h1:y.a=g.a:=cS Prod.fst e2
  have h2:y.b=g.b:=cS Prod.snd e2
  have:=hd y hy
  rw [j9,j9,<-A.j7,<-j9,<-j9,h1,h2] at this
  exact this
 rcases z6 A.fH hs hi hp Kv.1 Kv.2 with ⟨q,_,hq,e,P⟩|⟨_,a,b,j,_,_,_,Il,hab,hac,Yv,TY,e,P⟩
 ·refine ⟨by rw [e,kN];exact A.j7,P,λk x hx hk=> ?_,λk x hx hk=> ?_⟩
  ·rw [e,gL] at hx
   by_cases h:i=k
   ·subst h
    rw [aA rfl,hi] at hx
    have hx:{g with p:=some q}=x:=Option.some.inj hx
    subst hx
    exact ⟨q,hq,rfl⟩
   ·rw [au h] at hx
    exact A.done k x hx (by lia)
  ·rw [e,gL,au (by lia)] at hx
   exact A.left k x hx (by lia)
 ·refine ⟨by rw [e,kN,iS];exact A.j7,P,λk x hx hk=> ?_,λk x hx hk=> ?_⟩
  ·rw [e,gL] at hx
   by_cases h:i=k
   ·subst h
    rw [aA rfl] at hx
    cases e2:(exchanged gs j b)[i]? with
    |none=>rw [e2] at hx;cases hx
    |some z=>
     rw [e2] at hx
     have hx:{z with p:=some a}=x:=Option.some.inj hx
     subst hx
     exact ⟨a,hac,rfl⟩
   ·rw [au h] at hx
    obtain ⟨z,hz,_,_,oQ⟩:=i5 Il hx
    rcases oQ with ⟨_,rfl⟩|⟨_,rfl⟩
    ·rw [vB]
     split
     ·exact ⟨a,hac,rfl⟩
     ·exact ⟨b,Yv,rfl⟩
    ·exact A.done k x hz (by lia)
  ·rw [e,gL,au (by lia)] at hx
   obtain ⟨z,hz,_,_,oQ⟩:=i5 Il hx
   rcases oQ with ⟨hk2,rfl⟩|⟨_,rfl⟩
   ·have:=eX Il hk2
    rw [ck hz,A.left k z hz (by lia)] at this
    rcases this with h|h<;>cases h
   ·exact A.left k x hz (by lia)
theorem An (gs:List Game) (c i:Nat):(List.range (i+1)).foldl (placed c) gs=placed c ((List.range i).foldl (placed c) gs) i:=by
 rw [cT,fM]
 rfl
theorem vA {gs:List Game} {n c:Nat} (h:tooMany gs n c=none) {t:Nat} (ht:t< n):degree gs t<=c:=by
 unfold tooMany at h
 have:=dt.mp h t (by simpa using ht)
 simpa using this
def i6 (c:Nat) (gs:List Game) (i:Nat):List Game:=match packetOf gs i with
 |some _=>gs
 |none=>match firstFree gs c i with
  |none=>gs
  |some q=>withPacket gs i (some q)
theorem HP (gs:List Game) (c:Nat):greedy gs c=(List.range gs.length).foldl (i6 c) gs:=rfl
theorem Fc {c:Nat} {gs:List Game} {i q:Nat} (h:packetOf gs i=some q):i6 c gs i=gs:=by unfold i6;rw [h]
theorem DO {c:Nat} {gs:List Game} {i k:Nat} (h:i≠k):(i6 c gs i)[k]? =gs[k]? :=by
 unfold i6
 split
 ·rfl
 ·split
  ·rfl
  ·rw [gL,au h]
theorem BK {c:Nat} {gs:List Game} (P:eT gs) (i:Nat):eT (i6 c gs i):=by
 unfold i6
 split
 ·exact P
 ·split
  ·exact P
  ·rename_i q hq
   unfold firstFree at hq
   have h1:=(c5.mp hq).1
   exact oJ P (by simpa using h1)
theorem D4 (c:Nat) (gs:List Game) (i:Nat):pairsOf (i6 c gs i)=pairsOf gs:=by
 unfold i6
 split
 ·rfl
 ·split
  ·rfl
  ·exact kN _ _ _
end Qm
end
section
namespace Qm
open Vbqzak
def W (gs:List Game) (n:Nat):Nat->Nat->Nat->Bool
 |0,x,y=>x==y
 |k+1,x,y=>(List.range n).any λz=>plays gs x z&&W gs n k z y
section
variable {gs:List Game} {n:Nat}
theorem qE {k x y:Nat}:W gs n (k+1) x y=true↔∃z,z< n/\plays gs x z=true/\W gs n k z y=true:=by
 show ((List.range n).any _)=true↔_
 rw [cD]
 simp only [cQ,aR]
theorem Bl:∀{j:Nat} {k x z y:Nat},W gs n j x z=true->W gs n k z y=true->W gs n (j+k) x y=true
 |0,k,x,z,y,h1,h2=>by
  have:x=z:=by simpa [W] using h1
  rw [uV,this]
  exact h2
 |j+1,k,x,z,y,h1,h2=>by
  obtain ⟨w,hw,hp,h1⟩:=qE.mp h1
  have e:j+1+k=(j+k)+1:=by lia
  rw [e]
  exact qE.mpr ⟨w,hw,hp,Bl h1 h2⟩
theorem MR {x y:Nat} (hy:y< n) (h:plays gs x y=true):W gs n 1 x y=true:=qE.mpr ⟨y,hy,h,by simp [W]⟩
structure Ic (gs:List Game) (n:Nat) (l:List Nat):Prop where
 lt:∀u∈l,u< n
 next:∀(i u v:Nat),l[i]? =some u->l[i+1]? =some v->plays gs u v=true
theorem Ic.W {l:List Nat} (w:Ic gs n l):∀(j i u v:Nat),l[i]? =some u->l[i+j]? =some v->Qm.W gs n j u v=true
 |0,i,u,v,hu,hv=>by
  have:u=v:=by
   have hv:l[i]? =some v:=hv
   rw [hu] at hv
   exact Option.some.inj hv
  simp [Qm.W,this]
 |j+1,i,u,v,hu,hv=>by
  have hl:i+(j+1)< l.length:=(ae.mp hv).1
  have h1:l[i+1]? =some l[i+1]:=ab (by lia)
  refine qE.mpr ⟨l[i+1],w.lt _ (fm _),w.next i u _ hu h1,?_⟩
  exact w.W j (i+1) _ v h1 (by rw [<-hv];congr 1;lia)
theorem Ic.snoc {l:List Nat} {x z:Nat} (w:Ic gs n l) (hx:l.getLast? =some x) (hz:z< n) (h:plays gs x z=true):Ic gs n (l++[z]) where
 lt:=λu hu=>by
  rcases aI.mp hu with hu|hu
  ·exact w.lt u hu
  ·have:u=z:=by simpa using hu
   rw [this];exact hz
 next:=λi u v hu hv=>by
  rcases oB (i+1) l.length with hi|hi|hi
  ·rw [bP (by lia)] at hu
   rw [bP hi] at hv
   exact w.next i u v hu hv
  ·rw [bP (by lia)] at hu
   rw [bJ (by lia),hi,Nat.sub_self] at hv
   have hv:z=v:=by simpa using hv
   rw [oo,<-hi,jP,hu] at hx
   rw [Option.some.inj hx,<-hv]
   exact h
  ·rw [bJ (by lia)] at hv
   have:1<=i+1-l.length:=by lia
   rw [bq (by simpa using this)] at hv
   cases hv
def y3 (gs:List Game) (n L:Nat):Prop:=∀m,m< L->m % 2=1->∀x,x< n->W gs n m x x=false
def wf (gs:List Game) (n home:Nat):Nat->Nat->List Nat
 |0,_=>[]
 |k+1,x=>match (List.range n).find? λz=>plays gs x z&&W gs n (k+1) z home with
  |none=>[]
  |some z=>z::wf gs n home k z
theorem uw:∀(k:Nat) (l r:List Nat) (home x:Nat),l.head? =some home->l.getLast? =some x->home< n->ringFrom gs n k l=some r->W gs n (k+1) x home=true
 |0,l,r,home,x,hh,hx,hn,h=>by
  unfold ringFrom at h
  rw [hh,hx] at h
  simp only at h
  split at h
  ·rename_i hp
   exact MR hn (by rw [ny];exact hp)
  ·cases h
 |k+1,l,r,home,x,hh,hx,hn,h=>by
  unfold ringFrom at h
  obtain ⟨y,hy,h⟩:=eW h
  split at h
  ·cases h
  ·rw [hx] at h
   simp only at h
   split at h
   ·rename_i hp
    refine qE.mpr ⟨y,by simpa using hy,hp,?_⟩
    refine uw k (l++[y]) r home y ?_ (by simp) hn h
    cases l with
    |nil=>cases hh
    |cons a l=>exact hh
   ·cases h
theorem rT {β:Type} {f:Nat->Option β} {n z:Nat} {r:β} (hz:z< n) (h:f z=some r) (hn:∀y,y< z->f y=none):(List.range n).findSome? f=some r:=by
 have e:List.range n=List.range z++(z::(List.range (n-z-1)).map (·+(z+1))):=by
  apply bS
  intro i
  rcases oB i z with hi|hi|hi
  ·rw [bP (by simpa using hi),b9 hi,b9 (by lia)]
  ·subst hi
   rw [bJ (by simp),b9 hz]
   simp
  ·rw [bJ (by simp;lia)]
   rw [aM]
   obtain ⟨m,hm⟩:∃m,i-z=m+1:=⟨i-z-1,by lia⟩
   rw [hm,pH,ay]
   by_cases hin:i< n
   ·rw [b9 hin,b9 (by lia)]
    show some i=some (m+(z+1))
    congr 1
    lia
   ·rw [bq (by simpa using hin),bq (by simp;lia)]
    rfl
 rw [e,List.findSome?_append]
 have h0:(List.range z).findSome? f=none:=by
  rw [nc]
  intro y hy
  exact hn y (by simpa using hy)
 rw [h0,cB,h]
 rfl
theorem Af {L home:Nat} (hL:L % 2=1) (hno:y3 gs n L) (hh:home< n):∀(k:Nat) (l:List Nat) (x:Nat),l.length+k=L->l.head? =some home->l.getLast? =some x->Ic gs n l->W gs n (k+1) x home=true->
  ringFrom gs n k l=some (l++wf gs n home k x)
 |0,l,x,hlen,vL,hx,w,hw=>by
  unfold ringFrom wf
  rw [vL,hx]
  simp only
  obtain ⟨z,hz,hp,e⟩:=qE.mp hw
  have e:z=home:=by simpa [W] using e
  rw [e,ny] at hp
  rw [aA hp,bR]
 |k+1,l,x,hlen,vL,hx,w,hw=>by
  obtain ⟨z,hz⟩:∃z,(List.range n).find? (λz=>plays gs x z&&W gs n (k+1) z home)=some z:=by
   refine ez.mp ?_
   rw [oz]
   obtain ⟨z,hz,hp,e⟩:=qE.mp hw
   exact ⟨z,by simpa using hz,by rw [hp,e];rfl⟩
  obtain ⟨h1,h2,h3⟩:=c5.mp hz
  rw [aR] at h1
  have AA:z< n:=by simpa using h2
  have TN:0< l.length:=by
   cases l with
   |nil=>cases vL
   |cons a l=>simp
  have T1:l[l.length-1]? =some x:=by rw [<-oo];exact hx
  have Pu:l[0]? =some home:=by
   cases l with
   |nil=>cases vL
   |cons a l=>exact vL
  have hzl:z∉l:=λhm=>by
   obtain ⟨i,hi⟩:=a9.mp hm
   have hil:i< l.length:=(ae.mp hi).1
   have w1:W gs n (l.length-1-i) z x=true:=w.W _ i z x hi (by rw [<-T1];congr 1;lia)
   have w2:=Bl w1 (MR AA h1.1)
   have w3:W gs n i home z=true:=w.W i 0 home z Pu (by rw [uV];exact hi)
   have w4:=Bl w3 h1.2
   by_cases ho:(l.length-1-i+1) % 2=1
   ·have:=hno _ (by lia) ho z AA
    rw [w2] at this
    cases this
   ·have:=hno (i+(k+1)) (by lia) (by lia) home hh
    rw [w4] at this
    cases this
  have ih:=Af hL hno hh k (l++[z]) z (by rw [ao];simp;lia) (by
   cases l with
   |nil=>cases vL
   |cons a l=>exact vL) (by simp) (w.snoc hx AA h1.1) h1.2
  have WU:wf gs n home (k+1) x=z::wf gs n home k z:=by
   show (match (List.range n).find? (λz=>plays gs x z&&W gs n (k+1) z home) with
    |none=>[]
    |some z=>z::wf gs n home k z)=_
   rw [hz]
  rw [WU]
  unfold ringFrom
  refine rT AA ?_ λy hy=> ?_
  ·rw [au (λq=>hzl (cn.mp q)),hx]
   simp only
   rw [aA h1.1,ih,dN]
   rfl
  ·split
   ·rfl
   ·rw [hx]
    simp only
    split
    ·rename_i hp
     cases e:ringFrom gs n k (l++[y]) with
     |none=>rfl
     |some r=>
      have:=uw k (l++[y]) r home y (by
       cases l with
       |nil=>cases vL
       |cons a l=>exact vL) (by simp) hh e
      have h4:=h3 y hy
      rw [hp,this] at h4
      cases h4
    ·rfl
theorem sq:∀(k:Nat) (l r:List Nat),l.Nodup->(∀u∈l,u< n)->ringFrom gs n k l=some r->l.length+k<=n
 |0,l,r,hn,hl,_=>by
  have:=bI (l₂:=List.range n) hn λu hu=>by simpa using hl u hu
  simpa using this
 |k+1,l,r,hn,hl,h=>by
  unfold ringFrom at h
  obtain ⟨y,hy,h5⟩:=eW h
  split at h5
  ·cases h5
  ·rename_i hc
   have hyl:y∉l:=λhm=>hc (cn.mpr hm)
   have zK:y< n:=by simpa using hy
   cases hx:l.getLast? with
   |none=>
    rw [hx] at h5
    simp only at h5
    have:l=[]:=gu.mp hx
    subst this
    have:=sq k [y] r (by simp) (by simpa using zK) h5
    simp at this ⊢
    lia
   |some x=>
    rw [hx] at h5
    simp only at h5
    split at h5
    ·have:=sq k (l++[y]) r (cc.mpr ⟨hn,by simp,λa ha b hb e=>by
      have:b=y:=by simpa using hb
      subst this
      subst e
      exact hyl ha⟩) (λu hu=>by
       rcases aI.mp hu with hu|hu
       ·exact hl u hu
       ·have:u=y:=by simpa using hu
        rw [this];exact zK) h5
     rw [ao,iK] at this
     lia
    ·cases h5
theorem CO (k:Nat):ringFrom gs n (k+1) []=(List.range n).findSome? λy=>ringFrom gs n k [y]:=rfl
theorem Gs {L home:Nat} (hL:L % 2=1) (h1:1< L) (hno:y3 gs n L) (hh:home< n):ringFrom gs n (L-1) [home]=if W gs n L home home=true then some (home::wf gs n home (L-1) home) else none:=by
 split
 ·rename_i hw
  have:=Af hL hno hh (L-1) [home] home (by simp;lia) rfl rfl ⟨by simpa using hh,λi u v hu hv=>by simp at hv⟩ (by rw [show L-1+1=L by lia];exact hw)
  rw [this]
  rfl
 ·rename_i hw
  cases e:ringFrom gs n (L-1) [home] with
  |none=>rfl
  |some r=>
   have:=uw (L-1) [home] r home home rfl rfl hh e
   rw [show L-1+1=L by lia] at this
   exact absurd this hw
theorem DS (Wg:Wf gs):y3 gs n 3:=λm hm ho x hx=>by
 have:m=1:=by lia
 subst this
 cases e:W gs n 1 x x with
 |false=>rfl
 |true=>
  obtain ⟨z,_,hp,hz⟩:=qE.mp e
  have hz:z=x:=by simpa [W] using hz
  rw [hz] at hp
  obtain ⟨g,hg,h⟩:=pR.mp hp
  have:=Wg g hg
  rcases h with ⟨h1,h2⟩|⟨h1,h2⟩<;>exact absurd (h1.trans h2.symm) this
theorem Ff {L:Nat} (hno:y3 gs n L) (h:∀x,x< n->W gs n L x x=false) (hL:L % 2=1):y3 gs n (L+2):=λm hm ho x hx=>by
 by_cases h1:m< L
 ·exact hno m h1 ho x hx
 ·have:m=L:=by lia
  subst this
  exact h x hx
theorem qA (Wg:Wf gs):∀i,(∀i',i'< i->∀x,x< n->W gs n (3+2*i') x x=false)->y3 gs n (3+2*i)
 |0,_=>DS Wg
 |i+1,h=>by
  have ih:=qA Wg i λi' hi'=>h i' (by lia)
  have:=Ff ih (h i (by lia)) (by lia)
  exact this
theorem ve {L:Nat} (hL:L % 2=1) (h1:1< L) (hno:y3 gs n L) (h:∀x,x< n->W gs n L x x=false):ringFrom gs n L []=none:=by
 obtain ⟨k,rfl⟩:∃k,L=k+1:=⟨L-1,by lia⟩
 rw [CO,nc]
 intro y hy
 have:=Gs hL h1 hno (home:=y) (by simpa using hy)
 rw [jP] at this
 rw [this,h y (by simpa using hy)]
 rfl
theorem E5 (i:Nat) (hi:i< 4) (r:List Nat) (h0:∀i',i'< i->ringFrom gs n (3+2*i') []=none) (h:ringFrom gs n (3+2*i) []=some r):oddRing gs n=r:=by
 unfold oddRing
 match i,hi with
 |0,_=>
  have h:ringFrom gs n 3 []=some r:=h
  rw [cB,h]
  rfl
 |1,_=>
  have a0:ringFrom gs n 3 []=none:=h0 0 (by lia)
  have h:ringFrom gs n 5 []=some r:=h
  rw [cB,a0,cB,h]
  rfl
 |2,_=>
  have a0:ringFrom gs n 3 []=none:=h0 0 (by lia)
  have a1:ringFrom gs n 5 []=none:=h0 1 (by lia)
  have h:ringFrom gs n 7 []=some r:=h
  rw [cB,a0,cB,a1,cB,h]
  rfl
 |3,_=>
  have a0:ringFrom gs n 3 []=none:=h0 0 (by lia)
  have a1:ringFrom gs n 5 []=none:=h0 1 (by lia)
  have a2:ringFrom gs n 7 []=none:=h0 2 (by lia)
  have h:ringFrom gs n 9 []=some r:=h
  rw [cB,a0,cB,a1,cB,a2,cB,h]
  rfl
theorem Fm (Wg:Wf gs) {i home:Nat} (hi:i< 4) (h0:∀i',i'< i->∀x,x< n->W gs n (3+2*i') x x=false) (hh:home< n) (h1:∀x,x< home->W gs n (3+2*i) x x=false) (h:W gs n (3+2*i) home home=true):
  oddRing gs n=home::wf gs n home (2+2*i) home:=by
 refine E5 i hi _ (λi' hi'=>ve (by lia) (by lia) (qA Wg i' λj hj=>h0 j (by lia)) (h0 i' hi')) ?_
 have hno:=qA Wg i h0
 have e:3+2*i=(2+2*i)+1:=by lia
 have hat:∀y,y< n->ringFrom gs n (2+2*i) [y]=if W gs n (3+2*i) y y=true then some (y::wf gs n y (2+2*i) y) else none:=λy hy=>by
  have:=Gs (L:=3+2*i) (by lia) (by lia) hno hy
  rw [show 3+2*i-1=2+2*i by lia] at this
  exact this
 rw [show ringFrom gs n (3+2*i) []=ringFrom gs n ((2+2*i)+1) [] by rw [e],CO]
 refine rT hh ?_ λy hy=> ?_
 ·rw [hat home hh,aA h]
 ·rw [hat y (by lia),au (by rw [h1 y hy];simp)]
theorem G0 (Wg:Wf gs) (hn:n<=10) (h:∀i,3+2*i<=n->∀x,x< n->W gs n (3+2*i) x x=false):oddRing gs n=[]:=by
 have key:∀i,ringFrom gs n (3+2*i) []=none:=λi=>by
  by_cases hi:3+2*i<=n
  ·exact ve (by lia) (by lia) (qA Wg i λj hj=>h j (by lia)) (h i hi)
  ·cases e:ringFrom gs n (3+2*i) [] with
   |none=>rfl
   |some r=>
    have:=sq (3+2*i) [] r (by simp) (by simp) e
    simp at this
    lia
 unfold oddRing
 have a0:ringFrom gs n 3 []=none:=key 0
 have a1:ringFrom gs n 5 []=none:=key 1
 have a2:ringFrom gs n 7 []=none:=key 2
 have a3:ringFrom gs n 9 []=none:=key 3
 rw [cB,a0,cB,a1,cB,a2,cB,a3]
 rfl
end
end Qm
end
section
namespace Qz
open PySem PySem.Spec PyProof.Rows L2
theorem fI {K:PySem.W.Frag} {C:Addr} {f:Str} {fs:List (Str×V)} {a:Addr} {H:Hp} {dx:Addr} {v:V} {Q:V->Prop} (h:H a=some (.ke C dx fs)) (c:Ek K C) (n:jS K C f) (l:fs.lookup f=some v) (q:Q v):∃a' C dx fs v,V.ref a=V.ref a'/\H a'=some (.ke C dx fs)/\Ek K C/\jS K C f/\fs.lookup f=some v/\Q v:=⟨_,_,_,_,_,rfl,h,c,n,l,q⟩
theorem xI {S:Addr->List V->Prop} {p:Addr} {xs:List V} {i:Int} {v:V} {Q:V->Prop} (h:S p xs) (e:Dj xs i=some v) (q:Q v):∃p' Yw i' v',V.ref p=V.ref p'/\V.int i=V.int i'/\S p' Yw/\Dj Yw i'=some v'/\Q v':=⟨_,_,_,_,rfl,rfl,h,e,q⟩
def iB (i:Nat):Stmt:=PySem.Challenge.pw_quizpackets_s01_answers.main.body.getD i (.Pass ⟨0,0,0,0⟩)
abbrev Gm:=Vbqzak.Game
def pk (o:Option Nat):Int:=match o with
 |none=> -1
 |some k=>(k:Int)
theorem Pk {a b:Option Nat} (h:pk a=pk b):a=b:=by
 cases a<;>cases b<;>simp [pk] at h ⊢<;>lia
theorem BR {a:Option Nat} {q:Nat}:pk a=(q:Int)↔a=some q:=by
 cases a<;>simp [pk]
 all_goals lia
def gf (g:Gm):List (Str×V):=[("first",.int g.a),("second",.int g.b),("packet",.int (pk g.p))]
theorem jC (g:Gm):(gf g).lookup ("first":Str)=some (.int g.a):=by
 unfold gf
 rfl
theorem gX (g:Gm):(gf g).lookup ("second":Str)=some (.int g.b):=rfl
theorem eQ (g:Gm):(gf g).lookup ("packet":Str)=some (.int (pk g.p)):=rfl
theorem JY (g:Gm) (o:Option Nat):kd "packet" (.int (pk o)) (gf g)=gf {g with p:=o}:=rfl
section
variable (P:Program) (w:World) (K:PySem.W.Frag) (mg:Str->Option Value) (base:Heap)
def dQ (k:Nat) (x:Str) (ps:List Str) (sp:Sp):Prop:=∃f fd,mg x=some (.ref f)/\PySem.W.keepIn K (.ref f)=true/\p7 K fd ps []/\pQ P w K mg base JD k f fd ps sp
def ph (k:Nat) (C:Addr) (m:Str) (ps:List Str) (sp:Sp):Prop:=∃f fd,JF K C m f/\p7 K fd ps []/\pQ P w K mg base JD k f fd ps sp
def P2 (k:Nat) (x:Str) (C:Addr) (ps:List Str) (sp:Sp):Prop:=∃f fd,mg x=some (.ref C)/\Mk K C f/\p7 K fd ps []/\pQ P w K mg base JD k f fd ps sp
end
def GC (mg:Str->Option Value) (x:Str) (v:V):Prop:=∃u,mg x=some u/\dP v u
def Df (K:PySem.W.Frag) (mg:Str->Option Value) (x:Str) (st:Stmt):Prop:=∃f fd,mg x=some (.ref f)/\Iy K x x st f fd
def Dm (K:PySem.W.Frag) (C:Addr) (m qual:Str) (st:Stmt):Prop:=∃f fd,JF K C m f/\Iy K m qual st f fd
section
variable {X:Cx} {k:Nat} {C:Addr} {x m:Str} {ps:List Str} {sp:Sp} {p pos apos:Pos} {e o:Expr} {es:List Expr} {ta:TE} {t:TA} {v:V}
theorem bW {P:Program} {w:World} {K:PySem.W.Frag} {mg:Str->Option Value} {base:Heap} {A:Around} (c:dQ P w K mg base k x ps sp) (hr:jE k A) (ha:PA X (e::es) t) (e1:X.prog=P:=by rfl) (e2:X.w=w:=by rfl) (e3:X.K=K:=by rfl) (e4:X.mg=mg:=by rfl) (e5:X.base=base:=by rfl) (e6:X.A=A:=by rfl) (hg:Gl X x:=by rfl) (hdb:(x==("__debug__":Str))=false:=by decide) (he:starEach (e::es) X.bX=(false,eval e X.bX)::starEach es X.bX:=by rfl) (hpl:(backTo pos (starEach es X.bX)).any (·.1)=false:=by rfl):
  PE X (.Call (.Name x p) (e::es) [] pos) (Na sp [] E0 t):=by
 subst e1 e2 e3 e4 e5 e6
 obtain ⟨f,fd,h1,h2,h3,h4⟩:=c
 exact LC h4 hr hg h1 h2 h3 .nil CT ha hdb he hpl
theorem g7 {pl:Sem Bool} {P:Program} {w:World} {K:PySem.W.Frag} {mg:Str->Option Value} {base:Heap} {A:Around} (c:ph P w K mg base k C m ps sp) (hc:Ek K C) (hr:jE k A) (he:PE X o ta) (ha:PA X (e::es) t) (e1:X.prog=P:=by rfl) (e2:X.w=w:=by rfl) (e3:X.K=K:=by rfl) (e4:X.mg=mg:=by rfl) (e5:X.base=base:=by rfl) (e6:X.A=A:=by rfl) (hst:starEach (e::es) X.bX=(false,eval e X.bX)::starEach es X.bX:=by rfl) (hpl:(backTo pos (starEach es X.bX)).any (·.1)=false:=by rfl)
  (ht:eval (.Call (.Attribute o m apos) (e::es) [] pos) X.bX=(do
   let ov <-eval o X.bX
   standAt apos.atName
   let (f,first) <-holding [ov] (getMethod ov m pl)
   callWith pos f first (backTo pos (starEach (e::es) X.bX)) (backToKw pos (keywordEach [] X.bX))):=by rfl):
  PE X (.Call (.Attribute o m apos) (e::es) [] pos) (FX C m sp [] E0 ta t):=by
 subst e1 e2 e3 e4 e5 e6
 obtain ⟨f,fd,h1,h2,h3⟩:=c
 exact Mf he hc h1 h3 hr h2 .nil CT ha hst hpl ht
theorem yO {pl:Sem Bool} {P:Program} {w:World} {K:PySem.W.Frag} {mg:Str->Option Value} {base:Heap} {A:Around} (c:ph P w K mg base k C m ps sp) (hc:Ek K C) (hr:jE k A) (he:PE X o ta) (e1:X.prog=P:=by rfl) (e2:X.w=w:=by rfl) (e3:X.K=K:=by rfl) (e4:X.mg=mg:=by rfl) (e5:X.base=base:=by rfl) (e6:X.A=A:=by rfl)
  (ht:eval (.Call (.Attribute o m apos) [] [] pos) X.bX=(do
   let ov <-eval o X.bX
   standAt apos.atName
   let (f,first) <-holding [ov] (getMethod ov m pl)
   callWith pos f first (backTo pos (starEach [] X.bX)) (backToKw pos (keywordEach [] X.bX))):=by rfl):
  PE X (.Call (.Attribute o m apos) [] [] pos) (FX C m sp [] E0 ta Ks):=by
 subst e1 e2 e3 e4 e5 e6
 obtain ⟨f,fd,h1,h2,h3⟩:=c
 exact IQ he hc h1 h3 hr h2 .nil CT ht
theorem RH {P:Program} {w:World} {K:PySem.W.Frag} {mg:Str->Option Value} {base:Heap} {A:Around} (c:P2 P w K mg base k x C ps sp) (hr:jE (k+1) A) (ha:PA X (e::es) t) (e1:X.prog=P:=by rfl) (e2:X.w=w:=by rfl) (e3:X.K=K:=by rfl) (e4:X.mg=mg:=by rfl) (e5:X.base=base:=by rfl) (e6:X.A=A:=by rfl) (hg:Gl X x:=by rfl) (hdb:(x==("__debug__":Str))=false:=by decide) (he:starEach (e::es) X.bX=(false,eval e X.bX)::starEach es X.bX:=by rfl) (hpl:(backTo pos (starEach es X.bX)).any (·.1)=false:=by rfl):
  PE X (.Call (.Name x p) (e::es) [] pos) (Gr C sp [] E0 t):=by
 subst e1 e2 e3 e4 e5 e6
 obtain ⟨f,fd,h1,h2,h3,h4⟩:=c
 exact K7 h2 h4 hr hg h1 h3 .nil CT ha hdb he hpl
theorem Pc {P:Program} {w:World} {K:PySem.W.Frag} {mg:Str->Option Value} {base:Heap} {A:Around} (c:P2 P w K mg base k x C ps sp) (hr:jE (k+1) A) (e1:X.prog=P:=by rfl) (e2:X.w=w:=by rfl) (e3:X.K=K:=by rfl) (e4:X.mg=mg:=by rfl) (e5:X.base=base:=by rfl) (e6:X.A=A:=by rfl) (hg:Gl X x:=by rfl) (hdb:(x==("__debug__":Str))=false:=by decide):
  PE X (.Call (.Name x p) [] [] pos) (Gr C sp [] E0 Ks):=by
 subst e1 e2 e3 e4 e5 e6
 obtain ⟨f,fd,h1,h2,h3,h4⟩:=c
 exact Km h2 h4 hr hg h1 h3 .nil CT hdb
theorem dr {mg:Str->Option Value} (h:GC mg x v) (e:X.mg=mg:=by rfl) (hg:Gl X x:=by rfl) (hd:(x==("__debug__":Str))=false:=by decide):PE X (.Name x pos) (tC v):=by
 subst e
 obtain ⟨u,h1,h2⟩:=h
 exact LY hg h1 h2 hd
end
section
variable {X:Cx} {K:PySem.W.Frag} {a b e:Expr} {ta tb:TE} {f:Str} {pos:Pos}
theorem cw (he:PE X e ta) (hb:attributeBase e f X.bX (eval e X.bX)=eval e X.bX:=by rfl) (hK:X.K=K:=by rfl):PE X (.Attribute e f pos) (Ra K ta f):=by subst hK;exact OT he hb
theorem je (hK:X.K=K:=by rfl):Q8 X (QW K):=by subst hK;exact LV
theorem Kb (hK:X.K=K:=by rfl):Q8 X (TC K):=by subst hK;exact N9
theorem LR (hK:X.K=K:=by rfl):Aj X (compareOp .In) (Yf K false):=by subst hK;exact HL
theorem fF (hK:X.K=K:=by rfl):hJ X (.builtin "len") (λxs H Q=>∃p ys,xs=[.ref p]/\(cE K H p ys\/kY K H p ys)/\Q (.int ys.length) H):=by subst hK;exact A8
theorem IH (hc:X.oq=true:=by rfl) (hK:X.K=K:=by rfl):hJ X (.builtin "any") (SF K):=by subst hK;exact N8 hc
theorem QX (hc:X.oq=true:=by rfl) (hK:X.K=K:=by rfl):hJ X (.builtin "max") (RM K):=by subst hK;exact O3 hc
theorem Sv (hc:X.oq=true:=by rfl) (hK:X.K=K:=by rfl):hJ X (.builtin "min") (R7 K):=by subst hK;exact NC hc
theorem Cm (hK:X.K=K:=by rfl):hJ X (.builtin "sorted") (Gx K):=by subst hK;exact HI
theorem GK (hK:X.K=K:=by rfl):M8 X "list.index" (J3 K):=by subst hK;exact Js
theorem F5 (hK:X.K=K:=by rfl):M8 X "list.count" (Kk K):=by subst hK;exact HW
theorem yy (ha:PE X a ta) (he:∀whole,isTrue a X.bX whole=(do let v <-whole;standAt a.pos;holding [v] (truthy v)):=by intro _;rfl) (hK:X.K=K:=by rfl):PT X a (fun σ H Q=>ta σ H λx H'=>∃k,O9 K x H' k/\Q k H'):=by subst hK;exact Jz ha he
theorem fo {tg:Expr} (ha:PE X a ta) (hK:X.K=K:=by rfl):PI X tg a (MP K ta):=by subst hK;exact LL ha
theorem GB {tg:Expr} (ha:PE X a ta) (hK:X.K=K:=by rfl):PI X tg a (SO K ta):=by subst hK;exact NQ ha
theorem II (hK:X.K=K:=by rfl):RB X (RF K):=by subst hK;exact Lu
theorem FR {o:Expr} {to:TE} {name:Str} {apos cpos:Pos} {T id:String} {r:V->List V->Hp->VK->Prop} (pa:PlainAttrs T) (slot:Slot T name id) (hty:typeOf (.builtin id)=pure (.type "method_descriptor")) (hm:M8 X id r) (ho:PE X o to)
  (hbase:attributeBase o name X.bX (eval o X.bX)=eval o X.bX:=by rfl) (hline:(apos.endLine==cpos.line)=true:=by rfl) (hK:X.K=K:=by rfl):PE X (.Call (.Attribute o name apos) [] [] cpos) (S5 K T r to):=by
 subst hK;exact Nz pa slot hty hm ho hbase hline
theorem mS {o e:Expr} {es:List Expr} {to:TE} {t:TA} {name:Str} {apos cpos:Pos} {T id:String} {r:V->List V->Hp->VK->Prop} (pa:PlainAttrs T) (slot:Slot T name id) (hty:typeOf (.builtin id)=pure (.type "method_descriptor")) (hm:M8 X id r) (ho:PE X o to) (ha:PA X (e::es) t)
  (hbase:attributeBase o name X.bX (eval o X.bX)=eval o X.bX:=by rfl)
  (hfew:((backTo cpos (starEach (e::es) X.bX)).all (λx=> !x.1)&&(backToKw cpos (keywordEach [] X.bX)).all (λx=>x.1.isSome)
   &&decide ((e::es).length+([]:List Keyword).length+(if ([]:List Keyword).isEmpty then 0 else 1)< 30))=true:=by rfl)
  (hline:(apos.endLine==cpos.line)=true:=by rfl) (hs:starEach (e::es) X.bX=(false,eval e X.bX)::starEach es X.bX:=by rfl) (hplain:(backTo cpos (starEach es X.bX)).any (·.1)=false:=by rfl) (hK:X.K=K:=by rfl):
  PE X (.Call (.Attribute o name apos) (e::es) [] cpos) (Yo K T r to t):=by
 subst hK;exact SU pa slot hty hm ho ha hbase hfew hline hs hplain
end
def BL:List Int:=[2,2,2,1,2,2,0,0,0,0,1,0,0,2,3,0,0,1,1,2]
structure Tx (K:PySem.W.Frag) (mg:Str->Option Value) (G:Addr) (U:Addr):Prop where
 cq:Ek K G
 g1:jS K G "first"
 g2:jS K G "second"
 g3:jS K G "packet"
 a7:Ek K U
 u1:jS K U "teams"
 u2:jS K U "packets"
 u3:jS K U "games"
 u4:jS K U "barred"
 gH:GC mg "NO_PACKET" (.int (-1))
 wq:GC mg "NO_SIDE" (.int (-1))
 zB:GC mg "LEAST_TEAMS" (.int 2)
 vb:GC mg "MOST_TEAMS" (.int 10)
 q0:GC mg "LEAST_PACKETS" (.int 1)
 nT:GC mg "MOST_PACKETS" (.int 12)
 vH:GC mg "MOST_GAMES" (.int 30)
 mE:GC mg "FITS" (.int 0)
 nY:GC mg "OUT_OF_RANGE" (.int (-1))
 pY:GC mg "WITHOUT_PACKET" (.int (-3))
 C9:GC mg "NOT_THERE" (.int (-4))
 yc:GC mg "ALIKE" (.int (-5))
 xF:GC mg "HEARD_ALREADY" (.int (-6))
 wD:GC mg "TOO_MANY_GAMES" (.int (-7))
 xK:GC mg "NOT_TWO_SIDES" (.int (-8))
 zF:GC mg "NOT_AS_TOLD" (.int (-2))
 DV:GC mg "NOT_FOUND" (.int 0)
 Lr:GC mg "FOUND" (.int 1)
 xx:GC mg "STEPS_USED_UP" (.int 2)
 AY:GC mg "MOST_STEPS" (.int 2000)
 Jk:GC mg "NOBODY" (.int (-1))
 zu:GC mg "MOST_ROUNDS" (.int 9)
 tH:GC mg "FIRST_OF_PAIRINGS" (.int 14)
 C6:GC mg "PIECES" (.int 17)
 hm:∃a,GC mg "HOW_MANY_NUMBERS" (.ref a)/\∀H:Hp,kY K H a (BL.map V.int)
 len:mg "len"=none
 range:mg "range"=none
 J9:mg "any"=none
 Dg:mg "max"=none
 FK:mg "min"=none
 sf:mg "sorted"=none
 QT:mg "set"=none
 FD:mg "tuple"=none
 Po:mg "list"=none
theorem jI (a b:Nat):decide (V.int (a:Int)=V.int (b:Int))=(a==b):=by
 by_cases h:a=b
 ·subst h;simp
 ·have h2:¬V.int (a:Int)=V.int (b:Int):=λe=>h (by have:=V.int.inj e;lia)
  rw [a8 h2]
  exact (bZ.mpr h).symm
theorem o8 (o:Option Nat) (b:Nat):decide (V.int (pk o)=V.int (b:Int))=(o==some b):=by
 by_cases h:o=some b
 ·subst h;simp [pk]
 ·have h2:¬V.int (pk o)=V.int (b:Int):=λe=>h (BR.mp (V.int.inj e))
  rw [a8 h2]
  exact (bZ.mpr h).symm
theorem mU (o:Option Nat):decide (V.int (pk o)=V.int (-1))=o.isNone:=by
 cases o with
 |none=>rfl
 |some k=>
  have h2:¬V.int (pk (some k))=V.int (-1):=λe=>by
   have:=V.int.inj e
   simp [pk] at this
  rw [a8 h2]
  rfl
theorem gr {b:Bool} {A B:Prop} (h1:b=true->A) (h2:b=false->B):if b=true then A else B:=by
 cases b
 ·exact i0 (h2 rfl)
 ·exact ij (h1 rfl)
theorem xt {n:Nat} (h:n<=1000):n<=sizeLine:=dM (cv h)
def hf (n c:Nat) (l d:Addr):List (Str×V):=[("teams",.int n),("packets",.int c),("games",.ref l),("barred",.ref d)]
structure fK (G U:Addr) (H:Hp) (h:Addr) (l:Addr) (as:List Addr) (n c:Nat) (gs:List Gm):Prop where
 hs:∃dh d,H h=some (.ke U dh (hf n c l d))
 a6:H l=some (.a6 (as.map V.ref))
 nd:as.Nodup
 len:as.length=gs.length
 vO:∀(j:Nat) (a:Addr) (g:Gm),as[j]? =some a->gs[j]? =some g->∃dx,H a=some (.ke G dx (gf g))
theorem fK.same {G U:Addr} {H H':Hp} {h l:Addr} {as:List Addr} {n c:Nat} {gs:List Gm} (A:fK G U H h l as n c gs) (s:bB H H'):fK G U H' h l as n c gs:=
 ⟨A.hs.imp λ_ e=>e.imp λ_ e=>s _ _ e,s _ _ A.a6,A.nd,A.len,λj a g h1 h2=>(A.vO j a g h1 h2).imp λ_ e=>s _ _ e⟩
theorem fK.get {G U:Addr} {H:Hp} {h l:Addr} {as:List Addr} {n c:Nat} {gs:List Gm} (A:fK G U H h l as n c gs) {j:Nat} {g:Gm} (e:gs[j]? =some g):∃a dx,as[j]? =some a/\H a=some (.ke G dx (gf g)):=by
 have hj:j< as.length:=by rw [A.len];exact (ae.mp e).1
 obtain ⟨dx,h1⟩:=A.vO j as[j] g (ab hj) e
 exact ⟨as[j],dx,ab hj,h1⟩
theorem fK.yF {G U:Addr} {H:Hp} {h l:Addr} {as:List Addr} {n c:Nat} {gs:List Gm} (A:fK G U H h l as n c gs) {j:Nat} {g:Gm} (e:gs[j]? =some g):∃a dx,as[j]? =some a/\(as.map V.ref)[j]? =some (V.ref a)/\H a=some (.ke G dx (gf g)):=by
 obtain ⟨a,dx,h1,h2⟩:=A.get e
 exact ⟨a,dx,h1,by rw [ay,h1];rfl,h2⟩
end Qz
end
section
namespace Qz
open PySem PySem.Spec PyProof.Rows L2
section
variable {P:Program} {w:World} {K:PySem.W.Frag} {mg:Str->Option Value} {base:Heap} {G U:Addr}
abbrev lD:Stmt:=il (iB 8) 0
theorem vU:bt ["self","first","second"] ["self","first","second"] (aJ lD):=⟨rfl,rfl,rfl,by decide +kernel,rfl,by decide +kernel,by decide +kernel⟩
def NX (G:Addr):Sp:=λvs H Q _=>∃(p dx:Addr) (a b:Nat),vs=[.ref p,.int a,.int b]/\H p=some (.ke G dx [])/\Q .ll (bG H p (.ke G dx (gf ⟨a,b,none⟩)))
theorem Qt {f:Addr} {fd:FuncData} (F:Iy K "__init__" "Game.__init__" lD f fd) (T:Tx K mg G U):pQ P w K mg base JD 1 f fd ["self","first","second"] (NX G):=by
 refine F.ok vU (λvs H Q E h=> ?_) (λcdv A bE s H vs Q E hr h=> ?_)
 ·obtain ⟨p,dx,a,b,rfl,_⟩:=h
  rfl
 ·obtain ⟨p,dx,a,b,rfl,hp,k⟩:=h
  refine ⟨_,(ai (lu (pv 0) (pv 1) rfl) (ai (lu (pv 0) (pv 2) rfl) (aq (lu (pv 0) (dr T.gH) rfl)))),?_⟩
  refine ⟨_,rfl,_,rfl,p,G,dx,_,rfl,hp,T.cq,T.g1,(by show 0< 1000;decide),?_⟩
  refine ⟨_,rfl,_,rfl,p,G,dx,_,rfl,aj,T.cq,T.g2,(by show 1< 1000;decide),?_⟩
  refine ⟨_,rfl,p,G,dx,_,rfl,aj,T.cq,T.g3,(by show 2< 1000;decide),?_⟩
  rw [mV,mV]
  exact k
abbrev lE:Stmt:=il (iB 8) 1
theorem wm:bt ["self","team"] ["self","team"] (aJ lE):=⟨rfl,rfl,rfl,by decide +kernel,rfl,by decide +kernel,by decide +kernel⟩
def Jh (G:Addr):Sp:=λvs H Q _=>∃(p dx:Addr) (g:Gm) (t:Nat),vs=[.ref p,.int t]/\H p=some (.ke G dx (gf g))/\Q (.bl (Vbqzak.has g t)) H
theorem Td (D:Dm K G "has_team" "Game.has_team" lE) (T:Tx K mg G U):ph P w K mg base 1 G "has_team" ["self","team"] (Jh G):=by
 obtain ⟨f,fd,M,F⟩:=D
 refine ⟨f,fd,M,F.cC (λ_ _ _ _ _ _ us hl=>(match us,hl with|[_,_],_=>rfl)),F.ok wm (λvs H Q E h=> ?_) (λcdv A bE s H vs Q E hr h=> ?_)⟩
 ·obtain ⟨p,dx,g,t,rfl,_⟩:=h
  rfl
 ·obtain ⟨p,dx,g,t,rfl,hp,k⟩:=h
  refine ⟨_,(aq (aV (MX (oH dU (cw (K:=K) (pv 0)) (pv 1) (bN _)) (E7 (oH dU (cw (K:=K) (pv 0)) (pv 1) (bN _)))))),?_⟩
  refine ⟨_,rfl,fI hp T.cq T.g1 (jC g) ⟨_,rfl,rfl,_,rfl,?_⟩⟩
  unfold Vbqzak.has at k
  refine l4 (λh=> ?_) (λh=> ?_)
  ·rw [<-jI,h] at k
   exact k
  ·refine ⟨_,rfl,fI hp T.cq T.g2 (gX g) ⟨_,rfl,rfl,?_⟩⟩
   rw [<-jI,<-jI,dO.mpr h] at k
   exact k
abbrev js:Stmt:=il (iB 8) 2
theorem tK:bt ["self","other"] ["self","other"] (aJ js):=⟨rfl,rfl,rfl,by decide +kernel,rfl,by decide +kernel,by decide +kernel⟩
def OV (G:Addr):Sp:=λvs H Q _=>∃(p dx q dy:Addr) (g g':Gm),vs=[.ref p,.ref q]/\H p=some (.ke G dx (gf g))/\H q=some (.ke G dy (gf g'))/\Q (.bl (Vbqzak.meets g' g)) H
theorem QA (D:Dm K G "shares_team" "Game.shares_team" js) (T:Tx K mg G U) (dn:ph P w K mg base 1 G "has_team" ["self","team"] (Jh G)):ph P w K mg base 2 G "shares_team" ["self","other"] (OV G):=by
 obtain ⟨f,fd,M,F⟩:=D
 refine ⟨f,fd,M,F.cC (λ_ _ _ _ _ _ us hl=>(match us,hl with|[_,_],_=>rfl)),F.ok tK (λvs H Q E h=> ?_) (λcdv A bE s H vs Q E hr h=> ?_)⟩
 ·obtain ⟨p,dx,q,dy,g,g',rfl,_⟩:=h
  rfl
 ·obtain ⟨p,dx,q,dy,g,g',rfl,hp,hq,k⟩:=h
  refine ⟨_,(aq (aV (MX (g7 dn T.cq (hr.bY (by decide)) (pv 1) (aa (cw (K:=K) (pv 0)) ah)) (E7 (g7 dn T.cq (hr.bY (by decide)) (pv 1) (aa (cw (K:=K) (pv 0)) ah)))))),?_⟩
  refine ⟨_,rfl,q,dy,_,rfl,hq,rfl,_,rfl,fI hp T.cq T.g1 (jC g) ⟨q,dy,g',g.a,rfl,hq,_,rfl,?_⟩⟩
  unfold Vbqzak.meets at k
  refine l4 (λh=> ?_) (λh=> ?_)
  ·rw [h] at k
   exact k
  ·refine ⟨_,rfl,q,dy,_,rfl,hq,rfl,_,rfl,fI hp T.cq T.g2 (gX g) ⟨q,dy,g',g.b,rfl,hq,?_⟩⟩
   rw [dO.mpr h,oS] at k
   exact k
end
end Qz
end
section
namespace Qz
open PySem PySem.Spec PyProof.Rows L2
theorem C2 {H:Hp} {a b:Addr} {x y:HO} (h:a≠b):bG (bG H a x) b y=bG (bG H b y) a x:=by
 funext z
 unfold bG
 by_cases h1:z=a<;>by_cases h2:z=b<;>simp [h1,h2]
 ·exact absurd (h1.symm.trans h2) h
 ·intro e;exact absurd e h
 ·intro e;exact absurd e.symm h
theorem aN {H:Hp} {a:Addr} {x:HO} (h:H a=none):bB H (bG H a x):=λb o e=>by
 rw [aL (az e h)]
 exact e
theorem vJ (f:Str) (v:V):∀fs:List (Str×V),(kd f v fs).length<=fs.length+1
 |[]=>aF _
 |(g,u)::fs=>by
  unfold kd
  split
  ·simp
  ·have:=vJ f v fs
   simp only [aB]
   lia
section
variable {P:Program} {w:World} {K:PySem.W.Frag} {mg:Str->Option Value} {base:Heap} {G U:Addr}
abbrev nZ:Stmt:=il (iB 9) 1
theorem yU:bt ["self","teams","packets"] ["self","teams","packets"] (aJ nZ):=⟨rfl,rfl,rfl,by decide +kernel,rfl,by decide +kernel,by decide +kernel⟩
def Oa (U:Addr):Sp:=λvs H Q _=>∃(p dx:Addr) (fs:List (Str×V)) (n c:Nat),vs=[.ref p,.int n,.int c]/\H p=some (.ke U dx fs)/\(fs=[]\/∃n0 c0 l0 d0,fs=hf n0 c0 l0 d0)/\
 ∀l d,H l=none->H d=none->d≠l->Q .ll (bG (bG (bG H l (.a6 [])) d (.dT [])) p (.ke U dx (hf n c l d)))
theorem QC (D:Dm K U "begin" "House.begin" nZ) (T:Tx K mg G U):ph P w K mg base 1 U "begin" ["self","teams","packets"] (Oa U):=by
 obtain ⟨f,fd,M,F⟩:=D
 refine ⟨f,fd,M,F.cC (λ_ _ _ _ _ _ us hl=>(match us,hl with|[_,_,_],_=>rfl)),F.ok yU (λvs H Q E h=> ?_) (λcdv A bE s H vs Q E hr h=> ?_)⟩
 ·obtain ⟨p,dx,fs,n,c,rfl,_⟩:=h
  rfl
 ·obtain ⟨p,dx,fs,n,c,rfl,hp,Yx,k⟩:=h
  refine ⟨_,(ai (lu (pv 0) (pv 1) rfl) (ai (lu (pv 0) (pv 2) rfl) (ai (lu (pv 0) (cf ah) rfl) (aq (lu (pv 0) Co rfl))))),?_⟩
  have e:∀l d,kd "barred" (V.ref d) (kd "games" (V.ref l) (kd "packets" (V.int c) (kd "teams" (V.int n) fs)))=hf n c l d:=λl d=>by
   rcases Yx with rfl|⟨n0,c0,l0,d0,rfl⟩<;>rfl
  have s0:fs.length<=4:=by rcases Yx with rfl|⟨n0,c0,l0,d0,rfl⟩<;>simp [hf]
  have s1:=vJ "teams" (V.int n) fs
  have s2:=vJ "packets" (V.int c) (kd "teams" (V.int n) fs)
  refine ⟨_,rfl,_,rfl,p,U,dx,_,rfl,hp,T.a7,T.u1,(by lia),?_⟩
  refine ⟨_,rfl,_,rfl,p,U,dx,_,rfl,aj,T.a7,T.u2,(by lia),?_⟩
  rw [mV]
  refine ⟨bD _,λl hl=> ?_⟩
  have WV:p≠l:=az aj hl
  rw [aL (aY WV)] at hl
  have s3:=λl=>vJ "games" (V.ref l) (kd "packets" (V.int c) (kd "teams" (V.int n) fs))
  refine ⟨_,rfl,p,U,dx,_,rfl,(by rw [aL WV];exact aj),T.a7,T.u3,(by lia),λd hd=> ?_⟩
  rw [C2 WV,mV] at hd ⊢
  have Qe:p≠d:=az aj hd
  rw [aL (aY Qe)] at hd
  have hdl:l≠d:=az aj hd
  rw [aL (aY hdl)] at hd
  refine ⟨_,rfl,p,U,dx,_,rfl,(by rw [aL Qe];exact aj),T.a7,T.u4,(by have:=s3 l;lia),?_⟩
  rw [C2 Qe,mV,e]
  exact k l d hl hd (aY hdl)
abbrev kr:Stmt:=il (iB 9) 0
theorem vn:bt ["self"] ["self"] (aJ kr):=⟨rfl,rfl,rfl,by decide +kernel,rfl,by decide +kernel,by decide +kernel⟩
def NW (U:Addr):Sp:=λvs H Q _=>∃(p dx:Addr),vs=[.ref p]/\H p=some (.ke U dx [])/\∀l d,H l=none->H d=none->d≠l->Q .ll (bG (bG (bG H l (.a6 [])) d (.dT [])) p (.ke U dx (hf 2 1 l d)))
theorem Rn {f:Addr} {fd:FuncData} (F:Iy K "__init__" "House.__init__" kr f fd) (T:Tx K mg G U) (iI:ph P w K mg base 1 U "begin" ["self","teams","packets"] (Oa U)):pQ P w K mg base JD 2 f fd ["self"] (NW U):=by
 refine F.ok vn (λvs H Q E h=> ?_) (λcdv A bE s H vs Q E hr h=> ?_)
 ·obtain ⟨p,dx,rfl,_⟩:=h
  rfl
 ·obtain ⟨p,dx,rfl,hp,k⟩:=h
  refine ⟨_,(aq (dS (g7 iI T.a7 (hr.bY (by decide)) (pv 0) (aa bc (aa bc ah))))),?_⟩
  exact ⟨_,rfl,p,dx,_,rfl,hp,rfl,p,dx,[],2,1,rfl,hp,.inl rfl,k⟩
def gw (gs:List Gm) (t q:Nat):Nat:=(gs.findIdx? λh=>Vbqzak.has h t&&h.p==some q).getD gs.length
theorem SQ {gs:List Gm} {t q j:Nat} {g:Gm} (hg:gs[j]? =some g) (h:(Vbqzak.has g t&&g.p==some q)=true) (hn:∀(i:Nat) (x:Gm),i< j->gs[i]? =some x->(Vbqzak.has x t&&x.p==some q)=false):gw gs t q=j:=by
 unfold gw
 have:(gs.findIdx? λh=>Vbqzak.has h t&&h.p==some q)=some j:=by
  rw [eR]
  obtain ⟨hj,e⟩:=ae.mp hg
  refine ⟨hj,by rw [e];exact h,λi hi=> ?_⟩
  rw [hn i _ hi (ab (by lia))]
  simp
 rw [this]
 rfl
theorem Q0 {gs:List Gm} {t q:Nat} (hn:∀(i:Nat) (x:Gm),gs[i]? =some x->(Vbqzak.has x t&&x.p==some q)=false):gw gs t q=gs.length:=by
 unfold gw
 have:(gs.findIdx? λh=>Vbqzak.has h t&&h.p==some q)=none:=by
  rw [jn]
  intro x hx
  obtain ⟨i,hi⟩:=a9.mp hx
  exact hn i x hi
 rw [this]
 rfl
theorem JK (gs:List Gm) (t q:Nat):decide ((gw gs t q:Int)< (gs.length:Int))=Vbqzak.hears gs t q:=by
 unfold gw Vbqzak.hears
 cases e:gs.findIdx? λh=>Vbqzak.has h t&&h.p==some q with
 |none=>
  have:gs.any (λg=>Vbqzak.has g t&&g.p==some q)=false:=by
   rw [kg]
   intro x hx
   rw [jn.mp e x hx]
   simp
  rw [this]
  simp
 |some j=>
  obtain ⟨hj,h1,_⟩:=eR.mp e
  have:gs.any (λg=>Vbqzak.has g t&&g.p==some q)=true:=by
   rw [cD]
   exact ⟨gs[j],fm hj,h1⟩
  rw [this]
  simp [hj]
abbrev jW:Stmt:=il (iB 9) 2
theorem jV:bt ["self","team","packet","number","game"] ["self","team","packet"] (aJ jW):=⟨rfl,rfl,rfl,by decide +kernel,rfl,by decide +kernel,by decide +kernel⟩
def NP (G U:Addr):Sp:=λvs H Q _=>∃(h l:Addr) (as:List Addr) (n c:Nat) (gs:List Gm) (t q:Nat),vs=[.ref h,.int t,.int q]/\fK G U H h l as n c gs/\gs.length<=30/\Q (.int (gw gs t q)) H
theorem Sw (D:Dm K U "game_with" "House.game_with" jW) (T:Tx K mg G U) (dn:ph P w K mg base 1 G "has_team" ["self","team"] (Jh G)):ph P w K mg base 2 U "game_with" ["self","team","packet"] (NP G U):=by
 obtain ⟨f,fd,M,F⟩:=D
 refine ⟨f,fd,M,F.cC (λ_ _ _ _ _ _ us hl=>(match us,hl with|[_,_,_],_=>rfl)),F.ok jV (λvs H Q E h=> ?_) (λcdv A bE s H vs Q E hr h=> ?_)⟩
 ·obtain ⟨h,l,as,n,c,gs,t,q,rfl,_⟩:=h
  rfl
 ·obtain ⟨h,l,as,n,c,gs,t,q,rfl,B,hlen,k⟩:=h
  obtain ⟨dh,dd,hh⟩:=B.hs
  refine ⟨_,(ai (d8 aT rfl (d3 rfl T.range (aa (bT (fF (K:=K)) (by rfl) T.len bh (aa (cw (K:=K) (pv 0)) ah)) ah)) (cu (i:=3) jV.nd rfl (Or.inl rfl)) (ai (bx (i:=4) jV.nd rfl (Or.inl rfl) (cH (je (K:=K)) (cw (K:=K) (pv 0)) (pv 3) (λ_ _=>rfl))) (aq (cP (PW.pt (wj (bo dU (cw (K:=K) (pv 4)) (pv 2) (bN _)) (tw (iP (g7 dn T.cq (hr.bY (by decide)) (pv 4) (aa (pv 1) ah)))))) (aq (aV (pv 3))) bF)))) (aq (aV (bT (fF (K:=K)) (by rfl) T.len bh (aa (cw (K:=K) (pv 0)) ah))))),?_⟩
  have el:(as.map V.ref).length=gs.length:=by rw [af];exact B.len
  refine ⟨_,rfl,fI hh T.a7 T.u3 rfl ⟨l,_,rfl,.inl (cE.of B.a6),_,rfl,(by lia),(by rw [el];lia),?_⟩⟩
  refine fP (Pv:=λi σ H'=>H'=H/\(∃v3 v4,σ=[some (.ref h),some (.int t),some (.int q),v3,v4])/\∀(j:Nat) (x:Gm),j< i->gs[j]? =some x->(Vbqzak.has x t&&x.p==some q)=false) ⟨rfl,⟨none,none,rfl⟩,λj x hj=>absurd hj (cF _)⟩ ?_ ?_
  ·rintro i σ H' hi ⟨rfl,⟨v3,v4,rfl⟩,hn⟩
   rw [aK,el] at hi
   obtain ⟨a,dx,ha,hr2,hg⟩:=B.yF (ab hi)
   refine ⟨_,rfl,fI hh T.a7 T.u3 rfl ⟨_,rfl,l,_,_,_,rfl,rfl,cE.of B.a6,Am (j:=i) (by lia) hr2,?_⟩⟩
   refine ⟨_,rfl,fI hg T.cq T.g3 (eQ _) ⟨_,rfl,rfl,_,rfl,?_⟩⟩
   rw [o8]
   refine gr (λe1=> ?_) (λe1=> ?_)
   ·refine ⟨_,rfl,a,dx,_,rfl,hg,rfl,_,rfl,a,dx,gs[i],t,rfl,hg,_,rfl,?_⟩
    refine gr (λe2=> ?_) (λe2=> ?_)
    ·refine ⟨_,rfl,?_⟩
     have e3:=SQ (ab hi) (by rw [e1,e2];rfl) hn
     rw [e3] at k
     rw [di]
     exact k
    ·refine ⟨rfl,⟨_,_,rfl⟩,λj x hj hx=> ?_⟩
     by_cases Pw:j=i
     ·subst Pw
      rw [ab hi] at hx
      rw [<-Option.some.inj hx,e2]
      rfl
     ·exact hn j x (by lia) hx
   ·refine i0 ⟨rfl,⟨_,_,rfl⟩,λj x hj hx=> ?_⟩
    by_cases Pw:j=i
    ·subst Pw
     rw [ab hi] at hx
     rw [<-Option.some.inj hx,e1,Bool.and_false]
    ·exact hn j x (by lia) hx
  ·rintro σ H' ⟨rfl,⟨v3,v4,rfl⟩,hn⟩
   rw [aK,el] at hn
   refine ⟨_,rfl,fI hh T.a7 T.u3 rfl ⟨l,_,rfl,.inl (cE.of B.a6),?_⟩⟩
   rw [el]
   rw [Q0 λi x hx=>hn i x (ae.mp hx).1 hx] at k
   exact k
abbrev kL:Stmt:=il (iB 9) 3
theorem vz:bt ["self","team","packet"] ["self","team","packet"] (aJ kL):=⟨rfl,rfl,rfl,by decide +kernel,rfl,by decide +kernel,by decide +kernel⟩
def JJ (G U:Addr):Sp:=λvs H Q _=>∃(h l:Addr) (as:List Addr) (n c:Nat) (gs:List Gm) (t q:Nat),vs=[.ref h,.int t,.int q]/\fK G U H h l as n c gs/\gs.length<=30/\Q (.bl (Vbqzak.hears gs t q)) H
theorem SH (D:Dm K U "is_heard" "House.is_heard" kL) (T:Tx K mg G U) (fR:ph P w K mg base 2 U "game_with" ["self","team","packet"] (NP G U)):ph P w K mg base 3 U "is_heard" ["self","team","packet"] (JJ G U):=by
 obtain ⟨f,fd,M,F⟩:=D
 refine ⟨f,fd,M,F.cC (λ_ _ _ _ _ _ us hl=>(match us,hl with|[_,_,_],_=>rfl)),F.ok vz (λvs H Q E h=> ?_) (λcdv A bE s H vs Q E hr h=> ?_)⟩
 ·obtain ⟨h,l,as,n,c,gs,t,q,rfl,_⟩:=h
  rfl
 ·obtain ⟨h,l,as,n,c,gs,t,q,rfl,B,hlen,k⟩:=h
  obtain ⟨dh,dd,hh⟩:=B.hs
  refine ⟨_,(aq (aV (oH rb (g7 fR T.a7 (hr.bY (by decide)) (pv 0) (aa (pv 1) (aa (pv 2) ah))) (bT (fF (K:=K)) (by rfl) T.len bh (aa (cw (K:=K) (pv 0)) ah)) (bN _)))),?_⟩
  have el:(as.map V.ref).length=gs.length:=by rw [af];exact B.len
  refine ⟨_,rfl,h,dh,_,rfl,hh,rfl,_,rfl,_,rfl,h,l,as,n,c,gs,t,q,rfl,B,hlen,?_⟩
  refine ⟨_,rfl,fI hh T.a7 T.u3 rfl ⟨l,_,rfl,.inl (cE.of B.a6),_,_,rfl,rfl,?_⟩⟩
  show Q (V.bl (decide ((gw gs t q:Int)< ((as.map V.ref).length:Int)))) H
  rw [el,JK]
  exact k
end
end Qz
end
section
namespace Qz
open PySem PySem.Spec PyProof.Rows L2
theorem Cn {K:PySem.W.Frag} {H H':Hp} {a:Addr} {xs:List V} (e:bB H H') (h:kY K H a xs):kY K H' a xs:=by
 rcases h with (h|⟨o,h⟩)|h
 ·exact .inl (.inl (e _ _ h))
 ·exact .inl (.inr ⟨o,e _ _ h⟩)
 ·exact .inr h
theorem GJ {σ:L2.St} {H:Hp} {A B:Hp->Prop} (h:A H):Qv σ H (λb H3=>if b=true then A H3 else B H3):=by
 show if true=true then A H else B H
 exact ij h
theorem c6 {H H':Hp} {a:Addr} {x:HO} (s:bB H H') (h:H a=none):bB H (bG H' a x):=λb o e=>by
 rw [aL (az e h)]
 exact s b o e
theorem xN {c q:Nat} {p:Nat->Bool} (hq:q< c) (h:p q=true) (hn:∀r,r< q->p r=false):(List.range c).find? p=some q:=by
 rw [c5]
 exact ⟨h,by simpa using hq,λr hr=>by rw [hn r hr];rfl⟩
theorem AS {c:Nat} {p:Nat->Bool} (hn:∀r,r< c->p r=false):(List.range c).find? p=none:=by
 rw [dt]
 intro r hr
 rw [hn r (by simpa using hr)]
 simp
theorem c4 {α:Type} {l:List α} {i:Nat} {x:α} (h:l[i]? =some x):l.take (i+1)=l.take i++[x]:=by
 rw [fN,h]
 rfl
section
variable {P:Program} {w:World} {K:PySem.W.Frag} {mg:Str->Option Value} {base:Heap} {G U:Addr}
def nV (l:List Nat):List V:=l.map λt=>V.int (t:Nat)
abbrev f7:Stmt:=il (iB 9) 4
theorem gb:bt ["self","teams","packet","team"] ["self","teams"] (aJ f7):=⟨rfl,rfl,rfl,by decide +kernel,rfl,by decide +kernel,by decide +kernel⟩
def Oe (K:PySem.W.Frag) (G U:Addr):Sp:=λvs H Q _=>∃(h l:Addr) (as:List Addr) (n c:Nat) (gs:List Gm) (a:Addr) (ts:List Nat),vs=[.ref h,.ref a]/\fK G U H h l as n c gs/\gs.length<=30/\c<=12/\ts.length<=10/\kY K H a (nV ts)/\
 ∀H',bB H H'->Q (.int (pk ((List.range c).find? λq=> !ts.any λt=>Vbqzak.hears gs t q))) H'
theorem RD (D:Dm K U "least_unheard" "House.least_unheard" f7) (T:Tx K mg G U) (fq:ph P w K mg base 3 U "is_heard" ["self","team","packet"] (JJ G U)):ph P w K mg base 4 U "least_unheard" ["self","teams"] (Oe K G U):=by
 obtain ⟨f,fd,M,F⟩:=D
 refine ⟨f,fd,M,F.cC (λ_ _ _ _ _ _ us hl=>(match us,hl with|[_,_],_=>rfl)),F.ok gb (λvs H Q E h=> ?_) (λcdv A bE s H vs Q E hr h=> ?_)⟩
 ·obtain ⟨h,l,as,n,c,gs,a,ts,rfl,_⟩:=h
  rfl
 ·obtain ⟨h,l,as,n,c,gs,a,ts,rfl,B,hlen,hc,hts,hS,k⟩:=h
  obtain ⟨dh,dd,hh⟩:=B.hs
  refine ⟨_,(ai (d8 aT rfl (d3 rfl T.range (aa (cw (K:=K) (pv 0)) ah)) (cu (i:=2) gb.nd rfl (Or.inr rfl)) (aq (cP (uv (iP (bT (IH (K:=K)) (by rfl) T.J9 lb (aa (mh rfl gb.nd (iU:=[("team",3)]) (GB (K:=K) (pv 1)) (eC (by show nP ["self","teams","packet","team"] (aJ f7) _ _=true;decide +kernel)) (λ_ _ _ _ _=>(cu (i:=3) gb.nd rfl (Or.inl rfl))) (λ_ _ _ _ _=>by exact kJ) (λ_ _ _ _ _=>by exact (g7 fq T.a7 (hr.bY (by decide)) (pv 0) (aa (pv 3) (aa (pv 2) ah))))) ah)))) (aq (aV (pv 2))) bF))) (aq (aV (dr T.gH)))),?_⟩
  refine ⟨_,rfl,fI hh T.a7 T.u2 rfl ⟨_,rfl,(by lia),(by lia),?_⟩⟩
  refine fP (Pv:=λi σ H'=>bB H H'/\(∃v2,σ=[some (.ref h),some (.ref a),v2,none])/\∀q,q< i->(ts.any λt=>Vbqzak.hears gs t q)=true) ⟨bB.refl H,⟨none,rfl⟩,λq hq=>absurd hq (cF _)⟩ ?_ ?_
  ·rintro i σ H1 hi ⟨s1,⟨v2,rfl⟩,hn⟩
   rw [aK] at hi
   refine ⟨_,rfl,a,rfl,⟨_,Cn s1 hS⟩,λD hD=> ?_⟩
   refine Jq (K:=K) (a:=a) (xs:=nV ts) (Pv:=λj H2=>bB H1 H2/\H2 D=some (.a6 ((ts.take j).map λt=>V.bl (Vbqzak.hears gs t i)))) ⟨aN hD,aj⟩ (λj H2 _ p=>Cn (s1.trans p.1) hS) ?_ ?_
   ·rintro j x H2 hx ⟨s2,iE⟩
    unfold nV at hx
    rw [ay] at hx
    cases et:ts[j]? with
    |none=>rw [et] at hx;cases hx
    |some t=>
     rw [et] at hx
     have hx:V.int (t:Nat)=x:=Option.some.inj hx
     subst hx
     have B2:=(B.same s1).same s2
     obtain ⟨GU,dd2,BY⟩:=B2.hs
     refine ⟨rfl,GJ ?_⟩
     refine ⟨_,rfl,h,GU,_,rfl,BY,rfl,_,rfl,_,rfl,h,l,as,n,c,gs,t,i,(by rw [di];rfl),B2,hlen,_,iE,?_,?_,?_⟩
     ·rw [af,bf]
      exact gn (Nat.min_le_right _ _) (cv (by lia))
     ·exact c6 s2 hD
     ·rw [aj,c4 et,a4]
      rfl
   ·rintro H2 ⟨s2,iE⟩
    have el:(nV ts).length=ts.length:=by unfold nV;rw [af]
    rw [el,bu] at iE
    refine ⟨D,ts.map λt=>Vbqzak.hears gs t i,rfl,cE.of (by rw [cX];exact iE),_,rfl,?_⟩
    have e:((ts.map λt=>Vbqzak.hears gs t i).any id)=ts.any λt=>Vbqzak.hears gs t i:=by
     rw [ja]
     rfl
    rw [e]
    refine gr (λe1=> ?_) (λe1=> ?_)
    ·refine ⟨_,rfl,?_⟩
     have:=k H2 (s1.trans s2)
     rw [xN hi e1 (λr hr=>by rw [hn r hr];rfl)] at this
     rw [di]
     exact this
    ·refine ⟨s1.trans s2,⟨_,rfl⟩,λq hq=> ?_⟩
     by_cases Qa:q=i
     ·subst Qa
      simpa using e1
     ·exact hn q (by lia)
  ·rintro σ H1 ⟨s1,⟨v2,rfl⟩,hn⟩
   rw [aK] at hn
   have:=k H1 s1
   rw [AS (λr hr=>by rw [hn r hr];rfl)] at this
   exact this
def pick (as:List Addr) (gs:List Gm) (p:Gm->Bool):List Addr:=((as.zip gs).filter λt=>p t.2).map (·.1)
theorem tm {as:List Addr} {gs:List Gm} {p:Gm->Bool} {i:Nat} {a:Addr} {g:Gm} (ha:as[i]? =some a) (hg:gs[i]? =some g):pick (as.take (i+1)) (gs.take (i+1)) p=pick (as.take i) (gs.take i) p++(if p g=true then [a] else []):=by
 unfold pick
 rw [c4 ha,c4 hg,List.zip_append (by
  have h1:=(ae.mp ha).1
  have h2:=(ae.mp hg).1
  rw [bf,bf]
  lia),cj,a4]
 congr 1
 show (List.filter (λt=>p t.2) [(a,g)]).map (·.1)=_
 split
 ·rename_i h
  simp [h]
 ·rename_i h
  simp [h]
theorem j4 {p:Gm->Bool}:∀(as:List Addr) (gs:List Gm),as.length=gs.length->(pick as gs p).length=(gs.filter p).length
 |[],[],_=>rfl
 |[],_::_,h=>by cases h
 |_::_,[],h=>by cases h
 |a::as,g::gs,h=>by
  have ih:=j4 (p:=p) as gs (by simpa using h)
  unfold pick at ih ⊢
  rw [ng]
  cases e:p g
  ·rw [aO (by simp [e]),aO (by simp [e])]
   exact ih
  ·rw [aS (p:=λt:Addr×Gm=>p t.2) e,aS e,bA,aB,aB,ih]
abbrev iR:Stmt:=il (iB 9) 5
theorem kQ:bt ["self","team","game"] ["self","team"] (aJ iR):=⟨rfl,rfl,rfl,by decide +kernel,rfl,by decide +kernel,by decide +kernel⟩
def Lk (G U:Addr):Sp:=λvs H Q _=>∃(h l:Addr) (as:List Addr) (n c:Nat) (gs:List Gm) (t:Nat),vs=[.ref h,.int t]/\fK G U H h l as n c gs/\gs.length<=30/\
 ∀H' p,bB H H'->H p=none->H' p=some (.a6 ((pick as gs λg=>Vbqzak.has g t).map V.ref))->Q (.ref p) H'
theorem Rb (D:Dm K U "games_of" "House.games_of" iR) (T:Tx K mg G U) (dn:ph P w K mg base 1 G "has_team" ["self","team"] (Jh G)):ph P w K mg base 2 U "games_of" ["self","team"] (Lk G U):=by
 obtain ⟨f,fd,M,F⟩:=D
 refine ⟨f,fd,M,F.cC (λ_ _ _ _ _ _ us hl=>(match us,hl with|[_,_],_=>rfl)),F.ok kQ (λvs H Q E h=> ?_) (λcdv A bE s H vs Q E hr h=> ?_)⟩
 ·obtain ⟨h,l,as,n,c,gs,t,rfl,_⟩:=h
  rfl
 ·obtain ⟨h,l,as,n,c,gs,t,rfl,B,hlen,k⟩:=h
  obtain ⟨dh,dd,hh⟩:=B.hs
  refine ⟨_,(aq (aV (mh rfl kQ.nd (iU:=[("game",2)]) (fo (K:=K) (cw (K:=K) (pv 0))) (eC (by show nP ["self","team","game"] (aJ iR) _ _=true;decide +kernel)) (λ_ _ _ _ _=>(cu (i:=2) kQ.nd rfl (Or.inl rfl))) (λ_ _ _ _ _=>by exact (lT (iP (g7 dn T.cq (hr.bY (by decide)) (pv 2) (aa (pv 1) ah))))) (λ_ _ _ _ _=>by exact (pv 2))))),?_⟩
  refine ⟨_,rfl,fI hh T.a7 T.u3 rfl ⟨l,rfl,⟨_,cE.of B.a6⟩,λD hD=> ?_⟩⟩
  refine jK (K:=K) (a:=l) (xs:=as.map V.ref) (Pv:=λj H2=>bB H H2/\H2 D=some (.a6 ((pick (as.take j) (gs.take j) λg=>Vbqzak.has g t).map V.ref))) ⟨aN hD,aj⟩ (λj H2 _ p=>p.1.seq (cE.of B.a6)) ?_ ?_
  ·rintro j x H2 hx ⟨s2,iE⟩
   have hj:j< gs.length:=by
    have:=(ae.mp hx).1
    rw [af,B.len] at this
    exact this
   obtain ⟨a,dx,ha,hr2,hg⟩:=(B.same s2).yF (ab hj)
   rw [hr2] at hx
   have hx:V.ref a=x:=Option.some.inj hx
   subst hx
   refine ⟨rfl,_,rfl,a,dx,_,rfl,hg,rfl,_,rfl,a,dx,gs[j],t,rfl,hg,_,rfl,?_⟩
   refine gr (λe1=> ?_) (λe1=> ?_)
   ·refine ⟨_,rfl,_,iE,?_,c6 s2 hD,?_⟩
    ·rw [af,j4 _ _ (by rw [bf,bf,B.len])]
     refine cv (bg (bQ _ _) ?_)
     rw [bf]
     lia
    ·rw [aj,tm ha (ab hj),aA e1,a4]
     rfl
   ·refine ⟨s2,?_⟩
    rw [tm ha (ab hj),au (by rw [e1];simp),bR]
    exact iE
  ·rintro H2 ⟨s2,iE⟩
   have el:(as.map V.ref).length=as.length:=af ..
   rw [el,bu,B.len,bu] at iE
   exact k H2 D s2 hD iE
abbrev ee:Stmt:=il (iB 9) 6
theorem fG:bt ["self","game"] ["self"] (aJ ee):=⟨rfl,rfl,rfl,by decide +kernel,rfl,by decide +kernel,by decide +kernel⟩
def LG (G U:Addr):Sp:=λvs H Q _=>∃(h l:Addr) (as:List Addr) (n c:Nat) (gs:List Gm),vs=[.ref h]/\fK G U H h l as n c gs/\gs.length<=30/\
 ∀H' p,bB H H'->H p=none->H' p=some (.a6 ((pick as gs λg=>g.p.isNone).map V.ref))->Q (.ref p) H'
theorem Sl (D:Dm K U "games_without_packet" "House.games_without_packet" ee) (T:Tx K mg G U):ph P w K mg base 1 U "games_without_packet" ["self"] (LG G U):=by
 obtain ⟨f,fd,M,F⟩:=D
 refine ⟨f,fd,M,F.cC (λ_ _ _ _ _ _ us hl=>(match us,hl with|[_],_=>rfl)),F.ok fG (λvs H Q E h=> ?_) (λcdv A bE s H vs Q E hr h=> ?_)⟩
 ·obtain ⟨h,l,as,n,c,gs,rfl,_⟩:=h
  rfl
 ·obtain ⟨h,l,as,n,c,gs,rfl,B,hlen,k⟩:=h
  obtain ⟨dh,dd,hh⟩:=B.hs
  refine ⟨_,(aq (aV (mh rfl fG.nd (iU:=[("game",1)]) (fo (K:=K) (cw (K:=K) (pv 0))) (eC (by show nP ["self","game"] (aJ ee) _ _=true;decide +kernel)) (λ_ _ _ _ _=>(cu (i:=1) fG.nd rfl (Or.inl rfl))) (λ_ _ _ _ _=>by exact (lT (bo dU (cw (K:=K) (pv 1)) (dr T.gH) (bN _)))) (λ_ _ _ _ _=>by exact (pv 1))))),?_⟩
  refine ⟨_,rfl,fI hh T.a7 T.u3 rfl ⟨l,rfl,⟨_,cE.of B.a6⟩,λD hD=> ?_⟩⟩
  refine jK (K:=K) (a:=l) (xs:=as.map V.ref) (Pv:=λj H2=>bB H H2/\H2 D=some (.a6 ((pick (as.take j) (gs.take j) λg=>g.p.isNone).map V.ref))) ⟨aN hD,aj⟩ (λj H2 _ p=>p.1.seq (cE.of B.a6)) ?_ ?_
  ·rintro j x H2 hx ⟨s2,iE⟩
   have hj:j< gs.length:=by
    have:=(ae.mp hx).1
    rw [af,B.len] at this
    exact this
   obtain ⟨a,dx,ha,hr2,hg⟩:=(B.same s2).yF (ab hj)
   rw [hr2] at hx
   have hx:V.ref a=x:=Option.some.inj hx
   subst hx
   refine ⟨rfl,_,rfl,fI hg T.cq T.g3 (eQ _) ⟨rfl,_,rfl,?_⟩⟩
   rw [mU]
   refine gr (λe1=> ?_) (λe1=> ?_)
   ·refine ⟨_,rfl,_,iE,?_,c6 s2 hD,?_⟩
    ·rw [af,j4 _ _ (by rw [bf,bf,B.len])]
     refine cv (bg (bQ _ _) ?_)
     rw [bf]
     lia
    ·rw [aj,tm ha (ab hj),aA e1,a4]
     rfl
   ·refine ⟨s2,?_⟩
    rw [tm ha (ab hj),au (by rw [e1];simp),bR]
    exact iE
  ·rintro H2 ⟨s2,iE⟩
   have el:(as.map V.ref).length=as.length:=af ..
   rw [el,bu,B.len,bu] at iE
   exact k H2 D s2 hD iE
end
end Qz
end
section
namespace Qz
open PySem PySem.Spec PyProof.Rows L2
theorem yo (q:Nat):∀gs:List Gm,((gs.map λg=>V.int (pk g.p)).countP λz=>Cd z (V.int (q:Nat)))=Vbqzak.uses gs q
 |[]=>rfl
 |g::gs=>by
  have ih:=yo q gs
  unfold Vbqzak.uses at ih ⊢
  rw [bA,c8,ih]
  have e:Cd (V.int (pk g.p)) (V.int (q:Nat))=(g.p==some q):=by
   show (pk g.p==(q:Int))=(g.p==some q)
   by_cases h:g.p=some q
   ·rw [h];simp [pk]
   ·have h2:¬pk g.p=(q:Int):=λz=>h (BR.mp z)
    rw [bZ.mpr h,bZ.mpr h2]
  rw [e]
  cases h:g.p==some q
  ·rw [aO (by simp [h])]
   rfl
  ·rw [aS (p:=λg:Gm=>g.p==some q) h]
   rfl
section
variable {P:Program} {w:World} {K:PySem.W.Frag} {mg:Str->Option Value} {base:Heap} {G U:Addr}
abbrev eD:Stmt:=il (iB 9) 7
theorem dF:bt ["self","held","game","packet"] ["self"] (aJ eD):=⟨rfl,rfl,rfl,by decide +kernel,rfl,by decide +kernel,by decide +kernel⟩
def Og (G U:Addr):Sp:=λvs H Q _=>∃(h l:Addr) (as:List Addr) (n c:Nat) (gs:List Gm),vs=[.ref h]/\fK G U H h l as n c gs/\gs.length<=30/\c<=12/\
 ∀H' p,bB H H'->H p=none->H' p=some (.a6 (nV ((List.range c).map (Vbqzak.uses gs))))->Q (.ref p) H'
theorem Th (D:Dm K U "games_by_packet" "House.games_by_packet" eD) (T:Tx K mg G U):ph P w K mg base 1 U "games_by_packet" ["self"] (Og G U):=by
 obtain ⟨f,fd,M,F⟩:=D
 refine ⟨f,fd,M,F.cC (λ_ _ _ _ _ _ us hl=>(match us,hl with|[_],_=>rfl)),F.ok dF (λvs H Q E h=> ?_) (λcdv A bE s H vs Q E hr h=> ?_)⟩
 ·obtain ⟨h,l,as,n,c,gs,rfl,_⟩:=h
  rfl
 ·obtain ⟨h,l,as,n,c,gs,rfl,B,hlen,hc,k⟩:=h
  obtain ⟨dh,dd,hh⟩:=B.hs
  refine ⟨_,(ai (bx (i:=1) dF.nd rfl (Or.inr rfl) (mh rfl dF.nd (iU:=[("game",2)]) (fo (K:=K) (cw (K:=K) (pv 0))) (eC (by show nP ["self","held","game","packet"] (aJ eD) _ _=true;decide +kernel)) (λ_ _ _ _ _=>(cu (i:=2) dF.nd rfl (Or.inl rfl))) (λ_ _ _ _ _=>by exact kJ) (λ_ _ _ _ _=>by exact (cw (K:=K) (pv 2))))) (aq (aV (mh rfl dF.nd (iU:=[("packet",3)]) (d3 rfl T.range (aa (cw (K:=K) (pv 0)) ah)) (eC (by show nP ["self","held","game","packet"] (aJ eD) _ _=true;decide +kernel)) (λ_ _ _ _ _=>(cu (i:=3) dF.nd rfl (Or.inl rfl))) (λ_ _ _ _ _=>by exact kJ) (λ_ _ _ _ _=>by exact (mS (K:=K) aQ j2 pI (F5 (K:=K)) (pv 1) (aa (pv 3) ah))))))),?_⟩
  refine ⟨_,rfl,fI hh T.a7 T.u3 rfl ⟨l,rfl,⟨_,cE.of B.a6⟩,λD hD=> ?_⟩⟩
  refine jK (K:=K) (a:=l) (xs:=as.map V.ref) (Pv:=λj H2=>bB H H2/\H2 D=some (.a6 ((gs.take j).map λg=>V.int (pk g.p)))) ⟨aN hD,aj⟩ (λj H2 _ p=>p.1.seq (cE.of B.a6)) ?_ ?_
  ·rintro j x H2 hx ⟨s2,iE⟩
   have hj:j< gs.length:=by
    have:=(ae.mp hx).1
    rw [af,B.len] at this
    exact this
   obtain ⟨a,dx,ha,hr2,hg⟩:=(B.same s2).yF (ab hj)
   rw [hr2] at hx
   have hx:V.ref a=x:=Option.some.inj hx
   subst hx
   refine ⟨rfl,GJ ?_⟩
   refine ⟨_,rfl,fI hg T.cq T.g3 (eQ _) ⟨_,iE,?_,c6 s2 hD,?_⟩⟩
   ·rw [af,bf]
    exact cv (by lia)
   ·rw [aj,c4 (ab hj),a4]
    rfl
  ·rintro H2 ⟨s2,iE⟩
   have el:(as.map V.ref).length=gs.length:=by rw [af];exact B.len
   rw [el,bu] at iE
   obtain ⟨GU,dd2,BY⟩:=(B.same s2).hs
   refine ⟨_,rfl,fI BY T.a7 T.u2 rfl ⟨_,rfl,(by lia),(by lia),λD3 Im=> ?_⟩⟩
   refine mf (Pv:=λj H3=>bB H2 H3/\H3 D3=some (.a6 (nV ((List.range j).map (Vbqzak.uses gs))))) ⟨aN Im,aj⟩ ?_ ?_
   ·rintro j H3 hj ⟨s3,Vp⟩
    rw [aK] at hj
    refine ⟨rfl,GJ ?_⟩
    have hs:cE K H3 D (gs.map λg=>V.int (pk g.p)):=cE.of (s3 _ _ iE)
    refine ⟨_,rfl,.inl ⟨rfl,_,hs⟩,_,rfl,D,_,_,rfl,rfl,hs,rfl,?_,_,Vp,?_,c6 s3 Im,?_⟩
    ·rw [dE]
     intro v hv
     obtain ⟨g,_,rfl⟩:=bC.mp hv
     rfl
    ·unfold nV
     rw [af,af,aM]
     exact cv (by lia)
    ·rw [aj,cT,a4]
     unfold nV
     rw [a4,di,yo]
     rfl
   ·rintro H3 ⟨s3,Vp⟩
    rw [aK] at Vp
    exact k H3 D3 (s2.trans s3) (s2.free Im) Vp
end
end Qz
end
section
namespace Qm
open Vbqzak
def xg (gs:List Game) (p q:Nat):List Nat:=(List.range gs.length).filter λk=>packetOf gs k==some q||packetOf gs k==some p
theorem vS {gs:List Game} {p q k:Nat}:k∈xg gs p q↔packetOf gs k=some q\/packetOf gs k=some p:=by
 unfold xg
 rw [bU,cQ,bH,cR,cR]
 exact ⟨λh=>h.2,λh=>⟨by rcases h with h|h<;>exact dI h,h⟩⟩
structure Ga (gs:List Game) (i p q:Nat) (dl wl:List Nat):Prop where
 self:i∈dl
 nd:dl.Nodup
 sub:∀x∈dl,x∈chain gs i p
 nO:∀x∈wl,x∈dl
 ff:∀x∈dl,x∉wl->∀k,i7 gs p q k x=true->k∈dl
structure xG (gs:List Game) (i p q x j:Nat) (dl wl:List Nat):Prop where
 self:i∈dl
 nd:dl.Nodup
 sub:∀y∈dl,y∈chain gs i p
 nO:∀y∈wl,y∈dl
 P1:x∈dl
 ff:∀y∈dl,y∉wl->y≠x->∀k,i7 gs p q k y=true->k∈dl
 done:∀k∈(xg gs p q).take j,∀gk gx,gs[k]? =some gk->gs[x]? =some gx->meets gk gx=true->k∈dl
section
variable {gs:List Game} {i p q:Nat}
theorem Ga.start (h:packetOf gs i=some q):Ga gs i p q [i] [i] where
 self:=by simp
 nd:=by simp
 sub:=by simpa using nJ h
 nO:=by simp
 ff:=λx h1 h2=>absurd h1 h2
theorem Ga.lt (h:packetOf gs i=some q) {dl wl:List Nat} (D:Ga gs i p q dl wl) {x:Nat} (hx:x∈dl):x< gs.length:=kF h (D.sub x hx)
theorem Ga.pop {dl wl:List Nat} {x:Nat} (D:Ga gs i p q dl (wl++[x])):xG gs i p q x 0 dl wl where
 self:=D.self
 nd:=D.nd
 sub:=D.sub
 nO:=λy hy=>D.nO y (br _ hy)
 P1:=D.nO x (by simp)
 ff:=λy h1 h2 h3=>D.ff y h1 (λh=>by
  rcases aI.mp h with h|h
  ·exact h2 h
  ·exact h3 (by simpa using h))
 done:=λk hk=>by simp at hk
theorem xG.skip {x j k:Nat} {dl wl:List Nat} (D:xG gs i p q x j dl wl) (hk:(xg gs p q)[j]? =some k) (h:k∈dl\/∀gk gx,gs[k]? =some gk->gs[x]? =some gx->meets gk gx=false):xG gs i p q x (j+1) dl wl where
 self:=D.self
 nd:=D.nd
 sub:=D.sub
 nO:=D.nO
 P1:=D.P1
 ff:=D.ff
 done:=λm hm gk gx h1 h2 h3=>by
  rw [fN,hk] at hm
  rcases aI.mp hm with hm|hm
  ·exact D.done m hm gk gx h1 h2 h3
  ·have:m=k:=by simpa using hm
   subst this
   rcases h with h|h
   ·exact h
   ·rw [h gk gx h1 h2] at h3
    cases h3
theorem xG.add (h:packetOf gs i=some q) {x j k:Nat} {gk gx:Game} {dl wl:List Nat} (D:xG gs i p q x j dl wl) (hk:(xg gs p q)[j]? =some k) (hn:k∉dl) (h1:gs[k]? =some gk) (h2:gs[x]? =some gx) (h3:meets gk gx=true):xG gs i p q x (j+1) (dl++[k]) (wl++[k]) where
 self:=br _ D.self
 nd:=cc.mpr ⟨D.nd,by simp,λa ha b hb e=>by
  have:b=k:=by simpa using hb
  subst this
  subst e
  exact hn ha⟩
 sub:=λy hy=>by
  rcases aI.mp hy with hy|hy
  ·exact D.sub y hy
  ·have:y=k:=by simpa using hy
   subst this
   refine kT h (D.sub x D.P1) (gQ.mpr ⟨gk,gx,h1,h2,h3,?_⟩)
   have:=vS.mp (aw hk)
   rw [ck h1] at this
   exact this.symm
 nO:=λy hy=>by
  rcases aI.mp hy with hy|hy
  ·exact br _ (D.nO y hy)
  ·exact bp _ hy
 P1:=br _ D.P1
 ff:=λy hy hw hx m hm=>by
  rcases aI.mp hy with hy|hy
  ·exact br _ (D.ff y hy (λz=>hw (br _ z)) hx m hm)
  ·exact absurd (bp _ hy) hw
 done:=λm hm a b e1 e2 e3=>by
  rw [fN,hk] at hm
  rcases aI.mp hm with hm|hm
  ·exact br _ (D.done m hm a b e1 e2 e3)
  ·exact bp _ hm
theorem xG.zg {x:Nat} {dl wl:List Nat} (D:xG gs i p q x (xg gs p q).length dl wl):Ga gs i p q dl wl where
 self:=D.self
 nd:=D.nd
 sub:=D.sub
 nO:=D.nO
 ff:=λy hy hw k hk=>by
  by_cases h:y=x
  ·subst h
   obtain ⟨gk,gy,h1,h2,h3,h4⟩:=gQ.mp hk
   refine D.done k ?_ gk gy h1 h2 h3
   rw [bu,vS,ck h1]
   exact h4.symm
  ·exact D.ff y hy hw h k hk
theorem Ga.perm (h:packetOf gs i=some q) {dl:List Nat} (D:Ga gs i p q dl []):(chain gs i p).Perm dl:=
 (df (gd h) D.nd).mpr λx=>⟨λhx=>oI h (S:=λx=>x∈dl) D.self (λk j hj hb=>D.ff j hj (by simp) k hb) x hx,D.sub x⟩
theorem Ga.len (h:packetOf gs i=some q) {dl wl:List Nat} (D:Ga gs i p q dl wl):dl.length<=gs.length:=by
 have:=bI (l₂:=List.range gs.length) D.nd λx hx=>by simpa using D.lt h hx
 simpa using this
theorem xG.len (h:packetOf gs i=some q) {x j:Nat} {dl wl:List Nat} (D:xG gs i p q x j dl wl):dl.length<=gs.length:=by
 have:=bI (l₂:=List.range gs.length) D.nd λy hy=>by simpa using kF h (D.sub y hy)
 simpa using this
theorem DJ {ns:List Int} {l m:List Nat} (hp:ns.Perm (m.map λk=>((k:Nat):Int))) (hs:ns.Pairwise (·<=·)) (hl:l.Pairwise (·< ·)) (Vq:l.Perm m):ns=l.map λk=>((k:Nat):Int):=by
 refine fz (le:=(·<=·)) (λa b _ _ h1 h2=>mC h1 h2) hs ?_ (hp.trans (Vq.symm.map _))
 rw [eV]
 exact hl.imp λh=>by lia
end
end Qm
end
section
namespace Qz
open PySem PySem.Spec PyProof.Rows L2
theorem fK.xE {G U:Addr} {H:Hp} {h l:Addr} {as:List Addr} {n c:Nat} {gs:List Gm} (A:fK G U H h l as n c gs) {j:Nat} {g:Gm} (e:gs[j]? =some g):∃a dx,as[j]? =some a/\Dj (as.map V.ref) (j:Int)=some (V.ref a)/\H a=some (.ke G dx (gf g)):=by
 obtain ⟨a,dx,h1,h2,h3⟩:=A.yF e
 exact ⟨a,dx,h1,cg h2,h3⟩
theorem nX {l:List Nat} {i:Nat} {x:V} (h:(nV l)[i]? =some x):∃k,l[i]? =some k/\x=V.int (k:Nat):=by
 unfold nV at h
 rw [ay] at h
 cases e:l[i]? with
 |none=>rw [e] at h;cases h
 |some k=>rw [e] at h;exact ⟨k,rfl,(Option.some.inj h).symm⟩
theorem xm {l:List Nat} {i k:Nat} (h:l[i]? =some k):(nV l)[i]? =some (V.int (k:Nat)):=by
 unfold nV
 rw [ay,h]
 rfl
theorem cN (l:List Nat):(nV l).length=l.length:=by unfold nV;rw [af]
theorem wG (l m:List Nat):nV (l++m)=nV l++nV m:=by unfold nV;rw [a4]
theorem fB (l:List Nat) (k:Nat):nV (l++[k])=nV l++[V.int (k:Nat)]:=wG l [k]
def tk (l:List Nat):List (iq×V):=l.map λk=>(Sum.inl ((k:Nat):Int),V.bl true)
theorem Kf (l:List Nat) (k:Nat):(k7 (tk l) (Sum.inl ((k:Nat):Int))).isSome=decide (k∈l):=by
 rw [<-pS]
 unfold tk
 rw [ja,dW,cD,cJ]
 constructor
 ·rintro ⟨x,hx,e⟩
  have:(Sum.inl ((x:Nat):Int):iq)=Sum.inl ((k:Nat):Int):=by simpa using e
  have:=Sum.inl.inj this
  have:x=k:=by lia
  subst this
  exact hx
 ·intro h
  exact ⟨k,h,by simp⟩
theorem Ob {l:List Nat} {k:Nat} (h:k∉l):lY (tk l) (Sum.inl ((k:Nat):Int)) (V.bl true)=tk (l++[k]):=by
 rw [Jb]
 ·unfold tk
  rw [a4]
  rfl
 ·have:=Kf l k
  rw [a8 h] at this
  exact Option.not_isSome_iff_eq_none.mp (by rw [this];simp)
theorem NJ (l:List Nat):(tk l).length=l.length:=by unfold tk;rw [af]
theorem Ls (l:List Nat):(tk l).map (·.1)=(l.map λk=>((k:Nat):Int)).map Sum.inl:=by
 unfold tk
 rw [cX,cX]
 rfl
theorem oF (l:List Nat):nV l=(l.map λk=>((k:Nat):Int)).map V.int:=by unfold nV;rw [cX];rfl
section
variable {P:Program} {w:World} {K:PySem.W.Frag} {mg:Str->Option Value} {base:Heap} {G U:Addr}
abbrev oN:Stmt:=iB 1
theorem hZ:bt ["house","start","packet","both","candidates","number","held","waiting","game"] ["house","start","packet"] (aJ oN):=⟨rfl,rfl,rfl,by decide +kernel,rfl,by decide +kernel,by decide +kernel⟩
def Mb (G U:Addr):Sp:=λvs H Q _=>∃(h l:Addr) (as:List Addr) (n c:Nat) (gs:List Gm) (i p q:Nat),vs=[.ref h,.int i,.int p]/\fK G U H h l as n c gs/\gs.length<=30/\Vbqzak.packetOf gs i=some q/\
 ∀H' a,bB H H'->H a=none->H' a=some (.a6 (nV (Vbqzak.chain gs i p)))->Q (.ref a) H'
theorem QU (D:Df K mg "chain_of" oN) (T:Tx K mg G U) (ft:ph P w K mg base 2 G "shares_team" ["self","other"] (OV G)):dQ P w K mg base 3 "chain_of" ["house","start","packet"] (Mb G U):=by
 obtain ⟨f,fd,M,F⟩:=D
 refine ⟨f,fd,M,F.kp,F.cC (λ_ _ _ _ _ _ us hl=>(match us,hl with|[_,_,_],_=>rfl)),F.ok hZ (λvs H Q E h=> ?_) (λcdv A bE s H vs Q E hr h=> ?_)⟩
 ·obtain ⟨h,l,as,n,c,gs,i,p,q,rfl,_⟩:=h
  rfl
 ·obtain ⟨h,l,as,n,c,gs,i,p,q,rfl,B,hlen,hq,k⟩:=h
  obtain ⟨dh,dd,hh⟩:=B.hs
  refine ⟨_,(ai (bx (i:=3) hZ.nd rfl (Or.inr rfl) (kM (aa (cw (K:=K) (cH (je (K:=K)) (cw (K:=K) (pv 0)) (pv 1) (λ_ _=>rfl))) (aa (pv 2) ah)))) (ai (vI (i:=4) rfl hZ.nd rfl rfl (yg rfl rfl rfl rfl) (iU:=[("number",5)]) (d3 rfl T.range (aa (bT (fF (K:=K)) (by rfl) T.len bh (aa (cw (K:=K) (pv 0)) ah)) ah)) (eC (by show nP ["house","start","packet","both","candidates","number","held","waiting","game"] (aJ oN) _ _=true;decide +kernel)) (λ_ _ _ _ _=>(cu (i:=5) hZ.nd rfl (Or.inl rfl))) (λ_ _ _ _ _=>by exact (lT (bo (LR (K:=K)) (cw (K:=K) (cH (je (K:=K)) (cw (K:=K) (pv 0)) (pv 5) (λ_ _=>rfl))) (pv 3) rfl))) (λ_ _ _ _ _=>by exact (pv 5))) (ai (bx (i:=6) hZ.nd rfl (Or.inl rfl) (Mh (JM (pv 1) sC Md) rfl rfl (by simp) (by decide))) (ai (bx (i:=7) hZ.nd rfl (Or.inl rfl) (cf (aa (pv 1) ah))) (ai (l5 aT (yy (K:=K) (pv 7)) (ai (bx (i:=8) hZ.nd rfl (Or.inl rfl) (cH (je (K:=K)) (cw (K:=K) (pv 0)) (FR (K:=K) aQ iM iN Be (pv 7)) (λ_ _=>rfl))) (aq (d8 aT rfl (fo (K:=K) (pv 4)) (cu (i:=5) hZ.nd rfl (Or.inl rfl)) (aq (cP (PW.pt (wj (Kq (zO (yC hr) (pv 5) (pv 6)) (by rfl)) (tw (iP (g7 ft T.cq (hr.bY (by decide)) (pv 8) (aa (cH (je (K:=K)) (cw (K:=K) (pv 0)) (pv 5) (λ_ _=>rfl)) ah)))))) (ai (AG (yC hr) (pv 6) (pv 5) sC rfl) (aq (dS (mS (K:=K) aQ bL bM fe (pv 7) (aa (pv 5) ah))))) bF)))))) (aq (aV (bT (Ej rfl) (by rfl) T.sf fA (aa (pv 6) ah))))))))),?_⟩
  have hil:=Qm.dI hq
  have Mo:gs[i]? =some gs[i]:=ab hil
  have WW:gs[i].p=some q:=by rw [<-Qm.ck Mo];exact hq
  obtain ⟨a0,Vr,Px,IB,Py⟩:=B.xE Mo
  have el:(as.map V.ref).length=gs.length:=by rw [af];exact B.len
  refine ⟨_,rfl,fI hh T.a7 T.u3 rfl ⟨_,rfl,xI (cE.of B.a6) IB (fI Py T.cq T.g3 (eQ _) ⟨_,rfl,(by show 2<=sizeLine;decide),λtb T2=> ?_⟩)⟩⟩
  rw [WW]
  have s1:bB H (bG H tb (.dC [V.int (pk (some q)),V.int p])):=aN T2
  have ht1:bG H tb (.dC [V.int (pk (some q)),V.int p]) tb=some (.dC [V.int (pk (some q)),V.int p]):=aj
  generalize bG H tb (.dC [V.int (pk (some q)),V.int p])=H1 at s1 ht1
  have B1:=B.same s1
  obtain ⟨Ni,Pz,hh1⟩:=B1.hs
  refine ⟨_,rfl,fI hh1 T.a7 T.u3 rfl ⟨l,_,rfl,.inl (cE.of B1.a6),_,rfl,(by lia),(by rw [el];lia),λca yh=> ?_⟩⟩
  refine mf (Pv:=λj H2=>bB H1 H2/\H2 ca=some (.a6 (nV ((List.range j).filter λk=>Vbqzak.packetOf gs k==some q||Vbqzak.packetOf gs k==some p)))) ⟨aN yh,aj⟩ ?_ ?_
  ·rintro j H2 hj ⟨s2,hc2⟩
   rw [aK,el] at hj
   have B2:=B1.same s2
   obtain ⟨GU,dd2,BY⟩:=B2.hs
   obtain ⟨a,dx,ha,qc,pD⟩:=B2.xE (ab hj)
   refine ⟨rfl,_,rfl,fI BY T.a7 T.u3 rfl ⟨_,rfl,xI (cE.of B2.a6) (by rw [di];exact qc) (fI pD T.cq T.g3 (eQ _) ⟨_,rfl,tb,_,rfl,.inr (kY.of (s2 _ _ ht1)),rfl,rfl,_,rfl,?_⟩)⟩⟩
   have Mp:LM (V.int (pk gs[j].p)) [V.int (pk (some q)),V.int p]=(Vbqzak.packetOf gs j==some q||Vbqzak.packetOf gs j==some p):=by
    rw [Qm.ck (ab hj)]
    show (((pk (some q):Int)==pk gs[j].p)||(((p:Int)==pk gs[j].p)||false))=_
    rw [iF]
    have e1:∀r:Nat,((r:Int)==pk gs[j].p)=(gs[j].p==some r):=λr=>by
     by_cases h:gs[j].p=some r
     ·rw [h];simp [pk]
     ·have h2:¬(r:Int)=pk gs[j].p:=λz=>h (BR.mp z.symm)
      rw [bZ.mpr h,bZ.mpr h2]
    have e2:=e1 q
    rw [show ((q:Int)==pk gs[j].p)=((pk (some q):Int)==pk gs[j].p) from rfl] at e2
    rw [e1 p,e2]
   show if LM (V.int (pk gs[j].p)) [V.int (pk (some q)),V.int p]=true then _ else _
   rw [Mp]
   refine gr (λe1=> ?_) (λe1=> ?_)
   ·refine ⟨_,rfl,_,hc2,?_,c6 s2 yh,?_⟩
    ·rw [cN]
     refine cv (bg (bQ _ _) ?_)
     rw [aM]
     lia
    ·rw [aj,cT,cj,wG,di,aS (p:=λk=>Vbqzak.packetOf gs k==some q||Vbqzak.packetOf gs k==some p) e1]
     rfl
   ·refine ⟨s2,?_⟩
    rw [cT,cj,aO (p:=λk=>Vbqzak.packetOf gs k==some q||Vbqzak.packetOf gs k==some p) (by rw [e1];simp),eE,bR]
    exact hc2
  ·rintro H2 ⟨s2,hc2⟩
   rw [aK,el] at hc2
   have hc2:H2 ca=some (.a6 (nV (Qm.xg gs p q))):=hc2
   have s12:=s1.trans s2
   intro dd hdd
   refine ⟨_,rfl,aj,[(Sum.inl (i:Int),V.bl true)],rfl,by simp,?_⟩
   rw [mV]
   have s3:bB H2 (bG H2 dd (.dK (rS [] [(Sum.inl (i:Int),V.bl true)]))):=aN hdd
   have IC:bG H2 dd (.dK (rS [] [(Sum.inl (i:Int),V.bl true)])) dd=some (.dK (tk [i])):=aj
   generalize bG H2 dd (.dK (rS [] [(Sum.inl (i:Int),V.bl true)]))=H3 at s3 IC
   refine ⟨_,rfl,(by show 1<=sizeLine;decide),λww ID=> ?_⟩
   have Vs:ww≠dd:=λe=>by rw [e,IC] at ID;cases ID
   have hcd:ca≠dd:=λe=>by rw [<-e,hc2] at hdd;cases hdd
   have hcw:ca≠ww:=λe=>by rw [<-e,s3 _ _ hc2] at ID;cases ID
   have h2d:H dd=none:=s12.free hdd
   have h2w:H ww=none:=(s12.trans s3).free ID
   have Zy:H2 dd=none:=hdd
   have Yy:H2 ww=none:=s3.free ID
   refine ⟨λm σ H'=>∃(dl wl:List Nat) (v5 v8:Option V),σ=[some (.ref h),some (.int i),some (.int p),some (.ref tb),some (.ref ca),v5,some (.ref dd),some (.ref ww),v8]/\(∀b o,H2 b=some o->H' b=some o)/\
    H' dd=some (.dK (tk dl))/\H' ww=some (.a6 (nV wl))/\Qm.Ga gs i p q dl wl/\m+2*dl.length=2*gs.length+wl.length/\wl.length<=dl.length,
    ⟨2*gs.length-1,[i],[i],none,none,rfl,λb o e=> ?_,?_,aj,Qm.Ga.start hq,by simp;lia,by simp⟩,?_⟩
   ·rw [aL (az (s3 _ _ e) ID)]
    exact s3 _ _ e
   ·rw [aL (aY Vs)]
    exact IC
   ·rintro m σ H4 ⟨dl,wl,v5,v8,rfl,s4,Yz,KY,DF,hm,T3⟩
    refine ⟨_,rfl,!wl.isEmpty,.inl ⟨nV wl,cE.of KY,(by cases wl<;>rfl)⟩,?_⟩
    refine gr (λe1=> ?_) (λe1=> ?_)
    ·obtain ⟨sS,x,rfl⟩:∃sS x,wl=sS++[x]:=⟨wl.dropLast,wl.getLast (by intro e;subst e;cases e1),(eF _).symm⟩
     have Ec:x< gs.length:=DF.lt hq (DF.nO x (by simp))
     have B4:fK G U H4 h l as n c gs:=(B.same s12).same s4
     refine ⟨fun σ H'=>∃(dl wl:List Nat) (v5 v8:Option V),σ=[some (.ref h),some (.int i),some (.int p),some (.ref tb),some (.ref ca),v5,some (.ref dd),some (.ref ww),v8]/\(∀b o,H2 b=some o->H' b=some o)/\
      H' dd=some (.dK (tk dl))/\H' ww=some (.a6 (nV wl))/\Qm.Ga gs i p q dl wl/\dl.length<=gs.length/\2*gs.length+wl.length< m+2*dl.length/\wl.length<=dl.length,?_,?_⟩
     ·rintro σ' H' ⟨YA,Io,w5,w8,rfl,s',hd',Zz,ZA,hle,hlt,WX⟩
      exact ⟨2*gs.length+Io.length-2*YA.length,by lia,YA,Io,w5,w8,rfl,s',hd',Zz,ZA,by lia,WX⟩
     ·obtain ⟨Vt,YB,T4⟩:=B4.hs
      refine ⟨_,rfl,fI T4 T.a7 T.u3 rfl ⟨_,rfl,.inl ⟨rfl,_,cE.of KY⟩,ww,_,V.int (x:Nat),rfl,rfl,KY,(by rw [fB];simp),?_⟩⟩
      have T5:(nV (sS++[x])).dropLast=nV sS:=by rw [fB,iW]
      rw [T5]
      have s5:∀b o,H2 b=some o->bG H4 ww (.a6 (nV sS)) b=some o:=λb o e=>by
       rw [aL (az e Yy)]
       exact s4 b o e
      have T6:bG H4 ww (.a6 (nV sS)) dd=some (.dK (tk dl)):=by rw [aL (aY Vs)];exact Yz
      have T7:bG H4 ww (.a6 (nV sS)) ww=some (.a6 (nV sS)):=aj
      generalize bG H4 ww (.a6 (nV sS))=H5 at s5 T6 T7
      have B5:fK G U H5 h l as n c gs:=(B.same s12).same s5
      obtain ⟨ax,dxx,ZC,ZD,Ik⟩:=B5.xE (ab Ec)
      refine (xI (cE.of B5.a6) ZD ?_)
      refine ⟨_,rfl,ca,rfl,⟨_,cE.of (s5 _ _ hc2)⟩,fY (K:=K) (a:=ca) (xs:=nV (Qm.xg gs p q)) (λj σ H'=>∃(IE IF:List Nat) (v5:Option V),σ=[some (.ref h),some (.int i),some (.int p),some (.ref tb),some (.ref ca),v5,some (.ref dd),some (.ref ww),some (.ref ax)]/\(∀b o,H2 b=some o->H' b=some o)/\
       H' dd=some (.dK (tk IE))/\H' ww=some (.a6 (nV IF))/\Qm.xG gs i p q x j IE IF/\2*gs.length+IF.length< m+2*IE.length/\IF.length<=IE.length) ⟨dl,sS,v5,rfl,s5,T6,T7,DF.pop,by rw [ao] at hm;simp at hm;lia,by rw [ao] at T3;simp at T3;lia⟩ (λj σ H' _ ⟨_,_,_,_,z,_⟩=>cE.of (z _ _ hc2)) ?_ ?_⟩
      ·rintro j y σ H6 hy ⟨IE,IF,w5,rfl,s6,Qg,KZ,DM,Nj,Mq⟩
       obtain ⟨kn,xM,rfl⟩:=nX hy
       have Mj:kn< gs.length:=by
        rcases Qm.vS.mp (aw xM) with z|z<;>exact Qm.dI z
       have B6:fK G U H6 h l as n c gs:=(B.same s12).same s6
       obtain ⟨YC,ZE,WY⟩:=B6.hs
       have Mr:∃d6,H6 ax=some (.ke G d6 (gf gs[x])):=B6.vO x ax gs[x] ZC (ab Ec)
       obtain ⟨d6,Mr⟩:=Mr
       obtain ⟨ak,dk,hak,Vu,TV⟩:=B6.xE (ab Mj)
       refine ⟨_,rfl,_,rfl,dd,_,rfl,tI.k (k:=Sum.inl ((kn:Nat):Int)) Qg,_,rfl,?_⟩
       rw [Kf]
       have YD:=DM.len hq
       refine gr (λe2=> ?_) (λe2=> ?_)
       ·have Ip:kn∉IE:=by simpa using e2
        refine ⟨_,rfl,ax,d6,_,rfl,Mr,rfl,_,rfl,fI WY T.a7 T.u3 rfl ⟨_,rfl,xI (cE.of B6.a6) Vu ⟨ax,d6,ak,dk,gs[x],gs[kn],rfl,Mr,TV,_,rfl,?_⟩⟩⟩
        refine gr (λe3=> ?_) (λe3=> ?_)
        ·have DA:=DM.add hq xM Ip (ab Mj) (ab Ec) e3
         refine ⟨_,rfl,_,rfl,dd,_,rfl,By.k (k:=Sum.inl ((kn:Nat):Int)) Qg (by rw [NJ];exact cv (by lia)),?_⟩
         rw [Ob Ip]
         have T8:bG H6 dd (.dK (tk (IE++[kn]))) ww=some (.a6 (nV IF)):=by rw [aL Vs];exact KZ
         have hwl:IF.length< sizeLine:=cv (by lia)
         refine ⟨_,rfl,.inl ⟨rfl,_,cE.of T8⟩,_,rfl,ww,_,_,rfl,rfl,T8,(by rw [cN];exact hwl),?_⟩
         refine ⟨IE++[kn],IF++[kn],_,rfl,λb o e=> ?_,?_,?_,DA,?_⟩
         ·rw [aL (az e Yy),aL (az e Zy)]
          exact s6 b o e
         ·rw [aL (aY Vs)]
          exact aj
         ·rw [aj,fB]
         ·rw [ao,ao]
          simp
          lia
        ·refine ⟨IE,IF,_,rfl,s6,Qg,KZ,DM.skip xM (.inr λgk gx z1 z2=> ?_),Nj,Mq⟩
         rw [ab Mj] at z1
         rw [ab Ec] at z2
         rw [<-Option.some.inj z1,<-Option.some.inj z2]
         exact e3
       ·refine i0 ⟨IE,IF,_,rfl,s6,Qg,KZ,DM.skip xM (.inl (by simpa using e2)),Nj,Mq⟩
      ·rintro σ H6 ⟨IE,IF,w5,rfl,s6,Qg,KZ,DM,Nj,Mq⟩
       rw [cN] at DM
       exact ⟨IE,IF,w5,_,rfl,s6,Qg,KZ,DM.zg,DM.len hq,Nj,Mq⟩
    ·have:wl=[]:=by
      cases wl with
      |nil=>rfl
      |cons a b=>cases e1
     subst this
     refine ⟨_,rfl,dd,_,dl.map λk=>((k:Nat):Int),rfl,Yz,Ls dl,(by rw [af];have:=DF.len hq;lia),λns' a hp hs ha=> ?_⟩
     have e:=Qm.DJ hp hs (Qm.qo hq) (DF.perm hq)
     have s5:bB H H4:=λb o e=>s4 b o (s12 b o e)
     refine k _ a (λb o e2=> ?_) (s5.free ha) ?_
     ·rw [aL (az (s5 _ _ e2) ha)]
      exact s5 _ _ e2
     ·rw [aj,e,oF]
end
end Qz
end
section
namespace Qm
open Vbqzak
def FQ (gs:List Game) (xs:List Nat) (f:Game->Game):List Game:=gs.mapIdx λk g=>if k∈xs then f g else g
theorem qJ (gs:List Game) (xs:List Nat) (f:Game->Game) (k:Nat):(FQ gs xs f)[k]? =gs[k]?.map λg=>if k∈xs then f g else g:=by
 unfold FQ
 rw [rJ]
theorem EZ (gs:List Game) (xs:List Nat) (f:Game->Game):(FQ gs xs f).length=gs.length:=by unfold FQ;rw [List.length_mapIdx]
theorem F0 (gs:List Game) (f:Game->Game):FQ gs [] f=gs:=by
 apply bS
 intro k
 rw [qJ]
 cases gs[k]? <;>simp
theorem Dc {gs:List Game} {xs:List Nat} {f:Game->Game} {x:Nat} {g:Game} (hx:x∉xs) (hg:gs[x]? =some g):(FQ gs xs f)[x]? =some g/\(FQ gs xs f).set x (f g)=FQ gs (xs++[x]) f:=by
 refine ⟨by rw [qJ,hg];simp [hx],?_⟩
 apply bS
 intro k
 have hl:=(ae.mp hg).1
 by_cases h:x=k
 ·subst h
  rw [cI (by rw [EZ];exact hl),qJ,hg]
  simp
 ·rw [cO h,qJ,qJ]
  cases gs[k]? with
  |none=>rfl
  |some y=>
   have:(k∈xs++[x])↔k∈xs:=by
    rw [aI]
    constructor
    ·rintro (h1|h1)
     ·exact h1
     ·exact absurd (by simpa using h1) (aY h)
    ·exact .inl
   simp only [fT,this]
def vr (wL other:Nat) (g:Game):Game:={g with p:=if g.p=some wL then some other else some wL}
theorem tX {gs:List Game} {i p q:Nat} (h:packetOf gs i=some q) (ua:p≠q) {wL other:Nat} (ho:(wL=q/\other=p)\/(wL=p/\other=q)):FQ gs (chain gs i p) (vr wL other)=exchanged gs i p:=by
 apply bS
 intro k
 rw [qJ,iG h]
 cases e:gs[k]? with
 |none=>rfl
 |some g=>
  simp only [fT]
  by_cases hk:k∈chain gs i p
  ·rw [aA hk,aA hk]
   have hp:=eX h hk
   rw [ck e] at hp
   congr 1
   unfold vr xk
   rcases ho with ⟨rfl,rfl⟩|⟨rfl,rfl⟩
   ·rcases hp with e1|e1
    ·rw [e1,au (by simpa using ua),aA rfl]
    ·rw [e1,aA rfl,au (by simpa using aY ua)]
   ·rcases hp with e1|e1
    ·rw [e1]
    ·rw [e1]
  ·rw [au hk,au hk]
theorem Ha {c k:Nat} {gs:List Game} (h:uses gs (mostUsed gs c)<=uses gs (leastUsed gs c)+1):even c (k+1) gs=(gs,0):=by
 unfold even
 simp only
 rw [aA h]
theorem Lf {c k:Nat} {gs:List Game} {g:Nat} (h:¬uses gs (mostUsed gs c)<=uses gs (leastUsed gs c)+1) (hg:heavy gs (mostUsed gs c) (leastUsed gs c)=some g):
  even c (k+1) gs=((even c k (exchanged gs g (rD gs (mostUsed gs c) (leastUsed gs c) g))).1,(even c k (exchanged gs g (rD gs (mostUsed gs c) (leastUsed gs c) g))).2+1):=by
 rw [even]
 simp only
 rw [au h,hg]
theorem yM {gs:List Game} {i j g:Nat} (hij:i≠j) (h:heavy gs i j=some g):∃q,packetOf gs g=some q/\rD gs i j g≠q/\((i=q/\j=rD gs i j g)\/(i=rD gs i j g/\j=q)):=by
 obtain ⟨hp,_⟩:=yT h
 rcases hp with e|e
 ·refine ⟨i,e,?_,.inl ⟨rfl,?_⟩⟩<;>(unfold rD;rw [aA e])
  exact aY hij
 ·have h1:¬packetOf gs g=some i:=by rw [e];simpa using aY hij
  refine ⟨j,e,?_,.inr ⟨?_,rfl⟩⟩<;>(unfold rD;rw [au h1])
  exact hij
theorem Du {gs Fv:List Game} (e:pairsOf Fv=pairsOf gs) (W:Wf gs):Wf Fv:=λg hg=>by
 have:=my hg
 rw [e] at this
 obtain ⟨y,hy,e2⟩:=bC.mp this
 have h1:y.a=g.a:=cS Prod.fst e2
 have h2:y.b=g.b:=cS Prod.snd e2
 rw [<-h1,<-h2]
 exact W y hy
structure FO (c:Nat) (g0:List Game) (t:Nat) (gs:List Game):Prop where
 wf:Wf gs
 fH:eT gs
 j7:pairsOf gs=pairsOf g0
 pk:∀(k q:Nat),packetOf gs k=some q->q< c
 BC:∀(k:Nat),packetOf g0 k≠none->packetOf gs k≠none
 Iw:Iw gs c+2*t<=900
 res:∃m,m+t=1000/\(even c 1000 g0).1=(even c m gs).1/\(even c 1000 g0).2=(even c m gs).2+t
theorem FO.start {c:Nat} {g0:List Game} (W:Wf g0) (P:eT g0) (hl:g0.length<=30) (hp:∀(k q:Nat),packetOf g0 k=some q->q< c):FO c g0 0 g0:=
 ⟨W,P,rfl,hp,λ_ h=>h,by
  have h1:=O7 g0 c
  have h2:g0.length*g0.length<=30*30:=rH hl hl
  lia,1000,rfl,rfl,rfl⟩
theorem FO.stop {c:Nat} {g0 gs:List Game} {t:Nat} (E:FO c g0 t gs) (h:uses gs (mostUsed gs c)<=uses gs (leastUsed gs c)+1):(even c 1000 g0).1=gs/\(even c 1000 g0).2=t:=by
 obtain ⟨m,hm,h1,h2⟩:=E.res
 have hp:=E.Iw
 obtain ⟨k,rfl⟩:∃k,m=k+1:=⟨m-1,by lia⟩
 rw [Ha h] at h1 h2
 exact ⟨h1,by simpa using h2⟩
theorem FO.next {c:Nat} {g0 gs:List Game} {t:Nat} (E:FO c g0 t gs) (hc:0< c) (h:¬uses gs (mostUsed gs c)<=uses gs (leastUsed gs c)+1):
  ∃g,heavy gs (mostUsed gs c) (leastUsed gs c)=some g/\mostUsed gs c≠leastUsed gs c/\FO c g0 (t+1) (exchanged gs g (rD gs (mostUsed gs c) (leastUsed gs c) g)):=by
 obtain ⟨g,hg,ZF⟩:=ER E.wf E.fH hc (by lia)
 have hne:mostUsed gs c≠leastUsed gs c:=λe=>by rw [e] at h;lia
 obtain ⟨q,hq,ua,oQ⟩:=yM hne hg
 have h1:=(lO gs c hc).1
 have h2:=(kx gs c hc).1
 refine ⟨g,hg,hne,Du (iS _ _ _) E.wf,ly hq ua E.fH,(iS _ _ _).trans E.j7,λk r hr=> ?_,λk hk=> ?_,by have:=E.Iw;lia,?_⟩
 ·rw [eK hq] at hr
  have Mn:=E.pk _ _ hq
  have WZ:rD gs (mostUsed gs c) (leastUsed gs c) g< c:=by
   rcases oQ with ⟨_,e⟩|⟨e,_⟩
   ·rw [<-e];exact h2
   ·rw [<-e];exact h1
  split at hr
  ·split at hr
   ·rw [<-Option.some.inj hr];exact Mn
   ·rw [<-Option.some.inj hr];exact WZ
  ·exact E.pk _ _ hr
 ·rw [eK hq]
  split
  ·split<;>simp
  ·exact E.BC k hk
 ·obtain ⟨m,hm,e1,e2⟩:=E.res
  have hp:=E.Iw
  obtain ⟨k,rfl⟩:∃k,m=k+1:=⟨m-1,by lia⟩
  rw [Lf h hg] at e1 e2
  refine ⟨k,by lia,e1,?_⟩
  rw [e2]
  show _+1+t=_+(t+1)
  lia
end Qm
end
section
namespace Qz
open PySem PySem.Spec PyProof.Rows L2
def Kp (as:List Addr) (H H':Hp):Prop:=∀b o,H b=some o->b∉as->H' b=some o
theorem Kp.refl (as:List Addr) (H:Hp):Kp as H H:=λ_ _ e _=>e
theorem Kp.of {as:List Addr} {H H':Hp} (s:bB H H'):Kp as H H':=λb o e _=>s b o e
theorem Kp.trans {as:List Addr} {H H1 H2:Hp} (a:Kp as H H1) (b:Kp as H1 H2):Kp as H H2:=λc o e n=>b c o (a c o e n) n
theorem fK.HX {G U:Addr} {H:Hp} {h l:Addr} {as:List Addr} {n c:Nat} {gs:List Gm} (A:fK G U H h l as n c gs) {b:Addr} {o:HO} (e:H b=some o) (ho:∀C dx g,o≠.ke C dx (gf g)):b∉as:=λhb=>by
 obtain ⟨j,hj⟩:=a9.mp hb
 have hl:j< gs.length:=by rw [<-A.len];exact (ae.mp hj).1
 obtain ⟨dx,h1⟩:=A.vO j b gs[j] hj (ab hl)
 rw [e] at h1
 exact ho _ _ _ (Option.some.inj h1)
theorem SK {n c:Nat} {l d:Addr} {g:Gm}:hf n c l d≠gf g:=λe=>by
 unfold hf gf at e
 have:=(List.cons.inj e).1
 have h2:(("teams":Str)="first"):=cS Prod.fst this
 exact absurd h2 (by decide +kernel)
theorem fK.M7 {G U:Addr} {H:Hp} {h l:Addr} {as:List Addr} {n c:Nat} {gs:List Gm} (A:fK G U H h l as n c gs):h∉as:=by
 obtain ⟨dh,dd,hh⟩:=A.hs
 exact A.HX hh λC dx g e=>by
  injection e with e1 e2 e3
  exact SK e3
theorem fK.M5 {G U:Addr} {H:Hp} {h l:Addr} {as:List Addr} {n c:Nat} {gs:List Gm} (A:fK G U H h l as n c gs):l∉as:=A.HX A.a6 λC dx g e=>by cases e
theorem fK.put {G U:Addr} {H:Hp} {h l:Addr} {as:List Addr} {n c:Nat} {gs:List Gm} (A:fK G U H h l as n c gs) {j:Nat} {a dx:Addr} {g g':Gm} (ha:as[j]? =some a) (hg:gs[j]? =some g):
  fK G U (bG H a (.ke G dx (gf g'))) h l as n c (gs.set j g'):=by
 have Vv:a∈as:=aw ha
 have n1:h≠a:=λe=>A.M7 (e▸Vv)
 have n2:l≠a:=λe=>A.M5 (e▸Vv)
 refine ⟨A.hs.imp λdh e=>e.imp λdd e=>by rw [aL n1];exact e,by rw [aL n2];exact A.a6,A.nd,by rw [gB];exact A.len,λk b x hb hx=> ?_⟩
 by_cases hk:k=j
 ·subst hk
  rw [ha] at hb
  have:=Option.some.inj hb
  subst this
  rw [cI (ae.mp hg).1] at hx
  rw [<-Option.some.inj hx]
  exact ⟨dx,aj⟩
 ·rw [cO (aY hk)] at hx
  obtain ⟨dy,hy⟩:=A.vO k b x hb hx
  have TX:b≠a:=λe=>by
   subst e
   exact hk (MV A.nd hb ha)
  exact ⟨dy,by rw [aL TX];exact hy⟩
theorem fK.vW {G U:Addr} {H:Hp} {as:List Addr} {j:Nat} {a:Addr} {o:HO} (ha:as[j]? =some a):Kp as H (bG H a o):=λb u e hb=>by
 have hne:b≠a:=λz=>by
  subst z
  exact hb (aw ha)
 rw [aL hne]
 exact e
section
variable {P:Program} {w:World} {K:PySem.W.Frag} {mg:Str->Option Value} {base:Heap} {G U:Addr}
abbrev si:Stmt:=iB 2
theorem rZ:bt ["house","chain","one","other","number","game"] ["house","chain","one","other"] (aJ si):=⟨rfl,rfl,rfl,by decide +kernel,rfl,by decide +kernel,by decide +kernel⟩
def OI (G U:Addr):Sp:=λvs H Q _=>∃(h l:Addr) (as:List Addr) (n c:Nat) (gs:List Gm) (ca:Addr) (xs:List Nat) (wL other:Nat),vs=[.ref h,.ref ca,.int wL,.int other]/\fK G U H h l as n c gs/\H ca=some (.a6 (nV xs))/\xs.Nodup/\(∀x∈xs,x< gs.length)/\
 ∀H',fK G U H' h l as n c (Qm.FQ gs xs (Qm.vr wL other))->Kp as H H'->Q .ll H'
theorem Sz (D:Df K mg "exchange" si) (T:Tx K mg G U):dQ P w K mg base 1 "exchange" ["house","chain","one","other"] (OI G U):=by
 obtain ⟨f,fd,M,F⟩:=D
 refine ⟨f,fd,M,F.kp,F.cC (λ_ _ _ _ _ _ us hl=>(match us,hl with|[_,_,_,_],_=>rfl)),F.ok rZ (λvs H Q E h=> ?_) (λcdv A bE s H vs Q E hr h=> ?_)⟩
 ·obtain ⟨h,l,as,n,c,gs,ca,xs,wL,other,rfl,_⟩:=h
  rfl
 ·obtain ⟨h,l,as,n,c,gs,ca,xs,wL,other,rfl,B,yh,Pp,hlt,k⟩:=h
  refine ⟨_,(aq (d8 aT rfl (fo (K:=K) (pv 1)) (cu (i:=4) rZ.nd rfl (Or.inl rfl)) (ai (bx (i:=5) rZ.nd rfl (Or.inl rfl) (cH (je (K:=K)) (cw (K:=K) (pv 0)) (pv 4) (λ_ _=>rfl))) (aq (lu (pv 5) (vC (bo dU (cw (K:=K) (pv 5)) (pv 2) (bN _)) (pv 3) (pv 2)) rfl))))),?_⟩
  have ZG:ca∉as:=B.HX yh λC dx g e=>by cases e
  refine ⟨_,rfl,ca,rfl,⟨_,cE.of yh⟩,fY (K:=K) (a:=ca) (xs:=nV xs) (λj σ H'=>∃(v4 v5:Option V),σ=[some (.ref h),some (.ref ca),some (.int wL),some (.int other),v4,v5]/\fK G U H' h l as n c (Qm.FQ gs (xs.take j) (Qm.vr wL other))/\Kp as H H') ⟨none,none,rfl,by rw [List.take_zero,Qm.F0];exact B,Kp.refl _ _⟩ (λj σ H' _ ⟨_,_,_,_,z⟩=>cE.of (z _ _ yh ZG)) ?_ ?_⟩
  ·rintro j y σ H' hy ⟨v4,v5,rfl,B',kp⟩
   obtain ⟨x,hx,rfl⟩:=nX hy
   have Ec:=hlt x (aw hx)
   have Ip:x∉xs.take j:=λhm=>by
    obtain ⟨i,hi⟩:=a9.mp hm
    have hij:i< j:=by
     have:=(ae.mp hi).1
     rw [bf] at this
     lia
    rw [gN hij] at hi
    exact bO hij (MV Pp hi hx)
   obtain ⟨Kw,PB⟩:=Qm.Dc (f:=Qm.vr wL other) Ip (ab Ec)
   obtain ⟨dh,dd,hh⟩:=B'.hs
   obtain ⟨a,dx,ha,qc,pD⟩:=B'.xE Kw
   refine ⟨_,rfl,fI hh T.a7 T.u3 rfl ⟨_,rfl,xI (cE.of B'.a6) qc ?_⟩⟩
   refine ⟨_,rfl,fI pD T.cq T.g3 (eQ _) ⟨_,rfl,rfl,_,rfl,?_⟩⟩
   rw [o8]
   have fin:∀o:Option Nat,(Qm.vr wL other gs[x])={gs[x] with p:=o}->∃(v4 v5:Option V),([some (.ref h),some (.ref ca),some (.int wL),some (.int other),some (.int (x:Nat)),some (.ref a)]:L2.St)=[some (.ref h),some (.ref ca),some (.int wL),some (.int other),v4,v5]/\fK G U (bG H' a (.ke G dx (kd "packet" (.int (pk o)) (gf gs[x])))) h l as n c (Qm.FQ gs (xs.take (j+1)) (Qm.vr wL other))/\Kp as H (bG H' a (.ke G dx (kd "packet" (.int (pk o)) (gf gs[x])))):=λo e=>by
    refine ⟨_,_,rfl,?_,kp.trans (fK.vW (G:=G) (U:=U) ha)⟩
    rw [c4 hx,<-PB,JY,e]
    exact B'.put ha Kw
   refine gr (λe1=> ?_) (λe1=> ?_)
   ·refine ⟨_,rfl,_,rfl,a,G,dx,_,rfl,pD,T.cq,T.g3,(by show 3< 1000;decide),?_⟩
    exact fin (some other) (by unfold Qm.vr;rw [aA (by simpa using e1)])
   ·refine ⟨_,rfl,_,rfl,a,G,dx,_,rfl,pD,T.cq,T.g3,(by show 3< 1000;decide),?_⟩
    exact fin (some wL) (by unfold Qm.vr;rw [au (by simpa using e1)])
  ·rintro σ H' ⟨v4,v5,rfl,B',kp⟩
   rw [cN,bu] at B'
   exact k H' B' kp
abbrev oX:Stmt:=iB 3
theorem o4:bt ["house","start","packet","old","chain"] ["house","start","packet"] (aJ oX):=⟨rfl,rfl,rfl,by decide +kernel,rfl,by decide +kernel,by decide +kernel⟩
def OH (G U:Addr):Sp:=λvs H Q _=>∃(h l:Addr) (as:List Addr) (n c:Nat) (gs:List Gm) (i p q:Nat),vs=[.ref h,.int i,.int p]/\fK G U H h l as n c gs/\gs.length<=30/\Vbqzak.packetOf gs i=some q/\p≠q/\
 ∀H',fK G U H' h l as n c (Vbqzak.exchanged gs i p)->Kp as H H'->Q (.int ((Vbqzak.chain gs i p).length:Nat)) H'
theorem Sq (D:Df K mg "turn_chain" oX) (T:Tx K mg G U) (iy:dQ P w K mg base 3 "chain_of" ["house","start","packet"] (Mb G U)) (lG:dQ P w K mg base 1 "exchange" ["house","chain","one","other"] (OI G U)):dQ P w K mg base 4 "turn_chain" ["house","start","packet"] (OH G U):=by
 obtain ⟨f,fd,M,F⟩:=D
 refine ⟨f,fd,M,F.kp,F.cC (λ_ _ _ _ _ _ us hl=>(match us,hl with|[_,_,_],_=>rfl)),F.ok o4 (λvs H Q E h=> ?_) (λcdv A bE s H vs Q E hr h=> ?_)⟩
 ·obtain ⟨h,l,as,n,c,gs,i,p,q,rfl,_⟩:=h
  rfl
 ·obtain ⟨h,l,as,n,c,gs,i,p,q,rfl,B,hlen,hq,ua,k⟩:=h
  refine ⟨_,(ai (bx (i:=3) o4.nd rfl (Or.inl rfl) (cw (K:=K) (cH (je (K:=K)) (cw (K:=K) (pv 0)) (pv 1) (λ_ _=>rfl)))) (ai (bx (i:=4) o4.nd rfl (Or.inl rfl) (bW iy (hr.bY (by decide)) (aa (pv 0) (aa (pv 1) (aa (pv 2) ah))))) (ai (dS (bW lG (hr.bY (by decide)) (aa (pv 0) (aa (pv 4) (aa (pv 3) (aa (pv 2) ah)))))) (aq (aV (bT (fF (K:=K)) (by rfl) T.len bh (aa (pv 4) ah))))))),?_⟩
  have hil:=Qm.dI hq
  have Mo:gs[i]? =some gs[i]:=ab hil
  have WW:gs[i].p=some q:=by rw [<-Qm.ck Mo];exact hq
  obtain ⟨dh,dd,hh⟩:=B.hs
  obtain ⟨a0,Vr,Px,IB,Py⟩:=B.xE Mo
  refine ⟨_,rfl,fI hh T.a7 T.u3 rfl ⟨_,rfl,xI (cE.of B.a6) IB (fI Py T.cq T.g3 (eQ _) ?_)⟩⟩
  rw [WW]
  refine ⟨_,rfl,_,rfl,_,rfl,h,l,as,n,c,gs,i,p,q,rfl,B,hlen,hq,λH1 ca s1 Iq yh=> ?_⟩
  have B1:=B.same s1
  refine ⟨_,rfl,_,rfl,_,rfl,_,rfl,h,l,as,n,c,gs,ca,Vbqzak.chain gs i p,q,p,rfl,B1,yh,Qm.gd hq,λx hx=>Qm.kF hq hx,λH2 B2 kp=> ?_⟩
  rw [Qm.tX hq ua (.inl ⟨rfl,rfl⟩)] at B2
  have W0:H2 ca=some (.a6 (nV (Vbqzak.chain gs i p))):=kp _ _ yh (B1.HX yh λC dx g e=>by cases e)
  refine ⟨_,rfl,ca,_,rfl,.inl (cE.of W0),?_⟩
  rw [cN]
  exact k H2 B2 ((Kp.of s1).trans kp)
end
end Qz
end
section
namespace Qz
open PySem PySem.Spec PyProof.Rows L2
def hv (gs:List Gm) (i j g:Nat):Bool:=(Vbqzak.packetOf gs g==some i||Vbqzak.packetOf gs g==some j)&&decide (Vbqzak.inChain gs (Vbqzak.chain gs g (Qm.rD gs i j g)) j< Vbqzak.inChain gs (Vbqzak.chain gs g (Qm.rD gs i j g)) i)
theorem yr (gs:List Gm) (i j:Nat):Vbqzak.heavy gs i j=(List.range gs.length).find? (hv gs i j):=rfl
theorem FH {gs:List Gm} {l:List Nat} {i j k:Nat} (h:l[j]? =some k):Vbqzak.inChain gs (l.take (j+1)) i=Vbqzak.inChain gs (l.take j) i+(if Vbqzak.packetOf gs k=some i then 1 else 0):=by
 unfold Vbqzak.inChain
 rw [c4 h,cj,ao]
 congr 1
 by_cases e:Vbqzak.packetOf gs k=some i
 ·rw [aA e,aS (by simp [e])]
  rfl
 ·rw [au e,aO (by simp [e])]
  rfl
section
variable {P:Program} {w:World} {K:PySem.W.Frag} {mg:Str->Option Value} {base:Heap} {G U:Addr}
abbrev ik:Stmt:=iB 4
theorem eL:bt ["house","most","fewest","number","packet","chain","with_most","member"] ["house","most","fewest"] (aJ ik):=⟨rfl,rfl,rfl,by decide +kernel,rfl,by decide +kernel,by decide +kernel⟩
def RX (G U:Addr):Sp:=λvs H Q _=>∃(h l:Addr) (as:List Addr) (n c:Nat) (gs:List Gm) (i j g:Nat),vs=[.ref h,.int i,.int j]/\fK G U H h l as n c gs/\gs.length<=30/\i≠j/\Vbqzak.heavy gs i j=some g/\
 ∀H' a,bB H H'->H a=none->H' a=some (.a6 (nV (Vbqzak.chain gs g (Qm.rD gs i j g))))->Q (.ref a) H'
theorem Sy (D:Df K mg "chain_with_more" ik) (T:Tx K mg G U) (iy:dQ P w K mg base 3 "chain_of" ["house","start","packet"] (Mb G U)):dQ P w K mg base 4 "chain_with_more" ["house","most","fewest"] (RX G U):=by
 obtain ⟨f,fd,M,F⟩:=D
 refine ⟨f,fd,M,F.kp,F.cC (λ_ _ _ _ _ _ us hl=>(match us,hl with|[_,_,_],_=>rfl)),F.ok eL (λvs H Q E h=> ?_) (λcdv A bE s H vs Q E hr h=> ?_)⟩
 ·obtain ⟨h,l,as,n,c,gs,i,j,g,rfl,_⟩:=h
  rfl
 ·obtain ⟨h,l,as,n,c,gs,i,j,g,rfl,B,hlen,hij,hg,k⟩:=h
  obtain ⟨dh,dd,hh⟩:=B.hs
  refine ⟨_,(ai (d8 aT rfl (d3 rfl T.range (aa (bT (fF (K:=K)) (by rfl) T.len bh (aa (cw (K:=K) (pv 0)) ah)) ah)) (cu (i:=3) eL.nd rfl (Or.inl rfl)) (ai (bx (i:=4) eL.nd rfl (Or.inl rfl) (cw (K:=K) (cH (je (K:=K)) (cw (K:=K) (pv 0)) (pv 3) (λ_ _=>rfl)))) (aq (cP (PW.pt (tY (bo dU (pv 4) (pv 1) (bN _)) (wo (bo dU (pv 4) (pv 2) (bN _))))) (ai (bx (i:=5) eL.nd rfl (Or.inl rfl) (bW iy (hr.bY (by decide)) (aa (pv 0) (aa (pv 3) (aa (vC (bo dU (pv 4) (pv 1) (bN _)) (pv 2) (pv 1)) ah))))) (ai (bx (i:=6) eL.nd rfl (Or.inl rfl) (bT (fF (K:=K)) (by rfl) T.len bh (aa (mh rfl eL.nd (iU:=[("member",7)]) (fo (K:=K) (pv 5)) (eC (by show nP ["house","most","fewest","number","packet","chain","with_most","member"] (aJ ik) _ _=true;decide +kernel)) (λ_ _ _ _ _=>(cu (i:=7) eL.nd rfl (Or.inl rfl))) (λ_ _ _ _ _=>by exact (lT (bo dU (cw (K:=K) (cH (je (K:=K)) (cw (K:=K) (pv 0)) (pv 7) (λ_ _=>rfl))) (pv 1) (bN _)))) (λ_ _ _ _ _=>by exact (pv 7))) ah))) (aq (cP (bo zi (eY NO bc (pv 6)) (bT (fF (K:=K)) (by rfl) T.len bh (aa (pv 5) ah)) (bN _)) (aq (aV (pv 5))) bF)))) bF)))) (aq (aV (cf ah)))),?_⟩
  have el:(as.map V.ref).length=gs.length:=by rw [af];exact B.len
  refine ⟨_,rfl,fI hh T.a7 T.u3 rfl ⟨l,_,rfl,.inl (cE.of B.a6),_,rfl,(by lia),(by rw [el];lia),?_⟩⟩
  refine fP (Pv:=λx σ H'=>bB H H'/\(∃v3 v4 v5 v7,σ=[some (.ref h),some (.int i),some (.int j),v3,v4,v5,v7,none])/\∀y,y< x->hv gs i j y=false) ⟨bB.refl H,⟨none,none,none,none,rfl⟩,λy hy=>absurd hy (cF _)⟩ ?_ ?_
  ·rintro x σ H1 hx ⟨s1,⟨v3,v4,v5,v7,rfl⟩,hn⟩
   rw [aK,el] at hx
   have B1:=B.same s1
   obtain ⟨Ni,Pz,hh1⟩:=B1.hs
   have Ik:gs[x]? =some gs[x]:=ab hx
   obtain ⟨a,dx,ha,qc,pD⟩:=B1.xE Ik
   have Nk:=Qm.ck Ik
   refine ⟨_,rfl,fI hh1 T.a7 T.u3 rfl ⟨_,rfl,xI (cE.of B1.a6) (by rw [di];exact qc) (fI pD T.cq T.g3 (eQ _) ?_)⟩⟩
   have facts:∀(q p:Nat) (C:List Nat),C=Vbqzak.chain gs x p->gs[x].p=some q->Qm.rD gs i j x=p->((i=q/\j=p)\/(i=p/\j=q))->
     Vbqzak.packetOf gs x=some q/\Vbqzak.inChain gs C i+Vbqzak.inChain gs C j=C.length/\(∀y∈C,y< gs.length)/\C.length<=30/\hv gs i j x=decide (Vbqzak.inChain gs C j< Vbqzak.inChain gs C i)/\C=Vbqzak.chain gs x (Qm.rD gs i j x):=by
    rintro q p C rfl e1 e2 e3
    have hq:Vbqzak.packetOf gs x=some q:=Nk.trans e1
    have ua:p≠q:=by rcases e3 with ⟨z1,z2⟩|⟨z1,z2⟩<;>lia
    have hsp:=Qm.sE hq ua
    have Ir:∀y∈Vbqzak.chain gs x p,y< gs.length:=λy hy=>Qm.kF hq hy
    refine ⟨hq,?_,Ir,?_,?_,by rw [e2]⟩
    ·rcases e3 with ⟨rfl,rfl⟩|⟨rfl,rfl⟩<;>lia
    ·have:=bI (l₂:=List.range gs.length) (Qm.gd hq (p:=p)) λy hy=>by simpa using Ir y hy
     rw [aM] at this
     lia
    ·unfold hv
     rw [e2]
     have:(Vbqzak.packetOf gs x==some i||Vbqzak.packetOf gs x==some j)=true:=by
      rw [hq]
      rcases e3 with ⟨rfl,rfl⟩|⟨rfl,rfl⟩<;>simp
     rw [this,oT]
   refine ⟨_,rfl,_,rfl,rfl,_,rfl,?_⟩
   rw [o8]
   have T9:gs[x].p=some i->Qm.rD gs i j x=j:=λe=>by unfold Qm.rD;rw [aA (Nk.trans e)]
   have Ua:gs[x].p≠some i->Qm.rD gs i j x=i:=λe=>by unfold Qm.rD;rw [au (λz=>e (Nk.symm.trans z))]
   have skip:hv gs i j x=false->∀y,y< x+1->hv gs i j y=false:=λe y hy=>by
    by_cases hyx:y=x
    ·rw [hyx];exact e
    ·exact hn y (by lia)
   refine gr (λe1=> ?_) (λe1=> ?_)
   ·have eA:gs[x].p=some i:=by simpa using e1
    obtain ⟨C,hC⟩:∃C,C=Vbqzak.chain gs x j:=⟨_,rfl⟩
    obtain ⟨hq,hsp,Ir,ZH,Ub,W3⟩:=facts i j C hC eA (T9 eA) (.inl ⟨rfl,rfl⟩)
    refine ⟨_,rfl,_,rfl,_,rfl,_,rfl,rfl,_,rfl,?_⟩
    rw [o8,e1]
    refine ij ⟨_,rfl,h,l,as,n,c,gs,x,j,_,(by rw [di];rfl),B1,hlen,hq,λH2 ca s2 Iq yh=> ?_⟩
    rw [<-hC] at yh
    have s12:=s1.trans s2
    have B2:=B.same s12
    refine ⟨_,rfl,ca,rfl,⟨_,cE.of yh⟩,λD hD=> ?_⟩
    refine jK (K:=K) (a:=ca) (xs:=nV C) (Pv:=λz H3=>bB H2 H3/\∃zs:List V,zs.length=Vbqzak.inChain gs (C.take z) i/\H3 D=some (.a6 zs)) ⟨aN hD,[],rfl,aj⟩ (λz H3 _ p=>cE.of (p.1 _ _ yh)) ?_ ?_
    ·rintro z y H3 hy ⟨s3,zs,Iu,Im⟩
     obtain ⟨m,hm,rfl⟩:=nX hy
     have hml:=Ir m (aw hm)
     have B3:=B2.same s3
     obtain ⟨Vw,Vx,hh3⟩:=B3.hs
     obtain ⟨am,dm,Vv,W4,W5⟩:=B3.xE (ab hml)
     refine ⟨rfl,_,rfl,fI hh3 T.a7 T.u3 rfl ⟨_,rfl,xI (cE.of B3.a6) W4 (fI W5 T.cq T.g3 (eQ _) ⟨_,rfl,rfl,_,rfl,?_⟩)⟩⟩
     rw [o8]
     have Mp:=FH (gs:=gs) (i:=i) hm
     rw [Qm.ck (ab hml)] at Mp
     refine gr (λe5=> ?_) (λe5=> ?_)
     ·refine ⟨_,rfl,_,Im,?_,c6 s3 hD,_,?_,aj⟩
      ·rw [Iu]
       refine cv (bg (bQ _ _) ?_)
       rw [bf]
       lia
      ·rw [ao,Mp,aA (by simpa using e5),Iu]
       rfl
     ·refine ⟨s3,zs,?_,Im⟩
      rw [Mp,au (by simpa using e5),Iu]
      rfl
    ·rintro H3 ⟨s3,zs,Iu,Im⟩
     rw [cN,bu] at Iu
     refine ⟨D,_,rfl,.inl (cE.of Im),?_⟩
     have Kx:=s3 _ _ yh
     refine ⟨_,rfl,_,_,rfl,rfl,.inl ⟨by decide,by decide⟩,_,rfl,ca,_,rfl,.inl (cE.of Kx),_,_,rfl,rfl,_,rfl,?_⟩
     rw [Iu,cN]
     refine l4 (λe6=> ?_) (λe6=> ?_)
     ·refine ⟨_,rfl,?_⟩
      have e7:Vbqzak.inChain gs C j< Vbqzak.inChain gs C i:=by
       have:=bw e6
       lia
      have PD:g=x:=by
       rw [yr,xN hx (by rw [Ub];exact aW e7) hn] at hg
       exact (Option.some.inj hg).symm
      refine k H3 ca (s12.trans s3) (s1.free Iq) ?_
      rw [PD,<-W3]
      exact Kx
     ·refine ⟨s12.trans s3,⟨_,_,_,_,rfl⟩,skip ?_⟩
      rw [Ub]
      refine a8 λe7=>e6 (aW ?_)
      lia
   ·have eA:gs[x].p≠some i:=by simpa using e1
    refine ⟨_,rfl,_,rfl,rfl,_,rfl,?_⟩
    rw [o8]
    refine gr (λe2=> ?_) (λe2=> ?_)
    ·have eB:gs[x].p=some j:=by simpa using e2
     obtain ⟨C,hC⟩:∃C,C=Vbqzak.chain gs x i:=⟨_,rfl⟩
     obtain ⟨hq,hsp,Ir,ZH,Ub,W3⟩:=facts j i C hC eB (Ua eA) (.inr ⟨rfl,rfl⟩)
     refine ⟨_,rfl,_,rfl,_,rfl,_,rfl,rfl,_,rfl,?_⟩
     rw [o8,e1]
     refine i0 ⟨_,rfl,h,l,as,n,c,gs,x,i,_,(by rw [di];rfl),B1,hlen,hq,λH2 ca s2 Iq yh=> ?_⟩
     rw [<-hC] at yh
     have s12:=s1.trans s2
     have B2:=B.same s12
     refine ⟨_,rfl,ca,rfl,⟨_,cE.of yh⟩,λD hD=> ?_⟩
     refine jK (K:=K) (a:=ca) (xs:=nV C) (Pv:=λz H3=>bB H2 H3/\∃zs:List V,zs.length=Vbqzak.inChain gs (C.take z) i/\H3 D=some (.a6 zs)) ⟨aN hD,[],rfl,aj⟩ (λz H3 _ p=>cE.of (p.1 _ _ yh)) ?_ ?_
     ·rintro z y H3 hy ⟨s3,zs,Iu,Im⟩
      obtain ⟨m,hm,rfl⟩:=nX hy
      have hml:=Ir m (aw hm)
      have B3:=B2.same s3
      obtain ⟨Vw,Vx,hh3⟩:=B3.hs
      obtain ⟨am,dm,Vv,W4,W5⟩:=B3.xE (ab hml)
      refine ⟨rfl,_,rfl,fI hh3 T.a7 T.u3 rfl ⟨_,rfl,xI (cE.of B3.a6) W4 (fI W5 T.cq T.g3 (eQ _) ⟨_,rfl,rfl,_,rfl,?_⟩)⟩⟩
      rw [o8]
      have Mp:=FH (gs:=gs) (i:=i) hm
      rw [Qm.ck (ab hml)] at Mp
      refine gr (λe5=> ?_) (λe5=> ?_)
      ·refine ⟨_,rfl,_,Im,?_,c6 s3 hD,_,?_,aj⟩
       ·rw [Iu]
        refine cv (bg (bQ _ _) ?_)
        rw [bf]
        lia
       ·rw [ao,Mp,aA (by simpa using e5),Iu]
        rfl
      ·refine ⟨s3,zs,?_,Im⟩
       rw [Mp,au (by simpa using e5),Iu]
       rfl
     ·rintro H3 ⟨s3,zs,Iu,Im⟩
      rw [cN,bu] at Iu
      refine ⟨D,_,rfl,.inl (cE.of Im),?_⟩
      have Kx:=s3 _ _ yh
      refine ⟨_,rfl,_,_,rfl,rfl,.inl ⟨by decide,by decide⟩,_,rfl,ca,_,rfl,.inl (cE.of Kx),_,_,rfl,rfl,_,rfl,?_⟩
      rw [Iu,cN]
      refine l4 (λe6=> ?_) (λe6=> ?_)
      ·refine ⟨_,rfl,?_⟩
       have e7:Vbqzak.inChain gs C j< Vbqzak.inChain gs C i:=by
        have:=bw e6
        lia
       have PD:g=x:=by
        rw [yr,xN hx (by rw [Ub];exact aW e7) hn] at hg
        exact (Option.some.inj hg).symm
       refine k H3 ca (s12.trans s3) (s1.free Iq) ?_
       rw [PD,<-W3]
       exact Kx
      ·refine ⟨s12.trans s3,⟨_,_,_,_,rfl⟩,skip ?_⟩
       rw [Ub]
       refine a8 λe7=>e6 (aW ?_)
       lia
    ·refine ⟨s1,⟨_,_,_,_,rfl⟩,skip ?_⟩
     have:(Vbqzak.packetOf gs x==some i||Vbqzak.packetOf gs x==some j)=false:=by
      rw [Nk,e1,e2]
      rfl
     unfold hv
     rw [this,kf]
  ·rintro σ H1 ⟨s1,⟨v3,v4,v5,v7,rfl⟩,hn⟩
   rw [aK,el] at hn
   rw [yr,AS hn] at hg
   cases hg
end
end Qz
end
section
namespace Qz
open PySem PySem.Spec PyProof.Rows L2
theorem tq {gs:List Gm} {c q:Nat} (h:q< c):((List.range c).map (Vbqzak.uses gs))[q]? =some (Vbqzak.uses gs q):=by
 rw [ay,b9 h]
 rfl
theorem tF (l:List Nat):(nV l).all nL=true:=by
 rw [dE]
 intro v hv
 unfold nV at hv
 obtain ⟨k,_,rfl⟩:=bC.mp hv
 rfl
theorem xY (a b:Nat):Cd (V.int (a:Nat)) (V.int (b:Nat))=(a==b):=by
 show ((a:Int)==(b:Int))=(a==b)
 by_cases h:a=b
 ·subst h;simp
 ·have:¬(a:Int)=(b:Int):=by lia
  rw [bZ.mpr h,bZ.mpr this]
section
variable {P:Program} {w:World} {K:PySem.W.Frag} {mg:Str->Option Value} {base:Heap} {G U:Addr}
abbrev sy:Stmt:=iB 5
theorem j6:bt ["house","times","counts","most","fewest"] ["house"] (aJ sy):=⟨rfl,rfl,rfl,by decide +kernel,rfl,by decide +kernel,by decide +kernel⟩
def Qy (G U:Addr):Sp:=λvs H Q _=>∃(h l:Addr) (as:List Addr) (n c:Nat) (gs:List Gm),vs=[.ref h]/\fK G U H h l as n c gs/\gs.length<=30/\0< c/\c<=12/\Qm.FO c gs 0 gs/\
 ∀H',fK G U H' h l as n c (Vbqzak.even c 1000 gs).1->Kp as H H'->Q (.int ((Vbqzak.even c 1000 gs).2:Nat)) H'
theorem Se (D:Df K mg "even_out" sy) (T:Tx K mg G U) (dR:ph P w K mg base 1 U "games_by_packet" ["self"] (Og G U)) (kU:dQ P w K mg base 4 "chain_with_more" ["house","most","fewest"] (RX G U)) (lG:dQ P w K mg base 1 "exchange" ["house","chain","one","other"] (OI G U)):dQ P w K mg base 5 "even_out" ["house"] (Qy G U):=by
 obtain ⟨f,fd,M,F⟩:=D
 refine ⟨f,fd,M,F.kp,F.cC (λ_ _ _ _ _ _ us hl=>(match us,hl with|[_],_=>rfl)),F.ok j6 (λvs H Q E h=> ?_) (λcdv A bE s H vs Q E hr h=> ?_)⟩
 ·obtain ⟨h,l,as,n,c,gs,rfl,_⟩:=h
  rfl
 ·obtain ⟨h,l,as,n,c,g0,rfl,B,hlen,Uc,hc,E0,k⟩:=h
  refine ⟨_,(ai (bx (i:=1) j6.nd rfl (Or.inl rfl) bc) (aq (l5 aT (iP sC) (ai (bx (i:=2) j6.nd rfl (Or.inl rfl) (yO dR T.a7 (hr.bY (by decide)) (pv 0))) (ai (bx (i:=3) j6.nd rfl (Or.inl rfl) (mS (K:=K) aQ j1 pJ (GK (K:=K)) (pv 2) (aa (bT (QX (K:=K)) (by rfl) T.Dg gq (aa (pv 2) ah)) ah))) (ai (bx (i:=4) j6.nd rfl (Or.inl rfl) (mS (K:=K) aQ j1 pJ (GK (K:=K)) (pv 2) (aa (bT (Sv (K:=K)) (by rfl) T.FK iO (aa (pv 2) ah)) ah))) (ai (cP (bo MO (cH (je (K:=K)) (pv 2) (pv 3) (λ_ _=>rfl)) (eY lA (cH (je (K:=K)) (pv 2) (pv 4) (λ_ _=>rfl)) bc) (bN _)) (aq (aV (pv 1))) bF) (ai (dS (bW lG (hr.bY (by decide)) (aa (pv 0) (aa (bW kU (hr.bY (by decide)) (aa (pv 0) (aa (pv 3) (aa (pv 4) ah)))) (aa (pv 3) (aa (pv 4) ah)))))) (aq (BF (i:=1) j6.nd rfl (Or.inl rfl) bc AX)))))))))),?_⟩
  refine ⟨λm σ H'=>∃(t:Nat) (gs:List Gm) (v2 v3 v4:Option V),σ=[some (.ref h),some (.int t),v2,v3,v4]/\fK G U H' h l as n c gs/\Kp as H H'/\Qm.FO c g0 t gs/\m+t=1000,⟨1000,0,g0,none,none,none,rfl,B,Kp.refl _ _,E0,rfl⟩,?_⟩
  rintro m σ H1 ⟨t,gs,v2,v3,v4,rfl,B1,kp1,E1,hm⟩
  have Ky:gs.length<=30:=by
   have h1:=cS List.length E1.j7
   rw [Qm.fJ,Qm.fJ] at h1
   lia
  refine ⟨_,rfl,ij ⟨fun σ H'=>∃(gs:List Gm) (v2 v3 v4:Option V),σ=[some (.ref h),some (.int ((t+1:Nat):Int)),v2,v3,v4]/\fK G U H' h l as n c gs/\Kp as H H'/\Qm.FO c g0 (t+1) gs,?_,?_⟩⟩
  ·rintro σ' H' ⟨Fv,w2,w3,w4,rfl,B',kp',E'⟩
   have hp:=E'.Iw
   exact ⟨999-t,by lia,t+1,Fv,w2,w3,w4,rfl,B',kp',E',by lia⟩
  ·obtain ⟨Ni,Pz,hh1⟩:=B1.hs
   obtain ⟨m1,m2,m3⟩:=Qm.lO gs c Uc
   obtain ⟨l1,l2,l3⟩:=Qm.kx gs c Uc
   refine ⟨_,rfl,h,Ni,_,rfl,hh1,rfl,h,l,as,n,c,gs,rfl,B1,Ky,hc,λH2 D s2 Vy hD=> ?_⟩
   have B2:=B1.same s2
   have hS:cE K H2 D (nV ((List.range c).map (Vbqzak.uses gs))):=cE.of hD
   have YE:cE K H2 D (((List.range c).map (Vbqzak.uses gs)).map (λk=>((k:Nat):Int))|>.map V.int):=by rw [<-oF];exact hS
   have hmem:∀y∈((List.range c).map (Vbqzak.uses gs)).map (λk=>((k:Nat):Int)),∃q,q< c/\y=(Vbqzak.uses gs q:Int):=λy hy=>by
    obtain ⟨u,hu,rfl⟩:=bC.mp hy
    obtain ⟨q,hq,rfl⟩:=bC.mp hu
    exact ⟨q,by simpa using hq,rfl⟩
   have mem_of:∀q,q< c->((Vbqzak.uses gs q:Nat):Int)∈((List.range c).map (Vbqzak.uses gs)).map (λk=>((k:Nat):Int)):=λq hq=>bC.mpr ⟨_,bC.mpr ⟨q,by simpa using hq,rfl⟩,rfl⟩
   refine ⟨_,rfl,.inl ⟨rfl,_,hS⟩,_,rfl,D,_,rfl,YE,(by rw [af,af,aM];exact Uc),λmx ZI hmax=> ?_⟩
   obtain ⟨q1,ZJ,rfl⟩:=hmem mx ZI
   have e1:Vbqzak.uses gs q1=Vbqzak.uses gs (Vbqzak.mostUsed gs c):=by
    have z1:=hmax _ (mem_of _ m1)
    have z2:=m2 q1 ZJ
    lia
   rw [e1]
   refine ⟨D,_,_,Vbqzak.mostUsed gs c,_,rfl,rfl,hS,rfl,tF _,xm (tq m1),by rw [xY];simp,λy z hy hz=> ?_,?_⟩
   ·rw [xm (tq (show y< c by lia))] at hz
    rw [<-Option.some.inj hz,xY]
    have:=m3 y hy
    exact bZ.mpr (by lia)
   refine ⟨_,rfl,.inl ⟨rfl,_,hS⟩,_,rfl,D,_,rfl,YE,(by rw [af,af,aM];exact Uc),λmn ZK W6=> ?_⟩
   obtain ⟨q2,hq2,rfl⟩:=hmem mn ZK
   have e2:Vbqzak.uses gs q2=Vbqzak.uses gs (Vbqzak.leastUsed gs c):=by
    have z1:=W6 _ (mem_of _ l1)
    have z2:=l2 q2 hq2
    lia
   rw [e2]
   refine ⟨D,_,_,Vbqzak.leastUsed gs c,_,rfl,rfl,hS,rfl,tF _,xm (tq l1),by rw [xY];simp,λy z hy hz=> ?_,?_⟩
   ·rw [xm (tq (show y< c by lia))] at hz
    rw [<-Option.some.inj hz,xY]
    have:=l3 y hy
    exact bZ.mpr (by lia)
   refine ⟨_,rfl,_,rfl,D,_,_,_,rfl,rfl,hS,cg (xm (tq m1)),_,rfl,_,rfl,D,_,_,_,rfl,rfl,hS,cg (xm (tq l1)),_,_,rfl,rfl,_,_,rfl,rfl,_,rfl,?_⟩
   refine l4 (λe3=> ?_) (λe3=> ?_)
   ·have e4:Vbqzak.uses gs (Vbqzak.mostUsed gs c)<=Vbqzak.uses gs (Vbqzak.leastUsed gs c)+1:=by
     have:=bw e3
     lia
    obtain ⟨z1,z2⟩:=E1.stop e4
    rw [z1,z2] at k
    exact ⟨_,rfl,k H2 B2 (kp1.trans (Kp.of s2))⟩
   ·have e4:¬Vbqzak.uses gs (Vbqzak.mostUsed gs c)<=Vbqzak.uses gs (Vbqzak.leastUsed gs c)+1:=λz=>e3 (aW (by lia))
    obtain ⟨g,hg,hne,E2⟩:=E1.next Uc e4
    obtain ⟨q,hq,ua,oQ⟩:=Qm.yM hne hg
    refine ⟨_,rfl,_,rfl,_,rfl,_,rfl,h,l,as,n,c,gs,_,_,g,rfl,B2,Ky,hne,hg,λH3 ca s3 Iq yh=> ?_⟩
    have B3:=B2.same s3
    refine ⟨_,rfl,_,rfl,h,l,as,n,c,gs,ca,_,_,_,rfl,B3,yh,Qm.gd hq,λx hx=>Qm.kF hq hx,λH4 B4 Vz=> ?_⟩
    rw [Qm.tX hq ua oQ] at B4
    refine ⟨_,rfl,_,_,rfl,rfl,?_⟩
    exact ⟨_,_,_,_,rfl,B4,(kp1.trans (Kp.of s2)).trans ((Kp.of s3).trans Vz),E2⟩
end
end Qz
end
section
namespace Qm
open Vbqzak
def hE (gs:List Game):List Nat:=(List.range gs.length).filter λk=>(packetOf gs k).isNone
theorem ym {gs:List Game} {k:Nat}:k∈hE gs↔k< gs.length/\packetOf gs k=none:=by
 unfold hE
 rw [bU,cQ,Option.isNone_iff_eq_none]
theorem nE {c:Nat} {gs:List Game} {i k:Nat} (h:i≠k):packetOf (i6 c gs i) k=packetOf gs k:=by
 unfold packetOf
 rw [DO h]
theorem uh {c:Nat} {g0:List Game}:∀(l:List Nat) (gs:List Game),l.Nodup->(∀k∈l,packetOf gs k=packetOf g0 k)->l.foldl (i6 c) gs=(l.filter λk=>(packetOf g0 k).isNone).foldl (i6 c) gs
 |[],_,_,_=>rfl
 |i::l,gs,hn,h=>by
  obtain ⟨hi,hn⟩:=c9.mp hn
  have h2:∀k∈l,packetOf (i6 c gs i) k=packetOf g0 k:=λk hk=>by
   rw [nE (λe:i=k=>hi (by rw [e];exact hk))]
   exact h k (aE _ hk)
  cases e:packetOf g0 i with
  |none=>
   rw [aS (by rw [e];rfl),eG,eG]
   exact uh l _ hn h2
  |some q=>
   rw [aO (by rw [e];simp),eG]
   have e2:i6 c gs i=gs:=Fc ((h i aP).trans e)
   rw [e2]
   exact uh l gs hn λk hk=>h k (aE _ hk)
theorem DK (gs:List Game) (c:Nat):greedy gs c=(hE gs).foldl (i6 c) gs:=by
 rw [HP]
 exact uh _ gs gj λ_ _=>rfl
structure Iz (c:Nat) (g0:List Game) (j:Nat) (gs:List Game):Prop where
 eq:gs=((hE g0).take j).foldl (i6 c) g0
 j7:pairsOf gs=pairsOf g0
 fH:eT gs
 IZ:∀k,k∉(hE g0).take j->packetOf gs k=packetOf g0 k
 pk:∀(k q:Nat),packetOf gs k=some q->q< c
theorem Iz.start {c:Nat} {g0:List Game} (P:eT g0) (hp:∀(k q:Nat),packetOf g0 k=some q->q< c):Iz c g0 0 g0:=⟨by simp,rfl,P,λ_ _=>rfl,hp⟩
theorem Iz.step {c:Nat} {g0 gs:List Game} {j x:Nat} (R:Iz c g0 j gs) (hx:(hE g0)[j]? =some x):packetOf gs x=none/\Iz c g0 (j+1) (i6 c gs x):=by
 have Ip:x∉(hE g0).take j:=λhm=>by
  obtain ⟨i,hi⟩:=a9.mp hm
  have hij:i< j:=by
   have:=(ae.mp hi).1
   rw [bf] at this
   lia
  rw [gN hij] at hi
  have h1:=(ae.mp hi)
  have h2:=(ae.mp hx)
  obtain ⟨a1,e1⟩:=h1
  obtain ⟨a2,e2⟩:=h2
  have hr:(hE g0).Pairwise (·< ·):=lS _
  have:=fg.mp hr i j a1 a2 hij
  lia
 have hb:=(ym.mp (aw hx)).2
 have GV:packetOf gs x=none:=(R.IZ x Ip).trans hb
 have htake:(hE g0).take (j+1)=(hE g0).take j++[x]:=by rw [fN,hx];rfl
 refine ⟨GV,?_,(D4 c gs x).trans R.j7,BK R.fH x,λk hk=> ?_,λk q hq=> ?_⟩
 ·rw [htake,fM,<-R.eq]
  rfl
 ·rw [htake] at hk
  have hkx:x≠k:=λe=>hk (by simp [e])
  rw [nE hkx]
  exact R.IZ k λz=>hk (br _ z)
 ·by_cases hkx:x=k
  ·subst hkx
   unfold i6 at hq
   rw [GV] at hq
   simp only at hq
   cases hf:firstFree gs c x with
   |none=>
    rw [hf] at hq
    simp only at hq
    exact R.pk _ _ hq
   |some r=>
    rw [hf] at hq
    simp only at hq
    have hr:r< c:=by
     unfold firstFree at hf
     simpa using (c5.mp hf).2.1
    cases hg:gs[x]? with
    |none=>
     have:packetOf (withPacket gs x (some r)) x=none:=by
      unfold packetOf
      rw [gL,hg]
      simp
     rw [this] at hq
     cases hq
    |some g=>
     rw [oW hg,aA rfl] at hq
     rw [<-Option.some.inj hq]
     exact hr
  ·rw [nE hkx] at hq
   exact R.pk _ _ hq
theorem Iz.stop {c:Nat} {g0 gs:List Game} (R:Iz c g0 (hE g0).length gs):gs=greedy g0 c:=by
 rw [DK,R.eq,bu]
theorem Kc {gs:List Game} {x q:Nat} {g:Game} (hg:gs[x]? =some g) (hp:g.p=none):bare (withPacket gs x (some q))+1=bare gs:=by
 rw [pZ hg]
 unfold bare
 induction gs generalizing x with
 |nil=>simp at hg
 |cons a l ih=>
  cases x with
  |zero=>
   have:a=g:=by simpa using hg
   subst this
   rw [nh,aO (by simp),aS (by rw [hp];rfl),aB]
  |succ x=>
   have ih:=ih (x:=x) (by simpa using hg)
   rw [ni]
   cases e:a.p.isNone
   ·rw [aO (by simp [e]),aO (by simp [e])]
    exact ih
   ·rw [aS (by simpa using e),aS (by simpa using e),aB,aB]
    lia
theorem Hj {c:Nat} {gs:List Game} {x:Nat} {g:Game} (hg:gs[x]? =some g) (hp:g.p=none):i6 c gs x=gs.set x {g with p:=firstFree gs c x}:=by
 unfold i6
 rw [ck hg,hp]
 simp only
 cases hf:firstFree gs c x with
 |none=>
  simp only
  have:({g with p:=none}:Game)=g:=by rw [<-hp]
  rw [this]
  apply bS
  intro k
  by_cases h:x=k
  ·subst h
   rw [cI (ae.mp hg).1,hg]
  ·rw [cO h]
 |some q=>exact pZ hg _
theorem Ee {c:Nat} {gs:List Game} {x:Nat} {g:Game} (hg:gs[x]? =some g) (hp:g.p=none):bare (i6 c gs x)+(if (firstFree gs c x).isSome=true then 1 else 0)=bare gs:=by
 unfold i6
 rw [ck hg,hp]
 simp only
 cases hf:firstFree gs c x with
 |none=>simp
 |some q=>simpa using Kc hg hp
end Qm
end
section
namespace Qz
open PySem PySem.Spec PyProof.Rows L2
theorem HM (as:List Addr) (gs:List Gm) (h:as.length=gs.length):as.zip gs=(List.range gs.length).map λk=>(as.getD k 0,gs.getD k ⟨0,0,none⟩):=by
 apply bS
 intro k
 rw [ay,List.zip,iL]
 by_cases hk:k< gs.length
 ·rw [b9 hk,ab hk,ab (show k< as.length by lia)]
  show some (as[k],gs[k])=some (as.getD k 0,gs.getD k ⟨0,0,none⟩)
  rw [dA,dA,ab hk,ab (show k< as.length by lia)]
  rfl
 ·rw [bq (show as.length<=k by lia),bq (show (List.range gs.length).length<=k by rw [aM];lia)]
  rfl
theorem Ar {as:List Addr} {gs:List Gm} (h:as.length=gs.length):pick as gs (λg=>g.p.isNone)=(Qm.hE gs).map λk=>as.getD k 0:=by
 unfold pick Qm.hE
 rw [HM as gs h,List.filter_map,cX]
 have:(List.range gs.length).filter ((λt:Addr×Gm=>t.2.p.isNone)∘λk=>(as.getD k 0,gs.getD k ⟨0,0,none⟩))=(List.range gs.length).filter λk=>(Vbqzak.packetOf gs k).isNone:=by
  refine oy λk hk=> ?_
  have hk:k< gs.length:=by simpa using hk
  show ((gs.getD k ⟨0,0,none⟩).p).isNone=_
  rw [Qm.ck (ab hk),dA,ab hk]
  rfl
 rw [this]
 rfl
theorem AM {as:List Addr} {gs:List Gm} (h:as.length=gs.length) {j:Nat} {v:V} (hv:((pick as gs λg=>g.p.isNone).map V.ref)[j]? =some v):∃x a,(Qm.hE gs)[j]? =some x/\as[x]? =some a/\v=V.ref a:=by
 rw [Ar h,cX,ay] at hv
 cases e:(Qm.hE gs)[j]? with
 |none=>rw [e] at hv;cases hv
 |some x=>
  rw [e] at hv
  have hx:=(Qm.ym.mp (aw e)).1
  refine ⟨x,as[x]'(by lia),rfl,ab _,?_⟩
  have:V.ref (as.getD x 0)=v:=Option.some.inj hv
  rw [<-this,dA,ab (show x< as.length by lia)]
  rfl
theorem GA (gs:List Gm) (a b q:Nat):([a,b].any λt=>Vbqzak.hears gs t q)=(Vbqzak.hears gs a q||Vbqzak.hears gs b q):=by
 rw [dB,dB,mQ,iF]
theorem Gj (gs:List Gm) (a q:Nat):([a].any λt=>Vbqzak.hears gs t q)=Vbqzak.hears gs a q:=by
 rw [dB,mQ,iF]
section
variable {P:Program} {w:World} {K:PySem.W.Frag} {mg:Str->Option Value} {base:Heap} {G U:Addr}
abbrev lj:Stmt:=iB 11
theorem ji:bt ["house","got","game"] ["house"] (aJ lj):=⟨rfl,rfl,rfl,by decide +kernel,rfl,by decide +kernel,by decide +kernel⟩
def QQ (G U:Addr):Sp:=λvs H Q _=>∃(h l:Addr) (as:List Addr) (n c:Nat) (gs:List Gm),vs=[.ref h]/\fK G U H h l as n c gs/\gs.length<=30/\c<=12/\Qm.Iz c gs 0 gs/\
 ∀H',fK G U H' h l as n c (Vbqzak.greedy gs c)->Kp as H H'->Q (.int ((Vbqzak.bare gs-Vbqzak.bare (Vbqzak.greedy gs c):Nat):Int)) H'
theorem Rz (D:Df K mg "pack_greedily" lj) (T:Tx K mg G U) (cz:ph P w K mg base 1 U "games_without_packet" ["self"] (LG G U)) (dv:ph P w K mg base 4 U "least_unheard" ["self","teams"] (Oe K G U)):dQ P w K mg base 5 "pack_greedily" ["house"] (QQ G U):=by
 obtain ⟨f,fd,M,F⟩:=D
 refine ⟨f,fd,M,F.kp,F.cC (λ_ _ _ _ _ _ us hl=>(match us,hl with|[_],_=>rfl)),F.ok ji (λvs H Q E h=> ?_) (λcdv A bE s H vs Q E hr h=> ?_)⟩
 ·obtain ⟨h,l,as,n,c,gs,rfl,_⟩:=h
  rfl
 ·obtain ⟨h,l,as,n,c,g0,rfl,B,hlen,hc,R0,k⟩:=h
  refine ⟨_,(ai (bx (i:=1) ji.nd rfl (Or.inl rfl) bc) (ai (d8 aT rfl (fo (K:=K) (yO cz T.a7 (hr.bY (by decide)) (pv 0))) (cu (i:=2) ji.nd rfl (Or.inl rfl)) (ai (lu (pv 2) (g7 dv T.a7 (hr.bY (by decide)) (pv 0) (aa (kM (aa (cw (K:=K) (pv 2)) (aa (cw (K:=K) (pv 2)) ah))) ah)) rfl) (aq (cP (bo mP (cw (K:=K) (pv 2)) (dr T.gH) (bN _)) (aq (BF (i:=1) ji.nd rfl (Or.inl rfl) bc AX)) bF)))) (aq (aV (pv 1))))),?_⟩
  obtain ⟨dh,dd,hh⟩:=B.hs
  refine ⟨_,rfl,h,dh,_,rfl,hh,rfl,h,l,as,n,c,g0,rfl,B,hlen,λH1 D s1 Vy hD=> ?_⟩
  have B1:=B.same s1
  have hDn:D∉as:=B1.HX hD λC dx g e=>by cases e
  refine ⟨D,rfl,⟨_,cE.of hD⟩,fY (K:=K) (a:=D) (xs:=(pick as g0 λg=>g.p.isNone).map V.ref) (λj σ H'=>∃(got:Nat) (gs:List Gm) (v2:Option V),σ=[some (.ref h),some (.int got),v2]/\fK G U H' h l as n c gs/\Kp as H1 H'/\Qm.Iz c g0 j gs/\got+Vbqzak.bare gs=Vbqzak.bare g0) ⟨0,g0,none,rfl,B1,Kp.refl _ _,R0,by lia⟩ (λj σ H' _ ⟨_,_,_,_,_,z,_⟩=>cE.of (z _ _ hD hDn)) ?_ ?_⟩
  ·rintro j y σ H2 hy ⟨got,gs,v2,rfl,B2,kp2,R,W7⟩
   obtain ⟨x,a,hx,ha,rfl⟩:=AM B.len hy
   have Ec:x< gs.length:=by rw [<-B2.len];exact (ae.mp ha).1
   have Ky:gs.length<=30:=by rw [<-B2.len,B.len];exact hlen
   obtain ⟨GV,R'⟩:=R.step hx
   have Ik:gs[x]? =some gs[x]:=ab Ec
   have hp:gs[x].p=none:=by rw [<-Qm.ck Ik];exact GV
   obtain ⟨dx,pD⟩:=B2.vO x a gs[x] ha Ik
   obtain ⟨GU,dd2,BY⟩:=B2.hs
   refine ⟨_,rfl,h,GU,_,rfl,BY,rfl,_,rfl,fI pD T.cq T.g1 (jC _) ⟨_,rfl,fI pD T.cq T.g2 (gX _) ⟨(by show 2<=sizeLine;decide),λtp Ud=> ?_⟩⟩⟩
   have s3:bB H2 (bG H2 tp (.dC [V.int (gs[x].a:Nat),V.int (gs[x].b:Nat)])):=aN Ud
   refine ⟨h,l,as,n,c,gs,tp,[gs[x].a,gs[x].b],rfl,B2.same s3,Ky,hc,by simp,kY.of aj,λH4 s4=> ?_⟩
   have W8:=s3.trans s4
   have e1:((List.range c).find? λq=> !([gs[x].a,gs[x].b].any λt=>Vbqzak.hears gs t q))=Vbqzak.firstFree gs c x:=by
    rw [Qm.mH Ik hp]
    congr 1
    funext q
    rw [GA]
   rw [e1]
   have Ms:=W8 _ _ pD
   refine ⟨_,rfl,a,G,dx,_,rfl,Ms,T.cq,T.g3,(by show 3< 1000;decide),?_⟩
   rw [JY]
   have B5:fK G U (bG H4 a (.ke G dx (gf {gs[x] with p:=Vbqzak.firstFree gs c x}))) h l as n c (Qm.i6 c gs x):=by
    rw [Qm.Hj Ik hp]
    exact (B2.same W8).put ha Ik
   have VA:Kp as H1 (bG H4 a (.ke G dx (gf {gs[x] with p:=Vbqzak.firstFree gs c x}))):=(kp2.trans (Kp.of W8)).trans (fK.vW (G:=G) (U:=U) ha)
   have hb:=Qm.Ee (c:=c) Ik hp
   refine ⟨_,rfl,fI aj T.cq T.g3 (eQ _) ⟨rfl,_,rfl,?_⟩⟩
   show if (!decide (V.int (pk (Vbqzak.firstFree gs c x))=V.int (-1)))=true then _ else _
   rw [mU]
   refine gr (λe2=> ?_) (λe2=> ?_)
   ·refine ⟨_,rfl,_,_,rfl,rfl,?_⟩
    refine ⟨got+1,_,_,rfl,B5,VA,R',?_⟩
    have:(Vbqzak.firstFree gs c x).isSome=true:=by
     cases hz:Vbqzak.firstFree gs c x with
     |none=>rw [hz] at e2;cases e2
     |some z=>rfl
    rw [this,aA rfl] at hb
    lia
   ·refine ⟨got,_,_,rfl,B5,VA,R',?_⟩
    have:(Vbqzak.firstFree gs c x).isSome=false:=by
     cases hz:Vbqzak.firstFree gs c x with
     |none=>rfl
     |some z=>rw [hz] at e2;cases e2
    rw [this,au (by simp)] at hb
    lia
  ·rintro σ H2 ⟨got,gs,v2,rfl,B2,kp2,R,W7⟩
   rw [Ar B.len,af,af] at R
   have e:=R.stop
   subst e
   have e2:got=Vbqzak.bare g0-Vbqzak.bare (Vbqzak.greedy g0 c):=by lia
   rw [<-e2] at k
   exact ⟨_,rfl,k H2 B2 ((Kp.of s1).trans kp2)⟩
abbrev jq:Stmt:=iB 13
theorem gT:bt ["house","game","packet","of_first","of_second"] ["house","game"] (aJ jq):=⟨rfl,rfl,rfl,by decide +kernel,rfl,by decide +kernel,by decide +kernel⟩
def TK (G U:Addr):Sp:=λvs H Q _=>∃(h l:Addr) (as:List Addr) (n c:Nat) (gs:List Gm) (i:Nat) (a:Addr) (g:Gm) (side:Nat->Bool),vs=[.ref h,.ref a]/\fK G U H h l as n c gs/\gs.length<=30/\c<=12/\as[i]? =some a/\gs[i]? =some g/\g.p=none/\
 Qm.eT gs/\(∀x∈gs,side x.a≠side x.b)/\Vbqzak.degree gs g.a<=c/\Vbqzak.degree gs g.b<=c/\
 ∀(H':Hp) (Fv:List Gm) (q:Nat),fK G U H' h l as n c Fv->Kp as H H'->Fv[i]? =some g->Vbqzak.placed c gs i=Vbqzak.withPacket Fv i (some q)->Q (.int q) H'
theorem QF (D:Df K mg "packet_made_free" jq) (T:Tx K mg G U) (dv:ph P w K mg base 4 U "least_unheard" ["self","teams"] (Oe K G U)) (fR:ph P w K mg base 2 U "game_with" ["self","team","packet"] (NP G U)) (jk:dQ P w K mg base 4 "turn_chain" ["house","start","packet"] (OH G U)):dQ P w K mg base 5 "packet_made_free" ["house","game"] (TK G U):=by
 obtain ⟨f,fd,M,F⟩:=D
 refine ⟨f,fd,M,F.kp,F.cC (λ_ _ _ _ _ _ us hl=>(match us,hl with|[_,_],_=>rfl)),F.ok gT (λvs H Q E h=> ?_) (λcdv A bE s H vs Q E hr h=> ?_)⟩
 ·obtain ⟨h,l,as,n,c,gs,i,a,g,side,rfl,_⟩:=h
  rfl
 ·obtain ⟨h,l,as,n,c,gs,i,a,g,side,rfl,B,hlen,hc,ha,hg,hp,PR,sR,Ng,hdb,k⟩:=h
  refine ⟨_,(ai (bx (i:=2) gT.nd rfl (Or.inl rfl) (g7 dv T.a7 (hr.bY (by decide)) (pv 0) (aa (kM (aa (cw (K:=K) (pv 1)) (aa (cw (K:=K) (pv 1)) ah))) ah))) (ai (cP (bo mP (pv 2) (dr T.gH) (bN _)) (aq (aV (pv 2))) bF) (ai (bx (i:=3) gT.nd rfl (Or.inl rfl) (g7 dv T.a7 (hr.bY (by decide)) (pv 0) (aa (kM (aa (cw (K:=K) (pv 1)) ah)) ah))) (ai (bx (i:=4) gT.nd rfl (Or.inl rfl) (g7 dv T.a7 (hr.bY (by decide)) (pv 0) (aa (kM (aa (cw (K:=K) (pv 1)) ah)) ah))) (ai (dS (bW jk (hr.bY (by decide)) (aa (pv 0) (aa (g7 fR T.a7 (hr.bY (by decide)) (pv 0) (aa (cw (K:=K) (pv 1)) (aa (pv 3) ah))) (aa (pv 4) ah))))) (aq (aV (pv 3)))))))),?_⟩
  obtain ⟨dh,dd,hh⟩:=B.hs
  obtain ⟨dx,pD⟩:=B.vO i a g ha hg
  refine ⟨_,rfl,h,dh,_,rfl,hh,rfl,_,rfl,fI pD T.cq T.g1 (jC _) ⟨_,rfl,fI pD T.cq T.g2 (gX _) ⟨(by show 2<=sizeLine;decide),λtp Ud=> ?_⟩⟩⟩
  have s1:bB H (bG H tp (.dC [V.int (g.a:Nat),V.int (g.b:Nat)])):=aN Ud
  refine ⟨h,l,as,n,c,gs,tp,[g.a,g.b],rfl,B.same s1,hlen,hc,by simp,kY.of aj,λH2 s2=> ?_⟩
  have s12:=s1.trans s2
  have e1:((List.range c).find? λq=> !([g.a,g.b].any λt=>Vbqzak.hears gs t q))=Vbqzak.firstFree gs c i:=by
   rw [Qm.mH hg hp]
   congr 1
   funext q
   rw [GA]
  rw [e1]
  refine ⟨_,rfl,rfl,_,rfl,?_⟩
  show if (!decide (V.int (pk (Vbqzak.firstFree gs c i))=V.int (-1)))=true then _ else _
  rw [mU]
  rcases Qm.z6 PR sR hg hp Ng hdb with ⟨q,hf,hq,Ue,_⟩|⟨hf,qa,qb,j,fa,fb,fj,Il,hab,hac,Yv,TY,Ue,_⟩
  ·rw [hf]
   refine ij ⟨_,rfl,?_⟩
   exact k H2 gs q (B.same s12) (Kp.of s12) hg Ue
  ·rw [hf]
   refine i0 ?_
   have B2:=B.same s12
   obtain ⟨GU,dd2,BY⟩:=B2.hs
   have Ug:=s12 _ _ pD
   refine ⟨_,rfl,h,GU,_,rfl,BY,rfl,_,rfl,fI Ug T.cq T.g1 (jC _) ⟨(by show 1<=sizeLine;decide),λt3 K0=> ?_⟩⟩
   have s3:bB H2 (bG H2 t3 (.dC [V.int (g.a:Nat)])):=aN K0
   refine ⟨h,l,as,n,c,gs,t3,[g.a],rfl,B2.same s3,hlen,hc,by simp,kY.of aj,λH4 s4=> ?_⟩
   have e2:((List.range c).find? λq=> !([g.a].any λt=>Vbqzak.hears gs t q))=some qa:=by
    rw [<-fa]
    congr 1
    funext q
    rw [Gj]
   rw [e2]
   have W9:=s3.trans s4
   have B4:=B2.same W9
   obtain ⟨Vt,YB,T4⟩:=B4.hs
   have Ms:=W9 _ _ Ug
   refine ⟨_,rfl,h,Vt,_,rfl,T4,rfl,_,rfl,fI Ms T.cq T.g2 (gX _) ⟨(by show 1<=sizeLine;decide),λt5 PF=> ?_⟩⟩
   have s5:bB H4 (bG H4 t5 (.dC [V.int (g.b:Nat)])):=aN PF
   refine ⟨h,l,as,n,c,gs,t5,[g.b],rfl,B4.same s5,hlen,hc,by simp,kY.of aj,λH6 s6=> ?_⟩
   have e3:((List.range c).find? λq=> !([g.b].any λt=>Vbqzak.hears gs t q))=some qb:=by
    rw [<-fb]
    congr 1
    funext q
    rw [Gj]
   rw [e3]
   have Xa:=s5.trans s6
   have B6:=B4.same Xa
   obtain ⟨YC,ZE,WY⟩:=B6.hs
   have Xb:=Xa _ _ Ms
   have ZL:gw gs g.b qa=j:=by unfold gw;rw [fj];rfl
   refine ⟨_,rfl,_,rfl,h,YC,_,rfl,WY,rfl,_,rfl,fI Xb T.cq T.g2 (gX _) ⟨_,rfl,h,l,as,n,c,gs,g.b,qa,rfl,B6,hlen,?_⟩⟩
   rw [ZL]
   refine ⟨_,rfl,h,l,as,n,c,gs,j,qb,qa,rfl,B6,hlen,Il,aY hab,λH7 B7 ZM=>⟨_,rfl,?_⟩⟩
   refine k H7 _ qa B7 ((Kp.of (s12.trans (W9.trans Xa))).trans ZM) ?_ Ue
   rw [Qm.iG Il,hg]
   show some (if i∈Vbqzak.chain gs j qb then _ else g)=some g
   rw [au TY]
abbrev qz:Stmt:=iB 12
theorem qL:bt ["house","game"] ["house"] (aJ qz):=⟨rfl,rfl,rfl,by decide +kernel,rfl,by decide +kernel,by decide +kernel⟩
def Gv (g:Gm):Gm:={g with p:=none}
def Q9 (G U:Addr):Sp:=λvs H Q _=>∃(h l:Addr) (as:List Addr) (n c:Nat) (gs:List Gm) (side:Nat->Bool),vs=[.ref h]/\fK G U H h l as n c gs/\gs.length<=30/\c<=12/\(∀x∈gs,side x.a≠side x.b)/\(∀x∈gs,Vbqzak.degree gs x.a<=c/\Vbqzak.degree gs x.b<=c)/\
 ∀H',fK G U H' h l as n c (Vbqzak.anew gs c)->Kp as H H'->Q .ll H'
theorem Hg (gs:List Gm) (f:Gm->Gm):Qm.FQ gs (List.range gs.length) f=gs.map f:=by
 apply bS
 intro k
 rw [Qm.qJ,ay]
 cases e:gs[k]? with
 |none=>rfl
 |some g=>
  have:=(ae.mp e).1
  simp [this]
theorem Rv (D:Df K mg "pack_anew" qz) (T:Tx K mg G U) (jX:dQ P w K mg base 5 "packet_made_free" ["house","game"] (TK G U)):dQ P w K mg base 6 "pack_anew" ["house"] (Q9 G U):=by
 obtain ⟨f,fd,M,F⟩:=D
 refine ⟨f,fd,M,F.kp,F.cC (λ_ _ _ _ _ _ us hl=>(match us,hl with|[_],_=>rfl)),F.ok qL (λvs H Q E h=> ?_) (λcdv A bE s H vs Q E hr h=> ?_)⟩
 ·obtain ⟨h,l,as,n,c,gs,side,rfl,_⟩:=h
  rfl
 ·obtain ⟨h,l,as,n,c,g0,side,rfl,B,hlen,hc,sR,Kv,k⟩:=h
  refine ⟨_,(ai (d8 aT rfl (fo (K:=K) (cw (K:=K) (pv 0))) (cu (i:=1) qL.nd rfl (Or.inl rfl)) (aq (lu (pv 1) (dr T.gH) rfl))) (aq (d8 aT rfl (fo (K:=K) (cw (K:=K) (pv 0))) (cu (i:=1) qL.nd rfl (Or.inl rfl)) (aq (lu (pv 1) (bW jX (hr.bY (by decide)) (aa (pv 0) (aa (pv 1) ah))) rfl))))),?_⟩
  obtain ⟨dh,dd,hh⟩:=B.hs
  have YF:(as.map V.ref).length=g0.length:=by rw [af];exact B.len
  refine ⟨_,rfl,fI hh T.a7 T.u3 rfl ⟨l,rfl,⟨_,cE.of B.a6⟩,fY (K:=K) (a:=l) (xs:=as.map V.ref) (λj σ H'=>∃v1:Option V,σ=[some (.ref h),v1]/\fK G U H' h l as n c (Qm.FQ g0 (List.range j) Gv)/\Kp as H H') ⟨none,rfl,by rw [List.range_zero,Qm.F0];exact B,Kp.refl _ _⟩ (λj σ H' _ ⟨_,_,z,_⟩=>cE.of z.a6) ?_ ?_⟩⟩
  ·rintro j y σ H1 hy ⟨v1,rfl,B1,kp1⟩
   rw [ay] at hy
   cases ea:as[j]? with
   |none=>rw [ea] at hy;cases hy
   |some a=>
    rw [ea] at hy
    have hy:V.ref a=y:=Option.some.inj hy
    subst hy
    have hj:j< g0.length:=by rw [<-B.len];exact (ae.mp ea).1
    obtain ⟨Kw,PB⟩:=Qm.Dc (f:=Gv) (x:=j) (xs:=List.range j) (by simp) (ab hj)
    obtain ⟨dx,pD⟩:=B1.vO j a _ ea Kw
    refine ⟨_,rfl,a,G,dx,_,rfl,pD,T.cq,T.g3,(by show 3< 1000;decide),?_⟩
    refine ⟨_,rfl,?_,kp1.trans (fK.vW (G:=G) (U:=U) ea)⟩
    rw [cT,<-PB,show kd "packet" (V.int (-1)) (gf g0[j])=gf (Gv g0[j]) from rfl]
    exact B1.put ea Kw
  ·rintro σ H1 ⟨v1,rfl,B1,kp1⟩
   rw [YF,Hg] at B1
   obtain ⟨Ni,Pz,hh1⟩:=B1.hs
   refine ⟨_,rfl,fI hh1 T.a7 T.u3 rfl ⟨l,rfl,⟨_,cE.of B1.a6⟩,fY (K:=K) (a:=l) (xs:=as.map V.ref) (λj σ H'=>∃(v1:Option V) (gs:List Gm),σ=[some (.ref h),v1]/\fK G U H' h l as n c gs/\Kp as H1 H'/\gs=(List.range j).foldl (Vbqzak.placed c) (g0.map Gv)/\Qm.A7 c g0 j gs) ⟨v1,_,rfl,B1,Kp.refl _ _,rfl,Qm.A7.start c g0⟩ (λj σ H' _ ⟨_,_,_,z,_⟩=>cE.of z.a6) ?_ ?_⟩⟩
   ·rintro j y σ H2 hy ⟨w1,gs,rfl,B2,kp2,VB,AN⟩
    rw [ay] at hy
    cases ea:as[j]? with
    |none=>rw [ea] at hy;cases hy
    |some a=>
     rw [ea] at hy
     have hy:V.ref a=y:=Option.some.inj hy
     subst hy
     have hj:j< gs.length:=by rw [<-B2.len];exact (ae.mp ea).1
     have Ky:gs.length<=30:=by rw [<-B2.len,B.len];exact hlen
     have VC:gs[j]? =some gs[j]:=ab hj
     have hs2:=Qm.yZ AN.j7 sR
     have Nl:Vbqzak.degree gs gs[j].a<=c/\Vbqzak.degree gs gs[j].b<=c:=by
      have hm:=Qm.my (aw VC)
      rw [AN.j7] at hm
      obtain ⟨z,hz,e2⟩:=bC.mp hm
      have h1:z.a=gs[j].a:=cS Prod.fst e2
      have h2:z.b=gs[j].b:=cS Prod.snd e2
      have:=Kv z hz
      rw [Qm.j9,Qm.j9,<-AN.j7,<-Qm.j9,<-Qm.j9,h1,h2] at this
      exact this
     refine ⟨_,rfl,_,rfl,h,l,as,n,c,gs,j,a,gs[j],side,rfl,B2,Ky,hc,ea,VC,AN.left j _ VC (aF _),AN.fH,hs2,Nl.1,Nl.2,λH3 Fv q B3 kp3 PH Ue=> ?_⟩
     obtain ⟨dx,pD⟩:=B3.vO j a _ ea PH
     refine ⟨_,rfl,a,G,dx,_,rfl,pD,T.cq,T.g3,(by show 3< 1000;decide),?_⟩
     refine ⟨_,Vbqzak.placed c gs j,rfl,?_,(kp2.trans kp3).trans (fK.vW (G:=G) (U:=U) ea),?_,AN.step sR Kv VC⟩
     ·rw [Ue,Qm.pZ PH,show kd "packet" (V.int (q:Nat)) (gf gs[j])=gf {gs[j] with p:=some q} from rfl]
      exact B3.put ea PH
     ·rw [Qm.An,<-VB]
   ·rintro σ H2 ⟨w1,gs,rfl,B2,kp2,VB,AN⟩
    rw [YF] at VB
    have e:gs=Vbqzak.anew g0 c:=VB
    subst e
    exact k H2 B2 (kp1.trans kp2)
end
end Qz
end
section
namespace Qm
open Vbqzak
def uL (gs:List Game) (n t:Nat):List Nat:=(List.range n).filter λy=>plays gs t y
theorem qC {gs:List Game} {n t y:Nat}:y∈uL gs n t↔y< n/\plays gs t y=true:=by
 unfold uL
 rw [bU,cQ]
theorem FL (gs:List Game) (n t:Nat):(uL gs n t).length<=n:=by
 unfold uL
 refine bg (bQ _ _) ?_
 rw [aM]
 exact aF _
abbrev Sd:=List (Option Nat)
structure SdB (gs:List Game) (n:Nat) (ss:Sd):Prop where
 len:ss.length=n
 LS:∀(t s:Nat),ss[t]? =some (some s)->s=0\/s=1
 La:∀(r s:Nat),rootOf gs n r=r->ss[r]? =some (some s)->s=0
 C7:twoSides gs n=true->∀(t s:Nat),ss[t]? =some (some s)->s=sideOf gs n t
def qK (ss:Sd) (t:Nat):Prop:=∃s,ss[t]? =some (some s)
structure ED (gs:List Game) (n T:Nat) (ss:Sd):Prop extends SdB gs n ss where
 ff:∀x y,x< n->y< n->plays gs x y=true->qK ss x->qK ss y
 done:∀t,t< T->qK ss t
structure JV (gs:List Game) (n st:Nat) (ss:Sd) (wl:List Nat):Prop extends SdB gs n ss where
 self:qK ss st
 nO:∀x∈wl,x< n/\qK ss x/\x∈comp gs n st
 ff:∀x y,x< n->y< n->x∉wl->plays gs x y=true->qK ss x->qK ss y
structure KQ (gs:List Game) (n st x j:Nat) (ss:Sd) (wl:List Nat):Prop extends SdB gs n ss where
 self:qK ss st
 xs:x< n/\qK ss x/\x∈comp gs n st
 nO:∀x∈wl,x< n/\qK ss x/\x∈comp gs n st
 ff:∀z y,z< n->y< n->z∉wl->z≠x->plays gs z y=true->qK ss z->qK ss y
 IS:∀y∈(uL gs n x).take j,qK ss y
section
variable {gs:List Game} {n:Nat}
theorem jN {ss:Sd} {t y s:Nat} (hy:y< ss.length) (h:qK ss t\/t=y):qK (ss.set y (some s)) t:=by
 by_cases e:y=t
 ·subst e
  exact ⟨s,cI hy⟩
 ·rcases h with ⟨u,h⟩|h
  ·exact ⟨u,by rw [cO e];exact h⟩
  ·exact absurd h.symm e
theorem xl {ss:Sd} {t y s:Nat} (h:qK (ss.set y (some s)) t):qK ss t\/t=y:=by
 by_cases e:y=t
 ·exact .inr e.symm
 ·obtain ⟨u,h⟩:=h
  rw [cO e] at h
  exact .inl ⟨u,h⟩
theorem SdB.set {ss:Sd} (B:SdB gs n ss) {y s:Nat} (hy:y< n) (h2:s=0\/s=1) (hr:rootOf gs n y=y->s=0) (hg:twoSides gs n=true->s=sideOf gs n y):SdB gs n (ss.set y (some s)) where
 len:=by rw [gB];exact B.len
 LS:=λt u h=>by
  by_cases e:y=t
  ·subst e
   rw [cI (by rw [B.len];exact hy)] at h
   have:s=u:=by simpa using h
   rw [<-this];exact h2
  ·rw [cO e] at h
   exact B.LS t u h
 La:=λr u he h=>by
  by_cases e:y=r
  ·subst e
   rw [cI (by rw [B.len];exact hy)] at h
   have:s=u:=by simpa using h
   rw [<-this];exact hr he
  ·rw [cO e] at h
   exact B.La r u he h
 C7:=λht t u h=>by
  by_cases e:y=t
  ·subst e
   rw [cI (by rw [B.len];exact hy)] at h
   have:s=u:=by simpa using h
   rw [<-this];exact hg ht
  ·rw [cO e] at h
   exact B.C7 ht t u h
theorem ED.zero:ED gs n 0 (List.replicate n none) where
 len:=k8
 LS:=λt s h=>by
  have:=ae.mp h
  obtain ⟨h1,h2⟩:=this
  rw [ie] at h2
  cases h2
 La:=λt s _ h=>by
  obtain ⟨h1,h2⟩:=ae.mp h
  rw [ie] at h2
  cases h2
 C7:=λ_ t s h=>by
  obtain ⟨h1,h2⟩:=ae.mp h
  rw [ie] at h2
  cases h2
 ff:=λx y _ _ _ ⟨s,h⟩=>by
  obtain ⟨h1,h2⟩:=ae.mp h
  rw [ie] at h2
  cases h2
 done:=λt ht=>by lia
theorem ED.M9 {T:Nat} {ss:Sd} (S:ED gs n T ss) (hT:T< n) (hno:¬qK ss T):rootOf gs n T=T:=by
 refine z5 hT (tf hT) λy hy=> ?_
 apply a5
 intro hlt
 have ZN:qK ss y:=S.done y (by lia)
 have zK:=Br hT hy
 have key:∀z∈comp gs n y,z< n/\qK ss z:=lz (U:=List.range n) (S:=λz=>z< n/\qK ss z) (λa b ha hb hr=>⟨by simpa using ha,S.ff b a hb.1 (by simpa using ha) (by rw [ny];exact hr) hb.2⟩) n [y] (by simpa using ⟨zK,ZN⟩)
 exact hno (key T (vT hT hy)).2
theorem ED.enter {T:Nat} {ss:Sd} (S:ED gs n T ss) (hT:T< n) (hno:¬qK ss T):JV gs n T (ss.set T (some 0)) [T]:=by
 have hr:=S.M9 hT hno
 have hl:T< ss.length:=by rw [S.len];exact hT
 have B:=S.toSdB.set hT (.inl rfl) (λ_=>rfl) (λ_=>(Hi hT hr).symm)
 refine ⟨B,jN hl (.inr rfl),λx hx=> ?_,λx y hx hy ZO hp hh=> ?_⟩
 ·have:x=T:=by simpa using hx
  subst this
  exact ⟨hT,jN hl (.inr rfl),tf hT⟩
 ·rcases xl hh with h|h
  ·exact jN hl (.inl (S.ff x y hx hy hp h))
  ·exact absurd (by simpa using h) ZO
theorem JV.pop {st x:Nat} {ss:Sd} {wl:List Nat} (S:JV gs n st ss (wl++[x])):KQ gs n st x 0 ss wl where
 toSdB:=S.toSdB
 self:=S.self
 xs:=S.nO x (by simp)
 nO:=λy hy=>S.nO y (br _ hy)
 ff:=λz y hz hy Nm Uh hp hh=>S.ff z y hz hy (λh=>by
  rcases aI.mp h with h|h
  ·exact Nm h
  ·exact Uh (by simpa using h)) hp hh
 IS:=λy hy=>by simp at hy
theorem KQ.skip {st x j y:Nat} {ss:Sd} {wl:List Nat} (S:KQ gs n st x j ss wl) (hy:(uL gs n x)[j]? =some y) (h:qK ss y):KQ gs n st x (j+1) ss wl where
 toSdB:=S.toSdB
 self:=S.self
 xs:=S.xs
 nO:=S.nO
 ff:=S.ff
 IS:=λz hz=>by
  rw [fN,hy] at hz
  rcases aI.mp hz with hz|hz
  ·exact S.IS z hz
  ·have:z=y:=by simpa using hz
   rw [this];exact h
theorem KQ.add {st x j y s:Nat} {ss:Sd} {wl:List Nat} (S:KQ gs n st x j ss wl) (hst:rootOf gs n st=st) (Kz:st< n) (hy:(uL gs n x)[j]? =some y) (hno:¬qK ss y) (hx:ss[x]? =some (some s)):KQ gs n st x (j+1) (ss.set y (some (1-s))) (wl++[y]):=by
 obtain ⟨zK,hp⟩:=qC.mp (aw hy)
 have hl:y< ss.length:=by rw [S.len];exact zK
 have YG:y∈comp gs n st:=wV Kz zK S.xs.2.2 (by rw [ny];exact hp)
 have ZP:y≠st:=λe=>by subst e;exact hno S.self
 have hs:=S.LS x s hx
 have B:=S.toSdB.set (y:=y) (s:=1-s) zK (by lia) (λe=>by
  rw [zP Kz YG,hst] at e
  exact absurd e.symm ZP) (λht=>by
  have h1:=S.C7 ht x s hx
  have h2:=(FP ht).apart x y S.xs.1 zK hp
  have h3:=u0 (gs:=gs) (n:=n) y
  lia)
 refine ⟨B,jN hl (.inl S.self),⟨S.xs.1,jN hl (.inl S.xs.2.1),S.xs.2.2⟩,λz hz=> ?_,λz u hz hu Nm Uh Mt hh=> ?_,λz hz=> ?_⟩
 ·rcases aI.mp hz with hz|hz
  ·obtain ⟨h1,h2,h3⟩:=S.nO z hz
   exact ⟨h1,jN hl (.inl h2),h3⟩
  ·have:z=y:=by simpa using hz
   subst this
   exact ⟨zK,jN hl (.inr rfl),YG⟩
 ·rcases xl hh with h|h
  ·exact jN hl (.inl (S.ff z u hz hu (λq=>Nm (br _ q)) Uh Mt h))
  ·exact absurd (bp _ (by simp [h])) Nm
 ·rw [fN,hy] at hz
  rcases aI.mp hz with hz|hz
  ·exact jN hl (.inl (S.IS z hz))
  ·exact jN hl (.inr (by simpa using hz))
theorem KQ.zg {st x:Nat} {ss:Sd} {wl:List Nat} (S:KQ gs n st x (uL gs n x).length ss wl):JV gs n st ss wl where
 toSdB:=S.toSdB
 self:=S.self
 nO:=S.nO
 ff:=λz y hz hy Nm hp hh=>by
  by_cases e:z=x
  ·subst e
   refine S.IS y ?_
   rw [bu]
   exact qC.mpr ⟨hy,hp⟩
  ·exact S.ff z y hz hy Nm e hp hh
theorem JV.Rf {T:Nat} {s0 ss:Sd} (S0:ED gs n T s0) (S:JV gs n T ss []) (keep:∀t,qK s0 t->qK ss t):ED gs n (T+1) ss where
 toSdB:=S.toSdB
 ff:=λx y hx hy hp hh=>S.ff x y hx hy (by simp) hp hh
 done:=λt ht=>by
  by_cases e:t=T
  ·rw [e];exact S.self
  ·exact keep t (S0.done t (by lia))
theorem ED.next {T:Nat} {ss:Sd} (S:ED gs n T ss) (h:qK ss T):ED gs n (T+1) ss where
 toSdB:=S.toSdB
 ff:=S.ff
 done:=λt ht=>by
  by_cases e:t=T
  ·rw [e];exact h
  ·exact S.done t (by lia)
def qD (gs:List Game) (n:Nat):List Nat:=(List.range n).map (sideOf gs n)
theorem ED.VX {ss:Sd} (S:ED gs n n ss) (hin:∀g∈gs,g.a< n/\g.b< n) (Wg:Wf gs):
  ((∃g∈gs,ss[g.a]? =ss[g.b]?)->twoSides gs n=false)/\((∀g∈gs,ss[g.a]?≠ss[g.b]?)->twoSides gs n=true/\ss=(qD gs n).map some):=by
 have BC:∀t,t< n->∃s,ss[t]? =some (some s):=λt ht=>S.done t ht
 constructor
 ·rintro ⟨g,hg,e⟩
  cases ht:twoSides gs n with
  |false=>rfl
  |true=>
   obtain ⟨ha,hb⟩:=hin g hg
   obtain ⟨u,hu⟩:=BC _ ha
   obtain ⟨v,hv⟩:=BC _ hb
   have h1:=S.C7 ht _ _ hu
   have h2:=S.C7 ht _ _ hv
   rw [hu,hv] at e
   have e:u=v:=by simpa using e
   have h3:=(FP ht).apart g.a g.b ha hb (pR.mpr ⟨g,hg,.inl ⟨rfl,rfl⟩⟩)
   lia
 ·intro h
  let col:Nat->Nat:=λt=>((ss[t]?).bind id).getD 0
  have KA:∀t s,ss[t]? =some (some s)->col t=s:=λt s e=>by
   show ((ss[t]?).bind id).getD 0=s
   rw [e]
   rfl
  have C:Sj gs n col:=⟨λx hx=>by
   obtain ⟨s,hs⟩:=BC x hx
   rw [KA x s hs]
   exact S.LS x s hs,λx y hx hy hp=>by
   obtain ⟨u,hu⟩:=BC x hx
   obtain ⟨v,hv⟩:=BC y hy
   rw [KA x u hu,KA y v hv]
   obtain ⟨g,hg,e⟩:=pR.mp hp
   have:=h g hg
   rcases e with ⟨rfl,rfl⟩|⟨rfl,rfl⟩
   ·rw [hu,hv] at this
    exact λz=>this (by rw [z])
   ·rw [hu,hv] at this
    exact λz=>this (by rw [z])⟩
  obtain ⟨h1,h2⟩:=EE C (λr hr he=>by
   obtain ⟨s,hs⟩:=BC r hr
   rw [KA r s hs]
   exact S.La r s he hs) hin
  refine ⟨h1,?_⟩
  apply bS
  intro t
  by_cases ht:t< n
  ·obtain ⟨s,hs⟩:=BC t ht
   rw [hs]
   unfold qD
   rw [ay,ay,b9 ht]
   show some (some s)=some (some (sideOf gs n t))
   rw [h2 t ht,KA t s hs]
  ·rw [bq (by rw [S.len];lia),bq (by unfold qD;simp;lia)]
def Ht (ss:Sd):Nat:=ss.countP λo=>o.isNone
theorem Ge:∀{ss:Sd} {y s:Nat},y< ss.length->¬qK ss y->Ht (ss.set y (some s))+1=Ht ss
 |[],_,_,h,_=>by simp at h
 |o::ss,0,s,_,h=>by
  have:o=none:=by
   cases o with
   |none=>rfl
   |some u=>exact absurd ⟨u,rfl⟩ h
  subst this
  unfold Ht
  rw [nh,c8,c8]
  simp
 |o::ss,y+1,s,hl,h=>by
  have ih:=Ge (ss:=ss) (y:=y) (s:=s) (by simpa using hl) (λ⟨u,hu⟩=>h ⟨u,by simpa using hu⟩)
  unfold Ht at ih ⊢
  rw [ni,c8,c8]
  lia
end
end Qm
end
section
namespace Qz
open PySem PySem.Spec PyProof.Rows L2
structure dJ (H:Hp) (p:Addr) (rs:List Addr) (f:Nat->List Nat) (n:Nat):Prop where
 len:rs.length=n
 a6:H p=some (.a6 (rs.map V.ref))
 row:∀(t:Nat) (a:Addr),rs[t]? =some a->H a=some (.a6 (nV (f t)))
theorem dJ.same {H H':Hp} {p:Addr} {rs:List Addr} {f:Nat->List Nat} {n:Nat} (R:dJ H p rs f n) (s:bB H H'):dJ H' p rs f n:=⟨R.len,s _ _ R.a6,λt a h=>s _ _ (R.row t a h)⟩
theorem dJ.keep {H H':Hp} {p:Addr} {rs:List Addr} {f:Nat->List Nat} {n:Nat} (R:dJ H p rs f n) {sa:Addr} (k:∀b o,H b=some o->b≠sa->H' b=some o) (h1:p≠sa) (h2:sa∉rs):dJ H' p rs f n:=
 ⟨R.len,k _ _ R.a6 h1,λt a h=>k _ _ (R.row t a h) λe=>h2 (e▸aw h)⟩
theorem dJ.get {H:Hp} {p:Addr} {rs:List Addr} {f:Nat->List Nat} {n:Nat} (R:dJ H p rs f n) {t:Nat} (ht:t< n):∃a,rs[t]? =some a/\Dj (rs.map V.ref) (t:Int)=some (V.ref a)/\H a=some (.a6 (nV (f t))):=by
 have h:t< rs.length:=by rw [R.len];exact ht
 refine ⟨rs[t],ab h,cg (by rw [ay,ab h];rfl),R.row t _ (ab h)⟩
def sV (ss:Qm.Sd):List V:=ss.map λo=>V.int (pk o)
theorem En (ss:Qm.Sd):(sV ss).length=ss.length:=by unfold sV;rw [af]
theorem yN {ss:Qm.Sd} {t:Nat} {o:Option Nat} (h:ss[t]? =some o):(sV ss)[t]? =some (V.int (pk o)):=by
 unfold sV
 rw [ay,h]
 rfl
theorem IJ (ss:Qm.Sd) (t:Nat) (o:Option Nat):(sV ss).set t (V.int (pk o))=sV (ss.set t o):=by
 unfold sV
 rw [uW]
theorem sW {n j:Nat} (h:j< n):IL n (j:Int)=some j:=by
 unfold IL
 rw [aA (by lia),aA (by lia)]
 simp
theorem CV {ss:Qm.Sd} {t:Nat} (hl:t< ss.length) (h:¬Qm.qK ss t):ss[t]? =some none:=by
 rw [ab hl]
 cases e:ss[t] with
 |none=>rfl
 |some s=>exact absurd ⟨s,by rw [ab hl,e]⟩ h
section
variable {P:Program} {w:World} {K:PySem.W.Frag} {mg:Str->Option Value} {base:Heap} {G U:Addr}
abbrev mD:Stmt:=iB 41
theorem jJ:bt ["met","sides","start","waiting","team","other"] ["met","sides","start"] (aJ mD):=⟨rfl,rfl,rfl,by decide +kernel,rfl,by decide +kernel,by decide +kernel⟩
def Tp:Sp:=λvs H Q _=>∃(me:Addr) (rs:List Addr) (sa:Addr) (gs:List Gm) (n st:Nat) (ss:Qm.Sd),vs=[.ref me,.ref sa,.int st]/\dJ H me rs (Qm.uL gs n) n/\H sa=some (.a6 (sV ss))/\me≠sa/\sa∉rs/\n<=10/\st< n/\Vbqzak.rootOf gs n st=st/\Qm.JV gs n st ss [st]/\
 ∀H' PJ,H' sa=some (.a6 (sV PJ))->Qm.JV gs n st PJ []->(∀t,Qm.qK ss t->Qm.qK PJ t)->(∀b o,H b=some o->b≠sa->H' b=some o)->Q .ll H'
theorem Q6 (D:Df K mg "spread_sides" mD) (T:Tx K mg G U):dQ P w K mg base 1 "spread_sides" ["met","sides","start"] Tp:=by
 obtain ⟨f,fd,M,F⟩:=D
 refine ⟨f,fd,M,F.kp,F.cC (λ_ _ _ _ _ _ us hl=>(match us,hl with|[_,_,_],_=>rfl)),F.ok jJ (λvs H Q E h=> ?_) (λcdv A bE s H vs Q E hr h=> ?_)⟩
 ·obtain ⟨me,rs,sa,gs,n,st,ss,rfl,_⟩:=h
  rfl
 ·obtain ⟨me,rs,sa,gs,n,st,s0,rfl,R,Nn,ZQ,YH,hn,hst,KC,S0,k⟩:=h
  refine ⟨_,(ai (bx (i:=3) jJ.nd rfl (Or.inl rfl) (cf (aa (pv 2) ah))) (aq (l5 aT (yy (K:=K) (pv 3)) (ai (bx (i:=4) jJ.nd rfl (Or.inl rfl) (FR (K:=K) aQ iM iN Be (pv 3))) (aq (d8 aT rfl (fo (K:=K) (cH (je (K:=K)) (pv 0) (pv 4) (λ_ _=>rfl))) (cu (i:=5) jJ.nd rfl (Or.inl rfl)) (aq (cP (bo dU (cH (je (K:=K)) (pv 1) (pv 5) (λ_ _=>rfl)) (dr T.wq) (bN _)) (ai (vV (eY o6 bc (cH (je (K:=K)) (pv 1) (pv 4) (λ_ _=>rfl))) (wx (pv 1) (pv 5) p6)) (aq (dS (mS (K:=K) aQ bL bM fe (pv 3) (aa (pv 5) ah))))) bF)))))))),?_⟩
  refine ⟨_,rfl,(by show 1<=sizeLine;decide),λww ID=> ?_⟩
  have Mu:ww≠sa:=aY (az Nn ID)
  refine ⟨λm σ H'=>∃(ss:Qm.Sd) (wl:List Nat) (v4 v5:Option V),σ=[some (.ref me),some (.ref sa),some (.int st),some (.ref ww),v4,v5]/\H' sa=some (.a6 (sV ss))/\H' ww=some (.a6 (nV wl))/\(∀b o,H b=some o->b≠sa->H' b=some o)/\Qm.JV gs n st ss wl/\(∀t,Qm.qK s0 t->Qm.qK ss t)/\m=2*Qm.Ht ss+wl.length/\wl.length+Qm.Ht ss<=30,
   ⟨2*Qm.Ht s0+1,s0,[st],none,none,rfl,?_,aj,λb o e hb=> ?_,S0,λt h=>h,rfl,?_⟩,?_⟩
  ·rw [aL (aY Mu)]
   exact Nn
  ·rw [aL (az e ID)]
   exact e
  ·have:Qm.Ht s0<=s0.length:=List.countP_le_length
   rw [S0.len] at this
   simp
   lia
  rintro m σ H1 ⟨ss,wl,v4,v5,rfl,Ui,Xc,kp1,S,bY,hm,Uj⟩
  refine ⟨_,rfl,!wl.isEmpty,.inl ⟨nV wl,cE.of Xc,(by cases wl<;>rfl)⟩,?_⟩
  refine gr (λe1=> ?_) (λe1=> ?_)
  ·obtain ⟨sS,x,rfl⟩:∃sS x,wl=sS++[x]:=⟨wl.dropLast,wl.getLast (by intro e;subst e;cases e1),(eF _).symm⟩
   obtain ⟨Mv,YI,hxc⟩:=S.nO x (by simp)
   refine ⟨fun σ H'=>∃(ss:Qm.Sd) (wl:List Nat) (v4 v5:Option V),σ=[some (.ref me),some (.ref sa),some (.int st),some (.ref ww),v4,v5]/\H' sa=some (.a6 (sV ss))/\H' ww=some (.a6 (nV wl))/\(∀b o,H b=some o->b≠sa->H' b=some o)/\Qm.JV gs n st ss wl/\(∀t,Qm.qK s0 t->Qm.qK ss t)/\2*Qm.Ht ss+wl.length< m/\wl.length+Qm.Ht ss<=30,?_,?_⟩
   ·rintro σ' H' ⟨PJ,Io,w4,w5,rfl,h1,h2,h3,h4,h5,h6,h7⟩
    exact ⟨_,h6,PJ,Io,w4,w5,rfl,h1,h2,h3,h4,h5,rfl,h7⟩
   ·
    refine ⟨_,rfl,.inl ⟨rfl,_,cE.of Xc⟩,ww,_,V.int (x:Nat),rfl,rfl,Xc,(by rw [fB];simp),?_⟩
    have T5:(nV (sS++[x])).dropLast=nV sS:=by rw [fB,iW]
    rw [T5]
    have Uk:bG H1 ww (.a6 (nV sS)) sa=some (.a6 (sV ss)):=by rw [aL (aY Mu)];exact Ui
    have YJ:bG H1 ww (.a6 (nV sS)) ww=some (.a6 (nV sS)):=aj
    have kp2:∀b o,H b=some o->b≠sa->bG H1 ww (.a6 (nV sS)) b=some o:=λb o e hb=>by
     rw [aL (az e ID)]
     exact kp1 b o e hb
    generalize bG H1 ww (.a6 (nV sS))=H2 at Uk YJ kp2
    have R2:dJ H2 me rs (Qm.uL gs n) n:=R.keep kp2 ZQ YH
    obtain ⟨ra,qc,PL,kW⟩:=R2.get Mv
    have Ul:ra≠sa:=λe=>YH (e▸aw qc)
    have KD:H ra=some (.a6 (nV (Qm.uL gs n x))):=R.row x ra qc
    have ZR:m=2*Qm.Ht ss+(sS.length+1):=by rw [hm,ao];rfl
    refine ⟨_,rfl,_,rfl,xI (cE.of R2.a6) PL ⟨ra,rfl,⟨_,cE.of kW⟩,fY (K:=K) (a:=ra) (xs:=nV (Qm.uL gs n x)) (λj σ H'=>∃(ss:Qm.Sd) (wl:List Nat) (v5:Option V),σ=[some (.ref me),some (.ref sa),some (.int st),some (.ref ww),some (.int (x:Nat)),v5]/\H' sa=some (.a6 (sV ss))/\H' ww=some (.a6 (nV wl))/\(∀b o,H b=some o->b≠sa->H' b=some o)/\Qm.KQ gs n st x j ss wl/\(∀t,Qm.qK s0 t->Qm.qK ss t)/\2*Qm.Ht ss+wl.length< m/\wl.length+Qm.Ht ss<=30)
     ⟨ss,sS,v5,rfl,Uk,YJ,kp2,S.pop,bY,by lia,by rw [ao] at Uj;simp at Uj;lia⟩ (λj σ H' _ ⟨_,_,_,_,_,_,z,_⟩=>cE.of (z _ _ KD Ul)) ?_ ?_⟩⟩
    ·rintro j y σ H3 hy ⟨s3,w3,u5,rfl,Fw,VD,kp3,SM,GW,Xd,Xe⟩
     obtain ⟨z,hz,rfl⟩:=nX hy
     have AA:z< n:=(Qm.qC.mp (aw hz)).1
     have hzl:z< s3.length:=by rw [SM.len];exact AA
     by_cases hh:Qm.qK s3 z
     ·obtain ⟨sz,hsz⟩:=hh
      refine ⟨_,rfl,_,rfl,sa,_,_,_,rfl,rfl,cE.of Fw,cg (yN hsz),rfl,_,rfl,?_⟩
      rw [mU]
      exact i0 ⟨s3,w3,_,rfl,Fw,VD,kp3,SM.skip hz ⟨sz,hsz⟩,GW,Xd,Xe⟩
     ·have hsz:=CV hzl hh
      refine ⟨_,rfl,_,rfl,sa,_,_,_,rfl,rfl,cE.of Fw,cg (yN hsz),rfl,_,rfl,?_⟩
      rw [mU]
      obtain ⟨sx,Np⟩:=SM.xs.2.1
      have h01:=SM.LS x sx Np
      refine ij ⟨_,rfl,_,rfl,sa,_,_,_,rfl,rfl,cE.of Fw,cg (yN Np),_,_,rfl,rfl,_,rfl,_,rfl,sa,_,_,z,rfl,rfl,Fw,sW (by rw [En];exact hzl),?_⟩
      have ev:V.int ((1:Int)-pk (some sx))=V.int (pk (some (1-sx))):=by
       show V.int ((1:Int)-(sx:Int))=V.int ((1-sx:Nat):Int)
       congr 1
       lia
      rw [show (sV s3).set z (V.int ((1:Int)-pk (some sx)))=sV (s3.set z (some (1-sx))) by rw [ev,IJ]]
      have KY:bG H3 sa (.a6 (sV (s3.set z (some (1-sx))))) ww=some (.a6 (nV w3)):=by rw [aL Mu];exact VD
      refine ⟨_,rfl,.inl ⟨rfl,_,cE.of KY⟩,_,rfl,ww,_,_,rfl,rfl,KY,(by rw [cN];exact cv (by lia)),?_⟩
      have ZS:=Qm.Ge (s:=1-sx) hzl hh
      refine ⟨s3.set z (some (1-sx)),w3++[z],_,rfl,?_,?_,λb o e hb=> ?_,SM.add KC hst hz hh Np,λt ht=>Qm.jN hzl (.inl (GW t ht)),?_,?_⟩
      ·rw [aL (aY Mu)]
       exact aj
      ·rw [aj,fB]
      ·rw [aL (az e ID),aL hb]
       exact kp3 b o e hb
      ·rw [ao]
       simp
       lia
      ·rw [ao]
       simp
       lia
    ·rintro σ H3 ⟨s3,w3,u5,rfl,Fw,VD,kp3,SM,GW,Xd,Xe⟩
     rw [cN] at SM
     exact ⟨s3,w3,_,_,rfl,Fw,VD,kp3,SM.zg,GW,Xd,Xe⟩
  ·have:wl=[]:=by
    cases wl with
    |nil=>rfl
    |cons a b=>cases e1
   subst this
   exact k H1 ss Ui S bY kp1
abbrev kP:Stmt:=iB 40
theorem jf:bt ["house","rows","team","game","row"] ["house"] (aJ kP):=⟨rfl,rfl,rfl,by decide +kernel,rfl,by decide +kernel,by decide +kernel⟩
def OZ (G U:Addr):Sp:=λvs H Q _=>∃(h l:Addr) (as:List Addr) (n c:Nat) (gs:List Gm),vs=[.ref h]/\fK G U H h l as n c gs/\gs.length<=30/\n<=10/\(∀g∈gs,g.a< n/\g.b< n)/\
 ∀(H':Hp) (p:Addr) (rs:List Addr),bB H H'->dJ H' p rs (Qm.uL gs n) n->H p=none->(∀a∈rs,H a=none)->Q (.ref p) H'
abbrev kq:Stmt:=iB 42
theorem gK:bt ["house","met","sides","team","game"] ["house"] (aJ kq):=⟨rfl,rfl,rfl,by decide +kernel,rfl,by decide +kernel,by decide +kernel⟩
def u7 (gs:List Gm) (n:Nat):List Nat:=if Vbqzak.twoSides gs n=true then Qm.qD gs n else []
def NU (G U:Addr):Sp:=λvs H Q _=>∃(h l:Addr) (as:List Addr) (n c:Nat) (gs:List Gm),vs=[.ref h]/\fK G U H h l as n c gs/\gs.length<=30/\n<=10/\(∀g∈gs,g.a< n/\g.b< n)/\Qm.Wf gs/\
 ∀(H':Hp) (p:Addr),bB H H'->H p=none->H' p=some (.a6 (nV (u7 gs n)))->Q (.ref p) H'
theorem Tw (D:Df K mg "two_sides" kq) (T:Tx K mg G U) (ka:dQ P w K mg base 2 "opponents" ["house"] (OZ G U)) (oe:dQ P w K mg base 1 "spread_sides" ["met","sides","start"] Tp):dQ P w K mg base 3 "two_sides" ["house"] (NU G U):=by
 obtain ⟨f,fd,M,F⟩:=D
 refine ⟨f,fd,M,F.kp,F.cC (λ_ _ _ _ _ _ us hl=>(match us,hl with|[_],_=>rfl)),F.ok gK (λvs H Q E h=> ?_) (λcdv A bE s H vs Q E hr h=> ?_)⟩
 ·obtain ⟨h,l,as,n,c,gs,rfl,_⟩:=h
  rfl
 ·obtain ⟨h,l,as,n,c,gs,rfl,B,hlen,hn,hin,Wg,k⟩:=h
  refine ⟨_,(ai (bx (i:=1) gK.nd rfl (Or.inl rfl) (bW ka (hr.bY (by decide)) (aa (pv 0) ah))) (ai (bx (i:=2) gK.nd rfl (Or.inr rfl) (mh rfl gK.nd (iU:=[("team",3)]) (d3 rfl T.range (aa (cw (K:=K) (pv 0)) ah)) (eC (by show nP ["house","met","sides","team","game"] (aJ kq) _ _=true;decide +kernel)) (λ_ _ _ _ _=>(cu (i:=3) gK.nd rfl (Or.inl rfl))) (λ_ _ _ _ _=>by exact kJ) (λ_ _ _ _ _=>by exact (dr T.wq)))) (ai (d8 aT rfl (d3 rfl T.range (aa (cw (K:=K) (pv 0)) ah)) (cu (i:=3) gK.nd rfl (Or.inl rfl)) (aq (cP (bo dU (cH (je (K:=K)) (pv 2) (pv 3) (λ_ _=>rfl)) (dr T.wq) (bN _)) (ai (vV bc (wx (pv 2) (pv 3) p6)) (aq (dS (bW oe (hr.bY (by decide)) (aa (pv 1) (aa (pv 2) (aa (pv 3) ah))))))) bF))) (ai (cP (iP (bT (IH (K:=K)) (by rfl) T.J9 lb (aa (mh rfl gK.nd (iU:=[("game",4)]) (fo (K:=K) (cw (K:=K) (pv 0))) (eC (by show nP ["house","met","sides","team","game"] (aJ kq) _ _=true;decide +kernel)) (λ_ _ _ _ _=>(cu (i:=4) gK.nd rfl (Or.inl rfl))) (λ_ _ _ _ _=>by exact kJ) (λ_ _ _ _ _=>by exact (oH dU (cH (je (K:=K)) (pv 2) (cw (K:=K) (pv 4)) (λ_ _=>rfl)) (cH (je (K:=K)) (pv 2) (cw (K:=K) (pv 4)) (λ_ _=>rfl)) (bN _)))) ah))) (aq (aV (cf ah))) bF) (aq (aV (pv 2))))))),?_⟩
  refine ⟨_,rfl,h,l,as,n,c,gs,rfl,B,hlen,hn,hin,λH1 me rs s1 R1 hme Ul=> ?_⟩
  have B1:=B.same s1
  obtain ⟨Ni,Pz,hh1⟩:=B1.hs
  refine ⟨_,rfl,fI hh1 T.a7 T.u1 rfl ⟨_,rfl,(by lia),(by lia),λsa Nn=> ?_⟩⟩
  refine mf (Pv:=λj H2=>bB H1 H2/\H2 sa=some (.a6 (sV (List.replicate j none)))) ⟨aN Nn,aj⟩ ?_ ?_
  ·rintro j H2 hj ⟨s2,h2⟩
   rw [aK] at hj
   refine ⟨rfl,GJ ?_⟩
   refine ⟨_,h2,(by rw [En,k8];exact cv (by lia)),c6 s2 Nn,?_⟩
   rw [aj,List.replicate_succ']
   unfold sV
   rw [a4]
   rfl
  ·rintro H2 ⟨s2,h2⟩
   rw [aK] at h2
   have B2:=B1.same s2
   have R2:=R1.same s2
   obtain ⟨GU,dd2,BY⟩:=B2.hs
   have Nq:me≠sa:=az R1.a6 Nn
   have Um:sa∉rs:=λhm=>by
    obtain ⟨t,ht⟩:=a9.mp hm
    have:=R1.row t sa ht
    rw [Nn] at this
    cases this
   have Uo:H sa=none:=s1.free Nn
   refine ⟨_,rfl,fI BY T.a7 T.u1 rfl ⟨_,rfl,(by lia),(by lia),?_⟩⟩
   refine fP (Pv:=λx σ H'=>∃(ss:Qm.Sd) (v3:Option V),σ=[some (.ref h),some (.ref me),some (.ref sa),v3,none]/\H' sa=some (.a6 (sV ss))/\(∀b o,H2 b=some o->b≠sa->H' b=some o)/\Qm.ED gs n x ss) ⟨_,none,rfl,h2,λb o e _=>e,Qm.ED.zero⟩ ?_ ?_
   ·rintro x σ H3 hx ⟨ss,v3,rfl,h3,kp3,S3⟩
    rw [aK] at hx
    have Ec:x< ss.length:=by rw [S3.len];exact hx
    rw [di]
    by_cases hh:Qm.qK ss x
    ·obtain ⟨sx,Np⟩:=hh
     refine ⟨_,rfl,_,rfl,sa,_,_,_,rfl,rfl,cE.of h3,cg (yN Np),rfl,_,rfl,?_⟩
     rw [mU]
     exact i0 ⟨ss,_,rfl,h3,kp3,S3.next ⟨sx,Np⟩⟩
    ·have Np:=CV Ec hh
     refine ⟨_,rfl,_,rfl,sa,_,_,_,rfl,rfl,cE.of h3,cg (yN Np),rfl,_,rfl,?_⟩
     rw [mU]
     refine ij ⟨_,rfl,_,rfl,sa,_,_,x,rfl,rfl,h3,sW (by rw [En];exact Ec),?_⟩
     rw [show (sV ss).set x (V.int 0)=sV (ss.set x (some 0)) from IJ ss x (some 0)]
     have SW:=S3.enter hx hh
     have KC:=S3.M9 hx hh
     have Vz:∀b o,H2 b=some o->b≠sa->bG H3 sa (.a6 (sV (ss.set x (some 0)))) b=some o:=λb o e hb=>by
      rw [aL hb]
      exact kp3 b o e hb
     have R4:=R2.keep Vz Nq Um
     refine ⟨_,rfl,_,rfl,_,rfl,me,rs,sa,gs,n,x,ss.set x (some 0),rfl,R4,aj,Nq,Um,hn,hx,KC,SW,λH5 PJ h5 ZT Up VA=> ?_⟩
     refine ⟨PJ,_,rfl,h5,λb o e hb=>VA b o (Vz b o e hb) hb,Qm.JV.Rf S3 ZT λt ht=>Up t (Qm.jN Ec (.inl ht))⟩
   ·rintro σ H3 ⟨ss,v3,rfl,h3,kp3,S3⟩
    rw [aK] at S3
    have jt:bB H H3:=λb o e=>kp3 b o (s2 b o (s1 b o e)) (az e Uo)
    have B3:=B.same jt
    obtain ⟨Vw,Vx,hh3⟩:=B3.hs
    refine ⟨_,rfl,fI hh3 T.a7 T.u3 rfl ⟨l,rfl,⟨_,cE.of B3.a6⟩,λD hD=> ?_⟩⟩
    refine jK (K:=K) (a:=l) (xs:=as.map V.ref) (Pv:=λj H4=>bB H3 H4/\H4 D=some (.a6 ((gs.take j).map λg=>V.bl (decide (ss[g.a]? =ss[g.b]?))))) ⟨aN hD,aj⟩ (λj H4 _ p=>cE.of (p.1 _ _ B3.a6)) ?_ ?_
    ·rintro j y H4 hy ⟨s4,h4⟩
     have hj:j< gs.length:=by
      have:=(ae.mp hy).1
      rw [af,B.len] at this
      exact this
     have B4:=B3.same s4
     obtain ⟨a,dx,ha,hr2,hg⟩:=B4.yF (ab hj)
     rw [hr2] at hy
     have hy:V.ref a=y:=Option.some.inj hy
     subst hy
     obtain ⟨pD,ZU⟩:=hin _ (fm hj)
     obtain ⟨sA,YK⟩:=S3.done _ pD
     obtain ⟨sB,YL⟩:=S3.done _ ZU
     have YM:=s4 _ _ h3
     refine ⟨rfl,GJ ?_⟩
     refine ⟨_,rfl,_,rfl,fI hg T.cq T.g1 (jC _) ⟨sa,_,_,_,rfl,rfl,cE.of YM,cg (yN YK),_,rfl,_,rfl,fI hg T.cq T.g2 (gX _) ⟨sa,_,_,_,rfl,rfl,cE.of YM,cg (yN YL),rfl,_,h4,?_,c6 s4 hD,?_⟩⟩⟩
     ·rw [af,bf]
      exact cv (by lia)
     ·rw [aj,c4 (ab hj),a4]
      have e:decide (V.int (pk (some sA))=V.int (pk (some sB)))=decide (ss[gs[j].a]? =ss[gs[j].b]?):=by
       rw [YK,YL]
       by_cases z:sA=sB
       ·subst z;simp
       ·have z1:¬V.int (pk (some sA))=V.int (pk (some sB)):=λq=>z (by have:=Pk (V.int.inj q);exact Option.some.inj this)
        have z2:¬(some (some sA):Option (Option Nat))=some (some sB):=λq=>z (by simpa using q)
        rw [a8 z1,a8 z2]
      rw [e]
      rfl
    ·rintro H4 ⟨s4,h4⟩
     have el:(as.map V.ref).length=gs.length:=by rw [af];exact B.len
     rw [el,bu] at h4
     obtain ⟨Xf,Xg⟩:=S3.VX hin Wg
     refine ⟨D,gs.map λg=>decide (ss[g.a]? =ss[g.b]?),rfl,cE.of (by rw [cX];exact h4),_,rfl,?_⟩
     refine gr (λe1=> ?_) (λe1=> ?_)
     ·have:Vbqzak.twoSides gs n=false:=by
       rw [ja,cD] at e1
       obtain ⟨g,hg,e⟩:=e1
       exact Xf ⟨g,hg,bw e⟩
      refine ⟨bD _,λp hp=> ?_⟩
      have IG:=jt.trans s4
      refine k _ p (λb o e=> ?_) (IG.free hp) ?_
      ·rw [aL (az (IG _ _ e) hp)]
       exact IG _ _ e
      ·rw [aj]
       unfold u7
       rw [this]
       rfl
     ·obtain ⟨t2,e2⟩:=Xg λg hg e=>by
       rw [ja] at e1
       have:(gs.any λg=>id (decide (ss[g.a]? =ss[g.b]?)))=true:=cD.mpr ⟨g,hg,aW e⟩
       have e1:(gs.any λg=>id (decide (ss[g.a]? =ss[g.b]?)))=false:=e1
       rw [this] at e1
       cases e1
      refine ⟨_,rfl,?_⟩
      refine k H4 sa (jt.trans s4) Uo ?_
      unfold u7
      rw [aA t2,s4 _ _ h3,e2]
      unfold sV nV
      rw [cX]
      rfl
end
end Qz
end
section
namespace Qz
open PySem PySem.Spec PyProof.Rows L2
def bV (bs:List Bool):List V:=bs.map V.bl
theorem JN {bs:List Bool} {t:Nat} {b:Bool} (h:bs[t]? =some b):(bV bs)[t]? =some (V.bl b):=by
 unfold bV
 rw [ay,h]
 rfl
def Bm (gs:List Gm) (n home k:Nat):List Bool:=(List.range n).map λt=>Qm.W gs n k t home
theorem AR {gs:List Gm} {n home k t:Nat} (h:t< n):(Bm gs n home k)[t]? =some (Qm.W gs n k t home):=by
 unfold Bm
 rw [ay,b9 h]
 rfl
theorem HH (gs:List Gm) (n home k:Nat):((List.range n).map λt=>((Qm.uL gs n t).map λy=>Qm.W gs n k y home).any id)=Bm gs n home (k+1):=by
 unfold Bm
 refine e9 λt _=> ?_
 rw [ja]
 unfold Qm.uL
 rw [List.any_filter]
 rfl
section
variable {P:Program} {w:World} {K:PySem.W.Frag} {mg:Str->Option Value} {base:Heap} {G U:Addr}
abbrev jh:Stmt:=iB 43
theorem gY:bt ["met","can_end","longer","row","other"] ["met","can_end"] (aJ jh):=⟨rfl,rfl,rfl,by decide +kernel,rfl,by decide +kernel,by decide +kernel⟩
def RR:Sp:=λvs H Q _=>∃(me:Addr) (rs:List Addr) (ce:Addr) (gs:List Gm) (n home k:Nat),vs=[.ref me,.ref ce]/\dJ H me rs (Qm.uL gs n) n/\H ce=some (.a6 (bV (Bm gs n home k)))/\n<=10/\
 ∀H' p,bB H H'->H p=none->H' p=some (.a6 (bV (Bm gs n home (k+1))))->Q (.ref p) H'
theorem TB (D:Df K mg "one_step_more" jh) (T:Tx K mg G U):dQ P w K mg base 1 "one_step_more" ["met","can_end"] RR:=by
 obtain ⟨f,fd,M,F⟩:=D
 refine ⟨f,fd,M,F.kp,F.cC (λ_ _ _ _ _ _ us hl=>(match us,hl with|[_,_],_=>rfl)),F.ok gY (λvs H Q E h=> ?_) (λcdv A bE s H vs Q E hr h=> ?_)⟩
 ·obtain ⟨me,rs,ce,gs,n,home,k,rfl,_⟩:=h
  rfl
 ·obtain ⟨me,rs,ce,gs,n,home,kk,rfl,R,hce,hn,k⟩:=h
  refine ⟨_,(ai (bx (i:=2) gY.nd rfl (Or.inl rfl) (cf ah)) (ai (d8 aT rfl (fo (K:=K) (pv 0)) (cu (i:=3) gY.nd rfl (Or.inl rfl)) (aq (dS (mS (K:=K) aQ bL bM fe (pv 2) (aa (bT (IH (K:=K)) (by rfl) T.J9 lb (aa (mh rfl gY.nd (iU:=[("other",4)]) (fo (K:=K) (pv 3)) (eC (by show nP ["met","can_end","longer","row","other"] (aJ jh) _ _=true;decide +kernel)) (λ_ _ _ _ _=>(cu (i:=4) gY.nd rfl (Or.inl rfl))) (λ_ _ _ _ _=>by exact kJ) (λ_ _ _ _ _=>by exact (cH (je (K:=K)) (pv 1) (pv 4) (λ_ _=>rfl)))) ah)) ah))))) (aq (aV (pv 2))))),?_⟩
  refine ⟨bD _,λlo hlo=> ?_⟩
  have Uq:me≠lo:=az R.a6 hlo
  have Qh:(rs.map V.ref).length=n:=by rw [af];exact R.len
  refine ⟨_,rfl,me,rfl,⟨_,cE.of (by rw [aL Uq];exact R.a6)⟩,fY (K:=K) (a:=me) (xs:=rs.map V.ref) (λj σ H'=>∃v3:Option V,σ=[some (.ref me),some (.ref ce),some (.ref lo),v3,none]/\bB H H'/\H' lo=some (.a6 (bV ((List.range j).map λt=>((Qm.uL gs n t).map λy=>Qm.W gs n kk y home).any id)))) ⟨none,rfl,aN hlo,aj⟩ (λj σ H' _ ⟨_,_,z,_⟩=>cE.of (z _ _ R.a6)) ?_ ?_⟩
  ·rintro j y σ H1 hy ⟨v3,rfl,s1,h1⟩
   have hj:j< n:=by
    have:=(ae.mp hy).1
    rw [Qh] at this
    exact this
   rw [ay] at hy
   cases ea:rs[j]? with
   |none=>rw [ea] at hy;cases hy
   |some a=>
    rw [ea] at hy
    have hy:V.ref a=y:=Option.some.inj hy
    subst hy
    have kW:=s1 _ _ (R.row j a ea)
    refine ⟨_,rfl,.inl ⟨rfl,_,cE.of h1⟩,_,rfl,a,rfl,⟨_,cE.of kW⟩,λD hD=> ?_⟩
    refine jK (K:=K) (a:=a) (xs:=nV (Qm.uL gs n j)) (Pv:=λi H2=>bB H1 H2/\H2 D=some (.a6 (bV (((Qm.uL gs n j).take i).map λy=>Qm.W gs n kk y home)))) ⟨aN hD,aj⟩ (λi H2 _ p=>cE.of (p.1 _ _ kW)) ?_ ?_
    ·rintro i x H2 hx ⟨s2,h2⟩
     obtain ⟨z,hz,rfl⟩:=nX hx
     have AA:=(Qm.qC.mp (aw hz)).1
     refine ⟨rfl,GJ ?_⟩
     refine ⟨_,rfl,_,rfl,ce,_,_,_,rfl,rfl,cE.of (s2 _ _ (s1 _ _ hce)),cg (JN (AR AA)),_,h2,?_,c6 s2 hD,?_⟩
     ·unfold bV
      rw [af,af,bf]
      have:=Qm.FL gs n j
      exact cv (by lia)
     ·rw [aj,c4 hz,a4]
      unfold bV
      rw [a4]
      rfl
    ·rintro H2 ⟨s2,h2⟩
     rw [cN,bu] at h2
     have Xh:=s2 _ _ h1
     refine ⟨D,_,rfl,cE.of h2,lo,_,_,rfl,rfl,Xh,?_,?_⟩
     ·unfold bV
      rw [af,af,aM]
      exact cv (by lia)
     ·refine ⟨_,rfl,c6 (s1.trans s2) hlo,?_⟩
      rw [aj,cT,a4]
      unfold bV
      rw [a4]
      rfl
  ·rintro σ H1 ⟨v3,rfl,s1,h1⟩
   rw [Qh,HH] at h1
   exact ⟨_,rfl,k H1 lo s1 hlo h1⟩
abbrev lR:Stmt:=iB 44
theorem jx:bt ["met","home","length","rows","team","step"] ["met","home","length"] (aJ lR):=⟨rfl,rfl,rfl,by decide +kernel,rfl,by decide +kernel,by decide +kernel⟩
structure uz (H:Hp) (p:Addr) (qs:List Addr) (gs:List Gm) (n home m:Nat):Prop where
 len:qs.length=m
 a6:H p=some (.a6 (qs.map V.ref))
 row:∀(j:Nat) (a:Addr),qs[j]? =some a->H a=some (.a6 (bV (Bm gs n home j)))
theorem uz.same {H H':Hp} {p:Addr} {qs:List Addr} {gs:List Gm} {n home m:Nat} (R:uz H p qs gs n home m) (s:bB H H'):uz H' p qs gs n home m:=⟨R.len,s _ _ R.a6,λt a h=>s _ _ (R.row t a h)⟩
theorem uz.get {H:Hp} {p:Addr} {qs:List Addr} {gs:List Gm} {n home m:Nat} (R:uz H p qs gs n home m) {t:Nat} (ht:t< m):∃a,qs[t]? =some a/\Dj (qs.map V.ref) (t:Int)=some (V.ref a)/\H a=some (.a6 (bV (Bm gs n home t))):=by
 have h:t< qs.length:=by rw [R.len];exact ht
 exact ⟨qs[t],ab h,cg (by rw [ay,ab h];rfl),R.row t _ (ab h)⟩
def RC:Sp:=λvs H Q _=>∃(me:Addr) (rs:List Addr) (gs:List Gm) (n home m:Nat),vs=[.ref me,.int home,.int m]/\dJ H me rs (Qm.uL gs n) n/\n<=10/\m<=20/\
 ∀H' p qs,bB H H'->H p=none->uz H' p qs gs n home (m+1)->Q (.ref p) H'
theorem Rq (D:Df K mg "walks_home" lR) (T:Tx K mg G U) (mI:dQ P w K mg base 1 "one_step_more" ["met","can_end"] RR):dQ P w K mg base 2 "walks_home" ["met","home","length"] RC:=by
 obtain ⟨f,fd,M,F⟩:=D
 refine ⟨f,fd,M,F.kp,F.cC (λ_ _ _ _ _ _ us hl=>(match us,hl with|[_,_,_],_=>rfl)),F.ok jx (λvs H Q E h=> ?_) (λcdv A bE s H vs Q E hr h=> ?_)⟩
 ·obtain ⟨me,rs,gs,n,home,m,rfl,_⟩:=h
  rfl
 ·obtain ⟨me,rs,gs,n,home,m,rfl,R,hn,hm,k⟩:=h
  refine ⟨_,(ai (bx (i:=3) jx.nd rfl (Or.inl rfl) (cf (aa (mh rfl jx.nd (iU:=[("team",4)]) (d3 rfl T.range (aa (bT (fF (K:=K)) (by rfl) T.len bh (aa (pv 0) ah)) ah)) (eC (by show nP ["met","home","length","rows","team","step"] (aJ lR) _ _=true;decide +kernel)) (λ_ _ _ _ _=>(cu (i:=4) jx.nd rfl (Or.inl rfl))) (λ_ _ _ _ _=>by exact kJ) (λ_ _ _ _ _=>by exact (oH dU (pv 4) (pv 1) (bN _)))) ah))) (ai (d8 aT rfl (d3 rfl T.range (aa (pv 2) ah)) (cu (i:=5) jx.nd rfl (Or.inl rfl)) (aq (dS (mS (K:=K) aQ bL bM fe (pv 3) (aa (bW mI (hr.bY (by decide)) (aa (pv 0) (aa (cH (je (K:=K)) (pv 3) (pv 5) (λ_ _=>rfl)) ah))) ah))))) (aq (aV (pv 3))))),?_⟩
  have Qh:(rs.map V.ref).length=n:=by rw [af];exact R.len
  refine ⟨_,rfl,me,_,rfl,.inl (cE.of R.a6),_,rfl,(by lia),(by rw [Qh];lia),λD hD=> ?_⟩
  refine mf (Pv:=λj H1=>bB H H1/\H1 D=some (.a6 (bV ((List.range j).map λt=>Qm.W gs n 0 t home)))) ⟨aN hD,aj⟩ ?_ ?_
  ·rintro j H1 hj ⟨s1,h1⟩
   rw [aK,Qh] at hj
   refine ⟨rfl,GJ ?_⟩
   refine ⟨_,rfl,_,rfl,rfl,_,h1,?_,c6 s1 hD,?_⟩
   ·unfold bV
    rw [af,af,aM]
    exact cv (by lia)
   ·rw [aj,cT,a4,di,jI]
    unfold bV
    rw [a4]
    rfl
  ·rintro H1 ⟨s1,h1⟩
   rw [aK,Qh] at h1
   have h1:H1 D=some (.a6 (bV (Bm gs n home 0))):=h1
   refine ⟨(by show 1<=sizeLine;decide),λro Ur=> ?_⟩
   have Us:D≠ro:=az h1 Ur
   have Ut:H ro=none:=s1.free Ur
   refine ⟨_,rfl,_,rfl,(by lia),(by lia),?_⟩
   refine fP (Pv:=λj σ H'=>∃(v5:Option V) (qs:List Addr),σ=[some (.ref me),some (.int home),some (.int m),some (.ref ro),none,v5]/\bB H H'/\uz H' ro qs gs n home (j+1)/\(∀a∈qs,a≠ro)) ⟨none,[D],rfl,?_,⟨rfl,aj,λj a ha=> ?_⟩,λa ha=> ?_⟩ ?_ ?_
   ·exact λb o e=>by rw [aL (az (s1 _ _ e) Ur)];exact s1 _ _ e
   ·have hj:j=0:=by
     have:=(ae.mp ha).1
     simpa using this
    subst hj
    have:D=a:=by simpa using ha
    subst this
    rw [aL Us]
    exact h1
   ·have:a=D:=by simpa using ha
    rw [this]
    exact Us
   ·rintro j σ H2 hj ⟨v5,qs,rfl,s2,W2,hq⟩
    rw [aK] at hj
    obtain ⟨a,ha,ZV,kW⟩:=W2.get (show j< j+1 by lia)
    refine ⟨_,rfl,.inl ⟨rfl,_,cE.of W2.a6⟩,_,rfl,_,rfl,_,rfl,xI (cE.of W2.a6) (by rw [di];exact ZV) ⟨me,rs,a,gs,n,home,j,rfl,R.same s2,kW,hn,λH3 p s3 hp h3=> ?_⟩⟩
    have hpr:p≠ro:=aY (az W2.a6 hp)
    refine ⟨ro,_,_,rfl,rfl,s3 _ _ W2.a6,(by rw [af,W2.len];exact cv (by lia)),?_⟩
    refine ⟨_,qs++[p],rfl,λb o e=> ?_,⟨by rw [ao,W2.len];rfl,by rw [aj,a4];rfl,λi b hb=> ?_⟩,λb hb=> ?_⟩
    ·rw [aL (az e Ut)]
     exact s3 _ _ (s2 _ _ e)
    ·by_cases hi:i< qs.length
     ·rw [bP hi] at hb
      rw [aL (hq b (aw hb))]
      exact s3 _ _ (W2.row i b hb)
     ·rw [bJ (by lia)] at hb
      have hi2:i-qs.length=0:=by
       have:=(ae.mp hb).1
       simpa using this
      rw [hi2] at hb
      have:p=b:=by simpa using hb
      subst this
      have hij:i=j+1:=by
       have:=W2.len
       lia
      rw [hij,aL hpr]
      exact h3
    ·rcases aI.mp hb with hb|hb
     ·exact hq b hb
     ·have:b=p:=by simpa using hb
      rw [this]
      exact hpr
   ·rintro σ H2 ⟨v5,qs,rfl,s2,W2,hq⟩
    rw [aK] at W2
    exact ⟨_,rfl,k H2 ro qs s2 Ut W2⟩
abbrev gV:Stmt:=iB 45
theorem fc:bt ["met","home","length","can_end","walk","left","other"] ["met","home","length"] (aJ gV):=⟨rfl,rfl,rfl,by decide +kernel,rfl,by decide +kernel,by decide +kernel⟩
def MS (gs:List Gm) (n home m:Nat):List Nat:=if Qm.W gs n m home home=true then home::Qm.wf gs n home (m-1) home else []
def QH:Sp:=λvs H Q _=>∃(me:Addr) (rs:List Addr) (gs:List Gm) (n home m:Nat),vs=[.ref me,.int home,.int m]/\dJ H me rs (Qm.uL gs n) n/\n<=10/\home< n/\0< m/\m<=20/\
 ∀H' p,bB H H'->H p=none->H' p=some (.a6 (nV (MS gs n home m)))->Q (.ref p) H'
theorem QE (D:Df K mg "first_walk_round" gV) (T:Tx K mg G U) (qS:dQ P w K mg base 2 "walks_home" ["met","home","length"] RC):dQ P w K mg base 3 "first_walk_round" ["met","home","length"] QH:=by
 obtain ⟨f,fd,M,F⟩:=D
 refine ⟨f,fd,M,F.kp,F.cC (λ_ _ _ _ _ _ us hl=>(match us,hl with|[_,_,_],_=>rfl)),F.ok fc (λvs H Q E h=> ?_) (λcdv A bE s H vs Q E hr h=> ?_)⟩
 ·obtain ⟨me,rs,gs,n,home,m,rfl,_⟩:=h
  rfl
 ·obtain ⟨me,rs,gs,n,home,m,rfl,R,hn,hh,hm0,hm,k⟩:=h
  refine ⟨_,(ai (bx (i:=3) fc.nd rfl (Or.inr rfl) (bW qS (hr.bY (by decide)) (aa (pv 0) (aa (pv 1) (aa (pv 2) ah))))) (ai (cP (uv (iP (cH (je (K:=K)) (cH (je (K:=K)) (pv 3) (pv 2) (λ_ _=>rfl)) (pv 1) (λ_ _=>rfl)))) (aq (aV (cf ah))) bF) (ai (bx (i:=4) fc.nd rfl (Or.inl rfl) (cf (aa (pv 1) ah))) (ai (d8 aT rfl (Ax rfl T.range (aa (eY o6 (pv 2) bc) (aa bc (aa (Jc Fj bc) ah)))) (cu (i:=5) fc.nd rfl (Or.inr rfl)) (aq (dS (mS (K:=K) aQ bL bM fe (pv 4) (aa (cH (je (K:=K)) (mh rfl fc.nd (iU:=[("other",6)]) (fo (K:=K) (cH (je (K:=K)) (pv 0) (cH (je (K:=K)) (pv 4) (Jc Fj bc) (λ_ _=>rfl)) (λ_ _=>rfl))) (eC (by show nP ["met","home","length","can_end","walk","left","other"] (aJ gV) _ _=true;decide +kernel)) (λ_ _ _ _ _=>(cu (i:=6) fc.nd rfl (Or.inl rfl))) (λ_ _ _ _ _=>by exact (lT (iP (cH (je (K:=K)) (cH (je (K:=K)) (pv 3) (pv 5) (λ_ _=>rfl)) (pv 6) (λ_ _=>rfl))))) (λ_ _ _ _ _=>by exact (pv 6))) bc (λ_ _=>rfl)) ah))))) (aq (aV (pv 4))))))),?_⟩
  refine ⟨_,rfl,_,rfl,_,rfl,me,rs,gs,n,home,m,rfl,R,hn,hm,λH1 ce qs s1 hce W1=> ?_⟩
  obtain ⟨a1,ha1,Xi,Uu⟩:=W1.get (show m< m+1 by lia)
  refine ⟨_,rfl,_,rfl,xI (cE.of W1.a6) Xi ⟨_,rfl,a1,_,_,_,rfl,rfl,cE.of Uu,cg (JN (AR hh)),_,rfl,?_⟩⟩
  refine gr (λe1=> ?_) (λe1=> ?_)
  ·have e2:Qm.W gs n m home home=false:=by simpa using e1
   refine ⟨bD _,λp hp=> ?_⟩
   refine k _ p (λb o e=> ?_) (s1.free hp) ?_
   ·rw [aL (az (s1 _ _ e) hp)]
    exact s1 _ _ e
   ·rw [aj]
    unfold MS
    rw [e2]
    rfl
  ·have e2:Qm.W gs n m home home=true:=by simpa using e1
   refine ⟨_,rfl,(by show 1<=sizeLine;decide),λwa Nr=> ?_⟩
   have Mw:H wa=none:=s1.free Nr
   refine ⟨_,rfl,_,_,rfl,rfl,_,rfl,_,_,_,_,rfl,Ss.neg (by show -(2 ^ 62)<=(m:Int)-1;lia) (by show (m:Int)-1< 2 ^ 62;lia) (by decide) (by decide),?_⟩
   refine yI (Pv:=λj σ H'=>∃(v5:Option V) (wl:List Nat) (x:Nat),σ=[some (.ref me),some (.int home),some (.int m),some (.ref ce),some (.ref wa),v5,none]/\bB H1 H'/\H' wa=some (.a6 (nV (wl++[x])))/\x< n/\wl.length=j/\(wl++[x])++Qm.wf gs n home (m-1-j) x=home::Qm.wf gs n home (m-1) home/\Qm.W gs n (m-j) x home=true) ⟨none,[],home,rfl,aN Nr,aj,hh,rfl,rfl,e2⟩ ?_ ?_
   ·rintro j σ H2 hj ⟨v5,wl,x,rfl,s2,h2,hx,hwl,hw,hW⟩
    have hj:j< m-1:=by
     have:j< (((m:Int)-1)-0).toNat:=hj
     lia
    obtain ⟨ra,qc,Xj,kW⟩:=((R.same s1).same s2).get hx
    obtain ⟨kk,ZW⟩:∃kk,m-1-j=kk+1:=⟨m-1-j-1,by lia⟩
    have Uv:((m:Int)-1+(j:Nat)* -1)=((kk+1:Nat):Int):=by lia
    have ZX:Qm.W gs n (kk+1+1) x home=true:=by rw [show kk+1+1=m-j by lia];exact hW
    obtain ⟨al,hal,Xk,Uw⟩:=(W1.same s2).get (show kk+1< m+1 by lia)
    refine ⟨_,rfl,.inl ⟨rfl,_,cE.of h2⟩,_,rfl,_,rfl,_,rfl,xI (cE.of h2) (by rw [fB];exact DR _ _) ⟨me,_,_,_,rfl,rfl,cE.of ((R.same s1).same s2).a6,Xj,ra,rfl,⟨_,cE.of kW⟩,λD hD=> ?_⟩⟩
    refine jK (K:=K) (a:=ra) (xs:=nV (Qm.uL gs n x)) (Pv:=λi H3=>bB H2 H3/\H3 D=some (.a6 (nV (((Qm.uL gs n x).take i).filter λz=>Qm.W gs n (kk+1) z home)))) ⟨aN hD,aj⟩ (λi H3 _ p=>cE.of (p.1 _ _ kW)) ?_ ?_
    ·rintro i y H3 hy ⟨s3,h3⟩
     obtain ⟨z,hz,rfl⟩:=nX hy
     have AA:=(Qm.qC.mp (aw hz)).1
     refine ⟨rfl,_,rfl,_,rfl,ce,_,_,_,rfl,rfl,cE.of (s3 _ _ (s2 _ _ W1.a6)),(by rw [Uv];exact Xk),_,rfl,al,_,_,_,rfl,rfl,cE.of (s3 _ _ Uw),cg (JN (AR AA)),_,rfl,?_⟩
     refine gr (λe3=> ?_) (λe3=> ?_)
     ·refine ⟨_,rfl,_,h3,?_,c6 s3 hD,?_⟩
      ·rw [cN]
       refine cv (bg (bQ _ _) ?_)
       rw [bf]
       have:=Qm.FL gs n x
       lia
      ·rw [aj,c4 hz,cj,wG,aS (p:=λz=>Qm.W gs n (kk+1) z home) e3]
       rfl
     ·refine ⟨s3,?_⟩
      rw [c4 hz,cj,aO (p:=λz=>Qm.W gs n (kk+1) z home) (by rw [e3];simp),eE,bR]
      exact h3
    ·rintro H3 ⟨s3,h3⟩
     rw [cN,bu] at h3
     obtain ⟨z0,ZY,K1,ZZ⟩:=Qm.qE.mp ZX
     obtain ⟨z,hz⟩:∃z,(List.range n).find? (λz=>Vbqzak.plays gs x z&&Qm.W gs n (kk+1) z home)=some z:=by
      refine ez.mp ?_
      rw [oz]
      exact ⟨z0,by simpa using ZY,by rw [K1,ZZ];rfl⟩
     obtain ⟨YN,hz2,_⟩:=c5.mp hz
     rw [aR] at YN
     have AA:z< n:=by simpa using hz2
     have Xl:((Qm.uL gs n x).filter λz=>Qm.W gs n (kk+1) z home)[0]? =some z:=by
      unfold Qm.uL
      rw [ud,<-List.head?_eq_getElem?,List.head?_filter,<-hz]
      congr 1
      funext y
      rw [tN]
     have h2':=s3 _ _ h2
     refine ⟨D,_,_,_,rfl,rfl,cE.of h3,cg (j:=0) (xm Xl),wa,_,_,rfl,rfl,h2',?_,?_⟩
     ·rw [cN,ao,hwl]
      exact cv (by simp;lia)
     ·refine ⟨_,wl++[x],z,rfl,c6 (s2.trans s3) Nr,?_,AA,by rw [ao,hwl];rfl,?_,?_⟩
      ·rw [aj,fB (wl++[x]) z]
      ·have WU:Qm.wf gs n home (kk+1) x=z::Qm.wf gs n home kk z:=by
        show (match (List.range n).find? (λz=>Vbqzak.plays gs x z&&Qm.W gs n (kk+1) z home) with
         |none=>[]
         |some z=>z::Qm.wf gs n home kk z)=_
        rw [hz]
       rw [ZW,WU] at hw
       rw [<-hw,show m-1-(j+1)=kk by lia,dN (wl++[x]) [z]]
       rfl
      ·rw [show m-(j+1)=kk+1 by lia]
       exact YN.2
   ·rintro σ H2 ⟨v5,wl,x,rfl,s2,h2,hx,hwl,hw,hW⟩
    have e3:m-1-(((m:Int)-1)-0).toNat=0:=by lia
    have hw:(wl++[x])++Qm.wf gs n home (m-1-(((m:Int)-1)-0).toNat) x=home::Qm.wf gs n home (m-1) home:=hw
    rw [e3] at hw
    have hw:wl++[x]++[]=home::Qm.wf gs n home (m-1) home:=hw
    rw [bR] at hw
    refine ⟨_,rfl,k H2 wa (s1.trans s2) Mw ?_⟩
    unfold MS
    rw [aA e2,<-hw]
    exact h2
abbrev r9:Stmt:=iB 46
theorem l7:bt ["house","met","length","home","walk"] ["house"] (aJ r9):=⟨rfl,rfl,rfl,by decide +kernel,rfl,by decide +kernel,by decide +kernel⟩
def Qu (G U:Addr):Sp:=λvs H Q _=>∃(h l:Addr) (as:List Addr) (n c:Nat) (gs:List Gm),vs=[.ref h]/\fK G U H h l as n c gs/\gs.length<=30/\2<=n/\n<=10/\(∀g∈gs,g.a< n/\g.b< n)/\Qm.Wf gs/\
 ∀(H':Hp) (p:Addr),bB H H'->H p=none->H' p=some (.a6 (nV (Vbqzak.oddRing gs n)))->Q (.ref p) H'
theorem NY {n:Nat} (h:n<=10) (h2:2<=n):Ss 3 ((n:Int)+1) 2 ((n-1) / 2):=by
 refine ⟨by decide,by decide,?_,?_⟩
 ·have:n=2\/n=3\/n=4\/n=5\/n=6\/n=7\/n=8\/n=9\/n=10:=by lia
  rcases this with rfl|rfl|rfl|rfl|rfl|rfl|rfl|rfl|rfl<;>decide +kernel
 ·have:n=2\/n=3\/n=4\/n=5\/n=6\/n=7\/n=8\/n=9\/n=10:=by lia
  rcases this with rfl|rfl|rfl|rfl|rfl|rfl|rfl|rfl|rfl<;>decide +kernel
theorem Q5 (D:Df K mg "odd_ring" r9) (T:Tx K mg G U) (ka:dQ P w K mg base 2 "opponents" ["house"] (OZ G U)) (jY:dQ P w K mg base 3 "first_walk_round" ["met","home","length"] QH):dQ P w K mg base 4 "odd_ring" ["house"] (Qu G U):=by
 obtain ⟨f,fd,M,F⟩:=D
 refine ⟨f,fd,M,F.kp,F.cC (λ_ _ _ _ _ _ us hl=>(match us,hl with|[_],_=>rfl)),F.ok l7 (λvs H Q E h=> ?_) (λcdv A bE s H vs Q E hr h=> ?_)⟩
 ·obtain ⟨h,l,as,n,c,gs,rfl,_⟩:=h
  rfl
 ·obtain ⟨h,l,as,n,c,gs,rfl,B,hlen,hn2,hn,hin,Wg,k⟩:=h
  refine ⟨_,(ai (bx (i:=1) l7.nd rfl (Or.inl rfl) (bW ka (hr.bY (by decide)) (aa (pv 0) ah))) (ai (d8 aT rfl (Ax rfl T.range (aa bc (aa (eY lA (cw (K:=K) (pv 0)) bc) (aa bc ah)))) (cu (i:=2) l7.nd rfl (Or.inl rfl)) (aq (d8 aT rfl (d3 rfl T.range (aa (cw (K:=K) (pv 0)) ah)) (cu (i:=3) l7.nd rfl (Or.inl rfl)) (ai (bx (i:=4) l7.nd rfl (Or.inl rfl) (bW jY (hr.bY (by decide)) (aa (pv 1) (aa (pv 3) (aa (pv 2) ah))))) (aq (cP (yy (K:=K) (pv 4)) (aq (aV (pv 4))) bF)))))) (aq (aV (cf ah))))),?_⟩
  refine ⟨_,rfl,h,l,as,n,c,gs,rfl,B,hlen,hn,hin,λH1 me rs s1 R1 hme Ul=> ?_⟩
  have B1:=B.same s1
  obtain ⟨Ni,Pz,hh1⟩:=B1.hs
  refine ⟨_,rfl,fI hh1 T.a7 T.u1 rfl ⟨_,_,rfl,rfl,_,_,_,_,rfl,NY hn hn2,?_⟩⟩
  refine yI (Pv:=λi σ H'=>∃v2 v3 v4:Option V,σ=[some (.ref h),some (.ref me),v2,v3,v4]/\bB H1 H'/\∀i',i'< i->∀x,x< n->Qm.W gs n (3+2*i') x x=false) ⟨none,none,none,rfl,bB.refl _,λi' hi=>absurd hi (cF _)⟩ ?_ ?_
  ·rintro i σ H2 hi ⟨v2,v3,v4,rfl,s2,hno⟩
   have hi:i< (n-1) / 2:=hi
   have B2:=B1.same s2
   obtain ⟨GU,dd2,BY⟩:=B2.hs
   refine ⟨_,rfl,fI BY T.a7 T.u1 rfl ⟨_,rfl,(by lia),(by lia),?_⟩⟩
   refine fP (Pv:=λx σ H'=>∃v3 v4:Option V,σ=[some (.ref h),some (.ref me),some (.int ((3:Int)+(i:Nat)*2)),v3,v4]/\bB H1 H'/\∀y,y< x->Qm.W gs n (3+2*i) y y=false) ⟨_,_,rfl,s2,λy hy=>absurd hy (cF _)⟩ ?_ ?_
   ·rintro x σ H3 hx ⟨w3,w4,rfl,s3,KG⟩
    rw [aK] at hx
    have Ux:((3:Int)+(i:Nat)*2)=((3+2*i:Nat):Int):=by lia
    refine ⟨_,rfl,_,rfl,_,rfl,me,rs,gs,n,x,3+2*i,(by rw [Ux,di];rfl),R1.same s3,hn,hx,by lia,by lia,λH4 p s4 hp h4=> ?_⟩
    refine ⟨_,rfl,!(nV (MS gs n x (3+2*i))).isEmpty,.inl ⟨_,cE.of h4,rfl⟩,?_⟩
    by_cases hW:Qm.W gs n (3+2*i) x x=true
    ·have e4:MS gs n x (3+2*i)=x::Qm.wf gs n x (2+2*i) x:=by
      unfold MS
      rw [aA hW,show 3+2*i-1=2+2*i by lia]
     have Uy:=Qm.Fm Wg (i:=i) (home:=x) (by lia) hno hx KG hW
     rw [e4] at h4 ⊢
     refine ij ⟨_,rfl,?_⟩
     refine k H4 p (s1.trans (s3.trans s4)) (s1.free (s3.free hp)) ?_
     rw [Uy]
     exact h4
    ·have hW:Qm.W gs n (3+2*i) x x=false:=by simpa using hW
     have e4:MS gs n x (3+2*i)=[]:=by
      unfold MS
      rw [hW]
      rfl
     rw [e4]
     refine i0 ⟨_,_,rfl,s3.trans s4,λy hy=> ?_⟩
     by_cases hyx:y=x
     ·rw [hyx];exact hW
     ·exact KG y (by lia)
   ·rintro σ H3 ⟨w3,w4,rfl,s3,KG⟩
    rw [aK] at KG
    refine ⟨_,_,_,rfl,s3,λi' hi' x hx=> ?_⟩
    by_cases e:i'=i
    ·rw [e];exact KG x hx
    ·exact hno i' (by lia) x hx
  ·rintro σ H2 ⟨v2,v3,v4,rfl,s2,hno⟩
   refine ⟨bD _,λp hp=> ?_⟩
   have s12:=s1.trans s2
   refine k _ p (λb o e=> ?_) (s12.free hp) ?_
   ·rw [aL (az (s12 _ _ e) hp)]
    exact s12 _ _ e
   ·rw [aj,Qm.G0 Wg hn λi hi x hx=>hno i (by lia) x hx]
    rfl
end
end Qz
end
section
namespace Qm
open Vbqzak
structure Ok (s:State):Prop where
 n2:2<=s.n
 zo:s.n<=10
 c1:1<=s.c
 JQ:s.c<=12
 len:s.games.length<=30
 vN:∀g∈s.games,g.a< s.n/\g.b< s.n
 wf:Wf s.games
 fH:eT s.games
 pk:∀(k q:Nat),packetOf s.games k=some q->q< s.c
theorem Ok.fresh {n c:Nat} (h1:2<=n) (h2:n<=10) (h3:1<=c) (h4:c<=12) (b:List (Nat×Nat)):Ok ⟨n,c,[],b⟩ where
 n2:=h1
 zo:=h2
 c1:=h3
 JQ:=h4
 len:=bD _
 vN:=λg hg=>(by cases hg)
 wf:=λg hg=>(by cases hg)
 fH:=EV
 pk:=λk q h=>absurd (dI h) (cF _)
theorem Ok.start:Ok Vbqzak.start:=Ok.fresh (by decide) (by decide) (by decide) (by decide) []
theorem Ok.games {s:State} (O:Ok s) {gs:List Game} (e:pairsOf gs=pairsOf s.games) (P:eT gs) (hp:∀(k q:Nat),packetOf gs k=some q->q< s.c):Ok {s with games:=gs} where
 n2:=O.n2
 zo:=O.zo
 c1:=O.c1
 JQ:=O.JQ
 len:=by
  have:=cS List.length e
  rw [fJ,fJ] at this
  show gs.length<=30
  rw [this]
  exact O.len
 vN:=λg hg=>by
  have:=my hg
  rw [e] at this
  obtain ⟨y,hy,e2⟩:=bC.mp this
  have h1:y.a=g.a:=cS Prod.fst e2
  have h2:y.b=g.b:=cS Prod.snd e2
  rw [<-h1,<-h2]
  exact O.vN y hy
 wf:=Du e O.wf
 fH:=P
 pk:=hp
theorem Ok.game {s:State} (O:Ok s) {a b:Nat} (ha:a< s.n) (hb:b< s.n) (hab:a≠b) (hl:s.games.length< 30):Ok {s with games:=s.games++[⟨a,b,none⟩]} where
 n2:=O.n2
 zo:=O.zo
 c1:=O.c1
 JQ:=O.JQ
 len:=by
  show (s.games++[_]).length<=30
  rw [ao]
  simp
  lia
 vN:=λg hg=>by
  rcases aI.mp hg with hg|hg
  ·exact O.vN g hg
  ·have:g=⟨a,b,none⟩:=by simpa using hg
   subst this
   exact ⟨ha,hb⟩
 wf:=λg hg=>by
  rcases aI.mp hg with hg|hg
  ·exact O.wf g hg
  ·have:g=⟨a,b,none⟩:=by simpa using hg
   subst this
   exact hab
 fH:=λi j x y q hij hx hy Qc YO=>by
  have key:∀(k:Nat) (z:Game),(s.games++[⟨a,b,none⟩])[k]? =some z->z.p=some q->s.games[k]? =some z:=λk z hz Uz=>by
   by_cases hk:k< s.games.length
   ·rw [bP hk] at hz
    exact hz
   ·rw [bJ (by lia)] at hz
    have hm:=aw hz
    have:z=⟨a,b,none⟩:=by simpa using hm
    subst this
    cases Uz
  exact O.fH i j x y q hij (key i x hx Qc) (key j y hy YO) Qc YO
 pk:=λk q h=>by
  have hk:=dI h
  by_cases hk2:k< s.games.length
  ·refine O.pk k q ?_
   unfold packetOf at h ⊢
   rw [bP hk2] at h
   exact h
  ·unfold packetOf at h
   rw [bJ (by lia)] at h
   cases e:([⟨a,b,none⟩]:List Game)[k-s.games.length]? with
   |none=>rw [e] at h;cases h
   |some z=>
    rw [e] at h
    have hm:=aw e
    have:z=⟨a,b,none⟩:=by simpa using hm
    subst this
    cases h
theorem Ok.give {s:State} (O:Ok s) {i q:Nat} (hq:q< s.c) (hcl:clash s.games i q=false) {g:Game} (hg:s.games[i]? =some g):Ok {s with games:=withPacket s.games i (some q)}:=
 O.games (kN _ _ _) (oJ O.fH hcl) λk r h=>by
  rw [oW hg] at h
  split at h
  ·rw [<-Option.some.inj h];exact hq
  ·exact O.pk k r h
theorem Ok.take {s:State} (O:Ok s) {i:Nat} {g:Game} (hg:s.games[i]? =some g):Ok {s with games:=withPacket s.games i none}:=
 O.games (kN _ _ _) (wb O.fH i) λk r h=>by
  rw [oW hg] at h
  split at h
  ·cases h
  ·exact O.pk k r h
theorem Ok.turn {s:State} (O:Ok s) {i p q:Nat} (h:packetOf s.games i=some q) (ua:p≠q) (hp:p< s.c):Ok {s with games:=exchanged s.games i p}:=
 O.games (iS _ _ _) (ly h ua O.fH) λk r hr=>by
  rw [eK h] at hr
  split at hr
  ·split at hr
   ·rw [<-Option.some.inj hr];exact O.pk i q h
   ·rw [<-Option.some.inj hr];exact hp
  ·exact O.pk k r hr
theorem FG {s:State} (O:Ok s):∀j,∃gs,Iz s.c s.games j gs
 |0=>⟨_,Iz.start O.fH O.pk⟩
 |j+1=>by
  obtain ⟨gs,R⟩:=FG O j
  cases e:(hE s.games)[j]? with
  |some x=>exact ⟨_,(R.step e).2⟩
  |none=>
   have h1:(hE s.games).length<=j:=dj.mp e
   have h2:(hE s.games).take (j+1)=(hE s.games).take j:=by
    rw [ig h1,ig (by lia)]
   exact ⟨gs,by rw [h2];exact R.eq,R.j7,R.fH,by rw [h2];exact R.IZ,R.pk⟩
theorem Ok.greedy {s:State} (O:Ok s):Ok {s with games:=Vbqzak.greedy s.games s.c}:=by
 obtain ⟨gs,R⟩:=FG O (hE s.games).length
 have e:=R.stop
 subst e
 exact O.games R.j7 R.fH R.pk
theorem CY {s:State} (O:Ok s) (ht:twoSides s.games s.n=true) (hd:∀x∈s.games,degree s.games x.a<=s.c/\degree s.games x.b<=s.c):∀j,j<=s.games.length->A7 s.c s.games j ((List.range j).foldl (placed s.c) (s.games.map λg=>{g with p:=none}))
 |0,_=>A7.start s.c s.games
 |j+1,hj=>by
  have A:=CY O ht hd j (by lia)
  rw [An]
  have hl:j< ((List.range j).foldl (placed s.c) (s.games.map λg=>{g with p:=none})).length:=by
   have:=cS List.length A.j7
   rw [fJ,fJ] at this
   lia
  exact A.step (side:=λt=>sideOf s.games s.n t==0) (λx hx=>Au ht x hx) hd (ab hl)
theorem Ok.anew {s:State} (O:Ok s) (ht:twoSides s.games s.n=true) (hd:∀x∈s.games,degree s.games x.a<=s.c/\degree s.games x.b<=s.c):Ok {s with games:=Vbqzak.anew s.games s.c}:=by
 have A:=CY O ht hd s.games.length (aF _)
 refine O.games A.j7 A.fH λk q h=> ?_
 have hk:=dI h
 obtain ⟨r,hr,e⟩:=A.done k _ (ab hk) (by
  have:=cS List.length A.j7
  rw [fJ,fJ] at this
  have hk:k< (Vbqzak.anew s.games s.c).length:=hk
  show k< s.games.length
  rw [<-this]
  exact hk)
 rw [ck (ab hk)] at h
 have h2:some r=some q:=e.symm.trans h
 rw [<-Option.some.inj h2]
 exact hr
theorem FV {c:Nat} {g0:List Game} (hc:0< c):∀(m t:Nat) (gs:List Game),FO c g0 t gs->1000<=m+t->∃t' Fv,FO c g0 t' Fv/\uses Fv (mostUsed Fv c)<=uses Fv (leastUsed Fv c)+1
 |0,t,gs,E,h=>by
  have:=E.Iw
  lia
 |m+1,t,gs,E,h=>by
  by_cases hs:uses gs (mostUsed gs c)<=uses gs (leastUsed gs c)+1
  ·exact ⟨t,gs,E,hs⟩
  ·obtain ⟨g,_,_,E'⟩:=E.next hc hs
   exact FV hc m (t+1) _ E' (by lia)
theorem Ok.Ye {s:State} (O:Ok s):FO s.c s.games 0 s.games:=FO.start O.wf O.fH O.len O.pk
theorem Ok.even {s:State} (O:Ok s):Ok {s with games:=(Vbqzak.even s.c 1000 s.games).1}:=by
 obtain ⟨t,gs,E,h⟩:=FV O.c1 1000 0 s.games O.Ye (by lia)
 obtain ⟨e,_⟩:=E.stop h
 rw [e]
 exact O.games E.j7 E.fH E.pk
end Qm
end
section
namespace Qz
open PySem PySem.Spec PyProof.Rows L2
abbrev l9:=Vbqzak.State
structure Eb (H H':Hp) (h l:Addr) (as:List Addr) (l':Addr) (as':List Addr):Prop where
 keep:∀b o,H b=some o->b≠l->b∉as->H' b=some o
 IP:l'=l\/H l'=none
 Jw:∀a∈as',a∈as\/H a=none
theorem Eb.same {H H':Hp} {h l:Addr} {as:List Addr} (s:bB H H'):Eb H H' h l as l as:=⟨λb o e _ _=>s b o e,.inl rfl,λa ha=> .inl ha⟩
theorem Eb.kp {H H':Hp} {h l:Addr} {as:List Addr} (s:Kp as H H'):Eb H H' h l as l as:=⟨λb o e _ n=>s b o e n,.inl rfl,λa ha=> .inl ha⟩
def wK (G U h l:Addr) (as:List Addr) (H:Hp) (r:l9×List Int) (Q:VK):Prop:=∀(H':Hp) (p l':Addr) (as':List Addr),fK G U H' h l' as' r.1.n r.1.c r.1.games->Eb H H' h l as l' as'->H p=none->H' p=some (.a6 (r.2.map V.int))->Q (.ref p) H'
theorem wK.ir {G U h l:Addr} {as:List Addr} {H H1:Hp} {s:l9} {wI:List Int} {Q:VK} (k:wK G U h l as H (s,wI) Q) (B:fK G U H h l as s.n s.c s.games) (s1:bB H H1) {p:Addr} (hp:H1 p=none):Q (.ref p) (bG H1 p (.a6 (wI.map V.int))):=by
 have s2:bB H (bG H1 p (.a6 (wI.map V.int))):=λb o e=>by
  rw [aL (az (s1 _ _ e) hp)]
  exact s1 _ _ e
 exact k _ p l as (B.same s2) (Eb.same s2) (s1.free hp) aj
def k2 (x y:Nat):List iq:=[.inl (x:Int),.inl (y:Int)]
def VZ (kvs:List (List iq×V)) (bs:List (Nat×Nat)):Prop:=∀x y:Nat,(k7 kvs (k2 x y)).getD (.bl false)= .bl (bs.contains (x,y))
structure i4 (U:Addr) (H:Hp) (h d:Addr) (bs:List (Nat×Nat)) (m:Nat):Prop where
 hs:∃dh n c l,H h=some (.ke U dh (hf n c l d))
 ex:∃kvs,H d=some (.dT kvs)/\kvs.length<=m/\VZ kvs bs
theorem i4.same {U:Addr} {H H':Hp} {h d:Addr} {bs:List (Nat×Nat)} {m:Nat} (Z:i4 U H h d bs m) (s:bB H H'):i4 U H' h d bs m:=by
 obtain ⟨⟨dh,n,c,l,h1⟩,kvs,h2,h3⟩:=Z
 exact ⟨⟨dh,n,c,l,s _ _ h1⟩,kvs,s _ _ h2,h3⟩
theorem i4.le {U:Addr} {H:Hp} {h d:Addr} {bs:List (Nat×Nat)} {m m':Nat} (Z:i4 U H h d bs m) (hm:m<=m'):i4 U H h d bs m':=by
 obtain ⟨h1,kvs,h2,h3,h4⟩:=Z
 exact ⟨h1,kvs,h2,bg h3 hm,h4⟩
structure VW (H H':Hp) (h l d:Addr) (as:List Addr) (l' d':Addr) (as':List Addr):Prop where
 keep:∀b o,H b=some o->b≠h->b≠l->b≠d->b∉as->H' b=some o
 IP:l'=l\/H l'=none
 Q4:d'=d\/H d'=none
 Jw:∀a∈as',a∈as\/H a=none
def J2 (G U h l d:Addr) (as:List Addr) (m:Nat) (H:Hp) (r:l9×List Int) (Q:VK):Prop:=∀(H':Hp) (p l' d':Addr) (as':List Addr),fK G U H' h l' as' r.1.n r.1.c r.1.games->i4 U H' h d' r.1.barred m->VW H H' h l d as l' d' as'->H p=none->H' p=some (.a6 (r.2.map V.int))->Q (.ref p) H'
theorem J2.wI {G U h l d:Addr} {as:List Addr} {m m0:Nat} {H:Hp} {r:l9×List Int} {Q:VK} {s:l9} (k:J2 G U h l d as m H r Q) (B:fK G U H h l as s.n s.c s.games) (Z:i4 U H h d s.barred m0) (hm:m0<=m) (e:r.1.barred=s.barred):wK G U h l as H r Q:=λH' p l' as' hA hC hp Xm=>by
 obtain ⟨⟨dh,n,c,l0,h1⟩,kvs,h2,h3,h4⟩:=Z
 have Xn:h≠l:=λq=>by rw [q,B.a6] at h1;cases h1
 have hdl:d≠l:=λq=>by rw [q,B.a6] at h2;cases h2
 have Z0:h∉as:=B.M7
 have Ng:d∉as:=B.HX h2 λC dx g q=>by cases q
 exact k H' p l' d as' hA ⟨⟨dh,n,c,l0,hC.keep _ _ h1 Xn Z0⟩,kvs,hC.keep _ _ h2 hdl Ng,bg h3 hm,by rw [e];exact h4⟩ ⟨λb o q _ n2 _ n3=>hC.keep b o q n2 n3,hC.IP,.inl rfl,hC.Jw⟩ hp Xm
theorem Oh {as:List Addr} {H H1:Hp} {p:Addr} {o:HO} (k:Kp as H H1) (hp:H1 p=none):Kp as H (bG H1 p o):=λb u e n=>by
 rw [aL (az (k _ _ e n) hp)]
 exact k _ _ e n
theorem fK.yA {G U:Addr} {H:Hp} {h l:Addr} {as:List Addr} {n c:Nat} {gs:List Gm} (A:fK G U H h l as n c gs) {p:Addr} (hp:H p=none):p∉as:=λhm=>by
 obtain ⟨j,hj⟩:=a9.mp hm
 have hl:j< gs.length:=by rw [<-A.len];exact (ae.mp hj).1
 obtain ⟨dx,h1⟩:=A.vO j p gs[j] hj (ab hl)
 rw [hp] at h1
 cases h1
theorem wK.sX {G U h l:Addr} {as:List Addr} {H H1:Hp} {s:l9} {gs:List Gm} {wI:List Int} {Q:VK} (k:wK G U h l as H ({s with games:=gs},wI) Q) (B0:fK G U H h l as s.n s.c s.games) (B:fK G U H1 h l as s.n s.c gs) (kp:Kp as H H1) {p:Addr} (hp:H1 p=none):Q (.ref p) (bG H1 p (.a6 (wI.map V.int))):=by
 have K1:H p=none:=by
  cases e:H p with
  |none=>rfl
  |some o=>
   have:=kp p o e (B.yA hp)
   rw [hp] at this
   cases this
 exact k _ p l as (B.same (aN hp)) (Eb.kp (Oh kp hp)) K1 aj
section
variable {P:Program} {w:World} {K:PySem.W.Frag} {mg:Str->Option Value} {base:Heap} {G U:Addr}
abbrev uj:Stmt:=iB 27
theorem Em:bt ["numbers"] ["numbers"] (aJ uj):=⟨rfl,rfl,rfl,by decide +kernel,rfl,by decide +kernel,by decide +kernel⟩
def HJ:Sp:=λvs H Q _=>∃(a:Addr) (xs:List V),vs=[.ref a]/\H a=some (.a6 xs)/\xs.length<=900/\
 ∀H' p,bB H H'->H p=none->H' p=some (.a6 (V.int xs.length::xs))->Q (.ref p) H'
theorem Si (D:Df K mg "as_list" uj) (T:Tx K mg G U):dQ P w K mg base 1 "as_list" ["numbers"] HJ:=by
 obtain ⟨f,fd,M,F⟩:=D
 refine ⟨f,fd,M,F.kp,F.cC (λ_ _ _ _ _ _ us hl=>(match us,hl with|[_],_=>rfl)),F.ok Em (λvs H Q E h=> ?_) (λcdv A bE s H vs Q E hr h=> ?_)⟩
 ·obtain ⟨a,xs,rfl,_⟩:=h
  rfl
 ·obtain ⟨a,xs,rfl,ha,hl,k⟩:=h
  refine ⟨_,(aq (aV (eY sr (cf (aa (bT (fF (K:=K)) (by rfl) T.len bh (aa (pv 0) ah)) ah)) (pv 0)))),?_⟩
  refine ⟨_,rfl,a,_,rfl,.inl (cE.of ha),(by show 1<=sizeLine;decide),λp hp=> ?_⟩
  have UA:a≠p:=az ha hp
  refine ⟨_,rfl,p,a,_,_,rfl,rfl,aj,(by rw [aL UA];exact ha),(by show 1+xs.length<=sizeLine;exact xt (by lia)),λq hq=> ?_⟩
  have s1:bB H (bG H p (.a6 [V.int (xs.length:Nat)])):=aN hp
  refine k _ q (λb o e=> ?_) (s1.free hq) aj
  rw [aL (az (s1 _ _ e) hq)]
  exact s1 _ _ e
abbrev ug:Stmt:=iB 28
theorem uq:bt ["told","row"] ["told"] (aJ ug):=⟨rfl,rfl,rfl,by decide +kernel,rfl,by decide +kernel,by decide +kernel⟩
def lk (tr:List (Int×Int×Int)):Int:=if (tr.any λx=>decide (x.1< 0)||decide (x.2.1<=x.1))=true then -1 else if (tr.any λx=>decide (x.2.2<=x.1))=true then -4 else 0
def NB:Sp:=λvs H Q _=>∃(a:Addr) (ts:List Addr) (tr:List (Int×Int×Int)),vs=[.ref a]/\H a=some (.a6 (ts.map V.ref))/\ts.length=tr.length/\
 (∀(j:Nat) (t:Addr) (x:Int×Int×Int),ts[j]? =some t->tr[j]? =some x->H t=some (.dC [.int x.1,.int x.2.1,.int x.2.2]))/\Q (.int (lk tr)) H
theorem Je {α:Type} {tr:List α} {p:α->Bool} (h:∀(j:Nat) (x:α),tr[j]? =some x->p x=false):tr.any p=false:=by
 rw [kg]
 intro x hx
 obtain ⟨j,hj⟩:=a9.mp hx
 rw [h j x hj]
 simp
theorem IX {α:Type} {tr:List α} {p:α->Bool} {j:Nat} {x:α} (h:tr[j]? =some x) (hp:p x=true):tr.any p=true:=cD.mpr ⟨x,aw h,hp⟩
theorem Rc (D:Df K mg "look_up" ug) (T:Tx K mg G U):dQ P w K mg base 1 "look_up" ["told"] NB:=by
 obtain ⟨f,fd,M,F⟩:=D
 refine ⟨f,fd,M,F.kp,F.cC (λ_ _ _ _ _ _ us hl=>(match us,hl with|[_],_=>rfl)),F.ok uq (λvs H Q E h=> ?_) (λcdv A bE s H vs Q E hr h=> ?_)⟩
 ·obtain ⟨a,ts,tr,rfl,_⟩:=h
  rfl
 ·obtain ⟨a,ts,tr,rfl,ha,hl,ht,k⟩:=h
  refine ⟨_,(ai (d8 aT rfl (fo (K:=K) (pv 0)) (cu (i:=1) uq.nd rfl (Or.inl rfl)) (aq (cP (PW.pt (tY (bo rb (cH (Kb (K:=K)) (pv 1) bc (λ_ _=>rfl)) bc (bN _)) (wo (bo JW (cH (Kb (K:=K)) (pv 1) bc (λ_ _=>rfl)) (cH (Kb (K:=K)) (pv 1) bc (λ_ _=>rfl)) (bN _))))) (aq (aV (dr T.nY))) bF))) (ai (d8 aT rfl (fo (K:=K) (pv 0)) (cu (i:=1) uq.nd rfl (Or.inl rfl)) (aq (cP (bo JW (cH (Kb (K:=K)) (pv 1) bc (λ_ _=>rfl)) (cH (Kb (K:=K)) (pv 1) bc (λ_ _=>rfl)) (bN _)) (aq (aV (dr T.C9))) bF))) (aq (aV (dr T.mE))))),?_⟩
  have get:∀(j:Nat) (y:V),(ts.map V.ref)[j]? =some y->∃t x,tr[j]? =some x/\y=V.ref t/\H t=some (.dC [.int x.1,.int x.2.1,.int x.2.2]):=λj y hy=>by
   rw [ay] at hy
   cases e:ts[j]? with
   |none=>rw [e] at hy;cases hy
   |some t=>
    rw [e] at hy
    have hj:j< tr.length:=by rw [<-hl];exact (ae.mp e).1
    exact ⟨t,tr[j],ab hj,(Option.some.inj hy).symm,ht j t _ e (ab hj)⟩
  have len:(ts.map V.ref).length=tr.length:=by rw [af];exact hl
  refine ⟨_,rfl,a,rfl,⟨_,cE.of ha⟩,fY (K:=K) (a:=a) (xs:=ts.map V.ref) (λj σ H'=>H'=H/\(∃v1:Option V,σ=[some (.ref a),v1])/\∀(i:Nat) (x:Int×Int×Int),i< j->tr[i]? =some x->(decide (x.1< 0)||decide (x.2.1<=x.1))=false) ⟨rfl,⟨none,rfl⟩,λi x hi=>absurd hi (cF _)⟩ (λj σ H' _ ⟨z,_⟩=>by rw [z];exact cE.of ha) ?_ ?_⟩
  ·rintro j y σ H' hy ⟨rfl,⟨v1,rfl⟩,hn⟩
   obtain ⟨t,x,hx,rfl,hT⟩:=get j y hy
   have bad:(decide (x.1< 0)||decide (x.2.1<=x.1))=true->Q (.int (-1)) H':=λe=>by
    unfold lk at k
    rw [aA (IX (p:=λx:Int×Int×Int=>decide (x.1< 0)||decide (x.2.1<=x.1)) hx e)] at k
    exact k
   refine ⟨_,rfl,t,_,_,_,rfl,rfl,kY.of hT,cg (j:=0) rfl,_,_,rfl,rfl,_,rfl,?_⟩
   refine l4 (λe1=> ?_) (λe1=> ?_)
   ·exact bad (by rw [e1];rfl)
   ·refine ⟨_,rfl,t,_,_,_,rfl,rfl,kY.of hT,cg (j:=0) rfl,_,rfl,t,_,_,_,rfl,rfl,kY.of hT,cg (j:=1) rfl,_,_,rfl,rfl,_,rfl,?_⟩
    refine l4 (λe2=> ?_) (λe2=> ?_)
    ·exact bad (by rw [e2,Bool.or_true])
    ·refine ⟨rfl,⟨_,rfl⟩,λi z hi hz=> ?_⟩
     by_cases hij:i=j
     ·subst hij
      rw [hx] at hz
      rw [<-Option.some.inj hz,dO.mpr e1,dO.mpr e2]
      rfl
     ·exact hn i z (by lia) hz
  ·rintro σ H' ⟨rfl,⟨v1,rfl⟩,hn⟩
   rw [len] at hn
   have Z1:(tr.any λx=>decide (x.1< 0)||decide (x.2.1<=x.1))=false:=Je λj x hx=>hn j x (ae.mp hx).1 hx
   unfold lk at k
   rw [Z1,au (by simp)] at k
   refine ⟨_,rfl,a,rfl,⟨_,cE.of ha⟩,fY (K:=K) (a:=a) (xs:=ts.map V.ref) (λj σ VE=>VE=H'/\(∃v1:Option V,σ=[some (.ref a),v1])/\∀(i:Nat) (x:Int×Int×Int),i< j->tr[i]? =some x->(decide (x.2.2<=x.1))=false) ⟨rfl,⟨v1,rfl⟩,λi x hi=>absurd hi (cF _)⟩ (λj σ VE _ ⟨z,_⟩=>by rw [z];exact cE.of ha) ?_ ?_⟩
   ·rintro j y σ VE hy ⟨rfl,⟨w1,rfl⟩,hn2⟩
    obtain ⟨t,x,hx,rfl,hT⟩:=get j y hy
    refine ⟨_,rfl,t,_,_,_,rfl,rfl,kY.of hT,cg (j:=0) rfl,_,rfl,t,_,_,_,rfl,rfl,kY.of hT,cg (j:=2) rfl,_,_,rfl,rfl,_,rfl,?_⟩
    refine l4 (λe2=> ?_) (λe2=> ?_)
    ·rw [aA (IX (p:=λx:Int×Int×Int=>decide (x.2.2<=x.1)) hx e2)] at k
     exact k
    ·refine ⟨rfl,⟨_,rfl⟩,λi z hi hz=> ?_⟩
     by_cases hij:i=j
     ·subst hij
      rw [hx] at hz
      rw [<-Option.some.inj hz]
      exact dO.mpr e2
     ·exact hn2 i z (by lia) hz
   ·rintro σ VE ⟨rfl,⟨w1,rfl⟩,hn2⟩
    rw [len] at hn2
    have Z2:(tr.any λx=>decide (x.2.2<=x.1))=false:=Je λj x hx=>hn2 j x (ae.mp hx).1 hx
    rw [Z2,au (by simp)] at k
    exact k
def yz (G U:Addr) (m:Int) (f:Nat->Nat->List Gm->Nat):Sp:=λvs H Q _=>∃(h l:Addr) (as:List Addr) (n c:Nat) (gs:List Gm) (x:Int),vs=[.ref h,.int x]/\fK G U H h l as n c gs/\∀p,H p=none->Q (.ref p) (bG H p (.dC [.int x,.int m,.int (f n c gs)]))
abbrev sO:Stmt:=iB 29
theorem Dv:bt ["house","team"] ["house","team"] (aJ sO):=⟨rfl,rfl,rfl,by decide +kernel,rfl,by decide +kernel,by decide +kernel⟩
theorem Ti (D:Df K mg "team_row" sO) (T:Tx K mg G U):dQ P w K mg base 1 "team_row" ["house","team"] (yz G U 10 λn _ _=>n):=by
 obtain ⟨f,fd,M,F⟩:=D
 refine ⟨f,fd,M,F.kp,F.cC (λ_ _ _ _ _ _ us hl=>(match us,hl with|[_,_],_=>rfl)),F.ok Dv (λvs H Q E h=> ?_) (λcdv A bE s H vs Q E hr h=> ?_)⟩
 ·obtain ⟨h,l,as,n,c,gs,x,rfl,_⟩:=h
  rfl
 ·obtain ⟨h,l,as,n,c,gs,x,rfl,B,k⟩:=h
  obtain ⟨dh,dd,hh⟩:=B.hs
  refine ⟨_,(aq (aV (kM (aa (pv 1) (aa (dr T.vb) (aa (cw (K:=K) (pv 0)) ah)))))),?_⟩
  exact ⟨_,rfl,_,rfl,fI hh T.a7 T.u1 rfl ⟨(by show 3<=sizeLine;decide),k⟩⟩
abbrev o3:Stmt:=iB 31
theorem zA:bt ["house","packet"] ["house","packet"] (aJ o3):=⟨rfl,rfl,rfl,by decide +kernel,rfl,by decide +kernel,by decide +kernel⟩
theorem SY (D:Df K mg "packet_row" o3) (T:Tx K mg G U):dQ P w K mg base 1 "packet_row" ["house","packet"] (yz G U 12 λ_ c _=>c):=by
 obtain ⟨f,fd,M,F⟩:=D
 refine ⟨f,fd,M,F.kp,F.cC (λ_ _ _ _ _ _ us hl=>(match us,hl with|[_,_],_=>rfl)),F.ok zA (λvs H Q E h=> ?_) (λcdv A bE s H vs Q E hr h=> ?_)⟩
 ·obtain ⟨h,l,as,n,c,gs,x,rfl,_⟩:=h
  rfl
 ·obtain ⟨h,l,as,n,c,gs,x,rfl,B,k⟩:=h
  obtain ⟨dh,dd,hh⟩:=B.hs
  refine ⟨_,(aq (aV (kM (aa (pv 1) (aa (dr T.nT) (aa (cw (K:=K) (pv 0)) ah)))))),?_⟩
  exact ⟨_,rfl,_,rfl,fI hh T.a7 T.u2 rfl ⟨(by show 3<=sizeLine;decide),k⟩⟩
abbrev sJ:Stmt:=iB 30
theorem DG:bt ["house","number"] ["house","number"] (aJ sJ):=⟨rfl,rfl,rfl,by decide +kernel,rfl,by decide +kernel,by decide +kernel⟩
theorem Tc (D:Df K mg "game_row" sJ) (T:Tx K mg G U):dQ P w K mg base 1 "game_row" ["house","number"] (yz G U 30 λ_ _ gs=>gs.length):=by
 obtain ⟨f,fd,M,F⟩:=D
 refine ⟨f,fd,M,F.kp,F.cC (λ_ _ _ _ _ _ us hl=>(match us,hl with|[_,_],_=>rfl)),F.ok DG (λvs H Q E h=> ?_) (λcdv A bE s H vs Q E hr h=> ?_)⟩
 ·obtain ⟨h,l,as,n,c,gs,x,rfl,_⟩:=h
  rfl
 ·obtain ⟨h,l,as,n,c,gs,x,rfl,B,k⟩:=h
  obtain ⟨dh,dd,hh⟩:=B.hs
  have el:(as.map V.ref).length=gs.length:=by rw [af];exact B.len
  refine ⟨_,(aq (aV (kM (aa (pv 1) (aa (dr T.vH) (aa (bT (fF (K:=K)) (by rfl) T.len bh (aa (cw (K:=K) (pv 0)) ah)) ah)))))),?_⟩
  refine ⟨_,rfl,_,rfl,fI hh T.a7 T.u3 rfl ⟨l,_,rfl,.inl (cE.of B.a6),(by show 3<=sizeLine;decide),?_⟩⟩
  rw [el]
  exact k
end
end Qz
end
section
namespace Qz
open PySem PySem.Spec PyProof.Rows L2
open Vbqzak (step onTwo onGame onPacket onChain inside teamIn isTeam no whole)
theorem Vl (a ma ha b mb hb:Int):lk [(a,ma,ha),(b,mb,hb)]=if a< 0\/ma<=a\/b< 0\/mb<=b then -1 else if ha<=a\/hb<=b then -4 else 0:=by
 unfold lk
 simp only [dB,mQ,iF,bH,cJ,yi]
theorem Wt (a ma ha:Int):lk [(a,ma,ha)]=if a< 0\/ma<=a then -1 else if ha<=a then -4 else 0:=by
 unfold lk
 simp only [dB,mQ,iF,bH,cJ]
theorem CZ (s:l9) (n c:Int):step s (.house n c)=if (inside n 2 10&&inside c 1 12)=false then no s (-1) else (⟨n.toNat,c.toNat,[],[]⟩,[n]):=rfl
theorem i3 (x lo hi:Int):inside x lo hi=decide (lo<=x/\x<=hi):=by
 unfold inside
 rw [fV]
theorem L8 {H:Hp} {p1 p2 a:Addr} {x1 x2:Int×Int×Int} (h1:H p1=some (.dC [.int x1.1,.int x1.2.1,.int x1.2.2])) (h2:H p2=some (.dC [.int x2.1,.int x2.2.1,.int x2.2.2])):∀(j:Nat) (t:Addr) (x:Int×Int×Int),([p1,p2]:List Addr)[j]? =some t->([x1,x2]:List (Int×Int×Int))[j]? =some x->H t=some (.dC [.int x.1,.int x.2.1,.int x.2.2])
 |0,t,x,ht,hx=>by
  have e1:p1=t:=by simpa using ht
  have e2:x1=x:=by simpa using hx
  rw [<-e1,<-e2]
  exact h1
 |1,t,x,ht,hx=>by
  have e1:p2=t:=by simpa using ht
  have e2:x2=x:=by simpa using hx
  rw [<-e1,<-e2]
  exact h2
 |j+2,t,x,ht,_=>by simp at ht
theorem Od {H:Hp} {p1:Addr} {x1:Int×Int×Int} (h1:H p1=some (.dC [.int x1.1,.int x1.2.1,.int x1.2.2])):∀(j:Nat) (t:Addr) (x:Int×Int×Int),([p1]:List Addr)[j]? =some t->([x1]:List (Int×Int×Int))[j]? =some x->H t=some (.dC [.int x.1,.int x.2.1,.int x.2.2])
 |0,t,x,ht,hx=>by
  have e1:p1=t:=by simpa using ht
  have e2:x1=x:=by simpa using hx
  rw [<-e1,<-e2]
  exact h1
 |j+1,t,x,ht,_=>by simp at ht
section
variable {P:Program} {w:World} {K:PySem.W.Frag} {mg:Str->Option Value} {base:Heap} {G U:Addr}
abbrev o2:Stmt:=iB 51
theorem zG:bt ["house","teams","packets"] ["house","teams","packets"] (aJ o2):=⟨rfl,rfl,rfl,by decide +kernel,rfl,by decide +kernel,by decide +kernel⟩
def Qx (G U:Addr):Sp:=λvs H Q _=>∃(h l d:Addr) (as:List Addr) (s:l9) (m m0:Nat) (n c:Int),vs=[.ref h,.int n,.int c]/\fK G U H h l as s.n s.c s.games/\i4 U H h d s.barred m0/\m0<=m/\Qm.Ok s/\J2 G U h l d as m H (step s (.house n c)) Q
theorem SJ (D:Df K mg "call_house" o2) (T:Tx K mg G U) (iI:ph P w K mg base 1 U "begin" ["self","teams","packets"] (Oa U)):dQ P w K mg base 2 "call_house" ["house","teams","packets"] (Qx G U):=by
 obtain ⟨f,fd,M,F⟩:=D
 refine ⟨f,fd,M,F.kp,F.cC (λ_ _ _ _ _ _ us hl=>(match us,hl with|[_,_,_],_=>rfl)),F.ok zG (λvs H Q E h=> ?_) (λcdv A bE s H vs Q E hr h=> ?_)⟩
 ·obtain ⟨h,l,d,as,s,m,m0,n,c,rfl,_⟩:=h
  rfl
 ·obtain ⟨h,l,d,as,s,m,m0,n,c,rfl,B,Z,hm,O,k⟩:=h
  refine ⟨_,(ai (cP (PW.pt (tY (bo rb (pv 1) (dr T.zB) (bN _)) (tY (bo zi (pv 1) (dr T.vb) (bN _)) (tY (bo rb (pv 2) (dr T.q0) (bN _)) (wo (bo zi (pv 2) (dr T.nT) (bN _))))))) (aq (aV (cf (aa (dr T.nY) ah)))) bF) (ai (dS (g7 iI T.a7 (hr.bY (by decide)) (pv 0) (aa (pv 1) (aa (pv 2) ah)))) (aq (aV (cf (aa (pv 1) ah)))))),?_⟩
  have bad:¬(2<=n/\n<=10/\1<=c/\c<=12)->∀p,H p=none->Q (.ref p) (bG H p (.a6 [.int (-1)])):=λhb p hp=>by
   have e:step s (.house n c)=(s,[-1]):=by
    rw [CZ,i3,i3,<-fV,aA (by rw [a8];lia)]
    rfl
   rw [e] at k
   exact (k.wI B Z hm rfl).ir B (bB.refl H) hp
  refine ⟨_,rfl,_,_,rfl,rfl,_,rfl,l4 (λe1=> ?_) (λe1=> ?_)⟩
  ·exact ⟨(by show 1<=sizeLine;decide),bad (by have:=bw e1;lia)⟩
  refine ⟨_,rfl,_,_,rfl,rfl,_,rfl,l4 (λe2=> ?_) (λe2=> ?_)⟩
  ·exact ⟨(by show 1<=sizeLine;decide),bad (by have:=bw e2;lia)⟩
  refine ⟨_,rfl,_,_,rfl,rfl,_,rfl,l4 (λe3=> ?_) (λe3=> ?_)⟩
  ·exact ⟨(by show 1<=sizeLine;decide),bad (by have:=bw e3;lia)⟩
  refine ⟨_,rfl,_,_,rfl,rfl,_,rfl,l4 (λe4=> ?_) (λe4=> ?_)⟩
  ·exact ⟨(by show 1<=sizeLine;decide),bad (by have:=bw e4;lia)⟩
  have g1:2<=n:=by apply a5;intro z;exact e1 (aW (by lia))
  have g2:n<=10:=by apply a5;intro z;exact e2 (aW (by lia))
  have g3:1<=c:=by apply a5;intro z;exact e3 (aW (by lia))
  have g4:c<=12:=by apply a5;intro z;exact e4 (aW (by lia))
  have e:step s (.house n c)=(⟨n.toNat,c.toNat,[],[]⟩,[n]):=by
   rw [CZ,i3,i3,<-fV,au (by rw [aW (by lia)];simp)]
  rw [e] at k
  obtain ⟨dh,dd,hh⟩:=B.hs
  refine ⟨_,rfl,h,dh,_,rfl,hh,rfl,_,rfl,_,rfl,h,dh,_,n.toNat,c.toNat,(by rw [cM (by lia),cM (by lia)];rfl),hh,.inr ⟨_,_,_,_,rfl⟩,λl' d' hl' hd' Xo=> ?_⟩
  have Xp:l'≠h:=aY (az hh hl')
  have Xq:d'≠h:=aY (az hh hd')
  refine ⟨_,rfl,(by show 1<=sizeLine;decide),λp hp=> ?_⟩
  have VF:h≠p:=az aj hp
  rw [aL (aY VF)] at hp
  have Qi:d'≠p:=az aj hp
  rw [aL (aY Qi)] at hp
  have hpl:l'≠p:=az aj hp
  rw [aL (aY hpl)] at hp
  have h1:bG (bG (bG (bG H l' (.a6 [])) d' (.dT [])) h (.ke U dh (hf n.toNat c.toNat l' d'))) p (.a6 [V.int n]) h=some (.ke U dh (hf n.toNat c.toNat l' d')):=by rw [aL VF];exact aj
  refine k _ p l' d' [] ⟨⟨dh,d',h1⟩,by rw [aL hpl,aL Xp,aL (aY Xo)];exact aj,by simp,rfl,λj a g ha=>by simp at ha⟩ ⟨⟨dh,_,_,_,h1⟩,[],by rw [aL Qi,aL Xq];exact aj,bD _,λx y=>rfl⟩ ⟨λb o eb hb _ _ _=> ?_,.inr hl',.inr hd',λa ha=>by cases ha⟩ hp aj
  rw [aL (az eb hp),aL hb,aL (az eb hd'),aL (az eb hl')]
  exact eb
abbrev qu:Stmt:=iB 52
theorem vF:bt ["house","first","second","refused"] ["house","first","second"] (aJ qu):=⟨rfl,rfl,rfl,by decide +kernel,rfl,by decide +kernel,by decide +kernel⟩
def Ta (G U:Addr):Sp:=λvs H Q _=>∃(h l:Addr) (as:List Addr) (s:l9) (a b:Int),vs=[.ref h,.int a,.int b]/\fK G U H h l as s.n s.c s.games/\Qm.Ok s/\wK G U h l as H (step s (.game a b)) Q
theorem yH (s:l9) (a b:Int) (f:Nat->Nat->l9×List Int):onTwo s a b f=if a< 0\/10<=a\/b< 0\/10<=b then (s,[-1]) else if (s.n:Int)<=a\/(s.n:Int)<=b then (s,[-4]) else if a=b then (s,[-5]) else f a.toNat b.toNat:=by
 unfold onTwo teamIn isTeam
 rw [i3,i3,<-fV,<-fV]
 by_cases h1:a< 0\/10<=a\/b< 0\/10<=b
 ·rw [aA h1,aA (by rw [a8];lia)]
  rfl
 ·rw [au h1,au (by rw [aW (by lia)];simp)]
  by_cases h2:(s.n:Int)<=a\/(s.n:Int)<=b
  ·rw [aA h2,aA (by rw [a8];unfold whole;lia)]
   rfl
  ·rw [au h2,au (by rw [aW (by unfold whole;lia)];simp)]
   rfl
theorem R6 (D:Df K mg "call_game" qu) (T:Tx K mg G U) (du:dQ P w K mg base 1 "look_up" ["told"] NB) (eN:dQ P w K mg base 1 "team_row" ["house","team"] (yz G U 10 λn _ _=>n)) (Fx:P2 P w K mg base 1 "Game" G ["self","first","second"] (NX G)):dQ P w K mg base 3 "call_game" ["house","first","second"] (Ta G U):=by
 obtain ⟨f,fd,M,F⟩:=D
 refine ⟨f,fd,M,F.kp,F.cC (λ_ _ _ _ _ _ us hl=>(match us,hl with|[_,_,_],_=>rfl)),F.ok vF (λvs H Q E h=> ?_) (λcdv A bE s H vs Q E hr h=> ?_)⟩
 ·obtain ⟨h,l,as,s,a,b,rfl,_⟩:=h
  rfl
 ·obtain ⟨h,l,as,s,a,b,rfl,B,O,k⟩:=h
  refine ⟨_,(ai (bx (i:=3) vF.nd rfl (Or.inl rfl) (bW du (hr.bY (by decide)) (aa (cf (aa (bW eN (hr.bY (by decide)) (aa (pv 0) (aa (pv 1) ah))) (aa (bW eN (hr.bY (by decide)) (aa (pv 0) (aa (pv 2) ah))) ah))) ah))) (ai (cP (bo mP (pv 3) (dr T.mE) (bN _)) (aq (aV (cf (aa (pv 3) ah)))) bF) (ai (cP (bo dU (pv 1) (pv 2) (bN _)) (aq (aV (cf (aa (dr T.yc) ah)))) bF) (ai (cP (bo dU (bT (fF (K:=K)) (by rfl) T.len bh (aa (cw (K:=K) (pv 0)) ah)) (dr T.vH) (bN _)) (aq (aV (cf (aa (dr T.wD) ah)))) bF) (ai (dS (mS (K:=K) aQ bL bM fe (cw (K:=K) (pv 0)) (aa (RH Fx (hr.bY (by decide)) (aa (pv 1) (aa (pv 2) ah))) ah))) (aq (aV (cf (aa (eY o6 (bT (fF (K:=K)) (by rfl) T.len bh (aa (cw (K:=K) (pv 0)) ah)) bc) ah))))))))),?_⟩
  refine ⟨_,rfl,_,rfl,h,l,as,s.n,s.c,s.games,a,rfl,B,λp1 uM=> ?_⟩
  have s1:bB H (bG H p1 (.dC [.int a,.int 10,.int (s.n:Nat)])):=aN uM
  have t1:bG H p1 (.dC [.int a,.int 10,.int (s.n:Nat)]) p1=some (.dC [.int a,.int 10,.int (s.n:Nat)]):=aj
  generalize bG H p1 (.dC [.int a,.int 10,.int (s.n:Nat)])=H1 at s1 t1
  refine ⟨_,rfl,_,rfl,h,l,as,s.n,s.c,s.games,b,rfl,B.same s1,λp2 hp2=> ?_⟩
  have s2:bB H1 (bG H1 p2 (.dC [.int b,.int 10,.int (s.n:Nat)])):=aN hp2
  have t2:bG H1 p2 (.dC [.int b,.int 10,.int (s.n:Nat)]) p2=some (.dC [.int b,.int 10,.int (s.n:Nat)]):=aj
  generalize bG H1 p2 (.dC [.int b,.int 10,.int (s.n:Nat)])=H2 at s2 t2
  refine ⟨(by show 2<=sizeLine;decide),λp3 BZ=> ?_⟩
  have s3:bB H2 (bG H2 p3 (.a6 [.ref p1,.ref p2])):=aN BZ
  have t3:bG H2 p3 (.a6 [.ref p1,.ref p2]) p3=some (.a6 [.ref p1,.ref p2]):=aj
  generalize bG H2 p3 (.a6 [.ref p1,.ref p2])=H3 at s3 t3
  have jt:bB H H3:=s1.trans (s2.trans s3)
  refine ⟨p3,[p1,p2],[(a,10,(s.n:Nat)),(b,10,(s.n:Nat))],rfl,t3,rfl,L8 (a:=p3) (x1:=(a,10,(s.n:Nat))) (x2:=(b,10,(s.n:Nat))) (s3 _ _ (s2 _ _ t1)) (s3 _ _ t2),?_⟩
  have gM:step s (.game a b)=onTwo s a b λa b=>if Vbqzak.GAMES<=s.games.length then no s (-7) else ({s with games:=s.games++[⟨a,b,none⟩]},[whole s.games.length]):=rfl
  rw [yH] at gM
  rw [Vl]
  refine ⟨_,rfl,rfl,_,rfl,?_⟩
  by_cases h1:a< 0\/10<=a\/b< 0\/10<=b
  ·rw [aA h1] at gM ⊢
   rw [gM] at k
   exact ij ⟨_,rfl,(by show 1<=sizeLine;decide),λp hp=>k.ir B jt hp⟩
  rw [au h1] at gM ⊢
  by_cases h2:(s.n:Int)<=a\/(s.n:Int)<=b
  ·rw [aA h2] at gM ⊢
   rw [gM] at k
   exact ij ⟨_,rfl,(by show 1<=sizeLine;decide),λp hp=>k.ir B jt hp⟩
  rw [au h2] at gM ⊢
  refine i0 ?_
  refine ⟨_,rfl,_,rfl,rfl,_,rfl,?_⟩
  by_cases h3:a=b
  ·rw [aA h3] at gM
   rw [gM] at k
   rw [h3]
   rw [aW rfl]
   exact ij ⟨(by show 1<=sizeLine;decide),λp hp=>k.ir B jt hp⟩
  rw [au h3] at gM
  rw [a8 (show ¬V.int a=V.int b from λz=>h3 (V.int.inj z))]
  refine i0 ?_
  have B3:=B.same jt
  obtain ⟨dh,dd,hh⟩:=B3.hs
  have el:(as.map V.ref).length=s.games.length:=by rw [af];exact B.len
  refine ⟨_,rfl,fI hh T.a7 T.u3 rfl ⟨l,_,rfl,.inl (cE.of B3.a6),rfl,_,rfl,?_⟩⟩
  rw [el]
  by_cases h4:Vbqzak.GAMES<=s.games.length
  ·rw [aA h4] at gM
   have h5:s.games.length=30:=by
    have:=O.len
    have:(30:Nat)<=s.games.length:=h4
    lia
   rw [gM] at k
   rw [h5,aW (show V.int ((30:Nat):Int)=V.int 30 from rfl)]
   exact ij ⟨(by show 1<=sizeLine;decide),λp hp=>k.ir B jt hp⟩
  rw [au h4] at gM
  have h5:s.games.length< 30:=by
   have:¬(30:Nat)<=s.games.length:=h4
   lia
  rw [a8 (show ¬V.int ((s.games.length:Nat):Int)=V.int 30 from λz=>by have:=V.int.inj z;lia)]
  refine i0 ?_
  rw [gM] at k
  refine ⟨_,rfl,fI hh T.a7 T.u3 rfl ⟨.inl ⟨rfl,_,cE.of B3.a6⟩,_,rfl,_,rfl,λx dx hx hdx hne=> ?_⟩⟩
  refine ⟨x,dx,a.toNat,b.toNat,(by rw [cM (by lia),cM (by lia)];rfl),aj,rfl,?_⟩
  rw [mV]
  have Ec:x≠l:=aY (az B3.a6 hx)
  have hdl:dx≠l:=aY (az B3.a6 hdx)
  have YI:x≠h:=aY (az hh hx)
  have UB:dx≠h:=aY (az hh hdx)
  have Nh:x∉as:=B3.yA hx
  have Ng:dx∉as:=B3.yA hdx
  have Xr:bG (bG H3 dx (.iU x)) x (.ke G dx (gf ⟨a.toNat,b.toNat,none⟩)) l=some (.a6 (as.map V.ref)):=by
   rw [aL (aY Ec),aL (aY hdl)]
   exact B3.a6
  refine ⟨l,_,_,rfl,rfl,Xr,(by rw [el];exact cv (by lia)),?_⟩
  have Xs:bG (bG (bG H3 dx (.iU x)) x (.ke G dx (gf ⟨a.toNat,b.toNat,none⟩))) l (.a6 (as.map V.ref++[V.ref x])) h=some (.ke U dh (hf s.n s.c l dd)):=by
   have Xn:h≠l:=λe=>by rw [e,B3.a6] at hh;cases hh
   rw [aL Xn,aL (aY YI),aL (aY UB)]
   exact hh
  refine ⟨_,rfl,fI Xs T.a7 T.u3 rfl ⟨l,_,rfl,.inl (cE.of aj),_,_,rfl,rfl,(by show 1<=sizeLine;decide),λp hp=> ?_⟩⟩
  have hpl:l≠p:=az aj hp
  have VF:h≠p:=az Xs hp
  have Nk:x≠p:=by
   intro e
   rw [<-e,aL Ec,aj] at hp
   cases hp
  have K1:H p=none:=by
   cases e:H p with
   |none=>rfl
   |some o=>
    exfalso
    have e3:=jt _ _ e
    have Xt:p≠x:=aY Nk
    have Qi:p≠dx:=λz=>by rw [z,hdx] at e3;cases e3
    rw [aL (aY hpl),aL Xt,aL Qi,e3] at hp
    cases hp
  have ev:V.int (((as.map V.ref++[V.ref x]).length:Int)-1)=V.int (whole s.games.length):=by
   rw [ao,el]
   show V.int (((s.games.length+1:Nat):Int)-1)=V.int (s.games.length:Int)
   congr 1
   lia
  refine k _ p l (as++[x]) ⟨⟨dh,dd,by rw [aL VF];exact Xs⟩,?_,?_,?_,λj c g hc hg=> ?_⟩ ⟨λc o ec c2 c3=> ?_,.inl rfl,λc hc=> ?_⟩ K1 ?_
  ·rw [aL hpl,aj,a4]
   rfl
  ·exact cc.mpr ⟨B.nd,by simp,λy hy z hz e=>by
    have:z=x:=by simpa using hz
    subst this
    subst e
    exact Nh hy⟩
  ·show (as++[x]).length=(s.games++[_]).length
   rw [ao,ao,B.len]
   rfl
  ·by_cases hj:j< as.length
   ·rw [bP hj] at hc
    have hg:s.games[j]? =some g:=by
     have:(s.games++[⟨a.toNat,b.toNat,none⟩])[j]? =some g:=hg
     rw [bP (by rw [<-B.len];exact hj)] at this
     exact this
    obtain ⟨dy,hy⟩:=B3.vO j c g hc hg
    have hcm:=aw hc
    have n1:c≠p:=λz=>by
     have e3:=hy
     rw [z] at e3 hcm
     have:p≠x:=aY Nk
     have Qi:p≠dx:=λz2=>Ng (z2▸hcm)
     rw [aL (aY hpl),aL this,aL Qi,e3] at hp
     cases hp
    have n2:c≠l:=λz=>B3.M5 (z▸hcm)
    have n3:c≠x:=λz=>Nh (z▸hcm)
    have n4:c≠dx:=λz=>Ng (z▸hcm)
    exact ⟨dy,by rw [aL n1,aL n2,aL n3,aL n4];exact hy⟩
   ·rw [bJ (by lia)] at hc
    have hg:(s.games++[⟨a.toNat,b.toNat,none⟩])[j]? =some g:=hg
    rw [bJ (by rw [<-B.len];lia)] at hg
    have e1:c=x:=by simpa using aw hc
    have e2:g=⟨a.toNat,b.toNat,none⟩:=by simpa using aw hg
    subst e1 e2
    exact ⟨dx,by rw [aL Nk,aL Ec,aj]⟩
  ·have e3:=jt _ _ ec
   have n3:c≠x:=λz=>by rw [z,hx] at e3;cases e3
   have n4:c≠dx:=λz=>by rw [z,hdx] at e3;cases e3
   have n1:c≠p:=λz=>by rw [z,K1] at ec;cases ec
   rw [aL n1,aL c2,aL n3,aL n4]
   exact e3
  ·rcases aI.mp hc with hc|hc
   ·exact .inl hc
   ·have:c=x:=by simpa using hc
    subst this
    exact .inr (jt.free hx)
  ·rw [aj]
   exact cS (λz=>some (HO.a6 [z])) ev
end
end Qz
end
section
namespace Qz
open PySem PySem.Spec PyProof.Rows L2
open Vbqzak (step onTwo onGame onPacket onChain inside teamIn isTeam no whole)
theorem oK (s:l9) (g p:Int) (f:Nat->Gm->Nat->l9×List Int):(onPacket s g p f=(s,[-1])/\(g< 0\/30<=g\/p< 0\/12<=p))\/(onPacket s g p f=(s,[-4])/\¬(g< 0\/30<=g\/p< 0\/12<=p)/\((s.games.length:Int)<=g\/(s.c:Int)<=p))\/
  (∃(i q:Nat) (x:Gm),g=(i:Int)/\p=(q:Int)/\s.games[i]? =some x/\q< s.c/\i< 30/\q< 12/\onPacket s g p f=f i x q/\¬(g< 0\/30<=g\/p< 0\/12<=p)/\¬((s.games.length:Int)<=g\/(s.c:Int)<=p)):=by
 unfold onPacket
 rw [i3,i3,<-fV]
 by_cases h1:g< 0\/30<=g\/p< 0\/12<=p
 ·left
  rw [aA (by rw [a8];lia)]
  exact ⟨rfl,h1⟩
 ·rw [au (by rw [aW (by lia)];simp)]
  right
  cases e:s.games[g.toNat]? with
  |none=>
   left
   have:=dj.mp e
   exact ⟨rfl,h1,by lia⟩
  |some x=>
   have hl:=(ae.mp e).1
   simp only
   by_cases h2:whole s.c<=p
   ·left
    rw [aA h2]
    have:(s.c:Int)<=p:=h2
    exact ⟨rfl,h1,.inr this⟩
   ·right
    rw [au h2]
    have h3:¬(s.c:Int)<=p:=h2
    exact ⟨g.toNat,p.toNat,x,by lia,by lia,e,by lia,by lia,by lia,rfl,h1,by lia⟩
theorem Hc (s:l9) (g:Int) (f:Nat->Gm->l9×List Int):(onGame s g f=(s,[-1])/\(g< 0\/30<=g))\/(onGame s g f=(s,[-4])/\¬(g< 0\/30<=g)/\(s.games.length:Int)<=g)\/
  (∃(i:Nat) (x:Gm),g=(i:Int)/\s.games[i]? =some x/\onGame s g f=f i x/\¬(g< 0\/30<=g)/\¬(s.games.length:Int)<=g):=by
 unfold onGame
 rw [i3]
 by_cases h1:g< 0\/30<=g
 ·left
  rw [aA (by rw [a8];lia)]
  exact ⟨rfl,h1⟩
 ·rw [au (by rw [aW (by lia)];simp)]
  right
  cases e:s.games[g.toNat]? with
  |none=>
   left
   have:=dj.mp e
   exact ⟨rfl,h1,by lia⟩
  |some x=>
   right
   have hl:=(ae.mp e).1
   exact ⟨g.toNat,x,by lia,e,rfl,h1,by lia⟩
section
variable {P:Program} {w:World} {K:PySem.W.Frag} {mg:Str->Option Value} {base:Heap} {G U:Addr}
abbrev Oi (P:Program) (w:World) (K:PySem.W.Frag) (mg:Str->Option Value) (base:Heap) (G U:Addr):Prop:=dQ P w K mg base 1 "game_row" ["house","number"] (yz G U 30 λ_ _ gs=>gs.length)
abbrev SE (P:Program) (w:World) (K:PySem.W.Frag) (mg:Str->Option Value) (base:Heap) (G U:Addr):Prop:=dQ P w K mg base 1 "packet_row" ["house","packet"] (yz G U 12 λ_ c _=>c)
abbrev NV (P:Program) (w:World) (K:PySem.W.Frag) (mg:Str->Option Value) (base:Heap):Prop:=dQ P w K mg base 1 "look_up" ["told"] NB
abbrev qI:Stmt:=iB 53
theorem qp:bt ["house","number","packet","refused","game"] ["house","number","packet"] (aJ qI):=⟨rfl,rfl,rfl,by decide +kernel,rfl,by decide +kernel,by decide +kernel⟩
def RW (G U:Addr):Sp:=λvs H Q _=>∃(h l:Addr) (as:List Addr) (s:l9) (g p:Int),vs=[.ref h,.int g,.int p]/\fK G U H h l as s.n s.c s.games/\Qm.Ok s/\wK G U h l as H (step s (.give g p)) Q
theorem RJ (D:Df K mg "call_give" qI) (T:Tx K mg G U) (du:NV P w K mg base) (iz:Oi P w K mg base G U) (jl:SE P w K mg base G U) (fq:ph P w K mg base 3 U "is_heard" ["self","team","packet"] (JJ G U)):dQ P w K mg base 4 "call_give" ["house","number","packet"] (RW G U):=by
 obtain ⟨f,fd,M,F⟩:=D
 refine ⟨f,fd,M,F.kp,F.cC (λ_ _ _ _ _ _ us hl=>(match us,hl with|[_,_,_],_=>rfl)),F.ok qp (λvs H Q E h=> ?_) (λcdv A bE s H vs Q E hr h=> ?_)⟩
 ·obtain ⟨h,l,as,s,g,p,rfl,_⟩:=h
  rfl
 ·obtain ⟨h,l,as,s,g,p,rfl,B,O,k⟩:=h
  refine ⟨_,(ai (bx (i:=3) qp.nd rfl (Or.inl rfl) (bW du (hr.bY (by decide)) (aa (cf (aa (bW iz (hr.bY (by decide)) (aa (pv 0) (aa (pv 1) ah))) (aa (bW jl (hr.bY (by decide)) (aa (pv 0) (aa (pv 2) ah))) ah))) ah))) (ai (cP (bo mP (pv 3) (dr T.mE) (bN _)) (aq (aV (cf (aa (pv 3) ah)))) bF) (ai (bx (i:=4) qp.nd rfl (Or.inl rfl) (cH (je (K:=K)) (cw (K:=K) (pv 0)) (pv 1) (λ_ _=>rfl))) (ai (cP (bo dU (cw (K:=K) (pv 4)) (pv 2) (bN _)) (aq (aV (cf (aa bc ah)))) bF) (ai (cP (PW.pt (tY (iP (g7 fq T.a7 (hr.bY (by decide)) (pv 0) (aa (cw (K:=K) (pv 4)) (aa (pv 2) ah)))) (wo (iP (g7 fq T.a7 (hr.bY (by decide)) (pv 0) (aa (cw (K:=K) (pv 4)) (aa (pv 2) ah))))))) (aq (aV (cf (aa (dr T.xF) ah)))) bF) (ai (lu (pv 4) (pv 2) rfl) (aq (aV (cf (aa bc ah)))))))))),?_⟩
  refine ⟨_,rfl,_,rfl,h,l,as,s.n,s.c,s.games,g,rfl,B,λp1 uM=> ?_⟩
  have s1:bB H (bG H p1 (.dC [.int g,.int 30,.int (s.games.length:Nat)])):=aN uM
  have t1:bG H p1 (.dC [.int g,.int 30,.int (s.games.length:Nat)]) p1=some (.dC [.int g,.int 30,.int (s.games.length:Nat)]):=aj
  generalize bG H p1 (.dC [.int g,.int 30,.int (s.games.length:Nat)])=H1 at s1 t1
  refine ⟨_,rfl,_,rfl,h,l,as,s.n,s.c,s.games,p,rfl,B.same s1,λp2 hp2=> ?_⟩
  have s2:bB H1 (bG H1 p2 (.dC [.int p,.int 12,.int (s.c:Nat)])):=aN hp2
  have t2:bG H1 p2 (.dC [.int p,.int 12,.int (s.c:Nat)]) p2=some (.dC [.int p,.int 12,.int (s.c:Nat)]):=aj
  generalize bG H1 p2 (.dC [.int p,.int 12,.int (s.c:Nat)])=H2 at s2 t2
  refine ⟨(by show 2<=sizeLine;decide),λp3 BZ=> ?_⟩
  have s3:bB H2 (bG H2 p3 (.a6 [.ref p1,.ref p2])):=aN BZ
  have t3:bG H2 p3 (.a6 [.ref p1,.ref p2]) p3=some (.a6 [.ref p1,.ref p2]):=aj
  generalize bG H2 p3 (.a6 [.ref p1,.ref p2])=H3 at s3 t3
  have jt:bB H H3:=s1.trans (s2.trans s3)
  refine ⟨p3,[p1,p2],[(g,30,(s.games.length:Nat)),(p,12,(s.c:Nat))],rfl,t3,rfl,L8 (a:=p3) (x1:=(g,30,(s.games.length:Nat))) (x2:=(p,12,(s.c:Nat))) (s3 _ _ (s2 _ _ t1)) (s3 _ _ t2),?_⟩
  have gM:step s (.give g p)=onPacket s g p λi _ p=>if Vbqzak.clash s.games i p=true then no s (-6) else ({s with games:=Vbqzak.withPacket s.games i (some p)},[0]):=rfl
  rw [Vl]
  refine ⟨_,rfl,rfl,_,rfl,?_⟩
  rcases oK s g p (λi _ p=>if Vbqzak.clash s.games i p=true then no s (-6) else ({s with games:=Vbqzak.withPacket s.games i (some p)},[0])) with ⟨e,h1⟩|⟨e,h1,h2⟩|⟨i,q,x,rfl,rfl,hx,hq,Z5,Z6,e,h1,h2⟩
  ·rw [aA h1]
   rw [gM,e] at k
   exact ij ⟨_,rfl,(by show 1<=sizeLine;decide),λp hp=>k.ir B jt hp⟩
  ·rw [au h1,aA h2]
   rw [gM,e] at k
   exact ij ⟨_,rfl,(by show 1<=sizeLine;decide),λp hp=>k.ir B jt hp⟩
  rw [au h1,au h2]
  rw [gM,e] at k
  refine i0 ?_
  have B3:=B.same jt
  obtain ⟨dh,dd,hh⟩:=B3.hs
  obtain ⟨a,dx,ha,qc,pD⟩:=B3.xE hx
  refine ⟨_,rfl,fI hh T.a7 T.u3 rfl ⟨_,rfl,xI (cE.of B3.a6) qc ?_⟩⟩
  refine ⟨_,rfl,fI pD T.cq T.g3 (eQ _) ⟨_,rfl,rfl,_,rfl,?_⟩⟩
  rw [o8]
  refine gr (λe1=> ?_) (λe1=> ?_)
  ·have e2:x.p=some q:=by simpa using e1
   rw [au (by rw [Qm.HA O.fH hx e2];simp),<-e2,Qm.Hw hx] at k
   exact ⟨(by show 1<=sizeLine;decide),λp hp=>k.ir B jt hp⟩
  ·have e2:x.p≠some q:=by simpa using e1
   rw [Qm.xj hx e2] at k
   have Z7:∀t:Nat,JJ G U [.ref h,.int t,.int q] H3=λQ E=>JJ G U [.ref h,.int t,.int q] H3 Q E:=λt=>rfl
   refine ⟨_,rfl,h,dh,_,rfl,hh,rfl,_,rfl,fI pD T.cq T.g1 (jC _) ⟨_,rfl,h,l,as,s.n,s.c,s.games,x.a,q,rfl,B3,O.len,_,rfl,?_⟩⟩
   refine gr (λe3=> ?_) (λe3=> ?_)
   ·rw [e3,Bool.true_or,aA rfl] at k
    exact ⟨(by show 1<=sizeLine;decide),λp hp=>k.ir B jt hp⟩
   refine ⟨_,rfl,h,dh,_,rfl,hh,rfl,_,rfl,fI pD T.cq T.g2 (gX _) ⟨_,rfl,h,l,as,s.n,s.c,s.games,x.b,q,rfl,B3,O.len,_,rfl,?_⟩⟩
   refine gr (λe4=> ?_) (λe4=> ?_)
   ·rw [e3,e4,oS,aA rfl] at k
    exact ⟨(by show 1<=sizeLine;decide),λp hp=>k.ir B jt hp⟩
   rw [e3,e4,au (by simp)] at k
   refine ⟨_,rfl,_,rfl,a,G,dx,_,rfl,pD,T.cq,T.g3,(by show 3< 1000;decide),?_⟩
   have B4:fK G U (bG H3 a (.ke G dx (gf {x with p:=some q}))) h l as s.n s.c (Vbqzak.withPacket s.games i (some q)):=by
    rw [Qm.pZ hx]
    exact B3.put ha hx
   exact ⟨(by show 1<=sizeLine;decide),λp hp=>k.sX B B4 ((Kp.of jt).trans (fK.vW (G:=G) (U:=U) ha)) hp⟩
abbrev qv:Stmt:=iB 54
theorem vp:bt ["house","number","refused"] ["house","number"] (aJ qv):=⟨rfl,rfl,rfl,by decide +kernel,rfl,by decide +kernel,by decide +kernel⟩
def QN (G U:Addr):Sp:=λvs H Q _=>∃(h l:Addr) (as:List Addr) (s:l9) (g:Int),vs=[.ref h,.int g]/\fK G U H h l as s.n s.c s.games/\Qm.Ok s/\wK G U h l as H (step s (.take g)) Q
theorem Rh (D:Df K mg "call_take" qv) (T:Tx K mg G U) (du:NV P w K mg base) (iz:Oi P w K mg base G U):dQ P w K mg base 2 "call_take" ["house","number"] (QN G U):=by
 obtain ⟨f,fd,M,F⟩:=D
 refine ⟨f,fd,M,F.kp,F.cC (λ_ _ _ _ _ _ us hl=>(match us,hl with|[_,_],_=>rfl)),F.ok vp (λvs H Q E h=> ?_) (λcdv A bE s H vs Q E hr h=> ?_)⟩
 ·obtain ⟨h,l,as,s,g,rfl,_⟩:=h
  rfl
 ·obtain ⟨h,l,as,s,g,rfl,B,O,k⟩:=h
  refine ⟨_,(ai (bx (i:=2) vp.nd rfl (Or.inl rfl) (bW du (hr.bY (by decide)) (aa (cf (aa (bW iz (hr.bY (by decide)) (aa (pv 0) (aa (pv 1) ah))) ah)) ah))) (ai (cP (bo mP (pv 2) (dr T.mE) (bN _)) (aq (aV (cf (aa (pv 2) ah)))) bF) (ai (lu (cH (je (K:=K)) (cw (K:=K) (pv 0)) (pv 1) (λ_ _=>rfl)) (dr T.gH) rfl) (aq (aV (cf (aa bc ah))))))),?_⟩
  refine ⟨_,rfl,_,rfl,h,l,as,s.n,s.c,s.games,g,rfl,B,λp1 uM=> ?_⟩
  have s1:bB H (bG H p1 (.dC [.int g,.int 30,.int (s.games.length:Nat)])):=aN uM
  have t1:bG H p1 (.dC [.int g,.int 30,.int (s.games.length:Nat)]) p1=some (.dC [.int g,.int 30,.int (s.games.length:Nat)]):=aj
  generalize bG H p1 (.dC [.int g,.int 30,.int (s.games.length:Nat)])=H1 at s1 t1
  refine ⟨(by show 1<=sizeLine;decide),λp3 BZ=> ?_⟩
  have s3:bB H1 (bG H1 p3 (.a6 [.ref p1])):=aN BZ
  have t3:bG H1 p3 (.a6 [.ref p1]) p3=some (.a6 [.ref p1]):=aj
  generalize bG H1 p3 (.a6 [.ref p1])=H3 at s3 t3
  have jt:bB H H3:=s1.trans s3
  refine ⟨p3,[p1],[(g,30,(s.games.length:Nat))],rfl,t3,rfl,Od (x1:=(g,30,(s.games.length:Nat))) (s3 _ _ t1),?_⟩
  have gM:step s (.take g)=onGame s g λi _=>({s with games:=Vbqzak.withPacket s.games i none},[0]):=rfl
  rw [Wt]
  refine ⟨_,rfl,rfl,_,rfl,?_⟩
  rcases Hc s g (λi _=>({s with games:=Vbqzak.withPacket s.games i none},[0])) with ⟨e,h1⟩|⟨e,h1,h2⟩|⟨i,x,rfl,hx,e,h1,h2⟩
  ·rw [aA h1]
   rw [gM,e] at k
   exact ij ⟨_,rfl,(by show 1<=sizeLine;decide),λp hp=>k.ir B jt hp⟩
  ·rw [au h1,aA h2]
   rw [gM,e] at k
   exact ij ⟨_,rfl,(by show 1<=sizeLine;decide),λp hp=>k.ir B jt hp⟩
  rw [au h1,au h2]
  rw [gM,e] at k
  refine i0 ?_
  have B3:=B.same jt
  obtain ⟨dh,dd,hh⟩:=B3.hs
  obtain ⟨a,dx,ha,qc,pD⟩:=B3.xE hx
  refine ⟨_,rfl,fI hh T.a7 T.u3 rfl ⟨_,rfl,xI (cE.of B3.a6) qc ⟨a,G,dx,_,rfl,pD,T.cq,T.g3,(by show 3< 1000;decide),?_⟩⟩⟩
  have B4:fK G U (bG H3 a (.ke G dx (gf {x with p:=none}))) h l as s.n s.c (Vbqzak.withPacket s.games i none):=by
   rw [Qm.pZ hx]
   exact B3.put ha hx
  exact ⟨(by show 1<=sizeLine;decide),λp hp=>k.sX B B4 ((Kp.of jt).trans (fK.vW (G:=G) (U:=U) ha)) hp⟩
abbrev lF:Stmt:=iB 55
theorem pX:bt ["house","number","packet","refused"] ["house","number","packet"] (aJ lF):=⟨rfl,rfl,rfl,by decide +kernel,rfl,by decide +kernel,by decide +kernel⟩
def OO (G U:Addr):Sp:=λvs H Q _=>∃(h l:Addr) (as:List Addr) (s:l9) (g p:Int),vs=[.ref h,.int g,.int p]/\fK G U H h l as s.n s.c s.games/\Qm.Ok s/\
 ∀(H':Hp) (r:Int),bB H H'->((r≠0/\∀f,onChain s g p f=(s,[r]))\/(r=0/\∃i q pp:Nat,g=(i:Int)/\p=(pp:Int)/\Vbqzak.packetOf s.games i=some q/\pp≠q/\pp< s.c/\∀f,onChain s g p f=f i pp))->Q (.int r) H'
theorem Te (D:Df K mg "chain_refusal" lF) (T:Tx K mg G U) (du:NV P w K mg base) (iz:Oi P w K mg base G U) (jl:SE P w K mg base G U):dQ P w K mg base 2 "chain_refusal" ["house","number","packet"] (OO G U):=by
 obtain ⟨f,fd,M,F⟩:=D
 refine ⟨f,fd,M,F.kp,F.cC (λ_ _ _ _ _ _ us hl=>(match us,hl with|[_,_,_],_=>rfl)),F.ok pX (λvs H Q E h=> ?_) (λcdv A bE s H vs Q E hr h=> ?_)⟩
 ·obtain ⟨h,l,as,s,g,p,rfl,_⟩:=h
  rfl
 ·obtain ⟨h,l,as,s,g,p,rfl,B,O,k⟩:=h
  refine ⟨_,(ai (bx (i:=3) pX.nd rfl (Or.inl rfl) (bW du (hr.bY (by decide)) (aa (cf (aa (bW iz (hr.bY (by decide)) (aa (pv 0) (aa (pv 1) ah))) (aa (bW jl (hr.bY (by decide)) (aa (pv 0) (aa (pv 2) ah))) ah))) ah))) (ai (cP (bo mP (pv 3) (dr T.mE) (bN _)) (aq (aV (pv 3))) bF) (ai (cP (bo dU (cw (K:=K) (cH (je (K:=K)) (cw (K:=K) (pv 0)) (pv 1) (λ_ _=>rfl))) (dr T.gH) (bN _)) (aq (aV (dr T.pY))) bF) (ai (cP (bo dU (cw (K:=K) (cH (je (K:=K)) (cw (K:=K) (pv 0)) (pv 1) (λ_ _=>rfl))) (pv 2) (bN _)) (aq (aV (dr T.yc))) bF) (aq (aV (dr T.mE))))))),?_⟩
  refine ⟨_,rfl,_,rfl,h,l,as,s.n,s.c,s.games,g,rfl,B,λp1 uM=> ?_⟩
  have s1:bB H (bG H p1 (.dC [.int g,.int 30,.int (s.games.length:Nat)])):=aN uM
  have t1:bG H p1 (.dC [.int g,.int 30,.int (s.games.length:Nat)]) p1=some (.dC [.int g,.int 30,.int (s.games.length:Nat)]):=aj
  generalize bG H p1 (.dC [.int g,.int 30,.int (s.games.length:Nat)])=H1 at s1 t1
  refine ⟨_,rfl,_,rfl,h,l,as,s.n,s.c,s.games,p,rfl,B.same s1,λp2 hp2=> ?_⟩
  have s2:bB H1 (bG H1 p2 (.dC [.int p,.int 12,.int (s.c:Nat)])):=aN hp2
  have t2:bG H1 p2 (.dC [.int p,.int 12,.int (s.c:Nat)]) p2=some (.dC [.int p,.int 12,.int (s.c:Nat)]):=aj
  generalize bG H1 p2 (.dC [.int p,.int 12,.int (s.c:Nat)])=H2 at s2 t2
  refine ⟨(by show 2<=sizeLine;decide),λp3 BZ=> ?_⟩
  have s3:bB H2 (bG H2 p3 (.a6 [.ref p1,.ref p2])):=aN BZ
  have t3:bG H2 p3 (.a6 [.ref p1,.ref p2]) p3=some (.a6 [.ref p1,.ref p2]):=aj
  generalize bG H2 p3 (.a6 [.ref p1,.ref p2])=H3 at s3 t3
  have jt:bB H H3:=s1.trans (s2.trans s3)
  refine ⟨p3,[p1,p2],[(g,30,(s.games.length:Nat)),(p,12,(s.c:Nat))],rfl,t3,rfl,L8 (a:=p3) (x1:=(g,30,(s.games.length:Nat))) (x2:=(p,12,(s.c:Nat))) (s3 _ _ (s2 _ _ t1)) (s3 _ _ t2),?_⟩
  rw [Vl]
  refine ⟨_,rfl,rfl,_,rfl,?_⟩
  by_cases h1:g< 0\/30<=g\/p< 0\/12<=p
  ·rw [aA h1]
   refine ij ⟨_,rfl,k H3 _ jt (.inl ⟨by decide,λf=> ?_⟩)⟩
   unfold onChain
   rcases oK s g p (λi x p=>match x.p with|none=>no s (-3)|some q=>if q=p then no s (-5) else f i p) with ⟨e,_⟩|⟨_,z,_⟩|⟨_,_,_,_,_,_,_,_,_,_,z,_⟩
   ·exact e
   ·exact absurd h1 z
   ·exact absurd h1 z
  rw [au h1]
  by_cases h2:(s.games.length:Int)<=g\/(s.c:Int)<=p
  ·rw [aA h2]
   refine ij ⟨_,rfl,k H3 _ jt (.inl ⟨by decide,λf=> ?_⟩)⟩
   unfold onChain
   rcases oK s g p (λi x p=>match x.p with|none=>no s (-3)|some q=>if q=p then no s (-5) else f i p) with ⟨_,z⟩|⟨e,_,_⟩|⟨_,_,_,_,_,_,_,_,_,_,_,z⟩
   ·exact absurd z h1
   ·exact e
   ·exact absurd h2 z
  rw [au h2]
  refine i0 ?_
  obtain ⟨i,rfl⟩:∃i:Nat,g=(i:Int):=⟨g.toNat,by lia⟩
  obtain ⟨pp,rfl⟩:∃q:Nat,p=(q:Int):=⟨p.toNat,by lia⟩
  have hil:i< s.games.length:=by lia
  have hx:s.games[i]? =some s.games[i]:=ab hil
  have Xu:∀f,onChain s (i:Int) (pp:Int) f=match s.games[i].p with|none=>no s (-3)|some q=>if q=pp then no s (-5) else f i pp:=λf=>by
   unfold onChain
   rcases oK s (i:Int) (pp:Int) (λi x p=>match x.p with|none=>no s (-3)|some q=>if q=p then no s (-5) else f i p) with ⟨_,z⟩|⟨_,_,z⟩|⟨i',q',x',z1,z2,z3,_,_,_,z4,_,_⟩
   ·exact absurd z h1
   ·exact absurd z h2
   ·have e1:i=i':=by lia
    have e2:pp=q':=by lia
    subst e1 e2
    rw [hx] at z3
    have e3:=Option.some.inj z3
    subst e3
    exact z4
  have B3:=B.same jt
  obtain ⟨dh,dd,hh⟩:=B3.hs
  obtain ⟨a,dx,ha,qc,pD⟩:=B3.xE hx
  refine ⟨_,rfl,fI hh T.a7 T.u3 rfl ⟨_,rfl,xI (cE.of B3.a6) qc (fI pD T.cq T.g3 (eQ _) ⟨rfl,_,rfl,?_⟩)⟩⟩
  rw [mU]
  cases hp:s.games[i].p with
  |none=>
   refine ij (k H3 _ jt (.inl ⟨by decide,λf=> ?_⟩))
   rw [Xu f,hp]
   rfl
  |some q=>
   refine i0 ?_
   refine ⟨_,rfl,fI hh T.a7 T.u3 rfl ⟨_,rfl,xI (cE.of B3.a6) qc (fI pD T.cq T.g3 (eQ _) ⟨_,rfl,rfl,_,rfl,?_⟩)⟩⟩
   rw [o8,hp]
   refine gr (λe1=> ?_) (λe1=> ?_)
   ·have e2:q=pp:=by simpa using e1
    refine k H3 _ jt (.inl ⟨by decide,λf=> ?_⟩)
    rw [Xu f,hp]
    simp only
    rw [aA e2]
    rfl
   ·have e2:¬q=pp:=by simpa using e1
    refine k H3 _ jt (.inr ⟨rfl,i,q,pp,rfl,rfl,?_,λz=>e2 z.symm,by lia,λf=> ?_⟩)
    ·rw [Qm.ck hx]
     exact hp
    ·rw [Xu f,hp]
     simp only
     rw [au e2]
abbrev oY:Stmt:=iB 56
theorem tT:bt ["house","number","packet","refused"] ["house","number","packet"] (aJ oY):=⟨rfl,rfl,rfl,by decide +kernel,rfl,by decide +kernel,by decide +kernel⟩
def SG (G U:Addr):Sp:=λvs H Q _=>∃(h l:Addr) (as:List Addr) (s:l9) (g p:Int),vs=[.ref h,.int g,.int p]/\fK G U H h l as s.n s.c s.games/\Qm.Ok s/\wK G U h l as H (step s (.chain g p)) Q
theorem rV (l:List Nat):(Vbqzak.listed l).map V.int=V.int ((nV l).length:Nat)::nV l:=by
 rw [cN]
 unfold Vbqzak.listed Vbqzak.ints nV
 rw [bA,cX]
 rfl
theorem Sn (D:Df K mg "call_chain" oY) (T:Tx K mg G U) (gD:dQ P w K mg base 2 "chain_refusal" ["house","number","packet"] (OO G U)) (iy:dQ P w K mg base 3 "chain_of" ["house","start","packet"] (Mb G U)) (fu:dQ P w K mg base 1 "as_list" ["numbers"] HJ):dQ P w K mg base 4 "call_chain" ["house","number","packet"] (SG G U):=by
 obtain ⟨f,fd,M,F⟩:=D
 refine ⟨f,fd,M,F.kp,F.cC (λ_ _ _ _ _ _ us hl=>(match us,hl with|[_,_,_],_=>rfl)),F.ok tT (λvs H Q E h=> ?_) (λcdv A bE s H vs Q E hr h=> ?_)⟩
 ·obtain ⟨h,l,as,s,g,p,rfl,_⟩:=h
  rfl
 ·obtain ⟨h,l,as,s,g,p,rfl,B,O,k⟩:=h
  refine ⟨_,(ai (bx (i:=3) tT.nd rfl (Or.inl rfl) (bW gD (hr.bY (by decide)) (aa (pv 0) (aa (pv 1) (aa (pv 2) ah))))) (ai (cP (bo mP (pv 3) (dr T.mE) (bN _)) (aq (aV (cf (aa (pv 3) ah)))) bF) (aq (aV (bW fu (hr.bY (by decide)) (aa (bW iy (hr.bY (by decide)) (aa (pv 0) (aa (pv 1) (aa (pv 2) ah)))) ah)))))),?_⟩
  have gM:step s (.chain g p)=onChain s g p λi p=>(s,Vbqzak.listed (Vbqzak.chain s.games i p)):=rfl
  refine ⟨_,rfl,_,rfl,_,rfl,h,l,as,s,g,p,rfl,B,O,λH1 r s1 B8=> ?_⟩
  refine ⟨_,rfl,rfl,_,rfl,?_⟩
  rcases B8 with ⟨IB,e⟩|⟨rfl,i,q,pp,rfl,rfl,hq,ua,WZ,e⟩
  ·rw [gM,e] at k
   rw [a8 (show ¬V.int r=V.int 0 from λz=>IB (V.int.inj z))]
   exact ij ⟨_,rfl,(by show 1<=sizeLine;decide),λp hp=>k.ir B s1 hp⟩
  ·rw [gM,e] at k
   refine i0 ?_
   refine ⟨_,rfl,_,rfl,_,rfl,h,l,as,s.n,s.c,s.games,i,pp,q,rfl,B.same s1,O.len,hq,λH2 ca s2 Iq yh=> ?_⟩
   have hlc:(Vbqzak.chain s.games i pp).length<=30:=by
    have:=bI (l₂:=List.range s.games.length) (Qm.gd hq (p:=pp)) λy hy=>by simpa using Qm.kF hq hy
    rw [aM] at this
    have:=O.len
    lia
   refine ⟨ca,_,rfl,yh,(by rw [cN];lia),λH3 a s3 Px ha=> ?_⟩
   have s13:=s1.trans (s2.trans s3)
   refine k H3 a l as (B.same s13) (Eb.same s13) (s1.free (s2.free Px)) ?_
   rw [ha,rV]
abbrev qw:Stmt:=iB 57
theorem vf:bt ["house","number","packet","refused"] ["house","number","packet"] (aJ qw):=⟨rfl,rfl,rfl,by decide +kernel,rfl,by decide +kernel,by decide +kernel⟩
def To (G U:Addr):Sp:=λvs H Q _=>∃(h l:Addr) (as:List Addr) (s:l9) (g p:Int),vs=[.ref h,.int g,.int p]/\fK G U H h l as s.n s.c s.games/\Qm.Ok s/\wK G U h l as H (step s (.turn g p)) Q
theorem Ry (D:Df K mg "call_turn" qw) (T:Tx K mg G U) (gD:dQ P w K mg base 2 "chain_refusal" ["house","number","packet"] (OO G U)) (jk:dQ P w K mg base 4 "turn_chain" ["house","start","packet"] (OH G U)):dQ P w K mg base 5 "call_turn" ["house","number","packet"] (To G U):=by
 obtain ⟨f,fd,M,F⟩:=D
 refine ⟨f,fd,M,F.kp,F.cC (λ_ _ _ _ _ _ us hl=>(match us,hl with|[_,_,_],_=>rfl)),F.ok vf (λvs H Q E h=> ?_) (λcdv A bE s H vs Q E hr h=> ?_)⟩
 ·obtain ⟨h,l,as,s,g,p,rfl,_⟩:=h
  rfl
 ·obtain ⟨h,l,as,s,g,p,rfl,B,O,k⟩:=h
  refine ⟨_,(ai (bx (i:=3) vf.nd rfl (Or.inl rfl) (bW gD (hr.bY (by decide)) (aa (pv 0) (aa (pv 1) (aa (pv 2) ah))))) (ai (cP (bo mP (pv 3) (dr T.mE) (bN _)) (aq (aV (cf (aa (pv 3) ah)))) bF) (aq (aV (cf (aa (bW jk (hr.bY (by decide)) (aa (pv 0) (aa (pv 1) (aa (pv 2) ah)))) ah)))))),?_⟩
  have gM:step s (.turn g p)=onChain s g p λi p=>({s with games:=Vbqzak.exchanged s.games i p},[whole (Vbqzak.chain s.games i p).length]):=rfl
  refine ⟨_,rfl,_,rfl,_,rfl,h,l,as,s,g,p,rfl,B,O,λH1 r s1 B8=> ?_⟩
  refine ⟨_,rfl,rfl,_,rfl,?_⟩
  rcases B8 with ⟨IB,e⟩|⟨rfl,i,q,pp,rfl,rfl,hq,ua,WZ,e⟩
  ·rw [gM,e] at k
   rw [a8 (show ¬V.int r=V.int 0 from λz=>IB (V.int.inj z))]
   exact ij ⟨_,rfl,(by show 1<=sizeLine;decide),λp hp=>k.ir B s1 hp⟩
  ·rw [gM,e] at k
   refine i0 ?_
   refine ⟨_,rfl,_,rfl,_,rfl,h,l,as,s.n,s.c,s.games,i,pp,q,rfl,B.same s1,O.len,hq,ua,λH2 B2 kp2=> ?_⟩
   exact ⟨(by show 1<=sizeLine;decide),λp hp=>k.sX B B2 ((Kp.of s1).trans kp2) hp⟩
abbrev nW:Stmt:=iB 58
theorem rX:bt ["house","got"] ["house"] (aJ nW):=⟨rfl,rfl,rfl,by decide +kernel,rfl,by decide +kernel,by decide +kernel⟩
def Tf (G U:Addr):Sp:=λvs H Q _=>∃(h l:Addr) (as:List Addr) (s:l9),vs=[.ref h]/\fK G U H h l as s.n s.c s.games/\Qm.Ok s/\wK G U h l as H (step s .greedy) Q
theorem RN (D:Df K mg "call_greedy" nW) (T:Tx K mg G U) (mJ:dQ P w K mg base 5 "pack_greedily" ["house"] (QQ G U)) (cz:ph P w K mg base 1 U "games_without_packet" ["self"] (LG G U)):dQ P w K mg base 6 "call_greedy" ["house"] (Tf G U):=by
 obtain ⟨f,fd,M,F⟩:=D
 refine ⟨f,fd,M,F.kp,F.cC (λ_ _ _ _ _ _ us hl=>(match us,hl with|[_],_=>rfl)),F.ok rX (λvs H Q E h=> ?_) (λcdv A bE s H vs Q E hr h=> ?_)⟩
 ·obtain ⟨h,l,as,s,rfl,_⟩:=h
  rfl
 ·obtain ⟨h,l,as,s,rfl,B,O,k⟩:=h
  refine ⟨_,(ai (bx (i:=1) rX.nd rfl (Or.inl rfl) (bW mJ (hr.bY (by decide)) (aa (pv 0) ah))) (aq (aV (cf (aa (pv 1) (aa (bT (fF (K:=K)) (by rfl) T.len bh (aa (yO cz T.a7 (hr.bY (by decide)) (pv 0)) ah)) ah)))))),?_⟩
  have gM:step s .greedy=({s with games:=Vbqzak.greedy s.games s.c},[whole (Vbqzak.bare s.games-Vbqzak.bare (Vbqzak.greedy s.games s.c)),whole (Vbqzak.bare (Vbqzak.greedy s.games s.c))]):=rfl
  rw [gM] at k
  refine ⟨_,rfl,h,l,as,s.n,s.c,s.games,rfl,B,O.len,O.JQ,Qm.Iz.start O.fH O.pk,λH1 B1 kp1=> ?_⟩
  obtain ⟨dh,dd,hh⟩:=B1.hs
  have hl1:(Vbqzak.greedy s.games s.c).length<=30:=O.greedy.len
  refine ⟨_,rfl,_,rfl,h,dh,_,rfl,hh,rfl,h,l,as,s.n,s.c,_,rfl,B1,hl1,λH2 D s2 Vy hD=> ?_⟩
  refine ⟨D,_,rfl,.inl (cE.of hD),(by show 2<=sizeLine;decide),λp hp=> ?_⟩
  rw [af,j4 _ _ B1.len]
  exact k.sX B (B1.same s2) (kp1.trans (Kp.of s2)) hp
abbrev qF:Stmt:=iB 61
theorem Bb:bt ["house"] ["house"] (aJ qF):=⟨rfl,rfl,rfl,by decide +kernel,rfl,by decide +kernel,by decide +kernel⟩
def SX (G U:Addr):Sp:=λvs H Q _=>∃(h l:Addr) (as:List Addr) (s:l9),vs=[.ref h]/\fK G U H h l as s.n s.c s.games/\Qm.Ok s/\wK G U h l as H (step s .even) Q
theorem TF (D:Df K mg "call_even" qF) (T:Tx K mg G U) (uN:dQ P w K mg base 5 "even_out" ["house"] (Qy G U)) (cz:ph P w K mg base 1 U "games_without_packet" ["self"] (LG G U)):dQ P w K mg base 6 "call_even" ["house"] (SX G U):=by
 obtain ⟨f,fd,M,F⟩:=D
 refine ⟨f,fd,M,F.kp,F.cC (λ_ _ _ _ _ _ us hl=>(match us,hl with|[_],_=>rfl)),F.ok Bb (λvs H Q E h=> ?_) (λcdv A bE s H vs Q E hr h=> ?_)⟩
 ·obtain ⟨h,l,as,s,rfl,_⟩:=h
  rfl
 ·obtain ⟨h,l,as,s,rfl,B,O,k⟩:=h
  refine ⟨_,(ai (cP (yy (K:=K) (yO cz T.a7 (hr.bY (by decide)) (pv 0))) (aq (aV (cf (aa (dr T.pY) ah)))) bF) (aq (aV (cf (aa (bW uN (hr.bY (by decide)) (aa (pv 0) ah)) ah))))),?_⟩
  have gM:step s .even=if Vbqzak.bare s.games≠0 then no s (-3) else ({s with games:=(Vbqzak.even s.c 1000 s.games).1},[whole (Vbqzak.even s.c 1000 s.games).2]):=rfl
  obtain ⟨dh,dd,hh⟩:=B.hs
  refine ⟨_,rfl,h,dh,_,rfl,hh,rfl,h,l,as,s.n,s.c,s.games,rfl,B,O.len,λH1 D s1 Vy hD=> ?_⟩
  refine ⟨!((pick as s.games λg=>g.p.isNone).map V.ref).isEmpty,.inl ⟨_,cE.of hD,rfl⟩,?_⟩
  have hb:((pick as s.games λg=>g.p.isNone).map V.ref).length=Vbqzak.bare s.games:=by
   rw [af,j4 _ _ B.len]
   rfl
  refine gr (λe1=> ?_) (λe1=> ?_)
  ·have h0:Vbqzak.bare s.games≠0:=λz=>by
    rw [z] at hb
    rw [fE hb] at e1
    cases e1
   rw [gM,aA h0] at k
   exact ⟨(by show 1<=sizeLine;decide),λp hp=>k.ir B s1 hp⟩
  ·have h0:Vbqzak.bare s.games=0:=by
    rw [<-hb]
    cases e:(pick as s.games λg=>g.p.isNone).map V.ref with
    |nil=>rfl
    |cons x y=>rw [e] at e1;cases e1
   rw [gM,au (by simpa using h0)] at k
   refine ⟨_,rfl,h,l,as,s.n,s.c,s.games,rfl,B.same s1,O.len,O.c1,O.JQ,O.Ye,λH2 B2 kp2=> ?_⟩
   exact ⟨(by show 1<=sizeLine;decide),λp hp=>k.sX B B2 ((Kp.of s1).trans kp2) hp⟩
end
end Qz
end
section
namespace Qz
open PySem PySem.Spec PyProof.Rows L2
open Vbqzak (step onTwo onGame onPacket onChain inside teamIn isTeam no whole)
theorem Fo (l:List Nat):(Vbqzak.ints l).map V.int=nV l:=by
 unfold Vbqzak.ints nV
 rw [cX]
 rfl
theorem xh {gs:List Gm} {n:Nat}:(Vbqzak.oddRing gs n).length<=900:=by
 unfold Vbqzak.oddRing
 cases e:[3,5,7,9].findSome? λk=>Vbqzak.ringFrom gs n k [] with
 |none=>simp
 |some r=>
  obtain ⟨k,hk,h⟩:=eW e
  have key:∀(k:Nat) (l r:List Nat),Vbqzak.ringFrom gs n k l=some r->r.length=l.length+k:=by
   intro k
   induction k with
   |zero=>
    intro l r h
    unfold Vbqzak.ringFrom at h
    split at h
    ·split at h
     ·have:=Option.some.inj h
      rw [this]
      rfl
     ·cases h
    ·cases h
   |succ k ih=>
    intro l r h
    unfold Vbqzak.ringFrom at h
    obtain ⟨y,_,h5⟩:=eW h
    split at h5
    ·cases h5
    ·cases hx:l.getLast? with
     |none=>
      rw [hx] at h5
      have h5:Vbqzak.ringFrom gs n k [y]=some r:=h5
      have e0:l=[]:=gu.mp hx
      rw [ih _ _ h5,e0]
      simp
      lia
     |some x=>
      rw [hx] at h5
      simp only at h5
      split at h5
      ·rw [ih _ _ h5,ao]
       simp
       lia
      ·cases h5
  have hr:=key k [] r h
  show r.length<=900
  rw [hr]
  simp at hk
  simp
  lia
section
variable {P:Program} {w:World} {K:PySem.W.Frag} {mg:Str->Option Value} {base:Heap} {G U:Addr}
abbrev pq:Stmt:=iB 59
theorem tP:bt ["house","sides"] ["house"] (aJ pq):=⟨rfl,rfl,rfl,by decide +kernel,rfl,by decide +kernel,by decide +kernel⟩
def QK (G U:Addr):Sp:=λvs H Q _=>∃(h l:Addr) (as:List Addr) (s:l9),vs=[.ref h]/\fK G U H h l as s.n s.c s.games/\Qm.Ok s/\wK G U h l as H (step s .sides) Q
theorem wX {gs:List Gm} {n:Nat} (hn:2<=n):(!(nV (u7 gs n)).isEmpty)=Vbqzak.twoSides gs n:=by
 unfold u7
 cases e:Vbqzak.twoSides gs n
 ·rw [au (by simp)]
  rfl
 ·rw [aA rfl]
  obtain ⟨m,rfl⟩:∃m,n=m+1:=⟨n-1,by lia⟩
  unfold Qm.qD nV
  rw [cT,a4,a4]
  simp
theorem Tn (D:Df K mg "call_sides" pq) (T:Tx K mg G U) (kb:dQ P w K mg base 3 "two_sides" ["house"] (NU G U)) (uO:dQ P w K mg base 4 "odd_ring" ["house"] (Qu G U)) (fu:dQ P w K mg base 1 "as_list" ["numbers"] HJ):dQ P w K mg base 5 "call_sides" ["house"] (QK G U):=by
 obtain ⟨f,fd,M,F⟩:=D
 refine ⟨f,fd,M,F.kp,F.cC (λ_ _ _ _ _ _ us hl=>(match us,hl with|[_],_=>rfl)),F.ok tP (λvs H Q E h=> ?_) (λcdv A bE s H vs Q E hr h=> ?_)⟩
 ·obtain ⟨h,l,as,s,rfl,_⟩:=h
  rfl
 ·obtain ⟨h,l,as,s,rfl,B,O,k⟩:=h
  refine ⟨_,(ai (bx (i:=1) tP.nd rfl (Or.inl rfl) (bW kb (hr.bY (by decide)) (aa (pv 0) ah))) (ai (cP (yy (K:=K) (pv 1)) (aq (aV (eY sr (cf (aa bc ah)) (pv 1)))) bF) (aq (aV (eY sr (cf (aa bc ah)) (bW fu (hr.bY (by decide)) (aa (bW uO (hr.bY (by decide)) (aa (pv 0) ah)) ah))))))),?_⟩
  have gM:step s .sides=(s,if Vbqzak.twoSides s.games s.n=true then 1::Vbqzak.ints ((List.range s.n).map (Vbqzak.sideOf s.games s.n)) else 0::Vbqzak.listed (Vbqzak.oddRing s.games s.n)):=rfl
  refine ⟨_,rfl,h,l,as,s.n,s.c,s.games,rfl,B,O.len,O.zo,O.vN,O.wf,λH1 p s1 K1 hp=> ?_⟩
  refine ⟨_,rfl,!(nV (u7 s.games s.n)).isEmpty,.inl ⟨_,cE.of hp,rfl⟩,?_⟩
  rw [wX O.n2]
  refine gr (λe1=> ?_) (λe1=> ?_)
  ·rw [gM,aA e1] at k
   have e2:u7 s.games s.n=Qm.qD s.games s.n:=by unfold u7;rw [aA e1]
   rw [e2] at hp
   refine ⟨(by show 1<=sizeLine;decide),λq hq=> ?_⟩
   have ua:p≠q:=az hp hq
   refine ⟨_,rfl,q,p,_,_,rfl,rfl,aj,(by rw [aL ua];exact hp),?_,λr hr=> ?_⟩
   ·rw [cN]
    unfold Qm.qD
    rw [af,aM]
    have:=O.zo
    exact xt (by simp;lia)
   ·have s2:bB H1 (bG H1 q (.a6 [.int 1])):=aN hq
    have:=k.ir B (s1.trans s2) hr
    rw [bA,Fo] at this
    exact this
  ·rw [gM,au (by rw [e1];simp)] at k
   refine ⟨(by show 1<=sizeLine;decide),λq hq=> ?_⟩
   have s2:bB H1 (bG H1 q (.a6 [.int 0])):=aN hq
   refine ⟨_,rfl,h,l,as,s.n,s.c,s.games,rfl,B.same (s1.trans s2),O.len,O.n2,O.zo,O.vN,O.wf,λH3 r s3 IB hr=> ?_⟩
   refine ⟨r,_,rfl,hr,(by rw [cN];exact xh),λH4 t s4 Qj ht=> ?_⟩
   have UC:H4 q=some (.a6 [.int 0]):=s4 _ _ (s3 _ _ aj)
   refine ⟨q,t,_,_,rfl,rfl,UC,ht,?_,λu hu=> ?_⟩
   ·have h1:=xh (gs:=s.games) (n:=s.n)
    have h2:=cN (Vbqzak.oddRing s.games s.n)
    exact xt (by simp;lia)
   ·have:=k.ir B (s1.trans (s2.trans (s3.trans s4))) hu
    rw [bA,rV] at this
    exact this
abbrev qH:Stmt:=iB 60
theorem vv:bt ["house","team"] ["house"] (aJ qH):=⟨rfl,rfl,rfl,by decide +kernel,rfl,by decide +kernel,by decide +kernel⟩
def QP (G U:Addr):Sp:=λvs H Q _=>∃(h l:Addr) (as:List Addr) (s:l9),vs=[.ref h]/\fK G U H h l as s.n s.c s.games/\Qm.Ok s/\wK G U h l as H (step s .anew) Q
theorem Rp (D:Df K mg "call_anew" qH) (T:Tx K mg G U) (kb:dQ P w K mg base 3 "two_sides" ["house"] (NU G U)) (sT:dQ P w K mg base 6 "pack_anew" ["house"] (Q9 G U)) (d4:ph P w K mg base 2 U "games_of" ["self","team"] (Lk G U)):dQ P w K mg base 7 "call_anew" ["house"] (QP G U):=by
 obtain ⟨f,fd,M,F⟩:=D
 refine ⟨f,fd,M,F.kp,F.cC (λ_ _ _ _ _ _ us hl=>(match us,hl with|[_],_=>rfl)),F.ok vv (λvs H Q E h=> ?_) (λcdv A bE s H vs Q E hr h=> ?_)⟩
 ·obtain ⟨h,l,as,s,rfl,_⟩:=h
  rfl
 ·obtain ⟨h,l,as,s,rfl,B,O,k⟩:=h
  refine ⟨_,(ai (cP (uv (yy (K:=K) (bW kb (hr.bY (by decide)) (aa (pv 0) ah)))) (aq (aV (cf (aa (dr T.xK) ah)))) bF) (ai (d8 aT rfl (d3 rfl T.range (aa (cw (K:=K) (pv 0)) ah)) (cu (i:=1) vv.nd rfl (Or.inl rfl)) (aq (cP (bo zi (bT (fF (K:=K)) (by rfl) T.len bh (aa (g7 d4 T.a7 (hr.bY (by decide)) (pv 0) (aa (pv 1) ah)) ah)) (cw (K:=K) (pv 0)) (bN _)) (aq (aV (cf (aa bc (aa (pv 1) ah))))) bF))) (ai (dS (bW sT (hr.bY (by decide)) (aa (pv 0) ah))) (aq (aV (cf (aa bc ah))))))),?_⟩
  have gM:step s .anew=if Vbqzak.twoSides s.games s.n=false then no s (-8) else match Vbqzak.tooMany s.games s.n s.c with
   |some t=>(s,[0,whole t])
   |none=>({s with games:=Vbqzak.anew s.games s.c},[1]):=rfl
  refine ⟨_,rfl,h,l,as,s.n,s.c,s.games,rfl,B,O.len,O.zo,O.vN,O.wf,λH1 p s1 K1 hp=> ?_⟩
  refine ⟨!(nV (u7 s.games s.n)).isEmpty,.inl ⟨_,cE.of hp,rfl⟩,?_⟩
  rw [wX O.n2]
  refine gr (λe1=> ?_) (λe1=> ?_)
  ·have e2:Vbqzak.twoSides s.games s.n=false:=by simpa using e1
   rw [gM,aA e2] at k
   exact ⟨(by show 1<=sizeLine;decide),λq hq=>k.ir B s1 hq⟩
  ·have e2:Vbqzak.twoSides s.games s.n=true:=by simpa using e1
   rw [gM,au (by rw [e2];simp)] at k
   have B1:=B.same s1
   obtain ⟨dh,dd,hh⟩:=B1.hs
   have KH:=O.zo
   refine ⟨_,rfl,fI hh T.a7 T.u1 rfl ⟨_,rfl,(by lia),(by lia),?_⟩⟩
   refine fP (Pv:=λt σ H'=>bB H H'/\(∃v1:Option V,σ=[some (.ref h),v1])/\∀y,y< t->decide (s.c< Vbqzak.degree s.games y)=false) ⟨s1,⟨none,rfl⟩,λy hy=>absurd hy (cF _)⟩ ?_ ?_
   ·rintro t σ H2 ht ⟨s2,⟨v1,rfl⟩,hno⟩
    rw [aK] at ht
    have B2:=B.same s2
    obtain ⟨GU,dd2,BY⟩:=B2.hs
    rw [di]
    refine ⟨_,rfl,h,GU,_,rfl,BY,rfl,_,rfl,h,l,as,s.n,s.c,s.games,t,rfl,B2,O.len,λH3 D s3 Vy hD=> ?_⟩
    have Xv:=s2.trans s3
    obtain ⟨Vw,Vx,hh3⟩:=(B.same Xv).hs
    refine ⟨D,_,rfl,.inl (cE.of hD),_,rfl,fI hh3 T.a7 T.u2 rfl ⟨_,_,rfl,rfl,_,rfl,?_⟩⟩
    rw [af,j4 _ _ B.len]
    have ed:(s.games.filter λg=>Vbqzak.has g t).length=Vbqzak.degree s.games t:=rfl
    rw [ed]
    refine l4 (λe3=> ?_) (λe3=> ?_)
    ·have e4:s.c< Vbqzak.degree s.games t:=by
      have:=bw e3
      lia
     have e5:Vbqzak.tooMany s.games s.n s.c=some t:=xN ht (aW e4) hno
     rw [e5] at k
     refine ⟨_,rfl,(by show 2<=sizeLine;decide),λq hq=>k.ir B Xv hq⟩
    ·refine ⟨Xv,⟨_,rfl⟩,λy hy=> ?_⟩
     by_cases UD:y=t
     ·rw [UD]
      exact a8 λz=>e3 (aW (by lia))
     ·exact hno y (by lia)
   ·rintro σ H2 ⟨s2,⟨v1,rfl⟩,hno⟩
    rw [aK] at hno
    have e5:Vbqzak.tooMany s.games s.n s.c=none:=AS hno
    rw [e5] at k
    have hd:∀x∈s.games,Vbqzak.degree s.games x.a<=s.c/\Vbqzak.degree s.games x.b<=s.c:=λx hx=>by
     obtain ⟨h1,h2⟩:=O.vN x hx
     exact ⟨Qm.vA e5 h1,Qm.vA e5 h2⟩
    refine ⟨_,rfl,h,l,as,s.n,s.c,s.games,λt=>Vbqzak.sideOf s.games s.n t==0,rfl,B.same s2,O.len,O.JQ,λx hx=>Qm.Au e2 x hx,hd,λH3 B3 kp3=> ?_⟩
    exact ⟨(by show 1<=sizeLine;decide),λq hq=>k.sX B B3 ((Kp.of s2).trans kp3) hq⟩
end
end Qz
end
section
namespace Qm
open Vbqzak
theorem Ok.Wm {s:State} (O:Ok s) (b:List (Nat×Nat)):Ok {s with barred:=b}:=⟨O.n2,O.zo,O.c1,O.JQ,O.len,O.vN,O.wf,O.fH,O.pk⟩
end Qm
end
section
namespace Qm
open Vbqzak
theorem mW (s:State) (x y:Nat):mayPair s x y=mayPair s y x:=by
 unfold mayPair
 have h1:(x !=y)=(y !=x):=by rw [bne_comm]
 have h2:plays s.games x y=plays s.games y x:=by
  unfold plays
  congr 1
  funext g
  exact uU _ _
 have h3:pairOf x y=pairOf y x:=by
  unfold pairOf
  rw [Nat.min_comm,Nat.max_comm]
 rw [h1,h2,h3]
theorem tQ (s:State) (l:List Nat):∀(k:Nat) (q:List Nat),pieceFrom s l k q=mr l (mayPair s) k q
 |0,_=>rfl
 |k+1,q=>tQ s l k (nearIn s l q)
theorem mZ (s:State) (l:List Nat) (x:Nat):piece s l x=mr l (mayPair s) l.length [x]:=tQ s l _ _
section
variable {s:State} {l:List Nat} (hl:l.Pairwise (·< ·))
include hl
theorem GR:l.Nodup:=hl.imp λh=>bO h
omit hl in
theorem uB {x:Nat} (hx:x∈l):x∈piece s l x:=by rw [mZ];exact sD hx _
omit hl in
theorem mY {x y:Nat} (hx:x∈l) (hy:y∈piece s l x):y∈l:=by
 rw [mZ] at hy
 exact mX (by simpa using hx) _ y hy
theorem jj {x:Nat} (hx:x∈l):(piece s l x).Pairwise (·< ·):=by
 have TN:0< l.length:=ic hx
 obtain ⟨k,hk⟩:∃k,l.length=k+1:=⟨l.length-1,by lia⟩
 rw [mZ,hk,gC]
 exact hl.sublist cK
theorem qN {x y z:Nat} (hx:x∈l) (hy:y∈piece s l x) (hz:z∈l) (h:mayPair s z y=true):z∈piece s l x:=by
 rw [mZ] at hy ⊢
 exact nN (GR hl) hx (aF _) hz hy h
omit hl in
theorem wZ {x:Nat} {S:Nat->Prop} (h0:S x) (hS:∀z y,z∈l->S y->mayPair s z y=true->S z):∀y∈piece s l x,S y:=by
 rw [mZ]
 exact lz hS _ _ (by simpa using h0)
theorem uK {x y:Nat} (hx:x∈l) (hy:y∈piece s l x):x∈piece s l y:=by
 rw [mZ] at hy ⊢
 exact Dq (GR hl) (mW s) hx (aF _) hy
theorem wQ {x y z:Nat} (hx:x∈l) (hy:y∈piece s l x) (hz:z∈piece s l y):z∈piece s l x:=
 wZ (S:=λz=>z∈piece s l x) hy (λa b ha hb h=>qN hl hx hb ha h) z hz
theorem uu {x y:Nat} (hx:x∈l) (hy:y∈piece s l x):piece s l y=piece s l x:=by
 have hyl:=mY hx hy
 refine yw (jj hl hyl) (jj hl hx) λz=>⟨wQ hl hx hy,λhz=> ?_⟩
 exact wQ hl hyl (uK hl hx hy) hz
omit hl in
theorem EG {q:List Nat} (hq:q.Pairwise (·< ·)) {x:Nat} (hx:x∈q):q.head? =some x↔∀y∈q,x<=y:=by
 cases q with
 |nil=>cases hx
 |cons a q=>
  rw [fk] at hq
  constructor
  ·intro e y hy
   have e:a=x:=Option.some.inj e
   subst e
   rcases aX.mp hy with e|hy
   ·lia
   ·exact dM (hq.1 y hy)
  ·intro h
   rcases aX.mp hx with e|hx
   ·rw [e];rfl
   ·have h1:=hq.1 x hx
    have h2:=h a aP
    lia
theorem Ah {x:Nat} (hx:x∈l):(piece s l x).head? =some x↔∀y∈l,y< x->x∉piece s l y:=by
 rw [EG (jj hl hx) (uB hx)]
 constructor
 ·intro h y hy hlt hm
  have:=h y (uK hl hy hm)
  lia
 ·intro h y hy
  by_cases hlt:y< x
  ·exact absurd (uK hl hx hy) (h y (mY hx hy) hlt)
  ·lia
end
end Qm
end
section
namespace Qm
open Vbqzak
def jM (gs:List Game) (t:Nat):List Nat:=gs.filterMap λg=>if has g t=true then g.p else none
theorem Dk {gs:List Game} {t q:Nat}:q∈jM gs t↔hears gs t q=true:=by
 unfold jM hears
 rw [h8,cD]
 constructor
 ·rintro ⟨g,hg,h⟩
  refine ⟨g,hg,?_⟩
  by_cases e:has g t=true
  ·rw [aA e] at h
   simp [e,h]
  ·rw [au e] at h
   cases h
 ·rintro ⟨g,hg,h⟩
  rw [aR] at h
  exact ⟨g,hg,by rw [aA h.1];simpa using h.2⟩
theorem G2 {x y:Game} {t:Nat} (h1:has x t=true) (h2:has y t=true):meets x y=true:=by
 unfold meets
 unfold has at h2 ⊢
 unfold has at h1
 simp only [bH,cR] at*
 lia
theorem zC {gs:List Game} (P:eT gs) (t:Nat):(jM gs t).Nodup:=by
 have key:∀(gs:List Game),gs.Pairwise (λx y=>∀q,x.p=some q->y.p=some q->meets x y=false)->(jM gs t).Nodup:=by
  intro gs
  induction gs with
  |nil=>intro _;exact iV
  |cons x gs ih=>
   intro h
   rw [fk] at h
   have e:jM (x::gs) t=(if has x t=true then x.p else none).toList++jM gs t:=by
    unfold jM
    rw [dG]
    cases (if has x t=true then x.p else none)<;>rfl
   rw [e,cc]
   refine ⟨by cases (if has x t=true then x.p else none)<;>simp,ih h.2,λa ha b hb e2=> ?_⟩
   subst e2
   by_cases hx:has x t=true
   ·rw [aA hx] at ha
    have Z8:x.p=some a:=by
     cases e3:x.p with
     |none=>rw [e3] at ha;simp at ha
     |some q=>rw [e3] at ha;simp at ha;rw [ha]
    unfold jM at hb
    rw [h8] at hb
    obtain ⟨y,hy,h2⟩:=hb
    by_cases UD:has y t=true
    ·rw [aA UD] at h2
     have:=h.1 y hy a Z8 h2
     rw [G2 hx UD] at this
     cases this
    ·rw [au UD] at h2
     cases h2
   ·rw [au hx] at ha
    simp at ha
 refine key gs ?_
 rw [fg]
 intro i j hi hj hij q h1 h2
 exact P i j gs[i] gs[j] q (by lia) (ab hi) (ab hj) h1 h2
theorem BA {gs:List Game} (P:eT gs) {c t:Nat} (hp:∀(k q:Nat),packetOf gs k=some q->q< c) {ns:List Int} (h1:ns.Perm ((jM gs t).map λk=>((k:Nat):Int))) (h2:ns.Pairwise (·<=·)):
  ns=((List.range c).filter λq=>hears gs t q).map λk=>((k:Nat):Int):=by
 have sd:((List.range c).filter λq=>hears gs t q).Pairwise (·< ·):=lV _ dZ
 refine fz (le:=(·<=·)) (λa b _ _ h1 h2=>mC h1 h2) h2 ?_ (h1.trans ?_)
 ·rw [eV]
  exact sd.imp λh=>by lia
 ·refine List.Perm.map _ ?_
  rw [df (zC P t) (sd.imp λh=>by lia)]
  intro q
  rw [Dk,bU,cQ]
  refine ⟨λh=>⟨?_,h⟩,λh=>h.2⟩
  have h3:=h
  unfold hears at h3
  obtain ⟨g,hg,h4⟩:=cD.mp h3
  obtain ⟨i,hi⟩:=a9.mp hg
  rw [aR] at h4
  exact hp i q (by rw [ck hi];simpa using h4.2)
theorem HD (gs:List Game) {a b:Nat} (hab:a≠b):plays gs a b=decide ((gs.filter λg=>has g a&&has g b).length≠0):=by
 have e:∀g:Game,((g.a==a&&g.b==b)||(g.a==b&&g.b==a))=(has g a&&has g b):=λg=>by
  unfold has
  rw [dW]
  simp only [bH,aR,cR]
  lia
 unfold plays
 rw [show (gs.any λg=>(g.a==a&&g.b==b)||(g.a==b&&g.b==a))=gs.any λg=>has g a&&has g b from cS _ (funext e)]
 cases h:gs.any λg=>has g a&&has g b
 ·rw [kg] at h
  have:(gs.filter λg=>has g a&&has g b)=[]:=List.filter_eq_nil_iff.mpr h
  rw [this]
  simp
 ·obtain ⟨g,hg,h2⟩:=cD.mp h
  have:g∈gs.filter λg=>has g a&&has g b:=bU.mpr ⟨hg,h2⟩
  have:=ic this
  rw [eq_comm,cJ]
  lia
theorem Dx (s:State) {a b:Nat} (hab:a≠b):mayPair s a b=(!(s.barred.contains (pairOf a b))&&decide ((s.games.filter λg=>has g a&&has g b).length=0)):=by
 unfold mayPair
 rw [HD s.games hab]
 have:(a !=b)=true:=by simpa using hab
 rw [this,oT,tN]
 congr 1
 rw [<-decide_not]
 simp
def jA (s:State) (t:Nat):List Nat:=(List.range s.n).filter λy=>mayPair s t y
theorem j3 {s:State} {t y:Nat}:y∈jA s t↔y< s.n/\mayPair s t y=true:=by
 unfold jA
 rw [bU,cQ]
theorem J7 (l:List (Nat×Nat)) (p q:Nat×Nat):(((l.filter λt=>t !=p)++[p]).contains q)=if q=p then true else l.contains q:=by
 by_cases h:q=p
 ·subst h
  rw [aA rfl]
  simp
 ·rw [au h]
  rw [dW]
  simp [h]
theorem Hy (l:List (Nat×Nat)) (p q:Nat×Nat):((l.filter λt=>t !=p).contains q)=if q=p then false else l.contains q:=by
 by_cases h:q=p
 ·subst h
  rw [aA rfl]
  simp
 ·rw [au h]
  rw [dW]
  simp [h]
end Qm
end
section
namespace Qz
open PySem PySem.Spec PyProof.Rows L2
open Vbqzak (step onTwo onGame onPacket onChain inside teamIn isTeam no whole mayPair pairOf)
def zp (as:List Addr) (gs:List Gm) (p:Gm->Bool):List (Addr×Gm):=(as.zip gs).filter λt=>p t.2
theorem GH (as:List Addr) (gs:List Gm) (p:Gm->Bool):(pick as gs p).map V.ref=(zp as gs p).map λt=>V.ref t.1:=by
 unfold pick zp
 rw [cX]
 rfl
theorem Jr (as:List Addr) (gs:List Gm) (p:Gm->Bool):(zp as gs p).length<=gs.length:=by
 unfold zp
 refine bg (bQ _ _) ?_
 rw [List.length_zip]
 lia
theorem fK.zp {G U:Addr} {H:Hp} {h l:Addr} {as:List Addr} {n c:Nat} {gs:List Gm} (B:fK G U H h l as n c gs) {p:Gm->Bool} {t:Addr×Gm} (ht:t∈zp as gs p):∃dx,H t.1=some (.ke G dx (gf t.2)):=by
 unfold Qz.zp at ht
 obtain ⟨i,hi⟩:=a9.mp (bU.mp ht).1
 rw [List.getElem?_zip_eq_some] at hi
 exact B.vO i t.1 t.2 hi.1 hi.2
theorem Dn (t:Nat):∀(as:List Addr) (gs:List Gm),as.length=gs.length->(zp as gs λg=>Vbqzak.has g t).filterMap (λx=>x.2.p)=Qm.jM gs t
 |[],[],_=>rfl
 |[],_::_,h=>by cases h
 |_::_,[],h=>by cases h
 |a::as,g::gs,h=>by
  have ih:=Dn t as gs (by simpa using h)
  unfold zp Qm.jM at ih ⊢
  rw [ng,dG]
  by_cases e:Vbqzak.has g t=true
  ·rw [aS (p:=λx:Addr×Gm=>Vbqzak.has x.2 t) e,aA e,dG,ih]
  ·rw [aO (p:=λx:Addr×Gm=>Vbqzak.has x.2 t) (by simpa using e),au e,ih]
theorem GN (p q:Gm->Bool):∀(as:List Addr) (gs:List Gm),as.length=gs.length->((zp as gs p).filter λx=>q x.2).length=(gs.filter λg=>p g&&q g).length
 |[],[],_=>rfl
 |[],_::_,h=>by cases h
 |_::_,[],h=>by cases h
 |a::as,g::gs,h=>by
  have ih:=GN p q as gs (by simpa using h)
  unfold zp at ih ⊢
  rw [ng]
  by_cases e:p g=true
  ·rw [aS (p:=λx:Addr×Gm=>p x.2) e]
   by_cases e2:q g=true
   ·rw [aS (p:=λx:Addr×Gm=>q x.2) e2,aS (p:=λg=>p g&&q g) (by rw [e,e2];rfl),aB,aB,ih]
   ·rw [aO (p:=λx:Addr×Gm=>q x.2) (by simpa using e2),aO (p:=λg=>p g&&q g) (by simp [e2]),ih]
  ·rw [aO (p:=λx:Addr×Gm=>p x.2) (by simpa using e),aO (p:=λg=>p g&&q g) (by simp [e]),ih]
theorem mm (a b:Nat):([V.int (if ((b:Nat):Int)< ((a:Nat):Int) then ((b:Nat):Int) else ((a:Nat):Int)),V.int (if ((b:Nat):Int)>((a:Nat):Int) then ((b:Nat):Int) else ((a:Nat):Int))]:List V)=(k2 (pairOf a b).1 (pairOf a b).2).map kV:=by
 show _=[V.int ((min a b:Nat):Int),V.int ((max a b:Nat):Int)]
 have e1:(if ((b:Nat):Int)< ((a:Nat):Int) then ((b:Nat):Int) else ((a:Nat):Int))=((min a b:Nat):Int):=by
  by_cases h:b< a
  ·rw [aA (by lia)];lia
  ·rw [au (by lia)];lia
 have e2:(if ((b:Nat):Int)>((a:Nat):Int) then ((b:Nat):Int) else ((a:Nat):Int))=((max a b:Nat):Int):=by
  by_cases h:b>a
  ·rw [aA (by lia)];lia
  ·rw [au (by lia)];lia
 rw [e1,e2]
section
variable {P:Program} {w:World} {K:PySem.W.Frag} {mg:Str->Option Value} {base:Heap} {G U:Addr}
abbrev gc:Stmt:=il (iB 9) 8
theorem iu:bt ["self","team","game"] ["self","team"] (aJ gc):=⟨rfl,rfl,rfl,by decide +kernel,rfl,by decide +kernel,by decide +kernel⟩
def Qw (G U:Addr):Sp:=λvs H Q _=>∃(h l:Addr) (as:List Addr) (n c:Nat) (gs:List Gm) (t:Nat),vs=[.ref h,.int t]/\fK G U H h l as n c gs/\gs.length<=30/\Qm.eT gs/\(∀(k q:Nat),Vbqzak.packetOf gs k=some q->q< c)/\
 ∀H' p,bB H H'->H p=none->H' p=some (.a6 (nV ((List.range c).filter λq=>Vbqzak.hears gs t q)))->Q (.ref p) H'
theorem Qs (D:Dm K U "packets_heard" "House.packets_heard" gc) (T:Tx K mg G U) (d4:ph P w K mg base 2 U "games_of" ["self","team"] (Lk G U)):ph P w K mg base 3 U "packets_heard" ["self","team"] (Qw G U):=by
 obtain ⟨f,fd,M,F⟩:=D
 refine ⟨f,fd,M,F.cC (λ_ _ _ _ _ _ us hl=>(match us,hl with|[_,_],_=>rfl)),F.ok iu (λvs H Q E h=> ?_) (λcdv A bE s H vs Q E hr h=> ?_)⟩
 ·obtain ⟨h,l,as,n,c,gs,t,rfl,_⟩:=h
  rfl
 ·obtain ⟨h,l,as,n,c,gs,t,rfl,B,hlen,Pr,Z9,k⟩:=h
  obtain ⟨dh,dd,hh⟩:=B.hs
  refine ⟨_,(aq (aV (bT (Cm (K:=K)) (by rfl) T.sf fA (aa (mh rfl iu.nd (iU:=[("game",2)]) (fo (K:=K) (g7 d4 T.a7 (hr.bY (by decide)) (pv 0) (aa (pv 1) ah))) (eC (by show nP ["self","team","game"] (aJ gc) _ _=true;decide +kernel)) (λ_ _ _ _ _=>(cu (i:=2) iu.nd rfl (Or.inl rfl))) (λ_ _ _ _ _=>by exact (lT (bo mP (cw (K:=K) (pv 2)) (dr T.gH) (bN _)))) (λ_ _ _ _ _=>by exact (cw (K:=K) (pv 2)))) ah)))),?_⟩
  refine ⟨_,rfl,h,dh,_,rfl,hh,rfl,_,rfl,h,l,as,n,c,gs,t,rfl,B,hlen,λH1 p1 s1 uM hl1=> ?_⟩
  rw [GH] at hl1
  have zl:=Jr as gs λg=>Vbqzak.has g t
  refine ⟨p1,rfl,⟨_,cE.of hl1⟩,λD hD=> ?_⟩
  refine jK (K:=K) (a:=p1) (xs:=(zp as gs λg=>Vbqzak.has g t).map λx=>V.ref x.1) (Pv:=λj H2=>bB H1 H2/\H2 D=some (.a6 (nV (((zp as gs λg=>Vbqzak.has g t).take j).filterMap λx=>x.2.p)))) ⟨aN hD,aj⟩ (λj H2 _ p=>p.1.seq (cE.of hl1)) ?_ ?_
  ·rintro j x H2 hx ⟨s2,iE⟩
   rw [ay] at hx
   cases et:(zp as gs λg=>Vbqzak.has g t)[j]? with
   |none=>rw [et] at hx;cases hx
   |some z=>
    rw [et] at hx
    have hx:V.ref z.1=x:=Option.some.inj hx
    subst hx
    obtain ⟨dx,hg⟩:=((B.same s1).same s2).zp (aw et)
    refine ⟨rfl,_,rfl,fI hg T.cq T.g3 (eQ _) ⟨rfl,_,rfl,?_⟩⟩
    rw [mU]
    cases ep:z.2.p with
    |none=>
     refine i0 ⟨s2,?_⟩
     rw [c4 et,rg,dG,ep,ue,bR]
     exact iE
    |some q=>
     refine ij ⟨_,rfl,fI hg T.cq T.g3 (eQ _) ⟨_,iE,?_,c6 s2 hD,?_⟩⟩
     ·rw [cN]
      refine cv (bg (oU _ _) ?_)
      rw [bf]
      lia
     ·rw [aj,c4 et,rg,dG,ep,ue,fB]
      rfl
  ·rintro H2 ⟨s2,iE⟩
   rw [af,bu,Dn t as gs B.len,oF] at iE
   have hlen2:(Qm.jM gs t).length<=30:=bg (oU _ _) hlen
   refine ⟨D,_,rfl,cE.of iE,(by rw [af];lia),λns' p h1 h2 hp=> ?_⟩
   have e:=Qm.BA Pr Z9 h1 h2
   refine k _ p ?_ ?_ ?_
   ·exact (s1.trans s2).trans (aN hp)
   ·exact s1.free (s2.free hp)
   ·rw [aj,e,<-oF]
abbrev fQ:Stmt:=il (iB 9) 9
theorem g6:bt ["self","one","other","game"] ["self","one","other"] (aJ fQ):=⟨rfl,rfl,rfl,by decide +kernel,rfl,by decide +kernel,by decide +kernel⟩
def OS (G U:Addr):Sp:=λvs H Q _=>∃(h l:Addr) (as:List Addr) (n c:Nat) (gs:List Gm) (a b:Nat),vs=[.ref h,.int a,.int b]/\fK G U H h l as n c gs/\gs.length<=30/\
 ∀H',bB H H'->Q (.int ((gs.filter λg=>Vbqzak.has g a&&Vbqzak.has g b).length:Nat)) H'
theorem S9 (D:Dm K U "games_together" "House.games_together" fQ) (T:Tx K mg G U) (d4:ph P w K mg base 2 U "games_of" ["self","team"] (Lk G U)) (dn:ph P w K mg base 1 G "has_team" ["self","team"] (Jh G)):ph P w K mg base 3 U "games_together" ["self","one","other"] (OS G U):=by
 obtain ⟨f,fd,M,F⟩:=D
 refine ⟨f,fd,M,F.cC (λ_ _ _ _ _ _ us hl=>(match us,hl with|[_,_,_],_=>rfl)),F.ok g6 (λvs H Q E h=> ?_) (λcdv A bE s H vs Q E hr h=> ?_)⟩
 ·obtain ⟨h,l,as,n,c,gs,a,b,rfl,_⟩:=h
  rfl
 ·obtain ⟨h,l,as,n,c,gs,a,b,rfl,B,hlen,k⟩:=h
  obtain ⟨dh,dd,hh⟩:=B.hs
  refine ⟨_,(aq (aV (bT (fF (K:=K)) (by rfl) T.len bh (aa (mh rfl g6.nd (iU:=[("game",3)]) (fo (K:=K) (g7 d4 T.a7 (hr.bY (by decide)) (pv 0) (aa (pv 1) ah))) (eC (by show nP ["self","one","other","game"] (aJ fQ) _ _=true;decide +kernel)) (λ_ _ _ _ _=>(cu (i:=3) g6.nd rfl (Or.inl rfl))) (λ_ _ _ _ _=>by exact (lT (iP (g7 dn T.cq (hr.bY (by decide)) (pv 3) (aa (pv 2) ah))))) (λ_ _ _ _ _=>by exact (pv 3))) ah)))),?_⟩
  refine ⟨_,rfl,h,dh,_,rfl,hh,rfl,_,rfl,h,l,as,n,c,gs,a,rfl,B,hlen,λH1 p1 s1 uM hl1=> ?_⟩
  rw [GH] at hl1
  have zl:=Jr as gs λg=>Vbqzak.has g a
  refine ⟨p1,rfl,⟨_,cE.of hl1⟩,λD hD=> ?_⟩
  refine jK (K:=K) (a:=p1) (xs:=(zp as gs λg=>Vbqzak.has g a).map λx=>V.ref x.1) (Pv:=λj H2=>bB H1 H2/\H2 D=some (.a6 ((((zp as gs λg=>Vbqzak.has g a).take j).filter λx=>Vbqzak.has x.2 b).map λx=>V.ref x.1))) ⟨aN hD,aj⟩ (λj H2 _ p=>p.1.seq (cE.of hl1)) ?_ ?_
  ·rintro j x H2 hx ⟨s2,iE⟩
   rw [ay] at hx
   cases et:(zp as gs λg=>Vbqzak.has g a)[j]? with
   |none=>rw [et] at hx;cases hx
   |some z=>
    rw [et] at hx
    have hx:V.ref z.1=x:=Option.some.inj hx
    subst hx
    obtain ⟨dx,hg⟩:=((B.same s1).same s2).zp (aw et)
    refine ⟨rfl,_,rfl,z.1,dx,_,rfl,hg,rfl,_,rfl,z.1,dx,z.2,b,rfl,hg,_,rfl,?_⟩
    refine gr (λe1=> ?_) (λe1=> ?_)
    ·refine ⟨_,rfl,_,iE,?_,c6 s2 hD,?_⟩
     ·rw [af]
      refine cv (bg (bQ _ _) ?_)
      rw [bf]
      lia
     ·rw [aj,c4 et,cj,a4,aS (p:=λx:Addr×Gm=>Vbqzak.has x.2 b) e1]
      rfl
    ·refine ⟨s2,?_⟩
     rw [c4 et,cj,aO (p:=λx:Addr×Gm=>Vbqzak.has x.2 b) (by rw [e1];simp),eE,bR]
     exact iE
  ·rintro H2 ⟨s2,iE⟩
   rw [af,bu] at iE
   refine ⟨D,_,rfl,.inl (cE.of iE),?_⟩
   rw [af,GN (λg=>Vbqzak.has g a) (λg=>Vbqzak.has g b) as gs B.len]
   exact k H2 (s1.trans s2)
abbrev lx:Stmt:=il (iB 9) 10
theorem wu:bt ["self","one","other","barred"] ["self","one","other","barred"] (aJ lx):=⟨rfl,rfl,rfl,by decide +kernel,rfl,by decide +kernel,by decide +kernel⟩
def QG (U:Addr):Sp:=λvs H Q _=>∃(h d:Addr) (bs:List (Nat×Nat)) (m a b:Nat) (v:Bool),vs=[.ref h,.int a,.int b,.bl v]/\i4 U H h d bs m/\m<=100000/\
 ∀(H':Hp) (kvs:List (List iq×V)),(∀b o,H b=some o->b≠d->H' b=some o)->H' d=some (.dT kvs)->kvs.length<=m+1->(∀x y:Nat,(k7 kvs (k2 x y)).getD (.bl false)=if (x,y)=pairOf a b then .bl v else .bl (bs.contains (x,y)))->Q .ll H'
theorem JO {x y x' y':Nat}:k2 x y=k2 x' y'↔(x,y)=(x',y'):=by
 unfold k2
 constructor
 ·intro h
  have h1:=(List.cons.inj h).1
  have h2:=(List.cons.inj (List.cons.inj h).2).1
  have e1:((x:Nat):Int)=x':=Sum.inl.inj h1
  have e2:((y:Nat):Int)=y':=Sum.inl.inj h2
  have e1:x=x':=by lia
  have e2:y=y':=by lia
  rw [e1,e2]
 ·intro h
  rw [Prod.mk.injEq] at h
  rw [h.1,h.2]
theorem Q2 (D:Dm K U "set_bar" "House.set_bar" lx) (T:Tx K mg G U):ph P w K mg base 1 U "set_bar" ["self","one","other","barred"] (QG U):=by
 obtain ⟨f,fd,M,F⟩:=D
 refine ⟨f,fd,M,F.cC (λ_ _ _ _ _ _ us hl=>(match us,hl with|[_,_,_,_],_=>rfl)),F.ok wu (λvs H Q E h=> ?_) (λcdv A bE s H vs Q E hr h=> ?_)⟩
 ·obtain ⟨h,d,bs,m,a,b,v,rfl,_⟩:=h
  rfl
 ·obtain ⟨h,d,bs,m,a,b,v,rfl,Z,hm,k⟩:=h
  obtain ⟨⟨dh,n,c,l,hh⟩,kvs,hd,Mj,hb⟩:=Z
  refine ⟨_,(aq (AG (yC hr) (cw (K:=K) (pv 0)) (kM (aa (bT (wB rfl) (by rfl) T.FK iO (aa (pv 1) (aa (pv 2) ah))) (aa (bT (sZ rfl) (by rfl) T.Dg gq (aa (pv 1) (aa (pv 2) ah))) ah))) (pv 3) rfl)),?_⟩
  refine ⟨_,rfl,_,rfl,fI hh T.a7 T.u4 rfl ⟨_,rfl,_,rfl,_,_,rfl,_,rfl,_,rfl,_,_,rfl,(by show 2<=sizeLine;decide),λt ht=> ?_⟩⟩
  have hdt:d≠t:=az hd ht
  rw [mm]
  refine ⟨d,_,rfl,By.t (k:=k2 (pairOf a b).1 (pairOf a b).2) (by rw [aL hdt];exact hd) aj (by rw [dH];lia),?_⟩
  refine k _ (lY kvs (k2 (pairOf a b).1 (pairOf a b).2) (.bl v)) (λb o e hb=> ?_) aj ?_ (λx y=> ?_)
  ·rw [aL hb,aL (az e ht)]
   exact e
  ·have:=oP kvs (k2 (pairOf a b).1 (pairOf a b).2) (.bl v)
   lia
  ·rw [C8]
   by_cases e:(x,y)=pairOf a b
   ·rw [aA (show k2 x y=k2 (pairOf a b).1 (pairOf a b).2 from JO.mpr e),aA e]
    rfl
   ·rw [au (show ¬k2 x y=k2 (pairOf a b).1 (pairOf a b).2 from λz=>e (JO.mp z)),au e]
    exact hb x y
abbrev iw:Stmt:=il (iB 9) 11
theorem kD:bt ["self","one","other","barred"] ["self","one","other"] (aJ iw):=⟨rfl,rfl,rfl,by decide +kernel,rfl,by decide +kernel,by decide +kernel⟩
def OM (G U:Addr):Sp:=λvs H Q _=>∃(h l d:Addr) (as:List Addr) (s:l9) (m a b:Nat),vs=[.ref h,.int a,.int b]/\fK G U H h l as s.n s.c s.games/\i4 U H h d s.barred m/\s.games.length<=30/\a≠b/\
 ∀H',bB H H'->Q (.bl (mayPair s a b)) H'
theorem Su (D:Dm K U "may_be_paired" "House.may_be_paired" iw) (T:Tx K mg G U) (d5:ph P w K mg base 3 U "games_together" ["self","one","other"] (OS G U)):ph P w K mg base 4 U "may_be_paired" ["self","one","other"] (OM G U):=by
 obtain ⟨f,fd,M,F⟩:=D
 refine ⟨f,fd,M,F.cC (λ_ _ _ _ _ _ us hl=>(match us,hl with|[_,_,_],_=>rfl)),F.ok kD (λvs H Q E h=> ?_) (λcdv A bE s H vs Q E hr h=> ?_)⟩
 ·obtain ⟨h,l,d,as,s,m,a,b,rfl,_⟩:=h
  rfl
 ·obtain ⟨h,l,d,as,s,m,a,b,rfl,B,Z,hlen,hab,k⟩:=h
  obtain ⟨⟨dh,n,c,l0,hh⟩,kvs,hd,Mj,hb⟩:=Z
  refine ⟨_,(ai (bx (i:=3) kD.nd rfl (Or.inl rfl) (Kn (yC hr) (cw (K:=K) (pv 0)) (kM (aa (bT (wB rfl) (by rfl) T.FK iO (aa (pv 1) (aa (pv 2) ah))) (aa (bT (sZ rfl) (by rfl) T.Dg gq (aa (pv 1) (aa (pv 2) ah))) ah))) sC ⟨rfl,rfl,rfl,rfl⟩)) (aq (aV (OE (OA (pv 3)) (E7 (oH dU (g7 d5 T.a7 (hr.bY (by decide)) (pv 0) (aa (pv 1) (aa (pv 2) ah))) bc (bN _))))))),?_⟩
  refine ⟨_,rfl,fI hh T.a7 T.u4 rfl ⟨d,rfl,.inr ⟨kvs,.inl hd⟩,_,rfl,_,rfl,_,_,rfl,_,rfl,_,rfl,_,_,rfl,(by show 2<=sizeLine;decide),λt ht=> ?_⟩⟩
  have hdt:d≠t:=az hd ht
  rw [mm]
  refine ⟨_,tI.t (k:=k2 (pairOf a b).1 (pairOf a b).2) (by rw [aL hdt];exact hd) aj,?_⟩
  rw [hb]
  have s1:bB H (bG H t (.dC ((k2 (pairOf a b).1 (pairOf a b).2).map kV))):=aN ht
  generalize bG H t (.dC ((k2 (pairOf a b).1 (pairOf a b).2).map kV))=H1 at s1
  refine ⟨_,rfl,_,rfl,_,rfl,?_⟩
  have em:=Qm.Dx s hab
  refine gr (λe1=> ?_) (λe1=> ?_)
  ·refine ⟨_,rfl,h,dh,_,rfl,s1 _ _ hh,rfl,_,rfl,_,rfl,h,l,as,s.n,s.c,s.games,a,b,rfl,B.same s1,hlen,λH2 s2=> ?_⟩
   refine ⟨rfl,?_⟩
   have e2:=k H2 (s1.trans s2)
   rw [em,e1,oT] at e2
   have e3:decide (V.int ((s.games.filter λg=>Vbqzak.has g a&&Vbqzak.has g b).length:Nat)=V.int 0)=decide ((s.games.filter λg=>Vbqzak.has g a&&Vbqzak.has g b).length=0):=by
    rw [decide_eq_decide]
    constructor
    ·intro z
     have:=V.int.inj z
     lia
    ·intro z
     rw [z]
     rfl
   rw [e3]
   exact e2
  ·have e2:=k H1 s1
   rw [em,e1,kf] at e2
   exact e2
end
end Qz
end
section
namespace Qm
open Vbqzak
def oO (z:Look):Prop:=z.found.isSome=true\/z.spent=true
def sh (k f i:Nat) (gs:List Game) (z:Look) (q:Nat):Look:=if z.found.isSome=true\/z.spent=true then z else if z.left=0 then {z with spent:=true}
 else if clash gs i q=true then {z with left:=z.left-1} else goOn k f (i+1) (withPacket gs i (some q)) {z with left:=z.left-1}
theorem HG (k f i:Nat) (gs:List Game) (z:Look):goOn k (f+1) i gs z=(List.range k).foldl (sh k f i gs) z:=rfl
def lv (k N i q:Nat) (gs:List Game) (z:Look):Look:=if N<=i then {z with found:=some gs} else ((List.range k).drop q).foldl (sh k (N-i-1) i gs) z
theorem Gz (k N i:Nat) (gs:List Game) (z:Look) (h:i<=N):lv k N i 0 gs z=goOn k (N-i) i gs z:=by
 unfold lv
 by_cases e:N<=i
 ·rw [aA e,show N-i=0 by lia]
  rfl
 ·rw [au e,show N-i=(N-i-1)+1 by lia,HG,rK]
  rw [show N-i-1+1-1=N-i-1 by lia]
def vo (k N:Nat):Nat->List Game->Look->Look
 |0,_,z=>z
 |i+1,gs,z=>vo k N i (withPacket gs i none) (lv k N i ((packetOf gs i).getD 0+1) (withPacket gs i none) z)
def res (k N i q:Nat) (gs:List Game) (z:Look):Look:=vo k N i gs (lv k N i q gs z)
theorem zT {k f i:Nat} {gs:List Game} {z:Look} (h:oO z):∀l:List Nat,l.foldl (sh k f i gs) z=z
 |[]=>rfl
 |q::l=>by
  rw [eG,show sh k f i gs z q=z from aA h]
  exact zT h l
theorem FF {k N i q:Nat} {gs:List Game} {z:Look} (h:oO z) (hi:i< N):lv k N i q gs z=z:=by
 unfold lv
 rw [au (by lia)]
 exact zT h _
theorem yx {k N:Nat} {z:Look} (h:oO z):∀(i:Nat) (gs:List Game),i<=N->vo k N i gs z=z
 |0,_,_=>by unfold vo;rfl
 |i+1,gs,hi=>by
  unfold vo
  rw [FF h (by lia)]
  exact yx h i _ (by lia)
theorem G5 {k N q:Nat} {gs:List Game} {z:Look}:res k N N q gs z={z with found:=some gs}:=by
 have e:lv k N N q gs z={z with found:=some gs}:=by
  unfold lv
  rw [aA (aF _)]
 unfold res
 rw [e]
 exact yx (.inl rfl) N gs (aF _)
theorem BV {k N i q:Nat} {gs:List Game} {z:Look} (hi:i< N) (hq:q< k):lv k N i q gs z=lv k N i (q+1) gs (sh k (N-i-1) i gs z q):=by
 unfold lv
 rw [au (by lia),au (by lia)]
 have e:(List.range k).drop q=q::(List.range k).drop (q+1):=by
  rw [List.drop_eq_getElem_cons (by rw [aM];exact hq),List.getElem_range]
 rw [e,eG]
theorem HB {k N i q:Nat} {gs:List Game} {z:Look} (hi:i< N) (hq:q< k) (hz:¬oO z) (h0:z.left=0):res k N i q gs z={z with spent:=true}:=by
 have e:sh k (N-i-1) i gs z q={z with spent:=true}:=by
  have hz2:¬(z.found.isSome=true\/z.spent=true):=hz
  unfold sh
  rw [au hz2,aA h0]
 have hs:oO {z with spent:=true}:= .inr rfl
 unfold res
 rw [BV hi hq,e,FF hs hi]
 exact yx hs i gs (dM hi)
theorem G8 {k N i q:Nat} {gs:List Game} {z:Look} (hi:i< N) (hq:q< k) (hz:¬oO z) (h0:z.left≠0) (hc:clash gs i q=true):res k N i q gs z=res k N i (q+1) gs {z with left:=z.left-1}:=by
 have e:sh k (N-i-1) i gs z q={z with left:=z.left-1}:=by
  have hz2:¬(z.found.isSome=true\/z.spent=true):=hz
  unfold sh
  rw [au hz2,au h0,aA hc]
 unfold res
 rw [BV hi hq,e]
theorem Pe {k N i q:Nat} {gs:List Game} {z:Look} (hi:i< N) (hq:q< k) (hz:¬oO z) (h0:z.left≠0) (hc:clash gs i q=false) (hp:packetOf (withPacket gs i (some q)) i=some q) (hb:withPacket (withPacket gs i (some q)) i none=gs):
  res k N i q gs z=res k N (i+1) 0 (withPacket gs i (some q)) {z with left:=z.left-1}:=by
 have e:sh k (N-i-1) i gs z q=goOn k (N-i-1) (i+1) (withPacket gs i (some q)) {z with left:=z.left-1}:=by
  have hz2:¬(z.found.isSome=true\/z.spent=true):=hz
  unfold sh
  rw [au hz2,au h0,au (by rw [hc];decide)]
 have e2:=Gz k N (i+1) (withPacket gs i (some q)) {z with left:=z.left-1} hi
 rw [show N-(i+1)=N-i-1 by lia] at e2
 unfold res
 rw [BV hi hq,e,<-e2]
 conv=>rhs;unfold vo
 rw [hp,hb]
 rfl
theorem Kj {k N i q:Nat} {gs:List Game} {z:Look} (hi:i+1< N) (hq:k<=q):res k N (i+1) q gs z=res k N i ((packetOf gs i).getD 0+1) (withPacket gs i none) z:=by
 have e:lv k N (i+1) q gs z=z:=by
  unfold lv
  rw [au (by lia),qj (by rw [aM];exact hq)]
  rfl
 unfold res
 rw [e]
 conv=>lhs;unfold vo
theorem JC {k N q:Nat} {gs:List Game} {z:Look} (hN:0< N) (hq:k<=q):res k N 0 q gs z=z:=by
 unfold res vo lv
 rw [au (by lia),qj (by rw [aM];exact hq)]
 rfl
theorem Fn (gs:List Game) (k steps:Nat):search gs k steps=res k gs.length 0 0 (gs.map λg=>{g with p:=none}) ⟨none,steps,false⟩:=by
 unfold search res vo
 rw [Gz _ _ _ _ _ (bD _),Nat.sub_zero]
end Qm
end
section
namespace Qm
open Vbqzak
def CB (gs:List Game) (got:List Nat):List Game:=gs.mapIdx λi g=>{g with p:=got[i]?}
theorem lN (gs:List Game) (got:List Nat) (i:Nat):(CB gs got)[i]? =gs[i]?.map λg=>{g with p:=got[i]?}:=by
 unfold CB
 rw [rJ]
theorem Ll (gs:List Game):CB gs []=gs.map λg=>{g with p:=none}:=by
 apply bS
 intro i
 rw [lN,ay]
 rfl
theorem Ez (gs:List Game) (got:List Nat) (q:Nat):withPacket (CB gs got) got.length (some q)=CB gs (got++[q]):=by
 apply bS
 intro i
 rw [gL,lN,lN]
 by_cases h:got.length=i
 ·subst h
  rw [aA rfl]
  cases gs[got.length]? <;>simp
 ·rw [au h]
  have:(got++[q])[i]? =got[i]? :=by
   rw [rL]
   by_cases h2:i< got.length
   ·rw [aA h2]
   ·rw [au h2,bq (l:=got) (by lia),bq (by simp;lia)]
  rw [this]
theorem GD (gs:List Game) (got:List Nat) (q:Nat):withPacket (CB gs (got++[q])) got.length none=CB gs got:=by
 apply bS
 intro i
 rw [gL,lN,lN]
 by_cases h:got.length=i
 ·subst h
  rw [aA rfl]
  cases gs[got.length]? <;>simp
 ·rw [au h]
  have:(got++[q])[i]? =got[i]? :=by
   rw [rL]
   by_cases h2:i< got.length
   ·rw [aA h2]
   ·rw [au h2,bq (l:=got) (by lia),bq (by simp;lia)]
  rw [this]
theorem yQ {gs:List Game} (got:List Nat) {i:Nat} (h:i< gs.length):packetOf (CB gs got) i=got[i]? :=by
 unfold packetOf
 rw [lN,ab h]
 rfl
theorem Aw {gs:List Game} {got:List Nat} {g:Game} (hg:gs[got.length]? =some g) (q:Nat):clash (CB gs got) got.length q=true↔∃(j:Nat) (x:Game),j< got.length/\gs[j]? =some x/\got[j]? =some q/\meets x g=true:=by
 have h1:(CB gs got)[got.length]? =some {g with p:=none}:=by
  rw [lN,hg]
  simp
 rw [pW h1]
 constructor
 ·rintro ⟨k,x,hk,hx,hp,hm⟩
  rw [lN] at hx
  cases e:gs[k]? with
  |none=>rw [e] at hx;cases hx
  |some y=>
   rw [e] at hx
   have hx:({y with p:=got[k]?}:Game)=x:=Option.some.inj hx
   subst hx
   have hp:got[k]? =some q:=hp
   refine ⟨k,y,(ae.mp hp).1,e,hp,?_⟩
   unfold meets
   rw [bH]
   exact hm
 ·rintro ⟨j,x,hj,hx,hp,hm⟩
  refine ⟨j,{x with p:=got[j]?},by lia,by rw [lN,hx];rfl,hp,?_⟩
  unfold meets at hm
  rw [bH] at hm
  exact hm
structure zS (gs:List Game) (k steps:Nat) (got:List Nat) (q made:Nat):Prop where
 eq:search gs k steps=res k gs.length got.length q (CB gs got) ⟨none,steps-made,false⟩
 q:q<=k
 made:made<=steps
 len:got.length<=gs.length
 vN:∀x∈got,x< k
theorem zS.start (gs:List Game) (k steps:Nat):zS gs k steps [] 0 0 where
 eq:=by rw [Fn,Ll];rfl
 q:=bD _
 made:=bD _
 len:=bD _
 vN:=λx h=>by cases h
section
variable {gs:List Game} {k steps q made:Nat} {got:List Nat}
theorem sP (m:Nat):¬oO ⟨none,m,false⟩:=λh=>by
 rcases h with h|h<;>cases h
theorem zS.Tz (S:zS gs k steps [] k made) (hN:0< gs.length):(search gs k steps).found=none/\(search gs k steps).spent=false:=by
 have e:search gs k steps=⟨none,steps-made,false⟩:=S.eq.trans (JC hN (aF _))
 rw [e]
 exact ⟨rfl,rfl⟩
theorem zS.Wy {x:Nat} (S:zS gs k steps (got++[x]) k made) (hl:(got++[x]).length< gs.length):zS gs k steps got (x+1) made where
 eq:=by
  have e:=S.eq
  rw [ao] at e hl
  rw [iK] at e hl
  rw [Kj (by lia) (aF _),yQ _ (by lia),GD] at e
  simpa using e
 q:=S.vN x (by simp)
 made:=S.made
 len:=by have:=S.len;rw [ao] at this;lia
 vN:=λy hy=>S.vN y (br _ hy)
theorem zS.spent (S:zS gs k steps got q steps) (hl:got.length< gs.length) (hq:q< k):(search gs k steps).found=none/\(search gs k steps).spent=true:=by
 rw [S.eq,HB hl hq (sP _) (by simp)]
 exact ⟨rfl,rfl⟩
theorem zS.clash (S:zS gs k steps got q made) (hl:got.length< gs.length) (hq:q< k) (hm:made< steps) (h:clash (CB gs got) got.length q=true):zS gs k steps got (q+1) (made+1) where
 eq:=by
  rw [S.eq,G8 hl hq (sP _) (show steps-made≠0 by lia) h]
  rw [show steps-made-1=steps-(made+1) by lia]
 q:=hq
 made:=hm
 len:=S.len
 vN:=S.vN
theorem zS.on (S:zS gs k steps got q made) (hl:got.length< gs.length) (hq:q< k) (hm:made< steps) (h:Vbqzak.clash (CB gs got) got.length q=false):zS gs k steps (got++[q]) 0 (made+1) where
 eq:=by
  rw [S.eq,Pe hl hq (sP _) (show steps-made≠0 by lia) h (by rw [Ez,yQ _ hl];simp) (by rw [Ez,GD])]
  rw [Ez,show steps-made-1=steps-(made+1) by lia,ao]
  rfl
 q:=bD _
 made:=hm
 len:=by rw [ao];simp;lia
 vN:=λy hy=>by
  rcases aI.mp hy with hy|hy
  ·exact S.vN y hy
  ·rw [bb.mp hy];exact hq
theorem zS.found (S:zS gs k steps got q made) (hl:got.length=gs.length):(search gs k steps).found=some (CB gs got):=by
 have e:=S.eq
 rw [hl,G5] at e
 rw [e]
theorem IM (hl:got.length=gs.length):(CB gs got).map (λg=>orMinus g.p)=got.map whole:=by
 apply bS
 intro i
 rw [ay,ay,lN]
 by_cases h:i< gs.length
 ·rw [ab h,ab (by lia:i< got.length)]
  rfl
 ·rw [bq (by lia:gs.length<=i),bq (by lia:got.length<=i)]
  rfl
end
theorem lp {lo hi:Int}:∀{l:List Int},rising lo hi l=true↔(∀(i:Nat) (x:Int),l[i]? =some x->lo<=x/\x<=hi)/\∀(i:Nat) (x y:Int),l[i]? =some x->l[i+1]? =some y->x< y
 |[]=>by
  unfold rising
  simp
 |[a]=>by
  unfold rising inside
  rw [aR,cJ,cJ]
  constructor
  ·intro h
   refine ⟨λi x hx=> ?_,λi x y _ hy=>by simp at hy⟩
   match i,hx with
   |0,hx=>
    have hx:a=x:=by simpa using hx
    rw [<-hx]
    exact h
   |i+1,hx=>simp at hx
  ·exact λh=>h.1 0 a rfl
 |a::b::l=>by
  have ih:=lp (lo:=lo) (hi:=hi) (l:=b::l)
  unfold rising
  rw [aR,aR,ih]
  unfold inside
  rw [aR,cJ,cJ,cJ]
  constructor
  ·rintro ⟨h1,h2,h3,h4⟩
   refine ⟨λi x hx=> ?_,λi x y hx hy=> ?_⟩
   ·match i,hx with
    |0,hx=>
     have hx:a=x:=by simpa using hx
     rw [<-hx]
     exact h1
    |i+1,hx=>exact h3 i x (by simpa using hx)
   ·match i,hx,hy with
    |0,hx,hy=>
     have hx:a=x:=by simpa using hx
     have hy:b=y:=by simpa using hy
     rw [<-hx,<-hy]
     exact h2
    |i+1,hx,hy=>exact h4 i x y (by simpa using hx) (by simpa using hy)
  ·rintro ⟨h1,h2⟩
   exact ⟨h1 0 a rfl,h2 0 a b rfl rfl,λi x hx=>h1 (i+1) x (by simpa using hx),λi x y hx hy=>h2 (i+1) x y (by simpa using hx) (by simpa using hy)⟩
end Qm
end
section
namespace Qz
open PySem PySem.Spec PyProof.Rows L2
open Vbqzak (step onTwo onGame onPacket onChain inside teamIn isTeam no whole mayPair pairOf)
theorem Y7 (a ma ha b mb hb c mc hc:Int):lk [(a,ma,ha),(b,mb,hb),(c,mc,hc)]=if a< 0\/ma<=a\/b< 0\/mb<=b\/c< 0\/mc<=c then -1 else if ha<=a\/hb<=b\/hc<=c then -4 else 0:=by
 unfold lk
 simp only [dB,mQ,iF,bH,cJ,yi]
theorem V6 {H:Hp} {p1 p2 p3:Addr} {x1 x2 x3:Int×Int×Int} (h1:H p1=some (.dC [.int x1.1,.int x1.2.1,.int x1.2.2])) (h2:H p2=some (.dC [.int x2.1,.int x2.2.1,.int x2.2.2])) (h3:H p3=some (.dC [.int x3.1,.int x3.2.1,.int x3.2.2])):∀(j:Nat) (t:Addr) (x:Int×Int×Int),([p1,p2,p3]:List Addr)[j]? =some t->([x1,x2,x3]:List (Int×Int×Int))[j]? =some x->H t=some (.dC [.int x.1,.int x.2.1,.int x.2.2])
 |0,t,x,ht,hx=>by
  have e1:p1=t:=by simpa using ht
  have e2:x1=x:=by simpa using hx
  rw [<-e1,<-e2]
  exact h1
 |1,t,x,ht,hx=>by
  have e1:p2=t:=by simpa using ht
  have e2:x2=x:=by simpa using hx
  rw [<-e1,<-e2]
  exact h2
 |2,t,x,ht,hx=>by
  have e1:p3=t:=by simpa using ht
  have e2:x3=x:=by simpa using hx
  rw [<-e1,<-e2]
  exact h3
 |j+3,t,x,ht,_=>by simp at ht
section
variable {P:Program} {w:World} {K:PySem.W.Frag} {mg:Str->Option Value} {base:Heap} {G U:Addr}
abbrev NL (P:Program) (w:World) (K:PySem.W.Frag) (mg:Str->Option Value) (base:Heap) (G U:Addr):Prop:=dQ P w K mg base 1 "team_row" ["house","team"] (yz G U 10 λn _ _=>n)
abbrev pj:Stmt:=iB 62
theorem tW:bt ["house","team","refused"] ["house","team"] (aJ pj):=⟨rfl,rfl,rfl,by decide +kernel,rfl,by decide +kernel,by decide +kernel⟩
def MU (G U:Addr):Sp:=λvs H Q _=>∃(h l:Addr) (as:List Addr) (s:l9) (t:Int),vs=[.ref h,.int t]/\fK G U H h l as s.n s.c s.games/\Qm.Ok s/\wK G U h l as H (step s (.hears t)) Q
theorem Ph (D:Df K mg "call_hears" pj) (T:Tx K mg G U) (du:NV P w K mg base) (eN:NL P w K mg base G U) (iQ:ph P w K mg base 3 U "packets_heard" ["self","team"] (Qw G U)) (fu:dQ P w K mg base 1 "as_list" ["numbers"] HJ):dQ P w K mg base 4 "call_hears" ["house","team"] (MU G U):=by
 obtain ⟨f,fd,M,F⟩:=D
 refine ⟨f,fd,M,F.kp,F.cC (λ_ _ _ _ _ _ us hl=>(match us,hl with|[_,_],_=>rfl)),F.ok tW (λvs H Q E h=> ?_) (λcdv A bE s H vs Q E hr h=> ?_)⟩
 ·obtain ⟨h,l,as,s,t,rfl,_⟩:=h
  rfl
 ·obtain ⟨h,l,as,s,t,rfl,B,O,k⟩:=h
  refine ⟨_,(ai (bx (i:=2) tW.nd rfl (Or.inl rfl) (bW du (hr.bY (by decide)) (aa (cf (aa (bW eN (hr.bY (by decide)) (aa (pv 0) (aa (pv 1) ah))) ah)) ah))) (ai (cP (bo mP (pv 2) (dr T.mE) (bN _)) (aq (aV (cf (aa (pv 2) ah)))) bF) (aq (aV (bW fu (hr.bY (by decide)) (aa (g7 iQ T.a7 (hr.bY (by decide)) (pv 0) (aa (pv 1) ah)) ah)))))),?_⟩
  refine ⟨_,rfl,_,rfl,h,l,as,s.n,s.c,s.games,t,rfl,B,λp1 uM=> ?_⟩
  have s1:bB H (bG H p1 (.dC [.int t,.int 10,.int (s.n:Nat)])):=aN uM
  have t1:bG H p1 (.dC [.int t,.int 10,.int (s.n:Nat)]) p1=some (.dC [.int t,.int 10,.int (s.n:Nat)]):=aj
  generalize bG H p1 (.dC [.int t,.int 10,.int (s.n:Nat)])=H1 at s1 t1
  refine ⟨(by show 1<=sizeLine;decide),λp3 BZ=> ?_⟩
  have s3:bB H1 (bG H1 p3 (.a6 [.ref p1])):=aN BZ
  have t3:bG H1 p3 (.a6 [.ref p1]) p3=some (.a6 [.ref p1]):=aj
  generalize bG H1 p3 (.a6 [.ref p1])=H3 at s3 t3
  have jt:bB H H3:=s1.trans s3
  refine ⟨p3,[p1],[(t,10,(s.n:Nat))],rfl,t3,rfl,Od (x1:=(t,10,(s.n:Nat))) (s3 _ _ t1),?_⟩
  have gM:step s (.hears t)=if teamIn t=false then no s (-1) else if isTeam s t=false then no s (-4) else (s,Vbqzak.listed ((List.range s.c).filter λq=>Vbqzak.hears s.games t.toNat q)):=rfl
  rw [Wt]
  refine ⟨_,rfl,rfl,_,rfl,?_⟩
  by_cases h1:t< 0\/10<=t
  ·rw [aA h1]
   rw [gM,aA (by unfold teamIn;rw [i3,a8];lia)] at k
   exact ij ⟨_,rfl,(by show 1<=sizeLine;decide),λp hp=>k.ir B jt hp⟩
  rw [au h1]
  rw [gM,au (by unfold teamIn;rw [i3,aW (by lia)];simp)] at k
  by_cases h2:(s.n:Int)<=t
  ·rw [aA h2]
   rw [aA (by unfold isTeam whole;rw [a8];lia)] at k
   exact ij ⟨_,rfl,(by show 1<=sizeLine;decide),λp hp=>k.ir B jt hp⟩
  rw [au h2]
  rw [au (by unfold isTeam whole;rw [aW (by lia)];simp)] at k
  refine i0 ?_
  have B3:=B.same jt
  obtain ⟨dh,dd,hh⟩:=B3.hs
  refine ⟨_,rfl,h,dh,_,rfl,hh,rfl,_,rfl,h,l,as,s.n,s.c,s.games,t.toNat,(by rw [cM (by lia)];rfl),B3,O.len,O.fH,O.pk,λH4 p4 s4 AB Xr=> ?_⟩
  have hfl:((List.range s.c).filter λq=>Vbqzak.hears s.games t.toNat q).length<=12:=by
   have:=bQ (λq=>Vbqzak.hears s.games t.toNat q) (List.range s.c)
   rw [aM] at this
   have:=O.JQ
   lia
  refine ⟨p4,_,rfl,Xr,(by rw [cN];lia),λH5 a s5 Px ha=> ?_⟩
  have s15:=jt.trans (s4.trans s5)
  refine k H5 a l as (B.same s15) (Eb.same s15) (jt.free (s4.free Px)) ?_
  rw [ha,rV]
abbrev qB:Stmt:=iB 63
theorem Bx:bt ["house"] ["house"] (aJ qB):=⟨rfl,rfl,rfl,by decide +kernel,rfl,by decide +kernel,by decide +kernel⟩
def MQ (G U:Addr):Sp:=λvs H Q _=>∃(h l:Addr) (as:List Addr) (s:l9),vs=[.ref h]/\fK G U H h l as s.n s.c s.games/\Qm.Ok s/\wK G U h l as H (step s .uses) Q
theorem Ov (D:Df K mg "call_uses" qB) (T:Tx K mg G U) (dR:ph P w K mg base 1 U "games_by_packet" ["self"] (Og G U)):dQ P w K mg base 2 "call_uses" ["house"] (MQ G U):=by
 obtain ⟨f,fd,M,F⟩:=D
 refine ⟨f,fd,M,F.kp,F.cC (λ_ _ _ _ _ _ us hl=>(match us,hl with|[_],_=>rfl)),F.ok Bx (λvs H Q E h=> ?_) (λcdv A bE s H vs Q E hr h=> ?_)⟩
 ·obtain ⟨h,l,as,s,rfl,_⟩:=h
  rfl
 ·obtain ⟨h,l,as,s,rfl,B,O,k⟩:=h
  refine ⟨_,(aq (aV (yO dR T.a7 (hr.bY (by decide)) (pv 0)))),?_⟩
  obtain ⟨dh,dd,hh⟩:=B.hs
  have gM:step s .uses=(s,Vbqzak.ints ((List.range s.c).map (Vbqzak.uses s.games))):=rfl
  rw [gM] at k
  refine ⟨_,rfl,h,dh,_,rfl,hh,rfl,h,l,as,s.n,s.c,s.games,rfl,B,O.len,O.JQ,λH1 p1 s1 uM hl1=> ?_⟩
  exact k H1 p1 l as (B.same s1) (Eb.same s1) uM (by rw [hl1,Fo])
abbrev oZ:Stmt:=iB 64
theorem o9:bt ["house","told","game"] ["house"] (aJ oZ):=⟨rfl,rfl,rfl,by decide +kernel,rfl,by decide +kernel,by decide +kernel⟩
def MZ (G U:Addr):Sp:=λvs H Q _=>∃(h l:Addr) (as:List Addr) (s:l9),vs=[.ref h]/\fK G U H h l as s.n s.c s.games/\Qm.Ok s/\wK G U h l as H (step s .games) Q
def tE (gs:List Gm):List V:=gs.flatMap λg=>[V.int (g.a:Nat),V.int (g.b:Nat),V.int (pk g.p)]
theorem Cw (gs:List Gm):(tE gs).length=3*gs.length:=by
 unfold tE
 induction gs with
 |nil=>rfl
 |cons g gs ih=>rw [da,ao,ih,aB];simp;lia
theorem OQ (D:Df K mg "call_games" oZ) (T:Tx K mg G U):dQ P w K mg base 1 "call_games" ["house"] (MZ G U):=by
 obtain ⟨f,fd,M,F⟩:=D
 refine ⟨f,fd,M,F.kp,F.cC (λ_ _ _ _ _ _ us hl=>(match us,hl with|[_],_=>rfl)),F.ok o9 (λvs H Q E h=> ?_) (λcdv A bE s H vs Q E hr h=> ?_)⟩
 ·obtain ⟨h,l,as,s,rfl,_⟩:=h
  rfl
 ·obtain ⟨h,l,as,s,rfl,B,O,k⟩:=h
  refine ⟨_,(ai (bx (i:=1) o9.nd rfl (Or.inl rfl) (cf (aa (bT (fF (K:=K)) (by rfl) T.len bh (aa (cw (K:=K) (pv 0)) ah)) ah))) (ai (d8 aT rfl (fo (K:=K) (cw (K:=K) (pv 0))) (cu (i:=2) o9.nd rfl (Or.inl rfl)) (aq (dS (mS (K:=K) aQ gO gP tj (pv 1) (aa (cf (aa (cw (K:=K) (pv 2)) (aa (cw (K:=K) (pv 2)) (aa (cw (K:=K) (pv 2)) ah)))) ah))))) (aq (aV (pv 1))))),?_⟩
  obtain ⟨dh,dd,hh⟩:=B.hs
  have gM:step s .games=(s,whole s.games.length::s.games.flatMap λg=>[whole g.a,whole g.b,Vbqzak.orMinus g.p]):=rfl
  have UE:(whole s.games.length::s.games.flatMap λg=>[whole g.a,whole g.b,Vbqzak.orMinus g.p]).map V.int=V.int (s.games.length:Nat)::tE s.games:=by
   rw [bA,lh]
   unfold tE
   congr 1
  rw [gM] at k
  have el:(as.map V.ref).length=s.games.length:=by rw [af];exact B.len
  refine ⟨_,rfl,fI hh T.a7 T.u3 rfl ⟨l,_,rfl,.inl (cE.of B.a6),(by show 1<=sizeLine;decide),λD hD=> ?_⟩⟩
  rw [el]
  have hDl:D≠l:=aY (az B.a6 hD)
  have s1:bB H (bG H D (.a6 [V.int (s.games.length:Nat)])):=aN hD
  have t1:bG H D (.a6 [V.int (s.games.length:Nat)]) D=some (.a6 [V.int (s.games.length:Nat)]):=aj
  generalize bG H D (.a6 [V.int (s.games.length:Nat)])=H1 at s1 t1
  obtain ⟨Ni,Pz,hh1⟩:=(B.same s1).hs
  refine ⟨_,rfl,fI hh1 T.a7 T.u3 rfl ⟨l,rfl,⟨_,cE.of (B.same s1).a6⟩,fY (K:=K) (a:=l) (xs:=as.map V.ref) (λj σ H'=>bB H H'/\H' D=some (.a6 (V.int (s.games.length:Nat)::tE (s.games.take j)))/\∃v2,σ=[some (.ref h),some (.ref D),v2]) ⟨s1,t1,none,rfl⟩ (λj σ H' _ p=>p.1.seq (cE.of B.a6)) ?_ ?_⟩⟩
  ·rintro j x σ H2 hx ⟨s2,iE,v2,rfl⟩
   have hj:j< s.games.length:=by
    have:=(ae.mp hx).1
    rw [el] at this
    exact this
   obtain ⟨a,dx,ha,hr2,hg⟩:=(B.same s2).yF (ab hj)
   rw [hr2] at hx
   have hx:V.ref a=x:=Option.some.inj hx
   subst hx
   refine ⟨_,rfl,.inl ⟨rfl,_,cE.of iE⟩,_,rfl,fI hg T.cq T.g1 (jC _) ⟨_,rfl,fI hg T.cq T.g2 (gX _) ⟨_,rfl,fI hg T.cq T.g3 (eQ _) ⟨(by show 3<=sizeLine;decide),λq hq=> ?_⟩⟩⟩⟩
   have hDq:D≠q:=az iE hq
   refine ⟨D,q,_,_,rfl,rfl,(by rw [aL hDq];exact iE),aj,?_,?_⟩
   ·rw [aB,Cw,bf]
    have:=O.len
    exact xt (by simp;lia)
   ·refine ⟨λb o e=> ?_,?_,_,rfl⟩
    ·rw [aL (az e hD),aL (az (s2 _ _ e) hq)]
     exact s2 _ _ e
    ·rw [aj,c4 (ab hj)]
     unfold tE
     rw [dw]
     rfl
  ·rintro σ H2 ⟨s2,iE,v2,rfl⟩
   rw [el,bu] at iE
   exact ⟨_,rfl,k H2 D l as (B.same s2) (Eb.same s2) hD (by rw [iE,UE])⟩
abbrev sg:Stmt:=iB 91
theorem wO:bt ["house","one","other","refused"] ["house","one","other"] (aJ sg):=⟨rfl,rfl,rfl,by decide +kernel,rfl,by decide +kernel,by decide +kernel⟩
def M6 (G U:Addr):Sp:=λvs H Q _=>∃(h l d:Addr) (as:List Addr) (s:l9) (m:Nat) (a b:Int),vs=[.ref h,.int a,.int b]/\fK G U H h l as s.n s.c s.games/\i4 U H h d s.barred m/\Qm.Ok s/\wK G U h l as H (step s (.met a b)) Q
theorem OF (D:Df K mg "call_met" sg) (T:Tx K mg G U) (du:NV P w K mg base) (eN:NL P w K mg base G U) (d5:ph P w K mg base 3 U "games_together" ["self","one","other"] (OS G U)) (er:ph P w K mg base 4 U "may_be_paired" ["self","one","other"] (OM G U)):dQ P w K mg base 5 "call_met" ["house","one","other"] (M6 G U):=by
 obtain ⟨f,fd,M,F⟩:=D
 refine ⟨f,fd,M,F.kp,F.cC (λ_ _ _ _ _ _ us hl=>(match us,hl with|[_,_,_],_=>rfl)),F.ok wO (λvs H Q E h=> ?_) (λcdv A bE s H vs Q E hr h=> ?_)⟩
 ·obtain ⟨h,l,d,as,s,m,a,b,rfl,_⟩:=h
  rfl
 ·obtain ⟨h,l,d,as,s,m,a,b,rfl,B,Z,O,k⟩:=h
  refine ⟨_,(ai (bx (i:=3) wO.nd rfl (Or.inl rfl) (bW du (hr.bY (by decide)) (aa (cf (aa (bW eN (hr.bY (by decide)) (aa (pv 0) (aa (pv 1) ah))) (aa (bW eN (hr.bY (by decide)) (aa (pv 0) (aa (pv 2) ah))) ah))) ah))) (ai (cP (bo mP (pv 3) (dr T.mE) (bN _)) (aq (aV (cf (aa (pv 3) ah)))) bF) (ai (cP (bo dU (pv 1) (pv 2) (bN _)) (aq (aV (cf (aa (dr T.yc) ah)))) bF) (aq (aV (cf (aa (g7 d5 T.a7 (hr.bY (by decide)) (pv 0) (aa (pv 1) (aa (pv 2) ah))) (aa (vC (iP (g7 er T.a7 (hr.bY (by decide)) (pv 0) (aa (pv 1) (aa (pv 2) ah)))) bc bc) ah)))))))),?_⟩
  refine ⟨_,rfl,_,rfl,h,l,as,s.n,s.c,s.games,a,rfl,B,λp1 uM=> ?_⟩
  have s1:bB H (bG H p1 (.dC [.int a,.int 10,.int (s.n:Nat)])):=aN uM
  have t1:bG H p1 (.dC [.int a,.int 10,.int (s.n:Nat)]) p1=some (.dC [.int a,.int 10,.int (s.n:Nat)]):=aj
  generalize bG H p1 (.dC [.int a,.int 10,.int (s.n:Nat)])=H1 at s1 t1
  refine ⟨_,rfl,_,rfl,h,l,as,s.n,s.c,s.games,b,rfl,B.same s1,λp2 hp2=> ?_⟩
  have s2:bB H1 (bG H1 p2 (.dC [.int b,.int 10,.int (s.n:Nat)])):=aN hp2
  have t2:bG H1 p2 (.dC [.int b,.int 10,.int (s.n:Nat)]) p2=some (.dC [.int b,.int 10,.int (s.n:Nat)]):=aj
  generalize bG H1 p2 (.dC [.int b,.int 10,.int (s.n:Nat)])=H2 at s2 t2
  refine ⟨(by show 2<=sizeLine;decide),λp3 BZ=> ?_⟩
  have s3:bB H2 (bG H2 p3 (.a6 [.ref p1,.ref p2])):=aN BZ
  have t3:bG H2 p3 (.a6 [.ref p1,.ref p2]) p3=some (.a6 [.ref p1,.ref p2]):=aj
  generalize bG H2 p3 (.a6 [.ref p1,.ref p2])=H3 at s3 t3
  have jt:bB H H3:=s1.trans (s2.trans s3)
  refine ⟨p3,[p1,p2],[(a,10,(s.n:Nat)),(b,10,(s.n:Nat))],rfl,t3,rfl,L8 (a:=p3) (x1:=(a,10,(s.n:Nat))) (x2:=(b,10,(s.n:Nat))) (s3 _ _ (s2 _ _ t1)) (s3 _ _ t2),?_⟩
  have gM:step s (.met a b)=onTwo s a b λa b=>(s,[whole (s.games.filter λg=>Vbqzak.has g a&&Vbqzak.has g b).length,if mayPair s a b=true then 1 else 0]):=rfl
  rw [yH] at gM
  rw [Vl]
  refine ⟨_,rfl,rfl,_,rfl,?_⟩
  by_cases h1:a< 0\/10<=a\/b< 0\/10<=b
  ·rw [aA h1] at gM ⊢
   rw [gM] at k
   exact ij ⟨_,rfl,(by show 1<=sizeLine;decide),λp hp=>k.ir B jt hp⟩
  rw [au h1] at gM ⊢
  by_cases h2:(s.n:Int)<=a\/(s.n:Int)<=b
  ·rw [aA h2] at gM ⊢
   rw [gM] at k
   exact ij ⟨_,rfl,(by show 1<=sizeLine;decide),λp hp=>k.ir B jt hp⟩
  rw [au h2] at gM ⊢
  refine i0 ?_
  refine ⟨_,rfl,_,rfl,rfl,_,rfl,?_⟩
  by_cases h3:a=b
  ·rw [aA h3] at gM
   rw [gM] at k
   rw [h3]
   rw [aW rfl]
   exact ij ⟨(by show 1<=sizeLine;decide),λp hp=>k.ir B jt hp⟩
  rw [au h3] at gM
  rw [gM] at k
  rw [a8 (show ¬V.int a=V.int b from λz=>h3 (V.int.inj z))]
  refine i0 ?_
  have B3:=B.same jt
  obtain ⟨dh,dd,hh⟩:=B3.hs
  have ea:V.int a=V.int (a.toNat:Nat):=by rw [cM (by lia)]
  have eb:V.int b=V.int (b.toNat:Nat):=by rw [cM (by lia)]
  refine ⟨_,rfl,h,dh,_,rfl,hh,rfl,_,rfl,_,rfl,h,l,as,s.n,s.c,s.games,a.toNat,b.toNat,(by rw [<-ea,<-eb];rfl),B3,O.len,λH4 s4=> ?_⟩
  obtain ⟨Vt,YB,T4⟩:=(B3.same s4).hs
  refine ⟨_,rfl,h,Vt,_,rfl,T4,rfl,_,rfl,_,rfl,h,l,d,as,s,m,a.toNat,b.toNat,(by rw [<-ea,<-eb];rfl),B3.same s4,(Z.same jt).same s4,O.len,(by lia),λH5 s5=> ?_⟩
  have My:=jt.trans (s4.trans s5)
  refine ⟨_,rfl,gr (λe5=> ?_) (λe5=> ?_)⟩
  ·rw [e5,aA rfl] at k
   exact ⟨(by show 2<=sizeLine;decide),λp hp=>k.ir B My hp⟩
  ·rw [e5,au (by simp)] at k
   exact ⟨(by show 2<=sizeLine;decide),λp hp=>k.ir B My hp⟩
abbrev r6:Stmt:=iB 85
theorem xi:bt ["house","one","other","barred","refused"] ["house","one","other","barred"] (aJ r6):=⟨rfl,rfl,rfl,by decide +kernel,rfl,by decide +kernel,by decide +kernel⟩
def MW (G U:Addr):Sp:=λvs H Q _=>∃(h l d:Addr) (as:List Addr) (s:l9) (m:Nat) (a b v:Int),vs=[.ref h,.int a,.int b,.int v]/\fK G U H h l as s.n s.c s.games/\i4 U H h d s.barred m/\m<=100000/\Qm.Ok s/\J2 G U h l d as (m+1) H (step s (.bar a b v)) Q
theorem N4 (D:Df K mg "call_bar" r6) (T:Tx K mg G U) (du:NV P w K mg base) (eN:NL P w K mg base G U) (mK:ph P w K mg base 1 U "set_bar" ["self","one","other","barred"] (QG U)):dQ P w K mg base 2 "call_bar" ["house","one","other","barred"] (MW G U):=by
 obtain ⟨f,fd,M,F⟩:=D
 refine ⟨f,fd,M,F.kp,F.cC (λ_ _ _ _ _ _ us hl=>(match us,hl with|[_,_,_,_],_=>rfl)),F.ok xi (λvs H Q E h=> ?_) (λcdv A bE s H vs Q E hr h=> ?_)⟩
 ·obtain ⟨h,l,d,as,s,m,a,b,v,rfl,_⟩:=h
  rfl
 ·obtain ⟨h,l,d,as,s,m,a,b,v,rfl,B,Z,hm,O,k⟩:=h
  refine ⟨_,(ai (bx (i:=4) xi.nd rfl (Or.inl rfl) (bW du (hr.bY (by decide)) (aa (cf (aa (bW eN (hr.bY (by decide)) (aa (pv 0) (aa (pv 1) ah))) (aa (bW eN (hr.bY (by decide)) (aa (pv 0) (aa (pv 2) ah))) (aa (kM (aa (pv 3) (aa bc (aa bc ah)))) ah)))) ah))) (ai (cP (bo mP (pv 4) (dr T.mE) (bN _)) (aq (aV (cf (aa (pv 4) ah)))) bF) (ai (cP (bo dU (pv 1) (pv 2) (bN _)) (aq (aV (cf (aa (dr T.yc) ah)))) bF) (ai (dS (g7 mK T.a7 (hr.bY (by decide)) (pv 0) (aa (pv 1) (aa (pv 2) (aa (oH dU (pv 3) bc (bN _)) ah))))) (aq (aV (cf (aa bc ah)))))))),?_⟩
  refine ⟨_,rfl,_,rfl,h,l,as,s.n,s.c,s.games,a,rfl,B,λp1 uM=> ?_⟩
  have s1:bB H (bG H p1 (.dC [.int a,.int 10,.int (s.n:Nat)])):=aN uM
  have t1:bG H p1 (.dC [.int a,.int 10,.int (s.n:Nat)]) p1=some (.dC [.int a,.int 10,.int (s.n:Nat)]):=aj
  generalize bG H p1 (.dC [.int a,.int 10,.int (s.n:Nat)])=H1 at s1 t1
  refine ⟨_,rfl,_,rfl,h,l,as,s.n,s.c,s.games,b,rfl,B.same s1,λp2 hp2=> ?_⟩
  have s2:bB H1 (bG H1 p2 (.dC [.int b,.int 10,.int (s.n:Nat)])):=aN hp2
  have t2:bG H1 p2 (.dC [.int b,.int 10,.int (s.n:Nat)]) p2=some (.dC [.int b,.int 10,.int (s.n:Nat)]):=aj
  generalize bG H1 p2 (.dC [.int b,.int 10,.int (s.n:Nat)])=H2 at s2 t2
  refine ⟨_,rfl,(by show 3<=sizeLine;decide),λp4 AB=> ?_⟩
  have s4:bB H2 (bG H2 p4 (.dC [.int v,.int 2,.int 2])):=aN AB
  have t4:bG H2 p4 (.dC [.int v,.int 2,.int 2]) p4=some (.dC [.int v,.int 2,.int 2]):=aj
  generalize bG H2 p4 (.dC [.int v,.int 2,.int 2])=H4 at s4 t4
  refine ⟨(by show 3<=sizeLine;decide),λp3 BZ=> ?_⟩
  have s3:bB H4 (bG H4 p3 (.a6 [.ref p1,.ref p2,.ref p4])):=aN BZ
  have t3:bG H4 p3 (.a6 [.ref p1,.ref p2,.ref p4]) p3=some (.a6 [.ref p1,.ref p2,.ref p4]):=aj
  generalize bG H4 p3 (.a6 [.ref p1,.ref p2,.ref p4])=H3 at s3 t3
  have jt:bB H H3:=s1.trans (s2.trans (s4.trans s3))
  refine ⟨p3,[p1,p2,p4],[(a,10,(s.n:Nat)),(b,10,(s.n:Nat)),(v,2,2)],rfl,t3,rfl,V6 (x1:=(a,10,(s.n:Nat))) (x2:=(b,10,(s.n:Nat))) (x3:=(v,2,2)) (s3 _ _ (s4 _ _ (s2 _ _ t1))) (s3 _ _ (s4 _ _ t2)) (s3 _ _ t4),?_⟩
  have gM:step s (.bar a b v)=if inside v 0 1=false then no s (-1) else onTwo s a b λa b=>({s with barred:=if v=1 then (s.barred.filter λt=>t !=pairOf a b)++[pairOf a b] else s.barred.filter λt=>t !=pairOf a b},[0]):=rfl
  rw [yH,i3] at gM
  have km:=λe=>k.wI (m0:=m) B Z (cG m) e
  rw [Y7]
  refine ⟨_,rfl,rfl,_,rfl,?_⟩
  have low:(a< 0\/10<=a\/b< 0\/10<=b\/v< 0\/2<=v)->step s (.bar a b v)=(s,[-1]):=λh1=>by
   by_cases h0:0<=v/\v<=1
   ·rw [gM,aW h0,au (by simp),aA (by lia)]
   ·rw [gM,a8 h0,aA rfl]
    rfl
  by_cases h1:a< 0\/10<=a\/b< 0\/10<=b\/v< 0\/2<=v
  ·rw [aA h1]
   rw [low h1] at km
   exact ij ⟨_,rfl,(by show 1<=sizeLine;decide),λp hp=>(km rfl).ir B jt hp⟩
  rw [au h1]
  rw [aW (show 0<=v/\v<=1 by lia),au (by simp),au (by lia)] at gM
  by_cases h2:(s.n:Int)<=a\/(s.n:Int)<=b
  ·rw [aA (by lia)]
   rw [aA h2] at gM
   rw [gM] at km
   exact ij ⟨_,rfl,(by show 1<=sizeLine;decide),λp hp=>(km rfl).ir B jt hp⟩
  rw [au (by lia)]
  rw [au h2] at gM
  refine i0 ?_
  refine ⟨_,rfl,_,rfl,rfl,_,rfl,?_⟩
  by_cases h3:a=b
  ·rw [aA h3] at gM
   rw [gM] at km
   rw [h3]
   rw [aW rfl]
   exact ij ⟨(by show 1<=sizeLine;decide),λp hp=>(km rfl).ir B jt hp⟩
  rw [au h3] at gM
  rw [gM] at k
  rw [a8 (show ¬V.int a=V.int b from λz=>h3 (V.int.inj z))]
  refine i0 ?_
  have B3:=B.same jt
  have Z3:=Z.same jt
  obtain ⟨dh,dd,hh⟩:=B3.hs
  have ea:V.int a=V.int (a.toNat:Nat):=by rw [cM (by lia)]
  have eb:V.int b=V.int (b.toNat:Nat):=by rw [cM (by lia)]
  have ev:decide (V.int v=V.int 1)=decide (v=1):=by
   rw [decide_eq_decide]
   exact ⟨λz=>V.int.inj z,λz=>by rw [z]⟩
  refine ⟨_,rfl,h,dh,_,rfl,hh,rfl,_,rfl,_,rfl,_,rfl,rfl,h,d,s.barred,m,a.toNat,b.toNat,decide (v=1),(by rw [<-ea,<-eb,<-ev];rfl),Z3,hm,λH5 kvs keep T6 Mj Xw=> ?_⟩
  refine ⟨(by show 1<=sizeLine;decide),λp hp=> ?_⟩
  obtain ⟨⟨dz,zn,zc,zl,hz⟩,kv0,Xx,_,_⟩:=Z3
  have YQ:h≠d:=λe=>by rw [e,Xx] at hz;cases hz
  have hld:l≠d:=λe=>by have:=B3.a6;rw [e,Xx] at this;cases this
  have had:∀x∈as,x≠d:=λx hx e=>by
   refine B3.HX Xx (λC dx g q=>by cases q) ?_
   rw [<-e];exact hx
  have Qe:d≠p:=az T6 hp
  have D6:∀b o,H3 b=some o->b≠d->bG H5 p (.a6 [V.int 0]) b=some o:=λb o e hb=>by
   rw [aL (az (keep b o e hb) hp)]
   exact keep b o e hb
  have BZ:H3 p=none:=by
   cases e:H3 p with
   |none=>rfl
   |some o=>
    have:=keep p o e (aY Qe)
    rw [hp] at this
    cases this
  refine k _ p l d as ⟨⟨dh,dd,D6 _ _ hh YQ⟩,D6 _ _ B3.a6 hld,B3.nd,B3.len,λj x g hx hg=> ?_⟩ ⟨⟨dz,zn,zc,zl,D6 _ _ hz YQ⟩,kvs,by rw [aL Qe];exact T6,Mj,λx y=> ?_⟩ ⟨λb o e _ _ n3 _=>D6 b o (jt _ _ e) n3,.inl rfl,.inl rfl,λx hx=> .inl hx⟩ (jt.free BZ) aj
  ·obtain ⟨dx,h1⟩:=B3.vO j x g hx hg
   exact ⟨dx,D6 _ _ h1 (had x (aw hx))⟩
  ·rw [Xw x y]
   by_cases hv:v=1
   ·rw [aA hv,Qm.J7,aW hv]
    by_cases e:(x,y)=pairOf a.toNat b.toNat
    ·rw [aA e,aA e]
    ·rw [au e,au e]
   ·rw [au hv,Qm.Hy,a8 hv]
    by_cases e:(x,y)=pairOf a.toNat b.toNat
    ·rw [aA e,aA e]
    ·rw [au e,au e]
end
end Qz
end
section
namespace Qz
open PySem PySem.Spec PyProof.Rows L2
open Vbqzak (step inside no whole)
section
variable {P:Program} {w:World} {K:PySem.W.Frag} {mg:Str->Option Value} {base:Heap} {G U:Addr}
abbrev n8:Stmt:=iB 36
theorem oa:bt ["games","got","packet","game","number"] ["games","got","packet"] (aJ n8):=⟨rfl,rfl,rfl,by decide +kernel,rfl,by decide +kernel,by decide +kernel⟩
def TJ (G U:Addr):Sp:=λvs H Q _=>∃(h l ga:Addr) (as:List Addr) (n c:Nat) (gs:List Gm) (got:List Nat) (q:Nat),vs=[.ref l,.ref ga,.int q]/\fK G U H h l as n c gs/\gs.length<=30/\H ga=some (.a6 (nV got))/\got.length< gs.length/\
 Q (.bl (Vbqzak.clash (Qm.CB gs got) got.length q)) H
theorem Rr (D:Df K mg "heard_ahead" n8) (T:Tx K mg G U) (ft:ph P w K mg base 2 G "shares_team" ["self","other"] (OV G)):dQ P w K mg base 3 "heard_ahead" ["games","got","packet"] (TJ G U):=by
 obtain ⟨f,fd,M,F⟩:=D
 refine ⟨f,fd,M,F.kp,F.cC (λ_ _ _ _ _ _ us hl=>(match us,hl with|[_,_,_],_=>rfl)),F.ok oa (λvs H Q E h=> ?_) (λcdv A bE s H vs Q E hr h=> ?_)⟩
 ·obtain ⟨h,l,ga,as,n,c,gs,got,q,rfl,_⟩:=h
  rfl
 ·obtain ⟨h,l,ga,as,n,c,gs,got,q,rfl,B,hlen,pD,hl,k⟩:=h
  refine ⟨_,(ai (bx (i:=3) oa.nd rfl (Or.inl rfl) (cH (je (K:=K)) (pv 0) (bT (fF (K:=K)) (by rfl) T.len bh (aa (pv 1) ah)) (λ_ _=>rfl))) (ai (d8 aT rfl (d3 rfl T.range (aa (bT (fF (K:=K)) (by rfl) T.len bh (aa (pv 1) ah)) ah)) (cu (i:=4) oa.nd rfl (Or.inl rfl)) (aq (cP (PW.pt (wj (bo dU (cH (je (K:=K)) (pv 1) (pv 4) (λ_ _=>rfl)) (pv 2) (bN _)) (tw (iP (g7 ft T.cq (hr.bY (by decide)) (pv 3) (aa (cH (je (K:=K)) (pv 0) (pv 4) (λ_ _=>rfl)) ah)))))) (aq (aV sC)) bF))) (aq (aV sC)))),?_⟩
  obtain ⟨a0,Vr,Px,IB,Py⟩:=B.yF (ab hl)
  have Ky:gs[got.length]? =some gs[got.length]:=ab hl
  generalize gs[got.length]=g0 at Py Ky
  refine ⟨_,rfl,_,rfl,ga,_,rfl,.inl (cE.of pD),l,_,_,_,rfl,rfl,cE.of B.a6,Am (j:=got.length) (by rw [cN]) IB,?_⟩
  refine ⟨_,rfl,ga,_,rfl,.inl (cE.of pD),_,rfl,(by lia),(by rw [cN];lia),?_⟩
  refine fP (Pv:=λi σ H'=>H'=H/\(∃v4,σ=[some (.ref l),some (.ref ga),some (.int q),some (.ref a0),v4])/\∀(j:Nat) (x:Gm),j< i->gs[j]? =some x->got[j]? =some q->Vbqzak.meets x g0=false) ⟨rfl,⟨none,rfl⟩,λj x hj=>absurd hj (cF _)⟩ ?_ ?_
  ·rintro i σ H' hi ⟨rfl,⟨v4,rfl⟩,hn⟩
   rw [aK,cN] at hi
   obtain ⟨a,dx,ha,hr2,hg⟩:=B.yF (ab (show i< gs.length by lia))
   have Mo:gs[i]? =some gs[i]:=ab (by lia)
   have VG:got[i]? =some got[i]:=ab hi
   generalize gs[i]=gi at hg Mo
   generalize got[i]=ti at VG
   refine ⟨_,rfl,_,rfl,ga,_,_,_,rfl,rfl,cE.of pD,Am (j:=i) (by lia) (xm VG),_,rfl,rfl,_,rfl,?_⟩
   rw [jI]
   refine gr (λe1=> ?_) (λe1=> ?_)
   ·have e1:ti=q:=by simpa using e1
    subst e1
    refine ⟨_,rfl,a0,Vr,_,rfl,Py,rfl,_,rfl,_,rfl,l,_,_,_,rfl,rfl,cE.of B.a6,Am (j:=i) (by lia) hr2,a0,Vr,a,dx,g0,gi,rfl,Py,hg,_,rfl,?_⟩
    refine gr (λe2=> ?_) (λe2=> ?_)
    ·rw [(Qm.Aw Ky ti).mpr ⟨i,gi,hi,Mo,VG,e2⟩] at k
     exact k
    ·refine ⟨rfl,⟨_,rfl⟩,λj x hj hx hq=> ?_⟩
     by_cases Pw:j=i
     ·subst Pw
      rw [Mo] at hx
      rw [<-Option.some.inj hx]
      exact e2
     ·exact hn j x (by lia) hx hq
   ·refine i0 ⟨rfl,⟨_,rfl⟩,λj x hj hx hq=> ?_⟩
    by_cases Pw:j=i
    ·subst Pw
     rw [VG] at hq
     rw [Option.some.inj hq] at e1
     simp at e1
    ·exact hn j x (by lia) hx hq
  ·rintro σ H' ⟨rfl,⟨v4,rfl⟩,hn⟩
   rw [aK,cN] at hn
   have:Vbqzak.clash (Qm.CB gs got) got.length q=false:=by
    rw [dO]
    intro z
    obtain ⟨j,x,hj,hx,hq,hm⟩:=(Qm.Aw Ky q).mp z
    rw [hn j x hj hx hq] at hm
    cases hm
   rw [this] at k
   exact k
abbrev ku:Stmt:=iB 37
theorem eh:bt ["games","packets","steps","got","packet","made"] ["games","packets","steps"] (aJ ku):=⟨rfl,rfl,rfl,by decide +kernel,rfl,by decide +kernel,by decide +kernel⟩
def yB (gs:List Gm) (k m:Nat):List Int:=match (Vbqzak.search gs k m).found with
 |some gs=>1::gs.map λg=>Vbqzak.orMinus g.p
 |none=>if (Vbqzak.search gs k m).spent=true then [2] else [0]
def Rm (G U:Addr):Sp:=λvs H Q _=>∃(h l:Addr) (as:List Addr) (n c:Nat) (gs:List Gm) (kk st:Nat),vs=[.ref l,.int kk,.int st]/\fK G U H h l as n c gs/\gs.length<=30/\
 ∀H' p,bB H H'->H p=none->H' p=some (.a6 ((yB gs kk st).map V.int))->Q (.ref p) H'
theorem RT (D:Df K mg "search_packets" ku) (T:Tx K mg G U) (pA:dQ P w K mg base 3 "heard_ahead" ["games","got","packet"] (TJ G U)):dQ P w K mg base 4 "search_packets" ["games","packets","steps"] (Rm G U):=by
 obtain ⟨f,fd,M,F⟩:=D
 refine ⟨f,fd,M,F.kp,F.cC (λ_ _ _ _ _ _ us hl=>(match us,hl with|[_,_,_],_=>rfl)),F.ok eh (λvs H Q E h=> ?_) (λcdv A bE s H vs Q E hr h=> ?_)⟩
 ·obtain ⟨h,l,as,n,c,gs,kk,st,rfl,_⟩:=h
  rfl
 ·obtain ⟨h,l,as,n,c,gs,kk,st,rfl,B,hlen,k⟩:=h
  refine ⟨_,(ai (bx (i:=3) eh.nd rfl (Or.inl rfl) (cf ah)) (ai (bx (i:=4) eh.nd rfl (Or.inl rfl) bc) (ai (bx (i:=5) eh.nd rfl (Or.inl rfl) bc) (ai (l5 aT (bo rb (bT (fF (K:=K)) (by rfl) T.len bh (aa (pv 3) ah)) (bT (fF (K:=K)) (by rfl) T.len bh (aa (pv 0) ah)) (bN _)) (aq (cP (bo dU (pv 4) (pv 1) (bN _)) (ai (cP (uv (yy (K:=K) (pv 3))) (aq (aV (cf (aa (dr T.DV) ah)))) bF) (aq (bx (i:=4) eh.nd rfl (Or.inl rfl) (eY lA (FR (K:=K) aQ iM iN Be (pv 3)) bc)))) (aq (cP (bo dU (pv 5) (pv 2) (bN _)) (aq (aV (cf (aa (dr T.xx) ah)))) (ai (BF (i:=5) eh.nd rfl (Or.inl rfl) bc AX) (aq (cP (iP (bW pA (hr.bY (by decide)) (aa (pv 0) (aa (pv 3) (aa (pv 4) ah))))) (aq (BF (i:=4) eh.nd rfl (Or.inl rfl) bc AX)) (ai (dS (mS (K:=K) aQ bL bM fe (pv 3) (aa (pv 4) ah))) (aq (bx (i:=4) eh.nd rfl (Or.inl rfl) bc))))))))))) (aq (aV (eY sr (cf (aa (dr T.Lr) ah)) (pv 3)))))))),?_⟩
  refine ⟨bD _,λga pD=> ?_⟩
  have el:(as.map V.ref).length=gs.length:=by rw [af];exact B.len
  refine ⟨λm σ H'=>∃(got:List Nat) (q made:Nat),σ=[some (.ref l),some (.int kk),some (.int st),some (.ref ga),some (.int (q:Nat)),some (.int (made:Nat))]/\H' ga=some (.a6 (nV got))/\bB H H'/\Qm.zS gs kk st got q made/\m=2*(st-made)+got.length,
   ⟨2*st,[],0,0,rfl,aj,aN pD,Qm.zS.start gs kk st,by simp⟩,?_⟩
  rintro m σ H1 ⟨got,q,made,rfl,hg1,s1,S,hm⟩
  have B1:=B.same s1
  have Ky:=S.len
  refine ⟨_,rfl,ga,_,rfl,.inl (cE.of hg1),_,rfl,l,_,rfl,.inl (cE.of B1.a6),_,_,rfl,rfl,_,rfl,?_⟩
  rw [cN,el]
  refine l4 (λe1=> ?_) (λe1=> ?_)
  ·have e1:got.length< gs.length:=by have:=bw e1;lia
   refine ⟨fun σ H'=>∃(got:List Nat) (q made:Nat),σ=[some (.ref l),some (.int kk),some (.int st),some (.ref ga),some (.int (q:Nat)),some (.int (made:Nat))]/\H' ga=some (.a6 (nV got))/\bB H H'/\Qm.zS gs kk st got q made/\2*(st-made)+got.length< m,?_,?_⟩
   ·rintro σ' H' ⟨Xy,q',UG,rfl,h1,h2,h3,h4⟩
    exact ⟨_,h4,Xy,q',UG,rfl,h1,h2,h3,rfl⟩
   ·refine ⟨_,rfl,_,rfl,rfl,_,rfl,?_⟩
    rw [jI]
    refine gr (λe2=> ?_) (λe2=> ?_)
    ·have e2:q=kk:=by simpa using e2
     subst e2
     refine ⟨_,rfl,!got.isEmpty,.inl ⟨nV got,cE.of hg1,(by cases got<;>rfl)⟩,?_⟩
     refine gr (b:= !(!got.isEmpty)) (λe3=> ?_) (λe3=> ?_)
     ·have:got=[]:=by
       cases got with
       |nil=>rfl
       |cons a b=>cases e3
      subst this
      obtain ⟨z1,z2⟩:=S.Tz (by simpa using e1)
      refine ⟨(by show 1<=sizeLine;decide),λp hp=> ?_⟩
      refine k _ p (s1.trans (aN hp)) (s1.free hp) ?_
      rw [aj]
      unfold yB
      rw [z1,z2]
      rfl
     ·obtain ⟨gt,x,rfl⟩:∃gt x,got=gt++[x]:=⟨got.dropLast,got.getLast (by intro e;subst e;cases e3),(eF _).symm⟩
      refine ⟨_,rfl,.inl ⟨rfl,_,cE.of hg1⟩,ga,_,V.int (x:Nat),rfl,rfl,hg1,(by rw [fB];simp),_,_,rfl,rfl,?_⟩
      have T5:(nV (gt++[x])).dropLast=nV gt:=by rw [fB,iW]
      rw [T5]
      refine ⟨gt,x+1,made,rfl,aj,c6 s1 pD,S.Wy e1,?_⟩
      rw [hm,ao]
      simp
    ·have e2:q< kk:=by
      have h1:q≠kk:=by simpa using e2
      have:=S.q
      lia
     refine ⟨_,rfl,_,rfl,rfl,_,rfl,?_⟩
     rw [jI]
     refine gr (λe3=> ?_) (λe3=> ?_)
     ·have e3:made=st:=by simpa using e3
      subst e3
      obtain ⟨z1,z2⟩:=S.spent e1 e2
      refine ⟨(by show 1<=sizeLine;decide),λp hp=> ?_⟩
      refine k _ p (s1.trans (aN hp)) (s1.free hp) ?_
      rw [aj]
      unfold yB
      rw [z1,z2]
      rfl
     ·have e3:made< st:=by
       have h1:made≠st:=by simpa using e3
       have:=S.made
       lia
      refine ⟨_,rfl,_,_,rfl,rfl,?_⟩
      refine ⟨_,rfl,_,rfl,_,rfl,h,l,ga,as,n,c,gs,got,q,rfl,B1,hlen,hg1,e1,_,rfl,?_⟩
      refine gr (λe4=> ?_) (λe4=> ?_)
      ·refine ⟨_,rfl,_,_,rfl,rfl,?_⟩
       refine ⟨got,q+1,made+1,rfl,hg1,s1,S.clash e1 e2 e3 e4,by lia⟩
      ·refine ⟨_,rfl,.inl ⟨rfl,_,cE.of hg1⟩,_,rfl,ga,_,_,rfl,rfl,hg1,(by rw [cN];exact cv (by lia)),?_⟩
       refine ⟨got++[q],0,made+1,rfl,(by rw [aj,fB]),c6 s1 pD,S.on e1 e2 e3 e4,?_⟩
       rw [ao]
       simp
       lia
  ·have e1:got.length=gs.length:=by
    have:¬((got.length:Int)< (gs.length:Int)):=λz=>e1 (aW z)
    lia
   have hf:=S.found e1
   refine ⟨(by show 1<=sizeLine;decide),λp hp=> ?_⟩
   have hgp:ga≠p:=az hg1 hp
   refine ⟨_,rfl,p,ga,_,_,rfl,rfl,aj,(by rw [aL hgp];exact hg1),(by rw [cN];exact xt (by simp;lia)),λr hr2=> ?_⟩
   have s2:bB H (bG H1 p (.a6 [V.int 1])):=s1.trans (aN hp)
   refine k _ r (s2.trans (aN hr2)) (s2.free hr2) ?_
   rw [aj]
   unfold yB
   rw [hf]
   simp only
   rw [Qm.IM e1,bA,cX]
   rfl
abbrev nH:Stmt:=iB 65
theorem yV:bt ["house","packets","steps"] ["house","packets","steps"] (aJ nH):=⟨rfl,rfl,rfl,by decide +kernel,rfl,by decide +kernel,by decide +kernel⟩
def M3 (G U:Addr):Sp:=λvs H Q _=>∃(h l:Addr) (as:List Addr) (s:l9) (a b:Int),vs=[.ref h,.int a,.int b]/\fK G U H h l as s.n s.c s.games/\Qm.Ok s/\wK G U h l as H (step s (.search a b)) Q
theorem NF (D:Df K mg "call_search" nH) (T:Tx K mg G U) (lH:dQ P w K mg base 4 "search_packets" ["games","packets","steps"] (Rm G U)):dQ P w K mg base 5 "call_search" ["house","packets","steps"] (M3 G U):=by
 obtain ⟨f,fd,M,F⟩:=D
 refine ⟨f,fd,M,F.kp,F.cC (λ_ _ _ _ _ _ us hl=>(match us,hl with|[_,_,_],_=>rfl)),F.ok yV (λvs H Q E h=> ?_) (λcdv A bE s H vs Q E hr h=> ?_)⟩
 ·obtain ⟨h,l,as,s,a,b,rfl,_⟩:=h
  rfl
 ·obtain ⟨h,l,as,s,a,b,rfl,B,O,k⟩:=h
  refine ⟨_,(ai (cP (PW.pt (tY (bo rb (pv 1) (dr T.q0) (bN _)) (tY (bo zi (pv 1) (dr T.nT) (bN _)) (tY (bo rb (pv 2) bc (bN _)) (wo (bo zi (pv 2) (dr T.AY) (bN _))))))) (aq (aV (cf (aa (dr T.nY) ah)))) bF) (aq (aV (bW lH (hr.bY (by decide)) (aa (cw (K:=K) (pv 0)) (aa (pv 1) (aa (pv 2) ah))))))),?_⟩
  have gM:step s (.search a b)=if (inside a 1 12&&inside b 0 2000)=false then no s (-1) else (s,yB s.games a.toNat b.toNat):=rfl
  have bad:¬(1<=a/\a<=12/\0<=b/\b<=2000)->∀p,H p=none->Q (.ref p) (bG H p (.a6 [.int (-1)])):=λhb p hp=>by
   have e:step s (.search a b)=(s,[-1]):=by
    rw [gM,i3,i3,<-fV,aA (by rw [a8];lia)]
    rfl
   rw [e] at k
   exact k.ir B (bB.refl H) hp
  refine ⟨_,rfl,_,_,rfl,rfl,_,rfl,l4 (λe1=> ?_) (λe1=> ?_)⟩
  ·exact ⟨(by show 1<=sizeLine;decide),bad (by have:=bw e1;lia)⟩
  refine ⟨_,rfl,_,_,rfl,rfl,_,rfl,l4 (λe2=> ?_) (λe2=> ?_)⟩
  ·exact ⟨(by show 1<=sizeLine;decide),bad (by have:=bw e2;lia)⟩
  refine ⟨_,rfl,_,_,rfl,rfl,_,rfl,l4 (λe3=> ?_) (λe3=> ?_)⟩
  ·exact ⟨(by show 1<=sizeLine;decide),bad (by have:=bw e3;lia)⟩
  refine ⟨_,rfl,_,_,rfl,rfl,_,rfl,l4 (λe4=> ?_) (λe4=> ?_)⟩
  ·exact ⟨(by show 1<=sizeLine;decide),bad (by have:=bw e4;lia)⟩
  have g1:1<=a:=by apply a5;intro z;exact e1 (aW (by lia))
  have g2:a<=12:=by apply a5;intro z;exact e2 (aW (by lia))
  have g3:0<=b:=by apply a5;intro z;exact e3 (aW (by lia))
  have g4:b<=2000:=by apply a5;intro z;exact e4 (aW (by lia))
  rw [gM,i3,i3,<-fV,au (by rw [aW (by lia)];simp)] at k
  obtain ⟨dh,dd,hh⟩:=B.hs
  refine ⟨_,rfl,fI hh T.a7 T.u3 rfl ⟨_,rfl,_,rfl,h,l,as,s.n,s.c,s.games,a.toNat,b.toNat,(by rw [cM (by lia),cM (by lia)];rfl),B,O.len,λH1 p1 s1 uM hl1=> ?_⟩⟩
  exact k H1 p1 l as (B.same s1) (Eb.same s1) uM hl1
end
end Qz
end
section
namespace Qst
open PySem
abbrev RP (xs:Array Nat):Prop:=xs.toList.Pairwise (·< ·)
theorem wg {xs:Array Nat} (h:RP xs) {i j:Nat} (hij:i< j) (hj:j< xs.size):xs[i]'(by lia)< xs[j]:=by
 have:=fg.mp h i j (by simpa using (by lia:i< xs.size)) (by simpa using hj) hij
 simpa using this
theorem Bt {xs:Array Nat} (h:RP xs) (j:Nat):∀(fuel lo hi:Nat),lo<=hi->hi<=xs.size->hi-lo<=fuel->(∀i (hi':i< xs.size),i< lo->xs[i]< j)->(∀i (hi':i< xs.size),hi<=i->j<=xs[i])->
  SetTable.below.go xs j fuel lo hi<=xs.size/\(∀i (hi':i< xs.size),i< SetTable.below.go xs j fuel lo hi->xs[i]< j)/\∀i (hi':i< xs.size),SetTable.below.go xs j fuel lo hi<=i->j<=xs[i]
 |0,lo,hi,h1,h2,h3,h4,h5=>by
  have e:lo=hi:=by lia
  subst e
  unfold SetTable.below.go
  exact ⟨h2,h4,h5⟩
 |fuel+1,lo,hi,h1,h2,h3,h4,h5=>by
  unfold SetTable.below.go
  by_cases hlt:lo< hi
  ·rw [aA hlt]
   have hm:(lo+hi) / 2< xs.size:=by lia
   simp only
   have eg:xs.getD ((lo+hi) / 2) j=xs[(lo+hi) / 2]:=by simp [Array.getD,hm]
   rw [eg]
   by_cases hc:xs[(lo+hi) / 2]< j
   ·rw [aA hc]
    refine Bt h j fuel _ hi (by lia) h2 (by lia) (λi hi' hil=> ?_) h5
    by_cases e:i=(lo+hi) / 2
    ·subst e;exact hc
    ·exact Nat.lt_trans (wg h (by lia) hm) hc
   ·rw [au hc]
    refine Bt h j fuel lo _ (by lia) (by lia) (by lia) h4 λi hi' hil=> ?_
    by_cases e:i=(lo+hi) / 2
    ·subst e;lia
    ·have:=wg h (show (lo+hi) / 2< i by lia) hi'
     lia
  ·rw [au hlt]
   have e:lo=hi:=by lia
   subst e
   exact ⟨h2,h4,h5⟩
theorem uo {xs:Array Nat} (h:RP xs) (j:Nat):SetTable.below xs j<=xs.size/\(∀i (hi':i< xs.size),i< SetTable.below xs j->xs[i]< j)/\∀i (hi':i< xs.size),SetTable.below xs j<=i->j<=xs[i]:=
 Bt h j xs.size 0 xs.size (bD _) (aF _) (by lia) (λi _ hi=>absurd hi (cF _)) λi hi' hi=>absurd hi' (by lia)
theorem Cu {xs:Array Nat} (h:RP xs) {i j:Nat} (hi:i< xs.size) (h1:∀k (hk:k< xs.size),k< i->xs[k]< j) (h2:j<=xs[i]):SetTable.below xs j=i:=by
 obtain ⟨b1,b2,b3⟩:=uo h j
 rcases oB (SetTable.below xs j) i with hb|hb|hb
 ·have:=b3 (SetTable.below xs j) (by lia) (aF _)
  have:=h1 (SetTable.below xs j) (by lia) hb
  lia
 ·exact hb
 ·have:=b2 i hi hb
  lia
theorem Hb {xs:Array Nat} (h:RP xs) {j:Nat} (h1:∀k (hk:k< xs.size),xs[k]< j):SetTable.below xs j=xs.size:=by
 obtain ⟨b1,b2,b3⟩:=uo h j
 apply a5
 intro hn
 have:=b3 (SetTable.below xs j) (by lia) (aF _)
 have:=h1 (SetTable.below xs j) (by lia)
 lia
theorem HF {xs:Array Nat} (h:RP xs) {j:Nat} (hn:∀i (hi:i< xs.size),xs[i]≠j):RP (SetTable.insertAt xs (SetTable.below xs j) j):=by
 obtain ⟨b1,b2,b3⟩:=uo h j
 show List.Pairwise _ (SetTable.insertAt xs (SetTable.below xs j) j).toList
 rw [SetTable.toList_insertAt]
 have hmem:∀y∈xs.toList.take (SetTable.below xs j),y< j:=λy hy=>by
  obtain ⟨i,hi⟩:=a9.mp hy
  have hlt:=(ae.mp hi).1
  rw [bf] at hlt
  rw [gN (by lia)] at hi
  have hix:i< xs.size:=by simp at hlt;lia
  have:=b2 i hix (by lia)
  have e:xs.toList[i]? =some xs[i]:=by simp [hix]
  rw [e] at hi
  rw [<-Option.some.inj hi]
  exact this
 have hmem2:∀y∈xs.toList.drop (SetTable.below xs j),j< y:=λy hy=>by
  obtain ⟨i,hi⟩:=a9.mp hy
  rw [nj] at hi
  have hlt:=(ae.mp hi).1
  have hix:SetTable.below xs j+i< xs.size:=by simpa using hlt
  have h1:=b3 _ hix (by lia)
  have h2:=hn _ hix
  have e:xs.toList[SetTable.below xs j+i]? =some xs[SetTable.below xs j+i]:=by simp [hix]
  rw [e] at hi
  rw [<-Option.some.inj hi]
  lia
 have hp:xs.toList.Pairwise (·< ·):=h
 rw [<-rh (SetTable.below xs j) xs.toList] at hp
 obtain ⟨p1,p2,p3⟩:=lW.mp hp
 first
  |exact lW.mpr ⟨p1,fk.mpr ⟨hmem2,p2⟩,λa ha b hb=>(aX.mp hb).elim (λe=>e▸hmem a ha) λhb=>p3 a ha b hb⟩
  |(rw [dN];exact lW.mpr ⟨p1,fk.mpr ⟨hmem2,p2⟩,λa ha b hb=>(aX.mp hb).elim (λe=>e▸hmem a ha) λhb=>p3 a ha b hb⟩)
structure uI (led:Bool) (t:SetTable):Prop where
 led:t.led=led
 Wb:t.dummies= #[]
 Ma:RP t.place
theorem uI.fresh (led:Bool):uI led (SetTable.fresh 0 0 led):=⟨rfl,rfl,List.Pairwise.nil⟩
theorem uI.Ko {led:Bool} {t:SetTable} (T:uI led t):uI led {t with plain:=false}:=⟨T.led,T.Wb,T.Ma⟩
theorem uI.standIn {led:Bool} {t:SetTable} (T:uI led t) (n:Nat):uI led (t.standIn n):=⟨T.led,rfl,by
 show List.Pairwise _ (Array.range n).toList
 rw [Array.toList_range]
 exact dZ⟩
theorem uI.or {led:Bool} {t:SetTable} (T:uI led t) (n:Nat):uI led (t.orStandIn n):=by
 unfold SetTable.orStandIn
 split
 ·exact T
 ·exact T.standIn n
theorem GL (j:Nat):SetTable.has #[] j=false:=by
 unfold SetTable.has
 simp
theorem Ep {led:Bool} {t:SetTable} (T:uI led t) (j:Nat):(∃i,t.slot j= .live i)\/(t.slot j= .empty/\∀i (hi:i< t.place.size),t.place[i]≠j):=by
 unfold SetTable.slot
 simp only
 by_cases h:(t.place[SetTable.below t.place j]? ==some j)=true
 ·rw [aA h]
  exact .inl ⟨_,rfl⟩
 ·rw [au h,T.Wb,GL]
  refine .inr ⟨rfl,λi hi e=>h ?_⟩
  have:SetTable.below t.place j=i:=Cu T.Ma hi (λk hk hki=>by
   have:=wg T.Ma hki hi
   lia) (by lia)
  rw [this]
  simp [hi,e]
theorem wN {led:Bool} {t:SetTable} (T:uI led t) (f:Nat->Int) (h:Int):∀(fuel:Nat) (p:SetTable.Probe) (j:Nat) (d:Option Nat),p.dummy=none->SetTable.probe.go t f h fuel p=some (.empty j d)->d=none/\∀i (hi:i< t.place.size),t.place[i]≠j
 |0,p,j,d,_,e=>by unfold SetTable.probe.go at e;cases e
 |fuel+1,p,j,d,hp,e=>by
  have adv:(t.advance p).dummy=none:=by
   unfold SetTable.advance
   split
   ·exact hp
   ·exact hp
  rw [SetTable.probe.go] at e
  rcases Ep T p.j with ⟨i,hs⟩|⟨hs,hn⟩
  ·rw [hs] at e
   simp only at e
   split at e
   ·cases e
   ·exact wN T f h fuel _ j d adv e
  ·rw [hs] at e
   simp only at e
   have e:=Option.some.inj e
   injection e with e1 e2
   subst e1
   exact ⟨by rw [<-e2];exact hp,hn⟩
theorem Jj {led:Bool} {t:SetTable} (T:uI led t) {h:Int} {j:Nat} {b:Bool} (e:t.freeSlot h=some (j,b)):b=false/\∀i (hi:i< t.place.size),t.place[i]≠j:=by
 unfold SetTable.freeSlot at e
 cases hp:t.probe (λ_=>h+1) h (t.probeStart h) with
 |none=>rw [hp] at e;cases e
 |some m=>
  rw [hp] at e
  cases m with
  |candidate j i next=>cases e
  |empty j' d=>
   obtain ⟨h1,h2⟩:=wN T _ _ _ _ j' d rfl hp
   subst h1
   have e:(j',false)=(j,b):=Option.some.inj e
   injection e with e1 e2
   subst e1 e2
   exact ⟨rfl,h2⟩
theorem uI.put {led:Bool} {t:SetTable} (T:uI led t) {j:Nat} (hn:∀i (hi:i< t.place.size),t.place[i]≠j):uI led (t.put j).1:=⟨T.led,by
 show (if SetTable.has t.dummies j=true then _ else t.dummies)= #[]
 rw [T.Wb,GL]
 rfl,HF T.Ma hn⟩
theorem uI.layNew {led:Bool} {t:SetTable} (T:uI led t) (es:Array (Int×Value)) (h:Int) (x:Value):uI led (layNew t es h x).2.1:=by
 unfold PySem.layNew
 cases e:t.freeSlot h with
 |none=>exact T.standIn _
 |some jb=>
  obtain ⟨j,b⟩:=jb
  exact (T.put (Jj T e).2).or _
theorem uI.relayAll {led:Bool} {t:SetTable} (T:uI led t) (es:Array (Int×Value)) (wanted:Nat):uI led (relayAll t es wanted).2.1:=by
 unfold PySem.relayAll
 cases e:t.relaid (es.map (·.1)) wanted with
 |none=>exact T.standIn _
 |some to=>
  obtain ⟨t',order⟩:=to
  simp only
  split
  ·unfold SetTable.relaid SetTable.laid at e
   cases ho:SetTable.layClean (SetTable.sizeAbove wanted-1) (es.map (·.1)) with
   |none=>rw [ho] at e;cases e
   |some owner=>
    rw [ho] at e
    have e:=Option.some.inj e
    have e1:=cS Prod.fst e
    simp only at e1
    subst e1
    refine ⟨T.led,rfl,?_⟩
    show List.Pairwise _ (List.map _ (List.filterMap _ _))
    rw [List.map_filterMap]
    have key:∀(l:List Nat) (g:Nat->Option Nat),l.Pairwise (·< ·)->(l.filterMap λj=>Option.map Prod.fst (Option.map (λk=>(j,k)) (g j))).Pairwise (·< ·):=by
     intro l g
     induction l with
     |nil=>intro _;exact List.Pairwise.nil
     |cons a l ih=>
      intro hp
      obtain ⟨p1,p2⟩:=fk.mp hp
      rw [dG]
      cases hg:g a with
      |none=>simpa [hg] using ih p2
      |some k=>
       simp only [hg,fT]
       refine fk.mpr ⟨λb hb=> ?_,ih p2⟩
       obtain ⟨c,hc,e⟩:=h8.mp hb
       cases hgc:g c with
       |none=>rw [hgc] at e;cases e
       |some k2=>
        rw [hgc] at e
        have:c=b:=Option.some.inj e
        rw [<-this]
        exact p1 c hc
    exact key _ _ dZ
  ·exact T.standIn _
end Qst
end
section
namespace Qst
open PySem PySem.Spec
def iv:Value->Int
 | .int k _=>k
 |_=>0
abbrev vi (e:Int×Value):Int:=iv e.2
section
variable {prog:Program} {w:World} {A:Around} {E:Value->Shared->Prop} {s:Shared}
structure Eo (prog:Program) (w:World) (led:Bool) (zs:List Int) (o:Obj) (es:Array (Int×Value)) (ep:Nat) (t:SetTable):Prop where
 exact:o.ExactSet
 data:o.data= .set es ep t
 CD:ElemsOf (intKind prog w) es.toList
 tJ:(es.toList.map vi).Perm zs
 nd:zs.Nodup
 Q7:es.size< scanBound
 fits:t.fits es.size=true
 ok:uI led t
def SP (prog:Program) (w:World) (h:Heap) (a:Addr) (led:Bool) (zs:List Int):Prop:=∃o es ep t,h.get? a=some o/\Eo prog w led zs o es ep t
theorem IV {k:Int} {v:Value} (h:(intKind prog w).is k v=true):iv v=k:=by
 have h:Value.isInt k v=true:=h
 obtain ⟨t,rfl⟩:=ot h
 rfl
theorem R9 {l:List (Int×Value)} (h:ElemsOf (intKind prog w) l) {e:Int×Value} (he:e∈l):(intKind prog w).is (vi e) e.2=true:=by
 obtain ⟨⟨k,hk,_⟩,_⟩:=h e he
 have:vi e=k:=IV hk
 rw [this]
 exact hk
theorem Eo.stored {led:Bool} {zs:List Int} {o:Obj} {es es':Array (Int×Value)} {ep:Nat} {t t':SetTable} {zs':List Int} (S:Eo prog w led zs o es ep t) {h:Heap} {a:Addr} (ho:h.get? a=some o)
  (h1:ElemsOf (intKind prog w) es'.toList) (h2:(es'.toList.map vi).Perm zs') (h3:zs'.Nodup) (h4:es'.size< scanBound) (h5:t'.fits es'.size=true) (h6:uI led t'):
  (h.update a (Obj.putSet es' t')).get? a=some {o with data:= .set es' (ep+1) t'}/\Eo prog w led zs' {o with data:= .set es' (ep+1) t'} es' (ep+1) t':=by
 refine ⟨?_,⟨S.exact,rfl,h1,h2,h3,h4,h5,h6⟩⟩
 have g:=gp (Obj.putSet es' t') ho (by rw [putSet_of es' t' S.data];rfl)
 rw [putSet_of es' t' S.data] at g
 exact g
theorem Bu {α:Type} {x y:Array α} (h:x.toList.Perm y.toList):x.size=y.size:=by
 have:=h.length_eq
 simpa using this
theorem De {g:Bool->Sem Unit} (hg:∀(b:Bool) (s':Shared) (Q:Unit->Shared->Prop),Q () s'->wpAny (model prog w) A (g b) Q E s') {led wd:Bool} {zs zs':List Int} {a:Addr} {o:Obj} {es e1:Array (Int×Value)} {ep:Nat} {t t2:SetTable}
  (ho:s.heap.get? a=some o) (S:Eo prog w led zs o es ep t) (h1:ElemsOf (intKind prog w) e1.toList) (h2:(e1.toList.map vi).Perm zs') (h3:zs'.Nodup) (h4:e1.size< scanBound) (h5:t2.fits e1.size=true) (h6:uI led t2) {R:Option Bool->Shared->Prop}
  (k:∀h',Heap.SameBut a s.heap h'->SP prog w h' a led zs'->R (some true) {s with heap:=h'}):
  wpAny (model prog w) A (storeSet a e1 t2>>=λ_=>if (!wd&&t2.tooFull)=true then g (relayAll t2 e1 (SetTable.grown e1.size)).2.2>>=λ_=>storeSet a (relayAll t2 e1 (SetTable.grown e1.size)).1 (relayAll t2 e1 (SetTable.grown e1.size)).2.1>>=λ_=>pure (some true) else pure (some true)) R E s:=by
 obtain ⟨g1,S1⟩:=S.stored ho h1 h2 h3 h4 h5 h6
 refine ag (wpAny_storeSet_of ho S.data ?_ (oC h4))
 have b1:=d7 s.heap a (Obj.putSet e1 t2)
 by_cases hc:(!wd&&t2.tooFull)=true
 ·rw [aA hc]
  have pm:=relayAll_perm t2 e1 (SetTable.grown e1.size)
  have fr:=relayAll_fits t2 e1 (SetTable.grown e1.size)
  have tk:=h6.relayAll e1 (SetTable.grown e1.size)
  have sz:=Bu pm
  obtain ⟨g2,S2⟩:=S1.stored g1 (h1.perm pm) ((pm.map vi).trans h2) h3 (by rw [sz];exact h4) fr tk
  refine ag (hg _ _ _ (ag (wpAny_storeSet_of g1 S1.data ?_ (oC (by rw [sz];exact h4)))))
  exact aH (k _ (b1.trans (d7 _ a _)) ⟨_,_,_,_,g2,S2⟩)
 ·rw [au hc]
  exact aH (k _ b1 ⟨_,_,_,_,g1,S1⟩)
theorem add_int {led:Bool} {zs:List Int} {a:Addr} {z:Int} {uR:Tok} {Q:Bool->Shared->Prop} (hS:SP prog w s.heap a led zs) (hroom:zs.length+1< scanBound)
  (k:∀(b:Bool) (h':Heap),Heap.SameBut a s.heap h'->SP prog w h' a led (if z∈zs then zs else zs++[z])->Q b {s with heap:=h'}):
  wpAny (model prog w) A (setAddHashed a (.int z uR) ((intKind prog w).hash z)) Q E s:=by
 obtain ⟨o,es,ep,t,ho,S⟩:=hS
 have hkey:(intKind prog w).is z (.int z uR)=true:=intKind_is _ _ _ _
 have hlen:es.size=zs.length:=by
  have:=S.tJ.length_eq
  simpa using this
 unfold setAddHashed setAddHashedIn
 refine fw (ag (gG ho S.data S.fits ?_));dsimp only
 rw [byScan_of (x:=Value.int z uR) rfl S.Q7 S.CD];simp only [↓reduceIte]
 unfold setAddByScan
 refine ag (ag (wpAny_rule (ag (wpAny_setScan_of hkey ho S.data S.fits S.CD ?_))))
 cases hr:List.findIdx? (λe=>(intKind prog w).is z e.2) es.toList with
 |some j=>
  obtain ⟨hj,hp,_⟩:=eR.mp hr
  have hz:z∈zs:=S.tJ.mem_iff.mp (bC.mpr ⟨es.toList[j],fm hj,IV hp⟩)
  have kk:=k false s.heap (Heap.SameBut.refl a s.heap)
  rw [aA hz] at kk
  exact aH (aH (kk ⟨o,es,ep,t,ho,S⟩))
 |none=>
  have hz:z∉zs:=λhm=>by
   obtain ⟨e,he,ev⟩:=bC.mp (S.tJ.mem_iff.mpr hm)
   have h1:=jn.mp hr e he
   have h2:=R9 S.CD he
   rw [ev] at h2
   rw [h2] at h1
   cases h1
  have pm:=layNew_perm t es ((intKind prog w).hash z) (.int z uR)
  have fr:=layNew_fits t es ((intKind prog w).hash z) (.int z uR)
  have tk:=S.ok.layNew es ((intKind prog w).hash z) (.int z uR)
  generalize layNew t es ((intKind prog w).hash z) (.int z uR)=L at pm fr tk ⊢
  obtain ⟨e1,t1,wd,gv⟩:=L
  dsimp only at pm fr tk ⊢
  rw [uX] at pm
  have n1:ElemsOf (intKind prog w) e1.toList:=(S.CD.push hkey rfl).perm pm
  have n2:(e1.toList.map vi).Perm (zs++[z]):=(pm.map vi).trans (by rw [a4];exact S.tJ.append_right _)
  have n3:(zs++[z]).Nodup:=cc.mpr ⟨S.nd,by simp,λx hx y hy e=>hz (by
   have:y=z:=by simpa using hy
   rw [<-this,<-e];exact hx)⟩
  have n4:e1.size< scanBound:=by
   have:=n2.length_eq
   simp at this
   lia
  have quiet:∀(b:Bool) (s':Shared) (Q':Unit->Shared->Prop),Q' () s'->wpAny (model prog w) A (match b with|true=>rule "set.scan.the-table-gave-way"|false=>pure ()) Q' E s':=λb s' Q' q=>by cases b<;>first|exact aH q|exact wpAny_rule q
  have kk:∀h',Heap.SameBut a s.heap h'->SP prog w h' a led (zs++[z])->Q true {s with heap:=h'}:=λh' h1 h2=>k true h' h1 (by rw [au hz];exact h2)
  refine ag (quiet _ _ _ ?_)
  split
  ·refine ag ?_
   rw [hashByValue_scannable 8 (show (Value.int z uR).scannable=true from rfl)]
   refine aH (De quiet ho S n1 n2 n3 n4 ?_ ?_ λh' h1 h2=>aH (kk h' h1 h2))
   ·split
    ·exact fr
    ·exact SetTable.fits_plain_off fr
   ·split
    ·exact tk
    ·exact tk.Ko
  ·refine ag (aH ?_)
   simp only [↓reduceIte]
   exact De quiet ho S n1 n2 n3 n4 fr tk λh' h1 h2=>aH (kk h' h1 h2)
end
end Qst
end
section
namespace Qst
open PySem PySem.Spec PyProof.Rows
def dd (l:List Int):List Int:=l.foldl (λacc z=>if z∈acc then acc else acc++[z]) []
theorem LJ (l:List Int) (z:Int):dd (l++[z])=if z∈dd l then dd l else dd l++[z]:=by
 unfold dd
 rw [fM]
 rfl
theorem JH (l acc:List Int) (x:Int):x∈l.foldl (λacc z=>if z∈acc then acc else acc++[z]) acc↔x∈acc\/x∈l:=by
 induction l generalizing acc with
 |nil=>simp
 |cons a l ih=>
  rw [eG,ih]
  by_cases h:a∈acc
  ·rw [aA h]
   constructor
   ·rintro (h1|h1)
    ·exact .inl h1
    ·exact .inr (aE _ h1)
   ·rintro (h1|h1)
    ·exact .inl h1
    ·rcases aX.mp h1 with rfl|h1
     ·exact .inl h
     ·exact .inr h1
  ·rw [au h,aI,bb,aX,yi]
theorem Oc {l:List Int} {x:Int}:x∈dd l↔x∈l:=by
 unfold dd
 rw [JH]
 simp
theorem Jx (l acc:List Int):(l.foldl (λacc z=>if z∈acc then acc else acc++[z]) acc).length<=acc.length+l.length:=by
 induction l generalizing acc with
 |nil=>simp
 |cons a l ih=>
  rw [eG]
  refine bg (ih _) ?_
  by_cases h:a∈acc
  ·rw [aA h,aB];lia
  ·rw [au h,ao];simp;lia
theorem JA (l:List Int):(dd l).length<=l.length:=by
 have:=Jx l []
 simpa [dd] using this
section
variable {prog:Program} {w:World} {A:Around} {E:Value->Shared->Prop} {s:Shared}
theorem SP.keep {h h':Heap} {a:Addr} {led:Bool} {zs:List Int} (S:SP prog w h a led zs) (k:∀o,h.get? a=some o->h'.get? a=some o):SP prog w h' a led zs:=by
 obtain ⟨o,es,ep,t,ho,r⟩:=S
 exact ⟨o,es,ep,t,k o ho,r⟩
abbrev Dd (w:World):Bool:=w.params.followText "set-order"
theorem Lh (a:Value) {Q:Value->Shared->Prop} (h:Q (.ref s.heap.objs.size) {s with heap:=s.heap.push {cls:= .type "set",dict:=none,data:= .set #[] 0 (.fresh 0 0 (!Dd w))}}):
  codeAny (model prog w) A (.call (.builtin "set.__new__") ⟨[.type "set",a],[]⟩) (wants Q E) s:=by
 refine codeAny_of_tree ?_;show wpAny _ A.in1 (do checkBuiltinCall "set.__new__" ⟨[.type "set",a],[]⟩;again (.builtin "set.__new__" ⟨[.type "set",a],[]⟩)) _ _ s
 refine ag (wpAny_of_eq (PySem.F.newCall_set_1 a) (aH ⟨lJ rj _,fW PySem.F.entry_set_new ?_⟩));rw [eP rj _]
 unfold Builtin.«set.__new__» Builtin.Frozenset.newClass;have hsub:=sub_set_self
 obtain ⟨hp,g,d,tk,os⟩:=s;dsimp only;wp_walk
 refine gW (aH ?_);dsimp only;simp only [newObj]
 exact ag (wpAny_alloc (aH (aH h)))
theorem Hn {I S l:Addr} {items:Array Value} {ns:List Int} {led:Bool} {St:Nat->Heap->Prop} {R:Result->Shared->Prop} (W:Walks prog w A.in1 I [I,l] [I] items.size (λi v=>items[i]? =some v) St) (hSI:S≠I) (hSl:S≠l)
  (hi:IntsAre items.toList ns) (hb:ns.length+1< scanBound):∀(k i:Nat) (s:Shared),items.size-i=k->i<=items.size->St i s.heap->SP prog w s.heap S led (dd (ns.take i))->
   (∀(h':Heap) (tk:Nat),(∀b o,b≠S->b≠I->s.heap.get? b=some o->h'.get? b=some o)->SP prog w h' S led (dd ns)->R (.ok (.ret .none)) {s with heap:=h',toks:=tk})->
   codeAny (model prog w) A (.builtin "set.update.loop" ⟨[.ref S,.ref I],[]⟩) R s:=by
 have hlen:items.size=ns.length:=by
  have:=hi.length
  simpa using this
 intro k
 induction k with
 |zero=>
  intro i s hk hil hst hS hR
  have e:i=items.size:=by lia
  subst e
  refine fW jo ?_;rw [eP fX _]
  show wpAny _ A.in1 (pyNext (.ref I)>>=_) _ _ s;refine ag (W.done s _ _ hst λh' tk hm=> ?_)
  refine aH (hR h' tk (λb o _ hbI e=>hm b o (by simpa using hbI) e) ?_)
  rw [hlen,bu] at hS
  exact hS.keep λo e=>hm S o (by simpa using hSI) e
 |succ k ih=>
  intro i s hk hil hst hS hR
  have hlt:i< items.size:=by lia
  refine fW jo ?_;rw [eP fX _]
  show wpAny _ A.in1 (pyNext (.ref I)>>=_) _ _ s;refine ag (W.item i s _ _ hlt hst λv h1 tk1 hv hst1 hm=> ?_)
  obtain ⟨t,rfl⟩:=IntsAre.int_at hi i v (by rw [dg];exact hv)
  have hS1:SP prog w h1 S led (dd (ns.take i)):=hS.keep λo e=>hm S o (by simpa using hSI) e
  show wpAny _ A.in1 (holding [Value.int (ns.getD i 0) t] (setAdd S (.int (ns.getD i 0) t))>>=_) _ _ {s with heap:=h1,toks:=tk1}
  refine ag (fw ?_);unfold setAdd
  refine fw (ag ((intKind prog w).pyHash (k:=ns.getD i 0) (intKind_is _ _ _ _) ?_))
  have hroom:(dd (ns.take i)).length+1< scanBound:=by
   have:=JA (ns.take i)
   rw [bf] at this
   lia
  refine add_int (s:={s with heap:=h1,toks:=tk1+1}) hS1 hroom λb h2 hsb hS2=> ?_
  have e2:dd (ns.take (i+1))=if ns.getD i 0∈dd (ns.take i) then dd (ns.take i) else dd (ns.take i)++[ns.getD i 0]:=by
   have hg:ns[i]? =some (ns.getD i 0):=by
    rw [dA,ab (show i< ns.length by lia)]
    rfl
   rw [fN,hg]
   exact LJ _ _
  rw [<-e2] at hS2
  have sb:∀b' o,b'≠S->h1.get? b'=some o->h2.get? b'=some o:=λb' o hb' e=>by rw [hsb.2 b' hb'];exact e
  refine aH ⟨lJ fX _,ih (i+1) _ (by lia) hlt (W.frame _ h1 _ hst1 λb' hb' o e=> ?_) hS2 λh3 tk3 hk3 hS3=> ?_⟩
  ·refine sb b' o (λz=> ?_) e
   rcases aX.mp hb' with z2|z2
   ·exact hSI (z.symm.trans z2)
   ·exact hSl (z.symm.trans (by simpa using z2))
  ·exact hR h3 tk3 (λb' o hb1 hb2 e=>hk3 b' o hb1 hb2 (sb b' o hb1 (hm b' o (by simpa using hb2) e))) hS3
set_option maxHeartbeats 3200000 in
theorem JR {l:Addr} {items:Array Value} {ns:List Int} {Q:Value->Shared->Prop} (hh:A.handled=none) (hl:s.heap.IsList l items) (hi:IntsAre items.toList ns) (hb:ns.length+1< scanBound)
  (k:∀(h':Heap) (tk:Nat),SP prog w h' s.heap.objs.size (!Dd w) (dd ns)->(∀b o,b< s.heap.objs.size->s.heap.get? b=some o->h'.get? b=some o)->Q (.ref s.heap.objs.size) {s with heap:=h',toks:=tk}):
  wpAny (model prog w) A (call (.type "set") [.ref l]) Q E s:=by
 obtain ⟨c,tl,hmro⟩:=eJ.mro;have hmade:=eJ.made;have hsub:=eJ.sub
 refine wpAny_call (codeAny_of_tree ?_);show wpAny _ _ (callAny (.type "set") _) _ _ _
 refine aH ⟨Code.quiet_builtin _ (by decide +kernel),fW PySem.F.entry_type_call ?_⟩;rw [Around.under_plain (weight_type_call_type "set" [.ref l] []) rfl]
 have h1:=eJ.notType;have h2:=eJ.canCreate;have hct:=PySem.F.typeCall_set_1 (.ref l)
 repeat (any_goals (first|assumption|wp_step))
 refine gE (Lh (.ref l) (E:=E) (Q:=λobj s1=>obj= .ref s.heap.objs.size/\s1={s with heap:=s.heap.push {cls:= .type "set",dict:=none,data:= .set #[] 0 (.fresh 0 0 (!Dd w))}}) ⟨rfl,rfl⟩) λr s1 hr=> ?_
 cases r with
 |error e=>exact hr
 |ok fl=>
  cases fl with
  |ret obj=>
   obtain ⟨rfl,rfl⟩:=hr
   generalize hN:({cls:= .type "set",dict:=none,data:= .set #[] 0 (.fresh 0 0 (!Dd w))}:Obj)=N
   have hS:(s.heap.push N).get? s.heap.objs.size=some N:=aZ _ (by rw [<-hN];rfl)
   have hT:Shared.TypeIs {s with heap:=s.heap.push N} (.ref s.heap.objs.size) "set":=⟨_,hS,by rw [<-hN]⟩
   have hli:=eJ.init.lookup;have hbi:=eJ.init.bind (.ref s.heap.objs.size)
   repeat (any_goals (first|assumption|wp_step))
   refine gE (codeAny_call_builtin (R:=wants (λr s2=>r= .none/\∃h' tk,s2={s with heap:=h',toks:=tk}/\SP prog w h' s.heap.objs.size (!Dd w) (dd ns)/\(∀b o,b< s.heap.objs.size->s.heap.get? b=some o->h'.get? b=some o)) E) eJ.init.plain PySem.F.entry_set_init (check_set_init_1 hT ?_)) λr2 s2 hr2=> ?_
   ·obtain ⟨⟨oc,odi,oda,osl⟩,hol,hcl,nl,hdl⟩:=hl
    simp only at hcl hdl
    subst hcl hdl
    have hol2:(s.heap.push N).get? l=some {cls:= .type "list",dict:=odi,data:= .seq items nl,slots:=osl}:=aD _ hol
    have hs1:=PySem.F.sub_list_set;have hs2:=PySem.F.sub_list_frozenset;have hne:(Value.type "list"==Value.type "dict")=false:=by decide
    have hl1:(s.heap.push N).IsList l items:=⟨_,hol2,rfl,nl,rfl⟩
    have sz:(s.heap.push N).objs.size=s.heap.objs.size+1:=cZ _ _
    subst hN
    unfold Builtin.«set.__init__» noKeywords Builtin.Frozenset.updateFrom;generalize hPI:pyIter=PI
    wp_walk;subst hPI
    refine ou hl1 ?_;refine ag (rM ?_)
    have hlS:l< s.heap.objs.size:=bz hol
    have hh3:A.in1.in1.in1.handled=none:=by simp [hh]
    refine Hn (Walks.list hh3 _ l (by rw [sz];exact bO (dq hlS)) items) (S:=s.heap.objs.size) (led:= !Dd w) (by rw [sz];exact bO (dY _)) (uS hlS) hi hb (items.size-0) 0 _ (by lia) (bD _) ⟨⟨_,aZ _ rfl,rfl,rfl⟩,hl1.push _⟩ ?start ?done
    case start=>
     refine ⟨_,#[],0,SetTable.fresh 0 0 (!Dd w),aD _ hS,?_⟩
     exact ⟨⟨rfl,rfl,rfl⟩,rfl,λe he=>by simp at he,List.Perm.nil,iV,by show (0:Nat)< 4096;lia,rfl,uI.fresh _⟩
    case done=>
     intro h' tk' hkeep hS'
     refine aH (aH ⟨rfl,h',tk',rfl,hS',λb o hb e=> ?_⟩)
     exact hkeep b o (bO hb) (by rw [sz];exact bO (dq hb)) (aD _ (aD _ e))
   ·cases r2 with
    |error e=>exact hr2
    |ok fl2=>
     cases fl2 with
     |ret r=>
      obtain ⟨rfl,h',tk,rfl,hS',hk'⟩:=hr2
      repeat (any_goals (first|assumption|wp_step))
      exact k _ _ hS' hk'
     |_=>exact hr2.elim
  |_=>exact hr.elim
end
end Qst
end
section
namespace Qst
open PySem PySem.Spec
theorem kI:Slot "set_iterator" "__next__" "set_iterator.__next__":= .of (owner:="set_iterator") (n:="__next__") (by rw [typeLookup_type,builtinLookup_eq_fast];kernel_rfl) (by decide +kernel) (by decide +kernel) (by decide +kernel) (by first|exact .inl (by decide +kernel)|exact .inr (by decide +kernel)) (by rw [rN];kernel_rfl)
theorem xR:entryFor table "set_iterator.__next__"=some Builtin.«set_iterator.__next__»:=entryFor_of_tree (by kernel_rfl)
theorem xV (a:Value):argsOk "set_iterator.__next__" ⟨[a],[]⟩:=by unfold argsOk;kernel_rfl
theorem Ai:Slot "set_iterator" "__iter__" "set_iterator.__iter__":= .of (owner:="set_iterator") (n:="__iter__") (by rw [typeLookup_type,builtinLookup_eq_fast];kernel_rfl) (by decide +kernel) (by decide +kernel) (by decide +kernel) (by first|exact .inl (by decide +kernel)|exact .inr (by decide +kernel)) (by rw [rN];kernel_rfl)
theorem K9:entryFor table "set.__iter__"=some Builtin.«frozenset.__iter__»:=entryFor_alias (id':="frozenset.__iter__") (by kernel_rfl) rfl (by decide +kernel) (by kernel_rfl)
theorem um {α:Type}:∀{l:List α} {i:Nat} (h:i< l.length),(l[i]::l.eraseIdx i).Perm l
 |[],i,h=>absurd h (cF _)
 |a::l,0,_=>List.Perm.refl _
 |a::l,i+1,h=>by
  have h2:i< l.length:=by simpa using h
  have ih:=um h2
  show (l[i]::a::l.eraseIdx i).Perm (a::l)
  exact (List.Perm.swap _ _ _).trans (List.Perm.cons a ih)
theorem Gh {α:Type} (next:Nat->Nat):∀(fuel k:Nat) (left:List α) (out:Array α),left.length<=fuel->(pickOrder.go next fuel k left out).toList.Perm (out.toList++left)
 |0,k,left,out,h=>by
  have:left=[]:=fE (by lia)
  subst this
  unfold pickOrder.go
  simp
 |fuel+1,k,left,out,h=>by
  rw [pickOrder.go]
  cases e:left[next k % left.length]? with
  |none=>
   have:left.length=0:=by
    apply a5
    intro hn
    have:=dj.mp e
    have:=Nat.mod_lt (next k) (show 0< left.length by lia)
    lia
   have:left=[]:=fE this
   subst this
   simp
  |some x=>
   simp only
   have hl:=(ae.mp e).1
   refine (Gh next fuel (k+1) _ _ (by rw [nq hl];lia)).trans ?_
   rw [uX,dN]
   refine List.Perm.append_left _ ?_
   have hp:=um hl
   have e2:left[next k % left.length]=x:=(ae.mp e).2
   rw [e2] at hp
   exact hp
theorem vP {α:Type} (next:Nat->Nat) (xs:Array α):(pickOrder next xs).toList.Perm xs.toList:=by
 unfold pickOrder
 have:=Gh next xs.size 0 xs.toList #[] (by simp)
 simpa using this
section
variable {prog:Program} {w:World} {A:Around} {E:Value->Shared->Prop} {s:Shared}
theorem EJ {src:Source} {n:Nat} {Q:Nat->Shared->Prop} (hn:n≠0) (h:∀(i:Nat) (d:Drawn),i< n->Q i {s with drawn:=d}):wpAny (model prog w) A (choose src n) Q E s:=fun Γ p hΓ=>by
 show Sem.wp (model prog w) Γ (.choose src n .pure) _ _ p s
 rw [Sem.wp_choose]
 exact ⟨hn,h _ _ (Nat.mod_lt _ (by lia))⟩
theorem CC {α:Type}:∀(m:Nat) (xs:List α) (s:Shared) (Q:List α->Shared->Prop),xs.length=m->(∀(ys:List α) (d:Drawn),ys.Perm xs->Q ys {s with drawn:=d})->wpAny (model prog w) A (drawOrder m xs) Q E s
 |0,xs,s,Q,hl,h=>by
  have:xs=[]:=fE hl
  subst this
  unfold drawOrder
  exact aH (h [] s.drawn (List.Perm.refl _))
 |m+1,[],s,Q,hl,h=>by cases hl
 |m+1,x::xs,s,Q,hl,h=>by
  unfold drawOrder
  refine ag (EJ (by simp) λi d hi=> ?_)
  have e:(x::xs)[i]? =some ((x::xs)[i]):=ab hi
  rw [e]
  simp only
  refine ag (CC m _ {s with drawn:=d} _ (by rw [nq hi,hl];rfl) λys d2 hp=> ?_)
  refine aH (h _ d2 ?_)
  exact (List.Perm.cons _ hp).trans (um hi)
end
end Qst
end
section
namespace Qst
open PySem PySem.Spec
def n6 (h:Heap) (I a:Addr) (f:Value) (i n ep:Nat):Prop:=∃o,h.get? I=some o/\o.cls= .type "set_iterator"/\o.data= .fields #[f,.int i 0,.ref a,.int n 0,.int ep 0]
section
variable {prog:Program} {w:World} {A:Around} {E:Value->Shared->Prop} {s:Shared}
theorem n6.ty {I a:Addr} {f:Value} {i n ep:Nat} (h:n6 s.heap I a f i n ep):s.TypeIs (.ref I) "set_iterator":=by
 obtain ⟨o,h1,h2,_⟩:=h
 exact ⟨o,h1,h2⟩
theorem vj {h:Heap} {I:Addr} {o:Obj} {vs:Array Value} (ho:h.get? I=some o) (hd:o.data= .fields vs) (k:Nat) (x:Value):
  (h.update I (Obj.mapFields (·.setIfInBounds k x))).get? I=some (Obj.mapFields (·.setIfInBounds k x) o)/\(Obj.mapFields (·.setIfInBounds k x) o).cls=o.cls/\(Obj.mapFields (·.setIfInBounds k x) o).data= .fields (vs.setIfInBounds k x):=
 ⟨gp _ ho (Obj.isFreed_of_fields (Obj.data_mapFields hd _)),Obj.cls_mapFields ..,Obj.data_mapFields hd _⟩
theorem F1 {I a:Addr} {slot i n ep nx:Nat} {o:Obj} {es:Array (Int×Value)} {t:SetTable} {x:Value} {Q:Option Value->Shared->Prop} (hit:n6 s.heap I a (.int slot 0) i n ep) (ho:s.heap.get? a=some o) (hd:o.data= .set es ep t) (hf:t.fits es.size=true) (hn:es.size=n)
  (hnx:∀(Q':Option (Value×Nat)->Shared->Prop) (E':Value->Shared->Prop),Q' (some (x,nx)) s->wpAny (model prog w) A.in1 (setNext a slot i ep) Q' E' s)
  (k:∀h',n6 h' I a (.int nx 0) (i+1) n ep->Heap.SameBut I s.heap h'->Q (some x) {s with heap:=h'}):wpAny (model prog w) A (pyNext (.ref I)) Q E s:=by
 obtain ⟨oi,hi1,hi2,hi3⟩:=id hit
 unfold pyNext
 refine ag (oV (fL (name:=Str.ofString "__next__") hit.ty kI (eO kI hit.ty xR ?_ (xV _))))
 unfold Builtin.«set_iterator.__next__» slotArgs
 simp only [jd,ju,dD,↓reduceIte,bind_assoc,fU,fO]
 refine ag (aH ?_)
 refine ag (nr hi1 hi3 ?_)
 simp only
 refine ag (gS ho hd hf ?_)
 rw [au (by rw [hn];simp)]
 simp only [aK]
 refine ag (hnx _ _ ?_)
 simp only
 obtain ⟨u1,u2,u3⟩:=vj hi1 hi3 0 (rawInt nx)
 refine ag (iX hi1 hi3 (by simp) ?_)
 obtain ⟨v1,v2,v3⟩:=vj u1 u3 1 (rawInt ((i:Int)+1))
 refine ag (iX u1 u3 (by simp) ?_)
 refine aH ⟨_,rfl,aH (k _ ⟨_,v1,v2.trans (u2.trans hi2),?_⟩ ((d7 ..).trans (d7 ..)))⟩
 rw [v3]
 simp [rawInt]
theorem J8 {I a:Addr} {slot i n ep:Nat} {o:Obj} {es:Array (Int×Value)} {t:SetTable} {Q:Option Value->Shared->Prop} (hh:A.handled=none) (hit:n6 s.heap I a (.int slot 0) i n ep) (ho:s.heap.get? a=some o) (hd:o.data= .set es ep t) (hf:t.fits es.size=true) (hn:es.size=n)
  (hnx:∀(Q':Option (Value×Nat)->Shared->Prop) (E':Value->Shared->Prop),Q' none s->wpAny (model prog w) A.in1 (setNext a slot i ep) Q' E' s)
  (k:∀h',Heap.ExtBut I s.heap h'->Q none {s with heap:=h'}):wpAny (model prog w) A (pyNext (.ref I)) Q E s:=by
 obtain ⟨oi,hi1,hi2,hi3⟩:=id hit
 unfold pyNext
 refine ag (oV (fL (name:=Str.ofString "__next__") hit.ty kI (eO kI hit.ty xR ?_ (xV _))))
 unfold Builtin.«set_iterator.__next__» slotArgs
 simp only [jd,ju,dD,↓reduceIte,bind_assoc,fU,fO]
 refine ag (aH ?_)
 refine ag (nr hi1 hi3 ?_)
 simp only
 refine ag (gS ho hd hf ?_)
 rw [au (by rw [hn];simp)]
 simp only [aK]
 refine ag (hnx _ _ ?_)
 simp only
 refine ag (iX hi1 hi3 (by simp) ?_)
 refine ag ?_;simp only [newExc,newTuple];refine ag (cW ?_ (by size_fits))
 refine ag (m:=firstArgMember _ _) (wpAny_of_eq (a:=Value.none) (by first|rfl|(simp only [firstArgMember];rfl)) (cW ?_ (by size_fits)))
 simp only [raiseNew];refine ag (wpAny_handled ?_);rw [show A.in1.handled=none from hh]
 refine ag (aH (wpAny_throw ?_));refine ag (pK (T:="StopIteration") (b:=true) ⟨_,aZ _ rfl,rfl⟩ isSubtype_stop ?_)
 exact aH (k _ (((d7 ..).extBut.push _).push _))
theorem D0 {a:Addr} {o:Obj} {es:Array (Int×Value)} {ep:Nat} {t:SetTable} (hb:Dd w=true) (ho:s.heap.get? a=some o) (hd:o.data= .set es ep t) (hf:t.fits es.size=true) (slot i:Nat) {Q:Option (Value×Nat)->Shared->Prop}
  (k:Q ((pickOrder (w.params.setOrder a ep) es)[i]?.map λe=>(e.2,slot)) s):wpAny (model prog w) A (setNext a slot i ep) Q E s:=by
 unfold setNext
 refine ag (gG ho hd hf ?_)
 simp only
 unfold setsByText
 refine ag (ag (gW (aH ?_)))
 have hb2:(model prog w).w.params.followText "set-order"=true:=hb
 simp only [hb2,↓reduceIte,fO,dD]
 unfold setWalk setsByText
 refine ag (ag (gG ho hd hf ?_))
 simp only
 refine ag (ag (gW (aH ?_)))
 simp only [hb2,↓reduceIte]
 exact ag (gW (aH (aH k)))
theorem z9 {a:Addr} {o:Obj} {es:Array (Int×Value)} {ep:Nat} {t:SetTable} (hb:Dd w=false) (ho:s.heap.get? a=some o) (hd:o.data= .set es ep t) (hf:t.fits es.size=true) (hl:t.led=true) (hdr:(!t.plain&&decide (es.size>1))=false) (slot i:Nat) {Q:Option (Value×Nat)->Shared->Prop}
  (k:Q (match es[SetTable.below t.place slot]?,t.place[SetTable.below t.place slot]? with|some (_,x),some j=>some (x,j+1)|_,_=>none) s):wpAny (model prog w) A (setNext a slot i ep) Q E s:=by
 unfold setNext
 refine ag (gG ho hd hf ?_)
 simp only
 unfold setsByText
 refine ag (ag (gW (aH ?_)))
 have hb2:(model prog w).w.params.followText "set-order"=false:=hb
 simp only [hb2,dD,↓reduceIte]
 refine jG (λhc=> ?_) (λ_=> ?_)
 ·have hc:(!t.plain&&decide (es.size>1))=true:=hc
  rw [hdr] at hc
  cases hc
 ·refine ag ?_
  show wpAny _ _ (if (!t.led&& !es.isEmpty)=true then unsupported "set:maker-not-led" else pure ()) _ _ _
  rw [hl,ju,kf,au (by simp)]
  exact aH (aH k)
end
end Qst
end
section
namespace Qst
open PySem PySem.Spec
theorem G9:entryFor table "set_iterator.__iter__"=some Builtin.«dict_keyiterator.__iter__»:=entryFor_alias (id':="dict_keyiterator.__iter__") (by kernel_rfl) rfl (by decide +kernel) (by kernel_rfl)
theorem Hd (a:Value):argsOk "set_iterator.__iter__" ⟨[a],[]⟩:=by unfold argsOk;kernel_rfl
section
variable {prog:Program} {w:World} {A:Around} {E:Value->Shared->Prop} {s:Shared}
theorem A4 {I a:Addr} {f:Value} {i n ep:Nat} {Q:Value->Shared->Prop} (hit:n6 s.heap I a f i n ep) (k:Q (.ref I) s):wpAny (model prog w) A (pyIter (.ref I)) Q E s:=by
 refine wpAny_pyIter_slot hit.ty Ai (eO Ai hit.ty G9 ?_ (Hd _));show wpAny _ _ (ret (.ref I)) _ _ s
 exact aH ⟨_,rfl,"set_iterator",_,hit.ty,kI.lookup,k⟩
theorem n6.keep {h h':Heap} {I a:Addr} {f:Value} {i n ep:Nat} (x:n6 h I a f i n ep) (e:∀o,h.get? I=some o->h'.get? I=some o):n6 h' I a f i n ep:=by
 obtain ⟨o,ho,r⟩:=x
 exact ⟨o,e o ho,r⟩
theorem HQ {I a:Addr} {o:Obj} {es:Array (Int×Value)} {ep:Nat} {t:SetTable} (hh:A.handled=none) (hb:Dd w=true) (hd:o.data= .set es ep t) (hf:t.fits es.size=true) (hne:a≠I):
  Walks prog w A I [I,a] [I] es.size (λi v=>∃e,(pickOrder (w.params.setOrder a ep) es)[i]? =some e/\v=e.2) (λi h=>n6 h I a (.int 0 0) i es.size ep/\h.get? a=some o) where
 sub:=λb hb=>by simp at hb;simp [hb]
 frame:=λi h h' st hk=>⟨st.1.keep λo e=>hk I (by simp) o e,hk a (by simp) o st.2⟩
 item:=λi s Q E hi st k=>by
  have hsz:(pickOrder (w.params.setOrder a ep) es).size=es.size:=Bu (vP _ _)
  have hx:(pickOrder (w.params.setOrder a ep) es)[i]? =some (pickOrder (w.params.setOrder a ep) es)[i]:=gz (by lia)
  refine F1 (slot:=0) (nx:=0) (x:=((pickOrder (w.params.setOrder a ep) es)[i]'(by lia)).2) st.1 st.2 hd hf rfl (λQ' E' q=>D0 hb st.2 hd hf 0 i ?_) λh' hit' hsb=> ?_
  ·rw [hx]
   exact q
  ·exact k _ h' s.toks ⟨_,hx,rfl⟩ ⟨hit',(hsb.2 a hne).trans st.2⟩ λb o' hb' e=>(hsb.2 b (by simpa using hb')).trans e
 done:=λs Q E st k=>by
  have hsz:(pickOrder (w.params.setOrder a ep) es).size=es.size:=Bu (vP _ _)
  have hx:(pickOrder (w.params.setOrder a ep) es)[es.size]? =none:=qk (by lia)
  refine J8 hh st.1 st.2 hd hf rfl (λQ' E' q=>D0 hb st.2 hd hf 0 _ ?_) λh' he=>k h' s.toks λb o' hb' e=>he b o' (by simpa using hb') e
  rw [hx]
  exact q
 self:=λi s Q E st k=>A4 st.1 k
def Bw (t:SetTable):Nat->Nat
 |0=>0
 |i+1=>t.place.getD i 0+1
theorem Er {led:Bool} {t:SetTable} (T:uI led t) {i:Nat} (hi:i< t.place.size):SetTable.below t.place (Bw t i)=i:=by
 refine Cu T.Ma hi (λk hk hki=> ?_) ?_
 ·cases i with
  |zero=>lia
  |succ i=>
   show t.place[k]< t.place.getD i 0+1
   have e:t.place.getD i 0=t.place[i]:=by simp [Array.getD,(show i< t.place.size by lia)]
   rw [e]
   by_cases h:k=i
   ·subst h;lia
   ·have:=wg T.Ma (show k< i by lia) (by lia)
    lia
 ·cases i with
  |zero=>exact bD _
  |succ i=>
   show t.place.getD i 0+1<=t.place[i+1]
   have e:t.place.getD i 0=t.place[i]:=by simp [Array.getD,(show i< t.place.size by lia)]
   rw [e]
   exact wg T.Ma (dY i) hi
theorem Ka {led:Bool} {t:SetTable} (T:uI led t):SetTable.below t.place (Bw t t.place.size)=t.place.size:=by
 refine Hb T.Ma λk hk=> ?_
 obtain ⟨m,hm⟩:∃m,t.place.size=m+1:=⟨t.place.size-1,by lia⟩
 rw [hm]
 show t.place[k]< t.place.getD m 0+1
 have e:t.place.getD m 0=t.place[m]:=by simp [Array.getD,(show m< t.place.size by lia)]
 rw [e]
 by_cases h:k=m
 ·subst h;lia
 ·have:=wg T.Ma (show k< m by lia) (by lia)
  lia
theorem zU {t:SetTable} {n:Nat} (h:t.fits n=true):t.place.size=n:=by
 unfold SetTable.fits at h
 rw [aR,cR] at h
 exact h.1
theorem Ex {I a:Addr} {o:Obj} {es:Array (Int×Value)} {ep:Nat} {t:SetTable} (hh:A.handled=none) (hb:Dd w=false) (hd:o.data= .set es ep t) (hf:t.fits es.size=true) (T:uI true t) (hdr:(!t.plain&&decide (es.size>1))=false) (hne:a≠I):
  Walks prog w A I [I,a] [I] es.size (λi v=>∃e,es[i]? =some e/\v=e.2) (λi h=>n6 h I a (.int (Bw t i) 0) i es.size ep/\h.get? a=some o) where
 sub:=λb hb=>by simp at hb;simp [hb]
 frame:=λi h h' st hk=>⟨st.1.keep λo e=>hk I (by simp) o e,hk a (by simp) o st.2⟩
 item:=λi s Q E hi st k=>by
  have hps:=zU hf
  have hx:es[i]? =some es[i]:=gz hi
  have hj:t.place[i]? =some t.place[i]:=gz (by lia)
  have hg:t.place.getD i 0=t.place[i]'(by lia):=by simp [Array.getD,(show i< t.place.size by lia)]
  refine F1 (nx:=Bw t (i+1)) (x:=es[i].2) st.1 st.2 hd hf rfl (λQ' E' q=>z9 hb st.2 hd hf T.led hdr _ i ?_) λh' hit' hsb=> ?_
  ·rw [Er T (by lia),hx,hj]
   show Q' (some (es[i].2,t.place[i]+1)) s
   rw [<-hg]
   exact q
  ·exact k _ h' s.toks ⟨_,hx,rfl⟩ ⟨hit',(hsb.2 a hne).trans st.2⟩ λb o' hb' e=>(hsb.2 b (by simpa using hb')).trans e
 done:=λs Q E st k=>by
  have hps:=zU hf
  refine J8 hh st.1 st.2 hd hf rfl (λQ' E' q=>z9 hb st.2 hd hf T.led hdr _ _ ?_) λh' he=>k h' s.toks λb o' hb' e=>he b o' (by simpa using hb') e
  have e1:=Ka T
  rw [hps] at e1
  rw [e1,qk (aF _)]
  exact q
 self:=λi s Q E st k=>A4 st.1 k
end
end Qst
end
section
namespace Qst
open PySem PySem.Spec
section
variable {prog:Program} {w:World} {A:Around} {E:Value->Shared->Prop} {s:Shared}
abbrev P7 (ys:List Nat):Obj:={cls:= .type "tuple",data:= .seq (ys.map λ(i:Nat)=>rawInt i).toArray}
theorem JL {I a tp:Addr} {i n ep j:Nat} {o:Obj} {es:Array (Int×Value)} {t:SetTable} {ys:List Nat} {e:Int×Value} {Q:Option Value->Shared->Prop} (hit:n6 s.heap I a (.ref tp) i n ep) (ho:s.heap.get? a=some o) (hd:o.data= .set es ep t) (hf:t.fits es.size=true) (hn:es.size=n)
  (ht:s.heap.get? tp=some (P7 ys)) (hj:ys[i]? =some j) (he:es[j]? =some e)
  (k:∀h',n6 h' I a (.ref tp) (i+1) n ep->Heap.SameBut I s.heap h'->Q (some e.2) {s with heap:=h'}):wpAny (model prog w) A (pyNext (.ref I)) Q E s:=by
 obtain ⟨oi,hi1,hi2,hi3⟩:=id hit
 unfold pyNext
 refine ag (oV (fL (name:=Str.ofString "__next__") hit.ty kI (eO kI hit.ty xR ?_ (xV _))))
 unfold Builtin.«set_iterator.__next__» slotArgs
 simp only [jd,ju,dD,↓reduceIte,bind_assoc,fU,fO]
 refine ag (aH ?_)
 refine ag (nr hi1 hi3 ?_)
 simp only
 refine ag (gS ho hd hf ?_)
 rw [au (by rw [hn];simp)]
 simp only [aK]
 refine ag (wpAny_seqItems ht rfl ?_)
 have hp:(ys.map λ(i:Nat)=>rawInt i).toArray[i]? =some (rawInt j):=by
  rw [rl,ay,hj]
  rfl
 simp only [hp]
 unfold setNextDrawn
 refine ag (ag (gG ho hd hf ?_))
 simp only [fO,dD,↓reduceIte,rawInt,aK,he]
 refine aH ?_
 obtain ⟨v1,v2,v3⟩:=vj hi1 hi3 1 (rawInt ((i:Int)+1))
 refine ag (iX hi1 hi3 (by simp) ?_)
 refine aH ⟨_,rfl,aH (k _ ⟨_,v1,v2.trans hi2,?_⟩ (d7 ..))⟩
 rw [v3]
 simp [rawInt]
theorem LF {I a tp:Addr} {i n ep:Nat} {o:Obj} {es:Array (Int×Value)} {t:SetTable} {ys:List Nat} {Q:Option Value->Shared->Prop} (hh:A.handled=none) (hit:n6 s.heap I a (.ref tp) i n ep) (ho:s.heap.get? a=some o) (hd:o.data= .set es ep t) (hf:t.fits es.size=true) (hn:es.size=n)
  (ht:s.heap.get? tp=some (P7 ys)) (hj:ys[i]? =none)
  (k:∀h',Heap.ExtBut I s.heap h'->Q none {s with heap:=h'}):wpAny (model prog w) A (pyNext (.ref I)) Q E s:=by
 obtain ⟨oi,hi1,hi2,hi3⟩:=id hit
 unfold pyNext
 refine ag (oV (fL (name:=Str.ofString "__next__") hit.ty kI (eO kI hit.ty xR ?_ (xV _))))
 unfold Builtin.«set_iterator.__next__» slotArgs
 simp only [jd,ju,dD,↓reduceIte,bind_assoc,fU,fO]
 refine ag (aH ?_)
 refine ag (nr hi1 hi3 ?_)
 simp only
 refine ag (gS ho hd hf ?_)
 rw [au (by rw [hn];simp)]
 simp only [aK]
 refine ag (wpAny_seqItems ht rfl ?_)
 have hp:(ys.map λ(i:Nat)=>rawInt i).toArray[i]? =none:=by
  rw [rl,ay,hj]
  rfl
 simp only [hp]
 obtain ⟨u1,u2,u3⟩:=vj hi1 hi3 0 (rawInt 0)
 refine ag (iX hi1 hi3 (by simp) ?_)
 refine ag (iX u1 u3 (by simp) ?_)
 refine ag ?_;simp only [newExc,newTuple];refine ag (cW ?_ (by size_fits))
 refine ag (m:=firstArgMember _ _) (wpAny_of_eq (a:=Value.none) (by first|rfl|(simp only [firstArgMember];rfl)) (cW ?_ (by size_fits)))
 simp only [raiseNew];refine ag (wpAny_handled ?_);rw [show A.in1.handled=none from hh]
 refine ag (aH (wpAny_throw ?_));refine ag (pK (T:="StopIteration") (b:=true) ⟨_,aZ _ rfl,rfl⟩ isSubtype_stop ?_)
 exact aH (k _ ((((d7 ..).trans (d7 ..)).extBut.push _).push _))
theorem EF {I a tp:Addr} {o:Obj} {es:Array (Int×Value)} {ep:Nat} {t:SetTable} {ys:List Nat} (hh:A.handled=none) (hd:o.data= .set es ep t) (hf:t.fits es.size=true) (hy:ys.Perm (List.range es.size)) (hne:a≠I) (hnt:tp≠I):
  Walks prog w A I [I,a,tp] [I] es.size (λi v=>∃j e,ys[i]? =some j/\es[j]? =some e/\v=e.2) (λi h=>n6 h I a (.ref tp) i es.size ep/\h.get? a=some o/\h.get? tp=some (P7 ys)) where
 sub:=λb hb=>by simp at hb;simp [hb]
 frame:=λi h h' st hk=>⟨st.1.keep λo e=>hk I (by simp) o e,hk a (by simp) o st.2.1,hk tp (by simp) _ st.2.2⟩
 item:=λi s Q E hi st k=>by
  have hl:ys.length=es.size:=by
   have:=hy.length_eq
   simpa using this
  have hj:ys[i]? =some (ys[i]'(by lia)):=ab (by lia)
  have hjm:ys[i]'(by lia)< es.size:=by
   have:=hy.mem_iff.mp (fm (show i< ys.length by lia))
   simpa using this
  have he:es[ys[i]'(by lia)]? =some (es[ys[i]'(by lia)]'hjm):=gz hjm
  exact JL st.1 st.2.1 hd hf rfl st.2.2 hj he λh' hit' hsb=>k _ h' s.toks ⟨_,_,hj,he,rfl⟩ ⟨hit',(hsb.2 a hne).trans st.2.1,(hsb.2 tp hnt).trans st.2.2⟩ λb o' hb' e=>(hsb.2 b (by simpa using hb')).trans e
 done:=λs Q E st k=>by
  have hl:ys.length=es.size:=by
   have:=hy.length_eq
   simpa using this
  exact LF hh st.1 st.2.1 hd hf rfl st.2.2 (bq (by lia)) λh' he=>k h' s.toks λb o' hb' e=>he b o' (by simpa using hb') e
 self:=λi s Q E st k=>A4 st.1 k
def GI (zs:List Int) (n:Nat) (P:Nat->Value->Prop):Prop:=∀vs:List Value,vs.length=n->(∀(j:Nat) (v:Value),vs[j]? =some v->P j v)->∃ys:List Int,ys.Perm zs/\PyProof.Rows.IntsAre vs ys
theorem FU:∀{L:List (Int×Value)},ElemsOf (intKind prog w) L->PyProof.Rows.IntsAre (L.map (·.2)) (L.map vi)
 |[],_=> .nil
 |e::L,h=>by
  obtain ⟨⟨k,hk,_⟩,_⟩:=h e aP
  have hk2:Value.isInt k e.2=true:=hk
  obtain ⟨t,ht⟩:=ot hk2
  have ih:=FU (L:=L) λx hx=>h x (aE _ hx)
  rw [bA,bA]
  have e1:vi e=k:=IV hk
  rw [e1,ht]
  exact .cons k t ih
theorem A6 {led:Bool} {zs:List Int} {o:Obj} {es:Array (Int×Value)} {ep:Nat} {t:SetTable} {P:Nat->Value->Prop} (S:Eo prog w led zs o es ep t) {L:List (Int×Value)} (hL:L.Perm es.toList) (hP:∀j v,P j v->∃e,L[j]? =some e/\v=e.2):GI zs es.size P:=λvs hl hv=>by
 have e:vs=L.map (·.2):=by
  apply bS
  intro j
  rw [ay]
  by_cases hj:j< vs.length
  ·obtain ⟨e,h1,h2⟩:=hP j vs[j] (hv j _ (ab hj))
   rw [ab hj,h1,h2]
   rfl
  ·have hll:L.length=es.size:=by
    have:=hL.length_eq
    simpa using this
   rw [bq (by lia),bq (by lia)]
   rfl
 rw [e]
 exact ⟨L.map vi,(hL.map vi).trans S.tJ,FU (S.CD.perm hL)⟩
theorem Jg {a:Addr} {zs:List Int} {o:Obj} {es:Array (Int×Value)} {ep:Nat} {t:SetTable} {Q:Value->Shared->Prop} (hh:A.handled=none) (ho:s.heap.get? a=some o) (S:Eo prog w (!Dd w) zs o es ep t)
  (k:∀(I:Addr) (h':Heap) (d:Drawn) (fp:List Addr) (P:Nat->Value->Prop) (St:Nat->Heap->Prop),(∀b o',s.heap.get? b=some o'->h'.get? b=some o')->s.heap.objs.size<=I->(∀b∈fp,b=a\/s.heap.objs.size<=b)->(∀b∈fp,b< h'.objs.size)->Walks prog w A I fp [I] es.size P St->St 0 h'->GI zs es.size P->Q (.ref I) {s with heap:=h',drawn:=d}):
  wpAny (model prog w) A (pyIter (.ref a)) Q E s:=by
 have hT:s.TypeIs (.ref a) "set":=⟨o,ho,S.exact.1⟩
 have hal:a< s.heap.objs.size:=bz ho
 refine wpAny_pyIter_slot hT rm (eO rm hT K9 ?_ (PySem.F.args_set_iter_1 _))
 unfold Builtin.«frozenset.__iter__» Builtin.Frozenset.slot0 slotArgs
 simp only [jd,ju,dD,↓reduceIte,bind_assoc,fU,fO]
 unfold Builtin.Frozenset.addrOf Builtin.Frozenset.sizeOf
 refine ag (aH ?_);try dsimp only
 refine ag (aH ?_)
 refine ag (ag (gS ho S.data S.fits (aH ?_)))
 unfold setDrawn setsByText
 refine ag (ag (gG ho S.data S.fits ?_));simp only
 refine ag (ag (gW (aH (aH ?_))))
 refine jG (λhc=> ?_) (λhc=> ?_)
 ·refine ag (CC es.size _ s _ (by simp) λys d hy=> ?_)
  have hl:ys.length=es.size:=by
   have:=hy.length_eq
   simpa using this
  refine ag (PySem.wpAny_newTuple ?_ (by rw [af,hl];exact oC S.Q7))
  refine ag (wpAny_setEpoch_of (aD _ ho) S.data S.fits ?_)
  unfold newFields
  refine ag (cW ?_ (by size_fits))
  have kp:∀b o',s.heap.get? b=some o'->((s.heap.push (P7 ys)).push {cls:= .type "set_iterator",data:= .fields #[.ref s.heap.objs.size,rawInt 0,.ref a,rawInt es.size,rawInt ep]}).get? b=some o':=λb o' e=>aD _ (aD _ e)
  have sz1:(s.heap.push (P7 ys)).objs.size=s.heap.objs.size+1:=cZ _ _
  refine aH ⟨_,rfl,"set_iterator",_,⟨_,aZ _ rfl,rfl⟩,kI.lookup,?_⟩
  refine k _ _ d [(s.heap.push (P7 ys)).objs.size,a,s.heap.objs.size] _ _ kp (by rw [sz1];exact cG _) (λb hb=> ?_) (λb hb=> ?_) (EF hh S.data S.fits hy (by rw [sz1];exact bO (dq hal)) (by rw [sz1];exact bO (dY _))) ⟨⟨_,aZ _ rfl,rfl,rfl⟩,kp _ _ ho,aD _ (aZ _ rfl)⟩ ?_
  ·rcases aX.mp hb with e|hb
   ·rw [e,sz1];exact .inr (cG _)
   ·rcases aX.mp hb with e|hb
    ·exact .inl e
    ·rw [bb.mp hb];exact .inr (aF _)
  ·rw [cZ,sz1]
   rcases aX.mp hb with e|hb
   ·rw [e,sz1];exact dY _
   ·rcases aX.mp hb with e|hb
    ·rw [e];exact dq (dq hal)
    ·rw [bb.mp hb];exact dq (dY _)
  ·refine A6 S (L:=ys.map λj=>es.getD j (0,.none)) ?_ λj v ⟨i,e,h1,h2,h3⟩=>⟨e,?_,h3⟩
   ·have e1:es.toList=(List.range es.size).map λj=>es.getD j (0,.none):=by
     apply bS
     intro i
     rw [ay]
     by_cases hi:i< es.size
     ·rw [b9 hi]
      simp [Array.getD,hi]
     ·rw [bq (by simpa using hi),bq (by simpa using hi)]
      rfl
    rw [e1]
    exact hy.map _
   ·rw [ay,h1]
    have hi:i< es.size:=by
     have:=nt.mp h2
     exact this.1
    have h4:es[i]=e:=(nt.mp h2).2
    simp [Array.getD,hi,h4]
 ·refine ag (aH ?_)
  refine ag (wpAny_setEpoch_of ho S.data S.fits ?_)
  unfold newFields
  refine ag (cW ?_ (by size_fits))
  have kp:∀b o',s.heap.get? b=some o'->(s.heap.push {cls:= .type "set_iterator",data:= .fields #[rawInt 0,rawInt 0,.ref a,rawInt es.size,rawInt ep]}).get? b=some o':=λb o' e=>aD _ e
  refine aH ⟨_,rfl,"set_iterator",_,⟨_,aZ _ rfl,rfl⟩,kI.lookup,?_⟩
  have m1:∀b∈[s.heap.objs.size,a],b=a\/s.heap.objs.size<=b:=λb hb=>by
   rcases aX.mp hb with e|hb
   ·rw [e];exact .inr (aF _)
   ·exact .inl (bb.mp hb)
  have m2:∀b∈[s.heap.objs.size,a],b< (s.heap.push {cls:= .type "set_iterator",data:= .fields #[rawInt 0,rawInt 0,.ref a,rawInt es.size,rawInt ep]}).objs.size:=λb hb=>by
   rw [cZ]
   rcases aX.mp hb with e|hb
   ·rw [e];exact dY _
   ·rw [bb.mp hb];exact dq hal
  by_cases hb:Dd w=true
  ·refine k _ _ s.drawn [s.heap.objs.size,a] _ _ kp (aF _) m1 m2 (HQ hh hb S.data S.fits (bO hal)) ⟨⟨_,aZ _ rfl,rfl,rfl⟩,kp _ _ ho⟩ ?_
   refine A6 S (L:=(pickOrder (w.params.setOrder a ep) es).toList) (vP _ _) λj v ⟨e,h1,h2⟩=>⟨e,?_,h2⟩
   rw [dg]
   exact h1
  ·have hb:Dd w=false:=by simpa using hb
   have hdr:(!t.plain&&decide (es.size>1))=false:=by
    cases hz:(!t.plain&&decide (es.size>1)) with
    |false=>rfl
    |true=>
     exfalso
     apply hc
     show (!Dd w&&(!t.plain&&decide (es.size>1)))=true
     rw [hb,hz]
     rfl
   have T:uI true t:=by
    have:=S.ok
    rw [hb] at this
    exact this
   refine k _ _ s.drawn [s.heap.objs.size,a] _ _ kp (aF _) m1 m2 (Ex hh hb S.data S.fits T hdr (bO hal)) ⟨⟨_,aZ _ rfl,rfl,rfl⟩,kp _ _ ho⟩ ?_
   refine A6 S (L:=es.toList) (List.Perm.refl _) λj v ⟨e,h1,h2⟩=>⟨e,?_,h2⟩
   rw [dg]
   exact h1
end
end Qst
end
section
namespace Qst
open PySem PySem.Spec PyProof.Rows
section
variable {prog:Program} {w:World} {A:Around} {E:Value->Shared->Prop} {s:Shared}
theorem IK {r:Addr} {Q:Bool->Shared->Prop} (hT:s.TypeIs (.ref r) "set") (k:Q false s):wpAny (model prog w) A (Builtin.List.listLengthHint (.ref r)) Q E s:=by
 unfold Builtin.List.listLengthHint;refine ag (wpAny_specialOf hT PySem.F.slot_set_len.lookup ?_)
 generalize hid:("set.__len__":String)=id0;wp_delta
 rw [show splitId id0=some ("set","__len__") from by subst hid;decide +kernel];subst hid
 refine ag (pK (T:="set") (b:=true) hT (by rw [rN];kernel_rfl) ?_)
 refine jG (λhab=>absurd hab (by decide)) (λ_=>jG (λ_=>ag (qg hT (aH k))) (λhab=>absurd (by decide +kernel) hab))
theorem Cr {a:Addr} {zs:List Int} {R:List Value->Shared->Prop} (hh:A.handled=none) (hS:SP prog w s.heap a (!Dd w) zs)
  (k:∀(h':Heap) (d:Drawn) (tk:Nat) (vs:List Value) (ys:List Int),(∀b o,s.heap.get? b=some o->h'.get? b=some o)->ys.Perm zs->IntsAre vs ys->R vs {s with heap:=h',drawn:=d,toks:=tk}):
  wpAny (model prog w) A (collect (.ref a)) R E s:=by
 obtain ⟨o,es,ep,t,ho,S⟩:=hS
 have hal:a< s.heap.objs.size:=bz ho
 unfold collect
 refine ag (rM (fW entry_proto_collect' ?_));rw [eP PySem.F.plain_proto_collect _]
 show wpAny _ A.in1 (newList []>>=λl=>again (.builtin "list.__iadd__" ⟨[l,.ref a],[]⟩)) _ _ s;refine ag (cW (aH ⟨lJ pL _,fW entry_list_iadd' ?_⟩));rw [eP pL _]
 have e0:([]:List Value).toArray= #[]:=rfl
 have hL:(s.heap.push {cls:= .type "list",data:= .seq ([]:List Value).toArray}).get? s.heap.objs.size=some {cls:= .type "list",data:= .seq #[]}:=aZ _ rfl
 have hkL:∀b o',s.heap.get? b=some o'->(s.heap.push {cls:= .type "list",data:= .seq ([]:List Value).toArray}).get? b=some o':=λb o' e=>aD _ e
 have szL:(s.heap.push {cls:= .type "list",data:= .seq ([]:List Value).toArray}).objs.size=s.heap.objs.size+1:=cZ _ _
 show wpAny _ A.in1 (Builtin.List.listExtendWith (.ref s.heap.objs.size) (.ref a) (.ref s.heap.objs.size)) _ _ {s with heap:=s.heap.push {cls:= .type "list",data:= .seq ([]:List Value).toArray}}
 generalize s.heap.push {cls:= .type "list",data:= .seq ([]:List Value).toArray}=h0 at hL hkL szL
 unfold Builtin.List.listExtendWith
 have hT0:Shared.TypeIs {s with heap:=h0} (.ref a) "set":=⟨o,hkL _ _ ho,S.exact.1⟩
 refine ag (qg hT0 ?_)
 have hne:s.heap.objs.size≠a:=uS hal
 have h1:Builtin.List.listSameRef (.ref s.heap.objs.size) (.ref a)=false:=by simp [Builtin.List.listSameRef,hne]
 have h2:(Value.type "set"==Value.type "list")=false:=by decide
 have h3:(Value.type "set"==Value.type "tuple")=false:=by decide
 simp only [h1,h2,h3,iF,dD,pE]
 refine ag (Jg (s:={s with heap:=h0}) hh (hkL _ _ ho) S λI h' d fp P St kp hI hfp hfl W st C7=> ?_)
 have hI2:s.heap.objs.size+1<=I:=by rw [<-szL];exact hI
 have hSf:s.heap.objs.size∉fp:=λhm=>by
  rcases hfp _ hm with e|e
  ·exact hne e
  ·have e:h0.objs.size<=s.heap.objs.size:=e
   rw [szL] at e
   exact Nat.not_succ_le_self _ e
 have hL1:h'.get? s.heap.objs.size=some {cls:= .type "list",data:= .seq #[]}:=kp _ _ hL
 have hT1:Shared.TypeIs {s with heap:=h',drawn:=d} (.ref a) "set":=⟨o,kp _ _ (hkL _ _ ho),S.exact.1⟩
 refine ag (fw (IK hT1 ?_))
 have hsz:es.size<=sizeLine:=bg (dM S.Q7) (by decide)
 have turn:∀(g:Heap) (c1 tk:Nat),St 0 g->(∀b o',s.heap.get? b=some o'->g.get? b=some o')->g.get? s.heap.objs.size=some {cls:= .type "list",data:= .seq #[] c1}->
   codeAny (model prog w) A (.builtin "list.extend.loop" ⟨[.ref s.heap.objs.size,.ref I,.ref s.heap.objs.size],[]⟩) (λq s'=>∃(g3:Heap) (tk3:Nat) (acc:Array Value) (c3:Nat),q= .ok (.ret (.ref s.heap.objs.size))/\s'={s with heap:=g3,drawn:=d,toks:=tk3}/\(∀b o',s.heap.get? b=some o'->g3.get? b=some o')/\g3.get? s.heap.objs.size=some {cls:= .type "list",dict:=none,data:= .seq acc c3,slots:= #[]}/\ItemsOf P acc es.size) {s with heap:=g,drawn:=d,toks:=tk}:=by
  intro g c1 tk st2 kp2 hL2
  refine codeAny_extend_loopS W.toS hsz _ hSf _ es.size 0 _ #[] c1 rfl (bD _) st2 hL2 (ItemsOf.nil _) λz acc c3 mv hL3 ia=> ?_
  refine ⟨z.heap,z.toks,acc,c3,rfl,?_,λb o' e=>mv.heap b o' (λhm=> ?_) (kp2 b o' e),hL3,ia⟩
  ·exact Moved.eq_with mv
  ·have hb:=bz e
   rcases aX.mp hm with q|hm
   ·exact absurd hb (by rw [q];exact eu _)
   ·rw [bb.mp hm] at hb
    exact absurd (cb (dY _) hI2) (Nat.lt_asymm hb)
 have qt:=lJ PySem.F.plain_extend_loop
 have kp1:∀b o',s.heap.get? b=some o'->h'.get? b=some o':=λb o' e=>kp _ _ (hkL _ _ e)
 have fewer:∀(g3:Heap) (tk3:Nat) (acc:Array Value),(∀b o',s.heap.get? b=some o'->g3.get? b=some o')->ItemsOf P acc es.size->R acc.toList {s with heap:=g3,drawn:=d,toks:=tk3}:=λg3 tk3 acc kp3 ia=>by
  obtain ⟨ys,y1,y2⟩:=C7 acc.toList (by rw [cY];exact ia.1) λj v e=>ia.2 j v (by rw [<-dg];exact e)
  exact k g3 d tk3 acc.toList ys kp3 y1 y2
 refine jG (λ_=> ?_) λ_=>aH ⟨qt _,gE (turn _ 0 s.toks st kp1 hL1) λq z x=> ?_⟩
 rotate_left
 ·obtain ⟨g3,tk3,acc,c3,rfl,rfl,kp3,hL3,ia⟩:=x
  show wpAny _ A (load s.heap.objs.size>>=_) _ _ _
  exact ag (ub hL3 (aH (fewer g3 tk3 acc kp3 ia)))
 refine ag (wpAny_rule (ag ?_))
 show wpAny _ _ (updateSeq s.heap.objs.size (·.push .none)>>=λ_=>updateSeq s.heap.objs.size (·.pop)) _ _ _
 refine ag (wpAny_updateSeq hL1 rfl ?_)
 have hL4:=gp (Obj.mapSeq (·.push Value.none)) hL1 rfl
 refine wpAny_updateSeq (hz:=by seq_fits) hL4 rfl ?_
 have hL5:=gp (Obj.mapSeq (·.pop)) hL4 rfl
 have rD:∀b o',b≠s.heap.objs.size->h'.get? b=some o'->((h'.update s.heap.objs.size (Obj.mapSeq (·.push Value.none))).update s.heap.objs.size (Obj.mapSeq (·.pop))).get? b=some o':=λb o' nb e=>
  (ib _ _ (aY nb)).trans ((ib _ _ (aY nb)).trans e)
 refine aH ⟨qt _,gE (turn _ _ s.toks (W.frame 0 _ _ st λb hb o' e=>rD b o' (λq=>hSf (q▸hb)) e) (λb o' e=>rD b o' (bO (bz e)) (kp1 b o' e)) hL5) λq z x=> ?_⟩
 obtain ⟨g3,tk3,acc,c3,rfl,rfl,kp3,hL3,ia⟩:=x
 show wpAny _ A (load s.heap.objs.size>>=_) _ _ _
 exact ag (ub hL3 (aH (fewer g3 tk3 acc kp3 ia)))
end
end Qst
end
section
namespace L2
open PySem PySem.Spec PyProof.Rows
def LH (P:Program) (w:World) (a:Addr) (zs:List Int):HO:= .ext λh=>Qst.SP P w h a (!Qst.Dd w) zs
section
variable {X:Cx}
theorem vc:∀(ns:List Int) (us:List Value),c7 (ns.map V.int) us->IntsAre us ns
 |[],us,h=>by cases h;exact .nil
 |n::ns,us,h=>by
  cases h with
  |cons r t=>
   obtain ⟨tk,rfl⟩:=r
   exact .cons n tk (vc ns _ t)
theorem Jn {us:List Value} {ns:List Int} (h:IntsAre us ns):us.length=ns.length:=by
 induction h with
 |nil=>rfl
 |cons _ _ _ ih=>rw [aB,aB,ih]
def IY (P:Program) (w:World):List V->Hp->VK->Prop:=λvs H Q=>∃(a:Addr) (ns:List Int),vs=[V.ref a]/\H a=some (.a6 (ns.map V.int))/\ns.length+1< 4096/\
 ∀p:Addr,H p=none->Q (.ref p) (bG H p (LH P w p (Qst.dd ns)))
theorem L7 (hc:X.oq=true):hJ X (.type "set") (IY X.prog X.w):=by
 intro pins s σ H vs us Q I r h
 obtain ⟨a,ns,rfl,ha,hb,q⟩:=h
 rw [c7.Bo r]
 obtain ⟨_,its,n,rv,ho⟩:=I.fD _ _ ha
 refine Qst.JR (l:=a) (items:=its.toArray) (ns:=ns) (I.ok.hd hc) ⟨_,ho,rfl,_,rfl⟩ (vc ns its rv) hb λh' tk S kp=> ?_
 have kp':∀b u,s.heap.get? b=some u->h'.get? b=some u:=λb u e=>kp b u (bz e) e
 refine ⟨.ref s.heap.objs.size,_,I.laid (t':=tk) (o:=LH X.prog X.w s.heap.objs.size (Qst.dd ns)) kp' (aF _) ⟨S,?_,?_⟩,rfl,q _ (I.fD.fresh (aF _))⟩
 ·obtain ⟨o,_,_,_,e,_⟩:=S
  exact ⟨o,e⟩
 ·intro h1 h2 x1 k1
  obtain ⟨o,es,ep,t,e,S2⟩:=x1
  exact ⟨o,es,ep,t,k1 o e,S2⟩
def As (P:Program) (w:World):List V->Hp->VK->Prop:=λvs H Q=>∃(a:Addr) (zs:List Int),vs=[V.ref a]/\H a=some (LH P w a zs)/\zs.length< 64/\
 ∀(ns':List Int) (p:Addr),ns'.Perm zs->ns'.Pairwise (·<=·)->H p=none->Q (.ref p) (bG H p (.a6 (ns'.map V.int)))
theorem D2 (hc:X.oq=true):hJ X (.builtin "sorted") (As X.prog X.w):=by
 intro pins s σ H vs us Q I r h
 obtain ⟨a,zs,rfl,ha,h64,q⟩:=h
 rw [c7.Bo r]
 obtain ⟨hS,_⟩:=I.fD _ _ ha
 refine om kind_sorted plain_sorted entry_sorted (args_sorted1 _) ?_
 unfold Builtin.«sorted»
 refine ag (m:=checkCount "sorted" 1 1 _) (aH ?_)
 refine ag (Qst.Cr (A:=X.A.in1) (I.ok.hd hc) hS λh' d tk ws ys kp hp hI=> ?_)
 have hl:ws.length=zs.length:=by rw [Jn hI,hp.length_eq]
 have hz2:ws.length<=sizeLine:=by rw [hl];exact xZ h64
 refine ag (wpAny_newList ?_ hz2)
 show wpAny _ _ _ _ _ {s with heap:=h'.push (seqObj "list" ws.toArray 0),drawn:=d,toks:=tk}
 have hoL:(h'.push (seqObj "list" ws.toArray 0)).get? h'.objs.size=some (seqObj "list" ws.toArray 0):=aZ _ rfl
 refine ag (fw (eO slot_list_sort ⟨_,hoL,rfl⟩ entry_list_sort (list_sort_tree (s:={s with heap:=h'.push (seqObj "list" ws.toArray 0),drawn:=d,toks:=tk}) hoL hI (by rw [hl];exact h64) λout ns' a1 a2 a3=>⟨_,rfl,?_⟩) (args_list_sort _)))
 refine aH ⟨_,rfl,?_⟩
 obtain ⟨ep2,he'⟩:=sortedHeap_at (vs:=ws) (out:=out) hoL
 have I1:cV X pins σ H {s with heap:=h',toks:=tk}:=I.k0 kp
 have I2:cV X pins σ H {s with heap:=h',drawn:=d,toks:=tk}:=⟨I1.ok,I1.os,I1.bare,I1.base,I1.Cy,I1.cell,I1.free,I1.qZ,I1.F9,I1.fD,I1.len⟩
 refine ⟨.ref h'.objs.size,bG H h'.objs.size (.a6 (ns'.map V.int)),I2.laid (t':=tk) (λb o e=> ?_) (aF _) ⟨?_,out.toList,ep2,mR a1,he'⟩,rfl,q ns' _ (a2.trans hp) a3 (I2.fD.fresh (aF _))⟩
 ·have e1:h'.get? b=some o:=e
  rw [sortedHeap_old (bO (bz e1)) (by rw [size_push'];exact dq (bz e1))]
  exact aD _ e1
 ·rw [af,(a2.trans hp).length_eq]
  exact xZ h64
end
end L2
namespace L2
open PySem PySem.Spec PyProof.Rows
section
variable {X:Cx} {P:Program} {w:World}
theorem LZ (hc:X.oq=true) (hP:X.prog=P:=by rfl) (hw:X.w=w:=by rfl):hJ X (.type "set") (IY P w):=by subst hP;subst hw;exact L7 hc
theorem Fg (hc:X.oq=true) (hP:X.prog=P:=by rfl) (hw:X.w=w:=by rfl):hJ X (.builtin "sorted") (As P w):=by subst hP;subst hw;exact D2 hc
end
end L2
end
section
namespace Qz
open PySem PySem.Spec PyProof.Rows L2
def Ce (gs:List Gm) (u:Nat):List Nat:=gs.flatMap λg=>(if g.a=u then [g.b] else [])++(if g.b=u then [g.a] else [])
def Fd (f:Nat->List Nat) (t y:Nat):Nat->List Nat:=λu=>if t=u then f u++[y] else f u
theorem Jd (gs:List Gm) (g:Gm):Ce (gs++[g])=Fd (Fd (Ce gs) g.a g.b) g.b g.a:=by
 funext u
 unfold Ce Fd
 rw [dw]
 by_cases h1:g.a=u<;>by_cases h2:g.b=u<;>simp [h1,h2]
theorem AH {gs:List Gm} {t y:Nat}:y∈Ce gs t↔Vbqzak.plays gs t y=true:=by
 unfold Ce Vbqzak.plays
 rw [pM,cD]
 constructor
 ·rintro ⟨g,hg,h⟩
  refine ⟨g,hg,?_⟩
  rcases aI.mp h with h|h
  ·by_cases e:g.a=t
   ·rw [aA e] at h
    simp [e,(bb.mp h).symm]
   ·rw [au e] at h
    cases h
  ·by_cases e:g.b=t
   ·rw [aA e] at h
    simp [e,(bb.mp h).symm]
   ·rw [au e] at h
    cases h
 ·rintro ⟨g,hg,h⟩
  refine ⟨g,hg,?_⟩
  simp only [bH,aR,cR] at h
  rcases h with ⟨h1,h2⟩|⟨h1,h2⟩
  ·simp [h1,h2]
  ·simp [h1,h2]
theorem F4 (gs:List Gm) (u:Nat):(Ce gs u).length<=2*gs.length:=by
 unfold Ce
 induction gs with
 |nil=>simp
 |cons g gs ih=>
  rw [da,ao,ao,aB]
  have h1:(if g.a=u then [g.b] else []).length<=1:=by split<;>simp
  have h2:(if g.b=u then [g.a] else []).length<=1:=by split<;>simp
  lia
theorem QS (l:List Int):(Qst.dd l).Nodup:=by
 have key:∀(l acc:List Int),acc.Nodup->(l.foldl (λacc z=>if z∈acc then acc else acc++[z]) acc).Nodup:=by
  intro l
  induction l with
  |nil=>exact λacc h=>h
  |cons z l ih=>
   intro acc h
   rw [eG]
   apply ih
   by_cases hz:z∈acc
   ·rw [aA hz]
    exact h
   ·rw [au hz,cc]
    refine ⟨h,by simp,λa ha b hb e=> ?_⟩
    rw [bb.mp hb] at e
    exact hz (e▸ha)
 exact key l [] iV
theorem Ki (gs:List Gm) (n t:Nat):(Qm.uL gs n t).Pairwise (·< ·):=by
 unfold Qm.uL
 exact lV _ dZ
theorem EH {gs:List Gm} {n t:Nat} (hin:∀g∈gs,g.a< n/\g.b< n) {ns:List Int} (hp:ns.Perm (Qst.dd ((Ce gs t).map λk=>((k:Nat):Int)))) (hs:ns.Pairwise (·<=·)):ns=(Qm.uL gs n t).map λk=>((k:Nat):Int):=by
 refine fz (le:=(·<=·)) (λa b _ _ h1 h2=>mC h1 h2) hs ?_ (hp.trans ?_)
 ·rw [eV]
  exact (Ki gs n t).imp λh=>by lia
 ·have Qk:((Qm.uL gs n t).map λk=>((k:Nat):Int)).Nodup:=by
   rw [m9,eV]
   exact (Ki gs n t).imp λh=>by lia
  rw [df (QS _) Qk]
  intro z
  rw [Qst.Oc,bC,bC]
  constructor
  ·rintro ⟨k,hk,e⟩
   refine ⟨k,Qm.qC.mpr ⟨?_,AH.mp hk⟩,e⟩
   have hk2:=AH.mp hk
   unfold Vbqzak.plays at hk2
   obtain ⟨g,hg,h⟩:=cD.mp hk2
   have:=hin g hg
   simp only [bH,aR,cR] at h
   lia
  ·rintro ⟨k,hk,e⟩
   exact ⟨k,AH.mpr (Qm.qC.mp hk).2,e⟩
theorem dJ.add {H:Hp} {p:Addr} {rs:List Addr} {f:Nat->List Nat} {n t y:Nat} {a:Addr} (R:dJ H p rs f n) (nd:rs.Nodup) (hp:p∉rs) (ha:rs[t]? =some a):dJ (bG H a (.a6 (nV (f t)++[V.int (y:Nat)]))) p rs (Fd f t y) n where
 len:=R.len
 a6:=by
  have Iv:p≠a:=λe=>hp (by rw [e];exact aw ha)
  rw [aL Iv]
  exact R.a6
 row:=λu b hb=>by
  by_cases e:t=u
  ·subst e
   rw [ha] at hb
   have hb:=Option.some.inj hb
   subst hb
   rw [aj]
   unfold Fd
   rw [aA rfl,fB]
  ·have hab:b≠a:=λq=>e (by
    subst q
    have h1:=(ae.mp ha).1
    exact (List.getElem?_inj h1 nd).mp (ha.trans hb.symm))
   rw [aL hab]
   unfold Fd
   rw [au e]
   exact R.row u b hb
theorem dJ.snoc {H H':Hp} {p:Addr} {rs:List Addr} {f:Nat->List Nat} {j:Nat} {a:Addr} (R:dJ H p rs f j) (hp:p∉rs) (s:bB H H') (ha:H' a=some (.a6 (nV (f j)))) (UA:a≠p):dJ (bG H' p (.a6 (rs.map V.ref++[V.ref a]))) p (rs++[a]) f (j+1) where
 len:=by rw [ao,R.len];rfl
 a6:=by rw [aj,a4];rfl
 row:=λu b hb=>by
  by_cases e:u< rs.length
  ·rw [bP e] at hb
   have Xz:b≠p:=λq=>hp (by rw [<-q];exact aw hb)
   rw [aL Xz]
   exact s _ _ (R.row u b hb)
  ·rw [bJ (by lia)] at hb
   have hu:u-rs.length=0:=by
    have:=(ae.mp hb).1
    simp at this
    lia
   rw [hu] at hb
   have hb:a=b:=Option.some.inj hb
   subst hb
   rw [aL UA,ha]
   have:=R.len
   rw [show u=j by lia]
theorem dJ.V8 {H:Hp} {p:Addr} {rs:List Addr} {f:Nat->List Nat} {j:Nat} {a:Addr} (R:dJ H p rs f j) (ha:H a=none):a∉rs:=λhm=>by
 obtain ⟨t,ht⟩:=a9.mp hm
 have:=R.row t a ht
 rw [ha] at this
 cases this
section
variable {P:Program} {w:World} {K:PySem.W.Frag} {mg:Str->Option Value} {base:Heap} {G U:Addr}
theorem Q1 (D:Df K mg "opponents" kP) (T:Tx K mg G U):dQ P w K mg base 2 "opponents" ["house"] (OZ G U):=by
 obtain ⟨f,fd,M,F⟩:=D
 refine ⟨f,fd,M,F.kp,F.cC (λ_ _ _ _ _ _ us hl=>(match us,hl with|[_],_=>rfl)),F.ok jf (λvs H Q E h=> ?_) (λcdv A bE s H vs Q E hr h=> ?_)⟩
 ·obtain ⟨h,l,as,n,c,gs,rfl,_⟩:=h
  rfl
 ·obtain ⟨h,l,as,n,c,gs,rfl,B,hlen,hn,hin,k⟩:=h
  obtain ⟨dh,dd,hh⟩:=B.hs
  refine ⟨_,(ai (vI (i:=1) rfl jf.nd rfl rfl (yg rfl rfl rfl rfl) (iU:=[("team",2)]) (d3 rfl T.range (aa (cw (K:=K) (pv 0)) ah)) (eC (by show nP ["house","rows","team","game","row"] (aJ kP) _ _=true;decide +kernel)) (λ_ _ _ _ _=>(cu (i:=2) jf.nd rfl (Or.inl rfl))) (λ_ _ _ _ _=>by exact kJ) (λ_ _ _ _ _=>by exact (cf ah))) (ai (d8 aT rfl (fo (K:=K) (cw (K:=K) (pv 0))) (cu (i:=3) jf.nd rfl (Or.inl rfl)) (ai (dS (mS (K:=K) aQ bL bM fe (cH (je (K:=K)) (pv 1) (cw (K:=K) (pv 3)) (λ_ _=>rfl)) (aa (cw (K:=K) (pv 3)) ah))) (aq (dS (mS (K:=K) aQ bL bM fe (cH (je (K:=K)) (pv 1) (cw (K:=K) (pv 3)) (λ_ _=>rfl)) (aa (cw (K:=K) (pv 3)) ah)))))) (aq (aV (mh rfl jf.nd (iU:=[("row",4)]) (fo (K:=K) (pv 1)) (eC (by show nP ["house","rows","team","game","row"] (aJ kP) _ _=true;decide +kernel)) (λ_ _ _ _ _=>(cu (i:=4) jf.nd rfl (Or.inl rfl))) (λ_ _ _ _ _=>by exact kJ) (λ_ _ _ _ _=>by exact (bT (Fg (P:=P) (w:=w) rfl) (by rfl) T.sf fA (aa (pU (LZ (P:=P) (w:=w) rfl) (by rfl) T.QT PyProof.Rows.boot_set (aa (pv 4) ah)) ah)))))))),?_⟩
  refine ⟨_,rfl,fI hh T.a7 T.u1 rfl ⟨_,rfl,(by lia),(by lia),λD hD=> ?_⟩⟩
  refine mf (Pv:=λj H2=>∃rs:List Addr,bB H H2/\dJ H2 D rs (λ_=>[]) j/\rs.Nodup/\D∉rs/\∀a∈rs,H a=none) ⟨[],aN hD,⟨rfl,aj,λt a h=>by simp at h⟩,iV,by simp,by simp⟩ ?_ ?_
  ·rintro j H2 hj ⟨rs,s2,R2,Qk,iE,UH⟩
   rw [aK] at hj
   refine ⟨rfl,GJ ?_⟩
   refine ⟨(by show 0<=sizeLine;lia),λa ha=> ?_⟩
   have XA:a≠D:=aY (az R2.a6 ha)
   refine ⟨rs.map V.ref,(by rw [aL (aY XA)];exact R2.a6),?_,rs++[a],c6 (s2.trans (aN ha)) hD,R2.snoc iE (aN ha) aj XA,?_,?_,?_⟩
   ·rw [af,R2.len]
    exact cv (by lia)
   ·rw [cc]
    refine ⟨Qk,by simp,λx hx y hy e=> ?_⟩
    rw [bb.mp hy] at e
    exact R2.V8 ha (e▸hx)
   ·intro hm
    rcases aI.mp hm with hm|hm
    ·exact iE hm
    ·exact XA (bb.mp hm).symm
   ·intro x hx
    rcases aI.mp hx with hx|hx
    ·exact UH x hx
    ·rw [bb.mp hx]
     exact s2.free ha
  ·rintro H2 ⟨rs,s2,R2,Qk,iE,UH⟩
   rw [aK] at R2
   have B2:=B.same s2
   obtain ⟨GU,dd2,BY⟩:=B2.hs
   have hDh:∀b o,H b=some o->b≠D/\b∉rs:=λb o e=>⟨az e hD,λhm=>by rw [UH b hm] at e;cases e⟩
   refine ⟨_,rfl,fI BY T.a7 T.u3 rfl ⟨l,rfl,⟨_,cE.of B2.a6⟩,fY (K:=K) (a:=l) (xs:=as.map V.ref) (λj σ H3=>∃v3:Option V,σ=[some (.ref h),some (.ref D),none,v3,none]/\bB H H3/\dJ H3 D rs (Ce (gs.take j)) n) ⟨none,rfl,s2,R2⟩ (λj σ H3 _ ⟨_,_,z,_⟩=>cE.of (z _ _ B.a6)) ?_ ?_⟩⟩
   ·rintro j x σ H3 hx ⟨v3,rfl,s3,R3⟩
    have hj:j< gs.length:=by
     have:=(ae.mp hx).1
     rw [af,B.len] at this
     exact this
    have B3:=B.same s3
    obtain ⟨a,dx,ha,hr2,hg⟩:=B3.yF (ab hj)
    rw [hr2] at hx
    have hx:V.ref a=x:=Option.some.inj hx
    subst hx
    have UI:=hin _ (fm hj)
    obtain ⟨a1,e1,i1,r1⟩:=R3.get UI.1
    have VH:∀u,(nV (Ce (gs.take j) u)).length<=60:=λu=>by
     rw [cN]
     have:=F4 (gs.take j) u
     rw [bf] at this
     lia
    refine ⟨_,rfl,_,rfl,fI hg T.cq T.g1 (jC _) (xI (cE.of R3.a6) i1 ⟨.inl ⟨rfl,_,cE.of r1⟩,_,rfl,fI hg T.cq T.g2 (gX _) ⟨a1,_,_,rfl,rfl,r1,cv (by have:=VH gs[j].a;lia),?_⟩⟩)⟩
    have R4:=R3.add (y:=gs[j].b) Qk iE e1
    have s4:bB H (bG H3 a1 (.a6 (nV (Ce (gs.take j) gs[j].a)++[V.int (gs[j].b:Nat)]))):=c6 s3 (UH _ (aw e1))
    generalize bG H3 a1 (.a6 (nV (Ce (gs.take j) gs[j].a)++[V.int (gs[j].b:Nat)]))=H4 at R4 s4
    obtain ⟨a',dx4,ha',_,YR⟩:=(B.same s4).yF (ab hj)
    rw [ha] at ha'
    have ha':=Option.some.inj ha'
    subst ha'
    obtain ⟨a2,e2,i2,r2⟩:=R4.get UI.2
    refine ⟨_,rfl,_,rfl,fI YR T.cq T.g2 (gX _) (xI (cE.of R4.a6) i2 ⟨.inl ⟨rfl,_,cE.of r2⟩,_,rfl,fI YR T.cq T.g1 (jC _) ⟨a2,_,_,rfl,rfl,r2,cv ?_,_,rfl,c6 s4 (UH _ (aw e2)),?_⟩⟩)⟩
    ·unfold Fd
     have:=VH gs[j].b
     split
     ·rw [fB,ao,iK]
      lia
     ·lia
    ·rw [c4 (ab hj),Jd]
     exact R4.add Qk iE e2
   ·rintro σ H3 ⟨v3,rfl,s3,R3⟩
    have el:(as.map V.ref).length=gs.length:=by rw [af];exact B.len
    rw [el,bu] at R3
    refine ⟨_,rfl,D,rfl,⟨_,cE.of R3.a6⟩,λE1 XB=> ?_⟩
    refine jK (K:=K) (a:=D) (xs:=rs.map V.ref) (Pv:=λj H4=>∃qs:List Addr,bB H3 H4/\dJ H4 E1 qs (Qm.uL gs n) j/\E1∉qs/\∀a∈qs,H3 a=none) ⟨[],aN XB,⟨rfl,aj,λt a h=>by simp at h⟩,by simp,by simp⟩ (λj H4 _ ⟨_,z,_⟩=>cE.of (z _ _ R3.a6)) ?_ ?_
    ·rintro j x H4 hx ⟨qs,s4,R4,XC,XD⟩
     have hj:j< n:=by
      have:=(ae.mp hx).1
      rw [af,R3.len] at this
      exact this
     obtain ⟨a1,e1,i1,r1⟩:=R3.get hj
     rw [ay,e1] at hx
     have hx:V.ref a1=x:=Option.some.inj hx
     subst hx
     refine ⟨rfl,GJ ?_⟩
     have r4:=s4 _ _ r1
     rw [oF] at r4
     have VH:(Ce gs j).length<=60:=by
      have:=F4 gs j
      lia
     have hdl:(Qst.dd ((Ce gs j).map λk=>((k:Nat):Int))).length< 64:=by
      have:=Qst.JA ((Ce gs j).map λk=>((k:Nat):Int))
      rw [af] at this
      lia
     refine ⟨_,rfl,a1,_,rfl,r4,(by rw [af];lia),λp1 uM=> ?_⟩
     refine ⟨p1,_,rfl,aj,hdl,λns p2 hp hs hp2=> ?_⟩
     have ens:=EH (n:=n) hin hp hs
     subst ens
     rw [<-oF]
     have Xh:p2≠p1:=λe=>by rw [e,aj] at hp2;cases hp2
     have UJ:H4 p2=none:=by rw [aL Xh] at hp2;exact hp2
     have a0a:p1≠E1:=aY (az R4.a6 uM)
     have UK:p2≠E1:=aY (az R4.a6 UJ)
     have s5:bB H4 (bG (bG H4 p1 (LH P w p1 (Qst.dd ((Ce gs j).map λk=>((k:Nat):Int))))) p2 (.a6 (nV (Qm.uL gs n j)))):=(aN uM).trans (aN hp2)
     refine ⟨_,s5 _ _ R4.a6,?_,qs++[p2],c6 (s4.trans s5) XB,R4.snoc XC s5 aj UK,?_,?_⟩
     ·rw [af,R4.len]
      exact cv (by lia)
     ·intro hm
      rcases aI.mp hm with hm|hm
      ·exact XC hm
      ·exact UK (bb.mp hm).symm
     ·intro x hx
      rcases aI.mp hx with hx|hx
      ·exact XD x hx
      ·rw [bb.mp hx]
       exact s4.free UJ
    ·rintro H4 ⟨qs,s4,R4,XC,XD⟩
     have el2:(rs.map V.ref).length=n:=by rw [af];exact R3.len
     rw [el2] at R4
     exact k H4 E1 qs (s3.trans s4) R4 (s3.free XB) λa ha=>s3.free (XD a ha)
end
end Qz
end
section
namespace PySem
section
variable {prog:Program} {w:World} {A:Around} {E:Value->Shared->Prop} {s:Shared}
theorem wy {Q:List Value->Shared->Prop} {r:Addr} {a b c:Int} {t u v:Tok} {n:Nat} (hh:A.handled=none) (hr:IsRange s.heap r a b c t u v) (hsmall:Builtin.Range.small a b c=true)
  (hn:Builtin.Range.rangeSize a b c=n) (hlen:n<=2 ^ 24)
  (hQ:∀h' tk (acc:Array Value),(∀b o',s.heap.get? b=some o'->h'.get? b=some o')->ItemsOf (λi v=>∃t,v= .int (a+i*c) t) acc n->Q acc.toList {s with heap:=h',toks:=tk}):
  wpAny (model prog w) A (collect (.ref r)) Q E s:=by
 unfold collect
 refine ag (rM (fW F.entry_proto_collect ?_))
 rw [eP F.plain_proto_collect _]
 show wpAny _ A.in1 (newList []>>=λl=>again (.builtin "list.__iadd__" ⟨[l,.ref r],[]⟩)) _ _ s
 refine ag (cW ?_)
 refine aH ⟨lJ F.plain_list_iadd _,fW F.entry_list_iadd ?_⟩
 rw [eP F.plain_list_iadd _]
 show wpAny _ A.in1 (Builtin.List.listExtendWith (.ref s.heap.objs.size) (.ref r) (.ref s.heap.objs.size)) _ _ _
 have hS:(s.heap.push {cls:= .type "list",data:= .seq ([]:List Value).toArray}).get? s.heap.objs.size=some {cls:= .type "list",data:= .seq #[] 0}:=aZ _ rfl
 refine fi (wpAny_extend_range (A:=A) (R:=λq s'=>∃(h':Heap) (tk:Nat) (acc:Array Value) (c':Nat),q= .ok (.ret (.ref s.heap.objs.size))/\s'={s with heap:=h',toks:=tk}/\(∀b o',s.heap.get? b=some o'->h'.get? b=some o')/\h'.get? s.heap.objs.size=some {cls:= .type "list",dict:=none,data:= .seq acc c',slots:= #[]}/\ItemsOf (λi v=>∃t,v= .int (a+i*c) t) acc n)
  (s:={s with heap:=s.heap.push {cls:= .type "list",data:= .seq ([]:List Value).toArray}}) hh (aD _ hr) hsmall hn hlen s.heap.objs.size _ 0 hS λh' tk acc c' hk hS' hacc=>⟨h',tk,acc,c',rfl,rfl,λb o' e=>hk b o' (bO (bz e)) (aD _ e),hS',hacc⟩) (λfin s' h=> ?_) (λe s' h=> ?_)
 ·have fin':∀(q:Result) (s':Shared),(∃(h':Heap) (tk:Nat) (acc:Array Value) (c':Nat),q= .ok (.ret (.ref s.heap.objs.size))/\s'={s with heap:=h',toks:=tk}/\(∀b o',s.heap.get? b=some o'->h'.get? b=some o')/\h'.get? s.heap.objs.size=some {cls:= .type "list",dict:=none,data:= .seq acc c',slots:= #[]}/\ItemsOf (λi v=>∃t,v= .int (a+i*c) t) acc n)->
    q= .ok (.ret (.ref s.heap.objs.size))/\wpAny (model prog w) A (match Value.ref s.heap.objs.size with
     |Value.ref a=>do
      match (<-load a).data with
       |Data.seq xs _=>pure xs.toList
       |_=>unsupported "internal:collect"
     |_=>unsupported "internal:collect") Q E s':=by
   rintro q s' ⟨h',tk,acc,c',rfl,rfl,k,hS',hacc⟩
   refine ⟨rfl,?_⟩
   show wpAny _ A (load s.heap.objs.size>>=_) _ _ _
   refine ag (ub hS' ?_)
   exact aH (hQ h' tk acc k hacc)
  cases fin with
  |done f=>
   obtain ⟨e,h2⟩:=fin' _ _ h
   cases e
   exact h2
  |again c'=>
   refine ⟨h.1,gE h.2 λr s'' hr=> ?_⟩
   obtain ⟨e,h2⟩:=fin' _ _ hr
   subst e
   exact h2
 ·obtain ⟨_,_,_,_,e,_⟩:=h
  exact absurd e (by simp)
theorem sQ (l:Addr) {a b c:Int} {t u v:Tok} {n:Nat} (hsmall:Builtin.Range.small a b c=true) (hn:Builtin.Range.rangeSize a b c=n) (hlen:n<=2 ^ 24):
  Meets (Builtin.«tuple.__new__» ⟨[.type "tuple",.ref l],[]⟩)
   (λA R s=>A.handled=none/\IsRange s.heap l a b c t u v/\∀(h':Heap) (tk:Nat) (acc:Array Value),(∀b o',s.heap.get? b=some o'->h'.get? b=some o')->ItemsOf (λi v=>∃t,v= .int (a+i*c) t) acc n->R (.ok (.ret (.ref h'.objs.size))) {s with heap:=h'.push {cls:= .type "tuple",data:= .seq acc},toks:=tk}):=
 .of_wp λprog w A R s h=>by
  obtain ⟨hh,ht,h⟩:=h
  have hsub:=sub_tuple_self
  have hinit:=init_tuple_lookup
  have hmh:=madeHere_tuple
  have hT:Shared.TypeIs s (.ref l) "range":=⟨_,ht,rfl⟩
  have hh1:A.in1.handled=none:=hh
  wp_walk using qg hT,wy (n:=n) hh1 ht hsmall hn hlen
  intro h' tk acc hk hacc
  show wpAny _ _ (Builtin.Tuple.tupleExact acc.toList.toArray>>=λv=>ret v) _ _ _
  unfold Builtin.Tuple.tupleExact
  refine ag (cW ?_ (by show acc.toList.toArray.size<=sizeLine;simp only [lX];rw [hacc.1,dH];lia))
  refine aH ⟨_,rfl,?_⟩
  have e:acc.toList.toArray=acc:=by simp
  rw [e]
  exact h h' tk acc hk hacc
theorem y9 {l:Addr} {a b c:Int} {t u v:Tok} {n:Nat} {Q:Value->Shared->Prop} (hh:A.handled=none) (hr:IsRange s.heap l a b c t u v) (hsmall:Builtin.Range.small a b c=true) (hn:Builtin.Range.rangeSize a b c=n) (hlen:n<=2 ^ 24)
  (h:∀(h':Heap) (tk:Nat) (acc:Array Value),(∀b o',s.heap.get? b=some o'->h'.get? b=some o')->ItemsOf (λi v=>∃t,v= .int (a+i*c) t) acc n->Q (.ref h'.objs.size) {s with heap:=h'.push {cls:= .type "tuple",data:= .seq acc},toks:=tk}):
  wpAny (model prog w) A (call (.type "tuple") [.ref l]) Q E s:=
 callType_new F.called_tuple (by decide) (F.typeCall_tuple_1 _) (F.newCall_tuple_1 _) (λobj=>F.args_object_init_2 obj _) F.entry_tuple_new
  (sQ l hsmall hn hlen) ⟨hh,hr,λh' tk acc hk hacc=>⟨⟨_,aZ _ rfl,rfl⟩,h h' tk acc hk hacc⟩⟩
end
end PySem
namespace Qz
open PySem PySem.Spec PyProof.Rows L2
section
variable {X:Cx} {K:PySem.W.Frag}
theorem Kr (hK:X.K=K:=by rfl):RB X (Sa K):=by subst hK;exact ON
theorem Kg (hK:X.K=K:=by rfl):hJ X (.type "list") (λxs H Q=>∃p ys,xs=[.ref p]/\(cE K H p ys\/kY K H p ys)/\∀l,H l=none->Q (.ref l) (bG H l (.a6 ys))):=by subst hK;exact AO
theorem Lm (hK:X.K=K:=by rfl):hJ X (.type "tuple") (λxs H Q=>∃p ys,xs=[.ref p]/\((cE K H p ys/\∀l,H l=none->Q (.ref l) (bG H l (.dC ys)))\/(kY K H p ys/\Q (.ref p) H))):=by subst hK;exact zq
theorem Kh:hJ X (.type "range") (λvs H Q=>∃j:Nat,vs=[.int j]/\∀p,H p=none->Q (.ref p) (bG H p (.EU 0 j))):=by
 intro pins s σ H vs us Q I r h
 obtain ⟨j,rfl,q⟩:=h
 obtain ⟨u,rfl,t,rfl⟩:=F3 r
 refine call_range_1 ⟨.ref _,bG H s.heap.objs.size (.EU 0 j),I.laid (λb o e=>aD _ e) (aF _) ⟨_,_,_,aZ _ rfl⟩,rfl,q _ (I.fD.fresh (aF _))⟩
theorem DE {n:Nat} {acc:Array Value} (h:ItemsOf (λi v=>∃t,v= .int ((0:Int)+i*1) t) acc n):c7 ((List.range n).map λt=>V.int (t:Nat)) acc.toList:=by
 have key:∀(l:List Value) (xs:List V),l.length=xs.length->(∀(i:Nat) (v:Value) (x:V),l[i]? =some v->xs[i]? =some x->dP x v)->c7 xs l:=by
  intro l
  induction l with
  |nil=>
   intro xs hl _
   cases xs with
   |nil=>exact .nil
   |cons x xs=>simp at hl
  |cons v l ih=>
   intro xs hl hr
   cases xs with
   |nil=>simp at hl
   |cons x xs=>exact .cons (hr 0 v x rfl rfl) (ih xs (by simpa using hl) λi v x h1 h2=>hr (i+1) v x (by simpa using h1) (by simpa using h2))
 refine key _ _ (by rw [cY,h.1,af,aM]) λi v x h1 h2=> ?_
 rw [ay] at h2
 have hi:i< n:=by
  have:=(ae.mp h1).1
  rw [cY,h.1] at this
  exact this
 rw [b9 hi] at h2
 have h2:V.int (i:Nat)=x:=Option.some.inj h2
 subst h2
 obtain ⟨t,e⟩:=h.2 i v (by rw [<-dg];exact h1)
 refine ⟨t,?_⟩
 rw [e]
 congr 1
 lia
theorem O4 (hc:X.oq=true):hJ X (.type "tuple") (λvs H Q=>∃(a:Addr) (n:Nat),vs=[.ref a]/\H a=some (.EU 0 n)/\n<=1000/\∀p,H p=none->Q (.ref p) (bG H p (.dC ((List.range n).map λt=>V.int (t:Nat))))):=by
 intro pins s σ H vs us Q I r h
 obtain ⟨a,n,rfl,ha,hn,q⟩:=h
 rw [c7.Bo r]
 obtain ⟨t,u,v,hr⟩:∃t u v,s.heap.get? a=some {cls:= .type "range",data:= .fields #[.int 0 t,.int (n:Nat) u,.int 1 v]}:=I.fD a _ ha
 refine y9 (n:=n) (I.ok.hd hc) (show IsRange s.heap a 0 n 1 t u v from hr) (small_one (by lia) (by lia) (by lia) (by lia)) (by rw [rangeSize_one];split<;>lia) (by lia) λh' tk acc hk hacc=> ?_
 have I1:cV X pins σ H {s with heap:=h',toks:=tk}:=I.k0 hk
 have hv:=DE hacc
 have hz:((List.range n).map λt=>V.int (t:Nat)).length<=sizeLine:=by rw [af,aM,dH];lia
 have I2:cV X pins σ (bG H h'.objs.size (.dC ((List.range n).map λt=>V.int (t:Nat)))) {s with heap:=h'.push {cls:= .type "tuple",data:= .seq acc},toks:=tk}:=
  I1.laid (t':=tk) (λb o e=>aD _ e) (aF _) (show g8 X.prog X.w _ _ _ (.dC _) from ⟨hz,acc.toList,hv,by rw [lX];exact IsTup.new _ _⟩)
 exact ⟨.ref h'.objs.size,_,I2,rfl,q _ (I1.fD.fresh (aF _))⟩
end
section
open PyProof.Rows.G
def MJ:Nat->Bool:=λ_=>false
theorem Ze {h:Heap} {a:Addr} {o:Obj} {xs:Array Value} {n:Nat} {l:List (Int ⊕ List Nat)} (ho:h.get? a=some o) (hc:o.cls= .type "tuple") (hd:o.data= .seq xs n)
  (hi:tupItems MJ 0 xs.toList=some l):tupKeyC h MJ (.ref a)=some l:=by
 unfold tupKeyC
 have e1:isTupObj h (.ref a)=true:=by simp [isTupObj,ho,hc]
 rw [aA e1]
 simp only [tupKey,ho,hd]
 exact hi
def Ia:Keyed->Addr:=λk=>match k.2 with
 | .ref a=>a
 |_=>0
variable {X:Cx} {K:PySem.W.Frag}
def Ke (K:PySem.W.Frag):List V->Hp->VK->Prop:=λvs H Q=>∃(a:Addr) (ads:List Addr) (ct:Addr->Nat×Nat),vs=[V.ref a]/\cE K H a (ads.map V.ref)/\ads.length<=1000/\(∀b∈ads,H b=some (.dC [.int ((ct b).1:Nat),.int ((ct b).2:Nat)]))/\
 ∀(ads':List Addr) (p:Addr),ads'.Perm ads->ads'.Pairwise (λx y=>(ct x).1<=(ct y).1)->H p=none->Q (.ref p) (bG H p (.a6 (ads'.map V.ref)))
theorem zV:∀{ads:List Addr} {us:List Value},c7 (ads.map V.ref) us->us=ads.map Value.ref
 |[],us,h=>by rw [gF] at h;cases h;rfl
 |a::ads,us,h=>by
  rw [bA] at h
  cases h with
  |cons r t=>
   cases r
   rw [zV t,bA]
theorem uY:∀ads:List Addr,c7 (ads.map V.ref) (ads.map Value.ref)
 |[]=> .nil
 |a::ads=> .cons rfl (uY ads)
theorem G4 (hK:X.K=K:=by rfl):hJ X (.builtin "sorted") (Ke K):=by
 subst hK
 intro pins s σ H vs us Q I r h
 obtain ⟨a,ads,ct,rfl,hs,hn,hc,q⟩:=h
 obtain ⟨its,rv,hl,_⟩:=I.list hs
 rw [c7.Bo r]
 have e:=zV rv
 subst e
 have obj:∀b∈ads,∃(o:Obj) (xs:Array Value) (m:Nat) (t u:Tok),s.heap.get? b=some o/\o.cls= .type "tuple"/\o.data= .seq xs m/\xs.toList=[.int ((ct b).1:Nat) t,.int ((ct b).2:Nat) u]:=λb hb=>by
  obtain ⟨_,its,rr,o,h1,h2,m,h3⟩:=(show g8 X.prog X.w H s.heap b (.dC [.int ((ct b).1:Nat),.int ((ct b).2:Nat)]) from I.fD b _ (hc b hb))
  obtain ⟨t,u,e⟩:=c7.WM rr
  subst e
  exact ⟨o,_,m,t,u,h1,h2,h3,rfl⟩
 have key:∀b∈ads,tupKeyC s.heap MJ (.ref b)=some [Sum.inl ((ct b).1:Int),Sum.inl ((ct b).2:Int)]:=λb hb=>by
  obtain ⟨o,xs,m,t,u,h1,h2,h3,h4⟩:=obj b hb
  exact Ze h1 h2 h3 (by rw [h4];rfl)
 have zH:∀l:List Addr,(∀b∈l,b∈ads)->∃fs,TupsOf s.heap MJ (l.map Value.ref) fs:=by
  intro l
  induction l with
  |nil=>exact λ_=>⟨[],.nil⟩
  |cons b l ih=>
   intro hb
   obtain ⟨fs,hf⟩:=ih λx hx=>hb x (aE _ hx)
   obtain ⟨o,xs,m,t,u,h1,h2,h3,h4⟩:=obj b (hb b aP)
   refine ⟨Value.int ((ct b).1:Nat) t::fs,.cons ⟨b,o,xs,m,rfl,h1,h2,h3,?_,λ_=>⟨_,_,rfl⟩,λz=>by cases z⟩ hf⟩
   rw [<-dg,h4]
   rfl
 obtain ⟨fs,hf⟩:=zH ads λb hb=>hb
 refine sorted_tups (vs:=ads.map Value.ref) hl.isList hf (λv hv=> ?_) (by rw [af,dH];lia) λst' hp hsd _=> ?_
 ·obtain ⟨b,hb,rfl⟩:=bC.mp hv
  exact ⟨_,key b hb⟩
 ·have pl:(arrOf st').toList.Perm (ads.map λb=>((Value.ref b,Value.ref b):Keyed)):=by
   have z:=Array.perm_iff_toList_perm.mp hp
   rw [pairsOf_toList] at z
   refine z.trans ?_
   rw [List.zip_map']
  generalize hgen:arrOf st'=arr at pl hsd
  have mem:∀k∈arr.toList,∃b∈ads,k=((Value.ref b,Value.ref b):Keyed):=λk hk=>by
   obtain ⟨b,hb,e⟩:=bC.mp (pl.mem_iff.mp hk)
   exact ⟨b,hb,e.symm⟩
  have pa:(arr.toList.map Ia).Perm ads:=by
   have:=pl.map Ia
   rw [cX] at this
   have e:(Ia∘λb=>((Value.ref b,Value.ref b):Keyed))=id:=rfl
   rw [e,List.map_id] at this
   exact this
  have eo:(arr.map (·.2)).toList=(arr.toList.map Ia).map Value.ref:=by
   rw [Array.toList_map,cX]
   refine e9 λk hk=> ?_
   obtain ⟨b,_,rfl⟩:=mem k hk
   rfl
  have hlen:arr.toList.length=ads.length:=by rw [pl.length_eq,af]
  obtain ⟨ep,he'⟩:=oj s.heap (ads.map Value.ref) (arr.map (·.2))
  have hz:((arr.toList.map Ia).map V.ref).length<=sizeLine:=by rw [af,af,hlen,dH];lia
  refine ⟨.ref _,bG H (s.heap.objs.size+1) (.a6 ((arr.toList.map Ia).map V.ref)),I.laid (t':=s.toks) (λ_ _=>m8) (cG _) ⟨hz,(arr.map (·.2)).toList,ep,by rw [eo];exact uY _,by rw [lX];exact he'⟩,rfl,q _ _ pa ?_ (I.fD.fresh (cG _))⟩
  rw [eV,fg]
  intro i j hi hj hij
  have hsz:(pairsOf (ads.map Value.ref)).size=ads.length:=by rw [pairsOf_size,af]
  have z:=hsd i j (by lia) (by rw [hsz,<-hlen];exact hj)
  obtain ⟨bi,hbi,ei⟩:=mem arr.toList[i] (fm hi)
  obtain ⟨bj,hbj,ej⟩:=mem arr.toList[j] (fm hj)
  have ki:KK (tupKindC s.heap MJ) arr i=[Sum.inl ((ct bi).1:Int),Sum.inl ((ct bi).2:Int)]:=by
   unfold KK
   rw [<-dg,ab hi,ei]
   show (tupKeyC s.heap MJ (.ref bi)).getD []=_
   rw [key bi hbi]
   rfl
  have kj:KK (tupKindC s.heap MJ) arr j=[Sum.inl ((ct bj).1:Int),Sum.inl ((ct bj).2:Int)]:=by
   unfold KK
   rw [<-dg,ab hj,ej]
   show (tupKeyC s.heap MJ (.ref bj)).getD []=_
   rw [key bj hbj]
   rfl
  rw [ki,kj] at z
  rw [ei,ej]
  show (ct bi).1<=(ct bj).1
  have z:lexLt itemOrd [Sum.inl ((ct bj).1:Int),Sum.inl ((ct bj).2:Int)] [Sum.inl ((ct bi).1:Int),Sum.inl ((ct bi).2:Int)]=false:=z
  rw [lex_cons] at z
  have z1:=(Bool.or_eq_false_iff.mp z).1
  have z1:decide (((ct bj).1:Int)< ((ct bi).1:Int))=false:=z1
  have:=of_decide_eq_false z1
  lia
end
end Qz
end
section
namespace Qm
open Vbqzak
section
variable {s:State}
theorem wW {α β:Type} (ok:α->Bool) (r:α->List β) (b0:List β):∀l:List α,
  let F:=l.foldr (λy b=>if ok y=true then (if b.length<=(r y).length then r y else b) else b) b0
  b0.length<=F.length/\(∀y∈l,ok y=true->(r y).length<=F.length)/\
  F=(l.find? (λy=>ok y&&((r y).length==F.length))).elim b0 r
 |[]=>⟨aF _,λ_ h=>absurd h List.not_mem_nil,rfl⟩
 |y::l=>by
  have ih:=wW ok r b0 l
  rw [qX]
  generalize hF:l.foldr (λy b=>if ok y=true then (if b.length<=(r y).length then r y else b) else b) b0=F at ih ⊢
  obtain ⟨h1,h2,h3⟩:=ih
  by_cases hy:ok y=true
  ·by_cases hl:F.length<=(r y).length
   ·simp only [hy,hl,ow]
    refine ⟨bg h1 hl,λz hz hk=> ?_,?_⟩
    ·rcases aX.mp hz with e|hz
     ·rw [e]
      exact aF _
     ·exact bg (h2 z hz hk) hl
    ·rw [List.find?_cons_of_pos (by simp [hy])]
     rfl
   ·simp only [hy,hl,ow,pE]
    refine ⟨h1,λz hz hk=> ?_,?_⟩
    ·rcases aX.mp hz with e|hz
     ·rw [e]
      lia
     ·exact h2 z hz hk
    ·rw [ql (by simp;intro _ e;lia)]
     exact h3
  ·simp only [hy,pE]
   refine ⟨h1,λz hz hk=> ?_,?_⟩
   ·rcases aX.mp hz with e|hz
    ·exact absurd (e▸hk) hy
    ·exact h2 z hz hk
   ·rw [ql (by simp [hy])]
    exact h3
def most (s:State) (f:Nat) (l:List Nat):Nat:=(bestPairs s f l).length
theorem yf (f x:Nat) (l:List Nat):
  most s f l<=most s (f+1) (x::l)/\(∀y∈l,mayPair s x y=true->most s f (l.filter λz=>z !=y)+1<=most s (f+1) (x::l))/\
  bestPairs s (f+1) (x::l)=(l.find? (λy=>mayPair s x y&&(most s f (l.filter λz=>z !=y)+1==most s (f+1) (x::l)))).elim (bestPairs s f l) λy=>(x,y)::bestPairs s f (l.filter λz=>z !=y):=
 wW (mayPair s x) (λy=>(x,y)::bestPairs s f (l.filter λz=>z !=y)) (bestPairs s f l) l
theorem Mi {f x M:Nat} {l:List Nat} (h0:most s f l<=M) (h1:∀y∈l,mayPair s x y=true->most s f (l.filter λz=>z !=y)+1<=M):most s (f+1) (x::l)<=M:=by
 obtain ⟨_,_,e⟩:=yf (s:=s) f x l
 unfold most
 rw [e]
 cases hf:l.find? (λy=>mayPair s x y&&(most s f (l.filter λz=>z !=y)+1==most s (f+1) (x::l))) with
 |none=>exact h0
 |some y=>
  have hy:=qW hf
  rw [aR] at hy
  exact h1 y (fh hf) hy.1
theorem Ju (f:Nat):bestPairs s f []=[]:=by cases f<;>rfl
theorem jT {l:List Nat} {y:Nat} (h:y∈l):(l.filter λz=>z !=y).length< l.length:=by
 have:=List.length_filter_lt_length_iff_exists (l:=l) (p:=λz=>z !=y)
 exact this.mpr ⟨y,h,by simp⟩
theorem xQ:∀(f g:Nat) (l:List Nat),l.length<=f->l.length<=g->bestPairs s f l=bestPairs s g l
 |_,_,[],_,_=>by rw [Ju,Ju]
 |f+1,g+1,x::l,hf,hg=>by
  have hf:l.length<=f:=by simpa using hf
  have hg:l.length<=g:=by simpa using hg
  have e0:=xQ f g l hf hg
  have e1:∀y∈l,bestPairs s f (l.filter λz=>z !=y)=bestPairs s g (l.filter λz=>z !=y):=λy hy=>by
   have:=jT hy
   exact xQ f g _ (by lia) (by lia)
  show l.foldr _ _=l.foldr _ _
  have key:∀(k:List Nat),(∀y∈k,y∈l)->k.foldr (λy (b:List (Nat×Nat))=>if mayPair s x y=true then (let r:=(x,y)::bestPairs s f (l.filter λz=>z !=y);if b.length<=r.length then r else b) else b) (bestPairs s f l)=k.foldr (λy (b:List (Nat×Nat))=>if mayPair s x y=true then (let r:=(x,y)::bestPairs s g (l.filter λz=>z !=y);if b.length<=r.length then r else b) else b) (bestPairs s g l):=by
   intro k
   induction k with
   |nil=>exact λ_=>e0
   |cons y k ih=>
    intro hk
    rw [qX,qX,ih λz hz=>hk z (aE _ hz),e1 y (hk y aP)]
  exact key l λ_ h=>h
end
end Qm
end
section
namespace Qm
open Vbqzak
section
variable {s:State}
def nQ (s:State) (l:List Nat):Nat:=most s l.length l
theorem zk {f:Nat} {l:List Nat} (h:l.length<=f):most s f l=nQ s l:=by
 unfold nQ most
 rw [xQ f l.length l h (aF _)]
theorem Hh {l:List Nat} (h:l.length< 2):nQ s l=0:=by
 match l,h with
 |[],_=>rfl
 |[_],_=>rfl
 |_::_::_,h=>simp at h;lia
theorem J5 (x:Nat) (l:List Nat):nQ s l<=nQ s (x::l):=(yf l.length x l).1
theorem IW {x y:Nat} {l:List Nat} (hy:y∈l) (h:mayPair s x y=true):nQ s (l.filter λz=>z !=y)+1<=nQ s (x::l):=by
 have:=(yf (s:=s) l.length x l).2.1 y hy h
 rw [zk (dM (jT hy))] at this
 exact this
theorem OG {x M:Nat} {l:List Nat} (h0:nQ s l<=M) (h1:∀y∈l,mayPair s x y=true->nQ s (l.filter λz=>z !=y)+1<=M):nQ s (x::l)<=M:=
 Mi (f:=l.length) h0 λy hy h=>by
  rw [zk (dM (jT hy))]
  exact h1 y hy h
def GO (s:State) (x:Nat) (l:List Nat):Option Nat:=l.find? λy=>mayPair s x y&&(nQ s (l.filter λz=>z !=y)+1==nQ s (x::l))
def QR (s:State) (l:List Nat):List (Nat×Nat):=bestPairs s l.length l
theorem Gd:QR s []=[]:=rfl
theorem yE {α:Type} {p q:α->Bool}:∀{l:List α},(∀y∈l,p y=q y)->l.find? p=l.find? q
 |[],_=>rfl
 |x::l,h=>by
  rw [fS,fS,h x aP,yE λy hy=>h y (aE _ hy)]
theorem C1 (x:Nat) (l:List Nat):QR s (x::l)=(GO s x l).elim (QR s l) λy=>(x,y)::QR s (l.filter λz=>z !=y):=by
 have h:=(yf (s:=s) l.length x l).2.2
 have e:(l.find? λy=>mayPair s x y&&(most s l.length (l.filter λz=>z !=y)+1==most s (l.length+1) (x::l)))=GO s x l:=by
  unfold GO
  refine yE λy hy=> ?_
  rw [zk (dM (jT hy))]
  rfl
 rw [e] at h
 show bestPairs s (l.length+1) (x::l)=_
 rw [h]
 cases hf:GO s x l with
 |none=>rfl
 |some y=>
  have hy:y∈l:=fh hf
  show (x,y)::bestPairs s l.length _=(x,y)::bestPairs s _ _
  rw [xQ l.length _ (l.filter λz=>z !=y) (dM (jT hy)) (aF _)]
theorem BI {x y:Nat} {l:List Nat} (h:GO s x l=some y):y∈l:=fh h
theorem Pf {x y:Nat} {l:List Nat} {j:Nat} (hj:l[j]? =some y) (h:(mayPair s x y&&(nQ s (l.filter λz=>z !=y)+1==nQ s (x::l)))=true) (hn:∀(i z:Nat),i< j->l[i]? =some z->(mayPair s x z&&(nQ s (l.filter λu=>u !=z)+1==nQ s (x::l)))=false):GO s x l=some y:=by
 unfold GO
 rw [List.find?_eq_some_iff_getElem]
 obtain ⟨hl,e⟩:=ae.mp hj
 refine ⟨h,j,hl,e,λi hi=> ?_⟩
 rw [hn i _ hi (ab (by lia))]
 rfl
theorem OD {x:Nat} {l:List Nat} (hn:∀(i z:Nat),l[i]? =some z->(mayPair s x z&&(nQ s (l.filter λu=>u !=z)+1==nQ s (x::l)))=false):GO s x l=none:=by
 unfold GO
 rw [dt]
 intro z hz
 obtain ⟨i,hi⟩:=a9.mp hz
 rw [hn i z hi]
 simp
def de (acc:List (Nat×Nat)):List Nat:=acc.flatMap λt=>[t.1,t.2]
theorem ml {acc:List (Nat×Nat)} {x:Nat}:x∈de acc↔∃t∈acc,t.1=x\/t.2=x:=by
 unfold de
 rw [pM]
 constructor
 ·rintro ⟨t,ht,h⟩
  refine ⟨t,ht,?_⟩
  simp at h
  lia
 ·rintro ⟨t,ht,h⟩
  refine ⟨t,ht,?_⟩
  simp
  lia
theorem vg {n:Nat} {acc:List (Nat×Nat)} {x:Nat} (h:x∉de acc):partner n acc x=n:=by
 unfold partner
 have:(acc.find? λt=>t.1==x||t.2==x)=none:=by
  rw [dt]
  intro t ht h2
  apply h
  rw [ml]
  refine ⟨t,ht,?_⟩
  simpa using h2
 rw [this]
theorem yY {n:Nat} {acc:List (Nat×Nat)} {x:Nat} (h:x∈de acc):partner n acc x∈de acc:=by
 unfold partner
 cases e:acc.find? λt=>t.1==x||t.2==x with
 |none=>
  rw [ml] at h
  obtain ⟨t,ht,h2⟩:=h
  have:=dt.mp e t ht
  simp at this
  lia
 |some t=>
  have ht:=fh e
  show (if t.1=x then t.2 else t.1)∈_
  rw [ml]
  by_cases h2:t.1=x
  ·rw [aA h2]
   exact ⟨t,ht,.inr rfl⟩
  ·rw [au h2]
   exact ⟨t,ht,.inl rfl⟩
theorem BD {n:Nat} {acc:List (Nat×Nat)} {x y z:Nat} (hx:x∉de acc) (hy:y∉de acc):partner n (acc++[(x,y)]) z=if z=y then (if x=y then y else x) else if z=x then y else partner n acc z:=by
 unfold partner
 rw [List.find?_append]
 by_cases hz:z∈de acc
 ·have h1:z≠x:=λe=>hx (e▸hz)
  have h2:z≠y:=λe=>hy (e▸hz)
  rw [au h2,au h1]
  cases e:acc.find? λt=>t.1==z||t.2==z with
  |some t=>rfl
  |none=>
   rw [ml] at hz
   obtain ⟨t,ht,h2⟩:=hz
   have:=dt.mp e t ht
   simp at this
   lia
 ·have e0:(acc.find? λt=>t.1==z||t.2==z)=none:=by
   rw [dt]
   intro t ht h2
   exact hz (ml.mpr ⟨t,ht,by simpa using h2⟩)
  rw [e0]
  by_cases h2:z=y
  ·subst h2
   rw [aA rfl]
   by_cases h3:x=z
   ·simp [h3]
   ·simp [h3]
  ·rw [au h2]
   by_cases h1:z=x
   ·subst h1
    simp
   ·rw [au h1]
    have h3:¬x=z:=λe=>h1 e.symm
    have h4:¬y=z:=λe=>h2 e.symm
    simp [h3,h4]
def hG (n:Nat) (acc:List (Nat×Nat)):List Nat:=(List.range n).map (partner n acc)
theorem wH (n:Nat) (acc:List (Nat×Nat)):(hG n acc).length=n:=by
 unfold hG
 rw [af,aM]
theorem HN (n:Nat):hG n []=(List.range n).map λ_=>n:=rfl
theorem EW {n:Nat} {acc:List (Nat×Nat)} {x y:Nat} (hx:x∉de acc) (hy:y∉de acc) (XE:x≠y):((hG n acc).set x y).set y x=hG n (acc++[(x,y)]):=by
 apply bS
 intro i
 rw [oE,oE]
 unfold hG
 rw [gB,af,aM,ay,ay]
 by_cases hi:i< n
 ·rw [b9 hi]
  show _=some (partner n (acc++[(x,y)]) i)
  rw [BD hx hy,au XE]
  by_cases h1:i=y
  ·subst h1
   rw [aA rfl,aA hi,aA rfl]
  ·rw [au (λe=>h1 e.symm),au h1]
   by_cases h2:i=x
   ·subst h2
    rw [aA rfl,aA hi,aA rfl]
   ·rw [au (λe=>h2 e.symm),au h2]
    rfl
 ·have e:(List.range n)[i]? =none:=bq (by rw [aM];lia)
  rw [e]
  by_cases h1:i=y
  ·subst h1
   rw [aA rfl,au hi]
   rfl
  ·rw [au (λe=>h1 e.symm)]
   by_cases h2:i=x
   ·subst h2
    rw [aA rfl,au hi]
    rfl
   ·rw [au (λe=>h2 e.symm)]
    rfl
theorem CQ {n:Nat} {acc:List (Nat×Nat)} (hn:(de acc).Nodup) (hi:∀x∈de acc,x< n):(hG n acc).countP (λz=>z==n)+2*acc.length=n:=by
 have e1:(hG n acc).countP (λz=>z==n)=(List.range n).countP λx=> !(de acc).contains x:=by
  unfold hG
  rw [jF]
  refine d9 λx hx=> ?_
  show (partner n acc x==n)=true↔_
  by_cases h:x∈de acc
  ·have:=hi _ (yY (n:=n) h)
   simp [h]
   lia
  ·simp [h,vg h]
 have e2:(de acc).length=2*acc.length:=by
  unfold de
  induction acc with
  |nil=>rfl
  |cons t acc ih=>
   have hn2:(de acc).Nodup:=by
    unfold de at hn ⊢
    rw [da,cc] at hn
    exact hn.2.1
   rw [da,ao,ih hn2 (λx hx=>hi x (by unfold de at hx ⊢;rw [da];exact bp _ hx)) (by
    have:∀x∈List.range n,True:=λ_ _=>trivial
    unfold hG
    rw [jF]
    refine d9 λx hx=> ?_
    show (partner n acc x==n)=true↔_
    by_cases h:x∈de acc
    ·have:=hi _ (show partner n acc x∈de (t::acc) by
      have:=yY (n:=n) h
      unfold de at this ⊢
      rw [da]
      exact bp _ this)
     simp [h]
     lia
    ·simp [h,vg h])]
   simp
   lia
 have e3:(List.range n).countP (λx=>(de acc).contains x)=(de acc).length:=by
  rw [iC]
  refine List.Perm.length_eq ?_
  rw [df (List.Nodup.sublist cK gj) hn]
  intro x
  rw [bU,cQ]
  constructor
  ·exact λh=>by simpa using h.2
  ·exact λh=>⟨hi x h,by simpa using h⟩
 have e4:=List.length_eq_countP_add_countP (λx=>(de acc).contains x) (l:=List.range n)
 rw [aM] at e4
 rw [e1,<-e2,<-e3]
 have e5:(List.range n).countP (λx=>decide ¬((de acc).contains x=true))=(List.range n).countP λx=> !(de acc).contains x:=by
  refine d9 λx _=> ?_
  simp
 rw [e5] at e4
 lia
structure j5 (s:State) (acc:List (Nat×Nat)) (l:List Nat):Prop where
 eq:Vbqzak.pairs s=acc++QR s l
 nd:(de acc++l).Nodup
 vN:∀x∈de acc++l,x< s.n
 sub:l.Sublist (List.range s.n)
theorem j5.start (s:State):j5 s [] (List.range s.n) where
 eq:=by
  show bestPairs s s.n (List.range s.n)=[]++bestPairs s (List.range s.n).length (List.range s.n)
  rw [aM]
  rfl
 nd:=gj
 vN:=λx hx=>cQ.mp hx
 sub:=List.Sublist.refl _
theorem j5.skip {acc:List (Nat×Nat)} {x:Nat} {l:List Nat} (W:j5 s acc (x::l)) (h:GO s x l=none):j5 s acc l where
 eq:=by rw [W.eq,C1,h];rfl
 nd:=W.nd.sublist ((List.Sublist.refl _).append (f6 _ _))
 vN:=λy hy=>W.vN y (by
  rcases aI.mp hy with hy|hy
  ·exact br _ hy
  ·exact bp _ (aE _ hy))
 sub:=(f6 _ _).trans W.sub
theorem j5.pair {acc:List (Nat×Nat)} {x y:Nat} {l:List Nat} (W:j5 s acc (x::l)) (h:GO s x l=some y):j5 s (acc++[(x,y)]) (l.filter λz=>z !=y) where
 eq:=by rw [W.eq,C1,h,dN];rfl
 nd:=by
  have hy:=BI h
  have hn:=W.nd
  have e:de (acc++[(x,y)])=de acc++[x,y]:=by
   unfold de
   rw [dw]
   rfl
  rw [e]
  rw [cc,c9] at hn
  obtain ⟨h1,⟨h2,h3⟩,h4⟩:=hn
  rw [cc,cc]
  refine ⟨⟨h1,?_,λa ha b hb=> ?_⟩,h3.sublist cK,λa ha b hb=> ?_⟩
  ·have:x≠y:=λe=>h2 (e▸hy)
   simp [this]
  ·have:b=x\/b=y:=by simpa using hb
   rcases this with e|e
   ·exact h4 a ha b (by rw [e];exact aP)
   ·exact h4 a ha b (by rw [e];exact aE _ hy)
  ·obtain ⟨hb1,hb2⟩:=bU.mp hb
   rcases aI.mp ha with ha|ha
   ·exact h4 a ha b (aE _ hb1)
   ·have:a=x\/a=y:=by simpa using ha
    rcases this with e|e
    ·exact λq=>h2 (by rw [<-e,q];exact hb1)
    ·intro q
     rw [<-q,e] at hb2
     simp at hb2
 vN:=λz hz=>by
  have e:de (acc++[(x,y)])=de acc++[x,y]:=by
   unfold de
   rw [dw]
   rfl
  rw [e] at hz
  have hy:=BI h
  apply W.vN
  rcases aI.mp hz with hz|hz
  ·rcases aI.mp hz with hz|hz
   ·exact br _ hz
   ·have:z=x\/z=y:=by simpa using hz
    rcases this with e|e
    ·rw [e]
     exact bp _ aP
    ·rw [e]
     exact bp _ (aE _ hy)
  ·exact bp _ (aE _ (bU.mp hz).1)
 sub:=cK.trans ((f6 _ _).trans W.sub)
theorem j5.HX {acc:List (Nat×Nat)} {l:List Nat} (W:j5 s acc l) {x:Nat} (hx:x∈l):x∉de acc:=λh=>by
 have:=W.nd
 rw [cc] at this
 exact this.2.2 x h x hx rfl
end
def EK:List Nat->List (List Nat)
 |[]=>[[]]
 |x::l=>EK l++(EK l).map (x::·)
theorem Dt:∀l:List Nat,(EK l).length=2 ^ l.length
 |[]=>rfl
 |x::l=>by
  unfold EK
  rw [ao,af,Dt l,aB,Nat.pow_succ]
  lia
theorem yL:∀{l m:List Nat},m.Sublist l->m∈EK l
 |[],m,h=>by
  have:m=[]:=List.sublist_nil.mp h
  rw [this]
  exact aP
 |x::l,m,h=>by
  unfold EK
  rcases List.sublist_cons_iff.mp h with h|⟨r,rfl,h2⟩
  ·exact br _ (yL h)
  ·exact bp _ (bC.mpr ⟨r,yL h2,rfl⟩)
end Qm
namespace Qm
open Vbqzak
theorem j5.Om {s:State}:∀(k:Nat) (acc:List (Nat×Nat)) (l:List Nat),l.length<=k->j5 s acc l->j5 s (Vbqzak.pairs s) []
 |_,acc,[],_,W=>by
  have e:=W.eq
  rw [Gd,bR] at e
  rw [e]
  exact W
 |0,acc,x::l,h,W=>by simp at h
 |k+1,acc,x::l,h,W=>by
  have h:l.length<=k:=by simpa using h
  cases e:GO s x l with
  |none=>exact j5.Om k _ _ h (W.skip e)
  |some y=>exact j5.Om k _ _ (bg (bQ _ _) h) (W.pair e)
theorem DL (s:State):(hG s.n (Vbqzak.pairs s)).countP (λz=>z==s.n)+2*(Vbqzak.pairs s).length=s.n:=by
 have W:=j5.Om _ _ _ (aF _) (j5.start s)
 refine CQ ?_ λx hx=>W.vN x (by rw [bR];exact hx)
 have:=W.nd
 rw [bR] at this
 exact this
end Qm
end
section
namespace Qz
open PySem PySem.Spec PyProof.Rows L2
open Vbqzak (step mayPair)
theorem Ew (y:Nat) (l:List Nat):LM (V.int (y:Nat)) (nV l)=l.contains y:=by
 unfold LM nV
 rw [ja,dW,cD,cn]
 constructor
 ·rintro ⟨z,hz,h⟩
  have h:((z:Int)==(y:Int))=true:=h
  have:z=y:=by have:=eq_of_beq h;lia
  rw [<-this]
  exact hz
 ·exact λh=>⟨y,h,by show ((y:Int)==(y:Int))=true;exact jc _⟩
theorem Me (x:Nat) (l:List Nat):xA (nV (x::l)) (some 1) none=nV l:=by
 unfold xA
 have e:HT.kZ (nV (x::l)).length 0 (some 1)=1:=by
  show (if (1:Int)< 0 then ((1:Int)+((nV (x::l)).length:Int)).toNat else min (1:Int).toNat (nV (x::l)).length)=1
  rw [au (by decide),cN,aB]
  show min 1 (l.length+1)=1
  lia
 rw [e]
 show ((nV (x::l)).drop 1).take ((nV (x::l)).length-1)=nV l
 rw [cN,aB,jP]
 show (nV l).take l.length=nV l
 rw [ig (by rw [cN];exact aF _)]
theorem u6 (x:Nat) (l:List Nat):¬(HT.kZ (nV (x::l)).length 0 (some 1)=0/\HT.kZ (nV (x::l)).length (nV (x::l)).length none=(nV (x::l)).length):=λh=>by
 have e:HT.kZ (nV (x::l)).length 0 (some 1)=1:=by
  show (if (1:Int)< 0 then ((1:Int)+((nV (x::l)).length:Int)).toNat else min (1:Int).toNat (nV (x::l)).length)=1
  rw [au (by decide),cN,aB]
  show min 1 (l.length+1)=1
  lia
 rw [e] at h
 exact absurd h.1 (by decide)
def xJ (l:List Nat):List iq:=l.map λx=>Sum.inl ((x:Nat):Int)
theorem Rg (l:List Nat):(xJ l).map kV=nV l:=by
 unfold xJ nV
 rw [cX]
 rfl
theorem FT:∀{l m:List Nat},xJ l=xJ m->l=m
 |[],[],_=>rfl
 |[],_::_,h=>by cases h
 |_::_,[],h=>by cases h
 |x::l,y::m,h=>by
  have h1:=(List.cons.inj h).1
  have h2:=(List.cons.inj h).2
  have e1:((x:Nat):Int)=y:=Sum.inl.inj h1
  rw [FT h2,show x=y by lia]
structure rB (s:l9) (kvs:List (List iq×V)):Prop where
 nd:(kvs.map (·.1)).Nodup
 vO:∀kv∈kvs,∃l:List Nat,kv.1=xJ l/\l.Sublist (List.range s.n)/\kv.2=V.int (Qm.nQ s l:Nat)
theorem rB.nil (s:l9):rB s []:=⟨iV,λ_ h=>by cases h⟩
theorem rB.get {s:l9} {kvs:List (List iq×V)} (N:rB s kvs) {l:List Nat} {v:V} (h:k7 kvs (xJ l)=some v):v=V.int (Qm.nQ s l:Nat):=by
 unfold k7 at h
 obtain ⟨kv,h1,h2⟩:=kl.mp h
 obtain ⟨l',e1,_,e2⟩:=N.vO kv (fh h1)
 have e3:=qW h1
 have e3:kv.1=xJ l:=by simpa using e3
 rw [<-h2,e2,FT (e1.symm.trans e3)]
theorem rB.len {s:l9} {kvs:List (List iq×V)} (N:rB s kvs) (hn:s.n<=10):kvs.length<=1024:=by
 have h1:=bI N.nd (l₂:=(Qm.EK (List.range s.n)).map xJ) λk hk=>by
  obtain ⟨kv,hkv,rfl⟩:=bC.mp hk
  obtain ⟨l,e,hs,_⟩:=N.vO kv hkv
  exact bC.mpr ⟨l,Qm.yL hs,e.symm⟩
 rw [af,af,Qm.Dt,aM] at h1
 exact bg h1 (rO (by decide) hn)
theorem rB.put {s:l9} {kvs:List (List iq×V)} (N:rB s kvs) {l:List Nat} (hs:l.Sublist (List.range s.n)):rB s (lY kvs (xJ l) (V.int (Qm.nQ s l:Nat))):=by
 unfold lY
 by_cases a:(kvs.any λkv=>decide (kv.1=xJ l))=true
 ·rw [aA a]
  constructor
  ·rw [cX]
   have:((λx:List iq×V=>x.1)∘λkv:List iq×V=>if kv.1=xJ l then (kv.1,V.int (Qm.nQ s l:Nat)) else kv)=λx=>x.1:=by
    funext kv
    show (if kv.1=xJ l then (kv.1,V.int (Qm.nQ s l:Nat)) else kv).1=kv.1
    split<;>rfl
   rw [this]
   exact N.nd
  ·intro kv hkv
   obtain ⟨u,hu,rfl⟩:=bC.mp hkv
   by_cases e:u.1=xJ l
   ·rw [aA e]
    exact ⟨l,e,hs,rfl⟩
   ·rw [au e]
    exact N.vO u hu
 ·rw [au a]
  constructor
  ·rw [a4,cc]
   refine ⟨N.nd,by simp,λx hx y hy e=> ?_⟩
   have hy:y=xJ l:=by simpa using hy
   obtain ⟨kv,hkv,rfl⟩:=bC.mp hx
   apply a
   rw [cD]
   exact ⟨kv,hkv,by simpa using e.trans hy⟩
  ·intro kv hkv
   rcases aI.mp hkv with hkv|hkv
   ·exact N.vO kv hkv
   ·have:kv=(xJ l,V.int (Qm.nQ s l:Nat)):=by simpa using hkv
    rw [this]
    exact ⟨l,rfl,hs,rfl⟩
section
variable {P:Program} {w:World} {K:PySem.W.Frag} {mg:Str->Option Value} {base:Heap} {G U:Addr}
abbrev jL:Stmt:=iB 67
theorem iD:bt ["house","rows","team","other"] ["house"] (aJ jL):=⟨rfl,rfl,rfl,by decide +kernel,rfl,by decide +kernel,by decide +kernel⟩
def K8 (G U:Addr):Sp:=λvs H Q _=>∃(h l d:Addr) (as:List Addr) (s:l9) (m:Nat),vs=[.ref h]/\fK G U H h l as s.n s.c s.games/\i4 U H h d s.barred m/\Qm.Ok s/\
 ∀(H':Hp) (p:Addr) (rs:List Addr),bB H H'->dJ H' p rs (Qm.jA s) s.n->H p=none->(∀a∈rs,H a=none)->Q (.ref p) H'
theorem Ri (D:Df K mg "partner_rows" jL) (T:Tx K mg G U) (er:ph P w K mg base 4 U "may_be_paired" ["self","one","other"] (OM G U)):dQ P w K mg base 5 "partner_rows" ["house"] (K8 G U):=by
 obtain ⟨f,fd,M,F⟩:=D
 refine ⟨f,fd,M,F.kp,F.cC (λ_ _ _ _ _ _ us hl=>(match us,hl with|[_],_=>rfl)),F.ok iD (λvs H Q E h=> ?_) (λcdv A bE s H vs Q E hr h=> ?_)⟩
 ·obtain ⟨h,l,d,as,s,m,rfl,_⟩:=h
  rfl
 ·obtain ⟨h,l,d,as,s,m,rfl,B,Z,O,k⟩:=h
  have KH:=O.zo
  refine ⟨_,(ai (bx (i:=1) iD.nd rfl (Or.inl rfl) (cf ah)) (ai (d8 aT rfl (d3 rfl T.range (aa (cw (K:=K) (pv 0)) ah)) (cu (i:=2) iD.nd rfl (Or.inr rfl)) (aq (dS (mS (K:=K) aQ bL bM fe (pv 1) (aa (mh rfl iD.nd (iU:=[("other",3)]) (d3 rfl T.range (aa (cw (K:=K) (pv 0)) ah)) (eC (by show nP ["house","rows","team","other"] (aJ jL) _ _=true;decide +kernel)) (λ_ _ _ _ _=>(cu (i:=3) iD.nd rfl (Or.inl rfl))) (λ_ _ _ _ _=>by exact (lT (PW.pt (wj (bo mP (pv 3) (pv 2) (bN _)) (tw (iP (g7 er T.a7 (hr.bY (by decide)) (pv 0) (aa (pv 2) (aa (pv 3) ah))))))))) (λ_ _ _ _ _=>by exact (pv 3))) ah))))) (aq (aV (pv 1))))),?_⟩
  refine ⟨bD _,λrp Mz=> ?_⟩
  have s0:bB H (bG H rp (.a6 [])):=aN Mz
  have t0:bG H rp (.a6 []) rp=some (.a6 []):=aj
  generalize bG H rp (.a6 [])=H0 at s0 t0
  obtain ⟨dh,dd,hh⟩:=(B.same s0).hs
  refine ⟨_,rfl,fI hh T.a7 T.u1 rfl ⟨_,rfl,(by lia),(by lia),?_⟩⟩
  refine fP (Pv:=λi σ H'=>∃(rs:List Addr) (v2:Option V),σ=[some (.ref h),some (.ref rp),v2,none]/\dJ H' rp rs (Qm.jA s) i/\bB H H'/\rp∉rs/\∀a∈rs,H a=none) ⟨[],none,rfl,⟨rfl,t0,λt a ha=>by simp at ha⟩,s0,by simp,by simp⟩ ?_ ?_
  ·rintro i σ H1 hi ⟨rs,v2,rfl,R1,s1,XF,UL⟩
   rw [aK] at hi
   rw [di]
   obtain ⟨Ni,Pz,hh1⟩:=(B.same s1).hs
   refine ⟨_,rfl,.inl ⟨rfl,_,cE.of R1.a6⟩,_,rfl,fI hh1 T.a7 T.u1 rfl ⟨_,rfl,(by lia),(by lia),λD hD=> ?_⟩⟩
   refine mf (Pv:=λj H2=>bB H1 H2/\H2 D=some (.a6 (nV ((List.range j).filter λy=>mayPair s i y)))) ⟨aN hD,aj⟩ ?_ ?_
   ·rintro j H2 hj ⟨s2,iE⟩
    rw [aK] at hj
    rw [di]
    have more:(nV ((List.range (j+1)).filter λy=>mayPair s i y))=nV ((List.range j).filter λy=>mayPair s i y)++(if mayPair s i j=true then [V.int (j:Nat)] else []):=by
     rw [cT,cj,wG]
     congr 1
     by_cases e:mayPair s i j=true
     ·rw [aA e,aS e]
      rfl
     ·rw [au e,aO e]
      rfl
    refine ⟨rfl,_,rfl,_,rfl,rfl,_,rfl,?_⟩
    rw [jI]
    by_cases XG:j=i
    ·subst XG
     rw [jc]
     have em:mayPair s j j=false:=by unfold mayPair;simp
     refine i0 (i0 ⟨s2,?_⟩)
     rw [more,em,au (by simp),bR]
     exact iE
    ·rw [bZ.mpr XG]
     have B2:=(B.same s1).same s2
     obtain ⟨GU,dd2,BY⟩:=B2.hs
     refine ij ⟨_,rfl,h,GU,_,rfl,BY,rfl,_,rfl,_,rfl,h,l,d,as,s,m,i,j,rfl,B2,(Z.same s1).same s2,O.len,(λe=>XG e.symm),λH3 s3=>⟨_,rfl,?_⟩⟩
     refine gr (λe1=> ?_) (λe1=> ?_)
     ·refine ⟨_,rfl,_,s3 _ _ iE,?_,c6 (s2.trans s3) hD,?_⟩
      ·rw [cN]
       refine cv (bg (bQ _ _) ?_)
       rw [aM]
       lia
      ·rw [aj,more,aA e1]
     ·refine ⟨s2.trans s3,?_⟩
      rw [more,au (by rw [e1];simp),bR]
      exact s3 _ _ iE
   ·rintro H2 ⟨s2,iE⟩
    rw [aK] at iE
    have hr2:=s2 _ _ R1.a6
    refine ⟨rp,_,_,rfl,rfl,hr2,(by rw [af,R1.len];exact cv (by lia)),?_⟩
    have Us:D≠rp:=aY (az R1.a6 hD)
    refine ⟨rs++[D],_,rfl,R1.snoc XF s2 iE Us,?_,?_,?_⟩
    ·exact c6 (s1.trans s2) Mz
    ·intro hm
     rcases aI.mp hm with hm|hm
     ·exact XF hm
     ·exact Us (bb.mp hm).symm
    ·intro a ha
     rcases aI.mp ha with ha|ha
     ·exact UL a ha
     ·rw [bb.mp ha]
      exact s1.free hD
  ·rintro σ H1 ⟨rs,v2,rfl,R1,s1,XF,UL⟩
   rw [aK] at R1
   exact ⟨_,rfl,k H1 rp rs s1 R1 Mz UL⟩
abbrev qP:Stmt:=iB 68
theorem uD:bt ["teams","left_out","team"] ["teams","left_out"] (aJ qP):=⟨rfl,rfl,rfl,by decide +kernel,rfl,by decide +kernel,by decide +kernel⟩
def Lb:Sp:=λvs H Q _=>∃(a:Addr) (ts:List Nat) (x:Nat),vs=[.ref a,.int x]/\H a=some (.dC (nV ts))/\ts.length<=10/\
 ∀H' p,bB H H'->H p=none->H' p=some (.dC (nV (ts.filter λz=>z !=x)))->Q (.ref p) H'
theorem Tb (D:Df K mg "without" qP) (T:Tx K mg G U):dQ P w K mg base 1 "without" ["teams","left_out"] Lb:=by
 obtain ⟨f,fd,M,F⟩:=D
 refine ⟨f,fd,M,F.kp,F.cC (λ_ _ _ _ _ _ us hl=>(match us,hl with|[_,_],_=>rfl)),F.ok uD (λvs H Q E h=> ?_) (λcdv A bE s H vs Q E hr h=> ?_)⟩
 ·obtain ⟨a,ts,x,rfl,_⟩:=h
  rfl
 ·obtain ⟨a,ts,x,rfl,ha,hl,k⟩:=h
  refine ⟨_,(aq (aV (pU (Lm (K:=K)) (by rfl) T.FD pN (aa (mh rfl uD.nd (iU:=[("team",2)]) (GB (K:=K) (pv 0)) (eC (by show nP ["teams","left_out","team"] (aJ qP) _ _=true;decide +kernel)) (λ_ _ _ _ _=>(cu (i:=2) uD.nd rfl (Or.inl rfl))) (λ_ _ _ _ _=>by exact (lT (bo mP (pv 2) (pv 1) (bN _)))) (λ_ _ _ _ _=>by exact (pv 2))) ah)))),?_⟩
  refine ⟨_,rfl,a,rfl,⟨_,kY.of ha⟩,λD hD=> ?_⟩
  refine Jq (K:=K) (a:=a) (xs:=nV ts) (Pv:=λj H2=>bB H H2/\H2 D=some (.a6 (nV ((ts.take j).filter λz=>z !=x)))) ⟨aN hD,aj⟩ (λj H2 _ p=>kY.of (p.1 _ _ ha)) ?_ ?_
  ·rintro j v H2 hv ⟨s2,iE⟩
   obtain ⟨t,ht,rfl⟩:=nX hv
   refine ⟨rfl,_,rfl,_,rfl,rfl,_,rfl,?_⟩
   rw [jI]
   have more:nV ((ts.take (j+1)).filter λz=>z !=x)=nV ((ts.take j).filter λz=>z !=x)++(if (t==x)=true then [] else [V.int (t:Nat)]):=by
    rw [c4 ht,cj,wG]
    congr 1
    by_cases e:t=x
    ·subst e
     rw [aA (jc _),aO (by simp)]
     rfl
    ·rw [au (by simpa using e),aS (by simpa using e)]
     rfl
   by_cases e:(t==x)=true
   ·rw [e]
    refine i0 ⟨s2,?_⟩
    rw [more,aA e,bR]
    exact iE
   ·rw [dO.mpr e]
    refine ij ⟨_,rfl,_,iE,?_,c6 s2 hD,?_⟩
    ·rw [cN]
     refine cv (bg (bQ _ _) ?_)
     rw [bf]
     lia
    ·rw [aj,more,au e]
  ·rintro H2 ⟨s2,iE⟩
   rw [cN,bu] at iE
   refine ⟨D,_,rfl,.inl ⟨cE.of iE,λp hp=> ?_⟩⟩
   exact k _ p (s2.trans (aN hp)) (s2.free hp) aj
abbrev pd:Stmt:=iB 69
theorem iH:bt ["partners","free","known","rest","most","other"] ["partners","free","known"] (aJ pd):=⟨rfl,rfl,rfl,by decide +kernel,rfl,by decide +kernel,by decide +kernel⟩
def Tu (L:Nat):Sp:=λvs H Q _=>∃(s:l9) (pp fa kn:Addr) (rs:List Addr) (l:List Nat) (kvs:List (List iq×V)),vs=[.ref pp,.ref fa,.ref kn]/\dJ H pp rs (Qm.jA s) s.n/\H fa=some (.dC (nV l))/\l.Sublist (List.range s.n)/\l.length< L/\H kn=some (.dT kvs)/\rB s kvs/\s.n<=10/\
 ∀(H':Hp) (Fy:List (List iq×V)),(∀b o,H b=some o->b≠kn->H' b=some o)->H' kn=some (.dT Fy)->rB s Fy->Q (.int (Qm.nQ s l:Nat)) H'
theorem dJ.Wi {H H':Hp} {p kn:Addr} {rs:List Addr} {f:Nat->List Nat} {n:Nat} {kvs:List (List iq×V)} (R:dJ H p rs f n) (hk:H kn=some (.dT kvs)) (k:∀b o,H b=some o->b≠kn->H' b=some o):dJ H' p rs f n:=
 R.keep k (λe=>by have:=R.a6;rw [e,hk] at this;cases this) λhm=>by
  obtain ⟨t,ht⟩:=a9.mp hm
  have:=R.row t kn ht
  rw [hk] at this
  cases this
theorem MM (D:Df K mg "most_pairs" pd) (T:Tx K mg G U) (iJ:dQ P w K mg base 1 "without" ["teams","left_out"] Lb):∀L:Nat,dQ P w K mg base (L+1) "most_pairs" ["partners","free","known"] (Tu L)
 |0=>by
  obtain ⟨f,fd,M,F⟩:=D
  refine ⟨f,fd,M,F.kp,F.cC (λ_ _ _ _ _ _ us hl=>(match us,hl with|[_,_,_],_=>rfl)),F.ok iH (λvs H Q E h=> ?_) (λcdv A bE s H vs Q E hr h=> ?_)⟩
  ·obtain ⟨_,_,_,_,_,l,_,_,_,_,_,h,_⟩:=h
   exact absurd h (cF _)
  ·obtain ⟨_,_,_,_,_,l,_,_,_,_,_,h,_⟩:=h
   exact absurd h (cF _)
 |L+1=>by
  have iA:=MM D T iJ L
  obtain ⟨f,fd,M,F⟩:=D
  refine ⟨f,fd,M,F.kp,F.cC (λ_ _ _ _ _ _ us hl=>(match us,hl with|[_,_,_],_=>rfl)),F.ok iH (λvs H Q E h=> ?_) (λcdv A bE s H vs Q E hr h=> ?_)⟩
  ·obtain ⟨s,pp,fa,kn,rs,l,kvs,rfl,_⟩:=h
   rfl
  ·obtain ⟨s,pp,fa,kn,rs,fr,kvs,rfl,R,Ci,hsub,hL,xM,N,hn,k⟩:=h
   refine ⟨_,(ai (cP (bo rb (bT (fF (K:=K)) (by rfl) T.len bh (aa (pv 1) ah)) bc (bN _)) (aq (aV bc)) bF) (ai (cP (Kq (zO (yC hr) (pv 1) (pv 2)) (by rfl)) (ai (bx (i:=3) iH.nd rfl (Or.inl rfl) (rW (Kr (K:=K)) (pv 1) (tu bc) xU)) (ai (bx (i:=4) iH.nd rfl (Or.inl rfl) (bW iA (hr.bY (by lia)) (aa (pv 0) (aa (pv 3) (aa (pv 2) ah))))) (ai (d8 aT rfl (GB (K:=K) (pv 3)) (cu (i:=5) iH.nd rfl (Or.inl rfl)) (aq (cP (bo (LR (K:=K)) (pv 5) (cH (je (K:=K)) (pv 0) (cH (Kb (K:=K)) (pv 1) bc (λ_ _=>rfl)) (λ_ _=>rfl)) rfl) (aq (bx (i:=4) iH.nd rfl (Or.inl rfl) (bT (sZ rfl) (by rfl) T.Dg gq (aa (pv 4) (aa (eY lA bc (bW iA (hr.bY (by lia)) (aa (pv 0) (aa (bW iJ (hr.bY (by lia)) (aa (pv 3) (aa (pv 5) ah))) (aa (pv 2) ah))))) ah))))) bF))) (aq (AG (yC hr) (pv 2) (pv 1) (pv 4) rfl))))) bF) (aq (aV (Ly (yC hr) (pv 2) (pv 1) (λ_ _=>rfl)))))),?_⟩
   refine ⟨_,rfl,fa,_,rfl,.inr (kY.of Ci),_,_,rfl,rfl,_,rfl,?_⟩
   rw [cN]
   refine l4 (λe1=> ?_) (λe1=> ?_)
   ·have e1:fr.length< 2:=by have:=bw e1;lia
    have:=k H kvs (λb o e _=>e) xM N
    rw [Qm.Hh e1] at this
    exact this
   ·have e1:2<=fr.length:=by
     have:¬((fr.length:Int)< 2):=λz=>e1 (aW z)
     lia
    have UM:H fa=some (.dC ((xJ fr).map kV)):=by rw [Rg];exact Ci
    refine ⟨_,rfl,_,rfl,kn,_,rfl,tI.t (k:=xJ fr) xM UM,_,rfl,?_⟩
    have AD:fa≠kn:=λe=>by rw [e,xM] at Ci;cases Ci
    cases ev:k7 kvs (xJ fr) with
    |some v=>
     have:=N.get ev
     subst this
     refine i0 ⟨_,rfl,_,rfl,kn,_,rfl,?_,k H kvs (λb o e _=>e) xM N⟩
     rw [<-ev]
     exact tI.t (k:=xJ fr) xM UM
    |none=>
     refine ij ?_
     obtain ⟨x,l,rfl⟩:∃x l,fr=x::l:=by
      cases fr with
      |nil=>simp at e1
      |cons x l=>exact ⟨x,l,rfl⟩
     have hlL:l.length< L:=by simpa using hL
     have MA:l.length<=10:=by
      have:=hsub.length_le
      rw [aM,aB] at this
      lia
     have Ql:l.Sublist (List.range s.n):=(f6 x l).trans hsub
     have Mv:x< s.n:=by simpa using hsub.subset (aP (a:=x) (l:=l))
     refine ⟨_,rfl,_,rfl,fa,_,rfl,kY.of Ci,u6 x l,λra qc=> ?_⟩
     rw [Me]
     have YS:fa≠ra:=az Ci qc
     have GX:kn≠ra:=az xM qc
     have s1:bB H (bG H ra (.dC (nV l))):=aN qc
     have t1:bG H ra (.dC (nV l)) ra=some (.dC (nV l)):=aj
     generalize bG H ra (.dC (nV l))=H1 at s1 t1
     have R1:=R.same s1
     refine ⟨_,rfl,_,rfl,_,rfl,s,pp,ra,kn,rs,l,kvs,rfl,R1,t1,Ql,hlL,s1 _ _ xM,N,hn,λH2 kv2 Nt XH N2=> ?_⟩
     have k2:∀b o,H b=some o->b≠kn->H2 b=some o:=λb o e hb=>Nt b o (s1 b o e) hb
     have t2:=Nt _ _ t1 (aY GX)
     refine ⟨_,rfl,ra,rfl,⟨_,kY.of t2⟩,F2 (K:=K) (a:=ra) (xs:=nV l) (λj σ H'=>∃(Mx:Nat) (kv:List (List iq×V)) (v5:Option V),σ=[some (.ref pp),some (.ref fa),some (.ref kn),some (.ref ra),some (.int (Mx:Nat)),v5]/\(∀b o,H b=some o->b≠kn->H' b=some o)/\H' ra=some (.dC (nV l))/\H' kn=some (.dT kv)/\rB s kv/\
      Qm.nQ s l<=Mx/\Mx<=Qm.nQ s (x::l)/\∀i y,i< j->l[i]? =some y->mayPair s x y=true->Qm.nQ s (l.filter λz=>z !=y)+1<=Mx)
      ⟨Qm.nQ s l,kv2,none,rfl,k2,t2,XH,N2,aF _,Qm.J5 x l,λi y hi=>absurd hi (cF _)⟩ (λj σ H' _ ⟨_,_,_,_,_,z,_⟩=>kY.of z) ?_ ?_⟩
     ·rintro j v σ H3 hv ⟨Mx,kv,v5,rfl,k3,t3,B9,N3,XI,XJ,UN⟩
      obtain ⟨y,hy,rfl⟩:=nX hv
      have hyl:y∈l:=aw hy
      have zK:y< s.n:=by simpa using Ql.subset hyl
      have R3:=R.Wi xM k3
      obtain ⟨ro,Ur,PL,kW⟩:=R3.get Mv
      refine ⟨_,rfl,_,rfl,_,rfl,fa,_,_,_,rfl,rfl,kY.of (k3 _ _ Ci AD),cg (j:=0) rfl,xI (cE.of R3.a6) PL ⟨ro,_,rfl,.inl (cE.of kW),rfl,tF _,_,rfl,?_⟩⟩
      show if LM (V.int (y:Nat)) (nV (Qm.jA s x))=true then _ else _
      rw [Ew]
      refine gr (λe2=> ?_) (λe2=> ?_)
      ·have hm:mayPair s x y=true:=(Qm.j3.mp (by simpa using e2)).2
       have hfl:(l.filter λz=>z !=y).length< l.length:=Qm.jT hyl
       refine ⟨_,rfl,_,rfl,_,rfl,_,rfl,ra,l,y,rfl,t3,MA,λH4 p4 s4 AB t4=> ?_⟩
       refine ⟨_,rfl,s,pp,p4,kn,rs,_,kv,rfl,R3.same s4,t4,cK.trans Ql,by lia,s4 _ _ B9,N3,hn,λH5 VI vM D7 N5=> ?_⟩
       refine ⟨_,_,rfl,rfl,_,_,rfl,?_⟩
       have hpm:=Qm.IW (s:=s) hyl hm
       refine ⟨max Mx (Qm.nQ s (l.filter λz=>z !=y)+1),VI,some (.int (y:Nat)),?_,λb o e hb=>vM b o (s4 _ _ (k3 b o e hb)) hb,vM _ _ (s4 _ _ t3) (aY GX),D7,N5,by lia,by lia,λi u hi hu UO=> ?_⟩
       ·have em:(if (1:Int)+((Qm.nQ s (l.filter λz=>z !=y):Nat):Int)>((Mx:Nat):Int) then (1:Int)+((Qm.nQ s (l.filter λz=>z !=y):Nat):Int) else ((Mx:Nat):Int))=((max Mx (Qm.nQ s (l.filter λz=>z !=y)+1):Nat):Int):=by
         by_cases h:(1:Int)+((Qm.nQ s (l.filter λz=>z !=y):Nat):Int)>((Mx:Nat):Int)
         ·rw [aA h];lia
         ·rw [au h];lia
        rw [em]
        rfl
       ·by_cases e:i=j
        ·subst e
         rw [hy] at hu
         rw [<-Option.some.inj hu]
         lia
        ·have:=UN i u (by lia) hu UO
         lia
      ·refine ⟨Mx,kv,_,rfl,k3,t3,B9,N3,XI,XJ,λi u hi hu UO=> ?_⟩
       by_cases e:i=j
       ·subst e
        rw [hy] at hu
        rw [<-Option.some.inj hu] at UO
        have:y∈Qm.jA s x:=Qm.j3.mpr ⟨zK,UO⟩
        rw [cn.mpr this] at e2
        cases e2
       ·exact UN i u (by lia) hu UO
     ·rintro σ H3 ⟨Mx,kv,v5,rfl,k3,t3,B9,N3,XI,XJ,UN⟩
      rw [cN] at UN
      have eM:Mx=Qm.nQ s (x::l):=Nat.le_antisymm XJ (Qm.OG XI λy hy hm=>by
       obtain ⟨i,hi⟩:=a9.mp hy
       exact UN i y (ae.mp hi).1 hi hm)
      subst eM
      have UP:H3 fa=some (.dC ((xJ (x::l)).map kV)):=k3 _ _ UM AD
      have YT:=N3.len hn
      refine ⟨_,rfl,_,rfl,_,rfl,kn,_,rfl,By.t (k:=xJ (x::l)) B9 UP (by rw [dH];lia),?_⟩
      have XM:bG H3 kn (.dT (lY kv (xJ (x::l)) (V.int (Qm.nQ s (x::l):Nat)))) fa=some (.dC ((xJ (x::l)).map kV)):=by rw [aL AD];exact UP
      refine ⟨_,rfl,_,rfl,kn,V.int (Qm.nQ s (x::l):Nat),rfl,?_,?_⟩
      ·have g:=tI.t (k:=xJ (x::l)) (kvs:=lY kv (xJ (x::l)) (V.int (Qm.nQ s (x::l):Nat))) (a:=kn) aj XM
       rw [C8,aA rfl] at g
       exact g
      ·refine k _ _ (λb o e hb=> ?_) aj (N3.put hsub)
       rw [aL hb]
       exact k3 b o e hb
end
end Qz
end
section
namespace Qz
open PySem PySem.Spec PyProof.Rows L2
open Vbqzak (step mayPair whole)
section
variable {P:Program} {w:World} {K:PySem.W.Frag} {mg:Str->Option Value} {base:Heap} {G U:Addr}
abbrev Zd (P:Program) (w:World) (K:PySem.W.Frag) (mg:Str->Option Value) (base:Heap):Prop:=dQ P w K mg base 12 "most_pairs" ["partners","free","known"] (Tu 11)
abbrev lq:Stmt:=iB 70
theorem jg:bt ["partners","free","known","most","rest","other"] ["partners","free","known"] (aJ lq):=⟨rfl,rfl,rfl,by decide +kernel,rfl,by decide +kernel,by decide +kernel⟩
def QO:Sp:=λvs H Q _=>∃(s:l9) (pp fa kn:Addr) (rs:List Addr) (x:Nat) (l:List Nat) (kvs:List (List iq×V)),vs=[.ref pp,.ref fa,.ref kn]/\dJ H pp rs (Qm.jA s) s.n/\H fa=some (.dC (nV (x::l)))/\(x::l).Sublist (List.range s.n)/\H kn=some (.dT kvs)/\rB s kvs/\s.n<=10/\
 ∀(H':Hp) (Fy:List (List iq×V)),(∀b o,H b=some o->b≠kn->H' b=some o)->H' kn=some (.dT Fy)->rB s Fy->Q (.int ((Qm.GO s x l).getD s.n:Nat)) H'
theorem Qr (D:Df K mg "first_partner" lq) (T:Tx K mg G U) (iA:Zd P w K mg base) (iJ:dQ P w K mg base 1 "without" ["teams","left_out"] Lb):dQ P w K mg base 13 "first_partner" ["partners","free","known"] QO:=by
 obtain ⟨f,fd,M,F⟩:=D
 refine ⟨f,fd,M,F.kp,F.cC (λ_ _ _ _ _ _ us hl=>(match us,hl with|[_,_,_],_=>rfl)),F.ok jg (λvs H Q E h=> ?_) (λcdv A bE s H vs Q E hr h=> ?_)⟩
 ·obtain ⟨s,pp,fa,kn,rs,x,l,kvs,rfl,_⟩:=h
  rfl
 ·obtain ⟨s,pp,fa,kn,rs,x,l,kvs,rfl,R,Ci,hsub,xM,N,hn,k⟩:=h
  have AD:fa≠kn:=λe=>by rw [e,xM] at Ci;cases Ci
  have MA:l.length< 10:=by
   have:=hsub.length_le
   rw [aM,aB] at this
   lia
  have Ql:l.Sublist (List.range s.n):=(f6 x l).trans hsub
  have Mv:x< s.n:=by simpa using hsub.subset (aP (a:=x) (l:=l))
  refine ⟨_,(ai (bx (i:=3) jg.nd rfl (Or.inl rfl) (bW iA (hr.bY (by decide)) (aa (pv 0) (aa (pv 1) (aa (pv 2) ah))))) (ai (bx (i:=4) jg.nd rfl (Or.inl rfl) (rW (Kr (K:=K)) (pv 1) (tu bc) xU)) (ai (d8 aT rfl (GB (K:=K) (pv 4)) (cu (i:=5) jg.nd rfl (Or.inl rfl)) (aq (cP (PW.pt (wj (bo (LR (K:=K)) (pv 5) (cH (je (K:=K)) (pv 0) (cH (Kb (K:=K)) (pv 1) bc (λ_ _=>rfl)) (λ_ _=>rfl)) rfl) (tw (bo dU (eY lA bc (bW iA (hr.bY (by decide)) (aa (pv 0) (aa (bW iJ (hr.bY (by decide)) (aa (pv 4) (aa (pv 5) ah))) (aa (pv 2) ah))))) (pv 3) (bN _))))) (aq (aV (pv 5))) bF))) (aq (aV (bT (fF (K:=K)) (by rfl) T.len bh (aa (pv 0) ah))))))),?_⟩
  refine ⟨_,rfl,_,rfl,_,rfl,s,pp,fa,kn,rs,x::l,kvs,rfl,R,Ci,hsub,(by rw [aB];lia),xM,N,hn,λH1 kv1 D8 UQ N1=> ?_⟩
  have XN:=D8 _ _ Ci AD
  refine ⟨_,rfl,_,rfl,fa,_,rfl,kY.of XN,u6 x l,λra qc=> ?_⟩
  rw [Me]
  have GX:kn≠ra:=az UQ qc
  have s2:bB H1 (bG H1 ra (.dC (nV l))):=aN qc
  have t2:bG H1 ra (.dC (nV l)) ra=some (.dC (nV l)):=aj
  generalize bG H1 ra (.dC (nV l))=H2 at s2 t2
  refine ⟨_,rfl,ra,rfl,⟨_,kY.of t2⟩,F2 (K:=K) (a:=ra) (xs:=nV l) (λj σ H'=>∃(kv:List (List iq×V)) (v5:Option V),σ=[some (.ref pp),some (.ref fa),some (.ref kn),some (.int (Qm.nQ s (x::l):Nat)),some (.ref ra),v5]/\(∀b o,H b=some o->b≠kn->H' b=some o)/\H' ra=some (.dC (nV l))/\H' kn=some (.dT kv)/\rB s kv/\
   ∀i z,i< j->l[i]? =some z->(mayPair s x z&&(Qm.nQ s (l.filter λu=>u !=z)+1==Qm.nQ s (x::l)))=false)
   ⟨kv1,none,rfl,λb o e hb=>s2 _ _ (D8 b o e hb),t2,s2 _ _ UQ,N1,λi z hi=>absurd hi (cF _)⟩ (λj σ H' _ ⟨_,_,_,_,z,_⟩=>kY.of z) ?_ ?_⟩
  ·rintro j v σ H3 hv ⟨kv,v5,rfl,k3,t3,B9,N3,hno⟩
   obtain ⟨y,hy,rfl⟩:=nX hv
   have hyl:y∈l:=aw hy
   have zK:y< s.n:=by simpa using Ql.subset hyl
   have R3:=R.Wi xM k3
   obtain ⟨ro,Ur,PL,kW⟩:=R3.get Mv
   refine ⟨_,rfl,_,rfl,_,rfl,fa,_,_,_,rfl,rfl,kY.of (k3 _ _ Ci AD),cg (j:=0) rfl,xI (cE.of R3.a6) PL ⟨ro,_,rfl,.inl (cE.of kW),rfl,tF _,_,rfl,?_⟩⟩
   show if LM (V.int (y:Nat)) (nV (Qm.jA s x))=true then _ else _
   rw [Ew]
   refine gr (λe2=> ?_) (λe2=> ?_)
   ·have hm:mayPair s x y=true:=(Qm.j3.mp (by simpa using e2)).2
    have hfl:(l.filter λz=>z !=y).length< l.length:=Qm.jT hyl
    refine ⟨_,rfl,_,rfl,_,rfl,ra,l,y,rfl,t3,by lia,λH4 p4 s4 AB t4=> ?_⟩
    refine ⟨_,rfl,s,pp,p4,kn,rs,_,kv,rfl,R3.same s4,t4,cK.trans Ql,by lia,s4 _ _ B9,N3,hn,λH5 VI vM D7 N5=> ?_⟩
    have k5:∀b o,H b=some o->b≠kn->H5 b=some o:=λb o e hb=>vM b o (s4 _ _ (k3 b o e hb)) hb
    refine ⟨_,_,rfl,rfl,_,rfl,rfl,_,rfl,?_⟩
    have ed:decide (V.int ((1:Int)+((Qm.nQ s (l.filter λz=>z !=y):Nat):Int))=V.int ((Qm.nQ s (x::l):Nat):Int))=(Qm.nQ s (l.filter λz=>z !=y)+1==Qm.nQ s (x::l)):=by
     rw [show (1:Int)+((Qm.nQ s (l.filter λz=>z !=y):Nat):Int)=((Qm.nQ s (l.filter λz=>z !=y)+1:Nat):Int) by lia,jI]
    rw [ed]
    refine gr (λe3=> ?_) (λe3=> ?_)
    ·refine ⟨_,rfl,?_⟩
     have:=k H5 VI k5 D7 N5
     rw [Qm.Pf hy (by rw [hm,e3];rfl) λi z hi hz=>hno i z hi hz] at this
     exact this
    ·refine ⟨VI,_,rfl,k5,vM _ _ (s4 _ _ t3) (aY GX),D7,N5,λi z hi hz=> ?_⟩
     by_cases e:i=j
     ·subst e
      rw [hy] at hz
      rw [<-Option.some.inj hz,hm,e3]
      rfl
     ·exact hno i z (by lia) hz
   ·refine i0 ⟨kv,_,rfl,k3,t3,B9,N3,λi z hi hz=> ?_⟩
    by_cases e:i=j
    ·subst e
     rw [hy] at hz
     rw [<-Option.some.inj hz]
     have:mayPair s x y=false:=by
      rw [dO]
      intro hm
      rw [cn.mpr (Qm.j3.mpr ⟨zK,hm⟩)] at e2
      cases e2
     rw [this,kf]
    ·exact hno i z (by lia) hz
  ·rintro σ H3 ⟨kv,v5,rfl,k3,t3,B9,N3,hno⟩
   rw [cN] at hno
   have R3:=R.Wi xM k3
   refine ⟨_,rfl,pp,_,rfl,.inl (cE.of R3.a6),?_⟩
   rw [af,R3.len]
   have:=k H3 kv k3 B9 N3
   rw [Qm.OD λi z hz=>hno i z (ae.mp hz).1 hz] at this
   exact this
abbrev jH:Stmt:=iB 71
theorem eI:bt ["partners","alone","row","team","free","known","other"] ["partners"] (aJ jH):=⟨rfl,rfl,rfl,by decide +kernel,rfl,by decide +kernel,by decide +kernel⟩
def Sb:Sp:=λvs H Q _=>∃(s:l9) (pp:Addr) (rs:List Addr),vs=[.ref pp]/\dJ H pp rs (Qm.jA s) s.n/\s.n<=10/\
 ∀(H':Hp) (p:Addr),bB H H'->H p=none->H' p=some (.a6 (nV (Qm.hG s.n (Vbqzak.pairs s))))->Q (.ref p) H'
theorem Ji (l:List Nat) (i x:Nat):(nV l).set i (V.int (x:Nat))=nV (l.set i x):=by
 unfold nV
 rw [uW]
theorem QV (D:Df K mg "told_pairing" jH) (T:Tx K mg G U) (mL:dQ P w K mg base 13 "first_partner" ["partners","free","known"] QO) (iJ:dQ P w K mg base 1 "without" ["teams","left_out"] Lb):dQ P w K mg base 14 "told_pairing" ["partners"] Sb:=by
 obtain ⟨f,fd,M,F⟩:=D
 refine ⟨f,fd,M,F.kp,F.cC (λ_ _ _ _ _ _ us hl=>(match us,hl with|[_],_=>rfl)),F.ok eI (λvs H Q E h=> ?_) (λcdv A bE s H vs Q E hr h=> ?_)⟩
 ·obtain ⟨s,pp,rs,rfl,_⟩:=h
  rfl
 ·obtain ⟨s,pp,rs,rfl,R,hn,k⟩:=h
  refine ⟨_,(ai (bx (i:=1) eI.nd rfl (Or.inr rfl) (bT (fF (K:=K)) (by rfl) T.len bh (aa (pv 0) ah))) (ai (vI (i:=2) rfl eI.nd rfl rfl (yg rfl rfl rfl rfl) (iU:=[("team",3)]) (d3 rfl T.range (aa (pv 1) ah)) (eC (by show nP ["partners","alone","row","team","free","known","other"] (aJ jH) _ _=true;decide +kernel)) (λ_ _ _ _ _=>(cu (i:=3) eI.nd rfl (Or.inl rfl))) (λ_ _ _ _ _=>by exact kJ) (λ_ _ _ _ _=>by exact (pv 1))) (ai (bx (i:=4) eI.nd rfl (Or.inl rfl) (pU (O4 rfl) (by rfl) T.FD pN (aa (pU Kh (by rfl) T.range boot_range (aa (pv 1) ah)) ah))) (ai (bx (i:=5) eI.nd rfl (Or.inl rfl) Co) (ai (l5 aT (yy (K:=K) (pv 4)) (ai (bx (i:=3) eI.nd rfl (Or.inl rfl) (cH (Kb (K:=K)) (pv 4) bc (λ_ _=>rfl))) (ai (bx (i:=6) eI.nd rfl (Or.inl rfl) (bW mL (hr.bY (by decide)) (aa (pv 0) (aa (pv 4) (aa (pv 5) ah))))) (ai (cP (bo mP (pv 6) (pv 1) (bN _)) (ai (vV (pv 6) (wx (pv 2) (pv 3) p6)) (aq (vV (pv 3) (wx (pv 2) (pv 6) p6)))) bF) (aq (bx (i:=4) eI.nd rfl (Or.inl rfl) (bW iJ (hr.bY (by decide)) (aa (rW (Kr (K:=K)) (pv 4) (tu bc) xU) (aa (pv 6) ah))))))))) (aq (aV (pv 2)))))))),?_⟩
  refine ⟨_,rfl,pp,_,rfl,.inl (cE.of R.a6),?_⟩
  rw [af,R.len]
  refine ⟨_,rfl,_,rfl,(by lia),(by lia),λrw UR=> ?_⟩
  refine mf (Pv:=λj H2=>bB H H2/\H2 rw=some (.a6 (nV ((List.range j).map λ_=>s.n)))) ⟨aN UR,aj⟩ ?_ ?_
  ·rintro j H2 hj ⟨s2,iE⟩
   rw [aK] at hj
   refine ⟨rfl,GJ ?_⟩
   refine ⟨_,rfl,_,iE,?_,c6 s2 UR,?_⟩
   ·rw [cN,af,aM]
    exact cv (by lia)
   ·rw [aj,cT,a4,wG]
    rfl
  ·rintro H2 ⟨s2,iE⟩
   rw [aK,<-Qm.HN] at iE
   refine ⟨_,rfl,s.n,rfl,λga pD=> ?_⟩
   refine ⟨ga,s.n,rfl,aj,(by lia),λfa Ci=> ?_⟩
   refine λkn xM=> ?_
   have s3:bB H2 (bG H2 ga (.EU 0 s.n)):=aN pD
   have s4:bB (bG H2 ga (.EU 0 s.n)) (bG (bG H2 ga (.EU 0 s.n)) fa (.dC ((List.range s.n).map λt=>V.int (t:Nat)))):=aN Ci
   have s5:bB (bG (bG H2 ga (.EU 0 s.n)) fa (.dC ((List.range s.n).map λt=>V.int (t:Nat)))) (bG (bG (bG H2 ga (.EU 0 s.n)) fa (.dC ((List.range s.n).map λt=>V.int (t:Nat)))) kn (.dT [])):=aN xM
   have XO:H kn=none:=s2.free (s3.free (s4.free xM))
   have US:=s5 _ _ (aj (H:=bG H2 ga (.EU 0 s.n)) (a:=fa) (o:= .dC (nV (List.range s.n))))
   have MB:=s5 _ _ (s4 _ _ (s3 _ _ iE))
   have D7:bG (bG (bG H2 ga (.EU 0 s.n)) fa (.dC ((List.range s.n).map λt=>V.int (t:Nat)))) kn (.dT []) kn=some (.dT []):=aj
   have My:bB H (bG (bG (bG H2 ga (.EU 0 s.n)) fa (.dC ((List.range s.n).map λt=>V.int (t:Nat)))) kn (.dT [])):=s2.trans (s3.trans (s4.trans s5))
   generalize bG (bG (bG H2 ga (.EU 0 s.n)) fa (.dC ((List.range s.n).map λt=>V.int (t:Nat)))) kn (.dT [])=H5 at US MB D7 My
   have Vu:rw≠kn:=λe=>by rw [e,D7] at MB;cases MB
   clear s3 s4 s5 Ci xM pD s2 iE
   refine ⟨λm σ H'=>∃(acc:List (Nat×Nat)) (l:List Nat) (kvs:List (List iq×V)) (fa:Addr) (v3 v6:Option V),σ=[some (.ref pp),some (.int (s.n:Nat)),some (.ref rw),v3,some (.ref fa),some (.ref kn),v6]/\H' fa=some (.dC (nV l))/\H' kn=some (.dT kvs)/\rB s kvs/\H' rw=some (.a6 (nV (Qm.hG s.n acc)))/\bB H H'/\Qm.j5 s acc l/\m=l.length,
    ⟨s.n,[],List.range s.n,[],fa,none,none,rfl,US,D7,rB.nil s,MB,My,Qm.j5.start s,by rw [aM]⟩,?_⟩
   rintro m σ H6 ⟨acc,l,kvs,fa,v3,v6,rfl,D9,UT,N6,MC,Qn,W,hm⟩
   refine ⟨_,rfl,!l.isEmpty,.inr (.inl ⟨nV l,kY.of D9,(by cases l<;>rfl)⟩),?_⟩
   refine gr (λe1=> ?_) (λe1=> ?_)
   ·obtain ⟨x,l,rfl⟩:∃x l',l=x::l':=by
     cases l with
     |nil=>cases e1
     |cons x l=>exact ⟨x,l,rfl⟩
    have Mv:x< s.n:=by simpa using W.sub.subset (aP (a:=x) (l:=l))
    have MA:l.length< 10:=by
     have:=W.sub.length_le
     rw [aM,aB] at this
     lia
    refine ⟨fun σ H'=>∃(acc:List (Nat×Nat)) (l:List Nat) (kvs:List (List iq×V)) (fa:Addr) (v3 v6:Option V),σ=[some (.ref pp),some (.int (s.n:Nat)),some (.ref rw),v3,some (.ref fa),some (.ref kn),v6]/\H' fa=some (.dC (nV l))/\H' kn=some (.dT kvs)/\rB s kvs/\H' rw=some (.a6 (nV (Qm.hG s.n acc)))/\bB H H'/\Qm.j5 s acc l/\l.length< m,?_,?_⟩
    ·rintro σ' H' ⟨XQ,l',Fy,fa',w3,w6,rfl,h1,h2,h3,h4,h5,h6,h7⟩
     exact ⟨_,h7,XQ,l',Fy,fa',w3,w6,rfl,h1,h2,h3,h4,h5,h6,rfl⟩
    ·refine ⟨_,rfl,fa,_,_,_,rfl,rfl,kY.of D9,cg (j:=0) rfl,?_⟩
     have UM:fa≠kn:=λe=>by rw [e,UT] at D9;cases D9
     have hfr:fa≠rw:=λe=>by rw [e,MC] at D9;cases D9
     refine ⟨_,rfl,_,rfl,_,rfl,s,pp,fa,kn,rs,x,l,kvs,rfl,R.same Qn,D9,W.sub,UT,N6,hn,λH7 YU KI UU N7=> ?_⟩
     have UW:=KI _ _ D9 UM
     have UX:=KI _ _ MC Vu
     have YV:bB H H7:=λb o e=>KI b o (Qn b o e) (az e XO)
     have Vq:l.length< m:=by rw [hm,aB];lia
     refine ⟨_,rfl,_,rfl,rfl,_,rfl,?_⟩
     rw [jI]
     cases ef:Qm.GO s x l with
     |none=>
      rw [show (((none:Option Nat).getD s.n)==s.n)=true from jc _]
      refine i0 ?_
      refine ⟨_,rfl,_,rfl,fa,_,rfl,kY.of UW,u6 x l,λra qc=> ?_⟩
      rw [Me]
      refine ⟨_,rfl,ra,l,s.n,rfl,aj,by lia,λH8 p8 s8 hp8 t8=> ?_⟩
      have el:(l.filter λz=>z !=s.n)=l:=by
       rw [List.filter_eq_self]
       intro z hz
       have:z< s.n:=by simpa using W.sub.subset (aE x hz)
       simp
       lia
      rw [el] at t8
      have XR:bB H7 H8:=(aN qc).trans s8
      exact ⟨acc,l,YU,p8,_,_,rfl,t8,XR _ _ UU,N7,XR _ _ UX,YV.trans XR,W.skip ef,Vq⟩
     |some y=>
      have hyl:=Qm.BI ef
      have zK:y< s.n:=by simpa using W.sub.subset (aE x hyl)
      have XE:x≠y:=λe=>by
       have:=W.nd
       rw [cc,c9] at this
       exact this.2.1.1 (e▸hyl)
      rw [show (((some y:Option Nat).getD s.n)==s.n)=false from bZ.mpr (by show y≠s.n;lia)]
      refine ij ?_
      have vK:x∉Qm.de acc:=W.HX aP
      have wJ:y∉Qm.de acc:=W.HX (aE _ hyl)
      refine ⟨_,rfl,_,rfl,_,rfl,rw,_,_,x,rfl,rfl,UX,sW (by rw [cN,Qm.wH];exact Mv),?_⟩
      rw [show (nV (Qm.hG s.n acc)).set x (V.int (((some y:Option Nat).getD s.n:Nat):Int))=nV ((Qm.hG s.n acc).set x y) from Ji _ _ _]
      refine ⟨_,rfl,_,rfl,_,rfl,rw,_,_,y,rfl,rfl,aj,sW (by rw [cN,gB,Qm.wH];exact zK),?_⟩
      rw [Ji,Qm.EW vK wJ XE,mV]
      have GY:∀b o,H7 b=some o->b≠rw->bG H7 rw (.a6 (nV (Qm.hG s.n (acc++[(x,y)])))) b=some o:=λb o e hb=>by rw [aL hb];exact e
      have UY:bG H7 rw (.a6 (nV (Qm.hG s.n (acc++[(x,y)])))) rw=some (.a6 (nV (Qm.hG s.n (acc++[(x,y)])))):=aj
      generalize bG H7 rw (.a6 (nV (Qm.hG s.n (acc++[(x,y)]))))=H8 at GY UY
      have XS:=GY _ _ UW hfr
      have XT:=GY _ _ UU (aY Vu)
      have s08:bB H H8:=λb o e=>GY b o (YV b o e) (az e UR)
      refine ⟨_,rfl,_,rfl,fa,_,rfl,kY.of XS,u6 x l,λra qc=> ?_⟩
      rw [Me]
      refine ⟨_,rfl,ra,l,y,rfl,aj,by lia,λH9 p9 s9 hp9 t9=> ?_⟩
      have XU:bB H8 H9:=(aN qc).trans s9
      exact ⟨acc++[(x,y)],_,YU,p9,_,_,rfl,t9,XU _ _ XT,N7,XU _ _ UY,s08.trans XU,W.pair ef,gn (bQ _ _) Vq⟩
   ·have:l=[]:=by
     cases l with
     |nil=>rfl
     |cons a b=>cases e1
    subst this
    have e:=W.eq
    rw [Qm.Gd,bR] at e
    rw [<-e] at MC
    exact ⟨_,rfl,k H6 rw Qn UR MC⟩
abbrev pb:Stmt:=iB 86
theorem tZ:bt ["house","row"] ["house"] (aJ pb):=⟨rfl,rfl,rfl,by decide +kernel,rfl,by decide +kernel,by decide +kernel⟩
def MY (G U:Addr):Sp:=λvs H Q _=>∃(h l d:Addr) (as:List Addr) (s:l9) (m:Nat),vs=[.ref h]/\fK G U H h l as s.n s.c s.games/\i4 U H h d s.barred m/\Qm.Ok s/\wK G U h l as H (step s .pairs) Q
theorem Pj (D:Df K mg "call_pairs" pb) (T:Tx K mg G U) (eZ:dQ P w K mg base 5 "partner_rows" ["house"] (K8 G U)) (og:dQ P w K mg base 14 "told_pairing" ["partners"] Sb):dQ P w K mg base 15 "call_pairs" ["house"] (MY G U):=by
 obtain ⟨f,fd,M,F⟩:=D
 refine ⟨f,fd,M,F.kp,F.cC (λ_ _ _ _ _ _ us hl=>(match us,hl with|[_],_=>rfl)),F.ok tZ (λvs H Q E h=> ?_) (λcdv A bE s H vs Q E hr h=> ?_)⟩
 ·obtain ⟨h,l,d,as,s,m,rfl,_⟩:=h
  rfl
 ·obtain ⟨h,l,d,as,s,m,rfl,B,Z,O,k⟩:=h
  refine ⟨_,(ai (bx (i:=1) tZ.nd rfl (Or.inl rfl) (bW og (hr.bY (by decide)) (aa (bW eZ (hr.bY (by decide)) (aa (pv 0) ah)) ah))) (aq (aV (eY sr (cf (aa (eY Bj (eY o6 (cw (K:=K) (pv 0)) (mS (K:=K) aQ j2 pI (F5 (K:=K)) (pv 1) (aa (cw (K:=K) (pv 0)) ah))) bc) ah)) (pv 1))))),?_⟩
  have gM:step s .pairs=(s,whole (Vbqzak.pairs s).length::Vbqzak.ints (Qm.hG s.n (Vbqzak.pairs s))):=rfl
  rw [gM] at k
  refine ⟨_,rfl,h,l,d,as,s,m,rfl,B,Z,O,λH1 p1 rs s1 R1 uM UZ=> ?_⟩
  refine ⟨s,p1,rs,rfl,R1,O.zo,λH2 rw s2 UR t2=> ?_⟩
  have Qo:=s1.trans s2
  obtain ⟨dh,dd,hh⟩:=(B.same Qo).hs
  have hs:cE K H2 rw (nV (Qm.hG s.n (Vbqzak.pairs s))):=cE.of t2
  refine ⟨_,rfl,fI hh T.a7 T.u1 rfl ⟨_,rfl,.inl ⟨rfl,_,hs⟩,_,rfl,fI hh T.a7 T.u1 rfl ⟨rw,_,_,rfl,rfl,hs,rfl,tF _,_,_,rfl,rfl,_,_,rfl,rfl,⟨by decide,by decide⟩,(by show 1<=sizeLine;decide),λp hp=> ?_⟩⟩⟩
  have Mz:rw≠p:=az t2 hp
  refine ⟨_,rfl,p,rw,_,_,rfl,rfl,aj,(by rw [aL Mz];exact t2),(by rw [cN,Qm.wH];have:=O.zo;exact xt (by simp;lia)),λq hq=> ?_⟩
  have jt:bB H (bG H2 p (.a6 [V.int ((((s.n:Nat):Int)-(((nV (Qm.hG s.n (Vbqzak.pairs s))).countP λz=>Cd z (V.int (s.n:Nat)):Nat):Int)) / 2)])):=Qo.trans (aN hp)
  have ec:((nV (Qm.hG s.n (Vbqzak.pairs s))).countP λz=>Cd z (V.int (s.n:Nat)))=(Qm.hG s.n (Vbqzak.pairs s)).countP (λz=>z==s.n):=by
   unfold nV
   rw [jF]
   refine d9 λz _=> ?_
   show (((z:Nat):Int)==((s.n:Nat):Int))=true↔(z==s.n)=true
   rw [cR,cR]
   lia
  have hc:=Qm.DL s
  have e2:((((s.n:Nat):Int)-(((nV (Qm.hG s.n (Vbqzak.pairs s))).countP λz=>Cd z (V.int (s.n:Nat)):Nat):Int)) / 2)=whole (Vbqzak.pairs s).length:=by
   rw [ec]
   unfold whole
   lia
  refine k _ q l as (B.same (jt.trans (aN hq))) (Eb.same (jt.trans (aN hq))) (jt.free hq) ?_
  rw [aj,bA,Fo,<-e2]
  rfl
end
end Qz
end
section
namespace Qm
open Vbqzak
def GP (n r:Nat):List (Nat×Nat):=(r,dummy n-1)::(List.range (dummy n / 2-1)).map λi=>pairOf ((r+(i+1)) % (dummy n-1)) ((r+(dummy n-1)-(i+1)) % (dummy n-1))
def uQ (n r:Nat):List (Nat×Nat):=(List.range 10).flatMap λx=>(GP n r).filter λt=>t.1==x
def Wj (n r:Nat):Bool:=decide ((uQ n r).Perm (GP n r))&&decide ((uQ n r).Pairwise λx y=>x.1< y.1)&&
 decide (((uQ n r).filter λt=>t.2 !=n)=byFirst n (roundPairs n r))&&decide ((((uQ n r).filter λt=>t.2==n).map (·.1)).getLast? =rests n r)&&decide ((GP n r).length<=5)&&(GP n r).all λt=>decide (t.1< 10)&&decide (t.2< 10)
theorem LI:(List.range 11).all (λn=>(List.range 9).all λr=>n< 2||dummy n-1<=r||Wj n r)=true:=by decide +kernel
theorem Pa {n r:Nat} (h1:2<=n) (h2:n<=10) (h3:r< dummy n-1):Wj n r=true:=by
 have hd:dummy n<=10:=by unfold dummy;lia
 have h:=dE.mp LI n (cQ.mpr (by lia))
 have h:=dE.mp h r (cQ.mpr (by lia))
 have e1:decide (n< 2)=false:=a8 (by lia)
 have e2:decide (dummy n-1<=r)=false:=a8 (by lia)
 rw [e1,e2] at h
 simpa using h
structure Jt (n r:Nat):Prop where
 perm:(uQ n r).Perm (GP n r)
 QZ:(uQ n r).Pairwise λx y=>x.1< y.1
 told:((uQ n r).filter λt=>t.2 !=n)=byFirst n (roundPairs n r)
 jv:(((uQ n r).filter λt=>t.2==n).map (·.1)).getLast? =rests n r
 len:(GP n r).length<=5
 sm:∀t∈GP n r,t.1< 10/\t.2< 10
theorem Jt.Wq {n r:Nat} (h1:2<=n) (h2:n<=10) (h3:r< dummy n-1):Jt n r:=by
 have h:=Pa h1 h2 h3
 unfold Wj at h
 simp only [aR,cJ,dE] at h
 obtain ⟨⟨⟨⟨⟨a,b⟩,c⟩,d⟩,e⟩,f⟩:=h
 exact ⟨a,b,c,d,e,λt ht=>f t ht⟩
end Qm
end
section
namespace Qz
open PySem PySem.Spec PyProof.Rows L2
open Vbqzak (step whole dummy pairOf inside no)
structure we (H:Hp) (p:Addr) (ads:List Addr) (L:List (Nat×Nat)):Prop where
 len:ads.length=L.length
 a6:H p=some (.a6 (ads.map V.ref))
 row:∀(i:Nat) (a:Addr) (t:Nat×Nat),ads[i]? =some a->L[i]? =some t->H a=some (.dC [.int (t.1:Nat),.int (t.2:Nat)])
theorem we.snoc {H H':Hp} {p:Addr} {ads:List Addr} {L:List (Nat×Nat)} {a:Addr} {r:Nat×Nat} (A:we H p ads L) (s:bB H H') (ha:H' a=some (.dC [.int (r.1:Nat),.int (r.2:Nat)])):we (bG H' p (.a6 (ads.map V.ref++[V.ref a]))) p (ads++[a]) (L++[r]) where
 len:=by rw [ao,ao,A.len];rfl
 a6:=by rw [aj,a4];rfl
 row:=λu b q hb hq=>by
  have HX:∀c t,H' c=some (.dC t)->c≠p:=λc t e z=>by
   rw [z,s _ _ A.a6] at e
   cases e
  by_cases e:u< ads.length
  ·rw [bP e] at hb
   rw [bP (by rw [<-A.len];exact e)] at hq
   have h1:=s _ _ (A.row u b q hb hq)
   rw [aL (HX _ _ h1)]
   exact h1
  ·rw [bJ (by lia)] at hb
   rw [bJ (by rw [<-A.len];lia)] at hq
   have hu:u-ads.length=0:=by
    have:=(ae.mp hb).1
    simp at this
    lia
   rw [<-A.len] at hq
   rw [hu] at hb hq
   have hb:a=b:=Option.some.inj hb
   have hq:r=q:=Option.some.inj hq
   subst hb hq
   rw [aL (HX _ _ ha),ha]
def r8 (H:Hp) (a:Addr):Nat×Nat:=match H a with
 |some (.dC [.int x,.int y])=>(x.toNat,y.toNat)
 |_=>(0,0)
theorem Gg {H:Hp} {a:Addr} {t:Nat×Nat} (h:H a=some (.dC [.int (t.1:Nat),.int (t.2:Nat)])):r8 H a=t:=by
 unfold r8
 rw [h]
 rfl
theorem we.ct {H:Hp} {p:Addr} {ads:List Addr} {L:List (Nat×Nat)} (A:we H p ads L):ads.map (r8 H)=L:=by
 apply bS
 intro i
 rw [ay]
 cases e:ads[i]? with
 |none=>
  have h1:=dj.mp e
  rw [bq (by rw [<-A.len];exact h1)]
  rfl
 |some a=>
  have hl:i< L.length:=by rw [<-A.len];exact (ae.mp e).1
  rw [ab hl]
  show some (r8 H a)=_
  rw [Gg (A.row i a _ e (ab hl))]
theorem we.of {H:Hp} {p:Addr} {ads:List Addr} {L:List (Nat×Nat)} (h1:H p=some (.a6 (ads.map V.ref))) (h2:ads.map (r8 H)=L) (h3:∀a∈ads,H a=some (.dC [.int ((r8 H a).1:Nat),.int ((r8 H a).2:Nat)])):we H p ads L where
 len:=by rw [<-h2,af]
 a6:=h1
 row:=λi a t ha ht=>by
  rw [<-h2,ay,ha] at ht
  have ht:r8 H a=t:=Option.some.inj ht
  rw [<-ht]
  exact h3 a (aw ha)
theorem we.OX {H:Hp} {p:Addr} {ads:List Addr} {L:List (Nat×Nat)} (A:we H p ads L) {a:Addr} (ha:a∈ads):H a=some (.dC [.int ((r8 H a).1:Nat),.int ((r8 H a).2:Nat)]):=by
 obtain ⟨i,hi⟩:=a9.mp ha
 have hl:i< L.length:=by rw [<-A.len];exact (ae.mp hi).1
 have h:=A.row i a _ hi (ab hl)
 rw [Gg h]
 exact h
theorem LU {r a t:Nat} (ha:a<=t) (hr:r< t):(((r:Nat):Int)-((a:Nat):Int)) % ((t:Nat):Int)=(((r+t-a) % t:Nat):Int):=by
 rw [Int.natCast_emod,show (((r+t-a:Nat):Nat):Int)=((r:Nat):Int)-((a:Nat):Int)+(t:Nat) by lia,Int.add_emod_right]
section
variable {P:Program} {w:World} {K:PySem.W.Frag} {mg:Str->Option Value} {base:Heap} {G U:Addr}
abbrev vR:Stmt:=iB 80
theorem Ih:bt ["teams"] ["teams"] (aJ vR):=⟨rfl,rfl,rfl,by decide +kernel,rfl,by decide +kernel,by decide +kernel⟩
def OC:Sp:=λvs H Q _=>∃n:Nat,vs=[.int n]/\Q (.int (dummy n:Nat)) H
theorem QL (D:Df K mg "places" vR) (T:Tx K mg G U):dQ P w K mg base 1 "places" ["teams"] OC:=by
 obtain ⟨f,fd,M,F⟩:=D
 refine ⟨f,fd,M,F.kp,F.cC (λ_ _ _ _ _ _ us hl=>(match us,hl with|[_],_=>rfl)),F.ok Ih (λvs H Q E h=> ?_) (λcdv A bE s H vs Q E hr h=> ?_)⟩
 ·obtain ⟨n,rfl,_⟩:=h
  rfl
 ·obtain ⟨n,rfl,k⟩:=h
  refine ⟨_,(aq (aV (eY lA (pv 0) (eY AV (pv 0) bc)))),?_⟩
  refine ⟨_,rfl,_,rfl,_,_,rfl,rfl,(by show (0:Int)< 2;decide),_,_,rfl,rfl,?_⟩
  show Q (V.int (((n:Nat):Int)+((n:Nat):Int) % 2)) H
  have e:((n:Nat):Int)+((n:Nat):Int) % 2=((dummy n:Nat):Int):=by unfold dummy;lia
  rw [e]
  exact k
abbrev nU:Stmt:=iB 81
theorem g5:bt ["teams","number","turning","pairs","apart","one","other"] ["teams","number"] (aJ nU):=⟨rfl,rfl,rfl,by decide +kernel,rfl,by decide +kernel,by decide +kernel⟩
def Rt:Sp:=λvs H Q _=>∃(n r:Nat),vs=[.int n,.int r]/\2<=n/\n<=10/\r< dummy n-1/\
 ∀(H':Hp) (p:Addr) (ads:List Addr),bB H H'->we H' p ads (Qm.uQ n r)->H p=none->Q (.ref p) H'
theorem RK (D:Df K mg "round_pairs" nU) (T:Tx K mg G U) (oh:dQ P w K mg base 1 "places" ["teams"] OC):dQ P w K mg base 2 "round_pairs" ["teams","number"] Rt:=by
 obtain ⟨f,fd,M,F⟩:=D
 refine ⟨f,fd,M,F.kp,F.cC (λ_ _ _ _ _ _ us hl=>(match us,hl with|[_,_],_=>rfl)),F.ok g5 (λvs H Q E h=> ?_) (λcdv A bE s H vs Q E hr h=> ?_)⟩
 ·obtain ⟨n,r,rfl,_⟩:=h
  rfl
 ·obtain ⟨n,r,rfl,h1,h2,h3,k⟩:=h
  have Ok:=Qm.Jt.Wq h1 h2 h3
  have a0b:dummy n<=10:=by unfold dummy;lia
  have hd2:2<=dummy n:=by unfold dummy;lia
  refine ⟨_,(ai (bx (i:=2) g5.nd rfl (Or.inl rfl) (eY o6 (bW oh (hr.bY (by decide)) (aa (pv 0) ah)) bc)) (ai (bx (i:=3) g5.nd rfl (Or.inl rfl) (cf (aa (kM (aa (pv 1) (aa (pv 2) ah))) ah))) (ai (d8 aT rfl (z8 rfl T.range (aa bc (aa (eY Bj (bW oh (hr.bY (by decide)) (aa (pv 0) ah)) bc) ah))) (cu (i:=4) g5.nd rfl (Or.inl rfl)) (ai (bx (i:=5) g5.nd rfl (Or.inl rfl) (eY AV (eY lA (pv 1) (pv 4)) (pv 2))) (ai (bx (i:=6) g5.nd rfl (Or.inl rfl) (eY AV (eY o6 (pv 1) (pv 4)) (pv 2))) (aq (dS (mS (K:=K) aQ bL bM fe (pv 3) (aa (kM (aa (bT (wB rfl) (by rfl) T.FK iO (aa (pv 5) (aa (pv 6) ah))) (aa (bT (sZ rfl) (by rfl) T.Dg gq (aa (pv 5) (aa (pv 6) ah))) ah))) ah))))))) (aq (aV (bT (G4 (K:=K)) (by rfl) T.sf fA (aa (pv 3) ah))))))),?_⟩
  refine ⟨_,rfl,n,rfl,_,_,rfl,rfl,?_⟩
  show tR 2 (V.int (((dummy n:Nat):Int)-1)) _ _ _
  rw [show ((dummy n:Nat):Int)-1=((dummy n-1:Nat):Int) by lia]
  refine ⟨_,rfl,_,rfl,(by show 2<=sizeLine;decide),λt0 Qj=>⟨(by show 1<=sizeLine;decide),λpa Iv=> ?_⟩⟩
  have s1:bB H (bG H t0 (.dC [.int (r:Nat),.int ((dummy n-1:Nat):Nat)])):=aN Qj
  have t1:bG H t0 (.dC [.int (r:Nat),.int ((dummy n-1:Nat):Nat)]) t0=some (.dC [.int (r:Nat),.int ((dummy n-1:Nat):Nat)]):=aj
  generalize bG H t0 (.dC [.int (r:Nat),.int ((dummy n-1:Nat):Nat)])=H1 at s1 t1 Iv
  have s2:bB H1 (bG H1 pa (.a6 [V.ref t0])):=aN Iv
  have t2:bG H1 pa (.a6 [V.ref t0]) pa=some (.a6 [V.ref t0]):=aj
  generalize bG H1 pa (.a6 [V.ref t0])=H2 at s2 t2
  have PM:=s1.free Iv
  have A2:we H2 pa [t0] ((Qm.GP n r).take 1):=⟨rfl,t2,λi a t ha ht=>by
   match i,ha,ht with
   |0,ha,ht=>
    have ha:t0=a:=by simpa using ha
    have ht:(r,dummy n-1)=t:=by simpa [Qm.GP] using ht
    rw [<-ha,<-ht]
    exact s2 _ _ t1
   |i+1,ha,_=>simp at ha⟩
  refine ⟨_,rfl,n,rfl,_,_,rfl,rfl,⟨by decide,by decide⟩,_,_,rfl,⟨by lia,by lia,by lia,by lia⟩,?_⟩
  have el:((((dummy n:Nat):Int) / 2)-1).toNat=dummy n / 2-1:=by lia
  rw [el]
  refine fP (Pv:=λi σ H'=>∃(ads:List Addr) (v4 v5 v6:Option V),σ=[some (.int (n:Nat)),some (.int (r:Nat)),some (.int ((dummy n-1:Nat):Nat)),some (.ref pa),v4,v5,v6]/\bB H H'/\we H' pa ads ((Qm.GP n r).take (i+1))) ⟨[t0],none,none,none,rfl,s1.trans s2,A2⟩ ?_ ?_
  ·rintro i σ H3 hi ⟨ads,v4,v5,v6,rfl,s3,A3⟩
   have e1:(((r:Nat):Int)+(1+((i:Nat):Int))) % ((dummy n-1:Nat):Int)=(((r+(i+1)) % (dummy n-1):Nat):Int):=by
    rw [Int.natCast_emod]
    congr 1
    lia
   have e2:(((r:Nat):Int)-(1+((i:Nat):Int))) % ((dummy n-1:Nat):Int)=(((r+(dummy n-1)-(i+1)) % (dummy n-1):Nat):Int):=by
    have:=LU (r:=r) (a:=i+1) (t:=dummy n-1) (by lia) (by lia)
    rw [<-this]
    congr 1
    lia
   refine ⟨_,rfl,_,rfl,_,_,rfl,rfl,_,rfl,_,_,rfl,rfl,(by show (0:Int)< ((dummy n-1:Nat):Int);lia),?_⟩
   show tR 5 (V.int ((((r:Nat):Int)+(1+((i:Nat):Int))) % ((dummy n-1:Nat):Int))) _ _ _
   rw [e1]
   refine ⟨_,rfl,_,rfl,_,_,rfl,rfl,_,rfl,_,_,rfl,rfl,(by show (0:Int)< ((dummy n-1:Nat):Int);lia),?_⟩
   show tR 6 (V.int ((((r:Nat):Int)-(1+((i:Nat):Int))) % ((dummy n-1:Nat):Int))) _ _ _
   rw [e2]
   refine ⟨_,rfl,.inl ⟨rfl,_,cE.of A3.a6⟩,_,rfl,_,rfl,_,_,rfl,_,rfl,_,rfl,_,_,rfl,(by show 2<=sizeLine;decide),λt4 Fz=> ?_⟩
   rw [mm]
   have s4:bB H3 (bG H3 t4 (.dC ((k2 (pairOf ((r+(i+1)) % (dummy n-1)) ((r+(dummy n-1)-(i+1)) % (dummy n-1))).1 (pairOf ((r+(i+1)) % (dummy n-1)) ((r+(dummy n-1)-(i+1)) % (dummy n-1))).2).map kV))):=aN Fz
   have YW:=aj (H:=H3) (a:=t4) (o:= .dC ((k2 (pairOf ((r+(i+1)) % (dummy n-1)) ((r+(dummy n-1)-(i+1)) % (dummy n-1))).1 (pairOf ((r+(i+1)) % (dummy n-1)) ((r+(dummy n-1)-(i+1)) % (dummy n-1))).2).map kV))
   generalize bG H3 t4 (.dC ((k2 (pairOf ((r+(i+1)) % (dummy n-1)) ((r+(dummy n-1)-(i+1)) % (dummy n-1))).1 (pairOf ((r+(i+1)) % (dummy n-1)) ((r+(dummy n-1)-(i+1)) % (dummy n-1))).2).map kV))=H4 at s4 YW
   have hal:ads.length<=5:=by
    have:=Ok.len
    rw [A3.len,bf]
    lia
   refine ⟨pa,_,_,rfl,rfl,s4 _ _ A3.a6,(by rw [af];exact cv (by lia)),?_⟩
   refine ⟨ads++[t4],_,_,_,rfl,c6 (s3.trans s4) PM,?_⟩
   have eg:(Qm.GP n r)[i+1]? =some (pairOf ((r+(i+1)) % (dummy n-1)) ((r+(dummy n-1)-(i+1)) % (dummy n-1))):=by
    unfold Qm.GP
    rw [pH,ay,b9 hi]
    rfl
   rw [c4 eg]
   exact A3.snoc s4 YW
  ·rintro σ H3 ⟨ads,v4,v5,v6,rfl,s3,A3⟩
   have XW:(Qm.GP n r).length=dummy n / 2-1+1:=by
    unfold Qm.GP
    rw [aB,af,aM]
   rw [<-XW,bu] at A3
   have hal:ads.length<=5:=by rw [A3.len];exact Ok.len
   refine ⟨_,rfl,pa,ads,r8 H3,rfl,cE.of A3.a6,by lia,λb hb=>A3.OX hb,λads' p Az hpw hp=> ?_⟩
   have same:∀a∈ads',bG H3 p (.a6 (ads'.map V.ref)) a=H3 a:=λa ha=>aL (az (A3.OX (Az.mem_iff.mp ha)) hp)
   have ct:∀a∈ads',r8 (bG H3 p (.a6 (ads'.map V.ref))) a=r8 H3 a:=λa ha=>by unfold r8;rw [same a ha]
   have e:ads'.map (r8 H3)=Qm.uQ n r:=by
    have uM:(ads'.map (r8 H3)).Perm (Qm.uQ n r):=by
     have:=Az.map (r8 H3)
     rw [A3.ct] at this
     exact this.trans Ok.perm.symm
    refine fz (le:=λx y:Nat×Nat=>x.1<=y.1) (λa b ha hb h1 h2=> ?_) ?_ (Ok.QZ.imp λh=>dM h) uM
    ·have ha2:=uM.mem_iff.mp ha
     obtain ⟨i,hi⟩:=a9.mp ha2
     obtain ⟨j,hj⟩:=a9.mp hb
     obtain ⟨hi1,hi2⟩:=ae.mp hi
     obtain ⟨YX,XX⟩:=ae.mp hj
     have pw:=fg.mp Ok.QZ
     by_cases hij:i=j
     ·subst hij
      rw [<-hi2,<-XX]
     ·exfalso
      rcases Nat.lt_or_gt_of_ne hij with hlt|hlt
      ·have:=pw i j hi1 YX hlt
       rw [hi2,XX] at this
       lia
      ·have:=pw j i YX hi1 hlt
       rw [hi2,XX] at this
       lia
    ·rw [eV]
     exact hpw
   refine k _ p ads' ((s3).trans (aN hp)) (we.of aj ?_ λa ha=> ?_) (s3.free hp)
   ·rw [<-e]
    exact e9 ct
   ·rw [ct a ha,same a ha]
    exact A3.OX (Az.mem_iff.mp ha)
abbrev o1:Stmt:=iB 82
theorem jB:bt ["teams","number","told","resting","pair"] ["teams","number"] (aJ o1):=⟨rfl,rfl,rfl,by decide +kernel,rfl,by decide +kernel,by decide +kernel⟩
def nR (n:Nat) (L:List (Nat×Nat)):List V:=(L.filter λt=>t.2 !=n).flatMap λt=>[V.int (t.1:Nat),V.int (t.2:Nat)]
def qx (n:Nat) (L:List (Nat×Nat)):Option Nat:=((L.filter λt=>t.2==n).map (·.1)).getLast?
theorem yk (n:Nat) (L:List (Nat×Nat)):(nR n L).length<=2*L.length:=by
 unfold nR
 induction L with
 |nil=>simp
 |cons t L ih=>
  by_cases h:(t.2 !=n)=true
  ·rw [aS (p:=λt:Nat×Nat=>t.2 !=n) h,da,ao,aB]
   show 2+_<=2*(L.length+1)
   lia
  ·rw [aO (p:=λt:Nat×Nat=>t.2 !=n) h,aB]
   lia
def RG:Sp:=λvs H Q _=>∃(n r:Nat),vs=[.int n,.int r]/\2<=n/\n<=10/\r< dummy n-1/\
 ∀(H':Hp) (p:Addr),bB H H'->H p=none->H' p=some (.a6 (nR n (Qm.uQ n r)++[V.int (pk (qx n (Qm.uQ n r)))]))->Q (.ref p) H'
theorem SD (D:Df K mg "round_told" o1) (T:Tx K mg G U) (pB:dQ P w K mg base 2 "round_pairs" ["teams","number"] Rt):dQ P w K mg base 3 "round_told" ["teams","number"] RG:=by
 obtain ⟨f,fd,M,F⟩:=D
 refine ⟨f,fd,M,F.kp,F.cC (λ_ _ _ _ _ _ us hl=>(match us,hl with|[_,_],_=>rfl)),F.ok jB (λvs H Q E h=> ?_) (λcdv A bE s H vs Q E hr h=> ?_)⟩
 ·obtain ⟨n,r,rfl,_⟩:=h
  rfl
 ·obtain ⟨n,r,rfl,h1,h2,h3,k⟩:=h
  have Ok:=Qm.Jt.Wq h1 h2 h3
  have hlen:(Qm.uQ n r).length<=5:=by rw [Ok.perm.length_eq];exact Ok.len
  refine ⟨_,(ai (bx (i:=2) jB.nd rfl (Or.inl rfl) (cf ah)) (ai (bx (i:=3) jB.nd rfl (Or.inl rfl) (dr T.Jk)) (ai (d8 aT rfl (fo (K:=K) (bW pB (hr.bY (by decide)) (aa (pv 0) (aa (pv 1) ah)))) (cu (i:=4) jB.nd rfl (Or.inl rfl)) (aq (cP (bo dU (cH (Kb (K:=K)) (pv 4) bc (λ_ _=>rfl)) (pv 0) (bN _)) (aq (bx (i:=3) jB.nd rfl (Or.inl rfl) (cH (Kb (K:=K)) (pv 4) bc (λ_ _=>rfl)))) (aq (dS (mS (K:=K) aQ gO gP tj (pv 2) (aa (pU (Kg (K:=K)) (by rfl) T.Po PyProof.Rows.boot_list (aa (pv 4) ah)) ah))))))) (aq (aV (eY sr (pv 2) (cf (aa (pv 3) ah)))))))),?_⟩
  refine ⟨bD _,λta Cj=> ?_⟩
  have s1:bB H (bG H ta (.a6 [])):=aN Cj
  have t1:bG H ta (.a6 []) ta=some (.a6 []):=aj
  generalize bG H ta (.a6 [])=H1 at s1 t1
  refine ⟨_,rfl,_,rfl,n,r,rfl,h1,h2,h3,λH2 p2 ads s2 A2 hp2=> ?_⟩
  have t2:=s2 _ _ t1
  have hpt:p2≠ta:=λe=>by rw [e,t1] at hp2;cases hp2
  refine ⟨p2,rfl,⟨_,cE.of A2.a6⟩,fY (K:=K) (a:=p2) (xs:=ads.map V.ref) (λj σ H'=>∃v4:Option V,σ=[some (.int (n:Nat)),some (.int (r:Nat)),some (.ref ta),some (.int (pk (qx n ((Qm.uQ n r).take j)))),v4]/\(∀b o,H2 b=some o->b≠ta->H' b=some o)/\H' ta=some (.a6 (nR n ((Qm.uQ n r).take j))))
   ⟨none,rfl,λb o e _=>e,t2⟩ (λj σ H' _ ⟨_,_,z,_⟩=>cE.of (z _ _ A2.a6 hpt)) ?_ ?_⟩
  ·rintro j x σ H3 hx ⟨v4,rfl,k3,t3⟩
   rw [ay] at hx
   cases ea:ads[j]? with
   |none=>rw [ea] at hx;cases hx
   |some a=>
    rw [ea] at hx
    have hx:V.ref a=x:=Option.some.inj hx
    subst hx
    have hjl:j< (Qm.uQ n r).length:=by rw [<-A2.len];exact (ae.mp ea).1
    have Qp:(Qm.uQ n r)[j]? =some (Qm.uQ n r)[j]:=ab hjl
    generalize (Qm.uQ n r)[j]=t at Qp
    have KJ:=A2.row j a t ea Qp
    have hat:a≠ta:=λe=>by rw [e,t2] at KJ;cases KJ
    have kW:=k3 _ _ KJ hat
    refine ⟨_,rfl,a,_,_,_,rfl,rfl,kY.of kW,cg (j:=1) rfl,_,rfl,rfl,_,rfl,?_⟩
    rw [jI]
    refine gr (λe1=> ?_) (λe1=> ?_)
    ·refine ⟨_,rfl,a,_,_,_,rfl,rfl,kY.of kW,cg (j:=0) rfl,some (.ref a),?_,k3,?_⟩
     ·have:qx n ((Qm.uQ n r).take (j+1))=some t.1:=by
       unfold qx
       rw [c4 Qp,cj,aS (p:=λt:Nat×Nat=>t.2==n) e1,eE,a4]
       simp
      rw [this]
      rfl
     ·have:nR n ((Qm.uQ n r).take (j+1))=nR n ((Qm.uQ n r).take j):=by
       unfold nR
       rw [c4 Qp,cj,aO (p:=λt:Nat×Nat=>t.2 !=n) (by simpa using e1),eE,bR]
      rw [this]
      exact t3
    ·refine ⟨_,rfl,.inl ⟨rfl,_,cE.of t3⟩,_,rfl,a,_,rfl,.inr (kY.of kW),λq hq=> ?_⟩
     have XY:ta≠q:=az t3 hq
     have hlt:=yk n ((Qm.uQ n r).take j)
     rw [bf] at hlt
     refine ⟨ta,q,_,_,rfl,rfl,(by rw [aL XY];exact t3),aj,xt (by simp;lia),some (.ref a),?_,λb o e hb=> ?_,?_⟩
     ·have:qx n ((Qm.uQ n r).take (j+1))=qx n ((Qm.uQ n r).take j):=by
       unfold qx
       rw [c4 Qp,cj,aO (p:=λt:Nat×Nat=>t.2==n) (by rw [e1];simp),eE,bR]
      rw [this]
      rfl
     ·rw [aL hb,aL (az (k3 b o e hb) hq)]
      exact k3 b o e hb
     ·rw [aj]
      have:nR n ((Qm.uQ n r).take (j+1))=nR n ((Qm.uQ n r).take j)++[V.int (t.1:Nat),V.int (t.2:Nat)]:=by
       unfold nR
       rw [c4 Qp,cj,aS (p:=λt:Nat×Nat=>t.2 !=n) (by simpa using e1),eE,dw]
       simp
      rw [this]
  ·rintro σ H3 ⟨v4,rfl,k3,t3⟩
   rw [af,A2.len,bu] at t3
   rw [af,A2.len,bu]
   have hl:=yk n (Qm.uQ n r)
   refine ⟨_,rfl,_,rfl,(by show 1<=sizeLine;decide),λq hq=> ?_⟩
   have XY:ta≠q:=az t3 hq
   refine ⟨ta,q,_,_,rfl,rfl,(by rw [aL XY];exact t3),aj,xt (by simp;lia),λp hp=> ?_⟩
   have jt:bB H H3:=λb o e=>k3 b o (s2 _ _ (s1 b o e)) (az e Cj)
   have IG:=jt.trans (aN (x:= .a6 [V.int (pk (qx n (Qm.uQ n r)))]) hq)
   exact k _ p (IG.trans (aN hp)) (IG.free hp) aj
abbrev pz:Stmt:=iB 90
theorem tU:bt ["house","number","refused"] ["house","number"] (aJ pz):=⟨rfl,rfl,rfl,by decide +kernel,rfl,by decide +kernel,by decide +kernel⟩
def M4 (G U:Addr):Sp:=λvs H Q _=>∃(h l:Addr) (as:List Addr) (s:l9) (r:Int),vs=[.ref h,.int r]/\fK G U H h l as s.n s.c s.games/\Qm.Ok s/\wK G U h l as H (step s (.round r)) Q
theorem Pg (D:Df K mg "call_round" pz) (T:Tx K mg G U) (du:NV P w K mg base) (oh:dQ P w K mg base 1 "places" ["teams"] OC) (qT:dQ P w K mg base 3 "round_told" ["teams","number"] RG):dQ P w K mg base 4 "call_round" ["house","number"] (M4 G U):=by
 obtain ⟨f,fd,M,F⟩:=D
 refine ⟨f,fd,M,F.kp,F.cC (λ_ _ _ _ _ _ us hl=>(match us,hl with|[_,_],_=>rfl)),F.ok tU (λvs H Q E h=> ?_) (λcdv A bE s H vs Q E hr h=> ?_)⟩
 ·obtain ⟨h,l,as,s,r,rfl,_⟩:=h
  rfl
 ·obtain ⟨h,l,as,s,r,rfl,B,O,k⟩:=h
  have n2:=O.n2
  have zo:=O.zo
  refine ⟨_,(ai (bx (i:=2) tU.nd rfl (Or.inl rfl) (bW du (hr.bY (by decide)) (aa (cf (aa (kM (aa (pv 1) (aa (dr T.zu) (aa (eY o6 (bW oh (hr.bY (by decide)) (aa (cw (K:=K) (pv 0)) ah)) bc) ah)))) ah)) ah))) (ai (cP (bo mP (pv 2) (dr T.mE) (bN _)) (aq (aV (cf (aa (pv 2) ah)))) bF) (aq (aV (bW qT (hr.bY (by decide)) (aa (cw (K:=K) (pv 0)) (aa (pv 1) ah))))))),?_⟩
  have gM:step s (.round r)=if inside r 0 8=false then no s (-1) else if whole (dummy s.n)-1<=r then no s (-4) else (s,((Vbqzak.byFirst s.n (Vbqzak.roundPairs s.n r.toNat)).flatMap λt=>Vbqzak.ints [t.1,t.2])++[Vbqzak.orMinus (Vbqzak.rests s.n r.toNat)]):=rfl
  rw [i3] at gM
  obtain ⟨dh,dd,hh⟩:=B.hs
  refine ⟨_,rfl,_,rfl,fI hh T.a7 T.u1 rfl ⟨s.n,rfl,_,_,rfl,rfl,(by show 3<=sizeLine;decide),λp1 uM=> ?_⟩⟩
  have s1:bB H (bG H p1 (.dC [.int r,.int 9,.int (((dummy s.n:Nat):Int)-1)])):=aN uM
  have t1:bG H p1 (.dC [.int r,.int 9,.int (((dummy s.n:Nat):Int)-1)]) p1=some (.dC [.int r,.int 9,.int (((dummy s.n:Nat):Int)-1)]):=aj
  generalize bG H p1 (.dC [.int r,.int 9,.int (((dummy s.n:Nat):Int)-1)])=H1 at s1 t1
  refine ⟨(by show 1<=sizeLine;decide),λp3 BZ=> ?_⟩
  have s3:bB H1 (bG H1 p3 (.a6 [.ref p1])):=aN BZ
  have t3:bG H1 p3 (.a6 [.ref p1]) p3=some (.a6 [.ref p1]):=aj
  generalize bG H1 p3 (.a6 [.ref p1])=H3 at s3 t3
  have jt:bB H H3:=s1.trans s3
  refine ⟨p3,[p1],[(r,9,((dummy s.n:Nat):Int)-1)],rfl,t3,rfl,Od (x1:=(r,9,((dummy s.n:Nat):Int)-1)) (s3 _ _ t1),?_⟩
  rw [Wt]
  refine ⟨_,rfl,rfl,_,rfl,?_⟩
  by_cases h1:r< 0\/9<=r
  ·rw [aA h1]
   rw [a8 (by lia),aA rfl] at gM
   rw [gM] at k
   exact ij ⟨_,rfl,(by show 1<=sizeLine;decide),λp hp=>k.ir B jt hp⟩
  rw [au h1]
  rw [aW (by lia),au (by simp)] at gM
  by_cases h2:((dummy s.n:Nat):Int)-1<=r
  ·rw [aA h2]
   rw [aA (by unfold whole;exact h2)] at gM
   rw [gM] at k
   exact ij ⟨_,rfl,(by show 1<=sizeLine;decide),λp hp=>k.ir B jt hp⟩
  rw [au h2]
  rw [au (by unfold whole;exact h2)] at gM
  rw [gM] at k
  refine i0 ?_
  have B3:=B.same jt
  obtain ⟨Vw,Vx,hh3⟩:=B3.hs
  have hrd:r.toNat< dummy s.n-1:=by lia
  have Ok:=Qm.Jt.Wq n2 zo hrd
  refine ⟨_,rfl,fI hh3 T.a7 T.u1 rfl ⟨_,rfl,s.n,r.toNat,(by rw [cM (by lia)];rfl),n2,zo,hrd,λH4 p4 s4 AB t4=> ?_⟩⟩
  have IG:=jt.trans s4
  refine k H4 p4 l as (B.same IG) (Eb.same IG) (jt.free AB) ?_
  rw [t4,a4]
  unfold nR qx
  rw [Ok.told,Ok.jv,lh]
  have:pk (Vbqzak.rests s.n r.toNat)=Vbqzak.orMinus (Vbqzak.rests s.n r.toNat):=by cases Vbqzak.rests s.n r.toNat<;>rfl
  rw [this]
  rfl
end
end Qz
end
section
namespace Qm
open Vbqzak
section
variable {s:State} {R:List Nat} {st:Nat} {X:Nat->Prop}
structure Cf (n:Nat) (pl:List Bool) (X:Nat->Prop):Prop where
 len:pl.length=n
 vO:∀x,x< n->(pl[x]? =some true↔X x)
theorem Cf.GJ {n:Nat} {pl:List Bool} (P:Cf n pl X) {x:Nat} (hx:x< n) (h:X x):pl[x]? =some true:=(P.vO x hx).mpr h
theorem Cf.no {n:Nat} {pl:List Bool} (P:Cf n pl X) {x:Nat} (hx:x< n) (h:¬X x):pl[x]? =some false:=by
 have hl:x< pl.length:=by rw [P.len];exact hx
 rw [ab hl]
 cases e:pl[x] with
 |false=>rfl
 |true=>exact absurd ((P.vO x hx).mp (by rw [ab hl,e])) h
theorem Cf.set {n:Nat} {pl:List Bool} (P:Cf n pl X) {z:Nat} (hz:z< n):Cf n (pl.set z true) (λx=>X x\/x=z) where
 len:=by rw [gB];exact P.len
 vO:=λx hx=>by
  rw [oE]
  by_cases e:z=x
  ·subst e
   rw [aA rfl,aA (by rw [P.len];exact hz)]
   simp
  ·rw [au e,P.vO x hx]
   constructor
   ·exact .inl
   ·rintro (h|h)
    ·exact h
    ·exact absurd h.symm e
theorem Cf.Tv {n:Nat} {pl:List Bool} (P:Cf n pl X) {Y:Nat->Prop} (h:∀x,x< n->(X x↔Y x)):Cf n pl Y:=⟨P.len,λx hx=>(P.vO x hx).trans (h x hx)⟩
def LQ (pl:List Bool):Nat:=pl.countP λb=> !b
theorem Gk:∀{pl:List Bool} {z:Nat},pl[z]? =some false->LQ (pl.set z true)+1=LQ pl
 |[],z,h=>by simp at h
 |b::pl,0,h=>by
  have:b=false:=by simpa using h
  subst this
  unfold LQ
  rw [nh,c8,c8]
  simp
 |b::pl,z+1,h=>by
  have ih:=Gk (pl:=pl) (z:=z) (by simpa using h)
  unfold LQ at ih ⊢
  rw [ni,c8,c8]
  lia
structure F6 (s:State) (R:List Nat) (st:Nat) (X:Nat->Prop) (pl:List Bool) (q w:List Nat):Prop where
 hs:st∈q
 nd:q.Nodup
 sub:∀y∈q,y∈piece s R st
 wn:w.Nodup
 ws:∀y∈w,y∈q
 cl:∀y∈q,y∉w->∀z∈R,mayPair s z y=true->z∈q
 pl:Cf s.n pl (λx=>X x\/x∈q)
structure KU (s:State) (R:List Nat) (st:Nat) (X:Nat->Prop) (pl:List Bool) (q w:List Nat) (x j:Nat):Prop where
 hs:st∈q
 nd:q.Nodup
 sub:∀y∈q,y∈piece s R st
 wn:w.Nodup
 ws:∀y∈w,y∈q
 hx:x∈q
 xw:x∉w
 cl:∀y∈q,y∉w->y≠x->∀z∈R,mayPair s z y=true->z∈q
 pre:∀i z,i< j->(jA s x)[i]? =some z->z∈R->z∈q
 pl:Cf s.n pl (λx=>X x\/x∈q)
theorem F6.start {pl:List Bool} (hst:st∈R) (hn:st< s.n) (P:Cf s.n pl X):F6 s R st X (pl.set st true) [st] [st] where
 hs:=aP
 nd:=by simp
 sub:=λy hy=>by rw [bb.mp hy];exact uB hst
 wn:=by simp
 ws:=λy hy=>hy
 cl:=λy hy hn=>absurd hy hn
 pl:=(P.set hn).Tv λx _=>by rw [bb]
theorem F6.pop {pl:List Bool} {q w:List Nat} {x:Nat} (W:F6 s R st X pl q (w++[x])):KU s R st X pl q w x 0 where
 hs:=W.hs
 nd:=W.nd
 sub:=W.sub
 wn:=by have:=W.wn;rw [cc] at this;exact this.1
 ws:=λy hy=>W.ws y (br _ hy)
 hx:=W.ws x (by simp)
 xw:=λh=>by
  have:=W.wn
  rw [cc] at this
  exact this.2.2 x h x (by simp) rfl
 cl:=λy hy hn hyx=>W.cl y hy λh=>by
  rcases aI.mp h with h|h
  ·exact hn h
  ·exact hyx (by simpa using h)
 pre:=λi z hi=>absurd hi (cF _)
 pl:=W.pl
theorem KU.zg {pl:List Bool} {q w:List Nat} {x:Nat} (M:KU s R st X pl q w x (jA s x).length) (hR:∀z∈R,z< s.n):F6 s R st X pl q w where
 hs:=M.hs
 nd:=M.nd
 sub:=M.sub
 wn:=M.wn
 ws:=M.ws
 cl:=λy hy hn z hz h=>by
  by_cases e:y=x
  ·subst e
   have hm:z∈jA s y:=j3.mpr ⟨hR z hz,by rw [mW];exact h⟩
   obtain ⟨i,hi⟩:=a9.mp hm
   exact M.pre i z (ae.mp hi).1 hi hz
  ·exact M.cl y hy hn e z hz h
 pl:=M.pl
theorem KU.skip {pl:List Bool} {q w:List Nat} {x j z:Nat} (M:KU s R st X pl q w x j) (hl:R.Pairwise (·< ·)) (hst:st∈R) (hX:∀z∈piece s R st,¬X z) (hz:(jA s x)[j]? =some z) (h:pl[z]? =some true):KU s R st X pl q w x (j+1) where
 hs:=M.hs
 nd:=M.nd
 sub:=M.sub
 wn:=M.wn
 ws:=M.ws
 hx:=M.hx
 xw:=M.xw
 cl:=M.cl
 pre:=λi y hi hy AE=>by
  by_cases e:i=j
  ·subst e
   rw [hz] at hy
   have hy:=Option.some.inj hy
   subst hy
   obtain ⟨AA,hm⟩:=j3.mp (aw hz)
   rcases (M.pl.vO z AA).mp h with h|h
   ·exfalso
    refine hX z ?_ h
    exact qN hl hst (M.sub x M.hx) AE (by rw [mW];exact hm)
   ·exact h
  ·exact M.pre i y (by lia) hy AE
 pl:=M.pl
theorem KU.add {pl:List Bool} {q w:List Nat} {x j z:Nat} (M:KU s R st X pl q w x j) (hl:R.Pairwise (·< ·)) (hst:st∈R) (hR:∀z,z< s.n->z∉R->X z) (hz:(jA s x)[j]? =some z) (h:pl[z]? =some false):KU s R st X (pl.set z true) (q++[z]) (w++[z]) x (j+1):=by
 obtain ⟨AA,hm⟩:=j3.mp (aw hz)
 have hno:¬(X z\/z∈q):=λe=>by
  have:=M.pl.GJ AA e
  rw [h] at this
  cases this
 have VJ:z∈R:=a5 λe=>hno (.inl (hR z AA e))
 have Uz:z∉q:=λe=>hno (.inr e)
 have Nm:z∉w:=λe=>Uz (M.ws z e)
 have Uh:z≠x:=λe=>Uz (e▸M.hx)
 refine ⟨br _ M.hs,?_,λy hy=> ?_,?_,λy hy=> ?_,br _ M.hx,λe=> ?_,λy hy hn hyx u hu hm2=> ?_,λi y hi hy AE=> ?_,?_⟩
 ·rw [cc]
  exact ⟨M.nd,by simp,λa ha b hb e=>Uz (by rw [<-bb.mp hb,<-e];exact ha)⟩
 ·rcases aI.mp hy with hy|hy
  ·exact M.sub y hy
  ·rw [bb.mp hy]
   exact qN hl hst (M.sub x M.hx) VJ (by rw [mW];exact hm)
 ·rw [cc]
  exact ⟨M.wn,by simp,λa ha b hb e=>Nm (by rw [<-bb.mp hb,<-e];exact ha)⟩
 ·rcases aI.mp hy with hy|hy
  ·exact br _ (M.ws y hy)
  ·exact bp _ hy
 ·rcases aI.mp e with e|e
  ·exact M.xw e
  ·exact Uh (bb.mp e).symm
 ·rcases aI.mp hy with hy|hy
  ·exact br _ (M.cl y hy (λe=>hn (br _ e)) hyx u hu hm2)
  ·exact absurd (bp _ hy) hn
 ·by_cases e:i=j
  ·subst e
   rw [hz] at hy
   rw [<-Option.some.inj hy]
   exact bp _ (by simp)
  ·exact br _ (M.pre i y (by lia) hy AE)
 ·refine (M.pl.set AA).Tv λy _=> ?_
  rw [aI,bb,yi]
theorem F6.perm {pl:List Bool} {q:List Nat} (W:F6 s R st X pl q []) (hl:R.Pairwise (·< ·)) (hst:st∈R):q.Perm (piece s R st):=by
 rw [df W.nd ((jj hl hst).imp λh=>bO h)]
 intro y
 refine ⟨W.sub y,λhy=> ?_⟩
 exact wZ (S:=λz=>z∈q) W.hs (λa b ha hb h=>W.cl b hb (by simp) a ha h) y hy
theorem F6.sorted {pl:List Bool} {q:List Nat} (W:F6 s R st X pl q []) (hl:R.Pairwise (·< ·)) (hst:st∈R) {ns:List Int} (h1:ns.Perm (q.map λk=>((k:Nat):Int))) (h2:ns.Pairwise (·<=·)):ns=(piece s R st).map λk=>((k:Nat):Int):=by
 refine fz (le:=(·<=·)) (λa b _ _ h1 h2=>mC h1 h2) h2 ?_ (h1.trans ((W.perm hl hst).map _))
 rw [eV]
 exact (jj hl hst).imp λh=>by lia
theorem F6.done {pl:List Bool} {q:List Nat} (W:F6 s R st X pl q []) (hl:R.Pairwise (·< ·)) (hst:st∈R):Cf s.n pl (λx=>X x\/x∈piece s R st):=
 W.pl.Tv λx _=>by rw [(W.perm hl hst).mem_iff]
theorem w9 {q:List Nat} {n:Nat} (h:q.Nodup) (hi:∀y∈q,y< n):q.length<=n:=by
 have:=bI h (l₂:=List.range n) λy hy=>cQ.mpr (hi y hy)
 rw [aM] at this
 exact this
end
section
variable {s:State} {R:List Nat}
def IA (s:State) (R:List Nat) (i:Nat):List (List Nat):=((List.range i).filter λx=>R.contains x&&(piece s R x).head? ==some x).map (piece s R)
def HC (s:State) (R:List Nat) (i x:Nat):Prop:=x∉R\/∃y,y< i/\y∈R/\x∈piece s R y
theorem JX (hl:R.Pairwise (·< ·)) {i:Nat} (h:HC s R i i):IA s R (i+1)=IA s R i/\∀x,HC s R (i+1) x↔HC s R i x:=by
 constructor
 ·unfold IA
  rw [cT,cj,a4]
  have:([i].filter λx=>R.contains x&&(piece s R x).head? ==some x)=[]:=by
   rw [aO,eE]
   intro e
   rw [aR] at e
   have hi:i∈R:=by simpa using e.1
   have e2:(piece s R i).head? =some i:=by simpa using e.2
   rcases h with h|⟨y,hy,AE,hm⟩
   ·exact h hi
   ·exact (Ah hl hi).mp e2 y AE hy hm
  rw [this]
  simp
 ·intro x
  constructor
  ·rintro (h2|⟨y,hy,AE,hm⟩)
   ·exact .inl h2
   ·by_cases e:y=i
    ·subst e
     rcases h with h|⟨z,hz,VJ,hzm⟩
     ·exact absurd AE h
     ·right
      exact ⟨z,hz,VJ,by rw [<-uu hl VJ hzm];exact hm⟩
    ·exact .inr ⟨y,by lia,AE,hm⟩
  ·rintro (h2|⟨y,hy,AE,hm⟩)
   ·exact .inl h2
   ·exact .inr ⟨y,by lia,AE,hm⟩
theorem Lp (hl:R.Pairwise (·< ·)) {i:Nat} (h:¬HC s R i i):i∈R/\(∀z∈piece s R i,¬HC s R i z)/\IA s R (i+1)=IA s R i++[piece s R i]/\∀x,HC s R (i+1) x↔(HC s R i x\/x∈piece s R i):=by
 have hi:i∈R:=a5 λe=>h (.inl e)
 have hno:∀y,y< i->y∈R->i∉piece s R y:=λy hy AE hm=>h (.inr ⟨y,hy,AE,hm⟩)
 refine ⟨hi,λz hz hX=> ?_,?_,λx=> ?_⟩
 ·rcases hX with hX|⟨y,hy,AE,hm⟩
  ·exact hX (mY hi hz)
  ·refine hno y hy AE ?_
   have e1:=uu hl hi hz
   have e2:=uu hl AE hm
   rw [<-e2,e1]
   exact uB hi
 ·unfold IA
  rw [cT,cj,a4]
  have e2:(piece s R i).head? =some i:=(Ah hl hi).mpr λy hy hlt=>hno y hlt hy
  have:([i].filter λx=>R.contains x&&(piece s R x).head? ==some x)=[i]:=by
   rw [aS,eE]
   rw [aR]
   exact ⟨by simpa using hi,by simpa using e2⟩
  rw [this]
  rfl
 ·constructor
  ·rintro (h2|⟨y,hy,AE,hm⟩)
   ·exact .inl (.inl h2)
   ·by_cases e:y=i
    ·subst e
     exact .inr hm
    ·exact .inl (.inr ⟨y,by lia,AE,hm⟩)
  ·rintro ((h2|⟨y,hy,AE,hm⟩)|h2)
   ·exact .inl h2
   ·exact .inr ⟨y,by lia,AE,hm⟩
   ·exact .inr ⟨i,by lia,hi,h2⟩
theorem Al (s:State) (t:List Nat):(restOf s t).Pairwise (·< ·):=by
 unfold restOf
 exact lV _ dZ
theorem vd {s:State} {t:List Nat} {x:Nat}:x∈restOf s t↔x< s.n/\x∉t:=by
 unfold restOf
 rw [bU,cQ]
 simp
theorem JB (s:State) (t:List Nat) {x:Nat} (hx:x< s.n):HC s (restOf s t) 0 x↔x∈t:=by
 unfold HC
 rw [vd]
 constructor
 ·rintro (h|⟨y,hy,_⟩)
  ·exact a5 λe=>h ⟨hx,e⟩
  ·lia
 ·exact λh=> .inl λe=>e.2 h
theorem xS (s:State) (t:List Nat):IA s (restOf s t) s.n=pieces s (restOf s t):=by
 unfold IA pieces
 congr 1
 have e:restOf s t=(List.range s.n).filter λx=> !t.contains x:=rfl
 conv=>rhs;rw [e]
 rw [ud]
 refine oy λx hx=> ?_
 rw [tN]
 congr 1
 have:=cQ.mp hx
 rw [dW]
 simp only [cn,vd,oA,<-pG]
 exact ⟨λh=>h.2,λh=>⟨this,h⟩⟩
theorem xT (s:State) (R:List Nat) (i:Nat):(IA s R i).length<=i:=by
 unfold IA
 rw [af]
 have:=bQ (λx=>R.contains x&&(piece s R x).head? ==some x) (List.range i)
 rw [aM] at this
 exact this
theorem Oq (s:State) (t:List Nat):odd s t<=s.n:=by
 unfold odd
 refine bg (bQ _ _) ?_
 rw [<-xS]
 exact xT _ _ _
theorem Ib {s:State} {t:List Nat} {x:Nat} (hx:x∈restOf s t):(piece s (restOf s t) x).length<=s.n:=
 w9 ((jj (Al s t) hx).imp λh=>bO h) λy hy=>(vd.mp (mY hx hy)).1
theorem BO {s:State} {t:List Nat} {q:List Nat} (h:q∈pieces s (restOf s t)):q.length<=s.n:=by
 unfold pieces at h
 obtain ⟨x,hx,rfl⟩:=bC.mp h
 exact Ib (bU.mp hx).1
end
end Qm
end
section
namespace Qm
open Vbqzak
def lC (a:Nat) (r:List Nat):Nat:=match r.getLast? with
 |none=>a
 |some x=>x+1
def ext (N a:Nat) (r:List Nat):List (List Nat):=(List.range' (lC a r) (N-lC a r)).map λx=>r++[x]
theorem CA (a b x:Nat) (r:List Nat) (h:r≠[]):lC a (x::r)=lC b r:=by
 unfold lC
 rw [List.getLast?_cons]
 cases e:r.getLast? with
 |none=>exact absurd (gu.mp e) h
 |some y=>rfl
theorem EN (a b:Nat) {r:List Nat} (h:r≠[]):lC a r=lC b r:=by
 unfold lC
 cases e:r.getLast? with
 |none=>exact absurd (gu.mp e) h
 |some y=>rfl
theorem JE (N a:Nat) (r:List Nat):ext N a (a::r)=(ext N (a+1) r).map (a::·):=by
 unfold ext
 by_cases h:r=[]
 ·subst h
  show (List.range' (a+1) _).map _=_
  rw [cX]
  rfl
 ·rw [CA a (a+1) a r h,cX]
  rfl
theorem Ao {k:Nat}:∀{l r:List Nat},r∈choose (k+1) l->r≠[]
 |[],r,h=>by unfold choose at h;cases h
 |x::l,r,h=>by
  unfold choose at h
  rcases aI.mp h with h|h
  ·obtain ⟨u,_,rfl⟩:=bC.mp h
   simp
  ·exact Ao h
theorem nF {α β:Type} {f g:α->List β}:∀{l:List α},(∀x∈l,f x=g x)->l.flatMap f=l.flatMap g
 |[],_=>rfl
 |x::l,h=>by
  rw [da,da,h x aP,nF λy hy=>h y (aE _ hy)]
theorem qy:∀(m k a:Nat),(choose k (List.range' a m)).flatMap (ext (a+m) a)=choose (k+1) (List.range' a m)
 |0,0,a=>by
  show (ext (a+0) a []++[])=[]
  rw [bR]
  unfold ext lC
  simp
 |0,k+1,a=>rfl
 |m+1,0,a=>by
  have ih:=qy m 0 (a+1)
  have e0:∀l,choose 0 l=[[]]:=λl=>by cases l<;>rfl
  rw [e0] at ih ⊢
  rw [pO]
  show ext (a+(m+1)) a []++[]=(choose 0 (List.range' (a+1) m)).map (a::·)++choose 1 (List.range' (a+1) m)
  rw [<-ih,e0]
  unfold ext lC
  simp only [List.getLast?_nil,da,List.flatMap_nil,bR]
  rw [show a+(m+1)-a=m+1 by lia,show a+1+m-(a+1)=m by lia,pO]
  rfl
 |m+1,k+1,a=>by
  have ih1:=qy m k (a+1)
  have ih2:=qy m (k+1) (a+1)
  rw [pO]
  show ((choose k (List.range' (a+1) m)).map (a::·)++choose (k+1) (List.range' (a+1) m)).flatMap _=(choose (k+1) (List.range' (a+1) m)).map (a::·)++choose (k+2) (List.range' (a+1) m)
  rw [dw]
  congr 1
  ·rw [<-ih1,List.flatMap_map,lh]
   refine nF λr _=> ?_
   rw [show a+1+m=a+(m+1) by lia]
   exact JE _ _ _
  ·rw [<-ih2]
   refine nF λr hr=> ?_
   unfold ext
   rw [EN a (a+1) (Ao hr),show a+1+m=a+(m+1) by lia]
theorem CJ (n k:Nat):(choose k (List.range n)).flatMap (ext n 0)=choose (k+1) (List.range n):=by
 have:=qy n k 0
 rw [uV,<-List.range_eq_range'] at this
 exact this
theorem sj:∀{k:Nat} {l:List Nat},l.length< k->choose k l=[]
 |k+1,[],_=>rfl
 |k+1,x::l,h=>by
  have h:l.length< k:=by simpa using h
  unfold choose
  rw [sj h,sj (by lia:l.length< k+1)]
  rfl
theorem vq:∀{k:Nat} {l:List Nat},k<=l.length->choose k l≠[]
 |0,l,_=>by cases l<;>simp [choose]
 |k+1,[],h=>by simp at h
 |k+1,x::l,h=>by
  have h:k<=l.length:=by simpa using h
  unfold choose
  intro e
  have:=(List.append_eq_nil_iff.mp e).1
  exact vq h (List.map_eq_nil_iff.mp this)
theorem qO:∀{k:Nat} {l r:List Nat},r∈choose k l->r.Sublist l/\r.length=k
 |0,l,r,h=>by
  have:r=[]:=by cases l<;>simpa [choose] using h
  subst this
  exact ⟨List.nil_sublist _,rfl⟩
 |k+1,[],r,h=>by unfold choose at h;cases h
 |k+1,x::l,r,h=>by
  unfold choose at h
  rcases aI.mp h with h|h
  ·obtain ⟨u,hu,rfl⟩:=bC.mp h
   obtain ⟨h1,h2⟩:=qO hu
   exact ⟨h1.cons_cons x,by rw [aB,h2]⟩
  ·obtain ⟨h1,h2⟩:=qO h
   exact ⟨h1.cons x,h2⟩
theorem uG:∀(k:Nat) (l:List Nat),(choose k l).length<=2 ^ l.length
 |0,l=>by
  have:choose 0 l=[[]]:=by cases l<;>rfl
  rw [this]
  exact Nat.one_le_two_pow
 |k+1,[]=>by unfold choose;simp
 |k+1,x::l=>by
  unfold choose
  rw [ao,af,aB,Nat.pow_succ]
  have h1:=uG k l
  have h2:=uG (k+1) l
  lia
def mG (n k:Nat):List (List Nat):=(List.range k).flatMap λj=>choose j (List.range n)
def xW (s:State) (b:Nat×List Nat) (t:List Nat):Nat×List Nat:=if bound s t< b.1 then (bound s t,t) else b
theorem Dl (n k:Nat):mG n (k+1)=mG n k++choose k (List.range n):=by
 unfold mG
 rw [cT,dw]
 simp
theorem ur (s:State):bestSet s=(mG s.n (s.n+1)).foldl (xW s) (bound s [],[]):=rfl
theorem GQ (s:State):∀(l:List (List Nat)) (b:Nat×List Nat),b.1=bound s b.2->(l.foldl (xW s) b).1=bound s (l.foldl (xW s) b).2
 |[],b,h=>h
 |t::l,b,h=>by
  rw [eG]
  refine GQ s l _ ?_
  unfold xW
  by_cases h2:bound s t< b.1
  ·rw [aA h2]
  ·rw [au h2]
   exact h
end Qm
end
section
namespace Qz
open PySem PySem.Spec PyProof.Rows L2
open Vbqzak (step mayPair whole piece pieces restOf)
def zd (l:List Bool):List V:=l.map V.bl
theorem Bg (l:List Bool):(zd l).length=l.length:=by unfold zd;rw [af]
theorem BW {l:List Bool} {i:Nat} {b:Bool} (h:l[i]? =some b):(zd l)[i]? =some (V.bl b):=by
 unfold zd
 rw [ay,h]
 rfl
theorem GF (l:List Bool) (i:Nat) (b:Bool):(zd l).set i (V.bl b)=zd (l.set i b):=by
 unfold zd
 rw [uW]
structure qG (H:Hp) (p:Addr) (ads:List Addr) (L:List (List Nat)):Prop where
 len:ads.length=L.length
 a6:H p=some (.a6 (ads.map V.ref))
 row:∀(i:Nat) (a:Addr) (r:List Nat),ads[i]? =some a->L[i]? =some r->H a=some (.a6 (nV r))
theorem qG.same {H H':Hp} {p:Addr} {ads:List Addr} {L:List (List Nat)} (A:qG H p ads L) (s:bB H H'):qG H' p ads L:=⟨A.len,s _ _ A.a6,λi a r h1 h2=>s _ _ (A.row i a r h1 h2)⟩
theorem qG.get {H:Hp} {p:Addr} {ads:List Addr} {L:List (List Nat)} (A:qG H p ads L) {i:Nat} {x:V} (h:(ads.map V.ref)[i]? =some x):∃a r,ads[i]? =some a/\L[i]? =some r/\x=V.ref a/\H a=some (.a6 (nV r)):=by
 rw [ay] at h
 cases e:ads[i]? with
 |none=>rw [e] at h;cases h
 |some a=>
  rw [e] at h
  have hl:i< L.length:=by rw [<-A.len];exact (ae.mp e).1
  exact ⟨a,L[i],rfl,ab hl,(Option.some.inj h).symm,A.row i a _ e (ab hl)⟩
theorem qG.snoc {H H':Hp} {p:Addr} {ads:List Addr} {L:List (List Nat)} {a:Addr} {r:List Nat} (A:qG H p ads L) (hp:p∉ads) (s:bB H H') (ha:H' a=some (.a6 (nV r))) (UA:a≠p):qG (bG H' p (.a6 (ads.map V.ref++[V.ref a]))) p (ads++[a]) (L++[r]) where
 len:=by rw [ao,ao,A.len];rfl
 a6:=by rw [aj,a4];rfl
 row:=λu b q hb hq=>by
  by_cases e:u< ads.length
  ·rw [bP e] at hb
   rw [bP (by rw [<-A.len];exact e)] at hq
   have Xz:b≠p:=λz=>hp (by rw [<-z];exact aw hb)
   rw [aL Xz]
   exact s _ _ (A.row u b q hb hq)
  ·rw [bJ (by lia)] at hb
   rw [bJ (by rw [<-A.len];lia)] at hq
   have hu:u-ads.length=0:=by
    have:=(ae.mp hb).1
    simp at this
    lia
   rw [<-A.len] at hq
   rw [hu] at hb hq
   have hb:a=b:=Option.some.inj hb
   have hq:r=q:=Option.some.inj hq
   subst hb hq
   rw [aL UA,ha]
section
variable {P:Program} {w:World} {K:PySem.W.Frag} {mg:Str->Option Value} {base:Heap} {G U:Addr}
abbrev pf:Stmt:=iB 72
theorem jD:bt ["partners","placed","start","piece","waiting","team","other"] ["partners","placed","start"] (aJ pf):=⟨rfl,rfl,rfl,by decide +kernel,rfl,by decide +kernel,by decide +kernel⟩
def Rj:Sp:=λvs H Q _=>∃(s:l9) (pp pa:Addr) (rs:List Addr) (R:List Nat) (st:Nat) (X:Nat->Prop) (pl:List Bool),vs=[.ref pp,.ref pa,.int st]/\dJ H pp rs (Qm.jA s) s.n/\H pa=some (.a6 (zd pl))/\pp≠pa/\pa∉rs/\s.n<=10/\R.Pairwise (·< ·)/\(∀z∈R,z< s.n)/\(∀z,z< s.n->z∉R->X z)/\st∈R/\(∀z∈piece s R st,¬X z)/\Qm.Cf s.n pl X/\
 ∀(H':Hp) (p:Addr) (VL:List Bool),(∀b o,H b=some o->b≠pa->H' b=some o)->H' pa=some (.a6 (zd VL))->Qm.Cf s.n VL (λx=>X x\/x∈piece s R st)->H p=none->H' p=some (.a6 (nV (piece s R st)))->Q (.ref p) H'
theorem Sr (D:Df K mg "piece_from" pf) (T:Tx K mg G U):dQ P w K mg base 1 "piece_from" ["partners","placed","start"] Rj:=by
 obtain ⟨f,fd,M,F⟩:=D
 refine ⟨f,fd,M,F.kp,F.cC (λ_ _ _ _ _ _ us hl=>(match us,hl with|[_,_,_],_=>rfl)),F.ok jD (λvs H Q E h=> ?_) (λcdv A bE s H vs Q E hr h=> ?_)⟩
 ·obtain ⟨s,pp,pa,rs,R,st,X,pl,rfl,_⟩:=h
  rfl
 ·obtain ⟨s,pp,pa,rs,R,st,X,MD,rfl,RA,Iv,XZ,ME,hn,hR,VM,hRX,hst,hX,P0,k⟩:=h
  have Kz:=VM st hst
  refine ⟨_,(ai (vV sC (wx (pv 1) (pv 2) p6)) (ai (bx (i:=3) jD.nd rfl (Or.inl rfl) (cf (aa (pv 2) ah))) (ai (bx (i:=4) jD.nd rfl (Or.inl rfl) (cf (aa (pv 2) ah))) (ai (l5 aT (yy (K:=K) (pv 4)) (ai (bx (i:=5) jD.nd rfl (Or.inl rfl) (FR (K:=K) aQ iM iN Be (pv 4))) (aq (d8 aT rfl (fo (K:=K) (cH (je (K:=K)) (pv 0) (pv 5) (λ_ _=>rfl))) (cu (i:=6) jD.nd rfl (Or.inl rfl)) (aq (cP (uv (iP (cH (je (K:=K)) (pv 1) (pv 6) (λ_ _=>rfl)))) (ai (vV sC (wx (pv 1) (pv 6) p6)) (ai (dS (mS (K:=K) aQ bL bM fe (pv 3) (aa (pv 6) ah))) (aq (dS (mS (K:=K) aQ bL bM fe (pv 4) (aa (pv 6) ah)))))) bF)))))) (aq (aV (bT (Cm (K:=K)) (by rfl) T.sf fA (aa (pv 3) ah)))))))),?_⟩
  refine ⟨_,rfl,_,rfl,pa,_,_,st,rfl,rfl,Iv,sW (by rw [Bg,P0.len];exact Kz),?_⟩
  rw [GF]
  have D8:∀b o,H b=some o->b≠pa->bG H pa (.a6 (zd (MD.set st true))) b=some o:=λb o e hb=>by rw [aL hb];exact e
  have t1:bG H pa (.a6 (zd (MD.set st true))) pa=some (.a6 (zd (MD.set st true))):=aj
  have X0:∀p,bG H pa (.a6 (zd (MD.set st true))) p=none->H p=none:=λp hp=>by
   have:p≠pa:=λe=>by rw [e,aj] at hp;cases hp
   rw [aL this] at hp
   exact hp
  generalize bG H pa (.a6 (zd (MD.set st true)))=H1 at D8 t1 X0
  refine ⟨_,rfl,(by show 1<=sizeLine;decide),λqa X1=> ?_⟩
  have U0:qa≠pa:=aY (az t1 X1)
  have X2:=X0 _ X1
  have s2:bB H1 (bG H1 qa (.a6 [V.int (st:Nat)])):=aN X1
  have t2:bG H1 qa (.a6 [V.int (st:Nat)]) qa=some (.a6 (nV [st])):=aj
  generalize bG H1 qa (.a6 [V.int (st:Nat)])=H2 at s2 t2
  refine ⟨_,rfl,(by show 1<=sizeLine;decide),λwa Nr=> ?_⟩
  have PN:wa≠pa:=aY (az (s2 _ _ t1) Nr)
  have X3:wa≠qa:=aY (az t2 Nr)
  have Mw:H wa=none:=X0 _ (s2.free Nr)
  have s3:bB H2 (bG H2 wa (.a6 [V.int (st:Nat)])):=aN Nr
  have t3:bG H2 wa (.a6 [V.int (st:Nat)]) wa=some (.a6 (nV [st])):=aj
  generalize bG H2 wa (.a6 [V.int (st:Nat)])=H3 at s3 t3
  refine ⟨λm σ H'=>∃(pl:List Bool) (q wl:List Nat) (v5 v6:Option V),σ=[some (.ref pp),some (.ref pa),some (.int (st:Nat)),some (.ref qa),some (.ref wa),v5,v6]/\H' pa=some (.a6 (zd pl))/\H' qa=some (.a6 (nV q))/\H' wa=some (.a6 (nV wl))/\(∀b o,H b=some o->b≠pa->H' b=some o)/\Qm.F6 s R st X pl q wl/\m=2*Qm.LQ pl+wl.length,
   ⟨2*Qm.LQ (MD.set st true)+1,MD.set st true,[st],[st],none,none,rfl,s3 _ _ (s2 _ _ t1),s3 _ _ t2,t3,λb o e hb=>s3 _ _ (s2 _ _ (D8 b o e hb)),Qm.F6.start hst Kz P0,rfl⟩,?_⟩
  rintro m σ H4 ⟨pl,q,wl,v5,v6,rfl,AB,UC,KY,k4,W,hm⟩
  have small:∀l:List Nat,l.Nodup->(∀y∈l,y∈piece s R st)->l.length<=10:=λl h1 h2=>bg (Qm.w9 h1 λy hy=>VM y (Qm.mY hst (h2 y hy))) hn
  refine ⟨_,rfl,!wl.isEmpty,.inl ⟨nV wl,cE.of KY,(by cases wl<;>rfl)⟩,?_⟩
  refine gr (λe1=> ?_) (λe1=> ?_)
  ·obtain ⟨sS,x,rfl⟩:∃sS x,wl=sS++[x]:=⟨wl.dropLast,wl.getLast (by intro e;subst e;cases e1),(eF _).symm⟩
   have Qc:=W.ws x (by simp)
   have Mv:x< s.n:=VM x (Qm.mY hst (W.sub x Qc))
   refine ⟨fun σ H'=>∃(pl:List Bool) (q wl:List Nat) (v5 v6:Option V),σ=[some (.ref pp),some (.ref pa),some (.int (st:Nat)),some (.ref qa),some (.ref wa),v5,v6]/\H' pa=some (.a6 (zd pl))/\H' qa=some (.a6 (nV q))/\H' wa=some (.a6 (nV wl))/\(∀b o,H b=some o->b≠pa->H' b=some o)/\Qm.F6 s R st X pl q wl/\2*Qm.LQ pl+wl.length< m,?_,?_⟩
   ·rintro σ' H' ⟨VL,q',Io,w5,w6,rfl,h1,h2,h3,h4,h5,h6⟩
    exact ⟨_,h6,VL,q',Io,w5,w6,rfl,h1,h2,h3,h4,h5,rfl⟩
   ·refine ⟨_,rfl,.inl ⟨rfl,_,cE.of KY⟩,wa,_,V.int (x:Nat),rfl,rfl,KY,(by rw [fB];simp),?_⟩
    rw [show (nV (sS++[x])).dropLast=nV sS by rw [fB,iW]]
    have K2:bG H4 wa (.a6 (nV sS)) pa=some (.a6 (zd pl)):=by rw [aL (aY PN)];exact AB
    have YY:bG H4 wa (.a6 (nV sS)) qa=some (.a6 (nV q)):=by rw [aL (aY X3)];exact UC
    have T7:bG H4 wa (.a6 (nV sS)) wa=some (.a6 (nV sS)):=aj
    have k5:∀b o,H b=some o->b≠pa->bG H4 wa (.a6 (nV sS)) b=some o:=λb o e hb=>by
     rw [aL (az e Mw)]
     exact k4 b o e hb
    generalize bG H4 wa (.a6 (nV sS))=H5 at K2 YY T7 k5
    have R5:=RA.keep k5 XZ ME
    obtain ⟨ra,qc,PL,kW⟩:=R5.get Mv
    have MF:ra≠pa:=λe=>ME (e▸aw qc)
    have KD:H ra=some (.a6 (nV (Qm.jA s x))):=RA.row x ra qc
    have ZR:m=2*Qm.LQ pl+(sS.length+1):=by rw [hm,ao];rfl
    refine ⟨_,rfl,_,rfl,xI (cE.of R5.a6) PL ⟨ra,rfl,⟨_,cE.of kW⟩,fY (K:=K) (a:=ra) (xs:=nV (Qm.jA s x)) (λj σ H'=>∃(pl:List Bool) (q wl:List Nat) (v6:Option V),σ=[some (.ref pp),some (.ref pa),some (.int (st:Nat)),some (.ref qa),some (.ref wa),some (.int (x:Nat)),v6]/\H' pa=some (.a6 (zd pl))/\H' qa=some (.a6 (nV q))/\H' wa=some (.a6 (nV wl))/\(∀b o,H b=some o->b≠pa->H' b=some o)/\Qm.KU s R st X pl q wl x j/\2*Qm.LQ pl+wl.length< m)
     ⟨pl,q,sS,v6,rfl,K2,YY,T7,k5,W.pop,by lia⟩ (λj σ H' _ ⟨_,_,_,_,_,_,_,_,z,_⟩=>cE.of (z _ _ KD MF)) ?_ ?_⟩⟩
    ·rintro j v σ H6 hv ⟨pl,q,wl,v6,rfl,Qq,U1,KZ,k6,Mm,Nj⟩
     obtain ⟨z,hz,rfl⟩:=nX hv
     obtain ⟨AA,_⟩:=Qm.j3.mp (aw hz)
     have hzl:z< pl.length:=by rw [Mm.pl.len];exact AA
     have Mt:pl[z]? =some pl[z]:=ab hzl
     cases eb:pl[z] with
     |true=>
      rw [eb] at Mt
      refine ⟨_,rfl,_,rfl,pa,_,_,_,rfl,rfl,cE.of Qq,cg (BW Mt),_,rfl,i0 ?_⟩
      exact ⟨pl,q,wl,_,rfl,Qq,U1,KZ,k6,Mm.skip hR hst hX hz Mt,Nj⟩
     |false=>
      rw [eb] at Mt
      have M2:=Mm.add hR hst hRX hz Mt
      have ZS:=Qm.Gk Mt
      have l1:=small _ M2.nd M2.sub
      have l2:=small _ M2.wn λy hy=>M2.sub y (M2.ws y hy)
      rw [ao] at l1 l2
      refine ⟨_,rfl,_,rfl,pa,_,_,_,rfl,rfl,cE.of Qq,cg (BW Mt),_,rfl,ij ?_⟩
      refine ⟨_,rfl,_,rfl,pa,_,_,z,rfl,rfl,Qq,sW (by rw [Bg];exact hzl),?_⟩
      rw [GF]
      have VN:bG H6 pa (.a6 (zd (pl.set z true))) qa=some (.a6 (nV q)):=by rw [aL U0];exact U1
      refine ⟨_,rfl,.inl ⟨rfl,_,cE.of VN⟩,_,rfl,qa,_,_,rfl,rfl,VN,(by rw [cN];exact cv (by lia)),?_⟩
      have T8:bG (bG H6 pa (.a6 (zd (pl.set z true)))) qa (.a6 (nV q++[V.int (z:Nat)])) wa=some (.a6 (nV wl)):=by rw [aL X3,aL PN];exact KZ
      refine ⟨_,rfl,.inl ⟨rfl,_,cE.of T8⟩,_,rfl,wa,_,_,rfl,rfl,T8,(by rw [cN];exact cv (by lia)),?_⟩
      refine ⟨pl.set z true,q++[z],wl++[z],_,rfl,?_,?_,?_,λb o e hb=> ?_,M2,?_⟩
      ·rw [aL (aY PN),aL (aY U0)]
       exact aj
      ·rw [aL (aY X3),aj,fB]
      ·rw [aj,fB]
      ·rw [aL (az e Mw),aL (az e X2),aL hb]
       exact k6 b o e hb
      ·rw [ao]
       simp
       lia
    ·rintro σ H6 ⟨pl,q,wl,v6,rfl,Qq,U1,KZ,k6,Mm,Nj⟩
     rw [cN] at Mm
     exact ⟨pl,q,wl,_,_,rfl,Qq,U1,KZ,k6,Mm.zg VM,Nj⟩
  ·have:wl=[]:=by
    cases wl with
    |nil=>rfl
    |cons a b=>cases e1
   subst this
   have hl:=small q W.nd W.sub
   rw [oF] at UC
   refine ⟨_,rfl,qa,_,rfl,cE.of UC,(by rw [af];lia),λns' p h1 h2 hp=> ?_⟩
   have e:=W.sorted hR hst h1 h2
   have U2:pa≠p:=az AB hp
   have K1:H p=none:=by
    cases e:H p with
    |none=>rfl
    |some o=>
     have:=k4 p o e (aY U2)
     rw [hp] at this
     cases this
   refine k _ p pl (λb o e hb=> ?_) (by rw [aL U2];exact AB) (W.done hR hst) K1 (by rw [aj,e,<-oF])
   rw [aL (az (k4 b o e hb) hp)]
   exact k4 b o e hb
abbrev iT:Stmt:=iB 73
theorem gI:bt ["partners","left_out","placed","team","pieces"] ["partners","left_out"] (aJ iT):=⟨rfl,rfl,rfl,by decide +kernel,rfl,by decide +kernel,by decide +kernel⟩
def Pn:Sp:=λvs H Q _=>∃(s:l9) (pp la:Addr) (rs:List Addr) (t:List Nat),vs=[.ref pp,.ref la]/\dJ H pp rs (Qm.jA s) s.n/\H la=some (.a6 (nV t))/\s.n<=10/\
 ∀(H':Hp) (p:Addr) (ads:List Addr),bB H H'->qG H' p ads (pieces s (restOf s t))->H p=none->Q (.ref p) H'
theorem Sg (D:Df K mg "pieces_without" iT) (T:Tx K mg G U) (qU:dQ P w K mg base 1 "piece_from" ["partners","placed","start"] Rj):dQ P w K mg base 2 "pieces_without" ["partners","left_out"] Pn:=by
 obtain ⟨f,fd,M,F⟩:=D
 refine ⟨f,fd,M,F.kp,F.cC (λ_ _ _ _ _ _ us hl=>(match us,hl with|[_,_],_=>rfl)),F.ok gI (λvs H Q E h=> ?_) (λcdv A bE s H vs Q E hr h=> ?_)⟩
 ·obtain ⟨s,pp,la,rs,t,rfl,_⟩:=h
  rfl
 ·obtain ⟨s,pp,la,rs,t,rfl,R,VO,hn,k⟩:=h
  have a0c:(1:Nat)<=sizeLine:=by decide
  have Ul:∀a∈rs,∃o,H a=some o:=λa ha=>by
   obtain ⟨i,hi⟩:=a9.mp ha
   exact ⟨_,R.row i a hi⟩
  refine ⟨_,(ai (vI (i:=2) rfl gI.nd rfl rfl (yg rfl rfl rfl rfl) (iU:=[("team",3)]) (d3 rfl T.range (aa (bT (fF (K:=K)) (by rfl) T.len bh (aa (pv 0) ah)) ah)) (eC (by show nP ["partners","left_out","placed","team","pieces"] (aJ iT) _ _=true;decide +kernel)) (λ_ _ _ _ _=>(cu (i:=3) gI.nd rfl (Or.inl rfl))) (λ_ _ _ _ _=>by exact kJ) (λ_ _ _ _ _=>by exact (oH (LR (K:=K)) (pv 3) (pv 1) rfl))) (ai (bx (i:=4) gI.nd rfl (Or.inl rfl) (cf ah)) (ai (d8 aT rfl (d3 rfl T.range (aa (bT (fF (K:=K)) (by rfl) T.len bh (aa (pv 0) ah)) ah)) (cu (i:=3) gI.nd rfl (Or.inl rfl)) (aq (cP (uv (iP (cH (je (K:=K)) (pv 2) (pv 3) (λ_ _=>rfl)))) (aq (dS (mS (K:=K) aQ bL bM fe (pv 4) (aa (bW qU (hr.bY (by decide)) (aa (pv 0) (aa (pv 2) (aa (pv 3) ah)))) ah)))) bF))) (aq (aV (pv 4)))))),?_⟩
  refine ⟨_,rfl,pp,_,rfl,.inl (cE.of R.a6),_,rfl,(by lia),(by rw [af,R.len];lia),λpa Iv=> ?_⟩
  rw [af,R.len]
  have XZ:pp≠pa:=az R.a6 Iv
  have ME:pa∉rs:=λhm=>by
   obtain ⟨o,e⟩:=Ul pa hm
   rw [Iv] at e
   cases e
  refine mf (Pv:=λj H2=>bB H H2/\H2 pa=some (.a6 (zd ((List.range j).map λx=>t.contains x)))) ⟨aN Iv,aj⟩ ?_ ?_
  ·rintro j H2 hj ⟨s2,iE⟩
   rw [aK] at hj
   rw [di]
   refine ⟨rfl,GJ ?_⟩
   refine ⟨_,rfl,_,rfl,la,_,rfl,.inl (cE.of (s2 _ _ VO)),rfl,tF _,_,iE,?_,c6 s2 Iv,?_⟩
   ·rw [Bg,af,aM]
    exact cv (by lia)
   ·rw [aj,cT,a4]
    unfold zd
    rw [a4]
    show some (HO.a6 (_++[V.bl (LM (V.int (j:Nat)) (nV t))]))=_
    rw [Ew]
    rfl
  ·rintro H2 ⟨s2,iE⟩
   rw [aK] at iE
   have P0:Qm.Cf s.n ((List.range s.n).map λx=>t.contains x) (Qm.HC s (restOf s t) 0):=⟨by rw [af,aM],λx hx=>by
    rw [Qm.JB s t hx,ay,b9 hx]
    show some (t.contains x)=some true↔_
    rw [Option.some.injEq,cn]⟩
   generalize (List.range s.n).map (λx=>t.contains x)=MD at iE P0
   have PM:H pa=none:=Iv
   refine ⟨bD _,λrp Mz=> ?_⟩
   have MF:rp≠pa:=aY (az iE Mz)
   have s3:bB H2 (bG H2 rp (.a6 [])):=aN Mz
   have t3:bG H2 rp (.a6 []) rp=some (.a6 []):=aj
   generalize bG H2 rp (.a6 [])=H3 at s3 t3
   have U3:=s2.free Mz
   have R3:=(R.same s2).same s3
   refine ⟨_,rfl,pp,_,rfl,.inl (cE.of R3.a6),_,rfl,(by lia),(by rw [af,R.len];lia),?_⟩
   rw [af,R.len]
   have KL:=Qm.Al s t
   refine fP (Pv:=λi σ H'=>∃(pl:List Bool) (ads:List Addr) (v3:Option V),σ=[some (.ref pp),some (.ref la),some (.ref pa),v3,some (.ref rp)]/\H' pa=some (.a6 (zd pl))/\Qm.Cf s.n pl (Qm.HC s (restOf s t) i)/\qG H' rp ads (Qm.IA s (restOf s t) i)/\rp∉ads/\pa∉ads/\bB H H') ⟨MD,[],none,rfl,s3 _ _ iE,P0,⟨rfl,t3,λi a r ha=>by simp at ha⟩,by simp,by simp,s2.trans s3⟩ ?_ ?_
   ·rintro i σ H4 hi ⟨pl,ads,v3,rfl,AB,P4,L4,VP,VQ,s4⟩
    rw [aK] at hi
    rw [di]
    by_cases hX:Qm.HC s (restOf s t) i i
    ·obtain ⟨e1,e2⟩:=Qm.JX KL hX
     refine ⟨_,rfl,_,rfl,pa,_,_,_,rfl,rfl,cE.of AB,cg (BW (P4.GJ hi hX)),_,rfl,i0 ?_⟩
     exact ⟨pl,ads,_,rfl,AB,P4.Tv λx _=>(e2 x).symm,by rw [e1];exact L4,VP,VQ,s4⟩
    ·obtain ⟨e1,e2,e3,e4⟩:=Qm.Lp KL hX
     refine ⟨_,rfl,_,rfl,pa,_,_,_,rfl,rfl,cE.of AB,cg (BW (P4.no hi hX)),_,rfl,ij ?_⟩
     refine ⟨_,rfl,.inl ⟨rfl,_,cE.of L4.a6⟩,_,rfl,_,rfl,_,rfl,s,pp,pa,rs,restOf s t,i,Qm.HC s (restOf s t) i,pl,rfl,R.same s4,AB,XZ,ME,hn,KL,λz hz=>(Qm.vd.mp hz).1,λz _ hz=> .inl hz,e1,e2,P4,λH5 p5 pl5 vM K2 P5 U4 t5=> ?_⟩
     have YZ:=vM _ _ L4.a6 MF
     have hpl:=Qm.xT s (restOf s t) i
     refine ⟨rp,_,_,rfl,rfl,YZ,(by rw [af,L4.len];exact cv (by lia)),?_⟩
     have Nu:p5≠rp:=aY (az L4.a6 U4)
     have U5:p5≠pa:=aY (az AB U4)
     have L5:qG H5 rp ads (Qm.IA s (restOf s t) i):=⟨L4.len,YZ,λj a r h1 h2=>vM _ _ (L4.row j a r h1 h2) λe=>VQ (e▸aw h1)⟩
     refine ⟨pl5,ads++[p5],_,rfl,by rw [aL (aY MF)];exact K2,P5.Tv λx _=>(e4 x).symm,by rw [e3];exact L5.snoc VP (bB.refl _) t5 Nu,?_,?_,λb o e=> ?_⟩
     ·intro hm
      rcases aI.mp hm with hm|hm
      ·exact VP hm
      ·exact Nu (bb.mp hm).symm
     ·intro hm
      rcases aI.mp hm with hm|hm
      ·exact VQ hm
      ·exact U5 (bb.mp hm).symm
     ·rw [aL (az e U3)]
      exact vM b o (s4 b o e) (az e PM)
   ·rintro σ H4 ⟨pl,ads,v3,rfl,AB,P4,L4,VP,VQ,s4⟩
    rw [aK,Qm.xS] at L4
    exact ⟨_,rfl,k H4 rp ads s4 L4 U3⟩
abbrev lQ:Stmt:=iB 74
theorem o7:bt ["pieces","piece"] ["pieces"] (aJ lQ):=⟨rfl,rfl,rfl,by decide +kernel,rfl,by decide +kernel,by decide +kernel⟩
def O6:Sp:=λvs H Q _=>∃(p:Addr) (ads:List Addr) (L:List (List Nat)),vs=[.ref p]/\qG H p ads L/\L.length<=900/\
 ∀H',bB H H'->Q (.int ((L.filter λq=>q.length % 2==1).length:Nat)) H'
theorem Lz (n:Nat):decide (V.int (((n:Nat):Int) % 2)=V.int 1)=(n % 2==1):=by
 by_cases h:n % 2=1
 ·rw [aW (show V.int (((n:Nat):Int) % 2)=V.int 1 by congr 1;lia)]
  simp [h]
 ·rw [a8 (λe=>h (by have:=V.int.inj e;lia))]
  simp [h]
theorem RY (D:Df K mg "odd_pieces" lQ) (T:Tx K mg G U):dQ P w K mg base 1 "odd_pieces" ["pieces"] O6:=by
 obtain ⟨f,fd,M,F⟩:=D
 refine ⟨f,fd,M,F.kp,F.cC (λ_ _ _ _ _ _ us hl=>(match us,hl with|[_],_=>rfl)),F.ok o7 (λvs H Q E h=> ?_) (λcdv A bE s H vs Q E hr h=> ?_)⟩
 ·obtain ⟨p,ads,L,rfl,_⟩:=h
  rfl
 ·obtain ⟨p,ads,L,rfl,A0,hL,k⟩:=h
  refine ⟨_,(aq (aV (bT (fF (K:=K)) (by rfl) T.len bh (aa (mh rfl o7.nd (iU:=[("piece",1)]) (fo (K:=K) (pv 0)) (eC (by show nP ["pieces","piece"] (aJ lQ) _ _=true;decide +kernel)) (λ_ _ _ _ _=>(cu (i:=1) o7.nd rfl (Or.inl rfl))) (λ_ _ _ _ _=>by exact (lT (bo dU (eY AV (bT (fF (K:=K)) (by rfl) T.len bh (aa (pv 1) ah)) bc) bc (bN _)))) (λ_ _ _ _ _=>by exact (pv 1))) ah)))),?_⟩
  refine ⟨_,rfl,p,rfl,⟨_,cE.of A0.a6⟩,λD hD=> ?_⟩
  refine jK (K:=K) (a:=p) (xs:=ads.map V.ref) (Pv:=λj H2=>bB H H2/\∃vs:List V,H2 D=some (.a6 vs)/\vs.length=((L.take j).filter λq=>q.length % 2==1).length) ⟨aN hD,[],aj,rfl⟩ (λj H2 _ z=>cE.of (z.1 _ _ A0.a6)) ?_ ?_
  ·rintro j x H2 hx ⟨s2,vs,iE,U6⟩
   obtain ⟨a,r,ha,B8,rfl,kW⟩:=(A0.same s2).get hx
   refine ⟨rfl,_,rfl,a,_,rfl,.inl (cE.of kW),_,_,rfl,rfl,(by show (0:Int)< 2;decide),rfl,_,rfl,?_⟩
   rw [cN,Lz]
   have hsm:((L.take j).filter λq=>q.length % 2==1).length<=L.length:=bg (bQ _ _) (by rw [bf];lia)
   refine gr (λe1=> ?_) (λe1=> ?_)
   ·refine ⟨_,rfl,vs,iE,cv (by lia),c6 s2 hD,vs++[V.ref a],aj,?_⟩
    rw [c4 B8,cj,ao,ao,U6,aS (p:=λq:List Nat=>q.length % 2==1) e1]
    rfl
   ·refine ⟨s2,vs,iE,?_⟩
    rw [c4 B8,cj,aO (p:=λq:List Nat=>q.length % 2==1) (by rw [e1];simp),eE,bR]
    exact U6
  ·rintro H2 ⟨s2,vs,iE,U6⟩
   rw [af,A0.len,bu] at U6
   refine ⟨D,_,rfl,.inl (cE.of iE),?_⟩
   rw [U6]
   exact k H2 s2
abbrev lB:Stmt:=iB 75
theorem pT:bt ["partners","left_out","odd"] ["partners","left_out"] (aJ lB):=⟨rfl,rfl,rfl,by decide +kernel,rfl,by decide +kernel,by decide +kernel⟩
def LP:Sp:=λvs H Q _=>∃(s:l9) (pp la:Addr) (rs:List Addr) (t:List Nat),vs=[.ref pp,.ref la]/\dJ H pp rs (Qm.jA s) s.n/\H la=some (.a6 (nV t))/\s.n<=10/\
 ∀H',bB H H'->Q (.int (Vbqzak.bound s t:Nat)) H'
theorem Ts (D:Df K mg "most_pairs_by" lB) (T:Tx K mg G U) (gm:dQ P w K mg base 2 "pieces_without" ["partners","left_out"] Pn) (jm:dQ P w K mg base 1 "odd_pieces" ["pieces"] O6):dQ P w K mg base 3 "most_pairs_by" ["partners","left_out"] LP:=by
 obtain ⟨f,fd,M,F⟩:=D
 refine ⟨f,fd,M,F.kp,F.cC (λ_ _ _ _ _ _ us hl=>(match us,hl with|[_,_],_=>rfl)),F.ok pT (λvs H Q E h=> ?_) (λcdv A bE s H vs Q E hr h=> ?_)⟩
 ·obtain ⟨s,pp,la,rs,t,rfl,_⟩:=h
  rfl
 ·obtain ⟨s,pp,la,rs,t,rfl,R,VO,hn,k⟩:=h
  refine ⟨_,(ai (bx (i:=2) pT.nd rfl (Or.inl rfl) (bW jm (hr.bY (by decide)) (aa (bW gm (hr.bY (by decide)) (aa (pv 0) (aa (pv 1) ah))) ah))) (aq (aV (eY Bj (eY o6 (eY lA (bT (fF (K:=K)) (by rfl) T.len bh (aa (pv 0) ah)) (bT (fF (K:=K)) (by rfl) T.len bh (aa (pv 1) ah))) (pv 2)) bc)))),?_⟩
  refine ⟨_,rfl,_,rfl,s,pp,la,rs,t,rfl,R,VO,hn,λH1 p1 ads s1 L1 uM=> ?_⟩
  have hpl:(pieces s (restOf s t)).length<=s.n:=by rw [<-Qm.xS];exact Qm.xT _ _ _
  refine ⟨p1,ads,_,rfl,L1,by lia,λH2 s2=> ?_⟩
  have Qo:=s1.trans s2
  have R2:=R.same Qo
  have a0d:=Qm.Oq s t
  refine ⟨_,rfl,pp,_,rfl,.inl (cE.of R2.a6),_,rfl,la,_,rfl,.inl (cE.of (Qo _ _ VO)),_,_,rfl,rfl,_,rfl,_,_,rfl,rfl,_,_,rfl,rfl,⟨by decide,by decide⟩,?_⟩
  rw [af,R2.len,cN]
  have e:((((s.n:Nat):Int)+((t.length:Nat):Int)-(((pieces s (restOf s t)).filter λq=>q.length % 2==1).length:Nat)) / 2)=((Vbqzak.bound s t:Nat):Int):=by
   have:(((pieces s (restOf s t)).filter λq=>q.length % 2==1).length)=Vbqzak.odd s t:=rfl
   rw [this]
   unfold Vbqzak.bound
   lia
  rw [<-e] at k
  exact k H2 Qo
end
end Qz
end
section
namespace Qz
open PySem PySem.Spec PyProof.Rows L2
open Vbqzak (step mayPair whole piece pieces restOf bestSet)
theorem Mg (n:Nat) (r:List Nat):(Qm.ext n 0 r).length<=n:=by
 unfold Qm.ext
 rw [af,nu]
 lia
theorem vx (n:Nat):∀L:List (List Nat),(L.flatMap (Qm.ext n 0)).length<=L.length*n
 |[]=>by simp
 |r::L=>by
  have:=vx n L
  have:=Mg n r
  rw [da,ao,aB,rF]
  lia
section
variable {P:Program} {w:World} {K:PySem.W.Frag} {mg:Str->Option Value} {base:Heap} {G U:Addr}
abbrev lr:Stmt:=iB 76
theorem gZ:bt ["rows","teams","longer","row","first","team"] ["rows","teams"] (aJ lr):=⟨rfl,rfl,rfl,by decide +kernel,rfl,by decide +kernel,by decide +kernel⟩
def RZ:Sp:=λvs H Q _=>∃(p:Addr) (ads:List Addr) (L:List (List Nat)) (n:Nat),vs=[.ref p,.int n]/\qG H p ads L/\n<=10/\L.length<=1024/\(∀r∈L,r.length<=10/\∀x∈r,x< n)/\
 ∀(H':Hp) (q:Addr) (ads':List Addr),bB H H'->qG H' q ads' (L.flatMap (Qm.ext n 0))->(∀a∈ads',H a=none)->H q=none->Q (.ref q) H'
theorem Sk (D:Df K mg "one_team_more" lr) (T:Tx K mg G U):dQ P w K mg base 1 "one_team_more" ["rows","teams"] RZ:=by
 obtain ⟨f,fd,M,F⟩:=D
 refine ⟨f,fd,M,F.kp,F.cC (λ_ _ _ _ _ _ us hl=>(match us,hl with|[_,_],_=>rfl)),F.ok gZ (λvs H Q E h=> ?_) (λcdv A bE s H vs Q E hr h=> ?_)⟩
 ·obtain ⟨p,ads,L,n,rfl,_⟩:=h
  rfl
 ·obtain ⟨p,ads,L,n,rfl,A0,hn,hL,U7,k⟩:=h
  refine ⟨_,(ai (bx (i:=2) gZ.nd rfl (Or.inl rfl) (cf ah)) (ai (d8 aT rfl (fo (K:=K) (pv 0)) (cu (i:=3) gZ.nd rfl (Or.inl rfl)) (ai (bx (i:=4) gZ.nd rfl (Or.inl rfl) (vC (yy (K:=K) (pv 3)) (eY lA (cH (je (K:=K)) (pv 3) (Jc Fj bc) (λ_ _=>rfl)) bc) bc)) (aq (d8 aT rfl (z8 rfl T.range (aa (pv 4) (aa (pv 1) ah))) (cu (i:=5) gZ.nd rfl (Or.inl rfl)) (aq (dS (mS (K:=K) aQ bL bM fe (pv 2) (aa (eY sr (pv 3) (cf (aa (pv 5) ah))) ah)))))))) (aq (aV (pv 2))))),?_⟩
  refine ⟨bD _,λq hq=> ?_⟩
  have s1:bB H (bG H q (.a6 [])):=aN hq
  have t1:bG H q (.a6 []) q=some (.a6 []):=aj
  generalize bG H q (.a6 [])=H1 at s1 t1
  have Nv:∀(X:List Addr),(∀a∈X,H a=none/\a≠q)->q∉X:=λX hX hm=>(hX q hm).2 rfl
  refine ⟨_,rfl,p,rfl,⟨_,cE.of (s1 _ _ A0.a6)⟩,fY (K:=K) (a:=p) (xs:=ads.map V.ref) (λj σ H'=>∃(ads':List Addr) (v3 v4 v5:Option V),σ=[some (.ref p),some (.int (n:Nat)),some (.ref q),v3,v4,v5]/\bB H H'/\qG H' q ads' ((L.take j).flatMap (Qm.ext n 0))/\∀a∈ads',H a=none/\a≠q)
   ⟨[],none,none,none,rfl,s1,⟨rfl,t1,λi a r ha=>by simp at ha⟩,by simp⟩ (λj σ H' _ ⟨_,_,_,_,_,z,_⟩=>cE.of (z _ _ A0.a6)) ?_ ?_⟩
  ·rintro j x σ H2 hx ⟨VR,v3,v4,v5,rfl,s2,L2,hn2⟩
   obtain ⟨a,r,ha,B8,rfl,kW⟩:=(A0.same s2).get hx
   obtain ⟨VH,UL⟩:=U7 r (aw B8)
   have hjL:j< L.length:=(ae.mp B8).1
   have fl:((L.take j).flatMap (Qm.ext n 0)).length<=10240:=by
    have h1:=vx n (L.take j)
    rw [bf] at h1
    have h2:min j L.length*n<=1024*10:=rH (by lia) hn
    lia
   refine ⟨_,rfl,!r.isEmpty,.inl ⟨nV r,cE.of kW,(by cases r<;>rfl)⟩,?_⟩
   obtain ⟨f0,U8⟩:∃f0,f0=Qm.lC 0 r:=⟨_,rfl⟩
   have hfn:f0<=n:=by
    rw [U8]
    unfold Qm.lC
    cases hg:r.getLast? with
    |none=>exact bD _
    |some y=>exact UL y (List.mem_of_getLast? hg)
   refine gr (λe1=> ?_) (λe1=> ?_)
   ·obtain ⟨r',y,TQ⟩:∃r' y,r=r'++[y]:=⟨r.dropLast,r.getLast (by intro e;subst e;cases e1),(eF _).symm⟩
    have ef:((y:Nat):Int)+1=((f0:Nat):Int):=by
     rw [U8,TQ]
     unfold Qm.lC
     rw [List.getLast?_concat]
     show ((y:Nat):Int)+1=((y+1:Nat):Int)
     lia
    refine ⟨_,rfl,_,rfl,xI (cE.of kW) (by rw [TQ,fB];exact DR _ _) ⟨_,_,rfl,rfl,?_⟩⟩
    show tR 4 (V.int (((y:Nat):Int)+1)) _ _ _
    rw [ef]
    clear ef
    clear TQ r' y e1
    refine ⟨_,rfl,_,rfl,_,_,rfl,⟨by lia,by lia,by lia,by lia⟩,?_⟩
    rw [show (((n:Nat):Int)-((f0:Nat):Int)).toNat=n-f0 by lia]
    refine fP (Pv:=λi σ H'=>∃(ads':List Addr) (v5:Option V),σ=[some (.ref p),some (.int (n:Nat)),some (.ref q),some (.ref a),some (.int (f0:Nat)),v5]/\bB H H'/\qG H' q ads' ((L.take j).flatMap (Qm.ext n 0)++(List.range' f0 i).map λx=>r++[x])/\∀a∈ads',H a=none/\a≠q) ⟨VR,v5,rfl,s2,by rw [List.range'_zero,gF,bR];exact L2,hn2⟩ ?_ ?_
    ·rintro i σ H3 hi ⟨MG,w5,rfl,s3,L3,MH⟩
     rw [show ((f0:Nat):Int)+((i:Nat):Int)=((f0+i:Nat):Int) by lia]
     have KN:=(A0.same s3).row j a r ha B8
     have X4:=Nv MG MH
     refine ⟨_,rfl,.inl ⟨rfl,_,cE.of L3.a6⟩,_,rfl,_,rfl,(by show 1<=sizeLine;decide),λt4 Fz=> ?_⟩
     have PQ:a≠t4:=az KN Fz
     refine ⟨a,t4,_,_,rfl,rfl,(by rw [aL PQ];exact KN),aj,(by rw [cN];exact xt (by simp;lia)),λp5 K2=> ?_⟩
     have s4:bB H3 (bG H3 t4 (.a6 [V.int ((f0+i:Nat):Int)])):=aN Fz
     have s5:bB (bG H3 t4 (.a6 [V.int ((f0+i:Nat):Int)])) (bG (bG H3 t4 (.a6 [V.int ((f0+i:Nat):Int)])) p5 (.a6 (nV r++[V.int ((f0+i:Nat):Int)]))):=aN K2
     have t5:bG (bG H3 t4 (.a6 [V.int ((f0+i:Nat):Int)])) p5 (.a6 (nV r++[V.int ((f0+i:Nat):Int)])) p5=some (.a6 (nV (r++[f0+i]))):=by rw [aj,fB]
     generalize bG (bG H3 t4 (.a6 [V.int ((f0+i:Nat):Int)])) p5 (.a6 (nV r++[V.int ((f0+i:Nat):Int)]))=H5 at s5 t5
     have PU:=s4.trans s5
     have KO:H3 p5=none:=s4.free K2
     have KP:p5≠q:=aY (az L3.a6 KO)
     refine ⟨q,_,_,rfl,rfl,PU _ _ L3.a6,?_,?_⟩
     ·rw [af,L3.len,ao,af,nu,dH]
      lia
     ·refine ⟨MG++[p5],_,rfl,c6 (s3.trans PU) hq,?_,λb hb=> ?_⟩
      ·have:=L3.snoc X4 PU t5 KP
       rw [dN] at this
       have e:(List.range' f0 (i+1)).map (λx=>r++[x])=(List.range' f0 i).map (λx=>r++[x])++[r++[f0+i]]:=by
        rw [uf,a4]
        simp
       rw [e]
       exact this
      ·rcases aI.mp hb with hb|hb
       ·exact MH b hb
       ·rw [bb.mp hb]
        exact ⟨s3.free KO,KP⟩
    ·rintro σ H3 ⟨MG,w5,rfl,s3,L3,MH⟩
     refine ⟨MG,_,_,_,rfl,s3,?_,MH⟩
     have e:(L.take (j+1)).flatMap (Qm.ext n 0)=(L.take j).flatMap (Qm.ext n 0)++(List.range' f0 (n-f0)).map λx=>r++[x]:=by
      rw [c4 B8,dw]
      show _++(Qm.ext n 0 r++[])=_
      rw [bR]
      unfold Qm.ext
      rw [<-U8]
     rw [e]
     exact L3
   ·have:r=[]:=by
     cases r with
     |nil=>rfl
     |cons a b=>cases e1
    have ef:V.int 0=V.int ((f0:Nat):Int):=by
     rw [U8,this]
     rfl
    show tR 4 (V.int 0) _ _ _
    rw [ef]
    clear ef this e1
    refine ⟨_,rfl,_,rfl,_,_,rfl,⟨by lia,by lia,by lia,by lia⟩,?_⟩
    rw [show (((n:Nat):Int)-((f0:Nat):Int)).toNat=n-f0 by lia]
    refine fP (Pv:=λi σ H'=>∃(ads':List Addr) (v5:Option V),σ=[some (.ref p),some (.int (n:Nat)),some (.ref q),some (.ref a),some (.int (f0:Nat)),v5]/\bB H H'/\qG H' q ads' ((L.take j).flatMap (Qm.ext n 0)++(List.range' f0 i).map λx=>r++[x])/\∀a∈ads',H a=none/\a≠q) ⟨VR,v5,rfl,s2,by rw [List.range'_zero,gF,bR];exact L2,hn2⟩ ?_ ?_
    ·rintro i σ H3 hi ⟨MG,w5,rfl,s3,L3,MH⟩
     rw [show ((f0:Nat):Int)+((i:Nat):Int)=((f0+i:Nat):Int) by lia]
     have KN:=(A0.same s3).row j a r ha B8
     have X4:=Nv MG MH
     refine ⟨_,rfl,.inl ⟨rfl,_,cE.of L3.a6⟩,_,rfl,_,rfl,(by show 1<=sizeLine;decide),λt4 Fz=> ?_⟩
     have PQ:a≠t4:=az KN Fz
     refine ⟨a,t4,_,_,rfl,rfl,(by rw [aL PQ];exact KN),aj,(by rw [cN];exact xt (by simp;lia)),λp5 K2=> ?_⟩
     have s4:bB H3 (bG H3 t4 (.a6 [V.int ((f0+i:Nat):Int)])):=aN Fz
     have s5:bB (bG H3 t4 (.a6 [V.int ((f0+i:Nat):Int)])) (bG (bG H3 t4 (.a6 [V.int ((f0+i:Nat):Int)])) p5 (.a6 (nV r++[V.int ((f0+i:Nat):Int)]))):=aN K2
     have t5:bG (bG H3 t4 (.a6 [V.int ((f0+i:Nat):Int)])) p5 (.a6 (nV r++[V.int ((f0+i:Nat):Int)])) p5=some (.a6 (nV (r++[f0+i]))):=by rw [aj,fB]
     generalize bG (bG H3 t4 (.a6 [V.int ((f0+i:Nat):Int)])) p5 (.a6 (nV r++[V.int ((f0+i:Nat):Int)]))=H5 at s5 t5
     have PU:=s4.trans s5
     have KO:H3 p5=none:=s4.free K2
     have KP:p5≠q:=aY (az L3.a6 KO)
     refine ⟨q,_,_,rfl,rfl,PU _ _ L3.a6,?_,?_⟩
     ·rw [af,L3.len,ao,af,nu,dH]
      lia
     ·refine ⟨MG++[p5],_,rfl,c6 (s3.trans PU) hq,?_,λb hb=> ?_⟩
      ·have:=L3.snoc X4 PU t5 KP
       rw [dN] at this
       have e:(List.range' f0 (i+1)).map (λx=>r++[x])=(List.range' f0 i).map (λx=>r++[x])++[r++[f0+i]]:=by
        rw [uf,a4]
        simp
       rw [e]
       exact this
      ·rcases aI.mp hb with hb|hb
       ·exact MH b hb
       ·rw [bb.mp hb]
        exact ⟨s3.free KO,KP⟩
    ·rintro σ H3 ⟨MG,w5,rfl,s3,L3,MH⟩
     refine ⟨MG,_,_,_,rfl,s3,?_,MH⟩
     have e:(L.take (j+1)).flatMap (Qm.ext n 0)=(L.take j).flatMap (Qm.ext n 0)++(List.range' f0 (n-f0)).map λx=>r++[x]:=by
      rw [c4 B8,dw]
      show _++(Qm.ext n 0 r++[])=_
      rw [bR]
      unfold Qm.ext
      rw [<-U8]
     rw [e]
     exact L3
  ·rintro σ H2 ⟨VR,v3,v4,v5,rfl,s2,L2,hn2⟩
   rw [af,A0.len,bu] at L2
   exact ⟨_,rfl,k H2 q VR s2 L2 (λa ha=>(hn2 a ha).1) hq⟩
end
end Qz
end
section
namespace Qz
open PySem PySem.Spec PyProof.Rows L2
open Vbqzak (step mayPair whole piece pieces restOf bestSet rising no nats)
section
variable {P:Program} {w:World} {K:PySem.W.Frag} {mg:Str->Option Value} {base:Heap} {G U:Addr}
abbrev sN:Stmt:=iB 77
theorem gJ:bt ["partners","told","fewest","rows","row","shown"] ["partners"] (aJ sN):=⟨rfl,rfl,rfl,by decide +kernel,rfl,by decide +kernel,by decide +kernel⟩
def SI:Sp:=λvs H Q _=>∃(s:l9) (pp:Addr) (rs:List Addr),vs=[.ref pp]/\dJ H pp rs (Qm.jA s) s.n/\s.n<=10/\
 ∀(H':Hp) (p:Addr),bB H H'->H p=none->H' p=some (.a6 (nV (bestSet s).2))->Q (.ref p) H'
theorem RU (D:Df K mg "told_set" sN) (T:Tx K mg G U) (dX:dQ P w K mg base 3 "most_pairs_by" ["partners","left_out"] LP) (mM:dQ P w K mg base 1 "one_team_more" ["rows","teams"] RZ):dQ P w K mg base 4 "told_set" ["partners"] SI:=by
 obtain ⟨f,fd,M,F⟩:=D
 refine ⟨f,fd,M,F.kp,F.cC (λ_ _ _ _ _ _ us hl=>(match us,hl with|[_],_=>rfl)),F.ok gJ (λvs H Q E h=> ?_) (λcdv A bE s H vs Q E hr h=> ?_)⟩
 ·obtain ⟨s,pp,rs,rfl,_⟩:=h
  rfl
 ·obtain ⟨s,pp,rs,rfl,R,hn,k⟩:=h
  refine ⟨_,(ai (bx (i:=1) gJ.nd rfl (Or.inl rfl) (cf ah)) (ai (bx (i:=2) gJ.nd rfl (Or.inl rfl) (bW dX (hr.bY (by decide)) (aa (pv 0) (aa (pv 1) ah)))) (ai (bx (i:=3) gJ.nd rfl (Or.inl rfl) (cf (aa (pv 1) ah))) (ai (l5 aT (yy (K:=K) (pv 3)) (ai (d8 aT rfl (fo (K:=K) (pv 3)) (cu (i:=4) gJ.nd rfl (Or.inl rfl)) (ai (bx (i:=5) gJ.nd rfl (Or.inl rfl) (bW dX (hr.bY (by decide)) (aa (pv 0) (aa (pv 4) ah)))) (aq (cP (bo rb (pv 5) (pv 2) (bN _)) (ai (bx (i:=2) gJ.nd rfl (Or.inl rfl) (pv 5)) (aq (bx (i:=1) gJ.nd rfl (Or.inl rfl) (pv 4)))) bF)))) (aq (bx (i:=3) gJ.nd rfl (Or.inl rfl) (bW mM (hr.bY (by decide)) (aa (pv 3) (aa (bT (fF (K:=K)) (by rfl) T.len bh (aa (pv 0) ah)) ah))))))) (aq (aV (pv 1))))))),?_⟩
  refine ⟨bD _,λt0 Qj=> ?_⟩
  have s1:bB H (bG H t0 (.a6 [])):=aN Qj
  have t1:bG H t0 (.a6 []) t0=some (.a6 (nV [])):=aj
  generalize bG H t0 (.a6 [])=H1 at s1 t1
  refine ⟨_,rfl,_,rfl,s,pp,t0,rs,[],rfl,R.same s1,t1,hn,λH2 s2=> ?_⟩
  refine ⟨_,rfl,(by show 1<=sizeLine;decide),λr0 IB=> ?_⟩
  have s3:bB H2 (bG H2 r0 (.a6 [V.ref t0])):=aN IB
  have t3:bG H2 r0 (.a6 [V.ref t0]) r0=some (.a6 [V.ref t0]):=aj
  generalize bG H2 r0 (.a6 [V.ref t0])=H3 at s3 t3
  have jt:=s1.trans (s2.trans s3)
  have K0:=s3 _ _ (s2 _ _ t1)
  have c0:Vbqzak.choose 0 (List.range s.n)=[[]]:=by cases List.range s.n<;>rfl
  refine ⟨λm σ H'=>∃(kk:Nat) (ta ra:Addr) (ads:List Addr) (v4 v5:Option V),σ=[some (.ref pp),some (.ref ta),some (.int ((((Qm.mG s.n kk).foldl (Qm.xW s) (Vbqzak.bound s [],[])).1:Nat):Int)),some (.ref ra),v4,v5]/\kk<=s.n+1/\H ta=none/\H' ta=some (.a6 (nV ((Qm.mG s.n kk).foldl (Qm.xW s) (Vbqzak.bound s [],[])).2))/\qG H' ra ads (Vbqzak.choose kk (List.range s.n))/\(∀a∈ads,H a=none)/\bB H H'/\m=s.n+1-kk,
   ⟨s.n+1,0,t0,r0,[t0],none,none,rfl,bD _,Qj,K0,⟨by rw [c0];rfl,t3,λi a r ha hr=> ?_⟩,λa ha=>by rw [bb.mp ha];exact Qj,jt,rfl⟩,?_⟩
  ·rw [c0] at hr
   match i,ha,hr with
   |0,ha,hr=>
    have ha:t0=a:=by simpa using ha
    have hr:[]=r:=by simpa using hr
    rw [<-ha,<-hr]
    exact K0
   |i+1,ha,_=>simp at ha
  rintro m σ H4 ⟨kk,ta,ra,ads,v4,v5,rfl,hk,Cj,Fz,L4,X5,s4,hm⟩
  have hcl:(Vbqzak.choose kk (List.range s.n)).length<=1024:=by
   have h1:=Qm.uG kk (List.range s.n)
   rw [aM] at h1
   exact bg h1 (rO (by decide) hn)
  refine ⟨_,rfl,!(Vbqzak.choose kk (List.range s.n)).isEmpty,.inl ⟨ads.map V.ref,cE.of L4.a6,?_⟩,?_⟩
  ·have:=L4.len
   cases ads with
   |nil=>
    have:Vbqzak.choose kk (List.range s.n)=[]:=List.length_eq_zero_iff.mp this.symm
    rw [this]
    rfl
   |cons a b=>
    cases e:Vbqzak.choose kk (List.range s.n) with
    |nil=>rw [e] at this;simp at this
    |cons c d=>rfl
  refine gr (λe1=> ?_) (λe1=> ?_)
  ·have xM:kk<=s.n:=by
    apply a5
    intro hc
    rw [Qm.sj (by rw [aM];lia)] at e1
    cases e1
   refine ⟨fun σ H'=>∃(ta ra:Addr) (ads:List Addr) (v4 v5:Option V),σ=[some (.ref pp),some (.ref ta),some (.int ((((Qm.mG s.n (kk+1)).foldl (Qm.xW s) (Vbqzak.bound s [],[])).1:Nat):Int)),some (.ref ra),v4,v5]/\H ta=none/\H' ta=some (.a6 (nV ((Qm.mG s.n (kk+1)).foldl (Qm.xW s) (Vbqzak.bound s [],[])).2))/\qG H' ra ads (Vbqzak.choose (kk+1) (List.range s.n))/\(∀a∈ads,H a=none)/\bB H H',?_,?_⟩
   ·rintro σ' H' ⟨ta',ra',ads',w4,w5,rfl,h1,h2,h3,h4,h5⟩
    exact ⟨s.n+1-(kk+1),by lia,kk+1,ta',ra',ads',w4,w5,rfl,by lia,h1,h2,h3,h4,h5,rfl⟩
   ·have eb:(Qm.mG s.n (kk+1)).foldl (Qm.xW s) (Vbqzak.bound s [],[])=(Vbqzak.choose kk (List.range s.n)).foldl (Qm.xW s) ((Qm.mG s.n kk).foldl (Qm.xW s) (Vbqzak.bound s [],[])):=by
     rw [Qm.Dl,fM]
    generalize (Qm.mG s.n kk).foldl (Qm.xW s) (Vbqzak.bound s [],[])=b0 at Fz eb ⊢
    refine ⟨_,rfl,ra,rfl,⟨_,cE.of L4.a6⟩,fY (K:=K) (a:=ra) (xs:=ads.map V.ref) (λj σ H'=>∃(ta:Addr) (v4 v5:Option V),σ=[some (.ref pp),some (.ref ta),some (.int (((((Vbqzak.choose kk (List.range s.n)).take j).foldl (Qm.xW s) b0).1:Nat):Int)),some (.ref ra),v4,v5]/\H ta=none/\H' ta=some (.a6 (nV (((Vbqzak.choose kk (List.range s.n)).take j).foldl (Qm.xW s) b0).2))/\bB H4 H')
     ⟨ta,v4,v5,rfl,Cj,Fz,bB.refl H4⟩ (λj σ H' _ ⟨_,_,_,_,_,_,z⟩=>cE.of (z _ _ L4.a6)) ?_ ?_⟩
    ·rintro j x σ H5 hx ⟨tb,w4,w5,rfl,T2,PF,s5⟩
     obtain ⟨a,r,ha,B8,rfl,kW⟩:=(L4.same s5).get hx
     have hab:H a=none:=X5 a (aw ha)
     refine ⟨_,rfl,_,rfl,s,pp,a,rs,r,rfl,(R.same s4).same s5,kW,hn,λH6 s6=> ?_⟩
     refine ⟨_,rfl,_,rfl,_,_,rfl,rfl,_,rfl,?_⟩
     have en:((Vbqzak.choose kk (List.range s.n)).take (j+1)).foldl (Qm.xW s) b0=Qm.xW s (((Vbqzak.choose kk (List.range s.n)).take j).foldl (Qm.xW s) b0) r:=by
      rw [c4 B8,fM]
      rfl
     generalize ((Vbqzak.choose kk (List.range s.n)).take j).foldl (Qm.xW s) b0=b1 at PF en ⊢
     refine l4 (λe2=> ?_) (λe2=> ?_)
     ·have e2:Vbqzak.bound s r< b1.1:=by have:=bw e2;lia
      have U9:Qm.xW s b1 r=(Vbqzak.bound s r,r):=by unfold Qm.xW;rw [aA e2]
      refine ⟨_,rfl,_,rfl,a,some (.ref a),some (.int ((Vbqzak.bound s r:Nat):Int)),?_,hab,?_,s5.trans s6⟩
      ·rw [en,U9]
       rfl
      ·rw [en,U9]
       exact s6 _ _ kW
     ·have e2:¬Vbqzak.bound s r< b1.1:=λz=>e2 (aW (by lia))
      have U9:Qm.xW s b1 r=b1:=by unfold Qm.xW;rw [au e2]
      refine ⟨tb,some (.ref a),some (.int ((Vbqzak.bound s r:Nat):Int)),?_,T2,?_,s5.trans s6⟩
      ·rw [en,U9]
       rfl
      ·rw [en,U9]
       exact s6 _ _ PF
    ·rintro σ H5 ⟨tb,w4,w5,rfl,T2,PF,s5⟩
     rw [af,L4.len,bu,<-eb] at PF
     rw [af,L4.len,bu,<-eb]
     have R5:=(R.same s4).same s5
     refine ⟨_,rfl,_,rfl,pp,_,rfl,.inl (cE.of R5.a6),ra,ads,_,s.n,(by rw [af,R5.len];rfl),L4.same s5,hn,hcl,λr hr=> ?_,λH6 q ads' s6 L6 hn6 U1=> ?_⟩
     ·obtain ⟨h1,h2⟩:=Qm.qO hr
      have h3:=h1.length_le
      rw [aM] at h3
      exact ⟨by lia,λx hx=>by simpa using h1.subset hx⟩
     ·rw [Qm.CJ] at L6
      exact ⟨tb,q,ads',_,_,rfl,T2,s6 _ _ PF,L6,λa ha=>(s4.trans s5).free (hn6 a ha),s4.trans (s5.trans s6)⟩
  ·have xM:kk=s.n+1:=by
    apply a5
    intro hc
    refine Qm.vq (k:=kk) (l:=List.range s.n) (by rw [aM];lia) ?_
    cases e:Vbqzak.choose kk (List.range s.n) with
    |nil=>rfl
    |cons a b=>rw [e] at e1;cases e1
   rw [xM,<-Qm.ur] at Fz
   exact ⟨_,rfl,k H4 ta s4 Cj Fz⟩
abbrev sv:Stmt:=iB 87
theorem sI:bt ["house","partners","told"] ["house"] (aJ sv):=⟨rfl,rfl,rfl,by decide +kernel,rfl,by decide +kernel,by decide +kernel⟩
def MI (G U:Addr):Sp:=λvs H Q _=>∃(h l d:Addr) (as:List Addr) (s:l9) (m:Nat),vs=[.ref h]/\fK G U H h l as s.n s.c s.games/\i4 U H h d s.barred m/\Qm.Ok s/\wK G U h l as H (step s .set) Q
theorem DH (s:l9) (h:s.n<=10):(bestSet s).2.length<=10:=by
 rw [Qm.ur]
 have key:∀(l:List (List Nat)) (b:Nat×List Nat),(∀t∈l,t.length<=10)->b.2.length<=10->(l.foldl (Qm.xW s) b).2.length<=10:=by
  intro l
  induction l with
  |nil=>exact λb _ hb=>hb
  |cons t l ih=>
   intro b hl hb
   rw [eG]
   refine ih _ (λu hu=>hl u (aE _ hu)) ?_
   unfold Qm.xW
   split
   ·exact hl t aP
   ·exact hb
 refine key _ _ (λt ht=> ?_) (by simp)
 unfold Qm.mG at ht
 obtain ⟨j,_,hj⟩:=pM.mp ht
 have h3:=(Qm.qO hj).1.length_le
 rw [aM] at h3
 lia
theorem NR (D:Df K mg "call_set" sv) (T:Tx K mg G U) (eZ:dQ P w K mg base 5 "partner_rows" ["house"] (K8 G U)) (uP:dQ P w K mg base 4 "told_set" ["partners"] SI) (dX:dQ P w K mg base 3 "most_pairs_by" ["partners","left_out"] LP) (fu:dQ P w K mg base 1 "as_list" ["numbers"] HJ):dQ P w K mg base 6 "call_set" ["house"] (MI G U):=by
 obtain ⟨f,fd,M,F⟩:=D
 refine ⟨f,fd,M,F.kp,F.cC (λ_ _ _ _ _ _ us hl=>(match us,hl with|[_],_=>rfl)),F.ok sI (λvs H Q E h=> ?_) (λcdv A bE s H vs Q E hr h=> ?_)⟩
 ·obtain ⟨h,l,d,as,s,m,rfl,_⟩:=h
  rfl
 ·obtain ⟨h,l,d,as,s,m,rfl,B,Z,O,k⟩:=h
  refine ⟨_,(ai (bx (i:=1) sI.nd rfl (Or.inl rfl) (bW eZ (hr.bY (by decide)) (aa (pv 0) ah))) (ai (bx (i:=2) sI.nd rfl (Or.inl rfl) (bW uP (hr.bY (by decide)) (aa (pv 1) ah))) (aq (aV (eY sr (cf (aa (bW dX (hr.bY (by decide)) (aa (pv 1) (aa (pv 2) ah))) ah)) (bW fu (hr.bY (by decide)) (aa (pv 2) ah))))))),?_⟩
  have gM:step s .set=(s,whole (bestSet s).1::Vbqzak.listed (bestSet s).2):=rfl
  have hb:(bestSet s).1=Vbqzak.bound s (bestSet s).2:=by rw [Qm.ur];exact Qm.GQ s _ _ rfl
  rw [gM,hb] at k
  have MA:=DH s O.zo
  refine ⟨_,rfl,h,l,d,as,s,m,rfl,B,Z,O,λH1 p1 rs s1 R1 uM UZ=> ?_⟩
  refine ⟨_,rfl,s,p1,rs,rfl,R1,O.zo,λH2 ta s2 Cj t2=> ?_⟩
  refine ⟨_,rfl,_,rfl,s,p1,ta,rs,_,rfl,R1.same s2,t2,O.zo,λH3 s3=>⟨(by show 1<=sizeLine;decide),λp hp=> ?_⟩⟩
  have t3:=s3 _ _ t2
  have s4:bB H3 (bG H3 p (.a6 [V.int ((Vbqzak.bound s (bestSet s).2:Nat):Int)])):=aN hp
  have t4:bG H3 p (.a6 [V.int ((Vbqzak.bound s (bestSet s).2:Nat):Int)]) p=some (.a6 [V.int ((Vbqzak.bound s (bestSet s).2:Nat):Int)]):=aj
  generalize bG H3 p (.a6 [V.int ((Vbqzak.bound s (bestSet s).2:Nat):Int)])=H4 at s4 t4
  refine ⟨_,rfl,ta,_,rfl,s4 _ _ t3,(by rw [cN];lia),λH5 a s5 Px ha=> ?_⟩
  refine ⟨p,a,_,_,rfl,rfl,s5 _ _ t4,ha,(by show 1+((nV (bestSet s).2).length+1)<=sizeLine;rw [cN];exact xt (by lia)),λq hq=> ?_⟩
  have My:=s1.trans (s2.trans (s3.trans (s4.trans s5)))
  refine k _ q l as (B.same (My.trans (aN hq))) (Eb.same (My.trans (aN hq))) (My.free hq) ?_
  rw [aj,bA,rV]
  rfl
abbrev jr:Stmt:=iB 88
theorem mO:bt ["house","row","place"] ["house","row"] (aJ jr):=⟨rfl,rfl,rfl,by decide +kernel,rfl,by decide +kernel,by decide +kernel⟩
def Tt (G U:Addr):Sp:=λvs H Q _=>∃(h l ra:Addr) (as:List Addr) (n c:Nat) (gs:List Gm) (xs:List Int),vs=[.ref h,.ref ra]/\fK G U H h l as n c gs/\H ra=some (.a6 (xs.map V.int))/\xs.length<=60/\Q (.bl (rising 0 (whole n-1) xs)) H
theorem Sx (D:Df K mg "are_rising_teams" jr) (T:Tx K mg G U):dQ P w K mg base 1 "are_rising_teams" ["house","row"] (Tt G U):=by
 obtain ⟨f,fd,M,F⟩:=D
 refine ⟨f,fd,M,F.kp,F.cC (λ_ _ _ _ _ _ us hl=>(match us,hl with|[_,_],_=>rfl)),F.ok mO (λvs H Q E h=> ?_) (λcdv A bE s H vs Q E hr h=> ?_)⟩
 ·obtain ⟨h,l,ra,as,n,c,gs,xs,rfl,_⟩:=h
  rfl
 ·obtain ⟨h,l,ra,as,n,c,gs,xs,rfl,B,qc,hl,k⟩:=h
  obtain ⟨dh,dd,hh⟩:=B.hs
  refine ⟨_,(ai (d8 aT rfl (d3 rfl T.range (aa (bT (fF (K:=K)) (by rfl) T.len bh (aa (pv 1) ah)) ah)) (cu (i:=2) mO.nd rfl (Or.inl rfl)) (ai (cP (PW.pt (tY (bo rb (cH (je (K:=K)) (pv 1) (pv 2) (λ_ _=>rfl)) bc (bN _)) (wo (bo JW (cH (je (K:=K)) (pv 1) (pv 2) (λ_ _=>rfl)) (cw (K:=K) (pv 0)) (bN _))))) (aq (aV sC)) bF) (aq (cP (PW.pt (wj (bo zi (pv 2) bc (bN _)) (tw (bo MO (cH (je (K:=K)) (pv 1) (pv 2) (λ_ _=>rfl)) (cH (je (K:=K)) (pv 1) (eY o6 (pv 2) bc) (λ_ _=>rfl)) (bN _))))) (aq (aV sC)) bF)))) (aq (aV sC))),?_⟩
  have bad:rising 0 (whole n-1) xs≠true->Q (.bl false) H:=λe=>by
   rw [dO.mpr e] at k
   exact k
  refine ⟨_,rfl,ra,_,rfl,.inl (cE.of qc),_,rfl,(by lia),(by rw [af];lia),?_⟩
  refine fP (Pv:=λi σ H'=>H'=H/\(∃v2,σ=[some (.ref h),some (.ref ra),v2])/\(∀(j:Nat) (x:Int),j< i->xs[j]? =some x->0<=x/\x<=whole n-1)/\∀(j:Nat) (x y:Int),j+1< i->xs[j]? =some x->xs[j+1]? =some y->x< y) ⟨rfl,⟨none,rfl⟩,λj x hj=>absurd hj (cF _),λj x y hj=>absurd hj (cF _)⟩ ?_ ?_
  ·rintro i σ H' hi ⟨rfl,⟨v2,rfl⟩,h1,h2⟩
   rw [aK,af] at hi
   rw [di]
   have PV:xs[i]? =some xs[i]:=ab hi
   generalize xs[i]=x at PV
   have hvi:(xs.map V.int)[i]? =some (V.int x):=by rw [ay,PV];rfl
   refine ⟨_,rfl,_,rfl,xI (cE.of qc) (cg hvi) ⟨_,_,rfl,rfl,_,rfl,?_⟩⟩
   refine l4 (λe1=> ?_) (λe1=> ?_)
   ·have e1:x< 0:=bw e1
    exact bad λz=>by have:=(Qm.lp.mp z).1 i x PV;lia
   have e1:¬x< 0:=λz=>e1 (aW z)
   refine ⟨_,rfl,_,rfl,xI (cE.of qc) (cg hvi) ⟨_,rfl,fI hh T.a7 T.u1 rfl ⟨_,_,rfl,rfl,_,rfl,?_⟩⟩⟩
   refine l4 (λe2=> ?_) (λe2=> ?_)
   ·have e2:x>=(n:Int):=bw e2
    exact bad λz=>by
     have:=(Qm.lp.mp z).1 i x PV
     unfold whole at this
     lia
   have e2:¬x>=(n:Int):=λz=>e2 (aW z)
   have hx:0<=x/\x<=whole n-1:=by unfold whole;lia
   have n1:∀(j:Nat) (y:Int),j< i+1->xs[j]? =some y->0<=y/\y<=whole n-1:=λj y hj hy=>by
    by_cases e:j=i
    ·subst e
     rw [PV] at hy
     rw [<-Option.some.inj hy]
     exact hx
    ·exact h1 j y (by lia) hy
   refine ⟨_,rfl,_,_,rfl,rfl,_,rfl,?_⟩
   refine l4 (λe3=> ?_) (λe3=> ?_)
   ·have e3:0< i:=by have:=bw e3;lia
    obtain ⟨j,rfl⟩:∃j,i=j+1:=⟨i-1,by lia⟩
    have VS:xs[j]? =some xs[j]:=ab (by lia)
    generalize xs[j]=y at VS
    have hvj:(xs.map V.int)[j]? =some (V.int y):=by rw [ay,VS];rfl
    refine ⟨_,rfl,_,rfl,xI (cE.of qc) (cg hvi) ⟨_,rfl,_,rfl,_,_,rfl,rfl,ra,_,_,_,rfl,rfl,cE.of qc,Am (j:=j) (by lia) hvj,_,_,rfl,rfl,_,rfl,?_⟩⟩
    refine l4 (λe4=> ?_) (λe4=> ?_)
    ·have e4:x<=y:=bw e4
     exact bad λz=>by have:=(Qm.lp.mp z).2 j y x VS PV;lia
    ·have e4:¬x<=y:=λz=>e4 (aW z)
     refine ⟨rfl,⟨_,rfl⟩,n1,λa u v ha hu hv=> ?_⟩
     by_cases e:a=j
     ·subst e
      rw [VS] at hu
      rw [PV] at hv
      rw [<-Option.some.inj hu,<-Option.some.inj hv]
      lia
     ·exact h2 a u v (by lia) hu hv
   ·have e3:i=0:=by
     apply a5
     intro z
     exact e3 (aW (by lia))
    subst e3
    refine i0 ⟨rfl,⟨_,rfl⟩,n1,λa u v ha=>absurd ha (by lia)⟩
  ·rintro σ H' ⟨rfl,⟨v2,rfl⟩,h1,h2⟩
   rw [aK,af] at h1 h2
   have:rising 0 (whole n-1) xs=true:=Qm.lp.mpr ⟨λi x hx=>h1 i x (ae.mp hx).1 hx,λi x y hx hy=>h2 i x y (ae.mp hy).1 hx hy⟩
   rw [this] at k
   exact k
abbrev nz:Stmt:=iB 89
theorem iZ:bt ["house","row","partners","pieces","told","piece"] ["house","row"] (aJ nz):=⟨rfl,rfl,rfl,by decide +kernel,rfl,by decide +kernel,by decide +kernel⟩
def MN (G U:Addr):Sp:=λvs H Q _=>∃(h l d ra:Addr) (as:List Addr) (s:l9) (m:Nat) (xs:List Int),vs=[.ref h,.ref ra]/\fK G U H h l as s.n s.c s.games/\i4 U H h d s.barred m/\Qm.Ok s/\H ra=some (.a6 (xs.map V.int))/\xs.length<=60/\wK G U h l as H (step s (.pieces xs)) Q
def KS (L:List (List Nat)):List V:=L.flatMap λq=>V.int (q.length:Nat)::nV q
theorem FY:∀(L:List (List Nat)),(∀q∈L,q.length<=10)->(KS L).length<=11*L.length
 |[],_=>by simp [KS]
 |q::L,h=>by
  have ih:=FY L λr hr=>h r (aE _ hr)
  have h1:=h q aP
  unfold KS at ih ⊢
  rw [da,ao,aB,aB,cN]
  lia
theorem Cq (L:List (List Nat)):(L.flatMap Vbqzak.listed).map V.int=KS L:=by
 unfold KS
 rw [lh]
 congr 1
 funext q
 rw [rV,cN]
theorem Ol (D:Df K mg "call_pieces" nz) (T:Tx K mg G U) (jZ:dQ P w K mg base 1 "are_rising_teams" ["house","row"] (Tt G U)) (eZ:dQ P w K mg base 5 "partner_rows" ["house"] (K8 G U)) (gm:dQ P w K mg base 2 "pieces_without" ["partners","left_out"] Pn) (jm:dQ P w K mg base 1 "odd_pieces" ["pieces"] O6) (dX:dQ P w K mg base 3 "most_pairs_by" ["partners","left_out"] LP) (fu:dQ P w K mg base 1 "as_list" ["numbers"] HJ):dQ P w K mg base 6 "call_pieces" ["house","row"] (MN G U):=by
 obtain ⟨f,fd,M,F⟩:=D
 refine ⟨f,fd,M,F.kp,F.cC (λ_ _ _ _ _ _ us hl=>(match us,hl with|[_,_],_=>rfl)),F.ok iZ (λvs H Q E h=> ?_) (λcdv A bE s H vs Q E hr h=> ?_)⟩
 ·obtain ⟨h,l,d,ra,as,s,m,xs,rfl,_⟩:=h
  rfl
 ·obtain ⟨h,l,d,ra,as,s,m,xs,rfl,B,Z,O,qc,hl,k⟩:=h
  have KH:=O.zo
  refine ⟨_,(ai (cP (uv (iP (bW jZ (hr.bY (by decide)) (aa (pv 0) (aa (pv 1) ah))))) (aq (aV (cf (aa (dr T.zF) ah)))) bF) (ai (bx (i:=2) iZ.nd rfl (Or.inl rfl) (bW eZ (hr.bY (by decide)) (aa (pv 0) ah))) (ai (bx (i:=3) iZ.nd rfl (Or.inl rfl) (bW gm (hr.bY (by decide)) (aa (pv 2) (aa (pv 1) ah)))) (ai (bx (i:=4) iZ.nd rfl (Or.inl rfl) (cf (aa (bW jm (hr.bY (by decide)) (aa (pv 3) ah)) (aa (bW dX (hr.bY (by decide)) (aa (pv 2) (aa (pv 1) ah))) (aa (bT (fF (K:=K)) (by rfl) T.len bh (aa (pv 3) ah)) ah))))) (ai (d8 aT rfl (fo (K:=K) (pv 3)) (cu (i:=5) iZ.nd rfl (Or.inl rfl)) (aq (dS (mS (K:=K) aQ gO gP tj (pv 4) (aa (bW fu (hr.bY (by decide)) (aa (pv 5) ah)) ah))))) (aq (aV (pv 4)))))))),?_⟩
  have gM:step s (.pieces xs)=if rising 0 (whole s.n-1) xs=false then no s (-2) else (s,whole (Vbqzak.odd s (nats xs))::whole (Vbqzak.bound s (nats xs))::whole (pieces s (restOf s (nats xs))).length::(pieces s (restOf s (nats xs))).flatMap Vbqzak.listed):=rfl
  rw [gM] at k
  refine ⟨_,rfl,_,rfl,h,l,ra,as,s.n,s.c,s.games,xs,rfl,B,qc,hl,_,rfl,?_⟩
  refine gr (b:= !(rising 0 (whole s.n-1) xs)) (λe1=> ?_) (λe1=> ?_)
  ·have e1:rising 0 (whole s.n-1) xs=false:=by simpa using e1
   rw [aA e1] at k
   exact ⟨(by show 1<=sizeLine;decide),λp hp=>k.ir B (bB.refl H) hp⟩
  have e1:rising 0 (whole s.n-1) xs=true:=by simpa using e1
  rw [au (by rw [e1];simp)] at k
  have exs:xs.map V.int=nV (nats xs):=by
   unfold nV nats
   rw [cX]
   refine e9 λx hx=> ?_
   obtain ⟨i,hi⟩:=a9.mp hx
   have:=((Qm.lp.mp e1).1 i x hi).1
   show V.int x=V.int ((x.toNat:Nat):Int)
   rw [cM this]
  rw [exs] at qc
  generalize nats xs=t at qc k
  refine ⟨_,rfl,h,l,d,as,s,m,rfl,B,Z,O,λH1 p1 rs s1 R1 uM UZ=> ?_⟩
  have Va:=s1 _ _ qc
  refine ⟨_,rfl,_,rfl,s,p1,ra,rs,t,rfl,R1,Va,KH,λH2 p2 ads s2 L2 hp2=> ?_⟩
  have hpl:(pieces s (restOf s t)).length<=s.n:=by rw [<-Qm.xS];exact Qm.xT _ _ _
  have Vb:∀q∈pieces s (restOf s t),q.length<=10:=λq hq=>bg (Qm.BO hq) KH
  refine ⟨_,rfl,p2,ads,_,rfl,L2,by lia,λH3 s3=> ?_⟩
  refine ⟨_,rfl,_,rfl,s,p1,ra,rs,t,rfl,(R1.same s2).same s3,s3 _ _ (s2 _ _ Va),KH,λH4 s4=> ?_⟩
  have L4:=(L2.same s3).same s4
  refine ⟨_,rfl,p2,_,rfl,.inl (cE.of L4.a6),(by show 3<=sizeLine;decide),λta Cj=> ?_⟩
  rw [af,L4.len]
  have IG:=s1.trans (s2.trans (s3.trans s4))
  have PX:H ta=none:=IG.free Cj
  obtain ⟨IC,PY⟩:∃IC:List V,IC=[V.int (((pieces s (restOf s t)).filter λq=>q.length % 2==1).length:Nat),V.int (Vbqzak.bound s t:Nat),V.int ((pieces s (restOf s t)).length:Nat)]:=⟨_,rfl⟩
  rw [<-PY]
  have X6:IC.length=3:=by rw [PY];rfl
  have s5:bB H4 (bG H4 ta (.a6 IC)):=aN Cj
  have t5:bG H4 ta (.a6 IC) ta=some (.a6 IC):=aj
  generalize bG H4 ta (.a6 IC)=H5 at s5 t5
  have L5:=L4.same s5
  have Y0:p2≠ta:=az L4.a6 Cj
  refine ⟨_,rfl,p2,rfl,⟨_,cE.of L5.a6⟩,fY (K:=K) (a:=p2) (xs:=ads.map V.ref) (λj σ H'=>∃v5:Option V,σ=[some (.ref h),some (.ref ra),some (.ref p1),some (.ref p2),some (.ref ta),v5]/\(∀b o,H4 b=some o->H' b=some o)/\H' ta=some (.a6 (IC++KS ((pieces s (restOf s t)).take j))))
   ⟨none,rfl,s5,by rw [t5];simp [KS]⟩ (λj σ H' _ ⟨_,_,z,_⟩=>cE.of (z _ _ L4.a6)) ?_ ?_⟩
  ·rintro j x σ H6 hx ⟨v5,rfl,k6,t6⟩
   obtain ⟨a,r,ha,B8,rfl,kW⟩:=(L4.same k6).get hx
   have U7:=Vb r (aw B8)
   have hjl:=(ae.mp B8).1
   refine ⟨_,rfl,.inl ⟨rfl,_,cE.of t6⟩,_,rfl,a,_,rfl,kW,(by rw [cN];lia),λH7 q s7 hq0 VN=> ?_⟩
   have hl6:=FY ((pieces s (restOf s t)).take j) λq hq=>Vb q (List.mem_of_mem_take hq)
   rw [bf] at hl6
   refine ⟨ta,q,_,_,rfl,rfl,s7 _ _ t6,VN,?_,?_⟩
   ·rw [ao,aB,cN,X6]
    exact xt (by lia)
   ·refine ⟨_,rfl,λb o e=> ?_,?_⟩
    ·rw [aL (az e Cj)]
     exact s7 _ _ (k6 b o e)
    ·rw [aj,c4 B8,dN]
     have:KS ((pieces s (restOf s t)).take j++[r])=KS ((pieces s (restOf s t)).take j)++(V.int ((nV r).length:Nat)::nV r):=by
      unfold KS
      rw [dw,cN]
      simp
     rw [this]
  ·rintro σ H6 ⟨v5,rfl,k6,t6⟩
   rw [af,L4.len,bu] at t6
   have Qn:bB H H6:=λb o e=>k6 b o (IG b o e)
   refine ⟨_,rfl,k H6 ta l as (B.same Qn) (Eb.same Qn) PX ?_⟩
   rw [t6,PY,bA,bA,bA,Cq]
   rfl
end
end Qz
end
section
namespace Qm
open Vbqzak PyVbqzak
inductive xn:List Int->Call->List Int->Prop
 |house (n c:Int) (t:List Int):xn (0::n::c::t) (.house n c) t
 |game (a b:Int) (t:List Int):xn (1::a::b::t) (.game a b) t
 |give (g p:Int) (t:List Int):xn (2::g::p::t) (.give g p) t
 |take (g:Int) (t:List Int):xn (3::g::t) (.take g) t
 |chain (g p:Int) (t:List Int):xn (4::g::p::t) (.chain g p) t
 |turn (g p:Int) (t:List Int):xn (5::g::p::t) (.turn g p) t
 |greedy (t:List Int):xn (6::t) .greedy t
 |sides (t:List Int):xn (7::t) .sides t
 |anew (t:List Int):xn (8::t) .anew t
 |even (t:List Int):xn (9::t) .even t
 |hears (x:Int) (t:List Int):xn (10::x::t) (.hears x) t
 |uses (t:List Int):xn (11::t) .uses t
 |games (t:List Int):xn (12::t) .games t
 |search (k m:Int) (t:List Int):xn (13::k::m::t) (.search k m) t
 |bar (a b k:Int) (t:List Int):xn (14::a::b::k::t) (.bar a b k) t
 |pairs (t:List Int):xn (15::t) .pairs t
 |set (t:List Int):xn (16::t) .set t
 |pieces (l t:List Int) (h:l.length<=60):xn (17::(l.length:Int)::(l++t)) (.pieces l) t
 |round (r:Int) (t:List Int):xn (18::r::t) (.round r) t
 |met (a b:Int) (t:List Int):xn (19::a::b::t) (.met a b) t
def zf (s:State) (cs:List (List (List Int))):List Int:=PyFlat.told (PyFlat.played VbqzakNeutral.step s (cs.map PyVbqzak.whole))
structure Bn (s:State) (jv:List Int) (out:List Int):Prop where
 ex:∃(m:Nat) (cs:List (List (List Int))),PyFlat.calls PyVbqzak.shape m jv=some cs/\PyInside.calls PyVbqzak.bound cs=true/\out=zf s cs
theorem HS (a:List Int) (l:List (List Int)):PyFlat.told (a::l)=((a.length:Int)::a)++PyFlat.told l:=by
 unfold PyFlat.told
 rw [da]
theorem DZ (s:State) (c:List (List Int)) (cs:List (List (List Int))) {d:Call} (h:VbqzakNeutral.callOf (PyVbqzak.whole c)=some d):
  zf s (c::cs)=(((step s d).2.length:Int)::(step s d).2)++zf (step s d).1 cs:=by
 unfold zf
 rw [bA]
 show PyFlat.told ((VbqzakNeutral.step s (PyVbqzak.whole c)).2::PyFlat.played VbqzakNeutral.step (VbqzakNeutral.step s (PyVbqzak.whole c)).1 (cs.map PyVbqzak.whole))=_
 have e:VbqzakNeutral.step s (PyVbqzak.whole c)=step s d:=by
  unfold VbqzakNeutral.step
  rw [h]
 rw [e,HS]
theorem g9 {c:Prop} [Decidable c] {a b:Nat×Nat} {x:Option (Nat×Nat)} (h:(if c then some a else x)=some b):(c/\a=b)\/x=some b:=by
 by_cases hc:c
 ·rw [aA hc] at h
  exact .inl ⟨hc,Option.some.inj h⟩
 ·rw [au hc] at h
  exact .inr h
theorem CS {p:Int} {n k:Nat} (h:PyVbqzak.shape p=some (n,k)):
  (p=0/\n=2/\k=0)\/(p=1/\n=2/\k=0)\/(p=2/\n=2/\k=0)\/(p=3/\n=1/\k=0)\/(p=4/\n=2/\k=0)\/(p=5/\n=2/\k=0)\/(p=6/\n=0/\k=0)\/(p=7/\n=0/\k=0)\/(p=8/\n=0/\k=0)\/(p=9/\n=0/\k=0)\/
  (p=10/\n=1/\k=0)\/(p=11/\n=0/\k=0)\/(p=12/\n=0/\k=0)\/(p=13/\n=2/\k=0)\/(p=14/\n=3/\k=0)\/(p=15/\n=0/\k=0)\/(p=16/\n=0/\k=0)\/(p=17/\n=0/\k=1)\/(p=18/\n=1/\k=0)\/(p=19/\n=2/\k=0):=by
 unfold PyVbqzak.shape at h
 rcases g9 h with ⟨e1,e2⟩|h
 ·cases e2
  exact .inl ⟨e1,rfl,rfl⟩
 rcases g9 h with ⟨e1,e2⟩|h
 ·cases e2
  exact .inr (.inl ⟨e1,rfl,rfl⟩)
 rcases g9 h with ⟨e1,e2⟩|h
 ·cases e2
  exact .inr (.inr (.inl ⟨e1,rfl,rfl⟩))
 rcases g9 h with ⟨e1,e2⟩|h
 ·cases e2
  exact .inr (.inr (.inr (.inl ⟨e1,rfl,rfl⟩)))
 rcases g9 h with ⟨e1,e2⟩|h
 ·cases e2
  exact .inr (.inr (.inr (.inr (.inl ⟨e1,rfl,rfl⟩))))
 rcases g9 h with ⟨e1,e2⟩|h
 ·cases e2
  exact .inr (.inr (.inr (.inr (.inr (.inl ⟨e1,rfl,rfl⟩)))))
 rcases g9 h with ⟨e1,e2⟩|h
 ·cases e2
  exact .inr (.inr (.inr (.inr (.inr (.inr (.inl ⟨e1,rfl,rfl⟩))))))
 rcases g9 h with ⟨e1,e2⟩|h
 ·cases e2
  exact .inr (.inr (.inr (.inr (.inr (.inr (.inr (.inl ⟨e1,rfl,rfl⟩)))))))
 rcases g9 h with ⟨e1,e2⟩|h
 ·cases e2
  exact .inr (.inr (.inr (.inr (.inr (.inr (.inr (.inr (.inl ⟨e1,rfl,rfl⟩))))))))
 rcases g9 h with ⟨e1,e2⟩|h
 ·cases e2
  exact .inr (.inr (.inr (.inr (.inr (.inr (.inr (.inr (.inr (.inl ⟨e1,rfl,rfl⟩)))))))))
 rcases g9 h with ⟨e1,e2⟩|h
 ·cases e2
  exact .inr (.inr (.inr (.inr (.inr (.inr (.inr (.inr (.inr (.inr (.inl ⟨e1,rfl,rfl⟩))))))))))
 rcases g9 h with ⟨e1,e2⟩|h
 ·cases e2
  exact .inr (.inr (.inr (.inr (.inr (.inr (.inr (.inr (.inr (.inr (.inr (.inl ⟨e1,rfl,rfl⟩)))))))))))
 rcases g9 h with ⟨e1,e2⟩|h
 ·cases e2
  exact .inr (.inr (.inr (.inr (.inr (.inr (.inr (.inr (.inr (.inr (.inr (.inr (.inl ⟨e1,rfl,rfl⟩))))))))))))
 rcases g9 h with ⟨e1,e2⟩|h
 ·cases e2
  exact .inr (.inr (.inr (.inr (.inr (.inr (.inr (.inr (.inr (.inr (.inr (.inr (.inr (.inl ⟨e1,rfl,rfl⟩)))))))))))))
 rcases g9 h with ⟨e1,e2⟩|h
 ·cases e2
  exact .inr (.inr (.inr (.inr (.inr (.inr (.inr (.inr (.inr (.inr (.inr (.inr (.inr (.inr (.inl ⟨e1,rfl,rfl⟩))))))))))))))
 rcases g9 h with ⟨e1,e2⟩|h
 ·cases e2
  exact .inr (.inr (.inr (.inr (.inr (.inr (.inr (.inr (.inr (.inr (.inr (.inr (.inr (.inr (.inr (.inl ⟨e1,rfl,rfl⟩)))))))))))))))
 rcases g9 h with ⟨e1,e2⟩|h
 ·cases e2
  exact .inr (.inr (.inr (.inr (.inr (.inr (.inr (.inr (.inr (.inr (.inr (.inr (.inr (.inr (.inr (.inr (.inl ⟨e1,rfl,rfl⟩))))))))))))))))
 rcases g9 h with ⟨e1,e2⟩|h
 ·cases e2
  exact .inr (.inr (.inr (.inr (.inr (.inr (.inr (.inr (.inr (.inr (.inr (.inr (.inr (.inr (.inr (.inr (.inr (.inl ⟨e1,rfl,rfl⟩)))))))))))))))))
 rcases g9 h with ⟨e1,e2⟩|h
 ·cases e2
  exact .inr (.inr (.inr (.inr (.inr (.inr (.inr (.inr (.inr (.inr (.inr (.inr (.inr (.inr (.inr (.inr (.inr (.inr (.inl ⟨e1,rfl,rfl⟩))))))))))))))))))
 rcases g9 h with ⟨e1,e2⟩|h
 ·cases e2
  exact .inr (.inr (.inr (.inr (.inr (.inr (.inr (.inr (.inr (.inr (.inr (.inr (.inr (.inr (.inr (.inr (.inr (.inr (.inr (⟨e1,rfl,rfl⟩)))))))))))))))))))
 cases h
theorem Eu {r:List Int} (h:¬r.length< 2):∃a b t,r=a::b::t:=by
 match r,h with
 |a::b::t,_=>exact ⟨a,b,t,rfl⟩
 |[_],h=>simp at h
 |[],h=>simp at h
theorem O5 {r:List Int} (h:¬r.length< 1):∃a t,r=a::t:=by
 match r,h with
 |a::t,_=>exact ⟨a,t,rfl⟩
 |[],h=>simp at h
theorem Wa {r:List Int} (h:¬r.length< 3):∃a b c t,r=a::b::c::t:=by
 match r,h with
 |a::b::c::t,_=>exact ⟨a,b,c,t,rfl⟩
 |[_,_],h=>simp at h
 |[_],h=>simp at h
 |[],h=>simp at h
theorem Bn.step {s:State} {jv out:List Int} (L:Bn s jv out):(jv=[]/\out=[])\/
  ∃(d:Call) (t Ca:List Int),xn jv d t/\out=(((Vbqzak.step s d).2.length:Int)::(Vbqzak.step s d).2)++Ca/\Bn (Vbqzak.step s d).1 t Ca:=by
 obtain ⟨m,cs,hc,hb,ho⟩:=L.ex
 cases jv with
 |nil=>
  left
  have:cs=[]:=by
   cases m<;>(unfold PyFlat.calls at hc;exact (Option.some.inj hc).symm)
  subst this
  exact ⟨rfl,ho⟩
 |cons p r=>
  right
  cases m with
  |zero=>unfold PyFlat.calls at hc;cases hc
  |succ m=>
   rw [PyFlat.calls] at hc
   cases e8:PyFlat.call PyVbqzak.shape (p::r) with
   |none=>rw [e8] at hc;cases hc
   |some ct=>
    obtain ⟨c,t⟩:=ct
    rw [e8] at hc
    simp only at hc
    cases hrest:PyFlat.calls PyVbqzak.shape m t with
    |none=>rw [hrest] at hc;cases hc
    |some Vc=>
     rw [hrest] at hc
     have hcs:c::Vc=cs:=Option.some.inj hc
     subst hcs
     have hb2:PyInside.call PyVbqzak.bound c=true/\PyInside.calls PyVbqzak.bound Vc=true:=by
      unfold PyInside.calls at hb ⊢
      rw [oR,aR] at hb
      exact hb
     have fin:∀d,xn (p::r) d t->VbqzakNeutral.callOf (PyVbqzak.whole c)=some d->∃(d:Call) (t Ca:List Int),xn (p::r) d t/\out=(((Vbqzak.step s d).2.length:Int)::(Vbqzak.step s d).2)++Ca/\Bn (Vbqzak.step s d).1 t Ca:=λd hd he=>
      ⟨d,t,zf (Vbqzak.step s d).1 Vc,hd,by rw [ho,DZ s c Vc he],⟨m,Vc,hrest,hb2.2,rfl⟩⟩
     rw [PyFlat.call] at e8
     cases hsh:PyVbqzak.shape p with
     |none=>rw [hsh] at e8;cases e8
     |some nk=>
      obtain ⟨n,k⟩:=nk
      rw [hsh] at e8
      simp only at e8
      by_cases hl:r.length< n
      ·rw [aA hl] at e8
       cases e8
      rw [au hl] at e8
      rcases CS hsh with ⟨rfl,rfl,rfl⟩|⟨rfl,rfl,rfl⟩|⟨rfl,rfl,rfl⟩|⟨rfl,rfl,rfl⟩|⟨rfl,rfl,rfl⟩|⟨rfl,rfl,rfl⟩|⟨rfl,rfl,rfl⟩|⟨rfl,rfl,rfl⟩|⟨rfl,rfl,rfl⟩|⟨rfl,rfl,rfl⟩|⟨rfl,rfl,rfl⟩|⟨rfl,rfl,rfl⟩|⟨rfl,rfl,rfl⟩|⟨rfl,rfl,rfl⟩|⟨rfl,rfl,rfl⟩|⟨rfl,rfl,rfl⟩|⟨rfl,rfl,rfl⟩|⟨rfl,rfl,rfl⟩|⟨rfl,rfl,rfl⟩|⟨rfl,rfl,rfl⟩
      ·obtain ⟨a,b,u,rfl⟩:=Eu hl
       cases e8
       exact fin _ (.house a b u) rfl
      ·obtain ⟨a,b,u,rfl⟩:=Eu hl
       cases e8
       exact fin _ (.game a b u) rfl
      ·obtain ⟨a,b,u,rfl⟩:=Eu hl
       cases e8
       exact fin _ (.give a b u) rfl
      ·obtain ⟨a,u,rfl⟩:=O5 hl
       cases e8
       exact fin _ (.take a u) rfl
      ·obtain ⟨a,b,u,rfl⟩:=Eu hl
       cases e8
       exact fin _ (.chain a b u) rfl
      ·obtain ⟨a,b,u,rfl⟩:=Eu hl
       cases e8
       exact fin _ (.turn a b u) rfl
      ·cases e8
       exact fin _ (.greedy r) rfl
      ·cases e8
       exact fin _ (.sides r) rfl
      ·cases e8
       exact fin _ (.anew r) rfl
      ·cases e8
       exact fin _ (.even r) rfl
      ·obtain ⟨a,u,rfl⟩:=O5 hl
       cases e8
       exact fin _ (.hears a u) rfl
      ·cases e8
       exact fin _ (.uses r) rfl
      ·cases e8
       exact fin _ (.games r) rfl
      ·obtain ⟨a,b,u,rfl⟩:=Eu hl
       cases e8
       exact fin _ (.search a b u) rfl
      ·obtain ⟨a,b,c',u,rfl⟩:=Wa hl
       cases e8
       exact fin _ (.bar a b c' u) rfl
      ·cases e8
       exact fin _ (.pairs r) rfl
      ·cases e8
       exact fin _ (.set r) rfl
      ·
       rw [rK,List.take_zero] at e8
       cases r with
       |nil=>
        have:PyFlat.rows 1 ([]:List Int)=none:=rfl
        rw [this] at e8
        cases e8
       |cons q u=>
        have e:PyFlat.rows 1 (q::u)=match PyFlat.row (q::u) with
          |none=>none
          |some (x,s)=>match PyFlat.rows 0 s with
           |none=>none
           |some (xs,t)=>some (x::xs,t):=rfl
        rw [e] at e8
        by_cases hq:0<=q/\q.toNat<=u.length
        ·have e2:PyFlat.row (q::u)=some (u.take q.toNat,u.drop q.toNat):=by
          show (if 0<=q/\q.toNat<=u.length then some (u.take q.toNat,u.drop q.toNat) else none)=_
          rw [aA hq]
         rw [e2] at e8
         have e8:some ([[17],u.take q.toNat],u.drop q.toNat)=some (c,t):=e8
         cases e8
         have hlen:(u.take q.toNat).length=q.toNat:=by rw [bf];lia
         have h60:(u.take q.toNat).length<=60:=by
          have h1:=hb2.1
          have h2:PyInside.call PyVbqzak.bound [[17],u.take q.toNat]=(true&&(decide (0<=(u.take q.toNat).length)&&decide ((u.take q.toNat).length<=60)&&(u.take q.toNat).all (PyInside.within (-1000000000000000000) 1000000000000000000)&&true)):=rfl
          rw [h2] at h1
          simp only [oT,aR,cJ] at h1
          exact h1.1.1.2
         have hd:=xn.pieces (u.take q.toNat) (u.drop q.toNat) h60
         rw [rh,hlen,cM hq.1] at hd
         exact fin _ hd rfl
        ·have e2:PyFlat.row (q::u)=none:=by
          show (if 0<=q/\q.toNat<=u.length then some (u.take q.toNat,u.drop q.toNat) else none)=_
          rw [au hq]
         rw [e2] at e8
         cases e8
      ·obtain ⟨a,u,rfl⟩:=O5 hl
       cases e8
       exact fin _ (.round a u) rfl
      ·obtain ⟨a,b,u,rfl⟩:=Eu hl
       cases e8
       exact fin _ (.met a b u) rfl
theorem Bn.start {l:List Int} (h:answers_asked l=true):Bn Vbqzak.start l (answers l)/\(answers l).length<=10000000:=by
 unfold answers_asked at h
 cases hc:PyFlat.calls PyVbqzak.shape l.length l with
 |none=>rw [hc] at h;cases h
 |some Ce=>
  rw [hc] at h
  simp only [aR] at h
  obtain ⟨⟨⟨⟨_,_⟩,hb⟩,_⟩,hs⟩:=h
  refine ⟨⟨l.length,Ce,hc,hb,?_⟩,?_⟩
  ·unfold answers calls
   rw [hc]
   rfl
  ·unfold PyFlat.short at hs
   exact bw hs
end Qm
end
section
namespace Qm
open Vbqzak
theorem nD {b:Bool} (h:¬b=false):b=true:=by cases b;exact absurd rfl h;rfl
theorem DN {x lo hi:Int} (h:inside x lo hi=true):lo<=x/\x<=hi:=by
 unfold inside at h
 rw [aR] at h
 exact ⟨bw h.1,bw h.2⟩
theorem mi (s:State) (a b:Int) (f:Nat->Nat->State×Answer):(onTwo s a b f).1=s\/(0<=a/\0<=b/\a.toNat< s.n/\b.toNat< s.n/\a.toNat≠b.toNat/\onTwo s a b f=f a.toNat b.toNat):=by
 unfold onTwo
 by_cases h1:(teamIn a&&teamIn b)=false
 ·rw [aA h1];exact .inl rfl
 rw [au h1]
 by_cases h2:(isTeam s a&&isTeam s b)=false
 ·rw [aA h2];exact .inl rfl
 rw [au h2]
 by_cases h3:a=b
 ·rw [aA h3];exact .inl rfl
 rw [au h3]
 right
 have h1:=nD h1
 have h2:=nD h2
 rw [aR] at h1 h2
 have ha:=DN h1.1
 have hb:=DN h1.2
 have ta:a< whole s.n:=bw h2.1
 have tb:b< whole s.n:=bw h2.2
 unfold whole at ta tb
 exact ⟨by lia,by lia,by lia,by lia,by lia,rfl⟩
theorem n9 (s:State) (g p:Int) (f:Nat->Game->Nat->State×Answer):(onPacket s g p f).1=s\/∃x,s.games[g.toNat]? =some x/\p.toNat< s.c/\onPacket s g p f=f g.toNat x p.toNat:=by
 unfold onPacket
 by_cases h1:(inside g 0 29&&inside p 0 11)=false
 ·rw [aA h1];exact .inl rfl
 rw [au h1]
 have h1:=nD h1
 rw [aR] at h1
 have hp:=DN h1.2
 cases e:s.games[g.toNat]? with
 |none=>exact .inl rfl
 |some x=>
  simp only
  by_cases h2:whole s.c<=p
  ·rw [aA h2];exact .inl rfl
  rw [au h2]
  unfold whole at h2
  exact .inr ⟨x,rfl,by lia,rfl⟩
theorem u9 (s:State) (g:Int) (f:Nat->Game->State×Answer):(onGame s g f).1=s\/∃x,s.games[g.toNat]? =some x/\onGame s g f=f g.toNat x:=by
 unfold onGame
 by_cases h1:inside g 0 29=false
 ·rw [aA h1];exact .inl rfl
 rw [au h1]
 cases e:s.games[g.toNat]? with
 |none=>exact .inl rfl
 |some x=>exact .inr ⟨x,rfl,rfl⟩
theorem lM (s:State) (g p:Int) (f:Nat->Nat->State×Answer):(onChain s g p f).1=s\/∃q,packetOf s.games g.toNat=some q/\p.toNat≠q/\p.toNat< s.c/\onChain s g p f=f g.toNat p.toNat:=by
 unfold onChain
 refine Or.elim (n9 s g p _) Or.inl ?_
 ·rintro ⟨x,hx,hp,e⟩
  rw [e]
  cases ex:x.p with
  |none=>exact .inl rfl
  |some q=>
   simp only
   by_cases h2:q=p.toNat
   ·rw [aA h2];exact .inl rfl
   rw [au h2]
   exact .inr ⟨q,by rw [ck hx];exact ex,λe=>h2 e.symm,hp,rfl⟩
def WA:Call->Prop
 | .house _ _=>False
 | .bar _ _ _=>False
 |_=>True
theorem ek (s:State) (d:Call) (h:WA d):(Vbqzak.step s d).1.barred=s.barred:=by
 cases d with
 |house n c=>exact absurd h id
 |bar a b k=>exact absurd h id
 |game a b=>
  show (onTwo s a b _).1.barred=_
  rcases mi s a b (λa b=>if GAMES<=s.games.length then no s (-7) else ({s with games:=s.games++[⟨a,b,none⟩]},[whole s.games.length])) with e|⟨_,_,_,_,_,e⟩
  ·rw [e]
  ·rw [e]
   split<;>rfl
 |give g p=>
  show (onPacket s g p _).1.barred=_
  rcases n9 s g p (λi _ p=>if clash s.games i p=true then no s (-6) else ({s with games:=withPacket s.games i (some p)},[0])) with e|⟨x,_,_,e⟩
  ·rw [e]
  ·rw [e]
   split<;>rfl
 |take g=>
  show (onGame s g _).1.barred=_
  rcases u9 s g (λi _=>({s with games:=withPacket s.games i none},[0])) with e|⟨x,_,e⟩
  ·rw [e]
  ·rw [e]
 |chain g p=>
  show (onChain s g p _).1.barred=_
  rcases lM s g p (λi p=>(s,listed (Vbqzak.chain s.games i p))) with e|⟨q,_,_,_,e⟩
  ·rw [e]
  ·rw [e]
 |turn g p=>
  show (onChain s g p _).1.barred=_
  rcases lM s g p (λi p=>({s with games:=exchanged s.games i p},[whole (Vbqzak.chain s.games i p).length])) with e|⟨q,_,_,_,e⟩
  ·rw [e]
  ·rw [e]
 |greedy=>rfl
 |sides=>rfl
 |anew=>
  show (if twoSides s.games s.n=false then no s (-8) else match tooMany s.games s.n s.c with
   |some t=>(s,[0,whole t])
   |none=>({s with games:=Vbqzak.anew s.games s.c},[1])).1.barred=_
  split
  ·rfl
  ·cases tooMany s.games s.n s.c<;>rfl
 |even=>
  show (if bare s.games≠0 then no s (-3) else ({s with games:=(Vbqzak.even s.c ROUNDS s.games).1},[whole (Vbqzak.even s.c ROUNDS s.games).2])).1.barred=_
  split<;>rfl
 |hears t=>
  show (if teamIn t=false then no s (-1) else if isTeam s t=false then no s (-4) else (s,listed ((List.range s.c).filter λq=>Vbqzak.hears s.games t.toNat q))).1.barred=_
  split
  ·rfl
  ·split<;>rfl
 |uses=>rfl
 |games=>rfl
 |search k m=>
  show (if (inside k 1 12&&inside m 0 2000)=false then no s (-1) else (s,_)).1.barred=_
  split<;>rfl
 |pairs=>rfl
 |set=>rfl
 |pieces l=>
  show (if rising 0 (whole s.n-1) l=false then no s (-2) else (s,_)).1.barred=_
  split<;>rfl
 |round r=>
  show (if inside r 0 8=false then no s (-1) else if whole (dummy s.n)-1<=r then no s (-4) else (s,_)).1.barred=_
  split
  ·rfl
  ·split<;>rfl
 |met a b=>
  show (onTwo s a b _).1.barred=_
  rcases mi s a b (λa b=>(s,[whole (s.games.filter λg=>has g a&&has g b).length,if mayPair s a b=true then 1 else 0])) with e|⟨_,_,_,_,_,e⟩
  ·rw [e]
  ·rw [e]
theorem tO {gs:List Game} {n c:Nat} (h:tooMany gs n c=none) {t:Nat} (ht:t< n):degree gs t<=c:=by
 unfold tooMany at h
 have:=dt.mp h t (cQ.mpr ht)
 simp at this
 exact this
theorem Ok.step {s:State} (O:Ok s) (d:Call):Ok (Vbqzak.step s d).1:=by
 cases d with
 |house n c=>
  show Ok (if (inside n 2 10&&inside c 1 12)=false then no s (-1) else (⟨n.toNat,c.toNat,[],[]⟩,[n])).1
  split
  ·exact O
  ·rename_i h
   have h:=nD h
   rw [aR] at h
   have h1:=DN h.1
   have h2:=DN h.2
   exact Ok.fresh (by lia) (by lia) (by lia) (by lia) []
 |bar a b k=>
  show Ok (if inside k 0 1=false then no s (-1) else onTwo s a b _).1
  split
  ·exact O
  ·rcases mi s a b (λa b=>({s with barred:=if k=1 then (s.barred.filter λt=>t !=pairOf a b)++[pairOf a b] else s.barred.filter λt=>t !=pairOf a b},[0])) with e|⟨_,_,_,_,_,e⟩
   ·rw [e];exact O
   ·rw [e]
    exact O.Wm _
 |game a b=>
  show Ok (onTwo s a b _).1
  rcases mi s a b (λa b=>if GAMES<=s.games.length then no s (-7) else ({s with games:=s.games++[⟨a,b,none⟩]},[whole s.games.length])) with e|⟨_,_,ha,hb,hab,e⟩
  ·rw [e];exact O
  ·rw [e]
   split
   ·exact O
   ·rename_i h
    have h:¬30<=s.games.length:=h
    exact O.game ha hb hab (by lia)
 |give g p=>
  show Ok (onPacket s g p _).1
  rcases n9 s g p (λi _ p=>if clash s.games i p=true then no s (-6) else ({s with games:=withPacket s.games i (some p)},[0])) with e|⟨x,hx,hp,e⟩
  ·rw [e];exact O
  ·rw [e]
   split
   ·exact O
   ·rename_i h
    exact O.give hp (dO.mpr h) hx
 |take g=>
  show Ok (onGame s g _).1
  rcases u9 s g (λi _=>({s with games:=withPacket s.games i none},[0])) with e|⟨x,hx,e⟩
  ·rw [e];exact O
  ·rw [e]
   exact O.take hx
 |chain g p=>
  show Ok (onChain s g p _).1
  rcases lM s g p (λi p=>(s,listed (Vbqzak.chain s.games i p))) with e|⟨q,_,_,_,e⟩
  ·rw [e];exact O
  ·rw [e];exact O
 |turn g p=>
  show Ok (onChain s g p _).1
  rcases lM s g p (λi p=>({s with games:=exchanged s.games i p},[whole (Vbqzak.chain s.games i p).length])) with e|⟨q,hq,hne,hp,e⟩
  ·rw [e];exact O
  ·rw [e]
   exact O.turn hq hne hp
 |greedy=>exact O.greedy
 |sides=>exact O
 |anew=>
  show Ok (if twoSides s.games s.n=false then no s (-8) else match tooMany s.games s.n s.c with
   |some t=>(s,[0,whole t])
   |none=>({s with games:=Vbqzak.anew s.games s.c},[1])).1
  split
  ·exact O
  ·rename_i h
   cases e:tooMany s.games s.n s.c with
   |some t=>exact O
   |none=>exact O.anew (nD h) λx hx=>⟨tO e (O.vN x hx).1,tO e (O.vN x hx).2⟩
 |even=>
  show Ok (if bare s.games≠0 then no s (-3) else ({s with games:=(Vbqzak.even s.c ROUNDS s.games).1},[whole (Vbqzak.even s.c ROUNDS s.games).2])).1
  split
  ·exact O
  ·exact O.even
 |hears t=>
  show Ok (if teamIn t=false then no s (-1) else if isTeam s t=false then no s (-4) else (s,listed ((List.range s.c).filter λq=>Vbqzak.hears s.games t.toNat q))).1
  split
  ·exact O
  ·split<;>exact O
 |uses=>exact O
 |games=>exact O
 |search k m=>
  show Ok (if (inside k 1 12&&inside m 0 2000)=false then no s (-1) else (s,_)).1
  split<;>exact O
 |pairs=>exact O
 |set=>exact O
 |pieces l=>
  show Ok (if rising 0 (whole s.n-1) l=false then no s (-2) else (s,_)).1
  split<;>exact O
 |round r=>
  show Ok (if inside r 0 8=false then no s (-1) else if whole (dummy s.n)-1<=r then no s (-4) else (s,_)).1
  split
  ·exact O
  ·split<;>exact O
 |met a b=>
  show Ok (onTwo s a b _).1
  rcases mi s a b (λa b=>(s,[whole (s.games.filter λg=>has g a&&has g b).length,if mayPair s a b=true then 1 else 0])) with e|⟨_,_,_,_,_,e⟩
  ·rw [e];exact O
  ·rw [e];exact O
inductive Cl:Nat->List Int->Call->Prop
 |house (n c:Int):Cl 0 [n,c] (.house n c)
 |game (a b:Int):Cl 1 [a,b] (.game a b)
 |give (g p:Int):Cl 2 [g,p] (.give g p)
 |take (g:Int):Cl 3 [g] (.take g)
 |chain (g p:Int):Cl 4 [g,p] (.chain g p)
 |turn (g p:Int):Cl 5 [g,p] (.turn g p)
 |greedy:Cl 6 [] .greedy
 |sides:Cl 7 [] .sides
 |anew:Cl 8 [] .anew
 |even:Cl 9 [] .even
 |hears (x:Int):Cl 10 [x] (.hears x)
 |uses:Cl 11 [] .uses
 |games:Cl 12 [] .games
 |search (k m:Int):Cl 13 [k,m] (.search k m)
 |bar (a b k:Int):Cl 14 [a,b,k] (.bar a b k)
 |pairs:Cl 15 [] .pairs
 |set:Cl 16 [] .set
 |pieces (l:List Int) (h:l.length<=60):Cl 17 ((l.length:Int)::l) (.pieces l)
 |round (r:Int):Cl 18 [r] (.round r)
 |met (a b:Int):Cl 19 [a,b] (.met a b)
theorem xn.cl {jv t:List Int} {d:Call} (h:xn jv d t):∃(c:Nat) (ns:List Int),jv=((c:Nat):Int)::(ns++t)/\Cl c ns d:=by
 cases h with
 |house n c=>exact ⟨0,_,rfl,.house n c⟩
 |game a b=>exact ⟨1,_,rfl,.game a b⟩
 |give g p=>exact ⟨2,_,rfl,.give g p⟩
 |take g=>exact ⟨3,_,rfl,.take g⟩
 |chain g p=>exact ⟨4,_,rfl,.chain g p⟩
 |turn g p=>exact ⟨5,_,rfl,.turn g p⟩
 |greedy=>exact ⟨6,_,rfl,.greedy⟩
 |sides=>exact ⟨7,_,rfl,.sides⟩
 |anew=>exact ⟨8,_,rfl,.anew⟩
 |even=>exact ⟨9,_,rfl,.even⟩
 |hears x=>exact ⟨10,_,rfl,.hears x⟩
 |uses=>exact ⟨11,_,rfl,.uses⟩
 |games=>exact ⟨12,_,rfl,.games⟩
 |search k m=>exact ⟨13,_,rfl,.search k m⟩
 |bar a b k=>exact ⟨14,_,rfl,.bar a b k⟩
 |pairs=>exact ⟨15,_,rfl,.pairs⟩
 |set=>exact ⟨16,_,rfl,.set⟩
 |pieces l t h=>exact ⟨17,_,rfl,.pieces l h⟩
 |round r=>exact ⟨18,_,rfl,.round r⟩
 |met a b=>exact ⟨19,_,rfl,.met a b⟩
theorem Cl.WC {c:Nat} {ns:List Int} {d:Call} (h:Cl c ns d):([2,2,2,1,2,2,0,0,0,0,1,0,0,2,3,0,0,1,1,2]:List Int)[c]? =some (if c=17 then 1 else (ns.length:Int))/\(c=17->∃l,ns=(l.length:Int)::l)/\ns.length<=61:=by
 cases h
 case pieces l h=>exact ⟨rfl,λ_=>⟨l,rfl⟩,by rw [aB];lia⟩
 all_goals exact ⟨rfl,λe=>absurd e (by decide),by simp⟩
end Qm
end
section
namespace Qz
open PySem PySem.Spec PyProof.Rows L2
open Vbqzak (step)
theorem cU {c k:Int} {A B:Prop} (h:c≠k) (b:B):if decide (V.int c=V.int k)=true then A else B:=by
 rw [a8 (λe=>h (V.int.inj e))]
 exact i0 b
theorem qM {k:Int} {A B:Prop} (a:A):if decide (V.int k=V.int k)=true then A else B:=by
 rw [aW rfl]
 exact ij a
section
variable {P:Program} {w:World} {K:PySem.W.Frag} {mg:Str->Option Value} {base:Heap} {G U:Addr}
abbrev nM:Stmt:=iB 97
theorem se:bt ["calls","place","end"] ["calls","place"] (aJ nM):=⟨rfl,rfl,rfl,by decide +kernel,rfl,by decide +kernel,by decide +kernel⟩
def RV (K:PySem.W.Frag):Sp:=λvs H Q _=>∃(ca:Addr) (cs t ns:List Int) (place c:Nat) (d:Vbqzak.Call),vs=[.ref ca,.int place]/\cE K H ca (cs.map V.int)/\cs.drop place=((c:Nat):Int)::(ns++t)/\Qm.Cl c ns d/\Q (.int ((place+1+ns.length:Nat):Int)) H
theorem Ru (D:Df K mg "end_of_call" nM) (T:Tx K mg G U):dQ P w K mg base 1 "end_of_call" ["calls","place"] (RV K):=by
 obtain ⟨f,fd,M,F⟩:=D
 obtain ⟨ahm,X7,hm⟩:=T.hm
 refine ⟨f,fd,M,F.kp,F.cC (λ_ _ _ _ _ _ us hl=>(match us,hl with|[_,_],_=>rfl)),F.ok se (λvs H Q E h=> ?_) (λcdv A bE s H vs Q E hr h=> ?_)⟩
 ·obtain ⟨ca,cs,t,ns,place,c,d,rfl,_⟩:=h
  rfl
 ·obtain ⟨ca,cs,t,ns,place,c,d,rfl,hS,hd,hc,k⟩:=h
  refine ⟨_,(ai (bx (i:=2) se.nd rfl (Or.inl rfl) (eY lA (eY lA (pv 1) bc) (cH (Kb (K:=K)) (dr X7) (cH (je (K:=K)) (pv 0) (pv 1) (λ_ _=>rfl)) (λ_ _=>rfl)))) (ai (cP (bo dU (cH (je (K:=K)) (pv 0) (pv 1) (λ_ _=>rfl)) (dr T.C6) (bN _)) (aq (aV (eY lA (pv 2) (cH (je (K:=K)) (pv 0) (eY o6 (pv 2) bc) (λ_ _=>rfl))))) bF) (aq (aV (pv 2))))),?_⟩
  obtain ⟨m1,m2,m3⟩:=hc.WC
  have Y1:∀(i:Nat) (x:Int),(((c:Nat):Int)::(ns++t))[i]? =some x->(cs.map V.int)[place+i]? =some (V.int x):=λi x h=>by
   rw [<-hd,nj] at h
   rw [ay,h]
   rfl
  have VT:Dj (cs.map V.int) ((place:Nat):Int)=some (V.int ((c:Nat):Int)):=cg (Y1 0 _ rfl)
  have hmI:Dj (BL.map V.int) ((c:Nat):Int)=some (V.int (if c=17 then 1 else (ns.length:Int))):=cg (by
   rw [ay]
   show (([2,2,2,1,2,2,0,0,0,0,1,0,0,2,3,0,0,1,1,2]:List Int)[c]?).map V.int=_
   rw [m1]
   rfl)
  refine ⟨_,rfl,_,_,rfl,rfl,_,rfl,_,rfl,xI hS VT (xI (hm H) hmI ⟨_,_,rfl,rfl,?_⟩)⟩
  show tR 2 (V.int (((place:Nat):Int)+1+(if c=17 then 1 else (ns.length:Int)))) _ _ _
  refine ⟨_,rfl,_,rfl,xI hS VT ⟨rfl,_,rfl,?_⟩⟩
  by_cases X8:c=17
  ·subst X8
   obtain ⟨l,rfl⟩:=m2 rfl
   have e1:((place:Nat):Int)+1+(if 17=17 then (1:Int) else (((l.length:Int)::l).length:Int))=((place+2:Nat):Int):=by
    rw [aA rfl]
    lia
   refine qM ⟨_,rfl,_,rfl,_,rfl,_,_,rfl,rfl,ca,_,_,_,rfl,rfl,hS,Am (j:=place+1) (by rw [e1];lia) (Y1 1 _ rfl),_,_,rfl,rfl,?_⟩
   show Q (V.int ((((place:Nat):Int)+1+(if 17=17 then (1:Int) else (((l.length:Int)::l).length:Int)))+(l.length:Int))) H
   rw [e1]
   have:(((place+2:Nat):Int)+(l.length:Int))=((place+1+((l.length:Int)::l).length:Nat):Int):=by
    rw [aB]
    lia
   rw [this]
   exact k
  ·refine cU (λe=>X8 (by lia)) ⟨_,rfl,?_⟩
   have:((place:Nat):Int)+1+(if c=17 then (1:Int) else (ns.length:Int))=((place+1+ns.length:Nat):Int):=by
    rw [au X8]
    lia
   rw [this]
   exact k
def HU (G U:Addr) (lo hi:Nat):Sp:=λvs H Q _=>∃(h l d q:Addr) (as:List Addr) (s:l9) (m c:Nat) (ns:List Int) (dc:Vbqzak.Call),vs=[.ref h,.int c,.ref q]/\fK G U H h l as s.n s.c s.games/\i4 U H h d s.barred m/\m<=100000/\Qm.Ok s/\H q=some (.a6 (ns.map V.int))/\Qm.Cl c ns dc/\lo<=c/\c< hi/\J2 G U h l d as (m+1) H (step s dc) Q
structure Cs (P:Program) (w:World) (K:PySem.W.Frag) (mg:Str->Option Value) (base:Heap) (G U:Addr):Prop where
 kS:dQ P w K mg base 2 "call_house" ["house","teams","packets"] (Qx G U)
 l6:dQ P w K mg base 3 "call_game" ["house","first","second"] (Ta G U)
 mq:dQ P w K mg base 4 "call_give" ["house","number","packet"] (RW G U)
 lZ:dQ P w K mg base 2 "call_take" ["house","number"] (QN G U)
 kK:dQ P w K mg base 4 "call_chain" ["house","number","packet"] (SG G U)
 md:dQ P w K mg base 5 "call_turn" ["house","number","packet"] (To G U)
 jz:dQ P w K mg base 6 "call_greedy" ["house"] (Tf G U)
 kG:dQ P w K mg base 5 "call_sides" ["house"] (QK G U)
 mj:dQ P w K mg base 7 "call_anew" ["house"] (QP G U)
 l8:dQ P w K mg base 6 "call_even" ["house"] (SX G U)
 kE:dQ P w K mg base 4 "call_hears" ["house","team"] (MU G U)
 mw:dQ P w K mg base 2 "call_uses" ["house"] (MQ G U)
 kH:dQ P w K mg base 1 "call_games" ["house"] (MZ G U)
 jw:dQ P w K mg base 5 "call_search" ["house","packets","steps"] (M3 G U)
 nI:dQ P w K mg base 2 "call_bar" ["house","one","other","barred"] (MW G U)
 kz:dQ P w K mg base 15 "call_pairs" ["house"] (MY G U)
 nv:dQ P w K mg base 6 "call_set" ["house"] (MI G U)
 jy:dQ P w K mg base 6 "call_pieces" ["house","row"] (MN G U)
 kR:dQ P w K mg base 4 "call_round" ["house","number"] (M4 G U)
 nS:dQ P w K mg base 5 "call_met" ["house","one","other"] (M6 G U)
theorem wK.bY {G U h l:Addr} {as:List Addr} {H H1:Hp} {r:l9×List Int} {Q:VK} (k:wK G U h l as H r Q) (s:bB H H1):wK G U h l as H1 r Q:=λH' p l' as' hA hC hp Xm=>
 k H' p l' as' hA ⟨λb o e n1 n2=>hC.keep b o (s b o e) n1 n2,hC.IP.imp id λe=>s.free e,λa ha=>(hC.Jw a ha).imp id λe=>s.free e⟩ (s.free hp) Xm
theorem WI (x:Int) (l:List Int):xA ((x::l).map V.int) (some 1) none=l.map V.int:=by
 unfold xA
 have e:HT.kZ ((x::l).map V.int).length 0 (some 1)=1:=by
  show (if (1:Int)< 0 then ((1:Int)+(((x::l).map V.int).length:Int)).toNat else min (1:Int).toNat ((x::l).map V.int).length)=1
  rw [au (by decide),af,aB]
  show min 1 (l.length+1)=1
  lia
 rw [e]
 show (((x::l).map V.int).drop 1).take (((x::l).map V.int).length-1)=l.map V.int
 rw [af,aB,jP]
 show (l.map V.int).take l.length=l.map V.int
 rw [ig (by rw [af];exact aF _)]
abbrev kO:Stmt:=iB 99
theorem vG:bt ["house","call","numbers"] ["house","call","numbers"] (aJ kO):=⟨rfl,rfl,rfl,by decide +kernel,rfl,by decide +kernel,by decide +kernel⟩
theorem Sm (D:Df K mg "packets_answer" kO) (T:Tx K mg G U) (C:Cs P w K mg base G U):dQ P w K mg base 8 "packets_answer" ["house","call","numbers"] (HU G U 0 14):=by
 obtain ⟨f,fd,M,F⟩:=D
 obtain ⟨kS,l6,mq,lZ,kK,md,jz,kG,mj,l8,kE,mw,kH,jw,nI,kz,nv,jy,kR,nS⟩:=C
 refine ⟨f,fd,M,F.kp,F.cC (λ_ _ _ _ _ _ us hl=>(match us,hl with|[_,_,_],_=>rfl)),F.ok vG (λvs H Q E h=> ?_) (λcdv A bE s H vs Q E hr h=> ?_)⟩
 ·obtain ⟨h,l,d,q,as,s,m,c,ns,dc,rfl,_⟩:=h
  rfl
 ·obtain ⟨h,l,d,q,as,s,m,c,ns,dc,rfl,B,Z,hm,O,hq,hc,hge,hlt,k⟩:=h
  refine ⟨_,(ai (cP (bo dU (pv 1) bc (bN _)) (aq (aV (bW kS (hr.bY (by decide)) (aa (pv 0) (aa (cH (je (K:=K)) (pv 2) bc (λ_ _=>rfl)) (aa (cH (je (K:=K)) (pv 2) bc (λ_ _=>rfl)) ah)))))) bF) (ai (cP (bo dU (pv 1) bc (bN _)) (aq (aV (bW l6 (hr.bY (by decide)) (aa (pv 0) (aa (cH (je (K:=K)) (pv 2) bc (λ_ _=>rfl)) (aa (cH (je (K:=K)) (pv 2) bc (λ_ _=>rfl)) ah)))))) bF) (ai (cP (bo dU (pv 1) bc (bN _)) (aq (aV (bW mq (hr.bY (by decide)) (aa (pv 0) (aa (cH (je (K:=K)) (pv 2) bc (λ_ _=>rfl)) (aa (cH (je (K:=K)) (pv 2) bc (λ_ _=>rfl)) ah)))))) bF) (ai (cP (bo dU (pv 1) bc (bN _)) (aq (aV (bW lZ (hr.bY (by decide)) (aa (pv 0) (aa (cH (je (K:=K)) (pv 2) bc (λ_ _=>rfl)) ah))))) bF) (ai (cP (bo dU (pv 1) bc (bN _)) (aq (aV (bW kK (hr.bY (by decide)) (aa (pv 0) (aa (cH (je (K:=K)) (pv 2) bc (λ_ _=>rfl)) (aa (cH (je (K:=K)) (pv 2) bc (λ_ _=>rfl)) ah)))))) bF) (ai (cP (bo dU (pv 1) bc (bN _)) (aq (aV (bW md (hr.bY (by decide)) (aa (pv 0) (aa (cH (je (K:=K)) (pv 2) bc (λ_ _=>rfl)) (aa (cH (je (K:=K)) (pv 2) bc (λ_ _=>rfl)) ah)))))) bF) (ai (cP (bo dU (pv 1) bc (bN _)) (aq (aV (bW jz (hr.bY (by decide)) (aa (pv 0) ah)))) bF) (ai (cP (bo dU (pv 1) bc (bN _)) (aq (aV (bW kG (hr.bY (by decide)) (aa (pv 0) ah)))) bF) (ai (cP (bo dU (pv 1) bc (bN _)) (aq (aV (bW mj (hr.bY (by decide)) (aa (pv 0) ah)))) bF) (ai (cP (bo dU (pv 1) bc (bN _)) (aq (aV (bW l8 (hr.bY (by decide)) (aa (pv 0) ah)))) bF) (ai (cP (bo dU (pv 1) bc (bN _)) (aq (aV (bW kE (hr.bY (by decide)) (aa (pv 0) (aa (cH (je (K:=K)) (pv 2) bc (λ_ _=>rfl)) ah))))) bF) (ai (cP (bo dU (pv 1) bc (bN _)) (aq (aV (bW mw (hr.bY (by decide)) (aa (pv 0) ah)))) bF) (ai (cP (bo dU (pv 1) bc (bN _)) (aq (aV (bW kH (hr.bY (by decide)) (aa (pv 0) ah)))) bF) (aq (aV (bW jw (hr.bY (by decide)) (aa (pv 0) (aa (cH (je (K:=K)) (pv 2) bc (λ_ _=>rfl)) (aa (cH (je (K:=K)) (pv 2) bc (λ_ _=>rfl)) ah))))))))))))))))))),?_⟩
  cases hc with
  |house n c=>
   refine ⟨_,rfl,rfl,_,rfl,qM ?_⟩
   exact ⟨_,rfl,_,rfl,q,_,_,_,rfl,rfl,cE.of hq,cg (j:=0) rfl,_,rfl,q,_,_,_,rfl,rfl,cE.of hq,cg (j:=1) rfl,h,l,d,as,s,m+1,m,n,c,rfl,B,Z,cG m,O,k⟩
  |game a b=>
   refine ⟨_,rfl,rfl,_,rfl,cU (by decide) ?_⟩
   refine ⟨_,rfl,rfl,_,rfl,qM ?_⟩
   exact ⟨_,rfl,_,rfl,q,_,_,_,rfl,rfl,cE.of hq,cg (j:=0) rfl,_,rfl,q,_,_,_,rfl,rfl,cE.of hq,cg (j:=1) rfl,h,l,as,s,a,b,rfl,B,O,k.wI B Z (cG m) (Qm.ek s (.game a b) trivial)⟩
  |give g p=>
   refine ⟨_,rfl,rfl,_,rfl,cU (by decide) ?_⟩
   refine ⟨_,rfl,rfl,_,rfl,cU (by decide) ?_⟩
   refine ⟨_,rfl,rfl,_,rfl,qM ?_⟩
   exact ⟨_,rfl,_,rfl,q,_,_,_,rfl,rfl,cE.of hq,cg (j:=0) rfl,_,rfl,q,_,_,_,rfl,rfl,cE.of hq,cg (j:=1) rfl,h,l,as,s,g,p,rfl,B,O,k.wI B Z (cG m) (Qm.ek s (.give g p) trivial)⟩
  |take g=>
   refine ⟨_,rfl,rfl,_,rfl,cU (by decide) ?_⟩
   refine ⟨_,rfl,rfl,_,rfl,cU (by decide) ?_⟩
   refine ⟨_,rfl,rfl,_,rfl,cU (by decide) ?_⟩
   refine ⟨_,rfl,rfl,_,rfl,qM ?_⟩
   exact ⟨_,rfl,_,rfl,q,_,_,_,rfl,rfl,cE.of hq,cg (j:=0) rfl,h,l,as,s,g,rfl,B,O,k.wI B Z (cG m) (Qm.ek s (.take g) trivial)⟩
  |chain g p=>
   refine ⟨_,rfl,rfl,_,rfl,cU (by decide) ?_⟩
   refine ⟨_,rfl,rfl,_,rfl,cU (by decide) ?_⟩
   refine ⟨_,rfl,rfl,_,rfl,cU (by decide) ?_⟩
   refine ⟨_,rfl,rfl,_,rfl,cU (by decide) ?_⟩
   refine ⟨_,rfl,rfl,_,rfl,qM ?_⟩
   exact ⟨_,rfl,_,rfl,q,_,_,_,rfl,rfl,cE.of hq,cg (j:=0) rfl,_,rfl,q,_,_,_,rfl,rfl,cE.of hq,cg (j:=1) rfl,h,l,as,s,g,p,rfl,B,O,k.wI B Z (cG m) (Qm.ek s (.chain g p) trivial)⟩
  |turn g p=>
   refine ⟨_,rfl,rfl,_,rfl,cU (by decide) ?_⟩
   refine ⟨_,rfl,rfl,_,rfl,cU (by decide) ?_⟩
   refine ⟨_,rfl,rfl,_,rfl,cU (by decide) ?_⟩
   refine ⟨_,rfl,rfl,_,rfl,cU (by decide) ?_⟩
   refine ⟨_,rfl,rfl,_,rfl,cU (by decide) ?_⟩
   refine ⟨_,rfl,rfl,_,rfl,qM ?_⟩
   exact ⟨_,rfl,_,rfl,q,_,_,_,rfl,rfl,cE.of hq,cg (j:=0) rfl,_,rfl,q,_,_,_,rfl,rfl,cE.of hq,cg (j:=1) rfl,h,l,as,s,g,p,rfl,B,O,k.wI B Z (cG m) (Qm.ek s (.turn g p) trivial)⟩
  |greedy=>
   refine ⟨_,rfl,rfl,_,rfl,cU (by decide) ?_⟩
   refine ⟨_,rfl,rfl,_,rfl,cU (by decide) ?_⟩
   refine ⟨_,rfl,rfl,_,rfl,cU (by decide) ?_⟩
   refine ⟨_,rfl,rfl,_,rfl,cU (by decide) ?_⟩
   refine ⟨_,rfl,rfl,_,rfl,cU (by decide) ?_⟩
   refine ⟨_,rfl,rfl,_,rfl,cU (by decide) ?_⟩
   refine ⟨_,rfl,rfl,_,rfl,qM ?_⟩
   exact ⟨_,rfl,h,l,as,s,rfl,B,O,k.wI B Z (cG m) (Qm.ek s .greedy trivial)⟩
  |sides=>
   refine ⟨_,rfl,rfl,_,rfl,cU (by decide) ?_⟩
   refine ⟨_,rfl,rfl,_,rfl,cU (by decide) ?_⟩
   refine ⟨_,rfl,rfl,_,rfl,cU (by decide) ?_⟩
   refine ⟨_,rfl,rfl,_,rfl,cU (by decide) ?_⟩
   refine ⟨_,rfl,rfl,_,rfl,cU (by decide) ?_⟩
   refine ⟨_,rfl,rfl,_,rfl,cU (by decide) ?_⟩
   refine ⟨_,rfl,rfl,_,rfl,cU (by decide) ?_⟩
   refine ⟨_,rfl,rfl,_,rfl,qM ?_⟩
   exact ⟨_,rfl,h,l,as,s,rfl,B,O,k.wI B Z (cG m) (Qm.ek s .sides trivial)⟩
  |anew=>
   refine ⟨_,rfl,rfl,_,rfl,cU (by decide) ?_⟩
   refine ⟨_,rfl,rfl,_,rfl,cU (by decide) ?_⟩
   refine ⟨_,rfl,rfl,_,rfl,cU (by decide) ?_⟩
   refine ⟨_,rfl,rfl,_,rfl,cU (by decide) ?_⟩
   refine ⟨_,rfl,rfl,_,rfl,cU (by decide) ?_⟩
   refine ⟨_,rfl,rfl,_,rfl,cU (by decide) ?_⟩
   refine ⟨_,rfl,rfl,_,rfl,cU (by decide) ?_⟩
   refine ⟨_,rfl,rfl,_,rfl,cU (by decide) ?_⟩
   refine ⟨_,rfl,rfl,_,rfl,qM ?_⟩
   exact ⟨_,rfl,h,l,as,s,rfl,B,O,k.wI B Z (cG m) (Qm.ek s .anew trivial)⟩
  |even=>
   refine ⟨_,rfl,rfl,_,rfl,cU (by decide) ?_⟩
   refine ⟨_,rfl,rfl,_,rfl,cU (by decide) ?_⟩
   refine ⟨_,rfl,rfl,_,rfl,cU (by decide) ?_⟩
   refine ⟨_,rfl,rfl,_,rfl,cU (by decide) ?_⟩
   refine ⟨_,rfl,rfl,_,rfl,cU (by decide) ?_⟩
   refine ⟨_,rfl,rfl,_,rfl,cU (by decide) ?_⟩
   refine ⟨_,rfl,rfl,_,rfl,cU (by decide) ?_⟩
   refine ⟨_,rfl,rfl,_,rfl,cU (by decide) ?_⟩
   refine ⟨_,rfl,rfl,_,rfl,cU (by decide) ?_⟩
   refine ⟨_,rfl,rfl,_,rfl,qM ?_⟩
   exact ⟨_,rfl,h,l,as,s,rfl,B,O,k.wI B Z (cG m) (Qm.ek s .even trivial)⟩
  |hears x=>
   refine ⟨_,rfl,rfl,_,rfl,cU (by decide) ?_⟩
   refine ⟨_,rfl,rfl,_,rfl,cU (by decide) ?_⟩
   refine ⟨_,rfl,rfl,_,rfl,cU (by decide) ?_⟩
   refine ⟨_,rfl,rfl,_,rfl,cU (by decide) ?_⟩
   refine ⟨_,rfl,rfl,_,rfl,cU (by decide) ?_⟩
   refine ⟨_,rfl,rfl,_,rfl,cU (by decide) ?_⟩
   refine ⟨_,rfl,rfl,_,rfl,cU (by decide) ?_⟩
   refine ⟨_,rfl,rfl,_,rfl,cU (by decide) ?_⟩
   refine ⟨_,rfl,rfl,_,rfl,cU (by decide) ?_⟩
   refine ⟨_,rfl,rfl,_,rfl,cU (by decide) ?_⟩
   refine ⟨_,rfl,rfl,_,rfl,qM ?_⟩
   exact ⟨_,rfl,_,rfl,q,_,_,_,rfl,rfl,cE.of hq,cg (j:=0) rfl,h,l,as,s,x,rfl,B,O,k.wI B Z (cG m) (Qm.ek s (.hears x) trivial)⟩
  |uses=>
   refine ⟨_,rfl,rfl,_,rfl,cU (by decide) ?_⟩
   refine ⟨_,rfl,rfl,_,rfl,cU (by decide) ?_⟩
   refine ⟨_,rfl,rfl,_,rfl,cU (by decide) ?_⟩
   refine ⟨_,rfl,rfl,_,rfl,cU (by decide) ?_⟩
   refine ⟨_,rfl,rfl,_,rfl,cU (by decide) ?_⟩
   refine ⟨_,rfl,rfl,_,rfl,cU (by decide) ?_⟩
   refine ⟨_,rfl,rfl,_,rfl,cU (by decide) ?_⟩
   refine ⟨_,rfl,rfl,_,rfl,cU (by decide) ?_⟩
   refine ⟨_,rfl,rfl,_,rfl,cU (by decide) ?_⟩
   refine ⟨_,rfl,rfl,_,rfl,cU (by decide) ?_⟩
   refine ⟨_,rfl,rfl,_,rfl,cU (by decide) ?_⟩
   refine ⟨_,rfl,rfl,_,rfl,qM ?_⟩
   exact ⟨_,rfl,h,l,as,s,rfl,B,O,k.wI B Z (cG m) (Qm.ek s .uses trivial)⟩
  |games=>
   refine ⟨_,rfl,rfl,_,rfl,cU (by decide) ?_⟩
   refine ⟨_,rfl,rfl,_,rfl,cU (by decide) ?_⟩
   refine ⟨_,rfl,rfl,_,rfl,cU (by decide) ?_⟩
   refine ⟨_,rfl,rfl,_,rfl,cU (by decide) ?_⟩
   refine ⟨_,rfl,rfl,_,rfl,cU (by decide) ?_⟩
   refine ⟨_,rfl,rfl,_,rfl,cU (by decide) ?_⟩
   refine ⟨_,rfl,rfl,_,rfl,cU (by decide) ?_⟩
   refine ⟨_,rfl,rfl,_,rfl,cU (by decide) ?_⟩
   refine ⟨_,rfl,rfl,_,rfl,cU (by decide) ?_⟩
   refine ⟨_,rfl,rfl,_,rfl,cU (by decide) ?_⟩
   refine ⟨_,rfl,rfl,_,rfl,cU (by decide) ?_⟩
   refine ⟨_,rfl,rfl,_,rfl,cU (by decide) ?_⟩
   refine ⟨_,rfl,rfl,_,rfl,qM ?_⟩
   exact ⟨_,rfl,h,l,as,s,rfl,B,O,k.wI B Z (cG m) (Qm.ek s .games trivial)⟩
  |search kk mm=>
   refine ⟨_,rfl,rfl,_,rfl,cU (by decide) ?_⟩
   refine ⟨_,rfl,rfl,_,rfl,cU (by decide) ?_⟩
   refine ⟨_,rfl,rfl,_,rfl,cU (by decide) ?_⟩
   refine ⟨_,rfl,rfl,_,rfl,cU (by decide) ?_⟩
   refine ⟨_,rfl,rfl,_,rfl,cU (by decide) ?_⟩
   refine ⟨_,rfl,rfl,_,rfl,cU (by decide) ?_⟩
   refine ⟨_,rfl,rfl,_,rfl,cU (by decide) ?_⟩
   refine ⟨_,rfl,rfl,_,rfl,cU (by decide) ?_⟩
   refine ⟨_,rfl,rfl,_,rfl,cU (by decide) ?_⟩
   refine ⟨_,rfl,rfl,_,rfl,cU (by decide) ?_⟩
   refine ⟨_,rfl,rfl,_,rfl,cU (by decide) ?_⟩
   refine ⟨_,rfl,rfl,_,rfl,cU (by decide) ?_⟩
   refine ⟨_,rfl,rfl,_,rfl,cU (by decide) ?_⟩
   exact ⟨_,rfl,_,rfl,q,_,_,_,rfl,rfl,cE.of hq,cg (j:=0) rfl,_,rfl,q,_,_,_,rfl,rfl,cE.of hq,cg (j:=1) rfl,h,l,as,s,kk,mm,rfl,B,O,k.wI B Z (cG m) (Qm.ek s (.search kk mm) trivial)⟩
  |bar _ _ _=>exact absurd hlt (by decide)
  |pairs=>exact absurd hlt (by decide)
  |set=>exact absurd hlt (by decide)
  |pieces _ _=>exact absurd hlt (by decide)
  |round _=>exact absurd hlt (by decide)
  |met _ _=>exact absurd hlt (by decide)
abbrev jR:Stmt:=iB 100
theorem ui:bt ["house","call","numbers"] ["house","call","numbers"] (aJ jR):=⟨rfl,rfl,rfl,by decide +kernel,rfl,by decide +kernel,by decide +kernel⟩
theorem NM (D:Df K mg "pairings_answer" jR) (T:Tx K mg G U) (C:Cs P w K mg base G U):dQ P w K mg base 16 "pairings_answer" ["house","call","numbers"] (HU G U 14 20):=by
 obtain ⟨f,fd,M,F⟩:=D
 obtain ⟨kS,l6,mq,lZ,kK,md,jz,kG,mj,l8,kE,mw,kH,jw,nI,kz,nv,jy,kR,nS⟩:=C
 refine ⟨f,fd,M,F.kp,F.cC (λ_ _ _ _ _ _ us hl=>(match us,hl with|[_,_,_],_=>rfl)),F.ok ui (λvs H Q E h=> ?_) (λcdv A bE s H vs Q E hr h=> ?_)⟩
 ·obtain ⟨h,l,d,q,as,s,m,c,ns,dc,rfl,_⟩:=h
  rfl
 ·obtain ⟨h,l,d,q,as,s,m,c,ns,dc,rfl,B,Z,hm,O,hq,hc,hge,hlt,k⟩:=h
  refine ⟨_,(ai (cP (bo dU (pv 1) bc (bN _)) (aq (aV (bW nI (hr.bY (by decide)) (aa (pv 0) (aa (cH (je (K:=K)) (pv 2) bc (λ_ _=>rfl)) (aa (cH (je (K:=K)) (pv 2) bc (λ_ _=>rfl)) (aa (cH (je (K:=K)) (pv 2) bc (λ_ _=>rfl)) ah))))))) bF) (ai (cP (bo dU (pv 1) bc (bN _)) (aq (aV (bW kz (hr.bY (by decide)) (aa (pv 0) ah)))) bF) (ai (cP (bo dU (pv 1) bc (bN _)) (aq (aV (bW nv (hr.bY (by decide)) (aa (pv 0) ah)))) bF) (ai (cP (bo dU (pv 1) (dr T.C6) (bN _)) (aq (aV (bW jy (hr.bY (by decide)) (aa (pv 0) (aa (rW (II (K:=K)) (pv 2) (tu bc) xU) ah))))) bF) (ai (cP (bo dU (pv 1) bc (bN _)) (aq (aV (bW kR (hr.bY (by decide)) (aa (pv 0) (aa (cH (je (K:=K)) (pv 2) bc (λ_ _=>rfl)) ah))))) bF) (aq (aV (bW nS (hr.bY (by decide)) (aa (pv 0) (aa (cH (je (K:=K)) (pv 2) bc (λ_ _=>rfl)) (aa (cH (je (K:=K)) (pv 2) bc (λ_ _=>rfl)) ah))))))))))),?_⟩
  cases hc with
  |house _ _=>exact absurd hge (by decide)
  |game _ _=>exact absurd hge (by decide)
  |give _ _=>exact absurd hge (by decide)
  |take _=>exact absurd hge (by decide)
  |chain _ _=>exact absurd hge (by decide)
  |turn _ _=>exact absurd hge (by decide)
  |greedy=>exact absurd hge (by decide)
  |sides=>exact absurd hge (by decide)
  |anew=>exact absurd hge (by decide)
  |even=>exact absurd hge (by decide)
  |hears _=>exact absurd hge (by decide)
  |uses=>exact absurd hge (by decide)
  |games=>exact absurd hge (by decide)
  |search _ _=>exact absurd hge (by decide)
  |bar a b kk=>
   refine ⟨_,rfl,rfl,_,rfl,qM ?_⟩
   exact ⟨_,rfl,_,rfl,q,_,_,_,rfl,rfl,cE.of hq,cg (j:=0) rfl,_,rfl,q,_,_,_,rfl,rfl,cE.of hq,cg (j:=1) rfl,_,rfl,q,_,_,_,rfl,rfl,cE.of hq,cg (j:=2) rfl,h,l,d,as,s,m,a,b,kk,rfl,B,Z,hm,O,k⟩
  |pairs=>
   refine ⟨_,rfl,rfl,_,rfl,cU (by decide) ?_⟩
   refine ⟨_,rfl,rfl,_,rfl,qM ?_⟩
   exact ⟨_,rfl,h,l,d,as,s,m,rfl,B,Z,O,k.wI B Z (cG m) (Qm.ek s .pairs trivial)⟩
  |set=>
   refine ⟨_,rfl,rfl,_,rfl,cU (by decide) ?_⟩
   refine ⟨_,rfl,rfl,_,rfl,cU (by decide) ?_⟩
   refine ⟨_,rfl,rfl,_,rfl,qM ?_⟩
   exact ⟨_,rfl,h,l,d,as,s,m,rfl,B,Z,O,k.wI B Z (cG m) (Qm.ek s .set trivial)⟩
  |pieces xs hx=>
   refine ⟨_,rfl,rfl,_,rfl,cU (by decide) ?_⟩
   refine ⟨_,rfl,rfl,_,rfl,cU (by decide) ?_⟩
   refine ⟨_,rfl,rfl,_,rfl,cU (by decide) ?_⟩
   refine ⟨_,rfl,rfl,_,rfl,qM ?_⟩
   refine ⟨_,rfl,_,rfl,_,rfl,q,_,rfl,cE.of hq,λp hp=> ?_⟩
   rw [WI]
   have s1:bB H (bG H p (.a6 (xs.map V.int))):=aN hp
   exact ⟨h,l,d,p,as,s,m,xs,rfl,B.same s1,Z.same s1,O,aj,hx,(k.wI B Z (cG m) (Qm.ek s (.pieces xs) trivial)).bY s1⟩
  |round r=>
   refine ⟨_,rfl,rfl,_,rfl,cU (by decide) ?_⟩
   refine ⟨_,rfl,rfl,_,rfl,cU (by decide) ?_⟩
   refine ⟨_,rfl,rfl,_,rfl,cU (by decide) ?_⟩
   refine ⟨_,rfl,rfl,_,rfl,cU (by decide) ?_⟩
   refine ⟨_,rfl,rfl,_,rfl,qM ?_⟩
   exact ⟨_,rfl,_,rfl,q,_,_,_,rfl,rfl,cE.of hq,cg (j:=0) rfl,h,l,as,s,r,rfl,B,O,k.wI B Z (cG m) (Qm.ek s (.round r) trivial)⟩
  |met a b=>
   refine ⟨_,rfl,rfl,_,rfl,cU (by decide) ?_⟩
   refine ⟨_,rfl,rfl,_,rfl,cU (by decide) ?_⟩
   refine ⟨_,rfl,rfl,_,rfl,cU (by decide) ?_⟩
   refine ⟨_,rfl,rfl,_,rfl,cU (by decide) ?_⟩
   refine ⟨_,rfl,rfl,_,rfl,cU (by decide) ?_⟩
   exact ⟨_,rfl,_,rfl,q,_,_,_,rfl,rfl,cE.of hq,cg (j:=0) rfl,_,rfl,q,_,_,_,rfl,rfl,cE.of hq,cg (j:=1) rfl,h,l,d,as,s,m,a,b,rfl,B,Z,O,k.wI B Z (cG m) (Qm.ek s (.met a b) trivial)⟩
abbrev qQ:Stmt:=iB 98
theorem AF:bt ["house","call","numbers"] ["house","call","numbers"] (aJ qQ):=⟨rfl,rfl,rfl,by decide +kernel,rfl,by decide +kernel,by decide +kernel⟩
theorem Ro (D:Df K mg "answer_of" qQ) (T:Tx K mg G U) (lI:dQ P w K mg base 8 "packets_answer" ["house","call","numbers"] (HU G U 0 14)) (kX:dQ P w K mg base 16 "pairings_answer" ["house","call","numbers"] (HU G U 14 20)):dQ P w K mg base 17 "answer_of" ["house","call","numbers"] (HU G U 0 20):=by
 obtain ⟨f,fd,M,F⟩:=D
 refine ⟨f,fd,M,F.kp,F.cC (λ_ _ _ _ _ _ us hl=>(match us,hl with|[_,_,_],_=>rfl)),F.ok AF (λvs H Q E h=> ?_) (λcdv A bE s H vs Q E hr h=> ?_)⟩
 ·obtain ⟨h,l,d,q,as,s,m,c,ns,dc,rfl,_⟩:=h
  rfl
 ·obtain ⟨h,l,d,q,as,s,m,c,ns,dc,rfl,B,Z,hm,O,hq,hc,hge,hlt,k⟩:=h
  refine ⟨_,(ai (cP (bo rb (pv 1) (dr T.tH) (bN _)) (aq (aV (bW lI (hr.bY (by decide)) (aa (pv 0) (aa (pv 1) (aa (pv 2) ah)))))) bF) (aq (aV (bW kX (hr.bY (by decide)) (aa (pv 0) (aa (pv 1) (aa (pv 2) ah))))))),?_⟩
  refine ⟨_,rfl,_,_,rfl,rfl,_,rfl,l4 (λe1=> ?_) (λe1=> ?_)⟩
  ·have e1:c< 14:=by have:=bw e1;lia
   exact ⟨_,rfl,_,rfl,_,rfl,h,l,d,q,as,s,m,c,ns,dc,rfl,B,Z,hm,O,hq,hc,bD _,e1,k⟩
  ·have e1:14<=c:=by
    apply a5
    intro z
    exact e1 (aW (by lia))
   exact ⟨_,rfl,_,rfl,_,rfl,h,l,d,q,as,s,m,c,ns,dc,rfl,B,Z,hm,O,hq,hc,e1,hlt,k⟩
end
end Qz
end
section
namespace Qz
open PySem PySem.Spec PyProof.Rows L2
open Vbqzak (step)
theorem fK.OW {G U:Addr} {H H':Hp} {h l:Addr} {as:List Addr} {n c:Nat} {gs:List Gm} (A:fK G U H h l as n c gs) {ta:Addr} (k:∀b o,H b=some o->b≠ta->H' b=some o) (h1:ta≠h) (h2:ta≠l) (h3:ta∉as):fK G U H' h l as n c gs:=
 ⟨A.hs.imp λ_ e=>e.imp λ_ e=>k _ _ e (aY h1),k _ _ A.a6 (aY h2),A.nd,A.len,λj a g ha hg=>(A.vO j a g ha hg).imp λ_ e=>k _ _ e λz=>h3 (z▸aw ha)⟩
theorem i4.OW {U:Addr} {H H':Hp} {h d:Addr} {bs:List (Nat×Nat)} {m:Nat} (Z:i4 U H h d bs m) {ta:Addr} (k:∀b o,H b=some o->b≠ta->H' b=some o) (h1:ta≠h) (h2:ta≠d):i4 U H' h d bs m:=by
 obtain ⟨⟨dh,n,c,l,e1⟩,kvs,e2,e3⟩:=Z
 exact ⟨⟨dh,n,c,l,k _ _ e1 (aY h1)⟩,kvs,k _ _ e2 (aY h2),e3⟩
theorem V3 {cs t nums:List Int} {place:Nat} {c:Int} (h:cs.drop place=c::(nums++t)):xA (cs.map V.int) (some ((place+1:Nat):Int)) (some ((place+1+nums.length:Nat):Int))=nums.map V.int:=by
 have hl:cs.length-place=1+(nums.length+t.length):=by
  have:=cS List.length h
  rw [i9,aB,ao] at this
  lia
 unfold xA
 rw [HT.GG,HT.GG,af]
 have e1:min (place+1) cs.length=place+1:=by lia
 have e2:min (place+1+nums.length) cs.length=place+1+nums.length:=by lia
 rw [e1,e2,show place+1+nums.length-(place+1)=nums.length by lia,<-List.map_drop,<-List.map_take]
 congr 1
 have:cs.drop (place+1)=nums++t:=by
  have:cs.drop (place+1)=(cs.drop place).drop 1:=by rw [List.drop_drop]
  rw [this,h]
  rfl
 rw [this,List.take_left]
theorem SR {c:Nat} {ns:List Int} {d:Vbqzak.Call} (h:Qm.Cl c ns d):c< 20:=by
 cases h<;>decide
section
variable {P:Program} {w:World} {K:PySem.W.Frag} {mg:Str->Option Value} {base:Heap} {G U:Addr}
abbrev ip:Stmt:=iB 96
theorem jU:bt ["calls","house","told","place","end","answer"] ["calls"] (aJ ip):=⟨rfl,rfl,rfl,by decide +kernel,rfl,by decide +kernel,by decide +kernel⟩
def NH (K:PySem.W.Frag):Sp:=λvs H Q _=>∃(a:Addr) (ns:List Int),vs=[.ref a]/\cE K H a (ns.map V.int)/\PyVbqzak.answers_asked ns=true/\ns.length<=17000/\∀(H':Hp) (p:Addr),H' p=some (.a6 ((PyVbqzak.answers ns).map V.int))->Q (.ref p) H'
theorem TH {f:Addr} {fd:FuncData} (F:Iy K "answers" "answers" ip f fd) (T:Tx K mg G U) (Cb:P2 P w K mg base 2 "House" U ["self"] (NW U)) (pC:dQ P w K mg base 1 "end_of_call" ["calls","place"] (RV K)) (sU:dQ P w K mg base 17 "answer_of" ["house","call","numbers"] (HU G U 0 20)):pQ P w K mg base JD 18 f fd ["calls"] (NH K):=by
 refine F.ok jU (λvs H Q E h=> ?_) (λcdv A bE s H vs Q E hr h=> ?_)
 ·obtain ⟨a,ns,rfl,_⟩:=h
  rfl
 ·obtain ⟨a,ns,rfl,hS,X9,hlen,k⟩:=h
  obtain ⟨Y2,Y3⟩:=Qm.Bn.start X9
  refine ⟨_,(ai (bx (i:=1) jU.nd rfl (Or.inl rfl) (Pc Cb (hr.bY (by decide)))) (ai (bx (i:=2) jU.nd rfl (Or.inl rfl) (cf ah)) (ai (bx (i:=3) jU.nd rfl (Or.inl rfl) bc) (ai (l5 aT (bo rb (pv 3) (bT (fF (K:=K)) (by rfl) T.len bh (aa (pv 0) ah)) (bN _)) (ai (bx (i:=4) jU.nd rfl (Or.inl rfl) (bW pC (hr.bY (by decide)) (aa (pv 0) (aa (pv 3) ah)))) (ai (bx (i:=5) jU.nd rfl (Or.inl rfl) (bW sU (hr.bY (by decide)) (aa (pv 1) (aa (cH (je (K:=K)) (pv 0) (pv 3) (λ_ _=>rfl)) (aa (rW (II (K:=K)) (pv 0) (tu (eY lA (pv 3) bc)) (tu (pv 4))) ah))))) (ai (dS (mS (K:=K) aQ bL bM fe (pv 2) (aa (bT (fF (K:=K)) (by rfl) T.len bh (aa (pv 5) ah)) ah))) (ai (dS (mS (K:=K) aQ gO gP tj (pv 2) (aa (pv 5) ah))) (aq (bx (i:=3) jU.nd rfl (Or.inl rfl) (pv 4)))))))) (aq (aV (pv 2))))))),?_⟩
  refine λh dx hx hdx hne=> ?_
  refine ⟨h,dx,rfl,aj,λl d hl hd hdl=>⟨rfl,?_⟩⟩
  have Ya:l≠h:=λe=>by rw [e,aj] at hl;cases hl
  rw [aL Ya] at hl
  have Vd:l≠dx:=λe=>by rw [e,aj] at hl;cases hl
  rw [aL Vd] at hl
  have UB:d≠h:=λe=>by rw [e,aj] at hd;cases hd
  rw [aL UB] at hd
  have Ve:d≠dx:=λe=>by rw [e,aj] at hd;cases hd
  rw [aL Ve] at hd
  have e1:bG (bG (bG (bG (bG H dx (.iU h)) h (.ke U dx [])) l (.a6 [])) d (.dT [])) h (.ke U dx (hf 2 1 l d)) h=some (.ke U dx (hf 2 1 l d)):=aj
  have e2:bG (bG (bG (bG (bG H dx (.iU h)) h (.ke U dx [])) l (.a6 [])) d (.dT [])) h (.ke U dx (hf 2 1 l d)) l=some (.a6 []):=by rw [aL Ya,aL (aY hdl),aj]
  have e3:bG (bG (bG (bG (bG H dx (.iU h)) h (.ke U dx [])) l (.a6 [])) d (.dT [])) h (.ke U dx (hf 2 1 l d)) d=some (.dT []):=by rw [aL UB,aj]
  have s0:bB H (bG (bG (bG (bG (bG H dx (.iU h)) h (.ke U dx [])) l (.a6 [])) d (.dT [])) h (.ke U dx (hf 2 1 l d))):=λb o e=>by
   rw [aL (az e hx),aL (az e hd),aL (az e hl),aL (az e hx),aL (az e hdx)]
   exact e
  generalize bG (bG (bG (bG (bG H dx (.iU h)) h (.ke U dx [])) l (.a6 [])) d (.dT [])) h (.ke U dx (hf 2 1 l d))=H0 at e1 e2 e3 s0
  refine ⟨bD _,λta Cj=> ?_⟩
  have s1:bB H0 (bG H0 ta (.a6 [])):=aN Cj
  have t1:bG H0 ta (.a6 []) ta=some (.a6 []):=aj
  generalize bG H0 ta (.a6 [])=H1 at s1 t1
  have PX:H ta=none:=s0.free Cj
  have Yb:ta≠h:=aY (az e1 Cj)
  refine ⟨λm σ H'=>∃(l d:Addr) (as:List Addr) (s:l9) (place:Nat) (v4 v5:Option V) (out jv:List Int),σ=[some (.ref a),some (.ref h),some (.ref ta),some (.int (place:Nat)),v4,v5]/\fK G U H' h l as s.n s.c s.games/\i4 U H' h d s.barred place/\Qm.Ok s/\H' ta=some (.a6 (out.map V.int))/\bB H H'/\(H l=none/\H d=none/\∀y∈as,H y=none)/\(ta≠l/\ta≠d/\ta∉as)/\Qm.Bn s (ns.drop place) jv/\PyVbqzak.answers ns=out++jv/\place<=ns.length/\m=ns.length-place,
   ⟨ns.length,l,d,[],Vbqzak.start,0,none,none,[],PyVbqzak.answers ns,rfl,⟨⟨dx,d,s1 _ _ e1⟩,s1 _ _ e2,by simp,rfl,λj a g ha=>by simp at ha⟩,⟨⟨dx,_,_,_,s1 _ _ e1⟩,[],s1 _ _ e3,aF _,λx y=>rfl⟩,Qm.Ok.start,t1,s0.trans s1,⟨hl,hd,by simp⟩,⟨aY (az e2 Cj),aY (az e3 Cj),by simp⟩,by rw [rK];exact Y2,rfl,bD _,rfl⟩,?_⟩
  clear s0 s1 t1 e1 e2 e3 hl hd Ya Vd UB Ve hdl Cj Y2
  rintro m σ H2 ⟨l,d,as,s,place,v4,v5,out,jv,rfl,B,Z,O,Yc,sm,⟨hl,hd,has⟩,⟨tl,td,Y4⟩,L,eo,hpl,hm⟩
  have hS2:=sm.seq hS
  refine ⟨_,rfl,_,rfl,a,_,rfl,.inl hS2,_,_,rfl,rfl,_,rfl,?_⟩
  rw [af]
  refine l4 (λc1=> ?_) (λc1=> ?_)
  ·have c1:place< ns.length:=by have:=bw c1;lia
   rcases L.step with ⟨z,_⟩|⟨dc,t,Ca,PZ,Nw,L'⟩
   ·exfalso
    have:=cS List.length z
    rw [i9] at this
    simp at this
    lia
   obtain ⟨c,nums,Ea,hcl⟩:=PZ.cl
   refine ⟨fun σ H'=>∃(l d:Addr) (as:List Addr) (s:l9) (zm:Nat) (v4 v5:Option V) (out jv:List Int),σ=[some (.ref a),some (.ref h),some (.ref ta),some (.int (zm:Nat)),v4,v5]/\fK G U H' h l as s.n s.c s.games/\i4 U H' h d s.barred zm/\Qm.Ok s/\H' ta=some (.a6 (out.map V.int))/\bB H H'/\(H l=none/\H d=none/\∀y∈as,H y=none)/\(ta≠l/\ta≠d/\ta∉as)/\Qm.Bn s (ns.drop zm) jv/\PyVbqzak.answers ns=out++jv/\zm<=ns.length/\ns.length-zm< m,?_,?_⟩
   ·rintro σ' H' ⟨l,d,as,s,p',w4,w5,out,jv,rfl,x1,x2,x3,x4,x5,x6,x7,x8,x9,x10,x11⟩
    exact ⟨_,x11,l,d,as,s,p',w4,w5,out,jv,rfl,x1,x2,x3,x4,x5,x6,x7,x8,x9,x10,rfl⟩
   ·have hlen2:ns.length-place=1+(nums.length+t.length):=by
     have:=cS List.length Ea
     rw [i9,aB,ao] at this
     lia
    have hdt:ns.drop (place+1+nums.length)=t:=by
     have:ns.drop (place+(1+nums.length))=(ns.drop place).drop (1+nums.length):=by rw [List.drop_drop]
     rw [show place+1+nums.length=place+(1+nums.length) by lia,this,Ea,Nat.add_comm 1,List.drop_succ_cons,List.drop_left]
    have VT:Dj (ns.map V.int) ((place:Nat):Int)=some (V.int ((c:Nat):Int)):=cg (by
     have:ns[place]? =some ((c:Nat):Int):=by
      have:=cS (λl=>l[0]?) Ea
      simpa [nj] using this
     rw [ay,this]
     rfl)
    refine ⟨_,rfl,_,rfl,a,ns,t,nums,place,c,dc,rfl,hS2,Ea,hcl,?_⟩
    refine ⟨_,rfl,_,rfl,_,rfl,xI hS2 VT ⟨_,rfl,_,rfl,_,_,rfl,rfl,_,rfl,_,rfl,_,rfl,a,_,rfl,hS2,λq hq=> ?_⟩⟩
    rw [show ((place:Nat):Int)+1=((place+1:Nat):Int) by lia,V3 Ea]
    have s3:bB H2 (bG H2 q (.a6 (nums.map V.int))):=aN hq
    have t3:bG H2 q (.a6 (nums.map V.int)) q=some (.a6 (nums.map V.int)):=aj
    generalize bG H2 q (.a6 (nums.map V.int))=H3 at s3 t3
    refine ⟨h,l,d,q,as,s,place,c,nums,dc,rfl,B.same s3,Z.same s3,by lia,O,t3,hcl,bD _,SR hcl,λH4 p l' d' as' B4 Z4 C4 BZ AB=> ?_⟩
    have K0:=s3 _ _ Yc
    have Fz:H4 ta=some (.a6 (out.map V.int)):=C4.keep _ _ K0 Yb tl td Y4
    have VU:=sm.trans s3
    have sm4:bB H H4:=λb o e=>C4.keep b o (VU b o e) (az e hx) (az e hl) (az e hd) λz=>by rw [has b z] at e;cases e
    have Y5:ta≠l':=C4.IP.elim (λe=>by rw [e];exact tl) λe=>az K0 e
    have Y6:ta≠d':=C4.Q4.elim (λe=>by rw [e];exact td) λe=>az K0 e
    have Vf:ta∉as':=λhm=>(C4.Jw ta hm).elim Y4 λe=>by rw [K0] at e;cases e
    have fr':H l'=none/\H d'=none/\∀y∈as',H y=none:=⟨C4.IP.elim (λe=>by rw [e];exact hl) λe=>VU.free e,C4.Q4.elim (λe=>by rw [e];exact hd) λe=>VU.free e,λy hy=>(C4.Jw y hy).elim (has y) λe=>VU.free e⟩
    have Ud:ta≠p:=az K0 BZ
    have hsz:out.length+(1+((step s dc).2.length+Ca.length))<=10000000:=by
     rw [eo,Nw] at Y3
     simp only [ao,aB] at Y3
     lia
    refine ⟨_,rfl,.inl ⟨rfl,_,cE.of Fz⟩,_,rfl,p,_,rfl,.inl (cE.of AB),ta,_,_,rfl,rfl,Fz,(by rw [af,dH];lia),?_⟩
    refine ⟨_,rfl,.inl ⟨rfl,_,cE.of aj⟩,_,rfl,ta,p,_,_,rfl,rfl,aj,(by rw [aL (aY Ud)];exact AB),(by simp only [ao,af,aB,fU];rw [dH];lia),?_⟩
    rw [mV]
    have k5:∀b o,H4 b=some o->b≠ta->bG H4 ta (.a6 (out.map V.int++[V.int (((step s dc).2.map V.int).length:Nat)]++(step s dc).2.map V.int)) b=some o:=λb o e hb=>by rw [aL hb];exact e
    refine ⟨_,rfl,l',d',as',(step s dc).1,place+1+nums.length,_,_,out++(((step s dc).2.length:Int)::(step s dc).2),Ca,rfl,B4.OW k5 Yb Y5 Vf,(Z4.OW k5 Yb Y6).le (by lia),O.step dc,?_,λb o e=> ?_,fr',⟨Y5,Y6,Vf⟩,by rw [hdt];exact L',by rw [eo,Nw,dN],by lia,by lia⟩
    ·rw [aj,a4,bA,dN,af]
     rfl
    ·rw [aL (az e PX)]
     exact sm4 b o e
  ·have c1:place=ns.length:=by
    have:¬(((place:Nat):Int)< ((ns.length:Nat):Int)):=λz=>c1 (aW z)
    lia
   rw [c1,List.drop_length] at L
   rcases L.step with ⟨_,z⟩|⟨dc,t,Ca,PZ,_⟩
   ·rw [z,bR] at eo
    rw [<-eo] at Yc
    exact ⟨_,rfl,k H2 ta Yc⟩
   ·cases PZ
end
end Qz
end
section
namespace Qz
open PySem PySem.Spec PyProof.Rows L2
section
variable {K:PySem.W.Frag} {h:Heap} {mg:Str->Option Value} {x:Str} {st:Stmt} {f C:Addr} {m qual:Str} {oc:Value} {od an:Option Addr} {osl:Array (Option Value)} {kV doc pm cdv ct:Value}
theorem Yd (X:K.In h) (G:h.Ns mainGlobals mg) (a:PySem.W.nsIn K mainGlobals x=some (some (.ref f))) (l:K.lookup f=some ⟨oc,od,.func (PySem.W.fnOf x x (mT st) (lL st) (aJ st) .none kV doc pm an cdv ct),osl⟩) (c:PySem.W.codeIn K cdv x=true) (k:PySem.W.keepIn K (.ref f)=true):Df K mg x st:=
 ⟨f,_,lK X G a,Bz l c k⟩
theorem Yk (a:PySem.W.findIn K (.ref C) m=some (some (.ref f))) (i:PySem.W.isFn K (.ref f)=true) (l:K.lookup f=some ⟨oc,od,.func (PySem.W.fnOf m qual (mT st) (lL st) (aJ st) .none kV doc pm an cdv ct),osl⟩) (c:PySem.W.codeIn K cdv qual=true) (k:PySem.W.keepIn K (.ref f)=true):Dm K C m qual st:=
 ⟨f,_,⟨a,i,k⟩,Bz l c k⟩
def Di (K:PySem.W.Frag) (mg:Str->Option Value) (x:Str) (C:Addr) (qual:Str) (st:Stmt):Prop:=∃f fd,mg x=some (.ref C)/\Mk K C f/\Iy K "__init__" qual st f fd
theorem Yh (X:K.In h) (G:h.Ns mainGlobals mg) (aC:PySem.W.nsIn K mainGlobals x=some (some (.ref C))) (mk:PySem.W.makesIn K C=true) (a:PySem.W.findIn K (.ref C) "__init__"=some (some (.ref f))) (i:PySem.W.isFn K (.ref f)=true) (kc:PySem.W.keepIn K (.ref C)=true) (l:K.lookup f=some ⟨oc,od,.func (PySem.W.fnOf "__init__" qual (mT st) (lL st) (aJ st) .none kV doc pm an cdv ct),osl⟩) (c:PySem.W.codeIn K cdv qual=true) (k:PySem.W.keepIn K (.ref f)=true):Di K mg x C qual st:=
 ⟨f,_,lK X G aC,⟨mk,a,i,kc⟩,Bz l c k⟩
theorem Yg {i:Int} {t:Tok} (X:K.In h) (G:h.Ns mainGlobals mg) (a:PySem.W.nsIn K mainGlobals x=some (some (.int i t))):GC mg x (.int i):=⟨_,lK X G a,⟨_,rfl⟩⟩
theorem Yr {a:Addr} {o:Obj} {its:Array Value} {n:Nat} {t0 t1 t2 t3 t4 t5 t6 t7 t8 t9 t10 t11 t12 t13 t14 t15 t16 t17 t18 t19:Tok} (X:K.In h) (G:h.Ns mainGlobals mg) (e:PySem.W.nsIn K mainGlobals "HOW_MANY_NUMBERS"=some (some (.ref a))) (l:K.lookup a=some o) (h1:o.cls= .type "tuple") (h2:o.data= .seq its n) (h3:its.toList=[.int 2 t0,.int 2 t1,.int 2 t2,.int 1 t3,.int 2 t4,.int 2 t5,.int 0 t6,.int 0 t7,.int 0 t8,.int 0 t9,.int 1 t10,.int 0 t11,.int 0 t12,.int 2 t13,.int 3 t14,.int 0 t15,.int 0 t16,.int 1 t17,.int 1 t18,.int 2 t19]):∃a,GC mg "HOW_MANY_NUMBERS" (.ref a)/\∀H:Hp,kY K H a (BL.map V.int):=
 ⟨a,⟨_,lK X G e,rfl⟩,λH=> .inr ⟨o,its,n,l,h1,h2,by
  have:its.size=20:=by rw [<-cY,h3];rfl
  rw [this,dH];decide,by rw [h3];exact .cons ⟨_,rfl⟩ (.cons ⟨_,rfl⟩ (.cons ⟨_,rfl⟩ (.cons ⟨_,rfl⟩ (.cons ⟨_,rfl⟩ (.cons ⟨_,rfl⟩ (.cons ⟨_,rfl⟩ (.cons ⟨_,rfl⟩ (.cons ⟨_,rfl⟩ (.cons ⟨_,rfl⟩ (.cons ⟨_,rfl⟩ (.cons ⟨_,rfl⟩ (.cons ⟨_,rfl⟩ (.cons ⟨_,rfl⟩ (.cons ⟨_,rfl⟩ (.cons ⟨_,rfl⟩ (.cons ⟨_,rfl⟩ (.cons ⟨_,rfl⟩ (.cons ⟨_,rfl⟩ (.cons ⟨_,rfl⟩ (.nil))))))))))))))))))))⟩⟩
end
structure Ds (K:PySem.W.Frag) (mg:Str->Option Value) (G U:Addr):Prop where
 Eg:Df K mg "chain_of" oN
 Fu:Df K mg "exchange" si
 AK:Df K mg "turn_chain" oX
 vE:Df K mg "chain_with_more" ik
 EM:Df K mg "even_out" sy
 xr:Df K mg "pack_greedily" lj
 CL:Df K mg "pack_anew" qz
 uE:Df K mg "packet_made_free" jq
 Hf:Df K mg "as_list" uj
 GZ:Df K mg "look_up" ug
 Et:Df K mg "team_row" sO
 Fi:Df K mg "game_row" sJ
 Bv:Df K mg "packet_row" o3
 zy:Df K mg "heard_ahead" n8
 vZ:Df K mg "search_packets" ku
 CN:Df K mg "opponents" kP
 yl:Df K mg "spread_sides" mD
 Ck:Df K mg "two_sides" kq
 xB:Df K mg "one_step_more" jh
 Bi:Df K mg "walks_home" lR
 uk:Df K mg "first_walk_round" gV
 EY:Df K mg "odd_ring" r9
 BJ:Df K mg "call_house" o2
 DU:Df K mg "call_game" qu
 CU:Df K mg "call_give" qI
 D1:Df K mg "call_take" qv
 xp:Df K mg "chain_refusal" lF
 AI:Df K mg "call_chain" oY
 DY:Df K mg "call_turn" qw
 zr:Df K mg "call_greedy" nW
 BM:Df K mg "call_sides" pq
 Ct:Df K mg "call_anew" qH
 CP:Df K mg "call_even" qF
 Bp:Df K mg "call_hears" pj
 C5:Df K mg "call_uses" qB
 BU:Df K mg "call_games" oZ
 zt:Df K mg "call_search" nH
 zj:Df K mg "partner_rows" jL
 G1:Df K mg "without" qP
 BH:Df K mg "most_pairs" pd
 xo:Df K mg "first_partner" lq
 yn:Df K mg "told_pairing" jH
 Bf:Df K mg "piece_from" pf
 vY:Df K mg "pieces_without" iT
 BQ:Df K mg "odd_pieces" lQ
 xH:Df K mg "most_pairs_by" lB
 xy:Df K mg "one_team_more" lr
 EI:Df K mg "told_set" sN
 Jm:Df K mg "places" vR
 zz:Df K mg "round_pairs" nU
 AW:Df K mg "round_told" o1
 ES:Df K mg "call_bar" r6
 BE:Df K mg "call_pairs" pb
 Ft:Df K mg "call_set" sv
 uA:Df K mg "are_rising_teams" jr
 zE:Df K mg "call_pieces" nz
 AU:Df K mg "call_round" pz
 Fh:Df K mg "call_met" sg
 zI:Df K mg "end_of_call" nM
 D5:Df K mg "answer_of" qQ
 wc:Df K mg "packets_answer" kO
 vh:Df K mg "pairings_answer" jR
 xD:Dm K G "has_team" "Game.has_team" lE
 uJ:Dm K G "shares_team" "Game.shares_team" js
 zx:Dm K U "begin" "House.begin" nZ
 vD:Dm K U "game_with" "House.game_with" jW
 v9:Dm K U "is_heard" "House.is_heard" kL
 rA:Dm K U "least_unheard" "House.least_unheard" f7
 wA:Dm K U "games_of" "House.games_of" iR
 mF:Dm K U "games_without_packet" "House.games_without_packet" ee
 pV:Dm K U "games_by_packet" "House.games_by_packet" eD
 rC:Dm K U "packets_heard" "House.packets_heard" gc
 qm:Dm K U "games_together" "House.games_together" fQ
 xu:Dm K U "set_bar" "House.set_bar" lx
 rq:Dm K U "may_be_paired" "House.may_be_paired" iw
 OJ:Di K mg "Game" G "Game.__init__" lD
 K5:Di K mg "House" U "House.__init__" kr
theorem OL {P:Program} {w:World} {K:PySem.W.Frag} {mg:Str->Option Value} {base:Heap} {G U:Addr} (T:Tx K mg G U) (D:Ds K mg G U) {f:Addr} {fd:FuncData} (F:Iy K "answers" "answers" ip f fd):pQ P w K mg base JD 18 f fd ["calls"] (NH K):=by
 have iI:=QC (P:=P) (w:=w) (base:=base) D.zx T
 have kS:=SJ (P:=P) (w:=w) (base:=base) D.BJ T iI
 have du:=Rc (P:=P) (w:=w) (base:=base) D.GZ T
 have eN:=Ti (P:=P) (w:=w) (base:=base) D.Et T
 have Fx:P2 P w K mg base 1 "Game" G ["self","first","second"] (NX G):=by
  obtain ⟨f,fd,e,M,F⟩:=D.OJ
  exact ⟨f,fd,e,M,F.cC (λ_ _ _ _ _ _ us hl=>(match us,hl with|[_,_,_],_=>rfl)),Qt F T⟩
 have l6:=R6 (P:=P) (w:=w) (base:=base) D.DU T du eN Fx
 have iz:=Tc (P:=P) (w:=w) (base:=base) D.Fi T
 have jl:=SY (P:=P) (w:=w) (base:=base) D.Bv T
 have dn:=Td (P:=P) (w:=w) (base:=base) D.xD T
 have fR:=Sw (P:=P) (w:=w) (base:=base) D.vD T dn
 have fq:=SH (P:=P) (w:=w) (base:=base) D.v9 T fR
 have mq:=RJ (P:=P) (w:=w) (base:=base) D.CU T du iz jl fq
 have lZ:=Rh (P:=P) (w:=w) (base:=base) D.D1 T du iz
 have gD:=Te (P:=P) (w:=w) (base:=base) D.xp T du iz jl
 have ft:=QA (P:=P) (w:=w) (base:=base) D.uJ T dn
 have iy:=QU (P:=P) (w:=w) (base:=base) D.Eg T ft
 have fu:=Si (P:=P) (w:=w) (base:=base) D.Hf T
 have kK:=Sn (P:=P) (w:=w) (base:=base) D.AI T gD iy fu
 have lG:=Sz (P:=P) (w:=w) (base:=base) D.Fu T
 have jk:=Sq (P:=P) (w:=w) (base:=base) D.AK T iy lG
 have md:=Ry (P:=P) (w:=w) (base:=base) D.DY T gD jk
 have cz:=Sl (P:=P) (w:=w) (base:=base) D.mF T
 have dv:=RD (P:=P) (w:=w) (base:=base) D.rA T fq
 have mJ:=Rz (P:=P) (w:=w) (base:=base) D.xr T cz dv
 have jz:=RN (P:=P) (w:=w) (base:=base) D.zr T mJ cz
 have ka:=Q1 (P:=P) (w:=w) (base:=base) D.CN T
 have oe:=Q6 (P:=P) (w:=w) (base:=base) D.yl T
 have kb:=Tw (P:=P) (w:=w) (base:=base) D.Ck T ka oe
 have mI:=TB (P:=P) (w:=w) (base:=base) D.xB T
 have qS:=Rq (P:=P) (w:=w) (base:=base) D.Bi T mI
 have jY:=QE (P:=P) (w:=w) (base:=base) D.uk T qS
 have uO:=Q5 (P:=P) (w:=w) (base:=base) D.EY T ka jY
 have kG:=Tn (P:=P) (w:=w) (base:=base) D.BM T kb uO fu
 have jX:=QF (P:=P) (w:=w) (base:=base) D.uE T dv fR jk
 have sT:=Rv (P:=P) (w:=w) (base:=base) D.CL T jX
 have d4:=Rb (P:=P) (w:=w) (base:=base) D.wA T dn
 have mj:=Rp (P:=P) (w:=w) (base:=base) D.Ct T kb sT d4
 have dR:=Th (P:=P) (w:=w) (base:=base) D.pV T
 have kU:=Sy (P:=P) (w:=w) (base:=base) D.vE T iy
 have uN:=Se (P:=P) (w:=w) (base:=base) D.EM T dR kU lG
 have l8:=TF (P:=P) (w:=w) (base:=base) D.CP T uN cz
 have iQ:=Qs (P:=P) (w:=w) (base:=base) D.rC T d4
 have kE:=Ph (P:=P) (w:=w) (base:=base) D.Bp T du eN iQ fu
 have mw:=Ov (P:=P) (w:=w) (base:=base) D.C5 T dR
 have kH:=OQ (P:=P) (w:=w) (base:=base) D.BU T
 have pA:=Rr (P:=P) (w:=w) (base:=base) D.zy T ft
 have lH:=RT (P:=P) (w:=w) (base:=base) D.vZ T pA
 have jw:=NF (P:=P) (w:=w) (base:=base) D.zt T lH
 have mK:=Q2 (P:=P) (w:=w) (base:=base) D.xu T
 have nI:=N4 (P:=P) (w:=w) (base:=base) D.ES T du eN mK
 have d5:=S9 (P:=P) (w:=w) (base:=base) D.qm T d4 dn
 have er:=Su (P:=P) (w:=w) (base:=base) D.rq T d5
 have eZ:=Ri (P:=P) (w:=w) (base:=base) D.zj T er
 have iJ:=Tb (P:=P) (w:=w) (base:=base) D.G1 T
 have iA:=MM (P:=P) (w:=w) (base:=base) D.BH T iJ 11
 have mL:=Qr (P:=P) (w:=w) (base:=base) D.xo T iA iJ
 have og:=QV (P:=P) (w:=w) (base:=base) D.yn T mL iJ
 have kz:=Pj (P:=P) (w:=w) (base:=base) D.BE T eZ og
 have qU:=Sr (P:=P) (w:=w) (base:=base) D.Bf T
 have gm:=Sg (P:=P) (w:=w) (base:=base) D.vY T qU
 have jm:=RY (P:=P) (w:=w) (base:=base) D.BQ T
 have dX:=Ts (P:=P) (w:=w) (base:=base) D.xH T gm jm
 have mM:=Sk (P:=P) (w:=w) (base:=base) D.xy T
 have uP:=RU (P:=P) (w:=w) (base:=base) D.EI T dX mM
 have nv:=NR (P:=P) (w:=w) (base:=base) D.Ft T eZ uP dX fu
 have jZ:=Sx (P:=P) (w:=w) (base:=base) D.uA T
 have jy:=Ol (P:=P) (w:=w) (base:=base) D.zE T jZ eZ gm jm dX fu
 have oh:=QL (P:=P) (w:=w) (base:=base) D.Jm T
 have pB:=RK (P:=P) (w:=w) (base:=base) D.zz T oh
 have qT:=SD (P:=P) (w:=w) (base:=base) D.AW T pB
 have kR:=Pg (P:=P) (w:=w) (base:=base) D.AU T du oh qT
 have nS:=OF (P:=P) (w:=w) (base:=base) D.Fh T du eN d5 er
 have C:Cs P w K mg base G U:=⟨kS,l6,mq,lZ,kK,md,jz,kG,mj,l8,kE,mw,kH,jw,nI,kz,nv,jy,kR,nS⟩
 have lI:=Sm (P:=P) (w:=w) (base:=base) D.wc T C
 have kX:=NM (P:=P) (w:=w) (base:=base) D.vh T C
 have sU:=Ro (P:=P) (w:=w) (base:=base) D.D5 T lI kX
 have pC:=Ru (P:=P) (w:=w) (base:=base) D.zI T
 have Cb:P2 P w K mg base 2 "House" U ["self"] (NW U):=by
  obtain ⟨f,fd,e,M,F⟩:=D.K5
  exact ⟨f,fd,e,M,F.cC (λ_ _ _ _ _ _ us hl=>(match us,hl with|[_],_=>rfl)),Rn F T iI⟩
 exact TH F T Cb pC sU
end Qz
namespace Qz
open PySem PySem.Spec PyProof.Rows L2
theorem V2 {P:Program} {w:World} {K:PySem.W.Frag} {h:Heap} {mg:Str->Option Value} {fa f G U:Addr} {oc:Value} {od an:Option Addr} {osl:Array (Option Value)} {kV doc pm cdv ct:Value} (X:K.In h) (Gn:h.Ns mainGlobals mg) (Ci:mg "answers"=some (.ref fa)) (aG:PySem.W.nsIn K mainGlobals "Game"=some (some (.ref G))) (aU:PySem.W.nsIn K mainGlobals "House"=some (some (.ref U)))
  (a:PySem.W.nsIn K mainGlobals "answers"=some (some (.ref f))) (l:K.lookup f=some ⟨oc,od,.func (PySem.W.fnOf "answers" "answers" (mT ip) (lL ip) (aJ ip) .none kV doc pm an cdv ct),osl⟩) (c:PySem.W.codeIn K cdv "answers"=true) (k:PySem.W.keepIn K (.ref f)=true) (T:Tx K mg G U) (D:Ds K mg G U):
  ∃fd:FuncData,(∀(s:Shared) (us:List Value),us.length=(["calls"]:List Str).length->BindsTo s fd ⟨us,[]⟩ ((["calls"]:List Str).zip us))/\∀base:Heap,K.In base->base.Ns mainGlobals mg->pQ P w K mg base JD 18 fa fd ["calls"] (NH K):=by
 have e:=Ci.symm.trans (lK X Gn a)
 cases e
 exact ⟨PySem.W.fnOf "answers" "answers" (mT ip) (lL ip) (aJ ip) .none kV doc pm an cdv ct,λs us hu=>match us,hu with|[_],_=> .of_eq rfl,λbase _ _=>OL T D (Bz l c k)⟩
end Qz
end
namespace PySem.W.Fast
def tw18423096518069480849:=Nat
def tw14920439018770628101:=Nat
def tw2833863456270669704:=Nat
def tw7061852757876400936:=Nat
def tw13291090548831418423:=Nat
def tw15829119427463700214:=Nat
def tw8384152706965062669:=Nat
def tw5516357622974988835:=Nat
def tw6521822056609965454:=Nat
def tw8307482271905247294:=Nat
def tw15158271482134030599:=Nat
def tw8992017410322170174:=Nat
def tw10747735521794958278:=Nat
def tw1593275992138031541:=Nat
def tw12299232204251502363:=Nat
def tw14183227096861922068:=Nat
def tw16496390601172911371:=Nat
def tw15091856586165245458:=Nat
def tw10785128551449220381:=Nat
def tw16636398372073175764:=Nat
def tw3393736070256071583:=Nat
def tw3231891970532334568:=Nat
def tw6868107909644342211:=Nat
def tw6284448084424313047:=Nat
def tw1592534941660430541:=Nat
def tw12669489007001753859:=Nat
def tw1034433924349333784:=Nat
def tw11664384996983301360:=Nat
def tw9696528614379063910:=Nat
def tw1401001853410308909:=Nat
def tw1370669178226266478:=Nat
def tw18192333232796697534:=Nat
def tw17419243720163325826:=Nat
def tw1048982269755321088:=Nat
def tw10917101455304795069:=Nat
def tw12616838403391013955:=Nat
def tw5828896537996697102:=Nat
def tw6853674383553109279:=Nat
def tw11646365529347062570:=Nat
def tw3183369531684210393:=Nat
def tw6294422504506817636:=Nat
def tw17622851025413480014:=Nat
def tw4064986391093953371:=Nat
def tw5715919374631357251:=Nat
def tw796217977587168908:=Nat
def tw3314666941593768348:=Nat
def tw17381938729062179854:=Nat
def tw16777647082685239996:=Nat
def tw9350420705507520827:=Nat
def tw3992136299440114855:=Nat
def tw150023443052203346:=Nat
def tw16067692478978252108:=Nat
def tw9862299024786573702:=Nat
def tw980207486507706767:=Nat
def tw15249640663867008688:=Nat
def tw2964312285954766724:=Nat
def tw17145521045609582386:=Nat
def tw1750676656978131504:=Nat
def tw10517609350981557584:=Nat
def tw4383362640294279367:=Nat
def tw11311585078083577411:=Nat
def tw14829621752449263999:=Nat
def tw4376260774507153998:=Nat
def tw12230152880533314946:=Nat
def tw14416898576868799833:=Nat
def tw1972674430911584186:=Nat
def tw18036704443433364339:=Nat
def tw4092028024326344809:=Nat
def tw16308885925561500007:=Nat
def tw351848735506455417:=Nat
def tw16861170358963863587:=Nat
def tw11298293757197496704:=Nat
def tw7812885198333434541:=Nat
def tw5268668898248229149:=Nat
def tw4559259160623642277:=Nat
def tw13406760888145611281:=Nat
def tw16206294430448109963:=Nat
def tw15546099541864422849:=Nat
def tw982416716303538245:=Nat
def tw16905965264217631746:=Nat
def tw512010583206057952:=Nat
def tw5329990502203868427:=Nat
def tw2001112671005870768:=Nat
def tw2016495787260559060:=Nat
def tw10341359234554540214:=Nat
def tw866345783366444070:=Nat
def tw11981838510622493472:=Nat
def tw5423676270271408574:=Nat
def tw497339643680915180:=Nat
def tw7298756917316381141:=Nat
def tw5241868611359308338:=Nat
def tw3554586552813878957:=Nat
def tw17574932881948686999:=Nat
def tw7400741118685454370:=Nat
def tw8554808840421102816:=Nat
def tw14350082632505147738:=Nat
def tw4370891734238355774:=Nat
def tw13618190645127430475:=Nat
def tw3854618688503360470:=Nat
def tw12654429712449637796:=Nat
def tw14114724684186030668:=Nat
def tw14085643260903342699:=Nat
def tw13641535695167904401:=Nat
def tw1781359307363738775:=Nat
def tw11288326049288951412:=Nat
def tw1359321162518361498:=Nat
def tw8749792137140101313:=Nat
def tw2718771376076443169:=Nat
def tw7047621430942528713:=Nat
def tw1366779455437492172:=Nat
def tw2030153646262425975:=Nat
def tw1074953621445957307:=Nat
def tw10627276662060333512:=Nat
def tw182086224410167175:=Nat
def tw7920775557932502761:=Nat
def tw2304185488427916153:=Nat
def tw12617977889585118145:=Nat
def tw5636173956784791992:=Nat
def tw14288314028210916843:=Nat
def tw18292465913035584314:=Nat
def tw14843557654397967436:=Nat
def tw7947424222157230900:=Nat
def tw7044002545034230569:=Nat
def tw11325259581401413809:=Nat
def tw14179643612657304311:=Nat
def tw12415107625550909747:=Nat
def tw1019890918231892542:=Nat
def tw1324201789370773876:=Nat
def tw16993578305418464526:=Nat
def tw16256340818550458872:=Nat
def tw1676897232678288572:=Nat
def tw3016967243254558906:=Nat
def tw16286109059890334106:=Nat
def tw13657859337551484444:=Nat
def tw7035034804558285050:=Nat
def tw6220622833791261211:=Nat
def tw6809529933810559710:=Nat
def tw6010973064978356140:=Nat
def tw5123890497225080649:=Nat
def tw13355258118427665388:=Nat
def tw4685995284934729571:=Nat
def tw13343489412829781650:=Nat
def tw11887179756678411372:=Nat
def tw3911672288474506263:=Nat
def tw2617500886907453149:=Nat
def tw7283532321567205738:=Nat
def tw2787924944301102248:=Nat
def tw4182298715685520220:=Nat
def tw2633608847927542956:=Nat
def tw13384551881868752516:=Nat
def tw14019793051621132452:=Nat
def tw11855699250914461155:=Nat
def tw11770176620259174865:=Nat
def tw9221345937501941848:=Nat
def tw12082185733100162761:=Nat
def tw7374601034664132911:=Nat
def tw45028857735534392:=Nat
def tw15428366715533190106:=Nat
def tw2125170436783973297:=Nat
def tw13371290273243991163:=Nat
def tw125124480779218142:=Nat
def tw8269905987031319964:=Nat
def tw14482928999438060620:=Nat
def tw18144529962556210990:=Nat
def tw12103935204913131957:=Nat
def tw14436193250550642439:=Nat
def tw5701991407374045720:=Nat
def tw866686929157006218:=Nat
def tw11605307323682191105:=Nat
def tw4121881348771158494:=Nat
def tw15744135901523102231:=Nat
def tw2556369123836931353:=Nat
def tw17397070556905722071:=Nat
def tw14774612040703774385:=Nat
def tw14620586464922789477:=Nat
def tw14125541788642509763:=Nat
def tw8628921541969984901:=Nat
def tw2991626782091800543:=Nat
def tw17917295378904505518:=Nat
def tw6563087121164689041:=Nat
def tw5641493512313453463:=Nat
def tw14944387033771065245:=Nat
def tw11491495431653812137:=Nat
def tw16586219885182010421:=Nat
def tw2340968566741175087:=Nat
def tw299440029802567613:=Nat
def tw2845649987511274585:=Nat
def tw11332105979627395052:=Nat
def tw9573328079877567658:=Nat
def tw7991414886805299081:=Nat
def tw16283665098394793447:=Nat
def tw16644181791776967810:=Nat
def tw3302242370894647112:=Nat
def tw6841058027758580125:=Nat
def tw16899110840755455197:=Nat
def tw10118010482456567574:=Nat
def tw15564287621231345379:=Nat
def tw15714159984838543354:=Nat
def tw15528720947685568403:=Nat
def tw3968779272122468664:=Nat
def tw2181384804550362929:=Nat
def tw4186132074865619869:=Nat
def tw9964299876598504915:=Nat
def tw16587253859682073014:=Nat
def tw11594523762245550164:=Nat
def tw15087456625668966875:=Nat
def tw12109859184160110417:=Nat
def tw5483872707113907499:=Nat
def tw10942648507404882924:=Nat
def tw9677250782335386897:=Nat
def tw11069676376032066714:=Nat
def tw12108891962987545171:=Nat
def tw11224967213283473554:=Nat
def tw15575174844120366793:=Nat
def tw17459667933853767892:=Nat
def tw13796691434070434775:=Nat
def tw17849431264456325251:=Nat
def tw14687944796373387427:=Nat
def tw6456378240472717149:=Nat
def tw7012784597086650897:=Nat
def tw2330367936748203212:=Nat
def tw14299450788650873541:=Nat
def tw4982196360523390231:=Nat
def tw3433260163921441792:=Nat
def tw9719456300916214428:=Nat
def tw13528286705829773273:=Nat
def tw14853399490498148571:=Nat
def tw4025614537612650389:=Nat
def tw3146445658791805805:=Nat
def tw9526836097142831424:=Nat
def tw11682678761963318509:=Nat
def tw5560125473586003676:=Nat
def tw8963965372179858247:=Nat
def tw10479156480846630102:=Nat
def tw15507587516965838212:=Nat
def tw7021837856680891728:=Nat
def tw2726315711154547691:=Nat
def tw17563284681041680188:=Nat
def tw13989967827367332628:=Nat
def tw5498196307884221246:=Nat
def tw12985937889613484625:=Nat
def tw5984070392592362312:=Nat
def tw3272091901336423865:=Nat
def tw15303988541492217474:=Nat
def tw12584318057068284060:=Nat
def tw8362576557008474528:=Nat
def tw17378590632862756956:=Nat
def tw11276269530037657122:=Nat
def tw3580220749092628513:=Nat
def tw95574637631288967:=Nat
def tw2865937556679173608:=Nat
def tw18076004011467283641:=Nat
def tw2900980053677042701:=Nat
def tw4911877692823025446:=Nat
def tw11180095376810684850:=Nat
def tw2966251968768048833:=Nat
def tw13872758129560066159:=Nat
def tw9620411129985829752:=Nat
def tw6303381617736029705:=Nat
def tw6143761447263415676:=Nat
def tw15696973245346021052:=Nat
end PySem.W.Fast
open PySem PySem.W PyProof.Rows
set_option maxRecDepth 100000 in
set_option maxHeartbeats 0 in
theorem PySem.Challenge.cw_quizpackets_s01_answers_holds : PySem.Challenge.rw_quizpackets_s01_answers.Holds := by
  w_on; k_headS; (case hw => exact ⟨[.list [.int 6]], by decide +kernel, by decide +kernel⟩)
  k_fillS
  refine L2.NS (r := PySem.Challenge.rw_quizpackets_s01_answers) (k := 18) (CX := L2.JD) (ps := ["calls"]) (sp := Qz.NH) (by decide +kernel) rfl rfl ⟨rfl, by decide, by decide⟩ (fun w h Y => PySem.W.kIn_of Y) ?F ?S (fun _ _ _ _ z => z)
  case F =>
    intro w mg fa h Y KX G hmg
    refine' Qz.V2 KX G hmg ?aG ?aU ?a ?l ?c ?k ?T ?D
    (case aG => k_is); (case aU => k_is); (case a => k_is); (case l => k_is); (case c => k_is); (case k => k_is)
    case T =>
      constructor
      all_goals first
        | (refine' Qz.Yg KX G ?b1; (case b1 => k_is))
        | (refine' PySem.W.mg_none_of KX G ?b1; (case b1 => k_is))
        | (refine' Qz.Yr KX G ?b1 ?b2 ?b3 ?b4 ?b5; (case b1 => k_is); (case b2 => k_is); (case b3 => rfl); (case b4 => rfl); (case b5 => rfl))
        | (show PySem.W.findIn _ _ _ = _; k_is)
        | (refine' ⟨?b1, ?b2, ?b3, ?b4⟩; (case b1 => k_is); (case b2 => k_is); (case b3 => k_is); (case b4 => k_is))
    case D =>
      constructor
      all_goals first
        | (refine' Qz.Yd KX G ?b1 ?b2 ?b3 ?b4; (case b1 => k_is); (case b2 => k_is); (case b3 => k_is); (case b4 => k_is))
        | (refine' Qz.Yk ?b1 ?b2 ?b3 ?b4 ?b5; (case b1 => k_is); (case b2 => k_is); (case b3 => k_is); (case b4 => k_is); (case b5 => k_is))
        | (refine' Qz.Yh KX G ?b1 ?b2 ?b3 ?b4 ?b5 ?b6 ?b7 ?b8; (case b1 => k_is); (case b2 => k_is); (case b3 => k_is); (case b4 => k_is); (case b5 => k_is); (case b6 => k_is); (case b7 => k_is); (case b8 => k_is))
  case S =>
    intro K H xs a hO hwi hask hx
    cases hx with
    | cons h1 h2 =>
      cases h2
      cases h1 with
      | a6 hs ha =>
        have e := L2.Lj a.1 _ ha
        subst e
        have q : ((Codec.inLen 0 17000 a.1 && a.1.all (Codec.inInt (-1000000000000000000) 1000000000000000000)) && true) = true := hwi
        rw [Bool.and_eq_true, Bool.and_eq_true] at q
        exact ⟨_, a.1, rfl, hs, hask, (Codec.inNat_iff.mp q.1.1).2, fun H' p hp => .a6 (L2.cE.of hp) (L2.Lc _)⟩
