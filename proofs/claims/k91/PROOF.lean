import PyProof.Rows.All
import Wide.All
import OpenK.AllK
import Wide.FinOn
import Lean
import PyProof.EqAt
import PyProof.EqKinds
import PyProof.TupleCall
import KE.IntBitsLaws
import PyProof.Rows.CallKwBuiltin
import KE.KRevIter
import KE.KDictSum
import PyProof.Rows.SetFrom
import PyProof.DictStraight
import PyProof.FactsAll.set_1
import PyProof.DictIter
import PyProof.DictWalks
import PyProof.FactsAll.set_2
import PyProof.AttrMissHeap
import KE.KDictOf
import KE.KSortTup
import KE.KItemsList
import PyProof.LongRange
import PyProof.Rows.FStr
import PyProof.Rows.StrNews
import PyProof.StrLawsTight
import PyProof.StrLawsChain
import KE.KIntText
import PyProof.DictUpdate
import KE.KDictList
import PySem.Challenge.RW_shelfmark_k91_whole_hands_meet
set_option Elab.async false
set_option linter.all false
set_option maxRecDepth 100000
set_option maxHeartbeats 4000000
set_option hygiene false
local macro_rules
|`(.(0))=>`(by decide)
|`(.(1))=>`(model X.prog X.w)
|`(.(2))=>`(model prog w)
|`(.(3))=>`(L2.start N vs)
|`(.(4))=>`(by simp)
set_option hygiene true
local macro_rules | `(tactic| rfl') => `(tactic| kernel_rfl)
open Nat (pow_pos one_mul mod_lt mod_eq_of_lt)
open List (mem_filter mem_range filterMap_cons mem_cons_self mem_cons_of_mem mem_cons length_cons map_cons append_nil nodup_cons size_toArray map_nil lookup_cons mem_map drop_zero length_nil all_eq_true getD_eq_getElem?_getD not_mem_nil nil_append replicate_succ cons_append find?_cons getElem?_eq_none replicate_zero set_cons_zero set_cons_succ map_take map_drop)
open Int (toNat_natCast)
open Bool (false_eq_true and_eq_true)
open Option (map_some isSome_map)
def ae:=@PySem.wpAny_bind
def aw:=@List.length_map
def ba:=@PySem.Heap.get?_push_of_some
def bb:=@Nat.le_refl
def bc:=@List.mem_singleton
def bj:=@PySem.wpAny_pure
def bo:=@List.getElem?_eq_some_iff
def bp:=@List.mem_cons_self
def cf:=@PyProof.Rows.Boot.«len»
def cn:=@List.getElem?_map
def cq:=@if_neg
def cx:=@PySem.Heap.get?_push_size
def de:=@List.length_append
def df:=@if_pos
def dk:=@List.getElem?_eq_getElem
def dq:=@PySem.Heap.lt_size
def dr:=@decide_eq_true
def du:=@Ne.symm
def dy:=@List.mem_of_getElem?
def dA:=@List.mem_cons_of_mem
def dC:=@List.mem_append_right
def dE:=@PySem.sizeLine_eq
def eI:=@Option.some.inj
def eJ:=@Nat.le_trans
def eM:=@Option.map_eq_some_iff
def eP:=@List.mem_append
def eQ:=@decide_eq_false
def fb:=@Bool.false_ne_true
def fg:=@List.length_take
def fi:=@List.map_append
def fw:=@List.append_nil
def fI:=@PySem.Heap.get?_update_other
def gL:=@List.mem_cons
def gN:=@Array.length_toList
def hE:=@List.getD_eq_getElem?_getD
def hU:=@List.mem_append_left
def hX:=@List.lt_irrefl
def ij:=@Int.toNat_natCast
def ik:=@PySem.Heap.get?_update_self
def ip:=@Nat.lt_of_lt_of_le
def iq:=@Nat.ne_of_lt
def ix:=@List.size_toArray
def kd:=@Int.eq_ofNat_of_zero_le
def ke:=@List.lt_trans
def kf:=@List.getElem?_append_right
def km:=@List.mem_map
def kz:=@PyProof.Rows.Boot.«sorted»
def kS:=@List.length_cons
def lj:=@List.map_cons
def lr:=@List.getElem?_append_left
def lL:=@List.take_length
def ma:=@List.pairwise_iff_getElem
def md:=@List.take_add_one
def me:=@PySem.wpAny_holding
def mf:=@PySem.Heap.SameBut.update
def mi:=@Nat.zero_le
def mn:=@List.getElem?_eq_none
def mr:=@PySem.Around.under_plainId
def mv:=@List.map_map
def my:=@List.perm_ext_iff_of_nodup
def mB:=@List.pairwise_map
def mI:=@PySem.F.plainAttrs_dict
def mM:=@PySem.F.excBase_ValueError
def oe:=@Nat.min_eq_left
def og:=@List.length_range
def oo:=@PySem.Heap.size_push
def ot:=@List.map_congr_left
def oC:=@Nat.lt_irrefl
def oI:=@List.length_filter_le
def oP:=@beq_eq_false_iff_ne
def pv:=@List.mem_filter
def pE:=@PySem.wpAny_mono
def qr:=@PySem.wpAny_newObj_type
def rh:=@Int.natCast_nonneg
def sg:=@List.length_eq_zero_iff
def sk:=@PySem.plainId_quiet
def so:=@PySem.codeAny_builtin
def sv:=@List.getElem?_of_mem
def sx:=@PySem.F.plain_min_loop
def sT:=@PyProof.Rows.Boot.«list»
def tf:=@PyProof.Rows.Boot.«dict»
def tj:=@Nat.mod_eq_of_lt
def tm:=@PySem.F.called_set
def tq:=@PySem.Obj.data_mapFields
def tz:=@congrArg
def tI:=@PySem.wpAny_call_entry
def tJ:=@PyProof.Rows.callWith_type1
def ui:=@PySem.wpAny_setState_of
def uj:=@List.nodup_append
def uk:=@of_decide_eq_true
def va:=@PySem.wpAny_ite_split
def vk:=@Array.getElem?_toList
def vw:=@Nat.mul_le_mul_right
def vx:=@List.cons_lt_cons_iff
def vy:=@List.filter_cons_of_pos
def vT:=@Nat.lt_succ_self
def wa:=@List.filter_append
def wb:=@PySem.W.mg_none_of
def wq:=@List.drop_eq_getElem_cons
def wt:=@List.cons_append
def wx:=@Nat.eq_or_lt_of_le
def xa:=@List.drop_append_of_le_length
def xb:=@List.take_append_of_le_length
def xc:=@Nat.le_succ
def xf:=@PyProof.Rows.Boot.«min»
def xi:=@decide_eq_true_eq
def xk:=@PySem.wpAny_updateSeq
def xn:=@List.mem_iff_getElem
def xp:=@PySem.F.plainAttrs_str
def xt:=@List.not_lt
def xv:=@List.not_mem_nil
def xI:=@List.mem_range
def yn:=@List.take_append_drop
def yA:=@PySem.wpAny_Call_Name_kw
def yB:=@List.filter_cons_of_neg
def y0:=@PySem.F.slot_dict_pop
def y6:=@PySem.builtinLookup_eq_fast
def y7:=@PySem.F.plain_extend_loop
def y8:=@Array.getElem?_eq_getElem
def zi:=@PySem.wpAny_passesOwn
def zr:=@List.filter_eq_nil_iff
def Ap:=@PySem.wpAny_comprehension_free
def Bi:=@List.nil_append
def Bn:=@PySem.F.slot_list_append
def Bz:=@PySem.F.type_list_append
def BM:=@PySem.mem_of_lookup
def Dx:=@Nat.mul_le_mul_left
def D2:=@PySem.wpAny_setEntries_of
def Ee:=@List.getElem?_range
def Fh:=@List.length_pos_iff
def Fk:=@PySem.wpAny_askSetting
def Fm:=@PySem.wpAny_callSpecial?_slot
def Fn:=@List.mem_map_of_mem
def Fs:=@PySem.F.plainAttrs_list
def Fu:=@Int.natCast_mul
def FC:=@PySem.wpAny_rule
def FK:=@PySem.tupleKind_room_in1
def FR:=@Int.emod_lt_of_pos
def FV:=@List.take_of_length_le
def FX:=@Nat.mul_comm
def Gc:=@List.mem_filterMap
def Hk:=@List.pairwise_cons
def Hm:=@Nat.lt_succ_of_lt
def HI:=@Nat.lt_trichotomy
def Iy:=@PySem.Obj.isFreed_of_fields
def IH:=@List.filterMap_append
def Jn:=@PySem.wpAny_truthy_bool
def Kb:=@PySem.wpAny_pyIter_list
def Ki:=@Nat.le_of_lt_succ
def Kj:=@PySem.W.mg_of
def Kk:=@PySem.Heap.get?_none_of_le
def L9:=@List.filter_cons
def Mo:=@Nat.add_zero
def Nw:=@PySem.wpAny_setField
def NA:=@PySem.wpAny_tryCatch
def Oy:=@Nat.min_le_left
def OK:=@List.mem_of_mem_drop
def Pl:=@PySem.codeAny_mono
def Pm:=@List.getElem?_toArray
def Pt:=@List.append_assoc
def PH:=@Int.natCast_emod
def PQ:=@Nat.le_max_right
def P2:=@List.mem_of_find?_eq_some
def Qb:=@List.length_reverse
def Qr:=@List.getElem_of_mem
def QP:=@List.filter_eq_self
def QQ:=@Nat.lt_or_ge
def QR:=@PySem.F.slot_list_getattribute
def RF:=@PySem.F.slot_dict_update
def Sr:=@List.filterMap_cons_none
def SF:=@Nat.sub_self
def SU:=@Bool.eq_iff_iff
def Ta:=@PySem.typeLookup_type
def Tb:=@PySem.Calls.spliced_cons
def TB:=@List.length_drop
def TC:=@List.nodup_nil
def TK:=@PyProof.Rows.F.plain_set_update_loop
def T1:=@PySem.F.slot_dict_items
def U2:=@Int.natCast_add
def VJ:=@PyProof.Rows.Boot.«set»
def VL:=@List.filterMap_cons
def VM:=@Nat.ne_of_gt
def VN:=@PySem.Calls.callWith_builtin
def VO:=@List.reverse_cons
def VP:=@List.Pairwise.imp
def VQ:=@PySem.call_meetsIn
def VR:=@PySem.wpAny_seqItems
def VS:=@PySem.fits_of_scanBound
def VT:=@List.Perm.refl
def VU:=@Array.getElem?_eq_none
def VV:=@List.ext_getElem?
def VW:=@PySem.F.entry_min_loop
def VX:=@List.drop_of_length_le
def VY:=@PySem.F.slot_str_index
def VZ:=@PySem.F.type_str_index
def V0:=@List.takeWhile_append_dropWhile
def V1:=@PySem.F.slot_dict_get
def V2:=@PySem.F.type_dict_pop
def V3:=@Nat.div_eq_of_lt
def V4:=@PySem.wpAny_isInstance
def V5:=@Int.natCast_ediv
def V6:=@PySem.wpAny_standAt
def V7:=@Nat.add_mul
def V8:=@PySem.Calls.evalArgs_plain
def V9:=@PySem.lookup_relabel_local
def Wa:=@List.reverse_reverse
def Wb:=@List.getElem_mem
def Wc:=@Nat.pow_succ
def Wd:=@Nat.le_max_left
def We:=@List.mem_of_mem_take
def Wf:=@PySem.wpAny_execs_nil
def Wg:=@Nat.mul_add_mod
def Wh:=@PySem.wpAny_specialOf
def Wi:=@Array.Perm.refl
def Wj:=@PySem.Value.isStrOf_shape
def Wk:=@Int.toNat_of_nonneg
def Wm:=@Nat.pow_le_pow_left
def Wn:=@PySem.wpAny_typeOf
def Wo:=@Array.getD_eq_getD_getElem?
def Wp:=@List.take_take
def Wq:=@Int.fdiv_eq_ediv_of_nonneg
def Ws:=@List.nodup_cons
def Wt:=@PySem.isSubtype_type
def Wu:=@PySem.wpAny_fieldsOf
def Wv:=@List.range_succ
def Ww:=@Classical.byContradiction
def Wx:=@List.mem_take_iff_getElem
def Wy:=@PySem.wpAny_assign_Name
def Wz:=@PySem.Calls.spliced_nil
def WA:=@PySem.Heap.SameBut.refl
def WB:=@List.cons_ne_nil
def WD:=@Nat.div_add_mod
def WE:=@PySem.wpAny_letGo
def WG:=@PySem.Obj.cls_mapFields
def WH:=@List.le_antisymm
def WI:=@PyProof.Rows.mirror_size
def WJ:=@List.getElem_map
def WK:=@Int.emod_nonneg
def WL:=@List.drop_length
def WM:=@List.getElem?_inj
def WN:=@Option.isSome_iff_exists
def WO:=@List.idxOf_lt_length_iff
def WR:=@Nat.mod_lt
def WS:=@PySem.wpAny_newList
def WT:=@PySem.wpAny_attempt
def WU:=@List.Pairwise.imp_of_mem
def WV:=@List.set_cons_zero
def WW:=@List.set_cons_succ
def WX:=@List.length_filterMap_le
def WY:=@PySem.F.type_dict_update
def W0:=@PySem.F.args_dict_pop_3
def Xa:=@PySem.F.args_dict_get_3
def Xb:=@PySem.F.plain_list_iadd
def Xd:=@List.mem_reverse
def Xe:=@Nat.min_le_right
def Xf:=@PySem.F.type_dict_items
def Xg:=@PyProof.Rows.Boot.«max»
def Xh:=@List.getElem?_set_self
def Xi:=@PySem.wpAny_load
def Xj:=@beq_iff_eq
def Xk:=@List.map_id
def Xl:=@Nat.add_comm
def Xm:=@List.pairwise_lt_range
def Xn:=@Nat.div_div_eq_div_mul
def Xo:=@PySem.F.entry_dict_pop
def Xp:=@PySem.F.entry_dict_get
def Xq:=@Nat.lt_of_succ_lt_succ
def Xr:=@List.of_mem_zip
def Xs:=@List.foldl_cons
def Xt:=@Nat.mul_add_div
def Xu:=@Nat.not_lt_zero
def Xv:=@List.find?_some
def Xw:=@PySem.wpAny_of_eq
def Xx:=@List.take_succ
def Xy:=@Prod.ext
def Xz:=@List.drop_subset
def XA:=@List.map_nil
def XB:=@List.drop_zero
def XC:=@List.any_cons
def XD:=@Nat.le_of_lt
def XE:=@Nat.le_of_eq
def XF:=@Int.zero_add
def XG:=@Nat.pow_zero
def XH:=@Nat.zero_add
def XI:=@Nat.lt_trans
def XJ:=@Eq.trans
abbrev γ:=PySem.Expr
abbrev δ:=PySem.Stmt
abbrev ε:=PySem.Heap
abbrev ζ:=PySem.Value
abbrev η:=PySem.Shared
abbrev θ:=PySem.Addr
abbrev ι:=PySem.Program
abbrev ν:=PySem.World
abbrev ξ:=PySem.Around
abbrev ο.{u}(α:Type u):=Option α
local macro_rules | `(⋯)=>`(by lia)
local macro_rules | `(tactic| and_intros)=>`(tactic| simp only[set_cons_zero,set_cons_succ,replicate_succ,replicate_zero,map_cons,map_nil,cons_append,nil_append])
abbrev VE:=List Nat
abbrev VF:=List VE
abbrev VG:=List (VE×VE)
abbrev VH:=ο VE
abbrev VI.{u}(α:Type u):=List α
namespace L2
open PySem PySem.Spec PyProof.Rows
inductive Key where
 |inl (i:Int)|inr (x:Str)|non
deriving DecidableEq
def Q9:ζ->Bool
 |.none=>true
 |_=>false
def rU:Key->ζ->Bool
 |.inl k,v=>Value.isInt k v
 |.inr x,v=>Value.isStrOf x v
 |.non,v=>Q9 v
def Uh(w:ν):Key->Int
 |.inl k=>hashInt k
 |.inr x=>hashStr w x
 |.non=>(reduceHash 4238894112)
theorem dj:∀{k:Key} {v:ζ},rU k v=true->(∃i t,k=Key.inl i/\v=Value.int i t)\/(∃x t,k=Key.inr x/\v=Value.str x t)\/(k=Key.non/\v=Value.none)
 |.inl i,v,h=>by
  obtain⟨t,e⟩:=Value.isInt_shape (k:=i) (v:=v) h;exact .inl ⟨i,t,rfl,e⟩
 |.inr x,v,h=>by
  obtain⟨t,e⟩:=Wj (x:=x) (v:=v) h;exact .inr (.inl ⟨x,t,rfl,e⟩)
 |.non,v,h=>by
  cases v<;>first|exact .inr (.inr ⟨rfl,rfl⟩)|exact nomatch (show false=true from h)
theorem Gx(i:Int)(t:Tok):rU (.inl i) (.int i t)=true:=by simp[rU,Value.isInt]
theorem Gy(x:Str)(t:Tok):rU (.inr x) (.str x t)=true:=by simp[rU,Value.isStrOf]
theorem OJ(a b:Int):decide (Key.inl a=Key.inl b)=(a==b):=by
 by_cases e:a=b
 .subst e;simp
 .rw[eQ (λq=>e (Key.inl.inj q))];exact(oP.mpr e).symm
theorem OL(a b:Str):decide (Key.inr a=Key.inr b)=decide (a=b):=by
 by_cases e:a=b
 .subst e;simp
 .rw[eQ (λq=>e (Key.inr.inj q)),eQ e]
theorem Iw{prog:ι}{w:ν}{A:ξ}{E:ζ->η->Prop}{s:η}{Q:Int->η->Prop}(h:Q (reduceHash 4238894112) {s with toks:=s.toks+1}):wpAny .(2) A (pyHash .none) Q E s:=
 W.pyHash_slot (T:="NoneType") rfl F.slot_NoneType_hash F.entry_NoneType_hash (F.args_NoneType_hash_1 _) (beq_builtin_none _) (.inl rfl) (ae (bj (ae (wpAny_mkInt (bj ⟨_,_,rfl,h⟩)))))
theorem OM{prog:ι}{w:ν}{A:ξ}{E:ζ->η->Prop}{s:η}{Q:Bool->η->Prop}(h:Q true s):wpAny .(2) A (eqBool .none .none) Q E s:=by
 unfold eqBool;refine me ?_;rw[df .(0)];exact ae (FC (bj h))
def bN(prog:ι)(w:ν):PySem.KeyKind prog w Key where
 is:=rU
 hash:=Uh w
 inj:=λv a b ha hb=>by
  rcases dj ha with⟨i,t,rfl,rfl⟩|⟨x,t,rfl,rfl⟩|⟨rfl,rfl⟩<;>rcases dj hb with⟨j,u,rfl,e⟩|⟨y,u,rfl,e⟩|⟨rfl,e⟩<;>
   first|(cases e;rfl)|cases e
 byValue:=λk v h=>by
  rcases dj h with⟨i,t,rfl,rfl⟩|⟨x,t,rfl,rfl⟩|⟨rfl,rfl⟩<;>rfl
 pyHash:=λhv h=>by
  rcases dj hv with⟨i,t,rfl,rfl⟩|⟨x,t,rfl,rfl⟩|⟨rfl,rfl⟩
  .exact wpAny_pyHash_int h
  .exact wpAny_pyHash_str h
  .exact Iw h
 eqBool:=λhu hv h=>by
  rcases dj hu with⟨i,t,rfl,rfl⟩|⟨x,t,rfl,rfl⟩|⟨rfl,rfl⟩<;>rcases dj hv with⟨j,u,rfl,rfl⟩|⟨y,u,rfl,rfl⟩|⟨rfl,rfl⟩
  .rw[OJ] at h;exact wpAny_eqBool_int h
  .exact SeqAt.EqAt.int_str i t y u _ _ _ _ h
  .exact SeqAt.EqAt.int_none i t _ _ _ _ h
  .exact SeqAt.EqAt.str_int x t j u _ _ _ _ h
  .rw[OL] at h;exact wpAny_eqBool_str h
  .exact SeqAt.EqAt.str_none x t _ _ _ _ h
  .exact SeqAt.EqAt.none_int j u _ _ _ _ h
  .exact SeqAt.EqAt.none_str y u _ _ _ _ h
  .exact OM h
 «strs»:=λk x t v h=>by
  rcases dj h with⟨i,u,rfl,e⟩|⟨y,u,rfl,e⟩|⟨rfl,e⟩
  .exact nomatch e
  .injection e with e1 _
   subst e1;cases v<;>rfl
  .exact nomatch e
theorem As(prog:ι)(w:ν)(i:Int)(t:Tok):(bN prog w).is (.inl i) (.int i t)=true:=Gx i t
theorem Au(prog:ι)(w:ν)(x:Str)(t:Tok):(bN prog w).is (.inr x) (.str x t)=true:=Gy x t
inductive V where
 |non|bl (b:Bool)|int (i:Int)|str (x:Str)|byt (b:Array UInt8)|flt (b:UInt64)|ref (a:θ)|ty (n:String)
 deriving DecidableEq
def RelV:V->ζ->Prop
 |.non,u=>u=Value.none
 |.bl b,u=>u=Value.bool b
 |.int i,u=>∃t,u=Value.int i t
 |.str x,u=>∃t,u=Value.str x t
 |.byt b,u=>∃t,u=Value.bytes b t
 |.flt b,u=>∃t,u=Value.float b t
 |.ref a,u=>u=Value.ref a
 |.ty n,u=>u=Value.type n
abbrev Vals:VI V->VI ζ->Prop:=Paired RelV
theorem Vals.length{xs:VI V}{us:VI ζ}(r:Vals xs us):xs.length=us.length:=Paired.length r
theorem Vals.get:∀{xs:VI V} {us:VI ζ} {i:Nat} {x:V},Vals xs us->xs[i]?=some x->∃u,us[i]?=some u/\RelV x u
 |_,_,_,_,.nil,e=>by simp at e
 |_,_,0,_,.cons r _,e=>by simp at e;subst e;exact⟨_,rfl,r⟩
 |_,_,i+1,x,.cons _ t,e=>by
  obtain⟨u,h1,h2⟩:=Vals.get (i:=i) (x:=x) t (by simpa using e);exact⟨u,by simpa using h1,h2⟩
theorem Vals.set{x:V}{u:ζ}(r:RelV x u):∀{xs:VI V} {us:VI ζ} (i:Nat),Vals xs us->Vals (xs.set i x) (us.set i u)
 |_,_,_,.nil=>.nil
 |_,_,0,.cons _ t=>.cons r t
 |_,_,i+1,.cons q t=>.cons q (Vals.set r i t)
theorem Vals.append:∀{xs ys:VI V} {us ws:VI ζ},Vals xs us->Vals ys ws->Vals (xs++ys) (us++ws)
 |_,_,_,_,.nil,s=>s
 |_,_,_,_,.cons r t,s=>.cons r (Vals.append t s)
theorem Vals.take:∀{xs:VI V} {us:VI ζ} (n:Nat),Vals xs us->Vals (xs.take n) (us.take n)
 |_,_,0,_=>.nil
 |_,_,_+1,.nil=>.nil
 |_,_,n+1,.cons r t=>.cons r (Vals.take n t)
theorem Vals.drop:∀{xs:VI V} {us:VI ζ} (n:Nat),Vals xs us->Vals (xs.drop n) (us.drop n)
 |_,_,0,r=>r
 |_,_,_+1,.nil=>.nil
 |_,_,n+1,.cons _ t=>Vals.drop n t
def jH:ο V->ο ζ->Prop
 |some v,some u=>RelV v u
 |none,none=>True
 |_,_=>False
def KV{κ:Type}:VI (κ×V)->VI (κ×ζ)->Prop:=Paired λ(p:κ×V) (q:κ×ζ)=>p.1=q.1/\RelV p.2 q.2
def kV:Key->V
 |.inl i=>.int i
 |.inr x=>.str x
 |.non=>.non
inductive HO where
 |lst (xs:VI V)
 |tup (xs:VI V)
 |dK (kvs:VI (Key×V))|dT (kvs:VI (VI Key×V))
 |set (S:Int->Bool) (n:Nat)
 |ins (C dx:θ) (fs:VI (Str×V))
 |own (x:θ)
 |xd (fs:VI (Str×V))
 |met (f x:θ)
 |rng (lo hi:Int)
 |frz (o:Obj) (u:HO)
 |tbl (ps:Array ζ)
 |ext (φ:ε->Prop)
abbrev Hp:=θ->ο HO
def upd(H:Hp)(a:θ)(o:HO):Hp:=λb=>if b=a then some o else H b
theorem aq{H:Hp}{a:θ}{o:HO}:upd H a o a=some o:=by unfold upd;rw[df rfl]
theorem aH{H:Hp}{a b:θ}{o:HO}(h:b≠a):upd H a o b=H b:=by unfold upd;rw[cq h]
theorem Ra{H:Hp}{a b:θ}{o u:HO}(h:H a=some o)(h':H b=some u)(d:o≠u):a≠b:=by
 intro e;subst e;rw[h] at h';exact d (eI h')
theorem gh{H:Hp}{a b:θ}{o:HO}(h:H a=some o)(h':H b=none):a≠b:=by
 intro e;subst e;rw[h] at h';cases h'
section
variable(P:ι)(w:ν)
def cY(H:Hp)(h:ε)(a:θ):HO->Prop
 |.lst xs=>xs.length<=sizeLine/\∃(XM:VI ζ) (n:Nat),Vals xs XM/\h.get? a=some {cls:=.type "list",data:=.seq XM.toArray n}
 |.tup xs=>xs.length<=sizeLine/\∃XM:VI ζ,Vals xs XM/\IsTup h a XM.toArray
 |.dK kvs=>kvs.length<=sizeLine/\(a==sysModules)=false/\∃vs,KV kvs vs/\h.DictOf (bN P w) a vs
 |.dT kvs=>kvs.length<=sizeLine/\(a==sysModules)=false/\∃xs:VI (VI Key×θ×ζ),
   Paired (λ(p:VI Key×V) (q:VI Key×θ×ζ)=>p.1=q.1/\H q.2.1=some (.tup (p.1.map kV))/\RelV p.2 q.2.2) kvs xs/\
   ∃o es ep,h.get? a=some o/\o.ExactDict/\o.data=.dict es ep/\es.toList=xs.map (entryOfKey (tupleKind (bN P w)))/\(xs.map (·.1)).Nodup
 |.set S n=>h.SetOf (intKind P w) a S n
 |.ins C dx fs=>H dx=some (.own a)/\fs.length<=1000/\dx≠a/\h.get? a=some (W.instObj C dx)/\
   ∃mA,h.Ns1 dx mA/\(∀f,jH (fs.lookup f) (mA f))/\PySem.Within mA (fs.map (·.1))
 |.own _=>∃o,h.get? a=some o
 |.xd fs=>∃mA,h.Ns1 a mA/\∀f,jH (fs.lookup f) (mA f)
 |.rng lo hi=>∃t u v,h.get? a=some {cls:=.type "range",data:=.fields #[.int lo t,.int hi u,.int 1 v] }
 |.frz o u=>h.get? a=some o/\cY H h a u
 |.tbl ps=>h.get? a=some {cls:=.none,data:=.fields ps}
 |.met f x=>h.get? a=some (W.methodObj (.ref f) (.ref x))
 |.ext φ=>φ h/\(∃o,h.get? a=some o)/\∀h1 h2:ε,φ h1->(∀o,h1.get? a=some o->h2.get? a=some o)->φ h2
def mh(H:Hp)(h:ε):Prop:=∀a o,H a=some o->cY P w H h a o
end
section
variable{P:ι}{w:ν}{H H':Hp}{h h':ε}{a:θ}{o:HO}
theorem cY.lt(x:cY P w H h a o):a<h.objs.size:=by
 cases o with
 |lst xs=>obtain⟨_,_,_,_,e⟩:=x;exact dq e
 |tup xs=>obtain⟨_,_,_,p⟩:=x;exact p.lt
 |dK kvs=>obtain⟨_,_,_,_,o,_,_,e,_⟩:=x;exact dq e
 |dT kvs=>obtain⟨_,_,_,_,o,_,_,e,_⟩:=x;exact dq e
 |set S n=>obtain⟨o,_,_,_,e,_⟩:=x;exact dq e
 |ins C dx fs=>obtain⟨_,_,_,e,_⟩:=x;exact dq e
 |own y=>obtain⟨_,e⟩:=x;exact dq e
 |xd fs=>obtain⟨_,⟨_,_,_,e,_⟩,_⟩:=x;exact dq e
 |rng lo hi=>obtain⟨_,_,_,e⟩:=x;exact dq e
 |frz ob u=>obtain⟨e,_⟩:=x;exact dq e
 |tbl ps=>exact dq (show h.get? a=some _ from x)
 |met f y=>exact dq (show h.get? a=some _ from x)
 |ext φ=>obtain⟨_,⟨_,e⟩,_⟩:=x;exact dq e
theorem Paired.ON{α β:Type}{F G:α->β->Prop}:∀{l₁:VI α} {l₂:VI β},Paired F l₁ l₂->(∀a b,F a b->G a b)->Paired G l₁ l₂
 |_,_,.nil,_=>.nil
 |_,_,.cons r t,f=>.cons (f _ _ r) (Paired.ON t f)
theorem cY.stay(x:cY P w H h a o)(k:∀b u,(b=a\/H b=some (.own a))->h.get? b=some u->h'.get? b=some u)
  (ho:∀b,H b=some (.own a)->H' b=some (.own a)) (ht:∀b xs,H b=some (.tup xs)->H' b=some (.tup xs)):cY P w H' h' a o:=by
 induction o with
 |lst xs=>obtain⟨z,XM,n,r,e⟩:=x;exact⟨z,XM,n,r,k _ _ (.inl rfl) e⟩
 |tup xs=>obtain⟨z,XM,r,ob,e,c⟩:=x;exact⟨z,XM,r,ob,k _ _ (.inl rfl) e,c⟩
 |dK kvs=>obtain⟨z,y,vs,r,ob,es,ep,e,c⟩:=x;exact⟨z,y,vs,r,ob,es,ep,k _ _ (.inl rfl) e,c⟩
 |dT kvs=>
  obtain⟨z,y,xs,r,ob,es,ep,e,c⟩:=x;exact⟨z,y,xs,Paired.ON r λp q z=>⟨z.1,ht _ _ z.2.1,z.2.2⟩,ob,es,ep,k _ _ (.inl rfl) e,c⟩
 |set S n=>obtain⟨ob,es,ep,t,e,c⟩:=x;exact⟨ob,es,ep,t,k _ _ (.inl rfl) e,c⟩
 |ins C dx fs=>
  obtain⟨d,z,ne,e,mA,⟨od,es,ep,e2,c⟩,r⟩:=x;exact⟨ho _ d,z,ne,k _ _ (.inl rfl) e,mA,⟨od,es,ep,k _ _ (.inr d) e2,c⟩,r⟩
 |own y=>obtain⟨ob,e⟩:=x;exact⟨ob,k _ _ (.inl rfl) e⟩
 |xd fs=>obtain⟨mA,⟨od,es,ep,e,c⟩,r⟩:=x;exact⟨mA,⟨od,es,ep,k _ _ (.inl rfl) e,c⟩,r⟩
 |rng lo hi=>obtain⟨t,u,v,e⟩:=x;exact⟨t,u,v,k _ _ (.inl rfl) e⟩
 |frz ob u ih=>obtain⟨e,q⟩:=x;exact⟨k _ _ (.inl rfl) e,ih q⟩
 |tbl ps=>
  have e:h.get? a=some {cls:=.none,data:=.fields ps}:=x;show h'.get? a=some {cls:=.none,data:=.fields ps};exact k a _ (.inl rfl) e
 |met f y=>
  have e:h.get? a=some (W.methodObj (.ref f) (.ref y)):=x;show h'.get? a=some (W.methodObj (.ref f) (.ref y));exact k a _ (.inl rfl) e
 |ext φ=>obtain⟨p,⟨o,e⟩,st⟩:=x;exact⟨st _ _ p λo q=>k _ _ (.inl rfl) q,⟨o,k _ _ (.inl rfl) e⟩,st⟩
theorem mh.lt(x:mh P w H h)(e:H a=some o):a<h.objs.size:=(x a o e).lt
theorem mh.fresh(x:mh P w H h)(e:h.objs.size<=a):H a=none:=by
 cases q:H a with
 |none=>rfl
 |some u=>exact absurd (ip (x.lt q) e) (oC _)
theorem mh.kept(x:mh P w H h)(k:∀b u,h.get? b=some u->h'.get? b=some u):mh P w H h':=λa o e=>
 (x a o e).stay (λb u _ q=>k b u q) (λ_ q=>q) λ_ _ q=>q
theorem mh.laid(x:mh P w H h)(k:∀b u,h.get? b=some u->h'.get? b=some u)(hp:h.objs.size<=a)(new:cY P w (upd H a o) h' a o):mh P w (upd H a o) h':=λb u e=>by
 have hn:=x.fresh hp
 by_cases hb:b=a
 .subst hb;rw[aq] at e;cases e;exact new
 .rw[aH hb] at e;exact(x b u e).stay (λc v _ q=>k c v q) (λc q=>by rw[aH (gh q hn)];exact q) λc xs q=>by rw[aH (gh q hn)];exact q
end
def Rd(H:Hp)(a:θ)(u:HO):Prop:=H a=some u\/∃o,H a=some (.frz o u)
theorem Rd.ok{P:ι}{w:ν}{H:Hp}{h:ε}{a:θ}{u:HO}(r:Rd H a u)(x:mh P w H h):cY P w H h a u:=by
 rcases r with r|⟨o,r⟩
 .exact x a u r
 .obtain⟨_,q⟩:=x a _ r;exact q
def Rb:ο HO->Prop
 |some (.lst _)=>True
 |some (.dK _)=>True
 |some (.dT _)=>True
 |some (.set _ _)=>True
 |some (.ins _ _ _)=>True
 |some (.ext _)=>True
 |_=>False
section
variable{P:ι}{w:ν}{H:Hp}{h h':ε}{x e:θ}{o':HO}
theorem mh.write(ok:mh P w H h)(mu:Rb (H x))(he:e=x\/H e=some (.own x))(k:∀b u,b≠e->h.get? b=some u->h'.get? b=some u)(heo:∃u,h'.get? e=some u)
  (new:cY P w (upd H x o') h' x o'):mh P w (upd H x o') h':=λb u q=>by
 have Rc:∀c y,H c=some (.own y)->c≠x:=λc y r z=>by subst z;rw[r] at mu;exact mu
 have Ui:∀c xs,H c=some (.tup xs)->c≠x:=λc xs r z=>by subst z;rw[r] at mu;exact mu
 by_cases hb:b=x
 .subst hb;rw[aq] at q;cases q;exact new
 .rw[aH hb] at q
  by_cases hbe:b=e
  .have q':H b=some (.own x):=by
    rcases he with z|z
    .exact absurd (hbe.trans z) hb
    .rw[hbe];exact z
   rw[q] at q';cases q';obtain⟨v,hv⟩:=heo;exact⟨v,by rw[hbe];exact hv⟩
  .refine(ok b u q).stay (λc v hc r=>k c v ?_ r) (λc r=>by rw[aH (Rc c b r)];exact r) λc xs r=>by rw[aH (Ui c xs r)];exact r
   rcases hc with rfl|hc
   .exact hbe
   .rintro rfl
    rcases he with z|z
    .exact Rc c b hc z
    .rw[hc] at z;cases z;exact hb rfl
end
structure Un(fs ex:VI θ)(H H':Hp)(h h':ε):Prop where
 keep:∀b o,h.get? b=some o->H b=none->b∉fs->b∉ex->h'.get? b=some o
 slot:∀b o,h.get? b=some o->H b=none->b∈fs->b∉ex->∃sl,h'.get? b=some {o with slots:=sl}
 free:∀b o,h.get? b=some o->H b=none->b∉ex->H' b=none
 there:∀b o,h.get? b=some o->b∉ex->∃o',h'.get? b=some o'
 tups:∀b xs,H b=some (.tup xs)->H' b=some (.tup xs)
 frzs:∀b o u,H b=some (.frz o u)->H' b=some (.frz o u)
 tbls:∀b ps,H b=some (.tbl ps)->∃more,H' b=some (.tbl (ps++more))
section
variable{fs fs' ex ex':VI θ}{H H1 H2:Hp}{h h1 h2 h':ε}{a x e:θ}{o:HO}
theorem Un.any(u:Un fs ex H H1 h h1){b:θ}{ob:Obj}(q:h.get? b=some ob)(n:H b=none)(hx:b∉ex):∃sl,h1.get? b=some {ob with slots:=sl}:=by
 by_cases hb:b∈fs
 .exact u.slot b ob q n hb hx
 .exact⟨ob.slots,u.keep b ob q n hb hx⟩
theorem Un.kept(k:∀b u,h.get? b=some u->h'.get? b=some u):Un fs ex H H h h':=
 ⟨λb ob q _ _ _=>k b ob q,λb ob q _ _ _=>⟨ob.slots,k b ob q⟩,λ_ _ _ n _=>n,λb ob q _=>⟨ob,k b ob q⟩,λ_ _ q=>q,λ_ _ _ q=>q,λ_ ps q=>⟨#[],by rw[q];simp⟩⟩
theorem Un.refl:Un fs ex H H h h:=Un.kept λ_ _ q=>q
theorem Un.laid(k:∀b u,h.get? b=some u->h'.get? b=some u)(hp:h.objs.size<=a)(hn:H a=none):Un fs ex H (upd H a o) h h' where
 keep:=λb u q _ _ _=>k b u q
 slot:=λb u q _ _ _=>⟨u.slots,k b u q⟩
 free:=λb u q n _=>by rw[aH (iq (ip (dq q) hp))];exact n
 there:=λb u q _=>⟨u,k b u q⟩
 tups:=λb xs q=>by rw[aH (gh q hn)];exact q
 frzs:=λb u xs q=>by rw[aH (gh q hn)];exact q
 tbls:=λb ps q=>⟨#[],by rw[aH (gh q hn),q];simp⟩
theorem Un.write(mu:Rb (H x))(he:e=x\/H e=some (.own x))(k:∀b u,b≠e->h.get? b=some u->h'.get? b=some u)(heo:∃u,h'.get? e=some u):Un fs ex H (upd H x o) h h':=by
 have hx:∀b,H b=none->b≠x:=λb n z=>by subst z;rw[n] at mu;exact mu
 have hb:∀b,H b=none->b≠e:=λb n z=>by
  subst z
  rcases he with r|r
  .exact hx b n r
  .rw[n] at r;cases r
 have hm:∀b u,H b=some u->¬Rb (some u)->b≠x:=λb u q nm z=>by subst z;rw[q] at mu;exact nm mu
 refine⟨λb u q n _ _=>k b u (hb b n) q,λb u q n _ _=>⟨u.slots,k b u (hb b n) q⟩,λb u q n _=>by rw[aH (hx b n)];exact n,λb u q _=>?_,
  λb xs q=>by rw[aH (hm b _ q λz=>z)];exact q,λb u xs q=>by rw[aH (hm b _ q λz=>z)];exact q,λb ps q=>⟨#[],by rw[aH (hm b _ q λz=>z),q];simp⟩⟩
 by_cases hbe:b=e
 .subst hbe;exact heo
 .exact⟨u,k b u hbe q⟩
end
def Ua(h:ε)(H:Hp):VI θ:=(List.range h.objs.size).filter λa=>(H a).isSome
def yg(h:ε)(H:Hp):ε:=W.hideAll h (Ua h H)
theorem Gz(h:ε)(H:Hp):(yg h H).objs.size=h.objs.size:=W.hideAll_size _ _
theorem Iz{h:ε}{H:Hp}{b:θ}{o:Obj}(e:h.get? b=some o)(n:H b=none):(yg h H).get? b=some o:=
 W.hideAll_get _ e λhm=>by
  have q:(H b).isSome=true:=(pv.mp hm).2;rw[n] at q;simp at q
theorem Mb{h:ε}{H:Hp}{b:θ}{o:Obj}(e:(yg h H).get? b=some o):h.get? b=some o/\H b=none:=by
 have e':h.get? b=some o:=W.of_hideAll (Ua h H) e;refine⟨e',?_⟩;cases q:H b with
 |none=>rfl
 |some x=>
  have hm:b∈Ua h H:=pv.mpr ⟨xI.mpr (dq e'),by simp[q]⟩;have z:(yg h H).get? b=none:=W.hideAll_none (Ua h H) hm;rw[z] at e;cases e
structure Mod(K:W.Frag)(mg:Str->ο ζ)(base:ε):Prop where
 kin:K.In base
 glob:base.Ns mainGlobals mg
 blt:∃mb,base.Ns builtinsNs mb/\∀x:Str,x ≠ "__name__"->mb x=bootBuiltins x
 nolimit:base.NoLimit
structure Cx where
 prog:ι
 w:ν
 K:W.Frag
 mg:Str->ο ζ
 base:ε
 A:ξ
 N:VI Str
 s₀:η
 H₀:Hp
 env:Env
 outer:VI Env
 stack:VI Env
 ex:VI θ
 fn:Str->Bool
 calm:Bool
 pn:VI (θ×Obj)
 xe:ζ->η->Prop
def frs(l:VI Env):VI θ:=l.filterMap (·.frame)
abbrev Cx.fs(X:Cx):VI θ:=frs X.outer
def Ub(sc:Scope)(x:Str):Prop:=sc.names.lookup x=some .local\/sc.names.lookup x=some .cell\/sc.names.lookup x=some .free
def Loc(sc:Scope)(x:Str):Prop:=sc.names.lookup x=some .local\/sc.names.lookup x=some .cell
def Look(env:Env)(h:ε)(m:Str->ο ζ)(x:Str)(u:ζ):Prop:=
 (env.kindOf x=some .local/\m x=some u)\/((env.kindOf x=some .cell\/env.kindOf x=some .free)/\∃c,env.cells.lookup x=some c/\h.IsCell c (some u))
structure Cx.Ok(X:Cx):Prop where
 mod:Mod X.K X.mg X.base
 kind:X.env.scope.kind=.function
 glob:X.env.globals=mainGlobals
 blt:X.env.builtins=builtinsNs
 above:X.s₀.heap.objs.size<=X.env.locals
 inj:∀x y c,X.env.cells.lookup x=some c->X.env.cells.lookup y=some c->x=y
 has:∀x,(X.env.kindOf x=some .cell\/X.env.kindOf x=some .free)->∃c,X.env.cells.lookup x=some c
 cab:∀x c,X.fn x=true->X.env.cells.lookup x=some c->X.s₀.heap.objs.size<=c
 hd:X.calm=true->X.A.handled=none
 frames:X.A.frames=some X.stack
 stk:X.stack=X.outer\/(X.stack=X.env::X.outer/\X.env.frame=some X.env.locals)
 exf:∀b∈X.ex,b≠X.env.locals/\∀x c,X.env.cells.lookup x=some c->c≠b
 bs:∀b o,X.base.get? b=some o->X.s₀.heap.get? b=some o/\X.H₀ b=none
 bsz:X.base.objs.size<=X.s₀.heap.objs.size
 noex:∀b o,X.base.get? b=some o->b∉X.ex
 exfs:∀b∈X.ex,b∉X.fs
 tw:X.s₀.heap.FunFrames X.base X.outer
 frf:∀b∈X.fs,X.H₀ b=none
structure Inv(X:Cx)(Z0:VI (θ×Obj))(Y:VI (ο V))(H:Hp)(s:η):Prop where
 ok:X.Ok
 os:s.os=X.s₀.os
 bare:AllBare s.gens
 base:Un X.fs X.ex X.H₀ H X.s₀.heap s.heap
 loc:∃m,s.heap.Ns X.env.locals m/\∀(i:Nat) (x:Str) (v:V),X.N[i]?=some x->Y[i]?=some (some v)->Ub X.env.scope x->∃u,RelV v u/\Look X.env s.heap m x u
 cell:∀x c,X.env.cells.lookup x=some c->∃v,s.heap.IsCell c v
 free:H X.env.locals=none
 freeC:∀x c,X.env.cells.lookup x=some c->H c=none
 pin:∀p∈X.pn++Z0,s.heap.get? p.1=some p.2/\H p.1=none/\p.1≠X.env.locals/\p.1∉X.fs/\∀v,p.2.data≠.cell v
 hok:mh X.prog X.w H s.heap
 len:Y.length=X.N.length
section
variable{X:Cx}{Z0:VI (θ×Obj)}{Y:VI (ο V)}{H H':Hp}{s:η}{h':ε}
theorem Cx.Ok.Uj(ok:X.Ok){b:θ}{o:Obj}(e:X.base.get? b=some o):b∉X.fs:=λhb=>by
 have:=(ok.tw.mem hb).1;rw[e] at this;cases this
theorem Inv.bs(I:Inv X Z0 Y H s):∀b o,X.base.get? b=some o->s.heap.get? b=some o/\H b=none:=λb o e=>
 ⟨I.base.keep b o (I.ok.bs b o e).1 (I.ok.bs b o e).2 (I.ok.Uj e) (I.ok.noex b o e),I.base.free b o (I.ok.bs b o e).1 (I.ok.bs b o e).2 (I.ok.noex b o e)⟩
theorem Inv.bk(I:Inv X Z0 Y H s):∀b o,X.base.get? b=some o->s.heap.get? b=some o:=λb o e=>(I.bs b o e).1
theorem Inv.mod(I:Inv X Z0 Y H s):Mod X.K X.mg X.base:=I.ok.mod
theorem Inv.Ef(I:Inv X Z0 Y H s):X.K.In s.heap:=I.ok.mod.kin.keeps I.bk
theorem Inv.lt(I:Inv X Z0 Y H s):X.env.locals<s.heap.objs.size:=let ⟨_,hn,_⟩:=I.loc;hn.lt
theorem Inv.sz(I:Inv X Z0 Y H s):X.s₀.heap.objs.size<=s.heap.objs.size:=eJ I.ok.above (XD I.lt)
theorem Inv.OO(I:Inv X Z0 Y H s){a:θ}(h:s.heap.objs.size<=a):a∉X.fs:=λhb=>by
 obtain⟨_,o,ho,_⟩:=I.ok.tw.mem hb;exact absurd (ip (dq ho) (eJ I.sz h)) (oC _)
theorem Inv.OP(I:Inv X Z0 Y H s):∀x c,X.env.cells.lookup x=some c->c≠X.env.locals:=λx c e z=>by
 obtain⟨v,o,ho,hd⟩:=I.cell x c e;obtain⟨m,⟨o',es,ep,Zl,Yv,_⟩,_⟩:=I.loc;rw[z,Zl] at ho;cases ho;rw[Yv] at hd;cases hd
theorem Inv.tw(I:Inv X Z0 Y H s):s.heap.FunFrames X.base X.outer:=by
 have all:∀(l:VI Env),(∀b∈frs l,b∈X.fs)->X.s₀.heap.FunFrames X.base l->s.heap.FunFrames X.base l:=by
  intro l
  induction l with
  |nil=>intro _ _;trivial
  |cons env r ih=>
   intro hs hl;obtain⟨hk,⟨L,o,hf,hn,ho,hd⟩,hr⟩:=hl;have hL:L∈X.fs:=hs L (by unfold frs;rw[VL,hf];exact bp);obtain⟨sl,e⟩:=I.base.slot L o ho (I.ok.frf L hL) hL λz=>I.ok.exfs L z hL;exact⟨hk,⟨L,_,hf,hn,e,hd⟩,ih (λb hb=>hs b (by unfold frs;rw[VL,hf];exact dA _ hb)) hr⟩
 exact all X.outer (λ_ hb=>hb) I.ok.tw
theorem Inv.stack(I:Inv X Z0 Y H s):s.heap.FunFrames X.base X.stack:=by
 rcases I.ok.stk with e|⟨e,hf⟩
 .rw[e];exact I.tw
 .rw[e];obtain⟨m,hn,_⟩:=I.loc;refine .cons (by rw[I.ok.kind];decide) hf hn ?_ I.tw;exact Kk (eJ I.ok.bsz I.ok.above)
theorem Inv.lB(I:Inv X Z0 Y H s):∀b∈frs X.stack,b∈X.env.locals::X.fs:=λb hb=>by
 rcases I.ok.stk with e|⟨e,hf⟩
 .rw[e] at hb;exact dA _ hb
 .rw[e] at hb;unfold frs at hb;rw[VL,hf] at hb;exact hb
theorem Inv.tO(I:Inv X Z0 Y H s):∀b∈frs X.stack,H b=none:=λb hb=>by
 rcases gL.mp (I.lB b hb) with e|hb
 .rw[e];exact I.free
 .obtain⟨_,o,ho,_⟩:=I.ok.tw.mem hb;exact I.base.free b o ho (I.ok.frf b hb) λz=>I.ok.exfs b z hb
theorem Inv.step{g':Array GenState}{t':Nat}{d':Drawn}{ch:VI θ}(I:Inv X Z0 Y H s)
  (Zz:∀b∈ch,(b∈X.ex\/X.s₀.heap.objs.size<=b)/\b≠X.env.locals/\(∀x c,X.env.cells.lookup x=some c->c≠b)/\∀p∈X.pn++Z0,p.1≠b)
  (keep:∀b o,b≠X.env.locals->b∉X.fs->b∉ch->s.heap.get? b=some o->H b=none->h'.get? b=some o)
  (slot:∀b o,b≠X.env.locals->b∈X.fs->b∉ch->s.heap.get? b=some o->H b=none->∃sl,h'.get? b=some {o with slots:=sl}) (free:∀b o,b∉ch->s.heap.get? b=some o->H b=none->H' b=none)
  (there:∀b o,b∉ch->s.heap.get? b=some o->∃o',h'.get? b=some o')
  (tups:∀b xs,H b=some (.tup xs)->H' b=some (.tup xs)) (frzs:∀b o u,H b=some (.frz o u)->H' b=some (.frz o u)) (tbls:∀b ps,H b=some (.tbl ps)->∃more,H' b=some (.tbl (ps++more)))
  (ns:∀m,s.heap.Ns X.env.locals m->h'.Ns X.env.locals m) (hok:mh X.prog X.w H' h') (hg:AllBare g'):
  Inv X Z0 Y H' {s with heap:=h',gens:=g',drawn:=d',toks:=t' }:=by
 have neL:∀b o,X.s₀.heap.get? b=some o->b≠X.env.locals:=λb o e=>iq (ip (dq e) I.ok.above);have ZY:∀b o,X.s₀.heap.get? b=some o->b∉X.ex->b∉ch:=λb o e hx hb=>by
  rcases (Zz b hb).1 with z|z
  .exact hx z
  .exact absurd (ip (dq e) z) (oC _)
 have cellK:∀x c,X.env.cells.lookup x=some c->∀v,s.heap.IsCell c v->h'.IsCell c v:=λx c e v ⟨o,ho,hd⟩=>by
  have nch:c∉ch:=λz=>(Zz c z).2.2.1 x c e rfl
  by_cases hc:c∈X.fs
  .obtain⟨sl,q⟩:=slot c o (I.OP x c e) hc nch ho (I.freeC x c e);exact⟨_,q,hd⟩
  .exact⟨o,keep c o (I.OP x c e) hc nch ho (I.freeC x c e),hd⟩
 refine⟨I.ok,I.os,hg,⟨λb o e n hb hx=>?_,λb o e n hb hx=>?_,λb o e n hx=>?_,λb o e hx=>?_,λb xs e=>tups b xs (I.base.tups b xs e),λb o xs e=>frzs b o xs (I.base.frzs b o xs e),λb ps e=>?_⟩,?_,λx c e=>?_,?_,λx c e=>?_,λp hp=>?_,hok,I.len⟩
 .exact keep b o (neL b o e) hb (ZY b o e hx) (I.base.keep b o e n hb hx) (I.base.free b o e n hx)
 .obtain⟨sl,e1⟩:=I.base.slot b o e n hb hx;obtain⟨sl',e2⟩:=slot b _ (neL b o e) hb (ZY b o e hx) e1 (I.base.free b o e n hx);exact⟨sl',e2⟩
 .obtain⟨o',e1⟩:=I.base.there b o e hx;exact free b o' (ZY b o e hx) e1 (I.base.free b o e n hx)
 .obtain⟨o',e1⟩:=I.base.there b o e hx;exact there b o' (ZY b o e hx) e1
 .obtain⟨m1,e1⟩:=I.base.tbls b ps e;obtain⟨m2,e2⟩:=tbls b _ e1;exact⟨m1++m2,by rw[e2,Array.append_assoc]⟩
 .obtain⟨m,hn,hl⟩:=I.loc;refine⟨m,ns m hn,λi x v e1 e2 e3=>?_⟩;obtain⟨u,r,l⟩:=hl i x v e1 e2 e3;refine⟨u,r,?_⟩
  rcases l with l|⟨k,c,e,z⟩
  .exact .inl l
  .exact .inr ⟨k,c,e,cellK x c e _ z⟩
 .obtain⟨v,z⟩:=I.cell x c e;exact⟨v,cellK x c e v z⟩
 .obtain⟨m,⟨o,_,_,ho,_⟩,_⟩:=I.loc;exact free _ o (λz=>(Zz _ z).2.1 rfl) ho I.free
 .obtain⟨v,o,ho,hd⟩:=I.cell x c e;exact free c o (λz=>(Zz c z).2.2.1 x c e rfl) ho (I.freeC x c e)
 .obtain⟨e,n,ne,nf,d⟩:=I.pin p hp;have nch:p.1∉ch:=λz=>(Zz p.1 z).2.2.2 p hp rfl;exact⟨keep p.1 p.2 ne nf nch e n,free p.1 p.2 nch e n,ne,nf,d⟩
theorem Inv.un{t':Nat}(I:Inv X Z0 Y H s)(u:Un X.fs [] H H' s.heap h')(hok:mh X.prog X.w H' h'):Inv X Z0 Y H' {s with heap:=h',toks:=t' }:=by
 obtain⟨m,⟨o,es,ep,ho,r⟩,_⟩:=id I.loc;obtain⟨sl,hL⟩:=u.any ho I.free .(4);exact I.step (g':=s.gens) (d':=s.drawn) (ch:=[]) (λ_ z=>nomatch z) (λb o _ hb _ e n=>u.keep b o e n hb .(4)) (λb o _ hb _ e n=>u.slot b o e n hb .(4)) (λb o _ e n=>u.free b o e n .(4)) (λb o _ e=>u.there b o e .(4)) u.tups u.frzs u.tbls (λm' hm=>by
  obtain⟨o',YS,ZZ,Zl,r'⟩:=hm;rw[ho] at Zl;cases Zl;exact⟨_,YS,ZZ,hL,r'⟩) hok I.bare
theorem Inv.call{g':Array GenState}{t':Nat}{d':Drawn}{ch:VI θ}(I:Inv X Z0 Y H s)(u:Un (frs X.stack) ch H H' s.heap h')(hok:mh X.prog X.w H' h')(hg:AllBare g')
  (Zz:∀b∈ch,(b∈X.ex\/X.s₀.heap.objs.size<=b)/\b≠X.env.locals/\(∀x c,X.env.cells.lookup x=some c->c≠b)/\∀p∈X.pn++Z0,p.1≠b):
  Inv X Z0 Y H' {s with heap:=h',gens:=g',drawn:=d',toks:=t' }:=by
 obtain⟨m,⟨o,es,ep,ho,r⟩,_⟩:=id I.loc;obtain⟨sl,hL⟩:=u.any ho I.free λz=>(Zz _ z).2.1 rfl;exact I.step (ch:=ch) Zz (λb o hL hb hc e n=>u.keep b o e n (λz=>(gL.mp (I.lB b z)).elim hL hb) hc) (λb o _ _ hc e n=>u.any e n hc) (λb o hc e n=>u.free b o e n hc) (λb o hc e=>u.there b o e hc) u.tups u.frzs u.tbls (λm' hm=>by
  obtain⟨o',YS,ZZ,Zl,r'⟩:=hm;rw[ho] at Zl;cases Zl;exact⟨_,YS,ZZ,hL,r'⟩) hok hg
theorem Inv.turned{t':Nat}{it:θ}(I:Inv X Z0 Y H s)(k:∀b o,b≠it->s.heap.get? b=some o->h'.get? b=some o)(hn:H it=none)(hL:it≠X.env.locals)
  (h1:it∈X.ex\/X.s₀.heap.objs.size<=it) (h2:∀x c,X.env.cells.lookup x=some c->c≠it) (h3:∀p∈X.pn++Z0,p.1≠it):Inv X Z0 Y H {s with heap:=h',toks:=t' }:=by
 have nit:∀b u,H b=some u->b≠it:=λb u e z=>by rw[z,hn] at e;cases e
 refine I.step (g':=s.gens) (d':=s.drawn) (ch:=[it]) (λb hb=>?_) (λb o _ _ hc e _=>k b o (λz=>hc (by simp[z])) e) (λb o _ _ hc e _=>⟨o.slots,k b o (λz=>hc (by simp[z])) e⟩) (λ_ _ _ _ n=>n)
  (λb o hc e=>⟨o,k b o (λz=>hc (by simp[z])) e⟩) (λ_ _ e=>e) (λ_ _ _ e=>e) (λb ps e=>⟨#[],by rw[e];simp⟩) (λm hm=>?_) (λb u e=>?_) I.bare
 .have e:b=it:=by simpa using hb
  subst e;exact⟨h1,hL,h2,h3⟩
 .obtain⟨o,es,ep,ho,r⟩:=hm;exact⟨o,es,ep,k _ o (du hL) ho,r⟩
 .refine(I.hok b u e).stay (λc v hc q=>k c v ?_ q) (λ_ q=>q) λ_ _ q=>q
  rcases hc with z|z
  .rw[z];exact nit b u e
  .exact nit c _ z
theorem Inv.tok(I:Inv X Z0 Y H s)(t:Nat):Inv X Z0 Y H {s with toks:=t}:=I.un (h':=s.heap) (t':=t) Un.refl I.hok
theorem Inv.kept{t':Nat}(I:Inv X Z0 Y H s)(k:∀b u,s.heap.get? b=some u->h'.get? b=some u):Inv X Z0 Y H {s with heap:=h',toks:=t' }:=I.un (Un.kept k) (I.hok.kept k)
theorem Inv.laid{a:θ}{o:HO}{t':Nat}(I:Inv X Z0 Y H s)(k:∀b u,s.heap.get? b=some u->h'.get? b=some u)(hp:s.heap.objs.size<=a)(new:cY X.prog X.w (upd H a o) h' a o):
  Inv X Z0 Y (upd H a o) {s with heap:=h',toks:=t' }:=I.un (Un.laid k hp (I.hok.fresh hp)) (I.hok.laid k hp new)
theorem Inv.write{x e:θ}{o:HO}{t':Nat}(I:Inv X Z0 Y H s)(mu:Rb (H x))(he:e=x\/H e=some (.own x))(k:∀b u,b≠e->s.heap.get? b=some u->h'.get? b=some u)(heo:∃u,h'.get? e=some u)
  (new:cY X.prog X.w (upd H x o) h' x o):Inv X Z0 Y (upd H x o) {s with heap:=h',toks:=t' }:=I.un (Un.write mu he k heo) (I.hok.write mu he k heo new)
theorem Inv.weak{σ':VI (ο V)}(I:Inv X Z0 Y H s)(hl:σ'.length=Y.length)(w:∀(i:Nat) v,σ'[i]?=some (some v)->Y[i]?=some (some v)):Inv X Z0 σ' H s:=
 ⟨I.ok,I.os,I.bare,I.base,let ⟨m,hn,Za⟩:=I.loc;⟨m,hn,λi x v e1 e2 e3=>Za i x v e1 (w i v e2) e3⟩,I.cell,I.free,I.freeC,I.pin,I.hok,hl.trans I.len⟩
theorem Inv.mj{pins':VI (θ×Obj)}(I:Inv X Z0 Y H s)(h:∀p∈pins',s.heap.get? p.1=some p.2/\H p.1=none/\p.1≠X.env.locals/\p.1∉X.fs/\∀v,p.2.data≠.cell v):Inv X pins' Y H s:=
 ⟨I.ok,I.os,I.bare,I.base,I.loc,I.cell,I.free,I.freeC,λp hp=>(eP.mp hp).elim (λz=>I.pin p (hU _ z)) (h p),I.hok,I.len⟩
theorem Av{N:VI Str}(hN:N.Nodup){i j:Nat}{x:Str}(a:N[i]?=some x)(b:N[j]?=some x):i=j:=by
 obtain⟨h1,e1⟩:=bo.mp a;obtain⟨h2,e2⟩:=bo.mp b;exact(List.getElem_inj hN).mp (e1.trans e2.symm)
theorem qF{M:Model}{A:ξ}{E:ζ->η->Prop}{i:Nat}{x:Str}{v:V}{u:ζ}{Q:Unit->η->Prop}(I:Inv X Z0 Y H s)(hN:X.N.Nodup)(hi:X.N[i]?=some x)(hx:Loc X.env.scope x)(r:RelV v u)
  (h:∀s',Inv X Z0 (Y.set i (some v)) H s'->(∃a,Heap.SameBut a s.heap s'.heap/\(a=X.env.locals\/X.env.cells.lookup x=some a))->Q () s') (hf:X.fn x=true\/X.env.scope.names.lookup x=some .local:=by first|exact .inl rfl|exact .inr rfl|assumption):wpAny M A (storeName X.env x u) Q E s:=by
 obtain⟨m,hn,hl⟩:=id I.loc;have hcls:(X.env.scope.kind ==.class||(X.env.scope.kind ==.module&&X.env.locals !=X.env.globals))=false:=by rw[I.ok.kind];rfl
 have hiσ:i<Y.length:=by rw[I.len];exact(bo.mp hi).1
 have OP:=I.OP;have tracked:∀{a:θ} {h':ε},(∃o,s.heap.get? a=some o/\H a=none)->Heap.SameBut a s.heap h'->mh X.prog X.w H h':=λ{a h'} ha hs b ob e=>by
  obtain⟨_,_,X9⟩:=ha;refine(I.hok b ob e).stay (λc w' hc q=>(hs.2 c ?_).trans q) (λ_ q=>q) λ_ _ q=>q;rintro rfl
  rcases hc with rfl|hc
  .rw[X9] at e;cases e
  .rw[X9] at hc;cases hc
 rcases hx with hk|hk
 .refine wpAny_storeName_local hk hn (λh' hn' hs=>?_) hcls;obtain⟨oL,_,_,hoL,_⟩:=id hn;refine h _ ⟨I.ok,I.os,I.bare,⟨λb o e n hb hx=>?_,λb o e n hb hx=>?_,I.base.free,λb o e hx=>?_,I.base.tups,I.base.frzs,I.base.tbls⟩,⟨_,hn',λj y v' e1 e2 e3=>?_⟩,λy c e=>?_,I.free,I.freeC,λp hp=>?_,tracked ⟨oL,hoL,I.free⟩ hs,by simpa using I.len⟩ ⟨_,hs,.inl rfl⟩
  .exact(hs.2 b (iq (ip (dq e) I.ok.above))).trans (I.base.keep b o e n hb hx)
  .obtain⟨sl,e1⟩:=I.base.slot b o e n hb hx;exact⟨sl,(hs.2 b (iq (ip (dq e) I.ok.above))).trans e1⟩
  .obtain⟨o',e1⟩:=I.base.there b o e hx;exact⟨o',(hs.2 b (iq (ip (dq e) I.ok.above))).trans e1⟩
  .by_cases hj:j=i
   .subst hj;rw[hi] at e1;cases e1;rw[Xh hiσ] at e2;cases e2;exact⟨u,r,.inl ⟨hk,by simp⟩⟩
   .rw[List.getElem?_set_ne (du hj)] at e2;obtain⟨u',r',q⟩:=hl j y v' e1 e2 e3;refine⟨u',r',?_⟩
    rcases q with⟨k,e⟩|⟨k,c,e,z⟩
    .refine .inl ⟨k,?_⟩;have:y≠x:=λe=>hj (Av hN e1 (e▸hi));simp[this,e]
    .exact .inr ⟨k,c,e,z.sameBut hs (OP y c e)⟩
  .obtain⟨w',z⟩:=I.cell y c e;exact⟨w',z.sameBut hs (OP y c e)⟩
  .obtain⟨e,n,ne,nf,d⟩:=I.pin p hp;exact⟨(hs.2 p.1 ne).trans e,n,ne,nf,d⟩
 .have hfn:X.fn x=true:=by
   rcases hf with z|z
   .exact z
   .rw[z] at hk;cases hk
  obtain⟨c,hc⟩:=I.ok.has x (.inl hk);obtain⟨w',z⟩:=I.cell x c hc;refine wpAny_storeName_cell I.ok.kind hk hc z (λh' Zb hs=>?_);obtain⟨oc,hoc,Uk⟩:=id z;refine h {s with heap:=h' } ⟨I.ok,I.os,I.bare,⟨λb o e n hb hx=>?_,λb o e n hb hx=>?_,I.base.free,λb o e hx=>?_,I.base.tups,I.base.frzs,I.base.tbls⟩,⟨m,hn.sameBut hs (du (OP x c hc)),λj y v' e1 e2 e3=>?_⟩,λy c' e=>?_,I.free,I.freeC,λp hp=>?_,tracked ⟨oc,hoc,I.freeC x c hc⟩ hs,by simpa using I.len⟩ ⟨c,hs,.inr hc⟩
  .exact(hs.2 b (iq (ip (dq e) (I.ok.cab x c hfn hc)))).trans (I.base.keep b o e n hb hx)
  .obtain⟨sl,e1⟩:=I.base.slot b o e n hb hx;exact⟨sl,(hs.2 b (iq (ip (dq e) (I.ok.cab x c hfn hc)))).trans e1⟩
  .obtain⟨o',e1⟩:=I.base.there b o e hx;exact⟨o',(hs.2 b (iq (ip (dq e) (I.ok.cab x c hfn hc)))).trans e1⟩
  .by_cases hj:j=i
   .subst hj;rw[hi] at e1;cases e1;rw[Xh hiσ] at e2;cases e2;exact⟨u,r,.inr ⟨.inl hk,c,hc,Zb⟩⟩
   .rw[List.getElem?_set_ne (du hj)] at e2;obtain⟨u',r',q⟩:=hl j y v' e1 e2 e3;refine⟨u',r',?_⟩
    rcases q with q|⟨k,c',e,z'⟩
    .exact .inl q
    .refine .inr ⟨k,c',e,z'.sameBut hs ?_⟩;rintro rfl;exact hj (Av hN e1 (I.ok.inj _ _ _ e hc▸hi))
  .by_cases hcc:c'=c
   .subst hcc;exact⟨_,Zb⟩
   .obtain⟨w2,z2⟩:=I.cell y c' e;exact⟨w2,z2.sameBut hs hcc⟩
  .obtain⟨e,n,ne,nf,d⟩:=I.pin p hp;refine⟨(hs.2 p.1 ?_).trans e,n,ne,nf,d⟩;intro q;rw[q,hoc] at e;have q':oc=p.2:=eI e;exact d w' (by rw[<-q'];exact Uk)
theorem Aw{M:Model}{A:ξ}{E:ζ->η->Prop}{i:Nat}{x:Str}{v:V}{u:ζ}{Q:Unit->η->Prop}(I:Inv X Z0 Y H s)(hN:X.N.Nodup)(hi:X.N[i]?=some x)(hx:Loc X.env.scope x)(r:RelV v u)
  (h:∀s',Inv X Z0 (Y.set i (some v)) H s'->Q () s') (hf:X.fn x=true\/X.env.scope.names.lookup x=some .local:=by first|exact .inl rfl|exact .inr rfl|assumption):wpAny M A (storeName X.env x u) Q E s:=
 qF I hN hi hx r (λs' I' _=>h s' I') hf
theorem Inv.Rf{s':η}{ch:VI θ}(I:Inv X Z0 Y H s)(ho:s'.os=s.os)(u:Un (frs X.stack) ch H H' s.heap s'.heap)(hok:mh X.prog X.w H' s'.heap)(hg:AllBare s'.gens)
  (Zz:∀b∈ch,(b∈X.ex\/X.s₀.heap.objs.size<=b)/\b≠X.env.locals/\(∀x c,X.env.cells.lookup x=some c->c≠b)/\∀p∈X.pn++Z0,p.1≠b):Inv X Z0 Y H' s':=by
 obtain⟨h',g',d',t',o'⟩:=s';have e:o'=s.os:=ho;subst e;exact I.call (g':=g') (t':=t') (d':=d') u hok hg Zz
end
abbrev XK:=ζ->ο θ->Hp->Prop
abbrev St:=VI (ο V)
abbrev VK:=V->Hp->Prop
abbrev TE:=St->Hp->VK->Prop
abbrev TT:=St->Hp->(Bool->Hp->Prop)->Prop
abbrev TA:=St->Hp->(VI V->Hp->Prop)->Prop
structure Ends where
 nx:St->Hp->Prop
 rt:VK
 bk:St->Hp->Prop:=λ_ _=>False
 ct:St->Hp->Prop:=λ_ _=>False
abbrev TS:=Ends->St->Hp->Prop
def EP(X:Cx)(Z0:VI (θ×Obj))(Y:St)(Q:VK)(u:ζ)(s':η):Prop:=∃v H',Inv X Z0 Y H' s'/\RelV v u/\Q v H'
def TP(X:Cx)(Z0:VI (θ×Obj))(Y:St)(Q:Bool->Hp->Prop)(b:Bool)(s':η):Prop:=∃H',Inv X Z0 Y H' s'/\Q b H'
def AP(X:Cx)(Z0:VI (θ×Obj))(Y:St)(Q:VI V->Hp->Prop)(us:VI ζ)(s':η):Prop:=∃vs H',Inv X Z0 Y H' s'/\Vals vs us/\Q vs H'
def SP(X:Cx)(Z0:VI (θ×Obj))(D:Ends)(f:Flow)(s':η):Prop:=
 match f with
 |.next=>∃σ' H',Inv X Z0 σ' H' s'/\D.nx σ' H'
 |.brk=>∃σ' H',Inv X Z0 σ' H' s'/\D.bk σ' H'
 |.cont=>∃σ' H',Inv X Z0 σ' H' s'/\D.ct σ' H'
 |.ret u=>∃v σ' H',Inv X Z0 σ' H' s'/\RelV v u/\D.rt v H'
def PE(X:Cx)(e:γ)(t:TE):Prop:=
 ∀(Z0:VI (θ×Obj)) (s:η) (Y:St) (H:Hp) (Q:VK),Inv X Z0 Y H s->t Y H Q->wpAny .(1) X.A (eval e X.env) (EP X Z0 Y Q) X.xe s
def PT(X:Cx)(e:γ)(t:TT):Prop:=
 ∀(Z0:VI (θ×Obj)) (s:η) (Y:St) (H:Hp) (Q:Bool->Hp->Prop),Inv X Z0 Y H s->t Y H Q->wpAny .(1) X.A (isTrue e X.env (eval e X.env)) (TP X Z0 Y Q) X.xe s
def PW(X:Cx)(e:γ)(t:TT):Prop:=
 ∀(whole:Sem ζ) (Z0:VI (θ×Obj)) (s:η) (Y:St) (H:Hp) (Q:Bool->Hp->Prop),Inv X Z0 Y H s->t Y H Q->wpAny .(1) X.A (isTrue e X.env whole) (TP X Z0 Y Q) X.xe s
theorem PW.pt{X:Cx}{e:γ}{t:TT}(h:PW X e t):PT X e t:=h _
def PA(X:Cx)(es:VI γ)(t:TA):Prop:=
 ∀(pos:Pos) (Z0:VI (θ×Obj)) (s:η) (Y:St) (H:Hp) (Q:VI V->Hp->Prop),Inv X Z0 Y H s->t Y H Q->wpAny .(1) X.A (spliced (backTo pos (starEach es X.env))) (AP X Z0 Y Q) X.xe s
def PS(X:Cx)(st:δ)(t:TS):Prop:=
 ∀(Z0:VI (θ×Obj)) (s:η) (Y:St) (H:Hp) (D:Ends),Inv X Z0 Y H s->t D Y H->wpAny .(1) X.A (exec st X.env) (SP X Z0 D) X.xe s
def Eg(X:Cx)(st:VI δ)(t:TS):Prop:=
 ∀(Z0:VI (θ×Obj)) (s:η) (Y:St) (H:Hp) (D:Ends),Inv X Z0 Y H s->t D Y H->wpAny .(1) X.A (execs st X.env) (SP X Z0 D) X.xe s
theorem cT{α:Type}{t:Sem α}{Q Q':α->η->Prop}{M:Model}{A:ξ}{E:ζ->η->Prop}{s:η}(h:wpAny M A t Q E s)(hQ:∀a s,Q a s->Q' a s):wpAny M A t Q' E s:=pE h hQ λ_ _ x=>x
section
variable{X:Cx}
def Mc:ο (ο V)->Hp->VK->Prop|some (some v),H,Q=>Q v H|_,_,_=>False
theorem xu{v:V}{H:Hp}{Q:VK}:Mc (some (some v)) H Q=Q v H:=rfl
theorem Me{o:ο (ο V)}{H:Hp}{Q:VK}(h:Mc o H Q):∃v,o=some (some v)/\Q v H:=by
 cases o with
 |none=>cases h
 |some o=>cases o with
  |none=>cases h
  |some v=>exact⟨v,rfl,h⟩
theorem mq{o:ο (ο V)}{v:V}{H:Hp}{Q:VK}(e:o=some (some v))(h:Q v H):Mc o H Q:=e▸h
def Rg:V->(Bool->Prop)->Prop |.bl k,P=>P k|_,_=>False
theorem IA{k:Bool}{P:Bool->Prop}:Rg (.bl k) P=P k:=rfl
theorem Cm{x:V}{P:Bool->Prop}(h:Rg x P):∃k,x=.bl k/\P k:=by cases x with
 |bl k=>exact⟨k,rfl,h⟩
 |_=>cases h
def Cn:V->(Int->Prop)->Prop |.int k,P=>P k|_,_=>False
theorem Ax{k:Int}{P:Int->Prop}:Cn (.int k) P=P k:=rfl
theorem mw{x:V}{P:Int->Prop}(h:Cn x P):∃k,x=.int k/\P k:=by cases x with
 |int k=>exact⟨k,rfl,h⟩
 |_=>cases h
theorem bK{k:Bool}{P:Bool->Prop}(h:P k):Rg (.bl k) P:=h
theorem kK{k:Int}{P:Int->Prop}(h:P k):Cn (.int k) P:=h
def ah(i:Nat):TE:=λY H Q=>Mc Y[i]? H Q
def tC(v:V):TE:=λ_ H Q=>Q v H
theorem IB{i:Nat}{x:Str}{pos:Pos}(hN:X.N[i]?=some x)(hv:Ub X.env.scope x)(hd:(x==("__debug__" :Str))=false:=by decide)(YY:(x==("__classdict__" :Str))=false:=by decide):PE X (.Name x pos) (ah i):=by
 intro Z0 s Y H Q I h;obtain⟨v,e,h⟩:=Me h;obtain⟨m,hn,hl⟩:=I.loc;obtain⟨u,r,l⟩:=hl i x v hN e hv;have fin:EP X Z0 Y Q u s:=⟨v,H,I,r,h⟩
 rcases l with⟨hk,hm⟩|⟨hk,c,hc,XY⟩
 .exact wpAny_Name (wpAny_loadName_local I.ok.kind hk hn hm fin) hd
 .rcases hk with hk|hk
  .exact wpAny_Name (wpAny_loadName_cell I.ok.kind hk hc XY fin) hd
  .exact wpAny_Name (wpAny_loadName_free I.ok.kind hk hc XY fin YY) hd
theorem OQ{i j pos}:PE X (.Constant (.int i) j pos) (tC (.int i)):=λ_ _ _ H _ I h=>wpAny_Constant_int ⟨.int i,H,I.tok _,⟨_,rfl⟩,h⟩
theorem Rh{b j pos}:PE X (.Constant (.bool b) j pos) (tC (.bl b)):=λ_ _ _ H _ I h=>Constant_bool ⟨.bl b,H,I,rfl,h⟩
theorem OS{j pos}:PE X (.Constant .none j pos) (tC .non):=λ_ _ _ H _ I h=>Constant_none ⟨.non,H,I,rfl,h⟩
theorem OT{x j pos}:PE X (.Constant (.str x) j pos) (tC (.str x)):=λ_ _ _ H _ I h=>Calls.Constant_str ⟨.str x,H,I.tok _,⟨_,rfl⟩,h⟩
def Gl(X:Cx)(x:Str):Prop:=X.env.kindOf x=some .globalImplicit
theorem tP{E:ζ->η->Prop}{Z0:VI (θ×Obj)}{s:η}{Y:St}{H:Hp}{x:Str}{u:ζ}{pos:Pos}{Q:ζ->η->Prop}(I:Inv X Z0 Y H s)(hg:Gl X x)(hm:X.mg x=some u)(h:Q u s)
  (hd:(x==("__debug__":Str))=false:=by decide):wpAny .(1) X.A (eval (.Name x pos) X.env) Q E s:=
 Calls.Name_function_global I.ok.kind hg (Calls.loadGlobal_global (by rw[I.ok.glob];exact I.mod.glob.keeps I.bk) hm h) hd
theorem n9{E:ζ->η->Prop}{Z0:VI (θ×Obj)}{s:η}{Y:St}{H:Hp}{x:Str}{u:ζ}{pos:Pos}{Q:ζ->η->Prop}(I:Inv X Z0 Y H s)(hg:Gl X x)(hm:X.mg x=none)(hv:bootBuiltins x=some u)(h:Q u s)
  (hn:x ≠ "__name__" :=by decide) (hd:(x==("__debug__" :Str))=false:=by decide):wpAny .(1) X.A (eval (.Name x pos) X.env) Q E s:=by
 obtain⟨mb,h1,h2⟩:=I.mod.blt;exact Calls.Name_function_global I.ok.kind hg (Calls.loadGlobal_builtin (by rw[I.ok.glob];exact I.mod.glob.keeps I.bk) hm (by rw[I.ok.blt];exact h1.keeps I.bk) ((h2 x hn).trans hv) h) hd
theorem Eh{x:Str}{v:V}{u:ζ}{pos:Pos}(hg:Gl X x)(hm:X.mg x=some u)(r:RelV v u)(hd:(x==("__debug__":Str))=false:=by decide):PE X (.Name x pos) (tC v):=
 λ_ _ _ H _ I h=>tP I hg hm ⟨v,H,I,r,h⟩ hd
variable{a b:γ}{ta tb:TE}{pos:Pos}
def PC(X:Cx)(op:CmpOp)(a b:γ)(t:TE):Prop:=
 ∀(Z0:VI (θ×Obj)) (s:η) (Y:St) (H:Hp) (Q:VK),Inv X Z0 Y H s->t Y H Q->
  wpAny .(1) X.A (eval a X.env) (λv s₁=>wpAny .(1) X.A (eval b X.env) (λu c4=>wpAny .(1) X.A (compareOp op v u) (EP X Z0 Y Q) X.xe c4) X.xe s₁) X.xe s
theorem uI(b:γ){op:CmpOp}(h:op≠.In)(h2:op≠.NotIn):behindInMarks op b=false:=by
 have e1:(op==CmpOp.In)=false:=by cases op<;>first|rfl|exact absurd rfl h
 have e2:(op==CmpOp.NotIn)=false:=by cases op<;>first|rfl|exact absurd rfl h2
 cases b<;>simp[behindInMarks,e1,e2]
def wZ(ta:TE):TE:=λY H Q=>ta Y H λx H1=>Q (.bl (decide (x=.non))) H1
def jf(ta:TE):TE:=λY H Q=>ta Y H λx H1=>Q (.bl (!decide (x=.non))) H1
theorem RelV.Ay{x:V}{v:ζ}(r:RelV x v):(v==Value.none)=decide (x=.non):=by
 cases x with
 |non=>cases r;rfl
 |bl _=>cases r;rfl
 |int _=>obtain⟨t,rfl⟩:=r;rfl
 |str _=>obtain⟨t,rfl⟩:=r;rfl
 |byt _=>obtain⟨t,rfl⟩:=r;rfl
 |flt _=>obtain⟨t,rfl⟩:=r;rfl
 |ref _=>cases r;rfl
 |ty _=>cases r;rfl
theorem OU{j pos'}(ha:PE X a ta):PC X .Is a (.Constant .none j pos') (wZ ta):=by
 intro Z0 s Y H Q I h;refine cT (ha Z0 s Y H _ I h) λv s1 ⟨x,H1,I1,r1,q1⟩=>?_;exact Constant_none (is_none_gen ⟨.bl _,H1,I1,by rw[r1.Ay];rfl,q1⟩)
theorem Mf{j pos'}(ha:PE X a ta):PC X .IsNot a (.Constant .none j pos') (jf ta):=by
 intro Z0 s Y H Q I h;refine cT (ha Z0 s Y H _ I h) λv s1 ⟨x,H1,I1,r1,q1⟩=>?_;exact Constant_none (isnot_none_gen ⟨.bl _,H1,I1,by rw[r1.Ay];rfl,q1⟩)
def tB(t:TE):TT:=λY H Q=>t Y H λx H1=>Rg x λc=>Q c H1
theorem IC{op:CmpOp}{t:TE}(h:PC X op a b t)(h1:behindInMarks op b=false:=by first|exact uI _ (by decide) (by decide)|rfl):PT X (.Compare a [op] [b] pos) (tB t):=by
 intro Z0 s Y H Q I hw;refine wpAny_isTrue_Compare1 (cT (h Z0 s Y H _ I hw) λv s1 h1=>cT h1 λu s2 h2=>cT h2 λc s3 ⟨x,H1,I1,r1,q1⟩=>?_) h1;obtain⟨d,rfl,q⟩:=Cm q1;cases r1;exact Jn ⟨H1,I1,q⟩
theorem OV{e:γ}{t:TE}(h:PE X e t)(he:∀whole,isTrue e X.env whole=(do let v <-whole;standAt e.pos;holding [v] (truthy v)):=by intro _;rfl):PT X e (tB t):=by
 intro Z0 s Y H Q I hw;refine isTrue_plain (cT (h Z0 s Y H _ I hw) λv s1 ⟨x,H1,I1,r1,q1⟩=>?_) (he _);obtain⟨d,rfl,q⟩:=Cm q1;cases r1;exact Jn ⟨H1,I1,q⟩
variable{tA ZK:TT}{rest:VI γ}
def oh(t u:TT):TT:=λY H Q=>t Y H λc H1=>if c=true then u Y H1 Q else Q false H1
def An(t u:TT):TT:=λY H Q=>t Y H λc H1=>if c=true then Q true H1 else u Y H1 Q
def yh(t:TT):TT:=λY H Q=>t Y H λc H1=>Q (!c) H1
theorem Mg(ha:PT X a tA):PW X (.BoolOp .And [a] pos) tA:=by
 intro wh Z0 s Y H Q I h;refine isTrue_and (cT (ha Z0 s Y H Q I h) λc s1 e=>?_);cases c with
 |true=>exact isTrue_and_nil e
 |false=>exact e
theorem OW(ha:PT X a tA):PW X (.BoolOp .Or [a] pos) tA:=by
 intro wh Z0 s Y H Q I h;refine isTrue_or (cT (ha Z0 s Y H Q I h) λc s1 e=>?_);cases c with
 |false=>exact isTrue_or_nil e
 |true=>exact e
theorem OX(ha:PT X a tA)(hb:PW X (.BoolOp .And (b::rest) pos) ZK):PW X (.BoolOp .And (a::b::rest) pos) (oh tA ZK):=by
 intro wh Z0 s Y H Q I h;refine isTrue_and (cT (ha Z0 s Y H _ I h) λc s1 ⟨H1,I1,q1⟩=>?_);cases c with
 |true=>exact hb wh Z0 s1 Y H1 Q I1 q1
 |false=>exact⟨H1,I1,q1⟩
theorem Ri(ha:PT X a tA)(hb:PW X (.BoolOp .Or (b::rest) pos) ZK):PW X (.BoolOp .Or (a::b::rest) pos) (An tA ZK):=by
 intro wh Z0 s Y H Q I h;refine isTrue_or (cT (ha Z0 s Y H _ I h) λc s1 ⟨H1,I1,q1⟩=>?_);cases c with
 |true=>exact⟨H1,I1,q1⟩
 |false=>exact hb wh Z0 s1 Y H1 Q I1 q1
theorem OY(ha:PT X a tA):PT X (.UnaryOp .Not a pos) (yh tA):=by
 intro Z0 s Y H Q I h;exact isTrue_not (ha Z0 s Y H (λc H1=>Q (!c) H1) I h)
def Q6(t:TT)(ta tb:TE):TE:=λY H Q=>t Y H λc H1=>if c=true then ta Y H1 Q else tb Y H1 Q
theorem ID{c:γ}(hc:PT X c tA)(ha:PE X a ta)(hb:PE X b tb):PE X (.IfExp c a b pos) (Q6 tA ta tb):=by
 intro Z0 s Y H Q I h;refine wpAny_IfExp (cT (hc Z0 s Y H _ I h) λd s1 ⟨H1,I1,q1⟩=>?_);cases d with
 |true=>exact ha Z0 s1 Y H1 Q I1 q1
 |false=>exact hb Z0 s1 Y H1 Q I1 q1
end
def bw(K:W.Frag)(H:Hp)(a:θ)(xs:VI V):Prop:=
 Rd H a (.lst xs)\/
  ∃(o:Obj) (XM:Array ζ) (n:Nat),K.lookup a=some o/\o.cls=.type "list"/\o.dict=none/\o.data=.seq XM n/\XM.size<=sizeLine/\Vals xs XM.toList
def fT(K:W.Frag)(H:Hp)(a:θ)(xs:VI V):Prop:=
 Rd H a (.tup xs)\/
  ∃(o:Obj) (XM:Array ζ) (n:Nat),K.lookup a=some o/\o.cls=.type "tuple"/\o.data=.seq XM n/\XM.size<=sizeLine/\Vals xs XM.toList
def Ul:ζ->ο V
 |.none=>some .non
 |.bool b=>some (.bl b)
 |.int i _=>some (.int i)
 |.str x _=>some (.str x)
 |.bytes b _=>some (.byt b)
 |.float b _=>some (.flt b)
 |.ref a=>some (.ref a)
 |.type n=>some (.ty n)
 |_=>none
theorem RelV.abs{x:V}{u:ζ}(r:RelV x u):Ul u=some x:=by
 cases x with
 |non=>cases r;rfl
 |bl _=>cases r;rfl
 |int _=>obtain⟨t,rfl⟩:=r;rfl
 |str _=>obtain⟨t,rfl⟩:=r;rfl
 |byt _=>obtain⟨t,rfl⟩:=r;rfl
 |flt _=>obtain⟨t,rfl⟩:=r;rfl
 |ref _=>cases r;rfl
 |ty _=>cases r;rfl
theorem RelV.inj{x y:V}{u:ζ}(r:RelV x u)(q:RelV y u):x=y:=eI (r.abs.symm.trans q.abs)
theorem Vals.inj:∀{xs ys:VI V} {us:VI ζ},Vals xs us->Vals ys us->xs=ys
 |_,_,_,.nil,.nil=>rfl
 |_,_,_,.cons r t,.cons r' t'=>by rw[r.inj r',Vals.inj t t']
section
variable{X:Cx}{Z0:VI (θ×Obj)}{Y:St}{H:Hp}{s:η}{a:θ}{xs ys:VI V}
theorem bw.of{K:W.Frag}(h:H a=some (.lst xs)):bw K H a xs:=.inl (.inl h)
theorem fT.of{K:W.Frag}(h:H a=some (.tup xs)):fT K H a xs:=.inl (.inl h)
theorem Inv.list(I:Inv X Z0 Y H s)(h:bw X.K H a xs):∃XM:VI ζ,Vals xs XM/\PlainL s.heap a XM.toArray/\xs.length<=sizeLine:=by
 rcases h with h|⟨o,XM,n,hk,hc,hd,hs,hz,r⟩
 .obtain⟨z,XM,n,r,e⟩:=h.ok I.hok;exact⟨XM,r,⟨_,n,e,rfl,rfl,rfl⟩,z⟩
 .refine⟨XM.toList,r,⟨o,n,I.Ef a o hk,hc,hd,by simpa using hs⟩,?_⟩;have e:=r.length;simp only[Array.length_toList] at e;lia
theorem Inv.tuple(I:Inv X Z0 Y H s)(h:fT X.K H a xs):∃XM:VI ζ,Vals xs XM/\IsTup s.heap a XM.toArray/\xs.length<=sizeLine:=by
 rcases h with h|⟨o,XM,n,hk,hc,hs,hz,r⟩
 .obtain⟨z,XM,r,p⟩:=h.ok I.hok;exact⟨XM,r,p,z⟩
 .refine⟨XM.toList,r,⟨o,I.Ef a o hk,hc,n,by simpa using hs⟩,?_⟩;have e:=r.length;simp only[Array.length_toList] at e;lia
theorem Inv.IE(I:Inv X Z0 Y H s)(h:bw X.K H a xs)(h':bw X.K H a ys):xs=ys:=by
 obtain⟨XM,r,⟨o,n,e,_,_,d⟩,_⟩:=I.list h;obtain⟨its',r',⟨o',n',e',_,_,d'⟩,_⟩:=I.list h';rw[e] at e';cases e';rw[d] at d';injection d' with d1 _
 have:XM=its':=by simpa using tz Array.toList d1
 subst this;exact r.inj r'
end
abbrev Cx.uJ(X:Cx)(E:ζ->η->Prop):Cx:={X with xe:=E}
abbrev Cx.Mh(X:Cx):Cx:=X.uJ λ_ _=>False
theorem Cx.Ok.uJ{X:Cx}(ok:X.Ok)(E:ζ->η->Prop):(X.uJ E).Ok:=
 ⟨ok.mod,ok.kind,ok.glob,ok.blt,ok.above,ok.inj,ok.has,ok.cab,ok.hd,ok.frames,ok.stk,ok.exf,ok.bs,ok.bsz,ok.noex,ok.exfs,ok.tw,ok.frf⟩
theorem Cx.Ok.j6{X:Cx}{E:ζ->η->Prop}(ok:(X.uJ E).Ok):X.Ok:=
 ⟨ok.mod,ok.kind,ok.glob,ok.blt,ok.above,ok.inj,ok.has,ok.cab,ok.hd,ok.frames,ok.stk,ok.exf,ok.bs,ok.bsz,ok.noex,ok.exfs,ok.tw,ok.frf⟩
section
variable{X:Cx}{Z0:VI (θ×Obj)}{Y:St}{H:Hp}{s:η}{E:ζ->η->Prop}
theorem Inv.uJ(I:Inv X Z0 Y H s)(E:ζ->η->Prop):Inv (X.uJ E) Z0 Y H s:=⟨I.ok.uJ E,I.os,I.bare,I.base,I.loc,I.cell,I.free,I.freeC,I.pin,I.hok,I.len⟩
theorem Inv.j6(I:Inv (X.uJ E) Z0 Y H s):Inv X Z0 Y H s:=⟨I.ok.j6,I.os,I.bare,I.base,I.loc,I.cell,I.free,I.freeC,I.pin,I.hok,I.len⟩
theorem SP.j6{D:Ends}{f:Flow}{s':η}(h:SP (X.uJ E) Z0 D f s'):SP X Z0 D f s':=by
 cases f with
 |next=>obtain⟨σ',H',I,q⟩:=h;exact⟨σ',H',I.j6,q⟩
 |brk=>obtain⟨σ',H',I,q⟩:=h;exact⟨σ',H',I.j6,q⟩
 |cont=>obtain⟨σ',H',I,q⟩:=h;exact⟨σ',H',I.j6,q⟩
 |ret u=>obtain⟨v,σ',H',I,r,q⟩:=h;exact⟨v,σ',H',I.j6,r,q⟩
theorem Eg.Mh{st:VI δ}{t:TS}(h:Eg X.Mh st t):Eg X st t:=λZ0 s Y H D I hw=>
 pE (h Z0 s Y H D (I.uJ _) hw) (λ_ _ q=>q.j6) λ_ _ z=>False.elim z
end
section
variable{X:Cx}{st:δ}{rest:VI δ}{t u:TS}{e:γ}{te:TE}{pos:Pos}
def bX:TS:=λD Y H=>D.nx Y H
def aJ(t u:TS):TS:=λD Y H=>t {D with nx:=u D} Y H
theorem Mi:Eg X [] bX:=λ_ _ Y H _ I h=>Wf ⟨Y,H,I,h⟩
theorem IF(h1:PS X st t)(h2:Eg X rest u):Eg X (st::rest) (aJ t u):=by
 intro Z0 s Y H D I h;refine wpAny_execs_cons (cT (h1 Z0 s Y H {D with nx:=u D} I h) λf s1 q=>?_);cases f with
 |next=>
  obtain⟨σ',H',I',q⟩:=q;exact h2 Z0 s1 σ' H' D I' q
 |ret v=>exact q
 |brk=>exact q
 |cont=>exact q
theorem Mj(h1:PS X st t):Eg X [st] t:=by
 intro Z0 s Y H D I h;refine wpAny_execs_cons (cT (h1 Z0 s Y H D I h) λf s1 q=>?_);cases f with
 |next=>exact Wf q
 |ret v=>exact q
 |brk=>exact q
 |cont=>exact q
theorem Inv.quiet{Z0:VI (θ×Obj)}{Y:St}{H:Hp}{s:η}(I:Inv X Z0 Y H s):interactive X.env=false:=by simp[interactive,I.ok.kind]
def cM(te:TE):TS:=λD Y H=>te Y H λ_ H1=>D.nx Y H1
theorem Ml(he:PE X e te)(hs:swapsWith e none pos.line X.env=pure false:=by rfl):PS X (.Expr e pos) (cM te):=by
 intro Z0 s Y H D I h;exact wpAny_Expr_any (cT (he Z0 s Y H _ I h) λv s1 ⟨x,H1,I1,r1,q1⟩=>⟨Y,H1,I1,q1⟩) I.quiet hs
def bH(te:TE):TS:=λD Y H=>te Y H D.rt
theorem OZ(he:PE X e te):PS X (.Return (some e) pos) (bH te):=by
 intro Z0 s Y H D I h;exact wpAny_Return_some (cT (he Z0 s Y H _ I h) λv s1 ⟨x,H1,I1,r1,q1⟩=>⟨x,Y,H1,I1,r1,q1⟩)
def dD(c:TT)(t u:TS):TS:=λD Y H=>c Y H λb H1=>if b=true then t D Y H1 else u D Y H1
theorem Rj{c:γ}{a b:VI δ}{tc:TT}(hc:PT X c tc)(ha:Eg X a t)(hb:Eg X b u):PS X (.If c a b pos) (dD tc t u):=by
 intro Z0 s Y H D I h;refine wpAny_If (cT (hc Z0 s Y H _ I h) λd s1 ⟨H1,I1,q1⟩=>?_);cases d with
 |true=>exact ha Z0 s1 Y H1 D I1 q1
 |false=>exact hb Z0 s1 Y H1 D I1 q1
def yi:TS:=λ_ _ _=>False
theorem IG:PS X st yi:=λ_ _ _ _ _ _ h=>h.elim
end
abbrev TG:=V->St->Hp->(St->Hp->Prop)->Prop
abbrev L5:=VI V->St->Hp->(St->Hp->Prop)->Prop
def PG(X:Cx)(target:γ)(t:TG):Prop:=
 ∀(Z0:VI (θ×Obj)) (s:η) (Y:St) (H:Hp) (v:V) (u:ζ) (Q:St->Hp->Prop),Inv X Z0 Y H s->RelV v u->t v Y H Q->
  wpAny .(1) X.A (assign target X.env u) (λ_ s'=>∃σ' H',Inv X Z0 σ' H' s'/\Q σ' H') X.xe s
def Rk(X:Cx)(ts:VI γ)(t:L5):Prop:=
 ∀(Z0:VI (θ×Obj)) (s:η) (Y:St) (H:Hp) (vs:VI V) (us:VI ζ) (Q:St->Hp->Prop),Inv X Z0 Y H s->Vals vs us->t vs Y H Q->
  wpAny .(1) X.A (assignInOrder ((assignEach ts X.env).map (·.2)) us) (λ_ s'=>∃σ' H',Inv X Z0 σ' H' s'/\Q σ' H') X.xe s
abbrev Mn:=V->V->V->Hp->(Hp->Prop)->Prop
def O0(X:Cx)(t:Mn):Prop:=
 ∀(Z0:VI (θ×Obj)) (s:η) (Y:St) (H:Hp) (o i v:V) (ov iv u:ζ) (Q:Hp->Prop),Inv X Z0 Y H s->RelV o ov->RelV i iv->RelV v u->t o i v H Q->
  wpAny .(1) X.A (setItem ov iv u) (λ_ s'=>∃H',Inv X Z0 Y H' s'/\Q H') X.xe s
section
variable{X:Cx}{pos:Pos}
def aF(i:Nat):TG:=λv Y H Q=>Q (Y.set i (some v)) H
theorem tQ{i:Nat}{x:Str}(hN:X.N.Nodup)(hi:X.N[i]?=some x)(hx:Loc X.env.scope x)(hf:X.fn x=true\/X.env.scope.names.lookup x=some .local:=by first|exact .inl rfl|exact .inr rfl|assumption):PG X (.Name x pos) (aF i):=by
 intro Z0 s Y H v u Q I r h;exact Wy (Aw I hN hi hx r (λs' I'=>⟨_,H,I',h⟩) hf)
def uK:L5:=λvs Y H Q=>vs=[]/\Q Y H
def iA(t:TG)(u:L5):L5:=λvs Y H Q=>∃v r,vs=v::r/\t v Y H λσ' H'=>u r σ' H' Q
theorem Ei:Rk X [] uK:=by
 intro Z0 s Y H vs us Q I r h;obtain⟨e,h⟩:=h;subst e;cases r;exact assignInOrder_nil ⟨Y,H,I,h⟩
theorem uL{e:γ}{es:VI γ}{t:TG}{u:L5}(h1:PG X e t)(h2:Rk X es u)
  (hs:(assignEach (e::es) X.env).map (·.2)=assign e X.env::(assignEach es X.env).map (·.2):=by rfl):Rk X (e::es) (iA t u):=by
 intro Z0 s Y H vs us Q I r h;obtain⟨v,vr,e1,h⟩:=h;subst e1;cases r with
 |cons r rr=>
  rw[hs];refine assignInOrder_cons (cT (h1 Z0 s Y H _ _ _ I r h) λ_ s1 ⟨σ1,H1,I1,q1⟩=>?_);exact h2 Z0 s1 σ1 H1 _ _ Q I1 rr q1
def uM(K:W.Frag)(n:Nat)(t:L5):TG:=λv Y H Q=>∃a xs,v=.ref a/\fT K H a xs/\xs.length=n/\t xs Y H Q
theorem II{es:VI γ}{k:Nat}{t:L5}{n:Nat}(hc:X.calm=true)(h:Rk X es t)
  (hn:(assignEach es X.env).length=n:=by rfl) (Ya:(assignEach es X.env).findIdx? (·.1)=none:=by rfl):PG X (.Tuple es k pos) (uM X.K n t):=by
 intro Z0 s Y H v u Q I r hw;obtain⟨a,xs,e1,hq,hl,hw⟩:=hw;subst e1;cases r;obtain⟨XM,rv,ht,hz⟩:=I.tuple hq;refine assign_Tuple_tuple (I.ok.hd hc) ht (by simp[hn,<-hl,rv.length]) Ya λh' hx=>?_;have I1:Inv X Z0 Y H {s with heap:=h' }:=I.kept (t':=s.toks) λb o e=>hx b o (iq (dq e)) e
 exact h Z0 _ Y H xs _ Q I1 (by simpa using rv) hw
def GA(to ti:TE)(t:Mn):TG:=λv Y H Q=>to Y H λo H1=>ti Y H1 λi H2=>t o i v H2 λH3=>Q Y H3
theorem O3{o i:γ}{to ti:TE}{t:Mn}(ho:PE X o to)(hi:PE X i ti)(hs:O0 X t)
  (ha:∀v,assign (.Subscript o i pos) X.env v=(do
   let ov <-holding [v] (eval o X.env)
   let iv <-holding [v,ov] (eval i X.env)
   standAt pos
   holding [v,ov,iv] (setItem ov iv v)
   release [v,ov,iv] []):=by intro _;rfl):PG X (.Subscript o i pos) (GA to ti t):=by
 intro Z0 s Y H v u Q I r h;rw[ha];refine ae (me (cT (ho Z0 s Y H _ I h) λov s1 ⟨x,H1,I1,r1,q1⟩=>?_));refine ae (me (cT (hi Z0 s1 Y H1 _ I1 q1) λiv s2 ⟨y,H2,I2,r2,q2⟩=>?_));refine ae (V6 (ae (me (cT (hs Z0 s2 Y H2 x y v ov iv u _ I2 r1 r2 r q2) λ_ s3 ⟨H3,I3,q3⟩=>?_))));exact wpAny_release ⟨Y,H3,I3,q3⟩
def bh(te:TE)(g:TG):TS:=λD Y H=>te Y H λx H1=>g x Y H1 D.nx
theorem O4{tg e:γ}{te:TE}{g:TG}(he:PE X e te)(hg:PG X tg g)(hs:swapsWithSole [tg] e pos.line X.env=pure false:=by rfl)(hw:swappedStores [tg] e X.env=pure none:=by rfl)
  (h1:(assignEach [tg] X.env).map (·.2)=[assign tg X.env]:=by rfl):PS X (.Assign [tg] e pos) (bh te g):=by
 intro Z0 s Y H D I h;refine wpAny_Assign_stores (cT (he Z0 s Y H _ I h) λv s1 ⟨x,H1,I1,r1,q1⟩=>?_) hs hw;rw[h1];exact cT (hg Z0 s1 Y H1 x v _ I1 r1 q1) λ_ s2 q=>q
theorem IK{i:Nat}{x:Str}{e:γ}{te:TE}{pos':Pos}(hN:X.N.Nodup)(hi:X.N[i]?=some x)(hx:Loc X.env.scope x)(he:PE X e te)(hs:swapsWith e (some (.Name x pos')) pos.line X.env=pure false:=by rfl)(hf:X.fn x=true\/X.env.scope.names.lookup x=some .local:=by first|exact .inl rfl|exact .inr rfl|assumption):
  PS X (.Assign [.Name x pos'] e pos) (bh te (aF i)):=by
 intro Z0 s Y H D I h;refine wpAny_Assign_Name (cT (he Z0 s Y H _ I h) λv s1 ⟨y,H1,I1,r1,q1⟩=>?_) hs;exact Aw I1 hN hi hx r1 (λs2 I2=>⟨_,H1,I2,q1⟩) hf
end
section
variable{X:Cx}{pos:Pos}
def oj(c:TT)(tb:TS):TS:=λD Y H=>∃W:Nat->St->Hp->Prop,(∃m,W m Y H)/\∀m Y H,W m Y H->
 c Y H λb H1=>if b=true then ∃N:St->Hp->Prop,(∀σ' H',N σ' H'->∃m',m'<m/\W m' σ' H')/\tb {D with nx:=N,ct:=N,bk:=D.nx} Y H1 else D.nx Y H1
theorem IL{c:γ}{body:VI δ}{tc:TT}{tb:TS}(hp:PassesOwn .(1) X.A X.env X.xe)(hc:PT X c tc)(hb:Eg X body tb):PS X (.While c body [] pos) (oj tc tb):=by
 intro Z0 s Y H D I h;obtain⟨W,⟨m0,w0⟩,turn⟩:=h;refine wpAny_While (codeAny_whileLoop (λn s'=>∃σ' H',Inv X Z0 σ' H' s'/\W n σ' H') ?_ m0 ⟨Y,H,I,w0⟩);rintro n s1 ⟨σ1,H1,I1,w1⟩;refine zi hp (cT (hc Z0 s1 σ1 H1 _ I1 (turn n σ1 H1 w1)) λb s2 ⟨H2,I2,q2⟩=>?_);cases b with
 |true=>
  obtain⟨N,hN,q2⟩:=q2;rw[df rfl];refine zi hp (cT (hb Z0 s2 σ1 H2 _ I2 q2) λf s3 q3=>?_);cases f with
  |next=>
   obtain⟨σ3,H3,I3,n3⟩:=q3;obtain⟨m',hm,w3⟩:=hN σ3 H3 n3;exact⟨m',hm,σ3,H3,I3,w3⟩
  |cont=>
   obtain⟨σ3,H3,I3,n3⟩:=q3;obtain⟨m',hm,w3⟩:=hN σ3 H3 n3;exact⟨m',hm,σ3,H3,I3,w3⟩
  |brk=>exact q3
  |ret v=>exact q3
 |false=>
  rw[cq fb];exact Wf ⟨σ1,H2,I2,q2⟩
end
structure It where
 go:Nat->Hp->Prop
 yld:Nat->Hp->V->Hp->Prop
 stop:Nat->Hp->Prop
def uN(X:Cx)(Z0:VI (θ×Obj))(H:Hp)(b:θ):Prop:=
 H b=none/\b≠X.env.locals/\b∉X.fs/\(b∈X.ex\/X.s₀.heap.objs.size<=b)/\(∀x c,X.env.cells.lookup x=some c->c≠b)/\∀p∈X.pn++Z0,p.1≠b
theorem Inv.Mp{X:Cx}{Z0:VI (θ×Obj)}{Y:St}{H H':Hp}{s:η}{b:θ}(I:Inv X Z0 Y H s)(hb:s.heap.objs.size<=b)(hn:H' b=none):uN X Z0 H' b:=by
 refine⟨hn,VM (ip I.lt hb),I.OO hb,.inr (eJ I.sz hb),λx c e z=>?_,λp hp z=>?_⟩
 .obtain⟨v,q⟩:=I.cell x c e;exact absurd (ip q.lt (by rw[z];exact hb)) (oC _)
 .exact absurd (ip (dq (I.pin p hp).1) (by rw[z];exact hb)) (oC _)
structure Turn(P:ι)(w:ν)(K:W.Frag)(tg:γ)(J:It)(fp:VI θ)(it:θ)(tn:Nat->ε->Prop):Prop where
 mem:it∈fp
 obj:∀i h,tn i h->∀b∈fp,∃o,h.get? b=some o/\∀v,o.data≠.cell v
 keep:∀i h h',tn i h->(∀b∈fp,∀o,h.get? b=some o->h'.get? b=some o)->tn i h'
 item:∀(X:Cx),X.prog=P->X.w=w->X.K=K->X.calm=true->∀(i:Nat) (Z0:VI (θ×Obj)) (s:η) (Y:St) (H:Hp) (E:ζ->η->Prop),Inv X Z0 Y H s->(∀b∈fp,uN X Z0 H b)->tn i s.heap->J.go i H->
  wpAny (model P w) X.A (pyNext (.ref it)) (λr s1=>∃u,r=some u/\
   wpAny (model P w) X.A (letOwnedTupleGo tg (.ref it) u) (λ_ s2=>∃x H',Inv X Z0 Y H' s2/\RelV x u/\J.yld i H x H'/\tn (i+1) s2.heap/\∀b∈fp,H' b=none) E s1) E s
 done:∀(X:Cx),X.prog=P->X.w=w->X.K=K->X.calm=true->∀(i:Nat) (Z0:VI (θ×Obj)) (s:η) (Y:St) (H:Hp) (E:ζ->η->Prop),Inv X Z0 Y H s->(∀b∈fp,uN X Z0 H b)->tn i s.heap->J.stop i H->
  wpAny (model P w) X.A (pyNext (.ref it)) (λr s1=>r=none/\Inv X Z0 Y H s1) E s
 self:∀(A:ξ) (i:Nat) (s:η) (Q:ζ->η->Prop) (E:ζ->η->Prop),tn i s.heap->Q (.ref it) s->wpAny (model P w) A (pyIter (.ref it)) Q E s
abbrev TI:=St->Hp->(It->Hp->Prop)->Prop
def Vi(X:Cx)(Z0:VI (θ×Obj))(Y:St)(tg:γ)(R:It->Hp->Prop)(itv:ζ)(s2:η):Prop:=
 ∃(it:θ) (fp:VI θ) (tn:Nat->ε->Prop) (J:It) (H':Hp),itv=.ref it/\Inv X Z0 Y H' s2/\Turn X.prog X.w X.K tg J fp it tn/\tn 0 s2.heap/\(∀b∈fp,uN X Z0 H' b)/\R J H'
def PI(X:Cx)(tg iter:γ)(wi:TI):Prop:=
 ∀(Z0:VI (θ×Obj)) (s:η) (Y:St) (H:Hp) (R:It->Hp->Prop),Inv X Z0 Y H s->wi Y H R->
  wpAny .(1) X.A (eval iter X.env) (λv s1=>wpAny .(1) X.A (pyIter v) (Vi X Z0 Y tg R) X.xe s1) X.xe s
theorem Ej{M:Model}{A:ξ}{E:ζ->η->Prop}{s:η}{tg:γ}{it:θ}{u:ζ}{o:Obj}{n:String}{vs:Array ζ}{Q:Unit->η->Prop}(ho:s.heap.get? it=some o)(hc:o.cls=.type n)(hd:o.data=.fields vs)
  (hn:["enumerate", "zip", "dict_itemiterator", "dict_reverseitemiterator", "odict_iterator", "itertools.zip_longest", "itertools.pairwise"].contains n=false) (hQ:Q () s):wpAny M A (letOwnedTupleGo tg (.ref it) u) Q E s:=by
 unfold letOwnedTupleGo;cases tg<;>first
  |exact bj hQ
  |(cases u<;>first
    |exact bj hQ
    |(refine ae (Xi ho ?_)
      rw[hc,hd];show wpAny M A (if (["enumerate", "zip", "dict_itemiterator", "dict_reverseitemiterator", "odict_iterator", "itertools.zip_longest", "itertools.pairwise"].contains n&&vs[0]?==some (rawInt _))=true then _ else _) Q E s
      rw[cq (by intro h;rw[hn,Bool.false_and] at h;cases h)];exact bj hQ))
def Od(K:W.Frag)(a:θ):It:=
 ⟨λi H=>∃xs x,bw K H a xs/\xs[i]?=some x,λi H x H'=>H'=H/\∀xs,bw K H a xs->xs[i]?=some x,λi H=>∃xs,bw K H a xs/\xs.length<=i⟩
def L6(lo:Int)(n:Nat):It:=⟨λi _=>i<n,λi H x H'=>H'=H/\x=.int (lo+i),λi _=>n<=i⟩
theorem GB{P:ι}{w:ν}{K:W.Frag}{tg:γ}(a it:θ):Turn P w K tg (Od K a) [it] it (λi h=>h.IsListIter it a i) where
 mem:=by simp
 obj:=λi h st b hb=>by
  have e:b=it:=by simpa using hb
  subst e;obtain⟨o,e,c,d⟩:=st;exact⟨o,e,λv z=>by rw[d] at z;cases z⟩
 keep:=λi h h' st k=>st.at λo e=>k it .(4) o e
 item:=by
  intro X hP hw hK hc i Z0 s Y H E I hf st hg;subst hP hw hK;obtain⟨xs,x,hq,hx⟩:=hg;obtain⟨XM,rv,p,hz⟩:=I.list hq;obtain⟨u,hu,ru⟩:=rv.get hx;obtain⟨f0,f1,f2,f3,f4,f5⟩:=hf it .(4);refine wpAny_pyNext_list_item st p.isList (x:=u) (by simpa using hu) λh' X8 sb=>?_;have I1:Inv X Z0 Y H {s with heap:=h' }:=I.turned (t':=s.toks) (λb o hb e=>(sb.2 b hb).trans e) f0 f1 f3 f4 f5
  obtain⟨o,e,c,d⟩:=id X8;exact⟨u,rfl,Ej (s:={s with heap:=h' }) e c d .(0) ⟨x,H,I1,ru,⟨rfl,λys hy=>by rw[I.IE hy hq];exact hx⟩,X8,λb hb=>(hf b hb).1⟩⟩
 done:=by
  intro X hP hw hK hc i Z0 s Y H E I hf st hg;subst hP hw hK;obtain⟨xs,hq,hx⟩:=hg;obtain⟨XM,rv,p,hz⟩:=I.list hq;obtain⟨f0,f1,f2,f3,f4,f5⟩:=hf it .(4);have hl:=rv.length;exact wpAny_pyNext_list_end (I.ok.hd hc) st p.isList (by simp;lia) λh' eb=>⟨rfl,I.turned (t':=s.toks) (λb o hb e=>eb b o hb e) f0 f1 f3 f4 f5⟩
 self:=λ_ _ _ _ _ st h=>wpAny_pyIter_listiter st h
theorem Co{P:ι}{w:ν}{K:PySem.W.Frag}{tg:γ}(it:θ)(lo:Int)(n:Nat):Turn P w K tg (L6 lo n) [it] it (λi h=>IsRangeIter h it (lo+(i:Nat)*1) ((n:Int)-(i:Nat)) 1) where
 mem:=by simp
 obj:=λi h st b hb=>by
  have e:b=it:=by simpa using hb
  subst e;exact⟨_,st,λv z=>by
   have z':Data.fields _=Data.cell v:=z;cases z'⟩
 keep:=λi h h' st k=>k it .(4) _ st
 item:=by
  intro X hP hw hK hc i Z0 s Y H E I hf st hg;subst hP hw hK;obtain⟨f0,f1,f2,f3,f4,f5⟩:=hf it .(4);have W:=Walks.range (prog:=X.prog) (w:=X.w) (I.ok.hd hc) it lo 1 n;refine W.item i s _ _ hg st λv h' tk hv X8 kk=>?_;obtain⟨t,rfl⟩:=hv;have I1:Inv X Z0 Y H {s with heap:=h',toks:=tk}:=I.turned (λb o hb e=>kk b o (by simpa using hb) e) f0 f1 f3 f4 f5
  refine⟨_,rfl,Ej (s:={s with heap:=h',toks:=tk}) (n:="range_iterator") X8 rfl rfl .(0) ⟨.int (lo+i),H,I1,⟨t,?_⟩,⟨rfl,rfl⟩,X8,λb hb=>(hf b hb).1⟩⟩;rw[Int.mul_one]
 done:=by
  intro X hP hw hK hc i Z0 s Y H E I hf st hg;subst hP hw hK;obtain⟨f0,f1,f2,f3,f4,f5⟩:=hf it .(4);exact wpAny_pyNext_range_end (I.ok.hd hc) st (by have:n<=i:=hg;lia) λh' eb=>⟨rfl,I.turned (t':=s.toks) (λb o hb e=>eb b o hb e) f0 f1 f3 f4 f5⟩
 self:=λ_ _ _ _ _ st h=>wpAny_pyIter_rangeiter st h
section
variable{X:Cx}{tg:γ}
def cD(K:W.Frag)(tl:TE):TI:=λY H R=>tl Y H λx H1=>∃a,x=.ref a/\(∃xs,bw K H1 a xs)/\R (Od K a) H1
theorem Mr{l:γ}{tl:TE}(hl:PE X l tl):PI X tg l (cD X.K tl):=by
 intro Z0 s Y H R I h;refine cT (hl Z0 s Y H _ I h) λv s1 ⟨x,H1,I1,r1,q1⟩=>?_;obtain⟨a,e,⟨xs,hq⟩,q⟩:=q1;subst e;cases r1;obtain⟨XM,rv,p,hz⟩:=I1.list hq;refine Kb p.isList ?_;refine⟨s1.heap.objs.size,[s1.heap.objs.size],_,_,H1,rfl,I1.kept (t':=s1.toks) λb o e=>ba _ e,GB a _,⟨_,cx _ rfl,rfl,rfl⟩,λb hb=>?_,q⟩;have e:b=s1.heap.objs.size:=by simpa using hb
 subst e;exact I1.Mp (bb _) (I1.hok.fresh (bb _))
theorem Az{Z0:VI (θ×Obj)}{Y:St}{H:Hp}{s:η}{R:It->Hp->Prop}{E:ζ->η->Prop}{lo hi:Int}{t u v:Tok}{tk:Nat}(I:Inv X Z0 Y H s)(h1:-(2^62)<=lo)(h2:lo<2^62)(h3:-(2^62)<=hi)(h4:hi<2^62)
  (q:R (L6 lo (hi-lo).toNat) H):wpAny .(1) X.A (pyIter (.ref s.heap.objs.size)) (Vi X Z0 Y tg R) E {s with heap:=s.heap.push {cls:=.type "range",data:=.fields #[.int lo t,.int hi u,.int 1 v] },toks:=tk}:=by
 refine wpAny_pyIter_range (IsRange.new ..) (small_one h1 h2 h3 h4) ?_;have I1:Inv X Z0 Y H {s with heap:=s.heap.push {cls:=.type "range",data:=.fields #[.int lo t,.int hi u,.int 1 v] },toks:=tk}:=I.kept λb o e=>ba _ e
 refine⟨(s.heap.push {cls:=.type "range",data:=.fields #[.int lo t,.int hi u,.int 1 v] }).objs.size,[(s.heap.push {cls:=.type "range",data:=.fields #[.int lo t,.int hi u,.int 1 v] }).objs.size],_,_,H,rfl,
  I1.kept (t':=tk) λb o e=>ba _ e,Co _ lo (hi-lo).toNat,?_,λb hb=>?_,q⟩
 .have e1:lo+((0:Nat):Int)*1=lo:=by simp
  have e2:(((hi-lo).toNat:Nat):Int)-((0:Nat):Int)=Builtin.Range.rangeSize lo hi 1:=by rw[rangeSize_one];split<;>lia
  show IsRangeIter _ _ (lo+((0:Nat):Int)*1) ((((hi-lo).toNat:Nat):Int)-((0:Nat):Int)) 1;rw[e1,e2];exact cx _ rfl
 .have e:b=(s.heap.push {cls:=.type "range",data:=.fields #[.int lo t,.int hi u,.int 1 v] }).objs.size:=by simpa using hb
  subst e;exact I1.Mp (bb _) (I1.hok.fresh (bb _))
def g6(ta:TA):TI:=λY H R=>ta Y H λvs H1=>∃j:Int,vs=[.int j]/\-(2^62)<=j/\j<2^62/\R (L6 0 j.toNat) H1
def xw(ta:TA):TI:=λY H R=>ta Y H λvs H1=>∃i j:Int,vs=[.int i,.int j]/\(-(2^62)<=i/\i<2^62/\-(2^62)<=j/\j<2^62)/\R (L6 i (j-i).toNat) H1
theorem GC{a:γ}{ta:TA}{p pos:Pos}(hg:Gl X "range")(hm:X.mg "range" =none)(ha:PA X [a] ta)(hs:starEach [a] X.env=[(false,eval a X.env)]:=by rfl):PI X tg (.Call (.Name "range" p) [a] [] pos) (g6 ta):=by
 intro Z0 s Y H R I h;refine Call_ (n9 I hg hm boot_range (tJ (cT (ha pos Z0 s Y H _ I h) λus s1 ⟨vs,H1,I1,r1,q1⟩=>?_) hs rfl));obtain⟨j,e,q1,q2,q⟩:=q1;subst e;cases r1 with
 |cons r rr=>
  cases rr;obtain⟨t,rfl⟩:=r;exact call_range_1 (Az I1 ⋯ ⋯ q1 q2 (by simpa using q))
theorem GD{a b:γ}{ta:TA}{p pos:Pos}(hg:Gl X "range")(hm:X.mg "range" =none)(ha:PA X [a,b] ta)(hs:starEach [a,b] X.env=[(false,eval a X.env),(false,eval b X.env)]:=by rfl)(YV:starEach [b] X.env=[(false,eval b X.env)]:=by rfl):
  PI X tg (.Call (.Name "range" p) [a,b] [] pos) (xw ta):=by
 intro Z0 s Y H R I h;refine Call_ (n9 I hg hm boot_range (tJ (cT (ha pos Z0 s Y H _ I h) λus s1 ⟨vs,H1,I1,r1,q1⟩=>?_) (by rw[hs,YV]) (by rw[YV];rfl)));obtain⟨i,j,e,⟨q1,q2,q3,q4⟩,q⟩:=q1;subst e;cases r1 with
 |cons r rr=>
  cases rr with
  |cons r' rr=>
   cases rr;obtain⟨t,rfl⟩:=r;obtain⟨t',rfl⟩:=r';exact call_range_2 (Az I1 q1 q2 q3 q4 q)
def g7(wi:TI)(g:TG)(tb:TS):TS:=λD Y H=>wi Y H λJ H1=>∃W:Nat->Nat->St->Hp->Prop,(∃m,W 0 m Y H1)/\∀i m Y H,W i m Y H->
 (J.stop i H/\D.nx Y H)\/(J.go i H/\∃N:St->Hp->Prop,(∀σ' H',N σ' H'->∃m',m'<m/\W (i+1) m' σ' H')/\∀x H',J.yld i H x H'->g x Y H' λσ2 H2=>tb {D with nx:=N,ct:=N,bk:=D.nx} σ2 H2)
def qG(fp:VI θ)(h:ε):VI (θ×Obj):=fp.filterMap λb=>(h.get? b).map λo=>(b,o)
theorem gH{fp:VI θ}{h:ε}{b:θ}{o:Obj}(hb:b∈fp)(e:h.get? b=some o):(b,o)∈qG fp h:=Gc.mpr ⟨b,hb,by rw[e];rfl⟩
theorem GF{fp:VI θ}{h:ε}{p:θ×Obj}(hp:p∈qG fp h):p.1∈fp/\h.get? p.1=some p.2:=by
 obtain⟨b,hb,e⟩:=Gc.mp hp;cases q:h.get? b with
 |none=>rw[q] at e;cases e
 |some o=>
  rw[q] at e;have e':(b,o)=p:=eI e;subst e';exact⟨hb,q⟩
theorem Inv.pinned{Z0:VI (θ×Obj)}{Y:St}{H:Hp}{s:η}{fp:VI θ}(I:Inv X Z0 Y H s)(hf:∀b∈fp,uN X Z0 H b)(ho:∀b∈fp,∃o,s.heap.get? b=some o/\∀v,o.data≠.cell v):Inv X (Z0++qG fp s.heap) Y H s:=
 I.mj λp hp=>(eP.mp hp).elim (λz=>I.pin p (dC _ z)) λz=>by
  obtain⟨hb,e⟩:=GF z;obtain⟨f0,f1,f2,_⟩:=hf p.1 hb;obtain⟨o,e',d⟩:=ho p.1 hb;rw[e] at e';cases e';exact⟨e,f0,f1,f2,d⟩
theorem Inv.uO{Z0 pl:VI (θ×Obj)}{Y:St}{H:Hp}{s:η}(I:Inv X (Z0++pl) Y H s):Inv X Z0 Y H s:=I.mj λp hp=>I.pin p (dC _ (hU _ hp))
theorem O5{iter:γ}{body:VI δ}{wi:TI}{g:TG}{tb:TS}{pos:Pos}(hp:PassesOwn .(1) X.A X.env X.xe)(hc:X.calm=true)(hi:PI X tg iter wi)(hg:PG X tg g)(hb:Eg X body tb)
  (hs:∀x,foldedSetIterable iter X.env x=pure x:=by intro _;rfl):PS X (.For tg iter body [] pos) (g7 wi g tb):=by
 intro Z0 s Y H D I h;refine wpAny_For (cT (hi Z0 s Y H _ I h) λv s1 h1=>cT h1 λitv s2 h2=>?_) hs;obtain⟨it,fp,tn,J,H2,e,I2,T,Yw,f2,W,⟨m0,w0⟩,turn⟩:=h2;subst e
 -- what stays true of ZA iterator's objects through ZA loop
 have uP:∀{H':Hp},(∀b∈fp,H' b=none)->∀b∈fp,uN X Z0 H' b:=λhn b hb=>⟨hn b hb,(f2 b hb).2⟩;refine codeAny_forLoop_any (λn s'=>∃i σ' H',Inv X Z0 σ' H' s'/\tn i s'.heap/\(∀b∈fp,H' b=none)/\W i n σ' H') ?_ m0 ⟨0,Y,H2,I2,Yw,λb hb=>(f2 b hb).1,w0⟩;rintro n s3 ⟨i,σ3,H3,I3,Z1,Z2,w3⟩
 rcases turn i n σ3 H3 w3 with⟨stop,qn⟩|⟨go,N,hN,step⟩
 .refine zi hp (cT (T.done X rfl rfl rfl hc i Z0 s3 σ3 H3 X.xe I3 (uP Z2) Z1 stop) λr s4 ⟨hr,I4⟩=>?_);subst hr;exact Wf ⟨σ3,H3,I4,qn⟩
 .refine zi hp (cT (T.item X rfl rfl rfl hc i Z0 s3 σ3 H3 X.xe I3 (uP Z2) Z1 go) λr s4 ⟨u,hr,h4⟩=>?_);subst hr;refine zi hp (cT h4 λ_ s5 ⟨x,H5,I5,r5,y5,YZ,fr5⟩=>?_);have I5':=I5.pinned (uP fr5) (T.obj _ _ YZ);refine zi hp (cT (hg _ s5 σ3 H5 x u _ I5' r5 (step x H5 y5)) λ_ s6 ⟨σ6,H6,I6,q6⟩=>?_);refine zi hp (cT (hb _ s6 σ6 H6 _ I6 q6) λf s7 q7=>?_);have again:∀{σ7:St} {H7:Hp},Inv X (Z0++qG fp s5.heap) σ7 H7 s7->N σ7 H7->∃m,m<n/\∃i σ' H',Inv X Z0 σ' H' s7/\tn i s7.heap/\(∀b∈fp,H' b=none)/\W i m σ' H':=λ{σ7 H7} I7 n7=>by
   obtain⟨m',hm,w7⟩:=hN σ7 H7 n7;refine⟨m',hm,i+1,σ7,H7,I7.uO,T.keep _ _ _ YZ λb hb o e=>(I7.pin (b,o) (dC _ (dC _ (gH hb e)))).1,λb hb=>?_,w7⟩;obtain⟨o,e,d⟩:=T.obj _ _ YZ b hb;exact(I7.pin (b,o) (dC _ (dC _ (gH hb e)))).2.1
  cases f with
  |next=>obtain⟨σ7,H7,I7,n7⟩:=q7;exact again I7 n7
  |cont=>obtain⟨σ7,H7,I7,n7⟩:=q7;exact again I7 n7
  |brk=>obtain⟨σ7,H7,I7,q7⟩:=q7;exact⟨σ7,H7,I7.uO,q7⟩
  |ret v=>obtain⟨x7,σ7,H7,I7,r7,q7⟩:=q7;exact⟨x7,σ7,H7,I7.uO,r7,q7⟩
end
theorem IM{K:PySem.W.Frag}{a:θ}{xs:VI V}{g:TG}{tb:TS}{D:Ends}{Y:St}{H:Hp}(Pv:Nat->St->Hp->Prop)(h0:Pv 0 Y H)(hl:∀i Y H,i<=xs.length->Pv i Y H->bw K H a xs)
  (hs:∀i x Y H,xs[i]?=some x->Pv i Y H->g x Y H λσ2 H2=>tb {D with nx:=Pv (i+1),ct:=Pv (i+1),bk:=D.nx} σ2 H2) (hd:∀Y H,Pv xs.length Y H->D.nx Y H):
  ∃W:Nat->Nat->St->Hp->Prop,(∃m,W 0 m Y H)/\∀i m Y H,W i m Y H->
   ((Od K a).stop i H/\D.nx Y H)\/((Od K a).go i H/\∃N:St->Hp->Prop,(∀σ' H',N σ' H'->∃m',m'<m/\W (i+1) m' σ' H')/\∀x H',(Od K a).yld i H x H'->g x Y H' λσ2 H2=>tb {D with nx:=N,ct:=N,bk:=D.nx} σ2 H2):=by
 refine⟨λi m Y H=>m=xs.length-i/\i<=xs.length/\Pv i Y H,⟨xs.length,by simp,mi _,h0⟩,?_⟩;rintro i m Y H ⟨rfl,hi,p⟩;have q:=hl i Y H hi p
 by_cases XZ:i<xs.length
 .refine .inr ⟨⟨xs,xs[i],q,by simp[XZ]⟩,Pv (i+1),λσ' H' p'=>⟨xs.length-(i+1),by lia,rfl,XZ,p'⟩,λx H' y=>?_⟩;obtain⟨e,y⟩:=y;subst e;exact hs i x Y _ (y xs q) p
 .have e:i=xs.length:=by lia
  subst e;exact .inl ⟨⟨xs,q,bb _⟩,hd Y H p⟩
theorem qH{lo:Int}{n:Nat}{g:TG}{tb:TS}{D:Ends}{Y:St}{H:Hp}(Pv:Nat->St->Hp->Prop)(h0:Pv 0 Y H)
  (hs:∀i Y H,i<n->Pv i Y H->g (.int (lo+i)) Y H λσ2 H2=>tb {D with nx:=Pv (i+1),ct:=Pv (i+1),bk:=D.nx} σ2 H2) (hd:∀Y H,Pv n Y H->D.nx Y H):
  ∃W:Nat->Nat->St->Hp->Prop,(∃m,W 0 m Y H)/\∀i m Y H,W i m Y H->
   ((L6 lo n).stop i H/\D.nx Y H)\/((L6 lo n).go i H/\∃N:St->Hp->Prop,(∀σ' H',N σ' H'->∃m',m'<m/\W (i+1) m' σ' H')/\∀x H',(L6 lo n).yld i H x H'->g x Y H' λσ2 H2=>tb {D with nx:=N,ct:=N,bk:=D.nx} σ2 H2):=by
 refine⟨λi m Y H=>m=n-i/\i<=n/\Pv i Y H,⟨n,by simp,mi _,h0⟩,?_⟩;rintro i m Y H ⟨rfl,hi,p⟩
 by_cases XZ:i<n
 .refine .inr ⟨XZ,Pv (i+1),λσ' H' p'=>⟨n-(i+1),by lia,rfl,XZ,p'⟩,λx H' y=>?_⟩;obtain⟨e,y⟩:=y;subst e y;exact hs i Y _ XZ p
 .have e:i=n:=by lia
  subst e;exact .inl ⟨bb _,hd Y H p⟩
abbrev R2:=V->V->Hp->VK->Prop
def om(X:Cx)(f:ζ->ζ->Sem ζ)(r:R2):Prop:=
 ∀(Z0:VI (θ×Obj)) (s:η) (Y:St) (H:Hp) (x y:V) (v u:ζ) (Q:VK),Inv X Z0 Y H s->RelV x v->RelV y u->r x y H Q->
  wpAny .(1) X.A (f v u) (EP X Z0 Y Q) X.xe s
def fj(X:Cx)(f:ζ)(r:VI V->Hp->VK->Prop):Prop:=
 ∀(Z0:VI (θ×Obj)) (s:η) (Y:St) (H:Hp) (xs:VI V) (us:VI ζ) (Q:VK),Inv X Z0 Y H s->Vals xs us->r xs H Q->
  wpAny .(1) X.A (call f us) (EP X Z0 Y Q) X.xe s
def aT(r:R2)(ta tb:TE):TE:=λY H Q=>ta Y H λx H1=>tb Y H1 λy H2=>r x y H2 Q
def rI(C:Int->Int->Prop)(g:Int->Int->V):R2:=λx y H Q=>Cn x λi=>Cn y λj=>C i j/\Q (g i j) H
def Cj(g:Int->Int->V):R2:=λx y H Q=>Cn x λi=>Cn y λj=>Q (g i j) H
section
variable{X:Cx}{a b c:γ}{ta tb tc:TE}{pos:Pos}
theorem O6(ha:PE X a ta)(hb:PE X b tb){Z0:VI (θ×Obj)}{s:η}{Y:St}{H:Hp}{R:V->V->Hp->Prop}(I:Inv X Z0 Y H s)
  (h:ta Y H λx H1=>tb Y H1 λy H2=>R x y H2) {Q:ζ->η->Prop} {f:ζ->ζ->Sem ζ}
  (hf:∀v u s2 x y H2,Inv X Z0 Y H2 s2->RelV x v->RelV y u->R x y H2->wpAny .(1) X.A (f v u) Q X.xe s2):
  wpAny .(1) X.A (eval a X.env) (λv s₁=>wpAny .(1) X.A (eval b X.env) (λu c4=>wpAny .(1) X.A (f v u) Q X.xe c4) X.xe s₁) X.xe s:=by
 refine cT (ha Z0 s Y H _ I h) λv s1 ⟨x,H1,I1,r1,q1⟩=>?_;refine cT (hb Z0 s1 Y H1 _ I1 q1) λu s2 ⟨y,H2,I2,r2,q2⟩=>?_;exact hf v u s2 x y H2 I2 r1 r2 q2
theorem Rn{op:Operator}{r:R2}(ho:om X (binaryOp op) r)(ha:PE X a ta)(hb:PE X b tb):PE X (.BinOp a op b pos) (aT r ta tb):=by
 intro Z0 s Y H Q I h;exact wpAny_BinOp (O6 ha hb I h λv u s2 x y H2 I2 rx ry q=>ho Z0 s2 Y H2 x y v u Q I2 rx ry q)
theorem Uc{f:ζ->ζ->Sem ζ}{C:Int->Int->Prop}{g:Int->Int->Int}
  (rule:∀(i j:Int) (t u:Tok) (s:η) (Q:ζ->η->Prop) (E:ζ->η->Prop),C i j->Q (.int (g i j) s.toks) {s with toks:=s.toks+1}->wpAny .(1) X.A (f (.int i t) (.int j u)) Q E s):
  om X f (rI C λi j=>.int (g i j)):=by
 intro Z0 s Y H x y v u Q I rx ry h;obtain⟨i,rfl,h2⟩:=mw h;obtain⟨j,rfl,hc,q⟩:=mw h2;obtain⟨t,rfl⟩:=rx;obtain⟨t',rfl⟩:=ry;exact rule i j t t' s _ _ hc ⟨.int (g i j),H,I.tok _,⟨_,rfl⟩,q⟩
theorem Ro{f:ζ->ζ->Sem ζ}{g:Int->Int->Int}
  (rule:∀(i j:Int) (t u:Tok) (s:η) (Q:ζ->η->Prop) (E:ζ->η->Prop),Q (.int (g i j) s.toks) {s with toks:=s.toks+1}->wpAny .(1) X.A (f (.int i t) (.int j u)) Q E s):
  om X f (Cj λi j=>.int (g i j)):=by
 intro Z0 s Y H x y v u Q I rx ry h;obtain⟨i,rfl,h2⟩:=mw h;obtain⟨j,rfl,q⟩:=mw h2;obtain⟨t,rfl⟩:=rx;obtain⟨t',rfl⟩:=ry;exact rule i j t t' s _ _ ⟨.int (g i j),H,I.tok _,⟨_,rfl⟩,q⟩
theorem Ms{f:ζ->ζ->Sem ζ}{g:Int->Int->Bool}
  (rule:∀(i j:Int) (t u:Tok) (s:η) (Q:ζ->η->Prop) (E:ζ->η->Prop),Q (.bool (g i j)) s->wpAny .(1) X.A (f (.int i t) (.int j u)) Q E s):
  om X f (Cj λi j=>.bl (g i j)):=by
 intro Z0 s Y H x y v u Q I rx ry h;obtain⟨i,rfl,h2⟩:=mw h;obtain⟨j,rfl,q⟩:=mw h2;obtain⟨t,rfl⟩:=rx;obtain⟨t',rfl⟩:=ry;exact rule i j t t' s _ _ ⟨.bl (g i j),H,I,rfl,q⟩
def Mt(i j:Int):Prop:=0<j/\j<1073741824
def O7(i j:Int):Prop:=(-(2^64)<i/\i<2^64)\/(-(2^64)<j/\j<2^64)
theorem O7.ok{i j:Int}(h:O7 i j):IntMulOk i j:=by
 rcases h with⟨h1,h2⟩|⟨h1,h2⟩
 .exact .of_left (intBits_le_64 h1 h2)
 .exact .of_right (intBits_le_64 h1 h2)
theorem Cp(k:Nat):(0:Int)<=2^k:=by
 rw[two_pow_cast];exact rh _
theorem bO:om X (binaryOp .Add) (Cj λi j=>.int (i+j)):=Ro λ_ _ _ _ _ _ _ q=>add_int q
theorem gq:om X (binaryOp .Sub) (Cj λi j=>.int (i-j)):=Ro λ_ _ _ _ _ _ _ q=>sub_int q
theorem gQ:om X (binaryOp .FloorDiv) (rI Mt λi j=>.int (i/j)):=Uc λi j _ _ _ _ _ hc q=>by
 have h1:(0:Int)<j:=hc.1;have h2:j<1073741824:=hc.2;exact floordiv_int ⋯ (by rw[Wq i ⋯];exact q) (.inl (PyProof.noPylong_small ⋯))
theorem gi:om X (binaryOp .Mod) (rI (λ_ j=>0<j) λi j=>.int (i%j)):=Uc λi j _ _ _ _ _ hc q=>by
 have h1:(0:Int)<j:=hc;exact mod_int' ⋯ (by rw[Int.fmod_eq_emod_of_nonneg i ⋯];exact q)
theorem O8:om X (binaryOp .RShift) (rI (λ_ j=>0<=j) λi j=>.int (i/2^j.toNat)):=Uc λi j _ _ _ _ _ hc q=>
 rshift_int hc (by rw[Wq i (Cp _)];exact q)
end
def Rp:V->V->Bool
 |.non,.non=>true |.non,.int _=>true |.int _,.non=>true |.non,.bl _=>true |.bl _,.non=>true |.non,.str _=>true |.str _,.non=>true
 |.int _,.int _=>true |.bl _,.bl _=>true |.str _,.str _=>true |.byt _,.byt _=>true
 |.int _,.str _=>true |.str _,.int _=>true |.bl _,.str _=>true |.str _,.bl _=>true
 |_,_=>false
def GG:R2:=λx y H Q=>Rp x y=true/\Q (.bl (decide (x=y))) H
def IP:R2:=λx y H Q=>Rp x y=true/\Q (.bl (!decide (x=y))) H
theorem Ek{i j:Int}:decide (V.int i=V.int j)=(i==j):=by
 rw[SU];simp
theorem IQ{i j:Bool}:decide (V.bl i=V.bl j)=(i==j):=by
 rw[SU];simp
theorem Em{i j:Str}:decide (V.str i=V.str j)=(i==j):=by
 rw[SU];simp
theorem En{i j:Array UInt8}:decide (V.byt i=V.byt j)=(i.toList==j.toList):=by
 rw[SU];cases i;cases j;simp
section
variable{X:Cx}{a b c:γ}{ta tb tc:TE}{pos:Pos}
theorem bP{Z0:VI (θ×Obj)}{Y:St}{H:Hp}{s:η}{Q:VK}{k k':Bool}(I:Inv X Z0 Y H s)(q:Q (.bl k) H)(e:k=k'):EP X Z0 Y Q (.bool k') s:=by
 subst e;exact⟨.bl k,H,I,rfl,q⟩
theorem nL:om X (compareOp .Eq) GG:=by
 intro Z0 s Y H x y v u Q I rx ry h;obtain⟨hs,q⟩:=h;cases x with
 |non=>
  cases rx;cases y with
  |non=>cases ry;exact PySem.EqNone.eq_none_none (bP I q .(4))
  |bl j=>cases ry;exact PySem.EqNone.eq_none_bool (bP I q .(4))
  |int j=>obtain⟨t',rfl⟩:=ry;exact PySem.EqNone.eq_none_int (bP I q .(4))
  |str j=>obtain⟨t',rfl⟩:=ry;exact PySem.EqNone.eq_none_str (bP I q .(4))
  |_=>exact absurd (show false=true from hs) fb
 |bl i=>
  cases rx;cases y with
  |non=>cases ry;exact PySem.EqNone.eq_bool_none (bP I q .(4))
  |bl j=>cases ry;exact eq_bool (bP I q IQ)
  |str j=>obtain⟨t',rfl⟩:=ry;exact PySem.EqMixed.eq_bool_str (bP I q .(4))
  |_=>exact absurd (show false=true from hs) fb
 |int i=>
  obtain⟨t,rfl⟩:=rx;cases y with
  |non=>cases ry;exact PySem.EqNone.eq_int_none (bP I q .(4))
  |int j=>obtain⟨t',rfl⟩:=ry;exact eq_int (bP I q Ek)
  |str j=>obtain⟨t',rfl⟩:=ry;exact PySem.EqMixed.eq_int_str (bP I q .(4))
  |_=>exact absurd (show false=true from hs) fb
 |str i=>
  obtain⟨t,rfl⟩:=rx;cases y with
  |non=>cases ry;exact PySem.EqNone.eq_str_none (bP I q .(4))
  |bl j=>cases ry;exact PySem.EqMixed.eq_str_bool (bP I q .(4))
  |int j=>obtain⟨t',rfl⟩:=ry;exact PySem.EqMixed.eq_str_int (bP I q .(4))
  |str j=>obtain⟨t',rfl⟩:=ry;exact eq_str (bP I q Em)
  |_=>exact absurd (show false=true from hs) fb
 |byt i=>
  obtain⟨t,rfl⟩:=rx;cases y with
  |byt j=>obtain⟨t',rfl⟩:=ry;exact W.eq_bytes (bP I q En)
  |_=>exact absurd (show false=true from hs) fb
 |_=>cases y<;>exact absurd (show false=true from hs) fb
theorem uQ:om X (compareOp .NotEq) IP:=by
 intro Z0 s Y H x y v u Q I rx ry h;obtain⟨hs,q⟩:=h;cases x with
 |non=>
  cases rx;cases y with
  |non=>cases ry;exact PySem.EqNone.ne_none_none (bP I q .(4))
  |bl j=>cases ry;exact PySem.EqNone.ne_none_bool (bP I q .(4))
  |int j=>obtain⟨t',rfl⟩:=ry;exact PySem.EqNone.ne_none_int (bP I q .(4))
  |str j=>obtain⟨t',rfl⟩:=ry;exact PySem.EqNone.ne_none_str (bP I q .(4))
  |_=>exact absurd (show false=true from hs) fb
 |bl i=>
  cases rx;cases y with
  |non=>cases ry;exact PySem.EqNone.ne_bool_none (bP I q .(4))
  |bl j=>cases ry;exact ne_bool (bP I q (tz not IQ))
  |str j=>obtain⟨t',rfl⟩:=ry;exact PySem.EqMixed.ne_bool_str (bP I q .(4))
  |_=>exact absurd (show false=true from hs) fb
 |int i=>
  obtain⟨t,rfl⟩:=rx;cases y with
  |non=>cases ry;exact PySem.EqNone.ne_int_none (bP I q .(4))
  |int j=>obtain⟨t',rfl⟩:=ry;exact ne_int (bP I q (tz not Ek))
  |str j=>obtain⟨t',rfl⟩:=ry;exact PySem.EqMixed.ne_int_str (bP I q .(4))
  |_=>exact absurd (show false=true from hs) fb
 |str i=>
  obtain⟨t,rfl⟩:=rx;cases y with
  |non=>cases ry;exact PySem.EqNone.ne_str_none (bP I q .(4))
  |bl j=>cases ry;exact PySem.EqMixed.ne_str_bool (bP I q .(4))
  |int j=>obtain⟨t',rfl⟩:=ry;exact PySem.EqMixed.ne_str_int (bP I q .(4))
  |str j=>obtain⟨t',rfl⟩:=ry;exact ne_str (bP I q (tz not Em))
  |_=>exact absurd (show false=true from hs) fb
 |byt i=>
  obtain⟨t,rfl⟩:=rx;cases y with
  |byt j=>obtain⟨t',rfl⟩:=ry;exact W.ne_bytes (bP I q (tz not En))
  |_=>exact absurd (show false=true from hs) fb
 |_=>cases y<;>exact absurd (show false=true from hs) fb
theorem lC:om X (compareOp .Lt) (Cj λi j=>.bl (decide (i<j))):=Ms λ_ _ _ _ _ _ _ q=>lt_int q
theorem Rq:om X (compareOp .LtE) (Cj λi j=>.bl (decide (i<=j))):=Ms λ_ _ _ _ _ _ _ q=>le_int q
theorem nM:om X (compareOp .Gt) (Cj λi j=>.bl (decide (j<i))):=Ms λ_ _ _ _ _ _ _ q=>gt_int q
theorem Eo:om X (compareOp .GtE) (Cj λi j=>.bl (decide (j<=i))):=Ms λ_ _ _ _ _ _ _ q=>ge_int q
theorem Mu{op:CmpOp}{r:R2}(ho:om X (compareOp op) r)(ha:PE X a ta)(hb:PE X b tb)(hm:behindInMarks op b=false):PE X (.Compare a [op] [b] pos) (aT r ta tb):=by
 intro Z0 s Y H Q I h;exact wpAny_Compare1 (O6 ha hb I h λv u s2 x y H2 I2 rx ry q=>ho Z0 s2 Y H2 x y v u Q I2 rx ry q) hm
def bz(t:TE):TT:=λY H Q=>t Y H λx H'=>Rg x λk=>Q k H'
theorem Mv{op:CmpOp}{r:R2}(ho:om X (compareOp op) r)(ha:PE X a ta)(hb:PE X b tb)(hm:behindInMarks op b=false):PT X (.Compare a [op] [b] pos) (bz (aT r ta tb)):=by
 intro Z0 s Y H Q I h;refine wpAny_isTrue_Compare1 (cT (ha Z0 s Y H _ I h) λv s1 ⟨x,H1,I1,r1,q1⟩=>cT (hb Z0 s1 Y H1 _ I1 q1) λu s2 ⟨y,H2,I2,r2,q2⟩=>
  cT (ho Z0 s2 Y H2 x y v u _ I2 r1 r2 q2) λc s3 ⟨z,H3,I3,r3,q3⟩=>?_) hm
 obtain⟨k,rfl,q3⟩:=Cm q3;cases r3;exact Jn ⟨H3,I3,q3⟩
theorem qI:(sizeLine:Nat)<2^63:=by rw[dE];decide
theorem Cq:om X (binaryOp .Add) (λx y H Q=>∃i j,x=.str i/\y=.str j/\i.length+j.length<=sizeLine/\Q (.str (i++j)) H):=by
 intro Z0 s Y H x y v u Q I rx ry h;obtain⟨i,j,rfl,rfl,hz,q⟩:=h;obtain⟨t,rfl⟩:=rx;obtain⟨t',rfl⟩:=ry;exact add_str (λt' tk=>⟨.str (i++j),H,I.tok _,⟨_,rfl⟩,q⟩) hz
theorem vals1{x:V}{us:VI ζ}(r:Vals [x] us):∃u,us=[u]/\RelV x u:=by
 cases r with
 |cons r1 r2=>cases r2;exact⟨_,rfl,r1⟩
theorem vals2{x y:V}{us:VI ζ}(r:Vals [x,y] us):∃u w',us=[u,w']/\RelV x u/\RelV y w':=by
 cases r with
 |cons r1 r2=>
  cases r2 with
  |cons r3 r4=>cases r4;exact⟨_,_,rfl,r1,r3⟩
theorem GH(hc:X.calm=true):fj X (.builtin "max") (λxs H Q=>∃i j,xs=[.int i,.int j]/\Q (.int (if j>i then j else i)) H):=by
 intro Z0 s Y H xs us Q I r h;obtain⟨i,j,rfl,q⟩:=h;obtain⟨u,w',rfl,⟨t,rfl⟩,⟨t',rfl⟩⟩:=vals2 r;refine max_two_ints (I.ok.hd hc) λh' tk k=>⟨_,H,I.kept k,?_,q⟩
 by_cases hj:j>i
 .rw[df hj,df hj];exact⟨_,rfl⟩
 .rw[cq hj,cq hj];exact⟨_,rfl⟩
theorem qJ(hc:X.calm=true):fj X (.builtin "min") (λxs H Q=>∃i j,xs=[.int i,.int j]/\Q (.int (if j<i then j else i)) H):=by
 intro Z0 s Y H xs us Q I r h;obtain⟨i,j,rfl,q⟩:=h;obtain⟨u,w',rfl,⟨t,rfl⟩,⟨t',rfl⟩⟩:=vals2 r;refine min_two_ints (I.ok.hd hc) λh' tk k=>⟨_,H,I.kept k,?_,q⟩
 by_cases hj:j<i
 .rw[df hj,df hj];exact⟨_,rfl⟩
 .rw[cq hj,cq hj];exact⟨_,rfl⟩
theorem yj:fj X (.type "str") (λxs H Q=>∃i,xs=[.int i]/\i.natAbs.log2<1920/\Q (.str (toString i)) H):=by
 intro Z0 s Y H xs us Q I r h;obtain⟨i,rfl,hz,q⟩:=h;obtain⟨u,rfl,t,rfl⟩:=vals1 r;exact PySem.P.str_of_int hz ⟨.str _,H,I.tok _,⟨_,rfl⟩,q⟩
end
structure Cr(h:ε)(x dx C:θ)(mA:Str->ο ζ):Prop where
 obj:h.get? x=some (W.instObj C dx)
 ns:h.Ns1 dx mA
 ne:dx≠x
theorem GI{h:ε}{dx:θ}{mA:Str->ο ζ}(n:h.Ns1 dx mA):∃od,h.get? dx=some od/\∀name,W.lookIn name od=some (mA name):=by
 obtain⟨o,es,ep,ho,hd,hk,_,hm⟩:=n;refine⟨o,ho,λname=>?_⟩;have e:=hm name;unfold nsFind findBy at e;rw[<-Array.find?_toList] at e;unfold W.lookIn;rw[hd];dsimp only;split
 .rename_i y q
  rw[q] at e;exact tz some e
 .rename_i q
  rw[q] at e;have a:es.toList.any (·.refKey)=false:=by
   rw[List.any_eq_false];intro y hy;obtain⟨z,t,hkey⟩:=hk y (Array.mem_toList_iff.mp hy);simp[DictEntry.refKey,hkey]
  have a':¬es.toList.any (·.refKey)=true:=by rw[a];exact fb
  rw[cq a'];exact tz some e
theorem Cr.look{h:ε}{x dx C:θ}{mA:Str->ο ζ}(I:Cr h x dx C mA):∃od,W.InstAt h x (W.instObj C dx) C (some od)/\∀name,W.lookIn name od=some (mA name):=
 let ⟨od,ho,hl⟩:=GI I.ns
 ⟨od,⟨I.obj,rfl,rfl,ho⟩,hl⟩
section
variable{prog:ι}{w:ν}{A:ξ}{E:ζ->η->Prop}{s:η}{K:W.Frag}{x dx C f:θ}{mA:Str->ο ζ}{name:Str}{v:ζ}
theorem get_map{expr:Bool}{Q:ζ->η->Prop}(X:K.In s.heap)(I:Cr s.heap x dx C mA)(hg:W.plainGet K C name=true)(hh:W.hasDictIn K C=true)
  (ha:W.findIn K (.ref C) name=some none) (hv:mA name=some v) (hv':W.handedIn v=true) (h:Q v {s with toks:=s.toks+1}):
  wpAny .(2) A (getAttr (.ref x) name expr) Q E s:=by
 obtain⟨od,J,hl⟩:=I.look;exact W.get_value X J (W.plainGet_of hg).1 (W.findObj_own hh ha rfl (by rw[hl,hv])) hv' h
theorem IS{pl:Sem Bool}{Q:ζ×VI ζ->η->Prop}(X:K.In s.heap)(I:Cr s.heap x dx C mA)(hg:W.plainGet K C name=true)
  (hf:W.findIn K (.ref C) name=some (some (.ref f))) (ht:W.isFn K (.ref f)=true) (hv:mA name=none) (h:Q (.ref f,[.ref x]) s):
  wpAny .(2) A (getMethod (.ref x) name pl) Q E s:=by
 obtain⟨od,J,hl⟩:=I.look;exact W.method_fn X J (W.plainGet_of hg).1 (W.plainGet_of hg).2 hf (Xj.mp ht) (by show (W.lookIn name od).map (·.isSome)=some false;rw[hl,hv];rfl) h
theorem Mw{ns:VI Str}{Q:Unit->η->Prop}(X:K.In s.heap)(I:Cr s.heap x dx C mA)
  (hs:W.findIn K (.ref C) "__setattr__" =some (some (.builtin "object.__setattr__"))) (hp:W.plainOver K C=true) (ht:W.takerIn K C name=some none) (hh:W.hasDictIn K C=true)
  (hw:PySem.Within mA ns) (hsz:ns.length<=sizeLine)
  (h:∀h',Cr h' x dx C (λy=>if y=name then some v else mA y)->Heap.SameBut dx s.heap h'->Q () {s with heap:=h',toks:=s.toks+2}):
  wpAny .(2) A (setAttr (.ref x) name v) Q E s:=by
 obtain⟨od,J,hl⟩:=I.look;refine W.set_plain X J hs (W.osa_open (s:={s with toks:=s.toks+1}) (r:=none) X J hp ht λb=>?_);obtain⟨cd,hc,Yv⟩:=W.any_some hh;have hx:s.heap.get? x=some ⟨.ref C,some dx,.plain,#[]⟩:=I.obj;refine ae (bj (ae (ae (wpAny_loadPart hx (ae (W.Looks.here (s:={s with toks:=s.toks+1}) (W.looks_clsIn X hc) ?_))))));rw[Yv];refine bj (a:=some dx) (ae (bj (ae ?_)));refine wpAny_nsSet1 (s:={s with toks:=s.toks+1}) I.ns λh' hn2 YV=>?_;obtain⟨oD,esD,epD,hoD,hdD,hcD⟩:=hn2.count (PySem.Within.cons name v hw);refine ae (wpAny_lookBehind hoD (by rw[hdD];exact pastItsLine_dict (eJ hcD (by rw[kS];lia))) ?_)
 exact bj (h _ ⟨(YV.2 _ (du I.ne)).trans I.obj,hn2,I.ne⟩ YV)
theorem IT{R:Result->η->Prop}{vs:VI ζ}{kw:VI (Str×ζ)}(X:K.In s.heap)(hm:W.makesIn K C=true)
  (hi:W.findIn K (.ref C) "__init__" =some (some (.ref f))) (hf:W.typeIn K (.ref f)=some (.type "function"))
  (h:codeAny .(2) (A.under (.builtin "type.__call__" ⟨.ref C::vs,kw⟩)) (.call (.ref f) ⟨.ref (s.heap.objs.size+1)::vs,kw⟩) (W.InitBack (s.heap.objs.size+1) R)
   {s with heap:=(s.heap.push W.emptyDict).push (W.instObj C s.heap.objs.size)}):
  codeAny .(2) A (.call (.ref C) ⟨vs,kw⟩) R s:=by
 obtain⟨hh,g,d,t,os⟩:=s;exact W.make_core (W.makes_of X hm) (W.looks_findIn X hi) (λself=>W.bind_fn X self hf) (.inl rfl) h
end
def cQ(f:Str)(v:V):VI (Str×V)->VI (Str×V)
 |[]=>[(f,v)]
 |(g,x)::r=>if g=f then(g,v)::r else(g,x)::cQ f v r
theorem rV(f g:Str)(v:V):∀fs:VI (Str×V),(cQ f v fs).lookup g=if g=f then some v else fs.lookup g
 |[]=>by
  show List.lookup g [(f,v)]=_
  by_cases h:g=f
  .have hb:(g==f)=true:=Xj.mpr h;simp only[List.lookup,hb,if_pos h]
  .have hb:(g==f)=false:=oP.mpr h;simp only[List.lookup,hb,if_neg h]
 |(k,x)::r=>by
  have ih:=rV f g v r;rw[show cQ f v ((k,x)::r)=(if k=f then(k,v)::r else(k,x)::cQ f v r) from rfl]
  by_cases hk:k=f
  .rw[df hk]
   by_cases h:g=k
   .have hb:(g==k)=true:=Xj.mpr h;simp only[List.lookup,hb,if_pos (h.trans hk)]
   .have hb:(g==k)=false:=oP.mpr h;simp only[List.lookup,hb,if_neg (λe:g=f=>h (e.trans hk.symm))]
  .rw[cq hk]
   by_cases h:g=k
   .have hb:(g==k)=true:=Xj.mpr h;simp only[List.lookup,hb,if_neg (λe:g=f=>hk (h.symm.trans e))]
   .have hb:(g==k)=false:=oP.mpr h;simp only[List.lookup,hb];exact ih
theorem qK(f:Str)(v:V):∀fs:VI (Str×V),f∈(cQ f v fs).map (·.1)/\∀g,g∈fs.map (·.1)->g∈(cQ f v fs).map (·.1)
 |[]=>⟨by simp[cQ],λg h=>by simp at h⟩
 |(k,x)::r=>by
  obtain⟨i1,i2⟩:=qK f v r;rw[show cQ f v ((k,x)::r)=(if k=f then(k,v)::r else(k,x)::cQ f v r) from rfl]
  by_cases hk:k=f
  .rw[df hk];subst hk;exact⟨by simp,λg h=>by simpa using h⟩
  .rw[cq hk];refine⟨?_,λg h=>?_⟩
   .rw[lj];exact dA _ i1
   .rw[lj] at h ⊢
    rcases gL.mp h with e|e
    .exact gL.mpr (.inl e)
    .exact dA _ (i2 g e)
theorem rW(f:Str)(v:V):∀fs:VI (Str×V),(cQ f v fs).length<=fs.length+1
 |[]=>by simp[cQ]
 |(k,x)::r=>by
  have ih:=rW f v r;rw[show cQ f v ((k,x)::r)=(if k=f then(k,v)::r else(k,x)::cQ f v r) from rfl]
  by_cases hk:k=f
  .rw[df hk,kS,kS];lia
  .rw[cq hk,kS,kS];lia
theorem jH.some_of{v:V}{o:ο ζ}(r:jH (some v) o):∃u,o=some u/\RelV v u:=by
 cases o with
 |none=>exact(show False from r).elim
 |some u=>exact⟨u,rfl,r⟩
theorem jH.none_of{o:ο ζ}(r:jH none o):o=none:=by
 cases o with
 |none=>rfl
 |some u=>exact(show False from r).elim
theorem GJ{v:V}{u:ζ}(r:RelV v u):W.handedIn u=true:=by
 cases v with
 |non=>cases (show u=Value.none from r);rfl
 |bl b=>cases (show u=Value.bool b from r);rfl
 |int i=>obtain⟨t,e⟩:=(show ∃t,u=Value.int i t from r);cases e;rfl
 |str x=>obtain⟨t,e⟩:=(show ∃t,u=Value.str x t from r);cases e;rfl
 |byt b=>obtain⟨t,e⟩:=(show ∃t,u=Value.bytes b t from r);cases e;rfl
 |flt b=>obtain⟨t,e⟩:=(show ∃t,u=Value.float b t from r);cases e;rfl
 |ref a=>cases (show u=Value.ref a from r);rfl
 |ty n=>cases (show u=Value.type n from r);rfl
section
variable{P:ι}{w:ν}{H H':Hp}{h h':ε}{a C dx:θ}{fs fs':VI (Str×V)}
theorem ym(hok:mh P w H h)(e:H a=some (.ins C dx fs)):∃mA,Cr h a dx C mA/\(∀f,jH (fs.lookup f) (mA f))/\PySem.Within mA (fs.map (·.1))/\fs.length<=1000/\H dx=some (.own a):=by
 obtain⟨d,z,ne,ob,mA,n,r,q⟩:=(show cY P w H h a (.ins C dx fs) from hok a _ e);exact⟨mA,⟨ob,n,ne⟩,r,q,z,d⟩
end
structure GK(K:W.Frag)(C:θ):Prop where
 pg:W.plainGet K C Str.empty=true
 hd:W.hasDictIn K C=true
 po:W.plainOver K C=true
 sa:W.findIn K (.ref C) "__setattr__" =some (some (.builtin "object.__setattr__"))
theorem GK.get{K:W.Frag}{C:θ}(c:GK K C)(f:Str):W.plainGet K C f=true:=c.pg
def eO(K:W.Frag)(C:θ)(f:Str):Prop:=W.findIn K (.ref C) f=some none
theorem eO.Rr{K:W.Frag}{C:θ}{f:Str}(n:eO K C f):W.takerIn K C f=some none:=by
 unfold W.takerIn;rw[show W.findIn K (.ref C) f=some none from n];rfl
structure Meth(K:W.Frag)(C:θ)(m:Str)(f:θ):Prop where
 at_:W.findIn K (.ref C) m=some (some (.ref f))
 fn:W.isFn K (.ref f)=true
 kp:W.keepIn K (.ref f)=true
section
variable{X:Cx}{Z0:VI (θ×Obj)}{Y:St}{H:Hp}{s:η}{a C dx:θ}{fs:VI (Str×V)}{f:Str}{v:V}{A:ξ}{E:ζ->η->Prop}
theorem Cs{b:Bool}{Q:ζ->η->Prop}(I:Inv X Z0 Y H s)(e:H a=some (.ins C dx fs))(c:GK X.K C)(n:eO X.K C f)(l:fs.lookup f=some v)
  (h:∀u s',Inv X Z0 Y H s'->RelV v u->Q u s'):wpAny .(1) A (getAttr (.ref a) f b) Q E s:=by
 obtain⟨mA,O,r,_,_,_⟩:=ym I.hok e;obtain⟨u,hu,ru⟩:=jH.some_of (v:=v) (o:=mA f) (by rw[<-l];exact r f);exact get_map I.Ef O (c.get f) c.hd n hu (GJ ru) (h u _ (I.tok _) ru)
theorem uR{m:Str}{g:θ}{pl:Sem Bool}{Q:ζ×VI ζ->η->Prop}(I:Inv X Z0 Y H s)(e:H a=some (.ins C dx fs))(c:GK X.K C)(k:Meth X.K C m g)(l:fs.lookup m=none)
  (h:Q (.ref g,[.ref a]) s):wpAny .(1) A (getMethod (.ref a) m pl) Q E s:=by
 obtain⟨mA,O,r,_,_,_⟩:=ym I.hok e;have hn:mA m=none:=jH.none_of (by rw[<-l];exact r m);exact IS I.Ef O (c.get m) k.at_ k.fn hn h
theorem Ct{y:V}{u:ζ}{Q:Unit->η->Prop}(I:Inv X Z0 Y H s)(e:H a=some (.ins C dx fs))(c:GK X.K C)(n:eO X.K C f)(hl:fs.length<1000)(ry:RelV y u)
  (h:∀s',Inv X Z0 Y (upd H a (.ins C dx (cQ f y fs))) s'->Q () s'):wpAny .(1) A (setAttr (.ref a) f u) Q E s:=by
 obtain⟨mA,O,r,wi,_,ho⟩:=ym I.hok e;have hz:(fs.map (·.1)).length<=sizeLine:=by rw[aw,dE];lia
 refine Mw I.Ef O c.sa c.po n.Rr c.hd wi hz λh' O' sb=>h _ ?_;have hd:∃o,h'.get? dx=some o:=let ⟨o,_,_,e',_⟩:=O'.ns;⟨o,e'⟩;refine I.write (x:=a) (e:=dx) (by rw[e];exact True.intro) (.inr ho) (λb q hb z=>(sb.2 b hb).trans z) hd ?_;refine⟨by rw[aH O.ne];exact ho,?_,O.ne,O'.obj,_,O'.ns,λg=>?_,λg hg=>?_⟩
 .have:=rW f y fs;lia
 .show jH ((cQ f y fs).lookup g) (if g=f then some u else mA g);rw[rV]
  by_cases q:g=f
  .rw[df q,df q];exact ry
  .rw[cq q,cq q];exact r g
 .by_cases q:g=f
  .rw[q];exact(qK f y fs).1
  .refine(qK f y fs).2 g (wi g λz=>hg ?_);show (if g=f then some u else mA g)=none;rw[cq q];exact z
theorem Inv.made(I:Inv X Z0 Y H s):Inv X Z0 Y (upd (upd H s.heap.objs.size (.own (s.heap.objs.size+1))) (s.heap.objs.size+1) (.ins C s.heap.objs.size []))
  {s with heap:=(s.heap.push W.emptyDict).push (W.instObj C s.heap.objs.size)}:=by
 have e1:(s.heap.push W.emptyDict).get? s.heap.objs.size=some W.emptyDict:=cx s.heap rfl;have e2:((s.heap.push W.emptyDict).push (W.instObj C s.heap.objs.size)).get? (s.heap.objs.size+1)=some (W.instObj C s.heap.objs.size):=by
  have:=cx (s.heap.push W.emptyDict) (o:=W.instObj C s.heap.objs.size) rfl;rwa[oo] at this
 have e3:(s.heap.push W.emptyDict).Ns s.heap.objs.size (λ_=>none):=⟨W.emptyDict,#[],_,e1,rfl,(λe he=>absurd he .(4)),λ_=>rfl⟩;have I1:=I.laid (a:=s.heap.objs.size) (o:=.own (s.heap.objs.size+1)) (h':=s.heap.push W.emptyDict) (t':=s.toks) (λb u q=>ba _ q) (bb _) ⟨_,e1⟩;refine I1.laid (a:=s.heap.objs.size+1) (o:=.ins C s.heap.objs.size []) (t':=s.toks) (λb u q=>ba _ q) (XE (oo _ _)) ?_;have ne:s.heap.objs.size≠s.heap.objs.size+1:=iq (vT _);refine⟨by rw[aH ne,aq],mi _,ne,e2,λ_=>none,(Heap.Ns1.of_empty e3).at λo q=>ba _ q,λ_=>True.intro,λy hy=>absurd rfl hy⟩
theorem Mz{prog:ι}{w:ν}{env:Env}{e:γ}{f:Str}{pos:Pos}{s:η}{Q:ζ->η->Prop}(hb:attributeBase e f env (eval e env)=eval e env)
  (h:wpAny .(2) A (eval e env) (λo s₁=>wpAny .(2) A (getAttr o f true) Q E s₁) E s):wpAny .(2) A (eval (.Attribute e f pos) env) Q E s:=
 Attribute_any_ h (by rw[arm_eval_Attribute,hb])
end
def fP(K:W.Frag)(ta:TE)(f:Str):TE:=λY H Q=>ta Y H λx H1=>∃a C dx fs v,x=.ref a/\H1 a=some (.ins C dx fs)/\GK K C/\eO K C f/\fs.lookup f=some v/\Q v H1
def jx(K:W.Frag)(ta tv:TE)(f:Str):TS:=λD Y H=>tv Y H λy H1=>ta Y H1 λx H2=>∃a C dx fs,x=.ref a/\H2 a=some (.ins C dx fs)/\GK K C/\eO K C f/\fs.length<1000/\
 D.nx Y (upd H2 a (.ins C dx (cQ f y fs)))
section
variable{X:Cx}{o e value:γ}{f:Str}{pos pos' tpos:Pos}{ta tv:TE}
theorem O9(he:PE X e ta)(hb:attributeBase e f X.env (eval e X.env)=eval e X.env):PE X (.Attribute e f pos) (fP X.K ta f):=by
 intro Z0 s Y H Q I h;refine Mz hb (cT (he Z0 s Y H _ I h) λu s1 ⟨x,H1,I1,rx,a,C,dx,fs,v,ex,ea,c,n,l,q⟩=>?_);subst ex;obtain rfl:u=Value.ref a:=rx;exact Cs I1 ea c n l λu' s2 I2 ru=>⟨v,H1,I2,ru,q⟩
theorem Pa(ha:PE X o ta)(hv:PE X value tv)(hs:swapsWith value (some (.Attribute o f pos')) pos.line X.env=pure false):PS X (.Assign [.Attribute o f pos'] value pos) (jx X.K ta tv f):=by
 intro Z0 s Y H D I h;refine plainObj_wpAny_Assign_Attribute (cT (hv Z0 s Y H _ I h) λu s1 ⟨y,H1,I1,ry,q⟩=>cT (ha Z0 s1 Y H1 _ I1 q) λov s2 ⟨x,H2,I2,rx,a,C,dx,fs,ex,ea,c,n,l,q2⟩=>?_) hs;subst ex;obtain rfl:ov=Value.ref a:=rx;exact Ct I2 ea c n l ry λs3 I3=>⟨Y,_,I3,q2⟩
end
structure cG(k:Nat)(A:ξ):Prop where
 hd:A.handled=none
 dp:A.depth+3*k+5<recursionLimit
 un:A.units+16*k+200<cLine
theorem cG.mono{j k:Nat}{A:ξ}(r:cG k A)(h:j<=k):cG j A:=⟨r.hd,by have:=r.dp;lia,by have:=r.un;lia⟩
theorem cG.deeper{k:Nat}{A:ξ}(r:cG (k+1) A)(env:Env):cG k (A.deeper env):=
 ⟨r.hd,by have:=r.dp;show A.depth+1+3*k+5<_;lia,by have:=r.un;show A.units+3+16*k+200<_;lia⟩
theorem Cu{A:ξ}{C:θ}{us:VI ζ}{kw:VI (Str×ζ)}:(A.under (.builtin "type.__call__" ⟨.ref C::us,kw⟩)).depth=A.depth+1:=by
 first|rfl|simp[Around.under,Code.weight,Code.isCreation,Code.isGuard,Code.isCaller,Code.frames,Code.isFrame,guardIds]
theorem Cv{A:ξ}{C:θ}{us:VI ζ}{kw:VI (Str×ζ)}:(A.under (.builtin "type.__call__" ⟨.ref C::us,kw⟩)).units=A.units+1:=by
 first|rfl|simp[Around.under,Code.cUnits,Code.frames,Code.isFrame]
theorem cG.make{k:Nat}{A:ξ}(r:cG (k+1) A)(C:θ)(us:VI ζ)(kw:VI (Str×ζ)):cG k (A.under (.builtin "type.__call__" ⟨.ref C::us,kw⟩)):=
 ⟨r.hd,by have:=r.dp;rw[Cu];lia,by have:=r.un;rw[Cv];lia⟩
theorem cG.depth{k:Nat}{A:ξ}(r:cG k A):A.depth<recursionLimit:=by have:=r.dp;lia
theorem cG.units{k:Nat}{A:ξ}(r:cG k A):A.units+64<cLine:=by have:=r.un;lia
def aD:TA:=λ_ H Q=>Q [] H
def ai(ta:TE)(tr:TA):TA:=λY H Q=>ta Y H λx H1=>tr Y H1 λxs H2=>Q (x::xs) H2
section
variable{X:Cx}{e:γ}{es:VI γ}{te:TE}{t:TA}{pos:Pos}
theorem Cw:PA X [] aD:=λ_ _ _ _ H Q I h=>Wz ⟨[],H,I,.nil,h⟩
theorem yo(ha:PE X e te)(hr:PA X es t)(hs:starEach (e::es) X.env=(false,eval e X.env)::starEach es X.env:=by rfl):PA X (e::es) (ai te t):=by
 intro pos Z0 s Y H Q I h;rw[hs];show wpAny _ _ (spliced ((false,eval e X.env)::backTo pos (starEach es X.env))) _ _ s;refine Tb (cT (ha Z0 s Y H _ I h) λu s1 ⟨x,H1,I1,r1,q1⟩=>?_);exact cT (hr pos Z0 s1 Y H1 _ I1 q1) λus s2 ⟨xs,H2,I2,r2,q2⟩=>⟨x::xs,H2,I2,.cons r1 r2,q2⟩
def iD(t:TA):TE:=λY H Q=>t Y H λxs H1=>xs.length<=sizeLine/\∀p,H1 p=none->Q (.ref p) (upd H1 p (.tup xs))
def uS(t:TA):TE:=λY H Q=>t Y H λxs H1=>xs.length<=sizeLine/\∀p,H1 p=none->Q (.ref p) (upd H1 p (.lst xs))
theorem Pb{x1}(h:PA X es t):PE X (.Tuple es x1 pos) (iD t):=by
 intro Z0 s Y H Q I hq;refine wpAny_Tuple_spliced (cT (h pos Z0 s Y H _ I hq) λus s1 ⟨xs,H1,I1,r,z,q⟩=>⟨by rw[<-r.length];exact z,?_⟩);have hf:H1 s1.heap.objs.size=none:=I1.hok.fresh (bb _);refine⟨.ref s1.heap.objs.size,upd H1 s1.heap.objs.size (.tup xs),I1.laid (t':=s1.toks) (λb u e=>ba _ e) (bb _) ?_,rfl,q _ hf⟩;exact⟨z,us,r,⟨_,cx _ rfl,rfl,_,rfl⟩⟩
theorem Pc(h:PA X es t):PE X (.List es pos) (uS t):=by
 intro Z0 s Y H Q I hq;refine wpAny_List_spliced (cT (h pos Z0 s Y H _ I hq) λus s1 ⟨xs,H1,I1,r,z,q⟩=>⟨by rw[<-r.length];exact z,?_⟩);have hf:H1 s1.heap.objs.size=none:=I1.hok.fresh (bb _);refine⟨.ref s1.heap.objs.size,upd H1 s1.heap.objs.size (.lst xs),I1.laid (t':=s1.toks) (λb u e=>ba _ e) (bb _) ?_,rfl,q _ hf⟩;exact⟨z,us,0,r,cx _ rfl⟩
end
abbrev Sp:=VI V->Hp->VK->XK->Prop
abbrev AA:=VI Env->Hp->η->XK->ζ->η->Prop
structure Cy(P:ι)(w:ν)(K:W.Frag)(mg:Str->ο ζ)(base:ε)(A:ξ)(outer:VI Env)(s:η)(H:Hp):Prop where
 frames:A.frames=some outer
 mod:Mod K mg base
 bs:∀b o,base.get? b=some o->s.heap.get? b=some o/\H b=none
 bsz:base.objs.size<=s.heap.objs.size
 tw:s.heap.FunFrames base outer
 frf:∀b∈frs outer,H b=none
 hok:mh P w H s.heap
 bare:AllBare s.gens
def CE(outer:VI Env)(P:ι)(w:ν)(H:Hp)(s:η)(Q:VK)(u:ζ)(s':η):Prop:=
 ∃v H',s'.os=s.os/\AllBare s'.gens/\Un (frs outer) [] H H' s.heap s'.heap/\mh P w H' s'.heap/\RelV v u/\Q v H'
def CR(CX:AA)(outer:VI Env)(P:ι)(w:ν)(H:Hp)(s:η)(Q:VK)(E:XK)(r:Result)(s':η):Prop:=
 match r with
 |.ok (.ret u)=>CE outer P w H s Q u s'
 |.ok _=>False
 |.error e=>CX outer H s E e s'
structure jy(P:ι)(w:ν)(K:W.Frag)(mg:Str->ο ζ)(base:ε)(CX:AA)(k:Nat)(f:θ)(fd:FuncData)(ps:VI Str)(sp:Sp):Prop where
 len:∀vs H Q E,sp vs H Q E->vs.length=ps.length
 run:∀(A:ξ) (outer:VI Env) (s:η) (H:Hp) (args:Args) (us:VI ζ) (vs:VI V) (Q:VK) (E:XK),cG k A->Cy P w K mg base A outer s H->BindsTo s fd args (ps.zip us)->Vals vs us->sp vs H Q E->
  codeAny (model P w) A (.call (.ref f) args) (CR CX outer P w H s Q E) s
theorem Cy.make{P:ι}{w:ν}{K:W.Frag}{mg:Str->ο ζ}{base:ε}{A:ξ}{outer:VI Env}{s:η}{H:Hp}(e:Cy P w K mg base A outer s H)(C:θ)(us:VI ζ)(kw:VI (Str×ζ)):
  Cy P w K mg base (A.under (.builtin "type.__call__" ⟨.ref C::us,kw⟩)) outer s H:=⟨by first|exact e.frames|(simpa [Around.under,Code.envs,Code.isFrame,pushEnvs] using e.frames),e.mod,e.bs,e.bsz,e.tw,e.frf,e.hok,e.bare⟩
section
variable{X:Cx}{Z0:VI (θ×Obj)}{Y:St}{H:Hp}{s s':η}
theorem Inv.Rt(I:Inv X Z0 Y H s):Cy X.prog X.w X.K X.mg X.base X.A X.stack s H:=
 ⟨I.ok.frames,I.ok.mod,I.bs,eJ I.ok.bsz I.sz,I.stack,I.tO,I.hok,I.bare⟩
theorem Inv.after{Q:VK}{u:ζ}(I:Inv X Z0 Y H s)(h:CE X.stack X.prog X.w H s Q u s'):EP X Z0 Y Q u s':=by
 obtain⟨v,H',os,bare,un,hok,r,q⟩:=h;obtain⟨hh,g,d,t,os'⟩:=s';obtain rfl:os'=s.os:=os;exact⟨v,H',I.call (h':=hh) (g':=g) (d':=d) (t':=t) (ch:=[]) un hok bare (λb z=>absurd z .(4)),r,q⟩
end
def aW(sp:Sp)(Yx:VI V)(E:XK)(t:TA):TE:=λY H Q=>t Y H λvs H1=>sp (vs++Yx) H1 Q E
def bU(C:θ)(m:Str)(sp:Sp)(Yx:VI V)(E:XK)(ta:TE)(t:TA):TE:=λY H Q=>ta Y H λx H1=>∃a dx fs,x=.ref a/\H1 a=some (.ins C dx fs)/\fs.lookup m=none/\
 t Y H1 λvs H2=>sp (x::(vs++Yx)) H2 Q E
def Ep(C:θ)(sp:Sp)(Yx:VI V)(E:XK)(t:TA):TE:=λY H Q=>t Y H λvs H1=>∀x dx,H1 x=none->H1 dx=none->dx≠x->
 sp (.ref x::(vs++Yx)) (upd (upd H1 dx (.own x)) x (.ins C dx [])) (λv H2=>v=.non/\Q (.ref x) H2) E
def Binds(K:W.Frag)(fd:FuncData)(ps:VI Str)(ds:VI ζ):Prop:=
 ∀(s:η) (us:VI ζ),K.In s.heap->(us++ds).length=ps.length->BindsTo s fd ⟨us,[]⟩ (ps.zip (us++ds))
theorem Binds.all{K:W.Frag}{fd:FuncData}{ps:VI Str}(h:∀us:VI ζ,us.length=ps.length->bindArgs fd ⟨us,[]⟩=pure (ps.zip us)):Binds K fd ps []:=λs us _ hl=>by
 rw[fw] at hl ⊢;exact .of_eq (h us hl)
def Passes(CX:AA)(X:Cx)(E:XK):Prop:=∀(Z0:VI (θ×Obj)) (Y:St) (H:Hp) (s:η) (e:ζ) (s':η),Inv X Z0 Y H s->CX X.stack H s E e s'->X.xe e s'
section
variable{X:Cx}{CX:AA}{k:Nat}{f C:θ}{fd:FuncData}{ps:VI Str}{sp:Sp}{Yx:VI V}{ds:VI ζ}{E:XK}{x m:Str}{p pos apos:Pos}{e o:γ}{es:VI γ}{ta:TE}{t:TA}
theorem Cz{Z0:VI (θ×Obj)}{Y:St}{H:Hp}{s:η}{Q:VK}{us:VI ζ}{vs:VI V}(F:jy X.prog X.w X.K X.mg X.base CX k f fd ps sp)(hr:cG k X.A)(hb:Binds X.K fd ps ds)(hd:Vals Yx ds)(hx:Passes CX X E)
  (I:Inv X Z0 Y H s) (r:Vals vs us) (h:sp (vs++Yx) H Q E):wpAny .(1) X.A (call (.ref f) us) (EP X Z0 Y Q) X.xe s:=by
 have r2:Vals (vs++Yx) (us++ds):=r.append hd;have hl:(us++ds).length=ps.length:=by rw[<-r2.length];exact F.len _ _ _ _ h
 refine wpAny_call (Pl (F.run X.A X.stack s H ⟨us,[]⟩ (us++ds) (vs++Yx) Q E hr I.Rt (hb s us I.Ef hl) r2 h) λr s' hq=>?_);cases r with
 |error e=>exact hx Z0 Y H s e s' I hq
 |ok fl=>
  cases fl with
  |ret u=>exact I.after hq
  |next=>exact False.elim hq
  |brk=>exact False.elim hq
  |cont=>exact False.elim hq
theorem MA(F:jy X.prog X.w X.K X.mg X.base CX k f fd ps sp)(hr:cG k X.A)(hg:Gl X x)(hm:X.mg x=some (.ref f))(hk:W.keepIn X.K (.ref f)=true)(hb:Binds X.K fd ps ds)(hd:Vals Yx ds)(hx:Passes CX X E)
  (ha:PA X (e::es) t) (Ym:(x==("__debug__":Str))=false:=by decide) (he:starEach (e::es) X.env=(false,eval e X.env)::starEach es X.env:=by rfl) (X1:(backTo pos (starEach es X.env)).any (·.1)=false:=by rfl):
  PE X (.Call (.Name x p) (e::es) [] pos) (aW sp Yx E t):=by
 intro Z0 s Y H Q I h;refine yA (tP I hg hm ?_ Ym);refine W.callWith_K (h₀:=X.base) I.ok.mod.kin hk (cT (ha pos Z0 s Y H _ I h) λus s1 ⟨vs,H1,I1,r,q⟩=>⟨I1.Ef,?_⟩) he X1;exact Cz F hr hb hd hx I1 r q
theorem MB{pl:Sem Bool}(he:PE X o ta)(c:GK X.K C)(hm:Meth X.K C m f)(F:jy X.prog X.w X.K X.mg X.base CX k f fd ps sp)(hr:cG k X.A)(hb:Binds X.K fd ps ds)(hd:Vals Yx ds)(hx:Passes CX X E)(ha:PA X (e::es) t)
  (Ya:starEach (e::es) X.env=(false,eval e X.env)::starEach es X.env:=by rfl) (X1:(backTo pos (starEach es X.env)).any (·.1)=false:=by rfl)
  (ht:eval (.Call (.Attribute o m apos) (e::es) [] pos) X.env=(do
   let ov <-eval o X.env
   standAt apos.atName
   let (f,first) <-holding [ov] (getMethod ov m pl)
   callWith pos f first (backTo pos (starEach (e::es) X.env)) (backToKw pos (keywordEach [] X.env))):=by rfl):
  PE X (.Call (.Attribute o m apos) (e::es) [] pos) (bU C m sp Yx E ta t):=by
 intro Z0 s Y H Q I h;refine W.methodCall_KW (pl:=pl) (cT (he Z0 s Y H _ I h) λu s1 ⟨x,H1,I1,rx,a,dx,fs,ex,ea,l,q⟩=>?_) ht;subst ex;obtain rfl:u=Value.ref a:=rx;refine uR I1 ea c hm l ?_;refine W.callWith_K (first:=[.ref a]) (h₀:=X.base) I.ok.mod.kin hm.kp (cT (ha pos Z0 s1 Y H1 _ I1 q) λus s2 ⟨vs,H2,I2,r,q2⟩=>⟨I2.Ef,?_⟩) Ya X1;exact Cz (us:=.ref a::us) (vs:=.ref a::vs) F hr hb hd hx I2 (.cons rfl r) q2
theorem IU{pl:Sem Bool}(he:PE X o ta)(c:GK X.K C)(hm:Meth X.K C m f)(F:jy X.prog X.w X.K X.mg X.base CX k f fd ps sp)(hr:cG k X.A)(hb:Binds X.K fd ps ds)(hd:Vals Yx ds)(hx:Passes CX X E)
  (ht:eval (.Call (.Attribute o m apos) [] [] pos) X.env=(do
   let ov <-eval o X.env
   standAt apos.atName
   let (f,first) <-holding [ov] (getMethod ov m pl)
   callWith pos f first (backTo pos (starEach [] X.env)) (backToKw pos (keywordEach [] X.env))):=by rfl):
  PE X (.Call (.Attribute o m apos) [] [] pos) (bU C m sp Yx E ta aD):=by
 intro Z0 s Y H Q I h;refine W.methodCall_KW (pl:=pl) (cT (he Z0 s Y H _ I h) λu s1 ⟨x,H1,I1,rx,a,dx,fs,ex,ea,l,q⟩=>?_) ht;subst ex;obtain rfl:u=Value.ref a:=rx;refine uR I1 ea c hm l ?_;exact W.callWith_K0 (first:=[.ref a]) I1.Ef hm.kp (Cz (us:=[.ref a]) (vs:=[.ref a]) F hr hb hd hx I1 (.cons rfl .nil) q)
structure Mk(K:W.Frag)(C f:θ):Prop where
 makes:W.makesIn K C=true
 init:W.findIn K (.ref C) "__init__" =some (some (.ref f))
 fn:W.isFn K (.ref f)=true
 kp:W.keepIn K (.ref C)=true
theorem IV{Z0:VI (θ×Obj)}{Y:St}{H:Hp}{s:η}{Q:VK}{us:VI ζ}{vs:VI V}(M:Mk X.K C f)(F:jy X.prog X.w X.K X.mg X.base CX k f fd ps sp)(hr:cG (k+1) X.A)(hb:Binds X.K fd ps ds)(hd:Vals Yx ds)
  (hx:Passes CX X E) (I:Inv X Z0 Y H s) (r:Vals vs us)
  (h:∀x dx,H x=none->H dx=none->dx≠x->sp (.ref x::(vs++Yx)) (upd (upd H dx (.own x)) x (.ins C dx [])) (λv H2=>v=.non/\Q (.ref x) H2) E):
  wpAny .(1) X.A (call (.ref C) us) (EP X Z0 Y Q) X.xe s:=by
 have hq:=h (s.heap.objs.size+1) s.heap.objs.size (I.hok.fresh (xc _)) (I.hok.fresh (bb _)) (iq (vT _));have I2:=Inv.made (C:=C) I;have r2:Vals (V.ref (s.heap.objs.size+1)::(vs++Yx)) (Value.ref (s.heap.objs.size+1)::(us++ds)):=.cons rfl (r.append hd);have hl:(Value.ref (s.heap.objs.size+1)::us++ds).length=ps.length:=by
  have e:=r2.length;rw[F.len _ _ _ _ hq] at e;exact e.symm
 refine wpAny_call (IT (f:=f) I.Ef M.makes M.init (Xj.mp M.fn) (Pl (F.run _ X.stack _ _ ⟨Value.ref (s.heap.objs.size+1)::us,[]⟩ (Value.ref (s.heap.objs.size+1)::(us++ds)) _ _ E (hr.make C us [])
  (I2.Rt.make C us []) (hb _ (Value.ref (s.heap.objs.size+1)::us) I2.Ef hl) r2 hq) λr s' hq'=>?_))
 cases r with
 |error e=>exact hx Z0 Y _ _ e s' I2 hq'
 |ok fl=>
  cases fl with
  |ret u=>
   obtain⟨v,H',I3,rv,ev,q3⟩:=I2.after hq';subst ev;exact⟨rv,⟨V.ref (s.heap.objs.size+1),H',I3,rfl,q3⟩⟩
  |next=>exact False.elim hq'
  |brk=>exact False.elim hq'
  |cont=>exact False.elim hq'
theorem MC(M:Mk X.K C f)(F:jy X.prog X.w X.K X.mg X.base CX k f fd ps sp)(hr:cG (k+1) X.A)(hg:Gl X x)(hm:X.mg x=some (.ref C))(hb:Binds X.K fd ps ds)(hd:Vals Yx ds)(hx:Passes CX X E)
  (ha:PA X (e::es) t) (Ym:(x==("__debug__":Str))=false:=by decide) (he:starEach (e::es) X.env=(false,eval e X.env)::starEach es X.env:=by rfl) (X1:(backTo pos (starEach es X.env)).any (·.1)=false:=by rfl):
  PE X (.Call (.Name x p) (e::es) [] pos) (Ep C sp Yx E t):=by
 intro Z0 s Y H Q I h;refine yA (tP I hg hm ?_ Ym);refine W.callWith_K (h₀:=X.base) I.ok.mod.kin M.kp (cT (ha pos Z0 s Y H _ I h) λus s1 ⟨vs,H1,I1,r,q⟩=>⟨I1.Ef,?_⟩) he X1;exact IV M F hr hb hd hx I1 r q
end
def PK(X:Cx)(kws:VI Keyword)(t:TA):Prop:=
 ∀(pos:Pos) (Z0:VI (θ×Obj)) (s:η) (Y:St) (H:Hp) (Q:VI V->Hp->Prop),Inv X Z0 Y H s->t Y H Q->wpAny .(1) X.A (evalAll ((backToKw pos (keywordEach kws X.env)).map (·.2))) (AP X Z0 Y Q) X.xe s
section
variable{X:Cx}{CX:AA}{k:Nat}{f C:θ}{fd:FuncData}{ps ks:VI Str}{sp:Sp}{E:XK}{x m:Str}{p pos apos kpos:Pos}{e o:γ}{es:VI γ}{kws:VI Keyword}{te ta:TE}{t tk:TA}{nm:ο Str}
theorem Pd:PK X [] aD:=λ_ _ _ _ H Q I h=>wpAny_evalAll_nil ⟨[],H,I,.nil,h⟩
theorem MD(ha:PE X e te)(hr:PK X kws t):PK X (⟨nm,e,kpos⟩::kws) (ai te t):=by
 intro pos Z0 s Y H Q I h;show wpAny _ _ (evalAll ((do let v <-eval e X.env;standAt pos;pure v)::(backToKw pos (keywordEach kws X.env)).map (·.2))) _ _ s;refine wpAny_evalAll_cons (ae (cT (ha Z0 s Y H _ I h) λu s1 ⟨x,H1,I1,r1,q1⟩=>ae (V6 (bj ?_))));exact cT (hr pos Z0 s1 Y H1 _ I1 q1) λus s2 ⟨xs,H2,I2,r2,q2⟩=>⟨x::xs,H2,I2,.cons r1 r2,q2⟩
variable{g:VI ζ->VI ζ->VI ζ}{gV:VI V->VI V->VI V}
end
structure aP(N P:VI Str)(sc:Scope):Prop where
 kind:sc.kind=.function
 co:sc.isCoroutine=false
 gen:sc.isGenerator=false
 nd:N.Nodup
 pre:N.take P.length=P
 par:∀x∈P,sc.names.lookup x=some .local\/sc.names.lookup x=some .cell
 nofree:∀y∈sc.names,y.2≠.free
theorem xx{kindOf:Str->ο NameKind}{x:Str}:∀{binds:VI (Str×ζ)} {m:Str->ο ζ},(∀v,(x,v)∉binds)->bindL kindOf binds m x=m x
 |[],_,_=>rfl
 |(n,v)::r,m,h=>by
  unfold bindL;rw[xx λw hw=>h w (dA _ hw)];split
  .have:x≠n:=by rintro rfl;exact h v bp
   simp[this]
  .rfl
theorem xy{kindOf:Str->ο NameKind}{x:Str}:∀{binds:VI (Str×ζ)} {m:Str->ο ζ},(∀v,(x,v)∉binds)->bindC kindOf binds m x=m x
 |[],_,_=>rfl
 |(n,v)::r,m,h=>by
  unfold bindC;rw[xy λw hw=>h w (dA _ hw)];split
  .rfl
  .have:x≠n:=by rintro rfl;exact h v bp
   simp[this]
theorem xA{kindOf:Str->ο NameKind}{x:Str}{v:ζ}:∀{P:VI Str} {vs:VI ζ} {i:Nat} {m:Str->ο ζ},P.Nodup->P[i]?=some x->vs[i]?=some v->kindOf x=some .local->
  bindL kindOf (P.zip vs) m x=some v
 |[],_,_,_,_,h,_,_=>by simp at h
 |_::_,[],_,_,_,_,h,_=>by simp at h
 |p::P,w::vs,0,m,nd,h1,h2,hk=>by
  simp at h1 h2;subst h1;subst h2
  show bindL kindOf ((p,w)::P.zip vs) m p=_;unfold bindL;rw[xx λv hv=>(Ws.mp nd).1 (Xr hv).1,df hk];simp
 |p::P,w::vs,i+1,m,nd,h1,h2,hk=>by
  show bindL kindOf ((p,w)::P.zip vs) m x=_;unfold bindL;exact xA (i:=i) (Ws.mp nd).2 (by simpa using h1) (by simpa using h2) hk
theorem xB{kindOf:Str->ο NameKind}{x:Str}{v:ζ}:∀{P:VI Str} {vs:VI ζ} {i:Nat} {m:Str->ο ζ},P.Nodup->P[i]?=some x->vs[i]?=some v->kindOf x≠some .local->
  bindC kindOf (P.zip vs) m x=some v
 |[],_,_,_,_,h,_,_=>by simp at h
 |_::_,[],_,_,_,_,h,_=>by simp at h
 |p::P,w::vs,0,m,nd,h1,h2,hk=>by
  simp at h1 h2;subst h1;subst h2
  show bindC kindOf ((p,w)::P.zip vs) m p=_;unfold bindC;rw[xy λv hv=>(Ws.mp nd).1 (Xr hv).1,cq hk];simp
 |p::P,w::vs,i+1,m,nd,h1,h2,hk=>by
  show bindC kindOf ((p,w)::P.zip vs) m x=_;unfold bindC;exact xB (i:=i) (Ws.mp nd).2 (by simpa using h1) (by simpa using h2) hk
def start(N:VI Str)(vs:VI V):St:=vs.map some++List.replicate (N.length-vs.length) none
def oq(CX:AA)(P:ι)(w:ν)(K:W.Frag)(mg:Str->ο ζ)(base:ε)(N:VI Str)(qual:Str)(scope:Scope)(f:θ)(cd:ζ)(A:ξ)(outer:VI Env)(s:η)(H:Hp)(E:XK):Cx where
 prog:=P
 w:=w
 K:=K
 mg:=mg
 base:=base
 A:=A.deeper (envOfC qual scope s.heap.objs.size f cd)
 N:=N
 s₀:=s
 H₀:=H
 env:=envOfC qual scope s.heap.objs.size f cd
 outer:=outer
 stack:=envOfC qual scope s.heap.objs.size f cd::outer
 ex:=[]
 calm:=true
 fn:=λ_=>true
 pn:=[]
 xe:=λe s'=>wpAny (model P w) (A.deeper (envOfC qual scope s.heap.objs.size f cd)) (leaving (envOfC qual scope s.heap.objs.size f cd) e) (λ_ s''=>CX outer H s E e s'') (λe' s''=>CX outer H s E e' s'') s'
theorem AD{sc:Scope}{n:Nat}{x:Str}(h:sc.names.lookup x=some .cell):∃c,(cellsFrom n sc.names []).lookup x=some c:=by
 have q:=W.cellsFrom_some sc.names n [] (.inl h);exact WN.mp q
theorem GL{CX:AA}{P:ι}{w:ν}{K:W.Frag}{mg:Str->ο ζ}{base:ε}{N ps:VI Str}{qual:Str}{scope:Scope}{f:θ}{cd:ζ}{A:ξ}{outer:VI Env}{s s1:η}{H:Hp}{E:XK}{us:VI ζ}{vs:VI V}
  (S:aP N ps scope) (hd:A.handled=none) (e0:Cy P w K mg base A outer s H) (hl:vs.length=ps.length) (r:Vals vs us)
  (x:InCallC s s.heap.objs.size (bindL (envOfC qual scope s.heap.objs.size f cd).kindOf (ps.zip us) λ_=>none) (cellsFrom (s.heap.objs.size+1) scope.names []) (bindC (envOfC qual scope s.heap.objs.size f cd).kindOf (ps.zip us) λ_=>none) s1):
  Inv (oq CX P w K mg base N qual scope f cd A outer s H E) [] (start N vs) H s1:=by
 have X1:ps.length<=N.length:=by have:=tz List.length S.pre;rw[fg] at this;lia
 obtain⟨h1,tk,rfl,hk⟩:=x.done;have noA:∀b:θ,b∉(oq CX P w K mg base N qual scope f cd A outer s H E).ex:=λb z=>absurd (show b∈([]:VI θ) from z) .(4);refine⟨⟨e0.mod,S.kind,rfl,rfl,bb _,λy z c h1 h2=>?_,λy hy=>?_,λy c _ h=>?_,λ_=>hd,Around.frames_deeper e0.frames,.inr ⟨rfl,rfl⟩,λb z=>absurd z (noA b),e0.bs,e0.bsz,λb _ _=>noA b,λb z=>absurd z (noA b),e0.tw,e0.frf⟩,
  rfl,e0.bare,Un.kept hk,⟨_,x.toInCall.ns,λi y v h1 h2 h3=>?_⟩,λy c h=>⟨_,x.cell y c h⟩,e0.hok.fresh (bb _),λy c h=>?_,λp hp=>absurd (show p∈([]:VI (θ×Obj)) from hp) .(4),e0.hok.kept hk,?_⟩
 .exact name_of_addr x.apart (BM h1) (BM h2)
 .have hy:scope.names.lookup y=some .cell\/scope.names.lookup y=some .free:=hy
  rcases hy with hy|hy
  .exact AD hy
  .exact absurd rfl (S.nofree _ (BM hy))
 .exact XD (x.above y c (BM h))
 .have hi:i<vs.length:=by
   unfold start at h2
   by_cases hi:i<vs.length
   .exact hi
   .rw[kf (by simpa using hi)] at h2;rw[List.getElem?_replicate] at h2;split at h2<;>cases h2
  have ha:vs[i]?=some v:=by
   unfold start at h2;rw[lr (by simpa using hi),cn] at h2;cases e:vs[i]? with
   |none=>rw[e] at h2;cases h2
   |some a=>rw[e] at h2;cases h2;rfl
  obtain⟨u,hu,rv⟩:=r.get ha;have hp:ps[i]?=some y:=by
   rw[<-S.pre,List.getElem?_take_of_lt ⋯];exact h1
  have ndP:ps.Nodup:=by rw[<-S.pre];exact S.nd.sublist (List.take_sublist _ _)
  refine⟨u,rv,?_⟩
  rcases S.par y (dy hp) with k|k
  .exact .inl ⟨k,xA ndP hp hu k⟩
  .obtain⟨c,e⟩:=AD (n:=s.heap.objs.size+1) k;refine .inr ⟨.inl k,c,e,?_⟩;have q:=x.cell y c e;rw[xB ndP hp hu (by show scope.names.lookup y≠_;rw[k];decide)] at q;exact q
 .exact e0.hok.fresh (XD (x.above y c (BM h)))
 .unfold start;show _=N.length;rw[de,aw,List.length_replicate];lia
theorem Oe{CX:AA}{P:ι}{w:ν}{K:W.Frag}{mg:Str->ο ζ}{base:ε}{k:Nat}{f:θ}{name qual:Str}{params:Arguments}{body:VI δ}{scope:Scope}{dV kV doc pm X5 ct oc:ζ}{an od:ο θ}
  {ZL:Array (ο ζ)} {N ps:VI Str} {sp:Sp} (lk:K.lookup f=some ⟨oc,od,.func (W.fnOf name qual params body scope dV kV doc pm an X5 ct),ZL⟩) (YY:W.codeIn K X5 qual=true) (S:aP N ps scope)
  (len:∀vs H Q E,sp vs H Q E->vs.length=ps.length)
  (Zm:∀(A:ξ) (outer:VI Env) (s:η) (H:Hp) (vs:VI V) (Q:VK) (E:XK),cG k (A.deeper (envOfC qual scope s.heap.objs.size f X5))->sp vs H Q E->
   ∃t,Eg (oq CX P w K mg base N qual scope f X5 A outer s H E) body t/\t {nx:=λ_ H'=>Q .non H',rt:=Q} (start N vs) H):
  jy P w K mg base CX (k+1) f (W.fnOf name qual params body scope dV kV doc pm an X5 ct) ps sp:=by
 refine⟨len,λA outer s H args us vs Q E hr e0 hb r ZC=>?_⟩;have hl:=len _ _ _ _ ZC;have KX:K.In s.heap:=e0.mod.kin.keeps λb o e=>(e0.bs b o e).1;have lim:s.heap.NoLimit:=e0.mod.nolimit.keeps λb o e=>(e0.bs b o e).1;have XU:∀y∈ps.zip us,scope.names.lookup y.1=some .local\/(scope.names.lookup y.1=some .cell/\((cellsFrom (s.heap.objs.size+1) scope.names []).lookup y.1).isSome=true):=λ⟨n,v⟩ hy=>by
  rcases S.par n (Xr hy).1 with q|q
  .exact .inl q
  .exact .inr ⟨q,W.cellsFrom_some _ _ _ (.inl q)⟩
 refine codeAny_call_function hr.depth (KX _ _ lk) rfl S.co S.gen rfl (W.codeRec_of KX YY) (hb _ _ _ _ ?_);refine wpAny_newFunctionEnv_cells S.kind XU λenv he s1 x=>?_;subst he;refine⟨lim.keeps x.toInCall.keep,codeAny_func ?_⟩;obtain⟨t,ht,hq⟩:=Zm A outer s H vs Q E (hr.deeper _) ZC;have I:Inv (oq CX P w K mg base N qual scope f X5 A outer s H E) [] (start N vs) H s1:=GL S hr.hd e0 hl r x;refine pE (ht [] s1 (start N vs) H _ I hq) (λfl s' hs=>?_) λe s' hs=>hs;have fin:∀{σ':St} {H':Hp} {v:V} {u:ζ},Inv (oq CX P w K mg base N qual scope f X5 A outer s H E) [] σ' H' s'->RelV v u->Q v H'->CE outer P w H s Q u s':=
  λ{σ' H' v u} J rv q=>⟨v,H',J.os,J.bare,J.base,J.hok,rv,q⟩
 cases fl with
 |ret u=>
  obtain⟨v,σ',H',J,rv,q⟩:=hs;exact fin J rv q
 |next=>
  obtain⟨σ',H',J,q⟩:=hs;exact fin (v:=V.non) (u:=Value.none) J rfl q
 |brk=>
  obtain⟨_,_,_,q⟩:=hs;exact False.elim q
 |cont=>
  obtain⟨_,_,_,q⟩:=hs;exact False.elim q
section
variable{X:Cx}{x:Str}{p pos:Pos}{e:γ}{es:VI γ}{t:TA}{id T:String}{r:VI V->Hp->VK->Prop}
def fG(r:VI V->Hp->VK->Prop)(t:TA):TE:=λY H Q=>t Y H λvs H1=>r vs H1 Q
theorem AE(hc:fj X (.builtin id) r)(hg:Gl X x)(hm:X.mg x=none)(hv:bootBuiltins x=some (.builtin id))(ha:PA X (e::es) t)(hn:x ≠ "__name__" :=by decide)(Ym:(x==("__debug__" :Str))=false:=by decide)
  (he:starEach (e::es) X.env=(false,eval e X.env)::starEach es X.env:=by rfl) (X1:(backTo pos (starEach es X.env)).any (·.1)=false:=by rfl):PE X (.Call (.Name x p) (e::es) [] pos) (fG r t):=by
 intro Z0 s Y H Q I h;refine yA (n9 I hg hm hv ?_ hn Ym);exact PyProof.Rows.callWith_builtin1 (cT (ha pos Z0 s Y H _ I h) λus s1 ⟨vs,H1,I1,r1,q1⟩=>hc Z0 s1 Y H1 vs us Q I1 r1 q1) he X1
theorem xC(hc:fj X (.type T) r)(hg:Gl X x)(hm:X.mg x=none)(hv:bootBuiltins x=some (.type T))(ha:PA X (e::es) t)(hn:x ≠ "__name__" :=by decide)(Ym:(x==("__debug__" :Str))=false:=by decide)
  (he:starEach (e::es) X.env=(false,eval e X.env)::starEach es X.env:=by rfl) (X1:(backTo pos (starEach es X.env)).any (·.1)=false:=by rfl):PE X (.Call (.Name x p) (e::es) [] pos) (fG r t):=by
 intro Z0 s Y H Q I h;refine yA (n9 I hg hm hv ?_ hn Ym);exact tJ (cT (ha pos Z0 s Y H _ I h) λus s1 ⟨vs,H1,I1,r1,q1⟩=>hc Z0 s1 Y H1 vs us Q I1 r1 q1) he X1
end
end L2
namespace HT
open PySem PyProof.Rows
section
open PySem.SeqAt
open PySem.AutoSeq1 (wpAny_loadPart')
open PySem.MeetsSeq PySem.MeetsSeq2 PySem.MeetsSeq3
end
section
variable{prog:ι}{w:ν}{A:ξ}{E:ζ->η->Prop}{s:η}
def AF(n d:Nat):ο Int->Nat
 |none=>d
 |some v=>if v<0 then(v+(n:Int)).toNat else min v.toNat n
theorem AG(n d:Nat):AF n d none=d:=rfl
theorem Es(n d k:Nat):AF n d (some (k:Int))=min k n:=by
 show (if (k:Int)<0 then((k:Int)+(n:Int)).toNat else min (k:Int).toNat n)=min k n
 rw[cq ⋯,ij]
end
end HT
namespace L2
open PySem PySem.Spec PyProof.Rows
abbrev TO:=St->Hp->(ο Int->Hp->Prop)->Prop
def PO(X:Cx)(e:ο γ)(t:TO):Prop:=
 ∀(Z0:VI (θ×Obj)) (s:η) (Y:St) (H:Hp) (Q:ο Int->Hp->Prop),Inv X Z0 Y H s->t Y H Q->
  wpAny .(1) X.A (evalPart e X.env) (λu s'=>∃o H',Inv X Z0 Y H' s'/\IsPart u o/\Q o H') X.xe s
def gR:TO:=λ_ H Q=>Q none H
def nN(t:TE):TO:=λY H Q=>t Y H λx H1=>∃i,x=.int i/\Q (some i) H1
section
variable{X:Cx}{e:γ}{te:TE}{lo hi:ο γ}{tl th:TO}{pos p2:Pos}
theorem ME:PO X none gR:=by
 intro Z0 s Y H Q I h;rw[evalPart_none];exact bj ⟨none,H,I,.none,h⟩
theorem MF(h:PE X e te):PO X (some e) (nN te):=by
 intro Z0 s Y H Q I hw;rw[evalPart_some];refine cT (h Z0 s Y H _ I hw) λu s1 ⟨x,H1,I1,r1,q1⟩=>?_;obtain⟨i,rfl,q⟩:=q1;obtain⟨t,rfl⟩:=r1;exact⟨some i,H1,I1,.int i t,q⟩
def Um(X:Cx)(r:V->ο Int->ο Int->Hp->VK->Prop):Prop:=
 ∀(Z0:VI (θ×Obj)) (s:η) (Y:St) (H:Hp) (x:V) (v vl vu:ζ) (lo hi:ο Int) (sl:θ) (Q:VK),Inv X Z0 Y H s->RelV x v->s.heap.IsSliceOf sl vl vu .none->IsPart vl lo->IsPart vu hi->r x lo hi H Q->
  ∃T id,typeLookup (.type T) "__getitem__" =pure (some (.builtin id))/\s.TypeIs v T/\wpAny .(1) X.A (getItem v (.ref sl)) (EP X Z0 Y Q) X.xe s
def L7(r:V->ο Int->ο Int->Hp->VK->Prop)(te:TE)(tl th:TO):TE:=λY H Q=>te Y H λx H1=>tl Y H1 λl H2=>th Y H2 λu H3=>r x l u H3 Q
theorem IW{r:V->ο Int->ο Int->Hp->VK->Prop}(hr:Um X r)(he:PE X e te)(hl:PO X lo tl)(hu:PO X hi th):PE X (.Subscript e (.Slice lo hi none p2) pos) (L7 r te tl th):=by
 intro Z0 s Y H Q I h;refine Subscript_ (cT (he Z0 s Y H _ I h) λv s1 ⟨x,H1,I1,r1,q1⟩=>?_);refine wpAny_Slice (cT (hl Z0 s1 Y H1 _ I1 q1) λvl s2 ⟨l,H2,I2,pl,q2⟩=>cT (hu Z0 s2 Y H2 _ I2 q2) λvu s3 ⟨u,H3,I3,pu,q3⟩=>?_);rw[evalPart_none];refine bj ?_;have I4:Inv X Z0 Y H3 {s3 with heap:=s3.heap.push {cls:=.type "slice",data:=.fields #[vl,vu,.none] } }:=I3.kept (t':=s3.toks) λb ob q=>ba _ q
 obtain⟨T,id,hT,ht,hg⟩:=hr Z0 {s3 with heap:=s3.heap.push {cls:=.type "slice",data:=.fields #[vl,vu,.none] } } Y H3 x v vl vu l u s3.heap.objs.size Q I4 r1 (Heap.IsSliceOf.new ..) pl pu q3
 show wpAny .(1) X.A (subscriptTail e (.Slice lo hi none p2) v (.ref s3.heap.objs.size)) (EP X Z0 Y Q) X.xe {s3 with heap:=s3.heap.push {cls:=.type "slice",data:=.fields #[vl,vu,.none] } }
 exact tail_any (ops:=[.ref s3.heap.objs.size,v]) ht hT hg (by with_unfolding_all rfl)
def yp(xs:VI V)(lo hi:ο Int):VI V:=(xs.drop (HT.AF xs.length 0 lo)).take (HT.AF xs.length xs.length hi-HT.AF xs.length 0 lo)
theorem AH(xs:VI V)(lo hi:ο Int):(yp xs lo hi).length<=xs.length:=by
 unfold yp;rw[fg,TB];lia
end
def MG(n:Nat)(i:Int):ο Nat:=if 0<=i then(if i<n then some i.toNat else none) else if -(n:Int)<=i then some (i+n).toNat else none
def Of{α:Type}(xs:VI α)(i:Int):ο α:=(MG xs.length i).bind λj=>xs[j]?
theorem Et{n:Nat}{i:Int}{j:Nat}(h:MG n i=some j):seqIndex? i n=some j/\j<n/\-(n:Int)<=i/\i<n:=by
 unfold MG at h
 by_cases h0:0<=i
 .rw[df h0] at h
  by_cases h1:i<n
  .rw[df h1] at h;have e:i.toNat=j:=eI h;exact⟨by rw[seqIndex_of h0 h1,e],by lia,by lia,h1⟩
  .rw[cq h1] at h;cases h
 .rw[cq h0] at h
  by_cases h1:-(n:Int)<=i
  .rw[df h1] at h;have e:(i+n).toNat=j:=eI h;exact⟨by rw[seqIndex_neg ⋯ h1,e],by lia,h1,by lia⟩
  .rw[cq h1] at h;cases h
theorem yq{α:Type}{xs:VI α}{i:Int}{v:α}(h:Of xs i=some v):∃j,seqIndex? i xs.length=some j/\xs[j]?=some v/\j<xs.length/\-(xs.length:Int)<=i/\i<xs.length:=by
 unfold Of at h;cases e:MG xs.length i with
 |none=>rw[e] at h;cases h
 |some j=>
  rw[e] at h;obtain⟨h1,h2,h3,h4⟩:=Et e;exact⟨j,h1,h,h2,h3,h4⟩
theorem yr{α:Type}{xs:VI α}{j:Nat}{v:α}(h:xs[j]?=some v):Of xs (j:Int)=some v:=by
 have hj:j<xs.length:=(bo.mp h).1;have e:MG xs.length (j:Int)=some j:=by
  unfold MG;rw[df ⋯,df ⋯];simp
 unfold Of;rw[e];exact h
def MH(b:γ):Prop:=∀o i,subscripted b false o i=operate [o,i] (getItem o i)
def Q7(X:Cx)(r:R2):Prop:=
 ∀(value slice:γ) (Z0:VI (θ×Obj)) (s:η) (Y:St) (H:Hp) (x y:V) (v u:ζ) (Q:VK),Inv X Z0 Y H s->RelV x v->RelV y u->r x y H Q->
  subscripted slice false v u=operate [v,u] (getItem v u)->wpAny .(1) X.A (subscriptTail value slice v u) (EP X Z0 Y Q) X.xe s
def MI(X:Cx)(id:String)(r:V->VI V->Hp->VK->Prop):Prop:=
 ∀(Z0:VI (θ×Obj)) (s:η) (Y:St) (H:Hp) (x:V) (xs:VI V) (v:ζ) (us:VI ζ) (Q:VK),Inv X Z0 Y H s->RelV x v->Vals xs us->r x xs H Q->
  wpAny .(1) X.A (call (.builtin id) (v::us)) (EP X Z0 Y Q) X.xe s
section
variable{X:Cx}{a b:γ}{ta tb:TE}{pos:Pos}
theorem Ru{r:R2}(hr:Q7 X r)(ha:PE X a ta)(hb:PE X b tb)(hs:MH b):PE X (.Subscript a b pos) (aT r ta tb):=by
 intro Z0 s Y H Q I h;exact Subscript_ (O6 ha hb I h λv u s2 x y H2 I2 rx ry q=>hr a b Z0 s2 Y H2 x y v u Q I2 rx ry q (hs _ _))
def bV(K:W.Frag):R2:=λx y H Q=>∃p xs i v,x=.ref p/\y=.int i/\bw K H p xs/\Of xs i=some v/\Q v H
def cH(K:W.Frag):R2:=λx y H Q=>∃p xs i v,x=.ref p/\y=.int i/\fT K H p xs/\Of xs i=some v/\Q v H
def Uo:R2:=λx y H Q=>∃z i c,x=.str z/\y=.int i/\z.length<=sizeLine/\Of z.cps.toList i=some c/\Q (.str ⟨#[c]⟩) H
theorem aQ:Q7 X (bV X.K):=by
 intro value slice Z0 s Y H x y v u Q I rx ry h hs;obtain⟨p,xs,i,z,rfl,rfl,hq,he,q⟩:=h;cases rx;obtain⟨t,rfl⟩:=ry;obtain⟨XM,r,pl,hz⟩:=I.list hq;obtain⟨j,h1,h2,h3,h4,h5⟩:=yq he;obtain⟨w,ew,YE⟩:=r.get h2;have hl:=r.length;have hn:=qI;have fin:EP X Z0 Y Q w s:=⟨z,H,I,YE,q⟩
 by_cases h0:0<=i
 .have hj:i.toNat=j:=by
   rw[seqIndex_of h0 h5] at h1;exact eI h1
  exact item_listR pl.isList h0 ⋯ (by rw[hj];simpa using ew) fin hs
 .have hj:(i+(XM.toArray.size:Int)).toNat=j:=by
   rw[seqIndex_neg ⋯ h4] at h1;rw[ix,<-hl];exact eI h1
  exact subscriptTail_builtinR (x:=w) pl.isList.typeIs slot_list_getitem.lookup
   (wpAny_getItem_list_neg (Q:=λr s'=>r=w/\EP X Z0 Y Q r s') pl.isList ⋯ (by rw[ix]<;>lia) ⋯ (by rw[hj];simpa using ew) ⟨rfl,fin⟩) hs
theorem aX:Q7 X (cH X.K):=by
 intro value slice Z0 s Y H x y v u Q I rx ry h hs;obtain⟨p,xs,i,z,rfl,rfl,hq,he,q⟩:=h;cases rx;obtain⟨t,rfl⟩:=ry;obtain⟨XM,r,pl,hz⟩:=I.tuple hq;obtain⟨j,h1,h2,h3,h4,h5⟩:=yq he;obtain⟨w,ew,YE⟩:=r.get h2;have hl:=r.length;have hn:=qI;have fin:EP X Z0 Y Q w s:=⟨z,H,I,YE,q⟩;exact subscriptTail_builtinR (x:=w) pl.typeIs slot_tuple_getitem.lookup
  (getItem_tuple (j:=j) (Q:=λr s'=>r=w/\EP X Z0 Y Q r s') pl ⋯ ⋯ (by rw[ix,<-hl];exact h1) (by simpa using ew) ⟨rfl,fin⟩) hs
theorem Pe:Q7 X Uo:=by
 intro value slice Z0 s Y H x y v u Q I rx ry h hs;obtain⟨z,i,c,rfl,rfl,hz,he,q⟩:=h;obtain⟨t,rfl⟩:=rx;obtain⟨t',rfl⟩:=ry;obtain⟨j,h1,h2,h3,h4,h5⟩:=yq he;have hl:z.cps.toList.length=z.length:=by simp[Str.length]
 rw[hl] at h1 h4 h5;have hn:=qI;exact tail_any (typeIs_str s z t) slot_str_getitem.lookup (getItem_str (c:=c) (by
  have e1:decide (i < -(2^63:Int))=false:=eQ ⋯;have e2:decide (i≥2^63)=false:=eQ ⋯;rw[e1,e2,Bool.or_false]) (by rw[h1];simpa using h2) ⟨.str ⟨#[c]⟩,H,I.tok _,⟨_,rfl⟩,q⟩) hs
theorem CA(XM:VI ζ)(n j:Nat)(u:ζ):Obj.mapSeq (·.setIfInBounds j u) {cls:=.type "list",data:=.seq XM.toArray n}={cls:=.type "list",data:=.seq (XM.set j u).toArray n}:=by
 simp[Obj.mapSeq]
theorem Inv.lst{Z0:VI (θ×Obj)}{Y:St}{H:Hp}{s:η}{p:θ}{xs:VI V}(I:Inv X Z0 Y H s)(h:H p=some (.lst xs)):
  ∃(XM:VI ζ) (n:Nat),Vals xs XM/\s.heap.get? p=some {cls:=.type "list",data:=.seq XM.toArray n}/\xs.length<=sizeLine:=by
 obtain⟨z,XM,n,r,e⟩:=I.hok p _ h;exact⟨XM,n,r,e,z⟩
theorem Inv.Pf{Z0:VI (θ×Obj)}{Y:St}{H:Hp}{s:η}{p:θ}{xs ys:VI V}{XM its':VI ζ}{n n':Nat}{f:Obj->Obj}(I:Inv X Z0 Y H s)(h:H p=some (.lst xs))
  (ho:s.heap.get? p=some {cls:=.type "list",data:=.seq XM.toArray n}) (hf:f {cls:=.type "list",data:=.seq XM.toArray n}={cls:=.type "list",data:=.seq its'.toArray n' }) (r:Vals ys its') (hz:ys.length<=sizeLine) (t:Nat):
  Inv X Z0 Y (upd H p (.lst ys)) {s with heap:=s.heap.update p f,toks:=t}:=by
 have e:(s.heap.update p f).get? p=some {cls:=.type "list",data:=.seq its'.toArray n' }:=by
  rw[ik f ho (by rw[hf]<;>rfl),hf]
 refine I.write (x:=p) (e:=p) (by rw[h];trivial) (.inl rfl) (λb u hb q=>(fI _ _ (du hb)).trans q) ⟨_,e⟩ ?_;exact⟨hz,its',n',r,e⟩
def Eu:V->V->V->Hp->(Hp->Prop)->Prop:=λo i v H Q=>∃p xs k j,o=.ref p/\i=.int k/\H p=some (.lst xs)/\MG xs.length k=some j/\Q (upd H p (.lst (xs.set j v)))
theorem set_list:O0 X Eu:=by
 intro Z0 s Y H o i v ov iv u Q I ro ri rv h;obtain⟨p,xs,k,j,rfl,rfl,hp,hj,q⟩:=h;cases ro;obtain⟨t,rfl⟩:=ri;obtain⟨XM,n,r,ho,hz⟩:=I.lst hp;obtain⟨h1,h2,h3,h4⟩:=Et hj;have hl:=r.length;have hn:=qI;have I':Inv X Z0 Y (upd H p (.lst (xs.set j v))) {s with heap:=s.heap.update p (Obj.mapSeq (·.setIfInBounds j u))}:=
  I.Pf hp ho (CA XM n j u) (r.set rv j) (by rw[List.length_set];exact hz) s.toks
 by_cases h0:0<=k
 .have hk:k.toNat=j:=by
   rw[seqIndex_of h0 h4] at h1;exact eI h1
  exact W.ki_setAt ho h0 ⋯ (by rw[ix,<-hl];exact h4) (by rw[hk];exact⟨_,I',q⟩)
 .have hk:(k+(XM.toArray.size:Int)).toNat=j:=by
   rw[seqIndex_neg ⋯ h3] at h1;rw[ix,<-hl];exact eI h1
  exact W.ki_setBack ho ⋯ (by rw[ix,<-hl];exact h3) ⋯ (by rw[hk];exact⟨_,I',q⟩)
theorem yt(lo hi:ο Int)(n:Nat):(sliceBounds lo hi none n).1=((HT.AF n 0 lo:Nat):Int)/\(sliceBounds lo hi none n).2.1=((HT.AF n n hi:Nat):Int)/\(sliceBounds lo hi none n).2.2=1:=by
 refine⟨?_,?_,rfl⟩
 .cases lo with
  |none=>simp[sliceBounds,HT.AF]
  |some i=>
   simp only[sliceBounds,HT.AF,Option.getD_none,show (1:Int)>0 by decide,if_true]
   by_cases h:i<0
   .simp only[h,if_true]<;>lia
   .simp only[h,if_false]<;>lia
 .cases hi with
  |none=>simp[sliceBounds,HT.AF]
  |some i=>
   simp only[sliceBounds,HT.AF,Option.getD_none,show (1:Int)>0 by decide,if_true]
   by_cases h:i<0
   .simp only[h,if_true]<;>lia
   .simp only[h,if_false]<;>lia
theorem w5(XM:VI ζ)(lo hi:ο Int):slicePick XM.toArray lo hi none=((XM.drop (HT.AF XM.length 0 lo)).take (HT.AF XM.length XM.length hi-HT.AF XM.length 0 lo)).toArray:=by
 obtain⟨h1,h2,h3⟩:=yt lo hi XM.toArray.size;unfold slicePick;rw[h1,h2,h3];simp only[sliceRange_one,pick_run,size_toArray]<;>rfl
def AI(K:W.Frag):V->ο Int->ο Int->Hp->VK->Prop:=λx lo hi H Q=>∃a xs,x=.ref a/\bw K H a xs/\∀p,H p=none->Q (.ref p) (upd H p (.lst (yp xs lo hi)))
theorem j7:Um X (AI X.K):=by
 intro Z0 s Y H x v vl vu lo hi sl Q I rx hs pl pu h;obtain⟨a,xs,rfl,hx,q⟩:=h;cases rx;obtain⟨XM,r,ht,hz⟩:=I.list hx;have hlen:=r.length;refine⟨"list",_,slot_list_getitem.lookup,ht.isList.typeIs,?_⟩;refine wpAny_getItem_list_slice ht.isList hs pl pu .none .(4) ?_ (by rw[ix]<;>lia);rw[w5,<-hlen];refine⟨.ref s.heap.objs.size,_,I.laid (t':=s.toks) (o:=.lst (yp xs lo hi)) (λb ob q=>ba _ q) (bb _) ?_,rfl,q _ (I.hok.fresh (bb _))⟩;exact⟨eJ (AH xs lo hi) hz,_,0,(r.drop (HT.AF xs.length 0 lo)).take (HT.AF xs.length xs.length hi-HT.AF xs.length 0 lo),cx _ rfl⟩
theorem aU:fj X (.builtin "len") (λxs H Q=>∃p ys,xs=[.ref p]/\(bw X.K H p ys\/fT X.K H p ys)/\Q (.int ys.length) H):=by
 intro Z0 s Y H xs us Q I r h;obtain⟨p,ys,rfl,hq,q⟩:=h;obtain⟨u,rfl,rx⟩:=vals1 r;cases rx;have hn:=qI
 rcases hq with hq|hq
 .obtain⟨XM,r',pl,hz⟩:=I.list hq;have hlen:=r'.length;exact Calls.call_len_list pl.isList (by simp only[size_toArray]<;>lia) ⟨.int ys.length,H,I.tok _,⟨s.toks+1,by rw[ix,hlen]⟩,q⟩
 .obtain⟨XM,r',pl,hz⟩:=I.tuple hq;have hlen:=r'.length;exact len_tuple pl (by simp only[size_toArray]<;>lia) ⟨.int ys.length,H,I.tok _,⟨s.toks+1,by rw[ix,hlen]⟩,q⟩
theorem yu:fj X (.builtin "len") (λxs H Q=>∃z,xs=[.str z]/\z.length<=sizeLine/\Q (.int z.length) H):=by
 intro Z0 s Y H xs us Q I r h;obtain⟨z,rfl,hz,q⟩:=h;obtain⟨u,rfl,t,rfl⟩:=vals1 r;have hn:=qI;exact len_str ⋯ ⟨.int z.length,H,I.tok _,⟨_,rfl⟩,q⟩
theorem iE:fj X (.type "list") (λxs H Q=>∃p ys,xs=[.ref p]/\(bw X.K H p ys\/fT X.K H p ys)/\∀l,H l=none->Q (.ref l) (upd H l (.lst ys))):=by
 intro Z0 s Y H xs us Q I r h;obtain⟨p,ys,rfl,hq,q⟩:=h;obtain⟨u,rfl,rx⟩:=vals1 r;cases rx;have fin:∀(XM:VI ζ),Vals ys XM->ys.length<=sizeLine->∀(h':ε) (c':Nat),(∀b o',s.heap.get? b=some o'->h'.get? b=some o')->
   h'.get? s.heap.objs.size=some {cls:=.type "list",dict:=none,data:=.seq XM.toArray c',slots:=#[] }->EP X Z0 Y Q (.ref s.heap.objs.size) {s with heap:=h' }:=λXM r' hz h' c' kp e=>
  ⟨.ref s.heap.objs.size,_,I.laid (t':=s.toks) kp (bb _) (show cY X.prog X.w _ h' _ (.lst ys) from⟨hz,XM,c',r',e⟩),rfl,q _ (I.hok.fresh (bb _))⟩
 rcases hq with hq|hq
 .obtain⟨XM,r',pl,hz⟩:=I.list hq;have hlen:=r'.length;obtain⟨o,ho,hc,n,hd⟩:=pl.isList;exact call_list_seq p (.inl rfl) ho hc hd (λh' c' kp e=>fin XM r' hz h' c' kp e) (by simp only[size_toArray]<;>lia)
 .obtain⟨XM,r',pl,hz⟩:=I.tuple hq;have hlen:=r'.length;obtain⟨o,ho,hc,n,hd⟩:=pl;exact call_list_seq p (.inr rfl) ho hc hd (λh' c' kp e=>fin XM r' hz h' c' kp e) (by simp only[size_toArray]<;>lia)
def Uq(K:W.Frag)(T:String)(x:V)(H:Hp):Prop:=match x with
 |.str _=>T = "str"
 |.int _=>T = "int"
 |.ref p=>(T = "list" /\∃xs,bw K H p xs)\/(T = "tuple" /\∃o,K.lookup p=some o/\o.cls=.type "tuple" /\o.dict=none)\/
   (T = "dict" /\((∃kvs,H p=some (.dK kvs))\/∃kvs,H p=some (.dT kvs)))\/(T = "set" /\∃S n,H p=some (.set S n))
 |_=>False
theorem IX{Z0:VI (θ×Obj)}{Y:St}{H:Hp}{s:η}{T:String}{x:V}{v:ζ}(I:Inv X Z0 Y H s)(r:RelV x v)(ty:Uq X.K T x H):
  s.TypeIs v T/\∀a,v=.ref a->∃ob,s.heap.get? a=some ob/\ob.dict=none:=by
 cases x with
 |str z=>
  obtain⟨t,rfl⟩:=r;cases (show T = "str" from ty);exact⟨typeIs_str s z t,λ_ e=>nomatch e⟩
 |int i=>
  obtain⟨t,rfl⟩:=r;cases (show T = "int" from ty);exact⟨typeIs_int s i t,λ_ e=>nomatch e⟩
 |ref p=>
  cases r
  rcases ty with⟨rfl,xs,hq⟩|⟨rfl,o,hk,hc,hd⟩|⟨rfl,hk⟩|⟨rfl,S,n,hk⟩
  .obtain⟨XM,_,pl,_⟩:=I.list hq;refine⟨pl.isList.typeIs,λa e=>?_⟩;cases e;obtain⟨o,n,e,c,hd,_⟩:=pl;exact⟨o,e,hd⟩
  .refine⟨⟨o,I.Ef p o hk,hc⟩,λa e=>?_⟩;cases e;exact⟨o,I.Ef _ o hk,hd⟩
  .have z:∃o,s.heap.get? p=some o/\o.ExactDict:=by
    rcases hk with⟨kvs,hk⟩|⟨kvs,hk⟩
    .obtain⟨_,_,_,_,o,_,_,e,ex,_⟩:=I.hok p _ hk;exact⟨o,e,ex⟩
    .obtain⟨_,_,_,_,o,_,_,e,ex,_⟩:=I.hok p _ hk;exact⟨o,e,ex⟩
   obtain⟨o,e,ex⟩:=z;refine⟨⟨o,e,ex.1⟩,λa e2=>?_⟩;cases e2;exact⟨o,e,ex.2.1⟩
  .obtain⟨o,_,_,_,e,ex,_⟩:=I.hok p _ hk;refine⟨⟨o,e,ex.1⟩,λa e2=>?_⟩;cases e2;exact⟨o,e,ex.2.1⟩
 |_=>exact False.elim ty
def GN(K:W.Frag)(T:String)(r:V->VI V->Hp->VK->Prop)(to:TE):TE:=λY H Q=>to Y H λx H1=>Uq K T x H1/\r x [] H1 Q
def Ao(K:W.Frag)(T:String)(r:V->VI V->Hp->VK->Prop)(to:TE)(t:TA):TE:=λY H Q=>to Y H λx H1=>Uq K T x H1/\t Y H1 λxs H2=>r x xs H2 Q
variable{o e:γ}{es:VI γ}{to:TE}{t:TA}{name:Str}{apos XO:Pos}{T id:String}{r:V->VI V->Hp->VK->Prop}
theorem Pg(pa:PlainAttrs T)(slot:Slot T name id)(hty:typeOf (.builtin id)=pure (.type "method_descriptor"))(hm:MI X id r)(ho:PE X o to)
  (Yn:attributeBase o name X.env (eval o X.env)=eval o X.env:=by rfl) (Yo:(apos.endLine==XO.line)=true:=by rfl):PE X (.Call (.Attribute o name apos) [] [] XO) (GN X.K T r to):=by
 intro Z0 s Y H Q I h;refine wpAny_Call_method0_late Yn Yo (cT (ho Z0 s Y H _ I h) λv s1 ⟨x,H1,I1,r1,ty,q1⟩=>?_);obtain⟨h1,h2⟩:=IX I1 r1 ty;exact⟨T,id,pa,slot,hty,h1,h2,VN rfl (PySem.evalArgs_none (hm Z0 s1 Y H1 x [] v [] Q I1 r1 .nil q1))⟩
theorem Rv(pa:PlainAttrs T)(slot:Slot T name id)(hty:typeOf (.builtin id)=pure (.type "method_descriptor"))(hm:MI X id r)(ho:PE X o to)(ha:PA X (e::es) t)
  (Yn:attributeBase o name X.env (eval o X.env)=eval o X.env:=by rfl)
  (hfew:((backTo XO (starEach (e::es) X.env)).all (λx=>!x.1)&&(backToKw XO (keywordEach [] X.env)).all (λx=>x.1.isSome)
   && decide ((e::es).length+([]:VI Keyword).length+(if ([]:VI Keyword).isEmpty then 0 else 1)<30))=true:=by rfl)
  (Yo:(apos.endLine==XO.line)=true:=by rfl) (hs:starEach (e::es) X.env=(false,eval e X.env)::starEach es X.env:=by rfl) (Y0:(backTo XO (starEach es X.env)).any (·.1)=false:=by rfl):
  PE X (.Call (.Attribute o name apos) (e::es) [] XO) (Ao X.K T r to t):=by
 intro Z0 s Y H Q I h;refine wpAny_Call_method_late Yn hfew Yo rfl (cT (ho Z0 s Y H _ I h) λv s1 ⟨x,H1,I1,r1,ty,q1⟩=>?_);obtain⟨h1,h2⟩:=IX I1 r1 ty;refine⟨T,id,pa,slot,hty,h1,h2,?_⟩;have hA:=ha XO Z0 s1 Y H1 _ I1 q1;rw[hs] at hA ⊢;refine VN (by show (false||(backTo XO (starEach es X.env)).any (·.1))=false;rw[Y0]<;>rfl) (V8 ?_)
 exact cT hA λus s2 ⟨vs,H2,I2,r2,q2⟩=>hm Z0 s2 Y H2 x vs v us Q I2 r1 r2 q2
end
def Ur(X:Cx)(id:String)(r:V->VI V->Hp->VK->Prop):Prop:=
 ∀(Z0:VI (θ×Obj)) (s:η) (Y:St) (H:Hp) (x:V) (xs:VI V) (v:ζ) (us:VI ζ) (Q:VK),Inv X Z0 Y H s->RelV x v->Vals xs us->r x xs H Q->
  wpAny .(1) X.A (call (.builtin id) (v::us)) (EP X Z0 Y Q) X.xe s
theorem Vals.one:∀{x:V} {us:VI ζ},Vals [x] us->∃u,us=[u]/\RelV x u
 |_,_,.cons r .nil=>⟨_,rfl,r⟩
theorem Vals.two:∀{x y:V} {us:VI ζ},Vals [x,y] us->∃u v,us=[u,v]/\RelV x u/\RelV y v
 |_,_,_,.cons r (.cons q .nil)=>⟨_,_,rfl,r,q⟩
theorem Vals.zero:∀{us:VI ζ},Vals [] us->us=[]
 |_,.nil=>rfl
theorem Vals.reverse{xs:VI V}{us:VI ζ}(h:Vals xs us):Vals xs.reverse us.reverse:=by
 induction h with
 |nil=>exact .nil
 |cons r t ih=>rw[VO,VO];exact Vals.append ih (.cons r .nil)
section
variable{X:Cx}{Z0:VI (θ×Obj)}{Y:St}{H:Hp}{s:η}{l b:θ}{xs ys zs:VI V}
theorem Inv.Us{XM its':VI ζ}{n:Nat}{f:Array ζ->Array ζ}{t':Nat}(I:Inv X Z0 Y H s)(hH:H l=some (.lst xs))
  (e:s.heap.get? l=some {cls:=.type "list",data:=.seq XM.toArray n}) (hf:f XM.toArray=its'.toArray) (hv:Vals ys its') (hz:ys.length<=sizeLine):
  Inv X Z0 Y (upd H l (.lst ys)) {s with heap:=s.heap.update l (Obj.mapSeq f),toks:=t' }:=by
 have q:=PySem.IsL.update e f;rw[hf] at q;refine I.write (x:=l) (e:=l) (by rw[hH];exact trivial) (.inl rfl) (λb' u hb hu=>(fI s.heap (Obj.mapSeq f) (du hb)).trans hu) ⟨_,q⟩ ?_;exact⟨hz,its',_,hv,q⟩
theorem Inv.Ut{XM:VI ζ}{t':Nat}(I:Inv X Z0 Y H s)(hv:Vals ys XM)(hz:ys.length<=sizeLine):
  Inv X Z0 Y (upd H s.heap.objs.size (.lst ys)) {s with heap:=s.heap.push {cls:=.type "list",data:=.seq XM.toArray},toks:=t' }:=
 I.laid (λ_ _ q=>ba _ q) (bb _) ⟨hz,XM,0,hv,cx _ rfl⟩
theorem Inv.fresh(I:Inv X Z0 Y H s):H s.heap.objs.size=none:=I.hok.fresh (bb _)
theorem Inv.MJ(I:Inv X Z0 Y H s)(hH:H l=some (.lst xs)):xs.length<=sizeLine/\∃(XM:VI ζ) (n:Nat),Vals xs XM/\xs.length=XM.length/\s.heap.get? l=some {cls:=.type "list",data:=.seq XM.toArray n}:=by
 obtain⟨z,XM,n,r,e⟩:=I.hok l _ hH;exact⟨z,XM,n,r,r.length,e⟩
end
section
variable{X:Cx}
def mz:V->VI V->Hp->VK->Prop:=λx vs H Q=>∃l xs y,x=.ref l/\vs=[y]/\H l=some (.lst xs)/\xs.length<sizeLine/\Q .non (upd H l (.lst (xs++[y])))
theorem mC:Ur X "list.append" mz:=by
 intro Z0 s Y H x vs v us Q I rx rv h;obtain⟨l,xs,y,rfl,rfl,hH,hz,q⟩:=h;cases rx;obtain⟨u,rfl,ru⟩:=rv.one;obtain⟨z,XM,n,r,hl,e⟩:=I.MJ hH;refine call_meets F.slot_list_append ⟨_,e,rfl⟩ F.entry_list_append (F.args_list_append_2 _ _) (PySem.list_append l XM.toArray n u (by rw[ix];lia)) ⟨e,?_⟩;refine⟨.non,_,I.Us (its':=XM++[u]) hH e .(4) (r.append (.cons ru .nil)) ?_,rfl,q⟩;rw[de,List.length_singleton];lia
def CB:R2:=λx y H Q=>∃l b xs zs,x=.ref l/\y=.ref b/\H l=some (.lst xs)/\H b=some (.lst zs)/\xs.length+zs.length<=sizeLine/\∀p,H p=none->Q (.ref p) (upd H p (.lst (xs++zs)))
theorem ou:om X (binaryOp .Add) CB:=by
 intro Z0 s Y H x y v u Q I rx ry h;obtain⟨l,b,xs,zs,rfl,rfl,hH,hB,hz,q⟩:=h;cases rx;cases ry;obtain⟨z,XM,n,r,hl,e⟩:=I.MJ hH;obtain⟨z2,its2,n2,r2,Y1,e2⟩:=I.MJ hB;refine PySem.P.add_list e e2 ?_ (by rw[ix,ix];lia);have ea:XM.toArray++its2.toArray=(XM++its2).toArray:=by simp
 rw[ea];exact⟨.ref _,_,I.Ut (t':=s.toks) (r.append r2) (by rw[de];lia),rfl,q _ I.fresh⟩
end
end L2
namespace Att
open PySem PySem.W PySem.Calls PyProof.Rows
theorem tD{P:Params}{h:ε}:∀(ns:VI Int) (vs:VI ζ),WellAll P h vs (ns.map WData.int)->IntsAre vs ns:=by
 intro ns
 induction ns with
 |nil=>
  intro vs w;rw[XA] at w;cases w;exact .nil
 |cons n ns ih=>
  intro vs w;rw[lj] at w;cases w with
  |cons a b=>
   cases a;exact .cons _ _ (ih _ b)
theorem GO{l:OpenLaw}{n:Nat}(hn:l.most=some n){P:Params}{h:ε}{args:VI WData}{vals:VI ζ}
  (Y2:l.row.toRowW.claim.pre args=true) (hwl:WellAll P h vals args):
  ∃a vs ns,vals=[Value.ref a]/\args=[WData.list (ns.map WData.int)]/\h.get? a=some {cls:=.type "list",data:=.seq vs.toArray}/\IntsAre vs ns/\ns.length<=n:=by
 have hsh:WShape.hasAll [] args [.list .int]=true:=(pre_splitW Y2).1;have hc:l.pre.holds [] {args:=args}=true:=(pre_splitW Y2).2;obtain⟨d,r,rfl,h1,h2⟩:=hasAllW_cons hsh;obtain rfl:=hasAllW_nil h2;obtain⟨xs,rfl,h3⟩:=hasW_list h1;obtain⟨ns,rfl⟩:=items_int h3;have hlen:ns.length<=n:=by
  unfold OpenLaw.pre at hc;have h4:(WTm.not (.lt (.lit (.int (n:Int))) (.len (.arg 0)))).holds [] {args:=[.list (ns.map .int)] }=true:=by
   have h4:=(holds_andW hc).1;rw[hn] at h4;exact h4
  have h5:=condW_of h4 (w_not (w_lt w_lit (w_len_list (w_arg rfl))));rw[aw] at h5;refine Nat.le_of_not_lt λq=>?_;have q':(n:Int)<((ns.length:Nat):Int):=by lia
  first
   |(rw[dr q'] at h5;exact absurd h5 .(0))
   |(simp at h5;lia)
 cases hwl with
 |cons w1 w2=>
  cases w2;cases w1 with
  |list ho hall=>exact⟨_,_,ns,rfl,rfl,ho,tD ns _ hall,hlen⟩
theorem GP(l:OpenLaw)(args:VI WData):l.row.toRowW.claim.post args (.bool true) args=true:=
 postW_of (r:=l.row.toRowW) (X:=(true==true))
  (show WShape.has [] (.bool true) .bool=true by first|rfl|decide|simp[WShape.has,WShape.arms,WShape.armsAll])
  (show (WTm.eq .res (.lit (.bool true))).value [] {args:=args,res:=some (.bool true),after:=args}=some (.bool (true==true)) from w_eq_bool (w_res rfl) w_lit) rfl
theorem AJ{l:OpenLaw}{n:Nat}{q:ι}{loose:VI Str}{XP:(Str->ο ζ)->ε->Prop}{YP:ν->ε->Prop}{d:DefRec}
  (hn:l.most=some n) (hdf:d.params.defaults=[])
  (call:∀(w:ν) (s₀ s₁:η) (mg mb:Str->ο ζ) (fa:θ) (o:Obj) (pm cd doc:ζ) (a:θ) (vs:VI ζ) (ns:VI Int),
   Ground q loose [] XP w s₀ mg mb s₁.heap->YP w s₁.heap->
   s₁.heap.get? fa=some o->o.data=.func (docDef d.name d.params d.body d.scope pm cd doc)->s₁.heap.CodeRec cd d.name->mg d.name=some (.ref fa)->
   s₁.heap.get? a=some {cls:=.type "list",data:=.seq vs.toArray}->IntsAre vs ns->ns.length<=n->s₁.gens = #[]->
   codeAny (model l.prog w) callerA (.call (.ref fa) ⟨[.ref a],[]⟩) (λr s'=>r=.ok (.ret (.bool true))/\OldK s₁.heap s'.heap/\s'.os=s₁.os/\AllBare s'.gens) s₁):
  WalkO q loose XP YP l.row.toRowW d [] (λf vs=>PySem.call f vs):=by
 intro w s₀ s₁ mg mb G a7 fa o pm cd doc dV kV ho hd YY hD hmg hg args vals as Y2 hlay hrd hwl Zn;obtain rfl:dV=.none:=Dflts.none hD hdf;obtain rfl:kV=.none:=Dflts.noKw hD;obtain⟨a,vs,ns,rfl,rfl,hobj,hints,hlen⟩:=GO hn Y2 hwl;refine enter_call (Pl (call w s₀ s₁ mg mb fa o pm cd doc a vs ns G a7 ho (fd_plain hd) YY hmg hobj hints hlen hg) λr s' hq=>?_);obtain⟨rfl,h2,h3,h4⟩:=hq;exact⟨.inl ⟨.bool true,.bool true,[],rfl,λ_=>rfl,.bool true,GP l _,λ_=>⟨List.Pairwise.nil,λ_ hm=>(nomatch hm)⟩⟩,h2,h3,h4⟩
end Att
namespace L2
open PySem PySem.Spec PyProof.Rows
theorem xD:∀{vs:VI ζ} {ns:VI Int},IntsAre vs ns->Vals (ns.map V.int) vs
 |_,_,.nil=>.nil
 |_,_,.cons n t h=>.cons ⟨t,rfl⟩ (xD h)
def Ph(H:Hp):Prop:=∀b,H b=none\/∃o xs,H b=some (.frz o (.lst xs))
theorem IY{P:ι}{w:ν}{K:W.Frag}{mg mb:Str->ο ζ}{CX:AA}{k:Nat}{fa a:θ}{fd:FuncData}{x:Str}{sp:Sp}{s₁:η}{vs:VI ζ}{ns:VI Int}
  (KX:K.In s₁.heap) (hns:s₁.heap.Ns mainGlobals mg) (hb:s₁.heap.Ns builtinsNs mb) (hbb:∀x:Str,x ≠ "__name__"->mb x=bootBuiltins x) (hlim:s₁.heap.NoLimit) (hg:s₁.gens = #[])
  (ha:s₁.heap.get? a=some {cls:=.type "list",data:=.seq vs.toArray}) (hi:IntsAre vs ns) (hl:ns.length<=sizeLine) (hr:cG k callerA)
  (F:∀base:ε,K.In base->base.Ns mainGlobals mg->jy P w K mg base CX k fa fd [x] sp) (hbind:∀(s:η) (u:ζ),BindsTo s fd ⟨[u],[]⟩ [(x,u)])
  (ZC:∀H:Hp,Ph H->bw K H a (ns.map V.int)->sp [.ref a] H (λv _=>v=.bl true) λ_ _ _=>False)
  (hCX:∀H e s',CX [] H s₁ (λ_ _ _=>False) e s'->False):
  codeAny (model P w) callerA (.call (.ref fa) ⟨[.ref a],[]⟩) (λr s'=>r=.ok (.ret (.bool true))/\OldK s₁.heap s'.heap/\s'.os=s₁.os/\AllBare s'.gens) s₁:=by
 have rv:=xD hi;have Uu:=hi.length
 -- from an abstract heap in which nothing but ZA script may be tracked
 have core:∀H:Hp,Ph H->bw K H a (ns.map V.int)->mh P w H s₁.heap->(∀b,H b≠none->b=a)->(H a≠none->K.lookup a=none)->
   codeAny (model P w) callerA (.call (.ref fa) ⟨[.ref a],[]⟩) (λr s'=>r=.ok (.ret (.bool true))/\OldK s₁.heap s'.heap/\s'.os=s₁.os/\AllBare s'.gens) s₁:=by
  intro H hO hS hok hA hK;have Ew:∀{b:θ} {o:Obj},s₁.heap.get? b=some o->H b=none->(yg s₁.heap H).get? b=some o:=λe n=>Iz e n;have noA:∀{b:θ} {o:Obj} {es:Array DictEntry} {ep:Nat},s₁.heap.get? b=some o->o.data=.dict es ep->H b=none:=λ{b o es ep} e d=>by
   cases q:H b with
   |none=>rfl
   |some u=>
    have e':b=a:=hA b (by rw[q];simp);subst e';rw[ha] at e;cases e;have d':Data.seq vs.toArray _=Data.dict es ep:=d;cases d'
  have nsK:∀{b:θ} {m:Str->ο ζ},s₁.heap.Ns b m->(yg s₁.heap H).Ns b m:=λ{b m} ⟨o,es,ep,e,d,r⟩=>⟨o,es,ep,Ew e (noA e d),d,r⟩;have hKb:K.In (yg s₁.heap H):=λb o e=>Ew (KX b o e) (by
   cases q:H b with
   |none=>rfl
   |some u=>
    have e':b=a:=hA b (by rw[q];simp);subst e';rw[hK (by rw[q];simp)] at e;cases e)
  have hM:Mod K mg (yg s₁.heap H):=⟨hKb,nsK hns,⟨mb,nsK hb,hbb⟩,let ⟨mc,h1,h2⟩:=hlim;⟨mc,nsK h1,h2⟩⟩;have e0:Cy P w K mg (yg s₁.heap H) callerA [] s₁ H:=⟨rfl,hM,λb o e=>Mb e,XE (Gz _ _),trivial,λb hb=>absurd (show b∈([]:VI θ) from hb) .(4),hok,.of_eq hg⟩;refine Pl ((F _ hKb (nsK hns)).run callerA [] s₁ H ⟨[.ref a],[]⟩ [.ref a] [.ref a] _ _ hr e0 (hbind s₁ (.ref a)) (.cons rfl .nil) (ZC H hO hS)) λr s' h=>?_;cases r with
  |error e=>exact(hCX H e s' h).elim
  |ok fl=>
   cases fl with
   |next=>exact False.elim h
   |brk=>exact False.elim h
   |cont=>exact False.elim h
   |ret u=>
    obtain⟨v,H',os,bare,un,Uv,r',q⟩:=h;have q':v=.bl true:=q;subst q';obtain rfl:u=Value.bool true:=r';refine⟨rfl,OldK.of_keep λb o e=>?_,os,bare⟩;cases q:H b with
    |none=>exact un.keep b o e q (by intro z;exact absurd (show b∈([]:VI θ) from z) .(4)) .(4)
    |some u=>
     rcases hO b with z|⟨ob,xs,z⟩
     .rw[q] at z;cases z
     .have z2:=un.frzs b ob _ z;obtain⟨e1,_⟩:=hok b _ z;obtain⟨e2,_⟩:=Uv b _ z2;rw[e] at e1;cases e1;exact e2
 cases hk:K.lookup a with
 |some o=>
  -- ZA script is one of ZA module's own objects
  have e:=KX a o hk;rw[ha] at e;cases e;refine core (λ_=>none) (λ_=>.inl rfl) (.inr ⟨_,vs.toArray,_,hk,rfl,rfl,rfl,by rw[ix,Uu];exact hl,by simpa using rv⟩) (λb u z=>by have z':(none:ο HO)=some u:=z;cases z') (λb z=>absurd rfl z) λz=>absurd rfl z
 |none=>
  refine core (λb=>if b=a then some (.frz {cls:=.type "list",data:=.seq vs.toArray} (.lst (ns.map V.int))) else none) (λb=>?_) (.inl (.inr ⟨{cls:=.type "list",data:=.seq vs.toArray},df rfl⟩)) (λb u z=>?_) (λb z=>?_) λ_=>hk
  .by_cases hb:b=a
   .exact .inr ⟨_,_,df hb⟩
   .exact .inl (cq hb)
  .by_cases hb:b=a
   .have z':=(df hb).symm.trans z;cases z';subst hb;exact⟨ha,by rw[aw];exact hl,vs,_,rv,ha⟩
   .have z':=(cq hb).symm.trans z;cases z'
  .by_cases hb:b=a
   .exact hb
   .exact absurd (cq hb) z
abbrev Ud{K:W.Frag}{h:ε}(_:K.In h):W.Frag:=K
theorem Ex{l:W.OpenLaw}{n k:Nat}{q:ι}{loose:VI Str}{XP:(Str->ο ζ)->ε->Prop}{YP:ν->ε->Prop}{d:DefRec}{K:Params->W.Frag}{CX:ν->AA}{sp:ν->Sp}{x:Str}
  (hn:l.most=some n) (hn2:n<=sizeLine) (hdf:d.params.defaults=[]) (hr:cG k callerA)
  (hY:∀(w:ν) (h:ε),YP w h->(K w.params).In h)
  (F:∀(w:ν) (mg:Str->ο ζ) (fa:θ) (h:ε),(K w.params).In h->h.Ns mainGlobals mg->mg d.name=some (.ref fa)->
   ∃fd:FuncData,(∀(s:η) (u:ζ),BindsTo s fd ⟨[u],[]⟩ [(x,u)])/\
    ∀base:ε,(K w.params).In base->base.Ns mainGlobals mg->jy l.prog w (K w.params) mg base (CX w) k fa fd [x] (sp w))
  (ZC:∀(w:ν) (H:Hp) (a:θ) (ns:VI Int),ns.length<=n->Ph H->bw (K w.params) H a (ns.map V.int)->sp w [.ref a] H (λv _=>v=.bl true) λ_ _ _=>False)
  (hCX:∀(w:ν) (H:Hp) (s:η) (e:ζ) (s':η),CX w [] H s (λ_ _ _=>False) e s'->False):
  W.WalkO q loose XP YP l.row.toRowW d [] (λf vs=>PySem.call f vs):=by
 refine Att.AJ hn hdf λw s₀ s₁ mg mb fa o pm cd doc a vs ns G a7 ho hd YY hmg hobj hints hlen hg=>?_;have KX:=hY w _ a7;obtain⟨fd,hb,hF⟩:=F w mg fa _ KX G.T.g hmg;exact IY KX G.T.g G.T.b G.T.builtins G.T.nolimit hg hobj hints (eJ hlen hn2) hr hF hb (λH hO hS=>ZC w H a ns hlen hO hS) λH e s'=>hCX w H s₁ e s'
end L2
namespace L2
open PySem PySem.Spec PyProof.Rows
def inClass(s:δ)(j:Nat):δ:=match s with
 |.ClassDef _ _ _ body _ _ _ _ _ _ _=>body.getD j (.Pass ⟨0,0,0,0⟩)
 |_=>.Pass ⟨0,0,0,0⟩
def jg(s:δ):Arguments:=match s with
 |.FunctionDef _ a _ _ _ _ _ _ _ _=>a
 |_=>{posonlyargs:=[],args:=[],vararg:=none,kwonlyargs:=[],kw_defaults:=[],kwarg:=none,defaults:=[] }
def gu(s:δ):VI δ:=match s with
 |.FunctionDef _ _ b _ _ _ _ _ _ _=>b
 |_=>[]
def aE(s:δ):Scope:=match s with
 |.FunctionDef _ _ _ _ _ _ sc _ _ _=>sc
 |_=>{kind:=.function,names:=[],isGenerator:=false,isCoroutine:=false}
abbrev iM:AA:=λ_ _ _ _ _ _=>False
abbrev E0:XK:=λ_ _ _=>False
theorem cN{X:Cx}:Passes iM X E0:=λ_ _ _ _ _ _ _ h=>h.elim
structure Ey(K:W.Frag)(x qual:Str)(st:δ)(f:θ)(fd:FuncData):Prop where
 ex:∃(oc:ζ) (od:ο θ) (kV doc pm:ζ) (an:ο θ) (X5 ct:ζ) (ZL:Array (ο ζ)),
  fd=W.fnOf x qual (jg st) (gu st) (aE st) .none kV doc pm an X5 ct/\K.lookup f=some ⟨oc,od,.func fd,ZL⟩/\W.codeIn K X5 qual=true
 kp:W.keepIn K (.ref f)=true
section
variable{P:ι}{w:ν}{K:W.Frag}{mg:Str->ο ζ}{base:ε}
theorem Ey.ok{x qual:Str}{st:δ}{f:θ}{fd:FuncData}{N ps:VI Str}{k:Nat}{sp:Sp}(F:Ey K x qual st f fd)(S:aP N ps (aE st))(len:∀vs H Q E,sp vs H Q E->vs.length=ps.length)
  (Zm:∀(X5:ζ) (A:ξ) (outer:VI Env) (s:η) (H:Hp) (vs:VI V) (Q:VK) (E:XK),cG k (A.deeper (envOfC qual (aE st) s.heap.objs.size f X5))->sp vs H Q E->
   ∃t,Eg (oq iM P w K mg base N qual (aE st) f X5 A outer s H E).Mh (gu st) t/\t {nx:=λ_ H'=>Q .non H',rt:=Q} (start N vs) H):jy P w K mg base iM (k+1) f fd ps sp:=by
 obtain⟨oc,od,kV,doc,pm,an,X5,ct,ZL,rfl,lk,YY⟩:=F.ex;refine Oe lk YY S len λA outer s H vs Q E hr ZC=>?_;obtain⟨t,h,q⟩:=Zm X5 A outer s H vs Q E hr ZC;exact⟨t,h.Mh,q⟩
theorem Ey.binds{x qual:Str}{st:δ}{f:θ}{fd:FuncData}{ps:VI Str}(F:Ey K x qual st f fd)
  (h:∀(kV doc pm:ζ) (an:ο θ) (X5 ct:ζ) (us:VI ζ),us.length=ps.length->bindArgs (W.fnOf x qual (jg st) (gu st) (aE st) .none kV doc pm an X5 ct) ⟨us,[]⟩=pure (ps.zip us)):Binds K fd ps []:=by
 obtain⟨oc,od,kV,doc,pm,an,X5,ct,ZL,rfl,lk,YY⟩:=F.ex;exact .all (h kV doc pm an X5 ct)
theorem Pj{x qual:Str}{st:δ}{f:θ}{oc:ζ}{od an:ο θ}{ZL:Array (ο ζ)}{kV doc pm X5 ct:ζ}(l:K.lookup f=some ⟨oc,od,.func (W.fnOf x qual (jg st) (gu st) (aE st) .none kV doc pm an X5 ct),ZL⟩)
  (c:W.codeIn K X5 qual=true) (k:W.keepIn K (.ref f)=true):Ey K x qual st f (W.fnOf x qual (jg st) (gu st) (aE st) .none kV doc pm an X5 ct):=⟨⟨oc,od,kV,doc,pm,an,X5,ct,ZL,rfl,l,c⟩,k⟩
end
def aG(H H':Hp):Prop:=∀b o,H b=some o->H' b=some o
theorem aG.refl(H:Hp):aG H H:=λ_ _ h=>h
theorem aG.trans{H H1 H2:Hp}(a:aG H H1)(b:aG H1 H2):aG H H2:=λc o h=>b c o (a c o h)
theorem aG.free{H H':Hp}(e:aG H H'){l:θ}(h:H' l=Option.none):H l=Option.none:=by
 cases q:H l with
 |none=>rfl
 |some o=>
  rw[e l o q] at h;cases h
theorem aG.seq{K:W.Frag}{H H':Hp}{a:θ}{xs:VI V}(e:aG H H')(h:bw K H a xs):bw K H' a xs:=by
 rcases h with(h|⟨o,h⟩)|h
 .exact .inl (.inl (e _ _ h))
 .exact .inl (.inr ⟨o,e _ _ h⟩)
 .exact .inr h
end L2
namespace DictK
open PySem PyProof.Rows
def Kd{α:Type}:Sem α->Prop
 |.pure _=>True
 |.raise _=>True
 |.unsupported _=>True
 |.finish _=>True
 |.rule _ k=>Kd (k ())
 |.at _ k=>Kd (k ())
 |.load _ _ k=>∀o,Kd (k o)
 |.update _ _ f k=>(∀o,(f o).dict=o.dict/\(o.isFreed=false->(f o).isFreed=false))/\Kd (k ())
 |.alloc _ k=>∀a,Kd (k a)
 |.loadIfAlive _ k=>∀o,Kd (k o)
 |.point _ k=>Kd (k ())
 |.register _ _=>True
 |.fresh k=>∀t,Kd (k t)
 |.ask k=>∀x,Kd (k x)
 |.choose _ _ k=>∀n,Kd (k n)
 |.os _ _ k=>∀r,Kd (k r)
 |.call ..=>False
 |.handled _ k=>∀v,Kd (k v)
 |.newGen _ k=>∀g,Kd (k g)
 |.genState _ k=>∀x,Kd (k x)
 |.resume ..=>False
 |.yield ..=>True
 |.stack k=>∀l,Kd (k l)
 |.fork ..=>True
 |.thread k=>∀n,Kd (k n)
 |.await ..=>True
def Kept(h h':ε):Prop:=∀b o,h.get? b=some o->∃o',h'.get? b=some o'/\o'.dict=o.dict
theorem Kept.refl(h:ε):Kept h h:=λb o e=>⟨o,e,rfl⟩
theorem Kept.push{h₀ h:ε}(x:Kept h₀ h)(u:Obj):Kept h₀ (h.push u):=λb o e=>by
 obtain⟨o1,e1,d1⟩:=x b o e;exact⟨o1,ba u e1,d1⟩
theorem Kept.update{h₀ h:ε}(x:Kept h₀ h){a:θ}{f:Obj->Obj}(hf:∀o,(f o).dict=o.dict/\(o.isFreed=false->(f o).isFreed=false)):Kept h₀ (h.update a f):=λb o e=>by
 obtain⟨o1,e1,d1⟩:=x b o e
 by_cases z:a=b
 .subst z;exact⟨f o1,ik f e1 ((hf o1).2 (Heap.get?_some_iff.mp e1).2),((hf o1).1).trans d1⟩
 .exact⟨o1,(fI h f z).trans e1,d1⟩
theorem Rw{α:Type}(M:Model)(Γ:Ctx)(h₀:ε)(t:Sem α){Q:α->Pos->η->Prop}{E:ζ->Pos->η->Prop}(p:Pos)(s:η)(hk:Kd t)(h0:Kept h₀ s.heap)(h:Sem.wp M Γ t Q E p s):
  Sem.wp M Γ t (λa p' s'=>Q a p' s'/\Kept h₀ s'.heap) E p s:=by
 revert hk h0 h
 induction t generalizing p s with
 |pure x=>exact λ_ h0 h=>⟨h,h0⟩
 |raise v=>exact λ_ _ h=>h
 |unsupported|finish|yield|fork|await|register=>exact λ_ _ h=>h
 |rule _ k ih | «at» _ k ih|point _ k ih=>exact λhk h0 h=>ih _ _ _ hk h0 h
 |loadIfAlive _ k ih|fresh k ih|ask k ih|os _ _ k ih|handled _ k ih|newGen _ k ih|stack k ih|thread k ih=>exact λhk h0 h=>ih _ _ _ (hk _) h0 h
 |alloc o k ih=>exact λhk h0 h=>ih _ _ _ (hk _) (h0.push o) h
 |load a _ k ih|genState a k ih=>exact λhk h0 ⟨o,ho,h⟩=>⟨o,ho,ih _ _ _ (hk _) h0 h⟩
 |update a _ f k ih=>exact λhk h0 ⟨ha,h⟩=>⟨ha,ih _ _ _ hk.2 (h0.update hk.1) h⟩
 |choose _ _ k ih=>exact λhk h0 ⟨ha,h⟩=>⟨ha,ih _ _ _ (hk _) h0 h⟩
 |call c h g l k ih=>exact λhk=>hk.elim
 |resume g r l k ih=>exact λhk=>hk.elim
theorem IZ{α:Type}{M:Model}{A:ξ}{t:Sem α}{Q:α->η->Prop}{E:ζ->η->Prop}{s:η}(hk:Kd t)(h:wpAny M A t Q E s):wpAny M A t (λa s'=>Q a s'/\Kept s.heap s'.heap) E s:=
 λΓ p hΓ=>Rw M Γ s.heap t p s hk (Kept.refl _) (h Γ p hΓ)
theorem bT{α β:Type}{f:α->Sem β}(hf:∀a,Kd (f a)):∀{m:Sem α},Kd m->Kd (m>>=f):=by
 intro m;show Kd m->Kd (m.bind f)
 induction m with
 |pure x=>exact λ_=>hf x
 |raise v=>exact λ_=>trivial
 |unsupported|finish|yield|fork|await|register=>exact λ_=>trivial
 |rule _ k ih | «at» _ k ih|point _ k ih=>exact λh=>ih _ h
 |loadIfAlive _ k ih|fresh k ih|ask k ih|os _ _ k ih|handled _ k ih|newGen _ k ih|stack k ih|thread k ih|alloc _ k ih|load a _ k ih|genState a k ih|choose _ _ k ih=>exact λh x=>ih x (h x)
 |update a _ f k ih=>exact λh=>⟨h.1,ih _ h.2⟩
 |call c h g l k ih=>exact λh=>h.elim
 |resume g r l k ih=>exact λh=>h.elim
theorem j8{α:Type}(a:α):Kd (pure a:Sem α):=trivial
theorem Pk{α:Type}(w:String):Kd (unsupported w:Sem α):=trivial
theorem yw(a:θ):Kd (load a):=λ_=>trivial
theorem AL(v:ζ):Kd (fieldsOf v):=by
 unfold fieldsOf;split
 .refine bT (λo=>?_) (yw _);split<;>trivial
 .trivial
theorem pD(v:ζ)(i:Nat):Kd (field v i):=by
 unfold field;refine bT (λo=>?_) (AL v);split<;>trivial
theorem I9(f:Array ζ->Array ζ)(o:Obj):(Obj.mapFields f o).dict=o.dict/\(o.isFreed=false->(Obj.mapFields f o).isFreed=false):=by
 obtain⟨c,d,dt,sl⟩:=o;cases dt<;>exact⟨rfl,λh=>h⟩
theorem lD(v:ζ)(i:Nat)(x:ζ):Kd (setField v i x):=by
 unfold setField;split
 .unfold updateField;refine bT (λo=>?_) (yw _);split
  .split
   .exact⟨I9 _,trivial⟩
   .trivial
  .trivial
 .trivial
theorem uT:Kd stack:=λ_=>trivial
theorem yx(e:ζ)(fr:ο θ):Kd (setFlight e fr):=by
 unfold setFlight;refine bT (λtb=>?_) (pD e 1);split
 .exact lD _ _ _
 .trivial
theorem GQ(env:Env)(outer:VI Env):Kd (behindIsImport env outer):=by
 unfold behindIsImport;split
 .trivial
 .split
  .trivial
  .exact bT (λ_=>j8 _) (pD _ _)
theorem AM(env:Env)(i:Bool)(outer:VI Env):Kd (keptBack env i outer):=by
 cases outer with
 |nil=>
  unfold keptBack;dsimp only
  by_cases h:(env.scope.isGenerator||env.scope.isCoroutine)=true
  .rw[df h];exact j8 _
  .rw[cq h];refine bT (λ_=>j8 _) ?_;unfold underTheClaimsCaller;exact bT (λ_=>j8 _) uT
 |cons c r=>exact trivial
theorem CC{o:Obj}{sl:Array (ο ζ)}(h:o.isFreed=false):({o with slots:=sl}:Obj).isFreed=false:=by
 obtain⟨c,d,dt,s0⟩:=o;cases dt<;>exact h
theorem AN:∀l:VI Env,Kd (readyFrames l)
 |[]=>trivial
 |env::outer=>by
  unfold readyFrames;split
  .refine bT (λo=>?_) (yw _);split
   .trivial
   .refine bT (λi=>?_) (GQ env outer);refine bT (λb=>?_) (AM env i outer);refine bT (λ_=>AN outer) ?_;exact⟨λo=>⟨rfl,λh=>CC h⟩,trivial⟩
  .trivial
theorem CD(env:Env):Kd (PySem.frameOf env):=by
 unfold PySem.frameOf;refine bT (λl=>bT (λf=>?_) ?_) ?_
 .split<;>trivial
 .generalize List.dropWhile _ l=m;cases m with
  |nil=>trivial
  |cons e r=>
   unfold frameObject;exact bT (λ_=>j8 _) (AN _)
 .unfold frameEnvs;exact bT (λ_=>j8 _) uT
theorem Ja(f:θ)(b:Bool):Kd (entryPlaceOf f b):=by
 unfold entryPlaceOf;refine bT (λl=>?_) uT;split<;>trivial
theorem AO(a b c d e:ζ)(l:VI ζ):Kd (EntryCells.newEntry a b c d e l):=by
 unfold EntryCells.newEntry newFields newObj;dsimp only;have h:∀dt,Kd (newObjAsIs (.type "traceback") dt):=λdt=>by
  unfold newObjAsIs;exact bT (λa=>j8 _) λ_=>trivial
 generalize (if l.isEmpty=true then List.replicate 6 Value.none else l)=m
 by_cases z:([a,b,c,d,e]++m).toArray.size>sizeLine+2
 .rw[df z];exact bT (λ_=>h _) (Pk _)
 .rw[cq z];exact h _
theorem MK(e:ζ)(env:Env):Kd (noteFrame e env):=by
 unfold noteFrame;split
 .refine bT (λhead=>?_) (pD e 1);have last:∀f,Kd (do setField e 1 (<-EntryCells.newEntry head (<-PySem.frameOf env) .none (rawInt f) .none (<-entryPlaceOf f (head !=.none)))):=λf=>
   bT (λa=>bT (λb=>bT (λc=>lD _ _ _) (AO _ _ _ _ _ _)) (Ja _ _)) (CD env)
  split
  .refine bT (λx=>?_) (pD head 3);split
   .trivial
   .exact bT (λ_=>last _) (lD _ _ _)
  .exact last _
 .trivial
theorem uU(env:Env)(e:ζ):Kd (leaving env e):=by
 unfold leaving;exact bT (λ_=>yx e none) (MK e env)
end DictK
namespace DictK
open PySem PyProof.Rows
end DictK
namespace DictK
open PySem PyProof.Rows Builtin Builtin.ObjectAttr
end DictK
namespace L2
open PySem PySem.Spec PyProof.Rows
theorem pF{prog:ι}{w:ν}{A:ξ}{R:Result->η->Prop}{s:η}{elt target iter:γ}{ifs:VI γ}{scope:Scope}{pos:Pos}{it acc:ζ}{env:Env}(I:Nat->η->Prop)
  (turn:∀n s,I n s->wpAny .(2) A (pyNext it) (λr s₁=>match r with
   |none=>R (.ok .next) s₁
   |some v=>wpAny .(2) A (letOwnedTupleGo target it v) (λ_ s₁'=>wpAny .(2) A (assign target env v) (λ_ c4=>
     wpAny .(2) A (forIn ifs true λc r=>if r=true then do let ok <-isTrue c env (eval c env);pure (ForInStep.yield ok) else pure (ForInStep.yield r)) (λok a9=>
      if ok=true then wpAny .(2) A (eval elt env) (λx h9=>
       wpAny .(2) A (call (.builtin "list.append") [acc,x]) (λ_ s₅=>∃m,m<n/\I m s₅) (λ_ _=>False) h9) (λ_ _=>False) a9
      else ∃m,m<n/\I m a9) (λ_ _=>False) c4) (λ_ _=>False) s₁') (λ_ _=>False) s₁) (λ_ _=>False) s)
  (n:Nat) (h:I n s):
  codeAny .(2) A (.compLoop (.ListComp elt [⟨target,iter,ifs,0⟩] scope pos) 0 it acc env) R s:=by
 refine codeAny_loop rfl I (λn s hI=>?_) n h;show wpAny _ A ((compTurn (.ListComp elt [⟨target,iter,ifs,0⟩] scope pos) 0 it acc env).onRaise (λx=>do noteFrame x env;theTreesLotGoes x)) _ _ s;refine wpAny_noted ?_;rw[compTurn_list];refine ae (V6 (ae (pE (turn n s hI) (λr s₁ h₁=>?_) λ_ _ h'=>h'.elim)));cases r with
 |none=>exact bj h₁
 |some v=>
  refine ae (pE h₁ (λ_ s₁' h₁'=>?_) λ_ _ h'=>h'.elim);refine ae (pE h₁' (λ_ c4 i3=>ae (pE i3 (λok a9 i5=>?_) λ_ _ h'=>h'.elim)) λ_ _ h'=>h'.elim);cases ok with
  |false=>exact bj ⟨rfl,i5⟩
  |true=>
   exact ae (ae (pE i5 (λx h9 h₄=>ae (pE h₄ (λ_ s₅ h₅=>bj (bj ⟨rfl,h₅⟩)) λ_ _ h'=>h'.elim)) λ_ _ h'=>h'.elim))
def Jb(X:Cx)(ifs:VI γ)(t:TT):Prop:=
 ∀(Z0:VI (θ×Obj)) (s:η) (Y:St) (H:Hp) (Q:Bool->Hp->Prop),Inv X Z0 Y H s->t Y H Q->
  wpAny .(1) X.A (forIn ifs true λc r=>if r=true then do let ok <-isTrue c X.env (eval c X.env);pure (ForInStep.yield ok) else pure (ForInStep.yield r)) (TP X Z0 Y Q) X.xe s
def lE:TT:=λ_ H Q=>Q true H
theorem ML{X:Cx}:Jb X [] lE:=λ_ _ _ H _ I h=>wpAny_tests_nil ⟨H,I,h⟩
theorem MN{X:Cx}{c:γ}{t:TT}(h:PT X c t):Jb X [c] t:=λZ0 s Y H Q I hw=>wpAny_tests_one (h Z0 s Y H Q I hw)
theorem oz{env:Env}:∀(names:VI (Str×NameKind)) (acc:VI (Str×θ)),(∀y∈names,y.2=.free->∃c,env.cells.lookup y.1=some c)->(∀y∈acc,env.cells.lookup y.1=some y.2)->
  ∃cl:VI (Str×θ),(forIn (m:=Sem) names acc λ(x:Str×NameKind) cs=>if (x.2==NameKind.free)=true then(do let a <-cellOf env x.1;pure (ForInStep.yield ((x.1,a)::cs))) else pure (ForInStep.yield cs))=pure cl/\
   (∀y∈cl,env.cells.lookup y.1=some y.2)/\(∀y∈acc,y∈cl)/\∀y∈names,y.2=.free->∃c,(y.1,c)∈cl
 |[],acc,_,ha=>⟨acc,rfl,ha,λ_ h=>h,λ_ h=>nomatch h⟩
 |(n,k)::r,acc,hf,ha=>by
  by_cases hk:k=.free
  .subst hk;obtain⟨c,hc⟩:=hf (n,.free) bp rfl;obtain⟨cl,e,h1,h2,h3⟩:=oz r ((n,c)::acc) (λy hy=>hf y (dA _ hy)) (λy hy=>by
    rcases gL.mp hy with rfl|hy
    .exact hc
    .exact ha y hy)
   refine⟨cl,?_,h1,λy hy=>h2 y (dA _ hy),λy hy hk=>?_⟩
   .rw[List.forIn_cons];have e1:cellOf env n=pure c:=by unfold cellOf;rw[hc]
    simp only[beq_self_eq_true,if_true,e1];exact e
   .rcases gL.mp hy with rfl|hy
    .exact⟨c,h2 _ bp⟩
    .exact h3 y hy hk
  .have hb:(k==NameKind.free)=false:=by simpa using hk
   obtain⟨cl,e,h1,h2,h3⟩:=oz r acc (λy hy=>hf y (dA _ hy)) ha;refine⟨cl,?_,h1,h2,λy hy Ys=>?_⟩
   .rw[List.forIn_cons];simp only[hb,false_eq_true,if_false];exact e
   .rcases gL.mp hy with rfl|hy
    .exact absurd Ys hk
    .exact h3 y hy Ys
theorem gS{env:Env}{scope:Scope}(hf:∀y∈scope.names,y.2=.free->∃c,env.cells.lookup y.1=some c):
  ∃cl:VI (Str×θ),closureFor scope env=pure cl/\(∀y∈cl,env.cells.lookup y.1=some y.2)/\∀y∈scope.names,y.2=.free->∃c,(y.1,c)∈cl:=by
 obtain⟨cl,e,h1,_,h3⟩:=oz scope.names [] hf (λ_ h=>nomatch h);refine⟨cl,?_,h1,h3⟩;unfold closureFor;simp only[bind_pure];exact e
abbrev cE(X:Cx)(scope:Scope)(cl:VI (Str×θ))(C:θ)(N:VI Str)(s₀:η)(H₀:Hp)(ex:VI θ):Cx where
 prog:=X.prog
 w:=X.w
 K:=X.K
 mg:=X.mg
 base:=X.base
 A:=X.A
 N:=N
 s₀:=s₀
 H₀:=H₀
 env:=compEnvC scope cl C X.env
 outer:=X.stack
 stack:=X.stack
 ex:=ex
 fn:=λ_=>false
 calm:=X.calm
 pn:=[]
 xe:=λ_ _=>False
theorem lookup_mem{α β:Type}[BEq α][LawfulBEq α]{l:VI (α×β)}{x:α}{y:β}(h:l.lookup x=some y):(x,y)∈l:=by
 induction l with
 |nil=>cases h
 |cons p r ih=>
  obtain⟨a,b⟩:=p;rw[lookup_cons] at h;cases e:(x==a) with
  |true=>rw[e] at h;cases h;rw[eq_of_beq e];exact bp
  |false=>rw[e] at h;exact dA _ (ih h)
theorem mem_lookup{α β:Type}[BEq α][LawfulBEq α]{l:VI (α×β)}{x:α}{y:β}(h:(x,y)∈l):∃z,l.lookup x=some z:=by
 induction l with
 |nil=>cases h
 |cons p r ih=>
  obtain⟨a,b⟩:=p;rw[lookup_cons];cases e:(x==a) with
  |true=>exact⟨_,rfl⟩
  |false=>
   rcases gL.mp h with q|q
   .cases q;simp at e
   .exact ih q
theorem jh{scope:Scope}{env:Env}{y:Str}{k:NameKind}(h:(y,k)∈(relabel scope env).names):(y,k)∈scope.names\/(k=.cell/\(y,NameKind.free)∈scope.names):=by
 unfold relabel at h;obtain⟨⟨n,k'⟩,hm,e⟩:=km.mp h;dsimp only at e;split at e
 .rename_i hc
  cases e;have:k'=.free:=by
   have:=hc;simp only[and_eq_true,beq_iff_eq] at this;exact this.1.1
  subst this;exact .inr ⟨rfl,hm⟩
 .cases e;exact .inl hm
theorem fQ{env:Env}:∀{names:VI (Str×NameKind)} {x:Str},names.lookup x=some .free->
  (names.map λ(n,k)=>if (k==NameKind.free&&env.scope.kind ==.function&&env.kindOf n==some .cell) then(n,NameKind.cell) else(n,k)).lookup x=some .cell\/
  (names.map λ(n,k)=>if (k==NameKind.free&&env.scope.kind ==.function&&env.kindOf n==some .cell) then(n,NameKind.cell) else(n,k)).lookup x=some .free
 |[],_,h=>by simp at h
 |(n,k)::r,x,h=>by
  have ih:=@fQ env r x;show List.lookup x ((if (k==NameKind.free&&env.scope.kind ==.function&&env.kindOf n==some .cell)=true then(n,NameKind.cell) else(n,k))::_)=_\/List.lookup x ((if (k==NameKind.free&&env.scope.kind ==.function&&env.kindOf n==some .cell)=true then(n,NameKind.cell) else(n,k))::_)=_;cases hx:x==n with
  |true=>
   simp only[lookup_cons,hx] at h;cases h
   by_cases hc:(NameKind.free==NameKind.free&&env.scope.kind ==.function&&env.kindOf n==some .cell)=true
   .rw[df hc];simp[lookup_cons,hx]
   .rw[cq hc];simp[lookup_cons,hx]
  |false=>
   simp only[lookup_cons,hx] at h
   by_cases hc:(k==NameKind.free&&env.scope.kind ==.function&&env.kindOf n==some .cell)=true
   .rw[df hc];simp only[lookup_cons,hx];exact ih h
   .rw[cq hc];simp only[lookup_cons,hx];exact ih h
def br(fs:VE)(Y:St):St:=fs.map λj=>(Y[j]?).join
def eG(wi:TI)(fs:VE)(tt:TT)(te:TE):TE:=λY H Q=>wi Y H λJ H1=>∃W:Nat->Nat->VI V->Hp->Prop,(∃m,W 0 m [] H1)/\∀i m ys H,W i m ys H->ys.length<=sizeLine/\
 ((J.stop i H/\∀p,H p=none->Q (.ref p) (upd H p (.lst ys)))\/
  (J.go i H/\ys.length<sizeLine/\∀x H',J.yld i H x H'->tt (some x::br fs Y) H' λb H2=>if b=true then te (some x::br fs Y) H2 λy H3=>∃m',m'<m/\W (i+1) m' (ys++[y]) H3 else ∃m',m'<m/\W (i+1) m' ys H2))
section
variable{X:Cx}
theorem uV{elt iter:γ}{x:Str}{px pos:Pos}{ifs:VI γ}{scope:Scope}{fs:VI (Str×Nat)}{tt:TT}{te:TE}
  {Z0:VI (θ×Obj)} {Y:St} {H2:Hp} {s2:η} {it:θ} {fp:VI θ} {tn:Nat->ε->Prop} {J:It} {cl:VI (Str×θ)} {E:ζ->η->Prop}
  {P:ζ->θ->Result->η->Prop}
  (hc:X.calm=true) (XU:scope.kind=.function) (XY:∀y∈scope.names,y.2≠.cell) (hx:scope.names.lookup x=some .local)
  (hnd:(x::fs.map (·.1)).Nodup) (Zo:∀f∈fs,X.N[f.2]?=some f.1/\(X.env.kindOf f.1=some .cell\/X.env.kindOf f.1=some .free)/\scope.names.lookup f.1=some .free)
  (hb:∀(cl:VI (Str×θ)) (C:θ) (s₀:η) (H₀:Hp) (ex:VI θ),Jb (cE X scope cl C (x::fs.map (·.1)) s₀ H₀ ex) ifs tt/\PE (cE X scope cl C (x::fs.map (·.1)) s₀ H₀ ex) elt te)
  (qL:∀y∈cl,X.env.cells.lookup y.1=some y.2) (qM:∀y∈scope.names,y.2=.free->∃c,(y.1,c)∈cl)
  (I2:Inv X Z0 Y H2 s2) (T:Turn X.prog X.w X.K (.Name x px) J fp it tn) (Yw:tn 0 s2.heap) (f2:∀b∈fp,uN X Z0 H2 b)
  (W:Nat->Nat->VI V->Hp->Prop) (Qe:Hp->VI V->Prop) (w0:∃m,W 0 m [] H2)
  (turn:∀i m ys H,W i m ys H->ys.length<=sizeLine/\
   ((J.stop i H/\Qe H ys)\/
    (J.go i H/\ys.length<sizeLine/\∀x H',J.yld i H x H'->tt (some x::br (fs.map (·.2)) Y) H' λb H2=>if b=true then te (some x::br (fs.map (·.2)) Y) H2 λy H3=>∃m',m'<m/\W (i+1) m' (ys++[y]) H3 else ∃m',m'<m/\W (i+1) m' ys H2)))
  (hP:∀(D C:θ) (H':Hp) (s':η) (ys:VI V) (XM:VI ζ) (m:Str->ο ζ),s2.heap.objs.size<=C->s2.heap.get? D=none->s2.heap.get? C=none->D≠C->H' D=none->H' C=none->s'.heap.Ns C m->s'.heap.PlainList D XM.toArray->Vals ys XM->ys.length<=sizeLine->Qe H' ys->
   Un (frs X.stack) fp H2 H' s2.heap s'.heap->mh X.prog X.w H' s'.heap->AllBare s'.gens->s'.os=s2.os->P (.ref D) C (.ok .next) s'):
  wpAny .(1) X.A (newList []) (λacc a9=>wpAny .(1) X.A (newFunctionEnv scope X.env.globals cl [] X.env.qual none .none (some X.env)) (λZp h9=>
   codeAny .(1) X.A (.compStart (.ListComp elt [⟨.Name x px,iter,ifs,0⟩] scope pos) 0 (.ref it) acc {Zp with scope:=relabel scope X.env}) (P acc Zp.locals) h9) E a9) E s2:=by
 refine qr (wpAny_newFunctionEnv XY (by intro y hy;simp at hy) (λh₁ CF yy=>?_) XU);dsimp only at CF yy ⊢;generalize hH2:s2.heap.push {cls:=.type "list",dict:=none,data:=.seq ([]:VI ζ).toArray}=HH at CF yy ⊢;have hC:HH.objs.size=s2.heap.objs.size+1:=by rw[<-hH2,oo]
 generalize eD:s2.heap.objs.size=D at *;generalize eC:HH.objs.size=C at *;have Yy:D≠C:=by rw[hC];exact iq (vT _)
 have fresh:∀a,D<=a->s2.heap.get? a=none:=λa ha=>Kk (by rw[eD];exact ha);have hD0:s2.heap.get? D=none:=fresh D (bb _);have hC0:s2.heap.get? C=none:=fresh C (by rw[hC];exact xc _);have old:∀b o,s2.heap.get? b=some o->h₁.get? b=some o:=λb o e=>yy.extBut b o (λz=>by rw[z,hC0] at e;cases e) (ba _ (hH2▸ba _ e));have XW:h₁.PlainList D #[]:=⟨0,yy.extBut _ _ Yy (ba _ (hH2▸(eD▸cx _ rfl)))⟩;have HD:H2 D=none:=I2.hok.fresh (by rw[eD];exact bb _);have HC:H2 C=none:=I2.hok.fresh (by rw[eD,hC];exact xc _)
 -- ZA YF context
 let a7:Cx:=cE X scope cl C (x::fs.map (·.1)) s2 H2 fp
 have lk:∀y c,cl.lookup y=some c->X.env.cells.lookup y=some c:=λy c e=>qL (y,c) (lookup_mem e);have ZM:a7.Ok:=by
  refine⟨I2.ok.mod,XU,I2.ok.glob,I2.ok.blt,?_,λy z c h1 h2=>I2.ok.inj y z c (lk y c h1) (lk z c h2),λy hy=>?_,λ_ _ h _=>absurd h fb,I2.ok.hd,I2.ok.frames,.inl rfl,λb hb=>?_,I2.bs,?_,λb o e hb=>?_,λb hb hz=>?_,I2.stack,I2.tO⟩
  .show s2.heap.objs.size<=C;rw[eD,hC];exact xc _
  .have Z3:(relabel scope X.env).names.lookup y=some .cell\/(relabel scope X.env).names.lookup y=some .free:=hy;have hm:(y,NameKind.free)∈scope.names:=by
    rcases Z3 with e|e
    .rcases jh (lookup_mem e) with q|⟨_,q⟩
     .exact absurd rfl (XY _ q)
     .exact q
    .rcases jh (lookup_mem e) with q|⟨q,_⟩
     .exact q
     .cases q
   obtain⟨c,q⟩:=qM _ hm rfl;exact mem_lookup q
  .obtain⟨f0,f1,f3,f4,f5,f6⟩:=f2 b hb;refine⟨λz=>?_,λy c e=>f5 y c (lk y c e)⟩;obtain⟨o,ho,_⟩:=T.obj _ _ Yw b hb;have z':b=C:=z;rw[z',hC0] at ho;cases ho
  .exact eJ I2.ok.bsz I2.sz
  .obtain⟨f0,f1,f3,f4,f5,f6⟩:=f2 b hb
   rcases f4 with z|z
   .exact I2.ok.noex b o e z
   .exact absurd (ip (dq e) (eJ I2.ok.bsz z)) (oC _)
  .obtain⟨f0,f1,f3,f4,f5,f6⟩:=f2 b hb
   rcases gL.mp (I2.lB b hz) with z|z
   .exact f1 z
   .exact f3 z
 let τ:St:=none::br (fs.map (·.2)) Y
 have hτ:τ.length=(x::fs.map (·.1)).length:=by simp[τ,br]
 obtain⟨mL,hnL,hlL⟩:=id I2.loc;have yI:Inv a7 [] τ H2 {s2 with heap:=h₁,toks:=s2.toks+([]:VI (Str×ζ)).length}:=by
  refine⟨ZM,rfl,I2.bare,Un.kept old,⟨_,CF,λi y v e1 e2 e3=>?_⟩,λy c e=>?_,HC,λy c e=>I2.freeC y c (lk y c e),(λp hp=>nomatch hp),I2.hok.kept old,hτ⟩
  .cases i with
   |zero=>simp[τ] at e2
   |succ i=>
    have Zq:(fs.map (·.1))[i]?=some y:=e1;have e2':(br (fs.map (·.2)) Y)[i]?=some (some v):=by simpa [τ] using e2
    rw[cn] at Zq;cases q:fs[i]? with
    |none=>rw[q] at Zq;cases Zq
    |some f=>
     rw[q] at Zq;have ey:f.1=y:=eI Zq;obtain⟨g1,g2,g3⟩:=Zo f (dy q);have qN:(Y[f.2]?).join=some v:=by
      unfold br at e2';rw[cn,cn,q] at e2';exact eI e2'
     have e2c:Y[f.2]?=some (some v):=by
      cases r:Y[f.2]? with
      |none=>rw[r] at qN;cases qN
      |some o=>rw[r] at qN;have qN:o=some v:=qN;rw[qN]
     have vis:Ub X.env.scope f.1:=by
      rcases g2 with g|g
      .exact .inr (.inl g)
      .exact .inr (.inr g)
     obtain⟨u,ru,lu⟩:=hlL f.2 f.1 v g1 e2c vis;refine⟨u,ru,?_⟩;have lu':∃c,X.env.cells.lookup f.1=some c/\s2.heap.IsCell c (some u):=by
      rcases lu with⟨k,_⟩|⟨_,c,e,z⟩
      .rcases g2 with g|g
       .rw[k] at g;cases g
       .rw[k] at g;cases g
      .exact⟨c,e,z⟩
     obtain⟨c,XX,Yi⟩:=lu';obtain⟨c',hm⟩:=qM _ (lookup_mem g3) rfl;have hm':=qL _ hm;obtain⟨c2,Y1⟩:=mem_lookup hm;have:=lk _ _ Y1;rw[XX] at this;cases this;obtain⟨oc,ho,ZD⟩:=Yi;refine .inr ⟨?_,c,by rw[<-ey];exact Y1,oc,old c oc ho,ZD⟩;rw[<-ey];exact fQ g3
  .obtain⟨v,oc,ho,ZD⟩:=I2.cell y c (lk y c e);exact⟨v,oc,old c oc ho,ZD⟩
 have Zr:a7.env.scope.names.lookup x=some .local:=V9 hx;have fpD:∀b∈fp,b≠D:=λb hb z=>by
  obtain⟨o,ho,_⟩:=T.obj _ _ Yw b hb;rw[z,hD0] at ho;cases ho
 have stD:D∉frs X.stack:=λhz=>by
  rcases gL.mp (I2.lB D hz) with z|z
  .have:=I2.lt;rw[eD,<-z] at this;exact absurd this (oC _)
  .exact I2.OO (by rw[eD];exact bb _) z
 have Jc:∀y c,cl.lookup y=some c->c≠D:=λy c e z=>by
  obtain⟨v,oc,ho,_⟩:=I2.cell y c (lk y c e);rw[z,hD0] at ho;cases ho
 have uP:∀{H':Hp} {oD:Obj},(∀b∈fp,H' b=none)->∀b∈fp,uN a7 [(D,oD)] H' b:=λhn b hb=>by
  refine⟨hn b hb,(ZM.exf b hb).1,ZM.exfs b hb,.inl hb,(ZM.exf b hb).2,λp hp z=>?_⟩;have hp':p∈[(D,_)]:=hp;rw[bc.mp hp'] at z;exact fpD b hb z.symm
 obtain⟨m0,w0⟩:=w0;have loop:∀a9:η,a9={s2 with heap:=h₁,toks:=s2.toks+([]:VI (Str×ζ)).length}->
   codeAny .(1) X.A (.compLoop (.ListComp elt [⟨.Name x px,iter,ifs,0⟩] scope pos) 0 (.ref it) (.ref D) (compEnvC scope cl C X.env)) (P (.ref D) C) a9:=by
  rintro a9 rfl;refine pF (λn s'=>∃i ys XM H',Inv a7 [] τ H' s'/\tn i s'.heap/\(∀b∈fp,H' b=none)/\H' D=none/\s'.heap.PlainList D (List.toArray XM)/\Vals ys XM/\W i n ys H') ?_ m0
   ⟨0,[],[],H2,yI,T.keep _ _ _ Yw (λb _ o e=>old b o e),λb hb=>(f2 b hb).1,HD,XW,.nil,w0⟩
  rintro n s3 ⟨i,ys,XM,H3,I3,Z1,Z2,hD3,⟨n0,hoD⟩,ZN,w3⟩;obtain⟨hz,ht⟩:=turn i n ys H3 w3;have I3':Inv a7 [(D,{cls:=.type "list",data:=.seq XM.toArray n0})] τ H3 s3:=I3.mj λp hp=>by
   rw[bc.mp hp];exact⟨hoD,hD3,Yy,stD,λv z=>by cases z⟩
  rcases ht with⟨stop,q⟩|⟨go,hz',step⟩
  .refine cT (T.done a7 rfl rfl rfl hc i _ s3 τ H3 _ I3' (uP Z2) Z1 stop) λr s4 ⟨hr,I4⟩=>?_;subst hr;obtain⟨m,hn,_⟩:=I4.loc;exact hP D C H3 s4 ys XM m (by rw[hC];exact xc _) hD0 hC0 Yy hD3 I4.free hn ⟨n0,(I4.pin (D,_) (dC _ bp)).1⟩ ZN hz q I4.base I4.hok I4.bare I4.os
  .refine cT (T.item a7 rfl rfl rfl hc i _ s3 τ H3 _ I3' (uP Z2) Z1 go) λr s4 ⟨u,hr,h4⟩=>?_;subst hr;refine cT h4 λ_ s5 ⟨x',H5,I5,r5,y5,YZ,fr5⟩=>?_;have I5':=I5.pinned (fp:=fp) (uP fr5) (T.obj _ _ YZ);refine cT (tQ (X:=a7) (i:=0) (pos:=px) hnd rfl (.inl Zr) (.inr Zr) _ s5 τ H5 x' u (λσ' H'=>σ'=some x'::br (fs.map (·.2)) Y/\H'=H5) I5' r5 ⟨rfl,rfl⟩) λ_ s6 ⟨σ6,H6,I6,e6,e6'⟩=>?_;subst e6 e6';have back:∀{σ':St} {H':Hp} {s':η},Inv a7 ([(D,{cls:=.type "list",data:=.seq XM.toArray n0})]++qG fp s5.heap) (some x'::br (fs.map (·.2)) Y) H' s'->
     Inv a7 [] τ H' s'/\tn (i+1) s'.heap/\(∀b∈fp,H' b=none)/\H' D=none/\s'.heap.PlainList D XM.toArray:=λ{σ' H' s'} J'=>by
    refine⟨(J'.mj (pins':=[]) (λp hp=>absurd hp .(4))).weak rfl λj v e=>?_,T.keep _ _ _ YZ λb hb o e=>(J'.pin (b,o) (dC _ (dC _ (gH hb e)))).1,λb hb=>?_,?_,n0,?_⟩
    .cases j with
     |zero=>cases e
     |succ j=>exact e
    .obtain⟨o,e,d⟩:=T.obj _ _ YZ b hb;exact(J'.pin (b,o) (dC _ (dC _ (gH hb e)))).2.1
    .exact(J'.pin (D,_) (dC _ (hU _ bp))).2.1
    .exact(J'.pin (D,_) (dC _ (hU _ bp))).1
   refine cT ((hb cl C s2 H2 fp).1 _ s6 _ _ _ I6 (step x' H6 y5)) λok s7 ⟨H7,I7,q7⟩=>?_;cases ok with
   |false=>
    obtain⟨m',hm,w7⟩:=q7;obtain⟨a1,a2,a3,a4,a5⟩:=back (σ':=τ) I7;exact⟨m',hm,i+1,ys,XM,H7,a1,a2,a3,a4,a5,ZN,w7⟩
   |true=>
    refine cT ((hb cl C s2 H2 fp).2 _ s7 _ _ _ I7 q7) λy s8 ⟨yv,H8,I8,ry,m',hm,w8⟩=>?_;obtain⟨a1,a2,a3,a4,a5⟩:=back (σ':=τ) I8;have hlen:=ZN.length;refine wpAny_list_append_plain (hsz:=by rw[ix,<-hlen];exact hz) a5 λh' Za Yd=>?_;refine⟨m',hm,i+1,ys++[yv],XM++[y],H8,a1.turned (t':=s8.toks) (it:=D) (λb o hb e=>Yd.extBut b o hb e) a4 Yy (.inr (by show s2.heap.objs.size<=D;rw[eD];exact bb _)) (λy c e=>Jc y c e) (λp hp=>absurd (show p∈([]:VI (θ×Obj)) from hp) .(4)),T.keep _ _ _ a2 λb hb o e=>Yd.extBut b o (fpD b hb) e,a3,a4,by simpa using Za,ZN.append (.cons ry .nil),w8⟩
 exact codeAny_compStart_list (loop _ rfl) (T.self X.A 0 _ _ _ (T.keep _ _ _ Yw (λb _ o e=>old b o e)) (loop _ rfl))
theorem j9{Z0:VI (θ×Obj)}{Y:St}{H2 H':Hp}{s2 s':η}{fp:VI θ}{D C:θ}{ys:VI V}{XM:VI ζ}{h':ε}{tk:Nat}(I2:Inv X Z0 Y H2 s2)(f2:∀b∈fp,uN X Z0 H2 b)
  (hD:s2.heap.get? D=none) (hC:s2.heap.get? C=none) (Yy:D≠C) (HD:H' D=none) (HC:H' C=none) (pl:s'.heap.PlainList D XM.toArray) (rv:Vals ys XM) (hz:ys.length<=sizeLine)
  (u:Un (frs X.stack) fp H2 H' s2.heap s'.heap) (hok:mh X.prog X.w H' s'.heap) (hg:AllBare s'.gens) (ho:s'.os=s2.os) (hs:Heap.SameBut C s'.heap h'):
  Inv X Z0 Y (upd H' D (.lst ys)) {s' with heap:=h',toks:=tk}:=by
 have kC:∀b o,b≠C->s'.heap.get? b=some o->h'.get? b=some o:=λb o hb e=>hs.extBut b o hb e;have ZY:∀b o,s2.heap.get? b=some o->b≠C:=λb o e z=>by rw[z,hC] at e;cases e
 have neD:∀b o,s2.heap.get? b=some o->b≠D:=λb o e z=>by rw[z,hD] at e;cases e
 have trD:∀b o,H' b=some o->b≠D:=λb o e z=>by rw[z,HD] at e;cases e
 refine I2.Rf (ch:=fp) ho ⟨λb o e n hb hx=>kC b o (ZY b o e) (u.keep b o e n hb hx),λb o e n hb hx=>?_,λb o e n hx=>?_,λb o e hx=>?_,λb xs e=>?_,λb o w e=>?_,λb ps e=>?_⟩ (λb o e=>?_) hg λb hb=>?_
 .obtain⟨sl,q⟩:=u.slot b o e n hb hx;exact⟨sl,kC b _ (ZY b o e) q⟩
 .rw[aH (neD b o e)];exact u.free b o e n hx
 .obtain⟨o',q⟩:=u.there b o e hx;exact⟨o',kC b _ (ZY b o e) q⟩
 .have q:=u.tups b xs e;rw[aH (trD b _ q)];exact q
 .have q:=u.frzs b o w e;rw[aH (trD b _ q)];exact q
 .obtain⟨more,q⟩:=u.tbls b ps e;exact⟨more,by rw[aH (trD b _ q)];exact q⟩
 .by_cases hb:b=D
  .subst hb;rw[aq] at e;cases e;obtain⟨n,q⟩:=pl;exact⟨hz,XM,n,rv,kC b _ Yy q⟩
  .rw[aH hb] at e;refine(hok b o e).stay (λc v hc q=>kC c v (λz=>?_) q) (λc q=>by rw[aH (trD c _ q)];exact q) λc xs q=>by rw[aH (trD c _ q)];exact q
   rcases hc with hc|hc
   .rw[hc] at z;rw[z,HC] at e;cases e
   .rw[z,HC] at hc;cases hc
 .obtain⟨f0,f1,f3,f4,f5,f6⟩:=f2 b hb;exact⟨f4,f1,f5,f6⟩
theorem MP{elt iter:γ}{x:Str}{px pos:Pos}{ifs:VI γ}{scope:Scope}(fs:VI (Str×Nat)){wi:TI}{tt:TT}{te:TE}
  (hc:X.calm=true) (XU:scope.kind=.function) (XY:∀y∈scope.names,y.2≠.cell) (Yb:∀y∈scope.names,y.2=.local->scope.names.lookup y.1=some .local)
  (X9:∀y∈scope.names,y.2=.free->X.env.kindOf y.1=some .cell\/X.env.kindOf y.1=some .free) (hx:scope.names.lookup x=some .local)
  (hnd:(x::fs.map (·.1)).Nodup) (Zo:∀f∈fs,X.N[f.2]?=some f.1/\(X.env.kindOf f.1=some .cell\/X.env.kindOf f.1=some .free)/\scope.names.lookup f.1=some .free)
  (hi:PI X (.Name x px) iter wi)
  (hb:∀(cl:VI (Str×θ)) (C:θ) (s₀:η) (H₀:Hp) (ex:VI θ),Jb (cE X scope cl C (x::fs.map (·.1)) s₀ H₀ ex) ifs tt/\PE (cE X scope cl C (x::fs.map (·.1)) s₀ H₀ ex) elt te)
  (hs:∀x,foldedSetIterable iter X.env x=pure x:=by intro _;rfl):
  PE X (.ListComp elt [⟨.Name x px,iter,ifs,0⟩] scope pos) (eG wi (fs.map (·.2)) tt te):=by
 intro Z0 s Y H Q I h;obtain⟨cl,Yp,qL,qM⟩:=gS (env:=X.env) (scope:=scope) λy hy hk=>I.ok.has y.1 (X9 y hy hk);rw[eval_ListComp];refine Ap (use:=none) rfl hs Yp XU Yb (cT (hi Z0 s Y H _ I h) λv s1 h1=>cT h1 λitv s2 h2=>?_);obtain⟨it,fp,tn,J,H2,e,I2,T,Yw,f2,W,w0,turn⟩:=h2;subst e;refine uV (Z0:=Z0) hc XU XY hx hnd Zo hb qL qM I2 T Yw f2 W (λH ys=>∀p,H p=none->Q (.ref p) (upd H p (.lst ys))) w0 turn ?_;intro D C H' s' ys XM m hCs hD hC Yy HD HC hn pl rv hz q u hok hg ho;exact⟨m,hn,λh' Yd=>⟨.ref D,_,j9 (tk:=s'.toks) I2 f2 hD hC Yy HD HC pl rv hz u hok hg ho Yd,rfl,q D HD⟩⟩
def fq(i:Nat)(wi:TI)(fs:VE)(tt:TT)(te:TE):TS:=λD Y H=>eG wi fs tt te Y H λv H1=>D.nx (Y.set i (some v)) H1
theorem MQ{i:Nat}{y:Str}{py Ye:Pos}{elt iter:γ}{x:Str}{px pos:Pos}{ifs:VI γ}{scope:Scope}(fs:VI (Str×Nat)){wi:TI}{tt:TT}{te:TE}
  (hN:X.N.Nodup) (hy:X.N[i]?=some y) (Zh:X.env.scope.names.lookup y=some .local)
  (hc:X.calm=true) (XU:scope.kind=.function) (XY:∀y∈scope.names,y.2≠.cell) (Yb:∀y∈scope.names,y.2=.local->scope.names.lookup y.1=some .local)
  (X9:∀y∈scope.names,y.2=.free->X.env.kindOf y.1=some .cell\/X.env.kindOf y.1=some .free) (hx:scope.names.lookup x=some .local)
  (hnd:(x::fs.map (·.1)).Nodup) (Zo:∀f∈fs,X.N[f.2]?=some f.1/\(X.env.kindOf f.1=some .cell\/X.env.kindOf f.1=some .free)/\scope.names.lookup f.1=some .free)
  (hi:PI X (.Name x px) iter wi)
  (hb:∀(cl:VI (Str×θ)) (C:θ) (s₀:η) (H₀:Hp) (ex:VI θ),Jb (cE X scope cl C (x::fs.map (·.1)) s₀ H₀ ex) ifs tt/\PE (cE X scope cl C (x::fs.map (·.1)) s₀ H₀ ex) elt te)
  (ZO:swapsWith (.ListComp elt [⟨.Name x px,iter,ifs,0⟩] scope pos) (some (.Name y py)) Ye.line X.env=pure true)
  (hs:∀x,foldedSetIterable iter X.env x=pure x:=by intro _;rfl):
  PS X (.Assign [.Name y py] (.ListComp elt [⟨.Name x px,iter,ifs,0⟩] scope pos) Ye) (fq i wi (fs.map (·.2)) tt te):=by
 intro Z0 s Y H D' I h;obtain⟨cl,Yp,qL,qM⟩:=gS (env:=X.env) (scope:=scope) λy hy hk=>I.ok.has y.1 (X9 y hy hk);rw[exec_Assign_Name_used _ _ _ _ ZO];refine ae (V6 (ae ?_));show wpAny _ X.A (do let _ <-comprehension (.ListComp elt [⟨.Name x px,iter,ifs,0⟩] scope pos) scope X.env _ (newList []) false (eval iter X.env) (some (assign (.Name y py) X.env))) _ _ s
 refine ae (pE (Ap (use:=some (assign (.Name y py) X.env)) (Q:=λ_ s'=>SP X Z0 D' .next s') rfl hs Yp XU Yb
  (cT (hi Z0 s Y H _ I h) λv s1 h1=>cT h1 λitv s2 h2=>?_)) (λ_ s' hq=>bj (bj hq)) λ_ _ e=>e)
 obtain⟨it,fp,tn,J,H2,e,I2,T,Yw,f2,W,w0,turn⟩:=h2;subst e;refine uV (Z0:=Z0) hc XU XY hx hnd Zo hb qL qM I2 T Yw f2 W (λH ys=>∀p,H p=none->D'.nx (Y.set i (some (.ref p))) (upd H p (.lst ys))) w0 turn ?_;intro D C H' s' ys XM m hCs hD hC Yy HD HC hn pl rv hz q u hok hg ho;show wpAny _ X.A (assign (.Name y py) X.env (.ref D)) _ _ _
 -- store,with ZA YF frame still there
 have J:=j9 (tk:=s'.toks) I2 f2 hD hC Yy HD HC pl rv hz u hok hg ho (WA C s'.heap);refine Wy (qF J hN hy (.inl Zh) (v:=.ref D) (u:=.ref D) rfl (λs3 J3 ⟨a,sb,ha⟩=>?_) (.inr Zh));have exL:∃o,s2.heap.get? X.env.locals=some o:=let ⟨_,⟨o,_,_,e,_⟩,_⟩:=I2.loc;⟨o,e⟩;have AQ:∀z c,X.env.cells.lookup z=some c->c≠C:=λz c e q=>by
  obtain⟨v,oc,ho,_⟩:=I2.cell z c e;rw[q,hC] at ho;cases ho
 have aC:a≠C:=by
  rcases ha with z|z
  .obtain⟨o,e⟩:=exL;intro q;rw[<-z,q,hC] at e;cases e
  .exact AQ y a z
 have LC:C≠X.env.locals:=λq=>by
  obtain⟨o,e⟩:=exL;rw[<-q,hC] at e;cases e
 refine⟨m,hn.sameBut sb (du aC),λh' Yd=>?_⟩;exact⟨_,_,J3.turned (t':=s3.toks) (it:=C) (λb o hb e=>Yd.extBut b o hb e) (by rw[aH (du Yy)];exact HC) LC (.inr (eJ I2.sz hCs)) AQ (λp hp z=>by
  have:=(I2.pin p hp).1;rw[z,hC] at this;cases this),q D HD⟩
end
end L2
namespace L2
open PySem PySem.Spec PyProof.Rows PySem.Builtin.Str
def txt(l:VE):Str:=⟨l.toArray⟩
theorem txt_codes(x:Str):txt x.cps.toList=x:=by cases x;simp[txt]
theorem bW(l:VE):(txt l).cps.toList=l:=by simp[txt]
theorem gv(l:VE):(txt l).length=l.length:=by simp[txt,Str.length]
theorem cC{a b:VE}:txt a=txt b↔a=b:=⟨λh=>by simpa [txt] using h,λh=>by rw[h]⟩
theorem MS(a b:VE):txt a++txt b=txt (a++b):=by
 show Str.mk (a.toArray++b.toArray)=_;simp[txt]
section
variable{X:Cx}
def gT(p:Nat->Bool)(l:VE):VE:=(l.reverse.dropWhile p).reverse
theorem GS(p:Nat->Bool)(l:VE):Txt.stripBy p false true (txt l)=txt (gT p l):=by
 have hlen:(l.reverse.takeWhile p).length+(l.reverse.dropWhile p).length=l.length:=by
  have:=tz List.length (V0 (p:=p) (l:=l.reverse));rw[de,Qb] at this;exact this
 have Y2:l.take (l.length-(l.reverse.takeWhile p).length)=gT p l:=by
  have e:l=gT p l++(l.reverse.takeWhile p).reverse:=by
   have:=tz List.reverse (V0 (p:=p) (l:=l.reverse));rw[List.reverse_append,Wa] at this;exact this.symm
  have hl:(gT p l).length=l.length-(l.reverse.takeWhile p).length:=by unfold gT;rw[Qb];lia
  have h:=List.take_left (l₁:=gT p l) (l₂:=(l.reverse.takeWhile p).reverse);rw[<-e,hl] at h;exact h
 unfold Txt.stripBy stripSame stripped stripLo stripHi;simp only[false_eq_true,if_false,if_true,bW,drop_zero,gv];have e2:strSub (txt l) 0 (l.length-(l.reverse.takeWhile p).length)=txt (gT p l):=by
  rw[<-Y2];simp[strSub,txt,List.extract_eq_take_drop]
 split
 .rename_i hc
  have Zb:l.length-(l.reverse.takeWhile p).length=l.length:=by simpa using hc
  rw[<-Y2,Zb,lL]
 .exact e2
def yz:V->VI V->Hp->VK->Prop:=λx vs H Q=>∃l m,x=.str (txt l)/\vs=[.str (txt m)]/\l.length<=sizeLine/\Q (.str (txt (gT (λc=>m.contains c) l))) H
theorem GU:MI X "str.rstrip" yz:=by
 intro Z0 s Y H x vs v us Q I rx rv h;obtain⟨l,m,rfl,rfl,hz,q⟩:=h;obtain⟨t,rfl⟩:=rx;obtain⟨u,rfl,t',rfl⟩:=rv.one;refine call_gives F.slot_str_rstrip (typeIs_str _ _ _) F.entry_str_rstrip (F.args_str_rstrip_2 _ _) (gives_str_rstrip_chars _ _ t t') ?_;refine post_val_or_made (λ_=>fits_stripped _ _ _ (by rw[gv];exact hz)) λt' k=>⟨.str (txt (gT (λc=>m.contains c) l)),H,I.tok _,⟨t',?_⟩,q⟩;have e:(txt m).cps.contains=λc=>m.contains c:=by funext c;simp[txt]
 show Value.str (Txt.stripBy (txt m).cps.contains false true (txt l)) t'=_;rw[e,GS]
theorem MT{l:VE}{c:Nat}(h:c∈l):∃rest,occurrences (txt l) (txt [c]) 0 (txt l).length 1=l.idxOf c::rest:=by
 have hf:=PyProof.Rows.find_whole (txt l) (txt [c]);have XZ:=WO.mpr h;have at_:∀i,StrLaws.At (txt l) (txt [c]) (txt l).length i↔l[i]?=some c:=λi=>by
  unfold StrLaws.At subAt;rw[gv,gv];simp only[txt,List.extract_toArray,List.extract_eq_take_drop,length_cons,length_nil];rw[bo];constructor
  .rintro⟨h1,h2⟩;have h3:i<l.length:=by lia
   refine⟨h3,?_⟩;have h4:(l.drop i).take 1=[c]:=by simpa using h2
   rw[wq h3] at h4;have h5:[l[i]]=[c]:=h4;injection h5
  .rintro⟨h1,h2⟩;refine⟨by lia,?_⟩;have h4:(l.drop i).take (i+(0+1)-i)=[c]:=by
    rw[wq h1,h2];have:i+(0+1)-i=1:=by lia
    rw[this];rfl
   rw[h4];simp
 have hi:l[l.idxOf c]?=some c:=by rw[dk XZ];congr 1;exact List.getElem_idxOf XZ
 rcases hf with⟨_,hn⟩|⟨i,e,ha,hb⟩
 .exact absurd ((at_ _).mpr hi) (hn _)
 .have hi2:=(at_ i).mp ha;have ei:i=l.idxOf c:=by
   have h1:¬l.idxOf c<i:=λz=>hb _ z ((at_ _).mpr hi);have h2:l.idxOf c<=i:=by
    obtain⟨h3,h4⟩:=bo.mp hi2;have:=WO.mpr h
    rcases QQ i (l.idxOf c) with z|z
    .exfalso
     have:=List.not_of_lt_findIdx (p:=(·==c)) (xs:=l) (i:=i) (by simpa [List.idxOf] using z);simp[h4] at this
    .exact z
   lia
  unfold Txt.find at e;cases ho:occurrences (txt l) (txt [c]) 0 (txt l).length 1 with
  |nil=>rw[ho] at e;simp only at e;lia
  |cons a r=>
   rw[ho] at e;have ea:(a:Int)=(i:Int):=e;have ea':a=i:=by lia
   exact⟨r,by rw[ea',ei]⟩
def uW:V->VI V->Hp->VK->Prop:=λx vs H Q=>∃l c,x=.str (txt l)/\vs=[.str (txt [c])]/\c∈l/\Q (.int (l.idxOf c:Nat)) H
theorem uX:MI X "str.index" uW:=by
 intro Z0 s Y H x vs v us Q I rx rv h;obtain⟨l,c,rfl,rfl,hm,q⟩:=h;obtain⟨t,rfl⟩:=rx;obtain⟨u,rfl,t',rfl⟩:=rv.one;obtain⟨rest,ho⟩:=MT hm;exact call_gives F.slot_str_index (typeIs_str _ _ _) F.entry_str_index (F.args_str_index_2 _ _) (gives_str_index _ _ t t' _ rest ho) ⟨.int _,H,I.tok _,⟨_,rfl⟩,q⟩
theorem Po:om X (compareOp .In) (λx y H Q=>∃c l,x=.str (txt [c])/\y=.str (txt l)/\Q (.bl (decide (c∈l))) H):=by
 intro Z0 s Y H x y v u Q I rx ry h;obtain⟨c,l,rfl,rfl,q⟩:=h;obtain⟨t,rfl⟩:=rx;obtain⟨t',rfl⟩:=ry;refine in_str (bP I q ?_);have:=StrLaws.found_one (txt l) c;rw[bW] at this;exact this.symm
theorem yC:om X (compareOp .Lt) (λx y H Q=>∃i j,x=.str (txt i)/\y=.str (txt j)/\Q (.bl (decide (i<j))) H):=by
 intro Z0 s Y H x y v u Q I rx ry h;obtain⟨i,j,rfl,rfl,q⟩:=h;obtain⟨t,rfl⟩:=rx;obtain⟨t',rfl⟩:=ry;exact lt_str (bP I q (by rw[bW,bW]))
theorem Pp:om X (compareOp .GtE) (λx y H Q=>∃i j,x=.str (txt i)/\y=.str (txt j)/\Q (.bl (!decide (i<j))) H):=by
 intro Z0 s Y H x y v u Q I rx ry h;obtain⟨i,j,rfl,rfl,q⟩:=h;obtain⟨t,rfl⟩:=rx;obtain⟨t',rfl⟩:=ry;exact PySem.P.ge_str (bP I q (by rw[bW,bW]))
theorem yD:om X (binaryOp .Add) (λx y H Q=>∃i j,x=.str (txt i)/\y=.str (txt j)/\i.length+j.length<=sizeLine/\Q (.str (txt (i++j))) H):=by
 intro Z0 s Y H x y v u Q I rx ry h;obtain⟨i,j,rfl,rfl,hz,q⟩:=h;exact Cq Z0 s Y H _ _ v u Q I rx ry ⟨_,_,rfl,rfl,by rw[gv,gv];exact hz,by rw[MS];exact q⟩
theorem mF:Q7 X (λx y H Q=>∃(l:VE) (i:Nat) (c:Nat),x=.str (txt l)/\y=.int i/\l.length<=sizeLine/\l[i]?=some c/\Q (.str (txt [c])) H):=by
 intro Z0 s Y H value slice x y v u Q I rx ry h hs;obtain⟨l,i,c,rfl,rfl,hz,e,q⟩:=h;exact Pe Z0 s Y H value slice _ _ v u Q I rx ry ⟨_,_,c,rfl,rfl,by rw[gv];exact hz,by rw[bW];exact yr e,q⟩ hs
theorem fH:fj X (.builtin "len") (λxs H Q=>∃z,xs=[.str (txt z)]/\z.length<=sizeLine/\Q (.int z.length) H):=by
 intro Z0 s Y H xs us Q I r h;obtain⟨z,rfl,hz,q⟩:=h;exact yu Z0 s Y H _ us Q I r ⟨_,rfl,by rw[gv];exact hz,by rw[gv];exact q⟩
end
end L2
namespace L2
open PySem PySem.Spec PyProof.Rows PySem.Builtin.Str
def Ez(sep:VE):VF->VE
 |[]=>[]
 |y::r=>r.foldl (λacc p=>acc++sep++p) y
theorem xE(sep:VE):∀(r:VF) (y:VE),((r.map txt).foldl (λacc p=>acc++(txt sep).cps++p.cps) y.toArray)=(r.foldl (λacc p=>acc++sep++p) y).toArray
 |[],y=>rfl
 |a::r,y=>by
  rw[lj,Xs,Xs,<-xE sep r (y++sep++a)];congr 1
  simp[txt]
theorem Jd(sep:VE)(ys:VF):Txt.join (txt sep) (ys.map txt)=txt (Ez sep ys):=by
 cases ys with
 |nil=>rfl
 |cons y r=>
  show (⟨_⟩:Str)=_;have:=xE sep r y;show (⟨(((y::r).map txt).drop 1).foldl (λacc p=>acc++(txt sep).cps++p.cps) (((y::r).map txt).headD Str.empty).cps⟩:Str)=_;simp only[map_cons,List.drop_one,List.tail_cons,List.headD_cons];have e:(txt y).cps=y.toArray:=rfl;rw[e,this];rfl
theorem pG:∀(r:VF) (y:VE),r.foldl (λacc p=>acc++[]++p) y=y++r.flatten
 |[],y=>by simp
 |a::r,y=>by rw[Xs,pG r];simp
theorem GV(ys:VF):Ez [] ys=ys.flatten:=by
 cases ys with
 |nil=>rfl
 |cons y r=>show r.foldl (λacc p=>acc++[]++p) y=_;rw[pG];rfl
theorem gI:∀{ys:VI Str} {us:VI ζ},Vals (ys.map V.str) us->StrsAre us ys
 |[],_,.nil=>.nil
 |y::ys,_,.cons ⟨t,e⟩ r=>by subst e;exact .cons y t (gI r)
theorem mG:∀{us:VI ζ} {ys:VI Str},StrsAre us ys->Vals (ys.map V.str) us
 |_,_,.nil=>.nil
 |_,_,.cons y t r=>.cons ⟨t,rfl⟩ (mG r)
def av(l:VE):V:=.str (txt l)
theorem iQ(ys:VF):ys.map av=(ys.map txt).map V.str:=by rw[mv];rfl
section
variable{X:Cx}
def rJoin(K:W.Frag):V->VI V->Hp->VK->Prop:=λx vs H Q=>∃sep p ys,x=.str (txt sep)/\vs=[.ref p]/\bw K H p (ys.map av)/\(ys.map (·.length)).sum+ys.length*sep.length<=16777216/\Q (.str (txt (Ez sep ys))) H
theorem MU:MI X "str.join" (rJoin X.K):=by
 intro Z0 s Y H x vs v us Q I rx rv h;obtain⟨sep,p,ys,rfl,rfl,hx,hz,q⟩:=h;obtain⟨t,rfl⟩:=rx;obtain⟨u,rfl,ru⟩:=rv.one;cases ru;obtain⟨XM,r,pl,hl⟩:=I.list hx;rw[iQ] at r;refine join_list pl.isList (ys:=ys.map txt) (by simpa using gI r) ?_ λt' k=>⟨.str (txt (Ez sep ys)),H,I.tok _,⟨t',by rw[Jd]⟩,q⟩;rw[mv,aw,gv];have:((λx=>x.length)∘txt:VE->Nat)=λl=>l.length:=by funext l;exact gv l
 rw[this];exact hz
def Ry(l:VE):It:=⟨λi _=>i<l.length,λi H x H'=>H'=H/\∃c,l[i]?=some c/\x=.str (txt [c]),λi _=>l.length<=i⟩
theorem EA(x:Str):strIterType x = "str_ascii_iterator" \/strIterType x = "str_iterator":=by
 unfold strIterType;split
 .exact .inl rfl
 .exact .inr rfl
theorem GW{prog:ι}{w:ν}{A:ξ}(hh:A.handled=none)(I:θ)(x:Str)(t:Tok):Walks prog w A I [I] [I] x.cps.size (SignAt x) (λi h=>h.IsStrIter I (strIterType x) x t i):=by
 rcases EA x with e|e
 .rw[e];exact Walks.strAscii hh I x t
 .rw[e];exact Walks.strWide hh I x t
theorem Je{P:ι}{w:ν}{K:PySem.W.Frag}{tg:γ}(it:θ)(l:VE)(t:Tok):Turn P w K tg (Ry l) [it] it (λi h=>h.IsStrIter it (strIterType (txt l)) (txt l) t i) where
 mem:=by simp
 obj:=λi h st b hb=>by
  have e:b=it:=by simpa using hb
  subst e;obtain⟨o,e,c,d⟩:=st;exact⟨o,e,λv z=>by rw[d] at z;cases z⟩
 keep:=λi h h' st k=>let ⟨o,ho,r⟩:=st;⟨o,k it .(4) o ho,r⟩
 item:=by
  intro X hP hw hK hc i Z0 s Y H E I hf st hg;subst hP hw hK;obtain⟨f0,f1,f2,f3,f4,f5⟩:=hf it .(4);have W:=GW (prog:=X.prog) (w:=X.w) (I.ok.hd hc) it (txt l) t;have hg':i<(txt l).cps.size:=by have:i<l.length:=hg;simpa [txt] using this
  refine W.item i s _ _ hg' st λv h' tk hv X8 kk=>?_;obtain⟨c,u,Zb,rfl⟩:=hv;have I1:Inv X Z0 Y H {s with heap:=h',toks:=tk}:=I.turned (λb o hb e=>kk b o (by simpa using hb) e) f0 f1 f3 f4 f5
  obtain⟨o,e,cc,d⟩:=id X8;have hn:["enumerate", "zip", "dict_itemiterator", "dict_reverseitemiterator", "odict_iterator", "itertools.zip_longest", "itertools.pairwise"].contains (strIterType (txt l))=false:=by
   rcases EA (txt l) with e|e<;>(rw[e];decide)
  exact⟨_,rfl,Ej (s:={s with heap:=h',toks:=tk}) e cc d hn ⟨.str (txt [c]),H,I1,⟨u,rfl⟩,⟨rfl,c,by simpa [txt] using Zb,rfl⟩,X8,λb hb=>(hf b hb).1⟩⟩
 done:=by
  intro X hP hw hK hc i Z0 s Y H E I hf st hg;subst hP hw hK;obtain⟨f0,f1,f2,f3,f4,f5⟩:=hf it .(4);have hg':l.length<=i:=hg;obtain⟨o,e,cc,d⟩:=id st;have fin:∀h',Heap.ExtBut it s.heap h'->(none:ο ζ)=none/\Inv X Z0 Y H {s with heap:=h' }:=λh' eb=>⟨rfl,I.turned (t':=s.toks) (λb o hb e=>eb b o hb e) f0 f1 f3 f4 f5⟩
  have hx:(txt l).cps[i]?=none:=by simpa [txt] using hg'
  rcases EA (txt l) with e|e
  .rw[e] at st;exact wpAny_pyNext_ascii_end (I.ok.hd hc) st hx fin
  .rw[e] at st;exact wpAny_pyNext_wide_end (I.ok.hd hc) st hx fin
 self:=λ_ _ _ _ _ st h=>by
  rcases EA (txt l) with e|e
  .rw[e] at st;exact wpAny_pyIter_striter_ascii st h
  .rw[e] at st;exact wpAny_pyIter_striter_wide st h
def Jf(tl:TE):TI:=λY H R=>tl Y H λx H1=>∃l,x=.str (txt l)/\R (Ry l) H1
theorem Pq{tg l:γ}{tl:TE}(hl:PE X l tl):PI X tg l (Jf tl):=by
 intro Z0 s Y H R I h;refine cT (hl Z0 s Y H _ I h) λv s1 ⟨x,H1,I1,r1,q1⟩=>?_;obtain⟨l',e,q⟩:=q1;subst e;obtain⟨t,rfl⟩:=r1;refine wpAny_pyIter_strU ?_;refine⟨s1.heap.objs.size,[s1.heap.objs.size],_,_,H1,rfl,I1.kept (t':=s1.toks) λb o e=>ba _ e,Je _ l' t,⟨_,cx _ rfl,rfl,rfl⟩,λb hb=>?_,q⟩;have e:b=s1.heap.objs.size:=by simpa using hb
 subst e;exact I1.Mp (bb _) (I1.hok.fresh (bb _))
theorem GX(a b:VE):ltCps a b=decide (a<b):=by
 first|exact ltCps_eq a b|(rw[ltCps_eq])
theorem xF:∀(r:VF) (p:VE),risingS (txt p) (r.map txt)=true->(p::r).Pairwise (·<=·)
 |[],p,_=>List.pairwise_singleton _ _
 |x::r,p,h=>by
  rw[lj] at h;unfold risingS at h;rw[and_eq_true,bW,bW,GX] at h;have h1:p<=x:=by
   have:=h.1;simp only[Bool.not_eq_true',decide_eq_false_iff_not] at this;exact xt.mp this
  have ih:=xF r x h.2;refine Hk.mpr ⟨λy hy=>?_,ih⟩
  rcases gL.mp hy with e|hy
  .rw[e];exact h1
  .exact List.le_trans h1 ((Hk.mp ih).1 y hy)
theorem oA(l:VF)(h:sortedS (l.map txt)=true):l.Pairwise (·<=·):=by
 cases l with
 |nil=>exact .nil
 |cons x r=>exact xF r x h
theorem pH:fj X (.builtin "sorted") (λxs H Q=>∃p,∃ys:VF,xs=[.ref p]/\bw X.K H p (ys.map av)/\ys.length<64/\∀l,∀zs:VF,H l=none->zs.Perm ys->zs.Pairwise (·<=·)->Q (.ref l) (upd H l (.lst (zs.map av)))):=by
 intro Z0 s Y H xs us Q I r h;obtain⟨p,ys,rfl,hx,hz,q⟩:=h;obtain⟨u,rfl,ru⟩:=vals1 r;cases ru;obtain⟨XM,rv,pl,hl⟩:=I.list hx;have hlen:=rv.length;rw[iQ] at rv;refine sorted_strs pl.isList (gI rv) (by rw[<-hlen,aw];exact hz) λout Yf a1 a2 a3=>?_;obtain⟨e,he⟩:=sortedAll_at s.heap XM out;have ez:Yf=(Yf.map λx=>x.cps.toList).map txt:=by
  rw[mv];have:(txt∘λ(x:Str)=>x.cps.toList)=id:=by funext x;exact txt_codes x
  rw[this,Xk]
 have hp:(Yf.map λx=>x.cps.toList).Perm ys:=by
  have:=a2.map (λx:Str=>x.cps.toList);rw[mv] at this;have e2:((λx:Str=>x.cps.toList)∘txt)=id:=by funext l;exact bW l
  rw[e2,Xk] at this;exact this
 rw[ez] at a3;have hv:Vals ((Yf.map λx=>x.cps.toList).map av) out.toList:=by rw[iQ,<-ez];exact mG a1
 refine⟨.ref (s.heap.objs.size+1),_,I.laid (t':=s.toks) (a:=s.heap.objs.size+1) (o:=.lst ((Yf.map λx=>x.cps.toList).map av)) (λb o q=>sortedAll_old q) (xc _) ⟨?_,out.toList,e,hv,by simpa [seqObj] using he⟩,rfl,q _ _ (I.hok.fresh (xc _)) hp (oA _ a3)⟩;have Yt:=hp.length_eq;rw[aw,Yt,dE];lia
theorem oB{h:ε}:∀{us:VI ζ} {ys:VI Str},StrsAre us ys->ReadsAll h us (ys.map PyData.str) []
 |_,_,.nil=>.nil
 |_,_,.cons y t r=>.cons (as:=[]) (bs:=[]) (.str y t) (oB r)
theorem rX:∀ys:VI Str,(∀y∈ys,PyData.strOk y=true)->PyData.canLayAll0 (ys.map PyData.str)=true
 |[],_=>rfl
 |y::r,h=>by simp[PyData.canLayAll0,PyData.canLay0,h y mem_cons_self,rX r λz hz=>h z (mem_cons_of_mem _ hz)]
theorem uY:∀ys:VI Str,PyData.depthAll (ys.map PyData.str)=0
 |[]=>rfl
 |_::r=>by simp[PyData.depthAll,PyData.depth,uY r]
theorem rY(ys:VI Str)(h:∀y∈ys,PyData.strOk y=true):SeqAt.shaped (.list (ys.map PyData.str))=true:=by
 simp[SeqAt.shaped,PyData.canLay0,PyData.depth,rX ys h,uY]
theorem AS:∀xs ys:VI Str,PyData.eqvAll (xs.map PyData.str) (ys.map PyData.str)=decide (xs=ys)
 |[],[]=>by simp[PyData.eqvAll]
 |[],_::_=>by simp[PyData.eqvAll]
 |_::_,[]=>by simp[PyData.eqvAll]
 |a::r,b::t=>by
  simp only[map_cons,PyData.eqvAll,PyData.eqv,AS r t]
  by_cases h:a=b<;>by_cases h':r=t<;>simp[h,h']
theorem Jg{a b:VF}:a.map txt=b.map txt↔a=b:=⟨λh=>by
  have:=tz (List.map λx:Str=>x.cps.toList) h;rw[mv,mv] at this;have e2:((λx:Str=>x.cps.toList)∘txt)=id:=by funext l;exact bW l
  rwa[e2,Xk,Xk] at this,λh=>by rw[h]⟩
theorem mH(hu:X.A.units+64<cLine):om X (compareOp .NotEq) (λx y H Q=>∃a b,∃xs ys:VF,x=.ref a/\y=.ref b/\bw X.K H a (xs.map av)/\bw X.K H b (ys.map av)/\(∀y∈xs,PyData.strOk (txt y)=true)/\(∀y∈ys,PyData.strOk (txt y)=true)/\Q (.bl (!decide (xs=ys))) H):=by
 intro Z0 s Y H x y v u Q I rx ry h;obtain⟨a,b,xs,ys,rfl,rfl,ha,hb,ox,oy,q⟩:=h;cases rx;cases ry;obtain⟨ia,ra,pa,_⟩:=I.list ha;obtain⟨ib,rb,pb,_⟩:=I.list hb;obtain⟨oa,na,ea,ca,_,da⟩:=pa;obtain⟨ob,nb,eb,cb,_,db⟩:=pb;rw[iQ] at ra rb;refine ne_dataH (Reads.list ea ca da (oB (by simpa using gI ra))) (Reads.list eb cb db (oB (by simpa using gI rb))) (rY (xs.map txt) (by simpa using ox)) (rY (ys.map txt) (by simpa using oy)) hu (bP I q ?_);simp only[PyData.eqv,AS];congr 1
 exact decide_eq_decide.mpr Jg.symm
end
end L2
namespace L2
open PySem PySem.Spec PyProof.Rows PySem.Builtin.Str
section
variable{X:Cx}
structure Pr(X:Cx)(scope:Scope)(x:Str)(fs:VI (Str×Nat)):Prop where
 kind:scope.kind=.function
 cell:∀y∈scope.names,y.2≠.cell
 names:∀y∈scope.names,y.2=.local->scope.names.lookup y.1=some .local
 free:∀y∈scope.names,y.2=.free->X.env.kindOf y.1=some .cell\/X.env.kindOf y.1=some .free
 hx:scope.names.lookup x=some .local
 nd:(x::fs.map (·.1)).Nodup
 fs:∀f∈fs,X.N[f.2]?=some f.1/\(X.env.kindOf f.1=some .cell\/X.env.kindOf f.1=some .free)/\scope.names.lookup f.1=some .free
def iR(names:VI (Str×NameKind))(outer:VI (Str×NameKind))(N:VI Str)(x:Str)(fs:VI (Str×Nat)):Bool:=
 (names.all λy=>y.2 !=.cell)&&(names.all λy=>y.2 !=.local||names.lookup y.1==some .local) &&
 (names.all λy=>y.2 !=.free||outer.lookup y.1==some .cell||outer.lookup y.1==some .free)&&(names.lookup x==some .local) &&
 decide ((x::fs.map (·.1)).Nodup)&&(fs.all λf=>decide (N[f.2]?=some f.1)&&(outer.lookup f.1==some .cell||outer.lookup f.1==some .free)&&names.lookup f.1==some .free)
theorem mJ{scope:Scope}{x:Str}{fs:VI (Str×Nat)}(hk:scope.kind=.function)(h:iR scope.names X.env.scope.names X.N x fs=true):Pr X scope x fs:=by
 unfold iR at h;simp only[and_eq_true,all_eq_true,decide_eq_true_eq,Bool.or_eq_true,bne_iff_ne,beq_iff_eq] at h;obtain⟨⟨⟨⟨⟨h1,h2⟩,h3⟩,h4⟩,h5⟩,h6⟩:=h;refine⟨hk,λy hy=>h1 y hy,λy hy e=>?_,λy hy e=>?_,h4,h5,λf hf=>?_⟩
 .rcases h2 y hy with z|z
  .exact absurd e z
  .exact z
 .rcases h3 y hy with(z|z)|z
  .exact absurd e z
  .exact .inl z
  .exact .inr z
 .obtain⟨⟨a,b⟩,c⟩:=h6 f hf;exact⟨a,b,c⟩
theorem Jh{elt iter:γ}{x:Str}{px pos:Pos}{ifs:VI γ}{scope:Scope}(fs:VI (Str×Nat)){wi:TI}{tt:TT}{te:TE}(hc:X.calm=true)
  (hi:PI X (.Name x px) iter wi)
  (hb:∀(cl:VI (Str×θ)) (C:θ) (s₀:η) (H₀:Hp) (ex:VI θ),Jb (cE X scope cl C (x::fs.map (·.1)) s₀ H₀ ex) ifs tt/\PE (cE X scope cl C (x::fs.map (·.1)) s₀ H₀ ex) elt te)
  (hk:scope.kind=.function:=by rfl) (hl:iR scope.names X.env.scope.names X.N x fs=true:=by rfl')
  (hs:∀x,foldedSetIterable iter X.env x=pure x:=by intro _;rfl):
  PE X (.ListComp elt [⟨.Name x px,iter,ifs,0⟩] scope pos) (eG wi (fs.map (·.2)) tt te):=
 let O:=mJ (X:=X) hk hl
 MP fs hc O.kind O.cell O.names O.free O.hx O.nd O.fs hi hb hs
theorem Ji{i:Nat}{y:Str}{py Ye:Pos}{elt iter:γ}{x:Str}{px pos:Pos}{ifs:VI γ}{scope:Scope}(fs:VI (Str×Nat)){wi:TI}{tt:TT}{te:TE}
  (hN:X.N.Nodup) (hy:X.N[i]?=some y) (Zh:X.env.scope.names.lookup y=some .local) (hc:X.calm=true)
  (hi:PI X (.Name x px) iter wi)
  (hb:∀(cl:VI (Str×θ)) (C:θ) (s₀:η) (H₀:Hp) (ex:VI θ),Jb (cE X scope cl C (x::fs.map (·.1)) s₀ H₀ ex) ifs tt/\PE (cE X scope cl C (x::fs.map (·.1)) s₀ H₀ ex) elt te)
  (hk:scope.kind=.function:=by rfl) (hl:iR scope.names X.env.scope.names X.N x fs=true:=by rfl')
  (ZO:swapsWith (.ListComp elt [⟨.Name x px,iter,ifs,0⟩] scope pos) (some (.Name y py)) Ye.line X.env=pure true:=by rfl)
  (hs:∀x,foldedSetIterable iter X.env x=pure x:=by intro _;rfl):
  PS X (.Assign [.Name y py] (.ListComp elt [⟨.Name x px,iter,ifs,0⟩] scope pos) Ye) (fq i wi (fs.map (·.2)) tt te):=
 let O:=mJ (X:=X) hk hl
 MQ fs hN hy Zh hc O.kind O.cell O.names O.free O.hx O.nd O.fs hi hb ZO hs
theorem uZ{lo:Int}{n:Nat}{Y:St}{fs:VE}{tt:TT}{te:TE}{H:Hp}{Q:VK}(Pv:Nat->VI V->Hp->Prop)(h0:Pv 0 [] H)(hl:∀i ys H,i<=n->Pv i ys H->ys.length<=i)(hn:n<=sizeLine)
  (hs:∀i ys H,i<n->Pv i ys H->∀R:VI V->Hp->Prop,(∀X4 H',Pv (i+1) X4 H'->R X4 H')->tt (some (.int (lo+i))::br fs Y) H λb H2=>if b=true then te (some (.int (lo+i))::br fs Y) H2 λy H3=>R (ys++[y]) H3 else R ys H2)
  (hd:∀ys H,Pv n ys H->∀p,H p=none->Q (.ref p) (upd H p (.lst ys))):
  ∃W:Nat->Nat->VI V->Hp->Prop,(∃m,W 0 m [] H)/\∀i m ys H,W i m ys H->ys.length<=sizeLine/\
   (((L6 lo n).stop i H/\∀p,H p=none->Q (.ref p) (upd H p (.lst ys)))\/
    ((L6 lo n).go i H/\ys.length<sizeLine/\∀x H',(L6 lo n).yld i H x H'->tt (some x::br fs Y) H' λb H2=>if b=true then te (some x::br fs Y) H2 λy H3=>∃m',m'<m/\W (i+1) m' (ys++[y]) H3 else ∃m',m'<m/\W (i+1) m' ys H2)):=by
 refine⟨λi m ys H=>m=n-i/\i<=n/\Pv i ys H,⟨n,by simp,mi _,h0⟩,?_⟩;rintro i m ys H ⟨rfl,hi,p⟩;have hle:=hl i ys H hi p;refine⟨by lia,?_⟩
 by_cases XZ:i<n
 .refine .inr ⟨XZ,by lia,λx H' y=>?_⟩;obtain⟨e,y⟩:=y;subst e y;exact hs i ys _ XZ p (λX4 H'=>∃m',m'<n-i/\m'=n-(i+1)/\i+1<=n/\Pv (i+1) X4 H') λX4 H' q=>⟨n-(i+1),by lia,rfl,XZ,q⟩
 .have e:i=n:=by lia
  subst e;exact .inl ⟨bb _,hd ys H p⟩
theorem Jj{l:VE}{Y:St}{fs:VE}{tt:TT}{te:TE}{H:Hp}{Q:VK}(Pv:Nat->VI V->Hp->Prop)(h0:Pv 0 [] H)(hl:∀i ys H,i<=l.length->Pv i ys H->ys.length<=i)(hn:l.length<=sizeLine)
  (hs:∀i c ys H,l[i]?=some c->Pv i ys H->∀R:VI V->Hp->Prop,(∀X4 H',Pv (i+1) X4 H'->R X4 H')->tt (some (.str (txt [c]))::br fs Y) H λb H2=>if b=true then te (some (.str (txt [c]))::br fs Y) H2 λy H3=>R (ys++[y]) H3 else R ys H2)
  (hd:∀ys H,Pv l.length ys H->∀p,H p=none->Q (.ref p) (upd H p (.lst ys))):
  ∃W:Nat->Nat->VI V->Hp->Prop,(∃m,W 0 m [] H)/\∀i m ys H,W i m ys H->ys.length<=sizeLine/\
   (((Ry l).stop i H/\∀p,H p=none->Q (.ref p) (upd H p (.lst ys)))\/
    ((Ry l).go i H/\ys.length<sizeLine/\∀x H',(Ry l).yld i H x H'->tt (some x::br fs Y) H' λb H2=>if b=true then te (some x::br fs Y) H2 λy H3=>∃m',m'<m/\W (i+1) m' (ys++[y]) H3 else ∃m',m'<m/\W (i+1) m' ys H2)):=by
 refine⟨λi m ys H=>m=l.length-i/\i<=l.length/\Pv i ys H,⟨l.length,by simp,mi _,h0⟩,?_⟩;rintro i m ys H ⟨rfl,hi,p⟩;have hle:=hl i ys H hi p;refine⟨by lia,?_⟩
 by_cases XZ:i<l.length
 .refine .inr ⟨XZ,by lia,λx H' y=>?_⟩;obtain⟨e,c,hc,y⟩:=y;subst e y;exact hs i c ys _ hc p (λX4 H'=>∃m',m'<l.length-i/\m'=l.length-(i+1)/\i+1<=l.length/\Pv (i+1) X4 H') λX4 H' q=>⟨l.length-(i+1),by lia,rfl,XZ,q⟩
 .have e:i=l.length:=by lia
  subst e;exact .inl ⟨bb _,hd ys H p⟩
theorem Pu{x:Str}{l:VE}{j pos}(h:x=txt l):PE X (.Constant (.str x) j pos) (tC (.str (txt l))):=by subst h;exact OT
end
def Aq:VE:=(List.range 26).map (97+·)
theorem iS:("abcdefghijklmnopqrstuvwxyz":Str)=txt Aq:=by decide+kernel
theorem yE:Aq.length=26:=by decide
theorem Pw{i:Nat}(h:i<26):Aq[i]?=some (97+i):=by
 unfold Aq;rw[cn,Ee h];rfl
abbrev cI:R2:=Cj λi j=>.int (i+j)
abbrev ji:R2:=Cj λi j=>.int (i-j)
abbrev nO:R2:=rI Mt λi j=>.int (i/j)
abbrev iT:R2:=rI (λ_ j=>0<j) λi j=>.int (i%j)
abbrev Rz:R2:=rI (λ_ j=>0<=j) λi j=>.int (i/2^j.toNat)
abbrev w6:R2:=Cj λi j=>.bl (decide (i<j))
abbrev Uw:R2:=Cj λi j=>.bl (decide (i<=j))
abbrev yG:R2:=Cj λi j=>.bl (decide (j<i))
abbrev Px:R2:=Cj λi j=>.bl (decide (j<=i))
def kX(i j:Int):Prop:=O7 i j\/(Builtin.Int.intBits i<=2^20/\Builtin.Int.intBits j<=2^20)
theorem kX.l{i j:Int}(h1:-(2^64)<i)(h2:i<2^64):kX i j:=.inl (.inl ⟨h1,h2⟩)
theorem kX.r{i j:Int}(h1:-(2^64)<j)(h2:j<2^64):kX i j:=.inl (.inr ⟨h1,h2⟩)
abbrev gw:R2:=rI kX λi j=>.int (i*j)
abbrev EB:R2:=λx y H Q=>∃i j,x=.str (txt i)/\y=.str (txt j)/\i.length+j.length<=sizeLine/\Q (.str (txt (i++j))) H
abbrev lF:R2:=λx y H Q=>∃(l:VE) (i:Nat) (c:Nat),x=.str (txt l)/\y=.int i/\l.length<=sizeLine/\l[i]?=some c/\Q (.str (txt [c])) H
abbrev Ux:R2:=λx y H Q=>∃c l,x=.str (txt [c])/\y=.str (txt l)/\Q (.bl (decide (c∈l))) H
abbrev MV:R2:=λx y H Q=>∃i j,x=.str (txt i)/\y=.str (txt j)/\Q (.bl (decide (i<j))) H
abbrev Uy:R2:=λx y H Q=>∃i j,x=.str (txt i)/\y=.str (txt j)/\Q (.bl (!decide (i<j))) H
abbrev nP:VI V->Hp->VK->Prop:=λxs H Q=>∃z,xs=[.str (txt z)]/\z.length<=sizeLine/\Q (.int z.length) H
abbrev dJ(K:W.Frag):VI V->Hp->VK->Prop:=λxs H Q=>∃p ys,xs=[.ref p]/\(bw K H p ys\/fT K H p ys)/\Q (.int ys.length) H
abbrev Jk:VI V->Hp->VK->Prop:=λxs H Q=>∃i j,xs=[.int i,.int j]/\Q (.int (if j<i then j else i)) H
abbrev RA:VI V->Hp->VK->Prop:=λxs H Q=>∃i j,xs=[.int i,.int j]/\Q (.int (if j>i then j else i)) H
abbrev RB:VI V->Hp->VK->Prop:=λxs H Q=>∃i,xs=[.int i]/\i.natAbs.log2<1920/\Q (.str (toString i)) H
abbrev tR(K:W.Frag):VI V->Hp->VK->Prop:=λxs H Q=>∃p ys,xs=[.ref p]/\(bw K H p ys\/fT K H p ys)/\∀l,H l=none->Q (.ref l) (upd H l (.lst ys))
abbrev AU(K:W.Frag):VI V->Hp->VK->Prop:=λxs H Q=>∃p,∃ys:VF,xs=[.ref p]/\bw K H p (ys.map av)/\ys.length<64/\∀l,∀zs:VF,H l=none->zs.Perm ys->zs.Pairwise (·<=·)->Q (.ref l) (upd H l (.lst (zs.map av)))
abbrev xG(K:W.Frag):R2:=λx y H Q=>∃a b,∃xs ys:VF,x=.ref a/\y=.ref b/\bw K H a (xs.map av)/\bw K H b (ys.map av)/\(∀y∈xs,PyData.strOk (txt y)=true)/\(∀y∈ys,PyData.strOk (txt y)=true)/\Q (.bl (!decide (xs=ys))) H
section
variable{X:Cx}
theorem c9:om X (binaryOp .Mult) gw:=Uc λ_ _ _ _ _ _ _ hc q=>mul_int q (by
 rcases hc with h|h
 .exact h.ok
 .exact IntMulOk.of_bits h.1 h.2)
theorem MW{x y:Str}{l:VE}{pos:Pos}(hg:Gl X x)(hm:∃t,X.mg x=some (.str y t))(e:y=txt l)(hd:(x==("__debug__":Str))=false:=by decide):PE X (.Name x pos) (tC (.str (txt l))):=by
 obtain⟨t,hm⟩:=hm;subst e;exact Eh hg hm ⟨t,rfl⟩ hd
end
theorem bw.here{K:W.Frag}{H:Hp}{p:θ}{xs:VI V}:bw K (upd H p (.lst xs)) p xs:=.inl (.inl aq)
theorem aG.new{H H':Hp}{p:θ}{o:HO}(s:aG H H')(hp:H' p=none):aG H (upd H' p o):=λb q e=>by
 have:=s b q e;rw[aH (gh this hp)];exact this
theorem aG.up(H:Hp){p:θ}{o:HO}(hp:H p=none):aG H (upd H p o):=(aG.refl H).new hp
theorem EC{α:Type}{xs:VI α}{i:Int}{v:α}(h0:0<=i)(h:xs[i.toNat]?=some v):Of xs i=some v:=by
 obtain⟨n,rfl⟩:=kd h0;exact yr (by simpa using h)
theorem lG{ta:TA}{g:TG}{tb:TS}{D:Ends}{Y:St}{H:Hp}{j:Int}(ha:∀Q:VI V->Hp->Prop,Q [.int j] H->ta Y H Q)(Zn:-(2^62)<=j)(hhi:j<2^62)
  (Pv:Nat->St->Hp->Prop) (h0:Pv 0 Y H) (hs:∀(i:Nat) Y H,(i:Int)<j->Pv i Y H->g (.int i) Y H λσ2 H2=>tb {D with nx:=Pv (i+1),ct:=Pv (i+1),bk:=D.nx} σ2 H2)
  (hd:∀Y H,Pv j.toNat Y H->D.nx Y H):g7 (g6 ta) g tb D Y H:=by
 refine ha _ ⟨j,rfl,Zn,hhi,?_⟩;refine qH (lo:=0) (n:=j.toNat) Pv h0 (λi Y H hi p=>?_) hd;rw[XF];exact hs i Y H ⋯ p
theorem Py{ta:TA}{g:TG}{tb:TS}{D:Ends}{Y:St}{H:Hp}{l j:Int}(ha:∀Q:VI V->Hp->Prop,Q [.int l,.int j] H->ta Y H Q)(hl0:-(2^62)<=l)(Zi:l<2^62)(Zn:-(2^62)<=j)(hhi:j<2^62)
  (Pv:Nat->St->Hp->Prop) (h0:Pv 0 Y H) (hs:∀(i:Nat) Y H,l+(i:Int)<j->Pv i Y H->g (.int (l+i)) Y H λσ2 H2=>tb {D with nx:=Pv (i+1),ct:=Pv (i+1),bk:=D.nx} σ2 H2)
  (hd:∀Y H,Pv (j-l).toNat Y H->D.nx Y H):g7 (xw ta) g tb D Y H:=by
 refine ha _ ⟨l,j,rfl,⟨hl0,Zi,Zn,hhi⟩,?_⟩;exact qH (lo:=l) (n:=(j-l).toNat) Pv h0 (λi Y H hi p=>hs i Y H ⋯ p) hd
theorem rZ{K:W.Frag}{tl:TE}{g:TG}{tb:TS}{D:Ends}{Y:St}{H:Hp}{a:θ}{xs:VI V}(ha:∀Q:VK,Q (.ref a) H->tl Y H Q)(hx:bw K H a xs)
  (Pv:Nat->St->Hp->Prop) (h0:Pv 0 Y H) (hl:∀i Y H,i<=xs.length->Pv i Y H->bw K H a xs)
  (hs:∀i x Y H,xs[i]?=some x->Pv i Y H->g x Y H λσ2 H2=>tb {D with nx:=Pv (i+1),ct:=Pv (i+1),bk:=D.nx} σ2 H2) (hd:∀Y H,Pv xs.length Y H->D.nx Y H):
  g7 (cD K tl) g tb D Y H:=ha _ ⟨a,rfl,⟨xs,hx⟩,IM (K:=K) Pv h0 hl hs hd⟩
theorem MX{ta:TA}{fs:VE}{tt:TT}{te:TE}{Y:St}{H:Hp}{Q:VK}{l j:Int}(ha:∀Q:VI V->Hp->Prop,Q [.int l,.int j] H->ta Y H Q)(hl0:-(2^62)<=l)(Zi:l<2^62)(Zn:-(2^62)<=j)(hhi:j<2^62)(hn:(j-l).toNat<=sizeLine)
  (Pv:Nat->VI V->Hp->Prop) (h0:Pv 0 [] H) (hl:∀i ys H,i<=(j-l).toNat->Pv i ys H->ys.length<=i)
  (hs:∀(i:Nat) ys H,l+(i:Int)<j->Pv i ys H->∀R:VI V->Hp->Prop,(∀X4 H',Pv (i+1) X4 H'->R X4 H')->tt (some (.int (l+i))::br fs Y) H λb H2=>if b=true then te (some (.int (l+i))::br fs Y) H2 λy H3=>R (ys++[y]) H3 else R ys H2)
  (hd:∀ys H,Pv (j-l).toNat ys H->∀p,H p=none->Q (.ref p) (upd H p (.lst ys))):eG (xw ta) fs tt te Y H Q:=by
 refine ha _ ⟨l,j,rfl,⟨hl0,Zi,Zn,hhi⟩,?_⟩;exact uZ (lo:=l) (n:=(j-l).toNat) Pv h0 hl hn (λi ys H hi p=>hs i ys H ⋯ p) hd
theorem yH{ta:TA}{fs:VE}{tt:TT}{te:TE}{Y:St}{H:Hp}{Q:VK}{j:Int}(ha:∀Q:VI V->Hp->Prop,Q [.int j] H->ta Y H Q)(Zn:-(2^62)<=j)(hhi:j<2^62)(hn:j.toNat<=sizeLine)
  (Pv:Nat->VI V->Hp->Prop) (h0:Pv 0 [] H) (hl:∀i ys H,i<=j.toNat->Pv i ys H->ys.length<=i)
  (hs:∀(i:Nat) ys H,(i:Int)<j->Pv i ys H->∀R:VI V->Hp->Prop,(∀X4 H',Pv (i+1) X4 H'->R X4 H')->tt (some (.int i)::br fs Y) H λb H2=>if b=true then te (some (.int i)::br fs Y) H2 λy H3=>R (ys++[y]) H3 else R ys H2)
  (hd:∀ys H,Pv j.toNat ys H->∀p,H p=none->Q (.ref p) (upd H p (.lst ys))):eG (g6 ta) fs tt te Y H Q:=by
 refine ha _ ⟨j,rfl,Zn,hhi,?_⟩;refine uZ (lo:=0) (n:=j.toNat) Pv h0 hl hn (λi ys H hi p=>?_) hd;rw[XF];exact hs i ys H ⋯ p
theorem Jl{tl:TE}{fs:VE}{tt:TT}{te:TE}{Y:St}{H:Hp}{Q:VK}{l:VE}(ha:∀Q:VK,Q (.str (txt l)) H->tl Y H Q)(hn:l.length<=sizeLine)
  (Pv:Nat->VI V->Hp->Prop) (h0:Pv 0 [] H) (hl:∀i ys H,i<=l.length->Pv i ys H->ys.length<=i)
  (hs:∀i c ys H,l[i]?=some c->Pv i ys H->∀R:VI V->Hp->Prop,(∀X4 H',Pv (i+1) X4 H'->R X4 H')->tt (some (.str (txt [c]))::br fs Y) H λb H2=>if b=true then te (some (.str (txt [c]))::br fs Y) H2 λy H3=>R (ys++[y]) H3 else R ys H2)
  (hd:∀ys H,Pv l.length ys H->∀p,H p=none->Q (.ref p) (upd H p (.lst ys))):eG (Jf tl) fs tt te Y H Q:=ha _ ⟨l,rfl,Jj Pv h0 hl hn hs hd⟩
theorem cJ{K:W.Frag}{H:Hp}{a:θ}{xs:VI V}{Q:VK}(hS:bw K H a xs)(q:Q (.int xs.length) H):dJ K [.ref a] H Q:=⟨a,xs,rfl,.inl hS,q⟩
theorem pI{K:W.Frag}{H:Hp}{a:θ}{ns:VI Int}{Q:VK}(hS:bw K H a (ns.map V.int))(q:Q (.int ns.length) H):dJ K [.ref a] H Q:=⟨a,_,rfl,.inl hS,by rw[aw];exact q⟩
theorem kg{H:Hp}{l:VE}{Q:VK}(hz:l.length<=100000)(q:Q (.int l.length) H):nP [.str (txt l)] H Q:=⟨l,rfl,eJ hz .(0),q⟩
theorem CG{K:W.Frag}{H:Hp}{a:θ}{ns:VI Int}{i:Int}{Q:VK}(hS:bw K H a (ns.map V.int))(h0:0<=i)(h1:i<ns.length)(q:∀z,z∈ns->ns[i.toNat]?=some z->Q (.int z) H):bV K (.ref a) (.int i) H Q:=by
 obtain⟨n,rfl⟩:=kd h0;have hn:n<ns.length:=by lia
 have e:ns[n]?=some ns[n]:=dk hn;exact⟨a,_,(n:Int),.int ns[n],rfl,rfl,hS,yr (by rw[cn,e];rfl),q _ (Wb hn) (by simpa using e)⟩
theorem bR{K:W.Frag}{H:Hp}{a:θ}{xs:VI V}{i:Int}{v:V}{Q:VK}(hS:bw K H a xs)(h0:0<=i)(h:xs[i.toNat]?=some v)(q:Q v H):bV K (.ref a) (.int i) H Q:=
 ⟨a,xs,i,v,rfl,rfl,hS,EC h0 h,q⟩
theorem bB{K:W.Frag}{H:Hp}{a:θ}{xs:VI V}{i:Int}{v:V}{Q:VK}(hS:fT K H a xs)(h0:0<=i)(h:xs[i.toNat]?=some v)(q:Q v H):cH K (.ref a) (.int i) H Q:=
 ⟨a,xs,i,v,rfl,rfl,hS,EC h0 h,q⟩
theorem yJ{H:Hp}{l:VE}{i:Int}{c:Nat}{Q:VK}(hz:l.length<=100000)(h0:0<=i)(h:l[i.toNat]?=some c)(q:Q (.str (txt [c])) H):lF (.str (txt l)) (.int i) H Q:=by
 obtain⟨n,rfl⟩:=kd h0;exact⟨l,n,c,rfl,rfl,eJ hz .(0),by simpa using h,q⟩
theorem u0{H:Hp}{i:Int}{Q:VK}(h0:0<=i)(h1:i<26)(q:Q (.str (txt [97+i.toNat])) H):lF (.str (txt Aq)) (.int i) H Q:=
 yJ (by rw[yE];decide) h0 (Pw ⋯) q
theorem EE{H:Hp}{l m:VE}{Q:VK}(hz:l.length+m.length<=100000)(q:Q (.str (txt (l++m))) H):EB (.str (txt l)) (.str (txt m)) H Q:=⟨l,m,rfl,rfl,eJ hz .(0),q⟩
theorem EF{c:Nat}(h0:97<=c)(h1:c<123):c∈Aq/\Aq.idxOf c=c-97:=by
 have h:∀d:Fin 26,(97+d.val)∈Aq/\Aq.idxOf (97+d.val)=d.val:=by decide
 have e:=h ⟨c-97,by lia⟩;have e2:97+(c-97)=c:=by lia
 simp only[e2] at e;exact e
theorem qO{H:Hp}{c:Nat}{Q:VK}(h0:97<=c)(h1:c<123)(q:Q (.int (c-97:Nat)) H):uW (.str (txt Aq)) [.str (txt [c])] H Q:=
 ⟨Aq,c,rfl,rfl,(EF h0 h1).1,by rw[(EF h0 h1).2];exact q⟩
theorem u7{i j:Int}(h1:-18446744073709551616<i)(h2:i<18446744073709551616):kX i j:=.l ⋯ ⋯
theorem gJ{i j:Int}(h1:-18446744073709551616<j)(h2:j<18446744073709551616):kX i j:=.r ⋯ ⋯
theorem cdiv{i j:Int}(h1:0<j)(h2:j<1073741824):Mt i j:=⟨h1,h2⟩
theorem xH{H:Hp}{l:θ}{xs:VI V}{y:V}{Q:VK}(h:H l=some (.lst xs))(hz:xs.length<100000)(q:Q .non (upd H l (.lst (xs++[y])))):mz (.ref l) [y] H Q:=
 ⟨l,xs,y,rfl,rfl,h,ip hz .(0),q⟩
theorem GY{H:Hp}{l m:VE}{Q:VK}(hz:l.length<=100000)(q:Q (.str (txt (gT (λc=>m.contains c) l))) H):yz (.str (txt l)) [.str (txt m)] H Q:=⟨l,m,rfl,rfl,eJ hz .(0),q⟩
theorem pJ{c:TT}{tb:TS}{D:Ends}{Y:St}{H:Hp}(Pv:Nat->St->Hp->Prop)(m0:Nat)(h0:Pv m0 Y H)
  (hs:∀m Y H,Pv m Y H->∀R:Bool->Hp->Prop,(∀H1,tb {D with nx:=λσ' H'=>∃m',m'<m/\Pv m' σ' H',ct:=λσ' H'=>∃m',m'<m/\Pv m' σ' H',bk:=D.nx} Y H1->R true H1)->(∀H1,D.nx Y H1->R false H1)->c Y H R):oj c tb D Y H:=by
 refine⟨Pv,⟨m0,h0⟩,λm Y H p=>?_⟩;refine hs m Y H p _ (λH1 h=>?_) (λH1 h=>?_)
 .exact⟨_,λσ' H' h=>h,h⟩
 .exact h
structure QE(X:Cx)(e:γ)(t:TE):Prop where p:PE X e t
structure QT(X:Cx)(e:γ)(t:TT):Prop where p:PT X e t
structure QW(X:Cx)(e:γ)(t:TT):Prop where p:PW X e t
structure QA(X:Cx)(es:VI γ)(t:TA):Prop where p:PA X es t
structure QS(X:Cx)(st:δ)(t:TS):Prop where p:PS X st t
structure L8(X:Cx)(st:VI δ)(t:TS):Prop where p:Eg X st t
structure QG(X:Cx)(tg:γ)(t:TG):Prop where p:PG X tg t
structure Ue(X:Cx)(ts:VI γ)(t:L5):Prop where p:Rk X ts t
structure QI(X:Cx)(tg iter:γ)(t:TI):Prop where p:PI X tg iter t
structure QO(X:Cx)(e:ο γ)(t:TO):Prop where p:PO X e t
structure Q8(X:Cx)(ifs:VI γ)(t:TT):Prop where p:Jb X ifs t
section
variable{X:Cx}{e o a b iter tg:γ}{es:VI γ}{te to ta tb:TE}{t u:TA}{x:Str}{p pos pos':Pos}
theorem kv(i:Nat)(hN:X.N[i]?=some x:=by rfl')(hv:X.env.scope.names.lookup x=some .local:=by rfl')(hd:(x==("__debug__":Str))=false:=by rfl')
  (YY:(x==("__classdict__":Str))=false:=by rfl'):QE X (.Name x pos) (ah i):=⟨IB hN (.inl hv) hd YY⟩
theorem gE(i:Nat)(hN:X.N[i]?=some x:=by rfl')(hv:X.env.scope.names.lookup x=some .cell:=by rfl')(hd:(x==("__debug__":Str))=false:=by rfl')
  (YY:(x==("__classdict__":Str))=false:=by rfl'):QE X (.Name x pos) (ah i):=⟨IB hN (.inr (.inl hv)) hd YY⟩
theorem aA{i:Int}{j:Nat}:QE X (.Constant (.int i) j pos) (tC (.int i)):=⟨OQ⟩
theorem fu{c:Bool}{j:Nat}:QE X (.Constant (.bool c) j pos) (tC (.bl c)):=⟨Rh⟩
theorem oE{j:Nat}:QE X (.Constant .none j pos) (tC .non):=⟨OS⟩
theorem gj{y:Str}{l:VE}{j:Nat}(h:y=txt l:=by rfl'):QE X (.Constant (.str y) j pos) (tC (.str (txt l))):=⟨Pu h⟩
theorem ao:QA X [] aD:=⟨Cw⟩
theorem af(ha:QE X e te)(hr:QA X es t)(hs:starEach (e::es) X.env=(false,eval e X.env)::starEach es X.env:=by rfl'):QA X (e::es) (ai te t):=⟨yo ha.p hr.p hs⟩
theorem kh{y:Str}{l:VE}(hm:∃t,X.mg x=some (.str y t))(e:y=txt l)(hg:X.env.kindOf x=some .globalImplicit:=by rfl')(hd:(x==("__debug__":Str))=false:=by rfl'):QE X (.Name x pos) (tC (.str (txt l))):=⟨MW hg hm e hd⟩
theorem EG{CX:AA}{k:Nat}{f:θ}{fd:FuncData}{ps:VI Str}{sp:Sp}{E:XK}(F:jy X.prog X.w X.K X.mg X.base CX k f fd ps sp)(hr:cG k X.A)(hm:X.mg x=some (.ref f))(hk:W.keepIn X.K (.ref f)=true)(hb:Binds X.K fd ps [])(hx:Passes CX X E)
  (ha:QA X (e::es) t) (hg:X.env.kindOf x=some .globalImplicit:=by rfl') (Ym:(x==("__debug__":Str))=false:=by rfl') (he:starEach (e::es) X.env=(false,eval e X.env)::starEach es X.env:=by rfl') (X1:(backTo pos (starEach es X.env)).any (·.1)=false:=by rfl'):
  QE X (.Call (.Name x p) (e::es) [] pos) (aW sp [] E t):=⟨MA F hr hg hm hk hb .nil hx ha.p Ym he X1⟩
theorem aO{id:String}{r:VI V->Hp->VK->Prop}(hc:fj X (.builtin id) r)(hm:X.mg x=none)(hv:bootBuiltins x=some (.builtin id))(ha:QA X (e::es) t)
  (hg:X.env.kindOf x=some .globalImplicit:=by rfl') (hn:decide (x = "__name__")=false:=by rfl') (Ym:(x==("__debug__" :Str))=false:=by rfl')
  (he:starEach (e::es) X.env=(false,eval e X.env)::starEach es X.env:=by rfl') (X1:(backTo pos (starEach es X.env)).any (·.1)=false:=by rfl'):
  QE X (.Call (.Name x p) (e::es) [] pos) (fG r t):=⟨AE hc hg hm hv ha.p (of_decide_eq_false hn) Ym he X1⟩
theorem dg{T:String}{r:VI V->Hp->VK->Prop}(hc:fj X (.type T) r)(hm:X.mg x=none)(hv:bootBuiltins x=some (.type T))(ha:QA X (e::es) t)
  (hg:X.env.kindOf x=some .globalImplicit:=by rfl') (hn:decide (x = "__name__")=false:=by rfl') (Ym:(x==("__debug__" :Str))=false:=by rfl')
  (he:starEach (e::es) X.env=(false,eval e X.env)::starEach es X.env:=by rfl') (X1:(backTo pos (starEach es X.env)).any (·.1)=false:=by rfl'):
  QE X (.Call (.Name x p) (e::es) [] pos) (fG r t):=⟨xC hc hg hm hv ha.p (of_decide_eq_false hn) Ym he X1⟩
theorem aN{op:Operator}{r:R2}(ho:om X (binaryOp op) r)(ha:QE X a ta)(hb:QE X b tb):QE X (.BinOp a op b pos) (aT r ta tb):=⟨Rn ho ha.p hb.p⟩
theorem AV{c:γ}{tc:TT}(hc:QT X c tc)(ha:QE X a ta)(hb:QE X b tb):QE X (.IfExp c a b pos) (Q6 tc ta tb):=⟨ID hc.p ha.p hb.p⟩
theorem oF(h:QA X es t):QE X (.List es pos) (uS t):=⟨Pc h.p⟩
theorem dM{x1}(h:QA X es t):QE X (.Tuple es x1 pos) (iD t):=⟨Pb h.p⟩
theorem ki:QO X none gR:=⟨ME⟩
theorem kj(h:QE X e te):QO X (some e) (nN te):=⟨MF h.p⟩
theorem iU{p2:Pos}{lo hi:ο γ}{tl th:TO}{r:V->ο Int->ο Int->Hp->VK->Prop}(hr:Um X r)(he:QE X e te)(hl:QO X lo tl)(hu:QO X hi th):QE X (.Subscript e (.Slice lo hi none p2) pos) (L7 r te tl th):=⟨IW hr he.p hl.p hu.p⟩
theorem aK{r:R2}(hr:Q7 X r)(ha:QE X a ta)(hb:QE X b tb)(hs:∀o i,subscripted b false o i=operate [o,i] (getItem o i):=by intro _ _;rfl'):QE X (.Subscript a b pos) (aT r ta tb):=⟨Ru hr ha.p hb.p hs⟩
variable{name:Str}{apos XO:Pos}{T id:String}{r:V->VI V->Hp->VK->Prop}
theorem Jm(pa:PlainAttrs T)(slot:Slot T name id)(hty:typeOf (.builtin id)=pure (.type "method_descriptor"))(hm:MI X id r)(ho:QE X o to)
  (Yn:attributeBase o name X.env (eval o X.env)=eval o X.env:=by rfl') (Yo:(apos.endLine==XO.line)=true:=by rfl'):QE X (.Call (.Attribute o name apos) [] [] XO) (GN X.K T r to):=⟨Pg pa slot hty hm ho.p Yn Yo⟩
theorem jk(pa:PlainAttrs T)(slot:Slot T name id)(hty:typeOf (.builtin id)=pure (.type "method_descriptor"))(hm:MI X id r)(ho:QE X o to)(ha:QA X (e::es) t)
  (Yn:attributeBase o name X.env (eval o X.env)=eval o X.env:=by rfl')
  (hfew:((backTo XO (starEach (e::es) X.env)).all (λx=>!x.1)&&(backToKw XO (keywordEach [] X.env)).all (λx=>x.1.isSome)
   && decide ((e::es).length+([]:VI Keyword).length+(if ([]:VI Keyword).isEmpty then 0 else 1)<30))=true:=by rfl')
  (Yo:(apos.endLine==XO.line)=true:=by rfl') (hs:starEach (e::es) X.env=(false,eval e X.env)::starEach es X.env:=by rfl') (Y0:(backTo XO (starEach es X.env)).any (·.1)=false:=by rfl'):
  QE X (.Call (.Attribute o name apos) (e::es) [] XO) (Ao X.K T r to t):=⟨Rv pa slot hty hm ho.p ha.p Yn hfew Yo hs Y0⟩
theorem oG(h:QE X e te)(he:∀whole,isTrue e X.env whole=(do let v <-whole;standAt e.pos;holding [v] (truthy v)):=by intro _;rfl'):QT X e (tB te):=⟨OV h.p he⟩
theorem aY{op:CmpOp}{r:R2}(ho:om X (compareOp op) r)(ha:QE X a ta)(hb:QE X b tb)(hm:behindInMarks op b=false:=by rfl'):QT X (.Compare a [op] [b] pos) (bz (aT r ta tb)):=⟨Mv ho ha.p hb.p hm⟩
theorem u9{op:CmpOp}{r:R2}(ho:om X (compareOp op) r)(ha:QE X a ta)(hb:QE X b tb)(hm:behindInMarks op b=false:=by rfl'):QE X (.Compare a [op] [b] pos) (aT r ta tb):=⟨Mu ho ha.p hb.p hm⟩
theorem qP{j:Nat}{Zs:Pos}(ha:QE X e te):QT X (.Compare e [.Is] [.Constant .none j Zs] pos) (tB (wZ te)):=⟨IC (OU ha.p) (uI _ .(0) .(0))⟩
theorem fX{j:Nat}{Zs:Pos}(ha:QE X e te):QT X (.Compare e [.IsNot] [.Constant .none j Zs] pos) (tB (jf te)):=⟨IC (Mf ha.p) (uI _ .(0) .(0))⟩
variable{tA ZK:TT}{rest:VI γ}
theorem vc(ha:QT X a tA):QT X (.UnaryOp .Not a pos) (yh tA):=⟨OY ha.p⟩
theorem iF(ha:QT X a tA):QW X (.BoolOp .And [a] pos) tA:=⟨Mg ha.p⟩
theorem gK(ha:QT X a tA):QW X (.BoolOp .Or [a] pos) tA:=⟨OW ha.p⟩
theorem iV(ha:QT X a tA)(hb:QW X (.BoolOp .And (b::rest) pos) ZK):QW X (.BoolOp .And (a::b::rest) pos) (oh tA ZK):=⟨OX ha.p hb.p⟩
theorem iW(ha:QT X a tA)(hb:QW X (.BoolOp .Or (b::rest) pos) ZK):QW X (.BoolOp .Or (a::b::rest) pos) (An tA ZK):=⟨Ri ha.p hb.p⟩
theorem je(h:QW X e tA):QT X e tA:=⟨h.p.pt⟩
theorem gx:Q8 X [] lE:=⟨ML⟩
theorem fY{c:γ}{t:TT}(h:QT X c t):Q8 X [c] t:=⟨MN h.p⟩
theorem dh{ta:TA}(hm:X.mg "range" =none)(ha:QA X [a] ta)(hg:X.env.kindOf "range" =some .globalImplicit:=by rfl')(hs:starEach [a] X.env=[(false,eval a X.env)]:=by rfl'):QI X tg (.Call (.Name "range" p) [a] [] pos) (g6 ta):=⟨GC hg hm ha.p hs⟩
theorem xJ{ta:TA}(hm:X.mg "range" =none)(ha:QA X [a,b] ta)(hg:X.env.kindOf "range" =some .globalImplicit:=by rfl')(hs:starEach [a,b] X.env=[(false,eval a X.env),(false,eval b X.env)]:=by rfl')(YV:starEach [b] X.env=[(false,eval b X.env)]:=by rfl'):QI X tg (.Call (.Name "range" p) [a,b] [] pos) (xw ta):=⟨GD hg hm ha.p hs YV⟩
theorem bY{tl:TE}(hl:QE X a tl):QI X tg a (cD X.K tl):=⟨Mr hl.p⟩
theorem Jo{tl:TE}(hl:QE X a tl):QI X tg a (Jf tl):=⟨Pq hl.p⟩
theorem fZ{elt:γ}{px:Pos}{ifs:VI γ}{scope:Scope}(fs:VI (Str×Nat)){wi:TI}{tt:TT}{te:TE}
  (hi:QI X (.Name x px) iter wi)
  (hb:∀(cl:VI (Str×θ)) (C:θ) (s₀:η) (H₀:Hp) (ex:VI θ),Q8 (cE X scope cl C (x::fs.map (·.1)) s₀ H₀ ex) ifs tt/\QE (cE X scope cl C (x::fs.map (·.1)) s₀ H₀ ex) elt te)
  (hc:X.calm=true:=by rfl') (hk:scope.kind=.function:=by rfl') (hl:iR scope.names X.env.scope.names X.N x fs=true:=by rfl')
  (hs:∀x,foldedSetIterable iter X.env x=pure x:=by intro _;rfl'):
  QE X (.ListComp elt [⟨.Name x px,iter,ifs,0⟩] scope pos) (eG wi (fs.map (·.2)) tt te):=⟨Jh fs hc hi.p (λcl C s₀ H₀ ex=>⟨(hb cl C s₀ H₀ ex).1.p,(hb cl C s₀ H₀ ex).2.p⟩) hk hl hs⟩
theorem mK{i:Nat}{y:Str}{py Ye:Pos}{elt:γ}{px:Pos}{ifs:VI γ}{scope:Scope}(fs:VI (Str×Nat)){wi:TI}{tt:TT}{te:TE}
  (hN:X.N.Nodup) (hi:QI X (.Name x px) iter wi)
  (hb:∀(cl:VI (Str×θ)) (C:θ) (s₀:η) (H₀:Hp) (ex:VI θ),Q8 (cE X scope cl C (x::fs.map (·.1)) s₀ H₀ ex) ifs tt/\QE (cE X scope cl C (x::fs.map (·.1)) s₀ H₀ ex) elt te)
  (hy:X.N[i]?=some y:=by rfl') (Zh:X.env.scope.names.lookup y=some .local:=by rfl') (hc:X.calm=true:=by rfl')
  (hk:scope.kind=.function:=by rfl') (hl:iR scope.names X.env.scope.names X.N x fs=true:=by rfl')
  (ZO:swapsWith (.ListComp elt [⟨.Name x px,iter,ifs,0⟩] scope pos) (some (.Name y py)) Ye.line X.env=pure true:=by rfl')
  (hs:∀x,foldedSetIterable iter X.env x=pure x:=by intro _;rfl'):
  QS X (.Assign [.Name y py] (.ListComp elt [⟨.Name x px,iter,ifs,0⟩] scope pos) Ye) (fq i wi (fs.map (·.2)) tt te):=⟨Ji fs hN hy Zh hc hi.p (λcl C s₀ H₀ ex=>⟨(hb cl C s₀ H₀ ex).1.p,(hb cl C s₀ H₀ ex).2.p⟩) hk hl ZO hs⟩
variable{st:δ}{sts:VI δ}{t1 t2:TS}
theorem bA:L8 X [] bX:=⟨Mi⟩
theorem aj(h1:QS X st t1)(h2:L8 X sts t2):L8 X (st::sts) (aJ t1 t2):=⟨IF h1.p h2.p⟩
theorem ay(h1:QS X st t1):L8 X [st] t1:=⟨Mj h1.p⟩
theorem aI{i:Nat}(hN:X.N.Nodup)(he:QE X e te)(hi:X.N[i]?=some x:=by rfl')(hx:X.env.scope.names.lookup x=some .local:=by rfl')(hs:swapsWith e (some (.Name x pos')) pos.line X.env=pure false:=by rfl'):
  QS X (.Assign [.Name x pos'] e pos) (bh te (aF i)):=⟨IK hN hi (.inl hx) he.p hs (.inr hx)⟩
theorem pK{i:Nat}(hN:X.N.Nodup)(he:QE X e te)(hi:X.N[i]?=some x:=by rfl')(hx:X.env.scope.names.lookup x=some .cell:=by rfl')(hs:swapsWith e (some (.Name x pos')) pos.line X.env=pure false:=by rfl')(hf:X.fn x=true:=by rfl'):
  QS X (.Assign [.Name x pos'] e pos) (bh te (aF i)):=⟨IK hN hi (.inr hx) he.p hs (.inl hf)⟩
theorem bF(he:QE X e te)(hs:swapsWith e none pos.line X.env=pure false:=by rfl'):QS X (.Expr e pos) (cM te):=⟨Ml he.p hs⟩
theorem aV(he:QE X e te):QS X (.Return (some e) pos) (bH te):=⟨OZ he.p⟩
theorem cz{c:γ}{l1 l2:VI δ}{tc:TT}(hc:QT X c tc)(ha:L8 X l1 t1)(hb:L8 X l2 t2):QS X (.If c l1 l2 pos) (dD tc t1 t2):=⟨Rj hc.p ha.p hb.p⟩
theorem pL{c:γ}{body:VI δ}{tc:TT}(hc:QT X c tc)(hb:L8 X body t1)(hp:PassesOwn .(1) X.A X.env X.xe:=by exact PassesOwn.never):QS X (.While c body [] pos) (oj tc t1):=⟨IL hp hc.p hb.p⟩
theorem AW:QS X st yi:=⟨IG⟩
theorem cu{i:Nat}(hN:X.N.Nodup)(hi:X.N[i]?=some x:=by rfl')(hx:X.env.scope.names.lookup x=some .local:=by rfl'):QG X (.Name x pos) (aF i):=⟨tQ hN hi (.inl hx) (.inr hx)⟩
theorem eT{body:VI δ}{wi:TI}{g:TG}{tb:TS}(hi:QI X tg iter wi)(hg:QG X tg g)(hb:L8 X body tb)(hp:PassesOwn .(1) X.A X.env X.xe:=by exact PassesOwn.never)(hc:X.calm=true:=by rfl')(hs:∀x,foldedSetIterable iter X.env x=pure x:=by intro _;rfl'):QS X (.For tg iter body [] pos) (g7 wi g tb):=⟨O5 hp hc hi.p hg.p hb.p hs⟩
theorem Jp{g:TG}(he:QE X e te)(hg:QG X tg g)(hs:swapsWithSole [tg] e pos.line X.env=pure false:=by rfl')(hw:swappedStores [tg] e X.env=pure none:=by rfl')
  (h1:(assignEach [tg] X.env).map (·.2)=[assign tg X.env]:=by rfl'):QS X (.Assign [tg] e pos) (bh te g):=⟨O4 he.p hg.p hs hw h1⟩
theorem tS:Ue X [] uK:=⟨Ei⟩
theorem g8{t:TG}{u:L5}(h1:QG X e t)(h2:Ue X es u)(hs:(assignEach (e::es) X.env).map (·.2)=assign e X.env::(assignEach es X.env).map (·.2):=by rfl'):Ue X (e::es) (iA t u):=⟨uL h1.p h2.p hs⟩
theorem yK{k:Nat}{t:L5}{n:Nat}(h:Ue X es t)(hc:X.calm=true:=by rfl')(hn:(assignEach es X.env).length=n:=by rfl')(Ya:(assignEach es X.env).findIdx? (·.1)=none:=by rfl'):QG X (.Tuple es k pos) (uM X.K n t):=⟨II hc h.p hn Ya⟩
theorem Jq{i:γ}{ti:TE}{t:Mn}(ho:QE X o to)(hi:QE X i ti)(hs:O0 X t)
  (ha:∀v,assign (.Subscript o i pos) X.env v=(do
   let ov <-holding [v] (eval o X.env)
   let iv <-holding [v,ov] (eval i X.env)
   standAt pos
   holding [v,ov,iv] (setItem ov iv v)
   release [v,ov,iv] []):=by intro _;rfl'):QG X (.Subscript o i pos) (GA to ti t):=⟨O3 ho.p hi.p hs ha⟩
end
theorem Ey.j4{P:ι}{w:ν}{K:W.Frag}{mg:Str->ο ζ}{base:ε}{x qual:Str}{st:δ}{f:θ}{fd:FuncData}{N ps:VI Str}{k:Nat}{sp:Sp}(F:Ey K x qual st f fd)(S:aP N ps (aE st)){rd:TS}(len:∀vs H Q E,sp vs H Q E->vs.length=ps.length)
  (hb:∀(X5:ζ) (A:ξ) (outer:VI Env) (s:η) (H:Hp) (E:XK),cG k (A.deeper (envOfC qual (aE st) s.heap.objs.size f X5))->L8 (oq iM P w K mg base N qual (aE st) f X5 A outer s H E).Mh (gu st) rd)
  (hq:∀(vs:VI V) (H:Hp) (Q:VK) (E:XK),sp vs H Q E->rd {nx:=λ_ H'=>Q .non H',rt:=Q} (start N vs) H):jy P w K mg base iM (k+1) f fd ps sp:=
 F.ok S len λX5 A outer s H vs Q E hr h=>⟨rd,(hb X5 A outer s H E hr).p,hq vs H Q E h⟩
section
variable{X:Cx}
abbrev Og(K:W.Frag):VI V->Hp->VK->Prop:=λxs H Q=>∃p,∃bs:VI Bool,xs=[.ref p]/\bw K H p (bs.map V.bl)/\Q (.bl (bs.all id)) H
theorem all_range{bs:VI Bool}:(List.range bs.length).all (λi=>bs.getD i true)=bs.all id:=by
 rw[SU,all_eq_true,all_eq_true];constructor
 .intro h b hb;obtain⟨i,hi,rfl⟩:=Qr hb;have:=h i (xI.mpr hi);simpa [getD_eq_getElem?_getD,hi] using this
 .intro h i hi;have YG:=xI.mp hi;have:=h bs[i] (Wb YG);simpa [getD_eq_getElem?_getD,YG] using this
theorem GZ(hc:X.calm=true):fj X (.builtin "all") (Og X.K):=by
 intro Z0 s Y H xs us Q I r h;obtain⟨p,bs,rfl,hS,q⟩:=h;obtain⟨u,rfl,ru⟩:=vals1 r;obtain rfl:u=Value.ref p:=ru;obtain⟨XM,rv,pl,hz⟩:=I.list hS;have hlen:XM.length=bs.length:=by rw[<-rv.length,aw]
 refine call_all_walk (Kb pl.isList ?_);have Yj:p≠s.heap.objs.size:=iq (by obtain⟨o,e,_⟩:=pl.isList;exact dq e);refine⟨s.heap.objs.size,_,_,_,_,_,λi=>bs.getD i true,rfl,Walks.list (A:=X.A.in1) (show X.A.in1.handled=none from I.ok.hd hc) s.heap.objs.size p Yj XM.toArray,⟨⟨_,cx _ rfl,rfl,rfl⟩,pl.isList.at λo e=>ba _ e⟩,?_,λh' tk hk=>?_⟩
 .intro i v s' Q' E' hv hq;have hv':XM[i]?=some v:=by simpa using hv
  have hi:i<bs.length:=by rw[<-hlen];exact(bo.mp hv').1
  obtain⟨u',hu',ru'⟩:=rv.get (i:=i) (x:=.bl bs[i]) (by rw[cn,dk hi];rfl);rw[hv'] at hu';cases hu';obtain rfl:v=Value.bool bs[i]:=ru';refine Jn ?_;have e:bs.getD i true=bs[i]:=by simp[getD_eq_getElem?_getD,hi]
  rw[<-e];exact hq
 .have e:(List.range XM.toArray.size).all (λi=>bs.getD i true)=bs.all id:=by
   rw[ix,hlen];exact all_range
  refine⟨.bl _,H,I.kept (t':=tk) λb o eb=>hk b o ?_ (ba _ eb),rfl,by rw[e];exact q⟩;intro hb;have:b=s.heap.objs.size:=by simpa using hb
  subst this;exact absurd (dq eb) (oC _)
end
structure Vq(fs:VI θ)(H H':Hp)(h B h':ε):Prop where
 keep:∀b o,h.get? b=some o->H b=none->b∉fs->B.get? b=some o
 slot:∀b o,h.get? b=some o->H b=none->b∈fs->∃sl,h'.get? b=some {o with slots:=sl}
 free:∀b o,h.get? b=some o->H b=none->H' b=none
 there:∀b o,h.get? b=some o->b∉fs->∃o',B.get? b=some o'
 tups:∀b xs,H b=some (.tup xs)->H' b=some (.tup xs)
 frzs:∀b o u,H b=some (.frz o u)->H' b=some (.frz o u)
 tbls:∀b ps,H b=some (.tbl ps)->∃more,H' b=some (.tbl (ps++more))
def vd(h:ε)(e:θ)(dd:ο θ):Prop:=∃o,h.get? e=some o/\o.dict=dd
theorem vd.kept{h h':ε}{e:θ}{dd:ο θ}(x:vd h e dd)(k:DictK.Kept h h'):vd h' e dd:=let ⟨o,a,b⟩:=x;let ⟨o',c,d⟩:=k e o a;⟨o',c,d.trans b⟩
def tE(P:ι)(w:ν):AA:=λouter H s E e s'=>∃(ea:θ) (cls:ζ) (t:θ) (H':Hp) (B:ε) (dd:ο θ),e=.ref ea/\s'.os=s.os/\AllBare s'.gens/\
 Heap.FlyingW B outer ea cls (.ref t) s'.heap/\mh P w H' B/\Vq (frs outer) H H' s.heap B s'.heap/\vd s'.heap ea dd/\E cls dd H'
theorem AX{base h:ε}{l:VI Env}(f:h.FunFrames base l){b:θ}(hb:b∈frs l):base.get? b=none/\∃o,h.get? b=some o/\∀vs,o.data≠.fields vs:=f.mem hb
section
variable{P:ι}{w:ν}{K:W.Frag}{mg:Str->ο ζ}{base:ε}{N:VI Str}{qual:Str}{scope:Scope}{f:θ}{cd:ζ}{A:ξ}{outer:VI Env}{s:η}{H:Hp}{E:XK}
theorem iX{Z0:VI (θ×Obj)}{Y:St}{H2:Hp}{s2:η}{h':ε}{e:θ}{cls:ζ}{vs:VI ζ}(I:Inv (oq (tE P w) P w K mg base N qual scope f cd A outer s H E) Z0 Y H2 s2)
  (hx:Heap.MadeExcOf s2.heap h' e cls vs) (q:E cls none H2):(oq (tE P w) P w K mg base N qual scope f cd A outer s H E).xe (.ref e) {s2 with heap:=h' }:=by
 generalize eF:frs (oq (tE P w) P w K mg base N qual scope f cd A outer s H E).stack=F;have hin:∀env∈(oq (tE P w) P w K mg base N qual scope f cd A outer s H E).stack,∀b,env.frame=some b->b∈F:=λenv he b hb=>by rw[<-eF];exact Gc.mpr ⟨env,he,hb⟩
 have neL:∀b o,s.heap.get? b=some o->b≠s.heap.objs.size:=λb o e=>iq (dq e);have nF:∀b o,s.heap.get? b=some o->b∉frs outer->b∉F:=λb o e hb z=>by
  rw[<-eF] at z
  rcases gL.mp (I.lB b z) with y|y
  .exact neL b o e y
  .exact hb y
 have gB:∀b o,s2.heap.get? b=some o->b∉F->(W.hideAll s2.heap F).get? b=some o:=λb o e hb=>W.hideAll_get _ e hb;show wpAny _ _ (leaving _ (.ref e)) _ _ _;refine pE (DictK.IZ (DictK.uU _ _) (wpAny_leaves_madeW (Q:=λ_ s3=>∃h2 t,s3={s2 with heap:=h2}/\Heap.FlyingW (W.hideAll s2.heap F) outer e cls (.ref t) h2/\h'.UpToSlots h2) (base:=W.hideAll s2.heap F) (h:=s2.heap) I.ok.frames rfl (λb o q=>W.of_hideAll _ q) (W.funFrames_hide I.stack hin) hx λh2 t Z4 htup hn hsm=>⟨h2,t,rfl,Z4,hsm⟩)) (λ_ s3 q3=>?_) λ_ _ z=>z;obtain⟨⟨h2,t,e3,Z4,hsm⟩,kp⟩:=q3;subst e3;obtain⟨t9,at9,_,_⟩:=hx.there;refine⟨e,cls,t,H2,W.hideAll s2.heap F,none,rfl,I.os,I.bare,Z4,λa o ea=>(I.hok a o ea).stay (λb u hb eu=>gB b u eu λz=>?_) (λc q=>q) (λc xs q=>q),⟨λb o eb n hb=>?_,λb o eb n hb=>?_,λb o eb n=>?_,λb o eb hb=>?_,I.base.tups,I.base.frzs,I.base.tbls⟩,vd.kept ⟨_,at9,rfl⟩ kp,q⟩
 .have hf:=I.tO b (by rw[eF];exact z)
  rcases hb with rfl|hb
  .rw[hf] at ea;cases ea
  .rw[hf] at hb;cases hb
 .exact gB b o (I.base.keep b o eb n hb (xv)) (nF b o eb hb)
 .obtain⟨sl,e1⟩:=I.base.slot b o eb n hb (xv);obtain⟨_,o2,e2,d2⟩:=AX I.stack (dA _ hb:b∈s.heap.objs.size::frs outer);rw[e1] at e2;cases e2;obtain⟨sl',e3⟩:=hsm b _ (hx.keeps _ _ e1) d2;exact⟨sl',e3⟩
 .exact I.base.free b o eb n (xv)
 .obtain⟨o',e1⟩:=I.base.there b o eb (xv);exact⟨o',gB b o' e1 (nF b o eb hb)⟩
theorem dw:Passes (tE P w) (oq (tE P w) P w K mg base N qual scope f cd A outer s H E) E:=by
 rintro Z0 Y H1 s1 e s2 I ⟨ea,cls,t,H2,B,dd,rfl,hos,hg,Z4,hok,ub,dI,q⟩;have neL:∀b o,s.heap.get? b=some o->b≠s.heap.objs.size:=λb o e=>iq (dq e);have nF:∀b o,s.heap.get? b=some o->b∉frs outer->b∉frs (oq (tE P w) P w K mg base N qual scope f cd A outer s H E).stack:=λb o e hb z=>by
  rcases gL.mp (I.lB b z) with y|y
  .exact neL b o e y
  .exact hb y
 have yF:∀b,b∈frs outer->b∈frs (oq (tE P w) P w K mg base N qual scope f cd A outer s H E).stack:=λb hb=>(dA _ hb:b∈s.heap.objs.size::frs outer);show wpAny _ _ (leaving _ (.ref ea)) _ _ _;refine pE (DictK.IZ (DictK.uU _ _) (wpAny_leaves_onW (Q:=λ_ s3=>∃h3,s3={s2 with heap:=h3}/\Heap.FlyingW B outer ea cls (.ref t) h3/\s2.heap.UpToSlots h3) I.ok.frames rfl Z4 λh3 Pz hsm=>⟨h3,rfl,Pz,hsm⟩)) (λ_ s3 q3=>?_) λ_ _ z=>z;obtain⟨⟨h3,e3,Pz,hsm⟩,kp⟩:=q3;subst e3;refine⟨ea,cls,t,H2,B,dd,rfl,hos.trans I.os,hg,Pz,hok,⟨λb o eb n hb=>?_,λb o eb n hb=>?_,λb o eb n=>?_,λb o eb hb=>?_,λb xs e=>ub.tups b xs (I.base.tups b xs e),λb o u e=>ub.frzs b o u (I.base.frzs b o u e),λb ps e=>?_⟩,dI.kept kp,q⟩
 .exact ub.keep b o (I.base.keep b o eb n hb (xv)) (I.base.free b o eb n (xv)) (nF b o eb hb)
 .obtain⟨sl,e1⟩:=I.base.slot b o eb n hb (xv);obtain⟨sl',e2⟩:=ub.slot b _ e1 (I.base.free b o eb n (xv)) (yF b hb);obtain⟨_,o2,e3,d3⟩:=AX Z4.2.2.1 (yF b hb);rw[e2] at e3;cases e3;obtain⟨sl2,e4⟩:=hsm b _ e2 d3;exact⟨sl2,e4⟩
 .obtain⟨o',e1⟩:=I.base.there b o eb (xv);exact ub.free b o' e1 (I.base.free b o eb n (xv))
 .obtain⟨o',e1⟩:=I.base.there b o eb (xv);exact ub.there b o' e1 (nF b o eb hb)
 .obtain⟨m1,e1⟩:=I.base.tbls b ps e;obtain⟨m2,e2⟩:=ub.tbls b _ e1;exact⟨m1++m2,by rw[e2,Array.append_assoc]⟩
end
theorem MY{K:W.Frag}{h:ε}{C:θ}{Z9:VI ζ}{newId:String}(X:K.In h)(q:W.excIn K C Z9 newId=true):
  ∃bm N nm qn bs hdct sn sub ab col dd k0 k1 k2 k3 k5 mN,h.get? C=some (excClassObj nm qn C N bs bm hdct sn sub ab col dd k0 k1 k2 k3 k5 newId)/\h.Ns N mN/\mN "__init__" =none/\OwnTail h Z9 bm:=by
 unfold W.excIn at q;split at q
 next dd cd sl look=>
  split at q
  next C1 tl a0 a1 a2 a3 nid a5 e1 e2=>
   simp only[and_eq_true,beq_iff_eq,Bool.not_eq_true'] at q;obtain⟨⟨⟨⟨⟨q1,q2⟩,q3⟩,q4⟩,q5⟩,q6⟩:=q;subst q1 q2;cases cd;dsimp only at e1 q3 q5 q6;subst e1 q3;have e3:sl = #[a0,a1,a2,a3,some (.builtin nid),a5]:=by
    cases sl;dsimp only at e2;rw[e2]
   subst e3;exact⟨tl,_,_,_,_,_,_,_,_,_,_,_,_,_,_,_,_,X _ _ look,.of_isNs (W.isNs_of_in X q5),W.nsMap_none_of_in X q5 q6,W.tail_of_in X q4⟩
  next=>cases q
 next=>cases q
def jz(cls:ζ)(E:XK)(ta:TA):TS:=λ_ Y H=>ta Y H λvs H1=>vs.length<=8/\E cls none H1
section
variable{X:Cx}
theorem Jr{x:Str}{e:γ}{es:VI γ}{ta:TA}{C:θ}{B newId Y3:String}{Z9:VI ζ}{E:XK}{np XO pos:Pos}(FB:ExcBaseFacts B newId Y3 Z9)(hC:W.excIn X.K C Z9 newId=true)
  (hg:Gl X x) (hm:X.mg x=some (.ref C)) (hc:X.calm=true) (ha:PA X (e::es) ta)
  (hx:∀(Z0:VI (θ×Obj)) (Y:St) (H2:Hp) (s2:η) (h':ε) (ea:θ) (vs:VI ζ),Inv X Z0 Y H2 s2->Heap.MadeExcOf s2.heap h' ea (.ref C) vs->E (.ref C) none H2->X.xe (.ref ea) {s2 with heap:=h' })
  (Ym:(x==("__debug__":Str))=false) (he:starEach (e::es) X.env=(false,eval e X.env)::starEach es X.env) (X1:(backTo XO (starEach es X.env)).any (·.1)=false):
  PS X (.Raise (some (.Call (.Name x np) (e::es) [] XO)) none pos) (jz (.ref C) E ta):=by
 intro Z0 s Y H D I h;obtain⟨bm,N,nm,qn,bs,hdct,sn,sub,ab,col,dd,k0,k1,k2,k3,k5,mN,hO,hN,hni,TL⟩:=MY I.mod.kin hC;refine wpAny_Raise_call_subT (C:=C) (nm:=nm) (q:=qn) (N:=N) (bs:=bs) (bm:=bm) (hdct:=hdct) (sn:=sn) (sub:=sub) (ab:=ab) (col:=col) (dd:=dd) (k0:=k0) (k1:=k1) (k2:=k2) (k3:=k3) (k5:=k5)
  FB (mN:=mN) (TL.hasType FB.hasBase) (I.ok.hd hc) (by rw[he];show (false||(backTo XO (starEach es X.env)).any (·.1))=false;rw[X1];rfl) hni (tP I hg hm ⟨rfl,?_⟩ Ym)
 have hA:=ha XO Z0 s Y H _ I h;rw[he] at hA ⊢;refine V8 (cT hA λus s2 ⟨vs,H2,I2,r2,hz,q2⟩=>⟨rfl,?_,I2.bk _ _ hO,hN.keeps I2.bk,TL.keeps I2.bk,λh' ea hmade=>hx Z0 Y H2 s2 h' ea us I2 hmade q2⟩);show us.length<=sizeLine;rw[<-r2.length];exact eJ hz .(0)
end
mutual
inductive Dat (K:W.Frag) (H:Hp):V->PyData->Prop where
 |non:Dat K H .non .none
 |bl (b:Bool):Dat K H (.bl b) (.bool b)
 |int (i:Int):Dat K H (.int i) (.int i)
 |str (x:Str):Dat K H (.str x) (.str x)
 |lst {a:θ} {xs:VI V} {ds:VI PyData} (h:bw K H a xs) (t:DatAll K H xs ds):Dat K H (.ref a) (.list ds)
 |tup {a:θ} {xs:VI V} {ds:VI PyData} (h:fT K H a xs) (t:DatAll K H xs ds):Dat K H (.ref a) (.tuple ds)
inductive DatAll (K:W.Frag) (H:Hp):VI V->VI PyData->Prop where
 |nil:DatAll K H [] []
 |cons {x:V} {xs:VI V} {d:PyData} {ds:VI PyData} (h:Dat K H x d) (t:DatAll K H xs ds):DatAll K H (x::xs) (d::ds)
end
section
variable{X:Cx}{Z0:VI (θ×Obj)}{Y:St}{H:Hp}{s:η}
mutual
theorem Inv.dat(I:Inv X Z0 Y H s):∀{x:V} {d:PyData} {u:ζ},Dat X.K H x d->RelV x u->∃as,Reads s.heap u d as
 |_,_,_,.non,r=>by cases (show _=Value.none from r);exact⟨_,.none⟩
 |_,_,_,.bl b,r=>by cases (show _=Value.bool b from r);exact⟨_,.bool b⟩
 |_,_,_,.int i,r=>by obtain⟨t,rfl⟩:=(show ∃t,_=Value.int i t from r);exact⟨_,.int i t⟩
 |_,_,_,.str x,r=>by obtain⟨t,rfl⟩:=(show ∃t,_=Value.str x t from r);exact⟨_,.str x t⟩
 |_,_,_,.lst (a:=a) h t,r=>by
  cases (show _=Value.ref a from r);obtain⟨XM,rv,⟨o,n,e,c,_,d⟩,_⟩:=I.list h;obtain⟨as,z⟩:=Inv.CH I t rv;exact⟨_,.list e c d (by simpa using z)⟩
 |_,_,_,.tup (a:=a) h t,r=>by
  cases (show _=Value.ref a from r);obtain⟨XM,rv,⟨o,e,c,n,d⟩,_⟩:=I.tuple h;obtain⟨as,z⟩:=Inv.CH I t rv;exact⟨_,.tuple e c d (by simpa using z)⟩
theorem Inv.CH(I:Inv X Z0 Y H s):∀{xs:VI V} {ds:VI PyData} {us:VI ζ},DatAll X.K H xs ds->Vals xs us->∃as,ReadsAll s.heap us ds as
 |_,_,_,.nil,.nil=>⟨_,.nil⟩
 |_,_,_,.cons h t,.cons r rr=>by
  obtain⟨as,z⟩:=Inv.dat I h r;obtain⟨bs,z'⟩:=Inv.CH I t rr;exact⟨_,.cons z z'⟩
end
end
abbrev RC(K:W.Frag):R2:=λx y H Q=>∃da db,Dat K H x da/\Dat K H y db/\SeqAt.shaped da=true/\SeqAt.shaped db=true/\Q (.bl (!PyData.eqv da db)) H
section
variable{X:Cx}
theorem PB(hu:X.A.units+64<cLine):om X (compareOp .NotEq) (RC X.K):=by
 intro Z0 s Y H x y v u Q I rx ry h;obtain⟨da,db,h1,h2,s1,s2,q⟩:=h;obtain⟨as,z1⟩:=I.dat h1 rx;obtain⟨bs,z2⟩:=I.dat h2 ry;exact ne_dataH z1 z2 s1 s2 hu ⟨.bl _,H,I,rfl,q⟩
end
theorem PS.Mh{X:Cx}{st:δ}{t:TS}(h:PS X.Mh st t):PS X st t:=λZ0 s Y H D I hw=>
 pE (h Z0 s Y H D (I.uJ _) hw) (λ_ _ q=>q.j6) λ_ _ z=>z.elim
section
variable{X:Cx}{e:γ}{es:VI γ}{t:TA}{x:Str}{p pos np XO Zt:Pos}
theorem bZ{st:δ}{t:TS}(h:QS X.Mh st t):QS X st t:=⟨PS.Mh h.p⟩
theorem AY{P:ι}{w:ν}:Passes (tE P w) X E0:=λ_ _ _ _ _ _ _ ⟨_,_,_,_,_,_,_,_,_,_,_,_,_,q⟩=>q.elim
theorem iY{C:θ}{B newId Y3:String}{Z9:VI ζ}{E:XK}(FB:ExcBaseFacts B newId Y3 Z9)(hC:W.excIn X.K C Z9 newId=true)(hm:X.mg x=some (.ref C))(ha:QA X (e::es) t)
  (hx:∀(Z0:VI (θ×Obj)) (Y:St) (H2:Hp) (s2:η) (h':ε) (ea:θ) (vs:VI ζ),Inv X Z0 Y H2 s2->Heap.MadeExcOf s2.heap h' ea (.ref C) vs->E (.ref C) none H2->X.xe (.ref ea) {s2 with heap:=h' })
  (hg:X.env.kindOf x=some .globalImplicit:=by rfl') (hc:X.calm=true:=by rfl')
  (Ym:(x==("__debug__":Str))=false:=by rfl') (he:starEach (e::es) X.env=(false,eval e X.env)::starEach es X.env:=by rfl') (X1:(backTo XO (starEach es X.env)).any (·.1)=false:=by rfl'):
  QS X (.Raise (some (.Call (.Name x np) (e::es) [] XO)) none pos) (jz (.ref C) E t):=⟨Jr FB hC hg hm hc ha.p hx Ym he X1⟩
end
theorem Ey.EH{P:ι}{w:ν}{K:W.Frag}{mg:Str->ο ζ}{base:ε}{x qual:Str}{st:δ}{f:θ}{fd:FuncData}{N ps:VI Str}{k:Nat}{sp:Sp}(F:Ey K x qual st f fd)(S:aP N ps (aE st)){rd:XK->TS}(len:∀vs H Q E,sp vs H Q E->vs.length=ps.length)
  (hb:∀(X5:ζ) (A:ξ) (outer:VI Env) (s:η) (H:Hp) (E:XK),cG k (A.deeper (envOfC qual (aE st) s.heap.objs.size f X5))->L8 (oq (tE P w) P w K mg base N qual (aE st) f X5 A outer s H E) (gu st) (rd E))
  (hq:∀(vs:VI V) (H:Hp) (Q:VK) (E:XK),sp vs H Q E->rd E {nx:=λ_ H'=>Q .non H',rt:=Q} (start N vs) H):jy P w K mg base (tE P w) (k+1) f fd ps sp:=by
 obtain⟨oc,od,kV,doc,pm,an,X5,ct,ZL,rfl,lk,YY⟩:=F.ex;exact Oe lk YY S len λA outer s H vs Q E hr ZC=>⟨rd E,(hb X5 A outer s H E hr).p,hq vs H Q E ZC⟩
end L2
namespace L2
open PySem PySem.Spec PyProof.Rows PySem.Builtin.Str
abbrev Js:VI V->Hp->VK->Prop:=λxs H Q=>∃i j,xs=[.str (txt i),.str (txt j)]/\Q (.str (txt (if j<i then j else i))) H
def jI(a b:VE)(i:Nat):VE:=if i=0 then a else b
theorem Jt{a b:VE}{t u:Tok}{i:Nat}{v:ζ}(h:(#[Value.str (txt a) t,Value.str (txt b) u])[i]?=some v):∃t',v=.str (txt (jI a b i)) t':=by
 match i,h with
 | 0,h=>simp at h;exact⟨t,h.symm⟩
 | 1,h=>simp at h;exact⟨u,h.symm⟩
 |_+2,h=>simp at h
section
variable{prog:ι}{w:ν}{A:ξ}{E:ζ->η->Prop}{s:η}
theorem yL{a b:VE}{t u:Tok}{Q:ζ->η->Prop}(hh:A.handled=none)
  (h:∀h' tk,(∀c o,s.heap.get? c=some o->h'.get? c=some o)->Q (if b<a then .str (txt b) u else .str (txt a) t) {s with heap:=h',toks:=tk}):
  wpAny .(2) A (call (.builtin "min") [.str (txt a) t,.str (txt b) u]) Q E s:=by
 have hT:(s.heap.push {cls:=.type "tuple",data:=.seq #[.str (txt a) t,.str (txt b) u] }).IsTuple s.heap.objs.size #[.str (txt a) t,.str (txt b) u]:=⟨_,cx _ rfl,rfl,0,rfl⟩;refine call_min_two (wpAny_pyIter_tuple hT ?_);have hsz:(s.heap.push {cls:=.type "tuple",data:=.seq #[Value.str (txt a) t,.str (txt b) u] }).objs.size=s.heap.objs.size+1:=oo ..;have cmp:CmpOf prog w A.in1 .Lt (λi v=>(#[Value.str (txt a) t,.str (txt b) u])[i]?=some v) (λi j=>decide (jI a b i<jI a b j)):=λi j vi vj s' Q' E' hi hj hq=>by
  obtain⟨t1,rfl⟩:=Jt hi;obtain⟨t2,rfl⟩:=Jt hj;exact(lt_str (by rw[bW,bW];exact hq):wpAny .(2) A.in1 (compareOp .Lt (.str (txt (jI a b i)) t1) (.str (txt (jI a b j)) t2)) Q' E' s')
 refine⟨_,[_,s.heap.objs.size],[_],_,_,_,_,rfl,Walks.tuple (A:=A.in1) hh _ s.heap.objs.size (by rw[hsz];exact iq (vT _)) #[.str (txt a) t,.str (txt b) u],
  ⟨⟨_,cx _ rfl,rfl,rfl⟩,hT.push _⟩,λc hc=>?_,Nat.zero_lt_two,cmp,λv h' tk hP hk=>?_⟩
 .show c<((s.heap.push _).push _).objs.size;rw[oo,hsz]
  rcases gL.mp hc with z|z
  .rw[z,hsz];exact vT _
  .rw[bc.mp z];exact Hm (vT _)
 .have old:∀c o,s.heap.get? c=some o->h'.get? c=some o:=λc o e=>by
   refine hk c o (λhm=>?_) (ba _ (ba _ e));have lt:=dq e;rw[bc.mp hm,hsz] at lt;exact absurd (Nat.lt_of_succ_lt lt) (oC _)
  have fin:=h h' tk old;have hv:v=if b<a then Value.str (txt b) u else Value.str (txt a) t:=by
   have hP':(#[Value.str (txt a) t,.str (txt b) u])[argBest (λi j=>decide (jI a b i<jI a b j)) 1]?=some v:=hP
   by_cases hba:b<a
   .have e:argBest (λi j=>decide (jI a b i<jI a b j)) 1=1:=by simp[argBest,jI,hba]
    rw[e] at hP';rw[df hba];simpa using hP'.symm
   .have e:argBest (λi j=>decide (jI a b i<jI a b j)) 1=0:=by simp[argBest,jI,hba]
    rw[e] at hP';rw[cq hba];simpa using hP'.symm
  rw[hv];exact fin
end
section
variable{X:Cx}
theorem CI(hc:X.calm=true):fj X (.builtin "min") Js:=by
 intro Z0 s Y H xs us Q I r h;obtain⟨i,j,rfl,q⟩:=h;obtain⟨u,w',rfl,⟨t,rfl⟩,⟨t',rfl⟩⟩:=vals2 r;refine yL (I.ok.hd hc) λh' tk k=>⟨_,H,I.kept k,?_,q⟩
 by_cases hj:j<i
 .rw[df hj,df hj];exact⟨_,rfl⟩
 .rw[cq hj,cq hj];exact⟨_,rfl⟩
end
variable{X:Cx}
theorem aM{A C:TS}{D:Ends}{Y:St}{H:Hp}(h:∀c:St->Hp->Prop,(∀σ' H',C D σ' H'->c σ' H')->A {D with nx:=c} Y H):aJ A C D Y H:=h _ λ_ _ z=>z
theorem aR{te:TE}{i:Nat}{C:TS}{D:Ends}{Y:St}{H:Hp}(h:∀c:V->Hp->Prop,(∀x H1,C D (Y.set i (some x)) H1->c x H1)->te Y H c):aJ (bh te (aF i)) C D Y H:=h _ λ_ _ z=>z
theorem lH{K:PySem.W.Frag}{a:θ}{xs:VI V}{Y:St}{fs:VE}{tt:TT}{te:TE}{H:Hp}{Q:VK}(Pv:Nat->VI V->Hp->Prop)(h0:Pv 0 [] H)(hl:∀i ys H,i<=xs.length->Pv i ys H->bw K H a xs/\ys.length<=i)(hn:xs.length<=sizeLine)
  (hs:∀i x ys H,xs[i]?=some x->Pv i ys H->∀R:VI V->Hp->Prop,(∀X4 H',Pv (i+1) X4 H'->R X4 H')->tt (some x::br fs Y) H λb H2=>if b=true then te (some x::br fs Y) H2 λy H3=>R (ys++[y]) H3 else R ys H2)
  (hd:∀ys H,Pv xs.length ys H->∀p,H p=none->Q (.ref p) (upd H p (.lst ys))):
  ∃W:Nat->Nat->VI V->Hp->Prop,(∃m,W 0 m [] H)/\∀i m ys H,W i m ys H->ys.length<=sizeLine/\
   (((Od K a).stop i H/\∀p,H p=none->Q (.ref p) (upd H p (.lst ys)))\/
    ((Od K a).go i H/\ys.length<sizeLine/\∀x H',(Od K a).yld i H x H'->tt (some x::br fs Y) H' λb H2=>if b=true then te (some x::br fs Y) H2 λy H3=>∃m',m'<m/\W (i+1) m' (ys++[y]) H3 else ∃m',m'<m/\W (i+1) m' ys H2)):=by
 refine⟨λi m ys H=>m=xs.length-i/\i<=xs.length/\Pv i ys H,⟨xs.length,by simp,mi _,h0⟩,?_⟩;rintro i m ys H ⟨rfl,hi,p⟩;obtain⟨hq,hle⟩:=hl i ys H hi p;refine⟨by lia,?_⟩
 by_cases XZ:i<xs.length
 .refine .inr ⟨⟨xs,xs[i],hq,by simp[XZ]⟩,by lia,λx H' y=>?_⟩
  obtain⟨e,y⟩:=y;subst e;exact hs i x ys _ (y xs hq) p (λX4 H'=>∃m',m'<xs.length-i/\m'=xs.length-(i+1)/\i+1<=xs.length/\Pv (i+1) X4 H') λX4 H' q=>⟨xs.length-(i+1),by lia,rfl,XZ,q⟩
 .have e:i=xs.length:=by lia
  subst e;exact .inl ⟨⟨xs,hq,bb _⟩,hd ys H p⟩
theorem tT{wi:TI}{fs:VE}{tt:TT}{te:TE}{Y:St}{H:Hp}{Q:VK} (h:∀R:It->Hp->Prop,(∀J H1,R J H1=∃W:Nat->Nat->VI V->Hp->Prop,(∃m,W 0 m [] H1)/\∀i m ys H,W i m ys H->ys.length<=sizeLine/\
 ((J.stop i H/\∀p,H p=none->Q (.ref p) (upd H p (.lst ys)))\/
  (J.go i H/\ys.length<sizeLine/\∀x H',J.yld i H x H'->tt (some x::br fs Y) H' λb H2=>if b=true then te (some x::br fs Y) H2 λy H3=>∃m',m'<m/\W (i+1) m' (ys++[y]) H3 else ∃m',m'<m/\W (i+1) m' ys H2)))->wi Y H R):eG wi fs tt te Y H Q:=h _ λ_ _=>rfl
theorem ve{K:W.Frag}{tl:TE}{a:θ}{xs:VI V}{Y:St}{fs:VE}{tt:TT}{te:TE}{H:Hp}{Q:VK}(ha:∀Q:VK,Q (.ref a) H->tl Y H Q)(hq:bw K H a xs)(Pv:Nat->VI V->Hp->Prop)(h0:Pv 0 [] H)(hl:∀i ys H,i<=xs.length->Pv i ys H->bw K H a xs/\ys.length<=i)(hn:xs.length<=sizeLine)
  (hs:∀i x ys H,xs[i]?=some x->Pv i ys H->∀R:VI V->Hp->Prop,(∀X4 H',Pv (i+1) X4 H'->R X4 H')->tt (some x::br fs Y) H λb H2=>if b=true then te (some x::br fs Y) H2 λy H3=>R (ys++[y]) H3 else R ys H2)
  (hd:∀ys H,Pv xs.length ys H->∀p,H p=none->Q (.ref p) (upd H p (.lst ys))):eG (cD K tl) fs tt te Y H Q:=ha _ ⟨a,rfl,⟨xs,hq⟩,lH Pv h0 hl hn hs hd⟩
end L2
namespace Asc
open PySem PyProof.Rows
end Asc
namespace L2
open PySem PySem.Spec PyProof.Rows
def ko(K:PySem.W.Frag)(wi:TI)(fs:VE)(tt:TT)(te:TE):TE:=λY H Q=>wi Y H λJ H1=>∃W:Nat->Nat->VI V->Hp->Prop,(∃m,W 0 m [] H1)/\∀i m ys H,W i m ys H->ys.length<=sizeLine/\
 ((J.stop i H/\∀p,H p=none->Q (.ref p) (upd H p (.lst ys)))\/
  (J.go i H/\ys.length<sizeLine/\∀x H',J.yld i H x H'->∃p v0 v1,x=.ref p/\fT K H' p [v0,v1]/\tt (some v0::some v1::br fs Y) H' λb H2=>if b=true then te (some v0::some v1::br fs Y) H2 λy H3=>∃m',m'<m/\W (i+1) m' (ys++[y]) H3 else ∃m',m'<m/\W (i+1) m' ys H2))
def mO(K:W.Frag)(i:Nat)(wi:TI)(fs:VE)(tt:TT)(te:TE):TS:=λD Y H=>ko K wi fs tt te Y H λv H1=>D.nx (Y.set i (some v)) H1
section
variable{X:Cx}
theorem sj{elt iter:γ}{x x2:Str}{px YL YM pos:Pos}{kt:Nat}{ifs:VI γ}{scope:Scope}{fs:VI (Str×Nat)}{tt:TT}{te:TE}
  {Z0:VI (θ×Obj)} {Y:St} {H2:Hp} {s2:η} {it:θ} {fp:VI θ} {tn:Nat->ε->Prop} {J:It} {cl:VI (Str×θ)} {E:ζ->η->Prop}
  {P:ζ->θ->Result->η->Prop}
  (hc:X.calm=true) (XU:scope.kind=.function) (XY:∀y∈scope.names,y.2≠.cell) (hx:scope.names.lookup x=some .local) (hx2:scope.names.lookup x2=some .local)
  (hnd:(x::x2::fs.map (·.1)).Nodup) (Zo:∀f∈fs,X.N[f.2]?=some f.1/\(X.env.kindOf f.1=some .cell\/X.env.kindOf f.1=some .free)/\scope.names.lookup f.1=some .free)
  (hb:∀(cl:VI (Str×θ)) (C:θ) (s₀:η) (H₀:Hp) (ex:VI θ),Jb (cE X scope cl C (x::x2::fs.map (·.1)) s₀ H₀ ex) ifs tt/\PE (cE X scope cl C (x::x2::fs.map (·.1)) s₀ H₀ ex) elt te)
  (qL:∀y∈cl,X.env.cells.lookup y.1=some y.2) (qM:∀y∈scope.names,y.2=.free->∃c,(y.1,c)∈cl)
  (I2:Inv X Z0 Y H2 s2) (T:Turn X.prog X.w X.K (.Tuple [.Name x px,.Name x2 YL] kt YM) J fp it tn) (Yw:tn 0 s2.heap) (f2:∀b∈fp,uN X Z0 H2 b)
  (W:Nat->Nat->VI V->Hp->Prop) (Qe:Hp->VI V->Prop) (w0:∃m,W 0 m [] H2)
  (turn:∀i m ys H,W i m ys H->ys.length<=sizeLine/\
   ((J.stop i H/\Qe H ys)\/
    (J.go i H/\ys.length<sizeLine/\∀x H',J.yld i H x H'->∃p v0 v1,x=.ref p/\fT X.K H' p [v0,v1]/\tt (some v0::some v1::br (fs.map (·.2)) Y) H' λb H2=>if b=true then te (some v0::some v1::br (fs.map (·.2)) Y) H2 λy H3=>∃m',m'<m/\W (i+1) m' (ys++[y]) H3 else ∃m',m'<m/\W (i+1) m' ys H2)))
  (hP:∀(D C:θ) (H':Hp) (s':η) (ys:VI V) (XM:VI ζ) (m:Str->ο ζ),s2.heap.objs.size<=C->s2.heap.get? D=none->s2.heap.get? C=none->D≠C->H' D=none->H' C=none->s'.heap.Ns C m->s'.heap.PlainList D XM.toArray->Vals ys XM->ys.length<=sizeLine->Qe H' ys->
   Un (frs X.stack) fp H2 H' s2.heap s'.heap->mh X.prog X.w H' s'.heap->AllBare s'.gens->s'.os=s2.os->P (.ref D) C (.ok .next) s'):
  wpAny .(1) X.A (newList []) (λacc a9=>wpAny .(1) X.A (newFunctionEnv scope X.env.globals cl [] X.env.qual none .none (some X.env)) (λZp h9=>
   codeAny .(1) X.A (.compStart (.ListComp elt [⟨.Tuple [.Name x px,.Name x2 YL] kt YM,iter,ifs,0⟩] scope pos) 0 (.ref it) acc {Zp with scope:=relabel scope X.env}) (P acc Zp.locals) h9) E a9) E s2:=by
 refine qr (wpAny_newFunctionEnv XY (by intro y hy;simp at hy) (λh₁ CF yy=>?_) XU);dsimp only at CF yy ⊢;generalize hH2:s2.heap.push {cls:=.type "list",dict:=none,data:=.seq ([]:VI ζ).toArray}=HH at CF yy ⊢;have hC:HH.objs.size=s2.heap.objs.size+1:=by rw[<-hH2,oo]
 generalize eD:s2.heap.objs.size=D at *;generalize eC:HH.objs.size=C at *;have Yy:D≠C:=by rw[hC];exact iq (vT _)
 have fresh:∀a,D<=a->s2.heap.get? a=none:=λa ha=>Kk (by rw[eD];exact ha);have hD0:s2.heap.get? D=none:=fresh D (bb _);have hC0:s2.heap.get? C=none:=fresh C (by rw[hC];exact xc _);have old:∀b o,s2.heap.get? b=some o->h₁.get? b=some o:=λb o e=>yy.extBut b o (λz=>by rw[z,hC0] at e;cases e) (ba _ (hH2▸ba _ e));have XW:h₁.PlainList D #[]:=⟨0,yy.extBut _ _ Yy (ba _ (hH2▸(eD▸cx _ rfl)))⟩;have HD:H2 D=none:=I2.hok.fresh (by rw[eD];exact bb _);have HC:H2 C=none:=I2.hok.fresh (by rw[eD,hC];exact xc _)
 -- ZA YF context
 let a7:Cx:=cE X scope cl C (x::x2::fs.map (·.1)) s2 H2 fp
 have lk:∀y c,cl.lookup y=some c->X.env.cells.lookup y=some c:=λy c e=>qL (y,c) (lookup_mem e);have ZM:a7.Ok:=by
  refine⟨I2.ok.mod,XU,I2.ok.glob,I2.ok.blt,?_,λy z c h1 h2=>I2.ok.inj y z c (lk y c h1) (lk z c h2),λy hy=>?_,λ_ _ h _=>absurd h fb,I2.ok.hd,I2.ok.frames,.inl rfl,λb hb=>?_,I2.bs,?_,λb o e hb=>?_,λb hb hz=>?_,I2.stack,I2.tO⟩
  .show s2.heap.objs.size<=C;rw[eD,hC];exact xc _
  .have Z3:(relabel scope X.env).names.lookup y=some .cell\/(relabel scope X.env).names.lookup y=some .free:=hy;have hm:(y,NameKind.free)∈scope.names:=by
    rcases Z3 with e|e
    .rcases jh (lookup_mem e) with q|⟨_,q⟩
     .exact absurd rfl (XY _ q)
     .exact q
    .rcases jh (lookup_mem e) with q|⟨q,_⟩
     .exact q
     .cases q
   obtain⟨c,q⟩:=qM _ hm rfl;exact mem_lookup q
  .obtain⟨f0,f1,f3,f4,f5,f6⟩:=f2 b hb;refine⟨λz=>?_,λy c e=>f5 y c (lk y c e)⟩;obtain⟨o,ho,_⟩:=T.obj _ _ Yw b hb;have z':b=C:=z;rw[z',hC0] at ho;cases ho
  .exact eJ I2.ok.bsz I2.sz
  .obtain⟨f0,f1,f3,f4,f5,f6⟩:=f2 b hb
   rcases f4 with z|z
   .exact I2.ok.noex b o e z
   .exact absurd (ip (dq e) (eJ I2.ok.bsz z)) (oC _)
  .obtain⟨f0,f1,f3,f4,f5,f6⟩:=f2 b hb
   rcases gL.mp (I2.lB b hz) with z|z
   .exact f1 z
   .exact f3 z
 let τ:St:=none::none::br (fs.map (·.2)) Y
 have hτ:τ.length=(x::x2::fs.map (·.1)).length:=by simp[τ,br]
 obtain⟨mL,hnL,hlL⟩:=id I2.loc;have yI:Inv a7 [] τ H2 {s2 with heap:=h₁,toks:=s2.toks+([]:VI (Str×ζ)).length}:=by
  refine⟨ZM,rfl,I2.bare,Un.kept old,⟨_,CF,λi y v e1 e2 e3=>?_⟩,λy c e=>?_,HC,λy c e=>I2.freeC y c (lk y c e),(λp hp=>nomatch hp),I2.hok.kept old,hτ⟩
  .cases i with
   |zero=>simp[τ] at e2
   |succ i0=>
    cases i0 with
    |zero=>simp[τ] at e2
    |succ i=>
    have Zq:(fs.map (·.1))[i]?=some y:=e1;have e2':(br (fs.map (·.2)) Y)[i]?=some (some v):=by simpa [τ] using e2
    rw[cn] at Zq;cases q:fs[i]? with
    |none=>rw[q] at Zq;cases Zq
    |some f=>
     rw[q] at Zq;have ey:f.1=y:=eI Zq;obtain⟨g1,g2,g3⟩:=Zo f (dy q);have qN:(Y[f.2]?).join=some v:=by
      unfold br at e2';rw[cn,cn,q] at e2';exact eI e2'
     have e2c:Y[f.2]?=some (some v):=by
      cases r:Y[f.2]? with
      |none=>rw[r] at qN;cases qN
      |some o=>rw[r] at qN;have qN:o=some v:=qN;rw[qN]
     have vis:Ub X.env.scope f.1:=by
      rcases g2 with g|g
      .exact .inr (.inl g)
      .exact .inr (.inr g)
     obtain⟨u,ru,lu⟩:=hlL f.2 f.1 v g1 e2c vis;refine⟨u,ru,?_⟩;have lu':∃c,X.env.cells.lookup f.1=some c/\s2.heap.IsCell c (some u):=by
      rcases lu with⟨k,_⟩|⟨_,c,e,z⟩
      .rcases g2 with g|g
       .rw[k] at g;cases g
       .rw[k] at g;cases g
      .exact⟨c,e,z⟩
     obtain⟨c,XX,Yi⟩:=lu';obtain⟨c',hm⟩:=qM _ (lookup_mem g3) rfl;have hm':=qL _ hm;obtain⟨c2,Y1⟩:=mem_lookup hm;have:=lk _ _ Y1;rw[XX] at this;cases this;obtain⟨oc,ho,ZD⟩:=Yi;refine .inr ⟨?_,c,by rw[<-ey];exact Y1,oc,old c oc ho,ZD⟩;rw[<-ey];exact fQ g3
  .obtain⟨v,oc,ho,ZD⟩:=I2.cell y c (lk y c e);exact⟨v,oc,old c oc ho,ZD⟩
 have Zr:a7.env.scope.names.lookup x=some .local:=V9 hx;have RD:a7.env.scope.names.lookup x2=some .local:=V9 hx2;have fpD:∀b∈fp,b≠D:=λb hb z=>by
  obtain⟨o,ho,_⟩:=T.obj _ _ Yw b hb;rw[z,hD0] at ho;cases ho
 have stD:D∉frs X.stack:=λhz=>by
  rcases gL.mp (I2.lB D hz) with z|z
  .have:=I2.lt;rw[eD,<-z] at this;exact absurd this (oC _)
  .exact I2.OO (by rw[eD];exact bb _) z
 have Jc:∀y c,cl.lookup y=some c->c≠D:=λy c e z=>by
  obtain⟨v,oc,ho,_⟩:=I2.cell y c (lk y c e);rw[z,hD0] at ho;cases ho
 have uP:∀{H':Hp} {oD:Obj},(∀b∈fp,H' b=none)->∀b∈fp,uN a7 [(D,oD)] H' b:=λhn b hb=>by
  refine⟨hn b hb,(ZM.exf b hb).1,ZM.exfs b hb,.inl hb,(ZM.exf b hb).2,λp hp z=>?_⟩;have hp':p∈[(D,_)]:=hp;rw[bc.mp hp'] at z;exact fpD b hb z.symm
 obtain⟨m0,w0⟩:=w0;have loop:∀a9:η,a9={s2 with heap:=h₁,toks:=s2.toks+([]:VI (Str×ζ)).length}->
   codeAny .(1) X.A (.compLoop (.ListComp elt [⟨.Tuple [.Name x px,.Name x2 YL] kt YM,iter,ifs,0⟩] scope pos) 0 (.ref it) (.ref D) (compEnvC scope cl C X.env)) (P (.ref D) C) a9:=by
  rintro a9 rfl;refine pF (λn s'=>∃i ys XM H',Inv a7 [] τ H' s'/\tn i s'.heap/\(∀b∈fp,H' b=none)/\H' D=none/\s'.heap.PlainList D (List.toArray XM)/\Vals ys XM/\W i n ys H') ?_ m0
   ⟨0,[],[],H2,yI,T.keep _ _ _ Yw (λb _ o e=>old b o e),λb hb=>(f2 b hb).1,HD,XW,.nil,w0⟩
  rintro n s3 ⟨i,ys,XM,H3,I3,Z1,Z2,hD3,⟨n0,hoD⟩,ZN,w3⟩;obtain⟨hz,ht⟩:=turn i n ys H3 w3;have I3':Inv a7 [(D,{cls:=.type "list",data:=.seq XM.toArray n0})] τ H3 s3:=I3.mj λp hp=>by
   rw[bc.mp hp];exact⟨hoD,hD3,Yy,stD,λv z=>by cases z⟩
  rcases ht with⟨stop,q⟩|⟨go,hz',step⟩
  .refine cT (T.done a7 rfl rfl rfl hc i _ s3 τ H3 _ I3' (uP Z2) Z1 stop) λr s4 ⟨hr,I4⟩=>?_;subst hr;obtain⟨m,hn,_⟩:=I4.loc;exact hP D C H3 s4 ys XM m (by rw[hC];exact xc _) hD0 hC0 Yy hD3 I4.free hn ⟨n0,(I4.pin (D,_) (dC _ bp)).1⟩ ZN hz q I4.base I4.hok I4.bare I4.os
  .refine cT (T.item a7 rfl rfl rfl hc i _ s3 τ H3 _ I3' (uP Z2) Z1 go) λr s4 ⟨u,hr,h4⟩=>?_;subst hr;refine cT h4 λ_ s5 ⟨x',H5,I5,r5,y5,YZ,fr5⟩=>?_;have I5':=I5.pinned (fp:=fp) (uP fr5) (T.obj _ _ YZ);obtain⟨pt,v0,v1,ex',hqt,step'⟩:=step x' H5 y5;refine cT (II (X:=a7) (pos:=YM) (k:=kt) (n:=2) hc (uL (tQ (X:=a7) (i:=0) (pos:=px) hnd rfl (.inl Zr) (.inr Zr)) (uL (tQ (X:=a7) (i:=1) (pos:=YL) hnd rfl (.inl RD) (.inr RD)) Ei)) rfl rfl _ s5 τ H5 x' u (λσ' H'=>σ'=some v0::some v1::br (fs.map (·.2)) Y/\H'=H5) I5' r5 ⟨pt,[v0,v1],ex',hqt,rfl,v0,[v1],rfl,v1,[],rfl,rfl,rfl,rfl⟩) λ_ s6 ⟨σ6,H6,I6,e6,e6'⟩=>?_;subst e6 e6';have back:∀{σ':St} {H':Hp} {s':η},Inv a7 ([(D,{cls:=.type "list",data:=.seq XM.toArray n0})]++qG fp s5.heap) (some v0::some v1::br (fs.map (·.2)) Y) H' s'->
     Inv a7 [] τ H' s'/\tn (i+1) s'.heap/\(∀b∈fp,H' b=none)/\H' D=none/\s'.heap.PlainList D XM.toArray:=λ{σ' H' s'} J'=>by
    refine⟨(J'.mj (pins':=[]) (λp hp=>absurd hp .(4))).weak rfl λj v e=>?_,T.keep _ _ _ YZ λb hb o e=>(J'.pin (b,o) (dC _ (dC _ (gH hb e)))).1,λb hb=>?_,?_,n0,?_⟩
    .cases j with
     |zero=>cases e
     |succ j0=>
      cases j0 with
      |zero=>cases e
      |succ j=>exact e
    .obtain⟨o,e,d⟩:=T.obj _ _ YZ b hb;exact(J'.pin (b,o) (dC _ (dC _ (gH hb e)))).2.1
    .exact(J'.pin (D,_) (dC _ (hU _ bp))).2.1
    .exact(J'.pin (D,_) (dC _ (hU _ bp))).1
   refine cT ((hb cl C s2 H2 fp).1 _ s6 _ _ _ I6 step') λok s7 ⟨H7,I7,q7⟩=>?_;cases ok with
   |false=>
    obtain⟨m',hm,w7⟩:=q7;obtain⟨a1,a2,a3,a4,a5⟩:=back (σ':=τ) I7;exact⟨m',hm,i+1,ys,XM,H7,a1,a2,a3,a4,a5,ZN,w7⟩
   |true=>
    refine cT ((hb cl C s2 H2 fp).2 _ s7 _ _ _ I7 q7) λy s8 ⟨yv,H8,I8,ry,m',hm,w8⟩=>?_;obtain⟨a1,a2,a3,a4,a5⟩:=back (σ':=τ) I8;have hlen:=ZN.length;refine wpAny_list_append_plain (hsz:=by rw[ix,<-hlen];exact hz) a5 λh' Za Yd=>?_;refine⟨m',hm,i+1,ys++[yv],XM++[y],H8,a1.turned (t':=s8.toks) (it:=D) (λb o hb e=>Yd.extBut b o hb e) a4 Yy (.inr (by show s2.heap.objs.size<=D;rw[eD];exact bb _)) (λy c e=>Jc y c e) (λp hp=>absurd (show p∈([]:VI (θ×Obj)) from hp) .(4)),T.keep _ _ _ a2 λb hb o e=>Yd.extBut b o (fpD b hb) e,a3,a4,by simpa using Za,ZN.append (.cons ry .nil),w8⟩
 exact codeAny_compStart_list (loop _ rfl) (T.self X.A 0 _ _ _ (T.keep _ _ _ Yw (λb _ o e=>old b o e)) (loop _ rfl))
theorem Ju{elt iter:γ}{x x2:Str}{px YL YM pos:Pos}{kt:Nat}{ifs:VI γ}{scope:Scope}(fs:VI (Str×Nat)){wi:TI}{tt:TT}{te:TE}
  (hc:X.calm=true) (XU:scope.kind=.function) (XY:∀y∈scope.names,y.2≠.cell) (Yb:∀y∈scope.names,y.2=.local->scope.names.lookup y.1=some .local)
  (X9:∀y∈scope.names,y.2=.free->X.env.kindOf y.1=some .cell\/X.env.kindOf y.1=some .free) (hx:scope.names.lookup x=some .local) (hx2:scope.names.lookup x2=some .local)
  (hnd:(x::x2::fs.map (·.1)).Nodup) (Zo:∀f∈fs,X.N[f.2]?=some f.1/\(X.env.kindOf f.1=some .cell\/X.env.kindOf f.1=some .free)/\scope.names.lookup f.1=some .free)
  (hi:PI X (.Tuple [.Name x px,.Name x2 YL] kt YM) iter wi)
  (hb:∀(cl:VI (Str×θ)) (C:θ) (s₀:η) (H₀:Hp) (ex:VI θ),Jb (cE X scope cl C (x::x2::fs.map (·.1)) s₀ H₀ ex) ifs tt/\PE (cE X scope cl C (x::x2::fs.map (·.1)) s₀ H₀ ex) elt te)
  (hs:∀x,foldedSetIterable iter X.env x=pure x:=by intro _;rfl):
  PE X (.ListComp elt [⟨.Tuple [.Name x px,.Name x2 YL] kt YM,iter,ifs,0⟩] scope pos) (ko X.K wi (fs.map (·.2)) tt te):=by
 intro Z0 s Y H Q I h;obtain⟨cl,Yp,qL,qM⟩:=gS (env:=X.env) (scope:=scope) λy hy hk=>I.ok.has y.1 (X9 y hy hk);rw[eval_ListComp];refine Ap (use:=none) rfl hs Yp XU Yb (cT (hi Z0 s Y H _ I h) λv s1 h1=>cT h1 λitv s2 h2=>?_);obtain⟨it,fp,tn,J,H2,e,I2,T,Yw,f2,W,w0,turn⟩:=h2;subst e;refine sj (Z0:=Z0) hc XU XY hx hx2 hnd Zo hb qL qM I2 T Yw f2 W (λH ys=>∀p,H p=none->Q (.ref p) (upd H p (.lst ys))) w0 turn ?_;intro D C H' s' ys XM m hCs hD hC Yy HD HC hn pl rv hz q u hok hg ho;exact⟨m,hn,λh' Yd=>⟨.ref D,_,j9 (tk:=s'.toks) I2 f2 hD hC Yy HD HC pl rv hz u hok hg ho Yd,rfl,q D HD⟩⟩
theorem Jv{i:Nat}{y:Str}{py Ye:Pos}{elt iter:γ}{x x2:Str}{px YL YM pos:Pos}{kt:Nat}{ifs:VI γ}{scope:Scope}(fs:VI (Str×Nat)){wi:TI}{tt:TT}{te:TE}
  (hN:X.N.Nodup) (hy:X.N[i]?=some y) (Zh:X.env.scope.names.lookup y=some .local)
  (hc:X.calm=true) (XU:scope.kind=.function) (XY:∀y∈scope.names,y.2≠.cell) (Yb:∀y∈scope.names,y.2=.local->scope.names.lookup y.1=some .local)
  (X9:∀y∈scope.names,y.2=.free->X.env.kindOf y.1=some .cell\/X.env.kindOf y.1=some .free) (hx:scope.names.lookup x=some .local) (hx2:scope.names.lookup x2=some .local)
  (hnd:(x::x2::fs.map (·.1)).Nodup) (Zo:∀f∈fs,X.N[f.2]?=some f.1/\(X.env.kindOf f.1=some .cell\/X.env.kindOf f.1=some .free)/\scope.names.lookup f.1=some .free)
  (hi:PI X (.Tuple [.Name x px,.Name x2 YL] kt YM) iter wi)
  (hb:∀(cl:VI (Str×θ)) (C:θ) (s₀:η) (H₀:Hp) (ex:VI θ),Jb (cE X scope cl C (x::x2::fs.map (·.1)) s₀ H₀ ex) ifs tt/\PE (cE X scope cl C (x::x2::fs.map (·.1)) s₀ H₀ ex) elt te)
  (ZO:swapsWith (.ListComp elt [⟨.Tuple [.Name x px,.Name x2 YL] kt YM,iter,ifs,0⟩] scope pos) (some (.Name y py)) Ye.line X.env=pure true)
  (hs:∀x,foldedSetIterable iter X.env x=pure x:=by intro _;rfl):
  PS X (.Assign [.Name y py] (.ListComp elt [⟨.Tuple [.Name x px,.Name x2 YL] kt YM,iter,ifs,0⟩] scope pos) Ye) (mO X.K i wi (fs.map (·.2)) tt te):=by
 intro Z0 s Y H D' I h;obtain⟨cl,Yp,qL,qM⟩:=gS (env:=X.env) (scope:=scope) λy hy hk=>I.ok.has y.1 (X9 y hy hk);rw[exec_Assign_Name_used _ _ _ _ ZO];refine ae (V6 (ae ?_));show wpAny _ X.A (do let _ <-comprehension (.ListComp elt [⟨.Tuple [.Name x px,.Name x2 YL] kt YM,iter,ifs,0⟩] scope pos) scope X.env _ (newList []) false (eval iter X.env) (some (assign (.Name y py) X.env))) _ _ s
 refine ae (pE (Ap (use:=some (assign (.Name y py) X.env)) (Q:=λ_ s'=>SP X Z0 D' .next s') rfl hs Yp XU Yb
  (cT (hi Z0 s Y H _ I h) λv s1 h1=>cT h1 λitv s2 h2=>?_)) (λ_ s' hq=>bj (bj hq)) λ_ _ e=>e)
 obtain⟨it,fp,tn,J,H2,e,I2,T,Yw,f2,W,w0,turn⟩:=h2;subst e;refine sj (Z0:=Z0) hc XU XY hx hx2 hnd Zo hb qL qM I2 T Yw f2 W (λH ys=>∀p,H p=none->D'.nx (Y.set i (some (.ref p))) (upd H p (.lst ys))) w0 turn ?_;intro D C H' s' ys XM m hCs hD hC Yy HD HC hn pl rv hz q u hok hg ho;show wpAny _ X.A (assign (.Name y py) X.env (.ref D)) _ _ _
 -- store,with ZA YF frame still there
 have J:=j9 (tk:=s'.toks) I2 f2 hD hC Yy HD HC pl rv hz u hok hg ho (WA C s'.heap);refine Wy (qF J hN hy (.inl Zh) (v:=.ref D) (u:=.ref D) rfl (λs3 J3 ⟨a,sb,ha⟩=>?_) (.inr Zh));have exL:∃o,s2.heap.get? X.env.locals=some o:=let ⟨_,⟨o,_,_,e,_⟩,_⟩:=I2.loc;⟨o,e⟩;have AQ:∀z c,X.env.cells.lookup z=some c->c≠C:=λz c e q=>by
  obtain⟨v,oc,ho,_⟩:=I2.cell z c e;rw[q,hC] at ho;cases ho
 have aC:a≠C:=by
  rcases ha with z|z
  .obtain⟨o,e⟩:=exL;intro q;rw[<-z,q,hC] at e;cases e
  .exact AQ y a z
 have LC:C≠X.env.locals:=λq=>by
  obtain⟨o,e⟩:=exL;rw[<-q,hC] at e;cases e
 refine⟨m,hn.sameBut sb (du aC),λh' Yd=>?_⟩;exact⟨_,_,J3.turned (t':=s3.toks) (it:=C) (λb o hb e=>Yd.extBut b o hb e) (by rw[aH (du Yy)];exact HC) LC (.inr (eJ I2.sz hCs)) AQ (λp hp z=>by
  have:=(I2.pin p hp).1;rw[z,hC] at this;cases this),q D HD⟩
end
section
variable{X:Cx}{iter:γ}{x x2:Str}{px YL YM pos:Pos}{kt:Nat}
def mP(names:VI (Str×NameKind))(outer:VI (Str×NameKind))(N:VI Str)(x x2:Str)(fs:VI (Str×Nat)):Bool:=
 iR names outer N x fs&&(names.lookup x2==some .local)&&decide ((x::x2::fs.map (·.1)).Nodup)
theorem vf{elt:γ}{ifs:VI γ}{scope:Scope}(fs:VI (Str×Nat)){wi:TI}{tt:TT}{te:TE}
  (hi:QI X (.Tuple [.Name x px,.Name x2 YL] kt YM) iter wi)
  (hb:∀(cl:VI (Str×θ)) (C:θ) (s₀:η) (H₀:Hp) (ex:VI θ),Q8 (cE X scope cl C (x::x2::fs.map (·.1)) s₀ H₀ ex) ifs tt/\QE (cE X scope cl C (x::x2::fs.map (·.1)) s₀ H₀ ex) elt te)
  (hc:X.calm=true:=by rfl') (hk:scope.kind=.function:=by rfl') (hl:mP scope.names X.env.scope.names X.N x x2 fs=true:=by rfl')
  (hs:∀x,foldedSetIterable iter X.env x=pure x:=by intro _;rfl'):
  QE X (.ListComp elt [⟨.Tuple [.Name x px,.Name x2 YL] kt YM,iter,ifs,0⟩] scope pos) (ko X.K wi (fs.map (·.2)) tt te):=by
 unfold mP at hl;simp only[and_eq_true,beq_iff_eq,decide_eq_true_eq] at hl;have O:=mJ (X:=X) hk hl.1.1;exact⟨Ju fs hc O.kind O.cell O.names O.free O.hx hl.1.2 hl.2 O.fs hi.p (λcl C s₀ H₀ ex=>⟨(hb cl C s₀ H₀ ex).1.p,(hb cl C s₀ H₀ ex).2.p⟩) hs⟩
theorem AZ{i:Nat}{y:Str}{py Ye:Pos}{elt:γ}{ifs:VI γ}{scope:Scope}(fs:VI (Str×Nat)){wi:TI}{tt:TT}{te:TE}
  (hN:X.N.Nodup) (hi:QI X (.Tuple [.Name x px,.Name x2 YL] kt YM) iter wi)
  (hb:∀(cl:VI (Str×θ)) (C:θ) (s₀:η) (H₀:Hp) (ex:VI θ),Q8 (cE X scope cl C (x::x2::fs.map (·.1)) s₀ H₀ ex) ifs tt/\QE (cE X scope cl C (x::x2::fs.map (·.1)) s₀ H₀ ex) elt te)
  (hy:X.N[i]?=some y:=by rfl') (Zh:X.env.scope.names.lookup y=some .local:=by rfl') (hc:X.calm=true:=by rfl')
  (hk:scope.kind=.function:=by rfl') (hl:mP scope.names X.env.scope.names X.N x x2 fs=true:=by rfl')
  (ZO:swapsWith (.ListComp elt [⟨.Tuple [.Name x px,.Name x2 YL] kt YM,iter,ifs,0⟩] scope pos) (some (.Name y py)) Ye.line X.env=pure true:=by rfl')
  (hs:∀x,foldedSetIterable iter X.env x=pure x:=by intro _;rfl'):
  QS X (.Assign [.Name y py] (.ListComp elt [⟨.Tuple [.Name x px,.Name x2 YL] kt YM,iter,ifs,0⟩] scope pos) Ye) (mO X.K i wi (fs.map (·.2)) tt te):=by
 unfold mP at hl;simp only[and_eq_true,beq_iff_eq,decide_eq_true_eq] at hl;have O:=mJ (X:=X) hk hl.1.1;exact⟨Jv fs hN hy Zh hc O.kind O.cell O.names O.free O.hx hl.1.2 hl.2 O.fs hi.p (λcl C s₀ H₀ ex=>⟨(hb cl C s₀ H₀ ex).1.p,(hb cl C s₀ H₀ ex).2.p⟩) ZO hs⟩
end
theorem tU{K:W.Frag}{tl:TE}{a:θ}{xs:VI V}{Y:St}{fs:VE}{tt:TT}{te:TE}{H:Hp}{Q:VK}(ha:∀Q:VK,Q (.ref a) H->tl Y H Q)(hq:bw K H a xs)(Pv:Nat->VI V->Hp->Prop)(h0:Pv 0 [] H)(hl:∀i ys H,i<=xs.length->Pv i ys H->bw K H a xs/\ys.length<=i)(hn:xs.length<=sizeLine)
  (hs:∀i x ys H,xs[i]?=some x->Pv i ys H->∃p v0 v1,x=.ref p/\fT K H p [v0,v1]/\∀R:VI V->Hp->Prop,(∀X4 H',Pv (i+1) X4 H'->R X4 H')->tt (some v0::some v1::br fs Y) H λb H2=>if b=true then te (some v0::some v1::br fs Y) H2 λy H3=>R (ys++[y]) H3 else R ys H2)
  (hd:∀ys H,Pv xs.length ys H->∀p,H p=none->Q (.ref p) (upd H p (.lst ys))):ko K (cD K tl) fs tt te Y H Q:=by
 refine ha _ ⟨a,rfl,⟨xs,hq⟩,?_⟩;refine⟨λi m ys H=>m=xs.length-i/\i<=xs.length/\Pv i ys H,⟨xs.length,by simp,mi _,h0⟩,?_⟩;rintro i m ys H ⟨rfl,hi,p⟩;obtain⟨hq,hle⟩:=hl i ys H hi p;refine⟨by lia,?_⟩
 by_cases XZ:i<xs.length
 .refine .inr ⟨⟨xs,xs[i],hq,by simp[XZ]⟩,by lia,λx H' y=>?_⟩
  obtain⟨e,y⟩:=y;subst e;obtain⟨pt,v0,v1,e,hqt,h⟩:=hs i x ys _ (y xs hq) p;exact⟨pt,v0,v1,e,hqt,h (λX4 H'=>∃m',m'<xs.length-i/\m'=xs.length-(i+1)/\i+1<=xs.length/\Pv (i+1) X4 H') λX4 H' q=>⟨xs.length-(i+1),by lia,rfl,XZ,q⟩⟩
 .have e:i=xs.length:=by lia
  subst e;exact .inl ⟨⟨xs,hq,bb _⟩,hd ys H p⟩
end L2
namespace MaxD
open PySem PyProof.Rows
section
variable{P:ι}{wd:ν}{Ar:ξ}{Er:ζ->η->Prop}{s:η}
theorem pM(f:Nat->Int):∀k,argBest (λi j=>decide (f i>f j)) k<=k/\∀j,j<=k->f j<=f (argBest (λi j=>decide (f i>f j)) k)
 | 0=>by
  refine⟨bb _,λj hj=>?_⟩;have e:j=0:=by lia
  rw[e];exact Int.le_refl _
 |k+1=>by
  obtain⟨a,b⟩:=pM f k;unfold argBest
  by_cases h:f (k+1)>f (argBest (λi j=>decide (f i>f j)) k)
  .rw[df (dr h)];refine⟨bb _,λj hj=>?_⟩
   by_cases e:j=k+1
   .subst e;exact Int.le_refl _
   .have:=b j ⋯;lia
  .rw[cq (by simpa using h)];refine⟨by lia,λj hj=>?_⟩
   by_cases e:j=k+1
   .subst e;lia
   .exact b j ⋯
end
end MaxD
namespace L2
open PySem PySem.Spec PyProof.Rows
theorem EI:∀{ns:VI Int} {us:VI ζ},Vals (ns.map V.int) us->∃xs:VI (Int×Tok),us=xs.map (λp=>Value.int p.1 p.2)/\xs.map (·.1)=ns
 |[],_,.nil=>⟨[],rfl,rfl⟩
 |n::ns,_,.cons ⟨t,e⟩ r=>by
  obtain⟨xs,e1,e2⟩:=EI r;subst e;exact⟨(n,t)::xs,by rw[e1];rfl,by rw[lj,e2]⟩
section
variable{X:Cx}{e o value d:γ}{es:VI γ}{f x m:Str}{pos pos' p apos kp:Pos}{ta tv td:TE}{t:TA}
theorem bx{n:Int}(hm:∃t,X.mg x=some (.int n t))(hg:X.env.kindOf x=some .globalImplicit:=by rfl')(hd:(x==("__debug__":Str))=false:=by rfl'):QE X (.Name x pos) (tC (.int n)):=by
 obtain⟨t,hm⟩:=hm;exact⟨Eh (v:=.int n) hg hm ⟨t,rfl⟩ hd⟩
theorem dF(he:QE X e ta)(hb:attributeBase e f X.env (eval e X.env)=eval e X.env:=by rfl'):QE X (.Attribute e f pos) (fP X.K ta f):=⟨O9 he.p hb⟩
theorem iZ(ha:QE X o ta)(hv:QE X value tv)(hs:swapsWith value (some (.Attribute o f pos')) pos.line X.env=pure false:=by rfl'):QS X (.Assign [.Attribute o f pos'] value pos) (jx X.K ta tv f):=⟨Pa ha.p hv.p hs⟩
variable{CX:AA}{k:Nat}{g C:θ}{fd:FuncData}{ps:VI Str}{sp:Sp}{E:XK}
theorem jm{pl:Sem Bool}(he:QE X o ta)(c:GK X.K C)(hm:Meth X.K C m g)(F:jy X.prog X.w X.K X.mg X.base CX k g fd ps sp)(hr:cG k X.A)(hb:Binds X.K fd ps [])(hx:Passes CX X E)(ha:QA X (e::es) t)
  (Ya:starEach (e::es) X.env=(false,eval e X.env)::starEach es X.env:=by rfl') (X1:(backTo pos (starEach es X.env)).any (·.1)=false:=by rfl')
  (ht:eval (.Call (.Attribute o m apos) (e::es) [] pos) X.env=(do
   let ov <-eval o X.env
   standAt apos.atName
   let (f,first) <-holding [ov] (getMethod ov m pl)
   callWith pos f first (backTo pos (starEach (e::es) X.env)) (backToKw pos (keywordEach [] X.env))):=by rfl):
  QE X (.Call (.Attribute o m apos) (e::es) [] pos) (bU C m sp [] E ta t):=⟨MB he.p c hm F hr hb .nil hx ha.p Ya X1 ht⟩
theorem bC{pl:Sem Bool}(he:QE X o ta)(c:GK X.K C)(hm:Meth X.K C m g)(F:jy X.prog X.w X.K X.mg X.base CX k g fd ps sp)(hr:cG k X.A)(hb:Binds X.K fd ps [])(hx:Passes CX X E)
  (ht:eval (.Call (.Attribute o m apos) [] [] pos) X.env=(do
   let ov <-eval o X.env
   standAt apos.atName
   let (f,first) <-holding [ov] (getMethod ov m pl)
   callWith pos f first (backTo pos (starEach [] X.env)) (backToKw pos (keywordEach [] X.env))):=by rfl):
  QE X (.Call (.Attribute o m apos) [] [] pos) (bU C m sp [] E ta aD):=⟨IU he.p c hm F hr hb .nil hx ht⟩
theorem MZ(M:Mk X.K C g)(F:jy X.prog X.w X.K X.mg X.base CX k g fd ps sp)(hr:cG (k+1) X.A)(hm:X.mg x=some (.ref C))(hb:Binds X.K fd ps [])(hx:Passes CX X E)(ha:QA X (e::es) t)
  (hg:X.env.kindOf x=some .globalImplicit:=by rfl') (Ym:(x==("__debug__":Str))=false:=by rfl') (he:starEach (e::es) X.env=(false,eval e X.env)::starEach es X.env:=by rfl') (X1:(backTo pos (starEach es X.env)).any (·.1)=false:=by rfl'):
  QE X (.Call (.Name x p) (e::es) [] pos) (Ep C sp [] E t):=⟨MC M F hr hg hm hb .nil hx ha.p Ym he X1⟩
end
abbrev Oh(K:W.Frag):VI V->Hp->VK->Prop:=λvs H Q=>∃p,∃ns:VI Int,vs=[.ref p]/\bw K H p (ns.map V.int)/\ns≠[]/\(∀m,m∈ns->(∀y∈ns,y<=m)->Q (.int m) H)
section
variable{X:Cx}
theorem G0(hc:X.calm=true):fj X (.builtin "max") (Oh X.K):=by
 intro Z0 s Y H xs us Q I r h;obtain⟨p,ns,rfl,hq,hn,q⟩:=h;obtain⟨u,rfl,ru⟩:=vals1 r;cases ru;obtain⟨XM,rv,pl,hz⟩:=I.list hq;obtain⟨ys,ex1,ex2⟩:=EI rv;have hl:s.heap.IsList p (intItems ys.toArray):=by
  have:=pl.isList;rw[ex1] at this;simpa [intItems] using this
 have lx:ys.length=ns.length:=by rw[<-ex2,aw]
 have h0:0<ys.toArray.size:=by rw[ix,lx];exact Fh.mpr hn
 refine max_intList (I.ok.hd hc) hl h0 λv h' tk fv kp=>?_;have I3:Inv X Z0 Y H {s with heap:=h',toks:=tk}:=I.kept kp
 obtain⟨b1,b2⟩:=MaxD.pM (numAt ys.toArray) (ys.toArray.size-1);generalize argBest _ (ys.toArray.size-1)=k at fv b1 b2;obtain⟨t,rfl⟩:=intItems_at fv;have at_:∀i,i<ns.length->ns[i]?=some (numAt ys.toArray i):=λi hi=>by
  rw[<-ex2,cn];have hx:ys[i]?=some ys[i]:=dk ⋯;unfold numAt;rw[Pm,hx];rfl
 rw[ix,lx] at h0 b1 b2;refine⟨.int _,H,I3,⟨t,rfl⟩,q _ (dy (at_ k ⋯)) λy hy=>?_⟩;obtain⟨i,hi,e⟩:=Qr hy;have:=at_ i hi;rw[dk hi,e] at this;rw[eI this];exact b2 i ⋯
end
end L2
namespace MM
def val(K:Nat):VE->Nat->Nat
 |_,0=>0
 |[],_+1=>0
 |c::m,n+1=>(c-97)*K^n+val K m n
def Ls(K:Nat)(m:VE):Prop:=∀c∈m,97<=c/\c<97+K
def Na(m:VE):Prop:=∀c,m.getLast?=some c->c≠97
structure Mark(K:Nat)(m:VE):Prop where
 ls:Ls K m
 na:Na m
 ne:m≠[]
theorem Ls.tail{K c:Nat}{m:VE}(h:Ls K (c::m)):Ls K m:=λx hx=>h x (dA _ hx)
theorem Ls.head{K c:Nat}{m:VE}(h:Ls K (c::m)):97<=c/\c<97+K:=h c bp
theorem Ls.nil(K:Nat):Ls K []:=λ_ h=>nomatch h
theorem Ls.app{K:Nat}{a b:VE}(h:Ls K a)(h':Ls K b):Ls K (a++b):=λc hc=>(eP.mp hc).elim (h c) (h' c)
theorem Ls.mono{K L:Nat}{m:VE}(h:Ls K m)(hl:K<=L):Ls L m:=λc hc=>⟨(h c hc).1,by have:=(h c hc).2;lia⟩
theorem Ls.sub{K:Nat}{a b:VE}(h:Ls K b)(s:∀c∈a,c∈b):Ls K a:=λc hc=>h c (s c hc)
theorem Na.nil:Na []:=λc h=>by simp at h
theorem Na.tail{c:Nat}{m:VE}(h:Na (c::m)):Na m:=λx hx=>by
 cases m with
 |nil=>simp at hx
 |cons d r=>exact h x (by rw[List.getLast?_cons_cons];exact hx)
theorem Na.app{a b:VE}(h:Na b)(hb:b≠[]):Na (a++b):=λc hc=>by
 rw[List.getLast?_append] at hc;cases e:b.getLast? with
 |none=>exact absurd (List.getLast?_eq_none_iff.mp e) hb
 |some d=>rw[e] at hc;exact h c (by rw[e];exact hc)
theorem val_zero(K:Nat)(m:VE):val K m 0=0:=by cases m<;>rfl
theorem fJ(K n:Nat):val K [] n=0:=by cases n<;>rfl
theorem cA(K c n:Nat)(m:VE):val K (c::m) (n+1)=(c-97)*K^n+val K m n:=rfl
theorem iy{K:Nat}(hK:0<K):∀{m:VE} (n:Nat),Ls K m->val K m n<K^n
 |m,0,_=>by rw[val_zero];exact Nat.one_pos
 |[],n+1,_=>by rw[fJ];exact pow_pos hK
 |c::m,n+1,h=>by
  have ih:=iy hK n h.tail;have hc:=h.head;rw[cA,Wc];have h1:(c-97)*K^n+K^n<=K^n*K:=by
   have:(c-97+1)*K^n<=K*K^n:=vw _ ⋯;rw[V7,one_mul,FX K] at this;exact this
  lia
theorem tV{K:Nat}(hK:0<K):∀{m:VE} (n:Nat),Ls K m->Na m->m≠[]->m.length<=n->0<val K m n
 |[],_,_,_,h,_=>absurd rfl h
 |c::m,0,_,_,_,h=>by simp at h
 |[c],n+1,h,hn,_,_=>by
  have h1:=h.head;have h2:=hn c .(4);rw[cA,fJ];have:0<(c-97)*K^n:=Nat.mul_pos ⋯ (pow_pos hK);lia
 |c::d::m,n+1,h,hn,_,hl=>by
  have:=tV hK n h.tail hn.tail (WB _ _) (by simpa using hl);rw[cA];lia
theorem pN{a b x y P:Nat}(hx:x<P)(hy:y<P):a*P+x<b*P+y↔a<b\/a=b/\x<y:=by
 constructor
 .intro h
  rcases HI a b with g|g|g
  .exact .inl g
  .subst g;exact .inr ⟨rfl,by lia⟩
  .have:(b+1)*P<=a*P:=vw _ g;rw[V7] at this;lia
 .rintro(g|⟨rfl,g⟩)
  .have:(a+1)*P<=b*P:=vw _ g;rw[V7] at this;lia
  .omega
theorem Jw{a b x y P:Nat}(hx:x<P)(hy:y<P):a*P+x=b*P+y↔a=b/\x=y:=by
 constructor
 .intro h
  rcases HI a b with g|g|g
  .have:(a+1)*P<=b*P:=vw _ g;rw[V7] at this;lia
  .subst g;exact⟨rfl,by lia⟩
  .have:(b+1)*P<=a*P:=vw _ g;rw[V7] at this;lia
 .rintro⟨rfl,rfl⟩;rfl
theorem sq{c d:Nat}(hc:97<=c)(hd:97<=d):(c-97<d-97↔c<d)/\(c-97=d-97↔c=d):=⟨by lia,by lia⟩
theorem CJ{K:Nat}(hK:0<K):∀{a b:VE} (n:Nat),Ls K a->Ls K b->Na a->Na b->a.length<=n->b.length<=n->(a<b↔val K a n<val K b n)
 |[],[],n,_,_,_,_,_,_=>by rw[fJ];simp
 |[],c::b,n,_,hb,_,nb,_,lb=>by
  rw[fJ];have:=tV hK n hb nb (WB _ _) lb;simp[this]
 |c::a,[],n,_,_,_,_,_,_=>by rw[fJ];simp
 |c::a,d::b,0,_,_,_,_,la,_=>by simp at la
 |c::a,d::b,n+1,ha,hb,na,nb,la,lb=>by
  have ih:=CJ hK n ha.tail hb.tail na.tail nb.tail (by simpa using la) (by simpa using lb);rw[vx,cA,cA,pN (iy hK n ha.tail) (iy hK n hb.tail),(sq ha.head.1 hb.head.1).1,(sq ha.head.1 hb.head.1).2,ih]
theorem EJ{K:Nat}(hK:0<K):∀{l x:VE} (n:Nat),Ls K l->Ls K x->Na x->x.length=n->(l<x↔val K l n<val K x n)
 |l,[],n,_,_,_,e=>by
  obtain rfl:n=0:=by simpa using e.symm
  rw[val_zero,val_zero];simp
 |[],c::x,n,_,hx,nx,e=>by
  rw[fJ];have:=tV hK n hx nx (WB _ _) (XE e);simp[this]
 |d::l,c::x,0,_,_,_,e=>by simp at e
 |d::l,c::x,n+1,hl,hx,nx,e=>by
  have ih:=EJ hK n hl.tail hx.tail nx.tail (by simpa using e);rw[vx,cA,cA,pN (iy hK n hl.tail) (iy hK n hx.tail),(sq hl.head.1 hx.head.1).1,(sq hl.head.1 hx.head.1).2,ih]
theorem A6{K:Nat}(hK:0<K):∀{x h:VE} (n:Nat),Ls K h->Ls K x->Na h->x.length=n->(x<h↔val K x n<val K h n\/(val K x n=val K h n/\n<h.length))
 |[],h,n,_,_,_,e=>by
  obtain rfl:n=0:=by simpa using e.symm
  rw[val_zero,val_zero];cases h<;>simp
 |c::x,[],n,_,_,_,_=>by rw[fJ];simp
 |c::x,d::h,0,_,_,_,e=>by simp at e
 |c::x,d::h,n+1,hh,hx,nh,e=>by
  have ih:=A6 hK n hh.tail hx.tail nh.tail (by simpa using e);have v1:=iy hK n hx.tail;have v2:=iy hK n hh.tail;rw[vx,cA,cA,pN v1 v2,Jw v1 v2,(sq hx.head.1 hh.head.1).1,(sq hx.head.1 hh.head.1).2,ih,kS,Nat.add_lt_add_iff_right];constructor
  .rintro(g|⟨g,g'|g'⟩)
   .exact .inl (.inl g)
   .exact .inl (.inr ⟨g,g'⟩)
   .exact .inr ⟨⟨g,g'.1⟩,g'.2⟩
  .rintro((g|g)|⟨⟨g,g'⟩,g2⟩)
   .exact .inl g
   .exact .inr ⟨g.1,.inl g.2⟩
   .exact .inr ⟨g,.inr ⟨g',g2⟩⟩
def M3(m:VE)(i:Nat):Nat:=match m[i]? with|some c=>c-97|none=>0
theorem val_succ(K:Nat):∀(m:VE) (n:Nat),val K m (n+1)=val K m n*K+M3 m n
 |[],n=>by rw[fJ,fJ];simp[M3]
 |c::m,0=>by rw[cA,val_zero,val_zero];simp[M3]
 |c::m,n+1=>by
  have ih:=val_succ K m n;rw[cA,ih,cA,Wc,V7,Nat.mul_assoc,<-Nat.add_assoc];simp[M3]
def low(K r:Nat):Nat->VE
 | 0=>[]
 |n+1=>(97+r/K^n%K)::low K r n
theorem low_length(K r:Nat):∀n,(low K r n).length=n
 | 0=>rfl
 |n+1=>by rw[low,kS,low_length K r n]
theorem qQ{K:Nat}(hK:0<K)(r:Nat):∀n,Ls K (low K r n)
 | 0=>Ls.nil K
 |n+1=>λc hc=>by
  rcases gL.mp hc with rfl|hc
  .have:=WR (r/K^n) hK;lia
  .exact qQ hK r n c hc
theorem i6{K:Nat}(hK:0<K)(r:Nat):∀n,val K (low K r n) n=r%K^n
 | 0=>by rw[val_zero,XG,Nat.mod_one]
 |n+1=>by
  rw[low,cA,i6 hK r n,Wc,Nat.mod_mul,Xl,FX,Nat.add_sub_cancel_left]
def pO(m:VE):VE:=(m.reverse.dropWhile (λc=>[97].contains c)).reverse
theorem A7(m:VE):pO (m++[97])=pO m:=by
 unfold pO;rw[List.reverse_append];show (List.dropWhile _ (97::m.reverse)).reverse=_;rw[List.dropWhile_cons_of_pos .(0)]
theorem yM{m:VE}(h:Na m):pO m=m:=by
 unfold pO;cases e:m.reverse with
 |nil=>rw[List.dropWhile_nil,<-e,Wa]
 |cons c r=>
  have hc:c≠97:=h c (by rw[List.getLast?_eq_head?_reverse,e];rfl);rw[List.dropWhile_cons_of_neg (by simp[hc]),<-e,Wa]
theorem mQ(m:VE):∃k,m=pO m++List.replicate k 97/\Na (pO m):=by
 obtain⟨n,hn⟩:∃n,m.length=n:=⟨_,rfl⟩
 induction n generalizing m with
 |zero=>
  obtain rfl:m=[]:=sg.mp hn;exact⟨0,rfl,Na.nil⟩
 |succ n ih=>
  by_cases h:Na m
  .exact⟨0,by rw[yM h];simp,by rw[yM h];exact h⟩
  .obtain⟨c,hc,e⟩:∃c,m.getLast?=some c/\c=97:=by
    apply Ww
    intro q;exact h λc hc e=>q ⟨c,hc,e⟩
   subst e;obtain⟨r,rfl⟩:=List.getLast?_eq_some_iff.mp hc;obtain⟨k,e1,e2⟩:=ih r (by simpa using hn);rw[A7];refine⟨k+1,?_,e2⟩;rw[List.replicate_succ',<-Pt,<-e1]
theorem qR(K:Nat):∀(m:VE) (k n:Nat),val K (m++List.replicate k 97) n=val K m n
 |m,k,0=>by rw[val_zero,val_zero]
 |[],0,n+1=>rfl
 |[],k+1,n+1=>by
  rw[Bi,replicate_succ,cA];have:=qR K [] k n;rw[Bi] at this;rw[this,fJ,fJ];simp
 |c::m,k,n+1=>by rw[wt,cA,cA,qR K m k n]
theorem Jx(K:Nat)(m:VE)(n:Nat):val K (pO m) n=val K m n:=by
 obtain⟨k,e,_⟩:=mQ m;have h:val K m n=val K (pO m++List.replicate k 97) n:=by rw[<-e]
 rw[h,qR]
theorem Jz(m:VE):Na (pO m):=by
 obtain⟨k,_,h⟩:=mQ m;exact h
theorem JA(m:VE):(pO m).length<=m.length:=by
 obtain⟨k,e,_⟩:=mQ m;have h:m.length=(pO m++List.replicate k 97).length:=by rw[<-e]
 rw[h,de];lia
theorem JB(m:VE):∀c∈pO m,c∈m:=λc hc=>by
 obtain⟨k,e,_⟩:=mQ m;rw[e];exact hU _ hc
def mk(K r n:Nat):VE:=pO (low K r n)
theorem mk_val{K:Nat}(hK:0<K){r n:Nat}(h:r<K^n):val K (mk K r n) n=r:=by
 rw[mk,Jx,i6 hK,tj h]
theorem CL(K r n:Nat):(mk K r n).length<=n:=by
 have:=JA (low K r n);rw[low_length] at this;exact this
theorem JC{K:Nat}(hK:0<K)(r n:Nat):Ls K (mk K r n):=(qQ hK r n).sub (JB _)
theorem JD(K r n:Nat):Na (mk K r n):=Jz _
theorem RE{K:Nat}(hK:0<K){r n:Nat}(h0:0<r)(h:r<K^n):mk K r n≠[]:=λe=>by
 have:=mk_val hK h;rw[e,fJ] at this;lia
theorem M4{K:Nat}(hK:0<K){r n:Nat}(h0:0<r)(h:r<K^n):Mark K (mk K r n):=⟨JC hK r n,JD K r n,RE hK h0 h⟩
end MM
namespace MM
def bu(K h j:Nat):VE:=((List.range (K-1)).filter (λi=>decide (i%h=j))).map (98+·)
def c7(K h j n:Nat):VE:=((List.range' (n-1) (K-n)).filter (λi=>decide (i%h=j))).map (98+·)
theorem yN(K h j:Nat):c7 K h j 1=bu K h j:=by
 unfold c7 bu;rw[List.range_eq_range']
theorem nQ{K h j n:Nat}(hn:K<=n):c7 K h j n=[]:=by
 unfold c7;have:K-n=0:=by lia
 rw[this];rfl
theorem w9{K h j n:Nat}(h1:1<=n)(hK:n<K)(Yj:(n-1)%h≠j):c7 K h j n=c7 K h j (n+1):=by
 unfold c7;obtain⟨d,hd⟩:∃d,K-n=d+1:=⟨K-n-1,by lia⟩;have e2:K-(n+1)=d:=by lia
 have e3:n+1-1=n-1+1:=by lia
 rw[hd,e2,e3,List.range'_succ,L9];simp[Yj]
theorem xg{K h j n:Nat}(h1:1<=n)(hK:n<K)(he:(n-1)%h=j):c7 K h j n=(97+n)::c7 K h j (n+1):=by
 unfold c7;obtain⟨d,hd⟩:∃d,K-n=d+1:=⟨K-n-1,by lia⟩;have e2:K-(n+1)=d:=by lia
 have e3:n+1-1=n-1+1:=by lia
 rw[hd,e2,e3,List.range'_succ,L9];simp[he];lia
theorem i7{K h j:Nat}:∀(m n:Nat),1<=n->(∀i,i<m->(n-1+i)%h≠j)->c7 K h j n=c7 K h j (n+m)
 | 0,n,_,_=>rfl
 |m+1,n,h1,Yj=>by
  by_cases hK:n<K
  .rw[w9 h1 hK (by have:=Yj 0 ⋯;simpa using this),i7 m (n+1) ⋯ (λi hi=>by have:=Yj (i+1) ⋯;rwa[show n-1+(i+1)=n+1-1+i by lia] at this)];congr 1;lia
  .rw[nQ ⋯,nQ ⋯]
theorem CM{a h i:Nat}(hi:0<i)(hh:i<h):(a+i)%h≠a%h:=by
 intro e;have h0:0<h:=by lia
 have e1:=WD a h;have e2:=WD (a+i) h;rw[e] at e2;have e3:h*((a+i)/h)=h*(a/h)+i:=by lia
 rcases QQ (a/h) ((a+i)/h) with hl|hl
 .have:h*(a/h+1)<=h*((a+i)/h):=Dx h hl;rw[Nat.mul_add] at this;lia
 .have:h*((a+i)/h)<=h*(a/h):=Dx h hl;lia
theorem xh{K h j n:Nat}(h0:0<h)(h1:1<=n)(hK:n<K)(he:(n-1)%h=j):c7 K h j n=(97+n)::c7 K h j (n+h):=by
 rw[xg h1 hK he,i7 (h-1) (n+1) ⋯ (λi hi=>by
  have:=CM (a:=n-1) (h:=h) (i:=i+1) ⋯ ⋯;rw[he] at this;rwa[show n+1-1+i=n-1+(i+1) by lia])]
 congr 2;lia
theorem vg{K h j:Nat}(hj:j<h):c7 K h j (1+j)=bu K h j:=by
 rw[<-yN,Xl 1 j,Xl j 1];exact(i7 j 1 ⋯ (λi hi=>by
  show (0+i)%h≠j;rw[XH,tj ⋯];lia)).symm
theorem JE{K h j:Nat}(hj:j<h)(hh:h+1<=K):bu K h j≠[]:=by
 rw[<-vg hj,xh ⋯ ⋯ ⋯ (by rw[Xl,Nat.add_sub_cancel];exact tj hj)];exact WB _ _
theorem iN{K h j c:Nat}:c∈bu K h j↔∃i,i<K-1/\i%h=j/\c=98+i:=by
 unfold bu;simp only[mem_map,mem_filter,mem_range,decide_eq_true_eq];constructor
 .rintro⟨a,⟨h1,h2⟩,h3⟩;exact⟨a,h1,h2,h3.symm⟩
 .rintro⟨a,h1,h2,h3⟩;exact⟨a,⟨h1,h2⟩,h3.symm⟩
end MM
namespace MM
structure Ends(L:Nat)(es:VE):Prop where
 up:es.Pairwise (·<·)
 lo:∀e∈es,98<=e
 hi:∀e∈es,e<97+L
 ne:es≠[]
def cnt(es:VE)(x:Nat):Nat:=(es.filter (λe=>decide (e<x))).length
def ob(L:Nat)(es:VE)(N:Nat):Nat:=N/L*es.length+cnt es (97+N%L)
def ow(L:Nat)(es:VE)(w:Nat):Bool:=decide (97+w%L∈es)
def tF(L:Nat)(es:VE)(p:Nat):Nat:=p/es.length*L+(es.getD (p%es.length) 0-97)
theorem A8 {es:List Nat} (h:es.Pairwise (· < ·)) (x:Nat):cnt es (x + 1) = cnt es x + (if x ∈ es then 1 else 0):=by
  induction es with
  | nil=>rfl
  | cons e r ih=>
    obtain ⟨h1,h2⟩:=Hk.mp h
    have ih:=ih h2
    unfold cnt at ih ⊢
    rw [L9,L9]
    by_cases a:e < x
    . have m : x ∈ e :: r ↔ x ∈ r := by rw [gL]; constructor
                                        . rintro (rfl | z)
                                          . lia
                                          . exact z
                                        . exact .inr
      rw [df (by simp; lia),df (by simpa using a),kS,kS,ih]
      simp only [m]; lia
    . by_cases b:e = x
      . subst b
        rw [df .(4),cq .(4)]
        have no:e ∉ r:=fun z=>by have:=h1 e z; lia
        rw [cq no] at ih
        rw [kS,ih,df bp]
      . have no:x ∉ r:=fun z=>by have:=h1 x z; lia
        rw [cq (by simp; lia),cq (by simpa using a),ih,cq no,cq (by rw [gL]; rintro (z | z); lia; exact no z)]
theorem EK{es:VE}(h:∀e∈es,98<=e):cnt es 97=0:=by
 unfold cnt;rw[sg,zr];intro e he;have:=h e he;simp only[decide_eq_true_eq];lia
theorem M5{es:VE}{x:Nat}(h:∀e∈es,e<x):cnt es x=es.length:=by
 unfold cnt;rw[QP.mpr (λe he=>by simpa using h e he)]
theorem tW{L:Nat}{es:VE}(hL:0<L)(E:Ends L es)(w:Nat):ob L es (w+1)=ob L es w+(if ow L es w=true then 1 else 0):=by
 unfold ob ow;have hm:=WR w hL;simp only[decide_eq_true_eq]
 by_cases h:w%L+1<L
 .have e1:(w+1)/L=w/L:=by rw[Nat.add_div hL];have:1%L=1:=tj ⋯;rw[this,V3 (show 1<L by lia),cq ⋯];rfl
  have e2:(w+1)%L=w%L+1:=by rw[Nat.add_mod,tj (show 1<L by lia)];exact tj h
  rw[e1,e2,show 97+(w%L+1)=97+w%L+1 by lia,A8 E.up,Nat.add_assoc]
 .have hl:w%L+1=L:=by lia
  have hd:=WD w L;have e0:w+1=L*(w/L+1):=by rw[Nat.mul_add];lia
  have e1:(w+1)/L=w/L+1:=by rw[e0,Nat.mul_div_cancel_left _ hL]
  have e2:(w+1)%L=0:=by rw[e0,Nat.mul_mod_right]
  have e3:=A8 E.up (97+w%L);rw[show 97+w%L+1=97+L by lia,M5 E.hi] at e3
  rw[e1,e2,Mo,EK E.lo,V7,one_mul,e3];lia
theorem PD{es:VE}(h:es.Pairwise (·<·)):∀{r:Nat} {x:Nat},es[r]?=some x->cnt es x=r:=by
 induction es with
 |nil=>intro r x e;simp at e
 |cons e t ih=>
  intro r x hx;obtain⟨h1,h2⟩:=Hk.mp h;cases r with
  |zero=>
   obtain rfl:e=x:=by simpa using hx
   unfold cnt;rw[sg,zr];intro y hy
   rcases gL.mp hy with rfl|hy
   .simp
   .have:=h1 y hy;simp;lia
  |succ r=>
   have Zr:t[r]?=some x:=by simpa using hx
   have:=h1 x (dy Zr);have i2:=ih h2 Zr;unfold cnt at i2 ⊢;rw[vy (by simpa using this),kS,i2]
theorem kq {L:Nat} {es:List Nat} (hL:0 < L) (E:Ends L es) {a:Nat}:∀ {b:Nat},a ≤ b→ob L es a ≤ ob L es b
  | 0, h => by obtain rfl : a = 0 := by lia
               exact bb _
  | b + 1,h=>by
    by_cases e:a = b + 1
    . rw [e]; exact bb _
    . have:=kq hL E (a:=a) (b:=b) ⋯
      rw [tW hL E]; lia
theorem jo{K h j:Nat}(hj:j<h)(hh:h+1<=K):Ends K (bu K h j) where
 up:=by
  unfold bu;rw[mB];refine VP ?_ ((Xm (n:=K-1)).filter _);intro a b YH;lia
 lo:=λe he=>by obtain⟨i,_,_,rfl⟩:=iN.mp he;lia
 hi:=λe he=>by obtain⟨i,hi,_,rfl⟩:=iN.mp he;lia
 ne:=JE hj hh
theorem A9{L:Nat}(hL:0<L){i:Nat}(hi:i<L)(q:Nat):∀n,low L (q*L+i) (n+1)=low L q n++[97+i]
 | 0=>by
  show [97+(q*L+i)/L^0%L]=[97+i];rw[XG,Nat.div_one,FX,Wg,tj hi]
 |n+1=>by
  rw[low,A9 hL hi q n,low,wt];congr 2
  rw[Wc,FX (L^n),<-Xn];congr 1
  have:(q*L+i)/L=q:=by rw[FX,Xt hL,V3 hi];rfl
  rw[this]
theorem lI{L w n:Nat}(hL:0<L):(low L w (n+1)).getLast?=some (97+w%L):=by
 have hd:=WD w L;have e:w=w/L*L+w%L:=by rw[FX];lia
 rw[e,A9 hL (WR w hL)];simp[mod_eq_of_lt (mod_lt w hL)]
theorem JF{L w n:Nat}(hL:0<L)(h:w%L≠0):mk L w (n+1)=low L w (n+1):=by
 unfold mk;refine yM λc hc=>?_;rw[lI hL] at hc;have:=eI hc;lia
end MM
namespace MM
theorem EL{L:Nat}{es:VE}(E:Ends L es)(p:Nat):tF L es p%L≠0:=by
 have hp:0<es.length:=Fh.mpr E.ne;have hm:=WR p hp;have hx:es[p%es.length]?=some es[p%es.length]:=dk hm;have h1:=E.lo _ (dy hx);have h2:=E.hi _ (dy hx);unfold tF;rw[hE,hx,FX,Wg,Option.getD_some,tj ⋯];lia
end MM
namespace MM
theorem yO{L:Nat}{es:VE}(hL:0<L)(E:Ends L es)(p:Nat):ob L es (tF L es p)=p/\ow L es (tF L es p)=true:=by
 have hp:0<es.length:=Fh.mpr E.ne;have hm:=WR p hp;have hx:es[p%es.length]?=some es[p%es.length]:=dk hm;have hmem:=dy hx;have h1:=E.lo _ hmem;have h2:=E.hi _ hmem;have hc:=PD E.up hx;generalize es[p%es.length]=e at *;have e0:tF L es p=p/es.length*L+(e-97):=by unfold tF;rw[hE,hx];rfl
 have e1:tF L es p/L=p/es.length:=by rw[e0,FX,Xt hL,V3 (show e-97<L by lia)];rfl
 have e2:tF L es p%L=e-97:=by rw[e0,FX,Wg,tj ⋯]
 constructor
 .unfold ob;rw[e1,e2,show 97+(e-97)=e by lia,hc,FX]
  exact WD p es.length
 .unfold ow;rw[e2,show 97+(e-97)=e by lia]
  exact dr hmem
theorem CN{L:Nat}{es:VE}(hL:0<L)(E:Ends L es){A B p:Nat}(h1:ob L es A<=p)(h2:p<ob L es B):A<=tF L es p/\tF L es p<B:=by
 obtain⟨o1,o2⟩:=yO hL E p;constructor
 .by_cases z:A<=tF L es p
  .exact z
  .have:=kq hL E (show tF L es p+1<=A by lia);rw[tW hL E,df o2,o1] at this;lia
 .by_cases z:tF L es p<B
  .exact z
  .have:=kq hL E (show B<=tF L es p by lia);lia
end MM
set_option maxHeartbeats 1000000
namespace L2
open PySem PySem.Spec PyProof.Rows
end L2
set_option maxHeartbeats 1000000
namespace L2
section
open PySem PySem.Spec PyProof.Rows Builtin Builtin.ObjectAttr Builtin.Getset_descriptor
end
open PySem PySem.Spec PyProof.Rows
end L2
set_option maxHeartbeats 1000000
namespace L2
open PySem PySem.Spec PyProof.Rows
section
variable{κ:Type}[DecidableEq κ]
def ck(kvs:VI (κ×V))(k:κ):ο V:=(kvs.find? λkv=>decide (kv.1=k)).map (·.2)
def putK(kvs:VI (κ×V))(k:κ)(v:V):VI (κ×V):=
 if (kvs.any λkv=>decide (kv.1=k))=true then kvs.map (λkv=>if kv.1=k then(kv.1,v) else kv) else kvs++[(k,v)]
def vh(kvs:VI (κ×V))(k:κ):VI (κ×V):=kvs.filter λkv=>decide (kv.1≠k)
theorem vm{k:κ}:ck ([]:VI (κ×V)) k=none:=rfl
theorem dz{p:κ×V}{r:VI (κ×V)}{k:κ}(e:p.1=k):ck (p::r) k=some p.2:=by simp[ck,find?_cons,e]
theorem cO{p:κ×V}{r:VI (κ×V)}{k:κ}(e:¬p.1=k):ck (p::r) k=ck r k:=by simp[ck,find?_cons,e]
theorem i8(k:κ):∀kvs:VI (κ×V),(kvs.any λkv=>decide (kv.1=k))=(ck kvs k).isSome
 |[]=>rfl
 |p::r=>by
  rw[XC]
  by_cases e:p.1=k
  .simp only[dz e,decide_eq_true e,Bool.true_or,Option.isSome_some]
  .rw[cO e,eQ e,Bool.false_or];exact i8 k r
theorem Ba(k j:κ)(y:V):∀kvs:VI (κ×V),ck (kvs.map λkv=>if kv.1=k then(kv.1,y) else kv) j=(ck kvs j).map λx=>if j=k then y else x
 |[]=>rfl
 |p::r=>by
  have ih:=Ba k j y r;rw[lj]
  by_cases h:p.1=k
  .rw[df h]
   by_cases e:p.1=j
   .rw[dz (p:=(p.1,y)) e,dz e,map_some,df (e.symm.trans h)]
   .rw[cO (p:=(p.1,y)) e,cO e,ih]
  .rw[cq h]
   by_cases e:p.1=j
   .rw[dz (p:=p) e,dz e,map_some,cq (λz=>h (e.trans z))]
   .rw[cO (p:=p) e,cO e,ih]
theorem xK(k j:κ)(y:V):∀kvs:VI (κ×V),ck kvs k=none->ck (kvs++[(k,y)]) j=if j=k then some y else ck kvs j
 |[],_=>by
  by_cases e:k=j
  .rw[df e.symm];exact dz (p:=(k,y)) e
  .rw[cq (λz=>e z.symm)];exact cO (p:=(k,y)) e
 |p::r,hn=>by
  rw[wt];have hk:¬p.1=k:=λz=>by rw[dz z] at hn;cases hn
  rw[cO hk] at hn;have ih:=xK k j y r hn
  by_cases e:p.1=j
  .rw[dz e,dz e,cq (λz=>hk (e.trans z))]
  .rw[cO e,cO e,ih]
theorem vn(kvs:VI (κ×V))(k j:κ)(y:V):ck (putK kvs k y) j=if j=k then some y else ck kvs j:=by
 unfold putK
 by_cases a:(kvs.any λkv=>decide (kv.1=k))=true
 .rw[df a,Ba];rw[i8] at a
  by_cases e:j=k
  .obtain⟨x,hx⟩:=WN.mp a;rw[df e,e,hx,map_some,df rfl]
  .rw[cq e];cases ck kvs j with
   |none=>rfl
   |some x=>rw[map_some,cq e]
 .rw[cq a];refine xK k j y kvs ?_;rw[i8] at a;cases q:ck kvs k with
  |none=>rfl
  |some x=>rw[q] at a;exact(a rfl).elim
theorem fy(kvs:VI (κ×V))(k:κ)(v:V):(putK kvs k v).length<=kvs.length+1:=by
 unfold putK;split
 .rw[aw];lia
 .rw[de,kS,length_nil];lia
theorem jJ{kvs:VI (κ×V)}{k:κ}(v:V)(h:ck kvs k=none):putK kvs k v=kvs++[(k,v)]:=by
 unfold putK;rw[i8,h];exact cq .(0)
theorem jH.jK{o:ο V}{u:ο ζ}(r:jH o u):o.isSome=u.isSome:=by
 cases o with
 |none=>cases u with
  |none=>rfl
  |some _=>exact(show False from r).elim
 |some _=>cases u with
  |none=>exact(show False from r).elim
  |some _=>rfl
theorem jH.getD{o:ο V}{u:ο ζ}{d:V}{d':ζ}(r:jH o u)(rd:RelV d d'):RelV (o.getD d) (u.getD d'):=by
 cases o with
 |none=>cases u with
  |none=>exact rd
  |some _=>exact(show False from r).elim
 |some _=>cases u with
  |none=>exact(show False from r).elim
  |some _=>exact r
theorem KV.val{kvs:VI (κ×V)}{vs:VI (κ×ζ)}(r:KV kvs vs)(k:κ):jH (ck kvs k) (valueAt vs k):=by
 unfold KV at r
 induction r with
 |nil=>exact True.intro
 |@cons p q ps qs h t ih=>
  obtain⟨h1,h2⟩:=h
  by_cases e:p.1=k
  .have e':q.1=k:=h1.symm.trans e;have b:valueAt (q::qs) k=some q.2:=by simp[valueAt,find?_cons,e']
   rw[dz e,b];exact h2
  .have e':¬q.1=k:=λz=>e (h1.trans z);have b:valueAt (q::qs) k=valueAt qs k:=by simp[valueAt,find?_cons,e']
   rw[cO e,b];exact ih
theorem KV.any{kvs:VI (κ×V)}{vs:VI (κ×ζ)}(r:KV kvs vs)(k:κ):(kvs.any λkv=>decide (kv.1=k))=vs.any λkv=>decide (kv.1=k):=by
 unfold KV at r
 induction r with
 |nil=>rfl
 |cons h t ih=>rw[XC,XC,ih,h.1]
theorem KV.repl{kvs:VI (κ×V)}{vs:VI (κ×ζ)}(r:KV kvs vs)(k:κ){y:V}{u:ζ}(ry:RelV y u):
  KV (kvs.map λkv=>if kv.1=k then(kv.1,y) else kv) (vs.map λkv=>if kv.1=k then(kv.1,u) else kv):=by
 unfold KV at r ⊢
 induction r with
 |nil=>exact .nil
 |@cons p q ps qs h t ih=>
  rw[lj,lj];refine .cons ?_ ih;obtain⟨h1,h2⟩:=h
  by_cases e:p.1=k
  .rw[df e,df (h1.symm.trans e)];exact⟨h1,ry⟩
  .rw[cq e,cq (λz=>e (h1.trans z))];exact⟨h1,h2⟩
theorem KV.put{kvs:VI (κ×V)}{vs:VI (κ×ζ)}(r:KV kvs vs)(k:κ){y:V}{u:ζ}(ry:RelV y u):KV (putK kvs k y) (stored vs k u):=by
 unfold putK stored;rw[r.any k]
 by_cases e:(vs.any λkv=>decide (kv.1=k))=true
 .rw[df e,df e];exact r.repl k ry
 .rw[cq e,cq e];exact Paired.snoc r ⟨rfl,ry⟩
theorem KV.drop{kvs:VI (κ×V)}{vs:VI (κ×ζ)}(r:KV kvs vs)(k:κ):KV (vh kvs k) (without vs k):=by
 unfold KV at r ⊢;unfold vh without
 induction r with
 |nil=>exact .nil
 |@cons p q ps qs h t ih=>
  obtain⟨h1,h2⟩:=h;rw[L9,L9]
  by_cases e:p.1=k
  .have a:¬decide (p.1≠k)=true:=by simp[e]
   have b:¬decide (q.1≠k)=true:=by simp[h1.symm.trans e]
   rw[cq a,cq b];exact ih
  .have e':¬q.1=k:=λz=>e (h1.trans z);have a:decide (p.1≠k)=true:=by simp[e]
   have b:decide (q.1≠k)=true:=by simp[e']
   rw[df a,df b];exact .cons ⟨h1,h2⟩ ih
theorem KV.length{kvs:VI (κ×V)}{vs:VI (κ×ζ)}(r:KV kvs vs):kvs.length=vs.length:=Paired.length r
theorem JG(kvs:VI (κ×V))(k:κ):(vh kvs k).length<=kvs.length:=oI _ _
end
theorem pP{P:ι}{w:ν}{k:Key}{u:ζ}(r:RelV (kV k) u):(bN P w).is k u=true:=by
 cases k with
 |inl i=>obtain⟨t,e⟩:=(show ∃t,u=Value.int i t from r);subst e;exact As P w i t
 |inr x=>obtain⟨t,e⟩:=(show ∃t,u=Value.str x t from r);subst e;exact Au P w x t
 |non=>obtain rfl:u=Value.none:=r;rfl
theorem xM{P:ι}{w:ν}:∀{ks:VI Key} {us:VI ζ},Vals (ks.map kV) us->ItemsAre (bN P w) ks us
 |[],_,r=>by rw[XA] at r;cases r;exact .nil
 |k::ks,_,r=>by
  rw[lj] at r;cases r with
  |cons h t=>exact .cons (pP h) (xM t)
abbrev KT(H:Hp):VI (VI Key×V)->VI (VI Key×θ×ζ)->Prop:=Paired λp q=>p.1=q.1/\H q.2.1=some (.tup (p.1.map kV))/\RelV p.2 q.2.2
theorem KT.val{H:Hp}{kvs:VI (VI Key×V)}{xs:VI (VI Key×θ×ζ)}(r:KT H kvs xs)(k:VI Key):jH (ck kvs k) ((atKey xs k).map (·.2)):=by
 induction r with
 |nil=>exact True.intro
 |@cons p q ps qs h t ih=>
  obtain⟨h1,_,h2⟩:=h
  by_cases e:p.1=k
  .have e':q.1=k:=h1.symm.trans e;have b:atKey (q::qs) k=some q.2:=by simp[atKey,find?_cons,e']
   rw[dz e,b];exact h2
  .have e':¬q.1=k:=λz=>e (h1.trans z);have b:atKey (q::qs) k=atKey qs k:=by simp[atKey,find?_cons,e']
   rw[cO e,b];exact ih
theorem KT.repl{H:Hp}{kvs:VI (VI Key×V)}{xs:VI (VI Key×θ×ζ)}(r:KT H kvs xs)(k:VI Key){y:V}{u:ζ}(ry:RelV y u):
  KT H (kvs.map λkv=>if kv.1=k then(kv.1,y) else kv) (xs.map (putAt k u)):=by
 induction r with
 |nil=>exact .nil
 |@cons p q ps qs h t ih=>
  rw[lj,lj];refine .cons ?_ ih;obtain⟨h1,h2,h3⟩:=h;unfold putAt
  by_cases e:p.1=k
  .rw[df e,df (h1.symm.trans e)];exact⟨h1,h2,ry⟩
  .rw[cq e,cq (λz=>e (h1.trans z))];exact⟨h1,h2,h3⟩
theorem KT.put{H:Hp}{kvs:VI (VI Key×V)}{xs:VI (VI Key×θ×ζ)}(r:KT H kvs xs)(k:VI Key){b:θ}{y:V}{u:ζ}(hb:H b=some (.tup (k.map kV)))(ry:RelV y u):
  KT H (putK kvs k y) (storedH xs k b u):=by
 have e:(kvs.any λkv=>decide (kv.1=k))=(atKey xs k).isSome:=by
  rw[i8,(r.val k).jK,isSome_map]
 unfold putK storedH;rw[e]
 by_cases q:(atKey xs k).isSome=true
 .rw[df q,df q];exact r.repl k ry
 .rw[cq q,cq q];exact Paired.snoc r ⟨rfl,hb,ry⟩
theorem KT.keeps{H H':Hp}{kvs:VI (VI Key×V)}{xs:VI (VI Key×θ×ζ)}(r:KT H kvs xs)(ht:∀b ys,H b=some (.tup ys)->H' b=some (.tup ys)):KT H' kvs xs:=
 Paired.ON r λ_ _ z=>⟨z.1,ht _ _ z.2.1,z.2.2⟩
section
variable{P:ι}{w:ν}{H:Hp}{h:ε}{a:θ}
theorem Oj{u:HO}(ok:mh P w H h)(e:Rd H a u):cY P w H h a u:=e.ok ok
theorem vo{kvs:VI (Key×V)}(ok:mh P w H h)(e:Rd H a (.dK kvs)):kvs.length<=sizeLine/\(a==sysModules)=false/\∃vs,KV kvs vs/\h.DictOf (bN P w) a vs:=
 show cY P w H h a (.dK kvs) from Oj ok e
theorem lJ{kvs:VI (Key×V)}(ok:mh P w H h)(e:H a=some (.dK kvs)):kvs.length<=sizeLine/\(a==sysModules)=false/\∃vs,KV kvs vs/\h.DictOf (bN P w) a vs:=vo ok (.inl e)
theorem qS{ks:VI Key}(ok:mh P w H h)(e:H a=some (.tup (ks.map kV))):(tupleKind (bN P w)).is h ks a:=by
 obtain⟨_,XM,r,o,h1,h2,n,h3⟩:=(show cY P w H h a (.tup (ks.map kV)) from ok a _ e);exact⟨o,XM.toArray,n,h1,h2,h3,by simpa using xM r⟩
theorem vp{kvs:VI (VI Key×V)}(ok:mh P w H h)(e:Rd H a (.dT kvs)):kvs.length<=sizeLine/\(a==sysModules)=false/\
  ∃xs,KT H kvs xs/\h.DictOfH (tupleKind (bN P w)) a xs:=by
 obtain⟨z,y,xs,r,o,es,ep,h1,h2,h3,h4,h5⟩:=(show cY P w H h a (.dT kvs) from Oj ok e);refine⟨z,y,xs,r,o,es,ep,h1,h2,h3,h4,λx hx=>?_,h5⟩;have all:∀{l:VI (VI Key×V)} {m:VI (VI Key×θ×ζ)},KT H l m->∀x∈m,(tupleKind (bN P w)).is h x.1 x.2.1:=by
  intro l m q
  induction q with
  |nil=>intro x hx;exact nomatch hx
  |@cons p q ps qs hq t ih=>
   intro x hx
   rcases gL.mp hx with e|hx
   .subst e;exact qS ok (by rw[<-hq.1];exact hq.2.1)
   .exact ih x hx
 exact all r x hx
theorem RG{kvs:VI (VI Key×V)}(ok:mh P w H h)(e:H a=some (.dT kvs)):kvs.length<=sizeLine/\(a==sysModules)=false/\
  ∃xs,KT H kvs xs/\h.DictOfH (tupleKind (bN P w)) a xs:=vp ok (.inl e)
end
def g9(H:Hp)(a:θ)(y:V)(r:ο V):Prop:=
 (∃kvs k,Rd H a (.dK kvs)/\y=kV k/\r=ck kvs k)\/∃kvs k b,Rd H a (.dT kvs)/\y=.ref b/\H b=some (.tup (k.map kV))/\r=ck kvs k
def oH(H:Hp)(a:θ)(y v:V)(H':Hp):Prop:=
 (∃kvs k,H a=some (.dK kvs)/\y=kV k/\kvs.length<sizeLine/\H'=upd H a (.dK (putK kvs k v)))\/
 ∃kvs k b,H a=some (.dT kvs)/\y=.ref b/\H b=some (.tup (k.map kV))/\kvs.length<sizeLine/\H'=upd H a (.dT (putK kvs k v))
theorem g9.k{H:Hp}{a:θ}{kvs:VI (Key×V)}{k:Key}(e:H a=some (.dK kvs)):g9 H a (kV k) (ck kvs k):=.inl ⟨kvs,k,.inl e,rfl,rfl⟩
theorem g9.t{H:Hp}{a b:θ}{kvs:VI (VI Key×V)}{k:VI Key}(e:H a=some (.dT kvs))(eb:H b=some (.tup (k.map kV))):g9 H a (.ref b) (ck kvs k):=.inr ⟨kvs,k,b,.inl e,rfl,eb,rfl⟩
theorem oH.k{H:Hp}{a:θ}{kvs:VI (Key×V)}{k:Key}{v:V}(e:H a=some (.dK kvs))(hl:kvs.length<sizeLine):oH H a (kV k) v (upd H a (.dK (putK kvs k v))):=.inl ⟨kvs,k,e,rfl,hl,rfl⟩
theorem oH.t{H:Hp}{a b:θ}{kvs:VI (VI Key×V)}{k:VI Key}{v:V}(e:H a=some (.dT kvs))(eb:H b=some (.tup (k.map kV)))(hl:kvs.length<sizeLine):
  oH H a (.ref b) v (upd H a (.dT (putK kvs k v))):=.inr ⟨kvs,k,b,e,rfl,eb,hl,rfl⟩
section
variable{X:Cx}{Z0:VI (θ×Obj)}{Y:St}{H:Hp}{s:η}{a:θ}{y v:V}{u r:ζ}{o:ο V}{A:ξ}{E:ζ->η->Prop}
theorem Inv.big(I:Inv X Z0 Y H s):sysModules<s.heap.objs.size:=by
 have h:mainGlobals<s.heap.objs.size:=(I.mod.glob.keeps I.bk).lt;exact XI .(0) h
theorem G1{Q:ζ->η->Prop}(hu:A.units+1<cLine)(I:Inv X Z0 Y H s)(g:g9 H a y (some v))(ry:RelV y u)(h:∀w' s',Inv X Z0 Y H s'->RelV v w'->Q w' s'):
  wpAny .(1) A (getItem (.ref a) u) Q E s:=by
 rcases g with⟨kvs,k,e,ey,l⟩|⟨kvs,k,b,e,ey,eb,l⟩
 .subst ey;obtain⟨z,hd,vs,rel,dd⟩:=vo I.hok e;obtain⟨w',hw,YE⟩:=jH.some_of (v:=v) (o:=valueAt vs k) (by rw[l];exact rel.val k);exact wpAny_getItem_of (pP ry) dd.mapOf hw (h w' _ (I.tok _) YE)
 .subst ey;cases (show u=Value.ref b from ry);obtain⟨z,hd,xs,rel,dd⟩:=vp I.hok e;obtain⟨w',hw,YE⟩:=jH.some_of (v:=v) (o:=(atKey xs k).map (·.2)) (by rw[l];exact rel.val k);obtain⟨p,hp,YI⟩:=eM.mp hw;refine wpAny_getItem_heap (FK hu) (qS I.hok eb) dd hp ?_;rw[YI];exact h w' _ (I.tok _) YE
theorem Uz{Q:ζ->η->Prop}(hu:A.units+1<cLine)(I:Inv X Z0 Y H s)(g:g9 H a y o)(ry:RelV y u)(h:∀s',Inv X Z0 Y H s'->Q (.bool o.isSome) s'):
  wpAny .(1) A (compareOp .In u (.ref a)) Q E s:=by
 rcases g with⟨kvs,k,e,ey,l⟩|⟨kvs,k,b,e,ey,eb,l⟩
 .subst ey;obtain⟨z,hd,vs,rel,dd⟩:=vo I.hok e;refine wpAny_in_of (pP ry) hd dd.mapOf ?_;rw[<-(rel.val k).jK,<-l];exact h _ (I.tok _)
 .subst ey;cases (show u=Value.ref b from ry);obtain⟨z,hd,xs,rel,dd⟩:=vp I.hok e;refine wpAny_in_heap (FK hu) (qS I.hok eb) hd dd ?_;have q:=(rel.val k).jK;rw[isSome_map] at q;rw[<-q,<-l];exact h _ (I.tok _)
theorem M7{Q:ζ->η->Prop}(hu:A.units+1<cLine)(I:Inv X Z0 Y H s)(g:g9 H a y o)(ry:RelV y u)(h:∀s',Inv X Z0 Y H s'->Q (.bool (!o.isSome)) s'):
  wpAny .(1) A (compareOp .NotIn u (.ref a)) Q E s:=by
 rcases g with⟨kvs,k,e,ey,l⟩|⟨kvs,k,b,e,ey,eb,l⟩
 .subst ey;obtain⟨z,hd,vs,rel,dd⟩:=vo I.hok e;refine wpAny_notIn_of (pP ry) hd dd.mapOf ?_;rw[<-(rel.val k).jK,<-l];exact h _ (I.tok _)
 .subst ey;cases (show u=Value.ref b from ry);obtain⟨z,hd,xs,rel,dd⟩:=vp I.hok e;refine wpAny_notIn_heap (FK hu) (qS I.hok eb) hd dd ?_;have q:=(rel.val k).jK;rw[isSome_map] at q;rw[<-q,<-l];exact h _ (I.tok _)
theorem tX{h':ε}{t':Nat}{ob:HO}(I:Inv X Z0 Y H s)(mu:Rb (H a))(hs:Heap.SameBut a s.heap h')(he:∃q,h'.get? a=some q)(new:cY X.prog X.w (upd H a ob) h' a ob):
  Inv X Z0 Y (upd H a ob) {s with heap:=h',toks:=t' }:=
 I.write (x:=a) (e:=a) mu (.inl rfl) (λb q hb z=>(hs.2 b hb).trans z) he new
theorem CO{P:ι}{w:ν}{H':Hp}{h':ε}{kvs:VI (Key×V)}{vs:VI (Key×ζ)}(z:kvs.length<=sizeLine)(hd:(a==sysModules)=false)(rel:KV kvs vs)(dd:h'.DictOf (bN P w) a vs):
  cY P w H' h' a (.dK kvs):=⟨z,hd,vs,rel,dd⟩
theorem G2{H':Hp}{Q:Unit->η->Prop}(hu:A.units+1<cLine)(I:Inv X Z0 Y H s)(g:oH H a y v H')(ry:RelV y u)(rv:RelV v r)(h:∀s',Inv X Z0 Y H' s'->Q () s'):
  wpAny .(1) A (setItem (.ref a) u r) Q E s:=by
 rcases g with⟨kvs,k,e,ey,l,eH⟩|⟨kvs,k,b,e,ey,eb,l,eH⟩
 .subst ey eH;obtain⟨z,hd,vs,rel,dd⟩:=lJ I.hok e;have hz:vs.length<=sizeLine:=by rw[<-rel.length];exact z
  have hl:(putK kvs k v).length<=sizeLine:=by have:=fy kvs k v;lia
  refine wpAny_setItem_pairs (hsz:=hz) (pP ry) dd λh' dd' hs=>h _ ?_;have he:∃q,h'.get? a=some q:=let ⟨q,_,_,hq,_⟩:=dd';⟨q,hq⟩;exact tX I (by rw[e];exact True.intro) hs he (CO hl hd (rel.put k rv) dd')
 .subst ey eH;cases (show u=Value.ref b from ry);obtain⟨z,hd,xs,rel,dd⟩:=RG I.hok e;have hz:xs.length<=sizeLine:=by rw[<-Paired.length rel];exact z
  have hl:(putK kvs k v).length<=sizeLine:=by have:=fy kvs k v;lia
  refine wpAny_setItem_heap (hsz:=hz) (FK hu) (qS I.hok eb) dd λh' dd' hs=>h _ ?_;obtain⟨q,es,ep,hq,h2,h3,h4,_,h5⟩:=dd';refine tX I (by rw[e];exact True.intro) hs ⟨q,hq⟩ ⟨hl,hd,_,(rel.put k eb rv).keeps λc ys ec=>?_,q,es,ep,hq,h2,h3,h4,h5⟩;rw[aH (Ra ec e (λz=>nomatch z))];exact ec
end
section
variable{X:Cx}{Z0:VI (θ×Obj)}{Y:St}{H:Hp}{s:η}{a:θ}{kvs:VI (Key×V)}{k:Key}{u:ζ}{A:ξ}{E:ζ->η->Prop}
theorem Ol{v:V}{more:VI ζ}{Q:ζ->η->Prop}(I:Inv X Z0 Y H s)(e:H a=some (.dK kvs))(ry:RelV (kV k) u)(l:ck kvs k=some v)(hm:more=[]\/∃x,more=[x])
  (h:∀w' s',Inv X Z0 Y (upd H a (.dK (vh kvs k))) s'->RelV v w'->Q w' s'):wpAny .(1) A (call (.builtin "dict.pop") (.ref a::u::more)) Q E s:=by
 obtain⟨z,hd,vs,rel,dd⟩:=lJ I.hok e;obtain⟨w',hw,YE⟩:=jH.some_of (v:=v) (o:=valueAt vs k) (by rw[<-l];exact rel.val k);have hp:(keyPart u).isSome=true:=by
  cases k with
  |inl i=>obtain⟨t,q⟩:=(show ∃t,u=Value.int i t from ry);subst q;rfl
  |inr x=>obtain⟨t,q⟩:=(show ∃t,u=Value.str x t from ry);subst q;rfl
  |non=>obtain rfl:u=Value.none:=ry;rfl
 have ha:argsOk "dict.pop" ⟨.ref a::u::more,[]⟩:=by
  rcases hm with q|⟨x,q⟩
  .subst q;exact PySem.F.args_dict_pop_2 _ _
  .subst q;exact W0 _ _ _
 refine VQ y0 dd.typeIs Xo ha (meets_dict_pop_there (bN X.prog X.w) a (pP ry) more hm hp)
  ⟨vs,w',dd,by rw[<-rel.length];exact z,hw,λh' dd' hs=>h w' _ ?_ YE⟩
 have he:∃q,h'.get? a=some q:=let ⟨q,_,_,hq,_⟩:=dd';⟨q,hq⟩;exact tX I (by rw[e];exact True.intro) hs he (CO (eJ (JG kvs k) z) hd (rel.drop k) dd')
theorem PF{r:ζ}{Q:ζ->η->Prop}(I:Inv X Z0 Y H s)(e:H a=some (.dK kvs))(ry:RelV (kV k) u)(l:ck kvs k=none)(h:∀s',Inv X Z0 Y H s'->Q r s'):
  wpAny .(1) A (call (.builtin "dict.pop") [.ref a,u,r]) Q E s:=by
 obtain⟨z,hd,vs,rel,dd⟩:=lJ I.hok e;have hn:valueAt vs k=none:=jH.none_of (by rw[<-l];exact rel.val k);have hp:(keyPart u).isSome=true:=by
  cases k with
  |inl i=>obtain⟨t,q⟩:=(show ∃t,u=Value.int i t from ry);subst q;rfl
  |inr x=>obtain⟨t,q⟩:=(show ∃t,u=Value.str x t from ry);subst q;rfl
  |non=>obtain rfl:u=Value.none:=ry;rfl
 exact VQ y0 dd.typeIs Xo (W0 _ _ _) (meets_dict_pop_default (bN X.prog X.w) a (pP ry) hd hp r) ⟨vs,dd,hn,h _ (I.tok _)⟩
end
def PJ(i:γ):Prop:=∀ov iv,subscripted i false ov iv=operate [ov,iv] (getItem ov iv)
theorem M8{prog:ι}{w:ν}{A:ξ}{E:ζ->η->Prop}{s:η}{env:Env}{value slice:γ}{pos:Pos}{T id:String}{Q:ζ->η->Prop}
  (hl:typeLookup (.type T) "__getitem__" =pure (some (.builtin id))) (hs:PJ slice)
  (h:wpAny .(2) A (eval value env) (λo s₁=>wpAny .(2) A (eval slice env) (λi c4=>c4.TypeIs o T/\wpAny .(2) A (getItem o i) Q E c4) E s₁) E s):
  wpAny .(2) A (eval (.Subscript value slice pos) env) Q E s:=by
 refine Subscript_ (pE h (λo s₁ h₁=>pE h₁ (λi c4 i3=>?_) λ_ _ x=>x) λ_ _ x=>x);obtain⟨hT,i3⟩:=i3;unfold subscriptTail;refine ae ?_;rw[getitemInPython_of_ne hT.not_modules];refine ae (Wh hT hl ?_);have fin:wpAny .(2) A (subscripted slice false o i) (λr a9=>wpAny .(2) A (letTemporaryGo value o r>>=λ_=>pure r) Q E a9) E c4:=by
  rw[hs o i];exact wpAny_operating (pE i3 (λr a9 i5=>ae (wpAny_letTemporaryGo (bj i5))) λ_ _ x=>x)
 first
  |exact bj (ae fin)
  |exact ae (bj (ae fin))
  |exact ae fin
theorem Bb{X:Cx}{Z0:VI (θ×Obj)}{Y:St}{H:Hp}{s:η}{a:θ}{y:V}{o:ο V}(I:Inv X Z0 Y H s)(g:g9 H a y o):s.TypeIs (.ref a) "dict":=by
 rcases g with⟨kvs,k,e,_,_⟩|⟨kvs,k,b,e,_,_,_⟩
 .obtain⟨_,_,vs,_,dd⟩:=vo I.hok e;exact dd.typeIs
 .obtain⟨_,_,xs,_,dd⟩:=vp I.hok e;exact dd.typeIs
def i9(td ty:TE):TE:=λY H Q=>td Y H λx H1=>ty Y H1 λy H2=>∃a v,x=.ref a/\g9 H2 a y (some v)/\Q v H2
def fU(td ty tv:TE):TS:=λD Y H=>tv Y H λv H1=>td Y H1 λx H2=>ty Y H2 λy H3=>∃a H4,x=.ref a/\oH H3 a y v H4/\D.nx Y H4
section
variable{X:Cx}{o i e value:γ}{pos pos' tpos:Pos}{td ty tv:TE}
theorem M9(hu:X.A.units+1<cLine)(ho:PE X o td)(hi:PE X i ty)(hs:PJ i):PE X (.Subscript o i pos) (i9 td ty):=by
 intro Z0 s Y H Q I h;refine M8 PySem.F.slot_dict_getitem.lookup hs (cT (ho Z0 s Y H _ I h) λu s1 ⟨x,H1,I1,rx,q1⟩=>cT (hi Z0 s1 Y H1 _ I1 q1) λiv s2 ⟨y,H2,I2,ry,a,v,ex,g,q2⟩=>?_);subst ex;obtain rfl:u=Value.ref a:=rx;exact⟨Bb I2 g,G1 hu I2 g ry λw' s3 I3 YE=>⟨v,H2,I3,YE,q2⟩⟩
theorem Nb(hu:X.A.units+1<cLine)(ho:PE X o td)(hi:PE X i ty)(hv:PE X value tv)(hs:swapsWith value (some (.Subscript o i pos')) pos.line X.env=pure false):
  PS X (.Assign [.Subscript o i pos'] value pos) (fU td ty tv):=by
 intro Z0 s Y H D I h;refine wpAny_Assign_Subscript (cT (hv Z0 s Y H _ I h) λr s1 ⟨v,H1,I1,rv,q1⟩=>cT (ho Z0 s1 Y H1 _ I1 q1) λu s2 ⟨x,H2,I2,rx,q2⟩=>cT (hi Z0 s2 Y H2 _ I2 q2) λiv s3 ⟨y,H3,I3,ry,a,H4,ex,g,q3⟩=>?_) hs;subst ex;obtain rfl:u=Value.ref a:=rx;exact G2 hu I3 g ry rv λs4 I4=>⟨Y,H4,I4,q3⟩
end
theorem JH{P:ι}{w:ν}{H:Hp}(h:ε)(hb:sysModules<h.objs.size):cY P w H (h.push {cls:=.type "dict",data:=.dict #[] }) h.objs.size (.dK []):=
 ⟨mi _,oP.mpr (du (iq hb)),[],.nil,Heap.DictOf.new h⟩
theorem JI{P:ι}{w:ν}{H:Hp}(h:ε)(hb:sysModules<h.objs.size):cY P w H (h.push {cls:=.type "dict",data:=.dict #[] }) h.objs.size (.dT []):=
 ⟨mi _,oP.mpr (du (iq hb)),[],.nil,_,#[],0,cx _ rfl,⟨rfl,rfl,rfl⟩,rfl,rfl,TC⟩
def fz:TE:=λ_ H Q=>∀p,H p=none->Q (.ref p) (upd H p (.dK []))
def oJ:TE:=λ_ H Q=>∀p,H p=none->Q (.ref p) (upd H p (.dT []))
section
variable{X:Cx}{pos:Pos}
theorem JJ:PE X (.Dict [] [] pos) fz:=λZ0 s Y H Q I h=>
 wpAny_Dict_empty ⟨.ref s.heap.objs.size,_,I.laid (a:=s.heap.objs.size) (o:=.dK []) (t':=s.toks) (λ_ _ q=>ba _ q) (bb _) (JH s.heap I.big),rfl,h _ (I.hok.fresh (bb _))⟩
theorem JK:PE X (.Dict [] [] pos) oJ:=λZ0 s Y H Q I h=>
 wpAny_Dict_empty ⟨.ref s.heap.objs.size,_,I.laid (a:=s.heap.objs.size) (o:=.dT []) (t':=s.toks) (λ_ _ q=>ba _ q) (bb _) (JI s.heap I.big),rfl,h _ (I.hok.fresh (bb _))⟩
end
def gM(kvs more:VI (Key×V)):VI (Key×V):=more.foldl (λacc kv=>putK acc kv.1 kv.2) kvs
theorem KV.merge:∀{more:VI (Key×V)} {rs:VI (Key×ζ)} {kvs:VI (Key×V)} {vs:VI (Key×ζ)},KV more rs->KV kvs vs->KV (gM kvs more) (merged vs rs):=by
 intro more rs kvs vs r;unfold KV at r
 induction r generalizing kvs vs with
 |nil=>intro q;exact q
 |@cons p q ps qs h t ih=>
  intro r0;have e:KV (putK kvs p.1 p.2) (stored vs q.1 q.2):=by
   have:=r0.put p.1 h.2;rw[<-h.1];exact this
  exact ih e
theorem jA:∀(more kvs:VI (Key×V)),(gM kvs more).length<=kvs.length+more.length
 |[],kvs=>by show kvs.length<=kvs.length+0;lia
 |p::r,kvs=>by
  have h1:=jA r (putK kvs p.1 p.2);have h2:=fy kvs p.1 p.2;show (gM (putK kvs p.1 p.2) r).length<=_;rw[kS];lia
structure M2(X:Cx)(o:γ)(m:Str)(apos:Pos)(e f:γ)(XO:Pos):Prop where
 base:attributeBase o m X.env (eval o X.env)=eval o X.env
 few:((backTo XO (starEach [e,f] X.env)).all (λx=>!x.1)&&(backToKw XO (keywordEach [] X.env)).all (λx=>x.1.isSome)
  && decide (([e,f]:VI γ).length+([]:VI Keyword).length+(if ([]:VI Keyword).isEmpty then 0 else 1)<30))=true
 line:(apos.endLine==XO.line)=true
 trees:backTo XO (starEach [e,f] X.env)=[(false,eval e X.env),(false,eval f X.env)]
def Vj(H:Hp)(a:θ):Prop:=(∃kvs,Rd H a (.dK kvs))\/∃kvs,Rd H a (.dT kvs)
theorem PL{X:Cx}{Z0:VI (θ×Obj)}{Y:St}{H:Hp}{s:η}{a:θ}(I:Inv X Z0 Y H s)(d:Vj H a):
  s.TypeIs (.ref a) "dict"/\(∀b,Value.ref a=.ref b->∃ob,s.heap.get? b=some ob/\ob.dict=none)/\(a==sysModules)=false:=by
 rcases d with⟨kvs,e⟩|⟨kvs,e⟩
 .obtain⟨_,hd,vs,_,dd⟩:=vo I.hok e;refine⟨dd.typeIs,λb q=>?_,hd⟩;cases q;obtain⟨ob,_,_,h1,h2,_⟩:=dd;exact⟨ob,h1,h2.2.1⟩
 .obtain⟨_,hd,xs,_,dd⟩:=vp I.hok e;refine⟨dd.typeIs,λb q=>?_,hd⟩;cases q;obtain⟨ob,_,_,h1,h2,_⟩:=dd;exact⟨ob,h1,h2.2.1⟩
section
variable{X:Cx}{Z0:VI (θ×Obj)}{Y:St}{H:Hp}{s:η}{a:θ}{y d:V}{u r:ζ}{o:ο V}{A:ξ}{E:ζ->η->Prop}
theorem PM{Q:ζ->η->Prop}(hu:A.units+1<cLine)(I:Inv X Z0 Y H s)(g:g9 H a y o)(ry:RelV y u)(rd:RelV d r)(h:∀w' s',Inv X Z0 Y H s'->RelV (o.getD d) w'->Q w' s'):
  wpAny .(1) A (call (.builtin "dict.get") [.ref a,u,r]) Q E s:=by
 rcases g with⟨kvs,k,e,ey,l⟩|⟨kvs,k,b,e,ey,eb,l⟩
 .subst ey;obtain⟨z,hd,vs,rel,dd⟩:=vo I.hok e;refine VQ V1 dd.typeIs Xp (Xa _ _ _) (meets_dict_get_default (bN X.prog X.w) a (pP ry) hd r) ⟨_,dd.mapOf,h _ _ (I.tok _) ?_⟩;rw[l];exact(rel.val k).getD rd
 .subst ey;cases (show u=Value.ref b from ry);obtain⟨z,hd,xs,rel,dd⟩:=vp I.hok e;refine VQ V1 dd.typeIs Xp (Xa _ _ _) (meetsH_dict_get_default (tupleKind (bN X.prog X.w)) a b hd r) ⟨FK hu,k,xs,qS I.hok eb,dd,h _ _ (I.tok _) ?_⟩;rw[l];exact(rel.val k).getD rd
end
def oK(td ty tx:TE):TE:=λY H Q=>td Y H λx H1=>∃a,x=.ref a/\Vj H1 a/\ty Y H1 λy H2=>tx Y H2 λz H3=>∃o,g9 H3 a y o/\Q (o.getD z) H3
section
variable{X:Cx}{o e f:γ}{apos XO:Pos}{td ty tx:TE}
theorem JL(hu:X.A.units+1<cLine)(ho:PE X o td)(he:PE X e ty)(hf:PE X f tx)(m:M2 X o "get" apos e f XO):PE X (.Call (.Attribute o "get" apos) [e,f] [] XO) (oK td ty tx):=by
 intro Z0 s Y H Q I h;refine wpAny_Call_method m.base m.few m.line mI V1 PySem.F.type_dict_get (cT (ho Z0 s Y H _ I h) λu s1 ⟨x,H1,I1,rx,a,ex,d,q1⟩=>?_);subst ex;obtain rfl:u=Value.ref a:=rx;obtain⟨t1,t2,_⟩:=PL I1 d;refine⟨t1,t2,?_⟩;rw[m.trees];refine VN rfl (V8 (Tb (cT (he Z0 s1 Y H1 _ I1 q1) λiv s2 ⟨y,H2,I2,ry,q2⟩=>
  Tb (cT (hf Z0 s2 Y H2 _ I2 q2) λfv s3 ⟨z,H3,I3,rz,ov,g,q3⟩=>Wz ?_))))
 exact PM hu I3 g ry rz λw' s4 I4 YE=>⟨_,H3,I4,YE,q3⟩
end
end L2
namespace Rev
open PySem PyProof.Rows PySem.Calls
theorem JM:typeLookup (.type "list_reverseiterator") "__len__" =pure none:=by rw[Ta,y6];rfl'
theorem G3:typeLookup (.type "list_reverseiterator") "__length_hint__" =pure (some (.builtin "list_reverseiterator.__length_hint__")):=by rw[Ta,y6];rfl'
section
variable{prog:ι}{w:ν}{A:ξ}{E:ζ->η->Prop}{s:η}{r l:θ}{items:Array ζ}
theorem hint{Q:Bool->η->Prop}(hT:s.TypeIs (.ref r) "list_reverseiterator")(h:Q false s):wpAny .(2) A (Builtin.List.listLengthHint (.ref r)) Q E s:=by
 unfold Builtin.List.listLengthHint;refine ae (Wh hT JM ?_);refine va (λYH=>absurd YH .(0)) (λ_=>?_);refine va (λYH=>absurd YH .(0)) (λ_=>?_);refine ae (Wh hT G3 ?_);generalize ZP:("list_reverseiterator.__length_hint__":String)=id0
 wp_delta
 rw[show splitId id0=some ("list_reverseiterator", "__length_hint__") from by subst ZP;decide+kernel]
 subst ZP;refine ae (V4 (T:="list_reverseiterator") (b:=true) hT (by rw[Wt];rfl') ?_);refine va (λYH=>absurd YH .(0)) (λ_=>?_);refine va (λ_=>?_) (λYH=>absurd (by decide+kernel) YH);refine va (λYH=>absurd YH (by decide+kernel)) (λ_=>?_);exact bj h
theorem extend{R:Result->η->Prop}(hh:A.handled=none)(hit:s.heap.IsRevIter r l ((items.size:Int)-1))(hl:s.heap.IsList l items)(Yj:l≠r)(S:θ)(hSr:S≠r)(hSl:S≠l)(res:ζ)(i4:Nat)
  (hS:s.heap.get? S=some {cls:=.type "list",data:=.seq #[] i4 })
  (hR:∀h' tk XR c',(∀b o,b≠S->b≠r->s.heap.get? b=some o->h'.get? b=some o)->h'.get? S=some {cls:=.type "list",dict:=none,data:=.seq XR c',slots:=#[] }->ItemsOf (λi v=>items[items.size-1-i]?=some v) XR items.size->R (.ok (.ret res)) {s with heap:=h',toks:=tk})
  (hn:items.size<=sizeLine):
  wpAny .(2) A.in1 (Builtin.List.listExtendWith (.ref S) (.ref r) res)
   (λfin s'=>match fin with |.done f=>R (.ok f) s' |.again c'=>c'.quiet=true/\codeAny .(2) A c' R s') (λe s'=>R (.error e) s') s:=by
 have ZE:S∉[r,l]:=by simp only[mem_cons,not_mem_nil,or_false,not_or];exact⟨hSr,hSl⟩
 have W:=Walks.listRev (prog:=prog) (w:=w) (A:=A.in1) hh r l Yj items;have st:(0<=items.size/\s.heap.IsRevIter r l ((items.size:Int)-1-((0:Nat):Int))/\s.heap.IsList l items):=⟨mi _,by simpa using hit,hl⟩;have key:∀(h:ε) (h7 tk:Nat),(0<=items.size/\h.IsRevIter r l ((items.size:Int)-1-((0:Nat):Int))/\h.IsList l items)->(∀b o,b≠S->b≠r->s.heap.get? b=some o->h.get? b=some o)->
   h.get? S=some {cls:=.type "list",data:=.seq #[] h7 }->codeAny .(2) A (.builtin "list.extend.loop" ⟨[.ref S,.ref r,res],[]⟩) R {s with heap:=h,toks:=tk}:=by
  intro h h7 tk Ya hk d0;refine codeAny_extend_loopS W.toS hn S ZE res items.size 0 _ #[] h7 rfl (mi _) Ya d0 (ItemsOf.nil _) λs' XR c' hm YJ XW=>?_;rw[Moved.eq_with hm];refine hR s'.heap s'.toks XR c' (λb o hb ZQ e=>hm.heap b o (λhmem=>?_) (hk b o hb ZQ e)) YJ XW
  rcases gL.mp hmem with e'|hmem
  .exact hb e'
  .exact ZQ (bc.mp hmem)
 unfold Builtin.List.listExtendWith;refine ae (Wn (T:="list_reverseiterator") hit.typeIs ?_);have h1:Builtin.List.listSameRef (.ref S) (.ref r)=false:=by simp[Builtin.List.listSameRef,hSr]
 have h2:(Value.type "list_reverseiterator" ==Value.type "list")=false:=by decide
 have h3:(Value.type "list_reverseiterator" ==Value.type "tuple")=false:=by decide
 simp only[h1,h2,h3,Bool.or_false,false_eq_true,if_false];refine ae (wpAny_pyIter_revIter hit ?_);refine ae (me (hint hit.typeIs ?_));refine va (λ_=>?_) (λ_=>bj ⟨sk y7 _,key _ i4 _ st (λb o _ _ e=>e) hS⟩);refine ae (FC ?_);refine ae ?_;show wpAny _ _ (updateSeq S (·.push .none)>>=λ_=>updateSeq S (·.pop)) _ _ _;refine ae (xk hS rfl ?_);have h8:=ik (Obj.mapSeq (·.push Value.none)) hS rfl;refine xk (hz:=by seq_fits) h8 rfl ?_;have j2:=ik (Obj.mapSeq (·.pop)) h8 rfl;refine bj ⟨sk y7 _,key _ _ _ ?_ (λb o hb _ e=>?_) j2⟩
 .refine W.frame 0 _ _ st λb hb o e=>?_;have Y4:b≠S:=λh=>ZE (h▸hb);exact(fI _ _ (du Y4)).trans ((fI _ _ (du Y4)).trans e)
 .exact(fI _ _ (du hb)).trans ((fI _ _ (du hb)).trans e)
theorem init{R:Result->η->Prop}(hh:A.handled=none)(hit:s.heap.IsRevIter r l ((items.size:Int)-1))(hl:s.heap.IsList l items)(Yj:l≠r)(S:θ)(hSr:S≠r)(hSl:S≠l)(hS:s.heap.get? S=some {cls:=.type "list",data:=.seq #[] })
  (hR:∀h' tk XR c',(∀b o,b≠S->b≠r->s.heap.get? b=some o->h'.get? b=some o)->h'.get? S=some {cls:=.type "list",dict:=none,data:=.seq XR c',slots:=#[] }->ItemsOf (λi v=>items[items.size-1-i]?=some v) XR items.size->R (.ok (.ret .none)) {s with heap:=h',toks:=tk})
  (hn:items.size<=sizeLine):
  wpAny .(2) A.in1 (Builtin.«list.__init__» ⟨[.ref S,.ref r],[]⟩)
   (λfin s'=>match fin with |.done f=>R (.ok f) s' |.again c'=>c'.quiet=true/\codeAny .(2) A c' R s') (λe s'=>R (.error e) s') s:=by
 show wpAny _ _ (do let old <-Builtin.List.listItems (.ref S);Builtin.List.listUpdate (.ref S) (λ_=>#[]);letGo old.toList.reverse;Builtin.List.listExtendWith (.ref S) (.ref r) .none) _ _ s;refine ae ?_;unfold Builtin.List.listItems;refine ae (VR hS rfl (bj ?_));show wpAny _ _ (updateSeq S (λ_=>#[])>>=λ_=>letGo (#[]:Array ζ).toList.reverse>>=λ_=>Builtin.List.listExtendWith (.ref S) (.ref r) .none) _ _ s;refine ae (xk hS rfl ?_);have h8:=ik (Obj.mapSeq (λ_=>(#[]:Array ζ))) hS rfl;have oth:∀b o,b≠S->s.heap.get? b=some o->(s.heap.update S (Obj.mapSeq (λ_=>(#[]:Array ζ)))).get? b=some o:=
  λb o hb e=>(fI _ _ (du hb)).trans e
 refine ae (WE ?_);refine extend hh (hit.at λo e=>oth r o hSr.symm e) (hl.at λo e=>oth l o hSl.symm e) Yj S hSr hSl .none _ h8 (λh' tk XR c' hk YJ XW=>?_) hn;exact hR h' tk XR c' (λb o hb ZQ e=>hk b o hb ZQ (oth b o hb e)) YJ XW
theorem G4{Q:ζ->η->Prop}(hh:A.handled=none)(hit:s.heap.IsRevIter r l ((items.size:Int)-1))(hl:s.heap.IsList l items)(Yj:l≠r)(hn:items.size<=sizeLine)
  (hQ:∀h' tk XR c',(∀b o,b≠r->s.heap.get? b=some o->h'.get? b=some o)->h'.get? s.heap.objs.size=some {cls:=.type "list",dict:=none,data:=.seq XR c',slots:=#[] }->ItemsOf (λi v=>items[items.size-1-i]?=some v) XR items.size->Q (.ref s.heap.objs.size) {s with heap:=h',toks:=tk}):
  wpAny .(2) A (call (.type "list") [.ref r]) Q E s:=by
 refine callType_codes (Q₁:=λobj s₁=>obj=.ref s.heap.objs.size/\s₁={s with heap:=s.heap.push {cls:=.type "list",data:=.seq #[] } }) PySem.F.called_list (PySem.F.typeCall_list_1 _) PySem.F.entry_list_init
  (code_list_new _ ⟨rfl,rfl⟩) λobj s₁ h₁=>?_
 obtain⟨rfl,rfl⟩:=h₁;have hS:(s.heap.push {cls:=.type "list",data:=.seq #[] }).get? s.heap.objs.size=some {cls:=.type "list",data:=.seq #[] }:=cx _ rfl;have h1:r<s.heap.objs.size:=let ⟨_,e,_⟩:=hit;dq e;have h2:l<s.heap.objs.size:=let ⟨_,e,_⟩:=hl;dq e;refine⟨⟨_,hS,rfl⟩,PySem.F.args_list_init_2 _ _,init (A:=A.in1) hh (hit.at λo e=>ba _ e) (hl.at λo e=>ba _ e) Yj _ (VM h1) (VM h2) hS (λh' tk XR c' hk YJ XW=>?_) hn⟩;exact⟨rfl,hQ h' tk XR c' (λb o hb e=>hk b o (iq (dq e)) hb (ba _ e)) YJ XW⟩
theorem Nc{K:Type}[DecidableEq K]{knd:PySem.KeyKind prog w K}{d:θ}{kvs:VI (K×ζ)}{ep:Nat}{Q:ζ->η->Prop}(hh:A.handled=none)(lo:(d==sysModules)=false)(hd:s.heap.DictAt knd d kvs ep)(Yt:kvs.length<64)
  {ss:VI Str} (hs:∀us:VI ζ,us.length=kvs.length->(∀(j:Nat) (v:ζ),us[j]?=some v->∃(k:K) (x:ζ),kvs[j]?=some (k,x)/\knd.is k v=true)->StrsAre us ss)
  (hQ:∀(h1 h':ε) (tk:Nat) (e:Nat) (out:Array ζ) (Yf:VI Str),(∀b o,s.heap.get? b=some o->h1.get? b=some o)->(∀b o,h1.get? b=some o->h'.get? b=some o)->
   h'.get? h1.objs.size=some (seqObj "list" out e)->StrsAre out.toList Yf->Yf.Perm ss->sortedS Yf=true->Q (.ref h1.objs.size) {s with heap:=h',toks:=tk}):
  wpAny .(2) A (call (.builtin "sorted") [.ref d]) Q E s:=by
 have hn:kvs.length<=sizeLine:=by rw[dE];lia
 refine call_function_entry kind_sorted plain_sorted entry_sorted (args_sorted1 _) ?_;unfold Builtin.«sorted»;refine ae (m:=checkCount "sorted" 1 1 _) (bj ?_);refine ae (W.kdu_collect (A:=A.in1) (W.kdl_dict (knd:=knd) (kvs:=kvs) (ep:=ep) lo) hh hd hn λh1 tk acc hk XW=>?_);have hl:acc.toList.length=kvs.length:=by rw[gN];exact XW.1
 have hS:=hs acc.toList hl λj v e=>XW.2 j v (by rw[<-vk];exact e);refine ae (WS ?_ (by rw[hl];exact hn));have ho:(h1.push {cls:=.type "list",data:=.seq acc.toList.toArray}).get? h1.objs.size=some (seqObj "list" acc.toList.toArray 0):=cx _ rfl;refine ae (me (tI slot_list_sort ⟨_,ho,rfl⟩ entry_list_sort (list_sort_treeK strKind_oneLt ho hS.keysOf (λv₁ v₂ rest e=>keyKind_strs (by rw[<-e];exact hS)) (by rw[hl];exact Yt) λX8 a1 a2=>⟨_,rfl,?_⟩) (args_list_sort _)));obtain⟨Yf,q1,q2,q3⟩:=sorted_out_str hS a1 a2;obtain⟨e,he⟩:=sortedHeap_at (out:=(arrOf X8).map (·.2)) ho;refine bj ⟨_,rfl,hQ h1 _ tk e _ Yf hk (λb o hb=>?_) he q1 q2 q3⟩;have XZ:=dq hb;rw[sortedHeap_old (iq XZ) (by rw[size_push'];exact Hm XZ)];exact ba _ hb
end
end Rev
namespace SetTx
open PySem
theorem CP(t:SetTable)(es:Array (Int×ζ))(h:Int)(x:ζ):(layNew t es h x).2.1.led=t.led/\(t.plain=false->(layNew t es h x).2.1.plain=false):=by
 unfold layNew;split
 .dsimp only;unfold SetTable.orStandIn;split
  .exact⟨rfl,id⟩
  .exact⟨rfl,λ_=>rfl⟩
 .exact⟨rfl,λ_=>rfl⟩
theorem CQ{t t':SetTable}{hs:Array Int}{w:Nat}{o:Array Nat}(h:t.relaid hs w=some (t',o)):t'.led=t.led/\t'.plain=t.plain:=by
 unfold SetTable.relaid SetTable.laid at h;simp only[bind,Option.bind,pure] at h;split at h
 .cases h
 .cases h;exact⟨rfl,rfl⟩
theorem yP(t:SetTable)(es:Array (Int×ζ))(w:Nat):(relayAll t es w).2.1.led=t.led/\(t.plain=false->(relayAll t es w).2.1.plain=false):=by
 unfold relayAll;split
 .next t' o h=>
  have:=CQ h;dsimp only;split
  .exact⟨this.1,λz=>this.2.trans z⟩
  .exact⟨rfl,λ_=>rfl⟩
 .exact⟨rfl,λ_=>rfl⟩
section
variable{prog:ι}{w:ν}{A:ξ}{E:ζ->η->Prop}{s:η}
theorem JN{a:θ}{o:Obj}{es:Array (Int×ζ)}{ep:Nat}{t:SetTable}{k:Str}{tok:Tok}{Q:Bool->η->Prop}(ho:s.heap.get? a=some o)(hd:o.data=.set es ep t)(Y5:ElemsOf (strKind prog w) es.toList)(hb:es.size+1<scanBound)(hf:t.fits es.size=true)
  (h1:(∃e∈es.toList,(strKind prog w).is k e.2=true)->Q false s)
  (h2:(∀e∈es.toList,(strKind prog w).is k e.2=false)->∀(h':ε) (YS:Array (Int×ζ)) (ZZ:Nat) (t':SetTable),Heap.SameBut a s.heap h'->h'.get? a=some {o with data:=.set YS ZZ t' }->YS.toList.Perm (es.toList++[((strKind prog w).hash k,.str k tok)])->t'.fits YS.size=true->t'.led=t.led->t'.plain=false->Q true {s with heap:=h' }):
  wpAny .(2) A (setAddHashed a (.str k tok) ((strKind prog w).hash k)) Q E s:=by
 have hkey:(strKind prog w).is k (.str k tok)=true:=strKind_is _ _ _ _;have hsc:(Value.str k tok).scannable=true:=rfl;have hb0:es.size<scanBound:=by lia
 have hgw:∀(b:Bool) (s₁:η) (Q':Unit->η->Prop),Q' () s₁->wpAny .(2) A (match b with|true=>rule "set.scan.the-table-gave-way" |false=>pure ()) Q' E s₁:=
  λb s₁ Q' hq=>by cases b<;>first|exact bj hq|exact FC hq
 unfold setAddHashed setAddHashedIn;refine me (ae (ui ho hd hf ?_));dsimp only;rw[byScan_of hsc hb0 Y5];simp only[↓reduceIte];unfold setAddByScan;refine ae (ae (FC (ae (wpAny_setScan_of hkey ho hd hf Y5 ?_))));cases hr:List.findIdx? (λe=>(strKind prog w).is k e.2) es.toList with
 |some j=>
  obtain⟨hj,hpj,_⟩:=List.findIdx?_eq_some_iff_getElem.mp hr;exact bj (bj (h1 ⟨_,Wb hj,hpj⟩))
 |none=>
  have RH:∀e∈es.toList,(strKind prog w).is k e.2=false:=λe he=>by simpa using List.findIdx?_eq_none_iff.mp hr e he
  have h2:=h2 RH;have p1:=layNew_perm t es ((strKind prog w).hash k) (.str k tok);have f1:=layNew_fits t es ((strKind prog w).hash k) (.str k tok);obtain⟨l1,n1⟩:=CP t es ((strKind prog w).hash k) (.str k tok);generalize layNew t es ((strKind prog w).hash k) (.str k tok)=N at p1 f1 l1 n1 ⊢;obtain⟨Yl,t1,was,Vr⟩:=N;dsimp only at p1 f1 l1 n1 ⊢;rw[Array.toList_push] at p1;have sz1:Yl.size=es.size+1:=by rw[<-gN,p1.length_eq,de,gN];rfl
  have hz1:Yl.size<scanBound:=by lia
  have RI:∀(h:ε) (o:Obj) (es ep t YS t'),h.get? a=some o->o.data=.set es ep t->(h.update a (Obj.putSet YS t')).get? a=some {o with data:=.set YS (ep+1) t' }:=λh o es ep t YS t' ho hd=>by
   have:=ik (Obj.putSet YS t') ho (by rw[putSet_of YS t' hd];rfl);rw[putSet_of YS t' hd] at this;exact this
  have tail:∀(t2:SetTable) (g:Bool->Sem Unit),(∀(b:Bool) (s₁:η) (Q':Unit->η->Prop),Q' () s₁->wpAny .(2) A (g b) Q' E s₁)->t2.fits Yl.size=true->t2.led=t.led->t2.plain=false->∀R:ο Bool->η->Prop,(∀h',Q true {s with heap:=h' }->R (some true) {s with heap:=h' })->
    wpAny .(2) A (do
     storeSet a Yl t2
     if (!was&&t2.tooFull)=true then do
       g (relayAll t2 Yl (SetTable.grown Yl.size)).2.2
       storeSet a (relayAll t2 Yl (SetTable.grown Yl.size)).1 (relayAll t2 Yl (SetTable.grown Yl.size)).2.1
       pure (some true)
      else pure (some true)) R E s:=λt2 g hg f2 l2 n2 R hR=>by
   refine ae (wpAny_storeSet_of ho hd ?_ (VS hz1));have Zu:=RI s.heap o es ep t Yl t2 ho hd;have sb1:=mf s.heap a (Obj.putSet Yl t2);split
   .have p2:=relayAll_perm t2 Yl (SetTable.grown Yl.size);have f3:=relayAll_fits t2 Yl (SetTable.grown Yl.size);obtain⟨l3,n3⟩:=yP t2 Yl (SetTable.grown Yl.size);generalize relayAll t2 Yl (SetTable.grown Yl.size)=Rl at p2 f3 l3 n3 ⊢;obtain⟨es2,t3,Vk⟩:=Rl;dsimp only at p2 f3 l3 n3 ⊢;have sz2:es2.size=Yl.size:=by rw[<-gN,p2.length_eq,gN]
    refine ae (hg _ _ _ (ae (wpAny_storeSet_of Zu rfl ?_ (VS ⋯))));have g2:=RI (s.heap.update a (Obj.putSet Yl t2)) {o with data:=.set Yl (ep+1) t2} Yl (ep+1) t2 es2 t3 Zu rfl
    exact bj (hR _ (h2 _ es2 _ t3 (sb1.trans (mf _ a _)) g2 (p2.trans p1) f3 (l3.trans l2) (n3 n2)))
   .exact bj (hR _ (h2 _ Yl _ t2 sb1 Zu p1 f2 l2 n2))
  refine ae (hgw _ _ _ ?_);split
  .refine ae ?_;rw[hashByValue_scannable 8 hsc];refine bj ?_;rw[cq (show ¬plainKind (.str k tok)=true from fb)];refine tail {t1 with plain:=false} _ ?_ (SetTable.fits_plain_off f1) l1 rfl _ ?_
   .intro b s₁ Q' hq;cases b<;>first|exact bj hq|exact FC hq
   .intro h' hq;dsimp only;exact bj hq
  .next hp=>
   refine ae (bj ?_);simp only[↓reduceIte];refine tail t1 _ ?_ f1 l1 (by simpa using hp) _ ?_
   .intro b s₁ Q' hq;cases b<;>first|exact bj hq|exact FC hq
   .intro h' hq;dsimp only;exact bj hq
end
end SetTx
namespace SetTx
open PySem PyProof.Rows
def keyOf:ζ->Str
 |.str s _=>s
 |_=>""
def iG(val:Nat->Str):Nat->VI Str
 | 0=>[]
 |i+1=>if val i∈iG val i then iG val i else iG val i++[val i]
theorem vq(val:Nat->Str):∀i,(iG val i).length<=i
 | 0=>bb _
 |i+1=>by
  have:=vq val i;unfold iG;split
  .omega
  .rw[de];simp;lia
theorem Bc(val:Nat->Str):∀(i:Nat) (x:Str),x∈iG val i↔∃j,j<i/\val j=x
 | 0,x=>by simp[iG]
 |i+1,x=>by
  have ih:=Bc val i;unfold iG;split
  .next h=>
   rw[ih];constructor
   .rintro⟨j,hj,e⟩;exact⟨j,by lia,e⟩
   .rintro⟨j,hj,e⟩
    by_cases z:j=i
    .subst z;rw[<-e];exact(ih _).mp h
    .exact⟨j,by lia,e⟩
  .rw[eP,ih,bc];constructor
   .rintro(⟨j,hj,e⟩|rfl)
    .exact⟨j,by lia,e⟩
    .exact⟨i,by lia,rfl⟩
   .rintro⟨j,hj,e⟩
    by_cases z:j=i
    .subst z;exact .inr e.symm
    .exact .inl ⟨j,by lia,e⟩
theorem vt(val:Nat->Str):∀i,(iG val i).Nodup
 | 0=>TC
 |i+1=>by
  have ih:=vt val i;unfold iG;split
  .exact ih
  .next h=>
   rw[uj];refine⟨ih,by simp,λa ha b hb e=>?_⟩;rw[bc.mp hb] at e;exact h (e▸ha)
def qT(prog:ι)(w:ν)(h:ε)(a:θ)(ss:VI Str)(ld:Bool):Prop:=∃o es ep t,h.get? a=some o/\o.ExactSet/\o.data=.set es ep t/\ElemsOf (strKind prog w) es.toList/\(es.toList.map λe=>keyOf e.2).Perm ss/\t.fits es.size=true/\t.led=ld/\(es.size≠0->t.plain=false)
theorem key_is{prog:ι}{w:ν}{k:Str}{v:ζ}(h:(strKind prog w).is k v=true):keyOf v=k:=by
 obtain⟨t,rfl⟩:=Wj h;rfl
section
variable{prog:ι}{w:ν}{A:ξ}{R:Result->η->Prop}{I:θ}{fp wr:VI θ}{G:Array GenState->Array GenState->Prop}{n:Nat}{P:Nat->ζ->Prop}{St:Nat->η->Prop}
theorem qT.keep{h h':ε}{a:θ}{ss:VI Str}{ld:Bool}(x:qT prog w h a ss ld)(k:∀o,h.get? a=some o->h'.get? a=some o):qT prog w h' a ss ld:=by
 obtain⟨o,es,ep,t,ho,rest⟩:=x;exact⟨o,es,ep,t,k o ho,rest⟩
theorem RJ(W:WalksS prog w A.in1 I fp wr G n P St)(S:θ)(ZE:S∉fp)(val:Nat->Str)(YK:∀i v,P i v->∃t,v=.str (val i) t)(hb:n+1<scanBound)(ld:Bool):
  ∀(k i:Nat) (s:η),n-i=k->i<=n->St i s->qT prog w s.heap S (iG val i) ld->
   (∀s',Moved (S::wr) G s s'->qT prog w s'.heap S (iG val n) ld->R (.ok (.ret .none)) s')->
   codeAny .(2) A (.builtin "set.update.loop" ⟨[.ref S,.ref I],[]⟩) R s:=by
 have hSw:S∉wr:=λh=>ZE (W.sub _ h);have ZR:∀b∈wr,b∈S::wr:=λb hb=>dA _ hb;intro k
 induction k with
 |zero=>
  intro i s hk hi Ya hS hR;have hin:i=n:=by lia
  subst hin;refine so F.entry_set_update_loop ?_;rw[mr TK _];show wpAny _ A.in1 (pyNext (.ref I)>>=_) _ _ s;refine ae (W.done s _ _ Ya λs' hm=>?_);show wpAny _ A.in1 (ret Value.none) _ _ s';exact bj (hR s' (hm.mono ZR) (hS.keep λo e=>hm.heap S o hSw e))
 |succ k ih=>
  intro i s hk hi Ya hS hR;have XZ:i<n:=by lia
  refine so F.entry_set_update_loop ?_;rw[mr TK _];show wpAny _ A.in1 (pyNext (.ref I)>>=_) _ _ s;refine ae (W.item i s _ _ XZ Ya λv s' hP UA hm=>?_);obtain⟨t,rfl⟩:=YK i v hP;obtain⟨o,es,ep,tb,ho,hex,hd,Y5,hp,hf,hl,X1⟩:=hS.keep (h':=s'.heap) λo e=>hm.heap S o hSw e;have esz:es.size=(iG val i).length:=by rw[<-hp.length_eq,aw,gN]
  have dl:=vq val i;show wpAny _ A.in1 (holding [Value.str (val i) t] (setAdd S (.str (val i) t))>>=_) _ _ s';refine ae (me ?_);unfold setAdd;refine me ?_;refine ae ((strKind prog w).pyHash (k:=val i) (strKind_is _ _ _ _) ?_);have iff:val i∈iG val i↔∃e∈es.toList,(strKind prog w).is (val i) e.2=true:=by
   rw[<-hp.mem_iff,km];constructor
   .rintro⟨e,he,ek⟩;obtain⟨⟨k',Ys,_⟩,_⟩:=Y5 e he;rw[<-key_is Ys,ek] at Ys;exact⟨e,he,Ys⟩
   .rintro⟨e,he,ek⟩;exact⟨e,he,key_is ek⟩
  have fin:∀(h':ε) (b:Bool),Heap.SameBut S s'.heap h'->qT prog w h' S (iG val (i+1)) ld->wpAny .(2) A.in1 (again (Code.builtin "set.update.loop" ⟨[Value.ref S,Value.ref I],[]⟩))
    (λfin s'=>match fin with |.done f=>R (.ok f) s' |.again c'=>c'.quiet=true/\codeAny .(2) A c' R s') (λe s'=>R (.error e) s') {s' with heap:=h',toks:=s'.toks+1}:=λh' _ hsb hS2=>by
   refine bj ⟨sk TK _,ih (i+1) _ ⋯ XZ (W.frame _ s' _ _ UA (xc _) λb hb o e=>?_) hS2 λs'' UB UC=>?_⟩
   .rw[hsb.2 b (λh:b=S=>ZE (by rw[<-h];exact hb))];exact e
   .refine hR s'' (Moved.trans W.gtrans ((hm.mono ZR).then_heap (xc _) λb o hb e=>?_) UB) UC;rw[hsb.2 b (λh:b=S=>hb (by rw[h];exact bp))];exact e
  refine JN (s:={s' with toks:=s'.toks+1}) ho hd Y5 ⋯ hf (λhx=>?_) (λhx h' YS ZZ t' hsb hg Yq hf' Za UD=>?_)
  .refine fin s'.heap false (WA S s'.heap) ?_;rw[show iG val (i+1)=iG val i by rw[iG,df (iff.mpr hx)]]
   exact⟨o,es,ep,tb,ho,hex,hd,Y5,hp,hf,hl,X1⟩
  .refine fin h' true hsb ?_;have hn:val i∉iG val i:=λz=>by
    obtain⟨e,he,ek⟩:=iff.mp z;rw[hx e he] at ek;cases ek
   rw[show iG val (i+1)=iG val i++[val i] by rw[iG,cq hn]]
   refine⟨_,YS,ZZ,t',hg,hex,rfl,(Y5.push (strKind_is _ _ _ _) rfl).perm Yq,?_,hf',Za.trans hl,λ_=>UD⟩;refine(Yq.map _).trans ?_;rw[fi];exact hp.append (VT _)
end
end SetTx
namespace SetTx
open PySem PyProof.Rows
section
variable{prog:ι}{w:ν}{A:ξ}{E:ζ->η->Prop}{s:η}
def dG(w:ν):Bool:=w.params.followText "set-order"
def gb(w:ν):Obj:={cls:=.type "set",dict:=none,data:=.set #[] 0 (.fresh 0 0 (!dG w))}
theorem Nd(a:ζ){Q₁:ζ->η->Prop}(h:Q₁ (.ref s.heap.objs.size) {s with heap:=s.heap.push (gb w)}):
  codeAny .(2) A (.call (.builtin "set.__new__") ⟨[.type "set",a],[]⟩) (wants Q₁ E) s:=by
 refine codeAny_of_tree ?_;show wpAny _ A.in1 (do checkBuiltinCall "set.__new__" ⟨[.type "set",a],[]⟩;again (.builtin "set.__new__" ⟨[.type "set",a],[]⟩)) _ _ s;refine ae (Xw (PySem.F.newCall_set_1 a) (bj ⟨sk PySem.F.plain_set_new _,so PySem.F.entry_set_new ?_⟩));rw[mr PySem.F.plain_set_new _];unfold Builtin.«set.__new__» Builtin.Frozenset.newClass;have ZR:=sub_set_self;obtain⟨hp,g,d,tk,os⟩:=s;dsimp only
 wp_walk
 refine Fk (bj ?_);dsimp only;simp only[newObj];refine ae (wpAny_alloc (bj ?_));exact bj h
theorem UE(h:ε):qT prog w (h.push (gb w)) h.objs.size [] (!dG w):=
 ⟨gb w,#[],0,_,cx _ rfl,⟨rfl,rfl,rfl⟩,rfl,λe he=>by simp at he,List.Perm.nil,rfl,rfl,λz=>absurd rfl z⟩
theorem vv{l:θ}{items:Array ζ}{val:Nat->Str}{Q:ζ->η->Prop}(hh:A.handled=none)(hl:s.heap.IsList l items)(hi:∀(i:Nat) (v:ζ),items[i]?=some v->∃t,v=.str (val i) t)(hb:items.size+1<scanBound)
  (h:∀(h':ε) (tk:Nat),qT prog w h' s.heap.objs.size (iG val items.size) (!dG w)->(∀b o,b<s.heap.objs.size->s.heap.get? b=some o->h'.get? b=some o)->Q (.ref s.heap.objs.size) {s with heap:=h',toks:=tk}):
  wpAny .(2) A (call (.type "set") [.ref l]) Q E s:=by
 obtain⟨c,tl,Vs⟩:=tm.mro;have hmade:=tm.made;have ZR:=tm.sub;refine wpAny_call (codeAny_of_tree ?_);show wpAny _ _ (callAny (.type "set") _) _ _ _;refine bj ⟨Code.quiet_builtin _ (by decide+kernel),so PySem.F.entry_type_call ?_⟩;rw[Around.under_plain (weight_type_call_type "set" [.ref l] []) rfl];have h1:=tm.notType;have h2:=tm.canCreate;have hct:=PySem.F.typeCall_set_1 (.ref l)
 repeat (any_goals (first|assumption|wp_step))
 refine Pl (Nd (.ref l) (E:=E) (Q₁:=λobj s₁=>obj=.ref s.heap.objs.size/\s₁={s with heap:=s.heap.push (gb w)}) ⟨rfl,rfl⟩) λr s₁ hr=>?_;cases r with
 |error e=>exact hr
 |ok fl=>
  cases fl with
  |ret obj=>
   obtain⟨rfl,rfl⟩:=hr;have hS:(s.heap.push (gb w)).get? s.heap.objs.size=some (gb w):=cx _ rfl;have hT:Shared.TypeIs {s with heap:=s.heap.push (gb w)} (.ref s.heap.objs.size) "set":=⟨_,hS,rfl⟩
   have hli:=tm.init.lookup;have hbi:=tm.init.bind (.ref s.heap.objs.size)
   repeat (any_goals (first|assumption|wp_step))
   refine Pl (codeAny_call_builtin (R:=wants (λr c4=>r=.none/\∃h' tk,c4={s with heap:=h',toks:=tk}/\qT prog w h' s.heap.objs.size (iG val items.size) (!dG w)/\∀b o,b<s.heap.objs.size->s.heap.get? b=some o->h'.get? b=some o) E) tm.init.plain PySem.F.entry_set_init (check_set_init_1 hT ?_)) λr₂ c4 x0=>?_
   .obtain⟨ol,hol,hcl,nl,hdl⟩:=hl;have hlS:l<s.heap.objs.size:=dq hol;obtain⟨Vt,RK,Vl,PN⟩:=ol;simp only at hcl hdl;subst hcl;subst hdl;have UG:(s.heap.push (gb w)).get? l=some {cls:=.type "list",dict:=RK,data:=.seq items nl,slots:=PN}:=ba _ hol;have Vu:=PySem.F.sub_list_set;have Vv:=PySem.F.sub_list_frozenset;have Yj:(Value.type "list" ==Value.type "dict")=false:=by decide
    have Zi:(s.heap.push (gb w)).IsList l items:=⟨_,UG,rfl,nl,rfl⟩;unfold Builtin.«set.__init__» noKeywords Builtin.Frozenset.updateFrom;generalize hPI:pyIter=PI
    wp_walk
    subst hPI;refine Kb Zi ?_;refine ae (wpAny_runValue ?_);have hh3:A.in1.in1.in1.handled=none:=by simp[hh]
    have UH:l≠(s.heap.push (gb w)).objs.size:=by
     rw[oo];exact iq (Hm hlS)
    have ZE:s.heap.objs.size∉[(s.heap.push (gb w)).objs.size,l]:=by
     rw[oo];simp only[mem_cons,not_mem_nil,or_false,not_or];exact⟨iq (vT _),VM hlS⟩
    refine RJ ((Walks.list hh3 _ l UH items).toS) s.heap.objs.size ZE val hi hb (!dG w) (items.size-0) 0 _ ⋯ (mi _) ⟨⟨_,cx _ rfl,rfl,rfl⟩,(Zi.push _)⟩ ((UE s.heap).keep λo e=>ba _ e) λs' hm YJ=>?_;obtain⟨h',g',d',Yg,os'⟩:=s';have eg:g'=s.gens:=hm.gens;have ed:d'=s.drawn:=hm.drawn;have eo:os'=s.os:=hm.os;subst eg;subst ed;subst eo;show wpAny _ _ _ _ _ _;refine bj ?_;show wpAny _ _ (ret Value.none) _ _ _;refine bj ⟨rfl,h',Yg,rfl,YJ,λb o hb e=>?_⟩;have hb1:b≠s.heap.objs.size:=iq hb;have ZQ:b≠(s.heap.push (gb w)).objs.size:=by
     rw[oo];exact iq (Hm hb)
    exact hm.heap b o (by simp only[mem_cons,not_mem_nil,or_false,not_or];exact⟨hb1,ZQ⟩) (ba _ (ba _ e))
   .cases r₂ with
    |error e=>exact x0
    |ok fl₂=>
     cases fl₂ with
     |ret r=>
      obtain⟨rfl,h',tk,rfl,YJ,Ys⟩:=x0
      repeat (any_goals (first|assumption|wp_step))
      exact h _ _ YJ Ys
     |_=>exact x0.elim
  |_=>exact hr.elim
end
end SetTx
namespace SetTx
open PySem PyProof.Rows
section
variable{prog:ι}{w:ν}{A:ξ}{E:ζ->η->Prop}
theorem get_erase{α:Type}:∀(l:VI α) (i:Nat) (h:i<l.length),(l[i]::l.eraseIdx i).Perm l
 |x::l,0,_=>VT _
 |x::l,i+1,h=>(List.Perm.swap x (l[i]'(Xq h)) (l.eraseIdx i)).trans ((get_erase l i (Xq h)).cons x)
theorem PR{M:Model}{src:Source}{n:Nat}{s:η}{Q:Nat->η->Prop}(hn:n≠0)(h:∀i d',i<n->Q i {s with drawn:=d' }):wpAny M A (choose src n) Q E s:=λ_ _ _=>⟨hn,h _ _ (WR _ (Nat.pos_of_ne_zero hn))⟩
theorem G5{α:Type}(n:Nat):∀(xs:VI α) (s:η) (Q:VI α->η->Prop),xs.length=n->(∀ys d',ys.Perm xs->Q ys {s with drawn:=d' })->wpAny .(2) A (drawOrder n xs) Q E s:=by
 induction n with
 |zero=>
  intro xs s Q hl h;obtain rfl:=sg.mp hl;exact bj (h [] s.drawn (VT _))
 |succ n ih=>
  intro xs s Q hl h;cases xs with
  |nil=>cases hl
  |cons x xs=>
   unfold drawOrder;refine ae ?_;refine PR .(4) λi d' hi=>?_;rw[dk hi];dsimp only;refine ae (ih _ _ _ (by rw[List.length_eraseIdx,df hi,hl];rfl) λys d'' hp=>bj (h _ _ ?_));refine(hp.cons _).trans ?_;exact get_erase _ _ hi
theorem EM{α:Type}(next:Nat->Nat):∀(fuel k:Nat) (left:VI α) (out:Array α),left.length=fuel->(pickOrder.go next fuel k left out).toList.Perm (out.toList++left)
 | 0,k,[],out,_=>by simp[pickOrder.go]
 |fuel+1,k,left,out,hl=>by
  unfold pickOrder.go;have hi:next k%left.length<left.length:=WR _ ⋯
  rw[dk hi];dsimp only;refine(EM next fuel (k+1) _ _ (by rw[List.length_eraseIdx,df hi,hl];rfl)).trans ?_;rw[Array.toList_push,Pt];exact(VT _).append (get_erase left _ hi)
theorem xN{α:Type}(next:Nat->Nat)(xs:Array α):(pickOrder next xs).toList.Perm xs.toList:=by
 unfold pickOrder;refine(EM next xs.size 0 xs.toList #[] (by simp)).trans ?_;simp
end
end SetTx
namespace SetTx
open PySem PyProof.Rows
theorem CS:entryFor table "set.__iter__" =some Builtin.«frozenset.__iter__»:=
 entryFor_alias (id':="frozenset.__iter__") (by rfl') rfl (by decide+kernel) (by rfl')
theorem slot_next:Slot "set_iterator" "__next__" "set_iterator.__next__":=
 .of (owner := "set_iterator") (n := "__next__") (by rw[Ta,y6];rfl') (by decide+kernel) (by decide+kernel) (by decide+kernel)
  (by first|exact .inl (by decide+kernel)|exact .inr (by decide+kernel)) (by rw[Wt];rfl')
theorem entry_next:entryFor table "set_iterator.__next__" =some Builtin.«set_iterator.__next__»:=entryFor_of_tree (by rfl')
section
variable{prog:ι}{w:ν}{A:ξ}{E:ζ->η->Prop}{s:η}
def EO(first:ζ)(i:Nat)(a:θ)(n ep:Nat):Obj:={cls:=.type "set_iterator",data:=.fields #[first,.int i 0,.ref a,.int n 0,.int ep 0] }
theorem JO{a:θ}{o:Obj}{es:Array (Int×ζ)}{ep:Nat}{t:SetTable}{Q:ζ->η->Prop}(ho:s.heap.get? a=some o)(hex:o.ExactSet)(hd:o.data=.set es ep t)(hf:t.fits es.size=true)(hz:es.size<scanBound)
  (h1:(!dG w&&(!t.plain&&decide (es.size>1)))=true->∀(ys:VE) d',ys.Perm (List.range es.size)->Q (.ref (s.heap.objs.size+1)) {s with heap:=(s.heap.push {cls:=.type "tuple",data:=.seq (ys.map λi=>rawInt (i:Nat)).toArray}).push (EO (.ref s.heap.objs.size) 0 a es.size ep),drawn:=d' })
  (h2:(!dG w&&(!t.plain&&decide (es.size>1)))=false->Q (.ref s.heap.objs.size) {s with heap:=s.heap.push (EO (rawInt 0) 0 a es.size ep)}):
  wpAny .(2) A (pyIter (.ref a)) Q E s:=by
 have hT:s.TypeIs (.ref a) "set":=⟨o,ho,hex.1⟩;refine wpAny_pyIter_slot hT PySem.F.slot_set_iter (tI PySem.F.slot_set_iter hT CS ?_ (PySem.F.args_set_iter_1 _));unfold Builtin.«frozenset.__iter__»;refine ae (m:=Builtin.Frozenset.slot0 "__iter__" ⟨[.ref a],[]⟩) (bj ?_);unfold Builtin.Frozenset.sizeOf;refine ae (ae (D2 ho hd hf (bj ?_)));unfold setDrawn setsByText;refine ae (ae (ui ho hd hf (ae (ae (Fk (bj (bj ?_)))))));dsimp only;unfold setEpoch
 change wpAny _ _ (if (!dG w&&(!t.plain&&decide (es.size>1)))=true then _ else _) _ _ _
 by_cases hc:(!dG w&&(!t.plain&&decide (es.size>1)))=true
 .rw[df hc];refine ae (G5 es.size _ _ _ .(4) λys d' hp=>?_);refine ae (wpAny_newTuple ?_ (by rw[aw,hp.length_eq,og];exact VS hz));refine ae (ae (ui (ba _ ho) hd hf (bj ?_)));refine ae (qr (bj ⟨_,rfl,"set_iterator",_,⟨_,cx _ rfl,rfl⟩,slot_next.lookup,?_⟩));have:=h1 hc ys d' hp;rw[oo];exact this
 .rw[cq hc];refine ae (bj ?_);refine ae (ae (ui ho hd hf (bj ?_)));refine ae (qr (bj ⟨_,rfl,"set_iterator",_,⟨_,cx _ rfl,rfl⟩,slot_next.lookup,?_⟩));exact h2 (by simpa using hc)
end
end SetTx
namespace SetTx
open PySem PyProof.Rows
theorem Be:Manifest.owners.lookup (String.ofList ['r','o','t','a','r','e','t','i','_','t','e','s'].reverse)=some Manifest.sig_set_iterator:=by rfl'
theorem args_next(a:ζ):argsOk "set_iterator.__next__" ⟨[a],[]⟩:=by
 unfold argsOk;rw[signature?_of (id:="set_iterator.__next__") (n:=['_','_','t','x','e','n','_','_']) (o:=['r','o','t','a','r','e','t','i','_','t','e','s']) (by rfl') Be];rfl'
section
variable{prog:ι}{w:ν}{A:ξ}{E:ζ->η->Prop}{s:η}
def pQ(h:ε)(it:θ)(first:ζ)(i:Nat)(a:θ)(n ep:Nat):Prop:=∃o,h.get? it=some o/\o.cls=.type "set_iterator"/\o.data=.fields #[first,.int i 0,.ref a,.int n 0,.int ep 0]
theorem CT{it a T:θ}{i:Nat}{o:Obj}{es:Array (Int×ζ)}{ep p:Nat}{t:SetTable}{ps:Array ζ}{x:Int×ζ}{Q:ο ζ->η->Prop}(hit:pQ s.heap it (.ref T) i a es.size ep)(ho:s.heap.get? a=some o)(hd:o.data=.set es ep t)(hf:t.fits es.size=true)
  (hT:s.heap.IsTuple T ps) (hp:ps[i]?=some (rawInt (p:Nat))) (hx:es[p]?=some x)
  (hQ:∀h',pQ h' it (.ref T) (i+1) a es.size ep->Heap.SameBut it s.heap h'->Q (some x.2) {s with heap:=h' }):
  wpAny .(2) A (pyNext (.ref it)) Q E s:=by
 obtain⟨oi,YB,Zv,YN⟩:=id hit;have Y6:s.TypeIs (.ref it) "set_iterator":=⟨oi,YB,Zv⟩;unfold pyNext;refine ae (WT (Fm (name:=Str.ofString "__next__") Y6 slot_next (tI slot_next Y6 entry_next ?_ (args_next _))));unfold Builtin.«set_iterator.__next__»;refine ae (bj ?_);refine ae (Wu YB YN ?_);dsimp only;refine ae (D2 ho hd hf ?_);rw[cq .(4)];obtain⟨oT,hoT,Iv,nT,hdT⟩:=hT;refine ae (m:=seqItems? (.ref T)) ?_;unfold seqItems?;refine ae (Xi hoT ?_);rw[hdT];refine bj ?_;dsimp only;rw[ij,hp];dsimp only[rawInt];unfold setNextDrawn;refine ae (ae (ui ho hd hf ?_));dsimp only;rw[cq .(4),ij,hx];refine bj ?_;refine ae (Nw YB YN .(4) ?_);have CU:pQ (s.heap.update it (Obj.mapFields (·.setIfInBounds 1 (rawInt ((i:Int)+1))))) it (.ref T) (i+1) a es.size ep:=
  ⟨_,ik _ YB (Iy (tq YN _)),(WG ..).trans Zv,by rw[tq YN];simp[rawInt]⟩
 exact bj ⟨_,rfl,bj (hQ _ CU (mf ..))⟩
theorem CV{it a T:θ}{i:Nat}{o:Obj}{es:Array (Int×ζ)}{ep:Nat}{t:SetTable}{ps:Array ζ}{Q:ο ζ->η->Prop}(hh:A.handled=none)(hit:pQ s.heap it (.ref T) i a es.size ep)(ho:s.heap.get? a=some o)(hd:o.data=.set es ep t)(hf:t.fits es.size=true)
  (hT:s.heap.IsTuple T ps) (hp:ps[i]?=none) (hQ:∀h',Heap.ExtBut it s.heap h'->Q none {s with heap:=h' }):wpAny .(2) A (pyNext (.ref it)) Q E s:=by
 obtain⟨oi,YB,Zv,YN⟩:=id hit;have Y6:s.TypeIs (.ref it) "set_iterator":=⟨oi,YB,Zv⟩;unfold pyNext;refine ae (WT (Fm (name:=Str.ofString "__next__") Y6 slot_next (tI slot_next Y6 entry_next ?_ (args_next _))));unfold Builtin.«set_iterator.__next__»;refine ae (bj ?_);refine ae (Wu YB YN ?_);dsimp only;refine ae (D2 ho hd hf ?_);rw[cq .(4)];obtain⟨oT,hoT,Iv,nT,hdT⟩:=hT;refine ae (m:=seqItems? (.ref T)) ?_;unfold seqItems?;refine ae (Xi hoT ?_);rw[hdT];refine bj ?_;dsimp only;rw[ij,hp];dsimp only;refine ae (Nw YB YN .(4) ?_);have Zu:=ik (Obj.mapFields (·.setIfInBounds 0 (rawInt 0))) YB (Iy (tq YN _));refine ae (Nw Zu (tq YN _) .(4) ?_);refine ae ?_;simp only[newExc,newTuple];refine ae (qr ?_ (by size_fits));refine ae (m:=firstArgMember _ _) (Xw (a:=Value.none) (by first|rfl|(simp only[firstArgMember];rfl)) ?_);refine qr ?_ (by size_fits);simp only[raiseNew];refine ae (wpAny_handled ?_);rw[show A.in1.handled=none from hh];refine ae (bj (wpAny_throw ?_));refine ae (V4 (T:="StopIteration") (b:=true) ⟨_,cx _ rfl,rfl⟩ isSubtype_stop ?_);exact bj (hQ _ ((((mf ..).trans (mf ..)).extBut.push _).push _))
end
end SetTx
namespace SetTx
open PySem PyProof.Rows
section
variable{prog:ι}{w:ν}{A:ξ}{E:ζ->η->Prop}{s:η}
theorem xO{it a:θ}{i f f':Nat}{o:Obj}{es:Array (Int×ζ)}{ep:Nat}{t:SetTable}{v:ζ}{Q:ο ζ->η->Prop}(hit:pQ s.heap it (.int f 0) i a es.size ep)(ho:s.heap.get? a=some o)(hd:o.data=.set es ep t)(hf:t.fits es.size=true)
  (hN:∀(A:ξ) (E:ζ->η->Prop) (Q':ο (ζ×Nat)->η->Prop),Q' (some (v,f')) s->wpAny .(2) A (setNext a f i ep) Q' E s)
  (hQ:∀h',pQ h' it (.int f' 0) (i+1) a es.size ep->Heap.SameBut it s.heap h'->Q (some v) {s with heap:=h' }):
  wpAny .(2) A (pyNext (.ref it)) Q E s:=by
 obtain⟨oi,YB,Zv,YN⟩:=id hit;have Y6:s.TypeIs (.ref it) "set_iterator":=⟨oi,YB,Zv⟩;unfold pyNext;refine ae (WT (Fm (name:=Str.ofString "__next__") Y6 slot_next (tI slot_next Y6 entry_next ?_ (args_next _))));unfold Builtin.«set_iterator.__next__»;refine ae (bj ?_);refine ae (Wu YB YN ?_);dsimp only;refine ae (D2 ho hd hf ?_);rw[cq .(4)];simp only[toNat_natCast];refine ae (hN _ _ _ ?_);dsimp only;refine ae (Nw YB YN .(4) ?_);have Zu:=ik (Obj.mapFields (·.setIfInBounds 0 (rawInt (f':Nat)))) YB (Iy (tq YN _));have ZF:=tq YN (·.setIfInBounds 0 (rawInt (f':Nat)));refine ae (Nw Zu ZF .(4) ?_);refine bj ⟨_,rfl,bj (hQ _ ⟨_,ik _ Zu (Iy (tq ZF _)),(WG ..).trans ((WG ..).trans Zv),by rw[tq ZF];simp[rawInt]⟩ ((mf ..).trans (mf ..)))⟩
theorem xP{it a:θ}{i f:Nat}{o:Obj}{es:Array (Int×ζ)}{ep:Nat}{t:SetTable}{Q:ο ζ->η->Prop}(hh:A.handled=none)(hit:pQ s.heap it (.int f 0) i a es.size ep)(ho:s.heap.get? a=some o)(hd:o.data=.set es ep t)(hf:t.fits es.size=true)
  (hN:∀(A:ξ) (E:ζ->η->Prop) (Q':ο (ζ×Nat)->η->Prop),Q' none s->wpAny .(2) A (setNext a f i ep) Q' E s)
  (hQ:∀h',Heap.ExtBut it s.heap h'->Q none {s with heap:=h' }):wpAny .(2) A (pyNext (.ref it)) Q E s:=by
 obtain⟨oi,YB,Zv,YN⟩:=id hit;have Y6:s.TypeIs (.ref it) "set_iterator":=⟨oi,YB,Zv⟩;unfold pyNext;refine ae (WT (Fm (name:=Str.ofString "__next__") Y6 slot_next (tI slot_next Y6 entry_next ?_ (args_next _))));unfold Builtin.«set_iterator.__next__»;refine ae (bj ?_);refine ae (Wu YB YN ?_);dsimp only;refine ae (D2 ho hd hf ?_);rw[cq .(4)];simp only[toNat_natCast];refine ae (hN _ _ _ ?_);dsimp only;refine ae (Nw YB YN .(4) ?_);refine ae ?_;simp only[newExc,newTuple];refine ae (qr ?_ (by size_fits));refine ae (m:=firstArgMember _ _) (Xw (a:=Value.none) (by first|rfl|(simp only[firstArgMember];rfl)) ?_);refine qr ?_ (by size_fits);simp only[raiseNew];refine ae (wpAny_handled ?_);rw[show A.in1.handled=none from hh];refine ae (bj (wpAny_throw ?_));refine ae (V4 (T:="StopIteration") (b:=true) ⟨_,cx _ rfl,rfl⟩ isSubtype_stop ?_);exact bj (hQ _ (((mf ..).extBut.push _).push _))
theorem sr{a:θ}{o:Obj}{es:Array (Int×ζ)}{ep f i:Nat}{t:SetTable}{Q:ο (ζ×Nat)->η->Prop}(hb:dG w=true)(ho:s.heap.get? a=some o)(hd:o.data=.set es ep t)(hf:t.fits es.size=true)
  (h:Q (((pickOrder (w.params.setOrder a ep) es)[i]?).map λe=>(e.2,f)) s):wpAny .(2) A (setNext a f i ep) Q E s:=by
 have Zw:.(2).w.params.followText "set-order" =true:=hb;unfold setNext setsByText;refine ae (ui ho hd hf ?_);refine ae (ae (Fk (bj ?_)));rw[df Zw];dsimp only;rw[cq .(4)];unfold setWalk setsByText;refine ae (ae (ui ho hd hf ?_));refine ae (ae (Fk (bj ?_)));rw[df Zw];refine ae (Fk (bj ?_));exact bj h
theorem vz{a:θ}{o:Obj}{es:Array (Int×ζ)}{ep f i:Nat}{t:SetTable}{Q:ο (ζ×Nat)->η->Prop}(hb:dG w=false)(hl:t.led=true)(hz:es.size<=1)(ho:s.heap.get? a=some o)(hd:o.data=.set es ep t)(hf:t.fits es.size=true)
  (h:Q (match es[SetTable.below t.place f]?,t.place[SetTable.below t.place f]? with|some (_,x),some j=>some (x,j+1)|_,_=>none) s):wpAny .(2) A (setNext a f i ep) Q E s:=by
 have Zw:¬.(2).w.params.followText "set-order" =true:=by
  intro z;rw[show dG w=true from z] at hb;cases hb
 unfold setNext setsByText;refine ae (ui ho hd hf ?_);refine ae (ae (Fk (bj ?_)));rw[cq Zw];dsimp only
 change wpAny _ _ (if (!t.plain&&decide (es.size>1))=true then _ else _) _ _ _
 rw[cq (by rw[eQ (show ¬es.size>1 by lia),Bool.and_false];exact fb)];refine ae ?_
 change wpAny _ _ (if (!t.led && !es.isEmpty)=true then _ else _) _ _ _
 rw[cq (by rw[hl];exact fb)];exact bj (bj h)
end
end SetTx
namespace SetTx
open PySem PyProof.Rows
theorem slot_self:Slot "set_iterator" "__iter__" "set_iterator.__iter__":=
 .of (owner := "set_iterator") (n := "__iter__") (by rw[Ta,y6];rfl') (by decide+kernel) (by decide+kernel) (by decide+kernel)
  (by first|exact .inl (by decide+kernel)|exact .inr (by decide+kernel)) (by rw[Wt];rfl')
theorem entry_self:entryFor table "set_iterator.__iter__" =some Builtin.«dict_keyiterator.__iter__»:=
 entryFor_alias (id':="dict_keyiterator.__iter__") (by rfl') rfl (by decide+kernel) (by rfl')
theorem args_self(a:ζ):argsOk "set_iterator.__iter__" ⟨[a],[]⟩:=by
 unfold argsOk;rw[signature?_of (id:="set_iterator.__iter__") (n:=['_','_','r','e','t','i','_','_']) (o:=['r','o','t','a','r','e','t','i','_','t','e','s']) (by rfl') Be];rfl'
section
variable{prog:ι}{w:ν}{A:ξ}{E:ζ->η->Prop}{s:η}
theorem yQ{it a:θ}{first:ζ}{i n ep:Nat}{Q:ζ->η->Prop}(hit:pQ s.heap it first i a n ep)(h:Q (.ref it) s):wpAny .(2) A (pyIter (.ref it)) Q E s:=by
 obtain⟨oi,YB,Zv,YN⟩:=hit;have Y6:s.TypeIs (.ref it) "set_iterator":=⟨oi,YB,Zv⟩;refine wpAny_pyIter_slot Y6 slot_self (tI slot_self Y6 entry_self ?_ (args_self _));show wpAny _ _ (ret (.ref it)) _ _ s;exact bj ⟨_,rfl,"set_iterator",_,Y6,slot_next.lookup,h⟩
theorem pQ.at{h h':ε}{it a:θ}{first:ζ}{i n ep:Nat}(x:pQ h it first i a n ep)(e:∀o,h.get? it=some o->h'.get? it=some o):pQ h' it first i a n ep:=let ⟨o,ho,r⟩:=x;⟨o,e _ ho,r⟩
theorem G6{a I:θ}{o:Obj}{es:Array (Int×ζ)}{ep:Nat}{t:SetTable}(hh:A.handled=none)(hb:dG w=true)(Yj:a≠I)(hd:o.data=.set es ep t)(hf:t.fits es.size=true):
  Walks prog w A I [I,a] [I] es.size (λi v=>((pickOrder (w.params.setOrder a ep) es).toList.map (·.2))[i]?=some v) (λi h=>pQ h I (.int (0:Nat) 0) i a es.size ep/\h.get? a=some o):=by
 have pl:(pickOrder (w.params.setOrder a ep) es).size=es.size:=by
  have:=(xN (w.params.setOrder a ep) es).length_eq;simpa using this
 exact {
 sub:=λb hb=>by simp at hb;simp[hb]
 frame:=λ_ _ _ st hk=>⟨st.1.at λo e=>hk I .(4) o e,hk a .(4) _ st.2⟩
 item:=λi s Q E hi st hQ=>by
  have YG:i<(pickOrder (w.params.setOrder a ep) es).size:=by lia
  refine xO (f':=0) (v:=(pickOrder (w.params.setOrder a ep) es)[i].2) st.1 st.2 hd hf (λA E Q' q=>sr hb st.2 hd hf (by rw[y8 YG];exact q)) λh' CU Yd=>?_;exact hQ _ h' s.toks (by rw[cn,vk,y8 YG];rfl) ⟨CU,Yd.extBut a _ Yj st.2⟩ λb o hb e=>Yd.extBut b o (λh=>hb (by simp[h])) e
 done:=λs Q E st hQ=>xP hh st.1 st.2 hd hf (λA E Q' q=>sr hb st.2 hd hf (by rw[VU ⋯];exact q)) λh' he'=>hQ h' s.toks λb o hb e=>he' b o (λh=>hb (by simp[h])) e
 self:=λ_ _ _ _ st hQ=>yQ st.1 hQ}
theorem PU(j:Nat):SetTable.below #[j] (j+1)=1:=by
 simp[SetTable.below,SetTable.below.go]
theorem CW{a I:θ}{o:Obj}{es:Array (Int×ζ)}{ep:Nat}{t:SetTable}(hh:A.handled=none)(hb:dG w=false)(hl:t.led=true)(hz:es.size<=1)(Yj:a≠I)(hd:o.data=.set es ep t)(hf:t.fits es.size=true):
  Walks prog w A I [I,a] [I] es.size (λi v=>(es.toList.map (·.2))[i]?=some v) (λi h=>pQ h I (.int ((if i=0 then 0 else t.place.getD 0 0+1:Nat):Nat) 0) i a es.size ep/\h.get? a=some o):=by
 have ps:t.place.size=es.size:=by
  unfold SetTable.fits at hf;rw[and_eq_true] at hf;simpa using hf.1
 exact {
 sub:=λb hb=>by simp at hb;simp[hb]
 frame:=λ_ _ _ st hk=>⟨st.1.at λo e=>hk I .(4) o e,hk a .(4) _ st.2⟩
 item:=λi s Q E hi st hQ=>by
  have i0:i=0:=by lia
  subst i0;obtain⟨j,hj⟩:∃j,t.place = #[j]:=by
   have:t.place.size=1:=by lia
   exact⟨t.place[0],by apply Array.ext;simp[this];intro i h1 h2;simp at h2;subst h2;rfl⟩
  obtain⟨x,hx⟩:∃x,es[0]?=some x:=⟨es[0],y8 ⋯⟩;refine xO (f':=j+1) (v:=x.2) st.1 st.2 hd hf (λA E Q' q=>vz hb hl hz st.2 hd hf (by
   rw[hj,show SetTable.below #[j] (if 0=0 then 0 else(#[j]:Array Nat).getD 0 0+1)=0 from rfl,hx];exact q)) λh' CU Yd=>?_
  refine hQ _ h' s.toks (by rw[cn,vk,hx];rfl) ⟨?_,Yd.extBut a _ Yj st.2⟩ λb o hb e=>Yd.extBut b o (λh=>hb (by simp[h])) e;rw[hj];exact CU
 done:=λs Q E st hQ=>by
  refine xP hh st.1 st.2 hd hf (λA E Q' q=>vz hb hl hz st.2 hd hf ?_) λh' he'=>hQ h' s.toks λb o hb e=>he' b o (λh=>hb (by simp[h])) e;have out:es[SetTable.below t.place (if es.size=0 then 0 else t.place.getD 0 0+1)]?=none:=by
   by_cases z:es.size=0
   .exact VU ⋯
   .obtain⟨j,hj⟩:∃j,t.place = #[j]:=by
     have:t.place.size=1:=by lia
     exact⟨t.place[0],by apply Array.ext;simp[this];intro i h1 h2;simp at h2;subst h2;rfl⟩
    rw[cq z,hj,show (#[j]:Array Nat).getD 0 0=j from rfl,PU];exact VU ⋯
  rw[out];exact q
 self:=λ_ _ _ _ st hQ=>yQ st.1 hQ}
end
end SetTx
namespace SetTx
open PySem PyProof.Rows
section
variable{prog:ι}{w:ν}{A:ξ}{E:ζ->η->Prop}{s:η}
def byPlace(es:Array (Int×ζ))(p:Nat):ζ:=((es[p]?).getD (0,.none)).2
theorem CY(es:Array (Int×ζ)):(List.range es.size).map (byPlace es)=es.toList.map (·.2):=by
 apply VV
 intro i;rw[cn,cn]
 by_cases h:i<es.size
 .rw[Ee h,dk (l:=es.toList) (by rw[gN];exact h)];simp[byPlace,h]
 .rw[mn (by simpa using h),mn (l:=es.toList) (by rw[gN];lia)];rfl
theorem CZ{a I T:θ}{o:Obj}{es:Array (Int×ζ)}{ep:Nat}{t:SetTable}{ys:VE}(hh:A.handled=none)(Yj:a≠I)(hT:T≠I)(hp:ys.Perm (List.range es.size))(hd:o.data=.set es ep t)(hf:t.fits es.size=true):
  Walks prog w A I [I,T,a] [I] es.size (λi v=>(ys.map (byPlace es))[i]?=some v) (λi h=>pQ h I (.ref T) i a es.size ep/\h.get? a=some o/\h.IsTuple T (ys.map λi=>rawInt (i:Nat)).toArray):=by
 have yl:ys.length=es.size:=by rw[hp.length_eq,og]
 exact {
 sub:=λb hb=>by simp at hb;simp[hb]
 frame:=λ_ _ _ st hk=>⟨st.1.at λo e=>hk I .(4) o e,hk a .(4) _ st.2.1,by
  obtain⟨o,ho,r⟩:=st.2.2;exact⟨o,hk T .(4) _ ho,r⟩⟩
 item:=λi s Q E hi st hQ=>by
  have YG:i<ys.length:=by lia
  have hy:ys[i]?=some ys[i]:=dk YG;have XZ:ys[i]<es.size:=xI.mp (hp.mem_iff.mp (Wb YG));have hx:es[ys[i]]?=some es[ys[i]]:=y8 XZ;refine CT (p:=ys[i]) (x:=es[ys[i]]) st.1 st.2.1 hd hf st.2.2 (by rw[Pm,cn,hy];rfl) hx λh' CU Yd=>?_;exact hQ _ h' s.toks (by rw[cn,hy];simp[byPlace,XZ]) ⟨CU,Yd.extBut a _ Yj st.2.1,st.2.2.extBut Yd.extBut hT⟩ λb o hb e=>Yd.extBut b o (λh=>hb (by simp[h])) e
 done:=λs Q E st hQ=>CV hh st.1 st.2.1 hd hf st.2.2 (by rw[Pm];exact mn (by rw[aw];lia)) λh' he'=>hQ h' s.toks λb o hb e=>he' b o (λh=>hb (by simp[h])) e
 self:=λ_ _ _ _ st hQ=>yQ st.1 hQ}
end
end SetTx
namespace SetTx
open PySem PyProof.Rows
section
variable{prog:ι}{w:ν}{A:ξ}{E:ζ->η->Prop}{s:η}
theorem G7{a:θ}{o:Obj}{es:Array (Int×ζ)}{ep:Nat}{t:SetTable}{Q:ζ->η->Prop}(B:ξ)(hB:B.handled=none)(ho:s.heap.get? a=some o)(hex:o.ExactSet)(hd:o.data=.set es ep t)(hf:t.fits es.size=true)(hz:es.size<scanBound)(hl:t.led = !dG w)(X1:es.size≠0->t.plain=false)
  (h:∀(I:θ) (h1:ε) (d':Drawn) (fp:VI θ) (vs:VI ζ) (St:Nat->ε->Prop),Walks prog w B I fp [I] es.size (λi v=>vs[i]?=some v) St->vs.Perm (es.toList.map (·.2))->St 0 h1->(∀b o,s.heap.get? b=some o->h1.get? b=some o)->(∀b∈fp,b=a\/s.heap.objs.size<=b)->s.heap.objs.size<=I->Q (.ref I) {s with heap:=h1,drawn:=d' }):
  wpAny .(2) A (pyIter (.ref a)) Q E s:=by
 have ha:=dq ho;refine JO ho hex hd hf hz (λhc ys d' hp=>?_) (λhc=>?_)
 .refine h (s.heap.objs.size+1) _ d' _ _ _ (CZ (T:=s.heap.objs.size) hB (iq (Hm ha)) (iq (vT _)) hp hd hf) ((hp.map _).trans (by rw[CY])) ⟨⟨EO (.ref s.heap.objs.size) 0 a es.size ep,?_,rfl,rfl⟩,?_,?_⟩ (λb o e=>ba _ (ba _ e)) (λb hb=>?_) ⋯
  .have:=cx (s.heap.push {cls:=.type "tuple",data:=.seq (ys.map λi=>rawInt (i:Nat)).toArray}) (o:=EO (.ref s.heap.objs.size) 0 a es.size ep) rfl;rw[oo] at this;exact this
  .exact ba _ (ba _ ho)
  .exact⟨_,ba _ (cx _ rfl),rfl,_,rfl⟩
  .simp only[mem_cons,not_mem_nil,or_false] at hb
   rcases hb with rfl|rfl|rfl
   .right;lia
   .right;lia
   .left;rfl
 .have fpk:∀b∈[s.heap.objs.size,a],b=a\/s.heap.objs.size<=b:=λb hb=>by
   simp only[mem_cons,not_mem_nil,or_false] at hb
   rcases hb with rfl|rfl
   .right;lia
   .left;rfl
  cases hb:dG w with
  |true=>
   exact h s.heap.objs.size _ s.drawn _ _ _ (G6 hB hb (iq ha) hd hf) ((xN _ es).map _) ⟨⟨_,cx _ rfl,rfl,rfl⟩,ba _ ho⟩ (λb o e=>ba _ e) fpk (bb _)
  |false=>
   have hz1:es.size<=1:=by
    by_cases z:es.size<=1
    .exact z
    .rw[hb,X1 ⋯,dr (show es.size>1 by lia)] at hc;cases hc
   exact h s.heap.objs.size _ s.drawn _ _ _ (CW hB hb (by rw[hl,hb];rfl) hz1 (iq ha) hd hf) (VT _) ⟨⟨_,cx _ rfl,rfl,rfl⟩,ba _ ho⟩ (λb o e=>ba _ e) fpk (bb _)
end
end SetTx
namespace SetTx
open PySem PySem.W PySem.Calls PyProof.Rows
section
variable{prog:ι}{w:ν}{A:ξ}{E:ζ->η->Prop}{s:η}
theorem JP{r:θ}{Q:Bool->η->Prop}(hT:s.TypeIs (.ref r) "set")(h:Q false s):wpAny .(2) A (Builtin.List.listLengthHint (.ref r)) Q E s:=by
 unfold Builtin.List.listLengthHint;refine ae (Wh hT PySem.F.slot_set_len.lookup ?_);generalize ZP:("set.__len__":String)=id0
 wp_delta
 rw[show splitId id0=some ("set", "__len__") from by subst ZP;decide+kernel]
 subst ZP;refine ae (V4 (T:="set") (b:=true) hT (by rw[Wt];rfl') ?_);refine va (λYH=>absurd YH .(0)) (λ_=>?_);refine va (λ_=>?_) (λYH=>absurd (by decide+kernel) YH);refine ae (Wn hT ?_);exact bj h
theorem C0{a:θ}{o:Obj}{es:Array (Int×ζ)}{ep:Nat}{t:SetTable}{R:Result->η->Prop}(hh:A.handled=none)(ho:s.heap.get? a=some o)(hex:o.ExactSet)(hd:o.data=.set es ep t)(hf:t.fits es.size=true)(hz:es.size<scanBound)(hl:t.led = !dG w)(X1:es.size≠0->t.plain=false)
  (S:θ) (hSa:S≠a) (res:ζ) (i4:Nat) (hS:s.heap.get? S=some {cls:=.type "list",data:=.seq #[] i4 })
  (hR:∀h' tk d' XR c',(∀b o,b≠S->s.heap.get? b=some o->h'.get? b=some o)->h'.get? S=some {cls:=.type "list",dict:=none,data:=.seq XR c',slots:=#[] }->XR.toList.Perm (es.toList.map (·.2))->R (.ok (.ret res)) {s with heap:=h',toks:=tk,drawn:=d' }):
  wpAny .(2) A.in1 (Builtin.List.listExtendWith (.ref S) (.ref a) res)
   (λfin s'=>match fin with |.done f=>R (.ok f) s' |.again c'=>c'.quiet=true/\codeAny .(2) A c' R s') (λe s'=>R (.error e) s') s:=by
 have hT:s.TypeIs (.ref a) "set":=⟨o,ho,hex.1⟩;have hn:es.size<=sizeLine:=VS hz;have RL:=dq hS;unfold Builtin.List.listExtendWith;refine ae (Wn hT ?_);have h1:Builtin.List.listSameRef (.ref S) (.ref a)=false:=by simp[Builtin.List.listSameRef,hSa]
 simp only[h1,show (Value.type "set" ==Value.type "list")=false by decide,show (Value.type "set" ==Value.type "tuple")=false by decide,Bool.or_false,false_eq_true,if_false]
 refine ae (G7 A.in1 hh ho hex hd hf hz hl X1 λI h1 d' fp vs St W hp st hk hfp hI=>?_);have hSI:S≠I:=iq (ip RL hI);have ZE:S∉fp:=λz=>by
  rcases hfp S z with e|e
  .exact hSa e
  .exact absurd RL (Nat.not_lt.mpr e)
 have fin:∀acc:Array ζ,ItemsOf (λi v=>vs[i]?=some v) acc es.size->acc.toList.Perm (es.toList.map (·.2)):=λacc XW=>by
  have:acc.toList=vs:=by
   apply VV
   intro i;have vl:vs.length=es.size:=by rw[hp.length_eq,aw,gN]
   by_cases hi:i<es.size
   .have hi2:i<acc.toList.length:=by rw[gN,XW.1];exact hi
    have:=XW.2 i acc.toList[i] (by rw[<-vk];exact dk hi2);rw[this];exact dk hi2
   .rw[mn (by rw[gN,XW.1];lia),mn ⋯]
  rw[this];exact hp
 have key:∀(h:ε) (h7 tk:Nat),St 0 h->(∀b o,b≠S->s.heap.get? b=some o->h.get? b=some o)->
   h.get? S=some {cls:=.type "list",data:=.seq #[] h7 }->codeAny .(2) A (.builtin "list.extend.loop" ⟨[.ref S,.ref I,res],[]⟩) R {s with heap:=h,toks:=tk,drawn:=d' }:=by
  intro h h7 tk Ya hk d0;refine codeAny_extend_loopS W.toS hn S ZE res es.size 0 _ #[] h7 rfl (mi _) Ya d0 (ItemsOf.nil _) λs' XR c' hm YJ XW=>?_;rw[Moved.eq_with hm];refine hR s'.heap s'.toks d' XR c' (λb o hb e=>hm.heap b o (λhmem=>?_) (hk b o hb e)) YJ (fin XR XW)
  rcases gL.mp hmem with e'|hmem
  .exact hb e'
  .exact absurd (dq e) (by rw[bc.mp hmem];exact Nat.not_lt.mpr hI)
 have d0:=hk _ _ hS;refine ae (me (JP ⟨o,hk _ _ ho,hex.1⟩ ?_));refine va (λ_=>?_) (λ_=>bj ⟨sk y7 _,key _ i4 _ st (λb o _ e=>hk _ _ e) d0⟩);refine ae (FC ?_);refine ae ?_;show wpAny _ _ (updateSeq S (·.push .none)>>=λ_=>updateSeq S (·.pop)) _ _ _;refine ae (xk d0 rfl ?_);have h8:=ik (Obj.mapSeq (·.push Value.none)) d0 rfl;refine xk (hz:=by seq_fits) h8 rfl ?_;have j2:=ik (Obj.mapSeq (·.pop)) h8 rfl;refine bj ⟨sk y7 _,key _ _ _ ?_ (λb o hb e=>?_) j2⟩
 .refine W.frame 0 _ _ st λb hb o e=>?_;have Y4:b≠S:=λh=>ZE (h▸hb);exact(fI _ _ (du Y4)).trans ((fI _ _ (du Y4)).trans e)
 .exact(fI _ _ (du hb)).trans ((fI _ _ (du hb)).trans (hk _ _ e))
theorem Bh{a:θ}{ss:VI Str}{R:VI ζ->η->Prop}(hh:A.handled=none)(hS:qT prog w s.heap a ss (!dG w))(hz:ss.length<scanBound)
  (h:∀(h':ε) (tk:Nat) (d':Drawn) (acc:VI ζ),(∀b o,s.heap.get? b=some o->h'.get? b=some o)->(acc.map keyOf).Perm ss->(∀v∈acc,∃t,v=.str (keyOf v) t)->R acc {s with heap:=h',toks:=tk,drawn:=d' }):
  wpAny .(2) A (collect (.ref a)) R E s:=by
 obtain⟨o,es,ep,t,ho,hex,hd,Y5,hp,hf,hl,X1⟩:=hS;have esz:es.size=ss.length:=by rw[<-hp.length_eq,aw,gN]
 have ha:=dq ho;unfold collect;refine ae (wpAny_runValue (so entry_proto_collect' ?_));rw[mr PySem.F.plain_proto_collect _];show wpAny _ A.in1 (newList []>>=λl=>again (.builtin "list.__iadd__" ⟨[l,.ref a],[]⟩)) _ _ s;refine ae (qr ?_);refine bj ⟨sk Xb _,so entry_list_iadd' ?_⟩;rw[mr Xb _];have d0 :(s.heap.push {cls:=.type "list",data:=.seq ([]:VI ζ).toArray}).get? s.heap.objs.size=some {cls:=.type "list",data:=.seq #[] }:=cx _ rfl;show wpAny _ A.in1 (Builtin.List.listExtendWith (.ref s.heap.objs.size) (.ref a) (.ref s.heap.objs.size)) _ _ _;have key:=C0 (prog:=prog) (w:=w) (A:=A) (s:={s with heap:=s.heap.push {cls:=.type "list",data:=.seq ([]:VI ζ).toArray} })
  (R:=λ(q:Result) (s':η)=>∃(h':ε) (tk:Nat) (d':Drawn) (XR:Array ζ) (c':Nat),q=.ok (.ret (.ref s.heap.objs.size))/\s'={s with heap:=h',toks:=tk,drawn:=d' }/\
   (∀b o,s.heap.get? b=some o->h'.get? b=some o)/\h'.get? s.heap.objs.size=some {cls:=.type "list",dict:=none,data:=.seq XR c',slots:=#[] }/\XR.toList.Perm (es.toList.map (·.2)))
  hh (ba _ ho) hex hd hf ⋯ hl X1 s.heap.objs.size (VM ha) (.ref s.heap.objs.size) 0 d0
  (λh' tk d' XR c' hk YJ XW=>⟨h',tk,d',XR,c',rfl,rfl,λb o e=>hk b o (iq (dq e)) (ba _ e),YJ,XW⟩)
 have last:∀(h':ε) (tk:Nat) (d':Drawn) (XR:Array ζ),(∀b o,s.heap.get? b=some o->h'.get? b=some o)->XR.toList.Perm (es.toList.map (·.2))->R XR.toList {s with heap:=h',toks:=tk,drawn:=d' }:=λh' tk d' XR hk XW=>by
  refine h h' tk d' XR.toList hk ((XW.map keyOf).trans (by rw[mv];exact hp)) λv hv=>?_;obtain⟨e,he,rfl⟩:=km.mp (XW.mem_iff.mp hv);obtain⟨⟨k,hk,_⟩,_⟩:=Y5 e he;obtain⟨t,et⟩:=Wj hk;rw[et];exact⟨t,rfl⟩
 refine pE key (λfin s' x=>?_) λe s' x=>?_
 .cases fin with
  |done f=>
   obtain⟨h',tk,d',XR,c',e,rfl,hk,YJ,XW⟩:=x;cases e;show wpAny _ A (load s.heap.objs.size>>=_) _ _ _;refine ae (Xi YJ ?_);exact bj (last h' tk d' XR hk XW)
  |again h7=>
   refine⟨x.1,Pl x.2 λq c4 y=>?_⟩;obtain⟨h',tk,d',XR,c',rfl,rfl,hk,YJ,XW⟩:=y;show wpAny _ A (load s.heap.objs.size>>=_) _ _ _;refine ae (Xi YJ ?_);exact bj (last h' tk d' XR hk XW)
 .obtain⟨_,_,_,_,_,e,_⟩:=x;cases e
end
end SetTx
namespace SetTx
open PySem PyProof.Rows PySem.Calls
section
variable{prog:ι}{w:ν}{A:ξ}{E:ζ->η->Prop}{s:η}
theorem ER:∀{acc:VI ζ},(∀v∈acc,∃t,v=.str (keyOf v) t)->StrsAre acc (acc.map keyOf)
 |[],_=>.nil
 |v::acc,h=>by
  obtain⟨t,e⟩:=h v bp;have ih:=ER (acc:=acc) λu hu=>h u (dA _ hu);rw[e];exact .cons _ _ ih
theorem C2{a:θ}{ss:VI Str}{Q:ζ->η->Prop}(hh:A.handled=none)(hS:qT prog w s.heap a ss (!dG w))(Yt:ss.length<64)
  (hQ:∀(h1 h':ε) (tk:Nat) (d':Drawn) (e:Nat) (out:Array ζ) (Yf:VI Str),(∀b o,s.heap.get? b=some o->h1.get? b=some o)->(∀b o,h1.get? b=some o->h'.get? b=some o)->
   h'.get? h1.objs.size=some (seqObj "list" out e)->StrsAre out.toList Yf->Yf.Perm ss->sortedS Yf=true->Q (.ref h1.objs.size) {s with heap:=h',toks:=tk,drawn:=d' }):
  wpAny .(2) A (call (.builtin "sorted") [.ref a]) Q E s:=by
 refine call_function_entry kind_sorted plain_sorted entry_sorted (args_sorted1 _) ?_;unfold Builtin.«sorted»;refine ae (m:=checkCount "sorted" 1 1 _) (bj ?_);refine ae (Bh (A:=A.in1) hh hS (by unfold scanBound;lia) λh1 tk d' acc hk hp hv=>?_);have hl:acc.length=ss.length:=by rw[<-hp.length_eq,aw]
 have hT:=ER hv;refine ae (WS ?_ (by rw[hl,dE];lia));have ho:(h1.push {cls:=.type "list",data:=.seq acc.toArray}).get? h1.objs.size=some (seqObj "list" acc.toArray 0):=cx _ rfl;refine ae (me (tI slot_list_sort ⟨_,ho,rfl⟩ entry_list_sort (list_sort_treeK strKind_oneLt ho hT.keysOf (λv₁ v₂ rest e=>keyKind_strs (by rw[<-e];exact hT)) (by rw[hl];exact Yt) λX8 a1 a2=>⟨_,rfl,?_⟩) (args_list_sort _)));obtain⟨Yf,q1,q2,q3⟩:=sorted_out_str hT a1 a2;obtain⟨e,he⟩:=sortedHeap_at (out:=(arrOf X8).map (·.2)) ho;refine bj ⟨_,rfl,hQ h1 _ tk d' e _ Yf hk (λb o hb=>?_) he q1 (q2.trans hp) q3⟩;have XZ:=dq hb;rw[sortedHeap_old (iq XZ) (by rw[size_push'];exact Hm XZ)];exact ba _ hb
end
end SetTx
namespace L2
open PySem PySem.Spec PyProof.Rows
section
variable{X:Cx}
def pR(K:W.Frag)(ta:TA):TE:=λY H Q=>ta Y H λvs H1=>∃a xs,vs=[.ref a]/\bw K H1 a xs/\∀p,H1 p=none->Q (.ref p) (upd H1 p (.lst xs.reverse))
theorem G8{XM:VI ζ}{acc:Array ζ}(h:ItemsOf (λi v=>XM.toArray[XM.toArray.size-1-i]?=some v) acc XM.toArray.size):acc.toList=XM.reverse:=by
 obtain⟨h1,h2⟩:=h;have hz:acc.toList.length=XM.length:=by rw[gN,h1];simp
 apply VV
 intro i
 by_cases hi:i<XM.length
 .obtain⟨v,hv⟩:∃v,acc.toList[i]?=some v:=⟨_,dk ⋯⟩;have:=h2 i v (by rw[<-vk];exact hv);rw[hv,List.getElem?_reverse hi,<-this];simp
 .rw[mn ⋯,mn (by rw[Qb];lia)]
theorem C3(hc:X.calm=true){a:γ}{ta:TA}{p pos p2 X3:Pos}(hgl:Gl X "list")(hml:X.mg "list" =none)(hg:Gl X "reversed")(hm:X.mg "reversed" =none)(ha:PA X [a] ta)
  (hs:starEach [a] X.env=(false,eval a X.env)::starEach [] X.env) (YV:((backTo X3 (starEach [] X.env)).any λx=>x.fst)=false)
  (he:starEach [.Call (.Name "reversed" p2) [a] [] X3] X.env=(false,eval (.Call (.Name "reversed" p2) [a] [] X3) X.env)::starEach [] X.env) (X1:(backTo pos (starEach [] X.env)).any (·.1)=false):
  PE X (.Call (.Name "list" p) [.Call (.Name "reversed" p2) [a] [] X3] [] pos) (pR X.K ta):=by
 intro Z0 s Y H Q I h;refine yA (n9 I hgl hml sT ?_ .(0) .(0));refine tJ ?_ he X1;rw[he];refine Tb ?_;refine Call_ (n9 I hg hm boot_reversed (tJ (cT (ha X3 Z0 s Y H _ I h) λus s1 ⟨vs,H1,I1,r1,q1⟩=>?_) hs YV));obtain⟨l,xs,e,hq,q⟩:=q1;subst e;cases r1 with
 |cons r rr=>
  cases rr;cases r;obtain⟨XM,rv,pl,hz⟩:=I1.list hq;have hl:=rv.length;refine call_reversed_list pl.isList ?_;refine Wz ?_;have XZ:l<s1.heap.objs.size:=let ⟨_,e,_⟩:=pl.isList;dq e;refine Rev.G4 (I1.ok.hd hc) (l:=l) (items:=XM.toArray) ⟨_,cx _ rfl,rfl,rfl⟩ (pl.isList.at λo e=>ba _ e) (iq XZ) (by rw[ix];lia) λh' tk acc c' hk ho hI=>?_;have e:=G8 hI;have hp:s1.heap.objs.size<=(s1.heap.push (revObj l ((XM.toArray.size:Int)-1))).objs.size:=by rw[size_push'];exact xc _
  refine⟨.ref _,_,I1.laid (t':=tk) (o:=.lst xs.reverse) (λb o eb=>hk b o (iq (dq eb)) (ba _ eb)) hp ⟨?_,acc.toList,c',by rw[e];exact rv.reverse,by simpa using ho⟩,rfl,q _ (I1.hok.fresh hp)⟩;rw[Qb];lia
theorem C4(hc:X.calm=true){a:γ}{p pos p2 X3:Pos}{ta:TA}(hml:X.mg "list" =none)(hm:X.mg "reversed" =none)(ha:QA X [a] ta)(hgl:X.env.kindOf "list" =some .globalImplicit:=by rfl')(hg:X.env.kindOf "reversed" =some .globalImplicit:=by rfl')
  (hs:starEach [a] X.env=(false,eval a X.env)::starEach [] X.env:=by rfl') (YV:((backTo X3 (starEach [] X.env)).any λx=>x.fst)=false:=by rfl')
  (he:starEach [.Call (.Name "reversed" p2) [a] [] X3] X.env=(false,eval (.Call (.Name "reversed" p2) [a] [] X3) X.env)::starEach [] X.env:=by rfl') (X1:(backTo pos (starEach [] X.env)).any (·.1)=false:=by rfl'):
  QE X (.Call (.Name "list" p) [.Call (.Name "reversed" p2) [a] [] X3] [] pos) (pR X.K ta):=⟨C3 hc hgl hml hg hm ha.p hs YV he X1⟩
abbrev yR(n:Bool):R2:=λy x H Q=>∃a o,x=.ref a/\g9 H a y o/\Q (.bl (o.isSome !=n)) H
theorem PV(hu:X.A.units+64<cLine):om X (compareOp .In) (yR false):=by
 intro Z0 s Y H y x u v Q I ry rx h;obtain⟨a,o,rfl,g,q⟩:=h;obtain rfl:v=Value.ref a:=rx;exact Uz ⋯ I g ry λs' I'=>⟨.bl o.isSome,H,I',rfl,by cases o<;>exact q⟩
theorem mR(hu:X.A.units+64<cLine):om X (compareOp .NotIn) (yR true):=by
 intro Z0 s Y H y x u v Q I ry rx h;obtain⟨a,o,rfl,g,q⟩:=h;obtain rfl:v=Value.ref a:=rx;exact M7 ⋯ I g ry λs' I'=>⟨.bl (!o.isSome),H,I',rfl,by cases o<;>exact q⟩
theorem gy{o i:γ}{td ty:TE}{pos:Pos}(hu:X.A.units+64<cLine)(ho:QE X o td)(hi:QE X i ty)(hs:PJ i:=by intro _ _;rfl'):QE X (.Subscript o i pos) (i9 td ty):=⟨M9 ⋯ ho.p hi.p hs⟩
theorem iH{o i value:γ}{td ty tv:TE}{pos pos':Pos}(hu:X.A.units+64<cLine)(ho:QE X o td)(hi:QE X i ty)(hv:QE X value tv)(hs:swapsWith value (some (.Subscript o i pos')) pos.line X.env=pure false:=by rfl'):
  QS X (.Assign [.Subscript o i pos'] value pos) (fU td ty tv):=⟨Nb ⋯ ho.p hi.p hv.p hs⟩
theorem ic{pos:Pos}:QE X (.Dict [] [] pos) fz:=⟨JJ⟩
theorem vA{pos:Pos}:QE X (.Dict [] [] pos) oJ:=⟨JK⟩
abbrev pS:VI V->Hp->VK->Prop:=λxs H Q=>∃p,∃kvs:VI (VE×V),xs=[.ref p]/\H p=some (.dK (kvs.map λkv=>(Key.inr (txt kv.1),kv.2)))/\kvs.length<64/\
 ∀l,∀zs:VF,H l=none->zs.Perm (kvs.map (·.1))->zs.Pairwise (·<=·)->Q (.ref l) (upd H l (.lst (zs.map av)))
theorem xQ{P:ι}{w:ν}:∀{kvs:VI (VE×V)} {vs:VI (Key×ζ)},KV (kvs.map λkv=>(Key.inr (txt kv.1),kv.2)) vs->∀us:VI ζ,us.length=vs.length->(∀(j:Nat) (v:ζ),us[j]?=some v->∃(k:Key) (x:ζ),vs[j]?=some (k,x)/\(bN P w).is k v=true)->StrsAre us ((kvs.map (·.1)).map txt)
 |[],_,r,us,h1,h2=>by
  cases r;have:us=[]:=sg.mp (by simpa using h1);subst this;exact .nil
 |kv::kvs,_,r,us,h1,h2=>by
  rw[lj] at r;cases r with
  |@cons p q ps qs hh tt=>
   cases us with
   |nil=>simp at h1
   |cons v us=>
    obtain⟨k,x,e1,e2⟩:=h2 0 v rfl;simp at e1
    subst e1;have e3:Key.inr (txt kv.1)=k:=hh.1;subst e3
    rcases dj (show rU (Key.inr (txt kv.1)) v=true from e2) with⟨i,t,e,_⟩|⟨y,t,e,rfl⟩|⟨e,_⟩
    .cases e
    .injection e with e
     subst e;exact .cons _ _ (xQ tt us (by simpa using h1) λj v hj=>by simpa using h2 (j+1) v (by simpa using hj))
    .cases e
theorem kr(hc:X.calm=true):fj X (.builtin "sorted") pS:=by
 intro Z0 s Y H xs us Q I r h;obtain⟨p,kvs,rfl,hH,hz,q⟩:=h;obtain⟨u,rfl,ru⟩:=vals1 r;cases ru;obtain⟨z,hd,vs,rel,dd⟩:=lJ I.hok hH;obtain⟨ep,da⟩:=dd.dictAt;have hl:=rel.length;rw[aw] at hl;refine Rev.Nc (I.ok.hd hc) hd da (by rw[<-hl];exact hz) (xQ (P:=X.prog) (w:=X.w) rel) λh1 h' tk e out Yf k1 k2 he a1 a2 a3=>?_;have ez:Yf=(Yf.map λx=>x.cps.toList).map txt:=by
  rw[mv];have:(txt∘λ(x:Str)=>x.cps.toList)=id:=by funext x;exact txt_codes x
  rw[this,Xk]
 have hp:(Yf.map λx=>x.cps.toList).Perm (kvs.map (·.1)):=by
  have:=a2.map (λx:Str=>x.cps.toList);rw[mv] at this;have e2:((λx:Str=>x.cps.toList)∘txt)=id:=by funext l;exact bW l
  rw[e2,Xk] at this;exact this
 rw[ez] at a3;have hv:Vals ((Yf.map λx=>x.cps.toList).map av) out.toList:=by rw[iQ,<-ez];exact mG a1
 have I1:Inv X Z0 Y H {s with heap:=h1,toks:=s.toks}:=I.kept (t':=s.toks) k1
 refine⟨.ref h1.objs.size,_,I1.laid (t':=tk) (a:=h1.objs.size) (o:=.lst ((Yf.map λx=>x.cps.toList).map av)) k2 (bb _) ⟨?_,out.toList,e,hv,by simpa [seqObj] using he⟩,rfl,q _ _ (I1.hok.fresh (bb _)) hp (oA _ a3)⟩;have:=hp.length_eq;rw[aw,dE];simp at this
 simp
 lia
end
end L2
namespace MinD
open PySem PyProof.Rows
theorem Nf(a v:ζ):argsOk "min" ⟨[a],[(Str.ofString "default",v)]⟩:=by unfold argsOk;rfl'
section
variable{P:ι}{wd:ν}{Ar:ξ}{Rs:Result->η->Prop}{it:θ}{fp wr:VI θ}{n:Nat}{F:Nat->ζ->Prop}{St:Nat->ε->Prop}
theorem rest(W:Walks P wd Ar.in1 it fp wr n F St)(bt:Nat->Nat->Bool)(cmp:CmpOf P wd Ar.in1 .Lt F bt)(S:θ)(hS:S∉fp)(kw:VI (Str×ζ)):
  ∀(k j:Nat) (s:η) (vb:ζ) (c:Nat),n-(j+1)=k->j+1<=n->St (j+1) s.heap->F (argBest bt j) vb->s.heap.get? S=some {cls:=.type "list",dict:=none,data:=.seq #[vb,vb] c,slots:=#[] }->
  (∀v h' tk,F (argBest bt (n-1)) v->(∀b o,b∉wr->b≠S->s.heap.get? b=some o->h'.get? b=some o)->Rs (.ok (.ret v)) {s with heap:=h',toks:=tk})->codeAny (model P wd) Ar (.builtin "min.loop" ⟨[.ref it,.none,.ref S],kw⟩) Rs s:=by
 have wS:S∉wr:=λh=>hS (W.sub _ h);have nm:(toString "min" ++toString ".loop" :String) = "min.loop" :=by decide
 intro k
 induction k with
 |zero=>
  intro j s vb c hk hj st best hb q;have e:j+1=n:=by lia
  refine so VW ?_;rw[mr sx _];show wpAny _ Ar.in1 (seqItems? (.ref S)>>=_) _ _ s;refine ae (VR hb rfl ?_);show wpAny _ Ar.in1 (tryCatch (pyNext (.ref it)) _>>=_) _ _ s;refine ae (NA (W.done s _ _ (e▸st) λh' tk kp=>?_));show wpAny _ Ar.in1 (updateSeq S (λ_=>#[])>>=_) _ _ _;refine ae (xk (kp S _ wS hb) rfl (ae (WE (bj ?_))));exact q vb _ tk (by rw[<-e];exact best) λb o Zc Y4 eb=>(fI _ _ (du Y4)).trans (kp b o Zc eb)
 |succ k ih=>
  intro j s vb c hk hj st best hb q;have lt:j+1<n:=by lia
  refine so VW ?_;rw[mr sx _];show wpAny _ Ar.in1 (seqItems? (.ref S)>>=_) _ _ s;refine ae (VR hb rfl ?_);show wpAny _ Ar.in1 (tryCatch (pyNext (.ref it)) _>>=_) _ _ s;refine ae (NA (W.item (j+1) s _ _ lt st λv h' tk fv X8 kp=>?_));have Zw:=kp S _ wS hb;show wpAny _ Ar.in1 (tryCatch (holding [v,v] (richCompare .Lt v vb>>=_)) _>>=_) _ _ _;refine ae (NA (me (ae (cmp (j+1) (argBest bt j) v vb _ _ _ fv best ?_))));refine ae (me (Jn (ae (WE (bj ?_)))));cases eb:bt (j+1) (argBest bt j) with
  |true=>
   simp only[if_true];refine ae (xk Zw rfl (ae (WE ?_)));rw[nm];refine bj ⟨sk sx _,ih (j+1) _ v _ ⋯ lt (W.frame _ _ _ X8 λb hbf o e=>?_) (by simp only[argBest,eb,if_true];exact fv) (ik _ Zw rfl) λv' h2 tk2 fv2 kp2=>?_⟩
   .exact(fI _ _ (λz:S=b=>hS (by rw[z];exact hbf))).trans e
   .exact q v' h2 tk2 fv2 λb o Zc Y4 e=>kp2 b o Zc Y4 ((fI _ _ (du Y4)).trans (kp b o Zc e))
  |false=>
   simp only[false_eq_true,if_false];refine ae (WE ?_);rw[nm];refine bj ⟨sk sx _,ih (j+1) _ vb c ⋯ lt X8 (by simp only[argBest,eb,false_eq_true,if_false];exact best) Zw λv' h2 tk2 fv2 kp2=>?_⟩;exact q v' h2 tk2 fv2 λb o Zc Y4 e=>kp2 b o Zc Y4 (kp b o Zc e)
theorem whole(W:Walks P wd Ar.in1 it fp wr n F St)(bt:Nat->Nat->Bool)(cmp:CmpOf P wd Ar.in1 .Lt F bt)(S:θ)(hS:S∉fp)(d:ζ){s:η}{c:Nat}(st:St 0 s.heap)(hb:s.heap.get? S=some {cls:=.type "list",dict:=none,data:=.seq #[] c,slots:=#[] })
  (q:∀v h' tk,(0<n->F (argBest bt (n-1)) v)->(n=0->v=d)->(∀b o,b∉wr->b≠S->s.heap.get? b=some o->h'.get? b=some o)->Rs (.ok (.ret v)) {s with heap:=h',toks:=tk}):
  codeAny (model P wd) Ar (.builtin "min.loop" ⟨[.ref it,.none,.ref S],[("default",d)]⟩) Rs s:=by
 have wS:S∉wr:=λh=>hS (W.sub _ h);have nm:(toString "min" ++toString ".loop" :String) = "min.loop" :=by decide
 refine so VW ?_;rw[mr sx _];show wpAny _ Ar.in1 (seqItems? (.ref S)>>=_) _ _ s;refine ae (VR hb rfl ?_);show wpAny _ Ar.in1 (tryCatch (pyNext (.ref it)) _>>=_) _ _ s
 by_cases hn:0<n
 .refine ae (NA (W.item 0 s _ _ hn st λv h' tk fv X8 kp=>?_));have Zw:=kp S _ wS hb;show wpAny _ Ar.in1 (updateSeq S (λ_=>#[v,v])>>=_) _ _ _;refine ae (xk Zw rfl ?_);rw[nm];refine bj ⟨sk sx _,rest W bt cmp S hS _ _ 0 _ v _ rfl hn (W.frame _ _ _ X8 λb hbf o e=>?_) fv (ik _ Zw rfl) λv' h2 tk2 fv2 kp2=>?_⟩
  .exact(fI _ _ (λz:S=b=>hS (by rw[z];exact hbf))).trans e
  .exact q v' h2 tk2 (λ_=>fv2) (λz=>by lia) λb o Zc Y4 e=>kp2 b o Zc Y4 ((fI _ _ (du Y4)).trans (kp b o Zc e))
 .have e0:n=0:=by lia
  refine ae (NA (W.done s _ _ (e0▸st) λh' tk kp=>?_))
  first
   |exact ae (FC (bj (q d h' tk (λz=>absurd z hn) (λ_=>rfl) λb o Zc _ e=>kp b o Zc e)))
   |(refine ae (FC ?_);exact bj (q d h' tk (λz=>absurd z hn) (λ_=>rfl) λb o Zc _ e=>kp b o Zc e))
end
section
variable{P:ι}{wd:ν}{Ar:ξ}{Er:ζ->η->Prop}{s:η}
theorem JQ{F:Nat->ζ->Prop}(val:Nat->VE)(YK:∀i v,F i v->∃t,v=Value.str (L2.txt (val i)) t):CmpOf P wd Ar .Lt F (λi j=>decide (val i<val j)):=λi j vi vj s Q E hi hj h=>by
 obtain⟨t,rfl⟩:=YK i vi hi;obtain⟨u,rfl⟩:=YK j vj hj;exact(lt_str (by rw[L2.bW,L2.bW];exact h):wpAny (model P wd) Ar (compareOp .Lt (.str (L2.txt (val i)) t) (.str (L2.txt (val j)) u)) Q E s)
theorem G9(hh:Ar.handled=none){l:θ}{XM:Array ζ}{d:ζ}{Q:ζ->η->Prop}(hl:s.heap.IsList l XM)(val:Nat->VE)(YK:∀(i:Nat) (v:ζ),XM[i]?=some v->∃t,v=Value.str (L2.txt (val i)) t)
  (h:∀v h' tk,(0<XM.size->XM[argBest (λi j=>decide (val i<val j)) (XM.size-1)]?=some v)->(XM.size=0->v=d)->(∀b o,s.heap.get? b=some o->h'.get? b=some o)->Q v {s with heap:=h',toks:=tk}):
  wpAny (model P wd) Ar (call (.builtin "min") [.ref l] [(Str.ofString "default",d)]) Q Er s:=by
 have nm:(toString "min" ++toString ".loop" :String) = "min.loop" :=by decide
 refine PyProof.Rows.kmk_tree PySem.F.kind_min PySem.F.plain_min PySem.F.entry_min (Nf _ _) ?_;show wpAny _ Ar.in1 (Builtin.Builtins.bindParams "min" ["key", "default"] 0 ⟨[],[(Str.ofString "default",d)]⟩>>=_) _ _ s;refine ae (Xw (show Builtin.Builtins.bindParams "min" ["key", "default"] 0 ⟨[],[(Str.ofString "default",d)]⟩=pure [none,some d] from rfl) ?_);refine ae (bj ?_);have XZ:l<s.heap.objs.size:=by obtain⟨_,e,_⟩:=hl;exact dq e
 have hlI:l≠s.heap.objs.size:=iq XZ;refine ae (Kb hl ?_);refine ae (qr ?_);rw[nm];have W:=Walks.list (prog:=P) (w:=wd) (A:=Ar.in1) hh s.heap.objs.size l hlI XM;have st:((s.heap.push {cls:=.type "list_iterator",data:=.fields #[.ref l,.int 0 0] }).IsListIter s.heap.objs.size l 0/\(s.heap.push {cls:=.type "list_iterator",data:=.fields #[.ref l,.int 0 0] }).IsList l XM):=⟨⟨_,cx _ rfl,rfl,rfl⟩,hl.push _⟩;refine bj ⟨sk sx _,whole W _ (JQ val YK) _ (λhm=>?_) d (W.frame _ _ _ st λb _ o e=>ba _ e) (cx _ rfl) λv h' tk f1 f2 kp=>?_⟩
 .have hz:(s.heap.push {cls:=.type "list_iterator",data:=.fields #[.ref l,.int 0 0] }).objs.size=s.heap.objs.size+1:=oo ..;rw[hz] at hm
  rcases gL.mp hm with e|hm
  .exact absurd e (Nat.succ_ne_self _)
  .have:=bc.mp hm;exact absurd XZ (by rw[<-this];exact Nat.not_lt_of_le (xc _))
 refine h v h' tk f1 f2 λb o e=>kp b o ?_ ?_ ?_
 .intro z;have:=bc.mp z;exact absurd (this▸dq e) (oC _)
 .refine iq (ip (dq e) ?_);show s.heap.objs.size<=(s.heap.push _).objs.size;rw[oo];exact xc _
 .exact ba _ (ba _ e)
theorem pM(f:Nat->VE):∀k,argBest (λi j=>decide (f i<f j)) k<=k/\∀j,j<=k->¬f j<f (argBest (λi j=>decide (f i<f j)) k)
 | 0=>by
  refine⟨bb _,λj hj=>?_⟩;have e:j=0:=by lia
  rw[e];exact hX _
 |k+1=>by
  obtain⟨a,b⟩:=pM f k;unfold argBest
  by_cases h:f (k+1)<f (argBest (λi j=>decide (f i<f j)) k)
  .rw[df (dr h)];refine⟨bb _,λj hj=>?_⟩
   by_cases e:j=k+1
   .subst e;exact hX _
   .exact λz=>b j ⋯ (ke z h)
  .rw[cq (by simpa using h)];refine⟨by lia,λj hj=>?_⟩
   by_cases e:j=k+1
   .subst e;exact h
   .exact b j ⋯
end
end MinD
namespace L2
open PySem PySem.Spec PyProof.Rows
def Bj(K:W.Frag)(ta td:TE):TE:=λY H Q=>ta Y H λx H1=>td Y H1 λd H2=>∃p,∃ns:VF,x=.ref p/\bw K H2 p (ns.map av)/\(ns=[]->Q d H2)/\(∀m,m∈ns->(∀y∈ns,¬y<m)->Q (.str (txt m)) H2)
section
variable{X:Cx}
theorem Ng{e d:γ}{ta td:TE}{p pos kp:Pos}(hc:X.calm=true)(hg:Gl X "min")(hm:X.mg "min" =none)(he:PE X e ta)(hd:PE X d td)
  (h1:backTo pos (starEach [e] X.env)=(false,eval e X.env)::backTo pos (starEach [] X.env)) (h2:(backTo pos (starEach [e] X.env)).any (·.1)=false)
  (h3:(backToKw pos (keywordEach [⟨some "default",d,kp⟩] X.env)).all (·.1.isSome)=true) (h4:(backToKw pos (keywordEach [⟨some "default",d,kp⟩] X.env)).any (·.1.isNone)=false)
  (h5:(backToKw pos (keywordEach [⟨some "default",d,kp⟩] X.env)).filterMap (·.1)=[Str.ofString "default"]) (hs:starEach [e] X.env=(false,eval e X.env)::starEach [] X.env):
  PE X (.Call (.Name "min" p) [e] [⟨some "default",d,kp⟩] pos) (Bj X.K ta td):=by
 intro Z0 s Y H Q I h;refine yA (n9 I hg hm xf ?_ .(0) .(0));refine PyProof.Rows.callWith_kw ?_ h1 h2 h3 h4;refine cT (yo he Cw hs pos Z0 s Y H (λvs H1=>∃x,vs=[x]/\td Y H1 λd H2=>∃p,∃ns:VF,x=.ref p/\bw X.K H2 p (ns.map av)/\(ns=[]->Q d H2)/\(∀m,m∈ns->(∀y∈ns,¬y<m)->Q (.str (txt m)) H2)) I ?_) λus s1 ⟨vs,H1,I1,r1,x,e1,q1⟩=>?_
 .exact(show ta Y H λx H1=>∃y,[x]=[y]/\_ from by
   have:(λ(x:V) (H1:Hp)=>td Y H1 λd H2=>∃p,∃ns:VF,x=.ref p/\bw X.K H2 p (ns.map av)/\(ns=[]->Q d H2)/\(∀m,m∈ns->(∀y∈ns,¬y<m)->Q (.str (txt m)) H2))=λ(x:V) (H1:Hp)=>∃y,[x]=[y]/\td Y H1 λd H2=>∃p,∃ns:VF,y=.ref p/\bw X.K H2 p (ns.map av)/\(ns=[]->Q d H2)/\(∀m,m∈ns->(∀y∈ns,¬y<m)->Q (.str (txt m)) H2):=by
    funext x H1
    exact propext ⟨λz=>⟨x,rfl,z⟩,λ⟨y,e,z⟩=>by cases e;exact z⟩
   unfold Bj at h;rw[this] at h;exact h)
 .subst e1;obtain⟨u,rfl,ru⟩:=vals1 r1;refine cT (MD hd Pd pos Z0 s1 Y H1 (λvs H2=>∃d,vs=[d]/\∃p,∃ns:VF,x=.ref p/\bw X.K H2 p (ns.map av)/\(ns=[]->Q d H2)/\(∀m,m∈ns->(∀y∈ns,¬y<m)->Q (.str (txt m)) H2)) I1 ?_) λws s2 ⟨zs,H2,I2,r2,dv,e2,pa,ns,e3,hq,q0,q2⟩=>?_
  .exact(show td Y H1 λd H2=>∃d',[d]=[d']/\_ from by
    have:(λ(d:V) (H2:Hp)=>∃p,∃ns:VF,x=.ref p/\bw X.K H2 p (ns.map av)/\(ns=[]->Q d H2)/\(∀m,m∈ns->(∀y∈ns,¬y<m)->Q (.str (txt m)) H2))=λ(d:V) (H2:Hp)=>∃d',[d]=[d']/\∃p,∃ns:VF,x=.ref p/\bw X.K H2 p (ns.map av)/\(ns=[]->Q d' H2)/\(∀m,m∈ns->(∀y∈ns,¬y<m)->Q (.str (txt m)) H2):=by
     funext d H2
     exact propext ⟨λz=>⟨d,rfl,z⟩,λ⟨y,e,z⟩=>by cases e;exact z⟩
    rw[this] at q1;exact q1)
  .subst e2 e3;cases ru;obtain⟨wv,rfl,YE⟩:=vals1 r2;rw[h5];obtain⟨XM,rv,pl,hz⟩:=I2.list hq;have lx:ns.length=XM.length:=by have:=rv.length;rwa[aw] at this
   have YK:∀(i:Nat) (v:ζ),XM.toArray[i]?=some v->∃t,v=Value.str (txt (ns.getD i [])) t:=λi v e=>by
    rw[Pm] at e;have hi:=(bo.mp e).1;obtain⟨u,hu,ru⟩:=rv.get (i:=i) (x:=av ns[i]) (by rw[cn,dk ⋯];rfl);rw[e] at hu;cases hu;rw[hE,dk ⋯];exact ru
   show wpAny _ X.A (call (.builtin "min") [.ref pa] [(Str.ofString "default",wv)]) _ _ _;refine MinD.G9 (I2.ok.hd hc) pl.isList (λi=>ns.getD i []) YK λv h' tk f1 f2 kp=>?_;have I3:Inv X Z0 Y H2 {s2 with heap:=h',toks:=tk}:=I2.kept kp
   by_cases hn:ns=[]
   .have:XM.toArray.size=0:=by rw[ix,<-lx,hn];rfl
    rw[f2 this];exact⟨dv,H2,I3,YE,q0 hn⟩
   .have h0:0<XM.toArray.size:=by rw[ix,<-lx];exact Fh.mpr hn
    have fv:=f1 h0;obtain⟨b1,b2⟩:=MinD.pM (λi=>ns.getD i []) (XM.toArray.size-1);generalize argBest _ (XM.toArray.size-1)=k at fv b1 b2;obtain⟨t,rfl⟩:=YK k v fv;have at_:∀i,i<ns.length->ns[i]?=some (ns.getD i []):=λi hi=>by
     rw[hE,dk hi];rfl
    rw[ix,<-lx] at h0 b1 b2;refine⟨.str _,H2,I3,⟨t,rfl⟩,q2 _ (dy (at_ k ⋯)) λy hy=>?_⟩;obtain⟨i,hi,e⟩:=Qr hy;have:=at_ i hi;rw[dk hi,e] at this;rw[eI this];exact b2 i ⋯
end
section
variable{X:Cx}{e o value d:γ}{es:VI γ}{f x m:Str}{pos pos' p apos kp:Pos}{ta tv td:TE}{t:TA}
theorem Nh(he:QE X e ta)(hd:QE X d td)(hm:X.mg "min" =none)(hc:X.calm=true:=by rfl')(hg:X.env.kindOf "min" =some .globalImplicit:=by rfl')
  (h1:backTo pos (starEach [e] X.env)=(false,eval e X.env)::backTo pos (starEach [] X.env):=by rfl') (h2:(backTo pos (starEach [e] X.env)).any (·.1)=false:=by rfl')
  (h3:(backToKw pos (keywordEach [⟨some "default",d,kp⟩] X.env)).all (·.1.isSome)=true:=by rfl') (h4:(backToKw pos (keywordEach [⟨some "default",d,kp⟩] X.env)).any (·.1.isNone)=false:=by rfl')
  (h5:(backToKw pos (keywordEach [⟨some "default",d,kp⟩] X.env)).filterMap (·.1)=[Str.ofString "default"]:=by rfl') (hs:starEach [e] X.env=(false,eval e X.env)::starEach [] X.env:=by rfl'):
  QE X (.Call (.Name "min" p) [e] [⟨some "default",d,kp⟩] pos) (Bj X.K ta td):=⟨Ng hc hg hm he.p hd.p h1 h2 h3 h4 h5 hs⟩
end
section
variable{X:Cx}{Z0:VI (θ×Obj)}{Y:St}{H:Hp}{s:η}
theorem Inv.freeze{d:θ}{o:Obj}{kvs:VI (Key×V)}(I:Inv X Z0 Y H s)(hd:H d=some (.dK kvs))(ho:s.heap.get? d=some o):Inv X Z0 Y (upd H d (.frz o (.dK kvs))) s:=by
 have ok:=I.hok d _ hd;have new:cY X.prog X.w (upd H d (.frz o (.dK kvs))) s.heap d (.frz o (.dK kvs)):=⟨ho,ok⟩;exact I.write (t':=s.toks) (h':=s.heap) (x:=d) (e:=d) (by rw[hd];exact True.intro) (.inl rfl) (λ_ _ _ e=>e) ⟨o,ho⟩ new
theorem Inv.UI{σ0:St}{pins0:VI (θ×Obj)}{H0:Hp}{s0:η}{d:θ}{o:Obj}{k0 kvs:VI (Key×V)}(I0:Inv X pins0 σ0 H0 s0)(h0:H0 d=some (.dK k0))(I:Inv X Z0 Y H s)(hd:H d=some (.frz o (.dK kvs))):Inv X Z0 Y (upd H d (.dK kvs)) s:=by
 have ne:∀{b:θ},H b=none->b≠d:=λh z=>by subst z;rw[hd] at h;cases h
 have ok:=I.hok d _ hd;refine⟨I.ok,I.os,I.bare,⟨I.base.keep,I.base.slot,λb ob e n hx=>?_,I.base.there,λb xs e=>?_,λb ob u e=>?_,λb ps e=>?_⟩,I.loc,I.cell,?_,λx c e=>?_,λp hp=>?_,λb u e=>?_,I.len⟩
 .have:=I.base.free b ob e n hx;rw[aH (ne this)];exact this
 .have:=I.base.tups b xs e;rw[aH (λz=>by subst z;rw[hd] at this;cases this)];exact this
 .have:=I.base.frzs b ob u e;rw[aH (λz=>by subst z;have q:=I0.base.frzs _ ob u e;rw[h0] at q;cases q)];exact this
 .obtain⟨more,this⟩:=I.base.tbls b ps e;exact⟨more,by rw[aH (λz=>by subst z;rw[hd] at this;cases this)];exact this⟩
 .rw[aH (ne I.free)];exact I.free
 .rw[aH (ne (I.freeC x c e))];exact I.freeC x c e
 .obtain⟨a,b,c⟩:=I.pin p hp;exact⟨a,by rw[aH (ne b)];exact b,c⟩
 .have st:∀{a:θ} {u:HO},cY X.prog X.w H s.heap a u->cY X.prog X.w (upd H d (.dK kvs)) s.heap a u:=λx=>x.stay (λ_ _ _ q=>q)
   (λc q=>by rw[aH (λz=>by subst z;rw[hd] at q;cases q)];exact q) (λc xs q=>by rw[aH (λz=>by subst z;rw[hd] at q;cases q)];exact q)
  by_cases hb:b=d
  .subst hb;rw[aq] at e;cases e;exact st ok.2
  .rw[aH hb] at e;exact st (I.hok b u e)
def Vm(a:θ)(o:Obj)(kvs:VI (Key×V)):It:=⟨λi H=>H a=some (.frz o (.dK kvs))/\i<kvs.length,λi H x H'=>H'=H/\∃k v,kvs[i]?=some (k,v)/\x=kV k,λi H=>H a=some (.frz o (.dK kvs))/\kvs.length<=i⟩
theorem KV.get{kvs:VI (Key×V)}{vs:VI (Key×ζ)}(r:KV kvs vs):∀{i:Nat} {k:Key} {v:V},kvs[i]?=some (k,v)->∃u,vs[i]?=some (k,u):=by
 induction r with
 |nil=>intro i k v e;simp at e
 |@cons p q ps qs h t ih=>
  intro i k v e;cases i with
  |zero=>
   simp at e
   subst e;obtain⟨q1,q2⟩:=q;have h1:k=q1:=h.1;subst h1;exact⟨q2,rfl⟩
  |succ i=>exact ih (by simpa using e)
theorem JR{P:ι}{w:ν}{h:ε}{a:θ}{o:Obj}{es:Array DictEntry}{ep:Nat}{kvs:VI (Key×V)}(hd:o.data=.dict es ep)(x:cY P w H h a (.frz o (.dK kvs))):∃vs,KV kvs vs/\h.DictAt (bN P w) a vs ep:=by
 obtain⟨ho,z,y,vs,r,ob,YS,ZZ,e,c1,c2,c3⟩:=x;rw[ho] at e;cases e;rw[hd] at c2;cases c2;exact⟨vs,r,o,es,ho,c1,hd,c3⟩
theorem yS{P:ι}{w:ν}{k:Key}{u:ζ}(h:(bN P w).is k u=true):RelV (kV k) u:=by
 rcases dj (show rU k u=true from h) with⟨i,t,rfl,rfl⟩|⟨x,t,rfl,rfl⟩|⟨rfl,rfl⟩
 .exact⟨t,rfl⟩
 .exact⟨t,rfl⟩
 .rfl
theorem Hh{P:ι}{w:ν}{K:W.Frag}{tg:γ}(a it:θ)(o:Obj)(kvs:VI (Key×V))(es:Array DictEntry)(ep:Nat)(ZD:o.data=.dict es ep):Turn P w K tg (Vm a o kvs) [it] it (λi h=>h.IsKeyIter it a i kvs.length ep) where
 mem:=by simp
 obj:=λi h st b hb=>by
  have e:b=it:=by simpa using hb
  subst e;obtain⟨o,e,c,d⟩:=st;exact⟨o,e,λv z=>by rw[d] at z;cases z⟩
 keep:=λi h h' st k=>st.at λo e=>k it .(4) o e
 item:=by
  intro X hP hw hK hc i Z0 s Y H E I hf st hg;subst hP hw hK;obtain⟨hq,hx⟩:=hg;obtain⟨vs,r,da⟩:=JR ZD (I.hok a _ hq);have hl:=r.length;rw[hl] at st;obtain⟨⟨k,v⟩,Yh⟩:∃p,kvs[i]?=some p:=⟨kvs[i],dk hx⟩;obtain⟨u,hu⟩:=r.get Yh;obtain⟨f0,f1,f2,f3,f4,f5⟩:=hf it .(4);refine wpAny_pyNext_dict_item st da hu λkey h' hk X8 sb=>?_;have I1:Inv X Z0 Y H {s with heap:=h' }:=I.turned (t':=s.toks) (λb o hb e=>(sb.2 b hb).trans e) f0 f1 f3 f4 f5
  obtain⟨ob,e,c,d⟩:=id X8;rw[<-hl] at X8;exact⟨key,rfl,Ej (s:={s with heap:=h' }) e c d .(0) ⟨kV k,H,I1,yS hk,⟨rfl,k,v,Yh,rfl⟩,X8,λb hb=>(hf b hb).1⟩⟩
 done:=by
  intro X hP hw hK hc i Z0 s Y H E I hf st hg;subst hP hw hK;obtain⟨hq,hx⟩:=hg;obtain⟨vs,r,da⟩:=JR ZD (I.hok a _ hq);have hl:=r.length;rw[hl] at st;obtain⟨f0,f1,f2,f3,f4,f5⟩:=hf it .(4);exact wpAny_pyNext_dict_end (I.ok.hd hc) st da (mn ⋯) λh' eb=>⟨rfl,I.turned (t':=s.toks) (λb o hb e=>eb b o hb e) f0 f1 f3 f4 f5⟩
 self:=λ_ _ _ _ _ st h=>wpAny_pyIter_keyiter st h
def Bk(tl:TE):TI:=λY H R=>tl Y H λx H1=>∃a kvs,x=.ref a/\H1 a=some (.dK kvs)/\∀o,R (Vm a o kvs) (upd H1 a (.frz o (.dK kvs)))
theorem Nj{tg l:γ}{tl:TE}(hl:PE X l tl):PI X tg l (Bk tl):=by
 intro Z0 s Y H R I h;refine cT (hl Z0 s Y H _ I h) λv s1 ⟨x,H1,I1,r1,q1⟩=>?_;obtain⟨a,kvs,e,hd,q⟩:=q1;subst e;cases r1;obtain⟨z,hs,vs,rel,dd⟩:=lJ I1.hok hd;obtain⟨ep,da⟩:=dd.dictAt;obtain⟨o,es,ho,c1,c2,c3⟩:=id da;have hlen:=rel.length;refine wpAny_pyIter_dict hs da ?_;have I2:=(I1.freeze hd ho).kept (t':=s1.toks) (h':=s1.heap.push {cls:=.type "dict_keyiterator",data:=.fields #[.ref a,.int 0 0,.int vs.length 0,.int ep 0] }) λb o e=>ba _ e;refine⟨s1.heap.objs.size,[s1.heap.objs.size],_,_,_,rfl,I2,Hh a _ o kvs es ep c2,⟨_,cx _ rfl,rfl,by rw[hlen];rfl⟩,λb hb=>?_,q o⟩;have e:b=s1.heap.objs.size:=by simpa using hb
 subst e;exact(I1.freeze hd ho).Mp (bb _) ((I1.freeze hd ho).hok.fresh (bb _))
theorem ES{tg a:γ}{tl:TE}(hl:QE X a tl):QI X tg a (Bk tl):=⟨Nj hl.p⟩
def ET(te:TE):TE:=λY H Q=>te Y H λx H1=>∃a o k0 kvs,H a=some (.dK k0)/\H1 a=some (.frz o (.dK kvs))/\Q x (upd H1 a (.dK kvs))
theorem EU{e:γ}{te:TE}(h:QE X e te):QE X e (ET te):=⟨λZ0 s Y H Q I q=>cT (h.p Z0 s Y H _ I q) λv s1 ⟨x,H1,I1,r1,a,o,k0,kvs,h0,h1,q1⟩=>⟨x,_,I.UI h0 I1 h1,r1,q1⟩⟩
theorem JS{tl:TE}{a:θ}{kvs:VI (Key×V)}{Y:St}{fs:VE}{tt:TT}{te:TE}{H:Hp}{Q:VK}(ha:∀Q:VK,Q (.ref a) H->tl Y H Q)(hq:H a=some (.dK kvs))(Pv:Nat->VI V->Hp->Prop)(h0:∀H',(∀b,b≠a->H' b=H b)->Pv 0 [] H')(hl:∀i ys H',i<=kvs.length->Pv i ys H'->ys.length<=i)(hn:kvs.length<=sizeLine)
  (hs:∀i k v ys H',kvs[i]?=some (k,v)->Pv i ys H'->∀R:VI V->Hp->Prop,(∀X4 H'',Pv (i+1) X4 H''->H'' a=H' a->R X4 H'')->tt (some (kV k)::br fs Y) H' λb H2=>if b=true then te (some (kV k)::br fs Y) H2 λy H3=>R (ys++[y]) H3 else R ys H2)
  (hd:∀ys H',Pv kvs.length ys H'->∀p,H' p=none->p≠a->Q (.ref p) (upd (upd H' a (.dK kvs)) p (.lst ys))):ET (eG (Bk tl) fs tt te) Y H Q:=by
 refine ha _ ⟨a,kvs,rfl,hq,λo=>?_⟩;refine⟨λi m ys H'=>m=kvs.length-i/\i<=kvs.length/\H' a=some (.frz o (.dK kvs))/\Pv i ys H',⟨kvs.length,by simp,mi _,aq,h0 _ λb hb=>aH hb⟩,?_⟩;rintro i m ys H' ⟨rfl,hi,hf,p⟩;have hle:=hl i ys H' hi p;refine⟨by lia,?_⟩
 by_cases XZ:i<kvs.length
 .refine .inr ⟨⟨hf,XZ⟩,by lia,λx H'' y=>?_⟩
  obtain⟨e,k,v,Yh,ex⟩:=y;subst e ex;exact hs i k v ys _ Yh p (λX4 H2=>∃m',m'<kvs.length-i/\m'=kvs.length-(i+1)/\i+1<=kvs.length/\H2 a=some (.frz o (.dK kvs))/\Pv (i+1) X4 H2) λX4 H2 q e=>⟨kvs.length-(i+1),by lia,rfl,XZ,by rw[e];exact hf,q⟩
 .have e:i=kvs.length:=by lia
  subst e;refine .inl ⟨⟨hf,bb _⟩,λp2 YI=>?_⟩;have ne:p2≠a:=λz=>by subst z;rw[hf] at YI;cases YI
  refine⟨a,o,kvs,kvs,hq,by rw[aH (du ne)];exact hf,?_⟩;have eq:upd (upd H' p2 (.lst ys)) a (.dK kvs)=upd (upd H' a (.dK kvs)) p2 (.lst ys):=by
   funext b
   unfold upd
   by_cases h1:b=a
   .subst h1;simp[Ne.symm ne]
   .by_cases h2:b=p2
    .subst h2;simp[h1]
    .simp[h1,h2]
  rw[eq];exact hd ys H' p p2 YI ne
end
end L2
namespace DOf
open PySem PyProof.Rows PySem.Calls
theorem miss:typeLookup (.type "list") "keys" =pure none:=by rw[Ta,y6];rfl'
section
variable{prog:ι}{w:ν}{A:ξ}{E:ζ->η->Prop}
theorem Hi{s:η}{a:θ}{o:Obj}{xs:Array ζ}{k:Nat}{Q:ο ζ->η->Prop}
  (hx:s.heap.get? a=some o) (hc:o.cls=.type "list") (ZS:o.data=.seq xs k) (hd:o.dict=none) (hA:A.handled=none)
  (h:∀h' tk e,Heap.NewExcOf s.heap h' e "AttributeError"->Q none {s with heap:=h',toks:=tk}):
  wpAny .(2) A (getAttr? (.ref a) "keys") Q E s:=by
 obtain⟨c,dct,dat,sl⟩:=o;simp only at hc ZS hd;subst hc ZS hd;obtain⟨hp,g,d,tk,os⟩:=s;have hT:∀Yg,(⟨hp,g,d,Yg,os⟩:η).TypeIs (.ref a) "list":=λ_=>⟨_,hx,rfl⟩;have f1:=sub_AttributeError;have f3:=QR.lookup;have f4:=QR.bind (.ref a);have f5:=am_list_getattr_none;unfold getAttr? getAttrBy? getAttrBy
 repeat (any_goals (first|assumption|exact hT _|((with_reducible show wpAny _ _ (call (Value.builtin "list.__getattribute__") _ _) _ _ _);refine call_meets QR (hT _) am_entry_list_getattribute (F.args_list_getattribute_2 _ _) (meets_getattribute_miss_list a xs k sl "keys" _ miss (by decide+kernel) (by size_fits)) ⟨hx,hA,λh' Yg e Zr=>?_⟩)|wp_step))
 obtain⟨t',u',he⟩:=Zr.there;show wpAny _ _ (getattributeRaised _ _ _ _ _ _ _) _ _ _;unfold getattributeRaised
 repeat (any_goals (first|assumption|wp_step))
 exact h _ _ _ Zr.of
theorem vB:entryFor table "dict.update.loop" =some Builtin.«dict.update.loop»:=by first|exact entryFor_of_fast (by rfl')|exact entryFor_of_tree (by rfl')
theorem ku:plainId "dict.update.loop" =true:=by decide+kernel
variable{K:Type}[DecidableEq K]{knd:PySem.KeyKind prog w K}
def C5(knd:PySem.KeyKind prog w K)(h:ε)(items:VI ζ)(ps:VI (K×ζ)):Prop:=items.length=ps.length/\∀(j:Nat) (k:K) (v:ζ),ps[j]?=some (k,v)->∃a u,items[j]?=some (.ref a)/\h.IsTuple a #[u,v]/\knd.is k u=true
theorem loop(hh:A.handled=none){d it l:θ}(hil:it≠l)(ZP:it≠d)(hdl:d≠l){items:VI ζ}{ps:VI (K×ζ)}{R:Result->η->Prop}:
  ∀(n i:Nat) (s:η) (kvs:VI (K×ζ)),ps.length=i+n->s.heap.IsListIter it l i->s.heap.IsList l items.toArray->s.heap.DictOf knd d kvs->C5 knd s.heap items ps->kvs.length+n<=sizeLine->
  (∀h' tk,h'.DictOf knd d (merged kvs (ps.drop i))->(∀b o,b≠d->b≠it->s.heap.get? b=some o->h'.get? b=some o)->R (.ok (.ret .none)) {s with heap:=h',toks:=tk})->
  codeAny .(2) A (.builtin "dict.update.loop" ⟨[.ref d,.ref it,rawInt (i:Int),.none],[]⟩) R s:=by
 intro n
 induction n with
 |zero=>
  intro i s kvs hn st hl hd hp hz q;have Ze:ps.drop i=[]:=VX ⋯;rw[Ze] at q;refine so vB ?_;rw[mr ku _];show wpAny _ A.in1 (pyNext (.ref it)>>=_) _ _ s;refine ae (wpAny_pyNext_list_end (A:=A.in1) hh st hl (by rw[Pm];exact mn (by rw[hp.1];lia)) λh' eb=>?_);show wpAny _ A.in1 (Builtin.Dict.addKeywords d []>>=_) _ _ _;refine ae (bj (bj ?_));have Yv:h'.DictOf knd d kvs:=hd.extBut eb ZP.symm;exact q h' _ Yv λb o _ hb e=>eb b o hb e
 |succ n ih=>
  intro i s kvs hn st hl hd hp hz q;obtain⟨⟨k,v⟩,Yh⟩:∃p,ps[i]?=some p:=⟨_,dk (show i<ps.length by lia)⟩;obtain⟨a,u,hit,ht,hk⟩:=hp.2 i k v Yh;refine so vB ?_;rw[mr ku _];show wpAny _ A.in1 (pyNext (.ref it)>>=_) _ _ s;refine ae (wpAny_pyNext_list_item st hl (x:=.ref a) (by simpa using hit) λh' X8 sb=>?_);show wpAny _ A.in1 (holding [.ref a] _>>=_) _ _ _;refine ae (me (ae (NA ?_)));unfold Builtin.Dict.pairItems;have ne:∀b xs,s.heap.IsTuple b xs->b≠it/\b≠d:=λb xs ⟨o,ho,hc,_⟩=>by
   refine⟨λz=>?_,λz=>?_⟩
   .obtain⟨o',Zl,Zb,_⟩:=st;rw[z,Zl] at ho;cases ho;rw[Zb] at hc;injection hc with hc
    exact absurd hc .(0)
   .obtain⟨o',Zl,Zb⟩:=hd.typeIs (s:=s);rw[z,Zl] at ho;cases ho;rw[Zb] at hc;injection hc with hc
    exact absurd hc .(0)
  have ht':h'.IsTuple a #[u,v]:=let ⟨o,ho,r⟩:=ht;⟨o,(sb.2 a (ne a _ ht).1).trans ho,r⟩;obtain⟨o,ho,hc,n0,ZS⟩:=id ht';refine ae (Wn (T:="tuple") ⟨o,ho,hc⟩ ?_);rw[df .(0)];refine ae (VR ho ZS (bj ?_));show wpAny _ _ (holding [u,v] (dictSet d u v)) _ _ _;have Yv:h'.DictOf knd d kvs:=hd.extBut sb.extBut ZP.symm;refine me (wpAny_dictSet_pairs hk Yv (λh2 hd2 sb2=>?_) ⋯);have e1:merged kvs (ps.drop i)=merged (stored kvs k v) (ps.drop (i+1)):=by
   rw[wq (show i<ps.length by lia)];have:ps[i]=(k,v):=eI ((dk _).symm.trans Yh);rw[this];rfl
  rw[e1] at q;have kp:∀b o,b≠d->b≠it->s.heap.get? b=some o->h2.get? b=some o:=λb o h1 Zx e=>(sb2.2 b h1).trans ((sb.2 b Zx).trans e);refine bj ⟨sk ku _,?_⟩;have:=ih (i+1) {s with heap:=h2,toks:=s.toks+1} (stored kvs k v) ⋯ (X8.at λo e=>(sb2.2 it ZP).trans e) (hl.at λo e=>kp l o hdl.symm hil.symm e) hd2
   ⟨hp.1,λj k' v' e=>by
    obtain⟨a',u',x1,x2,x3⟩:=hp.2 j k' v' e;obtain⟨o',y1,y2⟩:=id x2;exact⟨a',u',x1,⟨o',kp a' o' (ne a' _ x2).2 (ne a' _ x2).1 y1,y2⟩,x3⟩⟩
   (by have:=stored_length_le kvs k v;lia) λh3 tk hd3 k3=>q h3 tk hd3 λb o h1 Zx e=>k3 b o h1 Zx (kp b o h1 Zx e)
  rwa[show ((i+1:Nat):Int)=(i:Int)+1 by lia] at this
theorem Hj{s:η}{l:θ}{items:VI ζ}{c:Nat}{ps:VI (K×ζ)}{Q:ζ->η->Prop}(hh:A.handled=none)(hlst:s.heap.get? l=some {cls:=.type "list",dict:=none,data:=.seq items.toArray c,slots:=#[] })(hp:C5 knd s.heap items ps)(hz:ps.length<=sizeLine)
  (h:∀h' tk,h'.DictOf knd s.heap.objs.size (merged [] ps)->(∀b o,s.heap.get? b=some o->h'.get? b=some o)->Q (.ref s.heap.objs.size) {s with heap:=h',toks:=tk}):
  wpAny .(2) A (call (.type "dict") [.ref l]) Q E s:=by
 refine callType_codes (Q₁:=λobj s₁=>obj=.ref s.heap.objs.size/\s₁={s with heap:=s.heap.push {cls:=.type "dict",data:=.dict #[] } }) PySem.F.kt_called_dict (PySem.F.kt_typeCall_dict_1 _) PySem.F.entry_dict_init (kt_code_dict_new _ ⟨rfl,rfl⟩) ?_;rintro obj s₁ ⟨rfl,rfl⟩;have ZT:(s.heap.push {cls:=.type "dict",data:=.dict #[] }).DictOf knd s.heap.objs.size []:=Heap.DictOf.new s.heap;refine⟨ZT.typeIs,PySem.F.args_dict_init_2 _ _,?_⟩;have XZ:l<s.heap.objs.size:=dq hlst;have Zi:=ba {cls:=.type "dict",data:=.dict #[] } hlst;unfold Builtin.«dict.__init__»;refine ae ?_;unfold Builtin.Dict.selfAndRest;refine ae (wpAny_notOrdered_dict ZT.typeIs ?_);show wpAny _ _ (pure (s.heap.objs.size,[Value.ref l])) _ _ _;refine bj ?_;show wpAny _ _ (Builtin.Dict.updateFrom "dict.__init__" s.heap.objs.size (.ref l) [] .none) _ _ _;unfold Builtin.Dict.updateFrom;refine ae (Wn (T:="list") ⟨_,Zi,rfl⟩ ?_);rw[df .(0)];refine ae (Hi Zi rfl rfl rfl (by exact hh) λh2 tk2 e2 ne2=>?_);have k2:∀b o,(s.heap.push {cls:=.type "dict",data:=.dict #[] }).get? b=some o->h2.get? b=some o:=λb o e=>ne2.keeps b o e;simp only[Option.isNone_none,if_true];refine ae (FC ?_);have Y1:h2.IsList l items.toArray:=⟨_,k2 _ _ Zi,rfl,_,rfl⟩;refine ae (Kb Y1 ?_);refine bj ⟨sk ku _,?_⟩;have hd2:(h2.push {cls:=.type "list_iterator",data:=.fields #[.ref l,.int 0 0] }).DictOf knd s.heap.objs.size []:=ZT.keep (λb o e=>ba _ (k2 b o e));have sz:s.heap.objs.size<h2.objs.size:=by obtain⟨_,_,_,e,_⟩:=ZT;exact dq (k2 _ _ e)
 have lt2:l<h2.objs.size:=dq (k2 _ _ Zi);refine loop (knd:=knd) (A:=A.in1) hh (VM lt2) (VM sz) (VM XZ) ps.length 0 _ [] ⋯ ⟨_,cx _ rfl,rfl,rfl⟩ (Y1.push _) hd2
  ⟨hp.1,λj k v e=>by
   obtain⟨a,u,x1,⟨o,y1,y2⟩,x3⟩:=hp.2 j k v e;exact⟨a,u,x1,⟨o,ba _ (k2 _ _ (ba _ y1)),y2⟩,x3⟩⟩ (by simpa using hz) λh3 tk hd3 k3=>?_
 rw[XB] at hd3;refine⟨rfl,h h3 tk hd3 λb o e=>?_⟩;have hb:=dq e;exact k3 b o (iq hb) (iq (XI hb sz)) (ba _ (k2 _ _ (ba _ e)))
end
end DOf
namespace L2
open PySem PySem.Spec PyProof.Rows
def UJ(H:Hp)(ys:VI V)(ps:VI (Key×V)):Prop:=ys.length=ps.length/\∀(i:Nat) (k:Key) (v:V),ps[i]?=some (k,v)->∃t,ys[i]?=some (.ref t)/\H t=some (.tup [kV k,v])
abbrev tY:VI V->Hp->VK->Prop:=λxs H Q=>∃p ys ps,xs=[.ref p]/\H p=some (.lst ys)/\UJ H ys ps/\∀d,H d=none->Q (.ref d) (upd H d (.dK (gM [] ps)))
theorem su{P:ι}{w:ν}{h:ε}:∀{ps:VI (Key×V)} {items:VI ζ},items.length=ps.length->
  (∀(i:Nat) (k:Key) (v:V),ps[i]?=some (k,v)->∃a u x,items[i]?=some (.ref a)/\h.IsTuple a #[u,x]/\(bN P w).is k u=true/\RelV v x)->∃rs,KV ps rs/\DOf.C5 (bN P w) h items rs
 |[],[],_,_=>⟨[],.nil,rfl,λj k v e=>by simp at e⟩
 |[],_::_,e,_=>by simp at e
 |_::_,[],e,_=>by simp at e
 |(k,v)::ps,it::items,e,h1=>by
  obtain⟨rs,r1,r2,r3⟩:=su (ps:=ps) (items:=items) (by simpa using e) λi k' v' e'=>by simpa using h1 (i+1) k' v' (by simpa using e')
  obtain⟨a,u,x,x1,x2,x3,x4⟩:=h1 0 k v rfl;refine⟨(k,x)::rs,.cons ⟨rfl,x4⟩ r1,by simp[r2],λj k' v' e'=>?_⟩
  cases j with
  |zero=>
   simp at e'
   obtain⟨rfl,rfl⟩:=e';exact⟨a,u,x1,x2,x3⟩
  |succ j=>simpa using r3 j k' v' (by simpa using e')
theorem lK{X:Cx}(hc:X.calm=true):fj X (.type "dict") tY:=by
 intro Z0 s Y H xs us Q I r h;obtain⟨p,ys,ps,rfl,hH,⟨hl,hp⟩,q⟩:=h;obtain⟨u,rfl,ru⟩:=vals1 r;cases ru;obtain⟨z,XM,n,rv,hn,e⟩:=I.MJ hH;have hlen:=rv.length;obtain⟨rs,k1,k2⟩:=su (P:=X.prog) (w:=X.w) (h:=s.heap) (ps:=ps) (items:=XM) ⋯ λi k v e'=>by
  obtain⟨t,e1,e2⟩:=hp i k v e';obtain⟨u,hu,ru⟩:=rv.get e1;cases ru;obtain⟨it2,rv2,p2,_⟩:=I.tuple (fT.of e2);cases rv2 with
  |cons r1 rr=>
   cases rr with
   |cons r2 rr=>
    cases rr;exact⟨t,_,_,hu,p2,pP r1,r2⟩
 have Ze:rs.length=ps.length:=k1.length.symm;refine DOf.Hj (knd:=bN X.prog X.w) (I.ok.hd hc) e k2 ⋯ λh' tk hd kp=>?_;have big:=I.big;refine⟨.ref s.heap.objs.size,_,I.laid (t':=tk) (o:=.dK (gM [] ps)) kp (bb _) ⟨?_,?_,merged [] rs,KV.merge k1 .nil,hd⟩,rfl,q _ (I.hok.fresh (bb _))⟩
 .have:=jA ps [];simp at this
  lia
 .exact oP.mpr (VM big)
end L2
namespace KSrt
open PySem PySem.W PyProof.Rows
def run{α:Type}(c:Nat->Nat->Bool):KasT α->α
 |.ret a=>a
 |.ask i j k=>run c (k (c i j))
theorem run_bind{α β:Type}(c:Nat->Nat->Bool)(f:α->KasT β):∀t:KasT α,run c (t.bind f)=run c (f (run c t))
 |.ret _=>rfl
 |.ask i j k=>run_bind c f (k (c i j))
variable{K:Nat->VE}{n:Nat}
def ky(K:Nat->VE)(p:Array Nat)(i:Nat):VE:=K (p.getD i 0)
def cm(K:Nat->VE)(i j:Nat):Bool:=decide (K i<K j)
structure Df(K:Nat->VE)(n:Nat)(p:Array Nat):Prop where
 size:p.size=n
 ne:∀i j,i<n->j<n->i≠j->ky K p i≠ky K p j
def Up(K:Nat->VE)(p:Array Nat)(m:Nat):Prop:=∀i j,i<j->j<m->ky K p i<ky K p j
def Dn(K:Nat->VE)(p:Array Nat)(m:Nat):Prop:=∀i j,i<j->j<m->ky K p j<ky K p i
theorem tot{a b:VE}(h:¬a<b)(ne:a≠b):b<a:=by
 by_cases z:b<a
 .exact z
 .exact absurd (WH (xt.mp z) (xt.mp h)) ne
theorem Up.more{p:Array Nat}{m:Nat}(h:Up K p m)(hl:∀i,i<m->ky K p i<ky K p m):Up K p (m+1):=λi j Yz hj=>by
 rcases wx (Ki hj) with e|e
 .subst e;exact hl i Yz
 .exact h i j Yz e
theorem Up.last{p:Array Nat}{m:Nat}(hm:1<=m)(h:Up K p m)(g:ky K p (m-1)<ky K p m):Up K p (m+1):=h.more λi hi=>by
 rcases wx (show i<=m-1 by lia) with e|e
 .rw[e];exact g
 .exact ke (h i (m-1) e ⋯) g
theorem Dn.last{p:Array Nat}{m:Nat}(hm:1<=m)(h:Dn K p m)(g:ky K p m<ky K p (m-1)):Dn K p (m+1):=λi j Yz hj=>by
 rcases wx (Ki hj) with e|e
 .subst e
  rcases wx (show i<=j-1 by lia) with e|e
  .rw[e];exact g
  .exact ke g (h i (j-1) e ⋯)
 .exact h i j Yz e
theorem yT{p:Array Nat}(d:Df K n p):∀f m,1<=m->m+f<=n->Up K p m->∃r,run (cm K) (kas_asc p f m)=r/\m<=r/\r<=m+f/\Up K p r/\(r<m+f->ky K p r<ky K p (r-1))
 | 0,m,_,_,up=>⟨m,rfl,bb _,bb _,up,λh=>by lia⟩
 |f+1,m,hm,hf,up=>by
  show ∃r,run (cm K) (if cm K (p.getD m 0) (p.getD (m-1) 0)=true then .ret m else kas_asc p f (m+1))=r/\_
  by_cases h:ky K p m<ky K p (m-1)
  .rw[df (show cm K _ _=true from dr h)];exact⟨m,rfl,bb _,by lia,up,λ_=>h⟩
  .rw[cq (by rw[show cm K (p.getD m 0) (p.getD (m-1) 0)=false from eQ h];decide)]
   obtain⟨r,e,a1,a2,a3,a4⟩:=yT d f (m+1) ⋯ ⋯ (up.last hm (tot h (d.ne m (m-1) ⋯ ⋯ ⋯)));exact⟨r,e,by lia,by lia,a3,λz=>a4 ⋯⟩
theorem Bl{p:Array Nat}(d:Df K n p):∀f m,1<=m->m+f<=n->Dn K p m->∃r,run (cm K) (kas_desc f p m 0)=(p,r,0)/\m<=r/\r<=m+f/\Dn K p r
 | 0,m,_,_,dn=>⟨m,rfl,bb _,bb _,dn⟩
 |f+1,m,hm,hf,dn=>by
  show ∃r,run (cm K) (if cm K (p.getD m 0) (p.getD (m-1) 0)=true then(if 0>0 then kas_desc f (kas_rev p (m-(0+1)) m) (m+1) 0 else kas_desc f p (m+1) 0)
   else .ask (p.getD (m-1) 0) (p.getD m 0) λe=>if e=true then .ret (p,m,0) else kas_desc f p (m+1) (0+1))=(p,r,0)/\_
  by_cases h:ky K p m<ky K p (m-1)
  .rw[df (show cm K _ _=true from dr h),cq ⋯];obtain⟨r,e,a1,a2,a3⟩:=Bl d f (m+1) ⋯ ⋯ (dn.last hm h);exact⟨r,e,by lia,by lia,a3⟩
  .rw[cq (by rw[show cm K (p.getD m 0) (p.getD (m-1) 0)=false from eQ h];decide)]
   show ∃r,run (cm K) (if cm K (p.getD (m-1) 0) (p.getD m 0)=true then .ret (p,m,0) else kas_desc f p (m+1) (0+1))=(p,r,0)/\_
   rw[df (show cm K _ _=true from dr (tot h (d.ne m (m-1) ⋯ ⋯ ⋯)))];exact⟨m,rfl,bb _,by lia,dn⟩
theorem jq{p q:Array Nat}{i j:Nat}(h:p[i]?=q[j]?):p.getD i 0=q.getD j 0:=by
 rw[Wo,Wo,h]
theorem yU{p:Array Nat}{m:Nat}(hm:m<=p.size)(k:Nat):ky K (kas_rev p 0 m) k=if k<m then ky K p (m-1-k) else ky K p k:=by
 have e:=getElem?_mirror_all (i:=0) hm k;unfold ky kas_rev
 by_cases h:k<m
 .rw[df ⟨mi _,h⟩] at e;rw[df h,jq e,show 0+m-1-k=m-1-k by lia]
 .rw[cq (λz=>h z.2)] at e;rw[cq h,jq e]
theorem Df.rev{p:Array Nat}{m:Nat}(d:Df K n p)(hm:m<=n):Df K n (kas_rev p 0 m) where
 size:=by unfold kas_rev;rw[WI,d.size]
 ne:=λi j hi hj Yz=>by
  rw[yU (by rw[d.size];exact hm),yU (by rw[d.size];exact hm)];split<;>split<;>exact d.ne _ _ ⋯ ⋯ ⋯
theorem Dn.rev{p:Array Nat}{m:Nat}(hm:m<=p.size)(h:Dn K p m):Up K (kas_rev p 0 m) m:=λi j Yz hj=>by
 rw[yU hm,yU hm,df ⋯,df hj];exact h _ _ ⋯ ⋯
theorem Hl{p:Array Nat}(d:Df K n p)(hn:2<=n):∃r q,run (cm K) (kas_count n p)=(r,q)/\1<=r/\r<=n/\Df K n q/\Up K q r/\q.Perm p:=by
 unfold kas_count;rw[run_bind];obtain⟨r,e,a1,a2,a3,a4⟩:=yT d (n-1) 1 (bb _) ⋯ (λi j h1 h2=>by lia);rw[e]
 by_cases h:r=n
 .rw[df (by simpa using h)];exact⟨r,p,rfl,a1,by lia,d,a3,Wi _⟩
 .rw[cq (by simpa using h)]
  by_cases h1:r>1
  .rw[df h1];show ∃r' q,run (cm K) (if cm K (p.getD 0 0) (p.getD (r-1) 0)=true then .ret (r,p) else kas_descPart r n (kas_rev p 0 r))=(r',q)/\_
   rw[df (show cm K _ _=true from dr (a3 0 (r-1) ⋯ ⋯))];exact⟨r,p,rfl,a1,by lia,d,a3,Wi _⟩
  .rw[cq h1];have er:r=1:=by lia
   subst er;unfold kas_descPart;rw[run_bind];obtain⟨m,e2,b1,b2,b3⟩:=Bl d (n-(1+1)) (1+1) ⋯ ⋯ (λi j h1 h2=>by
    have e1:i=0:=by lia
    have e2:j=1:=by lia
    subst e1 e2;exact a4 ⋯)
   rw[e2];show ∃r q,run (cm K) (if 0>0 then _ else kas_tail3 m n p)=(r,q)/\_;rw[cq ⋯];unfold kas_tail3;rw[run_bind];have hmn:m<=n:=by lia
   obtain⟨r,e3,c1,c2,c3,_⟩:=yT (d.rev hmn) (n-m) m ⋯ ⋯ (b3.rev (by rw[d.size];exact hmn));rw[e3];exact⟨r,_,rfl,by lia,by lia,d.rev hmn,c3,mirror_perm _ _ _ _⟩
theorem qU{p:Array Nat}{k:Nat}(d:Df K n p)(hk:k<n)(up:Up K p k):∀f l r,l<=r->r<=k->r-l<=f->(∀i,i<l->ky K p i<ky K p k)->(∀i,r<=i->i<k->ky K p k<ky K p i)->
  ∃l',run (cm K) (kas_place p k f l r)=l'/\l'<=k/\(∀i,i<l'->ky K p i<ky K p k)/\∀i,l'<=i->i<k->ky K p k<ky K p i
 | 0,l,r,h1,h2,h3,h4,h5=>⟨l,rfl,by lia,h4,λi hi=>h5 i ⋯⟩
 |f+1,l,r,h1,h2,h3,h4,h5=>by
  unfold kas_place
  by_cases h:l≥r
  .rw[df h];exact⟨l,rfl,by lia,h4,λi hi=>h5 i ⋯⟩
  .rw[cq h];show ∃l',run (cm K) (if cm K (p.getD k 0) (p.getD ((l+r)/2) 0)=true then kas_place p k f l ((l+r)/2) else kas_place p k f ((l+r)/2+1) r)=l'/\_
   by_cases z:ky K p k<ky K p ((l+r)/2)
   .rw[df (show cm K _ _=true from dr z)];refine qU d hk up f l ((l+r)/2) ⋯ ⋯ ⋯ h4 λi hi hik=>?_
    rcases wx hi with e|e
    .rw[<-e];exact z
    .exact ke z (up _ i e hik)
   .rw[cq (by rw[show cm K (p.getD k 0) (p.getD ((l+r)/2) 0)=false from eQ z];decide)]
    have g:=tot z (d.ne k ((l+r)/2) hk ⋯ ⋯);refine qU d hk up f ((l+r)/2+1) r ⋯ h2 ⋯ (λi hi=>?_) h5
    rcases wx (Ki hi) with e|e
    .rw[e];exact g
    .exact ke (up i _ e ⋯) g
theorem yV{p:Array Nat}{k l:Nat}(hk:k<p.size)(hl:l<=k)(i:Nat):ky K (bubble p k (k-l)) i=if i=l then ky K p k else if l<i/\i<=k then ky K p (i-1) else ky K p i:=by
 have e:=getElem?_bubble hk (k-l) ⋯ i;rw[show k-(k-l)=l by lia] at e
 unfold ky
 by_cases h1:i=l
 .rw[df h1] at e ⊢;rw[jq e]
 .rw[cq h1] at e ⊢
  by_cases h2:l<i/\i<=k
  .rw[df h2] at e ⊢;rw[jq e]
  .rw[cq h2] at e ⊢;rw[jq e]
theorem EV:∀f (p:Array Nat) k,Df K n p->k+f=n->Up K p k->∃q,run (cm K) (kas_bin f p k)=q/\Df K n q/\Up K q n/\q.Perm p
 | 0,p,k,d,hk,up=>⟨p,rfl,d,by rw[<-hk];exact up,Wi _⟩
 |f+1,p,k,d,hk,up=>by
  unfold kas_bin;rw[run_bind];obtain⟨l,e,a1,a2,a3⟩:=qU d (show k<n by lia) up k 0 k (mi _) (bb _) ⋯ (λi hi=>absurd hi (Xu _)) (λi h1 h2=>by lia);rw[e];have hks:k<p.size:=by rw[d.size];lia
  have d2:Df K n (bubble p k (k-l)):=⟨by rw[bubble_size,d.size],λi j hi hj Yz=>by
   rw[yV hks a1,yV hks a1]
   repeat' split
   all_goals first|(exfalso;lia)|exact d.ne _ _ ⋯ ⋯ ⋯⟩
  have up2:Up K (bubble p k (k-l)) (k+1):=λi j Yz hj=>by
   rw[yV hks a1,yV hks a1]
   repeat' split
   all_goals first|(exfalso;lia)|exact a2 _ ⋯|exact a3 _ ⋯ ⋯|exact up _ _ ⋯ ⋯
  obtain⟨q,e2,b1,b2,b3⟩:=EV f (bubble p k (k-l)) (k+1) d2 ⋯ up2;exact⟨q,e2,b1,b2,b3.trans (bubble_perm _ _ _)⟩
theorem JT(hn:2<=n)(inj:∀i j,i<n->j<n->i≠j->K i≠K j):∃q,run (cm K) (kas_sort n)=q/\Up K q n/\q.Perm (List.toArray (List.range n))/\q.size=n:=by
 have gd:∀i,i<n->(List.toArray (List.range n)).getD i 0=i:=λi hi=>by simp[Array.getD,hi]
 have d:Df K n (List.toArray (List.range n)):=⟨by simp,λi j hi hj Yz=>by unfold ky;rw[gd i hi,gd j hj];exact inj i j hi hj Yz⟩;unfold kas_sort;rw[run_bind];obtain⟨r,q,e,a1,a2,a3,a4,a5⟩:=Hl d hn;rw[e]
 by_cases h:r<n
 .rw[df h];obtain⟨q2,e2,b1,b2,b3⟩:=EV (n-max r 1) q (max r 1) a3 ⋯ (by rw[Nat.max_eq_left a1];exact a4);exact⟨q2,e2,b2,b3.trans a5,b1.size⟩
 .rw[cq h];exact⟨q,rfl,by rw[show n=r by lia];exact a4,a5,a3.size⟩
def AR{α:Type}(P:Nat->Nat->Prop)(R:α->Prop):KasT α->Prop
 |.ret a=>R a
 |.ask i j k=>P i j/\∀b,AR P R (k b)
theorem AR.bind{α β:Type}{P:Nat->Nat->Prop}{R:α->Prop}{R':β->Prop}{f:α->KasT β}(hf:∀a,R a->AR P R' (f a)):∀{t:KasT α},AR P R t->AR P R' (t.bind f)
 |.ret a,h=>hf a h
 |.ask i j k,h=>⟨h.1,λb=>AR.bind hf (h.2 b)⟩
theorem EW{α:Type}{P:Nat->Nat->Prop}{R:α->Prop}{c:Nat->Nat->Bool}{cmp:Nat->Nat->(Bool->η->Prop)->η->Prop}{J:η->Prop}(hc:∀i j C s,P i j->J s->(∀s',J s'->C (c i j) s')->cmp i j C s){Q:α->η->Prop}:∀(t:KasT α) (s:η),AR P R t->J s->(∀s',J s'->Q (run c t) s')->t.kasWp cmp Q s
 |.ret a,s,_,hs,h=>h s hs
 |.ask i j k,s,ha,hs,h=>hc i j _ s ha.1 hs λs' Yd=>EW hc (k (c i j)) s' (ha.2 _) Yd h
def yW(n:Nat)(p:Array Nat):Prop:=∀m,p.getD m 0<n
def Pn(n i j:Nat):Prop:=i<n/\j<n
theorem yW.rev{p:Array Nat}(h:yW n p)(i j:Nat)(hj:j<=p.size):yW n (kas_rev p i j):=λm=>by
 have e:=getElem?_mirror_all (i:=i) hj m;unfold kas_rev;split at e<;>(rw[jq e];exact h _)
theorem yW.Vw{p:Array Nat}(h:yW n p){k d:Nat}(hk:k<p.size)(hd:d<=k):yW n (bubble p k d):=λm=>by
 have e:=getElem?_bubble hk d hd m;split at e
 .rw[jq e];exact h _
 .split at e<;>(rw[jq e];exact h _)
theorem C6{p:Array Nat}(h:yW n p):∀f m,m+f<=p.size->AR (Pn n) (λr=>r<=p.size) (kas_asc p f m)
 | 0,m,hm=>hm
 |f+1,m,hm=>⟨⟨h _,h _⟩,λb=>by
  cases b with
  |true=>show AR _ _ (if true=true then _ else _);rw[df rfl];exact(show m<=p.size by lia)
  |false=>show AR _ _ (if false=true then _ else _);rw[cq fb];exact C6 h f (m+1) ⋯⟩
theorem tZ:∀f (p:Array Nat) m q,yW n p->p.size=n->m+f<=n->AR (Pn n) (λr=>yW n r.1/\r.1.size=n/\r.2.1<=n) (kas_desc f p m q)
 | 0,p,m,q,h,hs,hm=>⟨h,hs,by simpa using hm⟩
 |f+1,p,m,q,h,hs,hm=>⟨⟨h _,h _⟩,λb=>by
  cases b with
  |true=>
   show AR _ _ (if true=true then _ else _);rw[df rfl];split
   .exact tZ f _ (m+1) 0 (h.rev _ _ ⋯) (by unfold kas_rev;rw[WI,hs]) ⋯
   .exact tZ f p (m+1) 0 h hs ⋯
  |false=>
   show AR _ _ (if false=true then _ else _);rw[cq fb];refine⟨⟨h _,h _⟩,λb=>?_⟩;cases b with
   |true=>show AR _ _ (if true=true then _ else _);rw[df rfl];exact⟨h,hs,show m<=n by lia⟩
   |false=>show AR _ _ (if false=true then _ else _);rw[cq fb];exact tZ f p (m+1) (q+1) h hs ⋯⟩
theorem EX{p:Array Nat}{m:Nat}(h:yW n p)(hs:p.size=n)(hm:m<=n):AR (Pn n) (λr=>yW n r.2/\r.2.size=n/\r.1<=n) (kas_tail3 m n p):=by
 have h2:=h.rev 0 m ⋯;have hz:(kas_rev p 0 m).size=n:=by unfold kas_rev;rw[WI,hs]
 unfold kas_tail3;refine AR.bind (R:=λr=>r<=(kas_rev p 0 m).size) (λr hr=>?_) (C6 h2 (n-m) m ⋯);exact(⟨h2,hz,by rw[<-hz];exact hr⟩:yW n (kas_rev p 0 m)/\(kas_rev p 0 m).size=n/\r<=n)
theorem sy{p:Array Nat}{m:Nat}(h:yW n p)(hs:p.size=n)(hm:m<n):AR (Pn n) (λr=>yW n r.2/\r.2.size=n/\r.1<=n) (kas_descPart m n p):=by
 unfold kas_descPart;refine AR.bind (λr hr=>?_) (tZ (n-(m+1)) p (m+1) 0 h hs ⋯);split
 .exact EX (hr.1.rev _ _ ⋯) (by unfold kas_rev;rw[WI];exact hr.2.1) hr.2.2
 .exact EX hr.1 hr.2.1 hr.2.2
theorem JU{p:Array Nat}(h:yW n p)(hs:p.size=n)(hn:2<=n):AR (Pn n) (λr=>yW n r.2/\r.2.size=n/\r.1<=n) (kas_count n p):=by
 unfold kas_count;refine AR.bind (λr hr=>?_) (C6 h (n-1) 1 ⋯)
 by_cases e:r=n
 .rw[df (by simpa using e)];exact⟨h,hs,show r<=n by lia⟩
 .rw[cq (by simpa using e)];have hr2:r<n:=by have:r<=p.size:=hr;lia
  split
  .refine⟨⟨h _,h _⟩,λb=>?_⟩;cases b with
   |true=>show AR _ _ (if true=true then _ else _);rw[df rfl];exact⟨h,hs,show r<=n by lia⟩
   |false=>show AR _ _ (if false=true then _ else _);rw[cq fb];exact sy (h.rev _ _ ⋯) (by unfold kas_rev;rw[WI,hs]) hr2
  .exact sy h hs hr2
theorem vC{p:Array Nat}{k:Nat}(h:yW n p):∀f l r,l<=k->r<=k->AR (Pn n) (λl=>l<=k) (kas_place p k f l r)
 | 0,l,r,hl,hr=>hl
 |f+1,l,r,hl,hr=>by
  unfold kas_place;split
  .exact hl
  .refine⟨⟨h _,h _⟩,λb=>?_⟩;cases b with
   |true=>show AR _ _ (if true=true then _ else _);rw[df rfl];exact vC h f l _ hl ⋯
   |false=>show AR _ _ (if false=true then _ else _);rw[cq fb];exact vC h f _ r ⋯ hr
theorem JV:∀f (p:Array Nat) k,yW n p->p.size=n->k+f=n->AR (Pn n) (λ_=>True) (kas_bin f p k)
 | 0,p,k,_,_,_=>trivial
 |f+1,p,k,h,hs,hk=>AR.bind (λl hl=>JV f _ (k+1) (h.Vw ⋯ ⋯) (by rw[bubble_size,hs]) ⋯) (vC h k 0 k (mi _) (bb _))
theorem Nk(hn:2<=n):AR (Pn n) (λ_=>True) (kas_sort n):=by
 have h:yW n (List.toArray (List.range n)):=λm=>by
  by_cases z:m<n
  .simp[Array.getD,z]
  .simp[Array.getD,z];lia
 unfold kas_sort;refine AR.bind (λr hr=>?_) (JU h .(4) hn);split
 .rename_i z
  exact JV _ _ _ hr.1 hr.2.1 ⋯
 .trivial
end KSrt
namespace KSrt
open PySem PySem.W PyProof.Rows
def tx(l:VE):Str:=⟨l.toArray⟩
theorem pT(l:VE):(tx l).cps.toList=l:=by simp[tx]
section
variable{prog:ι}{w:ν}{A:ξ}{E:ζ->η->Prop}{s:η}{K U:Nat->VE}{vs:VI ζ}
def C7(K U:Nat->VE)(h:ε)(vs:VI ζ):Prop:=∀i,i<vs.length->∃b o t1 t2 c,vs[i]?=some (.ref b)/\h.get? b=some o/\o.cls=.type "tuple"/\o.data=.seq #[.str (tx (K i)) t1,.str (tx (U i)) t2] c
theorem Bm:∀{vs:VI ζ} {K U:Nat->VE} {h:ε},C7 K U h vs->∃fs,KatTups h vs fs/\fs.length=vs.length/\∀f∈fs,∃x t,f=Value.str x t
 |[],_,_,_,_=>⟨[],trivial,rfl,λf h=>(nomatch h)⟩
 |v::vs,K,U,h,t=>by
  obtain⟨b,o,t1,t2,c,e1,e2,e3,e4⟩:=t 0 .(4);obtain⟨fs,a1,a2,a3⟩:=Bm (vs:=vs) (K:=λi=>K (i+1)) (U:=λi=>U (i+1)) (h:=h) λi hi=>by simpa using t (i+1) (by simpa using hi)
  have e:v=.ref b:=by simpa using e1
  subst e;refine⟨.str (tx (K 0)) t1::fs,.cons e2 e3 e4 rfl a1,by simp[a2],λf hf=>?_⟩
  rcases gL.mp hf with rfl|hf
  .exact⟨_,_,rfl⟩
  .exact a3 f hf
theorem ask{h3:ε}(ht:C7 K U s.heap vs)(Yt:vs.length<=100){i j:Nat}(hi:i<vs.length)(hj:j<vs.length)(Yj:∀i j,i<vs.length->j<vs.length->i≠j->K i≠K j){C:Bool->η->Prop}(q:C (cm K i j) s):kas_ask prog w A (tuples' true) vs i j C s:=by
 obtain⟨b,o,t1,t2,c,e1,e2,e3,e4⟩:=ht i hi;obtain⟨b',o',u1,u2,c',f1,f2,f3,f4⟩:=ht j hj;unfold kas_ask;rw[show vs.getD i Value.none=.ref b by rw[hE,e1];rfl,show vs.getD j Value.none=.ref b' by rw[hE,f1];rfl]
 refine kat_lt e2 e4 f2 f4 ?_;refine kat_cons (SeqAt.EqAt.str_str (tx (K i)) t1 (tx (K j)) u1 _ _ _ _ ?_)
 by_cases Yz:i=j
 .subst Yz;rw[show ((tx (K i))==(tx (K i)))=true from beq_self_eq_true _];refine kat_yes (kat_cons (SeqAt.EqAt.str_str (tx (U i)) t2 (tx (U i)) u2 _ _ _ _ ?_));rw[show ((tx (U i))==(tx (U i)))=true from beq_self_eq_true _];rw[show cm K i i=false from eQ (hX _)] at q;exact kat_yes (kat_nil q)
 .rw[show ((tx (K i))==(tx (K j)))=false from oP.mpr λz=>Yj i j hi hj Yz (by rw[<-pT (K i),z,pT])];refine kat_no (oneLt_str ?_);rw[pT,pT];exact q
theorem JW{a:θ}{n:Nat}{P:PySem.Fin->η->Prop}(ho:s.heap.get? a=some (seqObj "list" vs.toArray n))(ht:C7 K U s.heap vs)(Yj:∀i j,i<vs.length->j<vs.length->i≠j->K i≠K j)(Yt:vs.length<64)
  (h:∀(q:Array Nat) (h':ε) (e:Nat),q.size=vs.length->q.Perm (List.toArray (List.range vs.length))->Up K q vs.length->(∀b o,b≠a->s.heap.get? b=some o->h'.get? b=some o)->h'.get? a=some (seqObj "list" (List.toArray (q.toList.map λi=>vs.getD i Value.none)) e)->P (.done (.ret .none)) {s with heap:=h' }):
  wpAny .(2) A (Builtin.«list.sort» ⟨[.ref a],[]⟩) P E s:=by
 have ha:a<s.heap.objs.size:=dq ho;have s1:=mf s.heap a (Obj.mapSeq λ_=>(#[]:Array ζ));obtain⟨e1,Zu⟩:∃e1,(s.heap.update a (Obj.mapSeq λ_=>(#[]:Array ζ))).get? a=some (seqObj "list" #[] e1):=⟨_,get?_update_seq ho λ_=>#[]⟩;have keep:∀b o,b≠a->s.heap.get? b=some o->(((s.heap.update a (Obj.mapSeq λ_=>(#[]:Array ζ))).push (seqObj "tuple" vs.toArray 0)).push (seqObj "list" #[] 0)).get? b=some o:=λb o hb e=>ba _ (ba _ ((s1.2 b hb).trans e));have ho6:(((s.heap.update a (Obj.mapSeq λ_=>(#[]:Array ζ))).push (seqObj "tuple" vs.toArray 0)).push (seqObj "list" #[] 0)).get? a=some (seqObj "list" #[] e1):=ba _ (ba _ Zu);have ht6:C7 K U (((s.heap.update a (Obj.mapSeq λ_=>(#[]:Array ζ))).push (seqObj "tuple" vs.toArray 0)).push (seqObj "list" #[] 0)) vs:=λi hi=>by
  obtain⟨b,o,t1,t2,c,x1,x2,x3,x4⟩:=ht i hi;refine⟨b,o,t1,t2,c,x1,keep b o (λz=>?_) x2,x3,x4⟩;subst z;rw[ho] at x2;cases x2;injection x3 with x3
  exact absurd x3 .(0)
 rw[list_sort_plain];refine ae (listItems_at ho rfl ?_);refine ae (listUpdate_at ho rfl ?_ (by rw[ix,dE];lia) (mi _));refine ae (seqEpoch_at Zu rfl ?_);refine ae (wpAny_newTuple ?_ (by show vs.length<=_;rw[dE];lia));refine ae (WS ?_ (mi _));refine me ?_;show wpAny .(2) A _ P E {s with heap:=((s.heap.update a (Obj.mapSeq λ_=>(#[]:Array ζ))).push (seqObj "tuple" vs.toArray 0)).push (seqObj "list" #[] 0)}
 generalize ((s.heap.update a (Obj.mapSeq λ_=>(#[]:Array ζ))).push (seqObj "tuple" vs.toArray 0)).push (seqObj "list" #[] 0)=B at keep ho6 ht6 ⊢;dsimp only
 by_cases h2:vs.toArray.size<2
 .rw[df h2,df h2];refine ae (bj ?_);rw[StateT.run_pure];refine ae (bj ?_);dsimp only;refine ae (seqEpoch_at ho6 rfl ?_);refine ae (listUpdate_at ho6 rfl ?_ (hsz2:=by rw[Array.size_map];show (pairsOf vs).size<=_;rw[pairsOf_size,dE];lia));simp only[bne_self_eq_false,false_eq_true,if_false];rw[ix] at h2;have s2:=mf B a (Obj.mapSeq λ_=>(arrOf (SortSt.mk' general' (vs.toArray.zip vs.toArray) #[] 7 none)).map (·.2));obtain⟨c2,Yi⟩:∃c2,(B.update a (Obj.mapSeq λ_=>(arrOf (SortSt.mk' general' (vs.toArray.zip vs.toArray) #[] 7 none)).map (·.2))).get? a=some (seqObj "list" ((arrOf (SortSt.mk' general' (vs.toArray.zip vs.toArray) #[] 7 none)).map (·.2)) c2):=⟨_,get?_update_seq ho6 λ_=>(arrOf (SortSt.mk' general' (vs.toArray.zip vs.toArray) #[] 7 none)).map (·.2)⟩;have e1:(arrOf (SortSt.mk' general' (vs.toArray.zip vs.toArray) #[] 7 none)).map (·.2)=List.toArray ((List.toArray (List.range vs.length)).toList.map λi=>vs.getD i Value.none):=by
   apply Array.toList_inj.mp
   show ((vs.toArray.zip vs.toArray).map (·.2)).toList=_;rw[Array.toList_map,Array.toList_zip];show (vs.zip vs).map (·.2)=(List.range vs.length).map λi=>vs.getD i Value.none;apply List.ext_getElem
   .simp
   .intro i h1 h3;simp at h1
    simp[h1]
  exact bj (h (List.toArray (List.range vs.length)) _ c2 .(4) (Wi _) (λi j h1 h3=>by lia) (λb o hb e=>(s2.2 b hb).trans (keep b o hb e)) (Yi.trans (by rw[e1])))
 .rw[cq h2,cq h2];rw[ix] at h2;obtain⟨fs,k1,k2,k3⟩:=Bm ht6;refine ae (kat_kind (s:={s with heap:=B}) (T:=.type "str") k1 ⋯ (λf hf=>by obtain⟨x,t,rfl⟩:=k3 f hf;exact Looks.of_pure rfl) .(0) ?_);rw[show tuples' ((Value.type "str") !=Value.type "tuple")=tuples' true from rfl];obtain⟨q,eq,q1,q2,q3⟩:=JT (K:=K) (n:=vs.length) ⋯ Yj;have hk:(kas_sort vs.length).kasWp (kas_ask prog w A (tuples' true) vs) (λp s'=>p=q/\s'={s with heap:=B}) {s with heap:=B}:=
   EW (P:=Pn vs.length) (c:=cm K) (J:=λs'=>s'={s with heap:=B}) (λi j C s' hp Yd hC=>by
    subst Yd;exact ask (s:={s with heap:=B}) (h3:=B) ht6 ⋯ hp.1 hp.2 Yj (hC _ rfl)) _ _ (Nk ⋯) rfl λs' Yd=>⟨eq,Yd⟩
  refine ae (pE (kat_run (Q:=λX8 s'=>arrOf X8=q.map (kas_item (vs.toArray.zip vs.toArray))/\failedOf X8=none/\s'={s with heap:=B})
   rfl ⋯ Yt (λp' X8 s' a1 a2 a3 a4=>by obtain⟨rfl,rfl⟩:=a4;exact⟨a2,a3,rfl⟩) hk) ?_ λ_ _ e=>e)
  rintro⟨⟨⟩,X8⟩ s' ⟨har,hf,rfl⟩;dsimp only;have hout:=kat_snds rfl har;have hsz:(List.toArray (q.toList.map λi=>vs.getD i Value.none)).size=vs.length:=by rw[ix,aw,gN,q3]
  rw[hout];have s2:=mf B a (Obj.mapSeq λ_=>List.toArray (q.toList.map λi=>vs.getD i Value.none));obtain⟨c2,Yi⟩:∃c2,(B.update a (Obj.mapSeq λ_=>List.toArray (q.toList.map λi=>vs.getD i Value.none))).get? a=some (seqObj "list" (List.toArray (q.toList.map λi=>vs.getD i Value.none)) c2):=⟨_,get?_update_seq ho6 λ_=>List.toArray (q.toList.map λi=>vs.getD i Value.none)⟩;refine ae (seqEpoch_at ho6 rfl ?_);refine ae (listUpdate_at ho6 rfl ?_ (mi _) (eJ (XE hsz) (by rw[dE];lia)));rw[hf];simp only[bne_self_eq_false,false_eq_true,if_false];exact bj (h q _ c2 q3 q2 q1 (λb o hb e=>(s2.2 b hb).trans (keep b o hb e)) Yi)
theorem Nl{κ:Type}[DecidableEq κ]{knd:PySem.KeyKind prog w κ}{r d:θ}{kvs:VI (κ×ζ)}{ep:Nat}{Q:ζ->η->Prop}(hh:A.handled=none)(hv:s.heap.IsItemsView r d)(hm:s.heap.DictAt knd d kvs ep)(Yt:kvs.length<64)
  (hK:∀(i:Nat) (k:κ) (v u:ζ),kvs[i]?=some (k,v)->knd.is k u=true->(∃t,u=Value.str (tx (K i)) t)/\∃t,v=Value.str (tx (U i)) t) (Yj:∀i j,i<kvs.length->j<kvs.length->i≠j->K i≠K j)
  (h:∀(h1 h':ε) (tk:Nat) (q:Array Nat) (e:Nat) (vs:VI ζ),(∀b o,s.heap.get? b=some o->h1.get? b=some o)->vs.length=kvs.length->q.size=kvs.length->q.Perm (List.toArray (List.range kvs.length))->Up K q kvs.length->C7 K U h1 vs->
   (∀b o,h1.get? b=some o->h'.get? b=some o)->h'.get? h1.objs.size=some (seqObj "list" (List.toArray (q.toList.map λi=>vs.getD i Value.none)) e)->(∀(i:Nat) (b:θ),vs[i]?=some (Value.ref b)->s.heap.objs.size<=b)->Q (.ref h1.objs.size) {s with heap:=h',toks:=tk}):
  wpAny .(2) A (call (.builtin "sorted") [.ref r]) Q E s:=by
 have hn:kvs.length<=sizeLine:=by rw[dE];lia
 refine Calls.call_function_entry kind_sorted plain_sorted entry_sorted (args_sorted1 _) ?_;unfold Builtin.«sorted»;refine ae (m:=checkCount "sorted" 1 1 _) (bj ?_);refine ae (kdx_collect (A:=A.in1) (knd:=knd) hh hv hm hn λh1 tk as hk hl hG=>?_);have hlen:(as.map Value.ref).length=kvs.length:=by rw[aw,hl]
 refine ae (WS ?_ (by rw[hlen];exact hn));have ht:C7 K U h1 (as.map Value.ref):=λi hi=>by
  rw[aw] at hi;have ea:as[i]?=some as[i]:=dk hi;obtain⟨key,k,x,x1,x2,x3⟩:=hG.pairs i _ ea;obtain⟨⟨t1,e1⟩,t2,e2⟩:=hK i k x key x1 x2;subst e1 e2;exact⟨as[i],_,t1,t2,_,by rw[cn,ea];rfl,x3,rfl,rfl⟩
 have ho:(h1.push {cls:=.type "list",data:=.seq (as.map Value.ref).toArray}).get? h1.objs.size=some (seqObj "list" (as.map Value.ref).toArray 0):=cx _ rfl;have YT:C7 K U (h1.push {cls:=.type "list",data:=.seq (as.map Value.ref).toArray}) (as.map Value.ref):=λi hi=>by
  obtain⟨b,o,t1,t2,c,x1,x2,x3,x4⟩:=ht i hi;exact⟨b,o,t1,t2,c,x1,ba _ x2,x3,x4⟩
 refine ae (me (tI slot_list_sort ⟨_,ho,rfl⟩ entry_list_sort (JW (s:={s with heap:=h1.push {cls:=.type "list",data:=.seq (as.map Value.ref).toArray},toks:=tk}) (K:=K) (U:=U) ho YT (by rw[hlen];exact Yj) (by rw[hlen];exact Yt) λq h' e q1 q2 q3 kp hc=>⟨_,rfl,?_⟩) (args_list_sort _)));rw[hlen] at q1 q2 q3;refine bj ⟨_,rfl,h h1 h' tk q e _ hk hlen q1 q2 q3 ht (λb o hb=>kp b o (iq (dq hb)) (ba _ hb)) hc λi b hb=>?_⟩;rw[cn] at hb;obtain⟨a,ha,e⟩:=eM.mp hb;cases e;exact XD (hG.above _ (dy ha))
end
end KSrt
namespace L2
open PySem PySem.Spec PyProof.Rows
section
variable{X:Cx}{Z0:VI (θ×Obj)}{Y:St}{H H':Hp}{s:η}{h':ε}
theorem cY.there{P:ι}{w:ν}{h:ε}{a:θ}{o:HO}(x:cY P w H h a o):∃ob,h.get? a=some ob:=by
 cases o with
 |lst xs=>obtain⟨_,_,_,_,e⟩:=x;exact⟨_,e⟩
 |tup xs=>obtain⟨_,_,_,_,e,_⟩:=x;exact⟨_,e⟩
 |dK kvs=>obtain⟨_,_,_,_,_,_,_,e,_⟩:=x;exact⟨_,e⟩
 |dT kvs=>obtain⟨_,_,_,_,_,_,_,e,_⟩:=x;exact⟨_,e⟩
 |set S n=>obtain⟨_,_,_,_,e,_⟩:=x;exact⟨_,e⟩
 |ins C dx fs=>obtain⟨_,_,_,e,_⟩:=x;exact⟨_,e⟩
 |own y=>obtain⟨_,e⟩:=x;exact⟨_,e⟩
 |xd fs=>obtain⟨_,⟨_,_,_,e,_⟩,_⟩:=x;exact⟨_,e⟩
 |met f y=>exact⟨_,x⟩
 |rng lo hi=>obtain⟨_,_,_,e⟩:=x;exact⟨_,e⟩
 |frz ob u=>obtain⟨e,_⟩:=x;exact⟨_,e⟩
 |tbl ps=>exact⟨_,x⟩
 |ext φ=>obtain⟨_,e,_⟩:=x;exact e
theorem Inv.RM{t':Nat}(I:Inv X Z0 Y H s)(k:∀b u,s.heap.get? b=some u->h'.get? b=some u)(old:∀b o,s.heap.get? b=some o->H' b=H b)(new:∀b o,s.heap.get? b=none->H' b=some o->cY X.prog X.w H' h' b o):
  Inv X Z0 Y H' {s with heap:=h',toks:=t' }:=by
 have J:=I.kept (t':=t') k;have sm:∀{b:θ} {o:HO},H b=some o->H' b=some o:=λ{b o} e=>by
  obtain⟨ob,q⟩:=(I.hok b o e).there;exact(old b ob q).trans e
 refine⟨J.ok,J.os,J.bare,⟨J.base.keep,J.base.slot,λb ob e n hx=>?_,J.base.there,λb xs e=>sm (J.base.tups b xs e),λb ob u e=>sm (J.base.frzs b ob u e),λb ps e=>?_⟩,J.loc,J.cell,?_,λx c e=>?_,λp hp=>?_,λb u e=>?_,J.len⟩
 .obtain⟨o',q⟩:=I.base.there b ob e hx;rw[old b o' q];exact J.base.free b ob e n hx
 .obtain⟨more,q⟩:=J.base.tbls b ps e;exact⟨more,sm q⟩
 .obtain⟨m,⟨o,es,ep,q,_⟩,_⟩:=I.loc;rw[old _ _ q];exact I.free
 .obtain⟨v,o,q,_⟩:=I.cell x c e;rw[old _ _ q];exact I.freeC x c e
 .obtain⟨a,b,c⟩:=I.pin p hp;exact⟨k _ _ a,by rw[old _ _ a];exact b,c⟩
 .cases q:s.heap.get? b with
  |some ob=>
   rw[old b ob q] at e;exact(J.hok b u e).stay (λ_ _ _ q=>q) (λc q=>sm q) λc xs q=>sm q
  |none=>exact new b u q e
def lM(v d:θ):HO:=.ext λh=>h.IsItemsView v d
abbrev C8:V->VI V->Hp->VK->Prop:=λx xs H Q=>∃a kvs,x=.ref a/\xs=[]/\H a=some (.dK kvs)/\∀v,H v=none->Q (.ref v) (upd H v (lM v a))
theorem Bo:MI X "dict.items" C8:=by
 intro Z0 s Y H x xs v us Q I rx rv h;obtain⟨a,kvs,rfl,rfl,hH,q⟩:=h;cases rx;have hus:=rv.zero;subst hus;obtain⟨z,hd,vs,rel,dd⟩:=lJ I.hok hH;refine VQ T1 dd.typeIs PySem.F.entry_dict_items (PySem.F.args_dict_items_1 _) (meets_dict_items (bN X.prog X.w) a hd) ⟨⟨vs,dd⟩,?_⟩;have hv:(s.heap.push {cls:=.type "dict_items",data:=.fields #[.ref a] }).IsItemsView s.heap.objs.size a:=⟨_,cx _ rfl,rfl,rfl⟩;refine⟨.ref s.heap.objs.size,_,I.laid (t':=s.toks) (o:=lM s.heap.objs.size a) (λb o e=>ba _ e) (bb _) ⟨hv,⟨_,cx _ rfl⟩,λh1 h2 x k=>?_⟩,rfl,q _ (I.hok.fresh (bb _))⟩;obtain⟨o,e,r⟩:=x;exact⟨o,k o e,r⟩
abbrev vD:VI V->Hp->VK->Prop:=λxs H Q=>∃v a,∃kvs:VG,xs=[.ref v]/\H v=some (lM v a)/\H a=some (.dK (kvs.map λkv=>(Key.inr (txt kv.1),av kv.2)))/\kvs.length<64/\(kvs.map (·.1)).Nodup/\
 ∀H' l ys (zs:VG),aG H H'->H l=none->H' l=some (.lst ys)->zs.Perm kvs->(zs.map (·.1)).Pairwise (·<·)->ys.length=zs.length->(∀(i:Nat) kv,zs[i]?=some kv->∃t,ys[i]?=some (.ref t)/\H' t=some (.tup [av kv.1,av kv.2])/\H t=none)->Q (.ref l) H'
theorem KV.UK{kvs:VI (Key×V)}{vs:VI (Key×ζ)}(r:KV kvs vs):∀{i:Nat} {k:Key} {u:ζ},vs[i]?=some (k,u)->∃v,kvs[i]?=some (k,v)/\RelV v u:=by
 induction r with
 |nil=>intro i k v e;simp at e
 |@cons p q ps qs h t ih=>
  intro i k u e;cases i with
  |zero=>
   simp at e
   subst e;obtain⟨p1,p2⟩:=p;have h1:p1=k:=h.1;subst h1;exact⟨p2,rfl,h.2⟩
  |succ i=>exact ih (by simpa using e)
def adr(vs:VI ζ)(j:Nat):θ:=match vs[j]? with|some (.ref b)=>b|_=>0
theorem pU(hc:X.calm=true):fj X (.builtin "sorted") vD:=by
 intro Z0 s Y H xs us Q I r h;obtain⟨v,a,kvs,rfl,hV,hH,Yt,hnd,q⟩:=h;obtain⟨u,rfl,ru⟩:=vals1 r;cases ru;obtain⟨z,hd,vs,rel,dd⟩:=lJ I.hok hH;obtain⟨ep,da⟩:=dd.dictAt;have hl:=rel.length;rw[aw] at hl;have hv:s.heap.IsItemsView v a:=(show cY X.prog X.w H s.heap v (lM v a) from I.hok v _ hV).1;have hin:∀i j,i<vs.length->j<vs.length->i≠j->(kvs.getD i ([],[])).1≠(kvs.getD j ([],[])).1:=λi j hi hj Yz e=>by
  rw[hE,hE,dk ⋯,dk ⋯] at e;have pw:=ma.mp hnd
  rcases QQ i j with w|w
  .exact pw i j (by rw[aw];lia) (by rw[aw];lia) w (by rw[WJ,WJ];exact e)
  .exact pw j i (by rw[aw];lia) (by rw[aw];lia) ⋯ (by rw[WJ,WJ];exact e.symm)
 refine KSrt.Nl (K:=λi=>(kvs.getD i ([],[])).1) (U:=λi=>(kvs.getD i ([],[])).2) (I.ok.hd hc) hv da ⋯ (λi k v u e hk=>?_) hin λh1 h' tk p e ws k1 l1 p1 p2 p3 tp k2 hg ab=>?_
 .obtain⟨v',e1,rv⟩:=rel.UK e;rw[cn] at e1;obtain⟨kv,e2,e3⟩:=eM.mp e1;cases e3;rw[hE,e2];exact⟨yS hk,rv⟩
 .have tb:∀j,j<ws.length->∃o t1 t2 c,ws[j]?=some (.ref (adr ws j))/\h1.get? (adr ws j)=some o/\o.cls=.type "tuple"/\o.data=.seq #[.str (txt (kvs.getD j ([],[])).1) t1,.str (txt (kvs.getD j ([],[])).2) t2] c:=λj hj=>by
   obtain⟨b,o,t1,t2,c,x1,x2,x3,x4⟩:=tp j hj;have eb:adr ws j=b:=by unfold adr;rw[x1]
   exact⟨o,t1,t2,c,by rw[eb];exact x1,by rw[eb];exact x2,x3,x4⟩
  have one:∀i j,i<ws.length->j<ws.length->adr ws i=adr ws j->i=j:=λi j hi hj e=>by
   obtain⟨o,t1,t2,c,x1,x2,x3,x4⟩:=tb i hi;obtain⟨o',u1,u2,c',y1,y2,y3,y4⟩:=tb j hj;rw[e,y2] at x2;cases x2;rw[x4] at y4
   by_cases Yz:i=j
   .exact Yz
   .refine absurd ?_ (hin i j ⋯ ⋯ Yz);injection y4 with y4 _
    have y5:=tz (λa:Array ζ=>a[0]?) y4;simp at y5
    exact cC.mp y5.1
  have lows:∀j,j<ws.length->s.heap.objs.size<=adr ws j/\adr ws j<h1.objs.size:=λj hj=>by
   obtain⟨o,t1,t2,c,x1,x2,x3,x4⟩:=tb j hj;exact⟨ab j _ x1,dq x2⟩
  have X1:p.toList.Perm (List.range vs.length):=by simpa using p2.toList
  have plt:∀i∈p.toList,i<vs.length:=λi hi=>xI.mp (X1.mem_iff.mp hi)
  let KU:=λj=>kvs.getD j ([],[])
  let ys:=p.toList.map λi=>V.ref (adr ws i)
  let Hn:Hp:=λb=>if (s.heap.get? b).isSome=true then H b else if b=h1.objs.size then some (.lst ys) else((List.range ws.length).find? λj=>decide (adr ws j=b)).map λj=>.tup [av (KU j).1,av (KU j).2]
  have nbl:s.heap.get? h1.objs.size=none:=by
   cases w:s.heap.get? h1.objs.size with
   |none=>rfl
   |some o=>exact absurd (dq (k1 _ _ w)) (oC _)
  have nad:∀j,j<ws.length->s.heap.get? (adr ws j)=none:=λj hj=>Kk (lows j hj).1;have hHl:Hn h1.objs.size=some (.lst ys):=by
   show (if (s.heap.get? h1.objs.size).isSome=true then _ else _)=_;rw[nbl,cq .(0),df rfl]
  have hHt:∀j,j<ws.length->Hn (adr ws j)=some (.tup [av (KU j).1,av (KU j).2]):=λj hj=>by
   show (if (s.heap.get? (adr ws j)).isSome=true then _ else _)=_
   rw[nad j hj,cq .(0),cq (iq (lows j hj).2)];cases w:(List.range ws.length).find? λi=>decide (adr ws i=adr ws j) with
   |none=>
    have:=List.find?_eq_none.mp w j (xI.mpr hj);simp at this
   |some i=>
    have h1':=Xv w;have Zx:=xI.mp (P2 w);have:=one i j Zx hj (uk h1');subst this;rfl
  have nH:∀b,s.heap.get? b=none->H b=none:=λb w=>by
   cases w2:H b with
   |none=>rfl
   |some u=>obtain⟨ob,w3⟩:=(I.hok b u w2).there;rw[w] at w3;cases w3
  have fin:Inv X Z0 Y Hn {s with heap:=h',toks:=tk}:=by
   refine I.RM (λb o e=>k2 b o (k1 b o e)) (λb o e=>?_) λb o e w=>?_
   .show (if (s.heap.get? b).isSome=true then _ else _)=_;rw[e,df (show (some o).isSome=true from rfl)]
   .have w':(if (s.heap.get? b).isSome=true then H b else if b=h1.objs.size then some (.lst ys) else((List.range ws.length).find? λj=>decide (adr ws j=b)).map λj=>.tup [av (KU j).1,av (KU j).2])=some o:=w
    rw[e,cq .(0)] at w'
    by_cases z1:b=h1.objs.size
    .rw[df z1] at w';cases w';subst z1;refine⟨?_,p.toList.map λi=>ws.getD i Value.none,_,?_,by simpa [seqObj] using hg⟩
     .show (p.toList.map _).length<=_;rw[aw,gN,p1,dE];lia
     .have gen:∀l:VE,(∀i∈l,i<vs.length)->Vals (l.map λi=>V.ref (adr ws i)) (l.map λi=>ws.getD i Value.none):=λl=>by
       induction l with
       |nil=>intro _;exact .nil
       |cons i l ih=>
        intro Za;refine .cons ?_ (ih λj hj=>Za j (dA _ hj));obtain⟨o,t1,t2,c,x1,_⟩:=tb i (by rw[l1];exact Za i bp);show ws.getD i Value.none=Value.ref (adr ws i);rw[hE,x1];rfl
      exact gen p.toList plt
    .rw[cq z1] at w';obtain⟨j,w3,w4⟩:=eM.mp w';have h1':adr ws j=b:=by have:=Xv w3;simpa using this
     have Zx:=xI.mp (P2 w3);subst h1';cases w4;obtain⟨ob,t1,t2,c,x1,x2,x3,x4⟩:=tb j Zx;exact⟨show 2<=sizeLine by decide,[.str (txt (KU j).1) t1,.str (txt (KU j).2) t2],.cons ⟨t1,rfl⟩ (.cons ⟨t2,rfl⟩ .nil),ob,k2 _ _ x2,x3,c,x4⟩
  have hzp:(p.toList.map KU).Perm kvs:=by
   have e2:(List.range vs.length).map KU=kvs:=by
    apply List.ext_getElem
    .rw[aw,og,hl]
    .intro i h1' Zx;rw[WJ,List.getElem_range];show kvs.getD i ([],[])=_;rw[hE,dk Zx];rfl
   rw[<-e2];exact X1.map KU
  refine⟨.ref h1.objs.size,Hn,fin,rfl,q Hn h1.objs.size ys (p.toList.map KU) (λb o e=>?_) (nH _ nbl) hHl hzp ?_ (by show (p.toList.map _).length=_;rw[aw,aw]) λi kv e=>?_⟩
  .obtain⟨ob,w3⟩:=(I.hok b o e).there;show (if (s.heap.get? b).isSome=true then _ else _)=_;rw[w3,df (show (some ob).isSome=true from rfl)];exact e
  .rw[mv,mB,ma];intro i j hi hj Yz;rw[gN,p1] at hi hj;have:=p3 i j Yz hj;unfold KSrt.ky at this;rw[show p.getD i 0=p.toList[i]'(by rw[gN,p1];exact hi) by simp[Array.getD,p1,hi],show p.getD j 0=p.toList[j]'(by rw[gN,p1];exact hj) by simp[Array.getD,p1,hj]] at this
   exact this
  .rw[cn] at e;obtain⟨j,e1,rfl⟩:=eM.mp e;have hj:j<ws.length:=by rw[l1];exact plt j (dy e1)
   exact⟨adr ws j,by show (p.toList.map _)[i]?=_;rw[cn,e1];rfl,hHt j hj,nH _ (nad j hj)⟩
end
section
variable{X:Cx}
theorem JX{n:Int}{l:VE}(h0:0<=n)(h1:n<10^10)(e:txt l=(toString n:Str)):PySem.intText? (txt l)=some n:=by
 rw[e];exact W.KIN.num_reads h0 h1
end
structure Fx(K:W.Frag)(mg:Str->ο ζ)(n:Str)(st:δ)(ps:VI Str)(x:θ×FuncData):Prop where
 g:mg n=some (.ref x.1)
 F:Ey K n n st x.1 x.2
 b:Binds K x.2 ps []
structure Mx(K:W.Frag)(C:θ)(n q:Str)(st:δ)(ps:VI Str)(x:θ×FuncData):Prop where
 M:Meth K C n x.1
 F:Ey K n q st x.1 x.2
 b:Binds K x.2 ps []
def Lk(K:W.Frag)(n q:Str)(st:δ)(f:θ):Prop:=∃(oc:ζ) (od:ο θ) (sl:Array (ο ζ)) (kV dc pm:ζ) (an:ο θ) (cd ct:ζ),K.lookup f=some ⟨oc,od,.func (W.fnOf n q (jg st) (gu st) (aE st) .none kV dc pm an cd ct),sl⟩/\W.codeIn K cd q=true/\W.keepIn K (.ref f)=true
def Fq(K:W.Frag)(n:Str)(st:δ):Prop:=∃f,W.nsIn K mainGlobals n=some (some (.ref f))/\Lk K n n st f
def Mq(K:W.Frag)(C:θ)(n q:Str)(st:δ):Prop:=∃f,W.findIn K (.ref C) n=some (some (.ref f))/\W.isFn K (.ref f)=true/\Lk K n q st f
def Bd(n q:Str)(st:δ)(ps:VI Str):Prop:=∀(kV doc pm:ζ) (an:ο θ) (X5 ct:ζ) (us:VI ζ),us.length=ps.length->bindArgs (W.fnOf n q (jg st) (gu st) (aE st) .none kV doc pm an X5 ct) ⟨us,[]⟩=pure (ps.zip us)
section
variable{K:W.Frag}{mg:Str->ο ζ}{n q:Str}{st:δ}{ps:VI Str}{C:θ}
theorem Lk.fx{f:θ}(p:Lk K n q st f)(hb:Bd n q st ps):∃fd,Ey K n q st f fd/\Binds K fd ps []:=by
 obtain⟨_,_,_,_,_,_,_,_,_,l,c,k⟩:=p;have F:=Pj l c k;exact⟨_,F,F.binds hb⟩
theorem Fq.fx{h:ε}(p:Fq K n st)(X:K.In h)(G:h.Ns mainGlobals mg)(hb:Bd n n st ps):∃x,Fx K mg n st ps x:=by
 obtain⟨f,a,l⟩:=p;obtain⟨fd,F,b⟩:=l.fx hb;exact⟨(f,fd),Kj X G a,F,b⟩
theorem Mq.fx(p:Mq K C n q st)(hb:Bd n q st ps):∃x,Mx K C n q st ps x:=by
 obtain⟨f,a,i,l⟩:=p;obtain⟨fd,F,b⟩:=l.fx hb;exact⟨(f,fd),⟨a,i,F.kp⟩,F,b⟩
end
theorem Vn{P:VI ζ->Prop}(h:P []):∀us,us.length=0->P us:=λus hl=>by rw[sg.mp hl];exact h
theorem Vo{P:VI ζ->Prop}{n:Nat}(h:∀a us,us.length=n->P (a::us)):∀us,us.length=n+1->P us:=λus hl=>by
 cases us with
 |nil=>cases hl
 |cons a us=>exact h a us (Nat.succ.inj hl)
abbrev Xc(K:W.Frag)(c:θ):Prop:=W.excIn K c [.type "ValueError",.type "Exception",.type "BaseException",.type "object"] "ValueError.__new__" =true
abbrev Fx.Ok{K:W.Frag}{mg:Str->ο ζ}{n:Str}{st:δ}{ps:VI Str}{x:θ×FuncData}(_:Fx K mg n st ps x)(P:ι)(w:ν)(base:ε)(CX:AA)(k:Nat)(sp:Sp):Prop:=jy P w K mg base CX k x.1 x.2 ps sp
abbrev Mx.Ok{K:W.Frag}{C:θ}{n q:Str}{st:δ}{ps:VI Str}{x:θ×FuncData}(_:Mx K C n q st ps x)(mg:Str->ο ζ)(P:ι)(w:ν)(base:ε)(CX:AA)(k:Nat)(sp:Sp):Prop:=jy P w K mg base CX k x.1 x.2 ps sp
theorem Ey.bt{K:W.Frag}{n q p:Str}{st:δ}{f:θ}{fd:FuncData}(F:Ey K n q st f fd)(hb:Bd n q st [p])(s:η)(v:ζ):BindsTo s fd ⟨[v],[]⟩ [(p,v)]:=by
 obtain⟨_,_,_,_,_,_,_,_,_,rfl,_,_⟩:=F.ex;exact .of_eq (hb _ _ _ _ _ _ [v] rfl)
section
variable{K:W.Frag}{n q:Str}{st:δ}{C f:θ}{oc:ζ}{od:ο θ}{sl:Array (ο ζ)}{kV dc pm:ζ}{an:ο θ}{cd ct:ζ}
theorem bS(a:W.nsIn K mainGlobals n=some (some (.ref f)))(l:K.lookup f=some ⟨oc,od,.func (W.fnOf n n (jg st) (gu st) (aE st) .none kV dc pm an cd ct),sl⟩)(c:W.codeIn K cd n=true)(k:W.keepIn K (.ref f)=true):Fq K n st:=⟨f,a,oc,od,sl,kV,dc,pm,an,cd,ct,l,c,k⟩
theorem nR(a:W.findIn K (.ref C) n=some (some (.ref f)))(i:W.isFn K (.ref f)=true)(l:K.lookup f=some ⟨oc,od,.func (W.fnOf n q (jg st) (gu st) (aE st) .none kV dc pm an cd ct),sl⟩)(c:W.codeIn K cd q=true)(k:W.keepIn K (.ref f)=true):Mq K C n q st:=⟨f,a,i,oc,od,sl,kV,dc,pm,an,cd,ct,l,c,k⟩
end
section
variable{X:Cx}{CX:AA}{k:Nat}{n q:Str}{st:δ}{ps:VI Str}{x:θ×FuncData}{sp:Sp}{E:XK}{C:θ}{e o:γ}{es:VI γ}{t:TA}{ta:TE}{p pos apos:Pos}
theorem kc(T:Fx X.K X.mg n st ps x)(F:jy X.prog X.w X.K X.mg X.base CX k x.1 x.2 ps sp)(hx:Passes CX X E)(ha:QA X (e::es) t)(hr:cG k X.A:=by exact cG.mono (by assumption) .(0))
  (hg:X.env.kindOf n=some .globalImplicit:=by rfl') (Ym:(n==("__debug__":Str))=false:=by rfl') (he:starEach (e::es) X.env=(false,eval e X.env)::starEach es X.env:=by rfl') (X1:(backTo pos (starEach es X.env)).any (·.1)=false:=by rfl'):
  QE X (.Call (.Name n p) (e::es) [] pos) (aW sp [] E t):=EG F hr T.g T.F.kp T.b hx ha hg Ym he X1
theorem eZ(T:Fx X.K X.mg n st ps x)(F:jy X.prog X.w X.K X.mg X.base iM k x.1 x.2 ps sp)(ha:QA X (e::es) t)(hr:cG k X.A:=by exact cG.mono (by assumption) .(0))
  (hg:X.env.kindOf n=some .globalImplicit:=by rfl') (Ym:(n==("__debug__":Str))=false:=by rfl') (he:starEach (e::es) X.env=(false,eval e X.env)::starEach es X.env:=by rfl') (X1:(backTo pos (starEach es X.env)).any (·.1)=false:=by rfl'):
  QE X (.Call (.Name n p) (e::es) [] pos) (aW sp [] E0 t):=EG F hr T.g T.F.kp T.b cN ha hg Ym he X1
end
end L2
local macro_rules | `(tactic| nofun)=>`(tactic| simp only [L2.fq,L2.jz,L2.aJ,L2.bh,L2.aF,L2.aT,L2.ah,L2.xu,L2.IA,L2.Ax,L2.tC,L2.bz,L2.tB,L2.Q6,L2.dD,L2.oh,L2.An,L2.yh,L2.bH,L2.bX,L2.cM,L2.fG,L2.ai,L2.aD,L2.Ao,L2.GN,L2.aW,L2.uS,L2.iD,L2.L7,L2.nN,L2.gR,L2.wZ,L2.jf,L2.lE,L2.Cj,L2.rI,L2.GG,L2.IP,L2.start,L2.br,map_cons,map_nil,length_cons,length_nil,replicate_succ,replicate_zero,cons_append,nil_append,append_nil,List.getElem?_cons_zero,List.getElem?_cons_succ,set_cons_zero,set_cons_succ,Option.some.injEq,Option.join_some,L2.V.int.injEq,L2.V.str.injEq,L2.V.bl.injEq,L2.V.ref.injEq,L2.cC,exists_eq_left',exists_eq_left,exists_and_left,and_true,true_and,decide_eq_true_eq,reduceCtorEq,decide_false,decide_true,Bool.not_false,Bool.not_true,if_true,if_false,false_eq_true,Nat.reduceAdd,Nat.reduceSub,Bool.not_eq_true',decide_eq_false_iff_not,not_true_eq_false,not_false_eq_true])
local macro_rules | `(tactic| simp? [$t,*])=>`(tactic| simp only [$t,*,L2.fq,L2.jz,L2.aJ,L2.bh,L2.aF,L2.aT,L2.ah,L2.xu,L2.IA,L2.Ax,L2.tC,L2.bz,L2.tB,L2.Q6,L2.dD,L2.oh,L2.An,L2.yh,L2.bH,L2.bX,L2.cM,L2.fG,L2.ai,L2.aD,L2.Ao,L2.GN,L2.aW,L2.uS,L2.iD,L2.L7,L2.nN,L2.gR,L2.wZ,L2.jf,L2.lE,L2.Cj,L2.rI,L2.GG,L2.IP,L2.start,L2.br,map_cons,map_nil,length_cons,length_nil,replicate_succ,replicate_zero,cons_append,nil_append,append_nil,List.getElem?_cons_zero,List.getElem?_cons_succ,set_cons_zero,set_cons_succ,Option.some.injEq,Option.join_some,L2.V.int.injEq,L2.V.str.injEq,L2.V.bl.injEq,L2.V.ref.injEq,L2.cC,exists_eq_left',exists_eq_left,exists_and_left,and_true,true_and,decide_eq_true_eq,reduceCtorEq,decide_false,decide_true,Bool.not_false,Bool.not_true,if_true,if_false,false_eq_true,Nat.reduceAdd,Nat.reduceSub,Bool.not_eq_true',decide_eq_false_iff_not,not_true_eq_false,not_false_eq_true])
namespace L2
open PySem PySem.Spec PyProof.Rows MM
theorem RN{sp:Sp}{vs vs':VI V}{H:Hp}{Q:VK}{E:XK}(e:vs=vs')(h:sp vs' H Q E):sp vs H Q E:=e▸h
inductive fB (K:W.Frag):VI V->Hp->VK->XK->Prop
 |mk {H:Hp} {Q:VK} {a8:XK} (a:θ) (ns:VI Int) (k m:Int):bw K H a (ns.map V.int)->ns.length<=63->0<=k->k<1048576->0<m->(∀r:Int,0<=r->r<m->Q (.int r) H)->fB K [.ref a,.int k,.int m] H Q a8
variable {E:XK}{Q:VK}{xs vs ys ts:VI V}{x qual:Str}{H H' H2 B H0 A0:Hp}{a b it f p C dx pm d pr pk p1 p3 pg pb ph:θ}{F fp as:VI θ}{h t' i j c n L ep:Nat}{N ps:VI Str}{Y:St}{K:PySem.W.Frag}{es m:VE}{te td:TE}{tb:TS}{lo hi:VH}{ta:TA}{kvs S XT:VG}{ks zs ws:VF}
def C9(K:W.Frag):TS:=
  aJ (bh (Q6 (bz (aT yG (fG (dJ K) (ai (ah 0) aD)) (tC (.int 0)))) (aT (bV K) (ah 0) (aT iT (ah 1) (fG (dJ K) (ai (ah 0) aD)))) (tC (.int 0))) (aF 3))
   (aJ (dD (oh (bz (aT yG (fG (dJ K) (ai (ah 0) aD)) (tC (.int 0)))) (bz (aT GG (aT iT (aT (bV K) (ah 0) (tC (.int 0))) (tC (.int 2))) (tC (.int 1))))) (bH (aT iT (aT iT (aT Rz (ah 3) (aT cI (aT gw (tC (.int 20)) (aT nO (ah 1) (fG (dJ K) (ai (ah 0) aD)))) (tC (.int 1)))) (tC (.int 1048576))) (ah 2))) (bX))
   (aJ (bh (aT cI (aT cI (aT iT (ah 3) (tC (.int 1000003))) (aT gw (aT gw (tC (.int 31)) (ah 1)) (ah 1))) (tC (.int 1))) (aF 4))
   (bH (aT iT (aT iT (aT gw (aT iT (aT gw (ah 4) (tC (.int 48271))) (tC (.int 999983))) (tC (.int 7919))) (tC (.int 524287))) (ah 2)))))
theorem Bp{i k m:Int}{Q:Int->Prop}(h0:0<=k)(h1:k<1048576)(h2:0<m)(q:∀r:Int,0<=r->r<m->Q r):
  (0:Int)<1000003/\kX 31 k/\kX (31*k) k/\kX (i%1000003+31*k*k+1) 48271/\(0:Int)<999983/\kX ((i%1000003+31*k*k+1)*48271%999983) 7919/\(0:Int)<524287/\0<m/\
   Q ((i%1000003+31*k*k+1)*48271%999983*7919%524287%m):=
 ⟨by decide,u7 .(0) .(0),gJ ⋯ ⋯,gJ .(0) .(0),by decide,gJ .(0) .(0),by decide,h2,q _ (WK _ ⋯) (FR _ h2)⟩
theorem JY{i k m:Int}{x:Int}{Q:Int->Prop}(h0:0<=k)(hx:0<x)(hx2:x<=63)(h2:0<m)(q:∀r:Int,0<=r->r<m->Q r):
  Mt k x/\kX 20 (k/x)/\0<=20*(k/x)+1/\(0:Int)<1048576/\0<m/\Q (i/2^(20*(k/x)+1).toNat%1048576%m):=by
 have e:0<=k/x:=Int.ediv_nonneg h0 ⋯;exact⟨cdiv hx ⋯,u7 .(0) .(0),by lia,by decide,h2,q _ (WK _ ⋯) (FR _ h2)⟩
theorem Ho(hN:N.length=5)(h:fB K vs H Q E):C9 K {nx:=λ_ H'=>Q .non H',rt:=Q} .(3) H:=by
 obtain⟨a,ns,k,m,hS,hl,h0,h1,h2,q⟩:=h;unfold C9 L2.start;rw[hN];nofun;refine pI hS (kK ?_)
 by_cases hn:(0:Int)<(ns.length:Int)
 .rw[df hn];refine pI hS (kK ⟨hn,CG hS (WK _ ⋯) (FR _ hn) λz _ _=>?_⟩);refine pI hS (kK ?_);rw[df hn];refine CG hS .(0) hn λz0 _ _=>(kK ⟨by decide,rfl,?_⟩);split
  .refine pI hS (kK ?_);have:=JY (i:=z) (Q:=λr=>Q (.int r) H) h0 hn ⋯ h2 q;exact⟨this.1,this.2.1,kK this.2.2⟩
  .exact(kK (Bp (Q:=λr=>Q (.int r) H) h0 h1 h2 q))
 .rw[cq hn];refine pI hS (kK ?_);rw[cq hn];exact Bp (Q:=λr=>Q (.int r) H) h0 h1 h2 q
def qV:Sp:=λvs H Q _=>∃(K h j:Nat),vs=[.int K,.int h,.int j]/\K<=26/\0<h/\∀H',aG H H'->Q (.str (txt (bu K h j))) H'
def Dc(K:W.Frag):TS:=
  bH (Ao K "str" (rJoin K) (tC (.str (txt []))) (ai (eG (xw (ai (tC (.int 1)) (ai (ah 0) aD))) [2,1] (bz (aT GG (aT iT (aT ji (ah 0) (tC (.int 1))) (ah 2)) (ah 1))) (aT lF (tC (.str (txt Aq))) (ah 0))) aD))
theorem Hq(l:VE):(l.map λc=>[c]).flatten=l:=by
 induction l with
 |nil=>rfl
 |cons c l ih=>rw[lj,List.flatten_cons,ih];rfl
theorem JZ(l:VE):((l.map λc=>[c]).map (·.length)).sum=l.length:=by
 induction l with
 |nil=>rfl
 |cons c l ih=>simp only[map_cons,List.sum_cons,ih,length_cons,length_nil];lia
theorem Hr(hN:N.length=3)(h:qV vs H Q E):Dc K {nx:=λ_ H'=>Q .non H',rt:=Q} .(3) H:=by
 obtain⟨n,h,j,rfl,hn,hh,q⟩:=h;unfold Dc L2.start;rw[hN];nofun;refine⟨rfl,?_⟩;refine MX (l:=1) (j:=n) (λQ h=>h) .(0) .(0) ⋯ ⋯ (eJ (show ((n:Int)-1).toNat<=100000 by lia) .(0))
  (λi ys H'=>H'=H/\ys=((List.range i).filter (λi=>decide (i%h=j))).map (λi=>av [98+i])) ⟨rfl,rfl⟩
  (λi ys H' _ p=>by rw[p.2,aw];exact eJ (oI _ _) (by rw[og];exact bb _)) ?_ ?_
 .rintro i ys H' hi ⟨rfl,rfl⟩ R hR;nofun;have e1:(1+(i:Int)-1)%(h:Int)=((i%h:Nat):Int):=by rw[show (1+(i:Int)-1)=(i:Int) by lia];exact(PH i h).symm
  rw[e1];refine⟨by lia,rfl,?_⟩;rw[Wv,wa,fi] at hR;split
  .rename_i e
   refine u0 ⋯ ⋯ (hR _ _ ⟨rfl,?_⟩);rw[show (1+(i:Int)).toNat=i+1 by lia,vy (by simpa using (show i%h=j by lia))]
   simp only[List.filter_nil,map_cons,map_nil];rw[show 97+(i+1)=98+i by lia];rfl
  .rename_i e
   refine hR _ _ ⟨rfl,?_⟩;rw[yB (by simpa using (show ¬i%h=j by lia))];simp
 .rintro ys H' ⟨rfl,rfl⟩ p hp;refine⟨[],p,(bu n h j).map (λc=>[c]),rfl,rfl,?_,?_,?_⟩
  .refine .inl (.inl (XJ aq (tz (λl=>some (HO.lst l)) ?_)));unfold bu;rw[show ((n:Int)-1).toNat=n-1 by lia,mv,mv]
   rfl
  .rw[JZ,aw];have:(bu n h j).length<=26:=by
    unfold bu;rw[aw];exact eJ (oI _ _) (by rw[og];lia)
   simp only[length_nil];lia
  .rw[GV,Hq];exact q _ (aG.up _ hp)
def oV:VH->V
 |none=>.non
 |some l=>.str (txt l)
def vE:VH->Nat->Nat
 |none,_=>0
 |some l,i=>M3 l i
def dS(K:Nat):VH->Nat->Nat
 |none,_=>0
 |some l,n=>val K l n
def Ma:VH->Prop
 |none=>True
 |some l=>Ls 26 l/\l.length<=100000
theorem xR(K:Nat)(o:VH):dS K o 0=0:=by cases o<;>simp[dS,val_zero]
theorem jL(K:Nat)(o:VH)(n:Nat):dS K o (n+1)=dS K o n*K+vE o n:=by
 cases o with
 |none=>simp[dS,vE]
 |some l=>exact val_succ K l n
def Bq:Sp:=λvs H Q _=>∃(o:VH) (i:Nat),vs=[oV o,.int i]/\Ma o/\Q (.int (vE o i:Nat)) H
def J0(K:W.Frag):TS:=
  aJ (dD (An (tB (wZ (ah 0))) (bz (aT Px (ah 1) (fG nP (ai (ah 0) aD))))) (bH (tC (.int 0))) (bX))
   (bH (Ao K "str" uW (tC (.str (txt Aq))) (ai (aT lF (ah 0) (ah 1)) aD)))
theorem J4(hN:N.length=2)(h:Bq vs H Q E):J0 K {nx:=λ_ H'=>Q .non H',rt:=Q} .(3) H:=by
 obtain⟨o,i,rfl,ho,q⟩:=h;unfold J0 L2.start;rw[hN];cases o with
 |none=>
  simp? [oV]
  exact q
 |some l=>
  obtain⟨hl,hz⟩:=ho;simp? [oV]
  refine kg hz (kK ?_)
  by_cases hi:l.length<=i
  .rw[df ⋯];have e:vE (some l) i=0:=by simp[vE,M3,getElem?_eq_none hi]
   rw[e] at q;exact q
  .rw[cq ⋯];have YG:i<l.length:=by lia
   have e:vE (some l) i=l[i]-97:=by simp[vE,M3,YG]
   have hc:=hl l[i] (Wb YG);rw[e] at q;exact⟨rfl,yJ hz ⋯ (by simp[YG]) (qO hc.1 hc.2 q)⟩
def pV:Sp:=λvs H Q _=>∃(L:Nat) (o:VH) (n:Nat),vs=[.int L,oV o,.int n]/\L<=26/\Ma o/\n<=100000/\Q (.int (dS L o n:Nat)) H
def yX:TS:=
  aJ (bh (tC (.int 0)) (aF 3))
   (aJ (g7 (g6 (ai (ah 2) aD)) (aF 4) (bh (aT cI (aT gw (ah 3) (ah 0)) (aW Bq [] E0 (ai (ah 1) (ai (ah 4) aD)))) (aF 3)))
   (bH (ah 3)))
theorem Dd(hN:N.length=5)(h:pV vs H Q E):yX {nx:=λ_ H'=>Q .non H',rt:=Q} .(3) H:=by
 obtain⟨L,o,n,rfl,hL,ho,hn,q⟩:=h;unfold yX L2.start;rw[hN];nofun;refine lG (j:=n) (λQ h=>h) ⋯ ⋯ (λi Y H'=>H'=H/\∃v4,Y=[some (.int L),some (oV o),some (.int n),some (.int (dS L o i:Nat)),v4]) ⟨rfl,_,by rw[xR];rfl⟩ ?_ ?_
 .rintro i Y H1 hi ⟨rfl,v4,rfl⟩;nofun;refine⟨gJ ⋯ ⋯,o,i,rfl,ho,?_⟩;nofun;exact⟨some (.int i),by rw[jL,U2,Fu]⟩
 .rintro Y H1 ⟨rfl,v4,rfl⟩;nofun;rw[ij];exact q
def pW:Sp:=λvs H Q _=>∃(L r n:Nat),vs=[.int L,.int r,.int n]/\0<L/\L<=26/\n<=100000/\Q (.str (txt (mk L r n))) H
def vF(K:W.Frag):TS:=
  aJ (bh (tC (.str (txt []))) (aF 3))
   (aJ (bh (ah 1) (aF 4))
   (aJ (g7 (g6 (ai (ah 2) aD)) (aF 5) (aJ (bh (aT EB (aT lF (tC (.str (txt Aq))) (aT iT (ah 4) (ah 0))) (ah 3)) (aF 3))
   (bh (aT nO (ah 4) (ah 0)) (aF 4))))
   (bH (Ao K "str" yz (ah 3) (ai (tC (.str (txt [97]))) aD)))))
theorem Br(hN:N.length=6)(h:pW vs H Q E):vF K {nx:=λ_ H'=>Q .non H',rt:=Q} .(3) H:=by
 obtain⟨L,r,n,rfl,X2,hL,hn,q⟩:=h;unfold vF L2.start;rw[hN];nofun;refine lG (j:=n) (λQ h=>h) ⋯ ⋯ (λi Y H'=>H'=H/\∃v5,Y=[some (.int L),some (.int r),some (.int n),some (.str (txt (low L r i))),some (.int (r/L^i:Nat)),v5]) ⟨rfl,_,by rw[XG,Nat.div_one];rfl⟩ ?_ ?_
 .rintro i Y H1 hi ⟨rfl,v5,rfl⟩;have e1:((r/L^i:Nat):Int)%(L:Int)=((r/L^i%L:Nat):Int):=(PH _ _).symm;have e2:((r/L^i:Nat):Int)/(L:Int)=((r/L^(i+1):Nat):Int):=by rw[Wc,<-Xn];exact(V5 _ _).symm
  have hb:=WR (r/L^i) X2;nofun;rw[e1,e2];refine⟨by lia,u0 ⋯ ⋯ (EE (by rw[low_length];simp only[length_cons,length_nil];lia) ⟨cdiv ⋯ ⋯,?_⟩)⟩
  exact⟨rfl,some (.int i),by rw[ij];rfl⟩
 .rintro Y H1 ⟨rfl,v5,rfl⟩;nofun;rw[ij];exact⟨rfl,GY (by rw[low_length];exact hn) q⟩
theorem aG.set{o:HO}(s:aG H H')(hp:H p=none):aG H (upd H' p o):=λb q e=>by
 have:=s b q e;rw[aH (gh e hp)];exact this
theorem some_at{α:Type}{l:VI α}(h:i<l.length):∃c,l[i]?=some c:=⟨l[i],dk h⟩
def t6:Sp:=λvs H Q _=>∃(L n:Nat),vs=[.int L,.int n]/\L<=26/\n<=100000/\Q (.int (L^n:Nat)) H
def yY:TS:=
  aJ (bh (tC (.int 1)) (aF 2))
   (aJ (g7 (g6 (ai (ah 1) aD)) (aF 3) (bh (aT gw (ah 2) (ah 0)) (aF 2)))
   (bH (ah 2)))
theorem De(hN:N.length=4)(h:t6 vs H Q E):yY {nx:=λ_ H'=>Q .non H',rt:=Q} .(3) H:=by
 obtain⟨L,n,rfl,hL,hn,q⟩:=h;unfold yY L2.start;rw[hN];nofun;refine lG (j:=n) (λQ h=>h) ⋯ ⋯ (λi Y H'=>H'=H/\∃v3,Y=[some (.int L),some (.int n),some (.int (L^i:Nat)),v3]) ⟨rfl,_,rfl⟩ ?_ ?_
 .rintro i Y H1 hi ⟨rfl,v3,rfl⟩;nofun;exact⟨gJ ⋯ ⋯,some (.int i),by rw[Wc,Fu]⟩
 .rintro Y H1 ⟨rfl,v3,rfl⟩;nofun;rw[ij];exact q
def dU(L:Nat):VH->Nat->Nat
 |none,n=>L^n
 |some h,n=>val L h n
def yZ:Sp:=λvs H Q _=>∃(L:Nat) (o:VH) (n:Nat),vs=[.int L,oV o,.int n]/\L<=26/\Ma o/\n<=100000/\Q (.int (dU L o n:Nat)) H
def Dg:TS:=
  aJ (dD (tB (wZ (ah 1))) (bH (aW t6 [] E0 (ai (ah 0) (ai (ah 2) aD)))) (bX))
   (bH (aW pV [] E0 (ai (ah 0) (ai (ah 1) (ai (ah 2) aD)))))
theorem Hs(hN:N.length=3)(h:yZ vs H Q E):Dg {nx:=λ_ H'=>Q .non H',rt:=Q} .(3) H:=by
 obtain⟨L,o,n,rfl,hL,ho,hn,q⟩:=h;unfold Dg L2.start;rw[hN];cases o with
 |none=>
  simp? [oV]
  exact⟨L,n,rfl,hL,hn,q⟩
 |some h=>
  simp? [oV]
  exact⟨L,some h,n,rfl,hL,ho,hn,q⟩
def pX:Sp:=λvs H Q _=>∃(L:Nat) (es:VE) (n:Nat),vs=[.int L,.str (txt es),.int n]/\0<L/\L<=26/\es.length<=26/\∀H',aG H H'->Q (.int (ob L es n:Nat)) H'
def y9(K:W.Frag):TS:=
  aJ (fq 3 (Jf (ah 1)) [2,0] (bz (aT MV (ah 0) (aT lF (tC (.str (txt Aq))) (aT iT (ah 1) (ah 2))))) (ah 0))
   (bH (aT cI (aT gw (aT nO (ah 2) (ah 0)) (fG nP (ai (ah 1) aD))) (fG (dJ K) (ai (ah 3) aD))))
theorem J5(a b:Nat):([a]<[b])↔a<b:=by
 rw[vx];constructor
 .rintro(h|⟨_,h⟩)
  .exact h
  .exact absurd h (List.not_lt_nil _)
 .exact .inl
theorem Dh(hN:N.length=4)(h:pX vs H Q E):y9 K {nx:=λ_ H'=>Q .non H',rt:=Q} .(3) H:=by
 obtain⟨L,es,n,rfl,X2,hL,ZG,q⟩:=h;unfold y9 L2.start;rw[hN];have hm:=WR n X2;have e1:(n:Int)%(L:Int)=((n%L:Nat):Int):=(PH _ _).symm;have e2:(n:Int)/(L:Int)=((n/L:Nat):Int):=(V5 _ _).symm;nofun;refine Jl (l:=es) (λQ h=>h) (eJ (show es.length<=100000 by lia) .(0)) (λi ys H'=>H'=H/\ys=((es.take i).filter λe=>decide (e<97+n%L)).map (λc=>av [c])) ⟨rfl,rfl⟩
  (λi ys H' _ p=>by rw[p.2,aw];exact eJ (oI _ _) (by rw[fg];lia)) ?_ ?_
 .rintro i c ys H' hc ⟨rfl,rfl⟩ R hR;nofun;rw[e1];refine⟨by lia,u0 ⋯ ⋯ ⟨_,_,rfl,rfl,bK ?_⟩⟩
  rw[ij];rw[Xx,hc,wa,fi] at hR
  by_cases XZ:c<97+n%L
  .rw[dr ((J5 _ _).mpr XZ),df rfl];refine hR _ _ ⟨rfl,?_⟩;show _=_++List.map _ (List.filter _ [c]);rw[vy (by simpa using XZ)];rfl
  .rw[eQ (λz=>XZ ((J5 _ _).mp z)),cq .(0)];refine hR _ _ ⟨rfl,?_⟩;show _=_++List.map _ (List.filter _ [c]);rw[yB (by simpa using XZ)];simp
 .rintro ys H' ⟨rfl,rfl⟩ p hp;rw[e2];refine⟨cdiv ⋯ ⋯,kg ⋯ (kK ⟨gJ ⋯ ⋯,?_⟩)⟩;refine cJ bw.here (kK ?_);rw[aw,lL];have:=q _ (aG.up H' hp (o:=HO.lst ((es.filter λe=>decide (e<97+n%L)).map (λc=>av [c]))));unfold ob MM.cnt at this;rw[U2,Fu] at this;exact this
def pY:Sp:=λvs H Q _=>∃(L:Nat) (es:VE) (n:Nat),vs=[.int L,.str (txt es),.int n]/\0<L/\L<=26/\es.length<=26/\∀H',aG H H'->Q (.int (ob L es (n+1):Nat)) H'
def za:TS:=bH (aW pX [] E0 (ai (ah 0) (ai (ah 1) (ai (aT cI (ah 2) (tC (.int 1))) aD))))
theorem Di(hN:N.length=3)(h:pY vs H Q E):za {nx:=λ_ H'=>Q .non H',rt:=Q} .(3) H:=by
 obtain⟨L,es,n,rfl,X2,hL,ZG,q⟩:=h;unfold za L2.start;rw[hN];nofun;exact⟨L,es,n+1,rfl,X2,hL,ZG,q⟩
def lO:VH->Nat->Nat->Nat
 |none,w,_=>w
 |some h,w,n=>if n<h.length then w+1 else w
def vG(b:Bool)(o:VH)(w n:Nat):Nat:=if b=true then lO o w n else w
inductive pZ:VI V->Hp->VK->XK->Prop
 |mk {H:Hp} {Q:VK} {a8:XK} (L:Nat) (es:VE) (o:VH) (w n:Nat) (b:Bool):0<L->L<=26->es.length<=26->Ma o->(∀H',aG H H'->Q (.int (ob L es (vG b o w n):Nat)) H')->pZ  [.int L,.str (txt es),oV o,.int w,.int n,.bl b] H Q a8
def zb:TS:=
  aJ (dD (oh (tB (ah 5)) (oh (tB (jf (ah 2))) (bz (aT w6 (ah 4) (fG nP (ai (ah 2) aD)))))) (bH (aW pX [] E0 (ai (ah 0) (ai (ah 1) (ai (aT cI (ah 3) (tC (.int 1))) aD))))) (bX))
   (bH (aW pX [] E0 (ai (ah 0) (ai (ah 1) (ai (ah 3) aD)))))
theorem Dj(hN:N.length=6)(h:pZ vs H Q E):zb {nx:=λ_ H'=>Q .non H',rt:=Q} .(3) H:=by
 obtain⟨L,es,o,w,n,b,X2,hL,ZG,ho,q⟩:=h;unfold zb L2.start;rw[hN];cases b with
 |false=>
  nofun;exact⟨L,es,w,rfl,X2,hL,ZG,q⟩
 |true=>
  cases o with
  |none=>
   simp? [oV]
   exact⟨L,es,w,rfl,X2,hL,ZG,q⟩
  |some h=>
   simp? [oV]
   refine kg ho.2 (kK ?_);have ea:vG true (some h) w n=if n<h.length then w+1 else w:=rfl
   rw[ea] at q
   by_cases hn:n<h.length
   .rw[df ⋯];rw[df hn] at q;exact⟨L,es,w+1,rfl,X2,hL,ZG,q⟩
   .rw[cq ⋯];rw[cq hn] at q;exact⟨L,es,w,rfl,X2,hL,ZG,q⟩
def ja(lo hi:VH):Prop:=∀l h,lo=some l->hi=some h->l<h
def iO(c:θ):Sp:=λvs H Q E=>∃lo hi:VH,vs=[oV lo,oV hi]/\(ja lo hi->Q .non H)/\(¬ja lo hi->E (.ref c) none H)
def mS(c:θ)(E:XK)(m:VE):TS:=
  dD (oh (tB (jf (ah 0))) (oh (tB (jf (ah 1))) (bz (aT Uy (ah 0) (ah 1))))) (jz (.ref c) E (ai (tC (.str (txt m))) aD)) (bX)
theorem zc{c:θ}(hN:N.length=2)(h:iO c vs H Q E):mS c E m {nx:=λ_ H'=>Q .non H',rt:=Q} .(3) H:=by
 obtain⟨lo,hi,rfl,q1,q2⟩:=h;unfold mS L2.start;rw[hN];cases lo with
 |none=>
  simp? [oV]
  exact q1 (λl h e=>nomatch e)
 |some l=>
  cases hi with
  |none=>
   simp? [oV]
   exact q1 (λl h _ e=>nomatch e)
  |some h=>
   simp? [oV]
   refine⟨l,h,rfl,rfl,bK ?_⟩
   by_cases hl:l<h
   .rw[dr hl,cq .(0)];exact q1 (λl' h' e1 e2=>by cases e1;cases e2;exact hl)
   .rw[eQ hl,df .(0)];exact⟨by decide,q2 (λz=>hl (z l h rfl rfl))⟩
def Bt(L:Nat)(es:VE)(lo hi:VH)(n:Nat):Int:=(ob L es (lO hi (dU L hi n) n):Nat)-(ob L es (dS L lo n+1):Nat)
def gF(b:Bool)(L:Nat)(es:VE)(lo hi:VH)(n:Nat):Int:=(ob L es (vG b hi (dU L hi n) n):Nat)-(ob L es (dS L lo n+1):Nat)
theorem Dk(L:Nat)(es:VE)(lo hi:VH)(n:Nat):gF true L es lo hi n=Bt L es lo hi n:=rfl
inductive jM:VI V->Hp->VK->XK->Prop
 |mk {H:Hp} {Q:VK} {a8:XK} (L:Nat) (es:VE) (lo hi:VH) (n:Nat) (b:Bool):0<L->L<=26->es.length<=26->Ma lo->Ma hi->n<=100000->(∀H',aG H H'->Q (.int (gF b L es lo hi n)) H')->jM  [.int L,.str (txt es),oV lo,oV hi,.int n,.bl b] H Q a8
def qW:TS:=
  aJ (bh (aW pV [] E0 (ai (ah 0) (ai (ah 2) (ai (ah 4) aD)))) (aF 6))
   (aJ (bh (aW yZ [] E0 (ai (ah 0) (ai (ah 3) (ai (ah 4) aD)))) (aF 7))
   (aJ (bh (aW pZ [] E0 (ai (ah 0) (ai (ah 1) (ai (ah 3) (ai (ah 7) (ai (ah 4) (ai (ah 5) aD))))))) (aF 8))
   (bH (aT ji (ah 8) (aW pY [] E0 (ai (ah 0) (ai (ah 1) (ai (ah 6) aD))))))))
theorem zd(hN:N.length=9)(h:jM vs H Q E):qW {nx:=λ_ H'=>Q .non H',rt:=Q} .(3) H:=by
 obtain⟨L,es,lo,hi,n,b,l0,l26,ZG,olo,ohi,hn,q⟩:=h;unfold qW L2.start;rw[hN];nofun;refine⟨L,lo,n,rfl,l26,olo,hn,?_⟩;refine⟨L,hi,n,rfl,l26,ohi,hn,?_⟩;refine⟨L,_,hi,_,n,b,l0,l26,ZG,ohi,λH2 s2=>?_⟩;refine⟨L,_,_,rfl,l0,l26,ZG,λH3 s3=>?_⟩;nofun;exact q _ (s2.trans s3)
structure Dm(L h j:Nat)(lo hi:VH)(n:Nat):Prop where
 l0:0<L
 l26:L<=26
 h0:0<h
 lo:Ma lo
 hi:Ma hi
 n:n<=100000
theorem jN(hL:L<=26):(bu L h j).length<=26:=by
 unfold bu;rw[aw];exact eJ (oI _ _) (by rw[og];lia)
def Dp(c:θ):Sp:=λvs H Q E=>∃(L h j:Nat) (lo hi:VH) (n:Nat),vs=[.int L,.int h,.int j,oV lo,oV hi,.int n]/\Dm L h j lo hi n/\(ja lo hi->∀H',aG H H'->Q (.int (Bt L (bu L h j) lo hi n)) H')/\(¬ja lo hi->E (.ref c) none H)
def Dq(c:θ)(E:XK):TS:=
  aJ (cM (aW (iO c) [] E (ai (ah 3) (ai (ah 4) aD))))
   (bH (aW jM [] E0 (ai (ah 0) (ai (aW qV [] E0 (ai (ah 0) (ai (ah 1) (ai (ah 2) aD)))) (ai (ah 3) (ai (ah 4) (ai (ah 5) (ai (tC (.bl true)) aD))))))))
theorem Hu{c:θ}(hN:N.length=6)(h:Dp c vs H Q E):Dq c E {nx:=λ_ H'=>Q .non H',rt:=Q} .(3) H:=by
 obtain⟨L,h,j,lo,hi,n,rfl,R,q1,q2⟩:=h;unfold Dq L2.start;rw[hN];nofun;refine⟨lo,hi,rfl,λok=>?_,q2⟩;nofun;refine⟨L,h,j,rfl,R.l26,R.h0,λH1 s1=>?_⟩;refine⟨L,_,lo,hi,n,true,R.l0,R.l26,jN R.l26,R.lo,R.hi,R.n,λH2 s2=>?_⟩;exact q1 ok _ (s1.trans s2)
inductive Bu (c:θ):VI V->Hp->VK->XK->Prop
 |mk {H:Hp} {Q:VK} {E:XK} (L h j:Nat) (lo hi:VH) (n k:Nat):Dm L h j lo hi n->j<h->h+1<=L->(ja lo hi->∀H',aG H H'->Q (.str (txt (mk L (tF L (bu L h j) (ob L (bu L h j) (dS L lo n+1)+k)) n))) H')->(¬ja lo hi->E (.ref c) none H)->Bu c [.int L,.int h,.int j,oV lo,oV hi,.int n,.int k] H Q E
def J6(K:W.Frag)(c:θ)(E:XK):TS:=
  aJ (cM (aW (iO c) [] E (ai (ah 3) (ai (ah 4) aD))))
   (aJ (bh (aW qV [] E0 (ai (ah 0) (ai (ah 1) (ai (ah 2) aD)))) (aF 7))
   (aJ (bh (aW pV [] E0 (ai (ah 0) (ai (ah 3) (ai (ah 5) aD)))) (aF 8))
   (aJ (bh (aT cI (aW pY [] E0 (ai (ah 0) (ai (ah 7) (ai (ah 8) aD)))) (ah 6)) (aF 9))
   (aJ (bh (Ao K "str" uW (tC (.str (txt Aq))) (ai (aT lF (ah 7) (aT iT (ah 9) (fG nP (ai (ah 7) aD)))) aD)) (aF 10))
   (bH (aW pW [] E0 (ai (ah 0) (ai (aT cI (aT gw (aT nO (ah 9) (fG nP (ai (ah 7) aD))) (ah 0)) (ah 10)) (ai (ah 5) aD)))))))))
theorem J7{c:θ}(hN:N.length=11)(h:Bu c vs H Q E):J6 K c E {nx:=λ_ H'=>Q .non H',rt:=Q} .(3) H:=by
 obtain⟨L,h,j,lo,hi,n,k,R,hj,hh,q1,q2⟩:=h;unfold J6 L2.start;rw[hN];nofun;refine⟨lo,hi,rfl,λok=>?_,q2⟩;have q1:=q1 ok;nofun;refine⟨L,h,j,rfl,R.l26,R.h0,λH1 s1=>?_⟩;have EN:=jo hj hh;have Y5:=jN (h:=h) (j:=j) R.l26;generalize bu L h j=es at q1 EN Y5 ⊢;refine⟨L,lo,n,rfl,R.l26,R.lo,R.n,?_⟩;refine⟨L,_,_,rfl,R.l0,R.l26,Y5,λH2 s2=>?_⟩;nofun;generalize ob L es (dS L lo n+1)=p0 at q1 ⊢;have hp:0<es.length:=Fh.mpr EN.ne;refine⟨rfl,kg ⋯ (kK ⟨by lia,?_⟩)⟩;have e1:((p0:Int)+(k:Int))%(es.length:Int)=(((p0+k)%es.length:Nat):Int):=by rw[<-U2];exact(PH _ _).symm
 have e2:((p0:Int)+(k:Int))/(es.length:Int)=(((p0+k)/es.length:Nat):Int):=by rw[<-U2];exact(V5 _ _).symm
 have hm:=WR (p0+k) hp;obtain⟨c0,hc0⟩:=some_at hm;have hcm:=dy hc0;have c1:=EN.lo c0 hcm;have c2:=EN.hi c0 hcm;have l26:=R.l26;rw[e1];refine yJ ⋯ ⋯ (by rw[ij];exact hc0) (qO ⋯ ⋯ ?_);nofun;refine kg ⋯ (kK ⟨cdiv ⋯ ⋯,gJ ⋯ ⋯,?_⟩);rw[e2];refine⟨L,tF L es (p0+k),n,?_,R.l0,R.l26,R.n,q1 _ (s1.trans s2)⟩;unfold tF;rw[hE,hc0,U2,Fu];rfl
structure cy(L:Nat)(lo hi:VH):Prop where
 mlo:∀m,lo=some m->Mark L m/\m.length<=1000
 mhi:∀m,hi=some m->Mark L m/\m.length<=1000
def dH:VH->Nat
 |none=>0
 |some l=>l.length
structure jO(L h j:Nat):Prop where
 l2:2<=L
 l26:L<=26
 hj:j<h
 hh:h+1<=L
structure jB(b:Bool)(L:Nat)(es:VE)(lo hi:VH)(k n:Nat):Prop where
 pos:1<=n
 len:n<=1+dH lo+k\/n<=1+dH hi+k
 room:(k:Int)<=gF b L es lo hi n
 less:∀m,1<=m->m<n->gF b L es lo hi m<k
theorem jB.one{b:Bool}{k m:Nat}(A:jB b L es lo hi k n)(B:jB b L es lo hi k m):n=m:=by
 rcases HI n m with h|h|h
 .have:=B.less n A.pos h;have:=A.room;lia
 .exact h
 .have:=A.less m B.pos h;have:=B.room;lia
theorem cy.Ug(M:cy L lo hi)(hL:L<=26):Ma lo/\Ma hi:=by
 constructor
 .cases lo with
  |none=>trivial
  |some m=>exact⟨(M.mlo m rfl).1.ls.mono hL,by have:=(M.mlo m rfl).2;lia⟩
 .cases hi with
  |none=>trivial
  |some m=>exact⟨(M.mhi m rfl).1.ls.mono hL,by have:=(M.mhi m rfl).2;lia⟩
theorem cy.J8(M:cy L lo hi)(D:jO L h j)(hn:n<=100000):Dm L h j lo hi n:=
 ⟨by have:=D.l2;lia,D.l26,by have:=D.hj;lia,(M.Ug D.l26).1,(M.Ug D.l26).2,hn⟩
theorem cy.lens(M:cy L lo hi):dH lo<=1000/\dH hi<=1000:=by
 constructor
 .cases lo with
  |none=>exact mi _
  |some m=>exact(M.mlo m rfl).2
 .cases hi with
  |none=>exact mi _
  |some m=>exact(M.mhi m rfl).2
theorem kE(L:Nat)(o:VH)(n:Nat):dU L o (n+1)=dU L o n*L+vE o n:=by
 cases o with
 |none=>show L^(n+1)=L^n*L+0;rw[Wc];rfl
 |some l=>exact val_succ L l n
theorem jP{o:VH}(h:dH o<=n):vE o n=0:=by
 cases o with
 |none=>rfl
 |some l=>show M3 l n=0;unfold M3;rw[mn h]
theorem xS(hL:0<L)(M:cy L lo hi)(ok:ja lo hi)(h1:dH lo<=n)(h2:dH hi<=n):dS L lo n<dU L hi n:=by
 cases lo with
 |none=>
  cases hi with
  |none=>exact pow_pos hL
  |some h=>exact tV hL n (M.mhi h rfl).1.ls (M.mhi h rfl).1.na (M.mhi h rfl).1.ne h2
 |some l=>
  cases hi with
  |none=>exact iy hL n (M.mlo l rfl).1.ls
  |some h=>exact(CJ hL n (M.mlo l rfl).1.ls (M.mhi h rfl).1.ls (M.mlo l rfl).1.na (M.mhi h rfl).1.na h1 h2).mp (ok l h rfl rfl)
theorem Bv(hL:2<=L)(M:cy L lo hi)(ok:ja lo hi)(h1:dH lo<=n)(h2:dH hi<=n):∀t,dS L lo (n+t)+(t+1)<=dU L hi (n+t)
 | 0=>xS ⋯ M ok h1 h2
 |t+1=>by
  have ih:=Bv hL M ok h1 h2 t;rw[show n+(t+1)=n+t+1 by lia,jL,kE,jP ⋯,jP ⋯,Mo,Mo]
  have:=vw L ih;rw[V7] at this;have h3:(t+1)*2<=(t+1)*L:=Dx _ hL;lia
theorem xT(hL:0<L)(E:MM.Ends L es)(v d:Nat):ob L es (v*L+1)+d<=ob L es ((v+d)*L):=by
 have hp:0<es.length:=Fh.mpr E.ne;obtain⟨e,he⟩:=List.exists_mem_of_ne_nil _ E.ne;have h1:=E.lo e he;have h2:=E.hi e he;have m1:(v*L+1)/L=v:=by rw[FX,Xt hL,V3 ⋯];rfl
 have m2:(v*L+1)%L=1:=by rw[FX,Wg,tj ⋯]
 unfold ob;rw[m1,m2,Nat.mul_div_cancel _ hL,Nat.mul_mod_left,Mo,EK E.lo];have:MM.cnt es (97+1)=0:=by
  unfold MM.cnt;rw[sg,zr];intro e he;have:=E.lo e he;simp only[decide_eq_true_eq];lia
 rw[this,V7];have:=Nat.le_mul_of_pos_right d hp;lia
theorem xU{b:Bool}{k:Nat}(hL:2<=L)(E:MM.Ends L es)(M:cy L lo hi)(ok:ja lo hi)(h1:dH lo<=n)(h2:dH hi<=n):(k:Int)<=gF b L es lo hi (n+k+1):=by
 have hv:=Bv hL M ok h1 h2 k;have X2:0<L:=by lia
 have ea:vG b hi (dU L hi (n+k+1)) (n+k+1)=dU L hi (n+k+1):=by
  cases b with
  |false=>rfl
  |true=>
   cases hi with
   |none=>rfl
   |some h=>
    show (if n+k+1<h.length then _ else _)=_;have h2:h.length<=n:=h2;rw[cq ⋯]
 unfold gF;rw[ea,kE,jL,jP ⋯,jP ⋯,Mo,Mo];have b:=xT X2 E (dS L lo (n+k)) k;have m:=kq X2 E (vw L (show dS L lo (n+k)+k<=dU L hi (n+k) by lia));lia
theorem Dr{b:Bool}(hL:2<=L)(E:MM.Ends L es)(M:cy L lo hi)(ok:ja lo hi)(h1:dH lo<=n)(h2:dH hi<=n):0<gF b L es lo hi (n+1):=by
 have hv:=xS ⋯ M ok h1 h2;have X2:0<L:=by lia
 have ea:vG b hi (dU L hi (n+1)) (n+1)=dU L hi (n+1):=by
  cases b with
  |false=>rfl
  |true=>
   cases hi with
   |none=>rfl
   |some h=>
    show (if n+1<h.length then _ else _)=_;have h2:h.length<=n:=h2;rw[cq ⋯]
 unfold gF;rw[ea,kE,jL,jP h1,jP h2,Mo,Mo];have b:=xT X2 E (dS L lo n) 1;have m:=kq X2 E (vw L (show dS L lo n+1<=dU L hi n by lia));lia
theorem jB.RO{b:Bool}(A:jB b L es lo hi 1 n)(hL:2<=L)(E:MM.Ends L es)(M:cy L lo hi)(ok:ja lo hi):n<=1+max (dH lo) (dH hi):=by
 rcases QQ (1+max (dH lo) (dH hi)) n with z|z
 .have r:=Dr (b:=b) hL E M ok (n:=max (dH lo) (dH hi)) (Wd _ _) (PQ _ _);have:=A.less (max (dH lo) (dH hi)+1) ⋯ ⋯;lia
 .exact z
inductive lP:VI V->Hp->VK->XK->Prop
 |mk {H:Hp} {Q:VK} {a8:XK} (L:Nat) (es:VE) (lo hi:VH) (k:Nat) (b:Bool):2<=L->L<=26->es.length<=26->MM.Ends L es->cy L lo hi->ja lo hi->1<=k->k<=10000->(∀H' n,aG H H'->jB b L es lo hi k n->Q (.int n) H')->lP  [.int L,.str (txt es),oV lo,oV hi,.int k,.bl b] H Q a8
def vH:TS:=
  aJ (bh (tC (.int 0)) (aF 6))
   (aJ (bh (tC (.int 0)) (aF 7))
   (aJ (bh (tC (.int 0)) (aF 8))
   (aJ (bh (aW yZ [] E0 (ai (ah 0) (ai (ah 3) (ai (tC (.int 0)) aD)))) (aF 9))
   (aJ (oj (bz (aT w6 (ah 7) (ah 4))) (aJ (bh (aT cI (aT gw (ah 8) (ah 0)) (aW Bq [] E0 (ai (ah 2) (ai (ah 6) aD)))) (aF 8))
   (aJ (bh (aT cI (aT gw (ah 9) (ah 0)) (aW Bq [] E0 (ai (ah 3) (ai (ah 6) aD)))) (aF 9))
   (aJ (bh (aT cI (ah 6) (tC (.int 1))) (aF 6))
   (aJ (bh (aW pZ [] E0 (ai (ah 0) (ai (ah 1) (ai (ah 3) (ai (ah 9) (ai (ah 6) (ai (ah 5) aD))))))) (aF 10))
   (bh (aT ji (ah 10) (aW pY [] E0 (ai (ah 0) (ai (ah 1) (ai (ah 8) aD))))) (aF 7)))))))
   (bH (ah 6))))))
theorem Bw(hN:N.length=11)(h:lP vs H Q E):vH {nx:=λ_ H'=>Q .non H',rt:=Q} .(3) H:=by
 obtain⟨L,es,lo,hi,k,b,Y1,Nm,Y5,EN,M,ok,hk1,hk2,q1⟩:=h;unfold vH L2.start;rw[hN];have X2:0<L:=by lia
 obtain⟨okl,okh⟩:=M.Ug Nm;have hlen:=M.lens;nofun;refine⟨L,hi,0,rfl,Nm,okh,by lia,?_⟩;have rl:=xU (b:=b) (n:=max (dH lo) (dH hi)) (k:=k) Y1 EN M ok (Wd _ _) (PQ _ _);have mx:max (dH lo) (dH hi)=dH lo\/max (dH lo) (dH hi)=dH hi:=by lia
 generalize max (dH lo) (dH hi)=N1 at rl mx;obtain⟨N0,hN0⟩:∃N0,N0=N1+k:=⟨_,rfl⟩;rw[<-hN0] at rl;refine pJ (λm Y H'=>∃(n:Nat) (r:Int) (v10:ο V),aG H H'/\Y=[some (.int L),some (.str (txt es)),some (oV lo),some (oV hi),some (.int k),some (.bl b),some (.int n),some (.int r),some (.int (dS L lo n:Nat)),some (.int (dU L hi n:Nat)),v10]/\n<=N0+1/\m=N0+1-n/\((n=0/\r=0)\/(1<=n/\r=gF b L es lo hi n))/\∀m',1<=m'->m'<n->gF b L es lo hi m'<k) (N0+1)
  ⟨0,0,none,aG.refl _,by rw[xR];rfl,by lia,by lia,.inl ⟨rfl,rfl⟩,λm' h1 h2=>by lia⟩ ?_
 rintro m Y H2 ⟨n,r,v10,s2,rfl,hn,hm,hr,hp⟩ R hgo YC;nofun
 by_cases hr1:r<k
 .rw[dr hr1];refine hgo H2 ?_;have hnN:n<=N0:=by
   by_cases z:n=N0+1
   .subst z
    rcases hr with⟨z,_⟩|⟨_,z⟩
    .omega
    .omega
   .omega
  nofun;refine⟨gJ ⋯ ⋯,lo,n,rfl,okl,?_⟩;nofun;refine⟨gJ ⋯ ⋯,hi,n,rfl,okh,?_⟩;nofun;have e1:((dS L lo n:Nat):Int)*(L:Int)+(vE lo n:Nat)=(dS L lo (n+1):Nat):=by rw[jL,U2,Fu]
  have e2:((dU L hi n:Nat):Int)*(L:Int)+(vE hi n:Nat)=(dU L hi (n+1):Nat):=by rw[kE,U2,Fu]
  have e3:(n:Int)+1=((n+1:Nat):Int):=rfl;rw[e1,e2,e3];refine⟨L,es,hi,_,n+1,b,X2,Nm,Y5,okh,λH3 s3=>?_⟩;refine⟨L,es,_,rfl,X2,Nm,Y5,λH4 s4=>?_⟩;nofun;refine⟨N0+1-(n+1),by lia,(s2.trans s3).trans s4,n+1,gF b L es lo hi (n+1),_,rfl,by lia,rfl,.inr ⟨by lia,rfl⟩,λm' h1 h2=>?_⟩
  by_cases z:m'=n
  .subst z
   rcases hr with⟨z,_⟩|⟨_,z⟩
   .omega
   .omega
  .exact hp m' h1 ⋯
 .rw[eQ hr1];refine YC H2 ?_;nofun
  rcases hr with⟨z,z2⟩|⟨z,rfl⟩
  .omega
  .exact q1 _ n s2 ⟨z,by lia,by lia,hp⟩
inductive ua (c:θ):VI V->Hp->VK->XK->Prop
 |mk {H:Hp} {Q:VK} {E:XK} (L h j:Nat) (lo hi:VH) (k:Nat):jO L h j->cy L lo hi->1<=k->k<=10000->(ja lo hi->∀H' n,aG H H'->jB true L (bu L h j) lo hi k n->Q (.int n) H')->(¬ja lo hi->E (.ref c) none H)->ua c [.int L,.int h,.int j,oV lo,oV hi,.int k] H Q E
def ze(c:θ)(E:XK):TS:=
  aJ (cM (aW (iO c) [] E (ai (ah 3) (ai (ah 4) aD))))
   (bH (aW lP [] E0 (ai (ah 0) (ai (aW qV [] E0 (ai (ah 0) (ai (ah 1) (ai (ah 2) aD)))) (ai (ah 3) (ai (ah 4) (ai (ah 5) (ai (tC (.bl true)) aD))))))))
theorem Ds{c:θ}(hN:N.length=6)(h:ua c vs H Q E):ze c E {nx:=λ_ H'=>Q .non H',rt:=Q} .(3) H:=by
 obtain⟨L,h,j,lo,hi,k,D,M,hk1,hk2,q1,q2⟩:=h;unfold ze L2.start;rw[hN];nofun;refine⟨lo,hi,rfl,λok=>?_,q2⟩;nofun;refine⟨L,h,j,rfl,D.l26,by have:=D.hj;lia,λH1 s1=>?_⟩;exact⟨L,_,lo,hi,k,true,D.l2,D.l26,jN D.l26,jo (K:=L) D.hj D.hh,M,ok,hk1,hk2,λH2 n s2 LN=>q1 ok _ n (s1.trans s2) LN⟩
def By:VH->VH->Int->Int
 |some _,none,_=>0
 |none,some _,z=>z-1
 |_,_,z=>(z-1)/2
def Dt:Sp:=λvs H Q _=>∃(lo hi:VH) (z:Int),vs=[oV lo,oV hi,.int z]/\Q (.int (By lo hi z)) H
def Du:TS:=
  aJ (dD (oh (tB (wZ (ah 1))) (tB (jf (ah 0)))) (bH (tC (.int 0))) (bX))
   (aJ (dD (oh (tB (wZ (ah 0))) (tB (jf (ah 1)))) (bH (aT ji (ah 2) (tC (.int 1)))) (bX))
   (bH (aT nO (aT ji (ah 2) (tC (.int 1))) (tC (.int 2)))))
theorem Hv(hN:N.length=3)(h:Dt vs H Q E):Du {nx:=λ_ H'=>Q .non H',rt:=Q} .(3) H:=by
 obtain⟨lo,hi,z,rfl,q⟩:=h;unfold Du L2.start;rw[hN];cases lo<;>cases hi
 .simp? [oV]
  exact⟨cdiv .(0) .(0),q⟩
 .simp? [oV]
  exact q
 .simp? [oV]
  exact q
 .simp? [oV]
  exact⟨cdiv .(0) .(0),q⟩
structure Found(L:Nat)(es:VE)(lo hi:VH)(n w:Nat)(m:VE):Prop where
 least:jB true L es lo hi 1 n
 eq:m=low L w n
 own:ow L es w=true
 ge:dS L lo n+1<=w
 lt:w<lO hi (dU L hi n) n
 at_:(ob L es w:Int)=(ob L es (dS L lo n+1):Int)+By lo hi (Bt L es lo hi n)
def qX(c:θ):Sp:=λvs H Q E=>∃(L h j:Nat) (lo hi:VH),vs=[.int L,.int h,.int j,oV lo,oV hi]/\jO L h j/\cy L lo hi/\(ja lo hi->∀H' n w m,aG H H'->Found L (bu L h j) lo hi n w m->Q (.str (txt m)) H')/\(¬ja lo hi->E (.ref c) none H)
def qY(c:θ)(E:XK):TS:=
  aJ (bh (aW (ua c) [] E (ai (ah 0) (ai (ah 1) (ai (ah 2) (ai (ah 3) (ai (ah 4) (ai (tC (.int 1)) aD))))))) (aF 5))
   (aJ (bh (aW (Dp c) [] E (ai (ah 0) (ai (ah 1) (ai (ah 2) (ai (ah 3) (ai (ah 4) (ai (ah 5) aD))))))) (aF 6))
   (bH (aW (Bu c) [] E (ai (ah 0) (ai (ah 1) (ai (ah 2) (ai (ah 3) (ai (ah 4) (ai (ah 5) (ai (aW Dt [] E0 (ai (ah 3) (ai (ah 4) (ai (ah 6) aD)))) aD))))))))))
theorem Nn(lo hi:VH){z:Int}(h:0<z):0<=By lo hi z/\By lo hi z<z:=by
 cases lo<;>cases hi<;>simp only[By]<;>lia
theorem zf{c:θ}(hN:N.length=7)(h:qX c vs H Q E):qY c E {nx:=λ_ H'=>Q .non H',rt:=Q} .(3) H:=by
 obtain⟨L,h,j,lo,hi,rfl,D,M,q1,q2⟩:=h;unfold qY L2.start;rw[hN];nofun;refine⟨L,h,j,lo,hi,1,D,M,by lia,by lia,λok H1 n s1 LN=>?_,q2⟩;have Y1:=D.l2;have X2:0<L:=by lia
 have EN:=jo (K:=L) D.hj D.hh;have hlen:=M.lens;have hn:n<=1002:=by have:=LN.len;lia
 have Rm:=M.J8 (n:=n) D ⋯;refine⟨L,h,j,lo,hi,n,rfl,Rm,λ_ H2 s2=>?_,λz=>absurd ok z⟩;refine⟨lo,hi,_,rfl,?_⟩;have LNr:0<Bt L (bu L h j) lo hi n:=by have:=LN.room;rw[Dk] at this;lia
 obtain⟨t0,t1⟩:=Nn lo hi LNr;obtain⟨k,hk⟩:=kd t0;rw[hk];refine⟨L,h,j,lo,hi,n,k,Rm,D.hj,D.hh,λ_ H3 s3=>?_,λz=>absurd ok z⟩;have q:=q1 ok H3 n (tF L (bu L h j) (ob L (bu L h j) (dS L lo n+1)+k)) (low L (tF L (bu L h j) (ob L (bu L h j) (dS L lo n+1)+k)) n) ((s1.trans s2).trans s3);obtain⟨n',rfl⟩:∃n',n=n'+1:=⟨n-1,by have:=LN.pos;lia⟩;rw[JF X2 (EL EN _)];obtain⟨o1,o2⟩:=yO X2 EN (ob L (bu L h j) (dS L lo (n'+1)+1)+k);have hri:Bt L (bu L h j) lo hi (n'+1)=(ob L (bu L h j) (lO hi (dU L hi (n'+1)) (n'+1)):Nat)-(ob L (bu L h j) (dS L lo (n'+1)+1):Nat):=rfl;obtain⟨i1,i2⟩:=CN X2 EN (A:=dS L lo (n'+1)+1) (B:=lO hi (dU L hi (n'+1)) (n'+1)) (p:=ob L (bu L h j) (dS L lo (n'+1)+1)+k) ⋯ ⋯;exact q ⟨LN,rfl,o2,i1,i2,by rw[o1,hk];lia⟩
theorem EY(hL:0<L)(w:Nat):ow L (bu L h j) w=true↔0<w%L/\(w%L-1)%h=j:=by
 unfold ow;rw[decide_eq_true_iff,iN];have:=WR w hL;constructor
 .rintro⟨i,h1,h2,h3⟩;have:w%L=i+1:=by lia
  rw[this];exact⟨by lia,h2⟩
 .rintro⟨h1,h2⟩;exact⟨w%L-1,by lia,h2,by lia⟩
theorem EZ{w:Nat}(hL:0<L)(hw:w<L^(n+1))(h0:w%L≠0){l:VE}(hl:Ls L l):l<low L w (n+1)↔val L l (n+1)+1<=w:=by
 rw[EJ hL (n+1) hl (qQ hL _ _) (λc hc=>by rw[lI hL] at hc;have:=eI hc;lia) (low_length _ _ _),i6 hL,tj hw];lia
theorem J9{w:Nat}(hL:0<L)(hw:w<L^n){h:VE}(hh:Ls L h)(na:Na h):low L w n<h↔w<lO (some h) (val L h n) n:=by
 rw[A6 hL n hh (qQ hL _ _) na (low_length _ _ _),i6 hL,tj hw];have e:lO (some h) (val L h n) n=if n<h.length then val L h n+1 else val L h n:=rfl
 rw[e]
 by_cases z:n<h.length
 .rw[df z];lia
 .rw[cq z];lia
theorem Ka(n:Nat)(hL:0<L)(M:cy L lo hi):lO hi (dU L hi n) n<=L^n:=by
 cases hi with
 |none=>exact bb _
 |some h=>
  have v:=iy hL n (M.mhi h rfl).1.ls;show (if n<h.length then val L h n+1 else val L h n)<=L^n;split<;>lia
theorem Np{k R:Nat}(h:k<=R):i+1<=(i+1)*(R+1)/(k+1):=by
 rw[Nat.le_div_iff_mul_le ⋯];exact Dx _ ⋯
theorem Nq{k R:Nat}(h:i<k):(i+1)*(R+1)/(k+1)<R+1:=by
 rw[Nat.div_lt_iff_lt_mul ⋯,FX (R+1)];exact Nat.mul_lt_mul_of_pos_right ⋯ ⋯
theorem Hw{k R:Nat}(h:k<=R):(i+1)*(R+1)/(k+1)+1<=(i+1+1)*(R+1)/(k+1):=by
 rw[Nat.le_div_iff_mul_le ⋯,V7,one_mul,V7 (i+1) 1,one_mul];have:=Nat.div_mul_le_self ((i+1)*(R+1)) (k+1);lia
def vI:Sp:=λvs H Q _=>∃(m W:Nat),vs=[.int m,.int W]/\m<=100000/\∀p,H p=none->Q (.ref p) (upd H p (.lst ((List.range m).map λ(k:Nat)=>V.int (((k+1)*W/(m+1):Nat):Int))))
def vJ:TS:=bH (eG (g6 (ai (ah 0) aD)) [1,0] lE (aT nO (aT gw (aT cI (ah 0) (tC (.int 1))) (ah 1)) (aT cI (ah 2) (tC (.int 1)))))
theorem BB(hN:N.length=2)(h:vI vs H Q E):vJ {nx:=λ_ H'=>Q .non H',rt:=Q} .(3) H:=by
 obtain⟨m,W,rfl,hm,q⟩:=h;unfold vJ L2.start;rw[hN];nofun;refine yH (j:=m) (λQ h=>h) ⋯ ⋯ (eJ (show (m:Int).toNat<=100000 by lia) .(0))
  (λi ys H'=>H'=H/\ys=(List.range i).map λ(k:Nat)=>V.int (((k+1)*W/(m+1):Nat):Int)) ⟨rfl,rfl⟩
  (λi ys H' _ p=>by rw[p.2,aw,og];exact bb _) ?_ ?_
 .rintro i ys H' hi ⟨rfl,rfl⟩ R hR;nofun;refine⟨u7 ⋯ ⋯,cdiv ⋯ ⋯,hR _ _ ⟨rfl,?_⟩⟩;rw[Wv,fi,lj,XA,V5,Fu];rfl
 .rintro ys H' ⟨rfl,rfl⟩ p hp;rw[ij];exact q p hp
structure eK(L m n:Nat):Prop where
 lt:m<L^n
 less:∀i,i<n->L^i<=m
theorem eK.one{m a b:Nat}(A:eK L m a)(B:eK L m b):a=b:=by
 rcases HI a b with h|h|h
 .have:=B.less a h;have:=A.lt;lia
 .exact h
 .have:=A.less b h;have:=B.lt;lia
theorem eK.le{m:Nat}(A:eK L m n)(hL:2<=L):n<=m:=by
 rcases QQ m n with h|h
 .have h1:=A.less m h;have:=Nat.lt_pow_self (n:=m) (show 1<L by lia);lia
 .exact h
def qZ:Sp:=λvs H Q _=>∃(L m:Nat),vs=[.int L,.int m]/\2<=L/\L<=26/\∀n,eK L m n->Q (.int n) H
def rf:TS:=
  aJ (bh (tC (.int 0)) (aF 2))
   (aJ (bh (tC (.int 1)) (aF 3))
   (aJ (oj (bz (aT w6 (aT ji (ah 3) (tC (.int 1))) (ah 1))) (aJ (bh (aT gw (ah 3) (ah 0)) (aF 3))
   (bh (aT cI (ah 2) (tC (.int 1))) (aF 2))))
   (bH (ah 2))))
theorem zh(hN:N.length=4)(h:qZ vs H Q E):rf {nx:=λ_ H'=>Q .non H',rt:=Q} .(3) H:=by
 obtain⟨L,m,rfl,hL,cP,q⟩:=h;unfold rf L2.start;rw[hN];nofun;refine pJ (λx Y H'=>H'=H/\∃(n:Nat),Y=[some (.int L),some (.int m),some (.int n),some (.int (L^n:Nat))]/\x=m+1-n/\∀i,i<n->L^i<=m) (m+1) ⟨rfl,0,rfl,by lia,λi hi=>by lia⟩ ?_;rintro x Y H2 ⟨rfl,n,rfl,hx,hp⟩ R hgo YC;nofun;have Vx:=Nat.lt_pow_self (n:=n) (show 1<L by lia)
 by_cases h1:((L^n:Nat):Int)-1<(m:Int)
 .rw[dr h1];refine hgo _ ?_;nofun;refine⟨gJ ⋯ ⋯,m+1-(n+1),by lia,n+1,by rw[Wc,Fu];rfl,rfl,λi hi=>?_⟩
  by_cases e:i=n
  .subst e;lia
  .exact hp i ⋯
 .rw[eQ h1];refine YC _ ?_;nofun;exact q n ⟨by lia,hp⟩
def tG(L m n k:Nat):Nat:=(k+1)*L^n/(m+1)
def lQ(L m n:Nat):VF:=(List.range m).map λk=>mk L (tG L m n k) n
theorem zj{m k:Nat}(R:eK L m n)(hk:k<m):0<tG L m n k/\tG L m n k<L^n:=by
 have h:=R.lt;obtain⟨r,hr⟩:∃r,L^n=r+1:=⟨L^n-1,by lia⟩;unfold tG;rw[hr];have:=Np (i:=k) (k:=m) (R:=r) ⋯;have:=Nq (R:=r) hk;lia
theorem Hx{m k:Nat}(R:eK L m n):tG L m n k<tG L m n (k+1):=by
 have h:=R.lt;obtain⟨r,hr⟩:∃r,L^n=r+1:=⟨L^n-1,by lia⟩;unfold tG;rw[hr];have:=Hw (i:=k) (k:=m) (R:=r) ⋯;lia
theorem E2{m:Nat}(R:eK L m n):∀{j:Nat},i<j->tG L m n i<tG L m n j
 |j+1,h=>by
  have h1:=Hx (k:=j) R
  rcases wx (Ki h) with e|h2
  .subst e;exact h1
  .exact XI (E2 R h2) h1
theorem zo{m:Nat}(hL:0<L)(R:eK L m n):(lQ L m n).Pairwise (·<·):=by
 unfold lQ;rw[mB];refine WU ?_ (Xm (n:=m));intro i j hi hj Yz;have hi:=xI.mp hi;have hj:=xI.mp hj;have a:=zj R hi;have b:=zj R hj;have c:=E2 R Yz;rw[CJ hL n (JC hL _ _) (JC hL _ _) (JD _ _ _) (JD _ _ _) (CL _ _ _) (CL _ _ _),mk_val hL a.2,mk_val hL b.2];exact c
theorem vK{m:Nat}(hL:0<L)(R:eK L m n):∀x∈lQ L m n,Mark L x/\x.length<=n:=λx hx=>by
 unfold lQ at hx;obtain⟨k,hk,rfl⟩:=km.mp hx;have a:=zj R (xI.mp hk);exact⟨M4 hL a.1 a.2,CL _ _ _⟩
theorem vL(L m n:Nat):(lQ L m n).length=m:=by
 unfold lQ;rw[aw,og]
theorem Kc{m k:Nat}(h:k<m):(lQ L m n)[k]?=some (mk L (tG L m n k) n):=by
 unfold lQ;rw[cn,Ee h];rfl
def rg:Sp:=λvs H Q _=>∃(L m:Nat),vs=[.int L,.int m]/\2<=L/\L<=26/\m<=10000/\∀H' n p,eK L m n->aG H H'->H' p=none->Q (.ref p) (upd H' p (.lst ((lQ L m n).map av)))
def rm(K:W.Frag):TS:=
  aJ (bh (aW qZ [] E0 (ai (ah 0) (ai (ah 1) aD))) (aF 2))
   (bH (eG (cD K (aW vI [] E0 (ai (ah 1) (ai (aW t6 [] E0 (ai (ah 0) (ai (ah 2) aD))) aD)))) [0,2] lE (aW pW [] E0 (ai (ah 1) (ai (ah 0) (ai (ah 2) aD))))))
theorem zq(hN:N.length=3)(h:rg vs H Q E):rm K {nx:=λ_ H'=>Q .non H',rt:=Q} .(3) H:=by
 obtain⟨L,m,rfl,hL,cP,hm,q⟩:=h;unfold rm L2.start;rw[hN];nofun;refine⟨L,m,rfl,hL,cP,λn R=>?_⟩;have hn:=R.le hL;refine tT λR0 hR0=>?_;simp? [cD]
 refine⟨L,n,rfl,cP,by lia,?_⟩;refine⟨m,L^n,rfl,by lia,λp hp=>?_⟩;refine⟨_,rfl,⟨_,bw.here⟩,?_⟩;rw[hR0];refine lH (xs:=(List.range m).map λ(k:Nat)=>V.int (((k+1)*L^n/(m+1):Nat):Int)) (λi ys H'=>H'=upd H p (.lst ((List.range m).map λ(k:Nat)=>V.int (((k+1)*L^n/(m+1):Nat):Int)))/\ys=((List.range i).map λk=>mk L (tG L m n k) n).map av) ⟨rfl,rfl⟩
  (λi ys H' _ p=>⟨by rw[p.1];exact bw.here,by rw[p.2,aw,aw,og];exact bb _⟩) (by rw[aw,og,dE];lia) ?_ ?_
 .rintro i x ys H' hx ⟨rfl,rfl⟩ R1 hR1;rw[cn] at hx;have hik:i<m:=by
   rcases QQ i m with z|z
   .exact z
   .rw[mn (by rw[og];exact z)] at hx;cases hx
  rw[Ee hik] at hx;cases eI hx;nofun;refine⟨L,tG L m n i,n,rfl,by lia,cP,by lia,hR1 _ _ ⟨rfl,?_⟩⟩
  rw[Wv,fi,fi,lj,XA,lj,XA];rfl
 .rintro ys H' ⟨rfl,rfl⟩ p2 YI;rw[aw,og];exact q _ n p2 R (aG.up _ hp) YI
def fS(H:Hp):VI V->VI (V×V)->Prop
 |[],[]=>True
 |x::xs,p::ps=>(∃t,x=.ref t/\H t=some (.tup [p.1,p.2]))/\fS H xs ps
 |_,_=>False
theorem fS.keep(k:∀t ys,H t=some (.tup ys)->H' t=some (.tup ys)):∀{xs:VI V} {ps:VI (V×V)},fS H xs ps->fS H' xs ps
 |[],[],_=>trivial
 |[],_::_,h=>h.elim
 |_::_,[],h=>h.elim
 |_::_,_::_,⟨⟨t,e,h⟩,r⟩=>⟨⟨t,e,k t _ h⟩,fS.keep k r⟩
theorem fS.same{ps:VI (V×V)}(h:fS H xs ps)(s:aG H H'):fS H' xs ps:=h.keep λt ys e=>s t _ e
theorem fS.app:∀{xs:VI V} {ps:VI (V×V)} {ys:VI V} {qs:VI (V×V)},fS H xs ps->fS H ys qs->fS H (xs++ys) (ps++qs)
 |[],[],_,_,_,h=>h
 |[],_::_,_,_,h,_=>h.elim
 |_::_,[],_,_,h,_=>h.elim
 |_::_,_::_,_,_,⟨a,r⟩,h=>⟨a,fS.app r h⟩
theorem fS.len:∀{xs:VI V} {ps:VI (V×V)},fS H xs ps->xs.length=ps.length
 |[],[],_=>rfl
 |[],_::_,h=>h.elim
 |_::_,[],h=>h.elim
 |_::_,_::_,⟨_,r⟩=>by rw[kS,kS,fS.len r]
theorem fS.get:∀{xs:VI V} {ps:VI (V×V)} {i:Nat} {x:V},fS H xs ps->xs[i]?=some x->∃p t,ps[i]?=some p/\x=.ref t/\H t=some (.tup [p.1,p.2])
 |[],_,_,_,_,e=>by simp at e
 |_::_,[],_,_,h,_=>h.elim
 |_::_,p::_,0,_,⟨⟨t,e1,h⟩,_⟩,e=>by
  have:_=_:=eI e;subst this;exact⟨p,t,rfl,e1,h⟩
 |_::_,_::_,i+1,_,⟨_,r⟩,e=>by
  obtain⟨p,t,a,b,c⟩:=fS.get r (i:=i) (by simpa using e);exact⟨p,t,by simpa using a,b,c⟩
def jQ:V->PyData
 |.bl b=>.bool b
 |.int i=>.int i
 |.str x=>.str x
 |_=>.none
inductive Hy:V->Prop where
 |non:Hy .non
 |bl (b:Bool):Hy (.bl b)
 |str {l:VE} (h:PyData.strOk (txt l)=true):Hy (.str (txt l))
theorem Hy.dat{v:V}(h:Hy v):Dat K H v (jQ v):=by
 cases h with
 |non=>exact .non
 |bl b=>exact .bl b
 |str h=>exact .str _
def pairD(ps:VI (V×V)):VI PyData:=ps.map λp=>.tuple [jQ p.1,jQ p.2]
theorem fS.dat:∀{xs:VI V} {ps:VI (V×V)},fS H xs ps->(∀p∈ps,Hy p.1/\Hy p.2)->DatAll K H xs (pairD ps)
 |[],[],_,_=>.nil
 |[],_::_,h,_=>h.elim
 |_::_,[],h,_=>h.elim
 |_::_,p::_,⟨⟨t,e,h⟩,r⟩,ok=>by
  subst e;have o:=ok p bp;exact .cons (.tup (fT.of h) (.cons o.1.dat (.cons o.2.dat .nil))) (fS.dat r λq hq=>ok q (dA _ hq))
theorem BC{v:V}(h:Hy v):PyData.canLay0 (jQ v)=true/\PyData.depth (jQ v)=0:=by
 cases h with
 |non=>exact⟨by simp[jQ,PyData.canLay0],by simp[jQ,PyData.depth]⟩
 |bl b=>exact⟨by simp[jQ,PyData.canLay0],by simp[jQ,PyData.depth]⟩
 |str h=>exact⟨by simp[jQ,PyData.canLay0,h],by simp[jQ,PyData.depth]⟩
theorem xV:∀{ps:VI (V×V)},(∀p∈ps,Hy p.1/\Hy p.2)->PyData.canLayAll0 (pairD ps)=true/\PyData.depthAll (pairD ps)<=1
 |[],_=>⟨by simp[pairD,PyData.canLayAll0],by simp[pairD,PyData.depthAll]⟩
 |p::ps,ok=>by
  obtain⟨a,b⟩:=xV λq hq=>ok q (dA _ hq);obtain⟨o1,o2⟩:=ok p bp;obtain⟨c1,d1⟩:=BC o1;obtain⟨c2,d2⟩:=BC o2;have e:pairD (p::ps)=.tuple [jQ p.1,jQ p.2]::pairD ps:=rfl;rw[e];refine⟨by simp[PyData.canLayAll0,PyData.canLay0,c1,c2,a],?_⟩;simp only[PyData.depthAll,PyData.depth,d1,d2];lia
def kP(k:VE×Bool):V×V:=(av k.1,.bl k.2)
def cZ(ks:VI (VE×Bool)):Nat:=(ks.filter λk=>k.2).length
def fV(fr:VF):Nat->VI (VE×Bool)->VI (V×V)
 |_,[]=>[]
 |g,(m,true)::ks=>(av m,av (fr.getD g []))::fV fr (g+1) ks
 |g,(m,false)::ks=>(av m,.non)::fV fr g ks
theorem oM(m:VE)(b:Bool)(ks:VI (VE×Bool)):cZ ((m,b)::ks)=cZ ks+(if b=true then 1 else 0):=by
 unfold cZ;cases b
 .rw[yB .(4)];rfl
 .rw[vy .(4)];rfl
theorem vM(ks:VI (VE×Bool)):cZ ks<=ks.length:=oI _ _
theorem Dv{tl:TE}{ks:VI (VE×Bool)}(ha:∀Q:VK,Q (.ref p) H->tl Y H Q)(hq:bw K H p xs)(hp:fS H xs (ks.map kP))(hn:ks.length<=100000)
  (hd:∀r,H r=none->Q (.ref r) (upd H r (.lst (((ks.filter λk=>k.2).map λk=>k.1).map av)))):ko K (cD K tl) [] (tB (ah 1)) (ah 0) Y H Q:=by
 have hl:=hp.len;rw[aw] at hl;refine tU ha hq (λi ys H'=>H'=H/\ys=(((ks.take i).filter λk=>k.2).map λk=>k.1).map av) ⟨rfl,rfl⟩ (λi ys H' _ h=>⟨by rw[h.1];exact hq,?_⟩) (by rw[hl,dE];lia) ?_ ?_
 .rw[h.2,aw,aw];exact eJ (oI _ _) (by rw[fg];lia)
 .rintro i x ys H' hx ⟨rfl,rfl⟩;obtain⟨q,t,e1,rfl,e2⟩:=hp.get hx;rw[cn] at e1;obtain⟨⟨m,b⟩,e3,rfl⟩:=eM.mp e1;refine⟨t,_,_,rfl,fT.of e2,λR hR=>?_⟩;simp? [kP]
  rw[Xx,e3] at hR;cases b
  .rw[cq .(0)];exact hR _ _ ⟨rfl,by simp⟩
  .rw[df rfl];exact hR _ _ ⟨rfl,by simp[av]⟩
 .rintro ys H' ⟨rfl,rfl⟩ r hr;have:=hd r hr;rw[hl,lL];exact this
def Dw(K:W.Frag):Sp:=λvs H Q _=>∃(L:Nat) (p:θ) (ks:VI (VE×Bool)),vs=[.int L,.ref p]/\2<=L/\L<=26/\ks.length<=1000/\(∃xs,bw K H p xs/\fS H xs (ks.map kP))/\
 ∀H' r ys n,eK L (cZ ks) n->aG H H'->H r=none->H' r=some (.lst ys)->fS H' ys (fV (lQ L (cZ ks) n) 0 ks)->Q (.ref r) H'
def Dy(K:W.Frag):TS:=
  aJ (bh (aW rg [] E0 (ai (ah 0) (ai (fG (dJ K) (ai (ko K (cD K (ah 1)) [] (tB (ah 1)) (ah 0)) aD)) aD))) (aF 2))
   (aJ (bh (uS aD) (aF 3))
   (aJ (bh (tC (.int 0)) (aF 4))
   (aJ (g7 (cD K (ah 1)) (uM K 2 (iA (aF 5) (iA (aF 6) uK))) (dD (tB (ah 6)) (aJ (cM (Ao K "list" mz (ah 3) (ai (iD (ai (ah 5) (ai (aT (bV K) (ah 2) (ah 4)) aD))) aD)))
   (bh (aT cI (ah 4) (tC (.int 1))) (aF 4))) (cM (Ao K "list" mz (ah 3) (ai (iD (ai (ah 5) (ai (tC .non) aD))) aD)))))
   (bH (ah 3)))))
def Nr(L:Nat)(p p2 p3:θ)(H2:Hp)(fr:VF)(ks:VI (VE×Bool)):Nat->St->Hp->Prop:=λi Y H'=>∃(g:Nat) (ys:VI V) (ps:VI (V×V)) (v5 v6:ο V),aG H2 H'/\H' p3=some (.lst ys)/\fS H' ys ps/\Y=[some (.int L),some (.ref p),some (.ref p2),some (.ref p3),some (.int g),v5,v6]/\ps++fV fr g (ks.drop i)=fV fr 0 ks/\g+cZ (ks.drop i)=cZ ks/\ys.length=i
theorem xW{t r:θ}{o:HO}{zs:VI V}(ht:H t=none)(hr:H r=some (.lst ys)):∀u xs,H u=some (.tup xs)->(upd (upd H t o) r (.lst zs)) u=some (.tup xs):=λu xs e=>by
 rw[aH (λz=>by subst z;rw[hr] at e;cases e),aH (λz=>by subst z;rw[ht] at e;cases e)];exact e
theorem BD{α:Type}{l:VI α}{x:α}(h:l[i]?=some x):l.drop i=x::l.drop (i+1):=by
 obtain⟨h1,h2⟩:=bo.mp h;rw[wq h1,h2]
theorem Hz(hN:N.length=7)(h:Dw K vs H Q E):Dy K {nx:=λ_ H'=>Q .non H',rt:=Q} .(3) H:=by
 obtain⟨L,p,ks,rfl,hL,cP,hks,⟨xs,hq,hp⟩,q⟩:=h;unfold Dy L2.start;rw[hN];have ZH:=hp.len;rw[aw] at ZH;refine aR λc hc=>?_;nofun;refine Dv (ks:=ks) (λQ h=>h) hq hp ⋯ λp1 Zj=>?_;refine cJ bw.here ?_;rw[aw,aw];have Ya:=vM ks;refine⟨L,cZ ks,rfl,hL,cP,by lia,λH1 n p2 R s1 YI=>hc _ _ ?_⟩;clear hc c;have s2:aG H (upd H1 p2 (.lst ((lQ L (cZ ks) n).map av))):=((aG.up H Zj).trans s1).new YI;have hF:bw K (upd H1 p2 (.lst ((lQ L (cZ ks) n).map av))) p2 ((lQ L (cZ ks) n).map av):=bw.here;have q:=λH' r ys=>q H' r ys n R;have Z4:=vL L (cZ ks) n;have hfg:=λ(g:Nat) (h:g<cZ ks)=>Kc (L:=L) (n:=n) h;generalize upd H1 p2 _=H2 at s2 hF ⊢;generalize lQ L (cZ ks) n=fr at hF q Z4 hfg;refine aR λc hc=>?_;nofun;refine⟨by decide,λp3 YO=>hc _ _ ?_⟩;clear hc c;refine aR λc hc=>?_;nofun;refine hc _ _ ?_;clear hc c;have s3:aG H2 (upd H2 p3 (.lst [])):=aG.up _ YO;refine aM λc hc=>?_;refine rZ (a:=p) (xs:=xs) (λQ h=>h) (s3.seq (s2.seq hq))
  (Nr L p p2 p3 H2 fr ks)
  ⟨0,[],[],_,_,s3,aq,trivial,rfl,rfl,by rw[XB,XH],rfl⟩ (λi Y H' _ h=>by obtain⟨_,_,_,_,_,s,_⟩:=h;exact s.seq (s2.seq hq)) ?_ ?_
 .rintro i x Y H' hx ⟨g,ys,ps,v5,v6,s4,hr,Ze,rfl,e1,e2,e3⟩;obtain⟨k,t,ek,rfl,ht⟩:=((hp.same s2).same s4).get hx;rw[cn] at ek;obtain⟨⟨m,b⟩,ZI,rfl⟩:=eM.mp ek;rw[BD ZI] at e1 e2;rw[oM] at e2;have hil:i<xs.length:=(bo.mp hx).1;simp? [uM,iA,uK,kP]
  refine⟨[av m,.bl b],fT.of ht,rfl,av m,[.bl b],rfl,.bl b,[],rfl,rfl,?_⟩;have hz:ys.length<sizeLine:=by rw[dE];lia
  cases b with
  |true=>
   nofun;rw[df rfl] at e2;refine⟨.inl ⟨rfl,_,bw.of hr⟩,?_⟩;refine bR (v:=av (fr.getD g [])) (s4.seq hF) ⋯ ?_ ?_
   .rw[ij,cn,hE,hfg g ⋯];rfl
   .refine⟨by decide,λt2 YT=>?_⟩;have h3:p3≠t2:=λz=>by subst z;rw[hr] at YT;cases YT
    refine⟨p3,ys,_,rfl,rfl,by rw[aH h3];exact hr,hz,?_⟩;refine⟨g+1,ys++[.ref t2],ps++[(av m,av (fr.getD g []))],_,_,(s4.new YT).set YO,aq,(Ze.keep (xW YT hr)).app ⟨⟨t2,rfl,?_⟩,trivial⟩,rfl,?_,by lia,by rw[de];simp[e3]⟩
    .rw[aH (du h3),aq]
    .rw[Pt];exact e1
  |false=>
   nofun;rw[cq .(0)] at e2;refine⟨.inl ⟨rfl,_,bw.of hr⟩,by decide,λt2 YT=>?_⟩
   have h3:p3≠t2:=λz=>by subst z;rw[hr] at YT;cases YT
   refine⟨p3,ys,_,rfl,rfl,by rw[aH h3];exact hr,hz,?_⟩;refine⟨g,ys++[.ref t2],ps++[(av m,.non)],_,_,(s4.new YT).set YO,aq,(Ze.keep (xW YT hr)).app ⟨⟨t2,rfl,?_⟩,trivial⟩,rfl,?_,by lia,by rw[de];simp[e3]⟩
   .rw[aH (du h3),aq]
   .rw[Pt];exact e1
 .rintro Y H' ⟨g,ys,ps,v5,v6,s4,hr,Ze,rfl,e1,e2,e3⟩;refine hc _ _ ?_;nofun;rw[ZH,WL] at e1;have e1:ps=fV fr 0 ks:=by simpa [fV] using e1
  rw[e1] at Ze;exact q _ p3 ys (s2.trans s4) (s2.free YO) hr Ze
theorem fK(h:zs.Pairwise (·<=·))(n:zs.Nodup):zs.Pairwise (·<·):=by
 have:=List.Pairwise.and h n;refine this.imp λ{a b} YH=>?_
 by_cases z:a<b
 .exact z
 .exact absurd (WH YH.1 (xt.mp z)) YH.2
def Keeps(F:VI θ)(H H':Hp):Prop:=∀b o,H b=some o->b∉F->H' b=some o
theorem aG.keeps(s:aG H H')(F:VI θ):Keeps F H H':=λb o e _=>s b o e
theorem Keeps.trans{H1:Hp}(a:Keeps F H H1)(b:Keeps F H1 H2):Keeps F H H2:=λx o e n=>b x o (a x o e n) n
theorem Keeps.upd {o:HO} (a:Keeps F H H') (h:p ∈ F ∨ H' p = none):Keeps F H (upd H' p o):=fun x q e n=>by
  have:=a x q e n
  rw [aH (fun z => by subst z; rcases h with h | h
                      . exact n h
                      . rw [this] at h; cases h)]
  exact this
def Dz(c:θ):Sp:=λvs H Q E=>∃(L h:Int),vs=[.int L,.int h]/\((2<=L/\L<=26/\1<=h/\h<L)->Q .non H)/\(¬(2<=L/\L<=26/\1<=h/\h<L)->E (.ref c) none H)
def zu(c:θ)(E:XK)(m1 m2:VE):TS:=
  aJ (dD (An (bz (aT w6 (ah 0) (tC (.int 2)))) (bz (aT yG (ah 0) (fG nP (ai (tC (.str (txt Aq))) aD))))) (jz (.ref c) E (ai (tC (.str (txt m1))) aD)) (bX))
   (dD (An (bz (aT w6 (ah 1) (tC (.int 1)))) (bz (aT Px (ah 1) (ah 0)))) (jz (.ref c) E (ai (tC (.str (txt m2))) aD)) (bX))
theorem HE{c:θ}{m1 m2:VE}(hN:N.length=2)(h:Dz c vs H Q E):zu c E m1 m2 {nx:=λ_ H'=>Q .non H',rt:=Q} .(3) H:=by
 obtain⟨L,h,rfl,q1,q2⟩:=h;unfold zu L2.start;rw[hN];nofun
 by_cases h1:L<2
 .rw[df h1];exact⟨by decide,q2 ⋯⟩
 .rw[cq h1];refine kg (by rw[yE];decide) (kK ?_);rw[yE]
  by_cases h2:((26:Nat):Int)<L
  .rw[df h2];exact⟨by decide,q2 ⋯⟩
  .rw[cq h2]
   by_cases h3:h<1
   .rw[df h3];exact⟨by decide,q2 ⋯⟩
   .rw[cq h3]
    by_cases h4:L<=h
    .rw[df h4];exact⟨by decide,q2 ⋯⟩
    .rw[cq h4];exact q1 ⋯
def BG:VE:=[97,98,99,100,101,102,103,104,105,106,107,108,109,110,111,112,113,114,115,116,117,118,119,120,121,122,48,49,50,51,52,53,54,55,56,57]
def Thing(t:VE):Prop:=t≠[]/\t.length<=12/\∀c∈t,c∈BG
def rq:Sp:=λvs H Q _=>∃t:VE,vs=[.str (txt t)]/\t.length<=100000/\∀H' b,aG H H'->(b=true↔Thing t)->Q (.bl b) H'
def rA(K:W.Frag):TS:=
  aJ (dD (An (bz (aT GG (ah 0) (tC (.str (txt []))))) (bz (aT yG (fG nP (ai (ah 0) aD)) (tC (.int 12))))) (bH (tC (.bl false))) (bX))
   (bH (fG (Og K) (ai (eG (Jf (ah 0)) [] lE (aT Ux (ah 0) (tC (.str (txt BG))))) aD)))
theorem zv(hN:N.length=1)(h:rq vs H Q E):rA K {nx:=λ_ H'=>Q .non H',rt:=Q} .(3) H:=by
 obtain⟨t,rfl,hz,q⟩:=h;unfold rA L2.start;rw[hN];nofun;refine⟨rfl,?_⟩
 by_cases h1:t=[]
 .rw[df h1];exact q _ _ (aG.refl _) ⟨(λz=>nomatch z),λz=>absurd h1 z.1⟩
 .rw[cq h1];refine kg hz (kK ?_)
  by_cases h2:(12:Int)<(t.length:Int)
  .rw[df h2];exact q _ _ (aG.refl _) ⟨(λz=>nomatch z),λz=>by have:=z.2.1;lia⟩
  .rw[cq h2];refine Jl (l:=t) (λQ h=>h) (eJ (show t.length<=100000 by lia) .(0)) (λi ys H'=>H'=H/\ys=((t.take i).map λc=>decide (c∈BG)).map V.bl) ⟨rfl,rfl⟩
    (λi ys H' _ p=>by rw[p.2,aw,aw,fg];lia) ?_ ?_
   .rintro i c ys H' hc ⟨rfl,rfl⟩ R hR;nofun;refine⟨c,_,rfl,rfl,hR _ _ ⟨rfl,?_⟩⟩;rw[Xx,hc,fi,fi];rfl
   .rintro ys H' ⟨rfl,rfl⟩ p hp;rw[lL];refine⟨p,_,rfl,bw.here,q _ _ (aG.up _ hp) ?_⟩;rw[List.all_map,all_eq_true];constructor
    .intro z;exact⟨h1,by lia,λc hc=>by simpa using z c hc⟩
    .rintro⟨_,_,z⟩ c hc;simpa using z c hc
def oN(c:θ):Sp:=λvs H Q E=>∃t:VE,vs=[.str (txt t)]/\t.length<=100000/\∀H',aG H H'->(Thing t->Q .non H')/\(¬Thing t->E (.ref c) none H')
def kF(c:θ)(E:XK)(m:VE):TS:=
  dD (yh (tB (aW rq [] E0 (ai (ah 0) aD)))) (jz (.ref c) E (ai (tC (.str (txt m))) aD)) (bX)
theorem xj{c:θ}(hN:N.length=1)(h:oN c vs H Q E):kF c E m {nx:=λ_ H'=>Q .non H',rt:=Q} .(3) H:=by
 obtain⟨t,rfl,hz,q⟩:=h;unfold kF L2.start;rw[hN];nofun;refine⟨t,rfl,hz,λH' b s hb=>(bK ?_)⟩;cases b with
 |true=>
  nofun;exact(q H' s).1 (hb.mp rfl)
 |false=>
  nofun;exact⟨by decide,(q H' s).2 λz=>by have:=hb.mpr z;cases this⟩
def kG(c:θ):Sp:=λvs H Q E=>∃(i n:Int),vs=[.int i,.int n]/\((0<=i/\i<n)->Q .non H)/\(¬(0<=i/\i<n)->E (.ref c) none H)
def gm(c:θ)(E:XK)(m:VE):TS:=
  dD (An (bz (aT w6 (ah 0) (tC (.int 0)))) (bz (aT Px (ah 0) (ah 1)))) (jz (.ref c) E (ai (tC (.str (txt m))) aD)) (bX)
theorem nS{c:θ}(hN:N.length=2)(h:kG c vs H Q E):gm c E m {nx:=λ_ H'=>Q .non H',rt:=Q} .(3) H:=by
 obtain⟨i,n,rfl,q1,q2⟩:=h;unfold gm L2.start;rw[hN];nofun
 by_cases h1:i<0
 .rw[df h1];exact⟨by decide,q2 ⋯⟩
 .rw[cq h1]
  by_cases h2:n<=i
  .rw[df h2];exact⟨by decide,q2 ⋯⟩
  .rw[cq h2];exact q1 ⋯
end L2
namespace L2
open PySem PySem.Spec PyProof.Rows SetTx
variable {E:XK}{Q:VK}{xs vs ys ts:VI V}{x qual:Str}{H H' H2 B H0 A0:Hp}{a b it f p C dx pm d pr pk p1 p3 pg pb ph:θ}{F fp as:VI θ}{h t' i j c n L ep:Nat}{N ps:VI Str}{Y:St}{K:PySem.W.Frag}{es m:VE}{te td:TE}{tb:TS}{lo hi:VH}{ta:TA}{kvs S XT:VG}{ks zs ws:VF}
section
variable{X:Cx}
theorem Inv.Nt{Z0:VI (θ×Obj)}{Y:VI (ο V)}{s:η}{d':Drawn}(I:Inv X Z0 Y H s):Inv X Z0 Y H {s with drawn:=d' }:={I with}
def Ke(P:ι)(w:ν)(a:θ)(ss:VI Str):HO:=.ext λh=>qT P w h a ss (!dG w)
abbrev Om(X:Cx):VI V->Hp->VK->Prop:=λxs H Q=>∃p,∃ys:VF,xs=[.ref p]/\bw X.K H p (ys.map av)/\ys.length<64/\∀a ss,H a=none->ss.Nodup->(∀y:VE,txt y∈ss↔y∈ys)->ss.length<64->Q (.ref a) (upd H a (Ke X.prog X.w a ss))
abbrev oO(X:Cx):VI V->Hp->VK->Prop:=λxs H Q=>∃a ss,xs=[.ref a]/\H a=some (Ke X.prog X.w a ss)/\ss.length<64/\∀l,∀zs:VF,H l=none->(zs.map txt).Perm ss->zs.Pairwise (·<=·)->Q (.ref l) (upd H l (.lst (zs.map av)))
theorem DA(hc:X.calm=true):fj X (.builtin "sorted") (oO X):=by
 intro Z0 s Y H xs us Q I r h;obtain⟨a,ss,rfl,hH,hz,q⟩:=h;obtain⟨u,rfl,ru⟩:=vals1 r;cases ru;have hS:qT X.prog X.w s.heap a ss (!dG X.w):=(show cY X.prog X.w H s.heap a (Ke X.prog X.w a ss) from I.hok a _ hH).1;refine C2 (I.ok.hd hc) hS hz λh1 h' tk d' e out Yf k1 k2 he a1 a2 a3=>?_;have ez:Yf=(Yf.map λx=>x.cps.toList).map txt:=by
  rw[mv];have:(txt∘λ(x:Str)=>x.cps.toList)=id:=by funext x;exact txt_codes x
  rw[this,Xk]
 have hp:((Yf.map λx=>x.cps.toList).map txt).Perm ss:=by rw[<-ez];exact a2
 rw[ez] at a3;have hv:Vals ((Yf.map λx=>x.cps.toList).map av) out.toList:=by rw[iQ,<-ez];exact mG a1
 have I1:Inv X Z0 Y H {s with heap:=h1,toks:=s.toks}:=I.kept (t':=s.toks) k1
 refine⟨.ref h1.objs.size,_,(I1.laid (t':=tk) (a:=h1.objs.size) (o:=.lst ((Yf.map λx=>x.cps.toList).map av)) k2 (bb _) ⟨?_,out.toList,e,hv,by simpa [seqObj] using he⟩).Nt,rfl,q _ _ (I1.hok.fresh (bb _)) hp (oA _ a3)⟩;have:=a2.length_eq;rw[aw,aw,dE];lia
theorem E3:∀{us:VI ζ} {ss:VI Str},StrsAre us ss->∀(i:Nat) (v:ζ),us[i]?=some v->∃t,v=.str (ss.getD i "") t
 |_,_,.nil,i,v,e=>by simp at e
 |_,_,.cons y t h,0,v,e=>by
  simp at e
  exact⟨t,e.symm⟩
 |_,_,.cons y t h,i+1,v,e=>by
  simp only[List.getElem?_cons_succ] at e;exact E3 h i v e
theorem BH{a b:VE}(h:txt a=txt b):a=b:=by
 have:=tz (λx:Str=>x.cps.toList) h;simpa [bW] using this
theorem HF(hc:X.calm=true):fj X (.type "set") (Om X):=by
 intro Z0 s Y H xs us Q I r h;obtain⟨p,ys,rfl,hx,hz,q⟩:=h;obtain⟨u,rfl,ru⟩:=vals1 r;cases ru;obtain⟨XM,rv,pl,hl⟩:=I.list hx;have hlen:=rv.length;rw[iQ] at rv;have st:=gI rv;have il:XM.length=ys.length:=by rw[<-hlen,aw]
 refine vv (val:=λi=>(ys.map txt).getD i "") (I.ok.hd hc) pl.isList (λi v e=>E3 st i v (by simpa using e)) (by unfold scanBound;simp;lia) λh' tk hS hk=>?_;have sz:XM.toArray.size=ys.length:=by simp[il]
 rw[sz] at hS;refine⟨.ref s.heap.objs.size,_,I.laid (t':=tk) (a:=s.heap.objs.size) (o:=Ke X.prog X.w s.heap.objs.size _) (λb o e=>hk b o (dq e) e) (bb _) ⟨hS,?_,λh1 h2 x k=>x.keep k⟩,rfl,q _ _ (I.hok.fresh (bb _)) (vt _ _) (λy=>?_) ?_⟩
 .obtain⟨o,es,ep,t,ho,_⟩:=hS;exact⟨o,ho⟩
 .rw[Bc];constructor
  .rintro⟨j,hj,e⟩;rw[hE,cn,dk hj] at e;have e2:ys[j]=y:=BH e;rw[<-e2];exact Wb hj
  .intro hy;obtain⟨j,hj,e⟩:=Qr hy;exact⟨j,hj,by rw[hE,cn,dk hj,e];rfl⟩
 .have:=vq (λi=>(ys.map txt).getD i "") ys.length;lia
abbrev gz(K:W.Frag):VI V->Hp->VK->Prop:=λxs H Q=>∃p,∃ys:VF,xs=[.ref p]/\bw K H p (ys.map av)/\ys.length<64/\∀H' l,∀zs:VF,aG H H'->H l=none->H' l=some (.lst (zs.map av))->zs.Nodup->(∀y,y∈zs↔y∈ys)->zs.Pairwise (·<=·)->Q (.ref l) H'
theorem Kf{Q1:VK}(h:gz X.K xs H Q)(h1:∀v H2,oO X [v] H2 Q->Q1 v H2):Om X xs H Q1:=by
 obtain⟨p,ys,rfl,hx,hz,q⟩:=h;refine⟨p,ys,rfl,hx,hz,λa ss ha nd mem hl=>h1 _ _ ⟨a,ss,rfl,aq,hl,λl zs Za hp hs=>?_⟩⟩;have s1:=aG.up H ha (o:=Ke X.prog X.w a ss);refine q _ l zs (s1.new Za) (by cases e:H l with|none=>rfl|some o=>rw[s1 _ _ e] at Za;cases Za) aq ?_ (λy=>?_) hs
 .have:=hp.nodup_iff.mpr nd;exact(mB.mp this).imp λh e=>h (by rw[e])
 .rw[<-mem y,<-hp.mem_iff,km];constructor
  .intro h;exact⟨y,h,rfl⟩
  .rintro⟨z,hz,e⟩;rw[<-BH e];exact hz
theorem HG(hc:X.calm=true)(Q:VK):fj X (.type "set") (λxs H Q1=>gz X.K xs H Q/\∀v H2,oO X [v] H2 Q->Q1 v H2):=λZ0 s Y H xs us Q1 I r h=>HF hc Z0 s Y H xs us Q1 I r (Kf h.1 h.2)
theorem DB{e:γ}{p p2 pos X3:Pos}(hc:X.calm=true)(hg:Gl X "sorted")(hm:X.mg "sorted" =none)(hg2:Gl X "set")(hm2:X.mg "set" =none)(ha:PA X [e] (ai te aD))(hv:bootBuiltins "sorted" =some (.builtin "sorted"))(hv2:bootBuiltins "set" =some (.type "set"))
  (hs:starEach [e] X.env=(false,eval e X.env)::starEach [] X.env:=by rfl) (X1:(backTo X3 (starEach [] X.env)).any (·.1)=false:=by rfl)
  (YV:starEach [.Call (.Name "set" p2) [e] [] X3] X.env=(false,eval (.Call (.Name "set" p2) [e] [] X3) X.env)::starEach [] X.env:=by rfl) (hpl2:(backTo pos (starEach [] X.env)).any (·.1)=false:=by rfl):
  PE X (.Call (.Name "sorted" p) [.Call (.Name "set" p2) [e] [] X3] [] pos) (fG (gz X.K) (ai te aD)):=by
 intro Z0 s Y H Q I h;have inner:=xC (p:=p2) (pos:=X3) (HG hc Q) hg2 hm2 hv2 ha .(0) .(0) hs X1;have outer:=AE (p:=p) (pos:=pos) (DA hc) hg hm hv (yo inner Cw YV) .(0) .(0) YV hpl2;refine outer Z0 s Y H Q I ?_;show te Y H λx H1=>gz X.K [x] H1 Q/\∀v H2,oO X [v] H2 Q->oO X [v] H2 Q;have e1:(λ(x:V) (H1:Hp)=>gz X.K [x] H1 Q/\∀v H2,oO X [v] H2 Q->oO X [v] H2 Q)=λx H1=>gz X.K [x] H1 Q:=by
  funext x H1
  exact propext ⟨λz=>z.1,λz=>⟨z,λ_ _ y=>y⟩⟩
 rw[e1];exact h
theorem oQ(hc:X.calm=true){e:γ}{p p2 pos X3:Pos}(hm:X.mg "sorted" =none)(hm2:X.mg "set" =none)(ha:QA X [e] (ai te aD))(hv:bootBuiltins "sorted" =some (.builtin "sorted"))(hv2:bootBuiltins "set" =some (.type "set"))
  (hg:X.env.kindOf "sorted" =some .globalImplicit:=by rfl') (hg2:X.env.kindOf "set" =some .globalImplicit:=by rfl')
  (hs:starEach [e] X.env=(false,eval e X.env)::starEach [] X.env:=by rfl') (X1:(backTo X3 (starEach [] X.env)).any (·.1)=false:=by rfl')
  (YV:starEach [.Call (.Name "set" p2) [e] [] X3] X.env=(false,eval (.Call (.Name "set" p2) [e] [] X3) X.env)::starEach [] X.env:=by rfl') (hpl2:(backTo pos (starEach [] X.env)).any (·.1)=false:=by rfl'):
  QE X (.Call (.Name "sorted" p) [.Call (.Name "set" p2) [e] [] X3] [] pos) (fG (gz X.K) (ai te aD)):=⟨DB hc hg hm hg2 hm2 ha.p hv hv2 hs X1 YV hpl2⟩
end
section
variable{X:Cx}
theorem BI{o e f:γ}{ty tx:TE}{apos XO:Pos}(hu:X.A.units+64<cLine)(ho:QE X o td)(he:QE X e ty)(hf:QE X f tx)
  (h1:attributeBase o "get" X.env (eval o X.env)=eval o X.env:=by rfl')
  (h2:((backTo XO (starEach [e,f] X.env)).all (λx=>!x.1)&&(backToKw XO (keywordEach [] X.env)).all (λx=>x.1.isSome)&&decide (([e,f]:VI γ).length+([]:VI Keyword).length+(if ([]:VI Keyword).isEmpty then 0 else 1)<30))=true:=by rfl')
  (h3:(apos.endLine==XO.line)=true:=by rfl') (h4:backTo XO (starEach [e,f] X.env)=[(false,eval e X.env),(false,eval f X.env)]:=by rfl'):
  QE X (.Call (.Attribute o "get" apos) [e,f] [] XO) (oK td ty tx):=⟨JL ⋯ ho.p he.p hf.p ⟨h1,h2,h3,h4⟩⟩
end
end L2
namespace L2
open PySem PySem.Spec PyProof.Rows SetTx
variable {E:XK}{Q:VK}{xs vs ys ts:VI V}{x qual:Str}{H H' H2 B H0 A0:Hp}{a b it f p C dx pm d pr pk p1 p3 pg pb ph:θ}{F fp as:VI θ}{h t' i j c n L ep:Nat}{N ps:VI Str}{Y:St}{K:PySem.W.Frag}{es m:VE}{te td:TE}{tb:TS}{lo hi:VH}{ta:TA}{kvs S XT:VG}{ks zs ws:VF}
section
variable{X:Cx}
abbrev zw:V->VI V->Hp->VK->Prop:=λx xs H Q=>∃a b kvs more,x=.ref a/\xs=[.ref b]/\a≠b/\H a=some (.dK kvs)/\H b=some (.dK more)/\kvs.length+more.length<=sizeLine/\Q .non (upd H a (.dK (gM kvs more)))
theorem xX:Ur X "dict.update" zw:=by
 intro Z0 s Y H x xs v us Q I rx rv h;obtain⟨a,b,kvs,more,rfl,rfl,YH,hH,hB,hz,q⟩:=h;cases rx;obtain⟨u,rfl,ru⟩:=rv.one;cases ru;obtain⟨_,hd,vs,rel,dd⟩:=lJ I.hok hH;obtain⟨_,hb,rs,RP,dd2⟩:=lJ I.hok hB;refine VQ RF dd.typeIs PySem.F.entry_dict_update (PySem.F.args_dict_update_2 _ _) (meets_dict_update (bN X.prog X.w) a b YH hb) ⟨vs,rs,dd,dd2,by rw[<-rel.length,<-RP.length];exact hz,λh' d1 d2 sb=>?_⟩;have he:∃q,h'.get? a=some q:=let ⟨q,_,_,hq,_⟩:=d1;⟨q,hq⟩;refine⟨.non,_,tX (t':=s.toks) I (by rw[hH];exact True.intro) sb he (CO ?_ hd (KV.merge RP rel) d1),rfl,q⟩;have:=jA more kvs;lia
end
abbrev zx:VI V->Hp->VK->Prop:=λxs H Q=>∃p kvs,xs=[.ref p]/\H p=some (.dK kvs)/\∀d,H d=none->Q (.ref d) (upd H d (.dK kvs))
theorem oR{X:Cx}:fj X (.type "dict") zx:=by
 intro Z0 s Y H xs us Q I r h;obtain⟨p,kvs,rfl,hH,q⟩:=h;obtain⟨u,rfl,ru⟩:=vals1 r;cases ru;obtain⟨hz,hd,vs,rel,dd⟩:=lJ I.hok hH;have hl:=rel.length;refine kt_call_dict (knd:=bN X.prog X.w) hd dd ⋯ λh' dn sb=>?_;have big:=I.big;refine⟨.ref s.heap.objs.size,_,I.laid (t':=s.toks) (o:=.dK kvs) (λb o e=>?_) (bb _) ⟨hz,?_,vs,rel,dn⟩,rfl,q _ (I.hok.fresh (bb _))⟩
 .have:=dq e;rw[sb.2 b (iq this)];exact ba _ e
 .exact oP.mpr (VM big)
abbrev xY:V->VI V->Hp->VK->Prop:=λx xs H Q=>∃a,∃kvs:VI (Key×V),∃k:Key,x=.ref a/\H a=some (.dK kvs)/\
 ((∃v,(xs=[kV k]\/∃y,xs=[kV k,y])/\ck kvs k=some v/\Q v (upd H a (.dK (vh kvs k))))\/∃y,xs=[kV k,y]/\ck kvs k=none/\Q y H)
theorem zy{X:Cx}:Ur X "dict.pop" xY:=by
 intro Z0 s Y H x xs v us Q I rx rv h;obtain⟨a,kvs,k,rfl,hH,h⟩:=h;cases rx
 rcases h with⟨w,hx,hw,q⟩|⟨y,rfl,hn,q⟩
 .rcases hx with rfl|⟨y,rfl⟩
  .obtain⟨u,rfl,ru⟩:=rv.one;exact Ol I hH ru hw (.inl rfl) λw' s' I' YE=>⟨w,_,I',YE,q⟩
  .obtain⟨u,u2,rfl,ru,_⟩:=rv.two;exact Ol I hH ru hw (.inr ⟨_,rfl⟩) λw' s' I' YE=>⟨w,_,I',YE,q⟩
 .obtain⟨u,u2,rfl,ru,r2⟩:=rv.two;exact PF I hH ru hn λs' I'=>⟨y,_,I',r2,q⟩
abbrev Kg:VI V->Hp->VK->Prop:=λxs H Q=>∃p,∃kvs:VI (Key×V),xs=[.ref p]/\H p=some (.dK kvs)/\∀l,H l=none->Q (.ref l) (upd H l (.lst (kvs.map λkv=>kV kv.1)))
theorem xZ{P:ι}{w:ν}:∀{kvs:VI (Key×V)} {vs:VI (Key×ζ)},KV kvs vs->∀us:VI ζ,us.length=vs.length->(∀(j:Nat) (v:ζ),us[j]?=some v->∃(k:Key) (x:ζ),vs[j]?=some (k,x)/\(bN P w).is k v=true)->Vals (kvs.map λkv=>kV kv.1) us
 |[],[],_,[],_,_=>.nil
 |[],[],_,_::_,hl,_=>by simp at hl
 |kv::kvs,[],r,_,_,_=>by have:=r.length;simp at this
 |[],_::_,r,_,_,_=>by have:=r.length;simp at this
 |kv::kvs,kx::vs,r,[],hl,_=>by simp at hl
 |kv::kvs,kx::vs,r,u::us,hl,h=>by
  cases r with
  |cons a b=>
   refine .cons ?_ (xZ b us (by simpa using hl) λj v e=>by simpa using h (j+1) v (by simpa using e));obtain⟨k,x,e,hk⟩:=h 0 u rfl;have e:kx=(k,x):=by simpa using e
   subst e;show RelV (kV kv.1) u;rw[a.1];exact yS hk
theorem DC{X:Cx}(hc:X.calm=true):fj X (.type "list") Kg:=by
 intro Z0 s Y H xs us Q I r h;obtain⟨p,kvs,rfl,hH,q⟩:=h;obtain⟨u,rfl,ru⟩:=vals1 r;cases ru;obtain⟨z,hd,vs,rel,dd⟩:=lJ I.hok hH;obtain⟨ep,da⟩:=dd.dictAt;have hl:=rel.length;refine W.kdl_call (W.kdl_dict (ep:=ep) hd) (I.ok.hd hc) da (by rw[<-hl];exact z) λh' tk acc c' hk ho hI=>?_;have hv:Vals (kvs.map λkv=>kV kv.1) acc.toList:=xZ (P:=X.prog) (w:=X.w) rel acc.toList (by rw[gN];exact hI.1) λj v e=>hI.2 j v (by rw[<-vk];exact e);refine⟨.ref s.heap.objs.size,_,I.laid (t':=tk) (a:=s.heap.objs.size) (o:=.lst (kvs.map λkv=>kV kv.1)) hk (bb _) ⟨by rw[aw];exact z,acc.toList,c',hv,by simpa [seqObj] using ho⟩,rfl,q _ (I.hok.fresh (bb _))⟩
def dN(ms:VF)(i:Nat):VH:=if i=0 then none else ms[i-1]?
end L2
namespace L2
open PySem PySem.Spec PyProof.Rows MM
variable {E:XK}{Q:VK}{xs vs ys ts:VI V}{x qual:Str}{H H' H2 B H0 A0:Hp}{a b it f p C dx pm d pr pk p1 p3 pg pb ph:θ}{F fp as:VI θ}{h t' i j c n L ep:Nat}{N ps:VI Str}{Y:St}{K:PySem.W.Frag}{es m:VE}{te td:TE}{tb:TS}{lo hi:VH}{ta:TA}{kvs S XT:VG}{ks zs ws:VF}
theorem zz(h:i<=xs.length):yp xs none (some (i:Int))=xs.take i:=by
 unfold yp;rw[HT.Es,HT.AG,XB,Nat.sub_zero,oe h]
theorem rB(h:i<=xs.length):yp xs (some (i:Int)) none=xs.drop i:=by
 unfold yp;rw[HT.Es,HT.AG,oe h,FV];rw[TB];exact bb _
theorem RQ(h2:2<=L)(h26:L<=26):jO L 1 0:=⟨h2,h26,by decide,by lia⟩
theorem Nu{w:Nat}(hL:0<L):ow L (bu L 1 0) w=true↔w%L≠0:=by
 rw[EY hL];constructor
 .intro h;lia
 .intro h;exact⟨by lia,Nat.mod_one _⟩
theorem sD{l:VE}(h:∀c∈l,c<200):PyData.strOk (txt l)=true:=by
 unfold PyData.strOk txt;simp only[Array.all_eq_true_iff_forall_mem,List.mem_toArray,decide_eq_true_eq];intro c hc;have:=h c hc;lia
theorem kH(hL:L<=26)(h:Ls L m):PyData.strOk (txt m)=true:=sD λc hc=>by have:=h c hc;lia
theorem BJ:∀c∈BG,c<200:=by decide
theorem ie{t:VE}(h:Thing t):PyData.strOk (txt t)=true:=sD λc hc=>BJ c (h.2.2 c hc)
theorem cj(s:aG H0 H)(k:Keeps F H H')(h:∀a∈F,H0 a=none):aG H0 H':=λb o e=>k b o (s b o e) (λz=>by rw[h b z] at e;cases e)
theorem Nv{g:TG}{D:Ends}{B:Int}(ha:∀R:VI V->Hp->Prop,(∀j:Int,0<=j->j<B->R [.int j] H)->ta Y H R)(hB:B<=1000000)
  (Pv:Nat->St->Hp->Prop) (h0:Pv 0 Y H) (hs:∀(i:Nat) Y H,(i:Int)<B->Pv i Y H->g (.int i) Y H λσ2 H2=>tb {D with nx:=Pv (i+1),ct:=Pv (i+1),bk:=D.nx} σ2 H2)
  (hd:∀(i:Nat) Y H,(i:Int)<B->Pv i Y H->D.nx Y H):g7 (g6 ta) g tb D Y H:=by
 refine ha _ λj j0 j1=>⟨j,rfl,by lia,by lia,?_⟩;refine qH (lo:=0) (n:=j.toNat) Pv h0 (λi Y H hi p=>?_) (λY H p=>hd _ Y H ⋯ p);rw[XF];exact hs i Y H ⋯ p
structure vN(L:Nat)(lo hi:VH)(n w:Nat)(m:VE):Prop where
 least:jB false L (bu L 1 0) lo hi 1 n
 eq:m=low L w n
 own:ow L (bu L 1 0) w=true
 ge:dS L lo n+1<=w
 lt:w<dU L hi n
 at_:(MM.ob L (bu L 1 0) w:Int)=(MM.ob L (bu L 1 0) (dS L lo n+1):Int)+(gF false L (bu L 1 0) lo hi n-1)/2
theorem Kh{t:VE}:∀{l m:VE},l<m->l<m++t
 |l,[],h=>absurd h (List.not_lt_nil _)
 |[],c::m,_=>by simp
 |a::l,c::m,h=>by
  rw[wt,vx]
  rcases vx.mp h with z|⟨z1,z2⟩
  .exact .inl z
  .exact .inr ⟨z1,Kh z2⟩
theorem vO{K:Nat}(hK:0<K){t:VE}:∀{x h:VE} (n:Nat),Ls K x->Ls K h->x.length=n->val K x n<val K h n->x++t<h/\h.take n≠x
 |[],h,n,_,_,e,hv=>by
  obtain rfl:n=0:=by simpa using e.symm
  rw[val_zero,val_zero] at hv;lia
 |c::x,[],n,_,_,_,hv=>by rw[fJ] at hv;lia
 |c::x,d::h,0,_,_,e,_=>by simp at e
 |c::x,d::h,n+1,hx,hh,e,hv=>by
  rw[cA,cA,pN (iy hK n hx.tail) (iy hK n hh.tail),(sq hx.head.1 hh.head.1).1,(sq hx.head.1 hh.head.1).2] at hv;rw[wt,vx,List.take_succ_cons]
  rcases hv with z|⟨rfl,z⟩
  .exact⟨.inl z,λe=>by have:=(List.cons.inj e).1;lia⟩
  .obtain⟨a,b⟩:=vO hK (t:=t) n hx.tail hh.tail (by simpa using e) z;exact⟨.inr ⟨rfl,a⟩,λe=>b (List.cons.inj e).2⟩
section
variable{L n w:Nat}{lo hi:VH}{m:VE}
theorem Nx(hL:0<L)(M:cy L lo hi):dU L hi n<=L^n:=by
 cases hi with
 |none=>exact bb _
 |some u=>exact XD (iy hL n (M.mhi u rfl).1.ls)
theorem vN.all(S:vN L lo hi n w m)(hL:2<=L)(M:cy L lo hi)(ok:ja lo hi):
  Mark L m/\m.length=n/\val L m n=w/\n<=1+max (dH lo) (dH hi)/\(∀l,lo=some l->∀t,l<m++t)/\∀u,hi=some u->∀t,m++t<u/\u.take n≠m:=by
 have X2:0<L:=by lia
 have hw:w<L^n:=ip S.lt (Nx X2 M);have hm:m.length=n:=by rw[S.eq,low_length]
 have hv:val L m n=w:=by rw[S.eq,i6 X2,tj hw]
 have h0:=(Nu X2).mp S.own;have hn1:=S.least.pos;have hnl:=S.least.RO hL (jo (K:=L) (h:=1) (j:=0) .(0) ⋯) M ok;have hls:Ls L m:=by rw[S.eq];exact qQ X2 _ _
 obtain⟨n',rfl⟩:∃n',n=n'+1:=⟨n-1,by lia⟩;refine⟨⟨hls,λc hc=>?_,λz=>by rw[z] at hm;simp at hm⟩,hm,hv,hnl,λl e t=>Kh ?_,λu e t=>?_⟩
 .rw[S.eq,lI X2] at hc;have:=eI hc;lia
 .rw[S.eq,EZ X2 hw h0 (M.mlo l e).1.ls];have:=S.ge;rw[e] at this;exact this
 .refine vO X2 (n'+1) hls (M.mhi u e).1.ls hm ?_;have:=S.lt;rw[e] at this;rw[hv];exact this
end
def DE(c:θ):Sp:=λvs H Q E=>∃(L:Nat) (lo hi:VH),vs=[.int L,oV lo,oV hi]/\2<=L/\L<=26/\cy L lo hi/\(ja lo hi->∀H' n w m,aG H H'->vN L lo hi n w m->Q (.str (txt m)) H')/\(¬ja lo hi->E (.ref c) none H)
def DF(c:θ)(E:XK):TS:=
  aJ (cM (aW (iO c) [] E (ai (ah 1) (ai (ah 2) aD))))
   (aJ (bh (aW qV [] E0 (ai (ah 0) (ai (tC (.int 1)) (ai (tC (.int 0)) aD)))) (aF 3))
   (aJ (bh (aW lP [] E0 (ai (ah 0) (ai (ah 3) (ai (ah 1) (ai (ah 2) (ai (tC (.int 1)) (ai (tC (.bl false)) aD))))))) (aF 4))
   (aJ (bh (aW jM [] E0 (ai (ah 0) (ai (ah 3) (ai (ah 1) (ai (ah 2) (ai (ah 4) (ai (tC (.bl false)) aD))))))) (aF 5))
   (bH (aW (Bu c) [] E (ai (ah 0) (ai (tC (.int 1)) (ai (tC (.int 0)) (ai (ah 1) (ai (ah 2) (ai (ah 4) (ai (aT nO (aT ji (ah 5) (tC (.int 1))) (tC (.int 2))) aD))))))))))))
theorem HJ{c:θ}(hN:N.length=6)(h:DE c vs H Q E):DF c E {nx:=λ_ H'=>Q .non H',rt:=Q} .(3) H:=by
 obtain⟨L,lo,hi,rfl,hL,cP,M,q1,q2⟩:=h;unfold DF L2.start;rw[hN];have X2:0<L:=by lia
 obtain⟨okl,okh⟩:=M.Ug cP;have E1:=jo (K:=L) (h:=1) (j:=0) .(0) ⋯;have hlen:=M.lens;nofun;refine⟨lo,hi,rfl,λok=>?_,q2⟩;nofun;refine⟨L,1,0,rfl,cP,by decide,λH1 s1=>?_⟩;nofun;refine⟨L,_,lo,hi,1,false,hL,cP,jN cP,E1,M,ok,by lia,by lia,λH2 n s2 LN=>?_⟩;have hn:n<=1002:=by have:=LN.len;lia
 refine⟨L,_,lo,hi,n,false,X2,cP,jN cP,okl,okh,by lia,λH3 s3=>?_⟩;nofun;have r1:=LN.room;obtain⟨k,hk⟩:=kd (a:=(gF false L (bu L 1 0) lo hi n-1)/2) ⋯;refine⟨cdiv .(0) .(0),RN (by rw[hk];rfl) ⟨L,1,0,lo,hi,n,k,M.J8 (RQ hL cP) ⋯,by decide,by lia,λ_ H4 s4=>?_,λz=>absurd ok z⟩⟩;have q:=q1 ok H4 n (tF L (bu L 1 0) (MM.ob L (bu L 1 0) (dS L lo n+1)+k)) (low L (tF L (bu L 1 0) (MM.ob L (bu L 1 0) (dS L lo n+1)+k)) n) (((s1.trans s2).trans s3).trans s4);obtain⟨n',rfl⟩:∃n',n=n'+1:=⟨n-1,by have:=LN.pos;lia⟩;rw[JF X2 (EL E1 _)];obtain⟨o1,o2⟩:=yO X2 E1 (MM.ob L (bu L 1 0) (dS L lo (n'+1)+1)+k);have hri:gF false L (bu L 1 0) lo hi (n'+1)=(MM.ob L (bu L 1 0) (dU L hi (n'+1)):Nat)-(MM.ob L (bu L 1 0) (dS L lo (n'+1)+1):Nat):=rfl;obtain⟨i1,i2⟩:=CN X2 E1 (A:=dS L lo (n'+1)+1) (B:=dU L hi (n'+1)) (p:=MM.ob L (bu L 1 0) (dS L lo (n'+1)+1)+k) ⋯ ⋯;exact q ⟨LN,rfl,o2,i1,i2,by rw[o1,hk];lia⟩
abbrev bG:=VE×VH
def qc(r:bG):V×V:=(av r.1,oV r.2)
def eX(R:VI bG):VH:=R.findSome? (·.2)
def iB(m:VE)(r:bG):Bool:=decide (r.1<m)
def qd(R:VI bG)(m:VE):VH:=eX (R.reverse.filter (iB m))
def jr(R:VI bG)(m:VE):VH:=eX (R.filter λr=>!iB m r)
structure aZ(L:Nat)(R:VI bG):Prop where
 up:R.Pairwise λa b=>a.1<b.1
 olds:∀r∈R,Mark L r.1/\r.1.length<=500
 news:R.Pairwise λa b=>∀x y,a.2=some x->b.2=some y->x<y
 marks:∀r∈R,∀n,r.2=some n->Mark L n/\n.length<=500
 len:R.length<=10000
theorem vP{a b c:VE}(h:a<b)(g:¬c<b):a<c:=by
 rcases QQ 0 1 with _|z
 .by_cases z:a<c
  .exact z
  .exact absurd (List.lt_of_le_of_lt (xt.mp z) h) g
 .omega
theorem ig(r:bG)(R:VI bG):eX (r::R)=match r.2 with|some x=>some x|none=>eX R:=by
 unfold eX;rw[List.findSome?_cons];cases r.2<;>rfl
theorem vQ{R:VI bG}{x:VE}(h:eX R=some x):∃r∈R,r.2=some x:=by
 obtain⟨r,hr,e⟩:=List.exists_of_findSome?_eq_some h;exact⟨r,hr,e⟩
theorem oS{S:VE->VE->Prop}:∀{R:VI bG},R.Pairwise (λa b=>∀x y,a.2=some x->b.2=some y->S x y)->∀{r:bG} {x:VE},r∈R->r.2=some x->∃y,eX R=some y/\(y=x\/S y x)
 |[],_,_,_,h,_=>nomatch h
 |a::R,hp,r,x,h,e=>by
  rw[Hk] at hp;rw[ig];cases ea:a.2 with
  |some z=>
   refine⟨z,rfl,?_⟩
   rcases gL.mp h with rfl|h
   .rw[ea] at e;injection e with e;exact .inl e
   .exact .inr (hp.1 r h z x ea e)
  |none=>
   rcases gL.mp h with rfl|h
   .rw[ea] at e;cases e
   .exact oS hp.2 h e
theorem jC{p q:bG->Bool}:∀{R:VI bG},(∀r∈R,r.2≠none->p r=q r)->eX (R.filter p)=eX (R.filter q)
 |[],_=>rfl
 |a::R,h=>by
  have ih:=jC (p:=p) (q:=q) (R:=R) λr hr=>h r (dA _ hr);cases ea:a.2 with
  |some z=>
   have e:=h a bp (by rw[ea];simp);cases hq:q a with
   |true=>rw[vy (by rw[e,hq]),vy hq,ig,ig,ea]
   |false=>rw[yB (by rw[e,hq];decide),yB (by rw[hq];decide)];exact ih
  |none=>
   have k:∀f:bG->Bool,eX ((a::R).filter f)=eX (R.filter f):=λf=>by
    cases hf:f a with
    |true=>rw[vy hf,ig,ea]
    |false=>rw[yB (by rw[hf];decide)]
   rw[k,k];exact ih
variable{L:Nat}{R:VI bG}
theorem E4{T:bG->bG->Prop}(h:R.Pairwise T){r s:bG}(hr:r∈R)(hs:s∈R):r=s\/T r s\/T s r:=by
 obtain⟨i,hi,rfl⟩:=xn.mp hr;obtain⟨j,hj,rfl⟩:=xn.mp hs;rw[ma] at h
 rcases HI i j with z|z|z
 .exact .inr (.inl (h i j hi hj z))
 .subst z;exact .inl rfl
 .exact .inr (.inr (h j i hj hi z))
theorem aZ.rise(O:aZ L R){r s:bG}{x y:VE}(hr:r∈R)(hs:s∈R)(h:r.1<s.1)(hx:r.2=some x)(hy:s.2=some y):x<y:=by
 have both:=O.up.and O.news
 rcases E4 both hr hs with e|⟨_,e⟩|⟨e,_⟩
 .subst e;exact absurd h (hX _)
 .exact e x y hx hy
 .exact absurd (ke h e) (hX _)
theorem aZ.one(O:aZ L R){r s:bG}(hr:r∈R)(hs:s∈R)(h:r.1=s.1):r=s:=by
 rcases E4 O.up hr hs with e|e|e
 .exact e
 .rw[h] at e;exact absurd e (hX _)
 .rw[h] at e;exact absurd e (hX _)
theorem qe{x:VE}(h:qd R m=some x):∃r∈R,r.1<m/\r.2=some x:=by
 obtain⟨r,hr,e⟩:=vQ h;obtain⟨h1,h2⟩:=pv.mp hr;exact⟨r,Xd.mp h1,uk h2,e⟩
theorem mT{x:VE}(h:jr R m=some x):∃r∈R,¬r.1<m/\r.2=some x:=by
 obtain⟨r,hr,e⟩:=vQ h;obtain⟨h1,h2⟩:=pv.mp hr;refine⟨r,h1,?_,e⟩;intro z;rw[iB,dr z] at h2;cases h2
theorem aZ.low(O:aZ L R){x:VE}{r:bG}(hr:r∈R)(h:r.1<m)(e:r.2=some x):∃y,qd R m=some y/\(y=x\/x<y):=by
 refine oS (S:=λa b=>b<a) ?_ (pv.mpr ⟨Xd.mpr hr,dr h⟩) e;refine List.Pairwise.filter _ ?_;rw[List.pairwise_reverse];exact O.news.imp λh x y hx hy=>h y x hy hx
theorem aZ.high(O:aZ L R){x:VE}{r:bG}(hr:r∈R)(h:¬r.1<m)(e:r.2=some x):∃y,jr R m=some y/\(y=x\/y<x):=
 oS (S:=λa b=>a<b) (List.Pairwise.filter _ O.news) (pv.mpr ⟨hr,by rw[iB,eQ h];rfl⟩) e
theorem aZ.jt(O:aZ L R)(m:VE):cy L (qd R m) (jr R m) where
 mlo:=λx h=>by obtain⟨r,hr,_,e⟩:=qe h;have:=O.marks r hr x e;exact⟨this.1,by lia⟩
 mhi:=λx h=>by obtain⟨r,hr,_,e⟩:=mT h;have:=O.marks r hr x e;exact⟨this.1,by lia⟩
theorem aZ.BK(O:aZ L R)(m:VE):ja (qd R m) (jr R m):=λx y hx hy=>by
 obtain⟨r,hr,h1,e1⟩:=qe hx;obtain⟨s,hs,h2,e2⟩:=mT hy;exact O.rise hr hs (vP h1 h2) e1 e2
theorem aZ.lens(O:aZ L R)(m:VE):dH (qd R m)<=500/\dH (jr R m)<=500:=by
 constructor
 .cases h:qd R m with
  |none=>exact mi _
  |some x=>obtain⟨r,hr,_,e⟩:=qe h;exact(O.marks r hr x e).2
 .cases h:jr R m with
  |none=>exact mi _
  |some x=>obtain⟨r,hr,_,e⟩:=mT h;exact(O.marks r hr x e).2
theorem vN.one{w n' w':Nat}{m':VE}(hL:2<=L)(A:vN L lo hi n w m)(B:vN L lo hi n' w' m'):m=m':=by
 have E:MM.Ends L (bu L 1 0):=jo (K:=L) (h:=1) (j:=0) .(0) ⋯;obtain rfl:=A.least.one B.least;have h1:=A.at_;have h2:=B.at_;have hw:w=w':=by
  rcases HI w w' with z|z|z
  .have:=kq ⋯ E (show w+1<=w' by lia);have:=tW ⋯ E w;rw[A.own] at this;simp at this
   lia
  .exact z
  .have:=kq ⋯ E (show w'+1<=w by lia);have:=tW ⋯ E w';rw[B.own] at this;simp at this
   lia
 subst hw;rw[A.eq,B.eq]
def kZ(L:Nat)(R:VI bG)(m:VE)(v:VH):Prop:=(∃r∈R,r.1=m/\v=r.2)\/((∀r∈R,r.1≠m)/\∃n w s,vN L (qd R m) (jr R m) n w s/\v=some (s++m))
theorem kZ.one(O:aZ L R)(hL:2<=L){v v':VH}(A:kZ L R m v)(B:kZ L R m v'):v=v':=by
 rcases A with⟨r,hr,e,rfl⟩|⟨h1,n,w,s,S,rfl⟩<;>rcases B with⟨r',Zf,e',rfl⟩|⟨h2,n',w',s',S',rfl⟩
 .rw[O.one hr Zf (e.trans e'.symm)]
 .exact absurd e (h2 r hr)
 .exact absurd e' (h1 r' Zf)
 .rw[S.one hL S']
theorem kZ.len(O:aZ L R)(hL:2<=L){x:VE}(M:Mark L m)(A:kZ L R m (some x)):Mark L x/\x.length<=501+m.length:=by
 rcases A with⟨r,hr,e,h⟩|⟨h1,n,w,s,S,h⟩
 .have:=O.marks r hr x h.symm;exact⟨this.1,by lia⟩
 .injection h with h
  subst h;obtain⟨a1,a2,a3,a4,_⟩:=S.all hL (O.jt m) (O.BK m);have:=O.lens m;exact⟨⟨a1.ls.app M.ls,Na.app M.na M.ne,by simp[M.ne]⟩,by rw[de];lia⟩
theorem PX(s:VE){a b:VE}(h:a<b):s++a<s++b:=by
 induction s with
 |nil=>exact h
 |cons c s ih=>rw[wt,wt,vx];exact .inr ⟨rfl,ih⟩
theorem kZ.rise(O:aZ L R)(hL:2<=L){m1 m2 v1 v2:VE}(h:m1<m2)(A:kZ L R m1 (some v1))(B:kZ L R m2 (some v2)):v1<v2:=by
 have le:∀{a b c:VE},(a=b\/a<b)->b<c->a<c:=λh g=>h.elim (λe=>e▸g) λz=>ke z g;have le2:∀{a b c:VE},a<b->(b=c\/b<c)->a<c:=λg h=>h.elim (λe=>e▸g) λz=>ke g z
 rcases A with⟨r,hr,e,h1⟩|⟨n1,n,w,s,S,h1⟩<;>rcases B with⟨r',Zf,e',h2⟩|⟨n2,n',w',s',S',h2⟩
 .exact O.rise hr Zf (by rw[e,e'];exact h) h1.symm h2.symm
 .injection h2 with h2
  subst h2;obtain⟨y,hy,q⟩:=O.low hr (m:=m2) (by rw[e];exact h) h1.symm;obtain⟨_,_,_,_,a5,_⟩:=S'.all hL (O.jt m2) (O.BK m2);exact le (q.imp Eq.symm id) (a5 y hy m2)
 .injection h1 with h1
  subst h1;obtain⟨y,hy,q⟩:=O.high Zf (m:=m1) (by rw[e'];exact λz=>hX _ (ke z h)) h2.symm;obtain⟨_,_,_,_,_,a6⟩:=S.all hL (O.jt m1) (O.BK m1);exact le2 (a6 y hy m1).1 q
 .injection h1 with h1
  injection h2 with h2
  subst h1 h2;obtain⟨_,_,_,_,_,a6⟩:=S.all hL (O.jt m1) (O.BK m1);obtain⟨_,_,_,_,b5,_⟩:=S'.all hL (O.jt m2) (O.BK m2)
  by_cases z:∃r∈R,¬r.1<m1/\r.1<m2/\r.2≠none
  .obtain⟨r,hr,z1,z2,z3⟩:=z;obtain⟨x,hx⟩:=Option.ne_none_iff_exists'.mp z3;obtain⟨y,hy,q⟩:=O.high hr (m:=m1) z1 hx;obtain⟨y',Z3,q'⟩:=O.low hr (m:=m2) z2 hx;exact ke (le2 (a6 y hy m1).1 q) (le (q'.imp Eq.symm id) (b5 y' Z3 m2))
  .have k:∀r∈R,r.2≠none->iB m1 r=iB m2 r:=λr hr hn=>by
    unfold iB
    by_cases w1:r.1<m1
    .rw[dr w1,dr (ke w1 h)]
    .by_cases w2:r.1<m2
     .exact absurd ⟨r,hr,w1,w2,hn⟩ z
     .rw[eQ w1,eQ w2]
   have e1:qd R m1=qd R m2:=jC λr hr hn=>k r (Xd.mp hr) hn;have e2:jr R m1=jr R m2:=jC λr hr hn=>by rw[k r hr hn]
   rw[e1,e2] at S;rw[S.one hL S'];exact PX s' h
def vR(K:W.Frag)(H:Hp)(p:θ)(R:VI bG):Prop:=∃xs,bw K H p xs/\fS H xs (R.map qc)
theorem vR.get{R:VI bG}(h:vR K H p R){r:bG}(hi:R[i]?=some r):∃xs t,bw K H p xs/\xs[i]?=some (.ref t)/\fT K H t [av r.1,oV r.2]:=by
 obtain⟨xs,a,b⟩:=h;have hl:=b.len;rw[aw] at hl;have XZ:i<R.length:=(bo.mp hi).1;obtain⟨x,hx⟩:=some_at (l:=xs) (i:=i) ⋯;obtain⟨q,t,e1,e2,e3⟩:=b.get hx;rw[cn,hi] at e1;cases e1;subst e2;exact⟨xs,t,a,hx,fT.of e3⟩
def vS(K:W.Frag):Sp:=λvs H Q _=>∃(p:θ) (R:VI bG) (m:VE),vs=[.ref p,.str (txt m)]/\vR K H p R/\R.Pairwise (λa b=>a.1<b.1)/\R.length<=10000/\
 ∀k,k<=R.length->(∀r∈R.take k,r.1<m)->(∀r∈R.drop k,¬r.1<m)->Q (.int (k:Nat)) H
def vU(K:W.Frag):TS:=
  aJ (bh (tC (.int 0)) (aF 2))
   (aJ (bh (fG (dJ K) (ai (ah 0) aD)) (aF 3))
   (aJ (oj (bz (aT w6 (ah 2) (ah 3))) (aJ (bh (aT nO (aT cI (ah 2) (ah 3)) (tC (.int 2))) (aF 4))
   (dD (bz (aT MV (aT (cH K) (aT (bV K) (ah 0) (ah 4)) (tC (.int 0))) (ah 1))) (bh (aT cI (ah 4) (tC (.int 1))) (aF 2)) (bh (ah 4) (aF 3)))))
   (bH (ah 2))))
def Kl(p:θ)(R:VI bG)(m:VE)(H:Hp):Nat->St->Hp->Prop:=λc Y H'=>∃(f l:Nat) (v4:ο V),H'=H/\Y=[some (.ref p),some (.str (txt m)),some (.int f),some (.int l),v4]/\f<=l/\l<=R.length/\c=l-f/\
 (∀i r,R[i]?=some r->i<f->r.1<m)/\∀i r,R[i]?=some r->l<=i->¬r.1<m
theorem BL(hN:N.length=5)(h:vS K vs H Q E):vU K {nx:=λ_ H'=>Q .non H',rt:=Q} .(3) H:=by
 obtain⟨p,R,m,rfl,hA,up,hl,q⟩:=h;unfold vU L2.start;rw[hN];refine aR λc hc=>?_;nofun;refine hc _ _ ?_;clear hc c;refine aR λc hc=>?_;nofun;obtain⟨xs,hq,hp⟩:=id hA;have ZH:=hp.len;rw[aw] at ZH;refine cJ hq (hc _ _ ?_);clear hc c;rw[ZH];refine aM λc hc=>?_;refine pJ (Kl p R m H) R.length ⟨0,R.length,none,rfl,rfl,mi _,bb _,rfl,λi r _ h=>absurd h (Xu _),λi r e h=>absurd (bo.mp e).1 ⋯⟩ ?_;rintro cc Y H' ⟨f,l,v4,rfl,rfl,h1,h2,rfl,h3,h4⟩ W hT hF;nofun
 by_cases z:(f:Int)<(l:Int)
 .rw[dr z];refine hT _ ?_;refine aR λc2 Yi=>?_;nofun;refine⟨cdiv .(0) .(0),Yi _ _ ?_⟩;clear Yi c2;rw[show ((f:Int)+(l:Int))/2=(((f+l)/2:Nat):Int) by lia]
  generalize hg:(f+l)/2=g;obtain⟨r,hr⟩:=some_at (l:=R) (i:=g) ⋯;obtain⟨ys,t,b1,b2,b3⟩:=hA.get hr;nofun;refine bR b1 ⋯ (by rw[ij];exact b2) ?_;refine bB (v:=av r.1) b3 .(0) rfl ?_;simp? [av]
  have gt:∀i r',R[i]?=some r'->g<=i->¬r.1<m->¬r'.1<m:=λi r' e hi hn hm=>by
   rcases wx hi with e2|e2
   .subst e2;rw[hr] at e;cases e;exact hn hm
   .obtain⟨a1,a2⟩:=bo.mp hr;obtain⟨a3,a4⟩:=bo.mp e;have:=ma.mp up g i a1 a3 e2;rw[a2,a4] at this;exact hn (ke this hm)
  have lt:∀i r',R[i]?=some r'->i<g+1->r.1<m->r'.1<m:=λi r' e hi hm=>by
   rcases wx (Ki hi) with e2|e2
   .subst e2;rw[hr] at e;cases e;exact hm
   .obtain⟨a1,a2⟩:=bo.mp hr;obtain⟨a3,a4⟩:=bo.mp e;have:=ma.mp up i g a3 a1 e2;rw[a2,a4] at this;exact ke this hm
  refine⟨_,_,rfl,rfl,bK ?_⟩
  by_cases y:r.1<m
  .rw[df (dr y)];exact⟨_,show l-(g+1)<l-f by lia,g+1,l,_,rfl,rfl,by lia,h2,rfl,λi r' e hi=>lt i r' e hi y,h4⟩
  .rw[cq (by rw[eQ y];decide)];exact⟨_,show g-f<l-f by lia,f,g,_,rfl,rfl,by lia,by lia,rfl,h3,λi r' e hi=>gt i r' e hi y⟩
 .rw[eQ z];refine hF _ (hc _ _ ?_);nofun;have e:f=l:=by lia
  subst e;refine q f h2 (λr hr=>?_) λr hr=>?_
  .obtain⟨i,hi,rfl⟩:=xn.mp hr;rw[fg] at hi;exact h3 i _ (by rw[List.getElem_take];exact dk ⋯) ⋯
  .obtain⟨i,hi,rfl⟩:=xn.mp hr;rw[TB] at hi;exact h4 (f+i) _ (by rw[List.getElem_drop];exact dk ⋯) ⋯
def qf(K:W.Frag):Sp:=λvs H Q _=>∃(p:θ) (R:VI bG),vs=[.ref p]/\vR K H p R/\Q (oV (eX R)) H
def vV(K:W.Frag):TS:=
  aJ (g7 (cD K (ah 0)) (uM K 2 (iA (aF 1) (iA (aF 2) uK))) (dD (tB (jf (ah 2))) (bH (ah 2)) (bX)))
   (bH (tC .non))
theorem BN{R:VI bG}{r:bG}(h:R[i]?=some r):eX (R.drop i)=match r.2 with|some x=>some x|none=>eX (R.drop (i+1)):=by
 rw[BD h];exact(ig r _).trans (by cases r.2<;>rfl)
theorem BO(hN:N.length=3)(h:qf K vs H Q E):vV K {nx:=λ_ H'=>Q .non H',rt:=Q} .(3) H:=by
 obtain⟨p,R,rfl,⟨xs,hq,hp⟩,q⟩:=h;unfold vV L2.start;rw[hN];have ZH:=hp.len;rw[aw] at ZH;refine aM λc hc=>?_;nofun;refine rZ (a:=p) (xs:=xs) (λQ h=>h) hq (λi Y H'=>∃(v1 v2:ο V),H'=H/\Y=[some (.ref p),v1,v2]/\eX (R.drop i)=eX R) ⟨_,_,rfl,rfl,by rw[XB]⟩ (λi Y H' _ h=>by obtain⟨_,_,e,_⟩:=h;rw[e];exact hq) ?_ ?_
 .rintro i x Y H' hx ⟨v1,v2,rfl,rfl,hf⟩;obtain⟨k,t,ek,rfl,ht⟩:=hp.get hx;rw[cn] at ek;obtain⟨⟨m,v⟩,ZI,rfl⟩:=eM.mp ek;rw[BN ZI] at hf;simp? [uM,iA,uK,qc]
  refine⟨[av m,oV v],fT.of ht,rfl,av m,[oV v],rfl,oV v,[],rfl,rfl,?_⟩;cases v with
  |none=>
   simp? [oV]
   exact⟨_,_,rfl,hf⟩
  |some y=>
   simp? [oV]
   rw[<-hf] at q;exact q
 .rintro Y H' ⟨v1,v2,rfl,rfl,hf⟩;refine hc _ _ ?_;nofun;rw[<-hf,VX ⋯] at q;exact q
def kO:VH->Key
 |none=>.non
 |some l=>.inr (txt l)
theorem UL(o:VH):kV (kO o)=oV o:=by cases o<;>rfl
theorem Km{a b:VH}(h:kO a=kO b):a=b:=by
 cases a<;>cases b
 .rfl
 .cases h
 .cases h
 .injection h with h;rw[cC.mp h]
def gO(L:Nat)(kvs:VI (VI Key×V)):Prop:=∀lo hi v,ck kvs [kO lo,kO hi]=some v->∃n w s,v=av s/\vN L lo hi n w s
theorem gO.nil(L:Nat):gO L []:=λlo hi v h=>by cases h
theorem gO.put{kvs:VI (VI Key×V)}(h:gO L kvs){w:Nat}{s:VE}(S:vN L lo hi n w s):gO L (putK kvs [kO lo,kO hi] (av s)):=λlo' YG v e=>by
 rw[vn] at e;split at e
 .rename_i q
  injection q with q1 q2
  injection q2 with q2 _
  rw[Km q1,Km q2];injection e with e
  exact⟨n,w,s,e.symm,S⟩
 .exact h _ _ _ e
inductive zA (K:W.Frag):VI V->Hp->VK->XK->Prop
 |mk {H:Hp} {Q:VK} {a8:XK} (L:Nat) (p d:θ) (R:VI bG) (m:VE) (kvs:VI (VI Key×V)):2<=L->L<=26->vR K H p R->aZ L R->Mark L m->m.length<=90000->H d=some (.dT kvs)->gO L kvs->kvs.length<=100000->(∀H' v XQ,Keeps [d] H H'->H' d=some (.dT XQ)->gO L XQ->XQ.length<=kvs.length+1->kZ L R m v->Q (oV v) H')->zA K [.int L,.ref p,.str (txt m),.ref d] H Q a8
def DG(K:W.Frag)(c:θ):TS:=
  aJ (bh (aW (vS K) [] E0 (ai (ah 1) (ai (ah 2) aD))) (aF 4))
   (aJ (dD (oh (bz (aT w6 (ah 4) (fG (dJ K) (ai (ah 1) aD)))) (bz (aT GG (aT (cH K) (aT (bV K) (ah 1) (ah 4)) (tC (.int 0))) (ah 2)))) (bH (aT (cH K) (aT (bV K) (ah 1) (ah 4)) (tC (.int 1)))) (bX))
   (aJ (bh (aW (qf K) [] E0 (ai (pR K (ai (L7 (AI K) (ah 1) gR (nN (ah 4))) aD)) aD)) (aF 5))
   (aJ (bh (aW (qf K) [] E0 (ai (L7 (AI K) (ah 1) (nN (ah 4)) gR) aD)) (aF 6))
   (aJ (dD (bz (aT (yR true) (iD (ai (ah 5) (ai (ah 6) aD))) (ah 3))) (fU (ah 3) (iD (ai (ah 5) (ai (ah 6) aD))) (aW (DE c) [] E0 (ai (ah 0) (ai (ah 5) (ai (ah 6) aD))))) (bX))
   (bH (aT EB (i9 (ah 3) (iD (ai (ah 5) (ai (ah 6) aD)))) (ah 2)))))))
theorem fS.take:∀{xs:VI V} {ps:VI (V×V)} (n:Nat),fS H xs ps->fS H (xs.take n) (ps.take n)
 |[],[],n,_=>by simp[fS]
 |[],_::_,_,h=>h.elim
 |_::_,[],_,h=>h.elim
 |_::_,_::_,0,_=>trivial
 |_::_,_::_,n+1,⟨a,r⟩=>⟨a,fS.take n r⟩
theorem fS.drop:∀{xs:VI V} {ps:VI (V×V)} (n:Nat),fS H xs ps->fS H (xs.drop n) (ps.drop n)
 |[],[],n,_=>by simp[fS]
 |[],_::_,_,h=>h.elim
 |_::_,[],_,h=>h.elim
 |_::_,_::_,0,h=>h
 |_::_,_::_,n+1,⟨_,r⟩=>fS.drop n r
theorem fS.rev:∀{xs:VI V} {ps:VI (V×V)},fS H xs ps->fS H xs.reverse ps.reverse
 |[],[],_=>trivial
 |[],_::_,h=>h.elim
 |_::_,[],h=>h.elim
 |_::_,_::_,⟨a,r⟩=>by
  rw[VO,VO];exact fS.app (fS.rev r) ⟨a,trivial⟩
section
variable{L:Nat}{R:VI bG}{m:VE}{k:Nat}
theorem x9(h1:∀r∈R.take k,r.1<m)(h2:∀r∈R.drop k,¬r.1<m):R.filter (iB m)=R.take k/\R.filter (λr=>!iB m r)=R.drop k:=by
 have a1:(R.take k).filter (iB m)=R.take k:=QP.mpr λr hr=>dr (h1 r hr);have a2:(R.drop k).filter (iB m)=[]:=zr.mpr λr hr=>by rw[iB,eQ (h2 r hr)];decide
 have a3:(R.take k).filter (λr=>!iB m r)=[]:=zr.mpr λr hr=>by rw[iB,dr (h1 r hr)];decide
 have a4:(R.drop k).filter (λr=>!iB m r)=R.drop k:=QP.mpr λr hr=>by rw[iB,eQ (h2 r hr)];rfl
 constructor
 .conv=>lhs;rw[<-yn k R]
  rw[wa,a1,a2,fw]
 .conv=>lhs;rw[<-yn k R]
  rw[wa,a3,a4,Bi]
theorem Kn(h1:∀r∈R.take k,r.1<m)(h2:∀r∈R.drop k,¬r.1<m):eX (R.take k).reverse=qd R m:=by
 unfold qd;rw[List.filter_reverse,(x9 h1 h2).1]
theorem HL(h1:∀r∈R.take k,r.1<m)(h2:∀r∈R.drop k,¬r.1<m):eX (R.drop k)=jr R m:=by
 unfold jr;rw[(x9 h1 h2).2]
theorem Ko(up:R.Pairwise λa b=>a.1<b.1)(h1:∀r∈R.take k,r.1<m)(h2:∀r∈R.drop k,¬r.1<m)(h3:∀r,R[k]?=some r->r.1≠m):∀r∈R,r.1≠m:=λr hr e=>by
 rw[<-yn k R] at hr
 rcases eP.mp hr with hr|hr
 .have:=h1 r hr;rw[e] at this;exact hX _ this
 .obtain⟨i,hi,rfl⟩:=xn.mp hr;rw[TB] at hi;rw[List.getElem_drop] at e;cases i with
  |zero=>exact h3 _ (dk ⋯) e
  |succ i=>
   have:=ma.mp up k (k+(i+1)) ⋯ ⋯ ⋯;rw[e] at this;exact h2 R[k] (by rw[wq (show k<R.length by lia)];exact bp) this
end
theorem rC{lo hi:ο Int}(h:bw K H a xs)(q:∀p,H p=none->Q (.ref p) (upd H p (.lst (yp xs lo hi)))):AI K (.ref a) lo hi H Q:=⟨a,xs,rfl,h,q⟩
theorem Keeps.of_same(s:aG H H'):Keeps F H H':=λb o e _=>s b o e
theorem HM{c:θ}(hN:N.length=7)(h:zA K vs H Q E):DG K c {nx:=λ_ H'=>Q .non H',rt:=Q} .(3) H:=by
 obtain⟨L,p,d,R,m,kvs,hL,cP,hA,O,M,hm,hd,Ya,Yh,q⟩:=h;unfold DG L2.start;rw[hN];refine aR λc1 hc=>?_;nofun;refine⟨p,R,m,rfl,hA,O.up,O.len,λk hk h1 h2=>hc _ _ ?_⟩;clear hc c1;obtain⟨xs,hq,hp⟩:=id hA;have ZH:=hp.len;rw[aw] at ZH;refine aM λc1 hc=>?_;suffices main:(∀r∈R,r.1≠m)->c1 [some (.int L),some (.ref p),some (.str (txt m)),some (.ref d),some (.int k),none,none] H by
  nofun;refine cJ hq (kK ?_);rw[ZH]
  by_cases z:(k:Int)<(R.length:Int)
  .rw[df z];obtain⟨r,hr⟩:=some_at (l:=R) (i:=k) ⋯;obtain⟨ys,t,b1,b2,b3⟩:=hA.get hr;refine bR b1 ⋯ (by rw[ij];exact b2) ?_;refine bB (v:=av r.1) b3 .(0) rfl ?_;refine⟨rfl,?_⟩
   by_cases e:r.1=m
   .rw[df (by rw[e];rfl)];refine bR b1 ⋯ (by rw[ij];exact b2) ?_;refine bB (v:=oV r.2) b3 .(0) rfl ?_;exact q H _ kvs (Keeps.of_same (aG.refl _)) hd Ya ⋯ (.inl ⟨r,dy hr,e,rfl⟩)
   .rw[cq (λz=>e (cC.mp (by injection z)))];exact main (Ko O.up h1 h2 λr' Zf=>by rw[hr] at Zf;cases Zf;exact e)
  .rw[cq z];exact main (Ko O.up h1 h2 λr' Zf=>absurd (bo.mp Zf).1 ⋯)
 intro hno;refine hc _ _ ?_;clear hc c1;refine aR λc1 hc=>?_;simp? [pR]
 refine rC hq λp1 Zj=>?_;rw[zz ⋯];have s1:=aG.up H Zj (o:=.lst (xs.take k));refine⟨p1,rfl,xs.take k,bw.here,λp2 YI=>?_⟩;have s2:=s1.new YI (o:=.lst (xs.take k).reverse);refine⟨p2,(R.take k).reverse,rfl,⟨_,bw.here,?_⟩,hc _ _ ?_⟩
 .have:=(hp.take k).rev;rw[<-map_take,<-List.map_reverse] at this;exact this.same s2
 clear hc c1;rw[Kn h1 h2];generalize upd (upd H p1 _) p2 _=H2 at s2 ⊢;refine aR λc1 hc=>?_;nofun;refine rC (s2.seq hq) λp3 YO=>?_;rw[rB ⋯];have s3:=s2.new YO (o:=.lst (xs.drop k));refine⟨p3,R.drop k,rfl,⟨_,bw.here,?_⟩,hc _ _ ?_⟩
 .have:=hp.drop k;rw[<-map_drop] at this;exact this.same s3
 clear hc c1;rw[HL h1 h2];generalize upd H2 p3 _=H3 at s3 ⊢;have hlen:=O.lens m;have hok:=O.BK m;have hMk:=O.jt m;generalize elo:qd R m=lo at hlen hok hMk ⊢;generalize ehi:jr R m=hi at hlen hok hMk ⊢;have ek:[oV lo,oV hi]=[kO lo,kO hi].map kV:=by simp[UL]
 refine aM λc1 hc=>?_;suffices main:∀H5 DH s n w,Keeps [d] H H5->H5 d=some (.dT DH)->gO L DH->DH.length<=kvs.length+1->ck DH [kO lo,kO hi]=some (av s)->vN L lo hi n w s->
   c1 [some (.int L),some (.ref p),some (.str (txt m)),some (.ref d),some (.int k),some (oV lo),some (oV hi)] H5 by
  nofun;refine⟨by decide,λt ht=>?_⟩;have s4:=s3.new ht (o:=.tup [oV lo,oV hi]);have hT:(upd H3 t (.tup [oV lo,oV hi])) t=some (.tup ([kO lo,kO hi].map kV)):=by rw[<-ek];exact aq
  generalize upd H3 t _=H4 at s4 hT ⊢;have hd4:=s4 _ _ hd;refine⟨d,ck kvs [kO lo,kO hi],rfl,g9.t hd4 hT,bK ?_⟩;cases ev:ck kvs [kO lo,kO hi] with
  |some v=>
   obtain⟨n,w,s,rfl,S⟩:=Ya _ _ _ ev;rw[cq .(4)];exact main H4 kvs s n w (Keeps.of_same s4) hd4 Ya ⋯ ev S
  |none=>
   rw[df .(4)];simp? [fU]
   refine⟨L,lo,hi,rfl,hL,cP,hMk,λ_ H5 n w s s5 S=>?_,λno=>absurd hok no⟩;refine⟨by decide,λt2 YT=>?_⟩;have s6:=(s4.trans s5).new YT (o:=.tup [oV lo,oV hi]);have hT2:(upd H5 t2 (.tup [oV lo,oV hi])) t2=some (.tup ([kO lo,kO hi].map kV)):=by rw[<-ek];exact aq
   generalize upd H5 t2 _=H6 at s6 hT2 ⊢;refine⟨_,oH.t (s6 _ _ hd) hT2 (by rw[dE];lia),?_⟩;exact main _ _ s n w ((Keeps.of_same s6).upd (.inl bp)) aq (Ya.put S) (fy _ _ _) (by rw[vn,df rfl];rfl) S
 intro H5 DH s n w k5 hd5 YZ UM ev5 S;refine hc _ _ ?_;clear hc c1;simp? [i9]
 refine⟨by decide,λt ht=>?_⟩;have hT:(upd H5 t (.tup [oV lo,oV hi])) t=some (.tup ([kO lo,kO hi].map kV)):=by rw[<-ek];exact aq
 have ne:d≠t:=λz=>by subst z;rw[hd5] at ht;cases ht
 have hd6:(upd H5 t (.tup [oV lo,oV hi])) d=some (.dT DH):=by rw[aH ne];exact hd5
 have k6:Keeps [d] H (upd H5 t (.tup [oV lo,oV hi])):=k5.upd (.inr ht);generalize upd H5 t _=H6 at hT hd6 k6 ⊢;refine⟨av s,by rw[<-ev5];exact g9.t hd6 hT,?_⟩;obtain⟨_,b2,_,b4,_⟩:=S.all hL hMk hok;have hz:s.length<=501:=by rw[b2];lia
 refine EE ⋯ ?_;exact q H6 (some (s++m)) DH k6 hd6 YZ UM (.inr ⟨hno,n,w,s,by rw[elo,ehi];exact S,rfl⟩)
structure ir(K:W.Frag)(C:θ):Prop where
 cls:GK K C
 nl:eO K C "letters"
 nh:eO K C "hands"
 nn:eO K C "own_number"
 nr:eO K C "renewals"
 nt:eO K C "thing_of"
 nk:eO K C "taken"
def cL(L h j:Nat)(pr pt pk:θ):VI (Str×V):=[("letters",.int L),("hands",.int h),("own_number",.int j),("renewals",.ref pr),("thing_of",.ref pt),("taken",.ref pk)]
def gA(kvs:VG):VI (Key×V):=kvs.map λkv=>(Key.inr (txt kv.1),av kv.2)
def cF(ks:VF):VI (Key×V):=ks.map λm=>(Key.inr (txt m),.bl true)
structure jR(C:θ)(H:Hp)(x dx pr pt pk:θ)(L h j:Nat)(kvs:VG)(ks:VF):Prop where
 ins:H x=some (.ins C dx (cL L h j pr pt pk))
 own:H dx=some (.own x)
 tho:H pt=some (.dK (gA kvs))
 tak:H pk=some (.dK (cF ks))
 apart:pt≠pk
theorem jR.same{x pt:θ}(S:jR C H x dx pr pt pk L h j kvs ks)(s:aG H H'):jR C H' x dx pr pt pk L h j kvs ks:=⟨s _ _ S.ins,s _ _ S.own,s _ _ S.tho,s _ _ S.tak,S.apart⟩
theorem Kp(kvs:VG):gA kvs=(kvs.map λkv=>(kv.1,av kv.2)).map λkv=>(Key.inr (txt kv.1),kv.2):=by
 unfold gA;rw[mv];rfl
theorem jD(m:VE):∀ks:VF,(ck (cF ks) (Key.inr (txt m))).isSome=decide (m∈ks)
 |[]=>by simp[cF,vm]
 |k::ks=>by
  have ih:=jD m ks;show (ck ((Key.inr (txt k),V.bl true)::cF ks) _).isSome=_
  by_cases e:k=m
  .subst e;rw[dz rfl];simp
  .rw[cO (λz=>e (cC.mp (by injection z))),ih];simp[Ne.symm e]
section
variable{K:W.Frag}{C:θ}{H:Hp}{x dx pr pt pk:θ}{L h j:Nat}{kvs:VG}{ks:VF}{Y:St}{i:Nat}{Q:VK}
theorem DI(S:jR C H x dx pr pt pk L h j kvs ks)(c:ir K C)(e:Y[i]?=some (some (.ref x)))(q:Q (.int L) H):fP K (ah i) "letters" Y H Q:=mq e ⟨x,C,dx,_,_,rfl,S.ins,c.cls,c.nl,rfl,q⟩
theorem Kq(S:jR C H x dx pr pt pk L h j kvs ks)(c:ir K C)(e:Y[i]?=some (some (.ref x)))(q:Q (.int h) H):fP K (ah i) "hands" Y H Q:=mq e ⟨x,C,dx,_,_,rfl,S.ins,c.cls,c.nh,rfl,q⟩
theorem Kr(S:jR C H x dx pr pt pk L h j kvs ks)(c:ir K C)(e:Y[i]?=some (some (.ref x)))(q:Q (.int j) H):fP K (ah i) "own_number" Y H Q:=mq e ⟨x,C,dx,_,_,rfl,S.ins,c.cls,c.nn,rfl,q⟩
theorem DJ(S:jR C H x dx pr pt pk L h j kvs ks)(c:ir K C)(e:Y[i]?=some (some (.ref x)))(q:Q (.ref pr) H):fP K (ah i) "renewals" Y H Q:=mq e ⟨x,C,dx,_,_,rfl,S.ins,c.cls,c.nr,rfl,q⟩
theorem oU(S:jR C H x dx pr pt pk L h j kvs ks)(c:ir K C)(e:Y[i]?=some (some (.ref x)))(q:Q (.ref pt) H):fP K (ah i) "thing_of" Y H Q:=mq e ⟨x,C,dx,_,_,rfl,S.ins,c.cls,c.nt,rfl,q⟩
theorem zB(S:jR C H x dx pr pt pk L h j kvs ks)(c:ir K C)(e:Y[i]?=some (some (.ref x)))(q:Q (.ref pk) H):fP K (ah i) "taken" Y H Q:=mq e ⟨x,C,dx,_,_,rfl,S.ins,c.cls,c.nk,rfl,q⟩
end
inductive dB (C:θ):VI V->Hp->VK->XK->Prop
 |mk {H:Hp} {Q:VK} {a8:XK} (x dx pr pt pk:θ) (L h j:Nat) (kvs:VG) (ks:VF):jR C H x dx pr pt pk L h j kvs ks->kvs.length<64->(kvs.map (·.1)).Nodup->(∀H' p (zs:VF),aG H H'->H' p=none->zs.Pairwise (·<·)->(∀m,m∈zs↔m∈kvs.map (·.1)/\¬m∈ks)->Q (.ref p) (upd H' p (.lst (zs.map av))))->dB C [.ref x] H Q a8
def vW(K:W.Frag):TS:=bH (eG (cD K (fG pS (ai (fP K (ah 0) "thing_of") aD))) [0] (bz (aT (yR true) (ah 0) (fP K (ah 1) "taken"))) (ah 0))
def RS(H:Hp)(zs:VF)(ks:VF):Nat->VI V->Hp->Prop:=λi ys H'=>H'=H/\ys=((zs.take i).filter λm=>!decide (m∈ks)).map av
theorem BP(cl:ir K C)(hN:N.length=1)(h:dB C vs H Q E):vW K {nx:=λ_ H'=>Q .non H',rt:=Q} .(3) H:=by
 obtain⟨x,dx,pr,pt,pk,L,h,j,kvs,ks,S,Yt,hnd,q⟩:=h;unfold vW L2.start;rw[hN];nofun;refine tT λR0 hR0=>?_;simp? [cD]
 refine oU S cl rfl ⟨pt,kvs.map λkv=>(kv.1,av kv.2),rfl,by rw[<-Kp];exact S.tho,by rw[aw];exact Yt,λl zs hl Yq hle=>⟨l,rfl,⟨_,bw.here⟩,?_⟩⟩
 rw[hR0];have hk:(kvs.map λkv=>(kv.1,av kv.2)).map (·.1)=kvs.map (·.1):=by rw[mv];rfl
 rw[hk] at Yq;have zlt:=fK hle (Yq.nodup_iff.mpr hnd);have s1:=aG.up H hl (o:=.lst (zs.map av));have S1:=S.same s1;have hZ:(upd H l (.lst (zs.map av))) l=some (.lst (zs.map av)):=aq;generalize upd H l _=H1 at s1 S1 hZ ⊢;have zl:zs.length<64:=by rw[Yq.length_eq,aw];exact Yt
 refine lH (K:=K) (xs:=zs.map av) (Y:=[some (.ref x)]) (fs:=[0]) (tt:=bz (aT (yR true) (ah 0) (fP K (ah 1) "taken"))) (te:=ah 0) (Q:=Q) (RS H1 zs ks) ⟨rfl,rfl⟩ (λi ys H' _ p=>by
  obtain⟨e,e2⟩:=p;rw[e,e2,aw];refine⟨bw.of hZ,eJ (oI _ _) ?_⟩;rw[fg];exact Oy _ _) (by rw[aw,dE];lia) ?_ ?_
 .rintro i v ys H' hv ⟨rfl,rfl⟩ W hW;rw[cn] at hv;obtain⟨m,hm,rfl⟩:=eM.mp hv;simp? [av]
  refine zB S1 cl rfl ⟨pk,_,rfl,g9.k (k:=Key.inr (txt m)) S1.tak,bK ?_⟩;rw[jD];have X6:zs.take (i+1)=zs.take i++[m]:=by rw[md,hm];rfl
  by_cases z:m∈ks
  .rw[cq (by simp[z])];refine hW _ _ ⟨rfl,?_⟩;rw[X6,wa];simp[z]
  .rw[df (by simp[z])];refine hW _ _ ⟨rfl,?_⟩;rw[X6,wa,fi];simp[z,av]
 .rintro ys H' ⟨rfl,rfl⟩ p hp;rw[aw,lL];refine q H' p _ s1 hp (zlt.filter _) λm=>?_;rw[pv,Yq.mem_iff];simp
def iC(lo:VH)(m:VE):Bool:=match lo with|none=>true|some l=>decide (l<m)
inductive mV (K:W.Frag) (C:θ):VI V->Hp->VK->XK->Prop
 |mk {H:Hp} {Q:VK} {a8:XK} (x dx pr pt pk:θ) (L h j:Nat) (kvs:VG) (ks:VF) (lo:VH):jR C H x dx pr pt pk L h j kvs ks->kvs.length<=10000->(∀H' v,aG H H'->(v=none->∀k∈kvs.map (·.1),iC lo k=false)->(∀m,v=some m->m∈kvs.map (·.1)/\iC lo m=true/\∀k∈kvs.map (·.1),iC lo k=true->¬k<m)->Q (oV v) H')->mV K C [.ref x,oV lo] H Q a8
def rD(K:W.Frag):TS:=bH (Bj K (ET (eG (Bk (fP K (ah 0) "thing_of")) [1] (An (tB (wZ (ah 1))) (bz (aT MV (ah 1) (ah 0)))) (ah 0))) (tC .non))
theorem zC(cl:ir K C)(hN:N.length=2)(h:mV K C vs H Q E):rD K {nx:=λ_ H'=>Q .non H',rt:=Q} .(3) H:=by
 obtain⟨x,dx,pr,pt,pk,L,h,j,kvs,ks,lo,S,hl,q⟩:=h;unfold rD L2.start;rw[hN];simp? [Bj]
 refine JS (a:=pt) (kvs:=gA kvs) (λQ h=>oU S cl rfl h) S.tho (λi ys H'=>(∀b,b≠pt->H' b=H b)/\ys=(((kvs.map (·.1)).take i).filter (iC lo)).map av) (λH' k=>⟨k,rfl⟩)
  (λi ys H' _ p=>by
   rw[p.2,aw];refine eJ (oI _ _) ?_;rw[fg];exact Oy _ _) (by rw[gA,aw,dE];lia) ?_ ?_
 .rintro i k v ys H' hv ⟨hk,rfl⟩ W hW;unfold gA at hv;rw[cn] at hv;obtain⟨kv,hm,e⟩:=eM.mp hv;cases e;have X6:(kvs.map (·.1)).take (i+1)=(kvs.map (·.1)).take i++[kv.1]:=by rw[md,cn,hm];rfl
  have yes:iC lo kv.1=true->W ((((kvs.map (·.1)).take i).filter (iC lo)).map av++[av kv.1]) H':=λz=>hW _ _ ⟨hk,by rw[X6,wa,fi];simp[z]⟩ rfl;have no:iC lo kv.1=false->W ((((kvs.map (·.1)).take i).filter (iC lo)).map av) H':=λz=>hW _ _ ⟨hk,by rw[X6,wa];simp[z]⟩ rfl;cases lo with
  |none=>
   simp? [kV,oV]
   exact yes rfl
  |some l=>
   simp? [kV,oV]
   refine⟨_,_,rfl,rfl,bK ?_⟩
   by_cases z:l<kv.1
   .rw[df (dr z)];exact yes (dr z)
   .rw[cq (by rw[eQ z];decide)];exact no (eQ z)
 .rintro ys H' ⟨hk,rfl⟩ p hp Yj;have eH:upd H' pt (.dK (gA kvs))=H:=by
   funext b
   by_cases z:b=pt
   .subst z;rw[aq];exact S.tho.symm
   .rw[aH z];exact hk b z
  rw[eH];have hpH:H p=none:=by rw[<-hk p Yj];exact hp
  have s1:=aG.up H hpH (o:=.lst ((((kvs.map (·.1)).take (gA kvs).length).filter (iC lo)).map av));have full:(kvs.map (·.1)).take (gA kvs).length=kvs.map (·.1):=FV (by rw[gA,aw,aw];exact bb _);refine⟨p,rfl,(((kvs.map (·.1)).take (gA kvs).length).filter (iC lo)),bw.here,λe=>?_,λm hm hmin=>?_⟩
  .rw[full] at e;refine q _ none s1 (λ_ k Ys=>?_) (λm z=>by cases z);have:=zr.mp e k Ys;simpa using this
  .rw[full] at hm hmin;obtain⟨h1,h2⟩:=pv.mp hm;exact q _ (some m) s1 (nofun) λm' z=>by
    cases z;exact⟨h1,h2,λk Ys hb=>hmin k (pv.mpr ⟨Ys,hb⟩)⟩
theorem bD{x pt:θ}{m:Str}{sp:Sp}{t:TA}{to:TE}(S:jR C H x dx pr pt pk L h j kvs ks)(ho:∀R:VK,R (.ref x) H->to Y H R)(hm:(cL L h j pr pt pk).lookup m=none)(q:t Y H λvs H2=>sp (.ref x::(vs++[])) H2 Q E):bU C m sp [] E to t Y H Q:=
 ho _ ⟨x,dx,_,rfl,S.ins,hm,q⟩
theorem jR.take{x pt:θ}(S:jR C H x dx pr pt pk L h j kvs ks)(hm:¬m∈ks):jR C (upd H pk (.dK (putK (cF ks) (Key.inr (txt m)) (.bl true)))) x dx pr pt pk L h j kvs (ks++[m]):=by
 have n1:x≠pk:=λz=>by subst z;have:=S.ins.symm.trans S.tak;cases this
 have n2:dx≠pk:=λz=>by subst z;have:=S.own.symm.trans S.tak;cases this
 have e:putK (cF ks) (Key.inr (txt m)) (.bl true)=cF (ks++[m]):=by
  rw[jJ _ (by
   have:=jD m ks;rw[eQ hm] at this;cases w:ck (cF ks) (Key.inr (txt m)) with
   |none=>rfl
   |some v=>rw[w] at this;cases this)]
  unfold cF;rw[fi];rfl
 rw[e];exact⟨by rw[aH n1];exact S.ins,by rw[aH n2];exact S.own,by rw[aH S.apart];exact S.tho,aq,S.apart⟩
structure gG(kvs:VG)(ks zs:VF):Prop where
 up:zs.Pairwise (·<·)
 mem:∀m,m∈zs↔m∈kvs.map (·.1)/\¬m∈ks
inductive qh (C c:θ):VI V->Hp->VK->XK->Prop
 |mk {H:Hp} {Q:VK} {E:XK} (x dx pr pt pk:θ) (L h j:Nat) (kvs:VG) (ks:VF) (i:Int):jR C H x dx pr pt pk L h j kvs ks->kvs.length<64->(kvs.map (·.1)).Nodup->ks.length<=10000->(∀zs,gG kvs ks zs->((0<=i/\i<zs.length)->∀H' m,zs[i.toNat]?=some m->Keeps [pk] H H'->jR C H' x dx pr pt pk L h j kvs (ks++[m])->Q (.str (txt m)) H')/\(¬(0<=i/\i<zs.length)->∀H',aG H H'->E (.ref c) none H'))->qh C c [.ref x,.int i] H Q E
def zD(K:W.Frag)(C c:θ)(E:XK):TS:=
  aJ (bh (bU C "marks" (dB C) [] E0 (ah 0) aD) (aF 2))
   (aJ (cM (aW (kG c) [] E (ai (ah 1) (ai (fG (dJ K) (ai (ah 2) aD)) aD))))
   (aJ (fU (fP K (ah 0) "taken") (aT (bV K) (ah 2) (ah 1)) (tC (.bl true)))
   (bH (aT (bV K) (ah 2) (ah 1)))))
theorem DK{c:θ}(cl:ir K C)(hN:N.length=3)(h:qh C c vs H Q E):zD K C c E {nx:=λ_ H'=>Q .non H',rt:=Q} .(3) H:=by
 obtain⟨x,dx,pr,pt,pk,L,h,j,kvs,ks,i,S,Yt,hnd,hkl,q⟩:=h;unfold zD L2.start;rw[hN];refine aR λc1 hc=>?_;nofun;refine bD S (λR r=>r) rfl ⟨x,dx,pr,pt,pk,L,h,j,kvs,ks,S,Yt,hnd,λH1 p zs s1 hp up mem=>hc _ _ ?_⟩;clear hc c1;obtain⟨q1,q2⟩:=q zs ⟨up,mem⟩;have s2:=s1.new hp (o:=.lst (zs.map av));have hZ:(upd H1 p (.lst (zs.map av))) p=some (.lst (zs.map av)):=aq;generalize upd H1 p _=H2 at s2 hZ ⊢;have S2:=S.same s2;refine aM λc1 hc=>?_;nofun;refine cJ (bw.of hZ) ?_;rw[aw];refine⟨i,_,rfl,λhi=>hc _ _ ?_,λhi=>q2 hi H2 s2⟩;clear hc c1;obtain⟨m,hm⟩:=some_at (l:=zs) (i:=i.toNat) ⋯;have ZU:=(mem m).mp (dy hm);refine aM λc1 hc=>?_;simp? [fU]
 refine zB S2 cl rfl (bR (v:=av m) (bw.of hZ) hi.1 (by rw[cn,hm];rfl) ⟨pk,rfl,_,oH.k (k:=Key.inr (txt m)) S2.tak (by rw[cF,aw,dE];lia),hc _ _ ?_⟩);clear hc c1;have S3:=S2.take ZU.2;have np:p≠pk:=λz=>by subst z;rw[S2.tak] at hZ;cases hZ
 have hZ3:(upd H2 pk (.dK (putK (cF ks) (Key.inr (txt m)) (.bl true)))) p=some (.lst (zs.map av)):=by rw[aH np];exact hZ
 have k3:Keeps [pk] H (upd H2 pk (.dK (putK (cF ks) (Key.inr (txt m)) (.bl true)))):=(s2.keeps _).upd (.inl bp);generalize upd H2 pk _=H3 at S3 hZ3 k3 ⊢;nofun;exact bR (v:=av m) (bw.of hZ3) hi.1 (by rw[cn,hm];rfl) (q1 hi H3 m hm k3 S3)
theorem Found.RT{w:Nat}(F:Found L (bu L h j) lo hi n w m)(D:jO L h j)(M:cy L lo hi)(ok:ja lo hi):
  Mark L m/\m.length<=1+max (dH lo) (dH hi)/\(∀l,lo=some l->l<m)/\∀u,hi=some u->m<u:=by
 have hL:=D.l2;have X2:0<L:=by lia
 have hw:w<L^n:=ip F.lt (Ka n X2 M);have hm:=low_length L w n;rw[<-F.eq] at hm;have h0:w%L≠0:=by have:=((EY X2 w).mp F.own).1;lia
 have hn1:=F.least.pos;have hnl:=F.least.RO hL (jo (K:=L) D.hj D.hh) M ok;obtain⟨n',rfl⟩:∃n',n=n'+1:=⟨n-1,by lia⟩;refine⟨?_,by lia,λl e=>?_,λu e=>?_⟩
 .refine⟨by rw[F.eq];exact qQ X2 _ _,λc hc=>?_,λz=>by rw[z] at hm;simp at hm⟩;rw[F.eq,lI X2] at hc;have:=eI hc;lia
 .rw[F.eq,EZ X2 hw h0 (M.mlo l e).1.ls];have:=F.ge;rw[e] at this;exact this
 .rw[F.eq,J9 X2 hw (M.mhi u e).1.ls (M.mhi u e).1.na];have:=F.lt;rw[e] at this;exact this
structure gC(L:Nat)(kvs:VG)(ks:VF)(k b:Nat):Prop where
 nd:(kvs.map (·.1)).Nodup
 mar:∀kv∈kvs,Mark L kv.1/\kv.1.length<=b/\Thing kv.2
 few:kvs.length<=k
 sub:∀m∈ks,m∈kvs.map (·.1)
 tnd:ks.Nodup
theorem gC.mark{k b:Nat}(W:gC L kvs ks k b)(h:m∈kvs.map (·.1)):Mark L m/\m.length<=b:=by
 obtain⟨kv,h1,rfl⟩:=km.mp h;exact⟨(W.mar kv h1).1,(W.mar kv h1).2.1⟩
theorem bQ:∀{ks ms:VF},ks.Nodup->(∀m∈ks,m∈ms)->ks.length<=ms.length
 |[],_,_,_=>mi _
 |k::ks,ms,h,s=>by
  obtain⟨h1,h2⟩:=Ws.mp h;have hk:=s k bp;have:=bQ (ms:=ms.erase k) h2 λm hm=>(List.mem_erase_of_ne (λz=>h1 (by rw[<-z];exact hm))).mpr (s m (dA _ hm));rw[List.length_erase_of_mem hk] at this;have hp:0<ms.length:=List.length_pos_of_mem hk;rw[kS];lia
theorem gC.take{k b:Nat}(W:gC L kvs ks k b)(h:m∈kvs.map (·.1))(n:¬m∈ks):gC L kvs (ks++[m]) k b:=
 ⟨W.nd,W.mar,W.few,λy hy=>by
  rcases eP.mp hy with hy|hy
  .exact W.sub y hy
  .rw[bc.mp hy];exact h,by
  rw[uj];exact⟨W.tnd,by simp,λa ha b hb=>by rw[bc.mp hb];intro z;subst z;exact n ha⟩⟩
structure jE(kvs:VG)(lo v:VH):Prop where
 no:v=none->∀k∈kvs.map (·.1),iC lo k=false
 yes:∀m,v=some m->m∈kvs.map (·.1)/\iC lo m=true/\∀k∈kvs.map (·.1),iC lo k=true->¬k<m
theorem jE.ok{v:VH}(F:jE kvs lo v):ja lo v:=λl u e1 e2=>by
 have:=(F.yes u e2).2.1;rw[e1] at this;exact uk this
theorem jE.marks{k b:Nat}{v:VH}(F:jE kvs lo v)(W:gC L kvs ks k b)(hb:b<=999)(hl:∀l,lo=some l->l∈kvs.map (·.1)):cy L lo v/\dH lo<=b/\dH v<=b:=by
 refine⟨⟨λm e=>?_,λm e=>?_⟩,?_,?_⟩
 .have:=W.mark (hl m e);exact⟨this.1,by lia⟩
 .have:=W.mark (F.yes m e).1;exact⟨this.1,by lia⟩
 .cases lo with
  |none=>exact mi _
  |some l=>exact(W.mark (hl l rfl)).2
 .cases v with
  |none=>exact mi _
  |some l=>exact(W.mark (F.yes l rfl).1).2
theorem jE.new{v:VH}(F:jE kvs lo v)(h1:∀l,lo=some l->l<m)(h2:∀u,v=some u->m<u):¬m∈kvs.map (·.1):=λhm=>by
 have hb:iC lo m=true:=by
  cases lo with
  |none=>rfl
  |some l=>exact dr (h1 l rfl)
 cases v with
 |none=>have:=F.no rfl m hm;rw[hb] at this;cases this
 |some u=>exact(F.yes u rfl).2.2 m hm hb (h2 u rfl)
theorem gC.put{k b:Nat}(W:gC L kvs ks k b){t:VE}(hm:Mark L m)(hl:m.length<=b+1)(ht:Thing t)(hn:¬m∈kvs.map (·.1)):gC L (kvs++[(m,t)]) ks (k+1) (b+1):=by
 refine⟨?_,λkv Yh=>?_,?_,λy hy=>?_,W.tnd⟩
 .rw[fi,uj];exact⟨W.nd,by simp,λa ha b hb=>by
   intro z;subst z;have:a=m:=by simpa using hb
   rw[this] at ha;exact hn ha⟩
 .rcases eP.mp Yh with h|h
  .have:=W.mar kv h;exact⟨this.1,by lia,this.2.2⟩
  .rw[bc.mp h];exact⟨hm,hl,ht⟩
 .rw[de];have:=W.few;simp;lia
 .rw[fi];exact hU _ (W.sub y hy)
theorem zE(m:VE):∀kvs:VG,¬m∈kvs.map (·.1)->ck (gA kvs) (Key.inr (txt m))=none
 |[],_=>by simp[gA,vm]
 |k::kvs,h=>by
  show ck ((Key.inr (txt k.1),av k.2)::gA kvs) _=_;rw[cO (λz=>h (by have e:k.1=m:=cC.mp (by injection z);rw[<-e];simp))];exact zE m kvs λz=>h (dA _ z)
theorem jR.put{x pt:θ}(S:jR C H x dx pr pt pk L h j kvs ks){t:VE}(hm:¬m∈kvs.map (·.1)):jR C (upd H pt (.dK (putK (gA kvs) (Key.inr (txt m)) (av t)))) x dx pr pt pk L h j (kvs++[(m,t)]) ks:=by
 have n1:x≠pt:=λz=>by subst z;have:=S.ins.symm.trans S.tho;cases this
 have n2:dx≠pt:=λz=>by subst z;have:=S.own.symm.trans S.tho;cases this
 have e:putK (gA kvs) (Key.inr (txt m)) (av t)=gA (kvs++[(m,t)]):=by
  rw[jJ _ (zE m kvs hm)];unfold gA;rw[fi];rfl
 rw[e];exact⟨by rw[aH n1];exact S.ins,by rw[aH n2];exact S.own,aq,by rw[aH (du S.apart)];exact S.tak,S.apart⟩
def rE(c:θ):Sp:=λvs H Q E=>∃(i n:Int),vs=[.int i,.int n]/\((0<=i/\i<n)->Q .non H)/\(¬(0<=i/\i<n)->E (.ref c) none H)
theorem zF{c:θ}(hN:N.length=2)(h:rE c vs H Q E):gm c E m {nx:=λ_ H'=>Q .non H',rt:=Q} .(3) H:=nS hN h
def E5(L h:Int):Prop:=2<=L/\L<=26/\1<=h/\h<L
inductive qi (C cl ch:θ):VI V->Hp->VK->XK->Prop
 |mk {H:Hp} {Q:VK} {E:XK} (x dx:θ) (L h j:Int):H x=some (.ins C dx [])->H dx=some (.own x)->(E5 L h->0<=j/\j<h->∀H' pr pt pk,Keeps [x] H H'->jR C H' x dx pr pt pk L.toNat h.toNat j.toNat [] []->H' pr=some (.lst [])->H pr=none->H pt=none->H pk=none->Q .non H')->(¬E5 L h->E (.ref cl) none H)->(E5 L h->¬(0<=j/\j<h)->E (.ref ch) none H)->qi C cl ch [.ref x,.int L,.int h,.int j] H Q E
def zG(K:W.Frag)(c d:θ)(E:XK):TS:=
  aJ (cM (aW (Dz c) [] E (ai (ah 1) (ai (ah 2) aD))))
   (aJ (cM (aW (rE d) [] E (ai (ah 3) (ai (ah 2) aD))))
   (aJ (jx K (ah 0) (ah 1) "letters")
   (aJ (jx K (ah 0) (ah 2) "hands")
   (aJ (jx K (ah 0) (ah 3) "own_number")
   (aJ (jx K (ah 0) (uS aD) "renewals")
   (aJ (jx K (ah 0) fz "thing_of")
   (jx K (ah 0) fz "taken")))))))
theorem DL{c:θ}(cl:ir K C)(hN:N.length=4)(h:qi C c d vs H Q E):zG K c d E {nx:=λ_ H'=>Q .non H',rt:=Q} .(3) H:=by
 obtain⟨x,dx,L,h,j,hx,hd,q1,q2,q3⟩:=h;unfold zG L2.start;rw[hN];refine aM λk hk=>?_;nofun;refine⟨L,h,rfl,λhL=>hk _ _ ?_,λhL=>q2 hL⟩;clear hk k;refine aM λk hk=>?_;nofun;refine⟨j,h,rfl,λhJ=>hk _ _ ?_,λhJ=>q3 hL hJ⟩;clear hk k;have q1:=q1 hL hJ;clear q2 q3;have hxd:dx≠x:=λz=>by subst z;rw[hx] at hd;cases hd
 have k0:Keeps [x] H H:=λb o e _=>e;refine aM λk hk=>?_;refine⟨x,C,dx,[],rfl,hx,cl.cls,cl.nl,by decide,hk _ _ ?_⟩;clear hk k;have k1:=k0.upd (p:=x) (o:=.ins C dx (cQ "letters" (.int L) [])) (.inl bp);have h1:(upd H x (.ins C dx (cQ "letters" (.int L) []))) x=some (.ins C dx [("letters",.int L)]):=aq;generalize upd H x _=H1 at k1 h1 ⊢;refine aM λk hk=>?_;refine⟨x,C,dx,_,rfl,h1,cl.cls,cl.nh,by simp,hk _ _ ?_⟩;clear hk k;have k2:=k1.upd (p:=x) (o:=.ins C dx (cQ "hands" (.int h) [("letters",.int L)])) (.inl bp);have h2:(upd H1 x (.ins C dx (cQ "hands" (.int h) [("letters",.int L)]))) x=some (.ins C dx [("letters",.int L),("hands",.int h)]):=aq;generalize upd H1 x _=H2 at k2 h2 ⊢;clear k1 h1;refine aM λk hk=>?_;refine⟨x,C,dx,_,rfl,h2,cl.cls,cl.nn,by simp,hk _ _ ?_⟩;clear hk k;have k3:=k2.upd (p:=x) (o:=.ins C dx (cQ "own_number" (.int j) [("letters",.int L),("hands",.int h)])) (.inl bp);have h3:(upd H2 x (.ins C dx (cQ "own_number" (.int j) [("letters",.int L),("hands",.int h)]))) x=some (.ins C dx [("letters",.int L),("hands",.int h),("own_number",.int j)]):=aq;generalize upd H2 x _=H3 at k3 h3 ⊢;clear k2 h2;have fresh:∀{Hn:Hp} {p:θ},Keeps [x] H Hn->Hn p=none->p≠x->H p=none:=λ{Hn p} k e n=>by
  cases w:H p with
  |none=>rfl
  |some o=>have:=k p o w (λz=>n (bc.mp z));rw[e] at this;cases this
 refine aM λk hk=>?_;unfold jx;nofun;refine⟨by decide,λpr hpr=>⟨C,dx,[("letters",.int L),("hands",.int h),("own_number",.int j)],?_⟩⟩
 have nr:x≠pr:=λz=>by subst z;rw[h3] at hpr;cases hpr
 have gr:=fresh k3 hpr (du nr);refine⟨by rw[aH nr];exact h3,cl.cls,cl.nr,by simp,hk _ _ ?_⟩;clear hk k;have k4:=(k3.upd (p:=pr) (o:=.lst []) (.inr hpr)).upd (p:=x) (o:=.ins C dx (cQ "renewals" (.ref pr) [("letters",.int L),("hands",.int h),("own_number",.int j)])) (.inl bp);have h4:(upd (upd H3 pr (.lst [])) x (.ins C dx (cQ "renewals" (.ref pr) [("letters",.int L),("hands",.int h),("own_number",.int j)]))) x=some (.ins C dx [("letters",.int L),("hands",.int h),("own_number",.int j),("renewals",.ref pr)]):=aq;have r4:(upd (upd H3 pr (.lst [])) x (.ins C dx (cQ "renewals" (.ref pr) [("letters",.int L),("hands",.int h),("own_number",.int j)]))) pr=some (.lst []):=by rw[aH (du nr),aq]
 generalize upd (upd H3 pr _) x _=H4 at k4 h4 r4 ⊢;clear k3 h3 hpr;refine aM λk hk=>?_;unfold jx fz;nofun;refine λpt Y7=>⟨C,dx,[("letters",.int L),("hands",.int h),("own_number",.int j),("renewals",.ref pr)],?_⟩;have nt:x≠pt:=λz=>by subst z;rw[h4] at Y7;cases Y7
 have nrt:pr≠pt:=λz=>by subst z;rw[r4] at Y7;cases Y7
 have gt:=fresh k4 Y7 (du nt);refine⟨by rw[aH nt];exact h4,cl.cls,cl.nt,by simp,hk _ _ ?_⟩;clear hk k;have k5:=(k4.upd (p:=pt) (o:=.dK []) (.inr Y7)).upd (p:=x) (o:=.ins C dx (cQ "thing_of" (.ref pt) [("letters",.int L),("hands",.int h),("own_number",.int j),("renewals",.ref pr)])) (.inl bp);have h5:(upd (upd H4 pt (.dK [])) x (.ins C dx (cQ "thing_of" (.ref pt) [("letters",.int L),("hands",.int h),("own_number",.int j),("renewals",.ref pr)]))) x=some (.ins C dx [("letters",.int L),("hands",.int h),("own_number",.int j),("renewals",.ref pr),("thing_of",.ref pt)]):=aq;have r5:(upd (upd H4 pt (.dK [])) x (.ins C dx (cQ "thing_of" (.ref pt) [("letters",.int L),("hands",.int h),("own_number",.int j),("renewals",.ref pr)]))) pr=some (.lst []):=by rw[aH (du nr),aH nrt];exact r4
 have t5:(upd (upd H4 pt (.dK [])) x (.ins C dx (cQ "thing_of" (.ref pt) [("letters",.int L),("hands",.int h),("own_number",.int j),("renewals",.ref pr)]))) pt=some (.dK []):=by rw[aH (du nt),aq]
 generalize upd (upd H4 pt _) x _=H5 at k5 h5 r5 t5 ⊢;clear k4 h4 r4 Y7;unfold jx fz;nofun;refine λpk YQ=>⟨C,dx,[("letters",.int L),("hands",.int h),("own_number",.int j),("renewals",.ref pr),("thing_of",.ref pt)],?_⟩;have nk:x≠pk:=λz=>by subst z;rw[h5] at YQ;cases YQ
 have nrk:pr≠pk:=λz=>by subst z;rw[r5] at YQ;cases YQ
 have ntk:pt≠pk:=λz=>by subst z;rw[t5] at YQ;cases YQ
 have gk:=fresh k5 YQ (du nk);refine⟨by rw[aH nk];exact h5,cl.cls,cl.nk,by simp,?_⟩;have k6:=(k5.upd (p:=pk) (o:=.dK []) (.inr YQ)).upd (p:=x) (o:=.ins C dx (cQ "taken" (.ref pk) [("letters",.int L),("hands",.int h),("own_number",.int j),("renewals",.ref pr),("thing_of",.ref pt)])) (.inl bp);have eL:((L.toNat:Nat):Int)=L:=Wk (by have:=hL.1;lia);have eh:((h.toNat:Nat):Int)=h:=Wk (by have:=hL.2.2.1;lia);have ej:((j.toNat:Nat):Int)=j:=Wk hJ.1;refine q1 _ pr pt pk k6 ⟨?_,k6 dx _ hd (λz=>hxd (bc.mp z)),?_,?_,ntk⟩ ?_ gr gt gk
 .rw[aq,cL,eL,eh,ej];rfl
 .rw[aH (du nt),aH ntk];exact t5
 .rw[aH (du nk),aq];rfl
 .rw[aH (du nr),aH nrk];exact r5
inductive vX (C ct cp:θ):VI V->Hp->VK->XK->Prop
 |mk {H:Hp} {Q:VK} {E:XK} (x dx pr pt pk:θ) (L h j:Nat) (kvs:VG) (ks:VF) (k b:Nat) (i:Int) (t:VE):jR C H x dx pr pt pk L h j kvs ks->jO L h j->gC L kvs ks k b->k<=62->b<=998->t.length<=100000->(¬Thing t->∀H',aG H H'->E (.ref ct) none H')->(∀zs,gG kvs ks zs->(Thing t->(0<=i/\i<=zs.length)->∀H' v n w m,Keeps [pt] H H'->jE kvs (dN zs i.toNat) v->Found L (bu L h j) (dN zs i.toNat) v n w m->jR C H' x dx pr pt pk L h j (kvs++[(m,t)]) ks->gC L (kvs++[(m,t)]) ks (k+1) (b+1)->Q (.str (txt m)) H')/\
  (Thing t->¬(0<=i/\i<=zs.length)->∀H',aG H H'->E (.ref cp) none H'))->vX C ct cp [.ref x,.int i,.str (txt t)] H Q E
def DM(K:W.Frag)(C ct cp cr:θ)(E:XK):TS:=
  aJ (cM (aW (oN ct) [] E (ai (ah 2) aD)))
   (aJ (bh (bU C "marks" (dB C) [] E0 (ah 0) aD) (aF 3))
   (aJ (cM (aW (kG cp) [] E (ai (ah 1) (ai (aT cI (fG (dJ K) (ai (ah 3) aD)) (tC (.int 1))) aD))))
   (aJ (bh (Q6 (bz (aT yG (ah 1) (tC (.int 0)))) (aT (bV K) (ah 3) (aT ji (ah 1) (tC (.int 1)))) (tC .non)) (aF 4))
   (aJ (bh (aW (qX cr) [] E (ai (fP K (ah 0) "letters") (ai (fP K (ah 0) "hands") (ai (fP K (ah 0) "own_number") (ai (ah 4) (ai (bU C "first_behind" (mV K C) [] E0 (ah 0) (ai (ah 4) aD)) aD)))))) (aF 5))
   (aJ (fU (fP K (ah 0) "thing_of") (ah 5) (ah 2))
   (bH (ah 5)))))))
theorem HN{ct cp cr:θ}(cl:ir K C)(hN:N.length=6)(h:vX C ct cp vs H Q E):DM K C ct cp cr E {nx:=λ_ H'=>Q .non H',rt:=Q} .(3) H:=by
 obtain⟨x,dx,pr,pt,pk,L,h,j,kvs,ks,k,b,i,t,S,D,W,hk,hb,ht,qn,q⟩:=h;unfold DM L2.start;rw[hN];refine aM λc1 hc=>?_;nofun;refine⟨t,rfl,ht,λH1 s1=>⟨λth=>hc _ _ ?_,λno=>qn no H1 s1⟩⟩;clear hc c1;have S1:=S.same s1;have few:=W.few;refine aR λc1 hc=>?_;refine bD S1 (λR r=>r) rfl ⟨x,dx,pr,pt,pk,L,h,j,kvs,ks,S1,by lia,W.nd,λH2 p zs s2 hp up mem=>hc _ _ ?_⟩;clear hc c1;obtain⟨qg,qp⟩:=q zs ⟨up,mem⟩;have s3:=(s1.trans s2).new hp (o:=.lst (zs.map av));have hZ:(upd H2 p (.lst (zs.map av))) p=some (.lst (zs.map av)):=aq;generalize upd H2 p _=H3 at s3 hZ ⊢;have S3:=S.same s3;refine aM λc1 hc=>?_;nofun;refine cJ (bw.of hZ) (kK ?_);rw[aw];refine⟨i,_,rfl,λhi=>hc _ _ ?_,λhi=>qp th ⋯ H3 s3⟩;clear hc c1;have qg:=qg th ⋯;refine aR λc1 hc=>?_;nofun;have w:c1 (oV (dN zs i.toNat)) H3:=hc _ _ (by
  clear hc c1;have Zn:∀l,dN zs i.toNat=some l->l∈kvs.map (·.1):=λl e=>by
   unfold dN at e;split at e
   .cases e
   .exact((mem l).mp (dy e)).1
  generalize dN zs i.toNat=lo at qg Zn ⊢;refine aR λc1 hc=>?_;nofun;refine DI S3 cl rfl (Kq S3 cl rfl (Kr S3 cl rfl ?_));refine bD S3 (λR r=>r) rfl ?_;nofun;refine⟨x,dx,pr,pt,pk,L,h,j,kvs,ks,lo,S3,by lia,λH4 v s4 v1 v2=>?_⟩;have F:jE kvs lo v:=⟨v1,v2⟩;obtain⟨mo,Zi,Y1⟩:=F.marks W ⋯ Zn;refine⟨L,h,j,lo,v,rfl,D,mo,λok H5 n w m s5 Fo=>hc _ _ ?_,λz=>absurd F.ok z⟩;clear hc c1;obtain⟨g1,g2,g3,g4⟩:=Fo.RT D mo ok;have nm:=F.new g3 g4;have s5:=(s3.trans s4).trans s5;have S5:=S.same s5;refine aM λc1 hc=>?_;simp? [fU]
  refine oU S5 cl rfl ⟨pt,rfl,_,oH.k (k:=Key.inr (txt m)) S5.tho (by rw[gA,aw,dE];lia),hc _ _ ?_⟩;clear hc c1;have S6:=S5.put (t:=t) nm;have k6:Keeps [pt] H (upd H5 pt (.dK (putK (gA kvs) (Key.inr (txt m)) (av t)))):=(s5.keeps _).upd (.inl bp);nofun;exact qg _ v n w m k6 F Fo S6 (W.put g1 ⋯ th nm))
 clear hc
 by_cases h0:0<i
 .rw[df h0];obtain⟨m,hm⟩:=some_at (l:=zs) (i:=i.toNat-1) ⋯;have e:dN zs i.toNat=some m:=by unfold dN;rw[cq ⋯];exact hm
  rw[e] at w;exact bR (v:=av m) (bw.of hZ) ⋯ (by rw[show (i-1).toNat=i.toNat-1 by lia,cn,hm];rfl) w
 .rw[cq h0];have e:dN zs i.toNat=none:=by unfold dN;rw[df ⋯]
  rw[e] at w;exact w
def bI(H:Hp):VI θ->VI (VI bG)->Prop
 |[],[]=>True
 |a::as,r::R=>(∃xs,H a=some (.lst xs)/\fS H xs (r.map qc))/\bI H as R
 |_,_=>False
theorem bI.same(s:aG H H'):∀{as:VI θ} {R:VI (VI bG)},bI H as R->bI H' as R
 |[],[],_=>trivial
 |[],_::_,h=>h.elim
 |_::_,[],h=>h.elim
 |_::_,_::_,⟨⟨xs,e,p⟩,r⟩=>⟨⟨xs,s _ _ e,p.same s⟩,bI.same s r⟩
theorem bI.len:∀{as:VI θ} {R:VI (VI bG)},bI H as R->as.length=R.length
 |[],[],_=>rfl
 |[],_::_,h=>h.elim
 |_::_,[],h=>h.elim
 |_::_,_::_,⟨_,r⟩=>by rw[kS,kS,bI.len r]
theorem bI.app:∀{as:VI θ} {R:VI (VI bG)} {bs:VI θ} {S:VI (VI bG)},bI H as R->bI H bs S->bI H (as++bs) (R++S)
 |[],[],_,_,_,h=>h
 |[],_::_,_,_,h,_=>h.elim
 |_::_,[],_,_,h,_=>h.elim
 |_::_,_::_,_,_,⟨a,r⟩,h=>⟨a,bI.app r h⟩
theorem bI.get:∀{as:VI θ} {R:VI (VI bG)} {i:Nat} {a:θ},bI H as R->as[i]?=some a->∃r xs,R[i]?=some r/\H a=some (.lst xs)/\fS H xs (r.map qc)
 |[],_,_,_,_,e=>by simp at e
 |_::_,[],_,_,h,_=>h.elim
 |_::_,r::_,0,_,⟨⟨xs,h,p⟩,_⟩,e=>by
  have:_=_:=eI e;subst this;exact⟨r,xs,rfl,h,p⟩
 |_::_,_::_,i+1,_,⟨_,r⟩,e=>by
  obtain⟨p,t,a,b,c⟩:=bI.get r (i:=i) (by simpa using e);exact⟨p,t,by simpa using a,b,c⟩
def E6(z:VE×VE):V×V:=(av z.1,av z.2)
structure ya(H:Hp)(p p1 p2 p3:θ)(bs:VI θ)(ts:VI V)(L h:Nat)(R:VI (VI bG))(zs:VG)(ws:VF):Prop where
 top:H p=some (.tup [.int L,.int h,.ref p1,.ref p2,.ref p3])
 ren:H p1=some (.lst (bs.map V.ref))
 row:bI H bs R
 thi:H p2=some (.lst ts)
 prs:fS H ts (zs.map E6)
 tak:H p3=some (.lst (ws.map av))
theorem ya.same{p2:θ}{bs:VI θ}{R:VI (VI bG)}{zs:VG}(A:ya H p p1 p2 p3 bs ts L h R zs ws)(s:aG H H'):ya H' p p1 p2 p3 bs ts L h R zs ws:=
 ⟨s _ _ A.top,s _ _ A.ren,A.row.same s,s _ _ A.thi,A.prs.same s,s _ _ A.tak⟩
inductive jS:VI V->Hp->VK->XK->Prop
 |mk {H:Hp} {Q:VK} {a8:XK} (L h:Nat) (pr pt pk:θ) (as:VI θ) (R:VI (VI bG)) (ts:VI V) (zs:VG) (ws:VF):H pr=some (.lst (as.map V.ref))->bI H as R->H pt=some (.lst ts)->fS H ts (zs.map E6)->H pk=some (.lst (ws.map av))->R.length<=10000->(∀H' p p1 p2 p3 bs,aG H H'->ya H' p p1 p2 p3 bs ts L h R zs ws->(p::p1::p2::p3::bs).Nodup->(∀b∈p::p1::p2::p3::bs,H b=none)->Q (.ref p) H')->jS  [.int L,.int h,.ref pr,.ref pt,.ref pk] H Q a8
def rF(K:W.Frag):TS:=
  bH (iD (ai (ah 0) (ai (ah 1) (ai (eG (cD K (ah 2)) [] lE (fG (tR K) (ai (ah 0) aD))) (ai (fG (tR K) (ai (ah 3) aD)) (ai (fG (tR K) (ai (ah 4) aD)) aD))))))
theorem aG.bg(s:aG H H')(h:H' p=none):H p=none:=by
 cases w:H p with
 |none=>rfl
 |some o=>rw[s p o w] at h;cases h
def RU(H:Hp)(R:VI (VI bG)):Nat->VI V->Hp->Prop:=λi ys H'=>aG H H'/\∃bs:VI θ,ys=bs.map V.ref/\bI H' bs (R.take i)/\bs.Nodup/\(∀b∈bs,H b=none)/\bs.length<=i
theorem zH(hN:N.length=5)(h:jS vs H Q E):rF K {nx:=λ_ H'=>Q .non H',rt:=Q} .(3) H:=by
 obtain⟨L,h,pr,pt,pk,as,R,ts,zs,ws,hr,hR,ht,hz,hw,hl,q⟩:=h;have al:=hR.len;unfold rF L2.start;rw[hN];nofun;refine ve (a:=pr) (xs:=as.map V.ref) (λQ h=>h) (bw.of hr) (RU H R) ⟨aG.refl _,[],rfl,trivial,TC,λb hb=>(nomatch hb),mi _⟩ ?_ (by rw[aw,dE];lia) ?_ ?_
 .rintro i ys H' _ ⟨s,bs,rfl,_,_,_,hbl⟩;exact⟨bw.of (s _ _ hr),by rw[aw];exact hbl⟩
 .rintro i v ys H' hv ⟨s,bs,rfl,YD,hnd,hfr,hbl⟩ W hW;rw[cn] at hv;obtain⟨a,ha,rfl⟩:=eM.mp hv;obtain⟨r,xs,er,hx,px⟩:=(hR.same s).get ha;nofun;refine⟨a,xs,rfl,.inl (bw.of hx),λl hl=>?_⟩;have e:R.take (i+1)=R.take i++[r]:=by rw[md,er];rfl
  have s2:=aG.up H' hl (o:=.lst xs);have:=hW (bs.map V.ref++[.ref l]) (upd H' l (.lst xs)) ⟨s.trans s2,bs++[l],by rw[fi];rfl,by rw[e];exact(YD.same s2).app ⟨⟨xs,aq,px.same s2⟩,trivial⟩,?_,λb hb=>?_,by rw[de];simp;lia⟩
  .exact this
  .rw[uj];exact⟨hnd,by simp,λb hb c hc=>by
    rw[bc.mp hc];intro z;subst z;obtain⟨j,hj⟩:=sv hb;obtain⟨_,_,_,w,_⟩:=YD.get hj;rw[w] at hl;cases hl⟩
  .rcases eP.mp hb with hb|hb
   .exact hfr b hb
   .rw[bc.mp hb];exact s.bg hl
 .rintro ys H1 ⟨s,bs,rfl,YD,hnd,hfr,hbl⟩ p1 Zj;rw[aw,al,lL] at YD;have nb1:¬p1∈bs:=λhb=>by
   obtain⟨j,hj⟩:=sv hb;obtain⟨_,_,_,w,_⟩:=YD.get hj;rw[w] at Zj;cases Zj
  have s1:=s.new Zj (o:=.lst (bs.map V.ref));have r1:=YD.same (aG.up H1 Zj (o:=.lst (bs.map V.ref)));have e1:(upd H1 p1 (.lst (bs.map V.ref))) p1=some (.lst (bs.map V.ref)):=aq;have f1:=s.bg Zj;generalize upd H1 p1 _=H2 at s1 r1 e1 ⊢;refine⟨pt,ts,rfl,.inl (bw.of (s1 _ _ ht)),λp2 YI=>⟨pk,ws.map av,rfl,.inl (bw.of ((s1.new YI) _ _ hw)),λp3 YO=>⟨by decide,λp hp=>?_⟩⟩⟩;have f2:=s1.bg YI;have nb2:¬p2∈bs:=λhb=>by
   obtain⟨j,hj⟩:=sv hb;obtain⟨_,_,_,w,_⟩:=r1.get hj;rw[w] at YI;cases YI
  have Zy:p1≠p2:=λz=>by subst z;rw[e1] at YI;cases YI
  have s2:=aG.up H2 YI (o:=.lst ts);have e2:(upd H2 p2 (.lst ts)) p2=some (.lst ts):=aq;generalize upd H2 p2 _=H3 at s2 e2 YO hp ⊢;have r2:=r1.same s2;have f3:=(s1.trans s2).bg YO;have nb3:¬p3∈bs:=λhb=>by
   obtain⟨j,hj⟩:=sv hb;obtain⟨_,_,_,w,_⟩:=r2.get hj;rw[w] at YO;cases YO
  have n13:p1≠p3:=λz=>by subst z;rw[s2 _ _ e1] at YO;cases YO
  have n23:p2≠p3:=λz=>by subst z;rw[e2] at YO;cases YO
  have s3:=aG.up H3 YO (o:=.lst (ws.map av));have e3:(upd H3 p3 (.lst (ws.map av))) p3=some (.lst (ws.map av)):=aq;generalize upd H3 p3 _=H4 at s3 e3 hp ⊢;have r3:=r2.same s3;have f4:=((s1.trans s2).trans s3).bg hp;have nb4:¬p∈bs:=λhb=>by
   obtain⟨j,hj⟩:=sv hb;obtain⟨_,_,_,w,_⟩:=r3.get hj;rw[w] at hp;cases hp
  have n1:p≠p1:=λz=>by subst z;rw[s3 _ _ (s2 _ _ e1)] at hp;cases hp
  have n2:p≠p2:=λz=>by subst z;rw[s3 _ _ e2] at hp;cases hp
  have n3:p≠p3:=λz=>by subst z;rw[e3] at hp;cases hp
  have s4:=aG.up H4 hp (o:=.tup [.int L,.int h,.ref p1,.ref p2,.ref p3]);have sa:=((s1.trans s2).trans s3).trans s4;refine q _ p p1 p2 p3 bs sa ⟨aq,s4 _ _ (s3 _ _ (s2 _ _ e1)),r3.same s4,s4 _ _ (s3 _ _ e2),hz.same sa,s4 _ _ e3⟩ ?_ ?_
  .simp only[nodup_cons,mem_cons,not_or];exact⟨⟨n1,n2,n3,nb4⟩,⟨Zy,n13,nb1⟩,⟨n23,nb2⟩,nb3,hnd⟩
  .intro b hb;simp only[mem_cons] at hb
   rcases hb with rfl|rfl|rfl|rfl|hb
   .exact f4
   .exact f1
   .exact f2
   .exact f3
   .exact hfr b hb
structure Told(kvs:VG)(ks:VF)(zs:VG)(ws:VF):Prop where
 perm:zs.Perm kvs
 up:(zs.map (·.1)).Pairwise (·<·)
 tperm:ws.Perm ks
 tup:ws.Pairwise (·<·)
inductive fC (C:θ):VI V->Hp->VK->XK->Prop
 |mk {H:Hp} {Q:VK} {a8:XK} (x dx pr pt pk:θ) (L h j:Nat) (kvs:VG) (ks:VF) (as:VI θ) (R:VI (VI bG)):jR C H x dx pr pt pk L h j kvs ks->kvs.length<64->(kvs.map (·.1)).Nodup->ks.length<64->ks.Nodup->H pr=some (.lst (as.map V.ref))->bI H as R->R.length<=10000->(∀H' p p1 p2 p3 bs ts zs ws,aG H H'->Told kvs ks zs ws->ya H' p p1 p2 p3 bs ts L h R zs ws->(p::p1::p2::p3::bs).Nodup->(∀b∈p::p1::p2::p3::bs,H b=none)->Q (.ref p) H')->fC C [.ref x] H Q a8
def vY(K:W.Frag):TS:=
  aJ (bh (fG vD (ai (GN K "dict" C8 (fP K (ah 0) "thing_of")) aD)) (aF 1))
   (bH (aW jS [] E0 (ai (fP K (ah 0) "letters") (ai (fP K (ah 0) "hands") (ai (fP K (ah 0) "renewals") (ai (ah 1) (ai (fG pS (ai (fP K (ah 0) "taken") aD)) aD)))))))
theorem DN:∀{ys:VI V} {zs:VG},ys.length=zs.length->(∀(i:Nat) kv,zs[i]?=some kv->∃t,ys[i]?=some (.ref t)/\H t=some (.tup [av kv.1,av kv.2]))->fS H ys (zs.map E6)
 |[],[],_,_=>trivial
 |[],_::_,h,_=>by simp at h
 |_::_,[],h,_=>by simp at h
 |y::ys,z::zs,h,k=>by
  obtain⟨t,e,ht⟩:=k 0 z rfl;refine⟨⟨t,eI e,ht⟩,DN (by simpa using h) λi kv e=>?_⟩;obtain⟨t,e,ht⟩:=k (i+1) kv (by simpa using e);exact⟨t,by simpa using e,ht⟩
theorem PY(ks:VF):cF ks=(ks.map λm=>(m,V.bl true)).map λkv=>(Key.inr (txt kv.1),kv.2):=by
 unfold cF;rw[mv];rfl
theorem BQ(cl:ir K C)(hN:N.length=2)(h:fC C vs H Q E):vY K {nx:=λ_ H'=>Q .non H',rt:=Q} .(3) H:=by
 obtain⟨x,dx,pr,pt,pk,L,h,j,kvs,ks,as,R,S,Yt,hnd,k64,knd,hr,hR,hl,q⟩:=h;unfold vY L2.start;rw[hN];refine aR λc1 hc=>?_;nofun;refine oU S cl rfl ⟨.inr (.inr (.inl ⟨rfl,.inl ⟨_,S.tho⟩⟩)),pt,_,rfl,rfl,S.tho,λv hv=>?_⟩;have s1:=aG.up H hv (o:=lM v pt);have eV:(upd H v (lM v pt)) v=some (lM v pt):=aq;generalize upd H v _=H1 at s1 eV ⊢;have S1:=S.same s1;refine⟨v,pt,kvs,rfl,eV,S1.tho,Yt,hnd,λH2 l ys zs s2 hl0 Y1 hp hup hlen hat=>hc _ _ ?_⟩;clear hc c1;have s2:=s1.trans s2;have S2:=S.same s2;have pz:fS H2 ys (zs.map E6):=DN hlen λi kv e=>by obtain⟨t,a,b,_⟩:=hat i kv e;exact⟨t,a,b⟩
 nofun;refine DI S2 cl rfl (Kq S2 cl rfl (DJ S2 cl rfl ?_));refine zB S2 cl rfl ⟨pk,ks.map λm=>(m,V.bl true),rfl,by rw[<-PY];exact S2.tak,by rw[aw];exact k64,λp3 ws YO Yq hle=>?_⟩;have ek:(ks.map λm=>(m,V.bl true)).map (·.1)=ks:=by rw[mv];exact Xk _
 rw[ek] at Yq;have wlt:=fK hle (Yq.nodup_iff.mpr knd);have s3:=aG.up H2 YO (o:=.lst (ws.map av));have e3:(upd H2 p3 (.lst (ws.map av))) p3=some (.lst (ws.map av)):=aq;generalize upd H2 p3 _=H3 at s3 e3 ⊢;have YR:=s2.trans s3;refine⟨L,h,pr,l,p3,as,R,ys,zs,ws,YR _ _ hr,hR.same YR,s3 _ _ Y1,pz.same s3,e3,hl,λH4 p p1 p2 p3 bs s4 A nd fr=>?_⟩;exact q H4 p p1 p2 p3 bs ys zs ws (YR.trans s4) ⟨hp,hup,Yq,wlt⟩ A nd λb hb=>YR.bg (fr b hb)
def sE(R:VI (VI bG)):VI PyData:=R.map λr=>.list (pairD (r.map qc))
theorem Ks{r:VI bG}(h:∀y∈r,PyData.strOk (txt y.1)=true/\∀z,y.2=some z->PyData.strOk (txt z)=true):∀p∈r.map qc,Hy p.1/\Hy p.2:=λp hp=>by
 obtain⟨y,hy,rfl⟩:=km.mp hp;obtain⟨a,b⟩:=h y hy;refine⟨.str a,?_⟩;show Hy (oV y.2);cases e:y.2 with
 |none=>exact .non
 |some z=>exact .str (b z e)
theorem bI.dat:∀{as:VI θ} {R:VI (VI bG)},bI H as R->(∀r∈R,∀y∈r,PyData.strOk (txt y.1)=true/\∀z,y.2=some z->PyData.strOk (txt z)=true)->DatAll K H (as.map V.ref) (sE R)
 |[],[],_,_=>.nil
 |[],_::_,h,_=>h.elim
 |_::_,[],h,_=>h.elim
 |_::_,r::_,⟨⟨xs,e,p⟩,t⟩,ok=>.cons (.lst (bw.of e) (p.dat (Ks (ok r bp)))) (bI.dat t λq hq=>ok q (dA _ hq))
theorem BR:∀{R:VI (VI bG)},(∀r∈R,∀y∈r,PyData.strOk (txt y.1)=true/\∀z,y.2=some z->PyData.strOk (txt z)=true)->PyData.canLayAll0 (sE R)=true/\PyData.depthAll (sE R)<=2
 |[],_=>⟨by simp[sE,PyData.canLayAll0],by simp[sE,PyData.depthAll]⟩
 |r::R,ok=>by
  obtain⟨a,b⟩:=BR (R:=R) λq hq=>ok q (dA _ hq);obtain⟨c,d⟩:=xV (Ks (ok r bp));have e:sE (r::R)=.list (pairD (r.map qc))::sE R:=rfl;rw[e];refine⟨by simp[PyData.canLayAll0,PyData.canLay0,a,c],?_⟩;simp only[PyData.depthAll,PyData.depth];lia
theorem fD{as bs:VF}(p:as.Perm bs)(h1:as.Pairwise (·<·))(h2:bs.Pairwise (·<·)):as=bs:=
 p.eq_of_pairwise (λa b _ _ h g=>absurd (ke h g) (hX a)) h1 h2
theorem Told.one{zs:VG}{X0:VF}(A:Told kvs ks zs ws)(B:Told kvs ks XT X0):zs=XT/\ws=X0:=by
 refine⟨?_,fD (A.tperm.trans B.tperm.symm) A.tup B.tup⟩;refine(A.perm.trans B.perm.symm).eq_of_pairwise (le:=λa b=>a.1<b.1) (λa b _ _ h g=>absurd (ke h g) (hX a.1)) (mB.mp A.up) (mB.mp B.up)
theorem gG.one{XT:VF}(A:gG kvs ks zs)(B:gG kvs ks XT):zs=XT:=by
 refine fD ?_ A.up B.up;have nd:∀{l:VF},l.Pairwise (·<·)->l.Nodup:=λh=>h.imp λg z=>by subst z;exact hX _ g
 exact(my (nd A.up) (nd B.up)).mpr λm=>by rw[A.mem,B.mem]
theorem Ku(a b:VE):a<b\/a=b\/b<a:=by
 by_cases h:a<b
 .exact .inl h
 by_cases g:b<a
 .exact .inr (.inr g)
 .exact .inr (.inl (WH (xt.mp g) (xt.mp h)))
theorem rG:∀l:VF,∃zs:VF,zs.Pairwise (·<·)/\∀m,m∈zs↔m∈l
 |[]=>⟨[],.nil,λm=>Iff.rfl⟩
 |a::l=>by
  obtain⟨zs,up,mem⟩:=rG l;refine⟨zs.filter (λz=>decide (z<a))++a::zs.filter (λz=>decide (a<z)),?_,λm=>?_⟩
  .refine List.pairwise_append.mpr ⟨up.filter _,Hk.mpr ⟨λb hb=>uk (pv.mp hb).2,up.filter _⟩,λx hx y hy=>?_⟩;have h1:x<a:=uk (pv.mp hx).2
   rcases gL.mp hy with rfl|hy
   .exact h1
   .exact ke h1 (uk (pv.mp hy).2)
  .rw[eP,gL,pv,pv,gL,mem,xi,xi]
   rcases Ku m a with h|h|h
   .constructor
    .rintro(z|z|z)
     .exact .inr z.1
     .exact .inl z
     .exact .inr z.1
    .rintro(z|z)
     .exact .inr (.inl z)
     .exact .inl ⟨z,h⟩
   .constructor
    .intro _;exact .inl h
    .intro _;exact .inr (.inl h)
   .constructor
    .rintro(z|z|z)
     .exact .inr z.1
     .exact .inl z
     .exact .inr z.1
    .rintro(z|z)
     .exact .inr (.inl z)
     .exact .inr (.inr ⟨z,h⟩)
theorem bJ{l:VF}(h:l.Pairwise (·<·)):l.Nodup:=h.imp λg z=>by subst z;exact hX _ g
theorem Kv{c:θ}{t:TA}(D:jO L h j)(ht:∀R:VI V->Hp->Prop,R [.int L,.int h,.int j] H->t Y H R)
  (q:∀H' x dx pr pt pk,aG H H'->jR C H' x dx pr pt pk L h j [] []->H' pr=some (.lst [])->H x=none->H dx=none->H pr=none->H pt=none->H pk=none->Q (.ref x) H'):Ep C (qi C c d) [] E0 t Y H Q:=by
 refine ht _ λx dx hx hd ne=>?_;have kp:aG H (upd (upd H dx (.own x)) x (.ins C dx [])):=((aG.refl H).new hd).new (by rw[aH (du ne)];exact hx);have d1:=D.l2;have d2:=D.l26;have d3:=D.hj;have d4:=D.hh;have ok:E5 (L:Int) (h:Int):=⟨by lia,by lia,by lia,by lia⟩;refine⟨x,dx,L,h,j,aq,by rw[aH ne,aq],λ_ _ H' pr pt pk k S hr g1 g2 g3=>⟨rfl,?_⟩,λz=>absurd ok z,λ_ z=>absurd ⟨by lia,by lia⟩ z⟩
 rw[ij,ij,ij] at S;exact q H' x dx pr pt pk (cj kp k λb hb=>by rw[bc.mp hb];exact hx) S hr hx hd (kp.bg g1) (kp.bg g2) (kp.bg g3)
theorem qj{wi:TI}{fs:VE}{tt:TT}{C:TS}{D:Ends}(h:∀c:V->Hp->Prop,(∀x H1,C D (Y.set i (some x)) H1->c x H1)->eG wi fs tt te Y H c):aJ (fq i wi fs tt te) C D Y H:=h _ λ_ _ z=>z
inductive zI (C:θ):VI V->Hp->VK->XK->Prop
 |mk {H:Hp} {Q:VK} {a8:XK} (x dx pr pt pk:θ) (L h j:Nat) (kvs:VG) (ks:VF) (xs:VI V):jR C H x dx pr pt pk L h j kvs ks->H pr=some (.lst xs)->Q (.int xs.length) H->zI C [.ref x] H Q a8
theorem HP(cl:ir K C)(hN:N.length=1)(h:zI C vs H Q E):bH (fG (dJ K) (ai (fP K (ah 0) "renewals") aD)) {nx:=λ_ H'=>Q .non H',rt:=Q} .(3) H:=by
 obtain⟨x,dx,pr,pt,pk,L,h,j,kvs,ks,xs,S,hx,q⟩:=h;unfold L2.start;rw[hN];nofun;exact DJ S cl rfl (cJ (bw.of hx) q)
def au:VG->VE->VE
 |[],_=>[]
 |kv::kvs,m=>if kv.1=m then kv.2 else au kvs m
theorem DO(m:VE):∀kvs:VG,m∈kvs.map (·.1)->ck (gA kvs) (Key.inr (txt m))=some (av (au kvs m))
 |[],h=>by simp at h
 |kv::kvs,h=>by
  show ck ((Key.inr (txt kv.1),av kv.2)::gA kvs) _=_;unfold au
  by_cases e:kv.1=m
  .subst e;rw[dz rfl,df rfl]
  .rw[cO (λz=>e (cC.mp (by injection z))),cq e];exact DO m kvs (by
    rw[lj] at h
    rcases gL.mp h with h|h
    .exact absurd h.symm e
    .exact h)
inductive cV (C:θ):VI V->Hp->VK->XK->Prop
 |mk {H:Hp} {Q:VK} {a8:XK} (x dx pr pt pk:θ) (L h j:Nat) (kvs:VG) (ks:VF):jR C H x dx pr pt pk L h j kvs ks->kvs.length<64->(kvs.map (·.1)).Nodup->(∀H' p (zs:VF),aG H H'->H p=none->gG kvs ks zs->H' p=some (.lst ((zs.map (au kvs)).map av))->Q (.ref p) H')->cV C [.ref x] H Q a8
def rH(K:W.Frag)(C:θ):TS:=bH (eG (cD K (bU C "marks" (dB C) [] E0 (ah 0) aD)) [0] lE (i9 (fP K (ah 1) "thing_of") (ah 0)))
theorem zJ(cl:ir K C)(hN:N.length=1)(h:cV C vs H Q E):rH K C {nx:=λ_ H'=>Q .non H',rt:=Q} .(3) H:=by
 obtain⟨x,dx,pr,pt,pk,L,h,j,kvs,ks,S,Yt,hnd,q⟩:=h;unfold rH L2.start;rw[hN];nofun;refine tT λR0 hR0=>?_;simp? [cD]
 refine bD S (λR r=>r) rfl ⟨x,dx,pr,pt,pk,L,h,j,kvs,ks,S,Yt,hnd,λH1 l zs s1 hl up mem=>⟨l,rfl,⟨_,bw.here⟩,?_⟩⟩;rw[hR0];have Z:gG kvs ks zs:=⟨up,mem⟩;have s2:=s1.new hl (o:=.lst (zs.map av));have S2:=S.same s2;have hZ:(upd H1 l (.lst (zs.map av))) l=some (.lst (zs.map av)):=aq;have zl:zs.length<=10000:=by
  have:=bQ (bJ up) (λm hm=>((mem m).mp hm).1);rw[aw] at this;lia
 generalize upd H1 l _=H2 at s2 S2 hZ ⊢;refine lH (K:=K) (xs:=zs.map av) (Y:=[some (.ref x)]) (fs:=[0]) (tt:=lE) (te:=i9 (fP K (ah 1) "thing_of") (ah 0)) (Q:=Q) (λi ys H'=>H'=H2/\ys=((zs.take i).map (au kvs)).map av) ⟨rfl,rfl⟩ (λi ys H' _ p=>by
  obtain⟨e,e2⟩:=p;rw[e,e2,aw,aw,fg];exact⟨bw.of hZ,Oy _ _⟩) (by rw[aw,dE];lia) ?_ ?_
 .rintro i v ys H' hv ⟨rfl,rfl⟩ W hW;rw[cn] at hv;obtain⟨m,hm,rfl⟩:=eM.mp hv;simp? [av,i9]
  have ZU:=((mem m).mp (dy hm)).1;refine oU S2 cl rfl ⟨pt,rfl,_,by rw[<-DO m kvs ZU];exact g9.k (k:=Key.inr (txt m)) S2.tho,hW _ _ ⟨rfl,?_⟩⟩
  rw[md,hm,fi,fi];rfl
 .rintro ys H' ⟨rfl,rfl⟩ p hp;rw[aw,lL];exact q _ p zs (s2.new hp) (s2.bg hp) Z aq
def lA(zs ks:VF):VI (VE×Bool):=zs.map λm=>(m,!decide (m∈ks))
def fO(fr:VF):Nat->VI (VE×Bool)->VI bG
 |_,[]=>[]
 |g,(m,true)::ks=>(m,some (fr.getD g []))::fO fr (g+1) ks
 |g,(m,false)::ks=>(m,none)::fO fr g ks
theorem vZ(fr:VF):∀(g:Nat) (ks:VI (VE×Bool)),fV fr g ks=(fO fr g ks).map qc
 |_,[]=>rfl
 |g,(m,true)::ks=>by rw[fV,fO,lj,vZ fr (g+1) ks];rfl
 |g,(m,false)::ks=>by rw[fV,fO,lj,vZ fr g ks];rfl
theorem gP(fr:VF):∀(g:Nat) (ks:VI (VE×Bool)),(fO fr g ks).map (·.1)=ks.map (·.1)
 |_,[]=>rfl
 |g,(m,true)::ks=>by rw[fO,lj,lj,gP fr (g+1) ks]
 |g,(m,false)::ks=>by rw[fO,lj,lj,gP fr g ks]
def c8(kvs:VG)(R:VI bG):VG:=R.filterMap λr=>r.2.map λn=>(n,au kvs r.1)
theorem jT(kvs:VG):∀R:VI bG,(c8 kvs R).map (·.1)=R.filterMap (·.2)
 |[]=>rfl
 |(m,none)::R=>by
  have:=jT kvs R;unfold c8 at this ⊢;rw[Sr rfl,Sr rfl];exact this
 |(m,some y)::R=>by
  have:=jT kvs R;unfold c8 at this ⊢;simp only[filterMap_cons,map_some,map_cons,List.cons.injEq,true_and];exact this
theorem oW(fr:VF):∀(g:Nat) (ks:VI (VE×Bool)),g+cZ ks=fr.length->(fO fr g ks).filterMap (·.2)=fr.drop g
 |g,[],h=>by
  rw[fO,List.filterMap_nil,List.drop_eq_nil_of_le];have:cZ []=0:=rfl;lia
 |g,(m,true)::ks,h=>by
  rw[oM,df rfl] at h;rw[fO];simp only[filterMap_cons];rw[oW fr (g+1) ks ⋯];have hg:g<fr.length:=by lia
  rw[wq hg,hE,dk hg];rfl
 |g,(m,false)::ks,h=>by
  rw[oM,cq .(0)] at h;rw[fO,Sr rfl,oW fr g ks ⋯]
structure yf(kvs:VG)(zs:VF):Prop where
 up:zs.Pairwise (·<·)
 perm:zs.Perm (kvs.map (·.1))
def bE(L:Nat)(zs ks:VF)(n:Nat):VI bG:=fO (lQ L (cZ (lA zs ks)) n) 0 (lA zs ks)
theorem cW:∀(kvs:VG) {m:VE},m∈kvs.map (·.1)->(m,au kvs m)∈kvs
 |[],m,h=>by simp at h
 |kv::kvs,m,h=>by
  unfold au
  by_cases e:kv.1=m
  .rw[df e,<-e];exact bp
  .rw[cq e];rw[lj] at h
   rcases gL.mp h with h|h
   .exact absurd h.symm e
   .exact dA _ (cW kvs h)
theorem lR{r:bG}(h:r∈bE L zs ks n):r.1∈zs:=by
 have h1:r.1∈(bE L zs ks n).map (·.1):=km.mpr ⟨r,h,rfl⟩;unfold bE at h1;rw[gP,lA,mv] at h1;obtain⟨m,h2,h3⟩:=km.mp h1;rw[<-h3];exact h2
theorem jU:(bE L zs ks n).filterMap (·.2)=lQ L (cZ (lA zs ks)) n:=by
 unfold bE;rw[oW _ _ _ (by rw[vL,XH]),XB]
theorem eK.small{m:Nat}(hL:2<=L)(R:eK L m n):n<=m:=by
 rcases Nat.eq_zero_or_pos n with z|z
 .omega
 .have h1:=R.less (n-1) ⋯;have h2:2^(n-1)<=L^(n-1):=Wm hL _;have h3:=Nat.lt_two_pow_self (n:=n-1);lia
theorem gC.nV{k b:Nat}(W:gC L kvs ks k b)(hL:2<=L)(A:yf kvs zs)(R:eK L (cZ (lA zs ks)) n):gC L (c8 kvs (bE L zs ks n)) [] k k:=by
 have e:=jT kvs (bE L zs ks n);rw[jU] at e;have zl:zs.length<=k:=by rw[A.perm.length_eq,aw];exact W.few
 have sl:cZ (lA zs ks)<=k:=by
  have:=vM (lA zs ks);rw[lA,aw] at this;rw[lA];lia
 have nl:=R.small hL;refine⟨by rw[e];exact bJ (zo ⋯ R),λkv Yh=>?_,?_,λ_ h=>(nomatch h),TC⟩
 .have h1:kv.1∈(c8 kvs (bE L zs ks n)).map (·.1):=km.mpr ⟨kv,Yh,rfl⟩;rw[e] at h1;obtain⟨m1,m2⟩:=vK ⋯ R kv.1 h1;refine⟨m1,by lia,?_⟩;unfold c8 at Yh;obtain⟨r,hr,e2⟩:=Gc.mp Yh;obtain⟨y,_,e3⟩:=eM.mp e2;rw[<-e3];have:=cW kvs (m:=r.1) (A.perm.mem_iff.mp (lR hr));exact(W.mar _ this).2.2
 .have:=tz List.length e;rw[aw,vL] at this;lia
structure HQ(H:Hp)(pr:θ)(as:VI θ)(R:VI (VI bG)):Prop where
 lst:H pr=some (.lst (as.map V.ref))
 row:bI H as R
 out:¬pr∈as
theorem HQ.same{R:VI (VI bG)}(A:HQ H pr as R)(s:aG H H'):HQ H' pr as R:=⟨s _ _ A.lst,A.row.same s,A.out⟩
theorem bI.keep(k:Keeps F H H')(ht:∀t∈F,∀ys,H t≠some (.tup ys)):∀{as:VI θ} {R:VI (VI bG)},(∀a∈as,a∉F)->bI H as R->bI H' as R
 |[],[],_,_=>trivial
 |[],_::_,_,h=>h.elim
 |_::_,[],_,h=>h.elim
 |a::_,_::_,n,⟨⟨xs,e,p⟩,r⟩=>⟨⟨xs,k _ _ e (n a bp),p.keep λt ys e=>k t _ e λz=>ht t z ys e⟩,bI.keep k ht (λb hb=>n b (dA _ hb)) r⟩
inductive lS (C ch:θ):VI V->Hp->VK->XK->Prop
 |mk {H:Hp} {Q:VK} {E:XK} (x dx pr pt pk:θ) (L h j:Nat) (kvs:VG) (ks:VF) (k b:Nat) (as:VI θ) (R:VI (VI bG)):jR C H x dx pr pt pk L h j kvs ks->jO L h j->gC L kvs ks k b->k<=62->HQ H pr as R->R.length<=1000->(j≠0->E (.ref ch) none H)->(j=0->∀H' zs n XN XS r ys q,yf kvs zs->eK L (cZ (lA zs ks)) n->Keeps [x,pr] H H'->jR C H' x dx pr XN XS L h j (c8 kvs (bE L zs ks n)) []->HQ H' pr (as++[r]) (R++[bE L zs ks n])->
  H' q=some (.lst ys)->fS H' ys ((bE L zs ks n).map qc)->H XN=none->H XS=none->H r=none->H q=none->q≠r->Q (.ref q) H')->lS C ch [.ref x] H Q E
def qk(K:W.Frag)(ch:θ)(m:VE)(E:XK):TS:=
  aJ (dD (bz (aT IP (fP K (ah 0) "own_number") (tC (.int 0)))) (jz (.ref ch) E (ai (tC (.str (txt m))) aD)) (bX))
   (aJ (fq 1 (cD K (fG pS (ai (fP K (ah 0) "thing_of") aD))) [0] lE (iD (ai (ah 0) (ai (aT (yR true) (ah 0) (fP K (ah 1) "taken")) aD))))
   (aJ (bh (aW (Dw K) [] E0 (ai (fP K (ah 0) "letters") (ai (ah 1) aD))) (aF 2))
   (aJ (jx K (ah 0) (fG tY (ai (ko K (cD K (ah 2)) [0] (tB (jf (ah 1))) (iD (ai (ah 1) (ai (i9 (fP K (ah 2) "thing_of") (ah 0)) aD)))) aD)) "thing_of")
   (aJ (jx K (ah 0) fz "taken")
   (aJ (cM (Ao K "list" mz (fP K (ah 0) "renewals") (ai (ah 2) aD)))
   (bH (fG (tR K) (ai (ah 2) aD))))))))
def RV(H:Hp)(zs ks:VF):Nat->VI V->Hp->Prop:=λi ys H'=>aG H H'/\fS H' ys ((lA (zs.take i) ks).map kP)/\ys.length=i
def RW(H:Hp)(kvs:VG)(R:VI bG):Nat->VI V->Hp->Prop:=λi ys H'=>aG H H'/\fS H' ys ((c8 kvs (R.take i)).map E6)/\ys.length<=i
theorem kI:∀(ps qs:VI (Key×V)),((qs++ps).map (·.1)).Nodup->gM qs ps=qs++ps
 |[],qs,_=>by rw[fw];rfl
 |(k,v)::ps,qs,h=>by
  have h1:ck qs k=none:=by
   cases w:ck qs k with
   |none=>rfl
   |some u=>
    exfalso
    have hk:k∈qs.map (·.1):=by
     refine Ww λnk=>?_;have:ck qs k=none:=by
      clear h w
      induction qs with
      |nil=>exact vm
      |cons q qs ih=>
       rw[cO (λz=>nk (by rw[<-z];exact bp))];exact ih λz=>nk (dA _ z)
     rw[this] at w;cases w
    rw[fi,uj] at h;exact h.2.2 k hk k .(4) rfl
  show gM (putK qs k v) ps=_;rw[jJ _ h1,kI ps (qs++[(k,v)]) (by rw[Pt];exact h),Pt];rfl
theorem fS.RX{zs:VG}(p:fS H ys (zs.map E6)):UJ H ys (gA zs):=by
 refine⟨by rw[p.len,gA,aw,aw],λi k v e=>?_⟩;rw[gA,cn] at e;obtain⟨z,e1,e2⟩:=eM.mp e;cases e2;obtain⟨y,hy⟩:=some_at (l:=ys) (i:=i) (by rw[p.len,aw];exact(bo.mp e1).1);obtain⟨q,t,a,rfl,c⟩:=p.get hy;rw[cn,e1] at a;cases a;exact⟨t,hy,c⟩
theorem BS{ch:θ}{mm:VE}(cl:ir K C)(hN:N.length=3)(h:lS C ch vs H Q E):qk K ch mm E {nx:=λ_ H'=>Q .non H',rt:=Q} .(3) H:=by
 obtain⟨x,dx,pr,pt,pk,L,h,j,kvs,ks,k,b,as,R,S,D,W,hk,A,hRl,qx,q⟩:=h;unfold qk L2.start;rw[hN];refine aM λc hc=>?_;nofun;refine Kr S cl rfl ⟨rfl,?_⟩
 by_cases hj:j=0
 case neg=>
  rw[df (λz=>hj (by have:=V.int.inj z;lia))];exact⟨by decide,qx hj⟩
 rw[cq (λz=>z (by rw[hj];rfl))];have q:=q hj;refine hc _ _ ?_;clear hc c;have few:=W.few;refine qj λc hc=>?_;refine tT λR0 hR0=>?_;simp? [cD]
 refine oU S cl rfl ⟨pt,kvs.map λkv=>(kv.1,av kv.2),rfl,by rw[<-Kp];exact S.tho,by rw[aw];lia,λl zs hl Yq hle=>⟨l,rfl,⟨_,bw.here⟩,?_⟩⟩
 rw[hR0];have hkk:(kvs.map λkv=>(kv.1,av kv.2)).map (·.1)=kvs.map (·.1):=by rw[mv];rfl
 rw[hkk] at Yq;have zlt:=fK hle (Yq.nodup_iff.mpr W.nd);have AK:yf kvs zs:=⟨zlt,Yq⟩;have s1:=aG.up H hl (o:=.lst (zs.map av));have hZ:(upd H l (.lst (zs.map av))) l=some (.lst (zs.map av)):=aq;generalize upd H l _=H1 at s1 hZ ⊢;have zl:zs.length<=62:=by rw[Yq.length_eq,aw];lia
 refine lH (K:=K) (xs:=zs.map av) (Y:=[some (.ref x),none,none]) (fs:=[0]) (tt:=lE) (te:=iD (ai (ah 0) (ai (aT (yR true) (ah 0) (fP K (ah 1) "taken")) aD))) (Q:=c) (RV H1 zs ks) ⟨aG.refl _,trivial,rfl⟩ (λi ys H' _ p=>by
  exact⟨bw.of (p.1 _ _ hZ),by rw[p.2.2];exact bb _⟩) (by rw[aw,dE];lia) ?_ ?_
 .rintro i v ys H' hv ⟨s',p',rfl⟩ W' hW;rw[cn] at hv;obtain⟨m,hm,rfl⟩:=eM.mp hv;have S':=(S.same s1).same s';simp? [av]
  refine zB S' cl rfl ⟨pk,_,rfl,g9.k (k:=Key.inr (txt m)) S'.tak,by decide,λt ht=>?_⟩;rw[jD,show (decide (m∈ks) !=true) = !decide (m∈ks) by cases decide (m∈ks)<;>rfl]
  have s2:=aG.up H' ht (o:=.tup [.str (txt m),.bl (!decide (m∈ks))]);refine hW _ _ ⟨s'.trans s2,?_,by rw[de];rfl⟩;have e:(lA (zs.take (ys.length+1)) ks).map kP=(lA (zs.take ys.length) ks).map kP++[(av m,.bl (!decide (m∈ks)))]:=by
   rw[md,hm,lA,fi,fi];rfl
  rw[e];exact(p'.same s2).app ⟨⟨t,rfl,aq⟩,trivial⟩
 rintro ys H2 ⟨s2,p2,Zh⟩ p1 Zj;rw[aw,lL] at p2;refine hc _ _ ?_;clear hc;have s2:=s1.trans s2;have s3:=s2.new Zj (o:=.lst ys);have p3:=p2.same (aG.up H2 Zj (o:=.lst ys));have e3:(upd H2 p1 (.lst ys)) p1=some (.lst ys):=aq;generalize upd H2 p1 _=H3 at s3 p3 e3 ⊢;have S3:=S.same s3;refine aR λc hc=>?_;nofun;refine DI S3 cl rfl ⟨L,p1,lA zs ks,rfl,D.l2,D.l26,by rw[lA,aw];lia,⟨ys,bw.of e3,p3⟩,λH4 r us n IR s4 hr hr4 p4=>hc _ _ ?_⟩
 clear hc c;rw[vZ] at p4;have p4:fS H4 us ((bE L zs ks n).map qc):=p4;have fr:H r=none:=s3.bg hr;have s4:=s3.trans s4;have S4:=S.same s4;have hul:=p4.len;rw[aw] at hul;have rl:(bE L zs ks n).length<=62:=by
  have:=tz List.length (gP (lQ L (cZ (lA zs ks)) n) 0 (lA zs ks));rw[aw,aw,lA,aw] at this;unfold bE;rw[lA,this];lia
 have q:=λH' XN XS ys q'=>q H' zs n XN XS r ys q' AK IR;have olds:∀y∈bE L zs ks n,y.1∈kvs.map (·.1):=λy hy=>Yq.mem_iff.mp (lR hy);have nd':=(W.nV D.l2 AK IR).nd;generalize bE L zs ks n=rw at p4 hul rl q olds nd';simp only[set_cons_zero,set_cons_succ]
 -- ZA new things
 refine aM λc hc=>?_;unfold jx;nofun;refine tU (a:=r) (xs:=us) (λQ h=>h) (bw.of hr4) (RW H4 kvs rw) ⟨aG.refl _,trivial,mi _⟩ (λi ys H' _ p=>⟨bw.of (p.1 _ _ hr4),p.2.2⟩) (by rw[hul,dE];lia) ?_ ?_
 .rintro i v ys H' hv ⟨s',p',hle'⟩;obtain⟨pp,t,e1,rfl,ht⟩:=(p4.same s').get hv;rw[cn] at e1;obtain⟨y,ey,rfl⟩:=eM.mp e1;refine⟨t,av y.1,oV y.2,rfl,fT.of ht,λW' hW=>?_⟩;have S':=S4.same s';have X6:rw.take (i+1)=rw.take i++[y]:=by rw[md,ey];rfl
  have ZU:=olds y (dy ey);obtain⟨o,w⟩:=y;cases w with
  |none=>
   simp? [av,oV]
   refine hW _ _ ⟨s',?_,by lia⟩;rw[X6,c8,IH];simpa [c8] using p'
  |some w=>
   simp? [av,oV,i9]
   refine oU S' cl rfl ⟨pt,rfl,_,by rw[<-DO o kvs ZU];exact g9.k (k:=Key.inr (txt o)) S'.tho,by decide,λt2 YT=>?_⟩;have s2:=aG.up H' YT (o:=.tup [.str (txt w),av (au kvs o)]);refine hW _ _ ⟨s'.trans s2,?_,by rw[de];simp only[length_cons,length_nil];lia⟩;have e:(c8 kvs (rw.take (i+1))).map E6=(c8 kvs (rw.take i)).map E6++[(av w,av (au kvs o))]:=by
    rw[X6,c8,IH,fi];rfl
   rw[e];exact(p'.same s2).app ⟨⟨t2,rfl,aq⟩,trivial⟩
 rintro ys5 H5 ⟨s5,p5,_⟩ l5 hl5;rw[hul,lL] at p5;have Yu:=s4.trans s5;have s6:=Yu.new hl5 (o:=.lst ys5);have p6:=p5.same (aG.up H5 hl5 (o:=.lst ys5));have e6:(upd H5 l5 (.lst ys5)) l5=some (.lst ys5):=aq;have r6:=(aG.up H5 hl5 (o:=.lst ys5)) _ _ (s5 _ _ hr4);have q6:=(p4.same s5).same (aG.up H5 hl5 (o:=.lst ys5));generalize upd H5 l5 _=H6 at s6 p6 e6 r6 q6 ⊢;refine⟨l5,ys5,gA (c8 kvs rw),rfl,e6,p6.RX,λXN wc=>?_⟩;have em:gM [] (gA (c8 kvs rw))=gA (c8 kvs rw):=by
  rw[kI _ _ (by
   rw[Bi,gA,mv];have:=mB.mpr (VP (S:=λa b=>(Key.inr (txt a):Key)≠Key.inr (txt b)) (λn e=>n (cC.mp (by injection e))) nd');rw[mv] at this;exact this)]
  rfl
 rw[em];have S6:=S.same s6;have ft:H XN=none:=s6.bg wc;have nx:x≠XN:=λz=>by subst z;rw[S6.ins] at wc;cases wc
 have ndx:dx≠XN:=λz=>by subst z;rw[S6.own] at wc;cases wc
 have npr:pr≠XN:=λz=>by subst z;rw[s6 _ _ A.lst] at wc;cases wc
 have nr:r≠XN:=λz=>by subst z;rw[r6] at wc;cases wc
 refine⟨C,dx,cL L h j pr pt pk,by rw[aH nx];exact S6.ins,cl.cls,cl.nt,by simp[cL],hc _ _ ?_⟩;clear hc c;have s7:=s6.new wc (o:=.dK (gA (c8 kvs rw)));have k7:Keeps [x,pr] H (upd (upd H6 XN (.dK (gA (c8 kvs rw)))) x (.ins C dx (cQ "thing_of" (.ref XN) (cL L h j pr pt pk)))):=(s7.keeps _).upd (.inl bp);have x7:(upd (upd H6 XN (.dK (gA (c8 kvs rw)))) x (.ins C dx (cQ "thing_of" (.ref XN) (cL L h j pr pt pk)))) x=some (.ins C dx (cL L h j pr XN pk)):=aq;have tt:∀{z:θ} {o:HO},z≠x->H6 z=some o->(upd (upd H6 XN (.dK (gA (c8 kvs rw)))) x (.ins C dx (cQ "thing_of" (.ref XN) (cL L h j pr pt pk)))) z=some o:=λ{z o} n e=>by
  rw[aH n,aH (λw=>by subst w;rw[wc] at e;cases e)];exact e
 have hdx:dx≠x:=λz=>by subst z;have:=S.ins.symm.trans S.own;cases this
 have hpx:pr≠x:=λz=>by subst z;have:=S.ins.symm.trans A.lst;cases this
 have hrx:r≠x:=λz=>by subst z;have:=S6.ins.symm.trans r6;cases this
 have d7:=tt hdx S6.own;have l7:=tt hpx (s6 _ _ A.lst);have r7:=tt hrx r6;have t7:(upd (upd H6 XN (.dK (gA (c8 kvs rw)))) x (.ins C dx (cQ "thing_of" (.ref XN) (cL L h j pr pt pk)))) XN=some (.dK (gA (c8 kvs rw))):=by rw[aH (du nx),aq]
 have q7:fS (upd (upd H6 XN (.dK (gA (c8 kvs rw)))) x (.ins C dx (cQ "thing_of" (.ref XN) (cL L h j pr pt pk)))) us (rw.map qc):=q6.keep λt ys e=>tt (λz=>by subst z;have:=S6.ins.symm.trans e;cases this) e;generalize upd (upd H6 XN _) x _=H7 at k7 x7 d7 l7 r7 t7 q7 ⊢;clear tt
 -- taken
 refine aM λc hc=>?_;unfold jx fz;nofun;refine λXS xm=>⟨C,dx,cL L h j pr XN pk,?_⟩;have nx:x≠XS:=λz=>by subst z;rw[x7] at xm;cases xm
 have nt:XN≠XS:=λz=>by subst z;rw[t7] at xm;cases xm
 have fk:H XS=none:=by
  cases w:H XS with
  |none=>rfl
  |some o=>
   have:=k7 XS o w (λz=>by
    rcases gL.mp z with z|z
    .exact nx z.symm
    .rw[bc.mp z,l7] at xm;cases xm)
   rw[this] at xm;cases xm
 refine⟨by rw[aH nx];exact x7,cl.cls,cl.nk,by simp[cL],hc _ _ ?_⟩;clear hc c;have k8:Keeps [x,pr] H (upd (upd H7 XS (.dK [])) x (.ins C dx (cQ "taken" (.ref XS) (cL L h j pr XN pk)))):=(k7.upd (.inr xm)).upd (.inl bp);have x8:(upd (upd H7 XS (.dK [])) x (.ins C dx (cQ "taken" (.ref XS) (cL L h j pr XN pk)))) x=some (.ins C dx (cL L h j pr XN XS)):=aq;have tt:∀{z:θ} {o:HO},z≠x->H7 z=some o->(upd (upd H7 XS (.dK [])) x (.ins C dx (cQ "taken" (.ref XS) (cL L h j pr XN pk)))) z=some o:=λ{z o} n e=>by
  rw[aH n,aH (λw=>by subst w;rw[xm] at e;cases e)];exact e
 have d8:=tt hdx d7;have l8:=tt hpx l7;have r8:=tt hrx r7;have t8:=tt (λz=>by subst z;have:=x7.symm.trans t7;cases this) t7;have u8:(upd (upd H7 XS (.dK [])) x (.ins C dx (cQ "taken" (.ref XS) (cL L h j pr XN pk)))) XS=some (.dK (cF [])):=by rw[aH (du nx),aq];rfl
 have q8:fS (upd (upd H7 XS (.dK [])) x (.ins C dx (cQ "taken" (.ref XS) (cL L h j pr XN pk)))) us (rw.map qc):=q7.keep λt ys e=>tt (λz=>by subst z;have:=x7.symm.trans e;cases this) e;generalize upd (upd H7 XS _) x _=H8 at k8 x8 d8 l8 r8 t8 u8 q8 ⊢;clear tt;have S8:jR C H8 x dx pr XN XS L h j (c8 kvs rw) []:=⟨x8,d8,t8,u8,nt⟩
 -- ZA renewals
 have al:=A.row.len;refine aM λc hc=>?_;nofun;refine DJ S8 cl rfl ⟨.inl ⟨rfl,_,bw.of l8⟩,xH l8 (by rw[aw];lia) (hc _ _ ?_)⟩;clear hc c;have npx:r≠pr:=λz=>by subst z;rw[A.lst] at fr;cases fr
 have k9:Keeps [x,pr] H (upd H8 pr (.lst (as.map V.ref++[.ref r]))):=k8.upd (.inl (dA _ bp));have nk:∀{z:θ} {o:HO},z≠pr->H8 z=some o->(upd H8 pr (.lst (as.map V.ref++[.ref r]))) z=some o:=λ{z o} n e=>by rw[aH n];exact e
 have S9:jR C (upd H8 pr (.lst (as.map V.ref++[.ref r]))) x dx pr XN XS L h j (c8 kvs rw) []:=⟨nk (du hpx) x8,nk (λz=>by subst z;have:=d8.symm.trans l8;cases this) d8,nk (λz=>by subst z;have:=t8.symm.trans l8;cases this) t8,nk (λz=>by subst z;have:=u8.symm.trans l8;cases this) u8,nt⟩;have l9:(upd H8 pr (.lst (as.map V.ref++[.ref r]))) pr=some (.lst ((as++[r]).map V.ref)):=by rw[aq,fi];rfl
 have r9:=nk npx r8;have q9:fS (upd H8 pr (.lst (as.map V.ref++[.ref r]))) us (rw.map qc):=q8.keep λt ys e=>nk (λz=>by subst z;have:=l8.symm.trans e;cases this) e;generalize upd H8 pr _=H9 at k9 S9 l9 r9 q9 ⊢;have RY:bI H9 as R:=A.row.keep k9 (λt ht ys e=>by
  rcases gL.mp ht with z|z
  .rw[z,S.ins] at e;cases e
  .rw[bc.mp z,A.lst] at e;cases e) λa ha z=>by
  rcases gL.mp z with z|z
  .obtain⟨i,hi⟩:=sv ha;obtain⟨_,_,_,w,_⟩:=A.row.get hi;rw[z,S.ins] at w;cases w
  .exact A.out (by rw[<-bc.mp z];exact ha)
 nofun;refine⟨r,us,rfl,.inl (bw.of r9),λo ho=>?_⟩;have s10:=aG.up H9 ho (o:=.lst us);have no:o≠r:=λz=>by subst z;rw[r9] at ho;cases ho
 have fo:H o=none:=by
  cases w:H o with
  |none=>rfl
  |some u=>
   have:=k9 o u w (λz=>by
    rcases gL.mp z with z|z
    .rw[z,S9.ins] at ho;cases ho
    .rw[bc.mp z,l9] at ho;cases ho)
   rw[this] at ho;cases ho
 refine q _ XN XS us o (k9.upd (.inr ho)) (S9.same s10) ⟨s10 _ _ l9,(RY.app (show bI H9 [r] [rw] from⟨⟨us,r9,q9⟩,trivial⟩)).same s10,λz=>?_⟩ aq (q9.same s10) ft fk fr fo no
 rcases eP.mp z with z|z
 .exact A.out z
 .exact npx (bc.mp z).symm
theorem Kw:∀{kvs:VG},(kvs.map (·.1)).Nodup->(kvs.map (·.1)).map (λm=>(m,au kvs m))=kvs
 |[],_=>rfl
 |kv::kvs,h=>by
  rw[lj,Ws] at h;have ih:=Kw h.2;rw[lj,lj];have e1:au (kv::kvs) kv.1=kv.2:=by unfold au;rw[df rfl]
  rw[e1];have e2:∀m∈kvs.map (·.1),au (kv::kvs) m=au kvs m:=λm hm=>by
   show (if kv.1=m then kv.2 else au kvs m)=_;rw[cq (λz=>h.1 (by rw[z];exact hm))]
  rw[ot (g:=λm=>(m,au kvs m)) (λm hm=>by rw[e2 m hm]),ih]
theorem Ny(t:VE)(hm:¬m∈kvs.map (·.1)):putK (gA kvs) (Key.inr (txt m)) (av t)=gA (kvs++[(m,t)]):=by
 rw[jJ _ (zE m kvs hm)];unfold gA;rw[fi];rfl
theorem Nz(hm:¬m∈ks):putK (cF ks) (Key.inr (txt m)) (.bl true)=cF (ks++[m]):=by
 rw[jJ _ (by
  have:=jD m ks;rw[eQ hm] at this;cases w:ck (cF ks) (Key.inr (txt m)) with
  |none=>rfl
  |some v=>rw[w] at this;cases this)]
 unfold cF;rw[fi];rfl
def num(n:Nat):VE:=(toString (n:Int):Str).cps.toList
theorem E7(n:Nat):txt (num n)=(toString (n:Int):Str):=txt_codes _
def UN:VE:=[48,49,50,51,52,53,54,55,56,57]
def isNum(l:VE):Bool:=!decide (l=[])&&decide (l.length<=4)&&(if l.head?=some 48 then decide (l=[48]) else l.all λc=>decide (c∈UN))
theorem PZ:∀n,n<64->(num n).contains 32=false/\isNum (num n)=true/\(num n).length<=4:=by decide+kernel
theorem E8(h:n<64):PySem.intText? (txt (num n))=some (n:Int):=JX ⋯ ⋯ (E7 n)
theorem zK{tl:TE}{g:TG}{D:Ends}(h:tl Y H λx H1=>g7 (cD K (tC x)) g tb D Y H1):g7 (cD K tl) g tb D Y H:=h
def bM(L:Nat):VI (VI bG)->VE->VH->Prop
 |[],m,v=>v=some m
 |r::R,m,v=>(∃x,kZ L r m (some x)/\bM L R x v)\/(kZ L r m none/\v=none)
theorem bM.one(hL:2<=L):∀{R:VI (VI bG)} {m:VE} {v v':VH},(∀r∈R,aZ L r)->bM L R m v->bM L R m v'->v=v'
 |[],_,_,_,_,a,b=>a.trans b.symm
 |r::R,m,v,v',O,a,b=>by
  have O1:=O r bp
  rcases a with⟨x,a1,a2⟩|⟨a1,rfl⟩<;>rcases b with⟨y,b1,b2⟩|⟨b1,rfl⟩
  .have e:=kZ.one O1 hL a1 b1;injection e with e
   subst e;exact bM.one hL (λr h=>O r (dA _ h)) a2 b2
  .cases kZ.one O1 hL a1 b1
  .cases kZ.one O1 hL a1 b1
  .rfl
theorem bM.snoc:∀{R:VI (VI bG)} {r:VI bG} {m x:VE} {v:VH},bM L R m (some x)->kZ L r x v->bM L (R++[r]) m v
 |[],r,m,x,v,a,b=>by
  have e:some x=some m:=a;injection e with e
  subst e;cases v with
  |none=>exact .inr ⟨b,rfl⟩
  |some y=>exact .inl ⟨y,b,rfl⟩
 |q::R,r,m,x,v,a,b=>by
  rcases a with⟨y,a1,a2⟩|⟨a1,a2⟩
  .exact .inl ⟨y,a1,a2.snoc b⟩
  .cases a2
theorem bM.gone:∀{R S:VI (VI bG)} {m:VE},bM L R m none->bM L (R++S) m none
 |[],_,_,a=>by cases a
 |q::R,S,m,a=>by
  rcases a with⟨y,a1,a2⟩|⟨a1,_⟩
  .exact .inl ⟨y,a1,a2.gone⟩
  .exact .inr ⟨a1,rfl⟩
theorem bM.len(hL:2<=L):∀{R:VI (VI bG)} {m x:VE},(∀r∈R,aZ L r)->Mark L m->bM L R m (some x)->Mark L x/\x.length<=501*R.length+m.length
 |[],m,x,_,M,a=>by
  have e:some x=some m:=a;injection e with e
  subst e;exact⟨M,by lia⟩
 |r::R,m,x,O,M,a=>by
  rcases a with⟨z,a1,a2⟩|⟨a1,a2⟩
  .obtain⟨M1,l1⟩:=kZ.len (O r bp) hL M a1;obtain⟨M2,l2⟩:=bM.len hL (λr h=>O r (dA _ h)) M1 a2;exact⟨M2,by rw[kS];lia⟩
  .cases a2
structure yb(S zs:VG):Prop where
 up:(zs.map (·.1)).Pairwise (·<·)
 mem:∀z∈zs,z∈S
 all:∀q∈S,∃z∈zs,z.1=q.1/\¬q.2<z.2
theorem up_eq{zs:VG}(h:(zs.map (·.1)).Pairwise (·<·))(h':(XT.map (·.1)).Pairwise (·<·))(e:∀z,z∈zs↔z∈XT):zs=XT:=by
 have nd:∀{l:VG},(l.map (·.1)).Pairwise (·<·)->l.Nodup:=λh=>(mB.mp h).imp λg z=>by subst z;exact hX _ g
 exact((my (nd h) (nd h')).mpr e).eq_of_pairwise (le:=λa b=>a.1<b.1) (λa b _ _ h g=>absurd (ke h g) (hX a.1)) (mB.mp h) (mB.mp h')
inductive ql (K:W.Frag):VI V->Hp->VK->XK->Prop
 |mk {H:Hp} {Q:VK} {a8:XK} (L:Nat) (p d:θ) (cs:VI θ) (R:VI (VI bG)) (m:VE) (kvs:VI (VI Key×V)):2<=L->L<=26->H p=some (.lst (cs.map V.ref))->bI H cs R->(∀r∈R,aZ L r)->R.length<=100->Mark L m->m.length<=30000->H d=some (.dT kvs)->gO L kvs->kvs.length<=90000->(∀H' v XQ,Keeps [d] H H'->H' d=some (.dT XQ)->gO L XQ->XQ.length<=kvs.length+R.length->bM L R m v->Q (oV v) H')->ql K [.int L,.ref p,.str (txt m),.ref d] H Q a8
def we(K:W.Frag):TS:=
  aJ (bh (ah 2) (aF 4))
   (aJ (g7 (cD K (ah 1)) (aF 5) (aJ (dD (tB (wZ (ah 4))) (bH (tC .non)) (bX))
   (bh (aW (zA K) [] E0 (ai (ah 0) (ai (ah 5) (ai (ah 4) (ai (ah 3) aD))))) (aF 4))))
   (bH (ah 4)))
theorem bI.sG(k:Keeps F H H'):∀{as:VI θ} {R:VI (VI bG)},bI H as R->(∀f∈F,(∀xs,H f≠some (.lst xs))/\∀xs,H f≠some (.tup xs))->bI H' as R
 |[],[],_,_=>trivial
 |[],_::_,h,_=>h.elim
 |_::_,[],h,_=>h.elim
 |_::_,_::_,⟨⟨xs,e,p⟩,r⟩,n=>⟨⟨xs,k _ _ e λz=>(n _ z).1 _ e,p.keep λt ys et=>k _ _ et λz=>(n _ z).2 _ et⟩,bI.sG k r n⟩
def RZ(p d:θ)(H:Hp)(L:Nat)(m:VE)(R:VI (VI bG))(kvs:VI (VI Key×V)):Nat->St->Hp->Prop:=λi Y H'=>∃(v:VH) (XQ:VI (VI Key×V)) (v5:ο V),Keeps [d] H H'/\H' d=some (.dT XQ)/\gO L XQ/\XQ.length<=kvs.length+i/\bM L (R.take i) m v/\Y=[some (.int L),some (.ref p),some (.str (txt m)),some (.ref d),some (oV v),v5]
theorem BU(hN:N.length=6)(h:ql K vs H Q E):we K {nx:=λ_ H'=>Q .non H',rt:=Q} .(3) H:=by
 obtain⟨L,p,d,cs,R,m,kvs,hL,cP,hp,hR,O,few,M,hm,hd,Ya,Yh,q⟩:=h;have cl:=hR.len;unfold we L2.start;rw[hN];refine aR λc hc=>?_;nofun;refine hc _ _ ?_;clear hc c;refine aM λc hc=>?_;simp? [WV,WW,replicate_succ,replicate_zero,lj,XA,wt,Bi]
 have nd:p≠d:=λz=>by subst z;rw[hp] at hd;cases hd
 have nf:∀f∈[d],(∀xs,H f≠some (.lst xs))/\∀xs,H f≠some (.tup xs):=λf hf=>by
  rw[bc.mp hf,hd];exact⟨λ_ z=>(nomatch z),λ_ z=>(nomatch z)⟩
 refine rZ (a:=p) (xs:=cs.map V.ref) (λQ h=>h) (bw.of hp) (RZ p d H L m R kvs)
  ⟨some m,kvs,none,λ_ _ e _=>e,hd,Ya,bb _,rfl,rfl⟩ (λi Y H' _ h=>?_) ?_ ?_
 .obtain⟨_,_,_,k,_⟩:=h;exact bw.of (k _ _ hp (by simpa using nd))
 .rintro i x Y H' hx ⟨v,XQ,v5,k,Yv,X8,kl,ZV,rfl⟩;rw[cn] at hx;obtain⟨b,hb,rfl⟩:=eM.mp hx;have hR':=hR.sG k nf;obtain⟨r,xs,er,hx,px⟩:=hR'.get hb;have hi:i<R.length:=(bo.mp er).1;have X6:R.take (i+1)=R.take i++[r]:=by rw[md,er];rfl
  cases v with
  |none=>
   simp? [oV]
   refine q H' none XQ k Yv X8 ⋯ ?_;rw[<-yn i R];exact ZV.gone
  |some y=>
   have Oi:∀r∈R.take i,aZ L r:=λr h=>O r (List.take_subset _ _ h);obtain⟨My,ly⟩:=ZV.len hL Oi M;rw[fg] at ly;refine aM λc1 XX=>?_;simp? [oV]
   refine XX _ _ ?_;nofun;refine⟨L,b,d,r,y,XQ,hL,cP,⟨xs,bw.of hx,px⟩,O r (dy er),My,by lia,Yv,X8,by lia,λH2 v2 HS k2 hd2 Yw kl2 c2=>?_⟩
   exact⟨v2,HS,_,Keeps.trans k k2,hd2,Yw,by lia,by rw[X6];exact ZV.snoc c2,rfl⟩
 .rintro Y H' ⟨v,XQ,v5,k,Yv,X8,kl,ZV,rfl⟩;refine hc _ _ ?_;rw[aw,cl] at kl ZV;rw[lL] at ZV;nofun;exact q H' v XQ k Yv X8 kl ZV
theorem bI.take:∀{as:VI θ} {R:VI (VI bG)} (n:Nat),bI H as R->bI H (as.take n) (R.take n)
 |[],[],n,_=>by simp[bI]
 |[],_::_,_,h=>h.elim
 |_::_,[],_,h=>h.elim
 |_::_,_::_,0,_=>trivial
 |_::_,_::_,n+1,⟨a,r⟩=>⟨a,bI.take n r⟩
theorem bI.drop:∀{as:VI θ} {R:VI (VI bG)} (n:Nat),bI H as R->bI H (as.drop n) (R.drop n)
 |[],[],n,_=>by simp[bI]
 |[],_::_,_,h=>h.elim
 |_::_,[],_,h=>h.elim
 |_::_,_::_,0,h=>h
 |_::_,_::_,n+1,⟨_,r⟩=>bI.drop n r
theorem aZ.str(hL:L<=26){R:VI (VI bG)}(O:∀r∈R,aZ L r):∀r∈R,∀y∈r,PyData.strOk (txt y.1)=true/\∀z,y.2=some z->PyData.strOk (txt z)=true:=λr hr y hy=>
 ⟨kH hL ((O r hr).olds y hy).1.ls,λz hz=>kH hL ((O r hr).marks y hy z hz).1.ls⟩
inductive zL (K:W.Frag):VI V->Hp->VK->XK->Prop
 |mk {H:Hp} {Q:VK} {a8:XK} (p q p1 p2 p3 q1 q2 q3:θ) (bs cs:VI θ) (ts us:VI V) (L h n:Nat) (R:VI (VI bG)) (zs XT:VG) (ws X0:VF):ya H p p1 p2 p3 bs ts L h (R.take n) zs ws->ya H q q1 q2 q3 cs us L h R XT X0->n<=R.length->R.length<=100->L<=26->(∀r∈R,aZ L r)->(∀H',aG H H'->Q .non H')->zL K [.ref p,.ref q] H Q a8
def DP(K:W.Frag):TS:=
  aJ (bh (L7 (AI K) (aT (cH K) (ah 1) (tC (.int 2))) gR (nN (fG (dJ K) (ai (aT (cH K) (ah 0) (tC (.int 2))) aD)))) (aF 2))
   (dD (An (bz (aT IP (aT (cH K) (ah 0) (tC (.int 0))) (aT (cH K) (ah 1) (tC (.int 0))))) (An (bz (aT IP (aT (cH K) (ah 0) (tC (.int 1))) (aT (cH K) (ah 1) (tC (.int 1))))) (bz (aT (RC K) (aT (cH K) (ah 0) (tC (.int 2))) (ah 2))))) (yi) (bX))
theorem lT{R:VI (VI bG)}(ok:∀r∈R,∀y∈r,PyData.strOk (txt y.1)=true/\∀z,y.2=some z->PyData.strOk (txt z)=true):SeqAt.shaped (.list (sE R))=true:=by
 obtain⟨a,b⟩:=BR ok;unfold SeqAt.shaped;rw[and_eq_true];refine⟨by simp[PyData.canLay0,a],?_⟩;rw[xi];simp only[PyData.depth];lia
theorem HU(hN:N.length=3)(h:zL K vs H Q E):DP K {nx:=λ_ H'=>Q .non H',rt:=Q} .(3) H:=by
 obtain⟨p,q,p1,p2,p3,q1,q2,q3,bs,cs,ts,us,L,h,n,R,zs,XT,ws,X0,A,B,hn,few,cP,O,k⟩:=h;have bl:=A.row.len;have cl:=B.row.len;rw[fg,oe hn] at bl;unfold DP L2.start;rw[hN];refine aR λc hc=>?_;nofun;refine bB (v:=.ref q1) (fT.of B.top) .(0) rfl (bB (v:=.ref p1) (fT.of A.top) .(0) rfl (cJ (bw.of A.ren) ?_));rw[aw,bl];refine⟨_,rfl,rC (bw.of B.ren) λs hs=>hc _ _ ?_⟩;clear hc c;rw[zz (by rw[aw];lia),<-map_take];have s1:=aG.up H hs (o:=.lst ((cs.take n).map V.ref));have e1:(upd H s (.lst ((cs.take n).map V.ref))) s=some (.lst ((cs.take n).map V.ref)):=aq;generalize upd H s _=H1 at s1 e1 ⊢;have A1:=A.same s1;have B1:=B.same s1;have ok:=aZ.str cP (R:=R.take n) λr hr=>O r (List.take_subset _ _ hr);simp? [WV,WW,replicate_succ,replicate_zero,lj,XA,wt,Bi]
 refine bB (v:=.int L) (fT.of A1.top) .(0) rfl (bB (v:=.int L) (fT.of B1.top) .(0) rfl ⟨rfl,?_⟩);rw[cq (λz=>z rfl)];refine bB (v:=.int h) (fT.of A1.top) .(0) rfl (bB (v:=.int h) (fT.of B1.top) .(0) rfl ⟨rfl,?_⟩);rw[cq (λz=>z rfl)];refine bB (v:=.ref p1) (fT.of A1.top) .(0) rfl ⟨_,_,.lst (bw.of A1.ren) (A1.row.dat ok),.lst (bw.of e1) ((B1.row.take n).dat ok),lT ok,lT ok,bK ?_⟩;rw[SeqAt.eqv_refl _ (SeqAt.canLay_of_shaped (lT ok))];rw[cq .(0)];exact k H1 s1
structure kJ(S kvs:VG):Prop where
 nd:(kvs.map (·.1)).Nodup
 mem:∀z∈kvs,z∈S
 all:∀q∈S,∃z∈kvs,z.1=q.1/\¬q.2<z.2
 len:kvs.length<=S.length
theorem DQ(h:(kvs.map (·.1)).Nodup){a b:VE×VE}(ha:a∈kvs)(hb:b∈kvs)(e:a.1=b.1):a=b:=by
 obtain⟨i,hi,rfl⟩:=xn.mp ha;obtain⟨j,hj,rfl⟩:=xn.mp hb;have k:=ma.mp (mB.mp h)
 rcases HI i j with z|z|z
 .exact absurd e (k i j hi hj z)
 .subst z;rfl
 .exact absurd e.symm (k j i hj hi z)
def DR(kvs:VG)(m t:VE):VG:=kvs.map λkv=>if kv.1=m then(kv.1,t) else kv
theorem HV(kvs:VG)(m t:VE):(DR kvs m t).map (·.1)=kvs.map (·.1):=by
 unfold DR;rw[mv];refine ot λkv _=>?_;show (if kv.1=m then(kv.1,t) else kv).1=kv.1;split<;>rfl
theorem wg:∀{kvs:VG},m∈kvs.map (·.1)->∃t,(m,t)∈kvs/\ck (gA kvs) (Key.inr (txt m))=some (av t)
 |[],h=>(nomatch h)
 |k::kvs,h=>by
  show ∃t,_/\ck ((Key.inr (txt k.1),av k.2)::gA kvs) _=_
  by_cases e:k.1=m
  .exact⟨k.2,by rw[<-e];exact bp,dz (by rw[e])⟩
  .have h2:m∈kvs.map (·.1):=by
    rcases gL.mp h with z|z
    .exact absurd z.symm e
    .exact z
   obtain⟨t,a,b⟩:=wg h2;exact⟨t,dA _ a,by rw[cO (λz=>e (cC.mp (by injection z)))];exact b⟩
theorem NB(t:VE)(h:m∈kvs.map (·.1)):putK (gA kvs) (Key.inr (txt m)) (av t)=gA (DR kvs m t):=by
 obtain⟨t0,_,e⟩:=wg h;unfold putK;rw[i8,e];rw[df (show (some (av t0)).isSome=true from rfl)];unfold gA DR;rw[mv,mv];refine ot λkv _=>?_;show (if Key.inr (txt kv.1)=Key.inr (txt m) then(Key.inr (txt kv.1),av t) else(Key.inr (txt kv.1),av kv.2))=_
 by_cases z:kv.1=m
 .rw[df (by rw[z])];show _=(Key.inr (txt (if kv.1=m then(kv.1,t) else kv).1),av (if kv.1=m then(kv.1,t) else kv).2);rw[df z]
 .rw[cq (λy=>z (cC.mp (by injection y)))];show _=(Key.inr (txt (if kv.1=m then(kv.1,t) else kv).1),av (if kv.1=m then(kv.1,t) else kv).2);rw[cq z]
theorem kJ.nil:kJ [] []:=⟨TC,λ_ h=>(nomatch h),λ_ h=>(nomatch h),bb _⟩
theorem kJ.put(A:kJ S kvs)(m t:VE):
  ∃u XQ,(ck (gA kvs) (Key.inr (txt m))).getD (av t)=av u/\putK (gA kvs) (Key.inr (txt m)) (av (if u<t then u else t))=gA XQ/\kJ (S++[(m,t)]) XQ:=by
 by_cases h:m∈kvs.map (·.1)
 .obtain⟨t0,hm,e⟩:=wg h;refine⟨t0,DR kvs m (if t0<t then t0 else t),by rw[e];rfl,NB _ h,?_⟩;generalize ew:(if t0<t then t0 else t)=w;have hw:(w=t0\/w=t)/\¬t<w/\∀q:VE,¬q<t0->¬q<w:=by
   by_cases z:t0<t
   .rw[df z] at ew;subst ew;exact⟨.inl rfl,λy=>hX _ (ke z y),λq h=>h⟩
   .rw[cq z] at ew;subst ew;exact⟨.inr rfl,hX _,λq h y=>h (vP y z)⟩
  refine⟨by rw[HV];exact A.nd,λz hz=>?_,λq hq=>?_,by unfold DR;rw[aw,de];have:=A.len;lia⟩
  .obtain⟨kv,Yh,rfl⟩:=km.mp hz
   by_cases y:kv.1=m
   .rw[df y,y]
    rcases hw.1 with x|x
    .rw[x];exact hU _ (A.mem _ hm)
    .rw[x];exact dC _ .(4)
   .rw[cq y];exact hU _ (A.mem _ Yh)
  .have inm:(m,w)∈DR kvs m w:=km.mpr ⟨(m,t0),hm,by rw[df rfl]⟩
   rcases eP.mp hq with hq|hq
   .obtain⟨z,hz,e1,n1⟩:=A.all q hq
    by_cases y:z.1=m
    .have:z=(m,t0):=DQ A.nd hz hm y;subst this;exact⟨_,inm,e1,hw.2.2 _ n1⟩
    .exact⟨z,km.mpr ⟨z,hz,by rw[cq y]⟩,e1,n1⟩
   .rw[bc.mp hq];exact⟨_,inm,rfl,hw.2.1⟩
 .refine⟨t,kvs++[(m,t)],by rw[zE m kvs h];rfl,by rw[cq (hX _)];exact Ny t h,?_⟩;refine⟨?_,λz hz=>?_,λq hq=>?_,by rw[de,de];have:=A.len;simp;lia⟩
  .rw[fi,uj];exact⟨A.nd,by simp,λa ha b hb z=>by
    subst z;have:a=m:=by simpa using hb
    rw[this] at ha;exact h ha⟩
  .rcases eP.mp hz with hz|hz
   .exact hU _ (A.mem z hz)
   .exact dC _ hz
  .rcases eP.mp hq with hq|hq
   .obtain⟨z,hz,e1,n1⟩:=A.all q hq;exact⟨z,hU _ hz,e1,n1⟩
   .rw[bc.mp hq];exact⟨(m,t),dC _ .(4),rfl,hX _⟩
theorem kJ.min{zs:VG}(A:kJ S kvs)(p:zs.Perm kvs)(up:(zs.map (·.1)).Pairwise (·<·)):yb S zs:=
 ⟨up,λz hz=>A.mem z (p.mem_iff.mp hz),λq hq=>by obtain⟨z,hz,e⟩:=A.all q hq;exact⟨z,p.mem_iff.mpr hz,e⟩⟩
inductive ju (K:W.Frag):VI V->Hp->VK->XK->Prop
 |mk {H:Hp} {Q:VK} {a8:XK} (a b:θ) (xs ys:VI V) (S1 S2:VG):H a=some (.lst xs)->fS H xs (S1.map E6)->H b=some (.lst ys)->fS H ys (S2.map E6)->S1.length+S2.length<64->(∀H' o ts zs,aG H H'->H o=none->H' o=some (.lst ts)->fS H' ts (zs.map E6)->yb (S1++S2) zs->Q (.ref o) H')->ju K [.ref a,.ref b] H Q a8
def lV(K:W.Frag):TS:=
  aJ (bh fz (aF 2))
   (aJ (g7 (cD K (aT CB (ah 0) (ah 1))) (uM K 2 (iA (aF 3) (iA (aF 4) uK))) (fU (ah 2) (ah 3) (fG Js (ai (ah 4) (ai (oK (ah 2) (ah 3) (ah 4)) aD)))))
   (bH (fG vD (ai (GN K "dict" C8 (ah 2)) aD))))
def R3(a b d:θ)(H:Hp)(S:VG):Nat->St->Hp->Prop:=λi Y H'=>∃(kvs:VG) (v3 v4:ο V),Keeps [d] H H'/\H' d=some (.dK (gA kvs))/\kJ (S.take i) kvs/\Y=[some (.ref a),some (.ref b),some (.ref d),v3,v4]
theorem wj(hN:N.length=5)(h:ju K vs H Q E):lV K {nx:=λ_ H'=>Q .non H',rt:=Q} .(3) H:=by
 obtain⟨a,b,xs,ys,S1,S2,ha,pa,hb,pb,Yt,q⟩:=h;have xl:=pa.len;have yl:=pb.len;rw[aw] at xl yl;unfold lV L2.start;rw[hN];refine aR λc hc=>?_;simp? [fz]
 refine λd hd=>hc _ _ ?_;clear hc c;have s1:=aG.up H hd (o:=.dK []);have ed:(upd H d (.dK [])) d=some (.dK (gA [])):=aq;generalize upd H d _=H1 at s1 ed ⊢;and_intros;refine aM λc hc=>?_;refine zK ?_;nofun;refine⟨a,b,xs,ys,rfl,rfl,s1 _ _ ha,s1 _ _ hb,by rw[dE];lia,λl hl=>?_⟩;have nd:l≠d:=λz=>by subst z;rw[ed] at hl;cases hl
 have s2:=aG.up H1 hl (o:=.lst (xs++ys));have el:(upd H1 l (.lst (xs++ys))) l=some (.lst (xs++ys)):=aq;generalize upd H1 l _=H2 at s2 el ⊢;have Zg:=s1.trans s2;have ps:fS H2 (xs++ys) ((S1++S2).map E6):=by rw[fi];exact(pa.same Zg).app (pb.same Zg)
 refine rZ (a:=l) (xs:=xs++ys) (λQ h=>h) (bw.of el) (R3 a b d H2 (S1++S2)) ⟨[],none,none,λ_ _ e _=>e,s2 _ _ ed,kJ.nil,rfl⟩ (λi Y H' _ h=>?_) ?_ ?_
 .obtain⟨_,_,_,k,_⟩:=h;exact bw.of (k _ _ el (by simpa using nd))
 .rintro i x Y H' hx ⟨kvs,v3,v4,k,Yv,A,rfl⟩;obtain⟨kv,t,ek,rfl,ht⟩:=ps.get hx;rw[cn] at ek;obtain⟨⟨m,th⟩,ZI,rfl⟩:=eM.mp ek;have X6:(S1++S2).take (i+1)=(S1++S2).take i++[(m,th)]:=by rw[md,ZI];rfl
  have ht':=k _ _ ht (λz=>by rw[bc.mp z,s2 _ _ ed] at ht;cases ht);obtain⟨u,XQ,e1,e2,A'⟩:=A.put m th;have kl:=A.len;rw[fg] at kl;simp? [uM,iA,uK,E6,fU,oK]
  refine⟨[av m,av th],fT.of ht',rfl,av m,[av th],rfl,av th,[],rfl,rfl,?_⟩;refine⟨.inl ⟨_,.inl Yv⟩,_,g9.k (k:=.inr (txt m)) Yv,?_⟩;rw[e1];refine⟨th,u,rfl,_,oH.k (k:=.inr (txt m)) Yv (by unfold gA;rw[aw,dE];rw[de] at kl;lia),XQ,_,_,k.upd (.inl bp),?_,by rw[X6];exact A',rfl⟩;rw[aq,<-e2];rfl
 .rintro Y H' ⟨kvs,v3,v4,k,Yv,A,rfl⟩;refine hc _ _ ?_;clear hc c;rw[de,xl,yl,<-de,lL] at A;have kl:=A.len;rw[de] at kl;have sH:=cj Zg k λb hb=>by rw[bc.mp hb];exact hd
  nofun;refine⟨.inr (.inr (.inl ⟨rfl,.inl ⟨_,Yv⟩⟩)),d,_,rfl,rfl,Yv,λv hv=>?_⟩;have s3:=sH.new hv (o:=lM v d);have eV:(upd H' v (lM v d)) v=some (lM v d):=aq;have nv:d≠v:=λz=>by subst z;rw[Yv] at hv;cases hv
  have ed3:(upd H' v (lM v d)) d=some (.dK (gA kvs)):=by rw[aH nv];exact Yv
  generalize upd H' v _=H3 at s3 eV ed3 ⊢;refine⟨v,d,kvs,rfl,eV,ed3,by lia,A.nd,λH4 l ys zs s4 hl0 hl4 hp hup hlen hat=>?_⟩;exact q H4 l ys zs (s3.trans s4) (s3.bg hl0) hl4 (DN hlen λi kv e=>by obtain⟨t,a,b,_⟩:=hat i kv e;exact⟨t,a,b⟩) (A.min hp hup)
inductive kL (K:W.Frag):VI V->Hp->VK->XK->Prop
 |mk {H:Hp} {Q:VK} {a8:XK} (p p1 p2 p3 pr:θ) (bs cs:VI θ) (ts:VI V) (L h:Nat) (R0 R:VI (VI bG)) (zs:VG) (ws:VF):ya H p p1 p2 p3 bs ts L h R0 zs ws->H pr=some (.lst (cs.map V.ref))->bI H cs R->(∀r∈R,aZ L r)->R.length<=100->2<=L->L<=26->(∀m∈zs.map (·.1)++ws,Mark L m/\m.length<=30000)->zs.length+ws.length<64->(∀H' d kvs,aG H H'->H d=none->H' d=some (.dK kvs)->(∀m∈zs.map (·.1)++ws,∃v,ck kvs (Key.inr (txt m))=some (oV v)/\bM L R m v)->Q (.ref d) H')->kL K [.ref p,.ref pr] H Q a8
def oX(K:W.Frag):TS:=
  aJ (bh oJ (aF 2))
   (aJ (bh fz (aF 3))
   (aJ (bh (aT CB (ko K (cD K (aT (cH K) (ah 0) (tC (.int 3)))) [] lE (ah 0)) (aT (cH K) (ah 0) (tC (.int 4)))) (aF 4))
   (aJ (g7 (cD K (fG (gz K) (ai (ah 4) aD))) (aF 5) (fU (ah 3) (ah 5) (aW (ql K) [] E0 (ai (aT (cH K) (ah 0) (tC (.int 0))) (ai (ah 1) (ai (ah 5) (ai (ah 2) aD)))))))
   (bH (ah 3)))))
def R4(p pr d1 d2 pm:θ)(H:Hp)(L:Nat)(R:VI (VI bG))(ms:VF):Nat->St->Hp->Prop:=λi Y H'=>∃(kv1:VI (VI Key×V)) (kv2:VI (Key×V)) (v5:ο V),Keeps [d1,d2] H H'/\H' d1=some (.dT kv1)/\gO L kv1/\kv1.length<=i*100/\H' d2=some (.dK kv2)/\kv2.length<=i/\(∀m∈ms.take i,∃v,ck kv2 (Key.inr (txt m))=some (oV v)/\bM L R m v)/\Y=[some (.ref p),some (.ref pr),some (.ref d1),some (.ref d2),some (.ref pm),v5]
theorem xo(hN:N.length=6)(h:kL K vs H Q E):oX K {nx:=λ_ H'=>Q .non H',rt:=Q} .(3) H:=by
 obtain⟨p,p1,p2,p3,pr,bs,cs,ts,L,h,R0,R,zs,ws,A,hp,hR,O,few,hL,cP,hM,Yt,q⟩:=h;have tl:=A.prs.len;rw[aw] at tl;unfold oX L2.start;rw[hN];refine aR λc hc=>?_;simp? [oJ]
 refine λd1 ZF=>hc _ _ ?_;clear hc c;have s1:=aG.up H ZF (o:=.dT []);have e1:(upd H d1 (.dT [])) d1=some (.dT []):=aq;generalize upd H d1 _=H1 at s1 e1 ⊢;and_intros;refine aR λc hc=>?_;simp? [fz]
 refine λd2 hd2=>hc _ _ ?_;clear hc c;have f2:=s1.bg hd2;have Zy:d1≠d2:=λz=>by subst z;rw[e1] at hd2;cases hd2
 have s2:=s1.new hd2 (o:=.dK []);have e12:(upd H1 d2 (.dK [])) d1=some (.dT []):=by rw[aH Zy];exact e1
 have e2:(upd H1 d2 (.dK [])) d2=some (.dK []):=aq;generalize upd H1 d2 _=H2 at s2 e12 e2 ⊢;simp only[set_cons_zero,set_cons_succ];refine aR λc hc=>?_;suffices main:∀H3 pm,aG H2 H3->H3 pm=some (.lst ((zs.map (·.1)++ws).map av))->c (.ref pm) H3 by
  nofun;refine tU (a:=p2) (xs:=ts) (λQ h=>by nofun;exact bB (v:=.ref p2) (fT.of (s2 _ _ A.top)) .(0) rfl h) (bw.of (s2 _ _ A.thi)) (λi ys H'=>H'=H2/\ys=((zs.map (·.1)).take i).map av) ⟨rfl,rfl⟩ (λi ys H' _ p=>⟨by rw[p.1];exact bw.of (s2 _ _ A.thi),by rw[p.2,aw,fg];lia⟩) (by rw[dE];lia) ?_ ?_
  .rintro i x ys H' hx ⟨rfl,rfl⟩;obtain⟨kv,t,ek,rfl,ht⟩:=(A.prs.same s2).get hx;rw[cn] at ek;obtain⟨⟨m,th⟩,ZI,rfl⟩:=eM.mp ek;refine⟨t,av m,av th,rfl,fT.of ht,λW hW=>?_⟩;nofun;refine hW _ _ ⟨rfl,?_⟩;rw[md,cn,ZI,fi];rfl
  .rintro ys H' ⟨rfl,rfl⟩ l hl;have s3:=aG.up H' hl (o:=.lst (((zs.map (·.1)).take ts.length).map av));have el:(upd H' l (.lst (((zs.map (·.1)).take ts.length).map av))) l=some (.lst (((zs.map (·.1)).take ts.length).map av)):=aq;generalize upd H' l _=H3 at s3 el ⊢;rw[FV (by rw[aw];lia)] at el;refine bB (v:=.ref p3) (fT.of (s3 _ _ (s2 _ _ A.top))) .(0) rfl ⟨l,p3,_,_,rfl,rfl,el,s3 _ _ (s2 _ _ A.tak),by rw[aw,aw,aw,dE];lia,λo ho=>main _ o (s3.new ho) ?_⟩;rw[aq,fi]
 intro H3 pm YR em;refine hc _ _ ?_;clear hc c;have s3:=s2.trans YR;simp only[set_cons_zero,set_cons_succ];refine aM λc hc=>?_;refine zK ?_;nofun;refine⟨pm,_,rfl,bw.of em,by rw[de,aw];lia,λH4 l ms YW hl0 hl nd mem _=>?_⟩;have s24:=YR.trans YW;have s4:=s3.trans YW;have ml:ms.length<64:=by
  have:=bQ nd λm hm=>(mem m).mp hm;rw[de,aw] at this;lia
 have nl:¬l∈[d1,d2]:=λz=>by
  simp only[mem_cons,not_mem_nil,or_false] at z
  rcases z with rfl|rfl
  .rw[s24 _ _ e12] at hl;cases hl
  .rw[s24 _ _ e2] at hl;cases hl
 have npr:¬pr∈[d1,d2]:=λz=>by
  simp only[mem_cons,not_mem_nil,or_false] at z
  rcases z with rfl|rfl
  .rw[hp] at ZF;cases ZF
  .rw[hp] at f2;cases f2
 have np:¬p∈[d1,d2]:=λz=>by
  simp only[mem_cons,not_mem_nil,or_false] at z
  rcases z with rfl|rfl
  .rw[A.top] at ZF;cases ZF
  .rw[A.top] at f2;cases f2
 have nf:∀f∈[d1,d2],(∀xs,H4 f≠some (.lst xs))/\∀xs,H4 f≠some (.tup xs):=λf hf=>by
  simp only[mem_cons,not_mem_nil,or_false] at hf
  rcases hf with rfl|rfl
  .rw[s24 _ _ e12];exact⟨λ_ z=>(nomatch z),λ_ z=>(nomatch z)⟩
  .rw[s24 _ _ e2];exact⟨λ_ z=>(nomatch z),λ_ z=>(nomatch z)⟩
 refine rZ (a:=l) (xs:=ms.map av) (λQ h=>h) (bw.of hl) (R4 p pr d1 d2 pm H4 L R ms) ⟨[],[],none,λ_ _ e _=>e,s24 _ _ e12,gO.nil L,mi _,s24 _ _ e2,mi _,λm h=>(nomatch h),rfl⟩ (λi Y H' _ h=>?_) ?_ ?_
 .obtain⟨_,_,_,k,_⟩:=h;exact bw.of (k _ _ hl nl)
 .rintro i x Y H' hx ⟨kv1,kv2,v5,k,hd1',st,l1,hd2',l2,all,rfl⟩;rw[cn] at hx;obtain⟨m,hm,rfl⟩:=eM.mp hx;have hi:i<ms.length:=(bo.mp hm).1;have X6:ms.take (i+1)=ms.take i++[m]:=by rw[md,hm];rfl
  have Mm:=hM m ((mem m).mp (dy hm));have hR':=(hR.same s4).sG k nf;simp? [fU]
  refine bB (v:=.int L) (fT.of (k _ _ (s4 _ _ A.top) np)) .(0) rfl ⟨L,pr,d1,cs,R,m,kv1,hL,cP,k _ _ (s4 _ _ hp) npr,hR',O,few,Mm.1,Mm.2,hd1',st,by lia,λH5 v UO k5 hd5 YZ l5 ZV=>?_⟩;have UP:=k5 _ _ hd2' (by simpa using du Zy);refine⟨_,oH.k (k:=.inr (txt m)) UP (by rw[dE];lia),UO,putK kv2 (.inr (txt m)) (oV v),_,?_,by rw[aH Zy];exact hd5,YZ,by lia,aq,by have:=fy kv2 (Key.inr (txt m)) (oV v);lia,λy hy=>?_,rfl⟩
  .exact(Keeps.trans k (λb o e n=>k5 b o e λz=>n (by rw[bc.mp z];exact bp))).upd (.inl .(4))
  .rw[X6] at hy;rw[vn]
   by_cases e:y=m
   .subst e;exact⟨v,by rw[df rfl],ZV⟩
   .rw[cq (λz=>e (cC.mp (by injection z)))]
    rcases eP.mp hy with hy|hy
    .exact all y hy
    .exact absurd (bc.mp hy) e
 .rintro Y H' ⟨kv1,kv2,v5,k,hd1',st,l1,hd2',l2,all,rfl⟩;refine hc _ _ ?_;rw[aw,lL] at all;nofun;refine q H' d2 kv2 (cj s4 k λb hb=>?_) f2 hd2' λm hm=>all m ((mem m).mpr hm);simp only[mem_cons,not_mem_nil,or_false] at hb
  rcases hb with rfl|rfl
  .exact ZF
  .exact f2
structure Laid(L:Nat)(D:VI (VI bG))(zs:VG)(ws:VF)(XT:VG)(X0:VF)(xs:VG)(ks:VF):Prop where
 th:∃S,yb S xs/\∀q,q∈S↔(∃z∈zs,bM L D z.1 (some q.1)/\z.2=q.2)\/q∈XT
 kup:ks.Pairwise (·<·)
 tk:∀m,m∈ks↔(∃w∈ws,bM L D w (some m))\/m∈X0
 xlen:xs.length<=zs.length+XT.length
 klen:ks.length<=ws.length+X0.length
structure E9(L n:Nat)(R:VI (VI bG))(zs:VG)(ws:VF)(XT:VG)(X0:VF):Prop where
 l2:2<=L
 l26:L<=26
 ren:n<=R.length
 few:R.length<=100
 rows:∀r∈R,aZ L r
 marks:∀m∈zs.map (·.1)++ws,Mark L m/\m.length<=30000
 z64:zs.length+ws.length<64
 t64:zs.length+XT.length<64
 k64:ws.length+X0.length<64
def Fb(p q:θ)(H:Hp)(Q:VK)(n:Nat)(R:VI (VI bG)):Prop:=∃(p1 p2 p3 q1 q2 q3:θ) (bs cs:VI θ) (ts us:VI V) (L h:Nat) (zs XT:VG) (ws X0:VF),ya H p p1 p2 p3 bs ts L h (R.take n) zs ws/\ya H q q1 q2 q3 cs us L h R XT X0/\E9 L n R zs ws XT X0/\
 ∀H' o o1 o2 o3 ds vs xs ks,aG H H'->ya H' o o1 o2 o3 ds vs L h R xs ks->(o::o1::o2::o3::ds).Nodup->(∀b∈o::o1::o2::o3::ds,H b=none)->Laid L (R.drop n) zs ws XT X0 xs ks->Q (.ref o) H'
def zM(K:W.Frag):Sp:=λvs H Q _=>∃(p q:θ) (n:Nat) (R:VI (VI bG)),vs=[.ref p,.ref q]/\Fb p q H Q n R
def DS(K:W.Frag):Sp:=λvs H Q _=>∃(p q:θ) (n:Nat) (R:VI (VI bG)),vs=[.ref p,.ref q]/\(Fb p q H Q n R\/(n<R.length/\Fb q p H Q n R))
def uc (K : PySem.W.Frag) : TS := aJ (cM (aW (zL K) [] E0 (ai (ah 0) (ai (ah 1) aD))))
      (aJ (bh (aW (kL K) [] E0 (ai (ah 0) (ai (L7 (AI K) (aT (cH K) (ah 1) (tC (.int 2))) (nN (fG (dJ K) (ai (aT (cH K) (ah 0) (tC (.int 2))) aD))) gR) aD))) (aF 2))
      (aJ (mO K 3 (cD K (aT (cH K) (ah 0) (tC (.int 3)))) [2] (tB (jf (i9 (ah 2) (ah 0)))) (iD (ai (i9 (ah 2) (ah 0)) (ai (ah 1) aD))))
      (aJ (fq 4 (cD K (aT (cH K) (ah 0) (tC (.int 4)))) [2] (tB (jf (i9 (ah 1) (ah 0)))) (i9 (ah 1) (ah 0)))
      (bH (aW jS [] E0 (ai (aT (cH K) (ah 1) (tC (.int 0))) (ai (aT (cH K) (ah 1) (tC (.int 1))) (ai (aT (cH K) (ah 1) (tC (.int 2))) (ai (aW (ju K) [] E0 (ai (ah 3) (ai (aT (cH K) (ah 1) (tC (.int 3))) aD))) (ai (fG (gz K) (ai (aT CB (ah 4) (aT (cH K) (ah 1) (tC (.int 4)))) aD)) aD))))))))))
def uf(K:W.Frag):TT:=bz (aT yG (fG (dJ K) (ai (aT (cH K) (ah 0) (tC (.int 2))) aD)) (fG (dJ K) (ai (aT (cH K) (ah 1) (tC (.int 2))) aD)))
def zN(K:W.Frag):TS:=aJ (dD (uf K) (yi) (bX)) (uc K)
def DT(K:W.Frag):TS:=aJ (dD (uf K) (bH (aW (zM K) [] E0 (ai (ah 1) (ai (ah 0) aD)))) (bX)) (uc K)
def Carried(L:Nat)(D:VI (VI bG))(zs S:VG):Prop:=(∀q,q∈S↔∃z∈zs,bM L D z.1 (some q.1)/\z.2=q.2)/\S.length<=zs.length
def jb(L:Nat)(D:VI (VI bG))(ws ks:VF):Prop:=(∀m,m∈ks↔∃w∈ws,bM L D w (some m))/\ks.length<=ws.length
theorem Carried.add{D:VI (VI bG)}{zs:VG}(C:Carried L D zs S){y t:VE}(hL:2<=L)(O:∀r∈D,aZ L r)(c:bM L D m (some y)):Carried L D (zs++[(m,t)]) (S++[(y,t)]):=by
 refine⟨λq=>?_,by rw[de,de];have:=C.2;simp;lia⟩;rw[eP,C.1 q];constructor
 .rintro(⟨z,hz,e⟩|h)
  .exact⟨z,hU _ hz,e⟩
  .rw[bc.mp h];exact⟨(m,t),dC _ .(4),c,rfl⟩
 .rintro⟨z,hz,e1,e2⟩
  rcases eP.mp hz with hz|hz
  .exact .inl ⟨z,hz,e1,e2⟩
  .rw[bc.mp hz] at e1 e2;have e3:=bM.one hL O e1 c;injection e3 with e3
   refine .inr (bc.mpr (Xy e3 e2.symm))
theorem Carried.skip{D:VI (VI bG)}{zs:VG}(C:Carried L D zs S){t:VE}(hL:2<=L)(O:∀r∈D,aZ L r)(c:bM L D m none):Carried L D (zs++[(m,t)]) S:=by
 refine⟨λq=>?_,by rw[de];have:=C.2;lia⟩;rw[C.1 q];constructor
 .rintro⟨z,hz,e⟩;exact⟨z,hU _ hz,e⟩
 .rintro⟨z,hz,e1,e2⟩
  rcases eP.mp hz with hz|hz
  .exact⟨z,hz,e1,e2⟩
  .rw[bc.mp hz] at e1;cases bM.one hL O e1 c
theorem jb.add{D:VI (VI bG)}{S:VF}(C:jb L D zs S){y:VE}(hL:2<=L)(O:∀r∈D,aZ L r)(c:bM L D m (some y)):jb L D (zs++[m]) (S++[y]):=by
 refine⟨λq=>?_,by rw[de,de];have:=C.2;simp;lia⟩;rw[eP,C.1 q];constructor
 .rintro(⟨z,hz,e⟩|h)
  .exact⟨z,hU _ hz,e⟩
  .rw[bc.mp h];exact⟨m,dC _ .(4),c⟩
 .rintro⟨z,hz,e1⟩
  rcases eP.mp hz with hz|hz
  .exact .inl ⟨z,hz,e1⟩
  .rw[bc.mp hz] at e1;have e3:=bM.one hL O e1 c;injection e3 with e3
   exact .inr (bc.mpr e3)
theorem jb.skip{D:VI (VI bG)}{S:VF}(C:jb L D zs S)(hL:2<=L)(O:∀r∈D,aZ L r)(c:bM L D m none):jb L D (zs++[m]) S:=by
 refine⟨λq=>?_,by rw[de];have:=C.2;lia⟩;rw[C.1 q];constructor
 .rintro⟨z,hz,e⟩;exact⟨z,hU _ hz,e⟩
 .rintro⟨z,hz,e1⟩
  rcases eP.mp hz with hz|hz
  .exact⟨z,hz,e1⟩
  .rw[bc.mp hz] at e1;cases bM.one hL O e1 c
theorem yb.len{zs:VG}(M:yb S zs):zs.length<=S.length:=by
 have:=bQ (bJ M.up) λm hm=>by
  obtain⟨z,hz,rfl⟩:=km.mp hm;exact Fn (f:=(·.1)) (M.mem z hz)
 rw[aw,aw] at this;exact this
def R5(H:Hp)(L:Nat)(D:VI (VI bG))(zs:VG):Nat->VI V->Hp->Prop:=λi ys H'=>∃S,aG H H'/\fS H' ys (S.map E6)/\Carried L D (zs.take i) S
def R6(H:Hp)(L:Nat)(D:VI (VI bG))(ws:VF):Nat->VI V->Hp->Prop:=λi ys H'=>∃ks,H'=H/\ys=ks.map av/\jb L D (ws.take i) ks
theorem HW{wi:TI}{fs:VE}{tt:TT}{C:TS}{D:Ends}(h:∀c:V->Hp->Prop,(∀x H1,C D (Y.set i (some x)) H1->c x H1)->ko K wi fs tt te Y H c):aJ (mO K i wi fs tt te) C D Y H:=h _ λ_ _ z=>z
theorem wk{q:θ}{R:VI (VI bG)}{v2 v3 v4:ο V}{nx:St->Hp->Prop}(h:Fb p q H Q n R):uc K {nx:=nx,rt:=Q} [some (.ref p),some (.ref q),v2,v3,v4] H:=by
 obtain⟨p1,p2,p3,q1,q2,q3,bs,cs,ts,us,L,h,zs,XT,ws,X0,A,B,O,k⟩:=h;have hL:=O.l2;have OD:∀r∈R.drop n,aZ L r:=λr hr=>O.rows r (Xz _ _ hr);have bl:=A.row.len;have cl:=B.row.len;have tl:=A.prs.len;rw[aw] at tl;have hn:=O.ren;have few:=O.few;have z64:=O.z64;have t64:=O.t64;have k64:=O.k64;rw[fg,oe hn] at bl;unfold uc;refine aM λc hc=>?_;nofun;refine⟨p,q,p1,p2,p3,q1,q2,q3,bs,cs,ts,us,L,h,n,R,zs,XT,ws,X0,A,B,hn,few,O.l26,O.rows,λH1 s1=>hc _ _ ?_⟩;clear hc c;have A1:=A.same s1;have B1:=B.same s1;refine aR λc hc=>?_;nofun;refine bB (v:=.ref q1) (fT.of B1.top) .(0) rfl (bB (v:=.ref p1) (fT.of A1.top) .(0) rfl (cJ (bw.of A1.ren) ?_));rw[aw,bl];refine⟨_,rfl,rC (bw.of B1.ren) λs hs=>?_⟩;rw[rB (by rw[aw];lia),<-map_drop];have Zg:=aG.up H1 hs (o:=.lst ((cs.drop n).map V.ref));have es:(upd H1 s (.lst ((cs.drop n).map V.ref))) s=some (.lst ((cs.drop n).map V.ref)):=aq;generalize upd H1 s _=H2 at Zg es ⊢;have s2:=s1.trans Zg;refine⟨p,p1,p2,p3,s,bs,cs.drop n,ts,L,h,R.take n,R.drop n,zs,ws,A.same s2,es,(B.row.same s2).drop n,OD,by rw[TB];lia,hL,O.l26,O.marks,z64,λH3 d kvs YR hd0 hd all=>hc _ _ ?_⟩;clear hc c;have s3:=s2.trans YR;have A3:=A.same s3;simp only[set_cons_zero,set_cons_succ];refine HW λc hc=>?_;refine tU (a:=p2) (xs:=ts) (λQ h=>by nofun;exact bB (v:=.ref p2) (fT.of A3.top) .(0) rfl h) (bw.of A3.thi) (R5 H3 L (R.drop n) zs) ⟨[],aG.refl _,trivial,⟨λq=>⟨λh=>(nomatch h),λ⟨z,h,_⟩=>(nomatch h)⟩,mi _⟩⟩ (λi ys H' hi p=>?_) (by rw[dE];lia) ?_ ?_
 .obtain⟨S,s',pr,C⟩:=p;have:=pr.len;have c2:=C.2;rw[fg] at c2;rw[aw] at this;exact⟨bw.of (s' _ _ A3.thi),by lia⟩
 .rintro i x ys H' hx ⟨S,s',pr,C⟩;obtain⟨kv,t,ek,rfl,ht⟩:=A3.prs.get hx;rw[cn] at ek;obtain⟨⟨m,th⟩,ZI,rfl⟩:=eM.mp ek;have X6:zs.take (i+1)=zs.take i++[(m,th)]:=by rw[md,ZI];rfl
  refine⟨t,av m,av th,rfl,fT.of (s' _ _ ht),λW hW=>?_⟩;obtain⟨v,ev,cv⟩:=all m (hU _ (Fn (f:=(·.1)) (dy ZI)));have g:g9 H' d (av m) (some (oV v)):=by rw[<-ev];exact g9.k (k:=.inr (txt m)) (s' _ _ hd)
  simp? [i9]
  refine⟨oV v,g,?_⟩;cases v with
  |none=>
   simp? [oV]
   exact hW _ _ ⟨S,s',pr,by rw[X6];exact C.skip hL OD cv⟩
  |some y=>
   simp? [oV]
   refine⟨av y,g,by decide,λo ho=>hW _ _ ⟨S++[(y,th)],s'.new ho,?_,by rw[X6];exact C.add hL OD cv⟩⟩
   rw[fi];refine(pr.same (aG.up H' ho)).app ⟨⟨o,rfl,?_⟩,trivial⟩;rw[aq];rfl
 rintro ys H4a ⟨S,s34a,prS,C⟩ l3 hl3;refine hc _ _ ?_;clear hc c;rw[tl,lL] at C;have YW:=s34a.new hl3 (o:=.lst ys);have e3:(upd H4a l3 (.lst ys)) l3=some (.lst ys):=aq;have R7:=prS.same (aG.up H4a hl3 (o:=.lst ys));generalize upd H4a l3 _=H4 at YW e3 R7 ⊢;have s4:=s3.trans YW;have A4:=A.same s4;simp only[set_cons_zero,set_cons_succ];refine qj λc hc=>?_;refine ve (a:=p3) (xs:=ws.map av) (λQ h=>by nofun;exact bB (v:=.ref p3) (fT.of A4.top) .(0) rfl h) (bw.of A4.tak) (R6 H4 L (R.drop n) ws) ⟨[],rfl,rfl,⟨λq=>⟨λh=>(nomatch h),λ⟨z,h,_⟩=>(nomatch h)⟩,mi _⟩⟩ (λi ys H' hi p=>?_) (by rw[aw,dE];lia) ?_ ?_
 .obtain⟨ks,rfl,rfl,C⟩:=p;have c2:=C.2;rw[fg] at c2;exact⟨bw.of A4.tak,by rw[aw];lia⟩
 .rintro i x ys H' hx ⟨ks,rfl,rfl,CK⟩ W hW;rw[cn] at hx;obtain⟨m,hm,rfl⟩:=eM.mp hx;have X6:ws.take (i+1)=ws.take i++[m]:=by rw[md,hm];rfl
  obtain⟨v,ev,cv⟩:=all m (dC _ (dy hm));have g:g9 H' d (av m) (some (oV v)):=by rw[<-ev];exact g9.k (k:=.inr (txt m)) (YW _ _ hd)
  simp? [i9]
  refine⟨oV v,g,?_⟩;cases v with
  |none=>
   simp? [oV]
   exact hW _ _ ⟨ks,rfl,rfl,by rw[X6];exact CK.skip hL OD cv⟩
  |some y=>
   simp? [oV]
   exact⟨av y,g,hW _ _ ⟨ks++[y],rfl,by rw[fi];rfl,by rw[X6];exact CK.add hL OD cv⟩⟩
 rintro ys4 H' ⟨ks,rfl,rfl,CK⟩ l4 hl4;refine hc _ _ ?_;clear hc c;rw[aw,lL] at CK;have Yu:=aG.up H' hl4 (o:=.lst (ks.map av));have e4:(upd H' l4 (.lst (ks.map av))) l4=some (.lst (ks.map av)):=aq;generalize upd H' l4 _=H5 at Yu e4 ⊢;have s5:=s4.trans Yu;have B5:=B.same s5;have cS:=C.2;have cK:=CK.2;simp? [WV,WW]
 refine bB (v:=.int L) (fT.of B5.top) .(0) rfl (bB (v:=.int h) (fT.of B5.top) .(0) rfl (bB (v:=.ref q1) (fT.of B5.top) .(0) rfl (bB (v:=.ref q2) (fT.of B5.top) .(0) rfl ?_)));refine⟨l3,q2,ys,us,S,XT,Yu _ _ e3,R7.same Yu,B5.thi,B5.prs,by lia,λH6 o6 vs6 xs6 ZW ho6 eo6 pr6 M6=>?_⟩;have s6:=s5.trans ZW;have B6:=B.same s6;refine bB (v:=.ref q3) (fT.of B6.top) .(0) rfl ⟨l4,q3,_,_,rfl,rfl,ZW _ _ e4,B6.tak,by rw[aw,aw,dE];lia,λl7 hl7=>?_⟩;have YU:=aG.up H6 hl7 (o:=.lst (ks.map av++X0.map av));have e7:(upd H6 l7 (.lst (ks.map av++X0.map av))) l7=some (.lst ((ks++X0).map av)):=by rw[aq,fi]
 generalize upd H6 l7 _=H7 at YU e7 ⊢;refine⟨l7,ks++X0,rfl,bw.of e7,by rw[de];lia,λH8 l8 js s78 Vy hl8 nd mem le=>?_⟩;have s68:=YU.trans s78;have s8:=s6.trans s68;have B8:=B.same s8;refine⟨L,h,q1,o6,l8,cs,R,vs6,xs6,js,B8.ren,B8.row,s68 _ _ eo6,pr6.same s68,hl8,by lia,λH9 o o1 o2 o3 ds s89 SA ndo fr=>?_⟩;refine k H9 o o1 o2 o3 ds vs6 xs6 js (s8.trans s89) SA ndo (λb hb=>s8.bg (fr b hb)) ⟨⟨_,M6,λx=>?_⟩,fK le nd,λm=>?_,?_,?_⟩
 .rw[eP,C.1 x]
 .rw[mem,eP,CK.1 m]
 .have:=M6.len;rw[de] at this;lia
 .have:=bQ nd λm hm=>(mem m).mp hm;rw[de] at this;lia
theorem longer{q p2 q1 q2 q3:θ}{bs cs:VI θ}{us:VI V}{R R':VI (VI bG)}{zs:VG}{X0:VF}{v2 v3 v4:ο V}{Q:Bool->Hp->Prop}(A:ya H p p1 p2 p3 bs ts L h R zs ws)(B:ya H q q1 q2 q3 cs us L h R' XT X0)(k:Q (decide (R'.length<R.length)) H):uf K [some (.ref p),some (.ref q),v2,v3,v4] H Q:=by
 have bl:=A.row.len;have cl:=B.row.len;unfold uf;nofun;refine bB (v:=.ref p1) (fT.of A.top) .(0) rfl (cJ (bw.of A.ren) (bB (v:=.ref q1) (fT.of B.top) .(0) rfl (cJ (bw.of B.ren) ?_)));rw[aw,aw,bl,cl];refine(kK (kK ?_));rw[show decide ((R'.length:Int)<(R.length:Int))=decide (R'.length<R.length) by simp]
 exact k
theorem DU(hN:N.length=5)(h:zM K vs H Q E):zN K {nx:=λ_ H'=>Q .non H',rt:=Q} .(3) H:=by
 obtain⟨p,q,n,R,rfl,P⟩:=h;unfold zN L2.start;rw[hN];obtain⟨p1,p2,p3,q1,q2,q3,bs,cs,ts,us,L,h,zs,XT,ws,X0,A,B,O,_⟩:=id P;refine aM λc hc=>?_;refine longer A B ?_;rw[eQ (by rw[fg];lia)];exact hc _ _ (wk P)
theorem HX(hN:N.length=5)(h:DS K vs H Q E):DT K {nx:=λ_ H'=>Q .non H',rt:=Q} .(3) H:=by
 obtain⟨p,q,n,R,rfl,P⟩:=h;unfold DT L2.start;rw[hN];refine aM λc hc=>?_
 rcases P with P|⟨lt,P⟩
 .obtain⟨p1,p2,p3,q1,q2,q3,bs,cs,ts,us,L,h,zs,XT,ws,X0,A,B,O,_⟩:=id P;refine longer A B ?_;rw[eQ (by rw[fg];lia)];exact hc _ _ (wk P)
 .obtain⟨p1,p2,p3,q1,q2,q3,bs,cs,ts,us,L,h,zs,XT,ws,X0,A,B,O,_⟩:=id P;refine longer B A ?_;rw[dr (by rw[fg];lia)];nofun;exact⟨q,p,n,R,rfl,P⟩
theorem ya.sG{p2:θ}{bs:VI θ}{R:VI (VI bG)}{zs:VG}(A:ya H p p1 p2 p3 bs ts L h R zs ws)(k:Keeps F H H')(n:∀f∈F,(∀xs,H f≠some (.lst xs))/\∀xs,H f≠some (.tup xs)):ya H' p p1 p2 p3 bs ts L h R zs ws:=
 ⟨k _ _ A.top λz=>(n _ z).2 _ A.top,k _ _ A.ren λz=>(n _ z).1 _ A.ren,A.row.sG k n,k _ _ A.thi λz=>(n _ z).1 _ A.thi,A.prs.keep λt ys et=>k _ _ et λz=>(n _ z).2 _ et,k _ _ A.tak λz=>(n _ z).1 _ A.tak⟩
theorem Kx{tl:TE}{fs:VE}{tt:TT}(h:tl Y H λx H1=>eG (cD K (tC x)) fs tt te Y H1 Q):eG (cD K tl) fs tt te Y H Q:=h
theorem HY{a b c:VE}(h:a<b)(g:¬a<c):c<b:=by
 by_cases z:c<b
 .exact z
 .exact absurd (vP h z) g
theorem bM.app:∀{A B:VI (VI bG)} {m:VE} {y:VE},bM L (A++B) m (some y)↔∃x,bM L A m (some x)/\bM L B x (some y)
 |[],B,m,y=>by
  constructor
  .intro h;exact⟨m,rfl,h⟩
  .rintro⟨x,e,h⟩;have e:some x=some m:=e;injection e with e
   rw[<-e];exact h
 |r::A,B,m,y=>by
  constructor
  .rintro(⟨z,c,h⟩|⟨_,e⟩)
   .obtain⟨x,a,b⟩:=bM.app.mp h;exact⟨x,.inl ⟨z,c,a⟩,b⟩
   .cases e
  .rintro⟨x,(⟨z,c,h⟩|⟨_,e⟩),b⟩
   .exact .inl ⟨z,c,bM.app.mpr ⟨x,h,b⟩⟩
   .cases e
abbrev dY:=Nat×VE×VE
abbrev oY:=Nat×VE
structure NF(L:Nat)(R:VI (VI bG))(Bs:VI dY)(Ts:VI oY)(kn tk:Nat->Prop)(xs:VG)(ks:VF):Prop where
 th:∃S,yb S xs/\∀q,q∈S↔∃k b,kn k/\Bs[k]?=some b/\bM L (R.drop b.1) b.2.1 (some q.1)/\b.2.2=q.2
 kup:ks.Pairwise (·<·)
 tks:∀m,m∈ks↔∃k b,tk k/\Ts[k]?=some b/\bM L (R.drop b.1) b.2 (some m)
 bag:∀k b,kn k->Bs[k]?=some b->b.1<=R.length
 tag:∀k b,tk k->Ts[k]?=some b->b.1<=R.length
theorem NF.up{R:VI (VI bG)}{Bs:VI dY}{Ts:VI oY}{kn tk:Nat->Prop}{xs:VG}(A:NF L R Bs Ts kn tk xs ks):(xs.map (·.1)).Pairwise (·<·):=by
 obtain⟨S,M,_⟩:=A.th;exact M.up
theorem oZ(hL:2<=L){D:VI (VI bG)}(O:∀r∈D,aZ L r):∀S:VG,∃S':VG,∀q:VE×VE,q∈S'↔∃z∈S,bM L D z.1 (some q.1)/\z.2=q.2
 |[]=>⟨[],λq=>⟨λh=>(nomatch h),λ⟨_,h,_⟩=>(nomatch h)⟩⟩
 |a::S=>by
  obtain⟨S',h⟩:=oZ hL O S
  by_cases e:∃x,bM L D a.1 (some x)
  .obtain⟨x,c⟩:=e;refine⟨(x,a.2)::S',λq=>?_⟩;rw[gL,h];constructor
   .rintro(rfl|⟨z,hz,k⟩)
    .exact⟨a,bp,c,rfl⟩
    .exact⟨z,dA _ hz,k⟩
   .rintro⟨z,hz,k1,k2⟩
    rcases gL.mp hz with rfl|hz
    .have:=bM.one hL O k1 c;injection this with this
     exact .inl (Xy this k2.symm)
    .exact .inr ⟨z,hz,k1,k2⟩
  .refine⟨S',λq=>?_⟩;rw[h];constructor
   .rintro⟨z,hz,k⟩;exact⟨z,dA _ hz,k⟩
   .rintro⟨z,hz,k1,k2⟩
    rcases gL.mp hz with rfl|hz
    .exact absurd ⟨_,k1⟩ e
    .exact⟨z,hz,k1,k2⟩
theorem gU{α:Type}(R:VI α)(h:i<=n)(hn:n<=R.length):(R.take n).drop i++R.drop n=R.drop i:=by
 have e:R.drop i=((R.take n)++(R.drop n)).drop i:=by rw[yn]
 rw[e,xa (by rw[fg];lia)]
section
variable{L n:Nat}{R:VI (VI bG)}{Bs:VI dY}{Ts:VI oY}{kn tk Yk Yg:Nat->Prop}{zs XT xs:VG}{ws X0 ks:VF}
theorem NF.join(hL:2<=L)(O:∀r∈R,aZ L r)(hn:n<=R.length)(A:NF L (R.take n) Bs Ts kn tk zs ws)(B:NF L R Bs Ts Yk Yg XT X0)(l:Laid L (R.drop n) zs ws XT X0 xs ks):NF L R Bs Ts (λk=>kn k\/Yk k) (λk=>tk k\/Yg k) xs ks:=by
 have OD:∀r∈R.drop n,aZ L r:=λr hr=>O r (Xz _ _ hr);obtain⟨S1,M1,h1⟩:=A.th;obtain⟨S2,M2,h2⟩:=B.th;obtain⟨S0,M0,h0⟩:=l.th;obtain⟨S3,h3⟩:=oZ hL OD S1;have lt:(R.take n).length=n:=by rw[fg,oe hn]
 refine⟨⟨S3++S2,⟨M0.up,λz hz=>?_,λq hq=>?_⟩,λq=>?_⟩,l.kup,λm=>?_,λk b hk e=>?_,λk b hk e=>?_⟩
 .rcases (h0 z).mp (M0.mem z hz) with⟨z0,hz0,c⟩|hz0
  .exact hU _ ((h3 z).mpr ⟨z0,M1.mem z0 hz0,c⟩)
  .exact dC _ (M2.mem z hz0)
 .have step:∀z:VE×VE,z∈S0->z.1=q.1->¬q.2<z.2->∃x∈xs,x.1=q.1/\¬q.2<x.2:=λz hz e1 n1=>by
   obtain⟨x,hx,e2,n2⟩:=M0.all z hz;refine⟨x,hx,e2.trans e1,λw=>?_⟩;exact n2 (HY w n1)
  rcases eP.mp hq with hq|hq
  .obtain⟨s,hs,c,e⟩:=(h3 q).mp hq;obtain⟨z,hz,e1,n1⟩:=M1.all s hs;refine step (q.1,z.2) ((h0 _).mpr (.inl ⟨z,hz,by rw[e1];exact c,rfl⟩)) rfl ?_;rw[<-e];exact n1
  .obtain⟨z,hz,e1,n1⟩:=M2.all q hq;exact step z ((h0 z).mpr (.inr hz)) e1 n1
 .rw[eP,h3,h2];constructor
  .rintro(⟨s,hs,c,e⟩|⟨k,b,hk,c⟩)
   .obtain⟨k,b,hk,eb,c1,e1⟩:=(h1 s).mp hs;have:=A.bag k b hk eb;refine⟨k,b,.inl hk,eb,?_,e1.trans e⟩;rw[<-gU R (n:=n) (i:=b.1) ⋯ hn];exact bM.app.mpr ⟨s.1,c1,c⟩
   .exact⟨k,b,.inr hk,c⟩
  .rintro⟨k,b,hk|hk,eb,c,e⟩
   .have:=A.bag k b hk eb;rw[<-gU R (n:=n) (i:=b.1) ⋯ hn] at c;obtain⟨x,c1,c2⟩:=bM.app.mp c;exact .inl ⟨(x,q.2),(h1 _).mpr ⟨k,b,hk,eb,c1,e⟩,c2,rfl⟩
   .exact .inr ⟨k,b,hk,eb,c,e⟩
 .rw[l.tk,B.tks];constructor
  .rintro(⟨s,hs,c⟩|⟨k,b,hk,c⟩)
   .obtain⟨k,b,hk,eb,c1⟩:=(A.tks s).mp hs;have:=A.tag k b hk eb;refine⟨k,b,.inl hk,eb,?_⟩;rw[<-gU R (n:=n) (i:=b.1) ⋯ hn];exact bM.app.mpr ⟨s,c1,c⟩
   .exact⟨k,b,.inr hk,c⟩
  .rintro⟨k,b,hk|hk,eb,c⟩
   .have:=A.tag k b hk eb;rw[<-gU R (n:=n) (i:=b.1) ⋯ hn] at c;obtain⟨x,c1,c2⟩:=bM.app.mp c;exact .inl ⟨x,(A.tks _).mpr ⟨k,b,hk,eb,c1⟩,c2⟩
   .exact .inr ⟨k,b,hk,eb,c⟩
 .rcases hk with hk|hk
  .have:=A.bag k b hk e;lia
  .exact B.bag k b hk e
 .rcases hk with hk|hk
  .have:=A.tag k b hk e;lia
  .exact B.tag k b hk e
theorem DV(hL:2<=L){R:VI (VI bG)}(O:∀r∈R,aZ L r):∀l:VI (Nat×VE),∃M:VF,M.length<=l.length/\∀b∈l,∀m,bM L (R.drop b.1) b.2 (some m)->m∈M
 |[]=>⟨[],bb _,λb h=>(nomatch h)⟩
 |a::l=>by
  obtain⟨M,h1,h2⟩:=DV hL O l
  by_cases e:∃x,bM L (R.drop a.1) a.2 (some x)
  .obtain⟨x,c⟩:=e;refine⟨x::M,by rw[kS,kS];lia,λb hb m hm=>?_⟩
   rcases gL.mp hb with rfl|hb
   .have:=bM.one hL (λr hr=>O r (Xz _ _ hr)) hm c;injection this with this
    rw[this];exact bp
   .exact dA _ (h2 b hb m hm)
  .refine⟨M,by rw[kS];lia,λb hb m hm=>?_⟩
   rcases gL.mp hb with rfl|hb
   .exact absurd ⟨m,hm⟩ e
   .exact h2 b hb m hm
theorem NF.len(hL:2<=L)(O:∀r∈R,aZ L r)(A:NF L R Bs Ts kn tk xs ks):xs.length<=Bs.length/\ks.length<=Ts.length:=by
 constructor
 .obtain⟨M,h1,h2⟩:=DV hL O (Bs.map λb=>(b.1,b.2.1));obtain⟨S,MO,h⟩:=A.th;have:=bQ (bJ MO.up) λm hm=>by
   obtain⟨z,hz,rfl⟩:=km.mp hm;obtain⟨k,b,_,eb,c,_⟩:=(h z).mp (MO.mem z hz);exact h2 (b.1,b.2.1) (km.mpr ⟨b,dy eb,rfl⟩) _ c
  rw[aw] at this h1;lia
 .obtain⟨M,h1,h2⟩:=DV hL O Ts;have:=bQ (bJ A.kup) λm hm=>by
   obtain⟨k,b,_,eb,c⟩:=(A.tks m).mp hm;exact h2 b (dy eb) _ c
  lia
end
inductive jF (K:W.Frag) (C:θ):VI V->Hp->VK->XK->Prop
 |mk {H:Hp} {Q:VK} {a8:XK} (x dx pr pt pk p p1 p2 p3:θ) (L h j:Nat) (kvs:VG) (ks:VF) (as bs:VI θ) (ts:VI V) (R1 R2:VI (VI bG)) (XT:VG) (X0:VF):jR C H x dx pr pt pk L h j kvs ks->kvs.length<64->(kvs.map (·.1)).Nodup->ks.length<64->ks.Nodup->HQ H pr as R1->R1.length<=100->ya H p p1 p2 p3 bs ts L h R2 XT X0->((∃n,R1=R2.take n/\∀zs ws,Told kvs ks zs ws->E9 L n R2 zs ws XT X0)\/(∃n,n<R1.length/\R2=R1.take n/\∀zs ws,Told kvs ks zs ws->E9 L n R1 XT X0 zs ws))->(∀H' zs ws R n pr' XN XS as' xs js,Told kvs ks zs ws->Keeps [x] H H'->jR C H' x dx pr' XN XS L h j xs js->HQ H' pr' as' R->H pr'=none->H XN=none->H XS=none->(∀b∈as',H b=none)->(xs.map (·.1)).Pairwise (·<·)->js.Pairwise (·<·)->
  ((R=R2/\R1=R2.take n/\n<=R2.length/\Laid L (R2.drop n) zs ws XT X0 xs js)\/(R=R1/\R2=R1.take n/\n<=R1.length/\Laid L (R1.drop n) XT X0 zs ws xs js))->Q .non H')->jF K C [.ref x,.ref p] H Q a8
def DW(K:W.Frag)(C:θ):TS:=
  aJ (bh (aW (DS K) [] E0 (ai (bU C "state" (fC C) [] E0 (ah 0) aD) (ai (ah 1) aD))) (aF 2))
   (aJ (jx K (ah 0) (aT (cH K) (ah 2) (tC (.int 2))) "renewals")
   (aJ (jx K (ah 0) (fG tY (ai (aT (cH K) (ah 2) (tC (.int 3))) aD)) "thing_of")
   (jx K (ah 0) (fG tY (ai (eG (cD K (aT (cH K) (ah 2) (tC (.int 4)))) [] lE (iD (ai (ah 0) (ai (tC (.bl true)) aD)))) aD)) "taken")))
theorem Ia{xs:VG}(h:(xs.map (·.1)).Pairwise (·<·)):gM [] (gA xs)=gA xs:=by
 rw[kI _ _ (by
  rw[Bi,gA,mv];have:=mB.mpr (VP (S:=λa b=>(Key.inr (txt a):Key)≠Key.inr (txt b)) (λn e=>n (cC.mp (by injection e))) (bJ h));rw[mv] at this;exact this)]
 rfl
theorem Ib(h:ks.Pairwise (·<·)):gM [] (cF ks)=cF ks:=by
 rw[kI _ _ (by
  rw[Bi,cF,mv];exact mB.mpr (VP (S:=λa b=>(Key.inr (txt a):Key)≠Key.inr (txt b)) (λn e=>n (cC.mp (by injection e))) (bJ h)))]
 rfl
def Vp(m:VE):V×V:=(av m,.bl true)
theorem fS.UQ{js:VF}(p:fS H ys (js.map Vp)):UJ H ys (cF js):=by
 refine⟨by rw[p.len,cF,aw,aw],λi k v e=>?_⟩;rw[cF,cn] at e;obtain⟨m,e1,e2⟩:=eM.mp e;cases e2;obtain⟨y,hy⟩:=some_at (l:=ys) (i:=i) (by rw[p.len,aw];exact(bo.mp e1).1);obtain⟨q,t,a,rfl,c⟩:=p.get hy;rw[cn,e1] at a;cases a;exact⟨t,hy,c⟩
def R8(H:Hp)(ks:VF):Nat->VI V->Hp->Prop:=λi ys H'=>aG H H'/\fS H' ys ((ks.take i).map Vp)
theorem Ic(cl:ir K C)(hN:N.length=3)(h:jF K C vs H Q E):DW K C {nx:=λ_ H'=>Q .non H',rt:=Q} .(3) H:=by
 obtain⟨x,dx,pr,pt,pk,p,p1,p2,p3,L,h,j,kvs,ks,as,bs,ts,R1,R2,XT,X0,S,k64,knd,t64,tnd,A,few,B,way,q⟩:=h;unfold DW L2.start;rw[hN];refine aR λc hc=>?_;suffices main:∀H2 o o1 o2 o3 ds vs zs ws R n xs js,Told kvs ks zs ws->aG H H2->ya H2 o o1 o2 o3 ds vs L h R xs js->(o::o1::o2::o3::ds).Nodup->(∀b∈o::o1::o2::o3::ds,H b=none)->js.length<64->
   ((R=R2/\R1=R2.take n/\n<=R2.length/\Laid L (R2.drop n) zs ws XT X0 xs js)\/(R=R1/\R2=R1.take n/\n<=R1.length/\Laid L (R1.drop n) XT X0 zs ws xs js))->c (.ref o) H2 by
  nofun;refine bD S (λR r=>r) rfl ⟨x,dx,pr,pt,pk,L,h,j,kvs,ks,as,R1,S,k64,knd,t64,tnd,A.lst,A.row,by lia,λH1 s s1 s2 s3 cs us zs ws sH T SB ndS frS=>?_⟩;have B1:=B.same sH
  rcases way with⟨n,e,ok⟩|⟨n,lt,e,ok⟩
  .exact⟨s,p,n,R2,rfl,.inl ⟨s1,s2,s3,p1,p2,p3,cs,bs,us,ts,L,h,zs,XT,ws,X0,by rw[<-e];exact SB,B1,ok zs ws T,λH2 o o1 o2 o3 ds vs xs js Zg SA nd fr l=>main H2 o o1 o2 o3 ds vs zs ws R2 n xs js T (sH.trans Zg) SA nd (λb hb=>sH.bg (fr b hb)) (by have:=(ok zs ws T).k64;have:=l.klen;lia) (.inl ⟨rfl,e,(ok zs ws T).ren,l⟩)⟩⟩
  .exact⟨s,p,n,R1,rfl,.inr ⟨lt,p1,p2,p3,s1,s2,s3,bs,cs,ts,us,L,h,XT,zs,X0,ws,by rw[<-e];exact B1,SB,ok zs ws T,λH2 o o1 o2 o3 ds vs xs js Zg SA nd fr l=>main H2 o o1 o2 o3 ds vs zs ws R1 n xs js T (sH.trans Zg) SA nd (λb hb=>sH.bg (fr b hb)) (by have:=(ok zs ws T).k64;have:=l.klen;lia) (.inr ⟨rfl,e,(ok zs ws T).ren,l⟩)⟩⟩
 intro H2 o o1 o2 o3 ds vs zs ws R n xs js T s2 SA nd fr j64 lay;refine hc _ _ ?_;clear hc c;have S2:=S.same s2;and_intros;refine aM λc hc=>?_;unfold jx;nofun;have hdx:dx≠x:=λz=>by subst z;have:=S.ins.symm.trans S.own;cases this
 have ups:(xs.map (·.1)).Pairwise (·<·)/\js.Pairwise (·<·):=by
  rcases lay with⟨_,_,_,l⟩|⟨_,_,_,l⟩
  .obtain⟨_,M,_⟩:=l.th;exact⟨M.up,l.kup⟩
  .obtain⟨_,M,_⟩:=l.th;exact⟨M.up,l.kup⟩
 have nds:o≠x/\o1≠x/\o2≠x/\o3≠x:=by
  have f:∀b∈o::o1::o2::o3::ds,b≠x:=λb hb z=>by have:=fr b hb;rw[z,S.ins] at this;cases this
  exact⟨f o .(4),f o1 .(4),f o2 .(4),f o3 .(4)⟩
 have ndx:o1≠dx:=λz=>by subst z;have:=fr o1 .(4);rw[S.own] at this;cases this
 refine bB (v:=.ref o1) (fT.of SA.top) .(0) rfl ⟨C,dx,_,S2.ins,cl.cls,cl.nr,by simp[cL],hc _ _ ?_⟩;clear hc c;have k3:Keeps [x] H (upd H2 x (.ins C dx (cQ "renewals" (.ref o1) (cL L h j pr pt pk)))):=(s2.keeps _).upd (.inl bp);have x3:(upd H2 x (.ins C dx (cQ "renewals" (.ref o1) (cL L h j pr pt pk)))) x=some (.ins C dx (cL L h j o1 pt pk)):=aq;have kx:Keeps [x] H2 (upd H2 x (.ins C dx (cQ "renewals" (.ref o1) (cL L h j pr pt pk)))):=Keeps.upd (λ_ _ e _=>e) (.inl bp);generalize upd H2 x _=H3 at k3 x3 kx ⊢;have nf:∀f∈[x],(∀xs,H2 f≠some (.lst xs))/\∀xs,H2 f≠some (.tup xs):=λf hf=>by
  rw[bc.mp hf,S2.ins];exact⟨λ_ z=>(nomatch z),λ_ z=>(nomatch z)⟩
 have SA3:=SA.sG kx nf;have d3:=kx _ _ S2.own (by simpa using hdx);refine aM λc hc=>?_;unfold jx;nofun;refine bB (v:=.ref o2) (fT.of SA3.top) .(0) rfl ⟨o2,vs,gA xs,rfl,SA3.thi,SA3.prs.RX,λXN Y7=>?_⟩;rw[Ia ups.1];have nx:x≠XN:=λz=>by subst z;rw[x3] at Y7;cases Y7
 have n1:dx≠XN:=λz=>by subst z;rw[d3] at Y7;cases Y7
 have ft:H XN=none:=by
  cases w:H XN with
  |none=>rfl
  |some u=>rw[k3 XN u w (by simpa using du nx)] at Y7;cases Y7
 refine⟨C,dx,_,by rw[aH nx];exact x3,cl.cls,cl.nt,by simp[cL],hc _ _ ?_⟩;clear hc c;have k4:Keeps [x] H3 (upd (upd H3 XN (.dK (gA xs))) x (.ins C dx (cQ "thing_of" (.ref XN) (cL L h j o1 pt pk)))):=(Keeps.upd (λ_ _ e _=>e) (.inr Y7)).upd (.inl bp);have x4:(upd (upd H3 XN (.dK (gA xs))) x (.ins C dx (cQ "thing_of" (.ref XN) (cL L h j o1 pt pk)))) x=some (.ins C dx (cL L h j o1 XN pk)):=aq;have t4:(upd (upd H3 XN (.dK (gA xs))) x (.ins C dx (cQ "thing_of" (.ref XN) (cL L h j o1 pt pk)))) XN=some (.dK (gA xs)):=by rw[aH (du nx),aq]
 generalize upd (upd H3 XN _) x _=H4 at k4 x4 t4 ⊢;have nf3:∀f∈[x],(∀xs,H3 f≠some (.lst xs))/\∀xs,H3 f≠some (.tup xs):=λf hf=>by
  rw[bc.mp hf,x3];exact⟨λ_ z=>(nomatch z),λ_ z=>(nomatch z)⟩
 have SA4:=SA3.sG k4 nf3;have d4:=k4 _ _ d3 (by simpa using hdx);have k04:Keeps [x] H H4:=Keeps.trans k3 k4;unfold jx;nofun;refine ve (a:=o3) (xs:=js.map av) (λQ h=>by nofun;exact bB (v:=.ref o3) (fT.of SA4.top) .(0) rfl h) (bw.of SA4.tak) (R8 H4 js) ⟨aG.refl _,trivial⟩ (λi ys H' hi p=>⟨bw.of (p.1 _ _ SA4.tak),by have:=p.2.len;rw[aw,fg] at this;lia⟩) ?_ ?_ ?_
 .rw[aw,dE];lia
 .rintro i v ys H' hv ⟨s',pr'⟩ W hW;rw[cn] at hv;obtain⟨m,hm,rfl⟩:=eM.mp hv;have X6:js.take (i+1)=js.take i++[m]:=by rw[md,hm];rfl
  nofun;refine⟨by decide,λt ht=>hW _ _ ⟨s'.new ht,?_⟩⟩
  rw[X6,fi];refine(pr'.same (aG.up H' ht)).app ⟨⟨t,rfl,?_⟩,trivial⟩;rw[aq];rfl
 rintro ys H5a ⟨s5a,RX⟩ l5 hl5;rw[aw,lL] at RX;have Yu:=s5a.new hl5 (o:=.lst ys);have e5:(upd H5a l5 (.lst ys)) l5=some (.lst ys):=aq;have R9:=RX.same (aG.up H5a hl5 (o:=.lst ys));generalize upd H5a l5 _=H5 at Yu e5 R9 ⊢;refine⟨l5,ys,cF js,rfl,e5,R9.UQ,λXS YQ=>?_⟩;rw[Ib ups.2];have x5:=Yu _ _ x4;have d5:=Yu _ _ d4;have t5:=Yu _ _ t4;have nxk:x≠XS:=λz=>by subst z;rw[x5] at YQ;cases YQ
 have ntk:XN≠XS:=λz=>by subst z;rw[t5] at YQ;cases YQ
 have ndk:dx≠XS:=λz=>by subst z;rw[d5] at YQ;cases YQ
 have k05:Keeps [x] H H5:=Keeps.trans k04 (Yu.keeps _);have fk:H XS=none:=by
  cases w:H XS with
  |none=>rfl
  |some u=>rw[k05 XS u w (by simpa using du nxk)] at YQ;cases YQ
 refine⟨C,dx,_,by rw[aH nxk];exact x5,cl.cls,cl.nk,by simp[cL],?_⟩;have k6:Keeps [x] H5 (upd (upd H5 XS (.dK (cF js))) x (.ins C dx (cQ "taken" (.ref XS) (cL L h j o1 XN pk)))):=(Keeps.upd (λ_ _ e _=>e) (.inr YQ)).upd (.inl bp);have x6:(upd (upd H5 XS (.dK (cF js))) x (.ins C dx (cQ "taken" (.ref XS) (cL L h j o1 XN pk)))) x=some (.ins C dx (cL L h j o1 XN XS)):=aq;have u6:(upd (upd H5 XS (.dK (cF js))) x (.ins C dx (cQ "taken" (.ref XS) (cL L h j o1 XN pk)))) XS=some (.dK (cF js)):=by rw[aH (du nxk),aq]
 generalize upd (upd H5 XS _) x _=H6 at k6 x6 u6 ⊢;have nf5:∀f∈[x],(∀xs,H5 f≠some (.lst xs))/\∀xs,H5 f≠some (.tup xs):=λf hf=>by
  rw[bc.mp hf,x5];exact⟨λ_ z=>(nomatch z),λ_ z=>(nomatch z)⟩
 have SA6:=(SA4.same Yu).sG k6 nf5;have nd1:¬o1∈ds:=λz=>by
  simp only[nodup_cons,mem_cons,not_or] at nd;exact nd.2.1.2.2 z
 exact q H6 zs ws R n o1 XN XS ds xs js T (Keeps.trans k05 k6) ⟨x6,k6 _ _ d5 (by simpa using hdx),k6 _ _ t5 (by simpa using du nx),u6,ntk⟩ ⟨SA6.ren,SA6.row,nd1⟩ (fr o1 .(4)) ft fk (λb hb=>fr b (by simp[hb])) ups.1 ups.2 lay
def Short(r:VI bG):Prop:=r.length<=60/\∀y∈r,∀z,y.2=some z->z.length<=7
theorem kZ.NC{R:VI bG}(O:aZ L R)(hS:Short R)(hL:2<=L){x:VE}(M:Mark L m)(A:kZ L R m (some x)):Mark L x/\x.length<=8+m.length:=by
 refine⟨(kZ.len O hL M A).1,?_⟩
 rcases A with⟨r,hr,e,h⟩|⟨h1,n,w,s,S,h⟩
 .have:=hS.2 r hr x h.symm;lia
 .injection h with h
  subst h;obtain⟨a1,a2,a3,a4,_⟩:=S.all hL (O.jt m) (O.BK m);have l1:dH (qd R m)<=7:=by
   cases h:qd R m with
   |none=>exact mi _
   |some x=>obtain⟨r,hr,_,e⟩:=qe h;exact hS.2 r hr x e
  have l2:dH (jr R m)<=7:=by
   cases h:jr R m with
   |none=>exact mi _
   |some x=>obtain⟨r,hr,_,e⟩:=mT h;exact hS.2 r hr x e
  rw[de];lia
theorem bM.NC(hL:2<=L):∀{R:VI (VI bG)} {m x:VE},(∀r∈R,aZ L r/\Short r)->Mark L m->bM L R m (some x)->Mark L x/\x.length<=8*R.length+m.length
 |[],m,x,_,M,a=>by
  have e:some x=some m:=a;injection e with e
  subst e;exact⟨M,by lia⟩
 |r::R,m,x,O,M,a=>by
  rcases a with⟨z,a1,a2⟩|⟨a1,a2⟩
  .obtain⟨o1,o2⟩:=O r bp;obtain⟨M1,l1⟩:=kZ.NC o1 o2 hL M a1;obtain⟨M2,l2⟩:=bM.NC hL (λr h=>O r (dA _ h)) M1 a2;exact⟨M2,by rw[kS];lia⟩
  .cases a2
theorem rJ(fr:VF):∀(g:Nat) (l:VI (VE×Bool)) (r:bG),r∈fO fr g l->(r.1,r.2.isSome)∈l
 |g,[],r,h=>(nomatch h)
 |g,(m,true)::l,r,h=>by
  rw[fO] at h
  rcases gL.mp h with rfl|h
  .exact bp
  .exact dA _ (rJ fr _ l r h)
 |g,(m,false)::l,r,h=>by
  rw[fO] at h
  rcases gL.mp h with rfl|h
  .exact bp
  .exact dA _ (rJ fr _ l r h)
theorem Ie{r:bG}(h:r∈bE L zs ks n):r.2.isSome = !decide (r.1∈ks):=by
 have:=rJ _ _ _ _ h;obtain⟨m,_,e⟩:=km.mp this;injection e with e1 e2
 rw[<-e1,e2]
theorem Ky(h:m∈zs):∃r∈bE L zs ks n,r.1=m:=by
 have:m∈(bE L zs ks n).map (·.1):=by
  unfold bE;rw[gP,lA,mv];exact km.mpr ⟨m,h,rfl⟩
 obtain⟨r,hr,e⟩:=km.mp this;exact⟨r,hr,e⟩
theorem eK.few{m:Nat}(hL:2<=L)(R:eK L m n)(hm:m<=62):n<=6:=by
 rcases QQ 6 n with z|z
 .have h1:=R.less 6 z;have h2:2^6<=L^6:=Wm hL _;have h3:(2:Nat)^6=64:=by decide
  lia
 .exact z
theorem ug{k b:Nat}(W:gC L kvs ks k b)(hL:2<=L)(hk:k<=60)(hb:b<=500)(A:yf kvs zs)(R:eK L (cZ (lA zs ks)) n):aZ L (bE L zs ks n)/\Short (bE L zs ks n):=by
 have zl:zs.length<=k:=by rw[A.perm.length_eq,aw];exact W.few
 have sl:cZ (lA zs ks)<=62:=by
  have:=vM (lA zs ks);rw[lA,aw] at this;rw[lA];lia
 have n6:=R.few hL sl;have ol:(bE L zs ks n).map (·.1)=zs:=by
  unfold bE;rw[gP,lA,mv];exact Xk _
 have nw:∀y∈bE L zs ks n,∀z,y.2=some z->Mark L z/\z.length<=7:=λy hy z hz=>by
  have:z∈(bE L zs ks n).filterMap (·.2):=Gc.mpr ⟨y,hy,hz⟩;rw[jU] at this;obtain⟨m1,m2⟩:=vK ⋯ R z this;exact⟨m1,by lia⟩
 refine⟨⟨?_,λr hr=>?_,?_,λr hr z hz=>?_,?_⟩,⟨by have:=tz List.length ol;rw[aw] at this;lia,λy hy z hz=>(nw y hy z hz).2⟩⟩
 .have:=A.up;rw[<-ol] at this;exact mB.mp this
 .have:=W.mark (A.perm.mem_iff.mp (lR hr));exact⟨this.1,by lia⟩
 .have:=zo ⋯ R;rw[<-jU (zs:=zs) (ks:=ks)] at this;exact(List.pairwise_filterMap.mp this).imp λh x y hx hy=>h x hx y hy
 .have:=nw r hr z hz;exact⟨this.1,by lia⟩
 .have:=tz List.length ol;rw[aw] at this;lia
structure HK(L c:Nat)(Bs:VI dY)(Ts:VI oY)(kn tk:Nat->Prop)(R:VI (VI bG))(kvs:VG)(ks:VF):Prop where
 nf:∃zs ws,Told kvs ks zs ws/\NF L R Bs Ts kn tk zs ws
 kw:gC L kvs ks Bs.length (c+8*R.length)
 ro:∀r∈R,aZ L r/\Short r
theorem zO(kvs:VG)(ks:VF)(h:(kvs.map (·.1)).Nodup)(h':ks.Nodup):∃zs ws,Told kvs ks zs ws:=by
 obtain⟨ws,u,m⟩:=rG ks;obtain⟨ms,u2,m2⟩:=rG (kvs.map (·.1));have e:(ms.map λm=>(m,au kvs m)).map (·.1)=ms:=by rw[mv];exact Xk _
 refine⟨ms.map λm=>(m,au kvs m),ws,⟨?_,by rw[e];exact u2,(my (bJ u) h').mpr m,u⟩⟩;have n1:(ms.map λm=>(m,au kvs m)).Nodup:=by
  have:=bJ u2;rw[<-e] at this;exact(mB.mp this).imp λh z=>h (by rw[z])
 have n2:kvs.Nodup:=(mB.mp h).imp λh z=>h (by rw[z]);refine(my n1 n2).mpr λz=>?_;constructor
 .intro hz;obtain⟨m,hm,rfl⟩:=km.mp hz;exact cW kvs ((m2 m).mp hm)
 .intro hz;refine km.mpr ⟨z.1,(m2 _).mpr (Fn (f:=(·.1)) hz),?_⟩;exact DQ h (cW kvs (Fn (f:=(·.1)) hz)) hz rfl
section
variable{L c:Nat}{Bs:VI dY}{Ts:VI oY}{kn tk:Nat->Prop}{R:VI (VI bG)}{kvs zs:VG}{ks ws:VF}
theorem NF.grow(A:NF L R Bs Ts kn tk zs ws)(hk:∀k,kn k->k<Bs.length)(ht:∀k,tk k->k<Ts.length)(Bx:VI dY)(Tx:VI oY):NF L R (Bs++Bx) (Ts++Tx) kn tk zs ws:=by
 have e1:∀k,kn k->(Bs++Bx)[k]?=Bs[k]?:=λk h=>lr (hk k h);have e2:∀k,tk k->(Ts++Tx)[k]?=Ts[k]?:=λk h=>lr (ht k h);obtain⟨S,M,h⟩:=A.th;refine⟨⟨S,M,λq=>?_⟩,A.kup,λm=>?_,λk b hk e=>A.bag k b hk (by rw[<-e1 k hk];exact e),λk b hk e=>A.tag k b hk (by rw[<-e2 k hk];exact e)⟩
 .rw[h];constructor
  .rintro⟨k,b,a,e,x⟩;exact⟨k,b,a,by rw[e1 k a];exact e,x⟩
  .rintro⟨k,b,a,e,x⟩;exact⟨k,b,a,by rw[<-e1 k a];exact e,x⟩
 .rw[A.tks];constructor
  .rintro⟨k,b,a,e,x⟩;exact⟨k,b,a,by rw[e2 k a];exact e,x⟩
  .rintro⟨k,b,a,e,x⟩;exact⟨k,b,a,by rw[<-e2 k a];exact e,x⟩
theorem mX{x:VE}:bM L [] m (some x)↔x=m:=by
 show some x=some m↔_;simp
theorem HK.put(A:HK L c Bs Ts kn tk R kvs ks)(hk:∀k,kn k->k<Bs.length)(ht:∀k,tk k->k<Ts.length){t:VE}(hm:Mark L m)(hl:m.length<=c+8*R.length+1)(th:Thing t)(hn:¬m∈kvs.map (·.1)):
  HK L (c+1) (Bs++[(R.length,m,t)]) Ts (λk=>kn k\/k=Bs.length) tk R (kvs++[(m,t)]) ks:=by
 obtain⟨zs,ws,T,N⟩:=A.nf;have kw:=A.kw.put hm hl th hn;obtain⟨zs2,ws2,T2⟩:=zO (kvs++[(m,t)]) ks kw.nd kw.tnd;have ew:ws2=ws:=fD (T2.tperm.trans T.tperm.symm) T2.tup T.tup;subst ew;have N':=N.grow hk ht [(R.length,m,t)] [];rw[fw] at N';obtain⟨S,M,h⟩:=N'.th;refine⟨⟨zs2,ws2,T2,⟨S++[(m,t)],⟨T2.up,λz hz=>?_,λq hq=>?_⟩,λq=>?_⟩,N'.kup,N'.tks,λk b Ys e=>?_,N'.tag⟩,⟨kw.nd,λkv h=>by have:=kw.mar kv h;exact⟨this.1,by lia,this.2.2⟩,by have:=kw.few;rw[de];simpa using this,kw.sub,kw.tnd⟩,A.ro⟩
 .rcases eP.mp (T2.perm.mem_iff.mp hz) with hz|hz
  .exact hU _ (M.mem z (T.perm.mem_iff.mpr hz))
  .exact dC _ hz
 .rcases eP.mp hq with hq|hq
  .obtain⟨z,hz,e⟩:=M.all q hq;exact⟨z,T2.perm.mem_iff.mpr (hU _ (T.perm.mem_iff.mp hz)),e⟩
  .exact⟨q,T2.perm.mem_iff.mpr (dC _ hq),rfl,hX _⟩
 .rw[eP,h];constructor
  .rintro(⟨k,b,a,x⟩|hq)
   .exact⟨k,b,.inl a,x⟩
   .rw[bc.mp hq];refine⟨Bs.length,(R.length,m,t),.inr rfl,by rw[kf (bb _),SF];rfl,?_,rfl⟩;show bM L (R.drop R.length) m (some m);rw[WL];exact mX.mpr rfl
  .rintro⟨k,b,a|rfl,e,x1,x2⟩
   .exact .inl ⟨k,b,a,e,x1,x2⟩
   .rw[kf (bb _),SF] at e;injection e with e
    subst e;have x1:bM L (R.drop R.length) m (some q.1):=x1;rw[WL,mX] at x1;exact .inr (bc.mpr (Xy x1 x2.symm))
 .rcases Ys with a|rfl
  .exact N'.bag k b a e
  .rw[kf (bb _),SF] at e;injection e with e
   subst e;exact bb _
theorem HK.take(A:HK L c Bs Ts kn tk R kvs ks)(hk:∀k,kn k->k<Bs.length)(ht:∀k,tk k->k<Ts.length)(hm:m∈kvs.map (·.1))(hn:¬m∈ks):
  HK L c Bs (Ts++[(R.length,m)]) kn (λk=>tk k\/k=Ts.length) R kvs (ks++[m]):=by
 obtain⟨zs,ws,T,N⟩:=A.nf;have kw:=A.kw.take hm hn;obtain⟨zs2,ws2,T2⟩:=zO kvs (ks++[m]) kw.nd kw.tnd;have ez:zs2=zs:=up_eq T2.up T.up λz=>(T2.perm.mem_iff).trans T.perm.mem_iff.symm;subst ez;have N':=N.grow hk ht [] [(R.length,m)];rw[fw] at N';refine⟨⟨zs2,ws2,T2,N'.th,T2.tup,λy=>?_,N'.bag,λk b Ys e=>?_⟩,kw,A.ro⟩
 .rw[T2.tperm.mem_iff,eP,<-T.tperm.mem_iff,N'.tks];constructor
  .rintro(⟨k,b,a,x⟩|hq)
   .exact⟨k,b,.inl a,x⟩
   .rw[bc.mp hq];refine⟨Ts.length,(R.length,m),.inr rfl,by rw[kf (bb _),SF];rfl,?_⟩;show bM L (R.drop R.length) m (some m);rw[WL];exact mX.mpr rfl
  .rintro⟨k,b,a|rfl,e,x1⟩
   .exact .inl ⟨k,b,a,e,x1⟩
   .rw[kf (bb _),SF] at e;injection e with e
    subst e;have x1:bM L (R.drop R.length) m (some y):=x1;rw[WL,mX] at x1;exact .inr (bc.mpr x1)
 .rcases Ys with a|rfl
  .exact N'.tag k b a e
  .rw[kf (bb _),SF] at e;injection e with e
   subst e;exact bb _
end
section
variable{L c:Nat}{Bs:VI dY}{Ts:VI oY}{kn tk Yk Yg:Nat->Prop}{R:VI (VI bG)}{kvs zs XT xs:VG}{ks ws X0 js:VF}
theorem rK{α:Type}{R:VI α}{r:α}(h:i<=R.length):(R++[r]).drop i=R.drop i++[r]:=xa h
theorem jV{r:VI bG}{x:VE}:bM L [r] m (some x)↔kZ L r m (some x):=by
 constructor
 .rintro(⟨y,c,e⟩|⟨_,e⟩)
  .have e:some x=some y:=e;injection e with e
   rw[e];exact c
  .cases e
 .intro h;exact .inl ⟨x,h,rfl⟩
theorem HK.nV{ms:VF}(A:HK L c Bs Ts kn tk R kvs ks)(hL:2<=L)(hB:Bs.length<=60)(hc:c+8*R.length<=500)(AK:yf kvs ms)(IR:eK L (cZ (lA ms ks)) n):HK L c Bs Ts kn tk (R++[bE L ms ks n]) (c8 kvs (bE L ms ks n)) []:=by
 obtain⟨zs,ws,T,N⟩:=A.nf;obtain⟨O,Sh⟩:=ug A.kw hL hB hc AK IR;have kw:=A.kw.nV hL AK IR;have row:∀m∈kvs.map (·.1),∃r∈bE L ms ks n,r.1=m:=λm hm=>Ky (AK.perm.mem_iff.mpr hm);have Oo:∀r∈bE L ms ks n,r.2.isSome = !decide (r.1∈ks):=λr hr=>Ie hr;have old:∀r∈bE L ms ks n,r.1∈kvs.map (·.1):=λr hr=>AK.perm.mem_iff.mp (lR hr);generalize bE L ms ks n=rw at O Sh kw row Oo old;obtain⟨zs2,ws2,T2⟩:=zO (c8 kvs rw) [] kw.nd TC;have ew:ws2=[]:=List.perm_nil.mp T2.tperm;subst ew;obtain⟨S,M,h⟩:=N.th;obtain⟨S',h'⟩:=oZ hL (D:=[rw]) (λr hr=>by rw[bc.mp hr];exact O) S;have mk:∀z,z∈zs2↔∃r∈rw,r.2=some z.1/\z.2=au kvs r.1:=λz=>by
  rw[T2.perm.mem_iff];unfold c8;rw[Gc];constructor
  .rintro⟨r,hr,e⟩;obtain⟨y,e1,e2⟩:=eM.mp e;subst e2;exact⟨r,hr,e1,rfl⟩
  .rintro⟨r,hr,e1,e2⟩;exact⟨r,hr,by rw[e1];show some (z.1,au kvs r.1)=some z;rw[<-e2]⟩
 refine⟨⟨zs2,[],T2,⟨S',⟨T2.up,λz hz=>?_,λq hq=>?_⟩,λq=>?_⟩,T2.tup,λm=>⟨λz=>(nomatch z),?_⟩,λk b hk e=>?_,λk b hk e=>?_⟩,⟨kw.nd,λkv Yh=>?_,kw.few,kw.sub,kw.tnd⟩,λr hr=>?_⟩
 .obtain⟨r,hr,e1,e2⟩:=(mk z).mp hz;refine(h' z).mpr ⟨(r.1,au kvs r.1),M.mem _ (T.perm.mem_iff.mpr (cW kvs (old r hr))),jV.mpr (.inl ⟨r,hr,rfl,e1.symm⟩),e2.symm⟩
 .obtain⟨s,hs,cs,es⟩:=(h' q).mp hq;obtain⟨z,hz,e1,n1⟩:=M.all s hs;have zk:=T.perm.mem_iff.mp hz;have zm:s.1∈kvs.map (·.1):=by rw[<-e1];exact Fn (f:=(·.1)) zk
  obtain⟨r,hr,er⟩:=row _ zm;have e2:=kZ.one O hL (jV.mp cs) (.inl ⟨r,hr,er,rfl⟩);have e3:(s.1,au kvs s.1)=z:=DQ A.kw.nd (cW kvs zm) zk e1.symm;refine⟨(q.1,au kvs s.1),(mk _).mpr ⟨r,hr,e2.symm,by rw[er]⟩,rfl,?_⟩;rw[<-es];rw[<-e3] at n1;exact n1
 .rw[h'];constructor
  .rintro⟨s,hs,cs,es⟩;obtain⟨k,b,a,e,x1,x2⟩:=(h s).mp hs;exact⟨k,b,a,e,by rw[rK (N.bag k b a e)];exact bM.app.mpr ⟨s.1,x1,cs⟩,x2.trans es⟩
  .rintro⟨k,b,a,e,x1,x2⟩;rw[rK (N.bag k b a e)] at x1;obtain⟨y,y1,y2⟩:=bM.app.mp x1;exact⟨(y,q.2),(h _).mpr ⟨k,b,a,e,y1,x2⟩,y2,rfl⟩
 .rintro⟨k,b,a,e,x1⟩;rw[rK (N.tag k b a e)] at x1;obtain⟨y,y1,y2⟩:=bM.app.mp x1;have yk:y∈ks:=T.tperm.mem_iff.mp ((N.tks y).mpr ⟨k,b,a,e,y1⟩);obtain⟨r,hr,er⟩:=row y (A.kw.sub y yk);have e2:=kZ.one O hL (jV.mp y2) (.inl ⟨r,hr,er,rfl⟩);have e3:=Oo r hr;rw[<-e2,er,dr yk] at e3;cases e3
 .rw[de];have:=N.bag k b hk e;lia
 .rw[de];have:=N.tag k b hk e;lia
 .have:=kw.mar kv Yh;have h1:kv.1∈(c8 kvs rw).map (·.1):=Fn (f:=(·.1)) Yh;rw[jT] at h1;obtain⟨r,hr,e⟩:=Gc.mp h1;have:=Sh.2 r hr _ e;refine⟨(kw.mar kv Yh).1,?_,(kw.mar kv Yh).2.2⟩;rw[de];simp only[length_cons,length_nil];lia
 .rcases eP.mp hr with hr|hr
  .exact A.ro r hr
  .rw[bc.mp hr];exact⟨O,Sh⟩
structure SK(L c:Nat)(Bs:VI dY)(Ts:VI oY)(kn tk:Nat->Prop)(R:VI (VI bG))(zs:VG)(ws:VF):Prop where
 nf:NF L R Bs Ts kn tk zs ws
 mar:∀z∈zs,Mark L z.1/\z.1.length<=c+8*R.length/\Thing z.2
 sub:∀m∈ws,m∈zs.map (·.1)
 ro:∀r∈R,aZ L r/\Short r
theorem HK.told(A:HK L c Bs Ts kn tk R kvs ks)(T:Told kvs ks zs ws):SK L c Bs Ts kn tk R zs ws:=by
 obtain⟨zs0,ws0,T0,N⟩:=A.nf;obtain⟨rfl,rfl⟩:=T.one T0;exact⟨N,λz hz=>A.kw.mar z (T.perm.mem_iff.mp hz),λm hm=>(T.perm.map _).mem_iff.mpr (A.kw.sub m (T.tperm.mem_iff.mp hm)),A.ro⟩
theorem SK.hk(A:SK L c Bs Ts kn tk R zs ws)(hL:2<=L):HK L c Bs Ts kn tk R zs ws:=
 ⟨⟨zs,ws,⟨.refl _,A.nf.up,.refl _,A.nf.kup⟩,A.nf⟩,⟨bJ A.nf.up,A.mar,(A.nf.len hL λr hr=>(A.ro r hr).1).1,A.sub,bJ A.nf.kup⟩,A.ro⟩
theorem HK.grow(A:HK L c Bs Ts kn tk R kvs ks)(hk:∀k,kn k->k<Bs.length)(ht:∀k,tk k->k<Ts.length)(Bx:VI dY)(Tx:VI oY){c':Nat}(hc:c<=c'):HK L c' (Bs++Bx) (Ts++Tx) kn tk R kvs ks:=by
 obtain⟨zs,ws,T,N⟩:=A.nf;exact⟨⟨zs,ws,T,N.grow hk ht Bx Tx⟩,⟨A.kw.nd,λz hz=>by have:=A.kw.mar z hz;exact⟨this.1,by lia,this.2.2⟩,by have:=A.kw.few;rw[de];lia,A.kw.sub,A.kw.tnd⟩,A.ro⟩
theorem SK.join(A:SK L c Bs Ts kn tk (R.take n) zs ws)(B:SK L c Bs Ts Yk Yg R XT X0)(hL:2<=L)(hn:n<=R.length)(l:Laid L (R.drop n) zs ws XT X0 xs js):SK L c Bs Ts (λk=>kn k\/Yk k) (λk=>tk k\/Yg k) R xs js:=by
 have O:∀r∈R,aZ L r:=λr hr=>(B.ro r hr).1;have OD:∀r∈R.drop n,aZ L r/\Short r:=λr hr=>B.ro r (Xz _ _ hr);obtain⟨S,M,h⟩:=l.th;refine⟨A.nf.join hL O hn B.nf l,λz hz=>?_,λm hm=>?_,B.ro⟩
 .rcases (h z).mp (M.mem z hz) with⟨z0,h0,c0,e0⟩|h0
  .obtain⟨m1,m2,m3⟩:=A.mar z0 h0;obtain⟨a,b⟩:=c0.NC hL OD m1;rw[fg,oe hn] at m2;rw[TB] at b;exact⟨a,by lia,by rw[<-e0];exact m3⟩
  .exact B.mar z h0
 .have put:∀q:VE×VE,q∈S->q.1∈xs.map (·.1):=λq hq=>by
   obtain⟨z,hz,e,_⟩:=M.all q hq;rw[<-e];exact Fn (f:=(·.1)) hz
  rcases (l.tk m).mp hm with⟨w,hw,cw⟩|hw
  .obtain⟨z,hz,e⟩:=km.mp (A.sub w hw);exact put (m,z.2) ((h _).mpr (.inl ⟨z,hz,by rw[e];exact cw,rfl⟩))
  .obtain⟨z,hz,e⟩:=km.mp (B.sub m hw);have:=put z ((h _).mpr (.inr hz));rw[e] at this;exact this
theorem SK.Kz(A:SK L c Bs Ts kn tk (R.take n) zs ws)(B:SK L c Bs Ts Yk Yg R XT X0)(hL:2<=L)(cP:L<=26)(hn:n<=R.length)(few:R.length<=100)(hB:Bs.length<=31)(hT:Ts.length<=31)(hc:c<=1000):E9 L n R zs ws XT X0:=by
 have O:∀r∈R,aZ L r:=λr hr=>(B.ro r hr).1;have a:=A.nf.len hL λr hr=>(A.ro r hr).1;have b:=B.nf.len hL O;have zm:∀m∈zs.map (·.1),Mark L m/\m.length<=30000:=λm hm=>by
  obtain⟨z,hz,rfl⟩:=km.mp hm;obtain⟨m1,m2,_⟩:=A.mar z hz;rw[fg] at m2;exact⟨m1,by lia⟩
 refine⟨hL,cP,hn,few,O,λm hm=>?_,by lia,by lia,by lia⟩
 rcases eP.mp hm with h|h
 .exact zm m h
 .exact zm m (A.sub m h)
end
theorem jR.keep{x pt:θ}(S:jR C H x dx pr pt pk L h j kvs ks)(k:Keeps F H H')(n1:x∉F)(n2:dx∉F)(n3:pt∉F)(n4:pk∉F):jR C H' x dx pr pt pk L h j kvs ks:=
 ⟨k _ _ S.ins n1,k _ _ S.own n2,k _ _ S.tho n3,k _ _ S.tak n4,S.apart⟩
theorem HQ.keep{R:VI (VI bG)}(A:HQ H pr as R)(k:Keeps F H H')(ht:∀t∈F,∀ys,H t≠some (.tup ys))(n1:pr∉F)(n2:∀a∈as,a∉F):HQ H' pr as R:=
 ⟨k _ _ A.lst n1,A.row.keep k ht n2,A.out⟩
theorem bI.mem{R:VI (VI bG)}(h:bI H as R)(ha:a∈as):∃xs,H a=some (.lst xs):=by
 obtain⟨i,hi,e⟩:=xn.mp ha;obtain⟨r,xs,_,e2,_⟩:=h.get (i:=i) (a:=a) (by rw[dk hi,e]);exact⟨xs,e2⟩
structure HR where
 (x dx pr pt pk:θ) (as:VI θ) (j n:Nat) (kvs:VG) (ks:VF) (kn tk:Nat->Prop)
def dZ(f:Nat->HR)(i:Nat)(r:HR):Nat->HR:=λk=>if k=i then r else f k
theorem aB{f:Nat->HR}{r:HR}:dZ f i r i=r:=df rfl
theorem aL{f:Nat->HR}{k:Nat}{r:HR}(h:k≠i):dZ f i r k=f k:=cq h
structure eY(C:θ)(H0 H:Hp)(L h c:Nat)(Bs:VI dY)(Ts:VI oY)(RR:VI (VI bG))(N:Nat)(f:Nat->HR):Prop where
 hnd:∀i,i<N->jR C H (f i).x (f i).dx (f i).pr (f i).pt (f i).pk L h (f i).j (f i).kvs (f i).ks
 ren:∀i,i<N->HQ H (f i).pr (f i).as (RR.take (f i).n)
 hk:∀i,i<N->HK L c Bs Ts (f i).kn (f i).tk (RR.take (f i).n) (f i).kvs (f i).ks
 kb:∀i,i<N->∀k,(f i).kn k->k<Bs.length
 tb:∀i,i<N->∀k,(f i).tk k->k<Ts.length
 nl:∀i,i<N->(f i).n<=RR.length
 n0:(f 0).n=RR.length
 hs:∀i,i<N->jO L h (f i).j
 j0:(f 0).j=0
 pos:0<N
 ax:∀i,i<N->∀k,k<N->i≠k->(f i).x≠(f k).x
 at_:∀i,i<N->∀k,k<N->i≠k->(f i).pt≠(f k).pt
 ak:∀i,i<N->∀k,k<N->i≠k->(f i).pk≠(f k).pk
 atk:∀i,i<N->∀k,k<N->(f i).pt≠(f k).pk
 ar:∀i,i<N->i≠0->(f i).pr≠(f 0).pr
 aa:∀i,i<N->¬(f 0).pr∈(f i).as
 bs:aG H0 H
 f0:∀i,i<N->H0 (f i).x=none/\H0 (f i).pt=none/\H0 (f i).pk=none/\H0 (f i).pr=none
section
variable{C:θ}{H0 H H':Hp}{L h c c':Nat}{Bs Bx:VI dY}{Ts Tx:VI oY}{RR Rx:VI (VI bG)}{N i0:Nat}{f:Nat->HR}{F:VI θ}{r:HR}
theorem gc{o u:HO}(e:H a=some o)(g:H b=some u)(n:o≠u):a≠b:=λz=>by
 subst z;rw[e] at g;exact n (eI g)
theorem eY.same(T:eY C H0 H L h c Bs Ts RR N f)(s:aG H H'):eY C H0 H' L h c Bs Ts RR N f:=
 {T with hnd:=λi hi=>(T.hnd i hi).same s,ren:=λi hi=>(T.ren i hi).same s,bs:=T.bs.trans s}
def Wr(f:Nat->HR)(i0:Nat)(F:VI θ):Prop:=∀t∈F,t=(f i0).x\/t=(f i0).pt\/t=(f i0).pk\/(t=(f i0).pr/\i0=0)
theorem eY.Fc(T:eY C H0 H L h c Bs Ts RR N f)(Yr:i0<N)(hF:Wr f i0 F):∀t∈F,∀ys,H t≠some (.tup ys):=λt ht ys e=>by
 have S:=T.hnd i0 Yr
 rcases hF t ht with z|z|z|⟨z,_⟩
 .exact gc e S.ins (nofun) z
 .exact gc e S.tho (nofun) z
 .exact gc e S.tak (nofun) z
 .exact gc e (T.ren i0 Yr).lst (nofun) z
theorem eY.out(T:eY C H0 H L h c Bs Ts RR N f)(Yr:i0<N)(hF:Wr f i0 F)(hi:i<N)(ne:i≠i0):
  (f i).x∉F/\(f i).dx∉F/\(f i).pt∉F/\(f i).pk∉F/\(f i).pr∉F/\∀a∈(f i).as,a∉F:=by
 have S:=T.hnd i0 Yr;have S':=T.hnd i hi;have A:=T.ren i0 Yr;have A':=T.ren i hi;refine⟨λz=>?_,λz=>?_,λz=>?_,λz=>?_,λz=>?_,λa ha z=>?_⟩
 .rcases hF _ z with z|z|z|⟨z,_⟩
  .exact T.ax i hi i0 Yr ne z
  .exact gc S'.ins S.tho (nofun) z
  .exact gc S'.ins S.tak (nofun) z
  .exact gc S'.ins A.lst (nofun) z
 .rcases hF _ z with z|z|z|⟨z,_⟩
  .exact gc S'.own S.ins (nofun) z
  .exact gc S'.own S.tho (nofun) z
  .exact gc S'.own S.tak (nofun) z
  .exact gc S'.own A.lst (nofun) z
 .rcases hF _ z with z|z|z|⟨z,_⟩
  .exact gc S'.tho S.ins (nofun) z
  .exact T.at_ i hi i0 Yr ne z
  .exact T.atk i hi i0 Yr z
  .exact gc S'.tho A.lst (nofun) z
 .rcases hF _ z with z|z|z|⟨z,_⟩
  .exact gc S'.tak S.ins (nofun) z
  .exact T.atk i0 Yr i hi z.symm
  .exact T.ak i hi i0 Yr ne z
  .exact gc S'.tak A.lst (nofun) z
 .rcases hF _ z with z|z|z|⟨z,e⟩
  .exact gc A'.lst S.ins (nofun) z
  .exact gc A'.lst S.tho (nofun) z
  .exact gc A'.lst S.tak (nofun) z
  .subst e;exact T.ar i hi ne z
 .obtain⟨xs,e⟩:=A'.row.mem ha
  rcases hF _ z with z|z|z|⟨z,e0⟩
  .exact gc e S.ins (nofun) z
  .exact gc e S.tho (nofun) z
  .exact gc e S.tak (nofun) z
  .subst e0;exact T.aa i hi (by rw[<-z];exact ha)
theorem fresh_ne{o:HO}(e:H a=some o)(g:H b=none):a≠b:=λz=>by subst z;rw[e] at g;cases g
theorem eY.move(T:eY C H0 H L h c Bs Ts RR N f)(Yr:i0<N)(k:Keeps F H H')(hF:Wr f i0 F)(rx:r.x=(f i0).x)(rj:r.j=(f i0).j)
  (S:jR C H' r.x r.dx r.pr r.pt r.pk L h r.j r.kvs r.ks) (A:HQ H' r.pr r.as ((RR++Rx).take r.n)) (W:HK L c' (Bs++Bx) (Ts++Tx) r.kn r.tk ((RR++Rx).take r.n) r.kvs r.ks) (hc:c<=c')
  (kb:∀k,r.kn k->k<(Bs++Bx).length) (tb:∀k,r.tk k->k<(Ts++Tx).length) (rn:r.n<=(RR++Rx).length) (n0:i0=0->r.n=(RR++Rx).length) (r0:i0≠0->Rx=[])
  (fpt:r.pt=(f i0).pt\/H r.pt=none) (fpk:r.pk=(f i0).pk\/H r.pk=none) (fpr:r.pr=(f i0).pr\/H r.pr=none) (fas:∀a∈r.as,a∈(f i0).as\/H a=none):
  eY C H0 H' L h c' (Bs++Bx) (Ts++Tx) (RR++Rx) N (dZ f i0 r):=by
 have tk:∀i,i<N->(RR++Rx).take (f i).n=RR.take (f i).n:=λi hi=>xb (T.nl i hi);have S0:=T.hnd i0 Yr;have g0:=T.f0 i0 Yr;have upt:∀i,i<N->i≠i0->(f i).pt≠r.pt/\(f i).pk≠r.pt:=λi hi ne=>by
  rcases fpt with e|e
  .rw[e];exact⟨T.at_ i hi i0 Yr ne,λz=>T.atk i0 Yr i hi z.symm⟩
  .exact⟨fresh_ne (T.hnd i hi).tho e,fresh_ne (T.hnd i hi).tak e⟩
 have upk:∀i,i<N->i≠i0->(f i).pk≠r.pk/\(f i).pt≠r.pk:=λi hi ne=>by
  rcases fpk with e|e
  .rw[e];exact⟨T.ak i hi i0 Yr ne,T.atk i hi i0 Yr⟩
  .exact⟨fresh_ne (T.hnd i hi).tak e,fresh_ne (T.hnd i hi).tho e⟩
 have free:∀{b:θ},H b=none->H0 b=none:=λe=>T.bs.bg e;have f0':H0 r.x=none/\H0 r.pt=none/\H0 r.pk=none/\H0 r.pr=none:=by
  refine⟨by rw[rx];exact g0.1,?_,?_,?_⟩
  .rcases fpt with e|e
   .rw[e];exact g0.2.1
   .exact free e
  .rcases fpk with e|e
   .rw[e];exact g0.2.2.1
   .exact free e
  .rcases fpr with e|e
   .rw[e];exact g0.2.2.2
   .exact free e
 have hF0:∀t∈F,H0 t=none:=λt ht=>by
  rcases hF t ht with z|z|z|⟨z,_⟩<;>rw[z]
  .exact g0.1
  .exact g0.2.1
  .exact g0.2.2.1
  .exact g0.2.2.2
 refine {hnd:=λi hi=>?_,ren:=λi hi=>?_,hk:=λi hi=>?_,kb:=λi hi=>?_,tb:=λi hi=>?_,nl:=λi hi=>?_,n0:=?_,hs:=λi hi=>?_,j0:=?_,pos:=T.pos,ax:=λi hi k hk ne=>?_,at_:=λi hi k hk ne=>?_,ak:=λi hi k hk ne=>?_,atk:=λi hi k hk=>?_,ar:=λi hi ne=>?_,aa:=λi hi=>?_,bs:=cj T.bs k hF0,f0:=λi hi=>?_}
 .by_cases e:i=i0
  .subst e;rw[aB];exact S
  .rw[aL e];obtain⟨o1,o2,o3,o4,_,_⟩:=T.out Yr hF hi e;exact(T.hnd i hi).keep k o1 o2 o3 o4
 .by_cases e:i=i0
  .subst e;rw[aB];exact A
  .rw[aL e,tk i hi];obtain⟨_,_,_,_,o5,o6⟩:=T.out Yr hF hi e;exact(T.ren i hi).keep k (T.Fc Yr hF) o5 o6
 .by_cases e:i=i0
  .subst e;rw[aB];exact W
  .rw[aL e,tk i hi];exact(T.hk i hi).grow (T.kb i hi) (T.tb i hi) Bx Tx hc
 .by_cases e:i=i0
  .subst e;rw[aB];exact kb
  .rw[aL e,de];intro k hk;have:=T.kb i hi k hk;lia
 .by_cases e:i=i0
  .subst e;rw[aB];exact tb
  .rw[aL e,de];intro k hk;have:=T.tb i hi k hk;lia
 .by_cases e:i=i0
  .subst e;rw[aB];exact rn
  .rw[aL e,de];have:=T.nl i hi;lia
 .by_cases e:(0:Nat)=i0
  .subst e;rw[aB];exact n0 rfl
  .rw[aL e,r0 (λz=>e z.symm),fw];exact T.n0
 .by_cases e:i=i0
  .subst e;rw[aB,rj];exact T.hs i hi
  .rw[aL e];exact T.hs i hi
 .by_cases e:(0:Nat)=i0
  .subst e;rw[aB,rj];exact T.j0
  .rw[aL e];exact T.j0
 .by_cases e:i=i0
  .subst e;rw[aB,aL (du ne),rx];exact T.ax i hi k hk ne
  .rw[aL e]
   by_cases e2:k=i0
   .subst e2;rw[aB,rx];exact T.ax i hi k hk ne
   .rw[aL e2];exact T.ax i hi k hk ne
 .by_cases e:i=i0
  .subst e;rw[aB,aL (du ne)];exact du (upt k hk (du ne)).1
  .rw[aL e]
   by_cases e2:k=i0
   .subst e2;rw[aB];exact(upt i hi e).1
   .rw[aL e2];exact T.at_ i hi k hk ne
 .by_cases e:i=i0
  .subst e;rw[aB,aL (du ne)];exact du (upk k hk (du ne)).1
  .rw[aL e]
   by_cases e2:k=i0
   .subst e2;rw[aB];exact(upk i hi e).1
   .rw[aL e2];exact T.ak i hi k hk ne
 .by_cases e:i=i0
  .subst e;rw[aB]
   by_cases e2:k=i
   .subst e2;rw[aB];exact S.apart
   .rw[aL e2];exact du (upt k hk e2).2
  .rw[aL e]
   by_cases e2:k=i0
   .subst e2;rw[aB];exact(upk i hi e).2
   .rw[aL e2];exact T.atk i hi k hk
 .by_cases e:i=i0
  .subst e;rw[aB,aL (du ne)]
   rcases fpr with z|z
   .rw[z];exact T.ar i hi ne
   .exact du (fresh_ne (T.ren 0 T.pos).lst z)
  .rw[aL e]
   by_cases e2:(0:Nat)=i0
   .subst e2;rw[aB]
    rcases fpr with z|z
    .rw[z];exact T.ar i hi ne
    .exact fresh_ne (T.ren i hi).lst z
   .rw[aL e2];exact T.ar i hi ne
 .by_cases e2:(0:Nat)=i0
  .subst e2;rw[aB]
   by_cases e:i=0
   .subst e;rw[aB];exact A.out
   .rw[aL e]
    rcases fpr with z|z
    .rw[z];exact T.aa i hi
    .intro y;obtain⟨xs,w⟩:=(T.ren i hi).row.mem y;rw[z] at w;cases w
  .rw[aL e2]
   by_cases e:i=i0
   .subst e;rw[aB];intro y
    rcases fas _ y with z|z
    .exact T.aa i hi z
    .rw[(T.ren 0 T.pos).lst] at z;cases z
   .rw[aL e];exact T.aa i hi
 .by_cases e:i=i0
  .subst e;rw[aB];exact f0'
  .rw[aL e];exact T.f0 i hi
def Sa(pr:θ)(H H':Hp):Prop:=∀b,b≠pr->(∀xs,H b=some (.lst xs)->H' b=some (.lst xs))/\∀xs,H b=some (.tup xs)->H' b=some (.tup xs)
theorem eY.klt(T:eY C H0 H L h c Bs Ts RR N f)(Yr:i0<N)(k:Keeps F H H')(hF:Wr f i0 F):Sa (f 0).pr H H':=λb ne=>by
 have S:=T.hnd i0 Yr;refine⟨λxs e=>k _ _ e λz=>?_,λxs e=>k _ _ e λz=>T.Fc Yr hF b z xs e⟩
 rcases hF _ z with z|z|z|⟨z,e0⟩
 .exact gc e S.ins (nofun) z
 .exact gc e S.tho (nofun) z
 .exact gc e S.tak (nofun) z
 .subst e0;exact ne z
end
section
variable{C:θ}{H0 H H':Hp}{L h c c':Nat}{Bs:VI dY}{Ts:VI oY}{RR:VI (VI bG)}{N i:Nat}{f:Nat->HR}{Q:VK}{E:XK}
theorem eY.rl(T:eY C H0 H L h c Bs Ts RR N f)(hi:i<N):(RR.take (f i).n).length=(f i).n:=by rw[fg,oe (T.nl i hi)]
theorem eY.put{ct cp:θ}{t:VE}{p:Int}(T:eY C H0 H L h c Bs Ts RR N f)(hi:i<N)(hB:Bs.length<=62)(hb:c+8*RR.length<=998)(th:Thing t)
  (q:∀zs,gG (f i).kvs (f i).ks zs->(0<=p/\p<=zs.length)/\∀H' v n w m,jE (f i).kvs (dN zs p.toNat) v->Found L (bu L h (f i).j) (dN zs p.toNat) v n w m->
   eY C H0 H' L h (c+1) (Bs++[((f i).n,m,t)]) Ts RR N (dZ f i {f i with kvs:=(f i).kvs++[(m,t)],kn:=λk=>(f i).kn k\/k=Bs.length})->Sa (f 0).pr H H'->Q (.str (txt m)) H'):
  vX C ct cp [.ref (f i).x,.int p,.str (txt t)] H Q E:=by
 have W:=T.hk i hi;have rl:=T.rl hi;have nl:=T.nl i hi;refine⟨(f i).x,(f i).dx,(f i).pr,(f i).pt,(f i).pk,L,h,(f i).j,(f i).kvs,(f i).ks,Bs.length,c+8*(RR.take (f i).n).length,p,t,T.hnd i hi,T.hs i hi,W.kw,hB,by lia,eJ th.2.1 .(0),λz=>absurd th z,λzs sh=>⟨λ_ _ H' v n w m k F1 F2 S K=>?_,λ_ z=>absurd (q zs sh).1 z⟩⟩
 have mm:=K.mar (m,t) (dC _ bp);have nm:¬m∈(f i).kvs.map (·.1):=λz=>by
  have:=K.nd;rw[fi,uj] at this;exact this.2.2 m z m bp rfl
 have W2:=W.put (T.kb i hi) (T.tb i hi) mm.1 mm.2.1 th nm;rw[rl] at W2;have hF:Wr f i [(f i).pt]:=λt ht=>.inr (.inl (bc.mp ht));have rk:=(T.ren i hi).keep k (T.Fc hi hF) (λz=>gc (T.ren i hi).lst (T.hnd i hi).tho (nofun) (bc.mp z)) λa ha z=>by
  obtain⟨xs,e⟩:=(T.ren i hi).row.mem ha;exact gc e (T.hnd i hi).tho (nofun) (bc.mp z)
 have M:=T.move (Bx:=[((f i).n,m,t)]) (Tx:=[]) (Rx:=[]) (c':=c+1) (r:={f i with kvs:=(f i).kvs++[(m,t)],kn:=λk=>(f i).kn k\/k=Bs.length}) hi k hF rfl rfl S (by rw[fw];exact rk) (by rw[fw,fw];exact W2) (xc c)
  (λk hk=>by
   rw[de]
   rcases hk with hk|hk
   .have:=T.kb i hi k hk;lia
   .rw[hk];simp) (by rw[fw];exact T.tb i hi) (by rw[fw];exact nl) (λz=>by subst z;rw[fw];exact T.n0) (λ_=>rfl) (.inl rfl) (.inl rfl) (.inl rfl) λa ha=>.inl ha
 rw[fw,fw] at M;exact(q zs sh).2 H' v n w m F1 F2 M (T.klt hi k hF)
theorem HK.tl{Bs:VI dY}{Ts:VI oY}{kn tk:Nat->Prop}{R:VI (VI bG)}(W:HK L c Bs Ts kn tk R kvs ks):kvs.length<=Bs.length/\ks.length<=Bs.length:=by
 have:=bQ W.kw.tnd W.kw.sub;rw[aw] at this;have:=W.kw.few;lia
theorem eY.take{cp:θ}{p:Int}(T:eY C H0 H L h c Bs Ts RR N f)(hi:i<N)(hB:Bs.length<=62)
  (q:∀zs,gG (f i).kvs (f i).ks zs->(0<=p/\p<zs.length)/\∀H' m,zs[p.toNat]?=some m->
   eY C H0 H' L h c Bs (Ts++[((f i).n,m)]) RR N (dZ f i {f i with ks:=(f i).ks++[m],tk:=λk=>(f i).tk k\/k=Ts.length})->Sa (f 0).pr H H'->Q (.str (txt m)) H'):
  qh C cp [.ref (f i).x,.int p] H Q E:=by
 have W:=T.hk i hi;have rl:=T.rl hi;have nl:=T.nl i hi;have tl:=W.tl;refine⟨(f i).x,(f i).dx,(f i).pr,(f i).pt,(f i).pk,L,h,(f i).j,(f i).kvs,(f i).ks,p,T.hnd i hi,by lia,W.kw.nd,by lia,λzs sh=>⟨λ_ H' m em k S=>?_,λz=>absurd (q zs sh).1 z⟩⟩
 have mm:=(sh.mem m).mp (dy em);have W2:=W.take (T.kb i hi) (T.tb i hi) mm.1 mm.2;rw[rl] at W2;have hF:Wr f i [(f i).pk]:=λt ht=>.inr (.inr (.inl (bc.mp ht)));have rk:=(T.ren i hi).keep k (T.Fc hi hF) (λz=>gc (T.ren i hi).lst (T.hnd i hi).tak (nofun) (bc.mp z)) λa ha z=>by
  obtain⟨xs,e⟩:=(T.ren i hi).row.mem ha;exact gc e (T.hnd i hi).tak (nofun) (bc.mp z)
 have M:=T.move (Bx:=[]) (Tx:=[((f i).n,m)]) (Rx:=[]) (c':=c) (r:={f i with ks:=(f i).ks++[m],tk:=λk=>(f i).tk k\/k=Ts.length}) hi k hF rfl rfl S (by rw[fw];exact rk) (by rw[fw,fw];exact W2) (bb c)
  (by rw[fw];exact T.kb i hi) (λk hk=>by
   rw[de]
   rcases hk with hk|hk
   .have:=T.tb i hi k hk;lia
   .rw[hk];simp) (by rw[fw];exact nl) (λz=>by subst z;rw[fw];exact T.n0) (λ_=>rfl) (.inl rfl) (.inl rfl) (.inl rfl) λa ha=>.inl ha
 rw[fw,fw] at M;exact(q zs sh).2 H' m em M (T.klt hi k hF)
theorem eY.nV{ch:θ}(T:eY C H0 H L h c Bs Ts RR N f)(hB:Bs.length<=60)(hb:c+8*RR.length<=500)(hR:RR.length<=1000)
  (q:∀H' zs n XN XS r ys a,yf (f 0).kvs zs->eK L (cZ (lA zs (f 0).ks)) n->
   eY C H0 H' L h c Bs Ts (RR++[bE L zs (f 0).ks n]) N (dZ f 0 {f 0 with pt:=XN,pk:=XS,as:=(f 0).as++[r],n:=RR.length+1,kvs:=c8 (f 0).kvs (bE L zs (f 0).ks n),ks:=[] })->Sa (f 0).pr H H'->
   H' a=some (.lst ys)->fS H' ys ((bE L zs (f 0).ks n).map qc)->H a=none->a≠r->H r=none->Q (.ref a) H'):
  lS C ch [.ref (f 0).x] H Q E:=by
 have hi:=T.pos;have W:=T.hk 0 hi;have rl:=T.rl hi;have e0:RR.take (f 0).n=RR:=by rw[T.n0,lL]
 have d:=(T.hs 0 hi).l2;have A:=T.ren 0 hi;rw[e0] at W A;refine⟨(f 0).x,(f 0).dx,(f 0).pr,(f 0).pt,(f 0).pk,L,h,(f 0).j,(f 0).kvs,(f 0).ks,Bs.length,c+8*RR.length,(f 0).as,RR,T.hnd 0 hi,T.hs 0 hi,W.kw,by lia,A,hR,λz=>absurd T.j0 z,λ_ H' zs n XN XS r ys a AK IR k S A' e1 e2 g1 g2 g3 g4 ne=>?_⟩;have W2:=W.nV d hB hb AK IR;have hF:Wr f 0 [(f 0).x,(f 0).pr]:=λt ht=>by
  rcases gL.mp ht with e|e
  .exact .inl e
  .exact .inr (.inr (.inr ⟨bc.mp e,rfl⟩))
 have tl:(RR++[bE L zs (f 0).ks n]).take (RR.length+1)=RR++[bE L zs (f 0).ks n]:=FV .(4);have M:=T.move (Bx:=[]) (Tx:=[]) (Rx:=[bE L zs (f 0).ks n]) (c':=c) (r:={f 0 with pt:=XN,pk:=XS,as:=(f 0).as++[r],n:=RR.length+1,kvs:=c8 (f 0).kvs (bE L zs (f 0).ks n),ks:=[] }) hi k hF rfl rfl S (by rw[tl];exact A') (by rw[tl,fw,fw];exact W2) (bb c)
  (by rw[fw];exact T.kb 0 hi) (by rw[fw];exact T.tb 0 hi) .(4) (λ_=>by simp) (λz=>absurd rfl z) (.inr g1) (.inr g2) (.inl rfl) λa ha=>by
   rcases eP.mp ha with h|h
   .exact .inl h
   .rw[bc.mp h];exact .inr g3
 rw[fw,fw] at M;exact q H' zs n XN XS r ys a AK IR M (T.klt hi k hF) e1 e2 g4 ne g3
theorem eY.state(T:eY C H0 H L h c Bs Ts RR N f)(hi:i<N)(hB:Bs.length<=62)(hR:RR.length<=10000)
  (q:∀H' p p1 p2 p3 bs ts zs ws,aG H H'->Told (f i).kvs (f i).ks zs ws->ya H' p p1 p2 p3 bs ts L h (RR.take (f i).n) zs ws->(p::p1::p2::p3::bs).Nodup->(∀b∈p::p1::p2::p3::bs,H b=none)->
   SK L c Bs Ts (f i).kn (f i).tk (RR.take (f i).n) zs ws->Q (.ref p) H'):
  fC C [.ref (f i).x] H Q E:=by
 have W:=T.hk i hi;have rl:=T.rl hi;have nl:=T.nl i hi;have tl:=W.tl;exact⟨(f i).x,(f i).dx,(f i).pr,(f i).pt,(f i).pk,L,h,(f i).j,(f i).kvs,(f i).ks,(f i).as,RR.take (f i).n,T.hnd i hi,by lia,W.kw.nd,by lia,W.kw.tnd,(T.ren i hi).lst,(T.ren i hi).row,by lia,λH' p p1 p2 p3 bs ts zs ws s TD A nd fr=>q H' p p1 p2 p3 bs ts zs ws s TD A nd fr (W.told TD)⟩
theorem SK.iff{kn tk Yk Yg:Nat->Prop}{R:VI (VI bG)}{zs:VG}(A:SK L c Bs Ts kn tk R zs ws)(e:∀k,kn k↔Yk k)(g:∀k,tk k↔Yg k):SK L c Bs Ts Yk Yg R zs ws:=by
 rw[<-show kn=Yk from funext λk=>propext (e k),<-show tk=Yg from funext λk=>propext (g k)];exact A
theorem KA{α:Type}{R:VI α}{a b:Nat}(h:a<=b):R.take (max a b)=R.take b:=by rw[Nat.max_eq_right h]
theorem Ig{α:Type}{R:VI α}{a b:Nat}(h:b<=a):R.take (max a b)=R.take a:=by rw[Nat.max_eq_left h]
theorem eY.lay{p2:θ}{bs:VI θ}{m:Nat}{Yk Yg:Nat->Prop}{X0:VF}(T:eY C H0 H L h c Bs Ts RR N f)(hi:i<N)
  (A:ya H p p1 p2 p3 bs ts L h (RR.take m) XT X0) (B:SK L c Bs Ts Yk Yg (RR.take m) XT X0) (hm:m<=RR.length) (kb:∀k,Yk k->k<Bs.length) (tb:∀k,Yg k->k<Ts.length)
  (hB:Bs.length<=31) (hT:Ts.length<=31) (hR:RR.length<=100) (hc:c<=1000)
  (q:∀H' r,r.x=(f i).x->r.j=(f i).j->r.n=max (f i).n m->(r.kn=λk=>(f i).kn k\/Yk k)->(r.tk=λk=>(f i).tk k\/Yg k)->(r.kvs.map (·.1)).Pairwise (·<·)->r.ks.Pairwise (·<·)->H r.pr=none->(∀a∈r.as,H a=none)->eY C H0 H' L h c Bs Ts RR N (dZ f i r)->Sa (f 0).pr H H'->Q .non H'):
  jF K C [.ref (f i).x,.ref p] H Q E:=by
 have W:=T.hk i hi;have rl:=T.rl hi;have nl:=T.nl i hi;have tl:=W.tl;have d:=(T.hs i hi).l2;have d':=(T.hs i hi).l26;have ml:(RR.take m).length=m:=by rw[fg,oe hm]
 refine⟨(f i).x,(f i).dx,(f i).pr,(f i).pt,(f i).pk,p,p1,p2,p3,L,h,(f i).j,(f i).kvs,(f i).ks,(f i).as,bs,ts,RR.take (f i).n,RR.take m,XT,X0,T.hnd i hi,by lia,W.kw.nd,by lia,W.kw.tnd,T.ren i hi,by lia,A,?_,λH' zs ws R n pr' XN XS as' xs js TD k S A' g1 g2 g3 g4 up1 up2 way=>?_⟩
 .rcases Nat.le_total (f i).n m with z|z
  .refine .inl ⟨(f i).n,by rw[Wp,oe z],λzs ws TD=>?_⟩;have S1:=W.told TD;rw[show RR.take (f i).n=(RR.take m).take (f i).n by rw[Wp,oe z]] at S1
   exact S1.Kz B d d' ⋯ ⋯ hB hT hc
  .rcases QQ m (f i).n with y|y
   .refine .inr ⟨m,by lia,by rw[Wp,oe z],λzs ws TD=>?_⟩;have S1:=W.told TD;rw[show RR.take m=(RR.take (f i).n).take m by rw[Wp,oe z]] at B
    exact B.Kz S1 d d' ⋯ ⋯ hB hT hc
   .have e:m=(f i).n:=by lia
    subst e;refine .inl ⟨(f i).n,by rw[Wp,Nat.min_self],λzs ws TD=>?_⟩;have S1:=W.told TD;rw[show RR.take (f i).n=(RR.take (f i).n).take (f i).n by rw[Wp,Nat.min_self]] at S1
    exact S1.Kz B d d' ⋯ ⋯ hB hT hc
 .have fin:R=RR.take (max (f i).n m)/\SK L c Bs Ts (λk=>(f i).kn k\/Yk k) (λk=>(f i).tk k\/Yg k) R xs js:=by
   have S1:=W.told TD
   rcases way with⟨e,e1,ln,la⟩|⟨e,e1,ln,la⟩
   .have en:=tz List.length e1;rw[rl,fg,ml,oe ⋯] at en;subst en;rw[ml] at ln;rw[e1] at S1;refine⟨by rw[e,KA ln],?_⟩;rw[e];exact S1.join B d ⋯ la
   .have en:=tz List.length e1;rw[ml,fg,rl,oe ⋯] at en;subst en;rw[rl] at ln;rw[e1] at B;refine⟨by rw[e,Ig ln],?_⟩;rw[e];exact(B.join S1 d ⋯ la).iff (λk=>Or.comm) λk=>Or.comm
  obtain⟨eR,SJ⟩:=fin;have mx:max (f i).n m<=RR.length:=by lia
  have hF:Wr f i [(f i).x]:=λt ht=>.inl (bc.mp ht);rw[eR] at SJ A';have M:=T.move (Bx:=[]) (Tx:=[]) (Rx:=[]) (c':=c) (r:={f i with pr:=pr',pt:=XN,pk:=XS,as:=as',n:=max (f i).n m,kvs:=xs,ks:=js,kn:=λk=>(f i).kn k\/Yk k,tk:=λk=>(f i).tk k\/Yg k}) hi k hF rfl rfl S (by rw[fw];exact A') (by rw[fw,fw,fw];exact SJ.hk d) (bb c)
   (λk hk=>by
    rw[fw]
    rcases hk with hk|hk
    .exact T.kb i hi k hk
    .exact kb k hk)
   (λk hk=>by
    rw[fw]
    rcases hk with hk|hk
    .exact T.tb i hi k hk
    .exact tb k hk) (by rw[fw];exact mx) (λz=>by
    rw[fw];show max (f i).n m=_;have:=T.n0;subst z;lia) (λ_=>rfl) (.inr g2) (.inr g3) (.inr g1) λa ha=>.inr (g4 a ha)
  rw[fw,fw,fw] at M;exact q H' {f i with pr:=pr',pt:=XN,pk:=XS,as:=as',n:=max (f i).n m,kvs:=xs,ks:=js,kn:=λk=>(f i).kn k\/Yk k,tk:=λk=>(f i).tk k\/Yg k} rfl rfl rfl rfl rfl up1 up2 g1 g4 M (T.klt hi k hF)
end
section
variable{C:θ}{H0 H H':Hp}{L h c:Nat}{Bs:VI dY}{Ts:VI oY}{RR:VI (VI bG)}{N:Nat}{f:Nat->HR}
theorem HK.nil:HK L 0 [] [] (λ_=>False) (λ_=>False) [] [] []:=by
 refine⟨⟨[],[],⟨.refl _,.nil,.refl _,.nil⟩,⟨⟨[],⟨.nil,λz h=>(nomatch h),λq h=>(nomatch h)⟩,λq=>⟨λh=>(nomatch h),λ⟨_,_,h,_⟩=>h.elim⟩⟩,.nil,λm=>⟨λh=>(nomatch h),λ⟨_,_,h,_⟩=>h.elim⟩,λ_ _ h=>h.elim,λ_ _ h=>h.elim⟩⟩,⟨.nil,λ_ h=>(nomatch h),bb _,λ_ h=>(nomatch h),.nil⟩,λr h=>(nomatch h)⟩
def Ih(x dx pr pt pk:θ)(j:Nat):HR:=⟨x,dx,pr,pt,pk,[],j,0,[],[],λ_=>False,λ_=>False⟩
theorem eY.first{x pt:θ}(D:jO L h 0)(s:aG H0 H)(S:jR C H x dx pr pt pk L h 0 [] [])(e:H pr=some (.lst []))(g:H0 x=none)(g1:H0 pr=none)(g2:H0 pt=none)(g3:H0 pk=none)(ef:f 0=Ih x dx pr pt pk 0):eY C H0 H L h 0 [] [] [] 1 f:=by
 have z:∀{i},i<1->f i=Ih x dx pr pt pk 0:=λhi=>by rw[<-ef];congr 1;lia
 refine {hnd:=λi hi=>?_,ren:=λi hi=>?_,hk:=λi hi=>?_,kb:=λi hi=>?_,tb:=λi hi=>?_,nl:=λi hi=>?_,n0:=?_,hs:=λi hi=>?_,j0:=?_,pos:=Nat.one_pos,ax:=λi hi k hk ne=>by lia,at_:=λi hi k hk ne=>by lia,ak:=λi hi k hk ne=>by lia,atk:=λi hi k hk=>?_,ar:=λi hi ne=>by lia,aa:=λi hi=>?_,bs:=s,f0:=λi hi=>?_}
 .rw[z hi];exact S
 .rw[z hi];exact⟨e,trivial,λz=>(nomatch z)⟩
 .rw[z hi];exact HK.nil
 .rw[z hi];exact λ_ h=>h.elim
 .rw[z hi];exact λ_ h=>h.elim
 .rw[z hi];exact bb _
 .rw[ef];rfl
 .rw[z hi];exact D
 .rw[ef];rfl
 .rw[z hi,z hk];exact S.apart
 .rw[z hi];exact λz=>(nomatch z)
 .rw[z hi];exact⟨g,g2,g3,g1⟩
theorem eY.add{x pt:θ}(T:eY C H0 H L h 0 [] [] [] N f)(s:aG H H')(D:jO L h j)(S:jR C H' x dx pr pt pk L h j [] [])(e:H' pr=some (.lst []))(g:H x=none)(g1:H pr=none)(g2:H pt=none)(g3:H pk=none):eY C H0 H' L h 0 [] [] [] (N+1) (dZ f N (Ih x dx pr pt pk j)):=by
 have T':=T.same s;have z0:(0:Nat)≠N:=λz=>by have:=T.pos;lia
 have lt:∀{i},i<N+1->i≠N->i<N:=λa b=>by lia
 refine {hnd:=λi hi=>?_,ren:=λi hi=>?_,hk:=λi hi=>?_,kb:=λi hi=>?_,tb:=λi hi=>?_,nl:=λi hi=>?_,n0:=?_,hs:=λi hi=>?_,j0:=?_,pos:=by lia,ax:=λi hi k hk ne=>?_,at_:=λi hi k hk ne=>?_,ak:=λi hi k hk ne=>?_,atk:=λi hi k hk=>?_,ar:=λi hi ne=>?_,aa:=λi hi=>?_,bs:=T.bs.trans s,f0:=λi hi=>?_}
 .by_cases z:i=N
  .rw[z,aB];exact S
  .rw[aL z];exact T'.hnd i (lt hi z)
 .by_cases z:i=N
  .rw[z,aB];exact⟨e,trivial,λz=>(nomatch z)⟩
  .rw[aL z];exact T'.ren i (lt hi z)
 .by_cases z:i=N
  .rw[z,aB];exact HK.nil
  .rw[aL z];exact T'.hk i (lt hi z)
 .by_cases z:i=N
  .rw[z,aB];exact λ_ h=>h.elim
  .rw[aL z];exact T'.kb i (lt hi z)
 .by_cases z:i=N
  .rw[z,aB];exact λ_ h=>h.elim
  .rw[aL z];exact T'.tb i (lt hi z)
 .by_cases z:i=N
  .rw[z,aB];exact bb _
  .rw[aL z];exact T'.nl i (lt hi z)
 .rw[aL z0];exact T.n0
 .by_cases z:i=N
  .rw[z,aB];exact D
  .rw[aL z];exact T'.hs i (lt hi z)
 .rw[aL z0];exact T.j0
 .by_cases z:i=N
  .rw[z,aB,aL (λy=>ne (z.trans y.symm))];exact du (fresh_ne (T.hnd k (lt hk λy=>ne (z.trans y.symm))).ins g)
  .rw[aL z]
   by_cases y:k=N
   .rw[y,aB];exact fresh_ne (T.hnd i (lt hi z)).ins g
   .rw[aL y];exact T.ax i (lt hi z) k (lt hk y) ne
 .by_cases z:i=N
  .rw[z,aB,aL (λy=>ne (z.trans y.symm))];exact du (fresh_ne (T.hnd k (lt hk λy=>ne (z.trans y.symm))).tho g2)
  .rw[aL z]
   by_cases y:k=N
   .rw[y,aB];exact fresh_ne (T.hnd i (lt hi z)).tho g2
   .rw[aL y];exact T.at_ i (lt hi z) k (lt hk y) ne
 .by_cases z:i=N
  .rw[z,aB,aL (λy=>ne (z.trans y.symm))];exact du (fresh_ne (T.hnd k (lt hk λy=>ne (z.trans y.symm))).tak g3)
  .rw[aL z]
   by_cases y:k=N
   .rw[y,aB];exact fresh_ne (T.hnd i (lt hi z)).tak g3
   .rw[aL y];exact T.ak i (lt hi z) k (lt hk y) ne
 .by_cases z:i=N
  .rw[z,aB]
   by_cases y:k=N
   .rw[y,aB];exact S.apart
   .rw[aL y];exact du (fresh_ne (T.hnd k (lt hk y)).tak g2)
  .rw[aL z]
   by_cases y:k=N
   .rw[y,aB];exact fresh_ne (T.hnd i (lt hi z)).tho g3
   .rw[aL y];exact T.atk i (lt hi z) k (lt hk y)
 .rw[aL z0]
  by_cases z:i=N
  .rw[z,aB];exact du (fresh_ne (T.ren 0 T.pos).lst g1)
  .rw[aL z];exact T.ar i (lt hi z) ne
 .rw[aL z0]
  by_cases z:i=N
  .rw[z,aB];exact λz=>(nomatch z)
  .rw[aL z];exact T.aa i (lt hi z)
 .by_cases z:i=N
  .rw[z,aB];exact⟨T.bs.bg g,T.bs.bg g2,T.bs.bg g3,T.bs.bg g1⟩
  .rw[aL z];exact T.f0 i (lt hi z)
end
structure KS where
 (c:Nat) (Bs:VI dY) (Ts:VI oY) (RR:VI (VI bG)) (f:Nat->HR)
def KS.sz(S:KS):Nat:=S.Bs.length+S.Ts.length+S.RR.length
abbrev Sb(C:θ)(H0 H:Hp)(L h N:Nat)(S:KS):Prop:=eY C H0 H L h S.c S.Bs S.Ts S.RR N S.f
section
variable{C:θ}{H0 H H1 H':Hp}{L h N m m1:Nat}{S S1 S':KS}{i:Nat}{Q:VK}{E:XK}
theorem UR{f:Nat->HR}{r:HR}(h:r.x=(f i).x)(k:Nat):(dZ f i r k).x=(f k).x:=by
 by_cases z:k=i
 .rw[z,aB,h]
 .rw[aL z]
theorem ND{f:Nat->HR}{r:HR}(h:r.j=(f i).j)(k:Nat):(dZ f i r k).j=(f k).j:=by
 by_cases z:k=i
 .rw[z,aB,h]
 .rw[aL z]
end
def jW(L h j:Nat)(m:VE):Prop:=∃c,m.getLast?=some c/\c∈bu L h j
theorem jW.one{j':Nat}(a:jW L h j m)(b:jW L h j' m):j=j':=by
 obtain⟨c,e,hc⟩:=a;obtain⟨c',e',Zb⟩:=b;rw[e] at e';cases e';obtain⟨i,_,h1,h2⟩:=iN.mp hc;obtain⟨i',_,h1',Zx⟩:=iN.mp Zb;have:i=i':=by lia
 subst this;exact h1.symm.trans h1'
theorem jW.app{s:VE}(a:jW L h j m):jW L h j (s++m):=by
 obtain⟨c,e,hc⟩:=a;refine⟨c,?_,hc⟩;rw[List.getLast?_append,e];rfl
theorem kZ.inj{R:VI bG}(O:aZ L R)(hL:2<=L){m1 m2 v:VE}(A:kZ L R m1 (some v))(B:kZ L R m2 (some v)):m1=m2:=by
 by_cases h:m1<m2
 .exact absurd (kZ.rise O hL h A B) (hX _)
 .by_cases g:m2<m1
  .exact absurd (kZ.rise O hL g B A) (hX _)
  .exact WH (xt.mp g) (xt.mp h)
theorem kZ.stem{R:VI bG}{x:VE}(A:kZ L R m (some x))(n:∀y∈R,y.1≠m):∃s,x=s++m:=by
 rcases A with⟨r,hr,e,_⟩|⟨_,_,_,s,_,e⟩
 .exact absurd e (n r hr)
 .exact⟨s,eI e⟩
def cX(L:Nat)(RR:VI (VI bG))(t:Nat)(b:dY)(m:VE):Prop:=b.1<=t/\bM L ((RR.take t).drop b.1) b.2.1 (some m)
theorem wm{α:Type}{R:VI α}{r:α}{t a:Nat}(e:R[t]?=some r)(h:a<=t):(R.take (t+1)).drop a=(R.take t).drop a++[r]:=by
 have hl:=(bo.mp e).1;rw[md,e];exact xa (by rw[fg];lia)
section
variable{L h:Nat}{RR:VI (VI bG)}{t:Nat}{b:dY}{m:VE}{r:VI bG}
theorem cX.zero:cX L RR b.1 b m↔m=b.2.1:=by
 unfold cX;have e:(RR.take b.1).drop b.1=[]:=VX (by rw[fg];lia);rw[e];show (b.1<=b.1/\some m=some b.2.1)↔_;simp
theorem cX.succ(e:RR[t]?=some r)(ha:b.1<=t):cX L RR (t+1) b m↔∃x,cX L RR t b x/\kZ L r x (some m):=by
 unfold cX;rw[wm e ha,bM.app];constructor
 .rintro⟨_,x,a,c⟩;exact⟨x,⟨ha,a⟩,jV.mp c⟩
 .rintro⟨x,⟨_,a⟩,c⟩;exact⟨by lia,x,a,jV.mpr c⟩
end
structure qm(L h:Nat)(Bs:VI dY)(RR:VI (VI bG))(pu:Nat->Nat)(Kt:Nat->Nat->Prop):Prop where
 en:∀(i:Nat) (b:dY),Bs[i]?=some b->jW L h (pu i) b.2.1
 age:∀(i:Nat) (b:dY),Bs[i]?=some b->b.1<=RR.length
 ro:∀r∈RR,aZ L r
 old:∀(t:Nat) (r:VI bG),RR[t]?=some r->∀m:VE,(∃y∈r,y.1=m)->∃(i:Nat) (b:dY),Kt t i/\Bs[i]?=some b/\cX L RR t b m
 un:∀t,t<=RR.length->∀(i j:Nat) (b c:dY) (m:VE),Bs[i]?=some b->Bs[j]?=some c->cX L RR t b m->cX L RR t c m->i=j
section
variable{L h:Nat}{Bs:VI dY}{RR:VI (VI bG)}{pu:Nat->Nat}{Kt:Nat->Nat->Prop}
theorem qm.end_(G:qm L h Bs RR pu Kt){b:dY}(e:Bs[i]?=some b):∀(d t:Nat),t=b.1+d->t<=RR.length->(∀s,b.1<=s->s<t->¬Kt s i)->∀m,cX L RR t b m->jW L h (pu i) m
 | 0,t,et,_,_,m,I=>by
  rw[et,Mo] at I;rw[cX.zero.mp I];exact G.en i b e
 |d+1,t,et,ht,nk,m,I=>by
  have et':t=(b.1+d)+1:=by lia
  subst et';obtain⟨r,er⟩:=some_at (l:=RR) (i:=b.1+d) ⋯;obtain⟨x,I1,c⟩:=(cX.succ er ⋯).mp I;have E1:=qm.end_ G e d (b.1+d) rfl ⋯ (λs h1 h2=>nk s h1 ⋯) x I1;have no:∀y∈r,y.1≠x:=λy hy z=>by
   obtain⟨i',b',k',e',I'⟩:=G.old _ r er x ⟨y,hy,z⟩;have:=G.un (b.1+d) ⋯ i i' b b' x e e' I1 I';subst this;exact nk (b.1+d) ⋯ ⋯ k'
  obtain⟨s,rfl⟩:=c.stem no;exact E1.app
theorem qm.new(G:qm L h Bs RR pu Kt)(hL:2<=L){a:Nat}{kn:Nat->Prop}(ha:a<=RR.length)(en:jW L h j m)(own:∀(i:Nat) (c:dY),Bs[i]?=some c->pu i=j->c.1<=a/\kn i)(anc:∀t,t<a->∀i,Kt t i->kn i)(nk:∀(i:Nat) (c:dY),Bs[i]?=some c->kn i->¬cX L RR a c m){th:VE}:
  ∀(d t:Nat),t=a+d->t<=RR.length->∀x,cX L RR t (a,m,th) x->jW L h j x/\∀(i:Nat) (c:dY),Bs[i]?=some c->¬cX L RR t c x
 | 0,t,et,ht,x,I=>by
  rw[Mo] at et;subst et;have ex:x=m:=(cX.zero (b:=(t,m,th))).mp I;subst ex;refine⟨en,λi c e J=>?_⟩
  by_cases k:kn i
  .exact nk i c e k J
  .have pj:pu i≠j:=λz=>k (own i c e z).2;have E:=G.end_ e (t-c.1) t (by have:=J.1;lia) ht (λs h1 h2 z=>k (anc s h2 i z)) x J;exact pj (E.one en)
 |d+1,t,et,ht,x,I=>by
  have et':t=(a+d)+1:=by lia
  subst et';obtain⟨r,er⟩:=some_at (l:=RR) (i:=a+d) ⋯;obtain⟨y,I1,c⟩:=(cX.succ (b:=(a,m,th)) er (by show a<=_;lia)).mp I;obtain⟨E1,N1⟩:=qm.new G hL ha en own anc nk d (a+d) rfl ⋯ y I1;have O:=G.ro r (dy er);have no:∀z∈r,z.1≠y:=λz hz w=>by
   obtain⟨i',b',_,e',I'⟩:=G.old _ r er y ⟨z,hz,w⟩;exact N1 i' b' e' I'
  obtain⟨s,es⟩:=c.stem no;refine⟨by rw[es];exact E1.app,λi b e J=>?_⟩
  rcases QQ (a+d) b.1 with z|z
  .have eb:b.1=a+d+1:=by have:=J.1;lia
   have:pu i≠j:=λw=>by have:=(own i b e w).1;lia
   rw[<-eb] at J;have exb:=cX.zero.mp J;have Eb:=G.en i b e;rw[<-exb] at Eb;exact this (Eb.one (by rw[es];exact E1.app))
  .obtain⟨y',J1,c'⟩:=(cX.succ er z).mp J;have:=kZ.inj O hL c c';subst this;exact N1 i b e J1
theorem qm.put(G:qm L h Bs RR pu Kt)(hL:2<=L){a:Nat}{kn:Nat->Prop}(ha:a<=RR.length)(en:jW L h j m)(own:∀(i:Nat) (c:dY),Bs[i]?=some c->pu i=j->c.1<=a/\kn i)(anc:∀t,t<a->∀i,Kt t i->kn i)(nk:∀(i:Nat) (c:dY),Bs[i]?=some c->kn i->¬cX L RR a c m)(th:VE):
  qm L h (Bs++[(a,m,th)]) RR (λi=>if i=Bs.length then j else pu i) Kt:=by
 have at_:∀{i:Nat} {b:dY},(Bs++[(a,m,th)])[i]?=some b->(i<Bs.length/\Bs[i]?=some b)\/(i=Bs.length/\b=(a,m,th)):=λ{i b} e=>by
  by_cases z:i<Bs.length
  .rw[lr z] at e;exact .inl ⟨z,e⟩
  .have hi:=(bo.mp e).1;rw[de] at hi;simp only[length_cons,length_nil] at hi;have:i=Bs.length:=by lia
   subst this;rw[kf (bb _),SF] at e;exact .inr ⟨rfl,(eI e).symm⟩
 have nw:∀t,t<=RR.length->∀(i:Nat) (c:dY) x,Bs[i]?=some c->cX L RR t (a,m,th) x->cX L RR t c x->False:=λt ht i c x e I J=>by
  have h1:a<=t:=I.1;exact(qm.new G hL ha en own anc nk (t-a) t ⋯ ht x I).2 i c e J
 refine⟨λi b e=>?_,λi b e=>?_,G.ro,λt r er x hx=>?_,λt ht i k b c x e1 e2 I J=>?_⟩
 .rcases at_ e with⟨z,e⟩|⟨rfl,rfl⟩
  .rw[cq ⋯];exact G.en i b e
  .rw[df rfl];exact en
 .rcases at_ e with⟨z,e⟩|⟨rfl,rfl⟩
  .exact G.age i b e
  .exact ha
 .obtain⟨i,b,k,e,I⟩:=G.old t r er x hx;exact⟨i,b,k,by rw[lr (bo.mp e).1];exact e,I⟩
 .rcases at_ e1 with⟨z1,e1⟩|⟨rfl,rfl⟩<;>rcases at_ e2 with⟨z2,e2⟩|⟨rfl,rfl⟩
  .exact G.un t ht i k b c x e1 e2 I J
  .exact(nw t ht i b x e1 J I).elim
  .exact(nw t ht k c x e2 I J).elim
  .rfl
theorem qm.nV(G:qm L h Bs RR pu Kt)(hL:2<=L){r:VI bG}{kn:Nat->Prop}(O:aZ L r)(old:∀m:VE,(∃y∈r,y.1=m)->∃(i:Nat) (b:dY),kn i/\Bs[i]?=some b/\cX L RR RR.length b m):
  qm L h Bs (RR++[r]) pu (λt i=>if t=RR.length then kn i else Kt t i):=by
 have tk:∀t,t<=RR.length->(RR++[r]).take t=RR.take t:=λt ht=>xb ht;have im:∀t,t<=RR.length->∀b m,cX L (RR++[r]) t b m↔cX L RR t b m:=λt ht b m=>by unfold cX;rw[tk t ht]
 have el:(RR++[r])[RR.length]?=some r:=by rw[kf (bb _),SF];rfl
 refine⟨G.en,λi b e=>by rw[de];have:=G.age i b e;lia,λx hx=>?_,λt x ex m hm=>?_,λt ht i k b c x e1 e2 I J=>?_⟩
 .rcases eP.mp hx with z|z
  .exact G.ro x z
  .rw[bc.mp z];exact O
 .have hl:=(bo.mp ex).1;rw[de] at hl;simp only[length_cons,length_nil] at hl
  by_cases z:t=RR.length
  .subst z;rw[el] at ex;cases ex;obtain⟨i,b,k,e,I⟩:=old m hm;exact⟨i,b,by rw[df rfl];exact k,e,(im _ (bb _) b m).mpr I⟩
  .rw[lr ⋯] at ex;obtain⟨i,b,k,e,I⟩:=G.old t x ex m hm;exact⟨i,b,by rw[cq z];exact k,e,(im t ⋯ b m).mpr I⟩
 .rw[de] at ht;simp only[length_cons,length_nil] at ht
  rcases QQ RR.length t with z|z
  .have et:t=RR.length+1:=by lia
   subst et;obtain⟨y,I1,c1⟩:=(cX.succ el (G.age i b e1)).mp I;obtain⟨y',J1,c2⟩:=(cX.succ el (G.age k c e2)).mp J;have:=kZ.inj O hL c1 c2;subst this;exact G.un RR.length (bb _) i k b c y e1 e2 ((im _ (bb _) b y).mp I1) ((im _ (bb _) c y).mp J1)
  .exact G.un t z i k b c x e1 e2 ((im t z b x).mp I) ((im t z c x).mp J)
theorem qm.nil:qm L h [] [] pu Kt:=⟨λi b e=>by simp at e,λi b e=>by simp at e,λr hr=>(nomatch hr),λt r e=>by simp at e,λt ht i j b c m e=>by simp at e⟩
theorem NF.US{Ts:VI oY}{kn tk:Nat->Prop}{xs:VG}(G:qm L h Bs RR pu Kt)(hn:n<=RR.length)(A:NF L (RR.take n) Bs Ts kn tk xs ks)(z:VE×VE):z∈xs↔∃(k:Nat) (b:dY),kn k/\Bs[k]?=some b/\cX L RR n b z.1/\b.2.2=z.2:=by
 have ag:∀(k:Nat) (b:dY),kn k->Bs[k]?=some b->b.1<=n:=λk b hk e=>by have:=A.bag k b hk e;rw[fg] at this;lia
 obtain⟨S,M,hS⟩:=A.th;constructor
 .intro hz;obtain⟨k,b,hk,e,c,w⟩:=(hS z).mp (M.mem z hz);exact⟨k,b,hk,e,⟨ag k b hk e,c⟩,w⟩
 .rintro⟨k,b,hk,e,I,w⟩;obtain⟨x,hx,ex,_⟩:=M.all z ((hS z).mpr ⟨k,b,hk,e,I.2,w⟩);obtain⟨k',b',Ys,e',c',w'⟩:=(hS x).mp (M.mem x hx);have ee:=G.un n hn k k' b b' z.1 e e' I ⟨ag k' b' Ys e',by rw[<-ex];exact c'⟩;subst ee;rw[e] at e';cases e';rw[show z=x from Xy ex.symm (w.symm.trans w')];exact hx
end
theorem KC(h:m∈ks):putK (cF ks) (Key.inr (txt m)) (.bl true)=cF ks:=by
 have e:=jD m ks;rw[dr h] at e;unfold putK;rw[i8,e];rw[df rfl];unfold cF;rw[mv];refine ot λk _=>?_;show (if Key.inr (txt k)=Key.inr (txt m) then(Key.inr (txt k),V.bl true) else(Key.inr (txt k),V.bl true))=_
 split<;>rfl
theorem Fd:∀(B:VF) {A:VF},A.Nodup->∃ys,gM (cF A) (cF B)=cF ys/\ys.Nodup/\ys.length<=A.length+B.length/\∀w,w∈ys↔w∈A\/w∈B:=by
 intro B
 induction B with
 |nil=>intro A nA;exact⟨A,rfl,nA,by simp,λz=>by simp⟩
 |cons b B ih=>
  intro A nA
  by_cases h:b∈A
  .obtain⟨ys,e,n,l,m⟩:=ih nA;refine⟨ys,?_,n,by rw[kS];lia,λw=>?_⟩
   .rw[<-e];show gM (putK (cF A) (Key.inr (txt b)) (.bl true)) (cF B)=_;rw[KC h]
   .rw[m w,gL];refine⟨λq=>q.elim .inl λq=>.inr (.inr q),λq=>?_⟩
    rcases q with q|rfl|q
    .exact .inl q
    .exact .inl h
    .exact .inr q
  .have nA1:(A++[b]).Nodup:=uj.mpr ⟨nA,by simp,λa ha c hc z=>by
    have hc:=bc.mp hc;subst hc z;exact h ha⟩
   obtain⟨ys,e,n,l,m⟩:=ih nA1;rw[de] at l;refine⟨ys,?_,n,by rw[kS];simp only[length_cons,length_nil] at l;lia,λw=>?_⟩
   .rw[<-e,<-Nz h];rfl
   .rw[m w,eP,bc,gL];exact or_assoc
structure qo(Bs:VI dY)(N l:Nat)(pu:Nat->Nat)(Kt:Nat->Nat->Prop)(f:Nat->HR):Prop where
 own:∀i,i<N->∀(k:Nat) (b:dY),Bs[k]?=some b->pu k=(f i).j->b.1<=(f i).n/\(f i).kn k
 anc:∀i,i<N->∀t,t<(f i).n->∀k,Kt t k->(f i).kn k
 jj:∀i,i<N->∀k,k<N->i≠k->(f i).j≠(f k).j
 nl:∀i,i<N->(f i).n<=l
section
variable{Bs:VI dY}{N l:Nat}{pu:Nat->Nat}{Kt:Nat->Nat->Prop}{f f':Nat->HR}{i:Nat}
theorem qo.lay(A:qo Bs N l pu Kt f)(hi:i<N){Yk:Nat->Prop}{m:Nat}(hm:m<=l)(anc':∀t,t<m->∀k,Kt t k->Yk k)(e:∀k,k≠i->f' k=f k)(ej:(f' i).j=(f i).j)(en:(f' i).n=max (f i).n m)(ek:(f' i).kn=λk=>(f i).kn k\/Yk k):qo Bs N l pu Kt f':=by
 refine⟨λq hq k b eb ep=>?_,λq hq t ht k hk=>?_,λq hq k hk ne=>?_,λq hq=>?_⟩
 .by_cases z:q=i
  .subst z;rw[ej] at ep;obtain⟨a,c⟩:=A.own q hq k b eb ep;rw[en,ek];exact⟨by lia,.inl c⟩
  .rw[e q z] at ep ⊢;exact A.own q hq k b eb ep
 .by_cases z:q=i
  .subst z;rw[en] at ht;rw[ek]
   by_cases y:t<(f q).n
   .exact .inl (A.anc q hq t y k hk)
   .exact .inr (anc' t ⋯ k hk)
  .rw[e q z] at ht ⊢;exact A.anc q hq t ht k hk
 .have j:∀q,(f' q).j=(f q).j:=λq=>by
   by_cases z:q=i
   .subst z;exact ej
   .rw[e q z]
  rw[j,j];exact A.jj q hq k hk ne
 .by_cases z:q=i
  .subst z;rw[en];exact Nat.max_le.mpr ⟨A.nl q hq,hm⟩
  .rw[e q z];exact A.nl q hq
theorem qo.put(A:qo Bs N l pu Kt f)(hi:i<N){b:dY}(hb:b.1=(f i).n)(e:∀k,k≠i->f' k=f k)(ej:(f' i).j=(f i).j)(en:(f' i).n=(f i).n)(ek:∀k,(f' i).kn k↔(f i).kn k\/k=Bs.length):qo (Bs++[b]) N l (λk=>if k=Bs.length then(f i).j else pu k) Kt f':=by
 have at_:∀{k:Nat} {c:dY},(Bs++[b])[k]?=some c->(k<Bs.length/\Bs[k]?=some c)\/(k=Bs.length/\c=b):=λ{k c} e=>by
  by_cases z:k<Bs.length
  .rw[lr z] at e;exact .inl ⟨z,e⟩
  .rw[kf ⋯] at e;have:k-Bs.length=0:=by
    have:=(bo.mp e).1;simp only[length_cons,length_nil] at this;lia
   rw[this] at e;exact .inr ⟨by lia,(eI e).symm⟩
 have j:∀q,(f' q).j=(f q).j:=λq=>by
  by_cases z:q=i
  .subst z;exact ej
  .rw[e q z]
 refine⟨λq hq k c ec ep=>?_,λq hq t ht k hk=>?_,λq hq k hk ne=>?_,λq hq=>?_⟩
 .rw[j] at ep
  rcases at_ ec with⟨hk,ec⟩|⟨rfl,rfl⟩
  .rw[cq ⋯] at ep;obtain⟨a,d⟩:=A.own q hq k c ec ep
   by_cases z:q=i
   .subst z;rw[en];exact⟨a,(ek k).mpr (.inl d)⟩
   .rw[e q z];exact⟨a,d⟩
  .rw[df rfl] at ep
   by_cases z:q=i
   .subst z;rw[en];exact⟨XE hb,(ek _).mpr (.inr rfl)⟩
   .exact absurd ep (A.jj i hi q hq (du z))
 .by_cases z:q=i
  .subst z;rw[en] at ht;exact(ek k).mpr (.inl (A.anc q hq t ht k hk))
  .rw[e q z] at ht ⊢;exact A.anc q hq t ht k hk
 .rw[j,j];exact A.jj q hq k hk ne
 .by_cases z:q=i
  .subst z;rw[en];exact A.nl q hq
  .rw[e q z];exact A.nl q hq
theorem qo.nV(A:qo Bs N l pu Kt f)(h0:0<N)(n0:(f 0).n=l)(e:∀k,k≠0->f' k=f k)(ej:(f' 0).j=(f 0).j)(en:(f' 0).n=l+1)(ek:(f' 0).kn=(f 0).kn):qo Bs N (l+1) pu (λt k=>if t=l then(f 0).kn k else Kt t k) f':=by
 have j:∀q,(f' q).j=(f q).j:=λq=>by
  by_cases z:q=0
  .subst z;exact ej
  .rw[e q z]
 refine⟨λq hq k b eb ep=>?_,λq hq t ht k hk=>?_,λq hq k hk ne=>?_,λq hq=>?_⟩
 .rw[j] at ep;obtain⟨a,c⟩:=A.own q hq k b eb ep
  by_cases z:q=0
  .subst z;rw[en,ek];exact⟨by lia,c⟩
  .rw[e q z];exact⟨a,c⟩
 .by_cases z:q=0
  .subst z;rw[ek]
   by_cases y:t=l
   .rw[df y] at hk;exact hk
   .rw[cq y] at hk;exact A.anc 0 hq t ⋯ k hk
  .rw[e q z] at ht ⊢;have:=A.nl q hq;rw[cq ⋯] at hk;exact A.anc q hq t ht k hk
 .rw[j,j];exact A.jj q hq k hk ne
 .by_cases z:q=0
  .subst z;rw[en];exact bb _
  .rw[e q z];have:=A.nl q hq;lia
end
open Classical in
noncomputable def rL (N:Nat) (f:Nat->HR) (H:Hp):Hp:=λa=>if ∃i,i<N/\(a=(f i).x\/a=(f i).pt\/a=(f i).pk\/a=(f i).pr) then none else H a
section
variable{C:θ}{H0 H H':Hp}{L h c:Nat}{Bs:VI dY}{Ts:VI oY}{RR:VI (VI bG)}{N:Nat}{f:Nat->HR}{F:VI θ}
theorem eY.cut(T:eY C H0 H L h c Bs Ts RR N f):eY C (rL N f H) H L h c Bs Ts RR N f:=
 {T with
  bs:=λb o e=>by
   unfold rL at e;split at e
   .cases e
   .exact e
  f0:=λi hi=>⟨df ⟨i,hi,.inl rfl⟩,df ⟨i,hi,.inr (.inl rfl)⟩,df ⟨i,hi,.inr (.inr (.inl rfl))⟩,df ⟨i,hi,.inr (.inr (.inr rfl))⟩⟩ }
theorem dO{o:HO}(e:H a=some o)(n:∀i,i<N->a≠(f i).x/\a≠(f i).pt/\a≠(f i).pk/\a≠(f i).pr):rL N f H a=some o:=by
 unfold rL;rw[cq]
 .exact e
 .rintro⟨i,hi,z⟩;obtain⟨n1,n2,n3,n4⟩:=n i hi
  rcases z with z|z|z|z
  .exact n1 z
  .exact n2 z
  .exact n3 z
  .exact n4 z
end
theorem Found.end_{w:Nat}(F:Found L (bu L h j) lo hi n w m)(hL:2<=L):jW L h j m:=by
 have:=F.least.pos;obtain⟨n',rfl⟩:∃n',n=n'+1:=⟨n-1,by lia⟩;exact⟨_,by rw[F.eq,lI ⋯],uk F.own⟩
section
variable{C:θ}{B0 B H H':Hp}{L h c:Nat}{Bs:VI dY}{Ts:VI oY}{RR:VI (VI bG)}{N:Nat}{f:Nat->HR}{F:VI θ}
theorem eY.ne(T:eY C B H L h c Bs Ts RR N f){o:HO}(e:B a=some o):∀i,i<N->a≠(f i).x/\a≠(f i).pt/\a≠(f i).pk/\a≠(f i).pr:=λi hi=>by
 obtain⟨n1,n2,n3,n4⟩:=T.f0 i hi;exact⟨fresh_ne e n1,fresh_ne e n2,fresh_ne e n3,fresh_ne e n4⟩
theorem eY.UT(T:eY C B H L h c Bs Ts RR N f):aG B (rL N f H):=λ_ _ e=>dO (T.bs _ _ e) (T.ne e)
theorem eY.Sd(T:eY C B H L h c Bs Ts RR N f)(k:Keeps F H H')(hF:∀t∈F,(∀ys,H t≠some (.tup ys))/\∀i,i<N->t≠(f i).x/\t≠(f i).dx/\t≠(f i).pt/\t≠(f i).pk/\t≠(f i).pr/\¬t∈(f i).as)(bs:aG B0 H')(f0:∀i,i<N->B0 (f i).x=none/\B0 (f i).pt=none/\B0 (f i).pk=none/\B0 (f i).pr=none):eY C B0 H' L h c Bs Ts RR N f:=
 {T with
  hnd:=λi hi=>(T.hnd i hi).keep k (λz=>((hF _ z).2 i hi).1 rfl) (λz=>((hF _ z).2 i hi).2.1 rfl) (λz=>((hF _ z).2 i hi).2.2.1 rfl) (λz=>((hF _ z).2 i hi).2.2.2.1 rfl)
  ren:=λi hi=>(T.ren i hi).keep k (λt ht=>(hF t ht).1) (λz=>((hF _ z).2 i hi).2.2.2.2.1 rfl) (λa ha z=>((hF _ z).2 i hi).2.2.2.2.2 ha)
  bs:=bs
  f0:=f0}
end
def Ck(N:Nat)(f:Nat->HR):VI V:=(List.range N).map λk=>V.ref (f k).x
theorem qo.eqv{Bs:VI dY}{N l:Nat}{pu:Nat->Nat}{Kt:Nat->Nat->Prop}{f f':Nat->HR}(A:qo Bs N l pu Kt f)(e:∀i,(f' i).j=(f i).j/\(f' i).n=(f i).n/\(f' i).kn=(f i).kn):qo Bs N l pu Kt f':=
 ⟨λi hi k b eb ep=>by rw[(e i).1] at ep;rw[(e i).2.1,(e i).2.2];exact A.own i hi k b eb ep,λi hi t ht k hk=>by rw[(e i).2.1] at ht;rw[(e i).2.2];exact A.anc i hi t ht k hk,λi hi k hk ne=>by rw[(e i).1,(e k).1];exact A.jj i hi k hk ne,λi hi=>by rw[(e i).2.1];exact A.nl i hi⟩
section
variable{C:θ}{A0 B B' H H' H2 H4 H5:Hp}{L h c:Nat}{Bs:VI dY}{Ts:VI oY}{RR:VI (VI bG)}{N:Nat}{f f':Nat->HR}{g:Nat->MR}{i:Nat}{r:MR}{pl ph pn:θ}
theorem eY.fresh(T:eY C B H L h c Bs Ts RR N f)(e:H a=none):∀i,i<N->a≠(f i).x/\a≠(f i).pt/\a≠(f i).pk/\a≠(f i).pr:=λi hi=>
 ⟨du (fresh_ne (T.hnd i hi).ins e),du (fresh_ne (T.hnd i hi).tho e),du (fresh_ne (T.hnd i hi).tak e),du (fresh_ne (T.ren i hi).lst e)⟩
theorem P0{r:HR}(e:r.x=(f i).x):Ck N (dZ f i r)=Ck N f:=ot λk _=>by rw[UR e k]
theorem Fe{X:Hp}{r:HR}(w:X ph=some (.lst (Ck N f)))(e:r.x=(f i).x):X ph=some (.lst (Ck N (dZ f i r))):=by rw[P0 e];exact w
theorem DX(hi:i<N):(Ck N f)[i]?=some (.ref (f i).x):=by rw[Ck,cn,Ee hi];rfl
end
theorem KD{P:Nat->Prop}:∀n,P n->∃m,m<=n/\P m/\∀k,k<m->¬P k:=λn=>by
 induction n using Nat.strongRecOn with
 |ind n ih=>
  intro h
  by_cases z:∃k,k<n/\P k
  .obtain⟨k,hk,hp⟩:=z;obtain⟨m,h1,h2⟩:=ih k hk hp;exact⟨m,by lia,h2⟩
  .exact⟨n,bb _,h,λk hk hp=>z ⟨k,hk,hp⟩⟩
theorem NG(hL:2<=L)(cP:L<=26)(M:cy L lo hi)(ok:ja lo hi):∃n w m,vN L lo hi n w m:=by
 have X2:0<L:=by lia
 have E1:=jo (K:=L) (h:=1) (j:=0) .(0) ⋯;have rl:=xU (b:=false) (n:=max (dH lo) (dH hi)) (k:=1) hL E1 M ok (Wd _ _) (PQ _ _);obtain⟨n,n1,⟨n2,n3⟩,n4⟩:=KD (P:=λn=>1<=n/\((1:Nat):Int)<=gF false L (bu L 1 0) lo hi n) _ ⟨by lia,rl⟩;have LN:jB false L (bu L 1 0) lo hi 1 n:=⟨n2,by lia,n3,λm h1 h2=>by
  have:=n4 m h2;have h3:¬((1:Nat):Int)<=gF false L (bu L 1 0) lo hi m:=λz=>this ⟨h1,z⟩;lia⟩
 obtain⟨k,hk⟩:=kd (a:=(gF false L (bu L 1 0) lo hi n-1)/2) ⋯;obtain⟨n',rfl⟩:∃n',n=n'+1:=⟨n-1,by lia⟩;obtain⟨o1,o2⟩:=yO X2 E1 (MM.ob L (bu L 1 0) (dS L lo (n'+1)+1)+k);have hri:gF false L (bu L 1 0) lo hi (n'+1)=(MM.ob L (bu L 1 0) (dU L hi (n'+1)):Nat)-(MM.ob L (bu L 1 0) (dS L lo (n'+1)+1):Nat):=rfl;obtain⟨i1,i2⟩:=CN X2 E1 (A:=dS L lo (n'+1)+1) (B:=dU L hi (n'+1)) (p:=MM.ob L (bu L 1 0) (dS L lo (n'+1)+1)+k) ⋯ ⋯;exact⟨_,_,_,⟨LN,rfl,o2,i1,i2,by rw[o1,hk];lia⟩⟩
theorem kZ.total{R:VI bG}(O:aZ L R)(hL:2<=L)(cP:L<=26)(m:VE):(∃y,kZ L R m (some y))\/(m,none)∈R:=by
 by_cases h:∃r∈R,r.1=m
 .obtain⟨⟨o,w⟩,hr,rfl⟩:=h;cases w with
  |none=>exact .inr hr
  |some y=>exact .inl ⟨y,.inl ⟨_,hr,rfl,rfl⟩⟩
 .obtain⟨n,w,s,S⟩:=NG hL cP (O.jt m) (O.BK m);exact .inl ⟨s++m,.inr ⟨λr hr e=>h ⟨r,hr,e⟩,n,w,s,S,rfl⟩⟩
section
variable{L h:Nat}{Bs:VI dY}{RR:VI (VI bG)}{pu:Nat->Nat}{Kt:Nat->Nat->Prop}{b c:dY}{m m' y y':VE}{t s n k:Nat}
theorem cX.one(O:∀r∈RR,aZ L r)(hL:2<=L)(A:cX L RR t b m)(B:cX L RR t b m'):m=m':=
 eI (bM.one hL (λr hr=>O r (We (OK hr))) A.2 B.2)
theorem cX.rise(O:∀r∈RR,aZ L r)(hL:2<=L)(A:cX L RR t b m)(B:cX L RR t c m')(lt:m<m'):∀d s,s=t+d->s<=RR.length->∀y y',cX L RR s b y->cX L RR s c y'->y<y'
 | 0,s,e,_,y,y',C,D=>by
  rw[Mo] at e;subst e;rw[C.one O hL A,D.one O hL B];exact lt
 |d+1,s,e,hs,y,y',C,D=>by
  have e':s=(t+d)+1:=by lia
  subst e';obtain⟨r,er⟩:=some_at (l:=RR) (i:=t+d) ⋯;obtain⟨x,C1,c1⟩:=(cX.succ er (by have:=A.1;lia)).mp C;obtain⟨x',D1,d1⟩:=(cX.succ er (by have:=B.1;lia)).mp D;exact kZ.rise (O r (dy er)) hL (cX.rise O hL A B lt d (t+d) rfl ⋯ x x' C1 D1) c1 d1
def Inj(Bs:VI dY):Prop:=∀(i j:Nat) (b c:dY),Bs[i]?=some b->Bs[j]?=some c->b.2.2=c.2.2->i=j
theorem Inj.eq(I:Inj Bs)(e:Bs[i]?=some b)(g:Bs[j]?=some c)(q:b.2.2=c.2.2):b=c:=by
 have:=I i j b c e g q;subst this;rw[e] at g;exact eI g
def dW(L:Nat)(Bs:VI dY)(RR:VI (VI bG))(r:Nat)(t:VE):Prop:=∃(k:Nat) (b:dY) (x:VE) (R:VI bG),Bs[k]?=some b/\b.2.2=t/\cX L RR r b x/\RR[r]?=some R/\(x,none)∈R
theorem cX.on(O:∀r∈RR,aZ L r)(hL:2<=L)(cP:L<=26)(I:Inj Bs)(e:Bs[k]?=some b):∀d s,s=n+d->s<=RR.length->b.1<=n->((∃y,cX L RR s b y)↔(∃x,cX L RR n b x)/\∀r,n<=r->r<s->¬dW L Bs RR r b.2.2)
 | 0,s,es,_,_=>by
  rw[Mo] at es;subst es;exact⟨λh=>⟨h,λr h1 h2=>by lia⟩,λh=>h.1⟩
 |d+1,s,es,hs,hb=>by
  have e':s=(n+d)+1:=by lia
  subst e';obtain⟨R,er⟩:=some_at (l:=RR) (i:=n+d) ⋯;have ih:=cX.on O hL cP I e d (n+d) rfl ⋯ hb;have OR:=O R (dy er);constructor
  .rintro⟨y,hy⟩;obtain⟨x,C1,c1⟩:=(cX.succ er ⋯).mp hy;obtain⟨i1,i2⟩:=ih.mp ⟨x,C1⟩;refine⟨i1,λr h1 h2 G=>?_⟩
   by_cases z:r<n+d
   .exact i2 r h1 z G
   .have:r=n+d:=by lia
    subst this;obtain⟨k',b',x',R',e1,e2,I',e3,mem⟩:=G;have:=I.eq e e1 e2.symm;subst this;rw[er] at e3;cases e3;have:=C1.one O hL I';subst this;have:=kZ.one OR hL c1 (.inl ⟨_,mem,rfl,rfl⟩);cases this
  .rintro⟨h1,h2⟩;obtain⟨x,hx⟩:=ih.mpr ⟨h1,λr a b=>h2 r a ⋯⟩
   rcases kZ.total OR hL cP x with⟨y,hy⟩|mem
   .exact⟨y,(cX.succ er ⋯).mpr ⟨x,hx,hy⟩⟩
   .exact absurd ⟨k,b,x,R,e,rfl,hx,er,mem⟩ (h2 (n+d) ⋯ ⋯)
theorem cX.Se(O:∀r∈RR,aZ L r)(hL:2<=L)(cP:L<=26)(I:Inj Bs)(e:Bs[k]?=some b)(h:n<=s)(hs:s<=RR.length)(hb:b.1<=n):(∃y,cX L RR s b y)↔(∃x,cX L RR n b x)/\∀r,n<=r->r<s->¬dW L Bs RR r b.2.2:=cX.on O hL cP I e (s-n) s ⋯ hs hb
theorem cX.P1(O:∀r∈RR,aZ L r)(hL:2<=L)(cP:L<=26)(I:Inj Bs)(e:Bs[k]?=some b)(hs:s<=RR.length)(A:cX L RR s b y){r:Nat}(hr:r<s):¬dW L Bs RR r b.2.2:=λG=>by
 obtain⟨k',b',x',R',e1,e2,I',e3,mem⟩:=G;have:=I.eq e e1 e2.symm;subst this;exact((cX.Se O hL cP I e ⋯ hs I'.1).mp ⟨y,A⟩).2 r (bb _) hr ⟨k',b,x',R',e1,rfl,I',e3,mem⟩
end
def NH(kvs:VG)(t:VE):Prop:=∃m,(m,t)∈kvs
def NJ(kvs:VG)(ks:VF)(t:VE):Prop:=∃m,m∈ks/\(m,t)∈kvs
section
variable{L h:Nat}{Bs:VI dY}{RR:VI (VI bG)}{pu:Nat->Nat}{Kt:Nat->Nat->Prop}{Ts:VI oY}{kn tk Yk Yg:Nat->Prop}{kvs XQ HS zs XT zs2:VG}{ks ks' ks2 ws X0 ws2:VF}{n m:Nat}{t:VE}
structure NT(L:Nat)(RR:VI (VI bG))(Bs:VI dY)(Ts:VI oY)(n:Nat)(kn tk:Nat->Prop)(kvs:VG)(ks:VF):Prop where
 le:n<=RR.length
 mem:∀z:VE×VE,z∈kvs↔∃(k:Nat) (b:dY),kn k/\Bs[k]?=some b/\cX L RR n b z.1/\b.2.2=z.2
 tks:∀w,w∈ks↔∃(k:Nat) (b:oY),tk k/\Ts[k]?=some b/\bM L ((RR.take n).drop b.1) b.2 (some w)
 bag:∀(k:Nat) (b:dY),kn k->Bs[k]?=some b->b.1<=n
 tag:∀(k:Nat) (b:oY),tk k->Ts[k]?=some b->b.1<=n
 sub:∀w∈ks,w∈kvs.map (·.1)
theorem HK.nt(A:HK L c Bs Ts kn tk (RR.take n) kvs ks)(G:qm L h Bs RR pu Kt)(hn:n<=RR.length):NT L RR Bs Ts n kn tk kvs ks:=by
 obtain⟨zs,ws,T,N⟩:=A.nf;have l:(RR.take n).length=n:=by rw[fg,oe hn]
 exact⟨hn,λz=>by rw[<-T.perm.mem_iff];exact N.US G hn z,λw=>by rw[<-T.tperm.mem_iff];exact N.tks w,λk b h e=>by have:=N.bag k b h e;lia,λk b h e=>by have:=N.tag k b h e;lia,A.kw.sub⟩
theorem NT.thing(A:NT L RR Bs Ts n kn tk kvs ks)(t:VE):NH kvs t↔∃(k:Nat) (b:dY),kn k/\Bs[k]?=some b/\(∃x,cX L RR n b x)/\b.2.2=t:=
 ⟨λ⟨x,hx⟩=>by
  obtain⟨k,b,h,e,I,w⟩:=(A.mem (x,t)).mp hx;exact⟨k,b,h,e,⟨x,I⟩,w⟩,λ⟨k,b,h,e,⟨x,I⟩,w⟩=>⟨x,(A.mem (x,t)).mpr ⟨k,b,h,e,I,w⟩⟩⟩
theorem NT.inj(A:NT L RR Bs Ts n kn tk kvs ks)(G:qm L h Bs RR pu Kt)(hL:2<=L)(I:Inj Bs){x y:VE}(hx:(x,t)∈kvs)(hy:(y,t)∈kvs):x=y:=by
 obtain⟨k,b,_,e,J,w⟩:=(A.mem (x,t)).mp hx;obtain⟨k',b',_,e',J',w'⟩:=(A.mem (y,t)).mp hy;have:=I.eq e e' (w.trans w'.symm);subst this;exact J.one G.ro hL J'
theorem kM{α:Type}{R:VI α}{a m:Nat}(h1:a<=n)(h2:n<=m)(hm:m<=R.length):(R.take m).drop a=(R.take n).drop a++(R.take m).drop n:=by
 have e:R.take m=R.take n++(R.take m).drop n:=by
  have:=(yn n (R.take m)).symm;rw[Wp,oe h2] at this;exact this
 have e2:(R.take m).drop a=(R.take n++(R.take m).drop n).drop a:=by rw[<-e]
 rw[e2];exact xa (by rw[fg];lia)
theorem cX.split{b:dY}{y:VE}(h1:b.1<=n)(h2:n<=m)(hm:m<=RR.length):cX L RR m b y↔∃x,cX L RR n b x/\bM L ((RR.take m).drop n) x (some y):=by
 unfold cX;rw[kM h1 h2 hm,bM.app];exact⟨λ⟨_,x,a,c⟩=>⟨x,⟨h1,a⟩,c⟩,λ⟨x,⟨_,a⟩,c⟩=>⟨by lia,x,a,c⟩⟩
theorem NT.up(A:NT L RR Bs Ts n kn tk kvs ks)(G:qm L h Bs RR pu Kt)(hL:2<=L)(cP:L<=26)(I:Inj Bs)(h2:n<=m)(hm:m<=RR.length)(t:VE):
  ((∃(k:Nat) (b:dY),kn k/\Bs[k]?=some b/\(∃x,cX L RR m b x)/\b.2.2=t)↔NH kvs t/\∀r,n<=r->r<m->¬dW L Bs RR r t)/\
  ((∃(k:Nat) (b:dY) (x:VE),Bs[k]?=some b/\cX L RR m b x/\b.2.2=t/\∃(j:Nat) (c:oY),tk j/\Ts[j]?=some c/\bM L ((RR.take m).drop c.1) c.2 (some x))↔NJ kvs ks t/\∀r,n<=r->r<m->¬dW L Bs RR r t):=by
 constructor
 .rw[A.thing t];constructor
  .rintro⟨k,b,hk,e,hx,rfl⟩;obtain⟨a1,a2⟩:=(cX.Se G.ro hL cP I e h2 hm (A.bag k b hk e)).mp hx;exact⟨⟨k,b,hk,e,a1,rfl⟩,a2⟩
  .rintro⟨⟨k,b,hk,e,hx,rfl⟩,a2⟩;exact⟨k,b,hk,e,(cX.Se G.ro hL cP I e h2 hm (A.bag k b hk e)).mpr ⟨hx,a2⟩,rfl⟩
 .constructor
  .rintro⟨k,b,x,e,J,rfl,j,c,hj,ec,cc⟩;rw[kM (A.tag j c hj ec) h2 hm,bM.app] at cc;obtain⟨w,c1,c2⟩:=cc;have hw:w∈ks:=(A.tks w).mpr ⟨j,c,hj,ec,c1⟩;obtain⟨z,hz,ez⟩:=km.mp (A.sub w hw);obtain⟨k',b',Ys,e',J',w'⟩:=(A.mem z).mp hz;rw[ez] at J';have J2:cX L RR m b' x:=(cX.split (A.bag k' b' Ys e') h2 hm).mpr ⟨w,J',c2⟩;have:=G.un m hm k k' b b' x e e' J J2;subst this;rw[e] at e';cases e';have ez2:z=(w,b.2.2):=Xy ez w'.symm;rw[ez2] at hz;exact⟨⟨w,hw,hz⟩,((cX.Se G.ro hL cP I e h2 hm (A.bag k b Ys e)).mp ⟨x,J⟩).2⟩
  .rintro⟨⟨w,hw,hz⟩,a2⟩;obtain⟨k,b,hk,e,J,rfl⟩:=(A.mem (w,t)).mp hz;have hb:=A.bag k b hk e;obtain⟨x,hx⟩:=(cX.Se G.ro hL cP I e h2 hm hb).mpr ⟨⟨w,J⟩,a2⟩;obtain⟨w',J',c2⟩:=(cX.split hb h2 hm).mp hx;have:=J.one G.ro hL J';have:w=w':=this;subst this;obtain⟨j,c,hj,ec,c1⟩:=(A.tks w).mp hw;refine⟨k,b,x,e,hx,rfl,j,c,hj,ec,?_⟩;rw[kM (A.tag j c hj ec) h2 hm,bM.app];exact⟨w,c1,c2⟩
theorem NT.lay{n':Nat}(A:NT L RR Bs Ts n kn tk kvs ks)(B:NT L RR Bs Ts n' Yk Yg XQ ks')(N:NT L RR Bs Ts (max n n') (λk=>kn k\/Yk k) (λk=>tk k\/Yg k) HS ks2)(G:qm L h Bs RR pu Kt)(hL:2<=L)(cP:L<=26)(I:Inj Bs)(t:VE):
  (NH HS t↔(NH kvs t\/NH XQ t)/\∀r,min n n'<=r->r<max n n'->¬dW L Bs RR r t)/\(NJ HS ks2 t↔(NJ kvs ks t\/NJ XQ ks' t)/\∀r,min n n'<=r->r<max n n'->¬dW L Bs RR r t):=by
 have hm:=N.le;obtain⟨a1,a2⟩:=A.up G hL cP I (Wd n n') hm t;obtain⟨b1,b2⟩:=B.up G hL cP I (PQ n n') hm t;have ng:∀{k:Nat} {b:dY},Bs[k]?=some b->(∃x,cX L RR (max n n') b x)->b.2.2=t->∀r,min n n'<=r->r<max n n'->¬dW L Bs RR r t:=λe ⟨x,J⟩ q r _ h2=>by
  rw[<-q];exact cX.P1 G.ro hL cP I e hm J h2
 constructor
 .rw[N.thing t];constructor
  .rintro⟨k,b,hk,e,hx,q⟩;refine⟨?_,ng e hx q⟩
   rcases hk with hk|hk
   .exact .inl (a1.mp ⟨k,b,hk,e,hx,q⟩).1
   .exact .inr (b1.mp ⟨k,b,hk,e,hx,q⟩).1
  .rintro⟨h|h,g⟩
   .obtain⟨k,b,hk,e,hx,q⟩:=a1.mpr ⟨h,λr h1 h2=>g r (eJ (Oy _ _) h1) h2⟩;exact⟨k,b,.inl hk,e,hx,q⟩
   .obtain⟨k,b,hk,e,hx,q⟩:=b1.mpr ⟨h,λr h1 h2=>g r (eJ (Xe _ _) h1) h2⟩;exact⟨k,b,.inr hk,e,hx,q⟩
 .have key:NJ HS ks2 t↔∃(k:Nat) (b:dY) (x:VE),Bs[k]?=some b/\cX L RR (max n n') b x/\b.2.2=t/\∃(j:Nat) (c:oY),(tk j\/Yg j)/\Ts[j]?=some c/\bM L ((RR.take (max n n')).drop c.1) c.2 (some x):=by
   constructor
   .rintro⟨x,hx,hz⟩;obtain⟨k,b,hk,e,J,q⟩:=(N.mem (x,t)).mp hz;exact⟨k,b,x,e,J,q,(N.tks x).mp hx⟩
   .rintro⟨k,b,x,e,J,q,hj⟩;have hx:=(N.tks x).mpr hj;obtain⟨z,hz,ez⟩:=km.mp (N.sub x hx);obtain⟨k',b',Ys,e',J',w'⟩:=(N.mem z).mp hz;rw[ez] at J';have:=G.un _ hm k k' b b' x e e' J J';subst this;rw[e] at e';cases e';exact⟨x,hx,by rw[<-ez,<-q,w'];exact hz⟩
  rw[key];constructor
  .rintro⟨k,b,x,e,J,q,j,c,hj|hj,ec,cc⟩
   .exact⟨.inl (a2.mp ⟨k,b,x,e,J,q,j,c,hj,ec,cc⟩).1,ng e ⟨x,J⟩ q⟩
   .exact⟨.inr (b2.mp ⟨k,b,x,e,J,q,j,c,hj,ec,cc⟩).1,ng e ⟨x,J⟩ q⟩
  .rintro⟨h|h,g⟩
   .obtain⟨k,b,x,e,J,q,j,c,hj,r⟩:=a2.mpr ⟨h,λr h1 h2=>g r (eJ (Oy _ _) h1) h2⟩;exact⟨k,b,x,e,J,q,j,c,.inl hj,r⟩
   .obtain⟨k,b,x,e,J,q,j,c,hj,r⟩:=b2.mpr ⟨h,λr h1 h2=>g r (eJ (Xe _ _) h1) h2⟩;exact⟨k,b,x,e,J,q,j,c,.inr hj,r⟩
end
section
variable{C:θ}{B H H':Hp}{L h c:Nat}{Bs:VI dY}{Ts:VI oY}{RR:VI (VI bG)}{N:Nat}{f:Nat->HR}{F:VI θ}
theorem eY.Ii(T:eY C B H L h c Bs Ts RR N f)(k:Keeps F H H')(hF:∀t∈F,∃o,B t=some o/\(∀ys,o≠.tup ys)/\(∀z,o≠.own z)/\∀i,i<N->¬t∈(f i).as):eY C (rL N f H') H' L h c Bs Ts RR N f/\Keeps F B (rL N f H'):=by
 refine⟨(T.Sd (B0:=λ_=>none) k (λt ht=>?_) (λ_ _ e=>by cases e) λ_ _=>⟨rfl,rfl,rfl,rfl⟩).cut,λa o e n=>dO (k _ _ (T.bs _ _ e) n) (T.ne e)⟩;obtain⟨o,e,n1,n2,n3⟩:=hF t ht;refine⟨λys w=>gc w (T.bs _ _ e) (λq=>n1 ys q.symm) rfl,λi hi=>?_⟩;obtain⟨m1,m2,m3,m4⟩:=T.ne e i hi;exact⟨m1,gc (T.bs _ _ e) (T.hnd i hi).own (n2 _),m2,m3,m4,n3 i hi⟩
theorem eY.NK(T:eY C B H L h c Bs Ts RR N f){t:θ}{o:HO}(e:B t=some o)(n:∀xs,o≠.lst xs):∀i,i<N->¬t∈(f i).as:=λi hi z=>by
 obtain⟨xs,w⟩:=(T.ren i hi).row.mem z;exact gc w (T.bs _ _ e) (λq=>n xs q.symm) rfl
end
structure GR where
 (t d e:θ) (D E:VF)
def gD{α:Type}(g:Nat->α)(i:Nat)(r:α):Nat->α:=λk=>if k=i then r else g k
theorem aS{α:Type}{g:Nat->α}{r:α}:gD g i r i=r:=df rfl
theorem bq{α:Type}{g:Nat->α}{k:Nat}{r:α}(h:k≠i):gD g i r k=g k:=cq h
def o7(h:Nat)(g:Nat->GR):VI V:=(List.range h).map λk=>V.ref (g k).t
def Ij(l:Nat)(q:Nat->θ):VI V:=(List.range l).map λr=>V.ref (q r)
theorem iz{g:Nat->GR}(hi:i<h):(o7 h g)[i]?=some (.ref (g i).t):=by rw[o7,cn,Ee hi];rfl
theorem KG{l:Nat}{q:Nat->θ}(hi:i<l):(Ij l q)[i]?=some (.ref (q i)):=by rw[Ij,cn,Ee hi];rfl
theorem mY{g:Nat->GR}:(o7 h g).length=h:=by rw[o7,aw,og]
theorem Ff{l:Nat}{q:Nat->θ}:(Ij l q).length=l:=by rw[Ij,aw,og]
theorem Fg{g:Nat->GR}{r:GR}(hi:i<h):(o7 h g).set i (.ref r.t)=o7 h (gD g i r):=by
 refine VV λk=>?_;rw[List.getElem?_set]
 by_cases z:i=k
 .subst z;rw[df rfl,df (by rw[mY];exact hi),iz hi,aS]
 .rw[cq z]
  by_cases y:k<h
  .rw[iz y,iz y,bq (du z)]
  .rw[mn (by rw[mY];lia),mn (by rw[mY];lia)]
theorem NL{l:Nat}{q:Nat->θ}:Ij l q++[.ref p]=Ij (l+1) (gD q l p):=by
 unfold Ij;rw[Wv,fi];congr 1
 .exact ot λk hk=>by rw[bq (iq (xI.mp hk))]
 .show [V.ref p]=[V.ref (gD q l p l)];rw[aS]
structure LB(B:Hp)(h l:Nat)(n:Nat->Nat)(g:Nat->GR)(q:Nat->θ)(Gn:Nat->VF)(pm pg ps pb:θ)(SN BF:VI (VI Key×V)):Prop where
 lm:B pm=some (.lst (o7 h g))
 tp:∀k,k<h->B (g k).t=some (.tup [.int (n k:Nat),.ref (g k).d,.ref (g k).e])
 dd:∀k,k<h->B (g k).d=some (.dK (cF (g k).D))
 ee:∀k,k<h->B (g k).e=some (.dK (cF (g k).E))
 lg:B pg=some (.lst (Ij l q))
 qq:∀r,r<l->B (q r)=some (.lst ((Gn r).map av))
 sn:B ps=some (.dT SN)
 bf:B pb=some (.dT BF)
 a1:∀i,i<h->∀k,k<h->i≠k->(g i).d≠(g k).d
 a2:∀i,i<h->∀k,k<h->i≠k->(g i).e≠(g k).e
 a3:∀i,i<h->∀k,k<h->(g i).d≠(g k).e
 a4:pg≠pm
 a5:∀r,r<l->q r≠pm/\q r≠pg
 a6:ps≠pb
section
variable{B B':Hp}{h l:Nat}{n n':Nat->Nat}{g:Nat->GR}{q:Nat->θ}{Gn:Nat->VF}{pm pg ps pb:θ}{SN BF X7 Yc:VI (VI Key×V)}{i:Nat}{r:GR}{D':VF}
theorem LB.num(A:LB B h l n g q Gn pm pg ps pb SN BF)(e:∀k,k<h->n' k=n k):LB B h l n' g q Gn pm pg ps pb SN BF:={A with tp:=λk hk=>by rw[e k hk];exact A.tp k hk}
theorem j5{t:θ}(h:a≠t):a∉[t]:=λz=>h (bc.mp z)
theorem LB.putD(A:LB B h l n g q Gn pm pg ps pb SN BF)(hi:i<h)(k:Keeps [(g i).d] B B')(e:B' (g i).d=some (.dK (cF D'))):LB B' h l n (gD g i {g i with D:=D' }) q Gn pm pg ps pb SN BF:=by
 have D:=A.dd i hi;have gd:∀k,(gD g i {g i with D:=D' } k).t=(g k).t/\(gD g i {g i with D:=D' } k).d=(g k).d/\(gD g i {g i with D:=D' } k).e=(g k).e/\(gD g i {g i with D:=D' } k).E=(g k).E:=λk=>by
  by_cases z:k=i
  .subst z;rw[aS];exact⟨rfl,rfl,rfl,rfl⟩
  .rw[bq z];exact⟨rfl,rfl,rfl,rfl⟩
 refine⟨?_,λj hj=>?_,λj hj=>?_,λj hj=>?_,k _ _ A.lg (j5 (gc A.lg D nofun)),λr hr=>k _ _ (A.qq r hr) (j5 (gc (A.qq r hr) D nofun)),k _ _ A.sn (j5 (gc A.sn D nofun)),k _ _ A.bf (j5 (gc A.bf D nofun)),λx hx y hy ne=>?_,λx hx y hy ne=>?_,λx hx y hy=>?_,A.a4,A.a5,A.a6⟩
 .rw[show o7 h (gD g i {g i with D:=D' })=o7 h g from ot λk _=>by rw[(gd k).1]]
  exact k _ _ A.lm (j5 (gc A.lm D nofun))
 .rw[(gd j).1,(gd j).2.1,(gd j).2.2.1];exact k _ _ (A.tp j hj) (j5 (gc (A.tp j hj) D nofun))
 .by_cases z:j=i
  .subst z;rw[aS];exact e
  .rw[bq z];exact k _ _ (A.dd j hj) (j5 (A.a1 j hj i hi z))
 .rw[(gd j).2.2.1,(gd j).2.2.2];exact k _ _ (A.ee j hj) (j5 (du (A.a3 i hi j hj)))
 .rw[(gd x).2.1,(gd y).2.1];exact A.a1 x hx y hy ne
 .rw[(gd x).2.2.1,(gd y).2.2.1];exact A.a2 x hx y hy ne
 .rw[(gd x).2.1,(gd y).2.2.1];exact A.a3 x hx y hy
theorem LB.UU(A:LB B h l n g q Gn pm pg ps pb SN BF)(hi:i<h)(k:Keeps [(g i).e] B B')(e:B' (g i).e=some (.dK (cF D'))):LB B' h l n (gD g i {g i with E:=D' }) q Gn pm pg ps pb SN BF:=by
 have D:=A.ee i hi;have gd:∀k,(gD g i {g i with E:=D' } k).t=(g k).t/\(gD g i {g i with E:=D' } k).d=(g k).d/\(gD g i {g i with E:=D' } k).e=(g k).e/\(gD g i {g i with E:=D' } k).D=(g k).D:=λk=>by
  by_cases z:k=i
  .subst z;rw[aS];exact⟨rfl,rfl,rfl,rfl⟩
  .rw[bq z];exact⟨rfl,rfl,rfl,rfl⟩
 refine⟨?_,λj hj=>?_,λj hj=>?_,λj hj=>?_,k _ _ A.lg (j5 (gc A.lg D nofun)),λr hr=>k _ _ (A.qq r hr) (j5 (gc (A.qq r hr) D nofun)),k _ _ A.sn (j5 (gc A.sn D nofun)),k _ _ A.bf (j5 (gc A.bf D nofun)),λx hx y hy ne=>?_,λx hx y hy ne=>?_,λx hx y hy=>?_,A.a4,A.a5,A.a6⟩
 .rw[show o7 h (gD g i {g i with E:=D' })=o7 h g from ot λk _=>by rw[(gd k).1]]
  exact k _ _ A.lm (j5 (gc A.lm D nofun))
 .rw[(gd j).1,(gd j).2.1,(gd j).2.2.1];exact k _ _ (A.tp j hj) (j5 (gc (A.tp j hj) D nofun))
 .rw[(gd j).2.1,(gd j).2.2.2];exact k _ _ (A.dd j hj) (j5 (A.a3 j hj i hi))
 .by_cases z:j=i
  .subst z;rw[aS];exact e
  .rw[bq z];exact k _ _ (A.ee j hj) (j5 (A.a2 j hj i hi z))
 .rw[(gd x).2.1,(gd y).2.1];exact A.a1 x hx y hy ne
 .rw[(gd x).2.2.1,(gd y).2.2.1];exact A.a2 x hx y hy ne
 .rw[(gd x).2.1,(gd y).2.2.1];exact A.a3 x hx y hy
theorem LB.anew(A:LB B h l n g q Gn pm pg ps pb SN BF)(hi:i<h)(k:Keeps [pm] B B')(e:B' pm=some (.lst (o7 h (gD g i r))))(et:B' r.t=some (.tup [.int (n' i:Nat),.ref r.d,.ref r.e]))(ed:B' r.d=some (.dK (cF r.D)))(ee:B' r.e=some (.dK (cF r.E)))(n1:B r.d=none)(n2:B r.e=none)(Zy:r.d≠r.e)(en:∀k,k≠i->n' k=n k):LB B' h l n' (gD g i r) q Gn pm pg ps pb SN BF:=by
 have M:=A.lm;refine⟨e,λj hj=>?_,λj hj=>?_,λj hj=>?_,k _ _ A.lg (j5 A.a4),λr hr=>k _ _ (A.qq r hr) (j5 (A.a5 r hr).1),k _ _ A.sn (j5 (gc A.sn M nofun)),k _ _ A.bf (j5 (gc A.bf M nofun)),λx hx y hy ne=>?_,λx hx y hy ne=>?_,λx hx y hy=>?_,A.a4,A.a5,A.a6⟩
 .by_cases z:j=i
  .subst z;rw[aS];exact et
  .rw[bq z,en j z];exact k _ _ (A.tp j hj) (j5 (gc (A.tp j hj) M nofun))
 .by_cases z:j=i
  .subst z;rw[aS];exact ed
  .rw[bq z];exact k _ _ (A.dd j hj) (j5 (gc (A.dd j hj) M nofun))
 .by_cases z:j=i
  .subst z;rw[aS];exact ee
  .rw[bq z];exact k _ _ (A.ee j hj) (j5 (gc (A.ee j hj) M nofun))
 .by_cases z:x=i
  .subst z;rw[aS,bq (du ne)];exact du (fresh_ne (A.dd y hy) n1)
  .rw[bq z]
   by_cases w:y=i
   .subst w;rw[aS];exact fresh_ne (A.dd x hx) n1
   .rw[bq w];exact A.a1 x hx y hy ne
 .by_cases z:x=i
  .subst z;rw[aS,bq (du ne)];exact du (fresh_ne (A.ee y hy) n2)
  .rw[bq z]
   by_cases w:y=i
   .subst w;rw[aS];exact fresh_ne (A.ee x hx) n2
   .rw[bq w];exact A.a2 x hx y hy ne
 .by_cases z:x=i
  .subst z;rw[aS]
   by_cases w:y=x
   .subst w;rw[aS];exact Zy
   .rw[bq w];exact du (fresh_ne (A.ee y hy) n1)
  .rw[bq z]
   by_cases w:y=i
   .subst w;rw[aS];exact fresh_ne (A.dd x hx) n2
   .rw[bq w];exact A.a3 x hx y hy
theorem LB.more{ts:VF}(A:LB B h l n g q Gn pm pg ps pb SN BF)(k:Keeps [pg] B B')(e:B' pg=some (.lst (Ij (l+1) (gD q l p))))(ep:B' p=some (.lst (ts.map av)))(np:B p=none):LB B' h (l+1) n g (gD q l p) (gD Gn l ts) pm pg ps pb SN BF:=by
 have M:=A.lg;refine⟨k _ _ A.lm (j5 (du A.a4)),λj hj=>k _ _ (A.tp j hj) (j5 (gc (A.tp j hj) M nofun)),λj hj=>k _ _ (A.dd j hj) (j5 (gc (A.dd j hj) M nofun)),λj hj=>k _ _ (A.ee j hj) (j5 (gc (A.ee j hj) M nofun)),e,λr hr=>?_,k _ _ A.sn (j5 (gc A.sn M nofun)),k _ _ A.bf (j5 (gc A.bf M nofun)),A.a1,A.a2,A.a3,A.a4,λr hr=>?_,A.a6⟩
 .by_cases z:r=l
  .subst z;rw[aS,aS];exact ep
  .rw[bq z,bq z];exact k _ _ (A.qq r ⋯) (j5 (A.a5 r ⋯).2)
 .by_cases z:r=l
  .subst z;rw[aS];exact⟨du (fresh_ne A.lm np),du (fresh_ne A.lg np)⟩
  .rw[bq z];exact A.a5 r ⋯
end
def tN(k:Nat):VE:=116::num k
theorem KH{k:Nat}(h:k<64):Thing (tN k):=by
 have:∀k,k<64->(116::num k).length<=12/\∀c∈116::num k,c∈BG:=by decide+kernel
 exact⟨WB _ _,(this k h).1,(this k h).2⟩
theorem KJ{a b:Nat}(ha:a<64)(hb:b<64)(e:tN a=tN b):a=b:=by
 injection e with _ e
 have h1:=E8 ha;rw[e,E8 hb] at h1;injection h1 with h1
 lia
theorem rM{κ:Type}[DecidableEq κ]{k:κ}{v:V}{kvs:VI (κ×V)}(h:ck kvs k=some v):(k,v)∈kvs:=by
 obtain⟨e,h1,h2⟩:=eM.mp h;have h4:=Xv h1;have:e.1=k:=uk h4;have h3:=P2 h1;rw[<-show e=(k,v) from Xy this h2];exact h3
theorem zP{κ:Type}[DecidableEq κ]{k:κ}{v:V}{e:κ×V}{kvs:VI (κ×V)}(h:e∈putK kvs k v):e∈kvs\/e=(k,v):=by
 unfold putK at h;split at h
 .obtain⟨x,hx,rfl⟩:=km.mp h;split
  .rename_i z;rw[z];exact .inr rfl
  .exact .inl hx
 .rcases eP.mp h with h|h
  .exact .inl h
  .exact .inr (bc.mp h)
def kA(a:Nat)(m:VE):VI Key:=[Key.inl a,Key.inr (txt m),Key.inr (txt [])]
def kB(a:Nat)(t:VE):VI Key:=[Key.inl a,Key.inr (txt []),Key.inr (txt t)]
def lq(L:Nat)(Bs:VI dY)(RR:VI (VI bG))(SN:VI (VI Key×V)):Prop:=∀e∈SN,∃(a k:Nat) (b:dY) (m:VE),a<=RR.length/\Bs[k]?=some b/\cX L RR a b m/\((e.1=kA a m/\e.2=av b.2.2)\/(e.1=kB a b.2.2/\e.2=av m))
def zQ(L:Nat)(Bs:VI dY)(RR:VI (VI bG))(BF:VI (VI Key×V)):Prop:=∀e∈BF,∃(a k k':Nat) (b c:dY) (m m':VE),a<=RR.length/\Bs[k]?=some b/\Bs[k']?=some c/\cX L RR a b m/\cX L RR a c m'/\m<m'/\e.1=[Key.inr (txt b.2.2),Key.inr (txt c.2.2)]
section
variable{L h:Nat}{Bs Bx:VI dY}{RR Rx:VI (VI bG)}{pu pu':Nat->Nat}{Kt:Nat->Nat->Prop}{b c:dY}{a k r:Nat}{m t:VE}{SN BF:VI (VI Key×V)}
theorem cX.more(ha:a<=RR.length):cX L (RR++Rx) a b m↔cX L RR a b m:=by unfold cX;rw[xb ha]
theorem rN(e:Bs[k]?=some b):(Bs++Bx)[k]?=some b:=by rw[lr (bo.mp e).1];exact e
theorem lq.more(A:lq L Bs RR SN):lq L (Bs++Bx) (RR++Rx) SN:=λe he=>by
 obtain⟨a,k,b,m,ha,eb,I,h⟩:=A e he;exact⟨a,k,b,m,by rw[de];lia,rN eb,(cX.more ha).mpr I,h⟩
theorem zQ.more(A:zQ L Bs RR BF):zQ L (Bs++Bx) (RR++Rx) BF:=λe he=>by
 obtain⟨a,k,k',b,c,m,m',ha,eb,ec,I,J,lt,q⟩:=A e he;exact⟨a,k,k',b,c,m,m',by rw[de];lia,rN eb,rN ec,(cX.more ha).mpr I,(cX.more ha).mpr J,lt,q⟩
theorem dW.put(G:qm L h Bs RR pu Kt)(G':qm L h (Bs++[c]) RR pu' Kt)(hr:r<RR.length):dW L (Bs++[c]) RR r t↔dW L Bs RR r t:=by
 constructor
 .rintro⟨k,b,x,R,e,q,I,er,mem⟩;obtain⟨k',b',_,e',I'⟩:=G.old r R er x ⟨_,mem,rfl⟩;have:=G'.un r ⋯ k k' b b' x e (rN e') I I';subst this;rw[rN e'] at e;cases e;exact⟨k,_,x,R,e',q,I,er,mem⟩
 .rintro⟨k,b,x,R,e,q,I,er,mem⟩;exact⟨k,b,x,R,rN e,q,I,er,mem⟩
theorem dW.more{R:VI bG}(hr:r<RR.length):dW L Bs (RR++[R]) r t↔dW L Bs RR r t:=by
 constructor
 .rintro⟨k,b,x,R',e,q,I,er,mem⟩;rw[lr hr] at er;exact⟨k,b,x,R',e,q,(cX.more ⋯).mp I,er,mem⟩
 .rintro⟨k,b,x,R',e,q,I,er,mem⟩;exact⟨k,b,x,R',e,q,(cX.more ⋯).mpr I,by rw[lr hr];exact er,mem⟩
theorem lq.fst(A:lq L Bs RR SN)(G:qm L h Bs RR pu Kt)(ha:a<=RR.length)(e:Bs[k]?=some b)(I:cX L RR a b m)(nm:m≠[]){v:V}(hv:ck SN (kA a m)=some v):v=av b.2.2:=by
 obtain⟨a',k',b',m',ha',e',I',h⟩:=A _ (rM hv)
 rcases h with⟨h1,h2⟩|⟨h1,h2⟩
 .unfold kA at h1;injection h1 with h3 h4
  injection h4 with h4 _
  injection h3 with h3
  injection h4 with h4
  have ea:a=a':=by lia
  have em:m=m':=cC.mp h4;subst ea em;have:=G.un a ha k k' b b' m e e' I I';subst this;rw[e] at e';cases e';exact h2
 .unfold kA kB at h1;injection h1 with _ h4
  injection h4 with h4 _
  injection h4 with h4
  exact absurd (cC.mp h4) nm
theorem lq.snd(A:lq L Bs RR SN)(G:qm L h Bs RR pu Kt)(hL:2<=L)(J:Inj Bs)(e:Bs[k]?=some b)(I:cX L RR a b m)(nt:b.2.2≠[]){v:V}(hv:ck SN (kB a b.2.2)=some v):v=av m:=by
 obtain⟨a',k',b',m',ha',e',I',h⟩:=A _ (rM hv)
 rcases h with⟨h1,h2⟩|⟨h1,h2⟩
 .unfold kA kB at h1;injection h1 with _ h4
  injection h4 with _ h4
  injection h4 with h4 _
  injection h4 with h4
  exact absurd (cC.mp h4) nt
 .unfold kB at h1;injection h1 with h3 h4
  injection h4 with _ h4
  injection h4 with h4 _
  injection h3 with h3
  injection h4 with h4
  have ea:a=a':=by lia
  have et:b.2.2=b'.2.2:=cC.mp h4;subst ea;have:=J.eq e e' et;subst this;rw[I.one G.ro hL I'];exact h2
theorem zQ.no{x y:VE}{k':Nat}(A:zQ L Bs RR BF)(G:qm L h Bs RR pu Kt)(hL:2<=L)(J:Inj Bs)(ha:a<=RR.length)(e:Bs[k]?=some b)(e':Bs[k']?=some c)(I:cX L RR a b x)(I':cX L RR a c y)(lt:x<y):ck BF [Key.inr (txt c.2.2),Key.inr (txt b.2.2)]=none:=by
 cases hv:ck BF [Key.inr (txt c.2.2),Key.inr (txt b.2.2)] with
 |none=>rfl
 |some v=>
  exfalso
  obtain⟨s,i,j,b',c',m,m',hs,eb,ec,K1,K2,lt',q⟩:=A _ (rM hv);injection q with q1 q2
  injection q2 with q2 _
  injection q1 with q1
  injection q2 with q2
  have h1:=J.eq e' eb (cC.mp q1);have h2:=J.eq e ec (cC.mp q2);subst h1 h2
  rcases Nat.le_total a s with z|z
  .have:=cX.rise G.ro hL I I' lt (s-a) s ⋯ hs m' m K2 K1;exact hX _ (ke this lt')
  .have:=cX.rise G.ro hL K1 K2 lt' (a-s) a ⋯ ha y x I' I;exact hX _ (ke this lt)
end
structure Md(B:Hp)(L h:Nat)(Bs:VI dY)(Ts:VI oY)(RR:VI (VI bG))(fm:Nat->HR)(g:Nat->GR)(q:Nat->θ)(Gn:Nat->VF)(pm pg ps pb:θ)(SN BF:VI (VI Key×V)):Prop where
 l:LB B h RR.length (λk=>(fm k).n) g q Gn pm pg ps pb SN BF
 nt:∀k,k<h->NT L RR Bs Ts (fm k).n (fm k).kn (fm k).tk (fm k).kvs (fm k).ks
 dm:∀k,k<h->∀t,t∈(g k).D↔NH (fm k).kvs t
 em:∀k,k<h->∀t,t∈(g k).E↔NJ (fm k).kvs (fm k).ks t
 dn:∀k,k<h->(g k).D.Nodup
 en:∀k,k<h->(g k).E.Nodup
 kl:∀k,k<h->(fm k).kvs.length<=Bs.length
 gn:∀r,r<RR.length->∀t,t∈Gn r↔dW L Bs RR r t
 gl:∀r,r<RR.length->(Gn r).length<=60
 si:lq L Bs RR SN
 bi:zQ L Bs RR BF
structure Wl(C:θ)(A0 B H:Hp)(L h:Nat)(S:KS)(pu:Nat->Nat)(Kt:Nat->Nat->Prop)(fm:Nat->HR)(g:Nat->GR)(q:Nat->θ)(Gn:Nat->VF)(ph pm pg ps pb:θ)(SN BF:VI (VI Key×V))(st w:Nat):Prop where
 T:Sb C B H L h h S
 jn:∀k,k<h->(S.f k).j=k
 G:qm L h S.Bs S.RR pu Kt
 O:qo S.Bs h S.RR.length pu Kt S.f
 I:Inj S.Bs
 nm:∀b∈S.Bs,∃k,k<st/\b.2.2=tN k
 b0:aG A0 B
 lh:B ph=some (.lst (Ck h S.f))
 M:Md B L h S.Bs S.Ts S.RR fm g q Gn pm pg ps pb SN BF
 hm:ph≠pm
 hg:ph≠pg
 go:∀i,i<h->¬pg∈(S.f i).as
 z:A0 pm=none/\A0 pg=none/\A0 ps=none/\A0 pb=none
 zg:∀k,k<h->A0 (g k).d=none/\A0 (g k).e=none
 sl:SN.length<=120*w
 bl:BF.length<=3600*w
theorem LB.same{B':Hp}{l:Nat}{n:Nat->Nat}{g:Nat->GR}{q:Nat->θ}{Gn:Nat->VF}{ps:θ}{SN BF:VI (VI Key×V)}(A:LB B h l n g q Gn pm pg ps pb SN BF)(s:aG B B'):LB B' h l n g q Gn pm pg ps pb SN BF:=
 ⟨s _ _ A.lm,λk hk=>s _ _ (A.tp k hk),λk hk=>s _ _ (A.dd k hk),λk hk=>s _ _ (A.ee k hk),s _ _ A.lg,λr hr=>s _ _ (A.qq r hr),s _ _ A.sn,s _ _ A.bf,A.a1,A.a2,A.a3,A.a4,A.a5,A.a6⟩
theorem KL{g:Nat->GR}{n d e:V}{R:VI (VI bG)}(hN:0<h)(ep:H pm=some (.lst (o7 h g)))(t:H (g 0).t=some (.tup [n,d,e]))(A:bI H as R):¬pm∈as:=λz=>by
 obtain⟨j,hj⟩:=sv z;obtain⟨r,xs,_,w,p⟩:=A.get hj;rw[ep] at w;injection w with w
 injection w with w
 have e0:xs[0]?=some (.ref (g 0).t):=by rw[<-w];exact iz hN
 obtain⟨pp,tt,_,e2,ht⟩:=p.get e0;injection e2 with e2
 rw[<-e2,t] at ht;cases ht
section
variable{C:θ}{A0 B H H' H4 H5:Hp}{L h:Nat}{S:KS}{pu:Nat->Nat}{Kt:Nat->Nat->Prop}{fm:Nat->HR}{g:Nat->GR}{q:Nat->θ}{Gn:Nat->VF}{ph pm pg ps pb:θ}{SN BF:VI (VI Key×V)}{st w i o:Nat}{m t:VE}{r:HR}
theorem Wl.same(W:Wl C A0 B H L h S pu Kt fm g q Gn ph pm pg ps pb SN BF st w)(s:aG H H'):Wl C A0 B H' L h S pu Kt fm g q Gn ph pm pg ps pb SN BF st w:={W with T:=W.T.same s}
theorem Wl.nt(W:Wl C A0 B H L h S pu Kt fm g q Gn ph pm pg ps pb SN BF st w){k:Nat}(hk:k<h):NT L S.RR S.Bs S.Ts (S.f k).n (S.f k).kn (S.f k).tk (S.f k).kvs (S.f k).ks:=(W.T.hk k hk).nt W.G (W.T.nl k hk)
theorem Wl.l2(W:Wl C A0 B H L h S pu Kt fm g q Gn ph pm pg ps pb SN BF st w):2<=L/\L<=26:=⟨(W.T.hs 0 W.T.pos).l2,(W.T.hs 0 W.T.pos).l26⟩
theorem Wl.UW(W:Wl C A0 B H L h S pu Kt fm g q Gn ph pm pg ps pb SN BF st w):∀i,i<h->¬pm∈(S.f i).as:=λi hi=>KL W.T.pos (W.T.bs _ _ W.M.l.lm) (W.T.bs _ _ (W.M.l.tp 0 W.T.pos)) (W.T.ren i hi).row
theorem Wl.put(W:Wl C A0 B H L h S pu Kt S.f g q Gn ph pm pg ps pb SN BF st w)(hi:i<h)(Ya:st<64)(en:jW L h (S.f i).j m)(T':eY C B H4 L h c (S.Bs++[((S.f i).n,m,tN st)]) S.Ts S.RR h (dZ S.f i {S.f i with kvs:=(S.f i).kvs++[(m,tN st)],kn:=λk=>(S.f i).kn k\/k=S.Bs.length}))
  (kp:Keeps [(g i).d] H4 H5) (e:H5 (g i).d=some (.dK (cF ((g i).D++[tN st])))):∃B' pu',Wl C A0 B' H5 L h ⟨c,S.Bs++[((S.f i).n,m,tN st)],S.Ts,S.RR,dZ S.f i {S.f i with kvs:=(S.f i).kvs++[(m,tN st)],kn:=λk=>(S.f i).kn k\/k=S.Bs.length}⟩ pu' Kt (dZ S.f i {S.f i with kvs:=(S.f i).kvs++[(m,tN st)],kn:=λk=>(S.f i).kn k\/k=S.Bs.length}) (gD g i {g i with D:=(g i).D++[tN st] }) q Gn ph pm pg ps pb SN BF (st+1) w:=by
 obtain⟨hL,cP⟩:=W.l2;have A:=W.M.l;have D:=A.dd i hi;obtain⟨T5,kB⟩:=T'.Ii kp (λt ht=>by
  rw[bc.mp ht];exact⟨_,D,(nofun),(nofun),T'.NK D nofun⟩)
 have nm:¬m∈(S.f i).kvs.map (·.1):=λz=>by
  have:=(T'.hk i hi).kw.nd;rw[aB,fi,uj] at this;exact this.2.2 m z m bp rfl
 have NN:=W.nt hi;have G':=W.G.put hL (W.O.nl i hi) en (W.O.own i hi) (W.O.anc i hi) (λk c ec hk J=>nm (km.mpr ⟨_,(NN.mem (m,c.2.2)).mpr ⟨k,c,hk,ec,J,rfl⟩,rfl⟩)) (tN st);have O':=W.O.put (f':=dZ S.f i {S.f i with kvs:=(S.f i).kvs++[(m,tN st)],kn:=λk=>(S.f i).kn k\/k=S.Bs.length}) hi (b:=((S.f i).n,m,tN st)) rfl (λk hk=>aL hk) (by rw[aB]) (by rw[aB]) λk=>by rw[aB]
 have tF:∀b∈S.Bs,b.2.2≠tN st:=λb hb z=>by
  obtain⟨k,hk,e⟩:=W.nm b hb;have:=KJ ⋯ Ya (e.symm.trans z);lia
 have ntD:¬tN st∈(g i).D:=λz=>by
  obtain⟨x,hx⟩:=(W.M.dm i hi _).mp z;obtain⟨k,b,_,eb,_,q⟩:=(NN.mem _).mp hx;exact tF b (dy eb) q
 have lb:=(A.putD hi kB (dO e (T'.ne D))).num (n':=λk=>(dZ S.f i {S.f i with kvs:=(S.f i).kvs++[(m,tN st)],kn:=λk=>(S.f i).kn k\/k=S.Bs.length} k).n) λk _=>by
  by_cases z:k=i
  .subst z;rw[aB]
  .rw[aL z]
 have nq:∀{a:θ} {o:HO},B a=some o->(∀kv,o≠.dK kv)->a∉[(g i).d]:=λw n=>j5 (gc w D (n _));have gs:∀k,(gD g i {g i with D:=(g i).D++[tN st] } k).d=(g k).d/\(gD g i {g i with D:=(g i).D++[tN st] } k).e=(g k).e/\(gD g i {g i with D:=(g i).D++[tN st] } k).E=(g k).E:=λk=>by
  by_cases z:k=i
  .subst z;rw[aS];exact⟨rfl,rfl,rfl⟩
  .rw[bq z];exact⟨rfl,rfl,rfl⟩
 refine⟨_,_,⟨T5,λk hk=>?_,G',O',λa b x y ea eb q=>?_,λb hb=>?_,cj W.b0 kB (λt ht=>by rw[bc.mp ht];exact(W.zg i hi).1),Fe (kB _ _ W.lh (nq W.lh nofun)) rfl,⟨lb,λk hk=>(T5.hk k hk).nt G' (T5.nl k hk),λk hk t=>?_,λk hk t=>?_,λk hk=>?_,λk hk=>?_,λk hk=>(T5.hk k hk).tl.1,λr hr t=>?_,W.M.gl,by have:=W.M.si.more (Bx:=[((S.f i).n,m,tN st)]) (Rx:=[]);rw[fw] at this;exact this,by have:=W.M.bi.more (Bx:=[((S.f i).n,m,tN st)]) (Rx:=[]);rw[fw] at this;exact this⟩,W.hm,W.hg,λk hk=>?_,W.z,λk hk=>?_,W.sl,W.bl⟩⟩
 .show (dZ _ _ _ k).j=k;exact XJ (ND (by rfl) k) (W.jn k hk)
 .have at_:∀{k:Nat} {z:dY},(S.Bs++[((S.f i).n,m,tN st)])[k]?=some z->(k<S.Bs.length/\S.Bs[k]?=some z)\/(k=S.Bs.length/\z=((S.f i).n,m,tN st)):=λ{k z} e=>by
   by_cases y:k<S.Bs.length
   .rw[lr y] at e;exact .inl ⟨y,e⟩
   .have hl:=(bo.mp e).1;rw[de] at hl;simp only[length_cons,length_nil] at hl;have:k=S.Bs.length:=by lia
    subst this;rw[kf (bb _),SF] at e;exact .inr ⟨rfl,(eI e).symm⟩
  rcases at_ ea with⟨_,ea⟩|⟨rfl,rfl⟩<;>rcases at_ eb with⟨_,eb⟩|⟨rfl,rfl⟩
  .exact W.I a b x y ea eb q
  .exact absurd q (tF x (dy ea))
  .exact absurd q.symm (tF y (dy eb))
  .rfl
 .rcases eP.mp hb with hb|hb
  .obtain⟨k,hk,e⟩:=W.nm b hb;exact⟨k,by lia,e⟩
  .rw[bc.mp hb];exact⟨st,by lia,rfl⟩
 .by_cases z:k=i
  .subst z;rw[aS,aB];show t∈(g k).D++[tN st]↔NH ((S.f k).kvs++[(m,tN st)]) t;rw[eP,W.M.dm k hk t];constructor
   .rintro(⟨x,hx⟩|hx)
    .exact⟨x,hU _ hx⟩
    .rw[bc.mp hx];exact⟨m,dC _ bp⟩
   .rintro⟨x,hx⟩
    rcases eP.mp hx with hx|hx
    .exact .inl ⟨x,hx⟩
    .have:=bc.mp hx;injection this with _ h2
     rw[h2];exact .inr bp
  .rw[bq z,aL z];exact W.M.dm k hk t
 .rw[(gs k).2.2]
  by_cases z:k=i
  .subst z;rw[aB];show t∈(g k).E↔NJ ((S.f k).kvs++[(m,tN st)]) (S.f k).ks t;rw[W.M.em k hk t];constructor
   .rintro⟨x,hx,hz⟩;exact⟨x,hx,hU _ hz⟩
   .rintro⟨x,hx,hz⟩
    rcases eP.mp hz with hz|hz
    .exact⟨x,hx,hz⟩
    .have:=bc.mp hz;injection this with h1 _
     subst h1;exact absurd (NN.sub x hx) nm
  .rw[aL z];exact W.M.em k hk t
 .by_cases z:k=i
  .subst z;rw[aS];exact uj.mpr ⟨W.M.dn k hk,by simp,λa ha b hb y=>by
    rw[bc.mp hb] at y;rw[y] at ha;exact ntD ha⟩
  .rw[bq z];exact W.M.dn k hk
 .rw[(gs k).2.2];exact W.M.en k hk
 .rw[W.M.gn r hr t];exact(dW.put W.G G' hr).symm
 .show ¬pg∈(dZ _ _ _ k).as
  by_cases z:k=i
  .subst z;rw[aB];exact W.go k hk
  .rw[aL z];exact W.go k hk
 .rw[(gs k).1,(gs k).2.1];exact W.zg k hk
theorem Wl.take(W:Wl C A0 B H L h S pu Kt S.f g q Gn ph pm pg ps pb SN BF st w)(hi:i<h)(hm:(m,t)∈(S.f i).kvs)(nk:¬m∈(S.f i).ks)(kp:Keeps [(g i).e] H H4)(e:H4 (g i).e=some (.dK (cF ((g i).E++[t])))):
  ∃B',Sb C B' H4 L h h S/\∀H5,eY C B' H5 L h S.c S.Bs (S.Ts++[((S.f i).n,m)]) S.RR h (dZ S.f i {S.f i with ks:=(S.f i).ks++[m],tk:=λk=>(S.f i).tk k\/k=S.Ts.length})->
  Wl C A0 B' H5 L h ⟨S.c,S.Bs,S.Ts++[((S.f i).n,m)],S.RR,dZ S.f i {S.f i with ks:=(S.f i).ks++[m],tk:=λk=>(S.f i).tk k\/k=S.Ts.length}⟩ pu Kt (dZ S.f i {S.f i with ks:=(S.f i).ks++[m],tk:=λk=>(S.f i).tk k\/k=S.Ts.length}) (gD g i {g i with E:=(g i).E++[t] }) q Gn ph pm pg ps pb SN BF st w:=by
 obtain⟨hL,cP⟩:=W.l2;have A:=W.M.l;have D:=A.ee i hi;obtain⟨T4,kB⟩:=eY.Ii W.T kp (λt ht=>by
  rw[bc.mp ht];exact⟨_,D,(nofun),(nofun),eY.NK W.T D nofun⟩)
 have NN:=W.nt hi;have lb:=(A.UU hi kB (dO e (eY.ne W.T D))).num (n':=λk=>(dZ S.f i {S.f i with ks:=(S.f i).ks++[m],tk:=λk=>(S.f i).tk k\/k=S.Ts.length} k).n) λk _=>by
  by_cases z:k=i
  .subst z;rw[aB]
  .rw[aL z]
 have gs:∀k,(gD g i {g i with E:=(g i).E++[t] } k).d=(g k).d/\(gD g i {g i with E:=(g i).E++[t] } k).e=(g k).e/\(gD g i {g i with E:=(g i).E++[t] } k).D=(g k).D:=λk=>by
  by_cases z:k=i
  .subst z;rw[aS];exact⟨rfl,rfl,rfl⟩
  .rw[bq z];exact⟨rfl,rfl,rfl⟩
 have fs:∀k,(dZ S.f i {S.f i with ks:=(S.f i).ks++[m],tk:=λk=>(S.f i).tk k\/k=S.Ts.length} k).kvs=(S.f k).kvs:=λk=>by
  by_cases z:k=i
  .subst z;rw[aB]
  .rw[aL z]
 have ntE:¬t∈(g i).E:=λz=>by
  obtain⟨x,hx,hz⟩:=(W.M.em i hi t).mp z;have:=NN.inj W.G hL W.I hz hm;subst this;exact nk hx
 refine⟨_,T4,λH5 T5=>⟨T5,λk hk=>?_,W.G,W.O.eqv λx=>?_,W.I,W.nm,cj W.b0 kB (λt ht=>by rw[bc.mp ht];exact(W.zg i hi).2),Fe (kB _ _ W.lh (j5 (gc W.lh D nofun))) rfl,⟨lb,λk hk=>(T5.hk k hk).nt W.G (T5.nl k hk),λk hk x=>?_,λk hk x=>?_,λk hk=>?_,λk hk=>?_,λk hk=>(T5.hk k hk).tl.1,W.M.gn,W.M.gl,W.M.si,W.M.bi⟩,W.hm,W.hg,λk hk=>?_,W.z,λk hk=>?_,W.sl,W.bl⟩⟩
 .show (dZ _ _ _ k).j=k;exact XJ (ND (by rfl) k) (W.jn k hk)
 .show (dZ _ _ _ x).j=_/\(dZ _ _ _ x).n=_/\(dZ _ _ _ x).kn=_
  by_cases z:x=i
  .subst z;rw[aB];exact⟨rfl,rfl,rfl⟩
  .rw[aL z];exact⟨rfl,rfl,rfl⟩
 .rw[(gs k).2.2,fs k];exact W.M.dm k hk x
 .by_cases z:k=i
  .subst z;rw[aS,aB];show x∈(g k).E++[t]↔NJ (S.f k).kvs ((S.f k).ks++[m]) x;rw[eP,W.M.em k hk x];constructor
   .rintro(⟨y,hy,hz⟩|hx)
    .exact⟨y,hU _ hy,hz⟩
    .rw[bc.mp hx];exact⟨m,dC _ bp,hm⟩
   .rintro⟨y,hy,hz⟩
    rcases eP.mp hy with hy|hy
    .exact .inl ⟨y,hy,hz⟩
    .rw[bc.mp hy] at hz;obtain⟨k1,b1,_,e1,J1,w1⟩:=(NN.mem _).mp hz;obtain⟨k2,b2,_,e2,J2,w2⟩:=(NN.mem _).mp hm;have:=W.G.un _ NN.le k1 k2 b1 b2 m e1 e2 J1 J2;subst this;rw[e1] at e2;cases e2;have:x=t:=w1.symm.trans w2;rw[this];exact .inr bp
  .rw[bq z,aL z];exact W.M.em k hk x
 .rw[(gs k).2.2];exact W.M.dn k hk
 .by_cases z:k=i
  .subst z;rw[aS];exact uj.mpr ⟨W.M.en k hk,by simp,λa ha b hb y=>by
    rw[bc.mp hb] at y;rw[y] at ha;exact ntE ha⟩
  .rw[bq z];exact W.M.en k hk
 .show ¬pg∈(dZ _ _ _ k).as
  by_cases z:k=i
  .subst z;rw[aB];exact W.go k hk
  .rw[aL z];exact W.go k hk
 .rw[(gs k).1,(gs k).2.1];exact W.zg k hk
theorem Wl.UX(W:Wl C A0 B H L h S pu Kt fm g q Gn ph pm pg ps pb SN BF st w)(hi:i<h)(ho:o<h)(rx:r.x=(S.f i).x)(rj:r.j=(S.f i).j)(rn:r.n=max (S.f i).n (S.f o).n)(rk:r.kn=λk=>(S.f i).kn k\/(S.f o).kn k)(ra:∀a∈r.as,H a=none)(T':eY C B H' L h S.c S.Bs S.Ts S.RR h (dZ S.f i r)):Wl C A0 B H' L h ⟨S.c,S.Bs,S.Ts,S.RR,dZ S.f i r⟩ pu Kt fm g q Gn ph pm pg ps pb SN BF st w:=
 {W with
  T:=T'
  jn:=λk hk=>by
   show (dZ _ _ _ k).j=k;rw[ND rj];exact W.jn k hk
  O:=qo.lay (f':=dZ S.f i r) W.O hi (W.O.nl o ho) (W.O.anc o ho) (λk hk=>aL hk) (by rw[aB];exact rj) (by rw[aB];exact rn) (by rw[aB];exact rk)
  lh:=Fe W.lh rx
  go:=λk hk=>by
   show ¬pg∈(dZ _ _ _ k).as
   by_cases z:k=i
   .subst z;rw[aB];intro y;have:=ra pg y;rw[W.T.bs _ _ W.M.l.lg] at this;cases this
   .rw[aL z];exact W.go k hk}
theorem Wl.UY{gr:GR}(W:Wl C A0 B H L h S pu Kt fm g q Gn ph pm pg ps pb SN BF st w)(hi:i<h)(ho:o<h)(N:NT L S.RR S.Bs S.Ts (max (fm i).n (fm o).n) (λk=>(fm i).kn k\/(fm o).kn k) (λk=>(fm i).tk k\/(fm o).tk k) r.kvs r.ks)(rn:r.n=max (fm i).n (fm o).n)(rk:r.kn=λk=>(fm i).kn k\/(fm o).kn k)(rt:r.tk=λk=>(fm i).tk k\/(fm o).tk k)(rl:r.kvs.length<=S.Bs.length)
  (kp:Keeps [pm] H H') (n0:H gr.t=none) (n1:H gr.d=none) (n2:H gr.e=none) (Zy:gr.d≠gr.e) (ep:H' pm=some (.lst (o7 h (gD g i gr)))) (et:H' gr.t=some (.tup [.int (max (fm i).n (fm o).n:Nat),.ref gr.d,.ref gr.e])) (ed:H' gr.d=some (.dK (cF gr.D))) (ee:H' gr.e=some (.dK (cF gr.E))) (nD:gr.D.Nodup) (nE:gr.E.Nodup)
  (mD:∀x,x∈gr.D↔(x∈(g i).D\/x∈(g o).D)/\∀k,min (fm i).n (fm o).n<=k->k<max (fm i).n (fm o).n->¬x∈Gn k) (mE:∀x,x∈gr.E↔(x∈(g i).E\/x∈(g o).E)/\∀k,min (fm i).n (fm o).n<=k->k<max (fm i).n (fm o).n->¬x∈Gn k):
  ∃B',Wl C A0 B' H' L h S pu Kt (dZ fm i r) (gD g i gr) q Gn ph pm pg ps pb SN BF st w:=by
 obtain⟨hL,cP⟩:=W.l2;have A:=W.M.l;obtain⟨T',kB⟩:=eY.Ii W.T kp (λt ht=>by
  rw[bc.mp ht];exact⟨_,A.lm,(nofun),(nofun),W.UW⟩)
 have Ni:=W.M.nt i hi;have No:=W.M.nt o ho;have fr:∀{a:θ} {u:HO},H a=none->H' a=some u->rL h S.f H' a=some u:=λn e=>dO e (eY.fresh W.T n);have gone:∀x,(∀k,min (fm i).n (fm o).n<=k->k<max (fm i).n (fm o).n->¬x∈Gn k)↔∀k,min (fm i).n (fm o).n<=k->k<max (fm i).n (fm o).n->¬dW L S.Bs S.RR k x:=λx=>by
  have:=N.le;exact⟨λh k a b z=>h k a b ((W.M.gn k ⋯ x).mpr z),λh k a b z=>h k a b ((W.M.gn k ⋯ x).mp z)⟩
 have lay:=λt=>Ni.lay No N W.G hL cP W.I t;have lb:=A.anew (r:=gr) (n':=λk=>(dZ fm i r k).n) hi kB (dO ep (eY.ne W.T A.lm)) (by
  show _=some (HO.tup [.int ((dZ fm i r i).n:Nat),.ref gr.d,.ref gr.e]);rw[aB,rn];exact fr n0 et) (fr n1 ed) (fr n2 ee) (W.T.bs.bg n1) (W.T.bs.bg n2) Zy λk hk=>by rw[aL hk]
 refine⟨_,{W with T:=T',b0:=cj W.b0 kB (λt ht=>by rw[bc.mp ht];exact W.z.1),lh:=kB _ _ W.lh (j5 W.hm),M:=⟨lb,λk hk=>?_,λk hk t=>?_,λk hk t=>?_,λk hk=>?_,λk hk=>?_,λk hk=>?_,W.M.gn,W.M.gl,W.M.si,W.M.bi⟩,zg:=λk hk=>?_}⟩
 .by_cases z:k=i
  .subst z;rw[aB,rn,rk,rt];exact N
  .rw[aL z];exact W.M.nt k hk
 .by_cases z:k=i
  .subst z;rw[aB,aS,mD t,(lay t).1,W.M.dm k hk t,W.M.dm o ho t,gone t]
  .rw[aL z,bq z];exact W.M.dm k hk t
 .by_cases z:k=i
  .subst z;rw[aB,aS,mE t,(lay t).2,W.M.em k hk t,W.M.em o ho t,gone t]
  .rw[aL z,bq z];exact W.M.em k hk t
 .by_cases z:k=i
  .subst z;rw[aS];exact nD
  .rw[bq z];exact W.M.dn k hk
 .by_cases z:k=i
  .subst z;rw[aS];exact nE
  .rw[bq z];exact W.M.en k hk
 .by_cases z:k=i
  .subst z;rw[aB];exact rl
  .rw[aL z];exact W.M.kl k hk
 .by_cases z:k=i
  .subst z;rw[aS];exact⟨W.b0.bg (W.T.bs.bg n1),W.b0.bg (W.T.bs.bg n2)⟩
  .rw[bq z];exact W.zg k hk
end
theorem o8{fr:VF}{x:VE}:∀(g:Nat) (ks:VI (VE×Bool)),(x,none)∈fO fr g ks↔(x,false)∈ks
 |_,[]=>⟨λh=>(nomatch h),λh=>(nomatch h)⟩
 |g,(m,true)::ks=>by
  show (x,none)∈(m,some _)::fO fr (g+1) ks↔_;rw[gL,gL,o8 (g+1) ks];simp
 |g,(m,false)::ks=>by
  show (x,none)∈(m,none)::fO fr g ks↔_;rw[gL,gL,o8 g ks];simp
theorem yc{x:VE}:(x,none)∈bE L zs ks n↔x∈zs/\x∈ks:=by
 unfold bE;rw[o8];unfold lA;rw[km];constructor
 .rintro⟨m,hm,e⟩;injection e with e1 e2
  subst e1;exact⟨hm,by simpa using e2⟩
 .rintro⟨h1,h2⟩;exact⟨x,h1,by simp[h2]⟩
theorem lX{fr:VF}{β:Type}{u:VE->β}:∀(g:Nat) (ks:VI (VE×Bool)),(fO fr g ks).filterMap (λr=>r.2.map λ_=>u r.1)=(ks.filter (·.2)).map λk=>u k.1
 |_,[]=>rfl
 |g,(m,true)::ks=>by
  show (((m,some _)::fO fr (g+1) ks:VI bG)).filterMap _=_;rw[VL];simp[lX (g+1) ks]
 |g,(m,false)::ks=>by
  show (((m,none)::fO fr g ks:VI bG)).filterMap _=_;rw[VL];simp[lX g ks]
theorem Ik{sh sh':VF}(hL:2<=L)(AK:yf kvs zs)(IR:eK L (cZ (lA zs ks)) n)(Z:gG kvs ks sh)(Z':gG (c8 kvs (bE L zs ks n)) [] sh'):
  sh'=(bE L zs ks n).filterMap (·.2)/\sh'.map (au (c8 kvs (bE L zs ks n)))=sh.map (au kvs)/\sh.length=cZ (lA zs ks):=by
 have kk:=jT kvs (bE L zs ks n);have up:((bE L zs ks n).filterMap (·.2)).Pairwise (·<·):=by rw[jU];exact zo ⋯ IR
 have e1:sh'=(bE L zs ks n).filterMap (·.2):=by
  refine fD ((my (bJ Z'.up) (bJ up)).mpr λm=>?_) Z'.up up;rw[Z'.mem m,kk];simp
 have e2:sh=zs.filter λm=>!decide (m∈ks):=by
  refine fD ((my (bJ Z.up) ((bJ AK.up).filter _)).mpr λm=>?_) Z.up (AK.up.filter _);rw[Z.mem m,pv,AK.perm.mem_iff];simp
 have e3:(lA zs ks).filter (·.2)=sh.map λm=>(m,true):=by
  rw[e2];unfold lA;clear AK IR Z Z' kk up e1 e2
  induction zs with
  |nil=>rfl
  |cons z zs ih=>
   rw[lj,L9,L9,ih]
   by_cases y:z∈ks<;>simp[y]
 refine⟨e1,?_,?_⟩
 .have nd:((c8 kvs (bE L zs ks n)).map (·.1)).Nodup:=by rw[kk];exact bJ up
  have q:=tz (List.map (·.2)) (Kw nd);rw[mv,kk] at q;rw[e1];refine XJ q ?_;unfold c8;rw[List.map_filterMap];have:(λr:bG=>Option.map (λx:VE×VE=>x.2) (r.2.map λn=>(n,au kvs r.1)))=λr:bG=>r.2.map λ_=>au kvs r.1:=by
   funext r
   cases r.2<;>rfl
  rw[this];unfold bE;rw[lX,e3,mv];rfl
 .show sh.length=((lA zs ks).filter λk=>k.2).length;rw[e3,aw]
section
variable{C:θ}{A0 B B5 H H5:Hp}{L h:Nat}{S:KS}{pu:Nat->Nat}{Kt:Nat->Nat->Prop}{g:Nat->GR}{q:Nat->θ}{Gn:Nat->VF}{ph pm pg ps pb:θ}{SN BF:VI (VI Key×V)}{st w n:Nat}{zs:VF}{XN XS rr p:θ}{gr:GR}
theorem Wl.NO(W:Wl C A0 B H L h S pu Kt S.f g q Gn ph pm pg ps pb SN BF st w)(hB:S.Bs.length<=60)(hb:S.c+8*S.RR.length<=500)(AK:yf (S.f 0).kvs zs)(IR:eK L (cZ (lA zs (S.f 0).ks)) n)
  (T5:eY C B5 H5 L h S.c S.Bs S.Ts (S.RR++[bE L zs (S.f 0).ks n]) h (dZ S.f 0 {S.f 0 with pt:=XN,pk:=XS,as:=(S.f 0).as++[rr],n:=S.RR.length+1,kvs:=c8 (S.f 0).kvs (bE L zs (S.f 0).ks n),ks:=[] }))
  (lb:LB B5 h (S.RR.length+1) (λk=>(dZ S.f 0 {S.f 0 with pt:=XN,pk:=XS,as:=(S.f 0).as++[rr],n:=S.RR.length+1,kvs:=c8 (S.f 0).kvs (bE L zs (S.f 0).ks n),ks:=[] } k).n) (gD g 0 gr) (gD q S.RR.length p) (gD Gn S.RR.length (g 0).E) pm pg ps pb SN BF)
  (b0:aG A0 B5) (lh:B5 ph=some (.lst (Ck h S.f))) (nD:gr.D.Nodup) (eE:gr.E=[]) (mD:∀x,x∈gr.D↔x∈(g 0).D/\¬x∈(g 0).E) (nr:pg≠rr) (z:A0 gr.d=none/\A0 gr.e=none):
  ∃Kt',Wl C A0 B5 H5 L h ⟨S.c,S.Bs,S.Ts,S.RR++[bE L zs (S.f 0).ks n],dZ S.f 0 {S.f 0 with pt:=XN,pk:=XS,as:=(S.f 0).as++[rr],n:=S.RR.length+1,kvs:=c8 (S.f 0).kvs (bE L zs (S.f 0).ks n),ks:=[] }⟩ pu Kt' (dZ S.f 0 {S.f 0 with pt:=XN,pk:=XS,as:=(S.f 0).as++[rr],n:=S.RR.length+1,kvs:=c8 (S.f 0).kvs (bE L zs (S.f 0).ks n),ks:=[] }) (gD g 0 gr) (gD q S.RR.length p) (gD Gn S.RR.length (g 0).E) ph pm pg ps pb SN BF st w:=by
 obtain⟨hL,cP⟩:=W.l2;have h0:=W.T.pos;have NN:=W.nt h0;have n0:=W.T.n0;have HK0:=W.T.hk 0 h0;rw[show S.RR.take (S.f 0).n=S.RR by rw[n0,lL]] at HK0
 have O:=(ug HK0.kw hL hB hb AK IR).1;have G':=W.G.nV (kn:=(S.f 0).kn) hL O (λm hm=>by
  obtain⟨y,hy,rfl⟩:=hm;obtain⟨kv,Yh,ek⟩:=km.mp (AK.perm.mem_iff.mp (lR hy));obtain⟨k,b,hk,eb,J,_⟩:=(NN.mem kv).mp Yh;rw[n0] at J;exact⟨k,b,hk,eb,by rw[<-ek];exact J⟩)
 have O':=W.O.nV (f':=dZ S.f 0 {S.f 0 with pt:=XN,pk:=XS,as:=(S.f 0).as++[rr],n:=S.RR.length+1,kvs:=c8 (S.f 0).kvs (bE L zs (S.f 0).ks n),ks:=[] }) h0 n0 (λk hk=>aL hk) (by rw[aB]) (by rw[aB]) (by rw[aB])
 have ll:(S.RR++[bE L zs (S.f 0).ks n]).length=S.RR.length+1:=by rw[de];rfl
 have gone:∀t,t∈(g 0).E↔dW L S.Bs (S.RR++[bE L zs (S.f 0).ks n]) S.RR.length t:=λt=>by
  have er:(S.RR++[bE L zs (S.f 0).ks n])[S.RR.length]?=some (bE L zs (S.f 0).ks n):=by rw[kf (bb _),SF];rfl
  rw[W.M.em 0 h0 t];constructor
  .rintro⟨m,hm,hz⟩;obtain⟨k,b,hk,eb,J,w⟩:=(NN.mem _).mp hz;rw[n0] at J;exact⟨k,b,m,_,eb,w,(cX.more (bb _)).mpr J,er,yc.mpr ⟨AK.perm.mem_iff.mpr (NN.sub m hm),hm⟩⟩
  .rintro⟨k,b,x,R,eb,w,J,er',mem⟩;rw[er] at er';cases er';have J:=(cX.more (bb _)).mp J;obtain⟨hx,hk⟩:=yc.mp mem;obtain⟨kv,Yh,ek⟩:=km.mp (AK.perm.mem_iff.mp hx);obtain⟨k',b',_,eb',J',w'⟩:=(NN.mem kv).mp Yh;rw[n0,ek] at J';have:=W.G.un _ (bb _) k k' b b' x eb eb' J J';subst this;rw[eb] at eb';cases eb';refine⟨x,hk,?_⟩;rw[<-ek,<-w,w'];exact Yh
 have NM:NT L (S.RR++[bE L zs (S.f 0).ks n]) S.Bs S.Ts S.RR.length (S.f 0).kn (S.f 0).tk (S.f 0).kvs (S.f 0).ks:=by
  have N1:=NN;rw[n0] at N1;refine⟨by lia,λy=>?_,λy=>?_,N1.bag,N1.tag,N1.sub⟩
  .rw[N1.mem y];exact⟨λ⟨k,b,a,c,d,e⟩=>⟨k,b,a,c,(cX.more (bb _)).mpr d,e⟩,λ⟨k,b,a,c,d,e⟩=>⟨k,b,a,c,(cX.more (bb _)).mp d,e⟩⟩
  .rw[N1.tks y,xb (bb _)]
 have N5:=(T5.hk 0 h0).nt G' (T5.nl 0 h0);rw[aB] at N5;have dm0:∀t,t∈gr.D↔NH (c8 (S.f 0).kvs (bE L zs (S.f 0).ks n)) t:=λt=>by
  have h1:=N5.thing t;have h2:=(NM.up G' hL cP W.I (xc _) (by rw[ll];exact bb _) t).1;rw[mD t,W.M.dm 0 h0 t,gone t];refine Iff.trans ?_ (Iff.trans h2.symm h1.symm);exact⟨λ⟨a,b⟩=>⟨a,λr c d=>by rw[show r=S.RR.length by lia];exact b⟩,λ⟨a,b⟩=>⟨a,b _ (bb _) (vT _)⟩⟩
 refine⟨_,⟨T5,λk hk=>?_,G',by rw[ll];exact O',W.I,W.nm,b0,Fe lh rfl,⟨by rw[ll];exact lb,λk hk=>(T5.hk k hk).nt G' (T5.nl k hk),λk hk t=>?_,λk hk t=>?_,λk hk=>?_,λk hk=>?_,λk hk=>(T5.hk k hk).tl.1,λr hr t=>?_,λr hr=>?_,by have:=W.M.si.more (Bx:=[]) (Rx:=[bE L zs (S.f 0).ks n]);rw[fw] at this;exact this,by have:=W.M.bi.more (Bx:=[]) (Rx:=[bE L zs (S.f 0).ks n]);rw[fw] at this;exact this⟩,W.hm,W.hg,λk hk=>?_,W.z,λk hk=>?_,W.sl,W.bl⟩⟩
 .show (dZ _ _ _ k).j=k;exact XJ (ND (by rfl) k) (W.jn k hk)
 .by_cases y:k=0
  .subst y;rw[aS,aB];exact dm0 t
  .rw[bq y,aL y];exact W.M.dm k hk t
 .by_cases y:k=0
  .subst y;rw[aS,aB,eE];exact⟨λz=>(nomatch z),λ⟨_,z,_⟩=>(nomatch z)⟩
  .rw[bq y,aL y];exact W.M.em k hk t
 .by_cases y:k=0
  .subst y;rw[aS];exact nD
  .rw[bq y];exact W.M.dn k hk
 .by_cases y:k=0
  .subst y;rw[aS,eE];exact TC
  .rw[bq y];exact W.M.en k hk
 .by_cases y:r=S.RR.length
  .subst y;rw[aS];exact gone t
  .have Zf:r<S.RR.length:=by have hr:r<(S.RR++[bE L zs (S.f 0).ks n]).length:=hr;lia
   rw[bq y,W.M.gn r Zf t];exact(dW.more Zf).symm
 .by_cases y:r=S.RR.length
  .subst y;rw[aS];have h1:=bQ (W.M.en 0 h0) (λt ht=>by
    obtain⟨m,_,hm⟩:=(W.M.em 0 h0 t).mp ht;exact km.mpr ⟨_,hm,rfl⟩:∀t∈(g 0).E,t∈(S.f 0).kvs.map (·.2))
   rw[aw] at h1;have:=W.M.kl 0 h0;lia
  .rw[bq y];have hr:r<(S.RR++[bE L zs (S.f 0).ks n]).length:=hr;exact W.M.gl r ⋯
 .show ¬pg∈(dZ _ _ _ k).as
  by_cases y:k=0
  .subst y;rw[aB];intro u
   rcases eP.mp u with u|u
   .exact W.go 0 hk u
   .exact nr (bc.mp u)
  .rw[aL y];exact W.go k hk
 .by_cases y:k=0
  .subst y;rw[aS];exact z
  .rw[bq y];exact W.zg k hk
end
end L2
namespace K91
open PySem PySem.Spec PyProof.Rows L2 MM
def top(i:Nat):δ:=PySem.Challenge.pw_shelfmark_k91_whole_hands_meet.main.body.getD i (.Pass ⟨0,0,0,0⟩)
abbrev KN:δ:=top 10
abbrev KO:δ:=top 11
abbrev KP:δ:=top 12
abbrev KQ:δ:=top 13
abbrev KR:δ:=top 14
abbrev KY:δ:=top 16
abbrev KZ:δ:=top 17
abbrev K0:δ:=top 18
abbrev K3:δ:=top 19
abbrev K4:δ:=top 20
abbrev K5:δ:=top 21
abbrev K6:δ:=top 22
abbrev K7:δ:=top 23
abbrev K8:δ:=top 24
abbrev K9:δ:=top 26
abbrev La:δ:=top 27
abbrev Lb:δ:=top 28
abbrev Lc:δ:=top 29
abbrev Ld:δ:=top 31
abbrev Le:δ:=top 32
abbrev Lf:δ:=top 33
abbrev Lg:δ:=top 35
abbrev Lh:δ:=top 36
abbrev Li:δ:=top 37
abbrev Lj:δ:=top 38
abbrev Ll:δ:=top 39
abbrev Lm:δ:=top 46
abbrev Ln:δ:=top 48
abbrev Lo:δ:=top 49
abbrev Lp:δ:=top 50
abbrev Lq:δ:=top 51
abbrev Lr:δ:=top 52
abbrev Lu:δ:=top 56
abbrev Lv:δ:=top 57
abbrev Lw:δ:=top 58
abbrev Lx:δ:=top 60
abbrev P4:δ:=inClass (top 61) 0
abbrev P5:δ:=inClass (top 61) 4
abbrev P6:δ:=inClass (top 61) 10
abbrev P7:δ:=inClass (top 61) 1
abbrev P8:δ:=inClass (top 61) 2
abbrev P9:δ:=inClass (top 61) 3
abbrev Qa:δ:=inClass (top 61) 5
abbrev Qc:δ:=inClass (top 61) 6
abbrev Qd:δ:=inClass (top 61) 8
abbrev Qf:δ:=inClass (top 61) 9
abbrev DY:δ:=top 63
abbrev zR:δ:=top 64
abbrev wo:δ:=top 65
abbrev Ly:δ:=top 66
abbrev lY:δ:=top 67
abbrev DZ:δ:=top 68
abbrev Lz:δ:=top 69
set_option genInjectivity false
structure Ad where
 (az dP cU di dQ eN:θ)
 (wu sJ qt qu sL nX nY sM qv qw sN sO wz sP sQ wA wB wC wD wF wG wH wI wJ sR wK qy sS wL sU sV nZ wM wN sW wO BV iu BW BX BY BZ iI B7 lz nK dR jv fE wQ fF o9 sY:θ×FuncData)
structure Tx(K:W.Frag)(mg:Str->ο ζ)(a:Ad):Prop where
 Sf:mg "all" =none
 rO:mg "dict" =none
 cB:mg "len" =none
 rP:mg "list" =none
 Oq:mg "max" =none
 Ca:mg "min" =none
 fc:mg "range" =none
 D0:mg "reversed" =none
 LA:mg "set" =none
 fW:mg "sorted" =none
 Sg:mg "str" =none
 mZ:∃t,mg "SMALL" =some (.str "abcdefghijklmnopqrstuvwxyz" t)
 jX:∃t,mg "LETTERS" =some (.int 0 t)
 uh:∃t,mg "HANDS" =some (.int 1 t)
 cg:∃t,mg "RENEWALS" =some (.int 2 t)
 jY:∃t,mg "THINGS" =some (.int 3 t)
 m9:∃t,mg "TAKEN" =some (.int 4 t)
 xq:∃t,mg "THING_SIGNS" =some (.str "abcdefghijklmnopqrstuvwxyz0123456789" t)
 tH:∃t,mg "LONGEST_THING" =some (.int 12 t)
 NP:mg "Hand" =some (.ref a.az)
 bL:GK K a.az
 Qg:Mk K a.az a.BV.1
 wR:eO K a.az "letters"
 zS:eO K a.az "hands"
 qz:eO K a.az "own_number"
 tK:eO K a.az "renewals"
 tL:eO K a.az "thing_of"
 zT:eO K a.az "taken"
 Cb:mg "NoHand" =some (.ref a.dP)
 Cc:Xc K a.dP
 sZ:mg "NoLetters" =some (.ref a.cU)
 tu:Xc K a.cU
 Il:mg "NoPlace" =some (.ref a.di)
 Im:Xc K a.di
 LD:mg "NoRoom" =some (.ref a.dQ)
 LF:Xc K a.dQ
 Io:mg "NoThing" =some (.ref a.eN)
 Ip:Xc K a.eN
 wu:Fx K mg "ask_letters" KN ["letters", "hands"] a.wu
 sJ:Fx K mg "power" KO ["letters", "long"] a.sJ
 qt:Fx K mg "figure_at" KP ["mark", "place"] a.qt
 qu:Fx K mg "whole_of" KQ ["letters", "mark", "long"] a.qu
 sL:Fx K mg "mark_of" KR ["letters", "number", "long"] a.sL
 nX:Fx K mg "ends_of" KY ["letters", "hands", "hand"] a.nX
 nY:Fx K mg "ask_room" KZ ["low", "high"] a.nY
 sM:Fx K mg "high_whole_of" K0 ["letters", "high", "long"] a.sM
 qv:Fx K mg "owned_below" K3 ["letters", "ends", "number"] a.qv
 qw:Fx K mg "owned_up_to_low" K4 ["letters", "ends", "low_whole"] a.qw
 sN:Fx K mg "owned_ahead_of_high" K5 ["letters", "ends", "high", "high_whole", "long", "beginnings"] a.sN
 sO:Fx K mg "counted_at" K6 ["letters", "ends", "low", "high", "long", "beginnings"] a.sO
 wz:Fx K mg "room_at" K7 ["letters", "hands", "hand", "low", "high", "long"] a.wz
 sP:Fx K mg "nth_mark" K8 ["letters", "hands", "hand", "low", "high", "long", "number"] a.sP
 sQ:Fx K mg "least_counted" K9 ["letters", "ends", "low", "high", "many", "beginnings"] a.sQ
 wA:Fx K mg "least_long" La ["letters", "hands", "hand", "low", "high", "many"] a.wA
 wB:Fx K mg "told_number" Lb ["low", "high", "many"] a.wB
 wC:Fx K mg "mark_between" Lc ["letters", "hands", "hand", "low", "high"] a.wC
 wD:Fx K mg "spread" Ld ["many", "whole"] a.wD
 wF:Fx K mg "renewed_long" Le ["letters", "many"] a.wF
 wG:Fx K mg "renewed" Lf ["letters", "many"] a.wG
 wH:Fx K mg "renewal_rows" Lg ["letters", "known"] a.wH
 wI:Fx K mg "stem_between" Lh ["letters", "low", "high"] a.wI
 wJ:Fx K mg "rows_ahead" Li ["rows", "mark"] a.wJ
 sR:Fx K mg "first_new" Lj ["rows"] a.sR
 wK:Fx K mg "carried_knowing" Ll ["letters", "rows", "mark", "stems"] a.wK
 qy:Fx K mg "state_of" Lm ["letters", "hands", "renewals", "things", "taken"] a.qy
 sS:Fx K mg "ask_meeting" Ln ["fewer", "more"] a.sS
 wL:Fx K mg "carried_by_all" Lo ["letters", "renewals", "mark", "stems"] a.wL
 sU:Fx K mg "carried_marks" Lp ["state", "renewals"] a.sU
 sV:Fx K mg "all_things" Lq ["one", "other"] a.sV
 nZ:Fx K mg "laid" Lr ["one", "other"] a.nZ
 wM:Fx K mg "is_thing" Lu ["text"] a.wM
 wN:Fx K mg "ask_thing" Lv ["text"] a.wN
 sW:Fx K mg "ask_place" Lw ["place", "many"] a.sW
 wO:Fx K mg "ask_hand" Lx ["number", "hands"] a.wO
 BV:Mx K a.az "__init__" "Hand.__init__" P4 ["self", "letters", "hands", "number"] a.BV
 iu:Mx K a.az "marks" "Hand.marks" P5 ["self"] a.iu
 BW:Mx K a.az "first_behind" "Hand.first_behind" P6 ["self", "low"] a.BW
 BX:Mx K a.az "put" "Hand.put" P7 ["self", "place", "thing"] a.BX
 BY:Mx K a.az "take" "Hand.take" P8 ["self", "place"] a.BY
 BZ:Mx K a.az "renew" "Hand.renew" P9 ["self"] a.BZ
 iI:Mx K a.az "things" "Hand.things" Qa ["self"] a.iI
 B7:Mx K a.az "age" "Hand.age" Qc ["self"] a.B7
 lz:Mx K a.az "state" "Hand.state" Qd ["self"] a.lz
 nK:Mx K a.az "lay" "Hand.lay" Qf ["self", "state"] a.nK
 dR:Fx K mg "_law_draw" DY ["_law_script", "_law_k", "_law_many"] a.dR
 jv:Fx K mg "_law_shown" zR ["_law_hand", "_law_one", "_law_seen", "_law_before"] a.jv
 fE:Fx K mg "_law_laid" wo ["_law_model", "_law_one", "_law_other", "_law_gone"] a.fE
 wQ:Fx K mg "_law_put" Ly ["_law_script", "_law_k", "_law_hand", "_law_number", "_law_hands", "_law_model"] a.wQ
 fF:Fx K mg "_law_renewed" lY ["_law_hand", "_law_letters", "_law_model", "_law_gone"] a.fF
 o9:Fx K mg "_law_step" DZ ["_law_script", "_law_k", "_law_all_hands", "_law_letters", "_law_model", "_law_gone"] a.o9
 sY:Fx K mg "law" Lz ["_law_script"] a.sY
end K91
namespace K91
open PySem PySem.Spec PyProof.Rows L2 MM
def Fi(K:W.Frag):Sp:=λvs H Q _=>∃(a:θ) (ns:VI Int),vs=[.ref a]/\bw K H a (ns.map V.int)/\ns.length<=63/\∀H',Q (.bl true) H'
inductive fL (K:W.Frag):VI V->Hp->VK->XK->Prop
 |mk {H:Hp} {Q:VK} {a8:XK} (pm pg ps pb:θ) (h l:Nat) (n:Nat->Nat) (g:Nat->GR) (q:Nat->θ) (Gn:Nat->VF) (SN BF:VI (VI Key×V)) (i o:Nat):LB H h l n g q Gn pm pg ps pb SN BF->i<h->o<h->n i<=l->n o<=l->l<=100->(∀k,k<h->(g k).D.Nodup/\(g k).E.Nodup/\(g k).D.length<=100/\(g k).E.length<=100)->(∀r,r<l->(Gn r).length<=100)->(∀H' r,Keeps [pm] H H'->H r.t=none->H r.d=none->H r.e=none->r.d≠r.e->H' pm=some (.lst (o7 h (gD g i r)))->H' r.t=some (.tup [.int (max (n i) (n o):Nat),.ref r.d,.ref r.e])->H' r.d=some (.dK (cF r.D))->H' r.e=some (.dK (cF r.E))->r.D.Nodup->r.E.Nodup->
  (∀x,x∈r.D↔(x∈(g i).D\/x∈(g o).D)/\∀k,min (n i) (n o)<=k->k<max (n i) (n o)->¬x∈Gn k)->(∀x,x∈r.E↔(x∈(g i).E\/x∈(g o).E)/\∀k,min (n i) (n o)<=k->k<max (n i) (n o)->¬x∈Gn k)->Q .non H')->fL K [.ref pm,.int i,.int o,.ref pg] H Q a8
inductive nc (K:W.Frag) (C:θ):VI V->Hp->VK->XK->Prop
 |mk {H:Hp} {Q:VK} {a8:XK} (x dx pr pt pk XN ps pb:θ) (as:VI θ) (d e:θ) (D E:VF) (L h j:Nat) (Bs:VI dY) (Ts:VI oY) (RR:VI (VI bG)) (pu:Nat->Nat) (Kt:Nat->Nat->Prop) (n:Nat) (kn tk:Nat->Prop) (kvs:VG) (ks:VF) (k b:Nat) (SN BF:VI (VI Key×V)):jR C H x dx pr pt pk L h j kvs ks->HQ H pr as (RR.take n)->gC L kvs ks k b->k<=60->H XN=some (.tup [.int n,.ref d,.ref e])->H d=some (.dK (cF D))->H e=some (.dK (cF E))->d≠e->H ps=some (.dT SN)->H pb=some (.dT BF)->ps≠pb->SN.length<=1000000->BF.length<=1000000->qm L h Bs RR pu Kt->Inj Bs->NT L RR Bs Ts n kn tk kvs ks->2<=L->L<=26->D.Nodup->(∀t,t∈D↔NH kvs t)->(∀t,t∈E↔NJ kvs ks t)->lq L Bs RR SN->zQ L Bs RR BF->(∀H' X7 Yc,Keeps [ps,pb] H H'->H' ps=some (.dT X7)->H' pb=some (.dT Yc)->lq L Bs RR X7->zQ L Bs RR Yc->X7.length<=SN.length+120->Yc.length<=BF.length+3600->Q (.bl true) H')->nc K C [.ref x,.ref XN,.ref ps,.ref pb] H Q a8
def WQ(C:θ)(A0:Hp)(Q:VK)(L h:Nat)(S:KS)(ph pm pg ps pb:θ)(SN BF:VI (VI Key×V))(st w:Nat):Prop:=∀H' B' S' pu' Kt' g' q' Gn',Wl C A0 B' H' L h S' pu' Kt' S'.f g' q' Gn' ph pm pg ps pb SN BF (st+1) w->S'.c<=S.c+1->S'.sz<=S.sz+1->Q (.bl true) H'
inductive Fj (K:W.Frag) (C:θ):VI V->Hp->VK->XK->Prop
 |mk {H:Hp} {Q:VK} {a8:XK} (sc ph pm pg ps pb:θ) (ns:VI Int) (A0 B:Hp) (L h:Nat) (S:KS) (pu:Nat->Nat) (Kt:Nat->Nat->Prop) (g:Nat->GR) (q:Nat->θ) (Gn:Nat->VF) (SN BF:VI (VI Key×V)) (k i w:Nat):bw K A0 sc (ns.map V.int)->ns.length<=63->k<60->Wl C A0 B H L h S pu Kt S.f g q Gn ph pm pg ps pb SN BF k w->i<h->S.c<=30->S.sz<=30->WQ C A0 Q L h S ph pm pg ps pb SN BF k w->Fj K C [.ref sc,.int k,.ref (S.f i).x,.int i,.int h,.ref pm] H Q a8
inductive um (K:W.Frag) (C:θ):VI V->Hp->VK->XK->Prop
 |mk {H:Hp} {Q:VK} {a8:XK} (ph pm pg ps pb:θ) (A0 B:Hp) (L h:Nat) (S:KS) (pu:Nat->Nat) (Kt:Nat->Nat->Prop) (g:Nat->GR) (q:Nat->θ) (Gn:Nat->VF) (SN BF:VI (VI Key×V)) (k w:Nat):Wl C A0 B H L h S pu Kt S.f g q Gn ph pm pg ps pb SN BF k w->S.c<=30->S.sz<=30->WQ C A0 Q L h S ph pm pg ps pb SN BF k w->um K C [.ref (S.f 0).x,.int L,.ref pm,.ref pg] H Q a8
inductive zU (K:W.Frag) (C:θ):VI V->Hp->VK->XK->Prop
 |mk {H:Hp} {Q:VK} {a8:XK} (sc ph pm pg ps pb:θ) (ns:VI Int) (A0 B:Hp) (L h:Nat) (S:KS) (pu:Nat->Nat) (Kt:Nat->Nat->Prop) (g:Nat->GR) (q:Nat->θ) (Gn:Nat->VF) (SN BF:VI (VI Key×V)) (k w:Nat):bw K A0 sc (ns.map V.int)->ns.length<=63->k<60->Wl C A0 B H L h S pu Kt S.f g q Gn ph pm pg ps pb SN BF k w->S.c<=30->S.sz<=30->WQ C A0 Q L h S ph pm pg ps pb SN BF k w->zU K C [.ref sc,.int k,.ref ph,.int L,.ref pm,.ref pg] H Q a8
def Ot(K:W.Frag)(a:Ad):TS:=
  bH (fG (dJ K) (ai (fP K (ah 0) "renewals") aD))
def Ou(K:W.Frag)(a:Ad):TS:=
  aJ (g7 (cD K (uS (ai (iD (ai (iD (ai (aT (cH K) (ah 1) (tC (.int 0))) (ai (aT (bV K) (ah 4) (ah 7)) (ai (tC (.str (txt []))) aD)))) (ai (aT (bV K) (ah 5) (ah 7)) aD))) (ai (iD (ai (iD (ai (aT (cH K) (ah 1) (tC (.int 0))) (ai (tC (.str (txt []))) (ai (aT (bV K) (ah 5) (ah 7)) aD)))) (ai (aT (bV K) (ah 4) (ah 7)) aD))) aD)))) (uM K 2 (iA (aF 8) (iA (aF 9) uK))) (aJ (dD (bz (aT IP (oK (ah 2) (ah 8) (ah 9)) (ah 9))) (bH (tC (.bl false))) (bX))
   (fU (ah 2) (ah 8) (ah 9))))
   (g7 (g6 (ai (ah 7) aD)) (aF 10) (aJ (dD (bz (aT (yR false) (iD (ai (aT (bV K) (ah 5) (ah 7)) (ai (aT (bV K) (ah 5) (ah 10)) aD))) (ah 3))) (bH (tC (.bl false))) (bX))
   (fU (ah 3) (iD (ai (aT (bV K) (ah 5) (ah 10)) (ai (aT (bV K) (ah 5) (ah 7)) aD))) (tC (.bl true)))))
def Ov(K:W.Frag)(a:Ad):TS:=
  aJ (g7 (g6 (ai (fG (dJ K) (ai (ah 4) aD)) aD)) (aF 7) (aJ (dD (oh (bz (aT yG (ah 7) (tC (.int 0)))) (yh (bz (aT MV (aT (bV K) (ah 4) (aT ji (ah 7) (tC (.int 1)))) (aT (bV K) (ah 4) (ah 7)))))) (bH (tC (.bl false))) (bX))
   (Ou K a)))
   (bH (tC (.bl true)))
def qA(K:W.Frag)(a:Ad):TS:=
  aJ (bh (bU a.az "marks" (dB a.az) [] E0 (ah 0) aD) (aF 4))
   (aJ (bh (bU a.az "things" (cV a.az) [] E0 (ah 0) aD) (aF 5))
   (aJ (bh (fG (AU K) (ai (ET (eG (Bk (aT (cH K) (ah 1) (tC (.int 1)))) [1] (bz (aT (yR true) (ah 0) (aT (cH K) (ah 1) (tC (.int 2))))) (ah 0))) aD)) (aF 6))
   (aJ (dD (An (bz (aT (xG K) (fG (AU K) (ai (ah 5) aD)) (ah 6))) (An (bz (aT IP (fG (dJ K) (ai (ah 4) aD)) (fG (dJ K) (ai (ah 5) aD)))) (bz (aT IP (bU a.az "age" (zI a.az) [] E0 (ah 0) aD) (aT (cH K) (ah 1) (tC (.int 0))))))) (bH (tC (.bl false))) (bX))
   (Ov K a))))
def Ow(K:W.Frag)(a:Ad):TS:=
  aJ (g7 (xw (ai (fG Jk (ai (aT (cH K) (aT (bV K) (ah 0) (ah 1)) (tC (.int 0))) (ai (aT (cH K) (aT (bV K) (ah 0) (ah 2)) (tC (.int 0))) aD))) (ai (ah 4) aD))) (aF 7) (g7 (cD K (aT (bV K) (ah 3) (ah 7))) (aF 8) (aJ (cM (Ao K "dict" xY (ah 5) (ai (ah 8) (ai (tC .non) aD))))
   (cM (Ao K "dict" xY (ah 6) (ai (ah 8) (ai (tC .non) aD)))))))
   (bh (iD (ai (ah 4) (ai (ah 5) (ai (ah 6) aD)))) (GA (ah 0) (ah 1) Eu))
def nu(K:W.Frag)(a:Ad):TS:=
  aJ (bh (fG RA (ai (aT (cH K) (aT (bV K) (ah 0) (ah 1)) (tC (.int 0))) (ai (aT (cH K) (aT (bV K) (ah 0) (ah 2)) (tC (.int 0))) aD))) (aF 4))
   (aJ (bh (fG zx (ai (aT (cH K) (aT (bV K) (ah 0) (ah 1)) (tC (.int 1))) aD)) (aF 5))
   (aJ (cM (Ao K "dict" zw (ah 5) (ai (aT (cH K) (aT (bV K) (ah 0) (ah 2)) (tC (.int 1))) aD)))
   (aJ (bh (fG zx (ai (aT (cH K) (aT (bV K) (ah 0) (ah 1)) (tC (.int 2))) aD)) (aF 6))
   (aJ (cM (Ao K "dict" zw (ah 6) (ai (aT (cH K) (aT (bV K) (ah 0) (ah 2)) (tC (.int 2))) aD)))
   (Ow K a)))))
def Ox(K:W.Frag)(a:Ad):TS:=
  aJ (dD (An (bz (aT (xG K) (bU a.az "things" (cV a.az) [] E0 (ah 2) aD) (aT CB (aT CB (L7 (AI K) (ah 6) gR (nN (ah 7))) (uS (ai (ah 8) aD))) (L7 (AI K) (ah 6) (nN (ah 7)) gR)))) (bz (aT IP (aT (bV K) (bU a.az "marks" (dB a.az) [] E0 (ah 2) aD) (ah 7)) (ah 9)))) (bH (tC (.bl false))) (bX))
   (bH (aT GG (aT iT (aT ji (Ao K "str" uW (tC (.str (txt Aq))) (ai (aT lF (ah 9) (aT ji (fG nP (ai (ah 9) aD)) (tC (.int 1)))) aD)) (tC (.int 1))) (ah 4)) (ah 3)))
def Oz(K:W.Frag)(a:Ad):TS:=
  aJ (bh (bU a.az "put" (vX a.az a.eN a.di) [] E0 (ah 2) (ai (ah 7) (ai (ah 8) aD))) (aF 9))
   (aJ (fU (aT (cH K) (aT (bV K) (ah 5) (ah 3)) (tC (.int 1))) (ah 8) (tC (.bl true)))
   (Ox K a))
def zV(K:W.Frag)(a:Ad):TS:=
  aJ (bh (bU a.az "things" (cV a.az) [] E0 (ah 2) aD) (aF 6))
   (aJ (bh (aW (fB K) [] E0 (ai (ah 0) (ai (aT cI (tC (.int 200)) (ah 1)) (ai (aT cI (fG (dJ K) (ai (ah 6) aD)) (tC (.int 1))) aD)))) (aF 7))
   (aJ (dD (oh (bz (aT GG (aW (fB K) [] E0 (ai (ah 0) (ai (tC (.int 5)) (ai (tC (.int 3)) aD)))) (tC (.int 1)))) (bz (aT yG (aW (fB K) [] E0 (ai (ah 0) (ai (aT cI (tC (.int 260)) (ah 1)) (ai (tC (.int 4)) aD)))) (tC (.int 0))))) (bh (fG Jk (ai (tC (.int 1)) (ai (fG (dJ K) (ai (ah 6) aD)) aD))) (aF 7)) (bX))
   (aJ (bh (aT EB (tC (.str (txt [116]))) (fG RB (ai (ah 1) aD))) (aF 8))
   (Oz K a))))
def OA(K:W.Frag)(a:Ad):TS:=
  aJ (dD (An (bz (aT (xG K) (bU a.az "things" (cV a.az) [] E0 (ah 0) aD) (ah 4))) (bz (aT (xG K) (eG (cD K (ah 5)) [] (tB (jf (aT (cH K) (ah 0) (tC (.int 1))))) (aT (cH K) (ah 0) (tC (.int 1)))) (bU a.az "marks" (dB a.az) [] E0 (ah 0) aD)))) (bH (tC (.bl false))) (bX))
   (bH (aT Uw (fG (Oh K) (ai (aT CB (uS (ai (tC (.int 0)) aD)) (eG (cD K (bU a.az "marks" (dB a.az) [] E0 (ah 0) aD)) [] lE (fG nP (ai (ah 0) aD)))) aD)) (ah 9)))
def OB(K:W.Frag)(a:Ad):TS:=
  aJ (bh (tC (.int 1)) (aF 8))
   (aJ (bh (tC (.int 0)) (aF 9))
   (aJ (oj (bz (aT w6 (aT ji (ah 8) (tC (.int 1))) (fG (dJ K) (ai (ah 4) aD)))) (aJ (bh (aT gw (ah 8) (ah 1)) (aF 8))
   (bh (aT cI (ah 9) (tC (.int 1))) (aF 9))))
   (OA K a)))
def iJ(K:W.Frag)(a:Ad):TS:=
  aJ (bh (bU a.az "things" (cV a.az) [] E0 (ah 0) aD) (aF 4))
   (aJ (bh (bU a.az "renew" (lS a.az a.dP) [] E0 (ah 0) aD) (aF 5))
   (aJ (cM (Ao K "list" mz (ah 3) (ai (fG Kg (ai (aT (cH K) (aT (bV K) (ah 2) (tC (.int 0))) (tC (.int 2))) aD)) aD)))
   (aJ (bh (fG zx (ai (aT (cH K) (aT (bV K) (ah 2) (tC (.int 0))) (tC (.int 1))) aD)) (aF 6))
   (aJ (g7 (cD K (aT (bV K) (ah 3) (aT ji (fG (dJ K) (ai (ah 3) aD)) (tC (.int 1))))) (aF 7) (cM (Ao K "dict" xY (ah 6) (ai (ah 7) aD))))
   (aJ (bh (iD (ai (aT cI (aT (cH K) (aT (bV K) (ah 2) (tC (.int 0))) (tC (.int 0))) (tC (.int 1))) (ai (ah 6) (ai fz aD)))) (GA (ah 2) (tC (.int 0)) Eu))
   (OB K a))))))
def OC(K:W.Frag)(a:Ad):TS:=
  aJ (dD (oh (bz (aT GG (ah 9) (tC (.int 4)))) (bz (aT yG (aW (fB K) [] E0 (ai (ah 0) (ai (tC (.int 6)) (ai (tC (.int 3)) aD)))) (tC (.int 0))))) (bH (aW (um K a.az) [] E0 (ai (aT (bV K) (ah 2) (tC (.int 0))) (ai (ah 3) (ai (ah 4) (ai (ah 5) aD)))))) (bX))
   (aJ (bh (aW (fB K) [] E0 (ai (ah 0) (ai (aT cI (tC (.int 380)) (ah 1)) (ai (ah 6) aD)))) (aF 14))
   (aJ (cM (bU a.az "lay" (jF K a.az) [] E0 (ah 8) (ai (bU a.az "state" (fC a.az) [] E0 (aT (bV K) (ah 2) (ah 14)) aD) aD)))
   (aJ (cM (aW (fL K) [] E0 (ai (ah 4) (ai (ah 7) (ai (ah 14) (ai (ah 5) aD))))))
   (bH (tC (.bl true))))))
def OE(K:W.Frag)(a:Ad):TS:=
  aJ (dD (bz (aT GG (ah 9) (tC (.int 3)))) (aJ (bh (aW (fB K) [] E0 (ai (ah 0) (ai (aT cI (tC (.int 320)) (ah 1)) (ai (ah 10) aD)))) (aF 11))
   (aJ (bh (aT (bV K) (bU a.az "things" (cV a.az) [] E0 (ah 8) aD) (ah 11)) (aF 12))
   (aJ (bh (aT (bV K) (bU a.az "marks" (dB a.az) [] E0 (ah 8) aD) (ah 11)) (aF 13))
   (aJ (fU (aT (cH K) (aT (bV K) (ah 4) (ah 7)) (tC (.int 2))) (ah 12) (tC (.bl true)))
   (bH (aT GG (bU a.az "take" (qh a.az a.di) [] E0 (ah 8) (ai (ah 11) aD)) (ah 13))))))) (bX))
   (OC K a)
def uo(K:W.Frag)(a:Ad):TS:=
  aJ (bh (fG (dJ K) (ai (ah 2) aD)) (aF 6))
   (aJ (bh (aW (fB K) [] E0 (ai (ah 0) (ai (aT cI (tC (.int 20)) (ah 1)) (ai (ah 6) aD)))) (aF 7))
   (aJ (bh (aT (bV K) (ah 2) (ah 7)) (aF 8))
   (aJ (bh (aW (fB K) [] E0 (ai (ah 0) (ai (aT cI (tC (.int 80)) (ah 1)) (ai (tC (.int 7)) aD)))) (aF 9))
   (aJ (bh (fG (dJ K) (ai (bU a.az "things" (cV a.az) [] E0 (ah 8) aD) aD)) (aF 10))
   (aJ (dD (An (bz (aT w6 (ah 9) (tC (.int 3)))) (bz (aT GG (ah 10) (tC (.int 0))))) (bH (aW (Fj K a.az) [] E0 (ai (ah 0) (ai (ah 1) (ai (ah 8) (ai (ah 7) (ai (ah 6) (ai (ah 4) aD)))))))) (bX))
   (OE K a))))))
def Fl(K:W.Frag)(a:Ad):TS:=
  aJ (g7 (g6 (ai (ah 2) aD)) (aF 8) (aJ (cM (bU a.az "lay" (jF K a.az) [] E0 (aT (bV K) (ah 3) (ah 8)) (ai (bU a.az "state" (fC a.az) [] E0 (aT (bV K) (ah 3) (ah 10)) aD) aD)))
   (aJ (cM (aW (fL K) [] E0 (ai (ah 4) (ai (ah 8) (ai (ah 10) (ai (ah 5) aD))))))
   (aJ (dD (yh (tB (aW (nc K a.az) [] E0 (ai (aT (bV K) (ah 3) (ah 8)) (ai (aT (bV K) (ah 4) (ah 8)) (ai (ah 6) (ai (ah 7) aD))))))) (bH (tC (.bl false))) (bX))
   (dD (An (bz (aT (xG K) (bU a.az "marks" (dB a.az) [] E0 (aT (bV K) (ah 3) (ah 8)) aD) (bU a.az "marks" (dB a.az) [] E0 (aT (bV K) (ah 3) (ah 10)) aD))) (bz (aT (xG K) (bU a.az "things" (cV a.az) [] E0 (aT (bV K) (ah 3) (ah 8)) aD) (bU a.az "things" (cV a.az) [] E0 (aT (bV K) (ah 3) (ah 10)) aD)))) (bH (tC (.bl false))) (bX))))))
   (bH (tC (.bl true)))
def Fp(K:W.Frag)(a:Ad):TS:=
  aJ (g7 (g6 (ai (ah 2) aD)) (aF 8) (aJ (cM (bU a.az "lay" (jF K a.az) [] E0 (aT (bV K) (ah 3) (ah 8)) (ai (bU a.az "state" (fC a.az) [] E0 (aT (bV K) (ah 3) (ah 10)) aD) aD)))
   (aJ (cM (bU a.az "lay" (jF K a.az) [] E0 (aT (bV K) (ah 3) (ah 10)) (ai (bU a.az "state" (fC a.az) [] E0 (aT (bV K) (ah 3) (ah 8)) aD) aD)))
   (aJ (cM (aW (fL K) [] E0 (ai (ah 4) (ai (ah 8) (ai (ah 10) (ai (ah 5) aD))))))
   (cM (aW (fL K) [] E0 (ai (ah 4) (ai (ah 10) (ai (ah 8) (ai (ah 5) aD))))))))))
   (Fl K a)
def Ft(K:W.Frag)(a:Ad):TS:=
  aJ (bh (aW (fB K) [] E0 (ai (ah 0) (ai (tC (.int 3)) (ai (ah 2) aD)))) (aF 10))
   (aJ (g7 (g6 (ai (aT gw (aT gw (tC (.int 2)) (ah 2)) (ah 2)) aD)) (aF 8) (aJ (bh (aT iT (aT cI (aT nO (ah 8) (ah 2)) (ah 10)) (ah 2)) (aF 11))
   (aJ (bh (aT iT (aT cI (aT gw (ah 8) (aT cI (tC (.int 1)) (aT gw (aW (fB K) [] E0 (ai (ah 0) (ai (tC (.int 4)) (ai (tC (.int 2)) aD)))) (tC (.int 2))))) (aT nO (ah 8) (ah 2))) (ah 2)) (aF 12))
   (aJ (cM (bU a.az "lay" (jF K a.az) [] E0 (aT (bV K) (ah 3) (ah 11)) (ai (bU a.az "state" (fC a.az) [] E0 (aT (bV K) (ah 3) (ah 12)) aD) aD)))
   (cM (aW (fL K) [] E0 (ai (ah 4) (ai (ah 11) (ai (ah 12) (ai (ah 5) aD))))))))))
   (Fp K a))
def OF(K:W.Frag)(a:Ad):TS:=
  aJ (g7 (g6 (ai (aT cI (tC (.int 8)) (aW (fB K) [] E0 (ai (ah 0) (ai (tC (.int 2)) (ai (tC (.int 21)) aD))))) aD)) (aF 8) (aJ (dD (yh (tB (aW (zU K a.az) [] E0 (ai (ah 0) (ai (ah 8) (ai (ah 3) (ai (ah 1) (ai (ah 4) (ai (ah 5) aD))))))))) (bH (tC (.bl false))) (bX))
   (aJ (bh (aW (fB K) [] E0 (ai (ah 0) (ai (aT cI (tC (.int 20)) (ah 8)) (ai (ah 2) aD)))) (aF 9))
   (dD (yh (tB (aW (nc K a.az) [] E0 (ai (aT (bV K) (ah 3) (ah 9)) (ai (aT (bV K) (ah 4) (ah 9)) (ai (ah 6) (ai (ah 7) aD))))))) (bH (tC (.bl false))) (bX)))))
   (Ft K a)
def zW(K:W.Frag)(a:Ad):TS:=
  aJ (bh (aT (bV K) (uS (ai (tC (.int 3)) (ai (tC (.int 4)) (ai (tC (.int 5)) (ai (tC (.int 10)) (ai (tC (.int 26)) aD)))))) (aW (fB K) [] E0 (ai (ah 0) (ai (tC (.int 0)) (ai (tC (.int 5)) aD))))) (aF 1))
   (aJ (bh (fG Jk (ai (aT ji (ah 1) (tC (.int 1))) (ai (aT cI (tC (.int 2)) (aW (fB K) [] E0 (ai (ah 0) (ai (tC (.int 1)) (ai (tC (.int 3)) aD))))) aD))) (aF 2))
   (aJ (fq 3 (g6 (ai (ah 2) aD)) [1,2] lE (Ep a.az (qi a.az a.cU a.dP) [] E0 (ai (ah 1) (ai (ah 2) (ai (ah 0) aD)))))
   (aJ (fq 4 (g6 (ai (ah 2) aD)) [] lE (iD (ai (tC (.int 0)) (ai fz (ai fz aD)))))
   (aJ (bh (uS aD) (aF 5))
   (aJ (bh oJ (aF 6))
   (aJ (bh oJ (aF 7))
   (OF K a)))))))
end K91
namespace L2
open PySem PySem.Spec PyProof.Rows MM
variable {E:XK}{Q:VK}{xs vs ys ts:VI V}{x qual:Str}{H H' H2 B H0 A0:Hp}{a b it f p C dx pm d pr pk p1 p3 pg pb ph:θ}{F fp as:VI θ}{h t' i j c n L ep:Nat}{N ps:VI Str}{Y:St}{K:PySem.W.Frag}{es m:VE}{te td:TE}{tb:TS}{lo hi:VH}{ta:TA}{kvs S XT:VG}{ks zs ws:VF}
theorem ff{tt:TT}{ta:TS}{D:Ends}{Y:L2.St}(h:∀(A B:L2.St->Hp->Prop),(∀Y H,ta D Y H->A Y H)->(∀Y H,tb D Y H->B Y H)->dD tt (λ_ Y H=>A Y H) (λ_ Y H=>B Y H) D Y H):dD tt ta tb D Y H:=h _ _ (λ_ _ z=>z) (λ_ _ z=>z)
theorem NQ{v:V}{Q:Hp->Prop}(h:H p=some (.lst xs))(hi:i<xs.length)(q:Q (upd H p (.lst (xs.set i v)))):Eu (.ref p) (.int i) v H Q:=
 ⟨p,xs,i,i,rfl,rfl,h,by unfold MG;rw[df ⋯,df ⋯];rfl,q⟩
end L2
namespace K91
open PySem PySem.Spec PyProof.Rows L2 MM
theorem Fv(D:VF)(t:VE):vh (cF D) (Key.inr (txt t))=cF (D.filter λx=>decide (x≠t)):=by
 unfold vh cF;rw[List.filter_map];congr 1
 refine List.filter_congr λx _=>?_;show decide (Key.inr (txt x)≠Key.inr (txt t))=decide (x≠t);rw[decide_eq_decide];exact⟨λh z=>h (by rw[z]),λh z=>h (cC.mp (by injection z))⟩
theorem Fw{H:Hp}{a:θ}{D:VF}{t:VE}{y:V}{Q:VK}(e:H a=some (.dK (cF D)))(q:∀v H',Keeps [a] H H'->H' a=some (.dK (cF (D.filter λx=>decide (x≠t))))->(∀b,b≠a->H' b=H b)->Q v H'):xY (.ref a) [.str (txt t),y] H Q:=by
 refine⟨a,_,Key.inr (txt t),rfl,e,?_⟩;cases hv:ck (cF D) (Key.inr (txt t)) with
 |some v=>
  refine .inl ⟨v,.inr ⟨y,rfl⟩,rfl,q _ _ (Keeps.upd (λ_ _ e _=>e) (.inl bp)) (by rw[Fv];exact aq) λb hb=>aH hb⟩
 |none=>
  have:=jD t D;rw[hv] at this;have nt:¬t∈D:=λz=>by rw[dr z] at this;cases this
  have ef:D.filter (λx=>decide (x≠t))=D:=QP.mpr λx hx=>dr λz=>nt (by rw[<-z];exact hx);exact .inr ⟨y,rfl,rfl,q _ _ (λ_ _ e _=>e) (by rw[ef];exact e) λ_ _=>rfl⟩
structure Si(H H':Hp)(d e:θ)(U W:VF)(P:VE->Prop):Prop where
 k:Keeps [d,e] H H'
 dd:∃D,H' d=some (.dK (cF D))/\D.Nodup/\∀x,x∈D↔x∈U/\P x
 ee:∃E,H' e=some (.dK (cF E))/\E.Nodup/\∀x,x∈E↔x∈W/\P x
theorem Si.iff{H H':Hp}{d e:θ}{U W:VF}{P P':VE->Prop}(A:Si H H' d e U W P)(h:∀x,P x↔P' x):Si H H' d e U W P':=by
 rw[<-show P=P' from funext λx=>propext (h x)];exact A
def UZ(H:Hp)(d e:θ)(U W:VF)(lo:Nat)(Gn:Nat->VF)(σ0:VI (ο V)):Nat->L2.St->Hp->Prop:=λi Y H'=>∃v7 v8,Si H H' d e U W (λx=>∀r,lo<=r->r<lo+i->¬x∈Gn r)/\Y=σ0++[v7,v8]
def U0(H:Hp)(d e:θ)(U W:VF)(P:VE->Prop)(G:VF)(σ0:VI (ο V)):Nat->L2.St->Hp->Prop:=λi Y H'=>∃v8,Si H H' d e U W (λx=>P x/\¬x∈G.take i)/\Y=σ0++[v8]
theorem zX{K:PySem.W.Frag}{a:Ad}{N:VI Str}{vs:VI V}{H:Hp}{Q:VK}{E:XK}(hN:N.length=9)(h:fL K vs H Q E):nu K a {nx:=λ_ H'=>Q .non H',rt:=Q} .(3) H:=by
 obtain⟨pm,pg,ps,pb,h,l,n,g,q,Gn,SN,BF,i,o,A,hi,ho,ni,no,hl,dl,gl,fin⟩:=h;unfold nu L2.start;rw[hN];simp only[set_cons_zero,set_cons_succ,replicate_succ,replicate_zero,map_cons,map_nil,cons_append,nil_append,length_cons,length_nil,Nat.reduceAdd,Nat.reduceSub];have ixM:∀{H':Hp} {j:Nat} {R:VK},aG H H'->j<h->R (.ref (g j).t) H'->bV K (.ref pm) (.int j) H' R:=λs hj r=>bR (bw.of (s _ _ A.lm)) (rh _) (iz hj) r;have ixt:∀{H':Hp} {j:Nat} {R:VK},aG H H'->j<h->R (.int (n j:Nat)) H'->cH K (.ref (g j).t) (.int 0) H' R:=λs hj r=>bB (v:=.int (n _:Nat)) (fT.of (s _ _ (A.tp _ hj))) .(0) rfl r;have ix1:∀{H':Hp} {j:Nat} {R:VK},aG H H'->j<h->R (.ref (g j).d) H'->cH K (.ref (g j).t) (.int 1) H' R:=λs hj r=>bB (v:=.ref (g _).d) (fT.of (s _ _ (A.tp _ hj))) .(0) rfl r;have ix2:∀{H':Hp} {j:Nat} {R:VK},aG H H'->j<h->R (.ref (g j).e) H'->cH K (.ref (g j).t) (.int 2) H' R:=λs hj r=>bB (v:=.ref (g _).e) (fT.of (s _ _ (A.tp _ hj))) .(0) rfl r;obtain⟨di1,di2,di3,di4⟩:=dl i hi;obtain⟨do1,do2,do3,do4⟩:=dl o ho;refine aR λc hc=>?_;nofun;refine ixM (aG.refl _) hi (ixt (aG.refl _) hi (ixM (aG.refl _) ho (ixt (aG.refl _) ho ⟨_,_,rfl,hc _ _ ?_⟩)));clear hc c;have em:(if ((n o:Nat):Int)>(n i:Nat) then((n o:Nat):Int) else(n i:Nat))=((max (n i) (n o):Nat):Int):=by split<;>lia
 rw[em];simp only[set_cons_zero,set_cons_succ];refine aR λc hc=>?_;nofun;refine ixM (aG.refl _) hi (ix1 (aG.refl _) hi ⟨(g i).d,_,rfl,A.dd i hi,λd hd=>hc _ _ ?_⟩);clear hc c;have s1:=aG.up H hd (o:=.dK (cF (g i).D));have e1:(upd H d (.dK (cF (g i).D))) d=some (.dK (cF (g i).D)):=aq;generalize upd H d _=H1 at s1 e1 ⊢;simp only[set_cons_zero,set_cons_succ];obtain⟨U,eU,nU,lU,mU⟩:=Fd (g o).D di1;obtain⟨W,eW,nW,lW,mW⟩:=Fd (g o).E di2;refine aM λc hc=>?_;nofun;refine⟨.inr (.inr (.inl ⟨rfl,.inl ⟨_,e1⟩⟩)),ixM s1 ho (ix1 s1 ho ⟨d,(g o).d,_,_,rfl,rfl,du (fresh_ne (A.dd o ho) hd),e1,s1 _ _ (A.dd o ho),by unfold cF;rw[aw,aw,dE];lia,hc _ _ ?_⟩)⟩;clear hc c;rw[eU];have s2:aG H (upd H1 d (.dK (cF U))):=cj (F:=[d]) s1 (Keeps.upd (λ_ _ e _=>e) (.inl bp)) λb hb=>by rw[bc.mp hb];exact hd
 have e2:(upd H1 d (.dK (cF U))) d=some (.dK (cF U)):=aq;generalize upd H1 d _=H2 at s2 e2 ⊢;refine aR λc hc=>?_;nofun;refine ixM s2 hi (ix2 s2 hi ⟨(g i).e,_,rfl,s2 _ _ (A.ee i hi),λe he=>hc _ _ ?_⟩);clear hc c;have s3:=aG.up H2 he (o:=.dK (cF (g i).E));have e3:(upd H2 e (.dK (cF (g i).E))) e=some (.dK (cF (g i).E)):=aq;generalize upd H2 e _=H3 at s3 e3 ⊢;have nde:d≠e:=fresh_ne e2 he;have e23:=s3 _ _ e2;have Zk:=s2.trans s3;have he0:=s2.bg he;simp only[set_cons_zero,set_cons_succ];refine aM λc hc=>?_;nofun;refine⟨.inr (.inr (.inl ⟨rfl,.inl ⟨_,e3⟩⟩)),ixM Zk ho (ix2 Zk ho ⟨e,(g o).e,_,_,rfl,rfl,du (fresh_ne (A.ee o ho) he0),e3,Zk _ _ (A.ee o ho),by unfold cF;rw[aw,aw,dE];lia,hc _ _ ?_⟩)⟩;clear hc c;rw[eW];have fde:∀b∈[d,e],H b=none:=λb hb=>by
  simp only[mem_cons,not_mem_nil,or_false] at hb
  rcases hb with rfl|rfl
  .exact hd
  .exact he0
 have s4:aG H (upd H3 e (.dK (cF W))):=cj (F:=[d,e]) Zk (Keeps.upd (λ_ _ e _=>e) (.inl .(4))) fde;have e4:(upd H3 e (.dK (cF W))) e=some (.dK (cF W)):=aq;have e4d:(upd H3 e (.dK (cF W))) d=some (.dK (cF U)):=by rw[aH nde];exact e23
 generalize upd H3 e _=H4 at s4 e4 e4d ⊢;have emn:(if ((n o:Nat):Int)<(n i:Nat) then((n o:Nat):Int) else(n i:Nat))=((min (n i) (n o):Nat):Int):=by split<;>lia
 refine aM λc hc=>?_;refine Py (l:=((min (n i) (n o):Nat):Int)) (j:=((max (n i) (n o):Nat):Int)) (λR r=>by
  nofun;refine ixM s4 hi (ixt s4 hi (ixM s4 ho (ixt s4 ho ⟨_,_,rfl,?_⟩)));rw[emn];exact r) ⋯ ⋯ ⋯ ⋯ (UZ H4 d e U W (min (n i) (n o)) Gn [some (.ref pm),some (.int i),some (.int o),some (.ref pg),some (.int (max (n i) (n o):Nat)),some (.ref d),some (.ref e)]) ⟨none,none,⟨λ_ _ e _=>e,⟨U,e4d,nU,λx=>⟨λh=>⟨h,λr h1 h2=>by lia⟩,λh=>h.1⟩⟩,⟨W,e4,nW,λx=>⟨λh=>⟨h,λr h1 h2=>by lia⟩,λh=>h.1⟩⟩⟩,rfl⟩ ?_ ?_
 .rintro k Y H' hk ⟨v7,v8,X,rfl⟩;have hr:min (n i) (n o)+k<l:=by lia
  have sX:=cj s4 X.k fde;have ek:((min (n i) (n o):Nat):Int)+(k:Int)=((min (n i) (n o)+k:Nat):Int):=by lia
  rw[ek];simp only[cons_append,nil_append,aF,set_cons_zero,set_cons_succ];have hq:=sX _ _ (A.qq _ hr);refine rZ (a:=q (min (n i) (n o)+k)) (xs:=(Gn (min (n i) (n o)+k)).map av) (λR r=>by
   nofun;exact bR (bw.of (sX _ _ A.lg)) (rh _) (KG hr) r) (bw.of hq) (U0 H4 d e U W (λx=>∀r,min (n i) (n o)<=r->r<min (n i) (n o)+k->¬x∈Gn r) (Gn (min (n i) (n o)+k)) [some (.ref pm),some (.int i),some (.int o),some (.ref pg),some (.int (max (n i) (n o):Nat)),some (.ref d),some (.ref e),some (.int (min (n i) (n o)+k:Nat))]) ⟨v8,X.iff λx=>⟨λh=>⟨h,λz=>by rw[List.take_zero] at z;cases z⟩,λh=>h.1⟩,rfl⟩ (λj Y H'' _ z=>by
    obtain⟨_,a7,_⟩:=z;exact bw.of (cj s4 a7.k fde _ _ (A.qq _ hr))) ?_ ?_
  .rintro j x Y H'' hx ⟨v8,a7,rfl⟩;rw[cn] at hx;obtain⟨t,ht,rfl⟩:=eM.mp hx;obtain⟨kY,⟨D,eD,nD,mD⟩,⟨E',eE,nE,mE⟩⟩:=a7;have X6:(Gn (min (n i) (n o)+k)).take (j+1)=(Gn (min (n i) (n o)+k)).take j++[t]:=by rw[md,ht];rfl
   simp only[cons_append,nil_append,aF,set_cons_zero,set_cons_succ];refine aM λc1 XX=>?_;simp? [av]
   refine⟨.inr (.inr (.inl ⟨rfl,.inl ⟨_,eD⟩⟩)),Fw eD λ_ Ha ka ea na=>XX _ _ ?_⟩;clear XX c1;have eE2:Ha e=some (.dK (cF E')):=by rw[na e (du nde)];exact eE
   nofun;refine⟨.inr (.inr (.inl ⟨rfl,.inl ⟨_,eE2⟩⟩)),Fw eE2 λ_ Hb kb eb nb=>⟨_,⟨?_,⟨_,by rw[nb d nde];exact ea,nD.filter _,λx=>?_⟩,⟨_,eb,nE.filter _,λx=>?_⟩⟩,rfl⟩⟩
   .exact(kY.trans λb u w z=>ka b u w λy=>z (by rw[bc.mp y];simp)).trans λb u w z=>kb b u w λy=>z (by rw[bc.mp y];simp)
   .rw[pv,mD x,X6,xi,eP,not_or,bc];exact⟨λ⟨⟨a,b,c⟩,d⟩=>⟨a,b,c,d⟩,λ⟨a,b,c,d⟩=>⟨⟨a,b,c⟩,d⟩⟩
   .rw[pv,mE x,X6,xi,eP,not_or,bc];exact⟨λ⟨⟨a,b,c⟩,d⟩=>⟨a,b,c,d⟩,λ⟨a,b,c,d⟩=>⟨⟨a,b,c⟩,d⟩⟩
  .rintro Y H'' ⟨v8,a7,rfl⟩;rw[aw,lL] at a7;refine⟨_,_,a7.iff λx=>⟨λ⟨h1,h2⟩ r a b=>?_,λh=>⟨λr a b=>h r a ⋯,h _ ⋯ ⋯⟩⟩,rfl⟩
   by_cases z:r<min (n i) (n o)+k
   .exact h1 r a z
   .have:r=min (n i) (n o)+k:=by lia
    rw[this];exact h2
 rintro Y H5 ⟨v7,v8,X,rfl⟩;refine hc _ _ ?_;clear hc c;have ec:min (n i) (n o)+(((max (n i) (n o):Nat):Int)-((min (n i) (n o):Nat):Int)).toNat=max (n i) (n o):=by lia
 rw[ec] at X;have s5:=cj s4 X.k fde;obtain⟨_,⟨D,eD,nD,mD⟩,⟨E',eE,nE,mE⟩⟩:=X;simp only[cons_append,nil_append];simp? [GA]
 refine⟨by decide,λt ht=>?_⟩;have s6:=aG.up H5 ht (o:=.tup [.int (max (n i) (n o):Nat),.ref d,.ref e]);have e6:(upd H5 t (.tup [.int (max (n i) (n o):Nat),.ref d,.ref e])) t=some (.tup [.int (max (n i) (n o):Nat),.ref d,.ref e]):=aq;generalize upd H5 t _=H6 at s6 e6 ⊢;have lm6:=s6 _ _ (s5 _ _ A.lm);refine⟨pm,_,i,i,rfl,rfl,lm6,by unfold MG;rw[mY,df ⋯,df ⋯];rfl,?_⟩;have es:(o7 h g).set i (.ref t)=o7 h (gD g i ⟨t,d,e,D,E'⟩):=Fg (r:=⟨t,d,e,D,E'⟩) hi;rw[es];have nm:∀{y:θ} {u:HO},H6 y=some u->(∀xs,u≠.lst xs)->(upd H6 pm (.lst (o7 h (gD g i ⟨t,d,e,D,E'⟩)))) y=some u:=λw z=>by rw[aH (gc w lm6 (z _))];exact w
 exact fin _ ⟨t,d,e,D,E'⟩ (Keeps.upd ((s5.trans s6).keeps _) (.inl bp)) (s5.bg ht) hd he0 nde aq (nm e6 nofun) (nm (s6 _ _ eD) nofun) (nm (s6 _ _ eE) nofun) nD nE (λx=>by rw[mD x,mU x]) λx=>by rw[mE x,mW x]
end K91
namespace K91
open PySem PySem.Spec PyProof.Rows L2 MM
theorem Iq{xs ys zs ws:VF}(px:zs.Perm xs)(py:ws.Perm ys)(ux:zs.Pairwise (·<=·))(uy:ws.Pairwise (·<=·))(nx:xs.Nodup)(ny:ys.Nodup)(e:∀t,t∈xs↔t∈ys):zs=ws:=by
 have nz:=px.nodup_iff.mpr nx;have nw:=py.nodup_iff.mpr ny;refine fD ((my nz nw).mpr λt=>?_) (fK ux nz) (fK uy nw);rw[px.mem_iff,py.mem_iff,e t]
structure SB(L:Nat)(Bs:VI dY)(RR:VI (VI bG))(H H':Hp)(ps pb:θ)(SN BF:VI (VI Key×V))(u v:Nat)(X7 Yc:VI (VI Key×V)):Prop where
 k:Keeps [ps,pb] H H'
 es:H' ps=some (.dT X7)
 eb:H' pb=some (.dT Yc)
 si:lq L Bs RR X7
 bi:zQ L Bs RR Yc
 ls:X7.length<=SN.length+u
 lb:Yc.length<=BF.length+v
section
variable{L:Nat}{Bs:VI dY}{RR:VI (VI bG)}{H H' H2:Hp}{ps pb:θ}{SN BF X7 Yc:VI (VI Key×V)}{u v u' v':Nat}
theorem SB.same(A:SB L Bs RR H H' ps pb SN BF u v X7 Yc)(s:aG H' H2):SB L Bs RR H H2 ps pb SN BF u v X7 Yc:={A with k:=A.k.trans (s.keeps _),es:=s _ _ A.es,eb:=s _ _ A.eb}
theorem SB.mono(A:SB L Bs RR H H' ps pb SN BF u v X7 Yc)(hu:u<=u')(hv:v<=v'):SB L Bs RR H H' ps pb SN BF u' v' X7 Yc:={A with ls:=by have:=A.ls;lia,lb:=by have:=A.lb;lia}
theorem SB.old(A:SB L Bs RR H H' ps pb SN BF u v X7 Yc){p:θ}{o:HO}(e:H p=some o)(n1:p≠ps)(n2:p≠pb):H' p=some o:=A.k _ _ e λz=>by
 simp only[mem_cons,not_mem_nil,or_false] at z
 rcases z with z|z
 .exact n1 z
 .exact n2 z
end
def U1(L:Nat)(Bs:VI dY)(RR:VI (VI bG))(H:Hp)(ps pb:θ)(SN BF:VI (VI Key×V))(σ0:VI (ο V)):Nat->L2.St->Hp->Prop:=λi Y H'=>∃X7 Yc v7 v8 v9 v10,SB L Bs RR H H' ps pb SN BF (2*i) (60*i) X7 Yc/\Y=σ0++[v7,v8,v9,v10]
def Sj(L:Nat)(Bs:VI dY)(RR:VI (VI bG))(H:Hp)(ps pb:θ)(SN BF:VI (VI Key×V))(u v:Nat)(lp:VI (θ×HO))(σ0:VI (ο V))(v10:ο V):Nat->L2.St->Hp->Prop:=λi Y H'=>∃X7 Yc v8 v9,SB L Bs RR H H' ps pb SN BF (u+i) v X7 Yc/\(∀x∈lp,H' x.1=some x.2)/\Y=σ0++[v8,v9,v10]
def U3(L:Nat)(Bs:VI dY)(RR:VI (VI bG))(H:Hp)(ps pb:θ)(SN BF:VI (VI Key×V))(u v:Nat)(σ0:VI (ο V)):Nat->L2.St->Hp->Prop:=λi Y H'=>∃X7 Yc v10,SB L Bs RR H H' ps pb SN BF u (v+i) X7 Yc/\Y=σ0++[v10]
theorem D3{K:PySem.W.Frag}{a:Ad}{N:VI Str}{vs:VI V}{H:Hp}{Q:VK}{E:XK}(hN:N.length=11)(h:nc K a.az vs H Q E):qA K a {nx:=λ_ H'=>Q .non H',rt:=Q} .(3) H:=by
 obtain⟨x,dx,pr,pt,pk,XN,ps,pb,as,d,e,D,E',L,h,j,Bs,Ts,RR,pu,Kt,n,kn,tk,kvs,ks,k,b,SN,BF,S,A,W,hk,et,ed,ee,nde,es,eb,nsb,ls,lb,G,I,T,hL,cP,nD,dm,em,si,bi,fin⟩:=h;have few:=W.few;unfold qA L2.start;rw[hN];simp only[set_cons_zero,set_cons_succ,replicate_succ,replicate_zero,map_cons,map_nil,cons_append,nil_append,length_cons,length_nil,Nat.reduceAdd,Nat.reduceSub];refine aR λc hc=>?_;refine bD S (λR r=>r) rfl ⟨_,_,_,_,_,L,h,_,_,_,S,by lia,W.nd,λH1 p4 zs s1 f4 up mem=>hc _ _ ?_⟩;clear hc c;have Z:gG kvs ks zs:=⟨up,mem⟩;have s2:=s1.new f4 (o:=.lst (zs.map av));have e4:(upd H1 p4 (.lst (zs.map av))) p4=some (.lst (zs.map av)):=aq;have f4:=s1.bg f4;generalize upd H1 p4 _=H2 at s2 e4 ⊢;clear s1;simp only[set_cons_zero,set_cons_succ];refine aR λc hc=>?_;refine bD (S.same s2) (λR r=>r) rfl ⟨_,_,_,_,_,L,h,_,_,_,S.same s2,by lia,W.nd,λH3 p5 zs5 YR f5 Z5 e5=>hc _ _ ?_⟩;clear hc c;cases Z.one Z5;have f5:=s2.bg f5;have s3:=s2.trans YR;have e43:=YR _ _ e4;clear s2 e4 YR;have zl:zs.length<=60:=by
  have:=bQ (bJ Z.up) (λm hm=>((Z.mem m).mp hm).1);rw[aw] at this;lia
 have Zd:∀m∈zs,(m,au kvs m)∈kvs:=λm hm=>cW kvs ((Z.mem m).mp hm).1;have ndT:(zs.map (au kvs)).Nodup:=by
  refine mB.mpr (WU (λ{p q} hp hq ne z=>ne ?_) (bJ Z.up));have h1:=Zd p hp;have h2:=Zd q hq;rw[z] at h1;exact T.inj G hL I h1 h2
 have ZJ:∀y∈zs.map (au kvs),PyData.strOk (txt y)=true:=λy hy=>by
  obtain⟨m,hm,rfl⟩:=km.mp hy;exact ie (W.mar _ (Zd m hm)).2.2
 simp only[set_cons_zero,set_cons_succ];have ed3:=s3 _ _ ed;refine aR λc hc=>?_;nofun;have Dl:(cF D).length<=sizeLine:=by
  have h1:=bQ nD (λt ht=>by
   obtain⟨m,hm⟩:=(dm t).mp ht;exact km.mpr ⟨_,hm,rfl⟩:∀t∈D,t∈kvs.map (·.2))
  rw[aw] at h1;unfold cF;rw[aw,dE];lia
 have D60:D.length<=60:=by
  have h1:=bQ nD (λt ht=>by
   obtain⟨m,hm⟩:=(dm t).mp ht;exact km.mpr ⟨_,hm,rfl⟩:∀t∈D,t∈kvs.map (·.2))
  rw[aw] at h1;lia
 refine JS (a:=d) (kvs:=cF D) (λR r=>by nofun;exact bB (v:=.ref d) (fT.of (s3 _ _ et)) .(0) rfl r) ed3 (λi ys H'=>(∀b,b≠d->H' b=H3 b)/\ys=((D.take i).filter λt=>decide (¬t∈E')).map av) (λH' hh=>⟨hh,rfl⟩) (λi ys H' _ p=>by
  rw[p.2,aw];refine eJ (oI _ _) ?_;rw[fg];exact Oy _ _) Dl ?_ ?_
 .rintro i kk v ys H' hv ⟨hh,rfl⟩ R hR;unfold cF at hv;rw[cn] at hv;obtain⟨t,ht,q⟩:=eM.mp hv;injection q with q1 q2
  subst q1;have ndp:XN≠d:=gc et ed nofun
  simp? [kV]
  refine bB (v:=.ref e) (fT.of (by rw[hh XN ndp];exact s3 _ _ et)) .(0) rfl ⟨e,_,rfl,g9.k (k:=Key.inr (txt t)) (by rw[hh e (du nde)];exact s3 _ _ ee),bK ?_⟩;rw[jD];have X6:D.take (i+1)=D.take i++[t]:=by rw[md,ht];rfl
  by_cases z:t∈E'
  .rw[cq (by simp[z])];refine hR _ _ ⟨hh,?_⟩ rfl;rw[X6,wa];simp[z]
  .rw[df (by simp[z])];refine hR _ _ ⟨hh,?_⟩ rfl;rw[X6,wa,fi];simp[z,av]
 rintro ys H4 ⟨hh,rfl⟩ p hp npd;have tl:(cF D).length=D.length:=by unfold cF;rw[aw]
 rw[tl,lL];have s4:aG H3 (upd (upd H4 d (.dK (cF D))) p (.lst ((D.filter λt=>decide (¬t∈E')).map av))):=λy o w=>by
  have hpy:y≠p:=λz=>by
   subst z
   by_cases q:y=d
   .exact npd q
   .rw[hh y q,w] at hp;cases hp
  rw[aH hpy]
  by_cases q:y=d
  .subst q;rw[aq];exact ed3.symm.trans w
  .rw[aH q,hh y q];exact w
 have ep:(upd (upd H4 d (.dK (cF D))) p (.lst ((D.filter λt=>decide (¬t∈E')).map av))) p=some (.lst ((D.filter λt=>decide (¬t∈E')).map av)):=aq;generalize upd (upd H4 d _) p _=H5 at s4 ep ⊢;refine⟨p,_,rfl,bw.of ep,Nat.lt_of_le_of_lt (oI _ _) ⋯,λp6 ds f6 pd ud=>hc _ _ ?_⟩;clear hc c;have s5:=aG.up H5 f6 (o:=.lst (ds.map av));have e6:(upd H5 p6 (.lst (ds.map av))) p6=some (.lst (ds.map av)):=aq;generalize upd H5 p6 _=H6 at s5 e6 ⊢;have s36:=s4.trans s5;have s6:=s3.trans s36;have e56:=s36 _ _ e5;have e46:=s36 _ _ e43;have et6:=s6 _ _ et;simp only[set_cons_zero,set_cons_succ];have Sk:∀t,t∈zs.map (au kvs)↔t∈D.filter λt=>decide (¬t∈E'):=λt=>by
  rw[pv,xi,dm t,em t,km];constructor
  .rintro⟨m,hm,rfl⟩;refine⟨⟨m,Zd m hm⟩,λ⟨m',h1,h2⟩=>?_⟩;have:=T.inj G hL I (Zd m hm) h2;subst this;exact((Z.mem m).mp hm).2 h1
  .rintro⟨⟨m,hm⟩,h2⟩;have hmz:m∈zs:=(Z.mem m).mpr ⟨km.mpr ⟨_,hm,rfl⟩,λz=>h2 ⟨m,z,hm⟩⟩;have h3:=Zd m hmz;refine⟨m,hmz,?_⟩;have nk:=W.nd;obtain⟨i1,q1⟩:=sv hm;obtain⟨i2,q2⟩:=sv h3;have h4:(kvs.map (·.1))[i1]?=(kvs.map (·.1))[i2]?:=by rw[cn,cn,q1,q2];rfl
   have:=(WM (by rw[aw];exact(bo.mp q1).1) nk).mp h4;subst this;rw[q1] at q2;injection q2 with q2
   injection q2 with _ q2
   exact q2.symm
 refine aM λc hc=>?_;refine ff λ_ _ _ hB=>?_;nofun;refine⟨p5,_,rfl,bw.of e56,by rw[aw];lia,λp7 us f7 pu7 uu=>?_⟩;have s7:=aG.up H6 f7 (o:=.lst (us.map av));have e7:(upd H6 p7 (.lst (us.map av))) p7=some (.lst (us.map av)):=aq;generalize upd H6 p7 _=H7 at s7 e7 ⊢;have ue:us=ds:=Iq pu7 pd uu ud ndT (nD.filter _) Sk;have okU:∀y∈us,PyData.strOk (txt y)=true:=λy hy=>ZJ y (pu7.mem_iff.mp hy);refine⟨p7,p6,us,ds,rfl,rfl,bw.of e7,bw.of (s7 _ _ e6),okU,by rw[<-ue];exact okU,?_⟩;rw[dr ue];refine(bK ?_);rw[cq .(0)];have YU:=s6.trans s7;refine cJ (bw.of (s7 _ _ e46)) (cJ (bw.of (s7 _ _ e56)) ⟨rfl,?_⟩);rw[aw,aw,aw,cq .(4)];refine bD (S.same YU) (λR r=>r) rfl ⟨_,_,_,_,_,L,h,_,_,_,_,S.same YU,(A.same YU).lst,?_⟩;refine bB (v:=.int n) (fT.of (YU _ _ et)) .(0) rfl ⟨rfl,?_⟩;have al:(as.map V.ref).length=n:=by rw[aw,A.row.len,fg,oe T.le]
 rw[al,cq .(4)];refine hB _ _ (hc _ _ ?_);clear hc hB;have e47:=s7 _ _ e46;have e57:=s7 _ _ e56;have et7:=YU _ _ et;have es7:=YU _ _ es;have eb7:=YU _ _ eb;clear e46 e56 e43 e5 s36 s6 s7 s5 s4 s3 et6 ep e6 e7;have n4s:p4≠ps:=du (fresh_ne es f4);have n4b:p4≠pb:=du (fresh_ne eb f4);have n5s:p5≠ps:=du (fresh_ne es f5);have n5b:p5≠pb:=du (fresh_ne eb f5);have nts:XN≠ps:=gc et es nofun
 have ntb:XN≠pb:=gc et eb nofun
 have put:∀m∈zs,∃(q:Nat) (y:dY),Bs[q]?=some y/\cX L RR n y m/\y.2.2=au kvs m:=λm hm=>by
  obtain⟨q,y,_,e,J,w⟩:=(T.mem _).mp (Zd m hm);exact⟨q,y,e,J,w⟩
 have nem:∀m∈zs,m≠[]/\au kvs m≠[]:=λm hm=>⟨(W.mar _ (Zd m hm)).1.ne,(W.mar _ (Zd m hm)).2.2.1⟩;refine aM λc hc=>?_;refine lG (j:=zs.length) (λR r=>by nofun;refine cJ (bw.of e47) ?_;rw[aw];exact r) ⋯ ⋯ (U1 L Bs RR H7 ps pb SN BF [some (.ref x),some (.ref XN),some (.ref ps),some (.ref pb),some (.ref p4),some (.ref p5),some (.ref p6)]) ⟨SN,BF,none,none,none,none,⟨λ_ _ e _=>e,es7,eb7,si,bi,bb _,bb _⟩,rfl⟩ ?_ ?_
 .rintro i Y H8 hi ⟨SN8,BF8,v7,v8,v9,v10,B8,rfl⟩;have YG:i<zs.length:=by lia
  obtain⟨m,hm⟩:=some_at (l:=zs) (i:=i) YG;have hmz:=dy hm;obtain⟨q,y,ey,Jy,ty⟩:=put m hmz;obtain⟨nm1,nm2⟩:=nem m hmz;have zm:(zs.map av)[((i:Nat):Int).toNat]?=some (av m):=by rw[cn];show (zs[i]?).map av=_;rw[hm];rfl
  have zt:((zs.map (au kvs)).map av)[((i:Nat):Int).toNat]?=some (av (au kvs m)):=by rw[cn,cn];show ((zs[i]?).map _).map av=_;rw[hm];rfl
  have e48:=B8.old e47 n4s n4b;have e58:=B8.old e57 n5s n5b;have et8:=B8.old et7 nts ntb;simp only[cons_append,nil_append,aF,set_cons_zero,set_cons_succ];refine aM λc1 XX=>?_;suffices go:c1 [some (.ref x),some (.ref XN),some (.ref ps),some (.ref pb),some (.ref p4),some (.ref p5),some (.ref p6),some (.int i),v8,v9,v10] H8 by
   clear XX;refine ff λ_ _ _ hB=>?_;nofun
   by_cases z:(0:Int)<(i:Int)
   .rw[df z];obtain⟨m0,hm0⟩:=some_at (l:=zs) (i:=i-1) ⋯;have lt:m0<m:=by
     have h1:=ma.mp Z.up (i-1) i ⋯ YG ⋯;obtain⟨a1,a2⟩:=bo.mp hm0;obtain⟨b1,b2⟩:=bo.mp hm;rw[a2,b2] at h1;exact h1
    refine bR (v:=av m0) (bw.of e48) ⋯ (by rw[cn,show ((i:Int)-1).toNat=i-1 by lia,hm0];rfl) (bR (v:=av m) (bw.of e48) ⋯ zm ⟨m0,m,rfl,rfl,bK ?_⟩)
    rw[dr lt];exact hB _ _ go
   .rw[cq z];exact hB _ _ go
  refine XX _ _ ?_;clear XX c1;refine aM λc1 XX=>?_;refine zK ?_;nofun;refine bB (v:=.int n) (fT.of et8) .(0) rfl (bR (v:=av m) (bw.of e48) ⋯ zm ⟨by decide,λa1 ha1=>?_⟩);have u1:=aG.up H8 ha1 (o:=.tup [.int n,av m,.str (txt [])]);have k1:(upd H8 a1 (.tup [.int n,av m,.str (txt [])])) a1=some (.tup ((kA n m).map kV)):=aq;generalize upd H8 a1 _=Ha at u1 k1 ⊢;refine bR (v:=av (au kvs m)) (bw.of (u1 _ _ e58)) ⋯ zt ⟨by decide,λb1 hb1=>?_⟩;have u2:=aG.up Ha hb1 (o:=.tup [.ref a1,av (au kvs m)]);have k2:(upd Ha b1 (.tup [.ref a1,av (au kvs m)])) b1=some (.tup [.ref a1,av (au kvs m)]):=aq;generalize upd Ha b1 _=Hb at u2 k2 ⊢;have u12:=u1.trans u2;refine bB (v:=.int n) (fT.of (u12 _ _ et8)) .(0) rfl (bR (v:=av (au kvs m)) (bw.of (u12 _ _ e58)) ⋯ zt ⟨by decide,λa2 ha2=>?_⟩);have u3:=aG.up Hb ha2 (o:=.tup [.int n,.str (txt []),av (au kvs m)]);have k3:(upd Hb a2 (.tup [.int n,.str (txt []),av (au kvs m)])) a2=some (.tup ((kB n (au kvs m)).map kV)):=aq;generalize upd Hb a2 _=Hc at u3 k3 ⊢;have u13:=u12.trans u3;refine bR (v:=av m) (bw.of (u13 _ _ e48)) ⋯ zm ⟨by decide,λb2 ZQ=>?_⟩;have u4:=aG.up Hc ZQ (o:=.tup [.ref a2,av m]);have k4:(upd Hc b2 (.tup [.ref a2,av m])) b2=some (.tup [.ref a2,av m]):=aq;generalize upd Hc b2 _=Hd at u4 k4 ⊢;refine⟨by decide,λpp hpp=>?_⟩;have u5:=aG.up Hd hpp (o:=.lst [.ref b1,.ref b2]);have k5:(upd Hd pp (.lst [.ref b1,.ref b2])) pp=some (.lst [.ref b1,.ref b2]):=aq;generalize upd Hd pp _=He at u5 k5 ⊢;have u45:=u4.trans u5;have u35:=u3.trans u45;have uE:=u13.trans u45;have BE:=B8.same uE;have fresh:∀{y:θ},H8 y=none->y≠ps/\y≠pb:=λw=>⟨du (fresh_ne B8.es w),du (fresh_ne B8.eb w)⟩;have fa1:=fresh ha1;have fb1:=fresh (u1.bg hb1);have fa2:=fresh (u12.bg ha2);have fb2:=fresh (u13.bg ZQ);have fpp:=fresh ((u13.trans u4).bg hpp);have lp:∀z∈[(pp,HO.lst [.ref b1,.ref b2]),(b1,.tup [.ref a1,av (au kvs m)]),(a1,.tup ((kA n m).map kV)),(b2,.tup [.ref a2,av m]),(a2,.tup ((kB n (au kvs m)).map kV))],He z.1=some z.2/\z.1≠ps/\z.1≠pb:=λz hz=>by
   simp only[mem_cons,not_mem_nil,or_false] at hz
   rcases hz with rfl|rfl|rfl|rfl|rfl
   .exact⟨k5,fpp⟩
   .exact⟨u35 _ _ k2,fb1⟩
   .exact⟨u35 _ _ (u2 _ _ k1),fa1⟩
   .exact⟨u5 _ _ k4,fb2⟩
   .exact⟨u45 _ _ k3,fa2⟩
  generalize hlp:[(pp,HO.lst [.ref b1,.ref b2]),(b1,.tup [.ref a1,av (au kvs m)]),(a1,.tup ((kA n m).map kV)),(b2,.tup [.ref a2,av m]),(a2,.tup ((kB n (au kvs m)).map kV))]=LP at lp;have lsB:=B8.ls;have lbB:=B8.lb;refine rZ (a:=pp) (xs:=[.ref b1,.ref b2]) (λR r=>r) (bw.of k5) (Sj L Bs RR H7 ps pb SN BF (2*i) (60*i) LP [some (.ref x),some (.ref XN),some (.ref ps),some (.ref pb),some (.ref p4),some (.ref p5),some (.ref p6),some (.int i)] v10) ⟨SN8,BF8,v8,v9,BE,λz hz=>(lp z hz).1,rfl⟩ (λj Y H' _ z=>by
   obtain⟨_,_,_,_,_,z,_⟩:=z;exact bw.of (z (pp,_) (by rw[<-hlp];simp))) ?_ ?_
  .rintro j w Y H' hw ⟨X7,Yc,v8,v9,B',lp',rfl⟩;have step:∀(DD:Ends) (key:VI Key) (val:VE) (ka pa:θ),DD.nx=Sj L Bs RR H7 ps pb SN BF (2*i) (60*i) LP [some (.ref x),some (.ref XN),some (.ref ps),some (.ref pb),some (.ref p4),some (.ref p5),some (.ref p6),some (.int i)] v10 (j+1)->w=.ref pa->H' pa=some (.tup [.ref ka,av val])->H' ka=some (.tup (key.map kV))->(∀u,ck X7 key=some u->u=av val)->lq L Bs RR (putK X7 key (av val))->uM K 2 (iA (aF 8) (iA (aF 9) uK)) w ([some (.ref x),some (.ref XN),some (.ref ps),some (.ref pb),some (.ref p4),some (.ref p5),some (.ref p6),some (.int i)]++[v8,v9,v10]) H' λσ2 H2=>aJ (dD (bz (aT IP (oK (ah 2) (ah 8) (ah 9)) (ah 9))) (bH (tC (.bl false))) (bX)) (fU (ah 2) (ah 8) (ah 9)) DD σ2 H2:=by
    rintro DD key val ka pa hD rfl e1 e2 hu hp;have jl:j<2:=(bo.mp hw).1;simp? [uM,iA,uK,wt,Bi]
    refine⟨[.ref ka,av val],fT.of e1,rfl,.ref ka,[av val],rfl,av val,[],rfl,rfl,?_⟩;simp? [oK,fU,av]
    refine⟨.inr ⟨_,.inl B'.es⟩,_,g9.t B'.es e2,?_⟩;have eo:(ck X7 key).getD (.str (txt val))=.str (txt val):=by
     cases q:ck X7 key with
     |none=>rfl
     |some u=>exact hu u q
    rw[eo];refine⟨rfl,?_⟩;rw[cq .(4)];rw[hD];refine⟨_,oH.t B'.es e2 (by rw[dE];have:=B'.ls;lia),_,_,_,_,⟨B'.k.upd (.inl .(4)),aq,by rw[aH (du nsb)];exact B'.eb,hp,B'.bi,by have:=B'.ls;have:=fy X7 key (.str (txt val));lia,B'.lb⟩,λz hz=>?_,rfl⟩;rw[aH (lp z hz).2.1];exact lp' z hz
   have jc:j=0\/j=1:=by
    have:=(bo.mp hw).1;simp only[length_cons,length_nil] at this;lia
   rcases jc with rfl|rfl
   .have hw:w=.ref b1:=(eI hw).symm;refine step _ (kA n m) (au kvs m) a1 b1 rfl hw (lp' (b1,_) (by rw[<-hlp];simp)) (lp' (a1,_) (by rw[<-hlp];simp)) (λu q=>by rw[<-ty];exact B'.si.fst G T.le ey Jy nm1 q) (λz hz=>by
     rcases zP hz with hz|rfl
     .exact B'.si z hz
     .exact⟨n,_,y,m,T.le,ey,Jy,.inl ⟨rfl,by rw[ty]⟩⟩)
   .have hw:w=.ref b2:=(eI hw).symm;refine step _ (kB n (au kvs m)) m a2 b2 rfl hw (lp' (b2,_) (by rw[<-hlp];simp)) (lp' (a2,_) (by rw[<-hlp];simp)) (λu q=>by rw[<-ty] at q;exact B'.si.snd G hL I ey Jy (by rw[ty];exact nm2) q) (λz hz=>by
     rcases zP hz with hz|rfl
     .exact B'.si z hz
     .exact⟨n,_,y,m,T.le,ey,Jy,.inr ⟨by rw[ty],rfl⟩⟩)
  rintro Y H9 ⟨SN9,BF9,v8,v9,B9,_,rfl⟩;refine XX _ _ ?_;clear XX c1;have B9:SB L Bs RR H7 H9 ps pb SN BF (2*(i+1)) (60*i) SN9 BF9:=B9.mono (by simp only[length_cons,length_nil];lia) (bb _);simp only[cons_append,nil_append];refine lG (j:=i) (λR r=>by nofun;exact r) ⋯ ⋯ (U3 L Bs RR H7 ps pb SN BF (2*(i+1)) (60*i) [some (.ref x),some (.ref XN),some (.ref ps),some (.ref pb),some (.ref p4),some (.ref p5),some (.ref p6),some (.int i),v8,v9]) ⟨SN9,BF9,v10,B9,rfl⟩ ?_ ?_
  .rintro i2 Y H' hi2 ⟨X7,Yc,v10,B',rfl⟩;have h2:i2<i:=by lia
   obtain⟨m2,hm2⟩:=some_at (l:=zs) (i:=i2) ⋯;obtain⟨q2,y2,ey2,Jy2,ty2⟩:=put m2 (dy hm2);have zt2:((zs.map (au kvs)).map av)[((i2:Nat):Int).toNat]?=some (av (au kvs m2)):=by rw[cn,cn];show ((zs[i2]?).map _).map av=_;rw[hm2];rfl
   have lt:m2<m:=by
    have h1:=ma.mp Z.up i2 i ⋯ YG h2;obtain⟨_,a2⟩:=bo.mp hm2;obtain⟨_,b2⟩:=bo.mp hm;rw[a2,b2] at h1;exact h1
   have e5':=B'.old e57 n5s n5b;simp only[cons_append,nil_append,aF,set_cons_zero,set_cons_succ];refine aM λc1 XX=>?_;refine ff λ_ _ _ hB=>?_;nofun;refine bR (v:=av (au kvs m)) (bw.of e5') ⋯ zt (bR (v:=av (au kvs m2)) (bw.of e5') ⋯ zt2 ⟨by decide,λt1 ht1=>?_⟩);have w1:=aG.up H' ht1 (o:=.tup [av (au kvs m),av (au kvs m2)]);have g1:(upd H' t1 (.tup [av (au kvs m),av (au kvs m2)])) t1=some (.tup ([Key.inr (txt (au kvs m)),Key.inr (txt (au kvs m2))].map kV)):=aq;generalize upd H' t1 _=Hf at w1 g1 ⊢;have Bf:=B'.same w1;have no:=Bf.bi.no G hL I T.le ey2 ey Jy2 Jy lt;rw[ty,ty2] at no;refine⟨pb,_,rfl,g9.t Bf.eb g1,bK ?_⟩;rw[no,cq .(4)];refine hB _ _ (XX _ _ ?_);clear hB XX;simp? [fU]
   refine bR (v:=av (au kvs m2)) (bw.of (w1 _ _ e5')) ⋯ zt2 (bR (v:=av (au kvs m)) (bw.of (w1 _ _ e5')) ⋯ zt ⟨by decide,λt2 YT=>?_⟩);have w2:=aG.up Hf YT (o:=.tup [av (au kvs m2),av (au kvs m)]);have g2:(upd Hf t2 (.tup [av (au kvs m2),av (au kvs m)])) t2=some (.tup ([Key.inr (txt (au kvs m2)),Key.inr (txt (au kvs m))].map kV)):=aq;generalize upd Hf t2 _=Hg at w2 g2 ⊢;have Bg:=Bf.same w2;refine⟨_,oH.t Bg.eb g2 (by rw[dE];have:=Bg.lb;lia),_,_,_,⟨Bg.k.upd (.inl .(4)),by rw[aH nsb];exact Bg.es,aq,Bg.si,λz hz=>?_,Bg.ls,by have:=Bg.lb;have:=fy Yc [Key.inr (txt (au kvs m2)),Key.inr (txt (au kvs m))] (.bl true);lia⟩,rfl⟩
   rcases zP hz with hz|rfl
   .exact Bg.bi z hz
   .exact⟨n,_,_,y2,y,m2,m,T.le,ey2,ey,Jy2,Jy,lt,by rw[ty,ty2]⟩
  rintro Y HA ⟨SNA,BFA,v10,BA,rfl⟩;exact⟨SNA,BFA,_,_,_,_,BA.mono (bb _) (by rw[ij];lia),rfl⟩
 rintro Y HB ⟨X7,Yc,v7,v8,v9,v10,B',rfl⟩;refine hc _ _ ?_;nofun;rw[ij] at B';refine fin HB X7 Yc (λy o w z=>B'.k _ _ (YU _ _ w) z) B'.es B'.eb B'.si B'.bi (by have:=B'.ls;lia) (by have:=B'.lb;lia)
end K91
namespace K91
open PySem PySem.Spec PyProof.Rows L2 MM
section
variable{C:θ}{A0 B H:Hp}{L h:Nat}{S:KS}{pu:Nat->Nat}{Kt:Nat->Nat->Prop}{fm:Nat->HR}{g:Nat->GR}{q:Nat->θ}{Gn:Nat->VF}{ph pm pg ps pb:θ}{SN BF:VI (VI Key×V)}{st w i:Nat}
theorem _root_.L2.Wl.zY(W:Wl C A0 B H L h S pu Kt fm g q Gn ph pm pg ps pb SN BF st w)(hi:i<h)(lc:S.c<=30)(ls:S.sz<=30):S.Bs.length<=30/\S.Ts.length<=30/\S.RR.length<=30/\(S.RR.take (S.f i).n).length=(S.f i).n/\(S.f i).n<=30/\2<=L/\L<=26/\(S.f i).kvs.length<=30/\(S.f i).ks.length<=30:=by
 have e:S.sz=S.Bs.length+S.Ts.length+S.RR.length:=rfl;have nl:=W.T.nl i hi;have tl:=(W.T.hk i hi).tl;exact⟨by lia,by lia,by lia,W.T.rl hi,by lia,(W.T.hs i hi).l2,(W.T.hs i hi).l26,by lia,by lia⟩
end
theorem _root_.L2.Wl.next{C:θ}{A0 B H:Hp}{L h:Nat}{S:KS}{pu:Nat->Nat}{Kt:Nat->Nat->Prop}{fm:Nat->HR}{g:Nat->GR}{q:Nat->θ}{Gn:Nat->VF}{ph pm pg ps pb:θ}{SN BF:VI (VI Key×V)}{st w:Nat}(W:Wl C A0 B H L h S pu Kt fm g q Gn ph pm pg ps pb SN BF st w):Wl C A0 B H L h S pu Kt fm g q Gn ph pm pg ps pb SN BF (st+1) w:=
 {W with nm:=λb hb=>(W.nm b hb).elim λk h=>⟨k,Hm h.1,h.2⟩ }
theorem gp{C:θ}{H0 H:Hp}{L h c:Nat}{Bs:VI dY}{Ts:VI oY}{RR:VI (VI bG)}{N i:Nat}{f:Nat->HR}{Q:VK}{E:XK}(T:eY C H0 H L h c Bs Ts RR N f)(hi:i<N)(hk:(f i).kvs.length<64)(q:∀H' p zs,aG H H'->H p=none->gG (f i).kvs (f i).ks zs->H' p=some (.lst ((zs.map (au (f i).kvs)).map av))->Q (.ref p) H'):cV C [.ref (f i).x] H Q E:=
 ⟨_,_,_,_,_,_,_,_,_,_,T.hnd i hi,hk,(T.hk i hi).kw.nd,q⟩
theorem jZ{C:θ}{H0 H:Hp}{L h c:Nat}{Bs:VI dY}{Ts:VI oY}{RR:VI (VI bG)}{N i:Nat}{f:Nat->HR}{Q:VK}{E:XK}(T:eY C H0 H L h c Bs Ts RR N f)(hi:i<N)(hk:(f i).kvs.length<64)(q:∀H' p zs,aG H H'->H p=none->gG (f i).kvs (f i).ks zs->H' p=some (.lst (zs.map av))->Q (.ref p) H'):dB C [.ref (f i).x] H Q E:=
 ⟨_,_,_,_,_,_,_,_,_,_,T.hnd i hi,hk,(T.hk i hi).kw.nd,λH' p zs s fp up mem=>q _ p zs (s.new fp) (s.bg fp) ⟨up,mem⟩ aq⟩
theorem yd{L h j n w:Nat}{kvs:VG}{ks zs XT:VF}{m t:VE}{p k b:Nat}{v:VH}(W:gC L kvs ks k b)(hb:b<=999)(D:jO L h j)(Z:gG kvs ks zs)(hp:p<=zs.length)(FB:jE kvs (dN zs p) v)(Fo:Found L (bu L h j) (dN zs p) v n w m)(nm:¬m∈kvs.map (·.1))(Z':gG (kvs++[(m,t)]) ks XT):XT=zs.take p++m::zs.drop p:=by
 have inl:∀l,dN zs p=some l->l∈zs:=λl e=>by
  unfold dN at e;split at e
  .cases e
  .exact dy e
 obtain⟨mo,_,_⟩:=FB.marks W hb λl e=>((Z.mem l).mp (inl l e)).1;obtain⟨_,_,lo,hi⟩:=Fo.RT D mo FB.ok;have up:=Z.up;have lt1:∀y∈zs.take p,y<m:=λy hy=>by
  obtain⟨a,ha,e⟩:=Wx.mp hy;have hap:a<p:=by lia
  have hl:dN zs p=some zs[p-1]:=by
   unfold dN;rw[cq ⋯,dk]
  have h1:=lo _ hl
  by_cases z:a=p-1
  .subst z;rw[<-e];exact h1
  .have h2:=ma.mp up a (p-1) ⋯ ⋯ ⋯;rw[<-e];exact ke h2 h1
 have lt2:∀y∈zs.drop p,m<y:=λy hy=>by
  obtain⟨a,ha,e⟩:=List.mem_drop_iff_getElem.mp hy;have Z3:=((Z.mem y).mp (OK hy)).1;have beh:iC (dN zs p) y=true:=by
   unfold iC dN
   by_cases z:p=0
   .rw[df z]
   .rw[cq z,dk ⋯];have h2:=ma.mp up (p-1) (p+a) ⋯ ⋯ ⋯;rw[e] at h2;exact dr h2
  cases v with
  |none=>rw[FB.no rfl y Z3] at beh;cases beh
  |some u=>
   have h3:=hi u rfl;have h4:=(FB.yes u rfl).2.2 y Z3 beh
   by_cases z:u<y
   .exact ke h3 z
   .rw[show y=u from WH (xt.mp z) (xt.mp h4)];exact h3
 have up2:(zs.take p++m::zs.drop p).Pairwise (·<·):=by
  rw[List.pairwise_append,Hk];refine⟨up.sublist (List.take_sublist _ _),⟨lt2,up.sublist (List.drop_sublist _ _)⟩,λx hx y hy=>?_⟩
  rcases gL.mp hy with rfl|hy
  .exact lt1 x hx
  .exact ke (lt1 x hx) (lt2 y hy)
 refine fD ((my (bJ Z'.up) (bJ up2)).mpr λx=>?_) Z'.up up2;have e1:x∈zs.take p++m::zs.drop p↔x∈zs\/x=m:=by
  rw[eP,gL];have:=eP (a:=x) (s:=zs.take p) (t:=zs.drop p);rw[yn] at this;rw[this];constructor
  .rintro(h|h|h)
   .exact .inl (.inl h)
   .exact .inr h
   .exact .inl (.inr h)
  .rintro((h|h)|h)
   .exact .inl h
   .exact .inr (.inr h)
   .exact .inr (.inl h)
 rw[e1,Z'.mem x,Z.mem x,fi,eP];constructor
 .rintro⟨h|h,k⟩
  .exact .inl ⟨h,k⟩
  .exact .inr (bc.mp h)
 .rintro(⟨h,k⟩|rfl)
  .exact⟨.inl h,k⟩
  .exact⟨.inr bp,λz=>nm (W.sub _ z)⟩
theorem rQ{m t x:VE}:∀{kvs:VG},au (kvs++[(m,t)]) x=if x∈kvs.map (·.1) then au kvs x else if m=x then t else au [] x
 |[]=>by simp[au]
 |kv::kvs=>by
  show (if kv.1=x then kv.2 else au (kvs++[(m,t)]) x)=_
  by_cases z:kv.1=x
  .rw[df z,df (by rw[lj,z];exact bp)];show _=if kv.1=x then kv.2 else _
   rw[df z]
  .rw[cq z,rQ];have:x∈(kv::kvs).map (·.1)↔x∈kvs.map (·.1):=by
    rw[lj,gL];exact⟨λh=>h.elim (λe=>absurd e.symm z) id,.inr⟩
   by_cases y:x∈kvs.map (·.1)
   .rw[df y,df (this.mpr y)];show _=if kv.1=x then kv.2 else _
    rw[cq z]
   .rw[cq y,cq (λh=>y (this.mp h))]
theorem LG{D:VF}{t:VE}(h:¬t∈D):putK (cF D) (Key.inr (txt t)) (.bl true)=cF (D++[t]):=by
 rw[jJ _ (by
  have:=jD t D;rw[eQ h] at this;cases w:ck (cF D) (Key.inr (txt t)) with
  |none=>rfl
  |some v=>rw[w] at this;cases this)]
 unfold cF;rw[fi];rfl
theorem LH{K:PySem.W.Frag}{a:Ad}{N:VI Str}{vs:VI V}{H:Hp}{Q:VK}{E:XK}(hN:N.length=10)(hh:Fj K a.az vs H Q E):zV K a {nx:=λ_ H'=>Q .non H',rt:=Q} .(3) H:=by
 obtain⟨sc,ph,pm,pg,ps,pb,ns,A0,B,L,h,S,pu,Kt,g,q,Gn,SN,BF,k,i,w,hS,hl,hk,W,hi,lc,ls,fin⟩:=hh;obtain⟨b1,b2,b3,b4,b5,b6,b7,b8,b9⟩:=W.zY hi lc ls;have hS0:=(W.b0.trans W.T.bs).seq hS;have KW:=(W.T.hk i hi).kw;unfold zV L2.start;rw[hN];simp only[set_cons_zero,set_cons_succ,replicate_succ,replicate_zero,map_cons,map_nil,cons_append,nil_append,length_cons,length_nil,Nat.reduceAdd,Nat.reduceSub];refine aR λc hc=>?_;refine bD (W.T.hnd i hi) (λR r=>r) rfl ?_;nofun;refine gp W.T hi ⋯ λH1 p6 zs s1 f6 Z e6=>hc _ _ ?_;clear hc c;have W1:=W.same s1;have YX:=s1.seq hS0;have zl:zs.length<=30:=by
  have:=bQ (bJ Z.up) (λm hm=>((Z.mem m).mp hm).1);rw[aw] at this;lia
 have tl:((zs.map (au (S.f i).kvs)).map av).length=zs.length:=by rw[aw,aw]
 simp only[set_cons_zero,set_cons_succ];refine aR λc hc=>?_;nofun;refine cJ (bw.of e6) (kK ?_);rw[tl];refine⟨sc,ns,_,_,YX,hl,by lia,by lia,by lia,λp p0 p1=>hc _ _ ?_⟩;clear hc c;simp only[set_cons_zero,set_cons_succ];refine aM λc hc=>?_;suffices main:∀p:Nat,p<=zs.length->c [some (.ref sc),some (.int k),some (.ref (S.f i).x),some (.int i),some (.int h),some (.ref pm),some (.ref p6),some (.int p),none,none] H1 by
  obtain⟨p,rfl⟩:=kd p0;nofun;refine⟨sc,ns,_,_,YX,hl,by decide,by decide,by decide,λr5 _ _=>⟨rfl,?_⟩⟩
  have m0:=main p ⋯
  by_cases z:V.int r5=V.int 1
  .rw[df z];refine⟨sc,ns,_,_,YX,hl,by lia,by lia,by decide,λr6 _ _=>(kK ?_)⟩
   by_cases y:(0:Int)<r6
   .rw[df y];refine cJ (bw.of e6) ⟨_,_,rfl,?_⟩;rw[tl];have e:(if ((zs.length:Nat):Int)<1 then((zs.length:Nat):Int) else 1)=((min 1 zs.length:Nat):Int):=by split<;>lia
    rw[e];exact main _ (Xe _ _)
   .rw[cq y];exact m0
  .rw[cq z];exact m0
 intro p hp;refine hc _ _ ?_;clear hc c p0 p1;refine aR λc hc=>?_;nofun;have lg:(k:Int).natAbs.log2<1920:=by
  rw[Int.natAbs_natCast];exact Nat.lt_of_le_of_lt (Nat.log2_le_self k) ⋯
 refine⟨_,rfl,lg,?_⟩;rw[<-E7 k];refine⟨_,_,rfl,rfl,by rw[dE];have:=(PZ k ⋯).2.2;simp only[length_cons,length_nil];lia,hc _ _ ?_⟩;clear hc c;show aJ _ _ _ [some (.ref sc),some (.int k),some (.ref (S.f i).x),some (.int i),some (.int h),some (.ref pm),some (.ref p6),some (.int p),some (.str (txt (tN k))),none] H1;have th:Thing (tN k):=KH ⋯;refine aR λc hc=>?_;refine bD (W1.T.hnd i hi) (λR r=>r) rfl ?_;nofun;refine eY.put W1.T hi ⋯ ⋯ th λXT Z'=>?_;cases Z.one Z';refine⟨⟨rh _,by lia⟩,λH4 v n w' m FB Fo T4 k4=>hc _ _ ?_⟩;clear hc c;rw[ij] at FB Fo;simp only[set_cons_zero,set_cons_succ];have A4:=W.M.l.same T4.bs;have nD:¬tN k∈(g i).D:=λz=>by
  obtain⟨x,hx⟩:=(W.M.dm i hi _).mp z;obtain⟨k',b',_,eb,_,q'⟩:=((W.nt hi).mem _).mp hx;obtain⟨k2,h2,e2⟩:=W.nm b' (dy eb);have:=KJ ⋯ ⋯ (e2.symm.trans q');lia
 have dl:(g i).D.length<=30:=by
  have h1:=bQ (W.M.dn i hi) (λt ht=>by
   obtain⟨m,hm⟩:=(W.M.dm i hi t).mp ht;exact km.mpr ⟨_,hm,rfl⟩:∀t∈(g i).D,t∈(S.f i).kvs.map (·.2))
  rw[aw] at h1;lia
 refine aM λc hc=>?_;simp? [fU]
 refine bR (v:=.ref (g i).t) (bw.of A4.lm) (rh _) (iz hi) (bB (v:=.ref (g i).d) (fT.of (A4.tp i hi)) .(0) rfl ⟨(g i).d,rfl,_,oH.k (k:=Key.inr (txt (tN k))) (A4.dd i hi) (by unfold cF;rw[aw,dE];lia),hc _ _ ?_⟩);clear hc c;rw[LG nD];have k5:Keeps [(g i).d] H4 (upd H4 (g i).d (.dK (cF ((g i).D++[tN k])))):=Keeps.upd (λ_ _ e _=>e) (.inl bp);have e5:(upd H4 (g i).d (.dK (cF ((g i).D++[tN k])))) (g i).d=some (.dK (cF ((g i).D++[tN k]))):=aq;generalize upd H4 (g i).d _=H5 at k5 e5 ⊢;have en:=Fo.end_ b6;obtain⟨B',pu',W5⟩:=W1.put hi ⋯ en T4 k5 e5;have nmk:¬m∈(S.f i).kvs.map (·.1):=λz=>by
  have:=(T4.hk i hi).kw.nd;rw[aB,fi,uj] at this;exact this.2.2 m z m bp rfl
 have e64:H4 p6=some (.lst ((zs.map (au (S.f i).kvs)).map av)):=(k4 p6 (W.T.fresh f6 0 W.T.pos).2.2.2).1 _ e6;have e65:=k5 _ _ e64 (j5 (gc e64 (A4.dd i hi) nofun));obtain⟨S5,eS⟩:∃S5:KS,S5=⟨S.c+1,S.Bs++[((S.f i).n,m,tN k)],S.Ts,S.RR,dZ S.f i {S.f i with kvs:=(S.f i).kvs++[(m,tN k)],kn:=λk=>(S.f i).kn k\/k=S.Bs.length}⟩:=⟨_,rfl⟩;have kv5:(S5.f i).kvs=(S.f i).kvs++[(m,tN k)]/\(S5.f i).ks=(S.f i).ks/\(S5.f i).x=(S.f i).x:=by
  rw[eS];show (dZ _ _ _ i).kvs=_/\(dZ _ _ _ i).ks=_/\(dZ _ _ _ i).x=_;rw[aB];exact⟨rfl,rfl,rfl⟩
 have c5:S5.c=S.c+1:=by rw[eS]
 have z5:S5.sz=S.sz+1:=by
  rw[eS];show (S.Bs++[_]).length+S.Ts.length+S.RR.length=S.Bs.length+S.Ts.length+S.RR.length+1;rw[de];simp only[length_cons,length_nil];lia
 have W5:Wl a.az A0 B' H5 L h S5 pu' Kt S5.f (gD g i {g i with D:=(g i).D++[tN k] }) q Gn ph pm pg ps pb SN BF (k+1) w:=by rw[eS];exact W5
 clear eS;have l5:(S5.f i).kvs.length<64:=by rw[kv5.1,de];simp only[length_cons,length_nil];lia
 have Zd:∀{y:VE},y∈zs->(y,au (S.f i).kvs y)∈(S.f i).kvs:=λhy=>cW _ ((Z.mem _).mp hy).1;have ZJ:∀y∈zs.map (au (S.f i).kvs),PyData.strOk (txt y)=true:=λy hy=>by
  obtain⟨x,hx,rfl⟩:=km.mp hy;exact ie (KW.mar _ (Zd hx)).2.2
 refine aM λc hc=>?_;refine ff λ_ _ _ hB=>?_;nofun;rw[<-kv5.2.2];refine bD (W5.T.hnd i hi) (λR r=>r) rfl ?_;nofun;refine gp W5.T hi l5 λH6 p7 ys s6 f7 a7 e7=>?_;rw[kv5.1,kv5.2.1] at a7;have ey:=yd KW ⋯ (W.T.hs i hi) Z hp FB Fo nmk a7;have et:ys.map (au (S5.f i).kvs)=(zs.map (au (S.f i).kvs)).take p++tN k::(zs.map (au (S.f i).kvs)).drop p:=by
  have e1:∀x∈zs,au (S5.f i).kvs x=au (S.f i).kvs x:=λx hx=>by rw[kv5.1,rQ,df ((Z.mem x).mp hx).1]
  have e2:au (S5.f i).kvs m=tN k:=by rw[kv5.1,rQ,cq nmk,df rfl]
  rw[ey,fi,lj,e2,<-map_take,<-map_drop];congr 1
  .exact ot λx hx=>e1 x (We hx)
  .congr 1
   exact ot λx hx=>e1 x (OK hx)
 rw[et] at e7;have e66:=s6 _ _ e65;have zp:p<=((zs.map (au (S.f i).kvs)).map av).length:=by rw[tl];exact hp
 refine rC (bw.of e66) λpa ha=>?_;rw[zz zp];have sa:=aG.up H6 ha (o:=.lst (((zs.map (au (S.f i).kvs)).map av).take p));have ea:(upd H6 pa (.lst (((zs.map (au (S.f i).kvs)).map av).take p))) pa=some (.lst (((zs.map (au (S.f i).kvs)).map av).take p)):=aq;generalize upd H6 pa _=Ha at sa ea ⊢;refine⟨by decide,λpc Zb=>?_⟩;have sb:=aG.up Ha Zb (o:=.lst [.str (txt (tN k))]);have eb:(upd Ha pc (.lst [.str (txt (tN k))])) pc=some (.lst [.str (txt (tN k))]):=aq;generalize upd Ha pc _=Hb at sb eb ⊢;refine⟨pa,pc,_,_,rfl,rfl,sb _ _ ea,eb,by rw[fg,dE];simp only[length_cons,length_nil];lia,λpd hd=>?_⟩;have sd:=aG.up Hb hd (o:=.lst (((zs.map (au (S.f i).kvs)).map av).take p++[.str (txt (tN k))]));have ed:(upd Hb pd (.lst (((zs.map (au (S.f i).kvs)).map av).take p++[.str (txt (tN k))]))) pd=some (.lst (((zs.map (au (S.f i).kvs)).map av).take p++[.str (txt (tN k))])):=aq;generalize upd Hb pd _=Hd at sd ed ⊢;have s6d:=(sa.trans sb).trans sd;refine rC (bw.of (s6d _ _ e66)) λpe he=>?_;rw[rB zp];have se:=aG.up Hd he (o:=.lst (((zs.map (au (S.f i).kvs)).map av).drop p));have ee:(upd Hd pe (.lst (((zs.map (au (S.f i).kvs)).map av).drop p))) pe=some (.lst (((zs.map (au (S.f i).kvs)).map av).drop p)):=aq;generalize upd Hd pe _=He at se ee ⊢;refine⟨pd,pe,_,_,rfl,rfl,se _ _ ed,ee,by rw[de,fg,TB,dE];simp only[length_cons,length_nil];lia,λpf hf=>?_⟩;have el:((zs.map (au (S.f i).kvs)).map av).take p++[.str (txt (tN k))]++((zs.map (au (S.f i).kvs)).map av).drop p=((zs.map (au (S.f i).kvs)).take p++tN k::(zs.map (au (S.f i).kvs)).drop p).map av:=by
  rw[fi,lj,map_take,map_drop,Pt];rfl
 rw[el];have sf:=aG.up He hf (o:=.lst (((zs.map (au (S.f i).kvs)).take p++tN k::(zs.map (au (S.f i).kvs)).drop p).map av));have ef:(upd He pf (.lst (((zs.map (au (S.f i).kvs)).take p++tN k::(zs.map (au (S.f i).kvs)).drop p).map av))) pf=some (.lst (((zs.map (au (S.f i).kvs)).take p++tN k::(zs.map (au (S.f i).kvs)).drop p).map av)):=aq;generalize upd He pf _=Hf at sf ef ⊢;have Sl:=(s6d.trans se).trans sf;have okA:∀y∈(zs.map (au (S.f i).kvs)).take p++tN k::(zs.map (au (S.f i).kvs)).drop p,PyData.strOk (txt y)=true:=λy hy=>by
  rcases eP.mp hy with hy|hy
  .exact ZJ y (We hy)
  .rcases gL.mp hy with rfl|hy
   .exact ie th
   .exact ZJ y (OK hy)
 refine⟨p7,pf,_,_,rfl,rfl,bw.of (Sl _ _ e7),bw.of ef,okA,okA,?_⟩;rw[dr rfl];refine(bK ?_);rw[cq .(0)];have W7:=W5.same (s6.trans Sl);refine bD (W7.T.hnd i hi) (λR r=>r) rfl ?_;nofun;refine jZ W7.T hi l5 λH8 p8 ys8 s8 f8 Y8 e8=>?_;rw[kv5.1,kv5.2.1] at Y8;have ey8:=yd KW ⋯ (W.T.hs i hi) Z hp FB Fo nmk Y8;have at8:(ys8.map av)[((p:Nat):Int).toNat]?=some (av m):=by
  rw[ey8,ij,fi,lj,kf (by rw[aw,fg];lia),aw,fg,oe hp,SF];rfl
 refine bR (v:=av m) (bw.of e8) (rh _) at8 ⟨rfl,?_⟩;rw[cq (by simp[av])];refine hB _ _ (hc _ _ ?_);clear hB hc;have W8:=W7.same s8;have mk:=(T4.hk i hi).kw.mar (m,tN k) (by rw[aB];exact dC _ bp);obtain⟨cc,ec,hcc⟩:=en;obtain⟨i',hi1,hi2,hi3⟩:=iN.mp hcc;have nem:m≠[]:=mk.1.ne;have ml:m.length<=1000:=by have:=mk.2.1;rw[aB] at this;have:m.length<=S.c+1+8*(S.RR.take (S.f i).n).length:=this;lia
 have ml0:0<m.length:=Fh.mpr nem;nofun;refine⟨rfl,⟨m,rfl,by rw[dE];lia,kK ?_⟩⟩;have Sm:m[(((m.length:Nat):Int)-1).toNat]?=some cc:=by
  rw[show (((m.length:Nat):Int)-1).toNat=m.length-1 by lia,<-List.getLast?_eq_getElem?]
  exact ec
 refine yJ ⋯ ⋯ Sm (qO ⋯ ⋯ (kK ⟨by have:=W.T.pos;lia,rfl,?_⟩));have jj:=W.jn i hi;have er:(((cc-97:Nat):Int)-1)%(h:Int)=(i:Int):=by
  rw[hi3,show ((98+i'-97:Nat):Int)-1=((i':Nat):Int) by lia,<-PH,hi2,jj]
 rw[dr er];exact fin _ _ _ _ _ _ _ _ W8 ⋯ ⋯
end K91
namespace K91
open PySem PySem.Spec PyProof.Rows L2 MM
theorem NR{H:Hp}{a:θ}{D:VF}{t:VE}{Q:VK}(e:H a=some (.dK (cF D)))(ht:t∈D)(q:∀v,Q v (upd H a (.dK (cF (D.filter λx=>decide (x≠t)))))):xY (.ref a) [.str (txt t)] H Q:=by
 refine⟨a,_,Key.inr (txt t),rfl,e,?_⟩;cases hv:ck (cF D) (Key.inr (txt t)) with
 |some v=>
  refine .inl ⟨v,.inl rfl,rfl,?_⟩;rw[Fv];exact q v
 |none=>
  have:=jD t D;rw[hv,dr ht] at this;cases this
def U4(H:Hp)(d:θ)(D E:VF)(σ0:VI (ο V)):Nat->L2.St->Hp->Prop:=λj Y H'=>∃v7 D',Keeps [d] H H'/\H' d=some (.dK (cF D'))/\D'.Nodup/\(∀x,x∈D'↔x∈D/\¬x∈E.take j)/\Y=σ0++[v7,none,none]
def Sn(L cnt:Nat)(H:Hp)(σ0:VI (ο V)):Nat->L2.St->Hp->Prop:=λm Y H'=>∃j,H'=H/\m=cnt+1-j/\j<=cnt+1/\(∀i,i<j->L^i<=cnt)/\Y=σ0++[some (.int (L^j:Nat)),some (.int j)]
theorem D4{K:PySem.W.Frag}{a:Ad}{N:VI Str}{vs:VI V}{H:Hp}{Q:VK}{E:XK}(hN:N.length=10)(hh:um K a.az vs H Q E):iJ K a {nx:=λ_ H'=>Q .non H',rt:=Q} .(3) H:=by
 obtain⟨ph,pm,pg,ps,pb,A0,B,L,h,S,pu,Kt,g,q,Gn,SN,BF,k,w,W,lc,ls,fin⟩:=hh;have h0:=W.T.pos;obtain⟨b1,b2,b3,b4,b5,b6,b7,b8,b9⟩:=W.zY h0 lc ls;have KW:=(W.T.hk 0 h0).kw;unfold iJ L2.start;rw[hN];simp only[set_cons_zero,set_cons_succ,replicate_succ,replicate_zero,map_cons,map_nil,cons_append,nil_append,length_cons,length_nil,Nat.reduceAdd,Nat.reduceSub];refine aR λc hc=>?_;refine bD (W.T.hnd 0 h0) (λR r=>r) rfl ?_;nofun;refine gp W.T h0 ⋯ λH1 p4 zs s1 f4 Z e4=>hc _ _ ?_;clear hc c;have W1:=W.same s1;simp only[set_cons_zero,set_cons_succ];refine aR λc hc=>?_;refine bD (W1.T.hnd 0 h0) (λR r=>r) rfl ?_;nofun;refine eY.nV W1.T ⋯ ⋯ ⋯ λH2 ms n XN XS rr ys p5 AK IR T2 k2 e5 pr5 f5 n5 fr=>hc _ _ ?_;clear hc c;simp only[set_cons_zero,set_cons_succ];have A:=W.M.l;have A2:=A.same T2.bs;have e42:=(k2 p4 (W.T.fresh f4 0 h0).2.2.2).1 _ e4;have ngr:pg≠rr:=fresh_ne (W1.T.bs _ _ A.lg) fr;have U5:∀i,i<h->¬pg∈(dZ S.f 0 {S.f 0 with pt:=XN,pk:=XS,as:=(S.f 0).as++[rr],n:=S.RR.length+1,kvs:=c8 (S.f 0).kvs (bE L ms (S.f 0).ks n),ks:=[] } i).as:=λi hi=>by
  by_cases y:i=0
  .subst y;rw[aB];intro u
   rcases eP.mp u with u|u
   .exact W.go 0 hi u
   .exact ngr (bc.mp u)
  .rw[aL y];exact W.go i hi
 have El:(g 0).E.length<=30:=by
  have h1:=bQ (W.M.en 0 h0) (λt ht=>by
   obtain⟨m,_,hm⟩:=(W.M.em 0 h0 t).mp ht;exact km.mpr ⟨_,hm,rfl⟩:∀t∈(g 0).E,t∈(S.f 0).kvs.map (·.2))
  rw[aw] at h1;lia
 have ED:∀t∈(g 0).E,t∈(g 0).D:=λt ht=>by
  obtain⟨m,_,hm⟩:=(W.M.em 0 h0 t).mp ht;exact(W.M.dm 0 h0 t).mpr ⟨m,hm⟩
 refine aM λc hc=>?_;nofun;refine⟨.inl ⟨rfl,_,bw.of A2.lg⟩,bR (v:=.ref (g 0).t) (bw.of A2.lm) .(0) (iz h0) (bB (v:=.ref (g 0).e) (fT.of (A2.tp 0 h0)) .(0) rfl ⟨(g 0).e,_,rfl,A2.ee 0 h0,λp hp=>?_⟩)⟩;have eE:((cF (g 0).E).map λkv=>kV kv.1)=(g 0).E.map av:=by unfold cF;rw[mv];rfl
 rw[eE];have sp:=aG.up H2 hp (o:=.lst ((g 0).E.map av));have ep:(upd H2 p (.lst ((g 0).E.map av))) p=some (.lst ((g 0).E.map av)):=aq;generalize upd H2 p _=Hp at sp ep ⊢;refine xH (sp _ _ A2.lg) (by rw[Ff];lia) (hc _ _ ?_);clear hc c;rw[NL];have npg:p≠pg:=du (fresh_ne A2.lg hp);have k3:Keeps [pg] H2 (upd Hp pg (.lst (Ij (S.RR.length+1) (gD q S.RR.length p)))):=Keeps.upd (sp.keeps _) (.inl bp);have e3g:(upd Hp pg (.lst (Ij (S.RR.length+1) (gD q S.RR.length p)))) pg=some (.lst (Ij (S.RR.length+1) (gD q S.RR.length p))):=aq;have e3p:(upd Hp pg (.lst (Ij (S.RR.length+1) (gD q S.RR.length p)))) p=some (.lst ((g 0).E.map av)):=by rw[aH npg];exact ep
 generalize upd Hp pg _=H3 at k3 e3g e3p ⊢;obtain⟨T3,kB3⟩:=T2.Ii k3 (λt ht=>by
  rw[bc.mp ht];exact⟨_,A.lg,(nofun),(nofun),U5⟩)
 have lb3:=A.more kB3 (dO e3g (T2.ne A.lg)) (dO e3p (T2.fresh hp)) (T2.bs.bg hp);have A3:=lb3.same T3.bs;have b03:aG A0 (rL h (dZ S.f 0 {S.f 0 with pt:=XN,pk:=XS,as:=(S.f 0).as++[rr],n:=S.RR.length+1,kvs:=c8 (S.f 0).kvs (bE L ms (S.f 0).ks n),ks:=[] }) H3):=cj W.b0 kB3 (λt ht=>by rw[bc.mp ht];exact W.z.2.1)
 have lh3:=kB3 _ _ W.lh (j5 W.hg);have e43:=k3 _ _ e42 (j5 (du (fresh_ne (W.T.bs _ _ A.lg) f4)));have n5g:p5≠pg:=du (fresh_ne (W1.T.bs _ _ A.lg) f5);have e53:=k3 _ _ e5 (j5 n5g);have U6:=pr5.keep (H':=H3) λt us e=>k3 _ _ e (j5 (gc e A2.lg nofun));refine aR λc hc=>?_;nofun;refine bR (v:=.ref (g 0).t) (bw.of A3.lm) .(0) (iz h0) (bB (v:=.ref (g 0).d) (fT.of (A3.tp 0 h0)) .(0) rfl ⟨(g 0).d,_,rfl,A3.dd 0 h0,λd hd=>hc _ _ ?_⟩);clear hc c;have s4:=aG.up H3 hd (o:=.dK (cF (g 0).D));have e4d:(upd H3 d (.dK (cF (g 0).D))) d=some (.dK (cF (g 0).D)):=aq;generalize upd H3 d _=H4 at s4 e4d ⊢;simp only[set_cons_zero,set_cons_succ];have A4:=A3.same s4;have npd:p≠d:=fresh_ne e3p hd;refine aM λc hc=>?_;refine rZ (a:=p) (xs:=(g 0).E.map av) (λR r=>by
  nofun;refine cJ (bw.of A4.lg) ?_;rw[Ff];exact(kK (bR (i:=((S.RR.length+1:Nat):Int)-1) (v:=.ref p) (bw.of A4.lg) ⋯ (by rw[show ((((S.RR.length+1:Nat):Int)-1).toNat)=S.RR.length by lia,KG (vT _),aS]) r))) (bw.of (s4 _ _ e3p)) (U4 H4 d (g 0).D (g 0).E [some (.ref (S.f 0).x),some (.int L),some (.ref pm),some (.ref pg),some (.ref p4),some (.ref p5),some (.ref d)]) ⟨none,_,λ_ _ e _=>e,e4d,W.M.dn 0 h0,λx=>⟨λz=>⟨z,λy=>by rw[List.take_zero] at y;cases y⟩,λz=>z.1⟩,rfl⟩ (λj Y H' _ z=>by
   obtain⟨_,_,z,_⟩:=z;exact bw.of (z _ _ (s4 _ _ e3p) (j5 npd))) ?_ ?_
 .rintro j x Y H' hx ⟨v7,D',kD,eD,nD,mD,rfl⟩;rw[cn] at hx;obtain⟨t,ht,rfl⟩:=eM.mp hx;have X6:(g 0).E.take (j+1)=(g 0).E.take j++[t]:=by rw[md,ht];rfl
  have nt:¬t∈(g 0).E.take j:=λz=>by
   obtain⟨b,hb,e⟩:=Wx.mp z;obtain⟨h1,h2⟩:=bo.mp ht;have h3:(g 0).E[b]?=(g 0).E[j]?:=by rw[ht,dk ⋯,e]
   have:=(WM ⋯ (W.M.en 0 h0)).mp h3;lia
  simp? [av,wt,Bi]
  refine⟨.inr (.inr (.inl ⟨rfl,.inl ⟨_,eD⟩⟩)),NR eD ((mD t).mpr ⟨ED t (dy ht),nt⟩) λv=>⟨_,_,kD.upd (.inl bp),aq,nD.filter _,λx=>?_,rfl⟩⟩;rw[pv,mD x,X6,xi,eP,not_or,bc];exact⟨λ⟨⟨a,b⟩,c⟩=>⟨a,b,c⟩,λ⟨a,b,c⟩=>⟨⟨a,b⟩,c⟩⟩
 rintro Y H5 ⟨v7,D',kD,eD,nD,mD,rfl⟩;refine hc _ _ ?_;clear hc c;rw[aw,lL] at mD;have k35:aG H3 H5:=cj (F:=[d]) s4 kD λb hb=>by rw[bc.mp hb];exact hd
 have A5:=A3.same k35;simp only[cons_append,nil_append];refine aM λc hc=>?_;simp? [GA,fz]
 refine bR (v:=.ref (g 0).t) (bw.of A5.lm) .(0) (iz h0) (bB (v:=.int ((S.f 0).n:Nat)) (fT.of (A5.tp 0 h0)) .(0) rfl (kK (λe he=>?_)));have se:=aG.up H5 he (o:=.dK []);have ee:(upd H5 e (.dK [])) e=some (.dK []):=aq;generalize upd H5 e _=He at se ee ⊢;refine⟨by decide,λt ht=>?_⟩;have n1:((S.f 0).n:Int)+1=((S.RR.length+1:Nat):Int):=by have:=W.T.n0;lia
 rw[n1];have st:=aG.up He ht (o:=.tup [.int (S.RR.length+1:Nat),.ref d,.ref e]);have et:(upd He t (.tup [.int (S.RR.length+1:Nat),.ref d,.ref e])) t=some (.tup [.int (S.RR.length+1:Nat),.ref d,.ref e]):=aq;generalize upd He t _=Ht at st et ⊢;have s5t:=se.trans st;have s3t:=k35.trans s5t;have lmt:=s3t _ _ A3.lm;refine NQ (i:=0) lmt (by rw[mY];exact h0) (hc _ _ ?_);clear hc c;have es:(o7 h g).set 0 (.ref t)=o7 h (gD g 0 ⟨t,d,e,D',[]⟩):=Fg (r:=⟨t,d,e,D',[]⟩) h0;rw[es];have nm:∀{y:θ} {u:HO},Ht y=some u->(∀xs,u≠.lst xs)->(upd Ht pm (.lst (o7 h (gD g 0 ⟨t,d,e,D',[]⟩)))) y=some u:=λw z=>by rw[aH (gc w lmt (z _))];exact w
 have nl:∀{y:θ} {u:HO},Ht y=some u->y≠pm->(upd Ht pm (.lst (o7 h (gD g 0 ⟨t,d,e,D',[]⟩)))) y=some u:=λw z=>by rw[aH z];exact w
 have k6:Keeps [pm] H3 (upd Ht pm (.lst (o7 h (gD g 0 ⟨t,d,e,D',[]⟩)))):=Keeps.upd (s3t.keeps _) (.inl bp);have e6m:(upd Ht pm (.lst (o7 h (gD g 0 ⟨t,d,e,D',[]⟩)))) pm=some (.lst (o7 h (gD g 0 ⟨t,d,e,D',[]⟩))):=aq;have e6t:=nm et nofun
 have e6d:=nm (s5t _ _ eD) nofun
 have e6e:=nm (st _ _ ee) nofun
 have e46:=nl (s3t _ _ e43) (du (fresh_ne (W.T.bs _ _ A.lm) f4));have e56:=nl (s3t _ _ e53) (du (fresh_ne (W1.T.bs _ _ A.lm) f5));have So:=U6.keep (H':=upd Ht pm (.lst (o7 h (gD g 0 ⟨t,d,e,D',[]⟩)))) λt us e=>nm (s3t _ _ e) nofun
 have nde:d≠e:=fresh_ne eD he;generalize upd Ht pm _=H6 at k6 e6m e6t e6d e6e e46 e56 So ⊢;have he3:=k35.bg he;have ht3:=k35.bg (se.bg ht);obtain⟨T6,kB6⟩:=T3.Ii k6 (λt ht=>by
  rw[bc.mp ht];exact⟨_,lb3.lm,(nofun),(nofun),λi hi=>KL h0 A3.lm (A3.tp 0 h0) (T3.ren i hi).row⟩)
 have fr6:∀{y:θ} {u:HO},H3 y=none->H6 y=some u->rL h _ H6 y=some u:=λn e=>dO e (T3.fresh n);have lb6:=lb3.anew (r:=⟨t,d,e,D',[]⟩) (n':=λk=>(dZ S.f 0 {S.f 0 with pt:=XN,pk:=XS,as:=(S.f 0).as++[rr],n:=S.RR.length+1,kvs:=c8 (S.f 0).kvs (bE L ms (S.f 0).ks n),ks:=[] } k).n) h0 kB6 (dO e6m (T3.ne lb3.lm)) (by
  show _=some (HO.tup [.int ((dZ S.f 0 {S.f 0 with pt:=XN,pk:=XS,as:=(S.f 0).as++[rr],n:=S.RR.length+1,kvs:=c8 (S.f 0).kvs (bE L ms (S.f 0).ks n),ks:=[] } 0).n:Nat),.ref d,.ref e])
  rw[aB];exact fr6 ht3 e6t) (fr6 hd e6d) (fr6 he3 e6e) (T3.bs.bg hd) (T3.bs.bg he3) nde λk hk=>by rw[aL hk]
 have b06:=cj b03 kB6 (λt ht=>by rw[bc.mp ht];exact W.z.1);obtain⟨Kt',W6⟩:=W.NO ⋯ ⋯ AK IR T6 lb6 b06 (kB6 _ _ lh3 (j5 W.hm)) nD rfl mD ngr ⟨b03.bg (T3.bs.bg hd),b03.bg (T3.bs.bg he3)⟩;have O2:=(ug KW b6 ⋯ ⋯ AK IR).1;clear T6 kB6 lb6 T3 kB3 lb3 T2 fr6 A5 A4 A3 A2;obtain⟨S6,eS⟩:∃S6:KS,S6=⟨S.c,S.Bs,S.Ts,S.RR++[bE L ms (S.f 0).ks n],dZ S.f 0 {S.f 0 with pt:=XN,pk:=XS,as:=(S.f 0).as++[rr],n:=S.RR.length+1,kvs:=c8 (S.f 0).kvs (bE L ms (S.f 0).ks n),ks:=[] }⟩:=⟨_,rfl⟩;have kv6:(S6.f 0).kvs=c8 (S.f 0).kvs (bE L ms (S.f 0).ks n)/\(S6.f 0).ks=[]/\(S6.f 0).x=(S.f 0).x:=by
  rw[eS];show (dZ _ _ _ 0).kvs=_/\(dZ _ _ _ 0).ks=_/\(dZ _ _ _ 0).x=_;rw[aB];exact⟨rfl,rfl,rfl⟩
 have c6:S6.c=S.c:=by rw[eS]
 have z6:S6.sz=S.sz+1:=by
  rw[eS];show S.Bs.length+S.Ts.length+(S.RR++[_]).length=S.Bs.length+S.Ts.length+S.RR.length+1;rw[de];simp only[length_cons,length_nil];lia
 obtain⟨B6,W6⟩:∃B6,Wl a.az A0 B6 H6 L h S6 pu Kt' S6.f (gD g 0 ⟨t,d,e,D',[]⟩) (gD q S.RR.length p) (gD Gn S.RR.length (g 0).E) ph pm pg ps pb SN BF k w:=⟨_,by rw[eS];exact W6⟩;clear eS;have tl6:=(W6.T.hk 0 h0).tl;have sB:S6.Bs.length<=S6.sz:=by show _<=S6.Bs.length+S6.Ts.length+S6.RR.length;lia
 have l6:(S6.f 0).kvs.length<64:=by lia
 have KW6:=(W6.T.hk 0 h0).kw;refine aR λc hc=>?_;nofun;refine hc _ _ ?_;clear hc c;simp only[set_cons_zero,set_cons_succ];refine aR λc hc=>?_;nofun;refine hc _ _ ?_;clear hc c;simp only[set_cons_zero,set_cons_succ];have zl:zs.length<=30:=by
  have:=bQ (bJ Z.up) (λm hm=>((Z.mem m).mp hm).1);rw[aw] at this;lia
 refine aM λc hc=>?_;refine pJ (Sn L zs.length H6 [some (.ref (S.f 0).x),some (.int L),some (.ref pm),some (.ref pg),some (.ref p4),some (.ref p5),some (.ref d),v7]) _ ⟨0,rfl,rfl,mi _,λi hi=>by lia,rfl⟩ ?_;rintro m Y H' ⟨j,rfl,rfl,hj,pw,rfl⟩ R hgo YC;simp? [wt,Bi]
 refine cJ (bw.of e46) (kK ?_);rw[aw,aw];have pos:0<L^j:=pow_pos ⋯;have jlt:j<L^j:=ip (Nat.lt_two_pow_self) (Wm b6 j)
 by_cases z:L^j<=zs.length
 .rw[dr (show ((L^j:Nat):Int)-1<(zs.length:Nat) by lia)]
  refine hgo _ ?_;refine aR λc1 XX=>?_;nofun;refine⟨gJ ⋯ ⋯,XX _ _ ?_⟩;clear XX c1;simp? [WV,WW]
  refine⟨zs.length+1-(j+1),by lia,j+1,rfl,rfl,by lia,λi hi=>?_,?_⟩
  .by_cases y:i=j
   .rw[y];exact z
   .exact pw i ⋯
  .rw[Wc,Fu];rfl
 .rw[eQ (show ¬((L^j:Nat):Int)-1<(zs.length:Nat) by lia)]
  refine YC _ (hc _ _ ?_);clear hgo YC hc;have IJ:eK L zs.length j:=⟨by lia,pw⟩;have ZJ:∀y∈zs.map (au (S.f 0).kvs),PyData.strOk (txt y)=true:=λy hy=>by
   obtain⟨x,hx,rfl⟩:=km.mp hy;exact ie (KW.mar _ (cW _ ((Z.mem x).mp hx).1)).2.2
  refine aM λc1 XX=>?_;refine ff λ_ _ _ hB=>?_;nofun;rw[<-kv6.2.2];refine bD (W6.T.hnd 0 h0) (λR r=>r) rfl ?_;nofun;refine gp W6.T h0 l6 λH7 p7 sh s7 f7 a7 e7=>?_;rw[kv6.1,kv6.2.1] at a7;obtain⟨sh1,sh2,sh3⟩:=Ik b6 AK IR Z a7;rw[kv6.1,sh2] at e7;have nj:n=j:=by rw[<-sh3] at IR;exact IR.one IJ
  refine⟨p7,p4,_,_,rfl,rfl,bw.of e7,bw.of (s7 _ _ e46),ZJ,ZJ,?_⟩;rw[dr rfl];refine bK ?_;rw[cq .(0)];have e57:=s7 _ _ e56;have Sq:=So.same s7;have yl:=Sq.len;rw[aw] at yl;have Rl:(bE L ms (S.f 0).ks n).length<=60:=(ug KW b6 ⋯ ⋯ AK IR).2.1;have okM:∀y∈sh,PyData.strOk (txt y)=true/\y.length<=n:=λy hy=>by
   rw[sh1,jU] at hy;have:=vK ⋯ IR y hy;exact⟨kH b7 this.1.ls,this.2⟩
  refine ve (a:=p5) (xs:=ys) (λR r=>r) (bw.of e57) (λi us H'=>H'=H7/\us=(((bE L ms (S.f 0).ks n).take i).filterMap (·.2)).map av) ⟨rfl,rfl⟩ (λi us H' _ z=>by
   obtain⟨rfl,rfl⟩:=z;refine⟨bw.of e57,?_⟩;rw[aw];refine eJ (WX _ _) ?_;rw[fg];exact Oy _ _) (by rw[dE];lia) ?_ ?_
  .rintro i x us H' hx ⟨rfl,rfl⟩ R hR;obtain⟨pp,tt,e1,rfl,ht⟩:=Sq.get hx;rw[cn] at e1;obtain⟨⟨o,v⟩,ey,rfl⟩:=eM.mp e1;have X6:(bE L ms (S.f 0).ks n).take (i+1)=(bE L ms (S.f 0).ks n).take i++[(o,v)]:=by rw[md,ey];rfl
   nofun;refine bB (v:=oV v) (fT.of ht) .(0) rfl ?_;cases v with
   |none=>
    simp? [oV]
    refine hR _ _ ⟨rfl,?_⟩;rw[X6,IH];simp
   |some v=>
    simp? [oV]
    refine bB (v:=.str (txt v)) (fT.of ht) .(0) rfl (hR _ _ ⟨rfl,?_⟩);rw[X6,IH,fi];simp[av]
  rintro us H' ⟨rfl,rfl⟩ p8 hp8;rw[yl,lL,<-sh1];have s8:=aG.up H' hp8 (o:=.lst (sh.map av));have e8:(upd H' p8 (.lst (sh.map av))) p8=some (.lst (sh.map av)):=aq;generalize upd H' p8 _=H8 at s8 e8 ⊢;have W8:=(W6.same s7).same s8;refine bD (W8.T.hnd 0 h0) (λR r=>r) rfl ?_;nofun;refine jZ W8.T h0 l6 λH9 p9 sh9 s9 f9 Y9 e9=>?_;rw[kv6.1,kv6.2.1] at Y9;cases a7.one Y9;refine⟨p8,p9,_,_,rfl,rfl,bw.of (s9 _ _ e8),bw.of e9,λy hy=>(okM y hy).1,λy hy=>(okM y hy).1,?_⟩;rw[dr rfl];refine(bK ?_);rw[cq .(0)];refine hB _ _ (XX _ _ ?_);clear hB XX;have W9:=W8.same s9;nofun;refine⟨by decide,λpz hz=>?_⟩;have sz:=aG.up H9 hz (o:=.lst [.int 0]);have ez:(upd H9 pz (.lst [.int 0])) pz=some (.lst [.int 0]):=aq;generalize upd H9 pz _=HZ at sz ez ⊢;have WZ:=W9.same sz;refine Kx ?_;refine bD (WZ.T.hnd 0 h0) (λR r=>r) rfl ?_;nofun;refine jZ WZ.T h0 l6 λHA pA shA sA fA YA eA=>?_;rw[kv6.1,kv6.2.1] at YA;cases a7.one YA;have shl:sh.length<=60:=by
   rw[sh1];exact eJ (WX _ _) Rl
  refine ve (a:=pA) (xs:=sh.map av) (λR r=>r) (bw.of eA) (λi us H'=>H'=HA/\us=(sh.take i).map λm=>V.int (m.length:Nat)) ⟨rfl,rfl⟩ (λi us H' _ z=>by
   obtain⟨rfl,rfl⟩:=z;refine⟨bw.of eA,?_⟩;rw[aw,fg];exact Oy _ _) (by rw[aw,dE];lia) ?_ ?_
  .rintro i x us H' hx ⟨rfl,rfl⟩ R hR;rw[cn] at hx;obtain⟨mm,hm,rfl⟩:=eM.mp hx;have X6:sh.take (i+1)=sh.take i++[mm]:=by rw[md,hm];rfl
   simp? [av]
   refine⟨mm,rfl,by have h1:=(okM mm (dy hm)).2;rw[dE];lia,hR _ _ ⟨rfl,?_⟩⟩
   rw[X6,fi];rfl
  rintro us H' ⟨rfl,rfl⟩ pB hpB;rw[aw,lL];have sB2:=aG.up H' hpB (o:=.lst (sh.map λm=>V.int (m.length:Nat)));have eB:(upd H' pB (.lst (sh.map λm=>V.int (m.length:Nat)))) pB=some (.lst (sh.map λm=>V.int (m.length:Nat))):=aq;generalize upd H' pB _=HB at sB2 eB ⊢;refine⟨pz,pB,_,_,rfl,rfl,sB2 _ _ (sA _ _ ez),eB,by rw[aw,dE];simp only[length_cons,length_nil];lia,λpC hpC=>?_⟩;have sC:=aG.up HB hpC (o:=.lst ([.int 0]++sh.map λm=>V.int (m.length:Nat)));have eC:(upd HB pC (.lst ([.int 0]++sh.map λm=>V.int (m.length:Nat)))) pC=some (.lst ([.int 0]++sh.map λm=>V.int (m.length:Nat))):=aq;generalize upd HB pC _=HC at sC eC ⊢;have en:([.int 0]++sh.map λm=>V.int (m.length:Nat))=((0:Int)::sh.map λm=>((m.length:Nat):Int)).map V.int:=by
   rw[lj,mv];rfl
  rw[en] at eC;refine⟨pC,_,rfl,bw.of eC,by simp,λmx hmx _=>(kK ?_)⟩;have le:mx<=(j:Int):=by
   rcases gL.mp hmx with rfl|hmx
   .omega
   .obtain⟨y,hy,rfl⟩:=km.mp hmx;have:=(okM y hy).2;lia
  rw[dr le];have WC:=((WZ.same sA).same sB2).same sC;exact fin _ _ _ _ _ _ _ _ WC.next ⋯ ⋯
end K91
namespace K91
open PySem PySem.Spec PyProof.Rows L2 MM
section
variable{K:W.Frag}{C:θ}{A0 B H:Hp}{L h:Nat}{S:KS}{pu:Nat->Nat}{Kt:Nat->Nat->Prop}{fm:Nat->HR}{g:Nat->GR}{q:Nat->θ}{Gn:Nat->VF}{ph pm pg ps pb:θ}{SN BF:VI (VI Key×V)}{st w i o:Nat}{Q:VK}{E:XK}
theorem wU{Y:L2.St}{ti to:TE}(W:Wl C A0 B H L h S pu Kt fm g q Gn ph pm pg ps pb SN BF st w)(hi:i<h)(ho:o<h)(lc:S.c<=30)(ls:S.sz<=30)(hti:∀{H':Hp} {R:VK},aG H H'->R (.ref (S.f i).x) H'->ti Y H' R)(hto:∀{H':Hp} {R:VK},aG H H'->R (.ref (S.f o).x) H'->to Y H' R)
  (fin:∀H' r,r.n=max (S.f i).n (S.f o).n->(r.kn=λk=>(S.f i).kn k\/(S.f o).kn k)->(r.tk=λk=>(S.f i).tk k\/(S.f o).tk k)->r.x=(S.f i).x->r.kvs.length<=S.Bs.length->NT L S.RR S.Bs S.Ts (max (S.f i).n (S.f o).n) (λk=>(S.f i).kn k\/(S.f o).kn k) (λk=>(S.f i).tk k\/(S.f o).tk k) r.kvs r.ks->Wl C A0 B H' L h ⟨S.c,S.Bs,S.Ts,S.RR,dZ S.f i r⟩ pu Kt fm g q Gn ph pm pg ps pb SN BF st w->Q .non H'):
  bU C "lay" (jF K C) [] E0 ti (ai (bU C "state" (fC C) [] E0 to aD) aD) Y H Q:=by
 obtain⟨b1,b2,b3,b4,b5,b6,b7,b8,b9⟩:=W.zY hi lc ls;obtain⟨d1,d2,d3,d4,d5,d6,d7,d8,d9⟩:=W.zY ho lc ls;refine bD (W.T.hnd i hi) (λR r=>hti (aG.refl _) r) rfl ?_;nofun;refine bD (W.T.hnd o ho) (λR r=>hto (aG.refl _) r) rfl ?_;nofun;refine eY.state W.T ho ⋯ ⋯ λH2 p p1 p2 p3 bs ts zs1 ws1 s2 TD1 SA nd fr SKo=>?_;have W2:=W.same s2;refine eY.lay W2.T hi SA SKo (W.T.nl o ho) (W.T.kb o ho) (W.T.tb o ho) ⋯ ⋯ ⋯ ⋯ λH3 r rx rj rn rk rt _ _ rp ra T3 k3=>?_;have N3:=(T3.hk i hi).nt W.G (T3.nl i hi);have l3:=(T3.hk i hi).tl.1;rw[aB] at N3 l3;rw[rn,rk,rt] at N3;exact fin H3 r rn rk rt rx l3 N3 (W2.UX hi ho rx rj rn rk ra T3)
theorem jd{r:HR}(W:Wl C A0 B H L h S pu Kt fm g q Gn ph pm pg ps pb SN BF st w)(hi:i<h)(ho:o<h)(ls:S.sz<=30)(rn:r.n=max (fm i).n (fm o).n)(rk:r.kn=λk=>(fm i).kn k\/(fm o).kn k)(rt:r.tk=λk=>(fm i).tk k\/(fm o).tk k)(rl:r.kvs.length<=S.Bs.length)(N:NT L S.RR S.Bs S.Ts (max (fm i).n (fm o).n) (λk=>(fm i).kn k\/(fm o).kn k) (λk=>(fm i).tk k\/(fm o).tk k) r.kvs r.ks)
  (fin:∀H' B' g',Wl C A0 B' H' L h S pu Kt (dZ fm i r) g' q Gn ph pm pg ps pb SN BF st w->Q .non H'):fL K [.ref pm,.int i,.int o,.ref pg] H Q E:=by
 have e:S.sz=S.Bs.length+S.Ts.length+S.RR.length:=rfl;refine⟨pm,pg,ps,pb,h,_,_,g,q,Gn,SN,BF,i,o,W.M.l.same W.T.bs,hi,ho,(W.M.nt i hi).le,(W.M.nt o ho).le,by lia,λk hk=>⟨W.M.dn k hk,W.M.en k hk,?_,?_⟩,λr hr=>by have:=W.M.gl r hr;lia,λH' gr kp n0 n1 n2 Zy ep et ed ee nD nE mD mE=>?_⟩
 .have h1:=bQ (W.M.dn k hk) (λt ht=>by
   obtain⟨m,hm⟩:=(W.M.dm k hk t).mp ht;exact km.mpr ⟨_,hm,rfl⟩:∀t∈(g k).D,t∈(fm k).kvs.map (·.2))
  rw[aw] at h1;have:=W.M.kl k hk;lia
 .have h1:=bQ (W.M.en k hk) (λt ht=>by
   obtain⟨m,_,hm⟩:=(W.M.em k hk t).mp ht;exact km.mpr ⟨_,hm,rfl⟩:∀t∈(g k).E,t∈(fm k).kvs.map (·.2))
  rw[aw] at h1;have:=W.M.kl k hk;lia
 .obtain⟨B',W'⟩:=W.UY hi ho N rn rk rt rl kp n0 n1 n2 Zy ep et ed ee nD nE mD mE;exact fin _ _ _ W'
end
theorem Ir{K:PySem.W.Frag}{a:Ad}{N:VI Str}{vs:VI V}{H:Hp}{Q:VK}{E:XK}(hN:N.length=15)(hh:zU K a.az vs H Q E):uo K a {nx:=λ_ H'=>Q .non H',rt:=Q} .(3) H:=by
 obtain⟨sc,ph,pm,pg,ps,pb,ns,A0,B,L,h,S,pu,Kt,g,q,Gn,SN,BF,k,w,hS,hl,hk,W,lc,ls,fin⟩:=hh;have h0:=W.T.pos;have hS0:=(W.b0.trans W.T.bs).seq hS;have lhH:=W.T.bs _ _ W.lh;have lN:(Ck h S.f).length=h:=by rw[Ck,aw,og]
 have hL:=(W.T.hs 0 h0).hh;obtain⟨_,_,_,_,_,_,l26,_,_⟩:=W.zY h0 lc ls;have Cd:∀{H':Hp} {j:Nat} {R:VK},aG H H'->j<h->R (.ref (S.f j).x) H'->bV K (.ref ph) (.int j) H' R:=λs hj r=>bR (bw.of (s _ _ lhH)) (rh _) (DX hj) r;unfold uo L2.start;rw[hN];simp only[set_cons_zero,set_cons_succ,replicate_succ,replicate_zero,map_cons,map_nil,cons_append,nil_append,length_cons,length_nil,Nat.reduceAdd,Nat.reduceSub];refine aR λc hc=>?_;nofun;refine cJ (bw.of lhH) (hc _ _ ?_);clear hc c;rw[lN];simp only[set_cons_zero,set_cons_succ];refine aR λc hc=>?_;nofun;refine⟨sc,ns,_,_,hS0,hl,by lia,by lia,by lia,λi i0 i1=>hc _ _ ?_⟩;clear hc c;obtain⟨i,rfl⟩:=kd i0;have hi:i<h:=by lia
 obtain⟨b1,b2,b3,b4,b5,b6,b7,b8,b9⟩:=W.zY hi lc ls;simp only[set_cons_zero,set_cons_succ];refine aR λc hc=>?_;nofun;refine Cd (aG.refl _) hi (hc _ _ ?_);clear hc c;simp only[set_cons_zero,set_cons_succ];refine aR λc hc=>?_;nofun;refine⟨sc,ns,_,_,hS0,hl,by lia,by lia,by decide,λwy w0 w1=>hc _ _ ?_⟩;clear hc c;simp only[set_cons_zero,set_cons_succ];refine aR λc hc=>?_;nofun;refine bD (W.T.hnd i hi) (λR r=>r) rfl ?_;nofun;refine gp W.T hi ⋯ λH1 p4 zs s1 f4 Z e4=>cJ (bw.of e4) (hc _ _ ?_);clear hc c;rw[aw,aw];have W1:=W.same s1;have YX:=s1.seq hS0;simp only[set_cons_zero,set_cons_succ];refine aM λc hc=>?_
 by_cases y1:wy<3\/zs.length=0
 .clear hc;refine ff λ_ _ hA _=>?_;nofun;have put:=hA [some (.ref sc),some (.int k),some (.ref ph),some (.int L),some (.ref pm),some (.ref pg),some (.int h),some (.int i),some (.ref (S.f i).x),some (.int wy),some (.int zs.length),none,none,none,none] H1 (by
   nofun;exact⟨sc,ph,pm,pg,ps,pb,ns,A0,B,L,h,S,pu,Kt,g,q,Gn,SN,BF,k,i,w,hS,hl,hk,W1,hi,lc,ls,fin⟩)
  by_cases z:wy<3
  .rw[df z];exact put
  .rw[cq z];refine⟨rfl,?_⟩;rw[df (by have:=y1.resolve_left z;lia)];exact put
 have y3:¬wy<3:=λz=>y1 (.inl z);have y4:0<zs.length:=Nat.pos_of_ne_zero λz=>y1 (.inr z);refine ff λ_ _ _ hB=>?_;nofun;rw[cq y3];refine⟨rfl,?_⟩;rw[cq ⋯];refine hB _ _ (hc _ _ ?_);clear hc hB;refine aM λc hc=>?_
 by_cases y2:wy=3
 .clear hc;refine ff λ_ _ hA _=>?_;nofun;refine⟨rfl,?_⟩;rw[df y2];refine hA _ _ ?_;refine aR λc1 XX=>?_;nofun;refine⟨sc,ns,_,_,YX,hl,by lia,by lia,by lia,λp p0 p1=>XX _ _ ?_⟩;clear XX c1;obtain⟨m,hm⟩:=some_at (l:=zs) (i:=p.toNat) ⋯;have ZU:=(Z.mem m).mp (dy hm);have Zd:=cW (S.f i).kvs ZU.1;simp only[set_cons_zero,set_cons_succ];refine aR λc1 XX=>?_;nofun;refine bD (W1.T.hnd i hi) (λR r=>r) rfl ?_;nofun;refine gp W1.T hi ⋯ λH2 p5 zs5 s2 f5 Z5 e5=>?_;cases Z.one Z5;refine bR (v:=av (au (S.f i).kvs m)) (bw.of e5) p0 (by rw[cn,cn,hm];rfl) (XX _ _ ?_);clear XX c1;have W2:=W1.same s2;simp only[set_cons_zero,set_cons_succ];refine aR λc1 XX=>?_;nofun;refine bD (W2.T.hnd i hi) (λR r=>r) rfl ?_;nofun;refine jZ W2.T hi ⋯ λH3 p6 zs6 s3 f6 Z6 e6=>?_;cases Z.one Z6;refine bR (v:=av m) (bw.of e6) p0 (by rw[cn,hm];rfl) (XX _ _ ?_);clear XX c1;have W3:=W2.same s3;have A3:=W.M.l.same W3.T.bs;have nE:¬au (S.f i).kvs m∈(g i).E:=λz=>by
   obtain⟨x,hx,hz⟩:=(W.M.em i hi _).mp z;have:=(W.nt hi).inj W.G b6 W.I hz Zd;subst this;exact ZU.2 hx
  have el:(g i).E.length<=30:=by
   have h1:=bQ (W.M.en i hi) (λt ht=>by
    obtain⟨m,_,hm⟩:=(W.M.em i hi t).mp ht;exact km.mpr ⟨_,hm,rfl⟩:∀t∈(g i).E,t∈(S.f i).kvs.map (·.2))
   rw[aw] at h1;lia
  simp only[set_cons_zero,set_cons_succ];refine aM λc1 XX=>?_;simp? [fU,av]
  refine bR (v:=.ref (g i).t) (bw.of A3.lm) (rh _) (iz hi) (bB (v:=.ref (g i).e) (fT.of (A3.tp i hi)) .(0) rfl ⟨(g i).e,rfl,_,oH.k (k:=Key.inr (txt (au (S.f i).kvs m))) (A3.ee i hi) (by unfold cF;rw[aw,dE];lia),XX _ _ ?_⟩);clear XX c1;rw[LG nE];have k4:Keeps [(g i).e] H3 (upd H3 (g i).e (.dK (cF ((g i).E++[au (S.f i).kvs m])))):=Keeps.upd (λ_ _ e _=>e) (.inl bp);have e4':(upd H3 (g i).e (.dK (cF ((g i).E++[au (S.f i).kvs m])))) (g i).e=some (.dK (cF ((g i).E++[au (S.f i).kvs m]))):=aq;generalize upd H3 (g i).e _=H4 at k4 e4' ⊢;obtain⟨B',T4,nxt⟩:=W3.take hi Zd ZU.2 k4 e4';nofun;refine bD (T4.hnd i hi) (λR r=>r) rfl ?_;nofun;refine eY.take T4 hi ⋯ λXT Z'=>?_;cases Z.one Z';refine⟨⟨p0,by lia⟩,λH5 m' hm' T5 k5=>⟨rfl,?_⟩⟩;rw[hm] at hm';cases hm';nofun;refine fin _ _ _ _ _ _ _ _ (nxt _ T5).next (xc _) ?_;show S.Bs.length+(S.Ts++[_]).length+S.RR.length<=S.Bs.length+S.Ts.length+S.RR.length+1;rw[de];simp only[length_cons,length_nil];lia
 refine ff λ_ _ _ hB=>?_;nofun;refine⟨rfl,?_⟩;rw[cq y2];refine hB _ _ (hc _ _ ?_);clear hc hB;refine aM λc hc=>?_;have go:c [some (.ref sc),some (.int k),some (.ref ph),some (.int L),some (.ref pm),some (.ref pg),some (.int h),some (.int i),some (.ref (S.f i).x),some (.int wy),some (.int zs.length),none,none,none,none] H1:=hc _ _ (by
  clear hc c;refine aR λc hc=>?_;nofun;refine⟨sc,ns,_,_,YX,hl,by lia,by lia,by lia,λo o0 o1=>hc _ _ ?_⟩;clear hc c;obtain⟨o,rfl⟩:=kd o0;have ho:o<h:=by lia
  simp only[set_cons_zero,set_cons_succ];refine aM λc hc=>?_;nofun;refine wU W1 hi ho lc ls (λ_ r=>r) (λs r=>by nofun;exact Cd (s1.trans s) ho r) λH2 r rn rk rt rx rl NT2 W2=>hc _ _ ?_;clear hc c;refine aM λc hc=>?_;nofun;refine jd W2 hi ho ls rn rk rt rl NT2 λH3 B3 g3 W3=>hc _ _ ?_;nofun;exact fin _ _ _ _ _ _ _ _ W3.next (xc _) (xc _))
 clear hc;refine ff λ_ _ hA hB=>?_;nofun;refine⟨rfl,?_⟩
 by_cases z:wy=4
 .rw[df z];refine⟨sc,ns,_,_,YX,hl,by decide,by decide,by decide,λr6 _ _=>(kK ?_)⟩
  by_cases y:(0:Int)<r6
  .rw[df y];refine hA _ _ ?_;nofun;refine Cd s1 h0 ?_;exact⟨ph,pm,pg,ps,pb,A0,B,L,h,S,pu,Kt,g,q,Gn,SN,BF,k,w,W1,lc,ls,fin⟩
  .rw[cq y];exact hB _ _ go
 .rw[cq z];exact hB _ _ go
end K91
namespace K91
open PySem PySem.Spec PyProof.Rows L2 MM
section
variable{K:W.Frag}{C:θ}{A0 B H:Hp}{L h:Nat}{S:KS}{pu:Nat->Nat}{Kt:Nat->Nat->Prop}{fm:Nat->HR}{g:Nat->GR}{q:Nat->θ}{Gn:Nat->VF}{ph pm pg ps pb:θ}{SN BF:VI (VI Key×V)}{st w i o:Nat}{Q:VK}{E:XK}
theorem Ce(W:Wl C A0 B H L h S pu Kt S.f g q Gn ph pm pg ps pb SN BF st w)(hi:i<h)(lc:S.c<=30)(ls:S.sz<=30)(hw:w<=100)(fin:∀H' B' X7 Yc,Wl C A0 B' H' L h S pu Kt S.f g q Gn ph pm pg ps pb X7 Yc st (w+1)->Q (.bl true) H'):nc K C [.ref (S.f i).x,.ref (g i).t,.ref ps,.ref pb] H Q E:=by
 obtain⟨b1,b2,b3,b4,b5,b6,b7,b8,b9⟩:=W.zY hi lc ls;have A:=W.M.l.same W.T.bs;have sl:=W.sl;have bl:=W.bl;refine⟨_,_,_,_,_,_,_,_,_,_,_,_,_,L,h,_,S.Bs,S.Ts,S.RR,pu,Kt,_,_,_,_,_,_,_,SN,BF,W.T.hnd i hi,W.T.ren i hi,(W.T.hk i hi).kw,by lia,A.tp i hi,A.dd i hi,A.ee i hi,A.a3 i hi i hi,A.sn,A.bf,A.a6,by lia,by lia,W.G,W.I,W.nt hi,b6,b7,W.M.dn i hi,W.M.dm i hi,W.M.em i hi,W.M.si,W.M.bi,λH' X7 Yc kp es eb si bi l1 l2=>?_⟩;have AB:=W.M.l;obtain⟨T',kB⟩:=eY.Ii W.T kp (λt ht=>by
  simp only[mem_cons,not_mem_nil,or_false] at ht
  rcases ht with rfl|rfl
  .exact⟨_,AB.sn,(nofun),(nofun),eY.NK W.T AB.sn nofun⟩
  .exact⟨_,AB.bf,(nofun),(nofun),eY.NK W.T AB.bf nofun⟩)
 have old:∀{a:θ} {o:HO},B a=some o->(∀z,o≠.dT z)->rL h S.f H' a=some o:=λe n=>kB _ _ e λz=>by
  simp only[mem_cons,not_mem_nil,or_false] at z
  rcases z with rfl|rfl
  .exact gc e AB.sn (n _) rfl
  .exact gc e AB.bf (n _) rfl
 have lb:LB (rL h S.f H') h S.RR.length (λk=>(S.f k).n) g q Gn pm pg ps pb X7 Yc:=
  ⟨old AB.lm (nofun),λk hk=>old (AB.tp k hk) (nofun),λk hk=>old (AB.dd k hk) (nofun),λk hk=>old (AB.ee k hk) (nofun),old AB.lg (nofun),λr hr=>old (AB.qq r hr) (nofun),dO es (eY.ne W.T AB.sn),dO eb (eY.ne W.T AB.bf),AB.a1,AB.a2,AB.a3,AB.a4,AB.a5,AB.a6⟩
 refine fin H' _ X7 Yc {W with T:=T',b0:=cj W.b0 kB (λt ht=>?_),lh:=old W.lh (nofun),M:={W.M with l:=lb,si:=si,bi:=bi},sl:=by lia,bl:=by lia}
 simp only[mem_cons,not_mem_nil,or_false] at ht
 rcases ht with rfl|rfl
 .exact W.z.2.2.1
 .exact W.z.2.2.2
end
theorem wV{L n:Nat}{RR:VI (VI bG)}{Bs:VI dY}{Ts:VI oY}{kn tk Yk Yg:Nat->Prop}{kvs XQ:VG}{ks ks' zs XT:VF}(A:NT L RR Bs Ts n kn tk kvs ks)(B:NT L RR Bs Ts n Yk Yg XQ ks')(e:∀k,kn k↔Yk k)(f:∀k,tk k↔Yg k)(nd:(XQ.map (·.1)).Nodup)(Z:gG kvs ks zs)(Z':gG XQ ks' XT):zs=XT/\zs.map (au kvs)=XT.map (au XQ):=by
 have m1:∀z,z∈kvs↔z∈XQ:=λz=>by
  rw[A.mem z,B.mem z];exact⟨λ⟨k,b,h,r⟩=>⟨k,b,(e k).mp h,r⟩,λ⟨k,b,h,r⟩=>⟨k,b,(e k).mpr h,r⟩⟩
 have m2:∀z,z∈ks↔z∈ks':=λz=>by
  rw[A.tks z,B.tks z];exact⟨λ⟨k,b,h,r⟩=>⟨k,b,(f k).mp h,r⟩,λ⟨k,b,h,r⟩=>⟨k,b,(f k).mpr h,r⟩⟩
 have m3:∀m,m∈kvs.map (·.1)↔m∈XQ.map (·.1):=λm=>by
  rw[km,km];exact⟨λ⟨z,h,q⟩=>⟨z,(m1 z).mp h,q⟩,λ⟨z,h,q⟩=>⟨z,(m1 z).mpr h,q⟩⟩
 have ez:zs=XT:=fD ((my (bJ Z.up) (bJ Z'.up)).mpr λm=>by rw[Z.mem m,Z'.mem m,m3 m,m2 m]) Z.up Z'.up
 refine⟨ez,?_⟩;rw[ez];refine ot λm hm=>?_;have h1:=(Z'.mem m).mp hm;have i1:=(m1 _).mp (cW kvs ((m3 m).mpr h1.1));have i2:=cW XQ h1.1;obtain⟨a,qa⟩:=sv i1;obtain⟨b,qb⟩:=sv i2;have h4:(XQ.map (·.1))[a]?=(XQ.map (·.1))[b]?:=by rw[cn,cn,qa,qb];rfl
 have:=(WM (by rw[aw];exact(bo.mp qa).1) nd).mp h4;subst this;rw[qa] at qb;injection qb with qb
 injection qb with _ qb
def Sub(f:Nat->HR)(k F:Nat):Prop:=(∀j,(f k).kn j->(f F).kn j)/\(∀j,(f k).tk j->(f F).tk j)/\(f k).n<=(f F).n
def U7(C:θ)(H0:Hp)(L h:Nat):Nat->VI V->Hp->Prop:=λi ys H=>aG H0 H/\∃f,ys=Ck i f/\(0<i->eY C H0 H L h 0 [] [] [] i f)/\∀k,k<i->(f k).j=k
def Vz(H3:Hp):Nat->VI V->Hp->Prop:=λi ys H=>aG H3 H/\∃g:Nat->GR,ys=o7 i g/\(∀k,k<i->H (g k).t=some (.tup [.int 0,.ref (g k).d,.ref (g k).e])/\H (g k).d=some (.dK [])/\H (g k).e=some (.dK [])/\H3 (g k).t=none/\H3 (g k).d=none/\H3 (g k).e=none/\(g k).D=[]/\(g k).E=[])/\(∀x,x<i->∀y,y<i->x≠y->(g x).d≠(g y).d)/\(∀x,x<i->∀y,y<i->x≠y->(g x).e≠(g y).e)/\∀x,x<i->∀y,y<i->(g x).d≠(g y).e
def VA(C:θ)(A0:Hp)(L h:Nat)(ph pm pg ps pb:θ)(σ0:VI (ο V)):Nat->L2.St->Hp->Prop:=λi Y H=>∃B S pu Kt g q Gn SN BF v8 v9,Wl C A0 B H L h S pu Kt S.f g q Gn ph pm pg ps pb SN BF i i/\S.c<=i/\S.sz<=i/\Y=σ0++[v8,v9,none,none,none]
def VB(C:θ)(A0:Hp)(L h:Nat)(ph pm pg ps pb:θ)(SN BF:VI (VI Key×V))(st w:Nat)(σ0:VI (ο V))(v9 v10:ο V):Nat->L2.St->Hp->Prop:=λi Y H=>∃B S pu Kt g q Gn v8 v11 ZX,Wl C A0 B H L h S pu Kt S.f g q Gn ph pm pg ps pb SN BF st w/\S.c<=30/\S.sz<=30/\Y=σ0++[v8,v9,v10,v11,ZX]
def VC(C:θ)(A0:Hp)(L h F:Nat)(ph pm pg ps pb:θ)(SN BF:VI (VI Key×V))(st w:Nat)(σ0 σ1:VI (ο V)):Nat->L2.St->Hp->Prop:=λi Y H=>∃B S pu Kt g q Gn v8,Wl C A0 B H L h S pu Kt S.f g q Gn ph pm pg ps pb SN BF st w/\S.c<=30/\S.sz<=30/\(∀k,k<i->k<h->Sub S.f k F)/\Y=σ0++v8::σ1
def VD(C:θ)(A0:Hp)(L h F:Nat)(ph pm pg ps pb:θ)(st w:Nat)(σ0 σ1:VI (ο V)):Nat->L2.St->Hp->Prop:=λi Y H=>∃B S pu Kt g q Gn SN BF v8,Wl C A0 B H L h S pu Kt S.f g q Gn ph pm pg ps pb SN BF st (w+i)/\S.c<=30/\S.sz<=30/\(∀k,k<h->Sub S.f k F)/\Y=σ0++v8::σ1
theorem Cd{K:PySem.W.Frag}{C:θ}{A0 B H H':Hp}{L h:Nat}{S:KS}{pu:Nat->Nat}{Kt:Nat->Nat->Prop}{fm:Nat->HR}{g:Nat->GR}{q:Nat->θ}{Gn:Nat->VF}{ph pm pg ps pb:θ}{SN BF:VI (VI Key×V)}{st w j:Nat}{R:VK}(W:Wl C A0 B H L h S pu Kt fm g q Gn ph pm pg ps pb SN BF st w)(s:aG H H')(hj:j<h)(r:R (.ref (S.f j).x) H'):bV K (.ref ph) (.int j) H' R:=bR (bw.of (s _ _ (W.T.bs _ _ W.lh))) (rh _) (DX hj) r
theorem Ss{K:PySem.W.Frag}{a:Ad}{A0 B H:Hp}{Q:VK}{L h:Nat}{S:KS}{pu:Nat->Nat}{Kt:Nat->Nat->Prop}{g:Nat->GR}{q:Nat->θ}{Gn:Nat->VF}{sc ph pm pg ps pb:θ}{SN BF:VI (VI Key×V)}{st:Nat}{F:Nat}{v8 v9 v11 ZX:ο V}(hh2:2<=h/\h<=4/\h+1<=L)(Ya:st<29)(hF:F<h)(W:Wl a.az A0 B H L h S pu Kt S.f g q Gn ph pm pg ps pb SN BF st st)(c1:S.c<=30)(z1:S.sz<=30)(sub:∀k,k<h->Sub S.f k F)(fin:∀H',Q (.bl true) H'):Fl K a {nx:=λ_ H'=>Q .non H',rt:=Q} [some (.ref sc),some (.int L),some (.int h),some (.ref ph),some (.ref pm),some (.ref pg),some (.ref ps),some (.ref pb),v8,v9,some (.int F),v11,ZX] H:=by
 unfold Fl;refine aM λc hc=>?_;refine lG (j:=h) (λR r=>by nofun;exact r) ⋯ ⋯ (VD a.az A0 L h F ph pm pg ps pb st st [some (.ref sc),some (.int L),some (.int h),some (.ref ph),some (.ref pm),some (.ref pg),some (.ref ps),some (.ref pb)] [v9,some (.int F),v11,ZX]) ⟨_,_,_,_,_,_,_,_,_,v8,W,c1,z1,sub,rfl⟩ ?_ ?_
 .rintro i Y H' YG ⟨B,S,pu,Kt,g,q,Gn,SN,BF,v8,W,c1,z1,sub,rfl⟩;have hi:i<h:=by lia
  simp only[cons_append,nil_append,aF,set_cons_zero,set_cons_succ];refine aM λc2 Yi=>?_;nofun;refine wU W hi hF c1 z1 (λs r=>by nofun;exact Cd W s hi r) (λs r=>by nofun;exact Cd W s hF r) λH2 r rn rk rt rx rl NT2 W2=>Yi _ _ ?_;clear Yi;refine aM λc2 Yi=>?_;nofun;refine jd W2 hi hF z1 rn rk rt rl NT2 λH3 B3 g3 W3=>Yi _ _ ?_;clear Yi;obtain⟨S3,eS⟩:∃S3:KS,S3=⟨S.c,S.Bs,S.Ts,S.RR,dZ S.f i r⟩:=⟨_,rfl⟩;have c3:S3.c<=30:=by rw[eS];exact c1
  have z3:S3.sz<=30:=by rw[eS];exact z1
  have W3:Wl a.az A0 B3 H3 L h S3 pu Kt S3.f g3 q Gn ph pm pg ps pb SN BF st (st+i):=by rw[eS];exact W3
  obtain⟨q1,q2,q3⟩:=sub i hi;have sF:(∀j,(S3.f F).kn j↔(S.f F).kn j)/\(∀j,(S3.f F).tk j↔(S.f F).tk j)/\(S3.f F).n=(S.f F).n:=by
   rw[eS];show (∀j,(dZ S.f i r F).kn j↔_)/\(∀j,(dZ S.f i r F).tk j↔_)/\(dZ S.f i r F).n=_
   by_cases z:F=i
   .rw[z,aB,rn,rk,rt,z];exact⟨λj=>⟨λh=>h.elim id id,.inl⟩,λj=>⟨λh=>h.elim id id,.inl⟩,Nat.max_self _⟩
   .rw[aL z];exact⟨λ_=>Iff.rfl,λ_=>Iff.rfl,rfl⟩
  have sI:(∀j,(S3.f i).kn j↔(S.f F).kn j)/\(∀j,(S3.f i).tk j↔(S.f F).tk j)/\(S3.f i).n=(S.f F).n:=by
   rw[eS];show (∀j,(dZ S.f i r i).kn j↔_)/\(∀j,(dZ S.f i r i).tk j↔_)/\(dZ S.f i r i).n=_;rw[aB,rn,rk,rt];exact⟨λj=>⟨λh=>h.elim (q1 j) id,.inr⟩,λj=>⟨λh=>h.elim (q2 j) id,.inr⟩,Nat.max_eq_right q3⟩
  have U8:∀k,k<h->Sub S3.f k F:=λk hk=>by
   unfold Sub
   by_cases z:k=i
   .rw[z,sI.2.2,sF.2.2];exact⟨λj h=>(sF.1 j).mpr ((sI.1 j).mp h),λj h=>(sF.2.1 j).mpr ((sI.2.1 j).mp h),bb _⟩
   .have e:S3.f k=S.f k:=by rw[eS];exact aL z
    obtain⟨p1,p2,p3⟩:=sub k hk;rw[e,sF.2.2];exact⟨λj h=>(sF.1 j).mpr (p1 j h),λj h=>(sF.2.1 j).mpr (p2 j h),p3⟩
  clear eS W2;refine aM λc2 Yi=>?_;refine ff λ_ _ _ hB=>?_;nofun;refine Cd W3 (aG.refl _) hi (bR (bw.of (W3.T.bs _ _ W3.M.l.lm)) (rh _) (iz hi) ?_);refine Ce W3 hi c3 z3 ⋯ λH4 B4 SN4 BF4 W4=>(bK ?_);nofun;refine hB _ _ (Yi _ _ ?_);clear hB Yi;have NI:=W4.nt hi;have NF:=W4.nt hF;rw[sI.2.2] at NI;rw[sF.2.2] at NF;have ek:∀j,(S3.f i).kn j↔(S3.f F).kn j:=λj=>(sI.1 j).trans (sF.1 j).symm;have et:∀j,(S3.f i).tk j↔(S3.f F).tk j:=λj=>(sI.2.1 j).trans (sF.2.1 j).symm;obtain⟨_,_,_,_,_,l2,l26,li,_⟩:=W4.zY hi c3 z3;obtain⟨_,_,_,_,_,_,_,lf,_⟩:=W4.zY hF c3 z3;have KI:=(W4.T.hk i hi).kw;have KF:=(W4.T.hk F hF).kw;refine ff λ_ _ _ hB=>?_;nofun;refine bD (W4.T.hnd i hi) (λR r=>by nofun;exact Cd W4 (aG.refl _) hi r) rfl ?_;nofun;refine jZ W4.T hi ⋯ λH5 p5 z5 s5 f5 Z5 e5=>?_;have W5:=W4.same s5;refine bD (W5.T.hnd F hF) (λR r=>by nofun;exact Cd W5 (aG.refl _) hF r) rfl ?_;nofun;refine jZ W5.T hF ⋯ λH6 p6 z6 s6 f6 Z6 e6=>?_;obtain⟨ez,_⟩:=wV NI NF ek et KF.nd Z5 Z6;subst ez;have okM:∀y∈z5,PyData.strOk (txt y)=true:=λy hy=>by
   obtain⟨kv,Yh,e⟩:=km.mp ((Z5.mem y).mp hy).1;rw[<-e];exact kH l26 (KI.mar kv Yh).1.ls
  refine⟨p5,p6,_,_,rfl,rfl,bw.of (s6 _ _ e5),bw.of e6,okM,okM,?_⟩;rw[dr rfl];refine(bK ?_);rw[cq .(0)];have W6:=W5.same s6;refine bD (W6.T.hnd i hi) (λR r=>by nofun;exact Cd W6 (aG.refl _) hi r) rfl ?_;nofun;refine gp W6.T hi ⋯ λH7 p7 z7 s7 f7 Z7 e7=>?_;have W7:=W6.same s7;refine bD (W7.T.hnd F hF) (λR r=>by nofun;exact Cd W7 (aG.refl _) hF r) rfl ?_;nofun;refine gp W7.T hF ⋯ λH8 p8 z8 s8 f8 Z8 e8=>?_;obtain⟨_,ez⟩:=wV NI NF ek et KF.nd Z7 Z8;rw[<-ez] at e8;have ZJ:∀y∈z7.map (au (S3.f i).kvs),PyData.strOk (txt y)=true:=λy hy=>by
   obtain⟨x,hx,rfl⟩:=km.mp hy;exact ie (KI.mar _ (cW _ ((Z7.mem x).mp hx).1)).2.2
  refine⟨p7,p8,_,_,rfl,rfl,bw.of (s8 _ _ e7),bw.of e8,ZJ,ZJ,?_⟩;rw[dr rfl];refine(bK ?_);rw[cq .(0)];exact hB _ _ ⟨_,_,_,_,_,_,_,_,_,_,W7.same s8,c3,z3,U8,rfl⟩
 rintro Y HC ⟨B,S,pu,Kt,g,q,Gn,SN,BF,v8,W,c1,z1,sub,rfl⟩;refine hc _ _ ?_;nofun;exact fin _
theorem Su{K:PySem.W.Frag}{a:Ad}{A0 B H:Hp}{Q:VK}{L h:Nat}{S:KS}{pu:Nat->Nat}{Kt:Nat->Nat->Prop}{g:Nat->GR}{q:Nat->θ}{Gn:Nat->VF}{sc ph pm pg ps pb:θ}{SN BF:VI (VI Key×V)}{st:Nat}{F:Nat}{v8 v9 v11 ZX:ο V}(hh2:2<=h/\h<=4/\h+1<=L)(Ya:st<29)(hF:F<h)(W:Wl a.az A0 B H L h S pu Kt S.f g q Gn ph pm pg ps pb SN BF st st)(c1:S.c<=30)(z1:S.sz<=30)(fin:∀H',Q (.bl true) H'):Fp K a {nx:=λ_ H'=>Q .non H',rt:=Q} [some (.ref sc),some (.int L),some (.int h),some (.ref ph),some (.ref pm),some (.ref pg),some (.ref ps),some (.ref pb),v8,v9,some (.int F),v11,ZX] H:=by
 unfold Fp;refine aM λc hc=>?_;refine lG (j:=h) (λR r=>by nofun;exact r) ⋯ ⋯ (VC a.az A0 L h F ph pm pg ps pb SN BF st st [some (.ref sc),some (.int L),some (.int h),some (.ref ph),some (.ref pm),some (.ref pg),some (.ref ps),some (.ref pb)] [v9,some (.int F),v11,ZX]) ⟨_,_,_,_,_,_,_,v8,W,c1,z1,λk hk=>by lia,rfl⟩ ?_ ?_
 .rintro i Y H' YG ⟨B,S,pu,Kt,g,q,Gn,v8,W,c1,z1,sub,rfl⟩;have hi:i<h:=by lia
  simp only[cons_append,nil_append,aF,set_cons_zero,set_cons_succ];refine aM λc2 Yi=>?_;nofun;refine wU W hi hF c1 z1 (λs r=>by nofun;exact Cd W s hi r) (λs r=>by nofun;exact Cd W s hF r) λH2 r rn rk rt rx rl NT2 W2=>Yi _ _ ?_;clear Yi;refine aM λc2 Yi=>?_;nofun;refine wU W2 hF hi c1 z1 (λs r=>by nofun;exact Cd W2 s hF r) (λs r=>by nofun;exact Cd W2 s hi r) λH3 r' rn' rk' rt' rx' rl' NT3 W3=>Yi _ _ ?_;clear Yi;refine aM λc2 Yi=>?_;nofun;refine jd W3 hi hF z1 rn rk rt rl NT2 λH4 B4 g4 W4=>Yi _ _ ?_;clear Yi;nofun;refine jd W4 hF hi z1 rn' rk' rt' rl' NT3 λH5 B5 g5 W5=>?_;refine⟨_,_,_,_,_,_,_,_,W5,c1,z1,λk hk hkh=>?_,rfl⟩;show Sub (dZ (dZ S.f i r) F r') k F;have m1:(∀j,(S.f F).kn j->(dZ S.f i r F).kn j)/\(∀j,(S.f F).tk j->(dZ S.f i r F).tk j)/\(S.f F).n<=(dZ S.f i r F).n:=by
   by_cases z:F=i
   .rw[z,aB,rn,rk,rt];exact⟨λj h=>.inl h,λj h=>.inl h,Wd _ _⟩
   .rw[aL z];exact⟨λ_ h=>h,λ_ h=>h,bb _⟩
  have rk':r'.kn=λk=>(dZ S.f i r F).kn k\/(dZ S.f i r i).kn k:=rk';have rt':r'.tk=λk=>(dZ S.f i r F).tk k\/(dZ S.f i r i).tk k:=rt';have rn':r'.n=max (dZ S.f i r F).n (dZ S.f i r i).n:=rn';unfold Sub
  by_cases z:k=F
  .rw[z];exact⟨λ_ h=>h,λ_ h=>h,bb _⟩
  .rw[aL z,aB,rk',rt',rn']
   by_cases y:k=i
   .rw[y];exact⟨λj h=>.inr h,λj h=>.inr h,PQ _ _⟩
   .rw[aL y];obtain⟨q1,q2,q3⟩:=sub k ⋯ hkh;exact⟨λj h=>.inl (m1.1 j (q1 j h)),λj h=>.inl (m1.2.1 j (q2 j h)),eJ (eJ q3 m1.2.2) (Wd _ _)⟩
 rintro Y HB ⟨B,S,pu,Kt,g,q,Gn,v8,W,c1,z1,sub,rfl⟩;refine hc _ _ ?_;clear hc c;rw[ij] at sub;exact Ss hh2 Ya hF W c1 z1 (λk hk=>sub k hk hk) fin
theorem Sv{K:PySem.W.Frag}{a:Ad}{A0 B H:Hp}{Q:VK}{L h:Nat}{S:KS}{pu:Nat->Nat}{Kt:Nat->Nat->Prop}{g:Nat->GR}{q:Nat->θ}{Gn:Nat->VF}{sc ph pm pg ps pb:θ}{SN BF:VI (VI Key×V)}{st:Nat}{ns:VI Int}{v8 v9:ο V}(YX:bw K A0 sc (ns.map V.int))(hl:ns.length<=63)(hh2:2<=h/\h<=4/\h+1<=L)(Ya:st<29)(W:Wl a.az A0 B H L h S pu Kt S.f g q Gn ph pm pg ps pb SN BF st st)(c1:S.c<=st)(z1:S.sz<=st)(fin:∀H',Q (.bl true) H'):Ft K a {nx:=λ_ H'=>Q .non H',rt:=Q} [some (.ref sc),some (.int L),some (.int h),some (.ref ph),some (.ref pm),some (.ref pg),some (.ref ps),some (.ref pb),v8,v9,none,none,none] H:=by
 unfold Ft;have hS9:=(W.b0.trans W.T.bs).seq YX;refine aR λc hc=>?_;nofun;refine⟨sc,ns,_,_,hS9,hl,by decide,by decide,by lia,λF F0 F1=>hc _ _ ?_⟩;clear hc c;obtain⟨F,rfl⟩:=kd F0;have hF:F<h:=by lia
 have Zt:(0:Int)<h:=by lia
 simp only[set_cons_zero,set_cons_succ];have m2:(2:Int)*h*h=((2*h*h:Nat):Int):=by simp
 have m3:2*h*h<=2*4*4:=Nat.mul_le_mul (Dx 2 hh2.2.1) hh2.2.1;refine aM λc hc=>?_;refine lG (j:=2*(h:Int)*h) (λR r=>by nofun;exact⟨u7 .(0) .(0),gJ ⋯ ⋯,r⟩) ⋯ ⋯ (VB a.az A0 L h ph pm pg ps pb SN BF st st [some (.ref sc),some (.int L),some (.int h),some (.ref ph),some (.ref pm),some (.ref pg),some (.ref ps),some (.ref pb)] v9 (some (.int F))) ⟨_,_,_,_,_,_,_,v8,none,none,W,by lia,by lia,rfl⟩ ?_ ?_
 .rintro k Y H' hk ⟨B,S,pu,Kt,g,q,Gn,v8,v11,ZX,W,cc1,z1,rfl⟩;simp only[cons_append,nil_append,aF,set_cons_zero,set_cons_succ];have YJ:=(W.b0.trans W.T.bs).seq YX;refine aR λc1 XX=>?_;nofun;refine⟨cdiv ⋯ ⋯,Zt,XX _ _ ?_⟩;clear XX c1;obtain⟨i,ei⟩:=kd (WK ((k:Int)/h+F) (show (h:Int)≠0 by lia));have hi:i<h:=by have:=FR ((k:Int)/h+F) Zt;lia
  rw[ei];simp only[set_cons_zero,set_cons_succ];refine aR λc1 XX=>?_;nofun;refine⟨sc,ns,_,_,YJ,hl,by decide,by decide,by decide,λr r0 r1=>(kK ⟨gJ .(0) .(0),u7 ⋯ ⋯,cdiv ⋯ ⋯,Zt,XX _ _ ?_⟩)⟩
  clear XX c1;obtain⟨o,eo⟩:=kd (WK ((k:Int)*(1+r*2)+(k:Int)/h) (show (h:Int)≠0 by lia));have ho:o<h:=by have:=FR ((k:Int)*(1+r*2)+(k:Int)/h) Zt;lia
  rw[eo];simp only[set_cons_zero,set_cons_succ];refine aM λc1 XX=>?_;nofun;refine wU W hi ho cc1 z1 (λs r=>by nofun;exact Cd W s hi r) (λs r=>by nofun;exact Cd W s ho r) λH2 r rn rk rt rx rl NT2 W2=>XX _ _ ?_;clear XX;nofun;refine jd W2 hi ho z1 rn rk rt rl NT2 λH3 B3 g3 W3=>?_;exact⟨_,_,_,_,_,_,_,_,_,_,W3,cc1,z1,rfl⟩
 rintro Y HA ⟨B,S,pu,Kt,g,q,Gn,v8,v11,ZX,W,c1,z1,rfl⟩;refine hc _ _ ?_;clear hc c;exact Su hh2 Ya hF W c1 z1 fin
theorem LI{K:PySem.W.Frag}{a:Ad}{N:VI Str}{vs:VI V}{H:Hp}{Q:VK}{E:XK}(hN:N.length=13)(hh:Fi K vs H Q E):zW K a {nx:=λ_ H'=>Q .non H',rt:=Q} .(3) H:=by
 obtain⟨sc,ns,rfl,hS,hl,fin⟩:=hh;unfold zW L2.start;rw[hN];refine aR λc hc=>?_;nofun;refine⟨by decide,λp hp=>?_⟩;have s1:=aG.up (o:=HO.lst [V.int 3,V.int 4,V.int 5,V.int 10,V.int 26]) H hp;refine⟨sc,ns,_,_,s1.seq hS,hl,by decide,by decide,by decide,λr h0 h1=>?_⟩;refine CG (ns:=[3,4,5,10,26]) bw.here h0 (by simp only[length_cons,length_nil];lia) λL hL _=>hc _ _ ?_;clear hc c;generalize upd H p _=H1 at s1 ⊢;have YX:=s1.seq hS;have hL2:3<=L/\L<=26:=by
  simp only[mem_cons,not_mem_nil,or_false] at hL;lia
 clear hL hS s1;obtain⟨L,rfl⟩:=kd (a:=L) ⋯;and_intros;refine aR λc hc=>?_;nofun;refine⟨sc,ns,_,_,YX,hl,by decide,by decide,by decide,λr2 r20 r21=>(kK ⟨_,_,rfl,hc _ _ ?_⟩)⟩
 clear hc c;have hh:2<=(if 2+r2<(L:Int)-1 then 2+r2 else(L:Int)-1)/\(if 2+r2<(L:Int)-1 then 2+r2 else(L:Int)-1)<=4/\(if 2+r2<(L:Int)-1 then 2+r2 else(L:Int)-1)+1<=L:=by split<;>lia
 generalize (if 2+r2<(L:Int)-1 then 2+r2 else(L:Int)-1)=h at hh ⊢;obtain⟨h,rfl⟩:=kd (a:=h) ⋯;have hh2:2<=h/\h<=4/\h+1<=L:=by lia
 simp only[set_cons_zero,set_cons_succ];refine qj λc hc=>?_;refine yH (j:=h) (λQ h=>by nofun;exact h) ⋯ ⋯ (by rw[dE];lia) (U7 a.az H1 L h) ⟨aG.refl _,λ_=>Ih 0 0 0 0 0 0,rfl,λz=>absurd z (oC _),λk z=>absurd z (Xu _)⟩ (λi ys H' _ p=>by obtain⟨_,f,e,_⟩:=p;rw[e,Ck,aw,og];exact bb _) ?_ ?_
 .rintro i ys H' hi ⟨s',f,rfl,T,jn⟩ W hW;nofun;have D:jO L h i:=⟨by lia,by lia,by lia,by lia⟩;refine Kv D (λR h=>by nofun;exact h) λH2 x dx pr pt pk s2 S e g0 g1 g2 g3 g4=>hW _ _ ⟨s'.trans s2,dZ f i (Ih x dx pr pt pk i),?_,λ_=>?_,λk hk=>?_⟩
  .unfold Ck;rw[Wv,fi];congr 1
   .refine ot λk hk=>?_;rw[aL (iq (xI.mp hk))]
   .show [V.ref x]=[V.ref (dZ f i (Ih x dx pr pt pk i) i).x];rw[aB];rfl
  .rcases Nat.eq_zero_or_pos i with z|z
   .subst z;exact eY.first D (s'.trans s2) S e (s'.bg g0) (s'.bg g2) (s'.bg g3) (s'.bg g4) aB
   .exact(T z).add s2 D S e g0 g2 g3 g4
  .by_cases z:k=i
   .rw[z,aB];rfl
   .rw[aL z];exact jn k ⋯
 rintro ys H2 ⟨Zg,f,rfl,T,jn⟩ ph hph;refine hc _ _ ?_;clear hc c;rw[ij] at T jn ⊢;have T2:=T ⋯;clear T;have YR:=aG.up H2 hph (o:=.lst (Ck h f));have eph:(upd H2 ph (.lst (Ck h f))) ph=some (.lst (Ck h f)):=aq;generalize upd H2 ph _=H3 at YR eph ⊢;have T3:=T2.same YR;have Zk:=Zg.trans YR;simp only[set_cons_zero,set_cons_succ];refine qj λc hc=>?_;refine yH (j:=h) (λQ h=>by nofun;exact h) ⋯ ⋯ (by rw[dE];lia) (Vz H3) ⟨aG.refl _,λ_=>⟨0,0,0,[],[]⟩,rfl,λk z=>by lia,λk z=>by lia,λk z=>by lia,λk z=>by lia⟩ (λi ys H' _ p=>by obtain⟨_,g,e,_⟩:=p;rw[e,mY];exact bb _) ?_ ?_
 .rintro i ys H' hi ⟨s',g,rfl,M,a1,a2,a3⟩ W hW;simp? [fz]
  intro d hd;have u1:=aG.up H' hd (o:=.dK []);have v1:(upd H' d (.dK [])) d=some (.dK []):=aq;generalize upd H' d _=Ha at u1 v1 ⊢;intro e he;have u2:=aG.up Ha he (o:=.dK []);have v2:(upd Ha e (.dK [])) e=some (.dK []):=aq;generalize upd Ha e _=Hb at u2 v2 ⊢;refine⟨by decide,λt ht=>hW _ _ ?_⟩;have u3:=aG.up Hb ht (o:=.tup [.int 0,.ref d,.ref e]);have v3:(upd Hb t (.tup [.int 0,.ref d,.ref e])) t=some (.tup [.int 0,.ref d,.ref e]):=aq;generalize upd Hb t _=Hc at u3 v3 ⊢;have uu:=(u1.trans u2).trans u3;have fe:=u1.bg he;have ft:=u1.bg (u2.bg ht);have old:∀k,k<i->(g k).d≠d/\(g k).d≠e/\(g k).e≠d/\(g k).e≠e:=λk hk=>by
   obtain⟨_,m2,m3,_⟩:=M k hk;exact⟨fresh_ne m2 hd,fresh_ne m2 fe,fresh_ne m3 hd,fresh_ne m3 fe⟩
  refine⟨s'.trans uu,gD g i ⟨t,d,e,[],[]⟩,?_,λk hk=>?_,λx hx y hy ne=>?_,λx hx y hy ne=>?_,λx hx y hy=>?_⟩
  .unfold o7;rw[Wv,fi];congr 1
   .exact ot λk hk=>by rw[bq (iq (xI.mp hk))]
   .show [V.ref t]=[V.ref (gD g i ⟨t,d,e,[],[]⟩ i).t];rw[aS]
  .by_cases z:k=i
   .rw[z,aS];exact⟨v3,u3 _ _ (u2 _ _ v1),u3 _ _ v2,s'.bg ft,s'.bg hd,s'.bg fe,rfl,rfl⟩
   .rw[bq z];obtain⟨m1,m2,m3,m4⟩:=M k ⋯;exact⟨uu _ _ m1,uu _ _ m2,uu _ _ m3,m4⟩
  .by_cases z:x=i
   .subst z;rw[aS,bq (du ne)];exact du (old y ⋯).1
   .rw[bq z]
    by_cases z2:y=i
    .subst z2;rw[aS];exact(old x ⋯).1
    .rw[bq z2];exact a1 x ⋯ y ⋯ ne
  .by_cases z:x=i
   .subst z;rw[aS,bq (du ne)];exact du (old y ⋯).2.2.2
   .rw[bq z]
    by_cases z2:y=i
    .subst z2;rw[aS];exact(old x ⋯).2.2.2
    .rw[bq z2];exact a2 x ⋯ y ⋯ ne
  .by_cases z:x=i
   .subst z;rw[aS]
    by_cases z2:y=x
    .subst z2;rw[aS];exact fresh_ne v1 he
    .rw[bq z2];exact du (old y ⋯).2.2.1
   .rw[bq z]
    by_cases z2:y=i
    .subst z2;rw[aS];exact(old x ⋯).2.1
    .rw[bq z2];exact a3 x ⋯ y ⋯
 rintro ys H4 ⟨YW,g,rfl,M,a1,a2,a3⟩ pm Yq;refine hc _ _ ?_;clear hc c;rw[ij] at M a1 a2 a3 ⊢;have Yu:=aG.up H4 Yq (o:=.lst (o7 h g));have epm:(upd H4 pm (.lst (o7 h g))) pm=some (.lst (o7 h g)):=aq;generalize upd H4 pm _=H5 at Yu epm ⊢;simp only[set_cons_zero,set_cons_succ];refine aR λc hc=>?_;nofun;refine⟨by decide,λpg hpg=>hc _ _ ?_⟩;clear hc c;have ZW:=aG.up H5 hpg (o:=.lst []);have epg:(upd H5 pg (.lst [])) pg=some (.lst []):=aq;generalize upd H5 pg _=H6 at ZW epg ⊢;simp only[set_cons_zero,set_cons_succ];refine aR λc hc=>?_;unfold oJ;refine λps Ze=>hc _ _ ?_;clear hc c;have YU:=aG.up H6 Ze (o:=.dT []);have eps:(upd H6 ps (.dT [])) ps=some (.dT []):=aq;generalize upd H6 ps _=H7 at YU eps ⊢;simp only[set_cons_zero,set_cons_succ];refine aR λc hc=>?_;refine λpb hpb=>hc _ _ ?_;clear hc c;have s78:=aG.up H7 hpb (o:=.dT []);have epb:(upd H7 pb (.dT [])) pb=some (.dT []):=aq;generalize upd H7 pb _=H8 at s78 epb ⊢;simp only[set_cons_zero,set_cons_succ];have s68:=YU.trans s78;have s58:=ZW.trans s68;have s48:=Yu.trans s58;have T4:=T3.same YW;have T5:=T4.same Yu;have T8:=T5.same s58;have T6:=T5.same ZW;have T7:=T6.same YU;have n0:∀k,k<h->(f k).n=0:=λk hk=>Nat.le_zero.mp (T8.nl k hk);have k0:∀k,k<h->(f k).kvs=[]/\(f k).ks=[]:=λk hk=>by
  have:=(T8.hk k hk).tl;exact⟨sg.mp (Nat.le_zero.mp this.1),sg.mp (Nat.le_zero.mp this.2)⟩
 have f5:H1 pm=none:=Zk.bg (YW.bg Yq);have f6:H1 pg=none:=Zk.bg (YW.bg (Yu.bg hpg));have f7:H1 ps=none:=Zk.bg (YW.bg (Yu.bg (ZW.bg Ze)));have f8:H1 pb=none:=Zk.bg (YW.bg (Yu.bg (ZW.bg (YU.bg hpb))));have W8:Wl a.az H1 (rL h f H8) H8 L h ⟨0,[],[],[],f⟩ (λ_=>0) (λ_ _=>False) f g (λ_=>0) (λ_=>[]) ph pm pg ps pb [] [] 0 0:=by
  refine⟨T8.cut,jn,qm.nil,⟨λi hi k b e=>by simp at e,λi hi t ht k hk=>hk.elim,λi hi k hk ne z=>?_,λi hi=>T8.nl i hi⟩,λi j b c e=>by simp at e,λb hb=>(nomatch hb),T8.UT,dO (s48 _ _ (YW _ _ eph)) (T2.fresh hph),⟨⟨dO (s58 _ _ epm) (T4.fresh Yq),λk hk=>?_,λk hk=>?_,λk hk=>?_,dO (s68 _ _ epg) (T5.fresh hpg),λr hr=>(nomatch hr),dO (s78 _ _ eps) (T6.fresh Ze),dO epb (T7.fresh hpb),a1,a2,a3,du (fresh_ne epm hpg),λr hr=>(nomatch hr),fresh_ne eps hpb⟩,λk hk=>(T8.hk k hk).nt (qm.nil (h:=h) (pu:=λ_=>0) (Kt:=λ_ _=>False)) (T8.nl k hk),λk hk t=>?_,λk hk t=>?_,λk hk=>?_,λk hk=>?_,λk hk=>(T8.hk k hk).tl.1,λr hr=>(nomatch hr),λr hr=>(nomatch hr),λe he=>(nomatch he),λe he=>(nomatch he)⟩,fresh_ne (YW _ _ eph) Yq,fresh_ne (Yu _ _ (YW _ _ eph)) hpg,λi hi z=>?_,⟨f5,f6,f7,f8⟩,λk hk=>?_,bb _,bb _⟩
  .have h1:=jn i hi;have h2:=jn k hk;have z:(f i).j=(f k).j:=z;lia
  .obtain⟨m1,_,_,m4,_⟩:=M k hk;show _=some (HO.tup [.int ((f k).n:Nat),.ref (g k).d,.ref (g k).e]);rw[n0 k hk];exact dO (s48 _ _ m1) (T3.fresh m4)
  .obtain⟨_,m2,_,_,m5,_,m7,_⟩:=M k hk;rw[m7];exact dO (s48 _ _ m2) (T3.fresh m5)
  .obtain⟨_,_,m3,_,_,m6,_,m8⟩:=M k hk;rw[m8];exact dO (s48 _ _ m3) (T3.fresh m6)
  .rw[(M k hk).2.2.2.2.2.2.1,(k0 k hk).1];exact⟨λz=>(nomatch z),λ⟨_,z⟩=>(nomatch z)⟩
  .rw[(M k hk).2.2.2.2.2.2.2,(k0 k hk).1];exact⟨λz=>(nomatch z),λ⟨_,_,z⟩=>(nomatch z)⟩
  .rw[(M k hk).2.2.2.2.2.2.1];exact TC
  .rw[(M k hk).2.2.2.2.2.2.2];exact TC
  .obtain⟨xs,w⟩:=(T5.ren i hi).row.mem z;rw[hpg] at w;cases w
  .obtain⟨_,_,_,_,m5,m6,_⟩:=M k hk;exact⟨Zk.bg m5,Zk.bg m6⟩
 clear T8 T7 T6 T5 T4 T3 T2 n0 k0 f5 f6 f7 f8 M a1 a2 a3 jn eph epm epg eps epb hph Yq hpg Ze hpb s68 s58 s48 YW Yu ZW YU s78 Zk Zg YR;refine aM λc hc=>?_;refine Nv (B:=29) (λR r=>by
  nofun;exact⟨sc,ns,_,_,(W8.b0.trans W8.T.bs).seq YX,hl,by decide,by decide,by decide,λj j0 j1=>(kK (r _ ⋯ ⋯))⟩) .(0) (VA a.az H1 L h ph pm pg ps pb [some (.ref sc),some (.int L),some (.int h),some (.ref ph),some (.ref pm),some (.ref pg),some (.ref ps),some (.ref pb)]) ⟨_,_,_,_,g,_,_,_,_,none,none,W8,bb _,bb _,rfl⟩ ?_ ?_
 .rintro i Y H' hi ⟨B,S,pu,Kt,g,q,Gn,SN,BF,v8,v9,W,c1,z1,rfl⟩;simp only[cons_append,nil_append,aF,set_cons_zero,set_cons_succ];refine aM λc1 XX=>?_;refine ff λ_ _ _ hB=>?_;nofun;refine⟨sc,ph,pm,pg,ps,pb,ns,H1,B,L,h,S,pu,Kt,g,q,Gn,SN,BF,i,i,YX,hl,by lia,W,by lia,by lia,λH2 B2 S2 pu2 Kt2 g2 q2 Gn2 W2 c2 z2=>(bK ?_)⟩;nofun;refine hB _ _ (XX _ _ ?_);clear hB XX;have hS2:=(W2.b0.trans W2.T.bs).seq YX;refine aR λc1 XX=>?_;nofun;refine⟨sc,ns,_,_,hS2,hl,by lia,by lia,by lia,λo o0 o1=>XX _ _ ?_⟩;clear XX c1;obtain⟨o,rfl⟩:=kd o0;have ho:o<h:=by lia
  simp only[set_cons_zero,set_cons_succ];refine ff λ_ _ _ hB=>?_;nofun;refine bR (bw.of (W2.T.bs _ _ W2.lh)) (rh _) (DX ho) (bR (bw.of (W2.T.bs _ _ W2.M.l.lm)) (rh _) (iz ho) ?_);refine Ce W2 ho ⋯ ⋯ ⋯ λH3 B3 SN3 BF3 W3=>(bK ?_);nofun;exact hB _ _ ⟨_,_,_,_,_,_,_,_,_,_,_,W3,by lia,by lia,rfl⟩
 rintro st Y H9 Ya ⟨B,S,pu,Kt,g,q,Gn,SN,BF,v8,v9,W,c1,z1,rfl⟩;refine hc _ _ ?_;clear hc c W8;exact Sv YX hl hh2 ⋯ W c1 z1 fin
end K91
local macro_rules | `(tactic| left)=>`(tactic| exact L2.cG.mono (by assumption) (by decide))
local macro_rules | `(tactic| right)=>`(tactic| exact ⟨rfl,rfl,rfl,by decide +kernel,rfl,by decide +kernel,by decide +kernel⟩)
local macro_rules | `(tactic| symm)=>`(tactic| (intro _ _ _ _ h; first | (cases h; rfl) | ((repeat obtain ⟨_,h⟩:=h) <;> (subst_vars; rfl))))
local macro_rules | `(tactic| exfalso)=>`(tactic| (intro _ _ _ _ _ _; repeat (first | exact L2.Vn rfl | refine L2.Vo fun _=>?_)))
namespace K91
open PySem PySem.Spec PyProof.Rows L2 MM
theorem Iv{K:W.Frag}{mg:Str->ο ζ}{a:Ad}(T:Tx K mg a):ir K a.az:=⟨T.bL,T.wR,T.zS,T.qz,T.tK,T.tL,T.zT⟩
section
variable{P:ι}{w:ν}{K:W.Frag}{mg:Str->ο ζ}{base:ε}{a:Ad}
theorem Qh:aP ["letters", "hands"] ["letters", "hands"] (aE KN):=by right
theorem Qi(T:Tx K mg a):T.wu.Ok P w base (tE P w) 1 (Dz a.cU):=
 T.wu.F.EH Qh (rd:=λE=>zu a.cU E [108,101,116,116,101,114,115,32,109,117,115,116,32,98,101,32,102,114,111,109,32,50,32,116,111,32,50,54] [104,97,110,100,115,32,109,117,115,116,32,98,101,32,102,114,111,109,32,49,32,116,111,32,111,110,101,32,108,101,115,115,32,116,104,97,110,32,108,101,116,116,101,114,115]) (by symm) (λ_ _ _ _ _ _ hr=>by delta zu;exact aj (cz (je (iW (aY lC (kv 0) aA) (gK (aY nM (kv 0) (aO fH T.cB cf (af (kh T.mZ iS) ao)))))) (ay (iY mM T.tu T.sZ (af (gj (by rfl')) ao) (λ_ _ _ _ _ _ _ I m q=>iX I m q))) (bA)) (ay (cz (je (iW (aY lC (kv 1) aA) (gK (aY Eo (kv 1) (kv 0))))) (ay (iY mM T.tu T.sZ (af (gj (by rfl')) ao) (λ_ _ _ _ _ _ _ I m q=>iX I m q))) (bA)))) λ_ _ _ _ h=>HE rfl h
theorem zZ:aP ["letters", "long", "product", "step"] ["letters", "long"] (aE KO):=by right
theorem LJ(T:Tx K mg a):T.sJ.Ok P w base iM 1 t6:=
 T.sJ.F.j4 zZ (by symm) (λ_ _ _ _ _ _ hr=>by delta yY;exact aj (aI (i:=2) zZ.nd aA) (aj (eT (dh T.fc (af (kv 1) ao)) (cu (i:=3) zZ.nd) (ay (aI (i:=2) zZ.nd (aN c9 (kv 2) (kv 0))))) (ay (aV (kv 2))))) λ_ _ _ _ h=>De rfl h
theorem Qj:aP ["mark", "place"] ["mark", "place"] (aE KP):=by right
theorem D5(T:Tx K mg a):T.qt.Ok P w base iM 1 Bq:=
 T.qt.F.j4 Qj (by symm) (λ_ _ _ _ _ _ hr=>by delta J0;exact aj (cz (je (iW (qP (kv 0)) (gK (aY Eo (kv 1) (aO fH T.cB cf (af (kv 0) ao)))))) (ay (aV aA)) (bA)) (ay (aV (jk xp VY VZ uX (kh T.mZ iS) (af (aK mF (kv 0) (kv 1)) ao))))) λ_ _ _ _ h=>J4 rfl h
theorem z4:aP ["letters", "mark", "long", "whole", "place"] ["letters", "mark", "long"] (aE KQ):=by right
theorem D6(T:Tx K mg a):T.qu.Ok P w base iM 2 pV:=
 T.qu.F.j4 z4 (by symm) (λ_ _ _ _ _ _ hr=>by delta yX;exact aj (aI (i:=3) z4.nd aA) (aj (eT (dh T.fc (af (kv 2) ao)) (cu (i:=4) z4.nd) (ay (aI (i:=3) z4.nd (aN bO (aN c9 (kv 3) (kv 0)) (eZ T.qt (D5 T) (af (kv 1) (af (kv 4) ao))))))) (ay (aV (kv 3))))) λ_ _ _ _ h=>Dd rfl h
theorem rR:aP ["letters", "number", "long", "text", "rest", "step"] ["letters", "number", "long"] (aE KR):=by right
theorem LK(T:Tx K mg a):T.sL.Ok P w base iM 1 pW:=
 T.sL.F.j4 rR (by symm) (λ_ _ _ _ _ _ hr=>by delta vF;exact aj (aI (i:=3) rR.nd (gj (by rfl'))) (aj (aI (i:=4) rR.nd (kv 1)) (aj (eT (dh T.fc (af (kv 2) ao)) (cu (i:=5) rR.nd) (aj (aI (i:=3) rR.nd (aN yD (aK mF (kh T.mZ iS) (aN gi (kv 4) (kv 0))) (kv 3))) (ay (aI (i:=4) rR.nd (aN gQ (kv 4) (kv 0)))))) (ay (aV (jk xp PySem.F.slot_str_rstrip PySem.F.type_str_rstrip GU (kv 3) (af (gj (by rfl')) ao))))))) λ_ _ _ _ h=>Br rfl h
theorem Qk:aP ["letters", "hands", "hand"] ["letters", "hands", "hand"] (aE KY):=by right
theorem z9(T:Tx K mg a):T.nX.Ok P w base iM 1 qV:=
 T.nX.F.j4 Qk (by symm) (λ_ _ _ _ _ _ hr=>by delta Dc;exact ay (aV (jk xp PySem.F.slot_str_join PySem.F.type_str_join MU (gj (by rfl')) (af (fZ [("hand", 2),("hands", 1)] (xJ T.fc (af aA (af (kv 0) ao))) (λ_ _ _ _ _=>⟨fY (aY nL (aN gi (aN gq (kv 0) aA) (gE 2)) (gE 1)),aK mF (kh T.mZ iS) (kv 0)⟩)) ao)))) λ_ _ _ _ h=>Hr rfl h
theorem Ql:aP ["low", "high"] ["low", "high"] (aE KZ):=by right
theorem Aa(T:Tx K mg a):T.nY.Ok P w base (tE P w) 1 (iO a.dQ):=
 T.nY.F.EH Ql (rd:=λE=>mS a.dQ E [108,111,119,32,100,111,101,115,32,110,111,116,32,99,111,109,101,32,97,104,101,97,100,32,111,102,32,104,105,103,104]) (by symm) (λ_ _ _ _ _ _ hr=>by delta mS;exact ay (cz (je (iV (fX (kv 0)) (iV (fX (kv 1)) (iF (aY Pp (kv 0) (kv 1)))))) (ay (iY mM T.LF T.LD (af (gj (by rfl')) ao) (λ_ _ _ _ _ _ _ I m q=>iX I m q))) (bA))) λ_ _ _ _ h=>zc rfl h
theorem Qm:aP ["letters", "high", "long"] ["letters", "high", "long"] (aE K0):=by right
theorem LL(T:Tx K mg a):T.sM.Ok P w base iM 3 yZ:=
 T.sM.F.j4 Qm (by symm) (λ_ _ _ _ _ _ hr=>by delta Dg;exact aj (cz (qP (kv 1)) (ay (aV (eZ T.sJ (LJ T) (af (kv 0) (af (kv 2) ao))))) (bA)) (ay (aV (eZ T.qu (D6 T) (af (kv 0) (af (kv 1) (af (kv 2) ao))))))) λ_ _ _ _ h=>Hs rfl h
theorem LM:aP ["letters", "ends", "number", "lesser"] ["letters", "ends", "number"] (aE K3):=by right
theorem D7(T:Tx K mg a):T.qv.Ok P w base iM 1 pX:=
 T.qv.F.j4 LM (by symm) (λ_ _ _ _ _ _ hr=>by delta y9;exact aj (mK (i := 3) [("number", 2),("letters", 0)] LM.nd (Jo (kv 1)) (λ_ _ _ _ _=>⟨fY (aY yC (kv 0) (aK mF (kh T.mZ iS) (aN gi (gE 1) (gE 2)))),kv 0⟩)) (ay (aV (aN bO (aN c9 (aN gQ (gE 2) (gE 0)) (aO fH T.cB cf (af (kv 1) ao))) (aO aU T.cB cf (af (kv 3) ao)))))) λ_ _ _ _ h=>Dh rfl h
theorem Qn:aP ["letters", "ends", "low_whole"] ["letters", "ends", "low_whole"] (aE K4):=by right
theorem D8(T:Tx K mg a):T.qw.Ok P w base iM 2 pY:=
 T.qw.F.j4 Qn (by symm) (λ_ _ _ _ _ _ hr=>by delta za;exact ay (aV (eZ T.qv (D7 T) (af (kv 0) (af (kv 1) (af (aN bO (kv 2) aA) ao)))))) λ_ _ _ _ h=>Di rfl h
theorem Qo:aP ["letters", "ends", "high", "high_whole", "long", "beginnings"] ["letters", "ends", "high", "high_whole", "long", "beginnings"] (aE K5):=by right
theorem LO(T:Tx K mg a):T.sN.Ok P w base iM 2 pZ:=
 T.sN.F.j4 Qo (by symm) (λ_ _ _ _ _ _ hr=>by delta zb;exact aj (cz (je (iV (oG (kv 5)) (iV (fX (kv 2)) (iF (aY lC (kv 4) (aO fH T.cB cf (af (kv 2) ao))))))) (ay (aV (eZ T.qv (D7 T) (af (kv 0) (af (kv 1) (af (aN bO (kv 3) aA) ao)))))) (bA)) (ay (aV (eZ T.qv (D7 T) (af (kv 0) (af (kv 1) (af (kv 3) ao))))))) λ_ _ _ _ h=>Dj rfl h
theorem Ab:aP ["letters", "ends", "low", "high", "long", "beginnings", "low_whole", "high_whole", "ahead"] ["letters", "ends", "low", "high", "long", "beginnings"] (aE K6):=by right
theorem LQ(T:Tx K mg a):T.sO.Ok P w base iM 4 jM:=
 T.sO.F.j4 Ab (by symm) (λ_ _ _ _ _ _ hr=>by delta qW;exact aj (aI (i:=6) Ab.nd (eZ T.qu (D6 T) (af (kv 0) (af (kv 2) (af (kv 4) ao))))) (aj (aI (i:=7) Ab.nd (eZ T.sM (LL T) (af (kv 0) (af (kv 3) (af (kv 4) ao))))) (aj (aI (i:=8) Ab.nd (eZ T.sN (LO T) (af (kv 0) (af (kv 1) (af (kv 3) (af (kv 7) (af (kv 4) (af (kv 5) ao)))))))) (ay (aV (aN gq (kv 8) (eZ T.qw (D8 T) (af (kv 0) (af (kv 1) (af (kv 6) ao)))))))))) λ_ _ _ _ h=>zd rfl h
theorem Qp:aP ["letters", "hands", "hand", "low", "high", "long"] ["letters", "hands", "hand", "low", "high", "long"] (aE K7):=by right
theorem Qq(T:Tx K mg a):T.wz.Ok P w base (tE P w) 5 (Dp a.dQ):=
 T.wz.F.EH Qp (by symm) (λ_ _ _ _ _ _ hr=>by delta Dq;exact aj (bF (kc T.nY (Aa T) dw (af (kv 3) (af (kv 4) ao)))) (ay (bZ (aV (eZ T.sO (LQ T) (af (kv 0) (af (eZ T.nX (z9 T) (af (kv 0) (af (kv 1) (af (kv 2) ao)))) (af (kv 3) (af (kv 4) (af (kv 5) (af fu ao))))))))))) λ_ _ _ _ h=>Hu rfl h
theorem wW:aP ["letters", "hands", "hand", "low", "high", "long", "number", "ends", "low_whole", "place", "last"] ["letters", "hands", "hand", "low", "high", "long", "number"] (aE K8):=by right
theorem LR(T:Tx K mg a):T.sP.Ok P w base (tE P w) 3 (Bu a.dQ):=
 T.sP.F.EH wW (by symm) (λ_ _ _ _ _ _ hr=>by delta J6;exact aj (bF (kc T.nY (Aa T) dw (af (kv 3) (af (kv 4) ao)))) (aj (bZ (aI (i:=7) wW.nd (eZ T.nX (z9 T) (af (kv 0) (af (kv 1) (af (kv 2) ao)))))) (aj (bZ (aI (i:=8) wW.nd (eZ T.qu (D6 T) (af (kv 0) (af (kv 3) (af (kv 5) ao)))))) (aj (bZ (aI (i:=9) wW.nd (aN bO (eZ T.qw (D8 T) (af (kv 0) (af (kv 7) (af (kv 8) ao)))) (kv 6)))) (aj (bZ (aI (i:=10) wW.nd (jk xp VY VZ uX (kh T.mZ iS) (af (aK mF (kv 7) (aN gi (kv 9) (aO fH T.cB cf (af (kv 7) ao)))) ao)))) (ay (bZ (aV (eZ T.sL (LK T) (af (kv 0) (af (aN bO (aN c9 (aN gQ (kv 9) (aO fH T.cB cf (af (kv 7) ao))) (kv 0)) (kv 10)) (af (kv 5) ao)))))))))))) λ_ _ _ _ h=>J7 rfl h
theorem jG:aP ["letters", "ends", "low", "high", "many", "beginnings", "long", "room", "low_whole", "high_whole", "ahead"] ["letters", "ends", "low", "high", "many", "beginnings"] (aE K9):=by right
theorem LS(T:Tx K mg a):T.sQ.Ok P w base iM 4 lP:=
 T.sQ.F.j4 jG (by symm) (λ_ _ _ _ _ _ hr=>by delta vH;exact aj (aI (i:=6) jG.nd aA) (aj (aI (i:=7) jG.nd aA) (aj (aI (i:=8) jG.nd aA) (aj (aI (i:=9) jG.nd (eZ T.sM (LL T) (af (kv 0) (af (kv 3) (af aA ao))))) (aj (pL (aY lC (kv 7) (kv 4)) (aj (aI (i:=8) jG.nd (aN bO (aN c9 (kv 8) (kv 0)) (eZ T.qt (D5 T) (af (kv 2) (af (kv 6) ao))))) (aj (aI (i:=9) jG.nd (aN bO (aN c9 (kv 9) (kv 0)) (eZ T.qt (D5 T) (af (kv 3) (af (kv 6) ao))))) (aj (aI (i:=6) jG.nd (aN bO (kv 6) aA)) (aj (aI (i:=10) jG.nd (eZ T.sN (LO T) (af (kv 0) (af (kv 1) (af (kv 3) (af (kv 9) (af (kv 6) (af (kv 5) ao)))))))) (ay (aI (i:=7) jG.nd (aN gq (kv 10) (eZ T.qw (D8 T) (af (kv 0) (af (kv 1) (af (kv 8) ao)))))))))))) (ay (aV (kv 6)))))))) λ_ _ _ _ h=>Bw rfl h
theorem Qs:aP ["letters", "hands", "hand", "low", "high", "many"] ["letters", "hands", "hand", "low", "high", "many"] (aE La):=by right
theorem Qt(T:Tx K mg a):T.wA.Ok P w base (tE P w) 5 (ua a.dQ):=
 T.wA.F.EH Qs (by symm) (λ_ _ _ _ _ _ hr=>by delta ze;exact aj (bF (kc T.nY (Aa T) dw (af (kv 3) (af (kv 4) ao)))) (ay (bZ (aV (eZ T.sQ (LS T) (af (kv 0) (af (eZ T.nX (z9 T) (af (kv 0) (af (kv 1) (af (kv 2) ao)))) (af (kv 3) (af (kv 4) (af (kv 5) (af fu ao))))))))))) λ_ _ _ _ h=>Ds rfl h
theorem Qu:aP ["low", "high", "many"] ["low", "high", "many"] (aE Lb):=by right
theorem Qv(T:Tx K mg a):T.wB.Ok P w base iM 1 Dt:=
 T.wB.F.j4 Qu (by symm) (λ_ _ _ _ _ _ hr=>by delta Du;exact aj (cz (je (iV (qP (kv 1)) (iF (fX (kv 0))))) (ay (aV aA)) (bA)) (aj (cz (je (iV (qP (kv 0)) (iF (fX (kv 1))))) (ay (aV (aN gq (kv 2) aA))) (bA)) (ay (aV (aN gQ (aN gq (kv 2) aA) aA))))) λ_ _ _ _ h=>Hv rfl h
theorem D9:aP ["letters", "hands", "hand", "low", "high", "long", "many"] ["letters", "hands", "hand", "low", "high"] (aE Lc):=by right
theorem Qw(T:Tx K mg a):T.wC.Ok P w base (tE P w) 6 (qX a.dQ):=
 T.wC.F.EH D9 (by symm) (λ_ _ _ _ _ _ hr=>by delta qY;exact aj (aI (i:=5) D9.nd (kc T.wA (Qt T) dw (af (kv 0) (af (kv 1) (af (kv 2) (af (kv 3) (af (kv 4) (af aA ao)))))))) (aj (aI (i:=6) D9.nd (kc T.wz (Qq T) dw (af (kv 0) (af (kv 1) (af (kv 2) (af (kv 3) (af (kv 4) (af (kv 5) ao)))))))) (ay (aV (kc T.sP (LR T) dw (af (kv 0) (af (kv 1) (af (kv 2) (af (kv 3) (af (kv 4) (af (kv 5) (af (eZ T.wB (Qv T) (af (kv 3) (af (kv 4) (af (kv 6) ao)))) ao)))))))))))) λ_ _ _ _ h=>zf rfl h
theorem Qx:aP ["many", "whole"] ["many", "whole"] (aE Ld):=by right
theorem Qy(T:Tx K mg a):T.wD.Ok P w base iM 1 vI:=
 T.wD.F.j4 Qx (by symm) (λ_ _ _ _ _ _ hr=>by delta vJ;exact ay (aV (fZ [("whole", 1),("many", 0)] (dh T.fc (af (gE 0) ao)) (λ_ _ _ _ _=>⟨gx,aN gQ (aN c9 (aN bO (kv 0) aA) (gE 1)) (aN bO (gE 2) aA)⟩)))) λ_ _ _ _ h=>BB rfl h
theorem wX:aP ["letters", "many", "long", "texts"] ["letters", "many"] (aE Le):=by right
theorem Qz(T:Tx K mg a):T.wF.Ok P w base iM 1 qZ:=
 T.wF.F.j4 wX (by symm) (λ_ _ _ _ _ _ hr=>by delta rf;exact aj (aI (i:=2) wX.nd aA) (aj (aI (i:=3) wX.nd aA) (aj (pL (aY lC (aN gq (kv 3) aA) (kv 1)) (aj (aI (i:=3) wX.nd (aN c9 (kv 3) (kv 0))) (ay (aI (i:=2) wX.nd (aN bO (kv 2) aA))))) (ay (aV (kv 2)))))) λ_ _ _ _ h=>zh rfl h
theorem LU:aP ["letters", "many", "long"] ["letters", "many"] (aE Lf):=by right
theorem QB(T:Tx K mg a):T.wG.Ok P w base iM 2 rg:=
 T.wG.F.j4 LU (by symm) (λ_ _ _ _ _ _ hr=>by delta rm;exact aj (pK (i := 2) LU.nd (eZ T.wF (Qz T) (af (gE 0) (af (kv 1) ao)))) (ay (aV (fZ [("letters", 0),("long", 2)] (bY (eZ T.wD (Qy T) (af (kv 1) (af (eZ T.sJ (LJ T) (af (gE 0) (af (gE 2) ao))) ao)))) (λ_ _ _ _ _=>⟨gx,eZ T.sL (LK T) (af (gE 1) (af (kv 0) (af (gE 2) ao)))⟩))))) λ_ _ _ _ h=>zq rfl h
theorem pq:aP ["letters", "known", "fresh", "rows", "given", "mark", "stands"] ["letters", "known"] (aE Lg):=by right
theorem QC(T:Tx K mg a):T.wH.Ok P w base iM 3 (Dw K):=
 T.wH.F.j4 pq (by symm) (λ_ _ _ _ _ _ hr=>by delta Dy;exact aj (aI (i:=2) pq.nd (eZ T.wG (QB T) (af (kv 0) (af (aO aU T.cB cf (af (vf [] (bY (kv 1)) (λ_ _ _ _ _=>⟨fY (oG (kv 1)),kv 0⟩)) ao)) ao)))) (aj (aI (i:=3) pq.nd (oF ao)) (aj (aI (i:=4) pq.nd aA) (aj (eT (bY (kv 1)) (yK (g8 (cu (i:=5) pq.nd) (g8 (cu (i:=6) pq.nd) tS))) (ay (cz (oG (kv 6)) (aj (bF (jk Fs Bn Bz mC (kv 3) (af (dM (af (kv 5) (af (aK aQ (kv 2) (kv 4)) ao))) ao))) (ay (aI (i:=4) pq.nd (aN bO (kv 4) aA)))) (ay (bF (jk Fs Bn Bz mC (kv 3) (af (dM (af (kv 5) (af oE ao))) ao))))))) (ay (aV (kv 3))))))) λ_ _ _ _ h=>Hz rfl h
theorem Ac:aP ["letters", "low", "high", "ends", "long", "many"] ["letters", "low", "high"] (aE Lh):=by right
theorem QD(T:Tx K mg a):T.wI.Ok P w base (tE P w) 5 (DE a.dQ):=
 T.wI.F.EH Ac (by symm) (λ_ _ _ _ _ _ hr=>by delta DF;exact aj (bF (kc T.nY (Aa T) dw (af (kv 1) (af (kv 2) ao)))) (aj (bZ (aI (i:=3) Ac.nd (eZ T.nX (z9 T) (af (kv 0) (af aA (af aA ao)))))) (aj (bZ (aI (i:=4) Ac.nd (eZ T.sQ (LS T) (af (kv 0) (af (kv 3) (af (kv 1) (af (kv 2) (af aA (af fu ao))))))))) (aj (bZ (aI (i:=5) Ac.nd (eZ T.sO (LQ T) (af (kv 0) (af (kv 3) (af (kv 1) (af (kv 2) (af (kv 4) (af fu ao))))))))) (ay (aV (kc T.sP (LR T) dw (af (kv 0) (af aA (af aA (af (kv 1) (af (kv 2) (af (kv 4) (af (aN gQ (aN gq (kv 5) aA) aA) ao)))))))))))))) λ_ _ _ _ h=>HJ rfl h
theorem rS:aP ["rows", "mark", "first", "last", "middle"] ["rows", "mark"] (aE Li):=by right
theorem QF(T:Tx K mg a):T.wJ.Ok P w base iM 1 (vS K):=
 T.wJ.F.j4 rS (by symm) (λ_ _ _ _ _ _ hr=>by delta vU;exact aj (aI (i:=2) rS.nd aA) (aj (aI (i:=3) rS.nd (aO aU T.cB cf (af (kv 0) ao))) (aj (pL (aY lC (kv 2) (kv 3)) (aj (aI (i:=4) rS.nd (aN gQ (aN bO (kv 2) (kv 3)) aA)) (ay (cz (aY yC (aK aX (aK aQ (kv 0) (kv 4)) aA) (kv 1)) (ay (aI (i:=2) rS.nd (aN bO (kv 4) aA))) (ay (aI (i:=3) rS.nd (kv 4))))))) (ay (aV (kv 2)))))) λ_ _ _ _ h=>BL rfl h
theorem Ea:aP ["rows", "old", "new"] ["rows"] (aE Lj):=by right
theorem LV(T:Tx K mg a):T.sR.Ok P w base iM 1 (qf K):=
 T.sR.F.j4 Ea (by symm) (λ_ _ _ _ _ _ hr=>by delta vV;exact aj (eT (bY (kv 0)) (yK (g8 (cu (i:=1) Ea.nd) (g8 (cu (i:=2) Ea.nd) tS))) (ay (cz (fX (kv 2)) (ay (aV (kv 2))) (bA)))) (ay (aV oE))) λ_ _ _ _ h=>BO rfl h
theorem Ae:aP ["letters", "rows", "mark", "stems", "place", "low", "high"] ["letters", "rows", "mark", "stems"] (aE Ll):=by right
theorem QH(T:Tx K mg a):T.wK.Ok P w base iM 6 (zA K):=
 T.wK.F.j4 Ae (by symm) (λ_ _ _ _ _ _ hr=>by have hu:=cG.units hr;delta DG;exact aj (aI (i:=4) Ae.nd (eZ T.wJ (QF T) (af (kv 1) (af (kv 2) ao)))) (aj (cz (je (iV (aY lC (kv 4) (aO aU T.cB cf (af (kv 1) ao))) (iF (aY nL (aK aX (aK aQ (kv 1) (kv 4)) aA) (kv 2))))) (ay (aV (aK aX (aK aQ (kv 1) (kv 4)) aA))) (bA)) (aj (aI (i:=5) Ae.nd (eZ T.sR (LV T) (af (C4 (by rfl') T.rP T.D0 (af (iU j7 (kv 1) ki (kj (kv 4))) ao)) ao))) (aj (aI (i:=6) Ae.nd (eZ T.sR (LV T) (af (iU j7 (kv 1) (kj (kv 4)) ki) ao))) (aj (cz (aY (mR hu) (dM (af (kv 5) (af (kv 6) ao))) (kv 3)) (ay (iH hu (kv 3) (dM (af (kv 5) (af (kv 6) ao))) (kc T.wI (QD T) AY (af (kv 0) (af (kv 5) (af (kv 6) ao)))))) (bA)) (ay (aV (aN yD (gy hu (kv 3) (dM (af (kv 5) (af (kv 6) ao)))) (kv 2))))))))) λ_ _ _ _ h=>HM rfl h
theorem QJ:aP ["letters", "hands", "renewals", "things", "taken"] ["letters", "hands", "renewals", "things", "taken"] (aE Lm):=by right
theorem Ec(T:Tx K mg a):T.qy.Ok P w base iM 1 jS:=
 T.qy.F.j4 QJ (by symm) (λ_ _ _ _ _ _ hr=>by delta rF;exact ay (aV (dM (af (kv 0) (af (kv 1) (af (fZ [] (bY (kv 2)) (λ_ _ _ _ _=>⟨gx,dg iE T.rP sT (af (kv 0) ao)⟩)) (af (dg iE T.rP sT (af (kv 3) ao)) (af (dg iE T.rP sT (af (kv 4) ao)) ao)))))))) λ_ _ _ _ h=>zH rfl h
theorem LW:aP ["fewer", "more", "shared"] ["fewer", "more"] (aE Ln):=by right
theorem LX(T:Tx K mg a):T.sS.Ok P w base iM 1 (zL K):=
 T.sS.F.j4 LW (by symm) (λ_ _ _ _ _ _ hr=>by have hu:=cG.units hr;delta DP;exact aj (aI (i:=2) LW.nd (iU j7 (aK aX (kv 1) (bx T.cg)) ki (kj (aO aU T.cB cf (af (aK aX (kv 0) (bx T.cg)) ao))))) (ay (cz (je (iW (aY uQ (aK aX (kv 0) (bx T.jX)) (aK aX (kv 1) (bx T.jX))) (iW (aY uQ (aK aX (kv 0) (bx T.uh)) (aK aX (kv 1) (bx T.uh))) (gK (aY (PB hu) (aK aX (kv 0) (bx T.cg)) (kv 2)))))) (ay AW) (bA)))) λ_ _ _ _ h=>HU rfl h
theorem Af:aP ["letters", "renewals", "mark", "stems", "reached", "rows"] ["letters", "renewals", "mark", "stems"] (aE Lo):=by right
theorem QK(T:Tx K mg a):T.wL.Ok P w base iM 7 (ql K):=
 T.wL.F.j4 Af (by symm) (λ_ _ _ _ _ _ hr=>by delta we;exact aj (aI (i:=4) Af.nd (kv 2)) (aj (eT (bY (kv 1)) (cu (i:=5) Af.nd) (aj (cz (qP (kv 4)) (ay (aV oE)) (bA)) (ay (aI (i:=4) Af.nd (eZ T.wK (QH T) (af (kv 0) (af (kv 5) (af (kv 4) (af (kv 3) ao))))))))) (ay (aV (kv 4))))) λ_ _ _ _ h=>BU rfl h
theorem wY:aP ["state", "renewals", "stems", "reached", "marks", "mark"] ["state", "renewals"] (aE Lp):=by right
theorem LY(T:Tx K mg a):T.sU.Ok P w base iM 8 (kL K):=
 T.sU.F.j4 wY (by symm) (λ_ _ _ _ _ _ hr=>by have hu:=cG.units hr;delta oX;exact aj (aI (i:=2) wY.nd vA) (aj (aI (i:=3) wY.nd ic) (aj (aI (i:=4) wY.nd (aN ou (vf [] (bY (aK aX (kv 0) (bx T.jY))) (λ_ _ _ _ _=>⟨gx,kv 0⟩)) (aK aX (kv 0) (bx T.m9)))) (aj (eT (bY (oQ (by rfl') T.fW T.LA (af (kv 4) ao) kz VJ)) (cu (i:=5) wY.nd) (ay (iH hu (kv 3) (kv 5) (eZ T.wL (QK T) (af (aK aX (kv 0) (bx T.jX)) (af (kv 1) (af (kv 5) (af (kv 2) ao)))))))) (ay (aV (kv 3))))))) λ_ _ _ _ h=>xo rfl h
theorem Ag:aP ["one", "other", "thing_of", "mark", "thing"] ["one", "other"] (aE Lq):=by right
theorem LZ(T:Tx K mg a):T.sV.Ok P w base iM 1 (ju K):=
 T.sV.F.j4 Ag (by symm) (λ_ _ _ _ _ _ hr=>by have hu:=cG.units hr;delta lV;exact aj (aI (i:=2) Ag.nd ic) (aj (eT (bY (aN ou (kv 0) (kv 1))) (yK (g8 (cu (i:=3) Ag.nd) (g8 (cu (i:=4) Ag.nd) tS))) (ay (iH hu (kv 2) (kv 3) (aO (CI (by rfl')) T.Ca xf (af (kv 4) (af (BI hu (kv 2) (kv 3) (kv 4)) ao)))))) (ay (aV (aO (pU (by rfl')) T.fW kz (af (Jm mI T1 Xf Bo (kv 2)) ao)))))) λ_ _ _ _ h=>wj rfl h
theorem lZ:aP ["one", "other", "reached", "things", "taken"] ["one", "other"] (aE Lr):=by right
theorem NS(T:Tx K mg a):T.nZ.Ok P w base iM 9 (zM K):=
 T.nZ.F.j4 lZ (by symm) (λ_ _ _ _ _ _ hr=>by have hu:=cG.units hr;delta zN;exact aj (cz (aY nM (aO aU T.cB cf (af (aK aX (kv 0) (bx T.cg)) ao)) (aO aU T.cB cf (af (aK aX (kv 1) (bx T.cg)) ao))) (ay AW) (bA)) (aj (bF (eZ T.sS (LX T) (af (kv 0) (af (kv 1) ao)))) (aj (pK (i := 2) lZ.nd (eZ T.sU (LY T) (af (kv 0) (af (iU j7 (aK aX (kv 1) (bx T.cg)) (kj (aO aU T.cB cf (af (aK aX (kv 0) (bx T.cg)) ao))) ki) ao)))) (aj (AZ (i := 3) [("reached", 2)] lZ.nd (bY (aK aX (kv 0) (bx T.jY))) (λ_ _ _ _ _=>⟨fY (fX (gy hu (gE 2) (kv 0))),dM (af (gy hu (gE 2) (kv 0)) (af (kv 1) ao))⟩)) (aj (mK (i := 4) [("reached", 2)] lZ.nd (bY (aK aX (kv 0) (bx T.m9))) (λ_ _ _ _ _=>⟨fY (fX (gy hu (gE 1) (kv 0))),gy hu (gE 1) (kv 0)⟩)) (ay (aV (eZ T.qy (Ec T) (af (aK aX (kv 1) (bx T.jX)) (af (aK aX (kv 1) (bx T.uh)) (af (aK aX (kv 1) (bx T.cg)) (af (eZ T.sV (LZ T) (af (kv 3) (af (aK aX (kv 1) (bx T.jY)) ao))) (af (oQ (by rfl') T.fW T.LA (af (aN ou (kv 4) (aK aX (kv 1) (bx T.m9))) ao) kz VJ) ao))))))))))))) λ_ _ _ _ h=>DU rfl h
theorem QL(T:Tx K mg a):T.nZ.Ok P w base iM 10 (DS K):=
 T.nZ.F.j4 lZ (by symm) (λ_ _ _ _ _ _ hr=>by have hu:=cG.units hr;delta DT;exact aj (cz (aY nM (aO aU T.cB cf (af (aK aX (kv 0) (bx T.cg)) ao)) (aO aU T.cB cf (af (aK aX (kv 1) (bx T.cg)) ao))) (ay (aV (eZ T.nZ (NS T) (af (kv 1) (af (kv 0) ao))))) (bA)) (aj (bF (eZ T.sS (LX T) (af (kv 0) (af (kv 1) ao)))) (aj (pK (i := 2) lZ.nd (eZ T.sU (LY T) (af (kv 0) (af (iU j7 (aK aX (kv 1) (bx T.cg)) (kj (aO aU T.cB cf (af (aK aX (kv 0) (bx T.cg)) ao))) ki) ao)))) (aj (AZ (i := 3) [("reached", 2)] lZ.nd (bY (aK aX (kv 0) (bx T.jY))) (λ_ _ _ _ _=>⟨fY (fX (gy hu (gE 2) (kv 0))),dM (af (gy hu (gE 2) (kv 0)) (af (kv 1) ao))⟩)) (aj (mK (i := 4) [("reached", 2)] lZ.nd (bY (aK aX (kv 0) (bx T.m9))) (λ_ _ _ _ _=>⟨fY (fX (gy hu (gE 1) (kv 0))),gy hu (gE 1) (kv 0)⟩)) (ay (aV (eZ T.qy (Ec T) (af (aK aX (kv 1) (bx T.jX)) (af (aK aX (kv 1) (bx T.uh)) (af (aK aX (kv 1) (bx T.cg)) (af (eZ T.sV (LZ T) (af (kv 3) (af (aK aX (kv 1) (bx T.jY)) ao))) (af (oQ (by rfl') T.fW T.LA (af (aN ou (kv 4) (aK aX (kv 1) (bx T.m9))) ao) kz VJ) ao))))))))))))) λ_ _ _ _ h=>HX rfl h
theorem QM:aP ["text"] ["text"] (aE Lu):=by right
theorem QN(T:Tx K mg a):T.wM.Ok P w base iM 1 rq:=
 T.wM.F.j4 QM (by symm) (λ_ _ _ _ _ _ hr=>by delta rA;exact aj (cz (je (iW (aY nL (kv 0) (gj (by rfl'))) (gK (aY nM (aO fH T.cB cf (af (kv 0) ao)) (bx T.tH))))) (ay (aV fu)) (bA)) (ay (aV (aO (GZ (by rfl')) T.Sf PyProof.Rows.Boot.«all» (af (fZ [] (Jo (kv 0)) (λ_ _ _ _ _=>⟨gx,u9 Po (kv 0) (kh T.xq (by rfl'))⟩)) ao))))) λ_ _ _ _ h=>zv rfl h
theorem QU:aP ["text"] ["text"] (aE Lv):=by right
theorem QV(T:Tx K mg a):T.wN.Ok P w base (tE P w) 2 (oN a.eN):=
 T.wN.F.EH QU (rd:=λE=>kF a.eN E [97,32,116,104,105,110,103,32,104,97,115,32,49,32,116,111,32,49,50,32,115,105,103,110,115,44,32,101,97,99,104,32,97,32,115,109,97,108,108,32,108,101,116,116,101,114,32,111,114,32,97,32,102,105,103,117,114,101]) (by symm) (λ_ _ _ _ _ _ hr=>by delta kF;exact ay (cz (vc (oG (eZ T.wM (QN T) (af (kv 0) ao)))) (ay (iY mM T.Ip T.Io (af (gj (by rfl')) ao) (λ_ _ _ _ _ _ _ I m q=>iX I m q))) (bA))) λ_ _ _ _ h=>xj rfl h
theorem QX:aP ["place", "many"] ["place", "many"] (aE Lw):=by right
theorem L0(T:Tx K mg a):T.sW.Ok P w base (tE P w) 1 (kG a.di):=
 T.sW.F.EH QX (rd:=λE=>gm a.di E [116,104,101,114,101,32,105,115,32,110,111,32,115,117,99,104,32,112,108,97,99,101]) (by symm) (λ_ _ _ _ _ _ hr=>by delta gm;exact ay (cz (je (iW (aY lC (kv 0) aA) (gK (aY Eo (kv 0) (kv 1))))) (ay (iY mM T.Im T.Il (af (gj (by rfl')) ao) (λ_ _ _ _ _ _ _ I m q=>iX I m q))) (bA))) λ_ _ _ _ h=>nS rfl h
theorem QY:aP ["number", "hands"] ["number", "hands"] (aE Lx):=by right
theorem QZ(T:Tx K mg a):T.wO.Ok P w base (tE P w) 1 (rE a.dP):=
 T.wO.F.EH QY (rd:=λE=>gm a.dP E [116,104,101,114,101,32,105,115,32,110,111,32,115,117,99,104,32,104,97,110,100]) (by symm) (λ_ _ _ _ _ _ hr=>by delta gm;exact ay (cz (je (iW (aY lC (kv 0) aA) (gK (aY Eo (kv 0) (kv 1))))) (ay (iY mM T.Cc T.Cb (af (gj (by rfl')) ao) (λ_ _ _ _ _ _ _ I m q=>iX I m q))) (bA))) λ_ _ _ _ h=>zF rfl h
theorem Sw:aP ["self", "letters", "hands", "number"] ["self", "letters", "hands", "number"] (aE P4):=by right
theorem Sx(T:Tx K mg a):T.BV.Ok mg P w base (tE P w) 2 (qi a.az a.cU a.dP):=
 T.BV.F.EH Sw (by symm) (λ_ _ _ _ _ _ hr=>by delta zG;exact aj (bF (kc T.wu (Qi T) dw (af (kv 1) (af (kv 2) ao)))) (aj (bF (kc T.wO (QZ T) dw (af (kv 3) (af (kv 2) ao)))) (aj (bZ (iZ (kv 0) (kv 1))) (aj (bZ (iZ (kv 0) (kv 2))) (aj (bZ (iZ (kv 0) (kv 3))) (aj (bZ (iZ (kv 0) (oF ao))) (aj (bZ (iZ (kv 0) ic)) (ay (bZ (iZ (kv 0) ic)))))))))) λ_ _ _ _ h=>DL (Iv T) rfl h
theorem Sy:aP ["self"] ["self"] (aE P5):=by right
theorem n8(T:Tx K mg a):T.iu.Ok mg P w base iM 1 (dB a.az):=
 T.iu.F.j4 Sy (by symm) (λ_ _ _ _ _ _ hr=>by have hu:=cG.units hr;delta vW;exact ay (aV (fZ [("self",0)] (bY (aO (kr (by rfl')) T.fW kz (af (dF (gE 0)) ao))) (λ_ _ _ _ _=>⟨fY (aY (mR hu) (kv 0) (dF (gE 1))),kv 0⟩)))) λ_ _ _ _ h=>BP (Iv T) rfl h
theorem Sz:aP ["self", "low"] ["self", "low"] (aE P6):=by right
theorem SD(T:Tx K mg a):T.BW.Ok mg P w base iM 1 (mV K a.az):=
 T.BW.F.j4 Sz (by symm) (λ_ _ _ _ _ _ hr=>by delta rD;exact ay (aV (Nh (EU (fZ [("low",1)] (ES (dF (kv 0))) (λ_ _ _ _ _=>⟨fY (je (iW (qP (gE 1)) (gK (aY yC (gE 1) (kv 0))))),kv 0⟩))) oE T.Ca))) λ_ _ _ _ h=>zC (Iv T) rfl h
theorem Fy:aP ["self", "place", "thing", "shown", "low", "mark"] ["self", "place", "thing"] (aE P7):=by right
theorem SE(T:Tx K mg a):T.BX.Ok mg P w base (tE P w) 7 (vX a.az a.eN a.di):=
 T.BX.F.EH Fy (by symm) (λ_ _ _ _ _ _ hr=>by have hu:=cG.units hr;delta DM;exact aj (bF (kc T.wN (QV T) dw (af (kv 2) ao))) (aj (bZ (aI (i:=3) Fy.nd (bC (kv 0) T.bL T.iu.M (n8 T) (by left) T.iu.b cN))) (aj (bF (kc T.sW (L0 T) dw (af (kv 1) (af (aN bO (aO aU T.cB cf (af (kv 3) ao)) aA) ao)))) (aj (bZ (aI (i:=4) Fy.nd (AV (aY nM (kv 1) aA) (aK aQ (kv 3) (aN gq (kv 1) aA)) oE))) (aj (aI (i:=5) Fy.nd (kc T.wC (Qw T) dw (af (dF (kv 0)) (af (dF (kv 0)) (af (dF (kv 0)) (af (kv 4) (af (jm (kv 0) T.bL T.BW.M (SD T) (by left) T.BW.b cN (af (kv 4) ao)) ao))))))) (aj (bZ (iH hu (dF (kv 0)) (kv 5) (kv 2))) (ay (bZ (aV (kv 5)))))))))) λ_ _ _ _ h=>HN (Iv T) rfl h
theorem OG:aP ["self", "place", "shown"] ["self", "place"] (aE P8):=by right
theorem SG(T:Tx K mg a):T.BY.Ok mg P w base (tE P w) 2 (qh a.az a.di):=
 T.BY.F.EH OG (by symm) (λ_ _ _ _ _ _ hr=>by have hu:=cG.units hr;delta zD;exact aj (bZ (aI (i:=2) OG.nd (bC (kv 0) T.bL T.iu.M (n8 T) (by left) T.iu.b cN))) (aj (bF (kc T.sW (L0 T) dw (af (kv 1) (af (aO aU T.cB cf (af (kv 2) ao)) ao)))) (aj (bZ (iH hu (dF (kv 0)) (aK aQ (kv 2) (kv 1)) fu)) (ay (bZ (aV (aK aQ (kv 2) (kv 1)))))))) λ_ _ _ _ h=>DK (Iv T) rfl h
theorem L1:aP ["self", "known", "rows"] ["self"] (aE P9):=by right
theorem SH(T:Tx K mg a):T.BZ.Ok mg P w base (tE P w) 4 (lS a.az a.dP):=
 T.BZ.F.EH L1 (rd:=qk K a.dP [116,104,101,32,104,97,110,100,32,48,32,97,108,111,110,101,32,109,97,107,101,115,32,114,101,110,101,119,97,108,115]) (by symm) (λ_ _ _ _ _ _ hr=>by have hu:=cG.units hr;delta qk;exact aj (cz (aY uQ (dF (gE 0)) aA) (ay (iY mM T.Cc T.Cb (af (gj (by rfl')) ao) (λ_ _ _ _ _ _ _ I m q=>iX I m q))) (bA)) (aj (bZ (mK (i := 1) [("self", 0)] L1.nd (bY (aO (kr (by rfl')) T.fW kz (af (dF (gE 0)) ao))) (λ_ _ _ _ _=>⟨gx,dM (af (kv 0) (af (u9 (mR hu) (kv 0) (dF (gE 1))) ao))⟩))) (aj (bZ (aI (i := 2) L1.nd (eZ T.wH (QC T) (af (dF (gE 0)) (af (kv 1) ao))))) (aj (bZ (iZ (gE 0) (dg (lK (by rfl')) T.rO tf (af (vf [("self", 0)] (bY (kv 2)) (λ_ _ _ _ _=>⟨fY (fX (kv 1)),dM (af (kv 1) (af (gy hu (dF (gE 2)) (kv 0)) ao))⟩)) ao)))) (aj (bZ (iZ (gE 0) ic)) (aj (bZ (bF (jk Fs Bn Bz mC (dF (gE 0)) (af (kv 2) ao)))) (ay (bZ (aV (dg iE T.rP sT (af (kv 2) ao))))))))))) λ_ _ _ _ h=>BS (Iv T) rfl h
theorem SI:aP ["self"] ["self"] (aE Qa):=by right
theorem qB(T:Tx K mg a):T.iI.Ok mg P w base iM 2 (cV a.az):=
 T.iI.F.j4 SI (by symm) (λ_ _ _ _ _ _ hr=>by have hu:=cG.units hr;delta rH;exact ay (aV (fZ [("self",0)] (bY (bC (gE 0) T.bL T.iu.M (n8 T) (by left) T.iu.b cN)) (λ_ _ _ _ _=>⟨gx,gy hu (dF (gE 1)) (kv 0)⟩)))) λ_ _ _ _ h=>zJ (Iv T) rfl h
theorem SM:aP ["self"] ["self"] (aE Qc):=by right
theorem SO(T:Tx K mg a):T.B7.Ok mg P w base iM 1 (zI a.az):=
 T.B7.F.j4 SM (rd:=Ot K a) (by symm) (λ_ _ _ _ _ _ hr=>by delta Ot;exact ay (aV (aO aU T.cB cf (af (dF (kv 0)) ao)))) λ_ _ _ _ h=>HP (Iv T) rfl h
theorem OH:aP ["self", "things"] ["self"] (aE Qd):=by right
theorem ye(T:Tx K mg a):T.lz.Ok mg P w base iM 2 (fC a.az):=
 T.lz.F.j4 OH (by symm) (λ_ _ _ _ _ _ hr=>by delta vY;exact aj (aI (i:=1) OH.nd (aO (pU (by rfl')) T.fW kz (af (Jm mI T1 Xf Bo (dF (kv 0))) ao))) (ay (aV (eZ T.qy (Ec T) (af (dF (kv 0)) (af (dF (kv 0)) (af (dF (kv 0)) (af (kv 1) (af (aO (kr (by rfl')) T.fW kz (af (dF (kv 0)) ao)) ao))))))))) λ_ _ _ _ h=>BQ (Iv T) rfl h
theorem OI:aP ["self", "state", "whole"] ["self", "state"] (aE Qf):=by right
theorem Cf(T:Tx K mg a):T.nK.Ok mg P w base iM 11 (jF K a.az):=
 T.nK.F.j4 OI (by symm) (λ_ _ _ _ _ _ hr=>by delta DW;exact aj (aI (i:=2) OI.nd (eZ T.nZ (QL T) (af (bC (kv 0) T.bL T.lz.M (ye T) (by left) T.lz.b cN) (af (kv 1) ao)))) (aj (iZ (kv 0) (aK aX (kv 2) (bx T.cg))) (aj (iZ (kv 0) (dg (lK (by rfl')) T.rO tf (af (aK aX (kv 2) (bx T.jY)) ao))) (ay (iZ (kv 0) (dg (lK (by rfl')) T.rO tf (af (fZ [] (bY (aK aX (kv 2) (bx T.m9))) (λ_ _ _ _ _=>⟨gx,dM (af (kv 0) (af fu ao))⟩)) ao))))))) λ_ _ _ _ h=>Ic (Iv T) rfl h
theorem Ah:aP ["_law_script", "_law_k", "_law_many", "_law_cell", "_law_seed"] ["_law_script", "_law_k", "_law_many"] (aE DY):=by right
theorem fh(T:Tx K mg a):T.dR.Ok P w base iM 1 (fB K):=
 T.dR.F.j4 Ah (by symm) (λ_ _ _ _ _ _ hr=>by delta C9;exact aj (aI (i:=3) Ah.nd (AV (aY nM (aO aU T.cB cf (af (kv 0) ao)) aA) (aK aQ (kv 0) (aN gi (kv 1) (aO aU T.cB cf (af (kv 0) ao)))) aA)) (aj (cz (je (iV (aY nM (aO aU T.cB cf (af (kv 0) ao)) aA) (iF (aY nL (aN gi (aK aQ (kv 0) aA) aA) aA)))) (ay (aV (aN gi (aN gi (aN O8 (kv 3) (aN bO (aN c9 aA (aN gQ (kv 1) (aO aU T.cB cf (af (kv 0) ao)))) aA)) aA) (kv 2)))) (bA)) (aj (aI (i:=4) Ah.nd (aN bO (aN bO (aN gi (kv 3) aA) (aN c9 (aN c9 aA (kv 1)) (kv 1))) aA)) (ay (aV (aN gi (aN gi (aN c9 (aN gi (aN c9 (kv 4) aA) aA) aA) aA) (kv 2))))))) λ_ _ _ _ h=>Ho rfl h
theorem iw:aP ["_law_hand", "_law_one", "_law_seen", "_law_before", "_law_marks", "_law_things", "_law_due", "_law_k", "_law_key", "_law_value", "_law_i"] ["_law_hand", "_law_one", "_law_seen", "_law_before"] (aE zR):=by right
theorem Cg(T:Tx K mg a):T.jv.Ok P w base iM 3 (nc K a.az):=
 T.jv.F.j4 iw (rd:=qA K a) (by symm) (λ_ _ _ _ _ _ hr=>by have hu:=cG.units hr;delta qA Ov Ou;exact aj (aI (i:=4) iw.nd (bC (kv 0) T.bL T.iu.M (n8 T) (by left) T.iu.b cN)) (aj (aI (i:=5) iw.nd (bC (kv 0) T.bL T.iI.M (qB T) (by left) T.iI.b cN)) (aj (aI (i:=6) iw.nd (aO pH T.fW kz (af (EU (fZ [("_law_one",1)] (ES (aK aX (gE 1) aA)) (λ_ _ _ _ _=>⟨fY (aY (mR hu) (kv 0) (aK aX (gE 1) aA)),kv 0⟩))) ao))) (aj (cz (je (iW (aY (mH hu) (aO pH T.fW kz (af (kv 5) ao)) (kv 6)) (iW (aY uQ (aO aU T.cB cf (af (kv 4) ao)) (aO aU T.cB cf (af (kv 5) ao))) (gK (aY uQ (bC (kv 0) T.bL T.B7.M (SO T) (by left) T.B7.b cN) (aK aX (gE 1) aA)))))) (ay (aV fu)) (bA)) (aj (eT (dh T.fc (af (aO aU T.cB cf (af (kv 4) ao)) ao)) (cu (i:=7) iw.nd) (aj (cz (je (iV (aY nM (kv 7) aA) (iF (vc (aY yC (aK aQ (kv 4) (aN gq (kv 7) aA)) (aK aQ (kv 4) (kv 7))))))) (ay (aV fu)) (bA)) (aj (eT (bY (oF (af (dM (af (dM (af (aK aX (gE 1) aA) (af (aK aQ (kv 4) (kv 7)) (af (gj (by rfl')) ao)))) (af (aK aQ (kv 5) (kv 7)) ao))) (af (dM (af (dM (af (aK aX (gE 1) aA) (af (gj (by rfl')) (af (aK aQ (kv 5) (kv 7)) ao)))) (af (aK aQ (kv 4) (kv 7)) ao))) ao)))) (yK (g8 (cu (i:=8) iw.nd) (g8 (cu (i:=9) iw.nd) tS))) (aj (cz (aY uQ (BI hu (kv 2) (kv 8) (kv 9)) (kv 9)) (ay (aV fu)) (bA)) (ay (iH hu (kv 2) (kv 8) (kv 9))))) (ay (eT (dh T.fc (af (kv 7) ao)) (cu (i:=10) iw.nd) (aj (cz (aY (PV hu) (dM (af (aK aQ (kv 5) (kv 7)) (af (aK aQ (kv 5) (kv 10)) ao))) (kv 3)) (ay (aV fu)) (bA)) (ay (iH hu (kv 3) (dM (af (aK aQ (kv 5) (kv 10)) (af (aK aQ (kv 5) (kv 7)) ao))) fu)))))))) (ay (aV fu))))))) λ_ _ _ _ h=>D3 rfl h
theorem iP:aP ["_law_model", "_law_one", "_law_other", "_law_gone", "_law_age", "_law_put_here", "_law_taken", "_law_k", "_law_thing"] ["_law_model", "_law_one", "_law_other", "_law_gone"] (aE wo):=by right
theorem j3(T:Tx K mg a):T.fE.Ok P w base iM 1 (fL K):=
 T.fE.F.j4 iP (rd:=nu K a) (by symm) (λ_ _ _ _ _ _ hr=>by delta nu Ow;exact aj (aI (i:=4) iP.nd (aO (GH (by rfl')) T.Oq Xg (af (aK aX (aK aQ (kv 0) (kv 1)) aA) (af (aK aX (aK aQ (kv 0) (kv 2)) aA) ao)))) (aj (aI (i:=5) iP.nd (dg oR T.rO tf (af (aK aX (aK aQ (kv 0) (kv 1)) aA) ao))) (aj (bF (jk mI RF WY xX (kv 5) (af (aK aX (aK aQ (kv 0) (kv 2)) aA) ao))) (aj (aI (i:=6) iP.nd (dg oR T.rO tf (af (aK aX (aK aQ (kv 0) (kv 1)) aA) ao))) (aj (bF (jk mI RF WY xX (kv 6) (af (aK aX (aK aQ (kv 0) (kv 2)) aA) ao))) (aj (eT (xJ T.fc (af (aO (qJ (by rfl')) T.Ca xf (af (aK aX (aK aQ (kv 0) (kv 1)) aA) (af (aK aX (aK aQ (kv 0) (kv 2)) aA) ao))) (af (kv 4) ao))) (cu (i:=7) iP.nd) (ay (eT (bY (aK aQ (kv 3) (kv 7))) (cu (i:=8) iP.nd) (aj (bF (jk mI y0 V2 zy (kv 5) (af (kv 8) (af oE ao)))) (ay (bF (jk mI y0 V2 zy (kv 6) (af (kv 8) (af oE ao))))))))) (ay (Jp (dM (af (kv 4) (af (kv 5) (af (kv 6) ao)))) (Jq (kv 0) (kv 1) set_list))))))))) λ_ _ _ _ h=>zX rfl h
theorem rT:aP ["_law_script", "_law_k", "_law_hand", "_law_number", "_law_hands", "_law_model", "_law_things", "_law_place", "_law_thing", "_law_mark"] ["_law_script", "_law_k", "_law_hand", "_law_number", "_law_hands", "_law_model"] (aE Ly):=by right
theorem Q0(T:Tx K mg a):T.wQ.Ok P w base iM 8 (Fj K a.az):=
 T.wQ.F.j4 rT (rd:=zV K a) (by symm) (λ_ _ _ _ _ _ hr=>by have hu:=cG.units hr;delta zV Oz Ox;exact aj (aI (i:=6) rT.nd (bC (kv 2) T.bL T.iI.M (qB T) (by left) T.iI.b cN)) (aj (aI (i:=7) rT.nd (eZ T.dR (fh T) (af (kv 0) (af (aN bO aA (kv 1)) (af (aN bO (aO aU T.cB cf (af (kv 6) ao)) aA) ao))))) (aj (cz (je (iV (aY nL (eZ T.dR (fh T) (af (kv 0) (af aA (af aA ao)))) aA) (iF (aY nM (eZ T.dR (fh T) (af (kv 0) (af (aN bO aA (kv 1)) (af aA ao)))) aA)))) (ay (aI (i:=7) rT.nd (aO (qJ (by rfl')) T.Ca xf (af aA (af (aO aU T.cB cf (af (kv 6) ao)) ao))))) (bA)) (aj (aI (i:=8) rT.nd (aN yD (gj (by rfl')) (dg yj T.Sg PyProof.Rows.Boot.«str» (af (kv 1) ao)))) (aj (aI (i:=9) rT.nd (jm (kv 2) T.bL T.BX.M (SE T) (by left) T.BX.b AY (af (kv 7) (af (kv 8) ao)))) (aj (iH hu (aK aX (aK aQ (kv 5) (kv 3)) aA) (kv 8) fu) (aj (cz (je (iW (aY (mH hu) (bC (kv 2) T.bL T.iI.M (qB T) (by left) T.iI.b cN) (aN ou (aN ou (iU j7 (kv 6) ki (kj (kv 7))) (oF (af (kv 8) ao))) (iU j7 (kv 6) (kj (kv 7)) ki))) (gK (aY uQ (aK aQ (bC (kv 2) T.bL T.iu.M (n8 T) (by left) T.iu.b cN) (kv 7)) (kv 9))))) (ay (aV fu)) (bA)) (ay (aV (u9 nL (aN gi (aN gq (jk xp VY VZ uX (gj iS) (af (aK mF (kv 9) (aN gq (aO fH T.cB cf (af (kv 9) ao)) aA)) ao)) aA) (kv 4)) (kv 3))))))))))) λ_ _ _ _ h=>LH rfl h
theorem cR:aP ["_law_hand", "_law_letters", "_law_model", "_law_gone", "_law_things", "_law_rows", "_law_put_here", "_law_thing", "_law_power", "_law_long"] ["_law_hand", "_law_letters", "_law_model", "_law_gone"] (aE lY):=by right
theorem Ai(T:Tx K mg a):T.fF.Ok P w base iM 5 (um K a.az):=
 T.fF.F.j4 cR (rd:=iJ K a) (by symm) (λ_ _ _ _ _ _ hr=>by have hu:=cG.units hr;delta iJ OB OA;exact aj (aI (i:=4) cR.nd (bC (kv 0) T.bL T.iI.M (qB T) (by left) T.iI.b cN)) (aj (aI (i:=5) cR.nd (bC (kv 0) T.bL T.BZ.M (SH T) (by left) T.BZ.b AY)) (aj (bF (jk Fs Bn Bz mC (kv 3) (af (dg (DC (by rfl')) T.rP sT (af (aK aX (aK aQ (kv 2) aA) aA) ao)) ao))) (aj (aI (i:=6) cR.nd (dg oR T.rO tf (af (aK aX (aK aQ (kv 2) aA) aA) ao))) (aj (eT (bY (aK aQ (kv 3) (aN gq (aO aU T.cB cf (af (kv 3) ao)) aA))) (cu (i:=7) cR.nd) (ay (bF (jk mI y0 V2 zy (kv 6) (af (kv 7) ao))))) (aj (Jp (dM (af (aN bO (aK aX (aK aQ (kv 2) aA) aA) aA) (af (kv 6) (af ic ao)))) (Jq (kv 2) aA set_list)) (aj (aI (i:=8) cR.nd aA) (aj (aI (i:=9) cR.nd aA) (aj (pL (aY lC (aN gq (kv 8) aA) (aO aU T.cB cf (af (kv 4) ao))) (aj (aI (i:=8) cR.nd (aN c9 (kv 8) (kv 1))) (ay (aI (i:=9) cR.nd (aN bO (kv 9) aA))))) (aj (cz (je (iW (aY (mH hu) (bC (kv 0) T.bL T.iI.M (qB T) (by left) T.iI.b cN) (kv 4)) (gK (aY (mH hu) (fZ [] (bY (kv 5)) (λ_ _ _ _ _=>⟨fY (fX (aK aX (kv 0) aA)),aK aX (kv 0) aA⟩)) (bC (kv 0) T.bL T.iu.M (n8 T) (by left) T.iu.b cN))))) (ay (aV fu)) (bA)) (ay (aV (u9 Rq (aO (G0 (by rfl')) T.Oq Xg (af (aN ou (oF (af aA ao)) (fZ [] (bY (bC (kv 0) T.bL T.iu.M (n8 T) (by left) T.iu.b cN)) (λ_ _ _ _ _=>⟨gx,aO fH T.cB cf (af (kv 0) ao)⟩))) ao)) (kv 9)))))))))))))) λ_ _ _ _ h=>D4 rfl h
theorem gW:aP ["_law_script", "_law_k", "_law_all_hands", "_law_letters", "_law_model", "_law_gone", "_law_hands", "_law_number", "_law_hand", "_law_way", "_law_many", "_law_place", "_law_thing", "_law_mark", "_law_other"] ["_law_script", "_law_k", "_law_all_hands", "_law_letters", "_law_model", "_law_gone"] (aE DZ):=by right
theorem NU(T:Tx K mg a):T.o9.Ok P w base iM 12 (zU K a.az):=
 T.o9.F.j4 gW (rd:=uo K a) (by symm) (λ_ _ _ _ _ _ hr=>by have hu:=cG.units hr;delta uo OE OC;exact aj (aI (i:=6) gW.nd (aO aU T.cB cf (af (kv 2) ao))) (aj (aI (i:=7) gW.nd (eZ T.dR (fh T) (af (kv 0) (af (aN bO aA (kv 1)) (af (kv 6) ao))))) (aj (aI (i:=8) gW.nd (aK aQ (kv 2) (kv 7))) (aj (aI (i:=9) gW.nd (eZ T.dR (fh T) (af (kv 0) (af (aN bO aA (kv 1)) (af aA ao))))) (aj (aI (i:=10) gW.nd (aO aU T.cB cf (af (bC (kv 8) T.bL T.iI.M (qB T) (by left) T.iI.b cN) ao))) (aj (cz (je (iW (aY lC (kv 9) aA) (gK (aY nL (kv 10) aA)))) (ay (aV (eZ T.wQ (Q0 T) (af (kv 0) (af (kv 1) (af (kv 8) (af (kv 7) (af (kv 6) (af (kv 4) ao))))))))) (bA)) (aj (cz (aY nL (kv 9) aA) (aj (aI (i:=11) gW.nd (eZ T.dR (fh T) (af (kv 0) (af (aN bO aA (kv 1)) (af (kv 10) ao))))) (aj (aI (i:=12) gW.nd (aK aQ (bC (kv 8) T.bL T.iI.M (qB T) (by left) T.iI.b cN) (kv 11))) (aj (aI (i:=13) gW.nd (aK aQ (bC (kv 8) T.bL T.iu.M (n8 T) (by left) T.iu.b cN) (kv 11))) (aj (iH hu (aK aX (aK aQ (kv 4) (kv 7)) aA) (kv 12) fu) (ay (aV (u9 nL (jm (kv 8) T.bL T.BY.M (SG T) (by left) T.BY.b AY (af (kv 11) ao)) (kv 13)))))))) (bA)) (aj (cz (je (iV (aY nL (kv 9) aA) (iF (aY nM (eZ T.dR (fh T) (af (kv 0) (af aA (af aA ao)))) aA)))) (ay (aV (eZ T.fF (Ai T) (af (aK aQ (kv 2) aA) (af (kv 3) (af (kv 4) (af (kv 5) ao))))))) (bA)) (aj (aI (i:=14) gW.nd (eZ T.dR (fh T) (af (kv 0) (af (aN bO aA (kv 1)) (af (kv 6) ao))))) (aj (bF (jm (kv 8) T.bL T.nK.M (Cf T) (by left) T.nK.b cN (af (bC (aK aQ (kv 2) (kv 14)) T.bL T.lz.M (ye T) (by left) T.lz.b cN) ao))) (aj (bF (eZ T.fE (j3 T) (af (kv 4) (af (kv 7) (af (kv 14) (af (kv 5) ao)))))) (ay (aV fu))))))))))))) λ_ _ _ _ h=>Ir rfl h
theorem fR:aP ["_law_script", "_law_letters", "_law_hands", "_law_all_hands", "_law_model", "_law_gone", "_law_seen", "_law_before", "_law_k", "_law_number", "_law_first", "_law_one", "_law_other"] ["_law_script"] (aE Lz):=by right
theorem Q2(T:Tx K mg a):T.sY.Ok P w base iM 13 (Fi K):=
 T.sY.F.j4 fR (rd:=zW K a) (by symm) (λ_ _ _ _ _ _ hr=>by have hu:=cG.units hr;delta zW OF Ft Fp Fl;exact aj (pK (i := 1) fR.nd (aK aQ (oF (af aA (af aA (af aA (af aA (af aA ao)))))) (eZ T.dR (fh T) (af (kv 0) (af aA (af aA ao)))))) (aj (pK (i := 2) fR.nd (aO (qJ (by rfl')) T.Ca xf (af (aN gq (gE 1) aA) (af (aN bO aA (eZ T.dR (fh T) (af (kv 0) (af aA (af aA ao))))) ao)))) (aj (mK (i := 3) [("_law_letters", 1),("_law_hands", 2)] fR.nd (dh T.fc (af (gE 2) ao)) (λ_ _ _ _ _=>⟨gx,MZ T.Qg (Sx T) (by left) T.NP T.BV.b AY (af (gE 1) (af (gE 2) (af (kv 0) ao)))⟩)) (aj (mK (i := 4) [] fR.nd (dh T.fc (af (gE 2) ao)) (λ_ _ _ _ _=>⟨gx,dM (af aA (af ic (af ic ao)))⟩)) (aj (aI (i := 5) fR.nd (oF ao)) (aj (aI (i := 6) fR.nd vA) (aj (aI (i := 7) fR.nd vA) (aj (eT (dh T.fc (af (aN bO aA (eZ T.dR (fh T) (af (kv 0) (af aA (af aA ao))))) ao)) (cu (i := 8) fR.nd) (aj (cz (vc (oG (eZ T.o9 (NU T) (af (kv 0) (af (kv 8) (af (kv 3) (af (gE 1) (af (kv 4) (af (kv 5) ao))))))))) (ay (aV fu)) (bA)) (aj (aI (i := 9) fR.nd (eZ T.dR (fh T) (af (kv 0) (af (aN bO aA (kv 8)) (af (gE 2) ao))))) (ay (cz (vc (oG (eZ T.jv (Cg T) (af (aK aQ (kv 3) (kv 9)) (af (aK aQ (kv 4) (kv 9)) (af (kv 6) (af (kv 7) ao))))))) (ay (aV fu)) (bA)))))) (aj (aI (i := 10) fR.nd (eZ T.dR (fh T) (af (kv 0) (af aA (af (gE 2) ao))))) (aj (eT (dh T.fc (af (aN c9 (aN c9 aA (gE 2)) (gE 2)) ao)) (cu (i := 8) fR.nd) (aj (aI (i := 11) fR.nd (aN gi (aN bO (aN gQ (kv 8) (gE 2)) (kv 10)) (gE 2))) (aj (aI (i := 12) fR.nd (aN gi (aN bO (aN c9 (kv 8) (aN bO aA (aN c9 (eZ T.dR (fh T) (af (kv 0) (af aA (af aA ao)))) aA))) (aN gQ (kv 8) (gE 2))) (gE 2))) (aj (bF (jm (aK aQ (kv 3) (kv 11)) T.bL T.nK.M (Cf T) (by left) T.nK.b cN (af (bC (aK aQ (kv 3) (kv 12)) T.bL T.lz.M (ye T) (by left) T.lz.b cN) ao))) (ay (bF (eZ T.fE (j3 T) (af (kv 4) (af (kv 11) (af (kv 12) (af (kv 5) ao))))))))))) (aj (eT (dh T.fc (af (gE 2) ao)) (cu (i := 8) fR.nd) (aj (bF (jm (aK aQ (kv 3) (kv 8)) T.bL T.nK.M (Cf T) (by left) T.nK.b cN (af (bC (aK aQ (kv 3) (kv 10)) T.bL T.lz.M (ye T) (by left) T.lz.b cN) ao))) (aj (bF (jm (aK aQ (kv 3) (kv 10)) T.bL T.nK.M (Cf T) (by left) T.nK.b cN (af (bC (aK aQ (kv 3) (kv 8)) T.bL T.lz.M (ye T) (by left) T.lz.b cN) ao))) (aj (bF (eZ T.fE (j3 T) (af (kv 4) (af (kv 8) (af (kv 10) (af (kv 5) ao)))))) (ay (bF (eZ T.fE (j3 T) (af (kv 4) (af (kv 10) (af (kv 8) (af (kv 5) ao))))))))))) (aj (eT (dh T.fc (af (gE 2) ao)) (cu (i := 8) fR.nd) (aj (bF (jm (aK aQ (kv 3) (kv 8)) T.bL T.nK.M (Cf T) (by left) T.nK.b cN (af (bC (aK aQ (kv 3) (kv 10)) T.bL T.lz.M (ye T) (by left) T.lz.b cN) ao))) (aj (bF (eZ T.fE (j3 T) (af (kv 4) (af (kv 8) (af (kv 10) (af (kv 5) ao)))))) (aj (cz (vc (oG (eZ T.jv (Cg T) (af (aK aQ (kv 3) (kv 8)) (af (aK aQ (kv 4) (kv 8)) (af (kv 6) (af (kv 7) ao))))))) (ay (aV fu)) (bA)) (ay (cz (je (iW (aY (mH hu) (bC (aK aQ (kv 3) (kv 8)) T.bL T.iu.M (n8 T) (by left) T.iu.b cN) (bC (aK aQ (kv 3) (kv 10)) T.bL T.iu.M (n8 T) (by left) T.iu.b cN)) (gK (aY (mH hu) (bC (aK aQ (kv 3) (kv 8)) T.bL T.iI.M (qB T) (by left) T.iI.b cN) (bC (aK aQ (kv 3) (kv 10)) T.bL T.iI.M (qB T) (by left) T.iI.b cN))))) (ay (aV fu)) (bA))))))) (ay (aV fu)))))))))))))) λ_ _ _ _ h=>LI rfl h
end
end K91
namespace PySem.W.Fast
def tw18026020256854009196:=0
def tw8074037111707566253:=0
def tw5371653914301858280:=0
def tw12215684273691170344:=0
def tw9047698064331514831:=0
def tw9084204539072553424:=0
def tw18121122723161518768:=0
def tw137747059310072089:=0
def tw5087152916094348407:=0
def tw5874806830163134972:=0
def tw12836795782048907393:=0
def tw11101810276437961791:=0
def tw15473781946162988121:=0
def tw10196738757456863741:=0
def tw17910478782017930119:=0
def tw4278908619678426151:=0
def tw11120798701021052319:=0
def tw1334551341775030740:=0
def tw4991350540318361966:=0
def tw8859643987858837959:=0
def tw9671281857539462599:=0
def tw9618810152207679099:=0
def tw4790534497668735743:=0
def tw1619919434062282011:=0
def tw8809065275904743321:=0
def tw17198300458899173567:=0
def tw13202263014306924822:=0
def tw10262092167584226025:=0
def tw4367660871917631777:=0
def tw9954810328662303974:=0
def tw11490310506374658177:=0
def tw15980413525006411497:=0
def tw3519957981466854171:=0
def tw6050910183509487393:=0
def tw11641794913243060086:=0
def tw18231357742055883590:=0
def tw4676123213648715110:=0
def tw8855235707989920309:=0
def tw15566196671311166831:=0
def tw8141663439235913403:=0
def tw10336158373345989559:=0
def tw12123487891799710565:=0
def tw17677297330316101113:=0
def tw10711542994603139576:=0
def tw8806440034818295738:=0
def tw885868596777232350:=0
def tw17841653862410861520:=0
def tw16340516193289659947:=0
def tw15085231055200454833:=0
def tw1660558501207338648:=0
def tw8182458093722568368:=0
def tw8533203932656843215:=0
def tw15168951476322409226:=0
def tw16367503286557126182:=0
def tw16471802080289720125:=0
def tw2669380466770260140:=0
def tw13885618220528944386:=0
def tw10495583570857354860:=0
def tw9663650189457743156:=0
def tw14707877939247618173:=0
def tw604153768737750624:=0
def tw8725655036332575959:=0
def tw14613907428441042606:=0
def tw8838351863696211445:=0
def tw11155242932333697015:=0
def tw12294756558813004253:=0
def tw16997500740480265201:=0
def tw12053850769238830363:=0
def tw8213195271850999861:=0
def tw1415800614476851303:=0
def tw12736184023251208255:=0
def tw10995268530793330330:=0
def tw14903315508432652498:=0
def tw660846705253810860:=0
def tw9324360172152934942:=0
def tw8638945246515317620:=0
def tw1031098527352215632:=0
def tw5124250642950278176:=0
def tw8515663508276390796:=0
def tw3403582565989393709:=0
def tw2753289359555991256:=0
def tw10900439126843395209:=0
def tw9016318872113675328:=0
def tw7202320431684654389:=0
def tw13129723334999945895:=0
def tw3798082704817245649:=0
def tw7263350972012682122:=0
def tw9861324188240352843:=0
def tw2354790815370649059:=0
def tw12209102132678915986:=0
def tw17816015903451138353:=0
def tw1348325602690144274:=0
def tw15380682652219839116:=0
def tw16435300293731891561:=0
def tw7626594876922514710:=0
def tw11034509532218594336:=0
def tw9647570300783666711:=0
def tw17094365958546640383:=0
def tw715121866867198248:=0
def tw3129315304011518475:=0
def tw12288715639523697842:=0
def tw14389288681648590666:=0
def tw7232345632004444808:=0
def tw15617476773701311457:=0
def tw11345632358444748502:=0
def tw9024641698385476378:=0
def tw691182170628084546:=0
def tw1775659935304198190:=0
def tw13591829999858466149:=0
def tw3230684843173243120:=0
def tw14430692876767787370:=0
def tw122395292291848345:=0
def tw11334507500034023174:=0
def tw8509850762556778352:=0
def tw6220687644878364294:=0
def tw11718889963870668217:=0
def tw8766852743398747782:=0
def tw3325863088325672548:=0
def tw9011258163090680293:=0
def tw12645798005051061473:=0
def tw7080514682908631959:=0
def tw15226288075008316903:=0
def tw12582360581014759191:=0
def tw1050130439883363588:=0
def tw3402538287274205123:=0
def tw10186889870555737652:=0
def tw17658396670084895922:=0
def tw15475443539126749215:=0
def tw8981792916737201201:=0
def tw7131852256996949648:=0
def tw8181671248534842519:=0
def tw4686391066981043405:=0
def tw9257735571220815951:=0
def tw1192496387851021363:=0
def tw5351885324784811923:=0
def tw9598751808077813994:=0
def tw7987793795476416822:=0
def tw7766873511522278571:=0
def tw18157235183101532810:=0
def tw2554810366656603084:=0
def tw2278602609589239089:=0
def tw15009043847972325424:=0
def tw17266708666983790211:=0
def tw18286810962718050364:=0
def tw1929795762697557664:=0
def tw9972245283614482413:=0
def tw1177677193883605671:=0
def tw123488114377281688:=0
end PySem.W.Fast
namespace K91
open PySem PySem.Spec PyProof.Rows L2 MM
theorem SQ{K:W.Frag}{h:ε}{mg:Str->ο ζ}(X:K.In h)(G:h.Ns mainGlobals mg)
  {az:θ} {dP cU di dQ eN:θ} {NV:Tok} {Iu:Tok} {NW:Tok} {Ed:Tok} {L3:Tok} {NX:Tok} {xr:Tok} {tM:Tok}
  (uq:W.nsIn K mainGlobals "Hand" =some (some (.ref az)))
  (ur:W.plainGet K az Str.empty=true)
  (uv:W.hasDictIn K az=true)
  (uw:W.plainOver K az=true)
  (uz:W.findIn K (.ref az) "__setattr__" =some (some (.builtin "object.__setattr__")))
  (uA:W.makesIn K az=true)
  (uB:W.keepIn K (.ref az)=true)
  (gf:W.findIn K (.ref az) "letters" =some none)
  (gX:W.findIn K (.ref az) "hands" =some none)
  (dX:W.findIn K (.ref az) "own_number" =some none)
  (fM:W.findIn K (.ref az) "renewals" =some none)
  (fN:W.findIn K (.ref az) "thing_of" =some none)
  (gY:W.findIn K (.ref az) "taken" =some none)
  (nB:W.nsIn K mainGlobals "NoHand" =some (some (.ref dP)))
  (iK:W.nsIn K mainGlobals "NoLetters" =some (some (.ref cU)))
  (kN:W.nsIn K mainGlobals "NoPlace" =some (some (.ref di)))
  (nC:W.nsIn K mainGlobals "NoRoom" =some (some (.ref dQ)))
  (kQ:W.nsIn K mainGlobals "NoThing" =some (some (.ref eN)))
  (nG:Xc K dP)
  (iL:Xc K cU)
  (kR:Xc K di)
  (nI:Xc K dQ)
  (kT:Xc K eN)
  (Fz:W.nsIn K mainGlobals "all" =some none)
  (Aj:W.nsIn K mainGlobals "dict" =some none)
  (FA:W.nsIn K mainGlobals "len" =some none)
  (Ak:W.nsIn K mainGlobals "list" =some none)
  (FD:W.nsIn K mainGlobals "max" =some none)
  (FE:W.nsIn K mainGlobals "min" =some none)
  (uC:W.nsIn K mainGlobals "range" =some none)
  (kU:W.nsIn K mainGlobals "reversed" =some none)
  (FF:W.nsIn K mainGlobals "set" =some none)
  (qC:W.nsIn K mainGlobals "sorted" =some none)
  (FG:W.nsIn K mainGlobals "str" =some none)
  (uD:W.nsIn K mainGlobals "SMALL" =some (some (.str "abcdefghijklmnopqrstuvwxyz" NV)))
  (nJ:W.nsIn K mainGlobals "LETTERS" =some (some (.int 0 Iu)))
  (uF:W.nsIn K mainGlobals "HANDS" =some (some (.int 1 NW)))
  (kW:W.nsIn K mainGlobals "RENEWALS" =some (some (.int 2 Ed)))
  (qD:W.nsIn K mainGlobals "THINGS" =some (some (.int 3 L3)))
  (uG:W.nsIn K mainGlobals "TAKEN" =some (some (.int 4 NX)))
  (gZ:W.nsIn K mainGlobals "THING_SIGNS" =some (some (.str "abcdefghijklmnopqrstuvwxyz0123456789" xr)))
  (gg:W.nsIn K mainGlobals "LONGEST_THING" =some (some (.int 12 tM)))
  (FH:Fq K "ask_letters" KN)
  (FI:Fq K "power" KO)
  (FJ:Fq K "figure_at" KP)
  (FL:Fq K "whole_of" KQ)
  (FN:Fq K "mark_of" KR)
  (FO:Fq K "ends_of" KY)
  (FP:Fq K "ask_room" KZ)
  (FQ:Fq K "high_whole_of" K0)
  (FT:Fq K "owned_below" K3)
  (FU:Fq K "owned_up_to_low" K4)
  (FW:Fq K "owned_ahead_of_high" K5)
  (FY:Fq K "counted_at" K6)
  (FZ:Fq K "room_at" K7)
  (F3:Fq K "nth_mark" K8)
  (F4:Fq K "least_counted" K9)
  (F5:Fq K "least_long" La)
  (F6:Fq K "told_number" Lb)
  (F7:Fq K "mark_between" Lc)
  (F8:Fq K "spread" Ld)
  (F9:Fq K "renewed_long" Le)
  (Ga:Fq K "renewed" Lf)
  (Gb:Fq K "renewal_rows" Lg)
  (Gd:Fq K "stem_between" Lh)
  (Ge:Fq K "rows_ahead" Li)
  (Gf:Fq K "first_new" Lj)
  (Gg:Fq K "carried_knowing" Ll)
  (Gh:Fq K "state_of" Lm)
  (Gi:Fq K "ask_meeting" Ln)
  (Gj:Fq K "carried_by_all" Lo)
  (Gk:Fq K "carried_marks" Lp)
  (Gm:Fq K "all_things" Lq)
  (Gp:Fq K "laid" Lr)
  (Gq:Fq K "is_thing" Lu)
  (Gr:Fq K "ask_thing" Lv)
  (Gs:Fq K "ask_place" Lw)
  (Gu:Fq K "ask_hand" Lx)
  (NY:Mq K az "__init__" "Hand.__init__" P4)
  (NZ:Mq K az "marks" "Hand.marks" P5)
  (N2:Mq K az "first_behind" "Hand.first_behind" P6)
  (N4:Mq K az "put" "Hand.put" P7)
  (N6:Mq K az "take" "Hand.take" P8)
  (N7:Mq K az "renew" "Hand.renew" P9)
  (N8:Mq K az "things" "Hand.things" Qa)
  (N9:Mq K az "age" "Hand.age" Qc)
  (Oa:Mq K az "state" "Hand.state" Qd)
  (Ob:Mq K az "lay" "Hand.lay" Qf)
  (Al:Fq K "_law_draw" DY)
  (uH:Fq K "_law_shown" zR)
  (qE:Fq K "_law_laid" wo)
  (Gv:Fq K "_law_put" Ly)
  (jw:Fq K "_law_renewed" lY)
  (Am:Fq K "_law_step" DZ)
  (Gw:Fq K "law" Lz)
  :∃a:Ad,Tx K mg a:=by
 obtain⟨wu,SR⟩:=FH.fx X G (ps:=["letters", "hands"]) (by exfalso);obtain⟨sJ,SS⟩:=FI.fx X G (ps:=["letters", "long"]) (by exfalso);obtain⟨qt,SV⟩:=FJ.fx X G (ps:=["mark", "place"]) (by exfalso);obtain⟨qu,SW⟩:=FL.fx X G (ps:=["letters", "mark", "long"]) (by exfalso);obtain⟨sL,SX⟩:=FN.fx X G (ps:=["letters", "number", "long"]) (by exfalso);obtain⟨nX,SY⟩:=FO.fx X G (ps:=["letters", "hands", "hand"]) (by exfalso);obtain⟨nY,S7⟩:=FP.fx X G (ps:=["low", "high"]) (by exfalso);obtain⟨sM,Tc⟩:=FQ.fx X G (ps:=["letters", "high", "long"]) (by exfalso);obtain⟨qv,Td⟩:=FT.fx X G (ps:=["letters", "ends", "number"]) (by exfalso);obtain⟨qw,Te⟩:=FU.fx X G (ps:=["letters", "ends", "low_whole"]) (by exfalso);obtain⟨sN,Tf⟩:=FW.fx X G (ps:=["letters", "ends", "high", "high_whole", "long", "beginnings"]) (by exfalso);obtain⟨sO,Tg⟩:=FY.fx X G (ps:=["letters", "ends", "low", "high", "long", "beginnings"]) (by exfalso);obtain⟨wz,Th⟩:=FZ.fx X G (ps:=["letters", "hands", "hand", "low", "high", "long"]) (by exfalso);obtain⟨sP,Ti⟩:=F3.fx X G (ps:=["letters", "hands", "hand", "low", "high", "long", "number"]) (by exfalso);obtain⟨sQ,Tj⟩:=F4.fx X G (ps:=["letters", "ends", "low", "high", "many", "beginnings"]) (by exfalso);obtain⟨wA,Tn⟩:=F5.fx X G (ps:=["letters", "hands", "hand", "low", "high", "many"]) (by exfalso);obtain⟨wB,To⟩:=F6.fx X G (ps:=["low", "high", "many"]) (by exfalso);obtain⟨wC,Tp⟩:=F7.fx X G (ps:=["letters", "hands", "hand", "low", "high"]) (by exfalso);obtain⟨wD,Tq⟩:=F8.fx X G (ps:=["many", "whole"]) (by exfalso);obtain⟨wF,Tr⟩:=F9.fx X G (ps:=["letters", "many"]) (by exfalso);obtain⟨wG,Tt⟩:=Ga.fx X G (ps:=["letters", "many"]) (by exfalso);obtain⟨wH,Tu⟩:=Gb.fx X G (ps:=["letters", "known"]) (by exfalso);obtain⟨wI,Tv⟩:=Gd.fx X G (ps:=["letters", "low", "high"]) (by exfalso);obtain⟨wJ,Tw⟩:=Ge.fx X G (ps:=["rows", "mark"]) (by exfalso);obtain⟨sR,Tz⟩:=Gf.fx X G (ps:=["rows"]) (by exfalso);obtain⟨wK,TF⟩:=Gg.fx X G (ps:=["letters", "rows", "mark", "stems"]) (by exfalso);obtain⟨qy,TH⟩:=Gh.fx X G (ps:=["letters", "hands", "renewals", "things", "taken"]) (by exfalso);obtain⟨sS,TJ⟩:=Gi.fx X G (ps:=["fewer", "more"]) (by exfalso);obtain⟨wL,TM⟩:=Gj.fx X G (ps:=["letters", "renewals", "mark", "stems"]) (by exfalso);obtain⟨sU,TN⟩:=Gk.fx X G (ps:=["state", "renewals"]) (by exfalso);obtain⟨sV,TQ⟩:=Gm.fx X G (ps:=["one", "other"]) (by exfalso);obtain⟨nZ,TR⟩:=Gp.fx X G (ps:=["one", "other"]) (by exfalso);obtain⟨wM,TU⟩:=Gq.fx X G (ps:=["text"]) (by exfalso);obtain⟨wN,TV⟩:=Gr.fx X G (ps:=["text"]) (by exfalso);obtain⟨sW,TX⟩:=Gs.fx X G (ps:=["place", "many"]) (by exfalso);obtain⟨wO,TY⟩:=Gu.fx X G (ps:=["number", "hands"]) (by exfalso);obtain⟨BV,Q3⟩:=NY.fx (ps:=["self", "letters", "hands", "number"]) (by exfalso);obtain⟨iu,U9⟩:=NZ.fx (ps:=["self"]) (by exfalso);obtain⟨BW,Va⟩:=N2.fx (ps:=["self", "low"]) (by exfalso);obtain⟨BX,Vb⟩:=N4.fx (ps:=["self", "place", "thing"]) (by exfalso);obtain⟨BY,Vc⟩:=N6.fx (ps:=["self", "place"]) (by exfalso);obtain⟨BZ,Vd⟩:=N7.fx (ps:=["self"]) (by exfalso);obtain⟨iI,Ve⟩:=N8.fx (ps:=["self"]) (by exfalso);obtain⟨B7,Vf⟩:=N9.fx (ps:=["self"]) (by exfalso);obtain⟨lz,Vg⟩:=Oa.fx (ps:=["self"]) (by exfalso);obtain⟨nK,Vh⟩:=Ob.fx (ps:=["self", "state"]) (by exfalso);obtain⟨dR,Q4⟩:=Al.fx X G (ps:=["_law_script", "_law_k", "_law_many"]) (by exfalso);obtain⟨jv,Oc⟩:=uH.fx X G (ps:=["_law_hand", "_law_one", "_law_seen", "_law_before"]) (by exfalso);obtain⟨fE,L4⟩:=qE.fx X G (ps:=["_law_model", "_law_one", "_law_other", "_law_gone"]) (by exfalso);obtain⟨wQ,TZ⟩:=Gv.fx X G (ps:=["_law_script", "_law_k", "_law_hand", "_law_number", "_law_hands", "_law_model"]) (by exfalso);obtain⟨fF,Ci⟩:=jw.fx X G (ps:=["_law_hand", "_law_letters", "_law_model", "_law_gone"]) (by exfalso);obtain⟨o9,Q5⟩:=Am.fx X G (ps:=["_law_script", "_law_k", "_law_all_hands", "_law_letters", "_law_model", "_law_gone"]) (by exfalso);obtain⟨sY,T9⟩:=Gw.fx X G (ps:=["_law_script"]) (by exfalso);exact⟨⟨az,dP,cU,di,dQ,eN,wu,sJ,qt,qu,sL,nX,nY,sM,qv,qw,sN,sO,wz,sP,sQ,wA,wB,wC,wD,wF,wG,wH,wI,wJ,sR,wK,qy,sS,wL,sU,sV,nZ,wM,wN,sW,wO,BV,iu,BW,BX,BY,BZ,iI,B7,lz,nK,dR,jv,fE,wQ,fF,o9,sY⟩,⟨wb X G Fz,wb X G Aj,wb X G FA,wb X G Ak,wb X G FD,wb X G FE,wb X G uC,wb X G kU,wb X G FF,wb X G qC,wb X G FG,⟨_,Kj X G uD⟩,⟨_,Kj X G nJ⟩,⟨_,Kj X G uF⟩,⟨_,Kj X G kW⟩,⟨_,Kj X G qD⟩,⟨_,Kj X G uG⟩,⟨_,Kj X G gZ⟩,⟨_,Kj X G gg⟩,Kj X G uq,⟨ur,uv,uw,uz⟩,⟨uA,Q3.M.at_,Q3.M.fn,uB⟩,gf,gX,dX,fM,fN,gY,Kj X G nB,nG,Kj X G iK,iL,Kj X G kN,kR,Kj X G nC,nI,Kj X G kQ,kT,SR,SS,SV,SW,SX,SY,S7,Tc,Td,Te,Tf,Tg,Th,Ti,Tj,Tn,To,Tp,Tq,Tr,Tt,Tu,Tv,Tw,Tz,TF,TH,TJ,TM,TN,TQ,TR,TU,TV,TX,TY,Q3,U9,Va,Vb,Vc,Vd,Ve,Vf,Vg,Vh,Q4,Oc,L4,TZ,Ci,Q5,T9⟩⟩
theorem walk{l:W.OpenLaw}{q:ι}{loose:VI Str}{XP:(Str->ο ζ)->ε->Prop}{YP:ν->ε->Prop}{d:DefRec}{K:Params->W.Frag}(hn:l.most=some 63)(hdf:d.params.defaults=[])
  (hY:∀(w:ν) (h:ε),YP w h->(K w.params).In h)
  (F:∀(w:ν) (mg:Str->ο ζ) (fa:θ) (h:ε),(K w.params).In h->h.Ns mainGlobals mg->mg d.name=some (.ref fa)->
   ∃fd:FuncData,(∀(s:η) (u:ζ),BindsTo s fd ⟨[u],[]⟩ [("_law_script",u)])/\∀base:ε,(K w.params).In base->base.Ns mainGlobals mg->jy l.prog w (K w.params) mg base iM 13 fa fd ["_law_script"] (Fi (K w.params))):
  W.WalkO q loose XP YP l.row.toRowW d [] (λf vs=>PySem.call f vs):=
 L2.Ex (n:=63) (k:=13) (x:="_law_script") (CX:=λ_=>iM) (sp:=λw=>Fi (K w.params)) hn .(0) hdf ⟨rfl,by decide,by decide⟩ hY F (λ_ _ a ns hl _ hS=>⟨a,ns,rfl,hS,hl,λ_=>rfl⟩) λ_ _ _ _ _ z=>z
end K91
open PySem PySem.W PyProof.Rows
set_option maxRecDepth 100000 in
set_option maxHeartbeats 0 in
theorem PySem.Challenge.cw_shelfmark_k91_whole_hands_meet_holds : PySem.Challenge.rw_shelfmark_k91_whole_hands_meet.Holds := by
  w_on; o_law; k_head; (case hw=>w_witness2)
  k_fill
  refine K91.walk (l:=PySem.Challenge.rw_shelfmark_k91_whole_hands_meet) rfl rfl (fun w h a7=>PySem.W.kIn_of a7) ?F
  case F=>
    intro w mg fa h KX G hmg;have M:∃ a:K91.Ad,K91.Tx (L2.Ud KX) mg a:=by
      dsimp only [L2.Ud];refine' K91.SQ KX G (uq:=?uq) (ur:=?ur) (uv:=?uv) (uw:=?uw) (uz:=?uz) (uA:=?uA) (uB:=?uB) (gf:=?gf) (gX:=?gX) (dX:=?dX) (fM:=?fM) (fN:=?fN) (gY:=?gY) (nB:=?nB) (iK:=?iK) (kN:=?kN) (nC:=?nC) (kQ:=?kQ) (nG:=?nG) (iL:=?iL) (kR:=?kR) (nI:=?nI) (kT:=?kT) (Fz:=?Fz) (Aj:=?Aj) (FA:=?FA) (Ak:=?Ak) (FD:=?FD) (FE:=?FE) (uC:=?uC) (kU:=?kU) (FF:=?FF) (qC:=?qC) (FG:=?FG) (uD:=?uD) (nJ:=?nJ) (uF:=?uF) (kW:=?kW) (qD:=?qD) (uG:=?uG) (gZ:=?gZ) (gg:=?gg) (FH:=?FH) (FI:=?FI) (FJ:=?FJ) (FL:=?FL) (FN:=?FN) (FO:=?FO) (FP:=?FP) (FQ:=?FQ) (FT:=?FT) (FU:=?FU) (FW:=?FW) (FY:=?FY) (FZ:=?FZ) (F3:=?F3) (F4:=?F4) (F5:=?F5) (F6:=?F6) (F7:=?F7) (F8:=?F8) (F9:=?F9) (Ga:=?Ga) (Gb:=?Gb) (Gd:=?Gd) (Ge:=?Ge) (Gf:=?Gf) (Gg:=?Gg) (Gh:=?Gh) (Gi:=?Gi) (Gj:=?Gj) (Gk:=?Gk) (Gm:=?Gm) (Gp:=?Gp) (Gq:=?Gq) (Gr:=?Gr) (Gs:=?Gs) (Gu:=?Gu) (NY:=?NY) (NZ:=?NZ) (N2:=?N2) (N4:=?N4) (N6:=?N6) (N7:=?N7) (N8:=?N8) (N9:=?N9) (Oa:=?Oa) (Ob:=?Ob) (Al:=?Al) (uH:=?uH) (qE:=?qE) (Gv:=?Gv) (jw:=?jw) (Am:=?Am) (Gw:=?Gw)
      (case uq|ur|uv|uw|uz|uA|uB|gf|gX|dX|fM|fN|gY|nB|iK|kN|nC|kQ=>k_is)
      (case nG|iL|kR|nI|kT=>unfold L2.Xc; k_exc)
      (case Fz|Aj|FA|Ak|FD|FE|uC|kU|FF|qC|FG|uD|nJ|uF|kW|qD|uG|gZ|gg=>k_is)
      (case FH|FI|FJ|FL|FN|FO|FP|FQ|FT|FU|FW|FY|FZ|F3|F4|F5|F6|F7|F8|F9|Ga|Gb|Gd|Ge|Gf|Gg|Gh|Gi|Gj|Gk|Gm|Gp|Gq|Gr|Gs|Gu=>apply L2.bS <;> k_is)
      (case NY|NZ|N2|N4|N6|N7|N8|N9|Oa|Ob=>apply L2.nR <;> k_is)
      (case Al|uH|qE|Gv|jw|Am|Gw=>apply L2.bS <;> k_is)
    obtain ⟨a,T⟩:=M;have e0:=hmg.symm.trans T.sY.g;cases e0;exact ⟨_,T.sY.F.bt (by exfalso),fun base _ _=>K91.Q2 T⟩
