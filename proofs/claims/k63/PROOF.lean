import PyProof.Rows.All
import Wide.All
import OpenK.AllK
import Wide.FinOn
import Lean
import PyProof.EqAt
import PyProof.EqKinds
import PyProof.TupleCall
import KE.IntBitsLaws
import PyProof.Rows.CallKwBuiltin
import KE.KRevIter
import KE.KDictSum
import PyProof.Rows.SetFrom
import PyProof.DictStraight
import PyProof.FactsAll.set_1
import PyProof.DictIter
import PyProof.DictWalks
import PyProof.FactsAll.set_2
import PyProof.AttrMissHeap
import KE.KDictOf
import KE.KSortTup
import KE.KItemsList
import PyProof.LongRange
import PyProof.Rows.FStr
import PyProof.Rows.StrNews
import PyProof.StrLawsTight
import PyProof.StrLawsChain
import KE.KIntText
import PySem.Challenge.RW_shelfmark_k63_any_way_of_laying
set_option Elab.async false
set_option linter.all false
set_option maxRecDepth 100000
set_option maxHeartbeats 4000000
local macro_rules | `(tactic| omega) => `(tactic| lia)
local macro_rules | `(tactic| rfl') => `(tactic| kernel_rfl)
open Nat (lt_of_lt_of_le ne_of_lt le_of_lt ne_of_gt le_refl zero_le lt_succ_self le_succ lt_or_ge lt_succ_of_lt pow_succ mul_le_mul_right add_mul one_mul mul_comm lt_trichotomy mod_lt mod_eq_of_lt div_add_mod add_zero eq_or_lt_of_le not_lt_zero min_eq_left sub_self)
open List (mem_filter mem_range filterMap_cons mem_cons_self mem_cons_of_mem mem_cons mem_append mem_append_left mem_filterMap mem_append_right length_cons map_cons length_map append_nil nodup_cons length_take getElem?_append_right getElem?_map mem_of_getElem? length_append length_drop size_toArray any_cons map_nil lookup_cons mem_map mem_singleton drop_zero take_length length_nil drop_eq_getElem_cons getElem?_eq_getElem map_map pairwise_cons map_id all_eq_true getElem?_range getElem_mem getD_eq_getElem?_getD not_mem_nil cons_ne_nil cons_lt_cons_iff length_eq_zero_iff append_assoc nil_append replicate_succ cons_append filter_cons filter_eq_nil_iff pairwise_map length_pos_iff find?_cons nodup_nil nodup_append map_append length_range getElem?_eq_none pairwise_iff_getElem getElem_map replicate_zero set_cons_zero set_cons_succ length_filter_le range_succ filter_append drop_length perm_ext_iff_of_nodup mem_iff_getElem take_append_drop take_add_one getElem?_of_mem mem_map_of_mem drop_subset take_take)
open Int (toNat_natCast eq_ofNat_of_zero_le emod_nonneg natCast_add natCast_mul)
open Bool (and_eq_true false_eq_true)
open Option (map_some map_eq_some_iff)
abbrev Uc:=List Nat
abbrev Ud:=List Uc
abbrev Ue:=List (Uc×Uc)
abbrev Ug:=Option Uc
abbrev Uh.{u}(α:Type u):=List α
namespace L2
open PySem PySem.Spec PyProof.Rows
inductive Key where
 |inl (i:Int)|inr (x:Str)|non
deriving DecidableEq
def O8:Value->Bool
 |.none=>true
 |_=>false
def qh:Key->Value->Bool
 |.inl k,v=>Value.isInt k v
 |.inr x,v=>Value.isStrOf x v
 |.non,v=>O8 v
def RP(w:World):Key->Int
 |.inl k=>hashInt k
 |.inr x=>hashStr w x
 |.non=>(reduceHash 4238894112)
theorem cR:∀{k:Key} {v:Value},qh k v=true->(∃i t,k=Key.inl i/\v=Value.int i t)\/(∃x t,k=Key.inr x/\v=Value.str x t)\/(k=Key.non/\v=Value.none)
 |.inl i,v,h=>by
  obtain⟨t,e⟩:=Value.isInt_shape (k:=i) (v:=v) h;exact .inl ⟨i,t,rfl,e⟩
 |.inr x,v,h=>by
  obtain⟨t,e⟩:=Value.isStrOf_shape (x:=x) (v:=v) h;exact .inr (.inl ⟨x,t,rfl,e⟩)
 |.non,v,h=>by
  cases v<;>first|exact .inr (.inr ⟨rfl,rfl⟩)|exact nomatch (show false=true from h)
theorem Et(i:Int)(t:Tok):qh (.inl i) (.int i t)=true:=by simp[qh,Value.isInt]
theorem Eu(x:Str)(t:Tok):qh (.inr x) (.str x t)=true:=by simp[qh,Value.isStrOf]
theorem MJ(a b:Int):decide (Key.inl a=Key.inl b)=(a==b):=by
 by_cases e:a=b
 ·subst e;simp
 ·rw[decide_eq_false (λq=>e (Key.inl.inj q))];exact(beq_eq_false_iff_ne.mpr e).symm
theorem MK(a b:Str):decide (Key.inr a=Key.inr b)=decide (a=b):=by
 by_cases e:a=b
 ·subst e;simp
 ·rw[decide_eq_false (λq=>e (Key.inr.inj q)),decide_eq_false e]
theorem Gj{prog:Program}{w:World}{A:Around}{E:Value->Shared->Prop}{s:Shared}{Q:Int->Shared->Prop}(h:Q (reduceHash 4238894112) {s with toks:=s.toks+1}):wpAny (model prog w) A (pyHash .none) Q E s:=
 W.pyHash_slot (T:="NoneType") rfl F.slot_NoneType_hash F.entry_NoneType_hash (F.args_NoneType_hash_1 _) (beq_builtin_none _) (.inl rfl) (wpAny_bind (wpAny_pure (wpAny_bind (wpAny_mkInt (wpAny_pure ⟨_,_,rfl,h⟩)))))
theorem ML{prog:Program}{w:World}{A:Around}{E:Value->Shared->Prop}{s:Shared}{Q:Bool->Shared->Prop}(h:Q true s):wpAny (model prog w) A (eqBool .none .none) Q E s:=by
 unfold eqBool;refine wpAny_holding ?_;rw[if_pos (by decide)];exact wpAny_bind (wpAny_rule (wpAny_pure h))
def bY(prog:Program)(w:World):PySem.KeyKind prog w Key where
 is:=qh
 hash:=RP w
 inj:=λv a b ha hb=>by
  rcases cR ha with⟨i,t,rfl,rfl⟩|⟨x,t,rfl,rfl⟩|⟨rfl,rfl⟩<;>rcases cR hb with⟨j,u,rfl,e⟩|⟨y,u,rfl,e⟩|⟨rfl,e⟩<;>
   first|(cases e;rfl)|cases e
 byValue:=λk v h=>by
  rcases cR h with⟨i,t,rfl,rfl⟩|⟨x,t,rfl,rfl⟩|⟨rfl,rfl⟩<;>rfl
 pyHash:=λhv h=>by
  rcases cR hv with⟨i,t,rfl,rfl⟩|⟨x,t,rfl,rfl⟩|⟨rfl,rfl⟩
  ·exact wpAny_pyHash_int h
  ·exact wpAny_pyHash_str h
  ·exact Gj h
 eqBool:=λhu hv h=>by
  rcases cR hu with⟨i,t,rfl,rfl⟩|⟨x,t,rfl,rfl⟩|⟨rfl,rfl⟩<;>rcases cR hv with⟨j,u,rfl,rfl⟩|⟨y,u,rfl,rfl⟩|⟨rfl,rfl⟩
  ·rw[MJ] at h;exact wpAny_eqBool_int h
  ·exact SeqAt.EqAt.int_str i t y u _ _ _ _ h
  ·exact SeqAt.EqAt.int_none i t _ _ _ _ h
  ·exact SeqAt.EqAt.str_int x t j u _ _ _ _ h
  ·rw[MK] at h;exact wpAny_eqBool_str h
  ·exact SeqAt.EqAt.str_none x t _ _ _ _ h
  ·exact SeqAt.EqAt.none_int j u _ _ _ _ h
  ·exact SeqAt.EqAt.none_str y u _ _ _ _ h
  ·exact ML h
 «strs»:=λk x t v h=>by
  rcases cR h with⟨i,u,rfl,e⟩|⟨y,u,rfl,e⟩|⟨rfl,e⟩
  ·exact nomatch e
  ·injection e with e1 _
   subst e1;cases v<;>rfl
  ·exact nomatch e
theorem yp(prog:Program)(w:World)(i:Int)(t:Tok):(bY prog w).is (.inl i) (.int i t)=true:=Et i t
theorem yq(prog:Program)(w:World)(x:Str)(t:Tok):(bY prog w).is (.inr x) (.str x t)=true:=Eu x t
inductive V where
 |non|bl (b:Bool)|int (i:Int)|str (x:Str)|byt (b:Array UInt8)|flt (b:UInt64)|ref (a:Addr)|ty (n:String)
 deriving DecidableEq
def RelV:V->Value->Prop
 |.non,u=>u=Value.none
 |.bl b,u=>u=Value.bool b
 |.int i,u=>∃t,u=Value.int i t
 |.str x,u=>∃t,u=Value.str x t
 |.byt b,u=>∃t,u=Value.bytes b t
 |.flt b,u=>∃t,u=Value.float b t
 |.ref a,u=>u=Value.ref a
 |.ty n,u=>u=Value.type n
abbrev Vals:Uh V->Uh Value->Prop:=Paired RelV
theorem Vals.length{xs:Uh V}{us:Uh Value}(r:Vals xs us):xs.length=us.length:=Paired.length r
theorem Vals.get:∀{xs:Uh V} {us:Uh Value} {i:Nat} {x:V},Vals xs us->xs[i]?=some x->∃u,us[i]?=some u/\RelV x u
 |_,_,_,_,.nil,e=>by simp at e
 |_,_,0,_,.cons r _,e=>by simp at e;subst e;exact⟨_,rfl,r⟩
 |_,_,i+1,x,.cons _ t,e=>by
  obtain⟨u,h1,h2⟩:=Vals.get (i:=i) (x:=x) t (by simpa using e);exact⟨u,by simpa using h1,h2⟩
theorem Vals.append:∀{xs ys:Uh V} {us ws:Uh Value},Vals xs us->Vals ys ws->Vals (xs++ys) (us++ws)
 |_,_,_,_,.nil,s=>s
 |_,_,_,_,.cons r t,s=>.cons r (Vals.append t s)
theorem Vals.take:∀{xs:Uh V} {us:Uh Value} (n:Nat),Vals xs us->Vals (xs.take n) (us.take n)
 |_,_,0,_=>.nil
 |_,_,_+1,.nil=>.nil
 |_,_,n+1,.cons r t=>.cons r (Vals.take n t)
theorem Vals.drop:∀{xs:Uh V} {us:Uh Value} (n:Nat),Vals xs us->Vals (xs.drop n) (us.drop n)
 |_,_,0,r=>r
 |_,_,_+1,.nil=>.nil
 |_,_,n+1,.cons _ t=>Vals.drop n t
def kr:Option V->Option Value->Prop
 |some v,some u=>RelV v u
 |none,none=>True
 |_,_=>False
def KV{κ:Type}:Uh (κ×V)->Uh (κ×Value)->Prop:=Paired λ(p:κ×V) (q:κ×Value)=>p.1=q.1/\RelV p.2 q.2
def kV:Key->V
 |.inl i=>.int i
 |.inr x=>.str x
 |.non=>.non
inductive HO where
 |lst (xs:Uh V)
 |tup (xs:Uh V)
 |dK (kvs:Uh (Key×V))|dT (kvs:Uh (Uh Key×V))
 |set (S:Int->Bool) (n:Nat)
 |ins (C dx:Addr) (fs:Uh (Str×V))
 |own (x:Addr)
 |xd (fs:Uh (Str×V))
 |met (f x:Addr)
 |rng (lo hi:Int)
 |frz (o:Obj) (u:HO)
 |tbl (ps:Array Value)
 |ext (φ:Heap->Prop)
abbrev Hp:=Addr->Option HO
def upd(H:Hp)(a:Addr)(o:HO):Hp:=λb=>if b=a then some o else H b
theorem aq{H:Hp}{a:Addr}{o:HO}:upd H a o a=some o:=by unfold upd;rw[if_pos rfl]
theorem aE{H:Hp}{a b:Addr}{o:HO}(h:b≠a):upd H a o b=H b:=by unfold upd;rw[if_neg h]
theorem O9{H:Hp}{a b:Addr}{o u:HO}(h:H a=some o)(h':H b=some u)(d:o≠u):a≠b:=by
 intro e;subst e;rw[h] at h';exact d (Option.some.inj h')
theorem fc{H:Hp}{a b:Addr}{o:HO}(h:H a=some o)(h':H b=none):a≠b:=by
 intro e;subst e;rw[h] at h';cases h'
section
variable(P:Program)(w:World)
def cI(H:Hp)(h:Heap)(a:Addr):HO->Prop
 |.lst xs=>xs.length<=sizeLine/\∃(its:Uh Value) (n:Nat),Vals xs its/\h.get? a=some {cls:=.type "list",data:=.seq its.toArray n}
 |.tup xs=>xs.length<=sizeLine/\∃its:Uh Value,Vals xs its/\IsTup h a its.toArray
 |.dK kvs=>kvs.length<=sizeLine/\(a==sysModules)=false/\∃vs,KV kvs vs/\h.DictOf (bY P w) a vs
 |.dT kvs=>kvs.length<=sizeLine/\(a==sysModules)=false/\∃xs:Uh (Uh Key×Addr×Value),
   Paired (λ(p:Uh Key×V) (q:Uh Key×Addr×Value)=>p.1=q.1/\H q.2.1=some (.tup (p.1.map kV))/\RelV p.2 q.2.2) kvs xs/\
   ∃o es ep,h.get? a=some o/\o.ExactDict/\o.data=.dict es ep/\es.toList=xs.map (entryOfKey (tupleKind (bY P w)))/\(xs.map (·.1)).Nodup
 |.set S n=>h.SetOf (intKind P w) a S n
 |.ins C dx fs=>H dx=some (.own a)/\fs.length<=1000/\dx≠a/\h.get? a=some (W.instObj C dx)/\
   ∃mA,h.Ns1 dx mA/\(∀f,kr (fs.lookup f) (mA f))/\PySem.Within mA (fs.map (·.1))
 |.own _=>∃o,h.get? a=some o
 |.xd fs=>∃mA,h.Ns1 a mA/\∀f,kr (fs.lookup f) (mA f)
 |.rng lo hi=>∃t u v,h.get? a=some {cls:=.type "range",data:=.fields #[.int lo t,.int hi u,.int 1 v] }
 |.frz o u=>h.get? a=some o/\cI H h a u
 |.tbl ps=>h.get? a=some {cls:=.none,data:=.fields ps}
 |.met f x=>h.get? a=some (W.methodObj (.ref f) (.ref x))
 |.ext φ=>φ h/\(∃o,h.get? a=some o)/\∀h1 h2:Heap,φ h1->(∀o,h1.get? a=some o->h2.get? a=some o)->φ h2
def lE(H:Hp)(h:Heap):Prop:=∀a o,H a=some o->cI P w H h a o
end
section
variable{P:Program}{w:World}{H H':Hp}{h h':Heap}{a:Addr}{o:HO}
theorem cI.lt(x:cI P w H h a o):a<h.objs.size:=by
 cases o with
 |lst xs=>obtain⟨_,_,_,_,e⟩:=x;exact Heap.lt_size e
 |tup xs=>obtain⟨_,_,_,p⟩:=x;exact p.lt
 |dK kvs=>obtain⟨_,_,_,_,o,_,_,e,_⟩:=x;exact Heap.lt_size e
 |dT kvs=>obtain⟨_,_,_,_,o,_,_,e,_⟩:=x;exact Heap.lt_size e
 |set S n=>obtain⟨o,_,_,_,e,_⟩:=x;exact Heap.lt_size e
 |ins C dx fs=>obtain⟨_,_,_,e,_⟩:=x;exact Heap.lt_size e
 |own y=>obtain⟨_,e⟩:=x;exact Heap.lt_size e
 |xd fs=>obtain⟨_,⟨_,_,_,e,_⟩,_⟩:=x;exact Heap.lt_size e
 |rng lo hi=>obtain⟨_,_,_,e⟩:=x;exact Heap.lt_size e
 |frz ob u=>obtain⟨e,_⟩:=x;exact Heap.lt_size e
 |tbl ps=>exact Heap.lt_size (show h.get? a=some _ from x)
 |met f y=>exact Heap.lt_size (show h.get? a=some _ from x)
 |ext φ=>obtain⟨_,⟨_,e⟩,_⟩:=x;exact Heap.lt_size e
theorem Paired.MN{α β:Type}{F G:α->β->Prop}:∀{l₁:Uh α} {l₂:Uh β},Paired F l₁ l₂->(∀a b,F a b->G a b)->Paired G l₁ l₂
 |_,_,.nil,_=>.nil
 |_,_,.cons r t,f=>.cons (f _ _ r) (Paired.MN t f)
theorem cI.stay(x:cI P w H h a o)(k:∀b u,(b=a\/H b=some (.own a))->h.get? b=some u->h'.get? b=some u)
  (ho:∀b,H b=some (.own a)->H' b=some (.own a)) (ht:∀b xs,H b=some (.tup xs)->H' b=some (.tup xs)):cI P w H' h' a o:=by
 induction o with
 |lst xs=>obtain⟨z,its,n,r,e⟩:=x;exact⟨z,its,n,r,k _ _ (.inl rfl) e⟩
 |tup xs=>obtain⟨z,its,r,ob,e,c⟩:=x;exact⟨z,its,r,ob,k _ _ (.inl rfl) e,c⟩
 |dK kvs=>obtain⟨z,y,vs,r,ob,es,ep,e,c⟩:=x;exact⟨z,y,vs,r,ob,es,ep,k _ _ (.inl rfl) e,c⟩
 |dT kvs=>
  obtain⟨z,y,xs,r,ob,es,ep,e,c⟩:=x;exact⟨z,y,xs,Paired.MN r λp q z=>⟨z.1,ht _ _ z.2.1,z.2.2⟩,ob,es,ep,k _ _ (.inl rfl) e,c⟩
 |set S n=>obtain⟨ob,es,ep,t,e,c⟩:=x;exact⟨ob,es,ep,t,k _ _ (.inl rfl) e,c⟩
 |ins C dx fs=>
  obtain⟨d,z,ne,e,mA,⟨od,es,ep,e2,c⟩,r⟩:=x;exact⟨ho _ d,z,ne,k _ _ (.inl rfl) e,mA,⟨od,es,ep,k _ _ (.inr d) e2,c⟩,r⟩
 |own y=>obtain⟨ob,e⟩:=x;exact⟨ob,k _ _ (.inl rfl) e⟩
 |xd fs=>obtain⟨mA,⟨od,es,ep,e,c⟩,r⟩:=x;exact⟨mA,⟨od,es,ep,k _ _ (.inl rfl) e,c⟩,r⟩
 |rng lo hi=>obtain⟨t,u,v,e⟩:=x;exact⟨t,u,v,k _ _ (.inl rfl) e⟩
 |frz ob u ih=>obtain⟨e,q⟩:=x;exact⟨k _ _ (.inl rfl) e,ih q⟩
 |tbl ps=>
  have e:h.get? a=some {cls:=.none,data:=.fields ps}:=x;show h'.get? a=some {cls:=.none,data:=.fields ps};exact k a _ (.inl rfl) e
 |met f y=>
  have e:h.get? a=some (W.methodObj (.ref f) (.ref y)):=x;show h'.get? a=some (W.methodObj (.ref f) (.ref y));exact k a _ (.inl rfl) e
 |ext φ=>obtain⟨p,⟨o,e⟩,st⟩:=x;exact⟨st _ _ p λo q=>k _ _ (.inl rfl) q,⟨o,k _ _ (.inl rfl) e⟩,st⟩
theorem lE.lt(x:lE P w H h)(e:H a=some o):a<h.objs.size:=(x a o e).lt
theorem lE.fresh(x:lE P w H h)(e:h.objs.size<=a):H a=none:=by
 cases q:H a with
 |none=>rfl
 |some u=>exact absurd (lt_of_lt_of_le (x.lt q) e) (Nat.lt_irrefl _)
theorem lE.kept(x:lE P w H h)(k:∀b u,h.get? b=some u->h'.get? b=some u):lE P w H h':=λa o e=>
 (x a o e).stay (λb u _ q=>k b u q) (λ_ q=>q) λ_ _ q=>q
theorem lE.laid(x:lE P w H h)(k:∀b u,h.get? b=some u->h'.get? b=some u)(hp:h.objs.size<=a)(new:cI P w (upd H a o) h' a o):lE P w (upd H a o) h':=λb u e=>by
 have hn:=x.fresh hp
 by_cases hb:b=a
 ·subst hb;rw[aq] at e;cases e;exact new
 ·rw[aE hb] at e;exact(x b u e).stay (λc v _ q=>k c v q) (λc q=>by rw[aE (fc q hn)];exact q) λc xs q=>by rw[aE (fc q hn)];exact q
end
def Rd(H:Hp)(a:Addr)(u:HO):Prop:=H a=some u\/∃o,H a=some (.frz o u)
theorem Rd.ok{P:Program}{w:World}{H:Hp}{h:Heap}{a:Addr}{u:HO}(r:Rd H a u)(x:lE P w H h):cI P w H h a u:=by
 rcases r with r|⟨o,r⟩
 ·exact x a u r
 ·obtain⟨_,q⟩:=x a _ r;exact q
def Pa:Option HO->Prop
 |some (.lst _)=>True
 |some (.dK _)=>True
 |some (.dT _)=>True
 |some (.set _ _)=>True
 |some (.ins _ _ _)=>True
 |some (.ext _)=>True
 |_=>False
section
variable{P:Program}{w:World}{H:Hp}{h h':Heap}{x e:Addr}{o':HO}
theorem lE.write(ok:lE P w H h)(mu:Pa (H x))(he:e=x\/H e=some (.own x))(k:∀b u,b≠e->h.get? b=some u->h'.get? b=some u)(heo:∃u,h'.get? e=some u)
  (new:cI P w (upd H x o') h' x o'):lE P w (upd H x o') h':=λb u q=>by
 have Pb:∀c y,H c=some (.own y)->c≠x:=λc y r z=>by subst z;rw[r] at mu;exact mu
 have RQ:∀c xs,H c=some (.tup xs)->c≠x:=λc xs r z=>by subst z;rw[r] at mu;exact mu
 by_cases hb:b=x
 ·subst hb;rw[aq] at q;cases q;exact new
 ·rw[aE hb] at q
  by_cases hbe:b=e
  ·have q':H b=some (.own x):=by
    rcases he with z|z
    ·exact absurd (hbe.trans z) hb
    ·rw[hbe];exact z
   rw[q] at q';cases q';obtain⟨v,hv⟩:=heo;exact⟨v,by rw[hbe];exact hv⟩
  ·refine(ok b u q).stay (λc v hc r=>k c v ?_ r) (λc r=>by rw[aE (Pb c b r)];exact r) λc xs r=>by rw[aE (RQ c xs r)];exact r
   rcases hc with rfl|hc
   ·exact hbe
   ·rintro rfl
    rcases he with z|z
    ·exact Pb c b hc z
    ·rw[hc] at z;cases z;exact hb rfl
end
structure Un(fs ex:Uh Addr)(H H':Hp)(h h':Heap):Prop where
 keep:∀b o,h.get? b=some o->H b=none->b∉fs->b∉ex->h'.get? b=some o
 slot:∀b o,h.get? b=some o->H b=none->b∈fs->b∉ex->∃sl,h'.get? b=some {o with slots:=sl}
 free:∀b o,h.get? b=some o->H b=none->b∉ex->H' b=none
 there:∀b o,h.get? b=some o->b∉ex->∃o',h'.get? b=some o'
 tups:∀b xs,H b=some (.tup xs)->H' b=some (.tup xs)
 frzs:∀b o u,H b=some (.frz o u)->H' b=some (.frz o u)
 tbls:∀b ps,H b=some (.tbl ps)->∃more,H' b=some (.tbl (ps++more))
section
variable{fs fs' ex ex':Uh Addr}{H H1 H2:Hp}{h h1 h2 h':Heap}{a x e:Addr}{o:HO}
theorem Un.any(u:Un fs ex H H1 h h1){b:Addr}{ob:Obj}(q:h.get? b=some ob)(n:H b=none)(hx:b∉ex):∃sl,h1.get? b=some {ob with slots:=sl}:=by
 by_cases hb:b∈fs
 ·exact u.slot b ob q n hb hx
 ·exact⟨ob.slots,u.keep b ob q n hb hx⟩
theorem Un.kept(k:∀b u,h.get? b=some u->h'.get? b=some u):Un fs ex H H h h':=
 ⟨λb ob q _ _ _=>k b ob q,λb ob q _ _ _=>⟨ob.slots,k b ob q⟩,λ_ _ _ n _=>n,λb ob q _=>⟨ob,k b ob q⟩,λ_ _ q=>q,λ_ _ _ q=>q,λ_ ps q=>⟨#[],by rw[q];simp⟩⟩
theorem Un.refl:Un fs ex H H h h:=Un.kept λ_ _ q=>q
theorem Un.laid(k:∀b u,h.get? b=some u->h'.get? b=some u)(hp:h.objs.size<=a)(hn:H a=none):Un fs ex H (upd H a o) h h' where
 keep:=λb u q _ _ _=>k b u q
 slot:=λb u q _ _ _=>⟨u.slots,k b u q⟩
 free:=λb u q n _=>by rw[aE (ne_of_lt (lt_of_lt_of_le (Heap.lt_size q) hp))];exact n
 there:=λb u q _=>⟨u,k b u q⟩
 tups:=λb xs q=>by rw[aE (fc q hn)];exact q
 frzs:=λb u xs q=>by rw[aE (fc q hn)];exact q
 tbls:=λb ps q=>⟨#[],by rw[aE (fc q hn),q];simp⟩
theorem Un.write(mu:Pa (H x))(he:e=x\/H e=some (.own x))(k:∀b u,b≠e->h.get? b=some u->h'.get? b=some u)(heo:∃u,h'.get? e=some u):Un fs ex H (upd H x o) h h':=by
 have hx:∀b,H b=none->b≠x:=λb n z=>by subst z;rw[n] at mu;exact mu
 have hb:∀b,H b=none->b≠e:=λb n z=>by
  subst z
  rcases he with r|r
  ·exact hx b n r
  ·rw[n] at r;cases r
 have hm:∀b u,H b=some u->¬Pa (some u)->b≠x:=λb u q nm z=>by subst z;rw[q] at mu;exact nm mu
 refine⟨λb u q n _ _=>k b u (hb b n) q,λb u q n _ _=>⟨u.slots,k b u (hb b n) q⟩,λb u q n _=>by rw[aE (hx b n)];exact n,λb u q _=>?_,
  λb xs q=>by rw[aE (hm b _ q λz=>z)];exact q,λb u xs q=>by rw[aE (hm b _ q λz=>z)];exact q,λb ps q=>⟨#[],by rw[aE (hm b _ q λz=>z),q];simp⟩⟩
 by_cases hbe:b=e
 ·subst hbe;exact heo
 ·exact⟨u,k b u hbe q⟩
end
def RH(h:Heap)(H:Hp):Uh Addr:=(List.range h.objs.size).filter λa=>(H a).isSome
def vQ(h:Heap)(H:Hp):Heap:=W.hideAll h (RH h H)
theorem Ew(h:Heap)(H:Hp):(vQ h H).objs.size=h.objs.size:=W.hideAll_size _ _
theorem Gk{h:Heap}{H:Hp}{b:Addr}{o:Obj}(e:h.get? b=some o)(n:H b=none):(vQ h H).get? b=some o:=
 W.hideAll_get _ e λhm=>by
  have q:(H b).isSome=true:=(mem_filter.mp hm).2;rw[n] at q;simp at q
theorem Kr{h:Heap}{H:Hp}{b:Addr}{o:Obj}(e:(vQ h H).get? b=some o):h.get? b=some o/\H b=none:=by
 have e':h.get? b=some o:=W.of_hideAll (RH h H) e;refine⟨e',?_⟩;cases q:H b with
 |none=>rfl
 |some x=>
  have hm:b∈RH h H:=mem_filter.mpr ⟨mem_range.mpr (Heap.lt_size e'),by simp[q]⟩;have z:(vQ h H).get? b=none:=W.hideAll_none (RH h H) hm;rw[z] at e;cases e
structure Mod(K:W.Frag)(mg:Str->Option Value)(base:Heap):Prop where
 kin:K.In base
 glob:base.Ns mainGlobals mg
 blt:∃mb,base.Ns builtinsNs mb/\∀x:Str,x ≠ "__name__"->mb x=bootBuiltins x
 nolimit:base.NoLimit
structure Cx where
 prog:Program
 w:World
 K:W.Frag
 mg:Str->Option Value
 base:Heap
 A:Around
 N:Uh Str
 s₀:Shared
 H₀:Hp
 env:Env
 outer:Uh Env
 stack:Uh Env
 ex:Uh Addr
 fn:Str->Bool
 calm:Bool
 pn:Uh (Addr×Obj)
 xe:Value->Shared->Prop
def frs(l:Uh Env):Uh Addr:=l.filterMap (·.frame)
abbrev Cx.fs(X:Cx):Uh Addr:=frs X.outer
def RI(sc:Scope)(x:Str):Prop:=sc.names.lookup x=some .local\/sc.names.lookup x=some .cell\/sc.names.lookup x=some .free
def Loc(sc:Scope)(x:Str):Prop:=sc.names.lookup x=some .local\/sc.names.lookup x=some .cell
def Look(env:Env)(h:Heap)(m:Str->Option Value)(x:Str)(u:Value):Prop:=
 (env.kindOf x=some .local/\m x=some u)\/((env.kindOf x=some .cell\/env.kindOf x=some .free)/\∃c,env.cells.lookup x=some c/\h.IsCell c (some u))
structure Cx.Ok(X:Cx):Prop where
 mod:Mod X.K X.mg X.base
 kind:X.env.scope.kind=.function
 glob:X.env.globals=mainGlobals
 blt:X.env.builtins=builtinsNs
 above:X.s₀.heap.objs.size<=X.env.locals
 inj:∀x y c,X.env.cells.lookup x=some c->X.env.cells.lookup y=some c->x=y
 has:∀x,(X.env.kindOf x=some .cell\/X.env.kindOf x=some .free)->∃c,X.env.cells.lookup x=some c
 cab:∀x c,X.fn x=true->X.env.cells.lookup x=some c->X.s₀.heap.objs.size<=c
 hd:X.calm=true->X.A.handled=none
 frames:X.A.frames=some X.stack
 stk:X.stack=X.outer\/(X.stack=X.env::X.outer/\X.env.frame=some X.env.locals)
 exf:∀b∈X.ex,b≠X.env.locals/\∀x c,X.env.cells.lookup x=some c->c≠b
 bs:∀b o,X.base.get? b=some o->X.s₀.heap.get? b=some o/\X.H₀ b=none
 bsz:X.base.objs.size<=X.s₀.heap.objs.size
 noex:∀b o,X.base.get? b=some o->b∉X.ex
 exfs:∀b∈X.ex,b∉X.fs
 qN:X.s₀.heap.FunFrames X.base X.outer
 frf:∀b∈X.fs,X.H₀ b=none
structure Inv(X:Cx)(pins:Uh (Addr×Obj))(σ:Uh (Option V))(H:Hp)(s:Shared):Prop where
 ok:X.Ok
 os:s.os=X.s₀.os
 bare:AllBare s.gens
 base:Un X.fs X.ex X.H₀ H X.s₀.heap s.heap
 loc:∃m,s.heap.Ns X.env.locals m/\∀(i:Nat) (x:Str) (v:V),X.N[i]?=some x->σ[i]?=some (some v)->RI X.env.scope x->∃u,RelV v u/\Look X.env s.heap m x u
 cell:∀x c,X.env.cells.lookup x=some c->∃v,s.heap.IsCell c v
 free:H X.env.locals=none
 freeC:∀x c,X.env.cells.lookup x=some c->H c=none
 pin:∀p∈X.pn++pins,s.heap.get? p.1=some p.2/\H p.1=none/\p.1≠X.env.locals/\p.1∉X.fs/\∀v,p.2.data≠.cell v
 hok:lE X.prog X.w H s.heap
 len:σ.length=X.N.length
section
variable{X:Cx}{pins:Uh (Addr×Obj)}{σ:Uh (Option V)}{H H':Hp}{s:Shared}{h':Heap}
theorem Cx.Ok.RS(ok:X.Ok){b:Addr}{o:Obj}(e:X.base.get? b=some o):b∉X.fs:=λhb=>by
 have:=(ok.qN.mem hb).1;rw[e] at this;cases this
theorem Inv.bs(I:Inv X pins σ H s):∀b o,X.base.get? b=some o->s.heap.get? b=some o/\H b=none:=λb o e=>
 ⟨I.base.keep b o (I.ok.bs b o e).1 (I.ok.bs b o e).2 (I.ok.RS e) (I.ok.noex b o e),I.base.free b o (I.ok.bs b o e).1 (I.ok.bs b o e).2 (I.ok.noex b o e)⟩
theorem Inv.bk(I:Inv X pins σ H s):∀b o,X.base.get? b=some o->s.heap.get? b=some o:=λb o e=>(I.bs b o e).1
theorem Inv.mod(I:Inv X pins σ H s):Mod X.K X.mg X.base:=I.ok.mod
theorem Inv.Cw(I:Inv X pins σ H s):X.K.In s.heap:=I.ok.mod.kin.keeps I.bk
theorem Inv.lt(I:Inv X pins σ H s):X.env.locals<s.heap.objs.size:=let ⟨_,hn,_⟩:=I.loc;hn.lt
theorem Inv.sz(I:Inv X pins σ H s):X.s₀.heap.objs.size<=s.heap.objs.size:=Nat.le_trans I.ok.above (le_of_lt I.lt)
theorem Inv.MP(I:Inv X pins σ H s){a:Addr}(h:s.heap.objs.size<=a):a∉X.fs:=λhb=>by
 obtain⟨_,o,ho,_⟩:=I.ok.qN.mem hb;exact absurd (lt_of_lt_of_le (Heap.lt_size ho) (Nat.le_trans I.sz h)) (Nat.lt_irrefl _)
theorem Inv.MQ(I:Inv X pins σ H s):∀x c,X.env.cells.lookup x=some c->c≠X.env.locals:=λx c e z=>by
 obtain⟨v,o,ho,hd⟩:=I.cell x c e;obtain⟨m,⟨o',es,ep,ho',hd',_⟩,_⟩:=I.loc;rw[z,ho'] at ho;cases ho;rw[hd'] at hd;cases hd
theorem Inv.qN(I:Inv X pins σ H s):s.heap.FunFrames X.base X.outer:=by
 have all:∀(l:Uh Env),(∀b∈frs l,b∈X.fs)->X.s₀.heap.FunFrames X.base l->s.heap.FunFrames X.base l:=by
  intro l
  induction l with
  |nil=>intro _ _;trivial
  |cons env r ih=>
   intro hs hl;obtain⟨hk,⟨L,o,hf,hn,ho,hd⟩,hr⟩:=hl;have hL:L∈X.fs:=hs L (by unfold frs;rw[filterMap_cons,hf];exact mem_cons_self);obtain⟨sl,e⟩:=I.base.slot L o ho (I.ok.frf L hL) hL λz=>I.ok.exfs L z hL;exact⟨hk,⟨L,_,hf,hn,e,hd⟩,ih (λb hb=>hs b (by unfold frs;rw[filterMap_cons,hf];exact mem_cons_of_mem _ hb)) hr⟩
 exact all X.outer (λ_ hb=>hb) I.ok.qN
theorem Inv.stack(I:Inv X pins σ H s):s.heap.FunFrames X.base X.stack:=by
 rcases I.ok.stk with e|⟨e,hf⟩
 ·rw[e];exact I.qN
 ·rw[e];obtain⟨m,hn,_⟩:=I.loc;refine .cons (by rw[I.ok.kind];decide) hf hn ?_ I.qN;exact Heap.get?_none_of_le (Nat.le_trans I.ok.bsz I.ok.above)
theorem Inv.kH(I:Inv X pins σ H s):∀b∈frs X.stack,b∈X.env.locals::X.fs:=λb hb=>by
 rcases I.ok.stk with e|⟨e,hf⟩
 ·rw[e] at hb;exact mem_cons_of_mem _ hb
 ·rw[e] at hb;unfold frs at hb;rw[filterMap_cons,hf] at hb;exact hb
theorem Inv.qW(I:Inv X pins σ H s):∀b∈frs X.stack,H b=none:=λb hb=>by
 rcases mem_cons.mp (I.kH b hb) with e|hb
 ·rw[e];exact I.free
 ·obtain⟨_,o,ho,_⟩:=I.ok.qN.mem hb;exact I.base.free b o ho (I.ok.frf b hb) λz=>I.ok.exfs b z hb
theorem Inv.step{g':Array GenState}{t':Nat}{d':Drawn}{ch:Uh Addr}(I:Inv X pins σ H s)
  (hch:∀b∈ch,(b∈X.ex\/X.s₀.heap.objs.size<=b)/\b≠X.env.locals/\(∀x c,X.env.cells.lookup x=some c->c≠b)/\∀p∈X.pn++pins,p.1≠b)
  (keep:∀b o,b≠X.env.locals->b∉X.fs->b∉ch->s.heap.get? b=some o->H b=none->h'.get? b=some o)
  (slot:∀b o,b≠X.env.locals->b∈X.fs->b∉ch->s.heap.get? b=some o->H b=none->∃sl,h'.get? b=some {o with slots:=sl}) (free:∀b o,b∉ch->s.heap.get? b=some o->H b=none->H' b=none)
  (there:∀b o,b∉ch->s.heap.get? b=some o->∃o',h'.get? b=some o')
  (tups:∀b xs,H b=some (.tup xs)->H' b=some (.tup xs)) (frzs:∀b o u,H b=some (.frz o u)->H' b=some (.frz o u)) (tbls:∀b ps,H b=some (.tbl ps)->∃more,H' b=some (.tbl (ps++more)))
  (ns:∀m,s.heap.Ns X.env.locals m->h'.Ns X.env.locals m) (hok:lE X.prog X.w H' h') (hg:AllBare g'):
  Inv X pins σ H' {s with heap:=h',gens:=g',drawn:=d',toks:=t' }:=by
 have neL:∀b o,X.s₀.heap.get? b=some o->b≠X.env.locals:=λb o e=>ne_of_lt (lt_of_lt_of_le (Heap.lt_size e) I.ok.above);have neC:∀b o,X.s₀.heap.get? b=some o->b∉X.ex->b∉ch:=λb o e hx hb=>by
  rcases (hch b hb).1 with z|z
  ·exact hx z
  ·exact absurd (lt_of_lt_of_le (Heap.lt_size e) z) (Nat.lt_irrefl _)
 have cellK:∀x c,X.env.cells.lookup x=some c->∀v,s.heap.IsCell c v->h'.IsCell c v:=λx c e v ⟨o,ho,hd⟩=>by
  have nch:c∉ch:=λz=>(hch c z).2.2.1 x c e rfl
  by_cases hc:c∈X.fs
  ·obtain⟨sl,q⟩:=slot c o (I.MQ x c e) hc nch ho (I.freeC x c e);exact⟨_,q,hd⟩
  ·exact⟨o,keep c o (I.MQ x c e) hc nch ho (I.freeC x c e),hd⟩
 refine⟨I.ok,I.os,hg,⟨λb o e n hb hx=>?_,λb o e n hb hx=>?_,λb o e n hx=>?_,λb o e hx=>?_,λb xs e=>tups b xs (I.base.tups b xs e),λb o xs e=>frzs b o xs (I.base.frzs b o xs e),λb ps e=>?_⟩,?_,λx c e=>?_,?_,λx c e=>?_,λp hp=>?_,hok,I.len⟩
 ·exact keep b o (neL b o e) hb (neC b o e hx) (I.base.keep b o e n hb hx) (I.base.free b o e n hx)
 ·obtain⟨sl,e1⟩:=I.base.slot b o e n hb hx;obtain⟨sl',e2⟩:=slot b _ (neL b o e) hb (neC b o e hx) e1 (I.base.free b o e n hx);exact⟨sl',e2⟩
 ·obtain⟨o',e1⟩:=I.base.there b o e hx;exact free b o' (neC b o e hx) e1 (I.base.free b o e n hx)
 ·obtain⟨o',e1⟩:=I.base.there b o e hx;exact there b o' (neC b o e hx) e1
 ·obtain⟨m1,e1⟩:=I.base.tbls b ps e;obtain⟨m2,e2⟩:=tbls b _ e1;exact⟨m1++m2,by rw[e2,Array.append_assoc]⟩
 ·obtain⟨m,hn,hl⟩:=I.loc;refine⟨m,ns m hn,λi x v e1 e2 e3=>?_⟩;obtain⟨u,r,l⟩:=hl i x v e1 e2 e3;refine⟨u,r,?_⟩
  rcases l with l|⟨k,c,e,z⟩
  ·exact .inl l
  ·exact .inr ⟨k,c,e,cellK x c e _ z⟩
 ·obtain⟨v,z⟩:=I.cell x c e;exact⟨v,cellK x c e v z⟩
 ·obtain⟨m,⟨o,_,_,ho,_⟩,_⟩:=I.loc;exact free _ o (λz=>(hch _ z).2.1 rfl) ho I.free
 ·obtain⟨v,o,ho,hd⟩:=I.cell x c e;exact free c o (λz=>(hch c z).2.2.1 x c e rfl) ho (I.freeC x c e)
 ·obtain⟨e,n,ne,nf,d⟩:=I.pin p hp;have nch:p.1∉ch:=λz=>(hch p.1 z).2.2.2 p hp rfl;exact⟨keep p.1 p.2 ne nf nch e n,free p.1 p.2 nch e n,ne,nf,d⟩
theorem Inv.un{t':Nat}(I:Inv X pins σ H s)(u:Un X.fs [] H H' s.heap h')(hok:lE X.prog X.w H' h'):Inv X pins σ H' {s with heap:=h',toks:=t' }:=by
 obtain⟨m,⟨o,es,ep,ho,r⟩,_⟩:=id I.loc;obtain⟨sl,hL⟩:=u.any ho I.free (by simp);exact I.step (g':=s.gens) (d':=s.drawn) (ch:=[]) (λ_ z=>nomatch z) (λb o _ hb _ e n=>u.keep b o e n hb (by simp)) (λb o _ hb _ e n=>u.slot b o e n hb (by simp)) (λb o _ e n=>u.free b o e n (by simp)) (λb o _ e=>u.there b o e (by simp)) u.tups u.frzs u.tbls (λm' hm=>by
  obtain⟨o',es',ep',ho',r'⟩:=hm;rw[ho] at ho';cases ho';exact⟨_,es',ep',hL,r'⟩) hok I.bare
theorem Inv.call{g':Array GenState}{t':Nat}{d':Drawn}{ch:Uh Addr}(I:Inv X pins σ H s)(u:Un (frs X.stack) ch H H' s.heap h')(hok:lE X.prog X.w H' h')(hg:AllBare g')
  (hch:∀b∈ch,(b∈X.ex\/X.s₀.heap.objs.size<=b)/\b≠X.env.locals/\(∀x c,X.env.cells.lookup x=some c->c≠b)/\∀p∈X.pn++pins,p.1≠b):
  Inv X pins σ H' {s with heap:=h',gens:=g',drawn:=d',toks:=t' }:=by
 obtain⟨m,⟨o,es,ep,ho,r⟩,_⟩:=id I.loc;obtain⟨sl,hL⟩:=u.any ho I.free λz=>(hch _ z).2.1 rfl;exact I.step (ch:=ch) hch (λb o hL hb hc e n=>u.keep b o e n (λz=>(mem_cons.mp (I.kH b z)).elim hL hb) hc) (λb o _ _ hc e n=>u.any e n hc) (λb o hc e n=>u.free b o e n hc) (λb o hc e=>u.there b o e hc) u.tups u.frzs u.tbls (λm' hm=>by
  obtain⟨o',es',ep',ho',r'⟩:=hm;rw[ho] at ho';cases ho';exact⟨_,es',ep',hL,r'⟩) hok hg
theorem Inv.turned{t':Nat}{it:Addr}(I:Inv X pins σ H s)(k:∀b o,b≠it->s.heap.get? b=some o->h'.get? b=some o)(hn:H it=none)(hL:it≠X.env.locals)
  (h1:it∈X.ex\/X.s₀.heap.objs.size<=it) (h2:∀x c,X.env.cells.lookup x=some c->c≠it) (h3:∀p∈X.pn++pins,p.1≠it):Inv X pins σ H {s with heap:=h',toks:=t' }:=by
 have nit:∀b u,H b=some u->b≠it:=λb u e z=>by rw[z,hn] at e;cases e
 refine I.step (g':=s.gens) (d':=s.drawn) (ch:=[it]) (λb hb=>?_) (λb o _ _ hc e _=>k b o (λz=>hc (by simp[z])) e) (λb o _ _ hc e _=>⟨o.slots,k b o (λz=>hc (by simp[z])) e⟩) (λ_ _ _ _ n=>n)
  (λb o hc e=>⟨o,k b o (λz=>hc (by simp[z])) e⟩) (λ_ _ e=>e) (λ_ _ _ e=>e) (λb ps e=>⟨#[],by rw[e];simp⟩) (λm hm=>?_) (λb u e=>?_) I.bare
 ·have e:b=it:=by simpa using hb
  subst e;exact⟨h1,hL,h2,h3⟩
 ·obtain⟨o,es,ep,ho,r⟩:=hm;exact⟨o,es,ep,k _ o (Ne.symm hL) ho,r⟩
 ·refine(I.hok b u e).stay (λc v hc q=>k c v ?_ q) (λ_ q=>q) λ_ _ q=>q
  rcases hc with z|z
  ·rw[z];exact nit b u e
  ·exact nit c _ z
theorem Inv.tok(I:Inv X pins σ H s)(t:Nat):Inv X pins σ H {s with toks:=t}:=I.un (h':=s.heap) (t':=t) Un.refl I.hok
theorem Inv.kept{t':Nat}(I:Inv X pins σ H s)(k:∀b u,s.heap.get? b=some u->h'.get? b=some u):Inv X pins σ H {s with heap:=h',toks:=t' }:=I.un (Un.kept k) (I.hok.kept k)
theorem Inv.laid{a:Addr}{o:HO}{t':Nat}(I:Inv X pins σ H s)(k:∀b u,s.heap.get? b=some u->h'.get? b=some u)(hp:s.heap.objs.size<=a)(new:cI X.prog X.w (upd H a o) h' a o):
  Inv X pins σ (upd H a o) {s with heap:=h',toks:=t' }:=I.un (Un.laid k hp (I.hok.fresh hp)) (I.hok.laid k hp new)
theorem Inv.write{x e:Addr}{o:HO}{t':Nat}(I:Inv X pins σ H s)(mu:Pa (H x))(he:e=x\/H e=some (.own x))(k:∀b u,b≠e->s.heap.get? b=some u->h'.get? b=some u)(heo:∃u,h'.get? e=some u)
  (new:cI X.prog X.w (upd H x o) h' x o):Inv X pins σ (upd H x o) {s with heap:=h',toks:=t' }:=I.un (Un.write mu he k heo) (I.hok.write mu he k heo new)
theorem Inv.weak{σ':Uh (Option V)}(I:Inv X pins σ H s)(hl:σ'.length=σ.length)(w:∀(i:Nat) v,σ'[i]?=some (some v)->σ[i]?=some (some v)):Inv X pins σ' H s:=
 ⟨I.ok,I.os,I.bare,I.base,let ⟨m,hn,hl'⟩:=I.loc;⟨m,hn,λi x v e1 e2 e3=>hl' i x v e1 (w i v e2) e3⟩,I.cell,I.free,I.freeC,I.pin,I.hok,hl.trans I.len⟩
theorem Inv.lF{pins':Uh (Addr×Obj)}(I:Inv X pins σ H s)(h:∀p∈pins',s.heap.get? p.1=some p.2/\H p.1=none/\p.1≠X.env.locals/\p.1∉X.fs/\∀v,p.2.data≠.cell v):Inv X pins' σ H s:=
 ⟨I.ok,I.os,I.bare,I.base,I.loc,I.cell,I.free,I.freeC,λp hp=>(mem_append.mp hp).elim (λz=>I.pin p (mem_append_left _ z)) (h p),I.hok,I.len⟩
theorem yr{N:Uh Str}(hN:N.Nodup){i j:Nat}{x:Str}(a:N[i]?=some x)(b:N[j]?=some x):i=j:=by
 obtain⟨h1,e1⟩:=List.getElem?_eq_some_iff.mp a;obtain⟨h2,e2⟩:=List.getElem?_eq_some_iff.mp b;exact(List.getElem_inj hN).mp (e1.trans e2.symm)
theorem oU{M:Model}{A:Around}{E:Value->Shared->Prop}{i:Nat}{x:Str}{v:V}{u:Value}{Q:Unit->Shared->Prop}(I:Inv X pins σ H s)(hN:X.N.Nodup)(hi:X.N[i]?=some x)(hx:Loc X.env.scope x)(r:RelV v u)
  (h:∀s',Inv X pins (σ.set i (some v)) H s'->(∃a,Heap.SameBut a s.heap s'.heap/\(a=X.env.locals\/X.env.cells.lookup x=some a))->Q () s') (hf:X.fn x=true\/X.env.scope.names.lookup x=some .local:=by first|exact .inl rfl|exact .inr rfl|assumption):wpAny M A (storeName X.env x u) Q E s:=by
 obtain⟨m,hn,hl⟩:=id I.loc;have hcls:(X.env.scope.kind ==.class||(X.env.scope.kind ==.module&&X.env.locals !=X.env.globals))=false:=by rw[I.ok.kind];rfl
 have hiσ:i<σ.length:=by rw[I.len];exact(List.getElem?_eq_some_iff.mp hi).1
 have MQ:=I.MQ;have tracked:∀{a:Addr} {h':Heap},(∃o,s.heap.get? a=some o/\H a=none)->Heap.SameBut a s.heap h'->lE X.prog X.w H h':=λ{a h'} ha hs b ob e=>by
  obtain⟨_,_,hfree⟩:=ha;refine(I.hok b ob e).stay (λc w' hc q=>(hs.2 c ?_).trans q) (λ_ q=>q) λ_ _ q=>q;rintro rfl
  rcases hc with rfl|hc
  ·rw[hfree] at e;cases e
  ·rw[hfree] at hc;cases hc
 rcases hx with hk|hk
 ·refine wpAny_storeName_local hk hn (λh' hn' hs=>?_) hcls;obtain⟨oL,_,_,hoL,_⟩:=id hn;refine h _ ⟨I.ok,I.os,I.bare,⟨λb o e n hb hx=>?_,λb o e n hb hx=>?_,I.base.free,λb o e hx=>?_,I.base.tups,I.base.frzs,I.base.tbls⟩,⟨_,hn',λj y v' e1 e2 e3=>?_⟩,λy c e=>?_,I.free,I.freeC,λp hp=>?_,tracked ⟨oL,hoL,I.free⟩ hs,by simpa using I.len⟩ ⟨_,hs,.inl rfl⟩
  ·exact(hs.2 b (ne_of_lt (lt_of_lt_of_le (Heap.lt_size e) I.ok.above))).trans (I.base.keep b o e n hb hx)
  ·obtain⟨sl,e1⟩:=I.base.slot b o e n hb hx;exact⟨sl,(hs.2 b (ne_of_lt (lt_of_lt_of_le (Heap.lt_size e) I.ok.above))).trans e1⟩
  ·obtain⟨o',e1⟩:=I.base.there b o e hx;exact⟨o',(hs.2 b (ne_of_lt (lt_of_lt_of_le (Heap.lt_size e) I.ok.above))).trans e1⟩
  ·by_cases hj:j=i
   ·subst hj;rw[hi] at e1;cases e1;rw[List.getElem?_set_self hiσ] at e2;cases e2;exact⟨u,r,.inl ⟨hk,by simp⟩⟩
   ·rw[List.getElem?_set_ne (Ne.symm hj)] at e2;obtain⟨u',r',q⟩:=hl j y v' e1 e2 e3;refine⟨u',r',?_⟩
    rcases q with⟨k,e⟩|⟨k,c,e,z⟩
    ·refine .inl ⟨k,?_⟩;have:y≠x:=λe=>hj (yr hN e1 (e▸hi));simp[this,e]
    ·exact .inr ⟨k,c,e,z.sameBut hs (MQ y c e)⟩
  ·obtain⟨w',z⟩:=I.cell y c e;exact⟨w',z.sameBut hs (MQ y c e)⟩
  ·obtain⟨e,n,ne,nf,d⟩:=I.pin p hp;exact⟨(hs.2 p.1 ne).trans e,n,ne,nf,d⟩
 ·have hfn:X.fn x=true:=by
   rcases hf with z|z
   ·exact z
   ·rw[z] at hk;cases hk
  obtain⟨c,hc⟩:=I.ok.has x (.inl hk);obtain⟨w',z⟩:=I.cell x c hc;refine wpAny_storeName_cell I.ok.kind hk hc z (λh' hc' hs=>?_);obtain⟨oc,hoc,RT⟩:=id z;refine h {s with heap:=h' } ⟨I.ok,I.os,I.bare,⟨λb o e n hb hx=>?_,λb o e n hb hx=>?_,I.base.free,λb o e hx=>?_,I.base.tups,I.base.frzs,I.base.tbls⟩,⟨m,hn.sameBut hs (Ne.symm (MQ x c hc)),λj y v' e1 e2 e3=>?_⟩,λy c' e=>?_,I.free,I.freeC,λp hp=>?_,tracked ⟨oc,hoc,I.freeC x c hc⟩ hs,by simpa using I.len⟩ ⟨c,hs,.inr hc⟩
  ·exact(hs.2 b (ne_of_lt (lt_of_lt_of_le (Heap.lt_size e) (I.ok.cab x c hfn hc)))).trans (I.base.keep b o e n hb hx)
  ·obtain⟨sl,e1⟩:=I.base.slot b o e n hb hx;exact⟨sl,(hs.2 b (ne_of_lt (lt_of_lt_of_le (Heap.lt_size e) (I.ok.cab x c hfn hc)))).trans e1⟩
  ·obtain⟨o',e1⟩:=I.base.there b o e hx;exact⟨o',(hs.2 b (ne_of_lt (lt_of_lt_of_le (Heap.lt_size e) (I.ok.cab x c hfn hc)))).trans e1⟩
  ·by_cases hj:j=i
   ·subst hj;rw[hi] at e1;cases e1;rw[List.getElem?_set_self hiσ] at e2;cases e2;exact⟨u,r,.inr ⟨.inl hk,c,hc,hc'⟩⟩
   ·rw[List.getElem?_set_ne (Ne.symm hj)] at e2;obtain⟨u',r',q⟩:=hl j y v' e1 e2 e3;refine⟨u',r',?_⟩
    rcases q with q|⟨k,c',e,z'⟩
    ·exact .inl q
    ·refine .inr ⟨k,c',e,z'.sameBut hs ?_⟩;rintro rfl;exact hj (yr hN e1 (I.ok.inj _ _ _ e hc▸hi))
  ·by_cases hcc:c'=c
   ·subst hcc;exact⟨_,hc'⟩
   ·obtain⟨w2,z2⟩:=I.cell y c' e;exact⟨w2,z2.sameBut hs hcc⟩
  ·obtain⟨e,n,ne,nf,d⟩:=I.pin p hp;refine⟨(hs.2 p.1 ?_).trans e,n,ne,nf,d⟩;intro q;rw[q,hoc] at e;have q':oc=p.2:=Option.some.inj e;exact d w' (by rw[<-q'];exact RT)
theorem yt{M:Model}{A:Around}{E:Value->Shared->Prop}{i:Nat}{x:Str}{v:V}{u:Value}{Q:Unit->Shared->Prop}(I:Inv X pins σ H s)(hN:X.N.Nodup)(hi:X.N[i]?=some x)(hx:Loc X.env.scope x)(r:RelV v u)
  (h:∀s',Inv X pins (σ.set i (some v)) H s'->Q () s') (hf:X.fn x=true\/X.env.scope.names.lookup x=some .local:=by first|exact .inl rfl|exact .inr rfl|assumption):wpAny M A (storeName X.env x u) Q E s:=
 oU I hN hi hx r (λs' I' _=>h s' I') hf
theorem Inv.Pc{s':Shared}{ch:Uh Addr}(I:Inv X pins σ H s)(ho:s'.os=s.os)(u:Un (frs X.stack) ch H H' s.heap s'.heap)(hok:lE X.prog X.w H' s'.heap)(hg:AllBare s'.gens)
  (hch:∀b∈ch,(b∈X.ex\/X.s₀.heap.objs.size<=b)/\b≠X.env.locals/\(∀x c,X.env.cells.lookup x=some c->c≠b)/\∀p∈X.pn++pins,p.1≠b):Inv X pins σ H' s':=by
 obtain⟨h',g',d',t',o'⟩:=s';have e:o'=s.os:=ho;subst e;exact I.call (g':=g') (t':=t') (d':=d') u hok hg hch
end
abbrev XK:=Value->Option Addr->Hp->Prop
abbrev St:=Uh (Option V)
abbrev VK:=V->Hp->Prop
abbrev TE:=St->Hp->VK->Prop
abbrev TT:=St->Hp->(Bool->Hp->Prop)->Prop
abbrev TA:=St->Hp->(Uh V->Hp->Prop)->Prop
structure Ends where
 nx:St->Hp->Prop
 rt:VK
 bk:St->Hp->Prop:=λ_ _=>False
 ct:St->Hp->Prop:=λ_ _=>False
abbrev TS:=Ends->St->Hp->Prop
def EP(X:Cx)(pins:Uh (Addr×Obj))(σ:St)(Q:VK)(u:Value)(s':Shared):Prop:=∃v H',Inv X pins σ H' s'/\RelV v u/\Q v H'
def TP(X:Cx)(pins:Uh (Addr×Obj))(σ:St)(Q:Bool->Hp->Prop)(b:Bool)(s':Shared):Prop:=∃H',Inv X pins σ H' s'/\Q b H'
def AP(X:Cx)(pins:Uh (Addr×Obj))(σ:St)(Q:Uh V->Hp->Prop)(us:Uh Value)(s':Shared):Prop:=∃vs H',Inv X pins σ H' s'/\Vals vs us/\Q vs H'
def SP(X:Cx)(pins:Uh (Addr×Obj))(D:Ends)(f:Flow)(s':Shared):Prop:=
 match f with
 |.next=>∃σ' H',Inv X pins σ' H' s'/\D.nx σ' H'
 |.brk=>∃σ' H',Inv X pins σ' H' s'/\D.bk σ' H'
 |.cont=>∃σ' H',Inv X pins σ' H' s'/\D.ct σ' H'
 |.ret u=>∃v σ' H',Inv X pins σ' H' s'/\RelV v u/\D.rt v H'
def PE(X:Cx)(e:Expr)(t:TE):Prop:=
 ∀(pins:Uh (Addr×Obj)) (s:Shared) (σ:St) (H:Hp) (Q:VK),Inv X pins σ H s->t σ H Q->wpAny (model X.prog X.w) X.A (eval e X.env) (EP X pins σ Q) X.xe s
def PT(X:Cx)(e:Expr)(t:TT):Prop:=
 ∀(pins:Uh (Addr×Obj)) (s:Shared) (σ:St) (H:Hp) (Q:Bool->Hp->Prop),Inv X pins σ H s->t σ H Q->wpAny (model X.prog X.w) X.A (isTrue e X.env (eval e X.env)) (TP X pins σ Q) X.xe s
def PW(X:Cx)(e:Expr)(t:TT):Prop:=
 ∀(whole:Sem Value) (pins:Uh (Addr×Obj)) (s:Shared) (σ:St) (H:Hp) (Q:Bool->Hp->Prop),Inv X pins σ H s->t σ H Q->wpAny (model X.prog X.w) X.A (isTrue e X.env whole) (TP X pins σ Q) X.xe s
theorem PW.pt{X:Cx}{e:Expr}{t:TT}(h:PW X e t):PT X e t:=h _
def PA(X:Cx)(es:Uh Expr)(t:TA):Prop:=
 ∀(pos:Pos) (pins:Uh (Addr×Obj)) (s:Shared) (σ:St) (H:Hp) (Q:Uh V->Hp->Prop),Inv X pins σ H s->t σ H Q->wpAny (model X.prog X.w) X.A (spliced (backTo pos (starEach es X.env))) (AP X pins σ Q) X.xe s
def PS(X:Cx)(st:Stmt)(t:TS):Prop:=
 ∀(pins:Uh (Addr×Obj)) (s:Shared) (σ:St) (H:Hp) (D:Ends),Inv X pins σ H s->t D σ H->wpAny (model X.prog X.w) X.A (exec st X.env) (SP X pins D) X.xe s
def Cy(X:Cx)(st:Uh Stmt)(t:TS):Prop:=
 ∀(pins:Uh (Addr×Obj)) (s:Shared) (σ:St) (H:Hp) (D:Ends),Inv X pins σ H s->t D σ H->wpAny (model X.prog X.w) X.A (execs st X.env) (SP X pins D) X.xe s
theorem cM{α:Type}{t:Sem α}{Q Q':α->Shared->Prop}{M:Model}{A:Around}{E:Value->Shared->Prop}{s:Shared}(h:wpAny M A t Q E s)(hQ:∀a s,Q a s->Q' a s):wpAny M A t Q' E s:=wpAny_mono h hQ λ_ _ x=>x
section
variable{X:Cx}
def ai(i:Nat):TE:=λσ H Q=>∃v,σ[i]?=some (some v)/\Q v H
def tC(v:V):TE:=λ_ H Q=>Q v H
theorem Gm{i:Nat}{x:Str}{pos:Pos}(hN:X.N[i]?=some x)(hv:RI X.env.scope x)(hd:(x==("__debug__" :Str))=false:=by decide)(hcd:(x==("__classdict__" :Str))=false:=by decide):PE X (.Name x pos) (ai i):=by
 intro pins s σ H Q I h;obtain⟨v,e,h⟩:=h;obtain⟨m,hn,hl⟩:=I.loc;obtain⟨u,r,l⟩:=hl i x v hN e hv;have fin:EP X pins σ Q u s:=⟨v,H,I,r,h⟩
 rcases l with⟨hk,hm⟩|⟨hk,c,hc,hcell⟩
 ·exact wpAny_Name (wpAny_loadName_local I.ok.kind hk hn hm fin) hd
 ·rcases hk with hk|hk
  ·exact wpAny_Name (wpAny_loadName_cell I.ok.kind hk hc hcell fin) hd
  ·exact wpAny_Name (wpAny_loadName_free I.ok.kind hk hc hcell fin hcd) hd
theorem MR{i j pos}:PE X (.Constant (.int i) j pos) (tC (.int i)):=λ_ _ _ H _ I h=>wpAny_Constant_int ⟨.int i,H,I.tok _,⟨_,rfl⟩,h⟩
theorem Pd{b j pos}:PE X (.Constant (.bool b) j pos) (tC (.bl b)):=λ_ _ _ H _ I h=>Constant_bool ⟨.bl b,H,I,rfl,h⟩
theorem MS{j pos}:PE X (.Constant .none j pos) (tC .non):=λ_ _ _ H _ I h=>Constant_none ⟨.non,H,I,rfl,h⟩
theorem MT{x j pos}:PE X (.Constant (.str x) j pos) (tC (.str x)):=λ_ _ _ H _ I h=>Calls.Constant_str ⟨.str x,H,I.tok _,⟨_,rfl⟩,h⟩
def Gl(X:Cx)(x:Str):Prop:=X.env.kindOf x=some .globalImplicit
theorem qX{E:Value->Shared->Prop}{pins:Uh (Addr×Obj)}{s:Shared}{σ:St}{H:Hp}{x:Str}{u:Value}{pos:Pos}{Q:Value->Shared->Prop}(I:Inv X pins σ H s)(hg:Gl X x)(hm:X.mg x=some u)(h:Q u s)
  (hd:(x==("__debug__":Str))=false:=by decide):wpAny (model X.prog X.w) X.A (eval (.Name x pos) X.env) Q E s:=
 Calls.Name_function_global I.ok.kind hg (Calls.loadGlobal_global (by rw[I.ok.glob];exact I.mod.glob.keeps I.bk) hm h) hd
theorem mE{E:Value->Shared->Prop}{pins:Uh (Addr×Obj)}{s:Shared}{σ:St}{H:Hp}{x:Str}{u:Value}{pos:Pos}{Q:Value->Shared->Prop}(I:Inv X pins σ H s)(hg:Gl X x)(hm:X.mg x=none)(hv:bootBuiltins x=some u)(h:Q u s)
  (hn:x ≠ "__name__" :=by decide) (hd:(x==("__debug__" :Str))=false:=by decide):wpAny (model X.prog X.w) X.A (eval (.Name x pos) X.env) Q E s:=by
 obtain⟨mb,h1,h2⟩:=I.mod.blt;exact Calls.Name_function_global I.ok.kind hg (Calls.loadGlobal_builtin (by rw[I.ok.glob];exact I.mod.glob.keeps I.bk) hm (by rw[I.ok.blt];exact h1.keeps I.bk) ((h2 x hn).trans hv) h) hd
theorem Cz{x:Str}{v:V}{u:Value}{pos:Pos}(hg:Gl X x)(hm:X.mg x=some u)(r:RelV v u)(hd:(x==("__debug__":Str))=false:=by decide):PE X (.Name x pos) (tC v):=
 λ_ _ _ H _ I h=>qX I hg hm ⟨v,H,I,r,h⟩ hd
variable{a b:Expr}{ta tb:TE}{pos:Pos}
def PC(X:Cx)(op:CmpOp)(a b:Expr)(t:TE):Prop:=
 ∀(pins:Uh (Addr×Obj)) (s:Shared) (σ:St) (H:Hp) (Q:VK),Inv X pins σ H s->t σ H Q->
  wpAny (model X.prog X.w) X.A (eval a X.env) (λv s₁=>wpAny (model X.prog X.w) X.A (eval b X.env) (λu s₂=>wpAny (model X.prog X.w) X.A (compareOp op v u) (EP X pins σ Q) X.xe s₂) X.xe s₁) X.xe s
theorem rZ(b:Expr){op:CmpOp}(h:op≠.In)(h2:op≠.NotIn):behindInMarks op b=false:=by
 have e1:(op==CmpOp.In)=false:=by cases op<;>first|rfl|exact absurd rfl h
 have e2:(op==CmpOp.NotIn)=false:=by cases op<;>first|rfl|exact absurd rfl h2
 cases b<;>simp[behindInMarks,e1,e2]
def uJ(ta:TE):TE:=λσ H Q=>ta σ H λx H1=>Q (.bl (decide (x=.non))) H1
def gc(ta:TE):TE:=λσ H Q=>ta σ H λx H1=>Q (.bl (!decide (x=.non))) H1
theorem RelV.yu{x:V}{v:Value}(r:RelV x v):(v==Value.none)=decide (x=.non):=by
 cases x with
 |non=>cases r;rfl
 |bl _=>cases r;rfl
 |int _=>obtain⟨t,rfl⟩:=r;rfl
 |str _=>obtain⟨t,rfl⟩:=r;rfl
 |byt _=>obtain⟨t,rfl⟩:=r;rfl
 |flt _=>obtain⟨t,rfl⟩:=r;rfl
 |ref _=>cases r;rfl
 |ty _=>cases r;rfl
theorem MU{j pos'}(ha:PE X a ta):PC X .Is a (.Constant .none j pos') (uJ ta):=by
 intro pins s σ H Q I h;refine cM (ha pins s σ H _ I h) λv s1 ⟨x,H1,I1,r1,q1⟩=>?_;exact Constant_none (is_none_gen ⟨.bl _,H1,I1,by rw[r1.yu];rfl,q1⟩)
theorem Ks{j pos'}(ha:PE X a ta):PC X .IsNot a (.Constant .none j pos') (gc ta):=by
 intro pins s σ H Q I h;refine cM (ha pins s σ H _ I h) λv s1 ⟨x,H1,I1,r1,q1⟩=>?_;exact Constant_none (isnot_none_gen ⟨.bl _,H1,I1,by rw[r1.yu];rfl,q1⟩)
def tB(t:TE):TT:=λσ H Q=>t σ H λx H1=>∃c,x=.bl c/\Q c H1
theorem Gn{op:CmpOp}{t:TE}(h:PC X op a b t)(h1:behindInMarks op b=false:=by first|exact rZ _ (by decide) (by decide)|rfl):PT X (.Compare a [op] [b] pos) (tB t):=by
 intro pins s σ H Q I hw;refine wpAny_isTrue_Compare1 (cM (h pins s σ H _ I hw) λv s1 h1=>cM h1 λu s2 h2=>cM h2 λc s3 ⟨x,H1,I1,r1,q1⟩=>?_) h1;obtain⟨d,rfl,q⟩:=q1;cases r1;exact wpAny_truthy_bool ⟨H1,I1,q⟩
theorem MV{e:Expr}{t:TE}(h:PE X e t)(he:∀whole,isTrue e X.env whole=(do let v <-whole;standAt e.pos;holding [v] (truthy v)):=by intro _;rfl):PT X e (tB t):=by
 intro pins s σ H Q I hw;refine isTrue_plain (cM (h pins s σ H _ I hw) λv s1 ⟨x,H1,I1,r1,q1⟩=>?_) (he _);obtain⟨d,rfl,q⟩:=q1;cases r1;exact wpAny_truthy_bool ⟨H1,I1,q⟩
variable{tA tB':TT}{rest:Uh Expr}
def mX(t u:TT):TT:=λσ H Q=>t σ H λc H1=>if c=true then u σ H1 Q else Q false H1
def Af(t u:TT):TT:=λσ H Q=>t σ H λc H1=>if c=true then Q true H1 else u σ H1 Q
def Ex(t:TT):TT:=λσ H Q=>t σ H λc H1=>Q (!c) H1
theorem Ku(ha:PT X a tA):PW X (.BoolOp .And [a] pos) tA:=by
 intro wh pins s σ H Q I h;refine isTrue_and (cM (ha pins s σ H Q I h) λc s1 e=>?_);cases c with
 |true=>exact isTrue_and_nil e
 |false=>exact e
theorem MW(ha:PT X a tA):PW X (.BoolOp .Or [a] pos) tA:=by
 intro wh pins s σ H Q I h;refine isTrue_or (cM (ha pins s σ H Q I h) λc s1 e=>?_);cases c with
 |false=>exact isTrue_or_nil e
 |true=>exact e
theorem MX(ha:PT X a tA)(hb:PW X (.BoolOp .And (b::rest) pos) tB'):PW X (.BoolOp .And (a::b::rest) pos) (mX tA tB'):=by
 intro wh pins s σ H Q I h;refine isTrue_and (cM (ha pins s σ H _ I h) λc s1 ⟨H1,I1,q1⟩=>?_);cases c with
 |true=>exact hb wh pins s1 σ H1 Q I1 q1
 |false=>exact⟨H1,I1,q1⟩
theorem Pe(ha:PT X a tA)(hb:PW X (.BoolOp .Or (b::rest) pos) tB'):PW X (.BoolOp .Or (a::b::rest) pos) (Af tA tB'):=by
 intro wh pins s σ H Q I h;refine isTrue_or (cM (ha pins s σ H _ I h) λc s1 ⟨H1,I1,q1⟩=>?_);cases c with
 |true=>exact⟨H1,I1,q1⟩
 |false=>exact hb wh pins s1 σ H1 Q I1 q1
theorem MY(ha:PT X a tA):PT X (.UnaryOp .Not a pos) (Ex tA):=by
 intro pins s σ H Q I h;exact isTrue_not (ha pins s σ H (λc H1=>Q (!c) H1) I h)
def uZ(ta tb:TE):TE:=λσ H Q=>ta σ H λx H1=>∃c,x=.bl c/\if c=true then tb σ H1 Q else Q (.bl false) H1
theorem MZ{op}{t:TE}(h:PE X a t):PE X (.BoolOp op [a] pos) t:=λpins s σ H Q I hw=>BoolOp_one (h pins s σ H Q I hw)
theorem M3(ha:PE X a ta)(hb:PE X (.BoolOp .And (b::rest) pos) tb):PE X (.BoolOp .And (a::b::rest) pos) (uZ ta tb):=by
 intro pins s σ H Q I h;refine BoolOp_and (cM (ha pins s σ H _ I h) λv s1 ⟨x,H1,I1,r1,q1⟩=>?_);obtain⟨c,rfl,q1⟩:=q1;cases r1;refine wpAny_truthy_bool ?_;cases c with
 |true=>exact hb pins s1 σ H1 Q I1 q1
 |false=>exact⟨.bl false,H1,I1,rfl,q1⟩
def M5(t:TT)(ta tb:TE):TE:=λσ H Q=>t σ H λc H1=>if c=true then ta σ H1 Q else tb σ H1 Q
theorem Gp{c:Expr}(hc:PT X c tA)(ha:PE X a ta)(hb:PE X b tb):PE X (.IfExp c a b pos) (M5 tA ta tb):=by
 intro pins s σ H Q I h;refine wpAny_IfExp (cM (hc pins s σ H _ I h) λd s1 ⟨H1,I1,q1⟩=>?_);cases d with
 |true=>exact ha pins s1 σ H1 Q I1 q1
 |false=>exact hb pins s1 σ H1 Q I1 q1
end
def aX(K:W.Frag)(H:Hp)(a:Addr)(xs:Uh V):Prop:=
 Rd H a (.lst xs)\/
  ∃(o:Obj) (its:Array Value) (n:Nat),K.lookup a=some o/\o.cls=.type "list"/\o.dict=none/\o.data=.seq its n/\its.size<=sizeLine/\Vals xs its.toList
def dU(K:W.Frag)(H:Hp)(a:Addr)(xs:Uh V):Prop:=
 Rd H a (.tup xs)\/
  ∃(o:Obj) (its:Array Value) (n:Nat),K.lookup a=some o/\o.cls=.type "tuple"/\o.data=.seq its n/\its.size<=sizeLine/\Vals xs its.toList
def RU:Value->Option V
 |.none=>some .non
 |.bool b=>some (.bl b)
 |.int i _=>some (.int i)
 |.str x _=>some (.str x)
 |.bytes b _=>some (.byt b)
 |.float b _=>some (.flt b)
 |.ref a=>some (.ref a)
 |.type n=>some (.ty n)
 |_=>none
theorem RelV.abs{x:V}{u:Value}(r:RelV x u):RU u=some x:=by
 cases x with
 |non=>cases r;rfl
 |bl _=>cases r;rfl
 |int _=>obtain⟨t,rfl⟩:=r;rfl
 |str _=>obtain⟨t,rfl⟩:=r;rfl
 |byt _=>obtain⟨t,rfl⟩:=r;rfl
 |flt _=>obtain⟨t,rfl⟩:=r;rfl
 |ref _=>cases r;rfl
 |ty _=>cases r;rfl
theorem RelV.inj{x y:V}{u:Value}(r:RelV x u)(q:RelV y u):x=y:=Option.some.inj (r.abs.symm.trans q.abs)
theorem Vals.inj:∀{xs ys:Uh V} {us:Uh Value},Vals xs us->Vals ys us->xs=ys
 |_,_,_,.nil,.nil=>rfl
 |_,_,_,.cons r t,.cons r' t'=>by rw[r.inj r',Vals.inj t t']
section
variable{X:Cx}{pins:Uh (Addr×Obj)}{σ:St}{H:Hp}{s:Shared}{a:Addr}{xs ys:Uh V}
theorem aX.of{K:W.Frag}(h:H a=some (.lst xs)):aX K H a xs:=.inl (.inl h)
theorem dU.of{K:W.Frag}(h:H a=some (.tup xs)):dU K H a xs:=.inl (.inl h)
theorem Inv.list(I:Inv X pins σ H s)(h:aX X.K H a xs):∃its:Uh Value,Vals xs its/\PlainL s.heap a its.toArray/\xs.length<=sizeLine:=by
 rcases h with h|⟨o,its,n,hk,hc,hd,hs,hz,r⟩
 ·obtain⟨z,its,n,r,e⟩:=h.ok I.hok;exact⟨its,r,⟨_,n,e,rfl,rfl,rfl⟩,z⟩
 ·refine⟨its.toList,r,⟨o,n,I.Cw a o hk,hc,hd,by simpa using hs⟩,?_⟩;have e:=r.length;simp only[Array.length_toList] at e;omega
theorem Inv.tuple(I:Inv X pins σ H s)(h:dU X.K H a xs):∃its:Uh Value,Vals xs its/\IsTup s.heap a its.toArray/\xs.length<=sizeLine:=by
 rcases h with h|⟨o,its,n,hk,hc,hs,hz,r⟩
 ·obtain⟨z,its,r,p⟩:=h.ok I.hok;exact⟨its,r,p,z⟩
 ·refine⟨its.toList,r,⟨o,I.Cw a o hk,hc,n,by simpa using hs⟩,?_⟩;have e:=r.length;simp only[Array.length_toList] at e;omega
theorem Inv.Gq(I:Inv X pins σ H s)(h:aX X.K H a xs)(h':aX X.K H a ys):xs=ys:=by
 obtain⟨its,r,⟨o,n,e,_,_,d⟩,_⟩:=I.list h;obtain⟨its',r',⟨o',n',e',_,_,d'⟩,_⟩:=I.list h';rw[e] at e';cases e';rw[d] at d';injection d' with d1 _
 have:its=its':=by simpa using congrArg Array.toList d1
 subst this;exact r.inj r'
end
abbrev Cx.sd(X:Cx)(E:Value->Shared->Prop):Cx:={X with xe:=E}
abbrev Cx.Kv(X:Cx):Cx:=X.sd λ_ _=>False
theorem Cx.Ok.sd{X:Cx}(ok:X.Ok)(E:Value->Shared->Prop):(X.sd E).Ok:=
 ⟨ok.mod,ok.kind,ok.glob,ok.blt,ok.above,ok.inj,ok.has,ok.cab,ok.hd,ok.frames,ok.stk,ok.exf,ok.bs,ok.bsz,ok.noex,ok.exfs,ok.qN,ok.frf⟩
theorem Cx.Ok.jf{X:Cx}{E:Value->Shared->Prop}(ok:(X.sd E).Ok):X.Ok:=
 ⟨ok.mod,ok.kind,ok.glob,ok.blt,ok.above,ok.inj,ok.has,ok.cab,ok.hd,ok.frames,ok.stk,ok.exf,ok.bs,ok.bsz,ok.noex,ok.exfs,ok.qN,ok.frf⟩
section
variable{X:Cx}{pins:Uh (Addr×Obj)}{σ:St}{H:Hp}{s:Shared}{E:Value->Shared->Prop}
theorem Inv.sd(I:Inv X pins σ H s)(E:Value->Shared->Prop):Inv (X.sd E) pins σ H s:=⟨I.ok.sd E,I.os,I.bare,I.base,I.loc,I.cell,I.free,I.freeC,I.pin,I.hok,I.len⟩
theorem Inv.jf(I:Inv (X.sd E) pins σ H s):Inv X pins σ H s:=⟨I.ok.jf,I.os,I.bare,I.base,I.loc,I.cell,I.free,I.freeC,I.pin,I.hok,I.len⟩
theorem SP.jf{D:Ends}{f:Flow}{s':Shared}(h:SP (X.sd E) pins D f s'):SP X pins D f s':=by
 cases f with
 |next=>obtain⟨σ',H',I,q⟩:=h;exact⟨σ',H',I.jf,q⟩
 |brk=>obtain⟨σ',H',I,q⟩:=h;exact⟨σ',H',I.jf,q⟩
 |cont=>obtain⟨σ',H',I,q⟩:=h;exact⟨σ',H',I.jf,q⟩
 |ret u=>obtain⟨v,σ',H',I,r,q⟩:=h;exact⟨v,σ',H',I.jf,r,q⟩
theorem Cy.Kv{st:Uh Stmt}{t:TS}(h:Cy X.Kv st t):Cy X st t:=λpins s σ H D I hw=>
 wpAny_mono (h pins s σ H D (I.sd _) hw) (λ_ _ q=>q.jf) λ_ _ z=>False.elim z
end
section
variable{X:Cx}{st:Stmt}{rest:Uh Stmt}{t u:TS}{e:Expr}{te:TE}{pos:Pos}
def cJ:TS:=λD σ H=>D.nx σ H
def aI(t u:TS):TS:=λD σ H=>t {D with nx:=u D} σ H
theorem Kw:Cy X [] cJ:=λ_ _ σ H _ I h=>wpAny_execs_nil ⟨σ,H,I,h⟩
theorem Gr(h1:PS X st t)(h2:Cy X rest u):Cy X (st::rest) (aI t u):=by
 intro pins s σ H D I h;refine wpAny_execs_cons (cM (h1 pins s σ H {D with nx:=u D} I h) λf s1 q=>?_);cases f with
 |next=>
  obtain⟨σ',H',I',q⟩:=q;exact h2 pins s1 σ' H' D I' q
 |ret v=>exact q
 |brk=>exact q
 |cont=>exact q
theorem Kx(h1:PS X st t):Cy X [st] t:=by
 intro pins s σ H D I h;refine wpAny_execs_cons (cM (h1 pins s σ H D I h) λf s1 q=>?_);cases f with
 |next=>exact wpAny_execs_nil q
 |ret v=>exact q
 |brk=>exact q
 |cont=>exact q
theorem Inv.quiet{pins:Uh (Addr×Obj)}{σ:St}{H:Hp}{s:Shared}(I:Inv X pins σ H s):interactive X.env=false:=by simp[interactive,I.ok.kind]
def cj(te:TE):TS:=λD σ H=>te σ H λ_ H1=>D.nx σ H1
theorem Ky(he:PE X e te)(hs:swapsWith e none pos.line X.env=pure false:=by rfl):PS X (.Expr e pos) (cj te):=by
 intro pins s σ H D I h;exact wpAny_Expr_any (cM (he pins s σ H _ I h) λv s1 ⟨x,H1,I1,r1,q1⟩=>⟨σ,H1,I1,q1⟩) I.quiet hs
def bG(te:TE):TS:=λD σ H=>te σ H D.rt
theorem M7(he:PE X e te):PS X (.Return (some e) pos) (bG te):=by
 intro pins s σ H D I h;exact wpAny_Return_some (cM (he pins s σ H _ I h) λv s1 ⟨x,H1,I1,r1,q1⟩=>⟨x,σ,H1,I1,r1,q1⟩)
def dP(c:TT)(t u:TS):TS:=λD σ H=>c σ H λb H1=>if b=true then t D σ H1 else u D σ H1
theorem Pf{c:Expr}{a b:Uh Stmt}{tc:TT}(hc:PT X c tc)(ha:Cy X a t)(hb:Cy X b u):PS X (.If c a b pos) (dP tc t u):=by
 intro pins s σ H D I h;refine wpAny_If (cM (hc pins s σ H _ I h) λd s1 ⟨H1,I1,q1⟩=>?_);cases d with
 |true=>exact ha pins s1 σ H1 D I1 q1
 |false=>exact hb pins s1 σ H1 D I1 q1
def se:TS:=λ_ _ _=>False
theorem Gs:PS X st se:=λ_ _ _ _ _ _ h=>h.elim
end
abbrev TG:=V->St->Hp->(St->Hp->Prop)->Prop
abbrev Kh:=Uh V->St->Hp->(St->Hp->Prop)->Prop
def PG(X:Cx)(target:Expr)(t:TG):Prop:=
 ∀(pins:Uh (Addr×Obj)) (s:Shared) (σ:St) (H:Hp) (v:V) (u:Value) (Q:St->Hp->Prop),Inv X pins σ H s->RelV v u->t v σ H Q->
  wpAny (model X.prog X.w) X.A (assign target X.env u) (λ_ s'=>∃σ' H',Inv X pins σ' H' s'/\Q σ' H') X.xe s
def Pg(X:Cx)(ts:Uh Expr)(t:Kh):Prop:=
 ∀(pins:Uh (Addr×Obj)) (s:Shared) (σ:St) (H:Hp) (vs:Uh V) (us:Uh Value) (Q:St->Hp->Prop),Inv X pins σ H s->Vals vs us->t vs σ H Q->
  wpAny (model X.prog X.w) X.A (assignInOrder ((assignEach ts X.env).map (·.2)) us) (λ_ s'=>∃σ' H',Inv X pins σ' H' s'/\Q σ' H') X.xe s
section
variable{X:Cx}{pos:Pos}
def aG(i:Nat):TG:=λv σ H Q=>Q (σ.set i (some v)) H
theorem qY{i:Nat}{x:Str}(hN:X.N.Nodup)(hi:X.N[i]?=some x)(hx:Loc X.env.scope x)(hf:X.fn x=true\/X.env.scope.names.lookup x=some .local:=by first|exact .inl rfl|exact .inr rfl|assumption):PG X (.Name x pos) (aG i):=by
 intro pins s σ H v u Q I r h;exact wpAny_assign_Name (yt I hN hi hx r (λs' I'=>⟨_,H,I',h⟩) hf)
def yw:Kh:=λvs σ H Q=>vs=[]/\Q σ H
def kI(t:TG)(u:Kh):Kh:=λvs σ H Q=>∃v r,vs=v::r/\t v σ H λσ' H'=>u r σ' H' Q
theorem CA:Pg X [] yw:=by
 intro pins s σ H vs us Q I r h;obtain⟨e,h⟩:=h;subst e;cases r;exact assignInOrder_nil ⟨σ,H,I,h⟩
theorem sf{e:Expr}{es:Uh Expr}{t:TG}{u:Kh}(h1:PG X e t)(h2:Pg X es u)
  (hs:(assignEach (e::es) X.env).map (·.2)=assign e X.env::(assignEach es X.env).map (·.2):=by rfl):Pg X (e::es) (kI t u):=by
 intro pins s σ H vs us Q I r h;obtain⟨v,vr,e1,h⟩:=h;subst e1;cases r with
 |cons r rr=>
  rw[hs];refine assignInOrder_cons (cM (h1 pins s σ H _ _ _ I r h) λ_ s1 ⟨σ1,H1,I1,q1⟩=>?_);exact h2 pins s1 σ1 H1 _ _ Q I1 rr q1
def yx(K:W.Frag)(n:Nat)(t:Kh):TG:=λv σ H Q=>∃a xs,v=.ref a/\dU K H a xs/\xs.length=n/\t xs σ H Q
theorem Gu{es:Uh Expr}{k:Nat}{t:Kh}{n:Nat}(hc:X.calm=true)(h:Pg X es t)
  (hn:(assignEach es X.env).length=n:=by rfl) (hst:(assignEach es X.env).findIdx? (·.1)=none:=by rfl):PG X (.Tuple es k pos) (yx X.K n t):=by
 intro pins s σ H v u Q I r hw;obtain⟨a,xs,e1,hq,hl,hw⟩:=hw;subst e1;cases r;obtain⟨its,rv,ht,hz⟩:=I.tuple hq;refine assign_Tuple_tuple (I.ok.hd hc) ht (by simp[hn,<-hl,rv.length]) hst λh' hx=>?_;have I1:Inv X pins σ H {s with heap:=h' }:=I.kept (t':=s.toks) λb o e=>hx b o (ne_of_lt (Heap.lt_size e)) e
 exact h pins _ σ H xs _ Q I1 (by simpa using rv) hw
def bg(te:TE)(g:TG):TS:=λD σ H=>te σ H λx H1=>g x σ H1 D.nx
theorem Gv{i:Nat}{x:Str}{e:Expr}{te:TE}{pos':Pos}(hN:X.N.Nodup)(hi:X.N[i]?=some x)(hx:Loc X.env.scope x)(he:PE X e te)(hs:swapsWith e (some (.Name x pos')) pos.line X.env=pure false:=by rfl)(hf:X.fn x=true\/X.env.scope.names.lookup x=some .local:=by first|exact .inl rfl|exact .inr rfl|assumption):
  PS X (.Assign [.Name x pos'] e pos) (bg te (aG i)):=by
 intro pins s σ H D I h;refine wpAny_Assign_Name (cM (he pins s σ H _ I h) λv s1 ⟨y,H1,I1,r1,q1⟩=>?_) hs;exact yt I1 hN hi hx r1 (λs2 I2=>⟨_,H1,I2,q1⟩) hf
end
section
variable{X:Cx}{pos:Pos}
def oW(c:TT)(tb:TS):TS:=λD σ H=>∃W:Nat->St->Hp->Prop,(∃m,W m σ H)/\∀m σ H,W m σ H->
 c σ H λb H1=>if b=true then ∃N:St->Hp->Prop,(∀σ' H',N σ' H'->∃m',m'<m/\W m' σ' H')/\tb {D with nx:=N,ct:=N,bk:=D.nx} σ H1 else D.nx σ H1
theorem Gw{c:Expr}{body:Uh Stmt}{tc:TT}{tb:TS}(hp:PassesOwn (model X.prog X.w) X.A X.env X.xe)(hc:PT X c tc)(hb:Cy X body tb):PS X (.While c body [] pos) (oW tc tb):=by
 intro pins s σ H D I h;obtain⟨W,⟨m0,w0⟩,turn⟩:=h;refine wpAny_While (codeAny_whileLoop (λn s'=>∃σ' H',Inv X pins σ' H' s'/\W n σ' H') ?_ m0 ⟨σ,H,I,w0⟩);rintro n s1 ⟨σ1,H1,I1,w1⟩;refine wpAny_passesOwn hp (cM (hc pins s1 σ1 H1 _ I1 (turn n σ1 H1 w1)) λb s2 ⟨H2,I2,q2⟩=>?_);cases b with
 |true=>
  obtain⟨N,hN,q2⟩:=q2;rw[if_pos rfl];refine wpAny_passesOwn hp (cM (hb pins s2 σ1 H2 _ I2 q2) λf s3 q3=>?_);cases f with
  |next=>
   obtain⟨σ3,H3,I3,n3⟩:=q3;obtain⟨m',hm,w3⟩:=hN σ3 H3 n3;exact⟨m',hm,σ3,H3,I3,w3⟩
  |cont=>
   obtain⟨σ3,H3,I3,n3⟩:=q3;obtain⟨m',hm,w3⟩:=hN σ3 H3 n3;exact⟨m',hm,σ3,H3,I3,w3⟩
  |brk=>exact q3
  |ret v=>exact q3
 |false=>
  rw[if_neg Bool.false_ne_true];exact wpAny_execs_nil ⟨σ1,H2,I2,q2⟩
end
structure It where
 go:Nat->Hp->Prop
 yld:Nat->Hp->V->Hp->Prop
 stop:Nat->Hp->Prop
def sj(X:Cx)(pins:Uh (Addr×Obj))(H:Hp)(b:Addr):Prop:=
 H b=none/\b≠X.env.locals/\b∉X.fs/\(b∈X.ex\/X.s₀.heap.objs.size<=b)/\(∀x c,X.env.cells.lookup x=some c->c≠b)/\∀p∈X.pn++pins,p.1≠b
theorem Inv.Kz{X:Cx}{pins:Uh (Addr×Obj)}{σ:St}{H H':Hp}{s:Shared}{b:Addr}(I:Inv X pins σ H s)(hb:s.heap.objs.size<=b)(hn:H' b=none):sj X pins H' b:=by
 refine⟨hn,ne_of_gt (lt_of_lt_of_le I.lt hb),I.MP hb,.inr (Nat.le_trans I.sz hb),λx c e z=>?_,λp hp z=>?_⟩
 ·obtain⟨v,q⟩:=I.cell x c e;exact absurd (lt_of_lt_of_le q.lt (by rw[z];exact hb)) (Nat.lt_irrefl _)
 ·exact absurd (lt_of_lt_of_le (Heap.lt_size (I.pin p hp).1) (by rw[z];exact hb)) (Nat.lt_irrefl _)
structure Turn(P:Program)(w:World)(K:W.Frag)(tg:Expr)(J:It)(fp:Uh Addr)(it:Addr)(tn:Nat->Heap->Prop):Prop where
 mem:it∈fp
 obj:∀i h,tn i h->∀b∈fp,∃o,h.get? b=some o/\∀v,o.data≠.cell v
 keep:∀i h h',tn i h->(∀b∈fp,∀o,h.get? b=some o->h'.get? b=some o)->tn i h'
 item:∀(X:Cx),X.prog=P->X.w=w->X.K=K->X.calm=true->∀(i:Nat) (pins:Uh (Addr×Obj)) (s:Shared) (σ:St) (H:Hp) (E:Value->Shared->Prop),Inv X pins σ H s->(∀b∈fp,sj X pins H b)->tn i s.heap->J.go i H->
  wpAny (model P w) X.A (pyNext (.ref it)) (λr s1=>∃u,r=some u/\
   wpAny (model P w) X.A (letOwnedTupleGo tg (.ref it) u) (λ_ s2=>∃x H',Inv X pins σ H' s2/\RelV x u/\J.yld i H x H'/\tn (i+1) s2.heap/\∀b∈fp,H' b=none) E s1) E s
 done:∀(X:Cx),X.prog=P->X.w=w->X.K=K->X.calm=true->∀(i:Nat) (pins:Uh (Addr×Obj)) (s:Shared) (σ:St) (H:Hp) (E:Value->Shared->Prop),Inv X pins σ H s->(∀b∈fp,sj X pins H b)->tn i s.heap->J.stop i H->
  wpAny (model P w) X.A (pyNext (.ref it)) (λr s1=>r=none/\Inv X pins σ H s1) E s
 self:∀(A:Around) (i:Nat) (s:Shared) (Q:Value->Shared->Prop) (E:Value->Shared->Prop),tn i s.heap->Q (.ref it) s->wpAny (model P w) A (pyIter (.ref it)) Q E s
abbrev TI:=St->Hp->(It->Hp->Prop)->Prop
def Tj(X:Cx)(pins:Uh (Addr×Obj))(σ:St)(tg:Expr)(R:It->Hp->Prop)(itv:Value)(s2:Shared):Prop:=
 ∃(it:Addr) (fp:Uh Addr) (tn:Nat->Heap->Prop) (J:It) (H':Hp),itv=.ref it/\Inv X pins σ H' s2/\Turn X.prog X.w X.K tg J fp it tn/\tn 0 s2.heap/\(∀b∈fp,sj X pins H' b)/\R J H'
def PI(X:Cx)(tg iter:Expr)(wi:TI):Prop:=
 ∀(pins:Uh (Addr×Obj)) (s:Shared) (σ:St) (H:Hp) (R:It->Hp->Prop),Inv X pins σ H s->wi σ H R->
  wpAny (model X.prog X.w) X.A (eval iter X.env) (λv s1=>wpAny (model X.prog X.w) X.A (pyIter v) (Tj X pins σ tg R) X.xe s1) X.xe s
theorem CB{M:Model}{A:Around}{E:Value->Shared->Prop}{s:Shared}{tg:Expr}{it:Addr}{u:Value}{o:Obj}{n:String}{vs:Array Value}{Q:Unit->Shared->Prop}(ho:s.heap.get? it=some o)(hc:o.cls=.type n)(hd:o.data=.fields vs)
  (hn:["enumerate", "zip", "dict_itemiterator", "dict_reverseitemiterator", "odict_iterator", "itertools.zip_longest", "itertools.pairwise"].contains n=false) (hQ:Q () s):wpAny M A (letOwnedTupleGo tg (.ref it) u) Q E s:=by
 unfold letOwnedTupleGo;cases tg<;>first
  |exact wpAny_pure hQ
  |(cases u<;>first
    |exact wpAny_pure hQ
    |(refine wpAny_bind (wpAny_load ho ?_)
      rw[hc,hd];show wpAny M A (if (["enumerate", "zip", "dict_itemiterator", "dict_reverseitemiterator", "odict_iterator", "itertools.zip_longest", "itertools.pairwise"].contains n&&vs[0]?==some (rawInt _))=true then _ else _) Q E s
      rw[if_neg (by intro h;rw[hn,Bool.false_and] at h;cases h)];exact wpAny_pure hQ))
def Mr(K:W.Frag)(a:Addr):It:=
 ⟨λi H=>∃xs x,aX K H a xs/\xs[i]?=some x,λi H x H'=>H'=H/\∀xs,aX K H a xs->xs[i]?=some x,λi H=>∃xs,aX K H a xs/\xs.length<=i⟩
def Kl(lo:Int)(n:Nat):It:=⟨λi _=>i<n,λi H x H'=>H'=H/\x=.int (lo+i),λi _=>n<=i⟩
theorem Ey{P:Program}{w:World}{K:W.Frag}{tg:Expr}(a it:Addr):Turn P w K tg (Mr K a) [it] it (λi h=>h.IsListIter it a i) where
 mem:=by simp
 obj:=λi h st b hb=>by
  have e:b=it:=by simpa using hb
  subst e;obtain⟨o,e,c,d⟩:=st;exact⟨o,e,λv z=>by rw[d] at z;cases z⟩
 keep:=λi h h' st k=>st.at λo e=>k it (by simp) o e
 item:=by
  intro X hP hw hK hc i pins s σ H E I hf st hg;subst hP hw hK;obtain⟨xs,x,hq,hx⟩:=hg;obtain⟨its,rv,p,hz⟩:=I.list hq;obtain⟨u,hu,ru⟩:=rv.get hx;obtain⟨f0,f1,f2,f3,f4,f5⟩:=hf it (by simp);refine wpAny_pyNext_list_item st p.isList (x:=u) (by simpa using hu) λh' st' sb=>?_;have I1:Inv X pins σ H {s with heap:=h' }:=I.turned (t':=s.toks) (λb o hb e=>(sb.2 b hb).trans e) f0 f1 f3 f4 f5
  obtain⟨o,e,c,d⟩:=id st';exact⟨u,rfl,CB (s:={s with heap:=h' }) e c d (by decide) ⟨x,H,I1,ru,⟨rfl,λys hy=>by rw[I.Gq hy hq];exact hx⟩,st',λb hb=>(hf b hb).1⟩⟩
 done:=by
  intro X hP hw hK hc i pins s σ H E I hf st hg;subst hP hw hK;obtain⟨xs,hq,hx⟩:=hg;obtain⟨its,rv,p,hz⟩:=I.list hq;obtain⟨f0,f1,f2,f3,f4,f5⟩:=hf it (by simp);have hl:=rv.length;exact wpAny_pyNext_list_end (I.ok.hd hc) st p.isList (by simp;omega) λh' eb=>⟨rfl,I.turned (t':=s.toks) (λb o hb e=>eb b o hb e) f0 f1 f3 f4 f5⟩
 self:=λ_ _ _ _ _ st h=>wpAny_pyIter_listiter st h
theorem Ag{P:Program}{w:World}{K:PySem.W.Frag}{tg:Expr}(it:Addr)(lo:Int)(n:Nat):Turn P w K tg (Kl lo n) [it] it (λi h=>IsRangeIter h it (lo+(i:Nat)*1) ((n:Int)-(i:Nat)) 1) where
 mem:=by simp
 obj:=λi h st b hb=>by
  have e:b=it:=by simpa using hb
  subst e;exact⟨_,st,λv z=>by
   have z':Data.fields _=Data.cell v:=z;cases z'⟩
 keep:=λi h h' st k=>k it (by simp) _ st
 item:=by
  intro X hP hw hK hc i pins s σ H E I hf st hg;subst hP hw hK;obtain⟨f0,f1,f2,f3,f4,f5⟩:=hf it (by simp);have W:=Walks.range (prog:=X.prog) (w:=X.w) (I.ok.hd hc) it lo 1 n;refine W.item i s _ _ hg st λv h' tk hv st' kk=>?_;obtain⟨t,rfl⟩:=hv;have I1:Inv X pins σ H {s with heap:=h',toks:=tk}:=I.turned (λb o hb e=>kk b o (by simpa using hb) e) f0 f1 f3 f4 f5
  refine⟨_,rfl,CB (s:={s with heap:=h',toks:=tk}) (n:="range_iterator") st' rfl rfl (by decide) ⟨.int (lo+i),H,I1,⟨t,?_⟩,⟨rfl,rfl⟩,st',λb hb=>(hf b hb).1⟩⟩;rw[Int.mul_one]
 done:=by
  intro X hP hw hK hc i pins s σ H E I hf st hg;subst hP hw hK;obtain⟨f0,f1,f2,f3,f4,f5⟩:=hf it (by simp);exact wpAny_pyNext_range_end (I.ok.hd hc) st (by have:n<=i:=hg;omega) λh' eb=>⟨rfl,I.turned (t':=s.toks) (λb o hb e=>eb b o hb e) f0 f1 f3 f4 f5⟩
 self:=λ_ _ _ _ _ st h=>wpAny_pyIter_rangeiter st h
section
variable{X:Cx}{tg:Expr}
def bS(K:W.Frag)(tl:TE):TI:=λσ H R=>tl σ H λx H1=>∃a,x=.ref a/\(∃xs,aX K H1 a xs)/\R (Mr K a) H1
theorem KA{l:Expr}{tl:TE}(hl:PE X l tl):PI X tg l (bS X.K tl):=by
 intro pins s σ H R I h;refine cM (hl pins s σ H _ I h) λv s1 ⟨x,H1,I1,r1,q1⟩=>?_;obtain⟨a,e,⟨xs,hq⟩,q⟩:=q1;subst e;cases r1;obtain⟨its,rv,p,hz⟩:=I1.list hq;refine wpAny_pyIter_list p.isList ?_;refine⟨s1.heap.objs.size,[s1.heap.objs.size],_,_,H1,rfl,I1.kept (t':=s1.toks) λb o e=>Heap.get?_push_of_some _ e,Ey a _,⟨_,Heap.get?_push_size _ rfl,rfl,rfl⟩,λb hb=>?_,q⟩;have e:b=s1.heap.objs.size:=by simpa using hb
 subst e;exact I1.Kz (le_refl _) (I1.hok.fresh (le_refl _))
theorem yy{pins:Uh (Addr×Obj)}{σ:St}{H:Hp}{s:Shared}{R:It->Hp->Prop}{E:Value->Shared->Prop}{lo hi:Int}{t u v:Tok}{tk:Nat}(I:Inv X pins σ H s)(h1:-(2^62)<=lo)(h2:lo<2^62)(h3:-(2^62)<=hi)(h4:hi<2^62)
  (q:R (Kl lo (hi-lo).toNat) H):wpAny (model X.prog X.w) X.A (pyIter (.ref s.heap.objs.size)) (Tj X pins σ tg R) E {s with heap:=s.heap.push {cls:=.type "range",data:=.fields #[.int lo t,.int hi u,.int 1 v] },toks:=tk}:=by
 refine wpAny_pyIter_range (IsRange.new ..) (small_one h1 h2 h3 h4) ?_;have I1:Inv X pins σ H {s with heap:=s.heap.push {cls:=.type "range",data:=.fields #[.int lo t,.int hi u,.int 1 v] },toks:=tk}:=I.kept λb o e=>Heap.get?_push_of_some _ e
 refine⟨(s.heap.push {cls:=.type "range",data:=.fields #[.int lo t,.int hi u,.int 1 v] }).objs.size,[(s.heap.push {cls:=.type "range",data:=.fields #[.int lo t,.int hi u,.int 1 v] }).objs.size],_,_,H,rfl,
  I1.kept (t':=tk) λb o e=>Heap.get?_push_of_some _ e,Ag _ lo (hi-lo).toNat,?_,λb hb=>?_,q⟩
 ·have e1:lo+((0:Nat):Int)*1=lo:=by simp
  have e2:(((hi-lo).toNat:Nat):Int)-((0:Nat):Int)=Builtin.Range.rangeSize lo hi 1:=by rw[rangeSize_one];split<;>omega
  show IsRangeIter _ _ (lo+((0:Nat):Int)*1) ((((hi-lo).toNat:Nat):Int)-((0:Nat):Int)) 1;rw[e1,e2];exact Heap.get?_push_size _ rfl
 ·have e:b=(s.heap.push {cls:=.type "range",data:=.fields #[.int lo t,.int hi u,.int 1 v] }).objs.size:=by simpa using hb
  subst e;exact I1.Kz (le_refl _) (I1.hok.fresh (le_refl _))
def iU(ta:TA):TI:=λσ H R=>ta σ H λvs H1=>∃j:Int,vs=[.int j]/\-(2^62)<=j/\j<2^62/\R (Kl 0 j.toNat) H1
def CC(ta:TA):TI:=λσ H R=>ta σ H λvs H1=>∃i j:Int,vs=[.int i,.int j]/\(-(2^62)<=i/\i<2^62/\-(2^62)<=j/\j<2^62)/\R (Kl i (j-i).toNat) H1
theorem Ez{a:Expr}{ta:TA}{p pos:Pos}(hg:Gl X "range")(hm:X.mg "range" =none)(ha:PA X [a] ta)(hs:starEach [a] X.env=[(false,eval a X.env)]:=by rfl):PI X tg (.Call (.Name "range" p) [a] [] pos) (iU ta):=by
 intro pins s σ H R I h;refine Call_ (mE I hg hm boot_range (PyProof.Rows.callWith_type1 (cM (ha pos pins s σ H _ I h) λus s1 ⟨vs,H1,I1,r1,q1⟩=>?_) hs rfl));obtain⟨j,e,q1,q2,q⟩:=q1;subst e;cases r1 with
 |cons r rr=>
  cases rr;obtain⟨t,rfl⟩:=r;exact call_range_1 (yy I1 (by omega) (by omega) q1 q2 (by simpa using q))
theorem EA{a b:Expr}{ta:TA}{p pos:Pos}(hg:Gl X "range")(hm:X.mg "range" =none)(ha:PA X [a,b] ta)(hs:starEach [a,b] X.env=[(false,eval a X.env),(false,eval b X.env)]:=by rfl)(hs2:starEach [b] X.env=[(false,eval b X.env)]:=by rfl):
  PI X tg (.Call (.Name "range" p) [a,b] [] pos) (CC ta):=by
 intro pins s σ H R I h;refine Call_ (mE I hg hm boot_range (PyProof.Rows.callWith_type1 (cM (ha pos pins s σ H _ I h) λus s1 ⟨vs,H1,I1,r1,q1⟩=>?_) (by rw[hs,hs2]) (by rw[hs2];rfl)));obtain⟨i,j,e,⟨q1,q2,q3,q4⟩,q⟩:=q1;subst e;cases r1 with
 |cons r rr=>
  cases rr with
  |cons r' rr=>
   cases rr;obtain⟨t,rfl⟩:=r;obtain⟨t',rfl⟩:=r';exact call_range_2 (yy I1 q1 q2 q3 q4 q)
def gQ(wi:TI)(g:TG)(tb:TS):TS:=λD σ H=>wi σ H λJ H1=>∃W:Nat->Nat->St->Hp->Prop,(∃m,W 0 m σ H1)/\∀i m σ H,W i m σ H->
 (J.stop i H/\D.nx σ H)\/(J.go i H/\∃N:St->Hp->Prop,(∀σ' H',N σ' H'->∃m',m'<m/\W (i+1) m' σ' H')/\∀x H',J.yld i H x H'->g x σ H' λσ2 H2=>tb {D with nx:=N,ct:=N,bk:=D.nx} σ2 H2)
def oX(fp:Uh Addr)(h:Heap):Uh (Addr×Obj):=fp.filterMap λb=>(h.get? b).map λo=>(b,o)
theorem fM{fp:Uh Addr}{h:Heap}{b:Addr}{o:Obj}(hb:b∈fp)(e:h.get? b=some o):(b,o)∈oX fp h:=mem_filterMap.mpr ⟨b,hb,by rw[e];rfl⟩
theorem EB{fp:Uh Addr}{h:Heap}{p:Addr×Obj}(hp:p∈oX fp h):p.1∈fp/\h.get? p.1=some p.2:=by
 obtain⟨b,hb,e⟩:=mem_filterMap.mp hp;cases q:h.get? b with
 |none=>rw[q] at e;cases e
 |some o=>
  rw[q] at e;have e':(b,o)=p:=Option.some.inj e;subst e';exact⟨hb,q⟩
theorem Inv.pinned{pins:Uh (Addr×Obj)}{σ:St}{H:Hp}{s:Shared}{fp:Uh Addr}(I:Inv X pins σ H s)(hf:∀b∈fp,sj X pins H b)(ho:∀b∈fp,∃o,s.heap.get? b=some o/\∀v,o.data≠.cell v):Inv X (pins++oX fp s.heap) σ H s:=
 I.lF λp hp=>(mem_append.mp hp).elim (λz=>I.pin p (mem_append_right _ z)) λz=>by
  obtain⟨hb,e⟩:=EB z;obtain⟨f0,f1,f2,_⟩:=hf p.1 hb;obtain⟨o,e',d⟩:=ho p.1 hb;rw[e] at e';cases e';exact⟨e,f0,f1,f2,d⟩
theorem Inv.sq{pins pl:Uh (Addr×Obj)}{σ:St}{H:Hp}{s:Shared}(I:Inv X (pins++pl) σ H s):Inv X pins σ H s:=I.lF λp hp=>I.pin p (mem_append_right _ (mem_append_left _ hp))
theorem M8{iter:Expr}{body:Uh Stmt}{wi:TI}{g:TG}{tb:TS}{pos:Pos}(hp:PassesOwn (model X.prog X.w) X.A X.env X.xe)(hc:X.calm=true)(hi:PI X tg iter wi)(hg:PG X tg g)(hb:Cy X body tb)
  (hs:∀x,foldedSetIterable iter X.env x=pure x:=by intro _;rfl):PS X (.For tg iter body [] pos) (gQ wi g tb):=by
 intro pins s σ H D I h;refine wpAny_For (cM (hi pins s σ H _ I h) λv s1 h1=>cM h1 λitv s2 h2=>?_) hs;obtain⟨it,fp,tn,J,H2,e,I2,T,st2,f2,W,⟨m0,w0⟩,turn⟩:=h2;subst e
 -- what stays true of the iterator's objects through the loop
 have sr:∀{H':Hp},(∀b∈fp,H' b=none)->∀b∈fp,sj X pins H' b:=λhn b hb=>⟨hn b hb,(f2 b hb).2⟩;refine codeAny_forLoop_any (λn s'=>∃i σ' H',Inv X pins σ' H' s'/\tn i s'.heap/\(∀b∈fp,H' b=none)/\W i n σ' H') ?_ m0 ⟨0,σ,H2,I2,st2,λb hb=>(f2 b hb).1,w0⟩;rintro n s3 ⟨i,σ3,H3,I3,st3,fr3,w3⟩
 rcases turn i n σ3 H3 w3 with⟨stop,qn⟩|⟨go,N,hN,step⟩
 ·refine wpAny_passesOwn hp (cM (T.done X rfl rfl rfl hc i pins s3 σ3 H3 X.xe I3 (sr fr3) st3 stop) λr s4 ⟨hr,I4⟩=>?_);subst hr;exact wpAny_execs_nil ⟨σ3,H3,I4,qn⟩
 ·refine wpAny_passesOwn hp (cM (T.item X rfl rfl rfl hc i pins s3 σ3 H3 X.xe I3 (sr fr3) st3 go) λr s4 ⟨u,hr,h4⟩=>?_);subst hr;refine wpAny_passesOwn hp (cM h4 λ_ s5 ⟨x,H5,I5,r5,y5,st5,fr5⟩=>?_);have I5':=I5.pinned (sr fr5) (T.obj _ _ st5);refine wpAny_passesOwn hp (cM (hg _ s5 σ3 H5 x u _ I5' r5 (step x H5 y5)) λ_ s6 ⟨σ6,H6,I6,q6⟩=>?_);refine wpAny_passesOwn hp (cM (hb _ s6 σ6 H6 _ I6 q6) λf s7 q7=>?_);have again:∀{σ7:St} {H7:Hp},Inv X (pins++oX fp s5.heap) σ7 H7 s7->N σ7 H7->∃m,m<n/\∃i σ' H',Inv X pins σ' H' s7/\tn i s7.heap/\(∀b∈fp,H' b=none)/\W i m σ' H':=λ{σ7 H7} I7 n7=>by
   obtain⟨m',hm,w7⟩:=hN σ7 H7 n7;refine⟨m',hm,i+1,σ7,H7,I7.sq,T.keep _ _ _ st5 λb hb o e=>(I7.pin (b,o) (mem_append_right _ (mem_append_right _ (fM hb e)))).1,λb hb=>?_,w7⟩;obtain⟨o,e,d⟩:=T.obj _ _ st5 b hb;exact(I7.pin (b,o) (mem_append_right _ (mem_append_right _ (fM hb e)))).2.1
  cases f with
  |next=>obtain⟨σ7,H7,I7,n7⟩:=q7;exact again I7 n7
  |cont=>obtain⟨σ7,H7,I7,n7⟩:=q7;exact again I7 n7
  |brk=>obtain⟨σ7,H7,I7,q7⟩:=q7;exact⟨σ7,H7,I7.sq,q7⟩
  |ret v=>obtain⟨x7,σ7,H7,I7,r7,q7⟩:=q7;exact⟨x7,σ7,H7,I7.sq,r7,q7⟩
end
theorem Gx{K:PySem.W.Frag}{a:Addr}{xs:Uh V}{g:TG}{tb:TS}{D:Ends}{σ:St}{H:Hp}(Pv:Nat->St->Hp->Prop)(h0:Pv 0 σ H)(hl:∀i σ H,i<=xs.length->Pv i σ H->aX K H a xs)
  (hs:∀i x σ H,xs[i]?=some x->Pv i σ H->g x σ H λσ2 H2=>tb {D with nx:=Pv (i+1),ct:=Pv (i+1),bk:=D.nx} σ2 H2) (hd:∀σ H,Pv xs.length σ H->D.nx σ H):
  ∃W:Nat->Nat->St->Hp->Prop,(∃m,W 0 m σ H)/\∀i m σ H,W i m σ H->
   ((Mr K a).stop i H/\D.nx σ H)\/((Mr K a).go i H/\∃N:St->Hp->Prop,(∀σ' H',N σ' H'->∃m',m'<m/\W (i+1) m' σ' H')/\∀x H',(Mr K a).yld i H x H'->g x σ H' λσ2 H2=>tb {D with nx:=N,ct:=N,bk:=D.nx} σ2 H2):=by
 refine⟨λi m σ H=>m=xs.length-i/\i<=xs.length/\Pv i σ H,⟨xs.length,by simp,zero_le _,h0⟩,?_⟩;rintro i m σ H ⟨rfl,hi,p⟩;have q:=hl i σ H hi p
 by_cases hlt:i<xs.length
 ·refine .inr ⟨⟨xs,xs[i],q,by simp[hlt]⟩,Pv (i+1),λσ' H' p'=>⟨xs.length-(i+1),by omega,rfl,hlt,p'⟩,λx H' y=>?_⟩;obtain⟨e,y⟩:=y;subst e;exact hs i x σ _ (y xs q) p
 ·have e:i=xs.length:=by omega
  subst e;exact .inl ⟨⟨xs,q,le_refl _⟩,hd σ H p⟩
theorem EC{lo:Int}{n:Nat}{g:TG}{tb:TS}{D:Ends}{σ:St}{H:Hp}(Pv:Nat->St->Hp->Prop)(h0:Pv 0 σ H)
  (hs:∀i σ H,i<n->Pv i σ H->g (.int (lo+i)) σ H λσ2 H2=>tb {D with nx:=Pv (i+1),ct:=Pv (i+1),bk:=D.nx} σ2 H2) (hd:∀σ H,Pv n σ H->D.nx σ H):
  ∃W:Nat->Nat->St->Hp->Prop,(∃m,W 0 m σ H)/\∀i m σ H,W i m σ H->
   ((Kl lo n).stop i H/\D.nx σ H)\/((Kl lo n).go i H/\∃N:St->Hp->Prop,(∀σ' H',N σ' H'->∃m',m'<m/\W (i+1) m' σ' H')/\∀x H',(Kl lo n).yld i H x H'->g x σ H' λσ2 H2=>tb {D with nx:=N,ct:=N,bk:=D.nx} σ2 H2):=by
 refine⟨λi m σ H=>m=n-i/\i<=n/\Pv i σ H,⟨n,by simp,zero_le _,h0⟩,?_⟩;rintro i m σ H ⟨rfl,hi,p⟩
 by_cases hlt:i<n
 ·refine .inr ⟨hlt,Pv (i+1),λσ' H' p'=>⟨n-(i+1),by omega,rfl,hlt,p'⟩,λx H' y=>?_⟩;obtain⟨e,y⟩:=y;subst e y;exact hs i σ _ hlt p
 ·have e:i=n:=by omega
  subst e;exact .inl ⟨le_refl _,hd σ H p⟩
abbrev R2:=V->V->Hp->VK->Prop
def mF(X:Cx)(f:Value->Value->Sem Value)(r:R2):Prop:=
 ∀(pins:Uh (Addr×Obj)) (s:Shared) (σ:St) (H:Hp) (x y:V) (v u:Value) (Q:VK),Inv X pins σ H s->RelV x v->RelV y u->r x y H Q->
  wpAny (model X.prog X.w) X.A (f v u) (EP X pins σ Q) X.xe s
def RJ(X:Cx)(f:Value->Sem Value)(r:V->Hp->VK->Prop):Prop:=
 ∀(pins:Uh (Addr×Obj)) (s:Shared) (σ:St) (H:Hp) (x:V) (v:Value) (Q:VK),Inv X pins σ H s->RelV x v->r x H Q->
  wpAny (model X.prog X.w) X.A (f v) (EP X pins σ Q) X.xe s
def fJ(X:Cx)(f:Value)(r:Uh V->Hp->VK->Prop):Prop:=
 ∀(pins:Uh (Addr×Obj)) (s:Shared) (σ:St) (H:Hp) (xs:Uh V) (us:Uh Value) (Q:VK),Inv X pins σ H s->Vals xs us->r xs H Q->
  wpAny (model X.prog X.w) X.A (call f us) (EP X pins σ Q) X.xe s
def aP(r:R2)(ta tb:TE):TE:=λσ H Q=>ta σ H λx H1=>tb σ H1 λy H2=>r x y H2 Q
def O4(r:V->Hp->VK->Prop)(ta:TE):TE:=λσ H Q=>ta σ H λx H1=>r x H1 Q
def rI(C:Int->Int->Prop)(g:Int->Int->V):R2:=λx y H Q=>∃i j,x=.int i/\y=.int j/\C i j/\Q (g i j) H
def CD(g:Int->Int->V):R2:=λx y H Q=>∃i j,x=.int i/\y=.int j/\Q (g i j) H
def rU(g:Int->V):V->Hp->VK->Prop:=λx H Q=>∃i,x=.int i/\Q (g i) H
section
variable{X:Cx}{a b c:Expr}{ta tb tc:TE}{pos:Pos}
theorem M9(ha:PE X a ta)(hb:PE X b tb){pins:Uh (Addr×Obj)}{s:Shared}{σ:St}{H:Hp}{R:V->V->Hp->Prop}(I:Inv X pins σ H s)
  (h:ta σ H λx H1=>tb σ H1 λy H2=>R x y H2) {Q:Value->Shared->Prop} {f:Value->Value->Sem Value}
  (hf:∀v u s2 x y H2,Inv X pins σ H2 s2->RelV x v->RelV y u->R x y H2->wpAny (model X.prog X.w) X.A (f v u) Q X.xe s2):
  wpAny (model X.prog X.w) X.A (eval a X.env) (λv s₁=>wpAny (model X.prog X.w) X.A (eval b X.env) (λu s₂=>wpAny (model X.prog X.w) X.A (f v u) Q X.xe s₂) X.xe s₁) X.xe s:=by
 refine cM (ha pins s σ H _ I h) λv s1 ⟨x,H1,I1,r1,q1⟩=>?_;refine cM (hb pins s1 σ H1 _ I1 q1) λu s2 ⟨y,H2,I2,r2,q2⟩=>?_;exact hf v u s2 x y H2 I2 r1 r2 q2
theorem Ph{op:Operator}{r:R2}(ho:mF X (binaryOp op) r)(ha:PE X a ta)(hb:PE X b tb):PE X (.BinOp a op b pos) (aP r ta tb):=by
 intro pins s σ H Q I h;exact wpAny_BinOp (M9 ha hb I h λv u s2 x y H2 I2 rx ry q=>ho pins s2 σ H2 x y v u Q I2 rx ry q)
theorem Pj{op:UnaryOp}{r:V->Hp->VK->Prop}(ho:RJ X (unaryOp op) r)(ha:PE X a ta):PE X (.UnaryOp op a pos) (O4 r ta):=by
 intro pins s σ H Q I h;exact UnaryOp_ (cM (ha pins s σ H _ I h) λv s1 ⟨x,H1,I1,r1,q1⟩=>ho pins s1 σ H1 x v Q I1 r1 q1)
theorem RK{f:Value->Value->Sem Value}{C:Int->Int->Prop}{g:Int->Int->Int}
  (rule:∀(i j:Int) (t u:Tok) (s:Shared) (Q:Value->Shared->Prop) (E:Value->Shared->Prop),C i j->Q (.int (g i j) s.toks) {s with toks:=s.toks+1}->wpAny (model X.prog X.w) X.A (f (.int i t) (.int j u)) Q E s):
  mF X f (rI C λi j=>.int (g i j)):=by
 intro pins s σ H x y v u Q I rx ry h;obtain⟨i,j,rfl,rfl,hc,q⟩:=h;obtain⟨t,rfl⟩:=rx;obtain⟨t',rfl⟩:=ry;exact rule i j t t' s _ _ hc ⟨.int (g i j),H,I.tok _,⟨_,rfl⟩,q⟩
theorem Pk{f:Value->Value->Sem Value}{g:Int->Int->Int}
  (rule:∀(i j:Int) (t u:Tok) (s:Shared) (Q:Value->Shared->Prop) (E:Value->Shared->Prop),Q (.int (g i j) s.toks) {s with toks:=s.toks+1}->wpAny (model X.prog X.w) X.A (f (.int i t) (.int j u)) Q E s):
  mF X f (CD λi j=>.int (g i j)):=by
 intro pins s σ H x y v u Q I rx ry h;obtain⟨i,j,rfl,rfl,q⟩:=h;obtain⟨t,rfl⟩:=rx;obtain⟨t',rfl⟩:=ry;exact rule i j t t' s _ _ ⟨.int (g i j),H,I.tok _,⟨_,rfl⟩,q⟩
theorem Nb{f:Value->Value->Sem Value}{g:Int->Int->Bool}
  (rule:∀(i j:Int) (t u:Tok) (s:Shared) (Q:Value->Shared->Prop) (E:Value->Shared->Prop),Q (.bool (g i j)) s->wpAny (model X.prog X.w) X.A (f (.int i t) (.int j u)) Q E s):
  mF X f (CD λi j=>.bl (g i j)):=by
 intro pins s σ H x y v u Q I rx ry h;obtain⟨i,j,rfl,rfl,q⟩:=h;obtain⟨t,rfl⟩:=rx;obtain⟨t',rfl⟩:=ry;exact rule i j t t' s _ _ ⟨.bl (g i j),H,I,rfl,q⟩
def KC(i j:Int):Prop:=0<j/\j<1073741824
def Nc(i j:Int):Prop:=(-(2^64)<i/\i<2^64)\/(-(2^64)<j/\j<2^64)
theorem Nc.ok{i j:Int}(h:Nc i j):IntMulOk i j:=by
 rcases h with⟨h1,h2⟩|⟨h1,h2⟩
 ·exact .of_left (intBits_le_64 h1 h2)
 ·exact .of_right (intBits_le_64 h1 h2)
theorem Ah(k:Nat):(0:Int)<=2^k:=by
 rw[two_pow_cast];exact Int.natCast_nonneg _
theorem bF:mF X (binaryOp .Add) (CD λi j=>.int (i+j)):=Pk λ_ _ _ _ _ _ _ q=>add_int q
theorem gR:mF X (binaryOp .Sub) (CD λi j=>.int (i-j)):=Pk λ_ _ _ _ _ _ _ q=>sub_int q
theorem gz:mF X (binaryOp .FloorDiv) (rI KC λi j=>.int (i/j)):=RK λi j _ _ _ _ _ hc q=>by
 have h1:(0:Int)<j:=hc.1;have h2:j<1073741824:=hc.2;exact floordiv_int (by omega) (by rw[Int.fdiv_eq_ediv_of_nonneg i (by omega)];exact q) (.inl (PyProof.noPylong_small (by omega)))
theorem ff:mF X (binaryOp .Mod) (rI (λ_ j=>0<j) λi j=>.int (i%j)):=RK λi j _ _ _ _ _ hc q=>by
 have h1:(0:Int)<j:=hc;exact mod_int' (by omega) (by rw[Int.fmod_eq_emod_of_nonneg i (by omega)];exact q)
theorem Nd:mF X (binaryOp .RShift) (rI (λ_ j=>0<=j) λi j=>.int (i/2^j.toNat)):=RK λi j _ _ _ _ _ hc q=>
 rshift_int hc (by rw[Int.fdiv_eq_ediv_of_nonneg i (Ah _)];exact q)
theorem Tw{f:Value->Sem Value}{g:Int->Int}
  (rule:∀(i:Int) (t:Tok) (s:Shared) (Q:Value->Shared->Prop) (E:Value->Shared->Prop),Q (.int (g i) s.toks) {s with toks:=s.toks+1}->wpAny (model X.prog X.w) X.A (f (.int i t)) Q E s):
  RJ X f (rU λi=>.int (g i)):=by
 intro pins s σ H x v Q I rx h;obtain⟨i,rfl,q⟩:=h;obtain⟨t,rfl⟩:=rx;exact rule i t s _ _ ⟨.int (g i),H,I.tok _,⟨_,rfl⟩,q⟩
theorem Gy:RJ X (unaryOp .USub) (rU λi=>.int (-i)):=Tw λ_ _ _ _ _ q=>neg_int q
end
def KH:V->V->Bool
 |.non,.non=>true |.non,.int _=>true |.int _,.non=>true |.non,.bl _=>true |.bl _,.non=>true |.non,.str _=>true |.str _,.non=>true
 |.int _,.int _=>true |.bl _,.bl _=>true |.str _,.str _=>true |.byt _,.byt _=>true
 |.int _,.str _=>true |.str _,.int _=>true |.bl _,.str _=>true |.str _,.bl _=>true
 |_,_=>false
def ED:R2:=λx y H Q=>KH x y=true/\Q (.bl (decide (x=y))) H
def Nf:R2:=λx y H Q=>KH x y=true/\Q (.bl (!decide (x=y))) H
theorem CF{i j:Int}:decide (V.int i=V.int j)=(i==j):=by
 rw[Bool.eq_iff_iff];simp
theorem Gz{i j:Bool}:decide (V.bl i=V.bl j)=(i==j):=by
 rw[Bool.eq_iff_iff];simp
theorem CG{i j:Str}:decide (V.str i=V.str j)=(i==j):=by
 rw[Bool.eq_iff_iff];simp
theorem CH{i j:Array UInt8}:decide (V.byt i=V.byt j)=(i.toList==j.toList):=by
 rw[Bool.eq_iff_iff];cases i;cases j;simp
section
variable{X:Cx}{a b c:Expr}{ta tb tc:TE}{pos:Pos}
theorem bI{pins:Uh (Addr×Obj)}{σ:St}{H:Hp}{s:Shared}{Q:VK}{k k':Bool}(I:Inv X pins σ H s)(q:Q (.bl k) H)(e:k=k'):EP X pins σ Q (.bool k') s:=by
 subst e;exact⟨.bl k,H,I,rfl,q⟩
theorem mY:mF X (compareOp .Eq) ED:=by
 intro pins s σ H x y v u Q I rx ry h;obtain⟨hs,q⟩:=h;cases x with
 |non=>
  cases rx;cases y with
  |non=>cases ry;exact PySem.EqNone.eq_none_none (bI I q (by simp))
  |bl j=>cases ry;exact PySem.EqNone.eq_none_bool (bI I q (by simp))
  |int j=>obtain⟨t',rfl⟩:=ry;exact PySem.EqNone.eq_none_int (bI I q (by simp))
  |str j=>obtain⟨t',rfl⟩:=ry;exact PySem.EqNone.eq_none_str (bI I q (by simp))
  |_=>exact absurd (show false=true from hs) Bool.false_ne_true
 |bl i=>
  cases rx;cases y with
  |non=>cases ry;exact PySem.EqNone.eq_bool_none (bI I q (by simp))
  |bl j=>cases ry;exact eq_bool (bI I q Gz)
  |str j=>obtain⟨t',rfl⟩:=ry;exact PySem.EqMixed.eq_bool_str (bI I q (by simp))
  |_=>exact absurd (show false=true from hs) Bool.false_ne_true
 |int i=>
  obtain⟨t,rfl⟩:=rx;cases y with
  |non=>cases ry;exact PySem.EqNone.eq_int_none (bI I q (by simp))
  |int j=>obtain⟨t',rfl⟩:=ry;exact eq_int (bI I q CF)
  |str j=>obtain⟨t',rfl⟩:=ry;exact PySem.EqMixed.eq_int_str (bI I q (by simp))
  |_=>exact absurd (show false=true from hs) Bool.false_ne_true
 |str i=>
  obtain⟨t,rfl⟩:=rx;cases y with
  |non=>cases ry;exact PySem.EqNone.eq_str_none (bI I q (by simp))
  |bl j=>cases ry;exact PySem.EqMixed.eq_str_bool (bI I q (by simp))
  |int j=>obtain⟨t',rfl⟩:=ry;exact PySem.EqMixed.eq_str_int (bI I q (by simp))
  |str j=>obtain⟨t',rfl⟩:=ry;exact eq_str (bI I q CG)
  |_=>exact absurd (show false=true from hs) Bool.false_ne_true
 |byt i=>
  obtain⟨t,rfl⟩:=rx;cases y with
  |byt j=>obtain⟨t',rfl⟩:=ry;exact W.eq_bytes (bI I q CH)
  |_=>exact absurd (show false=true from hs) Bool.false_ne_true
 |_=>cases y<;>exact absurd (show false=true from hs) Bool.false_ne_true
theorem CI:mF X (compareOp .NotEq) Nf:=by
 intro pins s σ H x y v u Q I rx ry h;obtain⟨hs,q⟩:=h;cases x with
 |non=>
  cases rx;cases y with
  |non=>cases ry;exact PySem.EqNone.ne_none_none (bI I q (by simp))
  |bl j=>cases ry;exact PySem.EqNone.ne_none_bool (bI I q (by simp))
  |int j=>obtain⟨t',rfl⟩:=ry;exact PySem.EqNone.ne_none_int (bI I q (by simp))
  |str j=>obtain⟨t',rfl⟩:=ry;exact PySem.EqNone.ne_none_str (bI I q (by simp))
  |_=>exact absurd (show false=true from hs) Bool.false_ne_true
 |bl i=>
  cases rx;cases y with
  |non=>cases ry;exact PySem.EqNone.ne_bool_none (bI I q (by simp))
  |bl j=>cases ry;exact ne_bool (bI I q (congrArg not Gz))
  |str j=>obtain⟨t',rfl⟩:=ry;exact PySem.EqMixed.ne_bool_str (bI I q (by simp))
  |_=>exact absurd (show false=true from hs) Bool.false_ne_true
 |int i=>
  obtain⟨t,rfl⟩:=rx;cases y with
  |non=>cases ry;exact PySem.EqNone.ne_int_none (bI I q (by simp))
  |int j=>obtain⟨t',rfl⟩:=ry;exact ne_int (bI I q (congrArg not CF))
  |str j=>obtain⟨t',rfl⟩:=ry;exact PySem.EqMixed.ne_int_str (bI I q (by simp))
  |_=>exact absurd (show false=true from hs) Bool.false_ne_true
 |str i=>
  obtain⟨t,rfl⟩:=rx;cases y with
  |non=>cases ry;exact PySem.EqNone.ne_str_none (bI I q (by simp))
  |bl j=>cases ry;exact PySem.EqMixed.ne_str_bool (bI I q (by simp))
  |int j=>obtain⟨t',rfl⟩:=ry;exact PySem.EqMixed.ne_str_int (bI I q (by simp))
  |str j=>obtain⟨t',rfl⟩:=ry;exact ne_str (bI I q (congrArg not CG))
  |_=>exact absurd (show false=true from hs) Bool.false_ne_true
 |byt i=>
  obtain⟨t,rfl⟩:=rx;cases y with
  |byt j=>obtain⟨t',rfl⟩:=ry;exact W.ne_bytes (bI I q (congrArg not CH))
  |_=>exact absurd (show false=true from hs) Bool.false_ne_true
 |_=>cases y<;>exact absurd (show false=true from hs) Bool.false_ne_true
theorem mZ:mF X (compareOp .Lt) (CD λi j=>.bl (decide (i<j))):=Nb λ_ _ _ _ _ _ _ q=>lt_int q
theorem qi:mF X (compareOp .Gt) (CD λi j=>.bl (decide (j<i))):=Nb λ_ _ _ _ _ _ _ q=>gt_int q
theorem CJ:mF X (compareOp .GtE) (CD λi j=>.bl (decide (j<=i))):=Nb λ_ _ _ _ _ _ _ q=>ge_int q
theorem KI{op:CmpOp}{r:R2}(ho:mF X (compareOp op) r)(ha:PE X a ta)(hb:PE X b tb)(hm:behindInMarks op b=false):PE X (.Compare a [op] [b] pos) (aP r ta tb):=by
 intro pins s σ H Q I h;exact wpAny_Compare1 (M9 ha hb I h λv u s2 x y H2 I2 rx ry q=>ho pins s2 σ H2 x y v u Q I2 rx ry q) hm
def bD(t:TE):TT:=λσ H Q=>t σ H λx H'=>∃k,x=.bl k/\Q k H'
theorem KJ{op:CmpOp}{r:R2}(ho:mF X (compareOp op) r)(ha:PE X a ta)(hb:PE X b tb)(hm:behindInMarks op b=false):PT X (.Compare a [op] [b] pos) (bD (aP r ta tb)):=by
 intro pins s σ H Q I h;refine wpAny_isTrue_Compare1 (cM (ha pins s σ H _ I h) λv s1 ⟨x,H1,I1,r1,q1⟩=>cM (hb pins s1 σ H1 _ I1 q1) λu s2 ⟨y,H2,I2,r2,q2⟩=>
  cM (ho pins s2 σ H2 x y v u _ I2 r1 r2 q2) λc s3 ⟨z,H3,I3,r3,k,e,q3⟩=>?_) hm
 subst e;cases r3;exact wpAny_truthy_bool ⟨H3,I3,q3⟩
theorem su:(sizeLine:Nat)<2^63:=by rw[sizeLine_eq];decide
theorem Ai:mF X (binaryOp .Add) (λx y H Q=>∃i j,x=.str i/\y=.str j/\i.length+j.length<=sizeLine/\Q (.str (i++j)) H):=by
 intro pins s σ H x y v u Q I rx ry h;obtain⟨i,j,rfl,rfl,hz,q⟩:=h;obtain⟨t,rfl⟩:=rx;obtain⟨t',rfl⟩:=ry;exact add_str (λt' tk=>⟨.str (i++j),H,I.tok _,⟨_,rfl⟩,q⟩) hz
theorem vals1{x:V}{us:Uh Value}(r:Vals [x] us):∃u,us=[u]/\RelV x u:=by
 cases r with
 |cons r1 r2=>cases r2;exact⟨_,rfl,r1⟩
theorem vals2{x y:V}{us:Uh Value}(r:Vals [x,y] us):∃u w',us=[u,w']/\RelV x u/\RelV y w':=by
 cases r with
 |cons r1 r2=>
  cases r2 with
  |cons r3 r4=>cases r4;exact⟨_,_,rfl,r1,r3⟩
theorem EE(hc:X.calm=true):fJ X (.builtin "min") (λxs H Q=>∃i j,xs=[.int i,.int j]/\Q (.int (if j<i then j else i)) H):=by
 intro pins s σ H xs us Q I r h;obtain⟨i,j,rfl,q⟩:=h;obtain⟨u,w',rfl,⟨t,rfl⟩,⟨t',rfl⟩⟩:=vals2 r;refine min_two_ints (I.ok.hd hc) λh' tk k=>⟨_,H,I.kept k,?_,q⟩
 by_cases hj:j<i
 ·rw[if_pos hj,if_pos hj];exact⟨_,rfl⟩
 ·rw[if_neg hj,if_neg hj];exact⟨_,rfl⟩
end
structure Aj(h:Heap)(x dx C:Addr)(mA:Str->Option Value):Prop where
 obj:h.get? x=some (W.instObj C dx)
 ns:h.Ns1 dx mA
 ne:dx≠x
theorem EF{h:Heap}{dx:Addr}{mA:Str->Option Value}(n:h.Ns1 dx mA):∃od,h.get? dx=some od/\∀name,W.lookIn name od=some (mA name):=by
 obtain⟨o,es,ep,ho,hd,hk,_,hm⟩:=n;refine⟨o,ho,λname=>?_⟩;have e:=hm name;unfold nsFind findBy at e;rw[<-Array.find?_toList] at e;unfold W.lookIn;rw[hd];dsimp only;split
 ·rename_i y q
  rw[q] at e;exact congrArg some e
 ·rename_i q
  rw[q] at e;have a:es.toList.any (·.refKey)=false:=by
   rw[List.any_eq_false];intro y hy;obtain⟨z,t,hkey⟩:=hk y (Array.mem_toList_iff.mp hy);simp[DictEntry.refKey,hkey]
  have a':¬es.toList.any (·.refKey)=true:=by rw[a];exact Bool.false_ne_true
  rw[if_neg a'];exact congrArg some e
theorem Aj.look{h:Heap}{x dx C:Addr}{mA:Str->Option Value}(I:Aj h x dx C mA):∃od,W.InstAt h x (W.instObj C dx) C (some od)/\∀name,W.lookIn name od=some (mA name):=
 let ⟨od,ho,hl⟩:=EF I.ns
 ⟨od,⟨I.obj,rfl,rfl,ho⟩,hl⟩
section
variable{prog:Program}{w:World}{A:Around}{E:Value->Shared->Prop}{s:Shared}{K:W.Frag}{x dx C f:Addr}{mA:Str->Option Value}{name:Str}{v:Value}
theorem get_map{expr:Bool}{Q:Value->Shared->Prop}(X:K.In s.heap)(I:Aj s.heap x dx C mA)(hg:W.plainGet K C name=true)(hh:W.hasDictIn K C=true)
  (ha:W.findIn K (.ref C) name=some none) (hv:mA name=some v) (hv':W.handedIn v=true) (h:Q v {s with toks:=s.toks+1}):
  wpAny (model prog w) A (getAttr (.ref x) name expr) Q E s:=by
 obtain⟨od,J,hl⟩:=I.look;exact W.get_value X J (W.plainGet_of hg).1 (W.findObj_own hh ha rfl (by rw[hl,hv])) hv' h
theorem GA{pl:Sem Bool}{Q:Value×Uh Value->Shared->Prop}(X:K.In s.heap)(I:Aj s.heap x dx C mA)(hg:W.plainGet K C name=true)
  (hf:W.findIn K (.ref C) name=some (some (.ref f))) (ht:W.isFn K (.ref f)=true) (hv:mA name=none) (h:Q (.ref f,[.ref x]) s):
  wpAny (model prog w) A (getMethod (.ref x) name pl) Q E s:=by
 obtain⟨od,J,hl⟩:=I.look;exact W.method_fn X J (W.plainGet_of hg).1 (W.plainGet_of hg).2 hf (beq_iff_eq.mp ht) (by show (W.lookIn name od).map (·.isSome)=some false;rw[hl,hv];rfl) h
theorem KL{ns:Uh Str}{Q:Unit->Shared->Prop}(X:K.In s.heap)(I:Aj s.heap x dx C mA)
  (hs:W.findIn K (.ref C) "__setattr__" =some (some (.builtin "object.__setattr__"))) (hp:W.plainOver K C=true) (ht:W.takerIn K C name=some none) (hh:W.hasDictIn K C=true)
  (hw:PySem.Within mA ns) (hsz:ns.length<=sizeLine)
  (h:∀h',Aj h' x dx C (λy=>if y=name then some v else mA y)->Heap.SameBut dx s.heap h'->Q () {s with heap:=h',toks:=s.toks+2}):
  wpAny (model prog w) A (setAttr (.ref x) name v) Q E s:=by
 obtain⟨od,J,hl⟩:=I.look;refine W.set_plain X J hs (W.osa_open (s:={s with toks:=s.toks+1}) (r:=none) X J hp ht λb=>?_);obtain⟨cd,hc,hd'⟩:=W.any_some hh;have hx:s.heap.get? x=some ⟨.ref C,some dx,.plain,#[]⟩:=I.obj;refine wpAny_bind (wpAny_pure (wpAny_bind (wpAny_bind (wpAny_loadPart hx (wpAny_bind (W.Looks.here (s:={s with toks:=s.toks+1}) (W.looks_clsIn X hc) ?_))))));rw[hd'];refine wpAny_pure (a:=some dx) (wpAny_bind (wpAny_pure (wpAny_bind ?_)));refine wpAny_nsSet1 (s:={s with toks:=s.toks+1}) I.ns λh' hn2 hs2=>?_;obtain⟨oD,esD,epD,hoD,hdD,hcD⟩:=hn2.count (PySem.Within.cons name v hw);refine wpAny_bind (wpAny_lookBehind hoD (by rw[hdD];exact pastItsLine_dict (Nat.le_trans hcD (by rw[length_cons];omega))) ?_)
 exact wpAny_pure (h _ ⟨(hs2.2 _ (Ne.symm I.ne)).trans I.obj,hn2,I.ne⟩ hs2)
theorem GB{R:Result->Shared->Prop}{vs:Uh Value}{kw:Uh (Str×Value)}(X:K.In s.heap)(hm:W.makesIn K C=true)
  (hi:W.findIn K (.ref C) "__init__" =some (some (.ref f))) (hf:W.typeIn K (.ref f)=some (.type "function"))
  (h:codeAny (model prog w) (A.under (.builtin "type.__call__" ⟨.ref C::vs,kw⟩)) (.call (.ref f) ⟨.ref (s.heap.objs.size+1)::vs,kw⟩) (W.InitBack (s.heap.objs.size+1) R)
   {s with heap:=(s.heap.push W.emptyDict).push (W.instObj C s.heap.objs.size)}):
  codeAny (model prog w) A (.call (.ref C) ⟨vs,kw⟩) R s:=by
 obtain⟨hh,g,d,t,os⟩:=s;exact W.make_core (W.makes_of X hm) (W.looks_findIn X hi) (λself=>W.bind_fn X self hf) (.inl rfl) h
end
def cG(f:Str)(v:V):Uh (Str×V)->Uh (Str×V)
 |[]=>[(f,v)]
 |(g,x)::r=>if g=f then(g,v)::r else(g,x)::cG f v r
theorem qj(f g:Str)(v:V):∀fs:Uh (Str×V),(cG f v fs).lookup g=if g=f then some v else fs.lookup g
 |[]=>by
  show List.lookup g [(f,v)]=_
  by_cases h:g=f
  ·have hb:(g==f)=true:=beq_iff_eq.mpr h;simp only[List.lookup,hb,if_pos h]
  ·have hb:(g==f)=false:=beq_eq_false_iff_ne.mpr h;simp only[List.lookup,hb,if_neg h]
 |(k,x)::r=>by
  have ih:=qj f g v r;rw[show cG f v ((k,x)::r)=(if k=f then(k,v)::r else(k,x)::cG f v r) from rfl]
  by_cases hk:k=f
  ·rw[if_pos hk]
   by_cases h:g=k
   ·have hb:(g==k)=true:=beq_iff_eq.mpr h;simp only[List.lookup,hb,if_pos (h.trans hk)]
   ·have hb:(g==k)=false:=beq_eq_false_iff_ne.mpr h;simp only[List.lookup,hb,if_neg (λe:g=f=>h (e.trans hk.symm))]
  ·rw[if_neg hk]
   by_cases h:g=k
   ·have hb:(g==k)=true:=beq_iff_eq.mpr h;simp only[List.lookup,hb,if_neg (λe:g=f=>hk (h.symm.trans e))]
   ·have hb:(g==k)=false:=beq_eq_false_iff_ne.mpr h;simp only[List.lookup,hb];exact ih
theorem oY(f:Str)(v:V):∀fs:Uh (Str×V),f∈(cG f v fs).map (·.1)/\∀g,g∈fs.map (·.1)->g∈(cG f v fs).map (·.1)
 |[]=>⟨by simp[cG],λg h=>by simp at h⟩
 |(k,x)::r=>by
  obtain⟨i1,i2⟩:=oY f v r;rw[show cG f v ((k,x)::r)=(if k=f then(k,v)::r else(k,x)::cG f v r) from rfl]
  by_cases hk:k=f
  ·rw[if_pos hk];subst hk;exact⟨by simp,λg h=>by simpa using h⟩
  ·rw[if_neg hk];refine⟨?_,λg h=>?_⟩
   ·rw[map_cons];exact mem_cons_of_mem _ i1
   ·rw[map_cons] at h ⊢
    rcases mem_cons.mp h with e|e
    ·exact mem_cons.mpr (.inl e)
    ·exact mem_cons_of_mem _ (i2 g e)
theorem ql(f:Str)(v:V):∀fs:Uh (Str×V),(cG f v fs).length<=fs.length+1
 |[]=>by simp[cG]
 |(k,x)::r=>by
  have ih:=ql f v r;rw[show cG f v ((k,x)::r)=(if k=f then(k,v)::r else(k,x)::cG f v r) from rfl]
  by_cases hk:k=f
  ·rw[if_pos hk,length_cons,length_cons];omega
  ·rw[if_neg hk,length_cons,length_cons];omega
theorem kr.some_of{v:V}{o:Option Value}(r:kr (some v) o):∃u,o=some u/\RelV v u:=by
 cases o with
 |none=>exact(show False from r).elim
 |some u=>exact⟨u,rfl,r⟩
theorem kr.none_of{o:Option Value}(r:kr none o):o=none:=by
 cases o with
 |none=>rfl
 |some u=>exact(show False from r).elim
theorem EG{v:V}{u:Value}(r:RelV v u):W.handedIn u=true:=by
 cases v with
 |non=>cases (show u=Value.none from r);rfl
 |bl b=>cases (show u=Value.bool b from r);rfl
 |int i=>obtain⟨t,e⟩:=(show ∃t,u=Value.int i t from r);cases e;rfl
 |str x=>obtain⟨t,e⟩:=(show ∃t,u=Value.str x t from r);cases e;rfl
 |byt b=>obtain⟨t,e⟩:=(show ∃t,u=Value.bytes b t from r);cases e;rfl
 |flt b=>obtain⟨t,e⟩:=(show ∃t,u=Value.float b t from r);cases e;rfl
 |ref a=>cases (show u=Value.ref a from r);rfl
 |ty n=>cases (show u=Value.type n from r);rfl
section
variable{P:Program}{w:World}{H H':Hp}{h h':Heap}{a C dx:Addr}{fs fs':Uh (Str×V)}
theorem vR(hok:lE P w H h)(e:H a=some (.ins C dx fs)):∃mA,Aj h a dx C mA/\(∀f,kr (fs.lookup f) (mA f))/\PySem.Within mA (fs.map (·.1))/\fs.length<=1000/\H dx=some (.own a):=by
 obtain⟨d,z,ne,ob,mA,n,r,q⟩:=(show cI P w H h a (.ins C dx fs) from hok a _ e);exact⟨mA,⟨ob,n,ne⟩,r,q,z,d⟩
end
structure EH(K:W.Frag)(C:Addr):Prop where
 pg:W.plainGet K C Str.empty=true
 hd:W.hasDictIn K C=true
 po:W.plainOver K C=true
 sa:W.findIn K (.ref C) "__setattr__" =some (some (.builtin "object.__setattr__"))
theorem EH.get{K:W.Frag}{C:Addr}(c:EH K C)(f:Str):W.plainGet K C f=true:=c.pg
def dH(K:W.Frag)(C:Addr)(f:Str):Prop:=W.findIn K (.ref C) f=some none
theorem dH.Po{K:W.Frag}{C:Addr}{f:Str}(n:dH K C f):W.takerIn K C f=some none:=by
 unfold W.takerIn;rw[show W.findIn K (.ref C) f=some none from n];rfl
structure Meth(K:W.Frag)(C:Addr)(m:Str)(f:Addr):Prop where
 at_:W.findIn K (.ref C) m=some (some (.ref f))
 fn:W.isFn K (.ref f)=true
 kp:W.keepIn K (.ref f)=true
section
variable{X:Cx}{pins:Uh (Addr×Obj)}{σ:St}{H:Hp}{s:Shared}{a C dx:Addr}{fs:Uh (Str×V)}{f:Str}{v:V}{A:Around}{E:Value->Shared->Prop}
theorem Ak{b:Bool}{Q:Value->Shared->Prop}(I:Inv X pins σ H s)(e:H a=some (.ins C dx fs))(c:EH X.K C)(n:dH X.K C f)(l:fs.lookup f=some v)
  (h:∀u s',Inv X pins σ H s'->RelV v u->Q u s'):wpAny (model X.prog X.w) A (getAttr (.ref a) f b) Q E s:=by
 obtain⟨mA,O,r,_,_,_⟩:=vR I.hok e;obtain⟨u,hu,ru⟩:=kr.some_of (v:=v) (o:=mA f) (by rw[<-l];exact r f);exact get_map I.Cw O (c.get f) c.hd n hu (EG ru) (h u _ (I.tok _) ru)
theorem sy{m:Str}{g:Addr}{pl:Sem Bool}{Q:Value×Uh Value->Shared->Prop}(I:Inv X pins σ H s)(e:H a=some (.ins C dx fs))(c:EH X.K C)(k:Meth X.K C m g)(l:fs.lookup m=none)
  (h:Q (.ref g,[.ref a]) s):wpAny (model X.prog X.w) A (getMethod (.ref a) m pl) Q E s:=by
 obtain⟨mA,O,r,_,_,_⟩:=vR I.hok e;have hn:mA m=none:=kr.none_of (by rw[<-l];exact r m);exact GA I.Cw O (c.get m) k.at_ k.fn hn h
theorem Am{y:V}{u:Value}{Q:Unit->Shared->Prop}(I:Inv X pins σ H s)(e:H a=some (.ins C dx fs))(c:EH X.K C)(n:dH X.K C f)(hl:fs.length<1000)(ry:RelV y u)
  (h:∀s',Inv X pins σ (upd H a (.ins C dx (cG f y fs))) s'->Q () s'):wpAny (model X.prog X.w) A (setAttr (.ref a) f u) Q E s:=by
 obtain⟨mA,O,r,wi,_,ho⟩:=vR I.hok e;have hz:(fs.map (·.1)).length<=sizeLine:=by rw[length_map,sizeLine_eq];omega
 refine KL I.Cw O c.sa c.po n.Po c.hd wi hz λh' O' sb=>h _ ?_;have hd:∃o,h'.get? dx=some o:=let ⟨o,_,_,e',_⟩:=O'.ns;⟨o,e'⟩;refine I.write (x:=a) (e:=dx) (by rw[e];exact True.intro) (.inr ho) (λb q hb z=>(sb.2 b hb).trans z) hd ?_;refine⟨by rw[aE O.ne];exact ho,?_,O.ne,O'.obj,_,O'.ns,λg=>?_,λg hg=>?_⟩
 ·have:=ql f y fs;omega
 ·show kr ((cG f y fs).lookup g) (if g=f then some u else mA g);rw[qj]
  by_cases q:g=f
  ·rw[if_pos q,if_pos q];exact ry
  ·rw[if_neg q,if_neg q];exact r g
 ·by_cases q:g=f
  ·rw[q];exact(oY f y fs).1
  ·refine(oY f y fs).2 g (wi g λz=>hg ?_);show (if g=f then some u else mA g)=none;rw[if_neg q];exact z
theorem Inv.made(I:Inv X pins σ H s):Inv X pins σ (upd (upd H s.heap.objs.size (.own (s.heap.objs.size+1))) (s.heap.objs.size+1) (.ins C s.heap.objs.size []))
  {s with heap:=(s.heap.push W.emptyDict).push (W.instObj C s.heap.objs.size)}:=by
 have e1:(s.heap.push W.emptyDict).get? s.heap.objs.size=some W.emptyDict:=Heap.get?_push_size s.heap rfl;have e2:((s.heap.push W.emptyDict).push (W.instObj C s.heap.objs.size)).get? (s.heap.objs.size+1)=some (W.instObj C s.heap.objs.size):=by
  have:=Heap.get?_push_size (s.heap.push W.emptyDict) (o:=W.instObj C s.heap.objs.size) rfl;rwa[Heap.size_push] at this
 have e3:(s.heap.push W.emptyDict).Ns s.heap.objs.size (λ_=>none):=⟨W.emptyDict,#[],_,e1,rfl,(λe he=>absurd he (by simp)),λ_=>rfl⟩;have I1:=I.laid (a:=s.heap.objs.size) (o:=.own (s.heap.objs.size+1)) (h':=s.heap.push W.emptyDict) (t':=s.toks) (λb u q=>Heap.get?_push_of_some _ q) (le_refl _) ⟨_,e1⟩;refine I1.laid (a:=s.heap.objs.size+1) (o:=.ins C s.heap.objs.size []) (t':=s.toks) (λb u q=>Heap.get?_push_of_some _ q) (Nat.le_of_eq (Heap.size_push _ _)) ?_;have ne:s.heap.objs.size≠s.heap.objs.size+1:=ne_of_lt (lt_succ_self _);refine⟨by rw[aE ne,aq],zero_le _,ne,e2,λ_=>none,(Heap.Ns1.of_empty e3).at λo q=>Heap.get?_push_of_some _ q,λ_=>True.intro,λy hy=>absurd rfl hy⟩
theorem KN{prog:Program}{w:World}{env:Env}{e:Expr}{f:Str}{pos:Pos}{s:Shared}{Q:Value->Shared->Prop}(hb:attributeBase e f env (eval e env)=eval e env)
  (h:wpAny (model prog w) A (eval e env) (λo s₁=>wpAny (model prog w) A (getAttr o f true) Q E s₁) E s):wpAny (model prog w) A (eval (.Attribute e f pos) env) Q E s:=
 Attribute_any_ h (by rw[arm_eval_Attribute,hb])
end
def eK(K:W.Frag)(ta:TE)(f:Str):TE:=λσ H Q=>ta σ H λx H1=>∃a C dx fs v,x=.ref a/\H1 a=some (.ins C dx fs)/\EH K C/\dH K C f/\fs.lookup f=some v/\Q v H1
def iK(K:W.Frag)(ta tv:TE)(f:Str):TS:=λD σ H=>tv σ H λy H1=>ta σ H1 λx H2=>∃a C dx fs,x=.ref a/\H2 a=some (.ins C dx fs)/\EH K C/\dH K C f/\fs.length<1000/\
 D.nx σ (upd H2 a (.ins C dx (cG f y fs)))
section
variable{X:Cx}{o e value:Expr}{f:Str}{pos pos' tpos:Pos}{ta tv:TE}
theorem Ng(he:PE X e ta)(hb:attributeBase e f X.env (eval e X.env)=eval e X.env):PE X (.Attribute e f pos) (eK X.K ta f):=by
 intro pins s σ H Q I h;refine KN hb (cM (he pins s σ H _ I h) λu s1 ⟨x,H1,I1,rx,a,C,dx,fs,v,ex,ea,c,n,l,q⟩=>?_);subst ex;obtain rfl:u=Value.ref a:=rx;exact Ak I1 ea c n l λu' s2 I2 ru=>⟨v,H1,I2,ru,q⟩
theorem Nh(ha:PE X o ta)(hv:PE X value tv)(hs:swapsWith value (some (.Attribute o f pos')) pos.line X.env=pure false):PS X (.Assign [.Attribute o f pos'] value pos) (iK X.K ta tv f):=by
 intro pins s σ H D I h;refine plainObj_wpAny_Assign_Attribute (cM (hv pins s σ H _ I h) λu s1 ⟨y,H1,I1,ry,q⟩=>cM (ha pins s1 σ H1 _ I1 q) λov s2 ⟨x,H2,I2,rx,a,C,dx,fs,ex,ea,c,n,l,q2⟩=>?_) hs;subst ex;obtain rfl:ov=Value.ref a:=rx;exact Am I2 ea c n l ry λs3 I3=>⟨σ,_,I3,q2⟩
end
structure cT(k:Nat)(A:Around):Prop where
 hd:A.handled=none
 dp:A.depth+3*k+5<recursionLimit
 un:A.units+16*k+200<cLine
theorem cT.mono{j k:Nat}{A:Around}(r:cT k A)(h:j<=k):cT j A:=⟨r.hd,by have:=r.dp;omega,by have:=r.un;omega⟩
theorem cT.deeper{k:Nat}{A:Around}(r:cT (k+1) A)(env:Env):cT k (A.deeper env):=
 ⟨r.hd,by have:=r.dp;show A.depth+1+3*k+5<_;omega,by have:=r.un;show A.units+3+16*k+200<_;omega⟩
theorem An{A:Around}{C:Addr}{us:Uh Value}{kw:Uh (Str×Value)}:(A.under (.builtin "type.__call__" ⟨.ref C::us,kw⟩)).depth=A.depth+1:=by
 first|rfl|simp[Around.under,Code.weight,Code.isCreation,Code.isGuard,Code.isCaller,Code.frames,Code.isFrame,guardIds]
theorem Ao{A:Around}{C:Addr}{us:Uh Value}{kw:Uh (Str×Value)}:(A.under (.builtin "type.__call__" ⟨.ref C::us,kw⟩)).units=A.units+1:=by
 first|rfl|simp[Around.under,Code.cUnits,Code.frames,Code.isFrame]
theorem cT.make{k:Nat}{A:Around}(r:cT (k+1) A)(C:Addr)(us:Uh Value)(kw:Uh (Str×Value)):cT k (A.under (.builtin "type.__call__" ⟨.ref C::us,kw⟩)):=
 ⟨r.hd,by have:=r.dp;rw[An];omega,by have:=r.un;rw[Ao];omega⟩
theorem cT.depth{k:Nat}{A:Around}(r:cT k A):A.depth<recursionLimit:=by have:=r.dp;omega
theorem cT.units{k:Nat}{A:Around}(r:cT k A):A.units+64<cLine:=by have:=r.un;omega
def av:TA:=λ_ H Q=>Q [] H
def ah(ta:TE)(tr:TA):TA:=λσ H Q=>ta σ H λx H1=>tr σ H1 λxs H2=>Q (x::xs) H2
section
variable{X:Cx}{e:Expr}{es:Uh Expr}{te:TE}{t:TA}{pos:Pos}
theorem vS:PA X [] av:=λ_ _ _ _ H Q I h=>Calls.spliced_nil ⟨[],H,I,.nil,h⟩
theorem qZ(ha:PE X e te)(hr:PA X es t)(hs:starEach (e::es) X.env=(false,eval e X.env)::starEach es X.env:=by rfl):PA X (e::es) (ah te t):=by
 intro pos pins s σ H Q I h;rw[hs];show wpAny _ _ (spliced ((false,eval e X.env)::backTo pos (starEach es X.env))) _ _ s;refine Calls.spliced_cons (cM (ha pins s σ H _ I h) λu s1 ⟨x,H1,I1,r1,q1⟩=>?_);exact cM (hr pos pins s1 σ H1 _ I1 q1) λus s2 ⟨xs,H2,I2,r2,q2⟩=>⟨x::xs,H2,I2,.cons r1 r2,q2⟩
def iL(t:TA):TE:=λσ H Q=>t σ H λxs H1=>xs.length<=sizeLine/\∀p,H1 p=none->Q (.ref p) (upd H1 p (.tup xs))
def oZ(t:TA):TE:=λσ H Q=>t σ H λxs H1=>xs.length<=sizeLine/\∀p,H1 p=none->Q (.ref p) (upd H1 p (.lst xs))
theorem Ni{x1}(h:PA X es t):PE X (.Tuple es x1 pos) (iL t):=by
 intro pins s σ H Q I hq;refine wpAny_Tuple_spliced (cM (h pos pins s σ H _ I hq) λus s1 ⟨xs,H1,I1,r,z,q⟩=>⟨by rw[<-r.length];exact z,?_⟩);have hf:H1 s1.heap.objs.size=none:=I1.hok.fresh (le_refl _);refine⟨.ref s1.heap.objs.size,upd H1 s1.heap.objs.size (.tup xs),I1.laid (t':=s1.toks) (λb u e=>Heap.get?_push_of_some _ e) (le_refl _) ?_,rfl,q _ hf⟩;exact⟨z,us,r,⟨_,Heap.get?_push_size _ rfl,rfl,_,rfl⟩⟩
theorem Nj(h:PA X es t):PE X (.List es pos) (oZ t):=by
 intro pins s σ H Q I hq;refine wpAny_List_spliced (cM (h pos pins s σ H _ I hq) λus s1 ⟨xs,H1,I1,r,z,q⟩=>⟨by rw[<-r.length];exact z,?_⟩);have hf:H1 s1.heap.objs.size=none:=I1.hok.fresh (le_refl _);refine⟨.ref s1.heap.objs.size,upd H1 s1.heap.objs.size (.lst xs),I1.laid (t':=s1.toks) (λb u e=>Heap.get?_push_of_some _ e) (le_refl _) ?_,rfl,q _ hf⟩;exact⟨z,us,0,r,Heap.get?_push_size _ rfl⟩
end
abbrev Sp:=Uh V->Hp->VK->XK->Prop
abbrev Ab:=Uh Env->Hp->Shared->XK->Value->Shared->Prop
structure Aq(P:Program)(w:World)(K:W.Frag)(mg:Str->Option Value)(base:Heap)(A:Around)(outer:Uh Env)(s:Shared)(H:Hp):Prop where
 frames:A.frames=some outer
 mod:Mod K mg base
 bs:∀b o,base.get? b=some o->s.heap.get? b=some o/\H b=none
 bsz:base.objs.size<=s.heap.objs.size
 qN:s.heap.FunFrames base outer
 frf:∀b∈frs outer,H b=none
 hok:lE P w H s.heap
 bare:AllBare s.gens
def CE(outer:Uh Env)(P:Program)(w:World)(H:Hp)(s:Shared)(Q:VK)(u:Value)(s':Shared):Prop:=
 ∃v H',s'.os=s.os/\AllBare s'.gens/\Un (frs outer) [] H H' s.heap s'.heap/\lE P w H' s'.heap/\RelV v u/\Q v H'
def CR(CX:Ab)(outer:Uh Env)(P:Program)(w:World)(H:Hp)(s:Shared)(Q:VK)(E:XK)(r:Result)(s':Shared):Prop:=
 match r with
 |.ok (.ret u)=>CE outer P w H s Q u s'
 |.ok _=>False
 |.error e=>CX outer H s E e s'
structure jg(P:Program)(w:World)(K:W.Frag)(mg:Str->Option Value)(base:Heap)(CX:Ab)(k:Nat)(f:Addr)(fd:FuncData)(ps:Uh Str)(sp:Sp):Prop where
 len:∀vs H Q E,sp vs H Q E->vs.length=ps.length
 run:∀(A:Around) (outer:Uh Env) (s:Shared) (H:Hp) (args:Args) (us:Uh Value) (vs:Uh V) (Q:VK) (E:XK),cT k A->Aq P w K mg base A outer s H->BindsTo s fd args (ps.zip us)->Vals vs us->sp vs H Q E->
  codeAny (model P w) A (.call (.ref f) args) (CR CX outer P w H s Q E) s
theorem Aq.make{P:Program}{w:World}{K:W.Frag}{mg:Str->Option Value}{base:Heap}{A:Around}{outer:Uh Env}{s:Shared}{H:Hp}(e:Aq P w K mg base A outer s H)(C:Addr)(us:Uh Value)(kw:Uh (Str×Value)):
  Aq P w K mg base (A.under (.builtin "type.__call__" ⟨.ref C::us,kw⟩)) outer s H:=⟨by first|exact e.frames|(simpa [Around.under,Code.envs,Code.isFrame,pushEnvs] using e.frames),e.mod,e.bs,e.bsz,e.qN,e.frf,e.hok,e.bare⟩
section
variable{X:Cx}{pins:Uh (Addr×Obj)}{σ:St}{H:Hp}{s s':Shared}
theorem Inv.Pp(I:Inv X pins σ H s):Aq X.prog X.w X.K X.mg X.base X.A X.stack s H:=
 ⟨I.ok.frames,I.ok.mod,I.bs,Nat.le_trans I.ok.bsz I.sz,I.stack,I.qW,I.hok,I.bare⟩
theorem Inv.after{Q:VK}{u:Value}(I:Inv X pins σ H s)(h:CE X.stack X.prog X.w H s Q u s'):EP X pins σ Q u s':=by
 obtain⟨v,H',os,bare,un,hok,r,q⟩:=h;obtain⟨hh,g,d,t,os'⟩:=s';obtain rfl:os'=s.os:=os;exact⟨v,H',I.call (h':=hh) (g':=g) (d':=d) (t':=t) (ch:=[]) un hok bare (λb z=>absurd z (by simp)),r,q⟩
end
def aH(sp:Sp)(dvs:Uh V)(E:XK)(t:TA):TE:=λσ H Q=>t σ H λvs H1=>sp (vs++dvs) H1 Q E
def ck(C:Addr)(m:Str)(sp:Sp)(dvs:Uh V)(E:XK)(ta:TE)(t:TA):TE:=λσ H Q=>ta σ H λx H1=>∃a dx fs,x=.ref a/\H1 a=some (.ins C dx fs)/\fs.lookup m=none/\
 t σ H1 λvs H2=>sp (x::(vs++dvs)) H2 Q E
def u5(C:Addr)(sp:Sp)(dvs:Uh V)(E:XK)(t:TA):TE:=λσ H Q=>t σ H λvs H1=>∀x dx,H1 x=none->H1 dx=none->dx≠x->
 sp (.ref x::(vs++dvs)) (upd (upd H1 dx (.own x)) x (.ins C dx [])) (λv H2=>v=.non/\Q (.ref x) H2) E
def Binds(K:W.Frag)(fd:FuncData)(ps:Uh Str)(ds:Uh Value):Prop:=
 ∀(s:Shared) (us:Uh Value),K.In s.heap->(us++ds).length=ps.length->BindsTo s fd ⟨us,[]⟩ (ps.zip (us++ds))
theorem Binds.all{K:W.Frag}{fd:FuncData}{ps:Uh Str}(h:∀us:Uh Value,us.length=ps.length->bindArgs fd ⟨us,[]⟩=pure (ps.zip us)):Binds K fd ps []:=λs us _ hl=>by
 rw[append_nil] at hl ⊢;exact .of_eq (h us hl)
def Passes(CX:Ab)(X:Cx)(E:XK):Prop:=∀(pins:Uh (Addr×Obj)) (σ:St) (H:Hp) (s:Shared) (e:Value) (s':Shared),Inv X pins σ H s->CX X.stack H s E e s'->X.xe e s'
section
variable{X:Cx}{CX:Ab}{k:Nat}{f C:Addr}{fd:FuncData}{ps:Uh Str}{sp:Sp}{dvs:Uh V}{ds:Uh Value}{E:XK}{x m:Str}{p pos apos:Pos}{e o:Expr}{es:Uh Expr}{ta:TE}{t:TA}
theorem As{pins:Uh (Addr×Obj)}{σ:St}{H:Hp}{s:Shared}{Q:VK}{us:Uh Value}{vs:Uh V}(F:jg X.prog X.w X.K X.mg X.base CX k f fd ps sp)(hr:cT k X.A)(hb:Binds X.K fd ps ds)(hd:Vals dvs ds)(hx:Passes CX X E)
  (I:Inv X pins σ H s) (r:Vals vs us) (h:sp (vs++dvs) H Q E):wpAny (model X.prog X.w) X.A (call (.ref f) us) (EP X pins σ Q) X.xe s:=by
 have r2:Vals (vs++dvs) (us++ds):=r.append hd;have hl:(us++ds).length=ps.length:=by rw[<-r2.length];exact F.len _ _ _ _ h
 refine wpAny_call (codeAny_mono (F.run X.A X.stack s H ⟨us,[]⟩ (us++ds) (vs++dvs) Q E hr I.Pp (hb s us I.Cw hl) r2 h) λr s' hq=>?_);cases r with
 |error e=>exact hx pins σ H s e s' I hq
 |ok fl=>
  cases fl with
  |ret u=>exact I.after hq
  |next=>exact False.elim hq
  |brk=>exact False.elim hq
  |cont=>exact False.elim hq
theorem KO(F:jg X.prog X.w X.K X.mg X.base CX k f fd ps sp)(hr:cT k X.A)(hg:Gl X x)(hm:X.mg x=some (.ref f))(hk:W.keepIn X.K (.ref f)=true)(hb:Binds X.K fd ps ds)(hd:Vals dvs ds)(hx:Passes CX X E)
  (ha:PA X (e::es) t) (hdb:(x==("__debug__":Str))=false:=by decide) (he:starEach (e::es) X.env=(false,eval e X.env)::starEach es X.env:=by rfl) (hpl:(backTo pos (starEach es X.env)).any (·.1)=false:=by rfl):
  PE X (.Call (.Name x p) (e::es) [] pos) (aH sp dvs E t):=by
 intro pins s σ H Q I h;refine wpAny_Call_Name_kw (qX I hg hm ?_ hdb);refine W.callWith_K (h₀:=X.base) I.ok.mod.kin hk (cM (ha pos pins s σ H _ I h) λus s1 ⟨vs,H1,I1,r,q⟩=>⟨I1.Cw,?_⟩) he hpl;exact As F hr hb hd hx I1 r q
theorem KP{pl:Sem Bool}(he:PE X o ta)(c:EH X.K C)(hm:Meth X.K C m f)(F:jg X.prog X.w X.K X.mg X.base CX k f fd ps sp)(hr:cT k X.A)(hb:Binds X.K fd ps ds)(hd:Vals dvs ds)(hx:Passes CX X E)(ha:PA X (e::es) t)
  (hst:starEach (e::es) X.env=(false,eval e X.env)::starEach es X.env:=by rfl) (hpl:(backTo pos (starEach es X.env)).any (·.1)=false:=by rfl)
  (ht:eval (.Call (.Attribute o m apos) (e::es) [] pos) X.env=(do
   let ov <-eval o X.env
   standAt apos.atName
   let (f,first) <-holding [ov] (getMethod ov m pl)
   callWith pos f first (backTo pos (starEach (e::es) X.env)) (backToKw pos (keywordEach [] X.env))):=by rfl):
  PE X (.Call (.Attribute o m apos) (e::es) [] pos) (ck C m sp dvs E ta t):=by
 intro pins s σ H Q I h;refine W.methodCall_KW (pl:=pl) (cM (he pins s σ H _ I h) λu s1 ⟨x,H1,I1,rx,a,dx,fs,ex,ea,l,q⟩=>?_) ht;subst ex;obtain rfl:u=Value.ref a:=rx;refine sy I1 ea c hm l ?_;refine W.callWith_K (first:=[.ref a]) (h₀:=X.base) I.ok.mod.kin hm.kp (cM (ha pos pins s1 σ H1 _ I1 q) λus s2 ⟨vs,H2,I2,r,q2⟩=>⟨I2.Cw,?_⟩) hst hpl;exact As (us:=.ref a::us) (vs:=.ref a::vs) F hr hb hd hx I2 (.cons rfl r) q2
theorem GD{pl:Sem Bool}(he:PE X o ta)(c:EH X.K C)(hm:Meth X.K C m f)(F:jg X.prog X.w X.K X.mg X.base CX k f fd ps sp)(hr:cT k X.A)(hb:Binds X.K fd ps ds)(hd:Vals dvs ds)(hx:Passes CX X E)
  (ht:eval (.Call (.Attribute o m apos) [] [] pos) X.env=(do
   let ov <-eval o X.env
   standAt apos.atName
   let (f,first) <-holding [ov] (getMethod ov m pl)
   callWith pos f first (backTo pos (starEach [] X.env)) (backToKw pos (keywordEach [] X.env))):=by rfl):
  PE X (.Call (.Attribute o m apos) [] [] pos) (ck C m sp dvs E ta av):=by
 intro pins s σ H Q I h;refine W.methodCall_KW (pl:=pl) (cM (he pins s σ H _ I h) λu s1 ⟨x,H1,I1,rx,a,dx,fs,ex,ea,l,q⟩=>?_) ht;subst ex;obtain rfl:u=Value.ref a:=rx;refine sy I1 ea c hm l ?_;exact W.callWith_K0 (first:=[.ref a]) I1.Cw hm.kp (As (us:=[.ref a]) (vs:=[.ref a]) F hr hb hd hx I1 (.cons rfl .nil) q)
structure Mk(K:W.Frag)(C f:Addr):Prop where
 makes:W.makesIn K C=true
 init:W.findIn K (.ref C) "__init__" =some (some (.ref f))
 fn:W.isFn K (.ref f)=true
 kp:W.keepIn K (.ref C)=true
theorem GF{pins:Uh (Addr×Obj)}{σ:St}{H:Hp}{s:Shared}{Q:VK}{us:Uh Value}{vs:Uh V}(M:Mk X.K C f)(F:jg X.prog X.w X.K X.mg X.base CX k f fd ps sp)(hr:cT (k+1) X.A)(hb:Binds X.K fd ps ds)(hd:Vals dvs ds)
  (hx:Passes CX X E) (I:Inv X pins σ H s) (r:Vals vs us)
  (h:∀x dx,H x=none->H dx=none->dx≠x->sp (.ref x::(vs++dvs)) (upd (upd H dx (.own x)) x (.ins C dx [])) (λv H2=>v=.non/\Q (.ref x) H2) E):
  wpAny (model X.prog X.w) X.A (call (.ref C) us) (EP X pins σ Q) X.xe s:=by
 have hq:=h (s.heap.objs.size+1) s.heap.objs.size (I.hok.fresh (le_succ _)) (I.hok.fresh (le_refl _)) (ne_of_lt (lt_succ_self _));have I2:=Inv.made (C:=C) I;have r2:Vals (V.ref (s.heap.objs.size+1)::(vs++dvs)) (Value.ref (s.heap.objs.size+1)::(us++ds)):=.cons rfl (r.append hd);have hl:(Value.ref (s.heap.objs.size+1)::us++ds).length=ps.length:=by
  have e:=r2.length;rw[F.len _ _ _ _ hq] at e;exact e.symm
 refine wpAny_call (GB (f:=f) I.Cw M.makes M.init (beq_iff_eq.mp M.fn) (codeAny_mono (F.run _ X.stack _ _ ⟨Value.ref (s.heap.objs.size+1)::us,[]⟩ (Value.ref (s.heap.objs.size+1)::(us++ds)) _ _ E (hr.make C us [])
  (I2.Pp.make C us []) (hb _ (Value.ref (s.heap.objs.size+1)::us) I2.Cw hl) r2 hq) λr s' hq'=>?_))
 cases r with
 |error e=>exact hx pins σ _ _ e s' I2 hq'
 |ok fl=>
  cases fl with
  |ret u=>
   obtain⟨v,H',I3,rv,ev,q3⟩:=I2.after hq';subst ev;exact⟨rv,⟨V.ref (s.heap.objs.size+1),H',I3,rfl,q3⟩⟩
  |next=>exact False.elim hq'
  |brk=>exact False.elim hq'
  |cont=>exact False.elim hq'
theorem KQ(M:Mk X.K C f)(F:jg X.prog X.w X.K X.mg X.base CX k f fd ps sp)(hr:cT (k+1) X.A)(hg:Gl X x)(hm:X.mg x=some (.ref C))(hb:Binds X.K fd ps ds)(hd:Vals dvs ds)(hx:Passes CX X E)
  (ha:PA X (e::es) t) (hdb:(x==("__debug__":Str))=false:=by decide) (he:starEach (e::es) X.env=(false,eval e X.env)::starEach es X.env:=by rfl) (hpl:(backTo pos (starEach es X.env)).any (·.1)=false:=by rfl):
  PE X (.Call (.Name x p) (e::es) [] pos) (u5 C sp dvs E t):=by
 intro pins s σ H Q I h;refine wpAny_Call_Name_kw (qX I hg hm ?_ hdb);refine W.callWith_K (h₀:=X.base) I.ok.mod.kin M.kp (cM (ha pos pins s σ H _ I h) λus s1 ⟨vs,H1,I1,r,q⟩=>⟨I1.Cw,?_⟩) he hpl;exact GF M F hr hb hd hx I1 r q
end
def PK(X:Cx)(kws:Uh Keyword)(t:TA):Prop:=
 ∀(pos:Pos) (pins:Uh (Addr×Obj)) (s:Shared) (σ:St) (H:Hp) (Q:Uh V->Hp->Prop),Inv X pins σ H s->t σ H Q->wpAny (model X.prog X.w) X.A (evalAll ((backToKw pos (keywordEach kws X.env)).map (·.2))) (AP X pins σ Q) X.xe s
section
variable{X:Cx}{CX:Ab}{k:Nat}{f C:Addr}{fd:FuncData}{ps ks:Uh Str}{sp:Sp}{E:XK}{x m:Str}{p pos apos kpos:Pos}{e o:Expr}{es:Uh Expr}{kws:Uh Keyword}{te ta:TE}{t tk:TA}{nm:Option Str}
theorem Nk:PK X [] av:=λ_ _ _ _ H Q I h=>wpAny_evalAll_nil ⟨[],H,I,.nil,h⟩
theorem KR(ha:PE X e te)(hr:PK X kws t):PK X (⟨nm,e,kpos⟩::kws) (ah te t):=by
 intro pos pins s σ H Q I h;show wpAny _ _ (evalAll ((do let v <-eval e X.env;standAt pos;pure v)::(backToKw pos (keywordEach kws X.env)).map (·.2))) _ _ s;refine wpAny_evalAll_cons (wpAny_bind (cM (ha pins s σ H _ I h) λu s1 ⟨x,H1,I1,r1,q1⟩=>wpAny_bind (wpAny_standAt (wpAny_pure ?_))));exact cM (hr pos pins s1 σ H1 _ I1 q1) λus s2 ⟨xs,H2,I2,r2,q2⟩=>⟨x::xs,H2,I2,.cons r1 r2,q2⟩
variable{g:Uh Value->Uh Value->Uh Value}{gV:Uh V->Uh V->Uh V}
end
structure aM(N P:Uh Str)(sc:Scope):Prop where
 kind:sc.kind=.function
 co:sc.isCoroutine=false
 gen:sc.isGenerator=false
 nd:N.Nodup
 pre:N.take P.length=P
 par:∀x∈P,sc.names.lookup x=some .local\/sc.names.lookup x=some .cell
 nofree:∀y∈sc.names,y.2≠.free
theorem u7{kindOf:Str->Option NameKind}{x:Str}:∀{binds:Uh (Str×Value)} {m:Str->Option Value},(∀v,(x,v)∉binds)->bindL kindOf binds m x=m x
 |[],_,_=>rfl
 |(n,v)::r,m,h=>by
  unfold bindL;rw[u7 λw hw=>h w (mem_cons_of_mem _ hw)];split
  ·have:x≠n:=by rintro rfl;exact h v mem_cons_self
   simp[this]
  ·rfl
theorem u9{kindOf:Str->Option NameKind}{x:Str}:∀{binds:Uh (Str×Value)} {m:Str->Option Value},(∀v,(x,v)∉binds)->bindC kindOf binds m x=m x
 |[],_,_=>rfl
 |(n,v)::r,m,h=>by
  unfold bindC;rw[u9 λw hw=>h w (mem_cons_of_mem _ hw)];split
  ·rfl
  ·have:x≠n:=by rintro rfl;exact h v mem_cons_self
   simp[this]
theorem vc{kindOf:Str->Option NameKind}{x:Str}{v:Value}:∀{P:Uh Str} {vs:Uh Value} {i:Nat} {m:Str->Option Value},P.Nodup->P[i]?=some x->vs[i]?=some v->kindOf x=some .local->
  bindL kindOf (P.zip vs) m x=some v
 |[],_,_,_,_,h,_,_=>by simp at h
 |_::_,[],_,_,_,_,h,_=>by simp at h
 |p::P,w::vs,0,m,nd,h1,h2,hk=>by
  simp at h1 h2;subst h1;subst h2
  show bindL kindOf ((p,w)::P.zip vs) m p=_;unfold bindL;rw[u7 λv hv=>(nodup_cons.mp nd).1 (List.of_mem_zip hv).1,if_pos hk];simp
 |p::P,w::vs,i+1,m,nd,h1,h2,hk=>by
  show bindL kindOf ((p,w)::P.zip vs) m x=_;unfold bindL;exact vc (i:=i) (nodup_cons.mp nd).2 (by simpa using h1) (by simpa using h2) hk
theorem vd{kindOf:Str->Option NameKind}{x:Str}{v:Value}:∀{P:Uh Str} {vs:Uh Value} {i:Nat} {m:Str->Option Value},P.Nodup->P[i]?=some x->vs[i]?=some v->kindOf x≠some .local->
  bindC kindOf (P.zip vs) m x=some v
 |[],_,_,_,_,h,_,_=>by simp at h
 |_::_,[],_,_,_,_,h,_=>by simp at h
 |p::P,w::vs,0,m,nd,h1,h2,hk=>by
  simp at h1 h2;subst h1;subst h2
  show bindC kindOf ((p,w)::P.zip vs) m p=_;unfold bindC;rw[u9 λv hv=>(nodup_cons.mp nd).1 (List.of_mem_zip hv).1,if_neg hk];simp
 |p::P,w::vs,i+1,m,nd,h1,h2,hk=>by
  show bindC kindOf ((p,w)::P.zip vs) m x=_;unfold bindC;exact vd (i:=i) (nodup_cons.mp nd).2 (by simpa using h1) (by simpa using h2) hk
def start(N:Uh Str)(vs:Uh V):St:=vs.map some++List.replicate (N.length-vs.length) none
def mG(CX:Ab)(P:Program)(w:World)(K:W.Frag)(mg:Str->Option Value)(base:Heap)(N:Uh Str)(qual:Str)(scope:Scope)(f:Addr)(cd:Value)(A:Around)(outer:Uh Env)(s:Shared)(H:Hp)(E:XK):Cx where
 prog:=P
 w:=w
 K:=K
 mg:=mg
 base:=base
 A:=A.deeper (envOfC qual scope s.heap.objs.size f cd)
 N:=N
 s₀:=s
 H₀:=H
 env:=envOfC qual scope s.heap.objs.size f cd
 outer:=outer
 stack:=envOfC qual scope s.heap.objs.size f cd::outer
 ex:=[]
 calm:=true
 fn:=λ_=>true
 pn:=[]
 xe:=λe s'=>wpAny (model P w) (A.deeper (envOfC qual scope s.heap.objs.size f cd)) (leaving (envOfC qual scope s.heap.objs.size f cd) e) (λ_ s''=>CX outer H s E e s'') (λe' s''=>CX outer H s E e' s'') s'
theorem yz{sc:Scope}{n:Nat}{x:Str}(h:sc.names.lookup x=some .cell):∃c,(cellsFrom n sc.names []).lookup x=some c:=by
 have q:=W.cellsFrom_some sc.names n [] (.inl h);exact Option.isSome_iff_exists.mp q
theorem EI{CX:Ab}{P:Program}{w:World}{K:W.Frag}{mg:Str->Option Value}{base:Heap}{N ps:Uh Str}{qual:Str}{scope:Scope}{f:Addr}{cd:Value}{A:Around}{outer:Uh Env}{s s1:Shared}{H:Hp}{E:XK}{us:Uh Value}{vs:Uh V}
  (S:aM N ps scope) (hd:A.handled=none) (e0:Aq P w K mg base A outer s H) (hl:vs.length=ps.length) (r:Vals vs us)
  (x:InCallC s s.heap.objs.size (bindL (envOfC qual scope s.heap.objs.size f cd).kindOf (ps.zip us) λ_=>none) (cellsFrom (s.heap.objs.size+1) scope.names []) (bindC (envOfC qual scope s.heap.objs.size f cd).kindOf (ps.zip us) λ_=>none) s1):
  Inv (mG CX P w K mg base N qual scope f cd A outer s H E) [] (start N vs) H s1:=by
 have hpl:ps.length<=N.length:=by have:=congrArg List.length S.pre;rw[length_take] at this;omega
 obtain⟨h1,tk,rfl,hk⟩:=x.done;have noA:∀b:Addr,b∉(mG CX P w K mg base N qual scope f cd A outer s H E).ex:=λb z=>absurd (show b∈([]:Uh Addr) from z) (by simp);refine⟨⟨e0.mod,S.kind,rfl,rfl,le_refl _,λy z c h1 h2=>?_,λy hy=>?_,λy c _ h=>?_,λ_=>hd,Around.frames_deeper e0.frames,.inr ⟨rfl,rfl⟩,λb z=>absurd z (noA b),e0.bs,e0.bsz,λb _ _=>noA b,λb z=>absurd z (noA b),e0.qN,e0.frf⟩,
  rfl,e0.bare,Un.kept hk,⟨_,x.toInCall.ns,λi y v h1 h2 h3=>?_⟩,λy c h=>⟨_,x.cell y c h⟩,e0.hok.fresh (le_refl _),λy c h=>?_,λp hp=>absurd (show p∈([]:Uh (Addr×Obj)) from hp) (by simp),e0.hok.kept hk,?_⟩
 ·exact name_of_addr x.apart (PySem.mem_of_lookup h1) (PySem.mem_of_lookup h2)
 ·have hy:scope.names.lookup y=some .cell\/scope.names.lookup y=some .free:=hy
  rcases hy with hy|hy
  ·exact yz hy
  ·exact absurd rfl (S.nofree _ (PySem.mem_of_lookup hy))
 ·exact le_of_lt (x.above y c (PySem.mem_of_lookup h))
 ·have hi:i<vs.length:=by
   unfold start at h2
   by_cases hi:i<vs.length
   ·exact hi
   ·rw[getElem?_append_right (by simpa using hi)] at h2;rw[List.getElem?_replicate] at h2;split at h2<;>cases h2
  have ha:vs[i]?=some v:=by
   unfold start at h2;rw[List.getElem?_append_left (by simpa using hi),getElem?_map] at h2;cases e:vs[i]? with
   |none=>rw[e] at h2;cases h2
   |some a=>rw[e] at h2;cases h2;rfl
  obtain⟨u,hu,rv⟩:=r.get ha;have hp:ps[i]?=some y:=by
   rw[<-S.pre,List.getElem?_take_of_lt (by omega)];exact h1
  have ndP:ps.Nodup:=by rw[<-S.pre];exact S.nd.sublist (List.take_sublist _ _)
  refine⟨u,rv,?_⟩
  rcases S.par y (mem_of_getElem? hp) with k|k
  ·exact .inl ⟨k,vc ndP hp hu k⟩
  ·obtain⟨c,e⟩:=yz (n:=s.heap.objs.size+1) k;refine .inr ⟨.inl k,c,e,?_⟩;have q:=x.cell y c e;rw[vd ndP hp hu (by show scope.names.lookup y≠_;rw[k];decide)] at q;exact q
 ·exact e0.hok.fresh (le_of_lt (x.above y c (PySem.mem_of_lookup h)))
 ·unfold start;show _=N.length;rw[length_append,length_map,List.length_replicate];omega
theorem Ms{CX:Ab}{P:Program}{w:World}{K:W.Frag}{mg:Str->Option Value}{base:Heap}{k:Nat}{f:Addr}{name qual:Str}{params:Arguments}{body:Uh Stmt}{scope:Scope}{dV kV doc pm cdv ct oc:Value}{an od:Option Addr}
  {osl:Array (Option Value)} {N ps:Uh Str} {sp:Sp} (lk:K.lookup f=some ⟨oc,od,.func (W.fnOf name qual params body scope dV kV doc pm an cdv ct),osl⟩) (hcd:W.codeIn K cdv qual=true) (S:aM N ps scope)
  (len:∀vs H Q E,sp vs H Q E->vs.length=ps.length)
  (hbody:∀(A:Around) (outer:Uh Env) (s:Shared) (H:Hp) (vs:Uh V) (Q:VK) (E:XK),cT k (A.deeper (envOfC qual scope s.heap.objs.size f cdv))->sp vs H Q E->
   ∃t,Cy (mG CX P w K mg base N qual scope f cdv A outer s H E) body t/\t {nx:=λ_ H'=>Q .non H',rt:=Q} (start N vs) H):
  jg P w K mg base CX (k+1) f (W.fnOf name qual params body scope dV kV doc pm an cdv ct) ps sp:=by
 refine⟨len,λA outer s H args us vs Q E hr e0 hb r hsp=>?_⟩;have hl:=len _ _ _ _ hsp;have KX:K.In s.heap:=e0.mod.kin.keeps λb o e=>(e0.bs b o e).1;have lim:s.heap.NoLimit:=e0.mod.nolimit.keeps λb o e=>(e0.bs b o e).1;have hkind:∀y∈ps.zip us,scope.names.lookup y.1=some .local\/(scope.names.lookup y.1=some .cell/\((cellsFrom (s.heap.objs.size+1) scope.names []).lookup y.1).isSome=true):=λ⟨n,v⟩ hy=>by
  rcases S.par n (List.of_mem_zip hy).1 with q|q
  ·exact .inl q
  ·exact .inr ⟨q,W.cellsFrom_some _ _ _ (.inl q)⟩
 refine codeAny_call_function hr.depth (KX _ _ lk) rfl S.co S.gen rfl (W.codeRec_of KX hcd) (hb _ _ _ _ ?_);refine wpAny_newFunctionEnv_cells S.kind hkind λenv he s1 x=>?_;subst he;refine⟨lim.keeps x.toInCall.keep,codeAny_func ?_⟩;obtain⟨t,ht,hq⟩:=hbody A outer s H vs Q E (hr.deeper _) hsp;have I:Inv (mG CX P w K mg base N qual scope f cdv A outer s H E) [] (start N vs) H s1:=EI S hr.hd e0 hl r x;refine wpAny_mono (ht [] s1 (start N vs) H _ I hq) (λfl s' hs=>?_) λe s' hs=>hs;have fin:∀{σ':St} {H':Hp} {v:V} {u:Value},Inv (mG CX P w K mg base N qual scope f cdv A outer s H E) [] σ' H' s'->RelV v u->Q v H'->CE outer P w H s Q u s':=
  λ{σ' H' v u} J rv q=>⟨v,H',J.os,J.bare,J.base,J.hok,rv,q⟩
 cases fl with
 |ret u=>
  obtain⟨v,σ',H',J,rv,q⟩:=hs;exact fin J rv q
 |next=>
  obtain⟨σ',H',J,q⟩:=hs;exact fin (v:=V.non) (u:=Value.none) J rfl q
 |brk=>
  obtain⟨_,_,_,q⟩:=hs;exact False.elim q
 |cont=>
  obtain⟨_,_,_,q⟩:=hs;exact False.elim q
section
variable{X:Cx}{x:Str}{p pos:Pos}{e:Expr}{es:Uh Expr}{t:TA}{id T:String}{r:Uh V->Hp->VK->Prop}
def dJ(r:Uh V->Hp->VK->Prop)(t:TA):TE:=λσ H Q=>t σ H λvs H1=>r vs H1 Q
theorem sE(hc:fJ X (.builtin id) r)(hg:Gl X x)(hm:X.mg x=none)(hv:bootBuiltins x=some (.builtin id))(ha:PA X (e::es) t)(hn:x ≠ "__name__" :=by decide)(hdb:(x==("__debug__" :Str))=false:=by decide)
  (he:starEach (e::es) X.env=(false,eval e X.env)::starEach es X.env:=by rfl) (hpl:(backTo pos (starEach es X.env)).any (·.1)=false:=by rfl):PE X (.Call (.Name x p) (e::es) [] pos) (dJ r t):=by
 intro pins s σ H Q I h;refine wpAny_Call_Name_kw (mE I hg hm hv ?_ hn hdb);exact PyProof.Rows.callWith_builtin1 (cM (ha pos pins s σ H _ I h) λus s1 ⟨vs,H1,I1,r1,q1⟩=>hc pins s1 σ H1 vs us Q I1 r1 q1) he hpl
theorem o7(hc:fJ X (.type T) r)(hg:Gl X x)(hm:X.mg x=none)(hv:bootBuiltins x=some (.type T))(ha:PA X (e::es) t)(hn:x ≠ "__name__" :=by decide)(hdb:(x==("__debug__" :Str))=false:=by decide)
  (he:starEach (e::es) X.env=(false,eval e X.env)::starEach es X.env:=by rfl) (hpl:(backTo pos (starEach es X.env)).any (·.1)=false:=by rfl):PE X (.Call (.Name x p) (e::es) [] pos) (dJ r t):=by
 intro pins s σ H Q I h;refine wpAny_Call_Name_kw (mE I hg hm hv ?_ hn hdb);exact PyProof.Rows.callWith_type1 (cM (ha pos pins s σ H _ I h) λus s1 ⟨vs,H1,I1,r1,q1⟩=>hc pins s1 σ H1 vs us Q I1 r1 q1) he hpl
end
end L2
namespace HT
open PySem PyProof.Rows
section
open PySem.SeqAt
open PySem.AutoSeq1 (wpAny_loadPart')
open PySem.MeetsSeq PySem.MeetsSeq2 PySem.MeetsSeq3
end
section
variable{prog:Program}{w:World}{A:Around}{E:Value->Shared->Prop}{s:Shared}
def yC(n d:Nat):Option Int->Nat
 |none=>d
 |some v=>if v<0 then(v+(n:Int)).toNat else min v.toNat n
theorem yD(n d:Nat):yC n d none=d:=rfl
theorem CL(n d k:Nat):yC n d (some (k:Int))=min k n:=by
 show (if (k:Int)<0 then((k:Int)+(n:Int)).toNat else min (k:Int).toNat n)=min k n
 rw[if_neg (by omega),toNat_natCast]
end
end HT
namespace L2
open PySem PySem.Spec PyProof.Rows
abbrev TO:=St->Hp->(Option Int->Hp->Prop)->Prop
def PO(X:Cx)(e:Option Expr)(t:TO):Prop:=
 ∀(pins:Uh (Addr×Obj)) (s:Shared) (σ:St) (H:Hp) (Q:Option Int->Hp->Prop),Inv X pins σ H s->t σ H Q->
  wpAny (model X.prog X.w) X.A (evalPart e X.env) (λu s'=>∃o H',Inv X pins σ H' s'/\IsPart u o/\Q o H') X.xe s
def fz:TO:=λ_ H Q=>Q none H
def kJ(t:TE):TO:=λσ H Q=>t σ H λx H1=>∃i,x=.int i/\Q (some i) H1
section
variable{X:Cx}{e:Expr}{te:TE}{lo hi:Option Expr}{tl th:TO}{pos p2:Pos}
theorem KW:PO X none fz:=by
 intro pins s σ H Q I h;rw[evalPart_none];exact wpAny_pure ⟨none,H,I,.none,h⟩
theorem KY(h:PE X e te):PO X (some e) (kJ te):=by
 intro pins s σ H Q I hw;rw[evalPart_some];refine cM (h pins s σ H _ I hw) λu s1 ⟨x,H1,I1,r1,q1⟩=>?_;obtain⟨i,rfl,q⟩:=q1;obtain⟨t,rfl⟩:=r1;exact⟨some i,H1,I1,.int i t,q⟩
def RV(X:Cx)(r:V->Option Int->Option Int->Hp->VK->Prop):Prop:=
 ∀(pins:Uh (Addr×Obj)) (s:Shared) (σ:St) (H:Hp) (x:V) (v vl vu:Value) (lo hi:Option Int) (sl:Addr) (Q:VK),Inv X pins σ H s->RelV x v->s.heap.IsSliceOf sl vl vu .none->IsPart vl lo->IsPart vu hi->r x lo hi H Q->
  ∃T id,typeLookup (.type T) "__getitem__" =pure (some (.builtin id))/\s.TypeIs v T/\wpAny (model X.prog X.w) X.A (getItem v (.ref sl)) (EP X pins σ Q) X.xe s
def GG(r:V->Option Int->Option Int->Hp->VK->Prop)(te:TE)(tl th:TO):TE:=λσ H Q=>te σ H λx H1=>tl σ H1 λl H2=>th σ H2 λu H3=>r x l u H3 Q
theorem GH{r:V->Option Int->Option Int->Hp->VK->Prop}(hr:RV X r)(he:PE X e te)(hl:PO X lo tl)(hu:PO X hi th):PE X (.Subscript e (.Slice lo hi none p2) pos) (GG r te tl th):=by
 intro pins s σ H Q I h;refine Subscript_ (cM (he pins s σ H _ I h) λv s1 ⟨x,H1,I1,r1,q1⟩=>?_);refine wpAny_Slice (cM (hl pins s1 σ H1 _ I1 q1) λvl s2 ⟨l,H2,I2,pl,q2⟩=>cM (hu pins s2 σ H2 _ I2 q2) λvu s3 ⟨u,H3,I3,pu,q3⟩=>?_);rw[evalPart_none];refine wpAny_pure ?_;have I4:Inv X pins σ H3 {s3 with heap:=s3.heap.push {cls:=.type "slice",data:=.fields #[vl,vu,.none] } }:=I3.kept (t':=s3.toks) λb ob q=>Heap.get?_push_of_some _ q
 obtain⟨T,id,hT,ht,hg⟩:=hr pins {s3 with heap:=s3.heap.push {cls:=.type "slice",data:=.fields #[vl,vu,.none] } } σ H3 x v vl vu l u s3.heap.objs.size Q I4 r1 (Heap.IsSliceOf.new ..) pl pu q3
 show wpAny (model X.prog X.w) X.A (subscriptTail e (.Slice lo hi none p2) v (.ref s3.heap.objs.size)) (EP X pins σ Q) X.xe {s3 with heap:=s3.heap.push {cls:=.type "slice",data:=.fields #[vl,vu,.none] } }
 exact tail_any (ops:=[.ref s3.heap.objs.size,v]) ht hT hg (by with_unfolding_all rfl)
def vU(xs:Uh V)(lo hi:Option Int):Uh V:=(xs.drop (HT.yC xs.length 0 lo)).take (HT.yC xs.length xs.length hi-HT.yC xs.length 0 lo)
theorem yE(xs:Uh V)(lo hi:Option Int):(vU xs lo hi).length<=xs.length:=by
 unfold vU;rw[length_take,length_drop];omega
end
def Nl(n:Nat)(i:Int):Option Nat:=if 0<=i then(if i<n then some i.toNat else none) else if -(n:Int)<=i then some (i+n).toNat else none
def Km{α:Type}(xs:Uh α)(i:Int):Option α:=(Nl xs.length i).bind λj=>xs[j]?
theorem KZ{n:Nat}{i:Int}{j:Nat}(h:Nl n i=some j):seqIndex? i n=some j/\j<n/\-(n:Int)<=i/\i<n:=by
 unfold Nl at h
 by_cases h0:0<=i
 ·rw[if_pos h0] at h
  by_cases h1:i<n
  ·rw[if_pos h1] at h;have e:i.toNat=j:=Option.some.inj h;exact⟨by rw[seqIndex_of h0 h1,e],by omega,by omega,h1⟩
  ·rw[if_neg h1] at h;cases h
 ·rw[if_neg h0] at h
  by_cases h1:-(n:Int)<=i
  ·rw[if_pos h1] at h;have e:(i+n).toNat=j:=Option.some.inj h;exact⟨by rw[seqIndex_neg (by omega) h1,e],by omega,h1,by omega⟩
  ·rw[if_neg h1] at h;cases h
theorem vV{α:Type}{xs:Uh α}{i:Int}{v:α}(h:Km xs i=some v):∃j,seqIndex? i xs.length=some j/\xs[j]?=some v/\j<xs.length/\-(xs.length:Int)<=i/\i<xs.length:=by
 unfold Km at h;cases e:Nl xs.length i with
 |none=>rw[e] at h;cases h
 |some j=>
  rw[e] at h;obtain⟨h1,h2,h3,h4⟩:=KZ e;exact⟨j,h1,h,h2,h3,h4⟩
theorem vW{α:Type}{xs:Uh α}{j:Nat}{v:α}(h:xs[j]?=some v):Km xs (j:Int)=some v:=by
 have hj:j<xs.length:=(List.getElem?_eq_some_iff.mp h).1;have e:Nl xs.length (j:Int)=some j:=by
  unfold Nl;rw[if_pos (by omega),if_pos (by omega)];simp
 unfold Km;rw[e];exact h
def K0(b:Expr):Prop:=∀o i,subscripted b false o i=operate [o,i] (getItem o i)
def O5(X:Cx)(r:R2):Prop:=
 ∀(value slice:Expr) (pins:Uh (Addr×Obj)) (s:Shared) (σ:St) (H:Hp) (x y:V) (v u:Value) (Q:VK),Inv X pins σ H s->RelV x v->RelV y u->r x y H Q->
  subscripted slice false v u=operate [v,u] (getItem v u)->wpAny (model X.prog X.w) X.A (subscriptTail value slice v u) (EP X pins σ Q) X.xe s
def K3(X:Cx)(id:String)(r:V->Uh V->Hp->VK->Prop):Prop:=
 ∀(pins:Uh (Addr×Obj)) (s:Shared) (σ:St) (H:Hp) (x:V) (xs:Uh V) (v:Value) (us:Uh Value) (Q:VK),Inv X pins σ H s->RelV x v->Vals xs us->r x xs H Q->
  wpAny (model X.prog X.w) X.A (call (.builtin id) (v::us)) (EP X pins σ Q) X.xe s
section
variable{X:Cx}{a b:Expr}{ta tb:TE}{pos:Pos}
theorem Pq{r:R2}(hr:O5 X r)(ha:PE X a ta)(hb:PE X b tb)(hs:K0 b):PE X (.Subscript a b pos) (aP r ta tb):=by
 intro pins s σ H Q I h;exact Subscript_ (M9 ha hb I h λv u s2 x y H2 I2 rx ry q=>hr a b pins s2 σ H2 x y v u Q I2 rx ry q (hs _ _))
def dQ(K:W.Frag):R2:=λx y H Q=>∃p xs i v,x=.ref p/\y=.int i/\aX K H p xs/\Km xs i=some v/\Q v H
def bH(K:W.Frag):R2:=λx y H Q=>∃p xs i v,x=.ref p/\y=.int i/\dU K H p xs/\Km xs i=some v/\Q v H
def RW:R2:=λx y H Q=>∃z i c,x=.str z/\y=.int i/\z.length<=sizeLine/\Km z.cps.toList i=some c/\Q (.str ⟨#[c]⟩) H
theorem bx:O5 X (dQ X.K):=by
 intro value slice pins s σ H x y v u Q I rx ry h hs;obtain⟨p,xs,i,z,rfl,rfl,hq,he,q⟩:=h;cases rx;obtain⟨t,rfl⟩:=ry;obtain⟨its,r,pl,hz⟩:=I.list hq;obtain⟨j,h1,h2,h3,h4,h5⟩:=vV he;obtain⟨w,ew,rw'⟩:=r.get h2;have hl:=r.length;have hn:=su;have fin:EP X pins σ Q w s:=⟨z,H,I,rw',q⟩
 by_cases h0:0<=i
 ·have hj:i.toNat=j:=by
   rw[seqIndex_of h0 h5] at h1;exact Option.some.inj h1
  exact item_listR pl.isList h0 (by omega) (by rw[hj];simpa using ew) fin hs
 ·have hj:(i+(its.toArray.size:Int)).toNat=j:=by
   rw[seqIndex_neg (by omega) h4] at h1;rw[size_toArray,<-hl];exact Option.some.inj h1
  exact subscriptTail_builtinR (x:=w) pl.isList.typeIs slot_list_getitem.lookup
   (wpAny_getItem_list_neg (Q:=λr s'=>r=w/\EP X pins σ Q r s') pl.isList (by omega) (by rw[size_toArray]<;>omega) (by omega) (by rw[hj];simpa using ew) ⟨rfl,fin⟩) hs
theorem aV:O5 X (bH X.K):=by
 intro value slice pins s σ H x y v u Q I rx ry h hs;obtain⟨p,xs,i,z,rfl,rfl,hq,he,q⟩:=h;cases rx;obtain⟨t,rfl⟩:=ry;obtain⟨its,r,pl,hz⟩:=I.tuple hq;obtain⟨j,h1,h2,h3,h4,h5⟩:=vV he;obtain⟨w,ew,rw'⟩:=r.get h2;have hl:=r.length;have hn:=su;have fin:EP X pins σ Q w s:=⟨z,H,I,rw',q⟩;exact subscriptTail_builtinR (x:=w) pl.typeIs slot_tuple_getitem.lookup
  (getItem_tuple (j:=j) (Q:=λr s'=>r=w/\EP X pins σ Q r s') pl (by omega) (by omega) (by rw[size_toArray,<-hl];exact h1) (by simpa using ew) ⟨rfl,fin⟩) hs
theorem Nm:O5 X RW:=by
 intro value slice pins s σ H x y v u Q I rx ry h hs;obtain⟨z,i,c,rfl,rfl,hz,he,q⟩:=h;obtain⟨t,rfl⟩:=rx;obtain⟨t',rfl⟩:=ry;obtain⟨j,h1,h2,h3,h4,h5⟩:=vV he;have hl:z.cps.toList.length=z.length:=by simp[Str.length]
 rw[hl] at h1 h4 h5;have hn:=su;exact tail_any (typeIs_str s z t) slot_str_getitem.lookup (getItem_str (c:=c) (by
  have e1:decide (i < -(2^63:Int))=false:=decide_eq_false (by omega);have e2:decide (i≥2^63)=false:=decide_eq_false (by omega);rw[e1,e2,Bool.or_false]) (by rw[h1];simpa using h2) ⟨.str ⟨#[c]⟩,H,I.tok _,⟨_,rfl⟩,q⟩) hs
theorem vX(lo hi:Option Int)(n:Nat):(sliceBounds lo hi none n).1=((HT.yC n 0 lo:Nat):Int)/\(sliceBounds lo hi none n).2.1=((HT.yC n n hi:Nat):Int)/\(sliceBounds lo hi none n).2.2=1:=by
 refine⟨?_,?_,rfl⟩
 ·cases lo with
  |none=>simp[sliceBounds,HT.yC]
  |some i=>
   simp only[sliceBounds,HT.yC,Option.getD_none,show (1:Int)>0 by decide,if_true]
   by_cases h:i<0
   ·simp only[h,if_true]<;>omega
   ·simp only[h,if_false]<;>omega
 ·cases hi with
  |none=>simp[sliceBounds,HT.yC]
  |some i=>
   simp only[sliceBounds,HT.yC,Option.getD_none,show (1:Int)>0 by decide,if_true]
   by_cases h:i<0
   ·simp only[h,if_true]<;>omega
   ·simp only[h,if_false]<;>omega
theorem uK(its:Uh Value)(lo hi:Option Int):slicePick its.toArray lo hi none=((its.drop (HT.yC its.length 0 lo)).take (HT.yC its.length its.length hi-HT.yC its.length 0 lo)).toArray:=by
 obtain⟨h1,h2,h3⟩:=vX lo hi its.toArray.size;unfold slicePick;rw[h1,h2,h3];simp only[sliceRange_one,pick_run,size_toArray]<;>rfl
def vY(K:W.Frag):V->Option Int->Option Int->Hp->VK->Prop:=λx lo hi H Q=>∃a xs,x=.ref a/\aX K H a xs/\∀p,H p=none->Q (.ref p) (upd H p (.lst (vU xs lo hi)))
theorem lG:RV X (vY X.K):=by
 intro pins s σ H x v vl vu lo hi sl Q I rx hs pl pu h;obtain⟨a,xs,rfl,hx,q⟩:=h;cases rx;obtain⟨its,r,ht,hz⟩:=I.list hx;have hlen:=r.length;refine⟨"list",_,slot_list_getitem.lookup,ht.isList.typeIs,?_⟩;refine wpAny_getItem_list_slice ht.isList hs pl pu .none (by simp) ?_ (by rw[size_toArray]<;>omega);rw[uK,<-hlen];refine⟨.ref s.heap.objs.size,_,I.laid (t':=s.toks) (o:=.lst (vU xs lo hi)) (λb ob q=>Heap.get?_push_of_some _ q) (le_refl _) ?_,rfl,q _ (I.hok.fresh (le_refl _))⟩;exact⟨Nat.le_trans (yE xs lo hi) hz,_,0,(r.drop (HT.yC xs.length 0 lo)).take (HT.yC xs.length xs.length hi-HT.yC xs.length 0 lo),Heap.get?_push_size _ rfl⟩
def m5:V->Bool
 |.non=>true
 |.bl _=>true
 |.int _=>true
 |.str _=>true
 |_=>false
def Kn:V->V->Bool
 |.non,.non=>true
 |.bl a,.bl b=>a==b
 |.bl a,.int b=>(if a then 1 else 0)==b
 |.int a,.bl b=>a==(if b then 1 else 0)
 |.int a,.int b=>a==b
 |.str a,.str b=>a==b
 |_,_=>false
theorem Nn{A:Around}{s:Shared}{y x:V}{u v:Value}(ry:RelV y u)(rx:RelV x v)(fy:m5 y=true)(fx:m5 x=true):SeqAt.EqAt A s u v (Kn y x):=by
 cases y with
 |non=>
  cases ry;cases x with
  |non=>cases rx;exact SeqAt.EqAt.same _
  |bl b=>cases rx;exact SeqAt.EqAt.none_bool b
  |int b=>obtain⟨t,rfl⟩:=rx;exact SeqAt.EqAt.none_int b t
  |str b=>obtain⟨t,rfl⟩:=rx;exact SeqAt.EqAt.none_str b t
  |_=>exact absurd (show false=true from fx) Bool.false_ne_true
 |bl a=>
  cases ry;cases x with
  |non=>cases rx;exact SeqAt.EqAt.bool_none a
  |bl b=>cases rx;exact SeqAt.EqAt.bool_bool a b
  |int b=>obtain⟨t,rfl⟩:=rx;exact SeqAt.EqAt.bool_int a b t
  |str b=>obtain⟨t,rfl⟩:=rx;exact SeqAt.EqAt.bool_str a b t
  |_=>exact absurd (show false=true from fx) Bool.false_ne_true
 |int a=>
  obtain⟨t',rfl⟩:=ry;cases x with
  |non=>cases rx;exact SeqAt.EqAt.int_none a t'
  |bl b=>cases rx;exact SeqAt.EqAt.int_bool a t' b
  |int b=>obtain⟨t,rfl⟩:=rx;exact SeqAt.EqAt.int_int a t' b t
  |str b=>obtain⟨t,rfl⟩:=rx;exact SeqAt.EqAt.int_str a t' b t
  |_=>exact absurd (show false=true from fx) Bool.false_ne_true
 |str a=>
  obtain⟨t',rfl⟩:=ry;cases x with
  |non=>cases rx;exact SeqAt.EqAt.str_none a t'
  |bl b=>cases rx;exact SeqAt.EqAt.str_bool a t' b
  |int b=>obtain⟨t,rfl⟩:=rx;exact SeqAt.EqAt.str_int a t' b t
  |str b=>obtain⟨t,rfl⟩:=rx;exact SeqAt.EqAt.str_str a t' b t
  |_=>exact absurd (show false=true from fx) Bool.false_ne_true
 |_=>exact absurd (show false=true from fy) Bool.false_ne_true
def K4(x:V)(u:Value):Bool:=match u with
 |.none=>Kn .non x
 |.bool b=>Kn (.bl b) x
 |.int i _=>Kn (.int i) x
 |.str z _=>Kn (.str z) x
 |_=>false
theorem GI{x y:V}{u:Value}(r:RelV y u)(f:m5 y=true):K4 x u=Kn y x:=by
 cases y with
 |non=>cases r;rfl
 |bl b=>cases r;rfl
 |int i=>obtain⟨t,rfl⟩:=r;rfl
 |str z=>obtain⟨t,rfl⟩:=r;rfl
 |_=>exact absurd (show false=true from f) Bool.false_ne_true
theorem vZ{x:V}:∀{xs:Uh V} {us:Uh Value},Vals xs us->xs.all m5=true->us.any (K4 x)=xs.any λy=>Kn y x
 |_,_,.nil,_=>rfl
 |y::xs,u::us,.cons r t,f=>by
  rw[List.all_cons,and_eq_true] at f;rw[any_cons,any_cons,GI r f.1,vZ t f.2]
theorem sF{A:Around}{s:Shared}{x:V}{v:Value}(rx:RelV x v)(fx:m5 x=true):∀{xs:Uh V} {us:Uh Value},Vals xs us->xs.all m5=true->∀u∈us,SeqAt.EqAt A s u v (K4 x u)
 |_,_,.nil,_=>λu hu=>by cases hu
 |y::xs,u::us,.cons r t,f=>λu' hu=>by
  rw[List.all_cons,and_eq_true] at f
  rcases mem_cons.mp hu with rfl|hu
  ·rw[GI r f.1];exact Nn r rx f.1 fx
  ·exact sF rx fx t f.2 u' hu
def RL(x:V)(xs:Uh V):Bool:=xs.any λy=>Kn y x
def Tn(K:W.Frag)(neg:Bool):R2:=λx y H Q=>∃p xs,y=.ref p/\(aX K H p xs\/dU K H p xs)/\m5 x=true/\xs.all m5=true/\Q (.bl (if neg then !RL x xs else RL x xs)) H
theorem v8:mF X (compareOp .NotIn) (Tn X.K true):=by
 intro pins s σ H x y v u Q I rx ry h;obtain⟨p,xs,rfl,hq,fx,fs,q⟩:=h;cases ry
 rcases hq with hq|hq
 ·obtain⟨its,r,pl,hz⟩:=I.list hq;refine SeqAt.notIn_listAt (K4 x) pl.isList (λw hw=>sF rx fx r fs w (by simpa using hw)) ⟨.bl _,H,I,rfl,?_⟩;rw[show its.toArray.any (K4 x)=its.any (K4 x) by simp,vZ r fs]
  exact q
 ·obtain⟨its,r,pl,hz⟩:=I.tuple hq;refine SeqAt.notIn_tupleAt (K4 x) pl (λw hw=>sF rx fx r fs w (by simpa using hw)) ⟨.bl _,H,I,rfl,?_⟩;rw[show its.toArray.any (K4 x)=its.any (K4 x) by simp,vZ r fs]
  exact q
theorem aN:fJ X (.builtin "len") (λxs H Q=>∃p ys,xs=[.ref p]/\(aX X.K H p ys\/dU X.K H p ys)/\Q (.int ys.length) H):=by
 intro pins s σ H xs us Q I r h;obtain⟨p,ys,rfl,hq,q⟩:=h;obtain⟨u,rfl,rx⟩:=vals1 r;cases rx;have hn:=su
 rcases hq with hq|hq
 ·obtain⟨its,r',pl,hz⟩:=I.list hq;have hlen:=r'.length;exact Calls.call_len_list pl.isList (by simp only[size_toArray]<;>omega) ⟨.int ys.length,H,I.tok _,⟨s.toks+1,by rw[size_toArray,hlen]⟩,q⟩
 ·obtain⟨its,r',pl,hz⟩:=I.tuple hq;have hlen:=r'.length;exact len_tuple pl (by simp only[size_toArray]<;>omega) ⟨.int ys.length,H,I.tok _,⟨s.toks+1,by rw[size_toArray,hlen]⟩,q⟩
theorem v9:fJ X (.builtin "len") (λxs H Q=>∃z,xs=[.str z]/\z.length<=sizeLine/\Q (.int z.length) H):=by
 intro pins s σ H xs us Q I r h;obtain⟨z,rfl,hz,q⟩:=h;obtain⟨u,rfl,t,rfl⟩:=vals1 r;have hn:=su;exact len_str (by omega) ⟨.int z.length,H,I.tok _,⟨_,rfl⟩,q⟩
theorem dw:fJ X (.type "list") (λxs H Q=>∃p ys,xs=[.ref p]/\(aX X.K H p ys\/dU X.K H p ys)/\∀l,H l=none->Q (.ref l) (upd H l (.lst ys))):=by
 intro pins s σ H xs us Q I r h;obtain⟨p,ys,rfl,hq,q⟩:=h;obtain⟨u,rfl,rx⟩:=vals1 r;cases rx;have fin:∀(its:Uh Value),Vals ys its->ys.length<=sizeLine->∀(h':Heap) (c':Nat),(∀b o',s.heap.get? b=some o'->h'.get? b=some o')->
   h'.get? s.heap.objs.size=some {cls:=.type "list",dict:=none,data:=.seq its.toArray c',slots:=#[] }->EP X pins σ Q (.ref s.heap.objs.size) {s with heap:=h' }:=λits r' hz h' c' kp e=>
  ⟨.ref s.heap.objs.size,_,I.laid (t':=s.toks) kp (le_refl _) (show cI X.prog X.w _ h' _ (.lst ys) from⟨hz,its,c',r',e⟩),rfl,q _ (I.hok.fresh (le_refl _))⟩
 rcases hq with hq|hq
 ·obtain⟨its,r',pl,hz⟩:=I.list hq;have hlen:=r'.length;obtain⟨o,ho,hc,n,hd⟩:=pl.isList;exact call_list_seq p (.inl rfl) ho hc hd (λh' c' kp e=>fin its r' hz h' c' kp e) (by simp only[size_toArray]<;>omega)
 ·obtain⟨its,r',pl,hz⟩:=I.tuple hq;have hlen:=r'.length;obtain⟨o,ho,hc,n,hd⟩:=pl;exact call_list_seq p (.inr rfl) ho hc hd (λh' c' kp e=>fin its r' hz h' c' kp e) (by simp only[size_toArray]<;>omega)
def RX(K:W.Frag)(T:String)(x:V)(H:Hp):Prop:=match x with
 |.str _=>T = "str"
 |.int _=>T = "int"
 |.ref p=>(T = "list" /\∃xs,aX K H p xs)\/(T = "tuple" /\∃o,K.lookup p=some o/\o.cls=.type "tuple" /\o.dict=none)\/
   (T = "dict" /\((∃kvs,H p=some (.dK kvs))\/∃kvs,H p=some (.dT kvs)))\/(T = "set" /\∃S n,H p=some (.set S n))
 |_=>False
theorem GL{pins:Uh (Addr×Obj)}{σ:St}{H:Hp}{s:Shared}{T:String}{x:V}{v:Value}(I:Inv X pins σ H s)(r:RelV x v)(ty:RX X.K T x H):
  s.TypeIs v T/\∀a,v=.ref a->∃ob,s.heap.get? a=some ob/\ob.dict=none:=by
 cases x with
 |str z=>
  obtain⟨t,rfl⟩:=r;cases (show T = "str" from ty);exact⟨typeIs_str s z t,λ_ e=>nomatch e⟩
 |int i=>
  obtain⟨t,rfl⟩:=r;cases (show T = "int" from ty);exact⟨typeIs_int s i t,λ_ e=>nomatch e⟩
 |ref p=>
  cases r
  rcases ty with⟨rfl,xs,hq⟩|⟨rfl,o,hk,hc,hd⟩|⟨rfl,hk⟩|⟨rfl,S,n,hk⟩
  ·obtain⟨its,_,pl,_⟩:=I.list hq;refine⟨pl.isList.typeIs,λa e=>?_⟩;cases e;obtain⟨o,n,e,c,hd,_⟩:=pl;exact⟨o,e,hd⟩
  ·refine⟨⟨o,I.Cw p o hk,hc⟩,λa e=>?_⟩;cases e;exact⟨o,I.Cw _ o hk,hd⟩
  ·have z:∃o,s.heap.get? p=some o/\o.ExactDict:=by
    rcases hk with⟨kvs,hk⟩|⟨kvs,hk⟩
    ·obtain⟨_,_,_,_,o,_,_,e,ex,_⟩:=I.hok p _ hk;exact⟨o,e,ex⟩
    ·obtain⟨_,_,_,_,o,_,_,e,ex,_⟩:=I.hok p _ hk;exact⟨o,e,ex⟩
   obtain⟨o,e,ex⟩:=z;refine⟨⟨o,e,ex.1⟩,λa e2=>?_⟩;cases e2;exact⟨o,e,ex.2.1⟩
  ·obtain⟨o,_,_,_,e,ex,_⟩:=I.hok p _ hk;refine⟨⟨o,e,ex.1⟩,λa e2=>?_⟩;cases e2;exact⟨o,e,ex.2.1⟩
 |_=>exact False.elim ty
def EJ(K:W.Frag)(T:String)(r:V->Uh V->Hp->VK->Prop)(to:TE):TE:=λσ H Q=>to σ H λx H1=>RX K T x H1/\r x [] H1 Q
def Ac(K:W.Frag)(T:String)(r:V->Uh V->Hp->VK->Prop)(to:TE)(t:TA):TE:=λσ H Q=>to σ H λx H1=>RX K T x H1/\t σ H1 λxs H2=>r x xs H2 Q
variable{o e:Expr}{es:Uh Expr}{to:TE}{t:TA}{name:Str}{apos cpos:Pos}{T id:String}{r:V->Uh V->Hp->VK->Prop}
theorem Np(pa:PlainAttrs T)(slot:Slot T name id)(hty:typeOf (.builtin id)=pure (.type "method_descriptor"))(hm:K3 X id r)(ho:PE X o to)
  (hbase:attributeBase o name X.env (eval o X.env)=eval o X.env:=by rfl) (hline:(apos.endLine==cpos.line)=true:=by rfl):PE X (.Call (.Attribute o name apos) [] [] cpos) (EJ X.K T r to):=by
 intro pins s σ H Q I h;refine wpAny_Call_method0_late hbase hline (cM (ho pins s σ H _ I h) λv s1 ⟨x,H1,I1,r1,ty,q1⟩=>?_);obtain⟨h1,h2⟩:=GL I1 r1 ty;exact⟨T,id,pa,slot,hty,h1,h2,Calls.callWith_builtin rfl (PySem.evalArgs_none (hm pins s1 σ H1 x [] v [] Q I1 r1 .nil q1))⟩
theorem Pr(pa:PlainAttrs T)(slot:Slot T name id)(hty:typeOf (.builtin id)=pure (.type "method_descriptor"))(hm:K3 X id r)(ho:PE X o to)(ha:PA X (e::es) t)
  (hbase:attributeBase o name X.env (eval o X.env)=eval o X.env:=by rfl)
  (hfew:((backTo cpos (starEach (e::es) X.env)).all (λx=>!x.1)&&(backToKw cpos (keywordEach [] X.env)).all (λx=>x.1.isSome)
   && decide ((e::es).length+([]:Uh Keyword).length+(if ([]:Uh Keyword).isEmpty then 0 else 1)<30))=true:=by rfl)
  (hline:(apos.endLine==cpos.line)=true:=by rfl) (hs:starEach (e::es) X.env=(false,eval e X.env)::starEach es X.env:=by rfl) (hplain:(backTo cpos (starEach es X.env)).any (·.1)=false:=by rfl):
  PE X (.Call (.Attribute o name apos) (e::es) [] cpos) (Ac X.K T r to t):=by
 intro pins s σ H Q I h;refine wpAny_Call_method_late hbase hfew hline rfl (cM (ho pins s σ H _ I h) λv s1 ⟨x,H1,I1,r1,ty,q1⟩=>?_);obtain⟨h1,h2⟩:=GL I1 r1 ty;refine⟨T,id,pa,slot,hty,h1,h2,?_⟩;have hA:=ha cpos pins s1 σ H1 _ I1 q1;rw[hs] at hA ⊢;refine Calls.callWith_builtin (by show (false||(backTo cpos (starEach es X.env)).any (·.1))=false;rw[hplain]<;>rfl) (Calls.evalArgs_plain ?_)
 exact cM hA λus s2 ⟨vs,H2,I2,r2,q2⟩=>hm pins s2 σ H2 x vs v us Q I2 r1 r2 q2
end
def Tz(X:Cx)(id:String)(r:V->Uh V->Hp->VK->Prop):Prop:=
 ∀(pins:Uh (Addr×Obj)) (s:Shared) (σ:St) (H:Hp) (x:V) (xs:Uh V) (v:Value) (us:Uh Value) (Q:VK),Inv X pins σ H s->RelV x v->Vals xs us->r x xs H Q->
  wpAny (model X.prog X.w) X.A (call (.builtin id) (v::us)) (EP X pins σ Q) X.xe s
theorem Vals.one:∀{x:V} {us:Uh Value},Vals [x] us->∃u,us=[u]/\RelV x u
 |_,_,.cons r .nil=>⟨_,rfl,r⟩
theorem Vals.zero:∀{us:Uh Value},Vals [] us->us=[]
 |_,.nil=>rfl
theorem Vals.reverse{xs:Uh V}{us:Uh Value}(h:Vals xs us):Vals xs.reverse us.reverse:=by
 induction h with
 |nil=>exact .nil
 |cons r t ih=>rw[List.reverse_cons,List.reverse_cons];exact Vals.append ih (.cons r .nil)
section
variable{X:Cx}{pins:Uh (Addr×Obj)}{σ:St}{H:Hp}{s:Shared}{l b:Addr}{xs ys zs:Uh V}
theorem Inv.RY{its its':Uh Value}{n:Nat}{f:Array Value->Array Value}{t':Nat}(I:Inv X pins σ H s)(hH:H l=some (.lst xs))
  (e:s.heap.get? l=some {cls:=.type "list",data:=.seq its.toArray n}) (hf:f its.toArray=its'.toArray) (hv:Vals ys its') (hz:ys.length<=sizeLine):
  Inv X pins σ (upd H l (.lst ys)) {s with heap:=s.heap.update l (Obj.mapSeq f),toks:=t' }:=by
 have q:=PySem.IsL.update e f;rw[hf] at q;refine I.write (x:=l) (e:=l) (by rw[hH];exact trivial) (.inl rfl) (λb' u hb hu=>(Heap.get?_update_other s.heap (Obj.mapSeq f) (Ne.symm hb)).trans hu) ⟨_,q⟩ ?_;exact⟨hz,its',_,hv,q⟩
theorem Inv.RZ{its:Uh Value}{t':Nat}(I:Inv X pins σ H s)(hv:Vals ys its)(hz:ys.length<=sizeLine):
  Inv X pins σ (upd H s.heap.objs.size (.lst ys)) {s with heap:=s.heap.push {cls:=.type "list",data:=.seq its.toArray},toks:=t' }:=
 I.laid (λ_ _ q=>Heap.get?_push_of_some _ q) (le_refl _) ⟨hz,its,0,hv,Heap.get?_push_size _ rfl⟩
theorem Inv.fresh(I:Inv X pins σ H s):H s.heap.objs.size=none:=I.hok.fresh (le_refl _)
theorem Inv.K5(I:Inv X pins σ H s)(hH:H l=some (.lst xs)):xs.length<=sizeLine/\∃(its:Uh Value) (n:Nat),Vals xs its/\xs.length=its.length/\s.heap.get? l=some {cls:=.type "list",data:=.seq its.toArray n}:=by
 obtain⟨z,its,n,r,e⟩:=I.hok l _ hH;exact⟨z,its,n,r,r.length,e⟩
end
section
variable{X:Cx}
def fS:V->Uh V->Hp->VK->Prop:=λx vs H Q=>∃l xs y,x=.ref l/\vs=[y]/\H l=some (.lst xs)/\xs.length<sizeLine/\Q .non (upd H l (.lst (xs++[y])))
theorem fq:Tz X "list.append" fS:=by
 intro pins s σ H x vs v us Q I rx rv h;obtain⟨l,xs,y,rfl,rfl,hH,hz,q⟩:=h;cases rx;obtain⟨u,rfl,ru⟩:=rv.one;obtain⟨z,its,n,r,hl,e⟩:=I.K5 hH;refine call_meets F.slot_list_append ⟨_,e,rfl⟩ F.entry_list_append (F.args_list_append_2 _ _) (PySem.list_append l its.toArray n u (by rw[size_toArray];omega)) ⟨e,?_⟩;refine⟨.non,_,I.RY (its':=its++[u]) hH e (by simp) (r.append (.cons ru .nil)) ?_,rfl,q⟩;rw[length_append,List.length_singleton];omega
def wc:R2:=λx y H Q=>∃l b xs zs,x=.ref l/\y=.ref b/\H l=some (.lst xs)/\H b=some (.lst zs)/\xs.length+zs.length<=sizeLine/\∀p,H p=none->Q (.ref p) (upd H p (.lst (xs++zs)))
theorem o8:mF X (binaryOp .Add) wc:=by
 intro pins s σ H x y v u Q I rx ry h;obtain⟨l,b,xs,zs,rfl,rfl,hH,hB,hz,q⟩:=h;cases rx;cases ry;obtain⟨z,its,n,r,hl,e⟩:=I.K5 hH;obtain⟨z2,its2,n2,r2,hl2,e2⟩:=I.K5 hB;refine PySem.P.add_list e e2 ?_ (by rw[size_toArray,size_toArray];omega);have ea:its.toArray++its2.toArray=(its++its2).toArray:=by simp
 rw[ea];exact⟨.ref _,_,I.RZ (t':=s.toks) (r.append r2) (by rw[length_append];omega),rfl,q _ I.fresh⟩
end
end L2
namespace Att
open PySem PySem.W PySem.Calls PyProof.Rows
theorem qO{P:Params}{h:Heap}:∀(ns:Uh Int) (vs:Uh Value),WellAll P h vs (ns.map WData.int)->IntsAre vs ns:=by
 intro ns
 induction ns with
 |nil=>
  intro vs w;rw[map_nil] at w;cases w;exact .nil
 |cons n ns ih=>
  intro vs w;rw[map_cons] at w;cases w with
  |cons a b=>
   cases a;exact .cons _ _ (ih _ b)
theorem EK{l:OpenLaw}{n:Nat}(hn:l.most=some n){P:Params}{h:Heap}{args:Uh WData}{vals:Uh Value}
  (hpre:l.row.toRowW.claim.pre args=true) (hwl:WellAll P h vals args):
  ∃a vs ns,vals=[Value.ref a]/\args=[WData.list (ns.map WData.int)]/\h.get? a=some {cls:=.type "list",data:=.seq vs.toArray}/\IntsAre vs ns/\ns.length<=n:=by
 have hsh:WShape.hasAll [] args [.list .int]=true:=(pre_splitW hpre).1;have hc:l.pre.holds [] {args:=args}=true:=(pre_splitW hpre).2;obtain⟨d,r,rfl,h1,h2⟩:=hasAllW_cons hsh;obtain rfl:=hasAllW_nil h2;obtain⟨xs,rfl,h3⟩:=hasW_list h1;obtain⟨ns,rfl⟩:=items_int h3;have hlen:ns.length<=n:=by
  unfold OpenLaw.pre at hc;have h4:(WTm.not (.lt (.lit (.int (n:Int))) (.len (.arg 0)))).holds [] {args:=[.list (ns.map .int)] }=true:=by
   have h4:=(holds_andW hc).1;rw[hn] at h4;exact h4
  have h5:=condW_of h4 (w_not (w_lt w_lit (w_len_list (w_arg rfl))));rw[length_map] at h5;refine Nat.le_of_not_lt λq=>?_;have q':(n:Int)<((ns.length:Nat):Int):=by omega
  first
   |(rw[decide_eq_true q'] at h5;exact absurd h5 (by decide))
   |(simp at h5;omega)
 cases hwl with
 |cons w1 w2=>
  cases w2;cases w1 with
  |list ho hall=>exact⟨_,_,ns,rfl,rfl,ho,qO ns _ hall,hlen⟩
theorem EL(l:OpenLaw)(args:Uh WData):l.row.toRowW.claim.post args (.bool true) args=true:=
 postW_of (r:=l.row.toRowW) (X:=(true==true))
  (show WShape.has [] (.bool true) .bool=true by first|rfl|decide|simp[WShape.has,WShape.arms,WShape.armsAll])
  (show (WTm.eq .res (.lit (.bool true))).value [] {args:=args,res:=some (.bool true),after:=args}=some (.bool (true==true)) from w_eq_bool (w_res rfl) w_lit) rfl
theorem yG{l:OpenLaw}{n:Nat}{q:Program}{loose:Uh Str}{XP:(Str->Option Value)->Heap->Prop}{YP:World->Heap->Prop}{d:DefRec}
  (hn:l.most=some n) (hdf:d.params.defaults=[])
  (call:∀(w:World) (s₀ s₁:Shared) (mg mb:Str->Option Value) (fa:Addr) (o:Obj) (pm cd doc:Value) (a:Addr) (vs:Uh Value) (ns:Uh Int),
   Ground q loose [] XP w s₀ mg mb s₁.heap->YP w s₁.heap->
   s₁.heap.get? fa=some o->o.data=.func (docDef d.name d.params d.body d.scope pm cd doc)->s₁.heap.CodeRec cd d.name->mg d.name=some (.ref fa)->
   s₁.heap.get? a=some {cls:=.type "list",data:=.seq vs.toArray}->IntsAre vs ns->ns.length<=n->s₁.gens = #[]->
   codeAny (model l.prog w) callerA (.call (.ref fa) ⟨[.ref a],[]⟩) (λr s'=>r=.ok (.ret (.bool true))/\OldK s₁.heap s'.heap/\s'.os=s₁.os/\AllBare s'.gens) s₁):
  WalkO q loose XP YP l.row.toRowW d [] (λf vs=>PySem.call f vs):=by
 intro w s₀ s₁ mg mb G Y fa o pm cd doc dV kV ho hd hcd hD hmg hg args vals as hpre hlay hrd hwl hlo;obtain rfl:dV=.none:=Dflts.none hD hdf;obtain rfl:kV=.none:=Dflts.noKw hD;obtain⟨a,vs,ns,rfl,rfl,hobj,hints,hlen⟩:=EK hn hpre hwl;refine enter_call (codeAny_mono (call w s₀ s₁ mg mb fa o pm cd doc a vs ns G Y ho (fd_plain hd) hcd hmg hobj hints hlen hg) λr s' hq=>?_);obtain⟨rfl,h2,h3,h4⟩:=hq;exact⟨.inl ⟨.bool true,.bool true,[],rfl,λ_=>rfl,.bool true,EL l _,λ_=>⟨List.Pairwise.nil,λ_ hm=>(nomatch hm)⟩⟩,h2,h3,h4⟩
end Att
namespace L2
open PySem PySem.Spec PyProof.Rows
theorem ve:∀{vs:Uh Value} {ns:Uh Int},IntsAre vs ns->Vals (ns.map V.int) vs
 |_,_,.nil=>.nil
 |_,_,.cons n t h=>.cons ⟨t,rfl⟩ (ve h)
def Nq(H:Hp):Prop:=∀b,H b=none\/∃o xs,H b=some (.frz o (.lst xs))
theorem GN{P:Program}{w:World}{K:W.Frag}{mg mb:Str->Option Value}{CX:Ab}{k:Nat}{fa a:Addr}{fd:FuncData}{x:Str}{sp:Sp}{s₁:Shared}{vs:Uh Value}{ns:Uh Int}
  (KX:K.In s₁.heap) (hns:s₁.heap.Ns mainGlobals mg) (hb:s₁.heap.Ns builtinsNs mb) (hbb:∀x:Str,x ≠ "__name__"->mb x=bootBuiltins x) (hlim:s₁.heap.NoLimit) (hg:s₁.gens = #[])
  (ha:s₁.heap.get? a=some {cls:=.type "list",data:=.seq vs.toArray}) (hi:IntsAre vs ns) (hl:ns.length<=sizeLine) (hr:cT k callerA)
  (F:∀base:Heap,K.In base->base.Ns mainGlobals mg->jg P w K mg base CX k fa fd [x] sp) (hbind:∀(s:Shared) (u:Value),BindsTo s fd ⟨[u],[]⟩ [(x,u)])
  (hsp:∀H:Hp,Nq H->aX K H a (ns.map V.int)->sp [.ref a] H (λv _=>v=.bl true) λ_ _ _=>False)
  (hCX:∀H e s',CX [] H s₁ (λ_ _ _=>False) e s'->False):
  codeAny (model P w) callerA (.call (.ref fa) ⟨[.ref a],[]⟩) (λr s'=>r=.ok (.ret (.bool true))/\OldK s₁.heap s'.heap/\s'.os=s₁.os/\AllBare s'.gens) s₁:=by
 have rv:=ve hi;have R3:=hi.length
 -- from an abstract heap in which nothing but the script may be tracked
 have core:∀H:Hp,Nq H->aX K H a (ns.map V.int)->lE P w H s₁.heap->(∀b,H b≠none->b=a)->(H a≠none->K.lookup a=none)->
   codeAny (model P w) callerA (.call (.ref fa) ⟨[.ref a],[]⟩) (λr s'=>r=.ok (.ret (.bool true))/\OldK s₁.heap s'.heap/\s'.os=s₁.os/\AllBare s'.gens) s₁:=by
  intro H hO hS hok hA hK;have CM:∀{b:Addr} {o:Obj},s₁.heap.get? b=some o->H b=none->(vQ s₁.heap H).get? b=some o:=λe n=>Gk e n;have noA:∀{b:Addr} {o:Obj} {es:Array DictEntry} {ep:Nat},s₁.heap.get? b=some o->o.data=.dict es ep->H b=none:=λ{b o es ep} e d=>by
   cases q:H b with
   |none=>rfl
   |some u=>
    have e':b=a:=hA b (by rw[q];simp);subst e';rw[ha] at e;cases e;have d':Data.seq vs.toArray _=Data.dict es ep:=d;cases d'
  have nsK:∀{b:Addr} {m:Str->Option Value},s₁.heap.Ns b m->(vQ s₁.heap H).Ns b m:=λ{b m} ⟨o,es,ep,e,d,r⟩=>⟨o,es,ep,CM e (noA e d),d,r⟩;have hKb:K.In (vQ s₁.heap H):=λb o e=>CM (KX b o e) (by
   cases q:H b with
   |none=>rfl
   |some u=>
    have e':b=a:=hA b (by rw[q];simp);subst e';rw[hK (by rw[q];simp)] at e;cases e)
  have hM:Mod K mg (vQ s₁.heap H):=⟨hKb,nsK hns,⟨mb,nsK hb,hbb⟩,let ⟨mc,h1,h2⟩:=hlim;⟨mc,nsK h1,h2⟩⟩;have e0:Aq P w K mg (vQ s₁.heap H) callerA [] s₁ H:=⟨rfl,hM,λb o e=>Kr e,Nat.le_of_eq (Ew _ _),trivial,λb hb=>absurd (show b∈([]:Uh Addr) from hb) (by simp),hok,.of_eq hg⟩;refine codeAny_mono ((F _ hKb (nsK hns)).run callerA [] s₁ H ⟨[.ref a],[]⟩ [.ref a] [.ref a] _ _ hr e0 (hbind s₁ (.ref a)) (.cons rfl .nil) (hsp H hO hS)) λr s' h=>?_;cases r with
  |error e=>exact(hCX H e s' h).elim
  |ok fl=>
   cases fl with
   |next=>exact False.elim h
   |brk=>exact False.elim h
   |cont=>exact False.elim h
   |ret u=>
    obtain⟨v,H',os,bare,un,R4,r',q⟩:=h;have q':v=.bl true:=q;subst q';obtain rfl:u=Value.bool true:=r';refine⟨rfl,OldK.of_keep λb o e=>?_,os,bare⟩;cases q:H b with
    |none=>exact un.keep b o e q (by intro z;exact absurd (show b∈([]:Uh Addr) from z) (by simp)) (by simp)
    |some u=>
     rcases hO b with z|⟨ob,xs,z⟩
     ·rw[q] at z;cases z
     ·have z2:=un.frzs b ob _ z;obtain⟨e1,_⟩:=hok b _ z;obtain⟨e2,_⟩:=R4 b _ z2;rw[e] at e1;cases e1;exact e2
 cases hk:K.lookup a with
 |some o=>
  -- the script is one of the module's own objects
  have e:=KX a o hk;rw[ha] at e;cases e;refine core (λ_=>none) (λ_=>.inl rfl) (.inr ⟨_,vs.toArray,_,hk,rfl,rfl,rfl,by rw[size_toArray,R3];exact hl,by simpa using rv⟩) (λb u z=>by have z':(none:Option HO)=some u:=z;cases z') (λb z=>absurd rfl z) λz=>absurd rfl z
 |none=>
  refine core (λb=>if b=a then some (.frz {cls:=.type "list",data:=.seq vs.toArray} (.lst (ns.map V.int))) else none) (λb=>?_) (.inl (.inr ⟨{cls:=.type "list",data:=.seq vs.toArray},if_pos rfl⟩)) (λb u z=>?_) (λb z=>?_) λ_=>hk
  ·by_cases hb:b=a
   ·exact .inr ⟨_,_,if_pos hb⟩
   ·exact .inl (if_neg hb)
  ·by_cases hb:b=a
   ·have z':=(if_pos hb).symm.trans z;cases z';subst hb;exact⟨ha,by rw[length_map];exact hl,vs,_,rv,ha⟩
   ·have z':=(if_neg hb).symm.trans z;cases z'
  ·by_cases hb:b=a
   ·exact hb
   ·exact absurd (if_neg hb) z
abbrev RM{K:W.Frag}{h:Heap}(_:K.In h):W.Frag:=K
theorem CN{l:W.OpenLaw}{n k:Nat}{q:Program}{loose:Uh Str}{XP:(Str->Option Value)->Heap->Prop}{YP:World->Heap->Prop}{d:DefRec}{K:Params->W.Frag}{CX:World->Ab}{sp:World->Sp}{x:Str}
  (hn:l.most=some n) (hn2:n<=sizeLine) (hdf:d.params.defaults=[]) (hr:cT k callerA)
  (hY:∀(w:World) (h:Heap),YP w h->(K w.params).In h)
  (F:∀(w:World) (mg:Str->Option Value) (fa:Addr) (h:Heap),(K w.params).In h->h.Ns mainGlobals mg->mg d.name=some (.ref fa)->
   ∃fd:FuncData,(∀(s:Shared) (u:Value),BindsTo s fd ⟨[u],[]⟩ [(x,u)])/\
    ∀base:Heap,(K w.params).In base->base.Ns mainGlobals mg->jg l.prog w (K w.params) mg base (CX w) k fa fd [x] (sp w))
  (hsp:∀(w:World) (H:Hp) (a:Addr) (ns:Uh Int),ns.length<=n->Nq H->aX (K w.params) H a (ns.map V.int)->sp w [.ref a] H (λv _=>v=.bl true) λ_ _ _=>False)
  (hCX:∀(w:World) (H:Hp) (s:Shared) (e:Value) (s':Shared),CX w [] H s (λ_ _ _=>False) e s'->False):
  W.WalkO q loose XP YP l.row.toRowW d [] (λf vs=>PySem.call f vs):=by
 refine Att.yG hn hdf λw s₀ s₁ mg mb fa o pm cd doc a vs ns G Y ho hd hcd hmg hobj hints hlen hg=>?_;have KX:=hY w _ Y;obtain⟨fd,hb,hF⟩:=F w mg fa _ KX G.T.g hmg;exact GN KX G.T.g G.T.b G.T.builtins G.T.nolimit hg hobj hints (Nat.le_trans hlen hn2) hr hF hb (λH hO hS=>hsp w H a ns hlen hO hS) λH e s'=>hCX w H s₁ e s'
end L2
namespace L2
open PySem PySem.Spec PyProof.Rows
def inClass(s:Stmt)(j:Nat):Stmt:=match s with
 |.ClassDef _ _ _ body _ _ _ _ _ _ _=>body.getD j (.Pass ⟨0,0,0,0⟩)
 |_=>.Pass ⟨0,0,0,0⟩
def iB(s:Stmt):Arguments:=match s with
 |.FunctionDef _ a _ _ _ _ _ _ _ _=>a
 |_=>{posonlyargs:=[],args:=[],vararg:=none,kwonlyargs:=[],kw_defaults:=[],kwarg:=none,defaults:=[] }
def fB(s:Stmt):Uh Stmt:=match s with
 |.FunctionDef _ _ b _ _ _ _ _ _ _=>b
 |_=>[]
def aB(s:Stmt):Scope:=match s with
 |.FunctionDef _ _ _ _ _ _ sc _ _ _=>sc
 |_=>{kind:=.function,names:=[],isGenerator:=false,isCoroutine:=false}
abbrev gH:Ab:=λ_ _ _ _ _ _=>False
abbrev E0:XK:=λ_ _ _=>False
theorem aL{X:Cx}:Passes gH X E0:=λ_ _ _ _ _ _ _ h=>h.elim
structure CO(K:W.Frag)(x qual:Str)(st:Stmt)(f:Addr)(fd:FuncData):Prop where
 ex:∃(oc:Value) (od:Option Addr) (kV doc pm:Value) (an:Option Addr) (cdv ct:Value) (osl:Array (Option Value)),
  fd=W.fnOf x qual (iB st) (fB st) (aB st) .none kV doc pm an cdv ct/\K.lookup f=some ⟨oc,od,.func fd,osl⟩/\W.codeIn K cdv qual=true
 kp:W.keepIn K (.ref f)=true
section
variable{P:Program}{w:World}{K:W.Frag}{mg:Str->Option Value}{base:Heap}
theorem CO.ok{x qual:Str}{st:Stmt}{f:Addr}{fd:FuncData}{N ps:Uh Str}{k:Nat}{sp:Sp}(F:CO K x qual st f fd)(S:aM N ps (aB st))(len:∀vs H Q E,sp vs H Q E->vs.length=ps.length)
  (hbody:∀(cdv:Value) (A:Around) (outer:Uh Env) (s:Shared) (H:Hp) (vs:Uh V) (Q:VK) (E:XK),cT k (A.deeper (envOfC qual (aB st) s.heap.objs.size f cdv))->sp vs H Q E->
   ∃t,Cy (mG gH P w K mg base N qual (aB st) f cdv A outer s H E).Kv (fB st) t/\t {nx:=λ_ H'=>Q .non H',rt:=Q} (start N vs) H):jg P w K mg base gH (k+1) f fd ps sp:=by
 obtain⟨oc,od,kV,doc,pm,an,cdv,ct,osl,rfl,lk,hcd⟩:=F.ex;refine Ms lk hcd S len λA outer s H vs Q E hr hsp=>?_;obtain⟨t,h,q⟩:=hbody cdv A outer s H vs Q E hr hsp;exact⟨t,h.Kv,q⟩
theorem CO.binds{x qual:Str}{st:Stmt}{f:Addr}{fd:FuncData}{ps:Uh Str}(F:CO K x qual st f fd)
  (h:∀(kV doc pm:Value) (an:Option Addr) (cdv ct:Value) (us:Uh Value),us.length=ps.length->bindArgs (W.fnOf x qual (iB st) (fB st) (aB st) .none kV doc pm an cdv ct) ⟨us,[]⟩=pure (ps.zip us)):Binds K fd ps []:=by
 obtain⟨oc,od,kV,doc,pm,an,cdv,ct,osl,rfl,lk,hcd⟩:=F.ex;exact .all (h kV doc pm an cdv ct)
theorem Nu{x qual:Str}{st:Stmt}{f:Addr}{oc:Value}{od an:Option Addr}{osl:Array (Option Value)}{kV doc pm cdv ct:Value}(l:K.lookup f=some ⟨oc,od,.func (W.fnOf x qual (iB st) (fB st) (aB st) .none kV doc pm an cdv ct),osl⟩)
  (c:W.codeIn K cdv qual=true) (k:W.keepIn K (.ref f)=true):CO K x qual st f (W.fnOf x qual (iB st) (fB st) (aB st) .none kV doc pm an cdv ct):=⟨⟨oc,od,kV,doc,pm,an,cdv,ct,osl,rfl,l,c⟩,k⟩
end
def aF(H H':Hp):Prop:=∀b o,H b=some o->H' b=some o
theorem aF.refl(H:Hp):aF H H:=λ_ _ h=>h
theorem aF.trans{H H1 H2:Hp}(a:aF H H1)(b:aF H1 H2):aF H H2:=λc o h=>b c o (a c o h)
theorem aF.free{H H':Hp}(e:aF H H'){l:Addr}(h:H' l=Option.none):H l=Option.none:=by
 cases q:H l with
 |none=>rfl
 |some o=>
  rw[e l o q] at h;cases h
theorem aF.seq{K:W.Frag}{H H':Hp}{a:Addr}{xs:Uh V}(e:aF H H')(h:aX K H a xs):aX K H' a xs:=by
 rcases h with(h|⟨o,h⟩)|h
 ·exact .inl (.inl (e _ _ h))
 ·exact .inl (.inr ⟨o,e _ _ h⟩)
 ·exact .inr h
end L2
namespace DictK
open PySem PyProof.Rows
def Kd{α:Type}:Sem α->Prop
 |.pure _=>True
 |.raise _=>True
 |.unsupported _=>True
 |.finish _=>True
 |.rule _ k=>Kd (k ())
 |.at _ k=>Kd (k ())
 |.load _ _ k=>∀o,Kd (k o)
 |.update _ _ f k=>(∀o,(f o).dict=o.dict/\(o.isFreed=false->(f o).isFreed=false))/\Kd (k ())
 |.alloc _ k=>∀a,Kd (k a)
 |.loadIfAlive _ k=>∀o,Kd (k o)
 |.point _ k=>Kd (k ())
 |.register _ _=>True
 |.fresh k=>∀t,Kd (k t)
 |.ask k=>∀x,Kd (k x)
 |.choose _ _ k=>∀n,Kd (k n)
 |.os _ _ k=>∀r,Kd (k r)
 |.call ..=>False
 |.handled _ k=>∀v,Kd (k v)
 |.newGen _ k=>∀g,Kd (k g)
 |.genState _ k=>∀x,Kd (k x)
 |.resume ..=>False
 |.yield ..=>True
 |.stack k=>∀l,Kd (k l)
 |.fork ..=>True
 |.thread k=>∀n,Kd (k n)
 |.await ..=>True
def Kept(h h':Heap):Prop:=∀b o,h.get? b=some o->∃o',h'.get? b=some o'/\o'.dict=o.dict
theorem Kept.refl(h:Heap):Kept h h:=λb o e=>⟨o,e,rfl⟩
theorem Kept.push{h₀ h:Heap}(x:Kept h₀ h)(u:Obj):Kept h₀ (h.push u):=λb o e=>by
 obtain⟨o1,e1,d1⟩:=x b o e;exact⟨o1,Heap.get?_push_of_some u e1,d1⟩
theorem Kept.update{h₀ h:Heap}(x:Kept h₀ h){a:Addr}{f:Obj->Obj}(hf:∀o,(f o).dict=o.dict/\(o.isFreed=false->(f o).isFreed=false)):Kept h₀ (h.update a f):=λb o e=>by
 obtain⟨o1,e1,d1⟩:=x b o e
 by_cases z:a=b
 ·subst z;exact⟨f o1,Heap.get?_update_self f e1 ((hf o1).2 (Heap.get?_some_iff.mp e1).2),((hf o1).1).trans d1⟩
 ·exact⟨o1,(Heap.get?_update_other h f z).trans e1,d1⟩
theorem Pu{α:Type}(M:Model)(Γ:Ctx)(h₀:Heap)(t:Sem α){Q:α->Pos->Shared->Prop}{E:Value->Pos->Shared->Prop}(p:Pos)(s:Shared)(hk:Kd t)(h0:Kept h₀ s.heap)(h:Sem.wp M Γ t Q E p s):
  Sem.wp M Γ t (λa p' s'=>Q a p' s'/\Kept h₀ s'.heap) E p s:=by
 revert hk h0 h
 induction t generalizing p s with
 |pure x=>exact λ_ h0 h=>⟨h,h0⟩
 |raise v=>exact λ_ _ h=>h
 |unsupported|finish|yield|fork|await|register=>exact λ_ _ h=>h
 |rule _ k ih | «at» _ k ih|point _ k ih=>exact λhk h0 h=>ih _ _ _ hk h0 h
 |loadIfAlive _ k ih|fresh k ih|ask k ih|os _ _ k ih|handled _ k ih|newGen _ k ih|stack k ih|thread k ih=>exact λhk h0 h=>ih _ _ _ (hk _) h0 h
 |alloc o k ih=>exact λhk h0 h=>ih _ _ _ (hk _) (h0.push o) h
 |load a _ k ih|genState a k ih=>exact λhk h0 ⟨o,ho,h⟩=>⟨o,ho,ih _ _ _ (hk _) h0 h⟩
 |update a _ f k ih=>exact λhk h0 ⟨ha,h⟩=>⟨ha,ih _ _ _ hk.2 (h0.update hk.1) h⟩
 |choose _ _ k ih=>exact λhk h0 ⟨ha,h⟩=>⟨ha,ih _ _ _ (hk _) h0 h⟩
 |call c h g l k ih=>exact λhk=>hk.elim
 |resume g r l k ih=>exact λhk=>hk.elim
theorem GO{α:Type}{M:Model}{A:Around}{t:Sem α}{Q:α->Shared->Prop}{E:Value->Shared->Prop}{s:Shared}(hk:Kd t)(h:wpAny M A t Q E s):wpAny M A t (λa s'=>Q a s'/\Kept s.heap s'.heap) E s:=
 λΓ p hΓ=>Pu M Γ s.heap t p s hk (Kept.refl _) (h Γ p hΓ)
theorem bP{α β:Type}{f:α->Sem β}(hf:∀a,Kd (f a)):∀{m:Sem α},Kd m->Kd (m>>=f):=by
 intro m;show Kd m->Kd (m.bind f)
 induction m with
 |pure x=>exact λ_=>hf x
 |raise v=>exact λ_=>trivial
 |unsupported|finish|yield|fork|await|register=>exact λ_=>trivial
 |rule _ k ih | «at» _ k ih|point _ k ih=>exact λh=>ih _ h
 |loadIfAlive _ k ih|fresh k ih|ask k ih|os _ _ k ih|handled _ k ih|newGen _ k ih|stack k ih|thread k ih|alloc _ k ih|load a _ k ih|genState a k ih|choose _ _ k ih=>exact λh x=>ih x (h x)
 |update a _ f k ih=>exact λh=>⟨h.1,ih _ h.2⟩
 |call c h g l k ih=>exact λh=>h.elim
 |resume g r l k ih=>exact λh=>h.elim
theorem jh{α:Type}(a:α):Kd (pure a:Sem α):=trivial
theorem Nv{α:Type}(w:String):Kd (unsupported w:Sem α):=trivial
theorem we(a:Addr):Kd (load a):=λ_=>trivial
theorem yH(v:Value):Kd (fieldsOf v):=by
 unfold fieldsOf;split
 ·refine bP (λo=>?_) (we _);split<;>trivial
 ·trivial
theorem m6(v:Value)(i:Nat):Kd (field v i):=by
 unfold field;refine bP (λo=>?_) (yH v);split<;>trivial
theorem GP(f:Array Value->Array Value)(o:Obj):(Obj.mapFields f o).dict=o.dict/\(o.isFreed=false->(Obj.mapFields f o).isFreed=false):=by
 obtain⟨c,d,dt,sl⟩:=o;cases dt<;>exact⟨rfl,λh=>h⟩
theorem kK(v:Value)(i:Nat)(x:Value):Kd (setField v i x):=by
 unfold setField;split
 ·unfold updateField;refine bP (λo=>?_) (we _);split
  ·split
   ·exact⟨GP _,trivial⟩
   ·trivial
  ·trivial
 ·trivial
theorem sG:Kd stack:=λ_=>trivial
theorem wg(e:Value)(fr:Option Addr):Kd (setFlight e fr):=by
 unfold setFlight;refine bP (λtb=>?_) (m6 e 1);split
 ·exact kK _ _ _
 ·trivial
theorem EM(env:Env)(outer:Uh Env):Kd (behindIsImport env outer):=by
 unfold behindIsImport;split
 ·trivial
 ·split
  ·trivial
  ·exact bP (λ_=>jh _) (m6 _ _)
theorem yJ(env:Env)(i:Bool)(outer:Uh Env):Kd (keptBack env i outer):=by
 cases outer with
 |nil=>
  unfold keptBack;dsimp only
  by_cases h:(env.scope.isGenerator||env.scope.isCoroutine)=true
  ·rw[if_pos h];exact jh _
  ·rw[if_neg h];refine bP (λ_=>jh _) ?_;unfold underTheClaimsCaller;exact bP (λ_=>jh _) sG
 |cons c r=>exact trivial
theorem Au{o:Obj}{sl:Array (Option Value)}(h:o.isFreed=false):({o with slots:=sl}:Obj).isFreed=false:=by
 obtain⟨c,d,dt,s0⟩:=o;cases dt<;>exact h
theorem yK:∀l:Uh Env,Kd (readyFrames l)
 |[]=>trivial
 |env::outer=>by
  unfold readyFrames;split
  ·refine bP (λo=>?_) (we _);split
   ·trivial
   ·refine bP (λi=>?_) (EM env outer);refine bP (λb=>?_) (yJ env i outer);refine bP (λ_=>yK outer) ?_;exact⟨λo=>⟨rfl,λh=>Au h⟩,trivial⟩
  ·trivial
theorem Av(env:Env):Kd (PySem.frameOf env):=by
 unfold PySem.frameOf;refine bP (λl=>bP (λf=>?_) ?_) ?_
 ·split<;>trivial
 ·generalize List.dropWhile _ l=m;cases m with
  |nil=>trivial
  |cons e r=>
   unfold frameObject;exact bP (λ_=>jh _) (yK _)
 ·unfold frameEnvs;exact bP (λ_=>jh _) sG
theorem GQ(f:Addr)(b:Bool):Kd (entryPlaceOf f b):=by
 unfold entryPlaceOf;refine bP (λl=>?_) sG;split<;>trivial
theorem yL(a b c d e:Value)(l:Uh Value):Kd (EntryCells.newEntry a b c d e l):=by
 unfold EntryCells.newEntry newFields newObj;dsimp only;have h:∀dt,Kd (newObjAsIs (.type "traceback") dt):=λdt=>by
  unfold newObjAsIs;exact bP (λa=>jh _) λ_=>trivial
 generalize (if l.isEmpty=true then List.replicate 6 Value.none else l)=m
 by_cases z:([a,b,c,d,e]++m).toArray.size>sizeLine+2
 ·rw[if_pos z];exact bP (λ_=>h _) (Nv _)
 ·rw[if_neg z];exact h _
theorem K6(e:Value)(env:Env):Kd (noteFrame e env):=by
 unfold noteFrame;split
 ·refine bP (λhead=>?_) (m6 e 1);have last:∀f,Kd (do setField e 1 (<-EntryCells.newEntry head (<-PySem.frameOf env) .none (rawInt f) .none (<-entryPlaceOf f (head !=.none)))):=λf=>
   bP (λa=>bP (λb=>bP (λc=>kK _ _ _) (yL _ _ _ _ _ _)) (GQ _ _)) (Av env)
  split
  ·refine bP (λx=>?_) (m6 head 3);split
   ·trivial
   ·exact bP (λ_=>last _) (kK _ _ _)
  ·exact last _
 ·trivial
theorem sI(env:Env)(e:Value):Kd (leaving env e):=by
 unfold leaving;exact bP (λ_=>wg e none) (K6 e env)
end DictK
namespace DictK
open PySem PyProof.Rows
end DictK
namespace DictK
open PySem PyProof.Rows Builtin Builtin.ObjectAttr
end DictK
namespace L2
open PySem PySem.Spec PyProof.Rows
theorem m7{prog:Program}{w:World}{A:Around}{R:Result->Shared->Prop}{s:Shared}{elt target iter:Expr}{ifs:Uh Expr}{scope:Scope}{pos:Pos}{it acc:Value}{env:Env}(I:Nat->Shared->Prop)
  (turn:∀n s,I n s->wpAny (model prog w) A (pyNext it) (λr s₁=>match r with
   |none=>R (.ok .next) s₁
   |some v=>wpAny (model prog w) A (letOwnedTupleGo target it v) (λ_ s₁'=>wpAny (model prog w) A (assign target env v) (λ_ s₂=>
     wpAny (model prog w) A (forIn ifs true λc r=>if r=true then do let ok <-isTrue c env (eval c env);pure (ForInStep.yield ok) else pure (ForInStep.yield r)) (λok s₃=>
      if ok=true then wpAny (model prog w) A (eval elt env) (λx s₄=>
       wpAny (model prog w) A (call (.builtin "list.append") [acc,x]) (λ_ s₅=>∃m,m<n/\I m s₅) (λ_ _=>False) s₄) (λ_ _=>False) s₃
      else ∃m,m<n/\I m s₃) (λ_ _=>False) s₂) (λ_ _=>False) s₁') (λ_ _=>False) s₁) (λ_ _=>False) s)
  (n:Nat) (h:I n s):
  codeAny (model prog w) A (.compLoop (.ListComp elt [⟨target,iter,ifs,0⟩] scope pos) 0 it acc env) R s:=by
 refine codeAny_loop rfl I (λn s hI=>?_) n h;show wpAny _ A ((compTurn (.ListComp elt [⟨target,iter,ifs,0⟩] scope pos) 0 it acc env).onRaise (λx=>do noteFrame x env;theTreesLotGoes x)) _ _ s;refine wpAny_noted ?_;rw[compTurn_list];refine wpAny_bind (wpAny_standAt (wpAny_bind (wpAny_mono (turn n s hI) (λr s₁ h₁=>?_) λ_ _ h'=>h'.elim)));cases r with
 |none=>exact wpAny_pure h₁
 |some v=>
  refine wpAny_bind (wpAny_mono h₁ (λ_ s₁' h₁'=>?_) λ_ _ h'=>h'.elim);refine wpAny_bind (wpAny_mono h₁' (λ_ s₂ h₂=>wpAny_bind (wpAny_mono h₂ (λok s₃ h₃=>?_) λ_ _ h'=>h'.elim)) λ_ _ h'=>h'.elim);cases ok with
  |false=>exact wpAny_pure ⟨rfl,h₃⟩
  |true=>
   exact wpAny_bind (wpAny_bind (wpAny_mono h₃ (λx s₄ h₄=>wpAny_bind (wpAny_mono h₄ (λ_ s₅ h₅=>wpAny_pure (wpAny_pure ⟨rfl,h₅⟩)) λ_ _ h'=>h'.elim)) λ_ _ h'=>h'.elim))
def GR(X:Cx)(ifs:Uh Expr)(t:TT):Prop:=
 ∀(pins:Uh (Addr×Obj)) (s:Shared) (σ:St) (H:Hp) (Q:Bool->Hp->Prop),Inv X pins σ H s->t σ H Q->
  wpAny (model X.prog X.w) X.A (forIn ifs true λc r=>if r=true then do let ok <-isTrue c X.env (eval c X.env);pure (ForInStep.yield ok) else pure (ForInStep.yield r)) (TP X pins σ Q) X.xe s
def ku:TT:=λ_ H Q=>Q true H
theorem K7{X:Cx}:GR X [] ku:=λ_ _ _ H _ I h=>wpAny_tests_nil ⟨H,I,h⟩
theorem K8{X:Cx}{c:Expr}{t:TT}(h:PT X c t):GR X [c] t:=λpins s σ H Q I hw=>wpAny_tests_one (h pins s σ H Q I hw)
theorem mH{env:Env}:∀(names:Uh (Str×NameKind)) (acc:Uh (Str×Addr)),(∀y∈names,y.2=.free->∃c,env.cells.lookup y.1=some c)->(∀y∈acc,env.cells.lookup y.1=some y.2)->
  ∃cl:Uh (Str×Addr),(forIn (m:=Sem) names acc λ(x:Str×NameKind) cs=>if (x.2==NameKind.free)=true then(do let a <-cellOf env x.1;pure (ForInStep.yield ((x.1,a)::cs))) else pure (ForInStep.yield cs))=pure cl/\
   (∀y∈cl,env.cells.lookup y.1=some y.2)/\(∀y∈acc,y∈cl)/\∀y∈names,y.2=.free->∃c,(y.1,c)∈cl
 |[],acc,_,ha=>⟨acc,rfl,ha,λ_ h=>h,λ_ h=>nomatch h⟩
 |(n,k)::r,acc,hf,ha=>by
  by_cases hk:k=.free
  ·subst hk;obtain⟨c,hc⟩:=hf (n,.free) mem_cons_self rfl;obtain⟨cl,e,h1,h2,h3⟩:=mH r ((n,c)::acc) (λy hy=>hf y (mem_cons_of_mem _ hy)) (λy hy=>by
    rcases mem_cons.mp hy with rfl|hy
    ·exact hc
    ·exact ha y hy)
   refine⟨cl,?_,h1,λy hy=>h2 y (mem_cons_of_mem _ hy),λy hy hk=>?_⟩
   ·rw[List.forIn_cons];have e1:cellOf env n=pure c:=by unfold cellOf;rw[hc]
    simp only[beq_self_eq_true,if_true,e1];exact e
   ·rcases mem_cons.mp hy with rfl|hy
    ·exact⟨c,h2 _ mem_cons_self⟩
    ·exact h3 y hy hk
  ·have hb:(k==NameKind.free)=false:=by simpa using hk
   obtain⟨cl,e,h1,h2,h3⟩:=mH r acc (λy hy=>hf y (mem_cons_of_mem _ hy)) ha;refine⟨cl,?_,h1,h2,λy hy hk'=>?_⟩
   ·rw[List.forIn_cons];simp only[hb,false_eq_true,if_false];exact e
   ·rcases mem_cons.mp hy with rfl|hy
    ·exact absurd hk' hk
    ·exact h3 y hy hk'
theorem fT{env:Env}{scope:Scope}(hf:∀y∈scope.names,y.2=.free->∃c,env.cells.lookup y.1=some c):
  ∃cl:Uh (Str×Addr),closureFor scope env=pure cl/\(∀y∈cl,env.cells.lookup y.1=some y.2)/\∀y∈scope.names,y.2=.free->∃c,(y.1,c)∈cl:=by
 obtain⟨cl,e,h1,_,h3⟩:=mH scope.names [] hf (λ_ h=>nomatch h);refine⟨cl,?_,h1,h3⟩;unfold closureFor;simp only[bind_pure];exact e
abbrev cy(X:Cx)(scope:Scope)(cl:Uh (Str×Addr))(C:Addr)(N:Uh Str)(s₀:Shared)(H₀:Hp)(ex:Uh Addr):Cx where
 prog:=X.prog
 w:=X.w
 K:=X.K
 mg:=X.mg
 base:=X.base
 A:=X.A
 N:=N
 s₀:=s₀
 H₀:=H₀
 env:=compEnvC scope cl C X.env
 outer:=X.stack
 stack:=X.stack
 ex:=ex
 fn:=λ_=>false
 calm:=X.calm
 pn:=[]
 xe:=λ_ _=>False
theorem lookup_mem{α β:Type}[BEq α][LawfulBEq α]{l:Uh (α×β)}{x:α}{y:β}(h:l.lookup x=some y):(x,y)∈l:=by
 induction l with
 |nil=>cases h
 |cons p r ih=>
  obtain⟨a,b⟩:=p;rw[lookup_cons] at h;cases e:(x==a) with
  |true=>rw[e] at h;cases h;rw[eq_of_beq e];exact mem_cons_self
  |false=>rw[e] at h;exact mem_cons_of_mem _ (ih h)
theorem mem_lookup{α β:Type}[BEq α][LawfulBEq α]{l:Uh (α×β)}{x:α}{y:β}(h:(x,y)∈l):∃z,l.lookup x=some z:=by
 induction l with
 |nil=>cases h
 |cons p r ih=>
  obtain⟨a,b⟩:=p;rw[lookup_cons];cases e:(x==a) with
  |true=>exact⟨_,rfl⟩
  |false=>
   rcases mem_cons.mp h with q|q
   ·cases q;simp at e
   ·exact ih q
theorem iC{scope:Scope}{env:Env}{y:Str}{k:NameKind}(h:(y,k)∈(relabel scope env).names):(y,k)∈scope.names\/(k=.cell/\(y,NameKind.free)∈scope.names):=by
 unfold relabel at h;obtain⟨⟨n,k'⟩,hm,e⟩:=mem_map.mp h;dsimp only at e;split at e
 ·rename_i hc
  cases e;have:k'=.free:=by
   have:=hc;simp only[and_eq_true,beq_iff_eq] at this;exact this.1.1
  subst this;exact .inr ⟨rfl,hm⟩
 ·cases e;exact .inl hm
theorem eN{env:Env}:∀{names:Uh (Str×NameKind)} {x:Str},names.lookup x=some .free->
  (names.map λ(n,k)=>if (k==NameKind.free&&env.scope.kind ==.function&&env.kindOf n==some .cell) then(n,NameKind.cell) else(n,k)).lookup x=some .cell\/
  (names.map λ(n,k)=>if (k==NameKind.free&&env.scope.kind ==.function&&env.kindOf n==some .cell) then(n,NameKind.cell) else(n,k)).lookup x=some .free
 |[],_,h=>by simp at h
 |(n,k)::r,x,h=>by
  have ih:=@eN env r x;show List.lookup x ((if (k==NameKind.free&&env.scope.kind ==.function&&env.kindOf n==some .cell)=true then(n,NameKind.cell) else(n,k))::_)=_\/List.lookup x ((if (k==NameKind.free&&env.scope.kind ==.function&&env.kindOf n==some .cell)=true then(n,NameKind.cell) else(n,k))::_)=_;cases hx:x==n with
  |true=>
   simp only[lookup_cons,hx] at h;cases h
   by_cases hc:(NameKind.free==NameKind.free&&env.scope.kind ==.function&&env.kindOf n==some .cell)=true
   ·rw[if_pos hc];simp[lookup_cons,hx]
   ·rw[if_neg hc];simp[lookup_cons,hx]
  |false=>
   simp only[lookup_cons,hx] at h
   by_cases hc:(k==NameKind.free&&env.scope.kind ==.function&&env.kindOf n==some .cell)=true
   ·rw[if_pos hc];simp only[lookup_cons,hx];exact ih h
   ·rw[if_neg hc];simp only[lookup_cons,hx];exact ih h
def aY(fs:Uc)(σ:St):St:=fs.map λj=>(σ[j]?).join
def eG(wi:TI)(fs:Uc)(tt:TT)(te:TE):TE:=λσ H Q=>wi σ H λJ H1=>∃W:Nat->Nat->Uh V->Hp->Prop,(∃m,W 0 m [] H1)/\∀i m ys H,W i m ys H->ys.length<=sizeLine/\
 ((J.stop i H/\∀p,H p=none->Q (.ref p) (upd H p (.lst ys)))\/
  (J.go i H/\ys.length<sizeLine/\∀x H',J.yld i H x H'->tt (some x::aY fs σ) H' λb H2=>if b=true then te (some x::aY fs σ) H2 λy H3=>∃m',m'<m/\W (i+1) m' (ys++[y]) H3 else ∃m',m'<m/\W (i+1) m' ys H2))
section
variable{X:Cx}
theorem sJ{elt iter:Expr}{x:Str}{px pos:Pos}{ifs:Uh Expr}{scope:Scope}{fs:Uh (Str×Nat)}{tt:TT}{te:TE}
  {pins:Uh (Addr×Obj)} {σ:St} {H2:Hp} {s2:Shared} {it:Addr} {fp:Uh Addr} {tn:Nat->Heap->Prop} {J:It} {cl:Uh (Str×Addr)} {E:Value->Shared->Prop}
  {P:Value->Addr->Result->Shared->Prop}
  (hc:X.calm=true) (hkind:scope.kind=.function) (hcell:∀y∈scope.names,y.2≠.cell) (hx:scope.names.lookup x=some .local)
  (hnd:(x::fs.map (·.1)).Nodup) (hfs:∀f∈fs,X.N[f.2]?=some f.1/\(X.env.kindOf f.1=some .cell\/X.env.kindOf f.1=some .free)/\scope.names.lookup f.1=some .free)
  (hb:∀(cl:Uh (Str×Addr)) (C:Addr) (s₀:Shared) (H₀:Hp) (ex:Uh Addr),GR (cy X scope cl C (x::fs.map (·.1)) s₀ H₀ ex) ifs tt/\PE (cy X scope cl C (x::fs.map (·.1)) s₀ H₀ ex) elt te)
  (o9:∀y∈cl,X.env.cells.lookup y.1=some y.2) (pq:∀y∈scope.names,y.2=.free->∃c,(y.1,c)∈cl)
  (I2:Inv X pins σ H2 s2) (T:Turn X.prog X.w X.K (.Name x px) J fp it tn) (st2:tn 0 s2.heap) (f2:∀b∈fp,sj X pins H2 b)
  (W:Nat->Nat->Uh V->Hp->Prop) (Qe:Hp->Uh V->Prop) (w0:∃m,W 0 m [] H2)
  (turn:∀i m ys H,W i m ys H->ys.length<=sizeLine/\
   ((J.stop i H/\Qe H ys)\/
    (J.go i H/\ys.length<sizeLine/\∀x H',J.yld i H x H'->tt (some x::aY (fs.map (·.2)) σ) H' λb H2=>if b=true then te (some x::aY (fs.map (·.2)) σ) H2 λy H3=>∃m',m'<m/\W (i+1) m' (ys++[y]) H3 else ∃m',m'<m/\W (i+1) m' ys H2)))
  (hP:∀(D C:Addr) (H':Hp) (s':Shared) (ys:Uh V) (its:Uh Value) (m:Str->Option Value),s2.heap.objs.size<=C->s2.heap.get? D=none->s2.heap.get? C=none->D≠C->H' D=none->H' C=none->s'.heap.Ns C m->s'.heap.PlainList D its.toArray->Vals ys its->ys.length<=sizeLine->Qe H' ys->
   Un (frs X.stack) fp H2 H' s2.heap s'.heap->lE X.prog X.w H' s'.heap->AllBare s'.gens->s'.os=s2.os->P (.ref D) C (.ok .next) s'):
  wpAny (model X.prog X.w) X.A (newList []) (λacc s₃=>wpAny (model X.prog X.w) X.A (newFunctionEnv scope X.env.globals cl [] X.env.qual none .none (some X.env)) (λcenv s₄=>
   codeAny (model X.prog X.w) X.A (.compStart (.ListComp elt [⟨.Name x px,iter,ifs,0⟩] scope pos) 0 (.ref it) acc {cenv with scope:=relabel scope X.env}) (P acc cenv.locals) s₄) E s₃) E s2:=by
 refine wpAny_newObj_type (wpAny_newFunctionEnv hcell (by intro y hy;simp at hy) (λh₁ Aw wj=>?_) hkind);dsimp only at Aw wj ⊢;generalize hH2:s2.heap.push {cls:=.type "list",dict:=none,data:=.seq ([]:Uh Value).toArray}=HH at Aw wj ⊢;have hC:HH.objs.size=s2.heap.objs.size+1:=by rw[<-hH2,Heap.size_push]
 generalize eD:s2.heap.objs.size=D at *;generalize eC:HH.objs.size=C at *;have hDC:D≠C:=by rw[hC];exact ne_of_lt (lt_succ_self _)
 have fresh:∀a,D<=a->s2.heap.get? a=none:=λa ha=>Heap.get?_none_of_le (by rw[eD];exact ha);have hD0:s2.heap.get? D=none:=fresh D (le_refl _);have hC0:s2.heap.get? C=none:=fresh C (by rw[hC];exact le_succ _);have old:∀b o,s2.heap.get? b=some o->h₁.get? b=some o:=λb o e=>wj.extBut b o (λz=>by rw[z,hC0] at e;cases e) (Heap.get?_push_of_some _ (hH2▸Heap.get?_push_of_some _ e));have hacc:h₁.PlainList D #[]:=⟨0,wj.extBut _ _ hDC (Heap.get?_push_of_some _ (hH2▸(eD▸Heap.get?_push_size _ rfl)))⟩;have HD:H2 D=none:=I2.hok.fresh (by rw[eD];exact le_refl _);have HC:H2 C=none:=I2.hok.fresh (by rw[eD,hC];exact le_succ _)
 -- the block's context
 let Y:Cx:=cy X scope cl C (x::fs.map (·.1)) s2 H2 fp
 have lk:∀y c,cl.lookup y=some c->X.env.cells.lookup y=some c:=λy c e=>o9 (y,c) (lookup_mem e);have yok:Y.Ok:=by
  refine⟨I2.ok.mod,hkind,I2.ok.glob,I2.ok.blt,?_,λy z c h1 h2=>I2.ok.inj y z c (lk y c h1) (lk z c h2),λy hy=>?_,λ_ _ h _=>absurd h Bool.false_ne_true,I2.ok.hd,I2.ok.frames,.inl rfl,λb hb=>?_,I2.bs,?_,λb o e hb=>?_,λb hb hz=>?_,I2.stack,I2.qW⟩
  ·show s2.heap.objs.size<=C;rw[eD,hC];exact le_succ _
  ·have hy':(relabel scope X.env).names.lookup y=some .cell\/(relabel scope X.env).names.lookup y=some .free:=hy;have hm:(y,NameKind.free)∈scope.names:=by
    rcases hy' with e|e
    ·rcases iC (lookup_mem e) with q|⟨_,q⟩
     ·exact absurd rfl (hcell _ q)
     ·exact q
    ·rcases iC (lookup_mem e) with q|⟨q,_⟩
     ·exact q
     ·cases q
   obtain⟨c,q⟩:=pq _ hm rfl;exact mem_lookup q
  ·obtain⟨f0,f1,f3,f4,f5,f6⟩:=f2 b hb;refine⟨λz=>?_,λy c e=>f5 y c (lk y c e)⟩;obtain⟨o,ho,_⟩:=T.obj _ _ st2 b hb;have z':b=C:=z;rw[z',hC0] at ho;cases ho
  ·exact Nat.le_trans I2.ok.bsz I2.sz
  ·obtain⟨f0,f1,f3,f4,f5,f6⟩:=f2 b hb
   rcases f4 with z|z
   ·exact I2.ok.noex b o e z
   ·exact absurd (lt_of_lt_of_le (Heap.lt_size e) (Nat.le_trans I2.ok.bsz z)) (Nat.lt_irrefl _)
  ·obtain⟨f0,f1,f3,f4,f5,f6⟩:=f2 b hb
   rcases mem_cons.mp (I2.kH b hz) with z|z
   ·exact f1 z
   ·exact f3 z
 let τ:St:=none::aY (fs.map (·.2)) σ
 have hτ:τ.length=(x::fs.map (·.1)).length:=by simp[τ,aY]
 obtain⟨mL,hnL,hlL⟩:=id I2.loc;have yI:Inv Y [] τ H2 {s2 with heap:=h₁,toks:=s2.toks+([]:Uh (Str×Value)).length}:=by
  refine⟨yok,rfl,I2.bare,Un.kept old,⟨_,Aw,λi y v e1 e2 e3=>?_⟩,λy c e=>?_,HC,λy c e=>I2.freeC y c (lk y c e),(λp hp=>nomatch hp),I2.hok.kept old,hτ⟩
  ·cases i with
   |zero=>simp[τ] at e2
   |succ i=>
    have e1':(fs.map (·.1))[i]?=some y:=e1;have e2':(aY (fs.map (·.2)) σ)[i]?=some (some v):=by simpa [τ] using e2
    rw[getElem?_map] at e1';cases q:fs[i]? with
    |none=>rw[q] at e1';cases e1'
    |some f=>
     rw[q] at e1';have ey:f.1=y:=Option.some.inj e1';obtain⟨g1,g2,g3⟩:=hfs f (mem_of_getElem? q);have pA:(σ[f.2]?).join=some v:=by
      unfold aY at e2';rw[getElem?_map,getElem?_map,q] at e2';exact Option.some.inj e2'
     have e2c:σ[f.2]?=some (some v):=by
      cases r:σ[f.2]? with
      |none=>rw[r] at pA;cases pA
      |some o=>rw[r] at pA;have pA:o=some v:=pA;rw[pA]
     have vis:RI X.env.scope f.1:=by
      rcases g2 with g|g
      ·exact .inr (.inl g)
      ·exact .inr (.inr g)
     obtain⟨u,ru,lu⟩:=hlL f.2 f.1 v g1 e2c vis;refine⟨u,ru,?_⟩;have lu':∃c,X.env.cells.lookup f.1=some c/\s2.heap.IsCell c (some u):=by
      rcases lu with⟨k,_⟩|⟨_,c,e,z⟩
      ·rcases g2 with g|g
       ·rw[k] at g;cases g
       ·rw[k] at g;cases g
      ·exact⟨c,e,z⟩
     obtain⟨c,hc1,hc2⟩:=lu';obtain⟨c',hm⟩:=pq _ (lookup_mem g3) rfl;have hm':=o9 _ hm;obtain⟨c2,hl2⟩:=mem_lookup hm;have:=lk _ _ hl2;rw[hc1] at this;cases this;obtain⟨oc,ho,hdt⟩:=hc2;refine .inr ⟨?_,c,by rw[<-ey];exact hl2,oc,old c oc ho,hdt⟩;rw[<-ey];exact eN g3
  ·obtain⟨v,oc,ho,hdt⟩:=I2.cell y c (lk y c e);exact⟨v,oc,old c oc ho,hdt⟩
 have hx':Y.env.scope.names.lookup x=some .local:=lookup_relabel_local hx;have fpD:∀b∈fp,b≠D:=λb hb z=>by
  obtain⟨o,ho,_⟩:=T.obj _ _ st2 b hb;rw[z,hD0] at ho;cases ho
 have Ko:D∉frs X.stack:=λhz=>by
  rcases mem_cons.mp (I2.kH D hz) with z|z
  ·have:=I2.lt;rw[eD,<-z] at this;exact absurd this (Nat.lt_irrefl _)
  ·exact I2.MP (by rw[eD];exact le_refl _) z
 have GS:∀y c,cl.lookup y=some c->c≠D:=λy c e z=>by
  obtain⟨v,oc,ho,_⟩:=I2.cell y c (lk y c e);rw[z,hD0] at ho;cases ho
 have sr:∀{H':Hp} {oD:Obj},(∀b∈fp,H' b=none)->∀b∈fp,sj Y [(D,oD)] H' b:=λhn b hb=>by
  refine⟨hn b hb,(yok.exf b hb).1,yok.exfs b hb,.inl hb,(yok.exf b hb).2,λp hp z=>?_⟩;have hp':p∈[(D,_)]:=hp;rw[mem_singleton.mp hp'] at z;exact fpD b hb z.symm
 obtain⟨m0,w0⟩:=w0;have loop:∀s₃:Shared,s₃={s2 with heap:=h₁,toks:=s2.toks+([]:Uh (Str×Value)).length}->
   codeAny (model X.prog X.w) X.A (.compLoop (.ListComp elt [⟨.Name x px,iter,ifs,0⟩] scope pos) 0 (.ref it) (.ref D) (compEnvC scope cl C X.env)) (P (.ref D) C) s₃:=by
  rintro s₃ rfl;refine m7 (λn s'=>∃i ys its H',Inv Y [] τ H' s'/\tn i s'.heap/\(∀b∈fp,H' b=none)/\H' D=none/\s'.heap.PlainList D (List.toArray its)/\Vals ys its/\W i n ys H') ?_ m0
   ⟨0,[],[],H2,yI,T.keep _ _ _ st2 (λb _ o e=>old b o e),λb hb=>(f2 b hb).1,HD,hacc,.nil,w0⟩
  rintro n s3 ⟨i,ys,its,H3,I3,st3,fr3,hD3,⟨n0,hoD⟩,rv3,w3⟩;obtain⟨hz,ht⟩:=turn i n ys H3 w3;have I3':Inv Y [(D,{cls:=.type "list",data:=.seq its.toArray n0})] τ H3 s3:=I3.lF λp hp=>by
   rw[mem_singleton.mp hp];exact⟨hoD,hD3,hDC,Ko,λv z=>by cases z⟩
  rcases ht with⟨stop,q⟩|⟨go,hz',step⟩
  ·refine cM (T.done Y rfl rfl rfl hc i _ s3 τ H3 _ I3' (sr fr3) st3 stop) λr s4 ⟨hr,I4⟩=>?_;subst hr;obtain⟨m,hn,_⟩:=I4.loc;exact hP D C H3 s4 ys its m (by rw[hC];exact le_succ _) hD0 hC0 hDC hD3 I4.free hn ⟨n0,(I4.pin (D,_) (mem_append_right _ mem_cons_self)).1⟩ rv3 hz q I4.base I4.hok I4.bare I4.os
  ·refine cM (T.item Y rfl rfl rfl hc i _ s3 τ H3 _ I3' (sr fr3) st3 go) λr s4 ⟨u,hr,h4⟩=>?_;subst hr;refine cM h4 λ_ s5 ⟨x',H5,I5,r5,y5,st5,fr5⟩=>?_;have I5':=I5.pinned (fp:=fp) (sr fr5) (T.obj _ _ st5);refine cM (qY (X:=Y) (i:=0) (pos:=px) hnd rfl (.inl hx') (.inr hx') _ s5 τ H5 x' u (λσ' H'=>σ'=some x'::aY (fs.map (·.2)) σ/\H'=H5) I5' r5 ⟨rfl,rfl⟩) λ_ s6 ⟨σ6,H6,I6,e6,e6'⟩=>?_;subst e6 e6';have back:∀{σ':St} {H':Hp} {s':Shared},Inv Y ([(D,{cls:=.type "list",data:=.seq its.toArray n0})]++oX fp s5.heap) (some x'::aY (fs.map (·.2)) σ) H' s'->
     Inv Y [] τ H' s'/\tn (i+1) s'.heap/\(∀b∈fp,H' b=none)/\H' D=none/\s'.heap.PlainList D its.toArray:=λ{σ' H' s'} J'=>by
    refine⟨(J'.lF (pins':=[]) (λp hp=>absurd hp (by simp))).weak rfl λj v e=>?_,T.keep _ _ _ st5 λb hb o e=>(J'.pin (b,o) (mem_append_right _ (mem_append_right _ (fM hb e)))).1,λb hb=>?_,?_,n0,?_⟩
    ·cases j with
     |zero=>cases e
     |succ j=>exact e
    ·obtain⟨o,e,d⟩:=T.obj _ _ st5 b hb;exact(J'.pin (b,o) (mem_append_right _ (mem_append_right _ (fM hb e)))).2.1
    ·exact(J'.pin (D,_) (mem_append_right _ (mem_append_left _ mem_cons_self))).2.1
    ·exact(J'.pin (D,_) (mem_append_right _ (mem_append_left _ mem_cons_self))).1
   refine cM ((hb cl C s2 H2 fp).1 _ s6 _ _ _ I6 (step x' H6 y5)) λok s7 ⟨H7,I7,q7⟩=>?_;cases ok with
   |false=>
    obtain⟨m',hm,w7⟩:=q7;obtain⟨a1,a2,a3,a4,a5⟩:=back (σ':=τ) I7;exact⟨m',hm,i+1,ys,its,H7,a1,a2,a3,a4,a5,rv3,w7⟩
   |true=>
    refine cM ((hb cl C s2 H2 fp).2 _ s7 _ _ _ I7 q7) λy s8 ⟨yv,H8,I8,ry,m',hm,w8⟩=>?_;obtain⟨a1,a2,a3,a4,a5⟩:=back (σ':=τ) I8;have hlen:=rv3.length;refine wpAny_list_append_plain (hsz:=by rw[size_toArray,<-hlen];exact hz) a5 λh' hl' hs'=>?_;refine⟨m',hm,i+1,ys++[yv],its++[y],H8,a1.turned (t':=s8.toks) (it:=D) (λb o hb e=>hs'.extBut b o hb e) a4 hDC (.inr (by show s2.heap.objs.size<=D;rw[eD];exact le_refl _)) (λy c e=>GS y c e) (λp hp=>absurd (show p∈([]:Uh (Addr×Obj)) from hp) (by simp)),T.keep _ _ _ a2 λb hb o e=>hs'.extBut b o (fpD b hb) e,a3,a4,by simpa using hl',rv3.append (.cons ry .nil),w8⟩
 exact codeAny_compStart_list (loop _ rfl) (T.self X.A 0 _ _ _ (T.keep _ _ _ st2 (λb _ o e=>old b o e)) (loop _ rfl))
theorem ji{pins:Uh (Addr×Obj)}{σ:St}{H2 H':Hp}{s2 s':Shared}{fp:Uh Addr}{D C:Addr}{ys:Uh V}{its:Uh Value}{h':Heap}{tk:Nat}(I2:Inv X pins σ H2 s2)(f2:∀b∈fp,sj X pins H2 b)
  (hD:s2.heap.get? D=none) (hC:s2.heap.get? C=none) (hDC:D≠C) (HD:H' D=none) (HC:H' C=none) (pl:s'.heap.PlainList D its.toArray) (rv:Vals ys its) (hz:ys.length<=sizeLine)
  (u:Un (frs X.stack) fp H2 H' s2.heap s'.heap) (hok:lE X.prog X.w H' s'.heap) (hg:AllBare s'.gens) (ho:s'.os=s2.os) (hs:Heap.SameBut C s'.heap h'):
  Inv X pins σ (upd H' D (.lst ys)) {s' with heap:=h',toks:=tk}:=by
 have kC:∀b o,b≠C->s'.heap.get? b=some o->h'.get? b=some o:=λb o hb e=>hs.extBut b o hb e;have neC:∀b o,s2.heap.get? b=some o->b≠C:=λb o e z=>by rw[z,hC] at e;cases e
 have neD:∀b o,s2.heap.get? b=some o->b≠D:=λb o e z=>by rw[z,hD] at e;cases e
 have trD:∀b o,H' b=some o->b≠D:=λb o e z=>by rw[z,HD] at e;cases e
 refine I2.Pc (ch:=fp) ho ⟨λb o e n hb hx=>kC b o (neC b o e) (u.keep b o e n hb hx),λb o e n hb hx=>?_,λb o e n hx=>?_,λb o e hx=>?_,λb xs e=>?_,λb o w e=>?_,λb ps e=>?_⟩ (λb o e=>?_) hg λb hb=>?_
 ·obtain⟨sl,q⟩:=u.slot b o e n hb hx;exact⟨sl,kC b _ (neC b o e) q⟩
 ·rw[aE (neD b o e)];exact u.free b o e n hx
 ·obtain⟨o',q⟩:=u.there b o e hx;exact⟨o',kC b _ (neC b o e) q⟩
 ·have q:=u.tups b xs e;rw[aE (trD b _ q)];exact q
 ·have q:=u.frzs b o w e;rw[aE (trD b _ q)];exact q
 ·obtain⟨more,q⟩:=u.tbls b ps e;exact⟨more,by rw[aE (trD b _ q)];exact q⟩
 ·by_cases hb:b=D
  ·subst hb;rw[aq] at e;cases e;obtain⟨n,q⟩:=pl;exact⟨hz,its,n,rv,kC b _ hDC q⟩
  ·rw[aE hb] at e;refine(hok b o e).stay (λc v hc q=>kC c v (λz=>?_) q) (λc q=>by rw[aE (trD c _ q)];exact q) λc xs q=>by rw[aE (trD c _ q)];exact q
   rcases hc with hc|hc
   ·rw[hc] at z;rw[z,HC] at e;cases e
   ·rw[z,HC] at hc;cases hc
 ·obtain⟨f0,f1,f3,f4,f5,f6⟩:=f2 b hb;exact⟨f4,f1,f5,f6⟩
theorem K9{elt iter:Expr}{x:Str}{px pos:Pos}{ifs:Uh Expr}{scope:Scope}(fs:Uh (Str×Nat)){wi:TI}{tt:TT}{te:TE}
  (hc:X.calm=true) (hkind:scope.kind=.function) (hcell:∀y∈scope.names,y.2≠.cell) (hnames:∀y∈scope.names,y.2=.local->scope.names.lookup y.1=some .local)
  (hfree:∀y∈scope.names,y.2=.free->X.env.kindOf y.1=some .cell\/X.env.kindOf y.1=some .free) (hx:scope.names.lookup x=some .local)
  (hnd:(x::fs.map (·.1)).Nodup) (hfs:∀f∈fs,X.N[f.2]?=some f.1/\(X.env.kindOf f.1=some .cell\/X.env.kindOf f.1=some .free)/\scope.names.lookup f.1=some .free)
  (hi:PI X (.Name x px) iter wi)
  (hb:∀(cl:Uh (Str×Addr)) (C:Addr) (s₀:Shared) (H₀:Hp) (ex:Uh Addr),GR (cy X scope cl C (x::fs.map (·.1)) s₀ H₀ ex) ifs tt/\PE (cy X scope cl C (x::fs.map (·.1)) s₀ H₀ ex) elt te)
  (hs:∀x,foldedSetIterable iter X.env x=pure x:=by intro _;rfl):
  PE X (.ListComp elt [⟨.Name x px,iter,ifs,0⟩] scope pos) (eG wi (fs.map (·.2)) tt te):=by
 intro pins s σ H Q I h;obtain⟨cl,hclos,o9,pq⟩:=fT (env:=X.env) (scope:=scope) λy hy hk=>I.ok.has y.1 (hfree y hy hk);rw[eval_ListComp];refine wpAny_comprehension_free (use:=none) rfl hs hclos hkind hnames (cM (hi pins s σ H _ I h) λv s1 h1=>cM h1 λitv s2 h2=>?_);obtain⟨it,fp,tn,J,H2,e,I2,T,st2,f2,W,w0,turn⟩:=h2;subst e;refine sJ (pins:=pins) hc hkind hcell hx hnd hfs hb o9 pq I2 T st2 f2 W (λH ys=>∀p,H p=none->Q (.ref p) (upd H p (.lst ys))) w0 turn ?_;intro D C H' s' ys its m hCs hD hC hDC HD HC hn pl rv hz q u hok hg ho;exact⟨m,hn,λh' hs'=>⟨.ref D,_,ji (tk:=s'.toks) I2 f2 hD hC hDC HD HC pl rv hz u hok hg ho hs',rfl,q D HD⟩⟩
def cU(i:Nat)(wi:TI)(fs:Uc)(tt:TT)(te:TE):TS:=λD σ H=>eG wi fs tt te σ H λv H1=>D.nx (σ.set i (some v)) H1
theorem La{i:Nat}{y:Str}{py spos:Pos}{elt iter:Expr}{x:Str}{px pos:Pos}{ifs:Uh Expr}{scope:Scope}(fs:Uh (Str×Nat)){wi:TI}{tt:TT}{te:TE}
  (hN:X.N.Nodup) (hy:X.N[i]?=some y) (hyl:X.env.scope.names.lookup y=some .local)
  (hc:X.calm=true) (hkind:scope.kind=.function) (hcell:∀y∈scope.names,y.2≠.cell) (hnames:∀y∈scope.names,y.2=.local->scope.names.lookup y.1=some .local)
  (hfree:∀y∈scope.names,y.2=.free->X.env.kindOf y.1=some .cell\/X.env.kindOf y.1=some .free) (hx:scope.names.lookup x=some .local)
  (hnd:(x::fs.map (·.1)).Nodup) (hfs:∀f∈fs,X.N[f.2]?=some f.1/\(X.env.kindOf f.1=some .cell\/X.env.kindOf f.1=some .free)/\scope.names.lookup f.1=some .free)
  (hi:PI X (.Name x px) iter wi)
  (hb:∀(cl:Uh (Str×Addr)) (C:Addr) (s₀:Shared) (H₀:Hp) (ex:Uh Addr),GR (cy X scope cl C (x::fs.map (·.1)) s₀ H₀ ex) ifs tt/\PE (cy X scope cl C (x::fs.map (·.1)) s₀ H₀ ex) elt te)
  (hsw:swapsWith (.ListComp elt [⟨.Name x px,iter,ifs,0⟩] scope pos) (some (.Name y py)) spos.line X.env=pure true)
  (hs:∀x,foldedSetIterable iter X.env x=pure x:=by intro _;rfl):
  PS X (.Assign [.Name y py] (.ListComp elt [⟨.Name x px,iter,ifs,0⟩] scope pos) spos) (cU i wi (fs.map (·.2)) tt te):=by
 intro pins s σ H D' I h;obtain⟨cl,hclos,o9,pq⟩:=fT (env:=X.env) (scope:=scope) λy hy hk=>I.ok.has y.1 (hfree y hy hk);rw[exec_Assign_Name_used _ _ _ _ hsw];refine wpAny_bind (wpAny_standAt (wpAny_bind ?_));show wpAny _ X.A (do let _ <-comprehension (.ListComp elt [⟨.Name x px,iter,ifs,0⟩] scope pos) scope X.env _ (newList []) false (eval iter X.env) (some (assign (.Name y py) X.env))) _ _ s
 refine wpAny_bind (wpAny_mono (wpAny_comprehension_free (use:=some (assign (.Name y py) X.env)) (Q:=λ_ s'=>SP X pins D' .next s') rfl hs hclos hkind hnames
  (cM (hi pins s σ H _ I h) λv s1 h1=>cM h1 λitv s2 h2=>?_)) (λ_ s' hq=>wpAny_pure (wpAny_pure hq)) λ_ _ e=>e)
 obtain⟨it,fp,tn,J,H2,e,I2,T,st2,f2,W,w0,turn⟩:=h2;subst e;refine sJ (pins:=pins) hc hkind hcell hx hnd hfs hb o9 pq I2 T st2 f2 W (λH ys=>∀p,H p=none->D'.nx (σ.set i (some (.ref p))) (upd H p (.lst ys))) w0 turn ?_;intro D C H' s' ys its m hCs hD hC hDC HD HC hn pl rv hz q u hok hg ho;show wpAny _ X.A (assign (.Name y py) X.env (.ref D)) _ _ _
 -- store,with the block's frame still there
 have J:=ji (tk:=s'.toks) I2 f2 hD hC hDC HD HC pl rv hz u hok hg ho (Heap.SameBut.refl C s'.heap);refine wpAny_assign_Name (oU J hN hy (.inl hyl) (v:=.ref D) (u:=.ref D) rfl (λs3 J3 ⟨a,sb,ha⟩=>?_) (.inr hyl));have exL:∃o,s2.heap.get? X.env.locals=some o:=let ⟨_,⟨o,_,_,e,_⟩,_⟩:=I2.loc;⟨o,e⟩;have yM:∀z c,X.env.cells.lookup z=some c->c≠C:=λz c e q=>by
  obtain⟨v,oc,ho,_⟩:=I2.cell z c e;rw[q,hC] at ho;cases ho
 have aC:a≠C:=by
  rcases ha with z|z
  ·obtain⟨o,e⟩:=exL;intro q;rw[<-z,q,hC] at e;cases e
  ·exact yM y a z
 have LC:C≠X.env.locals:=λq=>by
  obtain⟨o,e⟩:=exL;rw[<-q,hC] at e;cases e
 refine⟨m,hn.sameBut sb (Ne.symm aC),λh' hs'=>?_⟩;exact⟨_,_,J3.turned (t':=s3.toks) (it:=C) (λb o hb e=>hs'.extBut b o hb e) (by rw[aE (Ne.symm hDC)];exact HC) LC (.inr (Nat.le_trans I2.sz hCs)) yM (λp hp z=>by
  have:=(I2.pin p hp).1;rw[z,hC] at this;cases this),q D HD⟩
end
end L2
namespace L2
open PySem PySem.Spec PyProof.Rows PySem.Builtin.Str
def txt(l:Uc):Str:=⟨l.toArray⟩
theorem txt_codes(x:Str):txt x.cps.toList=x:=by cases x;simp[txt]
theorem bV(l:Uc):(txt l).cps.toList=l:=by simp[txt]
theorem fC(l:Uc):(txt l).length=l.length:=by simp[txt,Str.length]
theorem dN{a b:Uc}:txt a=txt b↔a=b:=⟨λh=>by simpa [txt] using h,λh=>by rw[h]⟩
theorem Lb(a b:Uc):txt a++txt b=txt (a++b):=by
 show Str.mk (a.toArray++b.toArray)=_;simp[txt]
section
variable{X:Cx}
def fU(p:Nat->Bool)(l:Uc):Uc:=(l.reverse.dropWhile p).reverse
theorem EO(p:Nat->Bool)(l:Uc):Txt.stripBy p false true (txt l)=txt (fU p l):=by
 have hlen:(l.reverse.takeWhile p).length+(l.reverse.dropWhile p).length=l.length:=by
  have:=congrArg List.length (List.takeWhile_append_dropWhile (p:=p) (l:=l.reverse));rw[length_append,List.length_reverse] at this;exact this
 have hpre:l.take (l.length-(l.reverse.takeWhile p).length)=fU p l:=by
  have e:l=fU p l++(l.reverse.takeWhile p).reverse:=by
   have:=congrArg List.reverse (List.takeWhile_append_dropWhile (p:=p) (l:=l.reverse));rw[List.reverse_append,List.reverse_reverse] at this;exact this.symm
  have hl:(fU p l).length=l.length-(l.reverse.takeWhile p).length:=by unfold fU;rw[List.length_reverse];omega
  have h:=List.take_left (l₁:=fU p l) (l₂:=(l.reverse.takeWhile p).reverse);rw[<-e,hl] at h;exact h
 unfold Txt.stripBy stripSame stripped stripLo stripHi;simp only[false_eq_true,if_false,if_true,bV,drop_zero,fC];have e2:strSub (txt l) 0 (l.length-(l.reverse.takeWhile p).length)=txt (fU p l):=by
  rw[<-hpre];simp[strSub,txt,List.extract_eq_take_drop]
 split
 ·rename_i hc
  have hc':l.length-(l.reverse.takeWhile p).length=l.length:=by simpa using hc
  rw[<-hpre,hc',take_length]
 ·exact e2
def wk:V->Uh V->Hp->VK->Prop:=λx vs H Q=>∃l m,x=.str (txt l)/\vs=[.str (txt m)]/\l.length<=sizeLine/\Q (.str (txt (fU (λc=>m.contains c) l))) H
theorem ER:K3 X "str.rstrip" wk:=by
 intro pins s σ H x vs v us Q I rx rv h;obtain⟨l,m,rfl,rfl,hz,q⟩:=h;obtain⟨t,rfl⟩:=rx;obtain⟨u,rfl,t',rfl⟩:=rv.one;refine call_gives F.slot_str_rstrip (typeIs_str _ _ _) F.entry_str_rstrip (F.args_str_rstrip_2 _ _) (gives_str_rstrip_chars _ _ t t') ?_;refine post_val_or_made (λ_=>fits_stripped _ _ _ (by rw[fC];exact hz)) λt' k=>⟨.str (txt (fU (λc=>m.contains c) l)),H,I.tok _,⟨t',?_⟩,q⟩;have e:(txt m).cps.contains=λc=>m.contains c:=by funext c;simp[txt]
 show Value.str (Txt.stripBy (txt m).cps.contains false true (txt l)) t'=_;rw[e,EO]
theorem Lc{l:Uc}{c:Nat}(h:c∈l):∃rest,occurrences (txt l) (txt [c]) 0 (txt l).length 1=l.idxOf c::rest:=by
 have hf:=PyProof.Rows.find_whole (txt l) (txt [c]);have hlt:=List.idxOf_lt_length_iff.mpr h;have at_:∀i,StrLaws.At (txt l) (txt [c]) (txt l).length i↔l[i]?=some c:=λi=>by
  unfold StrLaws.At subAt;rw[fC,fC];simp only[txt,List.extract_toArray,List.extract_eq_take_drop,length_cons,length_nil];rw[List.getElem?_eq_some_iff];constructor
  ·rintro⟨h1,h2⟩;have h3:i<l.length:=by omega
   refine⟨h3,?_⟩;have h4:(l.drop i).take 1=[c]:=by simpa using h2
   rw[drop_eq_getElem_cons h3] at h4;have h5:[l[i]]=[c]:=h4;injection h5
  ·rintro⟨h1,h2⟩;refine⟨by omega,?_⟩;have h4:(l.drop i).take (i+(0+1)-i)=[c]:=by
    rw[drop_eq_getElem_cons h1,h2];have:i+(0+1)-i=1:=by omega
    rw[this];rfl
   rw[h4];simp
 have hi:l[l.idxOf c]?=some c:=by rw[getElem?_eq_getElem hlt];congr 1;exact List.getElem_idxOf hlt
 rcases hf with⟨_,hn⟩|⟨i,e,ha,hb⟩
 ·exact absurd ((at_ _).mpr hi) (hn _)
 ·have hi2:=(at_ i).mp ha;have ei:i=l.idxOf c:=by
   have h1:¬l.idxOf c<i:=λz=>hb _ z ((at_ _).mpr hi);have h2:l.idxOf c<=i:=by
    obtain⟨h3,h4⟩:=List.getElem?_eq_some_iff.mp hi2;have:=List.idxOf_lt_length_iff.mpr h
    rcases lt_or_ge i (l.idxOf c) with z|z
    ·exfalso
     have:=List.not_of_lt_findIdx (p:=(·==c)) (xs:=l) (i:=i) (by simpa [List.idxOf] using z);simp[h4] at this
    ·exact z
   omega
  unfold Txt.find at e;cases ho:occurrences (txt l) (txt [c]) 0 (txt l).length 1 with
  |nil=>rw[ho] at e;simp only at e;omega
  |cons a r=>
   rw[ho] at e;have ea:(a:Int)=(i:Int):=e;have ea':a=i:=by omega
   exact⟨r,by rw[ea',ei]⟩
def wm:V->Uh V->Hp->VK->Prop:=λx vs H Q=>∃l c,x=.str (txt l)/\vs=[.str (txt [c])]/\c∈l/\Q (.int (l.idxOf c:Nat)) H
theorem yN:K3 X "str.index" wm:=by
 intro pins s σ H x vs v us Q I rx rv h;obtain⟨l,c,rfl,rfl,hm,q⟩:=h;obtain⟨t,rfl⟩:=rx;obtain⟨u,rfl,t',rfl⟩:=rv.one;obtain⟨rest,ho⟩:=Lc hm;exact call_gives F.slot_str_index (typeIs_str _ _ _) F.entry_str_index (F.args_str_index_2 _ _) (gives_str_index _ _ t t' _ rest ho) ⟨.int _,H,I.tok _,⟨_,rfl⟩,q⟩
theorem Nx:mF X (compareOp .In) (λx y H Q=>∃c l,x=.str (txt [c])/\y=.str (txt l)/\Q (.bl (decide (c∈l))) H):=by
 intro pins s σ H x y v u Q I rx ry h;obtain⟨c,l,rfl,rfl,q⟩:=h;obtain⟨t,rfl⟩:=rx;obtain⟨t',rfl⟩:=ry;refine in_str (bI I q ?_);have:=StrLaws.found_one (txt l) c;rw[bV] at this;exact this.symm
theorem Ax:mF X (compareOp .Lt) (λx y H Q=>∃i j,x=.str (txt i)/\y=.str (txt j)/\Q (.bl (decide (i<j))) H):=by
 intro pins s σ H x y v u Q I rx ry h;obtain⟨i,j,rfl,rfl,q⟩:=h;obtain⟨t,rfl⟩:=rx;obtain⟨t',rfl⟩:=ry;exact lt_str (bI I q (by rw[bV,bV]))
theorem Ny:mF X (compareOp .GtE) (λx y H Q=>∃i j,x=.str (txt i)/\y=.str (txt j)/\Q (.bl (!decide (i<j))) H):=by
 intro pins s σ H x y v u Q I rx ry h;obtain⟨i,j,rfl,rfl,q⟩:=h;obtain⟨t,rfl⟩:=rx;obtain⟨t',rfl⟩:=ry;exact PySem.P.ge_str (bI I q (by rw[bV,bV]))
theorem CP:mF X (binaryOp .Add) (λx y H Q=>∃i j,x=.str (txt i)/\y=.str (txt j)/\i.length+j.length<=sizeLine/\Q (.str (txt (i++j))) H):=by
 intro pins s σ H x y v u Q I rx ry h;obtain⟨i,j,rfl,rfl,hz,q⟩:=h;exact Ai pins s σ H _ _ v u Q I rx ry ⟨_,_,rfl,rfl,by rw[fC,fC];exact hz,by rw[Lb];exact q⟩
theorem m8:O5 X (λx y H Q=>∃(l:Uc) (i:Nat) (c:Nat),x=.str (txt l)/\y=.int i/\l.length<=sizeLine/\l[i]?=some c/\Q (.str (txt [c])) H):=by
 intro pins s σ H value slice x y v u Q I rx ry h hs;obtain⟨l,i,c,rfl,rfl,hz,e,q⟩:=h;exact Nm pins s σ H value slice _ _ v u Q I rx ry ⟨_,_,c,rfl,rfl,by rw[fC];exact hz,by rw[bV];exact vW e,q⟩ hs
theorem fN:fJ X (.builtin "len") (λxs H Q=>∃z,xs=[.str (txt z)]/\z.length<=sizeLine/\Q (.int z.length) H):=by
 intro pins s σ H xs us Q I r h;obtain⟨z,rfl,hz,q⟩:=h;exact v9 pins s σ H _ us Q I r ⟨_,rfl,by rw[fC];exact hz,by rw[fC];exact q⟩
end
end L2
namespace L2
open PySem PySem.Spec PyProof.Rows PySem.Builtin.Str
def CQ(sep:Uc):Ud->Uc
 |[]=>[]
 |y::r=>r.foldl (λacc p=>acc++sep++p) y
theorem vf(sep:Uc):∀(r:Ud) (y:Uc),((r.map txt).foldl (λacc p=>acc++(txt sep).cps++p.cps) y.toArray)=(r.foldl (λacc p=>acc++sep++p) y).toArray
 |[],y=>rfl
 |a::r,y=>by
  rw[map_cons,List.foldl_cons,List.foldl_cons,<-vf sep r (y++sep++a)];congr 1
  simp[txt]
theorem GU(sep:Uc)(ys:Ud):Txt.join (txt sep) (ys.map txt)=txt (CQ sep ys):=by
 cases ys with
 |nil=>rfl
 |cons y r=>
  show (⟨_⟩:Str)=_;have:=vf sep r y;show (⟨(((y::r).map txt).drop 1).foldl (λacc p=>acc++(txt sep).cps++p.cps) (((y::r).map txt).headD Str.empty).cps⟩:Str)=_;simp only[map_cons,List.drop_one,List.tail_cons,List.headD_cons];have e:(txt y).cps=y.toArray:=rfl;rw[e,this];rfl
theorem m9:∀(r:Ud) (y:Uc),r.foldl (λacc p=>acc++[]++p) y=y++r.flatten
 |[],y=>by simp
 |a::r,y=>by rw[List.foldl_cons,m9 r];simp
theorem ES(ys:Ud):CQ [] ys=ys.flatten:=by
 cases ys with
 |nil=>rfl
 |cons y r=>show r.foldl (λacc p=>acc++[]++p) y=_;rw[m9];rfl
theorem gS:∀{ys:Uh Str} {us:Uh Value},Vals (ys.map V.str) us->StrsAre us ys
 |[],_,.nil=>.nil
 |y::ys,_,.cons ⟨t,e⟩ r=>by subst e;exact .cons y t (gS r)
theorem pB:∀{us:Uh Value} {ys:Uh Str},StrsAre us ys->Vals (ys.map V.str) us
 |_,_,.nil=>.nil
 |_,_,.cons y t r=>.cons ⟨t,rfl⟩ (pB r)
def aD(l:Uc):V:=.str (txt l)
theorem kL(ys:Ud):ys.map aD=(ys.map txt).map V.str:=by rw[map_map];rfl
section
variable{X:Cx}
def rJoin(K:W.Frag):V->Uh V->Hp->VK->Prop:=λx vs H Q=>∃sep p ys,x=.str (txt sep)/\vs=[.ref p]/\aX K H p (ys.map aD)/\(ys.map (·.length)).sum+ys.length*sep.length<=16777216/\Q (.str (txt (CQ sep ys))) H
theorem Ld:K3 X "str.join" (rJoin X.K):=by
 intro pins s σ H x vs v us Q I rx rv h;obtain⟨sep,p,ys,rfl,rfl,hx,hz,q⟩:=h;obtain⟨t,rfl⟩:=rx;obtain⟨u,rfl,ru⟩:=rv.one;cases ru;obtain⟨its,r,pl,hl⟩:=I.list hx;rw[kL] at r;refine join_list pl.isList (ys:=ys.map txt) (by simpa using gS r) ?_ λt' k=>⟨.str (txt (CQ sep ys)),H,I.tok _,⟨t',by rw[GU]⟩,q⟩;rw[map_map,length_map,fC];have:((λx=>x.length)∘txt:Uc->Nat)=λl=>l.length:=by funext l;exact fC l
 rw[this];exact hz
def Pw(l:Uc):It:=⟨λi _=>i<l.length,λi H x H'=>H'=H/\∃c,l[i]?=some c/\x=.str (txt [c]),λi _=>l.length<=i⟩
theorem CS(x:Str):strIterType x = "str_ascii_iterator" \/strIterType x = "str_iterator":=by
 unfold strIterType;split
 ·exact .inl rfl
 ·exact .inr rfl
theorem ET{prog:Program}{w:World}{A:Around}(hh:A.handled=none)(I:Addr)(x:Str)(t:Tok):Walks prog w A I [I] [I] x.cps.size (SignAt x) (λi h=>h.IsStrIter I (strIterType x) x t i):=by
 rcases CS x with e|e
 ·rw[e];exact Walks.strAscii hh I x t
 ·rw[e];exact Walks.strWide hh I x t
theorem GV{P:Program}{w:World}{K:PySem.W.Frag}{tg:Expr}(it:Addr)(l:Uc)(t:Tok):Turn P w K tg (Pw l) [it] it (λi h=>h.IsStrIter it (strIterType (txt l)) (txt l) t i) where
 mem:=by simp
 obj:=λi h st b hb=>by
  have e:b=it:=by simpa using hb
  subst e;obtain⟨o,e,c,d⟩:=st;exact⟨o,e,λv z=>by rw[d] at z;cases z⟩
 keep:=λi h h' st k=>let ⟨o,ho,r⟩:=st;⟨o,k it (by simp) o ho,r⟩
 item:=by
  intro X hP hw hK hc i pins s σ H E I hf st hg;subst hP hw hK;obtain⟨f0,f1,f2,f3,f4,f5⟩:=hf it (by simp);have W:=ET (prog:=X.prog) (w:=X.w) (I.ok.hd hc) it (txt l) t;have hg':i<(txt l).cps.size:=by have:i<l.length:=hg;simpa [txt] using this
  refine W.item i s _ _ hg' st λv h' tk hv st' kk=>?_;obtain⟨c,u,hc',rfl⟩:=hv;have I1:Inv X pins σ H {s with heap:=h',toks:=tk}:=I.turned (λb o hb e=>kk b o (by simpa using hb) e) f0 f1 f3 f4 f5
  obtain⟨o,e,cc,d⟩:=id st';have hn:["enumerate", "zip", "dict_itemiterator", "dict_reverseitemiterator", "odict_iterator", "itertools.zip_longest", "itertools.pairwise"].contains (strIterType (txt l))=false:=by
   rcases CS (txt l) with e|e<;>(rw[e];decide)
  exact⟨_,rfl,CB (s:={s with heap:=h',toks:=tk}) e cc d hn ⟨.str (txt [c]),H,I1,⟨u,rfl⟩,⟨rfl,c,by simpa [txt] using hc',rfl⟩,st',λb hb=>(hf b hb).1⟩⟩
 done:=by
  intro X hP hw hK hc i pins s σ H E I hf st hg;subst hP hw hK;obtain⟨f0,f1,f2,f3,f4,f5⟩:=hf it (by simp);have hg':l.length<=i:=hg;obtain⟨o,e,cc,d⟩:=id st;have fin:∀h',Heap.ExtBut it s.heap h'->(none:Option Value)=none/\Inv X pins σ H {s with heap:=h' }:=λh' eb=>⟨rfl,I.turned (t':=s.toks) (λb o hb e=>eb b o hb e) f0 f1 f3 f4 f5⟩
  have hx:(txt l).cps[i]?=none:=by simpa [txt] using hg'
  rcases CS (txt l) with e|e
  ·rw[e] at st;exact wpAny_pyNext_ascii_end (I.ok.hd hc) st hx fin
  ·rw[e] at st;exact wpAny_pyNext_wide_end (I.ok.hd hc) st hx fin
 self:=λ_ _ _ _ _ st h=>by
  rcases CS (txt l) with e|e
  ·rw[e] at st;exact wpAny_pyIter_striter_ascii st h
  ·rw[e] at st;exact wpAny_pyIter_striter_wide st h
def EU(tl:TE):TI:=λσ H R=>tl σ H λx H1=>∃l,x=.str (txt l)/\R (Pw l) H1
theorem Nz{tg l:Expr}{tl:TE}(hl:PE X l tl):PI X tg l (EU tl):=by
 intro pins s σ H R I h;refine cM (hl pins s σ H _ I h) λv s1 ⟨x,H1,I1,r1,q1⟩=>?_;obtain⟨l',e,q⟩:=q1;subst e;obtain⟨t,rfl⟩:=r1;refine wpAny_pyIter_strU ?_;refine⟨s1.heap.objs.size,[s1.heap.objs.size],_,_,H1,rfl,I1.kept (t':=s1.toks) λb o e=>Heap.get?_push_of_some _ e,GV _ l' t,⟨_,Heap.get?_push_size _ rfl,rfl,rfl⟩,λb hb=>?_,q⟩;have e:b=s1.heap.objs.size:=by simpa using hb
 subst e;exact I1.Kz (le_refl _) (I1.hok.fresh (le_refl _))
theorem EV(a b:Uc):ltCps a b=decide (a<b):=by
 first|exact ltCps_eq a b|(rw[ltCps_eq])
theorem vg:∀(r:Ud) (p:Uc),risingS (txt p) (r.map txt)=true->(p::r).Pairwise (·<=·)
 |[],p,_=>List.pairwise_singleton _ _
 |x::r,p,h=>by
  rw[map_cons] at h;unfold risingS at h;rw[and_eq_true,bV,bV,EV] at h;have h1:p<=x:=by
   have:=h.1;simp only[Bool.not_eq_true',decide_eq_false_iff_not] at this;exact List.not_lt.mp this
  have ih:=vg r x h.2;refine pairwise_cons.mpr ⟨λy hy=>?_,ih⟩
  rcases mem_cons.mp hy with e|hy
  ·rw[e];exact h1
  ·exact List.le_trans h1 ((pairwise_cons.mp ih).1 y hy)
theorem sL(l:Ud)(h:sortedS (l.map txt)=true):l.Pairwise (·<=·):=by
 cases l with
 |nil=>exact .nil
 |cons x r=>exact vg r x h
theorem mJ{h:Heap}:∀{us:Uh Value} {ys:Uh Str},StrsAre us ys->ReadsAll h us (ys.map PyData.str) []
 |_,_,.nil=>.nil
 |_,_,.cons y t r=>.cons (as:=[]) (bs:=[]) (.str y t) (mJ r)
theorem iD:∀ys:Uh Str,(∀y∈ys,PyData.strOk y=true)->PyData.canLayAll0 (ys.map PyData.str)=true
 |[],_=>rfl
 |y::r,h=>by simp[PyData.canLayAll0,PyData.canLay0,h y mem_cons_self,iD r λz hz=>h z (mem_cons_of_mem _ hz)]
theorem jj:∀ys:Uh Str,PyData.depthAll (ys.map PyData.str)=0
 |[]=>rfl
 |_::r=>by simp[PyData.depthAll,PyData.depth,jj r]
theorem qm(ys:Uh Str)(h:∀y∈ys,PyData.strOk y=true):SeqAt.shaped (.list (ys.map PyData.str))=true:=by
 simp[SeqAt.shaped,PyData.canLay0,PyData.depth,iD ys h,jj]
theorem yO:∀xs ys:Uh Str,PyData.eqvAll (xs.map PyData.str) (ys.map PyData.str)=decide (xs=ys)
 |[],[]=>by simp[PyData.eqvAll]
 |[],_::_=>by simp[PyData.eqvAll]
 |_::_,[]=>by simp[PyData.eqvAll]
 |a::r,b::t=>by
  simp only[map_cons,PyData.eqvAll,PyData.eqv,yO r t]
  by_cases h:a=b<;>by_cases h':r=t<;>simp[h,h']
theorem GW{a b:Ud}:a.map txt=b.map txt↔a=b:=⟨λh=>by
  have:=congrArg (List.map λx:Str=>x.cps.toList) h;rw[map_map,map_map] at this;have e2:((λx:Str=>x.cps.toList)∘txt)=id:=by funext l;exact bV l
  rwa[e2,map_id,map_id] at this,λh=>by rw[h]⟩
theorem Le(hu:X.A.units+64<cLine):mF X (compareOp .NotEq) (λx y H Q=>∃a b,∃xs ys:Ud,x=.ref a/\y=.ref b/\aX X.K H a (xs.map aD)/\aX X.K H b (ys.map aD)/\(∀y∈xs,PyData.strOk (txt y)=true)/\(∀y∈ys,PyData.strOk (txt y)=true)/\Q (.bl (!decide (xs=ys))) H):=by
 intro pins s σ H x y v u Q I rx ry h;obtain⟨a,b,xs,ys,rfl,rfl,ha,hb,ox,oy,q⟩:=h;cases rx;cases ry;obtain⟨ia,ra,pa,_⟩:=I.list ha;obtain⟨ib,rb,pb,_⟩:=I.list hb;obtain⟨oa,na,ea,ca,_,da⟩:=pa;obtain⟨ob,nb,eb,cb,_,db⟩:=pb;rw[kL] at ra rb;refine ne_dataH (Reads.list ea ca da (mJ (by simpa using gS ra))) (Reads.list eb cb db (mJ (by simpa using gS rb))) (qm (xs.map txt) (by simpa using ox)) (qm (ys.map txt) (by simpa using oy)) hu (bI I q ?_);simp only[PyData.eqv,yO];congr 1
 exact decide_eq_decide.mpr GW.symm
end
end L2
namespace L2
open PySem PySem.Spec PyProof.Rows PySem.Builtin.Str
section
variable{X:Cx}
structure NB(X:Cx)(scope:Scope)(x:Str)(fs:Uh (Str×Nat)):Prop where
 kind:scope.kind=.function
 cell:∀y∈scope.names,y.2≠.cell
 names:∀y∈scope.names,y.2=.local->scope.names.lookup y.1=some .local
 free:∀y∈scope.names,y.2=.free->X.env.kindOf y.1=some .cell\/X.env.kindOf y.1=some .free
 hx:scope.names.lookup x=some .local
 nd:(x::fs.map (·.1)).Nodup
 fs:∀f∈fs,X.N[f.2]?=some f.1/\(X.env.kindOf f.1=some .cell\/X.env.kindOf f.1=some .free)/\scope.names.lookup f.1=some .free
def gT(names:Uh (Str×NameKind))(outer:Uh (Str×NameKind))(N:Uh Str)(x:Str)(fs:Uh (Str×Nat)):Bool:=
 (names.all λy=>y.2 !=.cell)&&(names.all λy=>y.2 !=.local||names.lookup y.1==some .local) &&
 (names.all λy=>y.2 !=.free||outer.lookup y.1==some .cell||outer.lookup y.1==some .free)&&(names.lookup x==some .local) &&
 decide ((x::fs.map (·.1)).Nodup)&&(fs.all λf=>decide (N[f.2]?=some f.1)&&(outer.lookup f.1==some .cell||outer.lookup f.1==some .free)&&names.lookup f.1==some .free)
theorem lH{scope:Scope}{x:Str}{fs:Uh (Str×Nat)}(hk:scope.kind=.function)(h:gT scope.names X.env.scope.names X.N x fs=true):NB X scope x fs:=by
 unfold gT at h;simp only[and_eq_true,all_eq_true,decide_eq_true_eq,Bool.or_eq_true,bne_iff_ne,beq_iff_eq] at h;obtain⟨⟨⟨⟨⟨h1,h2⟩,h3⟩,h4⟩,h5⟩,h6⟩:=h;refine⟨hk,λy hy=>h1 y hy,λy hy e=>?_,λy hy e=>?_,h4,h5,λf hf=>?_⟩
 ·rcases h2 y hy with z|z
  ·exact absurd e z
  ·exact z
 ·rcases h3 y hy with(z|z)|z
  ·exact absurd e z
  ·exact .inl z
  ·exact .inr z
 ·obtain⟨⟨a,b⟩,c⟩:=h6 f hf;exact⟨a,b,c⟩
theorem GX{elt iter:Expr}{x:Str}{px pos:Pos}{ifs:Uh Expr}{scope:Scope}(fs:Uh (Str×Nat)){wi:TI}{tt:TT}{te:TE}(hc:X.calm=true)
  (hi:PI X (.Name x px) iter wi)
  (hb:∀(cl:Uh (Str×Addr)) (C:Addr) (s₀:Shared) (H₀:Hp) (ex:Uh Addr),GR (cy X scope cl C (x::fs.map (·.1)) s₀ H₀ ex) ifs tt/\PE (cy X scope cl C (x::fs.map (·.1)) s₀ H₀ ex) elt te)
  (hk:scope.kind=.function:=by rfl) (hl:gT scope.names X.env.scope.names X.N x fs=true:=by rfl')
  (hs:∀x,foldedSetIterable iter X.env x=pure x:=by intro _;rfl):
  PE X (.ListComp elt [⟨.Name x px,iter,ifs,0⟩] scope pos) (eG wi (fs.map (·.2)) tt te):=
 let O:=lH (X:=X) hk hl
 K9 fs hc O.kind O.cell O.names O.free O.hx O.nd O.fs hi hb hs
theorem GY{i:Nat}{y:Str}{py spos:Pos}{elt iter:Expr}{x:Str}{px pos:Pos}{ifs:Uh Expr}{scope:Scope}(fs:Uh (Str×Nat)){wi:TI}{tt:TT}{te:TE}
  (hN:X.N.Nodup) (hy:X.N[i]?=some y) (hyl:X.env.scope.names.lookup y=some .local) (hc:X.calm=true)
  (hi:PI X (.Name x px) iter wi)
  (hb:∀(cl:Uh (Str×Addr)) (C:Addr) (s₀:Shared) (H₀:Hp) (ex:Uh Addr),GR (cy X scope cl C (x::fs.map (·.1)) s₀ H₀ ex) ifs tt/\PE (cy X scope cl C (x::fs.map (·.1)) s₀ H₀ ex) elt te)
  (hk:scope.kind=.function:=by rfl) (hl:gT scope.names X.env.scope.names X.N x fs=true:=by rfl')
  (hsw:swapsWith (.ListComp elt [⟨.Name x px,iter,ifs,0⟩] scope pos) (some (.Name y py)) spos.line X.env=pure true:=by rfl)
  (hs:∀x,foldedSetIterable iter X.env x=pure x:=by intro _;rfl):
  PS X (.Assign [.Name y py] (.ListComp elt [⟨.Name x px,iter,ifs,0⟩] scope pos) spos) (cU i wi (fs.map (·.2)) tt te):=
 let O:=lH (X:=X) hk hl
 La fs hN hy hyl hc O.kind O.cell O.names O.free O.hx O.nd O.fs hi hb hsw hs
theorem sM{lo:Int}{n:Nat}{σ:St}{fs:Uc}{tt:TT}{te:TE}{H:Hp}{Q:VK}(Pv:Nat->Uh V->Hp->Prop)(h0:Pv 0 [] H)(hl:∀i ys H,i<=n->Pv i ys H->ys.length<=i)(hn:n<=sizeLine)
  (hs:∀i ys H,i<n->Pv i ys H->∀R:Uh V->Hp->Prop,(∀ys' H',Pv (i+1) ys' H'->R ys' H')->tt (some (.int (lo+i))::aY fs σ) H λb H2=>if b=true then te (some (.int (lo+i))::aY fs σ) H2 λy H3=>R (ys++[y]) H3 else R ys H2)
  (hd:∀ys H,Pv n ys H->∀p,H p=none->Q (.ref p) (upd H p (.lst ys))):
  ∃W:Nat->Nat->Uh V->Hp->Prop,(∃m,W 0 m [] H)/\∀i m ys H,W i m ys H->ys.length<=sizeLine/\
   (((Kl lo n).stop i H/\∀p,H p=none->Q (.ref p) (upd H p (.lst ys)))\/
    ((Kl lo n).go i H/\ys.length<sizeLine/\∀x H',(Kl lo n).yld i H x H'->tt (some x::aY fs σ) H' λb H2=>if b=true then te (some x::aY fs σ) H2 λy H3=>∃m',m'<m/\W (i+1) m' (ys++[y]) H3 else ∃m',m'<m/\W (i+1) m' ys H2)):=by
 refine⟨λi m ys H=>m=n-i/\i<=n/\Pv i ys H,⟨n,by simp,zero_le _,h0⟩,?_⟩;rintro i m ys H ⟨rfl,hi,p⟩;have hle:=hl i ys H hi p;refine⟨by omega,?_⟩
 by_cases hlt:i<n
 ·refine .inr ⟨hlt,by omega,λx H' y=>?_⟩;obtain⟨e,y⟩:=y;subst e y;exact hs i ys _ hlt p (λys' H'=>∃m',m'<n-i/\m'=n-(i+1)/\i+1<=n/\Pv (i+1) ys' H') λys' H' q=>⟨n-(i+1),by omega,rfl,hlt,q⟩
 ·have e:i=n:=by omega
  subst e;exact .inl ⟨le_refl _,hd ys H p⟩
theorem GZ{l:Uc}{σ:St}{fs:Uc}{tt:TT}{te:TE}{H:Hp}{Q:VK}(Pv:Nat->Uh V->Hp->Prop)(h0:Pv 0 [] H)(hl:∀i ys H,i<=l.length->Pv i ys H->ys.length<=i)(hn:l.length<=sizeLine)
  (hs:∀i c ys H,l[i]?=some c->Pv i ys H->∀R:Uh V->Hp->Prop,(∀ys' H',Pv (i+1) ys' H'->R ys' H')->tt (some (.str (txt [c]))::aY fs σ) H λb H2=>if b=true then te (some (.str (txt [c]))::aY fs σ) H2 λy H3=>R (ys++[y]) H3 else R ys H2)
  (hd:∀ys H,Pv l.length ys H->∀p,H p=none->Q (.ref p) (upd H p (.lst ys))):
  ∃W:Nat->Nat->Uh V->Hp->Prop,(∃m,W 0 m [] H)/\∀i m ys H,W i m ys H->ys.length<=sizeLine/\
   (((Pw l).stop i H/\∀p,H p=none->Q (.ref p) (upd H p (.lst ys)))\/
    ((Pw l).go i H/\ys.length<sizeLine/\∀x H',(Pw l).yld i H x H'->tt (some x::aY fs σ) H' λb H2=>if b=true then te (some x::aY fs σ) H2 λy H3=>∃m',m'<m/\W (i+1) m' (ys++[y]) H3 else ∃m',m'<m/\W (i+1) m' ys H2)):=by
 refine⟨λi m ys H=>m=l.length-i/\i<=l.length/\Pv i ys H,⟨l.length,by simp,zero_le _,h0⟩,?_⟩;rintro i m ys H ⟨rfl,hi,p⟩;have hle:=hl i ys H hi p;refine⟨by omega,?_⟩
 by_cases hlt:i<l.length
 ·refine .inr ⟨hlt,by omega,λx H' y=>?_⟩;obtain⟨e,c,hc,y⟩:=y;subst e y;exact hs i c ys _ hc p (λys' H'=>∃m',m'<l.length-i/\m'=l.length-(i+1)/\i+1<=l.length/\Pv (i+1) ys' H') λys' H' q=>⟨l.length-(i+1),by omega,rfl,hlt,q⟩
 ·have e:i=l.length:=by omega
  subst e;exact .inl ⟨le_refl _,hd ys H p⟩
theorem NC{x:Str}{l:Uc}{j pos}(h:x=txt l):PE X (.Constant (.str x) j pos) (tC (.str (txt l))):=by subst h;exact MT
end
def yP:Uc:=(List.range 26).map (97+·)
theorem iV:("abcdefghijklmnopqrstuvwxyz":Str)=txt yP:=by decide+kernel
theorem wo:yP.length=26:=by decide
theorem ND{i:Nat}(h:i<26):yP[i]?=some (97+i):=by
 unfold yP;rw[getElem?_map,getElem?_range h];rfl
abbrev bE:R2:=CD λi j=>.int (i+j)
abbrev kM:R2:=CD λi j=>.int (i-j)
abbrev nc:R2:=rI KC λi j=>.int (i/j)
abbrev gU:R2:=rI (λ_ j=>0<j) λi j=>.int (i%j)
abbrev Px:R2:=rI (λ_ j=>0<=j) λi j=>.int (i/2^j.toNat)
abbrev Mt:V->Hp->VK->Prop:=rU λi=>.int (-i)
abbrev yQ:R2:=CD λi j=>.bl (decide (i<j))
abbrev uL:R2:=CD λi j=>.bl (decide (j<i))
abbrev NG:R2:=CD λi j=>.bl (decide (j<=i))
def jT(i j:Int):Prop:=Nc i j\/(Builtin.Int.intBits i<=2^20/\Builtin.Int.intBits j<=2^20)
theorem jT.l{i j:Int}(h1:-(2^64)<i)(h2:i<2^64):jT i j:=.inl (.inl ⟨h1,h2⟩)
theorem jT.r{i j:Int}(h1:-(2^64)<j)(h2:j<2^64):jT i j:=.inl (.inr ⟨h1,h2⟩)
abbrev dm:R2:=rI jT λi j=>.int (i*j)
abbrev G0:R2:=λx y H Q=>∃i j,x=.str (txt i)/\y=.str (txt j)/\i.length+j.length<=sizeLine/\Q (.str (txt (i++j))) H
abbrev mK:R2:=λx y H Q=>∃(l:Uc) (i:Nat) (c:Nat),x=.str (txt l)/\y=.int i/\l.length<=sizeLine/\l[i]?=some c/\Q (.str (txt [c])) H
abbrev Py:R2:=λx y H Q=>∃c l,x=.str (txt [c])/\y=.str (txt l)/\Q (.bl (decide (c∈l))) H
abbrev NH:R2:=λx y H Q=>∃i j,x=.str (txt i)/\y=.str (txt j)/\Q (.bl (decide (i<j))) H
abbrev R5:R2:=λx y H Q=>∃i j,x=.str (txt i)/\y=.str (txt j)/\Q (.bl (!decide (i<j))) H
abbrev ng:Uh V->Hp->VK->Prop:=λxs H Q=>∃z,xs=[.str (txt z)]/\z.length<=sizeLine/\Q (.int z.length) H
abbrev cz(K:W.Frag):Uh V->Hp->VK->Prop:=λxs H Q=>∃p ys,xs=[.ref p]/\(aX K H p ys\/dU K H p ys)/\Q (.int ys.length) H
abbrev Pz:Uh V->Hp->VK->Prop:=λxs H Q=>∃i j,xs=[.int i,.int j]/\Q (.int (if j<i then j else i)) H
abbrev jk(K:W.Frag):Uh V->Hp->VK->Prop:=λxs H Q=>∃p ys,xs=[.ref p]/\(aX K H p ys\/dU K H p ys)/\∀l,H l=none->Q (.ref l) (upd H l (.lst ys))
abbrev Mu(K:W.Frag):R2:=λx y H Q=>∃a b,∃xs ys:Ud,x=.ref a/\y=.ref b/\aX K H a (xs.map aD)/\aX K H b (ys.map aD)/\(∀y∈xs,PyData.strOk (txt y)=true)/\(∀y∈ys,PyData.strOk (txt y)=true)/\Q (.bl (!decide (xs=ys))) H
section
variable{X:Cx}
theorem cH:mF X (binaryOp .Mult) dm:=RK λ_ _ _ _ _ _ _ hc q=>mul_int q (by
 rcases hc with h|h
 ·exact h.ok
 ·exact IntMulOk.of_bits h.1 h.2)
theorem Lf{x y:Str}{l:Uc}{pos:Pos}(hg:Gl X x)(hm:∃t,X.mg x=some (.str y t))(e:y=txt l)(hd:(x==("__debug__":Str))=false:=by decide):PE X (.Name x pos) (tC (.str (txt l))):=by
 obtain⟨t,hm⟩:=hm;subst e;exact Cz hg hm ⟨t,rfl⟩ hd
end
theorem aX.here{K:W.Frag}{H:Hp}{p:Addr}{xs:Uh V}:aX K (upd H p (.lst xs)) p xs:=.inl (.inl aq)
theorem aF.new{H H':Hp}{p:Addr}{o:HO}(s:aF H H')(hp:H' p=none):aF H (upd H' p o):=λb q e=>by
 have:=s b q e;rw[aE (fc this hp)];exact this
theorem aF.up(H:Hp){p:Addr}{o:HO}(hp:H p=none):aF H (upd H p o):=(aF.refl H).new hp
theorem CT{α:Type}{xs:Uh α}{i:Int}{v:α}(h0:0<=i)(h:xs[i.toNat]?=some v):Km xs i=some v:=by
 obtain⟨n,rfl⟩:=eq_ofNat_of_zero_le h0;exact vW (by simpa using h)
theorem kN{ta:TA}{g:TG}{tb:TS}{D:Ends}{σ:St}{H:Hp}{j:Int}(ha:∀Q:Uh V->Hp->Prop,Q [.int j] H->ta σ H Q)(hlo:-(2^62)<=j)(hhi:j<2^62)
  (Pv:Nat->St->Hp->Prop) (h0:Pv 0 σ H) (hs:∀(i:Nat) σ H,(i:Int)<j->Pv i σ H->g (.int i) σ H λσ2 H2=>tb {D with nx:=Pv (i+1),ct:=Pv (i+1),bk:=D.nx} σ2 H2)
  (hd:∀σ H,Pv j.toNat σ H->D.nx σ H):gQ (iU ta) g tb D σ H:=by
 refine ha _ ⟨j,rfl,hlo,hhi,?_⟩;refine EC (lo:=0) (n:=j.toNat) Pv h0 (λi σ H hi p=>?_) hd;rw[Int.zero_add];exact hs i σ H (by omega) p
theorem nj{K:W.Frag}{tl:TE}{g:TG}{tb:TS}{D:Ends}{σ:St}{H:Hp}{a:Addr}{xs:Uh V}(ha:∀Q:VK,Q (.ref a) H->tl σ H Q)(hx:aX K H a xs)
  (Pv:Nat->St->Hp->Prop) (h0:Pv 0 σ H) (hl:∀i σ H,i<=xs.length->Pv i σ H->aX K H a xs)
  (hs:∀i x σ H,xs[i]?=some x->Pv i σ H->g x σ H λσ2 H2=>tb {D with nx:=Pv (i+1),ct:=Pv (i+1),bk:=D.nx} σ2 H2) (hd:∀σ H,Pv xs.length σ H->D.nx σ H):
  gQ (bS K tl) g tb D σ H:=ha _ ⟨a,rfl,⟨xs,hx⟩,Gx (K:=K) Pv h0 hl hs hd⟩
theorem Lg{ta:TA}{fs:Uc}{tt:TT}{te:TE}{σ:St}{H:Hp}{Q:VK}{l j:Int}(ha:∀Q:Uh V->Hp->Prop,Q [.int l,.int j] H->ta σ H Q)(hl0:-(2^62)<=l)(hl1:l<2^62)(hlo:-(2^62)<=j)(hhi:j<2^62)(hn:(j-l).toNat<=sizeLine)
  (Pv:Nat->Uh V->Hp->Prop) (h0:Pv 0 [] H) (hl:∀i ys H,i<=(j-l).toNat->Pv i ys H->ys.length<=i)
  (hs:∀(i:Nat) ys H,l+(i:Int)<j->Pv i ys H->∀R:Uh V->Hp->Prop,(∀ys' H',Pv (i+1) ys' H'->R ys' H')->tt (some (.int (l+i))::aY fs σ) H λb H2=>if b=true then te (some (.int (l+i))::aY fs σ) H2 λy H3=>R (ys++[y]) H3 else R ys H2)
  (hd:∀ys H,Pv (j-l).toNat ys H->∀p,H p=none->Q (.ref p) (upd H p (.lst ys))):eG (CC ta) fs tt te σ H Q:=by
 refine ha _ ⟨l,j,rfl,⟨hl0,hl1,hlo,hhi⟩,?_⟩;exact sM (lo:=l) (n:=(j-l).toNat) Pv h0 hl hn (λi ys H hi p=>hs i ys H (by omega) p) hd
theorem Lh{ta:TA}{fs:Uc}{tt:TT}{te:TE}{σ:St}{H:Hp}{Q:VK}{j:Int}(ha:∀Q:Uh V->Hp->Prop,Q [.int j] H->ta σ H Q)(hlo:-(2^62)<=j)(hhi:j<2^62)(hn:j.toNat<=sizeLine)
  (Pv:Nat->Uh V->Hp->Prop) (h0:Pv 0 [] H) (hl:∀i ys H,i<=j.toNat->Pv i ys H->ys.length<=i)
  (hs:∀(i:Nat) ys H,(i:Int)<j->Pv i ys H->∀R:Uh V->Hp->Prop,(∀ys' H',Pv (i+1) ys' H'->R ys' H')->tt (some (.int i)::aY fs σ) H λb H2=>if b=true then te (some (.int i)::aY fs σ) H2 λy H3=>R (ys++[y]) H3 else R ys H2)
  (hd:∀ys H,Pv j.toNat ys H->∀p,H p=none->Q (.ref p) (upd H p (.lst ys))):eG (iU ta) fs tt te σ H Q:=by
 refine ha _ ⟨j,rfl,hlo,hhi,?_⟩;refine sM (lo:=0) (n:=j.toNat) Pv h0 hl hn (λi ys H hi p=>?_) hd;rw[Int.zero_add];exact hs i ys H (by omega) p
theorem G1{tl:TE}{fs:Uc}{tt:TT}{te:TE}{σ:St}{H:Hp}{Q:VK}{l:Uc}(ha:∀Q:VK,Q (.str (txt l)) H->tl σ H Q)(hn:l.length<=sizeLine)
  (Pv:Nat->Uh V->Hp->Prop) (h0:Pv 0 [] H) (hl:∀i ys H,i<=l.length->Pv i ys H->ys.length<=i)
  (hs:∀i c ys H,l[i]?=some c->Pv i ys H->∀R:Uh V->Hp->Prop,(∀ys' H',Pv (i+1) ys' H'->R ys' H')->tt (some (.str (txt [c]))::aY fs σ) H λb H2=>if b=true then te (some (.str (txt [c]))::aY fs σ) H2 λy H3=>R (ys++[y]) H3 else R ys H2)
  (hd:∀ys H,Pv l.length ys H->∀p,H p=none->Q (.ref p) (upd H p (.lst ys))):eG (EU tl) fs tt te σ H Q:=ha _ ⟨l,rfl,GZ Pv h0 hl hn hs hd⟩
theorem bZ{K:W.Frag}{H:Hp}{a:Addr}{xs:Uh V}{Q:VK}(hS:aX K H a xs)(q:Q (.int xs.length) H):cz K [.ref a] H Q:=⟨a,xs,rfl,.inl hS,q⟩
theorem nq{K:W.Frag}{H:Hp}{a:Addr}{ns:Uh Int}{Q:VK}(hS:aX K H a (ns.map V.int))(q:Q (.int ns.length) H):cz K [.ref a] H Q:=⟨a,_,rfl,.inl hS,by rw[length_map];exact q⟩
theorem jl{H:Hp}{l:Uc}{Q:VK}(hz:l.length<=100000)(q:Q (.int l.length) H):ng [.str (txt l)] H Q:=⟨l,rfl,Nat.le_trans hz (by decide),q⟩
theorem Ay{K:W.Frag}{H:Hp}{a:Addr}{ns:Uh Int}{i:Int}{Q:VK}(hS:aX K H a (ns.map V.int))(h0:0<=i)(h1:i<ns.length)(q:∀z,z∈ns->ns[i.toNat]?=some z->Q (.int z) H):dQ K (.ref a) (.int i) H Q:=by
 obtain⟨n,rfl⟩:=eq_ofNat_of_zero_le h0;have hn:n<ns.length:=by omega
 have e:ns[n]?=some ns[n]:=getElem?_eq_getElem hn;exact⟨a,_,(n:Int),.int ns[n],rfl,rfl,hS,vW (by rw[getElem?_map,e];rfl),q _ (getElem_mem hn) (by simpa using e)⟩
theorem cD{K:W.Frag}{H:Hp}{a:Addr}{xs:Uh V}{i:Int}{v:V}{Q:VK}(hS:aX K H a xs)(h0:0<=i)(h:xs[i.toNat]?=some v)(q:Q v H):dQ K (.ref a) (.int i) H Q:=
 ⟨a,xs,i,v,rfl,rfl,hS,CT h0 h,q⟩
theorem aZ{K:W.Frag}{H:Hp}{a:Addr}{xs:Uh V}{i:Int}{v:V}{Q:VK}(hS:dU K H a xs)(h0:0<=i)(h:xs[i.toNat]?=some v)(q:Q v H):bH K (.ref a) (.int i) H Q:=
 ⟨a,xs,i,v,rfl,rfl,hS,CT h0 h,q⟩
theorem Az{H:Hp}{l:Uc}{i:Int}{c:Nat}{Q:VK}(hz:l.length<=100000)(h0:0<=i)(h:l[i.toNat]?=some c)(q:Q (.str (txt [c])) H):mK (.str (txt l)) (.int i) H Q:=by
 obtain⟨n,rfl⟩:=eq_ofNat_of_zero_le h0;exact⟨l,n,c,rfl,rfl,Nat.le_trans hz (by decide),by simpa using h,q⟩
theorem sP{H:Hp}{i:Int}{Q:VK}(h0:0<=i)(h1:i<26)(q:Q (.str (txt [97+i.toNat])) H):mK (.str (txt yP)) (.int i) H Q:=
 Az (by rw[wo];decide) h0 (ND (by omega)) q
theorem CU{H:Hp}{l m:Uc}{Q:VK}(hz:l.length+m.length<=100000)(q:Q (.str (txt (l++m))) H):G0 (.str (txt l)) (.str (txt m)) H Q:=⟨l,m,rfl,rfl,Nat.le_trans hz (by decide),q⟩
theorem CV{c:Nat}(h0:97<=c)(h1:c<123):c∈yP/\yP.idxOf c=c-97:=by
 have h:∀d:Fin 26,(97+d.val)∈yP/\yP.idxOf (97+d.val)=d.val:=by decide
 have e:=h ⟨c-97,by omega⟩;have e2:97+(c-97)=c:=by omega
 simp only[e2] at e;exact e
theorem vh{H:Hp}{c:Nat}{Q:VK}(h0:97<=c)(h1:c<123)(q:Q (.int (c-97:Nat)) H):wm (.str (txt yP)) [.str (txt [c])] H Q:=
 ⟨yP,c,rfl,rfl,(CV h0 h1).1,by rw[(CV h0 h1).2];exact q⟩
theorem jm{i j:Int}(h1:-18446744073709551616<i)(h2:i<18446744073709551616):jT i j:=.l (by omega) (by omega)
theorem iM{i j:Int}(h1:-18446744073709551616<j)(h2:j<18446744073709551616):jT i j:=.r (by omega) (by omega)
theorem cdiv{i j:Int}(h1:0<j)(h2:j<1073741824):KC i j:=⟨h1,h2⟩
theorem G2{H:Hp}{a b:Addr}{xs ys:Uh V}{Q:VK}(h1:H a=some (.lst xs))(h2:H b=some (.lst ys))(hz:xs.length+ys.length<=100000)(q:∀p,H p=none->Q (.ref p) (upd H p (.lst (xs++ys)))):wc (.ref a) (.ref b) H Q:=
 ⟨a,b,xs,ys,rfl,rfl,h1,h2,Nat.le_trans hz (by decide),q⟩
theorem gI{H:Hp}{l:Addr}{xs:Uh V}{y:V}{Q:VK}(h:H l=some (.lst xs))(hz:xs.length<100000)(q:Q .non (upd H l (.lst (xs++[y])))):fS (.ref l) [y] H Q:=
 ⟨l,xs,y,rfl,rfl,h,lt_of_lt_of_le hz (by decide),q⟩
theorem EW{H:Hp}{l m:Uc}{Q:VK}(hz:l.length<=100000)(q:Q (.str (txt (fU (λc=>m.contains c) l))) H):wk (.str (txt l)) [.str (txt m)] H Q:=⟨l,m,rfl,rfl,Nat.le_trans hz (by decide),q⟩
theorem sQ{c:TT}{tb:TS}{D:Ends}{σ:St}{H:Hp}(Pv:Nat->St->Hp->Prop)(m0:Nat)(h0:Pv m0 σ H)
  (hs:∀m σ H,Pv m σ H->∀R:Bool->Hp->Prop,(∀H1,tb {D with nx:=λσ' H'=>∃m',m'<m/\Pv m' σ' H',ct:=λσ' H'=>∃m',m'<m/\Pv m' σ' H',bk:=D.nx} σ H1->R true H1)->(∀H1,D.nx σ H1->R false H1)->c σ H R):oW c tb D σ H:=by
 refine⟨Pv,⟨m0,h0⟩,λm σ H p=>?_⟩;refine hs m σ H p _ (λH1 h=>?_) (λH1 h=>?_)
 ·exact⟨_,λσ' H' h=>h,h⟩
 ·exact h
structure QE(X:Cx)(e:Expr)(t:TE):Prop where p:PE X e t
structure QT(X:Cx)(e:Expr)(t:TT):Prop where p:PT X e t
structure QW(X:Cx)(e:Expr)(t:TT):Prop where p:PW X e t
structure QA(X:Cx)(es:Uh Expr)(t:TA):Prop where p:PA X es t
structure QS(X:Cx)(st:Stmt)(t:TS):Prop where p:PS X st t
structure Kp(X:Cx)(st:Uh Stmt)(t:TS):Prop where p:Cy X st t
structure QG(X:Cx)(tg:Expr)(t:TG):Prop where p:PG X tg t
structure RN(X:Cx)(ts:Uh Expr)(t:Kh):Prop where p:Pg X ts t
structure QI(X:Cx)(tg iter:Expr)(t:TI):Prop where p:PI X tg iter t
structure QO(X:Cx)(e:Option Expr)(t:TO):Prop where p:PO X e t
structure O6(X:Cx)(ifs:Uh Expr)(t:TT):Prop where p:GR X ifs t
section
variable{X:Cx}{e o a b iter tg:Expr}{es:Uh Expr}{te to ta tb:TE}{t u:TA}{x:Str}{p pos pos':Pos}
theorem kv(i:Nat)(hN:X.N[i]?=some x:=by rfl')(hv:X.env.scope.names.lookup x=some .local:=by rfl')(hd:(x==("__debug__":Str))=false:=by rfl')
  (hcd:(x==("__classdict__":Str))=false:=by rfl'):QE X (.Name x pos) (ai i):=⟨Gm hN (.inl hv) hd hcd⟩
theorem kD(i:Nat)(hN:X.N[i]?=some x:=by rfl')(hv:X.env.scope.names.lookup x=some .cell:=by rfl')(hd:(x==("__debug__":Str))=false:=by rfl')
  (hcd:(x==("__classdict__":Str))=false:=by rfl'):QE X (.Name x pos) (ai i):=⟨Gm hN (.inr (.inl hv)) hd hcd⟩
theorem au{i:Int}{j:Nat}:QE X (.Constant (.int i) j pos) (tC (.int i)):=⟨MR⟩
theorem jU{c:Bool}{j:Nat}:QE X (.Constant (.bool c) j pos) (tC (.bl c)):=⟨Pd⟩
theorem pC{j:Nat}:QE X (.Constant .none j pos) (tC .non):=⟨MS⟩
theorem cN{y:Str}{l:Uc}{j:Nat}(h:y=txt l:=by rfl'):QE X (.Constant (.str y) j pos) (tC (.str (txt l))):=⟨NC h⟩
theorem ao:QA X [] av:=⟨vS⟩
theorem af(ha:QE X e te)(hr:QA X es t)(hs:starEach (e::es) X.env=(false,eval e X.env)::starEach es X.env:=by rfl'):QA X (e::es) (ah te t):=⟨qZ ha.p hr.p hs⟩
theorem jo{y:Str}{l:Uc}(hm:∃t,X.mg x=some (.str y t))(e:y=txt l)(hg:X.env.kindOf x=some .globalImplicit:=by rfl')(hd:(x==("__debug__":Str))=false:=by rfl'):QE X (.Name x pos) (tC (.str (txt l))):=⟨Lf hg hm e hd⟩
theorem aA{CX:Ab}{k:Nat}{f:Addr}{fd:FuncData}{ps:Uh Str}{sp:Sp}{E:XK}(F:jg X.prog X.w X.K X.mg X.base CX k f fd ps sp)(hr:cT k X.A)(hm:X.mg x=some (.ref f))(hk:W.keepIn X.K (.ref f)=true)(hb:Binds X.K fd ps [])(hx:Passes CX X E)
  (ha:QA X (e::es) t) (hg:X.env.kindOf x=some .globalImplicit:=by rfl') (hdb:(x==("__debug__":Str))=false:=by rfl') (he:starEach (e::es) X.env=(false,eval e X.env)::starEach es X.env:=by rfl') (hpl:(backTo pos (starEach es X.env)).any (·.1)=false:=by rfl'):
  QE X (.Call (.Name x p) (e::es) [] pos) (aH sp [] E t):=⟨KO F hr hg hm hk hb .nil hx ha.p hdb he hpl⟩
theorem aR{id:String}{r:Uh V->Hp->VK->Prop}(hc:fJ X (.builtin id) r)(hm:X.mg x=none)(hv:bootBuiltins x=some (.builtin id))(ha:QA X (e::es) t)
  (hg:X.env.kindOf x=some .globalImplicit:=by rfl') (hn:decide (x = "__name__")=false:=by rfl') (hdb:(x==("__debug__" :Str))=false:=by rfl')
  (he:starEach (e::es) X.env=(false,eval e X.env)::starEach es X.env:=by rfl') (hpl:(backTo pos (starEach es X.env)).any (·.1)=false:=by rfl'):
  QE X (.Call (.Name x p) (e::es) [] pos) (dJ r t):=⟨sE hc hg hm hv ha.p (of_decide_eq_false hn) hdb he hpl⟩
theorem dF{T:String}{r:Uh V->Hp->VK->Prop}(hc:fJ X (.type T) r)(hm:X.mg x=none)(hv:bootBuiltins x=some (.type T))(ha:QA X (e::es) t)
  (hg:X.env.kindOf x=some .globalImplicit:=by rfl') (hn:decide (x = "__name__")=false:=by rfl') (hdb:(x==("__debug__" :Str))=false:=by rfl')
  (he:starEach (e::es) X.env=(false,eval e X.env)::starEach es X.env:=by rfl') (hpl:(backTo pos (starEach es X.env)).any (·.1)=false:=by rfl'):
  QE X (.Call (.Name x p) (e::es) [] pos) (dJ r t):=⟨o7 hc hg hm hv ha.p (of_decide_eq_false hn) hdb he hpl⟩
theorem aO{op:Operator}{r:R2}(ho:mF X (binaryOp op) r)(ha:QE X a ta)(hb:QE X b tb):QE X (.BinOp a op b pos) (aP r ta tb):=⟨Ph ho ha.p hb.p⟩
theorem Mv{op:UnaryOp}{r:V->Hp->VK->Prop}(ho:RJ X (unaryOp op) r)(ha:QE X a ta):QE X (.UnaryOp op a pos) (O4 r ta):=⟨Pj ho ha.p⟩
theorem NI{op}{t:TE}(h:QE X a t):QE X (.BoolOp op [a] pos) t:=⟨MZ h.p⟩
theorem G3{rest:Uh Expr}(ha:QE X a ta)(hb:QE X (.BoolOp .And (b::rest) pos) tb):QE X (.BoolOp .And (a::b::rest) pos) (uZ ta tb):=⟨M3 ha.p hb.p⟩
theorem sR{c:Expr}{tc:TT}(hc:QT X c tc)(ha:QE X a ta)(hb:QE X b tb):QE X (.IfExp c a b pos) (M5 tc ta tb):=⟨Gp hc.p ha.p hb.p⟩
theorem jq(h:QA X es t):QE X (.List es pos) (oZ t):=⟨Nj h.p⟩
theorem fh{x1}(h:QA X es t):QE X (.Tuple es x1 pos) (iL t):=⟨Ni h.p⟩
theorem lI:QO X none fz:=⟨KW⟩
theorem lJ(h:QE X e te):QO X (some e) (kJ te):=⟨KY h.p⟩
theorem iW{p2:Pos}{lo hi:Option Expr}{tl th:TO}{r:V->Option Int->Option Int->Hp->VK->Prop}(hr:RV X r)(he:QE X e te)(hl:QO X lo tl)(hu:QO X hi th):QE X (.Subscript e (.Slice lo hi none p2) pos) (GG r te tl th):=⟨GH hr he.p hl.p hu.p⟩
theorem aQ{r:R2}(hr:O5 X r)(ha:QE X a ta)(hb:QE X b tb)(hs:∀o i,subscripted b false o i=operate [o,i] (getItem o i):=by intro _ _;rfl'):QE X (.Subscript a b pos) (aP r ta tb):=⟨Pq hr ha.p hb.p hs⟩
variable{name:Str}{apos cpos:Pos}{T id:String}{r:V->Uh V->Hp->VK->Prop}
theorem G4(pa:PlainAttrs T)(slot:Slot T name id)(hty:typeOf (.builtin id)=pure (.type "method_descriptor"))(hm:K3 X id r)(ho:QE X o to)
  (hbase:attributeBase o name X.env (eval o X.env)=eval o X.env:=by rfl') (hline:(apos.endLine==cpos.line)=true:=by rfl'):QE X (.Call (.Attribute o name apos) [] [] cpos) (EJ X.K T r to):=⟨Np pa slot hty hm ho.p hbase hline⟩
theorem jV(pa:PlainAttrs T)(slot:Slot T name id)(hty:typeOf (.builtin id)=pure (.type "method_descriptor"))(hm:K3 X id r)(ho:QE X o to)(ha:QA X (e::es) t)
  (hbase:attributeBase o name X.env (eval o X.env)=eval o X.env:=by rfl')
  (hfew:((backTo cpos (starEach (e::es) X.env)).all (λx=>!x.1)&&(backToKw cpos (keywordEach [] X.env)).all (λx=>x.1.isSome)
   && decide ((e::es).length+([]:Uh Keyword).length+(if ([]:Uh Keyword).isEmpty then 0 else 1)<30))=true:=by rfl')
  (hline:(apos.endLine==cpos.line)=true:=by rfl') (hs:starEach (e::es) X.env=(false,eval e X.env)::starEach es X.env:=by rfl') (hplain:(backTo cpos (starEach es X.env)).any (·.1)=false:=by rfl'):
  QE X (.Call (.Attribute o name apos) (e::es) [] cpos) (Ac X.K T r to t):=⟨Pr pa slot hty hm ho.p ha.p hbase hfew hline hs hplain⟩
theorem sS(h:QE X e te)(he:∀whole,isTrue e X.env whole=(do let v <-whole;standAt e.pos;holding [v] (truthy v)):=by intro _;rfl'):QT X e (tB te):=⟨MV h.p he⟩
theorem bq{op:CmpOp}{r:R2}(ho:mF X (compareOp op) r)(ha:QE X a ta)(hb:QE X b tb)(hm:behindInMarks op b=false:=by rfl'):QT X (.Compare a [op] [b] pos) (bD (aP r ta tb)):=⟨KJ ho ha.p hb.p hm⟩
theorem sV{op:CmpOp}{r:R2}(ho:mF X (compareOp op) r)(ha:QE X a ta)(hb:QE X b tb)(hm:behindInMarks op b=false:=by rfl'):QE X (.Compare a [op] [b] pos) (aP r ta tb):=⟨KI ho ha.p hb.p hm⟩
theorem pD{j:Nat}{pos'':Pos}(ha:QE X e te):QT X (.Compare e [.Is] [.Constant .none j pos''] pos) (tB (uJ te)):=⟨Gn (MU ha.p) (rZ _ (by decide) (by decide))⟩
theorem fD{j:Nat}{pos'':Pos}(ha:QE X e te):QT X (.Compare e [.IsNot] [.Constant .none j pos''] pos) (tB (gc te)):=⟨Gn (Ks ha.p) (rZ _ (by decide) (by decide))⟩
variable{tA tB':TT}{rest:Uh Expr}
theorem G6(ha:QT X a tA):QT X (.UnaryOp .Not a pos) (Ex tA):=⟨MY ha.p⟩
theorem iE(ha:QT X a tA):QW X (.BoolOp .And [a] pos) tA:=⟨Ku ha.p⟩
theorem iN(ha:QT X a tA):QW X (.BoolOp .Or [a] pos) tA:=⟨MW ha.p⟩
theorem iO(ha:QT X a tA)(hb:QW X (.BoolOp .And (b::rest) pos) tB'):QW X (.BoolOp .And (a::b::rest) pos) (mX tA tB'):=⟨MX ha.p hb.p⟩
theorem kQ(ha:QT X a tA)(hb:QW X (.BoolOp .Or (b::rest) pos) tB'):QW X (.BoolOp .Or (a::b::rest) pos) (Af tA tB'):=⟨Pe ha.p hb.p⟩
theorem kE(h:QW X e tA):QT X e tA:=⟨h.p.pt⟩
theorem eX:O6 X [] ku:=⟨K7⟩
theorem fV{c:Expr}{t:TT}(h:QT X c t):O6 X [c] t:=⟨K8 h.p⟩
theorem dY{ta:TA}(hm:X.mg "range" =none)(ha:QA X [a] ta)(hg:X.env.kindOf "range" =some .globalImplicit:=by rfl')(hs:starEach [a] X.env=[(false,eval a X.env)]:=by rfl'):QI X tg (.Call (.Name "range" p) [a] [] pos) (iU ta):=⟨Ez hg hm ha.p hs⟩
theorem EX{ta:TA}(hm:X.mg "range" =none)(ha:QA X [a,b] ta)(hg:X.env.kindOf "range" =some .globalImplicit:=by rfl')(hs:starEach [a,b] X.env=[(false,eval a X.env),(false,eval b X.env)]:=by rfl')(hs2:starEach [b] X.env=[(false,eval b X.env)]:=by rfl'):QI X tg (.Call (.Name "range" p) [a,b] [] pos) (CC ta):=⟨EA hg hm ha.p hs hs2⟩
theorem bM{tl:TE}(hl:QE X a tl):QI X tg a (bS X.K tl):=⟨KA hl.p⟩
theorem G8{tl:TE}(hl:QE X a tl):QI X tg a (EU tl):=⟨Nz hl.p⟩
theorem fW{elt:Expr}{px:Pos}{ifs:Uh Expr}{scope:Scope}(fs:Uh (Str×Nat)){wi:TI}{tt:TT}{te:TE}
  (hi:QI X (.Name x px) iter wi)
  (hb:∀(cl:Uh (Str×Addr)) (C:Addr) (s₀:Shared) (H₀:Hp) (ex:Uh Addr),O6 (cy X scope cl C (x::fs.map (·.1)) s₀ H₀ ex) ifs tt/\QE (cy X scope cl C (x::fs.map (·.1)) s₀ H₀ ex) elt te)
  (hc:X.calm=true:=by rfl') (hk:scope.kind=.function:=by rfl') (hl:gT scope.names X.env.scope.names X.N x fs=true:=by rfl')
  (hs:∀x,foldedSetIterable iter X.env x=pure x:=by intro _;rfl'):
  QE X (.ListComp elt [⟨.Name x px,iter,ifs,0⟩] scope pos) (eG wi (fs.map (·.2)) tt te):=⟨GX fs hc hi.p (λcl C s₀ H₀ ex=>⟨(hb cl C s₀ H₀ ex).1.p,(hb cl C s₀ H₀ ex).2.p⟩) hk hl hs⟩
theorem jr{i:Nat}{y:Str}{py spos:Pos}{elt:Expr}{px:Pos}{ifs:Uh Expr}{scope:Scope}(fs:Uh (Str×Nat)){wi:TI}{tt:TT}{te:TE}
  (hN:X.N.Nodup) (hi:QI X (.Name x px) iter wi)
  (hb:∀(cl:Uh (Str×Addr)) (C:Addr) (s₀:Shared) (H₀:Hp) (ex:Uh Addr),O6 (cy X scope cl C (x::fs.map (·.1)) s₀ H₀ ex) ifs tt/\QE (cy X scope cl C (x::fs.map (·.1)) s₀ H₀ ex) elt te)
  (hy:X.N[i]?=some y:=by rfl') (hyl:X.env.scope.names.lookup y=some .local:=by rfl') (hc:X.calm=true:=by rfl')
  (hk:scope.kind=.function:=by rfl') (hl:gT scope.names X.env.scope.names X.N x fs=true:=by rfl')
  (hsw:swapsWith (.ListComp elt [⟨.Name x px,iter,ifs,0⟩] scope pos) (some (.Name y py)) spos.line X.env=pure true:=by rfl')
  (hs:∀x,foldedSetIterable iter X.env x=pure x:=by intro _;rfl'):
  QS X (.Assign [.Name y py] (.ListComp elt [⟨.Name x px,iter,ifs,0⟩] scope pos) spos) (cU i wi (fs.map (·.2)) tt te):=⟨GY fs hN hy hyl hc hi.p (λcl C s₀ H₀ ex=>⟨(hb cl C s₀ H₀ ex).1.p,(hb cl C s₀ H₀ ex).2.p⟩) hk hl hsw hs⟩
variable{st:Stmt}{sts:Uh Stmt}{t1 t2:TS}
theorem bN:Kp X [] cJ:=⟨Kw⟩
theorem aj(h1:QS X st t1)(h2:Kp X sts t2):Kp X (st::sts) (aI t1 t2):=⟨Gr h1.p h2.p⟩
theorem ay(h1:QS X st t1):Kp X [st] t1:=⟨Kx h1.p⟩
theorem aJ{i:Nat}(hN:X.N.Nodup)(he:QE X e te)(hi:X.N[i]?=some x:=by rfl')(hx:X.env.scope.names.lookup x=some .local:=by rfl')(hs:swapsWith e (some (.Name x pos')) pos.line X.env=pure false:=by rfl'):
  QS X (.Assign [.Name x pos'] e pos) (bg te (aG i)):=⟨Gv hN hi (.inl hx) he.p hs (.inr hx)⟩
theorem wu{i:Nat}(hN:X.N.Nodup)(he:QE X e te)(hi:X.N[i]?=some x:=by rfl')(hx:X.env.scope.names.lookup x=some .cell:=by rfl')(hs:swapsWith e (some (.Name x pos')) pos.line X.env=pure false:=by rfl')(hf:X.fn x=true:=by rfl'):
  QS X (.Assign [.Name x pos'] e pos) (bg te (aG i)):=⟨Gv hN hi (.inr hx) he.p hs (.inl hf)⟩
theorem bz(he:QE X e te)(hs:swapsWith e none pos.line X.env=pure false:=by rfl'):QS X (.Expr e pos) (cj te):=⟨Ky he.p hs⟩
theorem aS(he:QE X e te):QS X (.Return (some e) pos) (bG te):=⟨M7 he.p⟩
theorem cQ{c:Expr}{l1 l2:Uh Stmt}{tc:TT}(hc:QT X c tc)(ha:Kp X l1 t1)(hb:Kp X l2 t2):QS X (.If c l1 l2 pos) (dP tc t1 t2):=⟨Pf hc.p ha.p hb.p⟩
theorem sW{c:Expr}{body:Uh Stmt}{tc:TT}(hc:QT X c tc)(hb:Kp X body t1)(hp:PassesOwn (model X.prog X.w) X.A X.env X.xe:=by exact PassesOwn.never):QS X (.While c body [] pos) (oW tc t1):=⟨Gw hp hc.p hb.p⟩
theorem yR:QS X st se:=⟨Gs⟩
theorem cB{i:Nat}(hN:X.N.Nodup)(hi:X.N[i]?=some x:=by rfl')(hx:X.env.scope.names.lookup x=some .local:=by rfl'):QG X (.Name x pos) (aG i):=⟨qY hN hi (.inl hx) (.inr hx)⟩
theorem dW{body:Uh Stmt}{wi:TI}{g:TG}{tb:TS}(hi:QI X tg iter wi)(hg:QG X tg g)(hb:Kp X body tb)(hp:PassesOwn (model X.prog X.w) X.A X.env X.xe:=by exact PassesOwn.never)(hc:X.calm=true:=by rfl')(hs:∀x,foldedSetIterable iter X.env x=pure x:=by intro _;rfl'):QS X (.For tg iter body [] pos) (gQ wi g tb):=⟨M8 hp hc hi.p hg.p hb.p hs⟩
theorem wz:RN X [] yw:=⟨CA⟩
theorem iX{t:TG}{u:Kh}(h1:QG X e t)(h2:RN X es u)(hs:(assignEach (e::es) X.env).map (·.2)=assign e X.env::(assignEach es X.env).map (·.2):=by rfl'):RN X (e::es) (kI t u):=⟨sf h1.p h2.p hs⟩
theorem AA{k:Nat}{t:Kh}{n:Nat}(h:RN X es t)(hc:X.calm=true:=by rfl')(hn:(assignEach es X.env).length=n:=by rfl')(hst:(assignEach es X.env).findIdx? (·.1)=none:=by rfl'):QG X (.Tuple es k pos) (yx X.K n t):=⟨Gu hc h.p hn hst⟩
end
theorem CO.iY{P:Program}{w:World}{K:W.Frag}{mg:Str->Option Value}{base:Heap}{x qual:Str}{st:Stmt}{f:Addr}{fd:FuncData}{N ps:Uh Str}{k:Nat}{sp:Sp}(F:CO K x qual st f fd)(S:aM N ps (aB st)){rd:TS}(len:∀vs H Q E,sp vs H Q E->vs.length=ps.length)
  (hb:∀(cdv:Value) (A:Around) (outer:Uh Env) (s:Shared) (H:Hp) (E:XK),cT k (A.deeper (envOfC qual (aB st) s.heap.objs.size f cdv))->Kp (mG gH P w K mg base N qual (aB st) f cdv A outer s H E).Kv (fB st) rd)
  (hq:∀(vs:Uh V) (H:Hp) (Q:VK) (E:XK),sp vs H Q E->rd {nx:=λ_ H'=>Q .non H',rt:=Q} (start N vs) H):jg P w K mg base gH (k+1) f fd ps sp:=
 F.ok S len λcdv A outer s H vs Q E hr h=>⟨rd,(hb cdv A outer s H E hr).p,hq vs H Q E h⟩
section
variable{X:Cx}
abbrev Hf(K:W.Frag):Uh V->Hp->VK->Prop:=λxs H Q=>∃p,∃bs:Uh Bool,xs=[.ref p]/\aX K H p (bs.map V.bl)/\Q (.bl (bs.all id)) H
theorem all_range{bs:Uh Bool}:(List.range bs.length).all (λi=>bs.getD i true)=bs.all id:=by
 rw[Bool.eq_iff_iff,all_eq_true,all_eq_true];constructor
 ·intro h b hb;obtain⟨i,hi,rfl⟩:=List.getElem_of_mem hb;have:=h i (mem_range.mpr hi);simpa [getD_eq_getElem?_getD,hi] using this
 ·intro h i hi;have hi':=mem_range.mp hi;have:=h bs[i] (getElem_mem hi');simpa [getD_eq_getElem?_getD,hi'] using this
theorem EY(hc:X.calm=true):fJ X (.builtin "all") (Hf X.K):=by
 intro pins s σ H xs us Q I r h;obtain⟨p,bs,rfl,hS,q⟩:=h;obtain⟨u,rfl,ru⟩:=vals1 r;obtain rfl:u=Value.ref p:=ru;obtain⟨its,rv,pl,hz⟩:=I.list hS;have hlen:its.length=bs.length:=by rw[<-rv.length,length_map]
 refine call_all_walk (wpAny_pyIter_list pl.isList ?_);have hne:p≠s.heap.objs.size:=ne_of_lt (by obtain⟨o,e,_⟩:=pl.isList;exact Heap.lt_size e);refine⟨s.heap.objs.size,_,_,_,_,_,λi=>bs.getD i true,rfl,Walks.list (A:=X.A.in1) (show X.A.in1.handled=none from I.ok.hd hc) s.heap.objs.size p hne its.toArray,⟨⟨_,Heap.get?_push_size _ rfl,rfl,rfl⟩,pl.isList.at λo e=>Heap.get?_push_of_some _ e⟩,?_,λh' tk hk=>?_⟩
 ·intro i v s' Q' E' hv hq;have hv':its[i]?=some v:=by simpa using hv
  have hi:i<bs.length:=by rw[<-hlen];exact(List.getElem?_eq_some_iff.mp hv').1
  obtain⟨u',hu',ru'⟩:=rv.get (i:=i) (x:=.bl bs[i]) (by rw[getElem?_map,getElem?_eq_getElem hi];rfl);rw[hv'] at hu';cases hu';obtain rfl:v=Value.bool bs[i]:=ru';refine wpAny_truthy_bool ?_;have e:bs.getD i true=bs[i]:=by simp[getD_eq_getElem?_getD,hi]
  rw[<-e];exact hq
 ·have e:(List.range its.toArray.size).all (λi=>bs.getD i true)=bs.all id:=by
   rw[size_toArray,hlen];exact all_range
  refine⟨.bl _,H,I.kept (t':=tk) λb o eb=>hk b o ?_ (Heap.get?_push_of_some _ eb),rfl,by rw[e];exact q⟩;intro hb;have:b=s.heap.objs.size:=by simpa using hb
  subst this;exact absurd (Heap.lt_size eb) (Nat.lt_irrefl _)
end
structure TF(fs:Uh Addr)(H H':Hp)(h B h':Heap):Prop where
 keep:∀b o,h.get? b=some o->H b=none->b∉fs->B.get? b=some o
 slot:∀b o,h.get? b=some o->H b=none->b∈fs->∃sl,h'.get? b=some {o with slots:=sl}
 free:∀b o,h.get? b=some o->H b=none->H' b=none
 there:∀b o,h.get? b=some o->b∉fs->∃o',B.get? b=some o'
 tups:∀b xs,H b=some (.tup xs)->H' b=some (.tup xs)
 frzs:∀b o u,H b=some (.frz o u)->H' b=some (.frz o u)
 tbls:∀b ps,H b=some (.tbl ps)->∃more,H' b=some (.tbl (ps++more))
def sX(h:Heap)(e:Addr)(dd:Option Addr):Prop:=∃o,h.get? e=some o/\o.dict=dd
theorem sX.kept{h h':Heap}{e:Addr}{dd:Option Addr}(x:sX h e dd)(k:DictK.Kept h h'):sX h' e dd:=let ⟨o,a,b⟩:=x;let ⟨o',c,d⟩:=k e o a;⟨o',c,d.trans b⟩
def qP(P:Program)(w:World):Ab:=λouter H s E e s'=>∃(ea:Addr) (cls:Value) (t:Addr) (H':Hp) (B:Heap) (dd:Option Addr),e=.ref ea/\s'.os=s.os/\AllBare s'.gens/\
 Heap.FlyingW B outer ea cls (.ref t) s'.heap/\lE P w H' B/\TF (frs outer) H H' s.heap B s'.heap/\sX s'.heap ea dd/\E cls dd H'
theorem yS{base h:Heap}{l:Uh Env}(f:h.FunFrames base l){b:Addr}(hb:b∈frs l):base.get? b=none/\∃o,h.get? b=some o/\∀vs,o.data≠.fields vs:=f.mem hb
section
variable{P:Program}{w:World}{K:W.Frag}{mg:Str->Option Value}{base:Heap}{N:Uh Str}{qual:Str}{scope:Scope}{f:Addr}{cd:Value}{A:Around}{outer:Uh Env}{s:Shared}{H:Hp}{E:XK}
theorem gW{pins:Uh (Addr×Obj)}{σ:St}{H2:Hp}{s2:Shared}{h':Heap}{e:Addr}{cls:Value}{vs:Uh Value}(I:Inv (mG (qP P w) P w K mg base N qual scope f cd A outer s H E) pins σ H2 s2)
  (hx:Heap.MadeExcOf s2.heap h' e cls vs) (q:E cls none H2):(mG (qP P w) P w K mg base N qual scope f cd A outer s H E).xe (.ref e) {s2 with heap:=h' }:=by
 generalize eF:frs (mG (qP P w) P w K mg base N qual scope f cd A outer s H E).stack=F;have hin:∀env∈(mG (qP P w) P w K mg base N qual scope f cd A outer s H E).stack,∀b,env.frame=some b->b∈F:=λenv he b hb=>by rw[<-eF];exact mem_filterMap.mpr ⟨env,he,hb⟩
 have neL:∀b o,s.heap.get? b=some o->b≠s.heap.objs.size:=λb o e=>ne_of_lt (Heap.lt_size e);have nF:∀b o,s.heap.get? b=some o->b∉frs outer->b∉F:=λb o e hb z=>by
  rw[<-eF] at z
  rcases mem_cons.mp (I.kH b z) with y|y
  ·exact neL b o e y
  ·exact hb y
 have gB:∀b o,s2.heap.get? b=some o->b∉F->(W.hideAll s2.heap F).get? b=some o:=λb o e hb=>W.hideAll_get _ e hb;show wpAny _ _ (leaving _ (.ref e)) _ _ _;refine wpAny_mono (DictK.GO (DictK.sI _ _) (wpAny_leaves_madeW (Q:=λ_ s3=>∃h2 t,s3={s2 with heap:=h2}/\Heap.FlyingW (W.hideAll s2.heap F) outer e cls (.ref t) h2/\h'.UpToSlots h2) (base:=W.hideAll s2.heap F) (h:=s2.heap) I.ok.frames rfl (λb o q=>W.of_hideAll _ q) (W.funFrames_hide I.stack hin) hx λh2 t hfl htup hn hsm=>⟨h2,t,rfl,hfl,hsm⟩)) (λ_ s3 q3=>?_) λ_ _ z=>z;obtain⟨⟨h2,t,e3,hfl,hsm⟩,kp⟩:=q3;subst e3;obtain⟨t9,at9,_,_⟩:=hx.there;refine⟨e,cls,t,H2,W.hideAll s2.heap F,none,rfl,I.os,I.bare,hfl,λa o ea=>(I.hok a o ea).stay (λb u hb eu=>gB b u eu λz=>?_) (λc q=>q) (λc xs q=>q),⟨λb o eb n hb=>?_,λb o eb n hb=>?_,λb o eb n=>?_,λb o eb hb=>?_,I.base.tups,I.base.frzs,I.base.tbls⟩,sX.kept ⟨_,at9,rfl⟩ kp,q⟩
 ·have hf:=I.qW b (by rw[eF];exact z)
  rcases hb with rfl|hb
  ·rw[hf] at ea;cases ea
  ·rw[hf] at hb;cases hb
 ·exact gB b o (I.base.keep b o eb n hb (not_mem_nil)) (nF b o eb hb)
 ·obtain⟨sl,e1⟩:=I.base.slot b o eb n hb (not_mem_nil);obtain⟨_,o2,e2,d2⟩:=yS I.stack (mem_cons_of_mem _ hb:b∈s.heap.objs.size::frs outer);rw[e1] at e2;cases e2;obtain⟨sl',e3⟩:=hsm b _ (hx.keeps _ _ e1) d2;exact⟨sl',e3⟩
 ·exact I.base.free b o eb n (not_mem_nil)
 ·obtain⟨o',e1⟩:=I.base.there b o eb (not_mem_nil);exact⟨o',gB b o' e1 (nF b o eb hb)⟩
theorem cV:Passes (qP P w) (mG (qP P w) P w K mg base N qual scope f cd A outer s H E) E:=by
 rintro pins σ H1 s1 e s2 I ⟨ea,cls,t,H2,B,dd,rfl,hos,hg,hfl,hok,ub,dI,q⟩;have neL:∀b o,s.heap.get? b=some o->b≠s.heap.objs.size:=λb o e=>ne_of_lt (Heap.lt_size e);have nF:∀b o,s.heap.get? b=some o->b∉frs outer->b∉frs (mG (qP P w) P w K mg base N qual scope f cd A outer s H E).stack:=λb o e hb z=>by
  rcases mem_cons.mp (I.kH b z) with y|y
  ·exact neL b o e y
  ·exact hb y
 have yF:∀b,b∈frs outer->b∈frs (mG (qP P w) P w K mg base N qual scope f cd A outer s H E).stack:=λb hb=>(mem_cons_of_mem _ hb:b∈s.heap.objs.size::frs outer);show wpAny _ _ (leaving _ (.ref ea)) _ _ _;refine wpAny_mono (DictK.GO (DictK.sI _ _) (wpAny_leaves_onW (Q:=λ_ s3=>∃h3,s3={s2 with heap:=h3}/\Heap.FlyingW B outer ea cls (.ref t) h3/\s2.heap.UpToSlots h3) I.ok.frames rfl hfl λh3 NJ hsm=>⟨h3,rfl,NJ,hsm⟩)) (λ_ s3 q3=>?_) λ_ _ z=>z;obtain⟨⟨h3,e3,NJ,hsm⟩,kp⟩:=q3;subst e3;refine⟨ea,cls,t,H2,B,dd,rfl,hos.trans I.os,hg,NJ,hok,⟨λb o eb n hb=>?_,λb o eb n hb=>?_,λb o eb n=>?_,λb o eb hb=>?_,λb xs e=>ub.tups b xs (I.base.tups b xs e),λb o u e=>ub.frzs b o u (I.base.frzs b o u e),λb ps e=>?_⟩,dI.kept kp,q⟩
 ·exact ub.keep b o (I.base.keep b o eb n hb (not_mem_nil)) (I.base.free b o eb n (not_mem_nil)) (nF b o eb hb)
 ·obtain⟨sl,e1⟩:=I.base.slot b o eb n hb (not_mem_nil);obtain⟨sl',e2⟩:=ub.slot b _ e1 (I.base.free b o eb n (not_mem_nil)) (yF b hb);obtain⟨_,o2,e3,d3⟩:=yS hfl.2.2.1 (yF b hb);rw[e2] at e3;cases e3;obtain⟨sl2,e4⟩:=hsm b _ e2 d3;exact⟨sl2,e4⟩
 ·obtain⟨o',e1⟩:=I.base.there b o eb (not_mem_nil);exact ub.free b o' e1 (I.base.free b o eb n (not_mem_nil))
 ·obtain⟨o',e1⟩:=I.base.there b o eb (not_mem_nil);exact ub.there b o' e1 (nF b o eb hb)
 ·obtain⟨m1,e1⟩:=I.base.tbls b ps e;obtain⟨m2,e2⟩:=ub.tbls b _ e1;exact⟨m1++m2,by rw[e2,Array.append_assoc]⟩
end
theorem Li{K:W.Frag}{h:Heap}{C:Addr}{bmB:Uh Value}{newId:String}(X:K.In h)(q:W.excIn K C bmB newId=true):
  ∃bm N nm qn bs hdct sn sub ab col dd k0 k1 k2 k3 k5 mN,h.get? C=some (excClassObj nm qn C N bs bm hdct sn sub ab col dd k0 k1 k2 k3 k5 newId)/\h.Ns N mN/\mN "__init__" =none/\OwnTail h bmB bm:=by
 unfold W.excIn at q;split at q
 next dd cd sl look=>
  split at q
  next C1 tl a0 a1 a2 a3 nid a5 e1 e2=>
   simp only[and_eq_true,beq_iff_eq,Bool.not_eq_true'] at q;obtain⟨⟨⟨⟨⟨q1,q2⟩,q3⟩,q4⟩,q5⟩,q6⟩:=q;subst q1 q2;cases cd;dsimp only at e1 q3 q5 q6;subst e1 q3;have e3:sl = #[a0,a1,a2,a3,some (.builtin nid),a5]:=by
    cases sl;dsimp only at e2;rw[e2]
   subst e3;exact⟨tl,_,_,_,_,_,_,_,_,_,_,_,_,_,_,_,_,X _ _ look,.of_isNs (W.isNs_of_in X q5),W.nsMap_none_of_in X q5 q6,W.tail_of_in X q4⟩
  next=>cases q
 next=>cases q
def iP(cls:Value)(E:XK)(ta:TA):TS:=λ_ σ H=>ta σ H λvs H1=>vs.length<=8/\E cls none H1
section
variable{X:Cx}
theorem Hg{x:Str}{e:Expr}{es:Uh Expr}{ta:TA}{C:Addr}{B newId initId:String}{bmB:Uh Value}{E:XK}{np cpos pos:Pos}(FB:ExcBaseFacts B newId initId bmB)(hC:W.excIn X.K C bmB newId=true)
  (hg:Gl X x) (hm:X.mg x=some (.ref C)) (hc:X.calm=true) (ha:PA X (e::es) ta)
  (hx:∀(pins:Uh (Addr×Obj)) (σ:St) (H2:Hp) (s2:Shared) (h':Heap) (ea:Addr) (vs:Uh Value),Inv X pins σ H2 s2->Heap.MadeExcOf s2.heap h' ea (.ref C) vs->E (.ref C) none H2->X.xe (.ref ea) {s2 with heap:=h' })
  (hdb:(x==("__debug__":Str))=false) (he:starEach (e::es) X.env=(false,eval e X.env)::starEach es X.env) (hpl:(backTo cpos (starEach es X.env)).any (·.1)=false):
  PS X (.Raise (some (.Call (.Name x np) (e::es) [] cpos)) none pos) (iP (.ref C) E ta):=by
 intro pins s σ H D I h;obtain⟨bm,N,nm,qn,bs,hdct,sn,sub,ab,col,dd,k0,k1,k2,k3,k5,mN,hO,hN,hni,TL⟩:=Li I.mod.kin hC;refine wpAny_Raise_call_subT (C:=C) (nm:=nm) (q:=qn) (N:=N) (bs:=bs) (bm:=bm) (hdct:=hdct) (sn:=sn) (sub:=sub) (ab:=ab) (col:=col) (dd:=dd) (k0:=k0) (k1:=k1) (k2:=k2) (k3:=k3) (k5:=k5)
  FB (mN:=mN) (TL.hasType FB.hasBase) (I.ok.hd hc) (by rw[he];show (false||(backTo cpos (starEach es X.env)).any (·.1))=false;rw[hpl];rfl) hni (qX I hg hm ⟨rfl,?_⟩ hdb)
 have hA:=ha cpos pins s σ H _ I h;rw[he] at hA ⊢;refine Calls.evalArgs_plain (cM hA λus s2 ⟨vs,H2,I2,r2,hz,q2⟩=>⟨rfl,?_,I2.bk _ _ hO,hN.keeps I2.bk,TL.keeps I2.bk,λh' ea hmade=>hx pins σ H2 s2 h' ea us I2 hmade q2⟩);show us.length<=sizeLine;rw[<-r2.length];exact Nat.le_trans hz (by decide)
end
mutual
inductive Dat (K:W.Frag) (H:Hp):V->PyData->Prop where
 |non:Dat K H .non .none
 |bl (b:Bool):Dat K H (.bl b) (.bool b)
 |int (i:Int):Dat K H (.int i) (.int i)
 |str (x:Str):Dat K H (.str x) (.str x)
 |lst {a:Addr} {xs:Uh V} {ds:Uh PyData} (h:aX K H a xs) (t:DatAll K H xs ds):Dat K H (.ref a) (.list ds)
 |tup {a:Addr} {xs:Uh V} {ds:Uh PyData} (h:dU K H a xs) (t:DatAll K H xs ds):Dat K H (.ref a) (.tuple ds)
inductive DatAll (K:W.Frag) (H:Hp):Uh V->Uh PyData->Prop where
 |nil:DatAll K H [] []
 |cons {x:V} {xs:Uh V} {d:PyData} {ds:Uh PyData} (h:Dat K H x d) (t:DatAll K H xs ds):DatAll K H (x::xs) (d::ds)
end
section
variable{X:Cx}{pins:Uh (Addr×Obj)}{σ:St}{H:Hp}{s:Shared}
mutual
theorem Inv.dat(I:Inv X pins σ H s):∀{x:V} {d:PyData} {u:Value},Dat X.K H x d->RelV x u->∃as,Reads s.heap u d as
 |_,_,_,.non,r=>by cases (show _=Value.none from r);exact⟨_,.none⟩
 |_,_,_,.bl b,r=>by cases (show _=Value.bool b from r);exact⟨_,.bool b⟩
 |_,_,_,.int i,r=>by obtain⟨t,rfl⟩:=(show ∃t,_=Value.int i t from r);exact⟨_,.int i t⟩
 |_,_,_,.str x,r=>by obtain⟨t,rfl⟩:=(show ∃t,_=Value.str x t from r);exact⟨_,.str x t⟩
 |_,_,_,.lst (a:=a) h t,r=>by
  cases (show _=Value.ref a from r);obtain⟨its,rv,⟨o,n,e,c,_,d⟩,_⟩:=I.list h;obtain⟨as,z⟩:=Inv.AB I t rv;exact⟨_,.list e c d (by simpa using z)⟩
 |_,_,_,.tup (a:=a) h t,r=>by
  cases (show _=Value.ref a from r);obtain⟨its,rv,⟨o,e,c,n,d⟩,_⟩:=I.tuple h;obtain⟨as,z⟩:=Inv.AB I t rv;exact⟨_,.tuple e c d (by simpa using z)⟩
theorem Inv.AB(I:Inv X pins σ H s):∀{xs:Uh V} {ds:Uh PyData} {us:Uh Value},DatAll X.K H xs ds->Vals xs us->∃as,ReadsAll s.heap us ds as
 |_,_,_,.nil,.nil=>⟨_,.nil⟩
 |_,_,_,.cons h t,.cons r rr=>by
  obtain⟨as,z⟩:=Inv.dat I h r;obtain⟨bs,z'⟩:=Inv.AB I t rr;exact⟨_,.cons z z'⟩
end
end
abbrev Hh(K:W.Frag):R2:=λx y H Q=>∃da db,Dat K H x da/\Dat K H y db/\SeqAt.shaped da=true/\SeqAt.shaped db=true/\Q (.bl (PyData.eqv da db)) H
abbrev AD(K:W.Frag):R2:=λx y H Q=>∃da db,Dat K H x da/\Dat K H y db/\SeqAt.shaped da=true/\SeqAt.shaped db=true/\Q (.bl (!PyData.eqv da db)) H
section
variable{X:Cx}
theorem Hi(hu:X.A.units+64<cLine):mF X (compareOp .Eq) (Hh X.K):=by
 intro pins s σ H x y v u Q I rx ry h;obtain⟨da,db,h1,h2,s1,s2,q⟩:=h;obtain⟨as,z1⟩:=I.dat h1 rx;obtain⟨bs,z2⟩:=I.dat h2 ry;exact eq_dataH z1 z2 s1 s2 hu ⟨.bl _,H,I,rfl,q⟩
theorem wB(hu:X.A.units+64<cLine):mF X (compareOp .NotEq) (AD X.K):=by
 intro pins s σ H x y v u Q I rx ry h;obtain⟨da,db,h1,h2,s1,s2,q⟩:=h;obtain⟨as,z1⟩:=I.dat h1 rx;obtain⟨bs,z2⟩:=I.dat h2 ry;exact ne_dataH z1 z2 s1 s2 hu ⟨.bl _,H,I,rfl,q⟩
end
theorem PS.Kv{X:Cx}{st:Stmt}{t:TS}(h:PS X.Kv st t):PS X st t:=λpins s σ H D I hw=>
 wpAny_mono (h pins s σ H D (I.sd _) hw) (λ_ _ q=>q.jf) λ_ _ z=>z.elim
section
variable{X:Cx}{e:Expr}{es:Uh Expr}{t:TA}{x:Str}{p pos np cpos hpos:Pos}
theorem bT{st:Stmt}{t:TS}(h:QS X.Kv st t):QS X st t:=⟨PS.Kv h.p⟩
theorem qo{P:Program}{w:World}:Passes (qP P w) X E0:=λ_ _ _ _ _ _ _ ⟨_,_,_,_,_,_,_,_,_,_,_,_,_,q⟩=>q.elim
theorem gX{C:Addr}{B newId initId:String}{bmB:Uh Value}{E:XK}(FB:ExcBaseFacts B newId initId bmB)(hC:W.excIn X.K C bmB newId=true)(hm:X.mg x=some (.ref C))(ha:QA X (e::es) t)
  (hx:∀(pins:Uh (Addr×Obj)) (σ:St) (H2:Hp) (s2:Shared) (h':Heap) (ea:Addr) (vs:Uh Value),Inv X pins σ H2 s2->Heap.MadeExcOf s2.heap h' ea (.ref C) vs->E (.ref C) none H2->X.xe (.ref ea) {s2 with heap:=h' })
  (hg:X.env.kindOf x=some .globalImplicit:=by rfl') (hc:X.calm=true:=by rfl')
  (hdb:(x==("__debug__":Str))=false:=by rfl') (he:starEach (e::es) X.env=(false,eval e X.env)::starEach es X.env:=by rfl') (hpl:(backTo cpos (starEach es X.env)).any (·.1)=false:=by rfl'):
  QS X (.Raise (some (.Call (.Name x np) (e::es) [] cpos)) none pos) (iP (.ref C) E t):=⟨Hg FB hC hg hm hc ha.p hx hdb he hpl⟩
end
theorem CO.CW{P:Program}{w:World}{K:W.Frag}{mg:Str->Option Value}{base:Heap}{x qual:Str}{st:Stmt}{f:Addr}{fd:FuncData}{N ps:Uh Str}{k:Nat}{sp:Sp}(F:CO K x qual st f fd)(S:aM N ps (aB st)){rd:XK->TS}(len:∀vs H Q E,sp vs H Q E->vs.length=ps.length)
  (hb:∀(cdv:Value) (A:Around) (outer:Uh Env) (s:Shared) (H:Hp) (E:XK),cT k (A.deeper (envOfC qual (aB st) s.heap.objs.size f cdv))->Kp (mG (qP P w) P w K mg base N qual (aB st) f cdv A outer s H E) (fB st) (rd E))
  (hq:∀(vs:Uh V) (H:Hp) (Q:VK) (E:XK),sp vs H Q E->rd E {nx:=λ_ H'=>Q .non H',rt:=Q} (start N vs) H):jg P w K mg base (qP P w) (k+1) f fd ps sp:=by
 obtain⟨oc,od,kV,doc,pm,an,cdv,ct,osl,rfl,lk,hcd⟩:=F.ex;exact Ms lk hcd S len λA outer s H vs Q E hr hsp=>⟨rd E,(hb cdv A outer s H E hr).p,hq vs H Q E hsp⟩
end L2
namespace L2
open PySem PySem.Spec PyProof.Rows PySem.Builtin.Str
abbrev Hj:Uh V->Hp->VK->Prop:=λxs H Q=>∃i j,xs=[.str (txt i),.str (txt j)]/\Q (.str (txt (if j<i then j else i))) H
def iZ(a b:Uc)(i:Nat):Uc:=if i=0 then a else b
theorem Hl{a b:Uc}{t u:Tok}{i:Nat}{v:Value}(h:(#[Value.str (txt a) t,Value.str (txt b) u])[i]?=some v):∃t',v=.str (txt (iZ a b i)) t':=by
 match i,h with
 | 0,h=>simp at h;exact⟨t,h.symm⟩
 | 1,h=>simp at h;exact⟨u,h.symm⟩
 |_+2,h=>simp at h
section
variable{prog:Program}{w:World}{A:Around}{E:Value->Shared->Prop}{s:Shared}
theorem wD{a b:Uc}{t u:Tok}{Q:Value->Shared->Prop}(hh:A.handled=none)
  (h:∀h' tk,(∀c o,s.heap.get? c=some o->h'.get? c=some o)->Q (if b<a then .str (txt b) u else .str (txt a) t) {s with heap:=h',toks:=tk}):
  wpAny (model prog w) A (call (.builtin "min") [.str (txt a) t,.str (txt b) u]) Q E s:=by
 have hT:(s.heap.push {cls:=.type "tuple",data:=.seq #[.str (txt a) t,.str (txt b) u] }).IsTuple s.heap.objs.size #[.str (txt a) t,.str (txt b) u]:=⟨_,Heap.get?_push_size _ rfl,rfl,0,rfl⟩;refine call_min_two (wpAny_pyIter_tuple hT ?_);have hsz:(s.heap.push {cls:=.type "tuple",data:=.seq #[Value.str (txt a) t,.str (txt b) u] }).objs.size=s.heap.objs.size+1:=Heap.size_push ..;have cmp:CmpOf prog w A.in1 .Lt (λi v=>(#[Value.str (txt a) t,.str (txt b) u])[i]?=some v) (λi j=>decide (iZ a b i<iZ a b j)):=λi j vi vj s' Q' E' hi hj hq=>by
  obtain⟨t1,rfl⟩:=Hl hi;obtain⟨t2,rfl⟩:=Hl hj;exact(lt_str (by rw[bV,bV];exact hq):wpAny (model prog w) A.in1 (compareOp .Lt (.str (txt (iZ a b i)) t1) (.str (txt (iZ a b j)) t2)) Q' E' s')
 refine⟨_,[_,s.heap.objs.size],[_],_,_,_,_,rfl,Walks.tuple (A:=A.in1) hh _ s.heap.objs.size (by rw[hsz];exact ne_of_lt (lt_succ_self _)) #[.str (txt a) t,.str (txt b) u],
  ⟨⟨_,Heap.get?_push_size _ rfl,rfl,rfl⟩,hT.push _⟩,λc hc=>?_,Nat.zero_lt_two,cmp,λv h' tk hP hk=>?_⟩
 ·show c<((s.heap.push _).push _).objs.size;rw[Heap.size_push,hsz]
  rcases mem_cons.mp hc with z|z
  ·rw[z,hsz];exact lt_succ_self _
  ·rw[mem_singleton.mp z];exact lt_succ_of_lt (lt_succ_self _)
 ·have old:∀c o,s.heap.get? c=some o->h'.get? c=some o:=λc o e=>by
   refine hk c o (λhm=>?_) (Heap.get?_push_of_some _ (Heap.get?_push_of_some _ e));have lt:=Heap.lt_size e;rw[mem_singleton.mp hm,hsz] at lt;exact absurd (Nat.lt_of_succ_lt lt) (Nat.lt_irrefl _)
  have fin:=h h' tk old;have hv:v=if b<a then Value.str (txt b) u else Value.str (txt a) t:=by
   have hP':(#[Value.str (txt a) t,.str (txt b) u])[argBest (λi j=>decide (iZ a b i<iZ a b j)) 1]?=some v:=hP
   by_cases hba:b<a
   ·have e:argBest (λi j=>decide (iZ a b i<iZ a b j)) 1=1:=by simp[argBest,iZ,hba]
    rw[e] at hP';rw[if_pos hba];simpa using hP'.symm
   ·have e:argBest (λi j=>decide (iZ a b i<iZ a b j)) 1=0:=by simp[argBest,iZ,hba]
    rw[e] at hP';rw[if_neg hba];simpa using hP'.symm
  rw[hv];exact fin
end
section
variable{X:Cx}
theorem AE(hc:X.calm=true):fJ X (.builtin "min") Hj:=by
 intro pins s σ H xs us Q I r h;obtain⟨i,j,rfl,q⟩:=h;obtain⟨u,w',rfl,⟨t,rfl⟩,⟨t',rfl⟩⟩:=vals2 r;refine wD (I.ok.hd hc) λh' tk k=>⟨_,H,I.kept k,?_,q⟩
 by_cases hj:j<i
 ·rw[if_pos hj,if_pos hj];exact⟨_,rfl⟩
 ·rw[if_neg hj,if_neg hj];exact⟨_,rfl⟩
end
variable{X:Cx}
theorem aT{A C:TS}{D:Ends}{σ:St}{H:Hp}(h:∀c:St->Hp->Prop,(∀σ' H',C D σ' H'->c σ' H')->A {D with nx:=c} σ H):aI A C D σ H:=h _ λ_ _ z=>z
theorem aW{te:TE}{i:Nat}{C:TS}{D:Ends}{σ:St}{H:Hp}(h:∀c:V->Hp->Prop,(∀x H1,C D (σ.set i (some x)) H1->c x H1)->te σ H c):aI (bg te (aG i)) C D σ H:=h _ λ_ _ z=>z
theorem nu{K:PySem.W.Frag}{a:Addr}{xs:Uh V}{σ:St}{fs:Uc}{tt:TT}{te:TE}{H:Hp}{Q:VK}(Pv:Nat->Uh V->Hp->Prop)(h0:Pv 0 [] H)(hl:∀i ys H,i<=xs.length->Pv i ys H->aX K H a xs/\ys.length<=i)(hn:xs.length<=sizeLine)
  (hs:∀i x ys H,xs[i]?=some x->Pv i ys H->∀R:Uh V->Hp->Prop,(∀ys' H',Pv (i+1) ys' H'->R ys' H')->tt (some x::aY fs σ) H λb H2=>if b=true then te (some x::aY fs σ) H2 λy H3=>R (ys++[y]) H3 else R ys H2)
  (hd:∀ys H,Pv xs.length ys H->∀p,H p=none->Q (.ref p) (upd H p (.lst ys))):
  ∃W:Nat->Nat->Uh V->Hp->Prop,(∃m,W 0 m [] H)/\∀i m ys H,W i m ys H->ys.length<=sizeLine/\
   (((Mr K a).stop i H/\∀p,H p=none->Q (.ref p) (upd H p (.lst ys)))\/
    ((Mr K a).go i H/\ys.length<sizeLine/\∀x H',(Mr K a).yld i H x H'->tt (some x::aY fs σ) H' λb H2=>if b=true then te (some x::aY fs σ) H2 λy H3=>∃m',m'<m/\W (i+1) m' (ys++[y]) H3 else ∃m',m'<m/\W (i+1) m' ys H2)):=by
 refine⟨λi m ys H=>m=xs.length-i/\i<=xs.length/\Pv i ys H,⟨xs.length,by simp,zero_le _,h0⟩,?_⟩;rintro i m ys H ⟨rfl,hi,p⟩;obtain⟨hq,hle⟩:=hl i ys H hi p;refine⟨by omega,?_⟩
 by_cases hlt:i<xs.length
 ·refine .inr ⟨⟨xs,xs[i],hq,by simp[hlt]⟩,by omega,λx H' y=>?_⟩
  obtain⟨e,y⟩:=y;subst e;exact hs i x ys _ (y xs hq) p (λys' H'=>∃m',m'<xs.length-i/\m'=xs.length-(i+1)/\i+1<=xs.length/\Pv (i+1) ys' H') λys' H' q=>⟨xs.length-(i+1),by omega,rfl,hlt,q⟩
 ·have e:i=xs.length:=by omega
  subst e;exact .inl ⟨⟨xs,hq,le_refl _⟩,hd ys H p⟩
theorem wF{wi:TI}{fs:Uc}{tt:TT}{te:TE}{σ:St}{H:Hp}{Q:VK} (h:∀R:It->Hp->Prop,(∀J H1,R J H1=∃W:Nat->Nat->Uh V->Hp->Prop,(∃m,W 0 m [] H1)/\∀i m ys H,W i m ys H->ys.length<=sizeLine/\
 ((J.stop i H/\∀p,H p=none->Q (.ref p) (upd H p (.lst ys)))\/
  (J.go i H/\ys.length<sizeLine/\∀x H',J.yld i H x H'->tt (some x::aY fs σ) H' λb H2=>if b=true then te (some x::aY fs σ) H2 λy H3=>∃m',m'<m/\W (i+1) m' (ys++[y]) H3 else ∃m',m'<m/\W (i+1) m' ys H2)))->wi σ H R):eG wi fs tt te σ H Q:=h _ λ_ _=>rfl
theorem kR{K:W.Frag}{tl:TE}{a:Addr}{xs:Uh V}{σ:St}{fs:Uc}{tt:TT}{te:TE}{H:Hp}{Q:VK}(ha:∀Q:VK,Q (.ref a) H->tl σ H Q)(hq:aX K H a xs)(Pv:Nat->Uh V->Hp->Prop)(h0:Pv 0 [] H)(hl:∀i ys H,i<=xs.length->Pv i ys H->aX K H a xs/\ys.length<=i)(hn:xs.length<=sizeLine)
  (hs:∀i x ys H,xs[i]?=some x->Pv i ys H->∀R:Uh V->Hp->Prop,(∀ys' H',Pv (i+1) ys' H'->R ys' H')->tt (some x::aY fs σ) H λb H2=>if b=true then te (some x::aY fs σ) H2 λy H3=>R (ys++[y]) H3 else R ys H2)
  (hd:∀ys H,Pv xs.length ys H->∀p,H p=none->Q (.ref p) (upd H p (.lst ys))):eG (bS K tl) fs tt te σ H Q:=ha _ ⟨a,rfl,⟨xs,hq⟩,nu Pv h0 hl hn hs hd⟩
end L2
namespace Asc
open PySem PyProof.Rows
end Asc
namespace L2
open PySem PySem.Spec PyProof.Rows
def jt(K:PySem.W.Frag)(wi:TI)(fs:Uc)(tt:TT)(te:TE):TE:=λσ H Q=>wi σ H λJ H1=>∃W:Nat->Nat->Uh V->Hp->Prop,(∃m,W 0 m [] H1)/\∀i m ys H,W i m ys H->ys.length<=sizeLine/\
 ((J.stop i H/\∀p,H p=none->Q (.ref p) (upd H p (.lst ys)))\/
  (J.go i H/\ys.length<sizeLine/\∀x H',J.yld i H x H'->∃p v0 v1,x=.ref p/\dU K H' p [v0,v1]/\tt (some v0::some v1::aY fs σ) H' λb H2=>if b=true then te (some v0::some v1::aY fs σ) H2 λy H3=>∃m',m'<m/\W (i+1) m' (ys++[y]) H3 else ∃m',m'<m/\W (i+1) m' ys H2))
def gJ(K:W.Frag)(i:Nat)(wi:TI)(fs:Uc)(tt:TT)(te:TE):TS:=λD σ H=>jt K wi fs tt te σ H λv H1=>D.nx (σ.set i (some v)) H1
section
variable{X:Cx}
theorem qu{elt iter:Expr}{x x2:Str}{px px2 ptg pos:Pos}{kt:Nat}{ifs:Uh Expr}{scope:Scope}{fs:Uh (Str×Nat)}{tt:TT}{te:TE}
  {pins:Uh (Addr×Obj)} {σ:St} {H2:Hp} {s2:Shared} {it:Addr} {fp:Uh Addr} {tn:Nat->Heap->Prop} {J:It} {cl:Uh (Str×Addr)} {E:Value->Shared->Prop}
  {P:Value->Addr->Result->Shared->Prop}
  (hc:X.calm=true) (hkind:scope.kind=.function) (hcell:∀y∈scope.names,y.2≠.cell) (hx:scope.names.lookup x=some .local) (hx2:scope.names.lookup x2=some .local)
  (hnd:(x::x2::fs.map (·.1)).Nodup) (hfs:∀f∈fs,X.N[f.2]?=some f.1/\(X.env.kindOf f.1=some .cell\/X.env.kindOf f.1=some .free)/\scope.names.lookup f.1=some .free)
  (hb:∀(cl:Uh (Str×Addr)) (C:Addr) (s₀:Shared) (H₀:Hp) (ex:Uh Addr),GR (cy X scope cl C (x::x2::fs.map (·.1)) s₀ H₀ ex) ifs tt/\PE (cy X scope cl C (x::x2::fs.map (·.1)) s₀ H₀ ex) elt te)
  (o9:∀y∈cl,X.env.cells.lookup y.1=some y.2) (pq:∀y∈scope.names,y.2=.free->∃c,(y.1,c)∈cl)
  (I2:Inv X pins σ H2 s2) (T:Turn X.prog X.w X.K (.Tuple [.Name x px,.Name x2 px2] kt ptg) J fp it tn) (st2:tn 0 s2.heap) (f2:∀b∈fp,sj X pins H2 b)
  (W:Nat->Nat->Uh V->Hp->Prop) (Qe:Hp->Uh V->Prop) (w0:∃m,W 0 m [] H2)
  (turn:∀i m ys H,W i m ys H->ys.length<=sizeLine/\
   ((J.stop i H/\Qe H ys)\/
    (J.go i H/\ys.length<sizeLine/\∀x H',J.yld i H x H'->∃p v0 v1,x=.ref p/\dU X.K H' p [v0,v1]/\tt (some v0::some v1::aY (fs.map (·.2)) σ) H' λb H2=>if b=true then te (some v0::some v1::aY (fs.map (·.2)) σ) H2 λy H3=>∃m',m'<m/\W (i+1) m' (ys++[y]) H3 else ∃m',m'<m/\W (i+1) m' ys H2)))
  (hP:∀(D C:Addr) (H':Hp) (s':Shared) (ys:Uh V) (its:Uh Value) (m:Str->Option Value),s2.heap.objs.size<=C->s2.heap.get? D=none->s2.heap.get? C=none->D≠C->H' D=none->H' C=none->s'.heap.Ns C m->s'.heap.PlainList D its.toArray->Vals ys its->ys.length<=sizeLine->Qe H' ys->
   Un (frs X.stack) fp H2 H' s2.heap s'.heap->lE X.prog X.w H' s'.heap->AllBare s'.gens->s'.os=s2.os->P (.ref D) C (.ok .next) s'):
  wpAny (model X.prog X.w) X.A (newList []) (λacc s₃=>wpAny (model X.prog X.w) X.A (newFunctionEnv scope X.env.globals cl [] X.env.qual none .none (some X.env)) (λcenv s₄=>
   codeAny (model X.prog X.w) X.A (.compStart (.ListComp elt [⟨.Tuple [.Name x px,.Name x2 px2] kt ptg,iter,ifs,0⟩] scope pos) 0 (.ref it) acc {cenv with scope:=relabel scope X.env}) (P acc cenv.locals) s₄) E s₃) E s2:=by
 refine wpAny_newObj_type (wpAny_newFunctionEnv hcell (by intro y hy;simp at hy) (λh₁ Aw wj=>?_) hkind);dsimp only at Aw wj ⊢;generalize hH2:s2.heap.push {cls:=.type "list",dict:=none,data:=.seq ([]:Uh Value).toArray}=HH at Aw wj ⊢;have hC:HH.objs.size=s2.heap.objs.size+1:=by rw[<-hH2,Heap.size_push]
 generalize eD:s2.heap.objs.size=D at *;generalize eC:HH.objs.size=C at *;have hDC:D≠C:=by rw[hC];exact ne_of_lt (lt_succ_self _)
 have fresh:∀a,D<=a->s2.heap.get? a=none:=λa ha=>Heap.get?_none_of_le (by rw[eD];exact ha);have hD0:s2.heap.get? D=none:=fresh D (le_refl _);have hC0:s2.heap.get? C=none:=fresh C (by rw[hC];exact le_succ _);have old:∀b o,s2.heap.get? b=some o->h₁.get? b=some o:=λb o e=>wj.extBut b o (λz=>by rw[z,hC0] at e;cases e) (Heap.get?_push_of_some _ (hH2▸Heap.get?_push_of_some _ e));have hacc:h₁.PlainList D #[]:=⟨0,wj.extBut _ _ hDC (Heap.get?_push_of_some _ (hH2▸(eD▸Heap.get?_push_size _ rfl)))⟩;have HD:H2 D=none:=I2.hok.fresh (by rw[eD];exact le_refl _);have HC:H2 C=none:=I2.hok.fresh (by rw[eD,hC];exact le_succ _)
 -- the block's context
 let Y:Cx:=cy X scope cl C (x::x2::fs.map (·.1)) s2 H2 fp
 have lk:∀y c,cl.lookup y=some c->X.env.cells.lookup y=some c:=λy c e=>o9 (y,c) (lookup_mem e);have yok:Y.Ok:=by
  refine⟨I2.ok.mod,hkind,I2.ok.glob,I2.ok.blt,?_,λy z c h1 h2=>I2.ok.inj y z c (lk y c h1) (lk z c h2),λy hy=>?_,λ_ _ h _=>absurd h Bool.false_ne_true,I2.ok.hd,I2.ok.frames,.inl rfl,λb hb=>?_,I2.bs,?_,λb o e hb=>?_,λb hb hz=>?_,I2.stack,I2.qW⟩
  ·show s2.heap.objs.size<=C;rw[eD,hC];exact le_succ _
  ·have hy':(relabel scope X.env).names.lookup y=some .cell\/(relabel scope X.env).names.lookup y=some .free:=hy;have hm:(y,NameKind.free)∈scope.names:=by
    rcases hy' with e|e
    ·rcases iC (lookup_mem e) with q|⟨_,q⟩
     ·exact absurd rfl (hcell _ q)
     ·exact q
    ·rcases iC (lookup_mem e) with q|⟨q,_⟩
     ·exact q
     ·cases q
   obtain⟨c,q⟩:=pq _ hm rfl;exact mem_lookup q
  ·obtain⟨f0,f1,f3,f4,f5,f6⟩:=f2 b hb;refine⟨λz=>?_,λy c e=>f5 y c (lk y c e)⟩;obtain⟨o,ho,_⟩:=T.obj _ _ st2 b hb;have z':b=C:=z;rw[z',hC0] at ho;cases ho
  ·exact Nat.le_trans I2.ok.bsz I2.sz
  ·obtain⟨f0,f1,f3,f4,f5,f6⟩:=f2 b hb
   rcases f4 with z|z
   ·exact I2.ok.noex b o e z
   ·exact absurd (lt_of_lt_of_le (Heap.lt_size e) (Nat.le_trans I2.ok.bsz z)) (Nat.lt_irrefl _)
  ·obtain⟨f0,f1,f3,f4,f5,f6⟩:=f2 b hb
   rcases mem_cons.mp (I2.kH b hz) with z|z
   ·exact f1 z
   ·exact f3 z
 let τ:St:=none::none::aY (fs.map (·.2)) σ
 have hτ:τ.length=(x::x2::fs.map (·.1)).length:=by simp[τ,aY]
 obtain⟨mL,hnL,hlL⟩:=id I2.loc;have yI:Inv Y [] τ H2 {s2 with heap:=h₁,toks:=s2.toks+([]:Uh (Str×Value)).length}:=by
  refine⟨yok,rfl,I2.bare,Un.kept old,⟨_,Aw,λi y v e1 e2 e3=>?_⟩,λy c e=>?_,HC,λy c e=>I2.freeC y c (lk y c e),(λp hp=>nomatch hp),I2.hok.kept old,hτ⟩
  ·cases i with
   |zero=>simp[τ] at e2
   |succ i0=>
    cases i0 with
    |zero=>simp[τ] at e2
    |succ i=>
    have e1':(fs.map (·.1))[i]?=some y:=e1;have e2':(aY (fs.map (·.2)) σ)[i]?=some (some v):=by simpa [τ] using e2
    rw[getElem?_map] at e1';cases q:fs[i]? with
    |none=>rw[q] at e1';cases e1'
    |some f=>
     rw[q] at e1';have ey:f.1=y:=Option.some.inj e1';obtain⟨g1,g2,g3⟩:=hfs f (mem_of_getElem? q);have pA:(σ[f.2]?).join=some v:=by
      unfold aY at e2';rw[getElem?_map,getElem?_map,q] at e2';exact Option.some.inj e2'
     have e2c:σ[f.2]?=some (some v):=by
      cases r:σ[f.2]? with
      |none=>rw[r] at pA;cases pA
      |some o=>rw[r] at pA;have pA:o=some v:=pA;rw[pA]
     have vis:RI X.env.scope f.1:=by
      rcases g2 with g|g
      ·exact .inr (.inl g)
      ·exact .inr (.inr g)
     obtain⟨u,ru,lu⟩:=hlL f.2 f.1 v g1 e2c vis;refine⟨u,ru,?_⟩;have lu':∃c,X.env.cells.lookup f.1=some c/\s2.heap.IsCell c (some u):=by
      rcases lu with⟨k,_⟩|⟨_,c,e,z⟩
      ·rcases g2 with g|g
       ·rw[k] at g;cases g
       ·rw[k] at g;cases g
      ·exact⟨c,e,z⟩
     obtain⟨c,hc1,hc2⟩:=lu';obtain⟨c',hm⟩:=pq _ (lookup_mem g3) rfl;have hm':=o9 _ hm;obtain⟨c2,hl2⟩:=mem_lookup hm;have:=lk _ _ hl2;rw[hc1] at this;cases this;obtain⟨oc,ho,hdt⟩:=hc2;refine .inr ⟨?_,c,by rw[<-ey];exact hl2,oc,old c oc ho,hdt⟩;rw[<-ey];exact eN g3
  ·obtain⟨v,oc,ho,hdt⟩:=I2.cell y c (lk y c e);exact⟨v,oc,old c oc ho,hdt⟩
 have hx':Y.env.scope.names.lookup x=some .local:=lookup_relabel_local hx;have PB:Y.env.scope.names.lookup x2=some .local:=lookup_relabel_local hx2;have fpD:∀b∈fp,b≠D:=λb hb z=>by
  obtain⟨o,ho,_⟩:=T.obj _ _ st2 b hb;rw[z,hD0] at ho;cases ho
 have Ko:D∉frs X.stack:=λhz=>by
  rcases mem_cons.mp (I2.kH D hz) with z|z
  ·have:=I2.lt;rw[eD,<-z] at this;exact absurd this (Nat.lt_irrefl _)
  ·exact I2.MP (by rw[eD];exact le_refl _) z
 have GS:∀y c,cl.lookup y=some c->c≠D:=λy c e z=>by
  obtain⟨v,oc,ho,_⟩:=I2.cell y c (lk y c e);rw[z,hD0] at ho;cases ho
 have sr:∀{H':Hp} {oD:Obj},(∀b∈fp,H' b=none)->∀b∈fp,sj Y [(D,oD)] H' b:=λhn b hb=>by
  refine⟨hn b hb,(yok.exf b hb).1,yok.exfs b hb,.inl hb,(yok.exf b hb).2,λp hp z=>?_⟩;have hp':p∈[(D,_)]:=hp;rw[mem_singleton.mp hp'] at z;exact fpD b hb z.symm
 obtain⟨m0,w0⟩:=w0;have loop:∀s₃:Shared,s₃={s2 with heap:=h₁,toks:=s2.toks+([]:Uh (Str×Value)).length}->
   codeAny (model X.prog X.w) X.A (.compLoop (.ListComp elt [⟨.Tuple [.Name x px,.Name x2 px2] kt ptg,iter,ifs,0⟩] scope pos) 0 (.ref it) (.ref D) (compEnvC scope cl C X.env)) (P (.ref D) C) s₃:=by
  rintro s₃ rfl;refine m7 (λn s'=>∃i ys its H',Inv Y [] τ H' s'/\tn i s'.heap/\(∀b∈fp,H' b=none)/\H' D=none/\s'.heap.PlainList D (List.toArray its)/\Vals ys its/\W i n ys H') ?_ m0
   ⟨0,[],[],H2,yI,T.keep _ _ _ st2 (λb _ o e=>old b o e),λb hb=>(f2 b hb).1,HD,hacc,.nil,w0⟩
  rintro n s3 ⟨i,ys,its,H3,I3,st3,fr3,hD3,⟨n0,hoD⟩,rv3,w3⟩;obtain⟨hz,ht⟩:=turn i n ys H3 w3;have I3':Inv Y [(D,{cls:=.type "list",data:=.seq its.toArray n0})] τ H3 s3:=I3.lF λp hp=>by
   rw[mem_singleton.mp hp];exact⟨hoD,hD3,hDC,Ko,λv z=>by cases z⟩
  rcases ht with⟨stop,q⟩|⟨go,hz',step⟩
  ·refine cM (T.done Y rfl rfl rfl hc i _ s3 τ H3 _ I3' (sr fr3) st3 stop) λr s4 ⟨hr,I4⟩=>?_;subst hr;obtain⟨m,hn,_⟩:=I4.loc;exact hP D C H3 s4 ys its m (by rw[hC];exact le_succ _) hD0 hC0 hDC hD3 I4.free hn ⟨n0,(I4.pin (D,_) (mem_append_right _ mem_cons_self)).1⟩ rv3 hz q I4.base I4.hok I4.bare I4.os
  ·refine cM (T.item Y rfl rfl rfl hc i _ s3 τ H3 _ I3' (sr fr3) st3 go) λr s4 ⟨u,hr,h4⟩=>?_;subst hr;refine cM h4 λ_ s5 ⟨x',H5,I5,r5,y5,st5,fr5⟩=>?_;have I5':=I5.pinned (fp:=fp) (sr fr5) (T.obj _ _ st5);obtain⟨pt,v0,v1,ex',hqt,step'⟩:=step x' H5 y5;refine cM (Gu (X:=Y) (pos:=ptg) (k:=kt) (n:=2) hc (sf (qY (X:=Y) (i:=0) (pos:=px) hnd rfl (.inl hx') (.inr hx')) (sf (qY (X:=Y) (i:=1) (pos:=px2) hnd rfl (.inl PB) (.inr PB)) CA)) rfl rfl _ s5 τ H5 x' u (λσ' H'=>σ'=some v0::some v1::aY (fs.map (·.2)) σ/\H'=H5) I5' r5 ⟨pt,[v0,v1],ex',hqt,rfl,v0,[v1],rfl,v1,[],rfl,rfl,rfl,rfl⟩) λ_ s6 ⟨σ6,H6,I6,e6,e6'⟩=>?_;subst e6 e6';have back:∀{σ':St} {H':Hp} {s':Shared},Inv Y ([(D,{cls:=.type "list",data:=.seq its.toArray n0})]++oX fp s5.heap) (some v0::some v1::aY (fs.map (·.2)) σ) H' s'->
     Inv Y [] τ H' s'/\tn (i+1) s'.heap/\(∀b∈fp,H' b=none)/\H' D=none/\s'.heap.PlainList D its.toArray:=λ{σ' H' s'} J'=>by
    refine⟨(J'.lF (pins':=[]) (λp hp=>absurd hp (by simp))).weak rfl λj v e=>?_,T.keep _ _ _ st5 λb hb o e=>(J'.pin (b,o) (mem_append_right _ (mem_append_right _ (fM hb e)))).1,λb hb=>?_,?_,n0,?_⟩
    ·cases j with
     |zero=>cases e
     |succ j0=>
      cases j0 with
      |zero=>cases e
      |succ j=>exact e
    ·obtain⟨o,e,d⟩:=T.obj _ _ st5 b hb;exact(J'.pin (b,o) (mem_append_right _ (mem_append_right _ (fM hb e)))).2.1
    ·exact(J'.pin (D,_) (mem_append_right _ (mem_append_left _ mem_cons_self))).2.1
    ·exact(J'.pin (D,_) (mem_append_right _ (mem_append_left _ mem_cons_self))).1
   refine cM ((hb cl C s2 H2 fp).1 _ s6 _ _ _ I6 step') λok s7 ⟨H7,I7,q7⟩=>?_;cases ok with
   |false=>
    obtain⟨m',hm,w7⟩:=q7;obtain⟨a1,a2,a3,a4,a5⟩:=back (σ':=τ) I7;exact⟨m',hm,i+1,ys,its,H7,a1,a2,a3,a4,a5,rv3,w7⟩
   |true=>
    refine cM ((hb cl C s2 H2 fp).2 _ s7 _ _ _ I7 q7) λy s8 ⟨yv,H8,I8,ry,m',hm,w8⟩=>?_;obtain⟨a1,a2,a3,a4,a5⟩:=back (σ':=τ) I8;have hlen:=rv3.length;refine wpAny_list_append_plain (hsz:=by rw[size_toArray,<-hlen];exact hz) a5 λh' hl' hs'=>?_;refine⟨m',hm,i+1,ys++[yv],its++[y],H8,a1.turned (t':=s8.toks) (it:=D) (λb o hb e=>hs'.extBut b o hb e) a4 hDC (.inr (by show s2.heap.objs.size<=D;rw[eD];exact le_refl _)) (λy c e=>GS y c e) (λp hp=>absurd (show p∈([]:Uh (Addr×Obj)) from hp) (by simp)),T.keep _ _ _ a2 λb hb o e=>hs'.extBut b o (fpD b hb) e,a3,a4,by simpa using hl',rv3.append (.cons ry .nil),w8⟩
 exact codeAny_compStart_list (loop _ rfl) (T.self X.A 0 _ _ _ (T.keep _ _ _ st2 (λb _ o e=>old b o e)) (loop _ rfl))
theorem Ho{elt iter:Expr}{x x2:Str}{px px2 ptg pos:Pos}{kt:Nat}{ifs:Uh Expr}{scope:Scope}(fs:Uh (Str×Nat)){wi:TI}{tt:TT}{te:TE}
  (hc:X.calm=true) (hkind:scope.kind=.function) (hcell:∀y∈scope.names,y.2≠.cell) (hnames:∀y∈scope.names,y.2=.local->scope.names.lookup y.1=some .local)
  (hfree:∀y∈scope.names,y.2=.free->X.env.kindOf y.1=some .cell\/X.env.kindOf y.1=some .free) (hx:scope.names.lookup x=some .local) (hx2:scope.names.lookup x2=some .local)
  (hnd:(x::x2::fs.map (·.1)).Nodup) (hfs:∀f∈fs,X.N[f.2]?=some f.1/\(X.env.kindOf f.1=some .cell\/X.env.kindOf f.1=some .free)/\scope.names.lookup f.1=some .free)
  (hi:PI X (.Tuple [.Name x px,.Name x2 px2] kt ptg) iter wi)
  (hb:∀(cl:Uh (Str×Addr)) (C:Addr) (s₀:Shared) (H₀:Hp) (ex:Uh Addr),GR (cy X scope cl C (x::x2::fs.map (·.1)) s₀ H₀ ex) ifs tt/\PE (cy X scope cl C (x::x2::fs.map (·.1)) s₀ H₀ ex) elt te)
  (hs:∀x,foldedSetIterable iter X.env x=pure x:=by intro _;rfl):
  PE X (.ListComp elt [⟨.Tuple [.Name x px,.Name x2 px2] kt ptg,iter,ifs,0⟩] scope pos) (jt X.K wi (fs.map (·.2)) tt te):=by
 intro pins s σ H Q I h;obtain⟨cl,hclos,o9,pq⟩:=fT (env:=X.env) (scope:=scope) λy hy hk=>I.ok.has y.1 (hfree y hy hk);rw[eval_ListComp];refine wpAny_comprehension_free (use:=none) rfl hs hclos hkind hnames (cM (hi pins s σ H _ I h) λv s1 h1=>cM h1 λitv s2 h2=>?_);obtain⟨it,fp,tn,J,H2,e,I2,T,st2,f2,W,w0,turn⟩:=h2;subst e;refine qu (pins:=pins) hc hkind hcell hx hx2 hnd hfs hb o9 pq I2 T st2 f2 W (λH ys=>∀p,H p=none->Q (.ref p) (upd H p (.lst ys))) w0 turn ?_;intro D C H' s' ys its m hCs hD hC hDC HD HC hn pl rv hz q u hok hg ho;exact⟨m,hn,λh' hs'=>⟨.ref D,_,ji (tk:=s'.toks) I2 f2 hD hC hDC HD HC pl rv hz u hok hg ho hs',rfl,q D HD⟩⟩
theorem Hq{i:Nat}{y:Str}{py spos:Pos}{elt iter:Expr}{x x2:Str}{px px2 ptg pos:Pos}{kt:Nat}{ifs:Uh Expr}{scope:Scope}(fs:Uh (Str×Nat)){wi:TI}{tt:TT}{te:TE}
  (hN:X.N.Nodup) (hy:X.N[i]?=some y) (hyl:X.env.scope.names.lookup y=some .local)
  (hc:X.calm=true) (hkind:scope.kind=.function) (hcell:∀y∈scope.names,y.2≠.cell) (hnames:∀y∈scope.names,y.2=.local->scope.names.lookup y.1=some .local)
  (hfree:∀y∈scope.names,y.2=.free->X.env.kindOf y.1=some .cell\/X.env.kindOf y.1=some .free) (hx:scope.names.lookup x=some .local) (hx2:scope.names.lookup x2=some .local)
  (hnd:(x::x2::fs.map (·.1)).Nodup) (hfs:∀f∈fs,X.N[f.2]?=some f.1/\(X.env.kindOf f.1=some .cell\/X.env.kindOf f.1=some .free)/\scope.names.lookup f.1=some .free)
  (hi:PI X (.Tuple [.Name x px,.Name x2 px2] kt ptg) iter wi)
  (hb:∀(cl:Uh (Str×Addr)) (C:Addr) (s₀:Shared) (H₀:Hp) (ex:Uh Addr),GR (cy X scope cl C (x::x2::fs.map (·.1)) s₀ H₀ ex) ifs tt/\PE (cy X scope cl C (x::x2::fs.map (·.1)) s₀ H₀ ex) elt te)
  (hsw:swapsWith (.ListComp elt [⟨.Tuple [.Name x px,.Name x2 px2] kt ptg,iter,ifs,0⟩] scope pos) (some (.Name y py)) spos.line X.env=pure true)
  (hs:∀x,foldedSetIterable iter X.env x=pure x:=by intro _;rfl):
  PS X (.Assign [.Name y py] (.ListComp elt [⟨.Tuple [.Name x px,.Name x2 px2] kt ptg,iter,ifs,0⟩] scope pos) spos) (gJ X.K i wi (fs.map (·.2)) tt te):=by
 intro pins s σ H D' I h;obtain⟨cl,hclos,o9,pq⟩:=fT (env:=X.env) (scope:=scope) λy hy hk=>I.ok.has y.1 (hfree y hy hk);rw[exec_Assign_Name_used _ _ _ _ hsw];refine wpAny_bind (wpAny_standAt (wpAny_bind ?_));show wpAny _ X.A (do let _ <-comprehension (.ListComp elt [⟨.Tuple [.Name x px,.Name x2 px2] kt ptg,iter,ifs,0⟩] scope pos) scope X.env _ (newList []) false (eval iter X.env) (some (assign (.Name y py) X.env))) _ _ s
 refine wpAny_bind (wpAny_mono (wpAny_comprehension_free (use:=some (assign (.Name y py) X.env)) (Q:=λ_ s'=>SP X pins D' .next s') rfl hs hclos hkind hnames
  (cM (hi pins s σ H _ I h) λv s1 h1=>cM h1 λitv s2 h2=>?_)) (λ_ s' hq=>wpAny_pure (wpAny_pure hq)) λ_ _ e=>e)
 obtain⟨it,fp,tn,J,H2,e,I2,T,st2,f2,W,w0,turn⟩:=h2;subst e;refine qu (pins:=pins) hc hkind hcell hx hx2 hnd hfs hb o9 pq I2 T st2 f2 W (λH ys=>∀p,H p=none->D'.nx (σ.set i (some (.ref p))) (upd H p (.lst ys))) w0 turn ?_;intro D C H' s' ys its m hCs hD hC hDC HD HC hn pl rv hz q u hok hg ho;show wpAny _ X.A (assign (.Name y py) X.env (.ref D)) _ _ _
 -- store,with the block's frame still there
 have J:=ji (tk:=s'.toks) I2 f2 hD hC hDC HD HC pl rv hz u hok hg ho (Heap.SameBut.refl C s'.heap);refine wpAny_assign_Name (oU J hN hy (.inl hyl) (v:=.ref D) (u:=.ref D) rfl (λs3 J3 ⟨a,sb,ha⟩=>?_) (.inr hyl));have exL:∃o,s2.heap.get? X.env.locals=some o:=let ⟨_,⟨o,_,_,e,_⟩,_⟩:=I2.loc;⟨o,e⟩;have yM:∀z c,X.env.cells.lookup z=some c->c≠C:=λz c e q=>by
  obtain⟨v,oc,ho,_⟩:=I2.cell z c e;rw[q,hC] at ho;cases ho
 have aC:a≠C:=by
  rcases ha with z|z
  ·obtain⟨o,e⟩:=exL;intro q;rw[<-z,q,hC] at e;cases e
  ·exact yM y a z
 have LC:C≠X.env.locals:=λq=>by
  obtain⟨o,e⟩:=exL;rw[<-q,hC] at e;cases e
 refine⟨m,hn.sameBut sb (Ne.symm aC),λh' hs'=>?_⟩;exact⟨_,_,J3.turned (t':=s3.toks) (it:=C) (λb o hb e=>hs'.extBut b o hb e) (by rw[aE (Ne.symm hDC)];exact HC) LC (.inr (Nat.le_trans I2.sz hCs)) yM (λp hp z=>by
  have:=(I2.pin p hp).1;rw[z,hC] at this;cases this),q D HD⟩
end
section
variable{X:Cx}{iter:Expr}{x x2:Str}{px px2 ptg pos:Pos}{kt:Nat}
def lK(names:Uh (Str×NameKind))(outer:Uh (Str×NameKind))(N:Uh Str)(x x2:Str)(fs:Uh (Str×Nat)):Bool:=
 gT names outer N x fs&&(names.lookup x2==some .local)&&decide ((x::x2::fs.map (·.1)).Nodup)
theorem sY{elt:Expr}{ifs:Uh Expr}{scope:Scope}(fs:Uh (Str×Nat)){wi:TI}{tt:TT}{te:TE}
  (hi:QI X (.Tuple [.Name x px,.Name x2 px2] kt ptg) iter wi)
  (hb:∀(cl:Uh (Str×Addr)) (C:Addr) (s₀:Shared) (H₀:Hp) (ex:Uh Addr),O6 (cy X scope cl C (x::x2::fs.map (·.1)) s₀ H₀ ex) ifs tt/\QE (cy X scope cl C (x::x2::fs.map (·.1)) s₀ H₀ ex) elt te)
  (hc:X.calm=true:=by rfl') (hk:scope.kind=.function:=by rfl') (hl:lK scope.names X.env.scope.names X.N x x2 fs=true:=by rfl')
  (hs:∀x,foldedSetIterable iter X.env x=pure x:=by intro _;rfl'):
  QE X (.ListComp elt [⟨.Tuple [.Name x px,.Name x2 px2] kt ptg,iter,ifs,0⟩] scope pos) (jt X.K wi (fs.map (·.2)) tt te):=by
 unfold lK at hl;simp only[and_eq_true,beq_iff_eq,decide_eq_true_eq] at hl;have O:=lH (X:=X) hk hl.1.1;exact⟨Ho fs hc O.kind O.cell O.names O.free O.hx hl.1.2 hl.2 O.fs hi.p (λcl C s₀ H₀ ex=>⟨(hb cl C s₀ H₀ ex).1.p,(hb cl C s₀ H₀ ex).2.p⟩) hs⟩
theorem yT{i:Nat}{y:Str}{py spos:Pos}{elt:Expr}{ifs:Uh Expr}{scope:Scope}(fs:Uh (Str×Nat)){wi:TI}{tt:TT}{te:TE}
  (hN:X.N.Nodup) (hi:QI X (.Tuple [.Name x px,.Name x2 px2] kt ptg) iter wi)
  (hb:∀(cl:Uh (Str×Addr)) (C:Addr) (s₀:Shared) (H₀:Hp) (ex:Uh Addr),O6 (cy X scope cl C (x::x2::fs.map (·.1)) s₀ H₀ ex) ifs tt/\QE (cy X scope cl C (x::x2::fs.map (·.1)) s₀ H₀ ex) elt te)
  (hy:X.N[i]?=some y:=by rfl') (hyl:X.env.scope.names.lookup y=some .local:=by rfl') (hc:X.calm=true:=by rfl')
  (hk:scope.kind=.function:=by rfl') (hl:lK scope.names X.env.scope.names X.N x x2 fs=true:=by rfl')
  (hsw:swapsWith (.ListComp elt [⟨.Tuple [.Name x px,.Name x2 px2] kt ptg,iter,ifs,0⟩] scope pos) (some (.Name y py)) spos.line X.env=pure true:=by rfl')
  (hs:∀x,foldedSetIterable iter X.env x=pure x:=by intro _;rfl'):
  QS X (.Assign [.Name y py] (.ListComp elt [⟨.Tuple [.Name x px,.Name x2 px2] kt ptg,iter,ifs,0⟩] scope pos) spos) (gJ X.K i wi (fs.map (·.2)) tt te):=by
 unfold lK at hl;simp only[and_eq_true,beq_iff_eq,decide_eq_true_eq] at hl;have O:=lH (X:=X) hk hl.1.1;exact⟨Hq fs hN hy hyl hc O.kind O.cell O.names O.free O.hx hl.1.2 hl.2 O.fs hi.p (λcl C s₀ H₀ ex=>⟨(hb cl C s₀ H₀ ex).1.p,(hb cl C s₀ H₀ ex).2.p⟩) hsw hs⟩
end
theorem rf{K:W.Frag}{tl:TE}{a:Addr}{xs:Uh V}{σ:St}{fs:Uc}{tt:TT}{te:TE}{H:Hp}{Q:VK}(ha:∀Q:VK,Q (.ref a) H->tl σ H Q)(hq:aX K H a xs)(Pv:Nat->Uh V->Hp->Prop)(h0:Pv 0 [] H)(hl:∀i ys H,i<=xs.length->Pv i ys H->aX K H a xs/\ys.length<=i)(hn:xs.length<=sizeLine)
  (hs:∀i x ys H,xs[i]?=some x->Pv i ys H->∃p v0 v1,x=.ref p/\dU K H p [v0,v1]/\∀R:Uh V->Hp->Prop,(∀ys' H',Pv (i+1) ys' H'->R ys' H')->tt (some v0::some v1::aY fs σ) H λb H2=>if b=true then te (some v0::some v1::aY fs σ) H2 λy H3=>R (ys++[y]) H3 else R ys H2)
  (hd:∀ys H,Pv xs.length ys H->∀p,H p=none->Q (.ref p) (upd H p (.lst ys))):jt K (bS K tl) fs tt te σ H Q:=by
 refine ha _ ⟨a,rfl,⟨xs,hq⟩,?_⟩;refine⟨λi m ys H=>m=xs.length-i/\i<=xs.length/\Pv i ys H,⟨xs.length,by simp,zero_le _,h0⟩,?_⟩;rintro i m ys H ⟨rfl,hi,p⟩;obtain⟨hq,hle⟩:=hl i ys H hi p;refine⟨by omega,?_⟩
 by_cases hlt:i<xs.length
 ·refine .inr ⟨⟨xs,xs[i],hq,by simp[hlt]⟩,by omega,λx H' y=>?_⟩
  obtain⟨e,y⟩:=y;subst e;obtain⟨pt,v0,v1,e,hqt,h⟩:=hs i x ys _ (y xs hq) p;exact⟨pt,v0,v1,e,hqt,h (λys' H'=>∃m',m'<xs.length-i/\m'=xs.length-(i+1)/\i+1<=xs.length/\Pv (i+1) ys' H') λys' H' q=>⟨xs.length-(i+1),by omega,rfl,hlt,q⟩⟩
 ·have e:i=xs.length:=by omega
  subst e;exact .inl ⟨⟨xs,hq,le_refl _⟩,hd ys H p⟩
end L2
namespace MaxD
open PySem PyProof.Rows
end MaxD
namespace L2
open PySem PySem.Spec PyProof.Rows
section
variable{X:Cx}{e o value d:Expr}{es:Uh Expr}{f x m:Str}{pos pos' p apos kp:Pos}{ta tv td:TE}{t:TA}
theorem bh{n:Int}(hm:∃t,X.mg x=some (.int n t))(hg:X.env.kindOf x=some .globalImplicit:=by rfl')(hd:(x==("__debug__":Str))=false:=by rfl'):QE X (.Name x pos) (tC (.int n)):=by
 obtain⟨t,hm⟩:=hm;exact⟨Cz (v:=.int n) hg hm ⟨t,rfl⟩ hd⟩
theorem cX(he:QE X e ta)(hb:attributeBase e f X.env (eval e X.env)=eval e X.env:=by rfl'):QE X (.Attribute e f pos) (eK X.K ta f):=⟨Ng he.p hb⟩
theorem gY(ha:QE X o ta)(hv:QE X value tv)(hs:swapsWith value (some (.Attribute o f pos')) pos.line X.env=pure false:=by rfl'):QS X (.Assign [.Attribute o f pos'] value pos) (iK X.K ta tv f):=⟨Nh ha.p hv.p hs⟩
variable{CX:Ab}{k:Nat}{g C:Addr}{fd:FuncData}{ps:Uh Str}{sp:Sp}{E:XK}
theorem gA{pl:Sem Bool}(he:QE X o ta)(c:EH X.K C)(hm:Meth X.K C m g)(F:jg X.prog X.w X.K X.mg X.base CX k g fd ps sp)(hr:cT k X.A)(hb:Binds X.K fd ps [])(hx:Passes CX X E)(ha:QA X (e::es) t)
  (hst:starEach (e::es) X.env=(false,eval e X.env)::starEach es X.env:=by rfl') (hpl:(backTo pos (starEach es X.env)).any (·.1)=false:=by rfl')
  (ht:eval (.Call (.Attribute o m apos) (e::es) [] pos) X.env=(do
   let ov <-eval o X.env
   standAt apos.atName
   let (f,first) <-holding [ov] (getMethod ov m pl)
   callWith pos f first (backTo pos (starEach (e::es) X.env)) (backToKw pos (keywordEach [] X.env))):=by rfl):
  QE X (.Call (.Attribute o m apos) (e::es) [] pos) (ck C m sp [] E ta t):=⟨KP he.p c hm F hr hb .nil hx ha.p hst hpl ht⟩
theorem cO{pl:Sem Bool}(he:QE X o ta)(c:EH X.K C)(hm:Meth X.K C m g)(F:jg X.prog X.w X.K X.mg X.base CX k g fd ps sp)(hr:cT k X.A)(hb:Binds X.K fd ps [])(hx:Passes CX X E)
  (ht:eval (.Call (.Attribute o m apos) [] [] pos) X.env=(do
   let ov <-eval o X.env
   standAt apos.atName
   let (f,first) <-holding [ov] (getMethod ov m pl)
   callWith pos f first (backTo pos (starEach [] X.env)) (backToKw pos (keywordEach [] X.env))):=by rfl):
  QE X (.Call (.Attribute o m apos) [] [] pos) (ck C m sp [] E ta av):=⟨GD he.p c hm F hr hb .nil hx ht⟩
theorem wG(M:Mk X.K C g)(F:jg X.prog X.w X.K X.mg X.base CX k g fd ps sp)(hr:cT (k+1) X.A)(hm:X.mg x=some (.ref C))(hb:Binds X.K fd ps [])(hx:Passes CX X E)(ha:QA X (e::es) t)
  (hg:X.env.kindOf x=some .globalImplicit:=by rfl') (hdb:(x==("__debug__":Str))=false:=by rfl') (he:starEach (e::es) X.env=(false,eval e X.env)::starEach es X.env:=by rfl') (hpl:(backTo pos (starEach es X.env)).any (·.1)=false:=by rfl'):
  QE X (.Call (.Name x p) (e::es) [] pos) (u5 C sp [] E t):=⟨KQ M F hr hg hm hb .nil hx ha.p hdb he hpl⟩
end
end L2
namespace MM
def val(K:Nat):Uc->Nat->Nat
 |_,0=>0
 |[],_+1=>0
 |c::m,n+1=>(c-97)*K^n+val K m n
def Ls(K:Nat)(m:Uc):Prop:=∀c∈m,97<=c/\c<97+K
def Na(m:Uc):Prop:=∀c,m.getLast?=some c->c≠97
structure Mark(K:Nat)(m:Uc):Prop where
 ls:Ls K m
 na:Na m
 ne:m≠[]
theorem Ls.tail{K c:Nat}{m:Uc}(h:Ls K (c::m)):Ls K m:=λx hx=>h x (mem_cons_of_mem _ hx)
theorem Ls.head{K c:Nat}{m:Uc}(h:Ls K (c::m)):97<=c/\c<97+K:=h c mem_cons_self
theorem Ls.nil(K:Nat):Ls K []:=λ_ h=>nomatch h
theorem Ls.app{K:Nat}{a b:Uc}(h:Ls K a)(h':Ls K b):Ls K (a++b):=λc hc=>(mem_append.mp hc).elim (h c) (h' c)
theorem Ls.mono{K L:Nat}{m:Uc}(h:Ls K m)(hl:K<=L):Ls L m:=λc hc=>⟨(h c hc).1,by have:=(h c hc).2;omega⟩
theorem Ls.sub{K:Nat}{a b:Uc}(h:Ls K b)(s:∀c∈a,c∈b):Ls K a:=λc hc=>h c (s c hc)
theorem Na.nil:Na []:=λc h=>by simp at h
theorem Na.tail{c:Nat}{m:Uc}(h:Na (c::m)):Na m:=λx hx=>by
 cases m with
 |nil=>simp at hx
 |cons d r=>exact h x (by rw[List.getLast?_cons_cons];exact hx)
theorem Na.app{a b:Uc}(h:Na b)(hb:b≠[]):Na (a++b):=λc hc=>by
 rw[List.getLast?_append] at hc;cases e:b.getLast? with
 |none=>exact absurd (List.getLast?_eq_none_iff.mp e) hb
 |some d=>rw[e] at hc;exact h c (by rw[e];exact hc)
theorem val_zero(K:Nat)(m:Uc):val K m 0=0:=by cases m<;>rfl
theorem dZ(K n:Nat):val K [] n=0:=by cases n<;>rfl
theorem b6(K c n:Nat)(m:Uc):val K (c::m) (n+1)=(c-97)*K^n+val K m n:=rfl
theorem gp{K:Nat}(hK:0<K):∀{m:Uc} (n:Nat),Ls K m->val K m n<K^n
 |m,0,_=>by rw[val_zero];exact Nat.one_pos
 |[],n+1,_=>by rw[dZ];exact Nat.pow_pos hK
 |c::m,n+1,h=>by
  have ih:=gp hK n h.tail;have hc:=h.head;rw[b6,pow_succ];have h1:(c-97)*K^n+K^n<=K^n*K:=by
   have:(c-97+1)*K^n<=K*K^n:=mul_le_mul_right _ (by omega);rw[add_mul,one_mul,mul_comm K] at this;exact this
  omega
theorem rg{K:Nat}(hK:0<K):∀{m:Uc} (n:Nat),Ls K m->Na m->m≠[]->m.length<=n->0<val K m n
 |[],_,_,_,h,_=>absurd rfl h
 |c::m,0,_,_,_,h=>by simp at h
 |[c],n+1,h,hn,_,_=>by
  have h1:=h.head;have h2:=hn c (by simp);rw[b6,dZ];have:0<(c-97)*K^n:=Nat.mul_pos (by omega) (Nat.pow_pos hK);omega
 |c::d::m,n+1,h,hn,_,hl=>by
  have:=rg hK n h.tail hn.tail (cons_ne_nil _ _) (by simpa using hl);rw[b6];omega
theorem ny{a b x y P:Nat}(hx:x<P)(hy:y<P):a*P+x<b*P+y↔a<b\/a=b/\x<y:=by
 constructor
 ·intro h
  rcases lt_trichotomy a b with g|g|g
  ·exact .inl g
  ·subst g;exact .inr ⟨rfl,by omega⟩
  ·have:(b+1)*P<=a*P:=mul_le_mul_right _ g;rw[add_mul] at this;omega
 ·rintro(g|⟨rfl,g⟩)
  ·have:(a+1)*P<=b*P:=mul_le_mul_right _ g;rw[add_mul] at this;omega
  ·omega
theorem Hr{a b x y P:Nat}(hx:x<P)(hy:y<P):a*P+x=b*P+y↔a=b/\x=y:=by
 constructor
 ·intro h
  rcases lt_trichotomy a b with g|g|g
  ·have:(a+1)*P<=b*P:=mul_le_mul_right _ g;rw[add_mul] at this;omega
  ·subst g;exact⟨rfl,by omega⟩
  ·have:(b+1)*P<=a*P:=mul_le_mul_right _ g;rw[add_mul] at this;omega
 ·rintro⟨rfl,rfl⟩;rfl
theorem qv{c d:Nat}(hc:97<=c)(hd:97<=d):(c-97<d-97↔c<d)/\(c-97=d-97↔c=d):=⟨by omega,by omega⟩
theorem AF{K:Nat}(hK:0<K):∀{a b:Uc} (n:Nat),Ls K a->Ls K b->Na a->Na b->a.length<=n->b.length<=n->(a<b↔val K a n<val K b n)
 |[],[],n,_,_,_,_,_,_=>by rw[dZ];simp
 |[],c::b,n,_,hb,_,nb,_,lb=>by
  rw[dZ];have:=rg hK n hb nb (cons_ne_nil _ _) lb;simp[this]
 |c::a,[],n,_,_,_,_,_,_=>by rw[dZ];simp
 |c::a,d::b,0,_,_,_,_,la,_=>by simp at la
 |c::a,d::b,n+1,ha,hb,na,nb,la,lb=>by
  have ih:=AF hK n ha.tail hb.tail na.tail nb.tail (by simpa using la) (by simpa using lb);rw[cons_lt_cons_iff,b6,b6,ny (gp hK n ha.tail) (gp hK n hb.tail),(qv ha.head.1 hb.head.1).1,(qv ha.head.1 hb.head.1).2,ih]
theorem CY{K:Nat}(hK:0<K):∀{l x:Uc} (n:Nat),Ls K l->Ls K x->Na x->x.length=n->(l<x↔val K l n<val K x n)
 |l,[],n,_,_,_,e=>by
  obtain rfl:n=0:=by simpa using e.symm
  rw[val_zero,val_zero];simp
 |[],c::x,n,_,hx,nx,e=>by
  rw[dZ];have:=rg hK n hx nx (cons_ne_nil _ _) (Nat.le_of_eq e);simp[this]
 |d::l,c::x,0,_,_,_,e=>by simp at e
 |d::l,c::x,n+1,hl,hx,nx,e=>by
  have ih:=CY hK n hl.tail hx.tail nx.tail (by simpa using e);rw[cons_lt_cons_iff,b6,b6,ny (gp hK n hl.tail) (gp hK n hx.tail),(qv hl.head.1 hx.head.1).1,(qv hl.head.1 hx.head.1).2,ih]
theorem yU{K:Nat}(hK:0<K):∀{x h:Uc} (n:Nat),Ls K h->Ls K x->Na h->x.length=n->(x<h↔val K x n<val K h n\/(val K x n=val K h n/\n<h.length))
 |[],h,n,_,_,_,e=>by
  obtain rfl:n=0:=by simpa using e.symm
  rw[val_zero,val_zero];cases h<;>simp
 |c::x,[],n,_,_,_,_=>by rw[dZ];simp
 |c::x,d::h,0,_,_,_,e=>by simp at e
 |c::x,d::h,n+1,hh,hx,nh,e=>by
  have ih:=yU hK n hh.tail hx.tail nh.tail (by simpa using e);have v1:=gp hK n hx.tail;have v2:=gp hK n hh.tail;rw[cons_lt_cons_iff,b6,b6,ny v1 v2,Hr v1 v2,(qv hx.head.1 hh.head.1).1,(qv hx.head.1 hh.head.1).2,ih,length_cons,Nat.add_lt_add_iff_right];constructor
  ·rintro(g|⟨g,g'|g'⟩)
   ·exact .inl (.inl g)
   ·exact .inl (.inr ⟨g,g'⟩)
   ·exact .inr ⟨⟨g,g'.1⟩,g'.2⟩
  ·rintro((g|g)|⟨⟨g,g'⟩,g2⟩)
   ·exact .inl g
   ·exact .inr ⟨g.1,.inl g.2⟩
   ·exact .inr ⟨g,.inr ⟨g',g2⟩⟩
def Lj(m:Uc)(i:Nat):Nat:=match m[i]? with|some c=>c-97|none=>0
theorem val_succ(K:Nat):∀(m:Uc) (n:Nat),val K m (n+1)=val K m n*K+Lj m n
 |[],n=>by rw[dZ,dZ];simp[Lj]
 |c::m,0=>by rw[b6,val_zero,val_zero];simp[Lj]
 |c::m,n+1=>by
  have ih:=val_succ K m n;rw[b6,ih,b6,pow_succ,add_mul,Nat.mul_assoc,<-Nat.add_assoc];simp[Lj]
def low(K r:Nat):Nat->Uc
 | 0=>[]
 |n+1=>(97+r/K^n%K)::low K r n
theorem low_length(K r:Nat):∀n,(low K r n).length=n
 | 0=>rfl
 |n+1=>by rw[low,length_cons,low_length K r n]
theorem pF{K:Nat}(hK:0<K)(r:Nat):∀n,Ls K (low K r n)
 | 0=>Ls.nil K
 |n+1=>λc hc=>by
  rcases mem_cons.mp hc with rfl|hc
  ·have:=mod_lt (r/K^n) hK;omega
  ·exact pF hK r n c hc
theorem gZ{K:Nat}(hK:0<K)(r:Nat):∀n,val K (low K r n) n=r%K^n
 | 0=>by rw[val_zero,Nat.pow_zero,Nat.mod_one]
 |n+1=>by
  rw[low,b6,gZ hK r n,pow_succ,Nat.mod_mul,Nat.add_comm,mul_comm,Nat.add_sub_cancel_left]
def nA(m:Uc):Uc:=(m.reverse.dropWhile (λc=>[97].contains c)).reverse
theorem yV(m:Uc):nA (m++[97])=nA m:=by
 unfold nA;rw[List.reverse_append];show (List.dropWhile _ (97::m.reverse)).reverse=_;rw[List.dropWhile_cons_of_pos (by decide)]
theorem wH{m:Uc}(h:Na m):nA m=m:=by
 unfold nA;cases e:m.reverse with
 |nil=>rw[List.dropWhile_nil,<-e,List.reverse_reverse]
 |cons c r=>
  have hc:c≠97:=h c (by rw[List.getLast?_eq_head?_reverse,e];rfl);rw[List.dropWhile_cons_of_neg (by simp[hc]),<-e,List.reverse_reverse]
theorem lM(m:Uc):∃k,m=nA m++List.replicate k 97/\Na (nA m):=by
 obtain⟨n,hn⟩:∃n,m.length=n:=⟨_,rfl⟩
 induction n generalizing m with
 |zero=>
  obtain rfl:m=[]:=length_eq_zero_iff.mp hn;exact⟨0,rfl,Na.nil⟩
 |succ n ih=>
  by_cases h:Na m
  ·exact⟨0,by rw[wH h];simp,by rw[wH h];exact h⟩
  ·obtain⟨c,hc,e⟩:∃c,m.getLast?=some c/\c=97:=by
    apply Classical.byContradiction
    intro q;exact h λc hc e=>q ⟨c,hc,e⟩
   subst e;obtain⟨r,rfl⟩:=List.getLast?_eq_some_iff.mp hc;obtain⟨k,e1,e2⟩:=ih r (by simpa using hn);rw[yV];refine⟨k+1,?_,e2⟩;rw[List.replicate_succ',<-append_assoc,<-e1]
theorem pG(K:Nat):∀(m:Uc) (k n:Nat),val K (m++List.replicate k 97) n=val K m n
 |m,k,0=>by rw[val_zero,val_zero]
 |[],0,n+1=>rfl
 |[],k+1,n+1=>by
  rw[nil_append,replicate_succ,b6];have:=pG K [] k n;rw[nil_append] at this;rw[this,dZ,dZ];simp
 |c::m,k,n+1=>by rw[cons_append,b6,b6,pG K m k n]
theorem Hs(K:Nat)(m:Uc)(n:Nat):val K (nA m) n=val K m n:=by
 obtain⟨k,e,_⟩:=lM m;have h:val K m n=val K (nA m++List.replicate k 97) n:=by rw[<-e]
 rw[h,pG]
theorem Ht(m:Uc):Na (nA m):=by
 obtain⟨k,_,h⟩:=lM m;exact h
theorem Hu(m:Uc):(nA m).length<=m.length:=by
 obtain⟨k,e,_⟩:=lM m;have h:m.length=(nA m++List.replicate k 97).length:=by rw[<-e]
 rw[h,length_append];omega
theorem Hv(m:Uc):∀c∈nA m,c∈m:=λc hc=>by
 obtain⟨k,e,_⟩:=lM m;rw[e];exact mem_append_left _ hc
def mk(K r n:Nat):Uc:=nA (low K r n)
theorem mk_val{K:Nat}(hK:0<K){r n:Nat}(h:r<K^n):val K (mk K r n) n=r:=by
 rw[mk,Hs,gZ hK,mod_eq_of_lt h]
theorem AG(K r n:Nat):(mk K r n).length<=n:=by
 have:=Hu (low K r n);rw[low_length] at this;exact this
theorem Hw{K:Nat}(hK:0<K)(r n:Nat):Ls K (mk K r n):=(pF hK r n).sub (Hv _)
theorem Hy(K r n:Nat):Na (mk K r n):=Ht _
theorem PD{K:Nat}(hK:0<K){r n:Nat}(h0:0<r)(h:r<K^n):mk K r n≠[]:=λe=>by
 have:=mk_val hK h;rw[e,dZ] at this;omega
theorem Ll{K:Nat}(hK:0<K){r n:Nat}(h0:0<r)(h:r<K^n):Mark K (mk K r n):=⟨Hw hK r n,Hy K r n,PD hK h0 h⟩
end MM
namespace MM
def bB(K h j:Nat):Uc:=((List.range (K-1)).filter (λi=>decide (i%h=j))).map (98+·)
def cP(K h j n:Nat):Uc:=((List.range' (n-1) (K-n)).filter (λi=>decide (i%h=j))).map (98+·)
theorem wI(K h j:Nat):cP K h j 1=bB K h j:=by
 unfold cP bB;rw[List.range_eq_range']
theorem mw{K h j n:Nat}(hn:K<=n):cP K h j n=[]:=by
 unfold cP;have:K-n=0:=by omega
 rw[this];rfl
theorem uM{K h j n:Nat}(h1:1<=n)(hK:n<K)(hne:(n-1)%h≠j):cP K h j n=cP K h j (n+1):=by
 unfold cP;obtain⟨d,hd⟩:∃d,K-n=d+1:=⟨K-n-1,by omega⟩;have e2:K-(n+1)=d:=by omega
 have e3:n+1-1=n-1+1:=by omega
 rw[hd,e2,e3,List.range'_succ,filter_cons];simp[hne]
theorem uN{K h j n:Nat}(h1:1<=n)(hK:n<K)(he:(n-1)%h=j):cP K h j n=(97+n)::cP K h j (n+1):=by
 unfold cP;obtain⟨d,hd⟩:∃d,K-n=d+1:=⟨K-n-1,by omega⟩;have e2:K-(n+1)=d:=by omega
 have e3:n+1-1=n-1+1:=by omega
 rw[hd,e2,e3,List.range'_succ,filter_cons];simp[he];omega
theorem g5{K h j:Nat}:∀(m n:Nat),1<=n->(∀i,i<m->(n-1+i)%h≠j)->cP K h j n=cP K h j (n+m)
 | 0,n,_,_=>rfl
 |m+1,n,h1,hne=>by
  by_cases hK:n<K
  ·rw[uM h1 hK (by have:=hne 0 (by omega);simpa using this),g5 m (n+1) (by omega) (λi hi=>by have:=hne (i+1) (by omega);rwa[show n-1+(i+1)=n+1-1+i by omega] at this)];congr 1;omega
  ·rw[mw (by omega),mw (by omega)]
theorem AH{a h i:Nat}(hi:0<i)(hh:i<h):(a+i)%h≠a%h:=by
 intro e;have h0:0<h:=by omega
 have e1:=div_add_mod a h;have e2:=div_add_mod (a+i) h;rw[e] at e2;have e3:h*((a+i)/h)=h*(a/h)+i:=by omega
 rcases lt_or_ge (a/h) ((a+i)/h) with hl|hl
 ·have:h*(a/h+1)<=h*((a+i)/h):=Nat.mul_le_mul_left h hl;rw[Nat.mul_add] at this;omega
 ·have:h*((a+i)/h)<=h*(a/h):=Nat.mul_le_mul_left h hl;omega
theorem uO{K h j n:Nat}(h0:0<h)(h1:1<=n)(hK:n<K)(he:(n-1)%h=j):cP K h j n=(97+n)::cP K h j (n+h):=by
 rw[uN h1 hK he,g5 (h-1) (n+1) (by omega) (λi hi=>by
  have:=AH (a:=n-1) (h:=h) (i:=i+1) (by omega) (by omega);rw[he] at this;rwa[show n+1-1+i=n-1+(i+1) by omega])]
 congr 2;omega
theorem sZ{K h j:Nat}(hj:j<h):cP K h j (1+j)=bB K h j:=by
 rw[<-wI,Nat.add_comm 1 j,Nat.add_comm j 1];exact(g5 j 1 (by omega) (λi hi=>by
  show (0+i)%h≠j;rw[Nat.zero_add,mod_eq_of_lt (by omega)];omega)).symm
theorem Hz{K h j:Nat}(hj:j<h)(hh:h+1<=K):bB K h j≠[]:=by
 rw[<-sZ hj,uO (by omega) (by omega) (by omega) (by rw[Nat.add_comm,Nat.add_sub_cancel];exact mod_eq_of_lt hj)];exact cons_ne_nil _ _
theorem pH{K h j c:Nat}:c∈bB K h j↔∃i,i<K-1/\i%h=j/\c=98+i:=by
 unfold bB;simp only[mem_map,mem_filter,mem_range,decide_eq_true_eq];constructor
 ·rintro⟨a,⟨h1,h2⟩,h3⟩;exact⟨a,h1,h2,h3.symm⟩
 ·rintro⟨a,h1,h2,h3⟩;exact⟨a,⟨h1,h2⟩,h3.symm⟩
end MM
namespace MM
structure Ends(L:Nat)(es:Uc):Prop where
 up:es.Pairwise (·<·)
 lo:∀e∈es,98<=e
 hi:∀e∈es,e<97+L
 ne:es≠[]
def cnt(es:Uc)(x:Nat):Nat:=(es.filter (λe=>decide (e<x))).length
def ob(L:Nat)(es:Uc)(N:Nat):Nat:=N/L*es.length+cnt es (97+N%L)
def ow(L:Nat)(es:Uc)(w:Nat):Bool:=decide (97+w%L∈es)
def uP(L:Nat)(es:Uc)(p:Nat):Nat:=p/es.length*L+(es.getD (p%es.length) 0-97)
theorem yW {es:List Nat} (h:es.Pairwise (· < ·)) (x:Nat):cnt es (x + 1) = cnt es x + (if x ∈ es then 1 else 0):=by
  induction es with
  | nil=>rfl
  | cons e r ih=>
    obtain ⟨h1,h2⟩:=pairwise_cons.mp h
    have ih:=ih h2
    unfold cnt at ih ⊢
    rw [filter_cons,filter_cons]
    by_cases a:e < x
    · have m : x ∈ e :: r ↔ x ∈ r := by rw [mem_cons]; constructor
                                        · rintro (rfl | z)
                                          · omega
                                          · exact z
                                        · exact .inr
      rw [if_pos (by simp; omega),if_pos (by simpa using a),length_cons,length_cons,ih]
      simp only [m]; omega
    · by_cases b:e = x
      · subst b
        rw [if_pos (by simp),if_neg (by simp)]
        have no:e ∉ r:=fun z=>by have:=h1 e z; omega
        rw [if_neg no] at ih
        rw [length_cons,ih,if_pos mem_cons_self]
      · have no:x ∉ r:=fun z=>by have:=h1 x z; omega
        rw [if_neg (by simp; omega),if_neg (by simpa using a),ih,if_neg no,if_neg (by rw [mem_cons]; rintro (z | z); omega; exact no z)]
theorem CZ{es:Uc}(h:∀e∈es,98<=e):cnt es 97=0:=by
 unfold cnt;rw[length_eq_zero_iff,filter_eq_nil_iff];intro e he;have:=h e he;simp only[decide_eq_true_eq];omega
theorem Lm{es:Uc}{x:Nat}(h:∀e∈es,e<x):cnt es x=es.length:=by
 unfold cnt;rw[List.filter_eq_self.mpr (λe he=>by simpa using h e he)]
theorem ri{L:Nat}{es:Uc}(hL:0<L)(E:Ends L es)(w:Nat):ob L es (w+1)=ob L es w+(if ow L es w=true then 1 else 0):=by
 unfold ob ow;have hm:=mod_lt w hL;simp only[decide_eq_true_eq]
 by_cases h:w%L+1<L
 ·have e1:(w+1)/L=w/L:=by rw[Nat.add_div hL];have:1%L=1:=mod_eq_of_lt (by omega);rw[this,Nat.div_eq_of_lt (show 1<L by omega),if_neg (by omega)];rfl
  have e2:(w+1)%L=w%L+1:=by rw[Nat.add_mod,mod_eq_of_lt (show 1<L by omega)];exact mod_eq_of_lt h
  rw[e1,e2,show 97+(w%L+1)=97+w%L+1 by omega,yW E.up,Nat.add_assoc]
 ·have hl:w%L+1=L:=by omega
  have hd:=div_add_mod w L;have e0:w+1=L*(w/L+1):=by rw[Nat.mul_add];omega
  have e1:(w+1)/L=w/L+1:=by rw[e0,Nat.mul_div_cancel_left _ hL]
  have e2:(w+1)%L=0:=by rw[e0,Nat.mul_mod_right]
  have e3:=yW E.up (97+w%L);rw[show 97+w%L+1=97+L by omega,Lm E.hi] at e3
  rw[e1,e2,add_zero,CZ E.lo,add_mul,one_mul,e3];omega
theorem NK{es:Uc}(h:es.Pairwise (·<·)):∀{r:Nat} {x:Nat},es[r]?=some x->cnt es x=r:=by
 induction es with
 |nil=>intro r x e;simp at e
 |cons e t ih=>
  intro r x hx;obtain⟨h1,h2⟩:=pairwise_cons.mp h;cases r with
  |zero=>
   obtain rfl:e=x:=by simpa using hx
   unfold cnt;rw[length_eq_zero_iff,filter_eq_nil_iff];intro y hy
   rcases mem_cons.mp hy with rfl|hy
   ·simp
   ·have:=h1 y hy;simp;omega
  |succ r=>
   have hx':t[r]?=some x:=by simpa using hx
   have:=h1 x (mem_of_getElem? hx');have i2:=ih h2 hx';unfold cnt at i2 ⊢;rw[List.filter_cons_of_pos (by simpa using this),length_cons,i2]
theorem ju {L:Nat} {es:List Nat} (hL:0 < L) (E:Ends L es) {a:Nat}:∀ {b:Nat},a ≤ b→ob L es a ≤ ob L es b
  | 0, h => by obtain rfl : a = 0 := by omega
               exact le_refl _
  | b + 1,h=>by
    by_cases e:a = b + 1
    · rw [e]; exact le_refl _
    · have:=ju hL E (a:=a) (b:=b) (by omega)
      rw [ri hL E]; omega
theorem jv{K h j:Nat}(hj:j<h)(hh:h+1<=K):Ends K (bB K h j) where
 up:=by
  unfold bB;rw[pairwise_map];refine List.Pairwise.imp ?_ ((List.pairwise_lt_range (n:=K-1)).filter _);intro a b hab;omega
 lo:=λe he=>by obtain⟨i,_,_,rfl⟩:=pH.mp he;omega
 hi:=λe he=>by obtain⟨i,hi,_,rfl⟩:=pH.mp he;omega
 ne:=Hz hj hh
theorem yX{L:Nat}(hL:0<L){i:Nat}(hi:i<L)(q:Nat):∀n,low L (q*L+i) (n+1)=low L q n++[97+i]
 | 0=>by
  show [97+(q*L+i)/L^0%L]=[97+i];rw[Nat.pow_zero,Nat.div_one,mul_comm,Nat.mul_add_mod,mod_eq_of_lt hi]
 |n+1=>by
  rw[low,yX hL hi q n,low,cons_append];congr 2
  rw[pow_succ,mul_comm (L^n),<-Nat.div_div_eq_div_mul];congr 1
  have:(q*L+i)/L=q:=by rw[mul_comm,Nat.mul_add_div hL,Nat.div_eq_of_lt hi];rfl
  rw[this]
theorem nB{L w n:Nat}(hL:0<L):(low L w (n+1)).getLast?=some (97+w%L):=by
 have hd:=div_add_mod w L;have e:w=w/L*L+w%L:=by rw[mul_comm];omega
 rw[e,yX hL (mod_lt w hL)];simp[mod_eq_of_lt (mod_lt w hL)]
theorem HS{L w n:Nat}(hL:0<L)(h:w%L≠0):mk L w (n+1)=low L w (n+1):=by
 unfold mk;refine wH λc hc=>?_;rw[nB hL] at hc;have:=Option.some.inj hc;omega
end MM
namespace MM
theorem C0{L:Nat}{es:Uc}(E:Ends L es)(p:Nat):uP L es p%L≠0:=by
 have hp:0<es.length:=length_pos_iff.mpr E.ne;have hm:=mod_lt p hp;have hx:es[p%es.length]?=some es[p%es.length]:=getElem?_eq_getElem hm;have h1:=E.lo _ (mem_of_getElem? hx);have h2:=E.hi _ (mem_of_getElem? hx);unfold uP;rw[getD_eq_getElem?_getD,hx,mul_comm,Nat.mul_add_mod,Option.getD_some,mod_eq_of_lt (by omega)];omega
end MM
namespace MM
theorem AI{L:Nat}{es:Uc}(hL:0<L)(E:Ends L es)(p:Nat):ob L es (uP L es p)=p/\ow L es (uP L es p)=true:=by
 have hp:0<es.length:=length_pos_iff.mpr E.ne;have hm:=mod_lt p hp;have hx:es[p%es.length]?=some es[p%es.length]:=getElem?_eq_getElem hm;have hmem:=mem_of_getElem? hx;have h1:=E.lo _ hmem;have h2:=E.hi _ hmem;have hc:=NK E.up hx;generalize es[p%es.length]=e at *;have e0:uP L es p=p/es.length*L+(e-97):=by unfold uP;rw[getD_eq_getElem?_getD,hx];rfl
 have e1:uP L es p/L=p/es.length:=by rw[e0,mul_comm,Nat.mul_add_div hL,Nat.div_eq_of_lt (show e-97<L by omega)];rfl
 have e2:uP L es p%L=e-97:=by rw[e0,mul_comm,Nat.mul_add_mod,mod_eq_of_lt (by omega)]
 constructor
 ·unfold ob;rw[e1,e2,show 97+(e-97)=e by omega,hc,mul_comm]
  exact div_add_mod p es.length
 ·unfold ow;rw[e2,show 97+(e-97)=e by omega]
  exact decide_eq_true hmem
theorem HU{L:Nat}{es:Uc}(hL:0<L)(E:Ends L es){A B p:Nat}(h1:ob L es A<=p)(h2:p<ob L es B):A<=uP L es p/\uP L es p<B:=by
 obtain⟨o1,o2⟩:=AI hL E p;constructor
 ·by_cases z:A<=uP L es p
  ·exact z
  ·have:=ju hL E (show uP L es p+1<=A by omega);rw[ri hL E,if_pos o2,o1] at this;omega
 ·by_cases z:uP L es p<B
  ·exact z
  ·have:=ju hL E (show B<=uP L es p by omega);omega
end MM
set_option maxHeartbeats 1000000
namespace L2
open PySem PySem.Spec PyProof.Rows
theorem Ln{α:Type}{xs:Uh α}{v:α}(h:xs.getLast?=some v):Km xs (-1)=some v:=by
 have hl:0<xs.length:=by
  cases xs with
  |nil=>simp at h
  |cons a r=>simp
 unfold Km Nl;rw[if_neg (by decide),if_pos (by omega)];rw[List.getLast?_eq_getElem?] at h;show xs[(-1+(xs.length:Int)).toNat]?=some v;rw[show (-1+(xs.length:Int)).toNat=xs.length-1 by omega]
 exact h
theorem vm{K:W.Frag}{H:Hp}{a:Addr}{xs:Uh V}{v:V}{Q:VK}(hS:aX K H a xs)(h:xs.getLast?=some v)(q:Q v H):dQ K (.ref a) (.int (-1)) H Q:=⟨a,xs,_,v,rfl,rfl,hS,Ln h,q⟩
end L2
set_option maxHeartbeats 1000000
namespace L2
section
open PySem PySem.Spec PyProof.Rows Builtin Builtin.ObjectAttr Builtin.Getset_descriptor
end
open PySem PySem.Spec PyProof.Rows
end L2
set_option maxHeartbeats 1000000
namespace L2
open PySem PySem.Spec PyProof.Rows
section
variable{κ:Type}[DecidableEq κ]
def c5(kvs:Uh (κ×V))(k:κ):Option V:=(kvs.find? λkv=>decide (kv.1=k)).map (·.2)
def putK(kvs:Uh (κ×V))(k:κ)(v:V):Uh (κ×V):=
 if (kvs.any λkv=>decide (kv.1=k))=true then kvs.map (λkv=>if kv.1=k then(kv.1,v) else kv) else kvs++[(k,v)]
theorem tu{k:κ}:c5 ([]:Uh (κ×V)) k=none:=rfl
theorem cW{p:κ×V}{r:Uh (κ×V)}{k:κ}(e:p.1=k):c5 (p::r) k=some p.2:=by simp[c5,find?_cons,e]
theorem cF{p:κ×V}{r:Uh (κ×V)}{k:κ}(e:¬p.1=k):c5 (p::r) k=c5 r k:=by simp[c5,find?_cons,e]
theorem i6(k:κ):∀kvs:Uh (κ×V),(kvs.any λkv=>decide (kv.1=k))=(c5 kvs k).isSome
 |[]=>rfl
 |p::r=>by
  rw[any_cons]
  by_cases e:p.1=k
  ·simp only[cW e,decide_eq_true e,Bool.true_or,Option.isSome_some]
  ·rw[cF e,decide_eq_false e,Bool.false_or];exact i6 k r
theorem yY(k j:κ)(y:V):∀kvs:Uh (κ×V),c5 (kvs.map λkv=>if kv.1=k then(kv.1,y) else kv) j=(c5 kvs j).map λx=>if j=k then y else x
 |[]=>rfl
 |p::r=>by
  have ih:=yY k j y r;rw[map_cons]
  by_cases h:p.1=k
  ·rw[if_pos h]
   by_cases e:p.1=j
   ·rw[cW (p:=(p.1,y)) e,cW e,map_some,if_pos (e.symm.trans h)]
   ·rw[cF (p:=(p.1,y)) e,cF e,ih]
  ·rw[if_neg h]
   by_cases e:p.1=j
   ·rw[cW (p:=p) e,cW e,map_some,if_neg (λz=>h (e.trans z))]
   ·rw[cF (p:=p) e,cF e,ih]
theorem vn(k j:κ)(y:V):∀kvs:Uh (κ×V),c5 kvs k=none->c5 (kvs++[(k,y)]) j=if j=k then some y else c5 kvs j
 |[],_=>by
  by_cases e:k=j
  ·rw[if_pos e.symm];exact cW (p:=(k,y)) e
  ·rw[if_neg (λz=>e z.symm)];exact cF (p:=(k,y)) e
 |p::r,hn=>by
  rw[cons_append];have hk:¬p.1=k:=λz=>by rw[cW z] at hn;cases hn
  rw[cF hk] at hn;have ih:=vn k j y r hn
  by_cases e:p.1=j
  ·rw[cW e,cW e,if_neg (λz=>hk (e.trans z))]
  ·rw[cF e,cF e,ih]
theorem tw(kvs:Uh (κ×V))(k j:κ)(y:V):c5 (putK kvs k y) j=if j=k then some y else c5 kvs j:=by
 unfold putK
 by_cases a:(kvs.any λkv=>decide (kv.1=k))=true
 ·rw[if_pos a,yY];rw[i6] at a
  by_cases e:j=k
  ·obtain⟨x,hx⟩:=Option.isSome_iff_exists.mp a;rw[if_pos e,e,hx,map_some,if_pos rfl]
  ·rw[if_neg e];cases c5 kvs j with
   |none=>rfl
   |some x=>rw[map_some,if_neg e]
 ·rw[if_neg a];refine vn k j y kvs ?_;rw[i6] at a;cases q:c5 kvs k with
  |none=>rfl
  |some x=>rw[q] at a;exact(a rfl).elim
theorem gf(kvs:Uh (κ×V))(k:κ)(v:V):(putK kvs k v).length<=kvs.length+1:=by
 unfold putK;split
 ·rw[length_map];omega
 ·rw[length_append,length_cons,length_nil];omega
theorem nC{kvs:Uh (κ×V)}{k:κ}(v:V)(h:c5 kvs k=none):putK kvs k v=kvs++[(k,v)]:=by
 unfold putK;rw[i6,h];exact if_neg (by decide)
theorem kr.pI{o:Option V}{u:Option Value}(r:kr o u):o.isSome=u.isSome:=by
 cases o with
 |none=>cases u with
  |none=>rfl
  |some _=>exact(show False from r).elim
 |some _=>cases u with
  |none=>exact(show False from r).elim
  |some _=>rfl
theorem kr.getD{o:Option V}{u:Option Value}{d:V}{d':Value}(r:kr o u)(rd:RelV d d'):RelV (o.getD d) (u.getD d'):=by
 cases o with
 |none=>cases u with
  |none=>exact rd
  |some _=>exact(show False from r).elim
 |some _=>cases u with
  |none=>exact(show False from r).elim
  |some _=>exact r
theorem KV.val{kvs:Uh (κ×V)}{vs:Uh (κ×Value)}(r:KV kvs vs)(k:κ):kr (c5 kvs k) (valueAt vs k):=by
 unfold KV at r
 induction r with
 |nil=>exact True.intro
 |@cons p q ps qs h t ih=>
  obtain⟨h1,h2⟩:=h
  by_cases e:p.1=k
  ·have e':q.1=k:=h1.symm.trans e;have b:valueAt (q::qs) k=some q.2:=by simp[valueAt,find?_cons,e']
   rw[cW e,b];exact h2
  ·have e':¬q.1=k:=λz=>e (h1.trans z);have b:valueAt (q::qs) k=valueAt qs k:=by simp[valueAt,find?_cons,e']
   rw[cF e,b];exact ih
theorem KV.any{kvs:Uh (κ×V)}{vs:Uh (κ×Value)}(r:KV kvs vs)(k:κ):(kvs.any λkv=>decide (kv.1=k))=vs.any λkv=>decide (kv.1=k):=by
 unfold KV at r
 induction r with
 |nil=>rfl
 |cons h t ih=>rw[any_cons,any_cons,ih,h.1]
theorem KV.repl{kvs:Uh (κ×V)}{vs:Uh (κ×Value)}(r:KV kvs vs)(k:κ){y:V}{u:Value}(ry:RelV y u):
  KV (kvs.map λkv=>if kv.1=k then(kv.1,y) else kv) (vs.map λkv=>if kv.1=k then(kv.1,u) else kv):=by
 unfold KV at r ⊢
 induction r with
 |nil=>exact .nil
 |@cons p q ps qs h t ih=>
  rw[map_cons,map_cons];refine .cons ?_ ih;obtain⟨h1,h2⟩:=h
  by_cases e:p.1=k
  ·rw[if_pos e,if_pos (h1.symm.trans e)];exact⟨h1,ry⟩
  ·rw[if_neg e,if_neg (λz=>e (h1.trans z))];exact⟨h1,h2⟩
theorem KV.put{kvs:Uh (κ×V)}{vs:Uh (κ×Value)}(r:KV kvs vs)(k:κ){y:V}{u:Value}(ry:RelV y u):KV (putK kvs k y) (stored vs k u):=by
 unfold putK stored;rw[r.any k]
 by_cases e:(vs.any λkv=>decide (kv.1=k))=true
 ·rw[if_pos e,if_pos e];exact r.repl k ry
 ·rw[if_neg e,if_neg e];exact Paired.snoc r ⟨rfl,ry⟩
theorem KV.length{kvs:Uh (κ×V)}{vs:Uh (κ×Value)}(r:KV kvs vs):kvs.length=vs.length:=Paired.length r
end
theorem vo{P:Program}{w:World}{k:Key}{u:Value}(r:RelV (kV k) u):(bY P w).is k u=true:=by
 cases k with
 |inl i=>obtain⟨t,e⟩:=(show ∃t,u=Value.int i t from r);subst e;exact yp P w i t
 |inr x=>obtain⟨t,e⟩:=(show ∃t,u=Value.str x t from r);subst e;exact yq P w x t
 |non=>obtain rfl:u=Value.none:=r;rfl
theorem vp{P:Program}{w:World}:∀{ks:Uh Key} {us:Uh Value},Vals (ks.map kV) us->ItemsAre (bY P w) ks us
 |[],_,r=>by rw[map_nil] at r;cases r;exact .nil
 |k::ks,_,r=>by
  rw[map_cons] at r;cases r with
  |cons h t=>exact .cons (vo h) (vp t)
abbrev KT(H:Hp):Uh (Uh Key×V)->Uh (Uh Key×Addr×Value)->Prop:=Paired λp q=>p.1=q.1/\H q.2.1=some (.tup (p.1.map kV))/\RelV p.2 q.2.2
theorem KT.val{H:Hp}{kvs:Uh (Uh Key×V)}{xs:Uh (Uh Key×Addr×Value)}(r:KT H kvs xs)(k:Uh Key):kr (c5 kvs k) ((atKey xs k).map (·.2)):=by
 induction r with
 |nil=>exact True.intro
 |@cons p q ps qs h t ih=>
  obtain⟨h1,_,h2⟩:=h
  by_cases e:p.1=k
  ·have e':q.1=k:=h1.symm.trans e;have b:atKey (q::qs) k=some q.2:=by simp[atKey,find?_cons,e']
   rw[cW e,b];exact h2
  ·have e':¬q.1=k:=λz=>e (h1.trans z);have b:atKey (q::qs) k=atKey qs k:=by simp[atKey,find?_cons,e']
   rw[cF e,b];exact ih
theorem KT.repl{H:Hp}{kvs:Uh (Uh Key×V)}{xs:Uh (Uh Key×Addr×Value)}(r:KT H kvs xs)(k:Uh Key){y:V}{u:Value}(ry:RelV y u):
  KT H (kvs.map λkv=>if kv.1=k then(kv.1,y) else kv) (xs.map (putAt k u)):=by
 induction r with
 |nil=>exact .nil
 |@cons p q ps qs h t ih=>
  rw[map_cons,map_cons];refine .cons ?_ ih;obtain⟨h1,h2,h3⟩:=h;unfold putAt
  by_cases e:p.1=k
  ·rw[if_pos e,if_pos (h1.symm.trans e)];exact⟨h1,h2,ry⟩
  ·rw[if_neg e,if_neg (λz=>e (h1.trans z))];exact⟨h1,h2,h3⟩
theorem KT.put{H:Hp}{kvs:Uh (Uh Key×V)}{xs:Uh (Uh Key×Addr×Value)}(r:KT H kvs xs)(k:Uh Key){b:Addr}{y:V}{u:Value}(hb:H b=some (.tup (k.map kV)))(ry:RelV y u):
  KT H (putK kvs k y) (storedH xs k b u):=by
 have e:(kvs.any λkv=>decide (kv.1=k))=(atKey xs k).isSome:=by
  rw[i6,(r.val k).pI,Option.isSome_map]
 unfold putK storedH;rw[e]
 by_cases q:(atKey xs k).isSome=true
 ·rw[if_pos q,if_pos q];exact r.repl k ry
 ·rw[if_neg q,if_neg q];exact Paired.snoc r ⟨rfl,hb,ry⟩
theorem KT.keeps{H H':Hp}{kvs:Uh (Uh Key×V)}{xs:Uh (Uh Key×Addr×Value)}(r:KT H kvs xs)(ht:∀b ys,H b=some (.tup ys)->H' b=some (.tup ys)):KT H' kvs xs:=
 Paired.MN r λ_ _ z=>⟨z.1,ht _ _ z.2.1,z.2.2⟩
section
variable{P:Program}{w:World}{H:Hp}{h:Heap}{a:Addr}
theorem Mw{u:HO}(ok:lE P w H h)(e:Rd H a u):cI P w H h a u:=e.ok ok
theorem vq{kvs:Uh (Key×V)}(ok:lE P w H h)(e:Rd H a (.dK kvs)):kvs.length<=sizeLine/\(a==sysModules)=false/\∃vs,KV kvs vs/\h.DictOf (bY P w) a vs:=
 show cI P w H h a (.dK kvs) from Mw ok e
theorem yZ{kvs:Uh (Key×V)}(ok:lE P w H h)(e:H a=some (.dK kvs)):kvs.length<=sizeLine/\(a==sysModules)=false/\∃vs,KV kvs vs/\h.DictOf (bY P w) a vs:=vq ok (.inl e)
theorem tD{ks:Uh Key}(ok:lE P w H h)(e:H a=some (.tup (ks.map kV))):(tupleKind (bY P w)).is h ks a:=by
 obtain⟨_,its,r,o,h1,h2,n,h3⟩:=(show cI P w H h a (.tup (ks.map kV)) from ok a _ e);exact⟨o,its.toArray,n,h1,h2,h3,by simpa using vp r⟩
theorem vt{kvs:Uh (Uh Key×V)}(ok:lE P w H h)(e:Rd H a (.dT kvs)):kvs.length<=sizeLine/\(a==sysModules)=false/\
  ∃xs,KT H kvs xs/\h.DictOfH (tupleKind (bY P w)) a xs:=by
 obtain⟨z,y,xs,r,o,es,ep,h1,h2,h3,h4,h5⟩:=(show cI P w H h a (.dT kvs) from Mw ok e);refine⟨z,y,xs,r,o,es,ep,h1,h2,h3,h4,λx hx=>?_,h5⟩;have all:∀{l:Uh (Uh Key×V)} {m:Uh (Uh Key×Addr×Value)},KT H l m->∀x∈m,(tupleKind (bY P w)).is h x.1 x.2.1:=by
  intro l m q
  induction q with
  |nil=>intro x hx;exact nomatch hx
  |@cons p q ps qs hq t ih=>
   intro x hx
   rcases mem_cons.mp hx with e|hx
   ·subst e;exact tD ok (by rw[<-hq.1];exact hq.2.1)
   ·exact ih x hx
 exact all r x hx
theorem PF{kvs:Uh (Uh Key×V)}(ok:lE P w H h)(e:H a=some (.dT kvs)):kvs.length<=sizeLine/\(a==sysModules)=false/\
  ∃xs,KT H kvs xs/\h.DictOfH (tupleKind (bY P w)) a xs:=vt ok (.inl e)
end
def iQ(H:Hp)(a:Addr)(y:V)(r:Option V):Prop:=
 (∃kvs k,Rd H a (.dK kvs)/\y=kV k/\r=c5 kvs k)\/∃kvs k b,Rd H a (.dT kvs)/\y=.ref b/\H b=some (.tup (k.map kV))/\r=c5 kvs k
def tE(H:Hp)(a:Addr)(y v:V)(H':Hp):Prop:=
 (∃kvs k,H a=some (.dK kvs)/\y=kV k/\kvs.length<sizeLine/\H'=upd H a (.dK (putK kvs k v)))\/
 ∃kvs k b,H a=some (.dT kvs)/\y=.ref b/\H b=some (.tup (k.map kV))/\kvs.length<sizeLine/\H'=upd H a (.dT (putK kvs k v))
theorem iQ.k{H:Hp}{a:Addr}{kvs:Uh (Key×V)}{k:Key}(e:H a=some (.dK kvs)):iQ H a (kV k) (c5 kvs k):=.inl ⟨kvs,k,.inl e,rfl,rfl⟩
theorem iQ.t{H:Hp}{a b:Addr}{kvs:Uh (Uh Key×V)}{k:Uh Key}(e:H a=some (.dT kvs))(eb:H b=some (.tup (k.map kV))):iQ H a (.ref b) (c5 kvs k):=.inr ⟨kvs,k,b,.inl e,rfl,eb,rfl⟩
theorem tE.k{H:Hp}{a:Addr}{kvs:Uh (Key×V)}{k:Key}{v:V}(e:H a=some (.dK kvs))(hl:kvs.length<sizeLine):tE H a (kV k) v (upd H a (.dK (putK kvs k v))):=.inl ⟨kvs,k,e,rfl,hl,rfl⟩
theorem tE.t{H:Hp}{a b:Addr}{kvs:Uh (Uh Key×V)}{k:Uh Key}{v:V}(e:H a=some (.dT kvs))(eb:H b=some (.tup (k.map kV)))(hl:kvs.length<sizeLine):
  tE H a (.ref b) v (upd H a (.dT (putK kvs k v))):=.inr ⟨kvs,k,b,e,rfl,eb,hl,rfl⟩
section
variable{X:Cx}{pins:Uh (Addr×Obj)}{σ:St}{H:Hp}{s:Shared}{a:Addr}{y v:V}{u r:Value}{o:Option V}{A:Around}{E:Value->Shared->Prop}
theorem Inv.big(I:Inv X pins σ H s):sysModules<s.heap.objs.size:=by
 have h:mainGlobals<s.heap.objs.size:=(I.mod.glob.keeps I.bk).lt;exact Nat.lt_trans (by decide) h
theorem EZ{Q:Value->Shared->Prop}(hu:A.units+1<cLine)(I:Inv X pins σ H s)(g:iQ H a y (some v))(ry:RelV y u)(h:∀w' s',Inv X pins σ H s'->RelV v w'->Q w' s'):
  wpAny (model X.prog X.w) A (getItem (.ref a) u) Q E s:=by
 rcases g with⟨kvs,k,e,ey,l⟩|⟨kvs,k,b,e,ey,eb,l⟩
 ·subst ey;obtain⟨z,hd,vs,rel,dd⟩:=vq I.hok e;obtain⟨w',hw,rw'⟩:=kr.some_of (v:=v) (o:=valueAt vs k) (by rw[l];exact rel.val k);exact wpAny_getItem_of (vo ry) dd.mapOf hw (h w' _ (I.tok _) rw')
 ·subst ey;cases (show u=Value.ref b from ry);obtain⟨z,hd,xs,rel,dd⟩:=vt I.hok e;obtain⟨w',hw,rw'⟩:=kr.some_of (v:=v) (o:=(atKey xs k).map (·.2)) (by rw[l];exact rel.val k);obtain⟨p,hp,hp2⟩:=map_eq_some_iff.mp hw;refine wpAny_getItem_heap (tupleKind_room_in1 hu) (tD I.hok eb) dd hp ?_;rw[hp2];exact h w' _ (I.tok _) rw'
theorem Lo{Q:Value->Shared->Prop}(hu:A.units+1<cLine)(I:Inv X pins σ H s)(g:iQ H a y o)(ry:RelV y u)(h:∀s',Inv X pins σ H s'->Q (.bool (!o.isSome)) s'):
  wpAny (model X.prog X.w) A (compareOp .NotIn u (.ref a)) Q E s:=by
 rcases g with⟨kvs,k,e,ey,l⟩|⟨kvs,k,b,e,ey,eb,l⟩
 ·subst ey;obtain⟨z,hd,vs,rel,dd⟩:=vq I.hok e;refine wpAny_notIn_of (vo ry) hd dd.mapOf ?_;rw[<-(rel.val k).pI,<-l];exact h _ (I.tok _)
 ·subst ey;cases (show u=Value.ref b from ry);obtain⟨z,hd,xs,rel,dd⟩:=vt I.hok e;refine wpAny_notIn_heap (tupleKind_room_in1 hu) (tD I.hok eb) hd dd ?_;have q:=(rel.val k).pI;rw[Option.isSome_map] at q;rw[<-q,<-l];exact h _ (I.tok _)
theorem C2{h':Heap}{t':Nat}{ob:HO}(I:Inv X pins σ H s)(mu:Pa (H a))(hs:Heap.SameBut a s.heap h')(he:∃q,h'.get? a=some q)(new:cI X.prog X.w (upd H a ob) h' a ob):
  Inv X pins σ (upd H a ob) {s with heap:=h',toks:=t' }:=
 I.write (x:=a) (e:=a) mu (.inl rfl) (λb q hb z=>(hs.2 b hb).trans z) he new
theorem NL{P:Program}{w:World}{H':Hp}{h':Heap}{kvs:Uh (Key×V)}{vs:Uh (Key×Value)}(z:kvs.length<=sizeLine)(hd:(a==sysModules)=false)(rel:KV kvs vs)(dd:h'.DictOf (bY P w) a vs):
  cI P w H' h' a (.dK kvs):=⟨z,hd,vs,rel,dd⟩
theorem E2{H':Hp}{Q:Unit->Shared->Prop}(hu:A.units+1<cLine)(I:Inv X pins σ H s)(g:tE H a y v H')(ry:RelV y u)(rv:RelV v r)(h:∀s',Inv X pins σ H' s'->Q () s'):
  wpAny (model X.prog X.w) A (setItem (.ref a) u r) Q E s:=by
 rcases g with⟨kvs,k,e,ey,l,eH⟩|⟨kvs,k,b,e,ey,eb,l,eH⟩
 ·subst ey eH;obtain⟨z,hd,vs,rel,dd⟩:=yZ I.hok e;have hz:vs.length<=sizeLine:=by rw[<-rel.length];exact z
  have hl:(putK kvs k v).length<=sizeLine:=by have:=gf kvs k v;omega
  refine wpAny_setItem_pairs (hsz:=hz) (vo ry) dd λh' dd' hs=>h _ ?_;have he:∃q,h'.get? a=some q:=let ⟨q,_,_,hq,_⟩:=dd';⟨q,hq⟩;exact C2 I (by rw[e];exact True.intro) hs he (NL hl hd (rel.put k rv) dd')
 ·subst ey eH;cases (show u=Value.ref b from ry);obtain⟨z,hd,xs,rel,dd⟩:=PF I.hok e;have hz:xs.length<=sizeLine:=by rw[<-Paired.length rel];exact z
  have hl:(putK kvs k v).length<=sizeLine:=by have:=gf kvs k v;omega
  refine wpAny_setItem_heap (hsz:=hz) (tupleKind_room_in1 hu) (tD I.hok eb) dd λh' dd' hs=>h _ ?_;obtain⟨q,es,ep,hq,h2,h3,h4,_,h5⟩:=dd';refine C2 I (by rw[e];exact True.intro) hs ⟨q,hq⟩ ⟨hl,hd,_,(rel.put k eb rv).keeps λc ys ec=>?_,q,es,ep,hq,h2,h3,h4,h5⟩;rw[aE (O9 ec e (λz=>nomatch z))];exact ec
end
def NN(i:Expr):Prop:=∀ov iv,subscripted i false ov iv=operate [ov,iv] (getItem ov iv)
theorem Lp{prog:Program}{w:World}{A:Around}{E:Value->Shared->Prop}{s:Shared}{env:Env}{value slice:Expr}{pos:Pos}{T id:String}{Q:Value->Shared->Prop}
  (hl:typeLookup (.type T) "__getitem__" =pure (some (.builtin id))) (hs:NN slice)
  (h:wpAny (model prog w) A (eval value env) (λo s₁=>wpAny (model prog w) A (eval slice env) (λi s₂=>s₂.TypeIs o T/\wpAny (model prog w) A (getItem o i) Q E s₂) E s₁) E s):
  wpAny (model prog w) A (eval (.Subscript value slice pos) env) Q E s:=by
 refine Subscript_ (wpAny_mono h (λo s₁ h₁=>wpAny_mono h₁ (λi s₂ h₂=>?_) λ_ _ x=>x) λ_ _ x=>x);obtain⟨hT,h₂⟩:=h₂;unfold subscriptTail;refine wpAny_bind ?_;rw[getitemInPython_of_ne hT.not_modules];refine wpAny_bind (wpAny_specialOf hT hl ?_);have fin:wpAny (model prog w) A (subscripted slice false o i) (λr s₃=>wpAny (model prog w) A (letTemporaryGo value o r>>=λ_=>pure r) Q E s₃) E s₂:=by
  rw[hs o i];exact wpAny_operating (wpAny_mono h₂ (λr s₃ h₃=>wpAny_bind (wpAny_letTemporaryGo (wpAny_pure h₃))) λ_ _ x=>x)
 first
  |exact wpAny_pure (wpAny_bind fin)
  |exact wpAny_bind (wpAny_pure (wpAny_bind fin))
  |exact wpAny_bind fin
theorem y9{X:Cx}{pins:Uh (Addr×Obj)}{σ:St}{H:Hp}{s:Shared}{a:Addr}{y:V}{o:Option V}(I:Inv X pins σ H s)(g:iQ H a y o):s.TypeIs (.ref a) "dict":=by
 rcases g with⟨kvs,k,e,_,_⟩|⟨kvs,k,b,e,_,_,_⟩
 ·obtain⟨_,_,vs,_,dd⟩:=vq I.hok e;exact dd.typeIs
 ·obtain⟨_,_,xs,_,dd⟩:=vt I.hok e;exact dd.typeIs
def fu(td ty:TE):TE:=λσ H Q=>td σ H λx H1=>ty σ H1 λy H2=>∃a v,x=.ref a/\iQ H2 a y (some v)/\Q v H2
def jW(td ty tv:TE):TS:=λD σ H=>tv σ H λv H1=>td σ H1 λx H2=>ty σ H2 λy H3=>∃a H4,x=.ref a/\tE H3 a y v H4/\D.nx σ H4
section
variable{X:Cx}{o i e value:Expr}{pos pos' tpos:Pos}{td ty tv:TE}
theorem Lq(hu:X.A.units+1<cLine)(ho:PE X o td)(hi:PE X i ty)(hs:NN i):PE X (.Subscript o i pos) (fu td ty):=by
 intro pins s σ H Q I h;refine Lp PySem.F.slot_dict_getitem.lookup hs (cM (ho pins s σ H _ I h) λu s1 ⟨x,H1,I1,rx,q1⟩=>cM (hi pins s1 σ H1 _ I1 q1) λiv s2 ⟨y,H2,I2,ry,a,v,ex,g,q2⟩=>?_);subst ex;obtain rfl:u=Value.ref a:=rx;exact⟨y9 I2 g,EZ hu I2 g ry λw' s3 I3 rw'=>⟨v,H2,I3,rw',q2⟩⟩
theorem Lr(hu:X.A.units+1<cLine)(ho:PE X o td)(hi:PE X i ty)(hv:PE X value tv)(hs:swapsWith value (some (.Subscript o i pos')) pos.line X.env=pure false):
  PS X (.Assign [.Subscript o i pos'] value pos) (jW td ty tv):=by
 intro pins s σ H D I h;refine wpAny_Assign_Subscript (cM (hv pins s σ H _ I h) λr s1 ⟨v,H1,I1,rv,q1⟩=>cM (ho pins s1 σ H1 _ I1 q1) λu s2 ⟨x,H2,I2,rx,q2⟩=>cM (hi pins s2 σ H2 _ I2 q2) λiv s3 ⟨y,H3,I3,ry,a,H4,ex,g,q3⟩=>?_) hs;subst ex;obtain rfl:u=Value.ref a:=rx;exact E2 hu I3 g ry rv λs4 I4=>⟨σ,H4,I4,q3⟩
end
theorem HV{P:Program}{w:World}{H:Hp}(h:Heap)(hb:sysModules<h.objs.size):cI P w H (h.push {cls:=.type "dict",data:=.dict #[] }) h.objs.size (.dK []):=
 ⟨zero_le _,beq_eq_false_iff_ne.mpr (Ne.symm (ne_of_lt hb)),[],.nil,Heap.DictOf.new h⟩
theorem HW{P:Program}{w:World}{H:Hp}(h:Heap)(hb:sysModules<h.objs.size):cI P w H (h.push {cls:=.type "dict",data:=.dict #[] }) h.objs.size (.dT []):=
 ⟨zero_le _,beq_eq_false_iff_ne.mpr (Ne.symm (ne_of_lt hb)),[],.nil,_,#[],0,Heap.get?_push_size _ rfl,⟨rfl,rfl,rfl⟩,rfl,rfl,nodup_nil⟩
def gq:TE:=λ_ H Q=>∀p,H p=none->Q (.ref p) (upd H p (.dK []))
def wJ:TE:=λ_ H Q=>∀p,H p=none->Q (.ref p) (upd H p (.dT []))
section
variable{X:Cx}{pos:Pos}
theorem HX:PE X (.Dict [] [] pos) gq:=λpins s σ H Q I h=>
 wpAny_Dict_empty ⟨.ref s.heap.objs.size,_,I.laid (a:=s.heap.objs.size) (o:=.dK []) (t':=s.toks) (λ_ _ q=>Heap.get?_push_of_some _ q) (le_refl _) (HV s.heap I.big),rfl,h _ (I.hok.fresh (le_refl _))⟩
theorem HY:PE X (.Dict [] [] pos) wJ:=λpins s σ H Q I h=>
 wpAny_Dict_empty ⟨.ref s.heap.objs.size,_,I.laid (a:=s.heap.objs.size) (o:=.dT []) (t':=s.toks) (λ_ _ q=>Heap.get?_push_of_some _ q) (le_refl _) (HW s.heap I.big),rfl,h _ (I.hok.fresh (le_refl _))⟩
end
def iR(kvs more:Uh (Key×V)):Uh (Key×V):=more.foldl (λacc kv=>putK acc kv.1 kv.2) kvs
theorem KV.merge:∀{more:Uh (Key×V)} {rs:Uh (Key×Value)} {kvs:Uh (Key×V)} {vs:Uh (Key×Value)},KV more rs->KV kvs vs->KV (iR kvs more) (merged vs rs):=by
 intro more rs kvs vs r;unfold KV at r
 induction r generalizing kvs vs with
 |nil=>intro q;exact q
 |@cons p q ps qs h t ih=>
  intro r0;have e:KV (putK kvs p.1 p.2) (stored vs q.1 q.2):=by
   have:=r0.put p.1 h.2;rw[<-h.1];exact this
  exact ih e
theorem mz:∀(more kvs:Uh (Key×V)),(iR kvs more).length<=kvs.length+more.length
 |[],kvs=>by show kvs.length<=kvs.length+0;omega
 |p::r,kvs=>by
  have h1:=mz r (putK kvs p.1 p.2);have h2:=gf kvs p.1 p.2;show (iR (putK kvs p.1 p.2) r).length<=_;rw[length_cons];omega
structure M2(X:Cx)(o:Expr)(m:Str)(apos:Pos)(e f:Expr)(cpos:Pos):Prop where
 base:attributeBase o m X.env (eval o X.env)=eval o X.env
 few:((backTo cpos (starEach [e,f] X.env)).all (λx=>!x.1)&&(backToKw cpos (keywordEach [] X.env)).all (λx=>x.1.isSome)
  && decide (([e,f]:Uh Expr).length+([]:Uh Keyword).length+(if ([]:Uh Keyword).isEmpty then 0 else 1)<30))=true
 line:(apos.endLine==cpos.line)=true
 trees:backTo cpos (starEach [e,f] X.env)=[(false,eval e X.env),(false,eval f X.env)]
def To(H:Hp)(a:Addr):Prop:=(∃kvs,Rd H a (.dK kvs))\/∃kvs,Rd H a (.dT kvs)
theorem NO{X:Cx}{pins:Uh (Addr×Obj)}{σ:St}{H:Hp}{s:Shared}{a:Addr}(I:Inv X pins σ H s)(d:To H a):
  s.TypeIs (.ref a) "dict"/\(∀b,Value.ref a=.ref b->∃ob,s.heap.get? b=some ob/\ob.dict=none)/\(a==sysModules)=false:=by
 rcases d with⟨kvs,e⟩|⟨kvs,e⟩
 ·obtain⟨_,hd,vs,_,dd⟩:=vq I.hok e;refine⟨dd.typeIs,λb q=>?_,hd⟩;cases q;obtain⟨ob,_,_,h1,h2,_⟩:=dd;exact⟨ob,h1,h2.2.1⟩
 ·obtain⟨_,hd,xs,_,dd⟩:=vt I.hok e;refine⟨dd.typeIs,λb q=>?_,hd⟩;cases q;obtain⟨ob,_,_,h1,h2,_⟩:=dd;exact⟨ob,h1,h2.2.1⟩
section
variable{X:Cx}{pins:Uh (Addr×Obj)}{σ:St}{H:Hp}{s:Shared}{a:Addr}{y d:V}{u r:Value}{o:Option V}{A:Around}{E:Value->Shared->Prop}
theorem NP{Q:Value->Shared->Prop}(hu:A.units+1<cLine)(I:Inv X pins σ H s)(g:iQ H a y o)(ry:RelV y u)(rd:RelV d r)(h:∀w' s',Inv X pins σ H s'->RelV (o.getD d) w'->Q w' s'):
  wpAny (model X.prog X.w) A (call (.builtin "dict.get") [.ref a,u,r]) Q E s:=by
 rcases g with⟨kvs,k,e,ey,l⟩|⟨kvs,k,b,e,ey,eb,l⟩
 ·subst ey;obtain⟨z,hd,vs,rel,dd⟩:=vq I.hok e;refine call_meetsIn PySem.F.slot_dict_get dd.typeIs PySem.F.entry_dict_get (PySem.F.args_dict_get_3 _ _ _) (meets_dict_get_default (bY X.prog X.w) a (vo ry) hd r) ⟨_,dd.mapOf,h _ _ (I.tok _) ?_⟩;rw[l];exact(rel.val k).getD rd
 ·subst ey;cases (show u=Value.ref b from ry);obtain⟨z,hd,xs,rel,dd⟩:=vt I.hok e;refine call_meetsIn PySem.F.slot_dict_get dd.typeIs PySem.F.entry_dict_get (PySem.F.args_dict_get_3 _ _ _) (meetsH_dict_get_default (tupleKind (bY X.prog X.w)) a b hd r) ⟨tupleKind_room_in1 hu,k,xs,tD I.hok eb,dd,h _ _ (I.tok _) ?_⟩;rw[l];exact(rel.val k).getD rd
end
def wK(td ty tx:TE):TE:=λσ H Q=>td σ H λx H1=>∃a,x=.ref a/\To H1 a/\ty σ H1 λy H2=>tx σ H2 λz H3=>∃o,iQ H3 a y o/\Q (o.getD z) H3
section
variable{X:Cx}{o e f:Expr}{apos cpos:Pos}{td ty tx:TE}
theorem Ia(hu:X.A.units+1<cLine)(ho:PE X o td)(he:PE X e ty)(hf:PE X f tx)(m:M2 X o "get" apos e f cpos):PE X (.Call (.Attribute o "get" apos) [e,f] [] cpos) (wK td ty tx):=by
 intro pins s σ H Q I h;refine wpAny_Call_method m.base m.few m.line PySem.F.plainAttrs_dict PySem.F.slot_dict_get PySem.F.type_dict_get (cM (ho pins s σ H _ I h) λu s1 ⟨x,H1,I1,rx,a,ex,d,q1⟩=>?_);subst ex;obtain rfl:u=Value.ref a:=rx;obtain⟨t1,t2,_⟩:=NO I1 d;refine⟨t1,t2,?_⟩;rw[m.trees];refine Calls.callWith_builtin rfl (Calls.evalArgs_plain (Calls.spliced_cons (cM (he pins s1 σ H1 _ I1 q1) λiv s2 ⟨y,H2,I2,ry,q2⟩=>
  Calls.spliced_cons (cM (hf pins s2 σ H2 _ I2 q2) λfv s3 ⟨z,H3,I3,rz,ov,g,q3⟩=>Calls.spliced_nil ?_))))
 exact NP hu I3 g ry rz λw' s4 I4 rw'=>⟨_,H3,I4,rw',q3⟩
end
end L2
namespace Rev
open PySem PyProof.Rows PySem.Calls
theorem Ib:typeLookup (.type "list_reverseiterator") "__len__" =pure none:=by rw[typeLookup_type,builtinLookup_eq_fast];rfl'
theorem E3:typeLookup (.type "list_reverseiterator") "__length_hint__" =pure (some (.builtin "list_reverseiterator.__length_hint__")):=by rw[typeLookup_type,builtinLookup_eq_fast];rfl'
section
variable{prog:Program}{w:World}{A:Around}{E:Value->Shared->Prop}{s:Shared}{r l:Addr}{items:Array Value}
theorem hint{Q:Bool->Shared->Prop}(hT:s.TypeIs (.ref r) "list_reverseiterator")(h:Q false s):wpAny (model prog w) A (Builtin.List.listLengthHint (.ref r)) Q E s:=by
 unfold Builtin.List.listLengthHint;refine wpAny_bind (wpAny_specialOf hT Ib ?_);refine wpAny_ite_split (λhab=>absurd hab (by decide)) (λ_=>?_);refine wpAny_ite_split (λhab=>absurd hab (by decide)) (λ_=>?_);refine wpAny_bind (wpAny_specialOf hT E3 ?_);generalize hid:("list_reverseiterator.__length_hint__":String)=id0
 wp_delta
 rw[show splitId id0=some ("list_reverseiterator", "__length_hint__") from by subst hid;decide+kernel]
 subst hid;refine wpAny_bind (wpAny_isInstance (T:="list_reverseiterator") (b:=true) hT (by rw[isSubtype_type];rfl') ?_);refine wpAny_ite_split (λhab=>absurd hab (by decide)) (λ_=>?_);refine wpAny_ite_split (λ_=>?_) (λhab=>absurd (by decide+kernel) hab);refine wpAny_ite_split (λhab=>absurd hab (by decide+kernel)) (λ_=>?_);exact wpAny_pure h
theorem extend{R:Result->Shared->Prop}(hh:A.handled=none)(hit:s.heap.IsRevIter r l ((items.size:Int)-1))(hl:s.heap.IsList l items)(hne:l≠r)(S:Addr)(hSr:S≠r)(hSl:S≠l)(res:Value)(c₀:Nat)
  (hS:s.heap.get? S=some {cls:=.type "list",data:=.seq #[] c₀ })
  (hR:∀h' tk acc' c',(∀b o,b≠S->b≠r->s.heap.get? b=some o->h'.get? b=some o)->h'.get? S=some {cls:=.type "list",dict:=none,data:=.seq acc' c',slots:=#[] }->ItemsOf (λi v=>items[items.size-1-i]?=some v) acc' items.size->R (.ok (.ret res)) {s with heap:=h',toks:=tk})
  (hn:items.size<=sizeLine):
  wpAny (model prog w) A.in1 (Builtin.List.listExtendWith (.ref S) (.ref r) res)
   (λfin s'=>match fin with |.done f=>R (.ok f) s' |.again c'=>c'.quiet=true/\codeAny (model prog w) A c' R s') (λe s'=>R (.error e) s') s:=by
 have hSf:S∉[r,l]:=by simp only[mem_cons,not_mem_nil,or_false,not_or];exact⟨hSr,hSl⟩
 have W:=Walks.listRev (prog:=prog) (w:=w) (A:=A.in1) hh r l hne items;have st:(0<=items.size/\s.heap.IsRevIter r l ((items.size:Int)-1-((0:Nat):Int))/\s.heap.IsList l items):=⟨zero_le _,by simpa using hit,hl⟩;have key:∀(h:Heap) (c₁ tk:Nat),(0<=items.size/\h.IsRevIter r l ((items.size:Int)-1-((0:Nat):Int))/\h.IsList l items)->(∀b o,b≠S->b≠r->s.heap.get? b=some o->h.get? b=some o)->
   h.get? S=some {cls:=.type "list",data:=.seq #[] c₁ }->codeAny (model prog w) A (.builtin "list.extend.loop" ⟨[.ref S,.ref r,res],[]⟩) R {s with heap:=h,toks:=tk}:=by
  intro h c₁ tk hst hk hS₁;refine codeAny_extend_loopS W.toS hn S hSf res items.size 0 _ #[] c₁ rfl (zero_le _) hst hS₁ (ItemsOf.nil _) λs' acc' c' hm hS' hacc=>?_;rw[Moved.eq_with hm];refine hR s'.heap s'.toks acc' c' (λb o hb hb2 e=>hm.heap b o (λhmem=>?_) (hk b o hb hb2 e)) hS' hacc
  rcases mem_cons.mp hmem with e'|hmem
  ·exact hb e'
  ·exact hb2 (mem_singleton.mp hmem)
 unfold Builtin.List.listExtendWith;refine wpAny_bind (wpAny_typeOf (T:="list_reverseiterator") hit.typeIs ?_);have h1:Builtin.List.listSameRef (.ref S) (.ref r)=false:=by simp[Builtin.List.listSameRef,hSr]
 have h2:(Value.type "list_reverseiterator" ==Value.type "list")=false:=by decide
 have h3:(Value.type "list_reverseiterator" ==Value.type "tuple")=false:=by decide
 simp only[h1,h2,h3,Bool.or_false,false_eq_true,if_false];refine wpAny_bind (wpAny_pyIter_revIter hit ?_);refine wpAny_bind (wpAny_holding (hint hit.typeIs ?_));refine wpAny_ite_split (λ_=>?_) (λ_=>wpAny_pure ⟨plainId_quiet PySem.F.plain_extend_loop _,key _ c₀ _ st (λb o _ _ e=>e) hS⟩);refine wpAny_bind (wpAny_rule ?_);refine wpAny_bind ?_;show wpAny _ _ (updateSeq S (·.push .none)>>=λ_=>updateSeq S (·.pop)) _ _ _;refine wpAny_bind (wpAny_updateSeq hS rfl ?_);have hS₂:=Heap.get?_update_self (Obj.mapSeq (·.push Value.none)) hS rfl;refine wpAny_updateSeq (hz:=by seq_fits) hS₂ rfl ?_;have hS₃:=Heap.get?_update_self (Obj.mapSeq (·.pop)) hS₂ rfl;refine wpAny_pure ⟨plainId_quiet PySem.F.plain_extend_loop _,key _ _ _ ?_ (λb o hb _ e=>?_) hS₃⟩
 ·refine W.frame 0 _ _ st λb hb o e=>?_;have hbS:b≠S:=λh=>hSf (h▸hb);exact(Heap.get?_update_other _ _ (Ne.symm hbS)).trans ((Heap.get?_update_other _ _ (Ne.symm hbS)).trans e)
 ·exact(Heap.get?_update_other _ _ (Ne.symm hb)).trans ((Heap.get?_update_other _ _ (Ne.symm hb)).trans e)
theorem init{R:Result->Shared->Prop}(hh:A.handled=none)(hit:s.heap.IsRevIter r l ((items.size:Int)-1))(hl:s.heap.IsList l items)(hne:l≠r)(S:Addr)(hSr:S≠r)(hSl:S≠l)(hS:s.heap.get? S=some {cls:=.type "list",data:=.seq #[] })
  (hR:∀h' tk acc' c',(∀b o,b≠S->b≠r->s.heap.get? b=some o->h'.get? b=some o)->h'.get? S=some {cls:=.type "list",dict:=none,data:=.seq acc' c',slots:=#[] }->ItemsOf (λi v=>items[items.size-1-i]?=some v) acc' items.size->R (.ok (.ret .none)) {s with heap:=h',toks:=tk})
  (hn:items.size<=sizeLine):
  wpAny (model prog w) A.in1 (Builtin.«list.__init__» ⟨[.ref S,.ref r],[]⟩)
   (λfin s'=>match fin with |.done f=>R (.ok f) s' |.again c'=>c'.quiet=true/\codeAny (model prog w) A c' R s') (λe s'=>R (.error e) s') s:=by
 show wpAny _ _ (do let old <-Builtin.List.listItems (.ref S);Builtin.List.listUpdate (.ref S) (λ_=>#[]);letGo old.toList.reverse;Builtin.List.listExtendWith (.ref S) (.ref r) .none) _ _ s;refine wpAny_bind ?_;unfold Builtin.List.listItems;refine wpAny_bind (wpAny_seqItems hS rfl (wpAny_pure ?_));show wpAny _ _ (updateSeq S (λ_=>#[])>>=λ_=>letGo (#[]:Array Value).toList.reverse>>=λ_=>Builtin.List.listExtendWith (.ref S) (.ref r) .none) _ _ s;refine wpAny_bind (wpAny_updateSeq hS rfl ?_);have hS₂:=Heap.get?_update_self (Obj.mapSeq (λ_=>(#[]:Array Value))) hS rfl;have oth:∀b o,b≠S->s.heap.get? b=some o->(s.heap.update S (Obj.mapSeq (λ_=>(#[]:Array Value)))).get? b=some o:=
  λb o hb e=>(Heap.get?_update_other _ _ (Ne.symm hb)).trans e
 refine wpAny_bind (wpAny_letGo ?_);refine extend hh (hit.at λo e=>oth r o hSr.symm e) (hl.at λo e=>oth l o hSl.symm e) hne S hSr hSl .none _ hS₂ (λh' tk acc' c' hk hS' hacc=>?_) hn;exact hR h' tk acc' c' (λb o hb hb2 e=>hk b o hb hb2 (oth b o hb e)) hS' hacc
theorem E4{Q:Value->Shared->Prop}(hh:A.handled=none)(hit:s.heap.IsRevIter r l ((items.size:Int)-1))(hl:s.heap.IsList l items)(hne:l≠r)(hn:items.size<=sizeLine)
  (hQ:∀h' tk acc' c',(∀b o,b≠r->s.heap.get? b=some o->h'.get? b=some o)->h'.get? s.heap.objs.size=some {cls:=.type "list",dict:=none,data:=.seq acc' c',slots:=#[] }->ItemsOf (λi v=>items[items.size-1-i]?=some v) acc' items.size->Q (.ref s.heap.objs.size) {s with heap:=h',toks:=tk}):
  wpAny (model prog w) A (call (.type "list") [.ref r]) Q E s:=by
 refine callType_codes (Q₁:=λobj s₁=>obj=.ref s.heap.objs.size/\s₁={s with heap:=s.heap.push {cls:=.type "list",data:=.seq #[] } }) PySem.F.called_list (PySem.F.typeCall_list_1 _) PySem.F.entry_list_init
  (code_list_new _ ⟨rfl,rfl⟩) λobj s₁ h₁=>?_
 obtain⟨rfl,rfl⟩:=h₁;have hS:(s.heap.push {cls:=.type "list",data:=.seq #[] }).get? s.heap.objs.size=some {cls:=.type "list",data:=.seq #[] }:=Heap.get?_push_size _ rfl;have h1:r<s.heap.objs.size:=let ⟨_,e,_⟩:=hit;Heap.lt_size e;have h2:l<s.heap.objs.size:=let ⟨_,e,_⟩:=hl;Heap.lt_size e;refine⟨⟨_,hS,rfl⟩,PySem.F.args_list_init_2 _ _,init (A:=A.in1) hh (hit.at λo e=>Heap.get?_push_of_some _ e) (hl.at λo e=>Heap.get?_push_of_some _ e) hne _ (ne_of_gt h1) (ne_of_gt h2) hS (λh' tk acc' c' hk hS' hacc=>?_) hn⟩;exact⟨rfl,hQ h' tk acc' c' (λb o hb e=>hk b o (ne_of_lt (Heap.lt_size e)) hb (Heap.get?_push_of_some _ e)) hS' hacc⟩
theorem Lu{K:Type}[DecidableEq K]{knd:PySem.KeyKind prog w K}{d:Addr}{kvs:Uh (K×Value)}{ep:Nat}{Q:Value->Shared->Prop}(hh:A.handled=none)(lo:(d==sysModules)=false)(hd:s.heap.DictAt knd d kvs ep)(h64:kvs.length<64)
  {ss:Uh Str} (hs:∀us:Uh Value,us.length=kvs.length->(∀(j:Nat) (v:Value),us[j]?=some v->∃(k:K) (x:Value),kvs[j]?=some (k,x)/\knd.is k v=true)->StrsAre us ss)
  (hQ:∀(h1 h':Heap) (tk:Nat) (e:Nat) (out:Array Value) (ss':Uh Str),(∀b o,s.heap.get? b=some o->h1.get? b=some o)->(∀b o,h1.get? b=some o->h'.get? b=some o)->
   h'.get? h1.objs.size=some (seqObj "list" out e)->StrsAre out.toList ss'->ss'.Perm ss->sortedS ss'=true->Q (.ref h1.objs.size) {s with heap:=h',toks:=tk}):
  wpAny (model prog w) A (call (.builtin "sorted") [.ref d]) Q E s:=by
 have hn:kvs.length<=sizeLine:=by rw[sizeLine_eq];omega
 refine call_function_entry kind_sorted plain_sorted entry_sorted (args_sorted1 _) ?_;unfold Builtin.«sorted»;refine wpAny_bind (m:=checkCount "sorted" 1 1 _) (wpAny_pure ?_);refine wpAny_bind (W.kdu_collect (A:=A.in1) (W.kdl_dict (knd:=knd) (kvs:=kvs) (ep:=ep) lo) hh hd hn λh1 tk acc hk hacc=>?_);have hl:acc.toList.length=kvs.length:=by rw[Array.length_toList];exact hacc.1
 have hS:=hs acc.toList hl λj v e=>hacc.2 j v (by rw[<-Array.getElem?_toList];exact e);refine wpAny_bind (wpAny_newList ?_ (by rw[hl];exact hn));have ho:(h1.push {cls:=.type "list",data:=.seq acc.toList.toArray}).get? h1.objs.size=some (seqObj "list" acc.toList.toArray 0):=Heap.get?_push_size _ rfl;refine wpAny_bind (wpAny_holding (wpAny_call_entry slot_list_sort ⟨_,ho,rfl⟩ entry_list_sort (list_sort_treeK strKind_oneLt ho hS.keysOf (λv₁ v₂ rest e=>keyKind_strs (by rw[<-e];exact hS)) (by rw[hl];exact h64) λst' a1 a2=>⟨_,rfl,?_⟩) (args_list_sort _)));obtain⟨ss',q1,q2,q3⟩:=sorted_out_str hS a1 a2;obtain⟨e,he⟩:=sortedHeap_at (out:=(arrOf st').map (·.2)) ho;refine wpAny_pure ⟨_,rfl,hQ h1 _ tk e _ ss' hk (λb o hb=>?_) he q1 q2 q3⟩;have hlt:=Heap.lt_size hb;rw[sortedHeap_old (ne_of_lt hlt) (by rw[size_push'];exact lt_succ_of_lt hlt)];exact Heap.get?_push_of_some _ hb
end
end Rev
namespace SetTx
open PySem
theorem AJ(t:SetTable)(es:Array (Int×Value))(h:Int)(x:Value):(layNew t es h x).2.1.led=t.led/\(t.plain=false->(layNew t es h x).2.1.plain=false):=by
 unfold layNew;split
 ·dsimp only;unfold SetTable.orStandIn;split
  ·exact⟨rfl,id⟩
  ·exact⟨rfl,λ_=>rfl⟩
 ·exact⟨rfl,λ_=>rfl⟩
theorem AL{t t':SetTable}{hs:Array Int}{w:Nat}{o:Array Nat}(h:t.relaid hs w=some (t',o)):t'.led=t.led/\t'.plain=t.plain:=by
 unfold SetTable.relaid SetTable.laid at h;simp only[bind,Option.bind,pure] at h;split at h
 ·cases h
 ·cases h;exact⟨rfl,rfl⟩
theorem wL(t:SetTable)(es:Array (Int×Value))(w:Nat):(relayAll t es w).2.1.led=t.led/\(t.plain=false->(relayAll t es w).2.1.plain=false):=by
 unfold relayAll;split
 ·next t' o h=>
  have:=AL h;dsimp only;split
  ·exact⟨this.1,λz=>this.2.trans z⟩
  ·exact⟨rfl,λ_=>rfl⟩
 ·exact⟨rfl,λ_=>rfl⟩
section
variable{prog:Program}{w:World}{A:Around}{E:Value->Shared->Prop}{s:Shared}
theorem Ic{a:Addr}{o:Obj}{es:Array (Int×Value)}{ep:Nat}{t:SetTable}{k:Str}{tok:Tok}{Q:Bool->Shared->Prop}(ho:s.heap.get? a=some o)(hd:o.data=.set es ep t)(hel:ElemsOf (strKind prog w) es.toList)(hb:es.size+1<scanBound)(hf:t.fits es.size=true)
  (h1:(∃e∈es.toList,(strKind prog w).is k e.2=true)->Q false s)
  (h2:(∀e∈es.toList,(strKind prog w).is k e.2=false)->∀(h':Heap) (es':Array (Int×Value)) (ep':Nat) (t':SetTable),Heap.SameBut a s.heap h'->h'.get? a=some {o with data:=.set es' ep' t' }->es'.toList.Perm (es.toList++[((strKind prog w).hash k,.str k tok)])->t'.fits es'.size=true->t'.led=t.led->t'.plain=false->Q true {s with heap:=h' }):
  wpAny (model prog w) A (setAddHashed a (.str k tok) ((strKind prog w).hash k)) Q E s:=by
 have hkey:(strKind prog w).is k (.str k tok)=true:=strKind_is _ _ _ _;have hsc:(Value.str k tok).scannable=true:=rfl;have hb0:es.size<scanBound:=by omega
 have hgw:∀(b:Bool) (s₁:Shared) (Q':Unit->Shared->Prop),Q' () s₁->wpAny (model prog w) A (match b with|true=>rule "set.scan.the-table-gave-way" |false=>pure ()) Q' E s₁:=
  λb s₁ Q' hq=>by cases b<;>first|exact wpAny_pure hq|exact wpAny_rule hq
 unfold setAddHashed setAddHashedIn;refine wpAny_holding (wpAny_bind (wpAny_setState_of ho hd hf ?_));dsimp only;rw[byScan_of hsc hb0 hel];simp only[↓reduceIte];unfold setAddByScan;refine wpAny_bind (wpAny_bind (wpAny_rule (wpAny_bind (wpAny_setScan_of hkey ho hd hf hel ?_))));cases hr:List.findIdx? (λe=>(strKind prog w).is k e.2) es.toList with
 |some j=>
  obtain⟨hj,hpj,_⟩:=List.findIdx?_eq_some_iff_getElem.mp hr;exact wpAny_pure (wpAny_pure (h1 ⟨_,getElem_mem hj,hpj⟩))
 |none=>
  have PJ:∀e∈es.toList,(strKind prog w).is k e.2=false:=λe he=>by simpa using List.findIdx?_eq_none_iff.mp hr e he
  have h2:=h2 PJ;have p1:=layNew_perm t es ((strKind prog w).hash k) (.str k tok);have f1:=layNew_fits t es ((strKind prog w).hash k) (.str k tok);obtain⟨l1,n1⟩:=AJ t es ((strKind prog w).hash k) (.str k tok);generalize layNew t es ((strKind prog w).hash k) (.str k tok)=N at p1 f1 l1 n1 ⊢;obtain⟨es1,t1,was,TH⟩:=N;dsimp only at p1 f1 l1 n1 ⊢;rw[Array.toList_push] at p1;have sz1:es1.size=es.size+1:=by rw[<-Array.length_toList,p1.length_eq,length_append,Array.length_toList];rfl
  have hz1:es1.size<scanBound:=by omega
  have PL:∀(h:Heap) (o:Obj) (es ep t es' t'),h.get? a=some o->o.data=.set es ep t->(h.update a (Obj.putSet es' t')).get? a=some {o with data:=.set es' (ep+1) t' }:=λh o es ep t es' t' ho hd=>by
   have:=Heap.get?_update_self (Obj.putSet es' t') ho (by rw[putSet_of es' t' hd];rfl);rw[putSet_of es' t' hd] at this;exact this
  have tail:∀(t2:SetTable) (g:Bool->Sem Unit),(∀(b:Bool) (s₁:Shared) (Q':Unit->Shared->Prop),Q' () s₁->wpAny (model prog w) A (g b) Q' E s₁)->t2.fits es1.size=true->t2.led=t.led->t2.plain=false->∀R:Option Bool->Shared->Prop,(∀h',Q true {s with heap:=h' }->R (some true) {s with heap:=h' })->
    wpAny (model prog w) A (do
     storeSet a es1 t2
     if (!was&&t2.tooFull)=true then do
       g (relayAll t2 es1 (SetTable.grown es1.size)).2.2
       storeSet a (relayAll t2 es1 (SetTable.grown es1.size)).1 (relayAll t2 es1 (SetTable.grown es1.size)).2.1
       pure (some true)
      else pure (some true)) R E s:=λt2 g hg f2 l2 n2 R hR=>by
   refine wpAny_bind (wpAny_storeSet_of ho hd ?_ (fits_of_scanBound hz1));have ho1:=PL s.heap o es ep t es1 t2 ho hd;have sb1:=Heap.SameBut.update s.heap a (Obj.putSet es1 t2);split
   ·have p2:=relayAll_perm t2 es1 (SetTable.grown es1.size);have f3:=relayAll_fits t2 es1 (SetTable.grown es1.size);obtain⟨l3,n3⟩:=wL t2 es1 (SetTable.grown es1.size);generalize relayAll t2 es1 (SetTable.grown es1.size)=Rl at p2 f3 l3 n3 ⊢;obtain⟨es2,t3,Tp⟩:=Rl;dsimp only at p2 f3 l3 n3 ⊢;have sz2:es2.size=es1.size:=by rw[<-Array.length_toList,p2.length_eq,Array.length_toList]
    refine wpAny_bind (hg _ _ _ (wpAny_bind (wpAny_storeSet_of ho1 rfl ?_ (fits_of_scanBound (by omega)))));have g2:=PL (s.heap.update a (Obj.putSet es1 t2)) {o with data:=.set es1 (ep+1) t2} es1 (ep+1) t2 es2 t3 ho1 rfl
    exact wpAny_pure (hR _ (h2 _ es2 _ t3 (sb1.trans (Heap.SameBut.update _ a _)) g2 (p2.trans p1) f3 (l3.trans l2) (n3 n2)))
   ·exact wpAny_pure (hR _ (h2 _ es1 _ t2 sb1 ho1 p1 f2 l2 n2))
  refine wpAny_bind (hgw _ _ _ ?_);split
  ·refine wpAny_bind ?_;rw[hashByValue_scannable 8 hsc];refine wpAny_pure ?_;rw[if_neg (show ¬plainKind (.str k tok)=true from Bool.false_ne_true)];refine tail {t1 with plain:=false} _ ?_ (SetTable.fits_plain_off f1) l1 rfl _ ?_
   ·intro b s₁ Q' hq;cases b<;>first|exact wpAny_pure hq|exact wpAny_rule hq
   ·intro h' hq;dsimp only;exact wpAny_pure hq
  ·next hp=>
   refine wpAny_bind (wpAny_pure ?_);simp only[↓reduceIte];refine tail t1 _ ?_ f1 l1 (by simpa using hp) _ ?_
   ·intro b s₁ Q' hq;cases b<;>first|exact wpAny_pure hq|exact wpAny_rule hq
   ·intro h' hq;dsimp only;exact wpAny_pure hq
end
end SetTx
namespace SetTx
open PySem PyProof.Rows
def keyOf:Value->Str
 |.str s _=>s
 |_=>""
def gC(val:Nat->Str):Nat->Uh Str
 | 0=>[]
 |i+1=>if val i∈gC val i then gC val i else gC val i++[val i]
theorem tF(val:Nat->Str):∀i,(gC val i).length<=i
 | 0=>le_refl _
 |i+1=>by
  have:=tF val i;unfold gC;split
  ·omega
  ·rw[length_append];simp;omega
theorem za(val:Nat->Str):∀(i:Nat) (x:Str),x∈gC val i↔∃j,j<i/\val j=x
 | 0,x=>by simp[gC]
 |i+1,x=>by
  have ih:=za val i;unfold gC;split
  ·next h=>
   rw[ih];constructor
   ·rintro⟨j,hj,e⟩;exact⟨j,by omega,e⟩
   ·rintro⟨j,hj,e⟩
    by_cases z:j=i
    ·subst z;rw[<-e];exact(ih _).mp h
    ·exact⟨j,by omega,e⟩
  ·rw[mem_append,ih,mem_singleton];constructor
   ·rintro(⟨j,hj,e⟩|rfl)
    ·exact⟨j,by omega,e⟩
    ·exact⟨i,by omega,rfl⟩
   ·rintro⟨j,hj,e⟩
    by_cases z:j=i
    ·subst z;exact .inr e.symm
    ·exact .inl ⟨j,by omega,e⟩
theorem tG(val:Nat->Str):∀i,(gC val i).Nodup
 | 0=>nodup_nil
 |i+1=>by
  have ih:=tG val i;unfold gC;split
  ·exact ih
  ·next h=>
   rw[nodup_append];refine⟨ih,by simp,λa ha b hb e=>?_⟩;rw[mem_singleton.mp hb] at e;exact h (e▸ha)
def pJ(prog:Program)(w:World)(h:Heap)(a:Addr)(ss:Uh Str)(ld:Bool):Prop:=∃o es ep t,h.get? a=some o/\o.ExactSet/\o.data=.set es ep t/\ElemsOf (strKind prog w) es.toList/\(es.toList.map λe=>keyOf e.2).Perm ss/\t.fits es.size=true/\t.led=ld/\(es.size≠0->t.plain=false)
theorem key_is{prog:Program}{w:World}{k:Str}{v:Value}(h:(strKind prog w).is k v=true):keyOf v=k:=by
 obtain⟨t,rfl⟩:=Value.isStrOf_shape h;rfl
section
variable{prog:Program}{w:World}{A:Around}{R:Result->Shared->Prop}{I:Addr}{fp wr:Uh Addr}{G:Array GenState->Array GenState->Prop}{n:Nat}{P:Nat->Value->Prop}{St:Nat->Shared->Prop}
theorem pJ.keep{h h':Heap}{a:Addr}{ss:Uh Str}{ld:Bool}(x:pJ prog w h a ss ld)(k:∀o,h.get? a=some o->h'.get? a=some o):pJ prog w h' a ss ld:=by
 obtain⟨o,es,ep,t,ho,rest⟩:=x;exact⟨o,es,ep,t,k o ho,rest⟩
theorem PM(W:WalksS prog w A.in1 I fp wr G n P St)(S:Addr)(hSf:S∉fp)(val:Nat->Str)(hval:∀i v,P i v->∃t,v=.str (val i) t)(hb:n+1<scanBound)(ld:Bool):
  ∀(k i:Nat) (s:Shared),n-i=k->i<=n->St i s->pJ prog w s.heap S (gC val i) ld->
   (∀s',Moved (S::wr) G s s'->pJ prog w s'.heap S (gC val n) ld->R (.ok (.ret .none)) s')->
   codeAny (model prog w) A (.builtin "set.update.loop" ⟨[.ref S,.ref I],[]⟩) R s:=by
 have hSw:S∉wr:=λh=>hSf (W.sub _ h);have hsub:∀b∈wr,b∈S::wr:=λb hb=>mem_cons_of_mem _ hb;intro k
 induction k with
 |zero=>
  intro i s hk hi hst hS hR;have hin:i=n:=by omega
  subst hin;refine codeAny_builtin F.entry_set_update_loop ?_;rw[Around.under_plainId F.plain_set_update_loop _];show wpAny _ A.in1 (pyNext (.ref I)>>=_) _ _ s;refine wpAny_bind (W.done s _ _ hst λs' hm=>?_);show wpAny _ A.in1 (ret Value.none) _ _ s';exact wpAny_pure (hR s' (hm.mono hsub) (hS.keep λo e=>hm.heap S o hSw e))
 |succ k ih=>
  intro i s hk hi hst hS hR;have hlt:i<n:=by omega
  refine codeAny_builtin F.entry_set_update_loop ?_;rw[Around.under_plainId F.plain_set_update_loop _];show wpAny _ A.in1 (pyNext (.ref I)>>=_) _ _ s;refine wpAny_bind (W.item i s _ _ hlt hst λv s' hP R6 hm=>?_);obtain⟨t,rfl⟩:=hval i v hP;obtain⟨o,es,ep,tb,ho,hex,hd,hel,hp,hf,hl,hpl⟩:=hS.keep (h':=s'.heap) λo e=>hm.heap S o hSw e;have esz:es.size=(gC val i).length:=by rw[<-hp.length_eq,length_map,Array.length_toList]
  have dl:=tF val i;show wpAny _ A.in1 (holding [Value.str (val i) t] (setAdd S (.str (val i) t))>>=_) _ _ s';refine wpAny_bind (wpAny_holding ?_);unfold setAdd;refine wpAny_holding ?_;refine wpAny_bind ((strKind prog w).pyHash (k:=val i) (strKind_is _ _ _ _) ?_);have iff:val i∈gC val i↔∃e∈es.toList,(strKind prog w).is (val i) e.2=true:=by
   rw[<-hp.mem_iff,mem_map];constructor
   ·rintro⟨e,he,ek⟩;obtain⟨⟨k',hk',_⟩,_⟩:=hel e he;rw[<-key_is hk',ek] at hk';exact⟨e,he,hk'⟩
   ·rintro⟨e,he,ek⟩;exact⟨e,he,key_is ek⟩
  have fin:∀(h':Heap) (b:Bool),Heap.SameBut S s'.heap h'->pJ prog w h' S (gC val (i+1)) ld->wpAny (model prog w) A.in1 (again (Code.builtin "set.update.loop" ⟨[Value.ref S,Value.ref I],[]⟩))
    (λfin s'=>match fin with |.done f=>R (.ok f) s' |.again c'=>c'.quiet=true/\codeAny (model prog w) A c' R s') (λe s'=>R (.error e) s') {s' with heap:=h',toks:=s'.toks+1}:=λh' _ hsb hS2=>by
   refine wpAny_pure ⟨plainId_quiet F.plain_set_update_loop _,ih (i+1) _ (by omega) hlt (W.frame _ s' _ _ R6 (le_succ _) λb hb o e=>?_) hS2 λs'' R7 R9=>?_⟩
   ·rw[hsb.2 b (λh:b=S=>hSf (by rw[<-h];exact hb))];exact e
   ·refine hR s'' (Moved.trans W.gtrans ((hm.mono hsub).then_heap (le_succ _) λb o hb e=>?_) R7) R9;rw[hsb.2 b (λh:b=S=>hb (by rw[h];exact mem_cons_self))];exact e
  refine Ic (s:={s' with toks:=s'.toks+1}) ho hd hel (by omega) hf (λhx=>?_) (λhx h' es' ep' t' hsb hg hpm hf' hl' Sa=>?_)
  ·refine fin s'.heap false (Heap.SameBut.refl S s'.heap) ?_;rw[show gC val (i+1)=gC val i by rw[gC,if_pos (iff.mpr hx)]]
   exact⟨o,es,ep,tb,ho,hex,hd,hel,hp,hf,hl,hpl⟩
  ·refine fin h' true hsb ?_;have hn:val i∉gC val i:=λz=>by
    obtain⟨e,he,ek⟩:=iff.mp z;rw[hx e he] at ek;cases ek
   rw[show gC val (i+1)=gC val i++[val i] by rw[gC,if_neg hn]]
   refine⟨_,es',ep',t',hg,hex,rfl,(hel.push (strKind_is _ _ _ _) rfl).perm hpm,?_,hf',hl'.trans hl,λ_=>Sa⟩;refine(hpm.map _).trans ?_;rw[map_append];exact hp.append (List.Perm.refl _)
end
end SetTx
namespace SetTx
open PySem PyProof.Rows
section
variable{prog:Program}{w:World}{A:Around}{E:Value->Shared->Prop}{s:Shared}
def cY(w:World):Bool:=w.params.followText "set-order"
def eY(w:World):Obj:={cls:=.type "set",dict:=none,data:=.set #[] 0 (.fresh 0 0 (!cY w))}
theorem Lv(a:Value){Q₁:Value->Shared->Prop}(h:Q₁ (.ref s.heap.objs.size) {s with heap:=s.heap.push (eY w)}):
  codeAny (model prog w) A (.call (.builtin "set.__new__") ⟨[.type "set",a],[]⟩) (wants Q₁ E) s:=by
 refine codeAny_of_tree ?_;show wpAny _ A.in1 (do checkBuiltinCall "set.__new__" ⟨[.type "set",a],[]⟩;again (.builtin "set.__new__" ⟨[.type "set",a],[]⟩)) _ _ s;refine wpAny_bind (wpAny_of_eq (PySem.F.newCall_set_1 a) (wpAny_pure ⟨plainId_quiet PySem.F.plain_set_new _,codeAny_builtin PySem.F.entry_set_new ?_⟩));rw[Around.under_plainId PySem.F.plain_set_new _];unfold Builtin.«set.__new__» Builtin.Frozenset.newClass;have hsub:=sub_set_self;obtain⟨hp,g,d,tk,os⟩:=s;dsimp only
 wp_walk
 refine wpAny_askSetting (wpAny_pure ?_);dsimp only;simp only[newObj];refine wpAny_bind (wpAny_alloc (wpAny_pure ?_));exact wpAny_pure h
theorem Sb(h:Heap):pJ prog w (h.push (eY w)) h.objs.size [] (!cY w):=
 ⟨eY w,#[],0,_,Heap.get?_push_size _ rfl,⟨rfl,rfl,rfl⟩,rfl,λe he=>by simp at he,List.Perm.nil,rfl,rfl,λz=>absurd rfl z⟩
theorem tH{l:Addr}{items:Array Value}{val:Nat->Str}{Q:Value->Shared->Prop}(hh:A.handled=none)(hl:s.heap.IsList l items)(hi:∀(i:Nat) (v:Value),items[i]?=some v->∃t,v=.str (val i) t)(hb:items.size+1<scanBound)
  (h:∀(h':Heap) (tk:Nat),pJ prog w h' s.heap.objs.size (gC val items.size) (!cY w)->(∀b o,b<s.heap.objs.size->s.heap.get? b=some o->h'.get? b=some o)->Q (.ref s.heap.objs.size) {s with heap:=h',toks:=tk}):
  wpAny (model prog w) A (call (.type "set") [.ref l]) Q E s:=by
 obtain⟨c,tl,TJ⟩:=PySem.F.called_set.mro;have hmade:=PySem.F.called_set.made;have hsub:=PySem.F.called_set.sub;refine wpAny_call (codeAny_of_tree ?_);show wpAny _ _ (callAny (.type "set") _) _ _ _;refine wpAny_pure ⟨Code.quiet_builtin _ (by decide+kernel),codeAny_builtin PySem.F.entry_type_call ?_⟩;rw[Around.under_plain (weight_type_call_type "set" [.ref l] []) rfl];have h1:=PySem.F.called_set.notType;have h2:=PySem.F.called_set.canCreate;have hct:=PySem.F.typeCall_set_1 (.ref l)
 repeat (any_goals (first|assumption|wp_step))
 refine codeAny_mono (Lv (.ref l) (E:=E) (Q₁:=λobj s₁=>obj=.ref s.heap.objs.size/\s₁={s with heap:=s.heap.push (eY w)}) ⟨rfl,rfl⟩) λr s₁ hr=>?_;cases r with
 |error e=>exact hr
 |ok fl=>
  cases fl with
  |ret obj=>
   obtain⟨rfl,rfl⟩:=hr;have hS:(s.heap.push (eY w)).get? s.heap.objs.size=some (eY w):=Heap.get?_push_size _ rfl;have hT:Shared.TypeIs {s with heap:=s.heap.push (eY w)} (.ref s.heap.objs.size) "set":=⟨_,hS,rfl⟩
   have hli:=PySem.F.called_set.init.lookup;have hbi:=PySem.F.called_set.init.bind (.ref s.heap.objs.size)
   repeat (any_goals (first|assumption|wp_step))
   refine codeAny_mono (codeAny_call_builtin (R:=wants (λr s₂=>r=.none/\∃h' tk,s₂={s with heap:=h',toks:=tk}/\pJ prog w h' s.heap.objs.size (gC val items.size) (!cY w)/\∀b o,b<s.heap.objs.size->s.heap.get? b=some o->h'.get? b=some o) E) PySem.F.called_set.init.plain PySem.F.entry_set_init (check_set_init_1 hT ?_)) λr₂ s₂ hr₂=>?_
   ·obtain⟨ol,hol,hcl,nl,hdl⟩:=hl;have hlS:l<s.heap.objs.size:=Heap.lt_size hol;obtain⟨TM,PN,Tq,NQ⟩:=ol;simp only at hcl hdl;subst hcl;subst hdl;have Sd:(s.heap.push (eY w)).get? l=some {cls:=.type "list",dict:=PN,data:=.seq items nl,slots:=NQ}:=Heap.get?_push_of_some _ hol;have TN:=PySem.F.sub_list_set;have TR:=PySem.F.sub_list_frozenset;have hne:(Value.type "list" ==Value.type "dict")=false:=by decide
    have hl1:(s.heap.push (eY w)).IsList l items:=⟨_,Sd,rfl,nl,rfl⟩;unfold Builtin.«set.__init__» noKeywords Builtin.Frozenset.updateFrom;generalize hPI:pyIter=PI
    wp_walk
    subst hPI;refine wpAny_pyIter_list hl1 ?_;refine wpAny_bind (wpAny_runValue ?_);have hh3:A.in1.in1.in1.handled=none:=by simp[hh]
    have Se:l≠(s.heap.push (eY w)).objs.size:=by
     rw[Heap.size_push];exact ne_of_lt (lt_succ_of_lt hlS)
    have hSf:s.heap.objs.size∉[(s.heap.push (eY w)).objs.size,l]:=by
     rw[Heap.size_push];simp only[mem_cons,not_mem_nil,or_false,not_or];exact⟨ne_of_lt (lt_succ_self _),ne_of_gt hlS⟩
    refine PM ((Walks.list hh3 _ l Se items).toS) s.heap.objs.size hSf val hi hb (!cY w) (items.size-0) 0 _ (by omega) (zero_le _) ⟨⟨_,Heap.get?_push_size _ rfl,rfl,rfl⟩,(hl1.push _)⟩ ((Sb s.heap).keep λo e=>Heap.get?_push_of_some _ e) λs' hm hS'=>?_;obtain⟨h',g',d',tk',os'⟩:=s';have eg:g'=s.gens:=hm.gens;have ed:d'=s.drawn:=hm.drawn;have eo:os'=s.os:=hm.os;subst eg;subst ed;subst eo;show wpAny _ _ _ _ _ _;refine wpAny_pure ?_;show wpAny _ _ (ret Value.none) _ _ _;refine wpAny_pure ⟨rfl,h',tk',rfl,hS',λb o hb e=>?_⟩;have hb1:b≠s.heap.objs.size:=ne_of_lt hb;have hb2:b≠(s.heap.push (eY w)).objs.size:=by
     rw[Heap.size_push];exact ne_of_lt (lt_succ_of_lt hb)
    exact hm.heap b o (by simp only[mem_cons,not_mem_nil,or_false,not_or];exact⟨hb1,hb2⟩) (Heap.get?_push_of_some _ (Heap.get?_push_of_some _ e))
   ·cases r₂ with
    |error e=>exact hr₂
    |ok fl₂=>
     cases fl₂ with
     |ret r=>
      obtain⟨rfl,h',tk,rfl,hS',hk'⟩:=hr₂
      repeat (any_goals (first|assumption|wp_step))
      exact h _ _ hS' hk'
     |_=>exact hr₂.elim
  |_=>exact hr.elim
end
end SetTx
namespace SetTx
open PySem PyProof.Rows
section
variable{prog:Program}{w:World}{A:Around}{E:Value->Shared->Prop}
theorem get_erase{α:Type}:∀(l:Uh α) (i:Nat) (h:i<l.length),(l[i]::l.eraseIdx i).Perm l
 |x::l,0,_=>List.Perm.refl _
 |x::l,i+1,h=>(List.Perm.swap x (l[i]'(Nat.lt_of_succ_lt_succ h)) (l.eraseIdx i)).trans ((get_erase l i (Nat.lt_of_succ_lt_succ h)).cons x)
theorem NR{M:Model}{src:Source}{n:Nat}{s:Shared}{Q:Nat->Shared->Prop}(hn:n≠0)(h:∀i d',i<n->Q i {s with drawn:=d' }):wpAny M A (choose src n) Q E s:=λ_ _ _=>⟨hn,h _ _ (mod_lt _ (Nat.pos_of_ne_zero hn))⟩
theorem E5{α:Type}(n:Nat):∀(xs:Uh α) (s:Shared) (Q:Uh α->Shared->Prop),xs.length=n->(∀ys d',ys.Perm xs->Q ys {s with drawn:=d' })->wpAny (model prog w) A (drawOrder n xs) Q E s:=by
 induction n with
 |zero=>
  intro xs s Q hl h;obtain rfl:=length_eq_zero_iff.mp hl;exact wpAny_pure (h [] s.drawn (List.Perm.refl _))
 |succ n ih=>
  intro xs s Q hl h;cases xs with
  |nil=>cases hl
  |cons x xs=>
   unfold drawOrder;refine wpAny_bind ?_;refine NR (by simp) λi d' hi=>?_;rw[getElem?_eq_getElem hi];dsimp only;refine wpAny_bind (ih _ _ _ (by rw[List.length_eraseIdx,if_pos hi,hl];rfl) λys d'' hp=>wpAny_pure (h _ _ ?_));refine(hp.cons _).trans ?_;exact get_erase _ _ hi
theorem C3{α:Type}(next:Nat->Nat):∀(fuel k:Nat) (left:Uh α) (out:Array α),left.length=fuel->(pickOrder.go next fuel k left out).toList.Perm (out.toList++left)
 | 0,k,[],out,_=>by simp[pickOrder.go]
 |fuel+1,k,left,out,hl=>by
  unfold pickOrder.go;have hi:next k%left.length<left.length:=mod_lt _ (by omega)
  rw[getElem?_eq_getElem hi];dsimp only;refine(C3 next fuel (k+1) _ _ (by rw[List.length_eraseIdx,if_pos hi,hl];rfl)).trans ?_;rw[Array.toList_push,append_assoc];exact(List.Perm.refl _).append (get_erase left _ hi)
theorem vv{α:Type}(next:Nat->Nat)(xs:Array α):(pickOrder next xs).toList.Perm xs.toList:=by
 unfold pickOrder;refine(C3 next xs.size 0 xs.toList #[] (by simp)).trans ?_;simp
end
end SetTx
namespace SetTx
open PySem PyProof.Rows
theorem AM:entryFor table "set.__iter__" =some Builtin.«frozenset.__iter__»:=
 entryFor_alias (id':="frozenset.__iter__") (by rfl') rfl (by decide+kernel) (by rfl')
theorem slot_next:Slot "set_iterator" "__next__" "set_iterator.__next__":=
 .of (owner := "set_iterator") (n := "__next__") (by rw[typeLookup_type,builtinLookup_eq_fast];rfl') (by decide+kernel) (by decide+kernel) (by decide+kernel)
  (by first|exact .inl (by decide+kernel)|exact .inr (by decide+kernel)) (by rw[isSubtype_type];rfl')
theorem entry_next:entryFor table "set_iterator.__next__" =some Builtin.«set_iterator.__next__»:=entryFor_of_tree (by rfl')
section
variable{prog:Program}{w:World}{A:Around}{E:Value->Shared->Prop}{s:Shared}
def C4(first:Value)(i:Nat)(a:Addr)(n ep:Nat):Obj:={cls:=.type "set_iterator",data:=.fields #[first,.int i 0,.ref a,.int n 0,.int ep 0] }
theorem Ie{a:Addr}{o:Obj}{es:Array (Int×Value)}{ep:Nat}{t:SetTable}{Q:Value->Shared->Prop}(ho:s.heap.get? a=some o)(hex:o.ExactSet)(hd:o.data=.set es ep t)(hf:t.fits es.size=true)(hz:es.size<scanBound)
  (h1:(!cY w&&(!t.plain&&decide (es.size>1)))=true->∀(ys:Uc) d',ys.Perm (List.range es.size)->Q (.ref (s.heap.objs.size+1)) {s with heap:=(s.heap.push {cls:=.type "tuple",data:=.seq (ys.map λi=>rawInt (i:Nat)).toArray}).push (C4 (.ref s.heap.objs.size) 0 a es.size ep),drawn:=d' })
  (h2:(!cY w&&(!t.plain&&decide (es.size>1)))=false->Q (.ref s.heap.objs.size) {s with heap:=s.heap.push (C4 (rawInt 0) 0 a es.size ep)}):
  wpAny (model prog w) A (pyIter (.ref a)) Q E s:=by
 have hT:s.TypeIs (.ref a) "set":=⟨o,ho,hex.1⟩;refine wpAny_pyIter_slot hT PySem.F.slot_set_iter (wpAny_call_entry PySem.F.slot_set_iter hT AM ?_ (PySem.F.args_set_iter_1 _));unfold Builtin.«frozenset.__iter__»;refine wpAny_bind (m:=Builtin.Frozenset.slot0 "__iter__" ⟨[.ref a],[]⟩) (wpAny_pure ?_);unfold Builtin.Frozenset.sizeOf;refine wpAny_bind (wpAny_bind (wpAny_setEntries_of ho hd hf (wpAny_pure ?_)));unfold setDrawn setsByText;refine wpAny_bind (wpAny_bind (wpAny_setState_of ho hd hf (wpAny_bind (wpAny_bind (wpAny_askSetting (wpAny_pure (wpAny_pure ?_)))))));dsimp only;unfold setEpoch
 change wpAny _ _ (if (!cY w&&(!t.plain&&decide (es.size>1)))=true then _ else _) _ _ _
 by_cases hc:(!cY w&&(!t.plain&&decide (es.size>1)))=true
 ·rw[if_pos hc];refine wpAny_bind (E5 es.size _ _ _ (by simp) λys d' hp=>?_);refine wpAny_bind (wpAny_newTuple ?_ (by rw[length_map,hp.length_eq,length_range];exact fits_of_scanBound hz));refine wpAny_bind (wpAny_bind (wpAny_setState_of (Heap.get?_push_of_some _ ho) hd hf (wpAny_pure ?_)));refine wpAny_bind (wpAny_newObj_type (wpAny_pure ⟨_,rfl,"set_iterator",_,⟨_,Heap.get?_push_size _ rfl,rfl⟩,slot_next.lookup,?_⟩));have:=h1 hc ys d' hp;rw[Heap.size_push];exact this
 ·rw[if_neg hc];refine wpAny_bind (wpAny_pure ?_);refine wpAny_bind (wpAny_bind (wpAny_setState_of ho hd hf (wpAny_pure ?_)));refine wpAny_bind (wpAny_newObj_type (wpAny_pure ⟨_,rfl,"set_iterator",_,⟨_,Heap.get?_push_size _ rfl,rfl⟩,slot_next.lookup,?_⟩));exact h2 (by simpa using hc)
end
end SetTx
namespace SetTx
open PySem PyProof.Rows
theorem zc:Manifest.owners.lookup (String.ofList ['r','o','t','a','r','e','t','i','_','t','e','s'].reverse)=some Manifest.sig_set_iterator:=by rfl'
theorem args_next(a:Value):argsOk "set_iterator.__next__" ⟨[a],[]⟩:=by
 unfold argsOk;rw[signature?_of (id:="set_iterator.__next__") (n:=['_','_','t','x','e','n','_','_']) (o:=['r','o','t','a','r','e','t','i','_','t','e','s']) (by rfl') zc];rfl'
section
variable{prog:Program}{w:World}{A:Around}{E:Value->Shared->Prop}{s:Shared}
def nD(h:Heap)(it:Addr)(first:Value)(i:Nat)(a:Addr)(n ep:Nat):Prop:=∃o,h.get? it=some o/\o.cls=.type "set_iterator"/\o.data=.fields #[first,.int i 0,.ref a,.int n 0,.int ep 0]
theorem AN{it a T:Addr}{i:Nat}{o:Obj}{es:Array (Int×Value)}{ep p:Nat}{t:SetTable}{ps:Array Value}{x:Int×Value}{Q:Option Value->Shared->Prop}(hit:nD s.heap it (.ref T) i a es.size ep)(ho:s.heap.get? a=some o)(hd:o.data=.set es ep t)(hf:t.fits es.size=true)
  (hT:s.heap.IsTuple T ps) (hp:ps[i]?=some (rawInt (p:Nat))) (hx:es[p]?=some x)
  (hQ:∀h',nD h' it (.ref T) (i+1) a es.size ep->Heap.SameBut it s.heap h'->Q (some x.2) {s with heap:=h' }):
  wpAny (model prog w) A (pyNext (.ref it)) Q E s:=by
 obtain⟨oi,hoi,hci,hdi⟩:=id hit;have hTy:s.TypeIs (.ref it) "set_iterator":=⟨oi,hoi,hci⟩;unfold pyNext;refine wpAny_bind (wpAny_attempt (wpAny_callSpecial?_slot (name:=Str.ofString "__next__") hTy slot_next (wpAny_call_entry slot_next hTy entry_next ?_ (args_next _))));unfold Builtin.«set_iterator.__next__»;refine wpAny_bind (wpAny_pure ?_);refine wpAny_bind (wpAny_fieldsOf hoi hdi ?_);dsimp only;refine wpAny_bind (wpAny_setEntries_of ho hd hf ?_);rw[if_neg (by simp)];obtain⟨oT,hoT,Gh,nT,hdT⟩:=hT;refine wpAny_bind (m:=seqItems? (.ref T)) ?_;unfold seqItems?;refine wpAny_bind (wpAny_load hoT ?_);rw[hdT];refine wpAny_pure ?_;dsimp only;rw[toNat_natCast,hp];dsimp only[rawInt];unfold setNextDrawn;refine wpAny_bind (wpAny_bind (wpAny_setState_of ho hd hf ?_));dsimp only;rw[if_neg (by simp),toNat_natCast,hx];refine wpAny_pure ?_;refine wpAny_bind (wpAny_setField hoi hdi (by simp) ?_);have AO:nD (s.heap.update it (Obj.mapFields (·.setIfInBounds 1 (rawInt ((i:Int)+1))))) it (.ref T) (i+1) a es.size ep:=
  ⟨_,Heap.get?_update_self _ hoi (Obj.isFreed_of_fields (Obj.data_mapFields hdi _)),(Obj.cls_mapFields ..).trans hci,by rw[Obj.data_mapFields hdi];simp[rawInt]⟩
 exact wpAny_pure ⟨_,rfl,wpAny_pure (hQ _ AO (Heap.SameBut.update ..))⟩
theorem AQ{it a T:Addr}{i:Nat}{o:Obj}{es:Array (Int×Value)}{ep:Nat}{t:SetTable}{ps:Array Value}{Q:Option Value->Shared->Prop}(hh:A.handled=none)(hit:nD s.heap it (.ref T) i a es.size ep)(ho:s.heap.get? a=some o)(hd:o.data=.set es ep t)(hf:t.fits es.size=true)
  (hT:s.heap.IsTuple T ps) (hp:ps[i]?=none) (hQ:∀h',Heap.ExtBut it s.heap h'->Q none {s with heap:=h' }):wpAny (model prog w) A (pyNext (.ref it)) Q E s:=by
 obtain⟨oi,hoi,hci,hdi⟩:=id hit;have hTy:s.TypeIs (.ref it) "set_iterator":=⟨oi,hoi,hci⟩;unfold pyNext;refine wpAny_bind (wpAny_attempt (wpAny_callSpecial?_slot (name:=Str.ofString "__next__") hTy slot_next (wpAny_call_entry slot_next hTy entry_next ?_ (args_next _))));unfold Builtin.«set_iterator.__next__»;refine wpAny_bind (wpAny_pure ?_);refine wpAny_bind (wpAny_fieldsOf hoi hdi ?_);dsimp only;refine wpAny_bind (wpAny_setEntries_of ho hd hf ?_);rw[if_neg (by simp)];obtain⟨oT,hoT,Gh,nT,hdT⟩:=hT;refine wpAny_bind (m:=seqItems? (.ref T)) ?_;unfold seqItems?;refine wpAny_bind (wpAny_load hoT ?_);rw[hdT];refine wpAny_pure ?_;dsimp only;rw[toNat_natCast,hp];dsimp only;refine wpAny_bind (wpAny_setField hoi hdi (by simp) ?_);have ho1:=Heap.get?_update_self (Obj.mapFields (·.setIfInBounds 0 (rawInt 0))) hoi (Obj.isFreed_of_fields (Obj.data_mapFields hdi _));refine wpAny_bind (wpAny_setField ho1 (Obj.data_mapFields hdi _) (by simp) ?_);refine wpAny_bind ?_;simp only[newExc,newTuple];refine wpAny_bind (wpAny_newObj_type ?_ (by size_fits));refine wpAny_bind (m:=firstArgMember _ _) (wpAny_of_eq (a:=Value.none) (by first|rfl|(simp only[firstArgMember];rfl)) ?_);refine wpAny_newObj_type ?_ (by size_fits);simp only[raiseNew];refine wpAny_bind (wpAny_handled ?_);rw[show A.in1.handled=none from hh];refine wpAny_bind (wpAny_pure (wpAny_throw ?_));refine wpAny_bind (wpAny_isInstance (T:="StopIteration") (b:=true) ⟨_,Heap.get?_push_size _ rfl,rfl⟩ isSubtype_stop ?_);exact wpAny_pure (hQ _ ((((Heap.SameBut.update ..).trans (Heap.SameBut.update ..)).extBut.push _).push _))
end
end SetTx
namespace SetTx
open PySem PyProof.Rows
section
variable{prog:Program}{w:World}{A:Around}{E:Value->Shared->Prop}{s:Shared}
theorem vz{it a:Addr}{i f f':Nat}{o:Obj}{es:Array (Int×Value)}{ep:Nat}{t:SetTable}{v:Value}{Q:Option Value->Shared->Prop}(hit:nD s.heap it (.int f 0) i a es.size ep)(ho:s.heap.get? a=some o)(hd:o.data=.set es ep t)(hf:t.fits es.size=true)
  (hN:∀(A:Around) (E:Value->Shared->Prop) (Q':Option (Value×Nat)->Shared->Prop),Q' (some (v,f')) s->wpAny (model prog w) A (setNext a f i ep) Q' E s)
  (hQ:∀h',nD h' it (.int f' 0) (i+1) a es.size ep->Heap.SameBut it s.heap h'->Q (some v) {s with heap:=h' }):
  wpAny (model prog w) A (pyNext (.ref it)) Q E s:=by
 obtain⟨oi,hoi,hci,hdi⟩:=id hit;have hTy:s.TypeIs (.ref it) "set_iterator":=⟨oi,hoi,hci⟩;unfold pyNext;refine wpAny_bind (wpAny_attempt (wpAny_callSpecial?_slot (name:=Str.ofString "__next__") hTy slot_next (wpAny_call_entry slot_next hTy entry_next ?_ (args_next _))));unfold Builtin.«set_iterator.__next__»;refine wpAny_bind (wpAny_pure ?_);refine wpAny_bind (wpAny_fieldsOf hoi hdi ?_);dsimp only;refine wpAny_bind (wpAny_setEntries_of ho hd hf ?_);rw[if_neg (by simp)];simp only[toNat_natCast];refine wpAny_bind (hN _ _ _ ?_);dsimp only;refine wpAny_bind (wpAny_setField hoi hdi (by simp) ?_);have ho1:=Heap.get?_update_self (Obj.mapFields (·.setIfInBounds 0 (rawInt (f':Nat)))) hoi (Obj.isFreed_of_fields (Obj.data_mapFields hdi _));have hd1:=Obj.data_mapFields hdi (·.setIfInBounds 0 (rawInt (f':Nat)));refine wpAny_bind (wpAny_setField ho1 hd1 (by simp) ?_);refine wpAny_pure ⟨_,rfl,wpAny_pure (hQ _ ⟨_,Heap.get?_update_self _ ho1 (Obj.isFreed_of_fields (Obj.data_mapFields hd1 _)),(Obj.cls_mapFields ..).trans ((Obj.cls_mapFields ..).trans hci),by rw[Obj.data_mapFields hd1];simp[rawInt]⟩ ((Heap.SameBut.update ..).trans (Heap.SameBut.update ..)))⟩
theorem vA{it a:Addr}{i f:Nat}{o:Obj}{es:Array (Int×Value)}{ep:Nat}{t:SetTable}{Q:Option Value->Shared->Prop}(hh:A.handled=none)(hit:nD s.heap it (.int f 0) i a es.size ep)(ho:s.heap.get? a=some o)(hd:o.data=.set es ep t)(hf:t.fits es.size=true)
  (hN:∀(A:Around) (E:Value->Shared->Prop) (Q':Option (Value×Nat)->Shared->Prop),Q' none s->wpAny (model prog w) A (setNext a f i ep) Q' E s)
  (hQ:∀h',Heap.ExtBut it s.heap h'->Q none {s with heap:=h' }):wpAny (model prog w) A (pyNext (.ref it)) Q E s:=by
 obtain⟨oi,hoi,hci,hdi⟩:=id hit;have hTy:s.TypeIs (.ref it) "set_iterator":=⟨oi,hoi,hci⟩;unfold pyNext;refine wpAny_bind (wpAny_attempt (wpAny_callSpecial?_slot (name:=Str.ofString "__next__") hTy slot_next (wpAny_call_entry slot_next hTy entry_next ?_ (args_next _))));unfold Builtin.«set_iterator.__next__»;refine wpAny_bind (wpAny_pure ?_);refine wpAny_bind (wpAny_fieldsOf hoi hdi ?_);dsimp only;refine wpAny_bind (wpAny_setEntries_of ho hd hf ?_);rw[if_neg (by simp)];simp only[toNat_natCast];refine wpAny_bind (hN _ _ _ ?_);dsimp only;refine wpAny_bind (wpAny_setField hoi hdi (by simp) ?_);refine wpAny_bind ?_;simp only[newExc,newTuple];refine wpAny_bind (wpAny_newObj_type ?_ (by size_fits));refine wpAny_bind (m:=firstArgMember _ _) (wpAny_of_eq (a:=Value.none) (by first|rfl|(simp only[firstArgMember];rfl)) ?_);refine wpAny_newObj_type ?_ (by size_fits);simp only[raiseNew];refine wpAny_bind (wpAny_handled ?_);rw[show A.in1.handled=none from hh];refine wpAny_bind (wpAny_pure (wpAny_throw ?_));refine wpAny_bind (wpAny_isInstance (T:="StopIteration") (b:=true) ⟨_,Heap.get?_push_size _ rfl,rfl⟩ isSubtype_stop ?_);exact wpAny_pure (hQ _ (((Heap.SameBut.update ..).extBut.push _).push _))
theorem qw{a:Addr}{o:Obj}{es:Array (Int×Value)}{ep f i:Nat}{t:SetTable}{Q:Option (Value×Nat)->Shared->Prop}(hb:cY w=true)(ho:s.heap.get? a=some o)(hd:o.data=.set es ep t)(hf:t.fits es.size=true)
  (h:Q (((pickOrder (w.params.setOrder a ep) es)[i]?).map λe=>(e.2,f)) s):wpAny (model prog w) A (setNext a f i ep) Q E s:=by
 have hb':(model prog w).w.params.followText "set-order" =true:=hb;unfold setNext setsByText;refine wpAny_bind (wpAny_setState_of ho hd hf ?_);refine wpAny_bind (wpAny_bind (wpAny_askSetting (wpAny_pure ?_)));rw[if_pos hb'];dsimp only;rw[if_neg (by simp)];unfold setWalk setsByText;refine wpAny_bind (wpAny_bind (wpAny_setState_of ho hd hf ?_));refine wpAny_bind (wpAny_bind (wpAny_askSetting (wpAny_pure ?_)));rw[if_pos hb'];refine wpAny_bind (wpAny_askSetting (wpAny_pure ?_));exact wpAny_pure h
theorem tK{a:Addr}{o:Obj}{es:Array (Int×Value)}{ep f i:Nat}{t:SetTable}{Q:Option (Value×Nat)->Shared->Prop}(hb:cY w=false)(hl:t.led=true)(hz:es.size<=1)(ho:s.heap.get? a=some o)(hd:o.data=.set es ep t)(hf:t.fits es.size=true)
  (h:Q (match es[SetTable.below t.place f]?,t.place[SetTable.below t.place f]? with|some (_,x),some j=>some (x,j+1)|_,_=>none) s):wpAny (model prog w) A (setNext a f i ep) Q E s:=by
 have hb':¬(model prog w).w.params.followText "set-order" =true:=by
  intro z;rw[show cY w=true from z] at hb;cases hb
 unfold setNext setsByText;refine wpAny_bind (wpAny_setState_of ho hd hf ?_);refine wpAny_bind (wpAny_bind (wpAny_askSetting (wpAny_pure ?_)));rw[if_neg hb'];dsimp only
 change wpAny _ _ (if (!t.plain&&decide (es.size>1))=true then _ else _) _ _ _
 rw[if_neg (by rw[decide_eq_false (show ¬es.size>1 by omega),Bool.and_false];exact Bool.false_ne_true)];refine wpAny_bind ?_
 change wpAny _ _ (if (!t.led && !es.isEmpty)=true then _ else _) _ _ _
 rw[if_neg (by rw[hl];exact Bool.false_ne_true)];exact wpAny_pure (wpAny_pure h)
end
end SetTx
namespace SetTx
open PySem PyProof.Rows
theorem slot_self:Slot "set_iterator" "__iter__" "set_iterator.__iter__":=
 .of (owner := "set_iterator") (n := "__iter__") (by rw[typeLookup_type,builtinLookup_eq_fast];rfl') (by decide+kernel) (by decide+kernel) (by decide+kernel)
  (by first|exact .inl (by decide+kernel)|exact .inr (by decide+kernel)) (by rw[isSubtype_type];rfl')
theorem entry_self:entryFor table "set_iterator.__iter__" =some Builtin.«dict_keyiterator.__iter__»:=
 entryFor_alias (id':="dict_keyiterator.__iter__") (by rfl') rfl (by decide+kernel) (by rfl')
theorem args_self(a:Value):argsOk "set_iterator.__iter__" ⟨[a],[]⟩:=by
 unfold argsOk;rw[signature?_of (id:="set_iterator.__iter__") (n:=['_','_','r','e','t','i','_','_']) (o:=['r','o','t','a','r','e','t','i','_','t','e','s']) (by rfl') zc];rfl'
section
variable{prog:Program}{w:World}{A:Around}{E:Value->Shared->Prop}{s:Shared}
theorem wM{it a:Addr}{first:Value}{i n ep:Nat}{Q:Value->Shared->Prop}(hit:nD s.heap it first i a n ep)(h:Q (.ref it) s):wpAny (model prog w) A (pyIter (.ref it)) Q E s:=by
 obtain⟨oi,hoi,hci,hdi⟩:=hit;have hTy:s.TypeIs (.ref it) "set_iterator":=⟨oi,hoi,hci⟩;refine wpAny_pyIter_slot hTy slot_self (wpAny_call_entry slot_self hTy entry_self ?_ (args_self _));show wpAny _ _ (ret (.ref it)) _ _ s;exact wpAny_pure ⟨_,rfl,"set_iterator",_,hTy,slot_next.lookup,h⟩
theorem nD.at{h h':Heap}{it a:Addr}{first:Value}{i n ep:Nat}(x:nD h it first i a n ep)(e:∀o,h.get? it=some o->h'.get? it=some o):nD h' it first i a n ep:=let ⟨o,ho,r⟩:=x;⟨o,e _ ho,r⟩
theorem E6{a I:Addr}{o:Obj}{es:Array (Int×Value)}{ep:Nat}{t:SetTable}(hh:A.handled=none)(hb:cY w=true)(hne:a≠I)(hd:o.data=.set es ep t)(hf:t.fits es.size=true):
  Walks prog w A I [I,a] [I] es.size (λi v=>((pickOrder (w.params.setOrder a ep) es).toList.map (·.2))[i]?=some v) (λi h=>nD h I (.int (0:Nat) 0) i a es.size ep/\h.get? a=some o):=by
 have pl:(pickOrder (w.params.setOrder a ep) es).size=es.size:=by
  have:=(vv (w.params.setOrder a ep) es).length_eq;simpa using this
 exact {
 sub:=λb hb=>by simp at hb;simp[hb]
 frame:=λ_ _ _ st hk=>⟨st.1.at λo e=>hk I (by simp) o e,hk a (by simp) _ st.2⟩
 item:=λi s Q E hi st hQ=>by
  have hi':i<(pickOrder (w.params.setOrder a ep) es).size:=by omega
  refine vz (f':=0) (v:=(pickOrder (w.params.setOrder a ep) es)[i].2) st.1 st.2 hd hf (λA E Q' q=>qw hb st.2 hd hf (by rw[Array.getElem?_eq_getElem hi'];exact q)) λh' AO hs'=>?_;exact hQ _ h' s.toks (by rw[getElem?_map,Array.getElem?_toList,Array.getElem?_eq_getElem hi'];rfl) ⟨AO,hs'.extBut a _ hne st.2⟩ λb o hb e=>hs'.extBut b o (λh=>hb (by simp[h])) e
 done:=λs Q E st hQ=>vA hh st.1 st.2 hd hf (λA E Q' q=>qw hb st.2 hd hf (by rw[Array.getElem?_eq_none (by omega)];exact q)) λh' he'=>hQ h' s.toks λb o hb e=>he' b o (λh=>hb (by simp[h])) e
 self:=λ_ _ _ _ st hQ=>wM st.1 hQ}
theorem NS(j:Nat):SetTable.below #[j] (j+1)=1:=by
 simp[SetTable.below,SetTable.below.go]
theorem AS{a I:Addr}{o:Obj}{es:Array (Int×Value)}{ep:Nat}{t:SetTable}(hh:A.handled=none)(hb:cY w=false)(hl:t.led=true)(hz:es.size<=1)(hne:a≠I)(hd:o.data=.set es ep t)(hf:t.fits es.size=true):
  Walks prog w A I [I,a] [I] es.size (λi v=>(es.toList.map (·.2))[i]?=some v) (λi h=>nD h I (.int ((if i=0 then 0 else t.place.getD 0 0+1:Nat):Nat) 0) i a es.size ep/\h.get? a=some o):=by
 have ps:t.place.size=es.size:=by
  unfold SetTable.fits at hf;rw[and_eq_true] at hf;simpa using hf.1
 exact {
 sub:=λb hb=>by simp at hb;simp[hb]
 frame:=λ_ _ _ st hk=>⟨st.1.at λo e=>hk I (by simp) o e,hk a (by simp) _ st.2⟩
 item:=λi s Q E hi st hQ=>by
  have i0:i=0:=by omega
  subst i0;obtain⟨j,hj⟩:∃j,t.place = #[j]:=by
   have:t.place.size=1:=by omega
   exact⟨t.place[0],by apply Array.ext;simp[this];intro i h1 h2;simp at h2;subst h2;rfl⟩
  obtain⟨x,hx⟩:∃x,es[0]?=some x:=⟨es[0],Array.getElem?_eq_getElem (by omega)⟩;refine vz (f':=j+1) (v:=x.2) st.1 st.2 hd hf (λA E Q' q=>tK hb hl hz st.2 hd hf (by
   rw[hj,show SetTable.below #[j] (if 0=0 then 0 else(#[j]:Array Nat).getD 0 0+1)=0 from rfl,hx];exact q)) λh' AO hs'=>?_
  refine hQ _ h' s.toks (by rw[getElem?_map,Array.getElem?_toList,hx];rfl) ⟨?_,hs'.extBut a _ hne st.2⟩ λb o hb e=>hs'.extBut b o (λh=>hb (by simp[h])) e;rw[hj];exact AO
 done:=λs Q E st hQ=>by
  refine vA hh st.1 st.2 hd hf (λA E Q' q=>tK hb hl hz st.2 hd hf ?_) λh' he'=>hQ h' s.toks λb o hb e=>he' b o (λh=>hb (by simp[h])) e;have out:es[SetTable.below t.place (if es.size=0 then 0 else t.place.getD 0 0+1)]?=none:=by
   by_cases z:es.size=0
   ·exact Array.getElem?_eq_none (by omega)
   ·obtain⟨j,hj⟩:∃j,t.place = #[j]:=by
     have:t.place.size=1:=by omega
     exact⟨t.place[0],by apply Array.ext;simp[this];intro i h1 h2;simp at h2;subst h2;rfl⟩
    rw[if_neg z,hj,show (#[j]:Array Nat).getD 0 0=j from rfl,NS];exact Array.getElem?_eq_none (by omega)
  rw[out];exact q
 self:=λ_ _ _ _ st hQ=>wM st.1 hQ}
end
end SetTx
namespace SetTx
open PySem PyProof.Rows
section
variable{prog:Program}{w:World}{A:Around}{E:Value->Shared->Prop}{s:Shared}
def byPlace(es:Array (Int×Value))(p:Nat):Value:=((es[p]?).getD (0,.none)).2
theorem AU(es:Array (Int×Value)):(List.range es.size).map (byPlace es)=es.toList.map (·.2):=by
 apply List.ext_getElem?
 intro i;rw[getElem?_map,getElem?_map]
 by_cases h:i<es.size
 ·rw[getElem?_range h,getElem?_eq_getElem (l:=es.toList) (by rw[Array.length_toList];exact h)];simp[byPlace,h]
 ·rw[getElem?_eq_none (by simpa using h),getElem?_eq_none (l:=es.toList) (by rw[Array.length_toList];omega)];rfl
theorem AV{a I T:Addr}{o:Obj}{es:Array (Int×Value)}{ep:Nat}{t:SetTable}{ys:Uc}(hh:A.handled=none)(hne:a≠I)(hT:T≠I)(hp:ys.Perm (List.range es.size))(hd:o.data=.set es ep t)(hf:t.fits es.size=true):
  Walks prog w A I [I,T,a] [I] es.size (λi v=>(ys.map (byPlace es))[i]?=some v) (λi h=>nD h I (.ref T) i a es.size ep/\h.get? a=some o/\h.IsTuple T (ys.map λi=>rawInt (i:Nat)).toArray):=by
 have yl:ys.length=es.size:=by rw[hp.length_eq,length_range]
 exact {
 sub:=λb hb=>by simp at hb;simp[hb]
 frame:=λ_ _ _ st hk=>⟨st.1.at λo e=>hk I (by simp) o e,hk a (by simp) _ st.2.1,by
  obtain⟨o,ho,r⟩:=st.2.2;exact⟨o,hk T (by simp) _ ho,r⟩⟩
 item:=λi s Q E hi st hQ=>by
  have hi':i<ys.length:=by omega
  have hy:ys[i]?=some ys[i]:=getElem?_eq_getElem hi';have hlt:ys[i]<es.size:=mem_range.mp (hp.mem_iff.mp (getElem_mem hi'));have hx:es[ys[i]]?=some es[ys[i]]:=Array.getElem?_eq_getElem hlt;refine AN (p:=ys[i]) (x:=es[ys[i]]) st.1 st.2.1 hd hf st.2.2 (by rw[List.getElem?_toArray,getElem?_map,hy];rfl) hx λh' AO hs'=>?_;exact hQ _ h' s.toks (by rw[getElem?_map,hy];simp[byPlace,hlt]) ⟨AO,hs'.extBut a _ hne st.2.1,st.2.2.extBut hs'.extBut hT⟩ λb o hb e=>hs'.extBut b o (λh=>hb (by simp[h])) e
 done:=λs Q E st hQ=>AQ hh st.1 st.2.1 hd hf st.2.2 (by rw[List.getElem?_toArray];exact getElem?_eq_none (by rw[length_map];omega)) λh' he'=>hQ h' s.toks λb o hb e=>he' b o (λh=>hb (by simp[h])) e
 self:=λ_ _ _ _ st hQ=>wM st.1 hQ}
end
end SetTx
namespace SetTx
open PySem PyProof.Rows
section
variable{prog:Program}{w:World}{A:Around}{E:Value->Shared->Prop}{s:Shared}
theorem E7{a:Addr}{o:Obj}{es:Array (Int×Value)}{ep:Nat}{t:SetTable}{Q:Value->Shared->Prop}(B:Around)(hB:B.handled=none)(ho:s.heap.get? a=some o)(hex:o.ExactSet)(hd:o.data=.set es ep t)(hf:t.fits es.size=true)(hz:es.size<scanBound)(hl:t.led = !cY w)(hpl:es.size≠0->t.plain=false)
  (h:∀(I:Addr) (h1:Heap) (d':Drawn) (fp:Uh Addr) (vs:Uh Value) (St:Nat->Heap->Prop),Walks prog w B I fp [I] es.size (λi v=>vs[i]?=some v) St->vs.Perm (es.toList.map (·.2))->St 0 h1->(∀b o,s.heap.get? b=some o->h1.get? b=some o)->(∀b∈fp,b=a\/s.heap.objs.size<=b)->s.heap.objs.size<=I->Q (.ref I) {s with heap:=h1,drawn:=d' }):
  wpAny (model prog w) A (pyIter (.ref a)) Q E s:=by
 have ha:=Heap.lt_size ho;refine Ie ho hex hd hf hz (λhc ys d' hp=>?_) (λhc=>?_)
 ·refine h (s.heap.objs.size+1) _ d' _ _ _ (AV (T:=s.heap.objs.size) hB (ne_of_lt (lt_succ_of_lt ha)) (ne_of_lt (lt_succ_self _)) hp hd hf) ((hp.map _).trans (by rw[AU])) ⟨⟨C4 (.ref s.heap.objs.size) 0 a es.size ep,?_,rfl,rfl⟩,?_,?_⟩ (λb o e=>Heap.get?_push_of_some _ (Heap.get?_push_of_some _ e)) (λb hb=>?_) (by omega)
  ·have:=Heap.get?_push_size (s.heap.push {cls:=.type "tuple",data:=.seq (ys.map λi=>rawInt (i:Nat)).toArray}) (o:=C4 (.ref s.heap.objs.size) 0 a es.size ep) rfl;rw[Heap.size_push] at this;exact this
  ·exact Heap.get?_push_of_some _ (Heap.get?_push_of_some _ ho)
  ·exact⟨_,Heap.get?_push_of_some _ (Heap.get?_push_size _ rfl),rfl,_,rfl⟩
  ·simp only[mem_cons,not_mem_nil,or_false] at hb
   rcases hb with rfl|rfl|rfl
   ·right;omega
   ·right;omega
   ·left;rfl
 ·have fpk:∀b∈[s.heap.objs.size,a],b=a\/s.heap.objs.size<=b:=λb hb=>by
   simp only[mem_cons,not_mem_nil,or_false] at hb
   rcases hb with rfl|rfl
   ·right;omega
   ·left;rfl
  cases hb:cY w with
  |true=>
   exact h s.heap.objs.size _ s.drawn _ _ _ (E6 hB hb (ne_of_lt ha) hd hf) ((vv _ es).map _) ⟨⟨_,Heap.get?_push_size _ rfl,rfl,rfl⟩,Heap.get?_push_of_some _ ho⟩ (λb o e=>Heap.get?_push_of_some _ e) fpk (le_refl _)
  |false=>
   have hz1:es.size<=1:=by
    by_cases z:es.size<=1
    ·exact z
    ·rw[hb,hpl (by omega),decide_eq_true (show es.size>1 by omega)] at hc;cases hc
   exact h s.heap.objs.size _ s.drawn _ _ _ (AS hB hb (by rw[hl,hb];rfl) hz1 (ne_of_lt ha) hd hf) (List.Perm.refl _) ⟨⟨_,Heap.get?_push_size _ rfl,rfl,rfl⟩,Heap.get?_push_of_some _ ho⟩ (λb o e=>Heap.get?_push_of_some _ e) fpk (le_refl _)
end
end SetTx
namespace SetTx
open PySem PySem.W PySem.Calls PyProof.Rows
section
variable{prog:Program}{w:World}{A:Around}{E:Value->Shared->Prop}{s:Shared}
theorem Ig{r:Addr}{Q:Bool->Shared->Prop}(hT:s.TypeIs (.ref r) "set")(h:Q false s):wpAny (model prog w) A (Builtin.List.listLengthHint (.ref r)) Q E s:=by
 unfold Builtin.List.listLengthHint;refine wpAny_bind (wpAny_specialOf hT PySem.F.slot_set_len.lookup ?_);generalize hid:("set.__len__":String)=id0
 wp_delta
 rw[show splitId id0=some ("set", "__len__") from by subst hid;decide+kernel]
 subst hid;refine wpAny_bind (wpAny_isInstance (T:="set") (b:=true) hT (by rw[isSubtype_type];rfl') ?_);refine wpAny_ite_split (λhab=>absurd hab (by decide)) (λ_=>?_);refine wpAny_ite_split (λ_=>?_) (λhab=>absurd (by decide+kernel) hab);refine wpAny_bind (wpAny_typeOf hT ?_);exact wpAny_pure h
theorem AW{a:Addr}{o:Obj}{es:Array (Int×Value)}{ep:Nat}{t:SetTable}{R:Result->Shared->Prop}(hh:A.handled=none)(ho:s.heap.get? a=some o)(hex:o.ExactSet)(hd:o.data=.set es ep t)(hf:t.fits es.size=true)(hz:es.size<scanBound)(hl:t.led = !cY w)(hpl:es.size≠0->t.plain=false)
  (S:Addr) (hSa:S≠a) (res:Value) (c₀:Nat) (hS:s.heap.get? S=some {cls:=.type "list",data:=.seq #[] c₀ })
  (hR:∀h' tk d' acc' c',(∀b o,b≠S->s.heap.get? b=some o->h'.get? b=some o)->h'.get? S=some {cls:=.type "list",dict:=none,data:=.seq acc' c',slots:=#[] }->acc'.toList.Perm (es.toList.map (·.2))->R (.ok (.ret res)) {s with heap:=h',toks:=tk,drawn:=d' }):
  wpAny (model prog w) A.in1 (Builtin.List.listExtendWith (.ref S) (.ref a) res)
   (λfin s'=>match fin with |.done f=>R (.ok f) s' |.again c'=>c'.quiet=true/\codeAny (model prog w) A c' R s') (λe s'=>R (.error e) s') s:=by
 have hT:s.TypeIs (.ref a) "set":=⟨o,ho,hex.1⟩;have hn:es.size<=sizeLine:=fits_of_scanBound hz;have PR:=Heap.lt_size hS;unfold Builtin.List.listExtendWith;refine wpAny_bind (wpAny_typeOf hT ?_);have h1:Builtin.List.listSameRef (.ref S) (.ref a)=false:=by simp[Builtin.List.listSameRef,hSa]
 simp only[h1,show (Value.type "set" ==Value.type "list")=false by decide,show (Value.type "set" ==Value.type "tuple")=false by decide,Bool.or_false,false_eq_true,if_false]
 refine wpAny_bind (E7 A.in1 hh ho hex hd hf hz hl hpl λI h1 d' fp vs St W hp st hk hfp hI=>?_);have hSI:S≠I:=ne_of_lt (lt_of_lt_of_le PR hI);have hSf:S∉fp:=λz=>by
  rcases hfp S z with e|e
  ·exact hSa e
  ·exact absurd PR (Nat.not_lt.mpr e)
 have fin:∀acc:Array Value,ItemsOf (λi v=>vs[i]?=some v) acc es.size->acc.toList.Perm (es.toList.map (·.2)):=λacc hacc=>by
  have:acc.toList=vs:=by
   apply List.ext_getElem?
   intro i;have vl:vs.length=es.size:=by rw[hp.length_eq,length_map,Array.length_toList]
   by_cases hi:i<es.size
   ·have hi2:i<acc.toList.length:=by rw[Array.length_toList,hacc.1];exact hi
    have:=hacc.2 i acc.toList[i] (by rw[<-Array.getElem?_toList];exact getElem?_eq_getElem hi2);rw[this];exact getElem?_eq_getElem hi2
   ·rw[getElem?_eq_none (by rw[Array.length_toList,hacc.1];omega),getElem?_eq_none (by omega)]
  rw[this];exact hp
 have key:∀(h:Heap) (c₁ tk:Nat),St 0 h->(∀b o,b≠S->s.heap.get? b=some o->h.get? b=some o)->
   h.get? S=some {cls:=.type "list",data:=.seq #[] c₁ }->codeAny (model prog w) A (.builtin "list.extend.loop" ⟨[.ref S,.ref I,res],[]⟩) R {s with heap:=h,toks:=tk,drawn:=d' }:=by
  intro h c₁ tk hst hk hS₁;refine codeAny_extend_loopS W.toS hn S hSf res es.size 0 _ #[] c₁ rfl (zero_le _) hst hS₁ (ItemsOf.nil _) λs' acc' c' hm hS' hacc=>?_;rw[Moved.eq_with hm];refine hR s'.heap s'.toks d' acc' c' (λb o hb e=>hm.heap b o (λhmem=>?_) (hk b o hb e)) hS' (fin acc' hacc)
  rcases mem_cons.mp hmem with e'|hmem
  ·exact hb e'
  ·exact absurd (Heap.lt_size e) (by rw[mem_singleton.mp hmem];exact Nat.not_lt.mpr hI)
 have hS₁:=hk _ _ hS;refine wpAny_bind (wpAny_holding (Ig ⟨o,hk _ _ ho,hex.1⟩ ?_));refine wpAny_ite_split (λ_=>?_) (λ_=>wpAny_pure ⟨plainId_quiet PySem.F.plain_extend_loop _,key _ c₀ _ st (λb o _ e=>hk _ _ e) hS₁⟩);refine wpAny_bind (wpAny_rule ?_);refine wpAny_bind ?_;show wpAny _ _ (updateSeq S (·.push .none)>>=λ_=>updateSeq S (·.pop)) _ _ _;refine wpAny_bind (wpAny_updateSeq hS₁ rfl ?_);have hS₂:=Heap.get?_update_self (Obj.mapSeq (·.push Value.none)) hS₁ rfl;refine wpAny_updateSeq (hz:=by seq_fits) hS₂ rfl ?_;have hS₃:=Heap.get?_update_self (Obj.mapSeq (·.pop)) hS₂ rfl;refine wpAny_pure ⟨plainId_quiet PySem.F.plain_extend_loop _,key _ _ _ ?_ (λb o hb e=>?_) hS₃⟩
 ·refine W.frame 0 _ _ st λb hb o e=>?_;have hbS:b≠S:=λh=>hSf (h▸hb);exact(Heap.get?_update_other _ _ (Ne.symm hbS)).trans ((Heap.get?_update_other _ _ (Ne.symm hbS)).trans e)
 ·exact(Heap.get?_update_other _ _ (Ne.symm hb)).trans ((Heap.get?_update_other _ _ (Ne.symm hb)).trans (hk _ _ e))
theorem zd{a:Addr}{ss:Uh Str}{R:Uh Value->Shared->Prop}(hh:A.handled=none)(hS:pJ prog w s.heap a ss (!cY w))(hz:ss.length<scanBound)
  (h:∀(h':Heap) (tk:Nat) (d':Drawn) (acc:Uh Value),(∀b o,s.heap.get? b=some o->h'.get? b=some o)->(acc.map keyOf).Perm ss->(∀v∈acc,∃t,v=.str (keyOf v) t)->R acc {s with heap:=h',toks:=tk,drawn:=d' }):
  wpAny (model prog w) A (collect (.ref a)) R E s:=by
 obtain⟨o,es,ep,t,ho,hex,hd,hel,hp,hf,hl,hpl⟩:=hS;have esz:es.size=ss.length:=by rw[<-hp.length_eq,length_map,Array.length_toList]
 have ha:=Heap.lt_size ho;unfold collect;refine wpAny_bind (wpAny_runValue (codeAny_builtin entry_proto_collect' ?_));rw[Around.under_plainId PySem.F.plain_proto_collect _];show wpAny _ A.in1 (newList []>>=λl=>again (.builtin "list.__iadd__" ⟨[l,.ref a],[]⟩)) _ _ s;refine wpAny_bind (wpAny_newObj_type ?_);refine wpAny_pure ⟨plainId_quiet PySem.F.plain_list_iadd _,codeAny_builtin entry_list_iadd' ?_⟩;rw[Around.under_plainId PySem.F.plain_list_iadd _];have hS₁ :(s.heap.push {cls:=.type "list",data:=.seq ([]:Uh Value).toArray}).get? s.heap.objs.size=some {cls:=.type "list",data:=.seq #[] }:=Heap.get?_push_size _ rfl;show wpAny _ A.in1 (Builtin.List.listExtendWith (.ref s.heap.objs.size) (.ref a) (.ref s.heap.objs.size)) _ _ _;have key:=AW (prog:=prog) (w:=w) (A:=A) (s:={s with heap:=s.heap.push {cls:=.type "list",data:=.seq ([]:Uh Value).toArray} })
  (R:=λ(q:Result) (s':Shared)=>∃(h':Heap) (tk:Nat) (d':Drawn) (acc':Array Value) (c':Nat),q=.ok (.ret (.ref s.heap.objs.size))/\s'={s with heap:=h',toks:=tk,drawn:=d' }/\
   (∀b o,s.heap.get? b=some o->h'.get? b=some o)/\h'.get? s.heap.objs.size=some {cls:=.type "list",dict:=none,data:=.seq acc' c',slots:=#[] }/\acc'.toList.Perm (es.toList.map (·.2)))
  hh (Heap.get?_push_of_some _ ho) hex hd hf (by omega) hl hpl s.heap.objs.size (ne_of_gt ha) (.ref s.heap.objs.size) 0 hS₁
  (λh' tk d' acc' c' hk hS' hacc=>⟨h',tk,d',acc',c',rfl,rfl,λb o e=>hk b o (ne_of_lt (Heap.lt_size e)) (Heap.get?_push_of_some _ e),hS',hacc⟩)
 have last:∀(h':Heap) (tk:Nat) (d':Drawn) (acc':Array Value),(∀b o,s.heap.get? b=some o->h'.get? b=some o)->acc'.toList.Perm (es.toList.map (·.2))->R acc'.toList {s with heap:=h',toks:=tk,drawn:=d' }:=λh' tk d' acc' hk hacc=>by
  refine h h' tk d' acc'.toList hk ((hacc.map keyOf).trans (by rw[map_map];exact hp)) λv hv=>?_;obtain⟨e,he,rfl⟩:=mem_map.mp (hacc.mem_iff.mp hv);obtain⟨⟨k,hk,_⟩,_⟩:=hel e he;obtain⟨t,et⟩:=Value.isStrOf_shape hk;rw[et];exact⟨t,rfl⟩
 refine wpAny_mono key (λfin s' x=>?_) λe s' x=>?_
 ·cases fin with
  |done f=>
   obtain⟨h',tk,d',acc',c',e,rfl,hk,hS',hacc⟩:=x;cases e;show wpAny _ A (load s.heap.objs.size>>=_) _ _ _;refine wpAny_bind (wpAny_load hS' ?_);exact wpAny_pure (last h' tk d' acc' hk hacc)
  |again c₁=>
   refine⟨x.1,codeAny_mono x.2 λq s₂ y=>?_⟩;obtain⟨h',tk,d',acc',c',rfl,rfl,hk,hS',hacc⟩:=y;show wpAny _ A (load s.heap.objs.size>>=_) _ _ _;refine wpAny_bind (wpAny_load hS' ?_);exact wpAny_pure (last h' tk d' acc' hk hacc)
 ·obtain⟨_,_,_,_,_,e,_⟩:=x;cases e
end
end SetTx
namespace SetTx
open PySem PyProof.Rows PySem.Calls
section
variable{prog:Program}{w:World}{A:Around}{E:Value->Shared->Prop}{s:Shared}
theorem C5:∀{acc:Uh Value},(∀v∈acc,∃t,v=.str (keyOf v) t)->StrsAre acc (acc.map keyOf)
 |[],_=>.nil
 |v::acc,h=>by
  obtain⟨t,e⟩:=h v mem_cons_self;have ih:=C5 (acc:=acc) λu hu=>h u (mem_cons_of_mem _ hu);rw[e];exact .cons _ _ ih
theorem AX{a:Addr}{ss:Uh Str}{Q:Value->Shared->Prop}(hh:A.handled=none)(hS:pJ prog w s.heap a ss (!cY w))(h64:ss.length<64)
  (hQ:∀(h1 h':Heap) (tk:Nat) (d':Drawn) (e:Nat) (out:Array Value) (ss':Uh Str),(∀b o,s.heap.get? b=some o->h1.get? b=some o)->(∀b o,h1.get? b=some o->h'.get? b=some o)->
   h'.get? h1.objs.size=some (seqObj "list" out e)->StrsAre out.toList ss'->ss'.Perm ss->sortedS ss'=true->Q (.ref h1.objs.size) {s with heap:=h',toks:=tk,drawn:=d' }):
  wpAny (model prog w) A (call (.builtin "sorted") [.ref a]) Q E s:=by
 refine call_function_entry kind_sorted plain_sorted entry_sorted (args_sorted1 _) ?_;unfold Builtin.«sorted»;refine wpAny_bind (m:=checkCount "sorted" 1 1 _) (wpAny_pure ?_);refine wpAny_bind (zd (A:=A.in1) hh hS (by unfold scanBound;omega) λh1 tk d' acc hk hp hv=>?_);have hl:acc.length=ss.length:=by rw[<-hp.length_eq,length_map]
 have hT:=C5 hv;refine wpAny_bind (wpAny_newList ?_ (by rw[hl,sizeLine_eq];omega));have ho:(h1.push {cls:=.type "list",data:=.seq acc.toArray}).get? h1.objs.size=some (seqObj "list" acc.toArray 0):=Heap.get?_push_size _ rfl;refine wpAny_bind (wpAny_holding (wpAny_call_entry slot_list_sort ⟨_,ho,rfl⟩ entry_list_sort (list_sort_treeK strKind_oneLt ho hT.keysOf (λv₁ v₂ rest e=>keyKind_strs (by rw[<-e];exact hT)) (by rw[hl];exact h64) λst' a1 a2=>⟨_,rfl,?_⟩) (args_list_sort _)));obtain⟨ss',q1,q2,q3⟩:=sorted_out_str hT a1 a2;obtain⟨e,he⟩:=sortedHeap_at (out:=(arrOf st').map (·.2)) ho;refine wpAny_pure ⟨_,rfl,hQ h1 _ tk d' e _ ss' hk (λb o hb=>?_) he q1 (q2.trans hp) q3⟩;have hlt:=Heap.lt_size hb;rw[sortedHeap_old (ne_of_lt hlt) (by rw[size_push'];exact lt_succ_of_lt hlt)];exact Heap.get?_push_of_some _ hb
end
end SetTx
namespace L2
open PySem PySem.Spec PyProof.Rows
section
variable{X:Cx}
def nE(K:W.Frag)(ta:TA):TE:=λσ H Q=>ta σ H λvs H1=>∃a xs,vs=[.ref a]/\aX K H1 a xs/\∀p,H1 p=none->Q (.ref p) (upd H1 p (.lst xs.reverse))
theorem E8{its:Uh Value}{acc:Array Value}(h:ItemsOf (λi v=>its.toArray[its.toArray.size-1-i]?=some v) acc its.toArray.size):acc.toList=its.reverse:=by
 obtain⟨h1,h2⟩:=h;have hz:acc.toList.length=its.length:=by rw[Array.length_toList,h1];simp
 apply List.ext_getElem?
 intro i
 by_cases hi:i<its.length
 ·obtain⟨v,hv⟩:∃v,acc.toList[i]?=some v:=⟨_,getElem?_eq_getElem (by omega)⟩;have:=h2 i v (by rw[<-Array.getElem?_toList];exact hv);rw[hv,List.getElem?_reverse hi,<-this];simp
 ·rw[getElem?_eq_none (by omega),getElem?_eq_none (by rw[List.length_reverse];omega)]
theorem AY(hc:X.calm=true){a:Expr}{ta:TA}{p pos p2 pos2:Pos}(hgl:Gl X "list")(hml:X.mg "list" =none)(hg:Gl X "reversed")(hm:X.mg "reversed" =none)(ha:PA X [a] ta)
  (hs:starEach [a] X.env=(false,eval a X.env)::starEach [] X.env) (hs2:((backTo pos2 (starEach [] X.env)).any λx=>x.fst)=false)
  (he:starEach [.Call (.Name "reversed" p2) [a] [] pos2] X.env=(false,eval (.Call (.Name "reversed" p2) [a] [] pos2) X.env)::starEach [] X.env) (hpl:(backTo pos (starEach [] X.env)).any (·.1)=false):
  PE X (.Call (.Name "list" p) [.Call (.Name "reversed" p2) [a] [] pos2] [] pos) (nE X.K ta):=by
 intro pins s σ H Q I h;refine wpAny_Call_Name_kw (mE I hgl hml PyProof.Rows.Boot.«list» ?_ (by decide) (by decide));refine PyProof.Rows.callWith_type1 ?_ he hpl;rw[he];refine Calls.spliced_cons ?_;refine Call_ (mE I hg hm boot_reversed (PyProof.Rows.callWith_type1 (cM (ha pos2 pins s σ H _ I h) λus s1 ⟨vs,H1,I1,r1,q1⟩=>?_) hs hs2));obtain⟨l,xs,e,hq,q⟩:=q1;subst e;cases r1 with
 |cons r rr=>
  cases rr;cases r;obtain⟨its,rv,pl,hz⟩:=I1.list hq;have hl:=rv.length;refine call_reversed_list pl.isList ?_;refine Calls.spliced_nil ?_;have hlt:l<s1.heap.objs.size:=let ⟨_,e,_⟩:=pl.isList;Heap.lt_size e;refine Rev.E4 (I1.ok.hd hc) (l:=l) (items:=its.toArray) ⟨_,Heap.get?_push_size _ rfl,rfl,rfl⟩ (pl.isList.at λo e=>Heap.get?_push_of_some _ e) (ne_of_lt hlt) (by rw[size_toArray];omega) λh' tk acc c' hk ho hI=>?_;have e:=E8 hI;have hp:s1.heap.objs.size<=(s1.heap.push (revObj l ((its.toArray.size:Int)-1))).objs.size:=by rw[size_push'];exact le_succ _
  refine⟨.ref _,_,I1.laid (t':=tk) (o:=.lst xs.reverse) (λb o eb=>hk b o (ne_of_lt (Heap.lt_size eb)) (Heap.get?_push_of_some _ eb)) hp ⟨?_,acc.toList,c',by rw[e];exact rv.reverse,by simpa using ho⟩,rfl,q _ (I1.hok.fresh hp)⟩;rw[List.length_reverse];omega
theorem AZ(hc:X.calm=true){a:Expr}{p pos p2 pos2:Pos}{ta:TA}(hml:X.mg "list" =none)(hm:X.mg "reversed" =none)(ha:QA X [a] ta)(hgl:X.env.kindOf "list" =some .globalImplicit:=by rfl')(hg:X.env.kindOf "reversed" =some .globalImplicit:=by rfl')
  (hs:starEach [a] X.env=(false,eval a X.env)::starEach [] X.env:=by rfl') (hs2:((backTo pos2 (starEach [] X.env)).any λx=>x.fst)=false:=by rfl')
  (he:starEach [.Call (.Name "reversed" p2) [a] [] pos2] X.env=(false,eval (.Call (.Name "reversed" p2) [a] [] pos2) X.env)::starEach [] X.env:=by rfl') (hpl:(backTo pos (starEach [] X.env)).any (·.1)=false:=by rfl'):
  QE X (.Call (.Name "list" p) [.Call (.Name "reversed" p2) [a] [] pos2] [] pos) (nE X.K ta):=⟨AY hc hgl hml hg hm ha.p hs hs2 he hpl⟩
abbrev E9(n:Bool):R2:=λy x H Q=>∃a o,x=.ref a/\iQ H a y o/\Q (.bl (o.isSome !=n)) H
theorem pK(hu:X.A.units+64<cLine):mF X (compareOp .NotIn) (E9 true):=by
 intro pins s σ H y x u v Q I ry rx h;obtain⟨a,o,rfl,g,q⟩:=h;obtain rfl:v=Value.ref a:=rx;exact Lo (by omega) I g ry λs' I'=>⟨.bl (!o.isSome),H,I',rfl,by cases o<;>exact q⟩
theorem fX{o i:Expr}{td ty:TE}{pos:Pos}(hu:X.A.units+64<cLine)(ho:QE X o td)(hi:QE X i ty)(hs:NN i:=by intro _ _;rfl'):QE X (.Subscript o i pos) (fu td ty):=⟨Lq (by omega) ho.p hi.p hs⟩
theorem nG{o i value:Expr}{td ty tv:TE}{pos pos':Pos}(hu:X.A.units+64<cLine)(ho:QE X o td)(hi:QE X i ty)(hv:QE X value tv)(hs:swapsWith value (some (.Subscript o i pos')) pos.line X.env=pure false:=by rfl'):
  QS X (.Assign [.Subscript o i pos'] value pos) (jW td ty tv):=⟨Lr (by omega) ho.p hi.p hv.p hs⟩
theorem kT{pos:Pos}:QE X (.Dict [] [] pos) gq:=⟨HX⟩
theorem Ih{pos:Pos}:QE X (.Dict [] [] pos) wJ:=⟨HY⟩
abbrev nI:Uh V->Hp->VK->Prop:=λxs H Q=>∃p,∃kvs:Uh (Uc×V),xs=[.ref p]/\H p=some (.dK (kvs.map λkv=>(Key.inr (txt kv.1),kv.2)))/\kvs.length<64/\
 ∀l,∀zs:Ud,H l=none->zs.Perm (kvs.map (·.1))->zs.Pairwise (·<=·)->Q (.ref l) (upd H l (.lst (zs.map aD)))
theorem vB{P:Program}{w:World}:∀{kvs:Uh (Uc×V)} {vs:Uh (Key×Value)},KV (kvs.map λkv=>(Key.inr (txt kv.1),kv.2)) vs->∀us:Uh Value,us.length=vs.length->(∀(j:Nat) (v:Value),us[j]?=some v->∃(k:Key) (x:Value),vs[j]?=some (k,x)/\(bY P w).is k v=true)->StrsAre us ((kvs.map (·.1)).map txt)
 |[],_,r,us,h1,h2=>by
  cases r;have:us=[]:=length_eq_zero_iff.mp (by simpa using h1);subst this;exact .nil
 |kv::kvs,_,r,us,h1,h2=>by
  rw[map_cons] at r;cases r with
  |@cons p q ps qs hh tt=>
   cases us with
   |nil=>simp at h1
   |cons v us=>
    obtain⟨k,x,e1,e2⟩:=h2 0 v rfl;simp at e1
    subst e1;have e3:Key.inr (txt kv.1)=k:=hh.1;subst e3
    rcases cR (show qh (Key.inr (txt kv.1)) v=true from e2) with⟨i,t,e,_⟩|⟨y,t,e,rfl⟩|⟨e,_⟩
    ·cases e
    ·injection e with e
     subst e;exact .cons _ _ (vB tt us (by simpa using h1) λj v hj=>by simpa using h2 (j+1) v (by simpa using hj))
    ·cases e
theorem jw(hc:X.calm=true):fJ X (.builtin "sorted") nI:=by
 intro pins s σ H xs us Q I r h;obtain⟨p,kvs,rfl,hH,hz,q⟩:=h;obtain⟨u,rfl,ru⟩:=vals1 r;cases ru;obtain⟨z,hd,vs,rel,dd⟩:=yZ I.hok hH;obtain⟨ep,da⟩:=dd.dictAt;have hl:=rel.length;rw[length_map] at hl;refine Rev.Lu (I.ok.hd hc) hd da (by rw[<-hl];exact hz) (vB (P:=X.prog) (w:=X.w) rel) λh1 h' tk e out ss' k1 k2 he a1 a2 a3=>?_;have ez:ss'=(ss'.map λx=>x.cps.toList).map txt:=by
  rw[map_map];have:(txt∘λ(x:Str)=>x.cps.toList)=id:=by funext x;exact txt_codes x
  rw[this,map_id]
 have hp:(ss'.map λx=>x.cps.toList).Perm (kvs.map (·.1)):=by
  have:=a2.map (λx:Str=>x.cps.toList);rw[map_map] at this;have e2:((λx:Str=>x.cps.toList)∘txt)=id:=by funext l;exact bV l
  rw[e2,map_id] at this;exact this
 rw[ez] at a3;have hv:Vals ((ss'.map λx=>x.cps.toList).map aD) out.toList:=by rw[kL,<-ez];exact pB a1
 have I1:Inv X pins σ H {s with heap:=h1,toks:=s.toks}:=I.kept (t':=s.toks) k1
 refine⟨.ref h1.objs.size,_,I1.laid (t':=tk) (a:=h1.objs.size) (o:=.lst ((ss'.map λx=>x.cps.toList).map aD)) k2 (le_refl _) ⟨?_,out.toList,e,hv,by simpa [seqObj] using he⟩,rfl,q _ _ (I1.hok.fresh (le_refl _)) hp (sL _ a3)⟩;have:=hp.length_eq;rw[length_map,sizeLine_eq];simp at this
 simp
 omega
end
end L2
namespace MinD
open PySem PyProof.Rows
theorem Lw(a v:Value):argsOk "min" ⟨[a],[(Str.ofString "default",v)]⟩:=by unfold argsOk;rfl'
section
variable{P:Program}{wd:World}{Ar:Around}{Rs:Result->Shared->Prop}{it:Addr}{fp wr:Uh Addr}{n:Nat}{F:Nat->Value->Prop}{St:Nat->Heap->Prop}
theorem rest(W:Walks P wd Ar.in1 it fp wr n F St)(bt:Nat->Nat->Bool)(cmp:CmpOf P wd Ar.in1 .Lt F bt)(S:Addr)(hS:S∉fp)(kw:Uh (Str×Value)):
  ∀(k j:Nat) (s:Shared) (vb:Value) (c:Nat),n-(j+1)=k->j+1<=n->St (j+1) s.heap->F (argBest bt j) vb->s.heap.get? S=some {cls:=.type "list",dict:=none,data:=.seq #[vb,vb] c,slots:=#[] }->
  (∀v h' tk,F (argBest bt (n-1)) v->(∀b o,b∉wr->b≠S->s.heap.get? b=some o->h'.get? b=some o)->Rs (.ok (.ret v)) {s with heap:=h',toks:=tk})->codeAny (model P wd) Ar (.builtin "min.loop" ⟨[.ref it,.none,.ref S],kw⟩) Rs s:=by
 have wS:S∉wr:=λh=>hS (W.sub _ h);have nm:(toString "min" ++toString ".loop" :String) = "min.loop" :=by decide
 intro k
 induction k with
 |zero=>
  intro j s vb c hk hj st best hb q;have e:j+1=n:=by omega
  refine codeAny_builtin PySem.F.entry_min_loop ?_;rw[Around.under_plainId PySem.F.plain_min_loop _];show wpAny _ Ar.in1 (seqItems? (.ref S)>>=_) _ _ s;refine wpAny_bind (wpAny_seqItems hb rfl ?_);show wpAny _ Ar.in1 (tryCatch (pyNext (.ref it)) _>>=_) _ _ s;refine wpAny_bind (wpAny_tryCatch (W.done s _ _ (e▸st) λh' tk kp=>?_));show wpAny _ Ar.in1 (updateSeq S (λ_=>#[])>>=_) _ _ _;refine wpAny_bind (wpAny_updateSeq (kp S _ wS hb) rfl (wpAny_bind (wpAny_letGo (wpAny_pure ?_))));exact q vb _ tk (by rw[<-e];exact best) λb o hbw hbS eb=>(Heap.get?_update_other _ _ (Ne.symm hbS)).trans (kp b o hbw eb)
 |succ k ih=>
  intro j s vb c hk hj st best hb q;have lt:j+1<n:=by omega
  refine codeAny_builtin PySem.F.entry_min_loop ?_;rw[Around.under_plainId PySem.F.plain_min_loop _];show wpAny _ Ar.in1 (seqItems? (.ref S)>>=_) _ _ s;refine wpAny_bind (wpAny_seqItems hb rfl ?_);show wpAny _ Ar.in1 (tryCatch (pyNext (.ref it)) _>>=_) _ _ s;refine wpAny_bind (wpAny_tryCatch (W.item (j+1) s _ _ lt st λv h' tk fv st' kp=>?_));have hb':=kp S _ wS hb;show wpAny _ Ar.in1 (tryCatch (holding [v,v] (richCompare .Lt v vb>>=_)) _>>=_) _ _ _;refine wpAny_bind (wpAny_tryCatch (wpAny_holding (wpAny_bind (cmp (j+1) (argBest bt j) v vb _ _ _ fv best ?_))));refine wpAny_bind (wpAny_holding (wpAny_truthy_bool (wpAny_bind (wpAny_letGo (wpAny_pure ?_)))));cases eb:bt (j+1) (argBest bt j) with
  |true=>
   simp only[if_true];refine wpAny_bind (wpAny_updateSeq hb' rfl (wpAny_bind (wpAny_letGo ?_)));rw[nm];refine wpAny_pure ⟨plainId_quiet PySem.F.plain_min_loop _,ih (j+1) _ v _ (by omega) lt (W.frame _ _ _ st' λb hbf o e=>?_) (by simp only[argBest,eb,if_true];exact fv) (Heap.get?_update_self _ hb' rfl) λv' h2 tk2 fv2 kp2=>?_⟩
   ·exact(Heap.get?_update_other _ _ (λz:S=b=>hS (by rw[z];exact hbf))).trans e
   ·exact q v' h2 tk2 fv2 λb o hbw hbS e=>kp2 b o hbw hbS ((Heap.get?_update_other _ _ (Ne.symm hbS)).trans (kp b o hbw e))
  |false=>
   simp only[false_eq_true,if_false];refine wpAny_bind (wpAny_letGo ?_);rw[nm];refine wpAny_pure ⟨plainId_quiet PySem.F.plain_min_loop _,ih (j+1) _ vb c (by omega) lt st' (by simp only[argBest,eb,false_eq_true,if_false];exact best) hb' λv' h2 tk2 fv2 kp2=>?_⟩;exact q v' h2 tk2 fv2 λb o hbw hbS e=>kp2 b o hbw hbS (kp b o hbw e)
theorem whole(W:Walks P wd Ar.in1 it fp wr n F St)(bt:Nat->Nat->Bool)(cmp:CmpOf P wd Ar.in1 .Lt F bt)(S:Addr)(hS:S∉fp)(d:Value){s:Shared}{c:Nat}(st:St 0 s.heap)(hb:s.heap.get? S=some {cls:=.type "list",dict:=none,data:=.seq #[] c,slots:=#[] })
  (q:∀v h' tk,(0<n->F (argBest bt (n-1)) v)->(n=0->v=d)->(∀b o,b∉wr->b≠S->s.heap.get? b=some o->h'.get? b=some o)->Rs (.ok (.ret v)) {s with heap:=h',toks:=tk}):
  codeAny (model P wd) Ar (.builtin "min.loop" ⟨[.ref it,.none,.ref S],[("default",d)]⟩) Rs s:=by
 have wS:S∉wr:=λh=>hS (W.sub _ h);have nm:(toString "min" ++toString ".loop" :String) = "min.loop" :=by decide
 refine codeAny_builtin PySem.F.entry_min_loop ?_;rw[Around.under_plainId PySem.F.plain_min_loop _];show wpAny _ Ar.in1 (seqItems? (.ref S)>>=_) _ _ s;refine wpAny_bind (wpAny_seqItems hb rfl ?_);show wpAny _ Ar.in1 (tryCatch (pyNext (.ref it)) _>>=_) _ _ s
 by_cases hn:0<n
 ·refine wpAny_bind (wpAny_tryCatch (W.item 0 s _ _ hn st λv h' tk fv st' kp=>?_));have hb':=kp S _ wS hb;show wpAny _ Ar.in1 (updateSeq S (λ_=>#[v,v])>>=_) _ _ _;refine wpAny_bind (wpAny_updateSeq hb' rfl ?_);rw[nm];refine wpAny_pure ⟨plainId_quiet PySem.F.plain_min_loop _,rest W bt cmp S hS _ _ 0 _ v _ rfl hn (W.frame _ _ _ st' λb hbf o e=>?_) fv (Heap.get?_update_self _ hb' rfl) λv' h2 tk2 fv2 kp2=>?_⟩
  ·exact(Heap.get?_update_other _ _ (λz:S=b=>hS (by rw[z];exact hbf))).trans e
  ·exact q v' h2 tk2 (λ_=>fv2) (λz=>by omega) λb o hbw hbS e=>kp2 b o hbw hbS ((Heap.get?_update_other _ _ (Ne.symm hbS)).trans (kp b o hbw e))
 ·have e0:n=0:=by omega
  refine wpAny_bind (wpAny_tryCatch (W.done s _ _ (e0▸st) λh' tk kp=>?_))
  first
   |exact wpAny_bind (wpAny_rule (wpAny_pure (q d h' tk (λz=>absurd z hn) (λ_=>rfl) λb o hbw _ e=>kp b o hbw e)))
   |(refine wpAny_bind (wpAny_rule ?_);exact wpAny_pure (q d h' tk (λz=>absurd z hn) (λ_=>rfl) λb o hbw _ e=>kp b o hbw e))
end
section
variable{P:Program}{wd:World}{Ar:Around}{Er:Value->Shared->Prop}{s:Shared}
theorem Ii{F:Nat->Value->Prop}(val:Nat->Uc)(hval:∀i v,F i v->∃t,v=Value.str (L2.txt (val i)) t):CmpOf P wd Ar .Lt F (λi j=>decide (val i<val j)):=λi j vi vj s Q E hi hj h=>by
 obtain⟨t,rfl⟩:=hval i vi hi;obtain⟨u,rfl⟩:=hval j vj hj;exact(lt_str (by rw[L2.bV,L2.bV];exact h):wpAny (model P wd) Ar (compareOp .Lt (.str (L2.txt (val i)) t) (.str (L2.txt (val j)) u)) Q E s)
theorem Fb(hh:Ar.handled=none){l:Addr}{its:Array Value}{d:Value}{Q:Value->Shared->Prop}(hl:s.heap.IsList l its)(val:Nat->Uc)(hval:∀(i:Nat) (v:Value),its[i]?=some v->∃t,v=Value.str (L2.txt (val i)) t)
  (h:∀v h' tk,(0<its.size->its[argBest (λi j=>decide (val i<val j)) (its.size-1)]?=some v)->(its.size=0->v=d)->(∀b o,s.heap.get? b=some o->h'.get? b=some o)->Q v {s with heap:=h',toks:=tk}):
  wpAny (model P wd) Ar (call (.builtin "min") [.ref l] [(Str.ofString "default",d)]) Q Er s:=by
 have nm:(toString "min" ++toString ".loop" :String) = "min.loop" :=by decide
 refine PyProof.Rows.kmk_tree PySem.F.kind_min PySem.F.plain_min PySem.F.entry_min (Lw _ _) ?_;show wpAny _ Ar.in1 (Builtin.Builtins.bindParams "min" ["key", "default"] 0 ⟨[],[(Str.ofString "default",d)]⟩>>=_) _ _ s;refine wpAny_bind (wpAny_of_eq (show Builtin.Builtins.bindParams "min" ["key", "default"] 0 ⟨[],[(Str.ofString "default",d)]⟩=pure [none,some d] from rfl) ?_);refine wpAny_bind (wpAny_pure ?_);have hlt:l<s.heap.objs.size:=by obtain⟨_,e,_⟩:=hl;exact Heap.lt_size e
 have hlI:l≠s.heap.objs.size:=ne_of_lt hlt;refine wpAny_bind (wpAny_pyIter_list hl ?_);refine wpAny_bind (wpAny_newObj_type ?_);rw[nm];have W:=Walks.list (prog:=P) (w:=wd) (A:=Ar.in1) hh s.heap.objs.size l hlI its;have st:((s.heap.push {cls:=.type "list_iterator",data:=.fields #[.ref l,.int 0 0] }).IsListIter s.heap.objs.size l 0/\(s.heap.push {cls:=.type "list_iterator",data:=.fields #[.ref l,.int 0 0] }).IsList l its):=⟨⟨_,Heap.get?_push_size _ rfl,rfl,rfl⟩,hl.push _⟩;refine wpAny_pure ⟨plainId_quiet PySem.F.plain_min_loop _,whole W _ (Ii val hval) _ (λhm=>?_) d (W.frame _ _ _ st λb _ o e=>Heap.get?_push_of_some _ e) (Heap.get?_push_size _ rfl) λv h' tk f1 f2 kp=>?_⟩
 ·have hz:(s.heap.push {cls:=.type "list_iterator",data:=.fields #[.ref l,.int 0 0] }).objs.size=s.heap.objs.size+1:=Heap.size_push ..;rw[hz] at hm
  rcases mem_cons.mp hm with e|hm
  ·exact absurd e (Nat.succ_ne_self _)
  ·have:=mem_singleton.mp hm;exact absurd hlt (by rw[<-this];exact Nat.not_lt_of_le (le_succ _))
 refine h v h' tk f1 f2 λb o e=>kp b o ?_ ?_ ?_
 ·intro z;have:=mem_singleton.mp z;exact absurd (this▸Heap.lt_size e) (Nat.lt_irrefl _)
 ·refine ne_of_lt (lt_of_lt_of_le (Heap.lt_size e) ?_);show s.heap.objs.size<=(s.heap.push _).objs.size;rw[Heap.size_push];exact le_succ _
 ·exact Heap.get?_push_of_some _ (Heap.get?_push_of_some _ e)
theorem C6(f:Nat->Uc):∀k,argBest (λi j=>decide (f i<f j)) k<=k/\∀j,j<=k->¬f j<f (argBest (λi j=>decide (f i<f j)) k)
 | 0=>by
  refine⟨le_refl _,λj hj=>?_⟩;have e:j=0:=by omega
  rw[e];exact List.lt_irrefl _
 |k+1=>by
  obtain⟨a,b⟩:=C6 f k;unfold argBest
  by_cases h:f (k+1)<f (argBest (λi j=>decide (f i<f j)) k)
  ·rw[if_pos (decide_eq_true h)];refine⟨le_refl _,λj hj=>?_⟩
   by_cases e:j=k+1
   ·subst e;exact List.lt_irrefl _
   ·exact λz=>b j (by omega) (List.lt_trans z h)
  ·rw[if_neg (by simpa using h)];refine⟨by omega,λj hj=>?_⟩
   by_cases e:j=k+1
   ·subst e;exact h
   ·exact b j (by omega)
end
end MinD
namespace L2
open PySem PySem.Spec PyProof.Rows
def ze(K:W.Frag)(ta td:TE):TE:=λσ H Q=>ta σ H λx H1=>td σ H1 λd H2=>∃p,∃ns:Ud,x=.ref p/\aX K H2 p (ns.map aD)/\(ns=[]->Q d H2)/\(∀m,m∈ns->(∀y∈ns,¬y<m)->Q (.str (txt m)) H2)
section
variable{X:Cx}
theorem Lx{e d:Expr}{ta td:TE}{p pos kp:Pos}(hc:X.calm=true)(hg:Gl X "min")(hm:X.mg "min" =none)(he:PE X e ta)(hd:PE X d td)
  (h1:backTo pos (starEach [e] X.env)=(false,eval e X.env)::backTo pos (starEach [] X.env)) (h2:(backTo pos (starEach [e] X.env)).any (·.1)=false)
  (h3:(backToKw pos (keywordEach [⟨some "default",d,kp⟩] X.env)).all (·.1.isSome)=true) (h4:(backToKw pos (keywordEach [⟨some "default",d,kp⟩] X.env)).any (·.1.isNone)=false)
  (h5:(backToKw pos (keywordEach [⟨some "default",d,kp⟩] X.env)).filterMap (·.1)=[Str.ofString "default"]) (hs:starEach [e] X.env=(false,eval e X.env)::starEach [] X.env):
  PE X (.Call (.Name "min" p) [e] [⟨some "default",d,kp⟩] pos) (ze X.K ta td):=by
 intro pins s σ H Q I h;refine wpAny_Call_Name_kw (mE I hg hm PyProof.Rows.Boot.«min» ?_ (by decide) (by decide));refine PyProof.Rows.callWith_kw ?_ h1 h2 h3 h4;refine cM (qZ he vS hs pos pins s σ H (λvs H1=>∃x,vs=[x]/\td σ H1 λd H2=>∃p,∃ns:Ud,x=.ref p/\aX X.K H2 p (ns.map aD)/\(ns=[]->Q d H2)/\(∀m,m∈ns->(∀y∈ns,¬y<m)->Q (.str (txt m)) H2)) I ?_) λus s1 ⟨vs,H1,I1,r1,x,e1,q1⟩=>?_
 ·exact(show ta σ H λx H1=>∃y,[x]=[y]/\_ from by
   have:(λ(x:V) (H1:Hp)=>td σ H1 λd H2=>∃p,∃ns:Ud,x=.ref p/\aX X.K H2 p (ns.map aD)/\(ns=[]->Q d H2)/\(∀m,m∈ns->(∀y∈ns,¬y<m)->Q (.str (txt m)) H2))=λ(x:V) (H1:Hp)=>∃y,[x]=[y]/\td σ H1 λd H2=>∃p,∃ns:Ud,y=.ref p/\aX X.K H2 p (ns.map aD)/\(ns=[]->Q d H2)/\(∀m,m∈ns->(∀y∈ns,¬y<m)->Q (.str (txt m)) H2):=by
    funext x H1
    exact propext ⟨λz=>⟨x,rfl,z⟩,λ⟨y,e,z⟩=>by cases e;exact z⟩
   unfold ze at h;rw[this] at h;exact h)
 ·subst e1;obtain⟨u,rfl,ru⟩:=vals1 r1;refine cM (KR hd Nk pos pins s1 σ H1 (λvs H2=>∃d,vs=[d]/\∃p,∃ns:Ud,x=.ref p/\aX X.K H2 p (ns.map aD)/\(ns=[]->Q d H2)/\(∀m,m∈ns->(∀y∈ns,¬y<m)->Q (.str (txt m)) H2)) I1 ?_) λws s2 ⟨zs,H2,I2,r2,dv,e2,pa,ns,e3,hq,q0,q2⟩=>?_
  ·exact(show td σ H1 λd H2=>∃d',[d]=[d']/\_ from by
    have:(λ(d:V) (H2:Hp)=>∃p,∃ns:Ud,x=.ref p/\aX X.K H2 p (ns.map aD)/\(ns=[]->Q d H2)/\(∀m,m∈ns->(∀y∈ns,¬y<m)->Q (.str (txt m)) H2))=λ(d:V) (H2:Hp)=>∃d',[d]=[d']/\∃p,∃ns:Ud,x=.ref p/\aX X.K H2 p (ns.map aD)/\(ns=[]->Q d' H2)/\(∀m,m∈ns->(∀y∈ns,¬y<m)->Q (.str (txt m)) H2):=by
     funext d H2
     exact propext ⟨λz=>⟨d,rfl,z⟩,λ⟨y,e,z⟩=>by cases e;exact z⟩
    rw[this] at q1;exact q1)
  ·subst e2 e3;cases ru;obtain⟨wv,rfl,rw'⟩:=vals1 r2;rw[h5];obtain⟨its,rv,pl,hz⟩:=I2.list hq;have lx:ns.length=its.length:=by have:=rv.length;rwa[length_map] at this
   have hval:∀(i:Nat) (v:Value),its.toArray[i]?=some v->∃t,v=Value.str (txt (ns.getD i [])) t:=λi v e=>by
    rw[List.getElem?_toArray] at e;have hi:=(List.getElem?_eq_some_iff.mp e).1;obtain⟨u,hu,ru⟩:=rv.get (i:=i) (x:=aD ns[i]) (by rw[getElem?_map,getElem?_eq_getElem (by omega)];rfl);rw[e] at hu;cases hu;rw[getD_eq_getElem?_getD,getElem?_eq_getElem (by omega)];exact ru
   show wpAny _ X.A (call (.builtin "min") [.ref pa] [(Str.ofString "default",wv)]) _ _ _;refine MinD.Fb (I2.ok.hd hc) pl.isList (λi=>ns.getD i []) hval λv h' tk f1 f2 kp=>?_;have I3:Inv X pins σ H2 {s2 with heap:=h',toks:=tk}:=I2.kept kp
   by_cases hn:ns=[]
   ·have:its.toArray.size=0:=by rw[size_toArray,<-lx,hn];rfl
    rw[f2 this];exact⟨dv,H2,I3,rw',q0 hn⟩
   ·have h0:0<its.toArray.size:=by rw[size_toArray,<-lx];exact length_pos_iff.mpr hn
    have fv:=f1 h0;obtain⟨b1,b2⟩:=MinD.C6 (λi=>ns.getD i []) (its.toArray.size-1);generalize argBest _ (its.toArray.size-1)=k at fv b1 b2;obtain⟨t,rfl⟩:=hval k v fv;have at_:∀i,i<ns.length->ns[i]?=some (ns.getD i []):=λi hi=>by
     rw[getD_eq_getElem?_getD,getElem?_eq_getElem hi];rfl
    rw[size_toArray,<-lx] at h0 b1 b2;refine⟨.str _,H2,I3,⟨t,rfl⟩,q2 _ (mem_of_getElem? (at_ k (by omega))) λy hy=>?_⟩;obtain⟨i,hi,e⟩:=List.getElem_of_mem hy;have:=at_ i hi;rw[getElem?_eq_getElem hi,e] at this;rw[Option.some.inj this];exact b2 i (by omega)
end
section
variable{X:Cx}{e o value d:Expr}{es:Uh Expr}{f x m:Str}{pos pos' p apos kp:Pos}{ta tv td:TE}{t:TA}
theorem Ly(he:QE X e ta)(hd:QE X d td)(hm:X.mg "min" =none)(hc:X.calm=true:=by rfl')(hg:X.env.kindOf "min" =some .globalImplicit:=by rfl')
  (h1:backTo pos (starEach [e] X.env)=(false,eval e X.env)::backTo pos (starEach [] X.env):=by rfl') (h2:(backTo pos (starEach [e] X.env)).any (·.1)=false:=by rfl')
  (h3:(backToKw pos (keywordEach [⟨some "default",d,kp⟩] X.env)).all (·.1.isSome)=true:=by rfl') (h4:(backToKw pos (keywordEach [⟨some "default",d,kp⟩] X.env)).any (·.1.isNone)=false:=by rfl')
  (h5:(backToKw pos (keywordEach [⟨some "default",d,kp⟩] X.env)).filterMap (·.1)=[Str.ofString "default"]:=by rfl') (hs:starEach [e] X.env=(false,eval e X.env)::starEach [] X.env:=by rfl'):
  QE X (.Call (.Name "min" p) [e] [⟨some "default",d,kp⟩] pos) (ze X.K ta td):=⟨Lx hc hg hm he.p hd.p h1 h2 h3 h4 h5 hs⟩
end
section
variable{X:Cx}{pins:Uh (Addr×Obj)}{σ:St}{H:Hp}{s:Shared}
theorem Inv.freeze{d:Addr}{o:Obj}{kvs:Uh (Key×V)}(I:Inv X pins σ H s)(hd:H d=some (.dK kvs))(ho:s.heap.get? d=some o):Inv X pins σ (upd H d (.frz o (.dK kvs))) s:=by
 have ok:=I.hok d _ hd;have new:cI X.prog X.w (upd H d (.frz o (.dK kvs))) s.heap d (.frz o (.dK kvs)):=⟨ho,ok⟩;exact I.write (t':=s.toks) (h':=s.heap) (x:=d) (e:=d) (by rw[hd];exact True.intro) (.inl rfl) (λ_ _ _ e=>e) ⟨o,ho⟩ new
theorem Inv.Sf{σ0:St}{pins0:Uh (Addr×Obj)}{H0:Hp}{s0:Shared}{d:Addr}{o:Obj}{k0 kvs:Uh (Key×V)}(I0:Inv X pins0 σ0 H0 s0)(h0:H0 d=some (.dK k0))(I:Inv X pins σ H s)(hd:H d=some (.frz o (.dK kvs))):Inv X pins σ (upd H d (.dK kvs)) s:=by
 have ne:∀{b:Addr},H b=none->b≠d:=λh z=>by subst z;rw[hd] at h;cases h
 have ok:=I.hok d _ hd;refine⟨I.ok,I.os,I.bare,⟨I.base.keep,I.base.slot,λb ob e n hx=>?_,I.base.there,λb xs e=>?_,λb ob u e=>?_,λb ps e=>?_⟩,I.loc,I.cell,?_,λx c e=>?_,λp hp=>?_,λb u e=>?_,I.len⟩
 ·have:=I.base.free b ob e n hx;rw[aE (ne this)];exact this
 ·have:=I.base.tups b xs e;rw[aE (λz=>by subst z;rw[hd] at this;cases this)];exact this
 ·have:=I.base.frzs b ob u e;rw[aE (λz=>by subst z;have q:=I0.base.frzs _ ob u e;rw[h0] at q;cases q)];exact this
 ·obtain⟨more,this⟩:=I.base.tbls b ps e;exact⟨more,by rw[aE (λz=>by subst z;rw[hd] at this;cases this)];exact this⟩
 ·rw[aE (ne I.free)];exact I.free
 ·rw[aE (ne (I.freeC x c e))];exact I.freeC x c e
 ·obtain⟨a,b,c⟩:=I.pin p hp;exact⟨a,by rw[aE (ne b)];exact b,c⟩
 ·have st:∀{a:Addr} {u:HO},cI X.prog X.w H s.heap a u->cI X.prog X.w (upd H d (.dK kvs)) s.heap a u:=λx=>x.stay (λ_ _ _ q=>q)
   (λc q=>by rw[aE (λz=>by subst z;rw[hd] at q;cases q)];exact q) (λc xs q=>by rw[aE (λz=>by subst z;rw[hd] at q;cases q)];exact q)
  by_cases hb:b=d
  ·subst hb;rw[aq] at e;cases e;exact st ok.2
  ·rw[aE hb] at e;exact st (I.hok b u e)
def Tr(a:Addr)(o:Obj)(kvs:Uh (Key×V)):It:=⟨λi H=>H a=some (.frz o (.dK kvs))/\i<kvs.length,λi H x H'=>H'=H/\∃k v,kvs[i]?=some (k,v)/\x=kV k,λi H=>H a=some (.frz o (.dK kvs))/\kvs.length<=i⟩
theorem KV.get{kvs:Uh (Key×V)}{vs:Uh (Key×Value)}(r:KV kvs vs):∀{i:Nat} {k:Key} {v:V},kvs[i]?=some (k,v)->∃u,vs[i]?=some (k,u):=by
 induction r with
 |nil=>intro i k v e;simp at e
 |@cons p q ps qs h t ih=>
  intro i k v e;cases i with
  |zero=>
   simp at e
   subst e;obtain⟨q1,q2⟩:=q;have h1:k=q1:=h.1;subst h1;exact⟨q2,rfl⟩
  |succ i=>exact ih (by simpa using e)
theorem Ij{P:Program}{w:World}{h:Heap}{a:Addr}{o:Obj}{es:Array DictEntry}{ep:Nat}{kvs:Uh (Key×V)}(hd:o.data=.dict es ep)(x:cI P w H h a (.frz o (.dK kvs))):∃vs,KV kvs vs/\h.DictAt (bY P w) a vs ep:=by
 obtain⟨ho,z,y,vs,r,ob,es',ep',e,c1,c2,c3⟩:=x;rw[ho] at e;cases e;rw[hd] at c2;cases c2;exact⟨vs,r,o,es,ho,c1,hd,c3⟩
theorem C7{P:Program}{w:World}{k:Key}{u:Value}(h:(bY P w).is k u=true):RelV (kV k) u:=by
 rcases cR (show qh k u=true from h) with⟨i,t,rfl,rfl⟩|⟨x,t,rfl,rfl⟩|⟨rfl,rfl⟩
 ·exact⟨t,rfl⟩
 ·exact⟨t,rfl⟩
 ·rfl
theorem Fc{P:Program}{w:World}{K:W.Frag}{tg:Expr}(a it:Addr)(o:Obj)(kvs:Uh (Key×V))(es:Array DictEntry)(ep:Nat)(hdt:o.data=.dict es ep):Turn P w K tg (Tr a o kvs) [it] it (λi h=>h.IsKeyIter it a i kvs.length ep) where
 mem:=by simp
 obj:=λi h st b hb=>by
  have e:b=it:=by simpa using hb
  subst e;obtain⟨o,e,c,d⟩:=st;exact⟨o,e,λv z=>by rw[d] at z;cases z⟩
 keep:=λi h h' st k=>st.at λo e=>k it (by simp) o e
 item:=by
  intro X hP hw hK hc i pins s σ H E I hf st hg;subst hP hw hK;obtain⟨hq,hx⟩:=hg;obtain⟨vs,r,da⟩:=Ij hdt (I.hok a _ hq);have hl:=r.length;rw[hl] at st;obtain⟨⟨k,v⟩,hkv⟩:∃p,kvs[i]?=some p:=⟨kvs[i],getElem?_eq_getElem hx⟩;obtain⟨u,hu⟩:=r.get hkv;obtain⟨f0,f1,f2,f3,f4,f5⟩:=hf it (by simp);refine wpAny_pyNext_dict_item st da hu λkey h' hk st' sb=>?_;have I1:Inv X pins σ H {s with heap:=h' }:=I.turned (t':=s.toks) (λb o hb e=>(sb.2 b hb).trans e) f0 f1 f3 f4 f5
  obtain⟨ob,e,c,d⟩:=id st';rw[<-hl] at st';exact⟨key,rfl,CB (s:={s with heap:=h' }) e c d (by decide) ⟨kV k,H,I1,C7 hk,⟨rfl,k,v,hkv,rfl⟩,st',λb hb=>(hf b hb).1⟩⟩
 done:=by
  intro X hP hw hK hc i pins s σ H E I hf st hg;subst hP hw hK;obtain⟨hq,hx⟩:=hg;obtain⟨vs,r,da⟩:=Ij hdt (I.hok a _ hq);have hl:=r.length;rw[hl] at st;obtain⟨f0,f1,f2,f3,f4,f5⟩:=hf it (by simp);exact wpAny_pyNext_dict_end (I.ok.hd hc) st da (getElem?_eq_none (by omega)) λh' eb=>⟨rfl,I.turned (t':=s.toks) (λb o hb e=>eb b o hb e) f0 f1 f3 f4 f5⟩
 self:=λ_ _ _ _ _ st h=>wpAny_pyIter_keyiter st h
def C8(tl:TE):TI:=λσ H R=>tl σ H λx H1=>∃a kvs,x=.ref a/\H1 a=some (.dK kvs)/\∀o,R (Tr a o kvs) (upd H1 a (.frz o (.dK kvs)))
theorem Lz{tg l:Expr}{tl:TE}(hl:PE X l tl):PI X tg l (C8 tl):=by
 intro pins s σ H R I h;refine cM (hl pins s σ H _ I h) λv s1 ⟨x,H1,I1,r1,q1⟩=>?_;obtain⟨a,kvs,e,hd,q⟩:=q1;subst e;cases r1;obtain⟨z,hs,vs,rel,dd⟩:=yZ I1.hok hd;obtain⟨ep,da⟩:=dd.dictAt;obtain⟨o,es,ho,c1,c2,c3⟩:=id da;have hlen:=rel.length;refine wpAny_pyIter_dict hs da ?_;have I2:=(I1.freeze hd ho).kept (t':=s1.toks) (h':=s1.heap.push {cls:=.type "dict_keyiterator",data:=.fields #[.ref a,.int 0 0,.int vs.length 0,.int ep 0] }) λb o e=>Heap.get?_push_of_some _ e;refine⟨s1.heap.objs.size,[s1.heap.objs.size],_,_,_,rfl,I2,Fc a _ o kvs es ep c2,⟨_,Heap.get?_push_size _ rfl,rfl,by rw[hlen];rfl⟩,λb hb=>?_,q o⟩;have e:b=s1.heap.objs.size:=by simpa using hb
 subst e;exact(I1.freeze hd ho).Kz (le_refl _) ((I1.freeze hd ho).hok.fresh (le_refl _))
theorem LA{tg a:Expr}{tl:TE}(hl:QE X a tl):QI X tg a (C8 tl):=⟨Lz hl.p⟩
def Ik(te:TE):TE:=λσ H Q=>te σ H λx H1=>∃a o k0 kvs,H a=some (.dK k0)/\H1 a=some (.frz o (.dK kvs))/\Q x (upd H1 a (.dK kvs))
theorem LB{e:Expr}{te:TE}(h:QE X e te):QE X e (Ik te):=⟨λpins s σ H Q I q=>cM (h.p pins s σ H _ I q) λv s1 ⟨x,H1,I1,r1,a,o,k0,kvs,h0,h1,q1⟩=>⟨x,_,I.Sf h0 I1 h1,r1,q1⟩⟩
theorem NT{tl:TE}{a:Addr}{kvs:Uh (Key×V)}{σ:St}{fs:Uc}{tt:TT}{te:TE}{H:Hp}{Q:VK}(ha:∀Q:VK,Q (.ref a) H->tl σ H Q)(hq:H a=some (.dK kvs))(Pv:Nat->Uh V->Hp->Prop)(h0:∀H',(∀b,b≠a->H' b=H b)->Pv 0 [] H')(hl:∀i ys H',i<=kvs.length->Pv i ys H'->ys.length<=i)(hn:kvs.length<=sizeLine)
  (hs:∀i k v ys H',kvs[i]?=some (k,v)->Pv i ys H'->∀R:Uh V->Hp->Prop,(∀ys' H'',Pv (i+1) ys' H''->H'' a=H' a->R ys' H'')->tt (some (kV k)::aY fs σ) H' λb H2=>if b=true then te (some (kV k)::aY fs σ) H2 λy H3=>R (ys++[y]) H3 else R ys H2)
  (hd:∀ys H',Pv kvs.length ys H'->∀p,H' p=none->p≠a->Q (.ref p) (upd (upd H' a (.dK kvs)) p (.lst ys))):Ik (eG (C8 tl) fs tt te) σ H Q:=by
 refine ha _ ⟨a,kvs,rfl,hq,λo=>?_⟩;refine⟨λi m ys H'=>m=kvs.length-i/\i<=kvs.length/\H' a=some (.frz o (.dK kvs))/\Pv i ys H',⟨kvs.length,by simp,zero_le _,aq,h0 _ λb hb=>aE hb⟩,?_⟩;rintro i m ys H' ⟨rfl,hi,hf,p⟩;have hle:=hl i ys H' hi p;refine⟨by omega,?_⟩
 by_cases hlt:i<kvs.length
 ·refine .inr ⟨⟨hf,hlt⟩,by omega,λx H'' y=>?_⟩
  obtain⟨e,k,v,hkv,ex⟩:=y;subst e ex;exact hs i k v ys _ hkv p (λys' H2=>∃m',m'<kvs.length-i/\m'=kvs.length-(i+1)/\i+1<=kvs.length/\H2 a=some (.frz o (.dK kvs))/\Pv (i+1) ys' H2) λys' H2 q e=>⟨kvs.length-(i+1),by omega,rfl,hlt,by rw[e];exact hf,q⟩
 ·have e:i=kvs.length:=by omega
  subst e;refine .inl ⟨⟨hf,le_refl _⟩,λp2 hp2=>?_⟩;have ne:p2≠a:=λz=>by subst z;rw[hf] at hp2;cases hp2
  refine⟨a,o,kvs,kvs,hq,by rw[aE (Ne.symm ne)];exact hf,?_⟩;have eq:upd (upd H' p2 (.lst ys)) a (.dK kvs)=upd (upd H' a (.dK kvs)) p2 (.lst ys):=by
   funext b
   unfold upd
   by_cases h1:b=a
   ·subst h1;simp[Ne.symm ne]
   ·by_cases h2:b=p2
    ·subst h2;simp[h1]
    ·simp[h1,h2]
  rw[eq];exact hd ys H' p p2 hp2 ne
end
end L2
namespace DOf
open PySem PyProof.Rows PySem.Calls
theorem miss:typeLookup (.type "list") "keys" =pure none:=by rw[typeLookup_type,builtinLookup_eq_fast];rfl'
section
variable{prog:Program}{w:World}{A:Around}{E:Value->Shared->Prop}
theorem Fd{s:Shared}{a:Addr}{o:Obj}{xs:Array Value}{k:Nat}{Q:Option Value->Shared->Prop}
  (hx:s.heap.get? a=some o) (hc:o.cls=.type "list") (hdat:o.data=.seq xs k) (hd:o.dict=none) (hA:A.handled=none)
  (h:∀h' tk e,Heap.NewExcOf s.heap h' e "AttributeError"->Q none {s with heap:=h',toks:=tk}):
  wpAny (model prog w) A (getAttr? (.ref a) "keys") Q E s:=by
 obtain⟨c,dct,dat,sl⟩:=o;simp only at hc hdat hd;subst hc hdat hd;obtain⟨hp,g,d,tk,os⟩:=s;have hT:∀tk',(⟨hp,g,d,tk',os⟩:Shared).TypeIs (.ref a) "list":=λ_=>⟨_,hx,rfl⟩;have f1:=sub_AttributeError;have f3:=F.slot_list_getattribute.lookup;have f4:=F.slot_list_getattribute.bind (.ref a);have f5:=am_list_getattr_none;unfold getAttr? getAttrBy? getAttrBy
 repeat (any_goals (first|assumption|exact hT _|((with_reducible show wpAny _ _ (call (Value.builtin "list.__getattribute__") _ _) _ _ _);refine call_meets F.slot_list_getattribute (hT _) am_entry_list_getattribute (F.args_list_getattribute_2 _ _) (meets_getattribute_miss_list a xs k sl "keys" _ miss (by decide+kernel) (by size_fits)) ⟨hx,hA,λh' tk' e hx'=>?_⟩)|wp_step))
 obtain⟨t',u',he⟩:=hx'.there;show wpAny _ _ (getattributeRaised _ _ _ _ _ _ _) _ _ _;unfold getattributeRaised
 repeat (any_goals (first|assumption|wp_step))
 exact h _ _ _ hx'.of
theorem tL:entryFor table "dict.update.loop" =some Builtin.«dict.update.loop»:=by first|exact entryFor_of_fast (by rfl')|exact entryFor_of_tree (by rfl')
theorem jx:plainId "dict.update.loop" =true:=by decide+kernel
variable{K:Type}[DecidableEq K]{knd:PySem.KeyKind prog w K}
def A2(knd:PySem.KeyKind prog w K)(h:Heap)(items:Uh Value)(ps:Uh (K×Value)):Prop:=items.length=ps.length/\∀(j:Nat) (k:K) (v:Value),ps[j]?=some (k,v)->∃a u,items[j]?=some (.ref a)/\h.IsTuple a #[u,v]/\knd.is k u=true
theorem loop(hh:A.handled=none){d it l:Addr}(hil:it≠l)(hid:it≠d)(hdl:d≠l){items:Uh Value}{ps:Uh (K×Value)}{R:Result->Shared->Prop}:
  ∀(n i:Nat) (s:Shared) (kvs:Uh (K×Value)),ps.length=i+n->s.heap.IsListIter it l i->s.heap.IsList l items.toArray->s.heap.DictOf knd d kvs->A2 knd s.heap items ps->kvs.length+n<=sizeLine->
  (∀h' tk,h'.DictOf knd d (merged kvs (ps.drop i))->(∀b o,b≠d->b≠it->s.heap.get? b=some o->h'.get? b=some o)->R (.ok (.ret .none)) {s with heap:=h',toks:=tk})->
  codeAny (model prog w) A (.builtin "dict.update.loop" ⟨[.ref d,.ref it,rawInt (i:Int),.none],[]⟩) R s:=by
 intro n
 induction n with
 |zero=>
  intro i s kvs hn st hl hd hp hz q;have hps:ps.drop i=[]:=List.drop_of_length_le (by omega);rw[hps] at q;refine codeAny_builtin tL ?_;rw[Around.under_plainId jx _];show wpAny _ A.in1 (pyNext (.ref it)>>=_) _ _ s;refine wpAny_bind (wpAny_pyNext_list_end (A:=A.in1) hh st hl (by rw[List.getElem?_toArray];exact getElem?_eq_none (by rw[hp.1];omega)) λh' eb=>?_);show wpAny _ A.in1 (Builtin.Dict.addKeywords d []>>=_) _ _ _;refine wpAny_bind (wpAny_pure (wpAny_pure ?_));have hd':h'.DictOf knd d kvs:=hd.extBut eb hid.symm;exact q h' _ hd' λb o _ hb e=>eb b o hb e
 |succ n ih=>
  intro i s kvs hn st hl hd hp hz q;obtain⟨⟨k,v⟩,hkv⟩:∃p,ps[i]?=some p:=⟨_,getElem?_eq_getElem (show i<ps.length by omega)⟩;obtain⟨a,u,hit,ht,hk⟩:=hp.2 i k v hkv;refine codeAny_builtin tL ?_;rw[Around.under_plainId jx _];show wpAny _ A.in1 (pyNext (.ref it)>>=_) _ _ s;refine wpAny_bind (wpAny_pyNext_list_item st hl (x:=.ref a) (by simpa using hit) λh' st' sb=>?_);show wpAny _ A.in1 (holding [.ref a] _>>=_) _ _ _;refine wpAny_bind (wpAny_holding (wpAny_bind (wpAny_tryCatch ?_)));unfold Builtin.Dict.pairItems;have ne:∀b xs,s.heap.IsTuple b xs->b≠it/\b≠d:=λb xs ⟨o,ho,hc,_⟩=>by
   refine⟨λz=>?_,λz=>?_⟩
   ·obtain⟨o',ho',hc',_⟩:=st;rw[z,ho'] at ho;cases ho;rw[hc'] at hc;injection hc with hc
    exact absurd hc (by decide)
   ·obtain⟨o',ho',hc'⟩:=hd.typeIs (s:=s);rw[z,ho'] at ho;cases ho;rw[hc'] at hc;injection hc with hc
    exact absurd hc (by decide)
  have ht':h'.IsTuple a #[u,v]:=let ⟨o,ho,r⟩:=ht;⟨o,(sb.2 a (ne a _ ht).1).trans ho,r⟩;obtain⟨o,ho,hc,n0,hdat⟩:=id ht';refine wpAny_bind (wpAny_typeOf (T:="tuple") ⟨o,ho,hc⟩ ?_);rw[if_pos (by decide)];refine wpAny_bind (wpAny_seqItems ho hdat (wpAny_pure ?_));show wpAny _ _ (holding [u,v] (dictSet d u v)) _ _ _;have hd':h'.DictOf knd d kvs:=hd.extBut sb.extBut hid.symm;refine wpAny_holding (wpAny_dictSet_pairs hk hd' (λh2 hd2 sb2=>?_) (by omega));have e1:merged kvs (ps.drop i)=merged (stored kvs k v) (ps.drop (i+1)):=by
   rw[drop_eq_getElem_cons (show i<ps.length by omega)];have:ps[i]=(k,v):=Option.some.inj ((getElem?_eq_getElem _).symm.trans hkv);rw[this];rfl
  rw[e1] at q;have kp:∀b o,b≠d->b≠it->s.heap.get? b=some o->h2.get? b=some o:=λb o h1 h2' e=>(sb2.2 b h1).trans ((sb.2 b h2').trans e);refine wpAny_pure ⟨plainId_quiet jx _,?_⟩;have:=ih (i+1) {s with heap:=h2,toks:=s.toks+1} (stored kvs k v) (by omega) (st'.at λo e=>(sb2.2 it hid).trans e) (hl.at λo e=>kp l o hdl.symm hil.symm e) hd2
   ⟨hp.1,λj k' v' e=>by
    obtain⟨a',u',x1,x2,x3⟩:=hp.2 j k' v' e;obtain⟨o',y1,y2⟩:=id x2;exact⟨a',u',x1,⟨o',kp a' o' (ne a' _ x2).2 (ne a' _ x2).1 y1,y2⟩,x3⟩⟩
   (by have:=stored_length_le kvs k v;omega) λh3 tk hd3 k3=>q h3 tk hd3 λb o h1 h2' e=>k3 b o h1 h2' (kp b o h1 h2' e)
  rwa[show ((i+1:Nat):Int)=(i:Int)+1 by omega] at this
theorem Fe{s:Shared}{l:Addr}{items:Uh Value}{c:Nat}{ps:Uh (K×Value)}{Q:Value->Shared->Prop}(hh:A.handled=none)(hlst:s.heap.get? l=some {cls:=.type "list",dict:=none,data:=.seq items.toArray c,slots:=#[] })(hp:A2 knd s.heap items ps)(hz:ps.length<=sizeLine)
  (h:∀h' tk,h'.DictOf knd s.heap.objs.size (merged [] ps)->(∀b o,s.heap.get? b=some o->h'.get? b=some o)->Q (.ref s.heap.objs.size) {s with heap:=h',toks:=tk}):
  wpAny (model prog w) A (call (.type "dict") [.ref l]) Q E s:=by
 refine callType_codes (Q₁:=λobj s₁=>obj=.ref s.heap.objs.size/\s₁={s with heap:=s.heap.push {cls:=.type "dict",data:=.dict #[] } }) PySem.F.kt_called_dict (PySem.F.kt_typeCall_dict_1 _) PySem.F.entry_dict_init (kt_code_dict_new _ ⟨rfl,rfl⟩) ?_;rintro obj s₁ ⟨rfl,rfl⟩;have hnew:(s.heap.push {cls:=.type "dict",data:=.dict #[] }).DictOf knd s.heap.objs.size []:=Heap.DictOf.new s.heap;refine⟨hnew.typeIs,PySem.F.args_dict_init_2 _ _,?_⟩;have hlt:l<s.heap.objs.size:=Heap.lt_size hlst;have hl1:=Heap.get?_push_of_some {cls:=.type "dict",data:=.dict #[] } hlst;unfold Builtin.«dict.__init__»;refine wpAny_bind ?_;unfold Builtin.Dict.selfAndRest;refine wpAny_bind (wpAny_notOrdered_dict hnew.typeIs ?_);show wpAny _ _ (pure (s.heap.objs.size,[Value.ref l])) _ _ _;refine wpAny_pure ?_;show wpAny _ _ (Builtin.Dict.updateFrom "dict.__init__" s.heap.objs.size (.ref l) [] .none) _ _ _;unfold Builtin.Dict.updateFrom;refine wpAny_bind (wpAny_typeOf (T:="list") ⟨_,hl1,rfl⟩ ?_);rw[if_pos (by decide)];refine wpAny_bind (Fd hl1 rfl rfl rfl (by exact hh) λh2 tk2 e2 ne2=>?_);have k2:∀b o,(s.heap.push {cls:=.type "dict",data:=.dict #[] }).get? b=some o->h2.get? b=some o:=λb o e=>ne2.keeps b o e;simp only[Option.isNone_none,if_true];refine wpAny_bind (wpAny_rule ?_);have hl2:h2.IsList l items.toArray:=⟨_,k2 _ _ hl1,rfl,_,rfl⟩;refine wpAny_bind (wpAny_pyIter_list hl2 ?_);refine wpAny_pure ⟨plainId_quiet jx _,?_⟩;have hd2:(h2.push {cls:=.type "list_iterator",data:=.fields #[.ref l,.int 0 0] }).DictOf knd s.heap.objs.size []:=hnew.keep (λb o e=>Heap.get?_push_of_some _ (k2 b o e));have sz:s.heap.objs.size<h2.objs.size:=by obtain⟨_,_,_,e,_⟩:=hnew;exact Heap.lt_size (k2 _ _ e)
 have lt2:l<h2.objs.size:=Heap.lt_size (k2 _ _ hl1);refine loop (knd:=knd) (A:=A.in1) hh (ne_of_gt lt2) (ne_of_gt sz) (ne_of_gt hlt) ps.length 0 _ [] (by omega) ⟨_,Heap.get?_push_size _ rfl,rfl,rfl⟩ (hl2.push _) hd2
  ⟨hp.1,λj k v e=>by
   obtain⟨a,u,x1,⟨o,y1,y2⟩,x3⟩:=hp.2 j k v e;exact⟨a,u,x1,⟨o,Heap.get?_push_of_some _ (k2 _ _ (Heap.get?_push_of_some _ y1)),y2⟩,x3⟩⟩ (by simpa using hz) λh3 tk hd3 k3=>?_
 rw[drop_zero] at hd3;refine⟨rfl,h h3 tk hd3 λb o e=>?_⟩;have hb:=Heap.lt_size e;exact k3 b o (ne_of_lt hb) (ne_of_lt (Nat.lt_trans hb sz)) (Heap.get?_push_of_some _ (k2 _ _ (Heap.get?_push_of_some _ e)))
end
end DOf
namespace L2
open PySem PySem.Spec PyProof.Rows
def Sg(H:Hp)(ys:Uh V)(ps:Uh (Key×V)):Prop:=ys.length=ps.length/\∀(i:Nat) (k:Key) (v:V),ps[i]?=some (k,v)->∃t,ys[i]?=some (.ref t)/\H t=some (.tup [kV k,v])
abbrev rm:Uh V->Hp->VK->Prop:=λxs H Q=>∃p ys ps,xs=[.ref p]/\H p=some (.lst ys)/\Sg H ys ps/\∀d,H d=none->Q (.ref d) (upd H d (.dK (iR [] ps)))
theorem qy{P:Program}{w:World}{h:Heap}:∀{ps:Uh (Key×V)} {items:Uh Value},items.length=ps.length->
  (∀(i:Nat) (k:Key) (v:V),ps[i]?=some (k,v)->∃a u x,items[i]?=some (.ref a)/\h.IsTuple a #[u,x]/\(bY P w).is k u=true/\RelV v x)->∃rs,KV ps rs/\DOf.A2 (bY P w) h items rs
 |[],[],_,_=>⟨[],.nil,rfl,λj k v e=>by simp at e⟩
 |[],_::_,e,_=>by simp at e
 |_::_,[],e,_=>by simp at e
 |(k,v)::ps,it::items,e,h1=>by
  obtain⟨rs,r1,r2,r3⟩:=qy (ps:=ps) (items:=items) (by simpa using e) λi k' v' e'=>by simpa using h1 (i+1) k' v' (by simpa using e')
  obtain⟨a,u,x,x1,x2,x3,x4⟩:=h1 0 k v rfl;refine⟨(k,x)::rs,.cons ⟨rfl,x4⟩ r1,by simp[r2],λj k' v' e'=>?_⟩
  cases j with
  |zero=>
   simp at e'
   obtain⟨rfl,rfl⟩:=e';exact⟨a,u,x1,x2,x3⟩
  |succ j=>simpa using r3 j k' v' (by simpa using e')
theorem kU{X:Cx}(hc:X.calm=true):fJ X (.type "dict") rm:=by
 intro pins s σ H xs us Q I r h;obtain⟨p,ys,ps,rfl,hH,⟨hl,hp⟩,q⟩:=h;obtain⟨u,rfl,ru⟩:=vals1 r;cases ru;obtain⟨z,its,n,rv,hn,e⟩:=I.K5 hH;have hlen:=rv.length;obtain⟨rs,k1,k2⟩:=qy (P:=X.prog) (w:=X.w) (h:=s.heap) (ps:=ps) (items:=its) (by omega) λi k v e'=>by
  obtain⟨t,e1,e2⟩:=hp i k v e';obtain⟨u,hu,ru⟩:=rv.get e1;cases ru;obtain⟨it2,rv2,p2,_⟩:=I.tuple (dU.of e2);cases rv2 with
  |cons r1 rr=>
   cases rr with
   |cons r2 rr=>
    cases rr;exact⟨t,_,_,hu,p2,vo r1,r2⟩
 have hps:rs.length=ps.length:=k1.length.symm;refine DOf.Fe (knd:=bY X.prog X.w) (I.ok.hd hc) e k2 (by omega) λh' tk hd kp=>?_;have big:=I.big;refine⟨.ref s.heap.objs.size,_,I.laid (t':=tk) (o:=.dK (iR [] ps)) kp (le_refl _) ⟨?_,?_,merged [] rs,KV.merge k1 .nil,hd⟩,rfl,q _ (I.hok.fresh (le_refl _))⟩
 ·have:=mz ps [];simp at this
  omega
 ·exact beq_eq_false_iff_ne.mpr (ne_of_gt big)
end L2
namespace KSrt
open PySem PySem.W PyProof.Rows
def run{α:Type}(c:Nat->Nat->Bool):KasT α->α
 |.ret a=>a
 |.ask i j k=>run c (k (c i j))
theorem run_bind{α β:Type}(c:Nat->Nat->Bool)(f:α->KasT β):∀t:KasT α,run c (t.bind f)=run c (f (run c t))
 |.ret _=>rfl
 |.ask i j k=>run_bind c f (k (c i j))
variable{K:Nat->Uc}{n:Nat}
def ky(K:Nat->Uc)(p:Array Nat)(i:Nat):Uc:=K (p.getD i 0)
def cm(K:Nat->Uc)(i j:Nat):Bool:=decide (K i<K j)
structure Df(K:Nat->Uc)(n:Nat)(p:Array Nat):Prop where
 size:p.size=n
 ne:∀i j,i<n->j<n->i≠j->ky K p i≠ky K p j
def Up(K:Nat->Uc)(p:Array Nat)(m:Nat):Prop:=∀i j,i<j->j<m->ky K p i<ky K p j
def Dn(K:Nat->Uc)(p:Array Nat)(m:Nat):Prop:=∀i j,i<j->j<m->ky K p j<ky K p i
theorem tot{a b:Uc}(h:¬a<b)(ne:a≠b):b<a:=by
 by_cases z:b<a
 ·exact z
 ·exact absurd (List.le_antisymm (List.not_lt.mp z) (List.not_lt.mp h)) ne
theorem Up.more{p:Array Nat}{m:Nat}(h:Up K p m)(hl:∀i,i<m->ky K p i<ky K p m):Up K p (m+1):=λi j hij hj=>by
 rcases eq_or_lt_of_le (Nat.le_of_lt_succ hj) with e|e
 ·subst e;exact hl i hij
 ·exact h i j hij e
theorem Up.last{p:Array Nat}{m:Nat}(hm:1<=m)(h:Up K p m)(g:ky K p (m-1)<ky K p m):Up K p (m+1):=h.more λi hi=>by
 rcases eq_or_lt_of_le (show i<=m-1 by omega) with e|e
 ·rw[e];exact g
 ·exact List.lt_trans (h i (m-1) e (by omega)) g
theorem Dn.last{p:Array Nat}{m:Nat}(hm:1<=m)(h:Dn K p m)(g:ky K p m<ky K p (m-1)):Dn K p (m+1):=λi j hij hj=>by
 rcases eq_or_lt_of_le (Nat.le_of_lt_succ hj) with e|e
 ·subst e
  rcases eq_or_lt_of_le (show i<=j-1 by omega) with e|e
  ·rw[e];exact g
  ·exact List.lt_trans g (h i (j-1) e (by omega))
 ·exact h i j hij e
theorem wN{p:Array Nat}(d:Df K n p):∀f m,1<=m->m+f<=n->Up K p m->∃r,run (cm K) (kas_asc p f m)=r/\m<=r/\r<=m+f/\Up K p r/\(r<m+f->ky K p r<ky K p (r-1))
 | 0,m,_,_,up=>⟨m,rfl,le_refl _,le_refl _,up,λh=>by omega⟩
 |f+1,m,hm,hf,up=>by
  show ∃r,run (cm K) (if cm K (p.getD m 0) (p.getD (m-1) 0)=true then .ret m else kas_asc p f (m+1))=r/\_
  by_cases h:ky K p m<ky K p (m-1)
  ·rw[if_pos (show cm K _ _=true from decide_eq_true h)];exact⟨m,rfl,le_refl _,by omega,up,λ_=>h⟩
  ·rw[if_neg (by rw[show cm K (p.getD m 0) (p.getD (m-1) 0)=false from decide_eq_false h];decide)]
   obtain⟨r,e,a1,a2,a3,a4⟩:=wN d f (m+1) (by omega) (by omega) (up.last hm (tot h (d.ne m (m-1) (by omega) (by omega) (by omega))));exact⟨r,e,by omega,by omega,a3,λz=>a4 (by omega)⟩
theorem zf{p:Array Nat}(d:Df K n p):∀f m,1<=m->m+f<=n->Dn K p m->∃r,run (cm K) (kas_desc f p m 0)=(p,r,0)/\m<=r/\r<=m+f/\Dn K p r
 | 0,m,_,_,dn=>⟨m,rfl,le_refl _,le_refl _,dn⟩
 |f+1,m,hm,hf,dn=>by
  show ∃r,run (cm K) (if cm K (p.getD m 0) (p.getD (m-1) 0)=true then(if 0>0 then kas_desc f (kas_rev p (m-(0+1)) m) (m+1) 0 else kas_desc f p (m+1) 0)
   else .ask (p.getD (m-1) 0) (p.getD m 0) λe=>if e=true then .ret (p,m,0) else kas_desc f p (m+1) (0+1))=(p,r,0)/\_
  by_cases h:ky K p m<ky K p (m-1)
  ·rw[if_pos (show cm K _ _=true from decide_eq_true h),if_neg (by omega)];obtain⟨r,e,a1,a2,a3⟩:=zf d f (m+1) (by omega) (by omega) (dn.last hm h);exact⟨r,e,by omega,by omega,a3⟩
  ·rw[if_neg (by rw[show cm K (p.getD m 0) (p.getD (m-1) 0)=false from decide_eq_false h];decide)]
   show ∃r,run (cm K) (if cm K (p.getD (m-1) 0) (p.getD m 0)=true then .ret (p,m,0) else kas_desc f p (m+1) (0+1))=(p,r,0)/\_
   rw[if_pos (show cm K _ _=true from decide_eq_true (tot h (d.ne m (m-1) (by omega) (by omega) (by omega))))];exact⟨m,rfl,le_refl _,by omega,dn⟩
theorem iF{p q:Array Nat}{i j:Nat}(h:p[i]?=q[j]?):p.getD i 0=q.getD j 0:=by
 rw[Array.getD_eq_getD_getElem?,Array.getD_eq_getD_getElem?,h]
theorem wO{p:Array Nat}{m:Nat}(hm:m<=p.size)(k:Nat):ky K (kas_rev p 0 m) k=if k<m then ky K p (m-1-k) else ky K p k:=by
 have e:=getElem?_mirror_all (i:=0) hm k;unfold ky kas_rev
 by_cases h:k<m
 ·rw[if_pos ⟨zero_le _,h⟩] at e;rw[if_pos h,iF e,show 0+m-1-k=m-1-k by omega]
 ·rw[if_neg (λz=>h z.2)] at e;rw[if_neg h,iF e]
theorem Df.rev{p:Array Nat}{m:Nat}(d:Df K n p)(hm:m<=n):Df K n (kas_rev p 0 m) where
 size:=by unfold kas_rev;rw[mirror_size,d.size]
 ne:=λi j hi hj hij=>by
  rw[wO (by rw[d.size];exact hm),wO (by rw[d.size];exact hm)];split<;>split<;>exact d.ne _ _ (by omega) (by omega) (by omega)
theorem Dn.rev{p:Array Nat}{m:Nat}(hm:m<=p.size)(h:Dn K p m):Up K (kas_rev p 0 m) m:=λi j hij hj=>by
 rw[wO hm,wO hm,if_pos (by omega),if_pos hj];exact h _ _ (by omega) (by omega)
theorem Ff{p:Array Nat}(d:Df K n p)(hn:2<=n):∃r q,run (cm K) (kas_count n p)=(r,q)/\1<=r/\r<=n/\Df K n q/\Up K q r/\q.Perm p:=by
 unfold kas_count;rw[run_bind];obtain⟨r,e,a1,a2,a3,a4⟩:=wN d (n-1) 1 (le_refl _) (by omega) (λi j h1 h2=>by omega);rw[e]
 by_cases h:r=n
 ·rw[if_pos (by simpa using h)];exact⟨r,p,rfl,a1,by omega,d,a3,Array.Perm.refl _⟩
 ·rw[if_neg (by simpa using h)]
  by_cases h1:r>1
  ·rw[if_pos h1];show ∃r' q,run (cm K) (if cm K (p.getD 0 0) (p.getD (r-1) 0)=true then .ret (r,p) else kas_descPart r n (kas_rev p 0 r))=(r',q)/\_
   rw[if_pos (show cm K _ _=true from decide_eq_true (a3 0 (r-1) (by omega) (by omega)))];exact⟨r,p,rfl,a1,by omega,d,a3,Array.Perm.refl _⟩
  ·rw[if_neg h1];have er:r=1:=by omega
   subst er;unfold kas_descPart;rw[run_bind];obtain⟨m,e2,b1,b2,b3⟩:=zf d (n-(1+1)) (1+1) (by omega) (by omega) (λi j h1 h2=>by
    have e1:i=0:=by omega
    have e2:j=1:=by omega
    subst e1 e2;exact a4 (by omega))
   rw[e2];show ∃r q,run (cm K) (if 0>0 then _ else kas_tail3 m n p)=(r,q)/\_;rw[if_neg (by omega)];unfold kas_tail3;rw[run_bind];have hmn:m<=n:=by omega
   obtain⟨r,e3,c1,c2,c3,_⟩:=wN (d.rev hmn) (n-m) m (by omega) (by omega) (b3.rev (by rw[d.size];exact hmn));rw[e3];exact⟨r,_,rfl,by omega,by omega,d.rev hmn,c3,mirror_perm _ _ _ _⟩
theorem pL{p:Array Nat}{k:Nat}(d:Df K n p)(hk:k<n)(up:Up K p k):∀f l r,l<=r->r<=k->r-l<=f->(∀i,i<l->ky K p i<ky K p k)->(∀i,r<=i->i<k->ky K p k<ky K p i)->
  ∃l',run (cm K) (kas_place p k f l r)=l'/\l'<=k/\(∀i,i<l'->ky K p i<ky K p k)/\∀i,l'<=i->i<k->ky K p k<ky K p i
 | 0,l,r,h1,h2,h3,h4,h5=>⟨l,rfl,by omega,h4,λi hi=>h5 i (by omega)⟩
 |f+1,l,r,h1,h2,h3,h4,h5=>by
  unfold kas_place
  by_cases h:l≥r
  ·rw[if_pos h];exact⟨l,rfl,by omega,h4,λi hi=>h5 i (by omega)⟩
  ·rw[if_neg h];show ∃l',run (cm K) (if cm K (p.getD k 0) (p.getD ((l+r)/2) 0)=true then kas_place p k f l ((l+r)/2) else kas_place p k f ((l+r)/2+1) r)=l'/\_
   by_cases z:ky K p k<ky K p ((l+r)/2)
   ·rw[if_pos (show cm K _ _=true from decide_eq_true z)];refine pL d hk up f l ((l+r)/2) (by omega) (by omega) (by omega) h4 λi hi hik=>?_
    rcases eq_or_lt_of_le hi with e|e
    ·rw[<-e];exact z
    ·exact List.lt_trans z (up _ i e hik)
   ·rw[if_neg (by rw[show cm K (p.getD k 0) (p.getD ((l+r)/2) 0)=false from decide_eq_false z];decide)]
    have g:=tot z (d.ne k ((l+r)/2) hk (by omega) (by omega));refine pL d hk up f ((l+r)/2+1) r (by omega) h2 (by omega) (λi hi=>?_) h5
    rcases eq_or_lt_of_le (Nat.le_of_lt_succ hi) with e|e
    ·rw[e];exact g
    ·exact List.lt_trans (up i _ e (by omega)) g
theorem wQ{p:Array Nat}{k l:Nat}(hk:k<p.size)(hl:l<=k)(i:Nat):ky K (bubble p k (k-l)) i=if i=l then ky K p k else if l<i/\i<=k then ky K p (i-1) else ky K p i:=by
 have e:=getElem?_bubble hk (k-l) (by omega) i;rw[show k-(k-l)=l by omega] at e
 unfold ky
 by_cases h1:i=l
 ·rw[if_pos h1] at e ⊢;rw[iF e]
 ·rw[if_neg h1] at e ⊢
  by_cases h2:l<i/\i<=k
  ·rw[if_pos h2] at e ⊢;rw[iF e]
  ·rw[if_neg h2] at e ⊢;rw[iF e]
theorem C9:∀f (p:Array Nat) k,Df K n p->k+f=n->Up K p k->∃q,run (cm K) (kas_bin f p k)=q/\Df K n q/\Up K q n/\q.Perm p
 | 0,p,k,d,hk,up=>⟨p,rfl,d,by rw[<-hk];exact up,Array.Perm.refl _⟩
 |f+1,p,k,d,hk,up=>by
  unfold kas_bin;rw[run_bind];obtain⟨l,e,a1,a2,a3⟩:=pL d (show k<n by omega) up k 0 k (zero_le _) (le_refl _) (by omega) (λi hi=>absurd hi (not_lt_zero _)) (λi h1 h2=>by omega);rw[e];have hks:k<p.size:=by rw[d.size];omega
  have d2:Df K n (bubble p k (k-l)):=⟨by rw[bubble_size,d.size],λi j hi hj hij=>by
   rw[wQ hks a1,wQ hks a1]
   repeat' split
   all_goals first|(exfalso;omega)|exact d.ne _ _ (by omega) (by omega) (by omega)⟩
  have up2:Up K (bubble p k (k-l)) (k+1):=λi j hij hj=>by
   rw[wQ hks a1,wQ hks a1]
   repeat' split
   all_goals first|(exfalso;omega)|exact a2 _ (by omega)|exact a3 _ (by omega) (by omega)|exact up _ _ (by omega) (by omega)
  obtain⟨q,e2,b1,b2,b3⟩:=C9 f (bubble p k (k-l)) (k+1) d2 (by omega) up2;exact⟨q,e2,b1,b2,b3.trans (bubble_perm _ _ _)⟩
theorem Il(hn:2<=n)(inj:∀i j,i<n->j<n->i≠j->K i≠K j):∃q,run (cm K) (kas_sort n)=q/\Up K q n/\q.Perm (List.toArray (List.range n))/\q.size=n:=by
 have gd:∀i,i<n->(List.toArray (List.range n)).getD i 0=i:=λi hi=>by simp[Array.getD,hi]
 have d:Df K n (List.toArray (List.range n)):=⟨by simp,λi j hi hj hij=>by unfold ky;rw[gd i hi,gd j hj];exact inj i j hi hj hij⟩;unfold kas_sort;rw[run_bind];obtain⟨r,q,e,a1,a2,a3,a4,a5⟩:=Ff d hn;rw[e]
 by_cases h:r<n
 ·rw[if_pos h];obtain⟨q2,e2,b1,b2,b3⟩:=C9 (n-max r 1) q (max r 1) a3 (by omega) (by rw[Nat.max_eq_left a1];exact a4);exact⟨q2,e2,b2,b3.trans a5,b1.size⟩
 ·rw[if_neg h];exact⟨q,rfl,by rw[show n=r by omega];exact a4,a5,a3.size⟩
def AR{α:Type}(P:Nat->Nat->Prop)(R:α->Prop):KasT α->Prop
 |.ret a=>R a
 |.ask i j k=>P i j/\∀b,AR P R (k b)
theorem AR.bind{α β:Type}{P:Nat->Nat->Prop}{R:α->Prop}{R':β->Prop}{f:α->KasT β}(hf:∀a,R a->AR P R' (f a)):∀{t:KasT α},AR P R t->AR P R' (t.bind f)
 |.ret a,h=>hf a h
 |.ask i j k,h=>⟨h.1,λb=>AR.bind hf (h.2 b)⟩
theorem Dc{α:Type}{P:Nat->Nat->Prop}{R:α->Prop}{c:Nat->Nat->Bool}{cmp:Nat->Nat->(Bool->Shared->Prop)->Shared->Prop}{J:Shared->Prop}(hc:∀i j C s,P i j->J s->(∀s',J s'->C (c i j) s')->cmp i j C s){Q:α->Shared->Prop}:∀(t:KasT α) (s:Shared),AR P R t->J s->(∀s',J s'->Q (run c t) s')->t.kasWp cmp Q s
 |.ret a,s,_,hs,h=>h s hs
 |.ask i j k,s,ha,hs,h=>hc i j _ s ha.1 hs λs' hs'=>Dc hc (k (c i j)) s' (ha.2 _) hs' h
def wR(n:Nat)(p:Array Nat):Prop:=∀m,p.getD m 0<n
def Pn(n i j:Nat):Prop:=i<n/\j<n
theorem wR.rev{p:Array Nat}(h:wR n p)(i j:Nat)(hj:j<=p.size):wR n (kas_rev p i j):=λm=>by
 have e:=getElem?_mirror_all (i:=i) hj m;unfold kas_rev;split at e<;>(rw[iF e];exact h _)
theorem wR.TU{p:Array Nat}(h:wR n p){k d:Nat}(hk:k<p.size)(hd:d<=k):wR n (bubble p k d):=λm=>by
 have e:=getElem?_bubble hk d hd m;split at e
 ·rw[iF e];exact h _
 ·split at e<;>(rw[iF e];exact h _)
theorem A5{p:Array Nat}(h:wR n p):∀f m,m+f<=p.size->AR (Pn n) (λr=>r<=p.size) (kas_asc p f m)
 | 0,m,hm=>hm
 |f+1,m,hm=>⟨⟨h _,h _⟩,λb=>by
  cases b with
  |true=>show AR _ _ (if true=true then _ else _);rw[if_pos rfl];exact(show m<=p.size by omega)
  |false=>show AR _ _ (if false=true then _ else _);rw[if_neg Bool.false_ne_true];exact A5 h f (m+1) (by omega)⟩
theorem rq:∀f (p:Array Nat) m q,wR n p->p.size=n->m+f<=n->AR (Pn n) (λr=>wR n r.1/\r.1.size=n/\r.2.1<=n) (kas_desc f p m q)
 | 0,p,m,q,h,hs,hm=>⟨h,hs,by simpa using hm⟩
 |f+1,p,m,q,h,hs,hm=>⟨⟨h _,h _⟩,λb=>by
  cases b with
  |true=>
   show AR _ _ (if true=true then _ else _);rw[if_pos rfl];split
   ·exact rq f _ (m+1) 0 (h.rev _ _ (by omega)) (by unfold kas_rev;rw[mirror_size,hs]) (by omega)
   ·exact rq f p (m+1) 0 h hs (by omega)
  |false=>
   show AR _ _ (if false=true then _ else _);rw[if_neg Bool.false_ne_true];refine⟨⟨h _,h _⟩,λb=>?_⟩;cases b with
   |true=>show AR _ _ (if true=true then _ else _);rw[if_pos rfl];exact⟨h,hs,show m<=n by omega⟩
   |false=>show AR _ _ (if false=true then _ else _);rw[if_neg Bool.false_ne_true];exact rq f p (m+1) (q+1) h hs (by omega)⟩
theorem Dd{p:Array Nat}{m:Nat}(h:wR n p)(hs:p.size=n)(hm:m<=n):AR (Pn n) (λr=>wR n r.2/\r.2.size=n/\r.1<=n) (kas_tail3 m n p):=by
 have h2:=h.rev 0 m (by omega);have hz:(kas_rev p 0 m).size=n:=by unfold kas_rev;rw[mirror_size,hs]
 unfold kas_tail3;refine AR.bind (R:=λr=>r<=(kas_rev p 0 m).size) (λr hr=>?_) (A5 h2 (n-m) m (by omega));exact(⟨h2,hz,by rw[<-hz];exact hr⟩:wR n (kas_rev p 0 m)/\(kas_rev p 0 m).size=n/\r<=n)
theorem qz{p:Array Nat}{m:Nat}(h:wR n p)(hs:p.size=n)(hm:m<n):AR (Pn n) (λr=>wR n r.2/\r.2.size=n/\r.1<=n) (kas_descPart m n p):=by
 unfold kas_descPart;refine AR.bind (λr hr=>?_) (rq (n-(m+1)) p (m+1) 0 h hs (by omega));split
 ·exact Dd (hr.1.rev _ _ (by omega)) (by unfold kas_rev;rw[mirror_size];exact hr.2.1) hr.2.2
 ·exact Dd hr.1 hr.2.1 hr.2.2
theorem Im{p:Array Nat}(h:wR n p)(hs:p.size=n)(hn:2<=n):AR (Pn n) (λr=>wR n r.2/\r.2.size=n/\r.1<=n) (kas_count n p):=by
 unfold kas_count;refine AR.bind (λr hr=>?_) (A5 h (n-1) 1 (by omega))
 by_cases e:r=n
 ·rw[if_pos (by simpa using e)];exact⟨h,hs,show r<=n by omega⟩
 ·rw[if_neg (by simpa using e)];have hr2:r<n:=by have:r<=p.size:=hr;omega
  split
  ·refine⟨⟨h _,h _⟩,λb=>?_⟩;cases b with
   |true=>show AR _ _ (if true=true then _ else _);rw[if_pos rfl];exact⟨h,hs,show r<=n by omega⟩
   |false=>show AR _ _ (if false=true then _ else _);rw[if_neg Bool.false_ne_true];exact qz (h.rev _ _ (by omega)) (by unfold kas_rev;rw[mirror_size,hs]) hr2
  ·exact qz h hs hr2
theorem tM{p:Array Nat}{k:Nat}(h:wR n p):∀f l r,l<=k->r<=k->AR (Pn n) (λl=>l<=k) (kas_place p k f l r)
 | 0,l,r,hl,hr=>hl
 |f+1,l,r,hl,hr=>by
  unfold kas_place;split
  ·exact hl
  ·refine⟨⟨h _,h _⟩,λb=>?_⟩;cases b with
   |true=>show AR _ _ (if true=true then _ else _);rw[if_pos rfl];exact tM h f l _ hl (by omega)
   |false=>show AR _ _ (if false=true then _ else _);rw[if_neg Bool.false_ne_true];exact tM h f _ r (by omega) hr
theorem Io:∀f (p:Array Nat) k,wR n p->p.size=n->k+f=n->AR (Pn n) (λ_=>True) (kas_bin f p k)
 | 0,p,k,_,_,_=>trivial
 |f+1,p,k,h,hs,hk=>AR.bind (λl hl=>Io f _ (k+1) (h.TU (by omega) (by omega)) (by rw[bubble_size,hs]) (by omega)) (tM h k 0 k (zero_le _) (le_refl _))
theorem LD(hn:2<=n):AR (Pn n) (λ_=>True) (kas_sort n):=by
 have h:wR n (List.toArray (List.range n)):=λm=>by
  by_cases z:m<n
  ·simp[Array.getD,z]
  ·simp[Array.getD,z];omega
 unfold kas_sort;refine AR.bind (λr hr=>?_) (Im h (by simp) hn);split
 ·rename_i z
  exact Io _ _ _ hr.1 hr.2.1 (by omega)
 ·trivial
end KSrt
namespace KSrt
open PySem PySem.W PyProof.Rows
def tx(l:Uc):Str:=⟨l.toArray⟩
theorem nJ(l:Uc):(tx l).cps.toList=l:=by simp[tx]
section
variable{prog:Program}{w:World}{A:Around}{E:Value->Shared->Prop}{s:Shared}{K U:Nat->Uc}{vs:Uh Value}
def A6(K U:Nat->Uc)(h:Heap)(vs:Uh Value):Prop:=∀i,i<vs.length->∃b o t1 t2 c,vs[i]?=some (.ref b)/\h.get? b=some o/\o.cls=.type "tuple"/\o.data=.seq #[.str (tx (K i)) t1,.str (tx (U i)) t2] c
theorem zg:∀{vs:Uh Value} {K U:Nat->Uc} {h:Heap},A6 K U h vs->∃fs,KatTups h vs fs/\fs.length=vs.length/\∀f∈fs,∃x t,f=Value.str x t
 |[],_,_,_,_=>⟨[],trivial,rfl,λf h=>(nomatch h)⟩
 |v::vs,K,U,h,t=>by
  obtain⟨b,o,t1,t2,c,e1,e2,e3,e4⟩:=t 0 (by simp);obtain⟨fs,a1,a2,a3⟩:=zg (vs:=vs) (K:=λi=>K (i+1)) (U:=λi=>U (i+1)) (h:=h) λi hi=>by simpa using t (i+1) (by simpa using hi)
  have e:v=.ref b:=by simpa using e1
  subst e;refine⟨.str (tx (K 0)) t1::fs,.cons e2 e3 e4 rfl a1,by simp[a2],λf hf=>?_⟩
  rcases mem_cons.mp hf with rfl|hf
  ·exact⟨_,_,rfl⟩
  ·exact a3 f hf
theorem ask{h3:Heap}(ht:A6 K U s.heap vs)(h64:vs.length<=100){i j:Nat}(hi:i<vs.length)(hj:j<vs.length)(hne:∀i j,i<vs.length->j<vs.length->i≠j->K i≠K j){C:Bool->Shared->Prop}(q:C (cm K i j) s):kas_ask prog w A (tuples' true) vs i j C s:=by
 obtain⟨b,o,t1,t2,c,e1,e2,e3,e4⟩:=ht i hi;obtain⟨b',o',u1,u2,c',f1,f2,f3,f4⟩:=ht j hj;unfold kas_ask;rw[show vs.getD i Value.none=.ref b by rw[getD_eq_getElem?_getD,e1];rfl,show vs.getD j Value.none=.ref b' by rw[getD_eq_getElem?_getD,f1];rfl]
 refine kat_lt e2 e4 f2 f4 ?_;refine kat_cons (SeqAt.EqAt.str_str (tx (K i)) t1 (tx (K j)) u1 _ _ _ _ ?_)
 by_cases hij:i=j
 ·subst hij;rw[show ((tx (K i))==(tx (K i)))=true from beq_self_eq_true _];refine kat_yes (kat_cons (SeqAt.EqAt.str_str (tx (U i)) t2 (tx (U i)) u2 _ _ _ _ ?_));rw[show ((tx (U i))==(tx (U i)))=true from beq_self_eq_true _];rw[show cm K i i=false from decide_eq_false (List.lt_irrefl _)] at q;exact kat_yes (kat_nil q)
 ·rw[show ((tx (K i))==(tx (K j)))=false from beq_eq_false_iff_ne.mpr λz=>hne i j hi hj hij (by rw[<-nJ (K i),z,nJ])];refine kat_no (oneLt_str ?_);rw[nJ,nJ];exact q
theorem Ip{a:Addr}{n:Nat}{P:PySem.Fin->Shared->Prop}(ho:s.heap.get? a=some (seqObj "list" vs.toArray n))(ht:A6 K U s.heap vs)(hne:∀i j,i<vs.length->j<vs.length->i≠j->K i≠K j)(h64:vs.length<64)
  (h:∀(q:Array Nat) (h':Heap) (e:Nat),q.size=vs.length->q.Perm (List.toArray (List.range vs.length))->Up K q vs.length->(∀b o,b≠a->s.heap.get? b=some o->h'.get? b=some o)->h'.get? a=some (seqObj "list" (List.toArray (q.toList.map λi=>vs.getD i Value.none)) e)->P (.done (.ret .none)) {s with heap:=h' }):
  wpAny (model prog w) A (Builtin.«list.sort» ⟨[.ref a],[]⟩) P E s:=by
 have ha:a<s.heap.objs.size:=Heap.lt_size ho;have s1:=Heap.SameBut.update s.heap a (Obj.mapSeq λ_=>(#[]:Array Value));obtain⟨e1,ho1⟩:∃e1,(s.heap.update a (Obj.mapSeq λ_=>(#[]:Array Value))).get? a=some (seqObj "list" #[] e1):=⟨_,get?_update_seq ho λ_=>#[]⟩;have keep:∀b o,b≠a->s.heap.get? b=some o->(((s.heap.update a (Obj.mapSeq λ_=>(#[]:Array Value))).push (seqObj "tuple" vs.toArray 0)).push (seqObj "list" #[] 0)).get? b=some o:=λb o hb e=>Heap.get?_push_of_some _ (Heap.get?_push_of_some _ ((s1.2 b hb).trans e));have ho6:(((s.heap.update a (Obj.mapSeq λ_=>(#[]:Array Value))).push (seqObj "tuple" vs.toArray 0)).push (seqObj "list" #[] 0)).get? a=some (seqObj "list" #[] e1):=Heap.get?_push_of_some _ (Heap.get?_push_of_some _ ho1);have ht6:A6 K U (((s.heap.update a (Obj.mapSeq λ_=>(#[]:Array Value))).push (seqObj "tuple" vs.toArray 0)).push (seqObj "list" #[] 0)) vs:=λi hi=>by
  obtain⟨b,o,t1,t2,c,x1,x2,x3,x4⟩:=ht i hi;refine⟨b,o,t1,t2,c,x1,keep b o (λz=>?_) x2,x3,x4⟩;subst z;rw[ho] at x2;cases x2;injection x3 with x3
  exact absurd x3 (by decide)
 rw[list_sort_plain];refine wpAny_bind (listItems_at ho rfl ?_);refine wpAny_bind (listUpdate_at ho rfl ?_ (by rw[size_toArray,sizeLine_eq];omega) (zero_le _));refine wpAny_bind (seqEpoch_at ho1 rfl ?_);refine wpAny_bind (wpAny_newTuple ?_ (by show vs.length<=_;rw[sizeLine_eq];omega));refine wpAny_bind (wpAny_newList ?_ (zero_le _));refine wpAny_holding ?_;show wpAny (model prog w) A _ P E {s with heap:=((s.heap.update a (Obj.mapSeq λ_=>(#[]:Array Value))).push (seqObj "tuple" vs.toArray 0)).push (seqObj "list" #[] 0)}
 generalize ((s.heap.update a (Obj.mapSeq λ_=>(#[]:Array Value))).push (seqObj "tuple" vs.toArray 0)).push (seqObj "list" #[] 0)=B at keep ho6 ht6 ⊢;dsimp only
 by_cases h2:vs.toArray.size<2
 ·rw[if_pos h2,if_pos h2];refine wpAny_bind (wpAny_pure ?_);rw[StateT.run_pure];refine wpAny_bind (wpAny_pure ?_);dsimp only;refine wpAny_bind (seqEpoch_at ho6 rfl ?_);refine wpAny_bind (listUpdate_at ho6 rfl ?_ (hsz2:=by rw[Array.size_map];show (pairsOf vs).size<=_;rw[pairsOf_size,sizeLine_eq];omega));simp only[bne_self_eq_false,false_eq_true,if_false];rw[size_toArray] at h2;have s2:=Heap.SameBut.update B a (Obj.mapSeq λ_=>(arrOf (SortSt.mk' general' (vs.toArray.zip vs.toArray) #[] 7 none)).map (·.2));obtain⟨c2,hc2⟩:∃c2,(B.update a (Obj.mapSeq λ_=>(arrOf (SortSt.mk' general' (vs.toArray.zip vs.toArray) #[] 7 none)).map (·.2))).get? a=some (seqObj "list" ((arrOf (SortSt.mk' general' (vs.toArray.zip vs.toArray) #[] 7 none)).map (·.2)) c2):=⟨_,get?_update_seq ho6 λ_=>(arrOf (SortSt.mk' general' (vs.toArray.zip vs.toArray) #[] 7 none)).map (·.2)⟩;have e1:(arrOf (SortSt.mk' general' (vs.toArray.zip vs.toArray) #[] 7 none)).map (·.2)=List.toArray ((List.toArray (List.range vs.length)).toList.map λi=>vs.getD i Value.none):=by
   apply Array.toList_inj.mp
   show ((vs.toArray.zip vs.toArray).map (·.2)).toList=_;rw[Array.toList_map,Array.toList_zip];show (vs.zip vs).map (·.2)=(List.range vs.length).map λi=>vs.getD i Value.none;apply List.ext_getElem
   ·simp
   ·intro i h1 h3;simp at h1
    simp[h1]
  exact wpAny_pure (h (List.toArray (List.range vs.length)) _ c2 (by simp) (Array.Perm.refl _) (λi j h1 h3=>by omega) (λb o hb e=>(s2.2 b hb).trans (keep b o hb e)) (hc2.trans (by rw[e1])))
 ·rw[if_neg h2,if_neg h2];rw[size_toArray] at h2;obtain⟨fs,k1,k2,k3⟩:=zg ht6;refine wpAny_bind (kat_kind (s:={s with heap:=B}) (T:=.type "str") k1 (by omega) (λf hf=>by obtain⟨x,t,rfl⟩:=k3 f hf;exact Looks.of_pure rfl) (by decide) ?_);rw[show tuples' ((Value.type "str") !=Value.type "tuple")=tuples' true from rfl];obtain⟨q,eq,q1,q2,q3⟩:=Il (K:=K) (n:=vs.length) (by omega) hne;have hk:(kas_sort vs.length).kasWp (kas_ask prog w A (tuples' true) vs) (λp s'=>p=q/\s'={s with heap:=B}) {s with heap:=B}:=
   Dc (P:=Pn vs.length) (c:=cm K) (J:=λs'=>s'={s with heap:=B}) (λi j C s' hp hs' hC=>by
    subst hs';exact ask (s:={s with heap:=B}) (h3:=B) ht6 (by omega) hp.1 hp.2 hne (hC _ rfl)) _ _ (LD (by omega)) rfl λs' hs'=>⟨eq,hs'⟩
  refine wpAny_bind (wpAny_mono (kat_run (Q:=λst' s'=>arrOf st'=q.map (kas_item (vs.toArray.zip vs.toArray))/\failedOf st'=none/\s'={s with heap:=B})
   rfl (by omega) h64 (λp' st' s' a1 a2 a3 a4=>by obtain⟨rfl,rfl⟩:=a4;exact⟨a2,a3,rfl⟩) hk) ?_ λ_ _ e=>e)
  rintro⟨⟨⟩,st'⟩ s' ⟨har,hf,rfl⟩;dsimp only;have hout:=kat_snds rfl har;have hsz:(List.toArray (q.toList.map λi=>vs.getD i Value.none)).size=vs.length:=by rw[size_toArray,length_map,Array.length_toList,q3]
  rw[hout];have s2:=Heap.SameBut.update B a (Obj.mapSeq λ_=>List.toArray (q.toList.map λi=>vs.getD i Value.none));obtain⟨c2,hc2⟩:∃c2,(B.update a (Obj.mapSeq λ_=>List.toArray (q.toList.map λi=>vs.getD i Value.none))).get? a=some (seqObj "list" (List.toArray (q.toList.map λi=>vs.getD i Value.none)) c2):=⟨_,get?_update_seq ho6 λ_=>List.toArray (q.toList.map λi=>vs.getD i Value.none)⟩;refine wpAny_bind (seqEpoch_at ho6 rfl ?_);refine wpAny_bind (listUpdate_at ho6 rfl ?_ (zero_le _) (Nat.le_trans (Nat.le_of_eq hsz) (by rw[sizeLine_eq];omega)));rw[hf];simp only[bne_self_eq_false,false_eq_true,if_false];exact wpAny_pure (h q _ c2 q3 q2 q1 (λb o hb e=>(s2.2 b hb).trans (keep b o hb e)) hc2)
theorem LF{κ:Type}[DecidableEq κ]{knd:PySem.KeyKind prog w κ}{r d:Addr}{kvs:Uh (κ×Value)}{ep:Nat}{Q:Value->Shared->Prop}(hh:A.handled=none)(hv:s.heap.IsItemsView r d)(hm:s.heap.DictAt knd d kvs ep)(h64:kvs.length<64)
  (hK:∀(i:Nat) (k:κ) (v u:Value),kvs[i]?=some (k,v)->knd.is k u=true->(∃t,u=Value.str (tx (K i)) t)/\∃t,v=Value.str (tx (U i)) t) (hne:∀i j,i<kvs.length->j<kvs.length->i≠j->K i≠K j)
  (h:∀(h1 h':Heap) (tk:Nat) (q:Array Nat) (e:Nat) (vs:Uh Value),(∀b o,s.heap.get? b=some o->h1.get? b=some o)->vs.length=kvs.length->q.size=kvs.length->q.Perm (List.toArray (List.range kvs.length))->Up K q kvs.length->A6 K U h1 vs->
   (∀b o,h1.get? b=some o->h'.get? b=some o)->h'.get? h1.objs.size=some (seqObj "list" (List.toArray (q.toList.map λi=>vs.getD i Value.none)) e)->(∀(i:Nat) (b:Addr),vs[i]?=some (Value.ref b)->s.heap.objs.size<=b)->Q (.ref h1.objs.size) {s with heap:=h',toks:=tk}):
  wpAny (model prog w) A (call (.builtin "sorted") [.ref r]) Q E s:=by
 have hn:kvs.length<=sizeLine:=by rw[sizeLine_eq];omega
 refine Calls.call_function_entry kind_sorted plain_sorted entry_sorted (args_sorted1 _) ?_;unfold Builtin.«sorted»;refine wpAny_bind (m:=checkCount "sorted" 1 1 _) (wpAny_pure ?_);refine wpAny_bind (kdx_collect (A:=A.in1) (knd:=knd) hh hv hm hn λh1 tk as hk hl hG=>?_);have hlen:(as.map Value.ref).length=kvs.length:=by rw[length_map,hl]
 refine wpAny_bind (wpAny_newList ?_ (by rw[hlen];exact hn));have ht:A6 K U h1 (as.map Value.ref):=λi hi=>by
  rw[length_map] at hi;have ea:as[i]?=some as[i]:=getElem?_eq_getElem hi;obtain⟨key,k,x,x1,x2,x3⟩:=hG.pairs i _ ea;obtain⟨⟨t1,e1⟩,t2,e2⟩:=hK i k x key x1 x2;subst e1 e2;exact⟨as[i],_,t1,t2,_,by rw[getElem?_map,ea];rfl,x3,rfl,rfl⟩
 have ho:(h1.push {cls:=.type "list",data:=.seq (as.map Value.ref).toArray}).get? h1.objs.size=some (seqObj "list" (as.map Value.ref).toArray 0):=Heap.get?_push_size _ rfl;have ht2:A6 K U (h1.push {cls:=.type "list",data:=.seq (as.map Value.ref).toArray}) (as.map Value.ref):=λi hi=>by
  obtain⟨b,o,t1,t2,c,x1,x2,x3,x4⟩:=ht i hi;exact⟨b,o,t1,t2,c,x1,Heap.get?_push_of_some _ x2,x3,x4⟩
 refine wpAny_bind (wpAny_holding (wpAny_call_entry slot_list_sort ⟨_,ho,rfl⟩ entry_list_sort (Ip (s:={s with heap:=h1.push {cls:=.type "list",data:=.seq (as.map Value.ref).toArray},toks:=tk}) (K:=K) (U:=U) ho ht2 (by rw[hlen];exact hne) (by rw[hlen];exact h64) λq h' e q1 q2 q3 kp hc=>⟨_,rfl,?_⟩) (args_list_sort _)));rw[hlen] at q1 q2 q3;refine wpAny_pure ⟨_,rfl,h h1 h' tk q e _ hk hlen q1 q2 q3 ht (λb o hb=>kp b o (ne_of_lt (Heap.lt_size hb)) (Heap.get?_push_of_some _ hb)) hc λi b hb=>?_⟩;rw[getElem?_map] at hb;obtain⟨a,ha,e⟩:=map_eq_some_iff.mp hb;cases e;exact le_of_lt (hG.above _ (mem_of_getElem? ha))
end
end KSrt
namespace L2
open PySem PySem.Spec PyProof.Rows
section
variable{X:Cx}{pins:Uh (Addr×Obj)}{σ:St}{H H':Hp}{s:Shared}{h':Heap}
theorem cI.there{P:Program}{w:World}{h:Heap}{a:Addr}{o:HO}(x:cI P w H h a o):∃ob,h.get? a=some ob:=by
 cases o with
 |lst xs=>obtain⟨_,_,_,_,e⟩:=x;exact⟨_,e⟩
 |tup xs=>obtain⟨_,_,_,_,e,_⟩:=x;exact⟨_,e⟩
 |dK kvs=>obtain⟨_,_,_,_,_,_,_,e,_⟩:=x;exact⟨_,e⟩
 |dT kvs=>obtain⟨_,_,_,_,_,_,_,e,_⟩:=x;exact⟨_,e⟩
 |set S n=>obtain⟨_,_,_,_,e,_⟩:=x;exact⟨_,e⟩
 |ins C dx fs=>obtain⟨_,_,_,e,_⟩:=x;exact⟨_,e⟩
 |own y=>obtain⟨_,e⟩:=x;exact⟨_,e⟩
 |xd fs=>obtain⟨_,⟨_,_,_,e,_⟩,_⟩:=x;exact⟨_,e⟩
 |met f y=>exact⟨_,x⟩
 |rng lo hi=>obtain⟨_,_,_,e⟩:=x;exact⟨_,e⟩
 |frz ob u=>obtain⟨e,_⟩:=x;exact⟨_,e⟩
 |tbl ps=>exact⟨_,x⟩
 |ext φ=>obtain⟨_,e,_⟩:=x;exact e
theorem Inv.PU{t':Nat}(I:Inv X pins σ H s)(k:∀b u,s.heap.get? b=some u->h'.get? b=some u)(old:∀b o,s.heap.get? b=some o->H' b=H b)(new:∀b o,s.heap.get? b=none->H' b=some o->cI X.prog X.w H' h' b o):
  Inv X pins σ H' {s with heap:=h',toks:=t' }:=by
 have J:=I.kept (t':=t') k;have sm:∀{b:Addr} {o:HO},H b=some o->H' b=some o:=λ{b o} e=>by
  obtain⟨ob,q⟩:=(I.hok b o e).there;exact(old b ob q).trans e
 refine⟨J.ok,J.os,J.bare,⟨J.base.keep,J.base.slot,λb ob e n hx=>?_,J.base.there,λb xs e=>sm (J.base.tups b xs e),λb ob u e=>sm (J.base.frzs b ob u e),λb ps e=>?_⟩,J.loc,J.cell,?_,λx c e=>?_,λp hp=>?_,λb u e=>?_,J.len⟩
 ·obtain⟨o',q⟩:=I.base.there b ob e hx;rw[old b o' q];exact J.base.free b ob e n hx
 ·obtain⟨more,q⟩:=J.base.tbls b ps e;exact⟨more,sm q⟩
 ·obtain⟨m,⟨o,es,ep,q,_⟩,_⟩:=I.loc;rw[old _ _ q];exact I.free
 ·obtain⟨v,o,q,_⟩:=I.cell x c e;rw[old _ _ q];exact I.freeC x c e
 ·obtain⟨a,b,c⟩:=I.pin p hp;exact⟨k _ _ a,by rw[old _ _ a];exact b,c⟩
 ·cases q:s.heap.get? b with
  |some ob=>
   rw[old b ob q] at e;exact(J.hok b u e).stay (λ_ _ _ q=>q) (λc q=>sm q) λc xs q=>sm q
  |none=>exact new b u q e
def kW(v d:Addr):HO:=.ext λh=>h.IsItemsView v d
abbrev A7:V->Uh V->Hp->VK->Prop:=λx xs H Q=>∃a kvs,x=.ref a/\xs=[]/\H a=some (.dK kvs)/\∀v,H v=none->Q (.ref v) (upd H v (kW v a))
theorem zh:K3 X "dict.items" A7:=by
 intro pins s σ H x xs v us Q I rx rv h;obtain⟨a,kvs,rfl,rfl,hH,q⟩:=h;cases rx;have hus:=rv.zero;subst hus;obtain⟨z,hd,vs,rel,dd⟩:=yZ I.hok hH;refine call_meetsIn PySem.F.slot_dict_items dd.typeIs PySem.F.entry_dict_items (PySem.F.args_dict_items_1 _) (meets_dict_items (bY X.prog X.w) a hd) ⟨⟨vs,dd⟩,?_⟩;have hv:(s.heap.push {cls:=.type "dict_items",data:=.fields #[.ref a] }).IsItemsView s.heap.objs.size a:=⟨_,Heap.get?_push_size _ rfl,rfl,rfl⟩;refine⟨.ref s.heap.objs.size,_,I.laid (t':=s.toks) (o:=kW s.heap.objs.size a) (λb o e=>Heap.get?_push_of_some _ e) (le_refl _) ⟨hv,⟨_,Heap.get?_push_size _ rfl⟩,λh1 h2 x k=>?_⟩,rfl,q _ (I.hok.fresh (le_refl _))⟩;obtain⟨o,e,r⟩:=x;exact⟨o,k o e,r⟩
abbrev tN:Uh V->Hp->VK->Prop:=λxs H Q=>∃v a,∃kvs:Ue,xs=[.ref v]/\H v=some (kW v a)/\H a=some (.dK (kvs.map λkv=>(Key.inr (txt kv.1),aD kv.2)))/\kvs.length<64/\(kvs.map (·.1)).Nodup/\
 ∀H' l ys (zs:Ue),aF H H'->H l=none->H' l=some (.lst ys)->zs.Perm kvs->(zs.map (·.1)).Pairwise (·<·)->ys.length=zs.length->(∀(i:Nat) kv,zs[i]?=some kv->∃t,ys[i]?=some (.ref t)/\H' t=some (.tup [aD kv.1,aD kv.2])/\H t=none)->Q (.ref l) H'
theorem KV.Si{kvs:Uh (Key×V)}{vs:Uh (Key×Value)}(r:KV kvs vs):∀{i:Nat} {k:Key} {u:Value},vs[i]?=some (k,u)->∃v,kvs[i]?=some (k,v)/\RelV v u:=by
 induction r with
 |nil=>intro i k v e;simp at e
 |@cons p q ps qs h t ih=>
  intro i k u e;cases i with
  |zero=>
   simp at e
   subst e;obtain⟨p1,p2⟩:=p;have h1:p1=k:=h.1;subst h1;exact⟨p2,rfl,h.2⟩
  |succ i=>exact ih (by simpa using e)
def adr(vs:Uh Value)(j:Nat):Addr:=match vs[j]? with|some (.ref b)=>b|_=>0
theorem nK(hc:X.calm=true):fJ X (.builtin "sorted") tN:=by
 intro pins s σ H xs us Q I r h;obtain⟨v,a,kvs,rfl,hV,hH,h64,hnd,q⟩:=h;obtain⟨u,rfl,ru⟩:=vals1 r;cases ru;obtain⟨z,hd,vs,rel,dd⟩:=yZ I.hok hH;obtain⟨ep,da⟩:=dd.dictAt;have hl:=rel.length;rw[length_map] at hl;have hv:s.heap.IsItemsView v a:=(show cI X.prog X.w H s.heap v (kW v a) from I.hok v _ hV).1;have hin:∀i j,i<vs.length->j<vs.length->i≠j->(kvs.getD i ([],[])).1≠(kvs.getD j ([],[])).1:=λi j hi hj hij e=>by
  rw[getD_eq_getElem?_getD,getD_eq_getElem?_getD,getElem?_eq_getElem (by omega),getElem?_eq_getElem (by omega)] at e;have pw:=pairwise_iff_getElem.mp hnd
  rcases lt_or_ge i j with w|w
  ·exact pw i j (by rw[length_map];omega) (by rw[length_map];omega) w (by rw[getElem_map,getElem_map];exact e)
  ·exact pw j i (by rw[length_map];omega) (by rw[length_map];omega) (by omega) (by rw[getElem_map,getElem_map];exact e.symm)
 refine KSrt.LF (K:=λi=>(kvs.getD i ([],[])).1) (U:=λi=>(kvs.getD i ([],[])).2) (I.ok.hd hc) hv da (by omega) (λi k v u e hk=>?_) hin λh1 h' tk p e ws k1 l1 p1 p2 p3 tp k2 hg ab=>?_
 ·obtain⟨v',e1,rv⟩:=rel.Si e;rw[getElem?_map] at e1;obtain⟨kv,e2,e3⟩:=map_eq_some_iff.mp e1;cases e3;rw[getD_eq_getElem?_getD,e2];exact⟨C7 hk,rv⟩
 ·have tb:∀j,j<ws.length->∃o t1 t2 c,ws[j]?=some (.ref (adr ws j))/\h1.get? (adr ws j)=some o/\o.cls=.type "tuple"/\o.data=.seq #[.str (txt (kvs.getD j ([],[])).1) t1,.str (txt (kvs.getD j ([],[])).2) t2] c:=λj hj=>by
   obtain⟨b,o,t1,t2,c,x1,x2,x3,x4⟩:=tp j hj;have eb:adr ws j=b:=by unfold adr;rw[x1]
   exact⟨o,t1,t2,c,by rw[eb];exact x1,by rw[eb];exact x2,x3,x4⟩
  have one:∀i j,i<ws.length->j<ws.length->adr ws i=adr ws j->i=j:=λi j hi hj e=>by
   obtain⟨o,t1,t2,c,x1,x2,x3,x4⟩:=tb i hi;obtain⟨o',u1,u2,c',y1,y2,y3,y4⟩:=tb j hj;rw[e,y2] at x2;cases x2;rw[x4] at y4
   by_cases hij:i=j
   ·exact hij
   ·refine absurd ?_ (hin i j (by omega) (by omega) hij);injection y4 with y4 _
    have y5:=congrArg (λa:Array Value=>a[0]?) y4;simp at y5
    exact dN.mp y5.1
  have lows:∀j,j<ws.length->s.heap.objs.size<=adr ws j/\adr ws j<h1.objs.size:=λj hj=>by
   obtain⟨o,t1,t2,c,x1,x2,x3,x4⟩:=tb j hj;exact⟨ab j _ x1,Heap.lt_size x2⟩
  have hpl:p.toList.Perm (List.range vs.length):=by simpa using p2.toList
  have plt:∀i∈p.toList,i<vs.length:=λi hi=>mem_range.mp (hpl.mem_iff.mp hi)
  let KU:=λj=>kvs.getD j ([],[])
  let ys:=p.toList.map λi=>V.ref (adr ws i)
  let Hn:Hp:=λb=>if (s.heap.get? b).isSome=true then H b else if b=h1.objs.size then some (.lst ys) else((List.range ws.length).find? λj=>decide (adr ws j=b)).map λj=>.tup [aD (KU j).1,aD (KU j).2]
  have nbl:s.heap.get? h1.objs.size=none:=by
   cases w:s.heap.get? h1.objs.size with
   |none=>rfl
   |some o=>exact absurd (Heap.lt_size (k1 _ _ w)) (Nat.lt_irrefl _)
  have nad:∀j,j<ws.length->s.heap.get? (adr ws j)=none:=λj hj=>Heap.get?_none_of_le (lows j hj).1;have hHl:Hn h1.objs.size=some (.lst ys):=by
   show (if (s.heap.get? h1.objs.size).isSome=true then _ else _)=_;rw[nbl,if_neg (by decide),if_pos rfl]
  have hHt:∀j,j<ws.length->Hn (adr ws j)=some (.tup [aD (KU j).1,aD (KU j).2]):=λj hj=>by
   show (if (s.heap.get? (adr ws j)).isSome=true then _ else _)=_
   rw[nad j hj,if_neg (by decide),if_neg (ne_of_lt (lows j hj).2)];cases w:(List.range ws.length).find? λi=>decide (adr ws i=adr ws j) with
   |none=>
    have:=List.find?_eq_none.mp w j (mem_range.mpr hj);simp at this
   |some i=>
    have h1':=List.find?_some w;have h2':=mem_range.mp (List.mem_of_find?_eq_some w);have:=one i j h2' hj (of_decide_eq_true h1');subst this;rfl
  have nH:∀b,s.heap.get? b=none->H b=none:=λb w=>by
   cases w2:H b with
   |none=>rfl
   |some u=>obtain⟨ob,w3⟩:=(I.hok b u w2).there;rw[w] at w3;cases w3
  have fin:Inv X pins σ Hn {s with heap:=h',toks:=tk}:=by
   refine I.PU (λb o e=>k2 b o (k1 b o e)) (λb o e=>?_) λb o e w=>?_
   ·show (if (s.heap.get? b).isSome=true then _ else _)=_;rw[e,if_pos (show (some o).isSome=true from rfl)]
   ·have w':(if (s.heap.get? b).isSome=true then H b else if b=h1.objs.size then some (.lst ys) else((List.range ws.length).find? λj=>decide (adr ws j=b)).map λj=>.tup [aD (KU j).1,aD (KU j).2])=some o:=w
    rw[e,if_neg (by decide)] at w'
    by_cases z1:b=h1.objs.size
    ·rw[if_pos z1] at w';cases w';subst z1;refine⟨?_,p.toList.map λi=>ws.getD i Value.none,_,?_,by simpa [seqObj] using hg⟩
     ·show (p.toList.map _).length<=_;rw[length_map,Array.length_toList,p1,sizeLine_eq];omega
     ·have gen:∀l:Uc,(∀i∈l,i<vs.length)->Vals (l.map λi=>V.ref (adr ws i)) (l.map λi=>ws.getD i Value.none):=λl=>by
       induction l with
       |nil=>intro _;exact .nil
       |cons i l ih=>
        intro hl';refine .cons ?_ (ih λj hj=>hl' j (mem_cons_of_mem _ hj));obtain⟨o,t1,t2,c,x1,_⟩:=tb i (by rw[l1];exact hl' i mem_cons_self);show ws.getD i Value.none=Value.ref (adr ws i);rw[getD_eq_getElem?_getD,x1];rfl
      exact gen p.toList plt
    ·rw[if_neg z1] at w';obtain⟨j,w3,w4⟩:=map_eq_some_iff.mp w';have h1':adr ws j=b:=by have:=List.find?_some w3;simpa using this
     have h2':=mem_range.mp (List.mem_of_find?_eq_some w3);subst h1';cases w4;obtain⟨ob,t1,t2,c,x1,x2,x3,x4⟩:=tb j h2';exact⟨show 2<=sizeLine by decide,[.str (txt (KU j).1) t1,.str (txt (KU j).2) t2],.cons ⟨t1,rfl⟩ (.cons ⟨t2,rfl⟩ .nil),ob,k2 _ _ x2,x3,c,x4⟩
  have hzp:(p.toList.map KU).Perm kvs:=by
   have e2:(List.range vs.length).map KU=kvs:=by
    apply List.ext_getElem
    ·rw[length_map,length_range,hl]
    ·intro i h1' h2';rw[getElem_map,List.getElem_range];show kvs.getD i ([],[])=_;rw[getD_eq_getElem?_getD,getElem?_eq_getElem h2'];rfl
   rw[<-e2];exact hpl.map KU
  refine⟨.ref h1.objs.size,Hn,fin,rfl,q Hn h1.objs.size ys (p.toList.map KU) (λb o e=>?_) (nH _ nbl) hHl hzp ?_ (by show (p.toList.map _).length=_;rw[length_map,length_map]) λi kv e=>?_⟩
  ·obtain⟨ob,w3⟩:=(I.hok b o e).there;show (if (s.heap.get? b).isSome=true then _ else _)=_;rw[w3,if_pos (show (some ob).isSome=true from rfl)];exact e
  ·rw[map_map,pairwise_map,pairwise_iff_getElem];intro i j hi hj hij;rw[Array.length_toList,p1] at hi hj;have:=p3 i j hij hj;unfold KSrt.ky at this;rw[show p.getD i 0=p.toList[i]'(by rw[Array.length_toList,p1];exact hi) by simp[Array.getD,p1,hi],show p.getD j 0=p.toList[j]'(by rw[Array.length_toList,p1];exact hj) by simp[Array.getD,p1,hj]] at this
   exact this
  ·rw[getElem?_map] at e;obtain⟨j,e1,rfl⟩:=map_eq_some_iff.mp e;have hj:j<ws.length:=by rw[l1];exact plt j (mem_of_getElem? e1)
   exact⟨adr ws j,by show (p.toList.map _)[i]?=_;rw[getElem?_map,e1];rfl,hHt j hj,nH _ (nad j hj)⟩
end
structure Fx(K:W.Frag)(mg:Str->Option Value)(n:Str)(st:Stmt)(ps:Uh Str)(x:Addr×FuncData):Prop where
 g:mg n=some (.ref x.1)
 F:CO K n n st x.1 x.2
 b:Binds K x.2 ps []
structure Mx(K:W.Frag)(C:Addr)(n q:Str)(st:Stmt)(ps:Uh Str)(x:Addr×FuncData):Prop where
 M:Meth K C n x.1
 F:CO K n q st x.1 x.2
 b:Binds K x.2 ps []
def Lk(K:W.Frag)(n q:Str)(st:Stmt)(f:Addr):Prop:=∃(oc:Value) (od:Option Addr) (sl:Array (Option Value)) (kV dc pm:Value) (an:Option Addr) (cd ct:Value),K.lookup f=some ⟨oc,od,.func (W.fnOf n q (iB st) (fB st) (aB st) .none kV dc pm an cd ct),sl⟩/\W.codeIn K cd q=true/\W.keepIn K (.ref f)=true
def Fq(K:W.Frag)(n:Str)(st:Stmt):Prop:=∃f,W.nsIn K mainGlobals n=some (some (.ref f))/\Lk K n n st f
def Mq(K:W.Frag)(C:Addr)(n q:Str)(st:Stmt):Prop:=∃f,W.findIn K (.ref C) n=some (some (.ref f))/\W.isFn K (.ref f)=true/\Lk K n q st f
def Bd(n q:Str)(st:Stmt)(ps:Uh Str):Prop:=∀(kV doc pm:Value) (an:Option Addr) (cdv ct:Value) (us:Uh Value),us.length=ps.length->bindArgs (W.fnOf n q (iB st) (fB st) (aB st) .none kV doc pm an cdv ct) ⟨us,[]⟩=pure (ps.zip us)
section
variable{K:W.Frag}{mg:Str->Option Value}{n q:Str}{st:Stmt}{ps:Uh Str}{C:Addr}
theorem Lk.fx{f:Addr}(p:Lk K n q st f)(hb:Bd n q st ps):∃fd,CO K n q st f fd/\Binds K fd ps []:=by
 obtain⟨_,_,_,_,_,_,_,_,_,l,c,k⟩:=p;have F:=Nu l c k;exact⟨_,F,F.binds hb⟩
theorem Fq.fx{h:Heap}(p:Fq K n st)(X:K.In h)(G:h.Ns mainGlobals mg)(hb:Bd n n st ps):∃x,Fx K mg n st ps x:=by
 obtain⟨f,a,l⟩:=p;obtain⟨fd,F,b⟩:=l.fx hb;exact⟨(f,fd),W.mg_of X G a,F,b⟩
theorem Mq.fx(p:Mq K C n q st)(hb:Bd n q st ps):∃x,Mx K C n q st ps x:=by
 obtain⟨f,a,i,l⟩:=p;obtain⟨fd,F,b⟩:=l.fx hb;exact⟨(f,fd),⟨a,i,F.kp⟩,F,b⟩
end
theorem Tt{P:Uh Value->Prop}(h:P []):∀us,us.length=0->P us:=λus hl=>by rw[length_eq_zero_iff.mp hl];exact h
theorem Tu{P:Uh Value->Prop}{n:Nat}(h:∀a us,us.length=n->P (a::us)):∀us,us.length=n+1->P us:=λus hl=>by
 cases us with
 |nil=>cases hl
 |cons a us=>exact h a us (Nat.succ.inj hl)
abbrev Xc(K:W.Frag)(c:Addr):Prop:=W.excIn K c [.type "ValueError",.type "Exception",.type "BaseException",.type "object"] "ValueError.__new__" =true
abbrev Fx.Ok{K:W.Frag}{mg:Str->Option Value}{n:Str}{st:Stmt}{ps:Uh Str}{x:Addr×FuncData}(_:Fx K mg n st ps x)(P:Program)(w:World)(base:Heap)(CX:Ab)(k:Nat)(sp:Sp):Prop:=jg P w K mg base CX k x.1 x.2 ps sp
abbrev Mx.Ok{K:W.Frag}{C:Addr}{n q:Str}{st:Stmt}{ps:Uh Str}{x:Addr×FuncData}(_:Mx K C n q st ps x)(mg:Str->Option Value)(P:Program)(w:World)(base:Heap)(CX:Ab)(k:Nat)(sp:Sp):Prop:=jg P w K mg base CX k x.1 x.2 ps sp
theorem CO.bt{K:W.Frag}{n q p:Str}{st:Stmt}{f:Addr}{fd:FuncData}(F:CO K n q st f fd)(hb:Bd n q st [p])(s:Shared)(v:Value):BindsTo s fd ⟨[v],[]⟩ [(p,v)]:=by
 obtain⟨_,_,_,_,_,_,_,_,_,rfl,_,_⟩:=F.ex;exact .of_eq (hb _ _ _ _ _ _ [v] rfl)
section
variable{K:W.Frag}{n q:Str}{st:Stmt}{C f:Addr}{oc:Value}{od:Option Addr}{sl:Array (Option Value)}{kV dc pm:Value}{an:Option Addr}{cd ct:Value}
theorem bO(a:W.nsIn K mainGlobals n=some (some (.ref f)))(l:K.lookup f=some ⟨oc,od,.func (W.fnOf n n (iB st) (fB st) (aB st) .none kV dc pm an cd ct),sl⟩)(c:W.codeIn K cd n=true)(k:W.keepIn K (.ref f)=true):Fq K n st:=⟨f,a,oc,od,sl,kV,dc,pm,an,cd,ct,l,c,k⟩
theorem mC(a:W.findIn K (.ref C) n=some (some (.ref f)))(i:W.isFn K (.ref f)=true)(l:K.lookup f=some ⟨oc,od,.func (W.fnOf n q (iB st) (fB st) (aB st) .none kV dc pm an cd ct),sl⟩)(c:W.codeIn K cd q=true)(k:W.keepIn K (.ref f)=true):Mq K C n q st:=⟨f,a,i,oc,od,sl,kV,dc,pm,an,cd,ct,l,c,k⟩
end
end L2
local macro_rules | `(tactic| nofun)=>`(tactic| simp only [L2.cU,L2.iP,L2.aI,L2.bg,L2.aG,L2.aP,L2.O4,L2.ai,L2.tC,L2.bD,L2.tB,L2.M5,L2.dP,L2.mX,L2.Af,L2.Ex,L2.uZ,L2.bG,L2.cJ,L2.cj,L2.dJ,L2.ah,L2.av,L2.Ac,L2.EJ,L2.aH,L2.oZ,L2.iL,L2.GG,L2.kJ,L2.fz,L2.uJ,L2.gc,L2.ku,L2.CD,L2.rI,L2.rU,L2.ED,L2.Nf,L2.start,L2.aY,map_cons,map_nil,length_cons,length_nil,replicate_succ,replicate_zero,cons_append,nil_append,append_nil,List.getElem?_cons_zero,List.getElem?_cons_succ,set_cons_zero,set_cons_succ,Option.some.injEq,Option.join_some,L2.V.int.injEq,L2.V.str.injEq,L2.V.bl.injEq,L2.V.ref.injEq,L2.dN,exists_eq_left',exists_eq_left,exists_and_left,and_true,true_and,decide_eq_true_eq,reduceCtorEq,decide_false,decide_true,Bool.not_false,Bool.not_true,if_true,if_false,false_eq_true,Nat.reduceAdd,Nat.reduceSub,Bool.not_eq_true',decide_eq_false_iff_not,not_true_eq_false,not_false_eq_true])
local macro_rules | `(tactic| simp? [$t,*])=>`(tactic| simp only [$t,*,L2.cU,L2.iP,L2.aI,L2.bg,L2.aG,L2.aP,L2.O4,L2.ai,L2.tC,L2.bD,L2.tB,L2.M5,L2.dP,L2.mX,L2.Af,L2.Ex,L2.uZ,L2.bG,L2.cJ,L2.cj,L2.dJ,L2.ah,L2.av,L2.Ac,L2.EJ,L2.aH,L2.oZ,L2.iL,L2.GG,L2.kJ,L2.fz,L2.uJ,L2.gc,L2.ku,L2.CD,L2.rI,L2.rU,L2.ED,L2.Nf,L2.start,L2.aY,map_cons,map_nil,length_cons,length_nil,replicate_succ,replicate_zero,cons_append,nil_append,append_nil,List.getElem?_cons_zero,List.getElem?_cons_succ,set_cons_zero,set_cons_succ,Option.some.injEq,Option.join_some,L2.V.int.injEq,L2.V.str.injEq,L2.V.bl.injEq,L2.V.ref.injEq,L2.dN,exists_eq_left',exists_eq_left,exists_and_left,and_true,true_and,decide_eq_true_eq,reduceCtorEq,decide_false,decide_true,Bool.not_false,Bool.not_true,if_true,if_false,false_eq_true,Nat.reduceAdd,Nat.reduceSub,Bool.not_eq_true',decide_eq_false_iff_not,not_true_eq_false,not_false_eq_true])
namespace L2
open PySem PySem.Spec PyProof.Rows MM
def eO(K:W.Frag):Sp:=λvs H Q _=>∃(a:Addr) (ns:Uh Int) (k m:Int),vs=[.ref a,.int k,.int m]/\aX K H a (ns.map V.int)/\ns.length<=63/\0<=k/\k<1048576/\0<m/\∀r:Int,0<=r->r<m->Q (.int r) H
variable {E:XK}{Q:VK}{xs vs ys ts:Uh V}{H H' H2:Hp}{a b it c f p C dx q d p2 pk cp p1 p3:Addr}{F fp as os:Uh Addr}{h t' i j n L ep:Nat}{x qual:Str}{N ps:Uh Str}{σ:St}{K:PySem.W.Frag}{es m:Uc}{te td:TE}{tb:TS}{lo hi:Ug}{ta:TA}{kvs zs zs' S:Ue}{ks ws ws':Ud}
def A8(K:W.Frag):TS:=
  aI (bg (M5 (bD (aP uL (dJ (cz K) (ah (ai 0) av)) (tC (.int 0)))) (aP (dQ K) (ai 0) (aP gU (ai 1) (dJ (cz K) (ah (ai 0) av)))) (tC (.int 0))) (aG 3))
   (aI (dP (mX (bD (aP uL (dJ (cz K) (ah (ai 0) av)) (tC (.int 0)))) (bD (aP ED (aP gU (aP (dQ K) (ai 0) (tC (.int 0))) (tC (.int 2))) (tC (.int 1))))) (bG (aP gU (aP gU (aP Px (ai 3) (aP bE (aP dm (tC (.int 20)) (aP nc (ai 1) (dJ (cz K) (ah (ai 0) av)))) (tC (.int 1)))) (tC (.int 1048576))) (ai 2))) (cJ))
   (aI (bg (aP bE (aP bE (aP gU (ai 3) (tC (.int 1000003))) (aP dm (aP dm (tC (.int 31)) (ai 1)) (ai 1))) (tC (.int 1))) (aG 4))
   (bG (aP gU (aP gU (aP dm (aP gU (aP dm (ai 4) (tC (.int 48271))) (tC (.int 999983))) (tC (.int 7919))) (tC (.int 524287))) (ai 2)))))
theorem zj{i k m:Int}{Q:Int->Prop}(h0:0<=k)(h1:k<1048576)(h2:0<m)(q:∀r:Int,0<=r->r<m->Q r):
  (0:Int)<1000003/\jT 31 k/\jT (31*k) k/\jT (i%1000003+31*k*k+1) 48271/\(0:Int)<999983/\jT ((i%1000003+31*k*k+1)*48271%999983) 7919/\(0:Int)<524287/\0<m/\
   Q ((i%1000003+31*k*k+1)*48271%999983*7919%524287%m):=
 ⟨by decide,jm (by decide) (by decide),iM (by omega) (by omega),iM (by decide) (by decide),by decide,iM (by decide) (by decide),by decide,h2,q _ (emod_nonneg _ (by omega)) (Int.emod_lt_of_pos _ h2)⟩
theorem Iq{i k m:Int}{x:Int}{Q:Int->Prop}(h0:0<=k)(hx:0<x)(hx2:x<=63)(h2:0<m)(q:∀r:Int,0<=r->r<m->Q r):
  KC k x/\jT 20 (k/x)/\0<=20*(k/x)+1/\(0:Int)<1048576/\0<m/\Q (i/2^(20*(k/x)+1).toNat%1048576%m):=by
 have e:0<=k/x:=Int.ediv_nonneg h0 (by omega);exact⟨cdiv hx (by omega),jm (by decide) (by decide),by omega,by decide,h2,q _ (emod_nonneg _ (by omega)) (Int.emod_lt_of_pos _ h2)⟩
theorem Fg(hN:N.length=5)(h:eO K vs H Q E):A8 K {nx:=λ_ H'=>Q .non H',rt:=Q} (L2.start N vs) H:=by
 obtain⟨a,ns,k,m,rfl,hS,hl,h0,h1,h2,q⟩:=h;unfold A8 L2.start;rw[hN];nofun;refine nq hS ⟨_,rfl,?_⟩
 by_cases hn:(0:Int)<(ns.length:Int)
 ·rw[if_pos hn];refine nq hS ⟨_,rfl,hn,Ay hS (emod_nonneg _ (by omega)) (Int.emod_lt_of_pos _ hn) λz _ _=>?_⟩;refine nq hS ⟨_,rfl,?_⟩;rw[if_pos hn];refine Ay hS (by decide) hn λz0 _ _=>⟨_,rfl,by decide,rfl,?_⟩;split
  ·refine nq hS ⟨_,rfl,?_⟩;have:=Iq (i:=z) (Q:=λr=>Q (.int r) H) h0 hn (by omega) h2 q;exact⟨this.1,this.2.1,_,rfl,this.2.2⟩
  ·exact⟨_,rfl,zj (Q:=λr=>Q (.int r) H) h0 h1 h2 q⟩
 ·rw[if_neg hn];refine nq hS ⟨_,rfl,?_⟩;rw[if_neg hn];exact zj (Q:=λr=>Q (.int r) H) h0 h1 h2 q
def pM:Sp:=λvs H Q _=>∃(K h j:Nat),vs=[.int K,.int h,.int j]/\K<=26/\0<h/\∀H',aF H H'->Q (.str (txt (bB K h j))) H'
def A9(K:W.Frag):TS:=
  bG (Ac K "str" (rJoin K) (tC (.str (txt []))) (ah (eG (CC (ah (tC (.int 1)) (ah (ai 0) av))) [2,1] (bD (aP ED (aP gU (aP kM (ai 0) (tC (.int 1))) (ai 2)) (ai 1))) (aP mK (tC (.str (txt yP))) (ai 0))) av))
theorem Fi(l:Uc):(l.map λc=>[c]).flatten=l:=by
 induction l with
 |nil=>rfl
 |cons c l ih=>rw[map_cons,List.flatten_cons,ih];rfl
theorem Ir(l:Uc):((l.map λc=>[c]).map (·.length)).sum=l.length:=by
 induction l with
 |nil=>rfl
 |cons c l ih=>simp only[map_cons,List.sum_cons,ih,length_cons,length_nil];omega
theorem Fj(hN:N.length=3)(h:pM vs H Q E):A9 K {nx:=λ_ H'=>Q .non H',rt:=Q} (L2.start N vs) H:=by
 obtain⟨n,h,j,rfl,hn,hh,q⟩:=h;unfold A9 L2.start;rw[hN];nofun;refine⟨rfl,?_⟩;refine Lg (l:=1) (j:=n) (λQ h=>⟨_,rfl,h⟩) (by decide) (by decide) (by omega) (by omega) (Nat.le_trans (show ((n:Int)-1).toNat<=100000 by omega) (by decide))
  (λi ys H'=>H'=H/\ys=((List.range i).filter (λi=>decide (i%h=j))).map (λi=>aD [98+i])) ⟨rfl,rfl⟩
  (λi ys H' _ p=>by rw[p.2,length_map];exact Nat.le_trans (length_filter_le _ _) (by rw[length_range];exact le_refl _)) ?_ ?_
 ·rintro i ys H' hi ⟨rfl,rfl⟩ R hR;nofun;have e1:(1+(i:Int)-1)%(h:Int)=((i%h:Nat):Int):=by rw[show (1+(i:Int)-1)=(i:Int) by omega];exact(Int.natCast_emod i h).symm
  rw[e1];refine⟨by omega,rfl,?_⟩;rw[range_succ,filter_append,map_append] at hR;split
  ·rename_i e
   refine sP (by omega) (by omega) (hR _ _ ⟨rfl,?_⟩);rw[show (1+(i:Int)).toNat=i+1 by omega,List.filter_cons_of_pos (by simpa using (show i%h=j by omega))]
   simp only[List.filter_nil,map_cons,map_nil];rw[show 97+(i+1)=98+i by omega];rfl
  ·rename_i e
   refine hR _ _ ⟨rfl,?_⟩;rw[List.filter_cons_of_neg (by simpa using (show ¬i%h=j by omega))];simp
 ·rintro ys H' ⟨rfl,rfl⟩ p hp;refine⟨[],p,(bB n h j).map (λc=>[c]),rfl,rfl,?_,?_,?_⟩
  ·refine .inl (.inl (Eq.trans aq (congrArg (λl=>some (HO.lst l)) ?_)));unfold bB;rw[show ((n:Int)-1).toNat=n-1 by omega,map_map,map_map]
   rfl
  ·rw[Ir,length_map];have:(bB n h j).length<=26:=by
    unfold bB;rw[length_map];exact Nat.le_trans (length_filter_le _ _) (by rw[length_range];omega)
   simp only[length_nil];omega
  ·rw[ES,Fi];exact q _ (aF.up _ hp)
def oV:Ug->V
 |none=>.non
 |some l=>.str (txt l)
def tO:Ug->Nat->Nat
 |none,_=>0
 |some l,i=>Lj l i
def dR(K:Nat):Ug->Nat->Nat
 |none,_=>0
 |some l,n=>val K l n
def Kq:Ug->Prop
 |none=>True
 |some l=>Ls 26 l/\l.length<=100000
theorem vC(K:Nat)(o:Ug):dR K o 0=0:=by cases o<;>simp[dR,val_zero]
theorem i7(K:Nat)(o:Ug)(n:Nat):dR K o (n+1)=dR K o n*K+tO o n:=by
 cases o with
 |none=>simp[dR,tO]
 |some l=>exact val_succ K l n
def zo:Sp:=λvs H Q _=>∃(o:Ug) (i:Nat),vs=[oV o,.int i]/\Kq o/\Q (.int (tO o i:Nat)) H
def Iu(K:W.Frag):TS:=
  aI (dP (Af (tB (uJ (ai 0))) (bD (aP NG (ai 1) (dJ ng (ah (ai 0) av))))) (bG (tC (.int 0))) (cJ))
   (bG (Ac K "str" wm (tC (.str (txt yP))) (ah (aP mK (ai 0) (ai 1)) av)))
theorem Iv(hN:N.length=2)(h:zo vs H Q E):Iu K {nx:=λ_ H'=>Q .non H',rt:=Q} (L2.start N vs) H:=by
 obtain⟨o,i,rfl,ho,q⟩:=h;unfold Iu L2.start;rw[hN];cases o with
 |none=>
  simp? [oV]
  exact q
 |some l=>
  obtain⟨hl,hz⟩:=ho;simp? [oV]
  refine jl hz ⟨_,rfl,?_⟩
  by_cases hi:l.length<=i
  ·rw[if_pos (by omega)];have e:tO (some l) i=0:=by simp[tO,Lj,getElem?_eq_none hi]
   rw[e] at q;exact q
  ·rw[if_neg (by omega)];have hi':i<l.length:=by omega
   have e:tO (some l) i=l[i]-97:=by simp[tO,Lj,hi']
   have hc:=hl l[i] (getElem_mem hi');rw[e] at q;exact⟨rfl,Az hz (by omega) (by simp[hi']) (vh hc.1 hc.2 q)⟩
def nL:Sp:=λvs H Q _=>∃(L:Nat) (o:Ug) (n:Nat),vs=[.int L,oV o,.int n]/\L<=26/\Kq o/\n<=100000/\Q (.int (dR L o n:Nat)) H
def wU:TS:=
  aI (bg (tC (.int 0)) (aG 3))
   (aI (gQ (iU (ah (ai 2) av)) (aG 4) (bg (aP bE (aP dm (ai 3) (ai 0)) (aH zo [] E0 (ah (ai 1) (ah (ai 4) av)))) (aG 3)))
   (bG (ai 3)))
theorem Ba(hN:N.length=5)(h:nL vs H Q E):wU {nx:=λ_ H'=>Q .non H',rt:=Q} (L2.start N vs) H:=by
 obtain⟨L,o,n,rfl,hL,ho,hn,q⟩:=h;unfold wU L2.start;rw[hN];nofun;refine kN (j:=n) (λQ h=>⟨_,rfl,h⟩) (by omega) (by omega) (λi σ H'=>H'=H/\∃v4,σ=[some (.int L),some (oV o),some (.int n),some (.int (dR L o i:Nat)),v4]) ⟨rfl,_,by rw[vC];rfl⟩ ?_ ?_
 ·rintro i σ H1 hi ⟨rfl,v4,rfl⟩;nofun;refine⟨iM (by omega) (by omega),o,i,rfl,ho,?_⟩;nofun;exact⟨some (.int i),by rw[i7,natCast_add,natCast_mul]⟩
 ·rintro σ H1 ⟨rfl,v4,rfl⟩;nofun;rw[toNat_natCast];exact q
def nM:Sp:=λvs H Q _=>∃(L r n:Nat),vs=[.int L,.int r,.int n]/\0<L/\L<=26/\n<=100000/\Q (.str (txt (mk L r n))) H
def tP(K:W.Frag):TS:=
  aI (bg (tC (.str (txt []))) (aG 3))
   (aI (bg (ai 1) (aG 4))
   (aI (gQ (iU (ah (ai 2) av)) (aG 5) (aI (bg (aP G0 (aP mK (tC (.str (txt yP))) (aP gU (ai 4) (ai 0))) (ai 3)) (aG 3))
   (bg (aP nc (ai 4) (ai 0)) (aG 4))))
   (bG (Ac K "str" wk (ai 3) (ah (tC (.str (txt [97]))) av)))))
theorem zq(hN:N.length=6)(h:nM vs H Q E):tP K {nx:=λ_ H'=>Q .non H',rt:=Q} (L2.start N vs) H:=by
 obtain⟨L,r,n,rfl,hL0,hL,hn,q⟩:=h;unfold tP L2.start;rw[hN];nofun;refine kN (j:=n) (λQ h=>⟨_,rfl,h⟩) (by omega) (by omega) (λi σ H'=>H'=H/\∃v5,σ=[some (.int L),some (.int r),some (.int n),some (.str (txt (low L r i))),some (.int (r/L^i:Nat)),v5]) ⟨rfl,_,by rw[Nat.pow_zero,Nat.div_one];rfl⟩ ?_ ?_
 ·rintro i σ H1 hi ⟨rfl,v5,rfl⟩;have e1:((r/L^i:Nat):Int)%(L:Int)=((r/L^i%L:Nat):Int):=(Int.natCast_emod _ _).symm;have e2:((r/L^i:Nat):Int)/(L:Int)=((r/L^(i+1):Nat):Int):=by rw[pow_succ,<-Nat.div_div_eq_div_mul];exact(Int.natCast_ediv _ _).symm
  have hb:=mod_lt (r/L^i) hL0;nofun;rw[e1,e2];refine⟨by omega,sP (by omega) (by omega) (CU (by rw[low_length];simp only[length_cons,length_nil];omega) ⟨cdiv (by omega) (by omega),?_⟩)⟩
  exact⟨rfl,some (.int i),by rw[toNat_natCast];rfl⟩
 ·rintro σ H1 ⟨rfl,v5,rfl⟩;nofun;rw[toNat_natCast];exact⟨rfl,EW (by rw[low_length];exact hn) q⟩
theorem aF.set{o:HO}(s:aF H H')(hp:H p=none):aF H (upd H' p o):=λb q e=>by
 have:=s b q e;rw[aE (fc e hp)];exact this
theorem some_at{α:Type}{l:Uh α}(h:i<l.length):∃c,l[i]?=some c:=⟨l[i],getElem?_eq_getElem h⟩
def rA:Sp:=λvs H Q _=>∃(L n:Nat),vs=[.int L,.int n]/\L<=26/\n<=100000/\Q (.int (L^n:Nat)) H
def wV:TS:=
  aI (bg (tC (.int 1)) (aG 2))
   (aI (gQ (iU (ah (ai 1) av)) (aG 3) (bg (aP dm (ai 2) (ai 0)) (aG 2)))
   (bG (ai 2)))
theorem Bb(hN:N.length=4)(h:rA vs H Q E):wV {nx:=λ_ H'=>Q .non H',rt:=Q} (L2.start N vs) H:=by
 obtain⟨L,n,rfl,hL,hn,q⟩:=h;unfold wV L2.start;rw[hN];nofun;refine kN (j:=n) (λQ h=>⟨_,rfl,h⟩) (by omega) (by omega) (λi σ H'=>H'=H/\∃v3,σ=[some (.int L),some (.int n),some (.int (L^i:Nat)),v3]) ⟨rfl,_,rfl⟩ ?_ ?_
 ·rintro i σ H1 hi ⟨rfl,v3,rfl⟩;nofun;exact⟨iM (by omega) (by omega),some (.int i),by rw[pow_succ,natCast_mul]⟩
 ·rintro σ H1 ⟨rfl,v3,rfl⟩;nofun;rw[toNat_natCast];exact q
def dO(L:Nat):Ug->Nat->Nat
 |none,n=>L^n
 |some h,n=>val L h n
def wW:Sp:=λvs H Q _=>∃(L:Nat) (o:Ug) (n:Nat),vs=[.int L,oV o,.int n]/\L<=26/\Kq o/\n<=100000/\Q (.int (dO L o n:Nat)) H
def Bc:TS:=
  aI (dP (tB (uJ (ai 1))) (bG (aH rA [] E0 (ah (ai 0) (ah (ai 2) av)))) (cJ))
   (bG (aH nL [] E0 (ah (ai 0) (ah (ai 1) (ah (ai 2) av)))))
theorem Fl(hN:N.length=3)(h:wW vs H Q E):Bc {nx:=λ_ H'=>Q .non H',rt:=Q} (L2.start N vs) H:=by
 obtain⟨L,o,n,rfl,hL,ho,hn,q⟩:=h;unfold Bc L2.start;rw[hN];cases o with
 |none=>
  simp? [oV]
  exact⟨L,n,rfl,hL,hn,q⟩
 |some h=>
  simp? [oV]
  exact⟨L,some h,n,rfl,hL,ho,hn,q⟩
def nN:Sp:=λvs H Q _=>∃(L:Nat) (es:Uc) (n:Nat),vs=[.int L,.str (txt es),.int n]/\0<L/\L<=26/\es.length<=26/\∀H',aF H H'->Q (.int (ob L es n:Nat)) H'
def wX(K:W.Frag):TS:=
  aI (cU 3 (EU (ai 1)) [2,0] (bD (aP NH (ai 0) (aP mK (tC (.str (txt yP))) (aP gU (ai 1) (ai 2))))) (ai 0))
   (bG (aP bE (aP dm (aP nc (ai 2) (ai 0)) (dJ ng (ah (ai 1) av))) (dJ (cz K) (ah (ai 3) av))))
theorem Iw(a b:Nat):([a]<[b])↔a<b:=by
 rw[cons_lt_cons_iff];constructor
 ·rintro(h|⟨_,h⟩)
  ·exact h
  ·exact absurd h (List.not_lt_nil _)
 ·exact .inl
theorem Be(hN:N.length=4)(h:nN vs H Q E):wX K {nx:=λ_ H'=>Q .non H',rt:=Q} (L2.start N vs) H:=by
 obtain⟨L,es,n,rfl,hL0,hL,hes,q⟩:=h;unfold wX L2.start;rw[hN];have hm:=mod_lt n hL0;have e1:(n:Int)%(L:Int)=((n%L:Nat):Int):=(Int.natCast_emod _ _).symm;have e2:(n:Int)/(L:Int)=((n/L:Nat):Int):=(Int.natCast_ediv _ _).symm;nofun;refine G1 (l:=es) (λQ h=>⟨_,rfl,h⟩) (Nat.le_trans (show es.length<=100000 by omega) (by decide)) (λi ys H'=>H'=H/\ys=((es.take i).filter λe=>decide (e<97+n%L)).map (λc=>aD [c])) ⟨rfl,rfl⟩
  (λi ys H' _ p=>by rw[p.2,length_map];exact Nat.le_trans (length_filter_le _ _) (by rw[length_take];omega)) ?_ ?_
 ·rintro i c ys H' hc ⟨rfl,rfl⟩ R hR;nofun;rw[e1];refine⟨by omega,sP (by omega) (by omega) ⟨_,_,rfl,rfl,_,rfl,?_⟩⟩
  rw[toNat_natCast];rw[List.take_succ,hc,filter_append,map_append] at hR
  by_cases hlt:c<97+n%L
  ·rw[decide_eq_true ((Iw _ _).mpr hlt),if_pos rfl];refine hR _ _ ⟨rfl,?_⟩;show _=_++List.map _ (List.filter _ [c]);rw[List.filter_cons_of_pos (by simpa using hlt)];rfl
  ·rw[decide_eq_false (λz=>hlt ((Iw _ _).mp z)),if_neg (by decide)];refine hR _ _ ⟨rfl,?_⟩;show _=_++List.map _ (List.filter _ [c]);rw[List.filter_cons_of_neg (by simpa using hlt)];simp
 ·rintro ys H' ⟨rfl,rfl⟩ p hp;rw[e2];refine⟨cdiv (by omega) (by omega),jl (by omega) ⟨_,rfl,iM (by omega) (by omega),?_⟩⟩;refine bZ aX.here ⟨_,rfl,?_⟩;rw[length_map,take_length];have:=q _ (aF.up H' hp (o:=HO.lst ((es.filter λe=>decide (e<97+n%L)).map (λc=>aD [c]))));unfold ob MM.cnt at this;rw[natCast_add,natCast_mul] at this;exact this
def nO:Sp:=λvs H Q _=>∃(L:Nat) (es:Uc) (n:Nat),vs=[.int L,.str (txt es),.int n]/\0<L/\L<=26/\es.length<=26/\∀H',aF H H'->Q (.int (ob L es (n+1):Nat)) H'
def wY:TS:=bG (aH nN [] E0 (ah (ai 0) (ah (ai 1) (ah (aP bE (ai 2) (tC (.int 1))) av))))
theorem Bf(hN:N.length=3)(h:nO vs H Q E):wY {nx:=λ_ H'=>Q .non H',rt:=Q} (L2.start N vs) H:=by
 obtain⟨L,es,n,rfl,hL0,hL,hes,q⟩:=h;unfold wY L2.start;rw[hN];nofun;exact⟨L,es,n+1,rfl,hL0,hL,hes,q⟩
def kX:Ug->Nat->Nat->Nat
 |none,w,_=>w
 |some h,w,n=>if n<h.length then w+1 else w
def tQ(b:Bool)(o:Ug)(w n:Nat):Nat:=if b=true then kX o w n else w
def rB:Sp:=λvs H Q _=>∃(L:Nat) (es:Uc) (o:Ug) (w n:Nat) (b:Bool),vs=[.int L,.str (txt es),oV o,.int w,.int n,.bl b]/\0<L/\L<=26/\es.length<=26/\Kq o/\∀H',aF H H'->Q (.int (ob L es (tQ b o w n):Nat)) H'
def wZ:TS:=
  aI (dP (mX (tB (ai 5)) (mX (tB (gc (ai 2))) (bD (aP yQ (ai 4) (dJ ng (ah (ai 2) av)))))) (bG (aH nN [] E0 (ah (ai 0) (ah (ai 1) (ah (aP bE (ai 3) (tC (.int 1))) av))))) (cJ))
   (bG (aH nN [] E0 (ah (ai 0) (ah (ai 1) (ah (ai 3) av)))))
theorem Bg(hN:N.length=6)(h:rB vs H Q E):wZ {nx:=λ_ H'=>Q .non H',rt:=Q} (L2.start N vs) H:=by
 obtain⟨L,es,o,w,n,b,rfl,hL0,hL,hes,ho,q⟩:=h;unfold wZ L2.start;rw[hN];cases b with
 |false=>
  nofun;exact⟨L,es,w,rfl,hL0,hL,hes,q⟩
 |true=>
  cases o with
  |none=>
   simp? [oV]
   exact⟨L,es,w,rfl,hL0,hL,hes,q⟩
  |some h=>
   simp? [oV]
   refine jl ho.2 ⟨_,rfl,?_⟩;have ea:tQ true (some h) w n=if n<h.length then w+1 else w:=rfl
   rw[ea] at q
   by_cases hn:n<h.length
   ·rw[if_pos (by omega)];rw[if_pos hn] at q;exact⟨L,es,w+1,rfl,hL0,hL,hes,q⟩
   ·rw[if_neg (by omega)];rw[if_neg hn] at q;exact⟨L,es,w,rfl,hL0,hL,hes,q⟩
def iA(lo hi:Ug):Prop:=∀l h,lo=some l->hi=some h->l<h
def gK(c:Addr):Sp:=λvs H Q E=>∃lo hi:Ug,vs=[oV lo,oV hi]/\(iA lo hi->Q .non H)/\(¬iA lo hi->E (.ref c) none H)
def lN(c:Addr)(E:XK)(m:Uc):TS:=
  dP (mX (tB (gc (ai 0))) (mX (tB (gc (ai 1))) (bD (aP R5 (ai 0) (ai 1))))) (iP (.ref c) E (ah (tC (.str (txt m))) av)) (cJ)
theorem w9(hN:N.length=2)(h:gK c vs H Q E):lN c E m {nx:=λ_ H'=>Q .non H',rt:=Q} (L2.start N vs) H:=by
 obtain⟨lo,hi,rfl,q1,q2⟩:=h;unfold lN L2.start;rw[hN];cases lo with
 |none=>
  simp? [oV]
  exact q1 (λl h e=>nomatch e)
 |some l=>
  cases hi with
  |none=>
   simp? [oV]
   exact q1 (λl h _ e=>nomatch e)
  |some h=>
   simp? [oV]
   refine⟨l,h,rfl,rfl,_,rfl,?_⟩
   by_cases hl:l<h
   ·rw[decide_eq_true hl,if_neg (by decide)];exact q1 (λl' h' e1 e2=>by cases e1;cases e2;exact hl)
   ·rw[decide_eq_false hl,if_pos (by decide)];exact⟨by decide,q2 (λz=>hl (z l h rfl rfl))⟩
def zu(L:Nat)(es:Uc)(lo hi:Ug)(n:Nat):Int:=(ob L es (kX hi (dO L hi n) n):Nat)-(ob L es (dR L lo n+1):Nat)
def iG(b:Bool)(L:Nat)(es:Uc)(lo hi:Ug)(n:Nat):Int:=(ob L es (tQ b hi (dO L hi n) n):Nat)-(ob L es (dR L lo n+1):Nat)
theorem Bh(L:Nat)(es:Uc)(lo hi:Ug)(n:Nat):iG true L es lo hi n=zu L es lo hi n:=rfl
def lO:Sp:=λvs H Q _=>∃(L:Nat) (es:Uc) (lo hi:Ug) (n:Nat) (b:Bool),vs=[.int L,.str (txt es),oV lo,oV hi,.int n,.bl b]/\0<L/\L<=26/\es.length<=26/\Kq lo/\Kq hi/\n<=100000/\∀H',aF H H'->Q (.int (iG b L es lo hi n)) H'
def pN:TS:=
  aI (bg (aH nL [] E0 (ah (ai 0) (ah (ai 2) (ah (ai 4) av)))) (aG 6))
   (aI (bg (aH wW [] E0 (ah (ai 0) (ah (ai 3) (ah (ai 4) av)))) (aG 7))
   (aI (bg (aH rB [] E0 (ah (ai 0) (ah (ai 1) (ah (ai 3) (ah (ai 7) (ah (ai 4) (ah (ai 5) av))))))) (aG 8))
   (bG (aP kM (ai 8) (aH nO [] E0 (ah (ai 0) (ah (ai 1) (ah (ai 6) av))))))))
theorem xg(hN:N.length=9)(h:lO vs H Q E):pN {nx:=λ_ H'=>Q .non H',rt:=Q} (L2.start N vs) H:=by
 obtain⟨L,es,lo,hi,n,b,rfl,l0,l26,hes,olo,ohi,hn,q⟩:=h;unfold pN L2.start;rw[hN];nofun;refine⟨L,lo,n,rfl,l26,olo,hn,?_⟩;refine⟨L,hi,n,rfl,l26,ohi,hn,?_⟩;refine⟨L,_,hi,_,n,b,rfl,l0,l26,hes,ohi,λH2 s2=>?_⟩;refine⟨L,_,_,rfl,l0,l26,hes,λH3 s3=>?_⟩;nofun;exact q _ (s2.trans s3)
structure Bj(L h j:Nat)(lo hi:Ug)(n:Nat):Prop where
 l0:0<L
 l26:L<=26
 h0:0<h
 lo:Kq lo
 hi:Kq hi
 n:n<=100000
theorem i8(hL:L<=26):(bB L h j).length<=26:=by
 unfold bB;rw[length_map];exact Nat.le_trans (length_filter_le _ _) (by rw[length_range];omega)
def Bk(c:Addr):Sp:=λvs H Q E=>∃(L h j:Nat) (lo hi:Ug) (n:Nat),vs=[.int L,.int h,.int j,oV lo,oV hi,.int n]/\Bj L h j lo hi n/\(iA lo hi->∀H',aF H H'->Q (.int (zu L (bB L h j) lo hi n)) H')/\(¬iA lo hi->E (.ref c) none H)
def Bl(c:Addr)(E:XK):TS:=
  aI (cj (aH (gK c) [] E (ah (ai 3) (ah (ai 4) av))))
   (bG (aH lO [] E0 (ah (ai 0) (ah (aH pM [] E0 (ah (ai 0) (ah (ai 1) (ah (ai 2) av)))) (ah (ai 3) (ah (ai 4) (ah (ai 5) (ah (tC (.bl true)) av))))))))
theorem Fp(hN:N.length=6)(h:Bk c vs H Q E):Bl c E {nx:=λ_ H'=>Q .non H',rt:=Q} (L2.start N vs) H:=by
 obtain⟨L,h,j,lo,hi,n,rfl,R,q1,q2⟩:=h;unfold Bl L2.start;rw[hN];nofun;refine⟨lo,hi,rfl,λok=>?_,q2⟩;nofun;refine⟨L,h,j,rfl,R.l26,R.h0,λH1 s1=>?_⟩;refine⟨L,_,lo,hi,n,true,rfl,R.l0,R.l26,i8 R.l26,R.lo,R.hi,R.n,λH2 s2=>?_⟩;exact q1 ok _ (s1.trans s2)
def De(c:Addr):Sp:=λvs H Q E=>∃(L h j:Nat) (lo hi:Ug) (n k:Nat),vs=[.int L,.int h,.int j,oV lo,oV hi,.int n,.int k]/\Bj L h j lo hi n/\j<h/\h+1<=L/\
 (iA lo hi->∀H',aF H H'->Q (.str (txt (mk L (uP L (bB L h j) (ob L (bB L h j) (dR L lo n+1)+k)) n))) H')/\(¬iA lo hi->E (.ref c) none H)
def Iz(K:W.Frag)(c:Addr)(E:XK):TS:=
  aI (cj (aH (gK c) [] E (ah (ai 3) (ah (ai 4) av))))
   (aI (bg (aH pM [] E0 (ah (ai 0) (ah (ai 1) (ah (ai 2) av)))) (aG 7))
   (aI (bg (aH nL [] E0 (ah (ai 0) (ah (ai 3) (ah (ai 5) av)))) (aG 8))
   (aI (bg (aP bE (aH nO [] E0 (ah (ai 0) (ah (ai 7) (ah (ai 8) av)))) (ai 6)) (aG 9))
   (aI (bg (Ac K "str" wm (tC (.str (txt yP))) (ah (aP mK (ai 7) (aP gU (ai 9) (dJ ng (ah (ai 7) av)))) av)) (aG 10))
   (bG (aH nM [] E0 (ah (ai 0) (ah (aP bE (aP dm (aP nc (ai 9) (dJ ng (ah (ai 7) av))) (ai 0)) (ai 10)) (ah (ai 5) av)))))))))
theorem IA(hN:N.length=11)(h:De c vs H Q E):Iz K c E {nx:=λ_ H'=>Q .non H',rt:=Q} (L2.start N vs) H:=by
 obtain⟨L,h,j,lo,hi,n,k,rfl,R,hj,hh,q1,q2⟩:=h;unfold Iz L2.start;rw[hN];nofun;refine⟨lo,hi,rfl,λok=>?_,q2⟩;have q1:=q1 ok;nofun;refine⟨L,h,j,rfl,R.l26,R.h0,λH1 s1=>?_⟩;have EN:=jv hj hh;have hel:=i8 (h:=h) (j:=j) R.l26;generalize bB L h j=es at q1 EN hel ⊢;refine⟨L,lo,n,rfl,R.l26,R.lo,R.n,?_⟩;refine⟨L,_,_,rfl,R.l0,R.l26,hel,λH2 s2=>?_⟩;nofun;generalize ob L es (dR L lo n+1)=p0 at q1 ⊢;have hp:0<es.length:=length_pos_iff.mpr EN.ne;refine⟨rfl,jl (by omega) ⟨_,rfl,by omega,?_⟩⟩;have e1:((p0:Int)+(k:Int))%(es.length:Int)=(((p0+k)%es.length:Nat):Int):=by rw[<-natCast_add];exact(Int.natCast_emod _ _).symm
 have e2:((p0:Int)+(k:Int))/(es.length:Int)=(((p0+k)/es.length:Nat):Int):=by rw[<-natCast_add];exact(Int.natCast_ediv _ _).symm
 have hm:=mod_lt (p0+k) hp;obtain⟨c0,hc0⟩:=some_at hm;have hcm:=mem_of_getElem? hc0;have c1:=EN.lo c0 hcm;have c2:=EN.hi c0 hcm;have l26:=R.l26;rw[e1];refine Az (by omega) (by omega) (by rw[toNat_natCast];exact hc0) (vh (by omega) (by omega) ?_);nofun;refine jl (by omega) ⟨_,rfl,cdiv (by omega) (by omega),iM (by omega) (by omega),?_⟩;rw[e2];refine⟨L,uP L es (p0+k),n,?_,R.l0,R.l26,R.n,q1 _ (s1.trans s2)⟩;unfold uP;rw[getD_eq_getElem?_getD,hc0,natCast_add,natCast_mul];rfl
structure cu(L:Nat)(lo hi:Ug):Prop where
 mlo:∀m,lo=some m->Mark L m/\m.length<=1000
 mhi:∀m,hi=some m->Mark L m/\m.length<=1000
def c9:Ug->Nat
 |none=>0
 |some l=>l.length
structure jX(L h j:Nat):Prop where
 l2:2<=L
 l26:L<=26
 hj:j<h
 hh:h+1<=L
structure jy(b:Bool)(L:Nat)(es:Uc)(lo hi:Ug)(k n:Nat):Prop where
 pos:1<=n
 len:n<=1+c9 lo+k\/n<=1+c9 hi+k
 room:(k:Int)<=iG b L es lo hi n
 less:∀m,1<=m->m<n->iG b L es lo hi m<k
theorem jy.one{b:Bool}{k m:Nat}(A:jy b L es lo hi k n)(B:jy b L es lo hi k m):n=m:=by
 rcases lt_trichotomy n m with h|h|h
 ·have:=B.less n A.pos h;have:=A.room;omega
 ·exact h
 ·have:=A.less m B.pos h;have:=B.room;omega
theorem cu.RO(M:cu L lo hi)(hL:L<=26):Kq lo/\Kq hi:=by
 constructor
 ·cases lo with
  |none=>trivial
  |some m=>exact⟨(M.mlo m rfl).1.ls.mono hL,by have:=(M.mlo m rfl).2;omega⟩
 ·cases hi with
  |none=>trivial
  |some m=>exact⟨(M.mhi m rfl).1.ls.mono hL,by have:=(M.mhi m rfl).2;omega⟩
theorem cu.IB(M:cu L lo hi)(D:jX L h j)(hn:n<=100000):Bj L h j lo hi n:=
 ⟨by have:=D.l2;omega,D.l26,by have:=D.hj;omega,(M.RO D.l26).1,(M.RO D.l26).2,hn⟩
theorem cu.lens(M:cu L lo hi):c9 lo<=1000/\c9 hi<=1000:=by
 constructor
 ·cases lo with
  |none=>exact zero_le _
  |some m=>exact(M.mlo m rfl).2
 ·cases hi with
  |none=>exact zero_le _
  |some m=>exact(M.mhi m rfl).2
theorem jA(L:Nat)(o:Ug)(n:Nat):dO L o (n+1)=dO L o n*L+tO o n:=by
 cases o with
 |none=>show L^(n+1)=L^n*L+0;rw[pow_succ];rfl
 |some l=>exact val_succ L l n
theorem i9{o:Ug}(h:c9 o<=n):tO o n=0:=by
 cases o with
 |none=>rfl
 |some l=>show Lj l n=0;unfold Lj;rw[getElem?_eq_none h]
theorem vD(hL:0<L)(M:cu L lo hi)(ok:iA lo hi)(h1:c9 lo<=n)(h2:c9 hi<=n):dR L lo n<dO L hi n:=by
 cases lo with
 |none=>
  cases hi with
  |none=>exact Nat.pow_pos hL
  |some h=>exact rg hL n (M.mhi h rfl).1.ls (M.mhi h rfl).1.na (M.mhi h rfl).1.ne h2
 |some l=>
  cases hi with
  |none=>exact gp hL n (M.mlo l rfl).1.ls
  |some h=>exact(AF hL n (M.mlo l rfl).1.ls (M.mhi h rfl).1.ls (M.mlo l rfl).1.na (M.mhi h rfl).1.na h1 h2).mp (ok l h rfl rfl)
theorem zv(hL:2<=L)(M:cu L lo hi)(ok:iA lo hi)(h1:c9 lo<=n)(h2:c9 hi<=n):∀t,dR L lo (n+t)+(t+1)<=dO L hi (n+t)
 | 0=>vD (by omega) M ok h1 h2
 |t+1=>by
  have ih:=zv hL M ok h1 h2 t;rw[show n+(t+1)=n+t+1 by omega,i7,jA,i9 (by omega),i9 (by omega),add_zero,add_zero]
  have:=mul_le_mul_right L ih;rw[add_mul] at this;have h3:(t+1)*2<=(t+1)*L:=Nat.mul_le_mul_left _ hL;omega
theorem vE(hL:0<L)(E:MM.Ends L es)(v d:Nat):ob L es (v*L+1)+d<=ob L es ((v+d)*L):=by
 have hp:0<es.length:=length_pos_iff.mpr E.ne;obtain⟨e,he⟩:=List.exists_mem_of_ne_nil _ E.ne;have h1:=E.lo e he;have h2:=E.hi e he;have m1:(v*L+1)/L=v:=by rw[mul_comm,Nat.mul_add_div hL,Nat.div_eq_of_lt (by omega)];rfl
 have m2:(v*L+1)%L=1:=by rw[mul_comm,Nat.mul_add_mod,mod_eq_of_lt (by omega)]
 unfold ob;rw[m1,m2,Nat.mul_div_cancel _ hL,Nat.mul_mod_left,add_zero,CZ E.lo];have:MM.cnt es (97+1)=0:=by
  unfold MM.cnt;rw[length_eq_zero_iff,filter_eq_nil_iff];intro e he;have:=E.lo e he;simp only[decide_eq_true_eq];omega
 rw[this,add_mul];have:=Nat.le_mul_of_pos_right d hp;omega
theorem Ft{b:Bool}{k:Nat}(hL:2<=L)(E:MM.Ends L es)(M:cu L lo hi)(ok:iA lo hi)(h1:c9 lo<=n)(h2:c9 hi<=n):(k:Int)<=iG b L es lo hi (n+k+1):=by
 have hv:=zv hL M ok h1 h2 k;have hL0:0<L:=by omega
 have ea:tQ b hi (dO L hi (n+k+1)) (n+k+1)=dO L hi (n+k+1):=by
  cases b with
  |false=>rfl
  |true=>
   cases hi with
   |none=>rfl
   |some h=>
    show (if n+k+1<h.length then _ else _)=_;have h2:h.length<=n:=h2;rw[if_neg (by omega)]
 unfold iG;rw[ea,jA,i7,i9 (by omega),i9 (by omega),add_zero,add_zero];have b:=vE hL0 E (dR L lo (n+k)) k;have m:=ju hL0 E (mul_le_mul_right L (show dR L lo (n+k)+k<=dO L hi (n+k) by omega));omega
theorem Bm{b:Bool}(hL:2<=L)(E:MM.Ends L es)(M:cu L lo hi)(ok:iA lo hi)(h1:c9 lo<=n)(h2:c9 hi<=n):0<iG b L es lo hi (n+1):=by
 have hv:=vD (by omega) M ok h1 h2;have hL0:0<L:=by omega
 have ea:tQ b hi (dO L hi (n+1)) (n+1)=dO L hi (n+1):=by
  cases b with
  |false=>rfl
  |true=>
   cases hi with
   |none=>rfl
   |some h=>
    show (if n+1<h.length then _ else _)=_;have h2:h.length<=n:=h2;rw[if_neg (by omega)]
 unfold iG;rw[ea,jA,i7,i9 h1,i9 h2,add_zero,add_zero];have b:=vE hL0 E (dR L lo n) 1;have m:=ju hL0 E (mul_le_mul_right L (show dR L lo n+1<=dO L hi n by omega));omega
theorem jy.PV{b:Bool}(A:jy b L es lo hi 1 n)(hL:2<=L)(E:MM.Ends L es)(M:cu L lo hi)(ok:iA lo hi):n<=1+max (c9 lo) (c9 hi):=by
 rcases lt_or_ge (1+max (c9 lo) (c9 hi)) n with z|z
 ·have r:=Bm (b:=b) hL E M ok (n:=max (c9 lo) (c9 hi)) (Nat.le_max_left _ _) (Nat.le_max_right _ _);have:=A.less (max (c9 lo) (c9 hi)+1) (by omega) (by omega);omega
 ·exact z
def nP:Sp:=λvs H Q _=>∃(L:Nat) (es:Uc) (lo hi:Ug) (k:Nat) (b:Bool),vs=[.int L,.str (txt es),oV lo,oV hi,.int k,.bl b]/\2<=L/\L<=26/\es.length<=26/\MM.Ends L es/\cu L lo hi/\iA lo hi/\1<=k/\k<=10000/\∀H' n,aF H H'->jy b L es lo hi k n->Q (.int n) H'
def tR:TS:=
  aI (bg (tC (.int 0)) (aG 6))
   (aI (bg (tC (.int 0)) (aG 7))
   (aI (bg (tC (.int 0)) (aG 8))
   (aI (bg (aH wW [] E0 (ah (ai 0) (ah (ai 3) (ah (tC (.int 0)) av)))) (aG 9))
   (aI (oW (bD (aP yQ (ai 7) (ai 4))) (aI (bg (aP bE (aP dm (ai 8) (ai 0)) (aH zo [] E0 (ah (ai 2) (ah (ai 6) av)))) (aG 8))
   (aI (bg (aP bE (aP dm (ai 9) (ai 0)) (aH zo [] E0 (ah (ai 3) (ah (ai 6) av)))) (aG 9))
   (aI (bg (aP bE (ai 6) (tC (.int 1))) (aG 6))
   (aI (bg (aH rB [] E0 (ah (ai 0) (ah (ai 1) (ah (ai 3) (ah (ai 9) (ah (ai 6) (ah (ai 5) av))))))) (aG 10))
   (bg (aP kM (ai 10) (aH nO [] E0 (ah (ai 0) (ah (ai 1) (ah (ai 8) av))))) (aG 7)))))))
   (bG (ai 6))))))
theorem zw(hN:N.length=11)(h:nP vs H Q E):tR {nx:=λ_ H'=>Q .non H',rt:=Q} (L2.start N vs) H:=by
 obtain⟨L,es,lo,hi,k,b,rfl,hl2,LG,hel,EN,M,ok,hk1,hk2,q1⟩:=h;unfold tR L2.start;rw[hN];have hL0:0<L:=by omega
 obtain⟨okl,okh⟩:=M.RO LG;have hlen:=M.lens;nofun;refine⟨L,hi,0,rfl,LG,okh,by omega,?_⟩;have rl:=Ft (b:=b) (n:=max (c9 lo) (c9 hi)) (k:=k) hl2 EN M ok (Nat.le_max_left _ _) (Nat.le_max_right _ _);have mx:max (c9 lo) (c9 hi)=c9 lo\/max (c9 lo) (c9 hi)=c9 hi:=by omega
 generalize max (c9 lo) (c9 hi)=N1 at rl mx;obtain⟨N0,hN0⟩:∃N0,N0=N1+k:=⟨_,rfl⟩;rw[<-hN0] at rl;refine sQ (λm σ H'=>∃(n:Nat) (r:Int) (v10:Option V),aF H H'/\σ=[some (.int L),some (.str (txt es)),some (oV lo),some (oV hi),some (.int k),some (.bl b),some (.int n),some (.int r),some (.int (dR L lo n:Nat)),some (.int (dO L hi n:Nat)),v10]/\n<=N0+1/\m=N0+1-n/\((n=0/\r=0)\/(1<=n/\r=iG b L es lo hi n))/\∀m',1<=m'->m'<n->iG b L es lo hi m'<k) (N0+1)
  ⟨0,0,none,aF.refl _,by rw[vC];rfl,by omega,by omega,.inl ⟨rfl,rfl⟩,λm' h1 h2=>by omega⟩ ?_
 rintro m σ H2 ⟨n,r,v10,s2,rfl,hn,hm,hr,hp⟩ R hgo hstop;nofun
 by_cases hr1:r<k
 ·rw[decide_eq_true hr1];refine hgo H2 ?_;have hnN:n<=N0:=by
   by_cases z:n=N0+1
   ·subst z
    rcases hr with⟨z,_⟩|⟨_,z⟩
    ·omega
    ·omega
   ·omega
  nofun;refine⟨iM (by omega) (by omega),lo,n,rfl,okl,?_⟩;nofun;refine⟨iM (by omega) (by omega),hi,n,rfl,okh,?_⟩;nofun;have e1:((dR L lo n:Nat):Int)*(L:Int)+(tO lo n:Nat)=(dR L lo (n+1):Nat):=by rw[i7,natCast_add,natCast_mul]
  have e2:((dO L hi n:Nat):Int)*(L:Int)+(tO hi n:Nat)=(dO L hi (n+1):Nat):=by rw[jA,natCast_add,natCast_mul]
  have e3:(n:Int)+1=((n+1:Nat):Int):=rfl;rw[e1,e2,e3];refine⟨L,es,hi,_,n+1,b,rfl,hL0,LG,hel,okh,λH3 s3=>?_⟩;refine⟨L,es,_,rfl,hL0,LG,hel,λH4 s4=>?_⟩;nofun;refine⟨N0+1-(n+1),by omega,(s2.trans s3).trans s4,n+1,iG b L es lo hi (n+1),_,rfl,by omega,rfl,.inr ⟨by omega,rfl⟩,λm' h1 h2=>?_⟩
  by_cases z:m'=n
  ·subst z
   rcases hr with⟨z,_⟩|⟨_,z⟩
   ·omega
   ·omega
  ·exact hp m' h1 (by omega)
 ·rw[decide_eq_false hr1];refine hstop H2 ?_;nofun
  rcases hr with⟨z,z2⟩|⟨z,rfl⟩
  ·omega
  ·exact q1 _ n s2 ⟨z,by omega,by omega,hp⟩
def xh(c:Addr):Sp:=λvs H Q E=>∃(L h j:Nat) (lo hi:Ug) (k:Nat),vs=[.int L,.int h,.int j,oV lo,oV hi,.int k]/\jX L h j/\cu L lo hi/\1<=k/\k<=10000/\(iA lo hi->∀H' n,aF H H'->jy true L (bB L h j) lo hi k n->Q (.int n) H')/\(¬iA lo hi->E (.ref c) none H)
def xj(c:Addr)(E:XK):TS:=
  aI (cj (aH (gK c) [] E (ah (ai 3) (ah (ai 4) av))))
   (bG (aH nP [] E0 (ah (ai 0) (ah (aH pM [] E0 (ah (ai 0) (ah (ai 1) (ah (ai 2) av)))) (ah (ai 3) (ah (ai 4) (ah (ai 5) (ah (tC (.bl true)) av))))))))
theorem Bo(hN:N.length=6)(h:xh c vs H Q E):xj c E {nx:=λ_ H'=>Q .non H',rt:=Q} (L2.start N vs) H:=by
 obtain⟨L,h,j,lo,hi,k,rfl,D,M,hk1,hk2,q1,q2⟩:=h;unfold xj L2.start;rw[hN];nofun;refine⟨lo,hi,rfl,λok=>?_,q2⟩;nofun;refine⟨L,h,j,rfl,D.l26,by have:=D.hj;omega,λH1 s1=>?_⟩;exact⟨L,_,lo,hi,k,true,rfl,D.l2,D.l26,i8 D.l26,jv (K:=L) D.hj D.hh,M,ok,hk1,hk2,λH2 n s2 LN=>q1 ok _ n (s1.trans s2) LN⟩
def zx:Ug->Ug->Int->Int
 |some _,none,_=>0
 |none,some _,z=>z-1
 |_,_,z=>(z-1)/2
def Bp:Sp:=λvs H Q _=>∃(lo hi:Ug) (z:Int),vs=[oV lo,oV hi,.int z]/\Q (.int (zx lo hi z)) H
def Bq:TS:=
  aI (dP (mX (tB (uJ (ai 1))) (tB (gc (ai 0)))) (bG (tC (.int 0))) (cJ))
   (aI (dP (mX (tB (uJ (ai 0))) (tB (gc (ai 1)))) (bG (aP kM (ai 2) (tC (.int 1)))) (cJ))
   (bG (aP nc (aP kM (ai 2) (tC (.int 1))) (tC (.int 2)))))
theorem Fv(hN:N.length=3)(h:Bp vs H Q E):Bq {nx:=λ_ H'=>Q .non H',rt:=Q} (L2.start N vs) H:=by
 obtain⟨lo,hi,z,rfl,q⟩:=h;unfold Bq L2.start;rw[hN];cases lo<;>cases hi
 ·simp? [oV]
  exact⟨cdiv (by decide) (by decide),q⟩
 ·simp? [oV]
  exact q
 ·simp? [oV]
  exact q
 ·simp? [oV]
  exact⟨cdiv (by decide) (by decide),q⟩
structure Found(L:Nat)(es:Uc)(lo hi:Ug)(n w:Nat)(m:Uc):Prop where
 least:jy true L es lo hi 1 n
 eq:m=low L w n
 own:ow L es w=true
 ge:dR L lo n+1<=w
 lt:w<kX hi (dO L hi n) n
 at_:(ob L es w:Int)=(ob L es (dR L lo n+1):Int)+zx lo hi (zu L es lo hi n)
def pO(c:Addr):Sp:=λvs H Q E=>∃(L h j:Nat) (lo hi:Ug),vs=[.int L,.int h,.int j,oV lo,oV hi]/\jX L h j/\cu L lo hi/\(iA lo hi->∀H' n w m,aF H H'->Found L (bB L h j) lo hi n w m->Q (.str (txt m)) H')/\(¬iA lo hi->E (.ref c) none H)
def pP(c:Addr)(E:XK):TS:=
  aI (bg (aH (xh c) [] E (ah (ai 0) (ah (ai 1) (ah (ai 2) (ah (ai 3) (ah (ai 4) (ah (tC (.int 1)) av))))))) (aG 5))
   (aI (bg (aH (Bk c) [] E (ah (ai 0) (ah (ai 1) (ah (ai 2) (ah (ai 3) (ah (ai 4) (ah (ai 5) av))))))) (aG 6))
   (bG (aH (De c) [] E (ah (ai 0) (ah (ai 1) (ah (ai 2) (ah (ai 3) (ah (ai 4) (ah (ai 5) (ah (aH Bp [] E0 (ah (ai 3) (ah (ai 4) (ah (ai 6) av)))) av))))))))))
theorem LH(lo hi:Ug){z:Int}(h:0<z):0<=zx lo hi z/\zx lo hi z<z:=by
 cases lo<;>cases hi<;>simp only[zx]<;>omega
theorem xm(hN:N.length=7)(h:pO c vs H Q E):pP c E {nx:=λ_ H'=>Q .non H',rt:=Q} (L2.start N vs) H:=by
 obtain⟨L,h,j,lo,hi,rfl,D,M,q1,q2⟩:=h;unfold pP L2.start;rw[hN];nofun;refine⟨L,h,j,lo,hi,1,rfl,D,M,by omega,by omega,λok H1 n s1 LN=>?_,q2⟩;have hl2:=D.l2;have hL0:0<L:=by omega
 have EN:=jv (K:=L) D.hj D.hh;have hlen:=M.lens;have hn:n<=1002:=by have:=LN.len;omega
 have Rm:=M.IB (n:=n) D (by omega);refine⟨L,h,j,lo,hi,n,rfl,Rm,λ_ H2 s2=>?_,λz=>absurd ok z⟩;refine⟨lo,hi,_,rfl,?_⟩;have LNr:0<zu L (bB L h j) lo hi n:=by have:=LN.room;rw[Bh] at this;omega
 obtain⟨t0,t1⟩:=LH lo hi LNr;obtain⟨k,hk⟩:=eq_ofNat_of_zero_le t0;refine⟨L,h,j,lo,hi,n,k,by rw[hk],Rm,D.hj,D.hh,λ_ H3 s3=>?_,λz=>absurd ok z⟩;have q:=q1 ok H3 n (uP L (bB L h j) (ob L (bB L h j) (dR L lo n+1)+k)) (low L (uP L (bB L h j) (ob L (bB L h j) (dR L lo n+1)+k)) n) ((s1.trans s2).trans s3);obtain⟨n',rfl⟩:∃n',n=n'+1:=⟨n-1,by have:=LN.pos;omega⟩;rw[HS hL0 (C0 EN _)];obtain⟨o1,o2⟩:=AI hL0 EN (ob L (bB L h j) (dR L lo (n'+1)+1)+k);have hri:zu L (bB L h j) lo hi (n'+1)=(ob L (bB L h j) (kX hi (dO L hi (n'+1)) (n'+1)):Nat)-(ob L (bB L h j) (dR L lo (n'+1)+1):Nat):=rfl;obtain⟨i1,i2⟩:=HU hL0 EN (A:=dR L lo (n'+1)+1) (B:=kX hi (dO L hi (n'+1)) (n'+1)) (p:=ob L (bB L h j) (dR L lo (n'+1)+1)+k) (by omega) (by omega);exact q ⟨LN,rfl,o2,i1,i2,by rw[o1,hk];omega⟩
theorem Dg(hL:0<L)(w:Nat):ow L (bB L h j) w=true↔0<w%L/\(w%L-1)%h=j:=by
 unfold ow;rw[decide_eq_true_iff,pH];have:=mod_lt w hL;constructor
 ·rintro⟨i,h1,h2,h3⟩;have:w%L=i+1:=by omega
  rw[this];exact⟨by omega,h2⟩
 ·rintro⟨h1,h2⟩;exact⟨w%L-1,by omega,h2,by omega⟩
theorem Dh{w:Nat}(hL:0<L)(hw:w<L^(n+1))(h0:w%L≠0){l:Uc}(hl:Ls L l):l<low L w (n+1)↔val L l (n+1)+1<=w:=by
 rw[CY hL (n+1) hl (pF hL _ _) (λc hc=>by rw[nB hL] at hc;have:=Option.some.inj hc;omega) (low_length _ _ _),gZ hL,mod_eq_of_lt hw];omega
theorem IC{w:Nat}(hL:0<L)(hw:w<L^n){h:Uc}(hh:Ls L h)(na:Na h):low L w n<h↔w<kX (some h) (val L h n) n:=by
 rw[yU hL n hh (pF hL _ _) na (low_length _ _ _),gZ hL,mod_eq_of_lt hw];have e:kX (some h) (val L h n) n=if n<h.length then val L h n+1 else val L h n:=rfl
 rw[e]
 by_cases z:n<h.length
 ·rw[if_pos z];omega
 ·rw[if_neg z];omega
theorem ID(n:Nat)(hL:0<L)(M:cu L lo hi):kX hi (dO L hi n) n<=L^n:=by
 cases hi with
 |none=>exact le_refl _
 |some h=>
  have v:=gp hL n (M.mhi h rfl).1.ls;show (if n<h.length then val L h n+1 else val L h n)<=L^n;split<;>omega
theorem LI{k R:Nat}(h:k<=R):i+1<=(i+1)*(R+1)/(k+1):=by
 rw[Nat.le_div_iff_mul_le (by omega)];exact Nat.mul_le_mul_left _ (by omega)
theorem LJ{k R:Nat}(h:i<k):(i+1)*(R+1)/(k+1)<R+1:=by
 rw[Nat.div_lt_iff_lt_mul (by omega),mul_comm (R+1)];exact Nat.mul_lt_mul_of_pos_right (by omega) (by omega)
theorem Fw{k R:Nat}(h:k<=R):(i+1)*(R+1)/(k+1)+1<=(i+1+1)*(R+1)/(k+1):=by
 rw[Nat.le_div_iff_mul_le (by omega),add_mul,one_mul,add_mul (i+1) 1,one_mul];have:=Nat.div_mul_le_self ((i+1)*(R+1)) (k+1);omega
def tS:Sp:=λvs H Q _=>∃(m W:Nat),vs=[.int m,.int W]/\m<=100000/\∀p,H p=none->Q (.ref p) (upd H p (.lst ((List.range m).map λ(k:Nat)=>V.int (((k+1)*W/(m+1):Nat):Int))))
def tT:TS:=bG (eG (iU (ah (ai 0) av)) [1,0] ku (aP nc (aP dm (aP bE (ai 0) (tC (.int 1))) (ai 1)) (aP bE (ai 2) (tC (.int 1)))))
theorem zy(hN:N.length=2)(h:tS vs H Q E):tT {nx:=λ_ H'=>Q .non H',rt:=Q} (L2.start N vs) H:=by
 obtain⟨m,W,rfl,hm,q⟩:=h;unfold tT L2.start;rw[hN];nofun;refine Lh (j:=m) (λQ h=>⟨_,rfl,h⟩) (by omega) (by omega) (Nat.le_trans (show (m:Int).toNat<=100000 by omega) (by decide))
  (λi ys H'=>H'=H/\ys=(List.range i).map λ(k:Nat)=>V.int (((k+1)*W/(m+1):Nat):Int)) ⟨rfl,rfl⟩
  (λi ys H' _ p=>by rw[p.2,length_map,length_range];exact le_refl _) ?_ ?_
 ·rintro i ys H' hi ⟨rfl,rfl⟩ R hR;nofun;refine⟨jm (by omega) (by omega),cdiv (by omega) (by omega),hR _ _ ⟨rfl,?_⟩⟩;rw[range_succ,map_append,map_cons,map_nil,Int.natCast_ediv,natCast_mul];rfl
 ·rintro ys H' ⟨rfl,rfl⟩ p hp;rw[toNat_natCast];exact q p hp
structure fE(L m n:Nat):Prop where
 lt:m<L^n
 less:∀i,i<n->L^i<=m
theorem fE.le{m:Nat}(A:fE L m n)(hL:2<=L):n<=m:=by
 rcases lt_or_ge m n with h|h
 ·have h1:=A.less m h;have:=Nat.lt_pow_self (n:=m) (show 1<L by omega);omega
 ·exact h
def pQ:Sp:=λvs H Q _=>∃(L m:Nat),vs=[.int L,.int m]/\2<=L/\L<=26/\∀n,fE L m n->Q (.int n) H
def pR:TS:=
  aI (bg (tC (.int 0)) (aG 2))
   (aI (bg (tC (.int 1)) (aG 3))
   (aI (oW (bD (aP yQ (aP kM (ai 3) (tC (.int 1))) (ai 1))) (aI (bg (aP dm (ai 3) (ai 0)) (aG 3))
   (bg (aP bE (ai 2) (tC (.int 1))) (aG 2))))
   (bG (ai 2))))
theorem xo(hN:N.length=4)(h:pQ vs H Q E):pR {nx:=λ_ H'=>Q .non H',rt:=Q} (L2.start N vs) H:=by
 obtain⟨L,m,rfl,hL,fH,q⟩:=h;unfold pR L2.start;rw[hN];nofun;refine sQ (λx σ H'=>H'=H/\∃(n:Nat),σ=[some (.int L),some (.int m),some (.int n),some (.int (L^n:Nat))]/\x=m+1-n/\∀i,i<n->L^i<=m) (m+1) ⟨rfl,0,rfl,by omega,λi hi=>by omega⟩ ?_;rintro x σ H2 ⟨rfl,n,rfl,hx,hp⟩ R hgo hstop;nofun;have TV:=Nat.lt_pow_self (n:=n) (show 1<L by omega)
 by_cases h1:((L^n:Nat):Int)-1<(m:Int)
 ·rw[decide_eq_true h1];refine hgo _ ?_;nofun;refine⟨iM (by omega) (by omega),m+1-(n+1),by omega,n+1,by rw[pow_succ,natCast_mul];rfl,rfl,λi hi=>?_⟩
  by_cases e:i=n
  ·subst e;omega
  ·exact hp i (by omega)
 ·rw[decide_eq_false h1];refine hstop _ ?_;nofun;exact q n ⟨by omega,hp⟩
def qQ(L m n k:Nat):Nat:=(k+1)*L^n/(m+1)
def kY(L m n:Nat):Ud:=(List.range m).map λk=>mk L (qQ L m n k) n
theorem xq{m k:Nat}(R:fE L m n)(hk:k<m):0<qQ L m n k/\qQ L m n k<L^n:=by
 have h:=R.lt;obtain⟨r,hr⟩:∃r,L^n=r+1:=⟨L^n-1,by omega⟩;unfold qQ;rw[hr];have:=LI (i:=k) (k:=m) (R:=r) (by omega);have:=LJ (R:=r) hk;omega
theorem Fy{m k:Nat}(R:fE L m n):qQ L m n k<qQ L m n (k+1):=by
 have h:=R.lt;obtain⟨r,hr⟩:∃r,L^n=r+1:=⟨L^n-1,by omega⟩;unfold qQ;rw[hr];have:=Fw (i:=k) (k:=m) (R:=r) (by omega);omega
theorem Di{m:Nat}(R:fE L m n):∀{j:Nat},i<j->qQ L m n i<qQ L m n j
 |j+1,h=>by
  have h1:=Fy (k:=j) R
  rcases eq_or_lt_of_le (Nat.le_of_lt_succ h) with e|h2
  ·subst e;exact h1
  ·exact Nat.lt_trans (Di R h2) h1
theorem Dj{m:Nat}(hL:0<L)(R:fE L m n):(kY L m n).Pairwise (·<·):=by
 unfold kY;rw[pairwise_map];refine List.Pairwise.imp_of_mem ?_ (List.pairwise_lt_range (n:=m));intro i j hi hj hij;have hi:=mem_range.mp hi;have hj:=mem_range.mp hj;have a:=xq R hi;have b:=xq R hj;have c:=Di R hij;rw[AF hL n (Hw hL _ _) (Hw hL _ _) (Hy _ _ _) (Hy _ _ _) (AG _ _ _) (AG _ _ _),mk_val hL a.2,mk_val hL b.2];exact c
theorem zz{m:Nat}(hL:0<L)(R:fE L m n):∀x∈kY L m n,Mark L x/\x.length<=n:=λx hx=>by
 unfold kY at hx;obtain⟨k,hk,rfl⟩:=mem_map.mp hx;have a:=xq R (mem_range.mp hk);exact⟨Ll hL a.1 a.2,AG _ _ _⟩
theorem tU(L m n:Nat):(kY L m n).length=m:=by
 unfold kY;rw[length_map,length_range]
theorem IE{m k:Nat}(h:k<m):(kY L m n)[k]?=some (mk L (qQ L m n k) n):=by
 unfold kY;rw[getElem?_map,getElem?_range h];rfl
def pS:Sp:=λvs H Q _=>∃(L m:Nat),vs=[.int L,.int m]/\2<=L/\L<=26/\m<=10000/\∀H' n p,fE L m n->aF H H'->H' p=none->Q (.ref p) (upd H' p (.lst ((kY L m n).map aD)))
def pT(K:W.Frag):TS:=
  aI (bg (aH pQ [] E0 (ah (ai 0) (ah (ai 1) av))) (aG 2))
   (bG (eG (bS K (aH tS [] E0 (ah (ai 1) (ah (aH rA [] E0 (ah (ai 0) (ah (ai 2) av))) av)))) [0,2] ku (aH nM [] E0 (ah (ai 1) (ah (ai 0) (ah (ai 2) av))))))
theorem xr(hN:N.length=3)(h:pS vs H Q E):pT K {nx:=λ_ H'=>Q .non H',rt:=Q} (L2.start N vs) H:=by
 obtain⟨L,m,rfl,hL,fH,hm,q⟩:=h;unfold pT L2.start;rw[hN];nofun;refine⟨L,m,rfl,hL,fH,λn R=>?_⟩;have hn:=R.le hL;refine wF λR0 hR0=>?_;simp? [bS]
 refine⟨L,n,rfl,fH,by omega,?_⟩;refine⟨m,L^n,rfl,by omega,λp hp=>?_⟩;refine⟨_,rfl,⟨_,aX.here⟩,?_⟩;rw[hR0];refine nu (xs:=(List.range m).map λ(k:Nat)=>V.int (((k+1)*L^n/(m+1):Nat):Int)) (λi ys H'=>H'=upd H p (.lst ((List.range m).map λ(k:Nat)=>V.int (((k+1)*L^n/(m+1):Nat):Int)))/\ys=((List.range i).map λk=>mk L (qQ L m n k) n).map aD) ⟨rfl,rfl⟩
  (λi ys H' _ p=>⟨by rw[p.1];exact aX.here,by rw[p.2,length_map,length_map,length_range];exact le_refl _⟩) (by rw[length_map,length_range,sizeLine_eq];omega) ?_ ?_
 ·rintro i x ys H' hx ⟨rfl,rfl⟩ R1 hR1;rw[getElem?_map] at hx;have hik:i<m:=by
   rcases lt_or_ge i m with z|z
   ·exact z
   ·rw[getElem?_eq_none (by rw[length_range];exact z)] at hx;cases hx
  rw[getElem?_range hik] at hx;cases Option.some.inj hx;nofun;refine⟨L,qQ L m n i,n,rfl,by omega,fH,by omega,hR1 _ _ ⟨rfl,?_⟩⟩
  rw[range_succ,map_append,map_append,map_cons,map_nil,map_cons,map_nil];rfl
 ·rintro ys H' ⟨rfl,rfl⟩ p2 hp2;rw[length_map,length_range];exact q _ n p2 R (aF.up _ hp) hp2
def d9(H:Hp):Uh V->Uh (V×V)->Prop
 |[],[]=>True
 |x::xs,p::ps=>(∃t,x=.ref t/\H t=some (.tup [p.1,p.2]))/\d9 H xs ps
 |_,_=>False
theorem d9.keep(k:∀t ys,H t=some (.tup ys)->H' t=some (.tup ys)):∀{xs:Uh V} {ps:Uh (V×V)},d9 H xs ps->d9 H' xs ps
 |[],[],_=>trivial
 |[],_::_,h=>h.elim
 |_::_,[],h=>h.elim
 |_::_,_::_,⟨⟨t,e,h⟩,r⟩=>⟨⟨t,e,k t _ h⟩,d9.keep k r⟩
theorem d9.same{ps:Uh (V×V)}(h:d9 H xs ps)(s:aF H H'):d9 H' xs ps:=h.keep λt ys e=>s t _ e
theorem d9.app:∀{xs:Uh V} {ps:Uh (V×V)} {ys:Uh V} {qs:Uh (V×V)},d9 H xs ps->d9 H ys qs->d9 H (xs++ys) (ps++qs)
 |[],[],_,_,_,h=>h
 |[],_::_,_,_,h,_=>h.elim
 |_::_,[],_,_,h,_=>h.elim
 |_::_,_::_,_,_,⟨a,r⟩,h=>⟨a,d9.app r h⟩
theorem d9.len:∀{xs:Uh V} {ps:Uh (V×V)},d9 H xs ps->xs.length=ps.length
 |[],[],_=>rfl
 |[],_::_,h=>h.elim
 |_::_,[],h=>h.elim
 |_::_,_::_,⟨_,r⟩=>by rw[length_cons,length_cons,d9.len r]
theorem d9.get:∀{xs:Uh V} {ps:Uh (V×V)} {i:Nat} {x:V},d9 H xs ps->xs[i]?=some x->∃p t,ps[i]?=some p/\x=.ref t/\H t=some (.tup [p.1,p.2])
 |[],_,_,_,_,e=>by simp at e
 |_::_,[],_,_,h,_=>h.elim
 |_::_,p::_,0,_,⟨⟨t,e1,h⟩,_⟩,e=>by
  have:_=_:=Option.some.inj e;subst this;exact⟨p,t,rfl,e1,h⟩
 |_::_,_::_,i+1,_,⟨_,r⟩,e=>by
  obtain⟨p,t,a,b,c⟩:=d9.get r (i:=i) (by simpa using e);exact⟨p,t,by simpa using a,b,c⟩
def ja:V->PyData
 |.bl b=>.bool b
 |.int i=>.int i
 |.str x=>.str x
 |_=>.none
inductive Br:V->Prop where
 |non:Br .non
 |bl (b:Bool):Br (.bl b)
 |str {l:Uc} (h:PyData.strOk (txt l)=true):Br (.str (txt l))
theorem Br.dat{v:V}(h:Br v):Dat K H v (ja v):=by
 cases h with
 |non=>exact .non
 |bl b=>exact .bl b
 |str h=>exact .str _
def pairD(ps:Uh (V×V)):Uh PyData:=ps.map λp=>.tuple [ja p.1,ja p.2]
theorem d9.dat:∀{xs:Uh V} {ps:Uh (V×V)},d9 H xs ps->(∀p∈ps,Br p.1/\Br p.2)->DatAll K H xs (pairD ps)
 |[],[],_,_=>.nil
 |[],_::_,h,_=>h.elim
 |_::_,[],h,_=>h.elim
 |_::_,p::_,⟨⟨t,e,h⟩,r⟩,ok=>by
  subst e;have o:=ok p mem_cons_self;exact .cons (.tup (dU.of h) (.cons o.1.dat (.cons o.2.dat .nil))) (d9.dat r λq hq=>ok q (mem_cons_of_mem _ hq))
theorem zA{v:V}(h:Br v):PyData.canLay0 (ja v)=true/\PyData.depth (ja v)=0:=by
 cases h with
 |non=>exact⟨by simp[ja,PyData.canLay0],by simp[ja,PyData.depth]⟩
 |bl b=>exact⟨by simp[ja,PyData.canLay0],by simp[ja,PyData.depth]⟩
 |str h=>exact⟨by simp[ja,PyData.canLay0,h],by simp[ja,PyData.depth]⟩
theorem lP:∀{ps:Uh (V×V)},(∀p∈ps,Br p.1/\Br p.2)->PyData.canLayAll0 (pairD ps)=true/\PyData.depthAll (pairD ps)<=1
 |[],_=>⟨by simp[pairD,PyData.canLayAll0],by simp[pairD,PyData.depthAll]⟩
 |p::ps,ok=>by
  obtain⟨a,b⟩:=lP λq hq=>ok q (mem_cons_of_mem _ hq);obtain⟨o1,o2⟩:=ok p mem_cons_self;obtain⟨c1,d1⟩:=zA o1;obtain⟨c2,d2⟩:=zA o2;have e:pairD (p::ps)=.tuple [ja p.1,ja p.2]::pairD ps:=rfl;rw[e];refine⟨by simp[PyData.canLayAll0,PyData.canLay0,c1,c2,a],?_⟩;simp only[PyData.depthAll,PyData.depth,d1,d2];omega
def kP(k:Uc×Bool):V×V:=(aD k.1,.bl k.2)
def cZ(ks:Uh (Uc×Bool)):Nat:=(ks.filter λk=>k.2).length
def eU(fr:Ud):Nat->Uh (Uc×Bool)->Uh (V×V)
 |_,[]=>[]
 |g,(m,true)::ks=>(aD m,aD (fr.getD g []))::eU fr (g+1) ks
 |g,(m,false)::ks=>(aD m,.non)::eU fr g ks
theorem mO(m:Uc)(b:Bool)(ks:Uh (Uc×Bool)):cZ ((m,b)::ks)=cZ ks+(if b=true then 1 else 0):=by
 unfold cZ;cases b
 ·rw[List.filter_cons_of_neg (by simp)];rfl
 ·rw[List.filter_cons_of_pos (by simp)];rfl
theorem tV(ks:Uh (Uc×Bool)):cZ ks<=ks.length:=length_filter_le _ _
theorem Bt{tl:TE}{ks:Uh (Uc×Bool)}(ha:∀Q:VK,Q (.ref p) H->tl σ H Q)(hq:aX K H p xs)(hp:d9 H xs (ks.map kP))(hn:ks.length<=100000)
  (hd:∀r,H r=none->Q (.ref r) (upd H r (.lst (((ks.filter λk=>k.2).map λk=>k.1).map aD)))):jt K (bS K tl) [] (tB (ai 1)) (ai 0) σ H Q:=by
 have hl:=hp.len;rw[length_map] at hl;refine rf ha hq (λi ys H'=>H'=H/\ys=(((ks.take i).filter λk=>k.2).map λk=>k.1).map aD) ⟨rfl,rfl⟩ (λi ys H' _ h=>⟨by rw[h.1];exact hq,?_⟩) (by rw[hl,sizeLine_eq];omega) ?_ ?_
 ·rw[h.2,length_map,length_map];exact Nat.le_trans (length_filter_le _ _) (by rw[length_take];omega)
 ·rintro i x ys H' hx ⟨rfl,rfl⟩;obtain⟨q,t,e1,rfl,e2⟩:=hp.get hx;rw[getElem?_map] at e1;obtain⟨⟨m,b⟩,e3,rfl⟩:=map_eq_some_iff.mp e1;refine⟨t,_,_,rfl,dU.of e2,λR hR=>?_⟩;simp? [kP]
  rw[List.take_succ,e3] at hR;cases b
  ·rw[if_neg (by decide)];exact hR _ _ ⟨rfl,by simp⟩
  ·rw[if_pos rfl];exact hR _ _ ⟨rfl,by simp[aD]⟩
 ·rintro ys H' ⟨rfl,rfl⟩ r hr;have:=hd r hr;rw[hl,take_length];exact this
def Bu(K:W.Frag):Sp:=λvs H Q _=>∃(L:Nat) (p:Addr) (ks:Uh (Uc×Bool)),vs=[.int L,.ref p]/\2<=L/\L<=26/\ks.length<=1000/\(∃xs,aX K H p xs/\d9 H xs (ks.map kP))/\
 ∀H' r ys n,fE L (cZ ks) n->aF H H'->H r=none->H' r=some (.lst ys)->d9 H' ys (eU (kY L (cZ ks) n) 0 ks)->Q (.ref r) H'
def Bv(K:W.Frag):TS:=
  aI (bg (aH pS [] E0 (ah (ai 0) (ah (dJ (cz K) (ah (jt K (bS K (ai 1)) [] (tB (ai 1)) (ai 0)) av)) av))) (aG 2))
   (aI (bg (oZ av) (aG 3))
   (aI (bg (tC (.int 0)) (aG 4))
   (aI (gQ (bS K (ai 1)) (yx K 2 (kI (aG 5) (kI (aG 6) yw))) (dP (tB (ai 6)) (aI (cj (Ac K "list" fS (ai 3) (ah (iL (ah (ai 5) (ah (aP (dQ K) (ai 2) (ai 4)) av))) av)))
   (bg (aP bE (ai 4) (tC (.int 1))) (aG 4))) (cj (Ac K "list" fS (ai 3) (ah (iL (ah (ai 5) (ah (tC .non) av))) av)))))
   (bG (ai 3)))))
def LK(L:Nat)(p p2 p3:Addr)(H2:Hp)(fr:Ud)(ks:Uh (Uc×Bool)):Nat->St->Hp->Prop:=λi σ H'=>∃(g:Nat) (ys:Uh V) (ps:Uh (V×V)) (v5 v6:Option V),aF H2 H'/\H' p3=some (.lst ys)/\d9 H' ys ps/\σ=[some (.int L),some (.ref p),some (.ref p2),some (.ref p3),some (.int g),v5,v6]/\ps++eU fr g (ks.drop i)=eU fr 0 ks/\g+cZ (ks.drop i)=cZ ks/\ys.length=i
theorem vF{t r:Addr}{o:HO}{zs:Uh V}(ht:H t=none)(hr:H r=some (.lst ys)):∀u xs,H u=some (.tup xs)->(upd (upd H t o) r (.lst zs)) u=some (.tup xs):=λu xs e=>by
 rw[aE (λz=>by subst z;rw[hr] at e;cases e),aE (λz=>by subst z;rw[ht] at e;cases e)];exact e
theorem zD{α:Type}{l:Uh α}{x:α}(h:l[i]?=some x):l.drop i=x::l.drop (i+1):=by
 obtain⟨h1,h2⟩:=List.getElem?_eq_some_iff.mp h;rw[drop_eq_getElem_cons h1,h2]
theorem Fz(hN:N.length=7)(h:Bu K vs H Q E):Bv K {nx:=λ_ H'=>Q .non H',rt:=Q} (L2.start N vs) H:=by
 obtain⟨L,p,ks,rfl,hL,fH,hks,⟨xs,hq,hp⟩,q⟩:=h;unfold Bv L2.start;rw[hN];have hxl:=hp.len;rw[length_map] at hxl;refine aW λc hc=>?_;nofun;refine Bt (ks:=ks) (λQ h=>⟨_,rfl,h⟩) hq hp (by omega) λp1 hp1=>?_;refine bZ aX.here ?_;rw[length_map,length_map];have hst:=tV ks;refine⟨L,cZ ks,rfl,hL,fH,by omega,λH1 n p2 R s1 hp2=>hc _ _ ?_⟩;clear hc c;have s2:aF H (upd H1 p2 (.lst ((kY L (cZ ks) n).map aD))):=((aF.up H hp1).trans s1).new hp2;have hF:aX K (upd H1 p2 (.lst ((kY L (cZ ks) n).map aD))) p2 ((kY L (cZ ks) n).map aD):=aX.here;have q:=λH' r ys=>q H' r ys n R;have hfl:=tU L (cZ ks) n;have hfg:=λ(g:Nat) (h:g<cZ ks)=>IE (L:=L) (n:=n) h;generalize upd H1 p2 _=H2 at s2 hF ⊢;generalize kY L (cZ ks) n=fr at hF q hfl hfg;refine aW λc hc=>?_;nofun;refine⟨by decide,λp3 hp3=>hc _ _ ?_⟩;clear hc c;refine aW λc hc=>?_;nofun;refine hc _ _ ?_;clear hc c;have s3:aF H2 (upd H2 p3 (.lst [])):=aF.up _ hp3;refine aT λc hc=>?_;refine nj (a:=p) (xs:=xs) (λQ h=>⟨_,rfl,h⟩) (s3.seq (s2.seq hq))
  (LK L p p2 p3 H2 fr ks)
  ⟨0,[],[],_,_,s3,aq,trivial,rfl,rfl,by rw[drop_zero,Nat.zero_add],rfl⟩ (λi σ H' _ h=>by obtain⟨_,_,_,_,_,s,_⟩:=h;exact s.seq (s2.seq hq)) ?_ ?_
 ·rintro i x σ H' hx ⟨g,ys,ps,v5,v6,s4,hr,hps,rfl,e1,e2,e3⟩;obtain⟨k,t,ek,rfl,ht⟩:=((hp.same s2).same s4).get hx;rw[getElem?_map] at ek;obtain⟨⟨m,b⟩,ek2,rfl⟩:=map_eq_some_iff.mp ek;rw[zD ek2] at e1 e2;rw[mO] at e2;have hil:i<xs.length:=(List.getElem?_eq_some_iff.mp hx).1;simp? [yx,kI,yw,kP]
  refine⟨[aD m,.bl b],dU.of ht,rfl,aD m,[.bl b],rfl,.bl b,[],rfl,rfl,?_⟩;have hz:ys.length<sizeLine:=by rw[sizeLine_eq];omega
  cases b with
  |true=>
   nofun;rw[if_pos rfl] at e2;refine⟨.inl ⟨rfl,_,aX.of hr⟩,?_⟩;refine cD (v:=aD (fr.getD g [])) (s4.seq hF) (by omega) ?_ ?_
   ·rw[toNat_natCast,getElem?_map,getD_eq_getElem?_getD,hfg g (by omega)];rfl
   ·refine⟨by decide,λt2 ht2=>?_⟩;have h3:p3≠t2:=λz=>by subst z;rw[hr] at ht2;cases ht2
    refine⟨p3,ys,_,rfl,rfl,by rw[aE h3];exact hr,hz,?_⟩;refine⟨g+1,ys++[.ref t2],ps++[(aD m,aD (fr.getD g []))],_,_,(s4.new ht2).set hp3,aq,(hps.keep (vF ht2 hr)).app ⟨⟨t2,rfl,?_⟩,trivial⟩,rfl,?_,by omega,by rw[length_append];simp[e3]⟩
    ·rw[aE (Ne.symm h3),aq]
    ·rw[append_assoc];exact e1
  |false=>
   nofun;rw[if_neg (by decide)] at e2;refine⟨.inl ⟨rfl,_,aX.of hr⟩,by decide,λt2 ht2=>?_⟩
   have h3:p3≠t2:=λz=>by subst z;rw[hr] at ht2;cases ht2
   refine⟨p3,ys,_,rfl,rfl,by rw[aE h3];exact hr,hz,?_⟩;refine⟨g,ys++[.ref t2],ps++[(aD m,.non)],_,_,(s4.new ht2).set hp3,aq,(hps.keep (vF ht2 hr)).app ⟨⟨t2,rfl,?_⟩,trivial⟩,rfl,?_,by omega,by rw[length_append];simp[e3]⟩
   ·rw[aE (Ne.symm h3),aq]
   ·rw[append_assoc];exact e1
 ·rintro σ H' ⟨g,ys,ps,v5,v6,s4,hr,hps,rfl,e1,e2,e3⟩;refine hc _ _ ?_;nofun;rw[hxl,drop_length] at e1;have e1:ps=eU fr 0 ks:=by simpa [eU] using e1
  rw[e1] at hps;exact q _ p3 ys (s2.trans s4) (s2.free hp3) hr hps
theorem gD{zs:Ud}(h:zs.Pairwise (·<=·))(n:zs.Nodup):zs.Pairwise (·<·):=by
 have:=List.Pairwise.and h n;refine this.imp λ{a b} hab=>?_
 by_cases z:a<b
 ·exact z
 ·exact absurd (List.le_antisymm hab.1 (List.not_lt.mp z)) hab.2
def Keeps(F:Uh Addr)(H H':Hp):Prop:=∀b o,H b=some o->b∉F->H' b=some o
theorem aF.keeps(s:aF H H')(F:Uh Addr):Keeps F H H':=λb o e _=>s b o e
theorem Keeps.trans{H1:Hp}(a:Keeps F H H1)(b:Keeps F H1 H2):Keeps F H H2:=λx o e n=>b x o (a x o e n) n
theorem Keeps.upd {o:HO} (a:Keeps F H H') (h:p ∈ F ∨ H' p = none):Keeps F H (upd H' p o):=fun x q e n=>by
  have:=a x q e n
  rw [aE (fun z => by subst z; rcases h with h | h
                      · exact n h
                      · rw [this] at h; cases h)]
  exact this
def Bw(c:Addr):Sp:=λvs H Q E=>∃(L h:Int),vs=[.int L,.int h]/\((2<=L/\L<=26/\1<=h/\h<L)->Q .non H)/\(¬(2<=L/\L<=26/\1<=h/\h<L)->E (.ref c) none H)
def xu(c:Addr)(E:XK)(m1 m2:Uc):TS:=
  aI (dP (Af (bD (aP yQ (ai 0) (tC (.int 2)))) (bD (aP uL (ai 0) (dJ ng (ah (tC (.str (txt yP))) av))))) (iP (.ref c) E (ah (tC (.str (txt m1))) av)) (cJ))
   (dP (Af (bD (aP yQ (ai 1) (tC (.int 1)))) (bD (aP NG (ai 1) (ai 0)))) (iP (.ref c) E (ah (tC (.str (txt m2))) av)) (cJ))
theorem FD{m1 m2:Uc}(hN:N.length=2)(h:Bw c vs H Q E):xu c E m1 m2 {nx:=λ_ H'=>Q .non H',rt:=Q} (L2.start N vs) H:=by
 obtain⟨L,h,rfl,q1,q2⟩:=h;unfold xu L2.start;rw[hN];nofun
 by_cases h1:L<2
 ·rw[if_pos h1];exact⟨by decide,q2 (by omega)⟩
 ·rw[if_neg h1];refine jl (by rw[wo];decide) ⟨_,rfl,?_⟩;rw[wo]
  by_cases h2:((26:Nat):Int)<L
  ·rw[if_pos h2];exact⟨by decide,q2 (by omega)⟩
  ·rw[if_neg h2]
   by_cases h3:h<1
   ·rw[if_pos h3];exact⟨by decide,q2 (by omega)⟩
   ·rw[if_neg h3]
    by_cases h4:L<=h
    ·rw[if_pos h4];exact⟨by decide,q2 (by omega)⟩
    ·rw[if_neg h4];exact q1 (by omega)
def Dk:Uc:=[97,98,99,100,101,102,103,104,105,106,107,108,109,110,111,112,113,114,115,116,117,118,119,120,121,122,48,49,50,51,52,53,54,55,56,57]
def Thing(t:Uc):Prop:=t≠[]/\t.length<=12/\∀c∈t,c∈Dk
def pU:Sp:=λvs H Q _=>∃t:Uc,vs=[.str (txt t)]/\t.length<=100000/\∀H' b,aF H H'->(b=true↔Thing t)->Q (.bl b) H'
def vG(K:W.Frag):TS:=
  aI (dP (Af (bD (aP ED (ai 0) (tC (.str (txt []))))) (bD (aP uL (dJ ng (ah (ai 0) av)) (tC (.int 12))))) (bG (tC (.bl false))) (cJ))
   (bG (dJ (Hf K) (ah (eG (EU (ai 0)) [] ku (aP Py (ai 0) (tC (.str (txt Dk))))) av)))
theorem xw(hN:N.length=1)(h:pU vs H Q E):vG K {nx:=λ_ H'=>Q .non H',rt:=Q} (L2.start N vs) H:=by
 obtain⟨t,rfl,hz,q⟩:=h;unfold vG L2.start;rw[hN];nofun;refine⟨rfl,?_⟩
 by_cases h1:t=[]
 ·rw[if_pos h1];exact q _ _ (aF.refl _) ⟨(λz=>nomatch z),λz=>absurd h1 z.1⟩
 ·rw[if_neg h1];refine jl hz ⟨_,rfl,?_⟩
  by_cases h2:(12:Int)<(t.length:Int)
  ·rw[if_pos h2];exact q _ _ (aF.refl _) ⟨(λz=>nomatch z),λz=>by have:=z.2.1;omega⟩
  ·rw[if_neg h2];refine G1 (l:=t) (λQ h=>⟨_,rfl,h⟩) (Nat.le_trans (show t.length<=100000 by omega) (by decide)) (λi ys H'=>H'=H/\ys=((t.take i).map λc=>decide (c∈Dk)).map V.bl) ⟨rfl,rfl⟩
    (λi ys H' _ p=>by rw[p.2,length_map,length_map,length_take];omega) ?_ ?_
   ·rintro i c ys H' hc ⟨rfl,rfl⟩ R hR;nofun;refine⟨c,_,rfl,rfl,hR _ _ ⟨rfl,?_⟩⟩;rw[List.take_succ,hc,map_append,map_append];rfl
   ·rintro ys H' ⟨rfl,rfl⟩ p hp;rw[take_length];refine⟨p,_,rfl,aX.here,q _ _ (aF.up _ hp) ?_⟩;rw[List.all_map,all_eq_true];constructor
    ·intro z;exact⟨h1,by omega,λc hc=>by simpa using z c hc⟩
    ·rintro⟨_,_,z⟩ c hc;simpa using z c hc
def mP(c:Addr):Sp:=λvs H Q E=>∃t:Uc,vs=[.str (txt t)]/\t.length<=100000/\∀H',aF H H'->(Thing t->Q .non H')/\(¬Thing t->E (.ref c) none H')
def jB(c:Addr)(E:XK)(m:Uc):TS:=
  dP (Ex (tB (aH pU [] E0 (ah (ai 0) av)))) (iP (.ref c) E (ah (tC (.str (txt m))) av)) (cJ)
theorem uQ(hN:N.length=1)(h:mP c vs H Q E):jB c E m {nx:=λ_ H'=>Q .non H',rt:=Q} (L2.start N vs) H:=by
 obtain⟨t,rfl,hz,q⟩:=h;unfold jB L2.start;rw[hN];nofun;refine⟨t,rfl,hz,λH' b s hb=>⟨_,rfl,?_⟩⟩;cases b with
 |true=>
  nofun;exact(q H' s).1 (hb.mp rfl)
 |false=>
  nofun;exact⟨by decide,(q H' s).2 λz=>by have:=hb.mpr z;cases this⟩
def jC(c:Addr):Sp:=λvs H Q E=>∃(i n:Int),vs=[.int i,.int n]/\((0<=i/\i<n)->Q .non H)/\(¬(0<=i/\i<n)->E (.ref c) none H)
def fj(c:Addr)(E:XK)(m:Uc):TS:=
  dP (Af (bD (aP yQ (ai 0) (tC (.int 0)))) (bD (aP NG (ai 0) (ai 1)))) (iP (.ref c) E (ah (tC (.str (txt m))) av)) (cJ)
theorem mD(hN:N.length=2)(h:jC c vs H Q E):fj c E m {nx:=λ_ H'=>Q .non H',rt:=Q} (L2.start N vs) H:=by
 obtain⟨i,n,rfl,q1,q2⟩:=h;unfold fj L2.start;rw[hN];nofun
 by_cases h1:i<0
 ·rw[if_pos h1];exact⟨by decide,q2 (by omega)⟩
 ·rw[if_neg h1]
  by_cases h2:n<=i
  ·rw[if_pos h2];exact⟨by decide,q2 (by omega)⟩
  ·rw[if_neg h2];exact q1 (by omega)
end L2
namespace L2
open PySem PySem.Spec PyProof.Rows SetTx
variable {E:XK}{Q:VK}{xs vs ys ts:Uh V}{H H' H2:Hp}{a b it c f p C dx q d p2 pk cp p1 p3:Addr}{F fp as os:Uh Addr}{h t' i j n L ep:Nat}{x qual:Str}{N ps:Uh Str}{σ:St}{K:PySem.W.Frag}{es m:Uc}{te td:TE}{tb:TS}{lo hi:Ug}{ta:TA}{kvs zs zs' S:Ue}{ks ws ws':Ud}
section
variable{X:Cx}
theorem Inv.LL{pins:Uh (Addr×Obj)}{σ:Uh (Option V)}{s:Shared}{d':Drawn}(I:Inv X pins σ H s):Inv X pins σ H {s with drawn:=d' }:={I with}
def By(P:Program)(w:World)(a:Addr)(ss:Uh Str):HO:=.ext λh=>pJ P w h a ss (!cY w)
abbrev IF(X:Cx):Uh V->Hp->VK->Prop:=λxs H Q=>∃p,∃ys:Ud,xs=[.ref p]/\aX X.K H p (ys.map aD)/\ys.length<64/\∀a ss,H a=none->ss.Nodup->(∀y:Uc,txt y∈ss↔y∈ys)->ss.length<64->Q (.ref a) (upd H a (By X.prog X.w a ss))
abbrev mQ(X:Cx):Uh V->Hp->VK->Prop:=λxs H Q=>∃a ss,xs=[.ref a]/\H a=some (By X.prog X.w a ss)/\ss.length<64/\∀l,∀zs:Ud,H l=none->(zs.map txt).Perm ss->zs.Pairwise (·<=·)->Q (.ref l) (upd H l (.lst (zs.map aD)))
theorem BA(hc:X.calm=true):fJ X (.builtin "sorted") (mQ X):=by
 intro pins s σ H xs us Q I r h;obtain⟨a,ss,rfl,hH,hz,q⟩:=h;obtain⟨u,rfl,ru⟩:=vals1 r;cases ru;have hS:pJ X.prog X.w s.heap a ss (!cY X.w):=(show cI X.prog X.w H s.heap a (By X.prog X.w a ss) from I.hok a _ hH).1;refine AX (I.ok.hd hc) hS hz λh1 h' tk d' e out ss' k1 k2 he a1 a2 a3=>?_;have ez:ss'=(ss'.map λx=>x.cps.toList).map txt:=by
  rw[map_map];have:(txt∘λ(x:Str)=>x.cps.toList)=id:=by funext x;exact txt_codes x
  rw[this,map_id]
 have hp:((ss'.map λx=>x.cps.toList).map txt).Perm ss:=by rw[<-ez];exact a2
 rw[ez] at a3;have hv:Vals ((ss'.map λx=>x.cps.toList).map aD) out.toList:=by rw[kL,<-ez];exact pB a1
 have I1:Inv X pins σ H {s with heap:=h1,toks:=s.toks}:=I.kept (t':=s.toks) k1
 refine⟨.ref h1.objs.size,_,(I1.laid (t':=tk) (a:=h1.objs.size) (o:=.lst ((ss'.map λx=>x.cps.toList).map aD)) k2 (le_refl _) ⟨?_,out.toList,e,hv,by simpa [seqObj] using he⟩).LL,rfl,q _ _ (I1.hok.fresh (le_refl _)) hp (sL _ a3)⟩;have:=a2.length_eq;rw[length_map,length_map,sizeLine_eq];omega
theorem Dl:∀{us:Uh Value} {ss:Uh Str},StrsAre us ss->∀(i:Nat) (v:Value),us[i]?=some v->∃t,v=.str (ss.getD i "") t
 |_,_,.nil,i,v,e=>by simp at e
 |_,_,.cons y t h,0,v,e=>by
  simp at e
  exact⟨t,e.symm⟩
 |_,_,.cons y t h,i+1,v,e=>by
  simp only[List.getElem?_cons_succ] at e;exact Dl h i v e
theorem tW{a b:Uc}(h:txt a=txt b):a=b:=by
 have:=congrArg (λx:Str=>x.cps.toList) h;simpa [bV] using this
theorem vH(hc:X.calm=true):fJ X (.type "set") (IF X):=by
 intro pins s σ H xs us Q I r h;obtain⟨p,ys,rfl,hx,hz,q⟩:=h;obtain⟨u,rfl,ru⟩:=vals1 r;cases ru;obtain⟨its,rv,pl,hl⟩:=I.list hx;have hlen:=rv.length;rw[kL] at rv;have st:=gS rv;have il:its.length=ys.length:=by rw[<-hlen,length_map]
 refine tH (val:=λi=>(ys.map txt).getD i "") (I.ok.hd hc) pl.isList (λi v e=>Dl st i v (by simpa using e)) (by unfold scanBound;simp;omega) λh' tk hS hk=>?_;have sz:its.toArray.size=ys.length:=by simp[il]
 rw[sz] at hS;refine⟨.ref s.heap.objs.size,_,I.laid (t':=tk) (a:=s.heap.objs.size) (o:=By X.prog X.w s.heap.objs.size _) (λb o e=>hk b o (Heap.lt_size e) e) (le_refl _) ⟨hS,?_,λh1 h2 x k=>x.keep k⟩,rfl,q _ _ (I.hok.fresh (le_refl _)) (tG _ _) (λy=>?_) ?_⟩
 ·obtain⟨o,es,ep,t,ho,_⟩:=hS;exact⟨o,ho⟩
 ·rw[za];constructor
  ·rintro⟨j,hj,e⟩;rw[getD_eq_getElem?_getD,getElem?_map,getElem?_eq_getElem hj] at e;have e2:ys[j]=y:=tW e;rw[<-e2];exact getElem_mem hj
  ·intro hy;obtain⟨j,hj,e⟩:=List.getElem_of_mem hy;exact⟨j,hj,by rw[getD_eq_getElem?_getD,getElem?_map,getElem?_eq_getElem hj,e];rfl⟩
 ·have:=tF (λi=>(ys.map txt).getD i "") ys.length;omega
abbrev dX(K:W.Frag):Uh V->Hp->VK->Prop:=λxs H Q=>∃p,∃ys:Ud,xs=[.ref p]/\aX K H p (ys.map aD)/\ys.length<64/\∀H' l,∀zs:Ud,aF H H'->H l=none->H' l=some (.lst (zs.map aD))->zs.Nodup->(∀y,y∈zs↔y∈ys)->zs.Pairwise (·<=·)->Q (.ref l) H'
theorem IG{Q1:VK}(h:dX X.K xs H Q)(h1:∀v H2,mQ X [v] H2 Q->Q1 v H2):IF X xs H Q1:=by
 obtain⟨p,ys,rfl,hx,hz,q⟩:=h;refine⟨p,ys,rfl,hx,hz,λa ss ha nd mem hl=>h1 _ _ ⟨a,ss,rfl,aq,hl,λl zs hl' hp hs=>?_⟩⟩;have s1:=aF.up H ha (o:=By X.prog X.w a ss);refine q _ l zs (s1.new hl') (by cases e:H l with|none=>rfl|some o=>rw[s1 _ _ e] at hl';cases hl') aq ?_ (λy=>?_) hs
 ·have:=hp.nodup_iff.mpr nd;exact(pairwise_map.mp this).imp λh e=>h (by rw[e])
 ·rw[<-mem y,<-hp.mem_iff,mem_map];constructor
  ·intro h;exact⟨y,h,rfl⟩
  ·rintro⟨z,hz,e⟩;rw[<-tW e];exact hz
theorem FE(hc:X.calm=true)(Q:VK):fJ X (.type "set") (λxs H Q1=>dX X.K xs H Q/\∀v H2,mQ X [v] H2 Q->Q1 v H2):=λpins s σ H xs us Q1 I r h=>vH hc pins s σ H xs us Q1 I r (IG h.1 h.2)
theorem BB{e:Expr}{p p2 pos pos2:Pos}(hc:X.calm=true)(hg:Gl X "sorted")(hm:X.mg "sorted" =none)(hg2:Gl X "set")(hm2:X.mg "set" =none)(ha:PA X [e] (ah te av))(hv:bootBuiltins "sorted" =some (.builtin "sorted"))(hv2:bootBuiltins "set" =some (.type "set"))
  (hs:starEach [e] X.env=(false,eval e X.env)::starEach [] X.env:=by rfl) (hpl:(backTo pos2 (starEach [] X.env)).any (·.1)=false:=by rfl)
  (hs2:starEach [.Call (.Name "set" p2) [e] [] pos2] X.env=(false,eval (.Call (.Name "set" p2) [e] [] pos2) X.env)::starEach [] X.env:=by rfl) (hpl2:(backTo pos (starEach [] X.env)).any (·.1)=false:=by rfl):
  PE X (.Call (.Name "sorted" p) [.Call (.Name "set" p2) [e] [] pos2] [] pos) (dJ (dX X.K) (ah te av)):=by
 intro pins s σ H Q I h;have inner:=o7 (p:=p2) (pos:=pos2) (FE hc Q) hg2 hm2 hv2 ha (by decide) (by decide) hs hpl;have outer:=sE (p:=p) (pos:=pos) (BA hc) hg hm hv (qZ inner vS hs2) (by decide) (by decide) hs2 hpl2;refine outer pins s σ H Q I ?_;show te σ H λx H1=>dX X.K [x] H1 Q/\∀v H2,mQ X [v] H2 Q->mQ X [v] H2 Q;have e1:(λ(x:V) (H1:Hp)=>dX X.K [x] H1 Q/\∀v H2,mQ X [v] H2 Q->mQ X [v] H2 Q)=λx H1=>dX X.K [x] H1 Q:=by
  funext x H1
  exact propext ⟨λz=>z.1,λz=>⟨z,λ_ _ y=>y⟩⟩
 rw[e1];exact h
theorem mR(hc:X.calm=true){e:Expr}{p p2 pos pos2:Pos}(hm:X.mg "sorted" =none)(hm2:X.mg "set" =none)(ha:QA X [e] (ah te av))(hv:bootBuiltins "sorted" =some (.builtin "sorted"))(hv2:bootBuiltins "set" =some (.type "set"))
  (hg:X.env.kindOf "sorted" =some .globalImplicit:=by rfl') (hg2:X.env.kindOf "set" =some .globalImplicit:=by rfl')
  (hs:starEach [e] X.env=(false,eval e X.env)::starEach [] X.env:=by rfl') (hpl:(backTo pos2 (starEach [] X.env)).any (·.1)=false:=by rfl')
  (hs2:starEach [.Call (.Name "set" p2) [e] [] pos2] X.env=(false,eval (.Call (.Name "set" p2) [e] [] pos2) X.env)::starEach [] X.env:=by rfl') (hpl2:(backTo pos (starEach [] X.env)).any (·.1)=false:=by rfl'):
  QE X (.Call (.Name "sorted" p) [.Call (.Name "set" p2) [e] [] pos2] [] pos) (dJ (dX X.K) (ah te av)):=⟨BB hc hg hm hg2 hm2 ha.p hv hv2 hs hpl hs2 hpl2⟩
end
section
variable{X:Cx}
theorem II{o e f:Expr}{ty tx:TE}{apos cpos:Pos}(hu:X.A.units+64<cLine)(ho:QE X o td)(he:QE X e ty)(hf:QE X f tx)
  (h1:attributeBase o "get" X.env (eval o X.env)=eval o X.env:=by rfl')
  (h2:((backTo cpos (starEach [e,f] X.env)).all (λx=>!x.1)&&(backToKw cpos (keywordEach [] X.env)).all (λx=>x.1.isSome)&&decide (([e,f]:Uh Expr).length+([]:Uh Keyword).length+(if ([]:Uh Keyword).isEmpty then 0 else 1)<30))=true:=by rfl')
  (h3:(apos.endLine==cpos.line)=true:=by rfl') (h4:backTo cpos (starEach [e,f] X.env)=[(false,eval e X.env),(false,eval f X.env)]:=by rfl'):
  QE X (.Call (.Attribute o "get" apos) [e,f] [] cpos) (wK td ty tx):=⟨Ia (by omega) ho.p he.p hf.p ⟨h1,h2,h3,h4⟩⟩
end
end L2
namespace L2
open PySem PySem.Spec PyProof.Rows SetTx
variable {E:XK}{Q:VK}{xs vs ys ts:Uh V}{H H' H2:Hp}{a b it c f p C dx q d p2 pk cp p1 p3:Addr}{F fp as os:Uh Addr}{h t' i j n L ep:Nat}{x qual:Str}{N ps:Uh Str}{σ:St}{K:PySem.W.Frag}{es m:Uc}{te td:TE}{tb:TS}{lo hi:Ug}{ta:TA}{kvs zs zs' S:Ue}{ks ws ws':Ud}
section
variable{X:Cx}
abbrev tX(X:Cx):Uh V->Hp->VK->Prop:=λxs H Q=>∃a ss,xs=[.ref a]/\H a=some (By X.prog X.w a ss)/\ss.length<64/\Q (.int ss.length) H
theorem FF:fJ X (.builtin "len") (tX X):=by
 intro pins s σ H xs us Q I r h;obtain⟨a,ss,rfl,hH,hz,q⟩:=h;obtain⟨u,rfl,ru⟩:=vals1 r;cases ru;obtain⟨o,es,ep,t,ho,hE,hd,_,hp,hf,_⟩:=(show cI X.prog X.w H s.heap a (By X.prog X.w a ss) from I.hok a _ hH).1;have e:es.size=ss.length:=by
  have:=hp.length_eq;rw[length_map,Array.length_toList] at this;exact this
 refine call_len_set ho hE hd hf (by rw[e];omega) ?_;rw[e];exact⟨.int ss.length,_,I.tok _,⟨_,rfl⟩,q⟩
abbrev iH(K:W.Frag):Uh V->Hp->VK->Prop:=λxs H Q=>∃p,∃ys:Ud,xs=[.ref p]/\aX K H p (ys.map aD)/\ys.length<64/\ys.Nodup/\∀H',aF H H'->Q (.int ys.length) H'
theorem zE{Q1:VK}(h:iH X.K xs H Q)(h1:∀v H2,tX X [v] H2 Q->Q1 v H2):IF X xs H Q1:=by
 obtain⟨p,ys,rfl,hx,hz,nd,q⟩:=h;refine⟨p,ys,rfl,hx,hz,λa ss ha nds mem hl=>h1 _ _ ⟨a,ss,rfl,aq,hl,?_⟩⟩;have pm:(ys.map txt).Perm ss:=by
  refine(perm_ext_iff_of_nodup (pairwise_map.mpr (nd.imp λh e=>h (tW e))) nds).mpr λx=>?_;constructor
  ·intro hm;obtain⟨y,hy,rfl⟩:=mem_map.mp hm;exact(mem y).mpr hy
  ·intro hm;have:=(mem (x.cps.toList)).mp (by rw[txt_codes];exact hm);exact mem_map.mpr ⟨_,this,txt_codes x⟩
 have e:=pm.length_eq;rw[length_map] at e;rw[<-e];exact q _ (aF.up H ha)
theorem FG{e:Expr}{p p2 pos pos2:Pos}(hc:X.calm=true)(hg:Gl X "len")(hm:X.mg "len" =none)(hg2:Gl X "set")(hm2:X.mg "set" =none)(ha:PA X [e] (ah te av))(hv:bootBuiltins "len" =some (.builtin "len"))(hv2:bootBuiltins "set" =some (.type "set"))
  (hs:starEach [e] X.env=(false,eval e X.env)::starEach [] X.env:=by rfl) (hpl:(backTo pos2 (starEach [] X.env)).any (·.1)=false:=by rfl)
  (hs2:starEach [.Call (.Name "set" p2) [e] [] pos2] X.env=(false,eval (.Call (.Name "set" p2) [e] [] pos2) X.env)::starEach [] X.env:=by rfl) (hpl2:(backTo pos (starEach [] X.env)).any (·.1)=false:=by rfl):
  PE X (.Call (.Name "len" p) [.Call (.Name "set" p2) [e] [] pos2] [] pos) (dJ (iH X.K) (ah te av)):=by
 intro pins s σ H Q I h;have inner:=o7 (p:=p2) (pos:=pos2) (r:=λxs H Q1=>iH X.K xs H Q/\∀v H2,tX X [v] H2 Q->Q1 v H2) (λpins s σ H xs us Q1 I r h=>vH hc pins s σ H xs us Q1 I r (zE h.1 h.2)) hg2 hm2 hv2 ha (by decide) (by decide) hs hpl;have outer:=sE (p:=p) (pos:=pos) FF hg hm hv (qZ inner vS hs2) (by decide) (by decide) hs2 hpl2;refine outer pins s σ H Q I ?_;show te σ H λx H1=>iH X.K [x] H1 Q/\∀v H2,tX X [v] H2 Q->tX X [v] H2 Q;have e1:(λ(x:V) (H1:Hp)=>iH X.K [x] H1 Q/\∀v H2,tX X [v] H2 Q->tX X [v] H2 Q)=λx H1=>iH X.K [x] H1 Q:=by
  funext x H1
  exact propext ⟨λz=>z.1,λz=>⟨z,λ_ _ y=>y⟩⟩
 rw[e1];exact h
theorem FH(hc:X.calm=true){e:Expr}{p p2 pos pos2:Pos}(hm:X.mg "len" =none)(hm2:X.mg "set" =none)(ha:QA X [e] (ah te av))(hv:bootBuiltins "len" =some (.builtin "len"))(hv2:bootBuiltins "set" =some (.type "set"))
  (hg:X.env.kindOf "len" =some .globalImplicit:=by rfl') (hg2:X.env.kindOf "set" =some .globalImplicit:=by rfl')
  (hs:starEach [e] X.env=(false,eval e X.env)::starEach [] X.env:=by rfl') (hpl:(backTo pos2 (starEach [] X.env)).any (·.1)=false:=by rfl')
  (hs2:starEach [.Call (.Name "set" p2) [e] [] pos2] X.env=(false,eval (.Call (.Name "set" p2) [e] [] pos2) X.env)::starEach [] X.env:=by rfl') (hpl2:(backTo pos (starEach [] X.env)).any (·.1)=false:=by rfl'):
  QE X (.Call (.Name "len" p) [.Call (.Name "set" p2) [e] [] pos2] [] pos) (dJ (iH X.K) (ah te av)):=⟨FG hc hg hm hg2 hm2 ha.p hv hv2 hs hpl hs2 hpl2⟩
end
def gu(ms:Ud)(i:Nat):Ug:=if i=0 then none else ms[i-1]?
end L2
namespace L2
open PySem PySem.Spec PyProof.Rows MM
variable {E:XK}{Q:VK}{xs vs ys ts:Uh V}{H H' H2:Hp}{a b it c f p C dx q d p2 pk cp p1 p3:Addr}{F fp as os:Uh Addr}{h t' i j n L ep:Nat}{x qual:Str}{N ps:Uh Str}{σ:St}{K:PySem.W.Frag}{es m:Uc}{te td:TE}{tb:TS}{lo hi:Ug}{ta:TA}{kvs zs zs' S:Ue}{ks ws ws':Ud}
theorem Dm(h:i<=xs.length):vU xs none (some (i:Int))=xs.take i:=by
 unfold vU;rw[HT.CL,HT.yD,drop_zero,Nat.sub_zero,min_eq_left h]
theorem pV(h:i<=xs.length):vU xs (some (i:Int)) none=xs.drop i:=by
 unfold vU;rw[HT.CL,HT.yD,min_eq_left h,List.take_of_length_le];rw[length_drop];exact le_refl _
theorem PX(h2:2<=L)(h26:L<=26):jX L 1 0:=⟨h2,h26,by decide,by omega⟩
theorem LM{w:Nat}(hL:0<L):ow L (bB L 1 0) w=true↔w%L≠0:=by
 rw[Dg hL];constructor
 ·intro h;omega
 ·intro h;exact⟨by omega,Nat.mod_one _⟩
theorem qA{l:Uc}(h:∀c∈l,c<200):PyData.strOk (txt l)=true:=by
 unfold PyData.strOk txt;simp only[Array.all_eq_true_iff_forall_mem,List.mem_toArray,decide_eq_true_eq];intro c hc;have:=h c hc;omega
theorem g6(hL:L<=26)(h:Ls L m):PyData.strOk (txt m)=true:=qA λc hc=>by have:=h c hc;omega
theorem zF:∀c∈Dk,c<200:=by decide
theorem zG{t:Uc}(h:Thing t):PyData.strOk (txt t)=true:=qA λc hc=>zF c (h.2.2 c hc)
theorem dG{H0:Hp}(s:aF H0 H)(k:Keeps F H H')(h:∀a∈F,H0 a=none):aF H0 H':=λb o e=>k b o (s b o e) (λz=>by rw[h b z] at e;cases e)
structure uR(L:Nat)(lo hi:Ug)(n w:Nat)(m:Uc):Prop where
 least:jy false L (bB L 1 0) lo hi 1 n
 eq:m=low L w n
 own:ow L (bB L 1 0) w=true
 ge:dR L lo n+1<=w
 lt:w<dO L hi n
 at_:(MM.ob L (bB L 1 0) w:Int)=(MM.ob L (bB L 1 0) (dR L lo n+1):Int)+(iG false L (bB L 1 0) lo hi n-1)/2
theorem IJ{t:Uc}:∀{l m:Uc},l<m->l<m++t
 |l,[],h=>absurd h (List.not_lt_nil _)
 |[],c::m,_=>by simp
 |a::l,c::m,h=>by
  rw[cons_append,cons_lt_cons_iff]
  rcases cons_lt_cons_iff.mp h with z|⟨z1,z2⟩
  ·exact .inl z
  ·exact .inr ⟨z1,IJ z2⟩
theorem tY{K:Nat}(hK:0<K){t:Uc}:∀{x h:Uc} (n:Nat),Ls K x->Ls K h->x.length=n->val K x n<val K h n->x++t<h/\h.take n≠x
 |[],h,n,_,_,e,hv=>by
  obtain rfl:n=0:=by simpa using e.symm
  rw[val_zero,val_zero] at hv;omega
 |c::x,[],n,_,_,_,hv=>by rw[dZ] at hv;omega
 |c::x,d::h,0,_,_,e,_=>by simp at e
 |c::x,d::h,n+1,hx,hh,e,hv=>by
  rw[b6,b6,ny (gp hK n hx.tail) (gp hK n hh.tail),(qv hx.head.1 hh.head.1).1,(qv hx.head.1 hh.head.1).2] at hv;rw[cons_append,cons_lt_cons_iff,List.take_succ_cons]
  rcases hv with z|⟨rfl,z⟩
  ·exact⟨.inl z,λe=>by have:=(List.cons.inj e).1;omega⟩
  ·obtain⟨a,b⟩:=tY hK (t:=t) n hx.tail hh.tail (by simpa using e) z;exact⟨.inr ⟨rfl,a⟩,λe=>b (List.cons.inj e).2⟩
section
variable{L n w:Nat}{lo hi:Ug}{m:Uc}
theorem LO(hL:0<L)(M:cu L lo hi):dO L hi n<=L^n:=by
 cases hi with
 |none=>exact le_refl _
 |some u=>exact le_of_lt (gp hL n (M.mhi u rfl).1.ls)
theorem uR.all(S:uR L lo hi n w m)(hL:2<=L)(M:cu L lo hi)(ok:iA lo hi):
  Mark L m/\m.length=n/\val L m n=w/\n<=1+max (c9 lo) (c9 hi)/\(∀l,lo=some l->∀t,l<m++t)/\∀u,hi=some u->∀t,m++t<u/\u.take n≠m:=by
 have hL0:0<L:=by omega
 have hw:w<L^n:=lt_of_lt_of_le S.lt (LO hL0 M);have hm:m.length=n:=by rw[S.eq,low_length]
 have hv:val L m n=w:=by rw[S.eq,gZ hL0,mod_eq_of_lt hw]
 have h0:=(LM hL0).mp S.own;have hn1:=S.least.pos;have hnl:=S.least.PV hL (jv (K:=L) (h:=1) (j:=0) (by decide) (by omega)) M ok;have hls:Ls L m:=by rw[S.eq];exact pF hL0 _ _
 obtain⟨n',rfl⟩:∃n',n=n'+1:=⟨n-1,by omega⟩;refine⟨⟨hls,λc hc=>?_,λz=>by rw[z] at hm;simp at hm⟩,hm,hv,hnl,λl e t=>IJ ?_,λu e t=>?_⟩
 ·rw[S.eq,nB hL0] at hc;have:=Option.some.inj hc;omega
 ·rw[S.eq,Dh hL0 hw h0 (M.mlo l e).1.ls];have:=S.ge;rw[e] at this;exact this
 ·refine tY hL0 (n'+1) hls (M.mhi u e).1.ls hm ?_;have:=S.lt;rw[e] at this;rw[hv];exact this
end
def BC(c:Addr):Sp:=λvs H Q E=>∃(L:Nat) (lo hi:Ug),vs=[.int L,oV lo,oV hi]/\2<=L/\L<=26/\cu L lo hi/\(iA lo hi->∀H' n w m,aF H H'->uR L lo hi n w m->Q (.str (txt m)) H')/\(¬iA lo hi->E (.ref c) none H)
def BD(c:Addr)(E:XK):TS:=
  aI (cj (aH (gK c) [] E (ah (ai 1) (ah (ai 2) av))))
   (aI (bg (aH pM [] E0 (ah (ai 0) (ah (tC (.int 1)) (ah (tC (.int 0)) av)))) (aG 3))
   (aI (bg (aH nP [] E0 (ah (ai 0) (ah (ai 3) (ah (ai 1) (ah (ai 2) (ah (tC (.int 1)) (ah (tC (.bl false)) av))))))) (aG 4))
   (aI (bg (aH lO [] E0 (ah (ai 0) (ah (ai 3) (ah (ai 1) (ah (ai 2) (ah (ai 4) (ah (tC (.bl false)) av))))))) (aG 5))
   (bG (aH (De c) [] E (ah (ai 0) (ah (tC (.int 1)) (ah (tC (.int 0)) (ah (ai 1) (ah (ai 2) (ah (ai 4) (ah (aP nc (aP kM (ai 5) (tC (.int 1))) (tC (.int 2))) av))))))))))))
theorem FI(hN:N.length=6)(h:BC c vs H Q E):BD c E {nx:=λ_ H'=>Q .non H',rt:=Q} (L2.start N vs) H:=by
 obtain⟨L,lo,hi,rfl,hL,fH,M,q1,q2⟩:=h;unfold BD L2.start;rw[hN];have hL0:0<L:=by omega
 obtain⟨okl,okh⟩:=M.RO fH;have E1:=jv (K:=L) (h:=1) (j:=0) (by decide) (by omega);have hlen:=M.lens;nofun;refine⟨lo,hi,rfl,λok=>?_,q2⟩;nofun;refine⟨L,1,0,rfl,fH,by decide,λH1 s1=>?_⟩;nofun;refine⟨L,_,lo,hi,1,false,rfl,hL,fH,i8 fH,E1,M,ok,by omega,by omega,λH2 n s2 LN=>?_⟩;have hn:n<=1002:=by have:=LN.len;omega
 nofun;refine⟨L,_,lo,hi,n,false,rfl,hL0,fH,i8 fH,okl,okh,by omega,λH3 s3=>?_⟩;nofun;have r1:=LN.room;obtain⟨k,hk⟩:=eq_ofNat_of_zero_le (a:=(iG false L (bB L 1 0) lo hi n-1)/2) (by omega);refine⟨cdiv (by decide) (by decide),L,1,0,lo,hi,n,k,by rw[hk];rfl,M.IB (PX hL fH) (by omega),by decide,by omega,λ_ H4 s4=>?_,λz=>absurd ok z⟩;have q:=q1 ok H4 n (uP L (bB L 1 0) (MM.ob L (bB L 1 0) (dR L lo n+1)+k)) (low L (uP L (bB L 1 0) (MM.ob L (bB L 1 0) (dR L lo n+1)+k)) n) (((s1.trans s2).trans s3).trans s4);obtain⟨n',rfl⟩:∃n',n=n'+1:=⟨n-1,by have:=LN.pos;omega⟩;rw[HS hL0 (C0 E1 _)];obtain⟨o1,o2⟩:=AI hL0 E1 (MM.ob L (bB L 1 0) (dR L lo (n'+1)+1)+k);have hri:iG false L (bB L 1 0) lo hi (n'+1)=(MM.ob L (bB L 1 0) (dO L hi (n'+1)):Nat)-(MM.ob L (bB L 1 0) (dR L lo (n'+1)+1):Nat):=rfl;obtain⟨i1,i2⟩:=HU hL0 E1 (A:=dR L lo (n'+1)+1) (B:=dO L hi (n'+1)) (p:=MM.ob L (bB L 1 0) (dR L lo (n'+1)+1)+k) (by omega) (by omega);exact q ⟨LN,rfl,o2,i1,i2,by rw[o1,hk];omega⟩
abbrev bQ:=Uc×Ug
def nQ(r:bQ):V×V:=(aD r.1,oV r.2)
def fO(R:Uh bQ):Ug:=R.findSome? (·.2)
def jY(m:Uc)(r:bQ):Bool:=decide (r.1<m)
def tZ(R:Uh bQ)(m:Uc):Ug:=fO (R.reverse.filter (jY m))
def kZ(R:Uh bQ)(m:Uc):Ug:=fO (R.filter λr=>!jY m r)
structure bu(L:Nat)(R:Uh bQ):Prop where
 up:R.Pairwise λa b=>a.1<b.1
 olds:∀r∈R,Mark L r.1/\r.1.length<=500
 news:R.Pairwise λa b=>∀x y,a.2=some x->b.2=some y->x<y
 marks:∀r∈R,∀n,r.2=some n->Mark L n/\n.length<=500
 len:R.length<=10000
theorem t6{a b c:Uc}(h:a<b)(g:¬c<b):a<c:=by
 rcases lt_or_ge 0 1 with _|z
 ·by_cases z:a<c
  ·exact z
  ·exact absurd (List.lt_of_le_of_lt (List.not_lt.mp z) h) g
 ·omega
theorem zH(r:bQ)(R:Uh bQ):fO (r::R)=match r.2 with|some x=>some x|none=>fO R:=by
 unfold fO;rw[List.findSome?_cons];cases r.2<;>rfl
theorem ua{R:Uh bQ}{x:Uc}(h:fO R=some x):∃r∈R,r.2=some x:=by
 obtain⟨r,hr,e⟩:=List.exists_of_findSome?_eq_some h;exact⟨r,hr,e⟩
variable{L:Nat}{R:Uh bQ}
theorem Dp{T:bQ->bQ->Prop}(h:R.Pairwise T){r s:bQ}(hr:r∈R)(hs:s∈R):r=s\/T r s\/T s r:=by
 obtain⟨i,hi,rfl⟩:=mem_iff_getElem.mp hr;obtain⟨j,hj,rfl⟩:=mem_iff_getElem.mp hs;rw[pairwise_iff_getElem] at h
 rcases lt_trichotomy i j with z|z|z
 ·exact .inr (.inl (h i j hi hj z))
 ·subst z;exact .inl rfl
 ·exact .inr (.inr (h j i hj hi z))
theorem bu.rise(O:bu L R){r s:bQ}{x y:Uc}(hr:r∈R)(hs:s∈R)(h:r.1<s.1)(hx:r.2=some x)(hy:s.2=some y):x<y:=by
 have both:=O.up.and O.news
 rcases Dp both hr hs with e|⟨_,e⟩|⟨e,_⟩
 ·subst e;exact absurd h (List.lt_irrefl _)
 ·exact e x y hx hy
 ·exact absurd (List.lt_trans h e) (List.lt_irrefl _)
theorem bu.one(O:bu L R){r s:bQ}(hr:r∈R)(hs:s∈R)(h:r.1=s.1):r=s:=by
 rcases Dp O.up hr hs with e|e|e
 ·exact e
 ·rw[h] at e;exact absurd e (List.lt_irrefl _)
 ·rw[h] at e;exact absurd e (List.lt_irrefl _)
theorem nR{x:Uc}(h:tZ R m=some x):∃r∈R,r.1<m/\r.2=some x:=by
 obtain⟨r,hr,e⟩:=ua h;obtain⟨h1,h2⟩:=mem_filter.mp hr;exact⟨r,List.mem_reverse.mp h1,of_decide_eq_true h2,e⟩
theorem lQ{x:Uc}(h:kZ R m=some x):∃r∈R,¬r.1<m/\r.2=some x:=by
 obtain⟨r,hr,e⟩:=ua h;obtain⟨h1,h2⟩:=mem_filter.mp hr;refine⟨r,h1,?_,e⟩;intro z;rw[jY,decide_eq_true z] at h2;cases h2
theorem bu.xx(O:bu L R)(m:Uc):cu L (tZ R m) (kZ R m) where
 mlo:=λx h=>by obtain⟨r,hr,_,e⟩:=nR h;have:=O.marks r hr x e;exact⟨this.1,by omega⟩
 mhi:=λx h=>by obtain⟨r,hr,_,e⟩:=lQ h;have:=O.marks r hr x e;exact⟨this.1,by omega⟩
theorem bu.NU(O:bu L R)(m:Uc):iA (tZ R m) (kZ R m):=λx y hx hy=>by
 obtain⟨r,hr,h1,e1⟩:=nR hx;obtain⟨s,hs,h2,e2⟩:=lQ hy;exact O.rise hr hs (t6 h1 h2) e1 e2
theorem bu.lens(O:bu L R)(m:Uc):c9 (tZ R m)<=500/\c9 (kZ R m)<=500:=by
 constructor
 ·cases h:tZ R m with
  |none=>exact zero_le _
  |some x=>obtain⟨r,hr,_,e⟩:=nR h;exact(O.marks r hr x e).2
 ·cases h:kZ R m with
  |none=>exact zero_le _
  |some x=>obtain⟨r,hr,_,e⟩:=lQ h;exact(O.marks r hr x e).2
theorem uR.one{w n' w':Nat}{m':Uc}(hL:2<=L)(A:uR L lo hi n w m)(B:uR L lo hi n' w' m'):m=m':=by
 have E:MM.Ends L (bB L 1 0):=jv (K:=L) (h:=1) (j:=0) (by decide) (by omega);obtain rfl:=A.least.one B.least;have h1:=A.at_;have h2:=B.at_;have hw:w=w':=by
  rcases lt_trichotomy w w' with z|z|z
  ·have:=ju (by omega) E (show w+1<=w' by omega);have:=ri (by omega) E w;rw[A.own] at this;simp at this
   omega
  ·exact z
  ·have:=ju (by omega) E (show w'+1<=w by omega);have:=ri (by omega) E w';rw[B.own] at this;simp at this
   omega
 subst hw;rw[A.eq,B.eq]
def vI(L:Nat)(R:Uh bQ)(m:Uc)(v:Ug):Prop:=(∃r∈R,r.1=m/\v=r.2)\/((∀r∈R,r.1≠m)/\∃n w s,uR L (tZ R m) (kZ R m) n w s/\v=some (s++m))
theorem vI.one(O:bu L R)(hL:2<=L){v v':Ug}(A:vI L R m v)(B:vI L R m v'):v=v':=by
 rcases A with⟨r,hr,e,rfl⟩|⟨h1,n,w,s,S,rfl⟩<;>rcases B with⟨r',hr',e',rfl⟩|⟨h2,n',w',s',S',rfl⟩
 ·rw[O.one hr hr' (e.trans e'.symm)]
 ·exact absurd e (h2 r hr)
 ·exact absurd e' (h1 r' hr')
 ·rw[S.one hL S']
theorem vI.len(O:bu L R)(hL:2<=L){x:Uc}(M:Mark L m)(A:vI L R m (some x)):Mark L x/\x.length<=501+m.length:=by
 rcases A with⟨r,hr,e,h⟩|⟨h1,n,w,s,S,h⟩
 ·have:=O.marks r hr x h.symm;exact⟨this.1,by omega⟩
 ·injection h with h
  subst h;obtain⟨a1,a2,a3,a4,_⟩:=S.all hL (O.xx m) (O.NU m);have:=O.lens m;exact⟨⟨a1.ls.app M.ls,Na.app M.na M.ne,by simp[M.ne]⟩,by rw[length_append];omega⟩
def uc(K:W.Frag)(H:Hp)(p:Addr)(R:Uh bQ):Prop:=∃xs,aX K H p xs/\d9 H xs (R.map nQ)
theorem uc.get{R:Uh bQ}(h:uc K H p R){r:bQ}(hi:R[i]?=some r):∃xs t,aX K H p xs/\xs[i]?=some (.ref t)/\dU K H t [aD r.1,oV r.2]:=by
 obtain⟨xs,a,b⟩:=h;have hl:=b.len;rw[length_map] at hl;have hlt:i<R.length:=(List.getElem?_eq_some_iff.mp hi).1;obtain⟨x,hx⟩:=some_at (l:=xs) (i:=i) (by omega);obtain⟨q,t,e1,e2,e3⟩:=b.get hx;rw[getElem?_map,hi] at e1;cases e1;subst e2;exact⟨xs,t,a,hx,dU.of e3⟩
def ud(K:W.Frag):Sp:=λvs H Q _=>∃(p:Addr) (R:Uh bQ) (m:Uc),vs=[.ref p,.str (txt m)]/\uc K H p R/\R.Pairwise (λa b=>a.1<b.1)/\R.length<=10000/\
 ∀k,k<=R.length->(∀r∈R.take k,r.1<m)->(∀r∈R.drop k,¬r.1<m)->Q (.int (k:Nat)) H
def ue(K:W.Frag):TS:=
  aI (bg (tC (.int 0)) (aG 2))
   (aI (bg (dJ (cz K) (ah (ai 0) av)) (aG 3))
   (aI (oW (bD (aP yQ (ai 2) (ai 3))) (aI (bg (aP nc (aP bE (ai 2) (ai 3)) (tC (.int 2))) (aG 4))
   (dP (bD (aP NH (aP (bH K) (aP (dQ K) (ai 0) (ai 4)) (tC (.int 0))) (ai 1))) (bg (aP bE (ai 4) (tC (.int 1))) (aG 2)) (bg (ai 4) (aG 3)))))
   (bG (ai 2))))
def IK(p:Addr)(R:Uh bQ)(m:Uc)(H:Hp):Nat->St->Hp->Prop:=λc σ H'=>∃(f l:Nat) (v4:Option V),H'=H/\σ=[some (.ref p),some (.str (txt m)),some (.int f),some (.int l),v4]/\f<=l/\l<=R.length/\c=l-f/\
 (∀i r,R[i]?=some r->i<f->r.1<m)/\∀i r,R[i]?=some r->l<=i->¬r.1<m
theorem zI(hN:N.length=5)(h:ud K vs H Q E):ue K {nx:=λ_ H'=>Q .non H',rt:=Q} (L2.start N vs) H:=by
 obtain⟨p,R,m,rfl,hA,up,hl,q⟩:=h;unfold ue L2.start;rw[hN];refine aW λc hc=>?_;nofun;refine hc _ _ ?_;clear hc c;refine aW λc hc=>?_;nofun;obtain⟨xs,hq,hp⟩:=id hA;have hxl:=hp.len;rw[length_map] at hxl;refine bZ hq (hc _ _ ?_);clear hc c;rw[hxl];refine aT λc hc=>?_;refine sQ (IK p R m H) R.length ⟨0,R.length,none,rfl,rfl,zero_le _,le_refl _,rfl,λi r _ h=>absurd h (not_lt_zero _),λi r e h=>absurd (List.getElem?_eq_some_iff.mp e).1 (by omega)⟩ ?_;rintro cc σ H' ⟨f,l,v4,rfl,rfl,h1,h2,rfl,h3,h4⟩ W hT hF;nofun
 by_cases z:(f:Int)<(l:Int)
 ·rw[decide_eq_true z];refine hT _ ?_;refine aW λc2 hc2=>?_;nofun;refine⟨cdiv (by decide) (by decide),hc2 _ _ ?_⟩;clear hc2 c2;rw[show ((f:Int)+(l:Int))/2=(((f+l)/2:Nat):Int) by omega]
  generalize hg:(f+l)/2=g;obtain⟨r,hr⟩:=some_at (l:=R) (i:=g) (by omega);obtain⟨ys,t,b1,b2,b3⟩:=hA.get hr;nofun;refine cD b1 (by omega) (by rw[toNat_natCast];exact b2) ?_;refine aZ (v:=aD r.1) b3 (by decide) rfl ?_;simp? [aD]
  have gt:∀i r',R[i]?=some r'->g<=i->¬r.1<m->¬r'.1<m:=λi r' e hi hn hm=>by
   rcases eq_or_lt_of_le hi with e2|e2
   ·subst e2;rw[hr] at e;cases e;exact hn hm
   ·obtain⟨a1,a2⟩:=List.getElem?_eq_some_iff.mp hr;obtain⟨a3,a4⟩:=List.getElem?_eq_some_iff.mp e;have:=pairwise_iff_getElem.mp up g i a1 a3 e2;rw[a2,a4] at this;exact hn (List.lt_trans this hm)
  have lt:∀i r',R[i]?=some r'->i<g+1->r.1<m->r'.1<m:=λi r' e hi hm=>by
   rcases eq_or_lt_of_le (Nat.le_of_lt_succ hi) with e2|e2
   ·subst e2;rw[hr] at e;cases e;exact hm
   ·obtain⟨a1,a2⟩:=List.getElem?_eq_some_iff.mp hr;obtain⟨a3,a4⟩:=List.getElem?_eq_some_iff.mp e;have:=pairwise_iff_getElem.mp up i g a3 a1 e2;rw[a2,a4] at this;exact List.lt_trans this hm
  refine⟨_,_,rfl,rfl,_,rfl,?_⟩
  by_cases y:r.1<m
  ·rw[if_pos (decide_eq_true y)];exact⟨_,show l-(g+1)<l-f by omega,g+1,l,_,rfl,rfl,by omega,h2,rfl,λi r' e hi=>lt i r' e hi y,h4⟩
  ·rw[if_neg (by rw[decide_eq_false y];decide)];exact⟨_,show g-f<l-f by omega,f,g,_,rfl,rfl,by omega,by omega,rfl,h3,λi r' e hi=>gt i r' e hi y⟩
 ·rw[decide_eq_false z];refine hF _ (hc _ _ ?_);nofun;have e:f=l:=by omega
  subst e;refine q f h2 (λr hr=>?_) λr hr=>?_
  ·obtain⟨i,hi,rfl⟩:=mem_iff_getElem.mp hr;rw[length_take] at hi;exact h3 i _ (by rw[List.getElem_take];exact getElem?_eq_getElem (by omega)) (by omega)
  ·obtain⟨i,hi,rfl⟩:=mem_iff_getElem.mp hr;rw[length_drop] at hi;exact h4 (f+i) _ (by rw[List.getElem_drop];exact getElem?_eq_getElem (by omega)) (by omega)
def nS(K:W.Frag):Sp:=λvs H Q _=>∃(p:Addr) (R:Uh bQ),vs=[.ref p]/\uc K H p R/\Q (oV (fO R)) H
def uf(K:W.Frag):TS:=
  aI (gQ (bS K (ai 0)) (yx K 2 (kI (aG 1) (kI (aG 2) yw))) (dP (tB (gc (ai 2))) (bG (ai 2)) (cJ)))
   (bG (tC .non))
theorem zJ{R:Uh bQ}{r:bQ}(h:R[i]?=some r):fO (R.drop i)=match r.2 with|some x=>some x|none=>fO (R.drop (i+1)):=by
 rw[zD h];exact(zH r _).trans (by cases r.2<;>rfl)
theorem zK(hN:N.length=3)(h:nS K vs H Q E):uf K {nx:=λ_ H'=>Q .non H',rt:=Q} (L2.start N vs) H:=by
 obtain⟨p,R,rfl,⟨xs,hq,hp⟩,q⟩:=h;unfold uf L2.start;rw[hN];have hxl:=hp.len;rw[length_map] at hxl;refine aT λc hc=>?_;nofun;refine nj (a:=p) (xs:=xs) (λQ h=>⟨_,rfl,h⟩) hq (λi σ H'=>∃(v1 v2:Option V),H'=H/\σ=[some (.ref p),v1,v2]/\fO (R.drop i)=fO R) ⟨_,_,rfl,rfl,by rw[drop_zero]⟩ (λi σ H' _ h=>by obtain⟨_,_,e,_⟩:=h;rw[e];exact hq) ?_ ?_
 ·rintro i x σ H' hx ⟨v1,v2,rfl,rfl,hf⟩;obtain⟨k,t,ek,rfl,ht⟩:=hp.get hx;rw[getElem?_map] at ek;obtain⟨⟨m,v⟩,ek2,rfl⟩:=map_eq_some_iff.mp ek;rw[zJ ek2] at hf;simp? [yx,kI,yw,nQ]
  refine⟨[aD m,oV v],dU.of ht,rfl,aD m,[oV v],rfl,oV v,[],rfl,rfl,?_⟩;cases v with
  |none=>
   simp? [oV]
   exact⟨_,_,rfl,hf⟩
  |some y=>
   simp? [oV]
   rw[<-hf] at q;exact q
 ·rintro σ H' ⟨v1,v2,rfl,rfl,hf⟩;refine hc _ _ ?_;nofun;rw[<-hf,List.drop_of_length_le (by omega)] at q;exact q
def kO:Ug->Key
 |none=>.non
 |some l=>.inr (txt l)
theorem Sj(o:Ug):kV (kO o)=oV o:=by cases o<;>rfl
theorem IL{a b:Ug}(h:kO a=kO b):a=b:=by
 cases a<;>cases b
 ·rfl
 ·cases h
 ·cases h
 ·injection h with h;rw[dN.mp h]
def fP(L:Nat)(kvs:Uh (Uh Key×V)):Prop:=∀lo hi v,c5 kvs [kO lo,kO hi]=some v->∃n w s,v=aD s/\uR L lo hi n w s
theorem fP.nil(L:Nat):fP L []:=λlo hi v h=>by cases h
theorem fP.put{kvs:Uh (Uh Key×V)}(h:fP L kvs){w:Nat}{s:Uc}(S:uR L lo hi n w s):fP L (putK kvs [kO lo,kO hi] (aD s)):=λlo' hi' v e=>by
 rw[tw] at e;split at e
 ·rename_i q
  injection q with q1 q2
  injection q2 with q2 _
  rw[IL q1,IL q2];injection e with e
  exact⟨n,w,s,e.symm,S⟩
 ·exact h _ _ _ e
def BE(K:W.Frag):Sp:=λvs H Q _=>∃(L:Nat) (p d:Addr) (R:Uh bQ) (m:Uc) (kvs:Uh (Uh Key×V)),vs=[.int L,.ref p,.str (txt m),.ref d]/\2<=L/\L<=26/\uc K H p R/\bu L R/\Mark L m/\m.length<=90000/\
 H d=some (.dT kvs)/\fP L kvs/\kvs.length<=100000/\
 ∀H' v kvs',Keeps [d] H H'->H' d=some (.dT kvs')->fP L kvs'->kvs'.length<=kvs.length+1->vI L R m v->Q (oV v) H'
def BF(K:W.Frag)(c:Addr):TS:=
  aI (bg (aH (ud K) [] E0 (ah (ai 1) (ah (ai 2) av))) (aG 4))
   (aI (dP (mX (bD (aP yQ (ai 4) (dJ (cz K) (ah (ai 1) av)))) (bD (aP ED (aP (bH K) (aP (dQ K) (ai 1) (ai 4)) (tC (.int 0))) (ai 2)))) (bG (aP (bH K) (aP (dQ K) (ai 1) (ai 4)) (tC (.int 1)))) (cJ))
   (aI (bg (aH (nS K) [] E0 (ah (nE K (ah (GG (vY K) (ai 1) fz (kJ (ai 4))) av)) av)) (aG 5))
   (aI (bg (aH (nS K) [] E0 (ah (GG (vY K) (ai 1) (kJ (ai 4)) fz) av)) (aG 6))
   (aI (dP (bD (aP (E9 true) (iL (ah (ai 5) (ah (ai 6) av))) (ai 3))) (jW (ai 3) (iL (ah (ai 5) (ah (ai 6) av))) (aH (BC c) [] E0 (ah (ai 0) (ah (ai 5) (ah (ai 6) av))))) (cJ))
   (bG (aP G0 (fu (ai 3) (iL (ah (ai 5) (ah (ai 6) av)))) (ai 2)))))))
theorem d9.take:∀{xs:Uh V} {ps:Uh (V×V)} (n:Nat),d9 H xs ps->d9 H (xs.take n) (ps.take n)
 |[],[],n,_=>by simp[d9]
 |[],_::_,_,h=>h.elim
 |_::_,[],_,h=>h.elim
 |_::_,_::_,0,_=>trivial
 |_::_,_::_,n+1,⟨a,r⟩=>⟨a,d9.take n r⟩
theorem d9.drop:∀{xs:Uh V} {ps:Uh (V×V)} (n:Nat),d9 H xs ps->d9 H (xs.drop n) (ps.drop n)
 |[],[],n,_=>by simp[d9]
 |[],_::_,_,h=>h.elim
 |_::_,[],_,h=>h.elim
 |_::_,_::_,0,h=>h
 |_::_,_::_,n+1,⟨_,r⟩=>d9.drop n r
theorem d9.rev:∀{xs:Uh V} {ps:Uh (V×V)},d9 H xs ps->d9 H xs.reverse ps.reverse
 |[],[],_=>trivial
 |[],_::_,h=>h.elim
 |_::_,[],h=>h.elim
 |_::_,_::_,⟨a,r⟩=>by
  rw[List.reverse_cons,List.reverse_cons];exact d9.app (d9.rev r) ⟨a,trivial⟩
section
variable{L:Nat}{R:Uh bQ}{m:Uc}{k:Nat}
theorem vJ(h1:∀r∈R.take k,r.1<m)(h2:∀r∈R.drop k,¬r.1<m):R.filter (jY m)=R.take k/\R.filter (λr=>!jY m r)=R.drop k:=by
 have a1:(R.take k).filter (jY m)=R.take k:=List.filter_eq_self.mpr λr hr=>decide_eq_true (h1 r hr);have a2:(R.drop k).filter (jY m)=[]:=filter_eq_nil_iff.mpr λr hr=>by rw[jY,decide_eq_false (h2 r hr)];decide
 have a3:(R.take k).filter (λr=>!jY m r)=[]:=filter_eq_nil_iff.mpr λr hr=>by rw[jY,decide_eq_true (h1 r hr)];decide
 have a4:(R.drop k).filter (λr=>!jY m r)=R.drop k:=List.filter_eq_self.mpr λr hr=>by rw[jY,decide_eq_false (h2 r hr)];rfl
 constructor
 ·conv=>lhs;rw[<-take_append_drop k R]
  rw[filter_append,a1,a2,append_nil]
 ·conv=>lhs;rw[<-take_append_drop k R]
  rw[filter_append,a3,a4,nil_append]
theorem IM(h1:∀r∈R.take k,r.1<m)(h2:∀r∈R.drop k,¬r.1<m):fO (R.take k).reverse=tZ R m:=by
 unfold tZ;rw[List.filter_reverse,(vJ h1 h2).1]
theorem FJ(h1:∀r∈R.take k,r.1<m)(h2:∀r∈R.drop k,¬r.1<m):fO (R.drop k)=kZ R m:=by
 unfold kZ;rw[(vJ h1 h2).2]
theorem IP(up:R.Pairwise λa b=>a.1<b.1)(h1:∀r∈R.take k,r.1<m)(h2:∀r∈R.drop k,¬r.1<m)(h3:∀r,R[k]?=some r->r.1≠m):∀r∈R,r.1≠m:=λr hr e=>by
 rw[<-take_append_drop k R] at hr
 rcases mem_append.mp hr with hr|hr
 ·have:=h1 r hr;rw[e] at this;exact List.lt_irrefl _ this
 ·obtain⟨i,hi,rfl⟩:=mem_iff_getElem.mp hr;rw[length_drop] at hi;rw[List.getElem_drop] at e;cases i with
  |zero=>exact h3 _ (getElem?_eq_getElem (by omega)) e
  |succ i=>
   have:=pairwise_iff_getElem.mp up k (k+(i+1)) (by omega) (by omega) (by omega);rw[e] at this;exact h2 R[k] (by rw[drop_eq_getElem_cons (show k<R.length by omega)];exact mem_cons_self) this
end
theorem ug{lo hi:Option Int}(h:aX K H a xs)(q:∀p,H p=none->Q (.ref p) (upd H p (.lst (vU xs lo hi)))):vY K (.ref a) lo hi H Q:=⟨a,xs,rfl,h,q⟩
theorem Keeps.of_same(s:aF H H'):Keeps F H H':=λb o e _=>s b o e
theorem FL(hN:N.length=7)(h:BE K vs H Q E):BF K c {nx:=λ_ H'=>Q .non H',rt:=Q} (L2.start N vs) H:=by
 obtain⟨L,p,d,R,m,kvs,rfl,hL,fH,hA,O,M,hm,hd,hst,hkv,q⟩:=h;unfold BF L2.start;rw[hN];refine aW λc1 hc=>?_;nofun;refine⟨p,R,m,rfl,hA,O.up,O.len,λk hk h1 h2=>hc _ _ ?_⟩;clear hc c1;obtain⟨xs,hq,hp⟩:=id hA;have hxl:=hp.len;rw[length_map] at hxl;refine aT λc1 hc=>?_;suffices main:(∀r∈R,r.1≠m)->c1 [some (.int L),some (.ref p),some (.str (txt m)),some (.ref d),some (.int k),none,none] H by
  nofun;refine bZ hq ⟨_,rfl,?_⟩;rw[hxl]
  by_cases z:(k:Int)<(R.length:Int)
  ·rw[if_pos z];obtain⟨r,hr⟩:=some_at (l:=R) (i:=k) (by omega);obtain⟨ys,t,b1,b2,b3⟩:=hA.get hr;refine cD b1 (by omega) (by rw[toNat_natCast];exact b2) ?_;refine aZ (v:=aD r.1) b3 (by decide) rfl ?_;refine⟨rfl,?_⟩
   by_cases e:r.1=m
   ·rw[if_pos (by rw[e];rfl)];refine cD b1 (by omega) (by rw[toNat_natCast];exact b2) ?_;refine aZ (v:=oV r.2) b3 (by decide) rfl ?_;exact q H _ kvs (Keeps.of_same (aF.refl _)) hd hst (by omega) (.inl ⟨r,mem_of_getElem? hr,e,rfl⟩)
   ·rw[if_neg (λz=>e (dN.mp (by injection z)))];exact main (IP O.up h1 h2 λr' hr'=>by rw[hr] at hr';cases hr';exact e)
  ·rw[if_neg z];exact main (IP O.up h1 h2 λr' hr'=>absurd (List.getElem?_eq_some_iff.mp hr').1 (by omega))
 intro hno;refine hc _ _ ?_;clear hc c1;refine aW λc1 hc=>?_;simp? [nE]
 refine ug hq λp1 hp1=>?_;rw[Dm (by omega)];have s1:=aF.up H hp1 (o:=.lst (xs.take k));refine⟨p1,rfl,xs.take k,aX.here,λp2 hp2=>?_⟩;have s2:=s1.new hp2 (o:=.lst (xs.take k).reverse);refine⟨p2,(R.take k).reverse,rfl,⟨_,aX.here,?_⟩,hc _ _ ?_⟩
 ·have:=(hp.take k).rev;rw[<-List.map_take,<-List.map_reverse] at this;exact this.same s2
 clear hc c1;rw[IM h1 h2];generalize upd (upd H p1 _) p2 _=H2 at s2 ⊢;refine aW λc1 hc=>?_;nofun;refine ug (s2.seq hq) λp3 hp3=>?_;rw[pV (by omega)];have s3:=s2.new hp3 (o:=.lst (xs.drop k));refine⟨p3,R.drop k,rfl,⟨_,aX.here,?_⟩,hc _ _ ?_⟩
 ·have:=hp.drop k;rw[<-List.map_drop] at this;exact this.same s3
 clear hc c1;rw[FJ h1 h2];generalize upd H2 p3 _=H3 at s3 ⊢;have hlen:=O.lens m;have hok:=O.NU m;have hMk:=O.xx m;generalize elo:tZ R m=lo at hlen hok hMk ⊢;generalize ehi:kZ R m=hi at hlen hok hMk ⊢;have ek:[oV lo,oV hi]=[kO lo,kO hi].map kV:=by simp[Sj]
 refine aT λc1 hc=>?_;suffices main:∀H5 BG s n w,Keeps [d] H H5->H5 d=some (.dT BG)->fP L BG->BG.length<=kvs.length+1->c5 BG [kO lo,kO hi]=some (aD s)->uR L lo hi n w s->
   c1 [some (.int L),some (.ref p),some (.str (txt m)),some (.ref d),some (.int k),some (oV lo),some (oV hi)] H5 by
  nofun;refine⟨by decide,λt ht=>?_⟩;have s4:=s3.new ht (o:=.tup [oV lo,oV hi]);have hT:(upd H3 t (.tup [oV lo,oV hi])) t=some (.tup ([kO lo,kO hi].map kV)):=by rw[<-ek];exact aq
  generalize upd H3 t _=H4 at s4 hT ⊢;have hd4:=s4 _ _ hd;refine⟨d,c5 kvs [kO lo,kO hi],rfl,iQ.t hd4 hT,_,rfl,?_⟩;cases ev:c5 kvs [kO lo,kO hi] with
  |some v=>
   obtain⟨n,w,s,rfl,S⟩:=hst _ _ _ ev;rw[if_neg (by simp)];exact main H4 kvs s n w (Keeps.of_same s4) hd4 hst (by omega) ev S
  |none=>
   rw[if_pos (by simp)];simp? [jW]
   refine⟨L,lo,hi,rfl,hL,fH,hMk,λ_ H5 n w s s5 S=>?_,λno=>absurd hok no⟩;refine⟨by decide,λt2 ht2=>?_⟩;have s6:=(s4.trans s5).new ht2 (o:=.tup [oV lo,oV hi]);have hT2:(upd H5 t2 (.tup [oV lo,oV hi])) t2=some (.tup ([kO lo,kO hi].map kV)):=by rw[<-ek];exact aq
   generalize upd H5 t2 _=H6 at s6 hT2 ⊢;refine⟨_,tE.t (s6 _ _ hd) hT2 (by rw[sizeLine_eq];omega),?_⟩;exact main _ _ s n w ((Keeps.of_same s6).upd (.inl mem_cons_self)) aq (hst.put S) (gf _ _ _) (by rw[tw,if_pos rfl];rfl) S
 intro H5 BG s n w k5 hd5 st5 Sk ev5 S;refine hc _ _ ?_;clear hc c1;simp? [fu]
 refine⟨by decide,λt ht=>?_⟩;have hT:(upd H5 t (.tup [oV lo,oV hi])) t=some (.tup ([kO lo,kO hi].map kV)):=by rw[<-ek];exact aq
 have ne:d≠t:=λz=>by subst z;rw[hd5] at ht;cases ht
 have hd6:(upd H5 t (.tup [oV lo,oV hi])) d=some (.dT BG):=by rw[aE ne];exact hd5
 have k6:Keeps [d] H (upd H5 t (.tup [oV lo,oV hi])):=k5.upd (.inr ht);generalize upd H5 t _=H6 at hT hd6 k6 ⊢;refine⟨aD s,by rw[<-ev5];exact iQ.t hd6 hT,?_⟩;obtain⟨_,b2,_,b4,_⟩:=S.all hL hMk hok;have hz:s.length<=501:=by rw[b2];omega
 refine CU (by omega) ?_;exact q H6 (some (s++m)) BG k6 hd6 st5 Sk (.inr ⟨hno,n,w,s,by rw[elo,ehi];exact S,rfl⟩)
structure gg(K:W.Frag)(C:Addr):Prop where
 cls:EH K C
 nl:dH K C "letters"
 nh:dH K C "hands"
 nn:dH K C "own_number"
 nr:dH K C "renewals"
 nt:dH K C "thing_of"
 nk:dH K C "taken"
def cC(L h j:Nat)(pr pt pk:Addr):Uh (Str×V):=[("letters",.int L),("hands",.int h),("own_number",.int j),("renewals",.ref pr),("thing_of",.ref pt),("taken",.ref pk)]
def fF(kvs:Ue):Uh (Key×V):=kvs.map λkv=>(Key.inr (txt kv.1),aD kv.2)
def qB(ks:Ud):Uh (Key×V):=ks.map λm=>(Key.inr (txt m),.bl true)
structure iT(C:Addr)(H:Hp)(x dx pr pt pk:Addr)(L h j:Nat)(kvs:Ue)(ks:Ud):Prop where
 ins:H x=some (.ins C dx (cC L h j pr pt pk))
 own:H dx=some (.own x)
 tho:H pt=some (.dK (fF kvs))
 tak:H pk=some (.dK (qB ks))
 apart:pt≠pk
theorem iT.same{x pr pt:Addr}(S:iT C H x dx pr pt pk L h j kvs ks)(s:aF H H'):iT C H' x dx pr pt pk L h j kvs ks:=⟨s _ _ S.ins,s _ _ S.own,s _ _ S.tho,s _ _ S.tak,S.apart⟩
theorem IQ(kvs:Ue):fF kvs=(kvs.map λkv=>(kv.1,aD kv.2)).map λkv=>(Key.inr (txt kv.1),kv.2):=by
 unfold fF;rw[map_map];rfl
theorem xy(m:Uc):∀ks:Ud,(c5 (qB ks) (Key.inr (txt m))).isSome=decide (m∈ks)
 |[]=>by simp[qB,tu]
 |k::ks=>by
  have ih:=xy m ks;show (c5 ((Key.inr (txt k),V.bl true)::qB ks) _).isSome=_
  by_cases e:k=m
  ·subst e;rw[cW rfl];simp
  ·rw[cF (λz=>e (dN.mp (by injection z))),ih];simp[Ne.symm e]
section
variable{K:W.Frag}{C:Addr}{H:Hp}{x dx pr pt pk:Addr}{L h j:Nat}{kvs:Ue}{ks:Ud}{σ:St}{i:Nat}{Q:VK}
theorem BH(S:iT C H x dx pr pt pk L h j kvs ks)(c:gg K C)(e:σ[i]?=some (some (.ref x)))(q:Q (.int L) H):eK K (ai i) "letters" σ H Q:=⟨_,e,x,C,dx,_,_,rfl,S.ins,c.cls,c.nl,rfl,q⟩
theorem IS(S:iT C H x dx pr pt pk L h j kvs ks)(c:gg K C)(e:σ[i]?=some (some (.ref x)))(q:Q (.int h) H):eK K (ai i) "hands" σ H Q:=⟨_,e,x,C,dx,_,_,rfl,S.ins,c.cls,c.nh,rfl,q⟩
theorem BI(S:iT C H x dx pr pt pk L h j kvs ks)(c:gg K C)(e:σ[i]?=some (some (.ref x)))(q:Q (.int j) H):eK K (ai i) "own_number" σ H Q:=⟨_,e,x,C,dx,_,_,rfl,S.ins,c.cls,c.nn,rfl,q⟩
theorem BJ(S:iT C H x dx pr pt pk L h j kvs ks)(c:gg K C)(e:σ[i]?=some (some (.ref x)))(q:Q (.ref pr) H):eK K (ai i) "renewals" σ H Q:=⟨_,e,x,C,dx,_,_,rfl,S.ins,c.cls,c.nr,rfl,q⟩
theorem pW(S:iT C H x dx pr pt pk L h j kvs ks)(c:gg K C)(e:σ[i]?=some (some (.ref x)))(q:Q (.ref pt) H):eK K (ai i) "thing_of" σ H Q:=⟨_,e,x,C,dx,_,_,rfl,S.ins,c.cls,c.nt,rfl,q⟩
theorem xA(S:iT C H x dx pr pt pk L h j kvs ks)(c:gg K C)(e:σ[i]?=some (some (.ref x)))(q:Q (.ref pk) H):eK K (ai i) "taken" σ H Q:=⟨_,e,x,C,dx,_,_,rfl,S.ins,c.cls,c.nk,rfl,q⟩
end
def g7(C:Addr):Sp:=λvs H Q _=>∃(x dx pr pt pk:Addr) (L h j:Nat) (kvs:Ue) (ks:Ud),vs=[.ref x]/\iT C H x dx pr pt pk L h j kvs ks/\kvs.length<64/\(kvs.map (·.1)).Nodup/\
 ∀H' p (zs:Ud),aF H H'->H' p=none->zs.Pairwise (·<·)->(∀m,m∈zs↔m∈kvs.map (·.1)/\¬m∈ks)->Q (.ref p) (upd H' p (.lst (zs.map aD)))
def uh(K:W.Frag):TS:=bG (eG (bS K (dJ nI (ah (eK K (ai 0) "thing_of") av))) [0] (bD (aP (E9 true) (ai 0) (eK K (ai 1) "taken"))) (ai 0))
def PY(H:Hp)(zs:Ud)(ks:Ud):Nat->Uh V->Hp->Prop:=λi ys H'=>H'=H/\ys=((zs.take i).filter λm=>!decide (m∈ks)).map aD
theorem zL(cl:gg K C)(hN:N.length=1)(h:g7 C vs H Q E):uh K {nx:=λ_ H'=>Q .non H',rt:=Q} (L2.start N vs) H:=by
 obtain⟨x,dx,pr,pt,pk,L,h,j,kvs,ks,rfl,S,h64,hnd,q⟩:=h;unfold uh L2.start;rw[hN];nofun;refine wF λR0 hR0=>?_;simp? [bS]
 refine pW S cl rfl ⟨pt,kvs.map λkv=>(kv.1,aD kv.2),rfl,by rw[<-IQ];exact S.tho,by rw[length_map];exact h64,λl zs hl hpm hle=>⟨l,rfl,⟨_,aX.here⟩,?_⟩⟩
 rw[hR0];have hk:(kvs.map λkv=>(kv.1,aD kv.2)).map (·.1)=kvs.map (·.1):=by rw[map_map];rfl
 rw[hk] at hpm;have zlt:=gD hle (hpm.nodup_iff.mpr hnd);have s1:=aF.up H hl (o:=.lst (zs.map aD));have S1:=S.same s1;have hZ:(upd H l (.lst (zs.map aD))) l=some (.lst (zs.map aD)):=aq;generalize upd H l _=H1 at s1 S1 hZ ⊢;have zl:zs.length<64:=by rw[hpm.length_eq,length_map];exact h64
 refine nu (K:=K) (xs:=zs.map aD) (σ:=[some (.ref x)]) (fs:=[0]) (tt:=bD (aP (E9 true) (ai 0) (eK K (ai 1) "taken"))) (te:=ai 0) (Q:=Q) (PY H1 zs ks) ⟨rfl,rfl⟩ (λi ys H' _ p=>by
  obtain⟨e,e2⟩:=p;rw[e,e2,length_map];refine⟨aX.of hZ,Nat.le_trans (length_filter_le _ _) ?_⟩;rw[length_take];exact Nat.min_le_left _ _) (by rw[length_map,sizeLine_eq];omega) ?_ ?_
 ·rintro i v ys H' hv ⟨rfl,rfl⟩ W hW;rw[getElem?_map] at hv;obtain⟨m,hm,rfl⟩:=map_eq_some_iff.mp hv;simp? [aD]
  refine xA S1 cl rfl ⟨pk,_,rfl,iQ.k (k:=Key.inr (txt m)) S1.tak,_,rfl,?_⟩;rw[xy];have etk:zs.take (i+1)=zs.take i++[m]:=by rw[take_add_one,hm];rfl
  by_cases z:m∈ks
  ·rw[if_neg (by simp[z])];refine hW _ _ ⟨rfl,?_⟩;rw[etk,filter_append];simp[z]
  ·rw[if_pos (by simp[z])];refine hW _ _ ⟨rfl,?_⟩;rw[etk,filter_append,map_append];simp[z,aD]
 ·rintro ys H' ⟨rfl,rfl⟩ p hp;rw[length_map,take_length];refine q H' p _ s1 hp (zlt.filter _) λm=>?_;rw[mem_filter,hpm.mem_iff];simp
def iI(lo:Ug)(m:Uc):Bool:=match lo with|none=>true|some l=>decide (l<m)
def pX(K:W.Frag)(C:Addr):Sp:=λvs H Q _=>∃(x dx pr pt pk:Addr) (L h j:Nat) (kvs:Ue) (ks:Ud) (lo:Ug),vs=[.ref x,oV lo]/\iT C H x dx pr pt pk L h j kvs ks/\kvs.length<=10000/\
 ∀H' v,aF H H'->(v=none->∀k∈kvs.map (·.1),iI lo k=false)->(∀m,v=some m->m∈kvs.map (·.1)/\iI lo m=true/\∀k∈kvs.map (·.1),iI lo k=true->¬k<m)->Q (oV v) H'
def pY(K:W.Frag):TS:=bG (ze K (Ik (eG (C8 (eK K (ai 0) "thing_of")) [1] (Af (tB (uJ (ai 1))) (bD (aP NH (ai 1) (ai 0)))) (ai 0))) (tC .non))
theorem xB(cl:gg K C)(hN:N.length=2)(h:pX K C vs H Q E):pY K {nx:=λ_ H'=>Q .non H',rt:=Q} (L2.start N vs) H:=by
 obtain⟨x,dx,pr,pt,pk,L,h,j,kvs,ks,lo,rfl,S,hl,q⟩:=h;unfold pY L2.start;rw[hN];simp? [ze]
 refine NT (a:=pt) (kvs:=fF kvs) (λQ h=>pW S cl rfl h) S.tho (λi ys H'=>(∀b,b≠pt->H' b=H b)/\ys=(((kvs.map (·.1)).take i).filter (iI lo)).map aD) (λH' k=>⟨k,rfl⟩)
  (λi ys H' _ p=>by
   rw[p.2,length_map];refine Nat.le_trans (length_filter_le _ _) ?_;rw[length_take];exact Nat.min_le_left _ _) (by rw[fF,length_map,sizeLine_eq];omega) ?_ ?_
 ·rintro i k v ys H' hv ⟨hk,rfl⟩ W hW;unfold fF at hv;rw[getElem?_map] at hv;obtain⟨kv,hm,e⟩:=map_eq_some_iff.mp hv;cases e;have etk:(kvs.map (·.1)).take (i+1)=(kvs.map (·.1)).take i++[kv.1]:=by rw[take_add_one,getElem?_map,hm];rfl
  have yes:iI lo kv.1=true->W ((((kvs.map (·.1)).take i).filter (iI lo)).map aD++[aD kv.1]) H':=λz=>hW _ _ ⟨hk,by rw[etk,filter_append,map_append];simp[z]⟩ rfl;have no:iI lo kv.1=false->W ((((kvs.map (·.1)).take i).filter (iI lo)).map aD) H':=λz=>hW _ _ ⟨hk,by rw[etk,filter_append];simp[z]⟩ rfl;cases lo with
  |none=>
   simp? [kV,oV]
   exact yes rfl
  |some l=>
   simp? [kV,oV]
   refine⟨_,_,rfl,rfl,_,rfl,?_⟩
   by_cases z:l<kv.1
   ·rw[if_pos (decide_eq_true z)];exact yes (decide_eq_true z)
   ·rw[if_neg (by rw[decide_eq_false z];decide)];exact no (decide_eq_false z)
 ·rintro ys H' ⟨hk,rfl⟩ p hp hne;have eH:upd H' pt (.dK (fF kvs))=H:=by
   funext b
   by_cases z:b=pt
   ·subst z;rw[aq];exact S.tho.symm
   ·rw[aE z];exact hk b z
  rw[eH];have hpH:H p=none:=by rw[<-hk p hne];exact hp
  have s1:=aF.up H hpH (o:=.lst ((((kvs.map (·.1)).take (fF kvs).length).filter (iI lo)).map aD));have full:(kvs.map (·.1)).take (fF kvs).length=kvs.map (·.1):=List.take_of_length_le (by rw[fF,length_map,length_map];exact le_refl _);refine⟨p,rfl,(((kvs.map (·.1)).take (fF kvs).length).filter (iI lo)),aX.here,λe=>?_,λm hm hmin=>?_⟩
  ·rw[full] at e;refine q _ none s1 (λ_ k hk'=>?_) (λm z=>by cases z);have:=filter_eq_nil_iff.mp e k hk';simpa using this
  ·rw[full] at hm hmin;obtain⟨h1,h2⟩:=mem_filter.mp hm;exact q _ (some m) s1 (λz=>by cases z) λm' z=>by
    cases z;exact⟨h1,h2,λk hk' hb=>hmin k (mem_filter.mpr ⟨hk',hb⟩)⟩
theorem bL{x pr pt:Addr}{m:Str}{sp:Sp}{t:TA}{to:TE}(S:iT C H x dx pr pt pk L h j kvs ks)(ho:∀R:VK,R (.ref x) H->to σ H R)(hm:(cC L h j pr pt pk).lookup m=none)(q:t σ H λvs H2=>sp (.ref x::(vs++[])) H2 Q E):ck C m sp [] E to t σ H Q:=
 ho _ ⟨x,dx,_,rfl,S.ins,hm,q⟩
theorem iT.take{x pr pt:Addr}(S:iT C H x dx pr pt pk L h j kvs ks)(hm:¬m∈ks):iT C (upd H pk (.dK (putK (qB ks) (Key.inr (txt m)) (.bl true)))) x dx pr pt pk L h j kvs (ks++[m]):=by
 have n1:x≠pk:=λz=>by subst z;have:=S.ins.symm.trans S.tak;cases this
 have n2:dx≠pk:=λz=>by subst z;have:=S.own.symm.trans S.tak;cases this
 have e:putK (qB ks) (Key.inr (txt m)) (.bl true)=qB (ks++[m]):=by
  rw[nC _ (by
   have:=xy m ks;rw[decide_eq_false hm] at this;cases w:c5 (qB ks) (Key.inr (txt m)) with
   |none=>rfl
   |some v=>rw[w] at this;cases this)]
  unfold qB;rw[map_append];rfl
 rw[e];exact⟨by rw[aE n1];exact S.ins,by rw[aE n2];exact S.own,by rw[aE S.apart];exact S.tho,aq,S.apart⟩
structure jZ(kvs:Ue)(ks zs:Ud):Prop where
 up:zs.Pairwise (·<·)
 mem:∀m,m∈zs↔m∈kvs.map (·.1)/\¬m∈ks
def nU(C c:Addr):Sp:=λvs H Q E=>∃(x dx pr pt pk:Addr) (L h j:Nat) (kvs:Ue) (ks:Ud) (i:Int),vs=[.ref x,.int i]/\iT C H x dx pr pt pk L h j kvs ks/\kvs.length<64/\(kvs.map (·.1)).Nodup/\ks.length<=10000/\
 ∀zs,jZ kvs ks zs->((0<=i/\i<zs.length)->∀H' m,zs[i.toNat]?=some m->Keeps [pk] H H'->iT C H' x dx pr pt pk L h j kvs (ks++[m])->Q (.str (txt m)) H')/\(¬(0<=i/\i<zs.length)->∀H',aF H H'->E (.ref c) none H')
def xC(K:W.Frag)(C c:Addr)(E:XK):TS:=
  aI (bg (ck C "marks" (g7 C) [] E0 (ai 0) av) (aG 2))
   (aI (cj (aH (jC c) [] E (ah (ai 1) (ah (dJ (cz K) (ah (ai 2) av)) av))))
   (aI (jW (eK K (ai 0) "taken") (aP (dQ K) (ai 2) (ai 1)) (tC (.bl true)))
   (bG (aP (dQ K) (ai 2) (ai 1)))))
theorem BK(cl:gg K C)(hN:N.length=3)(h:nU C c vs H Q E):xC K C c E {nx:=λ_ H'=>Q .non H',rt:=Q} (L2.start N vs) H:=by
 obtain⟨x,dx,pr,pt,pk,L,h,j,kvs,ks,i,rfl,S,h64,hnd,hkl,q⟩:=h;unfold xC L2.start;rw[hN];refine aW λc1 hc=>?_;nofun;refine bL S (λR r=>⟨_,rfl,r⟩) rfl ⟨x,dx,pr,pt,pk,L,h,j,kvs,ks,rfl,S,h64,hnd,λH1 p zs s1 hp up mem=>hc _ _ ?_⟩;clear hc c1;obtain⟨q1,q2⟩:=q zs ⟨up,mem⟩;have s2:=s1.new hp (o:=.lst (zs.map aD));have hZ:(upd H1 p (.lst (zs.map aD))) p=some (.lst (zs.map aD)):=aq;generalize upd H1 p _=H2 at s2 hZ ⊢;have S2:=S.same s2;refine aT λc1 hc=>?_;nofun;refine bZ (aX.of hZ) ?_;rw[length_map];refine⟨i,_,rfl,λhi=>hc _ _ ?_,λhi=>q2 hi H2 s2⟩;clear hc c1;obtain⟨m,hm⟩:=some_at (l:=zs) (i:=i.toNat) (by omega);have hmk:=(mem m).mp (mem_of_getElem? hm);refine aT λc1 hc=>?_;simp? [jW]
 refine xA S2 cl rfl (cD (v:=aD m) (aX.of hZ) hi.1 (by rw[getElem?_map,hm];rfl) ⟨pk,rfl,_,tE.k (k:=Key.inr (txt m)) S2.tak (by rw[qB,length_map,sizeLine_eq];omega),hc _ _ ?_⟩);clear hc c1;have S3:=S2.take hmk.2;have np:p≠pk:=λz=>by subst z;rw[S2.tak] at hZ;cases hZ
 have hZ3:(upd H2 pk (.dK (putK (qB ks) (Key.inr (txt m)) (.bl true)))) p=some (.lst (zs.map aD)):=by rw[aE np];exact hZ
 have k3:Keeps [pk] H (upd H2 pk (.dK (putK (qB ks) (Key.inr (txt m)) (.bl true)))):=(s2.keeps _).upd (.inl mem_cons_self);generalize upd H2 pk _=H3 at S3 hZ3 k3 ⊢;nofun;exact cD (v:=aD m) (aX.of hZ3) hi.1 (by rw[getElem?_map,hm];rfl) (q1 hi H3 m hm k3 S3)
theorem Found.Sl{w:Nat}(F:Found L (bB L h j) lo hi n w m)(D:jX L h j)(M:cu L lo hi)(ok:iA lo hi):
  Mark L m/\m.length<=1+max (c9 lo) (c9 hi)/\(∀l,lo=some l->l<m)/\∀u,hi=some u->m<u:=by
 have hL:=D.l2;have hL0:0<L:=by omega
 have hw:w<L^n:=lt_of_lt_of_le F.lt (ID n hL0 M);have hm:=low_length L w n;rw[<-F.eq] at hm;have h0:w%L≠0:=by have:=((Dg hL0 w).mp F.own).1;omega
 have hn1:=F.least.pos;have hnl:=F.least.PV hL (jv (K:=L) D.hj D.hh) M ok;obtain⟨n',rfl⟩:∃n',n=n'+1:=⟨n-1,by omega⟩;refine⟨?_,by omega,λl e=>?_,λu e=>?_⟩
 ·refine⟨by rw[F.eq];exact pF hL0 _ _,λc hc=>?_,λz=>by rw[z] at hm;simp at hm⟩;rw[F.eq,nB hL0] at hc;have:=Option.some.inj hc;omega
 ·rw[F.eq,Dh hL0 hw h0 (M.mlo l e).1.ls];have:=F.ge;rw[e] at this;exact this
 ·rw[F.eq,IC hL0 hw (M.mhi u e).1.ls (M.mhi u e).1.na];have:=F.lt;rw[e] at this;exact this
structure gh(L:Nat)(kvs:Ue)(ks:Ud)(k b:Nat):Prop where
 nd:(kvs.map (·.1)).Nodup
 mar:∀kv∈kvs,Mark L kv.1/\kv.1.length<=b/\Thing kv.2
 few:kvs.length<=k
 sub:∀m∈ks,m∈kvs.map (·.1)
 tnd:ks.Nodup
theorem gh.mark{k b:Nat}(W:gh L kvs ks k b)(h:m∈kvs.map (·.1)):Mark L m/\m.length<=b:=by
 obtain⟨kv,h1,rfl⟩:=mem_map.mp h;exact⟨(W.mar kv h1).1,(W.mar kv h1).2.1⟩
theorem fQ:∀{ks ms:Ud},ks.Nodup->(∀m∈ks,m∈ms)->ks.length<=ms.length
 |[],_,_,_=>zero_le _
 |k::ks,ms,h,s=>by
  obtain⟨h1,h2⟩:=nodup_cons.mp h;have hk:=s k mem_cons_self;have:=fQ (ms:=ms.erase k) h2 λm hm=>(List.mem_erase_of_ne (λz=>h1 (by rw[<-z];exact hm))).mpr (s m (mem_cons_of_mem _ hm));rw[List.length_erase_of_mem hk] at this;have hp:0<ms.length:=List.length_pos_of_mem hk;rw[length_cons];omega
theorem gh.take{k b:Nat}(W:gh L kvs ks k b)(h:m∈kvs.map (·.1))(n:¬m∈ks):gh L kvs (ks++[m]) k b:=
 ⟨W.nd,W.mar,W.few,λy hy=>by
  rcases mem_append.mp hy with hy|hy
  ·exact W.sub y hy
  ·rw[mem_singleton.mp hy];exact h,by
  rw[nodup_append];exact⟨W.tnd,by simp,λa ha b hb=>by rw[mem_singleton.mp hb];intro z;subst z;exact n ha⟩⟩
structure jD(kvs:Ue)(lo v:Ug):Prop where
 no:v=none->∀k∈kvs.map (·.1),iI lo k=false
 yes:∀m,v=some m->m∈kvs.map (·.1)/\iI lo m=true/\∀k∈kvs.map (·.1),iI lo k=true->¬k<m
theorem jD.ok{v:Ug}(F:jD kvs lo v):iA lo v:=λl u e1 e2=>by
 have:=(F.yes u e2).2.1;rw[e1] at this;exact of_decide_eq_true this
theorem jD.marks{k b:Nat}{v:Ug}(F:jD kvs lo v)(W:gh L kvs ks k b)(hb:b<=999)(hl:∀l,lo=some l->l∈kvs.map (·.1)):cu L lo v/\c9 lo<=b/\c9 v<=b:=by
 refine⟨⟨λm e=>?_,λm e=>?_⟩,?_,?_⟩
 ·have:=W.mark (hl m e);exact⟨this.1,by omega⟩
 ·have:=W.mark (F.yes m e).1;exact⟨this.1,by omega⟩
 ·cases lo with
  |none=>exact zero_le _
  |some l=>exact(W.mark (hl l rfl)).2
 ·cases v with
  |none=>exact zero_le _
  |some l=>exact(W.mark (F.yes l rfl).1).2
theorem jD.new{v:Ug}(F:jD kvs lo v)(h1:∀l,lo=some l->l<m)(h2:∀u,v=some u->m<u):¬m∈kvs.map (·.1):=λhm=>by
 have hb:iI lo m=true:=by
  cases lo with
  |none=>rfl
  |some l=>exact decide_eq_true (h1 l rfl)
 cases v with
 |none=>have:=F.no rfl m hm;rw[hb] at this;cases this
 |some u=>exact(F.yes u rfl).2.2 m hm hb (h2 u rfl)
theorem gh.put{k b:Nat}(W:gh L kvs ks k b){t:Uc}(hm:Mark L m)(hl:m.length<=b+1)(ht:Thing t)(hn:¬m∈kvs.map (·.1)):gh L (kvs++[(m,t)]) ks (k+1) (b+1):=by
 refine⟨?_,λkv hkv=>?_,?_,λy hy=>?_,W.tnd⟩
 ·rw[map_append,nodup_append];exact⟨W.nd,by simp,λa ha b hb=>by
   intro z;subst z;have:a=m:=by simpa using hb
   rw[this] at ha;exact hn ha⟩
 ·rcases mem_append.mp hkv with h|h
  ·have:=W.mar kv h;exact⟨this.1,by omega,this.2.2⟩
  ·rw[mem_singleton.mp h];exact⟨hm,hl,ht⟩
 ·rw[length_append];have:=W.few;simp;omega
 ·rw[map_append];exact mem_append_left _ (W.sub y hy)
theorem xD(m:Uc):∀kvs:Ue,¬m∈kvs.map (·.1)->c5 (fF kvs) (Key.inr (txt m))=none
 |[],_=>by simp[fF,tu]
 |k::kvs,h=>by
  show c5 ((Key.inr (txt k.1),aD k.2)::fF kvs) _=_;rw[cF (λz=>h (by have e:k.1=m:=dN.mp (by injection z);rw[<-e];simp))];exact xD m kvs λz=>h (mem_cons_of_mem _ z)
theorem iT.put{x pr pt:Addr}(S:iT C H x dx pr pt pk L h j kvs ks){t:Uc}(hm:¬m∈kvs.map (·.1)):iT C (upd H pt (.dK (putK (fF kvs) (Key.inr (txt m)) (aD t)))) x dx pr pt pk L h j (kvs++[(m,t)]) ks:=by
 have n1:x≠pt:=λz=>by subst z;have:=S.ins.symm.trans S.tho;cases this
 have n2:dx≠pt:=λz=>by subst z;have:=S.own.symm.trans S.tho;cases this
 have e:putK (fF kvs) (Key.inr (txt m)) (aD t)=fF (kvs++[(m,t)]):=by
  rw[nC _ (xD m kvs hm)];unfold fF;rw[map_append];rfl
 rw[e];exact⟨by rw[aE n1];exact S.ins,by rw[aE n2];exact S.own,aq,by rw[aE (Ne.symm S.apart)];exact S.tak,S.apart⟩
def pZ(c:Addr):Sp:=λvs H Q E=>∃(i n:Int),vs=[.int i,.int n]/\((0<=i/\i<n)->Q .non H)/\(¬(0<=i/\i<n)->E (.ref c) none H)
theorem xE(hN:N.length=2)(h:pZ c vs H Q E):fj c E m {nx:=λ_ H'=>Q .non H',rt:=Q} (L2.start N vs) H:=mD hN h
def Dq(L h:Int):Prop:=2<=L/\L<=26/\1<=h/\h<L
def lR(C cl ch:Addr):Sp:=λvs H Q E=>∃(x dx:Addr) (L h j:Int),vs=[.ref x,.int L,.int h,.int j]/\H x=some (.ins C dx [])/\H dx=some (.own x)/\
 (Dq L h->0<=j/\j<h->∀H' pr pt pk,Keeps [x] H H'->iT C H' x dx pr pt pk L.toNat h.toNat j.toNat [] []->H' pr=some (.lst [])->H pr=none->H pt=none->H pk=none->Q .non H')/\
 (¬Dq L h->E (.ref cl) none H)/\(Dq L h->¬(0<=j/\j<h)->E (.ref ch) none H)
def xF(K:W.Frag)(c d:Addr)(E:XK):TS:=
  aI (cj (aH (Bw c) [] E (ah (ai 1) (ah (ai 2) av))))
   (aI (cj (aH (pZ d) [] E (ah (ai 3) (ah (ai 2) av))))
   (aI (iK K (ai 0) (ai 1) "letters")
   (aI (iK K (ai 0) (ai 2) "hands")
   (aI (iK K (ai 0) (ai 3) "own_number")
   (aI (iK K (ai 0) (oZ av) "renewals")
   (aI (iK K (ai 0) gq "thing_of")
   (iK K (ai 0) gq "taken")))))))
theorem BL(cl:gg K C)(hN:N.length=4)(h:lR C c d vs H Q E):xF K c d E {nx:=λ_ H'=>Q .non H',rt:=Q} (L2.start N vs) H:=by
 obtain⟨x,dx,L,h,j,rfl,hx,hd,q1,q2,q3⟩:=h;unfold xF L2.start;rw[hN];refine aT λk hk=>?_;nofun;refine⟨L,h,rfl,λhL=>hk _ _ ?_,λhL=>q2 hL⟩;clear hk k;refine aT λk hk=>?_;nofun;refine⟨j,h,rfl,λhJ=>hk _ _ ?_,λhJ=>q3 hL hJ⟩;clear hk k;have q1:=q1 hL hJ;clear q2 q3;have hxd:dx≠x:=λz=>by subst z;rw[hx] at hd;cases hd
 have k0:Keeps [x] H H:=λb o e _=>e;refine aT λk hk=>?_;refine⟨.int L,rfl,_,rfl,x,C,dx,[],rfl,hx,cl.cls,cl.nl,by decide,hk _ _ ?_⟩;clear hk k;have k1:=k0.upd (p:=x) (o:=.ins C dx (cG "letters" (.int L) [])) (.inl mem_cons_self);have h1:(upd H x (.ins C dx (cG "letters" (.int L) []))) x=some (.ins C dx [("letters",.int L)]):=aq;generalize upd H x _=H1 at k1 h1 ⊢;refine aT λk hk=>?_;refine⟨.int h,rfl,_,rfl,x,C,dx,_,rfl,h1,cl.cls,cl.nh,by simp,hk _ _ ?_⟩;clear hk k;have k2:=k1.upd (p:=x) (o:=.ins C dx (cG "hands" (.int h) [("letters",.int L)])) (.inl mem_cons_self);have h2:(upd H1 x (.ins C dx (cG "hands" (.int h) [("letters",.int L)]))) x=some (.ins C dx [("letters",.int L),("hands",.int h)]):=aq;generalize upd H1 x _=H2 at k2 h2 ⊢;clear k1 h1;refine aT λk hk=>?_;refine⟨.int j,rfl,_,rfl,x,C,dx,_,rfl,h2,cl.cls,cl.nn,by simp,hk _ _ ?_⟩;clear hk k;have k3:=k2.upd (p:=x) (o:=.ins C dx (cG "own_number" (.int j) [("letters",.int L),("hands",.int h)])) (.inl mem_cons_self);have h3:(upd H2 x (.ins C dx (cG "own_number" (.int j) [("letters",.int L),("hands",.int h)]))) x=some (.ins C dx [("letters",.int L),("hands",.int h),("own_number",.int j)]):=aq;generalize upd H2 x _=H3 at k3 h3 ⊢;clear k2 h2;have fresh:∀{Hn:Hp} {p:Addr},Keeps [x] H Hn->Hn p=none->p≠x->H p=none:=λ{Hn p} k e n=>by
  cases w:H p with
  |none=>rfl
  |some o=>have:=k p o w (λz=>n (mem_singleton.mp z));rw[e] at this;cases this
 refine aT λk hk=>?_;unfold iK;nofun;refine⟨by decide,λpr hpr=>⟨C,dx,[("letters",.int L),("hands",.int h),("own_number",.int j)],?_⟩⟩
 have nr:x≠pr:=λz=>by subst z;rw[h3] at hpr;cases hpr
 have gr:=fresh k3 hpr (Ne.symm nr);refine⟨by rw[aE nr];exact h3,cl.cls,cl.nr,by simp,hk _ _ ?_⟩;clear hk k;have k4:=(k3.upd (p:=pr) (o:=.lst []) (.inr hpr)).upd (p:=x) (o:=.ins C dx (cG "renewals" (.ref pr) [("letters",.int L),("hands",.int h),("own_number",.int j)])) (.inl mem_cons_self);have h4:(upd (upd H3 pr (.lst [])) x (.ins C dx (cG "renewals" (.ref pr) [("letters",.int L),("hands",.int h),("own_number",.int j)]))) x=some (.ins C dx [("letters",.int L),("hands",.int h),("own_number",.int j),("renewals",.ref pr)]):=aq;have r4:(upd (upd H3 pr (.lst [])) x (.ins C dx (cG "renewals" (.ref pr) [("letters",.int L),("hands",.int h),("own_number",.int j)]))) pr=some (.lst []):=by rw[aE (Ne.symm nr),aq]
 generalize upd (upd H3 pr _) x _=H4 at k4 h4 r4 ⊢;clear k3 h3 hpr;refine aT λk hk=>?_;unfold iK gq;nofun;refine λpt hpt=>⟨C,dx,[("letters",.int L),("hands",.int h),("own_number",.int j),("renewals",.ref pr)],?_⟩;have nt:x≠pt:=λz=>by subst z;rw[h4] at hpt;cases hpt
 have nrt:pr≠pt:=λz=>by subst z;rw[r4] at hpt;cases hpt
 have gt:=fresh k4 hpt (Ne.symm nt);refine⟨by rw[aE nt];exact h4,cl.cls,cl.nt,by simp,hk _ _ ?_⟩;clear hk k;have k5:=(k4.upd (p:=pt) (o:=.dK []) (.inr hpt)).upd (p:=x) (o:=.ins C dx (cG "thing_of" (.ref pt) [("letters",.int L),("hands",.int h),("own_number",.int j),("renewals",.ref pr)])) (.inl mem_cons_self);have h5:(upd (upd H4 pt (.dK [])) x (.ins C dx (cG "thing_of" (.ref pt) [("letters",.int L),("hands",.int h),("own_number",.int j),("renewals",.ref pr)]))) x=some (.ins C dx [("letters",.int L),("hands",.int h),("own_number",.int j),("renewals",.ref pr),("thing_of",.ref pt)]):=aq;have r5:(upd (upd H4 pt (.dK [])) x (.ins C dx (cG "thing_of" (.ref pt) [("letters",.int L),("hands",.int h),("own_number",.int j),("renewals",.ref pr)]))) pr=some (.lst []):=by rw[aE (Ne.symm nr),aE nrt];exact r4
 have t5:(upd (upd H4 pt (.dK [])) x (.ins C dx (cG "thing_of" (.ref pt) [("letters",.int L),("hands",.int h),("own_number",.int j),("renewals",.ref pr)]))) pt=some (.dK []):=by rw[aE (Ne.symm nt),aq]
 generalize upd (upd H4 pt _) x _=H5 at k5 h5 r5 t5 ⊢;clear k4 h4 r4 hpt;unfold iK gq;nofun;refine λpk hpk=>⟨C,dx,[("letters",.int L),("hands",.int h),("own_number",.int j),("renewals",.ref pr),("thing_of",.ref pt)],?_⟩;have nk:x≠pk:=λz=>by subst z;rw[h5] at hpk;cases hpk
 have nrk:pr≠pk:=λz=>by subst z;rw[r5] at hpk;cases hpk
 have ntk:pt≠pk:=λz=>by subst z;rw[t5] at hpk;cases hpk
 have gk:=fresh k5 hpk (Ne.symm nk);refine⟨by rw[aE nk];exact h5,cl.cls,cl.nk,by simp,?_⟩;have k6:=(k5.upd (p:=pk) (o:=.dK []) (.inr hpk)).upd (p:=x) (o:=.ins C dx (cG "taken" (.ref pk) [("letters",.int L),("hands",.int h),("own_number",.int j),("renewals",.ref pr),("thing_of",.ref pt)])) (.inl mem_cons_self);have eL:((L.toNat:Nat):Int)=L:=Int.toNat_of_nonneg (by have:=hL.1;omega);have eh:((h.toNat:Nat):Int)=h:=Int.toNat_of_nonneg (by have:=hL.2.2.1;omega);have ej:((j.toNat:Nat):Int)=j:=Int.toNat_of_nonneg hJ.1;refine q1 _ pr pt pk k6 ⟨?_,k6 dx _ hd (λz=>hxd (mem_singleton.mp z)),?_,?_,ntk⟩ ?_ gr gt gk
 ·rw[aq,cC,eL,eh,ej];rfl
 ·rw[aE (Ne.symm nt),aE ntk];exact t5
 ·rw[aE (Ne.symm nk),aq];rfl
 ·rw[aE (Ne.symm nr),aE nrk];exact r5
def lg(C ct cp:Addr):Sp:=λvs H Q E=>∃(x dx pr pt pk:Addr) (L h j:Nat) (kvs:Ue) (ks:Ud) (k b:Nat) (i:Int) (t:Uc),vs=[.ref x,.int i,.str (txt t)]/\iT C H x dx pr pt pk L h j kvs ks/\jX L h j/\gh L kvs ks k b/\k<=62/\b<=998/\t.length<=100000/\
 (¬Thing t->∀H',aF H H'->E (.ref ct) none H')/\
 ∀zs,jZ kvs ks zs->(Thing t->(0<=i/\i<=zs.length)->∀H' v n w m,Keeps [pt] H H'->jD kvs (gu zs i.toNat) v->Found L (bB L h j) (gu zs i.toNat) v n w m->iT C H' x dx pr pt pk L h j (kvs++[(m,t)]) ks->gh L (kvs++[(m,t)]) ks (k+1) (b+1)->Q (.str (txt m)) H')/\
  (Thing t->¬(0<=i/\i<=zs.length)->∀H',aF H H'->E (.ref cp) none H')
def BN(K:W.Frag)(C ct cp cr:Addr)(E:XK):TS:=
  aI (cj (aH (mP ct) [] E (ah (ai 2) av)))
   (aI (bg (ck C "marks" (g7 C) [] E0 (ai 0) av) (aG 3))
   (aI (cj (aH (jC cp) [] E (ah (ai 1) (ah (aP bE (dJ (cz K) (ah (ai 3) av)) (tC (.int 1))) av))))
   (aI (bg (M5 (bD (aP uL (ai 1) (tC (.int 0)))) (aP (dQ K) (ai 3) (aP kM (ai 1) (tC (.int 1)))) (tC .non)) (aG 4))
   (aI (bg (aH (pO cr) [] E (ah (eK K (ai 0) "letters") (ah (eK K (ai 0) "hands") (ah (eK K (ai 0) "own_number") (ah (ai 4) (ah (ck C "first_behind" (pX K C) [] E0 (ai 0) (ah (ai 4) av)) av)))))) (aG 5))
   (aI (jW (eK K (ai 0) "thing_of") (ai 5) (ai 2))
   (bG (ai 5)))))))
theorem FN{ct cr:Addr}(cl:gg K C)(hN:N.length=6)(h:lg C ct cp vs H Q E):BN K C ct cp cr E {nx:=λ_ H'=>Q .non H',rt:=Q} (L2.start N vs) H:=by
 obtain⟨x,dx,pr,pt,pk,L,h,j,kvs,ks,k,b,i,t,rfl,S,D,W,hk,hb,ht,qn,q⟩:=h;unfold BN L2.start;rw[hN];refine aT λc1 hc=>?_;nofun;refine⟨t,rfl,ht,λH1 s1=>⟨λth=>hc _ _ ?_,λno=>qn no H1 s1⟩⟩;clear hc c1;have S1:=S.same s1;have few:=W.few;refine aW λc1 hc=>?_;refine bL S1 (λR r=>⟨_,rfl,r⟩) rfl ⟨x,dx,pr,pt,pk,L,h,j,kvs,ks,rfl,S1,by omega,W.nd,λH2 p zs s2 hp up mem=>hc _ _ ?_⟩;clear hc c1;obtain⟨qg,qp⟩:=q zs ⟨up,mem⟩;have s3:=(s1.trans s2).new hp (o:=.lst (zs.map aD));have hZ:(upd H2 p (.lst (zs.map aD))) p=some (.lst (zs.map aD)):=aq;generalize upd H2 p _=H3 at s3 hZ ⊢;have S3:=S.same s3;refine aT λc1 hc=>?_;nofun;refine bZ (aX.of hZ) ⟨_,rfl,?_⟩;rw[length_map];refine⟨i,_,rfl,λhi=>hc _ _ ?_,λhi=>qp th (by omega) H3 s3⟩;clear hc c1;have qg:=qg th (by omega);refine aW λc1 hc=>?_;nofun;have w:c1 (oV (gu zs i.toNat)) H3:=hc _ _ (by
  clear hc c1;have hlo:∀l,gu zs i.toNat=some l->l∈kvs.map (·.1):=λl e=>by
   unfold gu at e;split at e
   ·cases e
   ·exact((mem l).mp (mem_of_getElem? e)).1
  generalize gu zs i.toNat=lo at qg hlo ⊢;refine aW λc1 hc=>?_;nofun;refine BH S3 cl rfl (IS S3 cl rfl (BI S3 cl rfl ?_));refine bL S3 (λR r=>⟨_,rfl,r⟩) rfl ?_;nofun;refine⟨x,dx,pr,pt,pk,L,h,j,kvs,ks,lo,rfl,S3,by omega,λH4 v s4 v1 v2=>?_⟩;have F:jD kvs lo v:=⟨v1,v2⟩;obtain⟨mo,hl1,hl2⟩:=F.marks W (by omega) hlo;refine⟨L,h,j,lo,v,rfl,D,mo,λok H5 n w m s5 Fo=>hc _ _ ?_,λz=>absurd F.ok z⟩;clear hc c1;obtain⟨g1,g2,g3,g4⟩:=Fo.Sl D mo ok;have nm:=F.new g3 g4;have s5:=(s3.trans s4).trans s5;have S5:=S.same s5;refine aT λc1 hc=>?_;simp? [jW]
  refine pW S5 cl rfl ⟨pt,rfl,_,tE.k (k:=Key.inr (txt m)) S5.tho (by rw[fF,length_map,sizeLine_eq];omega),hc _ _ ?_⟩;clear hc c1;have S6:=S5.put (t:=t) nm;have k6:Keeps [pt] H (upd H5 pt (.dK (putK (fF kvs) (Key.inr (txt m)) (aD t)))):=(s5.keeps _).upd (.inl mem_cons_self);nofun;exact qg _ v n w m k6 F Fo S6 (W.put g1 (by omega) th nm))
 clear hc
 by_cases h0:0<i
 ·rw[if_pos h0];obtain⟨m,hm⟩:=some_at (l:=zs) (i:=i.toNat-1) (by omega);have e:gu zs i.toNat=some m:=by unfold gu;rw[if_neg (by omega)];exact hm
  rw[e] at w;exact cD (v:=aD m) (aX.of hZ) (by omega) (by rw[show (i-1).toNat=i.toNat-1 by omega,getElem?_map,hm];rfl) w
 ·rw[if_neg h0];have e:gu zs i.toNat=none:=by unfold gu;rw[if_pos (by omega)]
  rw[e] at w;exact w
def bw(H:Hp):Uh Addr->Uh (Uh bQ)->Prop
 |[],[]=>True
 |a::as,r::R=>(∃xs,H a=some (.lst xs)/\d9 H xs (r.map nQ))/\bw H as R
 |_,_=>False
theorem bw.same(s:aF H H'):∀{as:Uh Addr} {R:Uh (Uh bQ)},bw H as R->bw H' as R
 |[],[],_=>trivial
 |[],_::_,h=>h.elim
 |_::_,[],h=>h.elim
 |_::_,_::_,⟨⟨xs,e,p⟩,r⟩=>⟨⟨xs,s _ _ e,p.same s⟩,bw.same s r⟩
theorem bw.len:∀{as:Uh Addr} {R:Uh (Uh bQ)},bw H as R->as.length=R.length
 |[],[],_=>rfl
 |[],_::_,h=>h.elim
 |_::_,[],h=>h.elim
 |_::_,_::_,⟨_,r⟩=>by rw[length_cons,length_cons,bw.len r]
theorem bw.app:∀{as:Uh Addr} {R:Uh (Uh bQ)} {bs:Uh Addr} {S:Uh (Uh bQ)},bw H as R->bw H bs S->bw H (as++bs) (R++S)
 |[],[],_,_,_,h=>h
 |[],_::_,_,_,h,_=>h.elim
 |_::_,[],_,_,h,_=>h.elim
 |_::_,_::_,_,_,⟨a,r⟩,h=>⟨a,bw.app r h⟩
theorem bw.get:∀{as:Uh Addr} {R:Uh (Uh bQ)} {i:Nat} {a:Addr},bw H as R->as[i]?=some a->∃r xs,R[i]?=some r/\H a=some (.lst xs)/\d9 H xs (r.map nQ)
 |[],_,_,_,_,e=>by simp at e
 |_::_,[],_,_,h,_=>h.elim
 |_::_,r::_,0,_,⟨⟨xs,h,p⟩,_⟩,e=>by
  have:_=_:=Option.some.inj e;subst this;exact⟨r,xs,rfl,h,p⟩
 |_::_,_::_,i+1,_,⟨_,r⟩,e=>by
  obtain⟨p,t,a,b,c⟩:=bw.get r (i:=i) (by simpa using e);exact⟨p,t,by simpa using a,b,c⟩
def zM(z:Uc×Uc):V×V:=(aD z.1,aD z.2)
structure lq(H:Hp)(p p1 p2 p3:Addr)(bs:Uh Addr)(ts:Uh V)(L h:Nat)(R:Uh (Uh bQ))(zs:Ue)(ws:Ud):Prop where
 top:H p=some (.tup [.int L,.int h,.ref p1,.ref p2,.ref p3])
 ren:H p1=some (.lst (bs.map V.ref))
 row:bw H bs R
 thi:H p2=some (.lst ts)
 prs:d9 H ts (zs.map zM)
 tak:H p3=some (.lst (ws.map aD))
theorem lq.same{bs:Uh Addr}{R:Uh (Uh bQ)}(A:lq H p p1 p2 p3 bs ts L h R zs ws)(s:aF H H'):lq H' p p1 p2 p3 bs ts L h R zs ws:=
 ⟨s _ _ A.top,s _ _ A.ren,A.row.same s,s _ _ A.thi,A.prs.same s,s _ _ A.tak⟩
def gM:Sp:=λvs H Q _=>∃(L h:Nat) (pr pt pk:Addr) (as:Uh Addr) (R:Uh (Uh bQ)) (ts:Uh V) (zs:Ue) (ws:Ud),vs=[.int L,.int h,.ref pr,.ref pt,.ref pk]/\H pr=some (.lst (as.map V.ref))/\bw H as R/\H pt=some (.lst ts)/\d9 H ts (zs.map zM)/\H pk=some (.lst (ws.map aD))/\R.length<=10000/\
 ∀H' p p1 p2 p3 bs,aF H H'->lq H' p p1 p2 p3 bs ts L h R zs ws->(p::p1::p2::p3::bs).Nodup->(∀b∈p::p1::p2::p3::bs,H b=none)->Q (.ref p) H'
def p7(K:W.Frag):TS:=
  bG (iL (ah (ai 0) (ah (ai 1) (ah (eG (bS K (ai 2)) [] ku (dJ (jk K) (ah (ai 0) av))) (ah (dJ (jk K) (ah (ai 3) av)) (ah (dJ (jk K) (ah (ai 4) av)) av))))))
theorem aF.bW(s:aF H H')(h:H' p=none):H p=none:=by
 cases w:H p with
 |none=>rfl
 |some o=>rw[s p o w] at h;cases h
def PZ(H:Hp)(R:Uh (Uh bQ)):Nat->Uh V->Hp->Prop:=λi ys H'=>aF H H'/\∃bs:Uh Addr,ys=bs.map V.ref/\bw H' bs (R.take i)/\bs.Nodup/\(∀b∈bs,H b=none)/\bs.length<=i
theorem xG(hN:N.length=5)(h:gM vs H Q E):p7 K {nx:=λ_ H'=>Q .non H',rt:=Q} (L2.start N vs) H:=by
 obtain⟨L,h,pr,pt,pk,as,R,ts,zs,ws,rfl,hr,hR,ht,hz,hw,hl,q⟩:=h;have al:=hR.len;unfold p7 L2.start;rw[hN];nofun;refine kR (a:=pr) (xs:=as.map V.ref) (λQ h=>⟨_,rfl,h⟩) (aX.of hr) (PZ H R) ⟨aF.refl _,[],rfl,trivial,nodup_nil,λb hb=>(nomatch hb),zero_le _⟩ ?_ (by rw[length_map,sizeLine_eq];omega) ?_ ?_
 ·rintro i ys H' _ ⟨s,bs,rfl,_,_,_,hbl⟩;exact⟨aX.of (s _ _ hr),by rw[length_map];exact hbl⟩
 ·rintro i v ys H' hv ⟨s,bs,rfl,hrows,hnd,hfr,hbl⟩ W hW;rw[getElem?_map] at hv;obtain⟨a,ha,rfl⟩:=map_eq_some_iff.mp hv;obtain⟨r,xs,er,hx,px⟩:=(hR.same s).get ha;nofun;refine⟨a,xs,rfl,.inl (aX.of hx),λl hl=>?_⟩;have e:R.take (i+1)=R.take i++[r]:=by rw[take_add_one,er];rfl
  have s2:=aF.up H' hl (o:=.lst xs);have:=hW (bs.map V.ref++[.ref l]) (upd H' l (.lst xs)) ⟨s.trans s2,bs++[l],by rw[map_append];rfl,by rw[e];exact(hrows.same s2).app ⟨⟨xs,aq,px.same s2⟩,trivial⟩,?_,λb hb=>?_,by rw[length_append];simp;omega⟩
  ·exact this
  ·rw[nodup_append];exact⟨hnd,by simp,λb hb c hc=>by
    rw[mem_singleton.mp hc];intro z;subst z;obtain⟨j,hj⟩:=getElem?_of_mem hb;obtain⟨_,_,_,w,_⟩:=hrows.get hj;rw[w] at hl;cases hl⟩
  ·rcases mem_append.mp hb with hb|hb
   ·exact hfr b hb
   ·rw[mem_singleton.mp hb];exact s.bW hl
 ·rintro ys H1 ⟨s,bs,rfl,hrows,hnd,hfr,hbl⟩ p1 hp1;rw[length_map,al,take_length] at hrows;have nb1:¬p1∈bs:=λhb=>by
   obtain⟨j,hj⟩:=getElem?_of_mem hb;obtain⟨_,_,_,w,_⟩:=hrows.get hj;rw[w] at hp1;cases hp1
  have s1:=s.new hp1 (o:=.lst (bs.map V.ref));have r1:=hrows.same (aF.up H1 hp1 (o:=.lst (bs.map V.ref)));have e1:(upd H1 p1 (.lst (bs.map V.ref))) p1=some (.lst (bs.map V.ref)):=aq;have f1:=s.bW hp1;generalize upd H1 p1 _=H2 at s1 r1 e1 ⊢;refine⟨pt,ts,rfl,.inl (aX.of (s1 _ _ ht)),λp2 hp2=>⟨pk,ws.map aD,rfl,.inl (aX.of ((s1.new hp2) _ _ hw)),λp3 hp3=>⟨by decide,λp hp=>?_⟩⟩⟩;have f2:=s1.bW hp2;have nb2:¬p2∈bs:=λhb=>by
   obtain⟨j,hj⟩:=getElem?_of_mem hb;obtain⟨_,_,_,w,_⟩:=r1.get hj;rw[w] at hp2;cases hp2
  have n12:p1≠p2:=λz=>by subst z;rw[e1] at hp2;cases hp2
  have s2:=aF.up H2 hp2 (o:=.lst ts);have e2:(upd H2 p2 (.lst ts)) p2=some (.lst ts):=aq;generalize upd H2 p2 _=H3 at s2 e2 hp3 hp ⊢;have r2:=r1.same s2;have f3:=(s1.trans s2).bW hp3;have nb3:¬p3∈bs:=λhb=>by
   obtain⟨j,hj⟩:=getElem?_of_mem hb;obtain⟨_,_,_,w,_⟩:=r2.get hj;rw[w] at hp3;cases hp3
  have n13:p1≠p3:=λz=>by subst z;rw[s2 _ _ e1] at hp3;cases hp3
  have n23:p2≠p3:=λz=>by subst z;rw[e2] at hp3;cases hp3
  have s3:=aF.up H3 hp3 (o:=.lst (ws.map aD));have e3:(upd H3 p3 (.lst (ws.map aD))) p3=some (.lst (ws.map aD)):=aq;generalize upd H3 p3 _=H4 at s3 e3 hp ⊢;have r3:=r2.same s3;have f4:=((s1.trans s2).trans s3).bW hp;have nb4:¬p∈bs:=λhb=>by
   obtain⟨j,hj⟩:=getElem?_of_mem hb;obtain⟨_,_,_,w,_⟩:=r3.get hj;rw[w] at hp;cases hp
  have n1:p≠p1:=λz=>by subst z;rw[s3 _ _ (s2 _ _ e1)] at hp;cases hp
  have n2:p≠p2:=λz=>by subst z;rw[s3 _ _ e2] at hp;cases hp
  have n3:p≠p3:=λz=>by subst z;rw[e3] at hp;cases hp
  have s4:=aF.up H4 hp (o:=.tup [.int L,.int h,.ref p1,.ref p2,.ref p3]);have sa:=((s1.trans s2).trans s3).trans s4;refine q _ p p1 p2 p3 bs sa ⟨aq,s4 _ _ (s3 _ _ (s2 _ _ e1)),r3.same s4,s4 _ _ (s3 _ _ e2),hz.same sa,s4 _ _ e3⟩ ?_ ?_
  ·simp only[nodup_cons,mem_cons,not_or];exact⟨⟨n1,n2,n3,nb4⟩,⟨n12,n13,nb1⟩,⟨n23,nb2⟩,nb3,hnd⟩
  ·intro b hb;simp only[mem_cons] at hb
   rcases hb with rfl|rfl|rfl|rfl|hb
   ·exact f4
   ·exact f1
   ·exact f2
   ·exact f3
   ·exact hfr b hb
structure Told(kvs:Ue)(ks:Ud)(zs:Ue)(ws:Ud):Prop where
 perm:zs.Perm kvs
 up:(zs.map (·.1)).Pairwise (·<·)
 tperm:ws.Perm ks
 tup:ws.Pairwise (·<·)
def eW(C:Addr):Sp:=λvs H Q _=>∃(x dx pr pt pk:Addr) (L h j:Nat) (kvs:Ue) (ks:Ud) (as:Uh Addr) (R:Uh (Uh bQ)),vs=[.ref x]/\iT C H x dx pr pt pk L h j kvs ks/\kvs.length<64/\(kvs.map (·.1)).Nodup/\ks.length<64/\ks.Nodup/\H pr=some (.lst (as.map V.ref))/\bw H as R/\R.length<=10000/\
 ∀H' p p1 p2 p3 bs ts zs ws,aF H H'->Told kvs ks zs ws->lq H' p p1 p2 p3 bs ts L h R zs ws->(p::p1::p2::p3::bs).Nodup->(∀b∈p::p1::p2::p3::bs,H b=none)->Q (.ref p) H'
def um(K:W.Frag):TS:=
  aI (bg (dJ tN (ah (EJ K "dict" A7 (eK K (ai 0) "thing_of")) av)) (aG 1))
   (bG (aH gM [] E0 (ah (eK K (ai 0) "letters") (ah (eK K (ai 0) "hands") (ah (eK K (ai 0) "renewals") (ah (ai 1) (ah (dJ nI (ah (eK K (ai 0) "taken") av)) av)))))))
theorem BO:∀{ys:Uh V} {zs:Ue},ys.length=zs.length->(∀(i:Nat) kv,zs[i]?=some kv->∃t,ys[i]?=some (.ref t)/\H t=some (.tup [aD kv.1,aD kv.2]))->d9 H ys (zs.map zM)
 |[],[],_,_=>trivial
 |[],_::_,h,_=>by simp at h
 |_::_,[],h,_=>by simp at h
 |y::ys,z::zs,h,k=>by
  obtain⟨t,e,ht⟩:=k 0 z rfl;refine⟨⟨t,Option.some.inj e,ht⟩,BO (by simpa using h) λi kv e=>?_⟩;obtain⟨t,e,ht⟩:=k (i+1) kv (by simpa using e);exact⟨t,by simpa using e,ht⟩
theorem NV(ks:Ud):qB ks=(ks.map λm=>(m,V.bl true)).map λkv=>(Key.inr (txt kv.1),kv.2):=by
 unfold qB;rw[map_map];rfl
theorem zN(cl:gg K C)(hN:N.length=2)(h:eW C vs H Q E):um K {nx:=λ_ H'=>Q .non H',rt:=Q} (L2.start N vs) H:=by
 obtain⟨x,dx,pr,pt,pk,L,h,j,kvs,ks,as,R,rfl,S,h64,hnd,k64,knd,hr,hR,hl,q⟩:=h;unfold um L2.start;rw[hN];refine aW λc1 hc=>?_;nofun;refine pW S cl rfl ⟨.inr (.inr (.inl ⟨rfl,.inl ⟨_,S.tho⟩⟩)),pt,_,rfl,rfl,S.tho,λv hv=>?_⟩;have s1:=aF.up H hv (o:=kW v pt);have eV:(upd H v (kW v pt)) v=some (kW v pt):=aq;generalize upd H v _=H1 at s1 eV ⊢;have S1:=S.same s1;refine⟨v,pt,kvs,rfl,eV,S1.tho,h64,hnd,λH2 l ys zs s2 hl0 hl2 hp hup hlen hat=>hc _ _ ?_⟩;clear hc c1;have s2:=s1.trans s2;have S2:=S.same s2;have pz:d9 H2 ys (zs.map zM):=BO hlen λi kv e=>by obtain⟨t,a,b,_⟩:=hat i kv e;exact⟨t,a,b⟩
 nofun;refine BH S2 cl rfl (IS S2 cl rfl (BJ S2 cl rfl ?_));refine xA S2 cl rfl ⟨pk,ks.map λm=>(m,V.bl true),rfl,by rw[<-NV];exact S2.tak,by rw[length_map];exact k64,λp3 ws hp3 hpm hle=>?_⟩;have ek:(ks.map λm=>(m,V.bl true)).map (·.1)=ks:=by rw[map_map];exact map_id _
 rw[ek] at hpm;have wlt:=gD hle (hpm.nodup_iff.mpr knd);have s3:=aF.up H2 hp3 (o:=.lst (ws.map aD));have e3:(upd H2 p3 (.lst (ws.map aD))) p3=some (.lst (ws.map aD)):=aq;generalize upd H2 p3 _=H3 at s3 e3 ⊢;have s23:=s2.trans s3;refine⟨L,h,pr,l,p3,as,R,ys,zs,ws,rfl,s23 _ _ hr,hR.same s23,s3 _ _ hl2,pz.same s3,e3,hl,λH4 p p1 p2 p3 bs s4 A nd fr=>?_⟩;exact q H4 p p1 p2 p3 bs ys zs ws (s23.trans s4) ⟨hp,hup,hpm,wlt⟩ A nd λb hb=>s23.bW (fr b hb)
def nV(R:Uh (Uh bQ)):Uh PyData:=R.map λr=>.list (pairD (r.map nQ))
def Ko(L h:Nat)(R:Uh (Uh bQ))(zs:Ue)(ws:Ud):PyData:=.tuple [.int L,.int h,.list (nV R),.list (pairD (zs.map zM)),.list ((ws.map txt).map PyData.str)]
structure xH(R:Uh (Uh bQ))(zs:Ue)(ws:Ud):Prop where
 rows:∀r∈R,∀y∈r,PyData.strOk (txt y.1)=true/\∀z,y.2=some z->PyData.strOk (txt z)=true
 things:∀z∈zs,PyData.strOk (txt z.1)=true/\PyData.strOk (txt z.2)=true
 taken:∀w∈ws,PyData.strOk (txt w)=true
theorem IT{r:Uh bQ}(h:∀y∈r,PyData.strOk (txt y.1)=true/\∀z,y.2=some z->PyData.strOk (txt z)=true):∀p∈r.map nQ,Br p.1/\Br p.2:=λp hp=>by
 obtain⟨y,hy,rfl⟩:=mem_map.mp hp;obtain⟨a,b⟩:=h y hy;refine⟨.str a,?_⟩;show Br (oV y.2);cases e:y.2 with
 |none=>exact .non
 |some z=>exact .str (b z e)
theorem uo(h:∀z∈zs,PyData.strOk (txt z.1)=true/\PyData.strOk (txt z.2)=true):∀p∈zs.map zM,Br p.1/\Br p.2:=λp hp=>by
 obtain⟨z,hz,rfl⟩:=mem_map.mp hp;exact⟨.str (h z hz).1,.str (h z hz).2⟩
theorem bw.dat:∀{as:Uh Addr} {R:Uh (Uh bQ)},bw H as R->(∀r∈R,∀y∈r,PyData.strOk (txt y.1)=true/\∀z,y.2=some z->PyData.strOk (txt z)=true)->DatAll K H (as.map V.ref) (nV R)
 |[],[],_,_=>.nil
 |[],_::_,h,_=>h.elim
 |_::_,[],h,_=>h.elim
 |_::_,r::_,⟨⟨xs,e,p⟩,t⟩,ok=>.cons (.lst (aX.of e) (p.dat (IT (ok r mem_cons_self)))) (bw.dat t λq hq=>ok q (mem_cons_of_mem _ hq))
theorem vK:∀ms:Ud,DatAll K H (ms.map aD) ((ms.map txt).map PyData.str)
 |[]=>.nil
 |m::ms=>.cons (.str _) (vK ms)
theorem lq.dat{bs:Uh Addr}{R:Uh (Uh bQ)}(A:lq H p p1 p2 p3 bs ts L h R zs ws)(ok:xH R zs ws):Dat K H (.ref p) (Ko L h R zs ws):=
 .tup (dU.of A.top) (.cons (.int _) (.cons (.int _) (.cons (.lst (aX.of A.ren) (A.row.dat ok.rows)) (.cons (.lst (aX.of A.thi) (A.prs.dat (uo ok.things))) (.cons (.lst (aX.of A.tak) (vK ws)) .nil)))))
theorem nW:∀{R:Uh (Uh bQ)},(∀r∈R,∀y∈r,PyData.strOk (txt y.1)=true/\∀z,y.2=some z->PyData.strOk (txt z)=true)->PyData.canLayAll0 (nV R)=true/\PyData.depthAll (nV R)<=2
 |[],_=>⟨by simp[nV,PyData.canLayAll0],by simp[nV,PyData.depthAll]⟩
 |r::R,ok=>by
  obtain⟨a,b⟩:=nW (R:=R) λq hq=>ok q (mem_cons_of_mem _ hq);obtain⟨c,d⟩:=lP (IT (ok r mem_cons_self));have e:nV (r::R)=.list (pairD (r.map nQ))::nV R:=rfl;rw[e];refine⟨by simp[PyData.canLayAll0,PyData.canLay0,a,c],?_⟩;simp only[PyData.depthAll,PyData.depth];omega
theorem gO{R:Uh (Uh bQ)}(ok:xH R zs ws):SeqAt.shaped (Ko L h R zs ws)=true:=by
 obtain⟨a,b⟩:=nW ok.rows;obtain⟨c,d⟩:=lP (uo ok.things);have o2:∀y∈ws.map txt,PyData.strOk y=true:=λy hy=>by obtain⟨z,hz,rfl⟩:=mem_map.mp hy;exact ok.taken z hz
 unfold SeqAt.shaped Ko;rw[and_eq_true];have cl:=iD _ o2;have dl:=jj (ws.map txt);generalize (ws.map txt).map PyData.str=D2 at cl dl ⊢;refine⟨by simp[PyData.canLay0,PyData.canLayAll0,a,c,cl],?_⟩;rw[decide_eq_true_eq];simp only[PyData.depth,PyData.depthAll,dl];omega
theorem FO{q1 q2 q3:Addr}{bs cs:Uh Addr}{us:Uh V}{R:Uh (Uh bQ)}(A:lq H p p1 p2 p3 bs ts L h R zs ws)(B:lq H q q1 q2 q3 cs us L h R zs ws)(ok:xH R zs ws)(r:Q (.bl true) H):Hh K (.ref p) (.ref q) H Q:=by
 refine⟨_,_,A.dat ok,B.dat ok,gO ok,gO ok,?_⟩;rw[SeqAt.eqv_refl _ (SeqAt.canLay_of_shaped (gO ok))];exact r
theorem vL{q1 q2 q3:Addr}{bs cs:Uh Addr}{us:Uh V}{R:Uh (Uh bQ)}(A:lq H p p1 p2 p3 bs ts L h R zs ws)(B:lq H q q1 q2 q3 cs us L h R zs ws)(ok:xH R zs ws)(r:Q (.bl false) H):AD K (.ref p) (.ref q) H Q:=by
 refine⟨_,_,A.dat ok,B.dat ok,gO ok,gO ok,?_⟩;rw[SeqAt.eqv_refl _ (SeqAt.canLay_of_shaped (gO ok))];exact r
theorem jE{as bs:Ud}(p:as.Perm bs)(h1:as.Pairwise (·<·))(h2:bs.Pairwise (·<·)):as=bs:=
 p.eq_of_pairwise (λa b _ _ h g=>absurd (List.lt_trans h g) (List.lt_irrefl a)) h1 h2
theorem Told.one(A:Told kvs ks zs ws)(B:Told kvs ks zs' ws'):zs=zs'/\ws=ws':=by
 refine⟨?_,jE (A.tperm.trans B.tperm.symm) A.tup B.tup⟩;refine(A.perm.trans B.perm.symm).eq_of_pairwise (le:=λa b=>a.1<b.1) (λa b _ _ h g=>absurd (List.lt_trans h g) (List.lt_irrefl a.1)) (pairwise_map.mp A.up) (pairwise_map.mp B.up)
theorem jZ.one{zs zs':Ud}(A:jZ kvs ks zs)(B:jZ kvs ks zs'):zs=zs':=by
 refine jE ?_ A.up B.up;have nd:∀{l:Ud},l.Pairwise (·<·)->l.Nodup:=λh=>h.imp λg z=>by subst z;exact List.lt_irrefl _ g
 exact(perm_ext_iff_of_nodup (nd A.up) (nd B.up)).mpr λm=>by rw[A.mem,B.mem]
theorem zO(a b:Uc):a<b\/a=b\/b<a:=by
 by_cases h:a<b
 ·exact .inl h
 by_cases g:b<a
 ·exact .inr (.inr g)
 ·exact .inr (.inl (List.le_antisymm (List.not_lt.mp g) (List.not_lt.mp h)))
theorem p8:∀l:Ud,∃zs:Ud,zs.Pairwise (·<·)/\∀m,m∈zs↔m∈l
 |[]=>⟨[],.nil,λm=>Iff.rfl⟩
 |a::l=>by
  obtain⟨zs,up,mem⟩:=p8 l;refine⟨zs.filter (λz=>decide (z<a))++a::zs.filter (λz=>decide (a<z)),?_,λm=>?_⟩
  ·refine List.pairwise_append.mpr ⟨up.filter _,pairwise_cons.mpr ⟨λb hb=>of_decide_eq_true (mem_filter.mp hb).2,up.filter _⟩,λx hx y hy=>?_⟩;have h1:x<a:=of_decide_eq_true (mem_filter.mp hx).2
   rcases mem_cons.mp hy with rfl|hy
   ·exact h1
   ·exact List.lt_trans h1 (of_decide_eq_true (mem_filter.mp hy).2)
  ·rw[mem_append,mem_cons,mem_filter,mem_filter,mem_cons,mem,decide_eq_true_eq,decide_eq_true_eq]
   rcases zO m a with h|h|h
   ·constructor
    ·rintro(z|z|z)
     ·exact .inr z.1
     ·exact .inl z
     ·exact .inr z.1
    ·rintro(z|z)
     ·exact .inr (.inl z)
     ·exact .inl ⟨z,h⟩
   ·constructor
    ·intro _;exact .inl h
    ·intro _;exact .inr (.inl h)
   ·constructor
    ·rintro(z|z|z)
     ·exact .inr z.1
     ·exact .inl z
     ·exact .inr z.1
    ·rintro(z|z)
     ·exact .inr (.inl z)
     ·exact .inr (.inr ⟨z,h⟩)
theorem dg{l:Ud}(h:l.Pairwise (·<·)):l.Nodup:=h.imp λg z=>by subst z;exact List.lt_irrefl _ g
theorem uq{t:TA}(D:jX L h j)(ht:∀R:Uh V->Hp->Prop,R [.int L,.int h,.int j] H->t σ H R)
  (q:∀H' x dx pr pt pk,aF H H'->iT C H' x dx pr pt pk L h j [] []->H' pr=some (.lst [])->H x=none->H dx=none->H pr=none->H pt=none->H pk=none->Q (.ref x) H'):u5 C (lR C c d) [] E0 t σ H Q:=by
 refine ht _ λx dx hx hd ne=>?_;have kp:aF H (upd (upd H dx (.own x)) x (.ins C dx [])):=((aF.refl H).new hd).new (by rw[aE (Ne.symm ne)];exact hx);have d1:=D.l2;have d2:=D.l26;have d3:=D.hj;have d4:=D.hh;have ok:Dq (L:Int) (h:Int):=⟨by omega,by omega,by omega,by omega⟩;refine⟨x,dx,L,h,j,rfl,aq,by rw[aE ne,aq],λ_ _ H' pr pt pk k S hr g1 g2 g3=>⟨rfl,?_⟩,λz=>absurd ok z,λ_ z=>absurd ⟨by omega,by omega⟩ z⟩
 rw[toNat_natCast,toNat_natCast,toNat_natCast] at S;exact q H' x dx pr pt pk (dG kp k λb hb=>by rw[mem_singleton.mp hb];exact hx) S hr hx hd (kp.bW g1) (kp.bW g2) (kp.bW g3)
theorem lz{wi:TI}{fs:Uc}{tt:TT}{C:TS}{D:Ends}(h:∀c:V->Hp->Prop,(∀x H1,C D (σ.set i (some x)) H1->c x H1)->eG wi fs tt te σ H c):aI (cU i wi fs tt te) C D σ H:=h _ λ_ _ z=>z
def lS(C:Addr):Sp:=λvs H Q _=>∃(x dx pr pt pk:Addr) (L h j:Nat) (kvs:Ue) (ks:Ud),vs=[.ref x]/\iT C H x dx pr pt pk L h j kvs ks/\Q (.int j) H
theorem xJ(cl:gg K C)(hN:N.length=1)(h:lS C vs H Q E):bG (eK K (ai 0) "own_number") {nx:=λ_ H'=>Q .non H',rt:=Q} (L2.start N vs) H:=by
 obtain⟨x,dx,pr,pt,pk,L,h,j,kvs,ks,rfl,S,q⟩:=h;unfold L2.start;rw[hN];nofun;exact BI S cl rfl q
def BP(C:Addr):Sp:=λvs H Q _=>∃(x dx pr pt pk:Addr) (L h j:Nat) (kvs:Ue) (ks:Ud) (xs:Uh V),vs=[.ref x]/\iT C H x dx pr pt pk L h j kvs ks/\H pr=some (.lst xs)/\Q (.int xs.length) H
theorem FP(cl:gg K C)(hN:N.length=1)(h:BP C vs H Q E):bG (dJ (cz K) (ah (eK K (ai 0) "renewals") av)) {nx:=λ_ H'=>Q .non H',rt:=Q} (L2.start N vs) H:=by
 obtain⟨x,dx,pr,pt,pk,L,h,j,kvs,ks,xs,rfl,S,hx,q⟩:=h;unfold L2.start;rw[hN];nofun;exact BJ S cl rfl (bZ (aX.of hx) q)
def c8:Ue->Uc->Uc
 |[],_=>[]
 |kv::kvs,m=>if kv.1=m then kv.2 else c8 kvs m
theorem IU(m:Uc):∀kvs:Ue,m∈kvs.map (·.1)->c5 (fF kvs) (Key.inr (txt m))=some (aD (c8 kvs m))
 |[],h=>by simp at h
 |kv::kvs,h=>by
  show c5 ((Key.inr (txt kv.1),aD kv.2)::fF kvs) _=_;unfold c8
  by_cases e:kv.1=m
  ·subst e;rw[cW rfl,if_pos rfl]
  ·rw[cF (λz=>e (dN.mp (by injection z))),if_neg e];exact IU m kvs (by
    rw[map_cons] at h
    rcases mem_cons.mp h with h|h
    ·exact absurd h.symm e
    ·exact h)
def nX(zs ks:Ud):Uh (Uc×Bool):=zs.map λm=>(m,!decide (m∈ks))
def gw(fr:Ud):Nat->Uh (Uc×Bool)->Uh bQ
 |_,[]=>[]
 |g,(m,true)::ks=>(m,some (fr.getD g []))::gw fr (g+1) ks
 |g,(m,false)::ks=>(m,none)::gw fr g ks
theorem ur(fr:Ud):∀(g:Nat) (ks:Uh (Uc×Bool)),eU fr g ks=(gw fr g ks).map nQ
 |_,[]=>rfl
 |g,(m,true)::ks=>by rw[eU,gw,map_cons,ur fr (g+1) ks];rfl
 |g,(m,false)::ks=>by rw[eU,gw,map_cons,ur fr g ks];rfl
theorem fR(fr:Ud):∀(g:Nat) (ks:Uh (Uc×Bool)),(gw fr g ks).map (·.1)=ks.map (·.1)
 |_,[]=>rfl
 |g,(m,true)::ks=>by rw[gw,map_cons,map_cons,fR fr (g+1) ks]
 |g,(m,false)::ks=>by rw[gw,map_cons,map_cons,fR fr g ks]
def fm(kvs:Ue)(R:Uh bQ):Ue:=R.filterMap λr=>r.2.map λn=>(n,c8 kvs r.1)
theorem lT(kvs:Ue):∀R:Uh bQ,(fm kvs R).map (·.1)=R.filterMap (·.2)
 |[]=>rfl
 |(m,none)::R=>by
  have:=lT kvs R;unfold fm at this ⊢;rw[List.filterMap_cons_none rfl,List.filterMap_cons_none rfl];exact this
 |(m,some y)::R=>by
  have:=lT kvs R;unfold fm at this ⊢;simp only[filterMap_cons,map_some,map_cons,List.cons.injEq,true_and];exact this
theorem mS(fr:Ud):∀(g:Nat) (ks:Uh (Uc×Bool)),g+cZ ks=fr.length->(gw fr g ks).filterMap (·.2)=fr.drop g
 |g,[],h=>by
  rw[gw,List.filterMap_nil,List.drop_eq_nil_of_le];have:cZ []=0:=rfl;omega
 |g,(m,true)::ks,h=>by
  rw[mO,if_pos rfl] at h;rw[gw];simp only[filterMap_cons];rw[mS fr (g+1) ks (by omega)];have hg:g<fr.length:=by omega
  rw[drop_eq_getElem_cons hg,getD_eq_getElem?_getD,getElem?_eq_getElem hg];rfl
 |g,(m,false)::ks,h=>by
  rw[mO,if_neg (by decide)] at h;rw[gw,List.filterMap_cons_none rfl,mS fr g ks (by omega)]
structure Ae(kvs:Ue)(zs:Ud):Prop where
 up:zs.Pairwise (·<·)
 perm:zs.Perm (kvs.map (·.1))
def dj(L:Nat)(zs ks:Ud)(n:Nat):Uh bQ:=gw (kY L (cZ (nX zs ks)) n) 0 (nX zs ks)
theorem gP:∀(kvs:Ue) {m:Uc},m∈kvs.map (·.1)->(m,c8 kvs m)∈kvs
 |[],m,h=>by simp at h
 |kv::kvs,m,h=>by
  unfold c8
  by_cases e:kv.1=m
  ·rw[if_pos e,<-e];exact mem_cons_self
  ·rw[if_neg e];rw[map_cons] at h
   rcases mem_cons.mp h with h|h
   ·exact absurd h.symm e
   ·exact mem_cons_of_mem _ (gP kvs h)
theorem nY{zs:Ud}{r:bQ}(h:r∈dj L zs ks n):r.1∈zs:=by
 have h1:r.1∈(dj L zs ks n).map (·.1):=mem_map.mpr ⟨r,h,rfl⟩;unfold dj at h1;rw[fR,nX,map_map] at h1;obtain⟨m,h2,h3⟩:=mem_map.mp h1;rw[<-h3];exact h2
theorem p9{zs:Ud}:(dj L zs ks n).filterMap (·.2)=kY L (cZ (nX zs ks)) n:=by
 unfold dj;rw[mS _ _ _ (by rw[tU,Nat.zero_add]),drop_zero]
theorem fE.small{m:Nat}(hL:2<=L)(R:fE L m n):n<=m:=by
 rcases Nat.eq_zero_or_pos n with z|z
 ·omega
 ·have h1:=R.less (n-1) (by omega);have h2:2^(n-1)<=L^(n-1):=Nat.pow_le_pow_left hL _;have h3:=Nat.lt_two_pow_self (n:=n-1);omega
theorem gh.qD{zs:Ud}{k b:Nat}(W:gh L kvs ks k b)(hL:2<=L)(A:Ae kvs zs)(R:fE L (cZ (nX zs ks)) n):gh L (fm kvs (dj L zs ks n)) [] k k:=by
 have e:=lT kvs (dj L zs ks n);rw[p9] at e;have zl:zs.length<=k:=by rw[A.perm.length_eq,length_map];exact W.few
 have sl:cZ (nX zs ks)<=k:=by
  have:=tV (nX zs ks);rw[nX,length_map] at this;rw[nX];omega
 have nl:=R.small hL;refine⟨by rw[e];exact dg (Dj (by omega) R),λkv hkv=>?_,?_,λ_ h=>(nomatch h),nodup_nil⟩
 ·have h1:kv.1∈(fm kvs (dj L zs ks n)).map (·.1):=mem_map.mpr ⟨kv,hkv,rfl⟩;rw[e] at h1;obtain⟨m1,m2⟩:=zz (by omega) R kv.1 h1;refine⟨m1,by omega,?_⟩;unfold fm at hkv;obtain⟨r,hr,e2⟩:=mem_filterMap.mp hkv;obtain⟨y,_,e3⟩:=map_eq_some_iff.mp e2;rw[<-e3];have:=gP kvs (m:=r.1) (A.perm.mem_iff.mp (nY hr));exact(W.mar _ this).2.2
 ·have:=congrArg List.length e;rw[length_map,tU] at this;omega
structure FQ(H:Hp)(pr:Addr)(as:Uh Addr)(R:Uh (Uh bQ)):Prop where
 lst:H pr=some (.lst (as.map V.ref))
 row:bw H as R
 out:¬pr∈as
theorem FQ.same{pr:Addr}{R:Uh (Uh bQ)}(A:FQ H pr as R)(s:aF H H'):FQ H' pr as R:=⟨s _ _ A.lst,A.row.same s,A.out⟩
theorem bw.keep(k:Keeps F H H')(ht:∀t∈F,∀ys,H t≠some (.tup ys)):∀{as:Uh Addr} {R:Uh (Uh bQ)},(∀a∈as,a∉F)->bw H as R->bw H' as R
 |[],[],_,_=>trivial
 |[],_::_,_,h=>h.elim
 |_::_,[],_,h=>h.elim
 |a::_,_::_,n,⟨⟨xs,e,p⟩,r⟩=>⟨⟨xs,k _ _ e (n a mem_cons_self),p.keep λt ys e=>k t _ e λz=>ht t z ys e⟩,bw.keep k ht (λb hb=>n b (mem_cons_of_mem _ hb)) r⟩
def g8(C ch:Addr):Sp:=λvs H Q E=>∃(x dx pr pt pk:Addr) (L h j:Nat) (kvs:Ue) (ks:Ud) (k b:Nat) (as:Uh Addr) (R:Uh (Uh bQ)),vs=[.ref x]/\iT C H x dx pr pt pk L h j kvs ks/\jX L h j/\gh L kvs ks k b/\k<=62/\FQ H pr as R/\R.length<=1000/\
 (j≠0->E (.ref ch) none H)/\
 (j=0->∀H' zs n pt' pk' r ys q,Ae kvs zs->fE L (cZ (nX zs ks)) n->Keeps [x,pr] H H'->iT C H' x dx pr pt' pk' L h j (fm kvs (dj L zs ks n)) []->FQ H' pr (as++[r]) (R++[dj L zs ks n])->
  H' q=some (.lst ys)->d9 H' ys ((dj L zs ks n).map nQ)->H pt'=none->H pk'=none->H r=none->H q=none->q≠r->Q (.ref q) H')
def nZ(K:W.Frag)(ch:Addr)(m:Uc)(E:XK):TS:=
  aI (dP (bD (aP Nf (eK K (ai 0) "own_number") (tC (.int 0)))) (iP (.ref ch) E (ah (tC (.str (txt m))) av)) (cJ))
   (aI (cU 1 (bS K (dJ nI (ah (eK K (ai 0) "thing_of") av))) [0] ku (iL (ah (ai 0) (ah (aP (E9 true) (ai 0) (eK K (ai 1) "taken")) av))))
   (aI (bg (aH (Bu K) [] E0 (ah (eK K (ai 0) "letters") (ah (ai 1) av))) (aG 2))
   (aI (iK K (ai 0) (dJ rm (ah (jt K (bS K (ai 2)) [0] (tB (gc (ai 1))) (iL (ah (ai 1) (ah (fu (eK K (ai 2) "thing_of") (ai 0)) av)))) av)) "thing_of")
   (aI (iK K (ai 0) gq "taken")
   (aI (cj (Ac K "list" fS (eK K (ai 0) "renewals") (ah (ai 2) av)))
   (bG (dJ (jk K) (ah (ai 2) av))))))))
def P0(H:Hp)(zs ks:Ud):Nat->Uh V->Hp->Prop:=λi ys H'=>aF H H'/\d9 H' ys ((nX (zs.take i) ks).map kP)/\ys.length=i
def P4(H:Hp)(kvs:Ue)(R:Uh bQ):Nat->Uh V->Hp->Prop:=λi ys H'=>aF H H'/\d9 H' ys ((fm kvs (R.take i)).map zM)/\ys.length<=i
theorem jF:∀(ps qs:Uh (Key×V)),((qs++ps).map (·.1)).Nodup->iR qs ps=qs++ps
 |[],qs,_=>by rw[append_nil];rfl
 |(k,v)::ps,qs,h=>by
  have h1:c5 qs k=none:=by
   cases w:c5 qs k with
   |none=>rfl
   |some u=>
    exfalso
    have hk:k∈qs.map (·.1):=by
     refine Classical.byContradiction λnk=>?_;have:c5 qs k=none:=by
      clear h w
      induction qs with
      |nil=>exact tu
      |cons q qs ih=>
       rw[cF (λz=>nk (by rw[<-z];exact mem_cons_self))];exact ih λz=>nk (mem_cons_of_mem _ z)
     rw[this] at w;cases w
    rw[map_append,nodup_append] at h;exact h.2.2 k hk k (by simp) rfl
  show iR (putK qs k v) ps=_;rw[nC _ h1,jF ps (qs++[(k,v)]) (by rw[append_assoc];exact h),append_assoc];rfl
theorem d9.P5(p:d9 H ys (zs.map zM)):Sg H ys (fF zs):=by
 refine⟨by rw[p.len,fF,length_map,length_map],λi k v e=>?_⟩;rw[fF,getElem?_map] at e;obtain⟨z,e1,e2⟩:=map_eq_some_iff.mp e;cases e2;obtain⟨y,hy⟩:=some_at (l:=ys) (i:=i) (by rw[p.len,length_map];exact(List.getElem?_eq_some_iff.mp e1).1);obtain⟨q,t,a,rfl,c⟩:=p.get hy;rw[getElem?_map,e1] at a;cases a;exact⟨t,hy,c⟩
theorem zP{ch:Addr}{mm:Uc}(cl:gg K C)(hN:N.length=3)(h:g8 C ch vs H Q E):nZ K ch mm E {nx:=λ_ H'=>Q .non H',rt:=Q} (L2.start N vs) H:=by
 obtain⟨x,dx,pr,pt,pk,L,h,j,kvs,ks,k,b,as,R,rfl,S,D,W,hk,A,hRl,qx,q⟩:=h;unfold nZ L2.start;rw[hN];refine aT λc hc=>?_;nofun;refine BI S cl rfl ⟨rfl,?_⟩
 by_cases hj:j=0
 case neg=>
  rw[if_pos (λz=>hj (by have:=V.int.inj z;omega))];exact⟨by decide,qx hj⟩
 rw[if_neg (λz=>z (by rw[hj];rfl))];have q:=q hj;refine hc _ _ ?_;clear hc c;have few:=W.few;refine lz λc hc=>?_;refine wF λR0 hR0=>?_;simp? [bS]
 refine pW S cl rfl ⟨pt,kvs.map λkv=>(kv.1,aD kv.2),rfl,by rw[<-IQ];exact S.tho,by rw[length_map];omega,λl zs hl hpm hle=>⟨l,rfl,⟨_,aX.here⟩,?_⟩⟩
 rw[hR0];have hkk:(kvs.map λkv=>(kv.1,aD kv.2)).map (·.1)=kvs.map (·.1):=by rw[map_map];rfl
 rw[hkk] at hpm;have zlt:=gD hle (hpm.nodup_iff.mpr W.nd);have AK:Ae kvs zs:=⟨zlt,hpm⟩;have s1:=aF.up H hl (o:=.lst (zs.map aD));have hZ:(upd H l (.lst (zs.map aD))) l=some (.lst (zs.map aD)):=aq;generalize upd H l _=H1 at s1 hZ ⊢;have zl:zs.length<=62:=by rw[hpm.length_eq,length_map];omega
 refine nu (K:=K) (xs:=zs.map aD) (σ:=[some (.ref x),none,none]) (fs:=[0]) (tt:=ku) (te:=iL (ah (ai 0) (ah (aP (E9 true) (ai 0) (eK K (ai 1) "taken")) av))) (Q:=c) (P0 H1 zs ks) ⟨aF.refl _,trivial,rfl⟩ (λi ys H' _ p=>by
  exact⟨aX.of (p.1 _ _ hZ),by rw[p.2.2];exact le_refl _⟩) (by rw[length_map,sizeLine_eq];omega) ?_ ?_
 ·rintro i v ys H' hv ⟨s',p',rfl⟩ W' hW;rw[getElem?_map] at hv;obtain⟨m,hm,rfl⟩:=map_eq_some_iff.mp hv;have S':=(S.same s1).same s';simp? [aD]
  refine xA S' cl rfl ⟨pk,_,rfl,iQ.k (k:=Key.inr (txt m)) S'.tak,by decide,λt ht=>?_⟩;rw[xy,show (decide (m∈ks) !=true) = !decide (m∈ks) by cases decide (m∈ks)<;>rfl]
  have s2:=aF.up H' ht (o:=.tup [.str (txt m),.bl (!decide (m∈ks))]);refine hW _ _ ⟨s'.trans s2,?_,by rw[length_append];rfl⟩;have e:(nX (zs.take (ys.length+1)) ks).map kP=(nX (zs.take ys.length) ks).map kP++[(aD m,.bl (!decide (m∈ks)))]:=by
   rw[take_add_one,hm,nX,map_append,map_append];rfl
  rw[e];exact(p'.same s2).app ⟨⟨t,rfl,aq⟩,trivial⟩
 rintro ys H2 ⟨s2,p2,hyl⟩ p1 hp1;rw[length_map,take_length] at p2;refine hc _ _ ?_;clear hc;have s2:=s1.trans s2;have s3:=s2.new hp1 (o:=.lst ys);have p3:=p2.same (aF.up H2 hp1 (o:=.lst ys));have e3:(upd H2 p1 (.lst ys)) p1=some (.lst ys):=aq;generalize upd H2 p1 _=H3 at s3 p3 e3 ⊢;have S3:=S.same s3;refine aW λc hc=>?_;nofun;refine BH S3 cl rfl ⟨L,p1,nX zs ks,rfl,D.l2,D.l26,by rw[nX,length_map];omega,⟨ys,aX.of e3,p3⟩,λH4 r us n IR s4 hr hr4 p4=>hc _ _ ?_⟩
 clear hc c;rw[ur] at p4;have p4:d9 H4 us ((dj L zs ks n).map nQ):=p4;have fr:H r=none:=s3.bW hr;have s4:=s3.trans s4;have S4:=S.same s4;have hul:=p4.len;rw[length_map] at hul;have rl:(dj L zs ks n).length<=62:=by
  have:=congrArg List.length (fR (kY L (cZ (nX zs ks)) n) 0 (nX zs ks));rw[length_map,length_map,nX,length_map] at this;unfold dj;rw[nX,this];omega
 have q:=λH' pt' pk' ys q'=>q H' zs n pt' pk' r ys q' AK IR;have olds:∀y∈dj L zs ks n,y.1∈kvs.map (·.1):=λy hy=>hpm.mem_iff.mp (nY hy);have nd':=(W.qD D.l2 AK IR).nd;generalize dj L zs ks n=rw at p4 hul rl q olds nd';simp only[set_cons_zero,set_cons_succ]
 -- the new things
 refine aT λc hc=>?_;unfold iK;nofun;refine rf (a:=r) (xs:=us) (λQ h=>⟨_,rfl,h⟩) (aX.of hr4) (P4 H4 kvs rw) ⟨aF.refl _,trivial,zero_le _⟩ (λi ys H' _ p=>⟨aX.of (p.1 _ _ hr4),p.2.2⟩) (by rw[hul,sizeLine_eq];omega) ?_ ?_
 ·rintro i v ys H' hv ⟨s',p',hle'⟩;obtain⟨pp,t,e1,rfl,ht⟩:=(p4.same s').get hv;rw[getElem?_map] at e1;obtain⟨y,ey,rfl⟩:=map_eq_some_iff.mp e1;refine⟨t,aD y.1,oV y.2,rfl,dU.of ht,λW' hW=>?_⟩;have S':=S4.same s';have etk:rw.take (i+1)=rw.take i++[y]:=by rw[take_add_one,ey];rfl
  have hmk:=olds y (mem_of_getElem? ey);obtain⟨o,w⟩:=y;cases w with
  |none=>
   simp? [aD,oV]
   refine hW _ _ ⟨s',?_,by omega⟩;rw[etk,fm,List.filterMap_append];simpa [fm] using p'
  |some w=>
   simp? [aD,oV,fu]
   refine pW S' cl rfl ⟨pt,rfl,_,by rw[<-IU o kvs hmk];exact iQ.k (k:=Key.inr (txt o)) S'.tho,by decide,λt2 ht2=>?_⟩;have s2:=aF.up H' ht2 (o:=.tup [.str (txt w),aD (c8 kvs o)]);refine hW _ _ ⟨s'.trans s2,?_,by rw[length_append];simp only[length_cons,length_nil];omega⟩;have e:(fm kvs (rw.take (i+1))).map zM=(fm kvs (rw.take i)).map zM++[(aD w,aD (c8 kvs o))]:=by
    rw[etk,fm,List.filterMap_append,map_append];rfl
   rw[e];exact(p'.same s2).app ⟨⟨t2,rfl,aq⟩,trivial⟩
 rintro ys5 H5 ⟨s5,p5,_⟩ l5 hl5;rw[hul,take_length] at p5;have s45:=s4.trans s5;have s6:=s45.new hl5 (o:=.lst ys5);have p6:=p5.same (aF.up H5 hl5 (o:=.lst ys5));have e6:(upd H5 l5 (.lst ys5)) l5=some (.lst ys5):=aq;have r6:=(aF.up H5 hl5 (o:=.lst ys5)) _ _ (s5 _ _ hr4);have q6:=(p4.same s5).same (aF.up H5 hl5 (o:=.lst ys5));generalize upd H5 l5 _=H6 at s6 p6 e6 r6 q6 ⊢;refine⟨l5,ys5,fF (fm kvs rw),rfl,e6,p6.P5,λpt' uu=>?_⟩;have em:iR [] (fF (fm kvs rw))=fF (fm kvs rw):=by
  rw[jF _ _ (by
   rw[nil_append,fF,map_map];have:=pairwise_map.mpr (List.Pairwise.imp (S:=λa b=>(Key.inr (txt a):Key)≠Key.inr (txt b)) (λn e=>n (dN.mp (by injection e))) nd');rw[map_map] at this;exact this)]
  rfl
 rw[em];have S6:=S.same s6;have ft:H pt'=none:=s6.bW uu;have nx:x≠pt':=λz=>by subst z;rw[S6.ins] at uu;cases uu
 have ndx:dx≠pt':=λz=>by subst z;rw[S6.own] at uu;cases uu
 have npr:pr≠pt':=λz=>by subst z;rw[s6 _ _ A.lst] at uu;cases uu
 have nr:r≠pt':=λz=>by subst z;rw[r6] at uu;cases uu
 refine⟨C,dx,cC L h j pr pt pk,by rw[aE nx];exact S6.ins,cl.cls,cl.nt,by simp[cC],hc _ _ ?_⟩;clear hc c;have s7:=s6.new uu (o:=.dK (fF (fm kvs rw)));have k7:Keeps [x,pr] H (upd (upd H6 pt' (.dK (fF (fm kvs rw)))) x (.ins C dx (cG "thing_of" (.ref pt') (cC L h j pr pt pk)))):=(s7.keeps _).upd (.inl mem_cons_self);have x7:(upd (upd H6 pt' (.dK (fF (fm kvs rw)))) x (.ins C dx (cG "thing_of" (.ref pt') (cC L h j pr pt pk)))) x=some (.ins C dx (cC L h j pr pt' pk)):=aq;have tt:∀{z:Addr} {o:HO},z≠x->H6 z=some o->(upd (upd H6 pt' (.dK (fF (fm kvs rw)))) x (.ins C dx (cG "thing_of" (.ref pt') (cC L h j pr pt pk)))) z=some o:=λ{z o} n e=>by
  rw[aE n,aE (λw=>by subst w;rw[uu] at e;cases e)];exact e
 have hdx:dx≠x:=λz=>by subst z;have:=S.ins.symm.trans S.own;cases this
 have hpx:pr≠x:=λz=>by subst z;have:=S.ins.symm.trans A.lst;cases this
 have hrx:r≠x:=λz=>by subst z;have:=S6.ins.symm.trans r6;cases this
 have d7:=tt hdx S6.own;have l7:=tt hpx (s6 _ _ A.lst);have r7:=tt hrx r6;have t7:(upd (upd H6 pt' (.dK (fF (fm kvs rw)))) x (.ins C dx (cG "thing_of" (.ref pt') (cC L h j pr pt pk)))) pt'=some (.dK (fF (fm kvs rw))):=by rw[aE (Ne.symm nx),aq]
 have q7:d9 (upd (upd H6 pt' (.dK (fF (fm kvs rw)))) x (.ins C dx (cG "thing_of" (.ref pt') (cC L h j pr pt pk)))) us (rw.map nQ):=q6.keep λt ys e=>tt (λz=>by subst z;have:=S6.ins.symm.trans e;cases this) e;generalize upd (upd H6 pt' _) x _=H7 at k7 x7 d7 l7 r7 t7 q7 ⊢;clear tt
 -- taken
 refine aT λc hc=>?_;unfold iK gq;nofun;refine λpk' uS=>⟨C,dx,cC L h j pr pt' pk,?_⟩;have nx:x≠pk':=λz=>by subst z;rw[x7] at uS;cases uS
 have nt:pt'≠pk':=λz=>by subst z;rw[t7] at uS;cases uS
 have fk:H pk'=none:=by
  cases w:H pk' with
  |none=>rfl
  |some o=>
   have:=k7 pk' o w (λz=>by
    rcases mem_cons.mp z with z|z
    ·exact nx z.symm
    ·rw[mem_singleton.mp z,l7] at uS;cases uS)
   rw[this] at uS;cases uS
 refine⟨by rw[aE nx];exact x7,cl.cls,cl.nk,by simp[cC],hc _ _ ?_⟩;clear hc c;have k8:Keeps [x,pr] H (upd (upd H7 pk' (.dK [])) x (.ins C dx (cG "taken" (.ref pk') (cC L h j pr pt' pk)))):=(k7.upd (.inr uS)).upd (.inl mem_cons_self);have x8:(upd (upd H7 pk' (.dK [])) x (.ins C dx (cG "taken" (.ref pk') (cC L h j pr pt' pk)))) x=some (.ins C dx (cC L h j pr pt' pk')):=aq;have tt:∀{z:Addr} {o:HO},z≠x->H7 z=some o->(upd (upd H7 pk' (.dK [])) x (.ins C dx (cG "taken" (.ref pk') (cC L h j pr pt' pk)))) z=some o:=λ{z o} n e=>by
  rw[aE n,aE (λw=>by subst w;rw[uS] at e;cases e)];exact e
 have d8:=tt hdx d7;have l8:=tt hpx l7;have r8:=tt hrx r7;have t8:=tt (λz=>by subst z;have:=x7.symm.trans t7;cases this) t7;have u8:(upd (upd H7 pk' (.dK [])) x (.ins C dx (cG "taken" (.ref pk') (cC L h j pr pt' pk)))) pk'=some (.dK (qB [])):=by rw[aE (Ne.symm nx),aq];rfl
 have q8:d9 (upd (upd H7 pk' (.dK [])) x (.ins C dx (cG "taken" (.ref pk') (cC L h j pr pt' pk)))) us (rw.map nQ):=q7.keep λt ys e=>tt (λz=>by subst z;have:=x7.symm.trans e;cases this) e;generalize upd (upd H7 pk' _) x _=H8 at k8 x8 d8 l8 r8 t8 u8 q8 ⊢;clear tt;have S8:iT C H8 x dx pr pt' pk' L h j (fm kvs rw) []:=⟨x8,d8,t8,u8,nt⟩
 -- the renewals
 have al:=A.row.len;refine aT λc hc=>?_;nofun;refine BJ S8 cl rfl ⟨.inl ⟨rfl,_,aX.of l8⟩,gI l8 (by rw[length_map];omega) (hc _ _ ?_)⟩;clear hc c;have npx:r≠pr:=λz=>by subst z;rw[A.lst] at fr;cases fr
 have k9:Keeps [x,pr] H (upd H8 pr (.lst (as.map V.ref++[.ref r]))):=k8.upd (.inl (mem_cons_of_mem _ mem_cons_self));have nk:∀{z:Addr} {o:HO},z≠pr->H8 z=some o->(upd H8 pr (.lst (as.map V.ref++[.ref r]))) z=some o:=λ{z o} n e=>by rw[aE n];exact e
 have S9:iT C (upd H8 pr (.lst (as.map V.ref++[.ref r]))) x dx pr pt' pk' L h j (fm kvs rw) []:=⟨nk (Ne.symm hpx) x8,nk (λz=>by subst z;have:=d8.symm.trans l8;cases this) d8,nk (λz=>by subst z;have:=t8.symm.trans l8;cases this) t8,nk (λz=>by subst z;have:=u8.symm.trans l8;cases this) u8,nt⟩;have l9:(upd H8 pr (.lst (as.map V.ref++[.ref r]))) pr=some (.lst ((as++[r]).map V.ref)):=by rw[aq,map_append];rfl
 have r9:=nk npx r8;have q9:d9 (upd H8 pr (.lst (as.map V.ref++[.ref r]))) us (rw.map nQ):=q8.keep λt ys e=>nk (λz=>by subst z;have:=l8.symm.trans e;cases this) e;generalize upd H8 pr _=H9 at k9 S9 l9 r9 q9 ⊢;have P6:bw H9 as R:=A.row.keep k9 (λt ht ys e=>by
  rcases mem_cons.mp ht with z|z
  ·rw[z,S.ins] at e;cases e
  ·rw[mem_singleton.mp z,A.lst] at e;cases e) λa ha z=>by
  rcases mem_cons.mp z with z|z
  ·obtain⟨i,hi⟩:=getElem?_of_mem ha;obtain⟨_,_,_,w,_⟩:=A.row.get hi;rw[z,S.ins] at w;cases w
  ·exact A.out (by rw[<-mem_singleton.mp z];exact ha)
 nofun;refine⟨r,us,rfl,.inl (aX.of r9),λo ho=>?_⟩;have s10:=aF.up H9 ho (o:=.lst us);have no:o≠r:=λz=>by subst z;rw[r9] at ho;cases ho
 have fo:H o=none:=by
  cases w:H o with
  |none=>rfl
  |some u=>
   have:=k9 o u w (λz=>by
    rcases mem_cons.mp z with z|z
    ·rw[z,S9.ins] at ho;cases ho
    ·rw[mem_singleton.mp z,l9] at ho;cases ho)
   rw[this] at ho;cases ho
 refine q _ pt' pk' us o (k9.upd (.inr ho)) (S9.same s10) ⟨s10 _ _ l9,(P6.app (show bw H9 [r] [rw] from⟨⟨us,r9,q9⟩,trivial⟩)).same s10,λz=>?_⟩ aq (q9.same s10) ft fk fr fo no
 rcases mem_append.mp z with z|z
 ·exact A.out z
 ·exact npx (mem_singleton.mp z).symm
theorem LP(t:Uc)(hm:¬m∈kvs.map (·.1)):putK (fF kvs) (Key.inr (txt m)) (aD t)=fF (kvs++[(m,t)]):=by
 rw[nC _ (xD m kvs hm)];unfold fF;rw[map_append];rfl
def qE:Ud:=[[97],[116,97,107,101,110],[114,101,110,101,119,97,108],[48],[122,57],[97,98,99,100,101,102,103,104,105,106,107,108],[98],[55]]
theorem IV:∀t∈qE,Thing t/\t.length<=12:=by
 intro t ht;simp only[qE,mem_cons,not_mem_nil,or_false] at ht
 rcases ht with rfl|rfl|rfl|rfl|rfl|rfl|rfl|rfl<;>exact⟨⟨by decide,by decide,by decide⟩,by decide⟩
def jb(K:W.Frag):Sp:=λvs H Q _=>∃(a:Addr) (ns:Uh Int) (k:Int),vs=[.ref a,.int k]/\aX K H a (ns.map V.int)/\ns.length<=63/\0<=k/\k<=10000/\∀H' t,aF H H'->Thing t->t.length<=12->Q (.str (txt t)) H'
def uv(K:W.Frag):TS:=
  aI (bg (oZ (ah (tC (.str (txt [97]))) (ah (tC (.str (txt [116,97,107,101,110]))) (ah (tC (.str (txt [114,101,110,101,119,97,108]))) (ah (tC (.str (txt [48]))) (ah (tC (.str (txt [122,57]))) (ah (tC (.str (txt [97,98,99,100,101,102,103,104,105,106,107,108]))) (ah (tC (.str (txt [98]))) (ah (tC (.str (txt [55]))) av))))))))) (aG 2))
   (bG (aP (dQ K) (ai 2) (aH (eO K) [] E0 (ah (ai 0) (ah (ai 1) (ah (tC (.int 8)) av))))))
theorem zQ(hN:N.length=3)(h:jb K vs H Q E):uv K {nx:=λ_ H'=>Q .non H',rt:=Q} (L2.start N vs) H:=by
 obtain⟨sc,ns,k,rfl,hS,hl,hk0,hk1,q⟩:=h;unfold uv L2.start;rw[hN];refine aW λc hc=>?_;nofun;refine⟨by decide,λp hp=>hc _ _ ?_⟩;clear hc c;have s1:=aF.up (o:=HO.lst (qE.map aD)) H hp;have l1:(upd H p (.lst (qE.map aD))) p=some (.lst (qE.map aD)):=aq;show bG _ _ _ (upd H p (.lst (qE.map aD)));generalize upd H p _=H1 at s1 l1 ⊢;nofun;refine⟨sc,ns,_,_,rfl,s1.seq hS,hl,hk0,by omega,by decide,λr h0 h1=>?_⟩;obtain⟨t,ht⟩:=some_at (l:=qE) (i:=r.toNat) (by simp only[qE,length_cons,length_nil];omega);obtain⟨b1,b2⟩:=IV t (mem_of_getElem? ht);exact cD (v:=aD t) (aX.of l1) h0 (by rw[getElem?_map,ht];rfl) (q _ t s1 b1 b2)
structure NW(H:Hp)(p1 p2 p3:Addr)(bs:Uh Addr):Prop where
 f1:H p1=none
 f2:H p2=none
 f3:H p3=none
 fb:∀b∈bs,H b=none
 b1:∀b∈bs,b≠p1
 b2:∀b∈bs,b≠p2
 b3:∀b∈bs,b≠p3
 n12:p1≠p2
 n13:p1≠p3
 n23:p2≠p3
theorem rC{tl:TE}{g:TG}{D:Ends}(h:tl σ H λx H1=>gQ (bS K (tC x)) g tb D σ H1):gQ (bS K tl) g tb D σ H:=h
theorem lU{X Y:Hp}{u:HO}(s:aF X Y)(e:X a=some u)(f:Y b=none):a≠b:=λz=>by rw[<-z,s _ _ e] at f;cases f
theorem bw.live{R:Uh (Uh bQ)}(h:bw H as R)(hb:b∈as):∃u,H b=some u:=by
 obtain⟨i,hi⟩:=List.mem_iff_getElem?.mp hb;obtain⟨r,xs,_,e,_⟩:=h.get hi;exact⟨_,e⟩
def xK(K:W.Frag):Sp:=λvs H Q _=>∃(p p1 p2 p3:Addr) (bs:Uh Addr) (ts:Uh V) (L h:Nat) (R:Uh (Uh bQ)) (zs:Ue) (ws:Ud),vs=[.ref p]/\lq H p p1 p2 p3 bs ts L h R zs ws/\R.length<=60/\∀H' o q1 q2 q3 cs,aF H H'->H o=none->NW H q1 q2 q3 cs->lq H' o q1 q2 q3 cs ts L h R zs ws->Q (.ref o) H'
def xM(K:W.Frag):TS:=
  bG (iL (ah (aP (bH K) (ai 0) (tC (.int 0))) (ah (aP (bH K) (ai 0) (tC (.int 1))) (ah (eG (bS K (aP (bH K) (ai 0) (tC (.int 2)))) [] ku (dJ (jk K) (ah (ai 0) av))) (ah (dJ (jk K) (ah (aP (bH K) (ai 0) (tC (.int 3))) av)) (ah (dJ (jk K) (ah (aP (bH K) (ai 0) (tC (.int 4))) av)) av))))))
theorem BR(hN:N.length=1)(h:xK K vs H Q E):xM K {nx:=λ_ H'=>Q .non H',rt:=Q} (L2.start N vs) H:=by
 obtain⟨p,p1,p2,p3,bs,ts,L,h,R,zs,ws,rfl,A,few,q⟩:=h;have bl:=A.row.len;unfold xM L2.start;rw[hN];nofun;refine aZ (v:=.int L) (dU.of A.top) (by decide) rfl (aZ (v:=.int h) (dU.of A.top) (by decide) rfl ?_);refine kR (a:=p1) (xs:=bs.map V.ref) (λQ h=>by nofun;exact aZ (v:=.ref p1) (dU.of A.top) (by decide) rfl h) (aX.of A.ren) (λi ys H'=>aF H H'/\∃cs:Uh Addr,ys=cs.map V.ref/\bw H' cs (R.take i)/\∀b∈cs,H b=none) ⟨aF.refl _,[],rfl,trivial,λb hb=>(nomatch hb)⟩ (λi ys H' _ p=>⟨aX.of (p.1 _ _ A.ren),by obtain⟨_,cs,e,rc,_⟩:=p;rw[e,length_map,rc.len,length_take];exact Nat.min_le_left _ _⟩) (by rw[length_map,sizeLine_eq];omega) ?_ ?_
 ·rintro i v ys H' hv ⟨s',cs,rfl,rc,fr⟩ W hW;rw[getElem?_map] at hv;obtain⟨b,hb,rfl⟩:=map_eq_some_iff.mp hv;obtain⟨r,xs,er,hx,px⟩:=A.row.get hb;have etk:R.take (i+1)=R.take i++[r]:=by rw[take_add_one,er];rfl
  nofun;refine⟨b,xs,rfl,.inl (aX.of (s' _ _ hx)),λl hl=>hW _ _ ⟨s'.new hl,cs++[l],by rw[map_append];rfl,?_,λc hc=>?_⟩⟩
  ·rw[etk];have sU:=aF.up H' hl (o:=.lst xs);exact(rc.same sU).app ⟨⟨xs,aq,(px.same s').same sU⟩,trivial⟩
  ·rcases mem_append.mp hc with z|z
   ·exact fr c z
   ·rw[mem_singleton.mp z];exact s'.bW hl
 rintro ys H1 ⟨s1,cs,rfl,rc,fr⟩ q1 hq1;rw[length_map,bl,take_length] at rc;have sA:=aF.up H1 hq1 (o:=.lst (cs.map V.ref));have eA:(upd H1 q1 (.lst (cs.map V.ref))) q1=some (.lst (cs.map V.ref)):=aq;generalize upd H1 q1 _=H2 at sA eA ⊢;have s2:=s1.trans sA;refine aZ (v:=.ref p2) (dU.of (s2 _ _ A.top)) (by decide) rfl ⟨p2,ts,rfl,.inl (aX.of (s2 _ _ A.thi)),λq2 hq2=>?_⟩;have sB:=aF.up H2 hq2 (o:=.lst ts);have eB:(upd H2 q2 (.lst ts)) q2=some (.lst ts):=aq;generalize upd H2 q2 _=H3 at sB eB ⊢;have s3:=s2.trans sB;refine aZ (v:=.ref p3) (dU.of (s3 _ _ A.top)) (by decide) rfl ⟨p3,_,rfl,.inl (aX.of (s3 _ _ A.tak)),λq3 hq3=>?_⟩;have sC:=aF.up H3 hq3 (o:=.lst (ws.map aD));have eC:(upd H3 q3 (.lst (ws.map aD))) q3=some (.lst (ws.map aD)):=aq;generalize upd H3 q3 _=H4 at sC eC ⊢;have s4:=s3.trans sC;refine⟨by decide,λo ho=>?_⟩;have sD:=aF.up H4 ho (o:=.tup [.int L,.int h,.ref q1,.ref q2,.ref q3]);have sBC:=sB.trans sC;exact q _ o q1 q2 q3 cs (s4.trans sD) (s4.bW ho) ⟨s1.bW hq1,s2.bW hq2,s3.bW hq3,fr,λb hb=>(by
   obtain⟨u,e⟩:=rc.live hb;exact lU (aF.refl _) e hq1),λb hb=>(by
   obtain⟨u,e⟩:=rc.live hb;exact lU sA e hq2),λb hb=>(by
   obtain⟨u,e⟩:=rc.live hb;exact lU (sA.trans sB) e hq3),lU (aF.refl _) eA hq2,lU sB eA hq3,lU (aF.refl _) eB hq3⟩ ⟨aq,sD _ _ (sBC _ _ eA),((rc.same sA).same sBC).same sD,sD _ _ (sC _ _ eB),A.prs.same (s4.trans sD),sD _ _ eC⟩
def bR(L:Nat):Uh (Uh bQ)->Uc->Ug->Prop
 |[],m,v=>v=some m
 |r::R,m,v=>(∃x,vI L r m (some x)/\bR L R x v)\/(vI L r m none/\v=none)
theorem bR.one(hL:2<=L):∀{R:Uh (Uh bQ)} {m:Uc} {v v':Ug},(∀r∈R,bu L r)->bR L R m v->bR L R m v'->v=v'
 |[],_,_,_,_,a,b=>a.trans b.symm
 |r::R,m,v,v',O,a,b=>by
  have O1:=O r mem_cons_self
  rcases a with⟨x,a1,a2⟩|⟨a1,rfl⟩<;>rcases b with⟨y,b1,b2⟩|⟨b1,rfl⟩
  ·have e:=vI.one O1 hL a1 b1;injection e with e
   subst e;exact bR.one hL (λr h=>O r (mem_cons_of_mem _ h)) a2 b2
  ·cases vI.one O1 hL a1 b1
  ·cases vI.one O1 hL a1 b1
  ·rfl
theorem bR.snoc:∀{R:Uh (Uh bQ)} {r:Uh bQ} {m x:Uc} {v:Ug},bR L R m (some x)->vI L r x v->bR L (R++[r]) m v
 |[],r,m,x,v,a,b=>by
  have e:some x=some m:=a;injection e with e
  subst e;cases v with
  |none=>exact .inr ⟨b,rfl⟩
  |some y=>exact .inl ⟨y,b,rfl⟩
 |q::R,r,m,x,v,a,b=>by
  rcases a with⟨y,a1,a2⟩|⟨a1,a2⟩
  ·exact .inl ⟨y,a1,a2.snoc b⟩
  ·cases a2
theorem bR.gone:∀{R S:Uh (Uh bQ)} {m:Uc},bR L R m none->bR L (R++S) m none
 |[],_,_,a=>by cases a
 |q::R,S,m,a=>by
  rcases a with⟨y,a1,a2⟩|⟨a1,_⟩
  ·exact .inl ⟨y,a1,a2.gone⟩
  ·exact .inr ⟨a1,rfl⟩
theorem bR.len(hL:2<=L):∀{R:Uh (Uh bQ)} {m x:Uc},(∀r∈R,bu L r)->Mark L m->bR L R m (some x)->Mark L x/\x.length<=501*R.length+m.length
 |[],m,x,_,M,a=>by
  have e:some x=some m:=a;injection e with e
  subst e;exact⟨M,by omega⟩
 |r::R,m,x,O,M,a=>by
  rcases a with⟨z,a1,a2⟩|⟨a1,a2⟩
  ·obtain⟨M1,l1⟩:=vI.len (O r mem_cons_self) hL M a1;obtain⟨M2,l2⟩:=bR.len hL (λr h=>O r (mem_cons_of_mem _ h)) M1 a2;exact⟨M2,by rw[length_cons];omega⟩
  ·cases a2
structure j3(S zs:Ue):Prop where
 up:(zs.map (·.1)).Pairwise (·<·)
 mem:∀z∈zs,z∈S
 all:∀q∈S,∃z∈zs,z.1=q.1/\¬q.2<z.2
theorem up_eq(h:(zs.map (·.1)).Pairwise (·<·))(h':(zs'.map (·.1)).Pairwise (·<·))(e:∀z,z∈zs↔z∈zs'):zs=zs':=by
 have nd:∀{l:Ue},(l.map (·.1)).Pairwise (·<·)->l.Nodup:=λh=>(pairwise_map.mp h).imp λg z=>by subst z;exact List.lt_irrefl _ g
 exact((perm_ext_iff_of_nodup (nd h) (nd h')).mpr e).eq_of_pairwise (le:=λa b=>a.1<b.1) (λa b _ _ h g=>absurd (List.lt_trans h g) (List.lt_irrefl a.1)) (pairwise_map.mp h) (pairwise_map.mp h')
theorem NX(h:(zs.map (·.1)).Pairwise (·<·)){a b:Uc×Uc}(ha:a∈zs)(hb:b∈zs)(e:a.1=b.1):a=b:=by
 obtain⟨i,hi,rfl⟩:=mem_iff_getElem.mp ha;obtain⟨j,hj,rfl⟩:=mem_iff_getElem.mp hb;have k:=pairwise_iff_getElem.mp (pairwise_map.mp h)
 rcases lt_trichotomy i j with z|z|z
 ·have:=k i j hi hj z;rw[e] at this;exact absurd this (List.lt_irrefl _)
 ·subst z;rfl
 ·have:=k j i hj hi z;rw[e] at this;exact absurd this (List.lt_irrefl _)
theorem j3.sub{S':Ue}(A:j3 S zs)(B:j3 S' zs')(e:∀q,q∈S↔q∈S'):∀z∈zs,z∈zs':=λz hz=>by
 obtain⟨z1,h1,e1,n1⟩:=B.all z ((e z).mp (A.mem z hz));obtain⟨z2,h2,e2,n2⟩:=A.all z1 ((e z1).mpr (B.mem z1 h1));have:z2=z:=NX A.up h2 hz (e2.trans e1);subst this;have et:z1.2=z2.2:=by
  rcases zO z1.2 z2.2 with x|x|x
  ·exact absurd x n2
  ·exact x
  ·exact absurd x n1
 have:z1=z2:=Prod.ext e1 et;rw[<-this];exact h1
theorem j3.one{S':Ue}(A:j3 S zs)(B:j3 S' zs')(e:∀q,q∈S↔q∈S'):zs=zs':=
 up_eq A.up B.up λz=>⟨A.sub B e z,B.sub A (λq=>(e q).symm) z⟩
theorem IW(h:ws.Pairwise (·<·))(h':ws'.Pairwise (·<·))(e:∀m,m∈ws↔m∈ws'):ws=ws':=
 jE ((perm_ext_iff_of_nodup (dg h) (dg h')).mpr e) h h'
def uw(K:W.Frag):Sp:=λvs H Q _=>∃(L:Nat) (p d:Addr) (cs:Uh Addr) (R:Uh (Uh bQ)) (m:Uc) (kvs:Uh (Uh Key×V)),vs=[.int L,.ref p,.str (txt m),.ref d]/\2<=L/\L<=26/\H p=some (.lst (cs.map V.ref))/\bw H cs R/\(∀r∈R,bu L r)/\R.length<=100/\Mark L m/\m.length<=30000/\
 H d=some (.dT kvs)/\fP L kvs/\kvs.length<=90000/\
 ∀H' v kvs',Keeps [d] H H'->H' d=some (.dT kvs')->fP L kvs'->kvs'.length<=kvs.length+R.length->bR L R m v->Q (oV v) H'
def ux(K:W.Frag):TS:=
  aI (bg (ai 2) (aG 4))
   (aI (gQ (bS K (ai 1)) (aG 5) (aI (dP (tB (uJ (ai 4))) (bG (tC .non)) (cJ))
   (bg (aH (BE K) [] E0 (ah (ai 0) (ah (ai 5) (ah (ai 4) (ah (ai 3) av))))) (aG 4))))
   (bG (ai 4)))
theorem bw.qF(k:Keeps F H H'):∀{as:Uh Addr} {R:Uh (Uh bQ)},bw H as R->(∀f∈F,(∀xs,H f≠some (.lst xs))/\∀xs,H f≠some (.tup xs))->bw H' as R
 |[],[],_,_=>trivial
 |[],_::_,h,_=>h.elim
 |_::_,[],h,_=>h.elim
 |_::_,_::_,⟨⟨xs,e,p⟩,r⟩,n=>⟨⟨xs,k _ _ e λz=>(n _ z).1 _ e,p.keep λt ys et=>k _ _ et λz=>(n _ z).2 _ et⟩,bw.qF k r n⟩
def P7(p d:Addr)(H:Hp)(L:Nat)(m:Uc)(R:Uh (Uh bQ))(kvs:Uh (Uh Key×V)):Nat->St->Hp->Prop:=λi σ H'=>∃(v:Ug) (kvs':Uh (Uh Key×V)) (v5:Option V),Keeps [d] H H'/\H' d=some (.dT kvs')/\fP L kvs'/\kvs'.length<=kvs.length+i/\bR L (R.take i) m v/\σ=[some (.int L),some (.ref p),some (.str (txt m)),some (.ref d),some (oV v),v5]
theorem zR(hN:N.length=6)(h:uw K vs H Q E):ux K {nx:=λ_ H'=>Q .non H',rt:=Q} (L2.start N vs) H:=by
 obtain⟨L,p,d,cs,R,m,kvs,rfl,hL,fH,hp,hR,O,few,M,hm,hd,hst,hkv,q⟩:=h;have cl:=hR.len;unfold ux L2.start;rw[hN];refine aW λc hc=>?_;nofun;refine hc _ _ ?_;clear hc c;refine aT λc hc=>?_;simp? [set_cons_zero,set_cons_succ,replicate_succ,replicate_zero,map_cons,map_nil,cons_append,nil_append]
 have nd:p≠d:=λz=>by subst z;rw[hp] at hd;cases hd
 have nf:∀f∈[d],(∀xs,H f≠some (.lst xs))/\∀xs,H f≠some (.tup xs):=λf hf=>by
  rw[mem_singleton.mp hf,hd];exact⟨λ_ z=>(nomatch z),λ_ z=>(nomatch z)⟩
 refine nj (a:=p) (xs:=cs.map V.ref) (λQ h=>⟨_,rfl,h⟩) (aX.of hp) (P7 p d H L m R kvs)
  ⟨some m,kvs,none,λ_ _ e _=>e,hd,hst,le_refl _,rfl,rfl⟩ (λi σ H' _ h=>?_) ?_ ?_
 ·obtain⟨_,_,_,k,_⟩:=h;exact aX.of (k _ _ hp (by simpa using nd))
 ·rintro i x σ H' hx ⟨v,kvs',v5,k,hd',st',kl,car,rfl⟩;rw[getElem?_map] at hx;obtain⟨b,hb,rfl⟩:=map_eq_some_iff.mp hx;have hR':=hR.qF k nf;obtain⟨r,xs,er,hx,px⟩:=hR'.get hb;have hi:i<R.length:=(List.getElem?_eq_some_iff.mp er).1;have etk:R.take (i+1)=R.take i++[r]:=by rw[take_add_one,er];rfl
  cases v with
  |none=>
   simp? [oV]
   refine q H' none kvs' k hd' st' (by omega) ?_;rw[<-take_append_drop i R];exact car.gone
  |some y=>
   have Oi:∀r∈R.take i,bu L r:=λr h=>O r (List.take_subset _ _ h);obtain⟨My,ly⟩:=car.len hL Oi M;rw[length_take] at ly;refine aT λc1 hc1=>?_;simp? [oV]
   refine hc1 _ _ ?_;nofun;refine⟨L,b,d,r,y,kvs',rfl,hL,fH,⟨xs,aX.of hx,px⟩,O r (mem_of_getElem? er),My,by omega,hd',st',by omega,λH2 v2 Sn k2 hd2 st2 kl2 c2=>?_⟩
   exact⟨v2,Sn,_,Keeps.trans k k2,hd2,st2,by omega,by rw[etk];exact car.snoc c2,rfl⟩
 ·rintro σ H' ⟨v,kvs',v5,k,hd',st',kl,car,rfl⟩;refine hc _ _ ?_;rw[length_map,cl] at kl car;rw[take_length] at car;nofun;exact q H' v kvs' k hd' st' kl car
theorem bw.take:∀{as:Uh Addr} {R:Uh (Uh bQ)} (n:Nat),bw H as R->bw H (as.take n) (R.take n)
 |[],[],n,_=>by simp[bw]
 |[],_::_,_,h=>h.elim
 |_::_,[],_,h=>h.elim
 |_::_,_::_,0,_=>trivial
 |_::_,_::_,n+1,⟨a,r⟩=>⟨a,bw.take n r⟩
theorem bw.drop:∀{as:Uh Addr} {R:Uh (Uh bQ)} (n:Nat),bw H as R->bw H (as.drop n) (R.drop n)
 |[],[],n,_=>by simp[bw]
 |[],_::_,_,h=>h.elim
 |_::_,[],_,h=>h.elim
 |_::_,_::_,0,h=>h
 |_::_,_::_,n+1,⟨_,r⟩=>bw.drop n r
theorem bu.str(hL:L<=26){R:Uh (Uh bQ)}(O:∀r∈R,bu L r):∀r∈R,∀y∈r,PyData.strOk (txt y.1)=true/\∀z,y.2=some z->PyData.strOk (txt z)=true:=λr hr y hy=>
 ⟨g6 hL ((O r hr).olds y hy).1.ls,λz hz=>g6 hL ((O r hr).marks y hy z hz).1.ls⟩
def uy(K:W.Frag):Sp:=λvs H Q _=>∃(p q p1 p2 p3 q1 q2 q3:Addr) (bs cs:Uh Addr) (ts us:Uh V) (L h n:Nat) (R:Uh (Uh bQ)) (zs zs':Ue) (ws ws':Ud),vs=[.ref p,.ref q]/\lq H p p1 p2 p3 bs ts L h (R.take n) zs ws/\lq H q q1 q2 q3 cs us L h R zs' ws'/\n<=R.length/\R.length<=100/\L<=26/\(∀r∈R,bu L r)/\∀H',aF H H'->Q .non H'
def BS(K:W.Frag):TS:=
  aI (bg (GG (vY K) (aP (bH K) (ai 1) (tC (.int 2))) fz (kJ (dJ (cz K) (ah (aP (bH K) (ai 0) (tC (.int 2))) av)))) (aG 2))
   (dP (Af (bD (aP Nf (aP (bH K) (ai 0) (tC (.int 0))) (aP (bH K) (ai 1) (tC (.int 0))))) (Af (bD (aP Nf (aP (bH K) (ai 0) (tC (.int 1))) (aP (bH K) (ai 1) (tC (.int 1))))) (bD (aP (AD K) (aP (bH K) (ai 0) (tC (.int 2))) (ai 2))))) (se) (cJ))
theorem lA{R:Uh (Uh bQ)}(ok:∀r∈R,∀y∈r,PyData.strOk (txt y.1)=true/\∀z,y.2=some z->PyData.strOk (txt z)=true):SeqAt.shaped (.list (nV R))=true:=by
 obtain⟨a,b⟩:=nW ok;unfold SeqAt.shaped;rw[and_eq_true];refine⟨by simp[PyData.canLay0,a],?_⟩;rw[decide_eq_true_eq];simp only[PyData.depth];omega
theorem FT(hN:N.length=3)(h:uy K vs H Q E):BS K {nx:=λ_ H'=>Q .non H',rt:=Q} (L2.start N vs) H:=by
 obtain⟨p,q,p1,p2,p3,q1,q2,q3,bs,cs,ts,us,L,h,n,R,zs,zs',ws,ws',rfl,A,B,hn,few,fH,O,k⟩:=h;have bl:=A.row.len;have cl:=B.row.len;rw[length_take,min_eq_left hn] at bl;unfold BS L2.start;rw[hN];refine aW λc hc=>?_;nofun;refine aZ (v:=.ref q1) (dU.of B.top) (by decide) rfl (aZ (v:=.ref p1) (dU.of A.top) (by decide) rfl (bZ (aX.of A.ren) ?_));rw[length_map,bl];refine⟨_,rfl,ug (aX.of B.ren) λs hs=>hc _ _ ?_⟩;clear hc c;rw[Dm (by rw[length_map];omega),<-List.map_take];have s1:=aF.up H hs (o:=.lst ((cs.take n).map V.ref));have e1:(upd H s (.lst ((cs.take n).map V.ref))) s=some (.lst ((cs.take n).map V.ref)):=aq;generalize upd H s _=H1 at s1 e1 ⊢;have A1:=A.same s1;have B1:=B.same s1;have ok:=bu.str fH (R:=R.take n) λr hr=>O r (List.take_subset _ _ hr);simp? [set_cons_zero,set_cons_succ,replicate_succ,replicate_zero,map_cons,map_nil,cons_append,nil_append]
 refine aZ (v:=.int L) (dU.of A1.top) (by decide) rfl (aZ (v:=.int L) (dU.of B1.top) (by decide) rfl ⟨rfl,?_⟩);rw[if_neg (λz=>z rfl)];refine aZ (v:=.int h) (dU.of A1.top) (by decide) rfl (aZ (v:=.int h) (dU.of B1.top) (by decide) rfl ⟨rfl,?_⟩);rw[if_neg (λz=>z rfl)];refine aZ (v:=.ref p1) (dU.of A1.top) (by decide) rfl ⟨_,_,.lst (aX.of A1.ren) (A1.row.dat ok),.lst (aX.of e1) ((B1.row.take n).dat ok),lA ok,lA ok,_,rfl,?_⟩;rw[SeqAt.eqv_refl _ (SeqAt.canLay_of_shaped (lA ok))];rw[if_neg (by decide)];exact k H1 s1
structure jG(S kvs:Ue):Prop where
 nd:(kvs.map (·.1)).Nodup
 mem:∀z∈kvs,z∈S
 all:∀q∈S,∃z∈kvs,z.1=q.1/\¬q.2<z.2
 len:kvs.length<=S.length
theorem BU(h:(kvs.map (·.1)).Nodup){a b:Uc×Uc}(ha:a∈kvs)(hb:b∈kvs)(e:a.1=b.1):a=b:=by
 obtain⟨i,hi,rfl⟩:=mem_iff_getElem.mp ha;obtain⟨j,hj,rfl⟩:=mem_iff_getElem.mp hb;have k:=pairwise_iff_getElem.mp (pairwise_map.mp h)
 rcases lt_trichotomy i j with z|z|z
 ·exact absurd e (k i j hi hj z)
 ·subst z;rfl
 ·exact absurd e.symm (k j i hj hi z)
def BV(kvs:Ue)(m t:Uc):Ue:=kvs.map λkv=>if kv.1=m then(kv.1,t) else kv
theorem FU(kvs:Ue)(m t:Uc):(BV kvs m t).map (·.1)=kvs.map (·.1):=by
 unfold BV;rw[map_map];refine List.map_congr_left λkv _=>?_;show (if kv.1=m then(kv.1,t) else kv).1=kv.1;split<;>rfl
theorem uz:∀{kvs:Ue},m∈kvs.map (·.1)->∃t,(m,t)∈kvs/\c5 (fF kvs) (Key.inr (txt m))=some (aD t)
 |[],h=>(nomatch h)
 |k::kvs,h=>by
  show ∃t,_/\c5 ((Key.inr (txt k.1),aD k.2)::fF kvs) _=_
  by_cases e:k.1=m
  ·exact⟨k.2,by rw[<-e];exact mem_cons_self,cW (by rw[e])⟩
  ·have h2:m∈kvs.map (·.1):=by
    rcases mem_cons.mp h with z|z
    ·exact absurd z.symm e
    ·exact z
   obtain⟨t,a,b⟩:=uz h2;exact⟨t,mem_cons_of_mem _ a,by rw[cF (λz=>e (dN.mp (by injection z)))];exact b⟩
theorem LQ(t:Uc)(h:m∈kvs.map (·.1)):putK (fF kvs) (Key.inr (txt m)) (aD t)=fF (BV kvs m t):=by
 obtain⟨t0,_,e⟩:=uz h;unfold putK;rw[i6,e];rw[if_pos (show (some (aD t0)).isSome=true from rfl)];unfold fF BV;rw[map_map,map_map];refine List.map_congr_left λkv _=>?_;show (if Key.inr (txt kv.1)=Key.inr (txt m) then(Key.inr (txt kv.1),aD t) else(Key.inr (txt kv.1),aD kv.2))=_
 by_cases z:kv.1=m
 ·rw[if_pos (by rw[z])];show _=(Key.inr (txt (if kv.1=m then(kv.1,t) else kv).1),aD (if kv.1=m then(kv.1,t) else kv).2);rw[if_pos z]
 ·rw[if_neg (λy=>z (dN.mp (by injection y)))];show _=(Key.inr (txt (if kv.1=m then(kv.1,t) else kv).1),aD (if kv.1=m then(kv.1,t) else kv).2);rw[if_neg z]
theorem jG.nil:jG [] []:=⟨nodup_nil,λ_ h=>(nomatch h),λ_ h=>(nomatch h),le_refl _⟩
theorem jG.put(A:jG S kvs)(m t:Uc):
  ∃u kvs',(c5 (fF kvs) (Key.inr (txt m))).getD (aD t)=aD u/\putK (fF kvs) (Key.inr (txt m)) (aD (if u<t then u else t))=fF kvs'/\jG (S++[(m,t)]) kvs':=by
 by_cases h:m∈kvs.map (·.1)
 ·obtain⟨t0,hm,e⟩:=uz h;refine⟨t0,BV kvs m (if t0<t then t0 else t),by rw[e];rfl,LQ _ h,?_⟩;generalize ew:(if t0<t then t0 else t)=w;have hw:(w=t0\/w=t)/\¬t<w/\∀q:Uc,¬q<t0->¬q<w:=by
   by_cases z:t0<t
   ·rw[if_pos z] at ew;subst ew;exact⟨.inl rfl,λy=>List.lt_irrefl _ (List.lt_trans z y),λq h=>h⟩
   ·rw[if_neg z] at ew;subst ew;exact⟨.inr rfl,List.lt_irrefl _,λq h y=>h (t6 y z)⟩
  refine⟨by rw[FU];exact A.nd,λz hz=>?_,λq hq=>?_,by unfold BV;rw[length_map,length_append];have:=A.len;omega⟩
  ·obtain⟨kv,hkv,rfl⟩:=mem_map.mp hz
   by_cases y:kv.1=m
   ·rw[if_pos y,y]
    rcases hw.1 with x|x
    ·rw[x];exact mem_append_left _ (A.mem _ hm)
    ·rw[x];exact mem_append_right _ (by simp)
   ·rw[if_neg y];exact mem_append_left _ (A.mem _ hkv)
  ·have inm:(m,w)∈BV kvs m w:=mem_map.mpr ⟨(m,t0),hm,by rw[if_pos rfl]⟩
   rcases mem_append.mp hq with hq|hq
   ·obtain⟨z,hz,e1,n1⟩:=A.all q hq
    by_cases y:z.1=m
    ·have:z=(m,t0):=BU A.nd hz hm y;subst this;exact⟨_,inm,e1,hw.2.2 _ n1⟩
    ·exact⟨z,mem_map.mpr ⟨z,hz,by rw[if_neg y]⟩,e1,n1⟩
   ·rw[mem_singleton.mp hq];exact⟨_,inm,rfl,hw.2.1⟩
 ·refine⟨t,kvs++[(m,t)],by rw[xD m kvs h];rfl,by rw[if_neg (List.lt_irrefl _)];exact LP t h,?_⟩;refine⟨?_,λz hz=>?_,λq hq=>?_,by rw[length_append,length_append];have:=A.len;simp;omega⟩
  ·rw[map_append,nodup_append];exact⟨A.nd,by simp,λa ha b hb z=>by
    subst z;have:a=m:=by simpa using hb
    rw[this] at ha;exact h ha⟩
  ·rcases mem_append.mp hz with hz|hz
   ·exact mem_append_left _ (A.mem z hz)
   ·exact mem_append_right _ hz
  ·rcases mem_append.mp hq with hq|hq
   ·obtain⟨z,hz,e1,n1⟩:=A.all q hq;exact⟨z,mem_append_left _ hz,e1,n1⟩
   ·rw[mem_singleton.mp hq];exact⟨(m,t),mem_append_right _ (by simp),rfl,List.lt_irrefl _⟩
theorem jG.min(A:jG S kvs)(p:zs.Perm kvs)(up:(zs.map (·.1)).Pairwise (·<·)):j3 S zs:=
 ⟨up,λz hz=>A.mem z (p.mem_iff.mp hz),λq hq=>by obtain⟨z,hz,e⟩:=A.all q hq;exact⟨z,p.mem_iff.mpr hz,e⟩⟩
def gj(K:W.Frag):Sp:=λvs H Q _=>∃(a b:Addr) (xs ys:Uh V) (S1 S2:Ue),vs=[.ref a,.ref b]/\H a=some (.lst xs)/\d9 H xs (S1.map zM)/\H b=some (.lst ys)/\d9 H ys (S2.map zM)/\S1.length+S2.length<64/\
 ∀H' o ts zs,aF H H'->H o=none->H' o=some (.lst ts)->d9 H' ts (zs.map zM)->j3 (S1++S2) zs->Q (.ref o) H'
def lB(K:W.Frag):TS:=
  aI (bg gq (aG 2))
   (aI (gQ (bS K (aP wc (ai 0) (ai 1))) (yx K 2 (kI (aG 3) (kI (aG 4) yw))) (jW (ai 2) (ai 3) (dJ Hj (ah (ai 4) (ah (wK (ai 2) (ai 3) (ai 4)) av)))))
   (bG (dJ tN (ah (EJ K "dict" A7 (ai 2)) av))))
def P8(a b d:Addr)(H:Hp)(S:Ue):Nat->St->Hp->Prop:=λi σ H'=>∃(kvs:Ue) (v3 v4:Option V),Keeps [d] H H'/\H' d=some (.dK (fF kvs))/\jG (S.take i) kvs/\σ=[some (.ref a),some (.ref b),some (.ref d),v3,v4]
theorem uA(hN:N.length=5)(h:gj K vs H Q E):lB K {nx:=λ_ H'=>Q .non H',rt:=Q} (L2.start N vs) H:=by
 obtain⟨a,b,xs,ys,S1,S2,rfl,ha,pa,hb,pb,h64,q⟩:=h;have xl:=pa.len;have yl:=pb.len;rw[length_map] at xl yl;unfold lB L2.start;rw[hN];refine aW λc hc=>?_;simp? [gq]
 refine λd hd=>hc _ _ ?_;clear hc c;have s1:=aF.up H hd (o:=.dK []);have ed:(upd H d (.dK [])) d=some (.dK (fF [])):=aq;generalize upd H d _=H1 at s1 ed ⊢;simp only[set_cons_zero,set_cons_succ,replicate_succ,replicate_zero,map_cons,map_nil,cons_append,nil_append];refine aT λc hc=>?_;refine rC ?_;nofun;refine⟨a,b,xs,ys,rfl,rfl,s1 _ _ ha,s1 _ _ hb,by rw[sizeLine_eq];omega,λl hl=>?_⟩;have nd:l≠d:=λz=>by subst z;rw[ed] at hl;cases hl
 have s2:=aF.up H1 hl (o:=.lst (xs++ys));have el:(upd H1 l (.lst (xs++ys))) l=some (.lst (xs++ys)):=aq;generalize upd H1 l _=H2 at s2 el ⊢;have s12:=s1.trans s2;have ps:d9 H2 (xs++ys) ((S1++S2).map zM):=by rw[map_append];exact(pa.same s12).app (pb.same s12)
 refine nj (a:=l) (xs:=xs++ys) (λQ h=>h) (aX.of el) (P8 a b d H2 (S1++S2)) ⟨[],none,none,λ_ _ e _=>e,s2 _ _ ed,jG.nil,rfl⟩ (λi σ H' _ h=>?_) ?_ ?_
 ·obtain⟨_,_,_,k,_⟩:=h;exact aX.of (k _ _ el (by simpa using nd))
 ·rintro i x σ H' hx ⟨kvs,v3,v4,k,hd',A,rfl⟩;obtain⟨kv,t,ek,rfl,ht⟩:=ps.get hx;rw[getElem?_map] at ek;obtain⟨⟨m,th⟩,ek2,rfl⟩:=map_eq_some_iff.mp ek;have etk:(S1++S2).take (i+1)=(S1++S2).take i++[(m,th)]:=by rw[take_add_one,ek2];rfl
  have ht':=k _ _ ht (λz=>by rw[mem_singleton.mp z,s2 _ _ ed] at ht;cases ht);obtain⟨u,kvs',e1,e2,A'⟩:=A.put m th;have kl:=A.len;rw[length_take] at kl;simp? [yx,kI,yw,zM,jW,wK]
  refine⟨[aD m,aD th],dU.of ht',rfl,aD m,[aD th],rfl,aD th,[],rfl,rfl,?_⟩;refine⟨.inl ⟨_,.inl hd'⟩,_,iQ.k (k:=.inr (txt m)) hd',?_⟩;rw[e1];refine⟨th,u,rfl,_,tE.k (k:=.inr (txt m)) hd' (by unfold fF;rw[length_map,sizeLine_eq];rw[length_append] at kl;omega),kvs',_,_,k.upd (.inl mem_cons_self),?_,by rw[etk];exact A',rfl⟩;rw[aq,<-e2];rfl
 ·rintro σ H' ⟨kvs,v3,v4,k,hd',A,rfl⟩;refine hc _ _ ?_;clear hc c;rw[length_append,xl,yl,<-length_append,take_length] at A;have kl:=A.len;rw[length_append] at kl;have sH:=dG s12 k λb hb=>by rw[mem_singleton.mp hb];exact hd
  nofun;refine⟨.inr (.inr (.inl ⟨rfl,.inl ⟨_,hd'⟩⟩)),d,_,rfl,rfl,hd',λv hv=>?_⟩;have s3:=sH.new hv (o:=kW v d);have eV:(upd H' v (kW v d)) v=some (kW v d):=aq;have nv:d≠v:=λz=>by subst z;rw[hd'] at hv;cases hv
  have ed3:(upd H' v (kW v d)) d=some (.dK (fF kvs)):=by rw[aE nv];exact hd'
  generalize upd H' v _=H3 at s3 eV ed3 ⊢;refine⟨v,d,kvs,rfl,eV,ed3,by omega,A.nd,λH4 l ys zs s4 hl0 hl4 hp hup hlen hat=>?_⟩;exact q H4 l ys zs (s3.trans s4) (s3.bW hl0) hl4 (BO hlen λi kv e=>by obtain⟨t,a,b,_⟩:=hat i kv e;exact⟨t,a,b⟩) (A.min hp hup)
def g9(K:W.Frag):Sp:=λvs H Q _=>∃(p p1 p2 p3 pr:Addr) (bs cs:Uh Addr) (ts:Uh V) (L h:Nat) (R0 R:Uh (Uh bQ)) (zs:Ue) (ws:Ud),vs=[.ref p,.ref pr]/\lq H p p1 p2 p3 bs ts L h R0 zs ws/\H pr=some (.lst (cs.map V.ref))/\bw H cs R/\(∀r∈R,bu L r)/\R.length<=100/\2<=L/\L<=26/\(∀m∈zs.map (·.1)++ws,Mark L m/\m.length<=30000)/\zs.length+ws.length<64/\
 ∀H' d kvs,aF H H'->H d=none->H' d=some (.dK kvs)->(∀m∈zs.map (·.1)++ws,∃v,c5 kvs (Key.inr (txt m))=some (oV v)/\bR L R m v)->Q (.ref d) H'
def mT(K:W.Frag):TS:=
  aI (bg wJ (aG 2))
   (aI (bg gq (aG 3))
   (aI (bg (aP wc (jt K (bS K (aP (bH K) (ai 0) (tC (.int 3)))) [] ku (ai 0)) (aP (bH K) (ai 0) (tC (.int 4)))) (aG 4))
   (aI (gQ (bS K (dJ (dX K) (ah (ai 4) av))) (aG 5) (jW (ai 3) (ai 5) (aH (uw K) [] E0 (ah (aP (bH K) (ai 0) (tC (.int 0))) (ah (ai 1) (ah (ai 5) (ah (ai 2) av)))))))
   (bG (ai 3)))))
def P9(p pr d1 d2 pm:Addr)(H:Hp)(L:Nat)(R:Uh (Uh bQ))(ms:Ud):Nat->St->Hp->Prop:=λi σ H'=>∃(kv1:Uh (Uh Key×V)) (kv2:Uh (Key×V)) (v5:Option V),Keeps [d1,d2] H H'/\H' d1=some (.dT kv1)/\fP L kv1/\kv1.length<=i*100/\H' d2=some (.dK kv2)/\kv2.length<=i/\(∀m∈ms.take i,∃v,c5 kv2 (Key.inr (txt m))=some (oV v)/\bR L R m v)/\σ=[some (.ref p),some (.ref pr),some (.ref d1),some (.ref d2),some (.ref pm),v5]
theorem uT(hN:N.length=6)(h:g9 K vs H Q E):mT K {nx:=λ_ H'=>Q .non H',rt:=Q} (L2.start N vs) H:=by
 obtain⟨p,p1,p2,p3,pr,bs,cs,ts,L,h,R0,R,zs,ws,rfl,A,hp,hR,O,few,hL,fH,hM,h64,q⟩:=h;have tl:=A.prs.len;rw[length_map] at tl;unfold mT L2.start;rw[hN];refine aW λc hc=>?_;simp? [wJ]
 refine λd1 hd1=>hc _ _ ?_;clear hc c;have s1:=aF.up H hd1 (o:=.dT []);have e1:(upd H d1 (.dT [])) d1=some (.dT []):=aq;generalize upd H d1 _=H1 at s1 e1 ⊢;simp only[set_cons_zero,set_cons_succ,replicate_succ,replicate_zero,map_cons,map_nil,cons_append,nil_append];refine aW λc hc=>?_;simp? [gq]
 refine λd2 hd2=>hc _ _ ?_;clear hc c;have f2:=s1.bW hd2;have n12:d1≠d2:=λz=>by subst z;rw[e1] at hd2;cases hd2
 have s2:=s1.new hd2 (o:=.dK []);have e12:(upd H1 d2 (.dK [])) d1=some (.dT []):=by rw[aE n12];exact e1
 have e2:(upd H1 d2 (.dK [])) d2=some (.dK []):=aq;generalize upd H1 d2 _=H2 at s2 e12 e2 ⊢;simp only[set_cons_zero,set_cons_succ];refine aW λc hc=>?_;suffices main:∀H3 pm,aF H2 H3->H3 pm=some (.lst ((zs.map (·.1)++ws).map aD))->c (.ref pm) H3 by
  nofun;refine rf (a:=p2) (xs:=ts) (λQ h=>by nofun;exact aZ (v:=.ref p2) (dU.of (s2 _ _ A.top)) (by decide) rfl h) (aX.of (s2 _ _ A.thi)) (λi ys H'=>H'=H2/\ys=((zs.map (·.1)).take i).map aD) ⟨rfl,rfl⟩ (λi ys H' _ p=>⟨by rw[p.1];exact aX.of (s2 _ _ A.thi),by rw[p.2,length_map,length_take];omega⟩) (by rw[sizeLine_eq];omega) ?_ ?_
  ·rintro i x ys H' hx ⟨rfl,rfl⟩;obtain⟨kv,t,ek,rfl,ht⟩:=(A.prs.same s2).get hx;rw[getElem?_map] at ek;obtain⟨⟨m,th⟩,ek2,rfl⟩:=map_eq_some_iff.mp ek;refine⟨t,aD m,aD th,rfl,dU.of ht,λW hW=>?_⟩;nofun;refine hW _ _ ⟨rfl,?_⟩;rw[take_add_one,getElem?_map,ek2,map_append];rfl
  ·rintro ys H' ⟨rfl,rfl⟩ l hl;have s3:=aF.up H' hl (o:=.lst (((zs.map (·.1)).take ts.length).map aD));have el:(upd H' l (.lst (((zs.map (·.1)).take ts.length).map aD))) l=some (.lst (((zs.map (·.1)).take ts.length).map aD)):=aq;generalize upd H' l _=H3 at s3 el ⊢;rw[List.take_of_length_le (by rw[length_map];omega)] at el;refine aZ (v:=.ref p3) (dU.of (s3 _ _ (s2 _ _ A.top))) (by decide) rfl ⟨l,p3,_,_,rfl,rfl,el,s3 _ _ (s2 _ _ A.tak),by rw[length_map,length_map,length_map,sizeLine_eq];omega,λo ho=>main _ o (s3.new ho) ?_⟩;rw[aq,map_append]
 intro H3 pm s23 em;refine hc _ _ ?_;clear hc c;have s3:=s2.trans s23;simp only[set_cons_zero,set_cons_succ];refine aT λc hc=>?_;refine rC ?_;nofun;refine⟨pm,_,rfl,aX.of em,by rw[length_append,length_map];omega,λH4 l ms s34 hl0 hl nd mem _=>?_⟩;have s24:=s23.trans s34;have s4:=s3.trans s34;have ml:ms.length<64:=by
  have:=fQ nd λm hm=>(mem m).mp hm;rw[length_append,length_map] at this;omega
 have nl:¬l∈[d1,d2]:=λz=>by
  simp only[mem_cons,not_mem_nil,or_false] at z
  rcases z with rfl|rfl
  ·rw[s24 _ _ e12] at hl;cases hl
  ·rw[s24 _ _ e2] at hl;cases hl
 have npr:¬pr∈[d1,d2]:=λz=>by
  simp only[mem_cons,not_mem_nil,or_false] at z
  rcases z with rfl|rfl
  ·rw[hp] at hd1;cases hd1
  ·rw[hp] at f2;cases f2
 have np:¬p∈[d1,d2]:=λz=>by
  simp only[mem_cons,not_mem_nil,or_false] at z
  rcases z with rfl|rfl
  ·rw[A.top] at hd1;cases hd1
  ·rw[A.top] at f2;cases f2
 have nf:∀f∈[d1,d2],(∀xs,H4 f≠some (.lst xs))/\∀xs,H4 f≠some (.tup xs):=λf hf=>by
  simp only[mem_cons,not_mem_nil,or_false] at hf
  rcases hf with rfl|rfl
  ·rw[s24 _ _ e12];exact⟨λ_ z=>(nomatch z),λ_ z=>(nomatch z)⟩
  ·rw[s24 _ _ e2];exact⟨λ_ z=>(nomatch z),λ_ z=>(nomatch z)⟩
 refine nj (a:=l) (xs:=ms.map aD) (λQ h=>h) (aX.of hl) (P9 p pr d1 d2 pm H4 L R ms) ⟨[],[],none,λ_ _ e _=>e,s24 _ _ e12,fP.nil L,zero_le _,s24 _ _ e2,zero_le _,λm h=>(nomatch h),rfl⟩ (λi σ H' _ h=>?_) ?_ ?_
 ·obtain⟨_,_,_,k,_⟩:=h;exact aX.of (k _ _ hl nl)
 ·rintro i x σ H' hx ⟨kv1,kv2,v5,k,hd1',st,l1,hd2',l2,all,rfl⟩;rw[getElem?_map] at hx;obtain⟨m,hm,rfl⟩:=map_eq_some_iff.mp hx;have hi:i<ms.length:=(List.getElem?_eq_some_iff.mp hm).1;have etk:ms.take (i+1)=ms.take i++[m]:=by rw[take_add_one,hm];rfl
  have Mm:=hM m ((mem m).mp (mem_of_getElem? hm));have hR':=(hR.same s4).qF k nf;simp? [jW]
  refine aZ (v:=.int L) (dU.of (k _ _ (s4 _ _ A.top) np)) (by decide) rfl ⟨L,pr,d1,cs,R,m,kv1,rfl,hL,fH,k _ _ (s4 _ _ hp) npr,hR',O,few,Mm.1,Mm.2,hd1',st,by omega,λH5 v So k5 hd5 st5 l5 car=>?_⟩;have Sq:=k5 _ _ hd2' (by simpa using Ne.symm n12);refine⟨_,tE.k (k:=.inr (txt m)) Sq (by rw[sizeLine_eq];omega),So,putK kv2 (.inr (txt m)) (oV v),_,?_,by rw[aE n12];exact hd5,st5,by omega,aq,by have:=gf kv2 (Key.inr (txt m)) (oV v);omega,λy hy=>?_,rfl⟩
  ·exact(Keeps.trans k (λb o e n=>k5 b o e λz=>n (by rw[mem_singleton.mp z];exact mem_cons_self))).upd (.inl (by simp))
  ·rw[etk] at hy;rw[tw]
   by_cases e:y=m
   ·subst e;exact⟨v,by rw[if_pos rfl],car⟩
   ·rw[if_neg (λz=>e (dN.mp (by injection z)))]
    rcases mem_append.mp hy with hy|hy
    ·exact all y hy
    ·exact absurd (mem_singleton.mp hy) e
 ·rintro σ H' ⟨kv1,kv2,v5,k,hd1',st,l1,hd2',l2,all,rfl⟩;refine hc _ _ ?_;rw[length_map,take_length] at all;nofun;refine q H' d2 kv2 (dG s4 k λb hb=>?_) f2 hd2' λm hm=>all m ((mem m).mpr hm);simp only[mem_cons,not_mem_nil,or_false] at hb
  rcases hb with rfl|rfl
  ·exact hd1
  ·exact f2
structure Laid(L:Nat)(D:Uh (Uh bQ))(zs:Ue)(ws:Ud)(zs':Ue)(ws':Ud)(xs:Ue)(ks:Ud):Prop where
 th:∃S,j3 S xs/\∀q,q∈S↔(∃z∈zs,bR L D z.1 (some q.1)/\z.2=q.2)\/q∈zs'
 kup:ks.Pairwise (·<·)
 tk:∀m,m∈ks↔(∃w∈ws,bR L D w (some m))\/m∈ws'
 xlen:xs.length<=zs.length+zs'.length
 klen:ks.length<=ws.length+ws'.length
structure Dr(L n:Nat)(R:Uh (Uh bQ))(zs:Ue)(ws:Ud)(zs':Ue)(ws':Ud):Prop where
 l2:2<=L
 l26:L<=26
 ren:n<=R.length
 few:R.length<=100
 rows:∀r∈R,bu L r
 marks:∀m∈zs.map (·.1)++ws,Mark L m/\m.length<=30000
 z64:zs.length+ws.length<64
 t64:zs.length+zs'.length<64
 k64:ws.length+ws'.length<64
def Dt(p q:Addr)(H:Hp)(Q:VK)(n:Nat)(R:Uh (Uh bQ)):Prop:=∃(p1 p2 p3 q1 q2 q3:Addr) (bs cs:Uh Addr) (ts us:Uh V) (L h:Nat) (zs zs':Ue) (ws ws':Ud),lq H p p1 p2 p3 bs ts L h (R.take n) zs ws/\lq H q q1 q2 q3 cs us L h R zs' ws'/\Dr L n R zs ws zs' ws'/\
 ∀H' o o1 o2 o3 ds vs xs ks,aF H H'->lq H' o o1 o2 o3 ds vs L h R xs ks->(o::o1::o2::o3::ds).Nodup->(∀b∈o::o1::o2::o3::ds,H b=none)->Laid L (R.drop n) zs ws zs' ws' xs ks->Q (.ref o) H'
def rD(K:W.Frag):Sp:=λvs H Q _=>∃(p q:Addr) (n:Nat) (R:Uh (Uh bQ)),vs=[.ref p,.ref q]/\Dt p q H Q n R
def dh(K:W.Frag):Sp:=λvs H Q _=>∃(p q:Addr) (n:Nat) (R:Uh (Uh bQ)),vs=[.ref p,.ref q]/\(Dt p q H Q n R\/(n<R.length/\Dt q p H Q n R))
def rE (K : PySem.W.Frag) : TS := aI (cj (aH (uy K) [] E0 (ah (ai 0) (ah (ai 1) av))))
      (aI (bg (aH (g9 K) [] E0 (ah (ai 0) (ah (GG (vY K) (aP (bH K) (ai 1) (tC (.int 2))) (kJ (dJ (cz K) (ah (aP (bH K) (ai 0) (tC (.int 2))) av))) fz) av))) (aG 2))
      (aI (gJ K 3 (bS K (aP (bH K) (ai 0) (tC (.int 3)))) [2] (tB (gc (fu (ai 2) (ai 0)))) (iL (ah (fu (ai 2) (ai 0)) (ah (ai 1) av))))
      (aI (cU 4 (bS K (aP (bH K) (ai 0) (tC (.int 4)))) [2] (tB (gc (fu (ai 1) (ai 0)))) (fu (ai 1) (ai 0)))
      (bG (aH gM [] E0 (ah (aP (bH K) (ai 1) (tC (.int 0))) (ah (aP (bH K) (ai 1) (tC (.int 1))) (ah (aP (bH K) (ai 1) (tC (.int 2))) (ah (aH (gj K) [] E0 (ah (ai 3) (ah (aP (bH K) (ai 1) (tC (.int 3))) av))) (ah (dJ (dX K) (ah (aP wc (ai 4) (aP (bH K) (ai 1) (tC (.int 4)))) av)) av))))))))))
def rF(K:W.Frag):TT:=bD (aP uL (dJ (cz K) (ah (aP (bH K) (ai 0) (tC (.int 2))) av)) (dJ (cz K) (ah (aP (bH K) (ai 1) (tC (.int 2))) av)))
def Du(K:W.Frag):TS:=aI (dP (rF K) (se) (cJ)) (rE K)
def IX(K:W.Frag):TS:=aI (dP (rF K) (bG (aH (rD K) [] E0 (ah (ai 1) (ah (ai 0) av)))) (cJ)) (rE K)
def Carried(L:Nat)(D:Uh (Uh bQ))(zs S:Ue):Prop:=(∀q,q∈S↔∃z∈zs,bR L D z.1 (some q.1)/\z.2=q.2)/\S.length<=zs.length
def ic(L:Nat)(D:Uh (Uh bQ))(ws ks:Ud):Prop:=(∀m,m∈ks↔∃w∈ws,bR L D w (some m))/\ks.length<=ws.length
theorem Carried.add{D:Uh (Uh bQ)}(C:Carried L D zs S){y t:Uc}(hL:2<=L)(O:∀r∈D,bu L r)(c:bR L D m (some y)):Carried L D (zs++[(m,t)]) (S++[(y,t)]):=by
 refine⟨λq=>?_,by rw[length_append,length_append];have:=C.2;simp;omega⟩;rw[mem_append,C.1 q];constructor
 ·rintro(⟨z,hz,e⟩|h)
  ·exact⟨z,mem_append_left _ hz,e⟩
  ·rw[mem_singleton.mp h];exact⟨(m,t),mem_append_right _ (by simp),c,rfl⟩
 ·rintro⟨z,hz,e1,e2⟩
  rcases mem_append.mp hz with hz|hz
  ·exact .inl ⟨z,hz,e1,e2⟩
  ·rw[mem_singleton.mp hz] at e1 e2;have e3:=bR.one hL O e1 c;injection e3 with e3
   refine .inr (mem_singleton.mpr (Prod.ext e3 e2.symm))
theorem Carried.skip{D:Uh (Uh bQ)}(C:Carried L D zs S){t:Uc}(hL:2<=L)(O:∀r∈D,bu L r)(c:bR L D m none):Carried L D (zs++[(m,t)]) S:=by
 refine⟨λq=>?_,by rw[length_append];have:=C.2;omega⟩;rw[C.1 q];constructor
 ·rintro⟨z,hz,e⟩;exact⟨z,mem_append_left _ hz,e⟩
 ·rintro⟨z,hz,e1,e2⟩
  rcases mem_append.mp hz with hz|hz
  ·exact⟨z,hz,e1,e2⟩
  ·rw[mem_singleton.mp hz] at e1;cases bR.one hL O e1 c
theorem ic.add{D:Uh (Uh bQ)}{zs S:Ud}(C:ic L D zs S){y:Uc}(hL:2<=L)(O:∀r∈D,bu L r)(c:bR L D m (some y)):ic L D (zs++[m]) (S++[y]):=by
 refine⟨λq=>?_,by rw[length_append,length_append];have:=C.2;simp;omega⟩;rw[mem_append,C.1 q];constructor
 ·rintro(⟨z,hz,e⟩|h)
  ·exact⟨z,mem_append_left _ hz,e⟩
  ·rw[mem_singleton.mp h];exact⟨m,mem_append_right _ (by simp),c⟩
 ·rintro⟨z,hz,e1⟩
  rcases mem_append.mp hz with hz|hz
  ·exact .inl ⟨z,hz,e1⟩
  ·rw[mem_singleton.mp hz] at e1;have e3:=bR.one hL O e1 c;injection e3 with e3
   exact .inr (mem_singleton.mpr e3)
theorem ic.skip{D:Uh (Uh bQ)}{zs S:Ud}(C:ic L D zs S)(hL:2<=L)(O:∀r∈D,bu L r)(c:bR L D m none):ic L D (zs++[m]) S:=by
 refine⟨λq=>?_,by rw[length_append];have:=C.2;omega⟩;rw[C.1 q];constructor
 ·rintro⟨z,hz,e⟩;exact⟨z,mem_append_left _ hz,e⟩
 ·rintro⟨z,hz,e1⟩
  rcases mem_append.mp hz with hz|hz
  ·exact⟨z,hz,e1⟩
  ·rw[mem_singleton.mp hz] at e1;cases bR.one hL O e1 c
theorem j3.len(M:j3 S zs):zs.length<=S.length:=by
 have:=fQ (dg M.up) λm hm=>by
  obtain⟨z,hz,rfl⟩:=mem_map.mp hm;exact mem_map_of_mem (f:=(·.1)) (M.mem z hz)
 rw[length_map,length_map] at this;exact this
def Qa(H:Hp)(L:Nat)(D:Uh (Uh bQ))(zs:Ue):Nat->Uh V->Hp->Prop:=λi ys H'=>∃S,aF H H'/\d9 H' ys (S.map zM)/\Carried L D (zs.take i) S
def Qc(H:Hp)(L:Nat)(D:Uh (Uh bQ))(ws:Ud):Nat->Uh V->Hp->Prop:=λi ys H'=>∃ks,H'=H/\ys=ks.map aD/\ic L D (ws.take i) ks
theorem FW{wi:TI}{fs:Uc}{tt:TT}{C:TS}{D:Ends}(h:∀c:V->Hp->Prop,(∀x H1,C D (σ.set i (some x)) H1->c x H1)->jt K wi fs tt te σ H c):aI (gJ K i wi fs tt te) C D σ H:=h _ λ_ _ z=>z
theorem uB{R:Uh (Uh bQ)}{v2 v3 v4:Option V}{nx:St->Hp->Prop}(h:Dt p q H Q n R):rE K {nx:=nx,rt:=Q} [some (.ref p),some (.ref q),v2,v3,v4] H:=by
 obtain⟨p1,p2,p3,q1,q2,q3,bs,cs,ts,us,L,h,zs,zs',ws,ws',A,B,O,k⟩:=h;have hL:=O.l2;have OD:∀r∈R.drop n,bu L r:=λr hr=>O.rows r (drop_subset _ _ hr);have bl:=A.row.len;have cl:=B.row.len;have tl:=A.prs.len;rw[length_map] at tl;have hn:=O.ren;have few:=O.few;have z64:=O.z64;have t64:=O.t64;have k64:=O.k64;rw[length_take,min_eq_left hn] at bl;unfold rE;refine aT λc hc=>?_;nofun;refine⟨p,q,p1,p2,p3,q1,q2,q3,bs,cs,ts,us,L,h,n,R,zs,zs',ws,ws',rfl,A,B,hn,few,O.l26,O.rows,λH1 s1=>hc _ _ ?_⟩;clear hc c;have A1:=A.same s1;have B1:=B.same s1;refine aW λc hc=>?_;nofun;refine aZ (v:=.ref q1) (dU.of B1.top) (by decide) rfl (aZ (v:=.ref p1) (dU.of A1.top) (by decide) rfl (bZ (aX.of A1.ren) ?_));rw[length_map,bl];refine⟨_,rfl,ug (aX.of B1.ren) λs hs=>?_⟩;rw[pV (by rw[length_map];omega),<-List.map_drop];have s12:=aF.up H1 hs (o:=.lst ((cs.drop n).map V.ref));have es:(upd H1 s (.lst ((cs.drop n).map V.ref))) s=some (.lst ((cs.drop n).map V.ref)):=aq;generalize upd H1 s _=H2 at s12 es ⊢;have s2:=s1.trans s12;refine⟨p,p1,p2,p3,s,bs,cs.drop n,ts,L,h,R.take n,R.drop n,zs,ws,rfl,A.same s2,es,(B.row.same s2).drop n,OD,by rw[length_drop];omega,hL,O.l26,O.marks,z64,λH3 d kvs s23 hd0 hd all=>hc _ _ ?_⟩;clear hc c;have s3:=s2.trans s23;have A3:=A.same s3;simp only[set_cons_zero,set_cons_succ];refine FW λc hc=>?_;refine rf (a:=p2) (xs:=ts) (λQ h=>by nofun;exact aZ (v:=.ref p2) (dU.of A3.top) (by decide) rfl h) (aX.of A3.thi) (Qa H3 L (R.drop n) zs) ⟨[],aF.refl _,trivial,⟨λq=>⟨λh=>(nomatch h),λ⟨z,h,_⟩=>(nomatch h)⟩,zero_le _⟩⟩ (λi ys H' hi p=>?_) (by rw[sizeLine_eq];omega) ?_ ?_
 ·obtain⟨S,s',pr,C⟩:=p;have:=pr.len;have c2:=C.2;rw[length_take] at c2;rw[length_map] at this;exact⟨aX.of (s' _ _ A3.thi),by omega⟩
 ·rintro i x ys H' hx ⟨S,s',pr,C⟩;obtain⟨kv,t,ek,rfl,ht⟩:=A3.prs.get hx;rw[getElem?_map] at ek;obtain⟨⟨m,th⟩,ek2,rfl⟩:=map_eq_some_iff.mp ek;have etk:zs.take (i+1)=zs.take i++[(m,th)]:=by rw[take_add_one,ek2];rfl
  refine⟨t,aD m,aD th,rfl,dU.of (s' _ _ ht),λW hW=>?_⟩;obtain⟨v,ev,cv⟩:=all m (mem_append_left _ (mem_map_of_mem (f:=(·.1)) (mem_of_getElem? ek2)));have g:iQ H' d (aD m) (some (oV v)):=by rw[<-ev];exact iQ.k (k:=.inr (txt m)) (s' _ _ hd)
  simp? [fu]
  refine⟨oV v,g,?_⟩;cases v with
  |none=>
   simp? [oV]
   exact hW _ _ ⟨S,s',pr,by rw[etk];exact C.skip hL OD cv⟩
  |some y=>
   simp? [oV]
   refine⟨aD y,g,by decide,λo ho=>hW _ _ ⟨S++[(y,th)],s'.new ho,?_,by rw[etk];exact C.add hL OD cv⟩⟩
   rw[map_append];refine(pr.same (aF.up H' ho)).app ⟨⟨o,rfl,?_⟩,trivial⟩;rw[aq];rfl
 rintro ys H4a ⟨S,s34a,prS,C⟩ l3 hl3;refine hc _ _ ?_;clear hc c;rw[tl,take_length] at C;have s34:=s34a.new hl3 (o:=.lst ys);have e3:(upd H4a l3 (.lst ys)) l3=some (.lst ys):=aq;have Qd:=prS.same (aF.up H4a hl3 (o:=.lst ys));generalize upd H4a l3 _=H4 at s34 e3 Qd ⊢;have s4:=s3.trans s34;have A4:=A.same s4;simp only[set_cons_zero,set_cons_succ];refine lz λc hc=>?_;refine kR (a:=p3) (xs:=ws.map aD) (λQ h=>by nofun;exact aZ (v:=.ref p3) (dU.of A4.top) (by decide) rfl h) (aX.of A4.tak) (Qc H4 L (R.drop n) ws) ⟨[],rfl,rfl,⟨λq=>⟨λh=>(nomatch h),λ⟨z,h,_⟩=>(nomatch h)⟩,zero_le _⟩⟩ (λi ys H' hi p=>?_) (by rw[length_map,sizeLine_eq];omega) ?_ ?_
 ·obtain⟨ks,rfl,rfl,C⟩:=p;have c2:=C.2;rw[length_take] at c2;exact⟨aX.of A4.tak,by rw[length_map];omega⟩
 ·rintro i x ys H' hx ⟨ks,rfl,rfl,CK⟩ W hW;rw[getElem?_map] at hx;obtain⟨m,hm,rfl⟩:=map_eq_some_iff.mp hx;have etk:ws.take (i+1)=ws.take i++[m]:=by rw[take_add_one,hm];rfl
  obtain⟨v,ev,cv⟩:=all m (mem_append_right _ (mem_of_getElem? hm));have g:iQ H' d (aD m) (some (oV v)):=by rw[<-ev];exact iQ.k (k:=.inr (txt m)) (s34 _ _ hd)
  simp? [fu]
  refine⟨oV v,g,?_⟩;cases v with
  |none=>
   simp? [oV]
   exact hW _ _ ⟨ks,rfl,rfl,by rw[etk];exact CK.skip hL OD cv⟩
  |some y=>
   simp? [oV]
   exact⟨aD y,g,hW _ _ ⟨ks++[y],rfl,by rw[map_append];rfl,by rw[etk];exact CK.add hL OD cv⟩⟩
 rintro ys4 H' ⟨ks,rfl,rfl,CK⟩ l4 hl4;refine hc _ _ ?_;clear hc c;rw[length_map,take_length] at CK;have s45:=aF.up H' hl4 (o:=.lst (ks.map aD));have e4:(upd H' l4 (.lst (ks.map aD))) l4=some (.lst (ks.map aD)):=aq;generalize upd H' l4 _=H5 at s45 e4 ⊢;have s5:=s4.trans s45;have B5:=B.same s5;have cS:=C.2;have cK:=CK.2;simp? [set_cons_zero,set_cons_succ]
 refine aZ (v:=.int L) (dU.of B5.top) (by decide) rfl (aZ (v:=.int h) (dU.of B5.top) (by decide) rfl (aZ (v:=.ref q1) (dU.of B5.top) (by decide) rfl (aZ (v:=.ref q2) (dU.of B5.top) (by decide) rfl ?_)));refine⟨l3,q2,ys,us,S,zs',rfl,s45 _ _ e3,Qd.same s45,B5.thi,B5.prs,by omega,λH6 o6 vs6 xs6 s56 ho6 eo6 pr6 M6=>?_⟩;have s6:=s5.trans s56;have B6:=B.same s6;refine aZ (v:=.ref q3) (dU.of B6.top) (by decide) rfl ⟨l4,q3,_,_,rfl,rfl,s56 _ _ e4,B6.tak,by rw[length_map,length_map,sizeLine_eq];omega,λl7 hl7=>?_⟩;have s67:=aF.up H6 hl7 (o:=.lst (ks.map aD++ws'.map aD));have e7:(upd H6 l7 (.lst (ks.map aD++ws'.map aD))) l7=some (.lst ((ks++ws').map aD)):=by rw[aq,map_append]
 generalize upd H6 l7 _=H7 at s67 e7 ⊢;refine⟨l7,ks++ws',rfl,aX.of e7,by rw[length_append];omega,λH8 l8 js s78 TX hl8 nd mem le=>?_⟩;have s68:=s67.trans s78;have s8:=s6.trans s68;have B8:=B.same s8;refine⟨L,h,q1,o6,l8,cs,R,vs6,xs6,js,rfl,B8.ren,B8.row,s68 _ _ eo6,pr6.same s68,hl8,by omega,λH9 o o1 o2 o3 ds s89 SA ndo fr=>?_⟩;refine k H9 o o1 o2 o3 ds vs6 xs6 js (s8.trans s89) SA ndo (λb hb=>s8.bW (fr b hb)) ⟨⟨_,M6,λx=>?_⟩,gD le nd,λm=>?_,?_,?_⟩
 ·rw[mem_append,C.1 x]
 ·rw[mem,mem_append,CK.1 m]
 ·have:=M6.len;rw[length_append] at this;omega
 ·have:=fQ nd λm hm=>(mem m).mp hm;rw[length_append] at this;omega
theorem longer{q1 q2 q3:Addr}{bs cs:Uh Addr}{us:Uh V}{R R':Uh (Uh bQ)}{v2 v3 v4:Option V}{Q:Bool->Hp->Prop}(A:lq H p p1 p2 p3 bs ts L h R zs ws)(B:lq H q q1 q2 q3 cs us L h R' zs' ws')(k:Q (decide (R'.length<R.length)) H):rF K [some (.ref p),some (.ref q),v2,v3,v4] H Q:=by
 have bl:=A.row.len;have cl:=B.row.len;unfold rF;nofun;refine aZ (v:=.ref p1) (dU.of A.top) (by decide) rfl (bZ (aX.of A.ren) (aZ (v:=.ref q1) (dU.of B.top) (by decide) rfl (bZ (aX.of B.ren) ?_)));rw[length_map,length_map,bl,cl];refine⟨_,rfl,_,rfl,?_⟩;rw[show decide ((R'.length:Int)<(R.length:Int))=decide (R'.length<R.length) by simp]
 exact k
theorem BW(hN:N.length=5)(h:rD K vs H Q E):Du K {nx:=λ_ H'=>Q .non H',rt:=Q} (L2.start N vs) H:=by
 obtain⟨p,q,n,R,rfl,P⟩:=h;unfold Du L2.start;rw[hN];obtain⟨p1,p2,p3,q1,q2,q3,bs,cs,ts,us,L,h,zs,zs',ws,ws',A,B,O,_⟩:=id P;refine aT λc hc=>?_;refine longer A B ?_;rw[decide_eq_false (by rw[length_take];omega)];exact hc _ _ (uB P)
theorem FY(hN:N.length=5)(h:dh K vs H Q E):IX K {nx:=λ_ H'=>Q .non H',rt:=Q} (L2.start N vs) H:=by
 obtain⟨p,q,n,R,rfl,P⟩:=h;unfold IX L2.start;rw[hN];refine aT λc hc=>?_
 rcases P with P|⟨lt,P⟩
 ·obtain⟨p1,p2,p3,q1,q2,q3,bs,cs,ts,us,L,h,zs,zs',ws,ws',A,B,O,_⟩:=id P;refine longer A B ?_;rw[decide_eq_false (by rw[length_take];omega)];exact hc _ _ (uB P)
 ·obtain⟨p1,p2,p3,q1,q2,q3,bs,cs,ts,us,L,h,zs,zs',ws,ws',A,B,O,_⟩:=id P;refine longer B A ?_;rw[decide_eq_true (by rw[length_take];omega)];nofun;exact⟨q,p,n,R,rfl,P⟩
theorem lq.qF{bs:Uh Addr}{R:Uh (Uh bQ)}(A:lq H p p1 p2 p3 bs ts L h R zs ws)(k:Keeps F H H')(n:∀f∈F,(∀xs,H f≠some (.lst xs))/\∀xs,H f≠some (.tup xs)):lq H' p p1 p2 p3 bs ts L h R zs ws:=
 ⟨k _ _ A.top λz=>(n _ z).2 _ A.top,k _ _ A.ren λz=>(n _ z).1 _ A.ren,A.row.qF k n,k _ _ A.thi λz=>(n _ z).1 _ A.thi,A.prs.keep λt ys et=>k _ _ et λz=>(n _ z).2 _ et,k _ _ A.tak λz=>(n _ z).1 _ A.tak⟩
theorem FZ{a b c:Uc}(h:a<b)(g:¬a<c):c<b:=by
 by_cases z:c<b
 ·exact z
 ·exact absurd (t6 h z) g
theorem bR.app:∀{A B:Uh (Uh bQ)} {m:Uc} {y:Uc},bR L (A++B) m (some y)↔∃x,bR L A m (some x)/\bR L B x (some y)
 |[],B,m,y=>by
  constructor
  ·intro h;exact⟨m,rfl,h⟩
  ·rintro⟨x,e,h⟩;have e:some x=some m:=e;injection e with e
   rw[<-e];exact h
 |r::A,B,m,y=>by
  constructor
  ·rintro(⟨z,c,h⟩|⟨_,e⟩)
   ·obtain⟨x,a,b⟩:=bR.app.mp h;exact⟨x,.inl ⟨z,c,a⟩,b⟩
   ·cases e
  ·rintro⟨x,(⟨z,c,h⟩|⟨_,e⟩),b⟩
   ·exact .inl ⟨z,c,bR.app.mpr ⟨x,h,b⟩⟩
   ·cases e
abbrev uH:=Nat×Uc×Uc
abbrev uI:=Nat×Uc
structure NF(L:Nat)(R:Uh (Uh bQ))(Bs:Uh uH)(Ts:Uh uI)(kn tk:Nat->Prop)(xs:Ue)(ks:Ud):Prop where
 th:∃S,j3 S xs/\∀q,q∈S↔∃k b,kn k/\Bs[k]?=some b/\bR L (R.drop b.1) b.2.1 (some q.1)/\b.2.2=q.2
 kup:ks.Pairwise (·<·)
 tks:∀m,m∈ks↔∃k b,tk k/\Ts[k]?=some b/\bR L (R.drop b.1) b.2 (some m)
 bag:∀k b,kn k->Bs[k]?=some b->b.1<=R.length
 tag:∀k b,tk k->Ts[k]?=some b->b.1<=R.length
theorem NF.up{R:Uh (Uh bQ)}{Bs:Uh uH}{Ts:Uh uI}{kn tk:Nat->Prop}{xs:Ue}(A:NF L R Bs Ts kn tk xs ks):(xs.map (·.1)).Pairwise (·<·):=by
 obtain⟨S,M,_⟩:=A.th;exact M.up
theorem NF.one{R:Uh (Uh bQ)}{Bs:Uh uH}{Ts:Uh uI}{kn tk kn' tk':Nat->Prop}{xs ys:Ue}{js:Ud}(A:NF L R Bs Ts kn tk xs ks)(B:NF L R Bs Ts kn' tk' ys js)(e:∀k,kn k↔kn' k)(f:∀k,tk k↔tk' k):xs=ys/\ks=js:=by
 obtain⟨S,M,h⟩:=A.th;obtain⟨S',M',h'⟩:=B.th;refine⟨M.one M' λq=>?_,IW A.kup B.kup λm=>?_⟩
 ·rw[h,h'];constructor
  ·rintro⟨k,b,a,c⟩;exact⟨k,b,(e k).mp a,c⟩
  ·rintro⟨k,b,a,c⟩;exact⟨k,b,(e k).mpr a,c⟩
 ·rw[A.tks,B.tks];constructor
  ·rintro⟨k,b,a,c⟩;exact⟨k,b,(f k).mp a,c⟩
  ·rintro⟨k,b,a,c⟩;exact⟨k,b,(f k).mpr a,c⟩
theorem mU(hL:2<=L){D:Uh (Uh bQ)}(O:∀r∈D,bu L r):∀S:Ue,∃S':Ue,∀q:Uc×Uc,q∈S'↔∃z∈S,bR L D z.1 (some q.1)/\z.2=q.2
 |[]=>⟨[],λq=>⟨λh=>(nomatch h),λ⟨_,h,_⟩=>(nomatch h)⟩⟩
 |a::S=>by
  obtain⟨S',h⟩:=mU hL O S
  by_cases e:∃x,bR L D a.1 (some x)
  ·obtain⟨x,c⟩:=e;refine⟨(x,a.2)::S',λq=>?_⟩;rw[mem_cons,h];constructor
   ·rintro(rfl|⟨z,hz,k⟩)
    ·exact⟨a,mem_cons_self,c,rfl⟩
    ·exact⟨z,mem_cons_of_mem _ hz,k⟩
   ·rintro⟨z,hz,k1,k2⟩
    rcases mem_cons.mp hz with rfl|hz
    ·have:=bR.one hL O k1 c;injection this with this
     exact .inl (Prod.ext this k2.symm)
    ·exact .inr ⟨z,hz,k1,k2⟩
  ·refine⟨S',λq=>?_⟩;rw[h];constructor
   ·rintro⟨z,hz,k⟩;exact⟨z,mem_cons_of_mem _ hz,k⟩
   ·rintro⟨z,hz,k1,k2⟩
    rcases mem_cons.mp hz with rfl|hz
    ·exact absurd ⟨_,k1⟩ e
    ·exact⟨z,hz,k1,k2⟩
theorem fY{α:Type}(R:Uh α)(h:i<=n)(hn:n<=R.length):(R.take n).drop i++R.drop n=R.drop i:=by
 have e:R.drop i=((R.take n)++(R.drop n)).drop i:=by rw[take_append_drop]
 rw[e,List.drop_append_of_le_length (by rw[length_take];omega)]
section
variable{L n:Nat}{R:Uh (Uh bQ)}{Bs:Uh uH}{Ts:Uh uI}{kn tk kn' tk':Nat->Prop}{zs zs' xs:Ue}{ws ws' ks:Ud}
theorem NF.join(hL:2<=L)(O:∀r∈R,bu L r)(hn:n<=R.length)(A:NF L (R.take n) Bs Ts kn tk zs ws)(B:NF L R Bs Ts kn' tk' zs' ws')(l:Laid L (R.drop n) zs ws zs' ws' xs ks):NF L R Bs Ts (λk=>kn k\/kn' k) (λk=>tk k\/tk' k) xs ks:=by
 have OD:∀r∈R.drop n,bu L r:=λr hr=>O r (drop_subset _ _ hr);obtain⟨S1,M1,h1⟩:=A.th;obtain⟨S2,M2,h2⟩:=B.th;obtain⟨S0,M0,h0⟩:=l.th;obtain⟨S3,h3⟩:=mU hL OD S1;have lt:(R.take n).length=n:=by rw[length_take,min_eq_left hn]
 refine⟨⟨S3++S2,⟨M0.up,λz hz=>?_,λq hq=>?_⟩,λq=>?_⟩,l.kup,λm=>?_,λk b hk e=>?_,λk b hk e=>?_⟩
 ·rcases (h0 z).mp (M0.mem z hz) with⟨z0,hz0,c⟩|hz0
  ·exact mem_append_left _ ((h3 z).mpr ⟨z0,M1.mem z0 hz0,c⟩)
  ·exact mem_append_right _ (M2.mem z hz0)
 ·have step:∀z:Uc×Uc,z∈S0->z.1=q.1->¬q.2<z.2->∃x∈xs,x.1=q.1/\¬q.2<x.2:=λz hz e1 n1=>by
   obtain⟨x,hx,e2,n2⟩:=M0.all z hz;refine⟨x,hx,e2.trans e1,λw=>?_⟩;exact n2 (FZ w n1)
  rcases mem_append.mp hq with hq|hq
  ·obtain⟨s,hs,c,e⟩:=(h3 q).mp hq;obtain⟨z,hz,e1,n1⟩:=M1.all s hs;refine step (q.1,z.2) ((h0 _).mpr (.inl ⟨z,hz,by rw[e1];exact c,rfl⟩)) rfl ?_;rw[<-e];exact n1
  ·obtain⟨z,hz,e1,n1⟩:=M2.all q hq;exact step z ((h0 z).mpr (.inr hz)) e1 n1
 ·rw[mem_append,h3,h2];constructor
  ·rintro(⟨s,hs,c,e⟩|⟨k,b,hk,c⟩)
   ·obtain⟨k,b,hk,eb,c1,e1⟩:=(h1 s).mp hs;have:=A.bag k b hk eb;refine⟨k,b,.inl hk,eb,?_,e1.trans e⟩;rw[<-fY R (n:=n) (i:=b.1) (by omega) hn];exact bR.app.mpr ⟨s.1,c1,c⟩
   ·exact⟨k,b,.inr hk,c⟩
  ·rintro⟨k,b,hk|hk,eb,c,e⟩
   ·have:=A.bag k b hk eb;rw[<-fY R (n:=n) (i:=b.1) (by omega) hn] at c;obtain⟨x,c1,c2⟩:=bR.app.mp c;exact .inl ⟨(x,q.2),(h1 _).mpr ⟨k,b,hk,eb,c1,e⟩,c2,rfl⟩
   ·exact .inr ⟨k,b,hk,eb,c,e⟩
 ·rw[l.tk,B.tks];constructor
  ·rintro(⟨s,hs,c⟩|⟨k,b,hk,c⟩)
   ·obtain⟨k,b,hk,eb,c1⟩:=(A.tks s).mp hs;have:=A.tag k b hk eb;refine⟨k,b,.inl hk,eb,?_⟩;rw[<-fY R (n:=n) (i:=b.1) (by omega) hn];exact bR.app.mpr ⟨s,c1,c⟩
   ·exact⟨k,b,.inr hk,c⟩
  ·rintro⟨k,b,hk|hk,eb,c⟩
   ·have:=A.tag k b hk eb;rw[<-fY R (n:=n) (i:=b.1) (by omega) hn] at c;obtain⟨x,c1,c2⟩:=bR.app.mp c;exact .inl ⟨x,(A.tks _).mpr ⟨k,b,hk,eb,c1⟩,c2⟩
   ·exact .inr ⟨k,b,hk,eb,c⟩
 ·rcases hk with hk|hk
  ·have:=A.bag k b hk e;omega
  ·exact B.bag k b hk e
 ·rcases hk with hk|hk
  ·have:=A.tag k b hk e;omega
  ·exact B.tag k b hk e
theorem BX(hL:2<=L){R:Uh (Uh bQ)}(O:∀r∈R,bu L r):∀l:Uh (Nat×Uc),∃M:Ud,M.length<=l.length/\∀b∈l,∀m,bR L (R.drop b.1) b.2 (some m)->m∈M
 |[]=>⟨[],le_refl _,λb h=>(nomatch h)⟩
 |a::l=>by
  obtain⟨M,h1,h2⟩:=BX hL O l
  by_cases e:∃x,bR L (R.drop a.1) a.2 (some x)
  ·obtain⟨x,c⟩:=e;refine⟨x::M,by rw[length_cons,length_cons];omega,λb hb m hm=>?_⟩
   rcases mem_cons.mp hb with rfl|hb
   ·have:=bR.one hL (λr hr=>O r (drop_subset _ _ hr)) hm c;injection this with this
    rw[this];exact mem_cons_self
   ·exact mem_cons_of_mem _ (h2 b hb m hm)
  ·refine⟨M,by rw[length_cons];omega,λb hb m hm=>?_⟩
   rcases mem_cons.mp hb with rfl|hb
   ·exact absurd ⟨m,hm⟩ e
   ·exact h2 b hb m hm
theorem NF.len(hL:2<=L)(O:∀r∈R,bu L r)(A:NF L R Bs Ts kn tk xs ks):xs.length<=Bs.length/\ks.length<=Ts.length:=by
 constructor
 ·obtain⟨M,h1,h2⟩:=BX hL O (Bs.map λb=>(b.1,b.2.1));obtain⟨S,MO,h⟩:=A.th;have:=fQ (dg MO.up) λm hm=>by
   obtain⟨z,hz,rfl⟩:=mem_map.mp hm;obtain⟨k,b,_,eb,c,_⟩:=(h z).mp (MO.mem z hz);exact h2 (b.1,b.2.1) (mem_map.mpr ⟨b,mem_of_getElem? eb,rfl⟩) _ c
  rw[length_map] at this h1;omega
 ·obtain⟨M,h1,h2⟩:=BX hL O Ts;have:=fQ (dg A.kup) λm hm=>by
   obtain⟨k,b,_,eb,c⟩:=(A.tks m).mp hm;exact h2 b (mem_of_getElem? eb) _ c
  omega
end
def gv(K:W.Frag)(C:Addr):Sp:=λvs H Q _=>∃(x dx pr pt pk p p1 p2 p3:Addr) (L h j:Nat) (kvs:Ue) (ks:Ud) (as bs:Uh Addr) (ts:Uh V) (R1 R2:Uh (Uh bQ)) (zs':Ue) (ws':Ud),vs=[.ref x,.ref p]/\iT C H x dx pr pt pk L h j kvs ks/\kvs.length<64/\(kvs.map (·.1)).Nodup/\ks.length<64/\ks.Nodup/\FQ H pr as R1/\R1.length<=100/\lq H p p1 p2 p3 bs ts L h R2 zs' ws'/\
 ((∃n,R1=R2.take n/\∀zs ws,Told kvs ks zs ws->Dr L n R2 zs ws zs' ws')\/(∃n,n<R1.length/\R2=R1.take n/\∀zs ws,Told kvs ks zs ws->Dr L n R1 zs' ws' zs ws))/\
 ∀H' zs ws R n pr' pt' pk' as' xs js,Told kvs ks zs ws->Keeps [x] H H'->iT C H' x dx pr' pt' pk' L h j xs js->FQ H' pr' as' R->H pr'=none->H pt'=none->H pk'=none->(∀b∈as',H b=none)->(xs.map (·.1)).Pairwise (·<·)->js.Pairwise (·<·)->
  ((R=R2/\R1=R2.take n/\n<=R2.length/\Laid L (R2.drop n) zs ws zs' ws' xs js)\/(R=R1/\R2=R1.take n/\n<=R1.length/\Laid L (R1.drop n) zs' ws' zs ws xs js))->Q .non H'
def BY(K:W.Frag)(C:Addr):TS:=
  aI (bg (aH (dh K) [] E0 (ah (ck C "state" (eW C) [] E0 (ai 0) av) (ah (ai 1) av))) (aG 2))
   (aI (iK K (ai 0) (aP (bH K) (ai 2) (tC (.int 2))) "renewals")
   (aI (iK K (ai 0) (dJ rm (ah (aP (bH K) (ai 2) (tC (.int 3))) av)) "thing_of")
   (iK K (ai 0) (dJ rm (ah (eG (bS K (aP (bH K) (ai 2) (tC (.int 4)))) [] ku (iL (ah (ai 0) (ah (tC (.bl true)) av)))) av)) "taken")))
theorem F0{xs:Ue}(h:(xs.map (·.1)).Pairwise (·<·)):iR [] (fF xs)=fF xs:=by
 rw[jF _ _ (by
  rw[nil_append,fF,map_map];have:=pairwise_map.mpr (List.Pairwise.imp (S:=λa b=>(Key.inr (txt a):Key)≠Key.inr (txt b)) (λn e=>n (dN.mp (by injection e))) (dg h));rw[map_map] at this;exact this)]
 rfl
theorem F3(h:ks.Pairwise (·<·)):iR [] (qB ks)=qB ks:=by
 rw[jF _ _ (by
  rw[nil_append,qB,map_map];exact pairwise_map.mpr (List.Pairwise.imp (S:=λa b=>(Key.inr (txt a):Key)≠Key.inr (txt b)) (λn e=>n (dN.mp (by injection e))) (dg h)))]
 rfl
def Tv(m:Uc):V×V:=(aD m,.bl true)
theorem d9.Ss{js:Ud}(p:d9 H ys (js.map Tv)):Sg H ys (qB js):=by
 refine⟨by rw[p.len,qB,length_map,length_map],λi k v e=>?_⟩;rw[qB,getElem?_map] at e;obtain⟨m,e1,e2⟩:=map_eq_some_iff.mp e;cases e2;obtain⟨y,hy⟩:=some_at (l:=ys) (i:=i) (by rw[p.len,length_map];exact(List.getElem?_eq_some_iff.mp e1).1);obtain⟨q,t,a,rfl,c⟩:=p.get hy;rw[getElem?_map,e1] at a;cases a;exact⟨t,hy,c⟩
def Qf(H:Hp)(ks:Ud):Nat->Uh V->Hp->Prop:=λi ys H'=>aF H H'/\d9 H' ys ((ks.take i).map Tv)
theorem F4(cl:gg K C)(hN:N.length=3)(h:gv K C vs H Q E):BY K C {nx:=λ_ H'=>Q .non H',rt:=Q} (L2.start N vs) H:=by
 obtain⟨x,dx,pr,pt,pk,p,p1,p2,p3,L,h,j,kvs,ks,as,bs,ts,R1,R2,zs',ws',rfl,S,k64,knd,t64,tnd,A,few,B,way,q⟩:=h;unfold BY L2.start;rw[hN];refine aW λc hc=>?_;suffices main:∀H2 o o1 o2 o3 ds vs zs ws R n xs js,Told kvs ks zs ws->aF H H2->lq H2 o o1 o2 o3 ds vs L h R xs js->(o::o1::o2::o3::ds).Nodup->(∀b∈o::o1::o2::o3::ds,H b=none)->js.length<64->
   ((R=R2/\R1=R2.take n/\n<=R2.length/\Laid L (R2.drop n) zs ws zs' ws' xs js)\/(R=R1/\R2=R1.take n/\n<=R1.length/\Laid L (R1.drop n) zs' ws' zs ws xs js))->c (.ref o) H2 by
  nofun;refine bL S (λR r=>⟨_,rfl,r⟩) rfl ⟨x,dx,pr,pt,pk,L,h,j,kvs,ks,as,R1,rfl,S,k64,knd,t64,tnd,A.lst,A.row,by omega,λH1 s s1 s2 s3 cs us zs ws sH T SB ndS frS=>?_⟩;have B1:=B.same sH
  rcases way with⟨n,e,ok⟩|⟨n,lt,e,ok⟩
  ·exact⟨s,p,n,R2,rfl,.inl ⟨s1,s2,s3,p1,p2,p3,cs,bs,us,ts,L,h,zs,zs',ws,ws',by rw[<-e];exact SB,B1,ok zs ws T,λH2 o o1 o2 o3 ds vs xs js s12 SA nd fr l=>main H2 o o1 o2 o3 ds vs zs ws R2 n xs js T (sH.trans s12) SA nd (λb hb=>sH.bW (fr b hb)) (by have:=(ok zs ws T).k64;have:=l.klen;omega) (.inl ⟨rfl,e,(ok zs ws T).ren,l⟩)⟩⟩
  ·exact⟨s,p,n,R1,rfl,.inr ⟨lt,p1,p2,p3,s1,s2,s3,bs,cs,ts,us,L,h,zs',zs,ws',ws,by rw[<-e];exact B1,SB,ok zs ws T,λH2 o o1 o2 o3 ds vs xs js s12 SA nd fr l=>main H2 o o1 o2 o3 ds vs zs ws R1 n xs js T (sH.trans s12) SA nd (λb hb=>sH.bW (fr b hb)) (by have:=(ok zs ws T).k64;have:=l.klen;omega) (.inr ⟨rfl,e,(ok zs ws T).ren,l⟩)⟩⟩
 intro H2 o o1 o2 o3 ds vs zs ws R n xs js T s2 SA nd fr j64 lay;refine hc _ _ ?_;clear hc c;have S2:=S.same s2;simp only[set_cons_zero,set_cons_succ,replicate_succ,replicate_zero,map_cons,map_nil,cons_append,nil_append];refine aT λc hc=>?_;unfold iK;nofun;have hdx:dx≠x:=λz=>by subst z;have:=S.ins.symm.trans S.own;cases this
 have ups:(xs.map (·.1)).Pairwise (·<·)/\js.Pairwise (·<·):=by
  rcases lay with⟨_,_,_,l⟩|⟨_,_,_,l⟩
  ·obtain⟨_,M,_⟩:=l.th;exact⟨M.up,l.kup⟩
  ·obtain⟨_,M,_⟩:=l.th;exact⟨M.up,l.kup⟩
 have nds:o≠x/\o1≠x/\o2≠x/\o3≠x:=by
  have f:∀b∈o::o1::o2::o3::ds,b≠x:=λb hb z=>by have:=fr b hb;rw[z,S.ins] at this;cases this
  exact⟨f o (by simp),f o1 (by simp),f o2 (by simp),f o3 (by simp)⟩
 have ndx:o1≠dx:=λz=>by subst z;have:=fr o1 (by simp);rw[S.own] at this;cases this
 refine aZ (v:=.ref o1) (dU.of SA.top) (by decide) rfl ⟨C,dx,_,S2.ins,cl.cls,cl.nr,by simp[cC],hc _ _ ?_⟩;clear hc c;have k3:Keeps [x] H (upd H2 x (.ins C dx (cG "renewals" (.ref o1) (cC L h j pr pt pk)))):=(s2.keeps _).upd (.inl mem_cons_self);have x3:(upd H2 x (.ins C dx (cG "renewals" (.ref o1) (cC L h j pr pt pk)))) x=some (.ins C dx (cC L h j o1 pt pk)):=aq;have kx:Keeps [x] H2 (upd H2 x (.ins C dx (cG "renewals" (.ref o1) (cC L h j pr pt pk)))):=Keeps.upd (λ_ _ e _=>e) (.inl mem_cons_self);generalize upd H2 x _=H3 at k3 x3 kx ⊢;have nf:∀f∈[x],(∀xs,H2 f≠some (.lst xs))/\∀xs,H2 f≠some (.tup xs):=λf hf=>by
  rw[mem_singleton.mp hf,S2.ins];exact⟨λ_ z=>(nomatch z),λ_ z=>(nomatch z)⟩
 have SA3:=SA.qF kx nf;have d3:=kx _ _ S2.own (by simpa using hdx);refine aT λc hc=>?_;unfold iK;nofun;refine aZ (v:=.ref o2) (dU.of SA3.top) (by decide) rfl ⟨o2,vs,fF xs,rfl,SA3.thi,SA3.prs.P5,λpt' hpt=>?_⟩;rw[F0 ups.1];have nx:x≠pt':=λz=>by subst z;rw[x3] at hpt;cases hpt
 have n1:dx≠pt':=λz=>by subst z;rw[d3] at hpt;cases hpt
 have ft:H pt'=none:=by
  cases w:H pt' with
  |none=>rfl
  |some u=>rw[k3 pt' u w (by simpa using Ne.symm nx)] at hpt;cases hpt
 refine⟨C,dx,_,by rw[aE nx];exact x3,cl.cls,cl.nt,by simp[cC],hc _ _ ?_⟩;clear hc c;have k4:Keeps [x] H3 (upd (upd H3 pt' (.dK (fF xs))) x (.ins C dx (cG "thing_of" (.ref pt') (cC L h j o1 pt pk)))):=(Keeps.upd (λ_ _ e _=>e) (.inr hpt)).upd (.inl mem_cons_self);have x4:(upd (upd H3 pt' (.dK (fF xs))) x (.ins C dx (cG "thing_of" (.ref pt') (cC L h j o1 pt pk)))) x=some (.ins C dx (cC L h j o1 pt' pk)):=aq;have t4:(upd (upd H3 pt' (.dK (fF xs))) x (.ins C dx (cG "thing_of" (.ref pt') (cC L h j o1 pt pk)))) pt'=some (.dK (fF xs)):=by rw[aE (Ne.symm nx),aq]
 generalize upd (upd H3 pt' _) x _=H4 at k4 x4 t4 ⊢;have nf3:∀f∈[x],(∀xs,H3 f≠some (.lst xs))/\∀xs,H3 f≠some (.tup xs):=λf hf=>by
  rw[mem_singleton.mp hf,x3];exact⟨λ_ z=>(nomatch z),λ_ z=>(nomatch z)⟩
 have SA4:=SA3.qF k4 nf3;have d4:=k4 _ _ d3 (by simpa using hdx);have k04:Keeps [x] H H4:=Keeps.trans k3 k4;unfold iK;nofun;refine kR (a:=o3) (xs:=js.map aD) (λQ h=>by nofun;exact aZ (v:=.ref o3) (dU.of SA4.top) (by decide) rfl h) (aX.of SA4.tak) (Qf H4 js) ⟨aF.refl _,trivial⟩ (λi ys H' hi p=>⟨aX.of (p.1 _ _ SA4.tak),by have:=p.2.len;rw[length_map,length_take] at this;omega⟩) ?_ ?_ ?_
 ·rw[length_map,sizeLine_eq];omega
 ·rintro i v ys H' hv ⟨s',pr'⟩ W hW;rw[getElem?_map] at hv;obtain⟨m,hm,rfl⟩:=map_eq_some_iff.mp hv;have etk:js.take (i+1)=js.take i++[m]:=by rw[take_add_one,hm];rfl
  nofun;refine⟨by decide,λt ht=>hW _ _ ⟨s'.new ht,?_⟩⟩
  rw[etk,map_append];refine(pr'.same (aF.up H' ht)).app ⟨⟨t,rfl,?_⟩,trivial⟩;rw[aq];rfl
 rintro ys H5a ⟨s5a,P5⟩ l5 hl5;rw[length_map,take_length] at P5;have s45:=s5a.new hl5 (o:=.lst ys);have e5:(upd H5a l5 (.lst ys)) l5=some (.lst ys):=aq;have Qg:=P5.same (aF.up H5a hl5 (o:=.lst ys));generalize upd H5a l5 _=H5 at s45 e5 Qg ⊢;refine⟨l5,ys,qB js,rfl,e5,Qg.Ss,λpk' hpk=>?_⟩;rw[F3 ups.2];have x5:=s45 _ _ x4;have d5:=s45 _ _ d4;have t5:=s45 _ _ t4;have nxk:x≠pk':=λz=>by subst z;rw[x5] at hpk;cases hpk
 have ntk:pt'≠pk':=λz=>by subst z;rw[t5] at hpk;cases hpk
 have ndk:dx≠pk':=λz=>by subst z;rw[d5] at hpk;cases hpk
 have k05:Keeps [x] H H5:=Keeps.trans k04 (s45.keeps _);have fk:H pk'=none:=by
  cases w:H pk' with
  |none=>rfl
  |some u=>rw[k05 pk' u w (by simpa using Ne.symm nxk)] at hpk;cases hpk
 refine⟨C,dx,_,by rw[aE nxk];exact x5,cl.cls,cl.nk,by simp[cC],?_⟩;have k6:Keeps [x] H5 (upd (upd H5 pk' (.dK (qB js))) x (.ins C dx (cG "taken" (.ref pk') (cC L h j o1 pt' pk)))):=(Keeps.upd (λ_ _ e _=>e) (.inr hpk)).upd (.inl mem_cons_self);have x6:(upd (upd H5 pk' (.dK (qB js))) x (.ins C dx (cG "taken" (.ref pk') (cC L h j o1 pt' pk)))) x=some (.ins C dx (cC L h j o1 pt' pk')):=aq;have u6:(upd (upd H5 pk' (.dK (qB js))) x (.ins C dx (cG "taken" (.ref pk') (cC L h j o1 pt' pk)))) pk'=some (.dK (qB js)):=by rw[aE (Ne.symm nxk),aq]
 generalize upd (upd H5 pk' _) x _=H6 at k6 x6 u6 ⊢;have nf5:∀f∈[x],(∀xs,H5 f≠some (.lst xs))/\∀xs,H5 f≠some (.tup xs):=λf hf=>by
  rw[mem_singleton.mp hf,x5];exact⟨λ_ z=>(nomatch z),λ_ z=>(nomatch z)⟩
 have SA6:=(SA4.same s45).qF k6 nf5;have nd1:¬o1∈ds:=λz=>by
  simp only[nodup_cons,mem_cons,not_or] at nd;exact nd.2.1.2.2 z
 exact q H6 zs ws R n o1 pt' pk' ds xs js T (Keeps.trans k05 k6) ⟨x6,k6 _ _ d5 (by simpa using hdx),k6 _ _ t5 (by simpa using Ne.symm nx),u6,ntk⟩ ⟨SA6.ren,SA6.row,nd1⟩ (fr o1 (by simp)) ft fk (λb hb=>fr b (by simp[hb])) ups.1 ups.2 lay
def Short(r:Uh bQ):Prop:=r.length<=60/\∀y∈r,∀z,y.2=some z->z.length<=7
theorem vI.LR{R:Uh bQ}(O:bu L R)(hS:Short R)(hL:2<=L){x:Uc}(M:Mark L m)(A:vI L R m (some x)):Mark L x/\x.length<=8+m.length:=by
 refine⟨(vI.len O hL M A).1,?_⟩
 rcases A with⟨r,hr,e,h⟩|⟨h1,n,w,s,S,h⟩
 ·have:=hS.2 r hr x h.symm;omega
 ·injection h with h
  subst h;obtain⟨a1,a2,a3,a4,_⟩:=S.all hL (O.xx m) (O.NU m);have l1:c9 (tZ R m)<=7:=by
   cases h:tZ R m with
   |none=>exact zero_le _
   |some x=>obtain⟨r,hr,_,e⟩:=nR h;exact hS.2 r hr x e
  have l2:c9 (kZ R m)<=7:=by
   cases h:kZ R m with
   |none=>exact zero_le _
   |some x=>obtain⟨r,hr,_,e⟩:=lQ h;exact hS.2 r hr x e
  rw[length_append];omega
theorem bR.LR(hL:2<=L):∀{R:Uh (Uh bQ)} {m x:Uc},(∀r∈R,bu L r/\Short r)->Mark L m->bR L R m (some x)->Mark L x/\x.length<=8*R.length+m.length
 |[],m,x,_,M,a=>by
  have e:some x=some m:=a;injection e with e
  subst e;exact⟨M,by omega⟩
 |r::R,m,x,O,M,a=>by
  rcases a with⟨z,a1,a2⟩|⟨a1,a2⟩
  ·obtain⟨o1,o2⟩:=O r mem_cons_self;obtain⟨M1,l1⟩:=vI.LR o1 o2 hL M a1;obtain⟨M2,l2⟩:=bR.LR hL (λr h=>O r (mem_cons_of_mem _ h)) M1 a2;exact⟨M2,by rw[length_cons];omega⟩
  ·cases a2
theorem qa(fr:Ud):∀(g:Nat) (l:Uh (Uc×Bool)) (r:bQ),r∈gw fr g l->(r.1,r.2.isSome)∈l
 |g,[],r,h=>(nomatch h)
 |g,(m,true)::l,r,h=>by
  rw[gw] at h
  rcases mem_cons.mp h with rfl|h
  ·exact mem_cons_self
  ·exact mem_cons_of_mem _ (qa fr _ l r h)
 |g,(m,false)::l,r,h=>by
  rw[gw] at h
  rcases mem_cons.mp h with rfl|h
  ·exact mem_cons_self
  ·exact mem_cons_of_mem _ (qa fr _ l r h)
theorem F5{zs:Ud}{r:bQ}(h:r∈dj L zs ks n):r.2.isSome = !decide (r.1∈ks):=by
 have:=qa _ _ _ _ h;obtain⟨m,_,e⟩:=mem_map.mp this;injection e with e1 e2
 rw[<-e1,e2]
theorem IY{zs:Ud}(h:m∈zs):∃r∈dj L zs ks n,r.1=m:=by
 have:m∈(dj L zs ks n).map (·.1):=by
  unfold dj;rw[fR,nX,map_map];exact mem_map.mpr ⟨m,h,rfl⟩
 obtain⟨r,hr,e⟩:=mem_map.mp this;exact⟨r,hr,e⟩
theorem fE.few{m:Nat}(hL:2<=L)(R:fE L m n)(hm:m<=62):n<=6:=by
 rcases lt_or_ge 6 n with z|z
 ·have h1:=R.less 6 z;have h2:2^6<=L^6:=Nat.pow_le_pow_left hL _;have h3:(2:Nat)^6=64:=by decide
  omega
 ·exact z
theorem LS{k b:Nat}{zs:Ud}(W:gh L kvs ks k b)(hL:2<=L)(hk:k<=60)(hb:b<=500)(A:Ae kvs zs)(R:fE L (cZ (nX zs ks)) n):bu L (dj L zs ks n)/\Short (dj L zs ks n):=by
 have zl:zs.length<=k:=by rw[A.perm.length_eq,length_map];exact W.few
 have sl:cZ (nX zs ks)<=62:=by
  have:=tV (nX zs ks);rw[nX,length_map] at this;rw[nX];omega
 have n6:=R.few hL sl;have ol:(dj L zs ks n).map (·.1)=zs:=by
  unfold dj;rw[fR,nX,map_map];exact map_id _
 have nw:∀y∈dj L zs ks n,∀z,y.2=some z->Mark L z/\z.length<=7:=λy hy z hz=>by
  have:z∈(dj L zs ks n).filterMap (·.2):=mem_filterMap.mpr ⟨y,hy,hz⟩;rw[p9] at this;obtain⟨m1,m2⟩:=zz (by omega) R z this;exact⟨m1,by omega⟩
 refine⟨⟨?_,λr hr=>?_,?_,λr hr z hz=>?_,?_⟩,⟨by have:=congrArg List.length ol;rw[length_map] at this;omega,λy hy z hz=>(nw y hy z hz).2⟩⟩
 ·have:=A.up;rw[<-ol] at this;exact pairwise_map.mp this
 ·have:=W.mark (A.perm.mem_iff.mp (nY hr));exact⟨this.1,by omega⟩
 ·have:=Dj (by omega) R;rw[<-p9 (zs:=zs) (ks:=ks)] at this;exact(List.pairwise_filterMap.mp this).imp λh x y hx hy=>h x hx y hy
 ·have:=nw r hr z hz;exact⟨this.1,by omega⟩
 ·have:=congrArg List.length ol;rw[length_map] at this;omega
structure HK(L c:Nat)(Bs:Uh uH)(Ts:Uh uI)(kn tk:Nat->Prop)(R:Uh (Uh bQ))(kvs:Ue)(ks:Ud):Prop where
 nf:∃zs ws,Told kvs ks zs ws/\NF L R Bs Ts kn tk zs ws
 kw:gh L kvs ks Bs.length (c+8*R.length)
 ro:∀r∈R,bu L r/\Short r
theorem xN(kvs:Ue)(ks:Ud)(h:(kvs.map (·.1)).Nodup)(h':ks.Nodup):∃zs ws,Told kvs ks zs ws:=by
 obtain⟨ws,u,m⟩:=p8 ks;obtain⟨ms,u2,m2⟩:=p8 (kvs.map (·.1));have e:(ms.map λm=>(m,c8 kvs m)).map (·.1)=ms:=by rw[map_map];exact map_id _
 refine⟨ms.map λm=>(m,c8 kvs m),ws,⟨?_,by rw[e];exact u2,(perm_ext_iff_of_nodup (dg u) h').mpr m,u⟩⟩;have n1:(ms.map λm=>(m,c8 kvs m)).Nodup:=by
  have:=dg u2;rw[<-e] at this;exact(pairwise_map.mp this).imp λh z=>h (by rw[z])
 have n2:kvs.Nodup:=(pairwise_map.mp h).imp λh z=>h (by rw[z]);refine(perm_ext_iff_of_nodup n1 n2).mpr λz=>?_;constructor
 ·intro hz;obtain⟨m,hm,rfl⟩:=mem_map.mp hz;exact gP kvs ((m2 m).mp hm)
 ·intro hz;refine mem_map.mpr ⟨z.1,(m2 _).mpr (mem_map_of_mem (f:=(·.1)) hz),?_⟩;exact BU h (gP kvs (mem_map_of_mem (f:=(·.1)) hz)) hz rfl
section
variable{L c:Nat}{Bs:Uh uH}{Ts:Uh uI}{kn tk:Nat->Prop}{R:Uh (Uh bQ)}{kvs zs:Ue}{ks ws:Ud}
theorem NF.grow(A:NF L R Bs Ts kn tk zs ws)(hk:∀k,kn k->k<Bs.length)(ht:∀k,tk k->k<Ts.length)(Bx:Uh uH)(Tx:Uh uI):NF L R (Bs++Bx) (Ts++Tx) kn tk zs ws:=by
 have e1:∀k,kn k->(Bs++Bx)[k]?=Bs[k]?:=λk h=>List.getElem?_append_left (hk k h);have e2:∀k,tk k->(Ts++Tx)[k]?=Ts[k]?:=λk h=>List.getElem?_append_left (ht k h);obtain⟨S,M,h⟩:=A.th;refine⟨⟨S,M,λq=>?_⟩,A.kup,λm=>?_,λk b hk e=>A.bag k b hk (by rw[<-e1 k hk];exact e),λk b hk e=>A.tag k b hk (by rw[<-e2 k hk];exact e)⟩
 ·rw[h];constructor
  ·rintro⟨k,b,a,e,x⟩;exact⟨k,b,a,by rw[e1 k a];exact e,x⟩
  ·rintro⟨k,b,a,e,x⟩;exact⟨k,b,a,by rw[<-e1 k a];exact e,x⟩
 ·rw[A.tks];constructor
  ·rintro⟨k,b,a,e,x⟩;exact⟨k,b,a,by rw[e2 k a];exact e,x⟩
  ·rintro⟨k,b,a,e,x⟩;exact⟨k,b,a,by rw[<-e2 k a];exact e,x⟩
theorem lV{x:Uc}:bR L [] m (some x)↔x=m:=by
 show some x=some m↔_;simp
theorem HK.put(A:HK L c Bs Ts kn tk R kvs ks)(hk:∀k,kn k->k<Bs.length)(ht:∀k,tk k->k<Ts.length){t:Uc}(hm:Mark L m)(hl:m.length<=c+8*R.length+1)(th:Thing t)(hn:¬m∈kvs.map (·.1)):
  HK L (c+1) (Bs++[(R.length,m,t)]) Ts (λk=>kn k\/k=Bs.length) tk R (kvs++[(m,t)]) ks:=by
 obtain⟨zs,ws,T,N⟩:=A.nf;have kw:=A.kw.put hm hl th hn;obtain⟨zs2,ws2,T2⟩:=xN (kvs++[(m,t)]) ks kw.nd kw.tnd;have ew:ws2=ws:=jE (T2.tperm.trans T.tperm.symm) T2.tup T.tup;subst ew;have N':=N.grow hk ht [(R.length,m,t)] [];rw[append_nil] at N';obtain⟨S,M,h⟩:=N'.th;refine⟨⟨zs2,ws2,T2,⟨S++[(m,t)],⟨T2.up,λz hz=>?_,λq hq=>?_⟩,λq=>?_⟩,N'.kup,N'.tks,λk b hk' e=>?_,N'.tag⟩,⟨kw.nd,λkv h=>by have:=kw.mar kv h;exact⟨this.1,by omega,this.2.2⟩,by have:=kw.few;rw[length_append];simpa using this,kw.sub,kw.tnd⟩,A.ro⟩
 ·rcases mem_append.mp (T2.perm.mem_iff.mp hz) with hz|hz
  ·exact mem_append_left _ (M.mem z (T.perm.mem_iff.mpr hz))
  ·exact mem_append_right _ hz
 ·rcases mem_append.mp hq with hq|hq
  ·obtain⟨z,hz,e⟩:=M.all q hq;exact⟨z,T2.perm.mem_iff.mpr (mem_append_left _ (T.perm.mem_iff.mp hz)),e⟩
  ·exact⟨q,T2.perm.mem_iff.mpr (mem_append_right _ hq),rfl,List.lt_irrefl _⟩
 ·rw[mem_append,h];constructor
  ·rintro(⟨k,b,a,x⟩|hq)
   ·exact⟨k,b,.inl a,x⟩
   ·rw[mem_singleton.mp hq];refine⟨Bs.length,(R.length,m,t),.inr rfl,by rw[getElem?_append_right (le_refl _),sub_self];rfl,?_,rfl⟩;show bR L (R.drop R.length) m (some m);rw[drop_length];exact lV.mpr rfl
  ·rintro⟨k,b,a|rfl,e,x1,x2⟩
   ·exact .inl ⟨k,b,a,e,x1,x2⟩
   ·rw[getElem?_append_right (le_refl _),sub_self] at e;injection e with e
    subst e;have x1:bR L (R.drop R.length) m (some q.1):=x1;rw[drop_length,lV] at x1;exact .inr (mem_singleton.mpr (Prod.ext x1 x2.symm))
 ·rcases hk' with a|rfl
  ·exact N'.bag k b a e
  ·rw[getElem?_append_right (le_refl _),sub_self] at e;injection e with e
   subst e;exact le_refl _
theorem HK.take(A:HK L c Bs Ts kn tk R kvs ks)(hk:∀k,kn k->k<Bs.length)(ht:∀k,tk k->k<Ts.length)(hm:m∈kvs.map (·.1))(hn:¬m∈ks):
  HK L c Bs (Ts++[(R.length,m)]) kn (λk=>tk k\/k=Ts.length) R kvs (ks++[m]):=by
 obtain⟨zs,ws,T,N⟩:=A.nf;have kw:=A.kw.take hm hn;obtain⟨zs2,ws2,T2⟩:=xN kvs (ks++[m]) kw.nd kw.tnd;have ez:zs2=zs:=up_eq T2.up T.up λz=>(T2.perm.mem_iff).trans T.perm.mem_iff.symm;subst ez;have N':=N.grow hk ht [] [(R.length,m)];rw[append_nil] at N';refine⟨⟨zs2,ws2,T2,N'.th,T2.tup,λy=>?_,N'.bag,λk b hk' e=>?_⟩,kw,A.ro⟩
 ·rw[T2.tperm.mem_iff,mem_append,<-T.tperm.mem_iff,N'.tks];constructor
  ·rintro(⟨k,b,a,x⟩|hq)
   ·exact⟨k,b,.inl a,x⟩
   ·rw[mem_singleton.mp hq];refine⟨Ts.length,(R.length,m),.inr rfl,by rw[getElem?_append_right (le_refl _),sub_self];rfl,?_⟩;show bR L (R.drop R.length) m (some m);rw[drop_length];exact lV.mpr rfl
  ·rintro⟨k,b,a|rfl,e,x1⟩
   ·exact .inl ⟨k,b,a,e,x1⟩
   ·rw[getElem?_append_right (le_refl _),sub_self] at e;injection e with e
    subst e;have x1:bR L (R.drop R.length) m (some y):=x1;rw[drop_length,lV] at x1;exact .inr (mem_singleton.mpr x1)
 ·rcases hk' with a|rfl
  ·exact N'.tag k b a e
  ·rw[getElem?_append_right (le_refl _),sub_self] at e;injection e with e
   subst e;exact le_refl _
end
section
variable{L c:Nat}{Bs:Uh uH}{Ts:Uh uI}{kn tk kn' tk':Nat->Prop}{R:Uh (Uh bQ)}{kvs zs zs' xs:Ue}{ks ws ws' js:Ud}
theorem qb{α:Type}{R:Uh α}{r:α}(h:i<=R.length):(R++[r]).drop i=R.drop i++[r]:=List.drop_append_of_le_length h
theorem qc{r:Uh bQ}{x:Uc}:bR L [r] m (some x)↔vI L r m (some x):=by
 constructor
 ·rintro(⟨y,c,e⟩|⟨_,e⟩)
  ·have e:some x=some y:=e;injection e with e
   rw[e];exact c
  ·cases e
 ·intro h;exact .inl ⟨x,h,rfl⟩
theorem HK.qD{ms:Ud}(A:HK L c Bs Ts kn tk R kvs ks)(hL:2<=L)(hB:Bs.length<=60)(hc:c+8*R.length<=500)(AK:Ae kvs ms)(IR:fE L (cZ (nX ms ks)) n):HK L c Bs Ts kn tk (R++[dj L ms ks n]) (fm kvs (dj L ms ks n)) []:=by
 obtain⟨zs,ws,T,N⟩:=A.nf;obtain⟨O,Sh⟩:=LS A.kw hL hB hc AK IR;have kw:=A.kw.qD hL AK IR;have row:∀m∈kvs.map (·.1),∃r∈dj L ms ks n,r.1=m:=λm hm=>IY (AK.perm.mem_iff.mpr hm);have Mz:∀r∈dj L ms ks n,r.2.isSome = !decide (r.1∈ks):=λr hr=>F5 hr;have old:∀r∈dj L ms ks n,r.1∈kvs.map (·.1):=λr hr=>AK.perm.mem_iff.mp (nY hr);generalize dj L ms ks n=rw at O Sh kw row Mz old;obtain⟨zs2,ws2,T2⟩:=xN (fm kvs rw) [] kw.nd nodup_nil;have ew:ws2=[]:=List.perm_nil.mp T2.tperm;subst ew;obtain⟨S,M,h⟩:=N.th;obtain⟨S',h'⟩:=mU hL (D:=[rw]) (λr hr=>by rw[mem_singleton.mp hr];exact O) S;have mk:∀z,z∈zs2↔∃r∈rw,r.2=some z.1/\z.2=c8 kvs r.1:=λz=>by
  rw[T2.perm.mem_iff];unfold fm;rw[mem_filterMap];constructor
  ·rintro⟨r,hr,e⟩;obtain⟨y,e1,e2⟩:=map_eq_some_iff.mp e;subst e2;exact⟨r,hr,e1,rfl⟩
  ·rintro⟨r,hr,e1,e2⟩;exact⟨r,hr,by rw[e1];show some (z.1,c8 kvs r.1)=some z;rw[<-e2]⟩
 refine⟨⟨zs2,[],T2,⟨S',⟨T2.up,λz hz=>?_,λq hq=>?_⟩,λq=>?_⟩,T2.tup,λm=>⟨λz=>(nomatch z),?_⟩,λk b hk e=>?_,λk b hk e=>?_⟩,⟨kw.nd,λkv hkv=>?_,kw.few,kw.sub,kw.tnd⟩,λr hr=>?_⟩
 ·obtain⟨r,hr,e1,e2⟩:=(mk z).mp hz;refine(h' z).mpr ⟨(r.1,c8 kvs r.1),M.mem _ (T.perm.mem_iff.mpr (gP kvs (old r hr))),qc.mpr (.inl ⟨r,hr,rfl,e1.symm⟩),e2.symm⟩
 ·obtain⟨s,hs,cs,es⟩:=(h' q).mp hq;obtain⟨z,hz,e1,n1⟩:=M.all s hs;have zk:=T.perm.mem_iff.mp hz;have zm:s.1∈kvs.map (·.1):=by rw[<-e1];exact mem_map_of_mem (f:=(·.1)) zk
  obtain⟨r,hr,er⟩:=row _ zm;have e2:=vI.one O hL (qc.mp cs) (.inl ⟨r,hr,er,rfl⟩);have e3:(s.1,c8 kvs s.1)=z:=BU A.kw.nd (gP kvs zm) zk e1.symm;refine⟨(q.1,c8 kvs s.1),(mk _).mpr ⟨r,hr,e2.symm,by rw[er]⟩,rfl,?_⟩;rw[<-es];rw[<-e3] at n1;exact n1
 ·rw[h'];constructor
  ·rintro⟨s,hs,cs,es⟩;obtain⟨k,b,a,e,x1,x2⟩:=(h s).mp hs;exact⟨k,b,a,e,by rw[qb (N.bag k b a e)];exact bR.app.mpr ⟨s.1,x1,cs⟩,x2.trans es⟩
  ·rintro⟨k,b,a,e,x1,x2⟩;rw[qb (N.bag k b a e)] at x1;obtain⟨y,y1,y2⟩:=bR.app.mp x1;exact⟨(y,q.2),(h _).mpr ⟨k,b,a,e,y1,x2⟩,y2,rfl⟩
 ·rintro⟨k,b,a,e,x1⟩;rw[qb (N.tag k b a e)] at x1;obtain⟨y,y1,y2⟩:=bR.app.mp x1;have yk:y∈ks:=T.tperm.mem_iff.mp ((N.tks y).mpr ⟨k,b,a,e,y1⟩);obtain⟨r,hr,er⟩:=row y (A.kw.sub y yk);have e2:=vI.one O hL (qc.mp y2) (.inl ⟨r,hr,er,rfl⟩);have e3:=Mz r hr;rw[<-e2,er,decide_eq_true yk] at e3;cases e3
 ·rw[length_append];have:=N.bag k b hk e;omega
 ·rw[length_append];have:=N.tag k b hk e;omega
 ·have:=kw.mar kv hkv;have h1:kv.1∈(fm kvs rw).map (·.1):=mem_map_of_mem (f:=(·.1)) hkv;rw[lT] at h1;obtain⟨r,hr,e⟩:=mem_filterMap.mp h1;have:=Sh.2 r hr _ e;refine⟨(kw.mar kv hkv).1,?_,(kw.mar kv hkv).2.2⟩;rw[length_append];simp only[length_cons,length_nil];omega
 ·rcases mem_append.mp hr with hr|hr
  ·exact A.ro r hr
  ·rw[mem_singleton.mp hr];exact⟨O,Sh⟩
structure SK(L c:Nat)(Bs:Uh uH)(Ts:Uh uI)(kn tk:Nat->Prop)(R:Uh (Uh bQ))(zs:Ue)(ws:Ud):Prop where
 nf:NF L R Bs Ts kn tk zs ws
 mar:∀z∈zs,Mark L z.1/\z.1.length<=c+8*R.length/\Thing z.2
 sub:∀m∈ws,m∈zs.map (·.1)
 ro:∀r∈R,bu L r/\Short r
theorem HK.told(A:HK L c Bs Ts kn tk R kvs ks)(T:Told kvs ks zs ws):SK L c Bs Ts kn tk R zs ws:=by
 obtain⟨zs0,ws0,T0,N⟩:=A.nf;obtain⟨rfl,rfl⟩:=T.one T0;exact⟨N,λz hz=>A.kw.mar z (T.perm.mem_iff.mp hz),λm hm=>(T.perm.map _).mem_iff.mpr (A.kw.sub m (T.tperm.mem_iff.mp hm)),A.ro⟩
theorem SK.hk(A:SK L c Bs Ts kn tk R zs ws)(hL:2<=L):HK L c Bs Ts kn tk R zs ws:=
 ⟨⟨zs,ws,⟨.refl _,A.nf.up,.refl _,A.nf.kup⟩,A.nf⟩,⟨dg A.nf.up,A.mar,(A.nf.len hL λr hr=>(A.ro r hr).1).1,A.sub,dg A.nf.kup⟩,A.ro⟩
theorem SK.grow(A:SK L c Bs Ts kn tk R zs ws)(hk:∀k,kn k->k<Bs.length)(ht:∀k,tk k->k<Ts.length)(Bx:Uh uH)(Tx:Uh uI){c':Nat}(hc:c<=c'):SK L c' (Bs++Bx) (Ts++Tx) kn tk R zs ws:=
 ⟨A.nf.grow hk ht Bx Tx,λz hz=>by have:=A.mar z hz;exact⟨this.1,by omega,this.2.2⟩,A.sub,A.ro⟩
theorem HK.grow(A:HK L c Bs Ts kn tk R kvs ks)(hk:∀k,kn k->k<Bs.length)(ht:∀k,tk k->k<Ts.length)(Bx:Uh uH)(Tx:Uh uI){c':Nat}(hc:c<=c'):HK L c' (Bs++Bx) (Ts++Tx) kn tk R kvs ks:=by
 obtain⟨zs,ws,T,N⟩:=A.nf;exact⟨⟨zs,ws,T,N.grow hk ht Bx Tx⟩,⟨A.kw.nd,λz hz=>by have:=A.kw.mar z hz;exact⟨this.1,by omega,this.2.2⟩,by have:=A.kw.few;rw[length_append];omega,A.kw.sub,A.kw.tnd⟩,A.ro⟩
theorem SK.join(A:SK L c Bs Ts kn tk (R.take n) zs ws)(B:SK L c Bs Ts kn' tk' R zs' ws')(hL:2<=L)(hn:n<=R.length)(l:Laid L (R.drop n) zs ws zs' ws' xs js):SK L c Bs Ts (λk=>kn k\/kn' k) (λk=>tk k\/tk' k) R xs js:=by
 have O:∀r∈R,bu L r:=λr hr=>(B.ro r hr).1;have OD:∀r∈R.drop n,bu L r/\Short r:=λr hr=>B.ro r (drop_subset _ _ hr);obtain⟨S,M,h⟩:=l.th;refine⟨A.nf.join hL O hn B.nf l,λz hz=>?_,λm hm=>?_,B.ro⟩
 ·rcases (h z).mp (M.mem z hz) with⟨z0,h0,c0,e0⟩|h0
  ·obtain⟨m1,m2,m3⟩:=A.mar z0 h0;obtain⟨a,b⟩:=c0.LR hL OD m1;rw[length_take,min_eq_left hn] at m2;rw[length_drop] at b;exact⟨a,by omega,by rw[<-e0];exact m3⟩
  ·exact B.mar z h0
 ·have put:∀q:Uc×Uc,q∈S->q.1∈xs.map (·.1):=λq hq=>by
   obtain⟨z,hz,e,_⟩:=M.all q hq;rw[<-e];exact mem_map_of_mem (f:=(·.1)) hz
  rcases (l.tk m).mp hm with⟨w,hw,cw⟩|hw
  ·obtain⟨z,hz,e⟩:=mem_map.mp (A.sub w hw);exact put (m,z.2) ((h _).mpr (.inl ⟨z,hz,by rw[e];exact cw,rfl⟩))
  ·obtain⟨z,hz,e⟩:=mem_map.mp (B.sub m hw);have:=put z ((h _).mpr (.inr hz));rw[e] at this;exact this
theorem SK.vM(A:SK L c Bs Ts kn tk (R.take n) zs ws)(B:SK L c Bs Ts kn' tk' R zs' ws')(hL:2<=L)(fH:L<=26)(hn:n<=R.length)(few:R.length<=100)(hB:Bs.length<=31)(hT:Ts.length<=31)(hc:c<=1000):Dr L n R zs ws zs' ws':=by
 have O:∀r∈R,bu L r:=λr hr=>(B.ro r hr).1;have a:=A.nf.len hL λr hr=>(A.ro r hr).1;have b:=B.nf.len hL O;have zm:∀m∈zs.map (·.1),Mark L m/\m.length<=30000:=λm hm=>by
  obtain⟨z,hz,rfl⟩:=mem_map.mp hm;obtain⟨m1,m2,_⟩:=A.mar z hz;rw[length_take] at m2;exact⟨m1,by omega⟩
 refine⟨hL,fH,hn,few,O,λm hm=>?_,by omega,by omega,by omega⟩
 rcases mem_append.mp hm with h|h
 ·exact zm m h
 ·exact zm m (A.sub m h)
end
theorem iT.keep{x pr pt:Addr}(S:iT C H x dx pr pt pk L h j kvs ks)(k:Keeps F H H')(n1:x∉F)(n2:dx∉F)(n3:pt∉F)(n4:pk∉F):iT C H' x dx pr pt pk L h j kvs ks:=
 ⟨k _ _ S.ins n1,k _ _ S.own n2,k _ _ S.tho n3,k _ _ S.tak n4,S.apart⟩
theorem FQ.keep{pr:Addr}{R:Uh (Uh bQ)}(A:FQ H pr as R)(k:Keeps F H H')(ht:∀t∈F,∀ys,H t≠some (.tup ys))(n1:pr∉F)(n2:∀a∈as,a∉F):FQ H' pr as R:=
 ⟨k _ _ A.lst n1,A.row.keep k ht n2,A.out⟩
theorem bw.mem{R:Uh (Uh bQ)}(h:bw H as R)(ha:a∈as):∃xs,H a=some (.lst xs):=by
 obtain⟨i,hi,e⟩:=mem_iff_getElem.mp ha;obtain⟨r,xs,_,e2,_⟩:=h.get (i:=i) (a:=a) (by rw[getElem?_eq_getElem hi,e]);exact⟨xs,e2⟩
structure HR where
 (x dx pr pt pk:Addr) (as:Uh Addr) (j n:Nat) (kvs:Ue) (ks:Ud) (kn tk:Nat->Prop)
def zS(f:Nat->HR)(i:Nat)(r:HR):Nat->HR:=λk=>if k=i then r else f k
theorem aK{f:Nat->HR}{r:HR}:zS f i r i=r:=if_pos rfl
theorem aU{f:Nat->HR}{k:Nat}{r:HR}(h:k≠i):zS f i r k=f k:=if_neg h
structure iz(C:Addr)(H0 H:Hp)(L h c:Nat)(Bs:Uh uH)(Ts:Uh uI)(RR:Uh (Uh bQ))(N:Nat)(f:Nat->HR):Prop where
 hnd:∀i,i<N->iT C H (f i).x (f i).dx (f i).pr (f i).pt (f i).pk L h (f i).j (f i).kvs (f i).ks
 ren:∀i,i<N->FQ H (f i).pr (f i).as (RR.take (f i).n)
 hk:∀i,i<N->HK L c Bs Ts (f i).kn (f i).tk (RR.take (f i).n) (f i).kvs (f i).ks
 kb:∀i,i<N->∀k,(f i).kn k->k<Bs.length
 tb:∀i,i<N->∀k,(f i).tk k->k<Ts.length
 nl:∀i,i<N->(f i).n<=RR.length
 n0:(f 0).n=RR.length
 hs:∀i,i<N->jX L h (f i).j
 j0:(f 0).j=0
 pos:0<N
 ax:∀i,i<N->∀k,k<N->i≠k->(f i).x≠(f k).x
 at_:∀i,i<N->∀k,k<N->i≠k->(f i).pt≠(f k).pt
 ak:∀i,i<N->∀k,k<N->i≠k->(f i).pk≠(f k).pk
 atk:∀i,i<N->∀k,k<N->(f i).pt≠(f k).pk
 ar:∀i,i<N->i≠0->(f i).pr≠(f 0).pr
 aa:∀i,i<N->¬(f 0).pr∈(f i).as
 bs:aF H0 H
 f0:∀i,i<N->H0 (f i).x=none/\H0 (f i).pt=none/\H0 (f i).pk=none/\H0 (f i).pr=none
section
variable{C:Addr}{H0 H H':Hp}{L h c c':Nat}{Bs Bx:Uh uH}{Ts Tx:Uh uI}{RR Rx:Uh (Uh bQ)}{N i0:Nat}{f:Nat->HR}{F:Uh Addr}{r:HR}
theorem n5{o u:HO}(e:H a=some o)(g:H b=some u)(n:o≠u):a≠b:=λz=>by
 subst z;rw[e] at g;exact n (Option.some.inj g)
theorem iz.same(T:iz C H0 H L h c Bs Ts RR N f)(s:aF H H'):iz C H0 H' L h c Bs Ts RR N f:=
 {T with hnd:=λi hi=>(T.hnd i hi).same s,ren:=λi hi=>(T.ren i hi).same s,bs:=T.bs.trans s}
def Wr(f:Nat->HR)(i0:Nat)(F:Uh Addr):Prop:=∀t∈F,t=(f i0).x\/t=(f i0).pt\/t=(f i0).pk\/(t=(f i0).pr/\i0=0)
theorem iz.Dv(T:iz C H0 H L h c Bs Ts RR N f)(hi0:i0<N)(hF:Wr f i0 F):∀t∈F,∀ys,H t≠some (.tup ys):=λt ht ys e=>by
 have S:=T.hnd i0 hi0
 rcases hF t ht with z|z|z|⟨z,_⟩
 ·exact n5 e S.ins (λq=>by cases q) z
 ·exact n5 e S.tho (λq=>by cases q) z
 ·exact n5 e S.tak (λq=>by cases q) z
 ·exact n5 e (T.ren i0 hi0).lst (λq=>by cases q) z
theorem iz.out(T:iz C H0 H L h c Bs Ts RR N f)(hi0:i0<N)(hF:Wr f i0 F)(hi:i<N)(ne:i≠i0):
  (f i).x∉F/\(f i).dx∉F/\(f i).pt∉F/\(f i).pk∉F/\(f i).pr∉F/\∀a∈(f i).as,a∉F:=by
 have S:=T.hnd i0 hi0;have S':=T.hnd i hi;have A:=T.ren i0 hi0;have A':=T.ren i hi;refine⟨λz=>?_,λz=>?_,λz=>?_,λz=>?_,λz=>?_,λa ha z=>?_⟩
 ·rcases hF _ z with z|z|z|⟨z,_⟩
  ·exact T.ax i hi i0 hi0 ne z
  ·exact n5 S'.ins S.tho (λq=>by cases q) z
  ·exact n5 S'.ins S.tak (λq=>by cases q) z
  ·exact n5 S'.ins A.lst (λq=>by cases q) z
 ·rcases hF _ z with z|z|z|⟨z,_⟩
  ·exact n5 S'.own S.ins (λq=>by cases q) z
  ·exact n5 S'.own S.tho (λq=>by cases q) z
  ·exact n5 S'.own S.tak (λq=>by cases q) z
  ·exact n5 S'.own A.lst (λq=>by cases q) z
 ·rcases hF _ z with z|z|z|⟨z,_⟩
  ·exact n5 S'.tho S.ins (λq=>by cases q) z
  ·exact T.at_ i hi i0 hi0 ne z
  ·exact T.atk i hi i0 hi0 z
  ·exact n5 S'.tho A.lst (λq=>by cases q) z
 ·rcases hF _ z with z|z|z|⟨z,_⟩
  ·exact n5 S'.tak S.ins (λq=>by cases q) z
  ·exact T.atk i0 hi0 i hi z.symm
  ·exact T.ak i hi i0 hi0 ne z
  ·exact n5 S'.tak A.lst (λq=>by cases q) z
 ·rcases hF _ z with z|z|z|⟨z,e⟩
  ·exact n5 A'.lst S.ins (λq=>by cases q) z
  ·exact n5 A'.lst S.tho (λq=>by cases q) z
  ·exact n5 A'.lst S.tak (λq=>by cases q) z
  ·subst e;exact T.ar i hi ne z
 ·obtain⟨xs,e⟩:=A'.row.mem ha
  rcases hF _ z with z|z|z|⟨z,e0⟩
  ·exact n5 e S.ins (λq=>by cases q) z
  ·exact n5 e S.tho (λq=>by cases q) z
  ·exact n5 e S.tak (λq=>by cases q) z
  ·subst e0;exact T.aa i hi (by rw[<-z];exact ha)
theorem fresh_ne{o:HO}(e:H a=some o)(g:H b=none):a≠b:=λz=>by subst z;rw[e] at g;cases g
theorem iz.move(T:iz C H0 H L h c Bs Ts RR N f)(hi0:i0<N)(k:Keeps F H H')(hF:Wr f i0 F)(rx:r.x=(f i0).x)(rj:r.j=(f i0).j)
  (S:iT C H' r.x r.dx r.pr r.pt r.pk L h r.j r.kvs r.ks) (A:FQ H' r.pr r.as ((RR++Rx).take r.n)) (W:HK L c' (Bs++Bx) (Ts++Tx) r.kn r.tk ((RR++Rx).take r.n) r.kvs r.ks) (hc:c<=c')
  (kb:∀k,r.kn k->k<(Bs++Bx).length) (tb:∀k,r.tk k->k<(Ts++Tx).length) (rn:r.n<=(RR++Rx).length) (n0:i0=0->r.n=(RR++Rx).length) (r0:i0≠0->Rx=[])
  (fpt:r.pt=(f i0).pt\/H r.pt=none) (fpk:r.pk=(f i0).pk\/H r.pk=none) (fpr:r.pr=(f i0).pr\/H r.pr=none) (fas:∀a∈r.as,a∈(f i0).as\/H a=none):
  iz C H0 H' L h c' (Bs++Bx) (Ts++Tx) (RR++Rx) N (zS f i0 r):=by
 have tk:∀i,i<N->(RR++Rx).take (f i).n=RR.take (f i).n:=λi hi=>List.take_append_of_le_length (T.nl i hi);have S0:=T.hnd i0 hi0;have g0:=T.f0 i0 hi0;have upt:∀i,i<N->i≠i0->(f i).pt≠r.pt/\(f i).pk≠r.pt:=λi hi ne=>by
  rcases fpt with e|e
  ·rw[e];exact⟨T.at_ i hi i0 hi0 ne,λz=>T.atk i0 hi0 i hi z.symm⟩
  ·exact⟨fresh_ne (T.hnd i hi).tho e,fresh_ne (T.hnd i hi).tak e⟩
 have upk:∀i,i<N->i≠i0->(f i).pk≠r.pk/\(f i).pt≠r.pk:=λi hi ne=>by
  rcases fpk with e|e
  ·rw[e];exact⟨T.ak i hi i0 hi0 ne,T.atk i hi i0 hi0⟩
  ·exact⟨fresh_ne (T.hnd i hi).tak e,fresh_ne (T.hnd i hi).tho e⟩
 have free:∀{b:Addr},H b=none->H0 b=none:=λe=>T.bs.bW e;have f0':H0 r.x=none/\H0 r.pt=none/\H0 r.pk=none/\H0 r.pr=none:=by
  refine⟨by rw[rx];exact g0.1,?_,?_,?_⟩
  ·rcases fpt with e|e
   ·rw[e];exact g0.2.1
   ·exact free e
  ·rcases fpk with e|e
   ·rw[e];exact g0.2.2.1
   ·exact free e
  ·rcases fpr with e|e
   ·rw[e];exact g0.2.2.2
   ·exact free e
 have hF0:∀t∈F,H0 t=none:=λt ht=>by
  rcases hF t ht with z|z|z|⟨z,_⟩<;>rw[z]
  ·exact g0.1
  ·exact g0.2.1
  ·exact g0.2.2.1
  ·exact g0.2.2.2
 refine {hnd:=λi hi=>?_,ren:=λi hi=>?_,hk:=λi hi=>?_,kb:=λi hi=>?_,tb:=λi hi=>?_,nl:=λi hi=>?_,n0:=?_,hs:=λi hi=>?_,j0:=?_,pos:=T.pos,ax:=λi hi k hk ne=>?_,at_:=λi hi k hk ne=>?_,ak:=λi hi k hk ne=>?_,atk:=λi hi k hk=>?_,ar:=λi hi ne=>?_,aa:=λi hi=>?_,bs:=dG T.bs k hF0,f0:=λi hi=>?_}
 ·by_cases e:i=i0
  ·subst e;rw[aK];exact S
  ·rw[aU e];obtain⟨o1,o2,o3,o4,_,_⟩:=T.out hi0 hF hi e;exact(T.hnd i hi).keep k o1 o2 o3 o4
 ·by_cases e:i=i0
  ·subst e;rw[aK];exact A
  ·rw[aU e,tk i hi];obtain⟨_,_,_,_,o5,o6⟩:=T.out hi0 hF hi e;exact(T.ren i hi).keep k (T.Dv hi0 hF) o5 o6
 ·by_cases e:i=i0
  ·subst e;rw[aK];exact W
  ·rw[aU e,tk i hi];exact(T.hk i hi).grow (T.kb i hi) (T.tb i hi) Bx Tx hc
 ·by_cases e:i=i0
  ·subst e;rw[aK];exact kb
  ·rw[aU e,length_append];intro k hk;have:=T.kb i hi k hk;omega
 ·by_cases e:i=i0
  ·subst e;rw[aK];exact tb
  ·rw[aU e,length_append];intro k hk;have:=T.tb i hi k hk;omega
 ·by_cases e:i=i0
  ·subst e;rw[aK];exact rn
  ·rw[aU e,length_append];have:=T.nl i hi;omega
 ·by_cases e:(0:Nat)=i0
  ·subst e;rw[aK];exact n0 rfl
  ·rw[aU e,r0 (λz=>e z.symm),append_nil];exact T.n0
 ·by_cases e:i=i0
  ·subst e;rw[aK,rj];exact T.hs i hi
  ·rw[aU e];exact T.hs i hi
 ·by_cases e:(0:Nat)=i0
  ·subst e;rw[aK,rj];exact T.j0
  ·rw[aU e];exact T.j0
 ·by_cases e:i=i0
  ·subst e;rw[aK,aU (Ne.symm ne),rx];exact T.ax i hi k hk ne
  ·rw[aU e]
   by_cases e2:k=i0
   ·subst e2;rw[aK,rx];exact T.ax i hi k hk ne
   ·rw[aU e2];exact T.ax i hi k hk ne
 ·by_cases e:i=i0
  ·subst e;rw[aK,aU (Ne.symm ne)];exact Ne.symm (upt k hk (Ne.symm ne)).1
  ·rw[aU e]
   by_cases e2:k=i0
   ·subst e2;rw[aK];exact(upt i hi e).1
   ·rw[aU e2];exact T.at_ i hi k hk ne
 ·by_cases e:i=i0
  ·subst e;rw[aK,aU (Ne.symm ne)];exact Ne.symm (upk k hk (Ne.symm ne)).1
  ·rw[aU e]
   by_cases e2:k=i0
   ·subst e2;rw[aK];exact(upk i hi e).1
   ·rw[aU e2];exact T.ak i hi k hk ne
 ·by_cases e:i=i0
  ·subst e;rw[aK]
   by_cases e2:k=i
   ·subst e2;rw[aK];exact S.apart
   ·rw[aU e2];exact Ne.symm (upt k hk e2).2
  ·rw[aU e]
   by_cases e2:k=i0
   ·subst e2;rw[aK];exact(upk i hi e).2
   ·rw[aU e2];exact T.atk i hi k hk
 ·by_cases e:i=i0
  ·subst e;rw[aK,aU (Ne.symm ne)]
   rcases fpr with z|z
   ·rw[z];exact T.ar i hi ne
   ·exact Ne.symm (fresh_ne (T.ren 0 T.pos).lst z)
  ·rw[aU e]
   by_cases e2:(0:Nat)=i0
   ·subst e2;rw[aK]
    rcases fpr with z|z
    ·rw[z];exact T.ar i hi ne
    ·exact fresh_ne (T.ren i hi).lst z
   ·rw[aU e2];exact T.ar i hi ne
 ·by_cases e2:(0:Nat)=i0
  ·subst e2;rw[aK]
   by_cases e:i=0
   ·subst e;rw[aK];exact A.out
   ·rw[aU e]
    rcases fpr with z|z
    ·rw[z];exact T.aa i hi
    ·intro y;obtain⟨xs,w⟩:=(T.ren i hi).row.mem y;rw[z] at w;cases w
  ·rw[aU e2]
   by_cases e:i=i0
   ·subst e;rw[aK];intro y
    rcases fas _ y with z|z
    ·exact T.aa i hi z
    ·rw[(T.ren 0 T.pos).lst] at z;cases z
   ·rw[aU e];exact T.aa i hi
 ·by_cases e:i=i0
  ·subst e;rw[aK];exact f0'
  ·rw[aU e];exact T.f0 i hi
def O7(pr:Addr)(H H':Hp):Prop:=∀b,b≠pr->(∀xs,H b=some (.lst xs)->H' b=some (.lst xs))/\∀xs,H b=some (.tup xs)->H' b=some (.tup xs)
theorem iz.klt(T:iz C H0 H L h c Bs Ts RR N f)(hi0:i0<N)(k:Keeps F H H')(hF:Wr f i0 F):O7 (f 0).pr H H':=λb ne=>by
 have S:=T.hnd i0 hi0;refine⟨λxs e=>k _ _ e λz=>?_,λxs e=>k _ _ e λz=>T.Dv hi0 hF b z xs e⟩
 rcases hF _ z with z|z|z|⟨z,e0⟩
 ·exact n5 e S.ins (λq=>by cases q) z
 ·exact n5 e S.tho (λq=>by cases q) z
 ·exact n5 e S.tak (λq=>by cases q) z
 ·subst e0;exact ne z
end
section
variable{C:Addr}{H0 H H':Hp}{L h c c':Nat}{Bs:Uh uH}{Ts:Uh uI}{RR:Uh (Uh bQ)}{N i:Nat}{f:Nat->HR}{Q:VK}{E:XK}
theorem iz.rl(T:iz C H0 H L h c Bs Ts RR N f)(hi:i<N):(RR.take (f i).n).length=(f i).n:=by rw[length_take,min_eq_left (T.nl i hi)]
theorem iz.put{ct:Addr}{t:Uc}{p:Int}(T:iz C H0 H L h c Bs Ts RR N f)(hi:i<N)(hB:Bs.length<=62)(hb:c+8*RR.length<=998)(th:Thing t)
  (q:∀zs,jZ (f i).kvs (f i).ks zs->(0<=p/\p<=zs.length)/\∀H' v n w m,jD (f i).kvs (gu zs p.toNat) v->Found L (bB L h (f i).j) (gu zs p.toNat) v n w m->
   iz C H0 H' L h (c+1) (Bs++[((f i).n,m,t)]) Ts RR N (zS f i {f i with kvs:=(f i).kvs++[(m,t)],kn:=λk=>(f i).kn k\/k=Bs.length})->O7 (f 0).pr H H'->Q (.str (txt m)) H'):
  lg C ct cp [.ref (f i).x,.int p,.str (txt t)] H Q E:=by
 have W:=T.hk i hi;have rl:=T.rl hi;have nl:=T.nl i hi;refine⟨(f i).x,(f i).dx,(f i).pr,(f i).pt,(f i).pk,L,h,(f i).j,(f i).kvs,(f i).ks,Bs.length,c+8*(RR.take (f i).n).length,p,t,rfl,T.hnd i hi,T.hs i hi,W.kw,hB,by omega,Nat.le_trans th.2.1 (by decide),λz=>absurd th z,λzs sh=>⟨λ_ _ H' v n w m k F1 F2 S K=>?_,λ_ z=>absurd (q zs sh).1 z⟩⟩
 have mm:=K.mar (m,t) (mem_append_right _ mem_cons_self);have nm:¬m∈(f i).kvs.map (·.1):=λz=>by
  have:=K.nd;rw[map_append,nodup_append] at this;exact this.2.2 m z m mem_cons_self rfl
 have W2:=W.put (T.kb i hi) (T.tb i hi) mm.1 mm.2.1 th nm;rw[rl] at W2;have hF:Wr f i [(f i).pt]:=λt ht=>.inr (.inl (mem_singleton.mp ht));have rk:=(T.ren i hi).keep k (T.Dv hi hF) (λz=>n5 (T.ren i hi).lst (T.hnd i hi).tho (λq=>by cases q) (mem_singleton.mp z)) λa ha z=>by
  obtain⟨xs,e⟩:=(T.ren i hi).row.mem ha;exact n5 e (T.hnd i hi).tho (λq=>by cases q) (mem_singleton.mp z)
 have M:=T.move (Bx:=[((f i).n,m,t)]) (Tx:=[]) (Rx:=[]) (c':=c+1) (r:={f i with kvs:=(f i).kvs++[(m,t)],kn:=λk=>(f i).kn k\/k=Bs.length}) hi k hF rfl rfl S (by rw[append_nil];exact rk) (by rw[append_nil,append_nil];exact W2) (le_succ c)
  (λk hk=>by
   rw[length_append]
   rcases hk with hk|hk
   ·have:=T.kb i hi k hk;omega
   ·rw[hk];simp) (by rw[append_nil];exact T.tb i hi) (by rw[append_nil];exact nl) (λz=>by subst z;rw[append_nil];exact T.n0) (λ_=>rfl) (.inl rfl) (.inl rfl) (.inl rfl) λa ha=>.inl ha
 rw[append_nil,append_nil] at M;exact(q zs sh).2 H' v n w m F1 F2 M (T.klt hi k hF)
theorem HK.tl{Bs:Uh uH}{Ts:Uh uI}{kn tk:Nat->Prop}{R:Uh (Uh bQ)}(W:HK L c Bs Ts kn tk R kvs ks):kvs.length<=Bs.length/\ks.length<=Bs.length:=by
 have:=fQ W.kw.tnd W.kw.sub;rw[length_map] at this;have:=W.kw.few;omega
theorem iz.take{p:Int}(T:iz C H0 H L h c Bs Ts RR N f)(hi:i<N)(hB:Bs.length<=62)
  (q:∀zs,jZ (f i).kvs (f i).ks zs->(0<=p/\p<zs.length)/\∀H' m,zs[p.toNat]?=some m->
   iz C H0 H' L h c Bs (Ts++[((f i).n,m)]) RR N (zS f i {f i with ks:=(f i).ks++[m],tk:=λk=>(f i).tk k\/k=Ts.length})->O7 (f 0).pr H H'->Q (.str (txt m)) H'):
  nU C cp [.ref (f i).x,.int p] H Q E:=by
 have W:=T.hk i hi;have rl:=T.rl hi;have nl:=T.nl i hi;have tl:=W.tl;refine⟨(f i).x,(f i).dx,(f i).pr,(f i).pt,(f i).pk,L,h,(f i).j,(f i).kvs,(f i).ks,p,rfl,T.hnd i hi,by omega,W.kw.nd,by omega,λzs sh=>⟨λ_ H' m em k S=>?_,λz=>absurd (q zs sh).1 z⟩⟩
 have mm:=(sh.mem m).mp (mem_of_getElem? em);have W2:=W.take (T.kb i hi) (T.tb i hi) mm.1 mm.2;rw[rl] at W2;have hF:Wr f i [(f i).pk]:=λt ht=>.inr (.inr (.inl (mem_singleton.mp ht)));have rk:=(T.ren i hi).keep k (T.Dv hi hF) (λz=>n5 (T.ren i hi).lst (T.hnd i hi).tak (λq=>by cases q) (mem_singleton.mp z)) λa ha z=>by
  obtain⟨xs,e⟩:=(T.ren i hi).row.mem ha;exact n5 e (T.hnd i hi).tak (λq=>by cases q) (mem_singleton.mp z)
 have M:=T.move (Bx:=[]) (Tx:=[((f i).n,m)]) (Rx:=[]) (c':=c) (r:={f i with ks:=(f i).ks++[m],tk:=λk=>(f i).tk k\/k=Ts.length}) hi k hF rfl rfl S (by rw[append_nil];exact rk) (by rw[append_nil,append_nil];exact W2) (le_refl c)
  (by rw[append_nil];exact T.kb i hi) (λk hk=>by
   rw[length_append]
   rcases hk with hk|hk
   ·have:=T.tb i hi k hk;omega
   ·rw[hk];simp) (by rw[append_nil];exact nl) (λz=>by subst z;rw[append_nil];exact T.n0) (λ_=>rfl) (.inl rfl) (.inl rfl) (.inl rfl) λa ha=>.inl ha
 rw[append_nil,append_nil] at M;exact(q zs sh).2 H' m em M (T.klt hi k hF)
theorem iz.qD{ch:Addr}(T:iz C H0 H L h c Bs Ts RR N f)(hB:Bs.length<=60)(hb:c+8*RR.length<=500)(hR:RR.length<=1000)
  (q:∀H' zs n pt' pk' r ys a,Ae (f 0).kvs zs->fE L (cZ (nX zs (f 0).ks)) n->
   iz C H0 H' L h c Bs Ts (RR++[dj L zs (f 0).ks n]) N (zS f 0 {f 0 with pt:=pt',pk:=pk',as:=(f 0).as++[r],n:=RR.length+1,kvs:=fm (f 0).kvs (dj L zs (f 0).ks n),ks:=[] })->O7 (f 0).pr H H'->
   H' a=some (.lst ys)->d9 H' ys ((dj L zs (f 0).ks n).map nQ)->H a=none->a≠r->H r=none->Q (.ref a) H'):
  g8 C ch [.ref (f 0).x] H Q E:=by
 have hi:=T.pos;have W:=T.hk 0 hi;have rl:=T.rl hi;have e0:RR.take (f 0).n=RR:=by rw[T.n0,take_length]
 have d:=(T.hs 0 hi).l2;have A:=T.ren 0 hi;rw[e0] at W A;refine⟨(f 0).x,(f 0).dx,(f 0).pr,(f 0).pt,(f 0).pk,L,h,(f 0).j,(f 0).kvs,(f 0).ks,Bs.length,c+8*RR.length,(f 0).as,RR,rfl,T.hnd 0 hi,T.hs 0 hi,W.kw,by omega,A,hR,λz=>absurd T.j0 z,λ_ H' zs n pt' pk' r ys a AK IR k S A' e1 e2 g1 g2 g3 g4 ne=>?_⟩;have W2:=W.qD d hB hb AK IR;have hF:Wr f 0 [(f 0).x,(f 0).pr]:=λt ht=>by
  rcases mem_cons.mp ht with e|e
  ·exact .inl e
  ·exact .inr (.inr (.inr ⟨mem_singleton.mp e,rfl⟩))
 have tl:(RR++[dj L zs (f 0).ks n]).take (RR.length+1)=RR++[dj L zs (f 0).ks n]:=List.take_of_length_le (by simp);have M:=T.move (Bx:=[]) (Tx:=[]) (Rx:=[dj L zs (f 0).ks n]) (c':=c) (r:={f 0 with pt:=pt',pk:=pk',as:=(f 0).as++[r],n:=RR.length+1,kvs:=fm (f 0).kvs (dj L zs (f 0).ks n),ks:=[] }) hi k hF rfl rfl S (by rw[tl];exact A') (by rw[tl,append_nil,append_nil];exact W2) (le_refl c)
  (by rw[append_nil];exact T.kb 0 hi) (by rw[append_nil];exact T.tb 0 hi) (by simp) (λ_=>by simp) (λz=>absurd rfl z) (.inr g1) (.inr g2) (.inl rfl) λa ha=>by
   rcases mem_append.mp ha with h|h
   ·exact .inl h
   ·rw[mem_singleton.mp h];exact .inr g3
 rw[append_nil,append_nil] at M;exact q H' zs n pt' pk' r ys a AK IR M (T.klt hi k hF) e1 e2 g4 ne g3
theorem iz.state(T:iz C H0 H L h c Bs Ts RR N f)(hi:i<N)(hB:Bs.length<=62)(hR:RR.length<=10000)
  (q:∀H' p p1 p2 p3 bs ts zs ws,aF H H'->Told (f i).kvs (f i).ks zs ws->lq H' p p1 p2 p3 bs ts L h (RR.take (f i).n) zs ws->(p::p1::p2::p3::bs).Nodup->(∀b∈p::p1::p2::p3::bs,H b=none)->
   SK L c Bs Ts (f i).kn (f i).tk (RR.take (f i).n) zs ws->Q (.ref p) H'):
  eW C [.ref (f i).x] H Q E:=by
 have W:=T.hk i hi;have rl:=T.rl hi;have nl:=T.nl i hi;have tl:=W.tl;exact⟨(f i).x,(f i).dx,(f i).pr,(f i).pt,(f i).pk,L,h,(f i).j,(f i).kvs,(f i).ks,(f i).as,RR.take (f i).n,rfl,T.hnd i hi,by omega,W.kw.nd,by omega,W.kw.tnd,(T.ren i hi).lst,(T.ren i hi).row,by omega,λH' p p1 p2 p3 bs ts zs ws s TD A nd fr=>q H' p p1 p2 p3 bs ts zs ws s TD A nd fr (W.told TD)⟩
theorem SK.iff{kn tk kn' tk':Nat->Prop}{R:Uh (Uh bQ)}(A:SK L c Bs Ts kn tk R zs ws)(e:∀k,kn k↔kn' k)(g:∀k,tk k↔tk' k):SK L c Bs Ts kn' tk' R zs ws:=by
 rw[<-show kn=kn' from funext λk=>propext (e k),<-show tk=tk' from funext λk=>propext (g k)];exact A
theorem uC{α:Type}{R:Uh α}{a b:Nat}(h:a<=b):R.take (max a b)=R.take b:=by rw[Nat.max_eq_right h]
theorem qd{α:Type}{R:Uh α}{a b:Nat}(h:b<=a):R.take (max a b)=R.take a:=by rw[Nat.max_eq_left h]
theorem iz.lay{bs:Uh Addr}{m:Nat}{kn' tk':Nat->Prop}(T:iz C H0 H L h c Bs Ts RR N f)(hi:i<N)
  (A:lq H p p1 p2 p3 bs ts L h (RR.take m) zs' ws') (B:SK L c Bs Ts kn' tk' (RR.take m) zs' ws') (hm:m<=RR.length) (kb:∀k,kn' k->k<Bs.length) (tb:∀k,tk' k->k<Ts.length)
  (hB:Bs.length<=31) (hT:Ts.length<=31) (hR:RR.length<=100) (hc:c<=1000)
  (q:∀H' r,r.x=(f i).x->r.j=(f i).j->r.n=max (f i).n m->(r.kn=λk=>(f i).kn k\/kn' k)->(r.tk=λk=>(f i).tk k\/tk' k)->(r.kvs.map (·.1)).Pairwise (·<·)->r.ks.Pairwise (·<·)->H r.pr=none->(∀a∈r.as,H a=none)->iz C H0 H' L h c Bs Ts RR N (zS f i r)->O7 (f 0).pr H H'->Q .non H'):
  gv K C [.ref (f i).x,.ref p] H Q E:=by
 have W:=T.hk i hi;have rl:=T.rl hi;have nl:=T.nl i hi;have tl:=W.tl;have d:=(T.hs i hi).l2;have d':=(T.hs i hi).l26;have ml:(RR.take m).length=m:=by rw[length_take,min_eq_left hm]
 refine⟨(f i).x,(f i).dx,(f i).pr,(f i).pt,(f i).pk,p,p1,p2,p3,L,h,(f i).j,(f i).kvs,(f i).ks,(f i).as,bs,ts,RR.take (f i).n,RR.take m,zs',ws',rfl,T.hnd i hi,by omega,W.kw.nd,by omega,W.kw.tnd,T.ren i hi,by omega,A,?_,λH' zs ws R n pr' pt' pk' as' xs js TD k S A' g1 g2 g3 g4 up1 up2 way=>?_⟩
 ·rcases Nat.le_total (f i).n m with z|z
  ·refine .inl ⟨(f i).n,by rw[take_take,min_eq_left z],λzs ws TD=>?_⟩;have S1:=W.told TD;rw[show RR.take (f i).n=(RR.take m).take (f i).n by rw[take_take,min_eq_left z]] at S1
   exact S1.vM B d d' (by omega) (by omega) hB hT hc
  ·rcases lt_or_ge m (f i).n with y|y
   ·refine .inr ⟨m,by omega,by rw[take_take,min_eq_left z],λzs ws TD=>?_⟩;have S1:=W.told TD;rw[show RR.take m=(RR.take (f i).n).take m by rw[take_take,min_eq_left z]] at B
    exact B.vM S1 d d' (by omega) (by omega) hB hT hc
   ·have e:m=(f i).n:=by omega
    subst e;refine .inl ⟨(f i).n,by rw[take_take,Nat.min_self],λzs ws TD=>?_⟩;have S1:=W.told TD;rw[show RR.take (f i).n=(RR.take (f i).n).take (f i).n by rw[take_take,Nat.min_self]] at S1
    exact S1.vM B d d' (by omega) (by omega) hB hT hc
 ·have fin:R=RR.take (max (f i).n m)/\SK L c Bs Ts (λk=>(f i).kn k\/kn' k) (λk=>(f i).tk k\/tk' k) R xs js:=by
   have S1:=W.told TD
   rcases way with⟨e,e1,ln,la⟩|⟨e,e1,ln,la⟩
   ·have en:=congrArg List.length e1;rw[rl,length_take,ml,min_eq_left (by omega)] at en;subst en;rw[ml] at ln;rw[e1] at S1;refine⟨by rw[e,uC ln],?_⟩;rw[e];exact S1.join B d (by omega) la
   ·have en:=congrArg List.length e1;rw[ml,length_take,rl,min_eq_left (by omega)] at en;subst en;rw[rl] at ln;rw[e1] at B;refine⟨by rw[e,qd ln],?_⟩;rw[e];exact(B.join S1 d (by omega) la).iff (λk=>Or.comm) λk=>Or.comm
  obtain⟨eR,SJ⟩:=fin;have mx:max (f i).n m<=RR.length:=by omega
  have hF:Wr f i [(f i).x]:=λt ht=>.inl (mem_singleton.mp ht);rw[eR] at SJ A';have M:=T.move (Bx:=[]) (Tx:=[]) (Rx:=[]) (c':=c) (r:={f i with pr:=pr',pt:=pt',pk:=pk',as:=as',n:=max (f i).n m,kvs:=xs,ks:=js,kn:=λk=>(f i).kn k\/kn' k,tk:=λk=>(f i).tk k\/tk' k}) hi k hF rfl rfl S (by rw[append_nil];exact A') (by rw[append_nil,append_nil,append_nil];exact SJ.hk d) (le_refl c)
   (λk hk=>by
    rw[append_nil]
    rcases hk with hk|hk
    ·exact T.kb i hi k hk
    ·exact kb k hk)
   (λk hk=>by
    rw[append_nil]
    rcases hk with hk|hk
    ·exact T.tb i hi k hk
    ·exact tb k hk) (by rw[append_nil];exact mx) (λz=>by
    rw[append_nil];show max (f i).n m=_;have:=T.n0;subst z;omega) (λ_=>rfl) (.inr g2) (.inr g3) (.inr g1) λa ha=>.inr (g4 a ha)
  rw[append_nil,append_nil,append_nil] at M;exact q H' {f i with pr:=pr',pt:=pt',pk:=pk',as:=as',n:=max (f i).n m,kvs:=xs,ks:=js,kn:=λk=>(f i).kn k\/kn' k,tk:=λk=>(f i).tk k\/tk' k} rfl rfl rfl rfl rfl up1 up2 g1 g4 M (T.klt hi k hF)
end
structure qG(H:Hp)(L h c:Nat)(Bs:Uh uH)(Ts:Uh uI)(RR:Uh (Uh bQ))(p:Addr)(os:Uh Addr)(kn tk:Nat->Prop)(n:Nat):Prop where
 ex:∃p1 p2 p3 bs ts zs ws,os=p1::p2::p3::bs/\lq H p p1 p2 p3 bs ts L h (RR.take n) zs ws/\SK L c Bs Ts kn tk (RR.take n) zs ws
 nl:n<=RR.length
 kb:∀k,kn k->k<Bs.length
 tb:∀k,tk k->k<Ts.length
structure Gi(L h c:Nat)(Bs:Uh uH)(Ts:Uh uI)(RR:Uh (Uh bQ)):Prop where
 l2:2<=L
 l26:L<=26
 h1:1<=h
 hL:h+1<=L
 hB:Bs.length<=31
 hT:Ts.length<=31
 hR:RR.length<=31
 hc:c<=31
section
variable{C:Addr}{H0 H H':Hp}{L h c:Nat}{Bs:Uh uH}{Ts:Uh uI}{RR:Uh (Uh bQ)}{N i:Nat}{f:Nat->HR}{Q:VK}{E:XK}{p q:Addr}{os us:Uh Addr}{kn tk kn' tk':Nat->Prop}{n n':Nat}
theorem qG.same(A:qG H L h c Bs Ts RR p os kn tk n)(s:aF H H'):qG H' L h c Bs Ts RR p os kn tk n:=by
 obtain⟨⟨p1,p2,p3,bs,ts,zs,ws,e,S,K⟩,a,b,d⟩:=A;exact⟨⟨p1,p2,p3,bs,ts,zs,ws,e,S.same s,K⟩,a,b,d⟩
theorem qG.iff(A:qG H L h c Bs Ts RR p os kn tk n)(e:∀k,kn k↔kn' k)(g:∀k,tk k↔tk' k)(en:n=n'):qG H L h c Bs Ts RR p os kn' tk' n':=by
 rw[<-show kn=kn' from funext λk=>propext (e k),<-show tk=tk' from funext λk=>propext (g k),<-en];exact A
theorem qG.grow{Bx:Uh uH}{Tx:Uh uI}{Rx:Uh (Uh bQ)}{c':Nat}(A:qG H L h c Bs Ts RR p os kn tk n)(hc:c<=c'):qG H L h c' (Bs++Bx) (Ts++Tx) (RR++Rx) p os kn tk n:=by
 obtain⟨⟨p1,p2,p3,bs,ts,zs,ws,e,S,K⟩,a,b,d⟩:=A;have et:(RR++Rx).take n=RR.take n:=List.take_append_of_le_length a;refine⟨⟨p1,p2,p3,bs,ts,zs,ws,e,by rw[et];exact S,by rw[et];exact K.grow b d Bx Tx hc⟩,by rw[length_append];omega,λk hk=>?_,λk hk=>?_⟩
 ·rw[length_append];have:=b k hk;omega
 ·rw[length_append];have:=d k hk;omega
theorem iz.told(T:iz C H0 H L h c Bs Ts RR N f)(hi:i<N)(M:Gi L h c Bs Ts RR)
  (q:∀H' p os,aF H H'->qG H' L h c Bs Ts RR p os (f i).kn (f i).tk (f i).n->(∀b∈p::os,H b=none)->Q (.ref p) H'):eW C [.ref (f i).x] H Q E:=by
 have:=M.hB;have:=M.hR;exact T.state hi (by omega) (by omega) λH' p p1 p2 p3 bs ts zs ws s _ S _ fr K=>q H' p _ s ⟨⟨p1,p2,p3,bs,ts,zs,ws,rfl,S,K⟩,T.nl i hi,T.kb i hi,T.tb i hi⟩ fr
theorem qG.MA(A:qG H L h c Bs Ts RR p os kn tk n)(B:qG H L h c Bs Ts RR q us kn' tk' n')(M:Gi L h c Bs Ts RR)
  (r:∀H' o vs,aF H H'->qG H' L h c Bs Ts RR o vs (λk=>kn k\/kn' k) (λk=>tk k\/tk' k) (max n n')->(o::vs).Nodup->(∀b∈o::vs,H b=none)->Q (.ref o) H'):dh K [.ref p,.ref q] H Q E:=by
 obtain⟨⟨p1,p2,p3,bs,ts,zs,ws,rfl,S,K1⟩,a1,b1,d1⟩:=A;obtain⟨⟨q1,q2,q3,cs,vs,zs',ws',rfl,S',K2⟩,a2,b2,d2⟩:=B;have l2:=M.l2;have l26:=M.l26;have hB:=M.hB;have hT:=M.hT;have hR:=M.hR;have hc:=M.hc;have e1:(RR.take n).length=n:=by rw[length_take,min_eq_left a1]
 have e2:(RR.take n').length=n':=by rw[length_take,min_eq_left a2]
 have kk:∀k,(kn k\/kn' k)->k<Bs.length:=λk h=>h.elim (b1 k) (b2 k);have tt:∀k,(tk k\/tk' k)->k<Ts.length:=λk h=>h.elim (d1 k) (d2 k)
 rcases lt_or_ge n' n with z|z
 ·have ez:RR.take n'=(RR.take n).take n':=by rw[take_take,min_eq_left (by omega)]
  rw[ez] at S' K2;refine⟨p,q,n',RR.take n,rfl,.inr ⟨by omega,q1,q2,q3,p1,p2,p3,cs,bs,vs,ts,L,h,zs',zs,ws',ws,S',S,K2.vM K1 l2 l26 (by omega) (by omega) hB hT (by omega),λH' o o1 o2 o3 ds us xs js s SA nd fr la=>r H' o _ s ⟨⟨o1,o2,o3,ds,us,xs,js,rfl,?_,?_⟩,by omega,kk,tt⟩ nd fr⟩⟩
  ·rw[qd (by omega)];exact SA
  ·rw[qd (by omega)];exact(K2.join K1 l2 (by omega) la).iff (λk=>Or.comm) λk=>Or.comm
 ·have ez:RR.take n=(RR.take n').take n:=by rw[take_take,min_eq_left z]
  rw[ez] at S K1;refine⟨p,q,n,RR.take n',rfl,.inl ⟨p1,p2,p3,q1,q2,q3,bs,cs,ts,vs,L,h,zs,zs',ws,ws',S,S',K1.vM K2 l2 l26 (by omega) (by omega) hB hT (by omega),λH' o o1 o2 o3 ds us xs js s SA nd fr la=>r H' o _ s ⟨⟨o1,o2,o3,ds,us,xs,js,rfl,?_,?_⟩,by omega,kk,tt⟩ nd fr⟩⟩
  ·rw[uC z];exact SA
  ·rw[uC z];exact K1.join K2 l2 (by omega) la
theorem qG.laid(A:qG H L h c Bs Ts RR p os kn tk n)(B:qG H L h c Bs Ts RR q us kn' tk' n')(M:Gi L h c Bs Ts RR)
  (r:∀H' o vs,aF H H'->qG H' L h c Bs Ts RR o vs (λk=>kn k\/kn' k) (λk=>tk k\/tk' k) (max n n')->(∀b∈o::vs,H b=none)->Q (.ref o) H'):dh K [.ref p,.ref q] H Q E:=A.MA B M λH' o vs s G _ fr=>r H' o vs s G fr
theorem SK.ok{R:Uh (Uh bQ)}(A:SK L c Bs Ts kn tk R zs ws)(fH:L<=26):xH R zs ws:=
 ⟨bu.str fH λr hr=>(A.ro r hr).1,λz hz=>⟨g6 fH (A.mar z hz).1.ls,zG (A.mar z hz).2.2⟩,λw hw=>by
  obtain⟨z,hz,e⟩:=mem_map.mp (A.sub w hw);rw[<-e];exact g6 fH (A.mar z hz).1.ls⟩
theorem qG.two(A:qG H L h c Bs Ts RR p os kn tk n)(B:qG H L h c Bs Ts RR q us kn' tk' n')(e:∀k,kn k↔kn' k)(g:∀k,tk k↔tk' k)(en:n=n')(l26:L<=26):
  ∃p1 p2 p3 bs ts q1 q2 q3 cs vs zs ws,lq H p p1 p2 p3 bs ts L h (RR.take n) zs ws/\lq H q q1 q2 q3 cs vs L h (RR.take n) zs ws/\xH (RR.take n) zs ws:=by
 subst en;obtain⟨⟨p1,p2,p3,bs,ts,zs,ws,rfl,S,K1⟩,a1,b1,d1⟩:=A;obtain⟨⟨q1,q2,q3,cs,vs,zs',ws',rfl,S',K2⟩,a2,b2,d2⟩:=B;obtain⟨rfl,rfl⟩:=K1.nf.one K2.nf e g;exact⟨p1,p2,p3,bs,ts,q1,q2,q3,cs,vs,_,_,S,S',K1.ok l26⟩
end
def Nw(N:Nat)(H:Hp)(f f':Nat->HR):Prop:=∀i,i<N->((f' i).pr=(f i).pr\/H (f' i).pr=none)/\∀a∈(f' i).as,a∈(f i).as\/H a=none
theorem Nw.up{N:Nat}{f:Nat->HR}{r:HR}(h:r.pr=(f i).pr\/H r.pr=none)(g:∀a∈r.as,a∈(f i).as\/H a=none):Nw N H f (zS f i r):=λk _=>by
 by_cases z:k=i
 ·subst z;rw[aK];exact⟨h,g⟩
 ·rw[aU z];exact⟨.inl rfl,λ_ h=>.inl h⟩
theorem Nw.ne{N:Nat}{f f':Nat->HR}{o:HO}(w:Nw N H f f')(e:H p=some o)(n:∀i,i<N->p≠(f i).pr/\¬p∈(f i).as):∀i,i<N->p≠(f' i).pr/\¬p∈(f' i).as:=λi hi=>by
 obtain⟨a,b⟩:=w i hi;refine⟨?_,λz=>?_⟩
 ·rcases a with a|a
  ·rw[a];exact(n i hi).1
  ·exact fresh_ne e a
 ·rcases b p z with y|y
  ·exact(n i hi).2 y
  ·rw[e] at y;cases y
section
variable{C:Addr}{H0 H H':Hp}{L h c:Nat}{Bs:Uh uH}{Ts:Uh uI}{RR:Uh (Uh bQ)}{N:Nat}{f:Nat->HR}
theorem HK.nil:HK L 0 [] [] (λ_=>False) (λ_=>False) [] [] []:=by
 refine⟨⟨[],[],⟨.refl _,.nil,.refl _,.nil⟩,⟨⟨[],⟨.nil,λz h=>(nomatch h),λq h=>(nomatch h)⟩,λq=>⟨λh=>(nomatch h),λ⟨_,_,h,_⟩=>h.elim⟩⟩,.nil,λm=>⟨λh=>(nomatch h),λ⟨_,_,h,_⟩=>h.elim⟩,λ_ _ h=>h.elim,λ_ _ h=>h.elim⟩⟩,⟨.nil,λ_ h=>(nomatch h),le_refl _,λ_ h=>(nomatch h),.nil⟩,λr h=>(nomatch h)⟩
def F6(x dx pr pt pk:Addr)(j:Nat):HR:=⟨x,dx,pr,pt,pk,[],j,0,[],[],λ_=>False,λ_=>False⟩
theorem iz.first{x pr pt:Addr}(D:jX L h 0)(s:aF H0 H)(S:iT C H x dx pr pt pk L h 0 [] [])(e:H pr=some (.lst []))(g:H0 x=none)(g1:H0 pr=none)(g2:H0 pt=none)(g3:H0 pk=none)(ef:f 0=F6 x dx pr pt pk 0):iz C H0 H L h 0 [] [] [] 1 f:=by
 have z:∀{i},i<1->f i=F6 x dx pr pt pk 0:=λhi=>by rw[<-ef];congr 1;omega
 refine {hnd:=λi hi=>?_,ren:=λi hi=>?_,hk:=λi hi=>?_,kb:=λi hi=>?_,tb:=λi hi=>?_,nl:=λi hi=>?_,n0:=?_,hs:=λi hi=>?_,j0:=?_,pos:=Nat.one_pos,ax:=λi hi k hk ne=>by omega,at_:=λi hi k hk ne=>by omega,ak:=λi hi k hk ne=>by omega,atk:=λi hi k hk=>?_,ar:=λi hi ne=>by omega,aa:=λi hi=>?_,bs:=s,f0:=λi hi=>?_}
 ·rw[z hi];exact S
 ·rw[z hi];exact⟨e,trivial,λz=>(nomatch z)⟩
 ·rw[z hi];exact HK.nil
 ·rw[z hi];exact λ_ h=>h.elim
 ·rw[z hi];exact λ_ h=>h.elim
 ·rw[z hi];exact le_refl _
 ·rw[ef];rfl
 ·rw[z hi];exact D
 ·rw[ef];rfl
 ·rw[z hi,z hk];exact S.apart
 ·rw[z hi];exact λz=>(nomatch z)
 ·rw[z hi];exact⟨g,g2,g3,g1⟩
theorem iz.add{x pr pt:Addr}(T:iz C H0 H L h 0 [] [] [] N f)(s:aF H H')(D:jX L h j)(S:iT C H' x dx pr pt pk L h j [] [])(e:H' pr=some (.lst []))(g:H x=none)(g1:H pr=none)(g2:H pt=none)(g3:H pk=none):iz C H0 H' L h 0 [] [] [] (N+1) (zS f N (F6 x dx pr pt pk j)):=by
 have T':=T.same s;have z0:(0:Nat)≠N:=λz=>by have:=T.pos;omega
 have lt:∀{i},i<N+1->i≠N->i<N:=λa b=>by omega
 refine {hnd:=λi hi=>?_,ren:=λi hi=>?_,hk:=λi hi=>?_,kb:=λi hi=>?_,tb:=λi hi=>?_,nl:=λi hi=>?_,n0:=?_,hs:=λi hi=>?_,j0:=?_,pos:=by omega,ax:=λi hi k hk ne=>?_,at_:=λi hi k hk ne=>?_,ak:=λi hi k hk ne=>?_,atk:=λi hi k hk=>?_,ar:=λi hi ne=>?_,aa:=λi hi=>?_,bs:=T.bs.trans s,f0:=λi hi=>?_}
 ·by_cases z:i=N
  ·rw[z,aK];exact S
  ·rw[aU z];exact T'.hnd i (lt hi z)
 ·by_cases z:i=N
  ·rw[z,aK];exact⟨e,trivial,λz=>(nomatch z)⟩
  ·rw[aU z];exact T'.ren i (lt hi z)
 ·by_cases z:i=N
  ·rw[z,aK];exact HK.nil
  ·rw[aU z];exact T'.hk i (lt hi z)
 ·by_cases z:i=N
  ·rw[z,aK];exact λ_ h=>h.elim
  ·rw[aU z];exact T'.kb i (lt hi z)
 ·by_cases z:i=N
  ·rw[z,aK];exact λ_ h=>h.elim
  ·rw[aU z];exact T'.tb i (lt hi z)
 ·by_cases z:i=N
  ·rw[z,aK];exact le_refl _
  ·rw[aU z];exact T'.nl i (lt hi z)
 ·rw[aU z0];exact T.n0
 ·by_cases z:i=N
  ·rw[z,aK];exact D
  ·rw[aU z];exact T'.hs i (lt hi z)
 ·rw[aU z0];exact T.j0
 ·by_cases z:i=N
  ·rw[z,aK,aU (λy=>ne (z.trans y.symm))];exact Ne.symm (fresh_ne (T.hnd k (lt hk λy=>ne (z.trans y.symm))).ins g)
  ·rw[aU z]
   by_cases y:k=N
   ·rw[y,aK];exact fresh_ne (T.hnd i (lt hi z)).ins g
   ·rw[aU y];exact T.ax i (lt hi z) k (lt hk y) ne
 ·by_cases z:i=N
  ·rw[z,aK,aU (λy=>ne (z.trans y.symm))];exact Ne.symm (fresh_ne (T.hnd k (lt hk λy=>ne (z.trans y.symm))).tho g2)
  ·rw[aU z]
   by_cases y:k=N
   ·rw[y,aK];exact fresh_ne (T.hnd i (lt hi z)).tho g2
   ·rw[aU y];exact T.at_ i (lt hi z) k (lt hk y) ne
 ·by_cases z:i=N
  ·rw[z,aK,aU (λy=>ne (z.trans y.symm))];exact Ne.symm (fresh_ne (T.hnd k (lt hk λy=>ne (z.trans y.symm))).tak g3)
  ·rw[aU z]
   by_cases y:k=N
   ·rw[y,aK];exact fresh_ne (T.hnd i (lt hi z)).tak g3
   ·rw[aU y];exact T.ak i (lt hi z) k (lt hk y) ne
 ·by_cases z:i=N
  ·rw[z,aK]
   by_cases y:k=N
   ·rw[y,aK];exact S.apart
   ·rw[aU y];exact Ne.symm (fresh_ne (T.hnd k (lt hk y)).tak g2)
  ·rw[aU z]
   by_cases y:k=N
   ·rw[y,aK];exact fresh_ne (T.hnd i (lt hi z)).tho g3
   ·rw[aU y];exact T.atk i (lt hi z) k (lt hk y)
 ·rw[aU z0]
  by_cases z:i=N
  ·rw[z,aK];exact Ne.symm (fresh_ne (T.ren 0 T.pos).lst g1)
  ·rw[aU z];exact T.ar i (lt hi z) ne
 ·rw[aU z0]
  by_cases z:i=N
  ·rw[z,aK];exact λz=>(nomatch z)
  ·rw[aU z];exact T.aa i (lt hi z)
 ·by_cases z:i=N
  ·rw[z,aK];exact⟨T.bs.bW g,T.bs.bW g2,T.bs.bW g3,T.bs.bW g1⟩
  ·rw[aU z];exact T.f0 i (lt hi z)
end
structure KS where
 (c:Nat) (Bs:Uh uH) (Ts:Uh uI) (RR:Uh (Uh bQ)) (f:Nat->HR)
def KS.sz(S:KS):Nat:=S.Bs.length+S.Ts.length+S.RR.length
abbrev jc(C:Addr)(H0 H:Hp)(L h N:Nat)(S:KS):Prop:=iz C H0 H L h S.c S.Bs S.Ts S.RR N S.f
def Out(N:Nat)(f:Nat->HR)(p:Addr):Prop:=∀i,i<N->p≠(f i).pr/\¬p∈(f i).as
structure dS(C:Addr)(H0:Hp)(L h N:Nat)(H:Hp)(S:KS)(H':Hp)(S':KS)(m:Nat):Prop where
 T:jc C H0 H' L h N S'
 gr:∃Bx Tx Rx,S'.Bs=S.Bs++Bx/\S'.Ts=S.Ts++Tx/\S'.RR=S.RR++Rx
 c1:S.c<=S'.c
 c2:S'.c<=S.c+m
 sz:S'.sz<=S.sz+m
 xs:∀k,(S'.f k).x=(S.f k).x
 js:∀k,(S'.f k).j=(S.f k).j
 out:∀p xs,H p=some (.lst xs)->Out N S.f p->H' p=some (.lst xs)/\Out N S'.f p
 tup:∀p xs,H p=some (.tup xs)->H' p=some (.tup xs)
section
variable{C:Addr}{H0 H H1 H':Hp}{L h N m m1:Nat}{S S1 S':KS}{i:Nat}{Q:VK}{E:XK}
theorem dS.same(T:jc C H0 H L h N S)(s:aF H H'):dS C H0 L h N H S H' S 0:=
 ⟨T.same s,⟨[],[],[],by simp⟩,le_refl _,le_refl _,le_refl _,λ_=>rfl,λ_=>rfl,λ_ _ e o=>⟨s _ _ e,o⟩,λ_ _ e=>s _ _ e⟩
theorem dS.trans(A:dS C H0 L h N H S H1 S1 m)(B:dS C H0 L h N H1 S1 H' S' m1):dS C H0 L h N H S H' S' (m+m1):=by
 obtain⟨b1,t1,r1,e1,e2,e3⟩:=A.gr;obtain⟨b2,t2,r2,g1,g2,g3⟩:=B.gr;have:=A.c1;have:=A.c2;have:=A.sz;have:=B.c1;have:=B.c2;have:=B.sz;refine⟨B.T,⟨b1++b2,t1++t2,r1++r2,by rw[g1,e1,append_assoc],by rw[g2,e2,append_assoc],by rw[g3,e3,append_assoc]⟩,by omega,by omega,by omega,λk=>(B.xs k).trans (A.xs k),λk=>(B.js k).trans (A.js k),λp xs e o=>?_,λp xs e=>B.tup p xs (A.tup p xs e)⟩
 obtain⟨e',o'⟩:=A.out p xs e o;exact B.out p xs e' o'
theorem dS.mono(A:dS C H0 L h N H S H' S' m)(hm:m<=m1):dS C H0 L h N H S H' S' m1:=by
 have:=A.c2;have:=A.sz;exact {A with c2:=by omega,sz:=by omega}
theorem Out.pr{f:Nat->HR}(o:Out N f p)(h:0<N):p≠(f 0).pr:=(o 0 h).1
theorem dS.one(T:jc C H0 H L h N S)(T':jc C H0 H' L h N S')(gr:∃Bx Tx Rx,S'.Bs=S.Bs++Bx/\S'.Ts=S.Ts++Tx/\S'.RR=S.RR++Rx)(c1:S.c<=S'.c)(c2:S'.c<=S.c+m)(sz:S'.sz<=S.sz+m)(xs:∀k,(S'.f k).x=(S.f k).x)(js:∀k,(S'.f k).j=(S.f k).j)(k:O7 (S.f 0).pr H H')(w:Nw N H S.f S'.f):dS C H0 L h N H S H' S' m:=
 ⟨T',gr,c1,c2,sz,xs,js,λp xs e o=>⟨(k p (o.pr T.pos)).1 xs e,w.ne e o⟩,λp xs e=>(k p (n5 e (T.ren 0 T.pos).lst λq=>by cases q)).2 xs e⟩
theorem LU{f:Nat->HR}{r:HR}(h:r.x=(f i).x)(k:Nat):(zS f i r k).x=(f k).x:=by
 by_cases z:k=i
 ·rw[z,aK,h]
 ·rw[aU z]
theorem LV{f:Nat->HR}{r:HR}(h:r.j=(f i).j)(k:Nat):(zS f i r k).j=(f k).j:=by
 by_cases z:k=i
 ·rw[z,aK,h]
 ·rw[aU z]
theorem jc.put{ct:Addr}{t:Uc}{p:Int}(T:jc C H0 H L h N S)(hi:i<N)(hB:S.sz<=60)(hb:S.c+8*S.RR.length<=998)(th:Thing t){zs:Ud}(Z:jZ (S.f i).kvs (S.f i).ks zs)(p0:0<=p)(p1:p<=zs.length)
  (q:∀H' S' m,dS C H0 L h N H S H' S' 1->Q (.str (txt m)) H'):lg C ct cp [.ref (S.f i).x,.int p,.str (txt t)] H Q E:=by
 unfold KS.sz at hB;refine iz.put T hi (by omega) hb th λzs' Z'=>?_;cases Z.one Z';refine⟨⟨p0,p1⟩,λH' v n w m _ _ T' k'=>q H' ⟨S.c+1,S.Bs++[((S.f i).n,m,t)],S.Ts,S.RR,_⟩ m (dS.one T T' ⟨_,[],[],rfl,(append_nil _).symm,(append_nil _).symm⟩ (le_succ _) (le_refl _) ?_ (LU rfl) (LV rfl) k' (.up (.inl rfl) λ_ h=>.inl h))⟩;unfold KS.sz;rw[length_append];simp only[length_cons,length_nil];omega
theorem jc.take{p:Int}(T:jc C H0 H L h N S)(hi:i<N)(hB:S.sz<=60){zs:Ud}(Z:jZ (S.f i).kvs (S.f i).ks zs)(p0:0<=p)(p1:p<zs.length)
  (q:∀H' S' m,dS C H0 L h N H S H' S' 1->Q (.str (txt m)) H'):nU C cp [.ref (S.f i).x,.int p] H Q E:=by
 unfold KS.sz at hB;refine iz.take T hi (by omega) λzs' Z'=>?_;cases Z.one Z';refine⟨⟨p0,p1⟩,λH' m _ T' k'=>q H' ⟨S.c,S.Bs,S.Ts++[((S.f i).n,m)],S.RR,_⟩ m (dS.one T T' ⟨[],_,[],(append_nil _).symm,rfl,(append_nil _).symm⟩ (le_refl _) (le_succ _) ?_ (LU rfl) (LV rfl) k' (.up (.inl rfl) λ_ h=>.inl h))⟩;unfold KS.sz;rw[length_append];simp only[length_cons,length_nil];omega
theorem jc.qD{ch:Addr}(T:jc C H0 H L h N S)(hB:S.sz<=60)(hb:S.c+8*S.RR.length<=500)
  (q:∀H' S' a,dS C H0 L h N H S H' S' 1->Q (.ref a) H'):g8 C ch [.ref (S.f 0).x] H Q E:=by
 unfold KS.sz at hB;refine iz.qD T (by omega) hb (by omega) λH' zs n pt' pk' r ys a AK IR T' k' _ _ _ _ fr=>q H' ⟨S.c,S.Bs,S.Ts,S.RR++[dj L zs (S.f 0).ks n],_⟩ a (dS.one T T' ⟨[],[],_,(append_nil _).symm,(append_nil _).symm,rfl⟩ (le_refl _) (le_succ _) ?_ (LU rfl) (LV rfl) k' (.up (.inl rfl) λb hb=>?_))
 ·unfold KS.sz;rw[length_append];simp only[length_cons,length_nil];omega
 ·rcases mem_append.mp hb with h|h
  ·exact .inl h
  ·rw[mem_singleton.mp h];exact .inr fr
abbrev jH(H:Hp)(L h:Nat)(S:KS)(p:Addr)(os:Uh Addr)(kn tk:Nat->Prop)(n:Nat):Prop:=qG H L h S.c S.Bs S.Ts S.RR p os kn tk n
theorem jc.lay{kn tk:Nat->Prop}(T:jc C H0 H L h N S)(hi:i<N)(A:jH H L h S p os kn tk n)(M:Gi L h S.c S.Bs S.Ts S.RR)
  (q:∀H' S',dS C H0 L h N H S H' S' 0->S'.c=S.c->S'.Bs=S.Bs->S'.Ts=S.Ts->S'.RR=S.RR->(∀k,k≠i->S'.f k=S.f k)->(S'.f i).n=max (S.f i).n n->((S'.f i).kn=λk=>(S.f i).kn k\/kn k)->((S'.f i).tk=λk=>(S.f i).tk k\/tk k)->Q .non H'):gv K C [.ref (S.f i).x,.ref p] H Q E:=by
 obtain⟨⟨p1,p2,p3,bs,ts,zs,ws,rfl,S1,K1⟩,a1,b1,d1⟩:=A;have:=M.hR;have:=M.hc;refine iz.lay T hi S1 K1 a1 b1 d1 M.hB M.hT (by omega) (by omega) λH' r rx rj rn rk rt _ _ rp ra T' k'=>?_;refine q H' ⟨S.c,S.Bs,S.Ts,S.RR,zS S.f i r⟩ (dS.one T T' ⟨[],[],[],(append_nil _).symm,(append_nil _).symm,(append_nil _).symm⟩ (le_refl _) (le_refl _) (le_refl _) (LU rx) (LV rj) k' (.up (.inr rp) λb hb=>.inr (ra b hb))) rfl rfl rfl rfl (λk z=>aU z) ?_ ?_ ?_
 ·show (zS S.f i r i).n=_;rw[aK,rn]
 ·show (zS S.f i r i).kn=_;rw[aK,rk]
 ·show (zS S.f i r i).tk=_;rw[aK,rt]
theorem qG.IZ{kn tk:Nat->Prop}(A:jH H L h S p os kn tk n)(o:∀b∈os,Out N S.f b)(W:dS C H0 L h N H S H' S' m):jH H' L h S' p os kn tk n/\∀b∈os,Out N S'.f b:=by
 obtain⟨b1,t1,r1,e1,e2,e3⟩:=W.gr;have kl:∀b∈os,∀xs,H b=some (.lst xs)->H' b=some (.lst xs)/\Out N S'.f b:=λb hb xs e=>W.out b xs e (o b hb);refine⟨?_,λb hb=>?_⟩
 ·unfold jH;rw[e1,e2,e3];refine qG.grow ?_ W.c1;obtain⟨⟨p1,p2,p3,bs,ts,zs,ws,rfl,S1,K1⟩,a1,b1,d1⟩:=A;have rows:∀{as:Uh Addr} {R:Uh (Uh bQ)},(∀b∈as,b∈p1::p2::p3::bs)->bw H as R->bw H' as R:=λ{as}=>by
   induction as with
   |nil=>intro R _ h;cases R with
    |nil=>trivial
    |cons _ _=>exact h.elim
   |cons a as ih=>intro R hs h;cases R with
    |nil=>exact h.elim
    |cons r R=>
     obtain⟨⟨xs,e,p⟩,t⟩:=h;exact⟨⟨xs,(kl a (hs a mem_cons_self) xs e).1,p.keep λt ys g=>W.tup t ys g⟩,ih (λb hb=>hs b (mem_cons_of_mem _ hb)) t⟩
  exact⟨⟨p1,p2,p3,bs,ts,zs,ws,rfl,⟨W.tup _ _ S1.top,(kl p1 (by simp) _ S1.ren).1,rows (λb hb=>by simp[hb]) S1.row,(kl p2 (by simp) _ S1.thi).1,S1.prs.keep λt ys g=>W.tup t ys g,(kl p3 (by simp) _ S1.tak).1⟩,K1⟩,a1,b1,d1⟩
 ·have:∃xs,H b=some (.lst xs):=by
   obtain⟨⟨p1,p2,p3,bs,ts,zs,ws,rfl,S1,K1⟩,a1,b1,d1⟩:=A;simp only[mem_cons] at hb
   rcases hb with rfl|rfl|rfl|hb
   ·exact⟨_,S1.ren⟩
   ·exact⟨_,S1.thi⟩
   ·exact⟨_,S1.tak⟩
   ·exact S1.row.mem hb
  obtain⟨xs,e⟩:=this;exact(kl b hb xs e).2
theorem Out.fresh(T:jc C H0 H L h N S)(e:H p=none):Out N S.f p:=λi hi=>⟨Ne.symm (fresh_ne (T.ren i hi).lst e),λz=>by
 obtain⟨xs,w⟩:=(T.ren i hi).row.mem z;rw[e] at w;cases w⟩
end
theorem I9{R:Uh (Uh bQ)}(ok:xH R zs ws):PyData.canLay0 (Ko L h R zs ws)=true/\PyData.depth (Ko L h R zs ws)<=5:=by
 obtain⟨a,b⟩:=nW ok.rows;obtain⟨c,d⟩:=lP (uo ok.things);have o2:∀y∈ws.map txt,PyData.strOk y=true:=λy hy=>by obtain⟨z,hz,rfl⟩:=mem_map.mp hy;exact ok.taken z hz
 unfold Ko;have cl:=iD _ o2;have dl:=jj (ws.map txt);generalize (ws.map txt).map PyData.str=D2 at cl dl ⊢;refine⟨by simp[PyData.canLay0,PyData.canLayAll0,a,c,cl],?_⟩;simp only[PyData.depth,PyData.depthAll,dl];omega
theorem zT:∀{ss ks:Uh Addr},ss.length=ks.length->(∀(i:Nat) s k,ss[i]?=some s->ks[i]?=some k->∃D,Dat K H (.ref s) D/\Dat K H (.ref k) D/\PyData.canLay0 D=true/\PyData.depth D<=5)->∃Ds,DatAll K H (ss.map V.ref) Ds/\DatAll K H (ks.map V.ref) Ds/\PyData.canLayAll0 Ds=true/\PyData.depthAll Ds<=5:=by
 intro ss
 induction ss with
 |nil=>
  intro ks hl _;cases ks with
  |nil=>exact⟨[],.nil,.nil,by simp[PyData.canLayAll0],by simp[PyData.depthAll]⟩
  |cons _ _=>cases hl
 |cons s ss ih=>
  intro ks hl h;cases ks with
  |nil=>cases hl
  |cons k ks=>
   obtain⟨D,d1,d2,d3,d4⟩:=h 0 s k rfl rfl;obtain⟨Ds,e1,e2,e3,e4⟩:=ih (Nat.succ.inj hl) λi s k a b=>h (i+1) s k (by simpa using a) (by simpa using b);exact⟨D::Ds,.cons d1 e1,.cons d2 e2,by simp[PyData.canLayAll0,d3,e3],by simp only[PyData.depthAll];omega⟩
theorem qH{Ds:Uh PyData}(h:PyData.canLayAll0 Ds=true)(g:PyData.depthAll Ds<=5):SeqAt.shaped (.list Ds)=true:=by
 unfold SeqAt.shaped;rw[and_eq_true];refine⟨by simp[PyData.canLay0,h],?_⟩;rw[decide_eq_true_eq];simp only[PyData.depth];omega
section
variable{K:W.Frag}{H:Hp}{p q:Addr}{ss ks:Uh Addr}{Q:VK}
theorem Ja(e:H p=some (.lst (ss.map V.ref)))(g:H q=some (.lst (ks.map V.ref)))(hl:ss.length=ks.length)(h:∀(i:Nat) s k,ss[i]?=some s->ks[i]?=some k->∃p1 p2 p3 bs ts q1 q2 q3 cs us L h R zs ws,lq H s p1 p2 p3 bs ts L h R zs ws/\lq H k q1 q2 q3 cs us L h R zs ws/\xH R zs ws)(r:Q (.bl true) H):Hh K (.ref p) (.ref q) H Q:=by
 obtain⟨Ds,e1,e2,e3,e4⟩:=zT (K:=K) (H:=H) hl λi s k a b=>by
  obtain⟨p1,p2,p3,bs,ts,q1,q2,q3,cs,us,L,h,R,zs,ws,A,B,ok⟩:=h i s k a b;obtain⟨x,y⟩:=I9 (L:=L) (h:=h) ok;exact⟨_,A.dat ok,B.dat ok,x,y⟩
 have sh:=qH e3 e4;have ev:=SeqAt.eqv_refl _ (SeqAt.canLay_of_shaped sh);refine⟨_,_,.lst (aX.of e) e1,.lst (aX.of g) e2,sh,sh,?_⟩;rw[ev];exact r
theorem Jb(e:H p=some (.lst (ss.map V.ref)))(g:H q=some (.lst (ks.map V.ref)))(hl:ss.length=ks.length)(h:∀(i:Nat) s k,ss[i]?=some s->ks[i]?=some k->∃p1 p2 p3 bs ts q1 q2 q3 cs us L h R zs ws,lq H s p1 p2 p3 bs ts L h R zs ws/\lq H k q1 q2 q3 cs us L h R zs ws/\xH R zs ws)(r:Q (.bl false) H):AD K (.ref p) (.ref q) H Q:=by
 obtain⟨Ds,e1,e2,e3,e4⟩:=zT (K:=K) (H:=H) hl λi s k a b=>by
  obtain⟨p1,p2,p3,bs,ts,q1,q2,q3,cs,us,L,h,R,zs,ws,A,B,ok⟩:=h i s k a b;obtain⟨x,y⟩:=I9 (L:=L) (h:=h) ok;exact⟨_,A.dat ok,B.dat ok,x,y⟩
 have sh:=qH e3 e4;refine⟨_,_,.lst (aX.of e) e1,.lst (aX.of g) e2,sh,sh,?_⟩;rw[SeqAt.eqv_refl _ (SeqAt.canLay_of_shaped sh)];exact r
end
theorem Dw{x pr pt:Addr}{S:KS}{kn tk:Nat->Prop}(Hn:iT C H x dx pr pt pk L h j [] [])(er:H pr=some (.lst []))(A:jH H L h S p os kn tk n)(M:Gi L h S.c S.Bs S.Ts S.RR)
  (q:∀H' pr' pt' pk' as' xs js,Keeps [x] H H'->iT C H' x dx pr' pt' pk' L h j xs js->FQ H' pr' as' (S.RR.take n)->HK L S.c S.Bs S.Ts kn tk (S.RR.take n) xs js->H pr'=none->H pt'=none->H pk'=none->(∀b∈as',H b=none)->Q .non H'):gv K C [.ref x,.ref p] H Q E:=by
 obtain⟨⟨p1,p2,p3,bs,ts,zs,ws,rfl,S1,K1⟩,a1,b1,d1⟩:=A;have l2:=M.l2;have hR:=M.hR;have hc:=M.hc;have nl:(S.RR.take n).length=n:=by rw[length_take,min_eq_left a1]
 have W:HK L S.c S.Bs S.Ts (λ_=>False) (λ_=>False) [] [] []:=by
  have:=(HK.nil (L:=L)).grow (λ_ h=>h.elim) (λ_ h=>h.elim) S.Bs S.Ts (zero_le S.c);rw[nil_append,nil_append] at this;exact this
 have tn:∀zs ws,Told [] [] zs ws->zs=[]/\ws=[]:=λzs ws t=>⟨List.perm_nil.mp t.perm,List.perm_nil.mp t.tperm⟩;refine⟨x,dx,pr,pt,pk,p,p1,p2,p3,L,h,j,[],[],[],bs,ts,[],S.RR.take n,zs,ws,rfl,Hn,by decide,.nil,by decide,.nil,⟨er,trivial,λz=>(nomatch z)⟩,by decide,S1,.inl ⟨0,by simp,λzs0 ws0 t=>?_⟩,λH' zs0 ws0 R m pr' pt' pk' as' xs js t k S' A' g1 g2 g3 g4 _ _ way=>?_⟩
 ·have X:=W.told t;rw[show ([]:Uh (Uh bQ))=(S.RR.take n).take 0 by simp] at X
  exact X.vM K1 l2 M.l26 (zero_le _) (by omega) M.hB M.hT (by omega)
 ·have X:=W.told t;have fin:R=S.RR.take n/\SK L S.c S.Bs S.Ts kn tk R xs js:=by
   rcases way with⟨e,e1,ln,la⟩|⟨e,e1,ln,la⟩
   ·have em:m=0:=by
     have:=congrArg List.length e1;rw[length_take,length_nil] at this;omega
    subst em;refine⟨e,?_⟩;rw[e1] at X;rw[e];exact(X.join K1 l2 ln la).iff (λk=>⟨λh=>h.elim False.elim id,.inr⟩) λk=>⟨λh=>h.elim False.elim id,.inr⟩
   ·have em:m=0:=by rw[length_nil] at ln;omega
    subst em;rw[List.take_nil] at e1;refine⟨by rw[e,e1],?_⟩;rw[e];rw[e1] at K1;have K1':SK L S.c S.Bs S.Ts kn tk (([]:Uh (Uh bQ)).take 0) zs ws:=K1;exact(K1'.join X l2 ln la).iff (λk=>⟨λh=>h.elim id False.elim,.inl⟩) λk=>⟨λh=>h.elim id False.elim,.inl⟩
  obtain⟨eR,SJ⟩:=fin;rw[eR] at SJ A';exact q H' pr' pt' pk' as' xs js k S' A' (SJ.hk l2) g1 g2 g3 g4
end L2
namespace K63
open PySem PySem.Spec PyProof.Rows L2 MM
def top(i:Nat):Stmt:=PySem.Challenge.pw_shelfmark_k63_any_way_of_laying.main.body.getD i (.Pass ⟨0,0,0,0⟩)
abbrev Jc:Stmt:=top 10
abbrev Jd:Stmt:=top 11
abbrev Je:Stmt:=top 12
abbrev Jf:Stmt:=top 13
abbrev Jg:Stmt:=top 14
abbrev Jh:Stmt:=top 16
abbrev Ji:Stmt:=top 17
abbrev Jj:Stmt:=top 18
abbrev Jk:Stmt:=top 19
abbrev Jl:Stmt:=top 20
abbrev Jm:Stmt:=top 21
abbrev Jo:Stmt:=top 22
abbrev Jp:Stmt:=top 23
abbrev Jq:Stmt:=top 24
abbrev Jr:Stmt:=top 26
abbrev Js:Stmt:=top 27
abbrev Jt:Stmt:=top 28
abbrev Ju:Stmt:=top 29
abbrev Jv:Stmt:=top 31
abbrev Jw:Stmt:=top 32
abbrev Jx:Stmt:=top 33
abbrev Jy:Stmt:=top 35
abbrev Jz:Stmt:=top 36
abbrev JA:Stmt:=top 37
abbrev JB:Stmt:=top 38
abbrev JC:Stmt:=top 39
abbrev JD:Stmt:=top 46
abbrev JE:Stmt:=top 48
abbrev JF:Stmt:=top 49
abbrev JG:Stmt:=top 50
abbrev JH:Stmt:=top 51
abbrev JI:Stmt:=top 52
abbrev JJ:Stmt:=top 56
abbrev JK:Stmt:=top 57
abbrev JL:Stmt:=top 58
abbrev JM:Stmt:=top 60
abbrev NY:Stmt:=inClass (top 61) 0
abbrev NZ:Stmt:=inClass (top 61) 4
abbrev N2:Stmt:=inClass (top 61) 10
abbrev N3:Stmt:=inClass (top 61) 1
abbrev N4:Stmt:=inClass (top 61) 2
abbrev N5:Stmt:=inClass (top 61) 3
abbrev N6:Stmt:=inClass (top 61) 6
abbrev N7:Stmt:=inClass (top 61) 7
abbrev N8:Stmt:=inClass (top 61) 8
abbrev N9:Stmt:=inClass (top 61) 9
abbrev BZ:Stmt:=top 63
abbrev B3:Stmt:=top 64
abbrev xO:Stmt:=top 65
abbrev xP:Stmt:=top 66
abbrev B7:Stmt:=top 67
abbrev B9:Stmt:=top 68
abbrev mV:Stmt:=top 69
abbrev JN:Stmt:=top 70
structure Ad where
 (az cA bX cg di cL:Addr)
 (n8 j4 ie ig j5 fK fL j6 ir iu j7 j8 n9 j9 kc oh oj om oq ou oz oA oB oE kg oF iw kh oG kj ko br oH oJ kq oK uU mq zU zV zW uV zX zY kF kG bA jI gE eZ jJ jK dz qI:Addr×FuncData)
structure Tx(K:W.Frag)(mg:Str->Option Value)(a:Ad):Prop where
 Qh:mg "all" =none
 Ca:mg "dict" =none
 b8:mg "len" =none
 lC:mg "list" =none
 JO:mg "min" =none
 fZ:mg "range" =none
 Cb:mg "reversed" =none
 Dy:mg "set" =none
 gm:mg "sorted" =none
 lW:∃t,mg "SMALL" =some (.str "abcdefghijklmnopqrstuvwxyz" t)
 jd:∃t,mg "LETTERS" =some (.int 0 t)
 rG:∃t,mg "HANDS" =some (.int 1 t)
 bU:∃t,mg "RENEWALS" =some (.int 2 t)
 je:∃t,mg "THINGS" =some (.int 3 t)
 lX:∃t,mg "TAKEN" =some (.int 4 t)
 uW:∃t,mg "THING_SIGNS" =some (.str "abcdefghijklmnopqrstuvwxyz0123456789" t)
 qR:∃t,mg "LONGEST_THING" =some (.int 12 t)
 xQ:mg "Hand" =some (.ref a.az)
 cE:EH K a.az
 Cc:Mk K a.az a.uU.1
 uD:dH K a.az "letters"
 xR:dH K a.az "hands"
 oM:dH K a.az "own_number"
 qS:dH K a.az "renewals"
 qT:dH K a.az "thing_of"
 xS:dH K a.az "taken"
 zZ:mg "NoHand" =some (.ref a.cA)
 z3:Xc K a.cA
 qL:mg "NoLetters" =some (.ref a.bX)
 qM:Xc K a.bX
 F7:mg "NoPlace" =some (.ref a.cg)
 F8:Xc K a.cg
 JP:mg "NoRoom" =some (.ref a.di)
 JQ:Xc K a.di
 F9:mg "NoThing" =some (.ref a.cL)
 Ga:Xc K a.cL
 n8:Fx K mg "ask_letters" Jc ["letters", "hands"] a.n8
 j4:Fx K mg "power" Jd ["letters", "long"] a.j4
 ie:Fx K mg "figure_at" Je ["mark", "place"] a.ie
 ig:Fx K mg "whole_of" Jf ["letters", "mark", "long"] a.ig
 j5:Fx K mg "mark_of" Jg ["letters", "number", "long"] a.j5
 fK:Fx K mg "ends_of" Jh ["letters", "hands", "hand"] a.fK
 fL:Fx K mg "ask_room" Ji ["low", "high"] a.fL
 j6:Fx K mg "high_whole_of" Jj ["letters", "high", "long"] a.j6
 ir:Fx K mg "owned_below" Jk ["letters", "ends", "number"] a.ir
 iu:Fx K mg "owned_up_to_low" Jl ["letters", "ends", "low_whole"] a.iu
 j7:Fx K mg "owned_ahead_of_high" Jm ["letters", "ends", "high", "high_whole", "long", "beginnings"] a.j7
 j8:Fx K mg "counted_at" Jo ["letters", "ends", "low", "high", "long", "beginnings"] a.j8
 n9:Fx K mg "room_at" Jp ["letters", "hands", "hand", "low", "high", "long"] a.n9
 j9:Fx K mg "nth_mark" Jq ["letters", "hands", "hand", "low", "high", "long", "number"] a.j9
 kc:Fx K mg "least_counted" Jr ["letters", "ends", "low", "high", "many", "beginnings"] a.kc
 oh:Fx K mg "least_long" Js ["letters", "hands", "hand", "low", "high", "many"] a.oh
 oj:Fx K mg "told_number" Jt ["low", "high", "many"] a.oj
 om:Fx K mg "mark_between" Ju ["letters", "hands", "hand", "low", "high"] a.om
 oq:Fx K mg "spread" Jv ["many", "whole"] a.oq
 ou:Fx K mg "renewed_long" Jw ["letters", "many"] a.ou
 oz:Fx K mg "renewed" Jx ["letters", "many"] a.oz
 oA:Fx K mg "renewal_rows" Jy ["letters", "known"] a.oA
 oB:Fx K mg "stem_between" Jz ["letters", "low", "high"] a.oB
 oE:Fx K mg "rows_ahead" JA ["rows", "mark"] a.oE
 kg:Fx K mg "first_new" JB ["rows"] a.kg
 oF:Fx K mg "carried_knowing" JC ["letters", "rows", "mark", "stems"] a.oF
 iw:Fx K mg "state_of" JD ["letters", "hands", "renewals", "things", "taken"] a.iw
 kh:Fx K mg "ask_meeting" JE ["fewer", "more"] a.kh
 oG:Fx K mg "carried_by_all" JF ["letters", "renewals", "mark", "stems"] a.oG
 kj:Fx K mg "carried_marks" JG ["state", "renewals"] a.kj
 ko:Fx K mg "all_things" JH ["one", "other"] a.ko
 br:Fx K mg "laid" JI ["one", "other"] a.br
 oH:Fx K mg "is_thing" JJ ["text"] a.oH
 oJ:Fx K mg "ask_thing" JK ["text"] a.oJ
 kq:Fx K mg "ask_place" JL ["place", "many"] a.kq
 oK:Fx K mg "ask_hand" JM ["number", "hands"] a.oK
 uU:Mx K a.az "__init__" "Hand.__init__" NY ["self", "letters", "hands", "number"] a.uU
 mq:Mx K a.az "marks" "Hand.marks" NZ ["self"] a.mq
 zU:Mx K a.az "first_behind" "Hand.first_behind" N2 ["self", "low"] a.zU
 zV:Mx K a.az "put" "Hand.put" N3 ["self", "place", "thing"] a.zV
 zW:Mx K a.az "take" "Hand.take" N4 ["self", "place"] a.zW
 uV:Mx K a.az "renew" "Hand.renew" N5 ["self"] a.uV
 zX:Mx K a.az "age" "Hand.age" N6 ["self"] a.zX
 zY:Mx K a.az "number" "Hand.number" N7 ["self"] a.zY
 kF:Mx K a.az "state" "Hand.state" N8 ["self"] a.kF
 kG:Mx K a.az "lay" "Hand.lay" N9 ["self", "state"] a.kG
 bA:Fx K mg "_law_draw" BZ ["_law_script", "_law_k", "_law_many"] a.bA
 jI:Fx K mg "_law_size" B3 ["_law_script"] a.jI
 gE:Fx K mg "_law_thing" xO ["_law_script", "_law_k"] a.gE
 eZ:Fx K mg "_law_deeds" xP ["_law_script", "_law_k", "_law_hand", "_law_many"] a.eZ
 jJ:Fx K mg "_law_made" B7 ["_law_script", "_law_size_here"] a.jJ
 jK:Fx K mg "_law_copy" B9 ["_law_state"] a.jK
 dz:Fx K mg "_law_is_apart" mV ["_law_states", "_law_kept", "_law_size_here"] a.dz
 qI:Fx K mg "law" JN ["_law_script"] a.qI
end K63
namespace K63
open PySem PySem.Spec PyProof.Rows L2 MM
def Dz(K:W.Frag):Sp:=λvs H Q _=>∃(a:Addr) (ns:Uh Int),vs=[.ref a]/\aX K H a (ns.map V.int)/\ns.length<=63/\∀H',Q (.bl true) H'
def Cd(K:W.Frag):Sp:=λvs H Q _=>∃(a:Addr) (ns:Uh Int),vs=[.ref a]/\aX K H a (ns.map V.int)/\ns.length<=63/\∀H' p (L h:Nat),aF H H'->H' p=some (.tup [.int L,.int h])->2<=L->L<=26->1<=h->h+1<=L->Q (.ref p) H'
def vN(N:Nat)(f:Nat->HR):Uh V:=(List.range N).map λk=>V.ref (f k).x
def rH(K:W.Frag)(C:Addr):Sp:=λvs H Q _=>∃(sc:Addr) (ns:Uh Int) (k:Int) (m:Nat) (H0:Hp) (L h N:Nat) (S:KS) (i:Nat),vs=[.ref sc,.int k,.ref (S.f i).x,.int m]/\aX K H0 sc (ns.map V.int)/\ns.length<=63/\0<=k/\k<=1000/\m<=6/\i<N/\jc C H0 H L h N S/\((S.f i).j=0->i=0)/\S.c+m<=30/\S.sz+m<=30/\
 ∀H' S',dS C H0 L h N H S H' S' m->Q .non H'
def xT(K:W.Frag)(C:Addr):Sp:=λvs H Q _=>∃(sc ps:Addr) (ns:Uh Int) (L h:Nat),vs=[.ref sc,.ref ps]/\aX K H sc (ns.map V.int)/\ns.length<=63/\H ps=some (.tup [.int L,.int h])/\2<=L/\L<=26/\1<=h/\h+1<=L/\
 ∀H' N S ph,jc C H H' L h N S->N<=3->H' ph=some (.lst (vN N S.f))->Out N S.f ph->H ph=none->S.c<=30->S.sz<=30->Q (.ref ph) H'
structure Su(H:Hp)(L h:Nat)(S:KS)(ss:Uh Addr)(kn tk:Nat->Nat->Prop)(n:Nat->Nat):Prop where
 at_:∀(i:Nat) s,ss[i]?=some s->∃os,jH H L h S s os (kn i) (tk i) (n i)
def xU(K:W.Frag)(C:Addr):Sp:=λvs H Q _=>∃(p q ps:Addr) (L h:Nat) (S:KS) (ss ks:Uh Addr) (kn tk:Nat->Nat->Prop) (n:Nat->Nat),vs=[.ref p,.ref q,.ref ps]/\H p=some (.lst (ss.map V.ref))/\H q=some (.lst (ks.map V.ref))/\H ps=some (.tup [.int L,.int h])/\Su H L h S ss kn tk n/\Su H L h S ks kn tk n/\ss.length=ks.length/\0<ss.length/\ss.length<=3/\Gi L h S.c S.Bs S.Ts S.RR/\∀H',aF H H'->Q (.bl true) H'
def DA(K:W.Frag)(a:Ad):TS:=
  aI (dP (bD (aP uL (dJ (cz K) (ah (aP (bH K) (ai 0) (tC (.int 2))) av)) (dJ (cz K) (ah (aP (bH K) (ai 1) (tC (.int 2))) av)))) (se) (cJ))
   (aI (cj (aH (uy K) [] E0 (ah (ai 0) (ah (ai 1) av))))
   (aI (bg (aH (g9 K) [] E0 (ah (ai 0) (ah (GG (vY K) (aP (bH K) (ai 1) (tC (.int 2))) (kJ (dJ (cz K) (ah (aP (bH K) (ai 0) (tC (.int 2))) av))) fz) av))) (aG 2))
   (aI (gJ K 3 (bS K (aP (bH K) (ai 0) (tC (.int 3)))) [2] (tB (gc (fu (ai 2) (ai 0)))) (iL (ah (fu (ai 2) (ai 0)) (ah (ai 1) av))))
   (aI (cU 4 (bS K (aP (bH K) (ai 0) (tC (.int 4)))) [2] (tB (gc (fu (ai 1) (ai 0)))) (fu (ai 1) (ai 0)))
   (bG (aH gM [] E0 (ah (aP (bH K) (ai 1) (tC (.int 0))) (ah (aP (bH K) (ai 1) (tC (.int 1))) (ah (aP (bH K) (ai 1) (tC (.int 2))) (ah (aH (gj K) [] E0 (ah (ai 3) (ah (aP (bH K) (ai 1) (tC (.int 3))) av))) (ah (dJ (dX K) (ah (aP wc (ai 4) (aP (bH K) (ai 1) (tC (.int 4)))) av)) av)))))))))))
def JR(K:W.Frag)(a:Ad):TS:=
  aI (dP (bD (aP uL (dJ (cz K) (ah (aP (bH K) (ai 0) (tC (.int 2))) av)) (dJ (cz K) (ah (aP (bH K) (ai 1) (tC (.int 2))) av)))) (bG (aH (rD K) [] E0 (ah (ai 1) (ah (ai 0) av)))) (cJ))
   (aI (cj (aH (uy K) [] E0 (ah (ai 0) (ah (ai 1) av))))
   (aI (bg (aH (g9 K) [] E0 (ah (ai 0) (ah (GG (vY K) (aP (bH K) (ai 1) (tC (.int 2))) (kJ (dJ (cz K) (ah (aP (bH K) (ai 0) (tC (.int 2))) av))) fz) av))) (aG 2))
   (aI (gJ K 3 (bS K (aP (bH K) (ai 0) (tC (.int 3)))) [2] (tB (gc (fu (ai 2) (ai 0)))) (iL (ah (fu (ai 2) (ai 0)) (ah (ai 1) av))))
   (aI (cU 4 (bS K (aP (bH K) (ai 0) (tC (.int 4)))) [2] (tB (gc (fu (ai 1) (ai 0)))) (fu (ai 1) (ai 0)))
   (bG (aH gM [] E0 (ah (aP (bH K) (ai 1) (tC (.int 0))) (ah (aP (bH K) (ai 1) (tC (.int 1))) (ah (aP (bH K) (ai 1) (tC (.int 2))) (ah (aH (gj K) [] E0 (ah (ai 3) (ah (aP (bH K) (ai 1) (tC (.int 3))) av))) (ah (dJ (dX K) (ah (aP wc (ai 4) (aP (bH K) (ai 1) (tC (.int 4)))) av)) av)))))))))))
def JS(K:W.Frag)(a:Ad):TS:=
  aI (dP (Af (bD (aP ED (ai 0) (tC (.str (txt []))))) (bD (aP uL (dJ ng (ah (ai 0) av)) (tC (.int 12))))) (bG (tC (.bl false))) (cJ))
   (bG (dJ (Hf K) (ah (eG (EU (ai 0)) [] ku (aP Py (ai 0) (tC (.str (txt [97,98,99,100,101,102,103,104,105,106,107,108,109,110,111,112,113,114,115,116,117,118,119,120,121,122,48,49,50,51,52,53,54,55,56,57]))))) av)))
def MB(K:W.Frag)(a:Ad):TS:=
  bG (dJ (cz K) (ah (eK K (ai 0) "renewals") av))
def MC(K:W.Frag)(a:Ad):TS:=
  bG (eK K (ai 0) "own_number")
def rJ(K:W.Frag)(a:Ad):TS:=
  aI (bg (aP (dQ K) (oZ (ah (tC (.int 2)) (ah (tC (.int 3)) (ah (tC (.int 4)) (ah (tC (.int 5)) (ah (tC (.int 10)) (ah (tC (.int 26)) av))))))) (aH (eO K) [] E0 (ah (ai 0) (ah (tC (.int 0)) (ah (tC (.int 6)) av))))) (aG 1))
   (aI (bg (aP bE (tC (.int 1)) (aH (eO K) [] E0 (ah (ai 0) (ah (tC (.int 1)) (ah (dJ Pz (ah (tC (.int 4)) (ah (aP kM (ai 1) (tC (.int 1))) av))) av))))) (aG 2))
   (bG (iL (ah (ai 1) (ah (M5 (bD (aP ED (aH (eO K) [] E0 (ah (ai 0) (ah (tC (.int 2)) (ah (tC (.int 8)) av)))) (tC (.int 0)))) (aP kM (ai 1) (tC (.int 1))) (ai 2)) av)))))
def oO(K:W.Frag)(a:Ad):TS:=
  gQ (iU (ah (ai 3) av)) (aG 4) (aI (bg (dJ (cz K) (ah (ck a.az "marks" (g7 a.az) [] E0 (ai 2) av) av)) (aG 5))
   (aI (bg (aH (eO K) [] E0 (ah (ai 0) (ah (aP bE (ai 1) (aP dm (tC (.int 4)) (ai 4))) (ah (tC (.int 6)) av)))) (aG 6))
   (dP (mX (bD (aP ED (ai 6) (tC (.int 0)))) (bD (aP uL (ai 5) (tC (.int 0))))) (cj (ck a.az "take" (nU a.az a.cg) [] E0 (ai 2) (ah (aH (eO K) [] E0 (ah (ai 0) (ah (aP bE (aP bE (ai 1) (aP dm (tC (.int 4)) (ai 4))) (tC (.int 1))) (ah (ai 5) av)))) av))) (dP (mX (bD (aP ED (ai 6) (tC (.int 1)))) (bD (aP ED (ck a.az "number" (lS a.az) [] E0 (ai 2) av) (tC (.int 0))))) (cj (ck a.az "renew" (g8 a.az a.cA) [] E0 (ai 2) av)) (cj (ck a.az "put" (lg a.az a.cL a.cg) [] E0 (ai 2) (ah (aH (eO K) [] E0 (ah (ai 0) (ah (aP bE (aP bE (ai 1) (aP dm (tC (.int 4)) (ai 4))) (tC (.int 2))) (ah (aP bE (ai 5) (tC (.int 1))) av)))) (ah (aH (jb K) [] E0 (ah (ai 0) (ah (aP bE (aP bE (ai 1) (aP dm (tC (.int 4)) (ai 4))) (tC (.int 3))) av))) av))))))))
def rK(K:W.Frag)(a:Ad):TS:=
  aI (bg (oZ (ah (tC (.int 0)) av)) (aG 2))
   (aI (gQ (iU (ah (tC (.int 2)) av)) (aG 3) (aI (bg (aH (eO K) [] E0 (ah (ai 0) (ah (aP bE (tC (.int 3)) (ai 3)) (ah (aP (bH K) (ai 1) (tC (.int 1))) av)))) (aG 4))
   (dP (bD (aP (Tn K true) (ai 4) (ai 2))) (cj (Ac K "list" fS (ai 2) (ah (ai 4) av))) (cJ))))
   (aI (cU 5 (bS K (ai 2)) [1] ku (u5 a.az (lR a.az a.bX a.cA) [] E0 (ah (aP (bH K) (ai 1) (tC (.int 0))) (ah (aP (bH K) (ai 1) (tC (.int 1))) (ah (ai 0) av)))))
   (aI (cj (aH (rH K a.az) [] E0 (ah (ai 0) (ah (tC (.int 100)) (ah (aP (dQ K) (ai 5) (tC (.int 0))) (ah (aH (eO K) [] E0 (ah (ai 0) (ah (tC (.int 5)) (ah (tC (.int 6)) av)))) av))))))
   (aI (gQ (bS K (GG (vY K) (ai 5) (kJ (tC (.int 1))) fz)) (aG 6) (cj (ck a.az "lay" (gv K a.az) [] E0 (ai 6) (ah (ck a.az "state" (eW a.az) [] E0 (aP (dQ K) (ai 5) (tC (.int 0))) av) av))))
   (aI (gQ (iU (ah (dJ (cz K) (ah (ai 5) av)) av)) (aG 3) (cj (aH (rH K a.az) [] E0 (ah (ai 0) (ah (aP bE (tC (.int 200)) (aP dm (tC (.int 40)) (ai 3))) (ah (aP (dQ K) (ai 5) (ai 3)) (ah (aH (eO K) [] E0 (ah (ai 0) (ah (aP bE (tC (.int 6)) (ai 3)) (ah (tC (.int 7)) av)))) av)))))))
   (bG (ai 5)))))))
def iJ(K:W.Frag)(a:Ad):TS:=
  aI (bg (aH (dh K) [] E0 (ah (aP (dQ K) (ai 0) (tC (.int 0))) (ah (aP (dQ K) (ai 0) (O4 Mt (tC (.int 1)))) av))) (aG 3))
   (aI (cj (Ac K "list" fS (aP (bH K) (ai 3) (tC (.int 2))) (ah (oZ av) av)))
   (aI (gQ (bS K (aP (bH K) (ai 3) (tC (.int 2)))) (aG 4) (cj (Ac K "list" fS (ai 4) (ah (iL (ah (tC (.str (txt [98]))) (ah (tC .non) av))) av))))
   (aI (cj (Ac K "list" fS (aP (bH K) (ai 3) (tC (.int 3))) (ah (iL (ah (tC (.str (txt [98]))) (ah (tC (.str (txt [98]))) av))) av)))
   (aI (cj (Ac K "list" fS (aP (bH K) (ai 3) (tC (.int 4))) (ah (tC (.str (txt [98]))) av)))
   (aI (bg (u5 a.az (lR a.az a.bX a.cA) [] E0 (ah (aP (bH K) (ai 2) (tC (.int 0))) (ah (aP (bH K) (ai 2) (tC (.int 1))) (ah (tC (.int 0)) av)))) (aG 5))
   (aI (cj (ck a.az "lay" (gv K a.az) [] E0 (ai 5) (ah (aP (dQ K) (ai 0) (tC (.int 0))) av)))
   (aI (bg (u5 a.az (lR a.az a.bX a.cA) [] E0 (ah (aP (bH K) (ai 2) (tC (.int 0))) (ah (aP (bH K) (ai 2) (tC (.int 1))) (ah (aP kM (aP (bH K) (ai 2) (tC (.int 1))) (tC (.int 1))) av)))) (aG 6))
   (aI (cj (ck a.az "lay" (gv K a.az) [] E0 (ai 6) (ah (aP (dQ K) (ai 0) (tC (.int 0))) av)))
   (aI (cj (ck a.az "renew" (g8 a.az a.cA) [] E0 (ai 5) av))
   (bG (uZ (aP (Hh K) (ai 0) (ai 1)) (uZ (aP (Hh K) (ck a.az "state" (eW a.az) [] E0 (ai 6) av) (aP (dQ K) (ai 1) (tC (.int 0)))) (aP ED (ck a.az "age" (BP a.az) [] E0 (ai 5) av) (aP bE (dJ (cz K) (ah (aP (bH K) (aP (dQ K) (ai 1) (tC (.int 0))) (tC (.int 2))) av)) (tC (.int 1))))))))))))))))
def xV(K:W.Frag)(a:Ad):TS:=
  aI (bg (aH (Cd K) [] E0 (ah (ai 0) av)) (aG 1))
   (aI (bg (aH (xT K a.az) [] E0 (ah (ai 0) (ah (ai 1) av))) (aG 2))
   (aI (cU 3 (bS K (ai 2)) [] ku (ck a.az "state" (eW a.az) [] E0 (ai 0) av))
   (aI (cU 4 (bS K (ai 3)) [] ku (aH (xK K) [] E0 (ah (ai 0) av)))
   (aI (bg (aP (dQ K) (ai 3) (tC (.int 0))) (aG 5))
   (aI (bg (aP (dQ K) (ai 3) (O4 Mt (tC (.int 1)))) (aG 6))
   (aI (bg (aP (dQ K) (ai 3) (aP nc (dJ (cz K) (ah (ai 3) av)) (tC (.int 2)))) (aG 7))
   (aI (bg (aH (dh K) [] E0 (ah (aH (dh K) [] E0 (ah (ai 5) (ah (ai 6) av))) (ah (ai 7) av))) (aG 8))
   (aI (bg (oZ (ah (aH (dh K) [] E0 (ah (ai 7) (ah (aH (dh K) [] E0 (ah (ai 6) (ah (ai 5) av))) av))) (ah (aH (dh K) [] E0 (ah (aH (dh K) [] E0 (ah (ai 6) (ah (ai 7) av))) (ah (ai 5) av))) av))) (aG 9))
   (aI (bg (aP wc (ai 9) (oZ (ah (aH (dh K) [] E0 (ah (aH (dh K) [] E0 (ah (ai 7) (ah (ai 5) av))) (ah (ai 6) av))) (ah (aH (dh K) [] E0 (ah (ai 8) (ah (ai 6) av))) (ah (aH (dh K) [] E0 (ah (ai 8) (ah (ai 8) av))) av))))) (aG 9))
   (aI (bg (aP wc (ai 9) (oZ (ah (aH (dh K) [] E0 (ah (ai 5) (ah (ai 8) av))) (ah (aH (dh K) [] E0 (ah (aH (dh K) [] E0 (ah (ai 5) (ah (ai 5) av))) (ah (aH (dh K) [] E0 (ah (ai 7) (ah (ai 6) av))) av))) av)))) (aG 9))
   (aI (gQ (bS K (ai 9)) (aG 10) (dP (bD (aP (AD K) (ai 10) (ai 8))) (bG (tC (.bl false))) (cJ)))
   (aI (dP (Ex (tB (aH (xU K a.az) [] E0 (ah (ai 3) (ah (ai 4) (ah (ai 1) av)))))) (bG (tC (.bl false))) (cJ))
   (aI (dP (Af (bD (aP (AD K) (ai 3) (ai 4))) (bD (aP Nf (dJ (iH K) (ah (eG (bS K (aP (bH K) (ai 8) (tC (.int 3)))) [] ku (aP (bH K) (ai 0) (tC (.int 0)))) av)) (dJ (cz K) (ah (aP (bH K) (ai 8) (tC (.int 3))) av))))) (bG (tC (.bl false))) (cJ))
   (aI (bg (aH (eO K) [] E0 (ah (ai 0) (ah (tC (.int 9)) (ah (dJ (cz K) (ah (ai 2) av)) av)))) (aG 11))
   (aI (gQ (iU (ah (aP dm (tC (.int 2)) (dJ (cz K) (ah (ai 2) av))) av)) (aG 12) (aI (bg (ck a.az "state" (eW a.az) [] E0 (aP (dQ K) (ai 2) (aP gU (aP bE (aP bE (ai 11) (ai 12)) (tC (.int 1))) (dJ (cz K) (ah (ai 2) av)))) av) (aG 13))
   (cj (ck a.az "lay" (gv K a.az) [] E0 (aP (dQ K) (ai 2) (aP gU (aP bE (ai 11) (ai 12)) (dJ (cz K) (ah (ai 2) av)))) (ah (ai 13) av)))))
   (aI (gQ (iU (ah (dJ (cz K) (ah (ai 2) av)) av)) (aG 12) (aI (cj (ck a.az "lay" (gv K a.az) [] E0 (aP (dQ K) (ai 2) (ai 12)) (ah (aP (dQ K) (ai 4) (aP gU (aP bE (ai 12) (ai 11)) (dJ (cz K) (ah (ai 4) av)))) av)))
   (aI (gQ (bS K (ai 4)) (aG 14) (cj (ck a.az "lay" (gv K a.az) [] E0 (aP (dQ K) (ai 2) (ai 12)) (ah (ai 14) av))))
   (dP (Af (bD (aP (AD K) (ck a.az "state" (eW a.az) [] E0 (aP (dQ K) (ai 2) (ai 12)) av) (ai 8))) (bD (aP (Mu K) (ck a.az "marks" (g7 a.az) [] E0 (aP (dQ K) (ai 2) (ai 12)) av) (ck a.az "marks" (g7 a.az) [] E0 (aP (dQ K) (ai 2) (tC (.int 0))) av)))) (bG (tC (.bl false))) (cJ)))))
   (bG (tC (.bl true)))))))))))))))))))
end K63
namespace K63
open PySem PySem.Spec PyProof.Rows L2 MM
theorem Gb{K:W.Frag}{a:Ad}{N:Uh Str}{vs:Uh V}{H:Hp}{Q:VK}{E:XK}(hN:N.length=3)(h:Cd K vs H Q E):rJ K a {nx:=λ_ H'=>Q .non H',rt:=Q} (L2.start N vs) H:=by
 obtain⟨sc,ns,rfl,hS,hl,q⟩:=h;unfold rJ L2.start;rw[hN];refine aW λc hc=>?_;nofun;refine⟨by decide,λp hp=>?_⟩;have s1:=aF.up (o:=HO.lst [V.int 2,V.int 3,V.int 4,V.int 5,V.int 10,V.int 26]) H hp;refine⟨sc,ns,_,_,rfl,s1.seq hS,hl,by decide,by decide,by decide,λr h0 h1=>?_⟩;refine Ay (ns:=[2,3,4,5,10,26]) aX.here h0 (by simp only[length_cons,length_nil];omega) λL hL _=>hc _ _ ?_;clear hc c;generalize upd H p _=H1 at s1 ⊢;have hS1:=s1.seq hS;have hL2:2<=L/\L<=26:=by
  simp only[mem_cons,not_mem_nil,or_false] at hL;omega
 obtain⟨L,rfl⟩:=eq_ofNat_of_zero_le (a:=L) (by omega);refine aW λc hc=>?_;nofun;refine⟨4,_,rfl,⟨sc,ns,_,_,rfl,hS1,hl,by decide,by decide,by split<;>omega,λr2 h20 h21=>⟨_,rfl,hc _ _ ?_⟩⟩⟩
 clear hc c;have hh:1<=1+r2/\1+r2+1<=L:=by split at h21<;>omega
 generalize 1+r2=h at hh ⊢;nofun;refine⟨sc,ns,_,_,rfl,hS1,hl,by decide,by decide,by decide,λr3 h30 h31=>⟨rfl,?_⟩⟩
 by_cases z:r3=0
 ·rw[if_pos (congrArg V.int z)];refine⟨by decide,λp2 hp2=>?_⟩;have:=q _ p2 L (L-1) (s1.new hp2 (o:=.tup [.int L,.int ((L:Int)-1)])) (by rw[aq];simp;omega) (by omega) (by omega) (by omega) (by omega);exact this
 ·rw[if_neg (λy=>z (V.int.inj y))];refine⟨by decide,λp2 hp2=>?_⟩;have:=q _ p2 L h.toNat (s1.new hp2 (o:=.tup [.int L,.int h])) (by rw[aq];simp;omega) (by omega) (by omega) (by omega) (by omega);exact this
def Gd(C:Addr)(H0:Hp)(L h N:Nat)(H:Hp)(S:KS)(σ0:Uh (Option V)):Nat->L2.St->Hp->Prop:=λi σ H'=>∃S' v4 v5 v6,dS C H0 L h N H S H' S' i/\σ=σ0++[v4,v5,v6]
theorem Ce{K:PySem.W.Frag}{a:Ad}{N:Uh Str}{vs:Uh V}{H:Hp}{Q:VK}{E:XK}(hN:N.length=7)(h:rH K a.az vs H Q E):oO K a {nx:=λ_ H'=>Q .non H',rt:=Q} (L2.start N vs) H:=by
 obtain⟨sc,ns,k,m,H0,L,h,M,S,i,rfl,hS0,hl,k0,k1,hm,hi,T,j0,lc,ls,q⟩:=h;unfold oO L2.start;rw[hN];simp only[set_cons_zero,set_cons_succ,replicate_succ,replicate_zero,map_cons,map_nil,cons_append,nil_append,length_cons,length_nil,Nat.reduceAdd,Nat.reduceSub];refine kN (j:=m) (λQ h=>by nofun;exact h) (by omega) (by omega) (Gd a.az H0 L h M H S [some (.ref sc),some (.int k),some (.ref (S.f i).x),some (.int m)]) ⟨S,none,none,none,dS.same T (aF.refl _),rfl⟩ ?_ ?_
 ·rintro d σ H' hd ⟨S',v4,v5,v6,W,rfl⟩;have hd':d<m:=by omega
  have T':=W.T;have hS':=T'.bs.seq hS0;have c2:=W.c2;have sz:=W.sz;have ex:(S.f i).x=(S'.f i).x:=(W.xs i).symm;have tl:=(T'.hk i hi).tl;have szd:S'.Bs.length+S'.Ts.length+S'.RR.length<=30:=by have:S'.sz=S'.Bs.length+S'.Ts.length+S'.RR.length:=rfl;omega
  simp only[cons_append,nil_append,aG,set_cons_zero,set_cons_succ];rw[ex];refine aW λc1 hc1=>?_;nofun;refine bL (T'.hnd i hi) (λR r=>⟨_,rfl,r⟩) rfl ⟨_,_,_,_,_,L,h,_,_,_,rfl,T'.hnd i hi,by omega,(T'.hk i hi).kw.nd,λH1 p zs s1 fp up mem=>bZ aX.here (hc1 _ _ ?_)⟩;clear hc1 c1;rw[length_map];have s2:=s1.new fp (o:=.lst (zs.map aD));generalize upd H1 p _=H2 at s2 ⊢;have T2:=T'.same s2;have Z:jZ (S'.f i).kvs (S'.f i).ks zs:=⟨up,mem⟩;have hS2:=s2.seq hS';have W0:dS a.az H0 L h M H' S' H2 S' 0:=dS.same T' s2;have lb:S'.c+8*S'.RR.length<=500:=by omega
  simp only[set_cons_zero,set_cons_succ];have fin:∀H3 S3,dS a.az H0 L h M H2 S' H3 S3 1->∀v4 v5 v6,Gd a.az H0 L h M H S [some (.ref sc),some (.int k),some (.ref (S'.f i).x),some (.int m)] (d+1) ([some (.ref sc),some (.int k),some (.ref (S'.f i).x),some (.int m)]++[v4,v5,v6]) H3:=λH3 S3 W3 v4 v5 v6=>⟨S3,v4,v5,v6,(W.trans (W0.trans W3)).mono (by omega),rfl⟩;refine aW λc1 hc1=>?_;nofun;refine⟨jm (by decide) (by omega),⟨sc,ns,_,_,rfl,hS2,hl,by omega,by omega,by decide,λw w0 w1=>hc1 _ _ ?_⟩⟩;clear hc1 c1;have Qi:ck a.az "put" (lg a.az a.cL a.cg) [] E0 (ai 2) (ah (aH (eO K) [] E0 (ah (ai 0) (ah (aP bE (aP bE (ai 1) (aP dm (tC (.int 4)) (ai 4))) (tC (.int 2))) (ah (aP bE (ai 5) (tC (.int 1))) av)))) (ah (aH (jb K) [] E0 (ah (ai 0) (ah (aP bE (aP bE (ai 1) (aP dm (tC (.int 4)) (ai 4))) (tC (.int 3))) av))) av)) [some (.ref sc),some (.int k),some (.ref (S'.f i).x),some (.int m),some (.int d),some (.int zs.length),some (.int w)] H2 λ_ H3=>Gd a.az H0 L h M H S [some (.ref sc),some (.int k),some (.ref (S'.f i).x),some (.int m)] (d+1) [some (.ref sc),some (.int k),some (.ref (S'.f i).x),some (.int m),some (.int d),some (.int zs.length),some (.int w)] H3:=by
   refine bL (T2.hnd i hi) (λR r=>⟨_,rfl,r⟩) rfl ?_;nofun;refine⟨jm (by decide) (by omega),⟨sc,ns,_,_,rfl,hS2,hl,by omega,by omega,by omega,λr r0 r1=>⟨jm (by decide) (by omega),⟨sc,ns,_,rfl,hS2,hl,by omega,by omega,λH3 t s3 th tl=>?_⟩⟩⟩⟩
   refine jc.put (T2.same s3) hi (by omega) (by omega) th Z r0 (by omega) λH4 S4 mk W4=>?_;exact fin H4 S4 (((dS.same T2 s3).trans W4).mono (by omega)) _ _ _
  have MD:KH (.int w) (.int 1)=true/\if w=1 then ck a.az "number" (lS a.az) [] E0 (ai 2) av [some (.ref sc),some (.int k),some (.ref (S'.f i).x),some (.int m),some (.int d),some (.int zs.length),some (.int w)] H2 λx H1=>KH x (.int 0)=true/\if x=.int 0 then ck a.az "renew" (g8 a.az a.cA) [] E0 (ai 2) av [some (.ref sc),some (.int k),some (.ref (S'.f i).x),some (.int m),some (.int d),some (.int zs.length),some (.int w)] H1 λ_ H3=>Gd a.az H0 L h M H S [some (.ref sc),some (.int k),some (.ref (S'.f i).x),some (.int m)] (d+1) [some (.ref sc),some (.int k),some (.ref (S'.f i).x),some (.int m),some (.int d),some (.int zs.length),some (.int w)] H3 else ck a.az "put" (lg a.az a.cL a.cg) [] E0 (ai 2) (ah (aH (eO K) [] E0 (ah (ai 0) (ah (aP bE (aP bE (ai 1) (aP dm (tC (.int 4)) (ai 4))) (tC (.int 2))) (ah (aP bE (ai 5) (tC (.int 1))) av)))) (ah (aH (jb K) [] E0 (ah (ai 0) (ah (aP bE (aP bE (ai 1) (aP dm (tC (.int 4)) (ai 4))) (tC (.int 3))) av))) av)) [some (.ref sc),some (.int k),some (.ref (S'.f i).x),some (.int m),some (.int d),some (.int zs.length),some (.int w)] H1 (λ_ H3=>Gd a.az H0 L h M H S [some (.ref sc),some (.int k),some (.ref (S'.f i).x),some (.int m)] (d+1) [some (.ref sc),some (.int k),some (.ref (S'.f i).x),some (.int m),some (.int d),some (.int zs.length),some (.int w)] H3) else ck a.az "put" (lg a.az a.cL a.cg) [] E0 (ai 2) (ah (aH (eO K) [] E0 (ah (ai 0) (ah (aP bE (aP bE (ai 1) (aP dm (tC (.int 4)) (ai 4))) (tC (.int 2))) (ah (aP bE (ai 5) (tC (.int 1))) av)))) (ah (aH (jb K) [] E0 (ah (ai 0) (ah (aP bE (aP bE (ai 1) (aP dm (tC (.int 4)) (ai 4))) (tC (.int 3))) av))) av)) [some (.ref sc),some (.int k),some (.ref (S'.f i).x),some (.int m),some (.int d),some (.int zs.length),some (.int w)] H2 (λ_ H3=>Gd a.az H0 L h M H S [some (.ref sc),some (.int k),some (.ref (S'.f i).x),some (.int m)] (d+1) [some (.ref sc),some (.int k),some (.ref (S'.f i).x),some (.int m),some (.int d),some (.int zs.length),some (.int w)] H3):=by
   refine⟨rfl,?_⟩
   by_cases e1:w=1
   ·rw[if_pos e1];refine bL (T2.hnd i hi) (λR r=>⟨_,rfl,r⟩) rfl ?_;refine⟨_,_,_,_,_,L,h,_,_,_,rfl,T2.hnd i hi,rfl,?_⟩
    by_cases z:V.int ((S'.f i).j:Int)=V.int 0
    ·rw[if_pos z];have jz:(S'.f i).j=0:=by injection z with z;omega
     have i0:i=0:=j0 (by rw[<-W.js i];exact jz);subst i0;refine bL (T2.hnd 0 hi) (λR r=>⟨_,rfl,r⟩) rfl ?_;nofun;exact jc.qD T2 (by omega) lb λH4 S4 b W4=>fin H4 S4 W4 _ _ _
    ·rw[if_neg z];exact Qi
   ·rw[if_neg e1];exact Qi
  nofun;refine⟨rfl,?_⟩
  by_cases e0:w=0
  ·rw[if_pos e0]
   by_cases zp:(0:Int)<zs.length
   ·rw[if_pos zp];refine bL (T2.hnd i hi) (λR r=>⟨_,rfl,r⟩) rfl ?_;nofun;refine⟨jm (by decide) (by omega),⟨sc,ns,_,_,rfl,hS2,hl,by omega,by omega,by omega,λr r0 r1=>?_⟩⟩;exact jc.take T2 hi (by omega) Z r0 (by omega) λH4 S4 mk W4=>fin H4 S4 W4 _ _ _
   ·rw[if_neg zp];exact MD
  ·rw[if_neg e0];exact MD
 rintro σ H' ⟨S',v4,v5,v6,W,rfl⟩;exact q H' S' (by simpa using W)
end K63
namespace K63
open PySem PySem.Spec PyProof.Rows L2 MM
theorem iy{N:Nat}{f:Nat->HR}{i:Nat}(h:i<N):(vN N f)[i]?=some (.ref (f i).x):=by
 unfold vN;rw[getElem?_map,getElem?_range h];rfl
theorem dB{N:Nat}{f:Nat->HR}:(vN N f).length=N:=by unfold vN;rw[length_map,length_range]
theorem Cf{N:Nat}{f g:Nat->HR}(h:∀k,(g k).x=(f k).x):vN N g=vN N f:=by
 unfold vN;exact List.map_congr_left λk _=>by rw[h k]
theorem JT(x:Nat)(xs:Uc):RL (.int (x:Nat)) (xs.map λj=>V.int (j:Nat))=decide (x∈xs):=by
 unfold RL;rw[List.any_map,Bool.eq_iff_iff,List.any_eq_true,decide_eq_true_eq];constructor
 ·rintro⟨y,hy,e⟩;have:(y:Int)=x:=by simpa [Kn] using e
  rw[<-show y=x by omega];exact hy
 ·intro h;exact⟨x,h,by simp[Kn]⟩
theorem Ge(xs:Uc):(xs.map λj=>V.int (j:Nat)).all m5=true:=by
 rw[List.all_map,all_eq_true];exact λ_ _=>rfl
structure TY(h:Nat)(js:Uc):Prop where
 hd:js[0]?=some 0
 nd:js.Nodup
 lt:∀j∈js,j<h
def Sv(H:Hp)(pn:Addr)(h:Nat)(σ0:Uh (Option V)):Nat->L2.St->Hp->Prop:=λi σ H'=>∃js v3 v4,Keeps [pn] H H'/\H' pn=some (.lst (js.map λj=>V.int (j:Nat)))/\TY h js/\js.length<=1+i/\σ=σ0++[v3,v4,none,none]
def Sw(C:Addr)(H0 H2:Hp)(L h:Nat)(js:Uc):Nat->Uh V->Hp->Prop:=λi ys H=>aF H2 H/\∃f,ys=vN i f/\(0<i->iz C H0 H L h 0 [] [] [] i f)/\∀k,k<i->js[k]?=some (f k).j
def Qj(C:Addr)(H0:Hp)(L h N:Nat)(H:Hp)(S:KS)(q:Nat)(σ0:Uh (Option V))(σ1:Uh (Option V)):Nat->L2.St->Hp->Prop:=λi σ H'=>∃S' v,dS C H0 L h N H S H' S' (q*i)/\σ=σ0++v::σ1
theorem Cg{K:PySem.W.Frag}{a:Ad}{N:Uh Str}{vs:Uh V}{H:Hp}{Q:VK}{E:XK}(hN:N.length=7)(h:xT K a.az vs H Q E):rK K a {nx:=λ_ H'=>Q .non H',rt:=Q} (L2.start N vs) H:=by
 obtain⟨sc,ps,ns,L,h,rfl,hS,hl,eps,l2,l26,h1,hL,q⟩:=h;unfold rK L2.start;rw[hN];refine aW λc hc=>?_;nofun;refine⟨by decide,λpn hpn=>hc _ _ ?_⟩;clear hc c;have s1:=aF.up H hpn (o:=.lst [.int 0]);have e1:(upd H pn (.lst [.int 0])) pn=some (.lst (([0]:Uc).map λj=>V.int (j:Nat))):=aq;generalize upd H pn _=H1 at s1 e1 ⊢;refine aT λc hc=>?_;refine kN (j:=2) (λQ h=>by nofun;exact h) (by decide) (by decide) (Sv H1 pn h [some (.ref sc),some (.ref ps),some (.ref pn)]) ⟨[0],none,none,λ_ _ e _=>e,e1,⟨rfl,by simp,λj hj=>by rw[mem_singleton.mp hj];omega⟩,le_refl _,rfl⟩ ?_ ?_
 ·rintro i σ H' hi ⟨js,v3,v4,k',e',J,lj,rfl⟩;have sH:=dG s1 k' λb hb=>by rw[mem_singleton.mp hb];exact hpn
  simp only[cons_append,nil_append,aG,set_cons_zero,set_cons_succ];refine aW λc1 hc1=>?_;nofun;refine aZ (v:=.int h) (dU.of (sH _ _ eps)) (by decide) rfl ⟨sc,ns,_,_,rfl,sH.seq hS,hl,by omega,by omega,by omega,λr r0 r1=>hc1 _ _ ?_⟩;clear hc1 c1;obtain⟨r,rfl⟩:=eq_ofNat_of_zero_le r0;simp only[set_cons_zero,set_cons_succ];nofun;refine⟨pn,_,rfl,.inl (aX.of e'),rfl,Ge js,?_⟩;rw[if_pos rfl,JT];refine⟨_,rfl,?_⟩
  by_cases z:r∈js
  ·rw[decide_eq_true z,if_neg (by decide)];exact⟨js,_,_,k',e',J,by omega,rfl⟩
  ·rw[decide_eq_false z,if_pos (by decide)];refine⟨.inl ⟨rfl,_,aX.of e'⟩,gI e' (by rw[length_map];omega) ⟨js++[r],_,_,k'.upd (.inl mem_cons_self),by rw[aq,map_append];rfl,⟨?_,?_,λj hj=>?_⟩,by rw[length_append];simp only[length_cons,length_nil];omega,rfl⟩⟩
   ·rw[List.getElem?_append_left (List.getElem?_eq_some_iff.mp J.hd).1];exact J.hd
   ·exact nodup_append.mpr ⟨J.nd,by simp,λx hx y hy=>by rw[mem_singleton.mp hy];exact λw=>z (by rw[<-w];exact hx)⟩
   ·rcases mem_append.mp hj with h|h
    ·exact J.lt j h
    ·rw[mem_singleton.mp h];omega
 rintro σ H2 ⟨js,v3,v4,k2,e2,J,lj,rfl⟩;refine hc _ _ ?_;clear hc c;have s2:aF H H2:=dG s1 k2 λb hb=>by rw[mem_singleton.mp hb];exact hpn
 have lj3:js.length<=3:=lj;have lj1:0<js.length:=(List.getElem?_eq_some_iff.mp J.hd).1;clear lj k2 e1 s1;simp only[cons_append,nil_append];refine lz λc hc=>?_;refine kR (a:=pn) (xs:=js.map λj=>V.int (j:Nat)) (λQ h=>⟨_,rfl,h⟩) (aX.of e2) (Sw a.az H H2 L h js) ⟨aF.refl _,λ_=>F6 0 0 0 0 0 0,rfl,λz=>absurd z (Nat.lt_irrefl _),λk z=>absurd z (not_lt_zero _)⟩ (λi ys H' _ p=>by obtain⟨s',f,e,_⟩:=p;exact⟨aX.of (s' _ _ e2),by rw[e,dB];exact le_refl _⟩) (by rw[length_map,sizeLine_eq];omega) ?_ ?_
 ·rintro i v ys H' hv ⟨s',f,rfl,T,jn⟩ W hW;rw[getElem?_map] at hv;obtain⟨j,hj,rfl⟩:=map_eq_some_iff.mp hv;nofun;have D:jX L h j:=⟨by omega,by omega,J.lt j (mem_of_getElem? hj),by omega⟩;have Qk:=s' _ _ (s2 _ _ eps);refine uq D (λR z=>by nofun;exact aZ (v:=.int L) (dU.of Qk) (by decide) rfl (aZ (v:=.int h) (dU.of Qk) (by decide) rfl z)) λH3 x dx pr pt pk s3 S e g0 g1 g2 g3 g4=>hW _ _ ⟨s'.trans s3,zS f i (F6 x dx pr pt pk j),?_,λ_=>?_,λk hk=>?_⟩
  ·unfold vN;rw[range_succ,map_append];congr 1
   ·refine List.map_congr_left λk hk=>?_;rw[aU (ne_of_lt (mem_range.mp hk))]
   ·show [V.ref x]=[V.ref (zS f i (F6 x dx pr pt pk j) i).x];rw[aK];rfl
  ·rcases Nat.eq_zero_or_pos i with z|z
   ·subst z;have ej:j=0:=by rw[J.hd] at hj;exact(Option.some.inj hj).symm
    subst ej;have f2:∀{b},H' b=none->H b=none:=λe=>s2.bW (s'.bW e);exact iz.first D (s2.trans (s'.trans s3)) S e (f2 g0) (f2 g2) (f2 g3) (f2 g4) aK
   ·exact(T z).add s3 D S e g0 g2 g3 g4
  ·by_cases z:k=i
   ·rw[z,aK];exact hj
   ·rw[aU z];exact jn k (by omega)
 rintro ys H3a ⟨s3a,f,rfl,T,jn⟩ ph hph;refine hc _ _ ?_;clear hc c;rw[length_map] at T jn ⊢;generalize hM:js.length=M at T jn lj3 lj1 ⊢;have T3:=(T lj1).same (aF.up H3a hph (o:=.lst (vN M f)));have eph:(upd H3a ph (.lst (vN M f))) ph=some (.lst (vN M f)):=aq;have fph:H ph=none:=s2.bW (s3a.bW hph);have oph:Out M f ph:=Out.fresh (S:=⟨0,[],[],[],f⟩) (T lj1) hph;clear T;generalize upd H3a ph _=H3 at T3 eph ⊢;simp only[set_cons_zero,set_cons_succ];have j0:∀k,k<M->(f k).j=0->k=0:=λk hk e=>by
  have e1:=jn k hk;rw[e] at e1;exact(List.getElem?_inj (by omega) J.nd).mp (e1.trans J.hd.symm)
 refine aT λc hc=>?_;nofun;have hS3:=T3.bs.seq hS;refine cD (v:=.ref (f 0).x) (aX.of eph) (by decide) (iy lj1) ⟨sc,ns,_,_,rfl,hS3,hl,by decide,by decide,by decide,λr r0 r1=>?_⟩;obtain⟨r,rfl⟩:=eq_ofNat_of_zero_le r0;refine⟨sc,ns,100,r,H,L,h,M,⟨0,[],[],[],f⟩,0,rfl,hS,hl,by decide,by decide,by omega,lj1,T3,j0 0 lj1,by show 0+r<=30;omega,by show 0+r<=30;omega,λH4 S4 W4=>hc _ _ ?_⟩
 clear hc c;obtain⟨Ci,Oa⟩:=W4.out ph _ eph oph;rw[<-Cf (g:=S4.f) W4.xs] at Ci;have c4:S4.c<=5:=by have:=W4.c2;have:(⟨0,[],[],[],f⟩:KS).c=0:=rfl;omega
 have z4:S4.sz<=5:=by have:=W4.sz;have:(⟨0,[],[],[],f⟩:KS).sz=0:=rfl;omega
 have j04:∀k,k<M->(S4.f k).j=0->k=0:=λk hk e=>j0 k hk (by rw[<-W4.js k];exact e);have T4:=W4.T;clear W4 T3 eph oph jn j0;have M4:Gi L h S4.c S4.Bs S4.Ts S4.RR:=by
  unfold KS.sz at z4;exact⟨l2,l26,h1,hL,by omega,by omega,by omega,by omega⟩
 refine aT λc hc=>?_;refine rC ?_;nofun;refine ug (aX.of Ci) λpsl Ql=>?_;rw[show (some 1:Option Int)=some ((1:Nat):Int) from rfl,pV (by rw[dB];exact lj1)];have s45:=aF.up H4 Ql (o:=.lst ((vN M S4.f).drop 1));have esl:(upd H4 psl (.lst ((vN M S4.f).drop 1))) psl=some (.lst ((vN M S4.f).drop 1)):=aq;have osl:Out M S4.f psl:=Out.fresh T4 Ql;generalize upd H4 psl _=H5 at s45 esl ⊢;have T5:=T4.same s45;have Ob:=s45 _ _ Ci;refine nj (a:=psl) (xs:=(vN M S4.f).drop 1) (λQ h=>h) (aX.of esl) (Qj a.az H L h M H5 S4 0 [some (.ref sc),some (.ref ps),some (.ref pn),v3,v4,some (.ref ph)] []) ⟨S4,none,dS.same T5 (aF.refl _),rfl⟩ (λi σ H' _ p=>by obtain⟨S',v,W,_⟩:=p;exact aX.of (W.out psl _ esl osl).1) ?_ ?_
 ·rintro i x σ H' hx ⟨S',v,W,rfl⟩;rw[List.getElem?_drop] at hx;have hi:1+i<M:=by
   have:=(List.getElem?_eq_some_iff.mp hx).1;rw[dB] at this;exact this
  rw[iy hi] at hx;cases hx;have T':=W.T;obtain⟨uX,Oc⟩:=W.out ph _ Ob Oa;have c':=W.c2;have z':=W.sz;have M':Gi L h S'.c S'.Bs S'.Ts S'.RR:=by
   have e:S'.sz=S'.Bs.length+S'.Ts.length+S'.RR.length:=rfl;exact⟨l2,l26,h1,hL,by omega,by omega,by omega,by omega⟩
  rw[<-W.xs (1+i)];nofun;refine bL (T'.hnd _ hi) (λR r=>⟨_,rfl,r⟩) rfl ?_;unfold ah ck;nofun;refine cD (v:=.ref (S4.f 0).x) (aX.of uX) (by decide) (iy lj1) ?_;rw[<-W.xs 0];refine⟨_,rfl,_,_,(T'.hnd 0 lj1).ins,rfl,?_⟩;refine iz.told T' lj1 M' λH6 p os s6 A fr=>?_;refine jc.lay (T'.same s6) hi A M' λH7 S7 W7 _ _ _ _ _ _ _ _=>⟨S7,_,(W.trans ((dS.same T' s6).trans W7)).mono (by omega),rfl⟩
 rintro σ H6 ⟨S6,v6,W6,rfl⟩;refine hc _ _ ?_;clear hc c;obtain⟨LW,Qm⟩:=W6.out ph _ Ob Oa;rw[<-Cf (g:=S6.f) W6.xs] at LW;have c6:S6.c<=5:=by have:=W6.c2;omega
 have z6:S6.sz<=5:=by have:=W6.sz;omega
 have j06:∀k,k<M->(S6.f k).j=0->k=0:=λk hk e=>j04 k hk (by rw[<-W6.js k];exact e);have T6:=W6.T;clear W6 T5 T4 Ci Oa Ob esl osl j04;simp only[cons_append,nil_append];refine aT λc hc=>?_;refine kN (j:=M) (λQ h=>by nofun;exact bZ (aX.of LW) (by rw[dB];exact h)) (by omega) (by omega) (Qj a.az H L h M H6 S6 6 [some (.ref sc),some (.ref ps),some (.ref pn)] [v4,some (.ref ph),v6]) ⟨S6,v3,dS.same T6 (aF.refl _),rfl⟩ ?_ ?_
 ·rintro i σ H' hi ⟨S',v,W,rfl⟩;have hi':i<M:=by omega
  have T':=W.T;obtain⟨uX,Oc⟩:=W.out ph _ LW Qm;have c':=W.c2;have z':=W.sz;nofun;refine⟨jm (by decide) (by omega),cD (v:=.ref (S6.f i).x) (aX.of uX) (by omega) (iy hi') ⟨sc,ns,_,_,rfl,T'.bs.seq hS,hl,by omega,by omega,by decide,λr r0 r1=>?_⟩⟩;obtain⟨r,rfl⟩:=eq_ofNat_of_zero_le r0;rw[<-W.xs i];refine⟨sc,ns,_,r,H,L,h,M,S',i,rfl,hS,hl,by omega,by omega,by omega,hi',T',λe=>j06 i hi' (by rw[<-W.js i];exact e),by omega,by omega,λH7 S7 W7=>⟨S7,_,(W.trans W7).mono (by omega),rfl⟩⟩
 rintro σ H7 ⟨S7,v7,W7,rfl⟩;refine hc _ _ ?_;clear hc c;obtain⟨Qn,Sx⟩:=W7.out ph _ LW Qm;rw[<-Cf (g:=S7.f) W7.xs] at Qn;have c7:=W7.c2;have z7:=W7.sz;rw[show ((M:Nat):Int).toNat=M from rfl] at c7 z7;nofun;exact q H7 M S7 ph W7.T lj3 Qn Sx fph (by omega) (by omega)
end K63
namespace K63
open PySem PySem.Spec PyProof.Rows L2 MM
def Sy(H:Hp)(F:Uh Addr)(σ0 σ1:Uh (Option V)):Nat->L2.St->Hp->Prop:=λi σ H'=>∃v,Keeps F H H'/\(∀d∈F,∃ys,H' d=some (.lst ys)/\ys.length<=100+i)/\σ=σ0++v::σ1
theorem Cj{K:W.Frag}{a:Ad}{N:Uh Str}{vs:Uh V}{H:Hp}{Q:VK}{E:XK}(hN:N.length=7)(h:xU K a.az vs H Q E):iJ K a {nx:=λ_ H'=>Q .non H',rt:=Q} (L2.start N vs) H:=by
 obtain⟨p,q,ps,L,h,S,ss,ks,kn,tk,n,rfl,ep,eq,eps,A,B,lsk,l0,l3,M,fin⟩:=h;have l2:=M.l2;have l26:=M.l26;have hL:=M.hL;have h1:=M.h1;have hR:=M.hR;have hB:=M.hB;obtain⟨s0,es0⟩:=some_at (l:=ss) (i:=0) l0;obtain⟨k0,ek0⟩:=some_at (l:=ks) (i:=0) (by omega);obtain⟨o0,A0⟩:=A.at_ 0 s0 es0;obtain⟨u0,B0⟩:=B.at_ 0 k0 ek0;have e0:(ss.map V.ref)[(0:Int).toNat]?=some (.ref s0):=by show (ss.map V.ref)[0]?=_;rw[getElem?_map,es0];rfl
 have g0:(ks.map V.ref)[(0:Int).toNat]?=some (.ref k0):=by show (ks.map V.ref)[0]?=_;rw[getElem?_map,ek0];rfl
 obtain⟨sl,esl⟩:∃sl,ss.getLast?=some sl:=by
  cases ss with
  |nil=>cases es0
  |cons x xs=>exact⟨_,List.getLast?_cons⟩
 have elr:(ss.map V.ref).getLast?=some (.ref sl):=by rw[List.getLast?_map,esl];rfl
 have hsl:ss[ss.length-1]?=some sl:=by rw[<-List.getLast?_eq_getElem?];exact esl
 obtain⟨ol,Al⟩:=A.at_ _ sl hsl;unfold iJ L2.start;rw[hN];refine aW λc hc=>?_;nofun;refine cD (v:=.ref s0) (aX.of ep) (by decide) e0 ?_;refine vm (aX.of ep) elr ?_;refine A0.MA Al M λH1 o vs s1 G nd fr=>hc _ _ ?_;clear hc c;obtain⟨⟨o1,o2,o3,ds,us,zs,ws,rfl,SG,KG⟩,-,-,-⟩:=G;have kz:ws.length<=62/\zs.length<=62:=by
  have:=KG.nf.len l2 λr hr=>(KG.ro r hr).1;have:=M.hT;omega
 have dl:=SG.row.len;have rl:(S.RR.take (max (n 0) (n (ss.length-1)))).length<=31:=by rw[length_take];omega
 simp only[nodup_cons,mem_cons,not_or] at nd;obtain⟨⟨n01,n02,n03,n0d⟩,⟨n12,n13,n1d⟩,⟨n23,n2d⟩,n3d,ndd⟩:=nd;simp only[set_cons_zero,set_cons_succ,replicate_succ,replicate_zero,length_cons,length_nil,Nat.reduceAdd,Nat.reduceSub,map_cons,map_nil,cons_append,nil_append];refine aT λc hc=>?_;nofun;refine aZ (v:=.ref o1) (dU.of SG.top) (by decide) rfl ⟨.inl ⟨rfl,_,aX.of SG.ren⟩,by decide,λpe hpe=>?_⟩
 have s2:=aF.up H1 hpe (o:=.lst []);have epe:(upd H1 pe (.lst [])) pe=some (.lst []):=aq;have Qo:pe≠o1:=Ne.symm (fresh_ne SG.ren hpe);have fpe:H pe=none:=s1.bW hpe;have TZ:pe≠o2:=Ne.symm (fresh_ne SG.thi hpe);have T7:pe≠o3:=Ne.symm (fresh_ne SG.tak hpe);generalize upd H1 pe _=H2 at s2 epe ⊢;have SG2:=SG.same s2;refine gI SG2.ren (by rw[length_map];omega) (hc _ _ ?_);clear hc c;have e1:(upd H2 o1 (.lst (ds.map V.ref++[.ref pe]))) o1=some (.lst ((ds++[pe]).map V.ref)):=by rw[aq,map_append];rfl
 have k3:Keeps [o1] H2 (upd H2 o1 (.lst (ds.map V.ref++[.ref pe]))):=Keeps.upd (λ_ _ e _=>e) (.inl mem_cons_self);generalize upd H2 o1 _=H3 at e1 k3 ⊢;have Od:=k3 _ _ SG2.top (by simpa using n01);have Qp:=k3 _ _ SG2.thi (by simpa using Ne.symm n12);have Qq:=k3 _ _ SG2.tak (by simpa using Ne.symm n13);have kH3:Keeps (o1::o2::o3::(ds++[pe])) H1 H3:=λb ob e nb=>k3 b ob (s2 b ob e) (λz=>nb (by rw[mem_singleton.mp z];exact mem_cons_self));have dsl:∀d∈ds++[pe],∃ys,H3 d=some (.lst ys)/\ys.length<=100+0:=λd hd=>by
  rcases mem_append.mp hd with z|z
  ·obtain⟨i,hi,ei⟩:=mem_iff_getElem.mp z;obtain⟨r,xs,er,ex,px⟩:=SG2.row.get (i:=i) (a:=d) (by rw[getElem?_eq_getElem hi,ei]);have hr:=(KG.ro r (mem_of_getElem? er)).2.1;have:=px.len;rw[length_map] at this;exact⟨xs,k3 _ _ ex (λy=>n1d (by rw[<-mem_singleton.mp y];exact z)),by omega⟩
  ·rw[mem_singleton.mp z];exact⟨[],k3 _ _ epe (by simpa using Qo),by simp⟩
 refine aT λc hc=>?_;refine rC ?_;nofun;refine aZ (v:=.ref o1) (dU.of Od) (by decide) rfl ?_;have o1d:¬o1∈ds++[pe]:=λz=>by
  rcases mem_append.mp z with z|z
  ·exact n1d z
  ·exact Qo (mem_singleton.mp z).symm
 refine nj (a:=o1) (xs:=(ds++[pe]).map V.ref) (λQ h=>h) (aX.of e1) (Sy H3 (ds++[pe]) [some (.ref p),some (.ref q),some (.ref ps),some (.ref o)] [none,none]) ⟨none,λ_ _ e _=>e,dsl,rfl⟩ (λi σ H' _ w=>by obtain⟨v,k,_⟩:=w;exact aX.of (k _ _ e1 o1d)) ?_ ?_
 ·rintro i x σ H' hx ⟨v,k',d',rfl⟩;rw[getElem?_map] at hx;obtain⟨d,hd,rfl⟩:=map_eq_some_iff.mp hx;have hdm:=mem_of_getElem? hd;obtain⟨ys,ey,ly⟩:=d' d hdm;have li:i<=40:=by
   have:=(List.getElem?_eq_some_iff.mp hd).1;rw[length_append] at this;simp only[length_cons,length_nil] at this;omega
  nofun;refine⟨.inl ⟨rfl,_,aX.of ey⟩,by decide,λt ht=>?_⟩
  have nt:d≠t:=fresh_ne ey ht;refine gI (xs:=ys) (by rw[aE nt];exact ey) (by omega) ⟨_,(k'.upd (.inr ht)).upd (.inl hdm),λd2 hd2=>?_,rfl⟩
  by_cases z:d2=d
  ·exact⟨_,by rw[z,aq],by rw[length_append];simp only[length_cons,length_nil];omega⟩
  ·obtain⟨ys2,ey2,ly2⟩:=d' d2 hd2;exact⟨ys2,by rw[aE z,aE (fresh_ne ey2 ht)];exact ey2,by omega⟩
 rintro σ H4 ⟨v4,k4,d4,rfl⟩;refine hc _ _ ?_;clear hc c;have nd4:∀{b:Addr} {ob:HO},H1 b=some ob->¬b∈ds->¬b∈ds++[pe]:=λe nb z=>by
  rcases mem_append.mp z with z|z
  ·exact nb z
  ·exact fresh_ne e hpe (mem_singleton.mp z)
 have Oe:=k4 _ _ Od (nd4 SG.top n0d);have LX:=k4 _ _ Qp (nd4 SG.thi n2d);have Qs:=k4 _ _ Qq (nd4 SG.tak n3d);have tsl:=SG.prs.len;rw[length_map] at tsl;simp only[cons_append,nil_append];refine aT λc hc=>?_;nofun;refine aZ (v:=.ref o2) (dU.of Oe) (by decide) rfl ⟨.inl ⟨rfl,_,aX.of LX⟩,by decide,λt ht=>?_⟩
 refine gI (xs:=us) (by rw[aE (fresh_ne LX ht)];exact LX) (by omega) (hc _ _ ?_);clear hc c;have k5:Keeps [o2] H4 (upd (upd H4 t (.tup [.str (txt [98]),.str (txt [98])])) o2 (.lst (us++[.ref t]))):=(Keeps.upd (λ_ _ e _=>e) (.inr ht)).upd (.inl mem_cons_self);generalize upd (upd H4 t _) o2 _=H5 at k5 ⊢;have Qt:=k5 _ _ Oe (by simpa using n02);have Of:=k5 _ _ Qs (by simpa using Ne.symm n23);refine aT λc hc=>?_;nofun;refine aZ (v:=.ref o3) (dU.of Qt) (by decide) rfl ⟨.inl ⟨rfl,_,aX.of Of⟩,gI Of (by rw[length_map];omega) (hc _ _ ?_)⟩;clear hc c;have k6:Keeps [o3] H5 (upd H5 o3 (.lst (ws.map aD++[.str (txt [98])]))):=Keeps.upd (λ_ _ e _=>e) (.inl mem_cons_self);generalize upd H5 o3 _=H6 at k6 ⊢;have s6:aF H H6:=by
  refine dG (F:=o1::o2::o3::(ds++[pe])) s1 (λb ob e nb=>?_) λb hb=>?_
  ·simp only[mem_cons,not_or] at nb;exact k6 _ _ (k5 _ _ (k4 _ _ (kH3 _ _ e (by simp only[mem_cons,not_or];exact nb)) nb.2.2.2) (by simpa using nb.2.1)) (by simpa using nb.2.2.1)
  ·simp only[mem_cons] at hb
   rcases hb with rfl|rfl|rfl|hb
   ·exact fr _ (by simp)
   ·exact fr _ (by simp)
   ·exact fr _ (by simp)
   ·rcases mem_append.mp hb with z|z
    ·exact fr b (by simp[z])
    ·rw[mem_singleton.mp z];exact fpe
 clear k6 k5 k4 k3 kH3 dsl d4 Qt Of Oe LX Qs Od Qp Qq SG SG2 s2 e1 epe;have Qu:=s6 _ _ eps;refine aW λc hc=>?_;refine uq (L:=L) (h:=h) (j:=0) ⟨l2,l26,by omega,hL⟩ (λR z=>by nofun;exact aZ (v:=.int L) (dU.of Qu) (by decide) rfl (aZ (v:=.int h) (dU.of Qu) (by decide) rfl z)) λH7 x dx pr pt pk s67 S7 er7 gx gd gr gt gk=>hc _ _ ?_
 clear hc c;have s7:=s6.trans s67;simp only[set_cons_zero,set_cons_succ];refine aT λc hc=>?_;nofun;refine bL S7 (λR r=>⟨_,rfl,r⟩) rfl ?_;nofun;refine cD (v:=.ref s0) (aX.of (s7 _ _ ep)) (by decide) e0 ?_;refine Dw S7 er7 (A0.same s7) M λH8 pr8 pt8 pk8 as8 xs8 js8 k8 S8 R8 W8 f1 f2 f3 f4=>hc _ _ ?_;clear hc c;have s8:aF H H8:=dG s7 k8 λb hb=>by rw[mem_singleton.mp hb];exact s6.bW gx
 have Og:=s8 _ _ eps;refine aW λc hc=>?_;refine uq (L:=L) (h:=h) (j:=h-1) ⟨l2,l26,by omega,hL⟩ (λR z=>by nofun;exact aZ (v:=.int L) (dU.of Og) (by decide) rfl (aZ (v:=.int h) (dU.of Og) (by decide) rfl (aZ (v:=.int h) (dU.of Og) (by decide) rfl ⟨_,rfl,by rw[show ((h:Int)-1)=((h-1:Nat):Int) by omega];exact z⟩))) λH9 y dy qr qt qk s89 S9 er9 gy gdy gqr gqt gqk=>hc _ _ ?_
 clear hc c;have s9:=s8.trans s89;simp only[set_cons_zero,set_cons_succ];refine aT λc hc=>?_;nofun;refine bL S9 (λR r=>⟨_,rfl,r⟩) rfl ?_;nofun;refine cD (v:=.ref s0) (aX.of (s9 _ _ ep)) (by decide) e0 ?_;refine Dw S9 er9 (A0.same s9) M λHA qrA qtA qkA asA xsA jsA kA SA RA WA a1 a2 a3 a4=>hc _ _ ?_;clear hc c;have s8A:aF H8 HA:=dG s89 kA λb hb=>by rw[mem_singleton.mp hb];exact gy
 have sA:=s8.trans s8A;have FA:=S8.same s8A;have RF:=R8.same s8A;have w8:=W8.tl;have wA:=WA.tl;have hc8:=M.hc;have rl0:(S.RR.take (n 0)).length<=31:=by rw[length_take];omega
 refine aT λc hc=>?_;nofun;refine bL FA (λR r=>⟨_,rfl,r⟩) rfl ?_;nofun;refine⟨x,dx,pr8,pt8,pk8,L,h,0,xs8,js8,S.Bs.length,S.c+8*(S.RR.take (n 0)).length,as8,S.RR.take (n 0),rfl,FA,⟨l2,l26,by omega,hL⟩,W8.kw,by omega,RF,by omega,λz=>absurd rfl z,λ_ HB zB m pt' pk' r ys qq AK IR kB SB RB _ _ _ _ _ _ _=>hc _ _ ?_⟩
 clear hc c;have sB:aF H HB:=dG sA kB λb hb=>by
  simp only[mem_cons,not_mem_nil,or_false] at hb
  rcases hb with rfl|rfl
  ·exact s6.bW gx
  ·exact s7.bW f1
 have ot:∀{b:Addr},H8 b=none->b∉[x,pr8]:=λe z=>by
  simp only[mem_cons,not_mem_nil,or_false] at z
  rcases z with rfl|rfl
  ·rw[S8.ins] at e;cases e
  ·rw[R8.lst] at e;cases e
 have YB:=SA.keep kB (ot gy) (ot gdy) (ot (s89.bW a2)) (ot (s89.bW a3));have YR:=RA.keep kB (λt ht zs e=>by
  simp only[mem_cons,not_mem_nil,or_false] at ht
  rcases ht with rfl|rfl
  ·rw[FA.ins] at e;cases e
  ·rw[RF.lst] at e;cases e) (ot (s89.bW a1)) λb hb=>ot (s89.bW (a4 b hb))
 nofun;refine Ja (sB _ _ ep) (sB _ _ eq) lsk (λi s k ha hb=>?_) ⟨_,rfl,?_⟩
 ·obtain⟨os,X⟩:=A.at_ i s ha;obtain⟨us,Y⟩:=B.at_ i k hb;obtain⟨p1,p2,p3,bs,ts,q1,q2,q3,cs,vs,zs,ws,P1,P2,ok⟩:=(X.same sB).two (Y.same sB) (λ_=>Iff.rfl) (λ_=>Iff.rfl) rfl l26;exact⟨p1,p2,p3,bs,ts,q1,q2,q3,cs,vs,L,h,_,zs,ws,P1,P2,ok⟩
 rw[if_pos rfl];refine bL YB (λR r=>⟨_,rfl,r⟩) rfl ?_;nofun;refine⟨y,dy,qrA,qtA,qkA,L,h,h-1,xsA,jsA,asA,S.RR.take (n 0),rfl,YB,by omega,WA.kw.nd,by omega,WA.kw.tnd,YR.lst,YR.row,by omega,λHC st st1 st2 st3 sbs sts zC wC sC TD SC _ _=>?_⟩;have XC:jH HC L h S st (st1::st2::st3::sbs) (kn 0) (tk 0) (n 0):=⟨⟨st1,st2,st3,sbs,sts,zC,wC,rfl,SC,WA.told TD⟩,A0.nl,A0.kb,A0.tb⟩;have sBC:=sB.trans sC;obtain⟨p1,p2,p3,bs,ts,q1,q2,q3,cs,vs,zs,ws,P1,P2,ok⟩:=XC.two (B0.same sBC) (λ_=>Iff.rfl) (λ_=>Iff.rfl) rfl l26;refine cD (v:=.ref k0) (aX.of (sBC _ _ eq)) (by decide) g0 (FO P1 P2 ok ⟨_,rfl,?_⟩);rw[if_pos rfl];refine bL (SB.same sC) (λR r=>⟨_,rfl,r⟩) rfl ?_;nofun;refine⟨_,_,_,_,_,L,h,0,_,_,_,rfl,SB.same sC,sC _ _ RB.lst,?_⟩;refine cD (v:=.ref k0) (aX.of (sBC _ _ eq)) (by decide) g0 (aZ (v:=.ref q1) (dU.of P2.top) (by decide) rfl (bZ (aX.of P2.ren) ⟨_,rfl,rfl,?_⟩));rw[length_map,length_map,length_append,R8.row.len,P2.row.len];rw[decide_eq_true (by simp)];exact fin _ sBC
end K63
namespace K63
open PySem PySem.Spec PyProof.Rows L2 MM
def SO(H:Hp)(L h N:Nat)(S:KS)(ss:Uh Addr)(kn tk:Nat->Nat->Prop)(n:Nat->Nat):Prop:=∀(i:Nat) s,ss[i]?=some s->∃os,jH H L h S s os (kn i) (tk i) (n i)/\∀b∈os,Out N S.f b
section
variable{C:Addr}{H0 H H':Hp}{L h N m:Nat}{S S':KS}{ss:Uh Addr}{kn tk:Nat->Nat->Prop}{n:Nat->Nat}
theorem SO.same(A:SO H L h N S ss kn tk n)(s:aF H H'):SO H' L h N S ss kn tk n:=λi x e=>by
 obtain⟨os,X,o⟩:=A i x e;exact⟨os,X.same s,o⟩
theorem SO.sts(A:SO H L h N S ss kn tk n):Su H L h S ss kn tk n:=⟨λi x e=>by
 obtain⟨os,X,_⟩:=A i x e;exact⟨os,X⟩⟩
theorem SO.IZ(A:SO H L h N S ss kn tk n)(W:dS C H0 L h N H S H' S' m):SO H' L h N S' ss kn tk n:=λi x e=>by
 obtain⟨os,X,o⟩:=A i x e;obtain⟨X',o'⟩:=qG.IZ X o W;exact⟨os,X',o'⟩
theorem SO.snoc{s:Addr}{os:Uh Addr}(A:SO H L h N S ss kn tk n)(X:jH H L h S s os (kn ss.length) (tk ss.length) (n ss.length))(o:∀b∈os,Out N S.f b):SO H L h N S (ss++[s]) kn tk n:=λi x e=>by
 by_cases z:i<ss.length
 ·rw[List.getElem?_append_left z] at e;exact A i x e
 ·rw[getElem?_append_right (by omega)] at e;have hi:i-ss.length=0:=by
   cases hh:i-ss.length with
   |zero=>rfl
   |succ k=>rw[hh] at e;simp at e
  rw[hi] at e;cases e;have:i=ss.length:=by omega
  subst this;exact⟨os,X,o⟩
end
def Sz(H:Hp)(L h M:Nat)(S:KS):Nat->Uh V->Hp->Prop:=λi ys H'=>aF H H'/\∃ss:Uh Addr,ys=ss.map V.ref/\ss.length=i/\SO H' L h M S ss (λk=>(S.f k).kn) (λk=>(S.f k).tk) (λk=>(S.f k).n)
def SE(H:Hp)(σ0 σ1:Uh (Option V)):Nat->L2.St->Hp->Prop:=λi σ H'=>∃v,H'=H/\σ=σ0++v::σ1
theorem d9.SH{H:Hp}{xs:Uh V}{zs:Ue}(p:d9 H xs (zs.map zM)){i:Nat}{x:V}(e:xs[i]?=some x):∃z t,zs[i]?=some z/\x=.ref t/\H t=some (.tup [aD z.1,aD z.2]):=by
 obtain⟨kv,t,ek,rfl,ht⟩:=p.get e;rw[getElem?_map] at ek;obtain⟨z,ez,rfl⟩:=map_eq_some_iff.mp ek;exact⟨z,t,ez,rfl,ht⟩
def U3(kn:Nat->Nat->Prop)(M k:Nat):Prop:=(kn 0 k\/kn (M-1) k)\/kn (M/2) k
def n3(n:Nat->Nat)(M:Nat):Nat:=max (max (n 0) (n (M-1))) (n (M/2))
theorem U3.of{kn:Nat->Nat->Prop}{M k i:Nat}(h:kn i k)(hi:i<M)(hM:M<=3):U3 kn M k:=by
 have:i=0\/i=M-1\/i=M/2:=by omega
 rcases this with rfl|rfl|rfl
 ·exact .inl (.inl h)
 ·exact .inl (.inr h)
 ·exact .inr h
theorem n3.of{n:Nat->Nat}{M i:Nat}(hi:i<M)(hM:M<=3):n i<=n3 n M:=by
 have:i=0\/i=M-1\/i=M/2:=by omega
 unfold n3
 rcases this with rfl|rfl|rfl<;>omega
structure qU(C:Addr)(H0:Hp)(L h M:Nat)(H:Hp)(S:KS)(kn tk:Nat->Nat->Prop)(n:Nat->Nat)(H':Hp)(S':KS):Prop where
 W:dS C H0 L h M H S H' S' 0
 ec:S'.c=S.c
 eB:S'.Bs=S.Bs
 eT:S'.Ts=S.Ts
 eR:S'.RR=S.RR
 sk:∀i,i<M->∀k,(S'.f i).kn k->U3 kn M k
 st:∀i,i<M->∀k,(S'.f i).tk k->U3 tk M k
 sn:∀i,i<M->(S'.f i).n<=n3 n M
section
variable{C:Addr}{H0 H H1 H' H2:Hp}{L h M:Nat}{S S':KS}{kn tk:Nat->Nat->Prop}{n:Nat->Nat}{Q:VK}{E:XK}
theorem qU.lim(A:qU C H0 L h M H S kn tk n H' S')(lim:Gi L h S.c S.Bs S.Ts S.RR):Gi L h S'.c S'.Bs S'.Ts S'.RR:=by
 rw[A.ec,A.eB,A.eT,A.eR];exact lim
theorem qU.same(A:qU C H0 L h M H S kn tk n H' S')(s:aF H' H2):qU C H0 L h M H S kn tk n H2 S':=
 {A with W:=(A.W.trans (dS.same A.W.T s)).mono (by omega)}
theorem qU.lay{K:W.Frag}{p:Addr}{os:Uh Addr}{kn' tk':Nat->Prop}{n' i:Nat}(A:qU C H0 L h M H S kn tk n H' S')(lim:Gi L h S.c S.Bs S.Ts S.RR)(hi:i<M)(X:jH H' L h S' p os kn' tk' n')(hk:∀k,kn' k->U3 kn M k)(ht:∀k,tk' k->U3 tk M k)(hn:n'<=n3 n M)
  (q:∀H2 S2,qU C H0 L h M H S kn tk n H2 S2->dS C H0 L h M H' S' H2 S2 0->(∀k,k≠i->S2.f k=S'.f k)->(S2.f i).n=max (S'.f i).n n'->((S2.f i).kn=λk=>(S'.f i).kn k\/kn' k)->((S2.f i).tk=λk=>(S'.f i).tk k\/tk' k)->Q .non H2):gv K C [.ref (S'.f i).x,.ref p] H' Q E:=by
 refine jc.lay A.W.T hi X (A.lim lim) λH2 S2 W2 c2 b2 t2 r2 ot en ek et=>q H2 S2 ?_ W2 ot en ek et;refine⟨(A.W.trans W2).mono (by omega),c2.trans A.ec,b2.trans A.eB,t2.trans A.eT,r2.trans A.eR,λj hj k=>?_,λj hj k=>?_,λj hj=>?_⟩
 ·by_cases z:j=i
  ·rw[z,ek];rintro(y|y)
   ·exact A.sk i hi k y
   ·exact hk k y
  ·rw[ot j z];exact A.sk j hj k
 ·by_cases z:j=i
  ·rw[z,et];rintro(y|y)
   ·exact A.st i hi k y
   ·exact ht k y
  ·rw[ot j z];exact A.st j hj k
 ·by_cases z:j=i
  ·rw[z,en];have:=A.sn i hi;omega
  ·rw[ot j z];exact A.sn j hj
end
theorem LY{K:W.Frag}{H:Hp}{p p2:Addr}{xs:Ud}{Q:VK}(h1:H p=some (.lst (xs.map aD)))(h2:H p2=some (.lst (xs.map aD)))(ok:∀y∈xs,PyData.strOk (txt y)=true)(q:Q (.bl false) H):Mu K (.ref p) (.ref p2) H Q:=by
 refine⟨p,p2,xs,xs,rfl,rfl,aX.of h1,aX.of h2,ok,ok,?_⟩;rw[show (!decide (xs=xs))=false by simp]
 exact q
theorem Ck{L c:Nat}{Bs:Uh uH}{Ts:Uh uI}{kn tk kn' tk':Nat->Prop}{R:Uh (Uh bQ)}{kvs kvs':Ue}{ks ks' zs zs':Ud}(A:HK L c Bs Ts kn tk R kvs ks)(B:HK L c Bs Ts kn' tk' R kvs' ks')(e:∀k,kn k↔kn' k)(g:∀k,tk k↔tk' k)(Z:jZ kvs ks zs)(Z':jZ kvs' ks' zs'):zs=zs':=by
 obtain⟨z,w,T,F⟩:=A.nf;obtain⟨z',w',T',F'⟩:=B.nf;obtain⟨rfl,rfl⟩:=F.one F' e g;refine IW Z.up Z'.up λm=>?_;rw[Z.mem,Z'.mem,<-(T.perm.map _).mem_iff,<-(T'.perm.map _).mem_iff,<-T.tperm.mem_iff,<-T'.tperm.mem_iff]
def Full(kn tk:Nat->Nat->Prop)(n:Nat->Nat)(M:Nat)(r:HR):Prop:=(∀k,U3 kn M k->r.kn k)/\(∀k,U3 tk M k->r.tk k)/\n3 n M<=r.n
def SI(C:Addr)(H0:Hp)(L h M:Nat)(H:Hp)(S:KS)(kn tk:Nat->Nat->Prop)(n:Nat->Nat)(σ0:Uh (Option V))(v13:Option V):Nat->L2.St->Hp->Prop:=λi σ H'=>∃S' v12 v14,qU C H0 L h M H S kn tk n H' S'/\(∀j,j<i->Full kn tk n M (S'.f j))/\σ=σ0++[v12,v13,v14]
def SM(C:Addr)(H0:Hp)(L h M:Nat)(H:Hp)(S:KS)(kn tk:Nat->Nat->Prop)(n:Nat->Nat)(S1:KS)(i:Nat)(σ0:Uh (Option V)):Nat->L2.St->Hp->Prop:=λj σ H'=>∃S' v14,qU C H0 L h M H S kn tk n H' S'/\(∀k,k≠i->S'.f k=S1.f k)/\(∀t,t<j->(∀k,kn t k->(S'.f i).kn k)/\(∀k,tk t k->(S'.f i).tk k)/\n t<=(S'.f i).n)/\σ=σ0++[v14]
theorem U3.all{kn:Nat->Nat->Prop}{M:Nat}(hM:0<M){P:Nat->Prop}(h:∀t,t<M->∀k,kn t k->P k):∀k,U3 kn M k->P k:=by
 rintro k ((e|e)|e)
 ·exact h 0 hM k e
 ·exact h (M-1) (by omega) k e
 ·exact h (M/2) (by omega) k e
def Qv(C:Addr)(H0:Hp)(L h M:Nat)(H:Hp)(S:KS)(kn tk:Nat->Nat->Prop)(n:Nat->Nat)(σ0:Uh (Option V)):Nat->L2.St->Hp->Prop:=λi σ H'=>∃S' v12 v13,qU C H0 L h M H S kn tk n H' S'/\σ=σ0++[v12,v13,none]
theorem JU{K:PySem.W.Frag}{a:Ad}{N:Uh Str}{vs:Uh V}{H:Hp}{Q:VK}{E:XK}(hN:N.length=15)(h:Dz K vs H Q E):xV K a {nx:=λ_ H'=>Q .non H',rt:=Q} (L2.start N vs) H:=by
 obtain⟨sc,ns,rfl,hS,hl,fin⟩:=h;unfold xV L2.start;rw[hN];refine aW λc hc=>?_;nofun;refine⟨sc,ns,rfl,hS,hl,λH1 ps L h s1 eps l2 l26 h1 hL=>hc _ _ ?_⟩;clear hc c;have hS1:=s1.seq hS;simp only[set_cons_zero,set_cons_succ,replicate_succ,replicate_zero,map_cons,map_nil,cons_append,nil_append];refine aW λc hc=>?_;nofun;refine⟨sc,ps,ns,L,h,rfl,hS1,hl,eps,l2,l26,h1,hL,λH2 M S ph T2 hM eph oph fph c30 z30=>hc _ _ ?_⟩;clear hc c;have m0:=T2.pos;have lim:Gi L h S.c S.Bs S.Ts S.RR:=by
  unfold KS.sz at z30;exact⟨l2,l26,h1,hL,by omega,by omega,by omega,by omega⟩
 simp only[set_cons_zero,set_cons_succ];refine lz λc hc=>?_;refine kR (a:=ph) (xs:=vN M S.f) (λQ h=>⟨_,rfl,h⟩) (aX.of eph) (Sz H2 L h M S) ⟨aF.refl _,[],rfl,rfl,λi s e=>by simp at e⟩ (λi ys H' _ p=>by obtain⟨s',ss,e,l,_⟩:=p;exact⟨aX.of (s' _ _ eph),by rw[e,length_map,l];exact le_refl _⟩) (by rw[dB,sizeLine_eq];omega) ?_ ?_
 ·rintro i v ys H' hv ⟨s',ss,rfl,ls,A⟩ W hW;have hi:i<M:=by
   have:=(List.getElem?_eq_some_iff.mp hv).1;rw[dB] at this;exact this
  rw[iy hi] at hv;cases hv;have T':=T2.same s';nofun;refine bL (T'.hnd i hi) (λR r=>⟨_,rfl,r⟩) rfl ?_;nofun;refine iz.told T' hi lim λH3 p os s3 X fr=>hW _ _ ⟨s'.trans s3,ss++[p],by rw[map_append];rfl,by rw[length_append,ls];rfl,?_⟩;subst ls;exact(A.same s3).snoc X λb hb=>Out.fresh T' (fr b (mem_cons_of_mem _ hb))
 rintro ys H3a ⟨s3a,ss,rfl,ls,A⟩ pst hpst;refine hc _ _ ?_;clear hc c;rw[dB] at ls;have s3:=s3a.new hpst (o:=.lst (ss.map V.ref));have est:(upd H3a pst (.lst (ss.map V.ref))) pst=some (.lst (ss.map V.ref)):=aq;have A3:=A.same (aF.up H3a hpst (o:=.lst (ss.map V.ref)));have ost:Out M S.f pst:=Out.fresh (T2.same s3a) hpst;clear A;generalize upd H3a pst _=H3 at s3 est A3 ⊢;have T3:=T2.same s3;generalize hkn:(λk=>(S.f k).kn)=kn at A3;generalize htk:(λk=>(S.f k).tk)=tk at A3;generalize hn:(λk=>(S.f k).n)=n at A3;simp only[set_cons_zero,set_cons_succ];refine lz λc hc=>?_;refine kR (a:=pst) (xs:=ss.map V.ref) (λQ h=>⟨_,rfl,h⟩) (aX.of est) (λi ys H'=>aF H3 H'/\∃ks:Uh Addr,ys=ks.map V.ref/\ks.length=i/\SO H' L h M S ks kn tk n) ⟨aF.refl _,[],rfl,rfl,λi s e=>by simp at e⟩ (λi ys H' _ p=>by obtain⟨s',ss,e,l,_⟩:=p;exact⟨aX.of (s' _ _ est),by rw[e,length_map,l];exact le_refl _⟩) (by rw[length_map,sizeLine_eq];omega) ?_ ?_
 ·rintro i v ys H' hv ⟨s',ks,rfl,lk,B⟩ W hW;rw[getElem?_map] at hv;obtain⟨s,hs,rfl⟩:=map_eq_some_iff.mp hv;obtain⟨os,X,o⟩:=A3.same s' i s hs;obtain⟨⟨p1,p2,p3,bs,ts,zs,ws,rfl,SX,KX⟩,a1,b1,d1⟩:=X;nofun;refine⟨s,p1,p2,p3,bs,ts,L,h,_,zs,ws,rfl,SX,by rw[length_take];have:=lim.hR;omega,λH4 o q1 q2 q3 cs s4 fo F S4=>hW _ _ ⟨s'.trans s4,ks++[o],by rw[map_append];rfl,by rw[length_append,lk];rfl,?_⟩⟩
  subst lk;refine(B.same s4).snoc (os:=q1::q2::q3::cs) ⟨⟨q1,q2,q3,cs,ts,zs,ws,rfl,S4,KX⟩,a1,b1,d1⟩ λb hb=>Out.fresh (T3.same s') ?_;simp only[mem_cons] at hb
  rcases hb with rfl|rfl|rfl|hb
  ·exact F.f1
  ·exact F.f2
  ·exact F.f3
  ·exact F.fb b hb
 rintro ys H4a ⟨s4a,ks,rfl,lk,B⟩ pkp hpkp;refine hc _ _ ?_;clear hc c;rw[length_map,ls] at lk;have s34:=s4a.new hpkp (o:=.lst (ks.map V.ref));have ekp:(upd H4a pkp (.lst (ks.map V.ref))) pkp=some (.lst (ks.map V.ref)):=aq;have B4:=B.same (aF.up H4a hpkp (o:=.lst (ks.map V.ref)));have okp:Out M S.f pkp:=Out.fresh (T3.same s4a) hpkp;clear B;generalize upd H4a pkp _=H4 at s34 ekp B4 ⊢;have A4:=A3.same s34;have Gf:=s34 _ _ est;have T4:=T3.same s34;obtain⟨i0,es0⟩:=some_at (l:=ss) (i:=0) (by omega);obtain⟨im,esm⟩:=some_at (l:=ss) (i:=M/2) (by omega);obtain⟨il,esl⟩:=some_at (l:=ss) (i:=M-1) (by omega);have ell:(ss.map V.ref).getLast?=some (.ref il):=by rw[List.getLast?_eq_getElem?,length_map,ls,getElem?_map,esl];rfl
 obtain⟨o1,X1,-⟩:=A4 _ _ es0;obtain⟨o2,X2,-⟩:=A4 _ _ esl;obtain⟨o3,X3,-⟩:=A4 _ _ esm;simp only[set_cons_zero,set_cons_succ];refine aW λc hc=>?_;nofun;refine cD (v:=.ref i0) (aX.of Gf) (by decide) (by show (ss.map V.ref)[0]?=_;rw[getElem?_map,es0];rfl) (hc _ _ ?_);clear hc c;refine aW λc hc=>?_;nofun;refine vm (aX.of Gf) ell (hc _ _ ?_);clear hc c;refine aW λc hc=>?_;nofun;refine bZ (aX.of Gf) ⟨_,rfl,cdiv (by decide) (by decide),cD (v:=.ref im) (aX.of Gf) (by rw[length_map,ls];omega) (by rw[length_map,ls,show (((M:Nat):Int)/2).toNat=M/2 by omega,getElem?_map,esm];rfl) (hc _ _ ?_)⟩;clear hc c;simp only[set_cons_zero,set_cons_succ];refine aW λc hc=>?_;nofun;refine X1.laid X2 lim λH5 b5 q5 s45 G5 _=>(G5.laid (X3.same s45) lim λH6 d dos s56 D0 fd=>hc _ _ ?_);clear hc c;have s46:=s45.trans s56;have D:jH H6 L h S d dos (U3 kn M) (U3 tk M) (n3 n M):=D0;have od:∀b∈dos,Out M S.f b:=λb hb=>Out.fresh (T4.same s45) (fd b (mem_cons_of_mem _ hb));clear D0;refine aW λc hc=>?_;nofun;refine(X2.same s46).laid (X1.same s46) lim λH7 b7 q7 s67 G7 _=>((X3.same (s46.trans s67)).laid G7 lim λH8 w1 r1 s78 W1 _=>?_);have s48:=(s46.trans s67).trans s78;refine(X2.same s48).laid (X3.same s48) lim λH9 b9 q9 s89 G9 _=>(G9.laid (X1.same (s48.trans s89)) lim λHA w2 r2 s9A W2 _=>⟨by decide,λpa hpa=>hc _ _ ?_⟩);clear hc c;have s8A:=s89.trans s9A;have sAB:=aF.up HA hpa (o:=.lst [.ref w1,.ref w2]);have epa:(upd HA pa (.lst [.ref w1,.ref w2])) pa=some (.lst [.ref w1,.ref w2]):=aq;generalize upd HA pa _=HB at sAB epa ⊢;have s6B:=(s67.trans s78).trans (s8A.trans sAB);have s4B:=s46.trans s6B;have V1:jH HB L h S w1 r1 (U3 kn M) (U3 tk M) (n3 n M):=(W1.same (s8A.trans sAB)).iff (λk=>by unfold U3;grind) (λk=>by unfold U3;grind) (by unfold n3;omega);have V2:jH HB L h S w2 r2 (U3 kn M) (U3 tk M) (n3 n M):=(W2.same sAB).iff (λk=>by unfold U3;grind) (λk=>by unfold U3;grind) (by unfold n3;omega);clear W1 W2 G7 G9 G5;refine aW λc hc=>?_;nofun;refine(X3.same s4B).laid (X1.same s4B) lim λHC bC qC sBC GC _=>(GC.laid (X2.same (s4B.trans sBC)) lim λHD w3 r3 sCD W3 _=>?_);have sBD:=sBC.trans sCD;refine(D.same (s6B.trans sBD)).laid (X2.same (s4B.trans sBD)) lim λHE w4 r4 sDE W4 _=>?_;have sBE:=sBD.trans sDE;refine(D.same (s6B.trans sBE)).laid (D.same (s6B.trans sBE)) lim λHF w5 r5 sEF W5 _=>⟨by decide,λpb hpb=>?_⟩;have sFG:=aF.up HF hpb (o:=.lst [.ref w3,.ref w4,.ref w5]);have epb:(upd HF pb (.lst [.ref w3,.ref w4,.ref w5])) pb=some (.lst [.ref w3,.ref w4,.ref w5]):=aq;generalize upd HF pb _=HG at sFG epb ⊢;have sDG:=sDE.trans (sEF.trans sFG);have sBG:=sBD.trans sDG;refine G2 (sBG _ _ epa) epb (by simp only[length_cons,length_nil];omega) λpc hpc=>hc _ _ ?_;clear hc c;have sGH:=aF.up HG hpc (o:=.lst ([.ref w1,.ref w2]++[.ref w3,.ref w4,.ref w5]));have epc:(upd HG pc (.lst ([.ref w1,.ref w2]++[.ref w3,.ref w4,.ref w5]))) pc=some (.lst [.ref w1,.ref w2,.ref w3,.ref w4,.ref w5]):=aq;generalize upd HG pc _=HH at sGH epc ⊢;have sBH:=sBG.trans sGH;have V3:jH HH L h S w3 r3 (U3 kn M) (U3 tk M) (n3 n M):=(W3.same (sDG.trans sGH)).iff (λk=>by unfold U3;grind) (λk=>by unfold U3;grind) (by unfold n3;omega);have V4:jH HH L h S w4 r4 (U3 kn M) (U3 tk M) (n3 n M):=(W4.same ((sEF.trans sFG).trans sGH)).iff (λk=>by unfold U3;grind) (λk=>by unfold U3;grind) (by unfold n3;omega);have V5:jH HH L h S w5 r5 (U3 kn M) (U3 tk M) (n3 n M):=(W5.same (sFG.trans sGH)).iff (λk=>or_self_iff) (λk=>or_self_iff) (by omega);have s6H:=s6B.trans sBH;have s4H:=s4B.trans sBH;clear W3 W4 W5 GC;refine aW λc hc=>?_;nofun;refine(X1.same s4H).laid (D.same s6H) lim λHI w6 r6 sHI W6 _=>?_;have s4I:=s4H.trans sHI;refine(X1.same s4I).laid (X1.same s4I) lim λHJ bJ qJ sIJ GJ _=>((X3.same (s4I.trans sIJ)).laid (X2.same (s4I.trans sIJ)) lim λHK' bK qK sJK GK _=>?_);refine(GJ.same sJK).laid GK lim λHL w7 r7 sKL W7 _=>⟨by decide,λpd hpd=>?_⟩;have sIL:=sIJ.trans (sJK.trans sKL);have sLM:=aF.up HL hpd (o:=.lst [.ref w6,.ref w7]);have epd:(upd HL pd (.lst [.ref w6,.ref w7])) pd=some (.lst [.ref w6,.ref w7]):=aq;generalize upd HL pd _=HM at sLM epd ⊢;have sHM:=sHI.trans (sIL.trans sLM);refine G2 (sHM _ _ epc) epd (by simp only[length_cons,length_nil];omega) λpw hpw=>hc _ _ ?_;clear hc c;have sMN:=aF.up HM hpw (o:=.lst ([.ref w1,.ref w2,.ref w3,.ref w4,.ref w5]++[.ref w6,.ref w7]));have epw:(upd HM pw (.lst ([.ref w1,.ref w2,.ref w3,.ref w4,.ref w5]++[.ref w6,.ref w7]))) pw=some (.lst [.ref w1,.ref w2,.ref w3,.ref w4,.ref w5,.ref w6,.ref w7]):=aq;generalize upd HM pw _=HN at sMN epw ⊢;have V6:jH HN L h S w6 r6 (U3 kn M) (U3 tk M) (n3 n M):=(W6.same ((sIL.trans sLM).trans sMN)).iff (λk=>by unfold U3;grind) (λk=>by unfold U3;grind) (by unfold n3;omega);have V7:jH HN L h S w7 r7 (U3 kn M) (U3 tk M) (n3 n M):=(W7.same (sLM.trans sMN)).iff (λk=>by unfold U3;grind) (λk=>by unfold U3;grind) (by unfold n3;omega);have sHN:=sHM.trans sMN;have sBN:=sBH.trans sHN;have all:∀v∈[V.ref w1,.ref w2,.ref w3,.ref w4,.ref w5,.ref w6,.ref w7],∃w r,v=.ref w/\jH HN L h S w r (U3 kn M) (U3 tk M) (n3 n M):=λv hv=>by
  simp only[mem_cons,not_mem_nil,or_false] at hv
  rcases hv with rfl|rfl|rfl|rfl|rfl|rfl|rfl
  ·exact⟨_,_,rfl,V1.same sBN⟩
  ·exact⟨_,_,rfl,V2.same sBN⟩
  ·exact⟨_,_,rfl,V3.same sHN⟩
  ·exact⟨_,_,rfl,V4.same sHN⟩
  ·exact⟨_,_,rfl,V5.same sHN⟩
  ·exact⟨_,_,rfl,V6⟩
  ·exact⟨_,_,rfl,V7⟩
 clear V1 V2 V3 V4 V5 V6 V7 W6 W7 GJ GK;have DN:=D.same (s6B.trans sBN);have sN:aF H4 HN:=s4B.trans sBN;have oN:=od;clear D od epa epb epc epd;simp only[set_cons_zero,set_cons_succ];refine aT λc hc=>?_;refine nj (a:=pw) (xs:=[.ref w1,.ref w2,.ref w3,.ref w4,.ref w5,.ref w6,.ref w7]) (λQ h=>by nofun;exact h) (aX.of epw) (SE HN [some (.ref sc),some (.ref ps),some (.ref ph),some (.ref pst),some (.ref pkp),some (.ref i0),some (.ref il),some (.ref im),some (.ref d),some (.ref pw)] [none,none,none,none]) ⟨none,rfl,rfl⟩ (λi σ H' _ w=>by obtain⟨v,e,_⟩:=w;rw[e];exact aX.of epw) ?_ ?_
 ·rintro i x σ H' hx ⟨v,rfl,rfl⟩;obtain⟨w,r,rfl,X⟩:=all x (mem_of_getElem? hx);obtain⟨p1,p2,p3,bs,ts,q1,q2,q3,cs,vs,zs,ws,P1,P2,ok⟩:=X.two DN (λ_=>Iff.rfl) (λ_=>Iff.rfl) rfl l26;nofun;refine vL P1 P2 ok ⟨_,rfl,?_⟩;rw[if_neg (by decide)];exact⟨_,rfl,rfl⟩
 rintro σ H' ⟨v10,rfl,rfl⟩;refine hc _ _ ?_;clear hc c all epw;simp only[cons_append,nil_append];refine aT λc hc=>?_;nofun;have s3N:=s34.trans sN;refine⟨pst,pkp,ps,L,h,S,ss,ks,kn,tk,n,rfl,sN _ _ Gf,sN _ _ ekp,s3N _ _ (s3 _ _ (T2.bs _ _ eps)),(A4.same sN).sts,(B4.same sN).sts,by omega,by omega,by omega,lim,λHO sO=>⟨_,rfl,?_⟩⟩
 nofun;refine hc _ _ ?_;clear hc c;have s4O:=sN.trans sO;have DO:=DN.same sO;refine aT λc hc=>?_;nofun;refine Jb (s4O _ _ Gf) (s4O _ _ ekp) (by omega) (λi s k ha hb=>?_) ⟨_,rfl,?_⟩
 ·obtain⟨os,X,_⟩:=A4 i s ha;obtain⟨us,Y,_⟩:=B4 i k hb;obtain⟨p1,p2,p3,bs,ts,q1,q2,q3,cs,vs,zs,ws,P1,P2,ok⟩:=(X.same s4O).two (Y.same s4O) (λ_=>Iff.rfl) (λ_=>Iff.rfl) rfl l26;exact⟨p1,p2,p3,bs,ts,q1,q2,q3,cs,vs,L,h,_,zs,ws,P1,P2,ok⟩
 rw[if_neg (by decide)];obtain⟨d1,d2,d3,ds,us,zs,ws,T8,SD,KD⟩:=DO.ex;have zl:=KD.nf.len l2 λr hr=>(KD.ro r hr).1;have zb:=lim.hB;have tsl:=SD.prs.len;rw[length_map] at tsl;refine kR (a:=d2) (xs:=us) (λQ h=>by nofun;exact aZ (v:=.ref d2) (dU.of SD.top) (by decide) rfl h) (aX.of SD.thi) (λi ys H'=>H'=HO/\ys=((zs.map (·.1)).take i).map aD) ⟨rfl,rfl⟩ (λi ys H' _ p=>⟨by rw[p.1];exact aX.of SD.thi,by rw[p.2,length_map,length_take];omega⟩) (by rw[sizeLine_eq];omega) ?_ ?_
 ·rintro i x ys H' hx ⟨rfl,rfl⟩ W hW;obtain⟨z,t,ez,rfl,ht⟩:=d9.SH SD.prs hx;nofun;refine aZ (v:=aD z.1) (dU.of ht) (by decide) rfl (hW _ _ ⟨rfl,?_⟩);have eg:(zs.map (·.1))[i]?=some z.1:=by rw[getElem?_map,ez];rfl
  generalize zs.map (·.1)=g at eg ⊢;rw[take_add_one,eg,map_append];rfl
 rintro ys H' ⟨rfl,rfl⟩ px hpx;have emk:(zs.map (·.1)).take us.length=zs.map (·.1):=List.take_of_length_le (by rw[length_map];omega);rw[emk];have sOP:=aF.up H' hpx (o:=.lst ((zs.map (·.1)).map aD));have epx:(upd H' px (.lst ((zs.map (·.1)).map aD))) px=some (.lst ((zs.map (·.1)).map aD)):=aq;generalize upd H' px _=HP at sOP epx ⊢;refine⟨px,zs.map (·.1),rfl,aX.of epx,by rw[length_map];omega,dg KD.nf.up,λHQ sPQ=>?_⟩;have SDQ:=SD.same (sOP.trans sPQ);refine aZ (v:=.ref d2) (dU.of SDQ.top) (by decide) rfl (bZ (aX.of SDQ.thi) ⟨rfl,?_⟩);rw[length_map,tsl,if_neg (λz=>z rfl)];refine hc _ _ ?_;clear hc c;have s4Q:=s4O.trans (sOP.trans sPQ);have sHQ:aF H4 HQ:=s4Q;have DQ:=DO.same (sOP.trans sPQ);clear DO DN SD KD SDQ A3 A4 sN sO s4O sOP sPQ epx;have TQ:=T4.same s4Q;have BQ:=B4.same s4Q;have Cm:=s4Q _ _ (s34 _ _ (s3 _ _ eph));have Oh:=s4Q _ _ ekp;have od':∀b∈dos,Out M S.f b:=oN;have hSQ:=TQ.bs.seq hS1;refine aW λc hc=>?_;nofun;refine bZ (aX.of Cm) ⟨sc,ns,_,_,rfl,hSQ,hl,by decide,by decide,by rw[dB];omega,λr r0 r1=>hc _ _ ?_⟩;clear hc c;rw[dB] at r1;obtain⟨r,rfl⟩:=eq_ofNat_of_zero_le r0;simp only[set_cons_zero,set_cons_succ];have SN:qU a.az H1 L h M HQ S kn tk n HQ S:=⟨dS.same TQ (aF.refl _),rfl,rfl,rfl,rfl,λi hi k e=>U3.of (by rw[<-hkn];exact e) hi hM,λi hi k e=>U3.of (by rw[<-htk];exact e) hi hM,λi hi=>by
  have:=n3.of (n:=n) hi hM;rw[<-hn] at this ⊢;exact this⟩
 refine aT λc hc=>?_;refine kN (j:=2*M) (λQ h=>by nofun;exact bZ (aX.of Cm) (by rw[dB];exact⟨_,rfl,jm (by decide) (by omega),h⟩)) (by omega) (by omega) (Qv a.az H1 L h M HQ S kn tk n [some (.ref sc),some (.ref ps),some (.ref ph),some (.ref pst),some (.ref pkp),some (.ref i0),some (.ref il),some (.ref im),some (.ref d),some (.ref pw),v10,some (.int r)]) ⟨S,none,none,SN,rfl⟩ ?_ ?_
 ·rintro i σ H' hi ⟨S',v12,v13,Y,rfl⟩;have T':=Y.W.T;obtain⟨uX,Oc⟩:=Y.W.out ph _ Cm oph;simp only[cons_append,nil_append,aG,set_cons_zero,set_cons_succ];refine aW λc1 hc1=>?_;unfold ck;nofun;have md:∀x:Int,∃j:Nat,x%M=j/\j<M:=λx=>by
   obtain⟨j,ej⟩:=eq_ofNat_of_zero_le (emod_nonneg x (show (M:Int)≠0 by omega));have:=Int.emod_lt_of_pos x (show (0:Int)<M by omega);exact⟨j,ej,by omega⟩
  refine bZ (aX.of uX) ⟨_,rfl,by rw[dB];omega,?_⟩;rw[dB];obtain⟨j,ej,hj⟩:=md ((r:Int)+i+1);rw[ej];refine cD (v:=.ref (S.f j).x) (aX.of uX) (by omega) (iy hj) ?_;rw[<-Y.W.xs j];refine⟨_,rfl,_,_,(T'.hnd j hj).ins,rfl,?_⟩;refine iz.told T' hj (Y.lim lim) λH2 p os s2 X fr=>hc1 _ _ ?_;clear hc1 c1;have Y2:=Y.same s2;have T2':=Y2.W.T;obtain⟨j2,ej2,hj2⟩:=md ((r:Int)+i);simp only[set_cons_zero,set_cons_succ];nofun;refine bL (T2'.hnd j2 hj2) (λR z=>by nofun;exact bZ (aX.of (s2 _ _ uX)) ⟨_,rfl,by rw[dB];omega,by rw[dB,ej2];exact cD (v:=.ref (S'.f j2).x) (aX.of (s2 _ _ uX)) (by omega) (by rw[toNat_natCast,iy hj2,Y.W.xs j2]) z⟩) rfl ?_
  nofun;exact Y2.lay lim hj2 X (Y.sk j hj) (Y.st j hj) (Y.sn j hj) λH3 S3 Y3 _ _ _ _ _=>⟨S3,_,_,Y3,rfl⟩
 rintro σ HR ⟨SR,v12,v13,YR,rfl⟩;refine hc _ _ ?_;clear hc c;obtain⟨SQ,T9⟩:=YR.W.out ph _ Cm oph;simp only[cons_append,nil_append];refine aT λc hc=>?_;refine kN (j:=M) (λQ h=>by nofun;exact bZ (aX.of SQ) (by rw[dB];exact h)) (by omega) (by omega) (SI a.az H1 L h M HQ S kn tk n [some (.ref sc),some (.ref ps),some (.ref ph),some (.ref pst),some (.ref pkp),some (.ref i0),some (.ref il),some (.ref im),some (.ref d),some (.ref pw),v10,some (.int r)] v13) ⟨SR,v12,none,YR,λj hj=>absurd hj (not_lt_zero _),rfl⟩ ?_ ?_
 ·rintro i σ H' hi ⟨S',v12,v14,Y,full,rfl⟩;have hi':i<M:=by omega
  have T':=Y.W.T;obtain⟨uX,Oc⟩:=Y.W.out ph _ Cm oph;obtain⟨Qw,Ua⟩:=Y.W.out pkp _ Oh okp;simp only[cons_append,nil_append,aG,set_cons_zero,set_cons_succ];refine aT λc1 hc1=>?_;nofun;refine bL (T'.hnd i hi') (λR z=>by nofun;exact cD (v:=.ref (S'.f i).x) (aX.of uX) (by omega) (by rw[toNat_natCast,iy hi',Y.W.xs i]) z) rfl ?_
  nofun;refine bZ (aX.of Qw) ⟨_,rfl,by rw[length_map];omega,?_⟩;rw[length_map,lk];obtain⟨j,ej⟩:=eq_ofNat_of_zero_le (emod_nonneg ((i:Int)+r) (show (M:Int)≠0 by omega));have hj:j<M:=by have:=Int.emod_lt_of_pos ((i:Int)+r) (show (0:Int)<M by omega);omega
  rw[ej];obtain⟨s,hs⟩:=some_at (l:=ks) (i:=j) (by omega);refine cD (v:=.ref s) (aX.of Qw) (by omega) (by rw[toNat_natCast,getElem?_map,hs];rfl) ?_;obtain⟨os,X,-⟩:=BQ.IZ Y.W j s hs;refine Y.lay lim hi' X (λk e=>U3.of e hj hM) (λk e=>U3.of e hj hM) (n3.of hj hM) λH2 S2 Y2 W2 ot2 _ _ _=>hc1 _ _ ?_;clear hc1 c1;obtain⟨SS,Ub⟩:=Y2.W.out pkp _ Oh okp;refine aT λc1 hc1=>?_;refine nj (a:=pkp) (xs:=ks.map V.ref) (λQ h=>by nofun;exact h) (aX.of SS) (SM a.az H1 L h M HQ S kn tk n S2 i [some (.ref sc),some (.ref ps),some (.ref ph),some (.ref pst),some (.ref pkp),some (.ref i0),some (.ref il),some (.ref im),some (.ref d),some (.ref pw),v10,some (.int r),some (.int i),v13]) ⟨S2,v14,Y2,λ_ _=>rfl,λt ht=>absurd ht (not_lt_zero _),rfl⟩ (λj σ H'' _ w=>by obtain⟨S3,v,Y3,_⟩:=w;exact aX.of (Y3.W.out pkp _ Oh okp).1) ?_ ?_
  ·rintro j x σ H3 hx ⟨S3,v14,Y3,ot3,kn3,rfl⟩;rw[getElem?_map] at hx;obtain⟨s,hs,rfl⟩:=map_eq_some_iff.mp hx;have hj:j<M:=by have:=(List.getElem?_eq_some_iff.mp hs).1;omega
   obtain⟨os,X,-⟩:=BQ.IZ Y3.W j s hs;obtain⟨LZ,_⟩:=Y3.W.out ph _ Cm oph;nofun;refine bL (Y3.W.T.hnd i hi') (λR z=>by nofun;exact cD (v:=.ref (S3.f i).x) (aX.of LZ) (by omega) (by rw[toNat_natCast,iy hi',Y3.W.xs i]) z) rfl ?_
   nofun;refine Y3.lay lim hi' X (λk e=>U3.of e hj hM) (λk e=>U3.of e hj hM) (n3.of hj hM) λH4 S4 Y4 W4 ot4 en ek et=>⟨S4,_,Y4,λk z=>(ot4 k z).trans (ot3 k z),λt ht=>?_,rfl⟩;rw[ek,et,en]
   by_cases z:t=j
   ·subst z;exact⟨λk e=>.inr e,λk e=>.inr e,by omega⟩
   ·obtain⟨x1,x2,x3⟩:=kn3 t (by omega);exact⟨λk e=>.inl (x1 k e),λk e=>.inl (x2 k e),by omega⟩
  rintro σ H3 ⟨S3,v14,Y3,ot3,kn3,rfl⟩;refine hc1 _ _ ?_;clear hc1 c1;rw[length_map,lk] at kn3;have T3':=Y3.W.T;obtain⟨LZ,_⟩:=Y3.W.out ph _ Cm oph;have fi:Full kn tk n M (S3.f i):=⟨U3.all m0 λt ht=>(kn3 t ht).1,U3.all m0 λt ht=>(kn3 t ht).2.1,by
   have a1:=(kn3 0 m0).2.2;have a2:=(kn3 (M-1) (by omega)).2.2;have a3:=(kn3 (M/2) (by omega)).2.2;unfold n3;omega⟩
  have ME:∀j,j<i+1->Full kn tk n M (S3.f j):=λj hj=>by
   by_cases z:j=i
   ·rw[z];exact fi
   ·rw[ot3 j z,ot2 j z];exact full j (by omega)
  have Qx:∀j,j<i+1->(∀k,(S3.f j).kn k↔U3 kn M k)/\(∀k,(S3.f j).tk k↔U3 tk M k)/\(S3.f j).n=n3 n M:=λj hj=>by
   obtain⟨x1,x2,x3⟩:=ME j hj;have:=Y3.sn j (by omega);exact⟨λk=>⟨Y3.sk j (by omega) k,x1 k⟩,λk=>⟨Y3.st j (by omega) k,x2 k⟩,by omega⟩
  obtain⟨D3,_⟩:=qG.IZ DQ od' Y3.W;simp only[cons_append,nil_append];have gi:∀{Hx:Hp},Hx ph=some (.lst (vN M S.f))->∀(R:VK),R (.ref (S3.f i).x) Hx->dQ K (.ref ph) (.int i) Hx R:=λe R z=>cD (v:=.ref (S3.f i).x) (aX.of e) (by omega) (by rw[toNat_natCast,iy hi',Y3.W.xs i]) z;have Qy:=Y3.lim lim;nofun;refine bL (T3'.hnd i hi') (λR z=>by nofun;exact gi LZ R z) rfl ?_;nofun;refine iz.told T3' hi' Qy λH4 p os s4 X fr=>?_;obtain⟨ki,ti,ni⟩:=Qx i (by omega);obtain⟨p1,p2,p3,bs,ts,q1,q2,q3,cs,vs,zs,ws,P1,P2,ok⟩:=X.two (D3.same s4) ki ti ni l26;refine vL P1 P2 ok ⟨_,rfl,?_⟩;rw[if_neg (by decide)];have T4':=T3'.same s4;have Ci:=s4 _ _ LZ;have tl:=(T4'.hk i hi').tl;have tl0:=(T4'.hk 0 m0).tl;have b31:=Qy.hB;refine bL (T4'.hnd i hi') (λR z=>by nofun;exact gi Ci R z) rfl ?_;nofun;refine⟨_,_,_,_,_,L,h,_,_,_,rfl,T4'.hnd i hi',by omega,(T4'.hk i hi').kw.nd,λH5 pm zm s5 hpm up5 Qz=>?_⟩;have s6:=s5.new hpm (o:=.lst (zm.map aD));have epm:(upd H5 pm (.lst (zm.map aD))) pm=some (.lst (zm.map aD)):=aq;generalize upd H5 pm _=H6 at s6 epm ⊢;have T6':=T4'.same s6;refine bL (T6'.hnd 0 m0) (λR z=>by nofun;exact cD (v:=.ref (S3.f 0).x) (aX.of (s6 _ _ Ci)) (by decide) (by show (vN M S.f)[0]?=_;rw[iy m0,Y3.W.xs 0]) z) rfl ?_
  nofun;refine⟨_,_,_,_,_,L,h,_,_,_,rfl,T6'.hnd 0 m0,by omega,(T6'.hk 0 m0).kw.nd,λH7 p0 z0 s7 hp0 up7 SV=>?_⟩;obtain⟨k0',t0',n0'⟩:=Qx 0 (by omega);have ez:zm=z0:=by
   have HB:=T6'.hk 0 m0;rw[n0',<-ni] at HB;exact Ck (T6'.hk i hi') HB (λk=>(ki k).trans (k0' k).symm) (λk=>(ti k).trans (t0' k).symm) ⟨up5,Qz⟩ ⟨up7,SV⟩
  subst ez;refine LY (xs:=zm) (by rw[aE (fresh_ne (s7 _ _ epm) hp0)];exact s7 _ _ epm) aq (λy hy=>g6 l26 ((T6'.hk i hi').kw.mark ((Qz y).mp hy).1).1.ls) ⟨_,rfl,?_⟩
  rw[if_neg (by decide)];have Y7:=(Y3.same s4).same (s6.trans (s7.new hp0 (o:=.lst (zm.map aD))));exact⟨S3,_,_,Y7,ME,rfl⟩
 rintro σ HZ ⟨S',v12,v14,Y,full,rfl⟩;refine hc _ _ ?_;nofun;exact fin _
end K63
local macro_rules | `(tactic| left)=>`(tactic| exact L2.cT.mono (by assumption) (by decide))
local macro_rules | `(tactic| right)=>`(tactic| exact ⟨rfl,rfl,rfl,by decide +kernel,rfl,by decide +kernel,by decide +kernel⟩)
local macro_rules | `(tactic| symm)=>`(tactic| (intro _ _ _ _ h; (repeat obtain ⟨_,h⟩:=h) <;> (subst_vars; rfl)))
local macro_rules | `(tactic| exfalso)=>`(tactic| (intro _ _ _ _ _ _; repeat (first | exact L2.Tt rfl | refine L2.Tu fun _=>?_)))
namespace K63
open PySem PySem.Spec PyProof.Rows L2 MM
theorem Gh{K:W.Frag}{mg:Str->Option Value}{a:Ad}(T:Tx K mg a):gg K a.az:=⟨T.cE,T.uD,T.xR,T.oM,T.qS,T.qT,T.xS⟩
section
variable{P:Program}{w:World}{K:W.Frag}{mg:Str->Option Value}{base:Heap}{a:Ad}
theorem Oj:aM ["letters", "hands"] ["letters", "hands"] (aB Jc):=by right
theorem Ol(T:Tx K mg a):T.n8.Ok P w base (qP P w) 1 (Bw a.bX):=
 T.n8.F.CW Oj (rd:=λE=>xu a.bX E [108,101,116,116,101,114,115,32,109,117,115,116,32,98,101,32,102,114,111,109,32,50,32,116,111,32,50,54] [104,97,110,100,115,32,109,117,115,116,32,98,101,32,102,114,111,109,32,49,32,116,111,32,111,110,101,32,108,101,115,115,32,116,104,97,110,32,108,101,116,116,101,114,115]) (by symm) (λ_ _ _ _ _ _ hr=>by delta xu;exact aj (cQ (kE (kQ (bq mZ (kv 0) au) (iN (bq qi (kv 0) (aR fN T.b8 PyProof.Rows.Boot.«len» (af (jo T.lW iV) ao)))))) (ay (gX PySem.F.excBase_ValueError T.qM T.qL (af (cN (by rfl')) ao) (λ_ _ _ _ _ _ _ I m q=>gW I m q))) (bN)) (ay (cQ (kE (kQ (bq mZ (kv 1) au) (iN (bq CJ (kv 1) (kv 0))))) (ay (gX PySem.F.excBase_ValueError T.qM T.qL (af (cN (by rfl')) ao) (λ_ _ _ _ _ _ _ I m q=>gW I m q))) (bN)))) λ_ _ _ _ h=>FD rfl h
theorem xW:aM ["letters", "long", "product", "step"] ["letters", "long"] (aB Jd):=by right
theorem JV(T:Tx K mg a):T.j4.Ok P w base gH 1 rA:=
 T.j4.F.iY xW (by symm) (λ_ _ _ _ _ _ hr=>by delta wV;exact aj (aJ (i:=2) xW.nd au) (aj (dW (dY T.fZ (af (kv 1) ao)) (cB (i:=3) xW.nd) (ay (aJ (i:=2) xW.nd (aO cH (kv 2) (kv 0))))) (ay (aS (kv 2))))) λ_ _ _ _ h=>Bb rfl h
theorem Om:aM ["mark", "place"] ["mark", "place"] (aB Je):=by right
theorem Cn(T:Tx K mg a):T.ie.Ok P w base gH 1 zo:=
 T.ie.F.iY Om (by symm) (λ_ _ _ _ _ _ hr=>by delta Iu;exact aj (cQ (kE (kQ (pD (kv 0)) (iN (bq CJ (kv 1) (aR fN T.b8 PyProof.Rows.Boot.«len» (af (kv 0) ao)))))) (ay (aS au)) (bN)) (ay (aS (jV PySem.F.plainAttrs_str PySem.F.slot_str_index PySem.F.type_str_index yN (jo T.lW iV) (af (aQ m8 (kv 0) (kv 1)) ao))))) λ_ _ _ _ h=>Iv rfl h
theorem xX:aM ["letters", "mark", "long", "whole", "place"] ["letters", "mark", "long"] (aB Jf):=by right
theorem Co(T:Tx K mg a):T.ig.Ok P w base gH 2 nL:=
 T.ig.F.iY xX (by symm) (λ_ _ _ _ _ _ hr=>by delta wU;exact aj (aJ (i:=3) xX.nd au) (aj (dW (dY T.fZ (af (kv 2) ao)) (cB (i:=4) xX.nd) (ay (aJ (i:=3) xX.nd (aO bF (aO cH (kv 3) (kv 0)) (aA (Cn T) (by left) T.ie.g T.ie.F.kp T.ie.b aL (af (kv 1) (af (kv 4) ao))))))) (ay (aS (kv 3))))) λ_ _ _ _ h=>Ba rfl h
theorem qe:aM ["letters", "number", "long", "text", "rest", "step"] ["letters", "number", "long"] (aB Jg):=by right
theorem JW(T:Tx K mg a):T.j5.Ok P w base gH 1 nM:=
 T.j5.F.iY qe (by symm) (λ_ _ _ _ _ _ hr=>by delta tP;exact aj (aJ (i:=3) qe.nd (cN (by rfl'))) (aj (aJ (i:=4) qe.nd (kv 1)) (aj (dW (dY T.fZ (af (kv 2) ao)) (cB (i:=5) qe.nd) (aj (aJ (i:=3) qe.nd (aO CP (aQ m8 (jo T.lW iV) (aO ff (kv 4) (kv 0))) (kv 3))) (ay (aJ (i:=4) qe.nd (aO gz (kv 4) (kv 0)))))) (ay (aS (jV PySem.F.plainAttrs_str PySem.F.slot_str_rstrip PySem.F.type_str_rstrip ER (kv 3) (af (cN (by rfl')) ao))))))) λ_ _ _ _ h=>zq rfl h
theorem Oo:aM ["letters", "hands", "hand"] ["letters", "hands", "hand"] (aB Jh):=by right
theorem xY(T:Tx K mg a):T.fK.Ok P w base gH 1 pM:=
 T.fK.F.iY Oo (by symm) (λ_ _ _ _ _ _ hr=>by delta A9;exact ay (aS (jV PySem.F.plainAttrs_str PySem.F.slot_str_join PySem.F.type_str_join Ld (cN (by rfl')) (af (fW [("hand", 2),("hands", 1)] (EX T.fZ (af au (af (kv 0) ao))) (λ_ _ _ _ _=>⟨fV (bq mY (aO ff (aO gR (kv 0) au) (kD 2)) (kD 1)),aQ m8 (jo T.lW iV) (kv 0)⟩)) ao)))) λ_ _ _ _ h=>Fj rfl h
theorem Oq:aM ["low", "high"] ["low", "high"] (aB Ji):=by right
theorem xZ(T:Tx K mg a):T.fL.Ok P w base (qP P w) 1 (gK a.di):=
 T.fL.F.CW Oq (rd:=λE=>lN a.di E [108,111,119,32,100,111,101,115,32,110,111,116,32,99,111,109,101,32,97,104,101,97,100,32,111,102,32,104,105,103,104]) (by symm) (λ_ _ _ _ _ _ hr=>by delta lN;exact ay (cQ (kE (iO (fD (kv 0)) (iO (fD (kv 1)) (iE (bq Ny (kv 0) (kv 1)))))) (ay (gX PySem.F.excBase_ValueError T.JQ T.JP (af (cN (by rfl')) ao) (λ_ _ _ _ _ _ _ I m q=>gW I m q))) (bN))) λ_ _ _ _ h=>w9 rfl h
theorem Ot:aM ["letters", "high", "long"] ["letters", "high", "long"] (aB Jj):=by right
theorem JX(T:Tx K mg a):T.j6.Ok P w base gH 3 wW:=
 T.j6.F.iY Ot (by symm) (λ_ _ _ _ _ _ hr=>by delta Bc;exact aj (cQ (pD (kv 1)) (ay (aS (aA (JV T) (by left) T.j4.g T.j4.F.kp T.j4.b aL (af (kv 0) (af (kv 2) ao))))) (bN)) (ay (aS (aA (Co T) (by left) T.ig.g T.ig.F.kp T.ig.b aL (af (kv 0) (af (kv 1) (af (kv 2) ao))))))) λ_ _ _ _ h=>Fl rfl h
theorem JY:aM ["letters", "ends", "number", "lesser"] ["letters", "ends", "number"] (aB Jk):=by right
theorem Cp(T:Tx K mg a):T.ir.Ok P w base gH 1 nN:=
 T.ir.F.iY JY (by symm) (λ_ _ _ _ _ _ hr=>by delta wX;exact aj (jr (i := 3) [("number", 2),("letters", 0)] JY.nd (G8 (kv 1)) (λ_ _ _ _ _=>⟨fV (bq Ax (kv 0) (aQ m8 (jo T.lW iV) (aO ff (kD 1) (kD 2)))),kv 0⟩)) (ay (aS (aO bF (aO cH (aO gz (kD 2) (kD 0)) (aR fN T.b8 PyProof.Rows.Boot.«len» (af (kv 1) ao))) (aR aN T.b8 PyProof.Rows.Boot.«len» (af (kv 3) ao)))))) λ_ _ _ _ h=>Be rfl h
theorem Ou:aM ["letters", "ends", "low_whole"] ["letters", "ends", "low_whole"] (aB Jl):=by right
theorem Cq(T:Tx K mg a):T.iu.Ok P w base gH 2 nO:=
 T.iu.F.iY Ou (by symm) (λ_ _ _ _ _ _ hr=>by delta wY;exact ay (aS (aA (Cp T) (by left) T.ir.g T.ir.F.kp T.ir.b aL (af (kv 0) (af (kv 1) (af (aO bF (kv 2) au) ao)))))) λ_ _ _ _ h=>Bf rfl h
theorem Ov:aM ["letters", "ends", "high", "high_whole", "long", "beginnings"] ["letters", "ends", "high", "high_whole", "long", "beginnings"] (aB Jm):=by right
theorem JZ(T:Tx K mg a):T.j7.Ok P w base gH 2 rB:=
 T.j7.F.iY Ov (by symm) (λ_ _ _ _ _ _ hr=>by delta wZ;exact aj (cQ (kE (iO (sS (kv 5)) (iO (fD (kv 2)) (iE (bq mZ (kv 4) (aR fN T.b8 PyProof.Rows.Boot.«len» (af (kv 2) ao))))))) (ay (aS (aA (Cp T) (by left) T.ir.g T.ir.F.kp T.ir.b aL (af (kv 0) (af (kv 1) (af (aO bF (kv 3) au) ao)))))) (bN)) (ay (aS (aA (Cp T) (by left) T.ir.g T.ir.F.kp T.ir.b aL (af (kv 0) (af (kv 1) (af (kv 3) ao))))))) λ_ _ _ _ h=>Bg rfl h
theorem x9:aM ["letters", "ends", "low", "high", "long", "beginnings", "low_whole", "high_whole", "ahead"] ["letters", "ends", "low", "high", "long", "beginnings"] (aB Jo):=by right
theorem J0(T:Tx K mg a):T.j8.Ok P w base gH 4 lO:=
 T.j8.F.iY x9 (by symm) (λ_ _ _ _ _ _ hr=>by delta pN;exact aj (aJ (i:=6) x9.nd (aA (Co T) (by left) T.ig.g T.ig.F.kp T.ig.b aL (af (kv 0) (af (kv 2) (af (kv 4) ao))))) (aj (aJ (i:=7) x9.nd (aA (JX T) (by left) T.j6.g T.j6.F.kp T.j6.b aL (af (kv 0) (af (kv 3) (af (kv 4) ao))))) (aj (aJ (i:=8) x9.nd (aA (JZ T) (by left) T.j7.g T.j7.F.kp T.j7.b aL (af (kv 0) (af (kv 1) (af (kv 3) (af (kv 7) (af (kv 4) (af (kv 5) ao)))))))) (ay (aS (aO gR (kv 8) (aA (Cq T) (by left) T.iu.g T.iu.F.kp T.iu.b aL (af (kv 0) (af (kv 1) (af (kv 6) ao)))))))))) λ_ _ _ _ h=>xg rfl h
theorem Ow:aM ["letters", "hands", "hand", "low", "high", "long"] ["letters", "hands", "hand", "low", "high", "long"] (aB Jp):=by right
theorem Ox(T:Tx K mg a):T.n9.Ok P w base (qP P w) 5 (Bk a.di):=
 T.n9.F.CW Ow (by symm) (λ_ _ _ _ _ _ hr=>by delta Bl;exact aj (bz (aA (xZ T) (by left) T.fL.g T.fL.F.kp T.fL.b cV (af (kv 3) (af (kv 4) ao)))) (ay (bT (aS (aA (J0 T) (by left) T.j8.g T.j8.F.kp T.j8.b aL (af (kv 0) (af (aA (xY T) (by left) T.fK.g T.fK.F.kp T.fK.b aL (af (kv 0) (af (kv 1) (af (kv 2) ao)))) (af (kv 3) (af (kv 4) (af (kv 5) (af jU ao))))))))))) λ_ _ _ _ h=>Fp rfl h
theorem uE:aM ["letters", "hands", "hand", "low", "high", "long", "number", "ends", "low_whole", "place", "last"] ["letters", "hands", "hand", "low", "high", "long", "number"] (aB Jq):=by right
theorem J1(T:Tx K mg a):T.j9.Ok P w base (qP P w) 3 (De a.di):=
 T.j9.F.CW uE (by symm) (λ_ _ _ _ _ _ hr=>by delta Iz;exact aj (bz (aA (xZ T) (by left) T.fL.g T.fL.F.kp T.fL.b cV (af (kv 3) (af (kv 4) ao)))) (aj (bT (aJ (i:=7) uE.nd (aA (xY T) (by left) T.fK.g T.fK.F.kp T.fK.b aL (af (kv 0) (af (kv 1) (af (kv 2) ao)))))) (aj (bT (aJ (i:=8) uE.nd (aA (Co T) (by left) T.ig.g T.ig.F.kp T.ig.b aL (af (kv 0) (af (kv 3) (af (kv 5) ao)))))) (aj (bT (aJ (i:=9) uE.nd (aO bF (aA (Cq T) (by left) T.iu.g T.iu.F.kp T.iu.b aL (af (kv 0) (af (kv 7) (af (kv 8) ao)))) (kv 6)))) (aj (bT (aJ (i:=10) uE.nd (jV PySem.F.plainAttrs_str PySem.F.slot_str_index PySem.F.type_str_index yN (jo T.lW iV) (af (aQ m8 (kv 7) (aO ff (kv 9) (aR fN T.b8 PyProof.Rows.Boot.«len» (af (kv 7) ao)))) ao)))) (ay (bT (aS (aA (JW T) (by left) T.j5.g T.j5.F.kp T.j5.b aL (af (kv 0) (af (aO bF (aO cH (aO gz (kv 9) (aR fN T.b8 PyProof.Rows.Boot.«len» (af (kv 7) ao))) (kv 0)) (kv 10)) (af (kv 5) ao)))))))))))) λ_ _ _ _ h=>IA rfl h
theorem iS:aM ["letters", "ends", "low", "high", "many", "beginnings", "long", "room", "low_whole", "high_whole", "ahead"] ["letters", "ends", "low", "high", "many", "beginnings"] (aB Jr):=by right
theorem J2(T:Tx K mg a):T.kc.Ok P w base gH 4 nP:=
 T.kc.F.iY iS (by symm) (λ_ _ _ _ _ _ hr=>by delta tR;exact aj (aJ (i:=6) iS.nd au) (aj (aJ (i:=7) iS.nd au) (aj (aJ (i:=8) iS.nd au) (aj (aJ (i:=9) iS.nd (aA (JX T) (by left) T.j6.g T.j6.F.kp T.j6.b aL (af (kv 0) (af (kv 3) (af au ao))))) (aj (sW (bq mZ (kv 7) (kv 4)) (aj (aJ (i:=8) iS.nd (aO bF (aO cH (kv 8) (kv 0)) (aA (Cn T) (by left) T.ie.g T.ie.F.kp T.ie.b aL (af (kv 2) (af (kv 6) ao))))) (aj (aJ (i:=9) iS.nd (aO bF (aO cH (kv 9) (kv 0)) (aA (Cn T) (by left) T.ie.g T.ie.F.kp T.ie.b aL (af (kv 3) (af (kv 6) ao))))) (aj (aJ (i:=6) iS.nd (aO bF (kv 6) au)) (aj (aJ (i:=10) iS.nd (aA (JZ T) (by left) T.j7.g T.j7.F.kp T.j7.b aL (af (kv 0) (af (kv 1) (af (kv 3) (af (kv 9) (af (kv 6) (af (kv 5) ao)))))))) (ay (aJ (i:=7) iS.nd (aO gR (kv 10) (aA (Cq T) (by left) T.iu.g T.iu.F.kp T.iu.b aL (af (kv 0) (af (kv 1) (af (kv 8) ao)))))))))))) (ay (aS (kv 6)))))))) λ_ _ _ _ h=>zw rfl h
theorem Oz:aM ["letters", "hands", "hand", "low", "high", "many"] ["letters", "hands", "hand", "low", "high", "many"] (aB Js):=by right
theorem OA(T:Tx K mg a):T.oh.Ok P w base (qP P w) 5 (xh a.di):=
 T.oh.F.CW Oz (by symm) (λ_ _ _ _ _ _ hr=>by delta xj;exact aj (bz (aA (xZ T) (by left) T.fL.g T.fL.F.kp T.fL.b cV (af (kv 3) (af (kv 4) ao)))) (ay (bT (aS (aA (J2 T) (by left) T.kc.g T.kc.F.kp T.kc.b aL (af (kv 0) (af (aA (xY T) (by left) T.fK.g T.fK.F.kp T.fK.b aL (af (kv 0) (af (kv 1) (af (kv 2) ao)))) (af (kv 3) (af (kv 4) (af (kv 5) (af jU ao))))))))))) λ_ _ _ _ h=>Bo rfl h
theorem OB:aM ["low", "high", "many"] ["low", "high", "many"] (aB Jt):=by right
theorem OC(T:Tx K mg a):T.oj.Ok P w base gH 1 Bp:=
 T.oj.F.iY OB (by symm) (λ_ _ _ _ _ _ hr=>by delta Bq;exact aj (cQ (kE (iO (pD (kv 1)) (iE (fD (kv 0))))) (ay (aS au)) (bN)) (aj (cQ (kE (iO (pD (kv 0)) (iE (fD (kv 1))))) (ay (aS (aO gR (kv 2) au))) (bN)) (ay (aS (aO gz (aO gR (kv 2) au) au))))) λ_ _ _ _ h=>Fv rfl h
theorem Cr:aM ["letters", "hands", "hand", "low", "high", "long", "many"] ["letters", "hands", "hand", "low", "high"] (aB Ju):=by right
theorem OE(T:Tx K mg a):T.om.Ok P w base (qP P w) 6 (pO a.di):=
 T.om.F.CW Cr (by symm) (λ_ _ _ _ _ _ hr=>by delta pP;exact aj (aJ (i:=5) Cr.nd (aA (OA T) (by left) T.oh.g T.oh.F.kp T.oh.b cV (af (kv 0) (af (kv 1) (af (kv 2) (af (kv 3) (af (kv 4) (af au ao)))))))) (aj (aJ (i:=6) Cr.nd (aA (Ox T) (by left) T.n9.g T.n9.F.kp T.n9.b cV (af (kv 0) (af (kv 1) (af (kv 2) (af (kv 3) (af (kv 4) (af (kv 5) ao)))))))) (ay (aS (aA (J1 T) (by left) T.j9.g T.j9.F.kp T.j9.b cV (af (kv 0) (af (kv 1) (af (kv 2) (af (kv 3) (af (kv 4) (af (kv 5) (af (aA (OC T) (by left) T.oj.g T.oj.F.kp T.oj.b aL (af (kv 3) (af (kv 4) (af (kv 6) ao)))) ao)))))))))))) λ_ _ _ _ h=>xm rfl h
theorem OF:aM ["many", "whole"] ["many", "whole"] (aB Jv):=by right
theorem OG(T:Tx K mg a):T.oq.Ok P w base gH 1 tS:=
 T.oq.F.iY OF (by symm) (λ_ _ _ _ _ _ hr=>by delta tT;exact ay (aS (fW [("whole", 1),("many", 0)] (dY T.fZ (af (kD 0) ao)) (λ_ _ _ _ _=>⟨eX,aO gz (aO cH (aO bF (kv 0) au) (kD 1)) (aO bF (kD 2) au)⟩)))) λ_ _ _ _ h=>zy rfl h
theorem uF:aM ["letters", "many", "long", "texts"] ["letters", "many"] (aB Jw):=by right
theorem OH(T:Tx K mg a):T.ou.Ok P w base gH 1 pQ:=
 T.ou.F.iY uF (by symm) (λ_ _ _ _ _ _ hr=>by delta pR;exact aj (aJ (i:=2) uF.nd au) (aj (aJ (i:=3) uF.nd au) (aj (sW (bq mZ (aO gR (kv 3) au) (kv 1)) (aj (aJ (i:=3) uF.nd (aO cH (kv 3) (kv 0))) (ay (aJ (i:=2) uF.nd (aO bF (kv 2) au))))) (ay (aS (kv 2)))))) λ_ _ _ _ h=>xo rfl h
theorem J4:aM ["letters", "many", "long"] ["letters", "many"] (aB Jx):=by right
theorem OI(T:Tx K mg a):T.oz.Ok P w base gH 2 pS:=
 T.oz.F.iY J4 (by symm) (λ_ _ _ _ _ _ hr=>by delta pT;exact aj (wu (i := 2) J4.nd (aA (OH T) (by left) T.ou.g T.ou.F.kp T.ou.b aL (af (kD 0) (af (kv 1) ao)))) (ay (aS (fW [("letters", 0),("long", 2)] (bM (aA (OG T) (by left) T.oq.g T.oq.F.kp T.oq.b aL (af (kv 1) (af (aA (JV T) (by left) T.j4.g T.j4.F.kp T.j4.b aL (af (kD 0) (af (kD 2) ao))) ao)))) (λ_ _ _ _ _=>⟨eX,aA (JW T) (by left) T.j5.g T.j5.F.kp T.j5.b aL (af (kD 1) (af (kv 0) (af (kD 2) ao)))⟩))))) λ_ _ _ _ h=>xr rfl h
theorem mW:aM ["letters", "known", "fresh", "rows", "given", "mark", "stands"] ["letters", "known"] (aB Jy):=by right
theorem OJ(T:Tx K mg a):T.oA.Ok P w base gH 3 (Bu K):=
 T.oA.F.iY mW (by symm) (λ_ _ _ _ _ _ hr=>by delta Bv;exact aj (aJ (i:=2) mW.nd (aA (OI T) (by left) T.oz.g T.oz.F.kp T.oz.b aL (af (kv 0) (af (aR aN T.b8 PyProof.Rows.Boot.«len» (af (sY [] (bM (kv 1)) (λ_ _ _ _ _=>⟨fV (sS (kv 1)),kv 0⟩)) ao)) ao)))) (aj (aJ (i:=3) mW.nd (jq ao)) (aj (aJ (i:=4) mW.nd au) (aj (dW (bM (kv 1)) (AA (iX (cB (i:=5) mW.nd) (iX (cB (i:=6) mW.nd) wz))) (ay (cQ (sS (kv 6)) (aj (bz (jV PySem.F.plainAttrs_list PySem.F.slot_list_append PySem.F.type_list_append fq (kv 3) (af (fh (af (kv 5) (af (aQ bx (kv 2) (kv 4)) ao))) ao))) (ay (aJ (i:=4) mW.nd (aO bF (kv 4) au)))) (ay (bz (jV PySem.F.plainAttrs_list PySem.F.slot_list_append PySem.F.type_list_append fq (kv 3) (af (fh (af (kv 5) (af pC ao))) ao))))))) (ay (aS (kv 3))))))) λ_ _ _ _ h=>Fz rfl h
theorem ya:aM ["letters", "low", "high", "ends", "long", "many"] ["letters", "low", "high"] (aB Jz):=by right
theorem OL(T:Tx K mg a):T.oB.Ok P w base (qP P w) 5 (BC a.di):=
 T.oB.F.CW ya (by symm) (λ_ _ _ _ _ _ hr=>by delta BD;exact aj (bz (aA (xZ T) (by left) T.fL.g T.fL.F.kp T.fL.b cV (af (kv 1) (af (kv 2) ao)))) (aj (bT (aJ (i:=3) ya.nd (aA (xY T) (by left) T.fK.g T.fK.F.kp T.fK.b aL (af (kv 0) (af au (af au ao)))))) (aj (bT (aJ (i:=4) ya.nd (aA (J2 T) (by left) T.kc.g T.kc.F.kp T.kc.b aL (af (kv 0) (af (kv 3) (af (kv 1) (af (kv 2) (af au (af jU ao))))))))) (aj (bT (aJ (i:=5) ya.nd (aA (J0 T) (by left) T.j8.g T.j8.F.kp T.j8.b aL (af (kv 0) (af (kv 3) (af (kv 1) (af (kv 2) (af (kv 4) (af jU ao))))))))) (ay (aS (aA (J1 T) (by left) T.j9.g T.j9.F.kp T.j9.b cV (af (kv 0) (af au (af au (af (kv 1) (af (kv 2) (af (kv 4) (af (aO gz (aO gR (kv 5) au) au) ao)))))))))))))) λ_ _ _ _ h=>FI rfl h
theorem qf:aM ["rows", "mark", "first", "last", "middle"] ["rows", "mark"] (aB JA):=by right
theorem OM(T:Tx K mg a):T.oE.Ok P w base gH 1 (ud K):=
 T.oE.F.iY qf (by symm) (λ_ _ _ _ _ _ hr=>by delta ue;exact aj (aJ (i:=2) qf.nd au) (aj (aJ (i:=3) qf.nd (aR aN T.b8 PyProof.Rows.Boot.«len» (af (kv 0) ao))) (aj (sW (bq mZ (kv 2) (kv 3)) (aj (aJ (i:=4) qf.nd (aO gz (aO bF (kv 2) (kv 3)) au)) (ay (cQ (bq Ax (aQ aV (aQ bx (kv 0) (kv 4)) au) (kv 1)) (ay (aJ (i:=2) qf.nd (aO bF (kv 4) au))) (ay (aJ (i:=3) qf.nd (kv 4))))))) (ay (aS (kv 2)))))) λ_ _ _ _ h=>zI rfl h
theorem Cs:aM ["rows", "old", "new"] ["rows"] (aB JB):=by right
theorem J5(T:Tx K mg a):T.kg.Ok P w base gH 1 (nS K):=
 T.kg.F.iY Cs (by symm) (λ_ _ _ _ _ _ hr=>by delta uf;exact aj (dW (bM (kv 0)) (AA (iX (cB (i:=1) Cs.nd) (iX (cB (i:=2) Cs.nd) wz))) (ay (cQ (fD (kv 2)) (ay (aS (kv 2))) (bN)))) (ay (aS pC))) λ_ _ _ _ h=>zK rfl h
theorem yb:aM ["letters", "rows", "mark", "stems", "place", "low", "high"] ["letters", "rows", "mark", "stems"] (aB JC):=by right
theorem ON(T:Tx K mg a):T.oF.Ok P w base gH 6 (BE K):=
 T.oF.F.iY yb (by symm) (λ_ _ _ _ _ _ hr=>by have hu:=cT.units hr;delta BF;exact aj (aJ (i:=4) yb.nd (aA (OM T) (by left) T.oE.g T.oE.F.kp T.oE.b aL (af (kv 1) (af (kv 2) ao)))) (aj (cQ (kE (iO (bq mZ (kv 4) (aR aN T.b8 PyProof.Rows.Boot.«len» (af (kv 1) ao))) (iE (bq mY (aQ aV (aQ bx (kv 1) (kv 4)) au) (kv 2))))) (ay (aS (aQ aV (aQ bx (kv 1) (kv 4)) au))) (bN)) (aj (aJ (i:=5) yb.nd (aA (J5 T) (by left) T.kg.g T.kg.F.kp T.kg.b aL (af (AZ (by rfl') T.lC T.Cb (af (iW lG (kv 1) lI (lJ (kv 4))) ao)) ao))) (aj (aJ (i:=6) yb.nd (aA (J5 T) (by left) T.kg.g T.kg.F.kp T.kg.b aL (af (iW lG (kv 1) (lJ (kv 4)) lI) ao))) (aj (cQ (bq (pK hu) (fh (af (kv 5) (af (kv 6) ao))) (kv 3)) (ay (nG hu (kv 3) (fh (af (kv 5) (af (kv 6) ao))) (aA (OL T) (by left) T.oB.g T.oB.F.kp T.oB.b qo (af (kv 0) (af (kv 5) (af (kv 6) ao)))))) (bN)) (ay (aS (aO CP (fX hu (kv 3) (fh (af (kv 5) (af (kv 6) ao)))) (kv 2))))))))) λ_ _ _ _ h=>FL rfl h
theorem OO:aM ["letters", "hands", "renewals", "things", "taken"] ["letters", "hands", "renewals", "things", "taken"] (aB JD):=by right
theorem Ct(T:Tx K mg a):T.iw.Ok P w base gH 1 gM:=
 T.iw.F.iY OO (by symm) (λ_ _ _ _ _ _ hr=>by delta p7;exact ay (aS (fh (af (kv 0) (af (kv 1) (af (fW [] (bM (kv 2)) (λ_ _ _ _ _=>⟨eX,dF dw T.lC PyProof.Rows.Boot.«list» (af (kv 0) ao)⟩)) (af (dF dw T.lC PyProof.Rows.Boot.«list» (af (kv 3) ao)) (af (dF dw T.lC PyProof.Rows.Boot.«list» (af (kv 4) ao)) ao)))))))) λ_ _ _ _ h=>xG rfl h
theorem J6:aM ["fewer", "more", "shared"] ["fewer", "more"] (aB JE):=by right
theorem J7(T:Tx K mg a):T.kh.Ok P w base gH 1 (uy K):=
 T.kh.F.iY J6 (by symm) (λ_ _ _ _ _ _ hr=>by have hu:=cT.units hr;delta BS;exact aj (aJ (i:=2) J6.nd (iW lG (aQ aV (kv 1) (bh T.bU)) lI (lJ (aR aN T.b8 PyProof.Rows.Boot.«len» (af (aQ aV (kv 0) (bh T.bU)) ao))))) (ay (cQ (kE (kQ (bq CI (aQ aV (kv 0) (bh T.jd)) (aQ aV (kv 1) (bh T.jd))) (kQ (bq CI (aQ aV (kv 0) (bh T.rG)) (aQ aV (kv 1) (bh T.rG))) (iN (bq (wB hu) (aQ aV (kv 0) (bh T.bU)) (kv 2)))))) (ay yR) (bN)))) λ_ _ _ _ h=>FT rfl h
theorem yc:aM ["letters", "renewals", "mark", "stems", "reached", "rows"] ["letters", "renewals", "mark", "stems"] (aB JF):=by right
theorem OP(T:Tx K mg a):T.oG.Ok P w base gH 7 (uw K):=
 T.oG.F.iY yc (by symm) (λ_ _ _ _ _ _ hr=>by delta ux;exact aj (aJ (i:=4) yc.nd (kv 2)) (aj (dW (bM (kv 1)) (cB (i:=5) yc.nd) (aj (cQ (pD (kv 4)) (ay (aS pC)) (bN)) (ay (aJ (i:=4) yc.nd (aA (ON T) (by left) T.oF.g T.oF.F.kp T.oF.b aL (af (kv 0) (af (kv 5) (af (kv 4) (af (kv 3) ao))))))))) (ay (aS (kv 4))))) λ_ _ _ _ h=>zR rfl h
theorem uG:aM ["state", "renewals", "stems", "reached", "marks", "mark"] ["state", "renewals"] (aB JG):=by right
theorem J8(T:Tx K mg a):T.kj.Ok P w base gH 8 (g9 K):=
 T.kj.F.iY uG (by symm) (λ_ _ _ _ _ _ hr=>by have hu:=cT.units hr;delta mT;exact aj (aJ (i:=2) uG.nd Ih) (aj (aJ (i:=3) uG.nd kT) (aj (aJ (i:=4) uG.nd (aO o8 (sY [] (bM (aQ aV (kv 0) (bh T.je))) (λ_ _ _ _ _=>⟨eX,kv 0⟩)) (aQ aV (kv 0) (bh T.lX)))) (aj (dW (bM (mR (by rfl') T.gm T.Dy (af (kv 4) ao) PyProof.Rows.Boot.«sorted» PyProof.Rows.Boot.«set»)) (cB (i:=5) uG.nd) (ay (nG hu (kv 3) (kv 5) (aA (OP T) (by left) T.oG.g T.oG.F.kp T.oG.b aL (af (aQ aV (kv 0) (bh T.jd)) (af (kv 1) (af (kv 5) (af (kv 2) ao)))))))) (ay (aS (kv 3))))))) λ_ _ _ _ h=>uT rfl h
theorem yd:aM ["one", "other", "thing_of", "mark", "thing"] ["one", "other"] (aB JH):=by right
theorem J9(T:Tx K mg a):T.ko.Ok P w base gH 1 (gj K):=
 T.ko.F.iY yd (by symm) (λ_ _ _ _ _ _ hr=>by have hu:=cT.units hr;delta lB;exact aj (aJ (i:=2) yd.nd kT) (aj (dW (bM (aO o8 (kv 0) (kv 1))) (AA (iX (cB (i:=3) yd.nd) (iX (cB (i:=4) yd.nd) wz))) (ay (nG hu (kv 2) (kv 3) (aR (AE (by rfl')) T.JO PyProof.Rows.Boot.«min» (af (kv 4) (af (II hu (kv 2) (kv 3) (kv 4)) ao)))))) (ay (aS (aR (nK (by rfl')) T.gm PyProof.Rows.Boot.«sorted» (af (G4 PySem.F.plainAttrs_dict PySem.F.slot_dict_items PySem.F.type_dict_items zh (kv 2)) ao)))))) λ_ _ _ _ h=>uA rfl h
theorem lD:aM ["one", "other", "reached", "things", "taken"] ["one", "other"] (aB JI):=by right
theorem L0(T:Tx K mg a):T.br.Ok P w base gH 9 (rD K):=
 T.br.F.iY lD (rd:=DA K a) (by symm) (λ_ _ _ _ _ _ hr=>by have hu:=cT.units hr;delta DA;exact aj (cQ (bq qi (aR aN T.b8 PyProof.Rows.Boot.«len» (af (aQ aV (kv 0) (bh T.bU)) ao)) (aR aN T.b8 PyProof.Rows.Boot.«len» (af (aQ aV (kv 1) (bh T.bU)) ao))) (ay yR) (bN)) (aj (bz (aA (J7 T) (by left) T.kh.g T.kh.F.kp T.kh.b aL (af (kv 0) (af (kv 1) ao)))) (aj (wu (i := 2) lD.nd (aA (J8 T) (by left) T.kj.g T.kj.F.kp T.kj.b aL (af (kv 0) (af (iW lG (aQ aV (kv 1) (bh T.bU)) (lJ (aR aN T.b8 PyProof.Rows.Boot.«len» (af (aQ aV (kv 0) (bh T.bU)) ao))) lI) ao)))) (aj (yT (i := 3) [("reached", 2)] lD.nd (bM (aQ aV (kv 0) (bh T.je))) (λ_ _ _ _ _=>⟨fV (fD (fX hu (kD 2) (kv 0))),fh (af (fX hu (kD 2) (kv 0)) (af (kv 1) ao))⟩)) (aj (jr (i := 4) [("reached", 2)] lD.nd (bM (aQ aV (kv 0) (bh T.lX))) (λ_ _ _ _ _=>⟨fV (fD (fX hu (kD 1) (kv 0))),fX hu (kD 1) (kv 0)⟩)) (ay (aS (aA (Ct T) (by left) T.iw.g T.iw.F.kp T.iw.b aL (af (aQ aV (kv 1) (bh T.jd)) (af (aQ aV (kv 1) (bh T.rG)) (af (aQ aV (kv 1) (bh T.bU)) (af (aA (J9 T) (by left) T.ko.g T.ko.F.kp T.ko.b aL (af (kv 3) (af (aQ aV (kv 1) (bh T.je)) ao))) (af (mR (by rfl') T.gm T.Dy (af (aO o8 (kv 4) (aQ aV (kv 1) (bh T.lX))) ao) PyProof.Rows.Boot.«sorted» PyProof.Rows.Boot.«set») ao))))))))))))) λ_ _ _ _ h=>BW rfl h
theorem eS(T:Tx K mg a):T.br.Ok P w base gH 10 (dh K):=
 T.br.F.iY lD (rd:=JR K a) (by symm) (λ_ _ _ _ _ _ hr=>by have hu:=cT.units hr;delta JR;exact aj (cQ (bq qi (aR aN T.b8 PyProof.Rows.Boot.«len» (af (aQ aV (kv 0) (bh T.bU)) ao)) (aR aN T.b8 PyProof.Rows.Boot.«len» (af (aQ aV (kv 1) (bh T.bU)) ao))) (ay (aS (aA (L0 T) (by left) T.br.g T.br.F.kp T.br.b aL (af (kv 1) (af (kv 0) ao))))) (bN)) (aj (bz (aA (J7 T) (by left) T.kh.g T.kh.F.kp T.kh.b aL (af (kv 0) (af (kv 1) ao)))) (aj (wu (i := 2) lD.nd (aA (J8 T) (by left) T.kj.g T.kj.F.kp T.kj.b aL (af (kv 0) (af (iW lG (aQ aV (kv 1) (bh T.bU)) (lJ (aR aN T.b8 PyProof.Rows.Boot.«len» (af (aQ aV (kv 0) (bh T.bU)) ao))) lI) ao)))) (aj (yT (i := 3) [("reached", 2)] lD.nd (bM (aQ aV (kv 0) (bh T.je))) (λ_ _ _ _ _=>⟨fV (fD (fX hu (kD 2) (kv 0))),fh (af (fX hu (kD 2) (kv 0)) (af (kv 1) ao))⟩)) (aj (jr (i := 4) [("reached", 2)] lD.nd (bM (aQ aV (kv 0) (bh T.lX))) (λ_ _ _ _ _=>⟨fV (fD (fX hu (kD 1) (kv 0))),fX hu (kD 1) (kv 0)⟩)) (ay (aS (aA (Ct T) (by left) T.iw.g T.iw.F.kp T.iw.b aL (af (aQ aV (kv 1) (bh T.jd)) (af (aQ aV (kv 1) (bh T.rG)) (af (aQ aV (kv 1) (bh T.bU)) (af (aA (J9 T) (by left) T.ko.g T.ko.F.kp T.ko.b aL (af (kv 3) (af (aQ aV (kv 1) (bh T.je)) ao))) (af (mR (by rfl') T.gm T.Dy (af (aO o8 (kv 4) (aQ aV (kv 1) (bh T.lX))) ao) PyProof.Rows.Boot.«sorted» PyProof.Rows.Boot.«set») ao))))))))))))) λ_ _ _ _ h=>FY rfl h
theorem OQ:aM ["text"] ["text"] (aB JJ):=by right
theorem OR(T:Tx K mg a):T.oH.Ok P w base gH 1 pU:=
 T.oH.F.iY OQ (rd:=JS K a) (by symm) (λ_ _ _ _ _ _ hr=>by delta JS;exact aj (cQ (kE (kQ (bq mY (kv 0) (cN (by rfl'))) (iN (bq qi (aR fN T.b8 PyProof.Rows.Boot.«len» (af (kv 0) ao)) (bh T.qR))))) (ay (aS jU)) (bN)) (ay (aS (aR (EY (by rfl')) T.Qh PyProof.Rows.Boot.«all» (af (fW [] (G8 (kv 0)) (λ_ _ _ _ _=>⟨eX,sV Nx (kv 0) (jo T.uW (by rfl'))⟩)) ao))))) λ_ _ _ _ h=>xw rfl h
theorem OS:aM ["text"] ["text"] (aB JK):=by right
theorem OT(T:Tx K mg a):T.oJ.Ok P w base (qP P w) 2 (mP a.cL):=
 T.oJ.F.CW OS (rd:=λE=>jB a.cL E [97,32,116,104,105,110,103,32,104,97,115,32,49,32,116,111,32,49,50,32,115,105,103,110,115,44,32,101,97,99,104,32,97,32,115,109,97,108,108,32,108,101,116,116,101,114,32,111,114,32,97,32,102,105,103,117,114,101]) (by symm) (λ_ _ _ _ _ _ hr=>by delta jB;exact ay (cQ (G6 (sS (aA (OR T) (by left) T.oH.g T.oH.F.kp T.oH.b aL (af (kv 0) ao)))) (ay (gX PySem.F.excBase_ValueError T.Ga T.F9 (af (cN (by rfl')) ao) (λ_ _ _ _ _ _ _ I m q=>gW I m q))) (bN))) λ_ _ _ _ h=>uQ rfl h
theorem OU:aM ["place", "many"] ["place", "many"] (aB JL):=by right
theorem Ka(T:Tx K mg a):T.kq.Ok P w base (qP P w) 1 (jC a.cg):=
 T.kq.F.CW OU (rd:=λE=>fj a.cg E [116,104,101,114,101,32,105,115,32,110,111,32,115,117,99,104,32,112,108,97,99,101]) (by symm) (λ_ _ _ _ _ _ hr=>by delta fj;exact ay (cQ (kE (kQ (bq mZ (kv 0) au) (iN (bq CJ (kv 0) (kv 1))))) (ay (gX PySem.F.excBase_ValueError T.F8 T.F7 (af (cN (by rfl')) ao) (λ_ _ _ _ _ _ _ I m q=>gW I m q))) (bN))) λ_ _ _ _ h=>mD rfl h
theorem OV:aM ["number", "hands"] ["number", "hands"] (aB JM):=by right
theorem OW(T:Tx K mg a):T.oK.Ok P w base (qP P w) 1 (pZ a.cA):=
 T.oK.F.CW OV (rd:=λE=>fj a.cA E [116,104,101,114,101,32,105,115,32,110,111,32,115,117,99,104,32,104,97,110,100]) (by symm) (λ_ _ _ _ _ _ hr=>by delta fj;exact ay (cQ (kE (kQ (bq mZ (kv 0) au) (iN (bq CJ (kv 0) (kv 1))))) (ay (gX PySem.F.excBase_ValueError T.z3 T.zZ (af (cN (by rfl')) ao) (λ_ _ _ _ _ _ _ I m q=>gW I m q))) (bN))) λ_ _ _ _ h=>xE rfl h
theorem QB:aM ["self", "letters", "hands", "number"] ["self", "letters", "hands", "number"] (aB NY):=by right
theorem Kc(T:Tx K mg a):T.uU.Ok mg P w base (qP P w) 2 (lR a.az a.bX a.cA):=
 T.uU.F.CW QB (by symm) (λ_ _ _ _ _ _ hr=>by delta xF;exact aj (bz (aA (Ol T) (by left) T.n8.g T.n8.F.kp T.n8.b cV (af (kv 1) (af (kv 2) ao)))) (aj (bz (aA (OW T) (by left) T.oK.g T.oK.F.kp T.oK.b cV (af (kv 3) (af (kv 2) ao)))) (aj (bT (gY (kv 0) (kv 1))) (aj (bT (gY (kv 0) (kv 2))) (aj (bT (gY (kv 0) (kv 3))) (aj (bT (gY (kv 0) (jq ao))) (aj (bT (gY (kv 0) kT)) (ay (bT (gY (kv 0) kT)))))))))) λ_ _ _ _ h=>BL (Gh T) rfl h
theorem QC:aM ["self"] ["self"] (aB NZ):=by right
theorem z5(T:Tx K mg a):T.mq.Ok mg P w base gH 1 (g7 a.az):=
 T.mq.F.iY QC (by symm) (λ_ _ _ _ _ _ hr=>by have hu:=cT.units hr;delta uh;exact ay (aS (fW [("self",0)] (bM (aR (jw (by rfl')) T.gm PyProof.Rows.Boot.«sorted» (af (cX (kD 0)) ao))) (λ_ _ _ _ _=>⟨fV (bq (pK hu) (kv 0) (cX (kD 1))),kv 0⟩)))) λ_ _ _ _ h=>zL (Gh T) rfl h
theorem QD:aM ["self", "low"] ["self", "low"] (aB N2):=by right
theorem QF(T:Tx K mg a):T.zU.Ok mg P w base gH 1 (pX K a.az):=
 T.zU.F.iY QD (by symm) (λ_ _ _ _ _ _ hr=>by delta pY;exact ay (aS (Ly (LB (fW [("low",1)] (LA (cX (kv 0))) (λ_ _ _ _ _=>⟨fV (kE (kQ (pD (kD 1)) (iN (bq Ax (kD 1) (kv 0))))),kv 0⟩))) pC T.JO))) λ_ _ _ _ h=>xB (Gh T) rfl h
theorem DB:aM ["self", "place", "thing", "shown", "low", "mark"] ["self", "place", "thing"] (aB N3):=by right
theorem QH(T:Tx K mg a):T.zV.Ok mg P w base (qP P w) 7 (lg a.az a.cL a.cg):=
 T.zV.F.CW DB (by symm) (λ_ _ _ _ _ _ hr=>by have hu:=cT.units hr;delta BN;exact aj (bz (aA (OT T) (by left) T.oJ.g T.oJ.F.kp T.oJ.b cV (af (kv 2) ao))) (aj (bT (aJ (i:=3) DB.nd (cO (kv 0) T.cE T.mq.M (z5 T) (by left) T.mq.b aL))) (aj (bz (aA (Ka T) (by left) T.kq.g T.kq.F.kp T.kq.b cV (af (kv 1) (af (aO bF (aR aN T.b8 PyProof.Rows.Boot.«len» (af (kv 3) ao)) au) ao)))) (aj (bT (aJ (i:=4) DB.nd (sR (bq qi (kv 1) au) (aQ bx (kv 3) (aO gR (kv 1) au)) pC))) (aj (aJ (i:=5) DB.nd (aA (OE T) (by left) T.om.g T.om.F.kp T.om.b cV (af (cX (kv 0)) (af (cX (kv 0)) (af (cX (kv 0)) (af (kv 4) (af (gA (kv 0) T.cE T.zU.M (QF T) (by left) T.zU.b aL (af (kv 4) ao)) ao))))))) (aj (bT (nG hu (cX (kv 0)) (kv 5) (kv 2))) (ay (bT (aS (kv 5)))))))))) λ_ _ _ _ h=>FN (Gh T) rfl h
theorem MF:aM ["self", "place", "shown"] ["self", "place"] (aB N4):=by right
theorem QJ(T:Tx K mg a):T.zW.Ok mg P w base (qP P w) 2 (nU a.az a.cg):=
 T.zW.F.CW MF (by symm) (λ_ _ _ _ _ _ hr=>by have hu:=cT.units hr;delta xC;exact aj (bT (aJ (i:=2) MF.nd (cO (kv 0) T.cE T.mq.M (z5 T) (by left) T.mq.b aL))) (aj (bz (aA (Ka T) (by left) T.kq.g T.kq.F.kp T.kq.b cV (af (kv 1) (af (aR aN T.b8 PyProof.Rows.Boot.«len» (af (kv 2) ao)) ao)))) (aj (bT (nG hu (cX (kv 0)) (aQ bx (kv 2) (kv 1)) jU)) (ay (bT (aS (aQ bx (kv 2) (kv 1)))))))) λ_ _ _ _ h=>BK (Gh T) rfl h
theorem Ke:aM ["self", "known", "rows"] ["self"] (aB N5):=by right
theorem MG(T:Tx K mg a):T.uV.Ok mg P w base (qP P w) 4 (g8 a.az a.cA):=
 T.uV.F.CW Ke (rd:=nZ K a.cA [116,104,101,32,104,97,110,100,32,48,32,97,108,111,110,101,32,109,97,107,101,115,32,114,101,110,101,119,97,108,115]) (by symm) (λ_ _ _ _ _ _ hr=>by have hu:=cT.units hr;delta nZ;exact aj (cQ (bq CI (cX (kD 0)) au) (ay (gX PySem.F.excBase_ValueError T.z3 T.zZ (af (cN (by rfl')) ao) (λ_ _ _ _ _ _ _ I m q=>gW I m q))) (bN)) (aj (bT (jr (i := 1) [("self", 0)] Ke.nd (bM (aR (jw (by rfl')) T.gm PyProof.Rows.Boot.«sorted» (af (cX (kD 0)) ao))) (λ_ _ _ _ _=>⟨eX,fh (af (kv 0) (af (sV (pK hu) (kv 0) (cX (kD 1))) ao))⟩))) (aj (bT (aJ (i := 2) Ke.nd (aA (OJ T) (by left) T.oA.g T.oA.F.kp T.oA.b aL (af (cX (kD 0)) (af (kv 1) ao))))) (aj (bT (gY (kD 0) (dF (kU (by rfl')) T.Ca PyProof.Rows.Boot.«dict» (af (sY [("self", 0)] (bM (kv 2)) (λ_ _ _ _ _=>⟨fV (fD (kv 1)),fh (af (kv 1) (af (fX hu (cX (kD 2)) (kv 0)) ao))⟩)) ao)))) (aj (bT (gY (kD 0) kT)) (aj (bT (bz (jV PySem.F.plainAttrs_list PySem.F.slot_list_append PySem.F.type_list_append fq (cX (kD 0)) (af (kv 2) ao)))) (ay (bT (aS (dF dw T.lC PyProof.Rows.Boot.«list» (af (kv 2) ao))))))))))) λ_ _ _ _ h=>zP (Gh T) rfl h
theorem QK:aM ["self"] ["self"] (aB N6):=by right
theorem QL(T:Tx K mg a):T.zX.Ok mg P w base gH 1 (BP a.az):=
 T.zX.F.iY QK (rd:=MB K a) (by symm) (λ_ _ _ _ _ _ hr=>by delta MB;exact ay (aS (aR aN T.b8 PyProof.Rows.Boot.«len» (af (cX (kv 0)) ao)))) λ_ _ _ _ h=>FP (Gh T) rfl h
theorem QM:aM ["self"] ["self"] (aB N7):=by right
theorem QN(T:Tx K mg a):T.zY.Ok mg P w base gH 1 (lS a.az):=
 T.zY.F.iY QM (rd:=MC K a) (by symm) (λ_ _ _ _ _ _ hr=>by delta MC;exact ay (aS (cX (kv 0)))) λ_ _ _ _ h=>xJ (Gh T) rfl h
theorem MH:aM ["self", "things"] ["self"] (aB N8):=by right
theorem vO(T:Tx K mg a):T.kF.Ok mg P w base gH 2 (eW a.az):=
 T.kF.F.iY MH (by symm) (λ_ _ _ _ _ _ hr=>by delta um;exact aj (aJ (i:=1) MH.nd (aR (nK (by rfl')) T.gm PyProof.Rows.Boot.«sorted» (af (G4 PySem.F.plainAttrs_dict PySem.F.slot_dict_items PySem.F.type_dict_items zh (cX (kv 0))) ao))) (ay (aS (aA (Ct T) (by left) T.iw.g T.iw.F.kp T.iw.b aL (af (cX (kv 0)) (af (cX (kv 0)) (af (cX (kv 0)) (af (kv 1) (af (aR (jw (by rfl')) T.gm PyProof.Rows.Boot.«sorted» (af (cX (kv 0)) ao)) ao))))))))) λ_ _ _ _ h=>zN (Gh T) rfl h
theorem MI:aM ["self", "state", "whole"] ["self", "state"] (aB N9):=by right
theorem vP(T:Tx K mg a):T.kG.Ok mg P w base gH 11 (gv K a.az):=
 T.kG.F.iY MI (by symm) (λ_ _ _ _ _ _ hr=>by delta BY;exact aj (aJ (i:=2) MI.nd (aA (eS T) (by left) T.br.g T.br.F.kp T.br.b aL (af (cO (kv 0) T.cE T.kF.M (vO T) (by left) T.kF.b aL) (af (kv 1) ao)))) (aj (gY (kv 0) (aQ aV (kv 2) (bh T.bU))) (aj (gY (kv 0) (dF (kU (by rfl')) T.Ca PyProof.Rows.Boot.«dict» (af (aQ aV (kv 2) (bh T.je)) ao))) (ay (gY (kv 0) (dF (kU (by rfl')) T.Ca PyProof.Rows.Boot.«dict» (af (fW [] (bM (aQ aV (kv 2) (bh T.lX))) (λ_ _ _ _ _=>⟨eX,fh (af (kv 0) (af jU ao))⟩)) ao))))))) λ_ _ _ _ h=>F4 (Gh T) rfl h
theorem ye:aM ["_law_script", "_law_k", "_law_many", "_law_cell", "_law_seed"] ["_law_script", "_law_k", "_law_many"] (aB BZ):=by right
theorem fG(T:Tx K mg a):T.bA.Ok P w base gH 1 (eO K):=
 T.bA.F.iY ye (by symm) (λ_ _ _ _ _ _ hr=>by delta A8;exact aj (aJ (i:=3) ye.nd (sR (bq qi (aR aN T.b8 PyProof.Rows.Boot.«len» (af (kv 0) ao)) au) (aQ bx (kv 0) (aO ff (kv 1) (aR aN T.b8 PyProof.Rows.Boot.«len» (af (kv 0) ao)))) au)) (aj (cQ (kE (iO (bq qi (aR aN T.b8 PyProof.Rows.Boot.«len» (af (kv 0) ao)) au) (iE (bq mY (aO ff (aQ bx (kv 0) au) au) au)))) (ay (aS (aO ff (aO ff (aO Nd (kv 3) (aO bF (aO cH au (aO gz (kv 1) (aR aN T.b8 PyProof.Rows.Boot.«len» (af (kv 0) ao)))) au)) au) (kv 2)))) (bN)) (aj (aJ (i:=4) ye.nd (aO bF (aO bF (aO ff (kv 3) au) (aO cH (aO cH au (kv 1)) (kv 1))) au)) (ay (aS (aO ff (aO ff (aO cH (aO ff (aO cH (kv 4) au) au) au) au) (kv 2))))))) λ_ _ _ _ h=>Fg rfl h
theorem yf:aM ["_law_script", "_law_letters", "_law_hands"] ["_law_script"] (aB B3):=by right
theorem L1(T:Tx K mg a):T.jI.Ok P w base gH 2 (Cd K):=
 T.jI.F.iY yf (rd:=rJ K a) (by symm) (λ_ _ _ _ _ _ hr=>by delta rJ;exact aj (aJ (i:=1) yf.nd (aQ bx (jq (af au (af au (af au (af au (af au (af au ao))))))) (aA (fG T) (by left) T.bA.g T.bA.F.kp T.bA.b aL (af (kv 0) (af au (af au ao)))))) (aj (aJ (i:=2) yf.nd (aO bF au (aA (fG T) (by left) T.bA.g T.bA.F.kp T.bA.b aL (af (kv 0) (af au (af (aR (EE (by rfl')) T.JO PyProof.Rows.Boot.«min» (af au (af (aO gR (kv 1) au) ao))) ao)))))) (ay (aS (fh (af (kv 1) (af (sR (bq mY (aA (fG T) (by left) T.bA.g T.bA.F.kp T.bA.b aL (af (kv 0) (af au (af au ao)))) au) (aO gR (kv 1) au) (kv 2)) ao))))))) λ_ _ _ _ h=>Gb rfl h
theorem z8:aM ["_law_script", "_law_k", "_law_some"] ["_law_script", "_law_k"] (aB xO):=by right
theorem Kf(T:Tx K mg a):T.gE.Ok P w base gH 2 (jb K):=
 T.gE.F.iY z8 (by symm) (λ_ _ _ _ _ _ hr=>by delta uv;exact aj (aJ (i:=2) z8.nd (jq (af (cN (by rfl')) (af (cN (by rfl')) (af (cN (by rfl')) (af (cN (by rfl')) (af (cN (by rfl')) (af (cN (by rfl')) (af (cN (by rfl')) (af (cN (by rfl')) ao)))))))))) (ay (aS (aQ bx (kv 2) (aA (fG T) (by left) T.bA.g T.bA.F.kp T.bA.b aL (af (kv 0) (af (kv 1) (af au ao)))))))) λ_ _ _ _ h=>zQ rfl h
theorem oQ:aM ["_law_script", "_law_k", "_law_hand", "_law_many", "_law_n", "_law_shown", "_law_way"] ["_law_script", "_law_k", "_law_hand", "_law_many"] (aB xP):=by right
theorem z9(T:Tx K mg a):T.eZ.Ok P w base gH 8 (rH K a.az):=
 T.eZ.F.iY oQ (rd:=oO K a) (by symm) (λ_ _ _ _ _ _ hr=>by delta oO;exact ay (dW (dY T.fZ (af (kv 3) ao)) (cB (i:=4) oQ.nd) (aj (aJ (i:=5) oQ.nd (aR aN T.b8 PyProof.Rows.Boot.«len» (af (cO (kv 2) T.cE T.mq.M (z5 T) (by left) T.mq.b aL) ao))) (aj (aJ (i:=6) oQ.nd (aA (fG T) (by left) T.bA.g T.bA.F.kp T.bA.b aL (af (kv 0) (af (aO bF (kv 1) (aO cH au (kv 4))) (af au ao))))) (ay (cQ (kE (iO (bq mY (kv 6) au) (iE (bq qi (kv 5) au)))) (ay (bz (gA (kv 2) T.cE T.zW.M (QJ T) (by left) T.zW.b qo (af (aA (fG T) (by left) T.bA.g T.bA.F.kp T.bA.b aL (af (kv 0) (af (aO bF (aO bF (kv 1) (aO cH au (kv 4))) au) (af (kv 5) ao)))) ao)))) (ay (cQ (kE (iO (bq mY (kv 6) au) (iE (bq mY (cO (kv 2) T.cE T.zY.M (QN T) (by left) T.zY.b aL) au)))) (ay (bz (cO (kv 2) T.cE T.uV.M (MG T) (by left) T.uV.b qo))) (ay (bz (gA (kv 2) T.cE T.zV.M (QH T) (by left) T.zV.b qo (af (aA (fG T) (by left) T.bA.g T.bA.F.kp T.bA.b aL (af (kv 0) (af (aO bF (aO bF (kv 1) (aO cH au (kv 4))) au) (af (aO bF (kv 5) au) ao)))) (af (aA (Kf T) (by left) T.gE.g T.gE.F.kp T.gE.b aL (af (kv 0) (af (aO bF (aO bF (kv 1) (aO cH au (kv 4))) au) ao))) ao))))))))))))) λ_ _ _ _ h=>Ce rfl h
theorem jL:aM ["_law_script", "_law_size_here", "_law_numbers", "_law_k", "_law_number", "_law_hands", "_law_hand"] ["_law_script", "_law_size_here"] (aB B7):=by right
theorem L3(T:Tx K mg a):T.jJ.Ok P w base gH 12 (xT K a.az):=
 T.jJ.F.iY jL (rd:=rK K a) (by symm) (λ_ _ _ _ _ _ hr=>by delta rK;exact aj (aJ (i:=2) jL.nd (jq (af au ao))) (aj (dW (dY T.fZ (af au ao)) (cB (i:=3) jL.nd) (aj (aJ (i:=4) jL.nd (aA (fG T) (by left) T.bA.g T.bA.F.kp T.bA.b aL (af (kv 0) (af (aO bF au (kv 3)) (af (aQ aV (kD 1) au) ao))))) (ay (cQ (bq v8 (kv 4) (kv 2)) (ay (bz (jV PySem.F.plainAttrs_list PySem.F.slot_list_append PySem.F.type_list_append fq (kv 2) (af (kv 4) ao)))) (bN))))) (aj (jr (i:=5) [("_law_size_here",1)] jL.nd (bM (kv 2)) (λ_ _ _ _ _=>⟨eX,wG T.Cc (Kc T) (by left) T.xQ T.uU.b qo (af (aQ aV (kD 1) au) (af (aQ aV (kD 1) au) (af (kv 0) ao)))⟩)) (aj (bz (aA (z9 T) (by left) T.eZ.g T.eZ.F.kp T.eZ.b aL (af (kv 0) (af au (af (aQ bx (kv 5) au) (af (aA (fG T) (by left) T.bA.g T.bA.F.kp T.bA.b aL (af (kv 0) (af au (af au ao)))) ao)))))) (aj (dW (bM (iW lG (kv 5) (lJ au) lI)) (cB (i:=6) jL.nd) (ay (bz (gA (kv 6) T.cE T.kG.M (vP T) (by left) T.kG.b aL (af (cO (aQ bx (kv 5) au) T.cE T.kF.M (vO T) (by left) T.kF.b aL) ao))))) (aj (dW (dY T.fZ (af (aR aN T.b8 PyProof.Rows.Boot.«len» (af (kv 5) ao)) ao)) (cB (i:=3) jL.nd) (ay (bz (aA (z9 T) (by left) T.eZ.g T.eZ.F.kp T.eZ.b aL (af (kv 0) (af (aO bF au (aO cH au (kv 3))) (af (aQ bx (kv 5) (kv 3)) (af (aA (fG T) (by left) T.bA.g T.bA.F.kp T.bA.b aL (af (kv 0) (af (aO bF au (kv 3)) (af au ao)))) ao)))))))) (ay (aS (kv 5))))))))) λ_ _ _ _ h=>Cg rfl h
theorem L4:aM ["_law_state"] ["_law_state"] (aB B9):=by right
theorem L5(T:Tx K mg a):T.jK.Ok P w base gH 1 (xK K):=
 T.jK.F.iY L4 (by symm) (λ_ _ _ _ _ _ hr=>by delta xM;exact ay (aS (fh (af (aQ aV (kv 0) au) (af (aQ aV (kv 0) au) (af (fW [] (bM (aQ aV (kv 0) au)) (λ_ _ _ _ _=>⟨eX,dF dw T.lC PyProof.Rows.Boot.«list» (af (kv 0) ao)⟩)) (af (dF dw T.lC PyProof.Rows.Boot.«list» (af (aQ aV (kv 0) au) ao)) (af (dF dw T.lC PyProof.Rows.Boot.«list» (af (aQ aV (kv 0) au) ao)) ao)))))))) λ_ _ _ _ h=>BR rfl h
theorem gn:aM ["_law_states", "_law_kept", "_law_size_here", "_law_found", "_law_rows", "_law_fresh", "_law_beside"] ["_law_states", "_law_kept", "_law_size_here"] (aB mV):=by right
theorem Aa(T:Tx K mg a):T.dz.Ok P w base gH 12 (xU K a.az):=
 T.dz.F.iY gn (rd:=iJ K a) (by symm) (λ_ _ _ _ _ _ hr=>by have hu:=cT.units hr;delta iJ;exact aj (aJ (i:=3) gn.nd (aA (eS T) (by left) T.br.g T.br.F.kp T.br.b aL (af (aQ bx (kv 0) au) (af (aQ bx (kv 0) (Mv Gy au)) ao)))) (aj (bz (jV PySem.F.plainAttrs_list PySem.F.slot_list_append PySem.F.type_list_append fq (aQ aV (kv 3) au) (af (jq ao) ao))) (aj (dW (bM (aQ aV (kv 3) au)) (cB (i:=4) gn.nd) (ay (bz (jV PySem.F.plainAttrs_list PySem.F.slot_list_append PySem.F.type_list_append fq (kv 4) (af (fh (af (cN (by rfl')) (af pC ao))) ao))))) (aj (bz (jV PySem.F.plainAttrs_list PySem.F.slot_list_append PySem.F.type_list_append fq (aQ aV (kv 3) au) (af (fh (af (cN (by rfl')) (af (cN (by rfl')) ao))) ao))) (aj (bz (jV PySem.F.plainAttrs_list PySem.F.slot_list_append PySem.F.type_list_append fq (aQ aV (kv 3) au) (af (cN (by rfl')) ao))) (aj (aJ (i:=5) gn.nd (wG T.Cc (Kc T) (by left) T.xQ T.uU.b qo (af (aQ aV (kv 2) au) (af (aQ aV (kv 2) au) (af au ao))))) (aj (bz (gA (kv 5) T.cE T.kG.M (vP T) (by left) T.kG.b aL (af (aQ bx (kv 0) au) ao))) (aj (aJ (i:=6) gn.nd (wG T.Cc (Kc T) (by left) T.xQ T.uU.b qo (af (aQ aV (kv 2) au) (af (aQ aV (kv 2) au) (af (aO gR (aQ aV (kv 2) au) au) ao))))) (aj (bz (gA (kv 6) T.cE T.kG.M (vP T) (by left) T.kG.b aL (af (aQ bx (kv 0) au) ao))) (aj (bz (cO (kv 5) T.cE T.uV.M (MG T) (by left) T.uV.b qo)) (ay (aS (G3 (sV (Hi hu) (kv 0) (kv 1)) (G3 (sV (Hi hu) (cO (kv 6) T.cE T.kF.M (vO T) (by left) T.kF.b aL) (aQ bx (kv 1) au)) (NI (sV mY (cO (kv 5) T.cE T.zX.M (QL T) (by left) T.zX.b aL) (aO bF (aR aN T.b8 PyProof.Rows.Boot.«len» (af (aQ aV (aQ bx (kv 1) au) au) ao)) au))))))))))))))))) λ_ _ _ _ h=>Cj rfl h
theorem dM:aM ["_law_script", "_law_size_here", "_law_hands", "_law_states", "_law_kept", "_law_one", "_law_other", "_law_third", "_law_due", "_law_ways", "_law_way", "_law_order", "_law_k", "_law_told", "_law_state"] ["_law_script"] (aB JN):=by right
theorem OX(T:Tx K mg a):T.qI.Ok P w base gH 13 (Dz K):=
 T.qI.F.iY dM (rd:=xV K a) (by symm) (λ_ _ _ _ _ _ hr=>by have hu:=cT.units hr;delta xV;exact aj (aJ (i:=1) dM.nd (aA (L1 T) (by left) T.jI.g T.jI.F.kp T.jI.b aL (af (kv 0) ao))) (aj (aJ (i:=2) dM.nd (aA (L3 T) (by left) T.jJ.g T.jJ.F.kp T.jJ.b aL (af (kv 0) (af (kv 1) ao)))) (aj (jr (i:=3) [] dM.nd (bM (kv 2)) (λ_ _ _ _ _=>⟨eX,cO (kv 0) T.cE T.kF.M (vO T) (by left) T.kF.b aL⟩)) (aj (jr (i:=4) [] dM.nd (bM (kv 3)) (λ_ _ _ _ _=>⟨eX,aA (L5 T) (by left) T.jK.g T.jK.F.kp T.jK.b aL (af (kv 0) ao)⟩)) (aj (aJ (i:=5) dM.nd (aQ bx (kv 3) au)) (aj (aJ (i:=6) dM.nd (aQ bx (kv 3) (Mv Gy au))) (aj (aJ (i:=7) dM.nd (aQ bx (kv 3) (aO gz (aR aN T.b8 PyProof.Rows.Boot.«len» (af (kv 3) ao)) au))) (aj (aJ (i:=8) dM.nd (aA (eS T) (by left) T.br.g T.br.F.kp T.br.b aL (af (aA (eS T) (by left) T.br.g T.br.F.kp T.br.b aL (af (kv 5) (af (kv 6) ao))) (af (kv 7) ao)))) (aj (aJ (i:=9) dM.nd (jq (af (aA (eS T) (by left) T.br.g T.br.F.kp T.br.b aL (af (kv 7) (af (aA (eS T) (by left) T.br.g T.br.F.kp T.br.b aL (af (kv 6) (af (kv 5) ao))) ao))) (af (aA (eS T) (by left) T.br.g T.br.F.kp T.br.b aL (af (aA (eS T) (by left) T.br.g T.br.F.kp T.br.b aL (af (kv 6) (af (kv 7) ao))) (af (kv 5) ao))) ao)))) (aj (aJ (i:=9) dM.nd (aO o8 (kv 9) (jq (af (aA (eS T) (by left) T.br.g T.br.F.kp T.br.b aL (af (aA (eS T) (by left) T.br.g T.br.F.kp T.br.b aL (af (kv 7) (af (kv 5) ao))) (af (kv 6) ao))) (af (aA (eS T) (by left) T.br.g T.br.F.kp T.br.b aL (af (kv 8) (af (kv 6) ao))) (af (aA (eS T) (by left) T.br.g T.br.F.kp T.br.b aL (af (kv 8) (af (kv 8) ao))) ao)))))) (aj (aJ (i:=9) dM.nd (aO o8 (kv 9) (jq (af (aA (eS T) (by left) T.br.g T.br.F.kp T.br.b aL (af (kv 5) (af (kv 8) ao))) (af (aA (eS T) (by left) T.br.g T.br.F.kp T.br.b aL (af (aA (eS T) (by left) T.br.g T.br.F.kp T.br.b aL (af (kv 5) (af (kv 5) ao))) (af (aA (eS T) (by left) T.br.g T.br.F.kp T.br.b aL (af (kv 7) (af (kv 6) ao))) ao))) ao))))) (aj (dW (bM (kv 9)) (cB (i:=10) dM.nd) (ay (cQ (bq (wB hu) (kv 10) (kv 8)) (ay (aS jU)) (bN)))) (aj (cQ (G6 (sS (aA (Aa T) (by left) T.dz.g T.dz.F.kp T.dz.b aL (af (kv 3) (af (kv 4) (af (kv 1) ao)))))) (ay (aS jU)) (bN)) (aj (cQ (kE (kQ (bq (wB hu) (kv 3) (kv 4)) (iN (bq CI (FH (by rfl') T.b8 T.Dy (af (fW [] (bM (aQ aV (kv 8) au)) (λ_ _ _ _ _=>⟨eX,aQ aV (kv 0) au⟩)) ao) PyProof.Rows.Boot.«len» PyProof.Rows.Boot.«set») (aR aN T.b8 PyProof.Rows.Boot.«len» (af (aQ aV (kv 8) au) ao)))))) (ay (aS jU)) (bN)) (aj (aJ (i:=11) dM.nd (aA (fG T) (by left) T.bA.g T.bA.F.kp T.bA.b aL (af (kv 0) (af au (af (aR aN T.b8 PyProof.Rows.Boot.«len» (af (kv 2) ao)) ao))))) (aj (dW (dY T.fZ (af (aO cH au (aR aN T.b8 PyProof.Rows.Boot.«len» (af (kv 2) ao))) ao)) (cB (i:=12) dM.nd) (aj (aJ (i:=13) dM.nd (cO (aQ bx (kv 2) (aO ff (aO bF (aO bF (kv 11) (kv 12)) au) (aR aN T.b8 PyProof.Rows.Boot.«len» (af (kv 2) ao)))) T.cE T.kF.M (vO T) (by left) T.kF.b aL)) (ay (bz (gA (aQ bx (kv 2) (aO ff (aO bF (kv 11) (kv 12)) (aR aN T.b8 PyProof.Rows.Boot.«len» (af (kv 2) ao)))) T.cE T.kG.M (vP T) (by left) T.kG.b aL (af (kv 13) ao)))))) (aj (dW (dY T.fZ (af (aR aN T.b8 PyProof.Rows.Boot.«len» (af (kv 2) ao)) ao)) (cB (i:=12) dM.nd) (aj (bz (gA (aQ bx (kv 2) (kv 12)) T.cE T.kG.M (vP T) (by left) T.kG.b aL (af (aQ bx (kv 4) (aO ff (aO bF (kv 12) (kv 11)) (aR aN T.b8 PyProof.Rows.Boot.«len» (af (kv 4) ao)))) ao))) (aj (dW (bM (kv 4)) (cB (i:=14) dM.nd) (ay (bz (gA (aQ bx (kv 2) (kv 12)) T.cE T.kG.M (vP T) (by left) T.kG.b aL (af (kv 14) ao))))) (ay (cQ (kE (kQ (bq (wB hu) (cO (aQ bx (kv 2) (kv 12)) T.cE T.kF.M (vO T) (by left) T.kF.b aL) (kv 8)) (iN (bq (Le hu) (cO (aQ bx (kv 2) (kv 12)) T.cE T.mq.M (z5 T) (by left) T.mq.b aL) (cO (aQ bx (kv 2) au) T.cE T.mq.M (z5 T) (by left) T.mq.b aL))))) (ay (aS jU)) (bN)))))) (ay (aS jU))))))))))))))))))) λ_ _ _ _ h=>JU rfl h
end
end K63
local macro_rules | `(tactic| left)=>`(tactic| exact L2.cT.mono (by assumption) (by decide))
local macro_rules | `(tactic| right)=>`(tactic| exact ⟨rfl,rfl,rfl,by decide +kernel,rfl,by decide +kernel,by decide +kernel⟩)
local macro_rules | `(tactic| symm)=>`(tactic| (intro _ _ _ _ h; (repeat obtain ⟨_,h⟩:=h) <;> (subst_vars; rfl)))
local macro_rules | `(tactic| exfalso)=>`(tactic| (intro _ _ _ _ _ _; repeat (first | exact L2.Tt rfl | refine L2.Tu fun _=>?_)))
namespace PySem.W.Fast
def tw1526057756128956603:=0
def tw16640063452068263072:=0
def tw6496539259941284257:=0
def tw10588561733134261522:=0
def tw11796277265124762597:=0
def tw1952078408580664935:=0
def tw6174325595553314589:=0
def tw10100312530712787804:=0
def tw822808073517519978:=0
def tw7823737884160179385:=0
def tw14285903479964762484:=0
def tw17244730056719283234:=0
def tw14964821371962703260:=0
def tw17680056882859620496:=0
def tw7330478996315947546:=0
def tw4962988270520551098:=0
def tw13626091954590143106:=0
def tw11140741148591930593:=0
def tw12220874624640526089:=0
def tw1859923655825343101:=0
def tw3287479330028458074:=0
def tw13414373159111866638:=0
def tw16433711786891340748:=0
def tw12110719638077821603:=0
def tw8607496887089285492:=0
def tw15755062960095387596:=0
def tw13249174886003452819:=0
def tw6627989042658789997:=0
def tw13965394521436349699:=0
def tw3444850753915225888:=0
def tw8540436086905850163:=0
def tw17882523200133894963:=0
def tw15827201352315416611:=0
def tw13805442544215075608:=0
def tw3869604268904944306:=0
def tw6093858209825593774:=0
def tw1603973749389692074:=0
def tw11023974843082142888:=0
def tw5100043028259233499:=0
def tw15670787416830291477:=0
def tw17971481393057823015:=0
def tw7327724328417168107:=0
def tw2418736420606678077:=0
def tw8694392145978835486:=0
def tw1522567946674742084:=0
def tw3758889338640516789:=0
def tw6501416917243355933:=0
def tw9741602885882054418:=0
def tw15367305321104706327:=0
def tw1934095183911343331:=0
def tw11789642797643051728:=0
def tw18057379565511849240:=0
def tw4894122589226202753:=0
def tw17763751197558279943:=0
def tw8229727778298091554:=0
def tw3101590825229016432:=0
def tw4657747488534500907:=0
def tw11271909635489827460:=0
def tw15254268630812612964:=0
def tw7333498753659079113:=0
def tw4686512900967830261:=0
def tw14035112874361719320:=0
def tw10791684522546558970:=0
def tw1439955524640963497:=0
def tw9850076496907338400:=0
def tw11035291533791426756:=0
def tw996282775125303431:=0
def tw502517377919881935:=0
def tw6398313795921144330:=0
def tw16055500482314366894:=0
def tw11793600709411671610:=0
def tw10325033402053091773:=0
def tw16221812798878615887:=0
def tw14784549245173322541:=0
def tw5387814969570760591:=0
def tw11385523215442496301:=0
def tw14726630030248822861:=0
def tw1034124936599555878:=0
def tw2793062126190050985:=0
def tw15102230362796213555:=0
def tw13003955213896419991:=0
def tw2236334859001662796:=0
def tw4933069605583361614:=0
def tw12005850669551678828:=0
def tw15847548835915894259:=0
def tw16092515860764295380:=0
def tw15783959777581722479:=0
def tw17106670423038841136:=0
def tw2355212505411237463:=0
def tw12252058451472151266:=0
def tw9253655483043000927:=0
def tw17444879867259974811:=0
def tw4694029811419409733:=0
def tw1526156308955798473:=0
def tw16842496945658879452:=0
def tw9334493732762236734:=0
def tw929229231201145923:=0
def tw14364205235214382685:=0
def tw12605199467970818423:=0
def tw1870580755506271996:=0
def tw9254887689299098144:=0
def tw17744874955495802597:=0
def tw11786541397692342394:=0
def tw18013579892589868252:=0
def tw4280003295836374083:=0
def tw13675784823770302434:=0
def tw647316344850511837:=0
def tw7951287806899196625:=0
def tw15607421402827526612:=0
def tw1548702409309605928:=0
def tw12661490521033719235:=0
def tw7628096107114474634:=0
def tw7078415302532783681:=0
def tw16146384106188988785:=0
def tw17891731538767084806:=0
def tw8159493148041418692:=0
def tw15028117373232314762:=0
def tw18271228776833572782:=0
def tw5620985189722228738:=0
def tw16972194504788807104:=0
def tw12384369684029193994:=0
def tw14511677396846605726:=0
def tw10891077842135251823:=0
def tw16503642796320520867:=0
def tw13828972941674202308:=0
def tw14310382249290490143:=0
def tw13157070562939028873:=0
def tw15405472088801614145:=0
def tw15316677467180330000:=0
def tw9292137303778836845:=0
def tw8163173990845315274:=0
def tw5812938208394331163:=0
def tw15147449957969543640:=0
def tw245640490618595562:=0
end PySem.W.Fast
namespace K63
open PySem PySem.Spec PyProof.Rows L2 MM
theorem QU{K:W.Frag}{h:Heap}{mg:Str->Option Value}(X:K.In h)(G:h.Ns mainGlobals mg)
  {az:Addr} {cA bX cg di cL:Addr} {L6:Tok} {Gg:Tok} {L7:Tok} {Cu:Tok} {Kg:Tok} {L8:Tok} {uY:Tok} {qV:Tok}
  (rL:W.nsIn K mainGlobals "Hand" =some (some (.ref az)))
  (rM:W.plainGet K az Str.empty=true)
  (rN:W.hasDictIn K az=true)
  (rO:W.plainOver K az=true)
  (rP:W.findIn K (.ref az) "__setattr__" =some (some (.builtin "object.__setattr__")))
  (rQ:W.makesIn K az=true)
  (rR:W.keepIn K (.ref az)=true)
  (e8:W.findIn K (.ref az) "letters" =some none)
  (f7:W.findIn K (.ref az) "hands" =some none)
  (dD:W.findIn K (.ref az) "own_number" =some none)
  (ee:W.findIn K (.ref az) "renewals" =some none)
  (eE:W.findIn K (.ref az) "thing_of" =some none)
  (f9:W.findIn K (.ref az) "taken" =some none)
  (lY:W.nsIn K mainGlobals "NoHand" =some (some (.ref cA)))
  (gF:W.nsIn K mainGlobals "NoLetters" =some (some (.ref bX)))
  (jM:W.nsIn K mainGlobals "NoPlace" =some (some (.ref cg)))
  (lZ:W.nsIn K mainGlobals "NoRoom" =some (some (.ref di)))
  (jN:W.nsIn K mainGlobals "NoThing" =some (some (.ref cL)))
  (l6:Xc K cA)
  (gG:Xc K bX)
  (jO:Xc K cg)
  (mh:Xc K di)
  (jP:Xc K cL)
  (DC:W.nsIn K mainGlobals "all" =some none)
  (yg:W.nsIn K mainGlobals "dict" =some none)
  (DE:W.nsIn K mainGlobals "len" =some none)
  (yh:W.nsIn K mainGlobals "list" =some none)
  (DF:W.nsIn K mainGlobals "min" =some none)
  (rS:W.nsIn K mainGlobals "range" =some none)
  (jQ:W.nsIn K mainGlobals "reversed" =some none)
  (DG:W.nsIn K mainGlobals "set" =some none)
  (oR:W.nsIn K mainGlobals "sorted" =some none)
  (rT:W.nsIn K mainGlobals "SMALL" =some (some (.str "abcdefghijklmnopqrstuvwxyz" L6)))
  (mj:W.nsIn K mainGlobals "LETTERS" =some (some (.int 0 Gg)))
  (rV:W.nsIn K mainGlobals "HANDS" =some (some (.int 1 L7)))
  (jR:W.nsIn K mainGlobals "RENEWALS" =some (some (.int 2 Cu)))
  (oS:W.nsIn K mainGlobals "THINGS" =some (some (.int 3 Kg)))
  (rW:W.nsIn K mainGlobals "TAKEN" =some (some (.int 4 L8)))
  (gb:W.nsIn K mainGlobals "THING_SIGNS" =some (some (.str "abcdefghijklmnopqrstuvwxyz0123456789" uY)))
  (e9:W.nsIn K mainGlobals "LONGEST_THING" =some (some (.int 12 qV)))
  (DH:Fq K "ask_letters" Jc)
  (DI:Fq K "power" Jd)
  (DJ:Fq K "figure_at" Je)
  (DK:Fq K "whole_of" Jf)
  (DL:Fq K "mark_of" Jg)
  (DM:Fq K "ends_of" Jh)
  (DP:Fq K "ask_room" Ji)
  (DR:Fq K "high_whole_of" Jj)
  (DS:Fq K "owned_below" Jk)
  (DT:Fq K "owned_up_to_low" Jl)
  (DU:Fq K "owned_ahead_of_high" Jm)
  (DV:Fq K "counted_at" Jo)
  (DW:Fq K "room_at" Jp)
  (DX:Fq K "nth_mark" Jq)
  (DY:Fq K "least_counted" Jr)
  (DZ:Fq K "least_long" Js)
  (D4:Fq K "told_number" Jt)
  (D5:Fq K "mark_between" Ju)
  (D6:Fq K "spread" Jv)
  (D7:Fq K "renewed_long" Jw)
  (D8:Fq K "renewed" Jx)
  (D9:Fq K "renewal_rows" Jy)
  (Ea:Fq K "stem_between" Jz)
  (Eb:Fq K "rows_ahead" JA)
  (Ec:Fq K "first_new" JB)
  (Ed:Fq K "carried_knowing" JC)
  (Ef:Fq K "state_of" JD)
  (Eg:Fq K "ask_meeting" JE)
  (Eh:Fq K "carried_by_all" JF)
  (Ei:Fq K "carried_marks" JG)
  (Ej:Fq K "all_things" JH)
  (Ek:Fq K "laid" JI)
  (El:Fq K "is_thing" JJ)
  (Em:Fq K "ask_thing" JK)
  (En:Fq K "ask_place" JL)
  (Eo:Fq K "ask_hand" JM)
  (Ma:Mq K az "__init__" "Hand.__init__" NY)
  (Mb:Mq K az "marks" "Hand.marks" NZ)
  (Mc:Mq K az "first_behind" "Hand.first_behind" N2)
  (Me:Mq K az "put" "Hand.put" N3)
  (Mf:Mq K az "take" "Hand.take" N4)
  (Mg:Mq K az "renew" "Hand.renew" N5)
  (Mh:Mq K az "age" "Hand.age" N6)
  (Mi:Mq K az "number" "Hand.number" N7)
  (Mj:Mq K az "state" "Hand.state" N8)
  (Ml:Mq K az "lay" "Hand.lay" N9)
  (yi:Fq K "_law_draw" BZ)
  (yj:Fq K "_law_size" B3)
  (rX:Fq K "_law_thing" xO)
  (rY:Fq K "_law_deeds" xP)
  (ym:Fq K "_law_made" B7)
  (yo:Fq K "_law_copy" B9)
  (jS:Fq K "_law_is_apart" mV)
  (Ep:Fq K "law" JN)
  :∃a:Ad,Tx K mg a:=by
 obtain⟨n8,QV⟩:=DH.fx X G (ps:=["letters", "hands"]) (by exfalso);obtain⟨j4,QX⟩:=DI.fx X G (ps:=["letters", "long"]) (by exfalso);obtain⟨ie,QY⟩:=DJ.fx X G (ps:=["mark", "place"]) (by exfalso);obtain⟨ig,QZ⟩:=DK.fx X G (ps:=["letters", "mark", "long"]) (by exfalso);obtain⟨j5,Q0⟩:=DL.fx X G (ps:=["letters", "number", "long"]) (by exfalso);obtain⟨fK,Q2⟩:=DM.fx X G (ps:=["letters", "hands", "hand"]) (by exfalso);obtain⟨fL,Q3⟩:=DP.fx X G (ps:=["low", "high"]) (by exfalso);obtain⟨j6,Q4⟩:=DR.fx X G (ps:=["letters", "high", "long"]) (by exfalso);obtain⟨ir,Q5⟩:=DS.fx X G (ps:=["letters", "ends", "number"]) (by exfalso);obtain⟨iu,Q6⟩:=DT.fx X G (ps:=["letters", "ends", "low_whole"]) (by exfalso);obtain⟨j7,Q7⟩:=DU.fx X G (ps:=["letters", "ends", "high", "high_whole", "long", "beginnings"]) (by exfalso);obtain⟨j8,Q8⟩:=DV.fx X G (ps:=["letters", "ends", "low", "high", "long", "beginnings"]) (by exfalso);obtain⟨n9,Q9⟩:=DW.fx X G (ps:=["letters", "hands", "hand", "low", "high", "long"]) (by exfalso);obtain⟨j9,Ra⟩:=DX.fx X G (ps:=["letters", "hands", "hand", "low", "high", "long", "number"]) (by exfalso);obtain⟨kc,Rb⟩:=DY.fx X G (ps:=["letters", "ends", "low", "high", "many", "beginnings"]) (by exfalso);obtain⟨oh,Rc⟩:=DZ.fx X G (ps:=["letters", "hands", "hand", "low", "high", "many"]) (by exfalso);obtain⟨oj,Rf⟩:=D4.fx X G (ps:=["low", "high", "many"]) (by exfalso);obtain⟨om,Rg⟩:=D5.fx X G (ps:=["letters", "hands", "hand", "low", "high"]) (by exfalso);obtain⟨oq,Rh⟩:=D6.fx X G (ps:=["many", "whole"]) (by exfalso);obtain⟨ou,Ri⟩:=D7.fx X G (ps:=["letters", "many"]) (by exfalso);obtain⟨oz,Rj⟩:=D8.fx X G (ps:=["letters", "many"]) (by exfalso);obtain⟨oA,Rk⟩:=D9.fx X G (ps:=["letters", "known"]) (by exfalso);obtain⟨oB,Rn⟩:=Ea.fx X G (ps:=["letters", "low", "high"]) (by exfalso);obtain⟨oE,Ro⟩:=Eb.fx X G (ps:=["rows", "mark"]) (by exfalso);obtain⟨kg,Rp⟩:=Ec.fx X G (ps:=["rows"]) (by exfalso);obtain⟨oF,Rq⟩:=Ed.fx X G (ps:=["letters", "rows", "mark", "stems"]) (by exfalso);obtain⟨iw,Rr⟩:=Ef.fx X G (ps:=["letters", "hands", "renewals", "things", "taken"]) (by exfalso);obtain⟨kh,Rt⟩:=Eg.fx X G (ps:=["fewer", "more"]) (by exfalso);obtain⟨oG,Ru⟩:=Eh.fx X G (ps:=["letters", "renewals", "mark", "stems"]) (by exfalso);obtain⟨kj,Rv⟩:=Ei.fx X G (ps:=["state", "renewals"]) (by exfalso);obtain⟨ko,Rw⟩:=Ej.fx X G (ps:=["one", "other"]) (by exfalso);obtain⟨br,Ry⟩:=Ek.fx X G (ps:=["one", "other"]) (by exfalso);obtain⟨oH,Rz⟩:=El.fx X G (ps:=["text"]) (by exfalso);obtain⟨oJ,RC⟩:=Em.fx X G (ps:=["text"]) (by exfalso);obtain⟨kq,RD⟩:=En.fx X G (ps:=["place", "many"]) (by exfalso);obtain⟨oK,RE⟩:=Eo.fx X G (ps:=["number", "hands"]) (by exfalso);obtain⟨uU,OY⟩:=Ma.fx (ps:=["self", "letters", "hands", "number"]) (by exfalso);obtain⟨mq,SW⟩:=Mb.fx (ps:=["self"]) (by exfalso);obtain⟨zU,SY⟩:=Mc.fx (ps:=["self", "low"]) (by exfalso);obtain⟨zV,Tc⟩:=Me.fx (ps:=["self", "place", "thing"]) (by exfalso);obtain⟨zW,Td⟩:=Mf.fx (ps:=["self", "place"]) (by exfalso);obtain⟨uV,Te⟩:=Mg.fx (ps:=["self"]) (by exfalso);obtain⟨zX,Tf⟩:=Mh.fx (ps:=["self"]) (by exfalso);obtain⟨zY,Tg⟩:=Mi.fx (ps:=["self"]) (by exfalso);obtain⟨kF,Th⟩:=Mj.fx (ps:=["self"]) (by exfalso);obtain⟨kG,Ti⟩:=Ml.fx (ps:=["self", "state"]) (by exfalso);obtain⟨bA,OZ⟩:=yi.fx X G (ps:=["_law_script", "_law_k", "_law_many"]) (by exfalso);obtain⟨jI,O0⟩:=yj.fx X G (ps:=["_law_script"]) (by exfalso);obtain⟨gE,Mn⟩:=rX.fx X G (ps:=["_law_script", "_law_k"]) (by exfalso);obtain⟨eZ,Mp⟩:=rY.fx X G (ps:=["_law_script", "_law_k", "_law_hand", "_law_many"]) (by exfalso);obtain⟨jJ,O2⟩:=ym.fx X G (ps:=["_law_script", "_law_size_here"]) (by exfalso);obtain⟨jK,O3⟩:=yo.fx X G (ps:=["_law_state"]) (by exfalso);obtain⟨dz,Cv⟩:=jS.fx X G (ps:=["_law_states", "_law_kept", "_law_size_here"]) (by exfalso);obtain⟨qI,RG⟩:=Ep.fx X G (ps:=["_law_script"]) (by exfalso);exact⟨⟨az,cA,bX,cg,di,cL,n8,j4,ie,ig,j5,fK,fL,j6,ir,iu,j7,j8,n9,j9,kc,oh,oj,om,oq,ou,oz,oA,oB,oE,kg,oF,iw,kh,oG,kj,ko,br,oH,oJ,kq,oK,uU,mq,zU,zV,zW,uV,zX,zY,kF,kG,bA,jI,gE,eZ,jJ,jK,dz,qI⟩,⟨W.mg_none_of X G DC,W.mg_none_of X G yg,W.mg_none_of X G DE,W.mg_none_of X G yh,W.mg_none_of X G DF,W.mg_none_of X G rS,W.mg_none_of X G jQ,W.mg_none_of X G DG,W.mg_none_of X G oR,⟨_,W.mg_of X G rT⟩,⟨_,W.mg_of X G mj⟩,⟨_,W.mg_of X G rV⟩,⟨_,W.mg_of X G jR⟩,⟨_,W.mg_of X G oS⟩,⟨_,W.mg_of X G rW⟩,⟨_,W.mg_of X G gb⟩,⟨_,W.mg_of X G e9⟩,W.mg_of X G rL,⟨rM,rN,rO,rP⟩,⟨rQ,OY.M.at_,OY.M.fn,rR⟩,e8,f7,dD,ee,eE,f9,W.mg_of X G lY,l6,W.mg_of X G gF,gG,W.mg_of X G jM,jO,W.mg_of X G lZ,mh,W.mg_of X G jN,jP,QV,QX,QY,QZ,Q0,Q2,Q3,Q4,Q5,Q6,Q7,Q8,Q9,Ra,Rb,Rc,Rf,Rg,Rh,Ri,Rj,Rk,Rn,Ro,Rp,Rq,Rr,Rt,Ru,Rv,Rw,Ry,Rz,RC,RD,RE,OY,SW,SY,Tc,Td,Te,Tf,Tg,Th,Ti,OZ,O0,Mn,Mp,O2,O3,Cv,RG⟩⟩
theorem walk{l:W.OpenLaw}{q:Program}{loose:Uh Str}{XP:(Str->Option Value)->Heap->Prop}{YP:World->Heap->Prop}{d:DefRec}{K:Params->W.Frag}(hn:l.most=some 63)(hdf:d.params.defaults=[])
  (hY:∀(w:World) (h:Heap),YP w h->(K w.params).In h)
  (F:∀(w:World) (mg:Str->Option Value) (fa:Addr) (h:Heap),(K w.params).In h->h.Ns mainGlobals mg->mg d.name=some (.ref fa)->
   ∃fd:FuncData,(∀(s:Shared) (u:Value),BindsTo s fd ⟨[u],[]⟩ [("_law_script",u)])/\∀base:Heap,(K w.params).In base->base.Ns mainGlobals mg->jg l.prog w (K w.params) mg base gH 13 fa fd ["_law_script"] (Dz (K w.params))):
  W.WalkO q loose XP YP l.row.toRowW d [] (λf vs=>PySem.call f vs):=
 L2.CN (n:=63) (k:=13) (x:="_law_script") (CX:=λ_=>gH) (sp:=λw=>Dz (K w.params)) hn (by decide) hdf ⟨rfl,by decide,by decide⟩ hY F (λ_ _ a ns hl _ hS=>⟨a,ns,rfl,hS,hl,λ_=>rfl⟩) λ_ _ _ _ _ z=>z
end K63
open PySem PySem.W PyProof.Rows
set_option maxRecDepth 100000 in
set_option maxHeartbeats 0 in
theorem PySem.Challenge.cw_shelfmark_k63_any_way_of_laying_holds : PySem.Challenge.rw_shelfmark_k63_any_way_of_laying.Holds := by
  w_on; o_law; k_head; (case hw=>w_witness2)
  k_fill
  refine K63.walk (l:=PySem.Challenge.rw_shelfmark_k63_any_way_of_laying) rfl rfl (fun w h Y=>PySem.W.kIn_of Y) ?F
  case F=>
    intro w mg fa h KX G hmg;have M:∃ a:K63.Ad,K63.Tx (L2.RM KX) mg a:=by
      dsimp only [L2.RM];refine' K63.QU KX G (rL:=?rL) (rM:=?rM) (rN:=?rN) (rO:=?rO) (rP:=?rP) (rQ:=?rQ) (rR:=?rR) (e8:=?e8) (f7:=?f7) (dD:=?dD) (ee:=?ee) (eE:=?eE) (f9:=?f9) (lY:=?lY) (gF:=?gF) (jM:=?jM) (lZ:=?lZ) (jN:=?jN) (l6:=?l6) (gG:=?gG) (jO:=?jO) (mh:=?mh) (jP:=?jP) (DC:=?DC) (yg:=?yg) (DE:=?DE) (yh:=?yh) (DF:=?DF) (rS:=?rS) (jQ:=?jQ) (DG:=?DG) (oR:=?oR) (rT:=?rT) (mj:=?mj) (rV:=?rV) (jR:=?jR) (oS:=?oS) (rW:=?rW) (gb:=?gb) (e9:=?e9) (DH:=?DH) (DI:=?DI) (DJ:=?DJ) (DK:=?DK) (DL:=?DL) (DM:=?DM) (DP:=?DP) (DR:=?DR) (DS:=?DS) (DT:=?DT) (DU:=?DU) (DV:=?DV) (DW:=?DW) (DX:=?DX) (DY:=?DY) (DZ:=?DZ) (D4:=?D4) (D5:=?D5) (D6:=?D6) (D7:=?D7) (D8:=?D8) (D9:=?D9) (Ea:=?Ea) (Eb:=?Eb) (Ec:=?Ec) (Ed:=?Ed) (Ef:=?Ef) (Eg:=?Eg) (Eh:=?Eh) (Ei:=?Ei) (Ej:=?Ej) (Ek:=?Ek) (El:=?El) (Em:=?Em) (En:=?En) (Eo:=?Eo) (Ma:=?Ma) (Mb:=?Mb) (Mc:=?Mc) (Me:=?Me) (Mf:=?Mf) (Mg:=?Mg) (Mh:=?Mh) (Mi:=?Mi) (Mj:=?Mj) (Ml:=?Ml) (yi:=?yi) (yj:=?yj) (rX:=?rX) (rY:=?rY) (ym:=?ym) (yo:=?yo) (jS:=?jS) (Ep:=?Ep)
      (case rL=>k_is)
      (case rM=>k_is)
      (case rN=>k_is)
      (case rO=>k_is)
      (case rP=>k_is)
      (case rQ=>k_is)
      (case rR=>k_is)
      (case e8=>k_is)
      (case f7=>k_is)
      (case dD=>k_is)
      (case ee=>k_is)
      (case eE=>k_is)
      (case f9=>k_is)
      (case lY=>k_is)
      (case gF=>k_is)
      (case jM=>k_is)
      (case lZ=>k_is)
      (case jN=>k_is)
      (case l6=>unfold L2.Xc; k_exc)
      (case gG=>unfold L2.Xc; k_exc)
      (case jO=>unfold L2.Xc; k_exc)
      (case mh=>unfold L2.Xc; k_exc)
      (case jP=>unfold L2.Xc; k_exc)
      (case DC=>k_is)
      (case yg=>k_is)
      (case DE=>k_is)
      (case yh=>k_is)
      (case DF=>k_is)
      (case rS=>k_is)
      (case jQ=>k_is)
      (case DG=>k_is)
      (case oR=>k_is)
      (case rT=>k_is)
      (case mj=>k_is)
      (case rV=>k_is)
      (case jR=>k_is)
      (case oS=>k_is)
      (case rW=>k_is)
      (case gb=>k_is)
      (case e9=>k_is)
      (case DH=>apply L2.bO <;> k_is)
      (case DI=>apply L2.bO <;> k_is)
      (case DJ=>apply L2.bO <;> k_is)
      (case DK=>apply L2.bO <;> k_is)
      (case DL=>apply L2.bO <;> k_is)
      (case DM=>apply L2.bO <;> k_is)
      (case DP=>apply L2.bO <;> k_is)
      (case DR=>apply L2.bO <;> k_is)
      (case DS=>apply L2.bO <;> k_is)
      (case DT=>apply L2.bO <;> k_is)
      (case DU=>apply L2.bO <;> k_is)
      (case DV=>apply L2.bO <;> k_is)
      (case DW=>apply L2.bO <;> k_is)
      (case DX=>apply L2.bO <;> k_is)
      (case DY=>apply L2.bO <;> k_is)
      (case DZ=>apply L2.bO <;> k_is)
      (case D4=>apply L2.bO <;> k_is)
      (case D5=>apply L2.bO <;> k_is)
      (case D6=>apply L2.bO <;> k_is)
      (case D7=>apply L2.bO <;> k_is)
      (case D8=>apply L2.bO <;> k_is)
      (case D9=>apply L2.bO <;> k_is)
      (case Ea=>apply L2.bO <;> k_is)
      (case Eb=>apply L2.bO <;> k_is)
      (case Ec=>apply L2.bO <;> k_is)
      (case Ed=>apply L2.bO <;> k_is)
      (case Ef=>apply L2.bO <;> k_is)
      (case Eg=>apply L2.bO <;> k_is)
      (case Eh=>apply L2.bO <;> k_is)
      (case Ei=>apply L2.bO <;> k_is)
      (case Ej=>apply L2.bO <;> k_is)
      (case Ek=>apply L2.bO <;> k_is)
      (case El=>apply L2.bO <;> k_is)
      (case Em=>apply L2.bO <;> k_is)
      (case En=>apply L2.bO <;> k_is)
      (case Eo=>apply L2.bO <;> k_is)
      (case Ma=>apply L2.mC <;> k_is)
      (case Mb=>apply L2.mC <;> k_is)
      (case Mc=>apply L2.mC <;> k_is)
      (case Me=>apply L2.mC <;> k_is)
      (case Mf=>apply L2.mC <;> k_is)
      (case Mg=>apply L2.mC <;> k_is)
      (case Mh=>apply L2.mC <;> k_is)
      (case Mi=>apply L2.mC <;> k_is)
      (case Mj=>apply L2.mC <;> k_is)
      (case Ml=>apply L2.mC <;> k_is)
      (case yi=>apply L2.bO <;> k_is)
      (case yj=>apply L2.bO <;> k_is)
      (case rX=>apply L2.bO <;> k_is)
      (case rY=>apply L2.bO <;> k_is)
      (case ym=>apply L2.bO <;> k_is)
      (case yo=>apply L2.bO <;> k_is)
      (case jS=>apply L2.bO <;> k_is)
      (case Ep=>apply L2.bO <;> k_is)
    obtain ⟨a,T⟩:=M;have e0:=hmg.symm.trans T.qI.g;cases e0;exact ⟨_,T.qI.F.bt (by exfalso),fun base _ _=>K63.OX T⟩
