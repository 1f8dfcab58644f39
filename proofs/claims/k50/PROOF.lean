import PyProof.Rows.All
import Wide.All
import OpenK.AllK
import Wide.FinOn
import Lean
import PyProof.EqAt
import PyProof.EqKinds
import PyProof.TupleCall
import Wide.Seal
import PyProof.EnumMake
import PyProof.EnumStmt
import PyProof.EnumFor
import PyProof.StrWalks
import PyProof.StrCalls
import PyProof.DictCompW
import PyProof.ListRange
import PyProof.CompUse
import KE.KDictList
import PyProof.ExcArgsOwn
import KE.KIsAll
import KE.KTryDeepN
import OpenK.KOwn
import KE.KTryMore
import PyProof.NsDelKeeps
import PyProof.SliceStr2
import KE.RegKIsAll
import KE.RegKTryMore
import PyProof.Rows.SumAny
import PyProof.AssignAttr
import PyProof.IsRules
import PyProof.Rows.SortWalk
import KE.KRevIter
import PyProof.FactsAll.range_2
import KE.KSortTup
import PySem.Challenge.RW_chalkcave_k50_whole_only_what_stands_cou
set_option Elab.async false
set_option linter.all false
set_option maxRecDepth 100000
section
open PySem PySem.Spec PyProof.Rows
def Y1:=@List.length_map
def Y2:=@List.mem_singleton
def Y3:=@Nat.le_refl
def Y4:=@List.mem_cons_of_mem
def Y5:=@List.mem_cons
def Y6:=@List.mem_of_getElem?
def Y7:=@List.mem_append
def Y8:=@Heap.get?_push_of_some
def Y9:=@List.mem_cons_self
def Za:=@Int.toNat_natCast
def Zb:=@List.mem_append_right
def Zc:=@List.mem_append_left
def Zd:=@List.getElem?_eq_getElem
def Ze:=@List.map_append
def Zf:=@List.getElem?_map
def Zg:=@Option.some.inj
def Zh:=@List.mem_map
def Zi:=@Heap.lt_size
def Zj:=@List.take_succ_eq_append_getElem
def Zk:=@Bool.false_ne_true
def Zl:=@List.size_toArray
def Zm:=@PassesOwn.never
def Zn:=@Nat.ne_of_lt
def Zo:=@List.length_append
def Zp:=@Nat.zero_le
def Zq:=@Heap.get?_push_size
def Zr:=@List.map_cons
def Zs:=@List.getElem?_append_left
def Zt:=@List.getElem?_append_right
def Zu:=@False.elim
def Zv:=@Nat.lt_of_lt_of_le
def Zw:=@Int.toNat_of_nonneg
def Zx:=@List.length_take
def Zy:=@Int.emod_lt_of_pos
def Zz:=@Int.emod_nonneg
def ZA:=@List.getElem_mem
def ZC:=@List.all_eq_true
def ZD:=@List.getElem_of_mem
def ZE:=@List.take_of_length_le
def ZF:=@List.length_cons
def ZG:=@List.nodup_cons
def ZH:=@beq_eq_false_iff_ne
def ZI:=@List.getElem?_eq_none
def ZJ:=@List.length_drop
def ZK:=@List.map_map
def ZL:=@List.getElem?_eq_some_iff
def ZM:=@PySem.mem_of_lookup
def ZN:=@decide_eq_true
def ZO:=@decide_eq_false
def ZP:=@Nat.lt_of_le_of_lt
def ZQ:=@Nat.le_trans
def ZR:=@List.length_replicate
def ZS:=@List.getElem?_replicate
def ZT:=@List.mem_filter
def ZU:=@List.mem_range
def ZV:=@wpAny_pure
def ZW:=@Nat.lt_succ_of_lt
def ZX:=@List.append_nil
def ZY:=@List.append_assoc
def ZZ:=@List.idxOf_lt_length_of_mem
def Z0:=@List.map_congr_left
def Z1:=@Nat.le_of_lt
def Z2:=@Nat.lt_irrefl
def Z3:=@List.length_range
end
namespace L2
open PySem PySem.Spec PyProof.Rows
abbrev Key:=Sum Int (Option Str)
def lV:Key->Value->Bool
 |.inl k,v=>Value.isInt k v
 |.inr (some x),v=>Value.isStrOf x v
 |.inr none,.none=>true
 |.inr none,_=>false
def abn(w:World):Key->Int
 |.inl k=>hashInt k
 |.inr (some x)=>hashStr w x
 |.inr none=>reduceHash 0xFCA86420
def ik:∀{k:Key}{v:Value},lV k v=true->(∃i t,k=Sum.inl i/\v=Value.int i t)\/(∃x t,k=Sum.inr (some x)/\v=Value.str x t)\/(k=Sum.inr none/\v=Value.none)
 |.inl i,v,h=>by
  obtain⟨t,e⟩:=Value.isInt_shape (k:=i) (v:=v) h;exact .inl ⟨i,t,rfl,e⟩
 |.inr none,v,h=>by
  cases v<;>first|exact .inr (.inr ⟨rfl,rfl⟩)|exact absurd h (by simp[lV])
 |.inr (some x),v,h=>by
  obtain⟨t,e⟩:=Value.isStrOf_shape (x:=x) (v:=v) h;exact .inr (.inl ⟨x,t,rfl,e⟩)
def RF(i:Int)(t:Tok):lV (.inl i) (.int i t)=true:=by simp[lV,Value.isInt]
def RG(x:Str)(t:Tok):lV (.inr (some x)) (.str x t)=true:=by simp[lV,Value.isStrOf]
def XO(a b:Int):decide ((Sum.inl a:Key)=Sum.inl b)=(a==b):=by
 by_cases e:a=b
 ·subst e;simp
 ·have h:¬(Sum.inl a:Key)=Sum.inl b:=λq=>e (Sum.inl.inj q);rw[ZO h];exact(ZH.mpr e).symm
def XQ(a b:Str):decide ((Sum.inr (some a):Key)=Sum.inr (some b))=decide (a=b):=by
 by_cases e:a=b
 ·subst e;simp
 ·have h:¬(Sum.inr (some a):Key)=Sum.inr (some b):=λq=>e (Zg (Sum.inr.inj q));rw[ZO h,ZO e]
def Jv(a:Int)(b:Option Str):decide ((Sum.inl a:Key)=Sum.inr b)=false:=ZO (λq=>nomatch q)
def Jw(a:Option Str)(b:Int):decide ((Sum.inr a:Key)=Sum.inl b)=false:=ZO (λq=>nomatch q)
def XR(a:Str):decide ((Sum.inr (some a):Key)=Sum.inr none)=false:=ZO (λq=>nomatch q)
def XS(a:Str):decide ((Sum.inr none:Key)=Sum.inr (some a))=false:=ZO (λq=>nomatch q)
def T5{prog:Program}{w:World}{A:Around}{E:Value->Shared->Prop}{s:Shared}{Q:Int->Shared->Prop}(h:Q (reduceHash 0xFCA86420) {s with toks:=s.toks+1}):wpAny (model prog w) A (PySem.pyHash .none) Q E s:=
 PySem.W.pyHash_slot (T:="NoneType") rfl F.slot_NoneType_hash F.entry_NoneType_hash (F.args_NoneType_hash_1 _) (beq_builtin_none _) (.inl rfl) (wpAny_bind (ZV (wpAny_bind (wpAny_mkInt (ZV ⟨_,_,rfl,h⟩)))))
def XT{prog:Program}{w:World}{A:Around}{E:Value->Shared->Prop}{s:Shared}{Q:Bool->Shared->Prop}(h:Q true s):wpAny (model prog w) A (PySem.eqBool .none .none) Q E s:=by
 unfold PySem.eqBool;refine wpAny_holding ?_;exact wpAny_ite_split (λ_=>wpAny_bind (wpAny_rule (ZV h))) (λz=>absurd rfl z)
def cU(prog:Program)(w:World):PySem.KeyKind prog w Key where
 is:=lV
 hash:=abn w
 inj:=λv a b ha hb=>by
  rcases ik ha with⟨i,t,rfl,rfl⟩|⟨x,t,rfl,rfl⟩|⟨rfl,rfl⟩
  ·rcases ik hb with⟨j,u,rfl,e⟩|⟨y,u,rfl,e⟩|⟨rfl,e⟩
   ·injection e with e1 _;rw[e1]
   ·exact nomatch e
   ·exact nomatch e
  ·rcases ik hb with⟨j,u,rfl,e⟩|⟨y,u,rfl,e⟩|⟨rfl,e⟩
   ·exact nomatch e
   ·injection e with e1 _;rw[e1]
   ·exact nomatch e
  ·rcases ik hb with⟨j,u,rfl,e⟩|⟨y,u,rfl,e⟩|⟨rfl,e⟩
   ·exact nomatch e
   ·exact nomatch e
   ·rfl
 byValue:=λk v h=>by
  rcases ik h with⟨i,t,rfl,rfl⟩|⟨x,t,rfl,rfl⟩|⟨rfl,rfl⟩<;>rfl
 pyHash:=λhv h=>by
  rcases ik hv with⟨i,t,rfl,rfl⟩|⟨x,t,rfl,rfl⟩|⟨rfl,rfl⟩
  ·exact wpAny_pyHash_int h
  ·exact wpAny_pyHash_str h
  ·exact T5 h
 eqBool:=λhu hv h=>by
  rcases ik hu with⟨i,t,rfl,rfl⟩|⟨x,t,rfl,rfl⟩|⟨rfl,rfl⟩
  ·rcases ik hv with⟨j,u,rfl,rfl⟩|⟨y,u,rfl,rfl⟩|⟨rfl,rfl⟩
   ·rw[XO]at h;exact wpAny_eqBool_int h
   ·rw[Jv]at h;exact SeqAt.EqAt.int_str i t y u _ _ _ _ h
   ·rw[Jv]at h;exact SeqAt.EqAt.int_none i t _ _ _ _ h
  ·rcases ik hv with⟨j,u,rfl,rfl⟩|⟨y,u,rfl,rfl⟩|⟨rfl,rfl⟩
   ·rw[Jw]at h;exact SeqAt.EqAt.str_int x t j u _ _ _ _ h
   ·rw[XQ]at h;exact wpAny_eqBool_str h
   ·rw[XR]at h;exact SeqAt.EqAt.str_none x t _ _ _ _ h
  ·rcases ik hv with⟨j,u,rfl,rfl⟩|⟨y,u,rfl,rfl⟩|⟨rfl,rfl⟩
   ·rw[Jw]at h;exact SeqAt.EqAt.none_int j u _ _ _ _ h
   ·rw[XS]at h;exact SeqAt.EqAt.none_str y u _ _ _ _ h
   ·rw[ZN rfl]at h;exact XT h
 «strs»:=λk x t v h=>by
  rcases ik h with⟨i,u,rfl,e⟩|⟨y,u,rfl,e⟩|⟨rfl,e⟩
  ·exact nomatch e
  ·injection e with e1 _
   subst e1;cases v<;>rfl
  ·exact nomatch e
def Qb(prog:Program)(w:World)(i:Int)(t:Tok):(cU prog w).is (.inl i) (.int i t)=true:=RF i t
def Qc(prog:Program)(w:World)(x:Str)(t:Tok):(cU prog w).is (.inr (some x)) (.str x t)=true:=RG x t
inductive V where
 |aE|bl(b:Bool)|int(i:Int)|str(x:Str)|gI(b:Array UInt8)|u0(b:UInt64)|ref(a:Addr)|ty(n:String)
 deriving DecidableEq
def RelV:V->Value->Prop
 |.aE,u=>u=Value.none
 |.bl b,u=>u=Value.bool b
 |.int i,u=>∃t,u=Value.int i t
 |.str x,u=>∃t,u=Value.str x t
 |.gI b,u=>∃t,u=Value.bytes b t
 |.u0 b,u=>∃t,u=Value.float b t
 |.ref a,u=>u=Value.ref a
 |.ty n,u=>u=Value.type n
abbrev Vals:List V->List Value->Prop:=Paired RelV
def Vals.length{xs:List V}{us:List Value}(r:Vals xs us):xs.length=us.length:=Paired.length r
def Vals.get:∀{xs:List V}{us:List Value}{i:Nat}{x:V},Vals xs us->xs[i]?=some x->∃u,us[i]?=some u/\RelV x u
 |_,_,_,_,.nil,e=>by simp at e
 |_,_,0,_,.cons r _,e=>by simp at e;subst e;exact⟨_,rfl,r⟩
 |_,_,i+1,x,.cons _ t,e=>by
  obtain⟨u,h1,h2⟩:=Vals.get (i:=i) (x:=x) t (by simpa using e);exact⟨u,by simpa using h1,h2⟩
def Vals.set{x:V}{u:Value}(r:RelV x u):∀{xs:List V}{us:List Value} (i:Nat),Vals xs us->Vals (xs.set i x) (us.set i u)
 |_,_,_,.nil=>.nil
 |_,_,0,.cons _ t=>.cons r t
 |_,_,i+1,.cons q t=>.cons q (Vals.set r i t)
def Vals.append:∀{xs ys:List V}{us ws:List Value},Vals xs us->Vals ys ws->Vals (xs++ys) (us++ws)
 |_,_,_,_,.nil,s=>s
 |_,_,_,_,.cons r t,s=>.cons r (Vals.append t s)
def Vals.take:∀{xs:List V}{us:List Value} (n:Nat),Vals xs us->Vals (xs.take n) (us.take n)
 |_,_,0,_=>.nil
 |_,_,_+1,.nil=>.nil
 |_,_,n+1,.cons r t=>.cons r (Vals.take n t)
def Vals.drop:∀{xs:List V}{us:List Value} (n:Nat),Vals xs us->Vals (xs.drop n) (us.drop n)
 |_,_,0,r=>r
 |_,_,_+1,.nil=>.nil
 |_,_,n+1,.cons _ t=>Vals.drop n t
def dY:Option V->Option Value->Prop
 |some v,some u=>RelV v u
 |none,none=>True
 |_,_=>False
def KV{κ:Type}:List (κ×V)->List (κ×Value)->Prop:=Paired λ(p:κ×V) (q:κ×Value)=>p.1=q.1/\RelV p.2 q.2
def kV:Key->V
 |.inl i=>.int i
 |.inr (some x)=>.str x
 |.inr none=>.aE
inductive HO where
 |lst(xs:List V)
 |tup(xs:List V)
 |dK(kvs:List (Key×V))|dT(kvs:List (List Key×V))
 |set(S:Int->Bool)(n:Nat)
 |ins(C dx:Addr)(fs:List (Str×V))
 |own(x:Addr)
 |xd(fs:List (Str×V))
 |met(f x:Addr)
 |bP(lo hi:Int)
 |df(o:Obj)(u:HO)
 |mw(ps:Array Value)
 |ext(φ:Heap->Prop)
abbrev Hp:=Addr->Option HO
def upd(H:Hp)(a:Addr)(o:HO):Hp:=λb=>if b=a then some o else H b
def ak{H:Hp}{a:Addr}{o:HO}:upd H a o a=some o:=by unfold upd;rw[if_pos rfl]
def aj{H:Hp}{a b:Addr}{o:HO}(h:b≠a):upd H a o b=H b:=by unfold upd;rw[if_neg h]
def kh{H:Hp}{a:Addr}{o u:HO}:upd (upd H a o) a u=upd H a u:=by
 funext b;unfold upd;split<;>rfl
def Ku{H:Hp}{a b:Addr}{o u:HO}(h:H a=some o)(h':H b=some u)(d:o≠u):a≠b:=by
 intro e;subst e;rw[h]at h';exact d (Zg h')
def a9{H:Hp}{a b:Addr}{o:HO}(h:H a=some o)(h':H b=none):a≠b:=by
 intro e;subst e;rw[h]at h';cases h'
section
variable (P:Program) (w:World)
def bY(H:Hp)(h:Heap)(a:Addr):HO->Prop
 |.lst xs=>xs.length<=sizeLine/\∃(ai:List Value) (n:Nat),Vals xs ai/\h.get? a=some {cls:=.type "list",data:=.seq ai.toArray n}
 |.tup xs=>xs.length<=sizeLine/\∃ai:List Value,Vals xs ai/\IsTup h a ai.toArray
 |.dK kvs=>kvs.length<=sizeLine/\(a==sysModules)=false/\∃vs,KV kvs vs/\h.DictOf (cU P w) a vs
 |.dT kvs=>kvs.length<=sizeLine/\(a==sysModules)=false/\∃xs:List (List Key×Addr×Value),
  Paired (λ(p:List Key×V) (q:List Key×Addr×Value)=>p.1=q.1/\H q.2.1=some (.tup (p.1.map kV))/\RelV p.2 q.2.2) kvs xs/\
  ∃o es ep,h.get? a=some o/\o.ExactDict/\o.data=.dict es ep/\es.toList=xs.map (entryOfKey (tupleKind (cU P w)))/\(xs.map (·.1)).Nodup
 |.set S n=>h.SetOf (intKind P w) a S n
 |.ins C dx fs=>H dx=some (.own a)/\fs.length<=1000/\dx≠a/\h.get? a=some (PySem.W.instObj C dx)/\
  ∃mA,h.Ns1 dx mA/\(∀f,dY (fs.lookup f) (mA f))/\PySem.Within mA (fs.map (·.1))
 |.own _=>∃o,h.get? a=some o
 |.xd fs=>∃mA,h.Ns1 a mA/\∀f,dY (fs.lookup f) (mA f)
 |.bP lo hi=>∃t u v,h.get? a=some {cls:=.type "range",data:=.fields #[.int lo t,.int hi u,.int 1 v]}
 |.df o u=>h.get? a=some o/\bY H h a u
 |.mw ps=>h.get? a=some {cls:=.none,data:=.fields ps}
 |.met f x=>h.get? a=some (PySem.W.methodObj (.ref f) (.ref x))
 |.ext φ=>φ h/\(∃o,h.get? a=some o)/\∀h1 h2:Heap,φ h1->(∀o,h1.get? a=some o->h2.get? a=some o)->φ h2
def bw(H:Hp)(h:Heap):Prop:=∀a o,H a=some o->bY P w H h a o
end
section
variable {P:Program}{w:World}{H H':Hp}{h h':Heap}{a:Addr}{o:HO}
def bY.lt(x:bY P w H h a o):a<h.objs.size:=by
 cases o with
 |lst xs=>obtain⟨_,_,_,_,e⟩:=x;exact Zi e
 |tup xs=>obtain⟨_,_,_,p⟩:=x;exact p.lt
 |dK kvs=>obtain⟨_,_,_,_,o,_,_,e,_⟩:=x;exact Zi e
 |dT kvs=>obtain⟨_,_,_,_,o,_,_,e,_⟩:=x;exact Zi e
 |set S n=>obtain⟨o,_,_,_,e,_⟩:=x;exact Zi e
 |ins C dx fs=>obtain⟨_,_,_,e,_⟩:=x;exact Zi e
 |own y=>obtain⟨_,e⟩:=x;exact Zi e
 |xd fs=>obtain⟨_,⟨_,_,_,e,_⟩,_⟩:=x;exact Zi e
 |bP lo hi=>obtain⟨_,_,_,e⟩:=x;exact Zi e
 |df ob u=>obtain⟨e,_⟩:=x;exact Zi e
 |mw ps=>exact Zi (show h.get? a=some _ from x)
 |met f y=>exact Zi (show h.get? a=some _ from x)
 |ext φ=>obtain⟨_,⟨_,e⟩,_⟩:=x;exact Zi e
def Paired.As{α β:Type}{F G:α->β->Prop}:∀{l₁:List α}{l₂:List β},Paired F l₁ l₂->(∀a b,F a b->G a b)->Paired G l₁ l₂
 |_,_,.nil,_=>.nil
 |_,_,.cons r t,f=>.cons (f _ _ r) (Paired.As t f)
def bY.iJ(x:bY P w H h a o)(k:∀b u,(b=a\/H b=some (.own a))->h.get? b=some u->h'.get? b=some u)
  (ho:∀b,H b=some (.own a)->H' b=some (.own a))(ht:∀b xs,H b=some (.tup xs)->H' b=some (.tup xs)):bY P w H' h' a o:=by
 induction o with
 |lst xs=>obtain⟨z,ai,n,r,e⟩:=x;exact⟨z,ai,n,r,k _ _ (.inl rfl) e⟩
 |tup xs=>obtain⟨z,ai,r,ob,e,c⟩:=x;exact⟨z,ai,r,ob,k _ _ (.inl rfl) e,c⟩
 |dK kvs=>obtain⟨z,y,vs,r,ob,es,ep,e,c⟩:=x;exact⟨z,y,vs,r,ob,es,ep,k _ _ (.inl rfl) e,c⟩
 |dT kvs=>
  obtain⟨z,y,xs,r,ob,es,ep,e,c⟩:=x;exact⟨z,y,xs,Paired.As r λp q z=>⟨z.1,ht _ _ z.2.1,z.2.2⟩,ob,es,ep,k _ _ (.inl rfl) e,c⟩
 |set S n=>obtain⟨ob,es,ep,t,e,c⟩:=x;exact⟨ob,es,ep,t,k _ _ (.inl rfl) e,c⟩
 |ins C dx fs=>
  obtain⟨d,z,ne,e,mA,⟨od,es,ep,e2,c⟩,r⟩:=x;exact⟨ho _ d,z,ne,k _ _ (.inl rfl) e,mA,⟨od,es,ep,k _ _ (.inr d) e2,c⟩,r⟩
 |own y=>obtain⟨ob,e⟩:=x;exact⟨ob,k _ _ (.inl rfl) e⟩
 |xd fs=>obtain⟨mA,⟨od,es,ep,e,c⟩,r⟩:=x;exact⟨mA,⟨od,es,ep,k _ _ (.inl rfl) e,c⟩,r⟩
 |bP lo hi=>obtain⟨t,u,v,e⟩:=x;exact⟨t,u,v,k _ _ (.inl rfl) e⟩
 |df ob u ih=>obtain⟨e,q⟩:=x;exact⟨k _ _ (.inl rfl) e,ih q⟩
 |mw ps=>
  have e:h.get? a=some {cls:=.none,data:=.fields ps}:=x;show h'.get? a=some {cls:=.none,data:=.fields ps};exact k a _ (.inl rfl) e
 |met f y=>
  have e:h.get? a=some (PySem.W.methodObj (.ref f) (.ref y)):=x;show h'.get? a=some (PySem.W.methodObj (.ref f) (.ref y));exact k a _ (.inl rfl) e
 |ext φ=>obtain⟨p,⟨o,e⟩,st⟩:=x;exact⟨st _ _ p λo q=>k _ _ (.inl rfl) q,⟨o,k _ _ (.inl rfl) e⟩,st⟩
def bw.lt(x:bw P w H h)(e:H a=some o):a<h.objs.size:=(x a o e).lt
def bw.fresh(x:bw P w H h)(e:h.objs.size<=a):H a=none:=by
 cases q:H a with
 |none=>rfl
 |some u=>exact absurd (Zv (x.lt q) e) (Z2 _)
def bw.kept(x:bw P w H h)(k:∀b u,h.get? b=some u->h'.get? b=some u):bw P w H h':=λa o e=>
 (x a o e).iJ (λb u _ q=>k b u q) (λ_ q=>q) λ_ _ q=>q
def bw.laid(x:bw P w H h)(k:∀b u,h.get? b=some u->h'.get? b=some u)(hp:h.objs.size<=a)(new:bY P w (upd H a o) h' a o):bw P w (upd H a o) h':=λb u e=>by
 have hn:=x.fresh hp;by_cases hb:b=a
 ·subst hb;rw[ak]at e;cases e;exact new
 ·rw[aj hb]at e;exact(x b u e).iJ (λc v _ q=>k c v q) (λc q=>by rw[aj (a9 q hn)];exact q) λc xs q=>by rw[aj (a9 q hn)];exact q
end
def Rd(H:Hp)(a:Addr)(u:HO):Prop:=H a=some u\/∃o,H a=some (.df o u)
def Rd.ok{P:Program}{w:World}{H:Hp}{h:Heap}{a:Addr}{u:HO}(r:Rd H a u)(x:bw P w H h):bY P w H h a u:=by
 rcases r with r|⟨o,r⟩
 ·exact x a u r
 ·obtain⟨_,q⟩:=x a _ r;exact q
def rW:Option HO->Prop
 |some (.lst _)=>True
 |some (.dK _)=>True
 |some (.dT _)=>True
 |some (.set _ _)=>True
 |some (.ins _ _ _)=>True
 |some (.ext _)=>True
 |_=>False
section
variable {P:Program}{w:World}{H:Hp}{h h':Heap}{x e:Addr}{o':HO}
def bw.write(ok:bw P w H h)(mu:rW (H x))(he:e=x\/H e=some (.own x))(k:∀b u,b≠e->h.get? b=some u->h'.get? b=some u)(my:∃u,h'.get? e=some u)
  (new:bY P w (upd H x o') h' x o'):bw P w (upd H x o') h':=λb u q=>by
 have Lk:∀c y,H c=some (.own y)->c≠x:=λc y r z=>by subst z;rw[r]at mu;exact mu
 have abo:∀c xs,H c=some (.tup xs)->c≠x:=λc xs r z=>by subst z;rw[r]at mu;exact mu
 by_cases hb:b=x
 ·subst hb;rw[ak]at q;cases q;exact new
 ·rw[aj hb]at q;by_cases nU:b=e
  ·have q':H b=some (.own x):=by
    rcases he with z|z
    ·exact absurd (nU.trans z) hb
    ·rw[nU];exact z
   rw[q]at q';cases q';obtain⟨v,hv⟩:=my;exact⟨v,by rw[nU];exact hv⟩
  ·refine(ok b u q).iJ (λc v hc r=>k c v ?_ r) (λc r=>by rw[aj (Lk c b r)];exact r) λc xs r=>by rw[aj (abo c xs r)];exact r
   rcases hc with rfl|hc
   ·exact nU
   ·rintro rfl;rcases he with z|z
    ·exact Lk c b hc z
    ·rw[hc]at z;cases z;exact hb rfl
end
structure Un(fs ex:List Addr)(H H':Hp)(h h':Heap):Prop where
 keep:∀b o,h.get? b=some o->H b=none->b∉fs->b∉ex->h'.get? b=some o
 slot:∀b o,h.get? b=some o->H b=none->b∈fs->b∉ex->∃sl,h'.get? b=some {o with slots:=sl}
 free:∀b o,h.get? b=some o->H b=none->b∉ex->H' b=none
 there:∀b o,h.get? b=some o->b∉ex->∃o',h'.get? b=some o'
 gc:∀b xs,H b=some (.tup xs)->H' b=some (.tup xs)
 fF:∀b o u,H b=some (.df o u)->H' b=some (.df o u)
 gd:∀b ps,H b=some (.mw ps)->∃more,H' b=some (.mw (ps++more))
section
variable {fs pN ex ex':List Addr}{H H1 H2:Hp}{h h1 h2 h':Heap}{a x e:Addr}{o:HO}
def Un.any(u:Un fs ex H H1 h h1){b:Addr}{ob:Obj}(q:h.get? b=some ob)(n:H b=none)(hx:b∉ex):∃sl,h1.get? b=some {ob with slots:=sl}:=by
 by_cases hb:b∈fs
 ·exact u.slot b ob q n hb hx
 ·exact⟨ob.slots,u.keep b ob q n hb hx⟩
def Un.kept(k:∀b u,h.get? b=some u->h'.get? b=some u):Un fs ex H H h h':=
 ⟨λb ob q _ _ _=>k b ob q,λb ob q _ _ _=>⟨ob.slots,k b ob q⟩,λ_ _ _ n _=>n,λb ob q _=>⟨ob,k b ob q⟩,λ_ _ q=>q,λ_ _ _ q=>q,λ_ ps q=>⟨#[],by rw[q];simp⟩⟩
def Un.refl:Un fs ex H H h h:=Un.kept λ_ _ q=>q
def Un.laid(k:∀b u,h.get? b=some u->h'.get? b=some u)(hp:h.objs.size<=a)(hn:H a=none):Un fs ex H (upd H a o) h h' where
 keep:=λb u q _ _ _=>k b u q
 slot:=λb u q _ _ _=>⟨u.slots,k b u q⟩
 free:=λb u q n _=>by rw[aj (Zn (Zv (Zi q) hp))];exact n
 there:=λb u q _=>⟨u,k b u q⟩
 gc:=λb xs q=>by rw[aj (a9 q hn)];exact q
 fF:=λb u xs q=>by rw[aj (a9 q hn)];exact q
 gd:=λb ps q=>⟨#[],by rw[aj (a9 q hn),q];simp⟩
def Un.write(mu:rW (H x))(he:e=x\/H e=some (.own x))(k:∀b u,b≠e->h.get? b=some u->h'.get? b=some u)(my:∃u,h'.get? e=some u):Un fs ex H (upd H x o) h h':=by
 have hx:∀b,H b=none->b≠x:=λb n z=>by subst z;rw[n]at mu;exact mu
 have hb:∀b,H b=none->b≠e:=λb n z=>by
  subst z;rcases he with r|r
  ·exact hx b n r
  ·rw[n]at r;cases r
 have hm:∀b u,H b=some u->¬rW (some u)->b≠x:=λb u q nm z=>by subst z;rw[q]at mu;exact nm mu
 refine⟨λb u q n _ _=>k b u (hb b n) q,λb u q n _ _=>⟨u.slots,k b u (hb b n) q⟩,λb u q n _=>by rw[aj (hx b n)];exact n,λb u q _=>?_,
  λb xs q=>by rw[aj (hm b _ q λz=>z)];exact q,λb u xs q=>by rw[aj (hm b _ q λz=>z)];exact q,λb ps q=>⟨#[],by rw[aj (hm b _ q λz=>z),q];simp⟩⟩
 by_cases nU:b=e
 ·subst nU;exact my
 ·exact⟨u,k b u nU q⟩
end
def gJ(h:Heap)(H:Hp):List Addr:=(List.range h.objs.size).filter λa=>(H a).isSome
def kD(h:Heap)(H:Hp):Heap:=PySem.W.hideAll h (gJ h H)
def RH(h:Heap)(H:Hp):(kD h H).objs.size=h.objs.size:=PySem.W.hideAll_size _ _
def T6{h:Heap}{H:Hp}{b:Addr}{o:Obj}(e:h.get? b=some o)(n:H b=none):(kD h H).get? b=some o:=
 PySem.W.hideAll_get _ e λhm=>by
  have q:(H b).isSome=true:=(ZT.mp hm).2;rw[n]at q;simp at q
def V8{h:Heap}{H:Hp}{b:Addr}{o:Obj}(e:(kD h H).get? b=some o):h.get? b=some o/\H b=none:=by
 have e':h.get? b=some o:=PySem.W.of_hideAll (gJ h H) e;refine⟨e',?_⟩;cases q:H b with
 |none=>rfl
 |some x=>
  have hm:b∈gJ h H:=ZT.mpr ⟨ZU.mpr (Zi e'),by simp[q]⟩;have z:(kD h H).get? b=none:=PySem.W.hideAll_none (gJ h H) hm;rw[z]at e;cases e
structure Mod(K:PySem.W.Frag)(mg:Str->Option Value)(base:Heap):Prop where
 nV:K.In base
 glob:base.Ns mainGlobals mg
 blt:∃mb,base.Ns builtinsNs mb/\∀x:Str,x≠"__name__"->mb x=bootBuiltins x
 nolimit:base.NoLimit
structure Cx where
 prog:Program
 w:World
 K:PySem.W.Frag
 mg:Str->Option Value
 base:Heap
 A:Around
 N:List Str
 s₀:Shared
 H₀:Hp
 env:Env
 outer:List Env
 stack:List Env
 ex:List Addr
 fn:Str->Bool
 calm:Bool
 pn:List (Addr×Obj)
 xe:Value->Shared->Prop
def bT(l:List Env):List Addr:=l.filterMap (·.frame)
abbrev Cx.fs(X:Cx):List Addr:=bT X.outer
def u9(sc:Scope)(x:Str):Prop:=sc.names.lookup x=some .local\/sc.names.lookup x=some .cell\/sc.names.lookup x=some .free
def Loc(sc:Scope)(x:Str):Prop:=sc.names.lookup x=some .local\/sc.names.lookup x=some .cell
def Look(env:Env)(h:Heap)(m:Str->Option Value)(x:Str)(u:Value):Prop:=
 (env.kindOf x=some .local/\m x=some u)\/((env.kindOf x=some .cell\/env.kindOf x=some .free)/\∃c,env.cells.lookup x=some c/\h.IsCell c (some u))
structure Cx.Ok(X:Cx):Prop where
 mod:Mod X.K X.mg X.base
 kind:X.env.scope.kind=.function
 glob:X.env.globals=mainGlobals
 blt:X.env.builtins=builtinsNs
 above:X.s₀.heap.objs.size<=X.env.locals
 inj:∀x y c,X.env.cells.lookup x=some c->X.env.cells.lookup y=some c->x=y
 has:∀x,(X.env.kindOf x=some .cell\/X.env.kindOf x=some .free)->∃c,X.env.cells.lookup x=some c
 cab:∀x c,X.fn x=true->X.env.cells.lookup x=some c->X.s₀.heap.objs.size<=c
 hd:X.calm=true->X.A.handled=none
 frames:X.A.frames=some X.stack
 rX:X.stack=X.outer\/(X.stack=X.env::X.outer/\X.env.frame=some X.env.locals)
 A2:∀b∈X.ex,b≠X.env.locals/\∀x c,X.env.cells.lookup x=some c->c≠b
 bs:∀b o,X.base.get? b=some o->X.s₀.heap.get? b=some o/\X.H₀ b=none
 iP:X.base.objs.size<=X.s₀.heap.objs.size
 kE:∀b o,X.base.get? b=some o->b∉X.ex
 rN:∀b∈X.ex,b∉X.fs
 gj:X.s₀.heap.FunFrames X.base X.outer
 mz:∀b∈X.fs,X.H₀ b=none
structure Inv(X:Cx)(pins:List (Addr×Obj))(σ:List (Option V))(H:Hp)(s:Shared):Prop where
 ok:X.Ok
 os:s.os=X.s₀.os
 bare:AllBare s.gens
 base:Un X.fs X.ex X.H₀ H X.s₀.heap s.heap
 loc:∃m,s.heap.Ns X.env.locals m/\∀(i:Nat) (x:Str) (v:V),X.N[i]?=some x->σ[i]?=some (some v)->u9 X.env.scope x->∃u,RelV v u/\Look X.env s.heap m x u
 cell:∀x c,X.env.cells.lookup x=some c->∃v,s.heap.IsCell c v
 free:H X.env.locals=none
 dW:∀x c,X.env.cells.lookup x=some c->H c=none
 pin:∀p∈X.pn++pins,s.heap.get? p.1=some p.2/\H p.1=none/\p.1≠X.env.locals/\p.1∉X.fs/\∀v,p.2.data≠.cell v
 ao:bw X.prog X.w H s.heap
 len:σ.length=X.N.length
section
variable {X:Cx}{pins:List (Addr×Obj)}{σ:List (Option V)}{H H':Hp}{s:Shared}{h':Heap}
def Cx.Ok.abp(ok:X.Ok){b:Addr}{o:Obj}(e:X.base.get? b=some o):b∉X.fs:=λhb=>by
 have:=(ok.gj.mem hb).1;rw[e]at this;cases this
def Inv.bs(I:Inv X pins σ H s):∀b o,X.base.get? b=some o->s.heap.get? b=some o/\H b=none:=λb o e=>
 ⟨I.base.keep b o (I.ok.bs b o e).1 (I.ok.bs b o e).2 (I.ok.abp e) (I.ok.kE b o e),I.base.free b o (I.ok.bs b o e).1 (I.ok.bs b o e).2 (I.ok.kE b o e)⟩
def Inv.bk(I:Inv X pins σ H s):∀b o,X.base.get? b=some o->s.heap.get? b=some o:=λb o e=>(I.bs b o e).1
def Inv.mod(I:Inv X pins σ H s):Mod X.K X.mg X.base:=I.ok.mod
def Inv.eX(I:Inv X pins σ H s):X.K.In s.heap:=I.ok.mod.nV.keeps I.bk
def Inv.lt(I:Inv X pins σ H s):X.env.locals<s.heap.objs.size:=let⟨_,hn,_⟩:=I.loc;hn.lt
def Inv.sz(I:Inv X pins σ H s):X.s₀.heap.objs.size<=s.heap.objs.size:=ZQ I.ok.above (Z1 I.lt)
def Inv.abq(I:Inv X pins σ H s){a:Addr}(h:s.heap.objs.size<=a):a∉X.fs:=λhb=>by
 obtain⟨_,o,ho,_⟩:=I.ok.gj.mem hb;exact absurd (Zv (Zi ho) (ZQ I.sz h)) (Z2 _)
def Inv.nX(I:Inv X pins σ H s):∀x c,X.env.cells.lookup x=some c->c≠X.env.locals:=λx c e z=>by
 obtain⟨v,o,ho,hd⟩:=I.cell x c e;obtain⟨m,⟨o',es,ep,jW,pO,_⟩,_⟩:=I.loc;rw[z,jW]at ho;cases ho;rw[pO]at hd;cases hd
def Inv.gj(I:Inv X pins σ H s):s.heap.FunFrames X.base X.outer:=by
 have all:∀(l:List Env),(∀b∈bT l,b∈X.fs)->X.s₀.heap.FunFrames X.base l->s.heap.FunFrames X.base l:=by
  intro l
  induction l with
  |nil=>intro _ _;trivial
  |cons env r ih=>
   intro hs hl;obtain⟨hk,⟨L,o,hf,hn,ho,hd⟩,hr⟩:=hl;have hL:L∈X.fs:=hs L (by unfold bT;rw[List.filterMap_cons,hf];exact Y9);obtain⟨sl,e⟩:=I.base.slot L o ho (I.ok.mz L hL) hL λz=>I.ok.rN L z hL;exact⟨hk,⟨L,_,hf,hn,e,hd⟩,ih (λb hb=>hs b (by unfold bT;rw[List.filterMap_cons,hf];exact Y4 _ hb)) hr⟩
 exact all X.outer (λ_ hb=>hb) I.ok.gj
def Inv.stack(I:Inv X pins σ H s):s.heap.FunFrames X.base X.stack:=by
 rcases I.ok.rX with e|⟨e,hf⟩
 ·rw[e];exact I.gj
 ·rw[e];obtain⟨m,hn,_⟩:=I.loc;refine .cons (by rw[I.ok.kind];decide) hf hn ?_ I.gj;exact Heap.get?_none_of_le (ZQ I.ok.iP I.ok.above)
def Inv.ku(I:Inv X pins σ H s):∀b∈bT X.stack,b∈X.env.locals::X.fs:=λb hb=>by
 rcases I.ok.rX with e|⟨e,hf⟩
 ·rw[e]at hb;exact Y4 _ hb
 ·rw[e]at hb;unfold bT at hb;rw[List.filterMap_cons,hf]at hb;exact hb
def Inv.o6(I:Inv X pins σ H s):∀b∈bT X.stack,H b=none:=λb hb=>by
 rcases Y5.mp (I.ku b hb)with e|hb
 ·rw[e];exact I.free
 ·obtain⟨_,o,ho,_⟩:=I.ok.gj.mem hb;exact I.base.free b o ho (I.ok.mz b hb) λz=>I.ok.rN b z hb
def Inv.step{g':Array GenState}{t':Nat}{d':Drawn}{ch:List Addr}(I:Inv X pins σ H s)
  (jX:∀b∈ch,(b∈X.ex\/X.s₀.heap.objs.size<=b)/\b≠X.env.locals/\(∀x c,X.env.cells.lookup x=some c->c≠b)/\∀p∈X.pn++pins,p.1≠b)
  (keep:∀b o,b≠X.env.locals->b∉X.fs->b∉ch->s.heap.get? b=some o->H b=none->h'.get? b=some o)
  (slot:∀b o,b≠X.env.locals->b∈X.fs->b∉ch->s.heap.get? b=some o->H b=none->∃sl,h'.get? b=some {o with slots:=sl})(free:∀b o,b∉ch->s.heap.get? b=some o->H b=none->H' b=none)
  (there:∀b o,b∉ch->s.heap.get? b=some o->∃o',h'.get? b=some o')
  (gc:∀b xs,H b=some (.tup xs)->H' b=some (.tup xs))(fF:∀b o u,H b=some (.df o u)->H' b=some (.df o u))(gd:∀b ps,H b=some (.mw ps)->∃more,H' b=some (.mw (ps++more)))
  (ns:∀m,s.heap.Ns X.env.locals m->h'.Ns X.env.locals m)(ao:bw X.prog X.w H' h')(hg:AllBare g'):
  Inv X pins σ H' {s with heap:=h',gens:=g',drawn:=d',toks:=t'}:=by
 have L9:∀b o,X.s₀.heap.get? b=some o->b≠X.env.locals:=λb o e=>Zn (Zv (Zi e) I.ok.above)
 have va:∀b o,X.s₀.heap.get? b=some o->b∉X.ex->b∉ch:=λb o e hx hb=>by
  rcases(jX b hb).1 with z|z
  ·exact hx z
  ·exact absurd (Zv (Zi e) z) (Z2 _)
 have cellK:∀x c,X.env.cells.lookup x=some c->∀v,s.heap.IsCell c v->h'.IsCell c v:=λx c e v ⟨o,ho,hd⟩=>by
  have eY:c∉ch:=λz=>(jX c z).2.2.1 x c e rfl;by_cases hc:c∈X.fs
  ·obtain⟨sl,q⟩:=slot c o (I.nX x c e) hc eY ho (I.dW x c e);exact⟨_,q,hd⟩
  ·exact⟨o,keep c o (I.nX x c e) hc eY ho (I.dW x c e),hd⟩
 refine⟨I.ok,I.os,hg,⟨λb o e n hb hx=>?_,λb o e n hb hx=>?_,λb o e n hx=>?_,λb o e hx=>?_,λb xs e=>gc b xs (I.base.gc b xs e),λb o xs e=>fF b o xs (I.base.fF b o xs e),λb ps e=>?_⟩,?_,λx c e=>?_,?_,λx c e=>?_,λp hp=>?_,ao,I.len⟩
 ·exact keep b o (L9 b o e) hb (va b o e hx) (I.base.keep b o e n hb hx) (I.base.free b o e n hx)
 ·obtain⟨sl,e1⟩:=I.base.slot b o e n hb hx;obtain⟨vb,e2⟩:=slot b _ (L9 b o e) hb (va b o e hx) e1 (I.base.free b o e n hx);exact⟨vb,e2⟩
 ·obtain⟨o',e1⟩:=I.base.there b o e hx;exact free b o' (va b o e hx) e1 (I.base.free b o e n hx)
 ·obtain⟨o',e1⟩:=I.base.there b o e hx;exact there b o' (va b o e hx) e1
 ·obtain⟨m1,e1⟩:=I.base.gd b ps e;obtain⟨m2,e2⟩:=gd b _ e1;exact⟨m1++m2,by rw[e2,Array.append_assoc]⟩
 ·obtain⟨m,hn,hl⟩:=I.loc;refine⟨m,ns m hn,λi x v e1 e2 e3=>?_⟩;obtain⟨u,r,l⟩:=hl i x v e1 e2 e3;refine⟨u,r,?_⟩;rcases l with l|⟨k,c,e,z⟩
  ·exact .inl l
  ·exact .inr ⟨k,c,e,cellK x c e _ z⟩
 ·obtain⟨v,z⟩:=I.cell x c e;exact⟨v,cellK x c e v z⟩
 ·obtain⟨m,⟨o,_,_,ho,_⟩,_⟩:=I.loc;exact free _ o (λz=>(jX _ z).2.1 rfl) ho I.free
 ·obtain⟨v,o,ho,hd⟩:=I.cell x c e;exact free c o (λz=>(jX c z).2.2.1 x c e rfl) ho (I.dW x c e)
 ·obtain⟨e,n,ne,nf,d⟩:=I.pin p hp;have eY:p.1∉ch:=λz=>(jX p.1 z).2.2.2 p hp rfl;exact⟨keep p.1 p.2 ne nf eY e n,free p.1 p.2 eY e n,ne,nf,d⟩
def Inv.un{t':Nat}(I:Inv X pins σ H s)(u:Un X.fs [] H H' s.heap h')(ao:bw X.prog X.w H' h'):Inv X pins σ H' {s with heap:=h',toks:=t'}:=by
 obtain⟨m,⟨o,es,ep,ho,r⟩,_⟩:=id I.loc;obtain⟨sl,hL⟩:=u.any ho I.free (by simp)
 exact I.step (g':=s.gens) (d':=s.drawn) (ch:=[]) (λ_ z=>nomatch z) (λb o _ hb _ e n=>u.keep b o e n hb (by simp)) (λb o _ hb _ e n=>u.slot b o e n hb (by simp)) (λb o _ e n=>u.free b o e n (by simp)) (λb o _ e=>u.there b o e (by simp)) u.gc u.fF u.gd (λm' hm=>by
  obtain⟨o',nY,rY,jW,r'⟩:=hm;rw[ho]at jW;cases jW;exact⟨_,nY,rY,hL,r'⟩) ao I.bare
def Inv.call{g':Array GenState}{t':Nat}{d':Drawn}{ch:List Addr}(I:Inv X pins σ H s)(u:Un (bT X.stack) ch H H' s.heap h')(ao:bw X.prog X.w H' h')(hg:AllBare g')
  (jX:∀b∈ch,(b∈X.ex\/X.s₀.heap.objs.size<=b)/\b≠X.env.locals/\(∀x c,X.env.cells.lookup x=some c->c≠b)/\∀p∈X.pn++pins,p.1≠b):
  Inv X pins σ H' {s with heap:=h',gens:=g',drawn:=d',toks:=t'}:=by
 obtain⟨m,⟨o,es,ep,ho,r⟩,_⟩:=id I.loc;obtain⟨sl,hL⟩:=u.any ho I.free λz=>(jX _ z).2.1 rfl
 exact I.step (ch:=ch) jX (λb o hL hb hc e n=>u.keep b o e n (λz=>(Y5.mp (I.ku b z)).elim hL hb) hc) (λb o _ _ hc e n=>u.any e n hc) (λb o hc e n=>u.free b o e n hc) (λb o hc e=>u.there b o e hc) u.gc u.fF u.gd (λm' hm=>by
  obtain⟨o',nY,rY,jW,r'⟩:=hm;rw[ho]at jW;cases jW;exact⟨_,nY,rY,hL,r'⟩) ao hg
def Inv.turned{t':Nat}{it:Addr}(I:Inv X pins σ H s)(k:∀b o,b≠it->s.heap.get? b=some o->h'.get? b=some o)(hn:H it=none)(hL:it≠X.env.locals)
  (h1:it∈X.ex\/X.s₀.heap.objs.size<=it)(h2:∀x c,X.env.cells.lookup x=some c->c≠it)(h3:∀p∈X.pn++pins,p.1≠it):Inv X pins σ H {s with heap:=h',toks:=t'}:=by
 have Ma:∀b u,H b=some u->b≠it:=λb u e z=>by rw[z,hn]at e;cases e
 refine I.step (g':=s.gens) (d':=s.drawn) (ch:=[it]) (λb hb=>?_) (λb o _ _ hc e _=>k b o (λz=>hc (by simp[z])) e) (λb o _ _ hc e _=>⟨o.slots,k b o (λz=>hc (by simp[z])) e⟩) (λ_ _ _ _ n=>n)
  (λb o hc e=>⟨o,k b o (λz=>hc (by simp[z])) e⟩) (λ_ _ e=>e) (λ_ _ _ e=>e) (λb ps e=>⟨#[],by rw[e];simp⟩) (λm hm=>?_) (λb u e=>?_) I.bare
 ·have e:b=it:=by simpa using hb
  subst e;exact⟨h1,hL,h2,h3⟩
 ·obtain⟨o,es,ep,ho,r⟩:=hm;exact⟨o,es,ep,k _ o (Ne.symm hL) ho,r⟩
 ·refine(I.ao b u e).iJ (λc v hc q=>k c v ?_ q) (λ_ q=>q) λ_ _ q=>q;rcases hc with z|z
  ·rw[z];exact Ma b u e
  ·exact Ma c _ z
def Inv.tok(I:Inv X pins σ H s)(t:Nat):Inv X pins σ H {s with toks:=t}:=I.un (h':=s.heap) (t':=t) Un.refl I.ao
def Inv.kept{t':Nat}(I:Inv X pins σ H s)(k:∀b u,s.heap.get? b=some u->h'.get? b=some u):Inv X pins σ H {s with heap:=h',toks:=t'}:=I.un (Un.kept k) (I.ao.kept k)
def Inv.laid{a:Addr}{o:HO}{t':Nat}(I:Inv X pins σ H s)(k:∀b u,s.heap.get? b=some u->h'.get? b=some u)(hp:s.heap.objs.size<=a)(new:bY X.prog X.w (upd H a o) h' a o):
  Inv X pins σ (upd H a o) {s with heap:=h',toks:=t'}:=I.un (Un.laid k hp (I.ao.fresh hp)) (I.ao.laid k hp new)
def Inv.write{x e:Addr}{o:HO}{t':Nat}(I:Inv X pins σ H s)(mu:rW (H x))(he:e=x\/H e=some (.own x))(k:∀b u,b≠e->s.heap.get? b=some u->h'.get? b=some u)(my:∃u,h'.get? e=some u)
  (new:bY X.prog X.w (upd H x o) h' x o):Inv X pins σ (upd H x o) {s with heap:=h',toks:=t'}:=I.un (Un.write mu he k my) (I.ao.write mu he k my new)
def Inv.HU{Kv:List (Addr×Obj)}(I:Inv X pins σ H s)(h:∀p∈Kv,s.heap.get? p.1=some p.2/\H p.1=none/\p.1≠X.env.locals/\p.1∉X.fs/\∀v,p.2.data≠.cell v):Inv X Kv σ H s:=
 ⟨I.ok,I.os,I.bare,I.base,I.loc,I.cell,I.free,I.dW,λp hp=>(Y7.mp hp).elim (λz=>I.pin p (Zc _ z)) (h p),I.ao,I.len⟩
def Gv{N:List Str}(hN:N.Nodup){i j:Nat}{x:Str}(a:N[i]?=some x)(b:N[j]?=some x):i=j:=by
 obtain⟨h1,e1⟩:=ZL.mp a;obtain⟨h2,e2⟩:=ZL.mp b;exact(List.getElem_inj hN).mp (e1.trans e2.symm)
def E7{M:Model}{A:Around}{E:Value->Shared->Prop}{i:Nat}{x:Str}{v:V}{u:Value}{Q:Unit->Shared->Prop}(I:Inv X pins σ H s)(hN:X.N.Nodup)(hi:X.N[i]?=some x)(hx:Loc X.env.scope x)(r:RelV v u)
  (h:∀s',Inv X pins (σ.set i (some v)) H s'->(∃a,Heap.SameBut a s.heap s'.heap/\(a=X.env.locals\/X.env.cells.lookup x=some a))->Q () s')(hf:X.fn x=true\/X.env.scope.names.lookup x=some .local:=by first|exact .inl rfl|exact .inr rfl|assumption):wpAny M A (storeName X.env x u) Q E s:=by
 obtain⟨m,hn,hl⟩:=id I.loc;have rO:(X.env.scope.kind==.class||(X.env.scope.kind==.module&&X.env.locals !=X.env.globals))=false:=by rw[I.ok.kind];rfl
 have Mb:i<σ.length:=by rw[I.len];exact(ZL.mp hi).1
 have nX:=I.nX
 have tracked:∀{a:Addr}{h':Heap},(∃o,s.heap.get? a=some o/\H a=none)->Heap.SameBut a s.heap h'->bw X.prog X.w H h':=λ{a h'} ha hs b ob e=>by
  obtain⟨_,_,Kw⟩:=ha;refine(I.ao b ob e).iJ (λc w' hc q=>(hs.2 c ?_).trans q) (λ_ q=>q) λ_ _ q=>q;rintro rfl;rcases hc with rfl|hc
  ·rw[Kw]at e;cases e
  ·rw[Kw]at hc;cases hc
 rcases hx with hk|hk
 ·refine wpAny_storeName_local hk hn (λh' hn' hs=>?_) rO;obtain⟨oL,_,_,hoL,_⟩:=id hn;refine h _ ⟨I.ok,I.os,I.bare,⟨λb o e n hb hx=>?_,λb o e n hb hx=>?_,I.base.free,λb o e hx=>?_,I.base.gc,I.base.fF,I.base.gd⟩,⟨_,hn',λj y v' e1 e2 e3=>?_⟩,λy c e=>?_,I.free,I.dW,λp hp=>?_,tracked ⟨oL,hoL,I.free⟩ hs,by simpa using I.len⟩ ⟨_,hs,.inl rfl⟩
  ·exact(hs.2 b (Zn (Zv (Zi e) I.ok.above))).trans (I.base.keep b o e n hb hx)
  ·obtain⟨sl,e1⟩:=I.base.slot b o e n hb hx;exact⟨sl,(hs.2 b (Zn (Zv (Zi e) I.ok.above))).trans e1⟩
  ·obtain⟨o',e1⟩:=I.base.there b o e hx;exact⟨o',(hs.2 b (Zn (Zv (Zi e) I.ok.above))).trans e1⟩
  ·by_cases hj:j=i
   ·subst hj;rw[hi]at e1;cases e1;rw[List.getElem?_set_self Mb]at e2;cases e2;exact⟨u,r,.inl ⟨hk,by simp⟩⟩
   ·rw[List.getElem?_set_ne (Ne.symm hj)]at e2;obtain⟨u',r',q⟩:=hl j y v' e1 e2 e3;refine⟨u',r',?_⟩;rcases q with⟨k,e⟩|⟨k,c,e,z⟩
    ·refine .inl ⟨k,?_⟩;have:y≠x:=λe=>hj (Gv hN e1 (e▸hi));simp[this,e]
    ·exact .inr ⟨k,c,e,z.sameBut hs (nX y c e)⟩
  ·obtain⟨w',z⟩:=I.cell y c e;exact⟨w',z.sameBut hs (nX y c e)⟩
  ·obtain⟨e,n,ne,nf,d⟩:=I.pin p hp;exact⟨(hs.2 p.1 ne).trans e,n,ne,nf,d⟩
 ·have rZ:X.fn x=true:=by
   rcases hf with z|z
   ·exact z
   ·rw[z]at hk;cases hk
  obtain⟨c,hc⟩:=I.ok.has x (.inl hk);obtain⟨w',z⟩:=I.cell x c hc;refine wpAny_storeName_cell I.ok.kind hk hc z (λh' dE hs=>?_);obtain⟨oc,b9,abr⟩:=id z;refine h {s with heap:=h'} ⟨I.ok,I.os,I.bare,⟨λb o e n hb hx=>?_,λb o e n hb hx=>?_,I.base.free,λb o e hx=>?_,I.base.gc,I.base.fF,I.base.gd⟩,⟨m,hn.sameBut hs (Ne.symm (nX x c hc)),λj y v' e1 e2 e3=>?_⟩,λy c' e=>?_,I.free,I.dW,λp hp=>?_,tracked ⟨oc,b9,I.dW x c hc⟩ hs,by simpa using I.len⟩ ⟨c,hs,.inr hc⟩
  ·exact(hs.2 b (Zn (Zv (Zi e) (I.ok.cab x c rZ hc)))).trans (I.base.keep b o e n hb hx)
  ·obtain⟨sl,e1⟩:=I.base.slot b o e n hb hx;exact⟨sl,(hs.2 b (Zn (Zv (Zi e) (I.ok.cab x c rZ hc)))).trans e1⟩
  ·obtain⟨o',e1⟩:=I.base.there b o e hx;exact⟨o',(hs.2 b (Zn (Zv (Zi e) (I.ok.cab x c rZ hc)))).trans e1⟩
  ·by_cases hj:j=i
   ·subst hj;rw[hi]at e1;cases e1;rw[List.getElem?_set_self Mb]at e2;cases e2;exact⟨u,r,.inr ⟨.inl hk,c,hc,dE⟩⟩
   ·rw[List.getElem?_set_ne (Ne.symm hj)]at e2;obtain⟨u',r',q⟩:=hl j y v' e1 e2 e3;refine⟨u',r',?_⟩;rcases q with q|⟨k,c',e,z'⟩
    ·exact .inl q
    ·refine .inr ⟨k,c',e,z'.sameBut hs ?_⟩;rintro rfl;exact hj (Gv hN e1 (I.ok.inj _ _ _ e hc▸hi))
  ·by_cases Mc:c'=c
   ·subst Mc;exact⟨_,dE⟩
   ·obtain⟨w2,z2⟩:=I.cell y c' e;exact⟨w2,z2.sameBut hs Mc⟩
  ·obtain⟨e,n,ne,nf,d⟩:=I.pin p hp;refine⟨(hs.2 p.1 ?_).trans e,n,ne,nf,d⟩;intro q;rw[q,b9]at e;have q':oc=p.2:=Zg e;exact d w' (by rw[<-q'];exact abr)
def lK{M:Model}{A:Around}{E:Value->Shared->Prop}{i:Nat}{x:Str}{v:V}{u:Value}{Q:Unit->Shared->Prop}(I:Inv X pins σ H s)(hN:X.N.Nodup)(hi:X.N[i]?=some x)(hx:Loc X.env.scope x)(r:RelV v u)
  (h:∀s',Inv X pins (σ.set i (some v)) H s'->Q () s')(hf:X.fn x=true\/X.env.scope.names.lookup x=some .local:=by first|exact .inl rfl|exact .inr rfl|assumption):wpAny M A (storeName X.env x u) Q E s:=
 E7 I hN hi hx r (λs' I' _=>h s' I') hf
def Inv.nI{s':Shared}{ch:List Addr}(I:Inv X pins σ H s)(ho:s'.os=s.os)(u:Un (bT X.stack) ch H H' s.heap s'.heap)(ao:bw X.prog X.w H' s'.heap)(hg:AllBare s'.gens)
  (jX:∀b∈ch,(b∈X.ex\/X.s₀.heap.objs.size<=b)/\b≠X.env.locals/\(∀x c,X.env.cells.lookup x=some c->c≠b)/\∀p∈X.pn++pins,p.1≠b):Inv X pins σ H' s':=by
 obtain⟨h',g',d',t',o'⟩:=s';have e:o'=s.os:=ho;subst e;exact I.call (g':=g') (t':=t') (d':=d') u ao hg jX
end
abbrev XK:=Value->Option Addr->Hp->Prop
abbrev St:=List (Option V)
abbrev VK:=V->Hp->Prop
abbrev TE:=St->Hp->VK->Prop
abbrev TT:=St->Hp->(Bool->Hp->Prop)->Prop
abbrev TA:=St->Hp->(List V->Hp->Prop)->Prop
structure Ends where
 nx:St->Hp->Prop
 rt:VK
 bk:St->Hp->Prop:=λ_ _=>False
 ct:St->Hp->Prop:=λ_ _=>False
abbrev TS:=Ends->St->Hp->Prop
def EP(X:Cx)(pins:List (Addr×Obj))(σ:St)(Q:VK)(u:Value)(s':Shared):Prop:=∃v H',Inv X pins σ H' s'/\RelV v u/\Q v H'
def TP(X:Cx)(pins:List (Addr×Obj))(σ:St)(Q:Bool->Hp->Prop)(b:Bool)(s':Shared):Prop:=∃H',Inv X pins σ H' s'/\Q b H'
def AP(X:Cx)(pins:List (Addr×Obj))(σ:St)(Q:List V->Hp->Prop)(us:List Value)(s':Shared):Prop:=∃vs H',Inv X pins σ H' s'/\Vals vs us/\Q vs H'
def SP(X:Cx)(pins:List (Addr×Obj))(D:Ends)(f:Flow)(s':Shared):Prop:=
 match f with
 |.next=>∃σ' H',Inv X pins σ' H' s'/\D.nx σ' H'
 |.brk=>∃σ' H',Inv X pins σ' H' s'/\D.bk σ' H'
 |.cont=>∃σ' H',Inv X pins σ' H' s'/\D.ct σ' H'
 |.ret u=>∃v σ' H',Inv X pins σ' H' s'/\RelV v u/\D.rt v H'
def PE(X:Cx)(e:Expr)(t:TE):Prop:=
 ∀(pins:List (Addr×Obj)) (s:Shared) (σ:St) (H:Hp) (Q:VK),Inv X pins σ H s->t σ H Q->wpAny (model X.prog X.w) X.A (eval e X.env) (EP X pins σ Q) X.xe s
def PT(X:Cx)(e:Expr)(t:TT):Prop:=
 ∀(pins:List (Addr×Obj)) (s:Shared) (σ:St) (H:Hp) (Q:Bool->Hp->Prop),Inv X pins σ H s->t σ H Q->wpAny (model X.prog X.w) X.A (isTrue e X.env (eval e X.env)) (TP X pins σ Q) X.xe s
def PW(X:Cx)(e:Expr)(t:TT):Prop:=
 ∀(whole:Sem Value) (pins:List (Addr×Obj)) (s:Shared) (σ:St) (H:Hp) (Q:Bool->Hp->Prop),Inv X pins σ H s->t σ H Q->wpAny (model X.prog X.w) X.A (isTrue e X.env whole) (TP X pins σ Q) X.xe s
def PW.pt{X:Cx}{e:Expr}{t:TT}(h:PW X e t):PT X e t:=h _
def PA(X:Cx)(es:List Expr)(t:TA):Prop:=
 ∀(pos:Pos) (pins:List (Addr×Obj)) (s:Shared) (σ:St) (H:Hp) (Q:List V->Hp->Prop),Inv X pins σ H s->t σ H Q->wpAny (model X.prog X.w) X.A (spliced (backTo pos (starEach es X.env))) (AP X pins σ Q) X.xe s
def PS(X:Cx)(st:Stmt)(t:TS):Prop:=
 ∀(pins:List (Addr×Obj)) (s:Shared) (σ:St) (H:Hp) (D:Ends),Inv X pins σ H s->t D σ H->wpAny (model X.prog X.w) X.A (exec st X.env) (SP X pins D) X.xe s
def cW(X:Cx)(st:List Stmt)(t:TS):Prop:=
 ∀(pins:List (Addr×Obj)) (s:Shared) (σ:St) (H:Hp) (D:Ends),Inv X pins σ H s->t D σ H->wpAny (model X.prog X.w) X.A (execs st X.env) (SP X pins D) X.xe s
def az{α:Type}{t:Sem α}{Q Q':α->Shared->Prop}{M:Model}{A:Around}{E:Value->Shared->Prop}{s:Shared}(h:wpAny M A t Q E s)(hQ:∀a s,Q a s->Q' a s):wpAny M A t Q' E s:=wpAny_mono h hQ λ_ _ x=>x
section
variable {X:Cx}
inductive Jx(i:Nat)(σ:St)(H:Hp)(Q:VK):Prop
 |mk (v:_) (_:σ[i]?=some (some v)) (_:Q v H):Jx i σ H Q
def gZ(i:Nat):TE:=Jx i
def tC(v:V):TE:=λ_ H Q=>Q v H
def XU{i:Nat}{x:Str}{pos:Pos}(hN:X.N[i]?=some x)(hv:u9 X.env.scope x)(hd:(x==("__debug__":Str))=false:=by decide)(b5:(x==("__classdict__":Str))=false:=by decide):PE X (.Name x pos) (gZ i):=by
 intro pins s σ H Q I h;obtain⟨v,e,h⟩:=h;obtain⟨m,hn,hl⟩:=I.loc;obtain⟨u,r,l⟩:=hl i x v hN e hv;have fin:EP X pins σ Q u s:=⟨v,H,I,r,h⟩;rcases l with⟨hk,hm⟩|⟨hk,c,hc,iE⟩
 ·exact wpAny_Name (wpAny_loadName_local I.ok.kind hk hn hm fin) hd
 ·rcases hk with hk|hk
  ·exact wpAny_Name (wpAny_loadName_cell I.ok.kind hk hc iE fin) hd
  ·exact wpAny_Name (wpAny_loadName_free I.ok.kind hk hc iE fin b5) hd
def af{i j pos}:PE X (.Constant (.int i) j pos) (tC (.int i)):=λ_ _ _ H _ I h=>wpAny_Constant_int ⟨.int i,H,I.tok _,⟨_,rfl⟩,h⟩
def pB{b j pos}:PE X (.Constant (.bool b) j pos) (tC (.bl b)):=λ_ _ _ H _ I h=>Constant_bool ⟨.bl b,H,I,rfl,h⟩
def c8{j pos}:PE X (.Constant .none j pos) (tC .aE):=λ_ _ _ H _ I h=>Constant_none ⟨.aE,H,I,rfl,h⟩
def gD{x j pos}:PE X (.Constant (.str x) j pos) (tC (.str x)):=λ_ _ _ H _ I h=>Calls.Constant_str ⟨.str x,H,I.tok _,⟨_,rfl⟩,h⟩
def Gl(X:Cx)(x:Str):Prop:=X.env.kindOf x=some .globalImplicit
def qN{E:Value->Shared->Prop}{pins:List (Addr×Obj)}{s:Shared}{σ:St}{H:Hp}{x:Str}{u:Value}{pos:Pos}{Q:Value->Shared->Prop}(I:Inv X pins σ H s)(hg:Gl X x)(hm:X.mg x=some u)(h:Q u s)
  (hd:(x==("__debug__":Str))=false:=by decide):wpAny (model X.prog X.w) X.A (eval (.Name x pos) X.env) Q E s:=
 Calls.Name_function_global I.ok.kind hg (Calls.loadGlobal_global (by rw[I.ok.glob];exact I.mod.glob.keeps I.bk) hm h) hd
def pw{E:Value->Shared->Prop}{pins:List (Addr×Obj)}{s:Shared}{σ:St}{H:Hp}{x:Str}{u:Value}{pos:Pos}{Q:Value->Shared->Prop}(I:Inv X pins σ H s)(hg:Gl X x)(hm:X.mg x=none)(hv:bootBuiltins x=some u)(h:Q u s)
  (hn:x≠"__name__":=by decide)(hd:(x==("__debug__":Str))=false:=by decide):wpAny (model X.prog X.w) X.A (eval (.Name x pos) X.env) Q E s:=by
 obtain⟨mb,h1,h2⟩:=I.mod.blt;exact Calls.Name_function_global I.ok.kind hg (Calls.loadGlobal_builtin (by rw[I.ok.glob];exact I.mod.glob.keeps I.bk) hm (by rw[I.ok.blt];exact h1.keeps I.bk) ((h2 x hn).trans hv) h) hd
def iy{x:Str}{v:V}{u:Value}{pos:Pos}(hg:Gl X x)(hm:X.mg x=some u)(r:RelV v u)(hd:(x==("__debug__":Str))=false:=by decide):PE X (.Name x pos) (tC v):=
 λ_ _ _ H _ I h=>qN I hg hm ⟨v,H,I,r,h⟩ hd
variable {a b:Expr}{ta tb:TE}{pos:Pos}
def PC(X:Cx)(op:CmpOp)(a b:Expr)(t:TE):Prop:=
 ∀(pins:List (Addr×Obj)) (s:Shared) (σ:St) (H:Hp) (Q:VK),Inv X pins σ H s->t σ H Q->
  wpAny (model X.prog X.w) X.A (eval a X.env) (λv s₁=>wpAny (model X.prog X.w) X.A (eval b X.env) (λu s₂=>wpAny (model X.prog X.w) X.A (compareOp op v u) (EP X pins σ Q) X.xe s₂) X.xe s₁) X.xe s
inductive A3(Q:Bool->Hp->Prop)(x:V)(H1:Hp):Prop
 |mk (c:Bool) (_:x=.bl c) (_:Q c H1):A3 Q x H1
def tB(t:TE):TT:=λσ H Q=>t σ H λx H1=>A3 Q x H1
def zk{op:CmpOp}{t:TE}(h:PC X op a b t)(h1:behindInMarks op b=false:=by first|exact acC _ (by decide) (by decide)|rfl):PT X (.Compare a [op] [b] pos) (tB t):=by
 intro pins s σ H Q I hw;refine wpAny_isTrue_Compare1 (az (h pins s σ H _ I hw) λv s1 h1=>az h1 λu s2 h2=>az h2 λc s3 ⟨x,H1,I1,r1,q1⟩=>?_) h1;obtain⟨d,rfl,q⟩:=q1;cases r1;exact wpAny_truthy_bool ⟨H1,I1,q⟩
def zm{e:Expr}{t:TE}(h:PE X e t)(he:∀whole,isTrue e X.env whole=(do let v<-whole;standAt e.pos;holding [v] (truthy v)):=by intro _;rfl):PT X e (tB t):=by
 intro pins s σ H Q I hw;refine isTrue_plain (az (h pins s σ H _ I hw) λv s1 ⟨x,H1,I1,r1,q1⟩=>?_) (he _);obtain⟨d,rfl,q⟩:=q1;cases r1;exact wpAny_truthy_bool ⟨H1,I1,q⟩
variable {tA vc:TT}{rest:List Expr}
def abt(t u:TT):TT:=λσ H Q=>t σ H λc H1=>if c=true then u σ H1 Q else Q false H1
def tOr(t u:TT):TT:=λσ H Q=>t σ H λc H1=>if c=true then Q true H1 else u σ H1 Q
def abu(t:TT):TT:=λσ H Q=>t σ H λc H1=>Q (!c) H1
def qO(ha:PT X a tA):PW X (.BoolOp .And [a] pos) tA:=by
 intro wh pins s σ H Q I h;refine isTrue_and (az (ha pins s σ H Q I h) λc s1 e=>?_);cases c with
 |true=>exact isTrue_and_nil e
 |false=>exact e
def iA(ha:PT X a tA):PW X (.BoolOp .Or [a] pos) tA:=by
 intro wh pins s σ H Q I h;refine isTrue_or (az (ha pins s σ H Q I h) λc s1 e=>?_);cases c with
 |false=>exact isTrue_or_nil e
 |true=>exact e
def rh(ha:PT X a tA)(hb:PW X (.BoolOp .And (b::rest) pos) vc):PW X (.BoolOp .And (a::b::rest) pos) (abt tA vc):=by
 intro wh pins s σ H Q I h;refine isTrue_and (az (ha pins s σ H _ I h) λc s1 ⟨H1,I1,q1⟩=>?_);cases c with
 |true=>exact hb wh pins s1 σ H1 Q I1 q1
 |false=>exact⟨H1,I1,q1⟩
def iF(ha:PT X a tA)(hb:PW X (.BoolOp .Or (b::rest) pos) vc):PW X (.BoolOp .Or (a::b::rest) pos) (tOr tA vc):=by
 intro wh pins s σ H Q I h;refine isTrue_or (az (ha pins s σ H _ I h) λc s1 ⟨H1,I1,q1⟩=>?_);cases c with
 |true=>exact⟨H1,I1,q1⟩
 |false=>exact hb wh pins s1 σ H1 Q I1 q1
def XW(ha:PT X a tA):PT X (.UnaryOp .Not a pos) (abu tA):=by
 intro pins s σ H Q I h;exact isTrue_not (ha pins s σ H (λc H1=>Q (!c) H1) I h)
def tIf(t:TT)(ta tb:TE):TE:=λσ H Q=>t σ H λc H1=>if c=true then ta σ H1 Q else tb σ H1 Q
def Gw{c:Expr}(hc:PT X c tA)(ha:PE X a ta)(hb:PE X b tb):PE X (.IfExp c a b pos) (tIf tA ta tb):=by
 intro pins s σ H Q I h;refine wpAny_IfExp (az (hc pins s σ H _ I h) λd s1 ⟨H1,I1,q1⟩=>?_);cases d with
 |true=>exact ha pins s1 σ H1 Q I1 q1
 |false=>exact hb pins s1 σ H1 Q I1 q1
end
def ah(K:PySem.W.Frag)(H:Hp)(a:Addr)(xs:List V):Prop:=
 Rd H a (.lst xs)\/
  ∃(o:Obj) (ai:Array Value) (n:Nat),K.lookup a=some o/\o.cls=.type "list"/\o.dict=none/\o.data=.seq ai n/\ai.size<=sizeLine/\Vals xs ai.toList
def aV(K:PySem.W.Frag)(H:Hp)(a:Addr)(xs:List V):Prop:=
 Rd H a (.tup xs)\/
  ∃(o:Obj) (ai:Array Value) (n:Nat),K.lookup a=some o/\o.cls=.type "tuple"/\o.data=.seq ai n/\ai.size<=sizeLine/\Vals xs ai.toList
def abv:Value->Option V
 |.none=>some .aE
 |.bool b=>some (.bl b)
 |.int i _=>some (.int i)
 |.str x _=>some (.str x)
 |.bytes b _=>some (.gI b)
 |.float b _=>some (.u0 b)
 |.ref a=>some (.ref a)
 |.type n=>some (.ty n)
 |_=>none
def RelV.abs{x:V}{u:Value}(r:RelV x u):abv u=some x:=by
 cases x with
 |aE=>cases r;rfl
 |bl _=>cases r;rfl
 |int _=>obtain⟨t,rfl⟩:=r;rfl
 |str _=>obtain⟨t,rfl⟩:=r;rfl
 |gI _=>obtain⟨t,rfl⟩:=r;rfl
 |u0 _=>obtain⟨t,rfl⟩:=r;rfl
 |ref _=>cases r;rfl
 |ty _=>cases r;rfl
def RelV.inj{x y:V}{u:Value}(r:RelV x u)(q:RelV y u):x=y:=Zg (r.abs.symm.trans q.abs)
def Vals.inj:∀{xs ys:List V}{us:List Value},Vals xs us->Vals ys us->xs=ys
 |_,_,_,.nil,.nil=>rfl
 |_,_,_,.cons r t,.cons r' t'=>by rw[r.inj r',Vals.inj t t']
section
variable {X:Cx}{pins:List (Addr×Obj)}{σ:St}{H:Hp}{s:Shared}{a:Addr}{xs ys:List V}
def ah.of{K:PySem.W.Frag}(h:H a=some (.lst xs)):ah K H a xs:=.inl (.inl h)
def aV.of{K:PySem.W.Frag}(h:H a=some (.tup xs)):aV K H a xs:=.inl (.inl h)
def Inv.list(I:Inv X pins σ H s)(h:ah X.K H a xs):∃ai:List Value,Vals xs ai/\PlainL s.heap a ai.toArray/\xs.length<=sizeLine:=by
 rcases h with h|⟨o,ai,n,hk,hc,hd,hs,hz,r⟩
 ·obtain⟨z,ai,n,r,e⟩:=h.ok I.ao;exact⟨ai,r,⟨_,n,e,rfl,rfl,rfl⟩,z⟩
 ·refine⟨ai.toList,r,⟨o,n,I.eX a o hk,hc,hd,by simpa using hs⟩,?_⟩;have e:=r.length;simp only[Array.length_toList]at e;omega
def Inv.tuple(I:Inv X pins σ H s)(h:aV X.K H a xs):∃ai:List Value,Vals xs ai/\IsTup s.heap a ai.toArray/\xs.length<=sizeLine:=by
 rcases h with h|⟨o,ai,n,hk,hc,hs,hz,r⟩
 ·obtain⟨z,ai,r,p⟩:=h.ok I.ao;exact⟨ai,r,p,z⟩
 ·refine⟨ai.toList,r,⟨o,I.eX a o hk,hc,n,by simpa using hs⟩,?_⟩;have e:=r.length;simp only[Array.length_toList]at e;omega
def Inv.Gx(I:Inv X pins σ H s)(h:ah X.K H a xs)(h':ah X.K H a ys):xs=ys:=by
 obtain⟨ai,r,⟨o,n,e,_,_,d⟩,_⟩:=I.list h;obtain⟨its',r',⟨o',n',e',_,_,d'⟩,_⟩:=I.list h';rw[e]at e';cases e';rw[d]at d';injection d' with d1 _
 have:ai=its':=by simpa using congrArg Array.toList d1
 subst this;exact r.inj r'
def Inv.RI(I:Inv X pins σ H s)(h:aV X.K H a xs)(h':aV X.K H a ys):xs=ys:=by
 obtain⟨ai,r,⟨o,e,_,n,d⟩,_⟩:=I.tuple h;obtain⟨its',r',⟨o',e',_,n',d'⟩,_⟩:=I.tuple h';rw[e]at e';cases e';rw[d]at d';injection d' with d1 _
 have:ai=its':=by simpa using congrArg Array.toList d1
 subst this;exact r.inj r'
end
abbrev Cx.cp(X:Cx)(E:Value->Shared->Prop):Cx:={X with xe:=E}
abbrev Cx.gu(X:Cx):Cx:=X.cp λ_ _=>False
def Cx.Ok.cp{X:Cx}(ok:X.Ok)(E:Value->Shared->Prop):(X.cp E).Ok:=
 ⟨ok.mod,ok.kind,ok.glob,ok.blt,ok.above,ok.inj,ok.has,ok.cab,ok.hd,ok.frames,ok.rX,ok.A2,ok.bs,ok.iP,ok.kE,ok.rN,ok.gj,ok.mz⟩
def Cx.Ok.fC{X:Cx}{E:Value->Shared->Prop}(ok:(X.cp E).Ok):X.Ok:=
 ⟨ok.mod,ok.kind,ok.glob,ok.blt,ok.above,ok.inj,ok.has,ok.cab,ok.hd,ok.frames,ok.rX,ok.A2,ok.bs,ok.iP,ok.kE,ok.rN,ok.gj,ok.mz⟩
section
variable {X:Cx}{pins:List (Addr×Obj)}{σ:St}{H:Hp}{s:Shared}{E:Value->Shared->Prop}
def Inv.cp(I:Inv X pins σ H s)(E:Value->Shared->Prop):Inv (X.cp E) pins σ H s:=⟨I.ok.cp E,I.os,I.bare,I.base,I.loc,I.cell,I.free,I.dW,I.pin,I.ao,I.len⟩
def Inv.fC(I:Inv (X.cp E) pins σ H s):Inv X pins σ H s:=⟨I.ok.fC,I.os,I.bare,I.base,I.loc,I.cell,I.free,I.dW,I.pin,I.ao,I.len⟩
def SP.fC{D:Ends}{f:Flow}{s':Shared}(h:SP (X.cp E) pins D f s'):SP X pins D f s':=by
 cases f with
 |next=>obtain⟨σ',H',I,q⟩:=h;exact⟨σ',H',I.fC,q⟩
 |brk=>obtain⟨σ',H',I,q⟩:=h;exact⟨σ',H',I.fC,q⟩
 |cont=>obtain⟨σ',H',I,q⟩:=h;exact⟨σ',H',I.fC,q⟩
 |ret u=>obtain⟨v,σ',H',I,r,q⟩:=h;exact⟨v,σ',H',I.fC,r,q⟩
def cW.gu{st:List Stmt}{t:TS}(h:cW X.gu st t):cW X st t:=λpins s σ H D I hw=>
 wpAny_mono (h pins s σ H D (I.cp _) hw) (λ_ _ q=>q.fC) λ_ _ z=>Zu z
end
section
variable {X:Cx}{st:Stmt}{rest:List Stmt}{t u:TS}{e:Expr}{te:TE}{pos:Pos}
def aaw:TS:=λD σ H=>D.nx σ H
def pG(t u:TS):TS:=λD σ H=>t {D with nx:=u D} σ H
def a7:cW X [] aaw:=λ_ _ σ H _ I h=>wpAny_execs_nil ⟨σ,H,I,h⟩
def ba(h1:PS X st t)(h2:cW X rest u):cW X (st::rest) (pG t u):=by
 intro pins s σ H D I h;refine wpAny_execs_cons (az (h1 pins s σ H {D with nx:=u D} I h) λf s1 q=>?_);cases f with
 |next=>
  obtain⟨σ',H',I',q⟩:=q;exact h2 pins s1 σ' H' D I' q
 |ret v=>exact q
 |brk=>exact q
 |cont=>exact q
def bx(h1:PS X st t):cW X [st] t:=by
 intro pins s σ H D I h;refine wpAny_execs_cons (az (h1 pins s σ H D I h) λf s1 q=>?_);cases f with
 |next=>exact wpAny_execs_nil q
 |ret v=>exact q
 |brk=>exact q
 |cont=>exact q
def aax:TS:=λD σ H=>D.ct σ H
def Qd:PS X (.Continue pos) aax:=λ_ _ σ H _ I h=>wpAny_Continue ⟨σ,H,I,h⟩
def Inv.quiet{pins:List (Addr×Obj)}{σ:St}{H:Hp}{s:Shared}(I:Inv X pins σ H s):interactive X.env=false:=by simp[interactive,I.ok.kind]
def Ky(te:TE):TS:=λD σ H=>te σ H λ_ H1=>D.nx σ H1
def bF(he:PE X e te)(hs:swapsWith e none pos.line X.env=pure false:=by rfl):PS X (.Expr e pos) (Ky te):=by
 intro pins s σ H D I h;exact wpAny_Expr_any (az (he pins s σ H _ I h) λv s1 ⟨x,H1,I1,r1,q1⟩=>⟨σ,H1,I1,q1⟩) I.quiet hs
def Ll(te:TE):TS:=λD σ H=>te σ H D.rt
def iC(he:PE X e te):PS X (.Return (some e) pos) (Ll te):=by
 intro pins s σ H D I h;exact wpAny_Return_some (az (he pins s σ H _ I h) λv s1 ⟨x,H1,I1,r1,q1⟩=>⟨x,σ,H1,I1,r1,q1⟩)
def Lm(c:TT)(t u:TS):TS:=λD σ H=>c σ H λb H1=>if b=true then t D σ H1 else u D σ H1
def aY{c:Expr}{a b:List Stmt}{tc:TT}(hc:PT X c tc)(ha:cW X a t)(hb:cW X b u):PS X (.If c a b pos) (Lm tc t u):=by
 intro pins s σ H D I h;refine wpAny_If (az (hc pins s σ H _ I h) λd s1 ⟨H1,I1,q1⟩=>?_);cases d with
 |true=>exact ha pins s1 σ H1 D I1 q1
 |false=>exact hb pins s1 σ H1 D I1 q1
def XX:TS:=λ_ _ _=>False
def lL:PS X st XX:=λ_ _ _ _ _ _ h=>h.elim
end
abbrev TG:=V->St->Hp->(St->Hp->Prop)->Prop
abbrev mB:=List V->St->Hp->(St->Hp->Prop)->Prop
def PG(X:Cx)(target:Expr)(t:TG):Prop:=
 ∀(pins:List (Addr×Obj)) (s:Shared) (σ:St) (H:Hp) (v:V) (u:Value) (Q:St->Hp->Prop),Inv X pins σ H s->RelV v u->t v σ H Q->
  wpAny (model X.prog X.w) X.A (assign target X.env u) (λ_ s'=>∃σ' H',Inv X pins σ' H' s'/\Q σ' H') X.xe s
def r9(X:Cx)(ts:List Expr)(t:mB):Prop:=
 ∀(pins:List (Addr×Obj)) (s:Shared) (σ:St) (H:Hp) (vs:List V) (us:List Value) (Q:St->Hp->Prop),Inv X pins σ H s->Vals vs us->t vs σ H Q->
  wpAny (model X.prog X.w) X.A (assignInOrder ((assignEach ts X.env).map (·.2)) us) (λ_ s'=>∃σ' H',Inv X pins σ' H' s'/\Q σ' H') X.xe s
abbrev Au:=V->V->V->Hp->(Hp->Prop)->Prop
def Ln(X:Cx)(t:Au):Prop:=
 ∀(pins:List (Addr×Obj)) (s:Shared) (σ:St) (H:Hp) (o i v:V) (ov iv u:Value) (Q:Hp->Prop),Inv X pins σ H s->RelV o ov->RelV i iv->RelV v u->t o i v H Q->
  wpAny (model X.prog X.w) X.A (setItem ov iv u) (λ_ s'=>∃H',Inv X pins σ H' s'/\Q H') X.xe s
abbrev vd:=V->V->Hp->VK->Prop
def Me(X:Cx)(op:Operator)(t:vd):Prop:=
 ∀(pins:List (Addr×Obj)) (s:Shared) (σ:St) (H:Hp) (x y:V) (v u:Value) (Q:VK),Inv X pins σ H s->RelV x v->RelV y u->t x y H Q->
  wpAny (model X.prog X.w) X.A (inplaceOp op v u) (EP X pins σ Q) X.xe s
section
variable {X:Cx}{pos:Pos}
def iG(i:Nat):TG:=λv σ H Q=>Q (σ.set i (some v)) H
def aT{i:Nat}{x:Str}(hN:X.N.Nodup)(hi:X.N[i]?=some x)(hx:Loc X.env.scope x)(hf:X.fn x=true\/X.env.scope.names.lookup x=some .local:=by first|exact .inl rfl|exact .inr rfl|assumption):PG X (.Name x pos) (iG i):=by
 intro pins s σ H v u Q I r h;exact wpAny_assign_Name (lK I hN hi hx r (λs' I'=>⟨_,H,I',h⟩) hf)
def abw:mB:=λvs σ H Q=>vs=[]/\Q σ H
def aay(t:TG)(u:mB):mB:=λvs σ H Q=>∃v r,vs=v::r/\t v σ H λσ' H'=>u r σ' H' Q
def eJ:r9 X [] abw:=by
 intro pins s σ H vs us Q I r h;obtain⟨e,h⟩:=h;subst e;cases r;exact assignInOrder_nil ⟨σ,H,I,h⟩
def bA{e:Expr}{es:List Expr}{t:TG}{u:mB}(h1:PG X e t)(h2:r9 X es u)
  (hs:(assignEach (e::es) X.env).map (·.2)=assign e X.env::(assignEach es X.env).map (·.2):=by rfl):r9 X (e::es) (aay t u):=by
 intro pins s σ H vs us Q I r h;obtain⟨v,vr,e1,h⟩:=h;subst e1;cases r with
 |cons r rr=>
  rw[hs];refine assignInOrder_cons (az (h1 pins s σ H _ _ _ I r h) λ_ s1 ⟨σ1,H1,I1,q1⟩=>?_);exact h2 pins s1 σ1 H1 _ _ Q I1 rr q1
def Lo(K:PySem.W.Frag)(n:Nat)(t:mB):TG:=λv σ H Q=>∃a xs,v=.ref a/\aV K H a xs/\xs.length=n/\t xs σ H Q
def eM{es:List Expr}{k:Nat}{t:mB}{n:Nat}(hc:X.calm=true)(h:r9 X es t)
  (hn:(assignEach es X.env).length=n:=by rfl)(bz:(assignEach es X.env).findIdx? (·.1)=none:=by rfl):PG X (.Tuple es k pos) (Lo X.K n t):=by
 intro pins s σ H v u Q I r hw;obtain⟨a,xs,e1,hq,hl,hw⟩:=hw;subst e1;cases r;obtain⟨ai,rv,ht,hz⟩:=I.tuple hq;refine assign_Tuple_tuple (I.ok.hd hc) ht (by simp[hn, <-hl,rv.length]) bz λh' hx=>?_;have I1:Inv X pins σ H {s with heap:=h'}:=I.kept (t':=s.toks) λb o e=>hx b o (Zn (Zi e)) e;exact h pins _ σ H xs _ Q I1 (by simpa using rv) hw
def abx(to ti:TE)(t:Au):TG:=λv σ H Q=>to σ H λo H1=>ti σ H1 λi H2=>t o i v H2 λH3=>Q σ H3
def zo{o i:Expr}{to ti:TE}{t:Au}(ho:PE X o to)(hi:PE X i ti)(hs:Ln X t)
  (ha:∀v,assign (.Subscript o i pos) X.env v=(do
   let ov<-holding [v] (eval o X.env)
   let iv<-holding [v,ov] (eval i X.env)
   standAt pos
   holding [v,ov,iv] (setItem ov iv v)
   release [v,ov,iv] []):=by intro _;rfl):PG X (.Subscript o i pos) (abx to ti t):=by
 intro pins s σ H v u Q I r h;rw[ha];refine wpAny_bind (wpAny_holding (az (ho pins s σ H _ I h) λov s1 ⟨x,H1,I1,r1,q1⟩=>?_));refine wpAny_bind (wpAny_holding (az (hi pins s1 σ H1 _ I1 q1) λiv s2 ⟨y,H2,I2,r2,q2⟩=>?_));refine wpAny_bind (wpAny_standAt (wpAny_bind (wpAny_holding (az (hs pins s2 σ H2 x y v ov iv u _ I2 r1 r2 r q2) λ_ s3 ⟨H3,I3,q3⟩=>?_))));exact wpAny_release ⟨σ,H3,I3,q3⟩
def l8(te:TE)(g:TG):TS:=λD σ H=>te σ H λx H1=>g x σ H1 D.nx
def gE{tg e:Expr}{te:TE}{g:TG}(he:PE X e te)(hg:PG X tg g)(hs:swapsWithSole [tg] e pos.line X.env=pure false:=by rfl)(hw:swappedStores [tg] e X.env=pure none:=by rfl)
  (h1:(assignEach [tg] X.env).map (·.2)=[assign tg X.env]:=by rfl):PS X (.Assign [tg] e pos) (l8 te g):=by
 intro pins s σ H D I h;refine wpAny_Assign_stores (az (he pins s σ H _ I h) λv s1 ⟨x,H1,I1,r1,q1⟩=>?_) hs hw;rw[h1];exact az (hg pins s1 σ H1 x v _ I1 r1 q1) λ_ s2 q=>q
def bI{i:Nat}{x:Str}{e:Expr}{te:TE}{pos':Pos}(hN:X.N.Nodup)(hi:X.N[i]?=some x)(hx:Loc X.env.scope x)(he:PE X e te)(hs:swapsWith e (some (.Name x pos')) pos.line X.env=pure false:=by rfl)(hf:X.fn x=true\/X.env.scope.names.lookup x=some .local:=by first|exact .inl rfl|exact .inr rfl|assumption):
  PS X (.Assign [.Name x pos'] e pos) (l8 te (iG i)):=by
 intro pins s σ H D I h;refine wpAny_Assign_Name (az (he pins s σ H _ I h) λv s1 ⟨y,H1,I1,r1,q1⟩=>?_) hs;exact lK I1 hN hi hx r1 (λs2 I2=>⟨_,H1,I2,q1⟩) hf
def aby(i:Nat)(te:TE)(ti:vd):TS:=λD σ H=>∃x,σ[i]?=some (some x)/\te σ H λy H1=>ti x y H1 λz H2=>D.nx (σ.set i (some z)) H2
def XY{i:Nat}{x:Str}{e:Expr}{te:TE}{op:Operator}{ti:vd}{pos':Pos}(hN:X.N.Nodup)(hi:X.N[i]?=some x)(hx:Loc X.env.scope x)(he:PE X e te)(ho:Me X op ti)(hf:X.fn x=true\/X.env.scope.names.lookup x=some .local:=by first|exact .inl rfl|exact .inr rfl|assumption):
  PS X (.AugAssign (.Name x pos') op e pos) (aby i te ti):=by
 intro pins s σ H D I h;obtain⟨v,e1,h⟩:=h;obtain⟨m,hn,hl⟩:=I.loc;have cP:u9 X.env.scope x:=by rcases hx with k|k;exact .inl k;exact .inr (.inl k)
 obtain⟨u,r,l⟩:=hl i x v hi e1 cP;refine wpAny_AugAssign_Name ?_
 have go:wpAny (model X.prog X.w) X.A (eval e X.env) (λw s₂=>wpAny (model X.prog X.w) X.A (inplaceOp op u w) (λr s₃=>wpAny (model X.prog X.w) X.A (storeName X.env x r) (λ_=>SP X pins D .next) X.xe s₃) X.xe s₂) X.xe s:=by
  refine az (he pins s σ H _ I h) λw s1 ⟨y,H1,I1,r1,q1⟩=>?_;refine az (ho pins s1 σ H1 v y u w _ I1 r r1 q1) λz s2 ⟨zv,H2,I2,r2,q2⟩=>?_;exact lK I2 hN hi hx r2 (λs3 I3=>⟨_,H2,I3,q2⟩) hf
 rcases l with⟨hk,hm⟩|⟨hk,c,hc,iE⟩
 ·exact wpAny_loadName_local I.ok.kind hk hn hm go
 ·rcases hk with hk|hk
  ·exact wpAny_loadName_cell I.ok.kind hk hc iE go
  ·rcases hx with k|k
   ·have:X.env.scope.names.lookup x=some .free:=hk;rw[k]at this;cases this
   ·have:X.env.scope.names.lookup x=some .free:=hk;rw[k]at this;cases this
def ipI(f:Int->Int->Int):vd:=λx y H Q=>∃i j,x=.int i/\y=.int j/\Q (.int (f i j)) H
def XZ:Me X .Add (ipI λi j=>i+j):=by
 intro pins s σ H x y v u Q I r1 r2 h;obtain⟨i,j,e1,e2,q⟩:=h;subst e1;subst e2;obtain⟨t,rfl⟩:=r1;obtain⟨t',rfl⟩:=r2;exact iadd_int ⟨.int _,H,I.tok _,⟨_,rfl⟩,q⟩
end
section
variable {X:Cx}{pos:Pos}
def Jy(c:TT)(tb:TS):TS:=λD σ H=>∃W:Nat->St->Hp->Prop,(∃m,W m σ H)/\∀m σ H,W m σ H->
 c σ H λb H1=>if b=true then∃N:St->Hp->Prop,(∀σ' H',N σ' H'->∃m',m'<m/\W m' σ' H')/\tb {D with nx:=N,ct:=N,bk:=D.nx} σ H1 else D.nx σ H1
def tZ{c:Expr}{body:List Stmt}{tc:TT}{tb:TS}(hp:PassesOwn (model X.prog X.w) X.A X.env X.xe)(hc:PT X c tc)(hb:cW X body tb):PS X (.While c body [] pos) (Jy tc tb):=by
 intro pins s σ H D I h;obtain⟨W,⟨m0,w0⟩,turn⟩:=h;refine wpAny_While (codeAny_whileLoop (λn s'=>∃σ' H',Inv X pins σ' H' s'/\W n σ' H') ?_ m0 ⟨σ,H,I,w0⟩);rintro n s1 ⟨σ1,H1,I1,w1⟩;refine wpAny_passesOwn hp (az (hc pins s1 σ1 H1 _ I1 (turn n σ1 H1 w1)) λb s2 ⟨H2,I2,q2⟩=>?_);cases b with
 |true=>
  obtain⟨N,hN,q2⟩:=q2;rw[if_pos rfl];refine wpAny_passesOwn hp (az (hb pins s2 σ1 H2 _ I2 q2) λf s3 q3=>?_);cases f with
  |next=>
   obtain⟨σ3,H3,I3,n3⟩:=q3;obtain⟨m',hm,w3⟩:=hN σ3 H3 n3;exact⟨m',hm,σ3,H3,I3,w3⟩
  |cont=>
   obtain⟨σ3,H3,I3,n3⟩:=q3;obtain⟨m',hm,w3⟩:=hN σ3 H3 n3;exact⟨m',hm,σ3,H3,I3,w3⟩
  |brk=>exact q3
  |ret v=>exact q3
 |false=>
  rw[if_neg Zk];exact wpAny_execs_nil ⟨σ1,H2,I2,q2⟩
end
structure It where
 go:Nat->Hp->Prop
 fM:Nat->Hp->V->Hp->Prop
 stop:Nat->Hp->Prop
def iK(X:Cx)(pins:List (Addr×Obj))(H:Hp)(b:Addr):Prop:=
 H b=none/\b≠X.env.locals/\b∉X.fs/\(b∈X.ex\/X.s₀.heap.objs.size<=b)/\(∀x c,X.env.cells.lookup x=some c->c≠b)/\∀p∈X.pn++pins,p.1≠b
def Inv.rP{X:Cx}{pins:List (Addr×Obj)}{σ:St}{H H':Hp}{s:Shared}{b:Addr}(I:Inv X pins σ H s)(hb:s.heap.objs.size<=b)(hn:H' b=none):iK X pins H' b:=by
 refine⟨hn,Nat.ne_of_gt (Zv I.lt hb),I.abq hb,.inr (ZQ I.sz hb),λx c e z=>?_,λp hp z=>?_⟩
 ·obtain⟨v,q⟩:=I.cell x c e;exact absurd (Zv q.lt (by rw[z];exact hb)) (Z2 _)
 ·exact absurd (Zv (Zi (I.pin p hp).1) (by rw[z];exact hb)) (Z2 _)
structure Turn(P:Program)(w:World)(K:PySem.W.Frag)(tg:Expr)(J:It)(fp:List Addr)(it:Addr)(tn:Nat->Heap->Prop):Prop where
 mem:it∈fp
 obj:∀i h,tn i h->∀b∈fp,∃o,h.get? b=some o/\∀v,o.data≠.cell v
 keep:∀i h h',tn i h->(∀b∈fp,∀o,h.get? b=some o->h'.get? b=some o)->tn i h'
 item:∀(X:Cx),X.prog=P->X.w=w->X.K=K->X.calm=true->∀(i:Nat) (pins:List (Addr×Obj)) (s:Shared) (σ:St) (H:Hp) (E:Value->Shared->Prop),Inv X pins σ H s->(∀b∈fp,iK X pins H b)->tn i s.heap->J.go i H->
  wpAny (model P w) X.A (pyNext (.ref it)) (λr s1=>∃u,r=some u/\
   wpAny (model P w) X.A (letOwnedTupleGo tg (.ref it) u) (λ_ s2=>∃x H',Inv X pins σ H' s2/\RelV x u/\J.fM i H x H'/\tn (i+1) s2.heap/\∀b∈fp,H' b=none) E s1) E s
 done:∀(X:Cx),X.prog=P->X.w=w->X.K=K->X.calm=true->∀(i:Nat) (pins:List (Addr×Obj)) (s:Shared) (σ:St) (H:Hp) (E:Value->Shared->Prop),Inv X pins σ H s->(∀b∈fp,iK X pins H b)->tn i s.heap->J.stop i H->
  wpAny (model P w) X.A (pyNext (.ref it)) (λr s1=>r=none/\Inv X pins σ H s1) E s
 self:∀(A:Around) (i:Nat) (s:Shared) (Q:Value->Shared->Prop) (E:Value->Shared->Prop),tn i s.heap->Q (.ref it) s->wpAny (model P w) A (pyIter (.ref it)) Q E s
abbrev TI:=St->Hp->(It->Hp->Prop)->Prop
def se(X:Cx)(pins:List (Addr×Obj))(σ:St)(tg:Expr)(R:It->Hp->Prop)(pP:Value)(s2:Shared):Prop:=
 ∃(it:Addr) (fp:List Addr) (tn:Nat->Heap->Prop) (J:It) (H':Hp),pP=.ref it/\Inv X pins σ H' s2/\Turn X.prog X.w X.K tg J fp it tn/\tn 0 s2.heap/\(∀b∈fp,iK X pins H' b)/\R J H'
def PI(X:Cx)(tg iter:Expr)(wi:TI):Prop:=
 ∀(pins:List (Addr×Obj)) (s:Shared) (σ:St) (H:Hp) (R:It->Hp->Prop),Inv X pins σ H s->wi σ H R->
  wpAny (model X.prog X.w) X.A (eval iter X.env) (λv s1=>wpAny (model X.prog X.w) X.A (pyIter v) (se X pins σ tg R) X.xe s1) X.xe s
def zW{M:Model}{A:Around}{E:Value->Shared->Prop}{s:Shared}{tg:Expr}{it:Addr}{u:Value}{o:Obj}{n:String}{vs:Array Value}{Q:Unit->Shared->Prop}(ho:s.heap.get? it=some o)(hc:o.cls=.type n)(hd:o.data=.fields vs)
  (hn:["enumerate","zip","dict_itemiterator","dict_reverseitemiterator","odict_iterator","itertools.zip_longest","itertools.pairwise"].contains n=false)(hQ:Q () s):wpAny M A (letOwnedTupleGo tg (.ref it) u) Q E s:=by
 unfold letOwnedTupleGo
 cases tg<;>first
  |exact ZV hQ
  |(cases u<;>first
   |exact ZV hQ
   |(refine wpAny_bind (wpAny_load ho ?_)
     rw[hc,hd];show wpAny M A (if(["enumerate","zip","dict_itemiterator","dict_reverseitemiterator","odict_iterator","itertools.zip_longest","itertools.pairwise"].contains n&&vs[0]? ==some (rawInt _))=true then _ else _) Q E s;rw[if_neg (by intro h;rw[hn,Bool.false_and]at h;cases h)];exact ZV hQ))
def dF(K:PySem.W.Frag)(a:Addr):It:=
 ⟨λi H=>∃xs x,ah K H a xs/\xs[i]?=some x,λi H x H'=>H'=H/\∀xs,ah K H a xs->xs[i]?=some x,λi H=>∃xs,ah K H a xs/\xs.length<=i⟩
def sf(K:PySem.W.Frag)(a:Addr):It:=
 ⟨λi H=>∃xs x,aV K H a xs/\xs[i]?=some x,λi H x H'=>H'=H/\∀xs,aV K H a xs->xs[i]?=some x,λi H=>∃xs,aV K H a xs/\xs.length<=i⟩
def fN(lo:Int)(n:Nat):It:=⟨λi _=>i<n,λi H x H'=>H'=H/\x=.int (lo+i),λi _=>n<=i⟩
def RJ{P:Program}{w:World}{K:PySem.W.Frag}{tg:Expr}(a it:Addr):Turn P w K tg (dF K a) [it] it (λi h=>h.IsListIter it a i) where
 mem:=by simp
 obj:=λi h st b hb=>by
  have e:b=it:=by simpa using hb
  subst e;obtain⟨o,e,c,d⟩:=st;exact⟨o,e,λv z=>by rw[d]at z;cases z⟩
 keep:=λi h h' st k=>st.at λo e=>k it (by simp) o e
 item:=by
  intro X hP hw hK hc i pins s σ H E I hf st hg;subst hP hw hK;obtain⟨xs,x,hq,hx⟩:=hg;obtain⟨ai,rv,p,hz⟩:=I.list hq;obtain⟨u,hu,ru⟩:=rv.get hx;obtain⟨f0,f1,f2,f3,f4,f5⟩:=hf it (by simp);refine wpAny_pyNext_list_item st p.isList (x:=u) (by simpa using hu) λh' aS sb=>?_;have I1:Inv X pins σ H {s with heap:=h'}:=I.turned (t':=s.toks) (λb o hb e=>(sb.2 b hb).trans e) f0 f1 f3 f4 f5;obtain⟨o,e,c,d⟩:=id aS;exact⟨u,rfl,zW (s:={s with heap:=h'}) e c d (by decide) ⟨x,H,I1,ru,⟨rfl,λys hy=>by rw[I.Gx hy hq];exact hx⟩,aS,λb hb=>(hf b hb).1⟩⟩
 done:=by
  intro X hP hw hK hc i pins s σ H E I hf st hg;subst hP hw hK;obtain⟨xs,hq,hx⟩:=hg;obtain⟨ai,rv,p,hz⟩:=I.list hq;obtain⟨f0,f1,f2,f3,f4,f5⟩:=hf it (by simp);have hl:=rv.length;exact wpAny_pyNext_list_end (I.ok.hd hc) st p.isList (by simp;omega) λh' eb=>⟨rfl,I.turned (t':=s.toks) (λb o hb e=>eb b o hb e) f0 f1 f3 f4 f5⟩
 self:=λ_ _ _ _ _ st h=>wpAny_pyIter_listiter st h
def QG{P:Program}{w:World}{K:PySem.W.Frag}{tg:Expr}(a it:Addr):Turn P w K tg (sf K a) [it] it (λi h=>h.IsTupleIter it a i) where
 mem:=by simp
 obj:=λi h st b hb=>by
  have e:b=it:=by simpa using hb
  subst e;obtain⟨o,e,c,d⟩:=st;exact⟨o,e,λv z=>by rw[d]at z;cases z⟩
 keep:=λi h h' st k=>st.at λo e=>k it (by simp) o e
 item:=by
  intro X hP hw hK hc i pins s σ H E I hf st hg;subst hP hw hK;obtain⟨xs,x,hq,hx⟩:=hg;obtain⟨ai,rv,p,hz⟩:=I.tuple hq;obtain⟨u,hu,ru⟩:=rv.get hx;obtain⟨f0,f1,f2,f3,f4,f5⟩:=hf it (by simp);refine wpAny_pyNext_tuple_item st (show s.heap.IsTuple a ai.toArray from p) (x:=u) (by simpa using hu) λh' aS sb=>?_;have I1:Inv X pins σ H {s with heap:=h'}:=I.turned (t':=s.toks) (λb o hb e=>(sb.2 b hb).trans e) f0 f1 f3 f4 f5;obtain⟨o,e,c,d⟩:=id aS;exact⟨u,rfl,zW (s:={s with heap:=h'}) e c d (by decide) ⟨x,H,I1,ru,⟨rfl,λys hy=>by rw[I.RI hy hq];exact hx⟩,aS,λb hb=>(hf b hb).1⟩⟩
 done:=by
  intro X hP hw hK hc i pins s σ H E I hf st hg;subst hP hw hK;obtain⟨xs,hq,hx⟩:=hg;obtain⟨ai,rv,p,hz⟩:=I.tuple hq;obtain⟨f0,f1,f2,f3,f4,f5⟩:=hf it (by simp);have hl:=rv.length;exact wpAny_pyNext_tuple_end (I.ok.hd hc) st (show s.heap.IsTuple a ai.toArray from p) (by simp;omega) λh' eb=>⟨rfl,I.turned (t':=s.toks) (λb o hb e=>eb b o hb e) f0 f1 f3 f4 f5⟩
 self:=λ_ _ _ _ _ st h=>wpAny_pyIter_tupleiter st h
def QH{P:Program}{w:World}{K:PySem.W.Frag}{tg:Expr}(it:Addr)(lo:Int)(n:Nat):Turn P w K tg (fN lo n) [it] it (λi h=>IsRangeIter h it (lo+(i:Nat)*1) ((n:Int)-(i:Nat)) 1) where
 mem:=by simp
 obj:=λi h st b hb=>by
  have e:b=it:=by simpa using hb
  subst e
  exact⟨_,st,λv z=>by
   have z':Data.fields _=Data.cell v:=z;cases z'⟩
 keep:=λi h h' st k=>k it (by simp) _ st
 item:=by
  intro X hP hw hK hc i pins s σ H E I hf st hg;subst hP hw hK;obtain⟨f0,f1,f2,f3,f4,f5⟩:=hf it (by simp);have W:=Walks.range (prog:=X.prog) (w:=X.w) (I.ok.hd hc) it lo 1 n;refine W.item i s _ _ hg st λv h' tk hv aS kk=>?_;obtain⟨t,rfl⟩:=hv;have I1:Inv X pins σ H {s with heap:=h',toks:=tk}:=I.turned (λb o hb e=>kk b o (by simpa using hb) e) f0 f1 f3 f4 f5;refine⟨_,rfl,zW (s:={s with heap:=h',toks:=tk}) (n:="range_iterator") aS rfl rfl (by decide) ⟨.int (lo+i),H,I1,⟨t,?_⟩,⟨rfl,rfl⟩,aS,λb hb=>(hf b hb).1⟩⟩;rw[Int.mul_one]
 done:=by
  intro X hP hw hK hc i pins s σ H E I hf st hg;subst hP hw hK;obtain⟨f0,f1,f2,f3,f4,f5⟩:=hf it (by simp);exact wpAny_pyNext_range_end (I.ok.hd hc) st (by have:n<=i:=hg;omega) λh' eb=>⟨rfl,I.turned (t':=s.toks) (λb o hb e=>eb b o hb e) f0 f1 f3 f4 f5⟩
 self:=λ_ _ _ _ _ st h=>wpAny_pyIter_rangeiter st h
section
variable {X:Cx}{tg:Expr}
def Kz(K:PySem.W.Frag)(tl:TE):TI:=λσ H R=>tl σ H λx H1=>∃a,x=.ref a/\(∃xs,ah K H1 a xs)/\R (dF K a) H1
def Av(K:PySem.W.Frag)(tl:TE):TI:=λσ H R=>tl σ H λx H1=>∃a,x=.ref a/\(∃xs,aV K H1 a xs)/\R (sf K a) H1
def bW{l:Expr}{tl:TE}(hl:PE X l tl):PI X tg l (Kz X.K tl):=by
 intro pins s σ H R I h;refine az (hl pins s σ H _ I h) λv s1 ⟨x,H1,I1,r1,q1⟩=>?_;obtain⟨a,e,⟨xs,hq⟩,q⟩:=q1;subst e;cases r1;obtain⟨ai,rv,p,hz⟩:=I1.list hq;refine wpAny_pyIter_list p.isList ?_;refine⟨s1.heap.objs.size,[s1.heap.objs.size],_,_,H1,rfl,I1.kept (t':=s1.toks) λb o e=>Y8 _ e,RJ a _,⟨_,Zq _ rfl,rfl,rfl⟩,λb hb=>?_,q⟩;have e:b=s1.heap.objs.size:=by simpa using hb
 subst e;exact I1.rP (Y3 _) (I1.ao.fresh (Y3 _))
def zp{l:Expr}{tl:TE}(hl:PE X l tl):PI X tg l (Av X.K tl):=by
 intro pins s σ H R I h;refine az (hl pins s σ H _ I h) λv s1 ⟨x,H1,I1,r1,q1⟩=>?_;obtain⟨a,e,⟨xs,hq⟩,q⟩:=q1;subst e;cases r1;obtain⟨ai,rv,p,hz⟩:=I1.tuple hq;refine wpAny_pyIter_tuple (show s1.heap.IsTuple a ai.toArray from p) ?_;refine⟨s1.heap.objs.size,[s1.heap.objs.size],_,_,H1,rfl,I1.kept (t':=s1.toks) λb o e=>Y8 _ e,QG a _,⟨_,Zq _ rfl,rfl,rfl⟩,λb hb=>?_,q⟩;have e:b=s1.heap.objs.size:=by simpa using hb
 subst e;exact I1.rP (Y3 _) (I1.ao.fresh (Y3 _))
def Gy{pins:List (Addr×Obj)}{σ:St}{H:Hp}{s:Shared}{R:It->Hp->Prop}{E:Value->Shared->Prop}{lo hi:Int}{t u v:Tok}{tk:Nat}(I:Inv X pins σ H s)(h1: -(2^ 62)<=lo)(h2:lo<2^ 62)(h3: -(2^ 62)<=hi)(h4:hi<2^ 62)
  (q:R (fN lo (hi-lo).toNat) H):wpAny (model X.prog X.w) X.A (pyIter (.ref s.heap.objs.size)) (se X pins σ tg R) E {s with heap:=s.heap.push {cls:=.type "range",data:=.fields #[.int lo t,.int hi u,.int 1 v]},toks:=tk}:=by
 refine wpAny_pyIter_range (IsRange.new ..) (small_one h1 h2 h3 h4) ?_;have I1:Inv X pins σ H {s with heap:=s.heap.push {cls:=.type "range",data:=.fields #[.int lo t,.int hi u,.int 1 v]},toks:=tk}:=I.kept λb o e=>Y8 _ e
 refine⟨(s.heap.push {cls:=.type "range",data:=.fields #[.int lo t,.int hi u,.int 1 v]}).objs.size,[(s.heap.push {cls:=.type "range",data:=.fields #[.int lo t,.int hi u,.int 1 v]}).objs.size],_,_,H,rfl,
  I1.kept (t':=tk) λb o e=>Y8 _ e,QH _ lo (hi-lo).toNat,?_,λb hb=>?_,q⟩
 ·have e1:lo+((0:Nat):Int)*1=lo:=by simp
  have e2:(((hi-lo).toNat:Nat):Int)-((0:Nat):Int)=Builtin.Range.rangeSize lo hi 1:=by rw[rangeSize_one];split<;>omega
  show IsRangeIter _ _ (lo+((0:Nat):Int)*1) ((((hi-lo).toNat:Nat):Int)-((0:Nat):Int)) 1;rw[e1,e2];exact Zq _ rfl
 ·have e:b=(s.heap.push {cls:=.type "range",data:=.fields #[.int lo t,.int hi u,.int 1 v]}).objs.size:=by simpa using hb
  subst e;exact I1.rP (Y3 _) (I1.ao.fresh (Y3 _))
def KA(ta:TA):TI:=λσ H R=>ta σ H λvs H1=>∃j:Int,vs=[.int j]/\ -(2^ 62)<=j/\j<2^ 62/\R (fN 0 j.toNat) H1
def aaz(ta:TA):TI:=λσ H R=>ta σ H λvs H1=>∃i j:Int,vs=[.int i,.int j]/\(-(2^ 62)<=i/\i<2^ 62/\ -(2^ 62)<=j/\j<2^ 62)/\R (fN i (j-i).toNat) H1
def gP{a:Expr}{ta:TA}{p pos:Pos}(hg:Gl X "range")(hm:X.mg "range"=none)(ha:PA X [a] ta)(hs:starEach [a] X.env=[(false,eval a X.env)]:=by rfl):PI X tg (.Call (.Name "range" p) [a] [] pos) (KA ta):=by
 intro pins s σ H R I h;refine Call_ (pw I hg hm boot_range (PyProof.Rows.callWith_type1 (az (ha pos pins s σ H _ I h) λus s1 ⟨vs,H1,I1,r1,q1⟩=>?_) hs rfl));obtain⟨j,e,q1,q2,q⟩:=q1;subst e;cases r1 with
 |cons r rr=>
  cases rr;obtain⟨t,rfl⟩:=r;exact call_range_1 (Gy I1 (by omega) (by omega) q1 q2 (by simpa using q))
def RL{a b:Expr}{ta:TA}{p pos:Pos}(hg:Gl X "range")(hm:X.mg "range"=none)(ha:PA X [a,b] ta)(hs:starEach [a,b] X.env=[(false,eval a X.env),(false,eval b X.env)]:=by rfl)(kN:starEach [b] X.env=[(false,eval b X.env)]:=by rfl):
  PI X tg (.Call (.Name "range" p) [a,b] [] pos) (aaz ta):=by
 intro pins s σ H R I h;refine Call_ (pw I hg hm boot_range (PyProof.Rows.callWith_type1 (az (ha pos pins s σ H _ I h) λus s1 ⟨vs,H1,I1,r1,q1⟩=>?_) (by rw[hs,kN]) (by rw[kN];rfl)));obtain⟨i,j,e,⟨q1,q2,q3,q4⟩,q⟩:=q1;subst e;cases r1 with
 |cons r rr=>
  cases rr with
  |cons r' rr=>
   cases rr;obtain⟨t,rfl⟩:=r;obtain⟨t',rfl⟩:=r';exact call_range_2 (Gy I1 q1 q2 q3 q4 q)
def abz(wi:TI)(g:TG)(tb:TS):TS:=λD σ H=>wi σ H λJ H1=>∃W:Nat->Nat->St->Hp->Prop,(∃m,W 0 m σ H1)/\∀i m σ H,W i m σ H->
 (J.stop i H/\D.nx σ H)\/(J.go i H/\∃N:St->Hp->Prop,(∀σ' H',N σ' H'->∃m',m'<m/\W (i+1) m' σ' H')/\∀x H',J.fM i H x H'->g x σ H' λσ2 H2=>tb {D with nx:=N,ct:=N,bk:=D.nx} σ2 H2)
def jP(fp:List Addr)(h:Heap):List (Addr×Obj):=fp.filterMap λb=>(h.get? b).map λo=>(b,o)
def iu{fp:List Addr}{h:Heap}{b:Addr}{o:Obj}(hb:b∈fp)(e:h.get? b=some o):(b,o)∈jP fp h:=List.mem_filterMap.mpr ⟨b,hb,by rw[e];rfl⟩
def RM{fp:List Addr}{h:Heap}{p:Addr×Obj}(hp:p∈jP fp h):p.1∈fp/\h.get? p.1=some p.2:=by
 obtain⟨b,hb,e⟩:=List.mem_filterMap.mp hp;cases q:h.get? b with
 |none=>rw[q]at e;cases e
 |some o=>
  rw[q]at e;have e':(b,o)=p:=Zg e;subst e';exact⟨hb,q⟩
def Inv.pinned{pins:List (Addr×Obj)}{σ:St}{H:Hp}{s:Shared}{fp:List Addr}(I:Inv X pins σ H s)(hf:∀b∈fp,iK X pins H b)(ho:∀b∈fp,∃o,s.heap.get? b=some o/\∀v,o.data≠.cell v):Inv X (pins++jP fp s.heap) σ H s:=
 I.HU λp hp=>(Y7.mp hp).elim (λz=>I.pin p (Zb _ z)) λz=>by
  obtain⟨hb,e⟩:=RM z;obtain⟨f0,f1,f2,_⟩:=hf p.1 hb;obtain⟨o,e',d⟩:=ho p.1 hb;rw[e]at e';cases e';exact⟨e,f0,f1,f2,d⟩
def Inv.kg{pins pl:List (Addr×Obj)}{σ:St}{H:Hp}{s:Shared}(I:Inv X (pins++pl) σ H s):Inv X pins σ H s:=I.HU λp hp=>I.pin p (Zb _ (Zc _ hp))
def cb{iter:Expr}{body:List Stmt}{wi:TI}{g:TG}{tb:TS}{pos:Pos}(hp:PassesOwn (model X.prog X.w) X.A X.env X.xe)(hc:X.calm=true)(hi:PI X tg iter wi)(hg:PG X tg g)(hb:cW X body tb)
  (hs:∀x,foldedSetIterable iter X.env x=pure x:=by intro _;rfl):PS X (.For tg iter body [] pos) (abz wi g tb):=by
 intro pins s σ H D I h;refine wpAny_For (az (hi pins s σ H _ I h) λv s1 h1=>az h1 λpP s2 h2=>?_) hs;obtain⟨it,fp,tn,J,H2,e,I2,T,g7,f2,W,⟨m0,w0⟩,turn⟩:=h2;subst e;have Aw:∀{H':Hp},(∀b∈fp,H' b=none)->∀b∈fp,iK X pins H' b:=λhn b hb=>⟨hn b hb,(f2 b hb).2⟩;refine codeAny_forLoop_any (λn s'=>∃i σ' H',Inv X pins σ' H' s'/\tn i s'.heap/\(∀b∈fp,H' b=none)/\W i n σ' H') ?_ m0 ⟨0,σ,H2,I2,g7,λb hb=>(f2 b hb).1,w0⟩;rintro n s3 ⟨i,σ3,H3,I3,fO,cX,w3⟩;rcases turn i n σ3 H3 w3 with⟨stop,qn⟩|⟨go,N,hN,step⟩
 ·refine wpAny_passesOwn hp (az (T.done X rfl rfl rfl hc i pins s3 σ3 H3 X.xe I3 (Aw cX) fO stop) λr s4 ⟨hr,I4⟩=>?_);subst hr;exact wpAny_execs_nil ⟨σ3,H3,I4,qn⟩
 ·refine wpAny_passesOwn hp (az (T.item X rfl rfl rfl hc i pins s3 σ3 H3 X.xe I3 (Aw cX) fO go) λr s4 ⟨u,hr,h4⟩=>?_);subst hr;refine wpAny_passesOwn hp (az h4 λ_ s5 ⟨x,H5,I5,r5,y5,dJ,kO⟩=>?_);have kP:=I5.pinned (Aw kO) (T.obj _ _ dJ);refine wpAny_passesOwn hp (az (hg _ s5 σ3 H5 x u _ kP r5 (step x H5 y5)) λ_ s6 ⟨σ6,H6,I6,q6⟩=>?_);refine wpAny_passesOwn hp (az (hb _ s6 σ6 H6 _ I6 q6) λf s7 q7=>?_)
  have again:∀{σ7:St}{H7:Hp},Inv X (pins++jP fp s5.heap) σ7 H7 s7->N σ7 H7->∃m,m<n/\∃i σ' H',Inv X pins σ' H' s7/\tn i s7.heap/\(∀b∈fp,H' b=none)/\W i m σ' H':=λ{σ7 H7} I7 n7=>by
   obtain⟨m',hm,w7⟩:=hN σ7 H7 n7;refine⟨m',hm,i+1,σ7,H7,I7.kg,T.keep _ _ _ dJ λb hb o e=>(I7.pin (b,o) (Zb _ (Zb _ (iu hb e)))).1,λb hb=>?_,w7⟩;obtain⟨o,e,d⟩:=T.obj _ _ dJ b hb;exact(I7.pin (b,o) (Zb _ (Zb _ (iu hb e)))).2.1
  cases f with
  |next=>obtain⟨σ7,H7,I7,n7⟩:=q7;exact again I7 n7
  |cont=>obtain⟨σ7,H7,I7,n7⟩:=q7;exact again I7 n7
  |brk=>obtain⟨σ7,H7,I7,q7⟩:=q7;exact⟨σ7,H7,I7.kg,q7⟩
  |ret v=>obtain⟨x7,σ7,H7,I7,r7,q7⟩:=q7;exact⟨x7,σ7,H7,I7.kg,r7,q7⟩
end
def dS{K:PySem.W.Frag}{a:Addr}{xs:List V}{g:TG}{tb:TS}{D:Ends}{σ:St}{H:Hp}(Pv:Nat->St->Hp->Prop)(h0:Pv 0 σ H)(hl:∀i σ H,i<=xs.length->Pv i σ H->ah K H a xs)
  (hs:∀i x σ H,xs[i]?=some x->Pv i σ H->g x σ H λσ2 H2=>tb {D with nx:=Pv (i+1),ct:=Pv (i+1),bk:=D.nx} σ2 H2)(hd:∀σ H,Pv xs.length σ H->D.nx σ H):
  ∃W:Nat->Nat->St->Hp->Prop,(∃m,W 0 m σ H)/\∀i m σ H,W i m σ H->
   ((dF K a).stop i H/\D.nx σ H)\/((dF K a).go i H/\∃N:St->Hp->Prop,(∀σ' H',N σ' H'->∃m',m'<m/\W (i+1) m' σ' H')/\∀x H',(dF K a).fM i H x H'->g x σ H' λσ2 H2=>tb {D with nx:=N,ct:=N,bk:=D.nx} σ2 H2):=by
 refine⟨λi m σ H=>m=xs.length-i/\i<=xs.length/\Pv i σ H,⟨xs.length,by simp,Zp _,h0⟩,?_⟩;rintro i m σ H ⟨rfl,hi,p⟩;have q:=hl i σ H hi p;by_cases aQ:i<xs.length
 ·refine .inr ⟨⟨xs,xs[i],q,by simp[aQ]⟩,Pv (i+1),λσ' H' p'=>⟨xs.length-(i+1),by omega,rfl,aQ,p'⟩,λx H' y=>?_⟩;obtain⟨e,y⟩:=y;subst e;exact hs i x σ _ (y xs q) p
 ·have e:i=xs.length:=by omega
  subst e;exact .inl ⟨⟨xs,q,Y3 _⟩,hd σ H p⟩
def HV{K:PySem.W.Frag}{a:Addr}{xs:List V}{g:TG}{tb:TS}{D:Ends}{σ:St}{H:Hp}(Pv:Nat->St->Hp->Prop)(h0:Pv 0 σ H)(hl:∀i σ H,i<=xs.length->Pv i σ H->aV K H a xs)
  (hs:∀i x σ H,xs[i]?=some x->Pv i σ H->g x σ H λσ2 H2=>tb {D with nx:=Pv (i+1),ct:=Pv (i+1),bk:=D.nx} σ2 H2)(hd:∀σ H,Pv xs.length σ H->D.nx σ H):
  ∃W:Nat->Nat->St->Hp->Prop,(∃m,W 0 m σ H)/\∀i m σ H,W i m σ H->
   ((sf K a).stop i H/\D.nx σ H)\/((sf K a).go i H/\∃N:St->Hp->Prop,(∀σ' H',N σ' H'->∃m',m'<m/\W (i+1) m' σ' H')/\∀x H',(sf K a).fM i H x H'->g x σ H' λσ2 H2=>tb {D with nx:=N,ct:=N,bk:=D.nx} σ2 H2):=by
 refine⟨λi m σ H=>m=xs.length-i/\i<=xs.length/\Pv i σ H,⟨xs.length,by simp,Zp _,h0⟩,?_⟩;rintro i m σ H ⟨rfl,hi,p⟩;have q:=hl i σ H hi p;by_cases aQ:i<xs.length
 ·refine .inr ⟨⟨xs,xs[i],q,by simp[aQ]⟩,Pv (i+1),λσ' H' p'=>⟨xs.length-(i+1),by omega,rfl,aQ,p'⟩,λx H' y=>?_⟩;obtain⟨e,y⟩:=y;subst e;exact hs i x σ _ (y xs q) p
 ·have e:i=xs.length:=by omega
  subst e;exact .inl ⟨⟨xs,q,Y3 _⟩,hd σ H p⟩
def mW{lo:Int}{n:Nat}{g:TG}{tb:TS}{D:Ends}{σ:St}{H:Hp}(Pv:Nat->St->Hp->Prop)(h0:Pv 0 σ H)
  (hs:∀i σ H,i<n->Pv i σ H->g (.int (lo+i)) σ H λσ2 H2=>tb {D with nx:=Pv (i+1),ct:=Pv (i+1),bk:=D.nx} σ2 H2)(hd:∀σ H,Pv n σ H->D.nx σ H):
  ∃W:Nat->Nat->St->Hp->Prop,(∃m,W 0 m σ H)/\∀i m σ H,W i m σ H->
   ((fN lo n).stop i H/\D.nx σ H)\/((fN lo n).go i H/\∃N:St->Hp->Prop,(∀σ' H',N σ' H'->∃m',m'<m/\W (i+1) m' σ' H')/\∀x H',(fN lo n).fM i H x H'->g x σ H' λσ2 H2=>tb {D with nx:=N,ct:=N,bk:=D.nx} σ2 H2):=by
 refine⟨λi m σ H=>m=n-i/\i<=n/\Pv i σ H,⟨n,by simp,Zp _,h0⟩,?_⟩;rintro i m σ H ⟨rfl,hi,p⟩;by_cases aQ:i<n
 ·refine .inr ⟨aQ,Pv (i+1),λσ' H' p'=>⟨n-(i+1),by omega,rfl,aQ,p'⟩,λx H' y=>?_⟩;obtain⟨e,y⟩:=y;subst e y;exact hs i σ _ aQ p
 ·have e:i=n:=by omega
  subst e;exact .inl ⟨Y3 _,hd σ H p⟩
def Gz{c:TT}{tb:TS}{D:Ends}{σ:St}{H:Hp}(Pv:St->Hp->Prop)(μ:St->Hp->Nat)(h0:Pv σ H)
  (hs:∀σ H,Pv σ H->c σ H λb H1=>if b=true then tb {D with nx:=λσ' H'=>Pv σ' H'/\μ σ' H'<μ σ H,ct:=λσ' H'=>Pv σ' H'/\μ σ' H'<μ σ H,bk:=D.nx} σ H1 else D.nx σ H1)
  (mono:∀σ H Q Q',(∀b H1,Q b H1->Q' b H1)->c σ H Q->c σ H Q'):Jy c tb D σ H:=by
 refine⟨λm σ H=>m=μ σ H/\Pv σ H,⟨_,rfl,h0⟩,?_⟩;rintro m σ H ⟨rfl,p⟩;refine mono σ H _ _ (λb H1 q=>?_) (hs σ H p);cases b with
 |true=>exact⟨_,λσ' H' ⟨p',l⟩=>⟨_,l,rfl,p'⟩,q⟩
 |false=>exact q
abbrev R2:=V->V->Hp->VK->Prop
def b6(X:Cx)(f:Value->Value->Sem Value)(r:R2):Prop:=
 ∀(pins:List (Addr×Obj)) (s:Shared) (σ:St) (H:Hp) (x y:V) (v u:Value) (Q:VK),Inv X pins σ H s->RelV x v->RelV y u->r x y H Q->
  wpAny (model X.prog X.w) X.A (f v u) (EP X pins σ Q) X.xe s
def A4(X:Cx)(f:Value->Sem Value)(r:V->Hp->VK->Prop):Prop:=
 ∀(pins:List (Addr×Obj)) (s:Shared) (σ:St) (H:Hp) (x:V) (v:Value) (Q:VK),Inv X pins σ H s->RelV x v->r x H Q->
  wpAny (model X.prog X.w) X.A (f v) (EP X pins σ Q) X.xe s
def gF(X:Cx)(f:Value)(r:List V->Hp->VK->Prop):Prop:=
 ∀(pins:List (Addr×Obj)) (s:Shared) (σ:St) (H:Hp) (xs:List V) (us:List Value) (Q:VK),Inv X pins σ H s->Vals xs us->r xs H Q->
  wpAny (model X.prog X.w) X.A (call f us) (EP X pins σ Q) X.xe s
def abA(X:Cx)(r:V->Hp->(Bool->Hp->Prop)->Prop):Prop:=
 ∀(pins:List (Addr×Obj)) (s:Shared) (σ:St) (H:Hp) (x:V) (v:Value) (Q:Bool->Hp->Prop),Inv X pins σ H s->RelV x v->r x H Q->
  wpAny (model X.prog X.w) X.A (truthy v) (TP X pins σ Q) X.xe s
def nZ(r:R2)(ta tb:TE):TE:=λσ H Q=>ta σ H λx H1=>tb σ H1 λy H2=>r x y H2 Q
def tUn(r:V->Hp->VK->Prop)(ta:TE):TE:=λσ H Q=>ta σ H λx H1=>r x H1 Q
inductive Lp(C:Int->Int->Prop)(g:Int->Int->V)(x:V)(y:V)(H:Hp)(Q:VK):Prop
 |mk (i j:_) (_:x=.int i) (_:y=.int j) (_:C i j) (_:Q (g i j) H):Lp C g x y H Q
def rI(C:Int->Int->Prop)(g:Int->Int->V):R2:=Lp C g
inductive KC(g:Int->Int->V)(x:V)(y:V)(H:Hp)(Q:VK):Prop
 |mk (i j:_) (_:x=.int i) (_:y=.int j) (_:Q (g i j) H):KC g x y H Q
def n5(g:Int->Int->V):R2:=KC g
inductive Lq(g:Int->V)(x:V)(H:Hp)(Q:VK):Prop
 |mk (i:_) (_:x=.int i) (_:Q (g i) H):Lq g x H Q
def rU(g:Int->V):V->Hp->VK->Prop:=Lq g
section
variable {X:Cx}{a b c:Expr}{ta tb tc:TE}{pos:Pos}
def Ax(ha:PE X a ta)(hb:PE X b tb){pins:List (Addr×Obj)}{s:Shared}{σ:St}{H:Hp}{R:V->V->Hp->Prop}(I:Inv X pins σ H s)
  (h:ta σ H λx H1=>tb σ H1 λy H2=>R x y H2){Q:Value->Shared->Prop}{f:Value->Value->Sem Value}
  (hf:∀v u s2 x y H2,Inv X pins σ H2 s2->RelV x v->RelV y u->R x y H2->wpAny (model X.prog X.w) X.A (f v u) Q X.xe s2):
  wpAny (model X.prog X.w) X.A (eval a X.env) (λv s₁=>wpAny (model X.prog X.w) X.A (eval b X.env) (λu s₂=>wpAny (model X.prog X.w) X.A (f v u) Q X.xe s₂) X.xe s₁) X.xe s:=by
 refine az (ha pins s σ H _ I h) λv s1 ⟨x,H1,I1,r1,q1⟩=>?_;refine az (hb pins s1 σ H1 _ I1 q1) λu s2 ⟨y,H2,I2,r2,q2⟩=>?_;exact hf v u s2 x y H2 I2 r1 r2 q2
def ay{op:Operator}{r:R2}(ho:b6 X (binaryOp op) r)(ha:PE X a ta)(hb:PE X b tb):PE X (.BinOp a op b pos) (nZ r ta tb):=by
 intro pins s σ H Q I h;exact wpAny_BinOp (Ax ha hb I h λv u s2 x y H2 I2 rx ry q=>ho pins s2 σ H2 x y v u Q I2 rx ry q)
def jh{op:UnaryOp}{r:V->Hp->VK->Prop}(ho:A4 X (unaryOp op) r)(ha:PE X a ta):PE X (.UnaryOp op a pos) (tUn r ta):=by
 intro pins s σ H Q I h;exact UnaryOp_ (az (ha pins s σ H _ I h) λv s1 ⟨x,H1,I1,r1,q1⟩=>ho pins s1 σ H1 x v Q I1 r1 q1)
def ve{f:Value->Value->Sem Value}{C:Int->Int->Prop}{g:Int->Int->Int}
  (rule:∀(i j:Int) (t u:Tok) (s:Shared) (Q:Value->Shared->Prop) (E:Value->Shared->Prop),C i j->Q (.int (g i j) s.toks) {s with toks:=s.toks+1}->wpAny (model X.prog X.w) X.A (f (.int i t) (.int j u)) Q E s):
  b6 X f (rI C λi j=>.int (g i j)):=by
 intro pins s σ H x y v u Q I rx ry h;obtain⟨i,j,rfl,rfl,hc,q⟩:=h;obtain⟨t,rfl⟩:=rx;obtain⟨t',rfl⟩:=ry;exact rule i j t t' s _ _ hc ⟨.int (g i j),H,I.tok _,⟨_,rfl⟩,q⟩
def Lr{f:Value->Value->Sem Value}{g:Int->Int->Int}
  (rule:∀(i j:Int) (t u:Tok) (s:Shared) (Q:Value->Shared->Prop) (E:Value->Shared->Prop),Q (.int (g i j) s.toks) {s with toks:=s.toks+1}->wpAny (model X.prog X.w) X.A (f (.int i t) (.int j u)) Q E s):
  b6 X f (n5 λi j=>.int (g i j)):=by
 intro pins s σ H x y v u Q I rx ry h;obtain⟨i,j,rfl,rfl,q⟩:=h;obtain⟨t,rfl⟩:=rx;obtain⟨t',rfl⟩:=ry;exact rule i j t t' s _ _ ⟨.int (g i j),H,I.tok _,⟨_,rfl⟩,q⟩
def Ay{f:Value->Value->Sem Value}{g:Int->Int->Bool}
  (rule:∀(i j:Int) (t u:Tok) (s:Shared) (Q:Value->Shared->Prop) (E:Value->Shared->Prop),Q (.bool (g i j)) s->wpAny (model X.prog X.w) X.A (f (.int i t) (.int j u)) Q E s):
  b6 X f (n5 λi j=>.bl (g i j)):=by
 intro pins s σ H x y v u Q I rx ry h;obtain⟨i,j,rfl,rfl,q⟩:=h;obtain⟨t,rfl⟩:=rx;obtain⟨t',rfl⟩:=ry;exact rule i j t t' s _ _ ⟨.bl (g i j),H,I,rfl,q⟩
def abC(i j:Int):Prop:=0<j/\j<1073741824
def abD(i j:Int):Prop:=0<=j/\j<=1000000/\i.natAbs<2^ 64
def Az(i j:Int):Prop:=(-(2^ 64)<i/\i<2^ 64)\/(-(2^ 64)<j/\j<2^ 64)
def Az.ok{i j:Int}(h:Az i j):IntMulOk i j:=by
 rcases h with⟨h1,h2⟩|⟨h1,h2⟩
 ·exact .of_left (intBits_le_64 h1 h2)
 ·exact .of_right (intBits_le_64 h1 h2)
def cQ:b6 X (binaryOp .Add) (n5 λi j=>.int (i+j)):=Lr λ_ _ _ _ _ _ _ q=>add_int q
def gV:b6 X (binaryOp .Sub) (n5 λi j=>.int (i-j)):=Lr λ_ _ _ _ _ _ _ q=>sub_int q
def gW:b6 X (binaryOp .Mult) (rI Az λi j=>.int (i*j)):=ve λ_ _ _ _ _ _ _ hc q=>mul_int q hc.ok
def jM:b6 X (binaryOp .FloorDiv) (rI abC λi j=>.int (i/j)):=ve λi j _ _ _ _ _ hc q=>by
 have h1:(0:Int)<j:=hc.1;have h2:j<1073741824:=hc.2;exact floordiv_int (by omega) (by rw[Int.fdiv_eq_ediv_of_nonneg i (by omega)];exact q) (.inl (PyProof.noPylong_small (by omega)))
def bJ:b6 X (binaryOp .Mod) (rI (λ_ j=>0<j) λi j=>.int (i%j)):=ve λi j _ _ _ _ _ hc q=>by
 have h1:(0:Int)<j:=hc;exact mod_int' (by omega) (by rw[Int.fmod_eq_emod_of_nonneg i (by omega)];exact q)
def X0:b6 X (binaryOp .Pow) (rI abD λi j=>.int (i^ j.toNat)):=ve λ_ _ _ _ _ _ _ hc q=>pow_int_small hc.1 hc.2.1 hc.2.2 q
def unI{f:Value->Sem Value}{g:Int->Int}
  (rule:∀(i:Int) (t:Tok) (s:Shared) (Q:Value->Shared->Prop) (E:Value->Shared->Prop),Q (.int (g i) s.toks) {s with toks:=s.toks+1}->wpAny (model X.prog X.w) X.A (f (.int i t)) Q E s):
  A4 X f (rU λi=>.int (g i)):=by
 intro pins s σ H x v Q I rx h;obtain⟨i,rfl,q⟩:=h;obtain⟨t,rfl⟩:=rx;exact rule i t s _ _ ⟨.int (g i),H,I.tok _,⟨_,rfl⟩,q⟩
def je:A4 X (unaryOp .USub) (rU λi=>.int (-i)):=unI λ_ _ _ _ _ q=>neg_int q
end
def Ls:V->V->Bool
 |.aE,.aE=>true|.aE,.int _=>true|.int _,.aE=>true|.aE,.bl _=>true|.bl _,.aE=>true|.aE,.str _=>true|.str _,.aE=>true
 |.int _,.int _=>true|.bl _,.bl _=>true|.str _,.str _=>true|.gI _,.gI _=>true
 |.int _,.str _=>true|.str _,.int _=>true|.bl _,.str _=>true|.str _,.bl _=>true
 |_,_=>false
def rEq:R2:=λx y H Q=>Ls x y=true/\Q (.bl (decide (x=y))) H
def rNe:R2:=λx y H Q=>Ls x y=true/\Q (.bl (!decide (x=y))) H
def qP{i j:Int}:decide (V.int i=V.int j)=(i==j):=by
 rw[Bool.eq_iff_iff];simp
def Jz{i j:Bool}:decide (V.bl i=V.bl j)=(i==j):=by
 rw[Bool.eq_iff_iff];simp
def HW{i j:Str}:decide (V.str i=V.str j)=(i==j):=by
 rw[Bool.eq_iff_iff];simp
def HX{i j:Array UInt8}:decide (V.gI i=V.gI j)=(i.toList==j.toList):=by
 rw[Bool.eq_iff_iff];cases i;cases j;simp
section
variable {X:Cx}{a b c:Expr}{ta tb tc:TE}{pos:Pos}
def bX{pins:List (Addr×Obj)}{σ:St}{H:Hp}{s:Shared}{Q:VK}{k k':Bool}(I:Inv X pins σ H s)(q:Q (.bl k) H)(e:k=k'):EP X pins σ Q (.bool k') s:=by
 subst e;exact⟨.bl k,H,I,rfl,q⟩
def cG:b6 X (compareOp .Eq) rEq:=by
 intro pins s σ H x y v u Q I rx ry h;obtain⟨hs,q⟩:=h;cases x with
 |aE=>
  cases rx;cases y with
  |aE=>cases ry;exact PySem.EqNone.eq_none_none (bX I q (by simp))
  |bl j=>cases ry;exact PySem.EqNone.eq_none_bool (bX I q (by simp))
  |int j=>obtain⟨t',rfl⟩:=ry;exact PySem.EqNone.eq_none_int (bX I q (by simp))
  |str j=>obtain⟨t',rfl⟩:=ry;exact PySem.EqNone.eq_none_str (bX I q (by simp))
  |_=>exact absurd (show false=true from hs) Zk
 |bl i=>
  cases rx;cases y with
  |aE=>cases ry;exact PySem.EqNone.eq_bool_none (bX I q (by simp))
  |bl j=>cases ry;exact eq_bool (bX I q Jz)
  |str j=>obtain⟨t',rfl⟩:=ry;exact PySem.EqMixed.eq_bool_str (bX I q (by simp))
  |_=>exact absurd (show false=true from hs) Zk
 |int i=>
  obtain⟨t,rfl⟩:=rx;cases y with
  |aE=>cases ry;exact PySem.EqNone.eq_int_none (bX I q (by simp))
  |int j=>obtain⟨t',rfl⟩:=ry;exact eq_int (bX I q qP)
  |str j=>obtain⟨t',rfl⟩:=ry;exact PySem.EqMixed.eq_int_str (bX I q (by simp))
  |_=>exact absurd (show false=true from hs) Zk
 |str i=>
  obtain⟨t,rfl⟩:=rx;cases y with
  |aE=>cases ry;exact PySem.EqNone.eq_str_none (bX I q (by simp))
  |bl j=>cases ry;exact PySem.EqMixed.eq_str_bool (bX I q (by simp))
  |int j=>obtain⟨t',rfl⟩:=ry;exact PySem.EqMixed.eq_str_int (bX I q (by simp))
  |str j=>obtain⟨t',rfl⟩:=ry;exact eq_str (bX I q HW)
  |_=>exact absurd (show false=true from hs) Zk
 |gI i=>
  obtain⟨t,rfl⟩:=rx;cases y with
  |gI j=>obtain⟨t',rfl⟩:=ry;exact PySem.W.eq_bytes (bX I q HX)
  |_=>exact absurd (show false=true from hs) Zk
 |_=>cases y<;>exact absurd (show false=true from hs) Zk
def rD:b6 X (compareOp .NotEq) rNe:=by
 intro pins s σ H x y v u Q I rx ry h;obtain⟨hs,q⟩:=h;cases x with
 |aE=>
  cases rx;cases y with
  |aE=>cases ry;exact PySem.EqNone.ne_none_none (bX I q (by simp))
  |bl j=>cases ry;exact PySem.EqNone.ne_none_bool (bX I q (by simp))
  |int j=>obtain⟨t',rfl⟩:=ry;exact PySem.EqNone.ne_none_int (bX I q (by simp))
  |str j=>obtain⟨t',rfl⟩:=ry;exact PySem.EqNone.ne_none_str (bX I q (by simp))
  |_=>exact absurd (show false=true from hs) Zk
 |bl i=>
  cases rx;cases y with
  |aE=>cases ry;exact PySem.EqNone.ne_bool_none (bX I q (by simp))
  |bl j=>cases ry;exact ne_bool (bX I q (congrArg not Jz))
  |str j=>obtain⟨t',rfl⟩:=ry;exact PySem.EqMixed.ne_bool_str (bX I q (by simp))
  |_=>exact absurd (show false=true from hs) Zk
 |int i=>
  obtain⟨t,rfl⟩:=rx;cases y with
  |aE=>cases ry;exact PySem.EqNone.ne_int_none (bX I q (by simp))
  |int j=>obtain⟨t',rfl⟩:=ry;exact ne_int (bX I q (congrArg not qP))
  |str j=>obtain⟨t',rfl⟩:=ry;exact PySem.EqMixed.ne_int_str (bX I q (by simp))
  |_=>exact absurd (show false=true from hs) Zk
 |str i=>
  obtain⟨t,rfl⟩:=rx;cases y with
  |aE=>cases ry;exact PySem.EqNone.ne_str_none (bX I q (by simp))
  |bl j=>cases ry;exact PySem.EqMixed.ne_str_bool (bX I q (by simp))
  |int j=>obtain⟨t',rfl⟩:=ry;exact PySem.EqMixed.ne_str_int (bX I q (by simp))
  |str j=>obtain⟨t',rfl⟩:=ry;exact ne_str (bX I q (congrArg not HW))
  |_=>exact absurd (show false=true from hs) Zk
 |gI i=>
  obtain⟨t,rfl⟩:=rx;cases y with
  |gI j=>obtain⟨t',rfl⟩:=ry;exact PySem.W.ne_bytes (bX I q (congrArg not HX))
  |_=>exact absurd (show false=true from hs) Zk
 |_=>cases y<;>exact absurd (show false=true from hs) Zk
def gG:b6 X (compareOp .Lt) (n5 λi j=>.bl (decide (i<j))):=Ay λ_ _ _ _ _ _ _ q=>lt_int q
def gX:b6 X (compareOp .Gt) (n5 λi j=>.bl (decide (j<i))):=Ay λ_ _ _ _ _ _ _ q=>gt_int q
def pC:b6 X (compareOp .GtE) (n5 λi j=>.bl (decide (j<=i))):=Ay λ_ _ _ _ _ _ _ q=>ge_int q
def zq:b6 X (compareOp .Is) (λx y H Q=>y=.aE/\Q (.bl (decide (x=.aE))) H):=by
 intro pins s σ H x y v u Q I rx ry h;obtain⟨rfl,q⟩:=h;cases ry;refine is_none_gen (bX I q ?_)
 cases x<;>first
  |(cases rx;rfl)
  |(obtain⟨t,rfl⟩:=rx;rfl)
def ki:b6 X (compareOp .IsNot) (λx y H Q=>y=.aE/\Q (.bl (!decide (x=.aE))) H):=by
 intro pins s σ H x y v u Q I rx ry h;obtain⟨rfl,q⟩:=h;cases ry;refine isnot_none_gen (bX I q ?_)
 cases x<;>first
  |(cases rx;rfl)
  |(obtain⟨t,rfl⟩:=rx;rfl)
def aI(b:Expr){op:CmpOp}(h:op≠.In:=by decide)(h2:op≠.NotIn:=by decide):behindInMarks op b=false:=by
 have e1:(op==CmpOp.In)=false:=by cases op<;>first|rfl|exact absurd rfl h
 have e2:(op==CmpOp.NotIn)=false:=by cases op<;>first|rfl|exact absurd rfl h2
 cases b<;>simp[behindInMarks,e1,e2]
def o7{op:CmpOp}{r:R2}(ho:b6 X (compareOp op) r)(ha:PE X a ta)(hb:PE X b tb)(hm:behindInMarks op b=false):PE X (.Compare a [op] [b] pos) (nZ r ta tb):=by
 intro pins s σ H Q I h;exact wpAny_Compare1 (Ax ha hb I h λv u s2 x y H2 I2 rx ry q=>ho pins s2 σ H2 x y v u Q I2 rx ry q) hm
def aaA(t:TE):TT:=λσ H Q=>t σ H λx H'=>A3 Q x H'
def aK{op:CmpOp}{r:R2}(ho:b6 X (compareOp op) r)(ha:PE X a ta)(hb:PE X b tb)(hm:behindInMarks op b=false):PT X (.Compare a [op] [b] pos) (aaA (nZ r ta tb)):=by
 intro pins s σ H Q I h
 refine wpAny_isTrue_Compare1 (az (ha pins s σ H _ I h) λv s1 ⟨x,H1,I1,r1,q1⟩=>az (hb pins s1 σ H1 _ I1 q1) λu s2 ⟨y,H2,I2,r2,q2⟩=>
  az (ho pins s2 σ H2 x y v u _ I2 r1 r2 q2) λc s3 ⟨z,H3,I3,r3,k,e,q3⟩=>?_) hm
 subst e;cases r3;exact wpAny_truthy_bool ⟨H3,I3,q3⟩
def Lu(K:PySem.W.Frag)(x:V)(H:Hp)(k:Bool):Prop:=
 match x with
 |.aE=>k=false
 |.bl b=>k=b
 |.int i=>k=(i !=0)
 |.str y=>y.length<=sizeLine/\k=((y.length:Int) !=0)
 |.gI y=>y.size<=sizeLine/\k=((y.size:Int) !=0)
 |.ref p=>(∃xs,ah K H p xs/\k= !xs.isEmpty)\/(∃xs,aV K H p xs/\k= !xs.isEmpty)\/∃kvs,H p=some (.dK kvs)/\k= !kvs.isEmpty
 |_=>False
def QI{κ:Type}{kvs:List (κ×V)}{vs:List (κ×Value)}(r:KV kvs vs):(!vs.isEmpty)= !kvs.isEmpty:=by
 cases r<;>rfl
def EC{xs:List V}{ai:List Value}(r:Vals xs ai):(!ai.toArray.isEmpty)= !xs.isEmpty:=by
 cases r<;>simp
def rj:(sizeLine:Nat)<2^ 63:=by rw[sizeLine_eq];decide
def X1:abA X (λx H Q=>∃k,Lu X.K x H k/\Q k H):=by
 intro pins s σ H x v Q I rx h;obtain⟨k,e,q⟩:=h;have hl:=rj;have hs:sizeLine=16777216:=sizeLine_eq;cases x with
 |aE=>
  cases rx;have e':k=false:=e;subst e';exact truthy_none ⟨H,I,q⟩
 |bl b=>
  cases rx;have e':k=b:=e;subst e';exact wpAny_truthy_bool ⟨H,I,q⟩
 |int i=>
  obtain⟨t,rfl⟩:=rx;have e':k=(i !=0):=e;subst e';exact PySem.P.truthy_int ⟨H,I,q⟩
 |str y=>
  obtain⟨t,rfl⟩:=rx;obtain⟨hy,e'⟩:y.length<=sizeLine/\k=((y.length:Int) !=0):=e;subst e';exact PySem.P.truthy_str (by omega) ⟨H,I.tok _,q⟩
 |gI y=>
  obtain⟨t,rfl⟩:=rx;obtain⟨hy,e'⟩:y.size<=sizeLine/\k=((y.size:Int) !=0):=e;subst e';exact PySem.W.truthy_bytes (by omega) ⟨H,I.tok _,q⟩
 |ref p=>
  cases rx;have e':(∃xs,ah X.K H p xs/\k= !xs.isEmpty)\/(∃xs,aV X.K H p xs/\k= !xs.isEmpty)\/∃kvs,H p=some (.dK kvs)/\k= !kvs.isEmpty:=e;rcases e' with⟨xs,hx,e'⟩|⟨xs,hx,e'⟩|⟨kvs,hx,e'⟩
  ·subst e';obtain⟨ai,r,pl,hz⟩:=I.list hx;have hlen:=r.length;exact wpAny_truthy_list pl.isList (by simp only[Zl];omega) ⟨H,I.tok _,by rw[EC r];exact q⟩
  ·subst e';obtain⟨ai,r,pl,hz⟩:=I.tuple hx;have hlen:=r.length;exact truthy_tuple pl (by simp only[Zl];omega) ⟨H,I.tok _,by rw[EC r];exact q⟩
  ·subst e';obtain⟨hz,hS,vs,r,m⟩:kvs.length<=sizeLine/\(p==sysModules)=false/\∃vs,KV kvs vs/\s.heap.DictOf (cU X.prog X.w) p vs:=I.ao p _ hx;have hlen:kvs.length=vs.length:=Paired.length r;exact wpAny_truthy_dict hS m (by omega) ⟨H,I.tok _,by rw[QI r];exact q⟩
 |_=>exact(show False from e).elim
def T7(ha:PE X a ta)(he:∀whole,isTrue a X.env whole=(do let v<-whole;standAt a.pos;holding [v] (truthy v))):
  PT X a (λσ H Q=>ta σ H λx H'=>∃k,Lu X.K x H' k/\Q k H'):=by
 intro pins s σ H Q I h;exact isTrue_plain (az (ha pins s σ H _ I h) λv s1 ⟨x,H1,I1,r1,q1⟩=>X1 pins s1 σ H1 x v Q I1 r1 q1) (he _)
def vals1{x:V}{us:List Value}(r:Vals [x] us):∃u,us=[u]/\RelV x u:=by
 cases r with
 |cons r1 r2=>cases r2;exact⟨_,rfl,r1⟩
def vals2{x y:V}{us:List Value}(r:Vals [x,y] us):∃u w',us=[u,w']/\RelV x u/\RelV y w':=by
 cases r with
 |cons r1 r2=>
  cases r2 with
  |cons r3 r4=>cases r4;exact⟨_,_,rfl,r1,r3⟩
def GA:gF X (.builtin "abs") (λxs H Q=>∃i,xs=[.int i]/\Q (.int (if i<0 then -i else i)) H):=by
 intro pins s σ H xs us Q I r h;obtain⟨i,rfl,q⟩:=h;obtain⟨u,rfl,t,rfl⟩:=vals1 r;exact call_abs_int λu tk=>⟨.int (if i<0 then -i else i),H,I.tok _,⟨_,rfl⟩,q⟩
def xW(hc:X.calm=true):gF X (.builtin "max") (λxs H Q=>∃i j,xs=[.int i,.int j]/\Q (.int (if j>i then j else i)) H):=by
 intro pins s σ H xs us Q I r h;obtain⟨i,j,rfl,q⟩:=h;obtain⟨u,w',rfl,⟨t,rfl⟩,⟨t',rfl⟩⟩:=vals2 r;refine max_two_ints (I.ok.hd hc) λh' tk k=>⟨_,H,I.kept k,?_,q⟩;by_cases hj:j>i
 ·rw[if_pos hj,if_pos hj];exact⟨_,rfl⟩
 ·rw[if_neg hj,if_neg hj];exact⟨_,rfl⟩
def xX(hc:X.calm=true):gF X (.builtin "min") (λxs H Q=>∃i j,xs=[.int i,.int j]/\Q (.int (if j<i then j else i)) H):=by
 intro pins s σ H xs us Q I r h;obtain⟨i,j,rfl,q⟩:=h;obtain⟨u,w',rfl,⟨t,rfl⟩,⟨t',rfl⟩⟩:=vals2 r;refine min_two_ints (I.ok.hd hc) λh' tk k=>⟨_,H,I.kept k,?_,q⟩;by_cases hj:j<i
 ·rw[if_pos hj,if_pos hj];exact⟨_,rfl⟩
 ·rw[if_neg hj,if_neg hj];exact⟨_,rfl⟩
end
structure nN(h:Heap)(x dx C:Addr)(mA:Str->Option Value):Prop where
 obj:h.get? x=some (PySem.W.instObj C dx)
 ns:h.Ns1 dx mA
 ne:dx≠x
def RN{h:Heap}{dx:Addr}{mA:Str->Option Value}(n:h.Ns1 dx mA):∃od,h.get? dx=some od/\∀name,PySem.W.lookIn name od=some (mA name):=by
 obtain⟨o,es,ep,ho,hd,hk,_,hm⟩:=n;refine⟨o,ho,λname=>?_⟩;have e:=hm name;unfold nsFind findBy at e;rw[<-Array.find?_toList]at e;unfold PySem.W.lookIn;rw[hd];dsimp only;split
 ·rename_i y q;rw[q]at e;exact congrArg some e
 ·rename_i q;rw[q]at e
  have a:es.toList.any (·.refKey)=false:=by
   rw[List.any_eq_false];intro y hy;obtain⟨z,t,abE⟩:=hk y (Array.mem_toList_iff.mp hy);simp[DictEntry.refKey,abE]
  have a':¬es.toList.any (·.refKey)=true:=by rw[a];exact Zk
  rw[if_neg a'];exact congrArg some e
def nN.look{h:Heap}{x dx C:Addr}{mA:Str->Option Value}(I:nN h x dx C mA):∃od,PySem.W.InstAt h x (PySem.W.instObj C dx) C (some od)/\∀name,PySem.W.lookIn name od=some (mA name):=
 let⟨od,ho,hl⟩:=RN I.ns
 ⟨od,⟨I.obj,rfl,rfl,ho⟩,hl⟩
section
variable {prog:Program}{w:World}{A:Around}{E:Value->Shared->Prop}{s:Shared}{K:PySem.W.Frag}{x dx C f:Addr}{mA:Str->Option Value}{name:Str}{v:Value}
def get_map{expr:Bool}{Q:Value->Shared->Prop}(X:K.In s.heap)(I:nN s.heap x dx C mA)(hg:PySem.W.plainGet K C name=true)(hh:PySem.W.hasDictIn K C=true)
  (ha:PySem.W.findIn K (.ref C) name=some none)(hv:mA name=some v)(A5:PySem.W.handedIn v=true)(h:Q v {s with toks:=s.toks+1}):
  wpAny (model prog w) A (getAttr (.ref x) name expr) Q E s:=by
 obtain⟨od,J,hl⟩:=I.look;exact PySem.W.get_value X J (PySem.W.plainGet_of hg).1 (PySem.W.findObj_own hh ha rfl (by rw[hl,hv])) A5 h
def T8{pl:Sem Bool}{Q:Value×List Value->Shared->Prop}(X:K.In s.heap)(I:nN s.heap x dx C mA)(hg:PySem.W.plainGet K C name=true)
  (hf:PySem.W.findIn K (.ref C) name=some (some (.ref f)))(ht:PySem.W.isFn K (.ref f)=true)(hv:mA name=none)(h:Q (.ref f,[.ref x]) s):
  wpAny (model prog w) A (getMethod (.ref x) name pl) Q E s:=by
 obtain⟨od,J,hl⟩:=I.look;exact PySem.W.method_fn X J (PySem.W.plainGet_of hg).1 (PySem.W.plainGet_of hg).2 hf (beq_iff_eq.mp ht) (by show(PySem.W.lookIn name od).map (·.isSome)=some false;rw[hl,hv];rfl) h
def Wa{ns:List Str}{Q:Unit->Shared->Prop}(X:K.In s.heap)(I:nN s.heap x dx C mA)
  (hs:PySem.W.findIn K (.ref C) "__setattr__"=some (some (.builtin "object.__setattr__")))(hp:PySem.W.plainOver K C=true)(ht:PySem.W.takerIn K C name=some none)(hh:PySem.W.hasDictIn K C=true)
  (hw:PySem.Within mA ns)(hsz:ns.length<=sizeLine)
  (h:∀h',nN h' x dx C (λy=>if y=name then some v else mA y)->Heap.SameBut dx s.heap h'->Q () {s with heap:=h',toks:=s.toks+2}):
  wpAny (model prog w) A (setAttr (.ref x) name v) Q E s:=by
 obtain⟨od,J,hl⟩:=I.look;refine PySem.W.set_plain X J hs (PySem.W.osa_open (s:={s with toks:=s.toks+1}) (r:=none) X J hp ht λb=>?_);obtain⟨cd,hc,pO⟩:=PySem.W.any_some hh;have hx:s.heap.get? x=some ⟨.ref C,some dx,.plain, #[]⟩:=I.obj;refine wpAny_bind (ZV (wpAny_bind (wpAny_bind (wpAny_loadPart hx (wpAny_bind (PySem.W.Looks.here (s:={s with toks:=s.toks+1}) (PySem.W.looks_clsIn X hc) ?_))))));rw[pO];refine ZV (a:=some dx) (wpAny_bind (ZV (wpAny_bind ?_)));refine wpAny_nsSet1 (s:={s with toks:=s.toks+1}) I.ns λh' vf kN=>?_;obtain⟨oD,esD,epD,hoD,hdD,hcD⟩:=vf.count (PySem.Within.cons name v hw);refine wpAny_bind (wpAny_lookBehind hoD (by rw[hdD];exact pastItsLine_dict (ZQ hcD (by rw[ZF];omega))) ?_);exact ZV (h _ ⟨(kN.2 _ (Ne.symm I.ne)).trans I.obj,vf,I.ne⟩ kN)
def T9{R:Result->Shared->Prop}{vs:List Value}{kw:List (Str×Value)}(X:K.In s.heap)(hm:PySem.W.makesIn K C=true)
  (hi:PySem.W.findIn K (.ref C) "__init__"=some (some (.ref f)))(hf:PySem.W.typeIn K (.ref f)=some (.type "function"))
  (h:codeAny (model prog w) (A.under (.builtin "type.__call__" ⟨.ref C::vs,kw⟩)) (.call (.ref f) ⟨.ref (s.heap.objs.size+1)::vs,kw⟩) (PySem.W.InitBack (s.heap.objs.size+1) R)
   {s with heap:=(s.heap.push PySem.W.emptyDict).push (PySem.W.instObj C s.heap.objs.size)}):
  codeAny (model prog w) A (.call (.ref C) ⟨vs,kw⟩) R s:=by
 obtain⟨hh,g,d,t,os⟩:=s;exact PySem.W.make_core (PySem.W.makes_of X hm) (PySem.W.looks_findIn X hi) (λself=>PySem.W.bind_fn X self hf) (.inl rfl) h
end
def aW(f:Str)(v:V):List (Str×V)->List (Str×V)
 |[]=>[(f,v)]
 |(g,x)::r=>if g=f then(g,v)::r else(g,x)::aW f v r
def lH(f g:Str)(v:V):∀fs:List (Str×V),(aW f v fs).lookup g=if g=f then some v else fs.lookup g
 |[]=>by
  show List.lookup g [(f,v)]=_;by_cases h:g=f
  ·have hb:(g==f)=true:=beq_iff_eq.mpr h;simp only[List.lookup,hb,if_pos h]
  ·have hb:(g==f)=false:=ZH.mpr h;simp only[List.lookup,hb,if_neg h]
 |(k,x)::r=>by
  have ih:=lH f g v r;rw[show aW f v ((k,x)::r)=(if k=f then(k,v)::r else(k,x)::aW f v r)from rfl];by_cases hk:k=f
  ·rw[if_pos hk];by_cases h:g=k
   ·have hb:(g==k)=true:=beq_iff_eq.mpr h;simp only[List.lookup,hb,if_pos (h.trans hk)]
   ·have hb:(g==k)=false:=ZH.mpr h;simp only[List.lookup,hb,if_neg (λe:g=f=>h (e.trans hk.symm))]
  ·rw[if_neg hk];by_cases h:g=k
   ·have hb:(g==k)=true:=beq_iff_eq.mpr h;simp only[List.lookup,hb,if_neg (λe:g=f=>hk (h.symm.trans e))]
   ·have hb:(g==k)=false:=ZH.mpr h;simp only[List.lookup,hb];exact ih
def xY(f:Str)(v:V):∀fs:List (Str×V),f∈(aW f v fs).map (·.1)/\∀g,g∈fs.map (·.1)->g∈(aW f v fs).map (·.1)
 |[]=>⟨by simp[aW],λg h=>by simp at h⟩
 |(k,x)::r=>by
  obtain⟨i1,i2⟩:=xY f v r;rw[show aW f v ((k,x)::r)=(if k=f then(k,v)::r else(k,x)::aW f v r)from rfl];by_cases hk:k=f
  ·rw[if_pos hk];subst hk;exact⟨by simp,λg h=>by simpa using h⟩
  ·rw[if_neg hk];refine⟨?_,λg h=>?_⟩
   ·rw[Zr];exact Y4 _ i1
   ·rw[Zr]at h⊢;rcases Y5.mp h with e|e
    ·exact Y5.mpr (.inl e)
    ·exact Y4 _ (i2 g e)
def Eo(f:Str)(v:V):∀fs:List (Str×V),(aW f v fs).length<=fs.length+1
 |[]=>by simp[aW]
 |(k,x)::r=>by
  have ih:=Eo f v r;rw[show aW f v ((k,x)::r)=(if k=f then(k,v)::r else(k,x)::aW f v r)from rfl];by_cases hk:k=f
  ·rw[if_pos hk,ZF,ZF];omega
  ·rw[if_neg hk,ZF,ZF];omega
def dY.some_of{v:V}{o:Option Value}(r:dY (some v) o):∃u,o=some u/\RelV v u:=by
 cases o with
 |none=>exact(show False from r).elim
 |some u=>exact⟨u,rfl,r⟩
def dY.none_of{o:Option Value}(r:dY none o):o=none:=by
 cases o with
 |none=>rfl
 |some u=>exact(show False from r).elim
def RP{v:V}{u:Value}(r:RelV v u):PySem.W.handedIn u=true:=by
 cases v with
 |aE=>cases(show u=Value.none from r);rfl
 |bl b=>cases(show u=Value.bool b from r);rfl
 |int i=>obtain⟨t,e⟩:=(show∃t,u=Value.int i t from r);cases e;rfl
 |str x=>obtain⟨t,e⟩:=(show∃t,u=Value.str x t from r);cases e;rfl
 |gI b=>obtain⟨t,e⟩:=(show∃t,u=Value.bytes b t from r);cases e;rfl
 |u0 b=>obtain⟨t,e⟩:=(show∃t,u=Value.float b t from r);cases e;rfl
 |ref a=>cases(show u=Value.ref a from r);rfl
 |ty n=>cases(show u=Value.type n from r);rfl
section
variable {P:Program}{w:World}{H H':Hp}{h h':Heap}{a C dx:Addr}{fs pN:List (Str×V)}
def yI(ao:bw P w H h)(e:H a=some (.ins C dx fs)):∃mA,nN h a dx C mA/\(∀f,dY (fs.lookup f) (mA f))/\PySem.Within mA (fs.map (·.1))/\fs.length<=1000/\H dx=some (.own a):=by
 obtain⟨d,z,ne,ob,mA,n,r,q⟩:=(show bY P w H h a (.ins C dx fs)from ao a _ e);exact⟨mA,⟨ob,n,ne⟩,r,q,z,d⟩
end
structure dM(K:PySem.W.Frag)(C:Addr):Prop where
 pg:PySem.W.plainGet K C Str.empty=true
 hd:PySem.W.hasDictIn K C=true
 po:PySem.W.plainOver K C=true
 sa:PySem.W.findIn K (.ref C) "__setattr__"=some (some (.builtin "object.__setattr__"))
def dM.get{K:PySem.W.Frag}{C:Addr}(c:dM K C)(f:Str):PySem.W.plainGet K C f=true:=c.pg
def NoAttr(K:PySem.W.Frag)(C:Addr)(f:Str):Prop:=PySem.W.findIn K (.ref C) f=some none
def NoAttr.aaB{K:PySem.W.Frag}{C:Addr}{f:Str}(n:NoAttr K C f):PySem.W.takerIn K C f=some none:=by
 unfold PySem.W.takerIn;rw[show PySem.W.findIn K (.ref C) f=some none from n]
 rfl
structure Meth(K:PySem.W.Frag)(C:Addr)(m:Str)(f:Addr):Prop where
 at_:PySem.W.findIn K (.ref C) m=some (some (.ref f))
 fn:PySem.W.isFn K (.ref f)=true
 kp:PySem.W.keepIn K (.ref f)=true
section
variable {X:Cx}{pins:List (Addr×Obj)}{σ:St}{H:Hp}{s:Shared}{a C dx:Addr}{fs:List (Str×V)}{f:Str}{v:V}{A:Around}{E:Value->Shared->Prop}
def ED{b:Bool}{Q:Value->Shared->Prop}(I:Inv X pins σ H s)(e:H a=some (.ins C dx fs))(c:dM X.K C)(n:NoAttr X.K C f)(l:fs.lookup f=some v)
  (h:∀u s',Inv X pins σ H s'->RelV v u->Q u s'):wpAny (model X.prog X.w) A (getAttr (.ref a) f b) Q E s:=by
 obtain⟨mA,O,r,_,_,_⟩:=yI I.ao e;obtain⟨u,hu,ru⟩:=dY.some_of (v:=v) (o:=mA f) (by rw[<-l];exact r f);exact get_map I.eX O (c.get f) c.hd n hu (RP ru) (h u _ (I.tok _) ru)
def xM{m:Str}{g:Addr}{pl:Sem Bool}{Q:Value×List Value->Shared->Prop}(I:Inv X pins σ H s)(e:H a=some (.ins C dx fs))(c:dM X.K C)(k:Meth X.K C m g)(l:fs.lookup m=none)
  (h:Q (.ref g,[.ref a]) s):wpAny (model X.prog X.w) A (getMethod (.ref a) m pl) Q E s:=by
 obtain⟨mA,O,r,_,_,_⟩:=yI I.ao e;have hn:mA m=none:=dY.none_of (by rw[<-l];exact r m);exact T8 I.eX O (c.get m) k.at_ k.fn hn h
def xN{y:V}{u:Value}{Q:Unit->Shared->Prop}(I:Inv X pins σ H s)(e:H a=some (.ins C dx fs))(c:dM X.K C)(n:NoAttr X.K C f)(hl:fs.length<1000)(ry:RelV y u)
  (h:∀s',Inv X pins σ (upd H a (.ins C dx (aW f y fs))) s'->Q () s'):wpAny (model X.prog X.w) A (setAttr (.ref a) f u) Q E s:=by
 obtain⟨mA,O,r,wi,_,ho⟩:=yI I.ao e;have hz:(fs.map (·.1)).length<=sizeLine:=by rw[Y1,sizeLine_eq];omega
 refine Wa I.eX O c.sa c.po n.aaB c.hd wi hz λh' O' sb=>h _ ?_;have hd:∃o,h'.get? dx=some o:=let⟨o,_,_,e',_⟩:=O'.ns;⟨o,e'⟩
 refine I.write (x:=a) (e:=dx) (by rw[e];exact True.intro) (.inr ho) (λb q hb z=>(sb.2 b hb).trans z) hd ?_;refine⟨by rw[aj O.ne];exact ho,?_,O.ne,O'.obj,_,O'.ns,λg=>?_,λg hg=>?_⟩
 ·have:=Eo f y fs;omega
 ·show dY ((aW f y fs).lookup g) (if g=f then some u else mA g);rw[lH];by_cases q:g=f
  ·rw[if_pos q,if_pos q];exact ry
  ·rw[if_neg q,if_neg q];exact r g
 ·by_cases q:g=f
  ·rw[q];exact(xY f y fs).1
  ·refine(xY f y fs).2 g (wi g λz=>hg ?_);show(if g=f then some u else mA g)=none;rw[if_neg q];exact z
def Inv.made(I:Inv X pins σ H s):Inv X pins σ (upd (upd H s.heap.objs.size (.own (s.heap.objs.size+1))) (s.heap.objs.size+1) (.ins C s.heap.objs.size []))
  {s with heap:=(s.heap.push PySem.W.emptyDict).push (PySem.W.instObj C s.heap.objs.size)}:=by
 have e1:(s.heap.push PySem.W.emptyDict).get? s.heap.objs.size=some PySem.W.emptyDict:=Zq s.heap rfl
 have e2:((s.heap.push PySem.W.emptyDict).push (PySem.W.instObj C s.heap.objs.size)).get? (s.heap.objs.size+1)=some (PySem.W.instObj C s.heap.objs.size):=by
  have:=Zq (s.heap.push PySem.W.emptyDict) (o:=PySem.W.instObj C s.heap.objs.size) rfl
  rwa [Heap.size_push]at this
 have e3:(s.heap.push PySem.W.emptyDict).Ns s.heap.objs.size (λ_=>none):=⟨PySem.W.emptyDict, #[],_,e1,rfl,(λe he=>absurd he (by simp)),λ_=>rfl⟩;have I1:=I.laid (a:=s.heap.objs.size) (o:=.own (s.heap.objs.size+1)) (h':=s.heap.push PySem.W.emptyDict) (t':=s.toks) (λb u q=>Y8 _ q) (Y3 _) ⟨_,e1⟩;refine I1.laid (a:=s.heap.objs.size+1) (o:=.ins C s.heap.objs.size []) (t':=s.toks) (λb u q=>Y8 _ q) (Nat.le_of_eq (Heap.size_push _ _)) ?_;have ne:s.heap.objs.size≠s.heap.objs.size+1:=Zn (Nat.lt_succ_self _);refine⟨by rw[aj ne,ak],Zp _,ne,e2,λ_=>none,(Heap.Ns1.of_empty e3).at λo q=>Y8 _ q,λ_=>True.intro,λy hy=>absurd rfl hy⟩
def Wb{prog:Program}{w:World}{env:Env}{e:Expr}{f:Str}{pos:Pos}{s:Shared}{Q:Value->Shared->Prop}(hb:attributeBase e f env (eval e env)=eval e env)
  (h:wpAny (model prog w) A (eval e env) (λo s₁=>wpAny (model prog w) A (getAttr o f true) Q E s₁) E s):wpAny (model prog w) A (eval (.Attribute e f pos) env) Q E s:=
 Attribute_any_ h (by rw[arm_eval_Attribute,hb])
end
inductive KD(K:PySem.W.Frag)(f:Str)(Q:VK)(x:V)(H1:Hp):Prop
 |mk (a C dx:Addr) (fs:List (Str×V)) (v:V) (_:x=.ref a) (_:H1 a=some (.ins C dx fs)) (_:dM K C) (_:NoAttr K C f) (_:fs.lookup f=some v) (_:Q v H1):KD K f Q x H1
def rQ(K:PySem.W.Frag)(ta:TE)(f:Str):TE:=λσ H Q=>ta σ H λx H1=>KD K f Q x H1
def Lv(K:PySem.W.Frag)(ta tv:TE)(f:Str):TS:=λD σ H=>tv σ H λy H1=>ta σ H1 λx H2=>∃a C dx fs,x=.ref a/\H2 a=some (.ins C dx fs)/\dM K C/\NoAttr K C f/\fs.length<1000/\
 D.nx σ (upd H2 a (.ins C dx (aW f y fs)))
def Lw(X:Cx)(op:Operator)(rd:V->V->Hp->VK->Prop):Prop:=
 ∀(pins:List (Addr×Obj)) (s:Shared) (σ:St) (H:Hp) (x y:V) (u v:Value) (Q:VK),Inv X pins σ H s->RelV x u->RelV y v->rd x y H Q->wpAny (model X.prog X.w) X.A (inplaceOp op u v) (EP X pins σ Q) X.xe s
def Wc(K:PySem.W.Frag)(ta tv:TE)(rd:V->V->Hp->VK->Prop)(f:Str):TS:=λD σ H=>ta σ H λx H1=>∃a C dx fs v,x=.ref a/\H1 a=some (.ins C dx fs)/\dM K C/\NoAttr K C f/\fs.lookup f=some v/\
 tv σ H1 λy H2=>rd v y H2 λz H3=>∃A6 pN,H3 a=some (.ins C A6 pN)/\pN.length<1000/\D.nx σ (upd H3 a (.ins C A6 (aW f z pN)))
section
variable {X:Cx}{o e value:Expr}{f:Str}{pos pos' Lx:Pos}{ta tv:TE}
def aO(he:PE X e ta)(hb:attributeBase e f X.env (eval e X.env)=eval e X.env):PE X (.Attribute e f pos) (rQ X.K ta f):=by
 intro pins s σ H Q I h;refine Wb hb (az (he pins s σ H _ I h) λu s1 ⟨x,H1,I1,rx,a,C,dx,fs,v,ex,ea,c,n,l,q⟩=>?_);subst ex;obtain rfl:u=Value.ref a:=rx;exact ED I1 ea c n l λu' s2 I2 ru=>⟨v,H1,I2,ru,q⟩
def eO(ha:PE X o ta)(hv:PE X value tv)(hs:swapsWith value (some (.Attribute o f pos')) pos.line X.env=pure false):PS X (.Assign [.Attribute o f pos'] value pos) (Lv X.K ta tv f):=by
 intro pins s σ H D I h;refine plainObj_wpAny_Assign_Attribute (az (hv pins s σ H _ I h) λu s1 ⟨y,H1,I1,ry,q⟩=>az (ha pins s1 σ H1 _ I1 q) λov s2 ⟨x,H2,I2,rx,a,C,dx,fs,ex,ea,c,n,l,q2⟩=>?_) hs;subst ex;obtain rfl:ov=Value.ref a:=rx;exact xN I2 ea c n l ry λs3 I3=>⟨σ,_,I3,q2⟩
def E8{op:Operator}{rd:V->V->Hp->VK->Prop}(ha:PE X o ta)(hv:PE X value tv)(hop:Lw X op rd):PS X (.AugAssign (.Attribute o f Lx) op value pos) (Wc X.K ta tv rd f):=by
 intro pins s σ H D I h;refine wpAny_AugAssign_AttributeAny (az (ha pins s σ H _ I h) λov s1 ⟨x,H1,I1,rx,a,C,dx,fs,v,ex,ea,c,n,l,q⟩=>?_);subst ex;obtain rfl:ov=Value.ref a:=rx;refine ED I1 ea c n l λu s2 I2 ru=>az (hv pins s2 σ H1 _ I2 q) λw3 s3 ⟨y,H2,I3,ry,q3⟩=>az (hop pins s3 σ H2 v y u w3 _ I3 ru ry q3) λw4 s4 ⟨z,H3,I4,rz,A6,pN,ea',l',q4⟩=>?_;exact xN I4 ea' c n l' rz λs5 I5=>⟨σ,_,I5,q4⟩
def abF:V->V->Hp->VK->Prop:=λx y H Q=>∃i j,x=.int i/\y=.int j/\Q (.int (i+j)) H
def JA:Lw X .Add abF:=by
 rintro pins s σ H x y u v Q I rx ry ⟨i,j,rfl,rfl,q⟩;obtain⟨t,rfl⟩:=(show∃t,u=Value.int i t from rx);obtain⟨t',rfl⟩:=(show∃t',v=Value.int j t' from ry);exact PyProof.Rows.iadd_int ⟨.int (i+j),H,I.tok _,⟨_,rfl⟩,q⟩
end
structure bG(k:Nat)(A:Around):Prop where
 hd:A.handled=none
 dp:A.depth+3*k+5<recursionLimit
 un:A.units+16*k+200<cLine
def bG.mono{j k:Nat}{A:Around}(r:bG k A)(h:j<=k):bG j A:=⟨r.hd,by have:=r.dp;omega,by have:=r.un;omega⟩
def bG.deeper{k:Nat}{A:Around}(r:bG (k+1) A)(env:Env):bG k (A.deeper env):=
 ⟨r.hd,by have:=r.dp;show A.depth+1+3*k+5<_;omega,by have:=r.un;show A.units+3+16*k+200<_;omega⟩
def QJ{A:Around}{C:Addr}{us:List Value}{kw:List (Str×Value)}:(A.under (.builtin "type.__call__" ⟨.ref C::us,kw⟩)).depth=A.depth+1:=by
 first|rfl|simp[Around.under,Code.weight,Code.isCreation,Code.isGuard,Code.isCaller,Code.frames,Code.isFrame,guardIds]
def QK{A:Around}{C:Addr}{us:List Value}{kw:List (Str×Value)}:(A.under (.builtin "type.__call__" ⟨.ref C::us,kw⟩)).units=A.units+1:=by
 first|rfl|simp[Around.under,Code.cUnits,Code.frames,Code.isFrame]
def bG.make{k:Nat}{A:Around}(r:bG (k+1) A)(C:Addr)(us:List Value)(kw:List (Str×Value)):bG k (A.under (.builtin "type.__call__" ⟨.ref C::us,kw⟩)):=
 ⟨r.hd,by have:=r.dp;rw[QJ];omega,by have:=r.un;rw[QK];omega⟩
def bG.depth{k:Nat}{A:Around}(r:bG k A):A.depth<recursionLimit:=by have:=r.dp;omega
def bG.units{k:Nat}{A:Around}(r:bG k A):A.units+64<cLine:=by have:=r.un;omega
def jT:TA:=λ_ H Q=>Q [] H
def jR(ta:TE)(tr:TA):TA:=λσ H Q=>ta σ H λx H1=>tr σ H1 λxs H2=>Q (x::xs) H2
section
variable {X:Cx}{e:Expr}{es:List Expr}{te:TE}{t:TA}{pos:Pos}
def ae:PA X [] jT:=λ_ _ _ _ H Q I h=>Calls.spliced_nil ⟨[],H,I,.nil,h⟩
def aq(ha:PE X e te)(hr:PA X es t)(hs:starEach (e::es) X.env=(false,eval e X.env)::starEach es X.env:=by rfl):PA X (e::es) (jR te t):=by
 intro pos pins s σ H Q I h;rw[hs];show wpAny _ _ (spliced ((false,eval e X.env)::backTo pos (starEach es X.env))) _ _ s;refine Calls.spliced_cons (az (ha pins s σ H _ I h) λu s1 ⟨x,H1,I1,r1,q1⟩=>?_);exact az (hr pos pins s1 σ H1 _ I1 q1) λus s2 ⟨xs,H2,I2,r2,q2⟩=>⟨x::xs,H2,I2,.cons r1 r2,q2⟩
def AA(t:TA):TE:=λσ H Q=>t σ H λxs H1=>xs.length<=sizeLine/\∀p,H1 p=none->Q (.ref p) (upd H1 p (.tup xs))
def abG(t:TA):TE:=λσ H Q=>t σ H λxs H1=>xs.length<=sizeLine/\∀p,H1 p=none->Q (.ref p) (upd H1 p (.lst xs))
def cD{x1}(h:PA X es t):PE X (.Tuple es x1 pos) (AA t):=by
 intro pins s σ H Q I hq;refine wpAny_Tuple_spliced (az (h pos pins s σ H _ I hq) λus s1 ⟨xs,H1,I1,r,z,q⟩=>⟨by rw[<-r.length];exact z,?_⟩);have hf:H1 s1.heap.objs.size=none:=I1.ao.fresh (Y3 _);refine⟨.ref s1.heap.objs.size,upd H1 s1.heap.objs.size (.tup xs),I1.laid (t':=s1.toks) (λb u e=>Y8 _ e) (Y3 _) ?_,rfl,q _ hf⟩;exact⟨z,us,r,⟨_,Zq _ rfl,rfl,_,rfl⟩⟩
def um(h:PA X es t):PE X (.List es pos) (abG t):=by
 intro pins s σ H Q I hq;refine wpAny_List_spliced (az (h pos pins s σ H _ I hq) λus s1 ⟨xs,H1,I1,r,z,q⟩=>⟨by rw[<-r.length];exact z,?_⟩);have hf:H1 s1.heap.objs.size=none:=I1.ao.fresh (Y3 _);refine⟨.ref s1.heap.objs.size,upd H1 s1.heap.objs.size (.lst xs),I1.laid (t':=s1.toks) (λb u e=>Y8 _ e) (Y3 _) ?_,rfl,q _ hf⟩;exact⟨z,us,0,r,Zq _ rfl⟩
end
abbrev Sp:=List V->Hp->VK->XK->Prop
abbrev iQ:=List Env->Hp->Shared->XK->Value->Shared->Prop
structure nO(P:Program)(w:World)(K:PySem.W.Frag)(mg:Str->Option Value)(base:Heap)(A:Around)(outer:List Env)(s:Shared)(H:Hp):Prop where
 frames:A.frames=some outer
 mod:Mod K mg base
 bs:∀b o,base.get? b=some o->s.heap.get? b=some o/\H b=none
 iP:base.objs.size<=s.heap.objs.size
 gj:s.heap.FunFrames base outer
 mz:∀b∈bT outer,H b=none
 ao:bw P w H s.heap
 bare:AllBare s.gens
def CE(outer:List Env)(P:Program)(w:World)(H:Hp)(s:Shared)(Q:VK)(u:Value)(s':Shared):Prop:=
 ∃v H',s'.os=s.os/\AllBare s'.gens/\Un (bT outer) [] H H' s.heap s'.heap/\bw P w H' s'.heap/\RelV v u/\Q v H'
def CR(CX:iQ)(outer:List Env)(P:Program)(w:World)(H:Hp)(s:Shared)(Q:VK)(E:XK)(r:Result)(s':Shared):Prop:=
 match r with
 |.ok (.ret u)=>CE outer P w H s Q u s'
 |.ok _=>False
 |.error e=>CX outer H s E e s'
structure aA(P:Program)(w:World)(K:PySem.W.Frag)(mg:Str->Option Value)(base:Heap)(CX:iQ)(k:Nat)(f:Addr)(fd:FuncData)(ps:List Str)(sp:Sp):Prop where
 len:∀vs H Q E,sp vs H Q E->vs.length=ps.length
 run:∀(A:Around) (outer:List Env) (s:Shared) (H:Hp) (args:Args) (us:List Value) (vs:List V) (Q:VK) (E:XK),bG k A->nO P w K mg base A outer s H->BindsTo s fd args (ps.zip us)->Vals vs us->sp vs H Q E->
  codeAny (model P w) A (.call (.ref f) args) (CR CX outer P w H s Q E) s
def aA.imp{P:Program}{w:World}{K:PySem.W.Frag}{mg:Str->Option Value}{base:Heap}{CX:iQ}{k:Nat}{f:Addr}{fd:FuncData}{ps:List Str}{sp Mf:Sp}(F:aA P w K mg base CX k f fd ps sp)
  (h:∀vs H Q E,Mf vs H Q E->sp vs H Q E):aA P w K mg base CX k f fd ps Mf:=
 ⟨λvs H Q E q=>F.len vs H Q E (h _ _ _ _ q),λA outer s H args us vs Q E hr he hb hv hs=>F.run A outer s H args us vs Q E hr he hb hv (h _ _ _ _ hs)⟩
def nO.make{P:Program}{w:World}{K:PySem.W.Frag}{mg:Str->Option Value}{base:Heap}{A:Around}{outer:List Env}{s:Shared}{H:Hp}(e:nO P w K mg base A outer s H)(C:Addr)(us:List Value)(kw:List (Str×Value)):
  nO P w K mg base (A.under (.builtin "type.__call__" ⟨.ref C::us,kw⟩)) outer s H:=⟨by first|exact e.frames|(simpa[Around.under,Code.envs,Code.isFrame,pushEnvs]using e.frames),e.mod,e.bs,e.iP,e.gj,e.mz,e.ao,e.bare⟩
section
variable {X:Cx}{pins:List (Addr×Obj)}{σ:St}{H:Hp}{s s':Shared}
def Inv.AB(I:Inv X pins σ H s):nO X.prog X.w X.K X.mg X.base X.A X.stack s H:=
 ⟨I.ok.frames,I.ok.mod,I.bs,ZQ I.ok.iP I.sz,I.stack,I.o6,I.ao,I.bare⟩
def Inv.after{Q:VK}{u:Value}(I:Inv X pins σ H s)(h:CE X.stack X.prog X.w H s Q u s'):EP X pins σ Q u s':=by
 obtain⟨v,H',os,bare,un,ao,r,q⟩:=h;obtain⟨hh,g,d,t,os'⟩:=s';obtain rfl:os'=s.os:=os;exact⟨v,H',I.call (h':=hh) (g':=g) (d':=d) (t':=t) (ch:=[]) un ao bare (λb z=>absurd z (by simp)),r,q⟩
end
def uD(sp:Sp)(b4:List V)(E:XK)(t:TA):TE:=λσ H Q=>t σ H λvs H1=>sp (vs++b4) H1 Q E
inductive JB(C:Addr)(m:Str)(sp:Sp)(b4:List V)(E:XK)(t:TA)(σ:St)(Q:VK)(x:V)(H1:Hp):Prop
 |mk (a dx:Addr) (fs:List (Str×V)) (_:x=.ref a) (_:H1 a=some (.ins C dx fs)) (_:fs.lookup m=none) (_:t σ H1 λvs H2=>sp (x::(vs++b4)) H2 Q E):JB C m sp b4 E t σ Q x H1
def ji(C:Addr)(m:Str)(sp:Sp)(b4:List V)(E:XK)(ta:TE)(t:TA):TE:=λσ H Q=>ta σ H λx H1=>JB C m sp b4 E t σ Q x H1
def KG(C:Addr)(sp:Sp)(b4:List V)(E:XK)(t:TA):TE:=λσ H Q=>t σ H λvs H1=>∀x dx,H1 x=none->H1 dx=none->dx≠x->
 sp (.ref x::(vs++b4)) (upd (upd H1 dx (.own x)) x (.ins C dx [])) (λv H2=>v=.aE/\Q (.ref x) H2) E
def Binds(K:PySem.W.Frag)(fd:FuncData)(ps:List Str)(ds:List Value):Prop:=
 ∀(s:Shared) (us:List Value),K.In s.heap->(us++ds).length=ps.length->BindsTo s fd ⟨us,[]⟩ (ps.zip (us++ds))
def Binds.all{K:PySem.W.Frag}{fd:FuncData}{ps:List Str}(h:∀us:List Value,us.length=ps.length->bindArgs fd ⟨us,[]⟩=pure (ps.zip us)):Binds K fd ps []:=λs us _ hl=>by
 rw[ZX]at hl⊢;exact .of_eq (h us hl)
def Passes(CX:iQ)(X:Cx)(E:XK):Prop:=∀(pins:List (Addr×Obj)) (σ:St) (H:Hp) (s:Shared) (e:Value) (s':Shared),Inv X pins σ H s->CX X.stack H s E e s'->X.xe e s'
section
variable {X:Cx}{CX:iQ}{k:Nat}{f C:Addr}{fd:FuncData}{ps:List Str}{sp:Sp}{b4:List V}{ds:List Value}{E:XK}{x m:Str}{p pos apos:Pos}{e o:Expr}{es:List Expr}{ta:TE}{t:TA}
def zr{pins:List (Addr×Obj)}{σ:St}{H:Hp}{s:Shared}{Q:VK}{us:List Value}{vs:List V}(F:aA X.prog X.w X.K X.mg X.base CX k f fd ps sp)(hr:bG k X.A)(hb:Binds X.K fd ps ds)(hd:Vals b4 ds)(hx:Passes CX X E)
  (I:Inv X pins σ H s)(r:Vals vs us)(h:sp (vs++b4) H Q E):wpAny (model X.prog X.w) X.A (call (.ref f) us) (EP X pins σ Q) X.xe s:=by
 have r2:Vals (vs++b4) (us++ds):=r.append hd;have hl:(us++ds).length=ps.length:=by rw[<-r2.length];exact F.len _ _ _ _ h
 refine wpAny_call (codeAny_mono (F.run X.A X.stack s H ⟨us,[]⟩ (us++ds) (vs++b4) Q E hr I.AB (hb s us I.eX hl) r2 h) λr s' hq=>?_);cases r with
 |error e=>exact hx pins σ H s e s' I hq
 |ok fl=>
  cases fl with
  |ret u=>exact I.after hq
  |next=>exact Zu hq
  |brk=>exact Zu hq
  |cont=>exact Zu hq
def HY(F:aA X.prog X.w X.K X.mg X.base CX k f fd ps sp)(hr:bG k X.A)(hg:Gl X x)(hm:X.mg x=some (.ref f))(hk:PySem.W.keepIn X.K (.ref f)=true)(hb:Binds X.K fd ps ds)(hd:Vals b4 ds)(hx:Passes CX X E)
  (ha:PA X (e::es) t)(eZ:(x==("__debug__":Str))=false:=by decide)(he:starEach (e::es) X.env=(false,eval e X.env)::starEach es X.env:=by rfl)(bL:(backTo pos (starEach es X.env)).any (·.1)=false:=by rfl):
  PE X (.Call (.Name x p) (e::es) [] pos) (uD sp b4 E t):=by
 intro pins s σ H Q I h;refine wpAny_Call_Name_kw (qN I hg hm ?_ eZ);refine PySem.W.callWith_K (h₀:=X.base) I.ok.mod.nV hk (az (ha pos pins s σ H _ I h) λus s1 ⟨vs,H1,I1,r,q⟩=>⟨I1.eX,?_⟩) he bL;exact zr F hr hb hd hx I1 r q
def yJ{pl:Sem Bool}(he:PE X o ta)(c:dM X.K C)(hm:Meth X.K C m f)(F:aA X.prog X.w X.K X.mg X.base CX k f fd ps sp)(hr:bG k X.A)(hb:Binds X.K fd ps ds)(hd:Vals b4 ds)(hx:Passes CX X E)(ha:PA X (e::es) t)
  (bz:starEach (e::es) X.env=(false,eval e X.env)::starEach es X.env:=by rfl)(bL:(backTo pos (starEach es X.env)).any (·.1)=false:=by rfl)
  (ht:eval (.Call (.Attribute o m apos) (e::es) [] pos) X.env=(do
   let ov<-eval o X.env
   standAt apos.atName
   let(f,first)<-holding [ov] (getMethod ov m pl)
   callWith pos f first (backTo pos (starEach (e::es) X.env)) (backToKw pos (keywordEach [] X.env))):=by rfl):
  PE X (.Call (.Attribute o m apos) (e::es) [] pos) (ji C m sp b4 E ta t):=by
 intro pins s σ H Q I h;refine PySem.W.methodCall_KW (pl:=pl) (az (he pins s σ H _ I h) λu s1 ⟨x,H1,I1,rx,a,dx,fs,ex,ea,l,q⟩=>?_) ht;subst ex;obtain rfl:u=Value.ref a:=rx;refine xM I1 ea c hm l ?_;refine PySem.W.callWith_K (first:=[.ref a]) (h₀:=X.base) I.ok.mod.nV hm.kp (az (ha pos pins s1 σ H1 _ I1 q) λus s2 ⟨vs,H2,I2,r,q2⟩=>⟨I2.eX,?_⟩) bz bL;exact zr (us:=.ref a::us) (vs:=.ref a::vs) F hr hb hd hx I2 (.cons rfl r) q2
def yj{pl:Sem Bool}(he:PE X o ta)(c:dM X.K C)(hm:Meth X.K C m f)(F:aA X.prog X.w X.K X.mg X.base CX k f fd ps sp)(hr:bG k X.A)(hb:Binds X.K fd ps ds)(hd:Vals b4 ds)(hx:Passes CX X E)
  (ht:eval (.Call (.Attribute o m apos) [] [] pos) X.env=(do
   let ov<-eval o X.env
   standAt apos.atName
   let(f,first)<-holding [ov] (getMethod ov m pl)
   callWith pos f first (backTo pos (starEach [] X.env)) (backToKw pos (keywordEach [] X.env))):=by rfl):
  PE X (.Call (.Attribute o m apos) [] [] pos) (ji C m sp b4 E ta jT):=by
 intro pins s σ H Q I h;refine PySem.W.methodCall_KW (pl:=pl) (az (he pins s σ H _ I h) λu s1 ⟨x,H1,I1,rx,a,dx,fs,ex,ea,l,q⟩=>?_) ht;subst ex;obtain rfl:u=Value.ref a:=rx;refine xM I1 ea c hm l ?_;exact PySem.W.callWith_K0 (first:=[.ref a]) I1.eX hm.kp (zr (us:=[.ref a]) (vs:=[.ref a]) F hr hb hd hx I1 (.cons rfl .nil) q)
structure Mk(K:PySem.W.Frag)(C f:Addr):Prop where
 makes:PySem.W.makesIn K C=true
 init:PySem.W.findIn K (.ref C) "__init__"=some (some (.ref f))
 fn:PySem.W.isFn K (.ref f)=true
 kp:PySem.W.keepIn K (.ref C)=true
def Ua{pins:List (Addr×Obj)}{σ:St}{H:Hp}{s:Shared}{Q:VK}{us:List Value}{vs:List V}(M:Mk X.K C f)(F:aA X.prog X.w X.K X.mg X.base CX k f fd ps sp)(hr:bG (k+1) X.A)(hb:Binds X.K fd ps ds)(hd:Vals b4 ds)
  (hx:Passes CX X E)(I:Inv X pins σ H s)(r:Vals vs us)
  (h:∀x dx,H x=none->H dx=none->dx≠x->sp (.ref x::(vs++b4)) (upd (upd H dx (.own x)) x (.ins C dx [])) (λv H2=>v=.aE/\Q (.ref x) H2) E):
  wpAny (model X.prog X.w) X.A (call (.ref C) us) (EP X pins σ Q) X.xe s:=by
 have hq:=h (s.heap.objs.size+1) s.heap.objs.size (I.ao.fresh (Nat.le_succ _)) (I.ao.fresh (Y3 _)) (Zn (Nat.lt_succ_self _));have I2:=Inv.made (C:=C) I;have r2:Vals (V.ref (s.heap.objs.size+1)::(vs++b4)) (Value.ref (s.heap.objs.size+1)::(us++ds)):=.cons rfl (r.append hd)
 have hl:(Value.ref (s.heap.objs.size+1)::us++ds).length=ps.length:=by
  have e:=r2.length;rw[F.len _ _ _ _ hq]at e;exact e.symm
 refine wpAny_call (T9 (f:=f) I.eX M.makes M.init (beq_iff_eq.mp M.fn) (codeAny_mono (F.run _ X.stack _ _ ⟨Value.ref (s.heap.objs.size+1)::us,[]⟩ (Value.ref (s.heap.objs.size+1)::(us++ds)) _ _ E (hr.make C us [])
  (I2.AB.make C us []) (hb _ (Value.ref (s.heap.objs.size+1)::us) I2.eX hl) r2 hq) λr s' mC=>?_))
 cases r with
 |error e=>exact hx pins σ _ _ e s' I2 mC
 |ok fl=>
  cases fl with
  |ret u=>
   obtain⟨v,H',I3,rv,ev,q3⟩:=I2.after mC;subst ev;exact⟨rv,⟨V.ref (s.heap.objs.size+1),H',I3,rfl,q3⟩⟩
  |next=>exact Zu mC
  |brk=>exact Zu mC
  |cont=>exact Zu mC
def Wd(M:Mk X.K C f)(F:aA X.prog X.w X.K X.mg X.base CX k f fd ps sp)(hr:bG (k+1) X.A)(hg:Gl X x)(hm:X.mg x=some (.ref C))(hb:Binds X.K fd ps ds)(hd:Vals b4 ds)(hx:Passes CX X E)
  (ha:PA X (e::es) t)(eZ:(x==("__debug__":Str))=false:=by decide)(he:starEach (e::es) X.env=(false,eval e X.env)::starEach es X.env:=by rfl)(bL:(backTo pos (starEach es X.env)).any (·.1)=false:=by rfl):
  PE X (.Call (.Name x p) (e::es) [] pos) (KG C sp b4 E t):=by
 intro pins s σ H Q I h;refine wpAny_Call_Name_kw (qN I hg hm ?_ eZ);refine PySem.W.callWith_K (h₀:=X.base) I.ok.mod.nV M.kp (az (ha pos pins s σ H _ I h) λus s1 ⟨vs,H1,I1,r,q⟩=>⟨I1.eX,?_⟩) he bL;exact Ua M F hr hb hd hx I1 r q
end
structure aM(N P:List Str)(sc:Scope):Prop where
 kind:sc.kind=.function
 co:sc.isCoroutine=false
 gen:sc.isGenerator=false
 nd:N.Nodup
 pre:N.take P.length=P
 par:∀x∈P,sc.names.lookup x=some .local\/sc.names.lookup x=some .cell
 X2:∀y∈sc.names,y.2≠.free
def E9{kindOf:Str->Option NameKind}{x:Str}:∀{binds:List (Str×Value)}{m:Str->Option Value},(∀v,(x,v)∉binds)->bindL kindOf binds m x=m x
 |[],_,_=>rfl
 |(n,v)::r,m,h=>by
  unfold bindL;rw[E9 λw hw=>h w (Y4 _ hw)];split
  ·have:x≠n:=by rintro rfl;exact h v Y9
   simp[this]
  ·rfl
def Fb{kindOf:Str->Option NameKind}{x:Str}:∀{binds:List (Str×Value)}{m:Str->Option Value},(∀v,(x,v)∉binds)->bindC kindOf binds m x=m x
 |[],_,_=>rfl
 |(n,v)::r,m,h=>by
  unfold bindC;rw[Fb λw hw=>h w (Y4 _ hw)];split
  ·rfl
  ·have:x≠n:=by rintro rfl;exact h v Y9
   simp[this]
def Fc{kindOf:Str->Option NameKind}{x:Str}{v:Value}:∀{P:List Str}{vs:List Value}{i:Nat}{m:Str->Option Value},P.Nodup->P[i]?=some x->vs[i]?=some v->kindOf x=some .local->
  bindL kindOf (P.zip vs) m x=some v
 |[],_,_,_,_,h,_,_=>by simp at h
 |_::_,[],_,_,_,_,h,_=>by simp at h
 |p::P,w::vs,0,m,nd,h1,h2,hk=>by
  simp at h1 h2;subst h1;subst h2;show bindL kindOf ((p,w)::P.zip vs) m p=_;unfold bindL;rw[E9 λv hv=>(ZG.mp nd).1 (List.of_mem_zip hv).1,if_pos hk];simp
 |p::P,w::vs,i+1,m,nd,h1,h2,hk=>by
  show bindL kindOf ((p,w)::P.zip vs) m x=_;unfold bindL;exact Fc (i:=i) (ZG.mp nd).2 (by simpa using h1) (by simpa using h2) hk
def Fd{kindOf:Str->Option NameKind}{x:Str}{v:Value}:∀{P:List Str}{vs:List Value}{i:Nat}{m:Str->Option Value},P.Nodup->P[i]?=some x->vs[i]?=some v->kindOf x≠some .local->
  bindC kindOf (P.zip vs) m x=some v
 |[],_,_,_,_,h,_,_=>by simp at h
 |_::_,[],_,_,_,_,h,_=>by simp at h
 |p::P,w::vs,0,m,nd,h1,h2,hk=>by
  simp at h1 h2;subst h1;subst h2;show bindC kindOf ((p,w)::P.zip vs) m p=_;unfold bindC;rw[Fb λv hv=>(ZG.mp nd).1 (List.of_mem_zip hv).1,if_neg hk];simp
 |p::P,w::vs,i+1,m,nd,h1,h2,hk=>by
  show bindC kindOf ((p,w)::P.zip vs) m x=_;unfold bindC;exact Fd (i:=i) (ZG.mp nd).2 (by simpa using h1) (by simpa using h2) hk
def start(N:List Str)(vs:List V):St:=vs.map some++List.replicate (N.length-vs.length) none
def fG(CX:iQ)(P:Program)(w:World)(K:PySem.W.Frag)(mg:Str->Option Value)(base:Heap)(N:List Str)(qual:Str)(scope:Scope)(f:Addr)(cd:Value)(A:Around)(outer:List Env)(s:Shared)(H:Hp)(E:XK):Cx where
 prog:=P
 w:=w
 K:=K
 mg:=mg
 base:=base
 A:=A.deeper (envOfC qual scope s.heap.objs.size f cd)
 N:=N
 s₀:=s
 H₀:=H
 env:=envOfC qual scope s.heap.objs.size f cd
 outer:=outer
 stack:=envOfC qual scope s.heap.objs.size f cd::outer
 ex:=[]
 calm:=true
 fn:=λ_=>true
 pn:=[]
 xe:=λe s'=>wpAny (model P w) (A.deeper (envOfC qual scope s.heap.objs.size f cd)) (leaving (envOfC qual scope s.heap.objs.size f cd) e) (λ_ A7=>CX outer H s E e A7) (λe' A7=>CX outer H s E e' A7) s'
def GB{sc:Scope}{n:Nat}{x:Str}(h:sc.names.lookup x=some .cell):∃c,(cellsFrom n sc.names []).lookup x=some c:=by
 have q:=PySem.W.cellsFrom_some sc.names n [] (.inl h);exact Option.isSome_iff_exists.mp q
def RQ{CX:iQ}{P:Program}{w:World}{K:PySem.W.Frag}{mg:Str->Option Value}{base:Heap}{N ps:List Str}{qual:Str}{scope:Scope}{f:Addr}{cd:Value}{A:Around}{outer:List Env}{s s1:Shared}{H:Hp}{E:XK}{us:List Value}{vs:List V}
  (S:aM N ps scope)(hd:A.handled=none)(e0:nO P w K mg base A outer s H)(hl:vs.length=ps.length)(r:Vals vs us)
  (x:InCallC s s.heap.objs.size (bindL (envOfC qual scope s.heap.objs.size f cd).kindOf (ps.zip us) λ_=>none) (cellsFrom (s.heap.objs.size+1) scope.names []) (bindC (envOfC qual scope s.heap.objs.size f cd).kindOf (ps.zip us) λ_=>none) s1):
  Inv (fG CX P w K mg base N qual scope f cd A outer s H E) [] (start N vs) H s1:=by
 have bL:ps.length<=N.length:=by have:=congrArg List.length S.pre;rw[Zx]at this;omega
 obtain⟨h1,tk,rfl,hk⟩:=x.done;have sg:∀b:Addr,b∉(fG CX P w K mg base N qual scope f cd A outer s H E).ex:=λb z=>absurd (show b∈([]:List Addr)from z) (by simp)
 refine⟨⟨e0.mod,S.kind,rfl,rfl,Y3 _,λy z c h1 h2=>?_,λy hy=>?_,λy c _ h=>?_,λ_=>hd,Around.frames_deeper e0.frames,.inr ⟨rfl,rfl⟩,λb z=>absurd z (sg b),e0.bs,e0.iP,λb _ _=>sg b,λb z=>absurd z (sg b),e0.gj,e0.mz⟩,
  rfl,e0.bare,Un.kept hk,⟨_,x.toInCall.ns,λi y v h1 h2 h3=>?_⟩,λy c h=>⟨_,x.cell y c h⟩,e0.ao.fresh (Y3 _),λy c h=>?_,λp hp=>absurd (show p∈([]:List (Addr×Obj))from hp) (by simp),e0.ao.kept hk,?_⟩
 ·exact name_of_addr x.apart (ZM h1) (ZM h2)
 ·have hy:scope.names.lookup y=some .cell\/scope.names.lookup y=some .free:=hy;rcases hy with hy|hy
  ·exact GB hy
  ·exact absurd rfl (S.X2 _ (ZM hy))
 ·exact Z1 (x.above y c (ZM h))
 ·have hi:i<vs.length:=by
   unfold start at h2;by_cases hi:i<vs.length
   ·exact hi
   ·rw[Zt (by simpa using hi)]at h2;rw[ZS]at h2;split at h2<;>cases h2
  have ha:vs[i]?=some v:=by
   unfold start at h2;rw[Zs (by simpa using hi),Zf]at h2;cases e:vs[i]? with
   |none=>rw[e]at h2;cases h2
   |some a=>rw[e]at h2;cases h2;rfl
  obtain⟨u,hu,rv⟩:=r.get ha
  have hp:ps[i]?=some y:=by
   rw[<-S.pre,List.getElem?_take_of_lt (by omega)];exact h1
  have Mg:ps.Nodup:=by rw[<-S.pre];exact S.nd.sublist (List.take_sublist _ _)
  refine⟨u,rv,?_⟩;rcases S.par y (Y6 hp)with k|k
  ·exact .inl ⟨k,Fc Mg hp hu k⟩
  ·obtain⟨c,e⟩:=GB (n:=s.heap.objs.size+1) k;refine .inr ⟨.inl k,c,e,?_⟩;have q:=x.cell y c e;rw[Fd Mg hp hu (by show scope.names.lookup y≠_;rw[k];decide)]at q;exact q
 ·exact e0.ao.fresh (Z1 (x.above y c (ZM h)))
 ·unfold start;show _=N.length;rw[Zo,Y1,ZR];omega
def KH{CX:iQ}{P:Program}{w:World}{K:PySem.W.Frag}{mg:Str->Option Value}{base:Heap}{k:Nat}{f:Addr}{name qual:Str}{params:Arguments}{body:List Stmt}{scope:Scope}{dV kV doc pm au ct oc:Value}{an od:Option Addr}
  {jx:Array (Option Value)}{N ps:List Str}{sp:Sp}(lk:K.lookup f=some ⟨oc,od,.func (PySem.W.fnOf name qual params body scope dV kV doc pm an au ct),jx⟩)(b5:PySem.W.codeIn K au qual=true)(S:aM N ps scope)
  (len:∀vs H Q E,sp vs H Q E->vs.length=ps.length)
  (rE:∀(A:Around) (outer:List Env) (s:Shared) (H:Hp) (vs:List V) (Q:VK) (E:XK),bG k (A.deeper (envOfC qual scope s.heap.objs.size f au))->sp vs H Q E->
   ∃t,cW (fG CX P w K mg base N qual scope f au A outer s H E) body t/\t {nx:=λ_ H'=>Q .aE H',rt:=Q} (start N vs) H):
  aA P w K mg base CX (k+1) f (PySem.W.fnOf name qual params body scope dV kV doc pm an au ct) ps sp:=by
 refine⟨len,λA outer s H args us vs Q E hr e0 hb r jY=>?_⟩;have hl:=len _ _ _ _ jY;have KX:K.In s.heap:=e0.mod.nV.keeps λb o e=>(e0.bs b o e).1;have lim:s.heap.NoLimit:=e0.mod.nolimit.keeps λb o e=>(e0.bs b o e).1
 have dX:∀y∈ps.zip us,scope.names.lookup y.1=some .local\/(scope.names.lookup y.1=some .cell/\((cellsFrom (s.heap.objs.size+1) scope.names []).lookup y.1).isSome=true):=λ⟨n,v⟩ hy=>by
  rcases S.par n (List.of_mem_zip hy).1 with q|q
  ·exact .inl q
  ·exact .inr ⟨q,PySem.W.cellsFrom_some _ _ _ (.inl q)⟩
 refine codeAny_call_function hr.depth (KX _ _ lk) rfl S.co S.gen rfl (PySem.W.codeRec_of KX b5) (hb _ _ _ _ ?_);refine wpAny_newFunctionEnv_cells S.kind dX λenv he s1 x=>?_;subst he;refine⟨lim.keeps x.toInCall.keep,codeAny_func ?_⟩;obtain⟨t,ht,hq⟩:=rE A outer s H vs Q E (hr.deeper _) jY;have I:Inv (fG CX P w K mg base N qual scope f au A outer s H E) [] (start N vs) H s1:=RQ S hr.hd e0 hl r x;refine wpAny_mono (ht [] s1 (start N vs) H _ I hq) (λfl s' hs=>?_) λe s' hs=>hs
 have fin:∀{σ':St}{H':Hp}{v:V}{u:Value},Inv (fG CX P w K mg base N qual scope f au A outer s H E) [] σ' H' s'->RelV v u->Q v H'->CE outer P w H s Q u s':=
  λ{σ' H' v u} J rv q=>⟨v,H',J.os,J.bare,J.base,J.ao,rv,q⟩
 cases fl with
 |ret u=>
  obtain⟨v,σ',H',J,rv,q⟩:=hs;exact fin J rv q
 |next=>
  obtain⟨σ',H',J,q⟩:=hs;exact fin (v:=V.aE) (u:=Value.none) J rfl q
 |brk=>
  obtain⟨_,_,_,q⟩:=hs;exact Zu q
 |cont=>
  obtain⟨_,_,_,q⟩:=hs;exact Zu q
section
variable {X:Cx}{x:Str}{p pos:Pos}{e:Expr}{es:List Expr}{t:TA}{id T:String}{r:List V->Hp->VK->Prop}
def Mh(r:List V->Hp->VK->Prop)(t:TA):TE:=λσ H Q=>t σ H λvs H1=>r vs H1 Q
def bB(hc:gF X (.builtin id) r)(hg:Gl X x)(hm:X.mg x=none)(hv:bootBuiltins x=some (.builtin id))(ha:PA X (e::es) t)(hn:x≠"__name__":=by decide)(eZ:(x==("__debug__":Str))=false:=by decide)
  (he:starEach (e::es) X.env=(false,eval e X.env)::starEach es X.env:=by rfl)(bL:(backTo pos (starEach es X.env)).any (·.1)=false:=by rfl):PE X (.Call (.Name x p) (e::es) [] pos) (Mh r t):=by
 intro pins s σ H Q I h;refine wpAny_Call_Name_kw (pw I hg hm hv ?_ hn eZ);exact PyProof.Rows.callWith_builtin1 (az (ha pos pins s σ H _ I h) λus s1 ⟨vs,H1,I1,r1,q1⟩=>hc pins s1 σ H1 vs us Q I1 r1 q1) he bL
def lJ(hc:gF X (.type T) r)(hg:Gl X x)(hm:X.mg x=none)(hv:bootBuiltins x=some (.type T))(ha:PA X (e::es) t)(hn:x≠"__name__":=by decide)(eZ:(x==("__debug__":Str))=false:=by decide)
  (he:starEach (e::es) X.env=(false,eval e X.env)::starEach es X.env:=by rfl)(bL:(backTo pos (starEach es X.env)).any (·.1)=false:=by rfl):PE X (.Call (.Name x p) (e::es) [] pos) (Mh r t):=by
 intro pins s σ H Q I h;refine wpAny_Call_Name_kw (pw I hg hm hv ?_ hn eZ);exact PyProof.Rows.callWith_type1 (az (ha pos pins s σ H _ I h) λus s1 ⟨vs,H1,I1,r1,q1⟩=>hc pins s1 σ H1 vs us Q I1 r1 q1) he bL
end
end L2
namespace HT
open PySem PyProof.Rows
section
variable {prog:Program}{w:World}{A:Around}{E:Value->Shared->Prop}{s:Shared}
def We{t b:Addr}{vs ws:List Value}{Q:Value->Shared->Prop}(ht:IsTup s.heap t vs.toArray)(hb:IsTup s.heap b ws.toArray)(hv:vs≠[])
  (h1:ws=[]->Q (.ref t) s)(h2:ws≠[]->Q (.ref s.heap.objs.size) {s with heap:=s.heap.push {cls:=.type "tuple",data:=.seq (vs++ws).toArray}})
  (hsz:vs.length+ws.length<=sizeLine):wpAny (model prog w) A (binaryOp .Add (.ref t) (.ref b)) Q E s:=by
 obtain⟨⟨cls,dd,data,sl⟩,ho,hc,n,hd⟩:=id ht;obtain⟨⟨acH,Mi,data2,Mj⟩,vg,A8,n2,hd2⟩:=id hb;simp only at hc hd A8 hd2;subst hc hd A8 hd2;have e:vs.toArray++ws.toArray=(vs++ws).toArray:=by simp
 by_cases hw:ws=[]
 ·exact concat_meets ⟨_,ho,rfl⟩ ⟨_,vg,rfl⟩ noFill_tuple_add seq_tuple_add PySem.F.slot_tuple_add PySem.F.entry_tuple_add (PySem.F.args_tuple_add_2 _ _)
   (tuple_addW1 t b vs.toArray ws.toArray n n2 dd Mi sl Mj (by simpa using hv) (by simp[hw])) ⟨ho,vg,h1 hw⟩
 ·refine concat_meets ⟨_,ho,rfl⟩ ⟨_,vg,rfl⟩ noFill_tuple_add seq_tuple_add PySem.F.slot_tuple_add PySem.F.entry_tuple_add (PySem.F.args_tuple_add_2 _ _)
   (tuple_addW2 t b vs.toArray ws.toArray n n2 dd Mi sl Mj (by simpa using hv) (by simpa using hw) (by rw[Zl,Zl];exact hsz)) ⟨ho,vg,?_⟩
  rw[e];exact h2 hw
def aX(n d:Nat):Option Int->Nat
 |none=>d
 |some v=>if v<0 then(v+(n:Int)).toNat else min v.toNat n
def GC(n d:Nat):aX n d none=d:=rfl
def ue(n d k:Nat):aX n d (some (k:Int))=min k n:=by
 show(if(k:Int)<0 then((k:Int)+(n:Int)).toNat else min (k:Int).toNat n)=min k n;rw[if_neg (by omega),Za]
def X3(n d:Nat)(hd:d<=n)(o:Option Int):aX n d o<=n:=by
 cases o with
 |none=>exact hd
 |some v=>
  show(if v<0 then(v+(n:Int)).toNat else min v.toNat n)<=n;by_cases hv:v<0
  ·rw[if_pos hv];omega
  ·rw[if_neg hv];exact Nat.min_le_right _ _
def HZ(v:Int)(n d:Nat):(if v<0 then max (v+(n:Int)) 0 else min v (n:Int))=((aX n d (some v):Nat):Int):=by
 show(if v<0 then max (v+(n:Int)) 0 else min v (n:Int))=(((if v<0 then(v+(n:Int)).toNat else min v.toNat n):Nat):Int);by_cases hv:v<0
 ·simp only[if_pos hv];omega
 ·simp only[if_neg hv];omega
def QL(lo hi:Option Int)(n:Nat):Builtin.Slice.sliceAdjust lo hi 1 (n:Int)=(((aX n 0 lo:Nat):Int),((aX n n hi:Nat):Int)):=by
 have h1:¬((1:Int)<0):=by omega
 unfold Builtin.Slice.sliceAdjust;simp only[h1,if_false];refine Prod.ext ?_ ?_
 ·cases lo with
  |none=>rfl
  |some v=>exact HZ v n 0
 ·cases hi with
  |none=>rfl
  |some v=>exact HZ v n n
def QM(i j:Nat):Builtin.Slice.slicePlaces (i:Int) (j:Int) 1=j-i:=by
 unfold Builtin.Slice.slicePlaces;have h1:(1:Int)>0:=by omega
 simp only[h1,if_true,Int.ediv_one];split<;>omega
def EF{v:Value}{o:Option Int}{Q:Option Int->Shared->Prop}(p:IsPart v o)(h:Q o s):wpAny (model prog w) A (Builtin.Slice.slicePartIndex v) Q E s:=by
 cases p with
 |none=>exact slicePart_none h
 |int i t=>exact slicePart_int h
def OH{sl:Addr}{vl vu:Value}{lo hi:Option Int}{n:Nat}{Q:Int×Int×Nat->Shared->Prop}(hs:s.heap.IsSliceOf sl vl vu .none)(pl:IsPart vl lo)(pu:IsPart vu hi)
  (h:Q (((aX n 0 lo:Nat):Int),1,aX n n hi-aX n 0 lo) s):wpAny (model prog w) A (Builtin.Slice.sliceApplied (.ref sl) (pure (n:Int))) Q E s:=by
 obtain⟨os,sh,Ml,vh⟩:=id hs;unfold Builtin.Slice.sliceApplied Builtin.Slice.sliceFields;refine wpAny_bind (wpAny_bind (wpAny_field sh vh (x:=vl) rfl (wpAny_bind (wpAny_field sh vh (x:=vu) rfl (wpAny_bind (wpAny_field sh vh (x:=.none) rfl (ZV ?_)))))));refine wpAny_bind (slicePart_none ?_);show wpAny _ _ (if((1:Int)==0)=true then _ else _) _ _ s;rw[if_neg (by decide)];refine wpAny_bind (EF pl (wpAny_bind (EF pu (wpAny_bind (ZV ?_)))));show wpAny _ _ (match Builtin.Slice.sliceAdjust lo hi 1 (n:Int)with|(lo,hi)=>pure (lo,(1:Int),Builtin.Slice.slicePlaces lo hi 1)) _ _ s;rw[QL lo hi n];show wpAny _ _ (pure (((aX n 0 lo:Nat):Int),(1:Int),Builtin.Slice.slicePlaces ((aX n 0 lo:Nat):Int) ((aX n n hi:Nat):Int) 1)) _ _ s;rw[QM];exact ZV h
def Ub(xs:Array Value)(i k:Nat):((List.range k).filterMap λ(m:Nat)=>xs[((i:Int)+(m:Int)*1).toNat]?).toArray=((xs.toList.drop i).take k).toArray:=by
 have e:(λ(m:Nat)=>xs[((i:Int)+(m:Int)*1).toNat]?)=λm=>xs[i+m]?:=by
  funext m
  have:((i:Int)+(m:Int)*1).toNat=i+m:=by omega
  rw[this]
 rw[e];have:=pick_run xs i k;rw[List.filterMap_map]at this;have e2:((λx=>xs[x]?)∘λx=>i+x)=λm=>xs[i+m]?:=rfl;rw[e2]at this;rw[this]
def OC{t sl:Addr}{items:Array Value}{vl vu:Value}{lo hi:Option Int}{Q:Value->Shared->Prop}(ht:IsTup s.heap t items)(hs:s.heap.IsSliceOf sl vl vu .none)(pl:IsPart vl lo)(pu:IsPart vu hi)
  (hw:¬(aX items.size 0 lo=0/\aX items.size items.size hi=items.size))
  (h:Q (.ref s.heap.objs.size) {s with heap:=s.heap.push {cls:=.type "tuple",data:=.seq ((items.toList.drop (aX items.size 0 lo)).take (aX items.size items.size hi-aX items.size 0 lo)).toArray}})
  (hsz:items.size<=sizeLine):wpAny (model prog w) A (getItem (.ref t) (.ref sl)) Q E s:=by
 have uE:sizeOk (.seq ((items.toList.drop (aX items.size 0 lo)).take (aX items.size items.size hi-aX items.size 0 lo)).toArray):=by
  show((items.toList.drop (aX items.size 0 lo)).take (aX items.size items.size hi-aX items.size 0 lo)).toArray.size<=sizeLine;rw[Zl,Zx,ZJ,Array.length_toList];omega
 have hj:aX items.size items.size hi<=items.size:=X3 _ _ (Y3 _) hi;obtain⟨os,sh,Ml,vh⟩:=id hs;have hTs:s.TypeIs (.ref sl) "slice":=⟨os,sh,Ml⟩;unfold getItem
 try with_reducible refine wpAny_holding ?_
 first|refine wpAny_bind (ZV ?_)|skip
 refine wpAny_bind (wpAny_sequenceKey ht.typeIs (by decide) ?_)
 refine wpAny_bind (wpAny_callSpecial?_slot (name:=Str.ofString "__getitem__") ht.typeIs PyProof.Rows.slot_tuple_getitem
  (wpAny_call_entry PyProof.Rows.slot_tuple_getitem ht.typeIs entry_tuple_getitem ?_ (args_tuple_getitem _ _)))
 show wpAny _ _ (Builtin.Tuple.tupleItemsOf (.ref t)>>=_) _ _ s;refine wpAny_bind (tupleItemsOf_ ht ?_);refine wpAny_bind (wpAny_typeOf hTs ?_);rw[if_pos (by decide)];refine wpAny_bind (OH hs pl pu ?_)
 have vi:¬((((aX items.size 0 lo:Nat):Int)==0&&(1:Int)==1&&(aX items.size items.size hi-aX items.size 0 lo)==items.size)=true):=by
  intro q;rw[Bool.and_eq_true,Bool.and_eq_true]at q;have q1:((aX items.size 0 lo:Nat):Int)=0:=eq_of_beq q.1.1;have q2:aX items.size items.size hi-aX items.size 0 lo=items.size:=eq_of_beq q.2;exact hw ⟨by omega,by omega⟩
 show wpAny _ _ (if(((aX items.size 0 lo:Nat):Int)==0&&(1:Int)==1&&(aX items.size items.size hi-aX items.size 0 lo)==items.size)=true then _ else _) _ _ s;rw[if_neg vi,Ub]
 first
  |exact wpAny_bind (m:=Builtin.Tuple.tupleExact _) (wpAny_newObj_type (ZV ⟨_,rfl,ZV h⟩) uE)
  |exact wpAny_bind (m:=Builtin.Tuple.tupleExact _) (wpAny_newObj_type (wpAny_bind (ZV (ZV ⟨_,rfl,ZV h⟩))) uE)
  |exact wpAny_bind (wpAny_bind (m:=Builtin.Tuple.tupleExact _) (wpAny_newObj_type (ZV (ZV ⟨_,rfl,ZV h⟩)) uE))
  |exact wpAny_bind (wpAny_bind (m:=Builtin.Tuple.tupleExact _) (wpAny_newObj_type (ZV ⟨_,rfl,ZV h⟩) uE))
end
end HT
namespace L2
open PySem PySem.Spec PyProof.Rows
abbrev TO:=St->Hp->(Option Int->Hp->Prop)->Prop
def PO(X:Cx)(e:Option Expr)(t:TO):Prop:=
 ∀(pins:List (Addr×Obj)) (s:Shared) (σ:St) (H:Hp) (Q:Option Int->Hp->Prop),Inv X pins σ H s->t σ H Q->
  wpAny (model X.prog X.w) X.A (evalPart e X.env) (λu s'=>∃o H',Inv X pins σ H' s'/\IsPart u o/\Q o H') X.xe s
def Wf:TO:=λ_ H Q=>Q none H
def aaC(t:TE):TO:=λσ H Q=>t σ H λx H1=>∃i,x=.int i/\Q (some i) H1
def intsAre_of{ns:List Int}:∀{us:List Value},Vals (ns.map V.int) us->IntsAre us ns:=by
 induction ns with
 |nil=>intro us r;rw[List.map_nil]at r;cases r;exact .nil
 |cons n ns ih=>
  intro us r;rw[Zr]at r;cases r with
  |cons r1 r2=>
   obtain⟨t,e⟩:=r1;subst e;exact .cons n t (ih r2)
section
variable {X:Cx}{e:Expr}{te:TE}{lo hi:Option Expr}{tl th:TO}{pos p2:Pos}
def jN:PO X none Wf:=by
 intro pins s σ H Q I h;rw[evalPart_none];exact ZV ⟨none,H,I,.none,h⟩
def cL(h:PE X e te):PO X (some e) (aaC te):=by
 intro pins s σ H Q I hw;rw[evalPart_some];refine az (h pins s σ H _ I hw) λu s1 ⟨x,H1,I1,r1,q1⟩=>?_;obtain⟨i,rfl,q⟩:=q1;obtain⟨t,rfl⟩:=r1;exact⟨some i,H1,I1,.int i t,q⟩
def sj(X:Cx)(r:V->Option Int->Option Int->Hp->VK->Prop):Prop:=
 ∀(pins:List (Addr×Obj)) (s:Shared) (σ:St) (H:Hp) (x:V) (v vl vu:Value) (lo hi:Option Int) (sl:Addr) (Q:VK),Inv X pins σ H s->RelV x v->s.heap.IsSliceOf sl vl vu .none->IsPart vl lo->IsPart vu hi->r x lo hi H Q->
  ∃T id,typeLookup (.type T) "__getitem__"=pure (some (.builtin id))/\s.TypeIs v T/\wpAny (model X.prog X.w) X.A (getItem v (.ref sl)) (EP X pins σ Q) X.xe s
def tSl(r:V->Option Int->Option Int->Hp->VK->Prop)(te:TE)(tl th:TO):TE:=λσ H Q=>te σ H λx H1=>tl σ H1 λl H2=>th σ H2 λu H3=>r x l u H3 Q
def eI{r:V->Option Int->Option Int->Hp->VK->Prop}(hr:sj X r)(he:PE X e te)(hl:PO X lo tl)(hu:PO X hi th):PE X (.Subscript e (.Slice lo hi none p2) pos) (tSl r te tl th):=by
 intro pins s σ H Q I h;refine Subscript_ (az (he pins s σ H _ I h) λv s1 ⟨x,H1,I1,r1,q1⟩=>?_);refine wpAny_Slice (az (hl pins s1 σ H1 _ I1 q1) λvl s2 ⟨l,H2,I2,pl,q2⟩=>az (hu pins s2 σ H2 _ I2 q2) λvu s3 ⟨u,H3,I3,pu,q3⟩=>?_);rw[evalPart_none];refine ZV ?_;have I4:Inv X pins σ H3 {s3 with heap:=s3.heap.push {cls:=.type "slice",data:=.fields #[vl,vu,.none]}}:=I3.kept (t':=s3.toks) λb ob q=>Y8 _ q;obtain⟨T,id,hT,ht,hg⟩:=hr pins {s3 with heap:=s3.heap.push {cls:=.type "slice",data:=.fields #[vl,vu,.none]}} σ H3 x v vl vu l u s3.heap.objs.size Q I4 r1 (Heap.IsSliceOf.new ..) pl pu q3;show wpAny (model X.prog X.w) X.A (subscriptTail e (.Slice lo hi none p2) v (.ref s3.heap.objs.size)) (EP X pins σ Q) X.xe {s3 with heap:=s3.heap.push {cls:=.type "slice",data:=.fields #[vl,vu,.none]}};exact tail_any (ops:=[.ref s3.heap.objs.size,v]) ht hT hg (by with_unfolding_all rfl)
def gn(xs:List V)(lo hi:Option Int):List V:=(xs.drop (HT.aX xs.length 0 lo)).take (HT.aX xs.length xs.length hi-HT.aX xs.length 0 lo)
def Ep(xs:List V)(lo hi:Option Int):(gn xs lo hi).length<=xs.length:=by
 unfold gn;rw[Zx,ZJ];omega
def Ly(K:PySem.W.Frag):V->Option Int->Option Int->Hp->VK->Prop:=λx lo hi H Q=>∃a xs,x=.ref a/\aV K H a xs/\
 ¬(HT.aX xs.length 0 lo=0/\HT.aX xs.length xs.length hi=xs.length)/\∀p,H p=none->Q (.ref p) (upd H p (.tup (gn xs lo hi)))
def JC:sj X (Ly X.K):=by
 intro pins s σ H x v vl vu lo hi sl Q I rx hs pl pu h;obtain⟨a,xs,rfl,hx,hw,q⟩:=h;cases rx;obtain⟨ai,r,ht,hz⟩:=I.tuple hx;have hlen:ai.toArray.size=xs.length:=by rw[Zl];exact r.length.symm
 refine⟨"tuple",_,PyProof.Rows.slot_tuple_getitem.lookup,ht.typeIs,?_⟩;refine HT.OC ht hs pl pu (by rw[hlen];exact hw) ?_ (by rw[hlen];exact hz);rw[hlen];refine⟨.ref s.heap.objs.size,_,I.laid (t':=s.toks) (o:=.tup (gn xs lo hi)) (λb ob q=>Y8 _ q) (Y3 _) ?_,rfl,q _ (I.ao.fresh (Y3 _))⟩;exact⟨ZQ (Ep xs lo hi) hz,_,(r.drop (HT.aX xs.length 0 lo)).take (HT.aX xs.length xs.length hi-HT.aX xs.length 0 lo),IsTup.new _ _⟩
inductive Ia(K:PySem.W.Frag)(x:V)(y:V)(H:Hp)(Q:VK):Prop
 |mk (a b xs ys:_) (_:x=.ref a) (_:y=.ref b) (_:aV K H a xs) (_:aV K H b ys) (_:xs≠[]) (_:xs.length+ys.length<=sizeLine) (_:(ys=[]->Q (.ref a) H)) (_:(ys≠[]->∀p,H p=none->Q (.ref p) (upd H p (.tup (xs++ys))))):Ia K x y H Q
def aaD(K:PySem.W.Frag):R2:=Ia K
def Vals.yK{xs:List V}{us:List Value}(r:Vals xs us):us=[]↔xs=[]:=by
 cases r with
 |nil=>simp
 |cons _ _=>simp
def Ib:b6 X (binaryOp .Add) (aaD X.K):=by
 intro pins s σ H x y v u Q I rx ry h;obtain⟨a,b,xs,ys,rfl,rfl,ha,hb,hx,hz,q1,q2⟩:=h;cases rx;cases ry;obtain⟨ai,r1,p1,_⟩:=I.tuple ha;obtain⟨AD,r2,p2,_⟩:=I.tuple hb;refine HT.We p1 p2 (λz=>hx (r1.yK.mp z)) (λz=>⟨.ref a,H,I,rfl,q1 (r2.yK.mp z)⟩) (λz=>?_) (by rw[<-r1.length, <-r2.length];exact hz);refine⟨.ref s.heap.objs.size,_,I.laid (t':=s.toks) (o:=.tup (xs++ys)) (λb ob q=>Y8 _ q) (Y3 _) ?_,rfl,q2 (λw=>z (r2.yK.mpr w)) _ (I.ao.fresh (Y3 _))⟩;exact⟨by rw[Zo];exact hz,_,r1.append r2,IsTup.new _ _⟩
end
def iR(n:Nat)(i:Int):Option Nat:=if 0<=i then(if i<n then some i.toNat else none)else if -(n:Int)<=i then some (i+n).toNat else none
def jy{α:Type}(xs:List α)(i:Int):Option α:=(iR xs.length i).bind λj=>xs[j]?
def uf{n:Nat}{i:Int}{j:Nat}(h:iR n i=some j):seqIndex? i n=some j/\j<n/\ -(n:Int)<=i/\i<n:=by
 unfold iR at h;by_cases h0:0<=i
 ·rw[if_pos h0]at h;by_cases h1:i<n
  ·rw[if_pos h1]at h;have e:i.toNat=j:=Zg h;exact⟨by rw[seqIndex_of h0 h1,e],by omega,by omega,h1⟩
  ·rw[if_neg h1]at h;cases h
 ·rw[if_neg h0]at h;by_cases h1: -(n:Int)<=i
  ·rw[if_pos h1]at h;have e:(i+n).toNat=j:=Zg h;exact⟨by rw[seqIndex_neg (by omega) h1,e],by omega,h1,by omega⟩
  ·rw[if_neg h1]at h;cases h
def Ic{α:Type}{xs:List α}{i:Int}{v:α}(h:jy xs i=some v):∃j,seqIndex? i xs.length=some j/\xs[j]?=some v/\j<xs.length/\ -(xs.length:Int)<=i/\i<xs.length:=by
 unfold jy at h;cases e:iR xs.length i with
 |none=>rw[e]at h;cases h
 |some j=>
  rw[e]at h;obtain⟨h1,h2,h3,h4⟩:=uf e;exact⟨j,h1,h,h2,h3,h4⟩
def lM{α:Type}{xs:List α}{j:Nat}{v:α}(h:xs[j]?=some v):jy xs (j:Int)=some v:=by
 have hj:j<xs.length:=(ZL.mp h).1
 have e:iR xs.length (j:Int)=some j:=by
  unfold iR;rw[if_pos (by omega),if_pos (by omega)];simp
 unfold jy;rw[e];exact h
def Wg(b:Expr):Prop:=∀o i,subscripted b false o i=operate [o,i] (getItem o i)
def e9(X:Cx)(r:R2):Prop:=
 ∀(value slice:Expr) (pins:List (Addr×Obj)) (s:Shared) (σ:St) (H:Hp) (x y:V) (v u:Value) (Q:VK),Inv X pins σ H s->RelV x v->RelV y u->r x y H Q->
  subscripted slice false v u=operate [v,u] (getItem v u)->wpAny (model X.prog X.w) X.A (subscriptTail value slice v u) (EP X pins σ Q) X.xe s
def Mm(X:Cx)(id:String)(r:V->List V->Hp->VK->Prop):Prop:=
 ∀(pins:List (Addr×Obj)) (s:Shared) (σ:St) (H:Hp) (x:V) (xs:List V) (v:Value) (us:List Value) (Q:VK),Inv X pins σ H s->RelV x v->Vals xs us->r x xs H Q->
  wpAny (model X.prog X.w) X.A (call (.builtin id) (v::us)) (EP X pins σ Q) X.xe s
section
variable {X:Cx}{a b:Expr}{ta tb:TE}{pos:Pos}
def av{r:R2}(hr:e9 X r)(ha:PE X a ta)(hb:PE X b tb)(hs:Wg b):PE X (.Subscript a b pos) (nZ r ta tb):=by
 intro pins s σ H Q I h;exact Subscript_ (Ax ha hb I h λv u s2 x y H2 I2 rx ry q=>hr a b pins s2 σ H2 x y v u Q I2 rx ry q (hs _ _))
inductive JD(K:PySem.W.Frag)(x:V)(y:V)(H:Hp)(Q:VK):Prop
 |mk (p xs i v:_) (_:x=.ref p) (_:y=.int i) (_:ah K H p xs) (_:jy xs i=some v) (_:Q v H):JD K x y H Q
def jU(K:PySem.W.Frag):R2:=JD K
inductive JE(K:PySem.W.Frag)(x:V)(y:V)(H:Hp)(Q:VK):Prop
 |mk (p xs i v:_) (_:x=.ref p) (_:y=.int i) (_:aV K H p xs) (_:jy xs i=some v) (_:Q v H):JE K x y H Q
def fH(K:PySem.W.Frag):R2:=JE K
def Wh:e9 X (jU X.K):=by
 intro value slice pins s σ H x y v u Q I rx ry h hs;obtain⟨p,xs,i,z,rfl,rfl,hq,he,q⟩:=h;cases rx;obtain⟨t,rfl⟩:=ry;obtain⟨ai,r,pl,hz⟩:=I.list hq;obtain⟨j,h1,h2,h3,h4,h5⟩:=Ic he;obtain⟨w,ew,g8⟩:=r.get h2;have hl:=r.length;have hn:=rj;have fin:EP X pins σ Q w s:=⟨z,H,I,g8,q⟩;by_cases h0:0<=i
 ·have hj:i.toNat=j:=by
   rw[seqIndex_of h0 h5]at h1;exact Zg h1
  exact item_listR pl.isList h0 (by omega) (by rw[hj];simpa using ew) fin hs
 ·have hj:(i+(ai.toArray.size:Int)).toNat=j:=by
   rw[seqIndex_neg (by omega) h4]at h1;rw[Zl, <-hl];exact Zg h1
  exact subscriptTail_builtinR (x:=w) pl.isList.typeIs slot_list_getitem.lookup
   (wpAny_getItem_list_neg (Q:=λr s'=>r=w/\EP X pins σ Q r s') pl.isList (by omega) (by rw[Zl]<;>omega) (by omega) (by rw[hj];simpa using ew) ⟨rfl,fin⟩) hs
def X4:e9 X (fH X.K):=by
 intro value slice pins s σ H x y v u Q I rx ry h hs;obtain⟨p,xs,i,z,rfl,rfl,hq,he,q⟩:=h;cases rx;obtain⟨t,rfl⟩:=ry;obtain⟨ai,r,pl,hz⟩:=I.tuple hq;obtain⟨j,h1,h2,h3,h4,h5⟩:=Ic he;obtain⟨w,ew,g8⟩:=r.get h2;have hl:=r.length;have hn:=rj;have fin:EP X pins σ Q w s:=⟨z,H,I,g8,q⟩
 exact subscriptTail_builtinR (x:=w) pl.typeIs slot_tuple_getitem.lookup
  (getItem_tuple (j:=j) (Q:=λr s'=>r=w/\EP X pins σ Q r s') pl (by omega) (by omega) (by rw[Zl, <-hl];exact h1) (by simpa using ew) ⟨rfl,fin⟩) hs
def QN(ai:List Value)(n j:Nat)(u:Value):Obj.mapSeq (·.setIfInBounds j u) {cls:=.type "list",data:=.seq ai.toArray n}={cls:=.type "list",data:=.seq (ai.set j u).toArray n}:=by
 simp[Obj.mapSeq]
def Inv.lst{pins:List (Addr×Obj)}{σ:St}{H:Hp}{s:Shared}{p:Addr}{xs:List V}(I:Inv X pins σ H s)(h:H p=some (.lst xs)):
  ∃(ai:List Value) (n:Nat),Vals xs ai/\s.heap.get? p=some {cls:=.type "list",data:=.seq ai.toArray n}/\xs.length<=sizeLine:=by
 obtain⟨z,ai,n,r,e⟩:=I.ao p _ h;exact⟨ai,n,r,e,z⟩
def Inv.X5{pins:List (Addr×Obj)}{σ:St}{H:Hp}{s:Shared}{p:Addr}{xs ys:List V}{ai its':List Value}{n n':Nat}{f:Obj->Obj}(I:Inv X pins σ H s)(h:H p=some (.lst xs))
  (ho:s.heap.get? p=some {cls:=.type "list",data:=.seq ai.toArray n})(hf:f {cls:=.type "list",data:=.seq ai.toArray n}={cls:=.type "list",data:=.seq its'.toArray n'})(r:Vals ys its')(hz:ys.length<=sizeLine)(t:Nat):
  Inv X pins σ (upd H p (.lst ys)) {s with heap:=s.heap.update p f,toks:=t}:=by
 have e:(s.heap.update p f).get? p=some {cls:=.type "list",data:=.seq its'.toArray n'}:=by
  rw[Heap.get?_update_self f ho (by rw[hf]<;>rfl),hf]
 refine I.write (x:=p) (e:=p) (by rw[h];trivial) (.inl rfl) (λb u hb q=>(Heap.get?_update_other _ _ (Ne.symm hb)).trans q) ⟨_,e⟩ ?_;exact⟨hz,its',n',r,e⟩
def aaE:V->V->V->Hp->(Hp->Prop)->Prop:=λo i v H Q=>∃p xs k j,o=.ref p/\i=.int k/\H p=some (.lst xs)/\iR xs.length k=some j/\Q (upd H p (.lst (xs.set j v)))
def set_list:Ln X aaE:=by
 intro pins s σ H o i v ov iv u Q I ro ri rv h;obtain⟨p,xs,k,j,rfl,rfl,hp,hj,q⟩:=h;cases ro;obtain⟨t,rfl⟩:=ri;obtain⟨ai,n,r,ho,hz⟩:=I.lst hp;obtain⟨h1,h2,h3,h4⟩:=uf hj;have hl:=r.length;have hn:=rj
 have I':Inv X pins σ (upd H p (.lst (xs.set j v))) {s with heap:=s.heap.update p (Obj.mapSeq (·.setIfInBounds j u))}:=
  I.X5 hp ho (QN ai n j u) (r.set rv j) (by rw[List.length_set];exact hz) s.toks
 by_cases h0:0<=k
 ·have hk:k.toNat=j:=by
   rw[seqIndex_of h0 h4]at h1;exact Zg h1
  exact PySem.W.ki_setAt ho h0 (by omega) (by rw[Zl, <-hl];exact h4) (by rw[hk];exact⟨_,I',q⟩)
 ·have hk:(k+(ai.toArray.size:Int)).toNat=j:=by
   rw[seqIndex_neg (by omega) h3]at h1;rw[Zl, <-hl];exact Zg h1
  exact PySem.W.ki_setBack ho (by omega) (by rw[Zl, <-hl];exact h3) (by omega) (by rw[hk];exact⟨_,I',q⟩)
def Pt(lo hi:Option Int)(n:Nat):(sliceBounds lo hi none n).1=((HT.aX n 0 lo:Nat):Int)/\(sliceBounds lo hi none n).2.1=((HT.aX n n hi:Nat):Int)/\(sliceBounds lo hi none n).2.2=1:=by
 refine⟨?_,?_,rfl⟩
 ·cases lo with
  |none=>simp[sliceBounds,HT.aX]
  |some i=>
   simp only[sliceBounds,HT.aX,Option.getD_none,show(1:Int)>0 by decide,if_true];by_cases h:i<0
   ·simp only[h,if_true]<;>omega
   ·simp only[h,if_false]<;>omega
 ·cases hi with
  |none=>simp[sliceBounds,HT.aX]
  |some i=>
   simp only[sliceBounds,HT.aX,Option.getD_none,show(1:Int)>0 by decide,if_true];by_cases h:i<0
   ·simp only[h,if_true]<;>omega
   ·simp only[h,if_false]<;>omega
def O5(ai:List Value)(lo hi:Option Int):slicePick ai.toArray lo hi none=((ai.drop (HT.aX ai.length 0 lo)).take (HT.aX ai.length ai.length hi-HT.aX ai.length 0 lo)).toArray:=by
 obtain⟨h1,h2,h3⟩:=Pt lo hi ai.toArray.size;unfold slicePick;rw[h1,h2,h3];simp only[sliceRange_one,pick_run,Zl]<;>rfl
def uM(K:PySem.W.Frag):V->Option Int->Option Int->Hp->VK->Prop:=λx lo hi H Q=>∃a xs,x=.ref a/\ah K H a xs/\∀p,H p=none->Q (.ref p) (upd H p (.lst (gn xs lo hi)))
def yL:sj X (uM X.K):=by
 intro pins s σ H x v vl vu lo hi sl Q I rx hs pl pu h;obtain⟨a,xs,rfl,hx,q⟩:=h;cases rx;obtain⟨ai,r,ht,hz⟩:=I.list hx;have hlen:=r.length;refine⟨"list",_,slot_list_getitem.lookup,ht.isList.typeIs,?_⟩;refine wpAny_getItem_list_slice ht.isList hs pl pu .none (by simp) ?_ (by rw[Zl]<;>omega);rw[O5, <-hlen];refine⟨.ref s.heap.objs.size,_,I.laid (t':=s.toks) (o:=.lst (gn xs lo hi)) (λb ob q=>Y8 _ q) (Y3 _) ?_,rfl,q _ (I.ao.fresh (Y3 _))⟩;exact⟨ZQ (Ep xs lo hi) hz,_,0,(r.drop (HT.aX xs.length 0 lo)).take (HT.aX xs.length xs.length hi-HT.aX xs.length 0 lo),Zq _ rfl⟩
def gY:V->Bool
 |.aE=>true
 |.bl _=>true
 |.int _=>true
 |.str _=>true
 |_=>false
def eB:V->V->Bool
 |.aE,.aE=>true
 |.bl a,.bl b=>a==b
 |.bl a,.int b=>(if a then 1 else 0)==b
 |.int a,.bl b=>a==(if b then 1 else 0)
 |.int a,.int b=>a==b
 |.str a,.str b=>a==b
 |_,_=>false
def X6{A:Around}{s:Shared}{y x:V}{u v:Value}(ry:RelV y u)(rx:RelV x v)(fy:gY y=true)(fx:gY x=true):SeqAt.EqAt A s u v (eB y x):=by
 cases y with
 |aE=>
  cases ry;cases x with
  |aE=>cases rx;exact SeqAt.EqAt.same _
  |bl b=>cases rx;exact SeqAt.EqAt.none_bool b
  |int b=>obtain⟨t,rfl⟩:=rx;exact SeqAt.EqAt.none_int b t
  |str b=>obtain⟨t,rfl⟩:=rx;exact SeqAt.EqAt.none_str b t
  |_=>exact absurd (show false=true from fx) Zk
 |bl a=>
  cases ry;cases x with
  |aE=>cases rx;exact SeqAt.EqAt.bool_none a
  |bl b=>cases rx;exact SeqAt.EqAt.bool_bool a b
  |int b=>obtain⟨t,rfl⟩:=rx;exact SeqAt.EqAt.bool_int a b t
  |str b=>obtain⟨t,rfl⟩:=rx;exact SeqAt.EqAt.bool_str a b t
  |_=>exact absurd (show false=true from fx) Zk
 |int a=>
  obtain⟨t',rfl⟩:=ry;cases x with
  |aE=>cases rx;exact SeqAt.EqAt.int_none a t'
  |bl b=>cases rx;exact SeqAt.EqAt.int_bool a t' b
  |int b=>obtain⟨t,rfl⟩:=rx;exact SeqAt.EqAt.int_int a t' b t
  |str b=>obtain⟨t,rfl⟩:=rx;exact SeqAt.EqAt.int_str a t' b t
  |_=>exact absurd (show false=true from fx) Zk
 |str a=>
  obtain⟨t',rfl⟩:=ry;cases x with
  |aE=>cases rx;exact SeqAt.EqAt.str_none a t'
  |bl b=>cases rx;exact SeqAt.EqAt.str_bool a t' b
  |int b=>obtain⟨t,rfl⟩:=rx;exact SeqAt.EqAt.str_int a t' b t
  |str b=>obtain⟨t,rfl⟩:=rx;exact SeqAt.EqAt.str_str a t' b t
  |_=>exact absurd (show false=true from fx) Zk
 |_=>exact absurd (show false=true from fy) Zk
def iS(x:V)(u:Value):Bool:=match u with
 |.none=>eB .aE x
 |.bool b=>eB (.bl b) x
 |.int i _=>eB (.int i) x
 |.str z _=>eB (.str z) x
 |_=>false
def zt{x y:V}{u:Value}(r:RelV y u)(f:gY y=true):iS x u=eB y x:=by
 cases y with
 |aE=>cases r;rfl
 |bl b=>cases r;rfl
 |int i=>obtain⟨t,rfl⟩:=r;rfl
 |str z=>obtain⟨t,rfl⟩:=r;rfl
 |_=>exact absurd (show false=true from f) Zk
def yM{x:V}:∀{xs:List V}{us:List Value},Vals xs us->xs.all gY=true->us.any (iS x)=xs.any λy=>eB y x
 |_,_,.nil,_=>rfl
 |y::xs,u::us,.cons r t,f=>by
  rw[List.all_cons,Bool.and_eq_true]at f;rw[List.any_cons,List.any_cons,zt r f.1,yM t f.2]
def t6{A:Around}{s:Shared}{x:V}{v:Value}(rx:RelV x v)(fx:gY x=true):∀{xs:List V}{us:List Value},Vals xs us->xs.all gY=true->∀u∈us,SeqAt.EqAt A s u v (iS x u)
 |_,_,.nil,_=>λu hu=>by cases hu
 |y::xs,u::us,.cons r t,f=>λu' hu=>by
  rw[List.all_cons,Bool.and_eq_true]at f;rcases Y5.mp hu with rfl|hu
  ·rw[zt r f.1];exact X6 r rx f.1 fx
  ·exact t6 rx fx t f.2 u' hu
def sk(x:V)(xs:List V):Bool:=xs.any λy=>eB y x
inductive KI(K:PySem.W.Frag)(neg:Bool)(x:V)(y:V)(H:Hp)(Q:VK):Prop
 |mk (p xs:_) (_:y=.ref p) (_:(ah K H p xs\/aV K H p xs)) (_:gY x=true) (_:xs.all gY=true) (_:Q (.bl (if neg then !sk x xs else sk x xs)) H):KI K neg x y H Q
def rIn(K:PySem.W.Frag)(neg:Bool):R2:=KI K neg
def Pu:b6 X (compareOp .NotIn) (rIn X.K true):=by
 intro pins s σ H x y v u Q I rx ry h;obtain⟨p,xs,rfl,hq,fx,fs,q⟩:=h;cases ry;rcases hq with hq|hq
 ·obtain⟨ai,r,pl,hz⟩:=I.list hq;refine SeqAt.notIn_listAt (iS x) pl.isList (λw hw=>t6 rx fx r fs w (by simpa using hw)) ⟨.bl _,H,I,rfl,?_⟩;rw[show ai.toArray.any (iS x)=ai.any (iS x)by simp,yM r fs];exact q
 ·obtain⟨ai,r,pl,hz⟩:=I.tuple hq;refine SeqAt.notIn_tupleAt (iS x) pl (λw hw=>t6 rx fx r fs w (by simpa using hw)) ⟨.bl _,H,I,rfl,?_⟩;rw[show ai.toArray.any (iS x)=ai.any (iS x)by simp,yM r fs];exact q
def cA:gF X (.builtin "len") (λxs H Q=>∃p ys,xs=[.ref p]/\(ah X.K H p ys\/aV X.K H p ys)/\Q (.int ys.length) H):=by
 intro pins s σ H xs us Q I r h;obtain⟨p,ys,rfl,hq,q⟩:=h;obtain⟨u,rfl,rx⟩:=vals1 r;cases rx;have hn:=rj;rcases hq with hq|hq
 ·obtain⟨ai,r',pl,hz⟩:=I.list hq;have hlen:=r'.length;exact Calls.call_len_list pl.isList (by simp only[Zl]<;>omega) ⟨.int ys.length,H,I.tok _,⟨s.toks+1,by rw[Zl,hlen]⟩,q⟩
 ·obtain⟨ai,r',pl,hz⟩:=I.tuple hq;have hlen:=r'.length;exact len_tuple pl (by simp only[Zl]<;>omega) ⟨.int ys.length,H,I.tok _,⟨s.toks+1,by rw[Zl,hlen]⟩,q⟩
def Px:gF X (.type "list") (λxs H Q=>∃p ys,xs=[.ref p]/\(ah X.K H p ys\/aV X.K H p ys)/\∀l,H l=none->Q (.ref l) (upd H l (.lst ys))):=by
 intro pins s σ H xs us Q I r h;obtain⟨p,ys,rfl,hq,q⟩:=h;obtain⟨u,rfl,rx⟩:=vals1 r;cases rx
 have fin:∀(ai:List Value),Vals ys ai->ys.length<=sizeLine->∀(h':Heap) (c':Nat),(∀b o',s.heap.get? b=some o'->h'.get? b=some o')->
   h'.get? s.heap.objs.size=some {cls:=.type "list",dict:=none,data:=.seq ai.toArray c',slots:= #[]}->EP X pins σ Q (.ref s.heap.objs.size) {s with heap:=h'}:=λai r' hz h' c' kp e=>
  ⟨.ref s.heap.objs.size,_,I.laid (t':=s.toks) kp (Y3 _) (show bY X.prog X.w _ h' _ (.lst ys)from⟨hz,ai,c',r',e⟩),rfl,q _ (I.ao.fresh (Y3 _))⟩
 rcases hq with hq|hq
 ·obtain⟨ai,r',pl,hz⟩:=I.list hq;have hlen:=r'.length;obtain⟨o,ho,hc,n,hd⟩:=pl.isList;exact call_list_seq p (.inl rfl) ho hc hd (λh' c' kp e=>fin ai r' hz h' c' kp e) (by simp only[Zl]<;>omega)
 ·obtain⟨ai,r',pl,hz⟩:=I.tuple hq;have hlen:=r'.length;obtain⟨o,ho,hc,n,hd⟩:=pl;exact call_list_seq p (.inr rfl) ho hc hd (λh' c' kp e=>fin ai r' hz h' c' kp e) (by simp only[Zl]<;>omega)
def A9(K:PySem.W.Frag)(T:String)(x:V)(H:Hp):Prop:=match x with
 |.str _=>T="str"
 |.int _=>T="int"
 |.ref p=>(T="list"/\∃xs,ah K H p xs)\/(T="tuple"/\∃o,K.lookup p=some o/\o.cls=.type "tuple"/\o.dict=none)\/
  (T="dict"/\((∃kvs,H p=some (.dK kvs))\/∃kvs,H p=some (.dT kvs)))\/(T="set"/\∃S n,H p=some (.set S n))
 |_=>False
def JF{pins:List (Addr×Obj)}{σ:St}{H:Hp}{s:Shared}{T:String}{x:V}{v:Value}(I:Inv X pins σ H s)(r:RelV x v)(ty:A9 X.K T x H):
  s.TypeIs v T/\∀a,v=.ref a->∃ob,s.heap.get? a=some ob/\ob.dict=none:=by
 cases x with
 |str z=>
  obtain⟨t,rfl⟩:=r;cases(show T="str" from ty);exact⟨typeIs_str s z t,λ_ e=>nomatch e⟩
 |int i=>
  obtain⟨t,rfl⟩:=r;cases(show T="int" from ty);exact⟨typeIs_int s i t,λ_ e=>nomatch e⟩
 |ref p=>
  cases r;rcases ty with⟨rfl,xs,hq⟩|⟨rfl,o,hk,hc,hd⟩|⟨rfl,hk⟩|⟨rfl,S,n,hk⟩
  ·obtain⟨ai,_,pl,_⟩:=I.list hq;refine⟨pl.isList.typeIs,λa e=>?_⟩;cases e;obtain⟨o,n,e,c,hd,_⟩:=pl;exact⟨o,e,hd⟩
  ·refine⟨⟨o,I.eX p o hk,hc⟩,λa e=>?_⟩;cases e;exact⟨o,I.eX _ o hk,hd⟩
  ·have z:∃o,s.heap.get? p=some o/\o.ExactDict:=by
    rcases hk with⟨kvs,hk⟩|⟨kvs,hk⟩
    ·obtain⟨_,_,_,_,o,_,_,e,ex,_⟩:=I.ao p _ hk;exact⟨o,e,ex⟩
    ·obtain⟨_,_,_,_,o,_,_,e,ex,_⟩:=I.ao p _ hk;exact⟨o,e,ex⟩
   obtain⟨o,e,ex⟩:=z;refine⟨⟨o,e,ex.1⟩,λa e2=>?_⟩;cases e2;exact⟨o,e,ex.2.1⟩
  ·obtain⟨o,_,_,_,e,ex,_⟩:=I.ao p _ hk;refine⟨⟨o,e,ex.1⟩,λa e2=>?_⟩;cases e2;exact⟨o,e,ex.2.1⟩
 |_=>exact Zu ty
def abH(K:PySem.W.Frag)(T:String)(r:V->List V->Hp->VK->Prop)(to:TE):TE:=λσ H Q=>to σ H λx H1=>A9 K T x H1/\r x [] H1 Q
def Ba(K:PySem.W.Frag)(T:String)(r:V->List V->Hp->VK->Prop)(to:TE)(t:TA):TE:=λσ H Q=>to σ H λx H1=>A9 K T x H1/\t σ H1 λxs H2=>r x xs H2 Q
variable {o e:Expr}{es:List Expr}{to:TE}{t:TA}{name:Str}{apos cc:Pos}{T id:String}{r:V->List V->Hp->VK->Prop}
def X7(pa:PlainAttrs T)(slot:Slot T name id)(Bb:typeOf (.builtin id)=pure (.type "method_descriptor"))(hm:Mm X id r)(ho:PE X o to)
  (zX:attributeBase o name X.env (eval o X.env)=eval o X.env:=by rfl)(zY:(apos.endLine==cc.line)=true:=by rfl):PE X (.Call (.Attribute o name apos) [] [] cc) (abH X.K T r to):=by
 intro pins s σ H Q I h;refine wpAny_Call_method0_late zX zY (az (ho pins s σ H _ I h) λv s1 ⟨x,H1,I1,r1,ty,q1⟩=>?_);obtain⟨h1,h2⟩:=JF I1 r1 ty;exact⟨T,id,pa,slot,Bb,h1,h2,Calls.callWith_builtin rfl (PySem.evalArgs_none (hm pins s1 σ H1 x [] v [] Q I1 r1 .nil q1))⟩
def eQ(pa:PlainAttrs T)(slot:Slot T name id)(Bb:typeOf (.builtin id)=pure (.type "method_descriptor"))(hm:Mm X id r)(ho:PE X o to)(ha:PA X (e::es) t)
  (zX:attributeBase o name X.env (eval o X.env)=eval o X.env:=by rfl)
  (abI:((backTo cc (starEach (e::es) X.env)).all (λx=> !x.1)&&(backToKw cc (keywordEach [] X.env)).all (λx=>x.1.isSome)
   &&decide ((e::es).length+([]:List Keyword).length+(if([]:List Keyword).isEmpty then 0 else 1)<30))=true:=by rfl)
  (zY:(apos.endLine==cc.line)=true:=by rfl)(hs:starEach (e::es) X.env=(false,eval e X.env)::starEach es X.env:=by rfl)(X8:(backTo cc (starEach es X.env)).any (·.1)=false:=by rfl):
  PE X (.Call (.Attribute o name apos) (e::es) [] cc) (Ba X.K T r to t):=by
 intro pins s σ H Q I h;refine wpAny_Call_method_late zX abI zY rfl (az (ho pins s σ H _ I h) λv s1 ⟨x,H1,I1,r1,ty,q1⟩=>?_);obtain⟨h1,h2⟩:=JF I1 r1 ty;refine⟨T,id,pa,slot,Bb,h1,h2,?_⟩;have hA:=ha cc pins s1 σ H1 _ I1 q1;rw[hs]at hA⊢;refine Calls.callWith_builtin (by show(false||(backTo cc (starEach es X.env)).any (·.1))=false;rw[X8]<;>rfl) (Calls.evalArgs_plain ?_);exact az hA λus s2 ⟨vs,H2,I2,r2,q2⟩=>hm pins s2 σ H2 x vs v us Q I2 r1 r2 q2
end
def so(X:Cx)(id:String)(r:V->List V->Hp->VK->Prop):Prop:=
 ∀(pins:List (Addr×Obj)) (s:Shared) (σ:St) (H:Hp) (x:V) (xs:List V) (v:Value) (us:List Value) (Q:VK),Inv X pins σ H s->RelV x v->Vals xs us->r x xs H Q->
  wpAny (model X.prog X.w) X.A (call (.builtin id) (v::us)) (EP X pins σ Q) X.xe s
def Vals.one:∀{x:V}{us:List Value},Vals [x] us->∃u,us=[u]/\RelV x u
 |_,_,.cons r .nil=>⟨_,rfl,r⟩
def Vals.zero:∀{us:List Value},Vals [] us->us=[]
 |_,.nil=>rfl
def Vals.dropLast{xs:List V}{us:List Value}(h:Vals xs us):Vals xs.dropLast us.dropLast:=by
 induction h with
 |nil=>exact .nil
 |cons r t ih=>
  cases t with
  |nil=>exact .nil
  |cons q t'=>exact .cons r ih
def Vals.eraseIdx:∀{xs:List V}{us:List Value} (i:Nat),Vals xs us->Vals (xs.eraseIdx i) (us.eraseIdx i)
 |_,_,_,.nil=>.nil
 |_,_,0,.cons _ t=>t
 |_,_,i+1,.cons r t=>.cons r (Vals.eraseIdx i t)
def Vals.rep{xs:List V}{us:List Value}(h:Vals xs us):∀k:Nat,Vals (List.replicate k xs).flatten (List.replicate k us).flatten
 |0=>.nil
 |k+1=>by
  rw[List.replicate_succ,List.replicate_succ,List.flatten_cons,List.flatten_cons];exact Vals.append h (Vals.rep h k)
def QO{α:Type}(l:List α):l.eraseIdx (l.length-1)=l.dropLast:=by
 induction l with
 |nil=>rfl
 |cons a r ih=>
  cases r with
  |nil=>rfl
  |cons b r=>
   have e:(a::b::r).length-1=((b::r).length-1)+1:=by
    have h1:(a::b::r).length=r.length+2:=rfl;have h2:(b::r).length=r.length+1:=rfl;omega
   rw[e,List.eraseIdx_cons_succ,ih]
   all_goals rfl
def Fe{α:Type}:∀(l:List α) (i:Nat),(l.eraseIdx i).length<=l.length
 |[],_=>Y3 _
 |_::_,0=>Nat.le_succ _
 |_::r,i+1=>Nat.succ_le_succ (Fe r i)
def foldl_rep(ai:List Value):∀(k:Nat) (acc:List Value),
  List.foldl (λx1 x2=>x1++x2) acc.toArray (List.replicate k ai.toArray)=(acc++(List.replicate k ai).flatten).toArray
 |0,acc=>by simp
 |k+1,acc=>by
  have e:acc.toArray++ai.toArray=(acc++ai).toArray:=by simp
  have e2:(acc++ai)++(List.replicate k ai).flatten=acc++(List.replicate (k+1) ai).flatten:=by
   rw[List.replicate_succ,List.flatten_cons,ZY]
  rw[<-e2, <-foldl_rep ai k (acc++ai), <-e,List.replicate_succ,List.foldl_cons]
section
variable {X:Cx}{pins:List (Addr×Obj)}{σ:St}{H:Hp}{s:Shared}{l b:Addr}{xs ys zs:List V}
def Inv.AE{ai its':List Value}{n:Nat}{f:Array Value->Array Value}{t':Nat}(I:Inv X pins σ H s)(hH:H l=some (.lst xs))
  (e:s.heap.get? l=some {cls:=.type "list",data:=.seq ai.toArray n})(hf:f ai.toArray=its'.toArray)(hv:Vals ys its')(hz:ys.length<=sizeLine):
  Inv X pins σ (upd H l (.lst ys)) {s with heap:=s.heap.update l (Obj.mapSeq f),toks:=t'}:=by
 have q:=PySem.IsL.update e f;rw[hf]at q;refine I.write (x:=l) (e:=l) (by rw[hH];exact trivial) (.inl rfl) (λb' u hb hu=>(Heap.get?_update_other s.heap (Obj.mapSeq f) (Ne.symm hb)).trans hu) ⟨_,q⟩ ?_;exact⟨hz,its',_,hv,q⟩
def Inv.Lz{ai:List Value}{t':Nat}(I:Inv X pins σ H s)(hv:Vals ys ai)(hz:ys.length<=sizeLine):
  Inv X pins σ (upd H s.heap.objs.size (.lst ys)) {s with heap:=s.heap.push {cls:=.type "list",data:=.seq ai.toArray},toks:=t'}:=
 I.laid (λ_ _ q=>Y8 _ q) (Y3 _) ⟨hz,ai,0,hv,Zq _ rfl⟩
def Inv.fresh(I:Inv X pins σ H s):H s.heap.objs.size=none:=I.ao.fresh (Y3 _)
def Inv.pH(I:Inv X pins σ H s)(hH:H l=some (.lst xs)):xs.length<=sizeLine/\∃(ai:List Value) (n:Nat),Vals xs ai/\xs.length=ai.length/\s.heap.get? l=some {cls:=.type "list",data:=.seq ai.toArray n}:=by
 obtain⟨z,ai,n,r,e⟩:=I.ao l _ hH;exact⟨z,ai,n,r,r.length,e⟩
def Uc{n:Nat}(h:n<=sizeLine):Builtin.List.listTooLong n=false:=by
 unfold Builtin.List.listTooLong;exact ZO (by omega)
end
section
variable {X:Cx}
inductive Ff(x:V)(vs:List V)(H:Hp)(Q:VK):Prop
 |mk (l xs y:_) (_:x=.ref l) (_:vs=[y]) (_:H l=some (.lst xs)) (_:xs.length<sizeLine) (_:Q .aE (upd H l (.lst (xs++[y])))):Ff x vs H Q
def Wi:V->List V->Hp->VK->Prop:=Ff
def eG:so X "list.append" Wi:=by
 intro pins s σ H x vs v us Q I rx rv h;obtain⟨l,xs,y,rfl,rfl,hH,hz,q⟩:=h;cases rx;obtain⟨u,rfl,ru⟩:=rv.one;obtain⟨z,ai,n,r,hl,e⟩:=I.pH hH;refine call_meets F.slot_list_append ⟨_,e,rfl⟩ F.entry_list_append (F.args_list_append_2 _ _) (PySem.list_append l ai.toArray n u (by rw[Zl];omega)) ⟨e,?_⟩;refine⟨.aE,_,I.AE (its':=ai++[u]) hH e (by simp) (r.append (.cons ru .nil)) ?_,rfl,q⟩;rw[Zo,List.length_singleton];omega
inductive JG(x:V)(vs:List V)(H:Hp)(Q:VK):Prop
 |mk (l xs y:_) (_:x=.ref l) (_:vs=[]) (_:H l=some (.lst xs)) (_:xs[xs.length-1]?=some y) (_:Q y (upd H l (.lst xs.dropLast))):JG x vs H Q
def abJ:V->List V->Hp->VK->Prop:=JG
def X9:so X "list.pop" abJ:=by
 intro pins s σ H x vs v us Q I rx rv h;obtain⟨l,xs,y,rfl,rfl,hH,hy,q⟩:=h;cases rx;have hus:=rv.zero;subst hus;obtain⟨z,ai,n,r,hl,e⟩:=I.pH hH;obtain⟨u,hu,ru⟩:=r.get hy
 have hy':ai.toArray[ai.toArray.size-1]?=some u:=by
  show ai.toArray[ai.length-1]?=some u;rw[<-Array.getElem?_toList, <-hl];exact hu
 refine call_meets F.slot_list_pop ⟨_,e,rfl⟩ F.entry_list_pop (F.args_list_pop_1 _) (MeetsSeq.list_pop_last l ai.toArray n u hy' (by rw[Zl];omega)) ⟨e,?_⟩;refine⟨y,_,I.AE (its':=ai.dropLast) hH e ?_ r.dropLast ?_,ru,q⟩
 ·show ai.toArray.eraseIdxIfInBounds (ai.toArray.size-1)=ai.dropLast.toArray;rw[Zl,List.eraseIdxIfInBounds_toArray,QO]
 ·rw[List.length_dropLast];omega
inductive GD(x:V)(vs:List V)(H:Hp)(Q:VK):Prop
 |mk (l xs i k y:_) (_:x=.ref l) (_:vs=[.int i]) (_:H l=some (.lst xs)) (_: -(2^ 63)<=i) (_:i<2^ 63) (_:seqIndex? i xs.length=some k) (_:xs[k]?=some y) (_:Q y (upd H l (.lst (xs.eraseIdx k)))):GD x vs H Q
def Ya:V->List V->Hp->VK->Prop:=GD
def Ud:so X "list.pop" Ya:=by
 intro pins s σ H x vs v us Q I rx rv h;obtain⟨l,xs,i,k,y,rfl,rfl,hH,h1,h2,hk,hy,q⟩:=h;cases rx;obtain⟨u,rfl,ru⟩:=rv.one;obtain⟨t,rfl⟩:=ru;obtain⟨z,ai,n,r,hl,e⟩:=I.pH hH;obtain⟨w,hw,g8⟩:=r.get hy
 refine call_meets F.slot_list_pop ⟨_,e,rfl⟩ F.entry_list_pop (F.args_list_pop_2 _ _)
  (MeetsSeq.list_pop_at l ai.toArray n i t k w (fitsIndex_both h1 h2) (by rw[Zl, <-hl];exact hk) (by rw[<-Array.getElem?_toList];exact hw) (by rw[Zl];omega)) ⟨e,?_⟩
 refine⟨y,_,I.AE (its':=ai.eraseIdx k) hH e ?_ (r.eraseIdx k) ?_,g8,q⟩
 ·show ai.toArray.eraseIdxIfInBounds k=(ai.eraseIdx k).toArray;rw[List.eraseIdxIfInBounds_toArray]
 ·have:=Fe xs k;omega
inductive JH(x:V)(y:V)(H:Hp)(Q:VK):Prop
 |mk (l b xs zs:_) (_:x=.ref l) (_:y=.ref b) (_:H l=some (.lst xs)) (_:H b=some (.lst zs)) (_:xs.length+zs.length<=sizeLine) (_:∀p,H p=none->Q (.ref p) (upd H p (.lst (xs++zs)))):JH x y H Q
def uN:R2:=JH
def Yb:b6 X (binaryOp .Add) uN:=by
 intro pins s σ H x y v u Q I rx ry h;obtain⟨l,b,xs,zs,rfl,rfl,hH,hB,hz,q⟩:=h;cases rx;cases ry;obtain⟨z,ai,n,r,hl,e⟩:=I.pH hH;obtain⟨z2,AD,n2,r2,Bc,e2⟩:=I.pH hB;refine PySem.P.add_list e e2 ?_ (by rw[Zl,Zl];omega);have ea:ai.toArray++AD.toArray=(ai++AD).toArray:=by simp
 rw[ea];exact⟨.ref _,_,I.Lz (t':=s.toks) (r.append r2) (by rw[Zo];omega),rfl,q _ I.fresh⟩
inductive JI(x:V)(y:V)(H:Hp)(Q:VK):Prop
 |mk (l k xs:_) (_:x=.ref l) (_:y=.int k) (_:H l=some (.lst xs)) (_: -(2^ 63)<=k) (_:k<2^ 63) (_:xs.length*k.toNat<=sizeLine) (_:∀p,H p=none->Q (.ref p) (upd H p (.lst (List.replicate k.toNat xs).flatten))):JI x y H Q
def uO:R2:=JI
def len_rep{α:Type}(xs:List α)(k:Nat):(List.replicate k xs).flatten.length=k*xs.length:=by
 induction k with
 |zero=>simp
 |succ k ih=>rw[List.replicate_succ,List.flatten_cons,Zo,ih,Nat.succ_mul,Nat.add_comm]
def uo:b6 X (binaryOp .Mult) uO:=by
 intro pins s σ H x y v u Q I rx ry h;obtain⟨l,k,xs,rfl,rfl,hH,h1,h2,hz,q⟩:=h;cases rx;obtain⟨t,rfl⟩:=ry;obtain⟨z,ai,n,r,hl,e⟩:=I.pH hH;have hlen:ai.toArray.size*k.toNat<=sizeLine:=by rw[Zl, <-hl];exact hz
 have abK:¬ai.toArray.size*k.toNat>(2^ 63-1)/8:=by
  have:(sizeLine:Nat)<=(2^ 63-1)/8:=by decide
  omega
 have abL:¬(!Builtin.List.listFitsIndex k)=true:=by
  rw[fitsIndex_both h1 h2];exact Zk
 have aaF:¬Builtin.List.listTooLong (ai.toArray.size*k.toNat)=true:=by
  rw[Uc hlen];exact Zk
 have abM:List.foldl (λx1 x2=>x1++x2) #[] (List.replicate (if ai.toArray.isEmpty=true then 0 else k.toNat) ai.toArray)=(List.replicate k.toNat ai).flatten.toArray:=by
  have f0:∀m:Nat,List.foldl (λx1 x2=>x1++x2) #[] (List.replicate m ai.toArray)=(List.replicate m ai).flatten.toArray:=λm=>by
   have:=foldl_rep ai m [];rw[List.nil_append]at this;exact this
  rw[f0];cases ai with
  |nil=>simp
  |cons a r'=>rw[if_neg (by simp)]
 refine wpAny_binaryOp_repeat_ref (T:="list") (U:="int") (by decide) ⟨_,e,rfl⟩ (λs'=>typeIs_int s' k t) noFill_list_mul F.fills_int_mul F.slot_int_rmul repeat_list F.slot_int_index.lookup
  (call_meets F.slot_int_rmul (typeIs_int s k t) F.entry_int_rmul (F.args_int_rmul_2 _ _) (int___rmul___int_list k t l ai.toArray n)
   ⟨e,rfl,⟨_,e,rfl⟩,call_meets F.slot_list_mul ⟨_,e,rfl⟩ F.entry_list_mul (F.args_list_mul_2 _ _) (AutoListH.list___mul___list_int_3 l ai.toArray n k t abL abK aaF) ⟨e,?_⟩⟩)
 rw[abM];exact⟨.ref _,_,I.Lz (t':=s.toks) (r.rep k.toNat) (by rw[len_rep,Nat.mul_comm];exact hz),rfl,q _ I.fresh⟩
end
end L2
namespace Att
open PySem PySem.W PySem.Calls PyProof.Rows
def OK{P:Params}{h:Heap}:∀(ns:List Int) (vs:List Value),WellAll P h vs (ns.map WData.int)->IntsAre vs ns:=by
 intro ns
 induction ns with
 |nil=>
  intro vs w;rw[List.map_nil]at w;cases w;exact .nil
 |cons n ns ih=>
  intro vs w;rw[Zr]at w;cases w with
  |cons a b=>
   cases a;exact .cons _ _ (ih _ b)
def RS{l:OpenLaw}{n:Nat}(hn:l.most=some n){P:Params}{h:Heap}{args:List WData}{vals:List Value}
  (uP:l.row.toRowW.claim.pre args=true)(Bd:WellAll P h vals args):
  ∃a vs ns,vals=[Value.ref a]/\args=[WData.list (ns.map WData.int)]/\h.get? a=some {cls:=.type "list",data:=.seq vs.toArray}/\IntsAre vs ns/\ns.length<=n:=by
 have hsh:WShape.hasAll [] args [.list .int]=true:=(pre_splitW uP).1;have hc:l.pre.holds [] {args:=args}=true:=(pre_splitW uP).2;obtain⟨d,r,rfl,h1,h2⟩:=hasAllW_cons hsh;obtain rfl:=hasAllW_nil h2;obtain⟨xs,rfl,h3⟩:=hasW_list h1;obtain⟨ns,rfl⟩:=items_int h3
 have hlen:ns.length<=n:=by
  unfold OpenLaw.pre at hc
  have h4:(WTm.not (.lt (.lit (.int (n:Int))) (.len (.arg 0)))).holds [] {args:=[.list (ns.map .int)]}=true:=by
   have h4:=(holds_andW hc).1;rw[hn]at h4;exact h4
  have h5:=condW_of h4 (w_not (w_lt w_lit (w_len_list (w_arg rfl))));rw[Y1]at h5;refine Nat.le_of_not_lt λq=>?_;have q':(n:Int)<((ns.length:Nat):Int):=by omega
  first
   |(rw[ZN q']at h5;exact absurd h5 (by decide))
   |(simp at h5;omega)
 cases Bd with
 |cons w1 w2=>
  cases w2;cases w1 with
  |list ho AF=>exact⟨_,_,ns,rfl,rfl,ho,OK ns _ AF,hlen⟩
def RT(l:OpenLaw)(args:List WData):l.row.toRowW.claim.post args (.bool true) args=true:=
 postW_of (r:=l.row.toRowW) (X:=(true==true))
  (show WShape.has [] (.bool true) .bool=true by first|rfl|decide|simp[WShape.has,WShape.arms,WShape.armsAll])
  (show(WTm.eq .res (.lit (.bool true))).value [] {args:=args,res:=some (.bool true),after:=args}=some (.bool (true==true))from w_eq_bool (w_res rfl) w_lit) rfl
def Qe{l:OpenLaw}{n:Nat}{q:Program}{loose:List Str}{XP:(Str->Option Value)->Heap->Prop}{YP:World->Heap->Prop}{d:DefRec}
  (hn:l.most=some n)(sr:d.params.defaults=[])
  (call:∀(w:World) (s₀ s₁:Shared) (mg mb:Str->Option Value) (fa:Addr) (o:Obj) (pm cd doc:Value) (a:Addr) (vs:List Value) (ns:List Int),
   Ground q loose [] XP w s₀ mg mb s₁.heap->YP w s₁.heap->
   s₁.heap.get? fa=some o->o.data=.func (docDef d.name d.params d.body d.scope pm cd doc)->s₁.heap.CodeRec cd d.name->mg d.name=some (.ref fa)->
   s₁.heap.get? a=some {cls:=.type "list",data:=.seq vs.toArray}->IntsAre vs ns->ns.length<=n->s₁.gens= #[]->
   codeAny (model l.prog w) callerA (.call (.ref fa) ⟨[.ref a],[]⟩) (λr s'=>r=.ok (.ret (.bool true))/\OldK s₁.heap s'.heap/\s'.os=s₁.os/\AllBare s'.gens) s₁):
  WalkO q loose XP YP l.row.toRowW d [] (λf vs=>PySem.call f vs):=by
 intro w s₀ s₁ mg mb G Y fa o pm cd doc dV kV ho hd b5 hD hmg hg args vals as uP acI Mn Bd vj;obtain rfl:dV=.none:=Dflts.none hD sr;obtain rfl:kV=.none:=Dflts.noKw hD;obtain⟨a,vs,ns,rfl,rfl,AG,hints,hlen⟩:=RS hn uP Bd;refine enter_call (codeAny_mono (call w s₀ s₁ mg mb fa o pm cd doc a vs ns G Y ho (fd_plain hd) b5 hmg AG hints hlen hg) λr s' hq=>?_);obtain⟨rfl,h2,h3,h4⟩:=hq;exact⟨.inl ⟨.bool true,.bool true,[],rfl,λ_=>rfl,.bool true,RT l _,λ_=>⟨List.Pairwise.nil,λ_ hm=>(nomatch hm)⟩⟩,h2,h3,h4⟩
section
variable {prog:Program}{w:World}{A:Around}{E:Value->Shared->Prop}{s:Shared}{K:Frag}
end
end Att
namespace L2
open PySem PySem.Spec PyProof.Rows
def Fg:∀{vs:List Value}{ns:List Int},IntsAre vs ns->Vals (ns.map V.int) vs
 |_,_,.nil=>.nil
 |_,_,.cons n t h=>.cons ⟨t,rfl⟩ (Fg h)
def AH(H:Hp):Prop:=∀b,H b=none\/∃o xs,H b=some (.df o (.lst xs))
def Ue{P:Program}{w:World}{K:PySem.W.Frag}{mg mb:Str->Option Value}{CX:iQ}{k:Nat}{fa a:Addr}{fd:FuncData}{x:Str}{sp:Sp}{s₁:Shared}{vs:List Value}{ns:List Int}
  (KX:K.In s₁.heap)(Mp:s₁.heap.Ns mainGlobals mg)(hb:s₁.heap.Ns builtinsNs mb)(hbb:∀x:Str,x≠"__name__"->mb x=bootBuiltins x)(abN:s₁.heap.NoLimit)(hg:s₁.gens= #[])
  (ha:s₁.heap.get? a=some {cls:=.type "list",data:=.seq vs.toArray})(hi:IntsAre vs ns)(hl:ns.length<=sizeLine)(hr:bG k callerA)
  (F:∀base:Heap,K.In base->base.Ns mainGlobals mg->aA P w K mg base CX k fa fd [x] sp)(aaG:∀(s:Shared) (u:Value),BindsTo s fd ⟨[u],[]⟩ [(x,u)])
  (jY:∀H:Hp,AH H->ah K H a (ns.map V.int)->sp [.ref a] H (λv _=>v=.bl true) λ_ _ _=>False)
  (Be:∀H e s',CX [] H s₁ (λ_ _ _=>False) e s'->False):
  codeAny (model P w) callerA (.call (.ref fa) ⟨[.ref a],[]⟩) (λr s'=>r=.ok (.ret (.bool true))/\OldK s₁.heap s'.heap/\s'.os=s₁.os/\AllBare s'.gens) s₁:=by
 have rv:=Fg hi;have abO:=hi.length
 have core:∀H:Hp,AH H->ah K H a (ns.map V.int)->bw P w H s₁.heap->(∀b,H b≠none->b=a)->(H a≠none->K.lookup a=none)->
   codeAny (model P w) callerA (.call (.ref fa) ⟨[.ref a],[]⟩) (λr s'=>r=.ok (.ret (.bool true))/\OldK s₁.heap s'.heap/\s'.os=s₁.os/\AllBare s'.gens) s₁:=by
  intro H hO hS ao hA hK;have Ie:∀{b:Addr}{o:Obj},s₁.heap.get? b=some o->H b=none->(kD s₁.heap H).get? b=some o:=λe n=>T6 e n
  have sg:∀{b:Addr}{o:Obj}{es:Array DictEntry}{ep:Nat},s₁.heap.get? b=some o->o.data=.dict es ep->H b=none:=λ{b o es ep} e d=>by
   cases q:H b with
   |none=>rfl
   |some u=>
    have e':b=a:=hA b (by rw[q];simp);subst e';rw[ha]at e;cases e;have d':Data.seq vs.toArray _=Data.dict es ep:=d;cases d'
  have vm:∀{b:Addr}{m:Str->Option Value},s₁.heap.Ns b m->(kD s₁.heap H).Ns b m:=λ{b m} ⟨o,es,ep,e,d,r⟩=>⟨o,es,ep,Ie e (sg e d),d,r⟩
  have Mq:K.In (kD s₁.heap H):=λb o e=>Ie (KX b o e) (by
   cases q:H b with
   |none=>rfl
   |some u=>
    have e':b=a:=hA b (by rw[q];simp);subst e';rw[hK (by rw[q];simp)]at e;cases e)
  have hM:Mod K mg (kD s₁.heap H):=⟨Mq,vm Mp,⟨mb,vm hb,hbb⟩,let⟨mc,h1,h2⟩:=abN;⟨mc,vm h1,h2⟩⟩;have e0:nO P w K mg (kD s₁.heap H) callerA [] s₁ H:=⟨rfl,hM,λb o e=>V8 e,Nat.le_of_eq (RH _ _),trivial,λb hb=>absurd (show b∈([]:List Addr)from hb) (by simp),ao,.of_eq hg⟩;refine codeAny_mono ((F _ Mq (vm Mp)).run callerA [] s₁ H ⟨[.ref a],[]⟩ [.ref a] [.ref a] _ _ hr e0 (aaG s₁ (.ref a)) (.cons rfl .nil) (jY H hO hS)) λr s' h=>?_;cases r with
  |error e=>exact(Be H e s' h).elim
  |ok fl=>
   cases fl with
   |next=>exact Zu h
   |brk=>exact Zu h
   |cont=>exact Zu h
   |ret u=>
    obtain⟨v,H',os,bare,un,rR,r',q⟩:=h;have q':v=.bl true:=q;subst q';obtain rfl:u=Value.bool true:=r';refine⟨rfl,OldK.of_keep λb o e=>?_,os,bare⟩;cases q:H b with
    |none=>exact un.keep b o e q (by intro z;exact absurd (show b∈([]:List Addr)from z) (by simp)) (by simp)
    |some u=>
     rcases hO b with z|⟨ob,xs,z⟩
     ·rw[q]at z;cases z
     ·have z2:=un.fF b ob _ z;obtain⟨e1,_⟩:=ao b _ z;obtain⟨e2,_⟩:=rR b _ z2;rw[e]at e1;cases e1;exact e2
 cases hk:K.lookup a with
 |some o=>
  have e:=KX a o hk;rw[ha]at e;cases e;refine core (λ_=>none) (λ_=>.inl rfl) (.inr ⟨_,vs.toArray,_,hk,rfl,rfl,rfl,by rw[Zl,abO];exact hl,by simpa using rv⟩) (λb u z=>by have z':(none:Option HO)=some u:=z;cases z') (λb z=>absurd rfl z) λz=>absurd rfl z
 |none=>
  refine core (λb=>if b=a then some (.df {cls:=.type "list",data:=.seq vs.toArray} (.lst (ns.map V.int)))else none) (λb=>?_) (.inl (.inr ⟨{cls:=.type "list",data:=.seq vs.toArray},if_pos rfl⟩)) (λb u z=>?_) (λb z=>?_) λ_=>hk
  ·by_cases hb:b=a
   ·exact .inr ⟨_,_,if_pos hb⟩
   ·exact .inl (if_neg hb)
  ·by_cases hb:b=a
   ·have z':=(if_pos hb).symm.trans z;cases z';subst hb;exact⟨ha,by rw[Y1];exact hl,vs,_,rv,ha⟩
   ·have z':=(if_neg hb).symm.trans z;cases z'
  ·by_cases hb:b=a
   ·exact hb
   ·exact absurd (if_neg hb) z
def Wj{l:PySem.W.OpenLaw}{n k:Nat}{q:Program}{loose:List Str}{XP:(Str->Option Value)->Heap->Prop}{YP:World->Heap->Prop}{d:DefRec}{K:Params->PySem.W.Frag}{CX:World->iQ}{sp:World->Sp}{x:Str}
  (hn:l.most=some n)(vf:n<=sizeLine)(sr:d.params.defaults=[])(hr:bG k callerA)
  (hY:∀(w:World) (h:Heap),YP w h->(K w.params).In h)
  (F:∀(w:World) (mg:Str->Option Value) (fa:Addr) (h:Heap),(K w.params).In h->h.Ns mainGlobals mg->mg d.name=some (.ref fa)->
   ∃fd:FuncData,(∀(s:Shared) (u:Value),BindsTo s fd ⟨[u],[]⟩ [(x,u)])/\
    ∀base:Heap,(K w.params).In base->base.Ns mainGlobals mg->aA l.prog w (K w.params) mg base (CX w) k fa fd [x] (sp w))
  (jY:∀(w:World) (H:Hp) (a:Addr) (ns:List Int),ns.length<=n->AH H->ah (K w.params) H a (ns.map V.int)->sp w [.ref a] H (λv _=>v=.bl true) λ_ _ _=>False)
  (Be:∀(w:World) (H:Hp) (s:Shared) (e:Value) (s':Shared),CX w [] H s (λ_ _ _=>False) e s'->False):
  PySem.W.WalkO q loose XP YP l.row.toRowW d [] (λf vs=>PySem.call f vs):=by
 refine Att.Qe hn sr λw s₀ s₁ mg mb fa o pm cd doc a vs ns G Y ho hd b5 hmg AG hints hlen hg=>?_;have KX:=hY w _ Y;obtain⟨fd,hb,hF⟩:=F w mg fa _ KX G.T.g hmg;exact Ue KX G.T.g G.T.b G.T.builtins G.T.nolimit hg AG hints (ZQ hlen vf) hr hF hb (λH hO hS=>jY w H a ns hlen hO hS) λH e s'=>Be w H s₁ e s'
def inClass(s:Stmt)(j:Nat):Stmt:=match s with
 |.ClassDef _ _ _ body _ _ _ _ _ _ _=>body.getD j (.Pass ⟨0,0,0,0⟩)
 |_=>.Pass ⟨0,0,0,0⟩
def jO(s:Stmt):Arguments:=match s with
 |.FunctionDef _ a _ _ _ _ _ _ _ _=>a
 |_=>{posonlyargs:=[],args:=[],vararg:=none,kwonlyargs:=[],kw_defaults:=[],kwarg:=none,defaults:=[]}
def eK(s:Stmt):List Stmt:=match s with
 |.FunctionDef _ _ b _ _ _ _ _ _ _=>b
 |_=>[]
def aF(s:Stmt):Scope:=match s with
 |.FunctionDef _ _ _ _ _ _ sc _ _ _=>sc
 |_=>{kind:=.function,names:=[],isGenerator:=false,isCoroutine:=false}
abbrev aN:iQ:=λ_ _ _ _ _ _=>False
abbrev E0:XK:=λ_ _ _=>False
def uF{X:Cx}:Passes aN X E0:=λ_ _ _ _ _ _ _ h=>h.elim
structure aH(K:PySem.W.Frag)(x qual:Str)(st:Stmt)(f:Addr)(fd:FuncData):Prop where
 ex:∃(oc:Value) (od:Option Addr) (kV doc pm:Value) (an:Option Addr) (au ct:Value) (jx:Array (Option Value)),
  fd=PySem.W.fnOf x qual (jO st) (eK st) (aF st) .none kV doc pm an au ct/\K.lookup f=some ⟨oc,od,.func fd,jx⟩/\PySem.W.codeIn K au qual=true
 kp:PySem.W.keepIn K (.ref f)=true
section
variable {P:Program}{w:World}{K:PySem.W.Frag}{mg:Str->Option Value}{base:Heap}
def aH.ok{x qual:Str}{st:Stmt}{f:Addr}{fd:FuncData}{N ps:List Str}{k:Nat}{sp:Sp}(F:aH K x qual st f fd)(S:aM N ps (aF st))(len:∀vs H Q E,sp vs H Q E->vs.length=ps.length)
  (rE:∀(au:Value) (A:Around) (outer:List Env) (s:Shared) (H:Hp) (vs:List V) (Q:VK) (E:XK),bG k (A.deeper (envOfC qual (aF st) s.heap.objs.size f au))->sp vs H Q E->
   ∃t,cW (fG aN P w K mg base N qual (aF st) f au A outer s H E).gu (eK st) t/\t {nx:=λ_ H'=>Q .aE H',rt:=Q} (start N vs) H):aA P w K mg base aN (k+1) f fd ps sp:=by
 obtain⟨oc,od,kV,doc,pm,an,au,ct,jx,rfl,lk,b5⟩:=F.ex;refine KH lk b5 S len λA outer s H vs Q E hr jY=>?_;obtain⟨t,h,q⟩:=rE au A outer s H vs Q E hr jY;exact⟨t,h.gu,q⟩
def aH.binds{x qual:Str}{st:Stmt}{f:Addr}{fd:FuncData}{ps:List Str}(F:aH K x qual st f fd)
  (h:∀(kV doc pm:Value) (an:Option Addr) (au ct:Value) (us:List Value),us.length=ps.length->bindArgs (PySem.W.fnOf x qual (jO st) (eK st) (aF st) .none kV doc pm an au ct) ⟨us,[]⟩=pure (ps.zip us)):Binds K fd ps []:=by
 obtain⟨oc,od,kV,doc,pm,an,au,ct,jx,rfl,lk,b5⟩:=F.ex;exact .all (h kV doc pm an au ct)
def fun_mk{x qual:Str}{st:Stmt}{f:Addr}{oc:Value}{od an:Option Addr}{jx:Array (Option Value)}{kV doc pm au ct:Value}(l:K.lookup f=some ⟨oc,od,.func (PySem.W.fnOf x qual (jO st) (eK st) (aF st) .none kV doc pm an au ct),jx⟩)
  (c:PySem.W.codeIn K au qual=true)(k:PySem.W.keepIn K (.ref f)=true):aH K x qual st f (PySem.W.fnOf x qual (jO st) (eK st) (aF st) .none kV doc pm an au ct):=⟨⟨oc,od,kV,doc,pm,an,au,ct,jx,rfl,l,c⟩,k⟩
end
def rF{A:Around}{k:Nat}(hr:bG k A):A.units+1<cLine:=ZP (Nat.add_le_add_left (by decide:1<=64) _) hr.units
section
variable {X:Cx}
def pv(i:Nat){x:Str}{pos:Pos}(hN:X.N[i]?=some x:=by rfl)(hv:u9 X.env.scope x:=by first|exact Or.inl rfl|exact Or.inr (Or.inl rfl)|exact Or.inr (Or.inr rfl))(hd:(x==("__debug__":Str))=false:=by decide)
  (b5:(x==("__classdict__":Str))=false:=by decide):PE X (.Name x pos) (gZ i):=XU hN hv hd b5
end
def cV{A B:Prop}(h:B):if false=true then A else B:=by
 rw[if_neg Zk];exact h
def fI{A B:Prop}(h:A):if true=true then A else B:=by
 rw[if_pos rfl];exact h
def bK{c A B:Prop} [Decidable c](h1:c->A)(h2:¬c->B):if c then A else B:=by
 by_cases h:c
 ·rw[if_pos h];exact h1 h
 ·rw[if_neg h];exact h2 h
def aa(H H':Hp):Prop:=∀b o,H b=some o->H' b=some o
def aa.refl(H:Hp):aa H H:=λ_ _ h=>h
def aa.trans{H H1 H2:Hp}(a:aa H H1)(b:aa H1 H2):aa H H2:=λc o h=>b c o (a c o h)
def aa.free{H H':Hp}(e:aa H H'){l:Addr}(h:H' l=Option.none):H l=Option.none:=by
 cases q:H l with
 |none=>rfl
 |some o=>
  rw[e l o q]at h;cases h
def aa.seq{K:PySem.W.Frag}{H H':Hp}{a:Addr}{xs:List V}(e:aa H H')(h:ah K H a xs):ah K H' a xs:=by
 rcases h with(h|⟨o,h⟩)|h
 ·exact .inl (.inl (e _ _ h))
 ·exact .inl (.inr ⟨o,e _ _ h⟩)
 ·exact .inr h
def Cx.cq(X:Cx)(N:List Str)(scope:Scope)(cl:List (Str×Addr))(C:Addr)(s:Shared)(H:Hp)(fp:List Addr):Cx:=
 {prog:=X.prog,w:=X.w,K:=X.K,mg:=X.mg,base:=X.base,A:=X.A,N:=N,s₀:=s,H₀:=H,env:=compEnvC scope cl C X.env,outer:=X.stack,stack:=X.stack,ex:=fp,fn:=λ_=>false,calm:=X.calm,pn:=[],xe:=λ_ _=>False}
def bS(ix:List Nat)(x:Option V)(σ:St):St:=x::ix.map λi=>(σ[i]?).join
def bw.sameBut{P:Program}{w:World}{H:Hp}{h h':Heap}{C:Addr}(x:bw P w H h)(hC:H C=none)(sb:Heap.SameBut C h h'):bw P w H h':=λa o e=>
 (x a o e).iJ (λb u hb q=>(sb.2 b (by
  rintro rfl;rcases hb with hb|hb
  ·rw[<-hb,hC]at e;cases e
  ·rw[hC]at hb;cases hb)).trans q) (λ_ q=>q) λ_ _ q=>q
inductive Wr(P:Prop):Prop where
 |mk (h:P):Wr P
def Wr.get{P:Prop}(h:Wr P):P:=by cases h;assumption
section
variable {X:Cx}{e:Expr}{te:TE}{pos p1 p2 p3:Pos}
abbrev cY(r:R2):R2:=λx y H Q=>Wr (r x y H Q)
def b6.wr{f:Value->Value->Sem Value}{r:R2}(h:b6 X f r):b6 X f (cY r):=λpins s σ H x y v u Q I rx ry q=>h pins s σ H x y v u Q I rx ry q.get
def aJ:e9 X (cY (jU X.K)):=λvalue slice pins s σ H x y v u Q I rx ry q hs=>Wh value slice pins s σ H x y v u Q I rx ry q.get hs
def bu:e9 X (cY (fH X.K)):=λvalue slice pins s σ H x y v u Q I rx ry q hs=>X4 value slice pins s σ H x y v u Q I rx ry q.get hs
def iL:sj X (λx lo hi H Q=>Wr (uM X.K x lo hi H Q)):=λpins s σ H x v vl vu lo hi sl Q I rx hs pl pu q=>yL pins s σ H x v vl vu lo hi sl Q I rx hs pl pu q.get
def ko:b6 X (binaryOp .Add) (cY uN):=Yb.wr
inductive JJ(K:PySem.W.Frag)(x:V)(y:V)(H:Hp)(Q:VK):Prop
 |mk (a b:Addr) (ns ms:List Int) (_:x=.ref a) (_:y=.ref b) (_:ah K H a (ns.map V.int)) (_:ah K H b (ms.map V.int)) (_:Q (.bl (decide (ns=ms))) H):JJ K x y H Q
def AI(K:PySem.W.Frag):R2:=JJ K
inductive JK(K:PySem.W.Frag)(x:V)(y:V)(H:Hp)(Q:VK):Prop
 |mk (a b:Addr) (ns ms:List Int) (_:x=.ref a) (_:y=.ref b) (_:ah K H a (ns.map V.int)) (_:ah K H b (ms.map V.int)) (_:Q (.bl (!decide (ns=ms))) H):JK K x y H Q
def LC(K:PySem.W.Frag):R2:=JK K
def Wk(hu:X.A.units+64<cLine):b6 X (compareOp .Eq) (cY (AI X.K)):=by
 intro pins s σ H x y v u Q I rx ry h;replace h:=h.get;obtain⟨a,b,ns,ms,rfl,rfl,ha,hb,q⟩:=h;cases rx;cases ry;obtain⟨ai,r,ht,hz⟩:=I.list ha;obtain⟨its',r',pQ,Bf⟩:=I.list hb;exact PySem.W.eq_intsK ht.isList (intsAre_of r) pQ.isList (intsAre_of r') hu ⟨.bl _,H,I,rfl,q⟩
def Wl(hu:X.A.units+64<cLine):b6 X (compareOp .NotEq) (cY (LC X.K)):=by
 intro pins s σ H x y v u Q I rx ry h;replace h:=h.get;obtain⟨a,b,ns,ms,rfl,rfl,ha,hb,q⟩:=h;cases rx;cases ry;obtain⟨ai,r,ht,hz⟩:=I.list ha;obtain⟨its',r',pQ,Bf⟩:=I.list hb;exact PySem.W.ne_intsK ht.isList (intsAre_of r) pQ.isList (intsAre_of r') hu ⟨.bl _,H,I,rfl,q⟩
inductive AJ(K:PySem.W.Frag)(x:V)(H1:Hp)(Q:VK):Prop
 |mk (a xs:_) (_:x=.ref a) (_:ah K H1 a xs) (_:∀p,H1 p=none->Q (.ref p) (upd H1 p (.lst xs.reverse))):AJ K x H1 Q
def abP(K:PySem.W.Frag)(te:TE):TE:=λσ H Q=>te σ H λx H1=>Wr (AJ K x H1 Q)
def uG(K:PySem.W.Frag)(xs:List V)(H:Hp)(Q:VK):Prop:=∃p ys,xs=[.ref p]/\(ah K H p ys\/aV K H p ys)/\∀l,H l=none->Q (.ref l) (upd H l (.lst ys))
def xO:gF X (.type "list") (λxs H Q=>Wr (uG X.K xs H Q)):=λpins s σ H vs us Q I r h=>Px pins s σ H vs us Q I r h.get
def Vals.rev{xs:List V}{us:List Value}(r:Vals xs us):Vals xs.reverse us.reverse:=by
 induction r with
 |nil=>exact .nil
 |cons h t ih=>rw[List.reverse_cons,List.reverse_cons];exact Vals.append ih (.cons h .nil)
def Yc(he:PE X e te){j:Nat}:PE X (.Subscript e (.Slice none none (some (.UnaryOp .USub (.Constant (.int 1) j p1) p3)) p2) pos) (abP X.K te):=by
 intro pins s σ H Q I h;refine Subscript_ (az (he pins s σ H _ I h) λv s1 ⟨x,H1,I1,r1,q1⟩=>?_);obtain⟨a,xs,rfl,hx,q⟩:=q1.get;cases r1;refine wpAny_Slice ?_;rw[evalPart_none];refine ZV (ZV ?_);refine az (cL (jh je af) pins s1 σ H1 (λo H'=>o=some (-1)/\H'=H1) I1 ⟨_,rfl,_,rfl,rfl,rfl⟩) λvk s2 ⟨o,H2,I2,pk,q2⟩=>?_;obtain⟨rfl,rfl⟩:=q2;obtain⟨ai,r,ht,hz⟩:=I2.list hx;have hlen:=r.length;have I4:Inv X pins σ H2 {s2 with heap:=s2.heap.push {cls:=.type "slice",data:=.fields #[.none,.none,vk]}}:=I2.kept (t':=s2.toks) λb ob q=>Y8 _ q;obtain⟨its',r',pQ,Bf⟩:=I4.list hx;refine tail_any pQ.isList.typeIs slot_list_getitem.lookup ?_ (by with_unfolding_all rfl);refine wpAny_getItem_list_slice pQ.isList (Heap.IsSliceOf.new ..) .none .none pk (by simp) ?_ (by rw[Zl, <-r'.length];exact Bf);rw[PySem.W.krv_pick];refine⟨.ref _,_,I4.laid (t':=s2.toks) (o:=.lst xs.reverse) (λb ob q=>Y8 _ q) (Y3 _) ?_,rfl,q _ (I4.ao.fresh (Y3 _))⟩;exact⟨by rw[List.length_reverse];exact hz,its'.reverse,0,r'.rev,Zq _ rfl⟩
def RU{K:PySem.W.Frag}{a:Addr}{ns:List Int}{ix:List Nat}{te:TE}{σ:St}{H:Hp}{Q:VK}(f:Int->Int)(hq:ah K H a (ns.map V.int))(hl:ns.length<sizeLine)
  (he:∀z∈ns,∀(H':Hp) (Q':VK),Q' (.int (f z)) H'->te (bS ix (some (.int z)) σ) H' Q')(h:∀D,H D=none->Q (.ref D) (upd H D (.lst ((ns.map f).map V.int)))):
  ∀D,H D=none->∃W:Nat->Nat->List V->Hp->Prop,(∃m,W 0 m [] (upd H D (.lst [])))/\
   ∀i m ys H2,W i m ys H2->H2 D=some (.lst ys)/\(((dF K a).stop i H2/\Q (.ref D) H2)\/((dF K a).go i H2/\ys.length<sizeLine/\∀x H',(dF K a).fM i H2 x H'->te (bS ix (some x) σ) H' λy H3=>
    H3 D=some (.lst ys)/\∃m',m'<m/\W (i+1) m' (ys++[y]) (upd H3 D (.lst (ys++[y]))))):=by
 intro D hD;refine⟨λi m ys H2=>m=ns.length-i/\i<=ns.length/\ys=((ns.take i).map f).map V.int/\H2=upd H D (.lst ys),⟨ns.length,by simp,Zp _,by simp,rfl⟩,?_⟩;rintro i m ys H2 ⟨rfl,hi,rfl,rfl⟩
 have hs:ah K (upd H D (.lst (((ns.take i).map f).map V.int))) a (ns.map V.int):=by
  have s:aa H (upd H D (.lst (((ns.take i).map f).map V.int))):=λb o e=>by rw[aj (a9 e hD)];exact e
  exact s.seq hq
 refine⟨ak,?_⟩;by_cases aQ:i<ns.length
 ·refine .inr ⟨⟨_,V.int ns[i],hs,by simp[aQ]⟩,by simp;omega,λx H' y=>?_⟩;obtain⟨e,y⟩:=y;subst e;have ey:=y _ hs;simp only[Zf,Zd aQ,Option.map_some]at ey;cases ey;refine he ns[i] (ZA aQ) _ _ ⟨ak,ns.length-(i+1),by omega,rfl,aQ,?_,?_⟩
  ·rw[Zj aQ];simp only[Ze,Zr,List.map_nil]
  ·rw[kh]
 ·have e:i=ns.length:=by omega
  subst e;refine .inl ⟨⟨_,hs,by simp⟩,?_⟩;rw[ZE (Y3 _)];exact h D hD
def uQ(xs:List V)(H:Hp)(Q:VK):Prop:=xs.length<=sizeLine/\∀p,H p=none->Q (.ref p) (upd H p (.lst xs))
def KJ(t:TA):TE:=λσ H Q=>t σ H λxs H1=>Wr (uQ xs H1 Q)
def dU{es:List Expr}{t:TA}(h:PA X es t):PE X (.List es pos) (KJ t):=by
 intro pins s σ H Q I hq;refine wpAny_List_spliced (az (h pos pins s σ H _ I hq) λus s1 ⟨xs,H1,I1,r,w⟩=>?_);obtain⟨z,q⟩:=w.get;refine⟨by rw[<-r.length];exact z,?_⟩;have hf:H1 s1.heap.objs.size=none:=I1.ao.fresh (Y3 _);refine⟨.ref s1.heap.objs.size,upd H1 s1.heap.objs.size (.lst xs),I1.laid (t':=s1.toks) (λb u e=>Y8 _ e) (Y3 _) ?_,rfl,q _ hf⟩;exact⟨z,us,0,r,Zq _ rfl⟩
end
abbrev ax(H:Hp)(a:Addr)(ns:List Int):Prop:=H a=some (.lst (ns.map V.int))
def cO{α:Type}(xs:List α)(lo hi:Option Int):List α:=(xs.drop (HT.aX xs.length 0 lo)).take (HT.aX xs.length xs.length hi-HT.aX xs.length 0 lo)
def yk(ns:List Int)(lo hi:Option Int):gn (ns.map V.int) lo hi=(cO ns lo hi).map V.int:=by
 unfold gn cO;simp[List.map_drop,List.map_take]
def Ig{α:Type}(xs:List α)(k:Nat):cO xs none (some (k:Int))=xs.take k:=by
 unfold cO;rw[HT.ue,HT.GC];simp only[List.drop_zero,Nat.sub_zero];by_cases h:k<=xs.length
 ·rw[Nat.min_eq_left h]
 ·rw[Nat.min_eq_right (by omega),ZE (Y3 _),ZE (by omega)]
def Fh{α:Type}(xs:List α)(k:Nat):cO xs (some (k:Int)) none=xs.drop k:=by
 unfold cO;rw[HT.ue,HT.GC];by_cases h:k<=xs.length
 ·rw[Nat.min_eq_left h,ZE (by rw[ZJ];exact Y3 _)]
 ·rw[Nat.min_eq_right (by omega),List.drop_of_length_le (Y3 _),List.drop_of_length_le (by omega)];simp
def o8{α:Type}(xs:List α)(j k:Nat)(h:j<=k):cO xs (some (j:Int)) (some (k:Int))=(xs.drop j).take (k-j):=by
 unfold cO;rw[HT.ue,HT.ue];by_cases h1:k<=xs.length
 ·rw[Nat.min_eq_left h1,Nat.min_eq_left (by omega)]
 ·rw[Nat.min_eq_right (show xs.length<=k by omega)];by_cases h2:j<=xs.length
  ·rw[Nat.min_eq_left h2,ZE (by rw[ZJ];exact Y3 _),ZE (by rw[ZJ];omega)]
  ·rw[Nat.min_eq_right (by omega),List.drop_of_length_le (Y3 _),List.drop_of_length_le (by omega)];simp
def ym{α:Type}(xs:List α)(lo hi:Option Int):(cO xs lo hi).length<=xs.length:=by
 unfold cO;rw[Zx,ZJ];omega
def GF{α:Type}{xs:List α}{lo hi:Option Int}{v:α}(h:v∈cO xs lo hi):v∈xs:=List.mem_of_mem_drop (List.mem_of_mem_take h)
def Wm{ns:List Int}{j:Nat}(h:j<ns.length):jy (ns.map V.int) (j:Int)=some (V.int (ns[j]'h)):=lM (by rw[Zf,Zd h];rfl)
def jd{ns:List Int}{i:Nat}{y:V}(h:(ns.map V.int)[i]?=some y):∃z,y=V.int z/\ns[i]?=some z:=by
 rw[Zf]at h;cases e:ns[i]? with
 |none=>rw[e]at h;cases h
 |some z=>rw[e]at h;exact⟨z,(Zg h).symm,rfl⟩
def aa.upd{H H1:Hp}{a:Addr}{o:HO}(s:aa H H1)(n:H a=none):aa H (upd H1 a o):=λb u e=>by
 rw[aj (a9 e n)];exact s b u e
def aa.ints{H H':Hp}{a:Addr}{ns:List Int}(e:aa H H')(h:ax H a ns):ax H' a ns:=e _ _ h
def ax.other{H:Hp}{a b:Addr}{ns:List Int}{o:HO}(h:ax H a ns)(n:a≠b):ax (L2.upd H b o) a ns:=by
 show L2.upd H b o a=_;rw[aj n];exact h
def ax.put{H:Hp}{a:Addr}{ns:List Int}:ax (L2.upd H a (.lst (ns.map V.int))) a ns:=ak
def ax.snoc{H:Hp}{a:Addr}{ns:List Int}{v:Int}:ax (L2.upd H a (.lst (ns.map V.int++[V.int v]))) a (ns++[v]):=by
 show L2.upd H a _ a=_;rw[ak,Ze];rfl
def aa.kF{H H1:Hp}{a:Addr}{o:HO}(s:aa H H1)(n:H1 a=none):aa H (L2.upd H1 a o):=s.upd (s.free n)
def bD{n:Nat}(h:n<=10000000):n<sizeLine:=ZP h (by decide)
def rm{H:Hp}{xs:List V}{Q:VK}(ns:List Int)(e:xs=ns.map V.int)(h:∀(p:Addr) (H':Hp),H p=none->ax H' p ns->aa H H'->Q (.ref p) H'):∀p,H p=none->Q (.ref p) (upd H p (.lst xs)):=λp hp=>by
 subst e;exact h p _ hp .put ((aa.refl H).upd hp)
def rG{H:Hp}{ns:List Int}{Q:VK}(h:∀(p:Addr) (H':Hp),H p=none->ax H' p ns->aa H H'->Q (.ref p) H'):∀p,H p=none->Q (.ref p) (upd H p (.lst (ns.map V.int))):=rm ns rfl h
def aaH{H:Hp}{ns:List Int}{lo hi:Option Int}{Q:VK}(h:∀(p:Addr) (H':Hp),H p=none->ax H' p (cO ns lo hi)->aa H H'->Q (.ref p) H'):∀p,H p=none->Q (.ref p) (upd H p (.lst (gn (ns.map V.int) lo hi))):=rm _ (yk ..) h
def Yd{H:Hp}{ns ms:List Int}{Q:VK}(h:∀(p:Addr) (H':Hp),H p=none->ax H' p (ns++ms)->aa H H'->Q (.ref p) H'):∀p,H p=none->Q (.ref p) (upd H p (.lst (ns.map V.int++ms.map V.int))):=rm _ (by rw[Ze]) h
def Ye{H:Hp}{ns:List Int}{Q:VK}(h:∀(p:Addr) (H':Hp),H p=none->ax H' p ns.reverse->aa H H'->Q (.ref p) H'):∀p,H p=none->Q (.ref p) (upd H p (.lst (ns.map V.int).reverse)):=rm _ (by rw[List.map_reverse]) h
def LG{ms:List Int}(k:Nat){i:Int}(h:k<ms.length)(e:i=(k:Int):=by rfl):jy (ms.map V.int) i=some (V.int (ms.getD k 0)):=by
 subst e;rw[Wm h];simp[List.getD,h]
def Wn{K:PySem.W.Frag}{H:Hp}{a:Addr}{ns:List Int}{Q:VK}(hq:ax H a ns)(h:∀(p:Addr) (H':Hp),H p=none->ax H' p ns->aa H H'->Q (.ref p) H'):Wr (uG K [.ref a] H Q):=⟨⟨a,_,rfl,.inl (ah.of hq),rG h⟩⟩
def jc{K:PySem.W.Frag}{H:Hp}{a:Addr}{ns:List Int}{lo hi:Option Int}{Q:VK}(hq:ax H a ns)(h:∀(p:Addr) (H':Hp),H p=none->ax H' p (cO ns lo hi)->aa H H'->Q (.ref p) H'):Wr (uM K (.ref a) lo hi H Q):=⟨⟨a,_,rfl,ah.of hq,aaH h⟩⟩
def pA{H:Hp}{a b:Addr}{ns ms:List Int}{Q:VK}(ha:ax H a ns)(hb:ax H b ms)(hl:ns.length+ms.length<=10000000)(h:∀(p:Addr) (H':Hp),H p=none->ax H' p (ns++ms)->aa H H'->Q (.ref p) H'):Wr (uN (.ref a) (.ref b) H Q):=
 ⟨⟨a,b,_,_,rfl,rfl,ha,hb,by simp only[Y1];exact Z1 (bD hl),Yd h⟩⟩
def Yf{K:PySem.W.Frag}{H:Hp}{a:Addr}{ns:List Int}{Q:VK}(hq:ah K H a (ns.map V.int))(h:∀(p:Addr) (H':Hp),H p=none->ax H' p ns.reverse->aa H H'->Q (.ref p) H'):Wr (AJ K (.ref a) H Q):=⟨⟨a,_,rfl,hq,Ye h⟩⟩
def aU{K:PySem.W.Frag}{H:Hp}{a:Addr}{ns:List Int}{i:Int}{Q:VK}(k:Nat)(hq:ax H a ns)(hk:k<ns.length)(h:Q (.int (ns.getD k 0)) H)(e:i=(k:Int):=by rfl):Wr (jU K (.ref a) (.int i) H Q):=⟨⟨a,_,i,_,rfl,rfl,ah.of hq,LG k hk e,h⟩⟩
def Wo{c:Bool}{A:Prop}{H2:Hp}{K:Hp->Prop}(P:Hp->Prop)(hP:P H2)(key:∀H,P H->K H)(h1:(∀H,P H->K H)->A):if c=true then A else K H2:=by
 cases c with
 |true=>rw[if_pos rfl];exact h1 key
 |false=>rw[if_neg Zk];exact key _ hP
def aaI{K:PySem.W.Frag}{H:Hp}{a b:Addr}{ns ms:List Int}{Q:VK}(ha:ax H a ns)(hb:ax H b ms)(h:Q (.bl (decide (ns=ms))) H):Wr (AI K (.ref a) (.ref b) H Q):=⟨⟨a,b,ns,ms,rfl,rfl,ah.of ha,ah.of hb,h⟩⟩
def aaJ{K:PySem.W.Frag}{H:Hp}{a b:Addr}{ns ms:List Int}{Q:VK}(ha:ax H a ns)(hb:ax H b ms)(h:Q (.bl (!decide (ns=ms))) H):Wr (LC K (.ref a) (.ref b) H Q):=⟨⟨a,b,ns,ms,rfl,rfl,ah.of ha,ah.of hb,h⟩⟩
def Wq{K:PySem.W.Frag}{H:Hp}{a b:Addr}{ns ms:List Int}{Q:VK}(ha:ax H a ns)(hb:ax H b ms)(e:ns=ms)(h:Q (.bl true) H):Wr (AI K (.ref a) (.ref b) H Q):=aaI ha hb (by rw[ZN e];exact h)
def lP{H:Hp}{xs:List V}{Q:VK}(ns:List Int)(h:∀(p:Addr) (H':Hp),H p=none->ax H' p ns->aa H H'->Q (.ref p) H')(e:xs=ns.map V.int:=by rfl)(hl:ns.length<=1000:=by simp):Wr (uQ xs H Q):=by
 subst e;exact⟨⟨by rw[Y1];exact Z1 (bD (by omega)),rG h⟩⟩
structure bj(P:Program)(w:World)(K:PySem.W.Frag)(mg:Str->Option Value)(base:Heap)(x:Str)(ps:List Str)(k:Nat)(sp:Sp) where
 f:Addr
 fd:FuncData
 ok:aA P w K mg base aN k f fd ps sp
 pR:mg x=some (.ref f)
 kp:PySem.W.keepIn K (.ref f)=true
 bd:Binds K fd ps []
def bj.pe{X:Cx}{x:Str}{ps:List Str}{k j:Nat}{sp:Sp}{e:Expr}{es:List Expr}{t:TA}{p pos:Pos}(R:bj X.prog X.w X.K X.mg X.base x ps k sp)(hr:bG j X.A)(ha:PA X (e::es) t)(hg:Gl X x:=by rfl)(hj:k<=j:=by decide)
  (eZ:(x==("__debug__":Str))=false:=by decide)(he:starEach (e::es) X.env=(false,eval e X.env)::starEach es X.env:=by rfl)(bL:(backTo pos (starEach es X.env)).any (·.1)=false:=by rfl):
  PE X (.Call (.Name x p) (e::es) [] pos) (uD sp [] E0 t):=HY R.ok (hr.mono hj) hg R.pR R.kp R.bd .nil uF ha eZ he bL
end L2
set_option maxHeartbeats 4000000
namespace My
open PySem L2
structure Txt(K:PySem.W.Frag)(mg:Str->Option Value):Prop where
 len:mg "len"=none
 range:mg "range"=none
 list:mg "list"=none
 int:mg "int"=none
 bool:mg "bool"=none
 inst:mg "isinstance"=none
 tuple:mg "tuple"=none
 abs:mg "abs"=none
 enum:mg "enumerate"=none
 str:mg "str"=none
inductive GG(K:PySem.W.Frag)(vs:List V)(H:Hp)(Q:VK)(aD:XK):Prop
 |mk (a:Addr) (ns:List Int) (many:Nat) (_:vs=[.ref a,.int many]) (_:ah K H a (ns.map V.int)) (_:ns.length<=63) (_:many<=1000) (_:∀(l:Addr) (ms:List Int) (H':Hp),ms.length=many->True->H l=none->ax H' l ms->aa H H'->Q (.ref l) H'):GG K vs H Q aD
def JL(K:PySem.W.Frag):Sp:=GG K
def aaK:((10:Int)^ (18:Int).toNat)=1000000000000000000:=by decide
def oW(k d:Int):Int:=(d%(2*k)/2+1)*(1-2*(d%2))
inductive Ih(K:PySem.W.Frag)(vs:List V)(H:Hp)(Q:VK)(aD:XK):Prop
 |mk (a:Addr) (ns:List Int) (k:Int) (_:vs=[.ref a,.int k]) (_:ah K H a (ns.map V.int)) (_:ns.length<=10000) (_:1<=k) (_:k<=5) (_:∀(l:Addr) (H':Hp),H l=none->ax H' l (ns.map (oW k))->aa H H'->Q (.ref l) H'):Ih K vs H Q aD
def KL(K:PySem.W.Frag):Sp:=Ih K
def lN:bootBuiltins "list"=some (.type "list"):=by decide+kernel
def JM:bootBuiltins "abs"=some (.builtin "abs"):=by decide+kernel
def yN:bootBuiltins "enumerate"=some (.type "enumerate"):=by decide+kernel
def push:List Int->Int->List Int
 |[],x=>[x]
 |t::r,x=>if t= -x then r else x::t::r
def cut(w:List Int):List Int:=(w.foldl push []).reverse
inductive GH(K:PySem.W.Frag)(vs:List V)(H:Hp)(Q:VK)(aD:XK):Prop
 |mk (a:Addr) (ns:List Int) (_:vs=[.ref a]) (_:ah K H a (ns.map V.int)) (_:ns.length<=100000) (_:∀(l:Addr) (H':Hp),H l=none->ax H' l (ns.reverse.map (- ·))->aa H H'->Q (.ref l) H'):GH K vs H Q aD
def JN(K:PySem.W.Frag):Sp:=GH K
inductive Ii(K:PySem.W.Frag)(vs:List V)(H:Hp)(Q:VK)(aD:XK):Prop
 |mk (a:Addr) (ns:List Int) (_:vs=[.ref a]) (_:ah K H a (ns.map V.int)) (_:ns.length<=63) (_:∀H',Q (.bl true) H'):Ii K vs H Q aD
def uH(K:PySem.W.Frag):Sp:=Ii K
abbrev turn(w:List Int):List Int:=w.reverse.map (- ·)
def NZ(w:List Int):Prop:=∀v∈w,v≠0
end My
namespace L2
open PySem PySem.Spec PyProof.Rows
def pU(K:PySem.W.Frag)(a:Addr):It where
 go:=λi H=>∃xs x,ah K H a xs/\xs[i]?=some x
 fM:=λi H x H'=>∃t y,H t=none/\x=.ref t/\H'=upd H t (.tup [.int i,y])/\∀ys,ah K H a ys->ys[i]?=some y
 stop:=λi H=>∃xs,ah K H a xs/\xs.length<=i
def RV{P:Program}{w:World}{K:PySem.W.Frag}{es:List Expr}{k:Nat}{pos:Pos}(a e it:Addr)(Mr:e≠it):
  Turn P w K (.Tuple es k pos) (pU K a) [e,it] e (λi h=>(∃old,IsEnum h e it ((i:Nat):Int) old)/\h.IsListIter it a i) where
 mem:=by simp
 obj:=λi h ⟨⟨old,st⟩,si⟩ b hb=>by
  rcases Y5.mp hb with rfl|hb
  ·exact⟨_,st,λv z=>by
    have z':Data.fields _=Data.cell v:=z;cases z'⟩
  ·have e':b=it:=by simpa using hb
   subst e';obtain⟨o,e,c,d⟩:=si;exact⟨o,e,λv z=>by rw[d]at z;cases z⟩
 keep:=λi h h' ⟨⟨old,st⟩,si⟩ k=>⟨⟨old,k e (by simp) _ st⟩,si.at λo q=>k it (by simp) o q⟩
 item:=by
  intro X hP hw hK hc i pins s σ H E I hf ⟨⟨old,st⟩,si⟩ hg;subst hP hw hK;obtain⟨xs,x,hq,hx⟩:=hg;obtain⟨ai,rv,p,hz⟩:=I.list hq;obtain⟨u,hu,ru⟩:=rv.get hx;obtain⟨e0,e1,e2,e3,e4,e5⟩:=hf e (by simp);obtain⟨f0,f1,f2,f3,f4,f5⟩:=hf it (by simp);have hT:=I.ao.fresh (Y3 s.heap.objs.size);refine wpAny_pyNext_enum_item st si p.isList (x:=u) (by simpa using hu) Mr λh1 my abQ mD hz1 hk1=>?_;refine⟨_,rfl,wpAny_letOwnedTupleGo_enum my λh2 pV su=>?_⟩;have su:Heap.SameBut e h1 h2:=su;have sv:∀b o,b≠e->b≠it->s.heap.get? b=some o->h2.get? b=some o:=λb o n1 n2 q=>(su.2 b n1).trans (hk1 b o n1 n2 q);have eT:e≠s.heap.objs.size:=Zn (Zi st);have n8:h2.get? s.heap.objs.size=some {cls:=.type "tuple",data:=.seq #[.int i s.toks,u]}:=(su.2 _ eT.symm).trans mD;have abR:h2.IsListIter it a (i+1):=abQ.at λo q=>(su.2 it Mr.symm).trans q
  have pV:IsEnum h2 e it (((i+1:Nat)):Int) u:=by
   have:(((i+1:Nat)):Int)=(i:Int)+1:=by push_cast;rfl
   rw[this];exact pV
  have iT:it≠s.heap.objs.size:=by
   obtain⟨o,q,_⟩:=si;exact Zn (Zi q)
  have gJ:∀b o,H b=some o->b≠e/\b≠it/\b≠s.heap.objs.size:=λb o q=>⟨(λz=>by rw[z,e0]at q;cases q),(λz=>by rw[z,f0]at q;cases q),(λz=>by rw[z,hT]at q;cases q)⟩
  have ao:bw X.prog X.w (upd H s.heap.objs.size (.tup [.int i,x])) h2:=λb o q=>by
   by_cases hb:b=s.heap.objs.size
   ·subst hb;rw[ak]at q;cases q;exact⟨(show 2<=sizeLine by decide),[.int i s.toks,u],.cons ⟨_,rfl⟩ (.cons ru .nil),⟨_,n8,rfl,_,rfl⟩⟩
   ·rw[aj hb]at q;refine(I.ao b o q).iJ (λc v dE r=>sv c v ?_ ?_ r) (λc r=>by rw[aj (gJ c _ r).2.2];exact r) λc ys r=>by rw[aj (gJ c _ r).2.2];exact r
    ·rcases dE with rfl|dE
     ·exact(gJ _ _ q).1
     ·exact(gJ _ _ dE).1
    ·rcases dE with rfl|dE
     ·exact(gJ _ _ q).2.1
     ·exact(gJ _ _ dE).2.1
  have abS:∀b o,s.heap.get? b=some o->b≠s.heap.objs.size:=λb o q=>Zn (Zi q)
  have I1:Inv X pins σ (upd H s.heap.objs.size (.tup [.int i,x])) {s with heap:=h2,toks:=s.toks+1}:=by
   refine I.step (g':=s.gens) (d':=s.drawn) (t':=s.toks+1) (ch:=[e,it]) (λb hb=>?_) (λb o _ _ dE q _=>sv b o (λz=>dE (by simp[z])) (λz=>dE (by simp[z])) q) (λb o _ _ dE q _=>⟨o.slots,sv b o (λz=>dE (by simp[z])) (λz=>dE (by simp[z])) q⟩)
    (λb o _ q n=>by rw[aj (abS b o q)];exact n) (λb o dE q=>⟨o,sv b o (λz=>dE (by simp[z])) (λz=>dE (by simp[z])) q⟩) (λb ys q=>by rw[aj (gJ b _ q).2.2];exact q) (λb o ys q=>by rw[aj (gJ b _ q).2.2];exact q)
    (λb ps q=>⟨#[],by rw[aj (gJ b _ q).2.2,q];simp⟩) (λm hm=>?_) ao I.bare
   ·rcases Y5.mp hb with rfl|hb
    ·exact⟨e3,e1,e4,e5⟩
    ·have e':b=it:=by simpa using hb
     subst e';exact⟨f3,f1,f4,f5⟩
   ·obtain⟨o,nY,ep,ho,r⟩:=hm;exact⟨o,nY,ep,sv _ _ e1.symm f1.symm ho,r⟩
  refine⟨.ref s.heap.objs.size,_,I1,rfl,⟨s.heap.objs.size,x,hT,rfl,rfl,λys hy=>by rw[I.Gx hy hq];exact hx⟩,⟨⟨u,pV⟩,abR⟩,λb hb=>?_⟩;rcases Y5.mp hb with rfl|hb
  ·rw[aj eT];exact e0
  ·have e':b=it:=by simpa using hb
   subst e';rw[aj iT];exact f0
 done:=by
  intro X hP hw hK hc i pins s σ H E I hf ⟨⟨old,st⟩,si⟩ hg;subst hP hw hK;obtain⟨xs,hq,hx⟩:=hg;obtain⟨ai,rv,p,hz⟩:=I.list hq;obtain⟨f0,f1,f2,f3,f4,f5⟩:=hf it (by simp);have hl:=rv.length;exact wpAny_pyNext_enum_end (I.ok.hd hc) st si p.isList (by simp;omega) λh' eb=>⟨rfl,I.turned (t':=s.toks) (λb o hb q=>eb b o hb q) f0 f1 f3 f4 f5⟩
 self:=λ_ _ _ _ _ ⟨⟨old,st⟩,_⟩ h=>wpAny_pyIter_enum st h
section
variable {X:Cx}
def aaL(K:PySem.W.Frag)(ta:TA):TI:=λσ H R=>ta σ H λvs H1=>∃a,vs=[.ref a]/\(∃xs,ah K H1 a xs)/\R (pU K a) H1
def yO{l:Expr}{ta:TA}{p pos pt:Pos}{es:List Expr}{k:Nat}(hg:Gl X "enumerate")(hm:X.mg "enumerate"=none)(hb:bootBuiltins "enumerate"=some (.type "enumerate"))(ha:PA X [l] ta)(hs:starEach [l] X.env=[(false,eval l X.env)]:=by rfl):
  PI X (.Tuple es k pt) (.Call (.Name "enumerate" p) [l] [] pos) (aaL X.K ta):=by
 intro pins s σ H R I h;refine Call_ (pw I hg hm hb (PyProof.Rows.callWith_type1 (az (ha pos pins s σ H _ I h) λus s1 ⟨vs,H1,I1,r1,q1⟩=>?_) hs rfl));obtain⟨a,e,⟨xs,hq⟩,q⟩:=q1;subst e;cases r1 with
 |cons r rr=>
  cases rr;cases r;obtain⟨ai,rv,pl,hz⟩:=I1.list hq;refine call_enumerate_list pl.isList λh' he hit hsz hk=>?_;refine wpAny_pyIter_enum he ?_;have I2:Inv X pins σ H1 {s1 with heap:=h'}:=I1.kept (t':=s1.toks) λb o e=>hk b o e;refine⟨s1.heap.objs.size+1,[s1.heap.objs.size+1,s1.heap.objs.size],_,_,H1,rfl,I2,RV a _ _ (Nat.succ_ne_self _),⟨⟨_,he⟩,hit⟩,λb hb=>?_,q⟩;rcases Y5.mp hb with rfl|hb
  ·exact I1.rP (Nat.le_succ _) (I1.ao.fresh (Nat.le_succ _))
  ·have e:b=s1.heap.objs.size:=by simpa using hb
   subst e;exact I1.rP (Y3 _) (I1.ao.fresh (Y3 _))
def GI{K:PySem.W.Frag}{a:Addr}{xs:List V}{g:TG}{tb:TS}{D:Ends}{σ:St}{H:Hp}(Pv:Nat->St->Hp->Prop)(h0:Pv 0 σ H)(hl:∀i σ H,i<=xs.length->Pv i σ H->ah K H a xs)
  (hs:∀i x σ H t,xs[i]?=some x->H t=none->Pv i σ H->g (.ref t) σ (upd H t (.tup [.int i,x])) λσ2 H2=>tb {D with nx:=Pv (i+1),ct:=Pv (i+1),bk:=D.nx} σ2 H2)(hd:∀σ H,Pv xs.length σ H->D.nx σ H):
  ∃W:Nat->Nat->St->Hp->Prop,(∃m,W 0 m σ H)/\∀i m σ H,W i m σ H->
   ((pU K a).stop i H/\D.nx σ H)\/((pU K a).go i H/\∃N:St->Hp->Prop,(∀σ' H',N σ' H'->∃m',m'<m/\W (i+1) m' σ' H')/\∀x H',(pU K a).fM i H x H'->g x σ H' λσ2 H2=>tb {D with nx:=N,ct:=N,bk:=D.nx} σ2 H2):=by
 refine⟨λi m σ H=>m=xs.length-i/\i<=xs.length/\Pv i σ H,⟨xs.length,by simp,Zp _,h0⟩,?_⟩;rintro i m σ H ⟨rfl,hi,p⟩;have q:=hl i σ H hi p;by_cases aQ:i<xs.length
 ·refine .inr ⟨⟨xs,xs[i],q,by simp[aQ]⟩,Pv (i+1),λσ' H' p'=>⟨xs.length-(i+1),by omega,rfl,aQ,p'⟩,λx H' y=>?_⟩;obtain⟨t,y,ht,rfl,rfl,hy⟩:=y;exact hs i y σ H t (hy xs q) ht p
 ·have e:i=xs.length:=by omega
  subst e;exact .inl ⟨⟨xs,q,Y3 _⟩,hd σ H p⟩
end
open PySem.SeqAt
mutual
inductive Dt(K:PySem.W.Frag)(H:Hp):V->PyData->Prop
 |aE:Dt K H .aE .none
 |bl (b:Bool):Dt K H (.bl b) (.bool b)
 |int (i:Int):Dt K H (.int i) (.int i)
 |str (x:Str):Dt K H (.str x) (.str x)
 |lst {a:Addr}{xs:List V}{ds:List PyData} (h:ah K H a xs) (r:hG K H xs ds):Dt K H (.ref a) (.list ds)
 |tup {a:Addr}{xs:List V}{ds:List PyData} (h:aV K H a xs) (r:hG K H xs ds):Dt K H (.ref a) (.tuple ds)
inductive hG(K:PySem.W.Frag)(H:Hp):List V->List PyData->Prop
 |nil:hG K H [] []
 |cons {x:V}{d:PyData}{xs:List V}{ds:List PyData} (h:Dt K H x d) (r:hG K H xs ds):hG K H (x::xs) (d::ds)
end
section
variable {X:Cx}{pins:List (Addr×Obj)}{σ:St}{H:Hp}{s:Shared}
mutual
def Dt.reads(I:Inv X pins σ H s):∀{x:V}{d:PyData}{u:Value},Dt X.K H x d->RelV x u->∃as,Reads s.heap u d as
 |_,_,_,.aE,r=>by cases(show _=Value.none from r);exact⟨_,.none⟩
 |_,_,_,.bl b,r=>by cases(show _=Value.bool b from r);exact⟨_,.bool b⟩
 |_,_,_,.int i,r=>by obtain⟨t,e⟩:=(show∃t,_=Value.int i t from r);cases e;exact⟨_,.int i t⟩
 |_,_,_,.str x,r=>by obtain⟨t,e⟩:=(show∃t,_=Value.str x t from r);cases e;exact⟨_,.str x t⟩
 |_,_,_,.lst (a:=a) h rr,r=>by
  cases(show _=Value.ref a from r);obtain⟨ai,rv,p,hz⟩:=I.list h;obtain⟨as,q⟩:=hG.reads I rr rv;obtain⟨o,ho,hc,n,hd⟩:=p.isList;exact⟨_,.list ho hc hd (by simpa using q)⟩
 |_,_,_,.tup (a:=a) h rr,r=>by
  cases(show _=Value.ref a from r);obtain⟨ai,rv,p,hz⟩:=I.tuple h;obtain⟨as,q⟩:=hG.reads I rr rv;obtain⟨o,ho,hc,n,hd⟩:=p;exact⟨_,.tuple ho hc hd (by simpa using q)⟩
def hG.reads(I:Inv X pins σ H s):∀{xs:List V}{ds:List PyData}{us:List Value},hG X.K H xs ds->Vals xs us->∃as,ReadsAll s.heap us ds as
 |_,_,_,.nil,.nil=>⟨_,.nil⟩
 |_,_,_,.cons h rr,.cons r rs=>by
  obtain⟨as,q⟩:=Dt.reads I h r;obtain⟨bs,q'⟩:=hG.reads I rr rs;exact⟨_,.cons q q'⟩
end
end
section
variable {X:Cx}
inductive JO(K:PySem.W.Frag)(x:V)(y:V)(H:Hp)(Q:VK):Prop
 |mk (d d':_) (_:Dt K H x d) (_:Dt K H y d') (_:shaped d=true) (_:shaped d'=true) (_:noMix d d'=true) (_:Q (.bl (same d d')) H):JO K x y H Q
def AK(K:PySem.W.Frag):R2:=JO K
inductive JQ(K:PySem.W.Frag)(x:V)(y:V)(H:Hp)(Q:VK):Prop
 |mk (d d':_) (_:Dt K H x d) (_:Dt K H y d') (_:shaped d=true) (_:shaped d'=true) (_:noMix d d'=true) (_:Q (.bl (!same d d')) H):JQ K x y H Q
def LH(K:PySem.W.Frag):R2:=JQ K
def Yg(hu:X.A.units+64<cLine):b6 X (compareOp .Eq) (cY (AK X.K)):=by
 intro pins s σ H x y v u Q I rx ry h;obtain⟨d,d',a,b,sa,sb,m,q⟩:=h.get;obtain⟨as,ra⟩:=a.reads I rx;obtain⟨bs,rb⟩:=b.reads I ry;exact eq_dataH_same ra rb sa sb hu m ⟨.bl _,H,I,rfl,q⟩
def Yh(hu:X.A.units+64<cLine):b6 X (compareOp .NotEq) (cY (LH X.K)):=by
 intro pins s σ H x y v u Q I rx ry h;obtain⟨d,d',a,b,sa,sb,m,q⟩:=h.get;obtain⟨as,ra⟩:=a.reads I rx;obtain⟨bs,rb⟩:=b.reads I ry;exact ne_dataH_same ra rb sa sb hu m ⟨.bl _,H,I,rfl,q⟩
end
end L2
namespace L2
open PySem PySem.Spec PyProof.Rows
section
variable {X:Cx}{tg:Expr}
def Fi{K:PySem.W.Frag}{a:Addr}{xs:List V}{ix:List Nat}{te:TE}{σ:St}{H:Hp}{Q:VK}(f:V->V)(hq:ah K H a xs)(hl:xs.length<sizeLine)
  (he:∀z∈xs,∀(H':Hp) (Q':VK),aa H H'->Q' (f z) H'->te (bS ix (some z) σ) H' Q')(h:∀D,H D=none->Q (.ref D) (upd H D (.lst (xs.map f)))):
  ∀D,H D=none->∃W:Nat->Nat->List V->Hp->Prop,(∃m,W 0 m [] (upd H D (.lst [])))/\
   ∀i m ys H2,W i m ys H2->H2 D=some (.lst ys)/\(((dF K a).stop i H2/\Q (.ref D) H2)\/((dF K a).go i H2/\ys.length<sizeLine/\∀x H',(dF K a).fM i H2 x H'->te (bS ix (some x) σ) H' λy H3=>
    H3 D=some (.lst ys)/\∃m',m'<m/\W (i+1) m' (ys++[y]) (upd H3 D (.lst (ys++[y]))))):=by
 intro D hD;refine⟨λi m ys H2=>m=xs.length-i/\i<=xs.length/\ys=(xs.take i).map f/\H2=upd H D (.lst ys),⟨xs.length,by simp,Zp _,by simp,rfl⟩,?_⟩;rintro i m ys H2 ⟨rfl,hi,rfl,rfl⟩;have s:aa H (upd H D (.lst ((xs.take i).map f))):=λb o e=>by rw[aj (a9 e hD)];exact e
 have hs:=s.seq hq;refine⟨ak,?_⟩;by_cases aQ:i<xs.length
 ·refine .inr ⟨⟨_,xs[i],hs,by simp[aQ]⟩,by simp;omega,λx H' y=>?_⟩;obtain⟨e,y⟩:=y;subst e;have ey:=y _ hs;rw[Zd aQ]at ey;cases ey;refine he xs[i] (ZA aQ) _ _ s ⟨ak,xs.length-(i+1),by omega,rfl,aQ,?_,?_⟩
  ·rw[Zj aQ];simp only[Ze,Zr,List.map_nil]
  ·rw[kh]
 ·have e:i=xs.length:=by omega
  subst e;refine .inl ⟨⟨_,hs,by simp⟩,?_⟩;rw[ZE (Y3 _)];exact h D hD
end
section
variable {κ:Type} [DecidableEq κ]
def a8(kvs:List (κ×V))(k:κ):Option V:=(kvs.find? λkv=>decide (kv.1=k)).map (·.2)
def putK(kvs:List (κ×V))(k:κ)(v:V):List (κ×V):=
 if(kvs.any λkv=>decide (kv.1=k))=true then kvs.map (λkv=>if kv.1=k then(kv.1,v)else kv)else kvs++[(k,v)]
def gz{p:κ×V}{r:List (κ×V)}{k:κ}(e:p.1=k):a8 (p::r) k=some p.2:=by simp[a8,List.find?_cons,e]
def gA{p:κ×V}{r:List (κ×V)}{k:κ}(e:¬p.1=k):a8 (p::r) k=a8 r k:=by simp[a8,List.find?_cons,e]
def oX(k:κ):∀kvs:List (κ×V),(kvs.any λkv=>decide (kv.1=k))=(a8 kvs k).isSome
 |[]=>rfl
 |p::r=>by
  rw[List.any_cons];by_cases e:p.1=k
  ·simp only[gz e,ZN e,Bool.true_or,Option.isSome_some]
  ·rw[gA e,ZO e,Bool.false_or];exact oX k r
def GJ(k j:κ)(y:V):∀kvs:List (κ×V),a8 (kvs.map λkv=>if kv.1=k then(kv.1,y)else kv) j=(a8 kvs j).map λx=>if j=k then y else x
 |[]=>rfl
 |p::r=>by
  have ih:=GJ k j y r;rw[Zr];by_cases h:p.1=k
  ·rw[if_pos h];by_cases e:p.1=j
   ·rw[gz (p:=(p.1,y)) e,gz e,Option.map_some,if_pos (e.symm.trans h)]
   ·rw[gA (p:=(p.1,y)) e,gA e,ih]
  ·rw[if_neg h];by_cases e:p.1=j
   ·rw[gz (p:=p) e,gz e,Option.map_some,if_neg (λz=>h (e.trans z))]
   ·rw[gA (p:=p) e,gA e,ih]
def Fj(k j:κ)(y:V):∀kvs:List (κ×V),a8 kvs k=none->a8 (kvs++[(k,y)]) j=if j=k then some y else a8 kvs j
 |[],_=>by
  by_cases e:k=j
  ·rw[if_pos e.symm];exact gz (p:=(k,y)) e
  ·rw[if_neg (λz=>e z.symm)];exact gA (p:=(k,y)) e
 |p::r,hn=>by
  rw[List.cons_append];have hk:¬p.1=k:=λz=>by rw[gz z]at hn;cases hn
  rw[gA hk]at hn;have ih:=Fj k j y r hn;by_cases e:p.1=j
  ·rw[gz e,gz e,if_neg (λz=>hk (e.trans z))]
  ·rw[gA e,gA e,ih]
def yn(kvs:List (κ×V))(k j:κ)(y:V):a8 (putK kvs k y) j=if j=k then some y else a8 kvs j:=by
 unfold putK;by_cases a:(kvs.any λkv=>decide (kv.1=k))=true
 ·rw[if_pos a,GJ];rw[oX]at a;by_cases e:j=k
  ·obtain⟨x,hx⟩:=Option.isSome_iff_exists.mp a;rw[if_pos e,e,hx,Option.map_some,if_pos rfl]
  ·rw[if_neg e];cases a8 kvs j with
   |none=>rfl
   |some x=>rw[Option.map_some,if_neg e]
 ·rw[if_neg a];refine Fj k j y kvs ?_;rw[oX]at a;cases q:a8 kvs k with
  |none=>rfl
  |some x=>rw[q]at a;exact(a rfl).elim
def qC(kvs:List (κ×V))(k:κ)(v:V):(putK kvs k v).length<=kvs.length+1:=by
 unfold putK;split
 ·rw[Y1];omega
 ·rw[Zo,ZF,List.length_nil];omega
def qI{kvs:List (κ×V)}{k:κ}(v:V)(h:a8 kvs k=none):putK kvs k v=kvs++[(k,v)]:=by
 unfold putK;rw[oX,h];exact if_neg (by decide)
def dY.qH{o:Option V}{u:Option Value}(r:dY o u):o.isSome=u.isSome:=by
 cases o with
 |none=>cases u with
  |none=>rfl
  |some _=>exact(show False from r).elim
 |some _=>cases u with
  |none=>exact(show False from r).elim
  |some _=>rfl
def dY.getD{o:Option V}{u:Option Value}{d:V}{d':Value}(r:dY o u)(rd:RelV d d'):RelV (o.getD d) (u.getD d'):=by
 cases o with
 |none=>cases u with
  |none=>exact rd
  |some _=>exact(show False from r).elim
 |some _=>cases u with
  |none=>exact(show False from r).elim
  |some _=>exact r
def KV.val{kvs:List (κ×V)}{vs:List (κ×Value)}(r:KV kvs vs)(k:κ):dY (a8 kvs k) (valueAt vs k):=by
 unfold KV at r
 induction r with
 |nil=>exact True.intro
 |@cons p q ps qs h t ih=>
  obtain⟨h1,h2⟩:=h;by_cases e:p.1=k
  ·have e':q.1=k:=h1.symm.trans e;have b:valueAt (q::qs) k=some q.2:=by simp[valueAt,List.find?_cons,e']
   rw[gz e,b];exact h2
  ·have e':¬q.1=k:=λz=>e (h1.trans z);have b:valueAt (q::qs) k=valueAt qs k:=by simp[valueAt,List.find?_cons,e']
   rw[gA e,b];exact ih
def KV.any{kvs:List (κ×V)}{vs:List (κ×Value)}(r:KV kvs vs)(k:κ):(kvs.any λkv=>decide (kv.1=k))=vs.any λkv=>decide (kv.1=k):=by
 unfold KV at r
 induction r with
 |nil=>rfl
 |cons h t ih=>rw[List.any_cons,List.any_cons,ih,h.1]
def KV.AL{kvs:List (κ×V)}{vs:List (κ×Value)}(r:KV kvs vs)(k:κ){y:V}{u:Value}(ry:RelV y u):
  KV (kvs.map λkv=>if kv.1=k then(kv.1,y)else kv) (vs.map λkv=>if kv.1=k then(kv.1,u)else kv):=by
 unfold KV at r⊢
 induction r with
 |nil=>exact .nil
 |@cons p q ps qs h t ih=>
  rw[Zr,Zr];refine .cons ?_ ih;obtain⟨h1,h2⟩:=h;by_cases e:p.1=k
  ·rw[if_pos e,if_pos (h1.symm.trans e)];exact⟨h1,ry⟩
  ·rw[if_neg e,if_neg (λz=>e (h1.trans z))];exact⟨h1,h2⟩
def KV.put{kvs:List (κ×V)}{vs:List (κ×Value)}(r:KV kvs vs)(k:κ){y:V}{u:Value}(ry:RelV y u):KV (putK kvs k y) (stored vs k u):=by
 unfold putK stored;rw[r.any k];by_cases e:(vs.any λkv=>decide (kv.1=k))=true
 ·rw[if_pos e,if_pos e];exact r.AL k ry
 ·rw[if_neg e,if_neg e];exact Paired.snoc r ⟨rfl,ry⟩
def KV.length{kvs:List (κ×V)}{vs:List (κ×Value)}(r:KV kvs vs):kvs.length=vs.length:=Paired.length r
end
def lW{P:Program}{w:World}{k:Key}{u:Value}(r:RelV (kV k) u):(cU P w).is k u=true:=by
 cases k with
 |inl i=>obtain⟨t,e⟩:=(show∃t,u=Value.int i t from r);subst e;exact Qb P w i t
 |inr x=>
  cases x with
  |some x=>obtain⟨t,e⟩:=(show∃t,u=Value.str x t from r);subst e;exact Qc P w x t
  |none=>cases(show u=Value.none from r);rfl
def Fl{P:Program}{w:World}:∀{ks:List Key}{us:List Value},Vals (ks.map kV) us->ItemsAre (cU P w) ks us
 |[],_,r=>by rw[List.map_nil]at r;cases r;exact .nil
 |k::ks,_,r=>by
  rw[Zr]at r;cases r with
  |cons h t=>exact .cons (lW h) (Fl t)
abbrev KT(H:Hp):List (List Key×V)->List (List Key×Addr×Value)->Prop:=Paired λp q=>p.1=q.1/\H q.2.1=some (.tup (p.1.map kV))/\RelV p.2 q.2.2
def KT.val{H:Hp}{kvs:List (List Key×V)}{xs:List (List Key×Addr×Value)}(r:KT H kvs xs)(k:List Key):dY (a8 kvs k) ((atKey xs k).map (·.2)):=by
 induction r with
 |nil=>exact True.intro
 |@cons p q ps qs h t ih=>
  obtain⟨h1,_,h2⟩:=h;by_cases e:p.1=k
  ·have e':q.1=k:=h1.symm.trans e;have b:atKey (q::qs) k=some q.2:=by simp[atKey,List.find?_cons,e']
   rw[gz e,b];exact h2
  ·have e':¬q.1=k:=λz=>e (h1.trans z);have b:atKey (q::qs) k=atKey qs k:=by simp[atKey,List.find?_cons,e']
   rw[gA e,b];exact ih
def KT.AL{H:Hp}{kvs:List (List Key×V)}{xs:List (List Key×Addr×Value)}(r:KT H kvs xs)(k:List Key){y:V}{u:Value}(ry:RelV y u):
  KT H (kvs.map λkv=>if kv.1=k then(kv.1,y)else kv) (xs.map (putAt k u)):=by
 induction r with
 |nil=>exact .nil
 |@cons p q ps qs h t ih=>
  rw[Zr,Zr];refine .cons ?_ ih;obtain⟨h1,h2,h3⟩:=h;unfold putAt;by_cases e:p.1=k
  ·rw[if_pos e,if_pos (h1.symm.trans e)];exact⟨h1,h2,ry⟩
  ·rw[if_neg e,if_neg (λz=>e (h1.trans z))];exact⟨h1,h2,h3⟩
def KT.put{H:Hp}{kvs:List (List Key×V)}{xs:List (List Key×Addr×Value)}(r:KT H kvs xs)(k:List Key){b:Addr}{y:V}{u:Value}(hb:H b=some (.tup (k.map kV)))(ry:RelV y u):
  KT H (putK kvs k y) (storedH xs k b u):=by
 have e:(kvs.any λkv=>decide (kv.1=k))=(atKey xs k).isSome:=by
  rw[oX,(r.val k).qH,Option.isSome_map]
 unfold putK storedH;rw[e];by_cases q:(atKey xs k).isSome=true
 ·rw[if_pos q,if_pos q];exact r.AL k ry
 ·rw[if_neg q,if_neg q];exact Paired.snoc r ⟨rfl,hb,ry⟩
def KT.keeps{H H':Hp}{kvs:List (List Key×V)}{xs:List (List Key×Addr×Value)}(r:KT H kvs xs)(ht:∀b ys,H b=some (.tup ys)->H' b=some (.tup ys)):KT H' kvs xs:=
 Paired.As r λ_ _ z=>⟨z.1,ht _ _ z.2.1,z.2.2⟩
section
variable {P:Program}{w:World}{H:Hp}{h:Heap}{a:Addr}
def KN{u:HO}(ok:bw P w H h)(e:Rd H a u):bY P w H h a u:=e.ok ok
def lX{kvs:List (Key×V)}(ok:bw P w H h)(e:Rd H a (.dK kvs)):kvs.length<=sizeLine/\(a==sysModules)=false/\∃vs,KV kvs vs/\h.DictOf (cU P w) a vs:=
 show bY P w H h a (.dK kvs)from KN ok e
def zZ{kvs:List (Key×V)}(ok:bw P w H h)(e:H a=some (.dK kvs)):kvs.length<=sizeLine/\(a==sysModules)=false/\∃vs,KV kvs vs/\h.DictOf (cU P w) a vs:=lX ok (.inl e)
def nA{ks:List Key}(ok:bw P w H h)(e:H a=some (.tup (ks.map kV))):(tupleKind (cU P w)).is h ks a:=by
 obtain⟨_,ai,r,o,h1,h2,n,h3⟩:=(show bY P w H h a (.tup (ks.map kV))from ok a _ e);exact⟨o,ai.toArray,n,h1,h2,h3,by simpa using Fl r⟩
def nJ{kvs:List (List Key×V)}(ok:bw P w H h)(e:Rd H a (.dT kvs)):kvs.length<=sizeLine/\(a==sysModules)=false/\
  ∃xs,KT H kvs xs/\h.DictOfH (tupleKind (cU P w)) a xs:=by
 obtain⟨z,y,xs,r,o,es,ep,h1,h2,h3,h4,h5⟩:=(show bY P w H h a (.dT kvs)from KN ok e);refine⟨z,y,xs,r,o,es,ep,h1,h2,h3,h4,λx hx=>?_,h5⟩
 have all:∀{l:List (List Key×V)}{m:List (List Key×Addr×Value)},KT H l m->∀x∈m,(tupleKind (cU P w)).is h x.1 x.2.1:=by
  intro l m q
  induction q with
  |nil=>intro x hx;exact nomatch hx
  |@cons p q ps qs hq t ih=>
   intro x hx;rcases Y5.mp hx with e|hx
   ·subst e;exact nA ok (by rw[<-hq.1];exact hq.2.1)
   ·exact ih x hx
 exact all r x hx
def Aa{kvs:List (List Key×V)}(ok:bw P w H h)(e:H a=some (.dT kvs)):kvs.length<=sizeLine/\(a==sysModules)=false/\
  ∃xs,KT H kvs xs/\h.DictOfH (tupleKind (cU P w)) a xs:=nJ ok (.inl e)
end
def c4(H:Hp)(a:Addr)(y:V)(r:Option V):Prop:=
 (∃kvs k,Rd H a (.dK kvs)/\y=kV k/\r=a8 kvs k)\/∃kvs k b,Rd H a (.dT kvs)/\y=.ref b/\H b=some (.tup (k.map kV))/\r=a8 kvs k
def gH(H:Hp)(a:Addr)(y v:V)(H':Hp):Prop:=
 (∃kvs k,H a=some (.dK kvs)/\y=kV k/\kvs.length<sizeLine/\H'=upd H a (.dK (putK kvs k v)))\/
 ∃kvs k b,H a=some (.dT kvs)/\y=.ref b/\H b=some (.tup (k.map kV))/\kvs.length<sizeLine/\H'=upd H a (.dT (putK kvs k v))
def c4.k{H:Hp}{a:Addr}{kvs:List (Key×V)}{k:Key}(e:H a=some (.dK kvs)):c4 H a (kV k) (a8 kvs k):=.inl ⟨kvs,k,.inl e,rfl,rfl⟩
def c4.t{H:Hp}{a b:Addr}{kvs:List (List Key×V)}{k:List Key}(e:H a=some (.dT kvs))(eb:H b=some (.tup (k.map kV))):c4 H a (.ref b) (a8 kvs k):=.inr ⟨kvs,k,b,.inl e,rfl,eb,rfl⟩
def gH.k{H:Hp}{a:Addr}{kvs:List (Key×V)}{k:Key}{v:V}(e:H a=some (.dK kvs))(hl:kvs.length<sizeLine):gH H a (kV k) v (upd H a (.dK (putK kvs k v))):=.inl ⟨kvs,k,e,rfl,hl,rfl⟩
def gH.t{H:Hp}{a b:Addr}{kvs:List (List Key×V)}{k:List Key}{v:V}(e:H a=some (.dT kvs))(eb:H b=some (.tup (k.map kV)))(hl:kvs.length<sizeLine):
  gH H a (.ref b) v (upd H a (.dT (putK kvs k v))):=.inr ⟨kvs,k,b,e,rfl,eb,hl,rfl⟩
section
variable {X:Cx}{pins:List (Addr×Obj)}{σ:St}{H:Hp}{s:Shared}{a:Addr}{y v:V}{u r:Value}{o:Option V}{A:Around}{E:Value->Shared->Prop}
def Inv.big(I:Inv X pins σ H s):sysModules<s.heap.objs.size:=by
 have h:mainGlobals<s.heap.objs.size:=(I.mod.glob.keeps I.bk).lt;exact Nat.lt_trans (by decide) h
def RX{Q:Value->Shared->Prop}(hu:A.units+1<cLine)(I:Inv X pins σ H s)(g:c4 H a y (some v))(ry:RelV y u)(h:∀w' s',Inv X pins σ H s'->RelV v w'->Q w' s'):
  wpAny (model X.prog X.w) A (getItem (.ref a) u) Q E s:=by
 rcases g with⟨kvs,k,e,ey,l⟩|⟨kvs,k,b,e,ey,eb,l⟩
 ·subst ey;obtain⟨z,hd,vs,rel,dd⟩:=lX I.ao e;obtain⟨w',hw,g8⟩:=dY.some_of (v:=v) (o:=valueAt vs k) (by rw[l];exact rel.val k);exact wpAny_getItem_of (lW ry) dd.mapOf hw (h w' _ (I.tok _) g8)
 ·subst ey;cases(show u=Value.ref b from ry);obtain⟨z,hd,xs,rel,dd⟩:=nJ I.ao e;obtain⟨w',hw,g8⟩:=dY.some_of (v:=v) (o:=(atKey xs k).map (·.2)) (by rw[l];exact rel.val k);obtain⟨p,hp,gK⟩:=Option.map_eq_some_iff.mp hw;refine wpAny_getItem_heap (tupleKind_room_in1 hu) (nA I.ao eb) dd hp ?_;rw[gK];exact h w' _ (I.tok _) g8
def abT{Q:Value->Shared->Prop}(hu:A.units+1<cLine)(I:Inv X pins σ H s)(g:c4 H a y o)(ry:RelV y u)(h:∀s',Inv X pins σ H s'->Q (.bool o.isSome) s'):
  wpAny (model X.prog X.w) A (compareOp .In u (.ref a)) Q E s:=by
 rcases g with⟨kvs,k,e,ey,l⟩|⟨kvs,k,b,e,ey,eb,l⟩
 ·subst ey;obtain⟨z,hd,vs,rel,dd⟩:=lX I.ao e;refine wpAny_in_of (lW ry) hd dd.mapOf ?_;rw[<-(rel.val k).qH, <-l];exact h _ (I.tok _)
 ·subst ey;cases(show u=Value.ref b from ry);obtain⟨z,hd,xs,rel,dd⟩:=nJ I.ao e;refine wpAny_in_heap (tupleKind_room_in1 hu) (nA I.ao eb) hd dd ?_;have q:=(rel.val k).qH;rw[Option.isSome_map]at q;rw[<-q, <-l];exact h _ (I.tok _)
def Ws{Q:Value->Shared->Prop}(hu:A.units+1<cLine)(I:Inv X pins σ H s)(g:c4 H a y o)(ry:RelV y u)(h:∀s',Inv X pins σ H s'->Q (.bool (!o.isSome)) s'):
  wpAny (model X.prog X.w) A (compareOp .NotIn u (.ref a)) Q E s:=by
 rcases g with⟨kvs,k,e,ey,l⟩|⟨kvs,k,b,e,ey,eb,l⟩
 ·subst ey;obtain⟨z,hd,vs,rel,dd⟩:=lX I.ao e;refine wpAny_notIn_of (lW ry) hd dd.mapOf ?_;rw[<-(rel.val k).qH, <-l];exact h _ (I.tok _)
 ·subst ey;cases(show u=Value.ref b from ry);obtain⟨z,hd,xs,rel,dd⟩:=nJ I.ao e;refine wpAny_notIn_heap (tupleKind_room_in1 hu) (nA I.ao eb) hd dd ?_;have q:=(rel.val k).qH;rw[Option.isSome_map]at q;rw[<-q, <-l];exact h _ (I.tok _)
def qQ{h':Heap}{t':Nat}{ob:HO}(I:Inv X pins σ H s)(mu:rW (H a))(hs:Heap.SameBut a s.heap h')(he:∃q,h'.get? a=some q)(new:bY X.prog X.w (upd H a ob) h' a ob):
  Inv X pins σ (upd H a ob) {s with heap:=h',toks:=t'}:=
 I.write (x:=a) (e:=a) mu (.inl rfl) (λb q hb z=>(hs.2 b hb).trans z) he new
def zu{P:Program}{w:World}{H':Hp}{h':Heap}{kvs:List (Key×V)}{vs:List (Key×Value)}(z:kvs.length<=sizeLine)(hd:(a==sysModules)=false)(rel:KV kvs vs)(dd:h'.DictOf (cU P w) a vs):
  bY P w H' h' a (.dK kvs):=⟨z,hd,vs,rel,dd⟩
def RY{H':Hp}{Q:Unit->Shared->Prop}(hu:A.units+1<cLine)(I:Inv X pins σ H s)(g:gH H a y v H')(ry:RelV y u)(rv:RelV v r)(h:∀s',Inv X pins σ H' s'->Q () s'):
  wpAny (model X.prog X.w) A (setItem (.ref a) u r) Q E s:=by
 rcases g with⟨kvs,k,e,ey,l,eH⟩|⟨kvs,k,b,e,ey,eb,l,eH⟩
 ·subst ey eH;obtain⟨z,hd,vs,rel,dd⟩:=zZ I.ao e;have hz:vs.length<=sizeLine:=by rw[<-rel.length];exact z
  have hl:(putK kvs k v).length<=sizeLine:=by have:=qC kvs k v;omega
  refine wpAny_setItem_pairs (hsz:=hz) (lW ry) dd λh' iU hs=>h _ ?_;have he:∃q,h'.get? a=some q:=let⟨q,_,_,hq,_⟩:=iU;⟨q,hq⟩
  exact qQ I (by rw[e];exact True.intro) hs he (zu hl hd (rel.put k rv) iU)
 ·subst ey eH;cases(show u=Value.ref b from ry);obtain⟨z,hd,xs,rel,dd⟩:=Aa I.ao e;have hz:xs.length<=sizeLine:=by rw[<-Paired.length rel];exact z
  have hl:(putK kvs k v).length<=sizeLine:=by have:=qC kvs k v;omega
  refine wpAny_setItem_heap (hsz:=hz) (tupleKind_room_in1 hu) (nA I.ao eb) dd λh' iU hs=>h _ ?_;obtain⟨q,es,ep,hq,h2,h3,h4,_,h5⟩:=iU;refine qQ I (by rw[e];exact True.intro) hs ⟨q,hq⟩ ⟨hl,hd,_,(rel.put k eb rv).keeps λc ys ec=>?_,q,es,ep,hq,h2,h3,h4,h5⟩;rw[aj (Ku ec e (λz=>nomatch z))];exact ec
end
section
variable {X:Cx}{pins:List (Addr×Obj)}{σ:St}{H:Hp}{s:Shared}{a:Addr}{kvs:List (Key×V)}{k:Key}{u:Value}{A:Around}{E:Value->Shared->Prop}
def aaM{Q:Value->Shared->Prop}(I:Inv X pins σ H s)(e:Rd H a (.dK kvs))(h:∀t s',Inv X pins σ H s'->Q (.int kvs.length t) s'):wpAny (model X.prog X.w) A (call (.builtin "len") [.ref a]) Q E s:=by
 obtain⟨z,hd,vs,rel,dd⟩:=lX I.ao e;refine call_len_dict hd dd (by rw[<-rel.length];rw[sizeLine_eq]at z;omega) ?_;rw[<-rel.length];exact h _ _ (I.tok _)
end
def LJ(i:Expr):Prop:=∀ov iv,subscripted i false ov iv=operate [ov,iv] (getItem ov iv)
def Wt{prog:Program}{w:World}{A:Around}{E:Value->Shared->Prop}{s:Shared}{env:Env}{value slice:Expr}{pos:Pos}{T id:String}{Q:Value->Shared->Prop}
  (hl:typeLookup (.type T) "__getitem__"=pure (some (.builtin id)))(hs:LJ slice)
  (h:wpAny (model prog w) A (eval value env) (λo s₁=>wpAny (model prog w) A (eval slice env) (λi s₂=>s₂.TypeIs o T/\wpAny (model prog w) A (getItem o i) Q E s₂) E s₁) E s):
  wpAny (model prog w) A (eval (.Subscript value slice pos) env) Q E s:=by
 refine Subscript_ (wpAny_mono h (λo s₁ h₁=>wpAny_mono h₁ (λi s₂ h₂=>?_) λ_ _ x=>x) λ_ _ x=>x);obtain⟨hT,h₂⟩:=h₂;unfold subscriptTail;refine wpAny_bind ?_;rw[getitemInPython_of_ne hT.not_modules];refine wpAny_bind (wpAny_specialOf hT hl ?_)
 have fin:wpAny (model prog w) A (subscripted slice false o i) (λr s₃=>wpAny (model prog w) A (letTemporaryGo value o r>>=λ_=>pure r) Q E s₃) E s₂:=by
  rw[hs o i];exact wpAny_operating (wpAny_mono h₂ (λr s₃ h₃=>wpAny_bind (wpAny_letTemporaryGo (ZV h₃))) λ_ _ x=>x)
 first
  |exact ZV (wpAny_bind fin)
  |exact wpAny_bind (ZV (wpAny_bind fin))
  |exact wpAny_bind fin
def Qf{X:Cx}{pins:List (Addr×Obj)}{σ:St}{H:Hp}{s:Shared}{a:Addr}{y:V}{o:Option V}(I:Inv X pins σ H s)(g:c4 H a y o):s.TypeIs (.ref a) "dict":=by
 rcases g with⟨kvs,k,e,_,_⟩|⟨kvs,k,b,e,_,_,_⟩
 ·obtain⟨_,_,vs,_,dd⟩:=lX I.ao e;exact dd.typeIs
 ·obtain⟨_,_,xs,_,dd⟩:=nJ I.ao e;exact dd.typeIs
def aaN(td ty:TE):TE:=λσ H Q=>td σ H λx H1=>ty σ H1 λy H2=>∃a v,x=.ref a/\c4 H2 a y (some v)/\Q v H2
def abU(ty td:TE):TE:=λσ H Q=>ty σ H λy H1=>td σ H1 λx H2=>∃a o,x=.ref a/\c4 H2 a y o/\Q (.bl o.isSome) H2
def Wu(ty td:TE):TE:=λσ H Q=>ty σ H λy H1=>td σ H1 λx H2=>∃a o,x=.ref a/\c4 H2 a y o/\Q (.bl (!o.isSome)) H2
def aaO(td ty tv:TE):TS:=λD σ H=>tv σ H λv H1=>td σ H1 λx H2=>ty σ H2 λy H3=>∃a H4,x=.ref a/\gH H3 a y v H4/\D.nx σ H4
section
variable {X:Cx}{o i e value:Expr}{pos pos' Lx:Pos}{td ty tv:TE}
def ug(hu:X.A.units+1<cLine)(ho:PE X o td)(hi:PE X i ty)(hs:LJ i):PE X (.Subscript o i pos) (aaN td ty):=by
 intro pins s σ H Q I h;refine Wt PySem.F.slot_dict_getitem.lookup hs (az (ho pins s σ H _ I h) λu s1 ⟨x,H1,I1,rx,q1⟩=>az (hi pins s1 σ H1 _ I1 q1) λiv s2 ⟨y,H2,I2,ry,a,v,ex,g,q2⟩=>?_);subst ex;obtain rfl:u=Value.ref a:=rx;exact⟨Qf I2 g,RX hu I2 g ry λw' s3 I3 g8=>⟨v,H2,I3,g8,q2⟩⟩
def Yi(hu:X.A.units+1<cLine)(hi:PE X i ty)(ho:PE X o td):PC X .In i o (abU ty td):=by
 intro pins s σ H Q I h;refine az (hi pins s σ H _ I h) λiv s1 ⟨y,H1,I1,ry,q1⟩=>az (ho pins s1 σ H1 _ I1 q1) λu s2 ⟨x,H2,I2,rx,a,ov,ex,g,q2⟩=>?_;subst ex;obtain rfl:u=Value.ref a:=rx;exact abT hu I2 g ry λs3 I3=>⟨.bl ov.isSome,H2,I3,rfl,q2⟩
def Fm(hu:X.A.units+1<cLine)(hi:PE X i ty)(ho:PE X o td):PC X .NotIn i o (Wu ty td):=by
 intro pins s σ H Q I h;refine az (hi pins s σ H _ I h) λiv s1 ⟨y,H1,I1,ry,q1⟩=>az (ho pins s1 σ H1 _ I1 q1) λu s2 ⟨x,H2,I2,rx,a,ov,ex,g,q2⟩=>?_;subst ex;obtain rfl:u=Value.ref a:=rx;exact Ws hu I2 g ry λs3 I3=>⟨.bl (!ov.isSome),H2,I3,rfl,q2⟩
def yP(hu:X.A.units+1<cLine)(ho:PE X o td)(hi:PE X i ty)(hv:PE X value tv)(hs:swapsWith value (some (.Subscript o i pos')) pos.line X.env=pure false):
  PS X (.Assign [.Subscript o i pos'] value pos) (aaO td ty tv):=by
 intro pins s σ H D I h;refine wpAny_Assign_Subscript (az (hv pins s σ H _ I h) λr s1 ⟨v,H1,I1,rv,q1⟩=>az (ho pins s1 σ H1 _ I1 q1) λu s2 ⟨x,H2,I2,rx,q2⟩=>az (hi pins s2 σ H2 _ I2 q2) λiv s3 ⟨y,H3,I3,ry,a,H4,ex,g,q3⟩=>?_) hs;subst ex;obtain rfl:u=Value.ref a:=rx;exact RY hu I3 g ry rv λs4 I4=>⟨σ,H4,I4,q3⟩
end
def yo{P:Program}{w:World}{H:Hp}(h:Heap)(hb:sysModules<h.objs.size):bY P w H (h.push {cls:=.type "dict",data:=.dict #[]}) h.objs.size (.dK []):=
 ⟨Zp _,ZH.mpr (Ne.symm (Zn hb)),[],.nil,Heap.DictOf.new h⟩
def Ug{P:Program}{w:World}{H:Hp}(h:Heap)(hb:sysModules<h.objs.size):bY P w H (h.push {cls:=.type "dict",data:=.dict #[]}) h.objs.size (.dT []):=
 ⟨Zp _,ZH.mpr (Ne.symm (Zn hb)),[],.nil,_, #[],0,Zq _ rfl,⟨rfl,rfl,rfl⟩,rfl,rfl,List.nodup_nil⟩
def Yj:TE:=λ_ H Q=>∀p,H p=none->Q (.ref p) (upd H p (.dK []))
def zw:TE:=λ_ H Q=>∀p,H p=none->Q (.ref p) (upd H p (.dT []))
section
variable {X:Cx}{pos:Pos}
def Uh:PE X (.Dict [] [] pos) Yj:=λpins s σ H Q I h=>
 wpAny_Dict_empty ⟨.ref s.heap.objs.size,_,I.laid (a:=s.heap.objs.size) (o:=.dK []) (t':=s.toks) (λ_ _ q=>Y8 _ q) (Y3 _) (yo s.heap I.big),rfl,h _ (I.ao.fresh (Y3 _))⟩
def Ui:PE X (.Dict [] [] pos) zw:=λpins s σ H Q I h=>
 wpAny_Dict_empty ⟨.ref s.heap.objs.size,_,I.laid (a:=s.heap.objs.size) (o:=.dT []) (t':=s.toks) (λ_ _ q=>Y8 _ q) (Y3 _) (Ug s.heap I.big),rfl,h _ (I.ao.fresh (Y3 _))⟩
end
def zx:List (TE×TE)->St->Hp->(List (V×V)->Hp->Prop)->Prop
 |[],_,H,Q=>Q [] H
 |(tk,tv)::r,σ,H,Q=>tk σ H λx H1=>tv σ H1 λy H2=>zx r σ H2 λps H3=>Q ((x,y)::ps) H3
abbrev VV:List (V×V)->List (Value×Value)->Prop:=Paired λp q=>RelV p.1 q.1/\RelV p.2 q.2
def vn(X:Cx)(pos:Pos)(keys:List (Option Expr))(values:List Expr)(kQ:List (TE×TE)):Prop:=
 ∀(pins:List (Addr×Obj)) (s:Shared) (σ:St) (H:Hp) (Q:List (V×V)->Hp->Prop),Inv X pins σ H s->zx kQ σ H Q->
  wpAny (model X.prog X.w) X.A (evalPairs (pairTrees keys values X.env pos)) (λvs s'=>∃ps H',Inv X pins σ H' s'/\VV ps vs/\Q ps H') X.xe s
def Wv{X:Cx}{pos:Pos}:vn X pos [] [] []:=λpins s σ H Q I h=>pairTrees_nil_walk ⟨[],H,I,.nil,h⟩
def Uj{X:Cx}{pos:Pos}{k v:Expr}{ks:List (Option Expr)}{vs:List Expr}{tk tv:TE}{kQ:List (TE×TE)}(hk:PE X k tk)(hv:PE X v tv)(hr:vn X pos ks vs kQ):
  vn X pos (some k::ks) (v::vs) ((tk,tv)::kQ):=λpins s σ H Q I h=>
 pairTrees_cons_walk (az (hk pins s σ H _ I h) λu s1 ⟨x,H1,I1,rx,q1⟩=>az (hv pins s1 σ H1 _ I1 q1) λw2 s2 ⟨y,H2,I2,ry,q2⟩=>
  az (hr pins s2 σ H2 _ I2 q2) λws s3 ⟨ps,H3,I3,rel,q3⟩=>⟨(x,y)::ps,H3,I3,.cons ⟨rx,ry⟩ rel,q3⟩)
def ky(kvs more:List (Key×V)):List (Key×V):=more.foldl (λacc kv=>putK acc kv.1 kv.2) kvs
def KV.merge:∀{more:List (Key×V)}{rs:List (Key×Value)}{kvs:List (Key×V)}{vs:List (Key×Value)},KV more rs->KV kvs vs->KV (ky kvs more) (merged vs rs):=by
 intro more rs kvs vs r;unfold KV at r
 induction r generalizing kvs vs with
 |nil=>intro q;exact q
 |@cons p q ps qs h t ih=>
  intro r0
  have e:KV (putK kvs p.1 p.2) (stored vs q.1 q.2):=by
   have:=r0.put p.1 h.2;rw[<-h.1];exact this
  exact ih e
def D9:∀(more kvs:List (Key×V)),(ky kvs more).length<=kvs.length+more.length
 |[],kvs=>by show kvs.length<=kvs.length+0;omega
 |p::r,kvs=>by
  have h1:=D9 r (putK kvs p.1 p.2);have h2:=qC kvs p.1 p.2;show(ky (putK kvs p.1 p.2) r).length<=_;rw[ZF];omega
def EG{P:Program}{w:World}:∀{kvs:List (Key×V)}{ws:List (Value×Value)},VV (kvs.map λkv=>(kV kv.1,kv.2)) ws->∃rs,Carries (cU P w) ws rs/\KV kvs rs
 |[],_,r=>by rw[List.map_nil]at r;cases r;exact⟨[],True.intro,.nil⟩
 |p::kvs,_,r=>by
  rw[Zr]at r;cases r with
  |@cons a b as bs h t=>
   obtain⟨rs,c,q⟩:=EG (P:=P) (w:=w) t;obtain⟨b1,b2⟩:=b;exact⟨(p.1,b2)::rs,⟨lW h.1,rfl,c⟩,.cons ⟨rfl,h.2⟩ q⟩
def aaP(kQ:List (TE×TE)):TE:=λσ H Q=>∀p,H p=none->zx kQ σ (upd H p (.dK [])) λps H2=>H2 p=some (.dK [])/\∃kvs:List (Key×V),ps=kvs.map (λkv=>(kV kv.1,kv.2))/\kvs.length<=15/\Q (.ref p) (upd H2 p (.dK (ky [] kvs)))
def Ww{X:Cx}{pos:Pos}{keys:List (Option Expr)}{values:List Expr}{kQ:List (TE×TE)}(h:vn X pos keys values kQ)(AF:keys.all (·.isSome)=true)(hl:keys.length=values.length)(h0:keys≠[])
  (h15:keys.length<=15):PE X (.Dict keys values pos) (aaP kQ):=by
 intro pins s σ H Q I q;have hn:=I.ao.fresh (Y3 s.heap.objs.size);have I1:=I.laid (a:=s.heap.objs.size) (o:=.dK []) (h':=s.heap.push {cls:=.type "dict",data:=.dict #[]}) (t':=s.toks) (λ_ _ q=>Y8 _ q) (Y3 _) (yo s.heap I.big);refine wpAny_Dict_walk (knd:=cU X.prog X.w) AF hl h0 h15 (az (h pins _ σ _ _ I1 (q _ hn)) λws s2 ⟨ps,H2,I2,rel,e,kvs,ep,lk,q2⟩=>?_);subst ep;obtain⟨rs,c,rk⟩:=EG (P:=X.prog) (w:=X.w) rel;obtain⟨z,hd,vs0,r0,dd⟩:=zZ I2.ao e;cases r0;refine⟨rs,c,dd,λh' iU hs=>⟨.ref s.heap.objs.size,_,?_,rfl,q2⟩⟩
 have hz:(ky [] kvs).length<=sizeLine:=by
  have h1:=D9 kvs [];rw[List.length_nil]at h1;rw[sizeLine_eq];omega
 have he:∃q,h'.get? s.heap.objs.size=some q:=let⟨q,_,_,hq,_⟩:=iU;⟨q,hq⟩
 exact qQ I2 (by rw[e];exact True.intro) hs he (zu hz hd (rk.merge .nil) iU)
structure M1(X:Cx)(o:Expr)(m:Str)(apos:Pos)(e:Expr)(cc:Pos):Prop where
 base:attributeBase o m X.env (eval o X.env)=eval o X.env
 n9:((backTo cc (starEach [e] X.env)).all (λx=> !x.1)&&(backToKw cc (keywordEach [] X.env)).all (λx=>x.1.isSome)
  &&decide (([e]:List Expr).length+([]:List Keyword).length+(if([]:List Keyword).isEmpty then 0 else 1)<30))=true
 line:(apos.endLine==cc.line)=true
 trees:backTo cc (starEach [e] X.env)=[(false,eval e X.env)]
def Ms(H:Hp)(a:Addr):Prop:=(∃kvs,Rd H a (.dK kvs))\/∃kvs,Rd H a (.dT kvs)
def Yk{X:Cx}{pins:List (Addr×Obj)}{σ:St}{H:Hp}{s:Shared}{a:Addr}(I:Inv X pins σ H s)(d:Ms H a):
  s.TypeIs (.ref a) "dict"/\(∀b,Value.ref a=.ref b->∃ob,s.heap.get? b=some ob/\ob.dict=none)/\(a==sysModules)=false:=by
 rcases d with⟨kvs,e⟩|⟨kvs,e⟩
 ·obtain⟨_,hd,vs,_,dd⟩:=lX I.ao e;refine⟨dd.typeIs,λb q=>?_,hd⟩;cases q;obtain⟨ob,_,_,h1,h2,_⟩:=dd;exact⟨ob,h1,h2.2.1⟩
 ·obtain⟨_,hd,xs,_,dd⟩:=nJ I.ao e;refine⟨dd.typeIs,λb q=>?_,hd⟩;cases q;obtain⟨ob,_,_,h1,h2,_⟩:=dd;exact⟨ob,h1,h2.2.1⟩
section
variable {X:Cx}{pins:List (Addr×Obj)}{σ:St}{H:Hp}{s:Shared}{a:Addr}{y d:V}{u r:Value}{o:Option V}{A:Around}{E:Value->Shared->Prop}
def Yl{Q:Value->Shared->Prop}(hu:A.units+1<cLine)(I:Inv X pins σ H s)(g:c4 H a y o)(ry:RelV y u)(h:∀w' s',Inv X pins σ H s'->RelV (o.getD .aE) w'->Q w' s'):
  wpAny (model X.prog X.w) A (call (.builtin "dict.get") [.ref a,u]) Q E s:=by
 rcases g with⟨kvs,k,e,ey,l⟩|⟨kvs,k,b,e,ey,eb,l⟩
 ·subst ey;obtain⟨z,hd,vs,rel,dd⟩:=lX I.ao e;refine call_meetsIn PySem.F.slot_dict_get dd.typeIs PySem.F.entry_dict_get (PySem.F.args_dict_get_2 _ _) (meets_dict_get (cU X.prog X.w) a (lW ry) hd) ⟨_,dd.mapOf,h _ _ (I.tok _) ?_⟩;rw[l];exact(rel.val k).getD rfl
 ·subst ey;cases(show u=Value.ref b from ry);obtain⟨z,hd,xs,rel,dd⟩:=nJ I.ao e;refine call_meetsIn PySem.F.slot_dict_get dd.typeIs PySem.F.entry_dict_get (PySem.F.args_dict_get_2 _ _) (meetsH_dict_get (tupleKind (cU X.prog X.w)) a b hd) ⟨tupleKind_room_in1 hu,k,xs,nA I.ao eb,dd,h _ _ (I.tok _) ?_⟩;rw[l];exact(rel.val k).getD rfl
end
def Ym(td ty:TE):TE:=λσ H Q=>td σ H λx H1=>∃a,x=.ref a/\Ms H1 a/\ty σ H1 λy H2=>∃o,c4 H2 a y o/\Q (o.getD .aE) H2
section
variable {X:Cx}{o e f:Expr}{apos cc:Pos}{td ty tx:TE}
def Uk(hu:X.A.units+1<cLine)(ho:PE X o td)(he:PE X e ty)(m:M1 X o "get" apos e cc):PE X (.Call (.Attribute o "get" apos) [e] [] cc) (Ym td ty):=by
 intro pins s σ H Q I h;refine wpAny_Call_method m.base m.n9 m.line PySem.F.plainAttrs_dict PySem.F.slot_dict_get PySem.F.type_dict_get (az (ho pins s σ H _ I h) λu s1 ⟨x,H1,I1,rx,a,ex,d,q1⟩=>?_);subst ex;obtain rfl:u=Value.ref a:=rx;obtain⟨t1,t2,_⟩:=Yk I1 d;refine⟨t1,t2,?_⟩;rw[m.trees];refine Calls.callWith_builtin rfl (Calls.evalArgs_plain (Calls.spliced_cons (az (he pins s1 σ H1 _ I1 q1) λiv s2 ⟨y,H2,I2,ry,ov,g,q2⟩=>Calls.spliced_nil ?_)));exact Yl hu I2 g ry λw' s3 I3 g8=>⟨_,H2,I3,g8,q2⟩
end
section
variable {X:Cx}
def RZ:gF X (.builtin "len") (λxs H Q=>∃a kvs,xs=[V.ref a]/\H a=some (.dK kvs)/\Q (.int kvs.length) H):=by
 intro pins s σ H xs us Q I r h;obtain⟨a,kvs,rfl,ha,q⟩:=h;obtain⟨u,rfl,ru⟩:=vals1 r;cases ru;exact aaM I (.inl ha) λt s' I'=>⟨.int kvs.length,H,I',⟨t,rfl⟩,q⟩
end
section
variable {κ:Type} [DecidableEq κ]
def Ul{kvs:List (κ×V)}{k:κ}(h:a8 kvs k=none):¬k∈kvs.map (·.1):=by
 intro m;obtain⟨p,hp,e⟩:=Zh.mp m;have q:(kvs.any λkv=>decide (kv.1=k))=true:=List.any_eq_true.mpr ⟨p,hp,ZN e⟩;rw[oX,h]at q;exact absurd q (by simp)
def o9:∀{l:List κ}{k:κ},l.Nodup->¬k∈l->(l++[k]).Nodup
 |[],k,_,_=>by simp
 |a::r,k,h,hk=>by
  obtain⟨h1,h2⟩:=ZG.mp h;show(a::(r++[k])).Nodup;refine ZG.mpr ⟨λm=>?_,o9 h2 λm=>hk (Y5.mpr (Or.inr m))⟩;rcases Y7.mp m with q|q
  ·exact h1 q
  ·exact hk (Y5.mpr (Or.inl (Y2.mp q).symm))
def Wx{kvs:List (κ×V)}{k:κ}(v:V)(hn:(kvs.map (·.1)).Nodup)(h:a8 kvs k=none):((putK kvs k v).map (·.1)).Nodup:=by
 rw[qI v h,Ze];exact o9 hn (Ul h)
end
def aaQ{P:Program}{w:World}{H:Hp}{h h':Heap}(e:h'.get? h.objs.size=some {cls:=.type "dict",data:=.dict #[]})(hb:sysModules<h.objs.size):bY P w H h' h.objs.size (.dK []):=by
 have x:bY P w H (h.push {cls:=.type "dict",data:=.dict #[]}) h.objs.size (.dK []):=yo h hb;obtain⟨z,y,vs,r,dd⟩:=x;exact⟨z,y,vs,r,dd.at λo q=>by rw[Zq _ rfl]at q;cases q;exact e⟩
section
variable {X:Cx}
def abV(ta:TA):TE:=λσ H Q=>ta σ H λvs H1=>∃j:Int,vs=[.int j]/\∀p,H1 p=none->Q (.ref p) (upd H1 p (.bP 0 j))
def zy{a:Expr}{ta:TA}{p pos:Pos}(hg:Gl X "range")(hm:X.mg "range"=none)(ha:PA X [a] ta)(hs:starEach [a] X.env=[(false,eval a X.env)]:=by rfl):PE X (.Call (.Name "range" p) [a] [] pos) (abV ta):=by
 intro pins s σ H Q I h;refine Call_ (pw I hg hm boot_range (PyProof.Rows.callWith_type1 (az (ha pos pins s σ H _ I h) λus s1 ⟨vs,H1,I1,r1,q1⟩=>?_) hs rfl));obtain⟨j,e,q⟩:=q1;subst e;cases r1 with
 |cons r rr=>
  cases rr;obtain⟨t,rfl⟩:=r;refine call_range_1 ?_;exact⟨.ref s1.heap.objs.size,_,I1.laid (o:=.bP 0 j) (λb u e=>Y8 _ e) (Y3 _) ⟨_,_,_,Zq _ rfl⟩,rfl,q _ (I1.ao.fresh (Y3 _))⟩
inductive zA(xs:List V)(H:Hp)(Q:VK):Prop
 |mk (r:Addr) (n:Nat) (_:xs=[.ref r]) (_:H r=some (.bP 0 n)) (_:n<=1000000) (_:∀l,H l=none->Q (.ref l) (upd H l (.lst ((List.range n).map λ(i:Nat)=>V.int i)))):zA xs H Q
def xq(hc:X.calm=true):gF X (.type "list") (λxs H Q=>Wr (zA xs H Q)):=by
 intro pins s σ H xs us Q I r h;obtain⟨ra,n,rfl,hr,hn,q⟩:=h.get;obtain⟨u,rfl,ru⟩:=r.one;cases ru;obtain⟨t,tu,tv,e⟩:=(show bY X.prog X.w H s.heap ra (.bP 0 n)from I.ao ra _ hr);have hsz:Builtin.Range.rangeSize 0 (n:Int) 1=(n:Int):=by rw[rangeSize_one];split<;>omega
 refine call_list_range (n:=n) (I.ok.hd hc) e (small_one (by omega) (by omega) (by omega) (by omega)) hsz (by omega) λh' tk acc c hk hS kG=>?_;refine⟨.ref s.heap.objs.size,_,I.laid (t':=tk) (o:=.lst ((List.range n).map λ(i:Nat)=>V.int i)) hk (Y3 _) ?_,rfl,q _ (I.ao.fresh (Y3 _))⟩;have hl:sizeLine=16777216:=sizeLine_eq;refine⟨by rw[Y1,Z3];omega,acc.toList,c,?_,by simpa using hS⟩
 have gen:∀(k:Nat) (l:List Value),l.length=n-k->(∀j v,l[j]?=some v->∃t,v=Value.int ((0:Int)+((k+j:Nat):Int)*1) t)->k<=n->Vals ((List.range' k (n-k)).map λ(i:Nat)=>V.int i) l:=by
  intro k l
  induction l generalizing k with
  |nil=>
   intro hl _ _;have:n-k=0:=by simpa using hl.symm
   rw[this];exact .nil
  |cons v l ih=>
   intro hl hv pW;have h1:n-k=(n-(k+1))+1:=by simp at hl;omega
   rw[h1,List.range'_succ,Zr];refine .cons ?_ (ih (k+1) (by simp at hl;omega) (λj v' hj=>?_) (by simp at hl;omega))
   ·obtain⟨t,e⟩:=hv 0 v rfl;exact⟨t,by rw[e];simp⟩
   ·obtain⟨t,e⟩:=hv (j+1) v' (by simpa using hj);refine⟨t,?_⟩;rw[e];congr 3;omega
 have:=gen 0 acc.toList (by simpa using kG.1) (λj v hj=>by
  obtain⟨t,e⟩:=kG.2 j v (by simpa using hj);exact⟨t,by rw[e];simp⟩) (Zp _)
 rw[Nat.sub_zero, <-List.range_eq_range']at this;exact this
def xP{lo:Int}{n:Nat}{ix:List Nat}{te:TE}{σ:St}{H:Hp}{Q:VK}
  (h:∀D,H D=none->∃Pv:Nat->List V->Hp->Prop,Pv 0 [] (upd H D (.lst []))/\(∀i ys H2,Pv i ys H2->H2 D=some (.lst ys)/\ys.length<sizeLine)/\
   (∀i ys H2,i<n->Pv i ys H2->∀Q':VK,(∀y H3,H3 D=some (.lst ys)->Pv (i+1) (ys++[y]) (upd H3 D (.lst (ys++[y])))->Q' y H3)->te (bS ix (some (.int (lo+i))) σ) H2 Q')/\∀ys H2,Pv n ys H2->Q (.ref D) H2):
  ∀D,H D=none->∃W:Nat->Nat->List V->Hp->Prop,(∃m,W 0 m [] (upd H D (.lst [])))/\
   ∀i m ys H2,W i m ys H2->H2 D=some (.lst ys)/\(((fN lo n).stop i H2/\Q (.ref D) H2)\/((fN lo n).go i H2/\ys.length<sizeLine/\∀x H',(fN lo n).fM i H2 x H'->te (bS ix (some x) σ) H' λy H3=>
    H3 D=some (.lst ys)/\∃m',m'<m/\W (i+1) m' (ys++[y]) (upd H3 D (.lst (ys++[y]))))):=by
 intro D hD;obtain⟨Pv,p0,pl,ps,pq⟩:=h D hD;refine⟨λi m ys H2=>m=n-i/\i<=n/\Pv i ys H2/\True,⟨n,by simp,Zp _,p0,trivial⟩,?_⟩;rintro i m ys H2 ⟨rfl,hi,p,_⟩;obtain⟨e1,e2⟩:=pl i ys H2 p;refine⟨e1,?_⟩;by_cases aQ:i<n
 ·refine .inr ⟨aQ,e2,λx H' y=>?_⟩;obtain⟨e,y⟩:=y;subst e y;exact ps i ys _ aQ p _ λy H3 e3 p3=>⟨e3,n-(i+1),by omega,rfl,aQ,p3,trivial⟩
 ·have e:i=n:=by omega
  subst e;exact .inl ⟨Y3 _,pq ys H2 p⟩
end
end L2
namespace My
open PySem L2
abbrev Ps:=List (Addr×List Int)
def Tp(H:Hp)(ps:Ps):Prop:=∀p∈ps,H p.1=some (.tup (p.2.map V.int))
structure Tl(H:Hp)(l:Addr)(ps:Ps):Prop where
 is:H l=some (.lst (ps.map λp=>V.ref p.1))
 tp:Tp H ps
def Tl.same{H H':Hp}{l:Addr}{ps:Ps}(h:Tl H l ps)(s:aa H H'):Tl H' l ps:=⟨s _ _ h.is,λp hp=>s _ _ (h.tp p hp)⟩
def Tp.same{H H':Hp}{ps:Ps}(h:Tp H ps)(s:aa H H'):Tp H' ps:=λp hp=>s _ _ (h p hp)
def Um{K:PySem.W.Frag}{H:Hp}{a:Addr}{ps:Ps}{Q:VK}(hq:Tl H a ps)(h:∀(p:Addr) (H':Hp),H p=none->Tl H' p ps->aa H H'->Q (.ref p) H'):Wr (uG K [.ref a] H Q):=
 ⟨⟨a,_,rfl,.inl (ah.of hq.is),λp hp=>h p _ hp ⟨ak,hq.tp.same ((aa.refl H).upd hp)⟩ ((aa.refl H).upd hp)⟩⟩
def dH{K:PySem.W.Frag}{H:Hp}{t:Addr}{r:List Int}{i:Int}{Q:VK}(k:Nat)(ht:H t=some (.tup (r.map V.int)))(hk:k<r.length)(h:Q (.int (r.getD k 0)) H)(e:i=(k:Int):=by rfl):Wr (fH K (.ref t) (.int i) H Q):=
 ⟨⟨t,_,i,_,rfl,rfl,aV.of ht,LG k hk e,h⟩⟩
def jn(l:List Int)(a b:Nat):List Int:=l.map λm=>if m=max (l.getD a 0) (l.getD b 0)then min (l.getD a 0) (l.getD b 0)else m
def tV(l:List Int)(a b:Nat):(jn l a b).length=l.length:=by simp[jn]
structure cJ(n:Nat)(l:List Int):Prop where
 len:l.length=n
 bP:∀v∈l,0<=v/\v<n
def getD_mem{l:List Int}{a:Nat}(h:a<l.length):l.getD a 0∈l:=by
 rw[List.getD,Zd h];exact ZA h
def cJ.jn{n:Nat}{l:List Int}(h:cJ n l){a b:Nat}(ha:a<n)(hb:b<n):cJ n (jn l a b):=by
 refine⟨by rw[tV];exact h.len,λv hv=>?_⟩;obtain⟨m,hm,rfl⟩:=Zh.mp hv;have h1:=h.bP _ (getD_mem (a:=a) (by rw[h.len];exact ha));have h2:=h.bP _ (getD_mem (a:=b) (by rw[h.len];exact hb));split
 ·omega
 ·exact h.bP m hm
def c5(n:Nat):List Int:=(List.range n).map λ(i:Nat)=>(i:Int)
def yQ(n:Nat):cJ n (c5 n):=by
 refine⟨by simp[c5],λv hv=>?_⟩;obtain⟨i,hi,rfl⟩:=Zh.mp hv;have:=ZU.mp hi;omega
def yp{K:PySem.W.Frag}{H:Hp}{r:Addr}{n:Nat}{Q:VK}(hr:H r=some (.bP 0 n))(hn:n<=1000000)(h:∀(p:Addr) (H':Hp),H p=none->ax H' p (c5 n)->aa H H'->Q (.ref p) H'):Wr (zA [.ref r] H Q):=
 ⟨⟨r,n,rfl,hr,hn,rm _ (by simp[c5,ZK,Function.comp_def]) h⟩⟩
def eP(n:Nat)(r:List Int):Prop:=∃a b:Nat,r=[(a:Int),(b:Int)]/\a<n/\b<n
def b8(n:Nat)(r:List Int):Prop:=∃(i:Int) (a:Nat) (k:Int) (b:Nat),r=[i,(a:Int),k,(b:Int)]/\a<n/\b<n
def dN(l:List Int)(r:List Int):List Int:=jn l (r.getD 0 0).toNat (r.getD 1 0).toNat
def dZ(n:Nat)(ps:Ps):List Int:=ps.foldl (λl p=>dN l p.2) (c5 n)
def cJ.dN{n:Nat}{l r:List Int}(h:cJ n l)(hr:eP n r):cJ n (dN l r):=by
 obtain⟨a,b,rfl,ha,hb⟩:=hr;exact h.jn ha hb
inductive JR(K:PySem.W.Frag)(vs:List V)(H:Hp)(Q:VK)(aD:XK):Prop
 |mk (l:Addr) (ls:List Int) (a b:Nat) (_:vs=[.ref l,.int a,.int b]) (_:ax H l ls) (_:a<ls.length) (_:b<ls.length) (_:ls.length<=1000) (_:∀(p:Addr) (H':Hp),H p=none->ax H' p (jn ls a b)->aa H H'->Q (.ref p) H'):JR K vs H Q aD
def LK(K:PySem.W.Frag):Sp:=JR K
structure pI(mg:Str->Option Value):Prop where
 min:mg "min"=none
 max:mg "max"=none
def zB:bootBuiltins "min"=some (.builtin "min"):=by decide+kernel
def rA:bootBuiltins "max"=some (.builtin "max"):=by decide+kernel
def zC(i j:Int):(if j<i then j else i)=min i j:=by
 split<;>omega
def zD(i j:Int):(if j>i then j else i)=max i j:=by
 split<;>omega
def yR{cells:List (Str×Addr)}{a b:Str}{x y:Addr}(h1:cells.lookup a=some x)(h2:cells.lookup b=some y):∀z c,[(a,x),(b,y)].lookup z=some c->cells.lookup z=some c:=λz c h=>by
 rcases Y5.mp (ZM h)with e|e
 ·cases e;exact h1
 ·have e:(z,c)=(b,y):=by simpa using e
  cases e;exact h2
def gf(l:Addr):List (Str×V):=aW "least" (.ref l) []
def Ab(l:Addr):gf l=([("least",V.ref l)]:List (Str×V)):=rfl
def gQ(l:Addr):(gf l).lookup ("least":Str)=some (.ref l):=by
 unfold gf;rw[lH,if_pos rfl]
def Yn(l m:Addr):aW "least" (.ref m) (gf l)=gf m:=by
 rw[Ab,Ab];show(if("least":Str)="least" then [(("least":Str),V.ref m)]else _)=_;rw[if_pos rfl]
def Ac(l:Addr){m:Str}(h:¬m="least"):(gf l).lookup m=none:=by
 unfold gf;rw[lH,if_neg h]
 rfl
structure jz(C:Addr)(H:Hp)(g:Addr)(ls:List Int):Prop where
 ob:∃dx l,H g=some (.ins C dx (gf l))/\ax H l ls
def Kp(g:Addr)(H H':Hp):Prop:=∀b o,H b=some o->b≠g->H' b=some o
structure l9(K:PySem.W.Frag)(mg:Str->Option Value)(C:Addr):Prop where
 cl:dM K C
 nL:NoAttr K C "least"
 mgC:mg "Groups"=some (.ref C)
inductive Ij(C:Addr)(vs:List V)(H:Hp)(Q:VK)(aD:XK):Prop
 |mk (g:Addr) (ls:List Int) (a b:Nat) (_:vs=[.ref g,.int a,.int b]) (_:jz C H g ls) (_:a<ls.length) (_:b<ls.length) (_:ls.length<=1000) (_:∀H',jz C H' g (jn ls a b)->Kp g H H'->Q .aE H'):Ij C vs H Q aD
def Ad(C:Addr):Sp:=Ij C
inductive Ik(C:Addr)(vs:List V)(H:Hp)(Q:VK)(aD:XK):Prop
 |mk (g:Addr) (ls:List Int) (a b:Nat) (_:vs=[.ref g,.int a,.int b]) (_:jz C H g ls) (_:a<ls.length) (_:b<ls.length) (_:Q (.bl (decide (ls.getD a 0=ls.getD b 0))) H):Ik C vs H Q aD
def KO(C:Addr):Sp:=Ik C
inductive Fn(C:Addr)(vs:List V)(H:Hp)(Q:VK)(aD:XK):Prop
 |mk (g dx:Addr) (n:Nat) (l:Addr) (ps:Ps) (_:vs=[.ref g,.int n,.ref l]) (_:H g=some (.ins C dx [])) (_:Tl H l ps) (_:(∀p∈ps,eP n p.2)) (_:n<=1000) (_:ps.length<=1000) (_:∀H',jz C H' g (dZ n ps)->Kp g H H'->Q .aE H'):Fn C vs H Q aD
def Il(C:Addr):Sp:=Fn C
def nB(s:Int):Nat:=if s=1 then 1 else 3
inductive GK(vs:List V)(H:Hp)(Q:VK)(aD:XK):Prop
 |mk (t:Addr) (r:List Int) (s:Int) (_:vs=[.ref t,.int s]) (_:H t=some (.tup (r.map V.int))) (_:r.length=4) (_:Q (.int (r.getD (nB s) 0)) H):GK vs H Q aD
def uq:Sp:=GK
inductive Im(vs:List V)(H:Hp)(Q:VK)(aD:XK):Prop
 |mk (t:Addr) (r:List Int) (s:Int) (_:vs=[.ref t,.int s]) (_:H t=some (.tup (r.map V.int))) (_:r.length=4) (_:Q (.int (r.getD (nB (-s)) 0)) H):Im vs H Q aD
def KP:Sp:=Im
def kq{cells:List (Str×Addr)}:∀z c,([]:List (Str×Addr)).lookup z=some c->cells.lookup z=some c:=λz c h=>by cases h
def jm{c:Bool}{A B:Prop}(e:c=true)(h:A):if c=true then A else B:=by rw[if_pos e];exact h
def cy{c:Bool}{A B:Prop}(e:c=false)(h:B):if c=true then A else B:=by rw[e];exact cV h
def m7{ps:Ps}{i:Nat}{y:V}(h:(ps.map λp=>V.ref p.1)[i]?=some y):∃p,y=V.ref p.1/\ps[i]?=some p:=by
 rw[Zf]at h;cases e:ps[i]? with
 |none=>rw[e]at h;cases h
 |some z=>rw[e]at h;exact⟨z,(Zg h).symm,rfl⟩
def tT{α β:Type}{f:β->α->β}{b:β}{ps:List α}{i:Nat}{z:α}(h:ps[i]?=some z):(ps.take (i+1)).foldl f b=f ((ps.take i).foldl f b) z:=by
 obtain⟨hi,e⟩:=ZL.mp h;rw[Zj hi,List.foldl_append,e]
 rfl
def Fo{n:Nat}{ps:Ps}{i:Nat}{p:Addr×List Int}(h:ps[i]?=some p):dZ n (ps.take (i+1))=dN (dZ n (ps.take i)) p.2:=tT h
def Io{n:Nat}:∀(ps:Ps),(∀p∈ps,eP n p.2)->cJ n (dZ n ps):=by
 intro ps
 suffices∀l,cJ n l->(∀p∈ps,eP n p.2)->cJ n (ps.foldl (λl p=>dN l p.2) l)from this _ (yQ n)
 induction ps with
 |nil=>intro l h _;exact h
 |cons p ps ih=>intro l h hp;exact ih _ (h.dN (hp p (Y9 ..))) λq hq=>hp q (Y4 _ hq)
def Fp{n:Nat}{ps:Ps}{i:Nat}(h:∀p∈ps,eP n p.2):cJ n (dZ n (ps.take i)):=Io _ λp hp=>h p (List.mem_of_mem_take hp)
def jz.other{C:Addr}{H:Hp}{g:Addr}{ls:List Int}(h:jz C H g ls){H':Hp}(s:aa H H'):jz C H' g ls:=by
 obtain⟨dx,l,e,i⟩:=h.ob;exact⟨dx,l,s _ _ e,s.ints i⟩
def Kp.trans{g:Addr}{H H1 H2:Hp}(a:Kp g H H1)(b:Kp g H1 H2):Kp g H H2:=λc o e n=>b c o (a c o e n) n
def Kp.of{g:Addr}{H H1:Hp}(a:aa H H1):Kp g H H1:=λc o e _=>a c o e
def Tl.kp{g:Addr}{H H':Hp}{l:Addr}{ps:Ps}(h:Tl H l ps)(k:Kp g H H'){C dx:Addr}{fs:List (Str×V)}(hg:H g=some (.ins C dx fs)):Tl H' l ps:=by
 refine⟨k _ _ h.is λe=>?_,λp hp=>k _ _ (h.tp p hp) λe=>?_⟩
 ·have:=h.is;rw[e,hg]at this;cases this
 ·have:=h.tp p hp;rw[e,hg]at this;cases this
def jZ(ps:Ps)(i:Int):Option (Addr×List Int):=ps.foldl (λo p=>if i=p.2.getD 0 0 then some p else o) none
def Wz{ps:Ps}{i:Int}{p:Addr×List Int}(h:jZ ps i=some p):p∈ps:=by
 suffices∀(o:Option (Addr×List Int)),(ps.foldl (λo p=>if i=p.2.getD 0 0 then some p else o) o)=some p->p∈ps\/o=some p from(this none h).elim id λz=>nomatch z
 clear h
 induction ps with
 |nil=>intro o h;exact .inr h
 |cons q ps ih=>
  intro o h;rcases ih _ h with z|z
  ·exact .inl (Y4 _ z)
  ·replace z:(if i=q.2.getD 0 0 then some q else o)=some p:=z;by_cases e:i=q.2.getD 0 0
   ·rw[if_pos e]at z;cases z;exact .inl (Y9 ..)
   ·rw[if_neg e]at z;exact .inr z
def mk(r:List Int)(s:Int):Nat:=(r.getD (nB s) 0).toNat
def b8.mk{n:Nat}{r:List Int}(h:b8 n r)(s:Int):r.getD (nB s) 0=((mk r s:Nat):Int)/\mk r s<n:=by
 obtain⟨i,a,k,b,rfl,ha,hb⟩:=h;unfold My.mk nB;split
 ·exact⟨by show(a:Int)=_;simp,by show((a:Int)).toNat<n;simpa using ha⟩
 ·exact⟨by show(b:Int)=_;simp,by show((b:Int)).toNat<n;simpa using hb⟩
def b8.len{n:Nat}{r:List Int}(h:b8 n r):r.length=4:=by
 obtain⟨i,a,k,b,rfl,ha,hb⟩:=h
 rfl
def uI(r:List Int):Prop:=∃i j s:Int,r=[i,j,s]/\ -100<s/\s<100
def bt(l:List Int):Nat:=(l.map Int.toNat).sum
def EH{f:Int->Int}:∀(l:List Int),(∀v∈l,(f v).toNat<=v.toNat)->bt (l.map f)<=bt l:=by
 intro l
 induction l with
 |nil=>intro _;exact Y3 _
 |cons a l ih=>
  intro h;have h1:=h a (Y9 ..);have h2:=ih λv hv=>h v (Y4 _ hv);simp only[bt,Zr,List.sum_cons]at *;omega
def QP{f:Int->Int}:∀(l:List Int),(∀v∈l,(f v).toNat<=v.toNat)->(∃v∈l,(f v).toNat<v.toNat)->bt (l.map f)<bt l:=by
 intro l
 induction l with
 |nil=>intro _ h;obtain⟨_,h,_⟩:=h;cases h
 |cons a l ih=>
  intro h he;have h1:=h a (Y9 ..);have h3:=EH l λv hv=>h v (Y4 _ hv);obtain⟨v,hv,aQ⟩:=he;rcases Y5.mp hv with rfl|hv
  ·simp only[bt,Zr,List.sum_cons]at *;omega
  ·have h2:=ih (λv hv=>h v (Y4 _ hv)) ⟨v,hv,aQ⟩;simp only[bt,Zr,List.sum_cons]at *;omega
def aaR{n:Nat}{l:List Int}(h:cJ n l){a b:Nat}(ha:a<n)(hb:b<n):bt (jn l a b)<=bt l:=by
 have h1:=h.bP _ (getD_mem (a:=a) (by rw[h.len];exact ha));have h2:=h.bP _ (getD_mem (a:=b) (by rw[h.len];exact hb));refine EH l λv hv=>?_;split<;>omega
def rH{n:Nat}{l:List Int}(h:cJ n l){a b:Nat}(ha:a<n)(hb:b<n)(ne:l.getD a 0≠l.getD b 0):bt (jn l a b)<bt l:=by
 have m1:=getD_mem (l:=l) (a:=a) (by rw[h.len];exact ha);have m2:=getD_mem (l:=l) (a:=b) (by rw[h.len];exact hb);have h1:=h.bP _ m1;have h2:=h.bP _ m2;refine QP l (λv hv=>by split<;>omega) ?_;by_cases hh:l.getD a 0<=l.getD b 0
 ·exact⟨_,m2,by rw[if_pos (by omega)];omega⟩
 ·exact⟨_,m1,by rw[if_pos (by omega)];omega⟩
def aaS{l:List Int}{a b:Nat}(e:l.getD a 0=l.getD b 0):jn l a b=l:=by
 unfold jn;rw[e]
 conv=>rhs;rw[<-List.map_id l]
 refine Z0 λv _=>?_;show _=v;split<;>omega
def WB{n:Nat}{l:List Int}(h:cJ n l):bt l<=n*n:=by
 have:∀l:List Int,(∀v∈l,0<=v/\v<n)->bt l<=l.length*n:=by
  intro l
  induction l with
  |nil=>intro _;exact Zp _
  |cons a l ih=>
   intro h;have h1:=h a (Y9 ..);have h2:=ih λv hv=>h v (Y4 _ hv);simp only[bt,Zr,List.sum_cons,ZF,Nat.succ_mul]at *;omega
 have:=this l h.bP
 rwa [h.len]at this
def Yo{n:Nat}{l:List Int}(h:cJ n l){a b c d:Nat}(ha:a<n)(hb:b<n)(hc:c<n)(hd:d<n)(ne:decide (l.getD a 0=l.getD b 0)≠decide (l.getD c 0=l.getD d 0)):bt (jn (jn l a b) c d)<bt l:=by
 by_cases e:l.getD a 0=l.getD b 0
 ·have e2:l.getD c 0≠l.getD d 0:=λz=>ne (by rw[ZN e,ZN z]);rw[aaS e];exact rH h hc hd e2
 ·exact ZP (aaR (h.jn ha hb) hc hd) (rH h ha hb e)
structure cg(P:Program)(w:World)(K:PySem.W.Frag)(mg:Str->Option Value)(base:Heap)(C:Addr)(m:Str)(ps:List Str)(k:Nat)(sp:Sp) where
 f:Addr
 fd:FuncData
 ok:aA P w K mg base aN k f fd ps sp
 cl:dM K C
 mt:Meth K C m f
 bd:Binds K fd ps []
def cg.pe{X:Cx}{m:Str}{C:Addr}{ps:List Str}{k j:Nat}{sp:Sp}{o e:Expr}{es:List Expr}{ta:TE}{t:TA}{apos pos:Pos}{pl:Sem Bool}(R:cg X.prog X.w X.K X.mg X.base C m ps k sp)(hr:bG j X.A)(ho:PE X o ta)(ha:PA X (e::es) t)(hj:k<=j:=by decide)
  (he:starEach (e::es) X.env=(false,eval e X.env)::starEach es X.env:=by rfl)(bL:(backTo pos (starEach es X.env)).any (·.1)=false:=by rfl)
  (ht:eval (.Call (.Attribute o m apos) (e::es) [] pos) X.env=(do
   let ov<-eval o X.env
   standAt apos.atName
   let(f,first)<-holding [ov] (getMethod ov m pl)
   callWith pos f first (backTo pos (starEach (e::es) X.env)) (backToKw pos (keywordEach [] X.env))):=by rfl):
  PE X (.Call (.Attribute o m apos) (e::es) [] pos) (ji C m sp [] E0 ta t):=yJ ho R.cl R.mt R.ok (hr.mono hj) R.bd .nil uF ha he bL ht
structure kR(P:Program)(w:World)(K:PySem.W.Frag)(mg:Str->Option Value)(base:Heap)(C:Addr)(x:Str)(ps:List Str)(k:Nat)(sp:Sp) where
 f:Addr
 fd:FuncData
 ok:aA P w K mg base aN k f fd ps sp
 Mt:Mk K C f
 pR:mg x=some (.ref C)
 bd:Binds K fd ps []
def kR.pe{X:Cx}{x:Str}{C:Addr}{ps:List Str}{k j:Nat}{sp:Sp}{e:Expr}{es:List Expr}{t:TA}{p pos:Pos}(R:kR X.prog X.w X.K X.mg X.base C x ps k sp)(hr:bG j X.A)(ha:PA X (e::es) t)(hg:Gl X x:=by rfl)(hj:k+1<=j:=by decide)
  (eZ:(x==("__debug__":Str))=false:=by decide)(he:starEach (e::es) X.env=(false,eval e X.env)::starEach es X.env:=by rfl)(bL:(backTo pos (starEach es X.env)).any (·.1)=false:=by rfl):
  PE X (.Call (.Name x p) (e::es) [] pos) (KG C sp [] E0 t):=Wd R.Mt R.ok (hr.mono hj) hg R.pR R.bd .nil uF ha eZ he bL
open PySem.SeqAt PyProof.Rows
def ur{K:PySem.W.Frag}{H:Hp}{a:Addr}{xs:List V}{i:Int}{v:V}{Q:VK}(hq:H a=some (.lst xs))(e:jy xs i=some v)(h:Q v H):Wr (jU K (.ref a) (.int i) H Q):=⟨⟨a,xs,i,v,rfl,rfl,ah.of hq,e,h⟩⟩
def qR{H:Hp}{xs:List V}{Q:VK}(hl:xs.length<=1000)(h:∀(p:Addr) (H':Hp),H p=none->H' p=some (.lst xs)->aa H H'->Q (.ref p) H'):Wr (uQ xs H Q):=
 ⟨⟨Z1 (bD (by omega)),λp hp=>h p _ hp ak ((aa.refl H).upd hp)⟩⟩
def cg.cS{X:Cx}{m:Str}{C:Addr}{ps:List Str}{k j:Nat}{sp:Sp}{o:Expr}{ta:TE}{apos pos:Pos}{pl:Sem Bool}(R:cg X.prog X.w X.K X.mg X.base C m ps k sp)(hr:bG j X.A)(ho:PE X o ta)(hj:k<=j:=by decide)
  (ht:eval (.Call (.Attribute o m apos) [] [] pos) X.env=(do
   let ov<-eval o X.env
   standAt apos.atName
   let(f,first)<-holding [ov] (getMethod ov m pl)
   callWith pos f first (backTo pos (starEach [] X.env)) (backToKw pos (keywordEach [] X.env))):=by rfl):
  PE X (.Call (.Attribute o m apos) [] [] pos) (ji C m sp [] E0 ta jT):=yj ho R.cl R.mt R.ok (hr.mono hj) R.bd .nil uF ht
end My
namespace L2
open PySem PySem.Spec PyProof.Rows PySem.W
section
variable {prog:Program}{w:World}{κ:Type} [DecidableEq κ] {kn:HeapKind prog w κ}{A:Around}{E:Value->Shared->Prop}{s:Shared}
def DH(kn:HeapKind prog w κ)(h:Heap)(d:Addr)(xs:List (κ×Addr×Value))(n:Nat):Prop:=∃ob en,h.get? d=some ob/\ob.ExactDict/\ob.data=.dict en n/\en.toList=xs.map (entryOfKey kn)
def DH.ty{d:Addr}{xs:List (κ×Addr×Value)}{n:Nat}(x:DH kn s.heap d xs n):s.TypeIs (.ref d) "dict":=let⟨ob,_,e,c,_⟩:=x;⟨ob,e,c.1⟩
def DH.to{h h':Heap}{d:Addr}{xs:List (κ×Addr×Value)}{n:Nat}(x:DH kn h d xs n)(k:∀ob,h.get? d=some ob->h'.get? d=some ob):DH kn h' d xs n:=let⟨ob,en,e,r⟩:=x;⟨ob,en,k ob e,r⟩
def DH.lt{h:Heap}{d:Addr}{xs:List (κ×Addr×Value)}{n:Nat}(x:DH kn h d xs n):d<h.objs.size:=let⟨_,_,e,_⟩:=x;Zi e
def WC{d:Addr}{xs:List (κ×Addr×Value)}{n:Nat}{Q:Value->Shared->Prop}(ns:(d==sysModules)=false)(x:DH kn s.heap d xs n)
  (k:Q (.ref s.heap.objs.size) {s with heap:=s.heap.push {cls:=.type "dict_keyiterator",data:=.fields #[.ref d,.int 0 0,.int xs.length 0,.int n 0]}}):wpAny (model prog w) A (pyIter (.ref d)) Q E s:=by
 have ty:=x.ty;obtain⟨ob,en,eo,_,ed,el⟩:=x;have sz:en.size=xs.length:=size_of_entries el;refine wpAny_pyIter_slot ty PySem.F.slot_dict_iter (wpAny_call_entry PySem.F.slot_dict_iter ty PySem.F.entry_dict_iter ?_ (PySem.F.args_dict_iter_1 _));unfold Builtin.«dict.__iter__» Builtin.Dict.dictSlotNone;refine wpAny_bind (wpAny_bind (wpAny_notOrdered_dict ty ?_));refine ZV (α:=Value) (a:=.ref d) ?_;show wpAny _ _ (Builtin.Dict.showsAll d>>=λ_=>_) _ _ _;unfold Builtin.Dict.showsAll;rw[ns,if_neg Zk];refine wpAny_bind (ZV (wpAny_bind (wpAny_dictEntries eo ed (wpAny_bind (wpAny_dictEpoch eo ed (wpAny_bind (wpAny_newObj_type (ZV ⟨_,rfl,"dict_keyiterator",_,⟨_,Zq _ rfl,rfl⟩,PySem.F.slot_dict_keyiterator_next.lookup,?_⟩))))))));simpa[rawInt,sz]using k
def WD{it d:Addr}{xs:List (κ×Addr×Value)}{i n:Nat}{Q:Option Value->Shared->Prop}(hi:s.heap.IsKeyIter it d i xs.length n)(x:DH kn s.heap d xs n)(p:κ×Addr×Value)(hp:xs[i]?=some p)
  (k:∀h',h'.IsKeyIter it d (i+1) xs.length n->Heap.SameBut it s.heap h'->Q (some (.ref p.2.1)) {s with heap:=h'}):wpAny (model prog w) A (pyNext (.ref it)) Q E s:=by
 have tI:=hi.typeIs;obtain⟨oi,ei,ci,di⟩:=id hi;obtain⟨ob,en,eo,_,ed,el⟩:=x;have sz:en.size=xs.length:=size_of_entries el;have at_:en[i]?=some ⟨kn.hash p.1,.ref p.2.1,p.2.2⟩:=by rw[entry_at el,hp];rfl
 unfold pyNext;refine wpAny_bind (wpAny_attempt (wpAny_callSpecial?_slot (name:=Str.ofString "__next__") tI PySem.F.slot_dict_keyiterator_next (wpAny_call_entry PySem.F.slot_dict_keyiterator_next tI PySem.F.entry_dict_keyiterator_next ?_ (PySem.F.args_dict_keyiterator_next_1 _))));refine wpAny_bind (ZV (wpAny_bind (wpAny_bind ?_)));refine wpAny_bind (wpAny_typeNameOfWhole_keyiter tI (ZV (wpAny_bind (wpAny_fieldsOf ei di ?_))));simp only[show Builtin.Dict_items.ownsTuple "dict_keyiterator"=false from by decide,Bool.false_eq_true,if_false];have nn:¬((Value.ref d==Value.none)=true):=Zk;show wpAny _ _ (ite ((Value.ref d==Value.none)=true) _ _) _ _ _;rw[if_neg nn];refine wpAny_bind (ZV (wpAny_bind (wpAny_dictEntries eo ed ?_)));rw[sz,if_neg (by simp)];refine wpAny_bind (ZV (wpAny_bind (wpAny_dictEpoch eo ed ?_)));rw[if_neg (by simp)];refine ZV ?_;simp only[show¬((i:Int)<0)from by omega,if_false,Za,at_];refine wpAny_bind (wpAny_bind (wpAny_typeNameOfWhole_keyiter tI (ZV (wpAny_bind (wpAny_isOneOf_keyiter tI ?_)))));refine wpAny_bind (m:=setField (.ref it) 1 (rawInt ((i:Int)+1))) (wpAny_setField ei di (by simp) ?_)
 have fP:(s.heap.update it (Obj.mapFields λvs=>vs.setIfInBounds 1 (rawInt ((i:Int)+1)))).IsKeyIter it d (i+1) xs.length n:=by
  refine⟨_,Heap.get?_update_self _ ei (Obj.isFreed_of_fields (Obj.data_mapFields di _)),(Obj.cls_mapFields ..).trans ci,?_⟩;rw[Obj.data_mapFields di];simp[rawInt]
 refine wpAny_bind (wpAny_holding (wpAny_bind (wpAny_isOneOf_keyiter (s:={s with heap:=s.heap.update it (Obj.mapFields λvs=>vs.setIfInBounds 1 (rawInt ((i:Int)+1)))}) fP.typeIs ?_)));exact ZV (ZV ⟨_,rfl,ZV (k _ fP (Heap.SameBut.update ..))⟩)
def Yp{it d:Addr}{xs:List (κ×Addr×Value)}{i n:Nat}{Q:Option Value->Shared->Prop}(hh:A.handled=none)(hi:s.heap.IsKeyIter it d i xs.length n)(x:DH kn s.heap d xs n)(hp:xs.length<=i)
  (k:∀h',Heap.ExtBut it s.heap h'->Q none {s with heap:=h'}):wpAny (model prog w) A (pyNext (.ref it)) Q E s:=by
 have tI:=hi.typeIs;obtain⟨oi,ei,ci,di⟩:=id hi;obtain⟨ob,en,eo,_,ed,el⟩:=x;have sz:en.size=xs.length:=size_of_entries el;have at_:en[i]?=none:=Array.getElem?_eq_none (by omega)
 unfold pyNext;refine wpAny_bind (wpAny_attempt (wpAny_callSpecial?_slot (name:=Str.ofString "__next__") tI PySem.F.slot_dict_keyiterator_next (wpAny_call_entry PySem.F.slot_dict_keyiterator_next tI PySem.F.entry_dict_keyiterator_next ?_ (PySem.F.args_dict_keyiterator_next_1 _))));refine wpAny_bind (ZV (wpAny_bind (wpAny_bind ?_)));refine wpAny_bind (wpAny_typeNameOfWhole_keyiter tI (ZV (wpAny_bind (wpAny_fieldsOf ei di ?_))));simp only[show Builtin.Dict_items.ownsTuple "dict_keyiterator"=false from by decide,Bool.false_eq_true,if_false];have nn:¬((Value.ref d==Value.none)=true):=Zk;show wpAny _ _ (ite ((Value.ref d==Value.none)=true) _ _) _ _ _;rw[if_neg nn];refine wpAny_bind (ZV (wpAny_bind (wpAny_dictEntries eo ed ?_)));rw[sz,if_neg (by simp)];refine wpAny_bind (ZV (wpAny_bind (wpAny_dictEpoch eo ed ?_)));rw[if_neg (by simp)];refine ZV ?_;simp only[show¬((i:Int)<0)from by omega,if_false,Za,at_];refine wpAny_bind (wpAny_bind (wpAny_typeNameOfWhole_keyiter tI (ZV ?_)));refine wpAny_bind (m:=setField (.ref it) 0 .none) (wpAny_setField ei di (by simp) ?_);refine wpAny_bind (m:=newExc (.type "StopIteration") []) ?_;simp only[newExc,newTuple];refine wpAny_bind (wpAny_newObj_type (wpAny_bind (m:=firstArgMember _ _) (wpAny_of_eq (a:=Value.none) (by first|rfl|(simp only[firstArgMember];rfl)) (wpAny_newObj_type ?_ (by size_fits)))) (by size_fits));simp only[raiseNew];refine wpAny_bind (wpAny_handled ?_);rw[show A.in1.handled=none from hh];refine wpAny_bind (ZV (wpAny_throw ?_));refine wpAny_bind (wpAny_isInstance (T:="StopIteration") (b:=true) ⟨_,Zq _ rfl,rfl⟩ isSubtype_stop (ZV ?_));exact k _ (((Heap.SameBut.update ..).extBut.push _).push _)
def Uo(hh:A.handled=none)(it d:Addr)(ne:d≠it)(xs:List (κ×Addr×Value))(n:Nat):
  Walks prog w A it [it,d] [it] xs.length (λi v=>∃p,xs[i]?=some p/\v=.ref p.2.1) (λi h=>h.IsKeyIter it d i xs.length n/\DH kn h d xs n) where
 sub:=λb hb=>Y5.mpr (.inl (Y2.mp hb))
 frame:=λ_ _ _ st k=>⟨st.1.at λob e=>k it (Y9 ..) ob e,st.2.to λob e=>k d (Y4 _ (Y9 ..)) ob e⟩
 item:=λi s Q E lt st q=>by
  refine WD st.1 st.2 xs[i] (Zd lt) λh' bN sb=>?_;exact q _ h' s.toks ⟨_,Zd lt,rfl⟩ ⟨bN,st.2.to λob e=>sb.extBut d ob ne e⟩ λb ob nb e=>sb.extBut b ob (λz=>nb (z▸List.mem_singleton_self _)) e
 done:=λs Q E st q=>Yp hh st.1 st.2 (Y3 _) λh' ex=>q h' s.toks λb ob nb e=>ex b ob (λz=>nb (z▸List.mem_singleton_self _)) e
 self:=λ_ _ _ _ st q=>wpAny_pyIter_keyiter st.1 q
def Yq{d:Addr}{xs:List (κ×Addr×Value)}{n:Nat}(ns:(d==sysModules)=false):KdlSrc prog w "dict" d d xs.length (λi v=>∃p,xs[i]?=some p/\v=.ref p.2.1) (λh=>DH kn h d xs n) where
 type:=λ_ x=>x.ty
 there:=λ_ x=>⟨x.lt,x.lt⟩
 keep:=λ_ _ x k=>x.to λob e=>k d (.inl rfl) ob e
 notList:=by decide
 notTuple:=by decide
 hint:=λ_ _ _ _ x q=>kdl_hint_dict x.ty q
 iter:=λ_ _ hh x=>⟨_,_,(λ_ _ q=>WC ns x q),Uo hh _ d (Zn x.lt) xs n,⟨⟨_,Zq _ rfl,rfl,rfl⟩,x.to λob e=>Y8 _ e⟩⟩
end
section
variable {X:Cx}
inductive JS(xs:List V)(H:Hp)(Q:VK):Prop
 |mk (d:Addr) (kvs:List (List Key×V)) (_:xs=[.ref d]) (_:H d=some (.dT kvs)) (_:∀(ts:List Addr) (l:Addr),H l=none->ts.length=kvs.length->(∀(i:Nat) (t:Addr) (p:List Key×V),ts[i]?=some t->kvs[i]?=some p->H t=some (.tup (p.1.map kV)))->Q (.ref l) (upd H l (.lst (ts.map V.ref)))):JS xs H Q
def QQ(hc:X.calm=true):gF X (.type "list") (λxs H Q=>Wr (JS xs H Q)):=by
 intro pins s σ H xs us Q I r h;obtain⟨d,kvs,rfl,hd,q⟩:=h.get;obtain⟨u,rfl,ru⟩:=r.one;cases ru;obtain⟨z,ns,es,kt,ob,en,ep,e1,e2,e3,e4,e5,e6⟩:=Aa I.ao hd;have lk:kvs.length=es.length:=Paired.length kt;refine kdl_call (Yq (kn:=tupleKind (cU X.prog X.w)) (xs:=es) (n:=ep) ns) (I.ok.hd hc) ⟨ob,en,e1,e2,e3,e4⟩ (by rw[<-lk];exact z) λh' tk acc c hk hS kG=>?_;refine⟨.ref s.heap.objs.size,_,I.laid (t':=tk) (o:=.lst ((es.map λp=>p.2.1).map V.ref)) hk (Y3 _) ?_,rfl,q (es.map λp=>p.2.1) _ (I.ao.fresh (Y3 _)) (by rw[Y1];exact lk.symm) λi t p ht hp=>?_⟩
 ·refine⟨by rw[Y1,Y1, <-lk];exact z,acc.toList,c,?_,by simpa using hS⟩
  have ha:acc.toList=es.map λp=>Value.ref p.2.1:=by
   apply List.ext_getElem?;intro i;rw[Zf,Array.getElem?_toList];by_cases hi:i<es.length
   ·obtain⟨v,hv⟩:∃v,acc[i]?=some v:=⟨acc[i]'(by rw[kG.1];exact hi),Array.getElem?_eq_getElem _⟩;obtain⟨p,hp,rfl⟩:=kG.2 i v hv;rw[hv,hp];rfl
   ·rw[Array.getElem?_eq_none (by rw[kG.1];omega),ZI (by omega)];rfl
  rw[ha]
  have gen:∀l:List (List Key×Addr×Value),Vals ((l.map λp=>p.2.1).map V.ref) (l.map λp=>Value.ref p.2.1):=by
   intro l
   induction l with
   |nil=>exact .nil
   |cons p l ih=>exact .cons rfl ih
  exact gen es
 ·have gen:∀{a:List (List Key×V)}{b:List (List Key×Addr×Value)},KT H a b->∀(i:Nat) (t:Addr) (p:List Key×V),(b.map λp=>p.2.1)[i]?=some t->a[i]?=some p->H t=some (.tup (p.1.map kV)):=by
   intro a b kt
   induction kt with
   |nil=>intro i t p _ hp;simp at hp
   |@cons x y _ _ Bg _ ih=>
    intro i t p ht hp;cases i with
    |zero=>
     have ht:y.2.1=t:=by simpa using ht
     have hp:x=p:=by simpa using hp
     subst ht hp;exact Bg.2.1
    |succ i=>exact ih i t p (by simpa using ht) (by simpa using hp)
  exact gen kt i t p ht hp
end
end L2
namespace My
open PySem L2
structure FS where
 l:List Int
 D:Nat->List (List Key×V)
 W:List (Addr×Addr×Int)
 ss:List (List Int)
def key(k s:Int):List Key:=[.inl k,.inl s]
def cf(st:FS)(m:Nat)(k s:Int)(a:Addr):FS:=
 match a8 (st.D m) (key k s)with
 |some (.ref b)=>{st with W:=st.W++[(b,a,s)]}
 |some _=>st
 |none=>{st with D:=λi=>if i=m then putK (st.D m) (key k s) (.ref a)else st.D i}
def at_(l:List Int)(m:Nat):Nat:=(l.getD m 0).toNat
def fJ(rd:Addr->List Int)(st:FS)(a:Addr):FS:=
 let gL:=cf st (at_ st.l (mk (rd a) 1)) ((rd a).getD 2 0) 1 a
 cf gL (at_ gL.l (mk (rd a) (-1))) ((rd a).getD 2 0) (-1) a
def dA(low:Nat)(s:FS)(e:List Key×V):FS:=
 match e.1,e.2 with
 |[.inl k,.inl sd],.ref r=>cf s low k sd r
 |_,_=>s
def cI(l:List Int)(a b:Nat):Nat:=(min (l.getD a 0) (l.getD b 0)).toNat
def bR(l:List Int)(a b:Nat):Nat:=(max (l.getD a 0) (l.getD b 0)).toNat
def lQ(st:FS)(a b:Nat):FS:=(st.D (bR st.l a b)).foldl (dA (cI st.l a b)) {st with l:=jn st.l (cI st.l a b) (bR st.l a b)}
def fX(rd:Addr->List Int)(st:FS)(x y:Addr)(s:Int):FS:=
 if st.l.getD (mk (rd x) (-s)) 0=st.l.getD (mk (rd y) (-s)) 0 then st
 else lQ {st with ss:=st.ss++[[(rd x).getD 0 0,(rd y).getD 0 0,s]]} (mk (rd x) (-s)) (mk (rd y) (-s))
def nE(st:FS)(m:Nat)(k s:Int)(a:Addr):(cf st m k s a).l=st.l:=by
 unfold cf;split<;>rfl
def yS(st:FS)(m:Nat)(k s:Int)(a:Addr):(cf st m k s a).ss=st.ss:=by
 unfold cf;split<;>rfl
structure Rows(n:Nat)(rows:List Addr)(rd:Addr->List Int):Prop where
 row:∀r∈rows,b8 n (rd r)
 kind:∀r∈rows,1<=(rd r).getD 2 0/\(rd r).getD 2 0<=5
def dI(s:Int):Prop:=s=1\/s= -1
structure uu(rows:List Addr)(rd:Addr->List Int)(l:List Int)(m:Nat)(e:List Key×V):Prop where
 is:∃(s:Int) (r:Addr),e=(key ((rd r).getD 2 0) s,.ref r)/\r∈rows/\dI s/\l.getD (mk (rd r) s) 0=l.getD m 0
structure zE(rows:List Addr)(rd:Addr->List Int)(l:List Int)(e:Addr×Addr×Int):Prop where
 x:e.1∈rows
 y:e.2.1∈rows
 s:dI e.2.2
 k:(rd e.1).getD 2 0=(rd e.2.1).getD 2 0
 n:l.getD (mk (rd e.1) e.2.2) 0=l.getD (mk (rd e.2.1) e.2.2) 0
structure bq(n:Nat)(rows:List Addr)(rd:Addr->List Int)(st:FS):Prop where
 aG:cJ n st.l
 fQ:∀a,a<n->st.l.getD (at_ st.l a) 0=st.l.getD a 0
 hJ:∀m,m<n->∀e∈st.D m,uu rows rd st.l m e
 nd:∀m,m<n->((st.D m).map (·.1)).Nodup
 wt:∀e∈st.W,zE rows rd st.l e
def jS{n:Nat}{l:List Int}(L:cJ n l){m:Nat}(h:m<n):at_ l m<n/\(at_ l m:Int)=l.getD m 0:=by
 have:=L.bP _ (getD_mem (a:=m) (by rw[L.len];exact h));unfold at_
 omega
def Ip:List (List Key):=[key 1 1,key 1 (-1),key 2 1,key 2 (-1),key 3 1,key 3 (-1),key 4 1,key 4 (-1),key 5 1,key 5 (-1)]
def Fq{α:Type} [DecidableEq α]:∀(a b:List α),a.Nodup->(∀x∈a,x∈b)->a.length<=b.length
 |[],b,_,_=>Zp _
 |x::a,b,nd,h=>by
  have hx:=h x (Y9 ..)
  have:=Fq a (b.erase x) nd.tail λy hy=>by
   have fg:y≠x:=λe=>by
    have:=(ZG.mp nd).1;rw[e]at hy;exact this hy
   exact(List.mem_erase_of_ne fg).mpr (h y (Y4 _ hy))
  rw[List.length_erase_of_mem hx]at this;have:=List.length_pos_of_mem hx;simp only[ZF];omega
def bq.AM{n:Nat}{rows:List Addr}{rd:Addr->List Int}{st:FS}(R:Rows n rows rd)(h:bq n rows rd st){m:Nat}(hm:m<n):(st.D m).length<=10:=by
 have:=Fq ((st.D m).map (·.1)) Ip (h.nd m hm) λk hk=>by
  obtain⟨e,he,rfl⟩:=Zh.mp hk;obtain⟨s,r,rfl,hr,hs,_⟩:=(h.hJ m hm e he).is;obtain⟨k1,k5⟩:=R.kind r hr;generalize(rd r).getD 2 0=k at k1 k5;have:k=1\/k=2\/k=3\/k=4\/k=5:=by omega
  rcases hs with rfl|rfl<;>rcases this with rfl|rfl|rfl|rfl|rfl<;>simp[Ip,key]
 rw[Y1]at this;exact this
def Uq{kvs:List (List Key×V)}{k:List Key}{v:V}{e:List Key×V}(h:a8 kvs k=none)(he:e∈putK kvs k v):e∈kvs\/e=(k,v):=by
 rw[qI v h]at he;rcases Y7.mp he with z|z
 ·exact .inl z
 ·exact .inr (Y2.mp z)
def qJ:∀{kvs:List (List Key×V)}{k:List Key}{v:V},a8 kvs k=some v->(k,v)∈kvs
 |[],k,v,h=>by cases h
 |p::r,k,v,h=>by
  by_cases e:p.1=k
  ·rw[gz e]at h;cases h;rw[<-e];exact Y9 ..
  ·rw[gA e]at h;exact Y4 _ (qJ h)
def EI:∀{kvs:List (List Key×V)}{e:List Key×V},(kvs.map (·.1)).Nodup->e∈kvs->a8 kvs e.1=some e.2
 |[],e,_,h=>by cases h
 |p::r,e,nd,h=>by
  rcases Y5.mp h with rfl|h
  ·exact gz rfl
  ·have:¬p.1=e.1:=λz=>by
    have:¬p.1∈r.map (·.1):=(ZG.mp nd).1;rw[z]at this;exact this (Zh.mpr ⟨e,h,rfl⟩)
   rw[gA this];exact EI (ZG.mp nd).2 h
def bq.put{n:Nat}{rows:List Addr}{rd:Addr->List Int}{st:FS}(h:bq n rows rd st){m:Nat}(hm:m<n){a:Addr}{s:Int}(ha:a∈rows)(hs:dI s)(hl:st.l.getD (My.mk (rd a) s) 0=st.l.getD m 0):
  bq n rows rd (cf st m ((rd a).getD 2 0) s a):=by
 unfold cf;cases e:a8 (st.D m) (key ((rd a).getD 2 0) s)with
 |none=>
  refine⟨h.aG,h.fQ,λi hi x hx=>?_,λi hi=>?_,h.wt⟩
  ·have hx:x∈(if i=m then putK (st.D m) (key ((rd a).getD 2 0) s) (.ref a)else st.D i):=hx;by_cases jA:i=m
   ·rw[if_pos jA]at hx;rcases Uq e hx with z|z
    ·exact jA▸h.hJ m hm x z
    ·exact⟨s,a,z,ha,hs,by rw[jA];exact hl⟩
   ·rw[if_neg jA]at hx;exact h.hJ i hi x hx
  ·show((if i=m then putK (st.D m) (key ((rd a).getD 2 0) s) (.ref a)else st.D i).map (·.1)).Nodup;by_cases jA:i=m
   ·rw[if_pos jA];exact Wx _ (h.nd m hm) e
   ·rw[if_neg jA];exact h.nd i hi
 |some v=>
  obtain⟨s',r,er,hr,Bh,hlr⟩:=(h.hJ m hm _ (qJ e)).is;have e1:key ((rd a).getD 2 0) s=key ((rd r).getD 2 0) s':=(Prod.mk.inj er).1;obtain rfl:v=.ref r:=(Prod.mk.inj er).2;have e2:(rd a).getD 2 0=(rd r).getD 2 0:=Sum.inl.inj (List.cons.inj e1).1;have e3:s=s':=Sum.inl.inj (List.cons.inj (List.cons.inj e1).2).1;subst e3;refine⟨h.aG,h.fQ,h.hJ,h.nd,λx hx=>?_⟩;rcases Y7.mp hx with z|z
  ·exact h.wt x z
  ·obtain rfl:=Y2.mp z;exact⟨hr,ha,hs,e2.symm,hlr.trans hl.symm⟩
def uv(st:FS)(m:Nat)(k s:Int)(a:Addr):(cf st m k s a).W.length<=st.W.length+1:=by
 unfold cf;split
 ·simp
 ·simp
 ·simp
def qU{l:List Int}{a b:Nat}{x y:Nat}(hx:x<l.length)(hy:y<l.length)(h:l.getD x 0=l.getD y 0):(jn l a b).getD x 0=(jn l a b).getD y 0:=by
 unfold jn;simp only[List.getD,Zf,Zd hx,Zd hy,Option.map_some,Option.getD_some]at h⊢;rw[h]
def kB{l:List Int}{a b x:Nat}(hx:x<l.length):(jn l a b).getD x 0=if l.getD x 0=max (l.getD a 0) (l.getD b 0)then min (l.getD a 0) (l.getD b 0)else l.getD x 0:=by
 unfold jn;simp only[List.getD,Zf,Zd hx,Option.map_some,Option.getD_some]
 rfl
def oY{n:Nat}{l:List Int}(L:cJ n l){a b:Nat}(ha:a<n)(hb:b<n):cI l a b<n/\bR l a b<n/\(cI l a b:Int)=min (l.getD a 0) (l.getD b 0)/\(bR l a b:Int)=max (l.getD a 0) (l.getD b 0):=by
 have h1:=L.bP _ (getD_mem (a:=a) (by rw[L.len];exact ha));have h2:=L.bP _ (getD_mem (a:=b) (by rw[L.len];exact hb));unfold cI bR;omega
def Iq{n:Nat}{l:List Int}(L:cJ n l)(I:∀a,a<n->l.getD (at_ l a) 0=l.getD a 0){a b:Nat}(ha:a<n)(hb:b<n):l.getD (cI l a b) 0=cI l a b/\l.getD (bR l a b) 0=bR l a b:=by
 obtain⟨_,_,e1,e2⟩:=oY L ha hb;have i1:=I a ha;have i2:=I b hb;have a1:=(jS L ha).2;have a2:=(jS L hb).2
 have:(cI l a b=at_ l a/\bR l a b=at_ l b)\/(cI l a b=at_ l b/\bR l a b=at_ l a):=by
  by_cases h:l.getD a 0<=l.getD b 0
  ·left;omega
  ·right;omega
 rcases this with⟨x,y⟩|⟨x,y⟩
 ·rw[x,y,i1,i2];omega
 ·rw[x,y,i1,i2];omega
def JT{n:Nat}{l:List Int}(L:cJ n l)(I:∀a,a<n->l.getD (at_ l a) 0=l.getD a 0){a b:Nat}(ha:a<n)(hb:b<n):jn l (cI l a b) (bR l a b)=jn l a b:=by
 obtain⟨e1,e2⟩:=Iq L I ha hb;obtain⟨_,_,e3,e4⟩:=oY L ha hb;unfold jn;rw[e1,e2,e3,e4];refine Z0 λv _=>?_;have m1:max (min (l.getD a 0) (l.getD b 0)) (max (l.getD a 0) (l.getD b 0))=max (l.getD a 0) (l.getD b 0):=by omega
 have m2:min (min (l.getD a 0) (l.getD b 0)) (max (l.getD a 0) (l.getD b 0))=min (l.getD a 0) (l.getD b 0):=by omega
 rw[m1,m2]
def zF{n:Nat}{l:List Int}(L:cJ n l)(I:∀a,a<n->l.getD (at_ l a) 0=l.getD a 0){a b:Nat}(ha:a<n)(hb:b<n):∀x,x<n->(jn l a b).getD (at_ (jn l a b) x) 0=(jn l a b).getD x 0:=by
 intro x hx;have Lj:=L.jn ha hb;have vo:x<l.length:=by rw[L.len];exact hx
 have ex:=kB (l:=l) (a:=a) (b:=b) vo;obtain⟨lo,hi,e1,e2⟩:=oY L ha hb;obtain⟨q1,q2⟩:=Iq L I ha hb;by_cases h:l.getD x 0=max (l.getD a 0) (l.getD b 0)
 ·rw[if_pos h]at ex;have:at_ (jn l a b) x=cI l a b:=by unfold at_;rw[ex];rfl
  rw[this,kB (by rw[L.len];exact lo),q1,e1,ex];split
  ·rfl
  ·rfl
 ·rw[if_neg h]at ex;have:at_ (jn l a b) x=at_ l x:=by unfold at_;rw[ex]
  rw[this,kB (by rw[L.len];exact(jS L hx).1),I x hx,if_neg h,ex]
def bq.join{n:Nat}{rows:List Addr}{rd:Addr->List Int}{st:FS}(R:Rows n rows rd)(h:bq n rows rd st){a b:Nat}(ha:a<n)(hb:b<n):bq n rows rd {st with l:=jn st.l a b}:=by
 have ll:=h.aG.len;refine⟨h.aG.jn ha hb,zF h.aG h.fQ ha hb,λm hm e he=>?_,h.nd,λe he=>?_⟩
 ·obtain⟨s,r,er,hr,hs,hl⟩:=(h.hJ m hm e he).is;exact⟨s,r,er,hr,hs,qU (by rw[ll];exact((R.row r hr).mk s).2) (by rw[ll];exact hm) hl⟩
 ·obtain⟨x,y,s,k,nn⟩:=h.wt e he;exact⟨x,y,s,k,qU (by rw[ll];exact((R.row _ x).mk _).2) (by rw[ll];exact((R.row _ y).mk _).2) nn⟩
def Yr(st:FS){m j:Nat}(k s:Int)(a:Addr)(h:j≠m):(cf st m k s a).D j=st.D j:=by
 unfold cf;split
 ·rfl
 ·rfl
 ·show(if j=m then _ else st.D j)=_;rw[if_neg h]
def Ys(st:FS){m j:Nat}(e:List Key×V)(h:j≠m):(dA m st e).D j=st.D j:=by
 unfold dA;split
 ·exact Yr st _ _ _ h
 ·rfl
def Ir{n:Nat}{rows:List Addr}{rd:Addr->List Int}{low:Nat}(uR:low<n):∀(es:List (List Key×V)) (st:FS),bq n rows rd st->(∀e∈es,uu rows rd st.l low e)->
  bq n rows rd (es.foldl (dA low) st)/\(es.foldl (dA low) st).l=st.l/\(es.foldl (dA low) st).ss=st.ss/\(es.foldl (dA low) st).W.length<=st.W.length+es.length:=by
 intro es
 induction es with
 |nil=>intro st h _;exact⟨h,rfl,rfl,Y3 _⟩
 |cons e es ih=>
  intro st h he;obtain⟨s,r,er,hr,hs,hl⟩:=(he e (Y9 ..)).is;subst er;have h1:bq n rows rd (dA low st (key ((rd r).getD 2 0) s,.ref r)):=h.put uR hr hs hl;have l1:(dA low st (key ((rd r).getD 2 0) s,.ref r)).l=st.l:=nE ..;have s1:(dA low st (key ((rd r).getD 2 0) s,.ref r)).ss=st.ss:=yS ..;have w1:(dA low st (key ((rd r).getD 2 0) s,.ref r)).W.length<=st.W.length+1:=uv ..;obtain⟨a1,a2,a3,a4⟩:=ih _ h1 (λe' h'=>by rw[l1];exact he e' (Y4 _ h'));refine⟨a1,a2.trans l1,a3.trans s1,?_⟩;simp only[List.foldl_cons,ZF];omega
def qD{n:Nat}{l:List Int}(L:cJ n l){a b:Nat}(ha:a<n)(hb:b<n):(jn l a b).getD a 0=(jn l a b).getD b 0:=by
 rw[kB (by rw[L.len];exact ha),kB (by rw[L.len];exact hb)];by_cases h:l.getD a 0<=l.getD b 0
 ·have e:max (l.getD a 0) (l.getD b 0)=l.getD b 0:=by omega
  have e2:min (l.getD a 0) (l.getD b 0)=l.getD a 0:=by omega
  rw[e,e2,if_pos rfl];split<;>rfl
 ·have e:max (l.getD a 0) (l.getD b 0)=l.getD a 0:=by omega
  have e2:min (l.getD a 0) (l.getD b 0)=l.getD b 0:=by omega
  rw[e,e2,if_pos rfl];split<;>rfl
def bq.merge{n:Nat}{rows:List Addr}{rd:Addr->List Int}{st:FS}(R:Rows n rows rd)(h:bq n rows rd st){a b:Nat}(ha:a<n)(hb:b<n):
  bq n rows rd (lQ st a b)/\(lQ st a b).l=jn st.l a b/\(lQ st a b).ss=st.ss/\(lQ st a b).W.length<=st.W.length+10:=by
 obtain⟨lo,hi,_,_⟩:=oY h.aG ha hb;have hj:=h.join R lo hi
 obtain⟨a1,a2,a3,a4⟩:=Ir lo (st.D (bR st.l a b)) _ hj λe he=>by
  obtain⟨s,r,er,hr,hs,hl⟩:=(hj.hJ _ hi e he).is;exact⟨s,r,er,hr,hs,hl.trans (qD h.aG lo hi).symm⟩
 refine⟨a1,a2.trans (JT h.aG h.fQ ha hb),a3,ZQ a4 (Nat.add_le_add_left (h.AM R hi) _)⟩
structure FA where
 dx:Addr
 g:Addr
 ld:Addr
 lw:Addr
 lx:Addr
 ds:List Addr
def ff(d:FA):List (Str×V):=[("groups",.ref d.g),("doors",.ref d.ld),("waiting",.ref d.lw),("steps",.ref d.lx)]
structure bQ(CF CG:Addr)(H0 H:Hp)(f:Addr)(d:FA)(n:Nat)(st:FS):Prop where
 ob:H f=some (.ins CF d.dx (ff d))
 gr:jz CG H d.g st.l
 dl:H d.ld=some (.lst (d.ds.map V.ref))
 dn:d.ds.length=n
 du:d.ds.Nodup
 dd:∀m x,d.ds[m]?=some x->H x=some (.dT (st.D m))
 wl:∃wa:List Addr,H d.lw=some (.lst (wa.map V.ref))/\wa.length=st.W.length/\∀(i:Nat) (t:Addr) (e:Addr×Addr×Int),wa[i]?=some t->st.W[i]?=some e->H t=some (.tup [.ref e.1,.ref e.2.1,.int e.2.2])
 sl:∃sp:Ps,Tl H d.lx sp/\sp.map (·.2)=st.ss
 n1:d.lw≠d.lx
 n2:d.lw≠d.ld
 n3:d.lx≠d.ld
 f0:H0 f=none
 f1:H0 d.g=none
 f2:H0 d.lw=none
 f3:H0 d.lx=none
 f4:∀x∈d.ds,H0 x=none
 sa:aa H0 H
def Kx(d:FA)(H H':Hp):Prop:=∀b o,H b=some o->b≠d.lw->b≠d.lx->b≠d.g->b∉d.ds->H' b=some o
def Kx.trans{d:FA}{H H1 H2:Hp}(a:Kx d H H1)(b:Kx d H1 H2):Kx d H H2:=λc o e n1 n2 n3 n4=>b c o (a c o e n1 n2 n3 n4) n1 n2 n3 n4
def Kx.refl{d:FA}{H:Hp}:Kx d H H:=λc o e _ _ _ _=>e
def Kx.of{d:FA}{H H':Hp}(s:aa H H'):Kx d H H':=λc o e _ _ _ _=>s c o e
def bQ.tup{CF CG:Addr}{H0 H H':Hp}{f:Addr}{d:FA}{n:Nat}{st:FS}(F:bQ CF CG H0 H f d n st)(k:Kx d H H'){b:Addr}{xs:List V}(h:H b=some (.tup xs)):H' b=some (.tup xs):=by
 obtain⟨wa,w1,_⟩:=F.wl;obtain⟨sp,t1,_⟩:=F.sl;obtain⟨dx,gl,g1,_⟩:=F.gr.ob;refine k b _ h (λe=>?_) (λe=>?_) (λe=>?_) (λe=>?_)
 ·rw[e,w1]at h;cases h
 ·rw[e,t1.is]at h;cases h
 ·rw[e,g1]at h;cases h
 ·obtain⟨m,hm,e2⟩:=ZD e;have:=F.dd m b (by rw[Zd hm,e2]);rw[this]at h;cases h
structure nP(K:PySem.W.Frag)(mg:Str->Option Value)(C:Addr):Prop where
 cl:dM K C
 nG:NoAttr K C "groups"
 nD:NoAttr K C "doors"
 nW:NoAttr K C "waiting"
 nS:NoAttr K C "steps"
 mgC:mg "Fold"=some (.ref C)
def mf(d:FA):(ff d).lookup ("groups":Str)=some (.ref d.g):=rfl
def AN(d:FA):(ff d).lookup ("doors":Str)=some (.ref d.ld):=rfl
def AO(d:FA):(ff d).lookup ("waiting":Str)=some (.ref d.lw):=rfl
def LL(d:FA):(ff d).lookup ("steps":Str)=some (.ref d.lx):=rfl
def JU(d:FA):(ff d).lookup ("put":Str)=none:=rfl
def Yt(d:FA):(ff d).lookup ("lay":Str)=none:=rfl
def Ur(d:FA):(ff d).lookup ("merge":Str)=none:=rfl
def R0(d:FA):(ff d).lookup ("settle":Str)=none:=rfl
def bQ.same{CF CG:Addr}{H0 H H':Hp}{f:Addr}{d:FA}{n:Nat}{st:FS}(F:bQ CF CG H0 H f d n st)(s:aa H H'):bQ CF CG H0 H' f d n st:=by
 obtain⟨wa,w1,w2,w3⟩:=F.wl;obtain⟨sp,t1,t2⟩:=F.sl;exact⟨s _ _ F.ob,F.gr.other s,s _ _ F.dl,F.dn,F.du,λm x e=>s _ _ (F.dd m x e),⟨wa,s _ _ w1,w2,λi t e h1 h2=>s _ _ (w3 i t e h1 h2)⟩,⟨sp,t1.same s,t2⟩,F.n1,F.n2,F.n3,F.f0,F.f1,F.f2,F.f3,F.f4,F.sa.trans s⟩
def bQ.aaT{CF CG:Addr}{H0 H H':Hp}{f:Addr}{d:FA}{n:Nat}{st:FS}{l':List Int}(F:bQ CF CG H0 H f d n st)(k:Kp d.g H H')(g:jz CG H' d.g l')(nf:f≠d.g):bQ CF CG H0 H' f d n {st with l:=l'}:=by
 obtain⟨wa,w1,w2,w3⟩:=F.wl;obtain⟨sp,t1,t2⟩:=F.sl;obtain⟨dx,gl,g1,_⟩:=F.gr.ob
 have ne:∀{b:Addr}{o:HO},H b=some o->(∀C x fs,o≠.ins C x fs)->H' b=some o:=λ{b o} e hn=>k b o e λz=>by
  rw[z,g1]at e;exact hn _ _ _ (Zg e).symm
 refine⟨k _ _ F.ob nf,g,ne F.dl (λ_ _ _ z=>nomatch z),F.dn,F.du,λm x e=>ne (F.dd m x e) (λ_ _ _ z=>nomatch z),⟨wa,ne w1 (λ_ _ _ z=>nomatch z),w2,λi t e h1 h2=>ne (w3 i t e h1 h2) (λ_ _ _ z=>nomatch z)⟩,
  ⟨sp,⟨ne t1.is (λ_ _ _ z=>nomatch z),λp hp=>ne (t1.tp p hp) (λ_ _ _ z=>nomatch z)⟩,t2⟩,F.n1,F.n2,F.n3,F.f0,F.f1,F.f2,F.f3,F.f4,λb o e=>k b o (F.sa b o e) (a9 e F.f1)⟩
def Kx.kp{d:FA}{H H':Hp}(k:Kp d.g H H'):Kx d H H':=λc o e _ _ n _=>k c o e n
def Fs{H:Hp}{a b:Addr}{l:List Int}{ts:List Addr}(ha:ax H a l)(hl:0<l.length)(hb:H b=some (.lst (ts.map V.ref))):a≠b:=λe=>by
 rw[e]at ha;have e2:=Zg (ha.symm.trans hb);have e3:l.map V.int=ts.map V.ref:=HO.lst.inj e2;cases l with
 |nil=>cases hl
 |cons x l=>
  cases ts with
  |nil=>cases e3
  |cons y ts=>exact nomatch(List.cons.inj e3).1
structure Frame(CF CG:Addr)(H0:Hp)(rows:List Addr)(rd:Addr->List Int)(n:Nat):Prop where
 rw:Rows n rows rd
 tp:∀r∈rows,H0 r=some (.tup ((rd r).map V.int))
 n1:n<=1000
 rl:rows.length<=1000
 ne:CF≠CG
inductive Iu(CF CG:Addr)(vs:List V)(H:Hp)(Q:VK)(aD:XK):Prop
 |mk (H0:Hp) (rows:List Addr) (rd:Addr->List Int) (n:Nat) (f x t a:Addr) (d:FA) (st:FS) (m:Nat) (s:Int) (_:vs=[.ref f,.ref x,.ref t,.ref a]) (_:Frame CF CG H0 rows rd n) (_:bQ CF CG H0 H f d n st) (_:bq n rows rd st) (_:m<n) (_:d.ds[m]?=some x) (_:H t=some (.tup [.int ((rd a).getD 2 0),.int s])) (_:a∈rows) (_:st.W.length<=9990000) (_:∀H',bQ CF CG H0 H' f d n (cf st m ((rd a).getD 2 0) s a)->Kx d H H'->Q .aE H'):Iu CF CG vs H Q aD
def rJ(CF CG:Addr):Sp:=Iu CF CG
inductive Iv(CF CG:Addr)(vs:List V)(H:Hp)(Q:VK)(aD:XK):Prop
 |mk (H0:Hp) (rows:List Addr) (rd:Addr->List Int) (n:Nat) (f a:Addr) (d:FA) (st:FS) (_:vs=[.ref f,.ref a]) (_:Frame CF CG H0 rows rd n) (_:bQ CF CG H0 H f d n st) (_:bq n rows rd st) (_:a∈rows) (_:st.W.length<=9989990) (_:∀H',bQ CF CG H0 H' f d n (fJ rd st a)->Kx d H H'->Q .aE H'):Iv CF CG vs H Q aD
def Ae(CF CG:Addr):Sp:=Iv CF CG
inductive Ft(CF CG:Addr)(vs:List V)(H:Hp)(Q:VK)(aD:XK):Prop
 |mk (H0:Hp) (rows:List Addr) (rd:Addr->List Int) (n:Nat) (f:Addr) (d:FA) (st:FS) (a b:Nat) (_:vs=[.ref f,.int a,.int b]) (_:Frame CF CG H0 rows rd n) (_:bQ CF CG H0 H f d n st) (_:bq n rows rd st) (_:a<n) (_:b<n) (_:st.l.getD a 0≠st.l.getD b 0) (_:st.W.length<=9989900) (_:∀H',bQ CF CG H0 H' f d n (lQ st a b)->Kx d H H'->Q .aE H'):Ft CF CG vs H Q aD
def yT(CF CG:Addr):Sp:=Ft CF CG
def pb{H:Hp}{b x:Addr}{o u:HO}(h:H b=some o)(g:H x=some u)(n:o≠u):b≠x:=λe=>by
 rw[e,g]at h;exact n (Zg h).symm
def aaU{ds:List Addr}(nd:ds.Nodup){i j:Nat}{x y:Addr}(hi:ds[i]?=some x)(hj:ds[j]?=some y)(h:i≠j):x≠y:=λe=>by
 subst e;obtain⟨h1,e1⟩:=ZL.mp hi;obtain⟨h2,e2⟩:=ZL.mp hj;exact h (List.getElem_inj nd|>.mp (e1.trans e2.symm))
def bQ.putD{CF CG:Addr}{H0 H:Hp}{f:Addr}{d:FA}{n:Nat}{st:FS}(F:bQ CF CG H0 H f d n st){m:Nat}{x:Addr}(hx:d.ds[m]?=some x)(kv:List (List Key×V)):
  bQ CF CG H0 (upd H x (.dT kv)) f d n {st with D:=λi=>if i=m then kv else st.D i}/\Kx d H (upd H x (.dT kv)):=by
 obtain⟨wa,w1,w2,w3⟩:=F.wl;obtain⟨sp,t1,t2⟩:=F.sl;obtain⟨gx,gl,g1,g2⟩:=F.gr.ob;have hd:=F.dd m x hx
 have k:∀{b:Addr}{o:HO},H b=some o->(∀kv,o≠.dT kv)->upd H x (.dT kv) b=some o:=λ{b o} e hn=>by
  rw[aj (pb e hd (hn _))];exact e
 refine⟨⟨k F.ob (λ_ z=>nomatch z),⟨gx,gl,k g1 (λ_ z=>nomatch z),k g2 (λ_ z=>nomatch z)⟩,k F.dl (λ_ z=>nomatch z),F.dn,F.du,λi y e=>?_,⟨wa,k w1 (λ_ z=>nomatch z),w2,λi t e h1 h2=>k (w3 i t e h1 h2) (λ_ z=>nomatch z)⟩,
  ⟨sp,⟨k t1.is (λ_ z=>nomatch z),λp hp=>k (t1.tp p hp) (λ_ z=>nomatch z)⟩,t2⟩,F.n1,F.n2,F.n3,F.f0,F.f1,F.f2,F.f3,F.f4,F.sa.upd (F.f4 x (Y6 hx))⟩,λb o e _ _ _ n4=>?_⟩
 ·show upd H x (.dT kv) y=some (.dT (if i=m then kv else st.D i));by_cases jA:i=m
  ·subst jA;rw[hx]at e;cases e;rw[if_pos rfl,ak]
  ·rw[if_neg jA,aj (aaU F.du e hx jA)];exact F.dd i y e
 ·have nb:b≠x:=λz=>n4 (by rw[z];exact Y6 hx);rw[aj nb];exact e
def bQ.LM{CF CG:Addr}{H0 H:Hp}{f:Addr}{d:FA}{n:Nat}{st:FS}(F:bQ CF CG H0 H f d n st)(n0:0<n)(L:cJ n st.l)(wa:List Addr)(W:List (Addr×Addr×Int))(hl:wa.length=W.length)
  (hw:∀(i:Nat) (t:Addr) (e:Addr×Addr×Int),wa[i]?=some t->W[i]?=some e->H t=some (.tup [.ref e.1,.ref e.2.1,.int e.2.2])):
  bQ CF CG H0 (upd H d.lw (.lst (wa.map V.ref))) f d n {st with W:=W}/\Kx d H (upd H d.lw (.lst (wa.map V.ref))):=by
 obtain⟨wa0,w1,w2,w3⟩:=F.wl;obtain⟨sp,t1,t2⟩:=F.sl;obtain⟨gx,gl,g1,g2⟩:=F.gr.ob
 have k:∀{b:Addr}{o:HO},H b=some o->b≠d.lw->upd H d.lw (.lst (wa.map V.ref)) b=some o:=λ{b o} e hn=>by
  rw[aj hn];exact e
 have kk:∀{b:Addr}{o:HO},H b=some o->(∀xs,o≠.lst xs)->upd H d.lw (.lst (wa.map V.ref)) b=some o:=λ{b o} e hn=>k e (pb e w1 (hn _))
 refine⟨⟨kk F.ob (λ_ z=>nomatch z),⟨gx,gl,kk g1 (λ_ z=>nomatch z),k g2 (Fs g2 (by rw[L.len];exact n0) w1)⟩,k F.dl F.n2.symm,F.dn,F.du,λm x e=>kk (F.dd m x e) (λ_ z=>nomatch z),⟨wa,ak,hl,λi t e h1 h2=>kk (hw i t e h1 h2) (λ_ z=>nomatch z)⟩,
  ⟨sp,⟨k t1.is F.n1.symm,λp hp=>kk (t1.tp p hp) (λ_ z=>nomatch z)⟩,t2⟩,F.n1,F.n2,F.n3,F.f0,F.f1,F.f2,F.f3,F.f4,F.sa.upd F.f2⟩,λb o e n1 _ _ _=>k e n1⟩
def bQ.abW{CF CG:Addr}{H0 H:Hp}{f:Addr}{d:FA}{n:Nat}{st:FS}(F:bQ CF CG H0 H f d n st)(n0:0<n)(L:cJ n st.l)(sp:Ps)(tp:Tp H sp):
  bQ CF CG H0 (upd H d.lx (.lst (sp.map λp=>V.ref p.1))) f d n {st with ss:=sp.map (·.2)}/\Kx d H (upd H d.lx (.lst (sp.map λp=>V.ref p.1))):=by
 obtain⟨wa,w1,w2,w3⟩:=F.wl;obtain⟨sp0,t1,t2⟩:=F.sl;obtain⟨gx,gl,g1,g2⟩:=F.gr.ob
 have k:∀{b:Addr}{o:HO},H b=some o->b≠d.lx->upd H d.lx (.lst (sp.map λp=>V.ref p.1)) b=some o:=λ{b o} e hn=>by
  rw[aj hn];exact e
 have kk:∀{b:Addr}{o:HO},H b=some o->(∀xs,o≠.lst xs)->upd H d.lx (.lst (sp.map λp=>V.ref p.1)) b=some o:=λ{b o} e hn=>k e (pb e t1.is (hn _));have sy:H d.lx=some (.lst ((sp0.map (·.1)).map V.ref)):=by rw[ZK];exact t1.is
 refine⟨⟨kk F.ob (λ_ z=>nomatch z),⟨gx,gl,kk g1 (λ_ z=>nomatch z),k g2 (Fs g2 (by rw[L.len];exact n0) sy)⟩,k F.dl F.n3.symm,F.dn,F.du,λm x e=>kk (F.dd m x e) (λ_ z=>nomatch z),⟨wa,k w1 F.n1,w2,λi t e h1 h2=>kk (w3 i t e h1 h2) (λ_ z=>nomatch z)⟩,
  ⟨sp,⟨ak,λp hp=>kk (tp p hp) (λ_ z=>nomatch z)⟩,rfl⟩,F.n1,F.n2,F.n3,F.f0,F.f1,F.f2,F.f3,F.f4,F.sa.upd F.f3⟩,λb o e _ n2 _ _=>k e n2⟩
def R1{st:FS}{m:Nat}{k s:Int}{a b:Addr}(h:a8 (st.D m) (key k s)=some (.ref b)):cf st m k s a={st with W:=st.W++[(b,a,s)]}:=by
 unfold cf;rw[h]
def R3{st:FS}{m:Nat}{k s:Int}{a:Addr}(h:a8 (st.D m) (key k s)=none):cf st m k s a={st with D:=λi=>if i=m then putK (st.D m) (key k s) (.ref a)else st.D i}:=by
 unfold cf;rw[h]
end My
namespace L2
open PySem PySem.Spec PyProof.Rows
def jo(J:It)(ix:List Nat)(te:TE)(σ:St)(H1:Hp)(Q:VK):Prop:=∀D,H1 D=none->∃W:Nat->Nat->List V->Hp->Prop,(∃m,W 0 m [] (upd H1 D (.lst [])))/\
 ∀i m ys H2,W i m ys H2->H2 D=some (.lst ys)/\((J.stop i H2/\Q (.ref D) H2)\/(J.go i H2/\ys.length<sizeLine/\∀x H',J.fM i H2 x H'->te (bS ix (some x) σ) H' λy H3=>
  H3 D=some (.lst ys)/\∃m',m'<m/\W (i+1) m' (ys++[y]) (upd H3 D (.lst (ys++[y])))))
def m8(J:It)(ix:List Nat)(tt:TT)(te:TE)(σ:St)(H1:Hp)(Q:VK):Prop:=∀D,H1 D=none->∃W:Nat->Nat->List V->Hp->Prop,(∃m,W 0 m [] (upd H1 D (.lst [])))/\
 ∀i m ys H2,W i m ys H2->H2 D=some (.lst ys)/\((J.stop i H2/\Q (.ref D) H2)\/(J.go i H2/\ys.length<sizeLine/\∀x H',J.fM i H2 x H'->tt (bS ix (some x) σ) H' λb H3=>if b=true then te (bS ix (some x) σ) H3 (λy H4=>
  H4 D=some (.lst ys)/\∃m',m'<m/\W (i+1) m' (ys++[y]) (upd H4 D (.lst (ys++[y]))))else∃m',m'<m/\W (i+1) m' ys H3))
def rB(wi:TI)(ix:List Nat)(te:TE):TE:=λσ H Q=>wi σ H λJ H1=>Wr (jo J ix te σ H1 Q)
def GL(wi:TI)(ix:List Nat)(tt:TT)(te:TE):TE:=λσ H Q=>wi σ H λJ H1=>Wr (m8 J ix tt te σ H1 Q)
def Cx.AQ(X:Cx)(N:List Str)(scope:Scope)(cl:List (Str×Addr))(x:Str)(C:Addr)(s:Shared)(H:Hp)(fp:List Addr):Cx:=
 {prog:=X.prog,w:=X.w,K:=X.K,mg:=X.mg,base:=X.base,A:=X.A,N:=N,s₀:=s,H₀:=H,env:=compEnvC scope ((x,C+1)::cl) C X.env,outer:=X.stack,stack:=X.stack,ex:=fp,fn:=λy=>y==x,calm:=X.calm,pn:=[],xe:=λ_ _=>False}
def R4{M:Model}{A:Around}{E:Value->Shared->Prop}{s:Shared}{scope:Scope}{globals:Addr}{closure:List (Str×Addr)}{qual:Str}{env:Env}{Q:Env->Shared->Prop}
  (h:Q (newEnv scope s.heap.objs.size globals (cellsFrom (s.heap.objs.size+1) scope.names closure) qual none .none (some env) builtinsNs) {s with heap:=pushCells (s.heap.push {cls:=.type "dict",data:=.dict #[]}) scope.names}):
  wpAny M A (newFunctionEnv scope globals closure [] qual none .none (some env)) Q E s:=by
 simp only[newFunctionEnv,Option.isSome_some,if_true];refine wpAny_bind (wpAny_alloc ?_);refine wpAny_bind (wpAny_layCells _ (λname kind cells=>by cases hkc:kind==NameKind.cell<;>simp[hkc]) _ _ _ _ ?_);rw[show({s with heap:=s.heap.push {cls:=.type "dict",data:=.dict #[]}}:Shared).heap.objs.size=s.heap.objs.size+1 from Heap.size_push ..];exact wpAny_bind (by rw[List.forIn_nil];exact ZV (ZV h))
structure fY(X:Cx)(scope:Scope)(cl:List (Str×Addr))(x:Str)(fr:List Str)(ix:List Nat)(iter:Expr):Prop where
 abX:closureFor scope X.env=pure cl
 calm:X.calm=true
 kind:scope.kind=.function
 cell:(scope.names.all λp=>p.2 != .cell)=true
 names:(scope.names.all λp=>p.2 != .local||scope.names.lookup p.1==some .local)=true
 hx:scope.names.lookup x=some .local
 hN:(x::fr).Nodup
 iV:ix.map (λi=>X.N[i]?)=fr.map some
 fr:(fr.all λy=>X.env.kindOf y==some .cell&&(relabel scope X.env).names.lookup y==some .cell)=true
 cl2:((relabel scope X.env).names.all λp=>(p.2 != .cell&&p.2 != .free)||(cl.lookup p.1).isSome)=true
 hs:∀x,foldedSetIterable iter X.env x=pure x
section
variable {X:Cx}{x:Str}{px pos:Pos}{elt iter:Expr}{scope:Scope}{cl:List (Str×Addr)}{fr:List Str}{ix:List Nat}{wi:TI}{te:TE}{tt:TT}{ifs:List Expr}
def fY.aaV(k:fY X scope cl x fr ix iter):∀y∈scope.names,y.2≠.cell:=λy hy e=>by
 have:=ZC.mp k.cell y hy;rw[e]at this;exact absurd this (by decide)
def fY.Yu(k:fY X scope cl x fr ix iter):∀y∈scope.names,y.2=.local->scope.names.lookup y.1=some .local:=λy hy e=>by
 have:=ZC.mp k.names y hy;rw[e]at this;simpa using this
def fY.fr'(k:fY X scope cl x fr ix iter):∀y∈fr,X.env.kindOf y=some .cell/\(relabel scope X.env).names.lookup y=some .cell:=λy hy=>by
 have:=ZC.mp k.fr y hy;rw[Bool.and_eq_true]at this;exact⟨eq_of_beq this.1,eq_of_beq this.2⟩
def fY.LN(k:fY X scope cl x fr ix iter):∀y,((relabel scope X.env).names.lookup y=some .cell\/(relabel scope X.env).names.lookup y=some .free)->∃c,cl.lookup y=some c:=λy hy=>by
 have:∃k,(relabel scope X.env).names.lookup y=some k/\(k=.cell\/k=.free):=by
  rcases hy with h|h
  ·exact⟨_,h,.inl rfl⟩
  ·exact⟨_,h,.inr rfl⟩
 obtain⟨k',e,pW⟩:=this;have:=ZC.mp k.cl2 (y,k') (ZM e)
 have h2:(cl.lookup y).isSome=true:=by
  rcases pW with rfl|rfl<;>simpa using this
 exact Option.isSome_iff_exists.mp h2
def pD(B:Cx->Prop)(ifs:List Expr)(tt:TT):Prop:=(ifs=[]/\tt=λ_ H Q=>Q true H)\/∃ct,ifs=[ct]/\∀Y,B Y->PT Y ct tt
def Us{B:Cx}{BB:Cx->Prop}{pins:List (Addr×Obj)}{σ:St}{H:Hp}{s:Shared}{Q:Bool->Hp->Prop}(oa:pD BB ifs tt)(hb:BB B)(I:Inv B pins σ H s)(h:tt σ H Q):
  wpAny (model B.prog B.w) B.A (forIn ifs true λc r=>if r=true then do
   let ok<-PySem.isTrue c B.env (eval c B.env)
   pure (ForInStep.yield ok)else pure (ForInStep.yield r)) (λb s'=>∃H',Inv B pins σ H' s'/\Q b H') B.xe s:=by
 rcases oa with⟨rfl,rfl⟩|⟨ct,rfl,ht⟩
 ·rw[List.forIn_nil];exact ZV ⟨_,I,h⟩
 ·exact wpAny_tests_one (wpAny_mono (ht B hb _ s _ H _ I h) (λbb s6 ⟨H6,I6,q6⟩=>⟨H6,I6,q6⟩) λ_ _ z=>z)
def Fu{use:Option (Value->Sem Unit)}{Post:Value->Shared->Prop}{p0:Pos}(k:fY X scope cl x fr ix iter)(hi:PI X (.Name x px) iter wi)(aZ:∀y c,cl.lookup y=some c->X.env.cells.lookup y=some c)
  (he:∀C s H fp,PE (X.cq (x::fr) scope cl C s H fp) elt te)(oa:pD (λY=>∃C s H fp,Y=X.cq (x::fr) scope cl C s H fp) ifs tt)
  {pins:List (Addr×Obj)}{s:Shared}{σ:St}{H:Hp}{Q:VK}(I:Inv X pins σ H s){R:It->Hp->Prop}(h:wi σ H R)(hR:∀J H1,R J H1->Wr (m8 J ix tt te σ H1 Q))
  (fin:∀(s2 s4:Shared) (H2 H3:Hp) (fp:List Addr) (C:Addr) (x':Option V),Inv X pins σ H2 s2->(∀b∈fp,iK X pins H2 b)->C=s2.heap.objs.size+1->(∀b o,s2.heap.get? b=some o->b≠C)->Inv (X.cq (x::fr) scope cl C s2 H2 fp) [] (bS ix x' σ) H3 s4->Q (.ref s2.heap.objs.size) H3->
   ∀a,compPost (model X.prog X.w) X.A X.xe use Post (.ref s2.heap.objs.size) C (.ok a) s4):
  wpAny (model X.prog X.w) X.A (comprehension (.ListComp elt [⟨.Name x px,iter,ifs,0⟩] scope pos) scope X.env p0 (newList []) false (eval iter X.env) use) Post X.xe s:=by
 refine wpAny_comprehension_free rfl k.hs k.abX k.kind k.Yu (az (hi pins s σ H _ I h) λxv s1 h1=>az h1 λpP s2 h2=>?_);obtain⟨it,fp,tn,J,H2,e,I2,T,g7,f2,q⟩:=h2;have q:=hR J H2 q;subst e;refine wpAny_newObj_type (wpAny_newFunctionEnv k.aaV (by intro y hy;simp at hy) (λh₁ eu eU=>?_) k.kind);dsimp only at eu eU⊢;have jB:H2 s2.heap.objs.size=none:=I2.ao.fresh (Y3 _);obtain⟨W,⟨m0,w0⟩,turn⟩:=q.get s2.heap.objs.size jB;generalize gv:s2.heap.push {cls:=.type "list",dict:=none,data:=.seq ([]:List Value).toArray}=HL at eu eU⊢;have hC:HL.objs.size=s2.heap.objs.size+1:=by rw[<-gv,Heap.size_push]
 have old:∀b o,s2.heap.get? b=some o->h₁.get? b=some o:=λb o e=>(eU.2 b (by rw[hC];exact Zn (ZW (Zi e)))).trans (Y8 _ (gv▸Y8 _ e))
 have kS:h₁.get? s2.heap.objs.size=some {cls:=.type "list",data:=.seq ([]:List Value).toArray}:=
  (eU.2 _ (by rw[hC];exact Zn (Nat.lt_succ_self _))).trans (Y8 _ (gv▸Zq _ rfl))
 generalize og:HL.objs.size=C at eu eU⊢;rw[og]at hC;have bC:∀b o,s2.heap.get? b=some o->b≠C:=λb o e=>by rw[hC];exact Zn (ZW (Zi e))
 have Bi:∀b∈bT X.stack,∃o,s2.heap.get? b=some o:=λb hb=>by
  obtain⟨_,o,ho,_⟩:=I2.stack.mem hb;exact⟨o,ho⟩
 have fR:∀b∈fp,∃o,s2.heap.get? b=some o/\∀v,o.data≠.cell v:=λb hb=>T.obj 0 _ g7 b hb
 have jq:∀b∈fp,b∉bT X.stack:=λb hb z=>by
  rcases Y5.mp (I2.ku b z)with z|z
  ·exact(f2 b hb).2.1 z
  ·exact(f2 b hb).2.2.1 z
 let B:=X.cq (x::fr) scope cl C s2 H2 fp
 have j4:B.Ok:=by
  refine⟨I2.ok.mod,k.kind,I2.ok.glob,I2.ok.blt,(by show s2.heap.objs.size<=C;rw[hC];exact Nat.le_succ _),λy z c e1 e2=>I2.ok.inj y z c (aZ _ _ e1) (aZ _ _ e2),λy hy=>k.LN y hy,λy c z=>absurd (show false=true from z) Zk,
   λ_=>I2.ok.hd k.calm,I2.ok.frames,.inl rfl,λb hb=>⟨?_,λy c e=>(f2 b hb).2.2.2.2.1 y c (aZ _ _ e)⟩,I2.bs,ZQ I2.ok.iP I2.sz,λb o e hb=>?_,λb hb=>jq b hb,I2.stack,I2.o6⟩
  ·obtain⟨o,e,_⟩:=fR b hb;exact bC b o e
  ·rcases(f2 b hb).2.2.2.1 with z|z
   ·exact I2.ok.kE b o e z
   ·exact absurd (Zv (Zi (I2.ok.bs b o e).1) z) (Z2 _)
 have IB:∀tk,Inv B [] (bS ix none σ) (upd H2 s2.heap.objs.size (.lst [])) {s2 with heap:=h₁,toks:=tk}:=λtk=>by
  refine⟨j4,rfl,I2.bare,Un.laid old (Y3 _) jB,⟨_,eu,λj y v e1 e2 e3=>?_⟩,λy c e=>?_,?_,λy c e=>?_,(λp hp=>nomatch hp),I2.ao.laid old (Y3 _) ⟨Zp _,[],0,.nil,kS⟩,?_⟩
  ·cases j with
   |zero=>cases(show(some none:Option (Option V))=some (some v)from e2)
   |succ j=>
    have e1:fr[j]?=some y:=e1;have e2:(ix.map λi=>(σ[i]?).join)[j]?=some (some v):=e2;have hj:=congrArg (λl=>l[j]?) k.iV;simp only[Zf,e1]at hj;rw[Zf]at e2;cases mE:ix[j]? with
    |none=>rw[mE]at e2;cases e2
    |some i=>
     rw[mE]at hj e2;have hj:X.N[i]?=some y:=Zg hj;have e2:(σ[i]?).join=some v:=Zg e2
     have e2:σ[i]?=some (some v):=by
      cases z:σ[i]? with
      |none=>rw[z]at e2;cases e2
      |some z'=>rw[z]at e2;rw[show z'=some v from e2]
     obtain⟨m,hn,hl⟩:=I2.loc;have hk:=k.fr' y (Y6 e1);obtain⟨u,ru,lk⟩:=hl i y v hj e2 (.inr (.inl hk.1));refine⟨u,ru,.inr ⟨.inl hk.2,?_⟩⟩;rcases lk with⟨z,_⟩|⟨_,c,ec,⟨oc,b9,b5⟩⟩
     ·rw[hk.1]at z;cases z
     ·obtain⟨c',mF⟩:=k.LN y (.inl hk.2);have:=aZ _ _ mF;rw[ec]at this;cases this;exact⟨c,mF,oc,old c oc b9,b5⟩
  ·obtain⟨v,oc,b9,b5⟩:=I2.cell y c (aZ _ _ e);exact⟨v,oc,old c oc b9,b5⟩
  ·show upd H2 s2.heap.objs.size (.lst []) C=none;rw[aj (by rw[hC];exact Nat.succ_ne_self _)];exact I2.ao.fresh (by rw[hC];exact Nat.le_succ _)
  ·obtain⟨v,oc,b9,b5⟩:=I2.cell y c (aZ _ _ e);rw[aj (Zn (Zi b9))];exact I2.dW y c (aZ _ _ e)
  ·show(bS ix none σ).length=(x::fr).length;have:=congrArg List.length k.iV;simp only[Y1]at this;simp[bS,this]
 have gL:∀tk,tn 0 ({s2 with heap:=h₁,toks:=tk}:Shared).heap:=λ_=>T.keep 0 _ _ g7 λb hb o e=>old b o e
 have fB:∀{H':Hp},(∀b∈fp,H' b=none)->∀b∈fp,iK B [] H' b:=λhn b hb=>by
  obtain⟨o,e,_⟩:=fR b hb;exact⟨hn b hb,bC b o e,jq b hb,.inl hb,λy c ec=>(f2 b hb).2.2.2.2.1 y c (aZ _ _ ec),(λp hp=>nomatch hp)⟩
 have loop:∀tk,codeAny (model X.prog X.w) X.A (.compLoop (.ListComp elt [⟨.Name x px,iter,ifs,0⟩] scope pos) 0 (.ref it) (.ref s2.heap.objs.size) (compEnvC scope cl C X.env))
   (compPost (model X.prog X.w) X.A X.xe use Post (.ref s2.heap.objs.size) C) {s2 with heap:=h₁,toks:=tk}:=λtk=>by
  refine codeAny_loop rfl (λn s'=>∃i ys x' H',Inv B [] (bS ix x' σ) H' s'/\tn i s'.heap/\(∀b∈fp,H' b=none)/\W i n ys H') (λn s3 hI=>?_) m0 ⟨0,[],none,_,IB tk,gL tk,λb hb=>?_,w0⟩
  ·obtain⟨i,ys,x',H3,I3,fO,cX,w3⟩:=hI;show wpAny _ _ ((compTurn (.ListComp elt [⟨.Name x px,iter,ifs,0⟩] scope pos) 0 (.ref it) (.ref s2.heap.objs.size) (compEnvC scope cl C X.env)).onRaise (λx=>do noteFrame x (compEnvC scope cl C X.env);theTreesLotGoes x)) _ _ s3;refine wpAny_noted ?_;rw[compTurn_list];obtain⟨Mu,alt⟩:=turn i n ys H3 w3;refine wpAny_bind (wpAny_standAt (wpAny_bind ?_));rcases alt with⟨stop,qn⟩|⟨go,hlen,step⟩
   ·refine az (T.done B rfl rfl rfl k.calm i [] s3 _ H3 _ I3 (fB cX) fO stop) λr s4 ⟨hr,I4⟩=>?_;subst hr;refine ZV ?_;exact fin s2 s4 H2 H3 fp C _ I2 f2 hC bC I4 qn _
   ·refine az (T.item B rfl rfl rfl k.calm i [] s3 _ H3 _ I3 (fB cX) fO go) λr s4 ⟨u,hr,h4⟩=>?_;subst hr;refine wpAny_bind (az h4 λ_ s5 ⟨xv,H5,I5,r5,y5,dJ,kO⟩=>?_);have kP:=I5.pinned (fB kO) (T.obj _ _ dJ);refine wpAny_bind (wpAny_assign_Name (lK (i:=0) (X:=B) kP k.hN rfl (.inl (lookup_relabel_local k.hx)) r5 (λs6 I6=>?_) (.inr (lookup_relabel_local k.hx))));have I6:Inv B ([]++jP fp s5.heap) (bS ix (some xv) σ) H5 s6:=I6;refine wpAny_bind (wpAny_mono (Us oa ⟨C,s2,H2,fp,rfl⟩ I6 (step xv H5 y5)) (λbb vp ⟨H6,vq,q6⟩=>?_) λ_ _ z=>Zu z)
    have kp:∀{st:St}{H8:Hp}{s8:Shared},Inv B (([]:List (Addr×Obj))++jP fp s5.heap) st H8 s8->tn (i+1) s8.heap/\∀b∈fp,H8 b=none:=λI8=>⟨T.keep _ _ _ dJ λb hb o e=>(I8.pin (b,o) (Zb _ (Zb _ (iu hb e)))).1,λb hb=>by
     obtain⟨o,e,d⟩:=T.obj _ _ dJ b hb;exact(I8.pin (b,o) (Zb _ (Zb _ (iu hb e)))).2.1⟩
    cases bb with
    |false=>
     rw[if_neg (by decide)]at q6;obtain⟨m',hm,w7⟩:=q6;exact ZV ⟨rfl,m',hm,i+1,ys,some xv,_,vq.kg,(kp vq).1,(kp vq).2,w7⟩
    |true=>
     rw[if_pos rfl]at q6;refine wpAny_bind (wpAny_bind (wpAny_mono (he C s2 H2 fp _ vp _ H6 _ vq q6) (λv s7 ⟨y,H7,I7,r7,Bj,m',hm,w7⟩=>?_) λ_ _ z=>Zu z))
     refine wpAny_bind (wpAny_mono (eG (X:=B) _ s7 _ H7 (.ref s2.heap.objs.size) [y] (.ref s2.heap.objs.size) [v] (λ_ H8=>H8=upd H7 s2.heap.objs.size (.lst (ys++[y]))) I7 rfl (.cons r7 .nil) ⟨_,ys,y,rfl,rfl,Bj,hlen,rfl⟩)
      (λ_ s8 ⟨_,H8,I8,_,e8⟩=>?_) λ_ _ z=>Zu z)
     subst e8;exact ZV (ZV ⟨rfl,m',hm,i+1,ys++[y],some xv,_,I8.kg,(kp I8).1,(kp I8).2,w7⟩)
  ·obtain⟨o,e,_⟩:=fR b hb;rw[aj (Zn (Zi e))];exact(f2 b hb).1
 exact codeAny_compStart_list (loop _) (T.self _ 0 _ _ _ (gL _) (loop _))
def Fv{J:It}{σ:St}{H:Hp}{Q:VK}(h:Wr (jo J ix te σ H Q)):Wr (m8 J ix (λ_ H Q=>Q true H) te σ H Q):=⟨λD hD=>by
 obtain⟨W,w0,turn⟩:=h.get D hD;refine⟨W,w0,λi m ys H2 w=>?_⟩;obtain⟨a,b|⟨c,d,e⟩⟩:=turn i m ys H2 w
 ·exact⟨a,.inl b⟩
 ·exact⟨a,.inr ⟨c,d,λx H' y=>by
  show(if true=true then _ else _);rw[if_pos rfl];exact e x H' y⟩⟩⟩
def JV(k:fY X scope cl x fr ix iter)(hi:PI X (.Name x px) iter wi)(aZ:∀y c,cl.lookup y=some c->X.env.cells.lookup y=some c)
  (he:∀C s H fp,PE (X.cq (x::fr) scope cl C s H fp) elt te)(oa:pD (λY=>∃C s H fp,Y=X.cq (x::fr) scope cl C s H fp) ifs tt)
  {RR:St->VK->It->Hp->Prop}(hR:∀σ Q J H1,RR σ Q J H1->Wr (m8 J ix tt te σ H1 Q)):PE X (.ListComp elt [⟨.Name x px,iter,ifs,0⟩] scope pos) (λσ H Q=>wi σ H (RR σ Q)):=by
 intro pins s σ H Q I h;rw[eval_ListComp];refine Fu k hi aZ he oa I h (hR σ Q) λs2 s4 H2 H3 fp C x' I2 f2 hC bC I4 qn _=>?_;obtain⟨m4,kU,_⟩:=I4.loc;refine⟨m4,kU,λh' sb=>?_⟩
 have un:Un (bT X.stack) fp H2 H3 s2.heap h':=by
  have u:=I4.base;refine⟨λb o e n hb hx=>(sb.2 b (bC b o e)).trans (u.keep b o e n hb hx),λb o e n hb hx=>?_,u.free,λb o e hx=>?_,u.gc,u.fF,u.gd⟩
  ·obtain⟨sl,e1⟩:=u.slot b o e n hb hx;exact⟨sl,(sb.2 b (bC b o e)).trans e1⟩
  ·obtain⟨o',e1⟩:=u.there b o e hx;exact⟨o',(sb.2 b (bC b o e)).trans e1⟩
 exact⟨.ref s2.heap.objs.size,H3,I2.nI (s':={s4 with heap:=h'}) (ch:=fp) I4.os un (I4.ao.sameBut I4.free sb) I4.bare (λb hb=>⟨(f2 b hb).2.2.2.1,(f2 b hb).2.1,(f2 b hb).2.2.2.2⟩),rfl,qn⟩
def JW{ct:Expr}(ht:∀C s H fp,PT (X.cq (x::fr) scope cl C s H fp) ct tt):pD (λY=>∃C s H fp,Y=X.cq (x::fr) scope cl C s H fp) [ct] tt:=.inr ⟨ct,rfl,λY ⟨C,s,H,fp,e⟩=>by subst e;exact ht C s H fp⟩
def Fw{ct:Expr}(fr:List Str)(ix:List Nat)(hi:PI X (.Name x px) iter wi)(ht:∀C s H fp,PT (X.cq (x::fr) scope cl C s H fp) ct tt)(he:∀C s H fp,PE (X.cq (x::fr) scope cl C s H fp) elt te)(aZ:∀y c,cl.lookup y=some c->X.env.cells.lookup y=some c)
  (k:fY X scope cl x fr ix iter:=by exact⟨rfl,rfl,rfl,rfl,rfl,rfl,by decide+kernel,rfl,rfl,rfl,λ_=>rfl⟩):
  PE X (.ListComp elt [⟨.Name x px,iter,[ct],0⟩] scope pos) (GL wi ix tt te):=JV k hi aZ he (JW ht) λ_ _ _ _ h=>h
def Iw{B:Cx->Prop}:pD B [] (λ_ H Q=>Q true H):=.inl ⟨rfl,rfl⟩
def fW(fr:List Str)(ix:List Nat)(hi:PI X (.Name x px) iter wi)(he:∀C s H fp,PE (X.cq (x::fr) scope cl C s H fp) elt te)(aZ:∀y c,cl.lookup y=some c->X.env.cells.lookup y=some c)
  (k:fY X scope cl x fr ix iter:=by exact⟨rfl,rfl,rfl,rfl,rfl,rfl,by decide+kernel,rfl,rfl,rfl,λ_=>rfl⟩):
  PE X (.ListComp elt [⟨.Name x px,iter,[],0⟩] scope pos) (rB wi ix te):=JV k hi aZ he Iw λ_ _ _ _ h=>Fv h
end
section
variable {X:Cx}
def R5{x:Str}{px pos:Pos}{elt iter:Expr}{scope:Scope}{cl:List (Str×Addr)}{fr:List Str}{ix:List Nat}{wi:TI}{te:TE}
  (hc:X.calm=true)(hi:PI X (.Name x px) iter wi)
  (jr:closureFor scope X.env=pure cl)(dX:scope.kind=.function)(zG:∀n,cellsFrom n scope.names cl=(x,n)::cl)(Af:∀h:Heap,pushCells h scope.names=h.push {cls:=.type "cell",data:=.cell none})(AR:cl.lookup x=none)
  (jf:∀y∈scope.names,y.2=.local->scope.names.lookup y.1=some .local)(hx:(relabel scope X.env).names.lookup x=some .cell)
  (hN:(x::fr).Nodup)(iV:ix.map (λi=>X.N[i]?)=fr.map some)
  (dg:∀y∈fr,X.env.kindOf y=some .cell/\(relabel scope X.env).names.lookup y=some .cell)
  (aZ:∀y c,cl.lookup y=some c->X.env.cells.lookup y=some c)
  (g5:∀y,((relabel scope X.env).names.lookup y=some .cell\/(relabel scope X.env).names.lookup y=some .free)->y=x\/∃c,cl.lookup y=some c)
  (he:∀C s H fp,PE (X.AQ (x::fr) scope cl x C s H fp) elt te)
  (hs:∀x,foldedSetIterable iter X.env x=pure x:=by intro _;rfl):
  PE X (.ListComp elt [⟨.Name x px,iter,[],0⟩] scope pos) (rB wi ix te):=by
 intro pins s σ H Q I h;rw[eval_ListComp];refine wpAny_comprehension_free (use:=none) rfl hs jr dX jf (az (hi pins s σ H _ I h) λxv s1 h1=>az h1 λpP s2 h2=>?_);obtain⟨it,fp,tn,J,H2,e,I2,T,g7,f2,q⟩:=h2;subst e;refine wpAny_newObj_type (R4 ?_);rw[zG,Af];have jB:H2 s2.heap.objs.size=none:=I2.ao.fresh (Y3 _);obtain⟨W,⟨m0,w0⟩,turn⟩:=q.get s2.heap.objs.size jB;generalize gv:s2.heap.push {cls:=.type "list",dict:=none,data:=.seq ([]:List Value).toArray}=HL;have hC:HL.objs.size=s2.heap.objs.size+1:=by rw[<-gv,Heap.size_push]
 have eu:((HL.push {cls:=.type "dict",data:=.dict #[]}).push {cls:=.type "cell",data:=.cell none}).Ns HL.objs.size (λ_=>none):=(Heap.Ns.new HL (.type "dict")).keeps λb o e=>Y8 _ e
 have AU:((HL.push {cls:=.type "dict",data:=.dict #[]}).push {cls:=.type "cell",data:=.cell none}).get? (HL.objs.size+1)=some {cls:=.type "cell",data:=.cell none}:=by
  rw[<-Heap.size_push HL {cls:=.type "dict",data:=.dict #[]}];exact Zq _ rfl
 have old:∀b o,s2.heap.get? b=some o->((HL.push {cls:=.type "dict",data:=.dict #[]}).push {cls:=.type "cell",data:=.cell none}).get? b=some o:=λb o e=>Y8 _ (Y8 _ (gv▸Y8 _ e))
 have kS:((HL.push {cls:=.type "dict",data:=.dict #[]}).push {cls:=.type "cell",data:=.cell none}).get? s2.heap.objs.size=some {cls:=.type "list",data:=.seq ([]:List Value).toArray}:=
  Y8 _ (Y8 _ (gv▸Zq _ rfl))
 generalize hH1:((HL.push {cls:=.type "dict",data:=.dict #[]}).push {cls:=.type "cell",data:=.cell none})=h₁ at eu AU old kS;show codeAny _ _ (.compStart _ 0 _ _ (compEnvC scope ((x,HL.objs.size+1)::cl) HL.objs.size X.env)) (compPost _ _ _ none _ _ HL.objs.size) {s2 with heap:=h₁};generalize og:HL.objs.size=C at eu AU⊢;rw[og]at hC;have bC:∀b o,s2.heap.get? b=some o->b≠C:=λb o e=>by rw[hC];exact Zn (ZW (Zi e))
 have Bl:∀b o,s2.heap.get? b=some o->C+1≠b:=λb o e=>Nat.ne_of_gt (Nat.lt_trans (Zi e) (by rw[hC];exact ZW (Nat.lt_succ_self _)))
 have oh:∀y c,((x,C+1)::cl).lookup y=some c->(y=x/\c=C+1)\/(y≠x/\cl.lookup y=some c):=λy c e=>by
  rw[List.lookup_cons]at e;cases z:y==x with
  |true=>rw[z]at e;exact .inl ⟨eq_of_beq z,(Zg e).symm⟩
  |false=>rw[z]at e;exact .inr ⟨λq=>by rw[q]at z;simp at z,e⟩
 have lkx:((x,C+1)::cl).lookup x=some (C+1):=by rw[List.lookup_cons];simp
 have Mv:∀y c,cl.lookup y=some c->((x,C+1)::cl).lookup y=some c:=λy c e=>by
  rw[List.lookup_cons];cases z:y==x with
  |true=>rw[eq_of_beq z,AR]at e;cases e
  |false=>exact e
 have LO:∀y c,cl.lookup y=some c->C+1≠c:=λy c e=>by
  obtain⟨v,oc,b9,_⟩:=I2.cell y c (aZ _ _ e);exact Bl c oc b9
 have Bi:∀b∈bT X.stack,∃o,s2.heap.get? b=some o:=λb hb=>by
  obtain⟨_,o,ho,_⟩:=I2.stack.mem hb;exact⟨o,ho⟩
 have fR:∀b∈fp,∃o,s2.heap.get? b=some o/\∀v,o.data≠.cell v:=λb hb=>T.obj 0 _ g7 b hb
 have jq:∀b∈fp,b∉bT X.stack:=λb hb z=>by
  rcases Y5.mp (I2.ku b z)with z|z
  ·exact(f2 b hb).2.1 z
  ·exact(f2 b hb).2.2.1 z
 let B:=X.AQ (x::fr) scope cl x C s2 H2 fp
 have j4:B.Ok:=by
  refine⟨I2.ok.mod,dX,I2.ok.glob,I2.ok.blt,(by show s2.heap.objs.size<=C;rw[hC];exact Nat.le_succ _),λy z c e1 e2=>?inj,λy hy=>?has,λy c z e=>?cab,
   λ_=>I2.ok.hd hc,I2.ok.frames,.inl rfl,λb hb=>⟨?fb,λy c e=>?fc⟩,I2.bs,ZQ I2.ok.iP I2.sz,λb o e hb=>?bs,λb hb=>jq b hb,I2.stack,I2.o6⟩
  case inj=>
   rcases oh _ _ e1 with⟨q1,q2⟩|⟨q1,q2⟩<;>rcases oh _ _ e2 with⟨q3,q4⟩|⟨q3,q4⟩
   ·rw[q1,q3]
   ·exact absurd q2.symm (LO _ _ q4)
   ·exact absurd q4.symm (LO _ _ q2)
   ·exact I2.ok.inj y z c (aZ _ _ q2) (aZ _ _ q4)
  case has=>
   rcases g5 y hy with q|⟨c,q⟩
   ·rw[q];exact⟨_,lkx⟩
   ·exact⟨c,Mv _ _ q⟩
  case cab=>
   rcases oh _ _ e with⟨q1,q2⟩|⟨q1,q2⟩
   ·rw[q2];show s2.heap.objs.size<=C+1;rw[hC];exact Nat.le_succ_of_le (Nat.le_succ _)
   ·exact absurd (eq_of_beq z) q1
  case fb=>
   obtain⟨o,e,_⟩:=fR b hb;exact bC b o e
  case fc=>
   rcases oh _ _ e with⟨q1,q2⟩|⟨q1,q2⟩
   ·obtain⟨o,e,_⟩:=fR b hb;rw[q2];exact Bl b o e
   ·exact(f2 b hb).2.2.2.2.1 y c (aZ _ _ q2)
  case bs=>
   rcases(f2 b hb).2.2.2.1 with z|z
   ·exact I2.ok.kE b o e z
   ·exact absurd (Zv (Zi (I2.ok.bs b o e).1) z) (Z2 _)
 have IB:∀tk,Inv B [] (bS ix none σ) (upd H2 s2.heap.objs.size (.lst [])) {s2 with heap:=h₁,toks:=tk}:=λtk=>by
  refine⟨j4,rfl,I2.bare,Un.laid old (Y3 _) jB,⟨_,eu,λj y v e1 e2 e3=>?_⟩,λy c e=>?_,?_,λy c e=>?_,(λp hp=>nomatch hp),I2.ao.laid old (Y3 _) ⟨Zp _,[],0,.nil,kS⟩,?_⟩
  ·cases j with
   |zero=>cases(show(some none:Option (Option V))=some (some v)from e2)
   |succ j=>
    have e1:fr[j]?=some y:=e1;have e2:(ix.map λi=>(σ[i]?).join)[j]?=some (some v):=e2;have hj:=congrArg (λl=>l[j]?) iV;simp only[Zf,e1]at hj;rw[Zf]at e2;cases mE:ix[j]? with
    |none=>rw[mE]at e2;cases e2
    |some i=>
     rw[mE]at hj e2;have hj:X.N[i]?=some y:=Zg hj;have e2:(σ[i]?).join=some v:=Zg e2
     have e2:σ[i]?=some (some v):=by
      cases z:σ[i]? with
      |none=>rw[z]at e2;cases e2
      |some z'=>rw[z]at e2;rw[show z'=some v from e2]
     obtain⟨m,hn,hl⟩:=I2.loc;have hk:=dg y (Y6 e1);obtain⟨u,ru,lk⟩:=hl i y v hj e2 (.inr (.inl hk.1));refine⟨u,ru,.inr ⟨.inl hk.2,?_⟩⟩;rcases lk with⟨z,_⟩|⟨_,c,ec,⟨oc,b9,b5⟩⟩
     ·rw[hk.1]at z;cases z
     ·rcases g5 y (.inl hk.2)with q|⟨c',mF⟩
      ·rw[q]at e1;exact absurd (Y6 e1) (ZG.mp hN).1
      ·have:=aZ _ _ mF;rw[ec]at this;cases this;exact⟨c,Mv _ _ mF,oc,old c oc b9,b5⟩
  ·rcases oh _ _ e with⟨q1,q2⟩|⟨q1,q2⟩
   ·rw[q2];exact⟨_,_,AU,rfl⟩
   ·obtain⟨v,oc,b9,b5⟩:=I2.cell y c (aZ _ _ q2);exact⟨v,oc,old c oc b9,b5⟩
  ·show upd H2 s2.heap.objs.size (.lst []) C=none;rw[aj (by rw[hC];exact Nat.succ_ne_self _)];exact I2.ao.fresh (by rw[hC];exact Nat.le_succ _)
  ·rcases oh _ _ e with⟨q1,q2⟩|⟨q1,q2⟩
   ·rw[q2,aj (by rw[hC];exact Nat.ne_of_gt (ZW (Nat.lt_succ_self _)))];exact I2.ao.fresh (by rw[hC];exact Nat.le_succ_of_le (Nat.le_succ _))
   ·obtain⟨v,oc,b9,b5⟩:=I2.cell y c (aZ _ _ q2);rw[aj (Zn (Zi b9))];exact I2.dW y c (aZ _ _ q2)
  ·show(bS ix none σ).length=(x::fr).length;have:=congrArg List.length iV;simp only[Y1]at this;simp[bS,this]
 have gL:∀tk,tn 0 ({s2 with heap:=h₁,toks:=tk}:Shared).heap:=λ_=>T.keep 0 _ _ g7 λb hb o e=>old b o e
 have fB:∀{H':Hp},(∀b∈fp,H' b=none)->∀b∈fp,iK B [] H' b:=λhn b hb=>by
  obtain⟨o,e,_⟩:=fR b hb;refine⟨hn b hb,bC b o e,jq b hb,.inl hb,λy c ec=>?_,(λp hp=>nomatch hp)⟩;rcases oh _ _ ec with⟨q1,q2⟩|⟨q1,q2⟩
  ·rw[q2];exact Bl b o e
  ·exact(f2 b hb).2.2.2.2.1 y c (aZ _ _ q2)
 have loop:∀tk,codeAny (model X.prog X.w) X.A (.compLoop (.ListComp elt [⟨.Name x px,iter,[],0⟩] scope pos) 0 (.ref it) (.ref s2.heap.objs.size) (compEnvC scope ((x,C+1)::cl) C X.env))
   (compPost (model X.prog X.w) X.A X.xe none (EP X pins σ Q) (.ref s2.heap.objs.size) C) {s2 with heap:=h₁,toks:=tk}:=λtk=>by
  refine codeAny_loop rfl (λn s'=>∃i ys x' H',Inv B [] (bS ix x' σ) H' s'/\tn i s'.heap/\(∀b∈fp,H' b=none)/\W i n ys H') (λn s3 hI=>?_) m0 ⟨0,[],none,_,IB tk,gL tk,λb hb=>?_,w0⟩
  ·obtain⟨i,ys,x',H3,I3,fO,cX,w3⟩:=hI;show wpAny _ _ ((compTurn (.ListComp elt [⟨.Name x px,iter,[],0⟩] scope pos) 0 (.ref it) (.ref s2.heap.objs.size) (compEnvC scope ((x,C+1)::cl) C X.env)).onRaise (λzz=>do noteFrame zz (compEnvC scope ((x,C+1)::cl) C X.env);theTreesLotGoes zz)) _ _ s3;refine wpAny_noted ?_;rw[compTurn_list1];obtain⟨Mu,alt⟩:=turn i n ys H3 w3;refine wpAny_bind (wpAny_standAt (wpAny_bind ?_));rcases alt with⟨stop,qn⟩|⟨go,hlen,step⟩
   ·refine az (T.done B rfl rfl rfl hc i [] s3 _ H3 _ I3 (fB cX) fO stop) λr s4 ⟨hr,I4⟩=>?_;subst hr;refine ZV ?_;obtain⟨m4,kU,_⟩:=I4.loc;refine⟨m4,kU,λh' sb=>?_⟩
    have un:Un (bT X.stack) fp H2 H3 s2.heap h':=by
     have u:=I4.base;refine⟨λb o e n hb hx=>(sb.2 b (bC b o e)).trans (u.keep b o e n hb hx),λb o e n hb hx=>?_,u.free,λb o e hx=>?_,u.gc,u.fF,u.gd⟩
     ·obtain⟨sl,e1⟩:=u.slot b o e n hb hx;exact⟨sl,(sb.2 b (bC b o e)).trans e1⟩
     ·obtain⟨o',e1⟩:=u.there b o e hx;exact⟨o',(sb.2 b (bC b o e)).trans e1⟩
    refine⟨.ref s2.heap.objs.size,H3,I2.nI (s':={s4 with heap:=h'}) (ch:=fp) I4.os un (I4.ao.sameBut I4.free sb) I4.bare (λb hb=>⟨(f2 b hb).2.2.2.1,(f2 b hb).2.1,(f2 b hb).2.2.2.2⟩),rfl,qn⟩
   ·refine az (T.item B rfl rfl rfl hc i [] s3 _ H3 _ I3 (fB cX) fO go) λr s4 ⟨u,hr,h4⟩=>?_;subst hr;refine wpAny_bind (az h4 λ_ s5 ⟨xv,H5,I5,r5,y5,dJ,kO⟩=>?_);have kP:=I5.pinned (fB kO) (T.obj _ _ dJ);refine wpAny_bind (wpAny_assign_Name (lK (i:=0) (X:=B) kP hN rfl (.inr hx) r5 (λs6 I6=>?_) (.inl (beq_self_eq_true x))));have I6:Inv B ([]++jP fp s5.heap) (bS ix (some xv) σ) H5 s6:=I6;refine wpAny_bind (wpAny_bind (wpAny_mono (he C s2 H2 fp _ s6 _ H5 _ I6 (step xv H5 y5)) (λv s7 ⟨y,H7,I7,r7,Bj,m',hm,w7⟩=>?_) λ_ _ z=>Zu z))
    refine wpAny_bind (wpAny_mono (eG (X:=B) _ s7 _ H7 (.ref s2.heap.objs.size) [y] (.ref s2.heap.objs.size) [v] (λ_ H8=>H8=upd H7 s2.heap.objs.size (.lst (ys++[y]))) I7 rfl (.cons r7 .nil) ⟨_,ys,y,rfl,rfl,Bj,hlen,rfl⟩)
     (λ_ s8 ⟨_,H8,I8,_,e8⟩=>?_) λ_ _ z=>Zu z)
    subst e8;refine ZV (ZV ⟨rfl,m',hm,i+1,ys++[y],some xv,_,I8.kg,T.keep _ _ _ dJ λb hb o e=>(I8.pin (b,o) (Zb _ (Zb _ (iu hb e)))).1,λb hb=>?_,w7⟩);obtain⟨o,e,d⟩:=T.obj _ _ dJ b hb;exact(I8.pin (b,o) (Zb _ (Zb _ (iu hb e)))).2.1
  ·obtain⟨o,e,_⟩:=fR b hb;rw[aj (Zn (Zi e))];exact(f2 b hb).1
 exact codeAny_compStart_list (loop _) (T.self _ 0 _ _ _ (gL _) (loop _))
end
end L2
namespace My
open PySem L2
def bq.pop{n:Nat}{rows:List Addr}{rd:Addr->List Int}{st:FS}{W:List (Addr×Addr×Int)}{e:Addr×Addr×Int}(h:bq n rows rd st)(hW:st.W=W++[e]):bq n rows rd {st with W:=W}/\zE rows rd st.l e:=
 ⟨⟨h.aG,h.fQ,h.hJ,h.nd,λx hx=>h.wt x (by rw[hW];exact Zc _ hx)⟩,h.wt e (by rw[hW];exact Zb _ (Y2.mpr rfl))⟩
def bq.sE{n:Nat}{rows:List Addr}{rd:Addr->List Int}{st:FS}(h:bq n rows rd st)(s:List (List Int)):bq n rows rd {st with ss:=s}:=⟨h.aG,h.fQ,h.hJ,h.nd,h.wt⟩
def bq.lay{n:Nat}{rows:List Addr}{rd:Addr->List Int}{st:FS}(R:Rows n rows rd)(h:bq n rows rd st){a:Addr}(ha:a∈rows):
  bq n rows rd (fJ rd st a)/\(fJ rd st a).l=st.l/\(fJ rd st a).ss=st.ss/\(fJ rd st a).W.length<=st.W.length+2:=by
 have row:=R.row a ha;have hU:=h.put (jS h.aG (row.mk 1).2).1 ha (.inl rfl:dI 1) (h.fQ _ (row.mk 1).2).symm;have kW:=hU.put (jS hU.aG (row.mk (-1)).2).1 ha (.inr rfl:dI (-1)) (hU.fQ _ (row.mk (-1)).2).symm;refine⟨kW,(nE ..).trans (nE ..),(yS ..).trans (yS ..),?_⟩;have w1:=uv st (at_ st.l (My.mk (rd a) 1)) ((rd a).getD 2 0) 1 a;have w2:=uv (cf st (at_ st.l (My.mk (rd a) 1)) ((rd a).getD 2 0) 1 a) (at_ (cf st (at_ st.l (My.mk (rd a) 1)) ((rd a).getD 2 0) 1 a).l (My.mk (rd a) (-1))) ((rd a).getD 2 0) (-1) a;unfold fJ;dsimp only;omega
def iX(n:Nat)(start:Ps):FS:={l:=dZ n start,D:=λ_=>[],W:=[],ss:=[]}
def qV{n a:Nat}(h:a<n):(c5 n).getD a 0=a:=by
 unfold c5;simp[List.getD,Zf,List.getElem?_range h]
def JX{n:Nat}{rows:List Addr}{rd:Addr->List Int}{start:Ps}(h:∀p∈start,eP n p.2):bq n rows rd (iX n start):=by
 refine⟨Io _ h,?_,λm hm e he=>(nomatch he),λm hm=>List.nodup_nil,λe he=>(nomatch he)⟩;show∀a,a<n->(dZ n start).getD (at_ (dZ n start) a) 0=(dZ n start).getD a 0
 suffices∀(start:Ps) (l:List Int),cJ n l->(∀a,a<n->l.getD (at_ l a) 0=l.getD a 0)->(∀p∈start,eP n p.2)->∀a,a<n->(start.foldl (λl p=>dN l p.2) l).getD (at_ (start.foldl (λl p=>dN l p.2) l) a) 0=(start.foldl (λl p=>dN l p.2) l).getD a 0 from
  this start (c5 n) (yQ n) (λa ha=>by
   have e:=qV ha;have:at_ (c5 n) a=a:=by unfold at_;rw[e];simp
   rw[this]) h
 clear h start;intro start
 induction start with
 |nil=>intro l _ h _;exact h
 |cons p ps ih=>
  intro l L h hp;obtain⟨a,b,er,ha,hb⟩:=hp p (Y9 ..);have e:dN l p.2=jn l a b:=by rw[er];rfl
  exact ih (dN l p.2) (L.dN ⟨a,b,er,ha,hb⟩) (by rw[e];exact zF L h ha hb) λq hq=>hp q (Y4 _ hq)
def Ut{n:Nat}{rows:List Addr}{rd:Addr->List Int}{st:FS}(R:Rows n rows rd)(h:bq n rows rd st){x y:Addr}{s:Int}(w:zE rows rd st.l (x,y,s)):
  bq n rows rd (fX rd st x y s)/\11*bt (fX rd st x y s).l+(fX rd st x y s).W.length<=11*bt st.l+st.W.length/\(fX rd st x y s).W.length+10*bt (fX rd st x y s).l<=st.W.length+10*bt st.l/\(fX rd st x y s).ss.length+bt (fX rd st x y s).l<=st.ss.length+bt st.l:=by
 have rx:=(R.row x w.x).mk (-s);have ry:=(R.row y w.y).mk (-s);unfold fX;by_cases e:st.l.getD (My.mk (rd x) (-s)) 0=st.l.getD (My.mk (rd y) (-s)) 0
 ·rw[if_pos e];exact⟨h,Y3 _,Y3 _,Y3 _⟩
 ·rw[if_neg e];obtain⟨o1,o2,o3,o4⟩:=(h.sE (st.ss++[[(rd x).getD 0 0,(rd y).getD 0 0,s]])).merge R rx.2 ry.2;have lt:=rH h.aG rx.2 ry.2 e;refine⟨o1,?_,?_,?_⟩
  ·rw[o2];dsimp only at o4⊢;omega
  ·rw[o2];dsimp only at o4⊢;omega
  ·rw[o2,o3];dsimp only;rw[Zo,List.length_singleton];omega
def Keeps(n:Nat)(rows:List Addr)(rd:Addr->List Int)(J:FS->Prop):Prop:=∀(st:FS) (W:List (Addr×Addr×Int)) (x y:Addr) (s:Int),bq n rows rd st->st.W=W++[(x,y,s)]->J st->J (fX rd {st with W:=W} x y s)
inductive EJ(CF CG:Addr)(vs:List V)(H:Hp)(Q:VK)(aD:XK):Prop
 |mk (H0:Hp) (rows:List Addr) (rd:Addr->List Int) (n:Nat) (f:Addr) (d:FA) (st:FS) (J:FS->Prop) (_:vs=[.ref f]) (_:Frame CF CG H0 rows rd n) (_:bQ CF CG H0 H f d n st) (_:bq n rows rd st) (_:Keeps n rows rd J) (_:J st) (_:st.W.length+10*bt st.l<=9000000) (_:st.ss.length+bt st.l<=9000000) (_:∀(aS:FS) (H':Hp),bQ CF CG H0 H' f d n aS->bq n rows rd aS->J aS->aS.W=[]->aS.ss.length<=9000000->Kx d H H'->Q .aE H'):EJ CF CG vs H Q aD
def yq(CF CG:Addr):Sp:=EJ CF CG
inductive Fx(CF CG:Addr)(vs:List V)(H:Hp)(Q:VK)(aD:XK):Prop
 |mk (H0:Hp) (f dx:Addr) (n:Nat) (ls:Addr) (ps:Ps) (_:vs=[.ref f,.int n,.ref ls]) (_:H f=some (.ins CF dx [])) (_:H0 f=none) (_:aa H0 H) (_:Tl H ls ps) (_:(∀p∈ps,eP n p.2)) (_:n<=1000) (_:ps.length<=1000) (_:CF≠CG) (_:∀(d:FA) (H':Hp),bQ CF CG H0 H' f d n (iX n ps)->Q .aE H'):Fx CF CG vs H Q aD
def Iy(CF CG:Addr):Sp:=Fx CF CG
def bZ(ps:Ps)(a:Addr):List Int:=match ps.find? (λp=>p.1==a)with
 |some p=>p.2
 |none=>[]
def Qg{a b:List Int}(h:a.map V.int=b.map V.int):a=b:=by
 induction a generalizing b with
 |nil=>cases b with
  |nil=>rfl
  |cons _ _=>cases h
 |cons x a ih=>cases b with
  |nil=>cases h
  |cons y b=>
   obtain⟨h1,h2⟩:=List.cons.inj h;rw[V.int.inj h1,ih h2]
def lO{H:Hp}{ps:Ps}(tp:Tp H ps){p:Addr×List Int}(hp:p∈ps):bZ ps p.1=p.2:=by
 unfold bZ;cases e:ps.find? (λq=>q.1==p.1)with
 |none=>
  have:=List.find?_eq_none.mp e p hp;simp at this
 |some q=>
  have h1:q.1=p.1:=by simpa using List.find?_some e
  have h2:=tp q (List.mem_of_find?_eq_some e);have h3:=tp p hp;rw[h1,h3]at h2;exact(Qg (HO.tup.inj (Zg h2))).symm
def zH(ps:Ps)(st:FS):FS:=(ps.map (·.1)).foldl (fJ (bZ ps)) st
inductive EK(vs:List V)(H:Hp)(Q:VK)(aD:XK):Prop
 |mk (n:Nat) (lr ls:Addr) (ps start:Ps) (J:FS->Prop) (_:vs=[.int n,.ref lr,.ref ls]) (_:Tl H lr ps) (_:Tl H ls start) (_:(∀p∈ps,b8 n p.2/\1<=p.2.getD 2 0/\p.2.getD 2 0<=5)) (_:(∀p∈start,eP n p.2)) (_:n<=700) (_:ps.length<=1000) (_:start.length<=1000) (_:Keeps n (ps.map (·.1)) (bZ ps) J) (_:J (zH ps (iX n start))) (_:∀(t l1 l2:Addr) (sp:Ps) (st:FS) (H':Hp),H' t=some (.tup [.ref l1,.ref l2])->ax H' l1 st.l->Tl H' l2 sp->sp.map (·.2)=st.ss->bq n (ps.map (·.1)) (bZ ps) st->J st->st.W=[]->sp.length<=9000000->H l1=none->H l2=none->aa H H'->Q (.ref t) H'):EK vs H Q aD
def GN:Sp:=EK
def Uu{lo:Int}{n:Nat}{ix:List Nat}{σ:St}{H:Hp}{Q:VK}(hn:n<=1000)
  (k:∀(D:Addr) (ds:List Addr) (H':Hp),H D=none->H' D=some (.lst (ds.map V.ref))->ds.length=n->ds.Nodup->(∀x∈ds,H x=none/\H' x=some (.dT [])/\x≠D)->aa H H'->Q (.ref D) H'):
  ∀D,H D=none->∃W:Nat->Nat->List V->Hp->Prop,(∃m,W 0 m [] (upd H D (.lst [])))/\
   ∀i m ys H2,W i m ys H2->H2 D=some (.lst ys)/\(((fN lo n).stop i H2/\Q (.ref D) H2)\/((fN lo n).go i H2/\ys.length<sizeLine/\∀x H',(fN lo n).fM i H2 x H'->zw (bS ix (some x) σ) H' λy H3=>
    H3 D=some (.lst ys)/\∃m',m'<m/\W (i+1) m' (ys++[y]) (upd H3 D (.lst (ys++[y]))))):=by
 refine xP λD hD=>⟨λi ys H2=>∃ds:List Addr,ys=ds.map V.ref/\ds.length=i/\i<=n/\H2 D=some (.lst ys)/\ds.Nodup/\(∀x∈ds,H x=none/\H2 x=some (.dT [])/\x≠D)/\aa H H2,⟨[],rfl,rfl,Zp _,ak,List.nodup_nil,(λ_ z=>nomatch z),(aa.refl H).upd hD⟩,?_,?_,?_⟩
 ·rintro i ys H2 ⟨ds,rfl,hl,hi,e,_⟩;exact⟨e,bD (by rw[Y1];omega)⟩
 ·rintro i ys H2 hi ⟨ds,rfl,hl,_,e,nd,hx,s2⟩ Q' q' x oj;have nD:D≠x:=a9 e oj
  have abY:H x=none:=by
   cases h:H x with
   |none=>rfl
   |some o=>rw[s2 _ _ h]at oj;cases oj
  refine q' _ _ (by rw[aj nD];exact e) ⟨ds++[x],by rw[Ze];rfl,by simp[hl],hi,ak,?_,λz hz=>?_,?_⟩
  ·refine o9 nd λhz=>?_;rw[(hx x hz).2.1]at oj;cases oj
  ·rcases Y7.mp hz with h|h
   ·obtain⟨h1,h2,h3⟩:=hx z h;exact⟨h1,by rw[aj h3,aj (a9 h2 oj)];exact h2,h3⟩
   ·obtain rfl:=Y2.mp h;exact⟨abY,by rw[aj nD.symm,ak],nD.symm⟩
  ·exact((s2.kF oj).upd hD)
 ·rintro ys H2 ⟨ds,rfl,hl,_,e,nd,hx,s2⟩;exact k D ds H2 hD e hl nd hx s2
def WE{j n:Nat}{ix:List Nat}{σ:St}{H:Hp}{Q:VK}(hσ:σ[j]?=some (some (.int n)))(hn:n<=1000)
  (k:∀(D:Addr) (ds:List Addr) (H':Hp),H D=none->H' D=some (.lst (ds.map V.ref))->ds.length=n->ds.Nodup->(∀x∈ds,H x=none/\H' x=some (.dT [])/\x≠D)->aa H H'->Q (.ref D) H'):rB (KA (jR (gZ j) jT)) ix zw σ H Q:=
 ⟨_,hσ,_,rfl,by omega,by omega,⟨Uu (lo:=0) (n:=(n:Int).toNat) (by omega) λD ds H' h1 h2 h3 h4 h5 h6=>k D ds H' h1 h2 (by omega) h4 h5 h6⟩⟩
def good(l p q:List Int)(s:Int):Prop:=(s=1\/s= -1)/\p.getD 2 0=q.getD 2 0/\l.getD (mk p s) 0=l.getD (mk q s) 0/\¬l.getD (mk p (-s)) 0=l.getD (mk q (-s)) 0
instance{l p q:List Int}{s:Int}:Decidable (good l p q s):=by unfold good;infer_instance
def uS(ps:Ps)(l r:List Int):Option (List Int):=
 match jZ ps (r.getD 0 0),jZ ps (r.getD 1 0)with
 |some p,some q=>if good l p.2 q.2 (r.getD 2 0)then some (jn l (mk p.2 (-(r.getD 2 0))) (mk q.2 (-(r.getD 2 0))))else none
 |_,_=>none
def wP(ps:Ps)(l:List Int)(ss:List (List Int)):Option (List Int):=ss.foldl (λo r=>o.bind λl=>uS ps l r) (some l)
def WG{ps:Ps}{l:List Int}{ss:List (List Int)}{r:List Int}:wP ps l (ss++[r])=(wP ps l ss).bind λl=>uS ps l r:=by
 unfold wP;rw[List.foldl_append];rfl
def WH{ps:Ps}{l r:List Int}{p q:Addr×List Int}(e1:jZ ps (r.getD 0 0)=some p)(e2:jZ ps (r.getD 1 0)=some q)(g:good l p.2 q.2 (r.getD 2 0)):uS ps l r=some (jn l (mk p.2 (-(r.getD 2 0))) (mk q.2 (-(r.getD 2 0)))):=by
 unfold uS;rw[e1,e2];dsimp only;rw[if_pos g]
def pX(ps:Ps):Prop:=∀p∈ps,∀q∈ps,p.2.getD 0 0=q.2.getD 0 0->p=q
def WI{ps:Ps}{i:Int}:∀{q:Addr×List Int},jZ ps i=some q->q.2.getD 0 0=i:=by
 suffices∀(o:Option (Addr×List Int)),(∀q,o=some q->q.2.getD 0 0=i)->∀q,ps.foldl (λo p=>if i=p.2.getD 0 0 then some p else o) o=some q->q.2.getD 0 0=i from λ{q} h=>this none (λq z=>nomatch z) q h
 induction ps with
 |nil=>intro o h q e;exact h q e
 |cons p ps ih=>
  intro o h q e;refine ih (if i=p.2.getD 0 0 then some p else o) (λq z=>?_) q e;by_cases c:i=p.2.getD 0 0
  ·rw[if_pos c]at z;cases z;exact c.symm
  ·rw[if_neg c]at z;exact h q z
def Yv{ps:Ps}{i:Int}{p:Addr×List Int}(hp:p∈ps)(h:p.2.getD 0 0=i):∃q,jZ ps i=some q:=by
 suffices∀(o:Option (Addr×List Int)),(p∈ps\/∃q,o=some q)->∃q,ps.foldl (λo p=>if i=p.2.getD 0 0 then some p else o) o=some q from this none (.inl hp)
 clear hp
 induction ps with
 |nil=>
  intro o h;rcases h with z|z
  ·cases z
  ·exact z
 |cons a ps ih=>
  intro o hh;refine ih (if i=a.2.getD 0 0 then some a else o) ?_;rcases hh with z|⟨q,z⟩
  ·rcases Y5.mp z with rfl|z
   ·exact .inr ⟨p,by rw[if_pos h.symm]⟩
   ·exact .inl z
  ·refine .inr ?_;by_cases c:i=a.2.getD 0 0
   ·exact⟨a,if_pos c⟩
   ·exact⟨q,by rw[if_neg c];exact z⟩
def Iz{ps:Ps}(u:pX ps){p:Addr×List Int}(hp:p∈ps):jZ ps (p.2.getD 0 0)=some p:=by
 obtain⟨q,e⟩:=Yv hp rfl;rw[e,u q (Wz e) p hp (WI e)]
def JP(ps:Ps)(l0:List Int)(st:FS):Prop:=wP ps l0 st.ss=some st.l/\∀r∈st.ss,uI r
def Qh{n:Nat}{ps:Ps}{l0:List Int}{H:Hp}(u:pX ps)(tp:Tp H ps)(R:Rows n (ps.map (·.1)) (bZ ps)):Keeps n (ps.map (·.1)) (bZ ps) (JP ps l0):=by
 intro st W x y s ok eW ⟨j1,j2⟩;obtain⟨iY,we⟩:=ok.pop eW;unfold fX;by_cases he:st.l.getD (My.mk (bZ ps x) (-s)) 0=st.l.getD (My.mk (bZ ps y) (-s)) 0
 ·rw[if_pos he];exact⟨j1,j2⟩
 ·rw[if_neg he];obtain⟨o1,o2,o3,o4⟩:=(iY.sE (st.ss++[[(bZ ps x).getD 0 0,(bZ ps y).getD 0 0,s]])).merge R ((R.row x we.x).mk (-s)).2 ((R.row y we.y).mk (-s)).2;refine⟨?_,?_⟩
  ·rw[o2,o3];show wP ps l0 (st.ss++[[(bZ ps x).getD 0 0,(bZ ps y).getD 0 0,s]])=some (jn st.l (My.mk (bZ ps x) (-s)) (My.mk (bZ ps y) (-s)));rw[WG,j1];obtain⟨p,hp,ep⟩:=Zh.mp we.x;obtain⟨q,hq,eq⟩:=Zh.mp we.y;have ep:p.1=x:=ep;have eq:q.1=y:=eq;subst ep eq;have k:=we.k;have nn:=we.n;dsimp only at k nn;rw[lO tp hp,lO tp hq]at he k nn⊢;have e1:jZ ps (([p.2.getD 0 0,q.2.getD 0 0,s]:List Int).getD 0 0)=some p:=Iz u hp;have e2:jZ ps (([p.2.getD 0 0,q.2.getD 0 0,s]:List Int).getD 1 0)=some q:=Iz u hq;exact WH e1 e2 ⟨we.s,k,nn,he⟩
  ·rw[o3];intro r hr;rcases Y7.mp hr with h|h
   ·exact j2 r h
   ·obtain rfl:=Y2.mp h;refine⟨_,_,s,rfl,?_⟩;have:s=1\/s= -1:=we.s;omega
def Cl(rs:List (List Int))(st:Ps)(c:Nat->Int):Prop:=(∀p∈st,c (p.2.getD 0 0).toNat=c (p.2.getD 1 0).toNat)/\
 ∀p∈rs,∀q∈rs,p.getD 2 0=q.getD 2 0->∀s,dI s->c (mk p s)=c (mk q s)->c (mk p (-s))=c (mk q (-s))
structure LCo(n:Nat)(rs:List (List Int))(st:Ps)(l:List Int):Prop where
 aG:cJ n l
 fQ:∀a,a<n->l.getD (at_ l a) 0=l.getD a 0
 le:∀a:Nat,a<n->l.getD a 0<=a
 snd:∀c,Cl rs st c->∀a b,a<n->b<n->l.getD a 0=l.getD b 0->c a=c b
structure dP(n:Nat)(rs:List (List Int))(st:Ps)(l:List Int):Prop extends LCo n rs st l where
 om:∀p∈st,l.getD (p.2.getD 0 0).toNat 0=l.getD (p.2.getD 1 0).toNat 0
def Yw{l:List Int}{a b x y:Nat}(hx:x<l.length)(hy:y<l.length)(h:(jn l a b).getD x 0=(jn l a b).getD y 0):l.getD x 0=l.getD y 0\/(l.getD x 0=l.getD a 0/\l.getD y 0=l.getD b 0)\/(l.getD x 0=l.getD b 0/\l.getD y 0=l.getD a 0):=by
 rw[kB hx,kB hy]at h;split at h<;>split at h<;>omega
def LCo.jn{n:Nat}{rs:List (List Int)}{st:Ps}{l:List Int}(h:LCo n rs st l){a b:Nat}(ha:a<n)(hb:b<n)(hc:∀c,Cl rs st c->c a=c b):LCo n rs st (jn l a b):=by
 have ll:=h.aG.len;refine⟨h.aG.jn ha hb,zF h.aG h.fQ ha hb,λx hx=>?_,λc cl x y hx hy e=>?_⟩
 ·rw[kB (by rw[ll];exact hx)];have h1:=h.le x hx;split<;>omega
 ·have ab:=hc c cl;rcases Yw (by rw[ll];exact hx) (by rw[ll];exact hy) e with z|⟨z1,z2⟩|⟨z1,z2⟩
  ·exact h.snd c cl x y hx hy z
  ·rw[h.snd c cl x a hx ha z1,h.snd c cl y b hy hb z2,ab]
  ·rw[h.snd c cl x b hx hb z1,h.snd c cl y a hy ha z2,ab]
def eP.to{n:Nat}{r:List Int}(h:eP n r):(r.getD 0 0).toNat<n/\(r.getD 1 0).toNat<n:=by
 obtain⟨a,b,rfl,ha,hb⟩:=h;exact⟨by simpa using ha,by simpa using hb⟩
def dP.jn{n:Nat}{rs:List (List Int)}{st:Ps}{l:List Int}(bz:∀p∈st,eP n p.2)(h:dP n rs st l){a b:Nat}(ha:a<n)(hb:b<n)(hc:∀c,Cl rs st c->c a=c b):dP n rs st (jn l a b):=by
 refine{h.toLCo.jn ha hb hc with om:=λp hp=>?_};have ll:=h.aG.len;exact qU (by rw[ll];exact(bz p hp).to.1) (by rw[ll];exact(bz p hp).to.2) (h.om p hp)
def yr{n:Nat}{rs:List (List Int)}{st:Ps}(bz:∀p∈st,eP n p.2):dP n rs st (dZ n st):=by
 suffices∀(todo:Ps) (l:List Int),LCo n rs st l->(∀p∈todo,p∈st)->LCo n rs st (todo.foldl (λl p=>dN l p.2) l)/\(∀p∈todo,(todo.foldl (λl p=>dN l p.2) l).getD (p.2.getD 0 0).toNat 0=(todo.foldl (λl p=>dN l p.2) l).getD (p.2.getD 1 0).toNat 0)/\
   ∀x y,x<n->y<n->l.getD x 0=l.getD y 0->(todo.foldl (λl p=>dN l p.2) l).getD x 0=(todo.foldl (λl p=>dN l p.2) l).getD y 0 by
  obtain⟨h1,h2,_⟩:=this st (c5 n) ⟨yQ n,λa ha=>by
   have e:=qV ha;have:at_ (c5 n) a=a:=by unfold at_;rw[e];simp
   rw[this],λa ha=>by rw[qV ha];exact Int.le_refl _,λc _ a b ha hb e=>by rw[qV ha,qV hb]at e;rw[Int.ofNat.inj e]⟩ (λp hp=>hp)
  exact{h1 with om:=h2}
 intro todo
 induction todo with
 |nil=>intro l h _;exact⟨h,(λ_ z=>nomatch z),λx y _ _ e=>e⟩
 |cons p ps ih=>
  intro l h hp;have po:=bz p (hp p (Y9 ..));have h1:LCo n rs st (dN l p.2):=h.jn po.to.1 po.to.2 λc cl=>cl.1 p (hp p (Y9 ..));obtain⟨g1,g2,g3⟩:=ih (dN l p.2) h1 λq hq=>hp q (Y4 _ hq);refine⟨g1,λq hq=>?_,λx y hx hy e=>g3 x y hx hy (qU (by rw[h.aG.len];exact hx) (by rw[h.aG.len];exact hy) e)⟩;rcases Y5.mp hq with rfl|hq
  ·exact g3 _ _ po.to.1 po.to.2 (qD h.aG po.to.1 po.to.2)
  ·exact g2 q hq
def closed(rs:List (List Int))(l:List Int):Prop:=∀p∈rs,∀q∈rs,p.getD 2 0=q.getD 2 0->∀s,dI s->l.getD (mk p s) 0=l.getD (mk q s) 0->l.getD (mk p (-s)) 0=l.getD (mk q (-s)) 0
def dP.lt{n:Nat}{rs:List (List Int)}{st:Ps}{l1 l2:List Int}(h1:dP n rs st l1)(c1:closed rs l1)(h2:dP n rs st l2):∀a,a<n->l1.getD a 0<=l2.getD a 0:=by
 intro a ha;have cl:Cl rs st (λa=>l1.getD a 0):=⟨h1.om,c1⟩;obtain⟨m1,m2⟩:=jS h2.aG ha;have e:=h2.snd _ cl _ _ m1 ha (h2.fQ a ha);have:=h1.le _ m1;omega
def dP.unique{n:Nat}{rs:List (List Int)}{st:Ps}{l1 l2:List Int}(h1:dP n rs st l1)(c1:closed rs l1)(h2:dP n rs st l2)(c2:closed rs l2):l1=l2:=by
 refine List.ext_getElem (by rw[h1.aG.len,h2.aG.len]) λi mG fP=>?_;have hi:i<n:=by rw[<-h1.aG.len];exact mG
 have a:=h1.lt c1 h2 i hi;have b:=h2.lt c2 h1 i hi;simp only[List.getD,Zd mG,Zd fP,Option.getD_some]at a b;omega
def mH(n:Nat)(rd:Addr->List Int)(st:FS)(c:Nat->Int):Prop:=(∀x y,x<n->y<n->st.l.getD x 0=st.l.getD y 0->c x=c y)/\∀e∈st.W,c (mk (rd e.1) (-e.2.2))=c (mk (rd e.2.1) (-e.2.2))
def j5(n:Nat)(rd:Addr->List Int)(st:FS)(m:Nat)(k s:Int)(v:Nat):Prop:=∃r:Addr,a8 (st.D m) (key k s)=some (.ref r)/\∀c,mH n rd st c->c v=c (mk (rd r) (-s))
def IA{n:Nat}{rd:Addr->List Int}{st:FS}{m:Nat}{k s:Int}{a:Addr}{c:Nat->Int}(h:mH n rd (cf st m k s a) c):mH n rd st c:=by
 refine⟨λx y hx hy e=>h.1 x y hx hy (by rw[nE];exact e),λe he=>h.2 e ?_⟩;unfold cf;split
 ·exact Zc _ he
 ·exact he
 ·exact he
def uh{n:Nat}{rd:Addr->List Int}{st:FS}{m m':Nat}{k s k' s':Int}{a:Addr}{v:Nat}(h:j5 n rd st m' k' s' v):j5 n rd (cf st m k s a) m' k' s' v:=by
 obtain⟨r,e,hc⟩:=h;refine⟨r,?_,λc ad=>hc c (IA ad)⟩;unfold cf;split
 ·exact e
 ·exact e
 ·rename_i en;show a8 (if m'=m then putK (st.D m) (key k s) (.ref a)else st.D m') (key k' s')=_;by_cases hm:m'=m
  ·subst hm;rw[if_pos rfl,yn,if_neg (λz=>by rw[z,en]at e;cases e)];exact e
  ·rw[if_neg hm];exact e
def yU{n:Nat}{rows:List Addr}{rd:Addr->List Int}{st:FS}(ok:bq n rows rd st){m:Nat}(hm:m<n){k s:Int}{a:Addr}:j5 n rd (cf st m k s a) m k s (mk (rd a) (-s)):=by
 unfold cf;cases e:a8 (st.D m) (key k s)with
 |none=>
  refine⟨a,?_,λc _=>rfl⟩;show a8 (if m=m then putK (st.D m) (key k s) (.ref a)else st.D m) (key k s)=_;rw[if_pos rfl,yn,if_pos rfl]
 |some v=>
  obtain⟨s',r,er,_⟩:=(ok.hJ m hm _ (qJ e)).is;obtain rfl:v=.ref r:=(Prod.mk.inj er).2;refine⟨r,e,λc ad=>?_⟩;exact(ad.2 (r,a,s) (Zb _ (Y2.mpr rfl))).symm
def Uv{n:Nat}{rows:List Addr}{rd:Addr->List Int}{low:Nat}(uR:low<n):∀(es:List (List Key×V)) (st:FS),bq n rows rd st->(∀e∈es,uu rows rd st.l low e)->
  (∀c,mH n rd (es.foldl (dA low) st) c->mH n rd st c)/\(∀m k s v,j5 n rd st m k s v->j5 n rd (es.foldl (dA low) st) m k s v)/\∀e∈es,∀k s r,e=(key k s,V.ref r)->j5 n rd (es.foldl (dA low) st) low k s (mk (rd r) (-s)):=by
 intro es
 induction es with
 |nil=>intro st h _;exact⟨λc h=>h,λm k s v h=>h,λ_ z=>nomatch z⟩
 |cons e es ih=>
  intro st h he;obtain⟨s,r,er,hr,hs,hl⟩:=(he e (Y9 ..)).is;subst er;have h1:bq n rows rd (dA low st (key ((rd r).getD 2 0) s,.ref r)):=h.put uR hr hs hl;have l1:(dA low st (key ((rd r).getD 2 0) s,.ref r)).l=st.l:=nE ..;obtain⟨a1,a2,a3⟩:=ih _ h1 (λe' h'=>by rw[l1];exact he e' (Y4 _ h'));refine⟨λc ad=>IA (a1 c ad),λm k' s' v cv=>a2 _ _ _ _ (uh cv),λe' h' k' s' r' z=>?_⟩;rcases Y5.mp h' with rfl|h'
  ·obtain⟨z1,z2⟩:=Prod.mk.inj z;have e2:(rd r).getD 2 0=k':=Sum.inl.inj (List.cons.inj z1).1;have e3:s=s':=Sum.inl.inj (List.cons.inj (List.cons.inj z1).2).1;have e4:r=r':=V.ref.inj z2;subst e2 e3 e4;exact a2 _ _ _ _ (yU h uR)
  ·exact a3 e' h' k' s' r' z
def sH(n:Nat)(rd:Addr->List Int)(La:Addr->Int->Prop)(st:FS):Prop:=∀r s,La r s->j5 n rd st (at_ st.l (mk (rd r) s)) ((rd r).getD 2 0) s (mk (rd r) (-s))
def WJ{n:Nat}{rows:List Addr}{rd:Addr->List Int}(R:Rows n rows rd):∀(as:List Addr) (st:FS) (La:Addr->Int->Prop),bq n rows rd st->(∀a∈as,a∈rows)->sH n rd La st->sH n rd (λr s=>La r s\/(r∈as/\dI s)) (as.foldl (fJ rd) st):=by
 intro as
 induction as with
 |nil=>intro st La _ _ h r s z;exact h r s (z.elim id λy=>nomatch y.1)
 |cons a as ih=>
  intro st La ok ha h;have ar:=ha a (Y9 ..);have row:=R.row a ar;have m1:=(jS ok.aG (row.mk 1).2).1;have hU:=ok.put m1 ar (.inl rfl:dI 1) (ok.fQ _ (row.mk 1).2).symm;have m2:=(jS hU.aG (row.mk (-1)).2).1;obtain⟨o1,o2,_,_⟩:=ok.lay R ar;refine λr0 s0 z0=>ih (fJ rd st a) (λr s=>La r s\/(r=a/\dI s)) o1 (λb hb=>ha b (Y4 _ hb)) ?_ r0 s0 ?_
  ·intro r s z;rw[o2];rcases z with z|⟨rfl,hz⟩
   ·exact uh (uh (h r s z))
   ·have hz:s=1\/s= -1:=hz;rcases hz with rfl|rfl
    ·exact uh (yU ok m1)
    ·have:=yU (k:=(rd r).getD 2 0) (s:= -1) (a:=r) hU m2;rw[nE]at this;unfold fJ;dsimp only;rw[nE];exact this
  ·rcases z0 with z|⟨z,hs⟩
   ·exact .inl (.inl z)
   ·rcases Y5.mp z with z|z
    ·exact .inl (.inr ⟨z,hs⟩)
    ·exact .inr ⟨z,hs⟩
def Uw{n:Nat}{rows:List Addr}{rd:Addr->List Int}(R:Rows n rows rd){La:Addr->Int->Prop}(hLa:∀r s,La r s->r∈rows/\dI s):Keeps n rows rd (sH n rd La):=by
 intro st W x y s ok eW h;obtain⟨iY,we⟩:=ok.pop eW;have rx:=(R.row x we.x).mk (-s);have ry:=(R.row y we.y).mk (-s);unfold fX;by_cases he:st.l.getD (My.mk (rd x) (-s)) 0=st.l.getD (My.mk (rd y) (-s)) 0
 ·rw[if_pos he];intro r s' z;obtain⟨r',e,hc⟩:=h r s' z;refine⟨r',e,λc ad=>hc c ⟨ad.1,λe' h'=>?_⟩⟩;rw[eW]at h';rcases Y7.mp h' with q|q
  ·exact ad.2 e' q
  ·obtain rfl:=Y2.mp q;exact ad.1 _ _ rx.2 ry.2 he
 ·rw[if_neg he];have pY:=iY.sE (st.ss++[[(rd x).getD 0 0,(rd y).getD 0 0,s]]);obtain⟨lo,hi,el,eh⟩:=oY ok.aG rx.2 ry.2;have Mw:=pY.join R lo hi;obtain⟨o1,o2,_,_⟩:=pY.merge R rx.2 ry.2;have jl:=JT ok.aG ok.fQ rx.2 ry.2;have ll:=ok.aG.len
  have Mx:∀c,mH n rd {st with W:=W,ss:=st.ss++[[(rd x).getD 0 0,(rd y).getD 0 0,s]],l:=jn st.l (cI st.l (My.mk (rd x) (-s)) (My.mk (rd y) (-s))) (bR st.l (My.mk (rd x) (-s)) (My.mk (rd y) (-s)))} c->mH n rd st c:=λc ad=>by
   have vt:=ad.1;dsimp only at vt;rw[jl]at vt;refine⟨λa b ha hb e=>vt a b ha hb (qU (by rw[ll];exact ha) (by rw[ll];exact hb) e),λe' h'=>?_⟩;rw[eW]at h';rcases Y7.mp h' with q|q
   ·exact ad.2 e' q
   ·obtain rfl:=Y2.mp q;exact vt _ _ rx.2 ry.2 (qD ok.aG rx.2 ry.2)
  have cv1:∀m k s' v,j5 n rd st m k s' v->j5 n rd {st with W:=W,ss:=st.ss++[[(rd x).getD 0 0,(rd y).getD 0 0,s]],l:=jn st.l (cI st.l (My.mk (rd x) (-s)) (My.mk (rd y) (-s))) (bR st.l (My.mk (rd x) (-s)) (My.mk (rd y) (-s)))} m k s' v:=λm k s' v ⟨r',e,hc⟩=>⟨r',e,λc ad=>hc c (Mx c ad)⟩
  obtain⟨f1,f2,f3⟩:=Uv lo (st.D (bR st.l (My.mk (rd x) (-s)) (My.mk (rd y) (-s)))) _ Mw λe he=>by
   obtain⟨s,r,er,hr,hs,hl⟩:=(Mw.hJ _ hi e he).is;exact⟨s,r,er,hr,hs,hl.trans (qD ok.aG lo hi).symm⟩
  intro r s' z;obtain⟨vw,hss⟩:=hLa r s' z;have rr:=((R.row r vw).mk s').2;have cv:=h r s' z;have ej:=kB (l:=st.l) (a:=My.mk (rd x) (-s)) (b:=My.mk (rd y) (-s)) (x:=My.mk (rd r) s') (by rw[ll];exact rr);rw[o2];show j5 n rd ((st.D (bR st.l (My.mk (rd x) (-s)) (My.mk (rd y) (-s)))).foldl (dA (cI st.l (My.mk (rd x) (-s)) (My.mk (rd y) (-s)))) _) (at_ (jn st.l (My.mk (rd x) (-s)) (My.mk (rd y) (-s))) (My.mk (rd r) s')) _ _ _;by_cases hh:st.l.getD (My.mk (rd r) s') 0=max (st.l.getD (My.mk (rd x) (-s)) 0) (st.l.getD (My.mk (rd y) (-s)) 0)
  ·rw[if_pos hh]at ej;have e1:at_ (jn st.l (My.mk (rd x) (-s)) (My.mk (rd y) (-s))) (My.mk (rd r) s')=cI st.l (My.mk (rd x) (-s)) (My.mk (rd y) (-s)):=by unfold at_;rw[ej];rfl
   have e2:at_ st.l (My.mk (rd r) s')=bR st.l (My.mk (rd x) (-s)) (My.mk (rd y) (-s)):=by unfold at_;rw[hh];rfl
   rw[e2]at cv;obtain⟨r',e,hc⟩:=cv;obtain⟨r'',e',dE⟩:=f3 _ (qJ e) _ _ r' rfl;rw[e1];exact⟨r'',e',λc ad=>(hc c (Mx c (f1 c ad))).trans (dE c ad)⟩
  ·rw[if_neg hh]at ej;have e1:at_ (jn st.l (My.mk (rd x) (-s)) (My.mk (rd y) (-s))) (My.mk (rd r) s')=at_ st.l (My.mk (rd r) s'):=by unfold at_;rw[ej]
   rw[e1];exact f2 _ _ _ _ (cv1 _ _ _ _ cv)
def R6{n:Nat}{ps start:Ps}{H:Hp}(tp:Tp H ps)(bz:∀p∈start,eP n p.2)(R:Rows n (ps.map (·.1)) (bZ ps)):Keeps n (ps.map (·.1)) (bZ ps) (λst=>dP n (ps.map (·.2)) start st.l):=by
 intro st W x y s ok eW h;obtain⟨iY,we⟩:=ok.pop eW;unfold fX;by_cases he:st.l.getD (My.mk (bZ ps x) (-s)) 0=st.l.getD (My.mk (bZ ps y) (-s)) 0
 ·rw[if_pos he];exact h
 ·rw[if_neg he];have rx:=(R.row x we.x).mk;have ry:=(R.row y we.y).mk;obtain⟨o1,o2,o3,o4⟩:=(iY.sE (st.ss++[[(bZ ps x).getD 0 0,(bZ ps y).getD 0 0,s]])).merge R (rx (-s)).2 (ry (-s)).2;show dP n (ps.map (·.2)) start (lQ _ _ _).l;rw[o2];refine h.jn bz (rx (-s)).2 (ry (-s)).2 λc cl=>?_;obtain⟨p,hp,ep⟩:=Zh.mp we.x;obtain⟨q,hq,eq⟩:=Zh.mp we.y;have ep:p.1=x:=ep;have eq:q.1=y:=eq;subst ep eq;have k:=we.k;have nn:=h.snd c cl _ _ (rx s).2 (ry s).2 we.n;dsimp only at k;rw[lO tp hp,lO tp hq]at k nn⊢;exact cl.2 p.2 (Zh.mpr ⟨p,hp,rfl⟩) q.2 (Zh.mpr ⟨q,hq,rfl⟩) k s we.s nn
def QR{n:Nat}{ps:Ps}{H:Hp}{st:FS}(tp:Tp H ps)(ok:bq n (ps.map (·.1)) (bZ ps) st)(h:sH n (bZ ps) (λr s=>r∈ps.map (·.1)/\dI s) st)(w:st.W=[]):closed (ps.map (·.2)) st.l:=by
 intro a ha b hb k s hs e;obtain⟨p,hp,rfl⟩:=Zh.mp ha;obtain⟨q,hq,rfl⟩:=Zh.mp hb;have ad:mH n (bZ ps) st (λa=>st.l.getD a 0):=⟨λx y _ _ e=>e,λe he=>by rw[w]at he;cases he⟩;obtain⟨r1,e1,c1⟩:=h p.1 s ⟨Zh.mpr ⟨p,hp,rfl⟩,hs⟩;obtain⟨r2,e2,c2⟩:=h q.1 s ⟨Zh.mpr ⟨q,hq,rfl⟩,hs⟩;have d1:=c1 _ ad;have d2:=c2 _ ad;rw[lO tp hp]at e1 d1;rw[lO tp hq]at e2 d2;have:at_ st.l (My.mk p.2 s)=at_ st.l (My.mk q.2 s):=by unfold at_;rw[e]
 rw[this,k,e2]at e1;have:r2=r1:=V.ref.inj (Zg e1);rw[d1,d2,this]
inductive Fy(vs:List V)(H:Hp)(Q:VK)(aD:XK):Prop
 |mk (n:Nat) (lr ls:Addr) (ps st:Ps) (_:vs=[.int n,.ref lr,.ref ls]) (_:Tl H lr ps) (_:Tl H ls st) (_:(∀p∈ps,b8 n p.2)) (_:(∀p∈st,eP n p.2)) (_:n<=1000) (_:ps.length<=1000) (_:st.length<=1000) (_:∀(l:List Int) (p:Addr) (H':Hp),ax H' p l->dP n (ps.map (·.2)) st l->closed (ps.map (·.2)) l->aa H H'->Q (.ref p) H'):Fy vs H Q aD
def IC:Sp:=Fy
def bE(fi st:Int)(i:Nat):Int:=if i=0 then st else fi+i-1
def xF(fi st:Int)(i:Nat):bE fi st (i+1)=fi+i:=by
 unfold bE;rw[if_neg (by omega)];have:((i+1:Nat):Int)=i+1:=by omega
 omega
def rowAt(fi st:Int)(ns:List Int)(i:Nat):List Int:=
 if 0<ns.getD i 0 then [-1-(i:Int),bE fi st i,ns.getD i 0,fi+i]else [-1-(i:Int),fi+i, -ns.getD i 0,bE fi st i]
inductive Fz(K:PySem.W.Frag)(vs:List V)(H:Hp)(Q:VK)(aD:XK):Prop
 |mk (fi st:Int) (l:Addr) (ns:List Int) (_:vs=[.int fi,.int st,.ref l]) (_:ah K H l (ns.map V.int)) (_:ns.length<=1000) (_:NZ ns) (_:∀(p r:Addr) (ts:List Addr) (H':Hp),H p=none->H r=none->H' p=some (.tup [.ref r,.int (bE fi st ns.length)])->H' r=some (.lst (ts.map V.ref))->ts.length=ns.length->(∀j t,ts[j]?=some t->H' t=some (.tup ((rowAt fi st ns j).map V.int)))->aa H H'->Q (.ref p) H'):Fz K vs H Q aD
def ID(K:PySem.W.Frag):Sp:=Fz K
end My
namespace PySem.W
open PySem PySem.Spec PySem.Calls PyProof.Rows
section
variable {prog:Program}{w:World}{A:Around}{E:Value->Shared->Prop}{s:Shared}{K:Frag}{x C:Addr}{ox:Obj}
def ClsAt(C x:Addr)(h:Heap):Prop:=∃o,h.get? x=some o/\o.cls=.ref C
def ClsAt.ty{M:Model}{h:Heap}(I:ClsAt C x h):Looks M h (typeOf (.ref x)) (.ref C):=by
 obtain⟨o,h1,h2⟩:=I;exact h2▸(Looks.ld h1).andThen .now
end
end PySem.W
namespace L2
open PySem PySem.Spec PyProof.Rows
section
variable {P:Program}{w:World}{H H':Hp}{h h':Heap}{a:Addr}{o:HO}
def bY.has(x:bY P w H h a o):∃u,h.get? a=some u:=by
 cases o with
 |lst xs=>obtain⟨_,_,_,_,e⟩:=x;exact⟨_,e⟩
 |tup xs=>obtain⟨_,_,_,o,e,_⟩:=x;exact⟨_,e⟩
 |dK kvs=>obtain⟨_,_,_,_,o,_,_,e,_⟩:=x;exact⟨_,e⟩
 |dT kvs=>obtain⟨_,_,_,_,o,_,_,e,_⟩:=x;exact⟨_,e⟩
 |set S n=>obtain⟨o,_,_,_,e,_⟩:=x;exact⟨_,e⟩
 |ins C dx fs=>obtain⟨_,_,_,e,_⟩:=x;exact⟨_,e⟩
 |own y=>obtain⟨_,e⟩:=x;exact⟨_,e⟩
 |xd fs=>obtain⟨_,⟨_,_,_,e,_⟩,_⟩:=x;exact⟨_,e⟩
 |bP lo hi=>obtain⟨_,_,_,e⟩:=x;exact⟨_,e⟩
 |df ob u=>obtain⟨e,_⟩:=x;exact⟨_,e⟩
 |mw ps=>exact⟨_,(show h.get? a=some _ from x)⟩
 |met f y=>exact⟨_,(show h.get? a=some _ from x)⟩
 |ext φ=>obtain⟨_,⟨_,e⟩,_⟩:=x;exact⟨_,e⟩
def bw.only(x:bw P w H h)(k:∀b u,H b≠none->h.get? b=some u->h'.get? b=some u):bw P w H h':=λa o e=>
 (x a o e).iJ (λb u hb q=>k b u (by
  rcases hb with hb|hb
  ·rw[hb,e];exact λz=>nomatch z
  ·rw[hb];exact λz=>nomatch z) q) (λ_ q=>q) λ_ _ q=>q
end
def gp(B:Heap)(l:List Env)(e:Addr)(cls a0 fl:Value)(h:Heap):Prop:=B.StaysIn h/\B.get? e=none/\h.FunFrames B l/\h.TracedAtW B e cls a0 fl
def gp.cls{B:Heap}{l:List Env}{e:Addr}{cls a0 fl:Value}{h:Heap}(x:gp B l e cls a0 fl h):∃o vs,h.get? e=some o/\o.cls=cls/\o.data=.fields vs:=by
 obtain⟨_,_,_,oe,vs,_,_,_,he,hc,hd,_⟩:=x;exact⟨oe,vs,he,hc.1,hd⟩
section
variable {M:Model}{A:Around}{E:Value->Shared->Prop}{s:Shared}{B:Heap}{env:Env}{outer l:List Env}{L e:Addr}{cls a0 fl:Value}{Q:Unit->Shared->Prop}
def yV(dg:A.frames=some (env::outer))(hf:env.frame=some L)(h:gp B (env::outer) e cls a0 fl s.heap)
  (hQ:∀h',gp B (env::outer) e cls a0 (rawInt L) h'->s.heap.UpToSlots h'->Q () {s with heap:=h'}):wpAny M A (noteFrame (.ref e) env) Q E s:=by
 by_cases pZ:(fl==rawInt L)=true
 ·have:fl=rawInt L:=beq_iff_eq.mp pZ;subst this;exact wpAny_noteFrame_againW hf h.2.2.2 (hQ s.heap h (Heap.UpToSlots.refl _))
 obtain⟨f1,f2,f3,oe,vs,tb,otb,ts,he,⟨rO,h0⟩,hd,h1,uT,uU,oo,mh,h3⟩:=h;subst rO;have rest:∀b,b≠tb->(s.heap.update tb (Obj.mapFields (·.setIfInBounds 3 Value.none))).get? b=s.heap.get? b:=λb hb=>Heap.get?_update_other _ _ (Ne.symm hb)
 have rK:∀b o,s.heap.get? b=some o->(∀vs,o.data≠.fields vs)->b≠tb:=λb o hb iZ q=>by
  rw[q,oo]at hb;cases hb;exact iZ ts mh
 unfold noteFrame;simp only[hf];refine wpAny_bind (wpAny_field he hd h1 ?_);rw[if_pos (show(Value.ref tb !=Value.none)=true from by simp)];refine wpAny_bind (wpAny_field oo mh h3 ?_);rw[if_neg pZ];refine wpAny_bind (wpAny_setField oo mh (Array.getElem?_eq_some_iff.mp h3).1 ?_)
 refine wpAny_entryW dg (f3.of_keeps λb o hb iZ=>⟨o,(rest b (rK b o hb iZ)).trans hb,rfl⟩) hf ((rest e (Ne.symm uU)).trans he)
  (λb o oq=>(rest b λq=>by rw[q,uT]at oq;cases oq).trans (f1 b o oq)) f2 hd (Array.getElem?_eq_some_iff.mp h1).1 h0 λh' ⟨x1,x2,x3,x4⟩=>?_
 exact hQ h' ⟨x1,f2,x2,x3⟩ λb o hb iZ=>x4 b o ((rest b (rK b o hb iZ)).trans hb) iZ
def yW(h:gp B l e cls a0 fl s.heap)(hQ:∀h',gp B l e cls a0 .none h'->s.heap.UpToSlots h'->Q () {s with heap:=h'}):wpAny M A (setFlight (.ref e) none) Q E s:=
 wpAny_setFlight_noneW h.1 h.2.2.1 h.2.2.2 λh' k1 k2 k3 k4=>hQ h' ⟨k1,h.2.1,k2,k3⟩ λb o hb hn=>⟨o.slots,k4 b o hb hn⟩
def Ux(dg:A.frames=some (env::outer))(hf:env.frame=some L)(h:gp B (env::outer) e cls a0 fl s.heap)
  (hQ:∀h',gp B outer e cls a0 .none h'->s.heap.UpToSlots h'->Q () {s with heap:=h'}):wpAny M A (leaving env (.ref e)) Q E s:=by
 unfold leaving;refine wpAny_bind (yV dg hf h λh1 x1 u1=>?_);refine yW (s:={s with heap:=h1}) x1 λh2 x2 u2=>hQ h2 ⟨x2.1,x2.2.1,x2.2.2.1.2.2,x2.2.2.2⟩ (u1.trans u2)
def Yx{fo:Option Addr}(h:gp B l e cls a0 fl s.heap)(hQ:∀h',gp B l e cls a0 (fo.elim Value.none λf=>rawInt f) h'->s.heap.UpToSlots h'->Q () {s with heap:=h'}):wpAny M A (setFlight (.ref e) fo) Q E s:=by
 obtain⟨f1,f2,f3,oe,vs,tb,otb,ts,he,rO,hd,h1,uT,uU,oo,mh,h3⟩:=h;have three:3<ts.size:=(Array.getElem?_eq_some_iff.mp h3).1;have rest:∀b,b≠tb->(s.heap.update tb (Obj.mapFields (·.setIfInBounds 3 (fo.elim Value.none λf=>rawInt f)))).get? b=s.heap.get? b:=λb hb=>Heap.get?_update_other _ _ (Ne.symm hb)
 have rK:∀b o,s.heap.get? b=some o->(∀vs,o.data≠.fields vs)->b≠tb:=λb o hb iZ q=>by
  rw[q,oo]at hb;cases hb;exact iZ ts mh
 unfold setFlight;refine wpAny_bind (wpAny_field he hd h1 ?_);rw[if_pos (show(Value.ref tb !=Value.none)=true from by simp)];refine wpAny_setField oo mh three (hQ _ ⟨λb o oq=>(rest b λq=>by rw[q,uT]at oq;cases oq).trans (f1 b o oq),f2,f3.of_keeps λb o hb iZ=>⟨o,(rest b (rK b o hb iZ)).trans hb,rfl⟩,?_⟩ λb o hb iZ=>⟨o.slots,(rest b (rK b o hb iZ)).trans hb⟩);exact⟨oe,vs,tb,_,_,(rest e (Ne.symm uU)).trans he,rO,hd,h1,uT,uU,Heap.get?_update_self _ oo (Obj.isFreed_of_fields (Obj.data_mapFields mh _)),Obj.data_mapFields mh _,by simp[three]⟩
end
structure mj(B:Heap)(fs ex:List Addr)(H H':Hp)(h h':Heap):Prop where
 a1:∀b o,H' b≠none->h'.get? b=some o->B.get? b=some o
 a2:∀b o,h.get? b=some o->H b=none->b∉fs->b∉ex->B.get? b=some o
 a3:∀b o,h.get? b=some o->b∉fs->b∉ex->∃o',B.get? b=some o'
section
variable {P:Program}{w:World}{B h h1 h2:Heap}{fs ex:List Addr}{H H':Hp}
def Ag(u:Un fs ex H H' h h1)(k:mj B fs ex H H' h h1)(hB:B.StaysIn h2)(up:h1.UpToSlots h2)(fr:∀b∈fs,∀o,h1.get? b=some o->∀vs,o.data≠.fields vs):Un fs ex H H' h h2 where
 keep:=λb o q n hb he=>hB _ _ (k.a2 b o q n hb he)
 slot:=λb o q n hb he=>by
  obtain⟨sl,e⟩:=u.slot b o q n hb he;obtain⟨vb,e'⟩:=up b _ e (fr b hb _ e);exact⟨vb,e'⟩
 free:=u.free
 there:=λb o q he=>by
  by_cases hb:b∈fs
  ·obtain⟨o',e⟩:=u.there b o q he;obtain⟨vb,e'⟩:=up b _ e (fr b hb _ e);exact⟨_,e'⟩
  ·obtain⟨o',e⟩:=k.a3 b o q hb he;exact⟨o',hB _ _ e⟩
 gc:=u.gc
 fF:=u.fF
 gd:=u.gd
def ui(ao:bw P w H' h1)(k:mj B fs ex H H' h h1)(hB:B.StaysIn h2):mj B fs ex H H' h h2/\bw P w H' h2:=by
 refine⟨⟨λb o n q=>?_,k.a2,k.a3⟩,ao.only λb u n q=>hB _ _ (k.a1 b u n q)⟩;cases e:H' b with
 |none=>exact absurd e n
 |some x=>
  obtain⟨u,hu⟩:=(ao b x e).has;have:=k.a1 b u n hu;have z:=hB _ _ this;rw[q]at z;cases z;exact this
end
structure Fly(P:Program)(w:World)(l:List Env)(H H':Hp)(h:Heap)(ea:Addr)(cls:Value)(h':Heap):Prop where
 ex:∃B a0,gp B l ea cls a0 .none h'/\mj B (bT l) [] H H' h h'
 un:Un (bT l) [] H H' h h'
 ao:bw P w H' h'
def bH(P:Program)(w:World):iQ:=λl H s E e s'=>∃ea cls H',e=.ref ea/\s'.os=s.os/\AllBare s'.gens/\Fly P w l H H' s.heap ea cls s'.heap/\E cls none H'
def p9(X:Cx)(pins:List (Addr×Obj))(σ:St)(E:XK)(e:Value)(s':Shared):Prop:=∃ea cls H' B a0 fl,e=.ref ea/\Inv X pins σ H' s'/\gp B X.stack ea cls a0 fl s'.heap/\
 mj B X.fs X.ex X.H₀ H' X.s₀.heap s'.heap/\(∀p∈X.pn++pins,B.get? p.1=some p.2)/\E cls none H'
section
variable {X:Cx}{pins:List (Addr×Obj)}{σ:St}{H H':Hp}{s s':Shared}{B h2:Heap}
def Inv.up(I:Inv X pins σ H s)(k:mj B X.fs X.ex X.H₀ H X.s₀.heap s.heap)(hp:∀p∈X.pn++pins,B.get? p.1=some p.2)(hB:B.StaysIn h2)(up:s.heap.UpToSlots h2):Inv X pins σ H {s with heap:=h2}:=by
 have ic:∀c v,s.heap.IsCell c v->h2.IsCell c v:=λc v ⟨o,e,d⟩=>by
  obtain⟨sl,e'⟩:=up c o e λvs z=>by rw[d]at z;cases z
  exact⟨_,e',d⟩
 obtain⟨m,hn,hl⟩:=I.loc;refine⟨I.ok,I.os,I.bare,Ag I.base k hB up λb hb o e=>?_,⟨m,up.ns hn,λi x v e1 e2 e3=>?_⟩,λx c e=>?_,I.free,I.dW,λp j6=>?_,(ui I.ao k hB).2,I.len⟩
 ·obtain⟨_,o',e',d⟩:=I.gj.mem hb;rw[e]at e';cases e';exact d
 ·obtain⟨u,r,lk⟩:=hl i x v e1 e2 e3;refine⟨u,r,?_⟩;rcases lk with lk|⟨q,c,e,z⟩
  ·exact .inl lk
  ·exact .inr ⟨q,c,e,ic _ _ z⟩
 ·obtain⟨v,z⟩:=I.cell x c e;exact⟨v,ic _ _ z⟩
 ·exact⟨hB _ _ (hp p j6),(I.pin p j6).2⟩
def Inv.uw(I:Inv X pins σ H s){b:Addr}{o:Obj}(e:X.s₀.heap.get? b=some o)(h:b∉X.fs):b∉bT X.stack:=λz=>by
 rcases Y5.mp (I.ku b z)with q|q
 ·exact absurd (Zv (Zi e) I.ok.above) (by rw[q];exact Z2 _)
 ·exact h q
def Inv.flew{E:XK}{e:Value}(I:Inv X pins σ H s)(h:bH X.prog X.w X.stack H s E e s'):p9 X pins σ E e s':=by
 obtain⟨ea,cls,H',rfl,os,bare,F,hE⟩:=h;obtain⟨B,a0,fl,k⟩:=F.ex;refine⟨ea,cls,H',B,a0,.none,rfl,I.nI os F.un F.ao bare (λb z=>absurd z (by simp)),fl,⟨k.a1,λb o e n hb hx=>?_,λb o e hb hx=>?_⟩,λp hp=>?_,hE⟩
 ·exact k.a2 b o (I.base.keep b o e n hb hx) (I.base.free b o e n hx) (I.uw e hb) (by simp)
 ·obtain⟨o',e'⟩:=I.base.there b o e hx;exact k.a3 b o' e' (I.uw e hb) (by simp)
 ·obtain⟨h1,h2,h3,h4,_⟩:=I.pin p hp;refine k.a2 p.1 p.2 h1 h2 (λz=>?_) (by simp);rcases Y5.mp (I.ku _ z)with q|q
  ·exact h3 q
  ·exact h4 q
end
def PX(X:Cx)(e:Expr)(t:XK->TE):Prop:=
 ∀(pins:List (Addr×Obj)) (s:Shared) (σ:St) (H:Hp) (Q:VK) (E:XK),Inv X pins σ H s->t E σ H Q->wpAny (model X.prog X.w) X.A (eval e X.env) (EP X pins σ Q) (p9 X pins σ E) s
section
variable {X:Cx}{k:Nat}{f C:Addr}{fd:FuncData}{ps:List Str}{sp:Sp}{b4:List V}{ds:List Value}{x m:Str}{p pos apos:Pos}{e o:Expr}{es:List Expr}{ta:TE}{t:TA}
def WK{pins:List (Addr×Obj)}{σ:St}{H:Hp}{s:Shared}{Q:VK}{E:XK}{us:List Value}{vs:List V}(F:aA X.prog X.w X.K X.mg X.base (bH X.prog X.w) k f fd ps sp)(hr:bG k X.A)(hb:Binds X.K fd ps ds)(hd:Vals b4 ds)
  (I:Inv X pins σ H s)(r:Vals vs us)(h:sp (vs++b4) H Q E):wpAny (model X.prog X.w) X.A (call (.ref f) us) (EP X pins σ Q) (p9 X pins σ E) s:=by
 have r2:Vals (vs++b4) (us++ds):=r.append hd;have hl:(us++ds).length=ps.length:=by rw[<-r2.length];exact F.len _ _ _ _ h
 refine wpAny_call (codeAny_mono (F.run X.A X.stack s H ⟨us,[]⟩ (us++ds) (vs++b4) Q E hr I.AB (hb s us I.eX hl) r2 h) λr s' hq=>?_);cases r with
 |error e=>exact I.flew hq
 |ok fl=>
  cases fl with
  |ret u=>exact I.after hq
  |next=>exact Zu hq
  |brk=>exact Zu hq
  |cont=>exact Zu hq
end
def eC(X:Cx)(E:XK)(e:Value)(s':Shared):Prop:=(∃pins σ,p9 X pins σ E e s')\/
 ∃pins σ H h C ea args,e=.ref ea/\Inv X pins σ H {s' with heap:=h}/\Heap.MadeExcOf h s'.heap ea (.ref C) args/\E (.ref C) none H
section
variable {P:Program}{w:World}{K:PySem.W.Frag}{mg:Str->Option Value}{base:Heap}
def Inv.GO{X:Cx}{pins:List (Addr×Obj)}{σ:St}{H:Hp}{s:Shared}(I:Inv X pins σ H s):∀b∈X.fs,∀o,s.heap.get? b=some o->∀vs,o.data≠.fields vs:=λb hb o e=>by
 obtain⟨_,o',e',d⟩:=I.gj.mem hb;rw[e]at e';cases e';exact d
def Inv.hold{X:Cx}{pins:List (Addr×Obj)}{σ:St}{H:Hp}{s:Shared}(I:Inv X pins σ H s):mj (PySem.W.hideAll s.heap (bT X.stack)) X.fs X.ex X.H₀ H X.s₀.heap s.heap where
 a1:=λb o n e=>PySem.W.hideAll_get _ e λz=>n (I.o6 b z)
 a2:=λb o e n hb hx=>PySem.W.hideAll_get _ (I.base.keep b o e n hb hx) (I.uw e hb)
 a3:=λb o e hb hx=>by
  obtain⟨o',e'⟩:=I.base.there b o e hx;exact⟨o',PySem.W.hideAll_get _ e' (I.uw e hb)⟩
def eC.out{N:List Str}{qual:Str}{scope:Scope}{f:Addr}{cd:Value}{A:Around}{outer:List Env}{s:Shared}{H:Hp}{E:XK}{e:Value}{s':Shared}(h:eC (fG (bH P w) P w K mg base N qual scope f cd A outer s H E) E e s'):
  (fG (bH P w) P w K mg base N qual scope f cd A outer s H E).xe e s':=by
 rcases h with⟨pins,σ,ea,cls,H',B,a0,fl,rfl,I,F,k,_,hE⟩|⟨pins,σ,H',h,C,ea,args,rfl,I,hx,hE⟩
 ·refine Ux (L:=s.heap.objs.size) I.ok.frames rfl F λh' F' up=>?_;obtain⟨k',rR⟩:=ui I.ao k F'.1;exact⟨ea,cls,H',rfl,I.os,I.bare,⟨⟨B,a0,F',k'⟩,Ag I.base k F'.1 up I.GO,rR⟩,hE⟩
 ·refine wpAny_leaves_madeW (base:=PySem.W.hideAll h (bT (fG (bH P w) P w K mg base N qual scope f cd A outer s H E).stack)) (L:=s.heap.objs.size) (h:=h) I.ok.frames rfl (λb o q=>PySem.W.of_hideAll _ q)
   (PySem.W.funFrames_hide I.stack λenv he a hf=>List.mem_filterMap.mpr ⟨env,he,hf⟩) hx λh' t F' _ _ up=>?_
  have k:=I.hold;obtain⟨k',rR⟩:=ui I.ao k F'.1;have up':h.UpToSlots h':=(Heap.UpToSlots.of_keeps hx.keeps).trans up;exact⟨ea,.ref C,H',rfl,I.os,I.bare,⟨⟨_,_,F',k'⟩,Ag I.base k F'.1 up' I.GO,rR⟩,hE⟩
def aH.fh{x qual:Str}{st:Stmt}{f:Addr}{fd:FuncData}{N ps:List Str}{k:Nat}{sp:Sp}(F:aH K x qual st f fd)(S:aM N ps (aF st))(len:∀vs H Q E,sp vs H Q E->vs.length=ps.length)
  (rE:∀(au:Value) (A:Around) (outer:List Env) (s:Shared) (H:Hp) (vs:List V) (Q:VK) (E:XK),bG k (A.deeper (envOfC qual (aF st) s.heap.objs.size f au))->sp vs H Q E->
   ∃t,cW ((fG (bH P w) P w K mg base N qual (aF st) f au A outer s H E).cp (eC (fG (bH P w) P w K mg base N qual (aF st) f au A outer s H E) E)) (eK st) t/\t {nx:=λ_ H'=>Q .aE H',rt:=Q} (start N vs) H):aA P w K mg base (bH P w) (k+1) f fd ps sp:=by
 obtain⟨oc,od,kV,doc,pm,an,au,ct,jx,rfl,lk,b5⟩:=F.ex;refine KH lk b5 S len λA outer s H vs Q E hr jY=>?_;obtain⟨t,h,q⟩:=rE au A outer s H vs Q E hr jY;exact⟨t,λpins s1 σ1 H1 D I hw=>wpAny_mono (h pins s1 σ1 H1 D (I.cp _) hw) (λ_ _ q=>q.fC) λ_ _ z=>eC.out z,q⟩
end
abbrev eS:List Value:=[.type "ValueError",.type "Exception",.type "BaseException",.type "object"]
def VeP(K:PySem.W.Frag)(C:Addr):Prop:=∃(dd:Option Addr) (nm qn:Str) (bs sub:List Value) (B ns:Addr) (hd ab:Bool) (sn:List Str) (col:Option Bool) (k0 k1 k2 k3 k5:Option Value),
 K.lookup C=some ⟨.type "type",dd,.cls ⟨nm,bs,.ref C::.ref B::eS,ns,qn,hd,sn,sub,ab,col,false⟩, #[k0,k1,k2,k3,some (.builtin "ValueError.__new__"),k5]⟩/\PySem.W.nsOkIn K ns=true/\PySem.W.nsIn K ns "__init__"=some none/\PySem.W.tailIn K eS (.ref B::eS)=true
noncomputable def dB(K:PySem.W.Frag)(C:Addr):Bool:=@decide (VeP K C) (Classical.propDecidable _)
def WL{K:PySem.W.Frag}{h:Heap}{C:Addr}(X:K.In h)(q:dB K C=true):∃bm N nm qn bs hdct sn sub ab col dd k0 k1 k2 k3 k5 mN,h.get? C=some (excClassObj nm qn C N bs bm hdct sn sub ab col dd k0 k1 k2 k3 k5 "ValueError.__new__")/\h.Ns N mN/\mN "__init__"=none/\OwnTail h eS bm:=by
 obtain⟨dd,nm,qn,bs,sub,B,ns,hd,ab,sn,col,k0,k1,k2,k3,k5,ho,ao,Bm,ht⟩:=@of_decide_eq_true _ (Classical.propDecidable _) q;exact⟨.ref B::eS,ns,nm,qn,bs,hd,sn,sub,ab,col,dd,k0,k1,k2,k3,k5,_,X _ _ ho,.of_isNs (PySem.W.isNs_of_in X ao),PySem.W.nsMap_none_of_in X ao Bm,PySem.W.tail_of_in X ht⟩
def Yy(C:Addr)(E:XK)(ta:TA):TS:=λ_ σ H=>ta σ H λvs H1=>vs.length<=sizeLine/\E (.ref C) none H1
def jK{X:Cx}{E:XK}{C:Addr}{x:Str}{np cc pos:Pos}{e:Expr}{es:List Expr}{ta:TA}(hc:X.calm=true)(hg:Gl X x)(hm:X.mg x=some (.ref C))(q:dB X.K C=true)(ha:PA X.gu (e::es) ta)
  (eZ:(x==("__debug__":Str))=false:=by decide)(he:starEach (e::es) X.env=(false,eval e X.env)::starEach es X.env:=by rfl)(bL:(backTo cc (starEach es X.env)).any (·.1)=false:=by rfl):
  PS (X.cp (eC X E)) (.Raise (some (.Call (.Name x np) (e::es) [] cc)) none pos) (Yy C E ta):=by
 intro pins s σ H D I h;have I0:=I.fC;obtain⟨bm,N,nm,qn,bs,hdct,sn,sub,ab,col,dd,k0,k1,k2,k3,k5,mN,hC,hN,Bm,T⟩:=WL I0.mod.nV q
 refine wpAny_Raise_call_subT (C:=C) (nm:=nm) (q:=qn) (N:=N) (bs:=bs) (bm:=bm) (hdct:=hdct) (sn:=sn) (sub:=sub) (ab:=ab) (col:=col) (dd:=dd) (k0:=k0) (k1:=k1) (k2:=k2) (k3:=k3) (k5:=k5)
  F.excBase_ValueError (mN:=mN) (T.hasType (by decide+kernel)) (I0.ok.hd hc) (by rw[he];show(false||(backTo cc (starEach es X.env)).any (·.1))=false;rw[bL];rfl) Bm (qN I hg hm ⟨rfl,?_⟩ eZ)
 have z:=ha cc pins s σ H _ (I0.cp _) h;show wpAny _ _ (evalArgs (.ref C) true (backTo cc (starEach (e::es) X.env)) []) _ _ _;rw[he]at z⊢;refine Calls.evalArgs_plain (wpAny_mono z (λvs s2 ⟨ws,H1,I1,r,hl,hE⟩=>?_) λ_ _ z=>Zu z);have I1:=I1.fC;exact⟨rfl,by rw[<-r.length];exact hl,I1.bk _ _ hC,hN.keeps I1.bk,T.keeps I1.bk,λh' ea hx=>.inr ⟨pins,σ,H1,s2.heap,C,ea,vs,rfl,I1,hx,hE⟩⟩
def Cx.nF(X:Cx)(ea:Addr):Cx:={X with A:=X.A.mark (some (.ref ea)),calm:=false,xe:=λ_ _=>False}
section
variable {X:Cx}{pins:List (Addr×Obj)}{σ:St}{H:Hp}{s:Shared}{ea:Addr}
def Inv.nF(I:Inv X pins σ H s):Inv (X.nF ea) pins σ H s:=
 ⟨⟨I.ok.mod,I.ok.kind,I.ok.glob,I.ok.blt,I.ok.above,I.ok.inj,I.ok.has,I.ok.cab,(λz=>nomatch(show false=true from z)),I.ok.frames,I.ok.rX,I.ok.A2,I.ok.bs,I.ok.iP,I.ok.kE,I.ok.rN,I.ok.gj,I.ok.mz⟩,I.os,I.bare,I.base,I.loc,I.cell,I.free,I.dW,I.pin,I.ao,I.len⟩
def Inv.uncaught(ok:X.Ok)(I:Inv (X.nF ea) pins σ H s):Inv X pins σ H s:=⟨ok,I.os,I.bare,I.base,I.loc,I.cell,I.free,I.dW,I.pin,I.ao,I.len⟩
end
section
variable {X:Cx}
end
structure qa(P:Program)(w:World)(K:PySem.W.Frag)(mg:Str->Option Value)(base:Heap)(x:Str)(ps:List Str)(k:Nat)(sp:Sp) where
 f:Addr
 fd:FuncData
 ok:aA P w K mg base (bH P w) k f fd ps sp
 pR:mg x=some (.ref f)
 kp:PySem.W.keepIn K (.ref f)=true
 bd:Binds K fd ps []
def kz(e:DictEntry):Bool:=match e.key with
 |.str _ _=>true
 |_=>false
def gB{K:PySem.W.Frag}{N:Addr}{c:Value}{d:Option Addr}{es:Array DictEntry}{n:Nat}{sl:Array (Option Value)}(l:K.lookup N=some ⟨c,d,.dict es n,sl⟩)(h:es.toList.all kz=true):PySem.W.nsOkIn K N=true:=by
 unfold PySem.W.nsOkIn;rw[l];rw[Array.all_toList]at h;exact h
def m9{K:PySem.W.Frag}{C B ns:Addr}{dd od:Option Addr}{nm qn:Str}{bs sub:List Value}{hd ab:Bool}{sn:List Str}{col:Option Bool}{k0 k1 k2 k3 k5:Option Value}{oc:Value}{Bn:ClassData}{jx:Array (Option Value)}
  (l:K.lookup C=some ⟨.type "type",dd,.cls ⟨nm,bs,.ref C::.ref B::eS,ns,qn,hd,sn,sub,ab,col,false⟩, #[k0,k1,k2,k3,some (.builtin "ValueError.__new__"),k5]⟩)(n1:PySem.W.nsOkIn K ns=true)(n2:PySem.W.nsIn K ns "__init__"=some none)
  (l2:K.lookup B=some ⟨oc,od,.cls Bn,jx⟩)(n3:PySem.W.nsOkIn K Bn.ns=true)(n4:PySem.W.nsIn K Bn.ns "__init__"=some none):dB K C=true:=by
 have t:PySem.W.tailIn K eS (.ref B::eS)=true:=by
  unfold PySem.W.tailIn;dsimp only;rw[l2];dsimp only;rw[n3,n4]
  have:PySem.W.tailIn K eS eS=true:=by
   unfold PySem.W.tailIn;rw[beq_self_eq_true]
   rfl
  rw[this,Bool.or_eq_true];exact .inr rfl
 exact@ZN _ (Classical.propDecidable _) ⟨dd,nm,qn,bs,sub,B,ns,hd,ab,sn,col,k0,k1,k2,k3,k5,l,n1,n2,t⟩
def Ah{X:Cx}{E:XK}:Passes (bH X.prog X.w) (X.cp (eC X E)) E:=λpins σ _ _ _ _ I h=>.inl ⟨pins,σ,I.fC.flew h⟩
def FC{X:Cx}{E:XK}{L:Addr}(bz:X.stack=X.env::X.outer)(dg:X.env.frame=some L):PassesOwn (model X.prog X.w) X.A X.env (eC X E):=by
 intro ev s' h
 have fin:∀(pins:List (Addr×Obj)) (σ:St) (H':Hp) (ea:Addr) (cls a0:Value) (B:Heap) (s1:Shared) (h2:Heap),Inv X pins σ H' s1->mj B X.fs X.ex X.H₀ H' X.s₀.heap s1.heap->(∀p∈X.pn++pins,B.get? p.1=some p.2)->gp B (X.env::X.outer) ea cls a0 (rawInt L) h2->s1.heap.UpToSlots h2->E cls none H'->
   cameBackBy (model X.prog X.w) X.A X.env (eC X E) (.ref ea) {s1 with heap:=h2}:=by
  intro pins σ H' ea cls a0 B s1 h2 I k kp F2 up hE;unfold cameBackBy;obtain⟨_,_,_,oe,vs,T,oT,ts,he,_,hd,h1,_⟩:=id F2;refine wpAny_bind (wpAny_field (s:={s1 with heap:=h2}) he hd h1 ?_);rw[if_neg (by simp)];refine Yx (s:={s1 with heap:=h2}) F2 λh3 F3 vy=>?_;exact .inl ⟨pins,σ,ea,cls,H',B,a0,_,rfl,I.up k kp F3.1 (up.trans vy),by rw[bz];exact F3,(ui I.ao k F3.1).1,kp,hE⟩
 rcases h with⟨pins,σ,ea,cls,H',B,a0,fl,rfl,I,F,k,kp,hE⟩|⟨pins,σ,H',h,C,ea,args,rfl,I,hx,hE⟩
 ·have kX:X.A.frames=some (X.env::X.outer):=by rw[<-bz];exact I.ok.frames
  have F':gp B (X.env::X.outer) ea cls a0 fl s'.heap:=by rw[<-bz];exact F
  refine yV kX dg F' λh2 F2 vz=>?_;exact fin pins σ H' ea cls a0 B s' h2 I k kp F2 vz hE
 ·have kX:X.A.frames=some (X.env::X.outer):=by rw[<-bz];exact I.ok.frames
  obtain⟨t,he,_,_⟩:=hx.there;have st:(PySem.W.hideAll h (bT X.stack)).StaysIn s'.heap:=λb o q=>hx.keeps b o (PySem.W.of_hideAll _ q)
  have en:(PySem.W.hideAll h (bT X.stack)).get? ea=none:=by
   cases z:(PySem.W.hideAll h (bT X.stack)).get? ea with
   |none=>rfl
   |some o=>have:=PySem.W.of_hideAll _ z;rw[hx.new]at this;cases this
  have ff:s'.heap.FunFrames (PySem.W.hideAll h (bT X.stack)) (X.env::X.outer):=by
   rw[<-bz];exact(PySem.W.funFrames_hide I.stack λenv he a hf=>List.mem_filterMap.mpr ⟨env,he,hf⟩).of_keeps λb o hb _=>⟨o,hx.keeps b o hb,rfl⟩
  have kp:∀p∈X.pn++pins,(PySem.W.hideAll h (bT X.stack)).get? p.1=some p.2:=λp hp=>by
   obtain⟨h1,h2,h3,h4,_⟩:=I.pin p hp;refine PySem.W.hideAll_get _ h1 λz=>?_;rcases Y5.mp (I.ku _ z)with q|q
   ·exact h3 q
   ·exact h4 q
  unfold notedBy noteFrame;simp only[dg];refine wpAny_bind (wpAny_field (x:=.none) he rfl rfl ?_);rw[if_neg (by decide)];refine wpAny_entryW (a0:=.ref t) kX ff dg he st en rfl (show 1<6 by decide) rfl λh2 ⟨x1,x2,x3,x4⟩=>?_;exact fin pins σ H' ea (.ref C) (.ref t) _ {s' with heap:=h} h2 I I.hold kp ⟨x1,en,x2,x3⟩ ((Heap.UpToSlots.of_keeps hx.keeps).trans x4) hE
section
variable {X:Cx}{k:Nat}{f C:Addr}{fd:FuncData}{ps:List Str}{sp:Sp}{b4:List V}{ds:List Value}{x m:Str}{p pos apos:Pos}{e o:Expr}{es:List Expr}{ta:TE}{t:TA}
def WM{pl:Sem Bool}(he:PE X.gu o ta)(c:dM X.K C)(hm:Meth X.K C m f)(F:aA X.prog X.w X.K X.mg X.base (bH X.prog X.w) k f fd ps sp)(hr:bG k X.A)(hb:Binds X.K fd ps ds)(hd:Vals b4 ds)(ha:PA X.gu (e::es) t)
  (bz:starEach (e::es) X.env=(false,eval e X.env)::starEach es X.env:=by rfl)(bL:(backTo pos (starEach es X.env)).any (·.1)=false:=by rfl)
  (ht:eval (.Call (.Attribute o m apos) (e::es) [] pos) X.env=(do
   let ov<-eval o X.env
   standAt apos.atName
   let(f,first)<-holding [ov] (getMethod ov m pl)
   callWith pos f first (backTo pos (starEach (e::es) X.env)) (backToKw pos (keywordEach [] X.env))):=by rfl):
  PX X (.Call (.Attribute o m apos) (e::es) [] pos) (λE=>ji C m sp b4 E ta t):=by
 intro pins s σ H Q E I h;refine PySem.W.methodCall_KW (pl:=pl) (wpAny_mono (he pins s σ H _ (I.cp _) h) (λu s1 ⟨x,H1,I1,rx,a,dx,fs,ex,ea,l,q⟩=>?_) λ_ _ z=>Zu z) ht;subst ex;obtain rfl:u=Value.ref a:=rx;have I1:=I1.fC;refine xM I1 ea c hm l ?_;refine PySem.W.callWith_K (first:=[.ref a]) (h₀:=X.base) I.ok.mod.nV hm.kp (wpAny_mono (ha pos pins s1 σ H1 _ (I1.cp _) q) (λus s2 ⟨vs,H2,I2,r,q2⟩=>⟨I2.fC.eX,?_⟩) λ_ _ z=>Zu z) bz bL;exact WK (us:=.ref a::us) (vs:=.ref a::vs) F hr hb hd I2.fC (.cons rfl r) q2
end
def qc(X:Cx)(st:Stmt)(t:XK->TS):Prop:=
 ∀(pins:List (Addr×Obj)) (s:Shared) (σ:St) (H:Hp) (D:Ends) (E:XK),Inv X pins σ H s->t E D σ H->wpAny (model X.prog X.w) X.A (exec st X.env) (SP X pins D) (p9 X pins σ E) s
def aaW(i:Nat)(te:XK->TE)(E:XK):TS:=λD σ H=>te E σ H λv H1=>D.nx (σ.set i (some v)) H1
def IE{X:Cx}{i:Nat}{x:Str}{e:Expr}{te:XK->TE}{px pa:Pos}(hN:X.N.Nodup)(hi:X.N[i]?=some x)(hx:Loc X.env.scope x)(he:PX X e te)(hs:swapsWith e (some (.Name x px)) pa.line X.env=pure false:=by rfl)(rZ:∀x,X.fn x=true:=by intro _;rfl):
  qc X (.Assign [.Name x px] e pa) (aaW i te):=by
 intro pins s σ H D E I h;refine wpAny_Assign_Name (wpAny_mono (he pins s σ H _ _ I h) (λv s1 ⟨y,H1,I1,r1,q1⟩=>?_) (λev s1 pZ=>pZ)) hs;exact lK I1 hN hi hx r1 (λs2 I2=>⟨_,H1,I2,q1⟩) (.inl (rZ x))
def Yz{X:Cx}{c:Expr}{a b:Stmt}{tc:TT}{ta tb:XK->TS}{pos:Pos}(hc:PT X.gu c tc)(ha:qc X a ta)(hb:qc X b tb):qc X (.If c [a] [b] pos) (λE=>Lm tc (ta E) (tb E)):=by
 intro pins s σ H D E I h;refine wpAny_If (wpAny_mono (hc pins s σ H _ (I.cp _) h) (λd s1 ⟨H1,I1,q1⟩=>?_) λ_ _ z=>Zu z);have I1:=I1.fC
 have fin:∀{st:Stmt}{t:XK->TS},qc X st t->t E D σ H1->wpAny (model X.prog X.w) X.A (execs [st] X.env) (SP X pins D) (p9 X pins σ E) s1:=λhp q=>by
  refine wpAny_execs_cons (az (hp pins s1 σ H1 D E I1 q) λf s1 q=>?_);cases f with
  |next=>exact wpAny_execs_nil q
  |ret v=>exact q
  |brk=>exact q
  |cont=>exact q
 cases d with
 |true=>exact fin ha q1
 |false=>exact fin hb q1
def uJ(K:PySem.W.Frag)(Ce:Addr)(tb:XK->TS)(ts:TS):TS:=λD σ H=>
 tb (λcls _ H'=>∃C,cls=.ref C/\PySem.W.exmOne K (.ref C) (.ref Ce)=some true/\ts D σ H') D σ H
def WN{X:Cx}{cx:Str}{b:Stmt}{tb:XK->TS}{ts:TS}{b₀:Stmt}{KQ:List Stmt}{Ce:Addr}{np hp pos:Pos}
  (hb:qc X b tb)(hg:Gl X cx)(hm:X.mg cx=some (.ref Ce))(hsu:∀ea,cW (X.nF ea) (b₀::KQ) ts)
  (eZ:(cx==("__debug__":Str))=false:=by decide)(bz:X.stack=X.env::X.outer:=by rfl)(dg:X.env.frame=some X.env.locals:=by rfl):
  PS X (.Try [b] [.ExceptHandler (some (.Name cx np)) none (b₀::KQ) hp] [] [] pos) (uJ X.K Ce tb ts):=by
 intro pins s σ H D I h;refine wpAny_Try_except (wpAny_execs_cons (wpAny_mono (hb pins s σ H D _ I h) (λf s1 q=>?_) (λev s1 pZ=>?_)))
 ·cases f with
  |next=>exact wpAny_execs_nil (wpAny_execs_nil q)
  |ret v=>exact q
  |brk=>exact q
  |cont=>exact q
 obtain⟨ea,cls,H',B,a0,fl,rfl,I1,F1,k1,kp,C,rfl,abZ,hE⟩:=pZ;have kX:X.A.frames=some (X.env::X.outer):=by rw[<-bz];exact I.ok.frames
 have F1':gp B (X.env::X.outer) ea (.ref C) a0 fl s1.heap:=by rw[<-bz];exact F1
 refine yV kX dg F1' λh2 F2 vz=>?_;refine yW (s:={s1 with heap:=h2}) F2 λh3 F3 vy=>?_;have I3:=I1.up k1 kp F3.1 (vz.trans vy);obtain⟨oe,vs,g1,g2,g3⟩:=F3.cls;have LT:PySem.W.Looks (model X.prog X.w) h3 (typeOf (.ref ea)) (.ref C):=PySem.W.ClsAt.ty ⟨oe,g1,g2⟩;refine wpAny_handleBy_cons (codeAny_handlers_test ?_) (by intro q;cases q);refine qN (X:=X.nF ea) (I3.nF (ea:=ea)) hg hm ?_ eZ;refine(PySem.W.exm_one (M:=model X.prog X.w) I3.eX LT abZ).at ?_;refine codeAny_handlers_suite ?_;refine yW (s:={s1 with heap:=h3}) F3 λh4 F4 up4=>?_;have I4:=I1.up k1 kp F4.1 ((vz.trans vy).trans up4);refine wpAny_mono (hsu ea pins _ σ H' D (I4.nF (ea:=ea)) hE) (λf s7 q=>?_) λ_ _ z=>Zu z;cases f with
 |next=>obtain⟨σ',H7,I7,q⟩:=q;exact⟨_,_,I7.uncaught I.ok,q⟩
 |brk=>obtain⟨σ',H7,I7,q⟩:=q;exact⟨_,_,I7.uncaught I.ok,q⟩
 |cont=>obtain⟨σ',H7,I7,q⟩:=q;exact⟨_,_,I7.uncaught I.ok,q⟩
 |ret u=>obtain⟨v,σ',H7,I7,r,q⟩:=q;exact⟨v,_,_,I7.uncaught I.ok,r,q⟩
section
variable {X:Cx}{e:Expr}{te:TE}{pos:Pos}
def GP{x:Str}{px:Pos}{elt iter:Expr}{scope:Scope}{cl:List (Str×Addr)}{wi:TI}(fr:List Str)(ix:List Nat)
  (hi:PI X (.Name x px) iter wi)(he:∀C s H fp,PE (X.AQ (x::fr) scope cl x C s H fp) elt te)
  (aZ:∀y c,cl.lookup y=some c->X.env.cells.lookup y=some c)
  (jr:closureFor scope X.env=pure cl:=by rfl)(hc:X.calm=true:=by rfl)(dX:scope.kind=.function:=by rfl)(zG:∀n,cellsFrom n scope.names cl=(x,n)::cl:=by intro _;rfl)
  (Af:∀h:Heap,pushCells h scope.names=h.push {cls:=.type "cell",data:=.cell none}:=by intro _;rfl)(AR:cl.lookup x=none:=by rfl)
  (jf:(scope.names.all λp=>p.2 != .local||scope.names.lookup p.1==some .local)=true:=by rfl)(hx:(relabel scope X.env).names.lookup x=some .cell:=by rfl)
  (hN:(x::fr).Nodup:=by decide+kernel)(iV:ix.map (λi=>X.N[i]?)=fr.map some:=by rfl)
  (dg:(fr.all λy=>X.env.kindOf y==some .cell&&(relabel scope X.env).names.lookup y==some .cell)=true:=by rfl)
  (g5:((relabel scope X.env).names.all λp=>(p.2 != .cell&&p.2 != .free)||(p.1==x||(cl.lookup p.1).isSome))=true:=by rfl)
  (hs:∀x,foldedSetIterable iter X.env x=pure x:=by intro _;rfl):
  PE X (.ListComp elt [⟨.Name x px,iter,[],0⟩] scope pos) (rB wi ix te):=by
 refine R5 hc hi jr dX zG Af AR (λy hy e=>?_) hx hN iV (λy hy=>?_) aZ (λy hy=>?_) he hs
 ·have:=ZC.mp jf y hy;rw[e]at this;simpa using this
 ·have:=ZC.mp dg y hy;rw[Bool.and_eq_true]at this;exact⟨eq_of_beq this.1,eq_of_beq this.2⟩
 ·have:∃k,(relabel scope X.env).names.lookup y=some k/\(k=.cell\/k=.free):=by
   rcases hy with h|h
   ·exact⟨_,h,.inl rfl⟩
   ·exact⟨_,h,.inr rfl⟩
  obtain⟨k,e,hk⟩:=this;have:=ZC.mp g5 (y,k) (ZM e)
  have h2:(y==x||(cl.lookup y).isSome)=true:=by
   rcases hk with rfl|rfl<;>simpa using this
  rcases Bool.or_eq_true _ _|>.mp h2 with h|h
  ·exact .inl (eq_of_beq h)
  ·exact .inr (Option.isSome_iff_exists.mp h)
def FD{K:PySem.W.Frag}{a:Addr}{xs:List V}{ix:List Nat}{te:TE}{σ:St}{H:Hp}{Q:VK}
  (h:∀D,H D=none->∃Pv:Nat->List V->Hp->Prop,Pv 0 [] (upd H D (.lst []))/\(∀i ys H2,i<=xs.length->Pv i ys H2->ah K H2 a xs/\H2 D=some (.lst ys)/\ys.length<sizeLine)/\
   (∀i x ys H2,xs[i]?=some x->Pv i ys H2->∀Q':VK,(∀y H3,H3 D=some (.lst ys)->Pv (i+1) (ys++[y]) (upd H3 D (.lst (ys++[y])))->Q' y H3)->te (bS ix (some x) σ) H2 Q')/\∀ys H2,Pv xs.length ys H2->Q (.ref D) H2):
  Wr (jo (dF K a) ix te σ H Q):=by
 refine⟨λD hD=>?_⟩;obtain⟨Pv,p0,pl,ps,pq⟩:=h D hD;refine⟨λi m ys H2=>m=xs.length-i/\i<=xs.length/\Pv i ys H2,⟨xs.length,by simp,Zp _,p0⟩,?_⟩;rintro i m ys H2 ⟨rfl,hi,p⟩;obtain⟨e0,e1,e2⟩:=pl i ys H2 hi p;refine⟨e1,?_⟩;by_cases aQ:i<xs.length
 ·refine .inr ⟨⟨_,xs[i],e0,by simp[aQ]⟩,e2,λx H' y=>?_⟩;obtain⟨e,y⟩:=y;subst e;exact ps i x ys _ (y _ e0) p _ λy H3 e3 p3=>⟨e3,xs.length-(i+1),by omega,rfl,aQ,p3⟩
 ·have e:i=xs.length:=by omega
  subst e;exact .inl ⟨⟨_,e0,Y3 _⟩,pq ys H2 p⟩
def xG{K:PySem.W.Frag}{a:Addr}{xs:List V}{ix:List Nat}{tt:TT}{te:TE}{σ:St}{H:Hp}{Q:VK}
  (h:∀D,H D=none->∃Pv:Nat->List V->Hp->Prop,Pv 0 [] (upd H D (.lst []))/\(∀i ys H2,i<=xs.length->Pv i ys H2->ah K H2 a xs/\H2 D=some (.lst ys)/\ys.length<sizeLine)/\
   (∀i x ys H2,xs[i]?=some x->Pv i ys H2->∀(Q1:V->Hp->Prop) (Q0:Hp->Prop),(∀y H3,H3 D=some (.lst ys)->Pv (i+1) (ys++[y]) (upd H3 D (.lst (ys++[y])))->Q1 y H3)->(∀H3,Pv (i+1) ys H3->Q0 H3)->
    tt (bS ix (some x) σ) H2 λb H3=>if b=true then te (bS ix (some x) σ) H3 Q1 else Q0 H3)/\∀ys H2,Pv xs.length ys H2->Q (.ref D) H2):
  Wr (m8 (dF K a) ix tt te σ H Q):=by
 refine⟨λD hD=>?_⟩;obtain⟨Pv,p0,pl,ps,pq⟩:=h D hD;refine⟨λi m ys H2=>m=xs.length-i/\i<=xs.length/\Pv i ys H2,⟨xs.length,by simp,Zp _,p0⟩,?_⟩;rintro i m ys H2 ⟨rfl,hi,p⟩;obtain⟨e0,e1,e2⟩:=pl i ys H2 hi p;refine⟨e1,?_⟩;by_cases aQ:i<xs.length
 ·refine .inr ⟨⟨_,xs[i],e0,by simp[aQ]⟩,e2,λx H' y=>?_⟩;obtain⟨e,y⟩:=y;subst e;exact ps i x ys _ (y _ e0) p _ _ (λy H3 e3 p3=>⟨e3,xs.length-(i+1),by omega,rfl,aQ,p3⟩) λH3 p3=>⟨xs.length-(i+1),by omega,rfl,aQ,p3⟩
 ·have e:i=xs.length:=by omega
  subst e;exact .inl ⟨⟨_,e0,Y3 _⟩,pq ys H2 p⟩
inductive JY(K:PySem.W.Frag)(x:V)(vs:List V)(H:Hp)(Q:VK):Prop
 |mk (l xs y j:_) (_:x=.ref l) (_:vs=[y]) (_:ah K H l xs) (_:gY y=true) (_:xs.all gY=true) (_:j<xs.length) (_:(xs[j]?.map λz=>eB z y)=some true) (_:(∀m,m<j->(xs[m]?.map λz=>eB z y)=some false)) (_:Q (.int (j:Nat)) H):JY K x vs H Q
def AV(K:PySem.W.Frag):V->List V->Hp->VK->Prop:=JY K
def YA{x:V}{xs:List V}{us:List Value}(r:Vals xs us)(f:xs.all gY=true)(m:Nat):us[m]?.map (iS x)=xs[m]?.map λz=>eB z x:=by
 induction r generalizing m with
 |nil=>rfl
 |cons h t ih=>
  rw[List.all_cons,Bool.and_eq_true]at f;cases m with
  |zero=>simp[zt h f.1]
  |succ m=>simpa using ih f.2 m
def R7:so X "list.index" (AV X.K):=by
 intro pins s σ H x vs v us Q I rx rv h;obtain⟨l,xs,y,j,rfl,rfl,hq,fy,fx,hj,h1,h0,q⟩:=h;cases rx;obtain⟨u,rfl,ru⟩:=rv.one;obtain⟨ai,r,pl,hz⟩:=I.list hq;obtain⟨⟨cls,dd,data,sl⟩,ho,hc,n,hd⟩:=id pl.isList;simp only at hc hd;subst hc hd;have hl:=r.length
 have at':∀(m:Nat) (hm:m<ai.toArray.size),(xs[m]?.map λz=>eB z y)=some (iS y ai.toArray[m]):=λm hm=>by
  rw[<-YA r fx m,Zd (by simpa using hm)];simp
 have Bo:j<ai.toArray.size:=by simp;omega
 refine call_meets PySem.F.slot_list_index ⟨_,ho,rfl⟩ PySem.F.entry_list_index (PySem.F.args_list_index_2 _ _) (SeqAt.list_indexAt l ai.toArray n dd sl u (iS y) j Bo ?_ ?_ ?_) ⟨ho,λw hw=>t6 ru fy r fx w (by simpa using hw),⟨.int _,H,I.tok _,⟨_,rfl⟩,q⟩⟩
 ·have:xs.length<2^ 62:=ZP hz (by decide);omega
 ·rw[at' j Bo]at h1;exact Zg h1
 ·intro m hm aQ;have:=h0 m aQ;rw[at' m hm]at this;exact Zg this
end
def tU{K:PySem.W.Frag}{a:Addr}{ns:List Int}{ix:List Nat}{te:TE}{σ:St}{H:Hp}{Q:VK}(f:Int->Int)(hq:ah K H a (ns.map V.int))(hl:ns.length<sizeLine)
  (he:∀z∈ns,∀(H':Hp) (Q':VK),Q' (.int (f z)) H'->te (bS ix (some (.int z)) σ) H' Q')(h:∀D,H D=none->Q (.ref D) (upd H D (.lst ((ns.map f).map V.int)))):Wr (jo (dF K a) ix te σ H Q):=
 ⟨λD hD=>RU f hq hl he h D hD⟩
section
variable {X:Cx}{x:Str}{px pos:Pos}{elt iter:Expr}{scope:Scope}{cl:List (Str×Addr)}{fr:List Str}{ix:List Nat}{wi:TI}{te:TE}{tt:TT}{ifs:List Expr}
variable {dj:Str}{py pJ:Pos}{kT:Nat}
def JZ(k:fY X scope cl x fr ix iter)(hi:PI X (.Name x px) iter wi)(aZ:∀y c,cl.lookup y=some c->X.env.cells.lookup y=some c)
  (he:∀C s H fp,PE (X.cq (x::fr) scope cl C s H fp) elt te)(oa:pD (λY=>∃C s H fp,Y=X.cq (x::fr) scope cl C s H fp) ifs tt)(sI:X.N.Nodup)(sJ:X.N[kT]?=some dj)(sL:Loc X.env.scope dj)
  (sM:swapsWith (.ListComp elt [⟨.Name x px,iter,ifs,0⟩] scope pos) (some (.Name dj py)) pJ.line X.env=pure true)(hf:X.fn dj=true\/X.env.scope.names.lookup dj=some .local)
  {RR:St->VK->It->Hp->Prop}(hR:∀σ Q J H1,RR σ Q J H1->Wr (m8 J ix tt te σ H1 Q)):
  PS X (.Assign [.Name dj py] (.ListComp elt [⟨.Name x px,iter,ifs,0⟩] scope pos) pJ) (l8 (λσ H Q=>wi σ H (RR σ Q)) (iG kT)):=by
 intro pins s σ H DE I h;have h:wi σ H (RR σ (λx H1=>DE.nx (σ.set kT (some x)) H1)):=h;rw[exec_Assign_Name_used _ _ _ _ sM];refine wpAny_bind (wpAny_standAt (wpAny_bind ?_));show wpAny _ X.A (do let _<-comprehension (.ListComp elt [⟨.Name x px,iter,ifs,0⟩] scope pos) scope X.env _ (newList []) false (eval iter X.env) (some (assign (.Name dj py) X.env))) _ _ s;refine wpAny_bind (wpAny_mono (Fu (use:=some (assign (.Name dj py) X.env)) (Post:=λ_ s'=>SP X pins DE .next s') k hi aZ he oa I h (hR σ _) λs2 s4 H2 H3 fp C x' I2 f2 hC bC I4 qn _=>?_) (λ_ s' hq=>ZV (ZV hq)) λ_ _ e=>e);obtain⟨m4,kU,_⟩:=I4.loc;have IX:Inv X pins σ H3 s4:=I2.nI (s':=s4) (ch:=fp) I4.os I4.base I4.ao I4.bare (λb hb=>⟨(f2 b hb).2.2.2.1,(f2 b hb).2.1,(f2 b hb).2.2.2.2⟩)
 have Mz:C≠X.env.locals:=by
  obtain⟨mL,hnL,_⟩:=I2.loc;rw[hC];exact Nat.ne_of_gt (ZW hnL.lt)
 show wpAny _ _ (assign (.Name dj py) X.env (.ref s2.heap.objs.size)) _ _ s4;refine wpAny_assign_Name (E7 (v:=.ref s2.heap.objs.size) IX sI sJ sL rfl (λs5 I5 ⟨a5,sb5,Bp⟩=>?_) hf)
 have nCa:C≠a5:=by
  rcases Bp with rfl|Bp
  ·exact Mz
  ·obtain⟨v,oc,b9,_⟩:=I2.cell _ _ Bp;exact(bC _ _ b9).symm
 refine⟨m4,kU.sameBut sb5 nCa,λh' sb=>⟨σ.set kT (some (.ref s2.heap.objs.size)),H3,?_,qn⟩⟩;refine I5.nI (s':={s5 with heap:=h'}) (ch:=[C]) rfl ⟨λb o e n hb hx=>(sb.2 b (λz=>hx (z▸List.mem_singleton_self _))).trans e,λb o e n hb hx=>⟨o.slots,(sb.2 b (λz=>hx (z▸List.mem_singleton_self _))).trans e⟩,λb o e n hx=>n,λb o e hx=>⟨o,(sb.2 b (λz=>hx (z▸List.mem_singleton_self _))).trans e⟩,λb xs e=>e,λb o u e=>e,λb ps e=>⟨#[],by rw[Array.append_empty];exact e⟩⟩ (I5.ao.sameBut I4.free sb) I5.bare λb hb=>?_;rw[Y2.mp hb];refine⟨.inr (ZQ I2.sz (by rw[hC];exact Nat.le_succ _)),Mz,λx c e=>?_,λp hp=>?_⟩
 ·obtain⟨v,oc,b9,_⟩:=I2.cell x c e;exact bC _ _ b9
 ·exact bC _ _ (I2.pin p hp).1
def GQ(kT:Nat)(fr:List Str)(ix:List Nat)(sI:X.N.Nodup)(hi:PI X (.Name x px) iter wi)(he:∀C s H fp,PE (X.cq (x::fr) scope cl C s H fp) elt te)(aZ:∀y c,cl.lookup y=some c->X.env.cells.lookup y=some c)
  (sJ:X.N[kT]?=some dj:=by rfl)(sL:Loc X.env.scope dj:=by first|exact .inl rfl|exact .inr rfl)
  (k:fY X scope cl x fr ix iter:=by exact⟨rfl,rfl,rfl,rfl,rfl,rfl,by decide+kernel,rfl,rfl,rfl,λ_=>rfl⟩)
  (sM:swapsWith (.ListComp elt [⟨.Name x px,iter,[],0⟩] scope pos) (some (.Name dj py)) pJ.line X.env=pure true:=by rfl)(hf:X.fn dj=true\/X.env.scope.names.lookup dj=some .local:=by first|exact .inl rfl|exact .inr rfl|assumption):
  PS X (.Assign [.Name dj py] (.ListComp elt [⟨.Name x px,iter,[],0⟩] scope pos) pJ) (l8 (rB wi ix te) (iG kT)):=JZ k hi aZ he Iw sI sJ sL sM hf λ_ _ _ _ h=>Fv h
def R8{ct:Expr}(kT:Nat)(fr:List Str)(ix:List Nat)(sI:X.N.Nodup)(hi:PI X (.Name x px) iter wi)(ht:∀C s H fp,PT (X.cq (x::fr) scope cl C s H fp) ct tt)(he:∀C s H fp,PE (X.cq (x::fr) scope cl C s H fp) elt te)(aZ:∀y c,cl.lookup y=some c->X.env.cells.lookup y=some c)
  (sJ:X.N[kT]?=some dj:=by rfl)(sL:Loc X.env.scope dj:=by first|exact .inl rfl|exact .inr rfl)
  (k:fY X scope cl x fr ix iter:=by exact⟨rfl,rfl,rfl,rfl,rfl,rfl,by decide+kernel,rfl,rfl,rfl,λ_=>rfl⟩)
  (sM:swapsWith (.ListComp elt [⟨.Name x px,iter,[ct],0⟩] scope pos) (some (.Name dj py)) pJ.line X.env=pure true:=by rfl)(hf:X.fn dj=true\/X.env.scope.names.lookup dj=some .local:=by first|exact .inl rfl|exact .inr rfl|assumption):
  PS X (.Assign [.Name dj py] (.ListComp elt [⟨.Name x px,iter,[ct],0⟩] scope pos) pJ) (l8 (GL wi ix tt te) (iG kT)):=JZ k hi aZ he (JW ht) sI sJ sL sM hf λ_ _ _ _ h=>h
end
section
variable {X:Cx}{l o:Expr}{tl ta:TE}{tg:Expr}{f:Str}{pos:Pos} (K:PySem.W.Frag)
def Bq(e:X.K=K):e9 X (cY (jU K)):=by subst e;exact aJ
def Br(e:X.K=K)(hl:PE X l tl):PI X tg l (Kz K tl):=by subst e;exact bW hl
def MA(e:X.K=K)(he:PE X o ta)(hb:attributeBase o f X.env (eval o X.env)=eval o X.env):PE X (.Attribute o f pos) (rQ K ta f):=by subst e;exact aO he hb
def LP(e:X.K=K):so X "list.index" (AV K):=by subst e;exact R7
def MB{T:String}{name:Str}{r:V->List V->Hp->VK->Prop}{to:TE}{t:TA}{e:Expr}{es:List Expr}{apos:Pos}(hK:X.K=K)(h:PE X (.Call (.Attribute o name apos) (e::es) [] pos) (Ba X.K T r to t)):PE X (.Call (.Attribute o name apos) (e::es) [] pos) (Ba K T r to t):=by subst hK;exact h
end
end L2
namespace My
open PySem L2
def oV:Option Int->V
 |none=>.aE
 |some n=>.int n
abbrev Tab:=List (List (Option Int))
abbrev Row(H:Hp)(a:Addr)(r:List (Option Int)):Prop:=H a=some (.lst (r.map oV))
structure Tb(H:Hp)(t:Addr)(as:List Addr)(T:Tab):Prop where
 is:H t=some (.lst (as.map V.ref))
 len:as.length=T.length
 rw:∀(i:Nat) a r,as[i]?=some a->T[i]?=some r->Row H a r
def cell(T:Tab)(c j:Nat):Option Int:=(T.getD c []).getD j none
def Tb.on{H H':Hp}{t:Addr}{as:List Addr}{T:Tab}(h:Tb H t as T)(k:∀a∈t::as,∀o,H a=some o->H' a=some o):Tb H' t as T:=
 ⟨k t (Y9 ..) _ h.is,h.len,λi a r e1 e2=>k a (Y4 _ (Y6 e1)) _ (h.rw i a r e1 e2)⟩
def Tb.same{H H':Hp}{t:Addr}{as:List Addr}{T:Tab}(h:Tb H t as T)(s:aa H H'):Tb H' t as T:=h.on λa _ o e=>s a o e
def Tb.at{H:Hp}{t:Addr}{as:List Addr}{T:Tab}(h:Tb H t as T){i:Nat}(hi:i<T.length):∃a,as[i]?=some a/\a∈as/\T[i]?=some (T.getD i [])/\Row H a (T.getD i []):=by
 have h1:i<as.length:=by rw[h.len];exact hi
 have e:T[i]?=some (T.getD i []):=by simp[List.getD,hi]
 exact⟨as[i],by simp[h1],ZA h1,e,h.rw i _ _ (by simp[h1]) e⟩
def Tb.live{H:Hp}{t:Addr}{as:List Addr}{T:Tab}(h:Tb H t as T):∀a∈t::as,∃o,H a=some o:=λa ha=>by
 rcases Y5.mp ha with e|e
 ·rw[e];exact⟨_,h.is⟩
 ·obtain⟨i,hi,e⟩:=ZD e;have fP:i<T.length:=by rw[<-h.len];exact hi
  exact⟨_,h.rw i a (T.getD i []) (by simp[<-e,hi]) (by simp[List.getD,fP])⟩
def Tb.set{H:Hp}{t a:Addr}{as:List Addr}{T:Tab}{i:Nat}(h:Tb H t as T)(nd:(t::as).Nodup)(e:as[i]?=some a)(r:List (Option Int)):Tb (upd H a (.lst (r.map oV))) t as (T.set i r):=by
 obtain⟨n1,n2⟩:=ZG.mp nd;have ma:=Y6 e;obtain⟨hi,ea⟩:=ZL.mp e;refine⟨?_,by rw[h.len,List.length_set],λj b s e1 e2=>?_⟩
 ·have nt:t≠a:=λz=>n1 (z▸ma);rw[aj nt];exact h.is
 ·by_cases hj:j=i
  ·subst hj;rw[e]at e1;cases e1;rw[List.getElem?_set_self (by rw[<-h.len];exact hi)]at e2;cases e2;exact ak
  ·rw[List.getElem?_set_ne (Ne.symm hj)]at e2
   have:b≠a:=λz=>by
    subst z;obtain⟨Bo,eb⟩:=ZL.mp e1;exact hj ((List.getElem_inj n2).mp (eb.trans ea.symm))
   show upd H a _ b=_;rw[aj this];exact h.rw j b s e1 e2
def Tb.snoc{H:Hp}{t a:Addr}{as:List Addr}{T:Tab}{r:List (Option Int)}(h:Tb H t as T)(ha:Row H a r)(n:a≠t)(nt:t∉as):Tb (upd H t (.lst (as.map V.ref++[V.ref a]))) t (as++[a]) (T++[r]):=by
 refine⟨by rw[ak,Ze];rfl,by simp[h.len],λj b s e1 e2=>?_⟩
 have hb:b≠t:=by
  rcases Y7.mp (Y6 e1)with q|q
  ·exact λz=>nt (z▸q)
  ·rw[Y2.mp q];exact n
 show upd H t _ b=_;rw[aj hb];by_cases hj:j<as.length
 ·rw[Zs hj]at e1;rw[Zs (by rw[<-h.len];exact hj)]at e2;exact h.rw j b s e1 e2
 ·rw[Zt (by omega)]at e1;rw[Zt (by rw[<-h.len];omega), <-h.len]at e2
  have z:j-as.length=0:=by
   have:=(ZL.mp e1).1;simp at this;omega
  rw[z]at e1 e2;cases e1;cases e2;exact ha
structure dc(k n:Nat)(T:Tab):Prop where
 len:T.length=n
 row:∀r∈T,r.length=k
 bP:∀c j e,cell T c j=some e->0<=e/\e<n
 inj:∀c d j e,cell T c j=some e->cell T d j=some e->c=d
def Uy{T:Tab}{c:Nat}{r:List (Option Int)}(hc:c<T.length)(i j:Nat):cell (T.set c r) i j=if i=c then r.getD j none else cell T i j:=by
 unfold cell;by_cases h:i=c
 ·subst h;rw[if_pos rfl];simp[List.getD,List.getElem?_set_self hc]
 ·rw[if_neg h];simp[List.getD,List.getElem?_set_ne (Ne.symm h)]
open PySem.SeqAt PyProof.Rows
def dO:Option Int->PyData
 |none=>.none
 |some n=>.int n
def dR(r:List (Option Int)):PyData:=.list (r.map dO)
def nQ(T:Tab):PyData:=.list (T.map dR)
def IF:∀r:List (Option Int),PyData.canLayAll0 (r.map dO)=true/\PyData.depthAll (r.map dO)=0/\noMixAll (r.map dO) (r.map dO)=true
 |[]=>⟨by simp[PyData.canLayAll0],by simp[PyData.depthAll],by simp[noMixAll]⟩
 |a::r=>by
  obtain⟨h1,h2,h3⟩:=IF r;cases a with
  |none=>exact⟨by rw[Zr,PyData.canLayAll0,h1];simp[dO,PyData.canLay0],by rw[Zr,PyData.depthAll,h2];simp[dO,PyData.depth],by rw[Zr,noMixAll,h3];simp[dO,noMix]⟩
  |some z=>exact⟨by rw[Zr,PyData.canLayAll0,h1];simp[dO,PyData.canLay0],by rw[Zr,PyData.depthAll,h2];simp[dO,PyData.depth],by rw[Zr,noMixAll,h3];simp[dO,noMix]⟩
def IG:∀T:Tab,PyData.canLayAll0 (T.map dR)=true/\PyData.depthAll (T.map dR)<=1/\noMixAll (T.map dR) (T.map dR)=true
 |[]=>⟨by simp[PyData.canLayAll0],by simp[PyData.depthAll],by simp[noMixAll]⟩
 |a::r=>by
  obtain⟨h1,h2,h3⟩:=IG r;obtain⟨g1,g2,g3⟩:=IF a;refine⟨?_,?_,?_⟩
  ·rw[Zr,PyData.canLayAll0,h1];simp[dR,PyData.canLay0,g1]
  ·rw[Zr,PyData.depthAll];have:(dR a).depth=1:=by rw[dR,PyData.depth,g2]
   omega
  ·rw[Zr,noMixAll,h3];simp[dR,noMix,g3]
def yX{K:PySem.W.Frag}{H:Hp}:∀r:List (Option Int),hG K H (r.map oV) (r.map dO)
 |[]=>.nil
 |none::r=>.cons .aE (yX r)
 |some z::r=>.cons (.int z) (yX r)
def GS{K:PySem.W.Frag}{H:Hp}:∀{as:List Addr}{T:Tab},as.length=T.length->(∀(i:Nat) a r,as[i]?=some a->T[i]?=some r->Row H a r)->hG K H (as.map V.ref) (T.map dR)
 |[],[],_,_=>.nil
 |a::as,r::T,e,h=>.cons (.lst (ah.of (h 0 a r rfl rfl)) (yX r)) (GS (by simpa using e) λi b s h1 h2=>h (i+1) b s (by simpa using h1) (by simpa using h2))
 |[],_::_,e,_=>by simp at e
 |_::_,[],e,_=>by simp at e
def Tb.dt{K:PySem.W.Frag}{H:Hp}{t:Addr}{as:List Addr}{T:Tab}(h:Tb H t as T):Dt K H (.ref t) (nQ T):=.lst (ah.of h.is) (GS h.len h.rw)
def yt(T:Tab):shaped (nQ T)=true/\noMix (nQ T) (nQ T)=true:=by
 obtain⟨a1,a2,a3⟩:=IG T;refine⟨?_,?_⟩
 ·unfold shaped;rw[Bool.and_eq_true];refine⟨by simp[PyData.canLay0,nQ,a1],ZN ?_⟩;simp only[PyData.depth,nQ];omega
 ·simp[noMix,nQ,a3]
def YB{K:PySem.W.Frag}{H:Hp}{x y:Addr}{as bs:List Addr}{T:Tab}{Q:VK}(hx:Tb H x as T)(hy:Tb H y bs T)(h:Q (.bl false) H):Wr (LH K (.ref x) (.ref y) H Q):=by
 refine⟨⟨_,_,hx.dt,hy.dt,(yt T).1,(yt T).1,(yt T).2,?_⟩⟩;rw[PyProof.Rows.same_refl];exact h
def col(T:Tab)(j:Nat):List (Option Int):=T.map λr=>r.getD j none
def cols(k:Nat)(T:Tab):Tab:=(List.range k).map (col T)
def jL(k:Nat)(T:Tab):(cols k T).length=k:=by simp[cols]
def yY{k j:Nat}(T:Tab)(h:j<k):(cols k T)[j]?=some (col T j):=by simp[cols,h]
def xZ{k j:Nat}(T:Tab)(h:j<k):(cols k T).getD j []=col T j:=by simp[List.getD,yY T h]
def kr(T:Tab)(j:Nat):(col T j).length=T.length:=by simp[col]
def mX(T:Tab)(c j:Nat):(col T j).getD c none=cell T c j:=by
 unfold col cell;by_cases h:c<T.length
 ·simp[List.getD,h]
 ·simp[List.getD,ZI (Nat.le_of_not_lt h)]
def Uz{r s:List (Option Int)}(hl:r.length=s.length)(h:∀j,r.getD j none=s.getD j none):r=s:=by
 refine List.ext_getElem hl λi h1 h2=>?_;have:=h i;simpa[List.getD,h1,h2]using this
def UA{k n:Nat}{T:Tab}(h:dc k n T){c:Nat}(hc:c<n):col (cols k T) c=T.getD c []:=by
 have hcT:c<T.length:=by rw[h.len];exact hc
 have hr:(T.getD c []).length=k:=h.row _ (by simp[List.getD,hcT]);refine Uz (by rw[kr,jL,hr]) λj=>?_;rw[mX];unfold cell;by_cases hj:j<k
 ·rw[xZ T hj,mX];rfl
 ·have e1:(cols k T).getD j []=[]:=by rw[List.getD,ZI (by rw[jL];omega)];rfl
  have e2:(T.getD c []).getD j none=none:=by
   generalize T.getD c []=r at hr;rw[List.getD,ZI (by omega)];rfl
  rw[e1,e2];rfl
def R9{k n:Nat}{T:Tab}(h:dc k n T):cols n (cols k T)=T:=by
 refine List.ext_getElem (by rw[jL,h.len]) λi h1 h2=>?_;have hi:i<n:=by rwa [jL]at h1
 have e:=yY (cols k T) hi;rw[UA h hi]at e;have e2:(cols n (cols k T))[i]?=some ((cols n (cols k T))[i]):=by simp[h1]
 rw[e]at e2;have e3:=Zg e2;rw[<-e3];simp[List.getD,h2]
structure gR(i:Nat)(ends fs:List (Option Int)):Prop where
 len:fs.length=ends.length
 iff:∀(e:Nat) (c:Int),fs.getD e none=some c↔∃m:Nat,c=m/\m<i/\ends.getD m none=some (e:Int)
abbrev uK(ends fs:List (Option Int)):Prop:=gR ends.length ends fs
def ot(k:Nat)(lo li:Addr):List (Str×V):=aW "inward" (.ref li) (aW "onward" (.ref lo) (aW "kinds" (.int k) []))
def t8(k:Nat)(lo li:Addr)(m:Str):(ot k lo li).lookup m=if m="inward" then some (.ref li)else if m="onward" then some (.ref lo)else if m="kinds" then some (.int k)else none:=by
 unfold ot;rw[lH,lH,lH];rfl
def YC(k:Nat)(lo li:Addr):(ot k lo li).lookup ("inward":Str)=some (.ref li):=by rw[t8,if_pos rfl]
def zI(k:Nat)(lo li:Addr):(ot k lo li).lookup ("onward":Str)=some (.ref lo):=by rw[t8,if_neg (by decide),if_pos rfl]
def Ai(k:Nat)(lo li:Addr):(ot k lo li).lookup ("kinds":Str)=some (.int k):=by rw[t8,if_neg (by decide),if_neg (by decide),if_pos rfl]
def kA(k:Nat)(lo li:Addr){m:Str}(h1:¬m="inward":=by decide)(h2:¬m="onward":=by decide)(h3:¬m="kinds":=by decide):(ot k lo li).lookup m=none:=by rw[t8,if_neg h1,if_neg h2,if_neg h3]
structure de(C:Addr)(H:Hp)(g:Addr)(k n:Nat)(T:Tab)(fp:List Addr):Prop where
 ok:dc k n T
 k1:1<=k
 k5:k<=5
 n1:1<=n
 n7:n<=700
 ob:∃dx lo li as bs I,fp=g::((lo::as)++(li::bs))/\H g=some (.ins C dx (ot k lo li))/\Tb H lo as (cols k T)/\Tb H li bs I/\I.length=k/\∀j,j<k->uK (col T j) (I.getD j [])
def de.on{C:Addr}{H H':Hp}{g:Addr}{k n:Nat}{T:Tab}{fp:List Addr}(h:de C H g k n T fp)(s:∀a∈fp,∀o,H a=some o->H' a=some o):de C H' g k n T fp:=by
 obtain⟨dx,lo,li,as,bs,I,rfl,hg,h1,h2,h3,h4⟩:=h.ob;refine⟨h.ok,h.k1,h.k5,h.n1,h.n7,dx,lo,li,as,bs,I,rfl,s g (Y9 ..) _ hg,h1.on λa ha=>s a ?_,h2.on λa ha=>s a ?_,h3,h4⟩
 ·exact Y4 _ (Zc _ ha)
 ·exact Y4 _ (Zb _ ha)
def de.same{C:Addr}{H H':Hp}{g:Addr}{k n:Nat}{T:Tab}{fp:List Addr}(h:de C H g k n T fp)(s:aa H H'):de C H' g k n T fp:=h.on λa _ o e=>s a o e
end My
namespace My
open PySem L2
structure mq(K:PySem.W.Frag)(mg:Str->Option Value)(C:Addr):Prop where
 cl:dM K C
 nk:NoAttr K C "kinds"
 no:NoAttr K C "onward"
 ni:NoAttr K C "inward"
 Bs:∃t,mg "MOST_KINDS"=some (.int 5 t)
 mcc:∃t,mg "MOST_CHAMBERS"=some (.int 700 t)
 sum:mg "sum"=none
def Row.same{H H':Hp}{a:Addr}{r:List (Option Int)}(h:Row H a r)(s:aa H H'):Row H' a r:=s _ _ h
def WO{r:List (Option Int)}{i:Nat}{y:V}(h:(r.map oV)[i]?=some y):∃z,y=oV z/\r[i]?=some z:=by
 rw[Zf]at h;cases e:r[i]? with
 |none=>rw[e]at h;cases h
 |some z=>rw[e]at h;exact⟨z,(Zg h).symm,rfl⟩
def IH{as:List Addr}{i:Nat}{y:V}(h:(as.map V.ref)[i]?=some y):∃z,y=V.ref z/\as[i]?=some z:=by
 rw[Zf]at h;cases e:as[i]? with
 |none=>rw[e]at h;cases h
 |some z=>rw[e]at h;exact⟨z,(Zg h).symm,rfl⟩
def getD_some{α:Type}{r:List α}{i:Nat}{z d:α}(h:r[i]?=some z):r.getD i d=z:=by rw[List.getD,h];rfl
def nj{K:PySem.W.Frag}{H:Hp}{a:Addr}{r:List (Option Int)}{i:Int}{Q:VK}(k:Nat)(hq:Row H a r)(hk:k<r.length)(h:Q (oV (r.getD k none)) H)(e:i=(k:Int):=by rfl):Wr (jU K (.ref a) (.int i) H Q):=by
 refine⟨⟨a,_,i,_,rfl,rfl,ah.of hq,?_,h⟩⟩;subst e;exact lM (by rw[Zf,show r[k]?=some (r.getD k none)by simp[List.getD,hk]];rfl)
def lU{K:PySem.W.Frag}{H:Hp}{t a:Addr}{as:List Addr}{T:Tab}{i:Int}{Q:VK}(k:Nat)(hq:Tb H t as T)(ha:as[k]?=some a)(h:Q (.ref a) H)(e:i=(k:Int):=by rfl):Wr (jU K (.ref t) (.int i) H Q):=by
 refine⟨⟨t,_,i,_,rfl,rfl,ah.of hq.is,?_,h⟩⟩;subst e;exact lM (by rw[Zf,ha];rfl)
def GU{K:PySem.W.Frag}{t:Addr}{as:List Addr}{T:Tab}{j:Nat}{ix:List Nat}{te:TE}{σ:St}{H:Hp}{Q:VK}(h:Tb H t as T)(hl:T.length<=100000)
  (he:∀a r,r∈T->∀(H':Hp) (Q':VK),aa H H'->Row H' a r->Q' (oV (r.getD j none)) H'->te (bS ix (some (.ref a)) σ) H' Q')(hQ:∀D,H D=none->Q (.ref D) (upd H D (.lst ((col T j).map oV)))):
  Wr (jo (dF K t) ix te σ H Q):=by
 let f:V->V:=λz=>match z with
  |.ref a=>(match H a with|some (.lst xs)=>xs.getD j .aE|_=>.aE)
  |_=>.aE
 have fe:∀a r,Row H a r->f (.ref a)=oV (r.getD j none):=λa r hr=>by
  show(match H a with|some (.lst xs)=>xs.getD j .aE|_=>.aE)=_;rw[show H a=some (.lst (r.map oV))from hr];show(r.map oV).getD j .aE=_;by_cases hj:j<r.length
  ·simp[List.getD,hj]
  ·simp[List.getD,ZI (Nat.le_of_not_lt hj),oV]
 refine⟨Fi (xs:=as.map V.ref) f (ah.of h.is) (bD (by rw[Y1,h.len];omega)) (λz hz H' Q' s q=>?_) λD hD=>?_⟩
 ·obtain⟨a,ha,rfl⟩:=Zh.mp hz;obtain⟨i,hi,e⟩:=ZD ha;have fP:i<T.length:=by rw[<-h.len];exact hi
  have hr:=h.rw i a T[i] (by simp[<-e,hi]) (by simp[fP]);rw[fe a _ hr]at q;exact he a _ (ZA fP) H' Q' s (hr.same s) q
 ·have:(as.map V.ref).map f=(col T j).map oV:=by
   unfold col;rw[ZK,ZK];refine List.ext_getElem (by simp[h.len]) λi h1 h2=>?_;have h1':i<as.length:=by simpa using h1
   have kY:i<T.length:=by simpa using h2
   simp only[List.getElem_map,Function.comp];exact fe _ _ (h.rw i as[i] T[i] (by simp[h1']) (by simp[kY]))
  rw[this];exact hQ D hD
def jV{cells:List (Str×Addr)}{a:Str}{x:Addr}(h1:cells.lookup a=some x):∀z c,[(a,x)].lookup z=some c->cells.lookup z=some c:=λz c h=>by
 rw[List.lookup_cons]at h;cases e:z==a with
 |true=>rw[e]at h;rw[eq_of_beq e,h1];exact h
 |false=>rw[e]at h;cases h
def J0{H:Hp}{a:Addr}{n:Nat}{k:Int}{z:Option Int}{Q:VK}(ha:H a=some (.lst [oV z]))(hn:n<=100000)(h:∀(p:Addr) (H':Hp),H p=none->Row H' p (List.replicate n z)->aa H H'->Q (.ref p) H')(e:k=(n:Int):=by rfl):Wr (uO (.ref a) (.int k) H Q):=by
 subst e;refine⟨⟨a,n,[oV z],rfl,rfl,ha,by omega,by omega,?_,λp hp=>?_⟩⟩
 ·exact Z1 (bD (by simp;omega))
 ·have e:(List.replicate (n:Int).toNat [oV z]).flatten=(List.replicate n z).map oV:=by
   rw[Za];clear h hn
   induction n with
   |zero=>rfl
   |succ n ih=>rw[List.replicate_succ,List.flatten_cons,ih,List.replicate_succ,Zr];rfl
  rw[e];exact h p _ hp ak ((aa.refl H).upd hp)
inductive FE(vs:List V)(H:Hp)(Q:VK)(aD:XK):Prop
 |mk (k n:Nat) (t:Addr) (as:List Addr) (T:Tab) (_:vs=[.int k,.ref t]) (_:Tb H t as T) (_:dc k n T) (_:1<=k) (_:k<=5) (_:1<=n) (_:n<=700) (_:Q .aE H):FE vs H Q aD
def II:Sp:=FE
def ux(ends:List (Option Int)):Prop:=(∀(c:Nat) e,ends.getD c none=some e->0<=e/\e<ends.length)/\∀(c d:Nat) e,ends.getD c none=some e->ends.getD d none=some e->c=d
def dc.ends{k n:Nat}{T:Tab}(h:dc k n T)(j:Nat):ux (col T j):=by
 refine⟨λc e he=>?_,λc d e h1 h2=>?_⟩
 ·rw[mX]at he;rw[kr,h.len];exact h.bP _ _ _ he
 ·rw[mX]at h1 h2;exact h.inj _ _ _ _ h1 h2
inductive IJ(vs:List V)(H:Hp)(Q:VK)(aD:XK):Prop
 |mk (a:Addr) (ends:List (Option Int)) (_:vs=[.ref a]) (_:Row H a ends) (_:ux ends) (_:ends.length<=1000) (_:∀(l:Addr) (fs:List (Option Int)) (H':Hp),H l=none->Row H' l fs->uK ends fs->aa H H'->Q (.ref l) H'):IJ vs H Q aD
def KR:Sp:=IJ
inductive GV(C:Addr)(vs:List V)(H:Hp)(Q:VK)(aD:XK):Prop
 |mk (g dx:Addr) (k n:Nat) (t:Addr) (as:List Addr) (T:Tab) (_:vs=[.ref g,.int k,.ref t]) (_:H g=some (.ins C dx [])) (_:Tb H t as T) (_:dc k n T) (_:1<=k) (_:k<=5) (_:1<=n) (_:n<=700) (_:∀(H':Hp) (fp:List Addr),de C H' g k n T fp->(∀a∈fp,a≠g->H a=none)->Kp g H H'->Q .aE H'):GV C vs H Q aD
def zJ(C:Addr):Sp:=GV C
inductive GW(C:Addr)(vs:List V)(H:Hp)(Q:VK)(aD:XK):Prop
 |mk (g:Addr) (k n:Nat) (T:Tab) (fp:List Addr) (_:vs=[.ref g]) (_:de C H g k n T fp) (_:Q (.int n) H):GW C vs H Q aD
def uy(C:Addr):Sp:=GW C
inductive GX(C:Addr)(vs:List V)(H:Hp)(Q:VK)(aD:XK):Prop
 |mk (g:Addr) (k n:Nat) (T:Tab) (fp:List Addr) (_:vs=[.ref g]) (_:de C H g k n T fp) (_:∀(t:Addr) (as:List Addr) (H':Hp),H t=none->(∀a∈as,H a=none)->(t::as).Nodup->Tb H' t as T->aa H H'->Q (.ref t) H'):GX C vs H Q aD
def zK(C:Addr):Sp:=GX C
def gR.zero(ends:List (Option Int)):gR 0 ends (List.replicate ends.length none):=by
 refine⟨by simp,λe c=>⟨λh=>?_,λ⟨m,_,h,_⟩=>by omega⟩⟩;rw[List.getD,ZS]at h;split at h<;>cases h
def gR.skip{i:Nat}{ends fs:List (Option Int)}(h:gR i ends fs)(e:ends.getD i none=none):gR (i+1) ends fs:=by
 refine⟨h.len,λx c=>(h.iff x c).trans ⟨λ⟨m,a,b,d⟩=>⟨m,a,by omega,d⟩,λ⟨m,a,b,d⟩=>⟨m,a,?_,d⟩⟩⟩;by_cases q:m=i
 ·subst q;rw[e]at d;cases d
 ·omega
def gR.free{i x:Nat}{ends fs:List (Option Int)}(h:gR i ends fs)(ok:ux ends)(e:ends.getD i none=some (x:Int)):fs.getD x none=none:=by
 cases q:fs.getD x none with
 |none=>rfl
 |some c=>
  obtain⟨m,_,hm,d⟩:=(h.iff x c).mp q;have:=ok.2 _ _ _ d e;omega
def gR.put{i x:Nat}{ends fs:List (Option Int)}(h:gR i ends fs)(ok:ux ends)(e:ends.getD i none=some (x:Int)):gR (i+1) ends (fs.set x (some (i:Int))):=by
 have hx:x<fs.length:=by
  have:=(ok.1 i _ e).2;rw[h.len];omega
 refine⟨by rw[List.length_set];exact h.len,λy c=>?_⟩;by_cases q:y=x
 ·subst q;have e1:(fs.set y (some (i:Int))).getD y none=some (i:Int):=by rw[List.getD,List.getElem?_set_self hx];rfl
  rw[e1];constructor
  ·intro z;exact⟨i,(Zg z).symm,by omega,e⟩
  ·rintro⟨m,rfl,hm,d⟩;rw[ok.2 _ _ _ d e]
 ·have e1:(fs.set x (some (i:Int))).getD y none=fs.getD y none:=by rw[List.getD,List.getElem?_set_ne (λz=>q z.symm)];rfl
  rw[e1,h.iff];constructor
  ·rintro⟨m,a,b,d⟩;exact⟨m,a,by omega,d⟩
  ·rintro⟨m,a,b,d⟩;refine⟨m,a,?_,d⟩;by_cases z:m=i
   ·subst z;rw[e]at d;exact absurd (Zg d) (by omega)
   ·omega
def Eg{α β:Type}(f:α->β):∀(l:List α) (i:Nat),(l.map f).eraseIdx i=(l.eraseIdx i).map f
 |[],_=>rfl
 |_::_,0=>rfl
 |a::l,i+1=>by
  show f a::(l.map f).eraseIdx i=f a::(l.eraseIdx i).map f;rw[Eg f l i]
structure eA(H H':Hp)(t:Addr)(as:List Addr)(T:Tab):Prop where
 ft:H t=none
 fa:∀a∈as,H a=none
 nd:(t::as).Nodup
 tb:Tb H' t as T
 sm:aa H H'
def eA.zero{H:Hp}{D:Addr}(h:H D=none):eA H (upd H D (.lst [])) D [] []:=⟨h,(λ_ z=>nomatch z),by simp,⟨ak,rfl,λi a r e=>by simp at e⟩,(aa.refl H).upd h⟩
def eA.snoc{H H2 H3:Hp}{D a:Addr}{as:List Addr}{T:Tab}{r:List (Option Int)}(h:eA H H2 D as T)(ha:H2 a=none)(hr:Row H3 a r)(s:aa H2 H3):eA H (upd H3 D (.lst (as.map V.ref++[V.ref a]))) D (as++[a]) (T++[r]):=by
 have nD:a≠D:=λz=>by rw[z,h.tb.is]at ha;cases ha
 obtain⟨n1,n2⟩:=ZG.mp h.nd
 have na:a∉as:=λz=>by
  obtain⟨o,e⟩:=h.tb.live a (Y4 _ z);rw[ha]at e;cases e
 refine⟨h.ft,λb hb=>?_,?_,(h.tb.same s).snoc hr nD n1,(h.sm.trans s).upd h.ft⟩
 ·rcases Y7.mp hb with q|q
  ·exact h.fa b q
  ·rw[Y2.mp q];exact h.sm.free ha
 ·refine ZG.mpr ⟨λz=>?_,o9 n2 na⟩;rcases Y7.mp z with q|q
  ·exact n1 q
  ·exact nD (Y2.mp q).symm
def eA.row{H H2 H3:Hp}{D:Addr}{as:List Addr}{T:Tab}(h:eA H H2 D as T)(s:aa H2 H3):H3 D=some (.lst (as.map V.ref)):=s _ _ h.tb.is
def eA.set{H H2:Hp}{t a:Addr}{as:List Addr}{T:Tab}{i:Nat}(h:eA H H2 t as T)(e:as[i]?=some a)(r:List (Option Int)):eA H (upd H2 a (.lst (r.map oV))) t as (T.set i r):=
 ⟨h.ft,h.fa,h.nd,h.tb.set h.nd e r,h.sm.upd (h.fa a (Y6 e))⟩
def t9{lo:Int}{n:Nat}{ix:List Nat}{te:TE}{σ:St}{H:Hp}{Q:VK}(f:Nat->List (Option Int))(hn:n<=100000)
  (he:∀i,i<n->∀H2,aa H H2->∀Q':VK,(∀(a:Addr) (H3:Hp),H2 a=none->Row H3 a (f i)->aa H2 H3->Q' (.ref a) H3)->te (bS ix (some (.int (lo+i))) σ) H2 Q')
  (hQ:∀D as H',eA H H' D as ((List.range n).map f)->Q (.ref D) H'):
  Wr (jo (fN lo n) ix te σ H Q):=by
 refine⟨xP λD hD=>⟨λi ys H2=>∃as,ys=as.map V.ref/\eA H H2 D as ((List.range i).map f)/\i<=n,⟨[],rfl,eA.zero hD,Zp _⟩,?_,?_,?_⟩⟩
 ·rintro i ys H2 ⟨as,rfl,h,hi⟩;refine⟨h.tb.is,bD ?_⟩;rw[Y1,h.tb.len];simp;omega
 ·rintro i ys H2 hi ⟨as,rfl,h,_⟩ Q' q';refine he i hi H2 h.sm Q' λa H3 ha hr s=>q' _ _ (h.row s) ⟨as++[a],by rw[Ze];rfl,?_,hi⟩;rw[List.range_succ,Ze];exact h.snoc ha hr s
 ·rintro ys H2 ⟨as,rfl,h,_⟩;exact hQ D as H2 h
def FF{K:PySem.W.Frag}{a0:Addr}{xs:List V}{ix:List Nat}{te:TE}{σ:St}{H:Hp}{Q:VK}(R:Nat->List (Option Int)->Prop)(hq:ah K H a0 xs)(hn:xs.length<=100000)
  (he:∀(i:Nat) x,xs[i]?=some x->∀H2,aa H H2->∀Q':VK,(∀(a:Addr) (r:List (Option Int)) (H3:Hp),H2 a=none->Row H3 a r->R i r->aa H2 H3->Q' (.ref a) H3)->te (bS ix (some x) σ) H2 Q')
  (hQ:∀D as T H',eA H H' D as T->T.length=xs.length->(∀(i:Nat) r,T[i]?=some r->R i r)->Q (.ref D) H'):
  Wr (jo (dF K a0) ix te σ H Q):=by
 refine FD (xs:=xs) λD hD=>⟨λi ys H2=>∃as T,ys=as.map V.ref/\eA H H2 D as T/\T.length=i/\i<=xs.length/\∀(j:Nat) r,T[j]?=some r->R j r,⟨[],[],rfl,eA.zero hD,rfl,Zp _,λj r e=>by simp at e⟩,?_,?_,?_⟩
 ·rintro i ys H2 hi ⟨as,T,rfl,h,e,_⟩;refine⟨h.sm.seq hq,h.tb.is,bD ?_⟩;rw[Y1,h.tb.len];omega
 ·rintro i x ys H2 hi ⟨as,T,rfl,h,e,_,hR⟩ Q' q';refine he i x hi H2 h.sm Q' λa r H3 ha hr fS s=>q' _ _ (h.row s) ⟨as++[a],T++[r],by rw[Ze];rfl,h.snoc ha hr s,by simp[e],(ZL.mp hi).1,λj r' e'=>?_⟩;by_cases hj:j<T.length
  ·rw[Zs hj]at e';exact hR j r' e'
  ·rw[Zt (by omega)]at e'
   have z:j-T.length=0:=by
    have:=(ZL.mp e').1;simp at this;omega
   rw[z]at e';cases e';have:j=i:=by omega
   rw[this];exact fS
 ·rintro ys H2 ⟨as,T,rfl,h,e,_,hR⟩;exact hQ D as T H2 h e hR
def Let(k:Nat)(l:Int):Prop:=l≠0/\ -(k:Int)<=l/\l<=k
def pre(T:Tab)(j c:Nat):Option Int:=((List.range T.length).find? λd=>decide (cell T d j=some (c:Int))).map λd=>(d:Int)
def cT(T:Tab)(c:Nat)(l:Int):Option Int:=if 0<l then cell T c (l-1).toNat else pre T (-l-1).toNat c
def j7(T:Tab)(o:Option Int)(w:List Int):Option Int:=w.foldl (λo l=>o.bind λc=>cT T c.toNat l) o
def WQ{k n:Nat}{T:Tab}(h:dc k n T){c j:Nat}{e:Int}(he:cell T c j=some e):c<n:=by
 unfold cell at he;by_cases hc:c<T.length
 ·rw[h.len]at hc;exact hc
 ·simp[List.getD,ZI (Nat.le_of_not_lt hc)]at he
def pd{k n:Nat}{T:Tab}(h:dc k n T){j c:Nat}{d:Int}:pre T j c=some d↔∃m:Nat,d=m/\m<n/\cell T m j=some (c:Int):=by
 unfold pre;constructor
 ·intro e;cases q:(List.range T.length).find? (λd=>decide (cell T d j=some (c:Int)))with
  |none=>rw[q]at e;cases e
  |some m=>
   rw[q]at e;have h1:=List.find?_some q;have h1:cell T m j=some (c:Int):=by simpa using h1
   exact⟨m,(Zg e).symm,WQ h h1,h1⟩
 ·rintro⟨m,rfl,hm,e⟩;cases q:(List.range T.length).find? (λd=>decide (cell T d j=some (c:Int)))with
  |none=>
   have:=List.find?_eq_none.mp q m (by rw[h.len];exact ZU.mpr hm);simp[e]at this
  |some m'=>
   have h1:=List.find?_some q;have h1:cell T m' j=some (c:Int):=by simpa using h1
   have:=h.inj _ _ _ _ e h1;rw[this];rfl
def WR{a b:Option Int}(h:∀d,a=some d↔b=some d):a=b:=by
 cases a with
 |none=>cases b with
  |none=>rfl
  |some y=>exact absurd ((h y).mpr rfl) (by simp)
 |some x=>exact((h x).mp rfl).symm
def WT{k n:Nat}{T:Tab}(h:dc k n T){j c:Nat}{fs:List (Option Int)}(b:uK (col T j) fs):fs.getD c none=pre T j c:=by
 refine WR λd=>?_;rw[b.iff,pd h];constructor
 ·rintro⟨m,e,h1,h2⟩;rw[mX]at h2;rw[kr,h.len]at h1;exact⟨m,e,h1,h2⟩
 ·rintro⟨m,e,h1,h2⟩;refine⟨m,e,by rw[kr,h.len];exact h1,by rw[mX];exact h2⟩
def uz{k n:Nat}{T:Tab}(h:dc k n T){c:Nat}{l d:Int}(e:cT T c l=some d):0<=d/\d<n:=by
 unfold cT at e;split at e
 ·exact h.bP _ _ _ e
 ·obtain⟨m,rfl,hm,_⟩:=(pd h).mp e;omega
def UB{k n:Nat}{T:Tab}(h:dc k n T){c d:Nat}{l:Int}(hl:l≠0)(hc:c<n)(e:cT T c l=some (d:Int)):cT T d (-l)=some (c:Int):=by
 unfold cT at e⊢;by_cases hp:0<l
 ·rw[if_pos hp]at e;rw[if_neg (by omega),show(- -l-1).toNat=(l-1).toNat by omega];exact(pd h).mpr ⟨c,rfl,hc,e⟩
 ·rw[if_neg hp]at e;rw[if_pos (by omega)];obtain⟨m,e1,hm,e2⟩:=(pd h).mp e;have:m=d:=by omega
  subst this;exact e2
def WU(T:Tab)(o:Option Int)(v w:List Int):j7 T o (v++w)=j7 T (j7 T o v) w:=by unfold j7;rw[List.foldl_append]
def GY(T:Tab)(o:Option Int)(v:List Int)(l:Int):j7 T o (v++[l])=(j7 T o v).bind λc=>cT T c.toNat l:=by rw[WU];rfl
inductive IK(C:Addr)(vs:List V)(H:Hp)(Q:VK)(aD:XK):Prop
 |mk (g:Addr) (k n:Nat) (T:Tab) (fp:List Addr) (c:Nat) (_:vs=[.ref g,.int c]) (_:de C H g k n T fp) (_:c<n) (_:Q .aE H):IK C vs H Q aD
def KS(C:Addr):Sp:=IK C
inductive IL(vs:List V)(H:Hp)(Q:VK)(aD:XK):Prop
 |mk (k:Nat) (wa:Addr) (ws:List Int) (_:vs=[.int k,.ref wa]) (_:ax H wa ws) (_:(∀l∈ws,Let k l)) (_:Q .aE H):IL vs H Q aD
def KU:Sp:=IL
inductive GZ(C:Addr)(vs:List V)(H:Hp)(Q:VK)(aD:XK):Prop
 |mk (g:Addr) (k n:Nat) (T:Tab) (fp:List Addr) (c:Nat) (l:Int) (_:vs=[.ref g,.int c,.int l]) (_:de C H g k n T fp) (_:c<n) (_:Let k l) (_:∀H',aa H H'->Q (oV (cT T c l)) H'):GZ C vs H Q aD
def J1(C:Addr):Sp:=GZ C
inductive IM(vs:List V)(H:Hp)(Q:VK)(aD:XK):Prop
 |mk (t:Addr) (as:List Addr) (T:Tab) (k n c:Nat) (l:Int) (_:vs=[.ref t,.int c,.int l]) (_:Tb H t as T) (_:dc k n T) (_:n<=1000) (_:c<n) (_:Let k l) (_:Q (oV (cT T c l)) H):IM vs H Q aD
def KW:Sp:=IM
end My
set_option autoImplicit false
namespace My
open PySem L2 PySem.SeqAt PyProof.Rows PySem.Spec
mutual
def gw(m:Bool):PyData->Bool
 |.none=>true
 |.bool _=> !m
 |.int _=>m
 |.str _=>true
 |.list xs=>kH m xs
 |.tuple xs=>kH m xs
 |.dict _=>false
def kH(m:Bool):List PyData->Bool
 |[]=>true
 |x::r=>gw m x&&kH m r
end
mutual
def G0(m:Bool):∀d d':PyData,gw m d=true->gw m d'=true->noMix d d'=true
 |.none,d',_,h=>by cases d'<;>first|rfl|(rw[noMix])
 |.bool a,d',g,h=>by
  cases d'<;>first|rfl|(rw[noMix];done)|(cases m<;>simp[gw]at g h)
 |.int a,d',g,h=>by
  cases d'<;>first|rfl|(rw[noMix];done)|(cases m<;>simp[gw]at g h)
 |.str a,d',_,h=>by cases d'<;>first|rfl|(rw[noMix])
 |.list xs,d',g,h=>by
  cases d' with
  |list ys=>
   rw[noMix];rw[gw]at g h;exact xH m xs ys g h
  |_=>rw[noMix]
 |.tuple xs,d',g,h=>by
  cases d' with
  |tuple ys=>
   rw[noMix];rw[gw]at g h;exact xH m xs ys g h
  |_=>rw[noMix]
 |.dict _,_,g,_=>by rw[gw]at g;cases g
def xH(m:Bool):∀xs ys:List PyData,kH m xs=true->kH m ys=true->noMixAll xs ys=true
 |[],[],_,_=>by rw[noMixAll]
 |[],_::_,_,_=>by rw[noMixAll]
 |_::_,[],_,_=>by rw[noMixAll]
 |x::xs,y::ys,g,h=>by
  rw[kH,Bool.and_eq_true]at g h;rw[noMixAll,G0 m x y g.1 h.1,xH m xs ys g.2 h.2];rfl
end
structure Gd(m:Bool)(n:Nat)(d:PyData):Prop where
 lay:d.canLay0=true
 dep:d.depth<=n
 ok:gw m d=true
def Gd.int{n:Nat}(i:Int):Gd true n (.int i):=⟨by rw[PyData.canLay0],by rw[PyData.depth];omega,by rw[gw]⟩
def Gd.str{m:Bool}{n:Nat}{x:Str}(h:(PyData.str x).canLay0=true):Gd m n (.str x):=⟨h,by rw[PyData.depth];omega,by rw[gw]⟩
def Gd.mono{m:Bool}{n n':Nat}{d:PyData}(h:Gd m n d)(e:n<=n'):Gd m n' d:=⟨h.lay,ZQ h.dep e,h.ok⟩
def Bt{m:Bool}{n:Nat}:∀{ds:List PyData},(∀d∈ds,Gd m n d)->PyData.canLayAll0 ds=true/\PyData.depthAll ds<=n/\kH m ds=true
 |[],_=>⟨by rw[PyData.canLayAll0],by rw[PyData.depthAll];omega,by rw[kH]⟩
 |d::r,h=>by
  obtain⟨a,b,c⟩:=Bt (ds:=r) λx hx=>h x (Y4 _ hx);have z:=h d (Y9 ..);refine⟨by rw[PyData.canLayAll0,a,z.lay];rfl,?_,by rw[kH,c,z.ok];rfl⟩;rw[PyData.depthAll];have:=z.dep;omega
def Gd.list{m:Bool}{n:Nat}{ds:List PyData}(h:∀d∈ds,Gd m n d):Gd m (n+1) (.list ds):=by
 obtain⟨a,b,c⟩:=Bt h;exact⟨by rw[PyData.canLay0];exact a,by rw[PyData.depth];omega,by rw[gw];exact c⟩
def Gd.tup{m:Bool}{n:Nat}{ds:List PyData}(h:∀d∈ds,Gd m n d):Gd m (n+1) (.tuple ds):=by
 obtain⟨a,b,c⟩:=Bt h;exact⟨by rw[PyData.canLay0];exact a,by rw[PyData.depth];omega,by rw[gw];exact c⟩
def Gd.shaped{m:Bool}{n:Nat}{d:PyData}(h:Gd m n d)(e:n<=64:=by decide):shaped d=true:=by
 unfold PySem.SeqAt.shaped;rw[h.lay,ZN (ZQ h.dep e)];rfl
section
variable {K:PySem.W.Frag}{H:Hp}{x y:V}{d d':PyData}{m:Bool}{Q:VK}
def YD(hx:Dt K H x d)(hy:Dt K H y d')(g:Gd m 64 d)(g':Gd m 64 d')(h:Q (.bl (same d d')) H):Wr (AK K x y H Q):=
 ⟨⟨d,d',hx,hy,g.shaped,g'.shaped,G0 m d d' g.ok g'.ok,h⟩⟩
def YE(hx:Dt K H x d)(hy:Dt K H y d)(g:Gd m 64 d)(h:Q (.bl true) H):Wr (AK K x y H Q):=
 YD hx hy g g (by rw[PyProof.Rows.same_refl];exact h)
end
def FG(x:Str)(h:(x.cps.all (· <0x110000))=true):(PyData.str x).canLay0=true:=by
 rw[PyData.canLay0];exact h
end My
namespace L2
open PySem
def uJ.YF{K:PySem.W.Frag}{Ce:Addr}{tb:XK->TS}{ts u:TS}{D:Ends}{σ:St}{H:Hp}
  (h:∀EE:XK,(∀(C:Addr) (H':Hp),PySem.W.exmOne K (.ref C) (.ref Ce)=some true->ts {D with nx:=u D} σ H'->EE (.ref C) none H')->tb EE {D with nx:=u D} σ H):pG (uJ K Ce tb ts) u D σ H:=
 h _ λC H' e q=>⟨C,rfl,e,q⟩
section
variable {X:Cx}{E:XK}{x m:Str}{C:Addr}{ps:List Str}{k j:Nat}{sp:Sp}{o e:Expr}{es:List Expr}{ta:TE}{t:TA}{apos p pos:Pos}{pl:Sem Bool}
def J3{X:Cx}:Passes (bH X.prog X.w) X E0:=λ_ _ _ _ _ _ _ ⟨_,_,_,_,_,_,_,z⟩=>z.elim
def qa.pe(R:qa X.prog X.w X.K X.mg X.base x ps k sp)(hr:bG j X.A)(ha:PA (X.cp (eC X E)) (e::es) t)(hg:Gl X x:=by rfl)(hj:k<=j:=by decide)
  (eZ:(x==("__debug__":Str))=false:=by decide)(he:starEach (e::es) X.env=(false,eval e X.env)::starEach es X.env:=by rfl)(bL:(backTo pos (starEach es X.env)).any (·.1)=false:=by rfl):
  PE (X.cp (eC X E)) (.Call (.Name x p) (e::es) [] pos) (uD sp [] E t):=HY (X:=X.cp (eC X E)) R.ok (hr.mono hj) hg R.pR R.kp R.bd .nil Ah ha eZ he bL
end
end L2
namespace My
open PySem L2
def EL{K:PySem.W.Frag}{a:Addr}{xs:List V}{ix:List Nat}{te:TE}{σ:St}{H:Hp}{Q:VK}(f:V->V)(hq:ah K H a xs)(hl:xs.length<sizeLine)
  (he:∀z∈xs,∀(H':Hp) (Q':VK),aa H H'->Q' (f z) H'->te (bS ix (some z) σ) H' Q')(h:∀(D:Addr) (H':Hp),H D=none->H' D=some (.lst (xs.map f))->aa H H'->Q (.ref D) H'):Wr (jo (dF K a) ix te σ H Q):=
 ⟨λD hD=>Fi f hq hl he (λD hD=>h D _ hD ak ((aa.refl H).upd hD)) D hD⟩
def cC{K:PySem.W.Frag}{H:Hp}{a:Addr}{xs:List V}{i:Int}{v:V}{Q:VK}(hq:H a=some (.tup xs))(e:jy xs i=some v)(h:Q v H):Wr (fH K (.ref a) (.int i) H Q):=⟨⟨a,xs,i,v,rfl,rfl,aV.of hq,e,h⟩⟩
def jg{H:Hp}{xs:List V}{Q:VK}(hl:xs.length<=1000)(h:∀(p:Addr) (H':Hp),H p=none->H' p=some (.lst xs)->aa H H'->Q (.ref p) H'):Wr (uQ xs H Q):=
 ⟨⟨Z1 (bD (by omega)),λp hp=>h p _ hp ak ((aa.refl H).upd hp)⟩⟩
def yZ{H:Hp}{a b:Addr}{xs ys:List V}{Q:VK}(ha:H a=some (.lst xs))(hb:H b=some (.lst ys))(hl:xs.length+ys.length<=10000000)(h:∀(p:Addr) (H':Hp),H p=none->H' p=some (.lst (xs++ys))->aa H H'->Q (.ref p) H'):Wr (uN (.ref a) (.ref b) H Q):=
 ⟨⟨a,b,_,_,rfl,rfl,ha,hb,Z1 (bD hl),λp hp=>h p _ hp ak ((aa.refl H).upd hp)⟩⟩
section
variable {X:Cx}{E:XK}{x m:Str}{C:Addr}{ps:List Str}{k j:Nat}{sp:Sp}{o e:Expr}{es:List Expr}{ta:TE}{t:TA}{apos p pos:Pos}{pl:Sem Bool}
structure bO(P:Program)(w:World)(K:PySem.W.Frag)(mg:Str->Option Value)(base:Heap)(C:Addr)(m:Str)(ps:List Str)(k:Nat)(sp:Sp) where
 f:Addr
 fd:FuncData
 ok:aA P w K mg base (bH P w) k f fd ps sp
 cl:dM K C
 mt:Meth K C m f
 bd:Binds K fd ps []
def bO.px(R:bO X.prog X.w X.K X.mg X.base C m ps k sp)(hr:bG j X.A)(ho:PE X.gu o ta)(ha:PA X.gu (e::es) t)(hj:k<=j:=by decide)
  (he:starEach (e::es) X.env=(false,eval e X.env)::starEach es X.env:=by rfl)(bL:(backTo pos (starEach es X.env)).any (·.1)=false:=by rfl)
  (ht:eval (.Call (.Attribute o m apos) (e::es) [] pos) X.env=(do
   let ov<-eval o X.env
   standAt apos.atName
   let(f,first)<-holding [ov] (getMethod ov m pl)
   callWith pos f first (backTo pos (starEach (e::es) X.env)) (backToKw pos (keywordEach [] X.env))):=by rfl):
  PX X (.Call (.Attribute o m apos) (e::es) [] pos) (λE=>ji C m sp [] E ta t):=WM ho R.cl R.mt R.ok (hr.mono hj) R.bd .nil ha he bL ht
def bO.pe(R:bO X.prog X.w X.K X.mg X.base C m ps k sp)(hr:bG j X.A)(ho:PE (X.cp (eC X E)) o ta)(ha:PA (X.cp (eC X E)) (e::es) t)(hj:k<=j:=by decide)
  (he:starEach (e::es) X.env=(false,eval e X.env)::starEach es X.env:=by rfl)(bL:(backTo pos (starEach es X.env)).any (·.1)=false:=by rfl)
  (ht:eval (.Call (.Attribute o m apos) (e::es) [] pos) X.env=(do
   let ov<-eval o X.env
   standAt apos.atName
   let(f,first)<-holding [ov] (getMethod ov m pl)
   callWith pos f first (backTo pos (starEach (e::es) X.env)) (backToKw pos (keywordEach [] X.env))):=by rfl):
  PE (X.cp (eC X E)) (.Call (.Attribute o m apos) (e::es) [] pos) (ji C m sp [] E ta t):=yJ (X:=X.cp (eC X E)) ho R.cl R.mt R.ok (hr.mono hj) R.bd .nil Ah ha he bL ht
def bO.cS(R:bO X.prog X.w X.K X.mg X.base C m ps k sp)(hr:bG j X.A)(ho:PE X o ta)(ha:PA X (e::es) t)(hj:k<=j:=by decide)
  (he:starEach (e::es) X.env=(false,eval e X.env)::starEach es X.env:=by rfl)(bL:(backTo pos (starEach es X.env)).any (·.1)=false:=by rfl)
  (ht:eval (.Call (.Attribute o m apos) (e::es) [] pos) X.env=(do
   let ov<-eval o X.env
   standAt apos.atName
   let(f,first)<-holding [ov] (getMethod ov m pl)
   callWith pos f first (backTo pos (starEach (e::es) X.env)) (backToKw pos (keywordEach [] X.env))):=by rfl):
  PE X (.Call (.Attribute o m apos) (e::es) [] pos) (ji C m sp [] E0 ta t):=yJ ho R.cl R.mt R.ok (hr.mono hj) R.bd .nil J3 ha he bL ht
structure LQ(P:Program)(w:World)(K:PySem.W.Frag)(mg:Str->Option Value)(base:Heap)(C:Addr)(x:Str)(ps:List Str)(k:Nat)(sp:Sp) where
 f:Addr
 fd:FuncData
 ok:aA P w K mg base (bH P w) k f fd ps sp
 Mt:Mk K C f
 pR:mg x=some (.ref C)
 bd:Binds K fd ps []
end
inductive G4(C:Addr)(cN:Addr)(vs:List V)(H:Hp)(Q:VK)(E:XK):Prop
 |mk (g:Addr) (k n:Nat) (T:Tab) (fp:List Addr) (c:Int) (_:vs=[.ref g,.int c]) (_:de C H g k n T fp) (_:(0<=c/\c<n->Q .aE H)) (_:(¬(0<=c/\c<n)->E (.ref cN) none H)):G4 C cN vs H Q E
def J4(C:Addr)(cN:Addr):Sp:=G4 C cN
inductive G5(cK:Addr)(vs:List V)(H:Hp)(Q:VK)(E:XK):Prop
 |mk (k:Nat) (wa:Addr) (ws:List Int) (_:vs=[.int k,.ref wa]) (_:ax H wa ws) (_:((∀l∈ws,Let k l)->Q .aE H)) (_:(¬(∀l∈ws,Let k l)->E (.ref cK) none H)):G5 cK vs H Q E
def J5(cK:Addr):Sp:=G5 cK
end My
namespace L2
open PySem PySem.Spec PyProof.Rows
def sC{X:Cx}{st:Stmt}{t:TS}{rest:List Stmt}{u:TS}(h1:PS X st t)(h2:cW X rest u):cW X (st::rest) (pG t u):=ba h1 h2
def sO{X:Cx}{st:Stmt}{t:TS}(h:PS X st t):cW X [st] t:=bx h
def sS{X:Cx}{i:Nat}{x:Str}{e:Expr}{te:TE}{pos pos':Pos}(hN:X.N.Nodup)(hi:X.N[i]?=some x)(hx:Loc X.env.scope x)(he:PE X e te)(hs:swapsWith e (some (.Name x pos')) pos.line X.env=pure false)(hf:X.fn x=true\/X.env.scope.names.lookup x=some .local):
  PS X (.Assign [.Name x pos'] e pos) (l8 te (iG i)):=bI hN hi hx he hs hf
def sR{X:Cx}{e:Expr}{te:TE}{pos:Pos}(he:PE X e te):PS X (.Return (some e) pos) (Ll te):=iC he
def aC{X:Cx}{e:Expr}{te:TE}{es:List Expr}{t:TA}(ha:PE X e te)(hr:PA X es t)(hs:starEach (e::es) X.env=(false,eval e X.env)::starEach es X.env):PA X (e::es) (jR te t):=aq ha hr hs
def eL{X:Cx}{es:List Expr}{t:TA}{pos:Pos}(h:PA X es t):PE X (.List es pos) (KJ t):=dU h
def MC{α:Type}{us:List α}(h:us.length=1):∃a,us=[a]:=by
 match us,h with
 |[a],_=>exact⟨a,rfl⟩
def Bu{α:Type}{us:List α}(h:us.length=2):∃a b,us=[a,b]:=by
 cases us with
 |nil=>cases h
 |cons a r=>obtain⟨b,rfl⟩:=MC (us:=r) (by simpa using h);exact⟨a,b,rfl⟩
def MD{α:Type}{us:List α}(h:us.length=3):∃a b c,us=[a,b,c]:=by
 cases us with
 |nil=>cases h
 |cons a r=>obtain⟨b,c,rfl⟩:=Bu (us:=r) (by simpa using h);exact⟨a,b,c,rfl⟩
def MF{α:Type}{us:List α}(h:us.length=4):∃a b c d,us=[a,b,c,d]:=by
 cases us with
 |nil=>cases h
 |cons a r=>obtain⟨b,c,d,rfl⟩:=MD (us:=r) (by simpa using h);exact⟨a,b,c,d,rfl⟩
def us5{α:Type}{us:List α}(h:us.length=5):∃a b c d e,us=[a,b,c,d,e]:=by
 cases us with
 |nil=>cases h
 |cons a r=>obtain⟨b,c,d,e,rfl⟩:=MF (us:=r) (by simpa using h);exact⟨a,b,c,d,e,rfl⟩
def aP{N P:List Str}{sc:Scope}(a:sc.kind=.function:=by rfl)(b:sc.isCoroutine=false:=by rfl)(c:sc.isGenerator=false:=by rfl)(d:N.Nodup:=by decide+kernel)(e:N.take P.length=P:=by rfl)(f:∀x∈P,sc.names.lookup x=some .local\/sc.names.lookup x=some .cell:=by decide+kernel)(g:∀y∈sc.names,y.2≠.free:=by decide+kernel):aM N P sc:=⟨a,b,c,d,e,f,g⟩
end L2
namespace My
open PySem L2
section
variable {X:Cx}{E:XK}{m:Str}{C:Addr}{ps:List Str}{k j:Nat}{sp:Sp}{o:Expr}{ta:TE}{apos pos:Pos}{pl:Sem Bool}
def bO.pz(R:bO X.prog X.w X.K X.mg X.base C m ps k sp)(hr:bG j X.A)(ho:PE (X.cp (eC X E)) o ta)(hj:k<=j:=by decide)
  (ht:eval (.Call (.Attribute o m apos) [] [] pos) X.env=(do
   let ov<-eval o X.env
   standAt apos.atName
   let(f,first)<-holding [ov] (getMethod ov m pl)
   callWith pos f first (backTo pos (starEach [] X.env)) (backToKw pos (keywordEach [] X.env))):=by rfl):
  PE (X.cp (eC X E)) (.Call (.Attribute o m apos) [] [] pos) (ji C m sp [] E ta jT):=yj (X:=X.cp (eC X E)) ho R.cl R.mt R.ok (hr.mono hj) R.bd .nil Ah ht
def bO.MG(R:bO X.prog X.w X.K X.mg X.base C m ps k sp)(hr:bG j X.A)(ho:PE X o ta)(hj:k<=j:=by decide)
  (ht:eval (.Call (.Attribute o m apos) [] [] pos) X.env=(do
   let ov<-eval o X.env
   standAt apos.atName
   let(f,first)<-holding [ov] (getMethod ov m pl)
   callWith pos f first (backTo pos (starEach [] X.env)) (backToKw pos (keywordEach [] X.env))):=by rfl):
  PE X (.Call (.Attribute o m apos) [] [] pos) (ji C m sp [] E0 ta jT):=yj ho R.cl R.mt R.ok (hr.mono hj) R.bd .nil J3 ht
end
def Sa{i:Nat}{v:V}{u:TS}{D:Ends}{σ:St}{H:Hp}(h:u D (σ.set i (some v)) H):pG (l8 (tC v) (iG i)) u D σ H:=h
def IP{n:Nat}{rows:List Addr}{rd:Addr->List Int}(R:Rows n rows rd):∀(as:List Addr) (st:FS),bq n rows rd st->(∀a∈as,a∈rows)->
  bq n rows rd (as.foldl (fJ rd) st)/\(as.foldl (fJ rd) st).l=st.l/\(as.foldl (fJ rd) st).ss=st.ss/\(as.foldl (fJ rd) st).W.length<=st.W.length+2*as.length:=by
 intro as
 induction as with
 |nil=>intro st h _;exact⟨h,rfl,rfl,Y3 _⟩
 |cons a as ih=>
  intro st h ha;obtain⟨h1,h2,h3,h4⟩:=h.lay R (ha a (Y9 ..));obtain⟨g1,g2,g3,g4⟩:=ih _ h1 λb hb=>ha b (Y4 _ hb);refine⟨g1,g2.trans h2,g3.trans h3,?_⟩;simp only[List.foldl_cons,ZF];omega
def FL(n:Nat)(rs:List (List Int))(st:Ps)(l:List Int):Prop:=dP n rs st l/\closed rs l
def FL.unique{n:Nat}{rs:List (List Int)}{st:Ps}{l l':List Int}(h:FL n rs st l)(h':FL n rs st l'):l=l':=dP.unique h.1 h.2 h'.1 h'.2
open Classical in
noncomputable def fl(n:Nat)(rs:List (List Int)):List Int:=if h:∃l,FL n rs [] l then Classical.choose h else []
def FL.eq{n:Nat}{rs:List (List Int)}{l:List Int}(h:FL n rs [] l):l=fl n rs:=by
 unfold fl;have e:∃l,FL n rs [] l:=⟨l,h⟩;rw[dif_pos e];exact h.unique (Classical.choose_spec e)
inductive FH(vs:List V)(H:Hp)(Q:VK)(aD:XK):Prop
 |mk (n:Nat) (lr ls:Addr) (ps start:Ps) (_:vs=[.int n,.ref lr,.ref ls]) (_:Tl H lr ps) (_:Tl H ls start) (_:(∀p∈ps,b8 n p.2/\1<=p.2.getD 2 0/\p.2.getD 2 0<=5)) (_:(∀p∈start,eP n p.2)) (_:n<=700) (_:ps.length<=1000) (_:start.length<=1000) (_:∀(t l1 l2:Addr) (sp:Ps) (l:List Int) (H':Hp),H' t=some (.tup [.ref l1,.ref l2])->ax H' l1 l->Tl H' l2 sp->FL n (ps.map (·.2)) start l->(pX ps->wP ps (dZ n start) (sp.map (·.2))=some l/\∀r∈sp.map (·.2),uI r)->sp.length<=9000000->H l1=none->H l2=none->aa H H'->Q (.ref t) H'):FH vs H Q aD
def qW:Sp:=FH
def UC{vs:List V}{H:Hp}{Q:VK}{E:XK}(h:qW vs H Q E):GN vs H Q E:=by
 obtain⟨n,lr,ls,ps,start,rfl,tr,ts,fj,bz,hn,bL,vA,q⟩:=h;have tp:=tr.tp
 have R:Rows n (ps.map (·.1)) (bZ ps):=by
  refine⟨λr hr=>?_,λr hr=>?_⟩
  all_goals obtain⟨p,hp,rfl⟩:=Zh.mp hr
  all_goals rw[lO tp hp]
  ·exact(fj p hp).1
  ·exact(fj p hp).2
 have sN:bq n (ps.map (·.1)) (bZ ps) (iX n start):=JX bz;obtain⟨o1,o2,o3,o4⟩:=IP R (ps.map (·.1)) (iX n start) sN λa ha=>ha;refine⟨n,lr,ls,ps,start,λst=>(dP n (ps.map (·.2)) start st.l/\sH n (bZ ps) (λr s=>r∈ps.map (·.1)/\dI s) st)/\(pX ps->JP ps (dZ n start) st),rfl,tr,ts,fj,bz,hn,bL,vA,?_,⟨⟨?_,?_⟩,λu=>?_⟩,?_⟩
 ·exact λst W x y s ok eW ⟨⟨j1,j2⟩,j3⟩=>⟨⟨R6 tp bz R st W x y s ok eW j1,Uw R (λr s h=>h) st W x y s ok eW j2⟩,λu=>Qh u tp R st W x y s ok eW (j3 u)⟩
 ·unfold zH;rw[o2];exact yr bz
 ·have:=WJ R (ps.map (·.1)) (iX n start) (λ_ _=>False) sN (λa ha=>ha) λr s z=>z.elim;exact λr s z=>this r s (.inr z)
 ·unfold zH JP;rw[o2,o3];exact⟨rfl,(λ_ z=>nomatch z)⟩
 ·intro t l1 l2 sp st H' ht h1 h2 es ok j w hl f1 f2 s;refine q t l1 l2 sp st.l H' ht h1 h2 ⟨j.1.1,QR tp ok j.1.2 w⟩ (λu=>?_) hl f1 f2 s;have:=j.2 u;rw[es];exact this
inductive En where
 |row(i a k b:Int)
 |ap(i a b:Int)
def En.num:En->Int
 |.row i _ _ _=>i
 |.ap i _ _=>i
def En.told:En->List V
 |.row _ a k b=>[.str "row",.int a,.int k,.int b]
 |.ap _ a b=>[.str "apart",.int a,.int b]
def En.vs(e:En):List V:=.int e.num::e.told
def En.re(e:En)(i:Int):En:=match e with
 |.row _ a k b=>.row i a k b
 |.ap _ a b=>.ap i a b
def aB(n:Nat)(a:Int):Prop:=0<=a/\a<n
def b3(k n:Nat):En->Prop
 |.row _ a kd b=>aB n a/\(1<=kd/\kd<=k)/\aB n b
 |.ap _ a b=>aB n a/\aB n b
def b3.mono{k n n':Nat}{e:En}(h:b3 k n e)(hn:n<=n'):b3 k n' e:=by
 cases e with
 |row i a kd b=>obtain⟨⟨a0,a1⟩,h2,⟨b0,b1⟩⟩:=h;exact⟨⟨a0,by omega⟩,h2,⟨b0,by omega⟩⟩
 |ap i a b=>obtain⟨⟨a0,a1⟩,⟨b0,b1⟩⟩:=h;exact⟨⟨a0,by omega⟩,⟨b0,by omega⟩⟩
def rowsOf(es:List En):List (List Int):=es.filterMap λe=>match e with
 |.row i a k b=>some [i,a,k,b]
 |.ap ..=>none
def cw(es:List En)(l:List Int):Option Int:=es.findSome? λe=>match e with
 |.row ..=>none
 |.ap i a b=>if l.getD a.toNat 0=l.getD b.toNat 0 then some i else none
def QS(i a k b:Int)(es:List En)(l:List Int):cw (.row i a k b::es) l=cw es l:=rfl
def ya(i a b:Int)(es:List En)(l:List Int):cw (.ap i a b::es) l=if l.getD a.toNat 0=l.getD b.toNat 0 then some i else cw es l:=by
 unfold cw;rw[List.findSome?_cons];by_cases z:l.getD a.toNat 0=l.getD b.toNat 0
 ·rw[if_pos z];simp only[if_pos z]
 ·rw[if_neg z];simp only[if_neg z]
def oR(a b:List En):rowsOf (a++b)=rowsOf a++rowsOf b:=List.filterMap_append
def jI{k n:Nat}{es:List En}(k5:k<=5)(h:∀e∈es,b3 k n e):∀r∈rowsOf es,b8 n r/\1<=r.getD 2 0/\r.getD 2 0<=5:=λr hr=>by
 obtain⟨e,he,h1⟩:=List.mem_filterMap.mp hr;have:=h e he;cases e with
 |row i a kd b=>
  cases h1;obtain⟨⟨a0,a1⟩,⟨k0,k1⟩,⟨b0,b1⟩⟩:=this;refine⟨⟨i,a.toNat,kd,b.toNat,?_,by omega,by omega⟩,?_,?_⟩
  ·rw[Zw a0,Zw b0]
  ·exact k0
  ·show kd<=5;omega
 |ap i a b=>cases h1
def oU(es:List En):(rowsOf es).length<=es.length:=List.length_filterMap_le ..
structure El(H:Hp)(fp:List Addr)(l:Addr)(es:List En):Prop where
 ob:∃ps:List (Addr×En),H l=some (.lst (ps.map λp=>V.ref p.1))/\(∀p∈ps,H p.1=some (.tup p.2.vs))/\ps.map (·.2)=es/\l∈fp/\∀p∈ps,p.1∈fp
def El.on{H H':Hp}{fp:List Addr}{l:Addr}{es:List En}(h:El H fp l es)(s:∀a∈fp,∀o,H a=some o->H' a=some o):El H' fp l es:=by
 obtain⟨ps,h1,h2,h3,h4,h5⟩:=h.ob;exact⟨ps,s l h4 _ h1,λp hp=>s _ (h5 p hp) _ (h2 p hp),h3,h4,h5⟩
def El.same{H H':Hp}{fp:List Addr}{l:Addr}{es:List En}(h:El H fp l es)(s:aa H H'):El H' fp l es:=h.on λa _ o e=>s a o e
def El.sub{H:Hp}{fp sP:List Addr}{l:Addr}{es:List En}(h:El H fp l es)(s:∀a∈fp,a∈sP):El H sP l es:=by
 obtain⟨ps,h1,h2,h3,h4,h5⟩:=h.ob;exact⟨ps,h1,h2,h3,s l h4,λp hp=>s _ (h5 p hp)⟩
def El.other{H:Hp}{fp:List Addr}{l x:Addr}{es:List En}{o:HO}(h:El H fp l es)(n:x∉fp):El (upd H x o) fp l es:=h.on λa ha _ e=>by
 have ne:a≠x:=λz=>n (z▸ha);rw[aj ne];exact e
structure Bk where
 k:Nat
 n:Nat
 es:List En
 c:Int
 hs:List (Nat×List En×Int)
def bf(k n:Nat)(ls:Addr)(c:Int)(lh:Addr):List (Str×V):=[("kinds",.int k),("many",.int n),("standing",.ref ls),("coming",.int c),("held",.ref lh)]
def AW(k n:Nat)(ls:Addr)(c:Int)(lh:Addr):(bf k n ls c lh).lookup ("kinds":Str)=some (.int k):=rfl
def ju(k n:Nat)(ls:Addr)(c:Int)(lh:Addr):(bf k n ls c lh).lookup ("many":Str)=some (.int n):=rfl
def iM(k n:Nat)(ls:Addr)(c:Int)(lh:Addr):(bf k n ls c lh).lookup ("standing":Str)=some (.ref ls):=rfl
def uV(k n:Nat)(ls:Addr)(c:Int)(lh:Addr):(bf k n ls c lh).lookup ("coming":Str)=some (.int c):=rfl
def rS(k n:Nat)(ls:Addr)(c:Int)(lh:Addr):(bf k n ls c lh).lookup ("held":Str)=some (.ref lh):=rfl
def KY(k n n':Nat)(ls:Addr)(c:Int)(lh:Addr):aW "many" (.int n') (bf k n ls c lh)=bf k n' ls c lh:=rfl
def Aj(k n:Nat)(ls qd:Addr)(c:Int)(lh:Addr):aW "standing" (.ref qd) (bf k n ls c lh)=bf k n qd c lh:=rfl
def KZ(k n:Nat)(ls:Addr)(c c':Int)(lh:Addr):aW "coming" (.int c') (bf k n ls c lh)=bf k n ls c' lh:=rfl
def aaX(k n:Nat)(ls:Addr)(c:Int)(lh dm:Addr):aW "held" (.ref dm) (bf k n ls c lh)=bf k n ls c dm:=rfl
structure dC(K:PySem.W.Frag)(mg:Str->Option Value)(C:Addr):Prop where
 cl:dM K C
 nk:NoAttr K C "kinds"
 nn:NoAttr K C "many"
 ns:NoAttr K C "standing"
 nc:NoAttr K C "coming"
 nh:NoAttr K C "held"
 mk5:∃t,mg "MOST_KINDS"=some (.int 5 t)
 vB:∃t,mg "MOST_MARKS"=some (.int 24 t)
 m40:∃t,mg "MOST_ENTRIES"=some (.int 40 t)
 row:∃t,mg "ROW"=some (.str "row" t)
 ap:∃t,mg "APART"=some (.str "apart" t)
structure Hl(H:Hp)(fp:List Addr)(lh:Addr)(hs:List (Nat×List En×Int)):Prop where
 ob:∃qs:List (Addr×Addr×(Nat×List En×Int)),H lh=some (.lst (qs.map λq=>V.ref q.1))/\(∀q∈qs,H q.1=some (.tup [.int q.2.2.1,.ref q.2.1,.int q.2.2.2.2])/\El H fp q.2.1 q.2.2.2.1/\q.1∈fp)/\qs.map (·.2.2)=hs
structure aL(C:Addr)(H:Hp)(g lh:Addr)(B:Bk)(rest:List Addr):Prop where
 k1:1<=B.k
 k5:B.k<=5
 bM:B.n<=24
 cu:B.es.length<=40
 ok:∀e∈B.es,b3 B.k B.n e
 ob:∃dx ls,H g=some (.ins C dx (bf B.k B.n ls B.c lh))/\El H rest ls B.es
 hl:Hl H rest lh B.hs
 hh:∀h∈B.hs,h.1<=24/\h.2.1.length<=40/\∀e∈h.2.1,b3 B.k h.1 e
 nl:lh∉rest
 ng:g∉rest
 lv:∀a∈rest,∃o,H a=some o
def Hl.on{H H':Hp}{fp:List Addr}{lh:Addr}{hs:List (Nat×List En×Int)}(h:Hl H fp lh hs)(s:∀a∈lh::fp,∀o,H a=some o->H' a=some o):Hl H' fp lh hs:=by
 obtain⟨qs,h1,h2,h3⟩:=h.ob;exact⟨qs,s lh (Y9 ..) _ h1,λq hq=>⟨s _ (Y4 _ (h2 q hq).2.2) _ (h2 q hq).1,(h2 q hq).2.1.on λa ha=>s a (Y4 _ ha),(h2 q hq).2.2⟩,h3⟩
def Hl.sub{H:Hp}{fp sP:List Addr}{lh:Addr}{hs:List (Nat×List En×Int)}(h:Hl H fp lh hs)(s:∀a∈fp,a∈sP):Hl H sP lh hs:=by
 obtain⟨qs,h1,h2,h3⟩:=h.ob;exact⟨qs,h1,λq hq=>⟨(h2 q hq).1,(h2 q hq).2.1.sub s,s _ (h2 q hq).2.2⟩,h3⟩
section
variable {C:Addr}{H H':Hp}{g lh:Addr}{B:Bk}{rest:List Addr}
def aL.on(h:aL C H g lh B rest)(s:∀a∈g::lh::rest,∀o,H a=some o->H' a=some o):aL C H' g lh B rest:=by
 obtain⟨dx,ls,h1,h2⟩:=h.ob
 exact⟨h.k1,h.k5,h.bM,h.cu,h.ok,⟨dx,ls,s g (Y9 ..) _ h1,h2.on λa ha=>s a (Y4 _ (Y4 _ ha))⟩,h.hl.on λa ha=>s a (Y4 _ ha),h.hh,h.nl,h.ng,λa ha=>by
  obtain⟨o,e⟩:=h.lv a ha;exact⟨o,s a (Y4 _ (Y4 _ ha)) _ e⟩⟩
def aL.same(h:aL C H g lh B rest)(s:aa H H'):aL C H' g lh B rest:=h.on λa _ o e=>s a o e
def aL.other{x:Addr}{o:HO}(h:aL C H g lh B rest)(n:x∉g::lh::rest):aL C (upd H x o) g lh B rest:=h.on λa ha _ e=>by
 have ne:a≠x:=λz=>n (z▸ha);rw[aj ne];exact e
def aL.fld{dx ls:Addr}{B':Bk}(h:aL C H g lh B rest)(hg:H g=some (.ins C dx (bf B.k B.n ls B.c lh))){qd:Addr}(el:El H rest qd B'.es)(ek:B'.k=B.k)(eh:B'.hs=B.hs)(bM:B'.n<=24)(cu:B'.es.length<=40)(ok:∀e∈B'.es,b3 B'.k B'.n e):
  aL C (upd H g (.ins C dx (bf B'.k B'.n qd B'.c lh))) g lh B' rest:=by
 have mI:lh≠g:=λz=>by
  obtain⟨qs,h1,_⟩:=h.hl.ob;rw[z,hg]at h1;cases h1
 refine⟨by rw[ek];exact h.k1,by rw[ek];exact h.k5,bM,cu,ok,⟨dx,qd,ak,el.other h.ng⟩,?_,by rw[eh,ek];exact h.hh,h.nl,h.ng,λa ha=>by
  obtain⟨o,e⟩:=h.lv a ha;exact⟨o,by rw[aj (show a≠g from λz=>h.ng (z▸ha))];exact e⟩⟩
 rw[eh];refine h.hl.on λa ha o e=>?_
 have ne:a≠g:=λz=>by
  rcases Y5.mp ha with q|q
  ·exact mI (q▸z)
  ·exact h.ng (z▸q)
 rw[aj ne];exact e
def aL.more{aR:List Addr}(h:aL C H g lh B rest)(s:∀a∈rest,a∈aR)(n1:lh∉aR)(n2:g∉aR)(n3:∀a∈aR,∃o,H a=some o):aL C H g lh B aR:=by
 obtain⟨dx,ls,h1,h2⟩:=h.ob;exact⟨h.k1,h.k5,h.bM,h.cu,h.ok,⟨dx,ls,h1,h2.sub s⟩,h.hl.sub s,h.hh,n1,n2,n3⟩
def aL.not{x:Addr}(h:aL C H g lh B rest)(hx:H x=none):x∉g::lh::rest:=λz=>by
 rcases Y5.mp z with z|z
 ·obtain⟨dx,ls,h1,h2⟩:=h.ob;rw[<-z,hx]at h1;cases h1
 rcases Y5.mp z with z|z
 ·obtain⟨qs,h3,_⟩:=h.hl.ob;rw[<-z,hx]at h3;cases h3
 ·obtain⟨o,e⟩:=h.lv x z;rw[hx]at e;cases e
def aL.lg(h:aL C H g lh B rest):H lh≠none/\H g≠none:=by
 obtain⟨dx,ls,h1,h2⟩:=h.ob;obtain⟨qs,h3,_⟩:=h.hl.ob;exact⟨by rw[h3];exact(λz=>nomatch z),by rw[h1];exact(λz=>nomatch z)⟩
end
def Bk.add(B:Bk)(e:En):Bk:={B with es:=B.es++[e.re B.c],c:=B.c+1}
noncomputable def Bk.aG(B:Bk):List Int:=fl B.n (rowsOf B.es)
noncomputable def Bk.kI(B:Bk):En->Prop
 |.row _ a k b=>cw B.es (fl B.n (rowsOf B.es++[[B.c,a,k,b]]))≠none
 |.ap _ a b=>B.aG.getD a.toNat 0=B.aG.getD b.toNat 0
def Nw(H:Hp)(rest aR:List Addr):Prop:=∀x∈aR,x∈rest\/H x=none
def UD{K:PySem.W.Frag}{H:Hp}{a:Addr}{xs:List V}{Q:VK}(hq:H a=some (.lst xs))(h:∀(p:Addr) (H':Hp),H p=none->H' p=some (.lst xs)->aa H H'->Q (.ref p) H'):Wr (uG K [.ref a] H Q):=
 ⟨⟨a,_,rfl,.inl (ah.of hq),λp hp=>h p _ hp ak ((aa.refl H).upd hp)⟩⟩
inductive EM(vs:List V)(H:Hp)(Q:VK)(aD:XK):Prop
 |mk (l:Addr) (fp:List Addr) (es:List En) (_:vs=[.ref l]) (_:El H fp l es) (_:es.length<=1000) (_:∀(r:Addr) (ps:Ps) (H':Hp),H r=none->Tl H' r ps->ps.map (·.2)=rowsOf es->aa H H'->Q (.ref r) H'):EM vs H Q aD
def mY:Sp:=EM
inductive IQ(vs:List V)(H:Hp)(Q:VK)(aD:XK):Prop
 |mk (l ll:Addr) (fp:List Addr) (es:List En) (ls:List Int) (k:Nat) (_:vs=[.ref l,.ref ll]) (_:El H fp l es) (_:ax H ll ls) (_:(∀e∈es,b3 k ls.length e)) (_:Q (oV (cw es ls)) H):IQ vs H Q aD
def Ak:Sp:=IQ
inductive FI(C:Addr)(vs:List V)(H:Hp)(Q:VK)(aD:XK):Prop
 |mk (g dx:Addr) (k:Nat) (_:vs=[.ref g,.int k]) (_:H g=some (.ins C dx [])) (_:1<=k) (_:k<=5) (_:∀(H':Hp) (lh:Addr) (rest:List Addr),aL C H' g lh ⟨k,0,[],1,[]⟩ rest->H lh=none->(∀a∈rest,H a=none)->Kp g H H'->Q .aE H'):FI C vs H Q aD
def IS(C:Addr):Sp:=FI C
inductive EN(C cF:Addr)(vs:List V)(H:Hp)(Q:VK)(E:XK):Prop
 |mk (g lh:Addr) (B:Bk) (rest:List Addr) (_:vs=[.ref g]) (_:aL C H g lh B rest) (_:(B.n<24->∀H',aL C H' g lh {B with n:=B.n+1} rest->Kp g H H'->Q (.int B.n) H')) (_:(¬B.n<24->E (.ref cF) none H)):EN C cF vs H Q E
def yu(C cF:Addr):Sp:=EN C cF
inductive G6(C cM:Addr)(vs:List V)(H:Hp)(Q:VK)(E:XK):Prop
 |mk (g lh:Addr) (B:Bk) (rest:List Addr) (a b:Int) (_:vs=[.ref g,.int a,.int b]) (_:aL C H g lh B rest) (_:(aB B.n a/\aB B.n b->∀H',aa H H'->Q .aE H')) (_:(¬(aB B.n a/\aB B.n b)->∀H',aa H H'->E (.ref cM) none H')):G6 C cM vs H Q E
def rC(C cM:Addr):Sp:=G6 C cM
inductive G7(C cF:Addr)(vs:List V)(H:Hp)(Q:VK)(E:XK):Prop
 |mk (g lh:Addr) (B:Bk) (rest:List Addr) (_:vs=[.ref g]) (_:aL C H g lh B rest) (_:(B.es.length<40->Q .aE H)) (_:(¬B.es.length<40->E (.ref cF) none H)):G7 C cF vs H Q E
def zL(C cF:Addr):Sp:=G7 C cF
inductive FJ(C:Addr)(vs:List V)(H:Hp)(Q:VK)(aD:XK):Prop
 |mk (g lh:Addr) (B:Bk) (rest:List Addr) (t:Addr) (e:En) (_:vs=[.ref g,.ref t]) (_:aL C H g lh B rest) (_:H t=some (.tup e.told)) (_:b3 B.k B.n e) (_:B.es.length<40) (_:∀(H':Hp) (aR:List Addr),aL C H' g lh (B.add e) aR->Nw H rest aR->Kp g H H'->Q (.int B.c) H'):FJ C vs H Q aD
def y4(C:Addr):Sp:=FJ C
def c9(fi st:Int)(ns:List Int):List (List Int):=(List.range ns.length).map (rowAt fi st ns)
inductive FK(C cM cK:Addr)(vs:List V)(H:Hp)(Q:VK)(E:XK):Prop
 |mk (g lh:Addr) (B:Bk) (rest:List Addr) (a b:Int) (wa:Addr) (ws:List Int) (_:vs=[.ref g,.int a,.ref wa,.int b]) (_:aL C H g lh B rest) (_:ax H wa ws) (_:ws.length<=600) (_:(aB B.n a/\aB B.n b->(∀l∈ws,Let B.k l)->∀(t r:Addr) (ps:Ps) (H':Hp),H' t=some (.tup [.ref r,.int (bE B.n a ws.length)])->Tl H' r ps->ps.map (·.2)=rowsOf B.es++c9 B.n a ws->aa H H'->Q (.ref t) H')) (_:(¬(aB B.n a/\aB B.n b)->∀H',aa H H'->E (.ref cM) none H')) (_:(aB B.n a/\aB B.n b->¬(∀l∈ws,Let B.k l)->∀H',aa H H'->E (.ref cK) none H')):FK C cM cK vs H Q E
def y9(C cM cK:Addr):Sp:=FK C cM cK
def qE(fi st:Int)(ns:List Int):(c9 fi st ns).length=ns.length:=by simp[c9]
def Sb{fi st:Int}{ns:List Int}{i:Nat}(h:i<ns.length):(c9 fi st ns)[i]?=some (rowAt fi st ns i):=by simp[c9,h]
def UE{H:Hp}{r:Addr}{ts:List Addr}{fi st:Int}{ns:List Int}(h1:H r=some (.lst (ts.map V.ref)))(h2:ts.length=ns.length)(h3:∀(j:Nat) t,ts[j]?=some t->H t=some (.tup ((rowAt fi st ns j).map V.int))):∃ps:Ps,Tl H r ps/\ps.map (·.2)=c9 fi st ns:=by
 refine⟨ts.zip (c9 fi st ns),⟨?_,λp hp=>?_⟩,?_⟩
 ·rw[h1];have:(ts.zip (c9 fi st ns)).map (λp=>V.ref p.1)=((ts.zip (c9 fi st ns)).map Prod.fst).map V.ref:=by rw[ZK];rfl
  rw[this,List.map_fst_zip (by rw[qE];omega)]
 ·obtain⟨i,hi,e⟩:=ZD hp;have mG:i<ts.length:=by rw[List.length_zip]at hi;omega
  have fP:i<ns.length:=by omega
  have e1:p=(ts[i],rowAt fi st ns i):=by
   rw[<-e,List.getElem_zip];congr 1;simp[c9]
  rw[e1];exact h3 i _ (by simp[mG])
 ·exact List.map_snd_zip (by rw[qE];omega)
def Tl.cat{H H':Hp}{a b p:Addr}{ps qs:Ps}(h1:Tl H a ps)(h2:Tl H b qs)(s:aa H H')(h:H' p=some (.lst ((ps.map λp=>V.ref p.1)++(qs.map λp=>V.ref p.1)))):Tl H' p (ps++qs):=by
 refine⟨by rw[h,Ze],λx hx=>?_⟩;rcases Y7.mp hx with z|z
 ·exact s _ _ (h1.tp x z)
 ·exact s _ _ (h2.tp x z)
def tW{n:Nat}{a:Int}(h:aB n a)(i m:Nat)(hi:i<=m):0<=bE n a i/\bE n a i<((n+m:Nat):Int):=by
 unfold bE;obtain⟨h0,h1⟩:=h;split<;>omega
def yb{n k:Nat}{a:Int}{ws:List Int}(ha:aB n a)(k5:k<=5)(hl:∀l∈ws,Let k l):∀r∈c9 n a ws,b8 (n+ws.length) r/\1<=r.getD 2 0/\r.getD 2 0<=5:=λr hr=>by
 obtain⟨i,hi,rfl⟩:=Zh.mp hr;have hi:=ZU.mp hi;have hL:Let k (ws.getD i 0):=hl _ (by simp[List.getD,hi]);obtain⟨l0,l1,l2⟩:=hL;obtain⟨h0,h1⟩:=tW ha i ws.length (by omega);unfold rowAt;by_cases z:0<ws.getD i 0
 ·rw[if_pos z];refine⟨⟨-1-(i:Int),(bE n a i).toNat,ws.getD i 0,n+i,?_,by omega,by omega⟩,?_,?_⟩
  ·rw[Zw h0];rfl
  ·show 1<=ws.getD i 0;omega
  ·show ws.getD i 0<=5;omega
 ·rw[if_neg z];refine⟨⟨-1-(i:Int),n+i, -ws.getD i 0,(bE n a i).toNat,?_,by omega,by omega⟩,?_,?_⟩
  ·rw[Zw h0];rfl
  ·show 1<= -ws.getD i 0;omega
  ·show -ws.getD i 0<=5;omega
def qK{ps:Ps}{rs:List (List Int)}{p:List Int->Prop}(e:ps.map (·.2)=rs)(h:∀r∈rs,p r):∀x∈ps,p x.2:=λx hx=>h _ (e▸Zh.mpr ⟨x,hx,rfl⟩)
def mZ{ps:Ps}{rs:List (List Int)}(e:ps.map (·.2)=rs):ps.length=rs.length:=by rw[<-e,Y1]
noncomputable def Bk.jv(B:Bk)(a:Int)(ws:List Int):List Int:=fl (B.n+ws.length) (rowsOf B.es++c9 B.n a ws)
inductive FN(C cM cK:Addr)(vs:List V)(H:Hp)(Q:VK)(E:XK):Prop
 |mk (g lh:Addr) (B:Bk) (rest:List Addr) (a b:Int) (wa:Addr) (ws:List Int) (_:vs=[.ref g,.int a,.ref wa,.int b]) (_:aL C H g lh B rest) (_:ax H wa ws) (_:ws.length<=600) (_:(aB B.n a/\aB B.n b->(∀l∈ws,Let B.k l)->(B.jv a ws).getD (bE B.n a ws.length).toNat 0=(B.jv a ws).getD b.toNat 0->∀(l2:Addr) (sp ps:Ps) (H':Hp),Tl H' l2 sp->ps.map (·.2)=rowsOf B.es++c9 B.n a ws->(pX ps->wP ps (dZ (B.n+ws.length) []) (sp.map (·.2))=some (B.jv a ws)/\∀r∈sp.map (·.2),uI r)->sp.length<=9000000->H l2=none->aa H H'->Q (.ref l2) H')) (_:(aB B.n a/\aB B.n b->(∀l∈ws,Let B.k l)->¬(B.jv a ws).getD (bE B.n a ws.length).toNat 0=(B.jv a ws).getD b.toNat 0->∀H',aa H H'->Q .aE H')) (_:(¬(aB B.n a/\aB B.n b)->∀H',aa H H'->E (.ref cM) none H')) (_:(aB B.n a/\aB B.n b->¬(∀l∈ws,Let B.k l)->∀H',aa H H'->E (.ref cK) none H')):FN C cM cK vs H Q E
def za(C cM cK:Addr):Sp:=FN C cM cK
def Bk.G8(B:Bk)(a:Int):B.jv a []=B.aG:=by
 unfold Bk.jv Bk.aG;rw[show c9 B.n a []=[]from rfl,ZX];rfl
inductive G9(C cM:Addr)(vs:List V)(H:Hp)(Q:VK)(E:XK):Prop
 |mk (g lh:Addr) (B:Bk) (rest:List Addr) (a b:Int) (_:vs=[.ref g,.int a,.int b]) (_:aL C H g lh B rest) (_:(aB B.n a/\aB B.n b->B.aG.getD a.toNat 0=B.aG.getD b.toNat 0->∀(l2:Addr) (sp ps:Ps) (H':Hp),Tl H' l2 sp->ps.map (·.2)=rowsOf B.es->(pX ps->wP ps (dZ B.n []) (sp.map (·.2))=some B.aG/\∀r∈sp.map (·.2),uI r)->sp.length<=9000000->H l2=none->aa H H'->Q (.ref l2) H')) (_:(aB B.n a/\aB B.n b->¬B.aG.getD a.toNat 0=B.aG.getD b.toNat 0->∀H',aa H H'->Q .aE H')) (_:(¬(aB B.n a/\aB B.n b)->∀H',aa H H'->E (.ref cM) none H')):G9 C cM vs H Q E
def J6(C cM:Addr):Sp:=G9 C cM
inductive FP(C cM:Addr)(vs:List V)(H:Hp)(Q:VK)(E:XK):Prop
 |mk (g lh:Addr) (B:Bk) (rest:List Addr) (a b:Int) (_:vs=[.ref g,.int a,.int b]) (_:aL C H g lh B rest) (_:(aB B.n a/\aB B.n b->∀H',aa H H'->Q (.bl (decide (B.aG.getD a.toNat 0=B.aG.getD b.toNat 0))) H')) (_:(¬(aB B.n a/\aB B.n b)->∀H',aa H H'->E (.ref cM) none H')):FP C cM vs H Q E
def IT(C cM:Addr):Sp:=FP C cM
inductive FQ(C cM cK cF cB:Addr)(vs:List V)(H:Hp)(Q:VK)(E:XK):Prop
 |mk (g lh:Addr) (B:Bk) (rest:List Addr) (a kd b:Int) (_:vs=[.ref g,.int a,.int kd,.int b]) (_:aL C H g lh B rest) (_:(aB B.n a/\aB B.n b->(1<=kd/\kd<=B.k)->B.es.length<40->¬B.kI (.row 0 a kd b)->∀(H':Hp) (aR:List Addr),aL C H' g lh (B.add (.row 0 a kd b)) aR->Nw H rest aR->Kp g H H'->Q (.int B.c) H')) (_:(¬(aB B.n a/\aB B.n b)->∀H',aa H H'->E (.ref cM) none H')) (_:(aB B.n a/\aB B.n b->¬(1<=kd/\kd<=B.k)->∀H',aa H H'->E (.ref cK) none H')) (_:(aB B.n a/\aB B.n b->(1<=kd/\kd<=B.k)->¬B.es.length<40->∀H',aa H H'->E (.ref cF) none H')) (_:(aB B.n a/\aB B.n b->(1<=kd/\kd<=B.k)->B.es.length<40->B.kI (.row 0 a kd b)->∀H',aa H H'->E (.ref cB) none H')):FQ C cM cK cF cB vs H Q E
def IU(C cM cK cF cB:Addr):Sp:=FQ C cM cK cF cB
inductive IV(C cM cF cB:Addr)(vs:List V)(H:Hp)(Q:VK)(E:XK):Prop
 |mk (g lh:Addr) (B:Bk) (rest:List Addr) (a b:Int) (_:vs=[.ref g,.int a,.int b]) (_:aL C H g lh B rest) (_:(aB B.n a/\aB B.n b->B.es.length<40->¬B.kI (.ap 0 a b)->∀(H':Hp) (aR:List Addr),aL C H' g lh (B.add (.ap 0 a b)) aR->Nw H rest aR->Kp g H H'->Q (.int B.c) H')) (_:(¬(aB B.n a/\aB B.n b)->∀H',aa H H'->E (.ref cM) none H')) (_:(aB B.n a/\aB B.n b->¬B.es.length<40->∀H',aa H H'->E (.ref cF) none H')) (_:(aB B.n a/\aB B.n b->B.es.length<40->B.kI (.ap 0 a b)->∀H',aa H H'->E (.ref cB) none H')):IV C cM cF cB vs H Q E
def K0(C cM cF cB:Addr):Sp:=IV C cM cF cB
inductive FT(C:Addr)(vs:List V)(H:Hp)(Q:VK)(aD:XK):Prop
 |mk (g lh:Addr) (B:Bk) (rest:List Addr) (_:vs=[.ref g]) (_:aL C H g lh B rest) (_:Q (.int B.n) H):FT C vs H Q aD
def WV(C:Addr):Sp:=FT C
inductive Er(C:Addr)(vs:List V)(H:Hp)(Q:VK)(aD:XK):Prop
 |mk (g lh:Addr) (B:Bk) (rest:List Addr) (_:vs=[.ref g]) (_:aL C H g lh B rest) (_:∀(l:Addr) (H':Hp),H l=none->El H' (l::rest) l B.es->aa H H'->Q (.ref l) H'):Er C vs H Q aD
def yc(C:Addr):Sp:=Er C
end My
namespace L2
open PySem PySem.Spec PyProof.Rows
section
variable {X:Cx}
end
end L2
namespace My
open PySem L2
inductive Es(C:Addr)(vs:List V)(H:Hp)(Q:VK)(aD:XK):Prop
 |mk (g lh:Addr) (B:Bk) (rest:List Addr) (t:Addr) (e:En) (_:vs=[.ref g,.ref t]) (_:aL C H g lh B rest) (_:H t=some (.tup e.told)) (_:b3 B.k B.n e) (_:B.es.length<40) (_:(B.kI e->∀H',aa H H'->Q .aE H')) (_:(¬B.kI e->∀(H':Hp) (aR:List Addr),aL C H' g lh (B.add e) aR->Nw H rest aR->Kp g H H'->Q (.int B.c) H')):Es C vs H Q aD
def tX(C:Addr):Sp:=Es C
inductive FU(vs:List V)(H:Hp)(Q:VK)(aD:XK):Prop
 |mk (k n:Nat) (ld:Addr) (ds:List Int) (_:vs=[.int k,.int n,.ref ld]) (_:ax H ld ds) (_:ds.length=3) (_:1<=k) (_:k<=5) (_:1<=n) (_:n<=1000) (_:∀(t:Addr) (e:En) (H':Hp),H t=none->H' t=some (.tup e.told)->b3 k n e->aa H H'->Q (.ref t) H'):FU vs H Q aD
def zb:Sp:=FU
def Cons(B:Bk):Prop:=cw B.es B.aG=none
structure Nums(B:Bk):Prop where
 c:B.c=B.es.length+1
 at_:∀(i:Nat) e,B.es[i]?=some e->e.num=(i:Int)+1
def EO(a b:List En)(l:List Int):cw (a++b) l=(cw a l).or (cw b l):=by
 unfold cw;rw[List.findSome?_append]
def Cons.add{B:Bk}(h:Cons B){e:En}(nb:¬B.kI e):Cons (B.add e):=by
 unfold Cons;cases e with
 |row i a k b=>
  show cw (B.es++[.row B.c a k b]) (fl B.n (rowsOf (B.es++[.row B.c a k b])))=none;rw[EO,oR];have:cw B.es (fl B.n (rowsOf B.es++[[B.c,a,k,b]]))=none:=Classical.byContradiction nb;rw[show rowsOf [.row B.c a k b]=[[B.c,a,k,b]]from rfl,this];rfl
 |ap i a b=>
  show cw (B.es++[.ap B.c a b]) (fl B.n (rowsOf (B.es++[.ap B.c a b])))=none;rw[EO,oR,show rowsOf [.ap B.c a b]=[]from rfl,ZX,ya];have h1:cw B.es (fl B.n (rowsOf B.es))=none:=h;have h2:¬(fl B.n (rowsOf B.es)).getD a.toNat 0=(fl B.n (rowsOf B.es)).getD b.toNat 0:=nb;rw[h1,if_neg h2];rfl
def Nums.add{B:Bk}(h:Nums B)(e:En):Nums (B.add e):=by
 have en:(e.re B.c).num=B.c:=by cases e<;>rfl
 refine⟨?_,λi x hx=>?_⟩
 ·show B.c+1=((B.es++[e.re B.c]).length:Int)+1;rw[h.c];simp
 ·have hx:(B.es++[e.re B.c])[i]?=some x:=hx;by_cases hi:i<B.es.length
  ·rw[Zs hi]at hx;exact h.at_ i x hx
  ·rw[Zt (by omega)]at hx
   have z:i-B.es.length=0:=by
    have:=(ZL.mp hx).1;simp at this;omega
   rw[z]at hx;cases hx;rw[en,h.c];omega
inductive Hb(C:Addr)(vs:List V)(H:Hp)(Q:VK)(aD:XK):Prop
 |mk (g lh:Addr) (rest:List Addr) (k m many:Nat) (ld:Addr) (ds:List Int) (_:vs=[.ref g,.int k,.int m,.int many,.ref ld]) (_:aL C H g lh ⟨k,0,[],1,[]⟩ rest) (_:m<=24) (_:many<=40) (_:ax H ld ds) (_:3*many<=ds.length) (_:∀(l:Addr) (eE:List Addr) (B:Bk) (aR:List Addr) (H':Hp),aL C H' g lh B aR->B.k=k->B.n=m->B.hs=[]->B.es.length<=many->Cons B->Nums B->El H' eE l B.es->H l=none->l∉g::lh::aR->g∉eE->lh∉eE->Nw H rest aR->(∀x∈eE,H x=none)->Kp g H H'->Q (.ref l) H'):Hb C vs H Q aD
def J7(C:Addr):Sp:=Hb C
def bU(l:List Int):List Int:=l.foldl (λk x=>if x∈k then k else k++[x]) []
def ua(l:List Int)(x:Int):bU (l++[x])=if x∈bU l then bU l else bU l++[x]:=by unfold bU;rw[List.foldl_append];rfl
def J8(l:List Int):(bU l).Nodup:=by
 have:∀(l k:List Int),k.Nodup->(l.foldl (λk x=>if x∈k then k else k++[x]) k).Nodup:=λl=>by
  induction l with
  |nil=>exact λk h=>h
  |cons x l ih=>
   intro k h;refine ih _ ?_;dsimp only;split
   ·exact h
   ·rename_i hx;rw[List.nodup_append];refine⟨h,List.pairwise_singleton _ x,λa ha b hb z=>?_⟩;rw[Y2.mp hb]at z;exact hx (z▸ha)
 exact this l [] List.nodup_nil
def UG(l k:List Int):∀x∈k,x∈l.foldl (λk x=>if x∈k then k else k++[x]) k:=by
 induction l generalizing k with
 |nil=>exact λx h=>h
 |cons y l ih=>
  intro x hx;refine ih _ x ?_;dsimp only;split
  ·exact hx
  ·exact Zc _ hx
def ph(l k:List Int):∀x∈l,x∈l.foldl (λk x=>if x∈k then k else k++[x]) k:=by
 induction l generalizing k with
 |nil=>exact λx h=>nomatch h
 |cons y l ih=>
  intro x hx;rcases Y5.mp hx with e|e
  ·rw[e];refine UG l _ y ?_;dsimp only;split
   ·assumption
   ·exact Zb _ (Y2.mpr rfl)
  ·exact ih _ x e
def zc(l:List Int):(bU l).length<=l.length:=by
 have:∀(l k:List Int),(l.foldl (λk x=>if x∈k then k else k++[x]) k).length<=k.length+l.length:=λl=>by
  induction l with
  |nil=>exact λk=>Y3 _
  |cons x l ih=>
   intro k;refine ZQ (ih _) ?_;dsimp only;split
   ·simp only[ZF];omega
   ·simp only[Zo,ZF,List.length_nil];omega
 have:=this l [];rw[List.length_nil,Nat.zero_add]at this;exact this
def rk(l:List Int):List Int:=l.map λx=>((bU l).idxOf x:Nat)
def nH(l:List Int):(rk l).length=l.length:=by simp[rk]
def K4{l:List Int}{a:Nat}(h:a<l.length):(rk l).getD a 0=((bU l).idxOf (l.getD a 0):Nat):=by
 simp[rk,List.getD,h]
def K5{l:List Int}{a b:Nat}(ha:a<l.length)(hb:b<l.length):(rk l).getD a 0=(rk l).getD b 0↔l.getD a 0=l.getD b 0:=by
 rw[K4 ha,K4 hb];constructor
 ·intro h;have ma:l.getD a 0∈bU l:=ph l [] _ (getD_mem ha);have mb:l.getD b 0∈bU l:=ph l [] _ (getD_mem hb);have h:(bU l).idxOf (l.getD a 0)=(bU l).idxOf (l.getD b 0):=by omega
  have e1:=List.getElem_idxOf (ZZ ma);have e2:=List.getElem_idxOf (ZZ mb);rw[<-e1, <-e2];congr 1
 ·intro h;rw[h]
structure DK(kvs:List (Key×V))(K:List Int):Prop where
 len:kvs.length=K.length
 at_:∀x:Int,a8 kvs (.inl x)=if x∈K then some (.int (K.idxOf x:Nat))else none
def DK.nil:DK [] []:=⟨rfl,λx=>rfl⟩
def DK.put{kvs:List (Key×V)}{K:List Int}(h:DK kvs K){x:Int}(hx:x∉K):DK (putK kvs (.inl x) (.int kvs.length)) (K++[x]):=by
 have e:a8 kvs (.inl x)=none:=by rw[h.at_,if_neg hx]
 refine⟨by rw[qI _ e];simp[h.len],λy=>?_⟩;rw[yn];by_cases z:y=x
 ·rw[if_pos (by rw[z]),if_pos (by rw[z];exact Zb _ (Y2.mpr rfl)),z,List.idxOf_append,if_neg hx,h.len];simp
 ·rw[if_neg (λw=>z (Sum.inl.inj w)),h.at_];by_cases m:y∈K
  ·rw[if_pos m,if_pos (Zc _ m),List.idxOf_append,if_pos m]
  ·rw[if_neg m,if_neg (λw=>by rcases Y7.mp w with w|w; ·exact m w
                              ·exact z (Y2.mp w))]
def UH(x:Int)(l:List Int):sk (V.int x) (l.map V.int)=decide (x∈l):=by
 unfold sk;by_cases h:x∈l
 ·rw[ZN h,List.any_eq_true];exact⟨V.int x,Zh.mpr ⟨x,h,rfl⟩,by simp[eB]⟩
 ·rw[ZO h,List.any_eq_false];intro v hv;obtain⟨z,hz,rfl⟩:=Zh.mp hv;have:¬z=x:=λe=>h (e▸hz);simp[eB,this,Ne.symm this]
def QT(l:List Int):(l.map V.int).all gY=true:=by
 rw[ZC];intro v hv;obtain⟨z,_,rfl⟩:=Zh.mp hv
 rfl
def J9{K:PySem.W.Frag}{H:Hp}{a:Addr}{l:List Int}{x:Int}{Q:VK}(ha:ax H a l)(hx:x∈l)(h:Q (.int (l.idxOf x:Nat)) H):AV K (.ref a) [.int x] H Q:=by
 have aQ:=ZZ hx;refine⟨a,_,_,l.idxOf x,rfl,rfl,ah.of ha,rfl,QT l,by rw[Y1];exact aQ,?_,λm hm=>?_,h⟩
 ·rw[Zf,Zd aQ];show some (eB (.int l[l.idxOf x]) (.int x))=some true;rw[List.getElem_idxOf aQ];simp[eB]
 ·have hm2:m<l.length:=by omega
  rw[Zf,Zd hm2];show some (eB (.int l[m]) (.int x))=some false
  have:¬l[m]=x:=by
   have:=List.not_of_lt_findIdx (p:=(· ==x)) (xs:=l) (i:=m) hm;simpa using this
  simp[eB,this]
def ER{K:PySem.W.Frag}{a:Addr}{ns:List Int}{ix:List Nat}{te:TE}{σ:St}{H:Hp}{Q:VK}(f:Int->Int)(ha:ax H a ns)(hl:ns.length<=100000)
  (he:∀z∈ns,∀(H':Hp) (Q':VK),aa H H'->Q' (.int (f z)) H'->te (bS ix (some (.int z)) σ) H' Q')(h:∀(D:Addr) (H':Hp),H D=none->ax H' D (ns.map f)->aa H H'->Q (.ref D) H'):Wr (jo (dF K a) ix te σ H Q):=by
 refine EL (K:=K) (λv=>match v with|.int z=>.int (f z)|_=>.aE) (ah.of ha) (bD (by rw[Y1];omega)) (λz hz H' Q' s q=>?_) λD H' hD h1 s=>h D H' hD ?_ s
 ·obtain⟨x,hx,rfl⟩:=Zh.mp hz;exact he x hx H' Q' s q
 ·show H' D=_;rw[h1,ZK,ZK];rfl
inductive Hc(vs:List V)(H:Hp)(Q:VK)(aD:XK):Prop
 |mk (a:Addr) (l:List Int) (_:vs=[.ref a]) (_:ax H a l) (_:l.length<=1000) (_:∀(p:Addr) (H':Hp),H p=none->ax H' p (rk l)->aa H H'->Q (.ref p) H'):Hc vs H Q aD
def uA:Sp:=Hc
inductive ES(C:Addr)(vs:List V)(H:Hp)(Q:VK)(aD:XK):Prop
 |mk (g lh:Addr) (B:Bk) (rest:List Addr) (_:vs=[.ref g]) (_:aL C H g lh B rest) (_:(∀(p:Addr) (H':Hp),ax H' p B.aG->B.aG.length=B.n->FL B.n (rowsOf B.es) [] B.aG->aa H H'->Q (.ref p) H')):ES C vs H Q aD
def Hd(C:Addr):Sp:=ES C
inductive Eh(C:Addr)(vs:List V)(H:Hp)(Q:VK)(aD:XK):Prop
 |mk (g lh:Addr) (B:Bk) (rest:List Addr) (_:vs=[.ref g]) (_:aL C H g lh B rest) (_:(∀(p:Addr) (H':Hp),H p=none->ax H' p (rk B.aG)->B.aG.length=B.n->FL B.n (rowsOf B.es) [] B.aG->aa H H'->Q (.ref p) H')):Eh C vs H Q aD
def xQ(C:Addr):Sp:=Eh C
def Sd{K:PySem.W.Frag}{a:Addr}{fp:List Addr}{es:List En}{ix:List Nat}{tt:TT}{te:TE}{σ:St}{H:Hp}{Q:VK}(p:En->Bool)(he:El H fp a es)(hl:es.length<=100000)
  (ht:∀x e,∀(H':Hp) (Q':Bool->Hp->Prop),aa H H'->H' x=some (.tup e.vs)->Q' (p e) H'->tt (bS ix (some (.ref x)) σ) H' Q')(hx:∀(x:Addr) (H':Hp) (Q':VK),Q' (.ref x) H'->te (bS ix (some (.ref x)) σ) H' Q')
  (hQ:∀(D:Addr) (H':Hp),H D=none->El H' (D::fp) D (es.filter p)->aa H H'->Q (.ref D) H'):Wr (m8 (dF K a) ix tt te σ H Q):=by
 obtain⟨ps,h1,h2,h3,h4,h5⟩:=he.ob;have lp:ps.length=es.length:=by rw[<-h3,Y1]
 refine xG (xs:=ps.map λp=>V.ref p.1) λD hD=>⟨λi ys H2=>ys=(((ps.take i).filter λx=>p x.2).map λp=>V.ref p.1)/\H2 D=some (.lst ys)/\aa H H2,⟨rfl,ak,(aa.refl H).upd hD⟩,?_,?_,?_⟩
 ·rintro i ys H2 hi ⟨rfl,hd,s2⟩;refine⟨s2.seq (ah.of h1),hd,bD ?_⟩;have q1:=List.length_filter_le (λx:Addr×En=>p x.2) (ps.take i);have q2:(ps.take i).length<=ps.length:=by rw[Zx];omega
  rw[Y1];omega
 ·rintro i x ys H2 hi ⟨rfl,hd,s2⟩ Q1 Q0 q1 q0;rw[Zf]at hi;cases ei:ps[i]? with
  |none=>rw[ei]at hi;cases hi
  |some y=>
   rw[ei]at hi;cases hi;obtain⟨bN,mJ⟩:=ZL.mp ei;refine ht y.1 y.2 _ _ s2 (s2 _ _ (h2 y (Y6 ei))) ?_;cases hp:p y.2 with
   |true=>
    rw[if_pos rfl];refine hx _ _ _ (q1 _ _ hd ⟨?_,ak,s2.upd hD⟩);rw[Zj bN,List.filter_append,Ze,mJ];simp[hp]
   |false=>
    rw[if_neg (by decide)];refine q0 _ ⟨?_,hd,s2⟩;rw[Zj bN,List.filter_append,mJ];simp[hp]
 ·rintro ys H2 ⟨rfl,hd,s2⟩;rw[Y1,ZE (Y3 _)]at hd;refine hQ D H2 hD ⟨ps.filter λx=>p x.2,hd,λx hx=>s2 _ _ (h2 x (ZT.mp hx).1),?_,Y9 ..,λx hx=>Y4 _ (h5 x (ZT.mp hx).1)⟩ s2;rw[<-h3,List.filter_map];rfl
def El.sq{K:PySem.W.Frag}{H:Hp}{fp:List Addr}{l:Addr}{es:List En}(h:El H fp l es):∃xs,ah K H l xs:=by
 obtain⟨ps,h1,_⟩:=h.ob;exact⟨_,ah.of h1⟩
def El.cnt{H:Hp}{fp:List Addr}{l:Addr}{es:List En}(h:El H fp l es):∃xs:List V,H l=some (.lst xs)/\xs.length=es.length:=by
 obtain⟨ps,h1,_,h3,_⟩:=h.ob;exact⟨_,h1,by rw[Y1, <-h3,Y1]⟩
def YG(e:En):jy e.vs 0=some (.int e.num):=by cases e<;>rfl
def Bk.less(B:Bk)(i:Int):Bk:={B with es:=B.es.filter λe=>decide (e.num≠i)}
inductive Et(C cE:Addr)(vs:List V)(H:Hp)(Q:VK)(E:XK):Prop
 |mk (g lh:Addr) (B:Bk) (rest:List Addr) (i:Int) (_:vs=[.ref g,.int i]) (_:aL C H g lh B rest) (_:(i∈B.es.map En.num->∀(H':Hp) (aR:List Addr),aL C H' g lh (B.less i) aR->Nw H rest aR->Kp g H H'->Q (.int i) H')) (_:(i∉B.es.map En.num->∀H',aa H H'->E (.ref cE) none H')):Et C cE vs H Q E
def FV(C cE:Addr):Sp:=Et C cE
def He{es:List En}{i:Int}:(es.filter λe=>decide (e.num≠i)).length=es.length↔i∉es.map En.num:=by
 constructor
 ·intro h hm;have:=List.filter_eq_self.mp ((List.filter_sublist (p:=λe=>decide (e.num≠i)) (l:=es)).eq_of_length h);obtain⟨e,he,rfl⟩:=Zh.mp hm;have:=this e he;simp at this
 ·intro h;have:(es.filter λe=>decide (e.num≠i))=es:=List.filter_eq_self.mpr λe he=>ZN (show e.num≠i from λz=>h (Zh.mpr ⟨e,he,z⟩));rw[this]
end My
namespace L2
open PySem PySem.Spec PyProof.Rows
section
variable {X:Cx}
def ab0(K:PySem.W.Frag)(to:TE)(f:Str):TG:=λv σ H Q=>to σ H λo H1=>∃a C dx fs,o=.ref a/\H1 a=some (.ins C dx fs)/\dM K C/\NoAttr K C f/\fs.length<1000/\Q σ (upd H1 a (.ins C dx (aW f v fs)))
def zM{o:Expr}{to:TE}{f:Str}{pos:Pos}(ho:PE X o to):PG X (.Attribute o f pos) (ab0 X.K to f):=by
 intro pins s σ H v u Q I r h;rw[assign_Attribute];refine wpAny_bind (wpAny_holding (az (ho pins s σ H _ I h) λov s1 ⟨x,H1,I1,rx,a,C,dx,fs,ex,ea,c,n,l,q⟩=>?_));subst ex;obtain rfl:ov=Value.ref a:=rx;refine wpAny_bind (wpAny_standAt (wpAny_bind (wpAny_holding (xN I1 ea c n l r λs3 I3=>?_))));exact wpAny_release ⟨σ,_,I3,q⟩
end
end L2
namespace My
open PySem L2
def WW(xs:List V)(k:Nat):gn xs none (some (k:Int))=xs.take k:=Ig xs k
def Se{K:PySem.W.Frag}{H:Hp}{a:Addr}{xs:List V}{lo hi:Option Int}{Q:VK}(hq:H a=some (.lst xs))(h:∀(p:Addr) (H':Hp),H p=none->H' p=some (.lst (gn xs lo hi))->aa H H'->Q (.ref p) H'):Wr (uM K (.ref a) lo hi H Q):=
 ⟨⟨a,_,rfl,ah.of hq,λp hp=>h p _ hp ak ((aa.refl H).upd hp)⟩⟩
def Bk.hold(B:Bk):Bk:={B with hs:=B.hs++[(B.n,B.es,B.c)]}
def Bk.back(B:Bk)(i:Nat)(h:Nat×List En×Int):Bk:={k:=B.k,n:=h.1,es:=h.2.1,c:=h.2.2,hs:=B.hs.take i}
inductive Hf(C:Addr)(vs:List V)(H:Hp)(Q:VK)(aD:XK):Prop
 |mk (g lh:Addr) (B:Bk) (rest:List Addr) (_:vs=[.ref g]) (_:aL C H g lh B rest) (_:B.hs.length<=1000) (_:∀(H':Hp) (aR:List Addr),aL C H' g lh B.hold aR->Nw H rest aR->Kp lh H H'->Q (.int ((B.hs.length:Int)+1)) H'):Hf C vs H Q aD
def Ka(C:Addr):Sp:=Hf C
inductive FX(C cH:Addr)(vs:List V)(H:Hp)(Q:VK)(E:XK):Prop
 |mk (g lh:Addr) (B:Bk) (rest:List Addr) (i:Int) (_:vs=[.ref g,.int i]) (_:aL C H g lh B rest) (_:B.hs.length<=1000) (_:(∀(j:Nat) h,i=(j:Int)+1->B.hs[j]?=some h->∀(H':Hp) (dm:Addr),aL C H' g dm (B.back (j+1) h) rest->H dm=none->Kp g H H'->Q (.int i) H')) (_:(¬(1<=i/\i<=(B.hs.length:Int))->E (.ref cH) none H)):FX C cH vs H Q E
def IW(C cH:Addr):Sp:=FX C cH
def FL.ex{n:Nat}{rs:List (List Int)}{st:Ps}(bz:∀p∈st,eP n p.2)(hr:∀r∈rs,b8 n r):∃l,FL n rs st l:=by
 suffices∀(m:Nat) (l:List Int),bt l<=m->dP n rs st l->∃l,FL n rs st l from this _ _ (Y3 _) (yr bz)
 intro m
 induction m with
 |zero=>
  intro l hm h;refine⟨l,h,λp hp q hq k s hs e=>Classical.byContradiction λne=>?_⟩;have:=rH h.aG ((hr p hp).mk (-s)).2 ((hr q hq).mk (-s)).2 ne;omega
 |succ m ih=>
  intro l hm h;by_cases c:closed rs l
  ·exact⟨l,h,c⟩
  ·simp only[closed,Classical.not_forall]at c;obtain⟨p,hp,q,hq,k,s,hs,e,ne⟩:=c;have lt:=rH h.aG ((hr p hp).mk (-s)).2 ((hr q hq).mk (-s)).2 ne;exact ih _ (by omega) (h.jn bz ((hr p hp).mk (-s)).2 ((hr q hq).mk (-s)).2 λc cl=>cl.2 p hp q hq k s hs (h.snd c cl _ _ ((hr p hp).mk s).2 ((hr q hq).mk s).2 e))
def rL{n:Nat}{rs:List (List Int)}(hr:∀r∈rs,b8 n r):FL n rs [] (fl n rs):=by
 obtain⟨l,h⟩:=FL.ex (st:=[]) (λ_ z=>nomatch z) hr;rw[<-h.eq];exact h
def oQ{es:List En}{l:List Int}:cw es l=none↔∀i a b,En.ap i a b∈es->¬l.getD a.toNat 0=l.getD b.toNat 0:=by
 induction es with
 |nil=>exact⟨λ_ _ _ _ z=>(nomatch z),λ_=>rfl⟩
 |cons e es ih=>
  cases e with
  |row i a k b=>
   rw[QS,ih]
   exact⟨λh i' a' b' z=>h i' a' b' (by rcases Y5.mp z with w|w; ·cases w
                                       ·exact w),λh i' a' b' z=>h i' a' b' (Y4 _ z)⟩
  |ap i a b=>
   rw[ya];constructor
   ·intro h i' a' b' z;by_cases w:l.getD a.toNat 0=l.getD b.toNat 0
    ·rw[if_pos w]at h;cases h
    ·rw[if_neg w]at h;rcases Y5.mp z with y|y
     ·injection y with y1 y2 y3;subst y2 y3;exact w
     ·exact ih.mp h i' a' b' y
   ·intro h;rw[if_neg (h i a b (Y9 ..))];exact ih.mpr λi' a' b' z=>h i' a' b' (Y4 _ z)
def pE(n:Nat)(es:List En):Prop:=cw es (fl n (rowsOf es))=none
def qF{es:List En}{r:List Int}:r∈rowsOf es↔∃i a k b,En.row i a k b∈es/\r=[i,a,k,b]:=by
 unfold rowsOf;rw[List.mem_filterMap];constructor
 ·rintro⟨e,he,h⟩;cases e with
  |row i a k b=>exact⟨i,a,k,b,he,(Zg h).symm⟩
  |ap i a b=>cases h
 ·rintro⟨i,a,k,b,he,rfl⟩;exact⟨_,he,rfl⟩
def iN(es:List En)(c:Int):Prop:=(es.map En.num).Nodup/\∀e∈es,e.num<c
def uB(e:En)(i:Int):(e.re i).num=i:=by cases e<;>rfl
def iN.nil(c:Int):iN [] c:=⟨List.nodup_nil,λ_ z=>nomatch z⟩
def iN.add{es:List En}{c:Int}(h:iN es c)(e:En):iN (es++[e.re c]) (c+1):=by
 refine⟨?_,λx hx=>?_⟩
 ·rw[Ze,List.nodup_append];refine⟨h.1,List.pairwise_singleton _ _,λa ha b hb z=>?_⟩;obtain⟨x,hx,rfl⟩:=Zh.mp ha;have hb:=Y2.mp hb;have:=h.2 x hx;rw[z,hb,uB]at this;omega
 ·rcases Y7.mp hx with z|z
  ·have:=h.2 x z;omega
  ·rw[Y2.mp z,uB];omega
def iN.mono{es:List En}{c c':Int}(h:iN es c)(l:c<=c'):iN es c':=⟨h.1,λe he=>by have:=h.2 e he;omega⟩
def UI{es:List En}{c:Int}(h:iN es c)(e:En):(es++[e.re c]).filter (λx=>decide (x.num≠c))=es:=by
 rw[List.filter_append,List.filter_eq_self.mpr λx hx=>ZN (by have:=h.2 x hx;omega),List.filter_cons_of_neg (by simp[uB]),List.filter_nil,ZX]
structure Fr(H H':Hp)(g lh:Addr):Prop where
 kp:∀b o,H b=some o->b≠g->b≠lh->H' b=some o
 lv:∀b o,H b=some o->H' b≠none
def gM(H:Hp)(a a':Addr):Prop:=a'=a\/H a'=none
section
variable {C:Addr}{H H' H2:Hp}{g lh dm:Addr}{B B':Bk}{rest aR:List Addr}
def aL.heads(h:aL C H g lh B rest):(∃dx fs,H g=some (.ins C dx fs))/\∃xs,H lh=some (.lst xs):=by
 obtain⟨dx,ls,h1,_⟩:=h.ob;obtain⟨qs,h3,_⟩:=h.hl.ob;exact⟨⟨dx,_,h1⟩,_,h3⟩
def Fr.of_same(s:aa H H'):Fr H H' g lh:=⟨(λb o e _ _=>s b o e),(λb o e=>by rw[s b o e];exact(λz=>nomatch z))⟩
def Fr.nR(hB:aL C H' g dm B' aR)(k:Kp g H H'):Fr H H' g lh:=⟨λb o e n _=>k b o e n,λb o e z=>by
 by_cases w:b=g
 ·exact hB.lg.2 (w▸z)
 ·rw[k b o e w]at z;cases z⟩
def Fr.ab1(hB:aL C H' g lh B' aR)(k:Kp lh H H'):Fr H H' g lh:=⟨λb o e _ n=>k b o e n,λb o e z=>by
 by_cases w:b=lh
 ·exact hB.lg.1 (w▸z)
 ·rw[k b o e w]at z;cases z⟩
def Fr.trans(f:Fr H H' g lh)(f2:Fr H' H2 g dm)(n:gM H lh dm):Fr H H2 g lh:=⟨(λb o e n1 n2=>f2.kp b o (f.kp b o e n1 n2) n1 λz=>by
 rcases n with w|w
 ·exact n2 (z.trans w)
 ·rw[z,w]at e;cases e),λb o e z=>by
 cases w:H' b with
 |none=>exact f.lv b o e w
 |some o'=>exact f2.lv b o' w z⟩
def gM.refl:gM H lh lh:=.inl rfl
def gM.trans{gN:Addr}(n:gM H lh dm)(n2:gM H' dm gN)(f:Fr H H' g lh):gM H lh gN:=by
 rcases n2 with w|w
 ·rw[w];exact n
 ·refine .inr ?_;cases e:H gN with
  |none=>rfl
  |some o=>exact absurd w (f.lv _ o e)
def Nw.trans{pF:List Addr}(n:Nw H rest aR)(n2:Nw H' aR pF)(f:∀b o,H b=some o->H' b≠none):Nw H rest pF:=λx hx=>by
 rcases n2 x hx with w|w
 ·exact n x w
 ·refine .inr ?_;cases e:H x with
  |none=>rfl
  |some o=>exact absurd w (f _ o e)
def Nw.refl:Nw H rest rest:=λx hx=>.inl hx
def aL.zN{l:Addr}{xs:List V}(hB:aL C H g lh B rest)(h:H l=some (.lst xs)):l≠g:=λz=>by
 obtain⟨⟨dx,fs,hg⟩,_⟩:=hB.heads;rw[z,hg]at h;cases h
def WX{a:Addr}{ns:List Int}(h:ax H a ns)(hB:aL C H g lh B rest)(f:Fr H H' g lh)(n:a≠lh):ax H' a ns:=f.kp _ _ h (hB.zN h) n
end
inductive ET(C:Addr)(vs:List V)(H:Hp)(Q:VK)(aD:XK):Prop
 |mk (g lh ld:Addr) (B:Bk) (rest:List Addr) (ds:List Int) (_:vs=[.ref g,.int B.k,.int B.n,.ref ld]) (_:aL C H g lh B rest) (_:ax H ld ds) (_:ds.length=3) (_:ld≠lh) (_:1<=B.n) (_:B.es.length<40) (_:iN B.es B.c) (_:B.hs.length<=900) (_:∀(c':Int) (Bh:List (Nat×List En×Int)) (dm:Addr) (aR:List Addr) (H':Hp),aL C H' g dm ⟨B.k,B.n,B.es,c',Bh⟩ aR->B.c<=c'->Bh.length<=B.hs.length+1->Fr H H' g lh->gM H lh dm->Nw H rest aR->Q .aE H'):ET C vs H Q aD
def Hg(C:Addr):Sp:=ET C
structure Mo where
 s:Int->Int->Int
 t:Int->Int->Int
 l:∀k x,t k (s k x)=x
 r:∀k x,s k (t k x)=x
def Mo.go(M:Mo)(x l:Int):Int:=if 0<l then M.s l x else M.t (-l) x
def Mo.wk(M:Mo)(x:Int)(ws:List Int):Int:=ws.foldl M.go x
def Mo.Fits(M:Mo)(f:Nat->Int)(rs:List (List Int)):Prop:=∀r∈rs,M.s (r.getD 2 0) (f (My.mk r 1))=f (My.mk r (-1))
def Mo.aaY(M:Mo){k x y:Int}(h:M.s k x=M.s k y):x=y:=by rw[<-M.l k x,h,M.l]
def Mo.app(M:Mo)(x:Int)(u v:List Int):M.wk x (u++v)=M.wk (M.wk x u) v:=List.foldl_append ..
def ou(a b x:Int):Int:=if x=a then b else if x=b then a else x
def IY(a b x:Int):ou a b (ou a b x)=x:=by
 unfold ou
 repeat' split
 all_goals omega
def Hh:∀ps:List (Int×Int),(∀p∈ps,∀q∈ps,p.1=q.1↔p.2=q.2)->∃s t:Int->Int,(∀x,t (s x)=x)/\(∀x,s (t x)=x)/\∀p∈ps,s p.1=p.2
 |[],_=>⟨id,id,λ_=>rfl,λ_=>rfl,λ_ z=>nomatch z⟩
 |p::ps,h=>by
  obtain⟨s,t,a,b,c⟩:=Hh ps λp hp q hq=>h p (Y4 _ hp) q (Y4 _ hq);refine⟨λx=>ou (s p.1) p.2 (s x),λx=>t (ou (s p.1) p.2 x),λx=>by dsimp only;rw[IY,a],λx=>by dsimp only;rw[b,IY],λq hq=>?_⟩;dsimp only;rcases Y5.mp hq with rfl|hq2
  ·unfold ou;rw[if_pos rfl]
  ·have e:=h q hq p (Y9 ..);have sq:=c q hq2;unfold ou;by_cases z1:s q.1=s p.1
   ·rw[if_pos z1];have:q.1=p.1:=by rw[<-a q.1,z1,a]
    exact(e.mp this).symm
   ·rw[if_neg z1];by_cases z2:s q.1=p.2
    ·have:q.1=p.1:=e.mpr (by rw[<-sq,z2]);rw[this]at z1;exact absurd rfl z1
    ·rw[if_neg z2,sq]
def FY{rs:List (List Int)}{l:List Int}(h:closed rs l):∃M:Mo,M.Fits (λa=>l.getD a 0) rs:=by
 have H:∀k:Int,∃s t:Int->Int,(∀x,t (s x)=x)/\(∀x,s (t x)=x)/\∀r∈rs,r.getD 2 0=k->s (l.getD (My.mk r 1) 0)=l.getD (My.mk r (-1)) 0:=λk=>by
  obtain⟨s,t,a,b,c⟩:=Hh ((rs.filter λr=>r.getD 2 0==k).map λr=>(l.getD (My.mk r 1) 0,l.getD (My.mk r (-1)) 0)) λp hp q hq=>by
   obtain⟨x,hx,rfl⟩:=Zh.mp hp;obtain⟨y,hy,rfl⟩:=Zh.mp hq;obtain⟨hx,ex⟩:=ZT.mp hx;obtain⟨hy,ey⟩:=ZT.mp hy;have ee:x.getD 2 0=y.getD 2 0:=(eq_of_beq ex).trans (eq_of_beq ey).symm;have h1:=h x hx y hy ee 1 (.inl rfl);have h2:=h x hx y hy ee (-1) (.inr rfl);exact⟨h1,h2⟩
  refine⟨s,t,a,b,λr hr e=>?_⟩;exact c (l.getD (My.mk r 1) 0,l.getD (My.mk r (-1)) 0) (Zh.mpr ⟨r,ZT.mpr ⟨hr,beq_iff_eq.mpr e⟩,rfl⟩)
 refine⟨⟨λk=>Classical.choose (H k),λk=>Classical.choose (Classical.choose_spec (H k)),λk=>(Classical.choose_spec (Classical.choose_spec (H k))).1,λk=>(Classical.choose_spec (Classical.choose_spec (H k))).2.1⟩,λr hr=>?_⟩;exact(Classical.choose_spec (Classical.choose_spec (H (r.getD 2 0)))).2.2 r hr rfl
def Mo.Fits.cl{M:Mo}{f:Nat->Int}{rs:List (List Int)}{st:Ps}(h:M.Fits f rs)(hs:∀p∈st,f (p.2.getD 0 0).toNat=f (p.2.getD 1 0).toNat):Cl rs st f:=by
 refine⟨hs,λp hp q hq e s hs ee=>?_⟩;have h1:=h p hp;have h2:=h q hq;have hs:s=1\/s= -1:=hs;rcases hs with rfl|rfl
 ·rw[<-h1, <-h2,e,ee]
 ·show f (My.mk p 1)=f (My.mk q 1);rw[<-h1, <-h2,e]at ee;exact M.aaY ee
def FL.iff{n:Nat}{rs:List (List Int)}{st:Ps}{l:List Int}(h:FL n rs st l){a b:Nat}(ha:a<n)(hb:b<n):l.getD a 0=l.getD b 0↔∀(M:Mo) (f:Nat->Int),M.Fits f rs->(∀p∈st,f (p.2.getD 0 0).toNat=f (p.2.getD 1 0).toNat)->f a=f b:=by
 constructor
 ·exact λe M f hf hs=>h.1.snd f (hf.cl hs) a b ha hb e
 ·intro k;obtain⟨M,hM⟩:=FY h.2;exact k M _ hM h.1.om
def IZ{n:Nat}{rs:List (List Int)}(hr:∀r∈rs,b8 n r){f g:Nat->Int}(h:∀x<n,f x=g x){M:Mo}:M.Fits f rs↔M.Fits g rs:=by
 constructor <;>intro k r h1<;>have:=k r h1
 ·rwa [h _ ((hr r h1).mk 1).2,h _ ((hr r h1).mk (-1)).2]at this
 ·rwa [h _ ((hr r h1).mk 1).2,h _ ((hr r h1).mk (-1)).2]
def Kb{M:Mo}{f:Nat->Int}{n:Nat}{a:Int}{ws:List Int}{i:Nat}(nz:ws.getD i 0≠0):M.s ((rowAt n a ws i).getD 2 0) (f (My.mk (rowAt n a ws i) 1))=f (My.mk (rowAt n a ws i) (-1))↔f (n+i)=M.go (f (bE n a i).toNat) (ws.getD i 0):=by
 have e:((n:Int)+(i:Int)).toNat=n+i:=by omega
 unfold rowAt Mo.go;by_cases z:0<ws.getD i 0
 ·rw[if_pos z,if_pos z];show M.s (ws.getD i 0) (f (bE n a i).toNat)=f ((n:Int)+i).toNat↔_;rw[e];exact eq_comm
 ·rw[if_neg z,if_neg z];show M.s (-ws.getD i 0) (f ((n:Int)+i).toNat)=f (bE n a i).toNat↔_;rw[e];constructor
  ·intro h;rw[<-h,M.l]
  ·intro h;rw[h,M.r]
def yw(n:Nat)(a:Int)(i:Nat):(bE n a (i+1)).toNat=n+i:=by rw[xF];omega
def Sf(n:Nat)(a:Int):bE n a 0=a:=rfl
def Ja{M:Mo}{x:Int}{ws:List Int}{i:Nat}(h:i<ws.length):M.wk x (ws.take (i+1))=M.go (M.wk x (ws.take i)) (ws.getD i 0):=by
 rw[Zj h,M.app,show ws.getD i 0=ws[i]by simp[List.getD,h]];rfl
def Hi{M:Mo}{f:Nat->Int}{n:Nat}{a:Int}{ws:List Int}(nz:∀l∈ws,l≠0)(h:M.Fits f (c9 n a ws)):∀i≤ws.length,f (bE n a i).toNat=M.wk (f a.toNat) (ws.take i):=by
 intro i
 induction i with
 |zero=>intro _;rfl
 |succ i ih=>
  intro hi;have Bv:ws.getD i 0≠0:=nz _ (by simp[List.getD,show i<ws.length by omega]);rw[yw,Ja (by omega), <-ih (by omega)];exact(Kb Bv).mp (h _ (Y6 (Sb (show i<ws.length by omega))))
def g6(M:Mo)(f:Nat->Int)(n:Nat)(a:Int)(ws:List Int)(x:Nat):Int:=if x<n then f x else M.wk (f a.toNat) (ws.take (x-n+1))
def ub{M:Mo}{f:Nat->Int}{n:Nat}{a:Int}{ws:List Int}(ha:aB n a)(i:Nat):g6 M f n a ws (bE n a i).toNat=M.wk (f a.toNat) (ws.take i):=by
 obtain⟨a0,a1⟩:=ha;cases i with
 |zero=>
  unfold g6;rw[Sf,if_pos (by omega)];rfl
 |succ i=>
  unfold g6;rw[yw,if_neg (by omega),show n+i-n+1=i+1 by omega]
def Hj{M:Mo}{f:Nat->Int}{n:Nat}{a:Int}{ws:List Int}(ha:aB n a)(nz:∀l∈ws,l≠0):M.Fits (g6 M f n a ws) (c9 n a ws):=λr hr=>by
 obtain⟨i,hi,rfl⟩:=Zh.mp hr;have hi:=ZU.mp hi;have Bv:ws.getD i 0≠0:=nz _ (by simp[List.getD,hi]);refine(Kb Bv).mpr ?_;rw[ub ha, <-Ja hi, <-yw n a i,ub ha]
def Mo.Fits.app{M:Mo}{f:Nat->Int}{rs rt:List (List Int)}:M.Fits f (rs++rt)↔M.Fits f rs/\M.Fits f rt:=
 ⟨λh=>⟨λr hr=>h r (Zc _ hr),λr hr=>h r (Zb _ hr)⟩,λh r hr=>(Y7.mp hr).elim (h.1 r) (h.2 r)⟩
def nK(rs:List (List Int))(a:Int)(ws:List Int)(b:Int):Prop:=∀(M:Mo) (f:Nat->Int),M.Fits f rs->M.wk (f a.toNat) ws=f b.toNat
def pK(es:List En)(a:Int)(ws:List Int)(b:Int):Prop:=∃i x y,En.ap i x y∈es/\∀(M:Mo) (f:Nat->Int),M.Fits f (rowsOf es)->M.wk (f a.toNat) ws=f b.toNat->f x.toNat=f y.toNat
def row_more{n m:Nat}{r:List Int}(h:b8 n r)(hm:n<=m):b8 m r:=by
 obtain⟨i,a,k,b,rfl,ha,hb⟩:=h;exact⟨i,a,k,b,rfl,by omega,by omega⟩
def take_all{ws:List Int}:ws.take ws.length=ws:=List.take_length
def UJ{n:Nat}{rs:List (List Int)}{a b:Int}{ws l:List Int}(hr:∀r∈rs,b8 n r)(ha:aB n a)(hb:aB n b)(nz:∀x∈ws,x≠0)(h:FL (n+ws.length) (rs++c9 n a ws) [] l):
  l.getD (bE n a ws.length).toNat 0=l.getD b.toNat 0↔nK rs a ws b:=by
 obtain⟨e0,e1⟩:=tW ha ws.length ws.length (Y3 _);have b0:=hb;obtain⟨b0,b1⟩:=b0;rw[h.iff (a:=(bE n a ws.length).toNat) (b:=b.toNat) (by omega) (by omega)];constructor
 ·intro k M f hf;have:=k M (g6 M f n a ws) (Mo.Fits.app.mpr ⟨(IZ hr λx hx=>by unfold g6;rw[if_pos hx]).mpr hf,Hj ha nz⟩) λ_ z=>nomatch z
  rw[ub ha,take_all]at this;rw[this];unfold g6;rw[if_pos (by omega)]
 ·intro k M f hf _;obtain⟨h1,h2⟩:=Mo.Fits.app.mp hf;rw[Hi nz h2 _ (Y3 _),take_all];exact k M f h1
def WY{n k:Nat}{es:List En}{a b:Int}{ws l:List Int}{p:Addr}(ok:∀e∈es,b3 k n e)(k5:k<=5)(ha:aB n a)(hb:aB n b)(nz:∀x∈ws,x≠0)(h:FL (n+ws.length) (rowsOf es++c9 n a ws) [(p,[bE n a ws.length,b])] l):
  cw es l≠none↔pK es a ws b:=by
 have hr:∀r∈rowsOf es,b8 n r:=λr hr=>(jI k5 ok r hr).1
 have key:∀x y:Int,aB n x->aB n y->(l.getD x.toNat 0=l.getD y.toNat 0↔∀(M:Mo) (f:Nat->Int),M.Fits f (rowsOf es)->M.wk (f a.toNat) ws=f b.toNat->f x.toNat=f y.toNat):=λx y hx hy=>by
  obtain⟨x0,x1⟩:=id hx;obtain⟨y0,y1⟩:=id hy;obtain⟨b0,b1⟩:=id hb;rw[h.iff (a:=x.toNat) (b:=y.toNat) (by omega) (by omega)];constructor
  ·intro k M f hf hw
   have:=k M (g6 M f n a ws) (Mo.Fits.app.mpr ⟨(IZ hr λx hx=>by unfold g6;rw[if_pos hx]).mpr hf,Hj ha nz⟩) λq hq=>by
    rw[Y2.mp hq];show g6 M f n a ws (bE n a ws.length).toNat=g6 M f n a ws b.toNat;rw[ub ha,take_all,hw];unfold g6;rw[if_pos (by omega)]
   unfold g6 at this
   rwa [if_pos (by omega),if_pos (by omega)]at this
  ·intro k M f hf hs;obtain⟨h1,h2⟩:=Mo.Fits.app.mp hf;refine k M f h1 ?_;have:=hs _ (Y2.mpr rfl);have this:f (bE n a ws.length).toNat=f b.toNat:=this;rw[<-this,Hi nz h2 _ (Y3 _),take_all]
 constructor
 ·intro z;by_cases y:∃i x y,En.ap i x y∈es/\l.getD x.toNat 0=l.getD y.toNat 0
  ·obtain⟨i,x,y,m,e⟩:=y;have:=ok _ m;exact⟨i,x,y,m,(key x y this.1 this.2).mp e⟩
  ·exact absurd (oQ.mpr λi x y' m e=>y ⟨i,x,y',m,e⟩) z
 ·rintro⟨i,x,y,m,e⟩ z;have:=ok _ m;exact oQ.mp z i x y m ((key x y this.1 this.2).mpr e)
open Classical in
noncomputable def wordOf(es:List En)(a:Int)(ws:List Int)(b:Int):Str:=if nK (rowsOf es) a ws b then"must" else if pK es a ws b then"never" else"open"
end My
namespace L2
open PySem PySem.Spec PyProof.Rows
section
variable {X:Cx}
inductive Al(K:PySem.W.Frag)(xs:List V)(H:Hp)(Q:VK):Prop
 |mk (a:Addr) (ns:List Int) (_:xs=[.ref a]) (_:ah K H a (ns.map V.int)) (_:ns≠[]) (_:∀m∈ns,(∀i∈ns,i<=m)->Q (.int m) H):Al K xs H Q
def FZ(hc:X.calm=true):gF X (.builtin "max") (λxs H Q=>Wr (Al X.K xs H Q)):=by
 intro pins s σ H vs us Q I r ⟨h⟩;obtain⟨a,ns,rfl,hq,ne,q⟩:=h;obtain⟨u,rfl,ru⟩:=vals1 r;cases ru;obtain⟨ai,r,pl,hz⟩:=I.list hq;have hi:=intsAre_of r;obtain⟨xs,e⟩:=hi.allInts.items;have pl:=pl.isList;rw[e]at pl;have e2:(PySem.numsOf ai)=ns:=hi.numsOf;have e3:=PySem.nums_intItems xs;have e4:ai=(PySem.intItems xs).toList:=by rw[<-e]
 rw[e4,e3]at e2;have el:xs.size=ns.length:=by rw[<-e2];simp
 have sz:0<xs.size:=by
  rw[el];cases ns with
  |nil=>exact absurd rfl ne
  |cons=>simp
 have na:∀i,i<xs.size->PySem.numAt xs i=ns.getD i 0:=λi hi=>by
  unfold PySem.numAt;rw[<-e2];simp[List.getD,hi]
 obtain⟨g1,g2⟩:=PySem.argBest_gt (PySem.numAt xs) (xs.size-1);refine PySem.max_intList (I.ok.hd hc) pl sz λv h' tk hv hk=>?_;generalize PySem.argBest (λi j=>decide (PySem.numAt xs i>PySem.numAt xs j)) (xs.size-1)=k at g1 g2 hv;have pW:k<xs.size:=by omega
 have A5:v=.int (xs[k]).1 (xs[k]).2:=by
  have:(PySem.intItems xs)[k]?=some (.int (xs[k]).1 (xs[k]).2):=by simp[PySem.intItems,pW]
  rw[this]at hv;exact(Zg hv).symm
 have nk:(xs[k]).1=PySem.numAt xs k:=by simp[PySem.numAt,pW]
 have mm:(xs[k]).1∈ns:=by
  rw[nk,na k pW,List.getD,Zd (by omega)];exact ZA _
 refine⟨.int (xs[k]).1,H,I.kept hk,⟨_,A5⟩,q _ mm λi bN=>?_⟩;obtain⟨j,hj,ej⟩:=ZD bN;have:=g2 j (by omega);rw[na j (by omega),List.getD,Zd hj,ej]at this;rw[nk];exact this
end
def Kc{K:PySem.W.Frag}{H:Hp}{a:Addr}{ns:List Int}{Q:VK}(ha:H a=some (.lst (ns.map V.int)))(ne:ns≠[])(h:∀m∈ns,(∀i∈ns,i<=m)->Q (.int m) H):Wr (Al K [.ref a] H Q):=⟨⟨a,ns,rfl,ah.of ha,ne,h⟩⟩
end L2
namespace L2
def Kd{n j:Nat}{i:Int}(h:j<n)(e:i=(j:Int):=by rfl):iR n i=some j:=by
 subst e;unfold iR;rw[if_pos (by omega),if_pos (by omega)];rfl
open PySem PySem.Spec PyProof.Rows
section
variable {X:Cx}{pins:List (Addr×Obj)}{σ:St}{H:Hp}{s:Shared}{d:Addr}{kvs:List (Key×V)}
def Inv.freeze(I:Inv X pins σ H s)(e:H d=some (.dK kvs)):∃o,Inv X pins σ (upd H d (.df o (.dK kvs))) s:=by
 have Bw:=I.ao d _ e;obtain⟨z,ns,vs,kv,dd⟩:=(show bY X.prog X.w H s.heap d (.dK kvs)from Bw);obtain⟨o,es,ep,ho,r⟩:=id dd;have ne:∀{b:Addr},H b=none->b≠d:=λhb q=>by rw[q,e]at hb;cases hb
 refine⟨o,I.ok,I.os,I.bare,⟨I.base.keep,I.base.slot,λb ob q n hx=>?_,I.base.there,λb xs q=>?_,λb ob u q=>?_,λb ps q=>?_⟩,I.loc,I.cell,?_,λx c q=>?_,λp hp=>?_,λa u q=>?_,I.len⟩
 ·have h1:=I.base.free b ob q n hx;rw[aj (ne h1)];exact h1
 ·have h1:=I.base.gc b xs q;rw[aj (λz=>by rw[z,e]at h1;cases h1)];exact h1
 ·have h1:=I.base.fF b ob u q;rw[aj (λz=>by rw[z,e]at h1;cases h1)];exact h1
 ·obtain⟨m,h1⟩:=I.base.gd b ps q;exact⟨m,by rw[aj (λz=>by rw[z,e]at h1;cases h1)];exact h1⟩
 ·rw[aj (ne I.free)];exact I.free
 ·rw[aj (ne (I.dW x c q))];exact I.dW x c q
 ·obtain⟨h1,h2,h3⟩:=I.pin p hp;exact⟨h1,by rw[aj (ne h2)];exact h2,h3⟩
 ·by_cases ha:a=d
  ·subst ha;rw[ak]at q;cases q;exact⟨ho,z,ns,vs,kv,dd⟩
  ·rw[aj ha]at q;refine(I.ao a u q).iJ (λb v hb w=>w) (λb hb=>?_) λb xs hb=>?_
   ·rw[aj (λz=>by rw[z,e]at hb;cases hb)];exact hb
   ·rw[aj (λz=>by rw[z,e]at hb;cases hb)];exact hb
def aaZ(te:TE):TS:=λD σ H=>te σ H λx H1=>∃d kvs,x=.ref d/\H1 d=some (.dK kvs)/\∀o,D.rt x (upd H1 d (.df o (.dK kvs)))
def WZ{e:Expr}{te:TE}{pos:Pos}(he:PE X e te):PS X (.Return (some e) pos) (aaZ te):=by
 intro pins s σ H D I h;refine wpAny_Return_some (az (he pins s σ H _ I h) λv s1 ⟨x,H1,I1,r1,d,kvs,ex,ed,q⟩=>?_);obtain⟨o,I2⟩:=I1.freeze ed;exact⟨x,σ,_,I2,r1,q o⟩
def W0{P:Program}{w:World}{k:Key}{u:Value}(h:(cU P w).is k u=true):RelV (kV k) u:=by
 have h:lV k u=true:=h;rcases ik h with⟨i,t,rfl,rfl⟩|⟨x,t,rfl,rfl⟩|⟨rfl,rfl⟩
 ·exact⟨t,rfl⟩
 ·exact⟨t,rfl⟩
 ·exact rfl
def UK{P:Program}{w:World}{h:Heap}{o:Obj}(ok:bw P w H h)(e:H d=some (.df o (.dK kvs))):(d==sysModules)=false/\h.get? d=some o/\∃vs,KV kvs vs/\vs.length=kvs.length/\h.DictOf (cU P w) d vs:=by
 obtain⟨ho,z,ns,vs,kv,dd⟩:=(show bY P w H h d (.df o (.dK kvs))from ok d _ e);exact⟨ns,ho,vs,kv,(Paired.length kv).symm,dd⟩
def KV.get{κ:Type}{a:List (κ×V)}{b:List (κ×Value)}(h:KV a b):∀{i:Nat}{p:κ×V},a[i]?=some p->∃q,b[i]?=some q/\p.1=q.1:=by
 unfold KV at h
 induction h with
 |nil=>intro i p e;simp at e
 |cons Bg _ ih=>
  intro i p e;cases i with
  |zero=>cases e;exact⟨_,rfl,Bg.1⟩
  |succ i=>exact ih (by simpa using e)
end
def iD(ix:List Nat)(x y:Option V)(σ:St):St:=x::y::ix.map λi=>(σ[i]?).join
def Ke(J:It)(ix:List Nat)(wj:TI)(te:TE)(σ:St)(H1:Hp)(Q:VK):Prop:=∀D,H1 D=none->∃W:Nat->Nat->List V->Hp->Prop,(∃m,W 0 m [] (upd H1 D (.lst [])))/\
 ∀i m ys H2,W i m ys H2->H2 D=some (.lst ys)/\((J.stop i H2/\Q (.ref D) H2)\/(J.go i H2/\∀x H',J.fM i H2 x H'->∀y0,wj (iD ix (some x) y0 σ) H' λJ2 H3=>∃U:Nat->Nat->List V->Hp->Prop,(∃m2,U 0 m2 ys H3)/\
  ∀j m2 zs H4,U j m2 zs H4->H4 D=some (.lst zs)/\((J2.stop j H4/\∃m',m'<m/\W (i+1) m' zs H4)\/(J2.go j H4/\zs.length<sizeLine/\∀y H5,J2.fM j H4 y H5->te (iD ix (some x) (some y) σ) H5 λv H6=>
   H6 D=some (.lst zs)/\∃MH,MH<m2/\U (j+1) MH (zs++[v]) (upd H6 D (.lst (zs++[v])))))))
def Kf(wi:TI)(ix:List Nat)(wj:TI)(te:TE):TE:=λσ H Q=>wi σ H λJ H1=>Wr (Ke J ix wj te σ H1 Q)
def OU(elt t1 i1 t2 i2:Expr)(scope:Scope)(pos:Pos)(it acc:Value)(env:Env):
  compTurn (.ListComp elt [⟨t1,i1,[],0⟩,⟨t2,i2,[],0⟩] scope pos) 0 it acc env=(standAt i1.pos>>=λ_=>pyNext it>>=λr=>match r with
   |none=>pure (.done .next)
   |some v=>letOwnedTupleGo t1 it v>>=λ_=>assign t1 env v>>=λ_=>
    eval i2 env>>=λx=>standAt i2.pos>>=λ_=>foldedSetIterable i2 env x>>=λx=>holding [x] (pyIter x)>>=λsQ=>runOwn (.compStart (.ListComp elt [⟨t1,i1,[],0⟩,⟨t2,i2,[],0⟩] scope pos) 1 sQ acc env) env>>=λ_=>
     again (.compLoop (.ListComp elt [⟨t1,i1,[],0⟩,⟨t2,i2,[],0⟩] scope pos) 0 it acc env)):=by rfl
def OL(elt t1 i1 t2 i2:Expr)(scope:Scope)(pos:Pos)(it acc:Value)(env:Env):
  compTurn (.ListComp elt [⟨t1,i1,[],0⟩,⟨t2,i2,[],0⟩] scope pos) 1 it acc env=(standAt i2.pos>>=λ_=>pyNext it>>=λr=>match r with
   |none=>pure (.done .next)
   |some v=>letOwnedTupleGo t2 it v>>=λ_=>assign t2 env v>>=λ_=>
    (eval elt env>>=λx=>call (.builtin "list.append") [acc,x]>>=λ_=>pure ())>>=λ_=>
     again (.compLoop (.ListComp elt [⟨t1,i1,[],0⟩,⟨t2,i2,[],0⟩] scope pos) 1 it acc env)):=by rfl
def Ot{prog:Program}{w:World}{A:Around}{R:Result->Shared->Prop}{s:Shared}{elt g1 t2 i2 scope pos it acc env}
  (h0:codeAny (model prog w) A (.compLoop (.ListComp elt [g1,⟨t2,i2,[],0⟩] scope pos) 1 it acc env) R s)
  (h:wpAny (model prog w) A (pyIter it) (λBx s'=>codeAny (model prog w) A (.compLoop (.ListComp elt [g1,⟨t2,i2,[],0⟩] scope pos) 1 Bx acc env) R s')
   (notedBy (model prog w) A env λx s'=>R (.error x) s') s):
  codeAny (model prog w) A (.compStart (.ListComp elt [g1,⟨t2,i2,[],0⟩] scope pos) 1 it acc env) R s:=by
 refine codeAny_of_tree ?_;show wpAny _ _ ((compStart (.ListComp elt [g1,⟨t2,i2,[],0⟩] scope pos) 1 it acc env).onRaise (λx=>do noteFrame x env;standAt theWindowsPlace)) _ _ s;refine wpAny_notedAt ?_;unfold compStart;show wpAny _ _ (ask>>=_) _ _ s;refine wpAny_bind (wpAny_askSetting (wpAny_ite ?_));split
 ·first
   |exact wpAny_bind (ZV (ZV (And.intro rfl h0)))
   |exact ZV (And.intro rfl h0)
 ·first
   |exact wpAny_bind (wpAny_rule (wpAny_bind (wpAny_standAt (wpAny_bind (wpAny_mono h (λBx s' h'=>ZV (And.intro rfl h')) λ_ _ x=>x)))))
   |(refine wpAny_bind (wpAny_rule ?_);show wpAny _ _ (standAt i2.pos>>=_) _ _ s;exact wpAny_bind (wpAny_standAt (wpAny_bind (wpAny_mono h (λBx s' h'=>ZV (And.intro rfl h')) λ_ _ x=>x))))
section
variable {X:Cx}
def Sg{x y2:Str}{px py pos:Pos}{elt iter iH:Expr}{scope:Scope}{cl:List (Str×Addr)}{fr:List Str}{ix:List Nat}{wi wj:TI}{te:TE}
  (hc:X.calm=true)(hi:PI X (.Name x px) iter wi)
  (jr:closureFor scope X.env=pure cl)(dX:scope.kind=.function)(iE:∀y∈scope.names,y.2≠.cell)
  (jf:∀y∈scope.names,y.2=.local->scope.names.lookup y.1=some .local)(hx:scope.names.lookup x=some .local)(vC:scope.names.lookup y2=some .local)
  (hN:(x::y2::fr).Nodup)(iV:ix.map (λi=>X.N[i]?)=fr.map some)
  (dg:∀y∈fr,X.env.kindOf y=some .cell/\(relabel scope X.env).names.lookup y=some .cell)
  (aZ:∀y c,cl.lookup y=some c->X.env.cells.lookup y=some c)
  (g5:∀y,((relabel scope X.env).names.lookup y=some .cell\/(relabel scope X.env).names.lookup y=some .free)->∃c,cl.lookup y=some c)
  (hj:∀C s H fp,PI (X.cq (x::y2::fr) scope cl C s H fp) (.Name y2 py) iH wj)
  (he:∀C s H fp,PE (X.cq (x::y2::fr) scope cl C s H fp) elt te)
  (hs:∀x,foldedSetIterable iter X.env x=pure x:=by intro _;rfl)(kN:∀env x,foldedSetIterable iH env x=pure x:=by intro _ _;rfl):
  PE X (.ListComp elt [⟨.Name x px,iter,[],0⟩,⟨.Name y2 py,iH,[],0⟩] scope pos) (Kf wi ix wj te):=by
 intro pins s σ H Q I h;rw[eval_ListComp];refine wpAny_comprehension_free (use:=none) rfl hs jr dX jf (az (hi pins s σ H _ I h) λxv s1 h1=>az h1 λpP s2 h2=>?_);obtain⟨it,fp,tn,J,H2,e,I2,T,g7,f2,q⟩:=h2;subst e;refine wpAny_newObj_type (wpAny_newFunctionEnv iE (by intro y hy;simp at hy) (λh₁ eu eU=>?_) dX);dsimp only at eu eU⊢;have jB:H2 s2.heap.objs.size=none:=I2.ao.fresh (Y3 _);obtain⟨W,⟨m0,w0⟩,turn⟩:=q.get s2.heap.objs.size jB;generalize gv:s2.heap.push {cls:=.type "list",dict:=none,data:=.seq ([]:List Value).toArray}=HL at eu eU⊢;have hC:HL.objs.size=s2.heap.objs.size+1:=by rw[<-gv,Heap.size_push]
 have old:∀b o,s2.heap.get? b=some o->h₁.get? b=some o:=λb o e=>(eU.2 b (by rw[hC];exact Zn (ZW (Zi e)))).trans (Y8 _ (gv▸Y8 _ e))
 have kS:h₁.get? s2.heap.objs.size=some {cls:=.type "list",data:=.seq ([]:List Value).toArray}:=
  (eU.2 _ (by rw[hC];exact Zn (Nat.lt_succ_self _))).trans (Y8 _ (gv▸Zq _ rfl))
 generalize og:HL.objs.size=C at eu eU⊢;rw[og]at hC;have bC:∀b o,s2.heap.get? b=some o->b≠C:=λb o e=>by rw[hC];exact Zn (ZW (Zi e))
 have Bi:∀b∈bT X.stack,∃o,s2.heap.get? b=some o:=λb hb=>by
  obtain⟨_,o,ho,_⟩:=I2.stack.mem hb;exact⟨o,ho⟩
 have fR:∀b∈fp,∃o,s2.heap.get? b=some o/\∀v,o.data≠.cell v:=λb hb=>T.obj 0 _ g7 b hb
 have jq:∀b∈fp,b∉bT X.stack:=λb hb z=>by
  rcases Y5.mp (I2.ku b z)with z|z
  ·exact(f2 b hb).2.1 z
  ·exact(f2 b hb).2.2.1 z
 let B:=X.cq (x::y2::fr) scope cl C s2 H2 fp
 have j4:B.Ok:=by
  refine⟨I2.ok.mod,dX,I2.ok.glob,I2.ok.blt,(by show s2.heap.objs.size<=C;rw[hC];exact Nat.le_succ _),λy z c e1 e2=>I2.ok.inj y z c (aZ _ _ e1) (aZ _ _ e2),λy hy=>g5 y hy,λy c z=>absurd (show false=true from z) Zk,
   λ_=>I2.ok.hd hc,I2.ok.frames,.inl rfl,λb hb=>⟨?_,λy c e=>(f2 b hb).2.2.2.2.1 y c (aZ _ _ e)⟩,I2.bs,ZQ I2.ok.iP I2.sz,λb o e hb=>?_,λb hb=>jq b hb,I2.stack,I2.o6⟩
  ·obtain⟨o,e,_⟩:=fR b hb;exact bC b o e
  ·rcases(f2 b hb).2.2.2.1 with z|z
   ·exact I2.ok.kE b o e z
   ·exact absurd (Zv (Zi (I2.ok.bs b o e).1) z) (Z2 _)
 have IB:∀tk,Inv B [] (iD ix none none σ) (upd H2 s2.heap.objs.size (.lst [])) {s2 with heap:=h₁,toks:=tk}:=λtk=>by
  refine⟨j4,rfl,I2.bare,Un.laid old (Y3 _) jB,⟨_,eu,λj y v e1 e2 e3=>?_⟩,λy c e=>?_,?_,λy c e=>?_,(λp hp=>nomatch hp),I2.ao.laid old (Y3 _) ⟨Zp _,[],0,.nil,kS⟩,?_⟩
  ·cases j with
   |zero=>cases(show(some none:Option (Option V))=some (some v)from e2)
   |succ j=>
    cases j with
    |zero=>cases(show(some none:Option (Option V))=some (some v)from e2)
    |succ j=>
     have e1:fr[j]?=some y:=e1;have e2:(ix.map λi=>(σ[i]?).join)[j]?=some (some v):=e2;have hj:=congrArg (λl=>l[j]?) iV;simp only[Zf,e1]at hj;rw[Zf]at e2;cases mE:ix[j]? with
     |none=>rw[mE]at e2;cases e2
     |some i=>
      rw[mE]at hj e2;have hj:X.N[i]?=some y:=Zg hj;have e2:(σ[i]?).join=some v:=Zg e2
      have e2:σ[i]?=some (some v):=by
       cases z:σ[i]? with
       |none=>rw[z]at e2;cases e2
       |some z'=>rw[z]at e2;rw[show z'=some v from e2]
      obtain⟨m,hn,hl⟩:=I2.loc;have hk:=dg y (Y6 e1);obtain⟨u,ru,lk⟩:=hl i y v hj e2 (.inr (.inl hk.1));refine⟨u,ru,.inr ⟨.inl hk.2,?_⟩⟩;rcases lk with⟨z,_⟩|⟨_,c,ec,⟨oc,b9,b5⟩⟩
      ·rw[hk.1]at z;cases z
      ·obtain⟨c',mF⟩:=g5 y (.inl hk.2);have:=aZ _ _ mF;rw[ec]at this;cases this;exact⟨c,mF,oc,old c oc b9,b5⟩
  ·obtain⟨v,oc,b9,b5⟩:=I2.cell y c (aZ _ _ e);exact⟨v,oc,old c oc b9,b5⟩
  ·show upd H2 s2.heap.objs.size (.lst []) C=none;rw[aj (by rw[hC];exact Nat.succ_ne_self _)];exact I2.ao.fresh (by rw[hC];exact Nat.le_succ _)
  ·obtain⟨v,oc,b9,b5⟩:=I2.cell y c (aZ _ _ e);rw[aj (Zn (Zi b9))];exact I2.dW y c (aZ _ _ e)
  ·show(iD ix none none σ).length=(x::y2::fr).length;have:=congrArg List.length iV;simp only[Y1]at this;simp[iD,this]
 have gL:∀tk,tn 0 ({s2 with heap:=h₁,toks:=tk}:Shared).heap:=λ_=>T.keep 0 _ _ g7 λb hb o e=>old b o e
 have fB:∀{H':Hp},(∀b∈fp,H' b=none)->∀b∈fp,iK B [] H' b:=λhn b hb=>by
  obtain⟨o,e,_⟩:=fR b hb;exact⟨hn b hb,bC b o e,jq b hb,.inl hb,λy c ec=>(f2 b hb).2.2.2.2.1 y c (aZ _ _ ec),(λp hp=>nomatch hp)⟩
 have loop:∀tk,codeAny (model X.prog X.w) X.A (.compLoop (.ListComp elt [⟨.Name x px,iter,[],0⟩,⟨.Name y2 py,iH,[],0⟩] scope pos) 0 (.ref it) (.ref s2.heap.objs.size) (compEnvC scope cl C X.env))
   (compPost (model X.prog X.w) X.A X.xe none (EP X pins σ Q) (.ref s2.heap.objs.size) C) {s2 with heap:=h₁,toks:=tk}:=λtk=>by
  refine codeAny_loop rfl (λn s'=>∃i ys x' y' H',Inv B [] (iD ix x' y' σ) H' s'/\tn i s'.heap/\(∀b∈fp,H' b=none)/\W i n ys H') (λn s3 hI=>?_) m0 ⟨0,[],none,none,_,IB tk,gL tk,λb hb=>?_,w0⟩
  ·obtain⟨i,ys,x',y',H3,I3,fO,cX,w3⟩:=hI;show wpAny _ _ ((compTurn (.ListComp elt [⟨.Name x px,iter,[],0⟩,⟨.Name y2 py,iH,[],0⟩] scope pos) 0 (.ref it) (.ref s2.heap.objs.size) (compEnvC scope cl C X.env)).onRaise (λx=>do noteFrame x (compEnvC scope cl C X.env);theTreesLotGoes x)) _ _ s3;refine wpAny_noted ?_;rw[OU];obtain⟨Mu,alt⟩:=turn i n ys H3 w3;refine wpAny_bind (wpAny_standAt (wpAny_bind ?_));rcases alt with⟨stop,qn⟩|⟨go,step⟩
   ·refine az (T.done B rfl rfl rfl hc i [] s3 _ H3 _ I3 (fB cX) fO stop) λr s4 ⟨hr,I4⟩=>?_;subst hr;refine ZV ?_;obtain⟨m4,kU,_⟩:=I4.loc;refine⟨m4,kU,λh' sb=>?_⟩
    have un:Un (bT X.stack) fp H2 H3 s2.heap h':=by
     have u:=I4.base;refine⟨λb o e n hb hx=>(sb.2 b (bC b o e)).trans (u.keep b o e n hb hx),λb o e n hb hx=>?_,u.free,λb o e hx=>?_,u.gc,u.fF,u.gd⟩
     ·obtain⟨sl,e1⟩:=u.slot b o e n hb hx;exact⟨sl,(sb.2 b (bC b o e)).trans e1⟩
     ·obtain⟨o',e1⟩:=u.there b o e hx;exact⟨o',(sb.2 b (bC b o e)).trans e1⟩
    refine⟨.ref s2.heap.objs.size,H3,I2.nI (s':={s4 with heap:=h'}) (ch:=fp) I4.os un (I4.ao.sameBut I4.free sb) I4.bare (λb hb=>⟨(f2 b hb).2.2.2.1,(f2 b hb).2.1,(f2 b hb).2.2.2.2⟩),rfl,qn⟩
   ·refine az (T.item B rfl rfl rfl hc i [] s3 _ H3 _ I3 (fB cX) fO go) λr s4 ⟨u,hr,h4⟩=>?_;subst hr;refine wpAny_bind (az h4 λ_ s5 ⟨xv,H5,I5,r5,y5,dJ,kO⟩=>?_);have kP:=I5.pinned (fB kO) (T.obj _ _ dJ);refine wpAny_bind (wpAny_assign_Name (lK (i:=0) (X:=B) kP hN rfl (.inl (lookup_relabel_local hx)) r5 (λs6 I6=>?_) (.inr (lookup_relabel_local hx))));have I6:Inv B ([]++jP fp s5.heap) (iD ix (some xv) y' σ) H5 s6:=I6;generalize MI:([]:List (Addr×Obj))++jP fp s5.heap=pp at I6
    have kp:∀{st:St}{H8:Hp}{s8:Shared},Inv B pp st H8 s8->tn (i+1) s8.heap/\∀b∈fp,H8 b=none:=λI8=>by
     subst MI
     exact⟨T.keep _ _ _ dJ λb hb o e=>(I8.pin (b,o) (Zb _ (Zb _ (iu hb e)))).1,λb hb=>by
      obtain⟨o,e,d⟩:=T.obj _ _ dJ b hb;exact(I8.pin (b,o) (Zb _ (Zb _ (iu hb e)))).2.1⟩
    have un8:∀{st:St}{H8:Hp}{s8:Shared},Inv B pp st H8 s8->Inv B [] st H8 s8:=λI8=>by
     subst MI;exact I8.kg
    refine wpAny_bind (wpAny_mono (hj C s2 H2 fp pp s6 _ H5 _ I6 (step xv H5 y5 y')) (λxv2 s7 h7=>?_) λ_ _ z=>Zu z);refine wpAny_bind (wpAny_standAt (wpAny_bind (wpAny_of_eq (kN _ _) (wpAny_bind (wpAny_holding (wpAny_mono h7 (λacJ s8 h8=>?_) λ_ _ z=>Zu z))))));obtain⟨sQ,mK,tn2,J2,H8,e8,I8,T2,MJ,f8,q8⟩:=h8;subst e8;obtain⟨VV,⟨n0,v0⟩,aa0⟩:=q8;refine wpAny_bind (wpAny_runOwn ?_)
    have K6:∀By:Shared,By=s8->codeAny (model X.prog X.w) X.A (.compLoop (.ListComp elt [⟨.Name x px,iter,[],0⟩,⟨.Name y2 py,iH,[],0⟩] scope pos) 1 (.ref sQ) (.ref s2.heap.objs.size) (compEnvC scope cl C X.env))
      (λr s'=>match r with|.ok _=>∃m' kZ zs H',m'<n/\Inv B pp (iD ix (some xv) kZ σ) H' s'/\W (i+1) m' zs H'|.error _=>False) By:=λBy es8=>by
     subst es8;refine codeAny_loop rfl (λn s'=>∃j zs kZ H',Inv B pp (iD ix (some xv) kZ σ) H' s'/\tn2 j s'.heap/\(∀b∈mK,H' b=none)/\VV j n zs H') (λn s3 hI=>?_) n0 ⟨0,ys,y',H8,I8,MJ,λb hb=>(f8 b hb).1,v0⟩;obtain⟨j,zs,kZ,H9,I9,MK,ML,v9⟩:=hI;show wpAny _ _ ((compTurn (.ListComp elt [⟨.Name x px,iter,[],0⟩,⟨.Name y2 py,iH,[],0⟩] scope pos) 1 (.ref sQ) (.ref s2.heap.objs.size) (compEnvC scope cl C X.env)).onRaise (λx=>do noteFrame x (compEnvC scope cl C X.env);theTreesLotGoes x)) _ _ s3;refine wpAny_noted ?_;rw[OL];obtain⟨MM,alt⟩:=aa0 j n zs H9 v9;have Bz:∀{Hq:Hp},(∀b∈mK,Hq b=none)->∀b∈mK,iK B pp Hq b:=λhn b hb=>⟨hn b hb,(f8 b hb).2⟩;refine wpAny_bind (wpAny_standAt (wpAny_bind ?_));rcases alt with⟨stop,m',hm',w'⟩|⟨go,hlen,aa1⟩
     ·refine wpAny_mono (T2.done B rfl rfl rfl hc j pp s3 _ H9 (λ_ _=>False) I9 (Bz ML) MK stop) (λr s4 ⟨hr,I4⟩=>?_) λ_ _ z=>Zu z;subst hr;exact ZV ⟨m',kZ,zs,H9,hm',I4,w'⟩
     ·refine wpAny_mono (T2.item B rfl rfl rfl hc j pp s3 _ H9 (λ_ _=>False) I9 (Bz ML) MK go) (λr s4 ⟨u,hr,h4⟩=>?_) λ_ _ z=>Zu z;subst hr;refine wpAny_bind (wpAny_mono h4 (λ_ BA ⟨yv,BC,I10,r10,y10,AX,ab2⟩=>?_) λ_ _ z=>Zu z);have ab3:=I10.pinned (Bz ab2) (T2.obj _ _ AX);refine wpAny_bind (wpAny_assign_Name (lK (i:=1) (X:=B) ab3 hN rfl (.inl (lookup_relabel_local vC)) r10 (λMN BD=>?_) (.inr (lookup_relabel_local vC))));have BD:Inv B (pp++jP mK BA.heap) (iD ix (some xv) (some yv) σ) BC MN:=BD;refine wpAny_bind (wpAny_bind (wpAny_mono (he C s2 H2 fp _ MN _ BC _ BD (aa1 yv BC y10)) (λv bV ⟨y,MO,I12,r12,ab4,m',hm,sU⟩=>?_) λ_ _ z=>Zu z))
      refine wpAny_bind (wpAny_mono (eG (X:=B) _ bV _ MO (.ref s2.heap.objs.size) [y] (.ref s2.heap.objs.size) [v] (λ_ H8=>H8=upd MO s2.heap.objs.size (.lst (zs++[y]))) I12 rfl (.cons r12 .nil) ⟨_,zs,y,rfl,rfl,ab4,hlen,rfl⟩)
       (λ_ cZ ⟨_,H13,BE,_,e13⟩=>?_) λ_ _ z=>Zu z)
      subst e13;refine ZV (ZV ⟨rfl,m',hm,j+1,zs++[y],some yv,_,BE.kg,T2.keep _ _ _ AX λb hb o e=>(BE.pin (b,o) (Zb _ (Zb _ (iu hb e)))).1,λb hb=>?_,sU⟩);obtain⟨o,e,d⟩:=T2.obj _ _ AX b hb;exact(BE.pin (b,o) (Zb _ (Zb _ (iu hb e)))).2.1
    have cont:codeAny (model X.prog X.w) X.A (.compStart (.ListComp elt [⟨.Name x px,iter,[],0⟩,⟨.Name y2 py,iH,[],0⟩] scope pos) 1 (.ref sQ) (.ref s2.heap.objs.size) (compEnvC scope cl C X.env))
      (λr s'=>match r with|.ok _=>∃m' kZ zs H',m'<n/\Inv B pp (iD ix (some xv) kZ σ) H' s'/\W (i+1) m' zs H'|.error _=>False) s8:=
     Ot (K6 _ rfl) (T2.self _ 0 _ _ _ MJ (K6 _ rfl))
    refine codeAny_mono cont λr s' hr=>?_;cases r with
    |error _=>exact Zu hr
    |ok f=>
     obtain⟨m',kZ,zs,H',hm,I',w'⟩:=hr;exact ZV ⟨rfl,m',hm,i+1,zs,some xv,kZ,H',un8 I',(kp I').1,(kp I').2,w'⟩
  ·obtain⟨o,e,_⟩:=fR b hb;rw[aj (Zn (Zi e))];exact(f2 b hb).1
 exact codeAny_compStart_list (loop _) (T.self _ 0 _ _ _ (gL _) (loop _))
end
section
variable {X:Cx}{te:TE}{pos:Pos}
def pit{l tg:Expr}{tl:TE}(K:PySem.W.Frag)(e:X.K=K)(hl:PE X l tl):PI X tg l (Av K tl):=by subst e;exact zp hl
def UL{x y2:Str}{px py:Pos}{elt iter iH:Expr}{scope:Scope}{cl:List (Str×Addr)}{wi wj:TI}(fr:List Str)(ix:List Nat)
  (hi:PI X (.Name x px) iter wi)(hj:∀C s H fp,PI (X.cq (x::y2::fr) scope cl C s H fp) (.Name y2 py) iH wj)(he:∀C s H fp,PE (X.cq (x::y2::fr) scope cl C s H fp) elt te)
  (aZ:∀y c,cl.lookup y=some c->X.env.cells.lookup y=some c)
  (jr:closureFor scope X.env=pure cl:=by rfl)(hc:X.calm=true:=by rfl)(dX:scope.kind=.function:=by rfl)(iE:(scope.names.all λp=>p.2 != .cell)=true:=by rfl)
  (jf:(scope.names.all λp=>p.2 != .local||scope.names.lookup p.1==some .local)=true:=by rfl)(hx:scope.names.lookup x=some .local:=by rfl)(vC:scope.names.lookup y2=some .local:=by rfl)
  (hN:(x::y2::fr).Nodup:=by decide+kernel)(iV:ix.map (λi=>X.N[i]?)=fr.map some:=by rfl)
  (dg:(fr.all λy=>X.env.kindOf y==some .cell&&(relabel scope X.env).names.lookup y==some .cell)=true:=by rfl)
  (g5:((relabel scope X.env).names.all λp=>(p.2 != .cell&&p.2 != .free)||(cl.lookup p.1).isSome)=true:=by rfl)
  (hs:∀x,foldedSetIterable iter X.env x=pure x:=by intro _;rfl)(kN:∀env x,foldedSetIterable iH env x=pure x:=by intro _ _;rfl):
  PE X (.ListComp elt [⟨.Name x px,iter,[],0⟩,⟨.Name y2 py,iH,[],0⟩] scope pos) (Kf wi ix wj te):=by
 refine Sg hc hi jr dX (λy hy e=>?_) (λy hy e=>?_) hx vC hN iV (λy hy=>?_) aZ (λy hy=>?_) hj he hs kN
 ·have:=ZC.mp iE y hy;rw[e]at this;exact absurd this (by decide)
 ·have:=ZC.mp jf y hy;rw[e]at this;simpa using this
 ·have:=ZC.mp dg y hy;rw[Bool.and_eq_true]at this;exact⟨eq_of_beq this.1,eq_of_beq this.2⟩
 ·have:∃k,(relabel scope X.env).names.lookup y=some k/\(k=.cell\/k=.free):=by
   rcases hy with h|h
   ·exact⟨_,h,.inl rfl⟩
   ·exact⟨_,h,.inr rfl⟩
  obtain⟨k,e,hk⟩:=this;have:=ZC.mp g5 (y,k) (ZM e)
  have h2:(cl.lookup y).isSome=true:=by
   rcases hk with rfl|rfl<;>simpa using this
  exact Option.isSome_iff_exists.mp h2
def QU{K:PySem.W.Frag}{lo:Int}{n:Nat}{ix:List Nat}{ta:TA}{σ:St}{H:Hp}{Q:VK}(f:Nat->List Int)(hn:n<=1000)(hf:∀i,(f i).length=2)
  (ha:∀i,i<n->∀(y0:Option V) (H2:Hp) (Q':List V->Hp->Prop),Q' ((f i).map V.int) H2->ta (iD ix (some (.int (lo+i))) y0 σ) H2 Q')
  (hQ:∀D H',H D=none->H' D=some (.lst (((List.range n).flatMap f).map V.int))->aa H H'->Q (.ref D) H'):
  Wr (Ke (fN lo n) ix (Av K (AA ta)) (gZ 1) σ H Q):=by
 refine⟨λD hD=>⟨λi m ys H2=>m=n-i/\i<=n/\ys=((List.range i).flatMap f).map V.int/\H2 D=some (.lst ys)/\aa H H2,⟨n,rfl,Zp _,rfl,ak,(λb o e=>by rw[aj (a9 e hD)];exact e)⟩,?_⟩⟩;rintro i m ys H2 ⟨rfl,hi,rfl,mM,s2⟩;refine⟨mM,?_⟩;by_cases aQ:i<n
 ·refine .inr ⟨aQ,λx H' y y0=>?_⟩;obtain⟨e,y⟩:=y;subst e y;refine ha i aQ y0 H' _ ⟨?_,λt ht=>?_⟩
  ·rw[Y1,hf];exact(by decide:2<=sizeLine)
  refine⟨t,rfl,⟨_,aV.of ak⟩,?_⟩;have nt:D≠t:=λz=>by rw[<-z,mM]at ht;cases ht
  have len:((List.range i).flatMap f).length=2*i:=by
   clear aQ hi mM ht nt s2 hD ha hn
   induction i with
   |zero=>rfl
   |succ i ih=>rw[List.range_succ,List.flatMap_append,Zo,ih];simp[hf];omega
  refine⟨λj m2 zs H4=>m2=2-j/\j<=2/\zs=((List.range i).flatMap f).map V.int++((f i).take j).map V.int/\H4=upd (upd H' t (.tup ((f i).map V.int))) D (.lst zs),⟨2,rfl,Zp _,by simp,?_⟩,?_⟩
  ·funext b
   by_cases z:b=D
   ·rw[z,ak,aj nt];exact mM
   ·rw[aj (a:=D) z]
  rintro j m2 zs H4 ⟨rfl,hj,rfl,rfl⟩;refine⟨ak,?_⟩;have st:aV K (upd (upd H' t (.tup ((f i).map V.int))) D (.lst (((List.range i).flatMap f).map V.int++((f i).take j).map V.int))) t ((f i).map V.int):=aV.of (by rw[aj (λz=>nt z.symm),ak]);by_cases sV:j<2
  ·have BF:j<(f i).length:=by rw[hf];exact sV
   refine .inr ⟨⟨_,V.int (f i)[j],st,by simp[BF]⟩,?_,λy H5 yl=>?_⟩
   ·refine ZP (?_:_<=10000) (by decide);rw[Zo,Y1,Y1,len,Zx,hf];omega
   obtain⟨e,yl⟩:=yl;subst e;have ey:=yl _ st;rw[Zf,Zd BF]at ey;cases ey;refine⟨_,rfl,ak,2-(j+1),by omega,rfl,sV,?_,by rw[kh]⟩;rw[Zj BF,Ze,ZY];rfl
  ·have e:j=2:=by omega
   subst e;refine .inl ⟨⟨_,st,by rw[Y1,hf];exact Y3 _⟩,n-(i+1),by omega,rfl,aQ,?_,ak,?_⟩
   ·rw[ZE (by rw[hf];exact Y3 _),List.range_succ,List.flatMap_append,Ze];simp
   ·intro b o e;have h1:=s2 b o e;have nb:b≠D:=a9 e hD;have nb2:b≠t:=a9 h1 ht;rw[aj nb,aj nb2];exact h1
 ·have e:i=n:=by omega
  subst e;exact .inl ⟨Y3 _,hQ D H2 hD mM s2⟩
end
def Jb(J:It)(n:Nat)(gT:TG)(tk tv:TE)(H1:Hp)(Q:VK):Prop:=∀D,H1 D=none->∃(e0:HO) (W:Nat->Nat->Hp->Prop),(e0=.dK []\/e0=.dT [])/\(∃m,W 0 m (upd H1 D e0))/\
 ∀i m H2,W i m H2->(J.stop i H2/\Q (.ref D) H2)\/(J.go i H2/\∀x H',J.fM i H2 x H'->∀nb:St,nb.length=n->gT x nb H' λσ2 H3=>tk σ2 H3 λy H4=>tv σ2 H4 λyv H5=>
  ∃H6,gH H5 D y yv H6/\∃m',m'<m/\W (i+1) m' H6)
def Jc(wi:TI)(n:Nat)(gT:TG)(tk tv:TE):TE:=λσ H Q=>wi σ H λJ H1=>Wr (Jb J n gT tk tv H1 Q)
def aa2{P:Program}{w:World}{H:Hp}{h h':Heap}(e:h'.get? h.objs.size=some {cls:=.type "dict",data:=.dict #[]})(hb:sysModules<h.objs.size):bY P w H h' h.objs.size (.dT []):=
 ⟨Zp _,ZH.mpr (Ne.symm (Zn hb)),[],.nil,_, #[],0,e,⟨rfl,rfl,rfl⟩,rfl,rfl,List.nodup_nil⟩
section
variable {X:Cx}{pins:List (Addr×Obj)}{σ:St}{H:Hp}{s:Shared}{a:Addr}{y v:V}{u r:Value}{A:Around}{E:Value->Shared->Prop}
def Sh{H':Hp}{Q:Unit->Shared->Prop}(hu:A.units+1<cLine)(I:Inv X pins σ H s)(g:gH H a y v H')(ry:RelV y u)(rv:RelV v r)(h:∀s',Inv X pins σ H' s'->Q () s'):
  wpAny (model X.prog X.w) A (dictSet a u r) Q E s:=by
 rcases g with⟨kvs,k,e,ey,l,eH⟩|⟨kvs,k,b,e,ey,eb,l,eH⟩
 ·subst ey eH;obtain⟨z,hd,vs,rel,dd⟩:=zZ I.ao e;have hz:vs.length<=sizeLine:=by rw[<-rel.length];exact z
  have hl:(putK kvs k v).length<=sizeLine:=by have:=qC kvs k v;omega
  refine wpAny_dictSet_pairs (hsz:=hz) (lW ry) dd λh' iU hs=>h _ ?_;have he:∃q,h'.get? a=some q:=let⟨q,_,_,hq,_⟩:=iU;⟨q,hq⟩
  exact qQ I (by rw[e];exact True.intro) hs he (zu hl hd (rel.put k rv) iU)
 ·subst ey eH;cases(show u=Value.ref b from ry);obtain⟨z,hd,xs,rel,dd⟩:=Aa I.ao e;have hz:xs.length<=sizeLine:=by rw[<-Paired.length rel];exact z
  have hl:(putK kvs k v).length<=sizeLine:=by have:=qC kvs k v;omega
  refine wpAny_dictSet_heap (hsz:=hz) (show(tupleKind (cU X.prog X.w)).room A from Nat.lt_of_succ_lt hu) (nA I.ao eb) dd λh' iU hs=>h _ ?_;obtain⟨q,es,ep,hq,h2,h3,h4,_,h5⟩:=iU;refine qQ I (by rw[e];exact True.intro) hs ⟨q,hq⟩ ⟨hl,hd,_,(rel.put k eb rv).keeps λc ys ec=>?_,q,es,ep,hq,h2,h3,h4,h5⟩;rw[aj (Ku ec e (λz=>nomatch z))];exact ec
end
section
variable {X:Cx}
def QV{NB:List Str}{k7:Expr}{gT:TG}{pos:Pos}{kx vx iter:Expr}{scope:Scope}{cl:List (Str×Addr)}{wi:TI}{tk tv:TE}
  (hu:X.A.units+1<cLine)(hc:X.calm=true)(hi:PI X k7 iter wi)
  (jr:closureFor scope X.env=pure cl)(dX:scope.kind=.function)(iE:∀y∈scope.names,y.2≠.cell)
  (jf:∀y∈scope.names,y.2=.local->scope.names.lookup y.1=some .local)
  (aZ:∀y c,cl.lookup y=some c->X.env.cells.lookup y=some c)
  (g5:∀y,((relabel scope X.env).names.lookup y=some .cell\/(relabel scope X.env).names.lookup y=some .free)->∃c,cl.lookup y=some c)
  (hg:∀C s H fp,PG (X.cq NB scope cl C s H fp) k7 gT)
  (hk:∀C s H fp,PE (X.cq NB scope cl C s H fp) kx tk)(he:∀C s H fp,PE (X.cq NB scope cl C s H fp) vx tv)
  (hs:∀x,foldedSetIterable iter X.env x=pure x:=by intro _;rfl):
  PE X (.DictComp kx vx [⟨k7,iter,[],0⟩] scope pos) (Jc wi NB.length gT tk tv):=by
 intro pins s σ H Q I h;rw[arm_eval_DictComp];refine wpAny_comprehension_free (use:=none) rfl hs jr dX jf (az (hi pins s σ H _ I h) λxv s1 h1=>az h1 λpP s2 h2=>?_);obtain⟨it,fp,tn,J,H2,e,I2,T,g7,f2,q⟩:=h2;subst e;refine wpAny_newObj_type (wpAny_newFunctionEnv iE (by intro y hy;simp at hy) (λh₁ eu eU=>?_) dX);dsimp only at eu eU⊢;have jB:H2 s2.heap.objs.size=none:=I2.ao.fresh (Y3 _);obtain⟨e0,W,he0,⟨m0,w0⟩,turn⟩:=q.get s2.heap.objs.size jB;generalize gv:s2.heap.push {cls:=.type "dict",dict:=none,data:=.dict #[]}=HL at eu eU⊢;have hC:HL.objs.size=s2.heap.objs.size+1:=by rw[<-gv,Heap.size_push]
 have old:∀b o,s2.heap.get? b=some o->h₁.get? b=some o:=λb o e=>(eU.2 b (by rw[hC];exact Zn (ZW (Zi e)))).trans (Y8 _ (gv▸Y8 _ e))
 have kS:h₁.get? s2.heap.objs.size=some {cls:=.type "dict",data:=.dict #[]}:=
  (eU.2 _ (by rw[hC];exact Zn (Nat.lt_succ_self _))).trans (Y8 _ (gv▸Zq _ rfl))
 generalize og:HL.objs.size=C at eu eU⊢;rw[og]at hC;have bC:∀b o,s2.heap.get? b=some o->b≠C:=λb o e=>by rw[hC];exact Zn (ZW (Zi e))
 have Bi:∀b∈bT X.stack,∃o,s2.heap.get? b=some o:=λb hb=>by
  obtain⟨_,o,ho,_⟩:=I2.stack.mem hb;exact⟨o,ho⟩
 have fR:∀b∈fp,∃o,s2.heap.get? b=some o/\∀v,o.data≠.cell v:=λb hb=>T.obj 0 _ g7 b hb
 have jq:∀b∈fp,b∉bT X.stack:=λb hb z=>by
  rcases Y5.mp (I2.ku b z)with z|z
  ·exact(f2 b hb).2.1 z
  ·exact(f2 b hb).2.2.1 z
 let B:=X.cq NB scope cl C s2 H2 fp
 have j4:B.Ok:=by
  refine⟨I2.ok.mod,dX,I2.ok.glob,I2.ok.blt,(by show s2.heap.objs.size<=C;rw[hC];exact Nat.le_succ _),λy z c e1 e2=>I2.ok.inj y z c (aZ _ _ e1) (aZ _ _ e2),λy hy=>g5 y hy,λy c z=>absurd (show false=true from z) Zk,
   λ_=>I2.ok.hd hc,I2.ok.frames,.inl rfl,λb hb=>⟨?_,λy c e=>(f2 b hb).2.2.2.2.1 y c (aZ _ _ e)⟩,I2.bs,ZQ I2.ok.iP I2.sz,λb o e hb=>?_,λb hb=>jq b hb,I2.stack,I2.o6⟩
  ·obtain⟨o,e,_⟩:=fR b hb;exact bC b o e
  ·rcases(f2 b hb).2.2.2.1 with z|z
   ·exact I2.ok.kE b o e z
   ·exact absurd (Zv (Zi (I2.ok.bs b o e).1) z) (Z2 _)
 have Bw:∀HH,bY X.prog X.w HH h₁ s2.heap.objs.size e0:=λHH=>by
  rcases he0 with z|z
  ·subst z;exact aaQ kS I2.big
  ·subst z;exact aa2 kS I2.big
 have IB:∀tk,Inv B [] (List.replicate NB.length none) (upd H2 s2.heap.objs.size e0) {s2 with heap:=h₁,toks:=tk}:=λtk=>by
  refine⟨j4,rfl,I2.bare,Un.laid old (Y3 _) jB,⟨_,eu,λj y v e1 e2 e3=>?_⟩,λy c e=>?_,?_,λy c e=>?_,(λp hp=>nomatch hp),I2.ao.laid old (Y3 _) (Bw _),?_⟩
  ·rw[ZS]at e2;split at e2<;>cases e2
  ·obtain⟨v,oc,b9,b5⟩:=I2.cell y c (aZ _ _ e);exact⟨v,oc,old c oc b9,b5⟩
  ·show upd H2 s2.heap.objs.size e0 C=none;rw[aj (by rw[hC];exact Nat.succ_ne_self _)];exact I2.ao.fresh (by rw[hC];exact Nat.le_succ _)
  ·obtain⟨v,oc,b9,b5⟩:=I2.cell y c (aZ _ _ e);rw[aj (Zn (Zi b9))];exact I2.dW y c (aZ _ _ e)
  ·exact ZR
 have gL:∀tk,tn 0 ({s2 with heap:=h₁,toks:=tk}:Shared).heap:=λ_=>T.keep 0 _ _ g7 λb hb o e=>old b o e
 have fB:∀{H':Hp},(∀b∈fp,H' b=none)->∀b∈fp,iK B [] H' b:=λhn b hb=>by
  obtain⟨o,e,_⟩:=fR b hb;exact⟨hn b hb,bC b o e,jq b hb,.inl hb,λy c ec=>(f2 b hb).2.2.2.2.1 y c (aZ _ _ ec),(λp hp=>nomatch hp)⟩
 have loop:∀tk,codeAny (model X.prog X.w) X.A (.compLoop (.DictComp kx vx [⟨k7,iter,[],0⟩] scope pos) 0 (.ref it) (.ref s2.heap.objs.size) (compEnvC scope cl C X.env))
   (compPost (model X.prog X.w) X.A X.xe none (EP X pins σ Q) (.ref s2.heap.objs.size) C) {s2 with heap:=h₁,toks:=tk}:=λtk=>by
  refine codeAny_loop rfl (λn s'=>∃i nb H',Inv B [] nb H' s'/\tn i s'.heap/\(∀b∈fp,H' b=none)/\W i n H') (λn s3 hI=>?_) m0 ⟨0,_,_,IB tk,gL tk,λb hb=>?_,w0⟩
  ·obtain⟨i,nb,H3,I3,fO,cX,w3⟩:=hI;show wpAny _ _ ((compTurn (.DictComp kx vx [⟨k7,iter,[],0⟩] scope pos) 0 (.ref it) (.ref s2.heap.objs.size) (compEnvC scope cl C X.env)).onRaise (λx=>do noteFrame x (compEnvC scope cl C X.env);theTreesLotGoes x)) _ _ s3;refine wpAny_noted ?_;rw[compTurn_dict];have alt:=turn i n H3 w3;refine wpAny_bind (wpAny_standAt (wpAny_bind ?_));rcases alt with⟨stop,qn⟩|⟨go,step⟩
   ·refine az (T.done B rfl rfl rfl hc i [] s3 _ H3 _ I3 (fB cX) fO stop) λr s4 ⟨hr,I4⟩=>?_;subst hr;refine ZV ?_;obtain⟨m4,kU,_⟩:=I4.loc;refine⟨m4,kU,λh' sb=>?_⟩
    have un:Un (bT X.stack) fp H2 H3 s2.heap h':=by
     have u:=I4.base;refine⟨λb o e n hb hx=>(sb.2 b (bC b o e)).trans (u.keep b o e n hb hx),λb o e n hb hx=>?_,u.free,λb o e hx=>?_,u.gc,u.fF,u.gd⟩
     ·obtain⟨sl,e1⟩:=u.slot b o e n hb hx;exact⟨sl,(sb.2 b (bC b o e)).trans e1⟩
     ·obtain⟨o',e1⟩:=u.there b o e hx;exact⟨o',(sb.2 b (bC b o e)).trans e1⟩
    refine⟨.ref s2.heap.objs.size,H3,I2.nI (s':={s4 with heap:=h'}) (ch:=fp) I4.os un (I4.ao.sameBut I4.free sb) I4.bare (λb hb=>⟨(f2 b hb).2.2.2.1,(f2 b hb).2.1,(f2 b hb).2.2.2.2⟩),rfl,qn⟩
   ·refine az (T.item B rfl rfl rfl hc i [] s3 _ H3 _ I3 (fB cX) fO go) λr s4 ⟨u,hr,h4⟩=>?_;subst hr;refine wpAny_bind (az h4 λ_ s5 ⟨xv,H5,I5,r5,y5,dJ,kO⟩=>?_);have kP:=I5.pinned (fB kO) (T.obj _ _ dJ);refine wpAny_bind (wpAny_mono (hg C s2 H2 fp _ s5 _ H5 xv u _ kP r5 (step xv H5 y5 nb I3.len)) (λ_ s6 ⟨σ2,H6,I6,q6⟩=>?_) λ_ _ z=>Zu z);refine wpAny_bind (wpAny_tests_nil (wpAny_bind (wpAny_bind (wpAny_mono (hk C s2 H2 fp _ s6 _ H6 _ I6 q6) (λkv s7 ⟨y,H7,I7,r7,q7⟩=>?_) λ_ _ z=>Zu z))));refine wpAny_bind (wpAny_holding (wpAny_mono (he C s2 H2 fp _ s7 _ H7 _ I7 q7) (λvv s8 ⟨yv,H8,I8,r8,H9,g9,m',hm,w8⟩=>?_) λ_ _ z=>Zu z));refine wpAny_bind (wpAny_standAt (wpAny_holding (Sh (X:=B) hu I8 g9 r7 r8 λs9 I9=>?_)));refine ZV ⟨rfl,m',hm,i+1,σ2,_,I9.kg,T.keep _ _ _ dJ λb hb o e=>(I9.pin (b,o) (Zb _ (Zb _ (iu hb e)))).1,λb hb=>?_,w8⟩;obtain⟨o,e,d⟩:=T.obj _ _ dJ b hb;exact(I9.pin (b,o) (Zb _ (Zb _ (iu hb e)))).2.1
  ·obtain⟨o,e,_⟩:=fR b hb;rw[aj (Zn (Zi e))];exact(f2 b hb).1
 exact codeAny_compStart_dict (loop _) (T.self _ 0 _ _ _ (gL _) (loop _))
end
section
variable {X:Cx}
def pgt(K:PySem.W.Frag){pos:Pos}{es:List Expr}{k:Nat}{t:mB}{n:Nat}(e:X.K=K)(hc:X.calm=true)(h:r9 X es t)
  (hn:(assignEach es X.env).length=n:=by rfl)(bz:(assignEach es X.env).findIdx? (·.1)=none:=by rfl):PG X (.Tuple es k pos) (Lo K n t):=by subst e;exact eM hc h hn bz
def Si{k7:Expr}{gT:TG}{pos:Pos}{kx vx iter:Expr}{scope:Scope}{cl:List (Str×Addr)}{wi:TI}{tk tv:TE}(NB:List Str)
  (hu:X.A.units+1<cLine)(hi:PI X k7 iter wi)
  (hg:∀C s H fp,PG (X.cq NB scope cl C s H fp) k7 gT)
  (hk:∀C s H fp,PE (X.cq NB scope cl C s H fp) kx tk)(he:∀C s H fp,PE (X.cq NB scope cl C s H fp) vx tv)
  (aZ:∀y c,cl.lookup y=some c->X.env.cells.lookup y=some c)
  (jr:closureFor scope X.env=pure cl:=by rfl)(hc:X.calm=true:=by rfl)(dX:scope.kind=.function:=by rfl)(iE:(scope.names.all λp=>p.2 != .cell)=true:=by rfl)
  (jf:(scope.names.all λp=>p.2 != .local||scope.names.lookup p.1==some .local)=true:=by rfl)
  (g5:((relabel scope X.env).names.all λp=>(p.2 != .cell&&p.2 != .free)||(cl.lookup p.1).isSome)=true:=by rfl)
  (hs:∀x,foldedSetIterable iter X.env x=pure x:=by intro _;rfl):
  PE X (.DictComp kx vx [⟨k7,iter,[],0⟩] scope pos) (Jc wi NB.length gT tk tv):=by
 refine QV hu hc hi jr dX (λy hy e=>?_) (λy hy e=>?_) aZ (λy hy=>?_) hg hk he hs
 ·have:=ZC.mp iE y hy;rw[e]at this;exact absurd this (by decide)
 ·have:=ZC.mp jf y hy;rw[e]at this;simpa using this
 ·have:∃k,(relabel scope X.env).names.lookup y=some k/\(k=.cell\/k=.free):=by
   rcases hy with h|h
   ·exact⟨_,h,.inl rfl⟩
   ·exact⟨_,h,.inr rfl⟩
  obtain⟨k,e,hk⟩:=this;have:=ZC.mp g5 (y,k) (mem_of_lookup e)
  have h2:(cl.lookup y).isSome=true:=by
   rcases hk with rfl|rfl<;>simpa using this
  exact Option.isSome_iff_exists.mp h2
end
end L2
namespace My
open PySem L2
def lets(k:Nat):List Int:=(List.range k).flatMap λ(i:Nat)=>[1+(i:Int), -(1+(i:Int))]
def yx{k:Nat}{l:Int}:l∈lets k↔Let k l:=by
 unfold lets Let;rw[List.mem_flatMap];constructor
 ·rintro⟨i,hi,h⟩;have:=ZU.mp hi;rcases Y5.mp h with e|h
  ·omega
  ·have e:=Y2.mp h;omega
 ·rintro⟨h0,h1,h2⟩;refine⟨l.natAbs-1,ZU.mpr (by omega),?_⟩;by_cases hp:0<l
  ·exact Y5.mpr (.inl (by omega))
  ·exact Y4 _ (Y2.mpr (by omega))
def UM(k:Nat):(lets k).length=2*k:=by
 unfold lets
 induction k with
 |zero=>rfl
 |succ k ih=>rw[List.range_succ,List.flatMap_append,Zo,ih];simp;omega
def cP(T:Tab)(c:Nat)(O:List Nat)(l:Int):List Nat:=match cT T c l with
 |none=>O
 |some d=>if d.toNat∈O then O else O++[d.toNat]
def pL(T:Tab)(k:Nat)(O:List Nat)(i:Nat):List Nat:=(lets k).foldl (cP T (O.getD i 0)) O
def mO(T:Tab)(k:Nat):Nat->Nat->List Nat->List Nat
 |0,_,O=>O
 |f+1,i,O=>if i<O.length then mO T k f (i+1) (pL T k O i)else O
def met(T:Tab)(k n base:Nat):List Nat:=mO T k (n+1) 0 [base]
def Hk{T:Tab}{k f i:Nat}{O:List Nat}(h:O.length<=i):mO T k f i O=O:=by
 cases f with
 |zero=>rfl
 |succ f=>show(if i<O.length then _ else O)=O;rw[if_neg (by omega)]
def Kg{T:Tab}{k f i:Nat}{O:List Nat}(h:i<O.length):mO T k (f+1) i O=mO T k f (i+1) (pL T k O i):=by
 show(if i<O.length then _ else O)=_;rw[if_pos h]
def Jd{T:Tab}{k:Nat}(P:Nat->List Nat->Prop)(h:∀i O,i<O.length->P i O->P (i+1) (pL T k O i)):∀(f i:Nat) (O:List Nat),P i O->∃i',P i' (mO T k f i O)/\((mO T k f i O).length<=i'\/i'=i+f)
 |0,i,O,p=>⟨i,p,.inr rfl⟩
 |f+1,i,O,p=>by
  by_cases hl:i<O.length
  ·rw[Kg hl];obtain⟨i',p',q⟩:=Jd P h f (i+1) _ (h i O hl p);exact⟨i',p',q.imp id λe=>by omega⟩
  ·rw[Hk (by omega)];exact⟨i,p,.inl (by omega)⟩
def W2{T:Tab}{c:Nat}{O:List Nat}{l:Int}:∃r,cP T c O l=O++r:=by
 unfold cP;split
 ·exact⟨[],by simp⟩
 ·split
  ·exact⟨[],by simp⟩
  ·exact⟨_,rfl⟩
def yy{T:Tab}{c:Nat}:∀(ls:List Int) (O:List Nat),∃r,ls.foldl (cP T c) O=O++r
 |[],O=>⟨[],by simp⟩
 |l::ls,O=>by
  obtain⟨r,e⟩:=W2 (T:=T) (c:=c) (O:=O) (l:=l);obtain⟨r',e'⟩:=yy ls (cP T c O l);refine⟨r++r',?_⟩;show ls.foldl (cP T c) (cP T c O l)=_;rw[e',e,ZY]
def W3{T:Tab}{c:Nat}{O:List Nat}{l d:Int}(e:cT T c l=some d):d.toNat∈cP T c O l:=by
 unfold cP;rw[e];dsimp only;split
 ·assumption
 ·exact Zb _ (Y2.mpr rfl)
def Hm{T:Tab}{c:Nat}{d:Int}{l:Int}(e:cT T c l=some d):∀(ls:List Int) (O:List Nat),l∈ls->d.toNat∈ls.foldl (cP T c) O
 |a::ls,O,h=>by
  show d.toNat∈ls.foldl (cP T c) (cP T c O a);rcases Y5.mp h with q|q
  ·obtain⟨r,e'⟩:=yy (T:=T) (c:=c) ls (cP T c O a);rw[e'];exact Zc _ (q▸W3 e)
  ·exact Hm e ls _ q
structure gq(n:Nat)(O:List Nat):Prop where
 nd:O.Nodup
 lt:∀c∈O,c<n
def gq.cP{k n:Nat}{T:Tab}(ok:dc k n T){c:Nat}{O:List Nat}{l:Int}(h:gq n O):gq n (cP T c O l):=by
 unfold My.cP;split
 ·exact h
 ·rename_i d e;have:=uz ok e;split
  ·exact h
  ·rename_i q;refine⟨o9 h.nd q,λx hx=>?_⟩;rcases Y7.mp hx with z|z
   ·exact h.lt x z
   ·rw[Y2.mp z];omega
def gq.fold{k n:Nat}{T:Tab}(ok:dc k n T){c:Nat}:∀(ls:List Int) {O:List Nat},gq n O->gq n (ls.foldl (My.cP T c) O)
 |[],_,h=>h
 |l::ls,O,h=>gq.fold ok ls (h.cP ok)
def gq.len{n:Nat}{O:List Nat}(h:gq n O):O.length<=n:=by
 have gen:∀(n:Nat) (O:List Nat),O.Nodup->(∀c∈O,c<n)->O.length<=n:=by
  intro n
  induction n with
  |zero=>
   intro O _ h;cases O with
   |nil=>exact Y3 _
   |cons a _=>exact absurd (h a (Y9 ..)) (by omega)
  |succ n ih=>
   intro O nd h
   have h1:=ih (O.erase n) (nd.erase n) λc hc=>by
    have:=h c (List.mem_of_mem_erase hc);have ne:c≠n:=(nd.mem_erase_iff.mp hc).1;omega
   rw[List.length_erase]at h1;split at h1<;>omega
 exact gen n O h.nd h.lt
def W4{k n base:Nat}{T:Tab}(ok:dc k n T)(hb:base<n):gq n (met T k n base)/\base∈met T k n base/\(∀c∈met T k n base,∀l,Let k l->∀d,cT T c l=some d->d.toNat∈met T k n base):=by
 have:=Jd (T:=T) (k:=k) (λi O=>gq n O/\O[0]?=some base/\∀j,j<i->∀c,O[j]?=some c->∀l,Let k l->∀d,cT T c l=some d->d.toNat∈O) (λi O hi ⟨h1,h2,h3⟩=>by
  obtain⟨r,e⟩:=yy (T:=T) (c:=O.getD i 0) (lets k) O;refine⟨h1.fold ok _,?_,λj hj c hc l hl d hd=>?_⟩
  ·unfold pL;rw[e];rw[Zs (ZL.mp h2).1];exact h2
  ·unfold pL at hc⊢;by_cases z:j<i
   ·rw[e]at hc⊢;rw[Zs (by omega)]at hc;exact Zc _ (h3 j z c hc l hl d hd)
   ·have z:j=i:=by omega
    subst z
    have ec:O.getD j 0=c:=by
     rw[e,Zs hi]at hc;rw[List.getD,hc];rfl
    rw[ec];exact Hm hd _ _ (yx.mpr hl)) (n+1) 0 [base] ⟨⟨by simp,λc hc=>by rw[Y2.mp hc];exact hb⟩,rfl,λj hj=>by omega⟩
 obtain⟨i',⟨h1,h2,h3⟩,q⟩:=this
 have hl:(met T k n base).length<=i':=by
  rcases q with q|q
  ·exact q
  ·have:=gq.len h1;unfold met;omega
 refine⟨h1,Y6 h2,λc hc=>?_⟩;obtain⟨j,hj,e⟩:=ZD hc;exact h3 j (by omega) c (ZL.mpr ⟨hj,e⟩)
abbrev Pw:=List (Nat×List Int)
def iO(T:Tab)(p:Nat×List Int)(W:Pw)(l:Int):Pw:=match cT T p.1 l with
 |none=>W
 |some d=>if d.toNat∈W.map (·.1)then W else W++[(d.toNat,p.2++[l])]
def uW(T:Tab)(k:Nat)(W:Pw)(i:Nat):Pw:=(lets k).foldl (iO T (W.getD i (0,[]))) W
def nT(T:Tab)(k:Nat):Nat->Nat->Pw->Pw
 |0,_,W=>W
 |f+1,i,W=>if i<W.length then nT T k f (i+1) (uW T k W i)else W
def AY(T:Tab)(k n base:Nat):Pw:=nT T k (n+1) 0 [(base,[])]
def F8{T:Tab}{k f i:Nat}{W:Pw}(h:W.length<=i):nT T k f i W=W:=by
 cases f with
 |zero=>rfl
 |succ f=>show(if i<W.length then _ else W)=W;rw[if_neg (by omega)]
def Je{T:Tab}{k f i:Nat}{W:Pw}(h:i<W.length):nT T k (f+1) i W=nT T k f (i+1) (uW T k W i):=by
 show(if i<W.length then _ else W)=_;rw[if_pos h]
def UN{T:Tab}{p:Nat×List Int}{W:Pw}{l:Int}:(iO T p W l).map (·.1)=cP T p.1 (W.map (·.1)) l:=by
 unfold iO cP;split
 ·rfl
 ·split
  ·rfl
  ·rw[Ze];rfl
def F9{T:Tab}{p:Nat×List Int}:∀(ls:List Int) (W:Pw),(ls.foldl (iO T p) W).map (·.1)=ls.foldl (cP T p.1) (W.map (·.1))
 |[],_=>rfl
 |l::ls,W=>by
  show(ls.foldl (iO T p) (iO T p W l)).map (·.1)=ls.foldl (cP T p.1) (cP T p.1 (W.map (·.1)) l);rw[F9 ls,UN]
def Hn{T:Tab}{k:Nat}:∀(f i:Nat) (W:Pw),(nT T k f i W).map (·.1)=mO T k f i (W.map (·.1))
 |0,_,_=>rfl
 |f+1,i,W=>by
  by_cases h:i<W.length
  ·rw[Je h,Kg (by rw[Y1];exact h),Hn f];unfold uW pL;rw[F9];have:(W.map (·.1)).getD i 0=(W.getD i (0,[])).1:=by simp[List.getD,h]
   rw[this]
  ·rw[F8 (by omega),Hk (by rw[Y1];omega)]
def UO(T:Tab)(k n base:Nat):(AY T k n base).map (·.1)=met T k n base:=Hn ..
abbrev Wy:=List (Nat×Addr×List Int)
def keys(W:Wy):List Nat:=W.map (·.1)
def fT(W:Wy):List (Key×V):=W.map λp=>(Sum.inl (p.1:Int),V.ref p.2.1)
def era(W:Wy):Pw:=W.map λp=>(p.1,p.2.2)
def Ho(W:Wy):(era W).map (·.1)=keys W:=by unfold era keys;rw[ZK];rfl
def Hr{W:Wy}{c:Nat}(h:c∉keys W):a8 (fT W) (.inl (c:Int))=none:=by
 unfold a8;rw[Option.map_eq_none_iff,List.find?_eq_none];intro x hx;obtain⟨p,hp,rfl⟩:=Zh.mp hx;intro z;have z:(Sum.inl (p.1:Int):Key)=.inl (c:Int):=of_decide_eq_true z;have:=Sum.inl.inj z;exact h (Zh.mpr ⟨p,hp,by omega⟩)
def Hs{W:Wy}(nd:(keys W).Nodup){p:Nat×Addr×List Int}(hp:p∈W):a8 (fT W) (.inl (p.1:Int))=some (.ref p.2.1):=by
 induction W with
 |nil=>cases hp
 |cons q W ih=>
  obtain⟨n1,n2⟩:=ZG.mp nd;rcases Y5.mp hp with e|e
  ·subst e;exact gz rfl
  ·have:¬(Sum.inl (q.1:Int):Key)=.inl (p.1:Int):=λz=>by
    have:=Sum.inl.inj z;exact n1 (Zh.mpr ⟨p,e,by show p.1=q.1;omega⟩)
   show a8 ((Sum.inl (q.1:Int),V.ref q.2.1)::fT W) _=_;rw[gA this];exact ih n2 e
structure kJ(T:Tab)(k n base:Nat)(W:Wy):Prop where
 nd:(keys W).Nodup
 lt:∀p∈W,p.1<n
 hd:∃a,W[0]?=some (base,a,[])
 wk:∀p∈W,j7 T (some (base:Int)) p.2.2=some (p.1:Int)
 ll:∀p∈W,∀l∈p.2.2,Let k l
 rd:∀p∈W,cut p.2.2=p.2.2
 pr:∀p∈W,p.2.2=[]\/∃q∈W,∃l,p.2.2=q.2.2++[l]/\cT T q.1 l=some (p.1:Int)
 ln:∀(j:Nat) p,W[j]?=some p->p.2.2.length<=j
def UP(w:List Int)(l:Int):cut (w++[l])=(push (w.foldl push []) l).reverse:=by unfold cut;rw[List.foldl_append];rfl
def UQ{w:List Int}(h:cut w=w):w.foldl push []=w.reverse:=by
 unfold cut at h
 conv=>rhs;rw[<-h]
 rw[List.reverse_reverse]
def UR{w:List Int}{l:Int}(h:cut w=w)(hl:∀u,w≠u++[-l]):cut (w++[l])=w++[l]:=by
 rw[UP,UQ h];cases e:w.reverse with
 |nil=>
  have:w=[]:=by simpa using e
  subst this;rfl
 |cons t r=>
  have hw:w=r.reverse++[t]:=by
   have:=congrArg List.reverse e;rw[List.reverse_reverse]at this;rw[this];simp
  have:¬t= -l:=λz=>hl r.reverse (by rw[hw,z]);show(if t= -l then r else l::t::r).reverse=_;rw[if_neg this,hw];simp
def kJ.zero{T:Tab}{k n base:Nat}(hb:base<n)(a:Addr):kJ T k n base [(base,a,[])]:=by
 refine⟨by simp[keys],?_,⟨a,rfl⟩,?_,?_,?_,?_,?_⟩
 ·intro p hp;rw[Y2.mp hp];exact hb
 ·intro p hp;rw[Y2.mp hp];rfl
 ·intro p hp;rw[Y2.mp hp];intro l hl;cases hl
 ·intro p hp;rw[Y2.mp hp];rfl
 ·intro p hp;rw[Y2.mp hp];exact .inl rfl
 ·intro j p hj
  have:j=0:=by
   have:=(ZL.mp hj).1;simp at this;omega
  subst this;cases hj;exact Zp _
def kJ.add{T:Tab}{k n base:Nat}{W:Wy}(ok:dc k n T)(h:kJ T k n base W){p:Nat×Addr×List Int}(hp:p∈W){l d:Int}(hl:Let k l)(e:cT T p.1 l=some d)(hn:d.toNat∉keys W)(a:Addr):
  kJ T k n base (W++[(d.toNat,a,p.2.2++[l])]):=by
 have hd:=uz ok e;have ed:((d.toNat:Nat):Int)=d:=by omega
 have red:cut (p.2.2++[l])=p.2.2++[l]:=by
  refine UR (h.rd p hp) λu hu=>?_;rcases h.pr p hp with z|⟨q,hq,l',e1,e2⟩
  ·rw[z]at hu;simp at hu
  ·rw[e1]at hu;have:=List.append_inj' hu rfl;have el:l'= -l:=by simpa using this.2
   subst el;have b:=UB ok (by have:=hl.1;omega) (h.lt q hq) e2;rw[Int.neg_neg]at b;rw[e]at b;have:d=q.1:=Zg b;exact hn (by rw[this,Za];exact Zh.mpr ⟨q,hq,rfl⟩)
 have mem:∀{x:Nat×Addr×List Int},x∈W++[(d.toNat,a,p.2.2++[l])]->x∈W\/x=(d.toNat,a,p.2.2++[l]):=λhx=>(Y7.mp hx).imp id Y2.mp;refine⟨?_,λx hx=>?_,?_,λx hx=>?_,λx hx=>?_,λx hx=>?_,λx hx=>?_,λj x hj=>?_⟩
 ·unfold keys;rw[Ze];exact o9 h.nd hn
 ·rcases mem hx with z|z
  ·exact h.lt x z
  ·rw[z];show d.toNat<n;omega
 ·obtain⟨a0,z⟩:=h.hd;exact⟨a0,by rw[Zs (ZL.mp z).1];exact z⟩
 ·rcases mem hx with z|z
  ·exact h.wk x z
  ·rw[z];show j7 T _ (p.2.2++[l])=some ((d.toNat:Nat):Int);rw[GY,h.wk p hp,ed];exact e
 ·rcases mem hx with z|z
  ·exact h.ll x z
  ·rw[z];intro m hm;rcases Y7.mp hm with y|y
   ·exact h.ll p hp m y
   ·rw[Y2.mp y];exact hl
 ·rcases mem hx with z|z
  ·exact h.rd x z
  ·rw[z];exact red
 ·rcases mem hx with z|z
  ·rcases h.pr x z with y|⟨q,hq,m,e1,e2⟩
   ·exact .inl y
   ·exact .inr ⟨q,Zc _ hq,m,e1,e2⟩
  ·rw[z];exact .inr ⟨p,Zc _ hp,l,rfl,by rw[e];show some d=some ((d.toNat:Nat):Int);rw[ed]⟩
 ·by_cases sV:j<W.length
  ·rw[Zs sV]at hj;exact h.ln j x hj
  ·rw[Zt (by omega)]at hj
   have z:j-W.length=0:=by
    have:=(ZL.mp hj).1;simp at this;omega
   rw[z]at hj;cases hj;obtain⟨i,hi,ei⟩:=ZD hp;have:=h.ln i p (by simp[<-ei,hi]);rw[Zo];simp only[ZF,List.length_nil];omega
structure DW(H:Hp)(d:Addr)(W:Wy):Prop where
 is:H d=some (.dK (fT W))
 wy:∀p∈W,ax H p.2.1 p.2.2
structure FW(H:Hp)(d:Addr)(W:Wy):Prop where
 is:∃o,H d=some (.df o (.dK (fT W)))
 wy:∀p∈W,ax H p.2.1 p.2.2
structure WS(H0 H:Hp)(d lo:Addr)(W:Wy):Prop where
 dw:DW H d W
 io:ax H lo ((keys W).map λ(c:Nat)=>(c:Int))
 nl:∀p∈W,p.2.1≠lo
 fd:H0 d=none
 fl:H0 lo=none
 sm:aa H0 H
def WS.same{H0 H H':Hp}{d lo:Addr}{W:Wy}(h:WS H0 H d lo W)(s:aa H H'):WS H0 H' d lo W:=⟨⟨s _ _ h.dw.is,λp hp=>s.ints (h.dw.wy p hp)⟩,s.ints h.io,h.nl,h.fd,h.fl,h.sm.trans s⟩
def WS.ne{H0 H:Hp}{d lo:Addr}{W:Wy}(h:WS H0 H d lo W):d≠lo:=λz=>by
 have:=h.io;rw[<-z]at this;have e:=h.dw.is;rw[show H d=_ from this]at e;cases e
def WS.add{H0 H H':Hp}{d lo a:Addr}{W:Wy}{c:Nat}{w:List Int}(h:WS H0 H d lo W)(s:aa H H')(ha:H a=none)(ia:ax H' a w)(hc:c∉keys W):
  WS H0 (upd (upd H' d (.dK (putK (fT W) (.inl (c:Int)) (.ref a)))) lo (.lst (((keys W).map λ(c:Nat)=>(c:Int)).map V.int++[V.int c]))) d lo (W++[(c,a,w)]):=by
 have ne:=h.ne;have al:a≠lo:=λz=>by rw[z,show H lo=_ from h.io]at ha;cases ha
 have ad:a≠d:=λz=>by rw[z,h.dw.is]at ha;cases ha
 have h':=h.same s;refine⟨⟨?_,λp hp=>?_⟩,?_,λp hp=>?_,h.fd,h.fl,(h'.sm.upd h.fd).upd h.fl⟩
 ·rw[aj ne,ak,qI _ (Hr hc)];unfold fT;rw[Ze];rfl
 ·rcases Y7.mp hp with z|z
  ·have n1:=h.nl p z;have i1:=h'.dw.wy p z;have n2:p.2.1≠d:=λy=>by rw[y]at i1;have e:=h'.dw.is;rw[show H' d=_ from i1]at e;cases e
   exact(i1.other n2).other n1
  ·rw[Y2.mp z];exact(ia.other ad).other al
 ·show upd _ lo _ lo=_;rw[ak];unfold keys;rw[Ze,Ze,Ze];rfl
 ·rcases Y7.mp hp with z|z
  ·exact h.nl p z
  ·rw[Y2.mp z];exact al
inductive Jf(C:Addr)(vs:List V)(H:Hp)(Q:VK)(aD:XK):Prop
 |mk (g:Addr) (k n:Nat) (T:Tab) (fp:List Addr) (_:vs=[.ref g]) (_:de C H g k n T fp) (_:∀(l:Addr) (H':Hp),H l=none->ax H' l (lets k)->aa H H'->Q (.ref l) H'):Jf C vs H Q aD
def K7(C:Addr):Sp:=Jf C
inductive Ht(C:Addr)(vs:List V)(H:Hp)(Q:VK)(aD:XK):Prop
 |mk (g:Addr) (k n:Nat) (T:Tab) (fp:List Addr) (b:Nat) (_:vs=[.ref g,.int b]) (_:de C H g k n T fp) (_:b<n) (_:∀(d:Addr) (W:Wy) (H':Hp),H d=none->FW H' d W->kJ T k n b W->era W=AY T k n b->aa H H'->Q (.ref d) H'):Ht C vs H Q aD
def Kh(C:Addr):Sp:=Ht C
end My
namespace L2
open PySem PySem.Spec PyProof.Rows
end L2
namespace My
open PySem L2
def W5{k m:Nat}(h:m<2*k):(lets k)[m]?=some (((m:Int)/2+1)*(1-2*((m:Int)%2))):=by
 unfold lets
 induction k with
 |zero=>omega
 |succ k ih=>
  rw[List.range_succ,List.flatMap_append];have hl:((List.range k).flatMap λ(i:Nat)=>[1+(i:Int), -(1+(i:Int))]).length=2*k:=UM k;by_cases hm:m<2*k
  ·rw[Zs (by rw[hl];exact hm)];exact ih hm
  ·rw[Zt (by rw[hl];omega),hl];have:m=2*k\/m=2*k+1:=by omega
   rcases this with e|e
   ·subst e;have h1:((2*k:Nat):Int)/2=k:=by omega
    have h2:((2*k:Nat):Int)%2=0:=by omega
    rw[h1,h2,Nat.sub_self];simp;omega
   ·subst e;have h1:((2*k+1:Nat):Int)/2=k:=by omega
    have h2:((2*k+1:Nat):Int)%2=1:=by omega
    rw[h1,h2,show 2*k+1-2*k=1 by omega];simp;omega
def Sj(ns:List Int):(ns.map V.int).all gY=true:=by
 rw[ZC];intro x hx;obtain⟨z,_,rfl⟩:=Zh.mp hx
 rfl
def QW{k:Nat}(h:1<=k)(d:Int):Let k (oW k d):=by
 unfold Let oW;have a0:=Zz d (show(2*(k:Int))≠0 by omega);have a1:=Zy d (show(0:Int)<2*k by omega);generalize d%(2*(k:Int))=x at a0 a1;have b:d%2=0\/d%2=1:=by omega
 rcases b with b|b<;>rw[b]<;>omega
def zd{k:Nat}(h:1<=k)(ds:List Int):∀l∈ds.map (oW k),Let k l:=λl hl=>by
 obtain⟨d,_,rfl⟩:=Zh.mp hl;exact QW h d
section
variable {T:Tab}{k n:Nat}
end
inductive Ga(vs:List V)(H:Hp)(Q:VK)(aD:XK):Prop
 |mk (t:Addr) (as:List Addr) (T:Tab) (k n c:Nat) (da:Addr) (ds:List Int) (_:vs=[.ref t,.int k,.int c,.ref da]) (_:Tb H t as T) (_:dc k n T) (_:1<=k) (_:k<=5) (_:n<=1000) (_:c<n) (_:ax H da ds) (_:ds.length<=1000) (_:∀(q lw:Addr) (ws:List Int) (d:Nat) (H':Hp),H q=none->H lw=none->H' q=some (.tup [.ref lw,.int d])->ax H' lw ws->(∀l∈ws,Let k l)->j7 T (some (c:Int)) ws=some (d:Int)->d<n->ws.length<=ds.length->aa H H'->Q (.ref q) H'):Ga vs H Q aD
def Jg:Sp:=Ga
end My
namespace L2
open PySem PySem.Spec PyProof.Rows PySem.W
section
variable {X:Cx}
inductive Ki(xs:List V)(H:Hp)(Q:VK):Prop
 |mk (d:Addr) (o:Obj) (kvs:List (Key×V)) (_:xs=[.ref d]) (_:H d=some (.df o (.dK kvs))) (_:∀l:Addr,H l=none->Q (.ref l) (upd H l (.lst (kvs.map λp=>kV p.1)))):Ki xs H Q
def QX(hc:X.calm=true):gF X (.type "list") (λxs H Q=>Wr (Ki xs H Q)):=by
 intro pins s σ H xs us Q I r h;obtain⟨d,o,kvs,rfl,hd,q⟩:=h.get;obtain⟨u,rfl,ru⟩:=r.one;cases ru;obtain⟨ho0,z,ns0,vs0,kv0,dd0⟩:=(show bY X.prog X.w H s.heap d (.df o (.dK kvs))from I.ao d _ hd);obtain⟨ns,ho,vs,kv,dq,o',nY,rY,jW,r1,r2,r3⟩:=UK I.ao hd;rw[ho]at jW;cases jW;refine kdl_call (kdl_dict (knd:=cU X.prog X.w) (kvs:=vs) (ep:=rY) ns) (I.ok.hd hc) ⟨o,nY,ho,r1,r2,r3⟩ (by rw[dq];exact z) λh' tk acc c hk hS kG=>?_;refine⟨.ref s.heap.objs.size,_,I.laid (t':=tk) (o:=.lst (kvs.map λp=>kV p.1)) hk (Y3 _) ?_,rfl,q _ (I.ao.fresh (Y3 _))⟩;refine⟨by rw[Y1];exact z,acc.toList,c,?_,by simpa using hS⟩
 have gen:∀(ks:List (Key×V)) (ws:List Value),ks.length=ws.length->(∀(i:Nat) p v,ks[i]?=some p->ws[i]?=some v->RelV (kV p.1) v)->Vals (ks.map λp=>kV p.1) ws:=by
  intro ks
  induction ks with
  |nil=>intro ws e _;cases ws with|nil=>exact .nil|cons _ _=>simp at e
  |cons p ks ih=>
   intro ws e hr;cases ws with
   |nil=>simp at e
   |cons v ws=>exact .cons (hr 0 p v rfl rfl) (ih ws (by simpa using e) λi p' v' h1 h2=>hr (i+1) p' v' (by simpa using h1) (by simpa using h2))
 refine gen kvs acc.toList (by have h1:=kG.1;simp only[Array.length_toList];omega) λi p v h1 h2=>?_;rw[Array.getElem?_toList]at h2;obtain⟨k,x,e1,e2⟩:=kG.2 i v h2;obtain⟨q',e3,e4⟩:=kv.get h1;rw[e1]at e3;cases e3;rw[e4];exact W0 e2
def m1{o e:Expr}{m:Str}{apos cc:Pos}(h1:attributeBase o m X.env (eval o X.env)=eval o X.env:=by rfl)
  (h2:((backTo cc (starEach [e] X.env)).all (λx=> !x.1)&&(backToKw cc (keywordEach [] X.env)).all (λx=>x.1.isSome)
  &&decide (([e]:List Expr).length+([]:List Keyword).length+(if([]:List Keyword).isEmpty then 0 else 1)<30))=true:=by rfl)
  (h3:(apos.endLine==cc.line)=true:=by rfl)(h4:backTo cc (starEach [e] X.env)=[(false,eval e X.env)]:=by rfl):M1 X o m apos e cc:=⟨h1,h2,h3,h4⟩
end
def Qi{K:PySem.W.Frag}{a:Addr}{xs:List V}{n:Nat}{gT:TG}{tk tv:TE}{H:Hp}{Q:VK}(Pv:Nat->List (Key×V)->Prop)(h0:Pv 0 [])(Mn:∀H',(∀b o,H b=some o->H' b=some o)->ah K H' a xs)
  (hs:∀i x H1 D kvs t,xs[i]?=some x->H1 t=none->(∀b o,H b=some o->H1 b=some o)->H D=none->H1 D=some (.dK kvs)->Pv i kvs->∀nb:St,nb.length=n->∀F:V->V->Hp->Prop,(∀y yv H5 uX H6,gH H5 D y yv H6->(∀b o,H b=some o->H6 b=some o)->H6 D=some (.dK uX)->Pv (i+1) uX->F y yv H5)->
   gT (.ref t) nb (upd H1 t (.tup [.int i,x])) λσ2 H3=>tk σ2 H3 λy H4=>tv σ2 H4 λyv H5=>F y yv H5)
  (hd:∀D H' kvs,H D=none->H' D=some (.dK kvs)->Pv xs.length kvs->(∀b o,H b=some o->H' b=some o)->Q (.ref D) H'):Wr (Jb (pU K a) n gT tk tv H Q):=by
 refine⟨λD hD=>⟨.dK [],λi m H1=>m=xs.length-i/\i<=xs.length/\(∀b o,H b=some o->H1 b=some o)/\∃kvs,H1 D=some (.dK kvs)/\Pv i kvs,.inl rfl,⟨xs.length,by simp,Zp _,λb o e=>?_,[],ak,h0⟩,?_⟩⟩
 ·rw[aj (λz=>by rw[z,hD]at e;cases e)];exact e
 ·rintro i m H1 ⟨rfl,hi,sm,kvs,eD,pv⟩;have q:=Mn H1 sm;by_cases aQ:i<xs.length
  ·refine .inr ⟨⟨xs,xs[i],q,by simp[aQ]⟩,λx H' y nb BH=>?_⟩;obtain⟨t,y,ht,rfl,rfl,hy⟩:=y;exact hs i y H1 D kvs t (hy xs q) ht sm hD eD pv nb BH (λy yv H5=>∃H6,gH H5 D y yv H6/\∃m',m'<xs.length-i/\m'=xs.length-(i+1)/\i+1<=xs.length/\(∀b o,H b=some o->H6 b=some o)/\∃kvs,H6 D=some (.dK kvs)/\Pv (i+1) kvs) λy yv H5 uX H6 p6 s6 e6 pv6=>⟨H6,p6,xs.length-(i+1),by omega,rfl,aQ,s6,uX,e6,pv6⟩
  ·have e:i=xs.length:=by omega
   subst e;exact .inl ⟨⟨xs,q,Y3 _⟩,hd D H1 kvs hD eD pv sm⟩
end L2
namespace My
open PySem L2
def rn(ord:List Nat)(o:Option Int):Option Int:=o.bind λe=>if e.toNat∈ord then some ((ord.idxOf e.toNat:Nat):Int)else none
def eV(T:Tab)(ord:List Nat):Tab:=ord.map λc=>(T.getD c []).map (rn ord)
def yd{T:Tab}{ord:List Nat}(i j:Nat)(hi:i<ord.length):cell (eV T ord) i j=rn ord (cell T ord[i] j):=by
 have e:(eV T ord).getD i []=(T.getD ord[i] []).map (rn ord):=by
  simp[eV,List.getD,hi]
 unfold cell;rw[e];generalize T.getD ord[i] []=r;simp only[List.getD,Zf];cases r[j]? <;>rfl
def yz{T:Tab}{ord:List Nat}(i j:Nat)(hi:¬i<ord.length):cell (eV T ord) i j=none:=by
 have e:(eV T ord).getD i []=[]:=by
  simp[eV,List.getD,ZI (Nat.le_of_not_lt hi)]
 unfold cell;rw[e];rfl
def ze{ord:List Nat}{o:Option Int}{e:Int}(h:rn ord o=some e):∃a,o=some a/\a.toNat∈ord/\e=((ord.idxOf a.toNat:Nat):Int):=by
 unfold rn at h;cases o with
 |none=>cases h
 |some a=>
  have h:(if a.toNat∈ord then some ((ord.idxOf a.toNat:Nat):Int)else none)=some e:=h;split at h
  ·rename_i m;exact⟨a,rfl,m,(Zg h).symm⟩
  ·cases h
def W7{k n:Nat}{T:Tab}(ok:dc k n T){ord:List Nat}(nd:ord.Nodup)(lt:∀c∈ord,c<n):dc k ord.length (eV T ord) where
 len:=by simp[eV]
 row:=λr hr=>by
  obtain⟨c,hc,rfl⟩:=Zh.mp hr;rw[Y1];have:c<T.length:=by rw[ok.len];exact lt c hc
  rw[List.getD,Zd this];exact ok.row _ (ZA this)
 bP:=λc j e he=>by
  by_cases hc:c<ord.length
  ·rw[yd c j hc]at he;obtain⟨a,_,m,rfl⟩:=ze he;have:=List.idxOf_lt_length_iff.mpr m;exact⟨by omega,by omega⟩
  ·rw[yz c j hc]at he;cases he
 inj:=λc d j e h1 h2=>by
  by_cases hc:c<ord.length
  ·by_cases hd:d<ord.length
   ·rw[yd c j hc]at h1;rw[yd d j hd]at h2;obtain⟨a,ea,ma,e1⟩:=ze h1;obtain⟨b,eb,mb,e2⟩:=ze h2;have ei:ord.idxOf a.toNat=ord.idxOf b.toNat:=by omega
    have ga:=List.getElem_idxOf (List.idxOf_lt_length_iff.mpr ma);have gb:=List.getElem_idxOf (List.idxOf_lt_length_iff.mpr mb)
    have et:a.toNat=b.toNat:=by
     rw[<-ga, <-gb];simp only[ei]
    have ra:=ok.bP _ _ _ ea;have rb:=ok.bP _ _ _ eb;have eab:a=b:=by omega
    subst eab;exact(List.getElem_inj nd).mp (ok.inj _ _ _ _ ea eb)
   ·rw[yz d j hd]at h2;cases h2
  ·rw[yz c j hc]at h1;cases h1
def fZ(ord:List Nat):List (Key×V):=ord.zipIdx.map λp=>(Sum.inl (p.1:Int),V.int (p.2:Int))
def QY(ord:List Nat)(c:Nat):fZ (ord++[c])=fZ ord++[(Sum.inl (c:Int),V.int (ord.length:Int))]:=by
 unfold fZ;rw[List.zipIdx_append];simp
def Sk(ord:List Nat):(fZ ord).length=ord.length:=by simp[fZ]
def Gb:∀(ord:List Nat) (c:Nat),a8 (fZ ord) (.inl (c:Int))=if c∈ord then some (V.int ((ord.idxOf c:Nat):Int))else none:=by
 intro ord
 have gen:∀(l:List Nat) (m:Nat) (c:Nat),a8 (l.zipIdx m|>.map λp=>((Sum.inl (p.1:Int):Key),V.int (p.2:Int))) (.inl (c:Int))=if c∈l then some (V.int ((m+l.idxOf c:Nat):Int))else none:=by
  intro l
  induction l with
  |nil=>intro m c;rfl
  |cons x r ih=>
   intro m c;rw[List.zipIdx_cons,Zr];by_cases e:x=c
   ·subst e;simp[a8]
   ·have ne:¬((Sum.inl (x:Int):Key)=Sum.inl (c:Int)):=λz=>e (by have:=Sum.inl.inj z;omega);have:=ih (m+1) c;unfold a8 at this⊢;rw[List.find?_cons_of_neg (by simpa using ne),this];by_cases mc:c∈r
    ·rw[if_pos mc,if_pos (Y4 _ mc),List.idxOf_cons];have:(x==c)=false:=by simpa using e
     rw[this];simp only[cond_false];congr 3;omega
    ·rw[if_neg mc,if_neg (λz=>(Y5.mp z).elim (λq=>e q.symm) mc)]
 intro c;have:=gen ord 0 c;rw[Nat.zero_add]at this;exact this
def Sl(ord:List Nat):a8 (fZ ord) (.inr none)=none:=by
 unfold a8 fZ;rw[Option.map_eq_none_iff,List.find?_eq_none];intro x hx;obtain⟨p,_,rfl⟩:=Zh.mp hx;simp
def Qj{ord:List Nat}{c:Nat}(h:c∉ord):putK (fZ ord) (.inl (c:Int)) (V.int (ord.length:Int))=fZ (ord++[c]):=by
 rw[QY];exact qI _ (by rw[Gb,if_neg h])
inductive Jh(C:Addr)(vs:List V)(H:Hp)(Q:VK)(aD:XK):Prop
 |mk (g la:Addr) (k n:Nat) (T:Tab) (fp:List Addr) (ord:List Nat) (_:vs=[.ref g,.ref la]) (_:de C H g k n T fp) (_:ax H la (ord.map λ(c:Nat)=>(c:Int))) (_:ord.Nodup) (_:(∀c∈ord,c<n)) (_:ord≠[]) (_:∀(x:Addr) (fq:List Addr) (H':Hp),H x=none->(∀a∈fq,H a=none)->de C H' x k ord.length (eV T ord) fq->aa H H'->Q (.ref x) H'):Jh C vs H Q aD
def K8(C:Addr):Sp:=Jh C
inductive Hu(C cN:Addr)(vs:List V)(H:Hp)(Q:VK)(E:XK):Prop
 |mk (g:Addr) (k n:Nat) (T:Tab) (fp:List Addr) (b:Int) (_:vs=[.ref g,.int b]) (_:de C H g k n T fp) (_:(0<=b/\b<n->∀(x:Addr) (fq:List Addr) (H':Hp),H x=none->(∀a∈fq,H a=none)->de C H' x k (met T k n b.toNat).length (eV T (met T k n b.toNat)) fq->aa H H'->Q (.ref x) H')) (_:(¬(0<=b/\b<n)->E (.ref cN) none H)):Hu C cN vs H Q E
def Kj(C cN:Addr):Sp:=Hu C cN
def mx(l:List Int):Int:=l.foldl max 0
def foldl_max(l:List Int):∀a:Int,a<=l.foldl max a/\(∀i∈l,i<=l.foldl max a)/\(l.foldl max a=a\/l.foldl max a∈l):=by
 induction l with
 |nil=>exact λa=>⟨Int.le_refl _,(λ_ z=>nomatch z),.inl rfl⟩
 |cons x l ih=>
  intro a;obtain⟨h1,h2,h3⟩:=ih (max a x);refine⟨by show a<=l.foldl max (max a x);omega,λi hi=>?_,?_⟩
  ·show i<=l.foldl max (max a x);rcases Y5.mp hi with z|z
   ·omega
   ·exact h2 i z
  ·show l.foldl max (max a x)=a\/l.foldl max (max a x)∈x::l;rcases h3 with z|z
   ·rw[z];rcases Int.le_total a x with w|w
    ·rw[show max a x=x by omega];exact .inr (Y9 ..)
    ·exact .inl (by omega)
   ·exact .inr (Y4 _ z)
def K9{l:List Int}{i:Int}(h:i∈l):i<=mx l:=(foldl_max l 0).2.1 i h
def Lb(l:List Int):0<=mx l:=(foldl_max l 0).1
def Am{l:List Int}:mx l=0\/mx l∈l:=(foldl_max l 0).2.2
def An{l:List Int}{m:Int}(h0:0<=m)(hm:m=0\/m∈l)(hl:∀i∈l,i<=m):m=mx l:=by
 have:=Lb l;rcases hm with z|z
 ·rcases Am (l:=l)with w|w
  ·omega
  ·have:=hl _ w;omega
 ·have:=K9 z;rcases Am (l:=l)with w|w
  ·omega
  ·have:=hl _ w;omega
def nC(l:List Int):Nat:=(mx l).toNat+1
def zO(l:List Int):((nC l:Nat):Int)=mx l+1:=by
 have:=Lb l;unfold nC;omega
def Ji(l k:List Int):∀x∈l.foldl (λk x=>if x∈k then k else k++[x]) k,x∈k\/x∈l:=by
 induction l generalizing k with
 |nil=>exact λx h=>.inl h
 |cons y l ih=>
  intro x hx;rcases ih _ x hx with z|z
  ·dsimp only at z;split at z
   ·exact .inl z
   ·rcases Y7.mp z with w|w
    ·exact .inl w
    ·rw[Y2.mp w];exact .inr (Y9 ..)
  ·exact .inr (Y4 _ z)
def zP{l:List Int}{x:Int}(h:x∈rk l):0<=x/\x<(bU l).length:=by
 obtain⟨y,hy,rfl⟩:=Zh.mp h;have:=ZZ (ph l [] y hy);have:(bU l).idxOf y<(bU l).length:=this;omega
def aa3{l:List Int}{x:Int}(h:x∈rk l):0<=x/\x<nC (rk l):=by
 have h1:=K9 h;rw[zO];exact⟨(zP h).1,by omega⟩
def Ao(l:List Int):nC (rk l)<=l.length+1:=by
 have h2:=zc l;unfold nC;rcases Am (l:=rk l)with z|z
 ·rw[z];omega
 ·have:=zP z;omega
def YH{l:List Int}(h:l≠[]):nC (rk l)=(bU l).length:=by
 have k1:∀x∈bU l,x∈l:=λx hx=>(Ji l [] x hx).elim (λz=>nomatch z) id
 obtain⟨y,hy⟩:∃y,y∈l:=by
  cases l with
  |nil=>exact absurd rfl h
  |cons y l=>exact⟨y,Y9 ..⟩
 have pos:1<=(bU l).length:=List.length_pos_of_mem (ph l [] y hy)
 have last:((bU l).length:Int)-1=mx (rk l):=by
  refine An (by omega) (.inr ?_) λi hi=>by have:=zP hi;omega
  have hl:(bU l).length-1<(bU l).length:=by omega
  refine Zh.mpr ⟨(bU l)[(bU l).length-1],k1 _ (ZA hl),?_⟩;rw[(J8 l).idxOf_getElem _ hl];omega
 unfold nC;omega
def kK(ch:List Int)(T:Tab)(r:List Int):Tab:=T.set (ch.getD (My.mk r 1) 0).toNat ((T.getD (ch.getD (My.mk r 1) 0).toNat []).set (r.getD 2 0-1).toNat (some (ch.getD (My.mk r (-1)) 0)))
def cj(k n:Nat)(ch:List Int)(rs:List (List Int)):Tab:=rs.foldl (kK ch) (List.replicate n (List.replicate k none))
structure fK(k n m:Nat)(ch:List Int)(rs:List (List Int)):Prop where
 len:ch.length=m
 bP:∀x∈ch,0<=x/\x<n
 row:∀r∈rs,b8 m r/\1<=r.getD 2 0/\r.getD 2 0<=k
 cl:closed rs ch
def fK.at{k n m:Nat}{ch:List Int}{rs:List (List Int)}(h:fK k n m ch rs){r:List Int}(hr:r∈rs)(s:Int):0<=ch.getD (My.mk r s) 0/\ch.getD (My.mk r s) 0<n:=h.bP _ (getD_mem (by rw[h.len];exact((h.row r hr).1.mk s).2))
def fK.part{k n m:Nat}{ch:List Int}{rs sW:List (List Int)}(h:fK k n m ch rs)(s:∀r∈sW,r∈rs):fK k n m ch sW:=⟨h.len,h.bP,λr hr=>h.row r (s r hr),λp hp q hq=>h.cl p (s p hp) q (s q hq)⟩
structure j8(k n:Nat)(ch:List Int)(rs:List (List Int))(T:Tab):Prop where
 len:T.length=n
 row:∀r∈T,r.length=k
 qg:∀c j e,cell T c j=some e↔∃r∈rs,ch.getD (My.mk r 1) 0=(c:Nat)/\r.getD 2 0=(j:Nat)+1/\e=ch.getD (My.mk r (-1)) 0
def j8.nil(k n:Nat)(ch:List Int):j8 k n ch [] (List.replicate n (List.replicate k none)):=by
 refine⟨by simp,λr hr=>by rw[(List.mem_replicate.mp hr).2];simp,λc j e=>⟨λh=>?_,λ⟨_,z,_⟩=>nomatch z⟩⟩
 have:cell (List.replicate n (List.replicate k none)) c j=none:=by
  unfold cell;simp only[List.getD,ZS];by_cases z:c<n
  ·rw[if_pos z];show(List.replicate k none)[j]?.getD none=none;rw[ZS];split<;>rfl
  ·rw[if_neg z];rfl
 rw[this]at h;cases h
def j8.put{k n m:Nat}{ch:List Int}{rs:List (List Int)}{r:List Int}{T:Tab}(h:j8 k n ch rs T)(ok:fK k n m ch (rs++[r])):j8 k n ch (rs++[r]) (kK ch T r):=by
 have mr:r∈rs++[r]:=Zb _ (Y2.mpr rfl);obtain⟨a0,a1⟩:=ok.at mr 1;obtain⟨_,k1,k2⟩:=ok.row r mr;have hc:(ch.getD (My.mk r 1) 0).toNat<T.length:=by rw[h.len];omega
 have rl:(T.getD (ch.getD (My.mk r 1) 0).toNat []).length=k:=h.row _ (by rw[List.getD,Zd hc];exact ZA hc);refine⟨by unfold kK;rw[List.length_set];exact h.len,λx hx=>?_,λc j e=>?_⟩
 ·rcases List.mem_or_eq_of_mem_set hx with z|z
  ·exact h.row x z
  ·rw[z,List.length_set];exact rl
 ·have ce:cell (kK ch T r) c j=if c=(ch.getD (My.mk r 1) 0).toNat/\j=(r.getD 2 0-1).toNat then some (ch.getD (My.mk r (-1)) 0)else cell T c j:=by
   unfold kK;rw[Uy hc];by_cases z:c=(ch.getD (My.mk r 1) 0).toNat
   ·rw[if_pos z];by_cases y:j=(r.getD 2 0-1).toNat
    ·rw[if_pos ⟨z,y⟩,y,List.getD,List.getElem?_set_self (by rw[rl];omega)];rfl
    ·rw[if_neg (λw=>y w.2),List.getD,List.getElem?_set_ne (Ne.symm y),z];rfl
   ·rw[if_neg z,if_neg (λw=>z w.1)]
  rw[ce];by_cases z:c=(ch.getD (My.mk r 1) 0).toNat/\j=(r.getD 2 0-1).toNat
  ·rw[if_pos z];constructor
   ·intro w;exact⟨r,mr,by omega,by omega,(Zg w).symm⟩
   ·rintro⟨q,hq,q1,q2,rfl⟩;have:=ok.cl r mr q hq (by omega) 1 (.inl rfl) (by omega);rw[this]
  ·rw[if_neg z,h.qg];constructor
   ·rintro⟨q,hq,q1,q2,q3⟩;exact⟨q,Zc _ hq,q1,q2,q3⟩
   ·rintro⟨q,hq,q1,q2,q3⟩;rcases Y7.mp hq with w|w
    ·exact⟨q,w,q1,q2,q3⟩
    ·obtain rfl:=Y2.mp w;exact absurd ⟨by omega,by omega⟩ z
def xR{α β:Type}(f:β->α->β)(b:β)(l:List α)(a:α):(l++[a]).foldl f b=f (l.foldl f b) a:=by rw[List.foldl_append];rfl
def uc{k n m:Nat}{ch:List Int}{rs:List (List Int)}(ok:fK k n m ch rs):∀i,i<=rs.length->j8 k n ch (rs.take i) (cj k n ch (rs.take i)):=by
 intro i
 induction i with
 |zero=>intro _;rw[List.take_zero];exact j8.nil k n ch
 |succ i ih=>
  intro hi;have h:=ih (by omega);have e:rs.take (i+1)=rs.take i++[rs[i]]:=Zj (by omega);rw[e];unfold cj;rw[xR];exact h.put (ok.part λr hr=>List.mem_of_mem_take (e▸hr))
def zQ{k n m:Nat}{ch:List Int}{rs:List (List Int)}(ok:fK k n m ch rs):j8 k n ch rs (cj k n ch rs):=by
 have:=uc ok rs.length (Y3 _)
 rwa [List.take_length]at this
def Kk{k n m:Nat}{ch:List Int}{rs:List (List Int)}(ok:fK k n m ch rs):dc k n (cj k n ch rs):=by
 have h:=zQ ok;refine⟨h.len,h.row,λc j e he=>?_,λc d j e h1 h2=>?_⟩
 ·obtain⟨r,hr,_,_,rfl⟩:=(h.qg c j e).mp he;exact ok.at hr (-1)
 ·obtain⟨r,hr,r1,r2,r3⟩:=(h.qg c j e).mp h1;obtain⟨q,hq,q1,q2,q3⟩:=(h.qg d j e).mp h2;have:ch.getD (My.mk r 1) 0=ch.getD (My.mk q 1) 0:=ok.cl r hr q hq (by omega) (-1) (.inr rfl) (by omega);omega
def Sm{m:Nat}{l:List Int}{rs:List (List Int)}(ll:l.length=m)(hr:∀r∈rs,b8 m r)(h:closed rs l):closed rs (rk l):=λp hp q hq k s hs e=>by
 have a:=λs=>((hr p hp).mk s).2;have b:=λs=>((hr q hq).mk s).2;rw[<-ll]at a b;exact(K5 (a _) (b _)).mpr (h p hp q hq k s hs ((K5 (a s) (b s)).mp e))
def zf{k m:Nat}{l:List Int}{rs:List (List Int)}(ll:l.length=m)(hr:∀r∈rs,b8 m r/\1<=r.getD 2 0/\r.getD 2 0<=k)(h:closed rs l):fK k (nC (rk l)) m (rk l) rs:=
 ⟨by rw[nH];exact ll,λx hx=>aa3 hx,hr,Sm ll (λr h=>(hr r h).1) h⟩
def EU{k n:Nat}{es:List En}(h:∀e∈es,b3 k n e):∀r∈rowsOf es,b8 n r/\1<=r.getD 2 0/\r.getD 2 0<=k:=λr hr=>by
 obtain⟨i,a,kd,b,he,rfl⟩:=qF.mp hr;obtain⟨⟨a0,a1⟩,⟨k0,k1⟩,⟨b0,b1⟩⟩:=h _ he;refine⟨⟨i,a.toNat,kd,b.toNat,?_,by omega,by omega⟩,?_,?_⟩
 ·rw[Zw a0,Zw b0]
 ·exact k0
 ·exact k1
noncomputable def Bk.eY(B:Bk):Nat:=nC (rk B.aG)
noncomputable def Bk.tab(B:Bk):Tab:=cj B.k B.eY (rk B.aG) (rowsOf B.es)
def Bk.AZ{C g lh:Addr}{H:Hp}{B:Bk}{rest:List Addr}(h:aL C H g lh B rest):fK B.k B.eY B.n (rk B.aG) (rowsOf B.es):=by
 have f:=rL (n:=B.n) λr hr=>(jI h.k5 h.ok r hr).1;exact zf f.1.aG.len (EU h.ok) f.2
def Sn{lo:Int}{k:Nat}{ix:List Nat}{σ:St}{H:Hp}{Q:VK}(hk:k<=1000)(h:∀(p:Addr) (H':Hp),H p=none->Row H' p (List.replicate k none)->aa H H'->Q (.ref p) H'):Wr (jo (fN lo k) ix (tC V.aE) σ H Q):=by
 refine⟨xP λD hD=>⟨λi ys H2=>ys=(List.replicate i (none:Option Int)).map oV/\H2 D=some (.lst ys)/\aa H H2/\i<=k,⟨rfl,ak,(aa.refl H).upd hD,Zp _⟩,?_,?_,?_⟩⟩
 ·rintro i ys H2 ⟨rfl,h1,s,hi⟩;exact⟨h1,bD (by simp;omega)⟩
 ·rintro i ys H2 hi ⟨rfl,h1,s,_⟩ Q' q';refine q' _ _ h1 ⟨?_,ak,s.upd hD,hi⟩;rw[List.replicate_succ',Ze];rfl
 ·rintro ys H2 ⟨rfl,h1,s,_⟩;exact h D H2 hD h1 s
inductive Eu(C:Addr)(vs:List V)(H:Hp)(Q:VK)(aD:XK):Prop
 |mk (k m:Nat) (lc lr:Addr) (ch:List Int) (ps:Ps) (_:vs=[.int k,.ref lc,.ref lr]) (_:ax H lc ch) (_:Tl H lr ps) (_:1<=k) (_:k<=5) (_:fK k (nC ch) m ch (ps.map (·.2))) (_:nC ch<=700) (_:m<=1000) (_:∀(g:Addr) (fq:List Addr) (H':Hp),H g=none->(∀a∈fq,H a=none)->de C H' g k (nC ch) (cj k (nC ch) ch (ps.map (·.2))) fq->aa H H'->Q (.ref g) H'):Eu C vs H Q aD
def Ge(C:Addr):Sp:=Eu C
inductive EV(C Cc cM:Addr)(vs:List V)(H:Hp)(Q:VK)(E:XK):Prop
 |mk (g lh:Addr) (B:Bk) (rest:List Addr) (a:Int) (_:vs=[.ref g,.int a]) (_:aL C H g lh B rest) (_:(aB B.n a->∀(x:Addr) (fq:List Addr) (H':Hp),H x=none->(∀b∈fq,H b=none)->de Cc H' x B.k (met B.tab B.k B.eY ((rk B.aG).getD a.toNat 0).toNat).length (eV B.tab (met B.tab B.k B.eY ((rk B.aG).getD a.toNat 0).toNat)) fq->aa H H'->Q (.ref x) H')) (_:(¬aB B.n a->∀H',aa H H'->E (.ref cM) none H')):EV C Cc cM vs H Q E
def HI(C Cc cM:Addr):Sp:=EV C Cc cM
inductive EW(vs:List V)(H:Hp)(Q:VK)(aD:XK):Prop
 |mk (k m:Nat) (lr:Addr) (ps:Ps) (_:vs=[.int k,.int m,.ref lr]) (_:Tl H lr ps) (_:(∀p∈ps,b8 m p.2/\1<=p.2.getD 2 0/\p.2.getD 2 0<=k)) (_:k<=5) (_:1<=m) (_:m<=600) (_:ps.length<=1000) (_:∀(p lp t:Addr) (as:List Addr) (l:List Int) (H':Hp),H' p=some (.tup [.ref lp,.ref t])->ax H' lp (rk l)->Tb H' t as (cj k (nC (rk l)) (rk l) (ps.map (·.2)))->FL m (ps.map (·.2)) [] l->aa H H'->Q (.ref p) H'):EW vs H Q aD
def HJ:Sp:=EW
structure LS(mg:Str->Option Value):Prop where
 ab5:∃t,mg "MUST"=some (.str "must" t)
 never:∃t,mg "NEVER"=some (.str "never" t)
 opn:∃t,mg "OPEN"=some (.str "open" t)
inductive EY(C cM cK:Addr)(vs:List V)(H:Hp)(Q:VK)(E:XK):Prop
 |mk (g lh:Addr) (B:Bk) (rest:List Addr) (a b:Int) (wa:Addr) (ws:List Int) (_:vs=[.ref g,.int a,.ref wa,.int b]) (_:aL C H g lh B rest) (_:ax H wa ws) (_:ws.length<=600) (_:(aB B.n a/\aB B.n b->(∀l∈ws,Let B.k l)->pK B.es a ws b->∀(t:Addr) (H':Hp),aa H H'->Q (.ref t) H')) (_:(aB B.n a/\aB B.n b->(∀l∈ws,Let B.k l)->¬pK B.es a ws b->∀H',aa H H'->Q .aE H')) (_:(¬(aB B.n a/\aB B.n b)->∀H',aa H H'->E (.ref cM) none H')) (_:(aB B.n a/\aB B.n b->¬(∀l∈ws,Let B.k l)->∀H',aa H H'->E (.ref cK) none H')):EY C cM cK vs H Q E
def HK(C cM cK:Addr):Sp:=EY C cM cK
inductive Gf(C cM cK:Addr)(vs:List V)(H:Hp)(Q:VK)(E:XK):Prop
 |mk (g lh:Addr) (B:Bk) (rest:List Addr) (a b:Int) (wa:Addr) (ws:List Int) (_:vs=[.ref g,.int a,.ref wa,.int b]) (_:aL C H g lh B rest) (_:ax H wa ws) (_:ws.length<=600) (_:(aB B.n a/\aB B.n b->(∀l∈ws,Let B.k l)->∀H',aa H H'->Q (.str (wordOf B.es a ws b)) H')) (_:(¬(aB B.n a/\aB B.n b)->∀H',aa H H'->E (.ref cM) none H')) (_:(aB B.n a/\aB B.n b->¬(∀l∈ws,Let B.k l)->∀H',aa H H'->E (.ref cK) none H')):Gf C cM cK vs H Q E
def Jj(C cM cK:Addr):Sp:=Gf C cM cK
def zg{k:Nat}{ws:List Int}(h:∀l∈ws,Let k l):∀l∈ws,l≠0:=λl hl=>(h l hl).1
def Bk.mP{C g lh:Addr}{H:Hp}{B:Bk}{rest:List Addr}(h:aL C H g lh B rest):∀r∈rowsOf B.es,b8 B.n r:=λr hr=>(jI h.k5 h.ok r hr).1
def W8{C g lh:Addr}{H:Hp}{B:Bk}{rest:List Addr}{a:Int}{ws:List Int}(h:aL C H g lh B rest)(ha:aB B.n a)(hl:∀l∈ws,Let B.k l):FL (B.n+ws.length) (rowsOf B.es++c9 B.n a ws) [] (B.jv a ws):=rL λr hr=>by
 rcases Y7.mp hr with z|z
 ·exact row_more (Bk.mP h r z) (Nat.le_add_right _ _)
 ·exact(yb ha h.k5 hl r z).1
def Gg{C g lh:Addr}{H:Hp}{B:Bk}{rest:List Addr}{a b:Int}{ws:List Int}(h:aL C H g lh B rest)(ha:aB B.n a)(hb:aB B.n b)(hl:∀l∈ws,Let B.k l):(B.jv a ws).getD (bE B.n a ws.length).toNat 0=(B.jv a ws).getD b.toNat 0↔nK (rowsOf B.es) a ws b:=
 UJ (Bk.mP h) ha hb (zg hl) (W8 h ha hl)
def W9{l:List Int}{d:Nat}(hl:l≠[])(h:d<nC (rk l)):(d:Int)∈rk l:=by
 rw[YH hl]at h;have m:(bU l)[d]∈l:=(Ji l [] _ (ZA h)).elim (λz=>nomatch z) id;exact Zh.mpr ⟨_,m,by rw[(J8 l).idxOf_getElem _ h]⟩
def Jk{H:Hp}{a:Addr}{ns:List Int}{k:Int}{Q:VK}(ha:ax H a ns)(h0:0<=k)(h1:k<=1000)(hl:ns.length*k.toNat<=10000)(h:∀(p:Addr) (H':Hp),H p=none->ax H' p (List.replicate k.toNat ns).flatten->aa H H'->Q (.ref p) H'):Wr (uO (.ref a) (.int k) H Q):=by
 refine⟨⟨a,k,ns.map V.int,rfl,rfl,ha,by omega,by omega,?_,λp hp=>?_⟩⟩
 ·rw[Y1];exact Z1 (bD (by omega))
 ·have e:(List.replicate k.toNat (ns.map V.int)).flatten=((List.replicate k.toNat ns).flatten).map V.int:=by
   rw[List.map_flatten,List.map_replicate]
  rw[e];exact h p _ hp ak ((aa.refl H).upd hp)
def Jl{n:Nat}{ns:List Int}{x:Int}(h:x∈(List.replicate n ns).flatten):x∈ns:=by
 obtain⟨l,h1,h2⟩:=List.mem_flatten.mp h
 rwa [(List.mem_replicate.mp h1).2]at h2
def US{k:Nat}{ws:List Int}(h:∀l∈ws,Let k l):∀l∈turn ws,Let k l:=λl hl=>by
 unfold turn at hl;simp only[Zh,List.mem_reverse]at hl;obtain⟨y,hy,rfl⟩:=hl;obtain⟨h1,h2,h3⟩:=h y hy;exact⟨by omega,by omega,by omega⟩
def Xa{k:Nat}{l:Int}(h:Let k l):Let k (-l):=⟨by have:=h.1;omega,by have:=h.2.2;omega,by have:=h.2.1;omega⟩
def UT(ws:List Int):(turn ws).length=ws.length:=by simp[turn]
inductive Ew(vs:List V)(H:Hp)(Q:VK)(aD:XK):Prop
 |mk (k n:Nat) (lr ld:Addr) (ps:Ps) (ds:List Int) (_:vs=[.int k,.int n,.ref lr,.ref ld]) (_:Tl H lr ps) (_:(∀p∈ps,b8 n p.2/\1<=p.2.getD 2 0/\p.2.getD 2 0<=k)) (_:ax H ld ds) (_:ds.length=40) (_:1<=k) (_:k<=5) (_:1<=n) (_:n<=600) (_:ps.length<=1000) (_:∀(t wa:Addr) (a b:Int) (ws:List Int) (H':Hp),H' t=some (.tup [.int a,.ref wa,.int b])->ax H' wa ws->aB n a->aB n b->(∀l∈ws,Let k l)->ws.length<=400->H wa=none->aa H H'->Q (.ref t) H'):Ew vs H Q aD
def Gh:Sp:=Ew
def Xb{k n:Nat}{es:List En}(ok:∀e∈es,b3 k n e)(k5:k<=5)(h:pE n es):∃(M:Mo) (f:Nat->Int),M.Fits f (rowsOf es)/\∀i x y,En.ap i x y∈es->f x.toNat≠f y.toNat:=by
 have hF:FL n (rowsOf es) [] (fl n (rowsOf es)):=rL λr hr=>(jI k5 ok r hr).1;obtain⟨M,hM⟩:=FY hF.2;exact⟨M,_,hM,λi x y m=>oQ.mp h i x y m⟩
end My
namespace L2
open PySem PySem.Spec PyProof.Rows
end L2
namespace My
open PySem L2
end My
namespace L2
open PySem PySem.Spec PyProof.Rows
def Gi:bootBuiltins "sorted"=some (.builtin "sorted"):=by decide+kernel
end L2
namespace My
open PySem L2
def HM(n:Nat):(c5 n).length=n:=by simp[c5]
def EZ:∀{l:List Int}{i:Nat} (hi:i<l.length),l.Perm (l[i]::l.eraseIdx i)
 |a::l,0,_=>.refl _
 |a::l,i+1,hi=>by
  have:=EZ (l:=l) (i:=i) (by simpa using hi);exact(this.cons a).trans (.swap ..)
structure kL(n c:Nat)(left ends:List Int):Prop where
 len:left.length=n-c
 pm:(left++ends).Perm (c5 n)
def kL.zero(n:Nat):kL n 0 (c5 n) []:=⟨HM n,by rw[ZX]⟩
def kL.step{n c i:Nat}{left ends:List Int}(h:kL n c left ends)(hi:i<left.length):kL n (c+1) (left.eraseIdx i) (ends++[left[i]]):=by
 refine⟨by rw[List.length_eraseIdx_of_lt hi,h.len];omega,?_⟩;refine List.Perm.trans ?_ h.pm;have e:left.Perm (left[i]::left.eraseIdx i):=EZ hi;refine List.Perm.trans ?_ (e.symm.append_right ends);rw[<-ZY];exact List.perm_append_comm
def kL.done{n:Nat}{left ends:List Int}(h:kL n n left ends):ends.Perm (c5 n):=by
 have:left=[]:=List.length_eq_zero_iff.mp (by have:=h.len;omega);have:=h.pm;simpa[‹left=[]›]using this
def UU{n:Nat}{rs:List (List Int)}(hr:∀r∈rs,b8 n r){a b:Int}(ha:aB n a)(hb:aB n b):(fl n rs).getD a.toNat 0=(fl n rs).getD b.toNat 0↔nK rs a [] b:=by
 obtain⟨a0,a1⟩:=ha;obtain⟨b0,b1⟩:=hb;rw[(rL hr).iff (by omega) (by omega)];constructor
 ·intro k M f hf;exact k M f hf (λ_ z=>nomatch z)
 ·intro k M f hf _;exact k M f hf
def cons_of{k n:Nat}{es:List En}(ok:∀e∈es,b3 k n e)(k5:k<=5){M:Mo}{f:Nat->Int}(hf:M.Fits f (rowsOf es))(ho:∀i x y,En.ap i x y∈es->f x.toNat≠f y.toNat):pE n es:=
 oQ.mpr λi x y m e=>by
  obtain⟨hx,hy⟩:=ok _ m;exact ho i x y m ((UU (λr hr=>(jI k5 ok r hr).1) hx hy).mp e M f hf)
def UW{B:Bk}{e:En}(h:pE B.n (B.es++[e.re B.c])):¬B.kI e:=by
 have hb:=oQ.mp h;cases e with
 |row i a k b=>
  intro z;refine z (oQ.mpr λi' x y m e=>hb i' x y (Zc _ m) ?_)
  have:rowsOf (B.es++[(En.row i a k b).re B.c])=rowsOf B.es++[[B.c,a,k,b]]:=by
   unfold rowsOf;rw[List.filterMap_append];rfl
  rw[this];exact e
 |ap i a b=>
  intro z;refine hb B.c a b (Zb _ (Y2.mpr rfl)) ?_
  have:rowsOf (B.es++[(En.ap i a b).re B.c])=rowsOf B.es:=by
   unfold rowsOf;rw[List.filterMap_append];exact ZX _
  rw[this];exact z
def UX{n:Nat}{x:Int}:x∈c5 n↔0<=x/\x<n:=by
 unfold c5;rw[Zh];constructor
 ·rintro⟨y,hy,rfl⟩;have:=ZU.mp hy;omega
 ·rintro⟨h0,h1⟩;exact⟨x.toNat,ZU.mpr (by omega),by omega⟩
inductive Gj(vs:List V)(H:Hp)(Q:VK)(aD:XK):Prop
 |mk (n:Nat) (ld:Addr) (ds:List Int) (_:vs=[.int n,.ref ld]) (_:ax H ld ds) (_:n<=1000) (_:n<=ds.length) (_:∀(l:Addr) (ns:List Int) (H':Hp),H l=none->ax H' l ns->ns.Perm (c5 n)->aa H H'->Q (.ref l) H'):Gj vs H Q aD
def Jm:Sp:=Gj
end My
namespace L2
open PySem PySem.Spec PyProof.Rows
end L2
namespace My
open PySem L2
end My
namespace L2
open PySem PySem.Spec PyProof.Rows
end L2
namespace My
open PySem L2
end My
namespace L2
open PySem PySem.Spec PyProof.Rows
section
variable {prog:Program}{w:World}{A:Around}{E:Value->Shared->Prop}{s:Shared}{b:Array Keyed}{st:SortSt}
def zR{n:Nat}(h:n<=4000):n<=sizeLine:=ZQ h (by decide)
end
open PySem.W
def cm(n:Nat)(F:Nat->Int)(i j:Nat)(C:Bool->Shared->Prop)(s:Shared):Prop:=i<n/\j<n/\C (decide (F i<F j)) s
section
variable {n:Nat}{F:Nat->Int}{s:Shared}
def Jn{α:Type}{Q Q':α->Shared->Prop}(h:∀a,Q a s->Q' a s):∀(t:KasT α),t.kasWp (cm n F) Q s->t.kasWp (cm n F) Q' s
 |.ret a,q=>h a q
 |.ask i j k,⟨h1,h2,q⟩=>⟨h1,h2,Jn h (k _) q⟩
def qX{α β:Type}{t:KasT α}{f:α->KasT β}{Q:β->Shared->Prop}(h:t.kasWp (cm n F) (λa _=>(f a).kasWp (cm n F) Q s) s):(t.bind f).kasWp (cm n F) Q s:=by
 rw[KasT.kasWp_bind];exact Jn (Q:=λa _=>(f a).kasWp (cm n F) Q s) (λa q=>q) t h
def Lc{α:Type}{cmp:Nat->Nat->(Bool->Shared->Prop)->Shared->Prop}{I:Shared->Prop}{Q:α->Shared->Prop}{R:α->Prop}(hc:∀i j C s,I s->i<n->j<n->(∀s',I s'->C (decide (F i<F j)) s')->cmp i j C s)(hq:∀a s',I s'->R a->Q a s')(s0:Shared):
  ∀(t:KasT α) (s:Shared),I s->t.kasWp (cm n F) (λa _=>R a) s0->t.kasWp cmp Q s
 |.ret a,s,i,r=>hq a s i r
 |.ask i j k,s,hi,⟨h1,h2,r⟩=>hc i j _ s hi h1 h2 λs' bN=>Lc hc hq s0 (k _) s' bN r
abbrev at_(p:Array Nat)(i:Nat):Nat:=p.getD i 0
def at_of{p q:Array Nat}{i j:Nat}(h:p[i]?=q[j]?):at_ p i=at_ q j:=by
 show p.getD i 0=q.getD j 0;rw[Array.getD_eq_getD_getElem?,Array.getD_eq_getD_getElem?,h]
def Pm(n:Nat)(p:Array Nat):Prop:=p.toList.Perm (List.range n)
def Pm.size{p:Array Nat}(h:Pm n p):p.size=n:=by
 have:=h.length_eq;simpa using this
def Pm.lt{p:Array Nat}(h:Pm n p){i:Nat}(hi:i<n):at_ p i<n:=by
 have hs:=h.size;have:p.getD i 0=p[i]:=by simp[Array.getD,hs,hi]
 have m:p[i]∈p.toList:=by simp
 have:=ZU.mp (h.mem_iff.mp m);show p.getD i 0<n;omega
def Pm.to{p q:Array Nat}(h:Pm n p)(e:q.Perm p):Pm n q:=(Array.perm_iff_toList_perm.mp e).trans h
def Up(F:Nat->Int)(p:Array Nat)(k:Nat):Prop:=∀i j,i<=j->j<k->F (at_ p i)<=F (at_ p j)
def Dn(F:Nat->Int)(p:Array Nat)(k:Nat):Prop:=∀i j,i<=j->j<k->F (at_ p j)<=F (at_ p i)
def zS{p:Array Nat}(h:Pm n p){i j:Nat}(hj:j<=n)(k:Nat):at_ (kas_rev p i j) k=if i<=k/\k<j then at_ p (i+j-1-k)else at_ p k:=by
 have e:=getElem?_mirror_all (xs:=p) (i:=i) (j:=j) (by rw[h.size];exact hj) k;by_cases z:i<=k/\k<j
 ·rw[if_pos z]at e⊢;exact at_of e
 ·rw[if_neg z]at e⊢;exact at_of e
def Pm.rev{p:Array Nat}(h:Pm n p)(i j:Nat):Pm n (kas_rev p i j):=h.to (mirror_perm _ _ _ _)
def yA{p:Array Nat}(h:Pm n p){i j:Nat}(hj:j<=n)(eq:∀k,i<=k->k<j->F (at_ p k)=F (at_ p (j-1)))(k:Nat):F (at_ (kas_rev p i j) k)=F (at_ p k):=by
 rw[zS h hj];split
 ·rename_i z;rw[eq _ (by omega) (by omega),eq k (by omega) (by omega)]
 ·rfl
def Up.snoc{p:Array Nat}{k:Nat}(k1:1<=k)(h:Up F p k)(e:F (at_ p (k-1))<=F (at_ p k)):Up F p (k+1):=λi j ij jk=>by
 by_cases z:j<k
 ·exact h i j ij z
 ·have:j=k:=by omega
  subst this;by_cases w:i=j
  ·rw[w];exact Int.le_refl _
  ·exact Int.le_trans (h i (j-1) (by omega) (by omega)) e
def Dn.snoc{p:Array Nat}{k:Nat}(k1:1<=k)(h:Dn F p k)(e:F (at_ p k)<=F (at_ p (k-1))):Dn F p (k+1):=λi j ij jk=>by
 by_cases z:j<k
 ·exact h i j ij z
 ·have:j=k:=by omega
  subst this;by_cases w:i=j
  ·rw[w];exact Int.le_refl _
  ·exact Int.le_trans e (h i (j-1) (by omega) (by omega))
def zT{p:Array Nat}(hp:Pm n p){Q:Nat->Prop}:∀(f k:Nat),1<=k->k+f<=n->Up F p k->(∀m,k<=m->m<=k+f->Up F p m->(m=k+f\/F (at_ p m)<F (at_ p (m-1)))->Q m)->(kas_asc p f k).kasWp (cm n F) (λa _=>Q a) s
 |0,k,_,_,u,q=>q k (Y3 _) (Y3 _) u (.inl rfl)
 |f+1,k,k1,kn,u,q=>by
  refine⟨hp.lt (by omega),hp.lt (by omega),?_⟩;by_cases c:F (p.getD k 0)<F (p.getD (k-1) 0)
  ·rw[ZN c];exact q k (Y3 _) (by omega) u (.inr c)
  ·rw[ZO c];show(kas_asc p f (k+1)).kasWp _ _ s;have c:¬F (at_ p k)<F (at_ p (k-1)):=c;exact zT hp f (k+1) (by omega) (by omega) (u.snoc k1 (by omega)) λm h1 h2 h3 h4=>q m (by omega) (by omega) h3 (by rw[show k+(f+1)=k+1+f by omega];exact h4)
def uj{Q:Array Nat×Nat×Nat->Prop}:∀(f:Nat) (p:Array Nat) (k q:Nat),Pm n p->1<=k->k+f<=n->q+1<=k->Dn F p k->(∀i,k-(q+1)<=i->i<k->F (at_ p i)=F (at_ p (k-1)))->
  (∀p' k' q',Pm n p'->k<=k'->k'<=k+f->q'+1<=k'->Dn F p' k'->(∀i,k'-(q'+1)<=i->i<k'->F (at_ p' i)=F (at_ p' (k'-1)))->Q (p',k',q'))->(kas_desc f p k q).kasWp (cm n F) (λa _=>Q a) s
 |0,p,k,q,hp,k1,kn,qk,d,e,h=>h p k q hp (Y3 _) (Y3 _) qk d e
 |f+1,p,k,q,hp,k1,kn,qk,d,e,h=>by
  refine⟨hp.lt (by omega),hp.lt (by omega),?_⟩;by_cases c:F (p.getD k 0)<F (p.getD (k-1) 0)
  ·rw[ZN c];have c:F (at_ p k)<F (at_ p (k-1)):=c;by_cases q0:q>0
   ·have sm:=yA hp (show k<=n by omega) e;show(if q>0 then kas_desc f (kas_rev p (k-(q+1)) k) (k+1) 0 else kas_desc f p (k+1) 0).kasWp _ _ s;rw[if_pos q0];refine uj f _ (k+1) 0 (hp.rev _ _) (by omega) (by omega) (by omega) (Dn.snoc k1 (λi j ij jk=>by rw[sm,sm];exact d i j ij jk) (by rw[sm,sm];omega)) (λi h1 h2=>by rw[show i=k+1-1 by omega]) λp' k' q' a1 a2 a3 a4 a5 a6=>h p' k' q' a1 (by omega) (by omega) a4 a5 a6
   ·show(if q>0 then kas_desc f (kas_rev p (k-(q+1)) k) (k+1) 0 else kas_desc f p (k+1) 0).kasWp _ _ s;rw[if_neg q0];exact uj f _ (k+1) 0 hp (by omega) (by omega) (by omega) (Dn.snoc k1 d (by omega)) (λi h1 h2=>by rw[show i=k+1-1 by omega]) λp' k' q' a1 a2 a3 a4 a5 a6=>h p' k' q' a1 (by omega) (by omega) a4 a5 a6
  ·rw[ZO c];have c:¬F (at_ p k)<F (at_ p (k-1)):=c;refine⟨hp.lt (by omega),hp.lt (by omega),?_⟩;by_cases c2:F (p.getD (k-1) 0)<F (p.getD k 0)
   ·rw[ZN c2];exact h p k q hp (Y3 _) (by omega) qk d e
   ·rw[ZO c2];have c2:¬F (at_ p (k-1))<F (at_ p k):=c2;have ee:F (at_ p k)=F (at_ p (k-1)):=by omega
    show(kas_desc f p (k+1) (q+1)).kasWp _ _ s;refine uj f p (k+1) (q+1) hp (by omega) (by omega) (by omega) (Dn.snoc k1 d (by omega)) (λi h1 h2=>?_) λp' k' q' a1 a2 a3 a4 a5 a6=>h p' k' q' a1 (by omega) (by omega) a4 a5 a6;rw[show k+1-1=k by omega];by_cases w:i=k
    ·rw[w]
    ·rw[e i (by omega) (by omega),ee]
def HN{p:Array Nat}(hp:Pm n p){k m:Nat}(k1:1<=k)(km:k<=m)(mn:m<=n)(d:Dn F p k){Q:Nat×Array Nat->Prop}(h:∀r p',Pm n p'->1<=r->r<=m->Up F p' r->Q (r,p')):(kas_tail3 k m p).kasWp (cm n F) (λa _=>Q a) s:=by
 have u:Up F (kas_rev p 0 k) k:=λi j ij jk=>by
  rw[zS hp (by omega),zS hp (by omega),if_pos (by omega),if_pos (by omega)];exact d _ _ (by omega) (by omega)
 refine qX (zT (hp.rev 0 k) (m-k) k k1 (by omega) u λr h1 h2 h3 _=>?_);exact h r _ (hp.rev 0 k) (by omega) (by omega) h3
def Ex{p:Array Nat}(hp:Pm n p){k m:Nat}(k1:1<=k)(km:k+1<=m)(mn:m<=n)(d:Dn F p (k+1)){Q:Nat×Array Nat->Prop}(h:∀r p',Pm n p'->1<=r->r<=m->Up F p' r->Q (r,p')):(kas_descPart k m p).kasWp (cm n F) (λa _=>Q a) s:=by
 refine qX (uj (m-(k+1)) p (k+1) 0 hp (by omega) (by omega) (by omega) d (λi h1 h2=>by rw[show i=k+1-1 by omega]) λp' k' q' a1 a2 a3 a4 a5 a6=>?_);by_cases q0:q'>0
 ·show(if q'>0 then kas_tail3 k' m (kas_rev p' (k'-(q'+1)) k')else kas_tail3 k' m p').kasWp _ _ s;rw[if_pos q0];have sm:=yA a1 (show k'<=n by omega) a6;exact HN (a1.rev _ _) (by omega) (by omega) mn (λi j ij jk=>by rw[sm,sm];exact a5 i j ij jk) h
 ·show(if q'>0 then kas_tail3 k' m (kas_rev p' (k'-(q'+1)) k')else kas_tail3 k' m p').kasWp _ _ s;rw[if_neg q0];exact HN a1 (by omega) (by omega) mn a5 h
def UY{p:Array Nat}(hp:Pm n p){m:Nat}(m1:1<=m)(mn:m<=n){Q:Nat×Array Nat->Prop}(h:∀r p',Pm n p'->1<=r->r<=m->Up F p' r->Q (r,p')):(kas_count m p).kasWp (cm n F) (λa _=>Q a) s:=by
 have u1:Up F p 1:=λi j ij jk=>by rw[show i=j by omega];exact Int.le_refl _
 refine qX (zT hp (m-1) 1 (Y3 _) (by omega) u1 λk h1 h2 h3 h4=>?_);by_cases e:(k==m)=true
 ·show(if(k==m)=true then KasT.ret (k,p)else if k>1 then _ else _).kasWp _ _ s;rw[if_pos e];exact h k p hp h1 (by omega) h3
 ·show(if(k==m)=true then KasT.ret (k,p)else if k>1 then _ else _).kasWp _ _ s;rw[if_neg e];have ne:k≠m:=λz=>e (by rw[z];exact beq_self_eq_true _);have lt:=h4.resolve_left (by omega);by_cases k2:k>1
  ·rw[if_pos k2];refine⟨hp.lt (by omega),hp.lt (by omega),?_⟩;by_cases c:F (p.getD 0 0)<F (p.getD (k-1) 0)
   ·rw[ZN c];exact h k p hp h1 (by omega) h3
   ·rw[ZO c];have c:¬F (at_ p 0)<F (at_ p (k-1)):=c;show(kas_descPart k m (kas_rev p 0 k)).kasWp _ _ s
    have eq:∀i,i<k->F (at_ p i)=F (at_ p (k-1)):=λi hi=>by
     have b1:=h3 0 i (by omega) hi;have b2:=h3 i (k-1) (by omega) (by omega);omega
    have sm:=yA (F:=F) hp (i:=0) (show k<=n by omega) λi _ hi=>eq i hi;refine Ex (hp.rev _ _) h1 (by omega) mn (Dn.snoc h1 (λi j ij jk=>?_) (by rw[sm,sm];omega)) h;rw[sm,sm,eq i (by omega),eq j jk];exact Int.le_refl _
  ·rw[if_neg k2];have k1:k=1:=by omega
   subst k1;refine Ex hp (Y3 _) (by omega) mn (Dn.snoc (Y3 _) (λi j ij jk=>?_) (by omega)) h;rw[show i=j by omega];exact Int.le_refl _
def yB{p:Array Nat}(hp:Pm n p){k:Nat}(kn:k<n)(u:Up F p k){Q:Nat->Prop}(h:∀l,l<=k->(∀i,i<l->F (at_ p i)<=F (at_ p k))->(∀i,l<=i->i<k->F (at_ p k)<F (at_ p i))->Q l):
  ∀(f l r:Nat),l<=r->r<=k->r-l<=f->(∀i,i<l->F (at_ p i)<=F (at_ p k))->(∀i,r<=i->i<k->F (at_ p k)<F (at_ p i))->(kas_place p k f l r).kasWp (cm n F) (λa _=>Q a) s
 |0,l,r,lr,rk,hf,h1,h2=>h l (by omega) h1 λi a b=>h2 i (by omega) b
 |f+1,l,r,lr,rk,hf,h1,h2=>by
  by_cases e:l>=r
  ·show(if l>=r then KasT.ret l else _).kasWp _ _ s;rw[if_pos e];exact h l (by omega) h1 λi a b=>h2 i (by omega) b
  ·show(if l>=r then KasT.ret l else _).kasWp _ _ s;rw[if_neg e];refine⟨hp.lt kn,hp.lt (by omega),?_⟩;by_cases c:F (p.getD k 0)<F (p.getD ((l+r)/2) 0)
   ·rw[ZN c];have c:F (at_ p k)<F (at_ p ((l+r)/2)):=c;refine yB hp kn u h f l ((l+r)/2) (by omega) (by omega) (by omega) h1 λi a b=>?_;have:=u ((l+r)/2) i a b;omega
   ·rw[ZO c];have c:¬F (at_ p k)<F (at_ p ((l+r)/2)):=c;refine yB hp kn u h f ((l+r)/2+1) r (by omega) rk (by omega) (λi a=>?_) h2;have:=u i ((l+r)/2) (by omega) (by omega);omega
def Kl{Q:Array Nat->Prop}(h:∀p,Pm n p->Up F p n->Q p):∀(f:Nat) (p:Array Nat) (k:Nat),Pm n p->k+f=n->Up F p k->(kas_bin f p k).kasWp (cm n F) (λa _=>Q a) s
 |0,p,k,hp,e,u=>h p hp (by rw[<-e];exact u)
 |f+1,p,k,hp,e,u=>by
  refine qX (yB hp (show k<n by omega) u (λl lk h1 h2=>?_) k 0 k (Zp _) (Y3 _) (by omega) (λi a=>absurd a (Nat.not_lt_zero _)) λi a b=>by omega);have sz:=hp.size
  have ab:∀i,at_ (bubble p k (k-l)) i=if i=l then at_ p k else if l<i/\i<=k then at_ p (i-1)else at_ p i:=λi=>by
   have e:=getElem?_bubble (xs:=p) (src:=k) (by omega) (k-l) (by omega) i;rw[show k-(k-l)=l by omega]at e;by_cases z:i=l
   ·rw[if_pos z]at e⊢;exact at_of e
   ·rw[if_neg z]at e⊢;by_cases w:l<i/\i<=k
    ·rw[if_pos w]at e⊢;exact at_of e
    ·rw[if_neg w]at e⊢;exact at_of e
  refine Kl h f _ (k+1) (hp.to (bubble_perm _ _ _)) (by omega) λi j ij jk=>?_;rw[ab,ab];by_cases i0:i=l
  ·rw[if_pos i0];by_cases j0:j=l
   ·rw[if_pos j0];exact Int.le_refl _
   ·rw[if_neg j0,if_pos ⟨by omega,by omega⟩];exact Int.le_of_lt (h2 _ (by omega) (by omega))
  ·rw[if_neg i0];by_cases i1:l<i/\i<=k
   ·rw[if_pos i1,if_neg (by omega),if_pos ⟨by omega,by omega⟩];exact u _ _ (by omega) (by omega)
   ·rw[if_neg i1];by_cases j0:j=l
    ·rw[if_pos j0];exact h1 i (by omega)
    ·rw[if_neg j0];by_cases j1:l<j/\j<=k
     ·rw[if_pos j1];exact u _ _ (by omega) (by omega)
     ·rw[if_neg j1];exact u _ _ ij (by omega)
def Xc(n1:1<=n){Q:Array Nat->Prop}(h:∀p,Pm n p->Up F p n->Q p):(kas_sort n).kasWp (cm n F) (λa _=>Q a) s:=by
 have p0:Pm n (List.toArray (List.range n)):=by unfold Pm;simp
 refine qX (UY p0 n1 (Y3 _) λr p' hp r1 rn u=>?_);by_cases e:r<n
 ·show(if r<n then kas_bin (n-max r 1) p' (max r 1)else .ret p').kasWp _ _ s;rw[if_pos e,show max r 1=r by omega];exact Kl h _ p' r hp (by omega) u
 ·show(if r<n then kas_bin (n-max r 1) p' (max r 1)else .ret p').kasWp _ _ s;rw[if_neg e];exact h p' hp (by rw[show n=r by omega];exact u)
end
section
variable {prog:Program}{w:World}{A:Around}{E:Value->Shared->Prop}{s:Shared}
def YI(vs:List Value):((List.toArray (List.range vs.length)).toList.map λi=>vs.getD i Value.none)=vs:=by
 refine List.ext_getElem (by simp) λi h1 h2=>?_;simp[h2]
def UZ{a:Addr}{vs:List Value}{e0:Nat}{F:Nat->Int}{P:PySem.Fin->Shared->Prop}(ow:s.heap.get? a=some (seqObj "list" vs.toArray e0))(BI:vs.length<64)
  (hk:∀h',(∀b u,b≠a->s.heap.get? b=some u->h'.get? b=some u)->2<=vs.length->wpAny (model prog w) A (keyKind' vs.toArray) (λκ s'=>s'={s with heap:=h'}/\∀i j C,i<vs.length->j<vs.length->C (decide (F i<F j)) s'->kas_ask prog w A κ vs i j C s') (λ_ _=>False) {s with heap:=h'})
  (q:∀p,Pm vs.length p->Up F p vs.length->P (.done (.ret .none)) {s with heap:=sortedHeap s.heap a vs (List.toArray (p.toList.map λi=>vs.getD i Value.none))}):wpAny (model prog w) A (Builtin.«list.sort» ⟨[.ref a],[]⟩) P E s:=by
 have la:a<s.heap.objs.size:=Zi ow;have sz:vs.toArray.size=vs.length:=Zl ..;have l4:vs.length<=sizeLine:=zR (by omega);rw[list_sort_plain];refine wpAny_bind (listItems_at ow rfl (wpAny_bind (listUpdate_at ow rfl ?_ (by rw[sz];exact l4) (Zp _))));obtain⟨e1,MQ⟩:∃e1,(s.heap.update a (Obj.mapSeq λ_=> #[])).get? a=some (seqObj "list" #[] e1):=⟨_,get?_update_seq ow (λ_=> #[])⟩;refine wpAny_bind (seqEpoch_at MQ rfl (wpAny_bind (wpAny_newTuple ?_ (by simpa using l4))));refine wpAny_bind (wpAny_newList ?_ (Zp _));refine wpAny_holding ?_
 have at2:(((s.heap.update a (Obj.mapSeq λ_=> #[])).push (seqObj "tuple" vs.toArray 0)).push (seqObj "list" #[] 0)).get? a=some (seqObj "list" #[] e1):=
  Y8 _ (Y8 _ MQ)
 have keep:∀b u,b≠a->s.heap.get? b=some u->(((s.heap.update a (Obj.mapSeq λ_=> #[])).push (seqObj "tuple" vs.toArray 0)).push (seqObj "list" #[] 0)).get? b=some u:=λb u ne hb=>
  Y8 _ (Y8 _ (by rw[Heap.get?_update_ne _ _ _ _ ne];exact hb))
 have ask:=hk _ keep;show wpAny (model prog w) A _ P E {s with heap:=((s.heap.update a (Obj.mapSeq λ_=> #[])).push (seqObj "tuple" vs.toArray 0)).push (seqObj "list" #[] 0)};dsimp only;by_cases n9:vs.toArray.size<2
 ·rw[if_pos n9,if_pos n9];refine wpAny_bind (ZV ?_);rw[StateT.run_pure];refine wpAny_bind (ZV ?_);dsimp only;have fin:=q (List.toArray (List.range vs.length)) (by unfold Pm;simp) λi j ij jk=>by rw[show i=j by omega];exact Int.le_refl _
  rw[YI]at fin
  have e1:Array.map (λx=>x.2) (vs.toArray.zip vs.toArray)=vs.toArray:=by
   apply Array.ext';rw[Array.toList_map];show List.map (λx=>x.2) (vs.toArray.zip vs.toArray).toList=_;rw[show(vs.toArray.zip vs.toArray).toList=vs.zip vs by simp];exact List.map_snd_zip (Y3 _)
  refine wpAny_bind (seqEpoch_at at2 rfl (wpAny_bind (listUpdate_at at2 rfl ?_ (Zp _) ?_)))
  ·simp only[bne_self_eq_false,Bool.false_eq_true,if_false];refine ZV ?_;show P _ {s with heap:=Heap.update _ a (Obj.mapSeq λ_=>Array.map (λx=>x.2) (vs.toArray.zip vs.toArray))};rw[e1];exact fin
  ·show(Array.map (λx=>x.2) (vs.toArray.zip vs.toArray)).size<=_;rw[e1,sz];exact Nat.le_succ_of_le l4
 ·rw[if_neg n9,if_neg n9];rw[sz]at n9;refine wpAny_bind (wpAny_mono (ask (by omega)) (λκ s0 hk=>?_) λ_ _ x=>x.elim);obtain⟨rfl,hk⟩:=hk
  refine wpAny_bind (wpAny_mono (kat_run (Q:=λaS s'=>∃p:Array Nat,p.size=vs.length/\arrOf aS=p.map (kas_item (vs.toArray.zip vs.toArray))/\failedOf aS=none/\Pm vs.length p/\Up F p vs.length/\s'={s with heap:=((s.heap.update a (Obj.mapSeq λ_=> #[])).push (seqObj "tuple" vs.toArray 0)).push (seqObj "list" #[] 0)})
   (G:=λp s'=>Pm vs.length p/\Up F p vs.length/\s'={s with heap:=((s.heap.update a (Obj.mapSeq λ_=> #[])).push (seqObj "tuple" vs.toArray 0)).push (seqObj "list" #[] 0)})
   rfl (by omega) BI (λp' aS s' a1 a2 a3 a4=>⟨p',a1,a2,a3,a4.1,a4.2.1,a4.2.2⟩) ?_) ?_ λ_ _ e=>e)
  ·refine Lc (R:=λp=>Pm vs.length p/\Up F p vs.length) (I:=λs'=>s'={s with heap:=((s.heap.update a (Obj.mapSeq λ_=> #[])).push (seqObj "tuple" vs.toArray 0)).push (seqObj "list" #[] 0)}) (λi j C s' hs hi hj hC=>?_) (λp s' hs hp=>⟨hp.1,hp.2,hs⟩) s _ _ rfl (Xc (by omega) λp h1 h2=>⟨h1,h2⟩);subst hs;exact hk i j C hi hj (hC _ rfl)
  ·rintro⟨⟨⟩,aS⟩ s' ⟨p,hp,har,hf,h1,h2,rfl⟩;dsimp only;have ab6:=kat_snds (ks:=vs) rfl har;rw[ab6];have hsz:(List.toArray (p.toList.map λi=>vs.getD i Value.none)).size=vs.length:=by rw[Zl,Y1,Array.length_toList,hp]
   refine wpAny_bind (seqEpoch_at at2 rfl (wpAny_bind (listUpdate_at at2 rfl ?_ (Zp _) (by rw[hsz];exact Nat.le_succ_of_le l4))));rw[hf];simp only[bne_self_eq_false,Bool.false_eq_true,if_false];exact ZV (q p h1 h2)
def QZ{l:Addr}{vs:List Value}{F:Nat->Int}{Q:Value->Shared->Prop}(hl:s.heap.IsList l vs.toArray)(BI:vs.length<64)
  (hk:∀(A:Around) h',(∀b u,s.heap.get? b=some u->h'.get? b=some u)->2<=vs.length->wpAny (model prog w) A (keyKind' vs.toArray) (λκ s'=>s'={s with heap:=h'}/\∀i j C,i<vs.length->j<vs.length->C (decide (F i<F j)) s'->kas_ask prog w A κ vs i j C s') (λ_ _=>False) {s with heap:=h'})
  (q:∀p,Pm vs.length p->Up F p vs.length->Q (.ref (s.heap.objs.size+1)) {s with heap:=sortedAll s.heap vs (List.toArray (p.toList.map λi=>vs.getD i Value.none))}):wpAny (model prog w) A (call (.builtin "sorted") [.ref l]) Q E s:=by
 have l4:vs.length<=sizeLine:=zR (by omega);refine Calls.call_function_entry kind_sorted plain_sorted entry_sorted (args_sorted1 _) ?_;unfold Builtin.«sorted»;refine wpAny_bind (m:=checkCount "sorted" 1 1 _) (ZV (wpAny_bind (collect_list hl ?_ l4)));refine wpAny_bind (wpAny_newList ?_ l4);have sz:((s.heap.push (seqObj "list" #[] 0)).update s.heap.objs.size (Obj.mapSeq (· ++vs.toArray))).objs.size=s.heap.objs.size+1:=by rw[Heap.size_update,size_push']
 have ow:(((s.heap.push (seqObj "list" #[] 0)).update s.heap.objs.size (Obj.mapSeq (· ++vs.toArray))).push (seqObj "list" vs.toArray 0)).get? (s.heap.objs.size+1)=some (seqObj "list" vs.toArray 0):=by
  rw[<-sz];exact Zq _ rfl
 show wpAny _ _ _ _ _ {s with heap:=((s.heap.push (seqObj "list" #[] 0)).update s.heap.objs.size (Obj.mapSeq (· ++vs.toArray))).push (seqObj "list" vs.toArray 0)};rw[sz]
 have old:∀b u,s.heap.get? b=some u->(((s.heap.push (seqObj "list" #[] 0)).update s.heap.objs.size (Obj.mapSeq (· ++vs.toArray))).push (seqObj "list" vs.toArray 0)).get? b=some u:=λb u hb=>
  Y8 _ (by rw[Heap.get?_update_ne _ _ _ _ (Zn (Zi hb))];exact Y8 _ hb)
 refine wpAny_bind (wpAny_holding (wpAny_call_entry slot_list_sort ⟨_,ow,rfl⟩ entry_list_sort (UZ ow BI (λh' hh l2=>hk _ h' (λb u hb=>hh b u (Zn (ZW (Zi hb))) (old b u hb)) l2) λp h1 h2=>⟨_,rfl,?_⟩) (args_list_sort _)));exact ZV ⟨_,rfl,q p h1 h2⟩
end
end L2
namespace My
open PySem PySem.W PySem.Spec PyProof.Rows L2
def code:En->Int
 |.row _ a k b=>1000000+a*10000+k*100+b
 |.ap _ a b=>a*100+b
section
variable {prog:Program}{w:World}{A:Around}{s:Shared}
def jJ{x:V}{xs:List V}{us:List Value}(h:Vals (x::xs) us):∃u r,us=u::r/\RelV x u/\Vals xs r:=by
 cases h with
 |cons h t=>exact⟨_,_,rfl,h,t⟩
def yC{us:List Value}(h:Vals [] us):us=[]:=by cases h;rfl
def qY{b fin:Bool}{Q:Bool->Shared->Prop}{x y:Int}{t u:Tok}{r:List (Value×Value)}{i:Nat}(h1:x=y->KatLex prog w A b fin Q r (i+2) s)(h2:x≠y->Q (decide (x<y)) s):KatLex prog w A b fin Q ((.int x t,.int y u)::r) (i+1) s:=by
 refine kat_cons (wpAny_eqBool_int ?_);by_cases e:x=y
 ·rw[show(x==y)=true from beq_iff_eq.mpr e];exact kat_yes (h1 e)
 ·rw[show(x==y)=false from ZH.mpr e];refine kat_no ?_;rw[show(b&&(i+1==0))=false by simp];exact kat_one _ _ (lt_int (h2 e))
def Jo{b fin:Bool}{Q:Bool->Shared->Prop}{x:Str}{t u:Tok}{r:List (Value×Value)}(h1:KatLex prog w A b fin Q r 1 s):KatLex prog w A b fin Q ((.str x t,.str x u)::r) 0 s:=by
 refine kat_cons (wpAny_eqBool_str ?_);rw[ZN rfl];exact kat_yes h1
def HP{fin:Bool}{Q:Bool->Shared->Prop}{x y:Str}{t u:Tok}{r:List (Value×Value)}(ne:x≠y)(h:Q (decide (x.cps.toList<y.cps.toList)) s):KatLex prog w A true fin Q ((.str x t,.str y u)::r) 0 s:=by
 refine kat_cons (wpAny_eqBool_str ?_);rw[ZO ne];exact kat_no (oneLt_str h)
def uk{x:Str}{u:Value}(h:RelV (.str x) u):∃t,u=.str x t:=h
def qZ{x:Int}{u:Value}(h:RelV (.int x) u):∃t,u=.int x t:=h
def YJ{k n:Nat}{e e':En}(k5:k<=5)(bM:n<=24)(ok:b3 k n e)(fk:b3 k n e'){us vs:List Value}(hu:Vals e.told us)(hv:Vals e'.told vs){Q:Bool->Shared->Prop}(q:Q (decide (code e<code e')) s):
  KatLex prog w A true (decide (us.length<vs.length)) Q (us.zip vs) 0 s:=by
 have row:∀{i a kd b:Int}{us:List Value},Vals (En.row i a kd b).told us->∃t1 t2 t3 t4,us=[.str "row" t1,.int a t2,.int kd t3,.int b t4]:=λ{i a kd b us} h=>by
  obtain⟨u1,r1,rfl,h1,h⟩:=jJ h;obtain⟨u2,r2,rfl,h2,h⟩:=jJ h;obtain⟨u3,r3,rfl,h3,h⟩:=jJ h;obtain⟨u4,r4,rfl,h4,h⟩:=jJ h;obtain rfl:=yC h;obtain⟨t1,rfl⟩:=uk h1;obtain⟨t2,rfl⟩:=qZ h2;obtain⟨t3,rfl⟩:=qZ h3;obtain⟨t4,rfl⟩:=qZ h4;exact⟨t1,t2,t3,t4,rfl⟩
 have ap:∀{i a b:Int}{us:List Value},Vals (En.ap i a b).told us->∃t1 t2 t3,us=[.str "apart" t1,.int a t2,.int b t3]:=λ{i a b us} h=>by
  obtain⟨u1,r1,rfl,h1,h⟩:=jJ h;obtain⟨u2,r2,rfl,h2,h⟩:=jJ h;obtain⟨u3,r3,rfl,h3,h⟩:=jJ h;obtain rfl:=yC h;obtain⟨t1,rfl⟩:=uk h1;obtain⟨t2,rfl⟩:=qZ h2;obtain⟨t3,rfl⟩:=qZ h3;exact⟨t1,t2,t3,rfl⟩
 have lt1:decide (("row":Str).cps.toList<("apart":Str).cps.toList)=false:=by decide+kernel
 have BJ:decide (("apart":Str).cps.toList<("row":Str).cps.toList)=true:=by decide+kernel
 have ne:("row":Str)≠"apart":=by decide+kernel
 cases e with
 |row i a kd b=>
  obtain⟨⟨a0,a1⟩,⟨c0,c1⟩,⟨b0,b1⟩⟩:=ok;obtain⟨t1,t2,t3,t4,rfl⟩:=row hu;cases e' with
  |row i' a' hV b'=>
   obtain⟨⟨oy,oz⟩,⟨BK,BL⟩,⟨oA,oB⟩⟩:=fk;obtain⟨sy,BM,BN,t4',rfl⟩:=row hv;have q:Q (decide (1000000+a*10000+kd*100+b<1000000+a'*10000+hV*100+b')) s:=q;refine Jo (qY (λea=>qY (λek=>qY (λeb=>kat_nil ?_) λnb=>?_) λnk=>?_) λna=>?_)
   ·rw[show decide ((1000000+a*10000+kd*100+b<1000000+a'*10000+hV*100+b'))=false from ZO (by omega)]at q;exact q
   ·rw[show decide (b<b')=decide (1000000+a*10000+kd*100+b<1000000+a'*10000+hV*100+b')from decide_eq_decide.mpr (by omega)];exact q
   ·rw[show decide (kd<hV)=decide (1000000+a*10000+kd*100+b<1000000+a'*10000+hV*100+b')from decide_eq_decide.mpr (by omega)];exact q
   ·rw[show decide (a<a')=decide (1000000+a*10000+kd*100+b<1000000+a'*10000+hV*100+b')from decide_eq_decide.mpr (by omega)];exact q
  |ap i' a' b'=>
   obtain⟨⟨oy,oz⟩,⟨oA,oB⟩⟩:=fk;obtain⟨sy,BM,BN,rfl⟩:=ap hv;have q:Q (decide (1000000+a*10000+kd*100+b<a'*100+b')) s:=q;rw[ZO (by omega)]at q;exact HP ne (by rw[lt1];exact q)
 |ap i a b=>
  obtain⟨⟨a0,a1⟩,⟨b0,b1⟩⟩:=ok;obtain⟨t1,t2,t3,rfl⟩:=ap hu;cases e' with
  |row i' a' hV b'=>
   obtain⟨⟨oy,oz⟩,⟨BK,BL⟩,⟨oA,oB⟩⟩:=fk;obtain⟨sy,BM,BN,t4',rfl⟩:=row hv;have q:Q (decide (a*100+b<1000000+a'*10000+hV*100+b')) s:=q;rw[ZN (by omega)]at q;exact HP ne.symm (by rw[BJ];exact q)
  |ap i' a' b'=>
   obtain⟨⟨oy,oz⟩,⟨oA,oB⟩⟩:=fk;obtain⟨sy,BM,BN,rfl⟩:=ap hv;have q:Q (decide (a*100+b<a'*100+b')) s:=q;refine Jo (qY (λea=>qY (λeb=>kat_nil ?_) λnb=>?_) λna=>?_)
   ·rw[show decide (a*100+b<a'*100+b')=false from ZO (by omega)]at q;exact q
   ·rw[show decide (b<b')=decide (a*100+b<a'*100+b')from decide_eq_decide.mpr (by omega)];exact q
   ·rw[show decide (a<a')=decide (a*100+b<a'*100+b')from decide_eq_decide.mpr (by omega)];exact q
def code_inj{k n:Nat}{e e':En}(k5:k<=5)(bM:n<=24)(ok:b3 k n e)(fk:b3 k n e')(h:code e=code e'):e.told=e'.told:=by
 cases e with
 |row i a kd b=>
  obtain⟨⟨a0,a1⟩,⟨c0,c1⟩,⟨b0,b1⟩⟩:=ok;cases e' with
  |row i' a' hV b'=>
   obtain⟨⟨oy,oz⟩,⟨BK,BL⟩,⟨oA,oB⟩⟩:=fk;have h:1000000+a*10000+kd*100+b=1000000+a'*10000+hV*100+b':=h;rw[show En.told (.row i a kd b)=[.str "row",.int a,.int kd,.int b]from rfl,show a=a' by omega,show kd=hV by omega,show b=b' by omega];rfl
  |ap i' a' b'=>
   obtain⟨⟨oy,oz⟩,⟨oA,oB⟩⟩:=fk;have h:1000000+a*10000+kd*100+b=a'*100+b':=h;omega
 |ap i a b=>
  obtain⟨⟨a0,a1⟩,⟨b0,b1⟩⟩:=ok;cases e' with
  |row i' a' hV b'=>
   obtain⟨⟨oy,oz⟩,⟨BK,BL⟩,⟨oA,oB⟩⟩:=fk;have h:a*100+b=1000000+a'*10000+hV*100+b':=h;omega
  |ap i' a' b'=>
   obtain⟨⟨oy,oz⟩,⟨oA,oB⟩⟩:=fk;have h:a*100+b=a'*100+b':=h;rw[show En.told (.ap i a b)=[.str "apart",.int a,.int b]from rfl,show a=a' by omega,show b=b' by omega];rfl
def YK(K:PySem.W.Frag)(xs:List V)(H:Hp)(Q:VK):Prop:=∃(a:Addr) (ps:List (Addr×En)) (k n:Nat),xs=[.ref a]/\ah K H a (ps.map λp=>V.ref p.1)/\(∀p∈ps,H p.1=some (.tup p.2.told)/\b3 k n p.2)/\k<=5/\n<=24/\ps.length<64/\
 ∀(l:Addr) (qs:List (Addr×En)),H l=none->qs.Perm ps->(qs.map λp=>code p.2).Pairwise (· <= ·)->Q (.ref l) (upd H l (.lst (qs.map λp=>V.ref p.1)))
end
def Gk{α:Type}{f:α->Addr}:∀{ps:List α}{us:List Value},Vals (ps.map λp=>V.ref (f p)) us->us=ps.map λp=>Value.ref (f p)
 |[],us,h=>yC h
 |p::ps,us,h=>by
  obtain⟨u,r,rfl,h1,h2⟩:=jJ h;have:u=Value.ref (f p):=h1;rw[this,Gk h2];rfl
def Gm{α:Type}{f:α->Addr}:∀(ps:List α),Vals (ps.map λp=>V.ref (f p)) (ps.map λp=>Value.ref (f p))
 |[]=>.nil
 |p::ps=>.cons rfl (Gm ps)
def Q2{e:En}{us:List Value}(h:Vals e.told us):∃x t,us.toArray[0]?=some (Value.str x t):=by
 cases e with
 |row i a k b=>
  obtain⟨u,r,rfl,h1,_⟩:=jJ h;obtain⟨t,rfl⟩:=uk h1;exact⟨_,t,rfl⟩
 |ap i a b=>
  obtain⟨u,r,rfl,h1,_⟩:=jJ h;obtain⟨t,rfl⟩:=uk h1;exact⟨_,t,rfl⟩
def jC:Addr×En:=(0,.ap 0 0 0)
def range_getD{α:Type}(l:List α)(d:α):(List.range l.length).map (λi=>l.getD i d)=l:=by
 refine List.ext_getElem (by simp) λi h1 h2=>?_;simp[h2]
section
variable {X:Cx}
def Ei(K:PySem.W.Frag)(e:X.K=K):gF X (.builtin "sorted") (λxs H Q=>Wr (YK K xs H Q)):=by
 subst e;intro pins s σ H xs us Q I r h;obtain⟨a,ps,k,n,rfl,hq,hp,k5,bM,l64,q⟩:=h.get;obtain⟨u,rfl,ru⟩:=r.one;cases ru;obtain⟨ai,rv,p,hz⟩:=I.list hq;have ei:=Gk rv;have lv:ai.length=ps.length:=by rw[ei,Y1]
 have tup:∀p∈ps,∃us o m,Vals p.2.told us/\s.heap.get? p.1=some o/\o.cls=.type "tuple"/\o.data=.seq us.toArray m:=λp j6=>by
  obtain⟨us,r,⟨o,h1,h2,m,h3⟩,_⟩:=I.tuple (aV.of (hp p j6).1);exact⟨us,o,m,r,h1,h2,h3⟩
 have gi:∀i,i<ai.length->ai.getD i Value.none=.ref (ps.getD i jC).1:=λi hi=>by
  rw[lv]at hi;rw[ei];simp[List.getD,hi]
 have gm:∀i,i<ai.length->ps.getD i jC∈ps:=λi hi=>by
  rw[lv]at hi;rw[List.getD,Zd hi];exact ZA hi
 refine QZ (F:=λi=>code (ps.getD i jC).2) p.isList (by omega) (λA h' keep l2=>?_) λp jD gK=>?_
 ·have kt:∀(qh:List (Addr×En)),(∀p∈qh,p∈ps)->∃fs:List Value,KatTups h' (qh.map λp=>Value.ref p.1) fs/\fs.length=qh.length/\∀v∈fs,∃x t,v=.str x t:=by
   intro qh
   induction qh with
   |nil=>exact λ_=>⟨[],trivial,rfl,λ_ z=>nomatch z⟩
   |cons p qh ih=>
    intro hs;obtain⟨fs,h1,h2,h3⟩:=ih λx hx=>hs x (Y4 _ hx);obtain⟨us,o,m,r,g1,g2,g3⟩:=tup p (hs p (Y9 ..));obtain⟨x,t,g4⟩:=Q2 r;refine⟨.str x t::fs,KatTups.cons (keep _ _ g1) g2 g3 g4 h1,by simp[h2],λv hv=>?_⟩;rcases Y5.mp hv with rfl|hv
    ·exact⟨x,t,rfl⟩
    ·exact h3 v hv
  obtain⟨fs,k1,k2,k3⟩:=kt ps λ_ h=>h;rw[<-ei]at k1;refine kat_kind (T:=.type "str") k1 (by omega) (λv hv=>?_) (by decide) ⟨rfl,λi j C hi hj hC=>?_⟩
  ·obtain⟨x,t,rfl⟩:=k3 v hv;exact .now
  ·show wpAny _ _ (keyLt' (tuples' true) (ai.getD i Value.none) (ai.getD j Value.none)) _ _ _;rw[gi i hi,gi j hj];obtain⟨us,o,m,r,g1,g2,g3⟩:=tup _ (gm i hi);obtain⟨us',o',m',r',g1',BP,g3'⟩:=tup _ (gm j hj);refine kat_lt (keep _ _ g1) g3 (keep _ _ g1') g3' ?_;rw[Zl,Zl];exact YJ k5 bM (hp _ (gm i hi)).2 (hp _ (gm j hj)).2 r r' hC
 ·have pl:∀i∈p.toList,i<ai.length:=λi hi=>ZU.mp (jD.mem_iff.mp hi)
  have eo:(p.toList.map λi=>ai.getD i Value.none)=(p.toList.map λi=>ps.getD i jC).map λp=>Value.ref p.1:=by
   rw[ZK];exact Z0 λi hi=>gi i (pl i hi)
  have lq:(p.toList.map λi=>ps.getD i jC).length=ps.length:=by rw[Y1,jD.length_eq,Z3,lv]
  obtain⟨e,he⟩:=sortedAll_at s.heap ai (List.toArray (p.toList.map λi=>ai.getD i Value.none));rw[eo]at he⊢;refine⟨.ref (s.heap.objs.size+1),_,I.laid (t':=s.toks) (o:=.lst ((p.toList.map λi=>ps.getD i jC).map λp=>V.ref p.1)) (λb u hb=>sortedAll_old hb) (Nat.le_succ _) ?_,rfl,q _ _ (I.ao.fresh (Nat.le_succ _)) ?_ ?_⟩
  ·exact⟨by rw[Y1,lq];exact zR (by omega),_,e,Gm _,he⟩
  ·have:=jD.map λi=>ps.getD i jC;rw[lv,range_getD]at this;exact this
  ·rw[ZK];refine List.pairwise_iff_getElem.mpr λi j hi hj ij=>?_;have sz:=jD.size;rw[Y1,Array.length_toList]at hi hj;have:=gK i j (by omega) (by omega);simp only[List.getElem_map,Function.comp,Array.getElem_toList];have a1:L2.at_ p i=p[i]:=by simp[L2.at_,Array.getD,hi]
   have a2:L2.at_ p j=p[j]:=by simp[L2.at_,Array.getD,hj]
   rw[a1,a2]at this;exact this
end
end My
namespace L2
open PySem PySem.Spec PyProof.Rows
def LU{X:Cx}(K:PySem.W.Frag)(e:X.K=K):sj X (Ly K):=by subst e;exact JC
end L2
namespace My
open PySem L2
def cR(es fs:List En):Prop:=∀e∈es,∃f∈fs,e.told=f.told
def yD{i a k b:Int}{f:En}(h:(En.row i a k b).told=f.told):∃j,f=.row j a k b:=by
 cases f with
 |row j a' k' b'=>
  have h:[V.str "row",V.int a,V.int k,V.int b]=[V.str "row",V.int a',V.int k',V.int b']:=h;injection h with _ h;injection h with h1 h;injection h with h2 h;injection h with h3 _
  injection h1 with h1;injection h2 with h2;injection h3 with h3
  subst h1 h2 h3;exact⟨j,rfl⟩
 |ap j a' b'=>
  have h:[V.str "row",V.int a,V.int k,V.int b]=[V.str "apart",V.int a',V.int b']:=h;have:=congrArg List.length h;simp at this
def zh{i a b:Int}{f:En}(h:(En.ap i a b).told=f.told):∃j,f=.ap j a b:=by
 cases f with
 |row j a' k' b'=>
  have h:[V.str "apart",V.int a,V.int b]=[V.str "row",V.int a',V.int k',V.int b']:=h;have:=congrArg List.length h;simp at this
 |ap j a' b'=>
  have h:[V.str "apart",V.int a,V.int b]=[V.str "apart",V.int a',V.int b']:=h;injection h with _ h;injection h with h1 h;injection h with h2 _
  injection h1 with h1;injection h2 with h2
  subst h1 h2;exact⟨j,rfl⟩
def Xd{k n:Nat}{e f:En}(h:e.told=f.told)(ok:b3 k n f):b3 k n e:=by
 cases e with
 |row i a kd b=>obtain⟨j,rfl⟩:=yD h;exact ok
 |ap i a b=>obtain⟨j,rfl⟩:=zh h;exact ok
def Jp(e:En)(i:Int):(e.re i).told=e.told:=by cases e<;>rfl
def cR.row{es fs:List En}(t:cR es fs){i a k b:Int}(h:En.row i a k b∈es):∃j,En.row j a k b∈fs:=by
 obtain⟨f,hf,e⟩:=t _ h;obtain⟨j,rfl⟩:=yD e;exact⟨j,hf⟩
def cR.ap{es fs:List En}(t:cR es fs){i a b:Int}(h:En.ap i a b∈es):∃j,En.ap j a b∈fs:=by
 obtain⟨f,hf,e⟩:=t _ h;obtain⟨j,rfl⟩:=zh e;exact⟨j,hf⟩
def uC{es fs:List En}(t:cR es fs){M:Mo}{f:Nat->Int}(h:M.Fits f (rowsOf fs)):M.Fits f (rowsOf es):=λr hr=>by
 obtain⟨i,a,k,b,m,rfl⟩:=qF.mp hr;obtain⟨j,m'⟩:=t.row m;exact h [j,a,k,b] (qF.mpr ⟨j,a,k,b,m',rfl⟩)
def YL{es fs:List En}(t:cR es fs)(t':cR fs es){a b:Int}{ws:List Int}:nK (rowsOf es) a ws b↔nK (rowsOf fs) a ws b:=
 ⟨λh M f hf=>h M f (uC t hf),λh M f hf=>h M f (uC t' hf)⟩
def Ld{es fs:List En}(t:cR es fs)(t':cR fs es){a b:Int}{ws:List Int}:pK es a ws b->pK fs a ws b:=λ⟨i,x,y,m,h⟩=>by
 obtain⟨j,m'⟩:=t.ap m;exact⟨j,x,y,m',λM f hf hw=>h M f (uC t hf) hw⟩
def YM{es fs:List En}(t:cR es fs)(t':cR fs es){a b:Int}{ws:List Int}:wordOf es a ws b=wordOf fs a ws b:=by
 unfold wordOf;rw[propext (YL t t'),propext ⟨Ld t t',Ld t' t⟩]
def YN{k n:Nat}{es fs:List En}(ok:∀e∈fs,b3 k n e)(k5:k<=5)(h:pE n fs)(t:cR es fs):pE n es:=by
 obtain⟨M,f,hf,ho⟩:=Xb ok k5 h;refine cons_of (k:=k) (λe he=>?_) k5 (uC t hf) λi x y m=>?_
 ·obtain⟨f,hf,e'⟩:=t e he;exact Xd e' (ok f hf)
 ·obtain⟨j,m'⟩:=t.ap m;exact ho j x y m'
def mk4(i j a k b s:Int)(hs:dI s):My.mk [i,a,k,b] s=My.mk [j,a,k,b] s:=by
 rcases hs with rfl|rfl<;>rfl
def nM(rs rt:List (List Int)):Prop:=∀r∈rs,∃q∈rt,(∀s,dI s->My.mk r s=My.mk q s)/\r.getD 2 0=q.getD 2 0
def cR.rows{es fs:List En}(t:cR es fs):nM (rowsOf es) (rowsOf fs):=λr hr=>by
 obtain⟨i,a,k,b,m,rfl⟩:=qF.mp hr;obtain⟨j,m'⟩:=t.row m;exact⟨_,qF.mpr ⟨j,a,k,b,m',rfl⟩,λs hs=>mk4 i j a k b s hs,rfl⟩
def HQ{s:Int}(h:dI s):dI (-s):=by
 rcases h with rfl|rfl
 ·exact .inr rfl
 ·exact .inl rfl
def LV{rs rt:List (List Int)}(t:nM rs rt){c:Nat->Int}(h:Cl rt [] c):Cl rs [] c:=by
 refine⟨(λ_ z=>nomatch z),λp hp q hq e s hs ee=>?_⟩;obtain⟨p',j6,m1,k1⟩:=t p hp;obtain⟨q',mC,m2,k2⟩:=t q hq;have:=h.2 p' j6 q' mC (by rw[<-k1, <-k2,e]) s hs (by rw[<-m1 s hs, <-m2 s hs];exact ee);rw[m1 _ (HQ hs),m2 _ (HQ hs)];exact this
def FL.t{n:Nat}{rs rt:List (List Int)}(t:nM rs rt)(t':nM rt rs){l:List Int}(h:FL n rs [] l):FL n rt [] l:=by
 obtain⟨⟨⟨aG,fQ,le,snd⟩,om⟩,cl⟩:=h;refine⟨⟨⟨aG,fQ,le,λc hc=>snd c (LV t hc)⟩,om⟩,λp hp q hq e s hs ee=>?_⟩;exact(LV (c:=λa=>l.getD a 0) t' ⟨(λ_ z=>nomatch z),cl⟩).2 p hp q hq e s hs ee
def aa4{k n:Nat}{es fs:List En}(k5:k<=5)(ok:∀e∈es,b3 k n e)(t:cR es fs)(t':cR fs es):fl n (rowsOf es)=fl n (rowsOf fs):=
 (FL.t t.rows t'.rows (rL λr hr=>(jI k5 ok r hr).1)).eq
def YO{k n:Nat}{T U:Tab}(lt:T.length=n)(lu:U.length=n)(rt:∀r∈T,r.length=k)(ru:∀r∈U,r.length=k)(h:∀c j,cell T c j=cell U c j):T=U:=by
 refine List.ext_getElem (by omega) λc h1 h2=>?_;have a1:=rt _ (ZA h1);have a2:=ru _ (ZA h2);refine List.ext_getElem (by omega) λj g1 g2=>?_;have:=h c j;simpa[cell,List.getD,h1,h2,g1,g2]using this
def aa5{k n m:Nat}{ch:List Int}{rs rt:List (List Int)}(ok:fK k n m ch rs)(fk:fK k n m ch rt)(t:nM rs rt)(t':nM rt rs):cj k n ch rs=cj k n ch rt:=by
 have h:=zQ ok;have h':=zQ fk
 have key:∀{rs rt:List (List Int)},nM rs rt->j8 k n ch rs (cj k n ch rs)->j8 k n ch rt (cj k n ch rt)->∀c j e,cell (cj k n ch rs) c j=some e->cell (cj k n ch rt) c j=some e:=λ{rs rt} t h h' c j e he=>by
  obtain⟨r,hr,r1,r2,r3⟩:=(h.qg c j e).mp he;obtain⟨q,hq,m,kd⟩:=t r hr;exact(h'.qg c j e).mpr ⟨q,hq,by rw[<-m 1 (.inl rfl)];exact r1,by rw[<-kd];exact r2,by rw[<-m (-1) (.inr rfl)];exact r3⟩
 refine YO h.len h'.len h.row h'.row λc j=>?_;cases e:cell (cj k n ch rs) c j with
 |some x=>rw[key t h h' c j x e]
 |none=>
  cases e':cell (cj k n ch rt) c j with
  |none=>rfl
  |some y=>rw[key t' h' h c j y e']at e;cases e
def aa6{C g lh g' dm:Addr}{H H':Hp}{B B':Bk}{rest aR:List Addr}(hB:aL C H g lh B rest)(jE:aL C H' g' dm B' aR)(ek:B'.k=B.k)(en:B'.n=B.n)(t:cR B.es B'.es)(t':cR B'.es B.es):B'.aG=B.aG/\B'.eY=B.eY/\B'.tab=B.tab:=by
 have l1:B'.aG=B.aG:=by
  unfold Bk.aG;rw[en];exact aa4 hB.k5 (λe he=>by have:=jE.ok e he;rwa [ek,en]at this) t' t
 have l2:B'.eY=B.eY:=by unfold Bk.eY;rw[l1]
 refine⟨l1,l2,?_⟩;have c1:=Bk.AZ hB;have c2:=Bk.AZ jE;rw[ek,l2,en,l1]at c2;unfold Bk.tab;rw[ek,l2,l1];exact aa5 c2 c1 t'.rows t.rows
def En.fm:En->PyData
 |.row _ a k b=>.tuple [.str "row",.int a,.int k,.int b]
 |.ap _ a b=>.tuple [.str "apart",.int a,.int b]
def YQ{e f:En}(h:e.told=f.told):e.fm=f.fm:=by
 cases e with
 |row i a k b=>obtain⟨j,rfl⟩:=yD h;rfl
 |ap i a b=>obtain⟨j,rfl⟩:=zh h;rfl
def YR(e:En):Gd true 1 e.fm:=by
 have r:(PyData.str "row").canLay0=true:=FG _ (by decide+kernel);have a:(PyData.str "apart").canLay0=true:=FG _ (by decide+kernel);cases e with
 |row i x k b=>
  refine Gd.tup (n:=0) λd hd=>?_;simp only[Y5,List.not_mem_nil,or_false]at hd;rcases hd with rfl|rfl|rfl|rfl
  ·exact Gd.str r
  ·exact Gd.int _
  ·exact Gd.int _
  ·exact Gd.int _
 |ap i x b=>
  refine Gd.tup (n:=0) λd hd=>?_;simp only[Y5,List.not_mem_nil,or_false]at hd;rcases hd with rfl|rfl|rfl
  ·exact Gd.str a
  ·exact Gd.int _
  ·exact Gd.int _
def Xe(es:List En):Gd true 2 (.list (es.map En.fm)):=Gd.list λd hd=>by
 obtain⟨e,_,rfl⟩:=Zh.mp hd;exact YR e
def YS{K:PySem.W.Frag}{H:Hp}{a:Addr}{e:En}(h:H a=some (.tup e.told)):Dt K H (.ref a) e.fm:=by
 cases e with
 |row i x k b=>exact .tup (aV.of h) (.cons (.str _) (.cons (.int _) (.cons (.int _) (.cons (.int _) .nil))))
 |ap i x b=>exact .tup (aV.of h) (.cons (.str _) (.cons (.int _) (.cons (.int _) .nil)))
def HR{K:PySem.W.Frag}{H:Hp}:∀{ps:List (Addr×En)},(∀p∈ps,H p.1=some (.tup p.2.told))->hG K H (ps.map λp=>V.ref p.1) ((ps.map (·.2)).map En.fm)
 |[],_=>.nil
 |p::ps,h=>.cons (YS (h p (Y9 ..))) (HR λq hq=>h q (Y4 _ hq))
def Km{K:PySem.W.Frag}{H:Hp}{l:Addr}{ps:List (Addr×En)}(h1:H l=some (.lst (ps.map λp=>V.ref p.1)))(h2:∀p∈ps,H p.1=some (.tup p.2.told)):Dt K H (.ref l) (.list ((ps.map (·.2)).map En.fm)):=.lst (ah.of h1) (HR h2)
def Ap:List V->Int
 |[_,.int a,.int k,.int b]=>1000000+a*10000+k*100+b
 |[_,.int a,.int b]=>a*100+b
 |_=>0
def U0(e:En):code e=Ap e.told:=by cases e<;>rfl
def Gn{k n:Nat}(k5:k<=5)(bM:n<=24):∀{es fs:List En},(∀e∈es,b3 k n e)->(∀e∈fs,b3 k n e)->es.map code=fs.map code->es.map En.fm=fs.map En.fm
 |[],[],_,_,_=>rfl
 |[],_::_,_,_,h=>nomatch h
 |_::_,[],_,_,h=>nomatch h
 |e::es,f::fs,h1,h2,h=>by
  obtain⟨a,b⟩:=List.cons.inj h;show e.fm::es.map En.fm=f.fm::fs.map En.fm;rw[YQ (code_inj k5 bM (h1 e (Y9 ..)) (h2 f (Y9 ..)) a),Gn k5 bM (λx hx=>h1 x (Y4 _ hx)) (λx hx=>h2 x (Y4 _ hx)) b]
def YT{k n:Nat}(k5:k<=5)(bM:n<=24){es fs:List En}(h1:∀e∈es,b3 k n e)(h2:∀e∈fs,b3 k n e)(p:(es.map En.told).Perm (fs.map En.told))(s1:(es.map code).Pairwise (· <= ·))(s2:(fs.map code).Pairwise (· <= ·)):es.map En.fm=fs.map En.fm:=by
 refine Gn k5 bM h1 h2 (PySem.W.lks_uniq ?_ s1 s2);have:=p.map Ap;rw[ZK,ZK]at this;have e:∀es:List En,es.map (Ap∘En.told)=es.map code:=λes=>Z0 λe _=>(U0 e).symm;rw[e,e]at this;exact this
def Gp{K:PySem.W.Frag}{a:Addr}{ps:List (Addr×En)}{ix:List Nat}{te:TE}{σ:St}{H:Hp}{Q:VK}(hq:ah K H a (ps.map λp=>V.ref p.1))(hp:∀p∈ps,H p.1=some (.tup p.2.vs))(hl:ps.length<=1000)
  (he:∀p∈ps,∀(H':Hp) (Q':VK),aa H H'->(∀b,H' b=none->Q' (.ref b) (upd H' b (.tup p.2.told)))->te (bS ix (some (.ref p.1)) σ) H' Q')
  (h:∀(D:Addr) (rs:List (Addr×En)) (H':Hp),H D=none->H' D=some (.lst (rs.map λp=>V.ref p.1))->(∀r∈rs,H' r.1=some (.tup r.2.told))->rs.map (·.2)=ps.map (·.2)->aa H H'->Q (.ref D) H'):Wr (jo (dF K a) ix te σ H Q):=by
 refine FD (xs:=ps.map λp=>V.ref p.1) λD hD=>⟨λi ys H2=>∃rs:List (Addr×En),ys=rs.map (λp=>V.ref p.1)/\rs.map (·.2)=(ps.take i).map (·.2)/\(∀r∈rs,r.1≠D/\H2 r.1=some (.tup r.2.told))/\H2 D=some (.lst ys)/\aa H H2,⟨[],rfl,by simp,(λ_ z=>nomatch z),ak,(aa.refl H).upd hD⟩,?_,?_,?_⟩
 ·rintro i ys H2 hi ⟨rs,rfl,e,hr,h1,s⟩
  have lr:rs.length<=ps.length:=by
   have:=congrArg List.length e;rw[Y1,Y1,Zx]at this;omega
  exact⟨s.seq hq,h1,bD (by rw[Y1];omega)⟩
 ·rintro i x ys H2 hx ⟨rs,rfl,e,hr,h1,s⟩ Q' q'
  obtain⟨p,rfl,ep⟩:∃p,x=V.ref p.1/\ps[i]?=some p:=by
   rw[Zf]at hx;cases ep:ps[i]? with
   |none=>rw[ep]at hx;cases hx
   |some p=>rw[ep]at hx;exact⟨p,(Zg hx).symm,rfl⟩
  refine he p (Y6 ep) H2 Q' s λb nb=>?_;have ne:b≠D:=λz=>by rw[z,h1]at nb;cases nb
  refine q' _ _ (by rw[aj ne.symm];exact h1) ⟨rs++[(b,p.2)],by simp,?_,λr BQ=>?_,ak,(s.upd (s.free nb)).upd hD⟩
  ·obtain⟨hi,e2⟩:=ZL.mp ep;rw[Ze,e,Zj hi,Ze,e2];rfl
  ·rcases Y7.mp BQ with z|z
   ·obtain⟨n1,n2⟩:=hr r z;have nb':r.1≠b:=λw=>by rw[w,nb]at n2;cases n2
    exact⟨n1,by rw[aj n1,aj nb'];exact n2⟩
   ·rw[Y2.mp z];exact⟨ne,by show upd _ D _ b=_;rw[aj ne,ak]⟩
 ·rintro ys H2 ⟨rs,rfl,e,hr,h1,s⟩;rw[Y1,List.take_length]at e;exact h D rs H2 hD h1 (λr BQ=>(hr r BQ).2) e s
def aa7{K:PySem.W.Frag}{H:Hp}{a:Addr}{ps:List (Addr×En)}{k:Nat}{p:Addr×En}{Q:VK}(h:H a=some (.lst (ps.map λp=>V.ref p.1)))(hk:ps[k]?=some p)(q:Q (.ref p.1) H):Wr (jU K (.ref a) (.int (k:Int)) H Q):=by
 refine⟨⟨a,_,(k:Int),.ref p.1,rfl,rfl,ah.of h,lM (by rw[Zf,hk];rfl),q⟩⟩
def U1(qs:List (Addr×En)):(c5 qs.length).map (λx:Int=>(qs.getD x.toNat jC).2.told)=(qs.map (·.2)).map En.told:=by
 have:=range_getD qs jC;unfold c5;rw[ZK,ZK];refine List.ext_getElem (by simp) λi h1 h2=>?_;rw[Y1,Z3]at h1;simp[List.getD,h1]
def cR.of{es fs:List En}(p:(es.map En.told).Perm (fs.map En.told)):cR es fs:=λe he=>by
 have:=p.mem_iff.mp (Zh.mpr ⟨e,he,rfl⟩);obtain⟨f,hf,h⟩:=Zh.mp this;exact⟨f,hf,h.symm⟩
def top(i:Nat):Stmt:=PySem.Challenge.pw_chalkcave_k50_whole_only_what_stands_cou.main.body.getD i (.Pass ⟨0,0,0,0⟩)
abbrev wH:Stmt:=inClass (top 14) 0
abbrev xr:Stmt:=inClass (top 14) 1
abbrev w6:Stmt:=inClass (top 14) 4
abbrev xt:Stmt:=inClass (top 14) 5
abbrev tL:Stmt:=inClass (top 14) 7
abbrev tO:Stmt:=top 15
abbrev w9:Stmt:=top 16
abbrev xu:Stmt:=top 17
abbrev DS:Stmt:=inClass (top 19) 0
abbrev DU:Stmt:=inClass (top 19) 1
abbrev D2:Stmt:=inClass (top 19) 2
abbrev Ey:Stmt:=top 20
abbrev E1:Stmt:=top 21
abbrev DZ:Stmt:=inClass (top 23) 0
abbrev E2:Stmt:=inClass (top 23) 1
abbrev E3:Stmt:=inClass (top 23) 2
abbrev Ea:Stmt:=inClass (top 23) 3
abbrev Ej:Stmt:=inClass (top 23) 4
abbrev HS:Stmt:=top 24
abbrev Jq:Stmt:=top 25
abbrev xS:Stmt:=top 27
abbrev xI:Stmt:=top 28
abbrev wD:Stmt:=top 29
abbrev xw:Stmt:=top 30
abbrev wF:Stmt:=inClass (top 39) 0
abbrev wL:Stmt:=inClass (top 39) 1
abbrev xx:Stmt:=inClass (top 39) 2
abbrev wM:Stmt:=inClass (top 39) 3
abbrev wJ:Stmt:=inClass (top 39) 4
abbrev wN:Stmt:=inClass (top 39) 5
abbrev wI:Stmt:=inClass (top 39) 6
abbrev xa:Stmt:=inClass (top 39) 7
abbrev xb:Stmt:=inClass (top 39) 8
abbrev wG:Stmt:=inClass (top 39) 10
abbrev xc:Stmt:=inClass (top 39) 11
abbrev wO:Stmt:=inClass (top 39) 12
abbrev wQ:Stmt:=inClass (top 39) 13
abbrev wR:Stmt:=inClass (top 39) 16
abbrev wB:Stmt:=inClass (top 39) 17
abbrev wz:Stmt:=inClass (top 39) 18
abbrev wU:Stmt:=inClass (top 39) 21
abbrev wK:Stmt:=inClass (top 39) 22
abbrev xf:Stmt:=inClass (top 39) 23
abbrev wA:Stmt:=inClass (top 39) 25
abbrev wC:Stmt:=inClass (top 39) 26
abbrev ye:Stmt:=top 40
abbrev xi:Stmt:=top 41
abbrev xj:Stmt:=top 42
abbrev xT:Stmt:=top 43
abbrev D3:Stmt:=top 45
abbrev E4:Stmt:=top 46
abbrev wV:Stmt:=top 48
abbrev xy:Stmt:=top 49
abbrev xJ:Stmt:=top 50
abbrev xK:Stmt:=top 51
abbrev Eb:Stmt:=top 52
abbrev Ec:Stmt:=top 53
abbrev xk:Stmt:=top 54
abbrev xU:Stmt:=top 55
abbrev xA:Stmt:=top 56
abbrev xB:Stmt:=top 58
abbrev Ez:Stmt:=top 59
abbrev jb:Stmt:=top 60
abbrev xC:Stmt:=top 61
abbrev xn:Stmt:=top 62
abbrev lY:Stmt:=top 63
abbrev LW:Stmt:=D3
abbrev LX:Stmt:=E4
abbrev Le:Stmt:=Ez
abbrev Lf:Stmt:=Ey
abbrev LY:Stmt:=E1
abbrev LZ:Stmt:=D2
abbrev L0:Stmt:=DU
abbrev Kn:Stmt:=DS
abbrev Ko:Stmt:=DZ
abbrev L1:Stmt:=E2
abbrev L3:Stmt:=E3
abbrev Jr:Stmt:=Ea
abbrev Kq:Stmt:=Ej
abbrev Js:Stmt:=HS
abbrev Kr:Stmt:=Jq
abbrev MR:Stmt:=Eb
abbrev Ks:Stmt:=Ec
section
variable {P:Program}{w:World}{K:PySem.W.Frag}{mg:Str->Option Value}{base:Heap}
def kC:aM ["_law_script","_law_many","_law_row","_law_seed","_law_cell","_law_rest","_law_k"] ["_law_script","_law_many"] (aF LW):=aP
def YU{f:Addr}{fd:FuncData}(F:aH K "_law_numbers" "_law_numbers" LW f fd)(T:Txt K mg):aA P w K mg base aN 1 f fd ["_law_script","_law_many"] (JL K):=by
 refine F.ok kC (λvs H Q E h=>?_) (λau A outer s H vs Q E hr h=>?_)
 ·obtain⟨a,ns,many,rfl,_⟩:=h
  rfl
 ·obtain⟨a,ns,many,rfl,hS,hn,hm,k⟩:=h
  refine⟨_,ba (bI (i:=2) kC.nd rfl (Or.inl rfl) (um ae))
   (ba (bI (i:=3) kC.nd rfl (Or.inl rfl) af)
   (ba (cb Zm rfl (bW (eI yL (pv 0) jN (cL af))) (aT (i:=4) kC.nd rfl (Or.inl rfl))
    (ba (bI (i:=3) kC.nd rfl (Or.inl rfl) (ay bJ (ay cQ (ay cQ (ay gW (pv 3) af) (ay bJ (pv 4) af)) af) af))
    (ba (bI (i:=5) kC.nd rfl (Or.inl rfl) (ay gV (pv 4) (ay X0 af af)))
    (ba (aY (aK gG (pv 5) af (aI _))
     (bx (bF (eQ PySem.F.plainAttrs_list PySem.F.slot_list_append PySem.F.type_list_append eG (pv 2) (aq (ay bJ (pv 4) af) ae)))) a7)
    (bx (cb Zm rfl (gP rfl T.range (aq af ae)) (aT (i:=6) kC.nd rfl (Or.inl rfl))
     (bx (aY (aK gX (pv 5) af (aI _))
      (ba (bF (eQ PySem.F.plainAttrs_list PySem.F.slot_list_append PySem.F.type_list_append eG (pv 2) (aq (ay bJ (pv 5) af) ae)))
      (bx (bI (i:=5) kC.nd rfl (Or.inl rfl) (ay jM (pv 5) af)))) a7))))))))
   (ba (tZ Zm (aK gG (bB cA (by rfl) T.len PySem.boot_len (aq (pv 2) ae)) (pv 1) (aI _))
    (ba (bI (i:=3) kC.nd rfl (Or.inl rfl) (ay bJ (ay cQ (ay cQ (ay cQ (ay gW (pv 3) (pv 3)) (ay gW af (pv 3))) (ay gW af (bB cA (by rfl) T.len PySem.boot_len (aq (pv 2) ae)))) af) af))
    (bx (bF (eQ PySem.F.plainAttrs_list PySem.F.slot_list_append PySem.F.type_list_append eG (pv 2) (aq (ay bJ (ay jM (pv 3) af) af) ae))))))
   (bx (iC (eI yL (pv 2) jN (cL (pv 1)))))))),?_⟩
  refine⟨Zp _,λr dG=>?_⟩;refine⟨_,rfl,_,rfl,a,_,rfl,(aa.refl H).upd dG|>.seq hS,λp hp=>?_⟩;have vD:r≠p:=a9 (H:=upd H r (.lst [])) (o:=.lst []) ak hp;have hp0:H p=none:=by rw[aj vD.symm]at hp;exact hp
  rw[yk];have aZ:=ym ns none (some 63);generalize cO ns none (some 63)=cs at aZ⊢
  refine⟨p,rfl,⟨_,ah.of ak⟩,dS (K:=K) (a:=p) (xs:=cs.map V.int) (λi σ H2=>∃(ms:List Int) (dD:Int) (c x y:Option V),σ=[some (.ref a),some (.int many),some (.ref r),some (.int dD),c,x,y]/\0<=dD/\dD<2147483647/\
   ms.length<=61*i/\ax H2 r ms/\ax H2 p cs/\aa H H2)
   ⟨[],17,none,none,none,rfl,by decide,by decide,Zp _,((ax.put (ns:=[])).other vD),.put,((aa.refl H).upd dG).upd hp0⟩ (λi σ H2 _ ⟨_,_,_,_,_,_,_,_,_,_,z,_⟩=>ah.of z) ?_ ?_⟩
  ·rintro i y σ H2 hi ⟨ms,dD,c,x,y',rfl,h0,h1,hl,h2,h3,hs⟩;obtain⟨z,rfl,hz⟩:=jd hi;have sX:i<cs.length:=(ZL.mp hz).1;refine⟨_,rfl,_,_,rfl,rfl,.inl ⟨by omega,by omega⟩,_,rfl,_,_,rfl,rfl,(by show(0:Int)<1000003;decide),_,_,rfl,rfl,_,_,rfl,rfl,_,_,rfl,rfl,(by show(0:Int)<2147483647;decide),?_⟩;have g0:=Zz (dD*48271+z%1000003+11) (show(2147483647:Int)≠0 by decide);have g1:=Zy (dD*48271+z%1000003+11) (show(0:Int)<2147483647 by decide);refine⟨_,rfl,_,_,rfl,rfl,⟨by decide,by decide,by decide⟩,_,_,rfl,rfl,?_⟩;rw[aaK];refine⟨_,rfl,_,_,rfl,rfl,_,rfl,?_⟩;refine Wo (λH2=>∃ms:List Int,ms.length<=61*i+1/\ax H2 r ms/\ax H2 p cs/\aa H H2) ⟨ms,by omega,h2,h3,hs⟩ (λH2 hP=>?key) (λkey=>?w1)
   case w1=>
    exact⟨_,rfl,.inl ⟨rfl,_,ah.of h2⟩,_,rfl,_,_,rfl,rfl,(by show(0:Int)<1000;decide),r,_,_,rfl,rfl,h2,bD (by rw[Y1];omega),key _ ⟨ms++[z%1000],by simp;omega,.snoc,h3.other vD.symm,hs.upd dG⟩⟩
   case key=>
    obtain⟨ms,hl,h2,h3,hs⟩:=hP
    refine⟨_,rfl,by decide,by decide,mW (lo:=0) (n:=60) (λj σ H2=>∃(ms:List Int) (rest:Int) (y:Option V),σ=[some (.ref a),some (.int many),some (.ref r),some (.int ((dD*48271+z%1000003+11)%2147483647)),some (.int z),some (.int rest),y]/\
     ms.length<=61*i+1+j/\ax H2 r ms/\ax H2 p cs/\aa H H2) ⟨ms,_,_,rfl,by omega,h2,h3,hs⟩ ?_ ?_⟩
    ·rintro j σ H3 hj ⟨ms,rest,y,rfl,hl,h2,h3,hs⟩;refine⟨_,rfl,_,_,rfl,rfl,_,rfl,?_⟩;refine bK (λ_=>?_) (λ_=>?_)
     ·skip
      refine⟨_,rfl,.inl ⟨rfl,_,ah.of h2⟩,_,rfl,_,_,rfl,rfl,(by show(0:Int)<1000;decide),r,_,_,rfl,rfl,h2,bD (by rw[Y1];omega),?_⟩;refine⟨_,rfl,_,_,rfl,rfl,⟨by decide,by decide⟩,?_⟩;exact⟨ms++[rest%1000],_,_,rfl,by simp;omega,.snoc,h3.other vD.symm,hs.upd dG⟩
     ·exact⟨ms,rest,_,rfl,by omega,h2,h3,hs⟩
    ·rintro σ H3 ⟨ms,rest,y,rfl,hl,h2,h3,hs⟩;exact⟨ms,_,_,_,_,rfl,g0,g1,by omega,h2,h3,hs⟩
  ·rintro σ H2 ⟨ms,dD,c,x,y,rfl,h0,h1,hl,h2,h3,hs⟩;rw[Y1]at hl
   refine Gz (λσ H2=>∃(ms:List Int) (dD:Int) (c x y:Option V),σ=[some (.ref a),some (.int many),some (.ref r),some (.int dD),c,x,y]/\0<=dD/\dD<2147483647/\ms.length<=4000/\ax H2 r ms/\aa H H2)
    (λσ H2=>match H2 r with|some (.lst xs)=>1000-xs.length|_=>0) ⟨ms,dD,c,x,y,rfl,h0,h1,by omega,h2,hs⟩ ?_ ?_
   ·rintro σ H2 ⟨ms,dD,c,x,y,rfl,h0,h1,hl,h2,hs⟩;refine⟨_,rfl,r,_,rfl,.inl (ah.of h2),_,rfl,_,_,rfl,rfl,_,rfl,?_⟩;refine bK (λaQ=>?_) (λqi=>?_)
    ·have aQ:=of_decide_eq_true aQ;rw[Y1]at aQ
     refine⟨_,rfl,_,rfl,_,_,rfl,rfl,.inl ⟨by omega,by omega⟩,_,rfl,_,_,rfl,rfl,.inl ⟨by decide,by decide⟩,_,_,rfl,rfl,_,rfl,r,_,rfl,.inl (ah.of h2),_,_,rfl,rfl,.inl ⟨by decide,by decide⟩,_,_,rfl,rfl,_,_,rfl,rfl,_,_,rfl,rfl,
      (by show(0:Int)<2147483629;decide),?_⟩
     have g0:=Zz (dD*dD+69621*dD+7*((ms.map V.int).length:Int)+5) (show(2147483629:Int)≠0 by decide);have g1:=Zy (dD*dD+69621*dD+7*((ms.map V.int).length:Int)+5) (show(0:Int)<2147483629 by decide);refine⟨_,rfl,.inl ⟨rfl,_,ah.of h2⟩,_,rfl,_,_,rfl,rfl,⟨by decide,by decide⟩,_,_,rfl,rfl,(by show(0:Int)<1000;decide),r,_,_,rfl,rfl,h2,bD (by rw[Y1];omega),?_⟩;refine⟨⟨ms++[_],_,_,_,_,rfl,g0,Int.lt_trans g1 (by decide),by simp;omega,.snoc,hs.upd dG⟩,?_⟩;show(match upd H2 r _ r with|some (.lst xs)=>1000-xs.length|_=>0)<(match H2 r with|some (.lst xs)=>1000-xs.length|_=>0);rw[ak,h2];simp only[Zo,Y1,List.length_singleton];omega
    ·have qi:¬((ms.map V.int).length:Int)<(many:Int):=λz=>qi (ZN z);rw[Y1]at qi;refine⟨_,rfl,_,rfl,_,rfl,r,_,rfl,ah.of h2,λq hq=>?_⟩;rw[yk,Ig];exact k q (ms.take many) _ (by rw[Zx];omega) trivial (hs.free hq) .put (hs.kF hq)
   ·rintro σ H Q Q' hQ ⟨v,e,p,ys,e',q,v',BR,i,j,e3,e4,b,e5,q5⟩;exact⟨v,e,p,ys,e',q,v',BR,i,j,e3,e4,b,e5,hQ _ _ q5⟩
def aa8:aM ["_law_draws","_law_kinds"] ["_law_draws","_law_kinds"] (aF LX):=aP
def YV{f:Addr}{fd:FuncData}(F:aH K "_law_way" "_law_way" LX f fd):aA P w K mg base aN 1 f fd ["_law_draws","_law_kinds"] (KL K):=by
 refine F.ok aa8 (λvs H Q E h=>?_) (λau A outer s H vs Q E hr h=>?_)
 ·obtain⟨a,ns,k,rfl,_⟩:=h
  rfl
 ·obtain⟨a,ns,k,rfl,hS,hn,h1,h5,q⟩:=h;refine⟨_,bx (iC (fW ["_law_kinds"] [1] (bW (pv 0)) (λC s H fp=>ay gW (ay cQ (ay jM (ay bJ (pv 0) (ay gW af (pv 1))) af) af) (ay gV af (ay gW af (ay bJ (pv 0) af)))) (λ_ _ h=>h))),?_⟩;refine⟨_,rfl,a,rfl,⟨_,hS⟩,tU (oW k) hS (bD (by omega)) (λz _ H' Q' q'=>?_) (rG q)⟩;refine⟨_,rfl,_,rfl,_,_,rfl,rfl,.inl ⟨by decide,by decide⟩,_,_,rfl,rfl,(by show(0:Int)<2*k;omega),_,_,rfl,rfl,⟨by decide,by decide⟩,_,_,rfl,rfl,_,rfl,_,_,rfl,rfl,(by show(0:Int)<2;decide),_,_,rfl,rfl,.inl ⟨by decide,by decide⟩,_,_,rfl,rfl,_,_,rfl,rfl,.inr ⟨?_,?_⟩,q'⟩
  ·have:=Zy z (show(0:Int)<2 by decide);show -(2^ 64)<1-2*(z%2);omega
  ·have:=Zz z (show(2:Int)≠0 by decide);show 1-2*(z%2)<2^ 64;omega
def YW:aM ["_law_way_here"] ["_law_way_here"] (aF Le):=aP
def Xf{f:Addr}{fd:FuncData}(F:aH K "_law_turn" "_law_turn" Le f fd):aA P w K mg base aN 1 f fd ["_law_way_here"] (JN K):=by
 refine F.ok YW (λvs H Q E h=>?_) (λau A outer s H vs Q E hr h=>?_)
 ·obtain⟨a,ns,rfl,_⟩:=h
  rfl
 ·obtain⟨a,ns,rfl,hS,hn,k⟩:=h;refine⟨_,bx (iC (fW (cl:=[]) [] [] (bW (Yc (pv 0))) (λC s H fp=>jh je (pv 0)) (λ_ _ h=>nomatch h))),?_⟩;refine⟨_,rfl,Yf hS λp H1 hp h1 s1=>?_⟩;refine⟨p,rfl,⟨_,ah.of h1⟩,tU (- ·) (ah.of h1) (bD (by simp;omega)) (λz _ H' Q' q'=>⟨_,rfl,_,rfl,q'⟩) (rG λD H2 hD h2 s2=>?_)⟩;exact k D _ (s1.free hD) h2 (s1.trans s2)
def YX:aM ["row","side"] ["row","side"] (aF Lf):=aP
def Xg{f:Addr}{fd:FuncData}(F:aH K "near_mark" "near_mark" Lf f fd):aA P w K mg base aN 1 f fd ["row","side"] uq:=by
 refine F.ok YX (λvs H Q E h=>?_) (λau A outer s H vs Q E hr h=>?_)
 ·obtain⟨t,r,s,rfl,_⟩:=h
  rfl
 ·obtain⟨t,r,sd,rfl,ht,hl,k⟩:=h;refine⟨_,ba (aY (aK cG (pv 1) af (aI _)) (bx (iC (av bu (pv 0) af (λ_ _=>rfl)))) a7)<|bx (iC (av bu (pv 0) af (λ_ _=>rfl))),?_⟩;refine⟨_,rfl,rfl,_,rfl,?_⟩;refine bK (λhe=>?_) (λhe=>?_)
  ·have he:sd=1:=by simpa using he
   unfold nB at k;rw[if_pos he]at k;exact⟨_,rfl,dH 1 ht (by omega) k⟩
  ·have he:¬sd=1:=by simpa using he
   unfold nB at k;rw[if_neg he]at k;exact⟨_,rfl,dH 3 ht (by omega) k⟩
def aa9:aM ["row","side"] ["row","side"] (aF LY):=aP
def YY{f:Addr}{fd:FuncData}(F:aH K "far_mark" "far_mark" LY f fd)(R:bj P w K mg base "near_mark" ["row","side"] 1 uq):aA P w K mg base aN 2 f fd ["row","side"] KP:=by
 refine F.ok aa9 (λvs H Q E h=>?_) (λau A outer s H vs Q E hr h=>?_)
 ·obtain⟨t,r,s,rfl,_⟩:=h
  rfl
 ·obtain⟨t,r,sd,rfl,ht,hl,k⟩:=h;refine⟨_,bx (iC (R.pe hr (aq (pv 0) (aq (jh je (pv 1)) ae)))),?_⟩;exact⟨_,rfl,_,rfl,_,rfl,t,r,_,rfl,ht,hl,k⟩
def Aq:aM ["self","a","b","low","high"] ["self","a","b"] (aF LZ):=aP
def YZ{f C:Addr}{fd:FuncData}(F:aH K "unite" "Groups.unite" LZ f fd)(TM:pI mg)(TG:l9 K mg C):aA P w K mg base aN 1 f fd ["self","a","b"] (Ad C):=by
 refine F.ok Aq (λvs H Q E h=>?_) (λau A outer s H vs Q E hr h=>?_)
 ·obtain⟨g,ls,a,b,rfl,_⟩:=h
  rfl
 ·obtain⟨g,ls,a,b,rfl,⟨dx,l,hg,hl⟩,ha,hb,hn,k⟩:=h
  refine⟨_,ba (bI (i:=3) Aq.nd rfl (Or.inr rfl) (bB (xX rfl) (by rfl) TM.min zB (aq (av aJ (aO (pv 0) rfl) (pv 1) (λ_ _=>rfl)) (aq (av aJ (aO (pv 0) rfl) (pv 2) (λ_ _=>rfl)) ae))))
   <|ba (bI (i:=4) Aq.nd rfl (Or.inr rfl) (bB (xW rfl) (by rfl) TM.max rA (aq (av aJ (aO (pv 0) rfl) (pv 1) (λ_ _=>rfl)) (aq (av aJ (aO (pv 0) rfl) (pv 2) (λ_ _=>rfl)) ae))))
   <|bx (eO (pv 0) (fW ["low","high"] [3,4] (bW (aO (pv 0) rfl)) (λC s H fp=>Gw (aK cG (pv 0) (pv 2) (aI _)) (pv 1) (pv 0)) (yR rfl rfl)) rfl),?_⟩
  refine⟨_,rfl,g,C,dx,_,_,rfl,hg,TG.cl,TG.nL,gQ l,_,rfl,aU a hl ha ⟨_,rfl,g,C,dx,_,_,rfl,hg,TG.cl,TG.nL,gQ l,_,rfl,aU b hl hb ⟨_,_,rfl,?_⟩⟩⟩;rw[zC];refine⟨_,rfl,g,C,dx,_,_,rfl,hg,TG.cl,TG.nL,gQ l,_,rfl,aU a hl ha ⟨_,rfl,g,C,dx,_,_,rfl,hg,TG.cl,TG.nL,gQ l,_,rfl,aU b hl hb ⟨_,_,rfl,?_⟩⟩⟩;rw[zD];refine⟨_,rfl,g,C,dx,_,_,rfl,hg,TG.cl,TG.nL,gQ l,l,rfl,⟨_,ah.of hl⟩,tU (λm=>if m=max (ls.getD a 0) (ls.getD b 0)then min (ls.getD a 0) (ls.getD b 0)else m) (ah.of hl) (bD (by omega)) (λz _ H' Q' q'=>?_) λD hD=>?_⟩
  ·refine⟨_,rfl,_,rfl,rfl,_,rfl,?_⟩;refine bK (λhe=>?_) (λhe=>?_)
   ·have he:z=max (ls.getD a 0) (ls.getD b 0):=by simpa using he
    rw[if_pos he]at q';exact⟨_,rfl,q'⟩
   ·have he:¬z=max (ls.getD a 0) (ls.getD b 0):=by simpa using he
    rw[if_neg he]at q';exact⟨_,rfl,q'⟩
  ·have ng:g≠D:=a9 hg hD;refine⟨_,rfl,g,C,dx,_,rfl,(by rw[aj ng];exact hg),TG.cl,TG.nL,(by rw[Ab];show 1<1000;decide),?_⟩;rw[Yn];refine k _ ⟨dx,D,ak,?_⟩ λc o e hc=>?_
   ·show upd _ g _ D=_;rw[aj ng.symm,ak]
    rfl
   ·rw[aj hc,aj (a9 e hD)];exact e
def aba:aM ["self","a","b"] ["self","a","b"] (aF L0):=aP
def Y0{f C:Addr}{fd:FuncData}(F:aH K "together" "Groups.together" L0 f fd)(TG:l9 K mg C):aA P w K mg base aN 1 f fd ["self","a","b"] (KO C):=by
 refine F.ok aba (λvs H Q E h=>?_) (λau A outer s H vs Q E hr h=>?_)
 ·obtain⟨g,ls,a,b,rfl,_⟩:=h
  rfl
 ·obtain⟨g,ls,a,b,rfl,⟨dx,l,hg,hl⟩,ha,hb,k⟩:=h;refine⟨_,bx (iC (o7 cG (av aJ (aO (pv 0) rfl) (pv 1) (λ_ _=>rfl)) (av aJ (aO (pv 0) rfl) (pv 2) (λ_ _=>rfl)) (aI _))),?_⟩;refine⟨_,rfl,g,C,dx,_,_,rfl,hg,TG.cl,TG.nL,gQ l,_,rfl,aU a hl ha ⟨_,rfl,g,C,dx,_,_,rfl,hg,TG.cl,TG.nL,gQ l,_,rfl,aU b hl hb ⟨rfl,?_⟩⟩⟩
  have e:decide (V.int (ls.getD a 0)=V.int (ls.getD b 0))=decide (ls.getD a 0=ls.getD b 0):=by
   by_cases h:ls.getD a 0=ls.getD b 0
   ·rw[ZN h,h];exact ZN rfl
   ·rw[ZO h];exact ZO λz=>h (V.int.inj z)
  rw[e];exact k
def zi:aM ["self","marks","pairs","a","b"] ["self","marks","pairs"] (aF Kn):=aP
def U2{f C:Addr}{fd:FuncData}(F:aH K "__init__" "Groups.__init__" Kn f fd)(T:Txt K mg)(TG:l9 K mg C)(U:cg P w K mg base C "unite" ["self","a","b"] 1 (Ad C)):aA P w K mg base aN 2 f fd ["self","marks","pairs"] (Il C):=by
 refine F.ok zi (λvs H Q E h=>?_) (λau A outer s H vs Q E hr h=>?_)
 ·obtain⟨g,dx,n,l,ps,rfl,_⟩:=h
  rfl
 ·obtain⟨g,dx,n,l,ps,rfl,hg,hl,hp,hn,bL,k⟩:=h
  refine⟨_,(ba (eO (pv 0) (lJ (xq rfl) rfl T.list lN (aq (zy rfl T.range (aq (pv 1) ae)) ae)) rfl)
   (bx (cb Zm rfl (bW (pv 2)) (eM rfl (bA (aT (i:=3) zi.nd rfl (Or.inl rfl)) (bA (aT (i:=4) zi.nd rfl (Or.inl rfl)) eJ))) (bx (bF (U.pe hr (pv 0) (aq (pv 3) (aq (pv 4) ae)))))))),?_⟩
  refine⟨_,rfl,_,rfl,λr dG=>yp (K:=K) ak (by omega) λq H1 hq iq s1=>?_⟩;have s1:aa H H1:=((aa.refl H).upd dG).trans s1;refine⟨_,rfl,g,C,dx,[],rfl,s1 _ _ hg,TG.cl,TG.nL,(by show 0<1000;decide),?_⟩
  have nq:q≠g:=λe=>by
   rw[e,aj (a9 hg dG),hg]at hq;cases hq
  have G1:jz C (upd H1 g (.ins C dx (aW "least" (.ref q) []))) g (dZ n (ps.take 0)):=⟨dx,q,ak,iq.other nq⟩;have K1:Kp g H (upd H1 g (.ins C dx (aW "least" (.ref q) []))):=λc o e nc=>by rw[aj nc];exact s1 _ _ e
  refine⟨_,rfl,l,rfl,⟨_,ah.of (hl.kp K1 hg).is⟩,dS (K:=K) (a:=l) (xs:=ps.map λp=>V.ref p.1) (λi σ H2=>∃x y:Option V,σ=[some (.ref g),some (.int n),some (.ref l),x,y]/\jz C H2 g (dZ n (ps.take i))/\Kp g H H2)
   ⟨none,none,rfl,G1,K1⟩ (λi σ H2 _ ⟨_,_,_,_,k2⟩=>ah.of (hl.kp k2 hg).is) ?_ ?_⟩
  ·rintro i y σ H2 hi ⟨x,z,rfl,G2,K2⟩;obtain⟨p,rfl,ep⟩:=m7 hi;obtain⟨a,b,er,ha,hb⟩:=hp p (Y6 ep);have ht:=(hl.kp K2 hg).tp p (Y6 ep);rw[er]at ht;have L2:=Fp (i:=i) hp;obtain⟨qj,l2,jF,oC⟩:=G2.ob;refine⟨p.1,_,rfl,aV.of ht,rfl,_,_,rfl,_,_,rfl,rfl,?_⟩;refine⟨_,rfl,g,qj,_,rfl,jF,Ac _ (by decide),_,rfl,_,rfl,g,_,a,b,rfl,⟨qj,l2,jF,oC⟩,by rw[L2.len];exact ha,by rw[L2.len];exact hb,by rw[L2.len];omega,λH3 G3 K3=>?_⟩;refine⟨_,_,rfl,?_,K2.trans K3⟩;rw[Fo ep,er];exact G3
  ·rintro σ H2 ⟨x,y,rfl,G2,K2⟩;rw[Y1,List.take_length]at G2;exact k _ G2 K2
def abb:aM ["self","doors","door","row"] ["self","doors","door","row"] (aF L3):=aP
def aaa{f CF CG:Addr}{fd:FuncData}(F:aH K "put" "Fold.put" L3 f fd)(TF:nP K mg CF):aA P w K mg base aN 1 f fd ["self","doors","door","row"] (rJ CF CG):=by
 refine F.ok abb (λvs H Q E h=>?_) (λau A outer s H vs Q E hr h=>?_)
 ·obtain⟨H0,rows,rd,n,f,x,t,a,d,st,m,s,rfl,_⟩:=h
  rfl
 ·obtain⟨H0,rows,rd,n,f,x,t,a,d,st,m,sd,rfl,fr,FA,ok,hm,hx,ht,ha,hw,k⟩:=h;have fU:=rF hr;have hd:=FA.dd m x hx;have n0:0<n:=by omega
  have n8:H t=some (.tup ((key ((rd a).getD 2 0) sd).map kV)):=ht;refine⟨_,(bx (aY (zk (Yi fU (pv 2) (pv 1)) rfl) (bx (bF (eQ PySem.F.plainAttrs_list PySem.F.slot_list_append PySem.F.type_list_append eG (aO (pv 0) rfl) (aq (cD (aq (ug fU (pv 1) (pv 2) (λ_ _=>rfl)) (aq (pv 3) (aq (av bu (pv 2) af (λ_ _=>rfl)) ae)))) ae)))) (bx (yP fU (pv 1) (pv 2) (pv 3) rfl)))),?_⟩;refine⟨_,rfl,_,rfl,x,_,rfl,c4.t hd n8,_,rfl,?_⟩;cases e:a8 (st.D m) (key ((rd a).getD 2 0) sd)with
  |none=>
   refine cV ⟨_,rfl,_,rfl,_,rfl,x,_,rfl,gH.t hd n8 (bD (ZQ (ok.AM fr.rw hm) (by decide))),?_⟩;obtain⟨MS,k'⟩:=FA.putD hx (putK (st.D m) (key ((rd a).getD 2 0) sd) (.ref a));rw[<-R3 e]at MS;exact k _ MS k'
  |some v=>
   obtain⟨s',r,er,vw,_,_⟩:=(ok.hJ m hm _ (qJ e)).is;obtain rfl:v=.ref r:=(Prod.mk.inj er).2;obtain⟨wa,w1,w2,w3⟩:=FA.wl;have g:=c4.t hd n8;rw[e]at g;refine fI ⟨_,rfl,f,CF,d.dx,_,_,rfl,FA.ob,TF.cl,TF.nW,AO d,.inl ⟨rfl,_,ah.of w1⟩,_,rfl,_,rfl,x,_,rfl,g,_,rfl,_,rfl,dH (r:=[(rd a).getD 2 0,sd]) 1 ht (show 1<2 by decide) ⟨(show 3<=sizeLine by decide),λq hq=>?_⟩⟩;have F1:=FA.same (H':=upd H q (.tup [V.ref r,V.ref a,V.int sd])) ((aa.refl H).upd hq);have k1:Kx d H (upd H q (.tup [V.ref r,V.ref a,V.int sd])):=Kx.of ((aa.refl H).upd hq);have mQ:d.lw≠q:=a9 w1 hq;refine⟨d.lw,_,_,rfl,rfl,(by rw[aj mQ];exact w1),bD (by rw[Y1];omega),?_⟩
   obtain⟨F2,k2⟩:=F1.LM n0 ok.aG (wa++[q]) (st.W++[(r,a,sd)]) (by simp[w2]) λi t' e' h1 h2=>by
    by_cases hi:i<wa.length
    ·rw[Zs hi]at h1;rw[Zs (by omega)]at h2;have:=w3 i t' e' h1 h2;rw[aj (a9 this hq)];exact this
    ·rw[Zt (by omega)]at h1 h2
     have z:i-wa.length=0:=by
      have:=(ZL.mp h1).1;simp at this;omega
     rw[z]at h1;rw[<-w2,z]at h2;cases h1;cases h2;exact ak
   rw[Ze]at F2 k2;rw[<-R1 (a:=a) e]at F2;exact k _ F2 (k1.trans k2)
def Ar:aM ["self","row","side","least"] ["self","row"] (aF L1):=aP
def aab{f CF CG:Addr}{fd:FuncData}(F:aH K "lay" "Fold.lay" L1 f fd)(TF:nP K mg CF)(TG:l9 K mg CG)(N:bj P w K mg base "near_mark" ["row","side"] 1 uq)(PU:cg P w K mg base CF "put" ["self","doors","door","row"] 1 (rJ CF CG)):aA P w K mg base aN 2 f fd ["self","row"] (Ae CF CG):=by
 refine F.ok Ar (λvs H Q E h=>?_) (λau A outer s H vs Q E hr h=>?_)
 ·obtain⟨H0,rows,rd,n,f,a,d,st,rfl,_⟩:=h
  rfl
 ·obtain⟨H0,rows,rd,n,f,a,d,st,rfl,fr,FA,ok,ha,hw,k⟩:=h
  refine⟨_,(bx (cb Zm rfl (zp (cD (aq af (aq (jh je af) ae)))) (aT (i:=2) Ar.nd rfl (Or.inl rfl)) (ba (bI (i:=3) Ar.nd rfl (Or.inl rfl) (av aJ (aO (aO (pv 0) rfl) rfl) (N.pe hr (aq (pv 1) (aq (pv 2) ae))) (λ_ _=>rfl)))
   (bx (bF (PU.pe hr (pv 0) (aq (av aJ (aO (pv 0) rfl) (pv 3) (λ_ _=>rfl)) (aq (cD (aq (av bu (pv 1) af (λ_ _=>rfl)) (aq (pv 2) ae))) (aq (pv 1) ae))))))))),?_⟩
  refine⟨_,rfl,(show 2<=sizeLine by decide),λq hq=>⟨q,rfl,⟨_,aV.of ak⟩,?_⟩⟩;have row:=fr.rw.row a ha
  have turn:∀(sd:Int) (aS:FS) (x y:Option V) (D:Ends) (H2:Hp),dI sd->bQ CF CG H0 H2 f d n aS->bq n rows rd aS->aS.W.length<=9989999->Kx d (upd H q (.tup [V.int 1,V.int (-1)])) H2->
    (∀x y H3,bQ CF CG H0 H3 f d n (cf aS (at_ aS.l (My.mk (rd a) sd)) ((rd a).getD 2 0) sd a)->Kx d (upd H q (.tup [V.int 1,V.int (-1)])) H3->D.nx [some (.ref f),some (.ref a),x,y] H3)->
    pG (l8 (nZ (cY (jU K)) (rQ K (rQ K (gZ 0) "groups") "least") (uD uq [] E0 (jR (gZ 1) (jR (gZ 2) jT)))) (iG 3))
     (Ky (ji CF "put" (rJ CF CG) [] E0 (gZ 0) (jR (nZ (cY (jU K)) (rQ K (gZ 0) "doors") (gZ 3)) (jR (AA (jR (nZ (cY (fH K)) (gZ 1) (tC (.int 2))) (jR (gZ 2) jT))) (jR (gZ 1) jT)))))
     D [some (.ref f),some (.ref a),some (.int sd),y] H2:=by
   intro sd aS x y D H2 hsd F2 kW w2 k2 kd;obtain⟨gx,gl,g1,g2⟩:=F2.gr.ob;have MT:=F2.sa _ _ (fr.tp a ha);obtain⟨e1,e2⟩:=row.mk sd;have L:=kW.aG;obtain⟨m1,m2⟩:=jS L e2;refine⟨_,rfl,f,CF,d.dx,_,_,rfl,F2.ob,TF.cl,TF.nG,mf d,d.g,CG,gx,_,_,rfl,g1,TG.cl,TG.nL,gQ gl,_,rfl,_,rfl,a,rd a,sd,rfl,MT,row.len,aU (My.mk (rd a) sd) g2 (by rw[L.len];exact e2) ?_ e1⟩;obtain⟨z,hz⟩:∃z,d.ds[at_ aS.l (My.mk (rd a) sd)]?=some z:=⟨d.ds[at_ aS.l (My.mk (rd a) sd)]'(by rw[F2.dn];exact m1),Zd _⟩;refine⟨_,rfl,f,d.dx,_,rfl,F2.ob,JU d,_,rfl,f,CF,d.dx,_,_,rfl,F2.ob,TF.cl,TF.nD,AN d,_,rfl,ur F2.dl (v:=.ref z) (by rw[<-m2];exact lM (by rw[Zf,hz];rfl)) ?_⟩;refine⟨_,rfl,dH 2 MT (by rw[row.len];decide) ⟨_,rfl,(show 2<=sizeLine by decide),λt ht=>⟨_,rfl,?_⟩⟩⟩;have sm:aa H2 (upd H2 t (.tup [V.int ((rd a).getD 2 0),V.int sd])):=(aa.refl H2).upd ht;exact⟨H0,rows,rd,n,f,z,t,a,d,aS,_,sd,rfl,fr,F2.same sm,kW,m1,hz,ak,ha,by omega,λH3 F3 k3=>kd _ _ H3 F3 ((k2.trans (Kx.of sm)).trans k3)⟩
  have hU:=ok.put (jS ok.aG (row.mk 1).2).1 ha (.inl rfl:dI 1) (ok.fQ _ (row.mk 1).2).symm
  refine HV (K:=K) (a:=q) (xs:=[V.int 1,V.int (-1)]) (λi σ H2=>∃x y:Option V,σ=[some (.ref f),some (.ref a),x,y]/\bQ CF CG H0 H2 f d n (if i=0 then st else if i=1 then cf st (at_ st.l (My.mk (rd a) 1)) ((rd a).getD 2 0) 1 a else fJ rd st a)/\Kx d (upd H q (.tup [V.int 1,V.int (-1)])) H2)
   ⟨none,none,rfl,FA.same ((aa.refl H).upd hq),Kx.refl⟩ (λi σ H2 _ ⟨_,_,_,_,k2⟩=>aV.of ((FA.same ((aa.refl H).upd hq)).tup k2 ak)) ?_ ?_
  ·rintro i v σ H2 hi ⟨x,y,rfl,F2,k2⟩;cases i with
   |zero=>
    cases hi;exact turn 1 st none y _ H2 (.inl rfl) F2 ok (by omega) k2 λx y H3 F3 k3=>⟨x,y,rfl,F3,k3⟩
   |succ i=>
    cases i with
    |zero=>
     cases hi;have w1:=uv st (at_ st.l (My.mk (rd a) 1)) ((rd a).getD 2 0) 1 a;exact turn (-1) (cf st (at_ st.l (My.mk (rd a) 1)) ((rd a).getD 2 0) 1 a) none y _ H2 (.inr rfl) F2 hU (by omega) k2 λx y H3 F3 k3=>⟨x,y,rfl,F3,k3⟩
    |succ i=>simp at hi
  ·rintro σ H2 ⟨x,y,rfl,F2,k2⟩;exact k _ F2 ((Kx.of ((aa.refl H).upd hq)).trans k2)
def Kt{low j:Nat}(h:j≠low):∀(es:List (List Key×V)) (st:FS),(es.foldl (dA low) st).D j=st.D j
 |[],_=>rfl
 |e::es,st=>(Kt h es (dA low st e)).trans (Ys st e h)
def pj:aM ["self","a","b","low","high","kept","gone","door"] ["self","a","b"] (aF Kq):=aP
def U3{f CF CG:Addr}{fd:FuncData}(F:aH K "merge" "Fold.merge" Kq f fd)(T:Txt K mg)(TM:pI mg)(TF:nP K mg CF)(TG:l9 K mg CG)(U:cg P w K mg base CG "unite" ["self","a","b"] 1 (Ad CG))(PU:cg P w K mg base CF "put" ["self","doors","door","row"] 1 (rJ CF CG)):
  aA P w K mg base aN 2 f fd ["self","a","b"] (yT CF CG):=by
 refine F.ok pj (λvs H Q E h=>?_) (λau A outer s H vs Q E hr h=>?_)
 ·obtain⟨H0,rows,rd,n,f,d,st,a,b,rfl,_⟩:=h
  rfl
 ·obtain⟨H0,rows,rd,n,f,d,st,a,b,rfl,fr,FA,ok,ha,hb,hab,hw,k⟩:=h;have fU:=rF hr
  refine⟨_,(ba (bI (i:=3) pj.nd rfl (Or.inl rfl) (bB (xX rfl) (by rfl) TM.min zB (aq (av aJ (aO (aO (pv 0) rfl) rfl) (pv 1) (λ_ _=>rfl)) (aq (av aJ (aO (aO (pv 0) rfl) rfl) (pv 2) (λ_ _=>rfl)) ae))))
   (ba (bI (i:=4) pj.nd rfl (Or.inl rfl) (bB (xW rfl) (by rfl) TM.max rA (aq (av aJ (aO (aO (pv 0) rfl) rfl) (pv 1) (λ_ _=>rfl)) (aq (av aJ (aO (aO (pv 0) rfl) rfl) (pv 2) (λ_ _=>rfl)) ae))))
   (ba (bF (U.pe hr (aO (pv 0) rfl) (aq (pv 3) (aq (pv 4) ae))))
   (ba (bI (i:=5) pj.nd rfl (Or.inl rfl) (av aJ (aO (pv 0) rfl) (pv 3) (λ_ _=>rfl)))
   (ba (bI (i:=6) pj.nd rfl (Or.inl rfl) (av aJ (aO (pv 0) rfl) (pv 4) (λ_ _=>rfl)))
   (bx (cb Zm rfl (bW (lJ (QQ rfl) rfl T.list lN (aq (pv 6) ae))) (aT (i:=7) pj.nd rfl (Or.inl rfl)) (bx (bF (PU.pe hr (pv 0) (aq (pv 5) (aq (pv 7) (aq (ug fU (pv 6) (pv 7) (λ_ _=>rfl)) ae))))))))))))),?_⟩
  obtain⟨gx,gl,g1,g2⟩:=FA.gr.ob;have L:=ok.aG;have al:a<st.l.length:=by rw[L.len];exact ha
  have bl:b<st.l.length:=by rw[L.len];exact hb
  obtain⟨lo,hi,e1,e2⟩:=oY L ha hb
  have BS:bR st.l a b≠cI st.l a b:=by
   intro e;have:((bR st.l a b:Nat):Int)=(cI st.l a b:Nat):=by rw[e]
   omega
  have vE:f≠d.g:=pb FA.ob g1 λz=>fr.ne (HO.ins.inj z).1;refine⟨_,rfl,f,CF,d.dx,_,_,rfl,FA.ob,TF.cl,TF.nG,mf d,d.g,CG,gx,_,_,rfl,g1,TG.cl,TG.nL,gQ gl,_,rfl,aU a g2 al ⟨_,rfl,f,CF,d.dx,_,_,rfl,FA.ob,TF.cl,TF.nG,mf d,d.g,CG,gx,_,_,rfl,g1,TG.cl,TG.nL,gQ gl,_,rfl,aU b g2 bl ⟨_,_,rfl,?_⟩⟩⟩;rw[zC, <-e1];refine⟨_,rfl,f,CF,d.dx,_,_,rfl,FA.ob,TF.cl,TF.nG,mf d,d.g,CG,gx,_,_,rfl,g1,TG.cl,TG.nL,gQ gl,_,rfl,aU a g2 al ⟨_,rfl,f,CF,d.dx,_,_,rfl,FA.ob,TF.cl,TF.nG,mf d,d.g,CG,gx,_,_,rfl,g1,TG.cl,TG.nL,gQ gl,_,rfl,aU b g2 bl ⟨_,_,rfl,?_⟩⟩⟩;rw[zD, <-e2];refine⟨_,rfl,f,CF,d.dx,_,_,rfl,FA.ob,TF.cl,TF.nG,mf d,d.g,gx,_,rfl,g1,Ac _ (by decide),_,rfl,_,rfl,d.g,st.l,cI st.l a b,bR st.l a b,rfl,FA.gr,by rw[L.len];exact lo,by rw[L.len];exact hi,by rw[L.len];have:=fr.n1;omega,λH1 G1 K1=>?_⟩;have F1:=FA.aaT K1 G1 vE;have hU:=ok.join fr.rw lo hi;have k1:Kx d H H1:=Kx.kp K1;obtain⟨xl,vo⟩:∃z,d.ds[cI st.l a b]?=some z:=⟨d.ds[cI st.l a b]'(by rw[FA.dn];exact lo),Zd _⟩;obtain⟨xh,BU⟩:∃z,d.ds[bR st.l a b]?=some z:=⟨d.ds[bR st.l a b]'(by rw[FA.dn];exact hi),Zd _⟩;refine⟨_,rfl,f,CF,d.dx,_,_,rfl,F1.ob,TF.cl,TF.nD,AN d,_,rfl,ur F1.dl (v:=.ref xl) (lM (by rw[Zf,vo];rfl)) ?_⟩;refine⟨_,rfl,f,CF,d.dx,_,_,rfl,F1.ob,TF.cl,TF.nD,AN d,_,rfl,ur F1.dl (v:=.ref xh) (lM (by rw[Zf,BU];rfl)) ?_⟩;have dh:=F1.dd _ _ BU;have dl:=hU.AM fr.rw hi
  have MU:∀e∈st.D (bR st.l a b),uu rows rd (jn st.l (cI st.l a b) (bR st.l a b)) (cI st.l a b) e:=λe he=>by
   obtain⟨s,r,er,hr,hs,hl⟩:=(hU.hJ _ hi e he).is;exact⟨s,r,er,hr,hs,hl.trans (qD L lo hi).symm⟩
  refine⟨_,rfl,⟨⟨xh,_,rfl,dh,λts lk j9 hlen ab7=>⟨lk,rfl,⟨_,ah.of ak⟩,?_⟩⟩⟩⟩;have F2:=F1.same (H':=upd H1 lk (.lst (ts.map V.ref))) ((aa.refl H1).upd j9);have k2:=k1.trans (Kx.of (d:=d) ((aa.refl H1).upd (o:=.lst (ts.map V.ref)) j9));have nk1:lk≠d.lw:=by obtain⟨_,w1,_⟩:=F1.wl;exact(a9 w1 j9).symm
  have nk2:lk≠d.lx:=by obtain⟨_,t1,_⟩:=F1.sl;exact(a9 t1.is j9).symm
  have nk3:lk≠d.g:=by obtain⟨_,_,w1,_⟩:=F1.gr.ob;exact(a9 w1 j9).symm
  have nk4:lk∉d.ds:=λz=>by
   obtain⟨m,hm,e⟩:=ZD z;have:=F1.dd m lk (by rw[Zd hm,e]);rw[this]at j9;cases j9
  refine dS (K:=K) (a:=lk) (xs:=ts.map V.ref) (λi σ H3=>∃x:Option V,σ=[some (.ref f),some (.int a),some (.int b),some (.int (cI st.l a b)),some (.int (bR st.l a b)),some (.ref xl),some (.ref xh),x]/\
   bQ CF CG H0 H3 f d n (((st.D (bR st.l a b)).take i).foldl (dA (cI st.l a b)) {st with l:=jn st.l (cI st.l a b) (bR st.l a b)})/\Kx d (upd H1 lk (.lst (ts.map V.ref))) H3)
   ⟨none,rfl,F2,Kx.refl⟩ (λi σ H3 _ ⟨_,_,_,k3⟩=>ah.of (k3 _ _ ak nk1 nk2 nk3 nk4)) ?_ ?_
  ·rintro i v σ H3 bN ⟨x,rfl,F3,k3⟩;rw[Zf]at bN;cases et:ts[i]? with
   |none=>rw[et]at bN;cases bN
   |some t=>
    rw[et]at bN;obtain rfl:=Zg bN;have il:i<(st.D (bR st.l a b)).length:=by rw[<-hlen];exact(ZL.mp et).1
    obtain⟨e,ee⟩:∃e,(st.D (bR st.l a b))[i]?=some e:=⟨_,Zd il⟩;have me:=Y6 ee;obtain⟨s,r,er,vw,hs,hl⟩:=(MU e me).is;have tt:=ab7 i t e et ee;have ee':=ee;rw[er]at tt;have MV:H3 t=some (.tup [.int ((rd r).getD 2 0),.int s]):=F2.tup k3 (by rw[aj (a9 tt j9)];exact tt);obtain⟨o1,o2,o3,o4⟩:=Ir lo ((st.D (bR st.l a b)).take i) _ hU λe' h'=>MU e' (List.mem_of_mem_take h');have MW:=F3.dd _ _ BU;rw[Kt BS]at MW
    have dv:a8 (st.D (bR st.l a b)) (key ((rd r).getD 2 0) s)=some (.ref r):=by
     have:=EI (hU.nd _ hi) me;rw[er]at this;exact this
    have gg:=c4.t MW (k:=key ((rd r).getD 2 0) s) MV;rw[dv]at gg;have lt:((st.D (bR st.l a b)).take i).length<=10:=by rw[Zx];have:(st.D (bR st.l a b)).length<=10:=dl;omega
    have hw':({st with l:=jn st.l (cI st.l a b) (bR st.l a b)}:FS).W.length=st.W.length:=rfl;refine⟨_,rfl,f,d.dx,_,rfl,F3.ob,JU d,_,rfl,_,rfl,_,rfl,_,rfl,xh,_,rfl,gg,?_⟩;refine⟨H0,rows,rd,n,f,xl,t,r,d,_,_,s,rfl,fr,F3,o1,lo,vo,MV,vw,by omega,λH4 F4 k4=>⟨_,rfl,?_,k3.trans k4⟩⟩;rw[tT ee',er];exact F4
  ·rintro σ H3 ⟨x,rfl,F3,k3⟩;rw[Y1,hlen]at F3;dsimp only at F3;rw[List.take_length]at F3;exact k _ F3 (k2.trans k3)
def oZ:aM ["self","one","two","side","a","b"] ["self"] (aF Jr):=aP
def So{f CF CG:Addr}{fd:FuncData}(F:aH K "settle" "Fold.settle" Jr f fd)(TF:nP K mg CF)(TG:l9 K mg CG)(FA:bj P w K mg base "far_mark" ["row","side"] 2 KP)(O:cg P w K mg base CG "together" ["self","a","b"] 1 (KO CG))(ME:cg P w K mg base CF "merge" ["self","a","b"] 2 (yT CF CG)):
  aA P w K mg base aN 3 f fd ["self"] (yq CF CG):=by
 refine F.ok oZ (λvs H Q E h=>?_) (λau A outer s H vs Q E hr h=>?_)
 ·obtain⟨H0,rows,rd,n,f,d,st,J,rfl,_⟩:=h
  rfl
 ·obtain⟨H0,rows,rd,n,f,d,st,J,rfl,fr,F0,ok,kj,j0,b1,b2,k⟩:=h
  refine⟨_,(bx (tZ Zm (T7 (aO (pv 0) rfl) (λ_=>rfl)) (ba (gE (X7 PySem.F.plainAttrs_list PySem.F.slot_list_pop PySem.F.type_list_pop X9 (aO (pv 0) rfl)) (eM rfl (bA (aT (i:=1) oZ.nd rfl (Or.inl rfl)) (bA (aT (i:=2) oZ.nd rfl (Or.inl rfl)) (bA (aT (i:=3) oZ.nd rfl (Or.inl rfl)) eJ)))))
   (ba (bI (i:=4) oZ.nd rfl (Or.inl rfl) (FA.pe hr (aq (pv 1) (aq (pv 3) ae))))
   (ba (bI (i:=5) oZ.nd rfl (Or.inl rfl) (FA.pe hr (aq (pv 2) (aq (pv 3) ae))))
   (bx (aY (XW (zm (O.pe hr (aO (pv 0) rfl) (aq (pv 4) (aq (pv 5) ae))))) (ba (bF (eQ PySem.F.plainAttrs_list PySem.F.slot_list_append PySem.F.type_list_append eG (aO (pv 0) rfl) (aq (cD (aq (av bu (pv 1) af (λ_ _=>rfl)) (aq (av bu (pv 2) af (λ_ _=>rfl)) (aq (pv 3) ae)))) ae)))
   (bx (bF (ME.pe hr (pv 0) (aq (pv 4) (aq (pv 5) ae)))))) a7))))))),?_⟩
  refine⟨λm σ H2=>∃(x y z u v:Option V) (aS:FS),σ=[some (.ref f),x,y,z,u,v]/\bQ CF CG H0 H2 f d n aS/\bq n rows rd aS/\J aS/\aS.W.length+10*bt aS.l<=9000000/\aS.ss.length+bt aS.l<=9000000/\Kx d H H2/\m=11*bt aS.l+aS.W.length,⟨_,none,none,none,none,none,st,rfl,F0,ok,j0,b1,b2,Kx.refl,rfl⟩,?_⟩;rintro m σ H2 ⟨x,y,z,u,v,aS,rfl,F2,kW,j2,c1,c2,k2,rfl⟩;obtain⟨wa,w1,w2,w3⟩:=F2.wl;refine⟨_,rfl,f,CF,d.dx,_,_,rfl,F2.ob,TF.cl,TF.nW,AO d,_,.inl ⟨_,ah.of w1,rfl⟩,?_⟩;rcases List.eq_nil_or_concat aS.W with eW|⟨W,e,eW⟩
  ·have:wa=[]:=by rw[eW]at w2;exact List.length_eq_zero_iff.mp w2
   rw[this];exact k aS H2 F2 kW j2 eW (by omega) k2
  ·rw[List.concat_eq_append]at eW;have wl:wa.length=W.length+1:=by rw[w2,eW,Zo];rfl
   rcases List.eq_nil_or_concat wa with ew|⟨wb,t,ew⟩
   ·rw[ew]at wl;simp at wl
   ·rw[List.concat_eq_append]at ew;subst ew;have wl:wb.length=W.length:=by rw[Zo]at wl;simpa using wl
    have ht:H2 t=some (.tup [.ref e.1,.ref e.2.1,.int e.2.2]):=w3 wb.length t e (by rw[Zt (Y3 _),Nat.sub_self];rfl) (by rw[eW,wl,Zt (Y3 _),Nat.sub_self];rfl);obtain⟨iY,we⟩:=kW.pop eW;have n0:0<n:=ZP (Zp _) ((fr.rw.row _ we.x).mk 1).2;have F3':=F2.LM n0 kW.aG wb W wl λi t' e' h1 h2=>w3 i t' e' (by rw[Zs (ZL.mp h1).1];exact h1) (by rw[eW,Zs (ZL.mp h2).1];exact h2);obtain⟨F3,k3⟩:=F3';obtain⟨a,b,sd⟩:=e;have ra:=fr.rw.row _ we.x;have rb:=fr.rw.row _ we.y;have ab8:(((wb++[t]).map V.ref).isEmpty)=false:=by rw[Ze];cases wb<;>rfl
    rw[ab8];refine fI ⟨λσ' H'=>∃(x y z u v:Option V) (jw:FS),σ'=[some (.ref f),x,y,z,u,v]/\bQ CF CG H0 H' f d n jw/\bq n rows rd jw/\J jw/\jw.W.length+10*bt jw.l<=9000000/\jw.ss.length+bt jw.l<=9000000/\Kx d H H'/\11*bt jw.l+jw.W.length<11*bt aS.l+aS.W.length,λσ' H' ⟨x,y,z,u,v,jw,h1,h2,h3,h4,h5,h6,h7,h8⟩=>⟨_,h8,x,y,z,u,v,jw,h1,h2,h3,h4,h5,h6,h7,rfl⟩,?_⟩;have js:=kj aS W a b sd kW eW j2;obtain⟨o1,o2,o3,o4⟩:=Ut fr.rw iY we;have acK:aS.W.length=W.length+1:=by rw[eW,Zo];rfl
    have ed:((wb++[t]).map V.ref).dropLast=wb.map V.ref:=by rw[Ze];exact List.dropLast_concat
    refine⟨_,rfl,f,CF,d.dx,_,_,rfl,F2.ob,TF.cl,TF.nW,AO d,.inl ⟨rfl,_,ah.of w1⟩,d.lw,_,.ref t,rfl,rfl,w1,by rw[Ze,Zo,Zt (by simp)];simp,?_⟩;rw[ed];have vF:=F2.tup k3 ht;refine⟨t,_,rfl,aV.of vF,rfl,_,_,rfl,_,_,rfl,_,_,rfl,rfl,?_⟩;have ta:=F3.sa _ _ (fr.tp _ we.x);have tb:=F3.sa _ _ (fr.tp _ we.y);refine⟨_,rfl,_,rfl,a,rd a,sd,rfl,ta,ra.len,?_⟩;refine⟨_,rfl,_,rfl,b,rd b,sd,rfl,tb,rb.len,?_⟩;rw[(ra.mk (-sd)).1,(rb.mk (-sd)).1];obtain⟨gx,gl,g1,g2⟩:=F3.gr.ob;have L:=iY.aG;refine⟨_,rfl,f,CF,d.dx,_,_,rfl,F3.ob,TF.cl,TF.nG,mf d,d.g,gx,_,rfl,g1,Ac _ (by decide),_,rfl,_,rfl,d.g,aS.l,My.mk (rd a) (-sd),My.mk (rd b) (-sd),rfl,F3.gr,by rw[L.len];exact(ra.mk _).2,by rw[L.len];exact(rb.mk _).2,_,rfl,?_⟩;by_cases he:aS.l.getD (My.mk (rd a) (-sd)) 0=aS.l.getD (My.mk (rd b) (-sd)) 0
    ·rw[ZN he];have ef:fX rd {aS with W:=W} a b sd={aS with W:=W}:=if_pos he;rw[ef]at js;refine cV ⟨_,_,_,_,_,{aS with W:=W},rfl,F3,iY,js,?_,c2,k2.trans k3,?_⟩
     ·dsimp only;omega
     ·dsimp only;omega
    ·rw[ZO he];have ef:fX rd {aS with W:=W} a b sd=lQ {aS with W:=W,ss:=aS.ss++[[(rd a).getD 0 0,(rd b).getD 0 0,sd]]} (My.mk (rd a) (-sd)) (My.mk (rd b) (-sd)):=if_neg he;obtain⟨sp,t1,t2⟩:=F3.sl;refine fI ⟨_,rfl,f,CF,d.dx,_,_,rfl,F3.ob,TF.cl,TF.nS,LL d,.inl ⟨rfl,_,ah.of t1.is⟩,_,rfl,dH 0 ta (by rw[ra.len];decide) ⟨_,rfl,dH 0 tb (by rw[rb.len];decide) ⟨_,rfl,(show 3<=sizeLine by decide),λq hq=>?_⟩⟩⟩;have F4:=F3.same (H':=upd _ q (.tup [V.int ((rd a).getD 0 0),V.int ((rd b).getD 0 0),V.int sd])) ((aa.refl _).upd hq);have k4:Kx d _ (upd _ q (.tup [V.int ((rd a).getD 0 0),V.int ((rd b).getD 0 0),V.int sd])):=Kx.of ((aa.refl _).upd hq);have sY:d.lx≠q:=a9 t1.is hq;have k8:sp.length=aS.ss.length:=by rw[<-(show _=aS.ss from t2),Y1]
     refine⟨d.lx,_,_,rfl,rfl,(by rw[aj sY];exact t1.is),bD (by rw[Y1];omega),?_⟩
     obtain⟨F5,k5⟩:=F4.abW n0 L (sp++[(q,[(rd a).getD 0 0,(rd b).getD 0 0,sd])]) λp hp=>by
      rcases Y7.mp hp with h|h
      ·have:=t1.tp p h;rw[aj (a9 this hq)];exact this
      ·obtain rfl:=Y2.mp h;exact ak
     rw[Ze]at F5 k5;rw[Ze,show sp.map (·.2)=aS.ss from t2]at F5;refine⟨_,rfl,f,d.dx,_,rfl,F5.ob,Ur d,_,rfl,_,rfl,H0,rows,rd,n,f,d,_,My.mk (rd a) (-sd),My.mk (rd b) (-sd),rfl,fr,F5,iY.sE _,(ra.mk _).2,(rb.mk _).2,he,(by dsimp only;omega),λH6 F6 k6=>?_⟩;have F7:bQ CF CG H0 H6 f d n (fX rd {aS with W:=W} a b sd):=by rw[ef];exact F6
     exact⟨_,_,_,_,_,_,rfl,F7,o1,js,by dsimp only at o3;omega,by dsimp only at o4;omega,(((k2.trans k3).trans k4).trans k5).trans k6,by dsimp only at o2;omega⟩
def none_of{H H':Hp}(s:aa H H'){x:Addr}(h:H' x=none):H x=none:=by
 cases e:H x with
 |none=>rfl
 |some o=>rw[s _ _ e]at h;cases h
def Xh:aM ["self","marks","start"] ["self","marks","start"] (aF Ko):=aP
def U4{f CF CG:Addr}{fd:FuncData}(F:aH K "__init__" "Fold.__init__" Ko f fd)(T:Txt K mg)(TF:nP K mg CF)(GR:kR P w K mg base CG "Groups" ["self","marks","pairs"] 2 (Il CG)):aA P w K mg base aN 4 f fd ["self","marks","start"] (Iy CF CG):=by
 refine F.ok Xh (λvs H Q E h=>?_) (λau A outer s H vs Q E hr h=>?_)
 ·obtain⟨H0,f,dx,n,ls,ps,rfl,_⟩:=h
  rfl
 ·obtain⟨H0,f,dx,n,ls,ps,rfl,hf,f0,sa,ts,hp,hn,bL,fg,k⟩:=h
  refine⟨_,(ba (eO (pv 0) (GR.pe hr (aq (pv 1) (aq (pv 2) ae))) rfl)
   (ba (eO (pv 0) (fW [] [] (gP rfl T.range (aq (pv 1) ae)) (λC s H fp=>Ui) kq) rfl)
   (ba (eO (pv 0) (um ae) rfl)
   (bx (eO (pv 0) (um ae) rfl))))),?_⟩
  refine⟨_,rfl,_,rfl,λg gx hg qo nd=>?_⟩;have s0:aa H (upd (upd H gx (.own g)) g (.ins CG gx [])):=((aa.refl H).upd qo).upd hg;refine⟨g,gx,n,ls,ps,rfl,ak,ts.same s0,hp,hn,bL,λH1 G1 K1=>⟨rfl,?_⟩⟩;have s1:aa H H1:=λc o e=>K1 c o (s0 c o e) (a9 e hg);have MY:=s1 _ _ hf;have vE:f≠g:=a9 hf hg;have sa1:aa H0 H1:=sa.trans s1;refine⟨_,rfl,f,CF,dx,[],rfl,MY,TF.cl,TF.nG,(by show 0<1000;decide),?_⟩;have MZ:aa H0 (upd H1 f (.ins CF dx (aW "groups" (.ref g) []))):=sa1.upd f0;dsimp only[pG,Lv];refine WE (n:=n) rfl hn λD ds H3 hD e3 hl M0 hx s3=>?_;have M3:=s3 _ _ (ak (H:=H1) (a:=f) (o:=.ins CF dx (aW "groups" (.ref g) [])));have sZ:=MZ.trans s3;refine⟨_,rfl,f,CF,dx,_,rfl,M3,TF.cl,TF.nD,(by show 1<1000;decide),?_⟩;refine⟨Zp _,λlw k9=>⟨_,rfl,f,CF,dx,aW "doors" (.ref D) (aW "groups" (.ref g) []),rfl,(aj (a9 ak k9)).trans ak,TF.cl,TF.nW,(by show 2<1000;decide),?_⟩⟩;refine⟨Zp _,λlx oE=>⟨_,rfl,f,CF,dx,aW "waiting" (.ref lw) (aW "doors" (.ref D) (aW "groups" (.ref g) [])),rfl,(aj (a9 ak oE)).trans ak,TF.cl,TF.nS,(by show 3<1000;decide),?_⟩⟩;have mQ:lw≠f:=λe=>by rw[e,ak]at k9;cases k9
  have sY:lx≠f:=λe=>by rw[e,ak]at oE;cases oE
  have BV:lw≠lx:=λe=>by rw[<-e,aj mQ,ak]at oE;cases oE
  have uY:H3 lw=none:=by rw[aj mQ]at k9;exact k9
  have uZ:H3 lx=none:=by rw[aj sY,aj BV.symm,aj sY]at oE;exact oE
  refine k ⟨dx,g,D,lw,lx,ds⟩ _ ?_
  have keep:∀{b:Addr}{o:HO}{o1 o2 o3 o4 o5:HO},H3 b=some o->b≠f->upd (upd (upd (upd (upd H3 f o1) lw o2) f o3) lx o4) f o5 b=some o:=λ{b o o1 o2 o3 o4 o5} e h=>by
   rw[aj h,aj (a9 e uZ),aj h,aj (a9 e uY),aj h];exact e
  obtain⟨gx',gl,g1,g2⟩:=G1.ob;have g3:=s3 _ _ ((aj vE.symm (H:=H1) (o:=.ins CF dx (aW "groups" (.ref g) []))).trans g1);have BW:gl≠f:=pb g2 MY (λz=>nomatch z);have g4:ax H3 gl (dZ n ps):=s3 _ _ ((aj BW (H:=H1) (o:=.ins CF dx (aW "groups" (.ref g) []))).trans g2);have nDf:D≠f:=λe=>by rw[e,ak]at hD;cases hD
  have dq:ds.length=n:=by omega
  refine⟨?_,⟨gx',gl,keep g3 vE.symm,keep g4 BW⟩,keep e3 nDf,dq,M0,λm x e=>?_,⟨[],?_,rfl,λi t e h1 _=>nomatch h1⟩,⟨[],⟨?_,λ_ z=>nomatch z⟩,rfl⟩,BV,(a9 e3 uY).symm,(a9 e3 uZ).symm,f0,none_of sa hg,none_of sZ uY,none_of sZ uZ,λx M4=>none_of MZ (hx x M4).1,?_⟩
  ·rw[ak];rfl
  ·have h:=hx x (Y6 e);exact keep h.2.1 (pb h.2.1 M3 (λz=>nomatch z))
  ·show upd _ _ _ lw=_;rw[aj mQ,aj BV,aj mQ,ak];rfl
  ·show upd _ _ _ lx=_;rw[aj sY,ak];rfl
  ·exact((((sZ.upd f0).upd (none_of sZ uY)).upd f0).upd (none_of sZ uZ)).upd f0
def yE:aM ["marks","rows","start","fold","row"] ["marks","rows","start"] (aF Js):=aP
def Sq{f CF CG:Addr}{fd:FuncData}(F:aH K "folded" "folded" Js f fd)(T:Txt K mg)(TF:nP K mg CF)(TG:l9 K mg CG)(fg:CF≠CG)(FR:kR P w K mg base CF "Fold" ["self","marks","start"] 4 (Iy CF CG))(LA:cg P w K mg base CF "lay" ["self","row"] 2 (Ae CF CG))(SE:cg P w K mg base CF "settle" ["self"] 3 (yq CF CG)):
  aA P w K mg base aN 6 f fd ["marks","rows","start"] GN:=by
 refine F.ok yE (λvs H Q E h=>?_) (λau A outer s H vs Q E hr h=>?_)
 ·obtain⟨n,lr,ls,ps,start,J,rfl,_⟩:=h
  rfl
 ·obtain⟨n,lr,ls,ps,start,J,rfl,tr,ts,fj,bz,hn,bL,vA,kj,j0,k⟩:=h
  refine⟨_,(ba (bI (i:=3) yE.nd rfl (Or.inl rfl) (FR.pe hr (aq (pv 0) (aq (pv 2) ae))))
   (ba (cb Zm rfl (bW (pv 1)) (aT (i:=4) yE.nd rfl (Or.inl rfl)) (bx (bF (LA.pe hr (pv 3) (aq (pv 4) ae)))))
   (ba (bF (SE.cS hr (pv 3)))
   (bx (iC (cD (aq (lJ xO rfl T.list lN (aq (aO (aO (pv 3) rfl) rfl) ae)) (aq (lJ xO rfl T.list lN (aq (aO (pv 3) rfl) ae)) ae)))))))),?_⟩
  refine⟨_,rfl,_,rfl,λf dx hf hdx nd=>?_⟩;have s0:aa H (upd (upd H dx (.own f)) f (.ins CF dx [])):=((aa.refl H).upd hdx).upd hf;refine⟨H,f,dx,n,ls,start,rfl,ak,hf,s0,ts.same s0,bz,by omega,vA,fg,λd H1 F1=>⟨rfl,?_⟩⟩
  have fr:Frame CF CG H (ps.map (·.1)) (bZ ps) n:=by
   refine⟨⟨λr hr=>?_,λr hr=>?_⟩,λr hr=>?_,by omega,by rw[Y1];exact bL,fg⟩
   all_goals obtain⟨p,hp,rfl⟩:=Zh.mp hr
   all_goals rw[lO tr.tp hp]
   ·exact(fj p hp).1
   ·exact(fj p hp).2
   ·exact tr.tp p hp
  have sN:bq n (ps.map (·.1)) (bZ ps) (iX n start):=JX bz;have vG:∀i,_:=λi=>IP fr.rw ((ps.map (·.1)).take i) (iX n start) sN λa ha=>List.mem_of_mem_take ha;have sl:=WB sN.aG;have nn:n*n<=490000:=Nat.mul_le_mul hn hn
  refine⟨_,rfl,lr,rfl,⟨_,ah.of (tr.same F1.sa).is⟩,dS (K:=K) (a:=lr) (xs:=ps.map λp=>V.ref p.1) (λi σ H2=>∃x:Option V,σ=[some (.int n),some (.ref lr),some (.ref ls),some (.ref f),x]/\bQ CF CG H H2 f d n (((ps.map (·.1)).take i).foldl (fJ (bZ ps)) (iX n start)))
   ⟨none,rfl,F1⟩ (λi σ H2 _ ⟨_,_,F2⟩=>ah.of (tr.same F2.sa).is) ?_ ?_⟩
  ·rintro i v σ H2 hi ⟨x,rfl,F2⟩;obtain⟨p,rfl,ep⟩:=m7 hi;have em:(ps.map (·.1))[i]?=some p.1:=by rw[Zf,ep];rfl
   obtain⟨o1,_,_,o4⟩:=vG i;have:((ps.map (·.1)).take i).length<=1000:=by rw[Zx,Y1];omega
   refine⟨_,rfl,f,d.dx,_,rfl,F2.ob,Yt d,_,rfl,H,_,bZ ps,n,f,p.1,d,_,rfl,fr,F2,o1,Y6 em,?_,λH3 F3 _=>⟨_,rfl,?_⟩⟩
   ·have:(iX n start).W.length=0:=rfl;omega
   ·rw[tT em];exact F3
  ·rintro σ H2 ⟨x,rfl,F2⟩;rw[Y1]at F2;obtain⟨o1,o2,o3,o4⟩:=vG ps.length;have et:(ps.map (·.1)).take ps.length=ps.map (·.1):=ZE (by rw[Y1];exact Y3 _);rw[et]at F2 o1 o2 o3 o4;have e0:(iX n start).W.length=0:=rfl;have e1:(iX n start).ss.length=0:=rfl;rw[Y1]at o4;refine⟨_,rfl,f,d.dx,_,rfl,F2.ob,R0 d,H,_,bZ ps,n,f,d,_,J,rfl,fr,F2,o1,kj,j0,by rw[o2];omega,by rw[o2,o3];omega,λaS H3 F3 iY j3 w3 l3 _=>?_⟩;obtain⟨gx,gl,g1,g2⟩:=F3.gr.ob;obtain⟨sp,t1,t2⟩:=F3.sl;refine⟨_,rfl,f,CF,d.dx,_,_,rfl,F3.ob,TF.cl,TF.nG,mf d,d.g,CG,gx,_,_,rfl,g1,TG.cl,TG.nL,gQ gl,Wn g2 λl1 H4 h4 i4 s4=>?_⟩;refine⟨_,rfl,f,CF,d.dx,_,_,rfl,s4 _ _ F3.ob,TF.cl,TF.nS,LL d,Um (t1.same s4) λl2 H5 h5 t5 s5=>⟨(show 2<=sizeLine by decide),λt ht=>?_⟩⟩;have s6:aa H5 (upd H5 t (.tup [.ref l1,.ref l2])):=(aa.refl H5).upd ht;exact k t l1 l2 sp aS _ ak (s6.ints (s5.ints i4)) (t5.same s6) t2 iY j3 w3 (by rw[<-Y1 (f:=(·.2)),t2];exact l3) (F3.sa.free h4) ((F3.sa.trans s4).free h5) (((F3.sa.trans s4).trans s5).trans s6)
def nu:aM ["first","a","way","rows","end","at","letter","new"] ["first","a","way"] (aF Kr):=aP
def U5{f:Addr}{fd:FuncData}(F:aH K "trail" "trail" Kr f fd)(T:Txt K mg):aA P w K mg base aN 1 f fd ["first","a","way"] (ID K):=by
 refine F.ok nu (λvs H Q E h=>?_) (λau A outer s H vs Q E hr h=>?_)
 ·obtain⟨fi,st,l,ns,rfl,_⟩:=h
  rfl
 ·obtain⟨fi,st,l,ns,rfl,hS,hl,nz,k⟩:=h
  refine⟨_,ba (bI (i:=3) nu.nd rfl (Or.inl rfl) (um ae))
   <|ba (bI (i:=4) nu.nd rfl (Or.inl rfl) (pv 1))
   <|ba (cb Zm rfl (yO rfl T.enum yN (aq (pv 2) ae)) (eM rfl (bA (aT (i:=5) nu.nd rfl (Or.inl rfl)) (bA (aT (i:=6) nu.nd rfl (Or.inl rfl)) eJ)))
    (ba (bI (i:=7) nu.nd rfl (Or.inl rfl) (ay cQ (pv 0) (pv 5)))
    <|ba (aY (aK gX (pv 6) af (aI _))
     (bx (bF (eQ PySem.F.plainAttrs_list PySem.F.slot_list_append PySem.F.type_list_append eG (pv 3) (aq (cD (aq (ay gV (jh je af) (pv 5)) (aq (pv 4) (aq (pv 6) (aq (pv 7) ae))))) ae))))
     (bx (bF (eQ PySem.F.plainAttrs_list PySem.F.slot_list_append PySem.F.type_list_append eG (pv 3) (aq (cD (aq (ay gV (jh je af) (pv 5)) (aq (pv 7) (aq (jh je (pv 6)) (aq (pv 4) ae))))) ae)))))
    <|bx (bI (i:=4) nu.nd rfl (Or.inl rfl) (pv 7))))
   <|bx (iC (cD (aq (pv 3) (aq (pv 4) ae)))),?_⟩
  refine⟨Zp _,λr dG=>?_⟩;have s0:aa H (upd H r (.lst [])):=(aa.refl H).upd dG;refine⟨_,rfl,?_⟩
  refine⟨_,rfl,l,rfl,⟨_,s0.seq hS⟩,GI (K:=K) (a:=l) (xs:=ns.map V.int) (λi σ H2=>∃(ts:List Addr) (x y z:Option V),σ=[some (.int fi),some (.int st),some (.ref l),some (.ref r),some (.int (bE fi st i)),x,y,z]/\
   ts.length=i/\H2 r=some (.lst (ts.map V.ref))/\(∀j t,ts[j]?=some t->H2 t=some (.tup ((rowAt fi st ns j).map V.int)))/\aa H H2)
   ⟨[],none,none,none,rfl,rfl,ak,(λj t e=>by simp at e),s0⟩ (λi σ H2 _ ⟨_,_,_,_,_,_,_,_,s2⟩=>s2.seq hS) ?_ ?_⟩
  ·rintro i v σ H2 t hi ht ⟨ts,x,y,z,rfl,tf,h2,h3,s2⟩;obtain⟨c,rfl,hc⟩:=jd hi;have sX:i<ns.length:=(ZL.mp hc).1;have ec:ns.getD i 0=c:=by rw[List.getD,hc];rfl
   have c0:c≠0:=nz c (Y6 hc);have kY:upd H2 t (.tup [.int i,.int c]) r=some (.lst (ts.map V.ref)):=by rw[aj (a9 h2 ht)];exact h2
   have nrt:r≠t:=a9 h2 ht;refine⟨t,_,rfl,aV.of ak,rfl,_,_,rfl,_,_,rfl,rfl,?_⟩;refine⟨_,rfl,_,rfl,_,_,rfl,rfl,?_⟩
   have fin:∀(q:Addr),(upd H2 t (.tup [.int i,.int c])) q=none->∃mR,mR=ts++[q]/\mR.length=i+1/\
     (upd (upd (upd H2 t (.tup [.int i,.int c])) q (.tup ((rowAt fi st ns i).map V.int))) r (.lst (ts.map V.ref++[V.ref q]))) r=some (.lst (mR.map V.ref))/\
     (∀j t',mR[j]?=some t'->(upd (upd (upd H2 t (.tup [.int i,.int c])) q (.tup ((rowAt fi st ns i).map V.int))) r (.lst (ts.map V.ref++[V.ref q]))) t'=some (.tup ((rowAt fi st ns j).map V.int)))/\
     aa H (upd (upd (upd H2 t (.tup [.int i,.int c])) q (.tup ((rowAt fi st ns i).map V.int))) r (.lst (ts.map V.ref++[V.ref q]))):=λq hq=>by
    have nrq:r≠q:=a9 kY hq;refine⟨_,rfl,by simp[tf],by rw[ak,Ze];rfl,λj t' e=>?_,((s2.kF ht).kF hq).upd dG⟩;by_cases hj:j<i
    ·rw[Zs (by omega)]at e;have e3:=h3 j t' e;have n1:t'≠r:=λz=>by rw[z,h2]at e3;cases e3
     have n2:t'≠t:=a9 e3 ht;have n3:t'≠q:=λz=>by rw[z, <-aj (H:=H2) (a:=t) (o:=.tup [.int i,.int c]) (by rw[<-z];exact n2),hq]at e3;cases e3
     rw[aj n1,aj n3,aj n2];exact e3
    ·rw[Zt (by omega)]at e
     have:j=i:=by
      have:=(ZL.mp e).1;simp at this;omega
     subst this;rw[tf,Nat.sub_self]at e;have e':q=t':=by simpa using e
     subst e';rw[aj nrq.symm,ak]
   have len:(ts.map V.ref).length<sizeLine:=bD (by rw[Y1];omega);refine⟨_,rfl,_,_,rfl,rfl,_,rfl,?_⟩;refine bK (λhp=>?_) (λhp=>?_)
   ·have hp:0<c:=of_decide_eq_true hp;refine⟨_,rfl,.inl ⟨rfl,_,ah.of kY⟩,_,rfl,_,rfl,_,_,rfl,rfl,_,rfl,_,rfl,_,rfl,(show 4<=sizeLine by decide),λq hq=>?_⟩;have er:[V.int (-1-(i:Int)),V.int (bE fi st i),V.int c,V.int (fi+i)]=(rowAt fi st ns i).map V.int:=by unfold rowAt;rw[ec,if_pos hp];rfl
    obtain⟨mR,e1,e2,e3,e4,e5⟩:=fin q hq;rw[<-er]at e3 e4 e5;refine⟨r,_,_,rfl,rfl,(by rw[aj (a9 kY hq)];exact kY),len,?_⟩;exact⟨_,rfl,mR,some (.int i),some (.int c),some (.int (fi+i)),by rw[xF];rfl,e2,e3,e4,e5⟩
   ·have hp:¬0<c:=λz=>hp (ZN z);refine⟨_,rfl,.inl ⟨rfl,_,ah.of kY⟩,_,rfl,_,rfl,_,_,rfl,rfl,_,rfl,_,rfl,_,rfl,_,rfl,(show 4<=sizeLine by decide),λq hq=>?_⟩;have er:[V.int (-1-(i:Int)),V.int (fi+i),V.int (-c),V.int (bE fi st i)]=(rowAt fi st ns i).map V.int:=by unfold rowAt;rw[ec,if_neg hp];rfl
    obtain⟨mR,e1,e2,e3,e4,e5⟩:=fin q hq;rw[<-er]at e3 e4 e5;refine⟨r,_,_,rfl,rfl,(by rw[aj (a9 kY hq)];exact kY),len,?_⟩;exact⟨_,rfl,mR,some (.int i),some (.int c),some (.int (fi+i)),by rw[xF];rfl,e2,e3,e4,e5⟩
  ·rintro σ H2 ⟨ts,x,y,z,rfl,tf,h2,h3,s2⟩;rw[Y1]at tf⊢;refine⟨_,rfl,_,rfl,(show 2<=sizeLine by decide),λp hp=>?_⟩;exact k p r ts _ (s2.free hp) dG ak (by rw[aj (a9 h2 hp)];exact h2) tf (λj t e=>by rw[aj (a9 (h3 j t e) hp)];exact h3 j t e) (s2.kF hp)
def tN:aM ["kinds","way","letter"] ["kinds","way"] (aF tO):=aP
def Xi{f cK:Addr}{fd:FuncData}(F:aH K "check_letters" "check_letters" tO f fd)(yF:mg "NoKind"=some (.ref cK))(yG:dB K cK=true)(T:Txt K mg):aA P w K mg base (bH P w) 1 f fd ["kinds","way"] (J5 cK):=by
 refine F.fh tN (λvs H Q E h=>?_) (λau A outer s H vs Q E hr h=>?_)
 ·obtain⟨k,wa,ws,rfl,_⟩:=h
  rfl
 ·obtain⟨k,wa,ws,rfl,hw,q,qe⟩:=h;refine⟨_,(@sO _ _ _ (cb (FC rfl rfl) rfl (bW (pv 1)) (aT (i:=2) tN.nd rfl (Or.inl rfl)) (@sO _ _ _ (aY (PW.pt (iF (aK cG (pv 2) af (aI _)) (iA (aK gX (bB GA (by rfl) T.abs JM (@aC _ _ _ _ _ (pv 2) ae (by rfl))) (pv 0) (aI _))))) (@sO _ _ _ (jK rfl rfl yF yG (aq gD ae))) a7)))),?_⟩;refine⟨_,rfl,wa,rfl,⟨_,ah.of hw⟩,dS (K:=K) (a:=wa) (xs:=ws.map V.int) (λi σ H2=>(∃x,σ=[some (.int k),some (.ref wa),x])/\H2=H/\∀l∈ws.take i,Let k l) ⟨⟨none,rfl⟩,rfl,by simp⟩ (λi σ H2 _ ⟨_,e,_⟩=>by rw[e];exact ah.of hw) ?_ ?_⟩
  ·rintro i x σ H2 hi ⟨⟨y,rfl⟩,rfl,hl⟩;obtain⟨l,rfl,el⟩:=jd hi;have bN:i<ws.length:=(ZL.mp el).1;have ei:ws[i]=l:=(ZL.mp el).2;refine⟨_,rfl,rfl,_,rfl,bK (λz=>?_) λz=>⟨_,rfl,_,rfl,_,rfl,_,_,rfl,rfl,_,rfl,bK (λy=>?_) λy=>?_⟩⟩
   ·have z:=V.int.inj (of_decide_eq_true z);exact⟨by decide,qe λh=>(h l (Y6 el)).1 z⟩
   ·have y:=of_decide_eq_true y;exact⟨by decide,qe λh=>by have:=h l (Y6 el);obtain⟨_,a,b⟩:=this;split at y<;>omega⟩
   ·have z:¬l=0:=λw=>z (ZN (by rw[w]));have y:¬_:=λw=>y (ZN w);refine⟨⟨_,rfl⟩,rfl,λl' dq=>?_⟩;rw[Zj bN,ei]at dq;rcases Y7.mp dq with e|e
    ·exact hl l' e
    ·rw[Y2.mp e];refine⟨z,?_,?_⟩<;>(split at y<;>omega)
  ·rintro σ H2 ⟨⟨y,rfl⟩,rfl,hl⟩;rw[Y1,List.take_length]at hl;exact q hl
def Q4:aM ["entries"] ["entries"] (aF ye):=aP
def Sr{f C:Addr}{fd:FuncData}(F:aH K "rows_of" "rows_of" ye f fd)(aw:dC K mg C):aA P w K mg base aN 1 f fd ["entries"] mY:=by
 obtain⟨_,rT⟩:=aw.row;refine F.ok Q4 (λvs H Q E h=>?_) (λau A outer s H vs Q E hr h=>?_)
 ·obtain⟨l,fp,es,rfl,_⟩:=h
  rfl
 ·obtain⟨l,fp,es,rfl,he,hl,q⟩:=h;obtain⟨ps,h1,h2,h3,h4,h5⟩:=he.ob;have lp:ps.length=es.length:=by rw[<-h3,Y1]
  refine⟨_,(@sO _ _ _ (@sR _ _ _ _ (Fw [] [] (bW (pv 0)) (λC s H fp=>aK cG (av (show e9 _ (cY (fH K))from bu) (pv 0) af (λ_ _=>rfl)) (iy (v:=.str "row") rfl rT ⟨_,rfl⟩) (aI _)) (λC s H fp=>cD (aq (av (show e9 _ (cY (fH K))from bu) (pv 0) af (λ_ _=>rfl)) (aq (av (show e9 _ (cY (fH K))from bu) (pv 0) af (λ_ _=>rfl)) (aq (av (show e9 _ (cY (fH K))from bu) (pv 0) af (λ_ _=>rfl)) (aq (av (show e9 _ (cY (fH K))from bu) (pv 0) af (λ_ _=>rfl)) ae))))) kq))),?_⟩;refine⟨_,rfl,l,rfl,⟨_,ah.of h1⟩,xG (xs:=ps.map λp=>V.ref p.1) λD hD=>⟨λi ys H2=>∃qs:Ps,ys=(qs.map λp=>V.ref p.1)/\qs.length<=i/\Tl H2 D qs/\qs.map (·.2)=rowsOf ((ps.take i).map (·.2))/\aa H H2,⟨[],rfl,Y3 _,⟨ak,(λ_ z=>nomatch z)⟩,rfl,(aa.refl H).upd hD⟩,?_,?_,?_⟩⟩
  ·rintro i ys H2 hi ⟨qs,rfl,ql,tl,_,s2⟩;rw[Y1]at hi;exact⟨s2.seq (ah.of h1),tl.is,bD (by rw[Y1];omega)⟩
  ·rintro i x ys H2 hi ⟨qs,rfl,ql,tl,er,s2⟩ Q1 Q0 q1 q0;rw[Zf]at hi;cases ei:ps[i]? with
   |none=>rw[ei]at hi;cases hi
   |some p=>
    rw[ei]at hi;cases hi;obtain⟨bN,mJ⟩:=ZL.mp ei;have hp:=s2 _ _ (h2 p (Y6 ei));have et:(ps.take (i+1)).map (·.2)=(ps.take i).map (·.2)++[p.2]:=by rw[Zj bN,mJ,Ze];rfl
    obtain⟨pa,pe⟩:=p;cases pe with
    |row j a k b=>
     refine⟨_,rfl,cC hp rfl ⟨rfl,_,rfl,jm (by decide+kernel) ?_⟩⟩;refine⟨_,rfl,cC hp rfl ⟨_,rfl,cC hp rfl ⟨_,rfl,cC hp rfl ⟨_,rfl,cC hp rfl ⟨by show 4<=sizeLine;decide,λt ht=>?_⟩⟩⟩⟩⟩;have nD:D≠t:=a9 tl.is ht;refine q1 _ _ (by rw[aj nD];exact tl.is) ⟨qs++[(t,[j,a,k,b])],by rw[Ze];rfl,by simp;omega,?_,?_,(s2.kF ht).upd hD⟩
     ·refine⟨by rw[ak,Ze];rfl,λp j6=>?_⟩;rcases Y7.mp j6 with e|e
      ·have:=tl.tp p e;have n1:p.1≠D:=λz=>by rw[z,tl.is]at this;cases this
       rw[aj n1,aj (a9 this ht)];exact this
      ·obtain rfl:=Y2.mp e;show upd _ D _ t=_;rw[aj nD.symm,ak];rfl
     ·rw[et,oR,Ze,er];rfl
    |ap j a b=>
     refine⟨_,rfl,cC hp rfl ⟨rfl,_,rfl,cy (by decide+kernel) ?_⟩⟩;refine q0 _ ⟨qs,rfl,by omega,tl,?_,s2⟩;rw[et,oR,er];exact(ZX _).symm
  ·rintro ys H2 ⟨qs,rfl,ql,tl,er,s2⟩;rw[Y1,ZE (Y3 _),h3]at er;exact q D qs H2 hD tl er s2
def D4:aM ["entries","labels","entry"] ["entries","labels"] (aF xi):=aP
def aac{f C:Addr}{fd:FuncData}(F:aH K "broken_oath" "broken_oath" xi f fd)(aw:dC K mg C):aA P w K mg base aN 1 f fd ["entries","labels"] Ak:=by
 obtain⟨_,BX⟩:=aw.ap;refine F.ok D4 (λvs H Q E h=>?_) (λau A outer s H vs Q E hr h=>?_)
 ·obtain⟨l,ll,fp,es,ls,k,rfl,_⟩:=h
  rfl
 ·obtain⟨l,ll,fp,es,ls,k,rfl,he,ka,ao,q⟩:=h;obtain⟨ps,h1,h2,h3,h4,h5⟩:=he.ob
  refine⟨_,(@sC _ _ _ _ _ (cb Zm rfl (bW (pv 0)) (aT (i:=2) D4.nd rfl (Or.inl rfl)) (@sO _ _ _ (aY (PW.pt (rh (aK cG (av bu (pv 2) af (λ_ _=>rfl)) (iy (v:=.str "apart") rfl BX ⟨_,rfl⟩) (aI _)) (qO (aK cG (av aJ (pv 1) (av bu (pv 2) af (λ_ _=>rfl)) (λ_ _=>rfl)) (av aJ (pv 1) (av bu (pv 2) af (λ_ _=>rfl)) (λ_ _=>rfl)) (aI _))))) (@sO _ _ _ (@sR _ _ _ _ (av bu (pv 2) af (λ_ _=>rfl)))) a7)))
   (@sO _ _ _ (@sR _ _ _ _ c8))),?_⟩
  refine⟨_,rfl,l,rfl,⟨_,ah.of h1⟩,dS (K:=K) (a:=l) (xs:=ps.map λp=>V.ref p.1) (λi σ H2=>(∃x,σ=[some (.ref l),some (.ref ll),x])/\H2=H/\cw es ls=cw ((ps.drop i).map (·.2)) ls) ⟨⟨none,rfl⟩,rfl,by rw[List.drop_zero,h3]⟩ (λi σ H2 _ ⟨_,e,_⟩=>by rw[e];exact ah.of h1) ?_ ?_⟩
  ·rintro i x σ H2 hi ⟨⟨y,rfl⟩,rfl,eb⟩;rw[Zf]at hi;cases ei:ps[i]? with
   |none=>rw[ei]at hi;cases hi
   |some p=>
    rw[ei]at hi;cases hi;obtain⟨bN,mJ⟩:=ZL.mp ei;have mp:=Y6 ei;have hp:=h2 p mp;have ok:=ao p.2 (h3▸Zh.mpr ⟨p,mp,rfl⟩);rw[List.drop_eq_getElem_cons bN,mJ,Zr]at eb;obtain⟨pa,pe⟩:=p;cases pe with
    |row j a k b=>
     refine⟨_,rfl,cC hp rfl ⟨rfl,_,rfl,cy (by decide+kernel) ⟨⟨_,rfl⟩,rfl,eb⟩⟩⟩
    |ap j a b=>
     obtain⟨⟨a0,a1⟩,⟨b0,b1⟩⟩:=ok;refine⟨_,rfl,cC hp rfl ⟨rfl,_,rfl,jm (by decide+kernel) ?_⟩⟩;refine⟨_,rfl,_,rfl,cC hp rfl (aU a.toNat ka (by omega) ⟨_,rfl,_,rfl,cC hp rfl (aU b.toNat ka (by omega) ⟨rfl,_,rfl,?_⟩ (by omega))⟩ (by omega))⟩
     have eb:cw es ls=if ls.getD a.toNat 0=ls.getD b.toNat 0 then some j else cw ((ps.drop (i+1)).map (·.2)) ls:=by
      rw[eb];exact ya ..
     by_cases z:ls.getD a.toNat 0=ls.getD b.toNat 0
     ·rw[if_pos z]at eb;rw[eb]at q;exact jm (ZN (by rw[z])) ⟨_,rfl,cC hp rfl q⟩
     ·rw[if_neg z]at eb;exact cy (ZO λy=>z (V.int.inj y)) ⟨⟨_,rfl⟩,rfl,eb⟩
  ·rintro σ H2 ⟨⟨y,rfl⟩,rfl,eb⟩;rw[Y1,List.drop_length]at eb;rw[eb]at q;exact q
def OM:aM ["self"] ["self"] (aF wL):=aP
def Ss{f C cF:Addr}{fd:FuncData}(F:aH K "chalk" "Survey.chalk" wL f fd)(zU:mg "Full"=some (.ref cF))(zV:dB K cF=true)(aw:dC K mg C):aA P w K mg base (bH P w) 1 f fd ["self"] (yu C cF):=by
 obtain⟨_,h24⟩:=aw.vB;refine F.fh OM (λvs H Q E h=>?_) (λau A outer s H vs Q E hr h=>?_)
 ·obtain⟨g,lh,B,rest,rfl,_⟩:=h
  rfl
 ·obtain⟨g,lh,B,rest,rfl,hB,q,qe⟩:=h;obtain⟨dx,ls,hg,he⟩:=id hB.ob
  refine⟨_,(@sC _ _ _ _ _ (aY (aK pC (aO (pv 0) rfl) (iy (v:=.int 24) rfl h24 ⟨_,rfl⟩) (aI _)) (@sO _ _ _ (jK rfl rfl zU zV (aq gD ae))) a7)
   (@sC _ _ _ _ _ (E8 (pv 0) af JA)
   (@sO _ _ _ (@sR _ _ _ _ (ay gV (aO (pv 0) rfl) af))))),?_⟩
  refine⟨_,rfl,g,C,dx,_,_,rfl,hg,aw.cl,aw.nn,ju ..,_,_,rfl,rfl,_,rfl,bK (λz=>⟨by decide,qe (by have:=of_decide_eq_true z;omega)⟩) λz=>?_⟩;have z:¬_:=λy=>z (ZN y);have lt:B.n<24:=by omega
  refine⟨_,rfl,g,C,dx,_,_,rfl,hg,aw.cl,aw.nn,ju ..,_,_,rfl,rfl,dx,_,hg,(by show 5<1000;decide),?_⟩;rw[show(B.n:Int)+1=((B.n+1:Nat):Int)from rfl,KY];have jE:=hB.fld (B':={B with n:=B.n+1}) hg he rfl rfl lt hB.cu λe h=>(hB.ok e h).mono (Nat.le_succ _);refine⟨_,rfl,g,C,dx,_,_,rfl,ak,aw.cl,aw.nn,ju ..,_,_,rfl,rfl,?_⟩;show Q (V.int (((B.n+1:Nat):Int)-1)) _;rw[show((B.n+1:Nat):Int)-1=(B.n:Int)by omega];exact q lt _ jE λc o e nc=>by rw[aj nc];exact e
def DP:aM ["self","a","b","mark"] ["self","a","b"] (aF wA):=aP
def Xj{f C cM:Addr}{fd:FuncData}(F:aH K "check_marks" "Survey.check_marks" wA f fd)(U6:mg "NoMark"=some (.ref cM))(U7:dB K cM=true)(aw:dC K mg C):aA P w K mg base (bH P w) 1 f fd ["self","a","b"] (rC C cM):=by
 refine F.fh DP (λvs H Q E h=>?_) (λau A outer s H vs Q E hr h=>?_)
 ·obtain⟨g,lh,B,rest,a,b,rfl,_⟩:=h
  rfl
 ·obtain⟨g,lh,B,rest,a,b,rfl,hB,q,qe⟩:=h;obtain⟨dx,ls,hg,he⟩:=id hB.ob;refine⟨_,(@sO _ _ _ (cb (FC rfl rfl) rfl (zp (cD (@aC _ _ _ _ _ (pv 1) (@aC _ _ _ _ _ (pv 2) ae (by rfl)) (by rfl)))) (aT (i:=3) DP.nd rfl (Or.inl rfl)) (@sO _ _ _ (aY (PW.pt (iF (aK gG (pv 3) af (aI _)) (iA (aK pC (pv 3) (aO (pv 0) rfl) (aI _))))) (@sO _ _ _ (jK rfl rfl U6 U7 (aq gD ae))) a7)))),?_⟩;refine⟨_,rfl,_,rfl,by show 2<=sizeLine;decide,λt ht=>?_⟩;have s1:aa H (upd H t (.tup [.int a,.int b])):=(aa.refl H).upd ht;have h1:upd H t (.tup [.int a,.int b]) t=some (.tup [.int a,.int b]):=ak;generalize upd H t (.tup [.int a,.int b])=H1 at s1 h1;have c7:=s1 _ _ hg;refine⟨t,rfl,⟨_,aV.of h1⟩,HV (K:=K) (a:=t) (xs:=[.int a,.int b]) (λi σ H2=>(∃x,σ=[some (.ref g),some (.int a),some (.int b),x])/\H2=H1/\(1<=i->aB B.n a)/\(2<=i->aB B.n b)) ⟨⟨none,rfl⟩,rfl,(λz=>by omega),(λz=>by omega)⟩ (λi σ H2 _ ⟨_,e,_⟩=>by rw[e];exact aV.of h1) ?_ ?_⟩
  ·rintro i x σ H2 hi ⟨⟨y,rfl⟩,rfl,i1,i2⟩
   obtain⟨m,rfl,vi,ab9⟩:∃m:Int,x=V.int m/\(¬aB B.n m->¬(aB B.n a/\aB B.n b))/\(aB B.n m->(1<=i+1->aB B.n a)/\(2<=i+1->aB B.n b)):=by
    match i,hi with
    |0,hi=>exact⟨a,(Zg hi).symm,(λh z=>h z.1),λh=>⟨λ_=>h,λz=>by omega⟩⟩
    |1,hi=>exact⟨b,(Zg hi).symm,(λh z=>h z.2),λh=>⟨λ_=>i1 (by omega),λ_=>h⟩⟩
   refine⟨_,rfl,_,_,rfl,rfl,_,rfl,bK (λz=>⟨by decide,qe (vi λy=>by have:=of_decide_eq_true z;have:=y.1;omega) _ s1⟩) λz=>⟨_,rfl,_,rfl,g,C,dx,_,_,rfl,c7,aw.cl,aw.nn,ju ..,_,_,rfl,rfl,_,rfl,bK (λy=>⟨by decide,qe (vi λw=>by have:=of_decide_eq_true y;have:=w.2;omega) _ s1⟩) λy=>?_⟩⟩;have z:¬_:=λw=>z (ZN w);have y:¬_:=λw=>y (ZN w);exact⟨⟨_,rfl⟩,rfl,ab9 ⟨by omega,by omega⟩⟩
  ·rintro σ H2 ⟨⟨y,rfl⟩,rfl,i1,i2⟩;exact q ⟨i1 (by show 1<=2;decide),i2 (by show 2<=2;decide)⟩ _ s1
def Ow:aM ["self"] ["self"] (aF wC):=aP
def Xk{f C cF:Addr}{fd:FuncData}(F:aH K "check_room" "Survey.check_room" wC f fd)(zU:mg "Full"=some (.ref cF))(zV:dB K cF=true)(T:Txt K mg)(aw:dC K mg C):aA P w K mg base (bH P w) 1 f fd ["self"] (zL C cF):=by
 obtain⟨_,h40⟩:=aw.m40;refine F.fh Ow (λvs H Q E h=>?_) (λau A outer s H vs Q E hr h=>?_)
 ·obtain⟨g,lh,B,rest,rfl,_⟩:=h
  rfl
 ·obtain⟨g,lh,B,rest,rfl,hB,q,qe⟩:=h;obtain⟨dx,ls,hg,he⟩:=id hB.ob;obtain⟨ps,h1,h2,h3,h4,h5⟩:=he.ob;have lp:((ps.map λp=>V.ref p.1).length:Int)=B.es.length:=by rw[Y1, <-h3,Y1]
  refine⟨_,(@sO _ _ _ (aY (aK pC (bB cA (by rfl) T.len PySem.boot_len (@aC _ _ _ _ _ (aO (pv 0) rfl) ae (by rfl))) (iy (v:=.int 40) rfl h40 ⟨_,rfl⟩) (aI _)) (@sO _ _ _ (jK rfl rfl zU zV (aq gD ae))) a7)),?_⟩;refine⟨_,rfl,g,C,dx,_,_,rfl,hg,aw.cl,aw.ns,iM ..,ls,_,rfl,.inl (ah.of h1),_,_,rfl,rfl,_,rfl,?_⟩;refine bK (λz=>⟨by decide,qe (by have:=of_decide_eq_true z;rw[lp]at this;omega)⟩) λz=>?_;have z:¬_:=λy=>z (ZN y);exact q (by rw[lp]at z;omega)
def D0:aM ["self","told","number"] ["self","told"] (aF wU):=aP
def U8{f C:Addr}{fd:FuncData}(F:aH K "enter" "Survey.enter" wU f fd)(aw:dC K mg C):aA P w K mg base aN 1 f fd ["self","told"] (y4 C):=by
 refine F.ok D0 (λvs H Q E h=>?_) (λau A outer s H vs Q E hr h=>?_)
 ·obtain⟨g,lh,B,rest,t,e,rfl,_⟩:=h
  rfl
 ·obtain⟨g,lh,B,rest,t,e,rfl,hB,ht,jG,cu,q⟩:=h;obtain⟨dx,ls,hg,he⟩:=id hB.ob;obtain⟨ps,h1,h2,h3,h4,h5⟩:=id he.ob;have lp:ps.length=B.es.length:=by rw[<-h3,Y1]
  refine⟨_,(@sC _ _ _ _ _ (@sS _ 2 _ _ _ _ _ D0.nd rfl (Or.inl rfl) (aO (pv 0) rfl) (by rfl) (.inl rfl))
   (@sC _ _ _ _ _ (eO (pv 0) (ay ko (aO (pv 0) rfl) (@eL _ _ _ _ (@aC _ _ _ _ _ (ay Ib (cD (aq (pv 2) ae)) (pv 1)) ae (by rfl)))) rfl)
   (@sC _ _ _ _ _ (E8 (pv 0) af JA)
   (@sO _ _ _ (@sR _ _ _ _ (pv 2)))))),?_⟩
  refine⟨_,rfl,g,C,dx,_,_,rfl,hg,aw.cl,aw.nc,uV ..,?_⟩;refine⟨_,rfl,g,C,dx,_,_,rfl,hg,aw.cl,aw.ns,iM ..,_,rfl,by show 1<=sizeLine;decide,λp1 jD=>?_⟩;have s1:aa H (upd H p1 (.tup [.int B.c])):=(aa.refl H).upd jD;have i1:upd H p1 (.tup [.int B.c]) p1=some (.tup [.int B.c]):=ak;generalize upd H p1 (.tup [.int B.c])=H1 at s1 i1
  have tl:1+e.told.length<=sizeLine/\e.told≠[]:=by
   cases e with
   |row=>exact⟨by show 1+4<=sizeLine;decide,(λz=>nomatch z)⟩
   |ap=>exact⟨by show 1+3<=sizeLine;decide,(λz=>nomatch z)⟩
  refine⟨_,rfl,p1,t,_,_,rfl,rfl,aV.of i1,aV.of (s1 _ _ ht),(λz=>nomatch z),tl.1,λz=>absurd z tl.2,λ_ p2 gK=>?_⟩;have ev:[V.int B.c]++e.told=(e.re B.c).vs:=by cases e<;>rfl
  rw[ev];have s2:aa H1 (upd H1 p2 (.tup (e.re B.c).vs)):=(aa.refl H1).upd gK;have i2:upd H1 p2 (.tup (e.re B.c).vs) p2=some (.tup (e.re B.c).vs):=ak;generalize upd H1 p2 (.tup (e.re B.c).vs)=H2 at s2 i2;refine jg (by show 1<=1000;decide) λp3 H3 hp3 i3 s3=>?_;have cZ:=s1.trans (s2.trans s3);refine yZ (cZ _ _ h1) i3 (by rw[Y1,lp];show B.es.length+1<=_;omega) λp4 H4 hp4 i4 s4=>?_;have eF:=cZ.trans s4;have n4:H p4=none:=cZ.free hp4;have n2:H p2=none:=s1.free gK;have g2:p2≠g:=λz=>by rw[z,hg]at n2;cases n2
  have g4:p4≠g:=λz=>by rw[z,hg]at n4;cases n4
  have l2:p2≠lh:=λz=>hB.lg.1 (z▸n2);have l4:p4≠lh:=λz=>hB.lg.1 (z▸n4);have sub:∀a∈rest,a∈p4::p2::rest:=λa ha=>Y4 _ (Y4 _ ha)
  have vH:lh∉p4::p2::rest:=λz=>by
   rcases Y5.mp z with z|z
   ·exact l4 z.symm
   rcases Y5.mp z with z|z
   ·exact l2 z.symm
   ·exact hB.nl z
  have ng':g∉p4::p2::rest:=λz=>by
   rcases Y5.mp z with z|z
   ·exact g4 z.symm
   rcases Y5.mp z with z|z
   ·exact g2 z.symm
   ·exact hB.ng z
  have lv':∀a∈p4::p2::rest,∃o,H4 a=some o:=λa ha=>by
   rcases Y5.mp ha with z|z
   ·exact⟨_,z▸i4⟩
   rcases Y5.mp z with z|z
   ·exact⟨_,z▸s4 _ _ (s3 _ _ i2)⟩
   ·obtain⟨o,e⟩:=hB.lv a z;exact⟨o,eF _ _ e⟩
  have fV:=(hB.same eF).more sub vH ng' lv';have qp:=eF _ _ hg
  have lb:El H4 (p4::p2::rest) p4 (B.add e).es:=by
   refine⟨ps++[(p2,e.re B.c)],by rw[Ze];exact i4,λp hp=>?_,by rw[Ze,h3];rfl,Y9 ..,λp hp=>?_⟩
   ·rcases Y7.mp hp with z|z
    ·exact eF _ _ (h2 p z)
    ·rw[Y2.mp z];exact s4 _ _ (s3 _ _ i2)
   ·rcases Y7.mp hp with z|z
    ·exact sub _ (h5 p z)
    ·rw[Y2.mp z];exact Y4 _ (Y9 ..)
  have lad:(B.add e).es.length<=40:=by show(B.es++[e.re B.c]).length<=40;simp;omega
  have oka:∀x∈(B.add e).es,b3 (B.add e).k (B.add e).n x:=λx hx=>by
   rcases Y7.mp (show x∈B.es++[e.re B.c]from hx)with z|z
   ·exact hB.ok x z
   ·rw[Y2.mp z];cases e<;>exact jG
  refine⟨_,rfl,g,C,dx,_,rfl,qp,aw.cl,aw.ns,(by show 5<1000;decide),?_⟩;rw[Aj];refine⟨_,rfl,g,C,dx,_,_,rfl,ak,aw.cl,aw.nc,uV ..,_,_,rfl,rfl,dx,_,ak,(by show 5<1000;decide),?_⟩;rw[KZ,kh];have oF:=fV.fld (B':=B.add e) qp lb rfl rfl hB.bM lad oka;refine⟨_,rfl,q _ _ oF (λx hx=>?_) λc o e' nc=>by rw[aj nc];exact eF _ _ e'⟩;rcases Y5.mp hx with z|z
  ·rw[z];exact .inr n4
  rcases Y5.mp z with z|z
  ·rw[z];exact .inr n2
  ·exact .inl z
def wW:aM ["self","a","way","b","rows","end"] ["self","a","way","b"] (aF xf):=aP
def U9{f C cM cK:Addr}{fd:FuncData}(F:aH K "laid" "Survey.laid" xf f fd)(aw:dC K mg C)(CM:bO P w K mg base C "check_marks" ["self","a","b"] 1 (rC C cM))(CL:qa P w K mg base "check_letters" ["kinds","way"] 1 (J5 cK))
  (TRL:bj P w K mg base "trail" ["first","a","way"] 1 (ID K))(RW:bj P w K mg base "rows_of" ["entries"] 1 mY):aA P w K mg base (bH P w) 2 f fd ["self","a","way","b"] (y9 C cM cK):=by
 refine F.fh wW (λvs H Q E h=>?_) (λau A outer s H vs Q E hr h=>?_)
 ·obtain⟨g,lh,B,rest,a,b,wa,ws,rfl,_⟩:=h
  rfl
 ·obtain⟨g,lh,B,rest,a,b,wa,ws,rfl,hB,hw,wl,q,qm,qk⟩:=h;obtain⟨dx,ls,hg,he⟩:=id hB.ob
  refine⟨_,(@sC _ _ _ _ _ (bF (CM.pe hr (pv 0) (@aC _ _ _ _ _ (pv 1) (@aC _ _ _ _ _ (pv 3) ae (by rfl)) (by rfl))))
   (@sC _ _ _ _ _ (bF (CL.pe hr (@aC _ _ _ _ _ (aO (pv 0) rfl) (@aC _ _ _ _ _ (pv 2) ae (by rfl)) (by rfl))))
   (@sC _ _ _ _ _ (gE (TRL.pe hr (@aC _ _ _ _ _ (aO (pv 0) rfl) (@aC _ _ _ _ _ (pv 1) (@aC _ _ _ _ _ (pv 2) ae (by rfl)) (by rfl)) (by rfl))) (eM rfl (bA (aT (i:=4) wW.nd rfl (Or.inl rfl)) (bA (aT (i:=5) wW.nd rfl (Or.inl rfl)) eJ))))
   (@sO _ _ _ (@sR _ _ _ _ (cD (@aC _ _ _ _ _ (ay ko (RW.pe hr (@aC _ _ _ _ _ (aO (pv 0) rfl) ae (by rfl))) (pv 4)) (@aC _ _ _ _ _ (pv 5) ae (by rfl)) (by rfl)))))))),?_⟩
  refine⟨_,rfl,g,dx,_,rfl,hg,rfl,_,rfl,_,rfl,g,lh,B,rest,a,b,rfl,hB,λhm H1 s1=>?_,qm⟩;refine⟨_,rfl,g,C,dx,_,_,rfl,s1 _ _ hg,aw.cl,aw.nk,AW ..,_,rfl,B.k,wa,ws,rfl,s1.ints hw,λhl=>?_,λhl=>qk hm hl H1 s1⟩;refine⟨_,rfl,g,C,dx,_,_,rfl,s1 _ _ hg,aw.cl,aw.nn,ju ..,_,rfl,_,rfl,(B.n:Int),a,wa,ws,rfl,ah.of (s1.ints hw),by omega,(λl dq=>(hl l dq).1),λp r ts H2 hp fS ip ir lts ht s2=>?_⟩;obtain⟨M5,t2,e2⟩:=UE ir lts ht;refine⟨p,_,rfl,aV.of ip,rfl,_,_,rfl,_,_,rfl,rfl,?_⟩;have bV:=s1.trans s2;refine⟨_,rfl,g,C,dx,_,_,rfl,bV _ _ hg,aw.cl,aw.ns,iM ..,ls,rest,B.es,rfl,he.same bV,by have:=hB.cu;omega,λr1 mS H3 M6 t1 e1 s3=>?_⟩;have l1:=mZ e1;have l2:=mZ e2;have:=oU B.es;have:=hB.cu;rw[qE]at l2;refine⟨_,rfl,yZ t1.is (s3 _ _ t2.is) (by rw[Y1,Y1];omega) λr4 H4 hr4 i4 s4=>?_⟩;have t4:Tl H4 r4 (mS++M5):=Tl.cat t1 (t2.same s3) s4 i4;refine⟨_,rfl,by show 2<=sizeLine;decide,λt n8=>?_⟩;have s5:aa H4 (upd H4 t (.tup [.ref r4,.int (bE B.n a ws.length)])):=(aa.refl H4).upd n8;exact q hm hl t r4 (mS++M5) _ ak (t4.same s5) (by rw[Ze,e1,e2]) (bV.trans (s3.trans (s4.trans s5)))
def qA:aM ["self","a","way","b","rows","end","labels","paper"] ["self","a","way","b"] (aF wB):=aP
def Va{f C cM cK:Addr}{fd:FuncData}(F:aH K "must_paper" "Survey.must_paper" wB f fd)(T:Txt K mg)(aw:dC K mg C)(BY:bO P w K mg base C "laid" ["self","a","way","b"] 2 (y9 C cM cK))(FO:bj P w K mg base "folded" ["marks","rows","start"] 6 qW):
  aA P w K mg base (bH P w) 7 f fd ["self","a","way","b"] (za C cM cK):=by
 refine F.fh qA (λvs H Q E h=>?_) (λau A outer s H vs Q E hr h=>?_)
 ·obtain⟨g,lh,B,rest,a,b,wa,ws,rfl,_⟩:=h
  rfl
 ·obtain⟨g,lh,B,rest,a,b,wa,ws,rfl,hB,hw,wl,q,q0,qm,qk⟩:=h;obtain⟨dx,ls,hg,he⟩:=id hB.ob;have bM:=hB.bM
  refine⟨_,(@sC _ _ _ _ _ (gE (BY.pe hr (pv 0) (@aC _ _ _ _ _ (pv 1) (@aC _ _ _ _ _ (pv 2) (@aC _ _ _ _ _ (pv 3) ae (by rfl)) (by rfl)) (by rfl))) (eM rfl (bA (aT (i:=4) qA.nd rfl (Or.inl rfl)) (bA (aT (i:=5) qA.nd rfl (Or.inl rfl)) eJ))))
   (@sC _ _ _ _ _ (gE (FO.pe hr (@aC _ _ _ _ _ (ay cQ (aO (pv 0) rfl) (bB cA (by rfl) T.len PySem.boot_len (@aC _ _ _ _ _ (pv 2) ae (by rfl)))) (@aC _ _ _ _ _ (pv 4) (@aC _ _ _ _ _ (dU ae) ae (by rfl)) (by rfl)) (by rfl))) (eM rfl (bA (aT (i:=6) qA.nd rfl (Or.inl rfl)) (bA (aT (i:=7) qA.nd rfl (Or.inl rfl)) eJ))))
   (@sC _ _ _ _ _ (aY (aK rD (av aJ (pv 6) (pv 5) (λ_ _=>rfl)) (av aJ (pv 6) (pv 3) (λ_ _=>rfl)) (aI _)) (@sO _ _ _ (@sR _ _ _ _ c8)) a7)
   (@sO _ _ _ (@sR _ _ _ _ (pv 7)))))),?_⟩
  refine⟨_,rfl,g,dx,_,rfl,hg,rfl,_,rfl,_,rfl,_,rfl,g,lh,B,rest,a,b,wa,ws,rfl,hB,hw,wl,λhm hl t r ps H1 ht tr er s1=>?_,qm,qk⟩;refine⟨t,_,rfl,aV.of ht,rfl,_,_,rfl,_,_,rfl,rfl,?_⟩;refine⟨_,rfl,g,C,dx,_,_,rfl,s1 _ _ hg,aw.cl,aw.nn,ju ..,_,rfl,wa,_,rfl,.inl (ah.of (s1.ints hw)),_,_,rfl,rfl,_,rfl,jg (by show 0<=1000;decide) λl0 H2 qq i0 s2=>?_⟩;have t2:=tr.same s2;have en:((B.n:Int)+((ws.map V.int).length:Int))=((B.n+ws.length:Nat):Int):=by rw[Y1];rfl
  have mP:∀r∈rowsOf B.es++c9 B.n a ws,b8 (B.n+ws.length) r/\1<=r.getD 2 0/\r.getD 2 0<=5:=λr fS=>by
   rcases Y7.mp fS with z|z
   ·exact jI hB.k5 (λe h=>(hB.ok e h).mono (Nat.le_add_right _ _)) r z
   ·exact yb hm.1 hB.k5 hl r z
  have BZ:=mZ er;have:=oU B.es;have:=hB.cu;rw[Zo,qE]at BZ;refine⟨B.n+ws.length,r,l0,ps,[],by show [V.int ((B.n:Int)+((ws.map V.int).length:Int)),_,_]=_;rw[en],t2,⟨i0,(λ_ z=>nomatch z)⟩,qK er mP,(λ_ z=>nomatch z),by omega,by omega,by simp,λt3 l1 l2 sp l H3 h3 i3 tl3 fL hp k8 _ f2 s3=>?_⟩;rw[er]at fL;have el:l=B.jv a ws:=fL.eq;have ll:l.length=B.n+ws.length:=fL.1.aG.len;refine⟨t3,_,rfl,aV.of h3,rfl,_,_,rfl,_,_,rfl,rfl,?_⟩;obtain⟨e0,e1⟩:=tW hm.1 ws.length ws.length (Y3 _);obtain⟨b0,b1⟩:=hm.2;refine⟨_,rfl,_,rfl,aU (bE B.n a ws.length).toNat i3 (by omega) ⟨_,rfl,_,rfl,aU b.toNat i3 (by omega) ⟨rfl,_,rfl,?_⟩ (by omega)⟩ (by omega)⟩;have cZ:=s1.trans (s2.trans s3);by_cases z:l.getD (bE B.n a ws.length).toNat 0=l.getD b.toNat 0
  ·refine cy (by rw[z];simp) ⟨_,rfl,?_⟩;rw[el]at z;refine q hm hl z l2 sp ps H3 tl3 er (λu=>?_) k8 ((s1.trans s2).free f2) cZ;have:=hp u;rw[el]at this;exact this
  ·refine jm (by rw[ZO (λy=>z (V.int.inj y))];rfl) ?_;rw[el]at z;exact q0 hm hl z H3 cZ
def ON:aM ["self","a","b"] ["self","a","b"] (aF wO):=aP
def Xl{f C cM cK:Addr}{fd:FuncData}(F:aH K "paper" "Survey.paper" wO f fd)(MP:bO P w K mg base C "must_paper" ["self","a","way","b"] 7 (za C cM cK)):aA P w K mg base (bH P w) 8 f fd ["self","a","b"] (J6 C cM):=by
 refine F.fh ON (λvs H Q E h=>?_) (λau A outer s H vs Q E hr h=>?_)
 ·obtain⟨g,lh,B,rest,a,b,rfl,_⟩:=h
  rfl
 ·obtain⟨g,lh,B,rest,a,b,rfl,hB,q,q0,qm⟩:=h;obtain⟨dx,ls,hg,he⟩:=id hB.ob;refine⟨_,(@sO _ _ _ (@sR _ _ _ _ (MP.pe hr (pv 0) (@aC _ _ _ _ _ (pv 1) (@aC _ _ _ _ _ (dU ae) (@aC _ _ _ _ _ (pv 2) ae (by rfl)) (by rfl)) (by rfl))))),?_⟩;refine⟨_,rfl,g,dx,_,rfl,hg,rfl,_,rfl,lP [] λl0 H1 qq i0 s1=>⟨_,rfl,?_⟩⟩;refine⟨g,lh,B,rest,a,b,l0,[],rfl,hB.same s1,i0,by simp,λhm _ z l2 sp ps H2 t2 er hp k8 f2 s2=>?_,λhm _ z H2 s2=>?_,λhm H2 s2=>qm hm H2 (s1.trans s2),λ_ z=>absurd (λ_ y=>nomatch y) z⟩
  ·rw[B.G8]at z hp;refine q hm z l2 sp ps H2 t2 (by rw[er];exact ZX _) (λu=>hp u) k8 (s1.free f2) (s1.trans s2)
  ·rw[B.G8]at z;exact q0 hm z H2 (s1.trans s2)
def OV:aM ["self","a","b"] ["self","a","b"] (aF xc):=aP
def Vb{f C cM:Addr}{fd:FuncData}(F:aH K "same" "Survey.same" xc f fd)(PP:bO P w K mg base C "paper" ["self","a","b"] 8 (J6 C cM)):aA P w K mg base (bH P w) 9 f fd ["self","a","b"] (IT C cM):=by
 refine F.fh OV (λvs H Q E h=>?_) (λau A outer s H vs Q E hr h=>?_)
 ·obtain⟨g,lh,B,rest,a,b,rfl,_⟩:=h
  rfl
 ·obtain⟨g,lh,B,rest,a,b,rfl,hB,q,qm⟩:=h;obtain⟨dx,ls,hg,he⟩:=id hB.ob;refine⟨_,(@sO _ _ _ (@sR _ _ _ _ (o7 ki (PP.pe hr (pv 0) (@aC _ _ _ _ _ (pv 1) (@aC _ _ _ _ _ (pv 2) ae (by rfl)) (by rfl))) c8 (aI _)))),?_⟩;refine⟨_,rfl,g,dx,_,rfl,hg,rfl,_,rfl,_,rfl,g,lh,B,rest,a,b,rfl,hB,λhm z l2 sp ps H2 t2 er hp k8 _ s2=>?_,λhm z H2 s2=>?_,qm⟩
  ·have:=q hm H2 s2;rw[ZN z]at this;exact⟨rfl,this⟩
  ·have:=q hm H2 s2;rw[ZO z]at this;exact⟨rfl,this⟩
def xo:aM ["self","a","kind","b","labels","paper"] ["self","a","kind","b"] (aF xx):=aP
def Vc{f C cM cK cF cB:Addr}{fd:FuncData}(F:aH K "row" "Survey.row" xx f fd)(yF:mg "NoKind"=some (.ref cK))(yG:dB K cK=true)(qL:mg "Barred"=some (.ref cB))(yH:dB K cB=true)(aw:dC K mg C)
  (CM:bO P w K mg base C "check_marks" ["self","a","b"] 1 (rC C cM))(B0:bO P w K mg base C "check_room" ["self"] 1 (zL C cF))(FO:bj P w K mg base "folded" ["marks","rows","start"] 6 qW)(RW:bj P w K mg base "rows_of" ["entries"] 1 mY)(BO:bj P w K mg base "broken_oath" ["entries","labels"] 1 Ak)(B1:cg P w K mg base C "enter" ["self","told"] 1 (y4 C)):
  aA P w K mg base (bH P w) 7 f fd ["self","a","kind","b"] (IU C cM cK cF cB):=by
 obtain⟨_,rT⟩:=aw.row;refine F.fh xo (λvs H Q E h=>?_) (λau A outer s H vs Q E hr h=>?_)
 ·obtain⟨g,lh,B,rest,a,kd,b,rfl,_⟩:=h
  rfl
 ·obtain⟨g,lh,B,rest,a,kd,b,rfl,hB,q,qm,qk,qf,qb⟩:=h;obtain⟨dx,ls,hg,he⟩:=id hB.ob;have bM:=hB.bM
  refine⟨_,(@sC _ _ _ _ _ (bF (CM.pe hr (pv 0) (@aC _ _ _ _ _ (pv 1) (@aC _ _ _ _ _ (pv 3) ae (by rfl)) (by rfl))))
   (@sC _ _ _ _ _ (aY (PW.pt (iF (aK gG (pv 2) af (aI _)) (iA (aK gX (pv 2) (aO (pv 0) rfl) (aI _))))) (@sO _ _ _ (jK rfl rfl yF yG (aq gD ae))) a7)
   (@sC _ _ _ _ _ (bF (B0.pz hr (pv 0)))
   (@sC _ _ _ _ _ (gE (FO.pe hr (@aC _ _ _ _ _ (aO (pv 0) rfl) (@aC _ _ _ _ _ (ay ko (RW.pe hr (@aC _ _ _ _ _ (aO (pv 0) rfl) ae (by rfl))) (@eL _ _ _ _ (@aC _ _ _ _ _ (cD (@aC _ _ _ _ _ (aO (pv 0) rfl) (@aC _ _ _ _ _ (pv 1) (@aC _ _ _ _ _ (pv 2) (@aC _ _ _ _ _ (pv 3) ae (by rfl)) (by rfl)) (by rfl)) (by rfl))) ae (by rfl)))) (@aC _ _ _ _ _ (dU ae) ae (by rfl)) (by rfl)) (by rfl))) (eM rfl (bA (aT (i:=4) xo.nd rfl (Or.inl rfl)) (bA (aT (i:=5) xo.nd rfl (Or.inl rfl)) eJ))))
   (@sC _ _ _ _ _ (aY (aK ki (BO.pe hr (@aC _ _ _ _ _ (aO (pv 0) rfl) (@aC _ _ _ _ _ (pv 4) ae (by rfl)) (by rfl))) c8 (aI _)) (@sO _ _ _ (jK rfl rfl qL yH (aq gD ae))) a7)
   (@sO _ _ _ (@sR _ _ _ _ (B1.pe hr (pv 0) (@aC _ _ _ _ _ (cD (@aC _ _ _ _ _ (iy (v:=.str "row") rfl rT ⟨_,rfl⟩) (@aC _ _ _ _ _ (pv 1) (@aC _ _ _ _ _ (pv 2) (@aC _ _ _ _ _ (pv 3) ae (by rfl)) (by rfl)) (by rfl)) (by rfl))) ae (by rfl)))))))))),?_⟩
  refine⟨_,rfl,g,dx,_,rfl,hg,rfl,_,rfl,_,rfl,g,lh,B,rest,a,b,rfl,hB,λhm H1 s1=>?_,qm⟩;have c7:=s1 _ _ hg;have lj:=hB.same s1;refine⟨_,rfl,_,_,rfl,rfl,_,rfl,bK (λz=>⟨by decide,qk hm (λy=>by have:=of_decide_eq_true z;omega) _ s1⟩) λz=>⟨_,rfl,_,rfl,g,C,dx,_,_,rfl,c7,aw.cl,aw.nk,AW ..,_,_,rfl,rfl,_,rfl,bK (λy=>⟨by decide,qk hm (λw=>by have:=of_decide_eq_true y;omega) _ s1⟩) λy=>?_⟩⟩;have z:¬_:=λw=>z (ZN w);have y:¬_:=λw=>y (ZN w);have hk:1<=kd/\kd<=B.k:=⟨by omega,by omega⟩;refine⟨_,rfl,g,dx,_,rfl,c7,rfl,g,lh,B,rest,rfl,lj,λjt=>?_,λjt=>qf hm hk jt H1 s1⟩;refine⟨_,rfl,g,C,dx,_,_,rfl,c7,aw.cl,aw.nn,ju ..,_,rfl,g,C,dx,_,_,rfl,c7,aw.cl,aw.ns,iM ..,ls,rest,B.es,rfl,he.same s1,by omega,λr1 mS H2 M6 t1 e1 s2=>?_⟩;have jF:=s2 _ _ c7;refine⟨_,rfl,g,C,dx,_,_,rfl,jF,aw.cl,aw.nc,uV ..,_,rfl,_,rfl,_,rfl,by show 4<=sizeLine;decide,λtp B2=>?_⟩;have s3:aa H2 (upd H2 tp (.tup [.int B.c,.int a,.int kd,.int b])):=(aa.refl H2).upd B2;have i3:upd H2 tp (.tup [.int B.c,.int a,.int kd,.int b]) tp=some (.tup [.int B.c,.int a,.int kd,.int b]):=ak;generalize upd H2 tp (.tup [.int B.c,.int a,.int kd,.int b])=H3 at s3 i3;refine jg (by show 1<=1000;decide) λl4 H4 hl4 i4 s4=>?_;have t4:Tl H4 l4 [(tp,[B.c,a,kd,b])]:=⟨i4,λp hp=>by rw[Y2.mp hp];exact s4 _ _ i3⟩;have l1:=mZ e1;have:=oU B.es;refine yZ (s4 _ _ (s3 _ _ t1.is)) i4 (by rw[Y1];show mS.length+1<=_;omega) λl5 H5 hl5 i5 s5=>?_;have t5:Tl H5 l5 (mS++[(tp,[B.c,a,kd,b])]):=Tl.cat (t1.same (s3.trans s4)) t4 s5 i5;have e5:(mS++[(tp,[B.c,a,kd,b])]).map (·.2)=rowsOf B.es++[[B.c,a,kd,b]]:=by rw[Ze,e1];rfl
  refine jg (by show 0<=1000;decide) λl6 H6 hl6 i6 s6=>?_
  have mP:∀r∈rowsOf B.es++[[B.c,a,kd,b]],b8 B.n r/\1<=r.getD 2 0/\r.getD 2 0<=5:=λr fS=>by
   rcases Y7.mp fS with z|z
   ·exact jI hB.k5 hB.ok r z
   ·rw[Y2.mp z];obtain⟨⟨a0,a1⟩,b0,b1⟩:=hm;have:=hB.k5;refine⟨⟨B.c,a.toNat,kd,b.toNat,by rw[Zw a0,Zw b0],by omega,by omega⟩,hk.1,?_⟩;show kd<=5;omega
  refine⟨B.n,l5,l6,_,[],rfl,t5.same s6,⟨i6,(λ_ z=>nomatch z)⟩,qK e5 mP,(λ_ z=>nomatch z),by omega,by simp;omega,by simp,λt7 la lp sp l H7 h7 i7 tl7 fL hp k8 _ _ s7=>?_⟩;rw[e5]at fL;have el:l=fl B.n (rowsOf B.es++[[B.c,a,kd,b]]):=fL.eq;have ll:l.length=B.n:=fL.1.aG.len;refine⟨t7,_,rfl,aV.of h7,rfl,_,_,rfl,_,_,rfl,rfl,?_⟩;have oG:aa H1 H7:=s2.trans (s3.trans (s4.trans (s5.trans (s6.trans s7))));have tj:=s1.trans oG;refine⟨_,rfl,g,C,dx,_,_,rfl,tj _ _ hg,aw.cl,aw.ns,iM ..,_,rfl,ls,la,rest,B.es,l,B.k,rfl,he.same tj,i7,by rw[ll];exact hB.ok,rfl,_,rfl,?_⟩;cases M7:cw B.es l with
  |some i=>
   refine fI ⟨by decide,qb hm hk jt ?_ _ tj⟩;show cw B.es (fl B.n (rowsOf B.es++[[B.c,a,kd,b]]))≠none;rw[<-el,M7];exact(λz=>nomatch z)
  |none=>
   refine cV ?_;refine⟨_,rfl,g,dx,_,rfl,tj _ _ hg,rfl,_,rfl,_,rfl,_,rfl,by show 4<=sizeLine;decide,λtq B3=>?_⟩;have s8:aa H7 (upd H7 tq (.tup [.str "row",.int a,.int kd,.int b])):=(aa.refl H7).upd B3;have oH:=tj.trans s8;refine⟨g,lh,B,rest,tq,.row 0 a kd b,rfl,hB.same oH,ak,⟨hm.1,hk,hm.2⟩,jt,λH9 aR B4 nw kp=>?_⟩;refine q hm hk jt ?_ H9 aR B4 (λx hx=>?_) λc o e nc=>kp c o (oH _ _ e) nc
   ·show¬cw B.es (fl B.n (rowsOf B.es++[[B.c,a,kd,b]]))≠none;rw[<-el,M7];exact λz=>z rfl
   ·rcases nw x hx with z|z
    ·exact .inl z
    ·exact .inr (oH.free z)
def OO:aM ["self","a","b"] ["self","a","b"] (aF wM):=aP
def aad{f C cM cF cB:Addr}{fd:FuncData}(F:aH K "apart" "Survey.apart" wM f fd)(qL:mg "Barred"=some (.ref cB))(yH:dB K cB=true)(aw:dC K mg C)
  (CM:bO P w K mg base C "check_marks" ["self","a","b"] 1 (rC C cM))(B0:bO P w K mg base C "check_room" ["self"] 1 (zL C cF))(SM:bO P w K mg base C "same" ["self","a","b"] 9 (IT C cM))(B1:cg P w K mg base C "enter" ["self","told"] 1 (y4 C)):
  aA P w K mg base (bH P w) 10 f fd ["self","a","b"] (K0 C cM cF cB):=by
 obtain⟨_,BX⟩:=aw.ap;refine F.fh OO (λvs H Q E h=>?_) (λau A outer s H vs Q E hr h=>?_)
 ·obtain⟨g,lh,B,rest,a,b,rfl,_⟩:=h
  rfl
 ·obtain⟨g,lh,B,rest,a,b,rfl,hB,q,qm,qf,qb⟩:=h;obtain⟨dx,ls,hg,he⟩:=id hB.ob
  refine⟨_,(@sC _ _ _ _ _ (bF (CM.pe hr (pv 0) (@aC _ _ _ _ _ (pv 1) (@aC _ _ _ _ _ (pv 2) ae (by rfl)) (by rfl))))
   (@sC _ _ _ _ _ (bF (B0.pz hr (pv 0)))
   (@sC _ _ _ _ _ (aY (zm (SM.pe hr (pv 0) (@aC _ _ _ _ _ (pv 1) (@aC _ _ _ _ _ (pv 2) ae (by rfl)) (by rfl)))) (@sO _ _ _ (jK rfl rfl qL yH (aq gD ae))) a7)
   (@sO _ _ _ (@sR _ _ _ _ (B1.pe hr (pv 0) (@aC _ _ _ _ _ (cD (@aC _ _ _ _ _ (iy (v:=.str "apart") rfl BX ⟨_,rfl⟩) (@aC _ _ _ _ _ (pv 1) (@aC _ _ _ _ _ (pv 2) ae (by rfl)) (by rfl)) (by rfl))) ae (by rfl)))))))),?_⟩
  refine⟨_,rfl,g,dx,_,rfl,hg,rfl,_,rfl,_,rfl,g,lh,B,rest,a,b,rfl,hB,λhm H1 s1=>?_,qm⟩;have c7:=s1 _ _ hg;have lj:=hB.same s1;refine⟨_,rfl,g,dx,_,rfl,c7,rfl,g,lh,B,rest,rfl,lj,λjt=>?_,λjt=>qf hm jt H1 s1⟩;refine⟨_,rfl,g,dx,_,rfl,c7,rfl,_,rfl,_,rfl,g,lh,B,rest,a,b,rfl,lj,λ_ H2 s2=>⟨_,rfl,?_⟩,λz=>absurd hm z⟩;have bV:=s1.trans s2;by_cases z:B.aG.getD a.toNat 0=B.aG.getD b.toNat 0
  ·exact jm (ZN z) ⟨by decide,qb hm jt z _ bV⟩
  ·refine cy (ZO z) ?_;refine⟨_,rfl,g,dx,_,rfl,bV _ _ hg,rfl,_,rfl,_,rfl,by show 3<=sizeLine;decide,λtq B3=>?_⟩;have s8:aa H2 (upd H2 tq (.tup [.str "apart",.int a,.int b])):=(aa.refl H2).upd B3;have oH:=bV.trans s8;refine⟨g,lh,B,rest,tq,.ap 0 a b,rfl,hB.same oH,ak,⟨hm.1,hm.2⟩,jt,λH9 aR B4 nw kp=>?_⟩;refine q hm jt z H9 aR B4 (λx hx=>?_) λc o e nc=>kp c o (oH _ _ e) nc;rcases nw x hx with z|z
   ·exact .inl z
   ·exact .inr (oH.free z)
def OP:aM ["self"] ["self"] (aF wN):=aP
def Vd{f C:Addr}{fd:FuncData}(F:aH K "marks" "Survey.marks" wN f fd)(aw:dC K mg C):aA P w K mg base aN 1 f fd ["self"] (WV C):=by
 refine F.ok OP (λvs H Q E h=>?_) (λau A outer s H vs Q E hr h=>?_)
 ·obtain⟨g,lh,B,rest,rfl,_⟩:=h
  rfl
 ·obtain⟨g,lh,B,rest,rfl,hB,q⟩:=h;obtain⟨dx,ls,hg,he⟩:=id hB.ob;exact⟨_,(@sO _ _ _ (@sR _ _ _ _ (aO (pv 0) rfl))),_,rfl,g,C,dx,_,_,rfl,hg,aw.cl,aw.nn,ju ..,q⟩
def OD:aM ["self"] ["self"] (aF wI):=aP
def Q6{f C:Addr}{fd:FuncData}(F:aH K "entries" "Survey.entries" wI f fd)(T:Txt K mg)(aw:dC K mg C):aA P w K mg base aN 1 f fd ["self"] (yc C):=by
 refine F.ok OD (λvs H Q E h=>?_) (λau A outer s H vs Q E hr h=>?_)
 ·obtain⟨g,lh,B,rest,rfl,_⟩:=h
  rfl
 ·obtain⟨g,lh,B,rest,rfl,hB,q⟩:=h;obtain⟨dx,ls,hg,he⟩:=id hB.ob;obtain⟨ps,h1,h2,h3,h4,h5⟩:=he.ob;refine⟨_,(@sO _ _ _ (@sR _ _ _ _ (lJ xO rfl T.list lN (@aC _ _ _ _ _ (aO (pv 0) rfl) ae (by rfl))))),?_⟩;refine⟨_,rfl,g,C,dx,_,_,rfl,hg,aw.cl,aw.ns,iM ..,UD h1 λl H1 hl il s1=>?_⟩;exact q l H1 hl ⟨ps,il,λp hp=>s1 _ _ (h2 p hp),h3,Y9 ..,λp hp=>Y4 _ (h5 p hp)⟩ s1
def Oz:aM ["self","kinds"] ["self","kinds"] (aF wF):=aP
def Ve{f C:Addr}{fd:FuncData}(F:aH K "__init__" "Survey.__init__" wF f fd)(aw:dC K mg C):aA P w K mg base aN 1 f fd ["self","kinds"] (IS C):=by
 obtain⟨_,B5⟩:=aw.mk5;refine F.ok Oz (λvs H Q E h=>?_) (λau A outer s H vs Q E hr h=>?_)
 ·obtain⟨g,dx,k,rfl,_⟩:=h
  rfl
 ·obtain⟨g,dx,k,rfl,hg,k1,k5,q⟩:=h
  refine⟨_,(@sC _ _ _ _ _ (aY (PW.pt (iF (aK gG (pv 1) af (aI _)) (iA (aK gX (pv 1) (iy (v:=.int 5) rfl B5 ⟨_,rfl⟩) (aI _))))) (@sO _ _ _ lL) a7)
   (@sC _ _ _ _ _ (eO (pv 0) (pv 1) rfl)
   (@sC _ _ _ _ _ (eO (pv 0) af rfl)
   (@sC _ _ _ _ _ (eO (pv 0) (dU ae) rfl)
   (@sC _ _ _ _ _ (eO (pv 0) af rfl)
   (@sO _ _ _ (eO (pv 0) (dU ae) rfl))))))),?_⟩
  refine⟨_,rfl,_,_,rfl,rfl,_,rfl,cy (ZO (by omega)) ⟨_,rfl,_,_,rfl,rfl,_,rfl,cy (ZO (by omega)) ?_⟩⟩;refine⟨_,rfl,_,rfl,g,C,dx,_,rfl,hg,aw.cl,aw.nk,(by show 0<1000;decide),?_⟩;refine⟨_,rfl,g,C,dx,_,rfl,ak,aw.cl,aw.nn,(by show 1<1000;decide),?_⟩;rw[kh];refine jg (by show 0<=1000;decide) λls H1 ka vI s1=>?_;have gl:ls≠g:=λz=>by rw[z,ak]at ka;cases ka
  have c7:=s1 g _ ak;refine⟨_,rfl,g,C,dx,_,rfl,c7,aw.cl,aw.ns,(by show 2<1000;decide),?_⟩;refine⟨_,rfl,g,C,dx,_,rfl,ak,aw.cl,aw.nc,(by show 3<1000;decide),?_⟩;rw[kh];refine jg (by show 0<=1000;decide) λlh H2 mI ilh s2=>?_;have gh:lh≠g:=λz=>by rw[z,ak]at mI;cases mI
  have jF:=s2 g _ ak;refine⟨_,rfl,g,C,dx,_,rfl,jF,aw.cl,aw.nh,(by show 4<1000;decide),?_⟩;have M8:H2 ls=some (.lst []):=s2 ls _ (by rw[aj gl];exact vI)
  have BS:ls≠lh:=λz=>by
   rw[<-z,aj gl,vI]at mI;cases mI
  have aca:H ls=none:=by rwa [aj gl]at ka
  have acb:H lh=none:=by
   rw[aj gh]at mI;have:=s1.free mI
   rwa [aj gh]at this
  refine q _ lh [ls] ⟨k1,k5,Zp _,Zp _,(λ_ z=>nomatch z),⟨dx,ls,ak,⟨[],by rw[aj gl];exact M8,(λ_ z=>nomatch z),rfl,Y2.mpr rfl,(λ_ z=>nomatch z)⟩⟩,⟨[],by rw[aj gh];exact ilh,(λ_ z=>nomatch z),rfl⟩,(λ_ z=>nomatch z),λz=>BS (Y2.mp z).symm,λz=>gl (Y2.mp z).symm,λa ha=>⟨.lst [],by rw[Y2.mp ha,aj gl];exact M8⟩⟩ acb (λa ha=>by rw[Y2.mp ha];exact aca) λc o e nc=>?_;rw[aj nc];refine s2 _ _ ?_;rw[aj nc];refine s1 _ _ ?_;rw[aj nc];exact e
def qB:aM ["_law_book_here","_law_entry_here","_law_number"] ["_law_book_here","_law_entry_here"] (aF wV):=aP
def Q7{f C cM cK cF cB:Addr}{fd:FuncData}(F:aH K "_law_entered" "_law_entered" wV f fd)(qL:mg "Barred"=some (.ref cB))(hex:PySem.W.exmOne K (.ref cB) (.ref cB)=some true)
  (SRW:bO P w K mg base C "row" ["self","a","kind","b"] 7 (IU C cM cK cF cB))(SAP:bO P w K mg base C "apart" ["self","a","b"] 10 (K0 C cM cF cB)):aA P w K mg base aN 11 f fd ["_law_book_here","_law_entry_here"] (tX C):=by
 refine F.ok qB (λvs H Q E h=>?_) (λau A outer s H vs Q E hr h=>?_)
 ·obtain⟨g,lh,B,rest,t,e,rfl,_⟩:=h
  rfl
 ·obtain⟨g,lh,B,rest,t,e,rfl,hB,ht,jG,cu,qn,q⟩:=h;obtain⟨dx,ls,hg,he⟩:=id hB.ob
  refine⟨_,(@sC _ _ _ _ _ (@sS _ 2 _ _ _ _ _ qB.nd rfl (Or.inl rfl) c8 (by rfl) (.inl rfl))
   (@sC _ _ _ _ _ (WN (Yz (aK cG (av bu (pv 1) af (λ_ _=>rfl)) gD (aI _)) (IE (i:=2) qB.nd rfl (Or.inl rfl) (SRW.px hr (pv 0) (@aC _ _ _ _ _ (av bu (pv 1) af (λ_ _=>rfl)) (@aC _ _ _ _ _ (av bu (pv 1) af (λ_ _=>rfl)) (@aC _ _ _ _ _ (av bu (pv 1) af (λ_ _=>rfl)) ae (by rfl)) (by rfl)) (by rfl)))) (IE (i:=2) qB.nd rfl (Or.inl rfl) (SAP.px hr (pv 0) (@aC _ _ _ _ _ (av bu (pv 1) af (λ_ _=>rfl)) (@aC _ _ _ _ _ (av bu (pv 1) af (λ_ _=>rfl)) ae (by rfl)) (by rfl))))) rfl qL (λea=>(@sO _ _ _ (@sS _ 2 _ _ _ _ _ qB.nd rfl (Or.inl rfl) c8 (by rfl) (.inl rfl)))))
   (@sO _ _ _ (@sR _ _ _ _ (pv 2))))),?_⟩
  refine Sa ?_;refine uJ.YF λEE hEE=>?_;have EX:∀G,aa H G->Q .aE G->EE (.ref cB) none G:=λG sG z=>hEE _ _ hex ⟨_,rfl,z⟩;cases e with
  |row i a kd b=>
   obtain⟨ha,hk,hb⟩:=jG;refine⟨_,rfl,cC ht rfl ⟨rfl,_,rfl,jm (by decide+kernel) ?_⟩⟩;refine⟨_,rfl,g,dx,_,rfl,hg,rfl,_,rfl,cC ht rfl ⟨_,rfl,cC ht rfl ⟨_,rfl,cC ht rfl ?_⟩⟩⟩;refine⟨g,lh,B,rest,a,kd,b,rfl,hB,λ_ _ _ nb H' aR jE nw kp=>⟨_,rfl,q nb H' aR jE nw kp⟩,λz=>absurd ⟨ha,hb⟩ z,λ_ z=>absurd hk z,λ_ _ z=>absurd cu z,λ_ _ _ br H' s'=>EX _ s' (qn br H' s')⟩
  |ap i a b=>
   obtain⟨ha,hb⟩:=jG;refine⟨_,rfl,cC ht rfl ⟨rfl,_,rfl,cy (by decide+kernel) ?_⟩⟩;refine⟨_,rfl,g,dx,_,rfl,hg,rfl,_,rfl,cC ht rfl ⟨_,rfl,cC ht rfl ?_⟩⟩;refine⟨g,lh,B,rest,a,b,rfl,hB,λ_ _ nb H' aR jE nw kp=>⟨_,rfl,q nb H' aR jE nw kp⟩,λz=>absurd ⟨ha,hb⟩ z,λ_ z=>absurd cu z,λ_ _ br H' s'=>EX _ s' (qn br H' s')⟩
def O6:aM ["_law_kinds","_law_marks","_law_draws"] ["_law_kinds","_law_marks","_law_draws"] (aF xy):=aP
def Vf{f:Addr}{fd:FuncData}(F:aH K "_law_entry" "_law_entry" xy f fd):aA P w K mg base aN 1 f fd ["_law_kinds","_law_marks","_law_draws"] zb:=by
 refine F.ok O6 (λvs H Q E h=>?_) (λau A outer s H vs Q E hr h=>?_)
 ·obtain⟨k,n,ld,ds,rfl,_⟩:=h
  rfl
 ·obtain⟨k,n,ld,ds,rfl,hd,l3,k1,k5,n1,n7,q⟩:=h
  refine⟨_,(@sC _ _ _ _ _ (aY (aK cG (ay bJ (av aJ (pv 2) af (λ_ _=>rfl)) af) af (aI _)) (@sO _ _ _ (@sR _ _ _ _ (cD (@aC _ _ _ _ _ gD (@aC _ _ _ _ _ (ay bJ (av aJ (pv 2) af (λ_ _=>rfl)) (pv 1)) (@aC _ _ _ _ _ (ay bJ (av aJ (pv 2) af (λ_ _=>rfl)) (pv 1)) ae (by rfl)) (by rfl)) (by rfl))))) a7)
   (@sO _ _ _ (@sR _ _ _ _ (cD (@aC _ _ _ _ _ gD (@aC _ _ _ _ _ (ay bJ (av aJ (pv 2) af (λ_ _=>rfl)) (pv 1)) (@aC _ _ _ _ _ (ay cQ af (ay bJ (ay jM (av aJ (pv 2) af (λ_ _=>rfl)) af) (pv 0))) (@aC _ _ _ _ _ (ay bJ (av aJ (pv 2) af (λ_ _=>rfl)) (pv 1)) ae (by rfl)) (by rfl)) (by rfl)) (by rfl)))))),?_⟩
  have np:(0:Int)<n:=by omega
  have kp:(0:Int)<k:=by omega
  have vJ:∀d:Int,aB n (d%n):=λd=>⟨Zz _ (by omega),Zy _ np⟩;refine⟨_,rfl,aU 0 hd (by omega) ⟨_,_,rfl,rfl,(by show(0:Int)<5;decide),rfl,_,rfl,bK (λ_=>?_) λ_=>?_⟩⟩
  ·refine⟨_,rfl,aU 1 hd (by omega) ⟨_,rfl,_,_,rfl,rfl,np,_,rfl,aU 2 hd (by omega) ⟨_,rfl,_,_,rfl,rfl,np,by show 3<=sizeLine;decide,λt ht=>?_⟩⟩⟩;exact q t (.ap 0 (ds.getD 1 0%n) (ds.getD 2 0%n)) _ ht ak ⟨vJ _,vJ _⟩ ((aa.refl H).upd ht)
  ·refine⟨_,rfl,aU 1 hd (by omega) ⟨_,rfl,_,_,rfl,rfl,np,_,rfl,aU 0 hd (by omega) ⟨_,_,rfl,rfl,⟨by show(0:Int)<5;decide,by show(5:Int)<1073741824;decide⟩,_,rfl,_,_,rfl,rfl,kp,_,_,rfl,rfl,_,rfl,aU 2 hd (by omega) ⟨_,rfl,_,_,rfl,rfl,np,by show 4<=sizeLine;decide,λt ht=>?_⟩⟩⟩⟩;have m0:=Zz (ds.getD 0 0/5) (show(k:Int)≠0 by omega);have m1:=Zy (ds.getD 0 0/5) kp;exact q t (.row 0 (ds.getD 1 0%n) (1+ds.getD 0 0/5%k) (ds.getD 2 0%n)) _ ht ak ⟨vJ _,⟨by omega,by omega⟩,vJ _⟩ ((aa.refl H).upd ht)
def oP:aM ["_law_book_here","_law_kinds","_law_marks","_law_many","_law_draws","_law_k","_law_standing","_law_entry_here","_law_number"] ["_law_book_here","_law_kinds","_law_marks","_law_many","_law_draws"] (aF xJ):=aP
def Xm{f C cF:Addr}{fd:FuncData}(F:aH K "_law_book" "_law_book" xJ f fd)(T:Txt K mg)(B6:bO P w K mg base C "chalk" ["self"] 1 (yu C cF))(LE:bj P w K mg base "_law_entry" ["_law_kinds","_law_marks","_law_draws"] 1 zb)(qr:bj P w K mg base "_law_entered" ["_law_book_here","_law_entry_here"] 11 (tX C)):
  aA P w K mg base aN 12 f fd ["_law_book_here","_law_kinds","_law_marks","_law_many","_law_draws"] (J7 C):=by
 refine F.ok oP (λvs H Q E h=>?_) (λau A outer s H vs Q E hr h=>?_)
 ·obtain⟨g,lh,rest,k,m,many,ld,ds,rfl,_⟩:=h
  rfl
 ·obtain⟨g,lh,rest,k,m,many,ld,ds,rfl,vK,vB,L4,hd,hl,q⟩:=h;have k1:1<=k:=vK.k1;have k5:k<=5:=vK.k5
  refine⟨_,(@sC _ _ _ _ _ (cb Zm rfl (gP rfl T.range (@aC _ _ _ _ _ (pv 2) ae (by rfl))) (aT (i:=5) oP.nd rfl (Or.inl rfl)) (@sO _ _ _ (bF (B6.MG hr (pv 0)))))
   (@sC _ _ _ _ _ (@sS _ 6 _ _ _ _ _ oP.nd rfl (Or.inl rfl) (dU ae) (by rfl) (.inl rfl))
   (@sC _ _ _ _ _ (cb Zm rfl (gP rfl T.range (@aC _ _ _ _ _ (pv 3) ae (by rfl))) (aT (i:=5) oP.nd rfl (Or.inl rfl)) (@sO _ _ _ (aY (aK gX (pv 2) af (aI _)) (@sC _ _ _ _ _ (@sS _ 7 _ _ _ _ _ oP.nd rfl (Or.inl rfl) (LE.pe hr (@aC _ _ _ _ _ (pv 1) (@aC _ _ _ _ _ (pv 2) (@aC _ _ _ _ _ (eI iL (pv 4) (cL (ay gW af (pv 5))) (cL (ay cQ (ay gW af (pv 5)) af))) ae (by rfl)) (by rfl)) (by rfl))) (by rfl) (.inl rfl))
   (@sC _ _ _ _ _ (@sS _ 8 _ _ _ _ _ oP.nd rfl (Or.inl rfl) (qr.pe hr (@aC _ _ _ _ _ (pv 0) (@aC _ _ _ _ _ (pv 7) ae (by rfl)) (by rfl))) (by rfl) (.inl rfl))
   (@sO _ _ _ (aY (aK ki (pv 8) c8 (aI _)) (@sO _ _ _ (bF (eQ PySem.F.plainAttrs_list PySem.F.slot_list_append PySem.F.type_list_append eG (pv 6) (@aC _ _ _ _ _ (ay Ib (cD (aq (pv 8) ae)) (pv 7)) ae (by rfl))))) a7)))) a7)))
   (@sO _ _ _ (@sR _ _ _ _ (pv 6)))))),?_⟩
  have ldg:ld≠g:=λz=>by
   obtain⟨dx,ls,hg,_⟩:=vK.ob;have pO:H g=some (.lst _):=z▸hd;rw[hg]at pO;cases pO
  refine⟨_,rfl,_,rfl,by omega,by omega,mW (lo:=0) (n:=(m:Int).toNat) (λi σ H2=>(∃x,σ=[some (.ref g),some (.int k),some (.int m),some (.int many),some (.ref ld),x,none,none,none])/\aL C H2 g lh ⟨k,i,[],1,[]⟩ rest/\Kp g H H2) ⟨⟨none,rfl⟩,vK,Kp.of (aa.refl H)⟩ ?_ ?_⟩
  ·rintro i σ H2 hi ⟨⟨x,rfl⟩,hB,kp⟩;obtain⟨dx,ls,hg,he⟩:=id hB.ob;exact⟨_,rfl,g,dx,_,rfl,hg,rfl,g,lh,_,rest,rfl,hB,λ_ H3 cz ja=>⟨⟨_,rfl⟩,cz,kp.trans ja⟩,λz=>absurd (show i<24 by omega) z⟩
  rintro σ H2 ⟨⟨x,rfl⟩,hB,kp⟩;rw[Za]at hB;refine jg (by show 0<=1000;decide) λl H3 vL il s3=>?_;have ja:Kp g H H3:=kp.trans (Kp.of s3);have cz:=hB.same s3;have B7:=hB.not vL;have vM:l≠g:=λz=>B7 (z▸Y9 ..)
  have vN:H l=none:=by
   cases e:H l with
   |none=>rfl
   |some o=>have:=kp l o e vM;rw[vL]at this;cases this
  have lhl:lh≠l:=λz=>B7 (z▸Y4 _ (Y9 ..))
  refine⟨_,rfl,_,rfl,by omega,by omega,mW (lo:=0) (n:=(many:Int).toNat) (λi σ H4=>∃(x y z:Option V) (eE:List Addr) (B:Bk) (aR:List Addr),σ=[some (.ref g),some (.int k),some (.int m),some (.int many),some (.ref ld),x,some (.ref l),y,z]/\aL C H4 g lh B aR/\B.k=k/\B.n=m/\B.hs=[]/\B.es.length<=i/\Cons B/\Nums B/\El H4 (l::eE) l B.es/\l∉g::lh::aR/\g∉l::eE/\lh∉l::eE/\l∉eE/\Nw H rest aR/\(∀x∈l::eE,H x=none)/\Kp g H H4)
   ⟨_,none,none,[],_,rest,rfl,cz,rfl,rfl,rfl,Y3 _,rfl,⟨rfl,λi e z=>by simp at z⟩,⟨[],il,(λ_ z=>nomatch z),rfl,Y9 ..,(λ_ z=>nomatch z)⟩,B7,(λz=>vM (Y2.mp z).symm),(λz=>lhl (Y2.mp z)),(λz=>nomatch z),(λx hx=>.inl hx),(λx hx=>by rw[Y2.mp hx];exact vN),ja⟩ ?_ ?_⟩
  ·rintro i σ H4 hi ⟨x,y,z,eE,B,aR,rfl,fV,bk,bn,bh,be,bc,qt,lb,n1,n2,qu,n3,nw,fr,lA⟩;have hi:i<many:=by omega
   have hd4:ax H4 ld ds:=lA _ _ hd ldg;refine⟨_,rfl,_,_,rfl,rfl,_,rfl,bK (λhm=>?_) λhm=>⟨_,_,_,eE,B,aR,rfl,fV,bk,bn,bh,by omega,bc,qt,lb,n1,n2,qu,n3,nw,fr,lA⟩⟩;have hm:1<=m:=by have:=of_decide_eq_true hm;omega
   have e1:(3*(0+(i:Int)))=((3*i:Nat):Int):=by omega
   have e2:(3*(0+(i:Int))+3)=((3*i+3:Nat):Int):=by omega
   refine⟨_,rfl,_,rfl,_,rfl,_,rfl,_,_,rfl,rfl,.inl ⟨by omega,by omega⟩,_,rfl,_,rfl,_,_,rfl,rfl,.inl ⟨by omega,by omega⟩,_,_,rfl,rfl,_,rfl,jc hd4 λlq H5 B8 iq s5=>?_⟩;have iq:ax H5 lq (cO ds (some ((3*i:Nat):Int)) (some ((3*i+3:Nat):Int))):=by rw[<-e1, <-e2];exact iq
   rw[o8 _ _ _ (by omega)]at iq;have l3:((ds.drop (3*i)).take (3*i+3-3*i)).length=3:=by rw[Zx,ZJ];omega
   refine⟨k,m,lq,_,rfl,iq,l3,k1,k5,hm,by omega,λt e H6 ht it jG s6=>?_⟩;have B9:=s5.trans s6;have vO:Kp g H H6:=lA.trans (Kp.of B9);have Ca:=fV.same B9;have qv:=lb.same B9;have tl6:t∉g::lh::aR:=(fV.same s5).not ht;have ht4:H4 t=none:=s5.free ht
   have tne:t≠l:=λz=>by
    obtain⟨ps,h1,_⟩:=lb.ob;rw[<-z,ht4]at h1;cases h1
   have Cb:t≠g:=λz=>tl6 (z▸Y9 ..);refine⟨_,rfl,_,rfl,g,lh,B,aR,t,e,rfl,Ca,it,by rw[bk,bn];exact jG,by omega,λbr H7 s7=>?_,λnb H7 Lg vP M9 Cd=>?_⟩
   ·refine⟨_,rfl,rfl,_,rfl,cV ⟨_,_,_,eE,B,aR,rfl,Ca.same s7,bk,bn,bh,by omega,bc,qt,qv.same s7,n1,n2,qu,n3,nw,fr,vO.trans (Kp.of s7)⟩⟩
   ·refine⟨_,rfl,rfl,_,rfl,fI ?_⟩;have keep:∀a,a≠g->∀o,H6 a=some o->H7 a=some o:=λa na o e=>Cd a o e na;have el7:El H7 (l::eE) l B.es:=qv.on λa ha=>keep a λz=>n2 (z▸ha);have it7:H7 t=some (.tup e.told):=keep t Cb _ it;obtain⟨ps,h1,h2,h3,h4,h5⟩:=id el7.ob
    have tl:1+e.told.length<=sizeLine/\e.told≠[]:=by
     cases e with
     |row=>exact⟨by show 1+4<=sizeLine;decide,(λz=>nomatch z)⟩
     |ap=>exact⟨by show 1+3<=sizeLine;decide,(λz=>nomatch z)⟩
    refine⟨_,rfl,.inl ⟨rfl,_,ah.of h1⟩,_,rfl,by show 1<=sizeLine;decide,λp1 jD=>?_⟩;have s8:aa H7 (upd H7 p1 (.tup [.int B.c])):=(aa.refl H7).upd jD;have i8:upd H7 p1 (.tup [.int B.c]) p1=some (.tup [.int B.c]):=ak;generalize upd H7 p1 (.tup [.int B.c])=H8 at s8 i8;refine⟨_,rfl,p1,t,_,_,rfl,rfl,aV.of i8,aV.of (s8 _ _ it7),(λz=>nomatch z),tl.1,λz=>absurd z tl.2,λ_ p2 gK=>?_⟩;have ev:[V.int B.c]++e.told=(e.re B.c).vs:=by cases e<;>rfl
    rw[ev];have s9:aa H8 (upd H8 p2 (.tup (e.re B.c).vs)):=(aa.refl H8).upd gK;have i9:upd H8 p2 (.tup (e.re B.c).vs) p2=some (.tup (e.re B.c).vs):=ak;generalize upd H8 p2 (.tup (e.re B.c).vs)=H9 at s9 i9;have vQ:=s8.trans s9;have pM:H7 p2=none:=s8.free gK;have Na:p2≠l:=λz=>by rw[z,h1]at pM;cases pM
    have p2H:H p2=none:=by
     cases e':H p2 with
     |none=>rfl
     |some o=>
      have p2g:p2≠g:=λz=>vP.lg.2 (z▸pM);have:=(vO.trans Cd) p2 o e' p2g;rw[pM]at this;cases this
    have Nb:=vQ _ _ h1;refine⟨l,_,_,rfl,rfl,Nb,bD (by rw[Y1, <-Y1 (f:=(·.2)),h3];omega),?_⟩
    have Nc:l∉g::lh::Lg:=λz=>by
     rcases Y5.mp z with z|z
     ·exact n1 (z▸Y9 ..)
     rcases Y5.mp z with z|z
     ·exact n1 (z▸Y4 _ (Y9 ..))
     ·rcases M9 l z with z|z
      ·exact n1 (Y4 _ (Y4 _ z))
      ·obtain⟨ps6,h6,_⟩:=qv.ob;rw[h6]at z;cases z
    refine⟨_,_,_,p2::eE,B.add e,Lg,rfl,(vP.same vQ).other Nc,bk,bn,bh,?_,bc.add nb,qt.add e,?_,Nc,?_,?_,?_,?_,?_,?_⟩
    ·show(B.es++[e.re B.c]).length<=i+1;simp;omega
    ·refine⟨ps++[(p2,e.re B.c)],by rw[ak,Ze];rfl,λp hp=>?_,by rw[Ze,h3];rfl,Y9 ..,λp hp=>?_⟩
     ·rcases Y7.mp hp with z|z
      ·have Cf:=vQ _ _ (h2 p z);have:p.1≠l:=λy=>by rw[y,Nb]at Cf;cases Cf
       rw[aj this];exact Cf
      ·rw[Y2.mp z,aj Na];exact i9
     ·rcases Y7.mp hp with z|z
      ·rcases Y5.mp (h5 p z)with y|y
       ·rw[y];exact Y9 ..
       ·exact Y4 _ (Y4 _ y)
      ·rw[Y2.mp z];exact Y4 _ (Y9 ..)
    ·intro z;rcases Y5.mp z with z|z
     ·exact n2 (z▸Y9 ..)
     rcases Y5.mp z with z|z
     ·exact vP.lg.2 (z▸pM)
     ·exact n2 (Y4 _ z)
    ·intro z;rcases Y5.mp z with z|z
     ·exact qu (z▸Y9 ..)
     rcases Y5.mp z with z|z
     ·exact vP.lg.1 (z▸pM)
     ·exact qu (Y4 _ z)
    ·intro z;rcases Y5.mp z with z|z
     ·exact Na z.symm
     ·exact n3 z
    ·intro x hx;rcases M9 x hx with z|z
     ·exact nw x z
     ·refine .inr ?_;cases e':H x with
      |none=>rfl
      |some o=>
       by_cases xg:x=g
       ·exact absurd (xg▸z) (Ca.lg.2)
       ·have:=vO x o e' xg;rw[z]at this;cases this
    ·intro x hx;rcases Y5.mp hx with z|z
     ·rw[z];exact vN
     rcases Y5.mp z with z|z
     ·rw[z];exact p2H
     ·exact fr x (Y4 _ z)
    ·intro c o e' nc;have cl:c≠l:=λz=>by rw[z,vN]at e';cases e'
     rw[aj cl];exact vQ _ _ ((vO.trans Cd) c o e' nc)
  ·rintro σ H4 ⟨x,y,z,eE,B,aR,rfl,fV,bk,bn,bh,be,bc,qt,lb,n1,n2,qu,n3,nw,fr,lA⟩;rw[Za]at be;exact⟨_,rfl,q l _ B aR H4 fV bk bn bh be bc qt lb vN n1 n2 qu nw fr lA⟩
def DX:aM ["self","number","left"] ["self","number"] (aF wJ):=aP
def Q8{f C cE:Addr}{fd:FuncData}(F:aH K "strike" "Survey.strike" wJ f fd)(Su:mg "NoEntry"=some (.ref cE))(Sv:dB K cE=true)(T:Txt K mg)(aw:dC K mg C):aA P w K mg base (bH P w) 1 f fd ["self","number"] (FV C cE):=by
 refine F.fh DX (λvs H Q E h=>?_) (λau A outer s H vs Q E hr h=>?_)
 ·obtain⟨g,lh,B,rest,i,rfl,_⟩:=h
  rfl
 ·obtain⟨g,lh,B,rest,i,rfl,hB,q,qe⟩:=h;obtain⟨dx,ls,hg,he⟩:=id hB.ob;have cu:=hB.cu
  refine⟨_,(@sC _ _ _ _ _ (R8 2 ["number"] [1] DX.nd (bW (aO (pv 0) rfl)) (λC s H fp=>aK rD (av (show e9 _ (cY (fH K))from bu) (pv 0) af (λ_ _=>rfl)) (pv 1) (aI _)) (λC s H fp=>pv 0) (jV rfl))
   (@sC _ _ _ _ _ (aY (aK cG (bB cA (by rfl) T.len PySem.boot_len (@aC _ _ _ _ _ (pv 2) ae (by rfl))) (bB cA (by rfl) T.len PySem.boot_len (@aC _ _ _ _ _ (aO (pv 0) rfl) ae (by rfl))) (aI _)) (@sO _ _ _ (jK rfl rfl Su Sv (aq gD ae))) a7)
   (@sC _ _ _ _ _ (eO (pv 0) (pv 2) rfl)
   (@sO _ _ _ (@sR _ _ _ _ (pv 1)))))),?_⟩
  refine⟨_,rfl,g,C,dx,_,_,rfl,hg,aw.cl,aw.ns,iM ..,ls,rfl,he.sq,Sd (λe=>decide (e.num≠i)) he (by omega) (λx e H' Q' s' hx q'=>?_) (λx H' Q' q'=>⟨_,rfl,q'⟩) λD H1 hD el s1=>?_⟩
  ·refine⟨_,rfl,cC hx (YG e) ⟨_,rfl,rfl,_,rfl,?_⟩⟩
   have:(!decide (V.int e.num=V.int i))=decide (e.num≠i):=by
    by_cases z:e.num=i
    ·simp[z]
    ·simp[z]
   rw[this];exact q'
  obtain⟨n1,a1,c1⟩:=el.cnt;obtain⟨n2,a2,c2⟩:=(he.same s1).cnt;refine⟨_,rfl,D,n1,rfl,.inl (ah.of a1),_,rfl,g,C,dx,_,_,rfl,s1 _ _ hg,aw.cl,aw.ns,iM ..,ls,n2,rfl,.inl (ah.of a2),rfl,_,rfl,?_⟩;rw[c1,c2];by_cases z:i∈B.es.map En.num
  ·have ne:¬(B.es.filter λe=>decide (e.num≠i)).length=B.es.length:=λy=>He.mp y z;refine cy (ZO λy=>ne (by have:=V.int.inj y;omega)) ?_;have c7:=s1 _ _ hg;have nD:=hB.not hD
   have lj:aL C H1 g lh B (D::rest):=(hB.same s1).more (λa ha=>Y4 _ ha) (λy=>by
     rcases Y5.mp y with y|y
     ·exact nD (y▸Y4 _ (Y9 ..))
     ·exact hB.nl y) (λy=>by
     rcases Y5.mp y with y|y
     ·exact nD (y▸Y9 ..)
     ·exact hB.ng y) λa ha=>by
     rcases Y5.mp ha with y|y
     ·exact⟨_,y▸a1⟩
     ·obtain⟨o,e⟩:=hB.lv a y;exact⟨o,s1 _ _ e⟩
   refine⟨_,rfl,_,rfl,g,C,dx,_,rfl,c7,aw.cl,aw.ns,(by show 5<1000;decide),?_⟩;rw[Aj];have hX:=lj.fld (B':=B.less i) c7 el rfl rfl hB.bM (ZQ (List.length_filter_le _ _) cu) λe h=>hB.ok e (ZT.mp h).1;refine⟨_,rfl,q z _ _ hX (λx hx=>?_) λc o e nc=>by rw[aj nc];exact s1 _ _ e⟩;rcases Y5.mp hx with y|y
   ·rw[y];exact .inr hD
   ·exact .inl y
  ·refine jm (ZN (by rw[He.mpr z])) ⟨by decide,qe z _ s1⟩
def OW:aM ["self"] ["self"] (aF xa):=aP
def Xn{f C:Addr}{fd:FuncData}(F:aH K "hold" "Survey.hold" xa f fd)(T:Txt K mg)(aw:dC K mg C):aA P w K mg base aN 1 f fd ["self"] (Ka C):=by
 refine F.ok OW (λvs H Q E h=>?_) (λau A outer s H vs Q E hr h=>?_)
 ·obtain⟨g,lh,B,rest,rfl,_⟩:=h
  rfl
 ·obtain⟨g,lh,B,rest,rfl,hB,hl,q⟩:=h;obtain⟨dx,ls,hg,he⟩:=id hB.ob;obtain⟨qs,h1,h2,h3⟩:=id hB.hl.ob;have lq:qs.length=B.hs.length:=by rw[<-h3,Y1]
  refine⟨_,(@sC _ _ _ _ _ (bF (eQ PySem.F.plainAttrs_list PySem.F.slot_list_append PySem.F.type_list_append eG (aO (pv 0) rfl) (@aC _ _ _ _ _ (cD (@aC _ _ _ _ _ (aO (pv 0) rfl) (@aC _ _ _ _ _ (aO (pv 0) rfl) (@aC _ _ _ _ _ (aO (pv 0) rfl) ae (by rfl)) (by rfl)) (by rfl))) ae (by rfl))))
   (@sO _ _ _ (@sR _ _ _ _ (bB cA (by rfl) T.len PySem.boot_len (@aC _ _ _ _ _ (aO (pv 0) rfl) ae (by rfl)))))),?_⟩
  refine⟨_,rfl,g,C,dx,_,_,rfl,hg,aw.cl,aw.nh,rS ..,.inl ⟨rfl,_,ah.of h1⟩,_,rfl,g,C,dx,_,_,rfl,hg,aw.cl,aw.nn,ju ..,_,rfl,g,C,dx,_,_,rfl,hg,aw.cl,aw.ns,iM ..,_,rfl,g,C,dx,_,_,rfl,hg,aw.cl,aw.nc,uV ..,by show 3<=sizeLine;decide,λp hp=>?_⟩;have s1:aa H (upd H p (.tup [.int B.n,.ref ls,.int B.c])):=(aa.refl H).upd hp;have i1:upd H p (.tup [.int B.n,.ref ls,.int B.c]) p=some (.tup [.int B.n,.ref ls,.int B.c]):=ak;generalize upd H p (.tup [.int B.n,.ref ls,.int B.c])=H1 at s1 i1;have lj:=hB.same s1;have np:=hB.not hp;refine⟨lh,_,_,rfl,rfl,s1 _ _ h1,bD (by rw[Y1];omega),?_⟩;have vM:g≠lh:=λz=>by rw[z,h1]at hg;cases hg
  have keep:∀a,a≠lh->∀o,H1 a=some o->upd H1 lh (.lst ((qs.map λq=>V.ref q.1)++[.ref p])) a=some o:=λa na o e=>by rw[aj na];exact e
  have nr:∀a∈rest,a≠lh:=λa ha z=>hB.nl (z▸ha);have pl:p≠lh:=λz=>np (z▸Y4 _ (Y9 ..));have jF:=keep g vM _ (s1 _ _ hg);have pV:El (upd H1 lh (.lst ((qs.map λq=>V.ref q.1)++[.ref p]))) rest ls B.es:=(he.same s1).on λa ha=>keep a (nr a ha);have sub:∀a∈rest,a∈p::rest:=λa ha=>Y4 _ ha;refine⟨_,rfl,g,C,dx,_,_,rfl,jF,aw.cl,aw.nh,rS ..,lh,_,rfl,.inl (ah.of ak),?_⟩;rw[Zo,Y1,lq];refine q _ (p::rest) ⟨hB.k1,hB.k5,hB.bM,hB.cu,hB.ok,⟨dx,ls,jF,pV.sub sub⟩,⟨qs++[(p,ls,(B.n,B.es,B.c))],by rw[ak,Ze];rfl,λy hy=>?_,by rw[Ze,h3];rfl⟩,λh hh=>?_,λz=>?_,λz=>?_,λa ha=>?_⟩ (λx hx=>?_) λc o e nc=>by rw[aj nc];exact s1 _ _ e
  ·rcases Y7.mp hy with z|z
   ·obtain⟨a1,a2,a3⟩:=h2 y z;exact⟨keep _ (nr _ a3) _ (s1 _ _ a1),((a2.same s1).on λa ha=>keep a (nr a ha)).sub sub,sub _ a3⟩
   ·rw[Y2.mp z];exact⟨keep _ pl _ i1,pV.sub sub,Y9 ..⟩
  ·rcases Y7.mp (show h∈B.hs++[(B.n,B.es,B.c)]from hh)with z|z
   ·exact hB.hh h z
   ·rw[Y2.mp z];exact⟨hB.bM,hB.cu,hB.ok⟩
  ·rcases Y5.mp z with z|z
   ·exact pl z.symm
   ·exact hB.nl z
  ·rcases Y5.mp z with z|z
   ·exact np (z▸Y9 ..)
   ·exact hB.ng z
  ·rcases Y5.mp ha with z|z
   ·exact⟨_,keep a (z▸pl) _ (z▸i1)⟩
   ·obtain⟨o,e⟩:=hB.lv a z;exact⟨o,keep a (nr a z) _ (s1 _ _ e)⟩
  ·rcases Y5.mp hx with z|z
   ·rw[z];exact .inr hp
   ·exact .inl z
def OX:aM ["self","number"] ["self","number"] (aF xb):=aP
def Vg{f C cH:Addr}{fd:FuncData}(F:aH K "back" "Survey.back" xb f fd)(Vh:mg "NoHold"=some (.ref cH))(Vi:dB K cH=true)(T:Txt K mg)(aw:dC K mg C):aA P w K mg base (bH P w) 1 f fd ["self","number"] (IW C cH):=by
 refine F.fh OX (λvs H Q E h=>?_) (λau A outer s H vs Q E hr h=>?_)
 ·obtain⟨g,lh,B,rest,i,rfl,_⟩:=h
  rfl
 ·obtain⟨g,lh,B,rest,i,rfl,hB,hl,q,qe⟩:=h;obtain⟨dx,ls,hg,he⟩:=id hB.ob;obtain⟨qs,h1,h2,h3⟩:=id hB.hl.ob;have lq:qs.length=B.hs.length:=by rw[<-h3,Y1]
  refine⟨_,(@sC _ _ _ _ _ (aY (PW.pt (iF (aK gG (pv 1) af (aI _)) (iA (aK gX (pv 1) (bB cA (by rfl) T.len PySem.boot_len (@aC _ _ _ _ _ (aO (pv 0) rfl) ae (by rfl))) (aI _))))) (@sO _ _ _ (jK rfl rfl Vh Vi (aq gD ae))) a7)
   (@sC _ _ _ _ _ (eO (pv 0) (eI iL (aO (pv 0) rfl) jN (cL (pv 1))) rfl)
   (@sC _ _ _ _ _ (gE (av aJ (aO (pv 0) rfl) (ay gV (pv 1) af) (λ_ _=>rfl)) (eM rfl (bA (zM (pv 0)) (bA (zM (pv 0)) (bA (zM (pv 0)) eJ)))))
   (@sO _ _ _ (@sR _ _ _ _ (pv 1)))))),?_⟩
  refine⟨_,rfl,_,_,rfl,rfl,_,rfl,bK (λz=>⟨by decide,qe (by have:=of_decide_eq_true z;omega)⟩) λz=>⟨_,rfl,_,rfl,g,C,dx,_,_,rfl,hg,aw.cl,aw.nh,rS ..,lh,_,rfl,.inl (ah.of h1),_,_,rfl,rfl,_,rfl,bK (λy=>⟨by decide,qe (by have:=of_decide_eq_true y;rw[Y1,lq]at this;omega)⟩) λy=>?_⟩⟩;have z:¬_:=λw=>z (ZN w);have y:¬_:=λw=>y (ZN w);rw[Y1,lq]at y;obtain⟨j,rfl⟩:∃j:Nat,i=(j:Int)+1:=⟨(i-1).toNat,by omega⟩;have hj:j<B.hs.length:=by omega
  obtain⟨x,ex⟩:∃x,qs[j]?=some x:=⟨_,Zd (by omega)⟩;have eh:B.hs[j]?=some x.2.2:=by rw[<-h3,Zf,ex];rfl
  obtain⟨x1,x2,x3⟩:=h2 x (Y6 ex);obtain⟨hn,hle,ao⟩:=hB.hh _ (Y6 eh);refine⟨_,rfl,g,C,dx,_,_,rfl,hg,aw.cl,aw.nh,rS ..,_,rfl,_,rfl,Se h1 λdm H1 dq Cg s1=>?_⟩;rw[show(j:Int)+1=((j+1:Nat):Int)from rfl,WW]at Cg;have c7:=s1 _ _ hg;have vH:=hB.not dq;have Nd:dm≠g:=λz=>vH (z▸Y9 ..);refine⟨_,rfl,g,C,dx,_,rfl,c7,aw.cl,aw.nh,(by show 5<1000;decide),?_⟩;rw[aaX];have keep:∀(o':HO) a,a≠g->∀o,H1 a=some o->upd H1 g o' a=some o:=λo' a na o e=>by rw[aj na];exact e
  have nr:∀a∈rest,a≠g:=λa ha z=>hB.ng (z▸ha);have xg:x.1≠g:=nr _ x3;refine⟨_,rfl,g,C,dx,_,_,rfl,ak,aw.cl,aw.nh,rS ..,_,rfl,_,_,rfl,rfl,ur (v:=.ref x.1) (keep _ dm Nd _ Cg) ?_ ?_⟩
  ·rw[show((j:Int)+1-1)=(j:Int)by omega];refine lM ?_;rw[List.getElem?_take,if_pos (by omega),Zf,ex];rfl
  refine⟨x.1,_,rfl,aV.of (keep _ _ xg _ (s1 _ _ x1)),rfl,_,_,rfl,_,rfl,g,C,dx,_,rfl,ak,aw.cl,aw.nn,(by show 5<1000;decide),?_⟩;rw[KY,kh];refine⟨_,_,rfl,_,rfl,g,C,dx,_,rfl,ak,aw.cl,aw.ns,(by show 5<1000;decide),?_⟩;rw[Aj,kh];refine⟨_,_,rfl,_,rfl,g,C,dx,_,rfl,ak,aw.cl,aw.nc,(by show 5<1000;decide),?_⟩;rw[KZ,kh];refine⟨rfl,?_⟩;have o':HO:=.ins C dx (bf B.k x.2.2.1 x.2.1 x.2.2.2.2 dm);refine⟨_,rfl,q j x.2.2 rfl eh _ dm ⟨hB.k1,hB.k5,hn,hle,ao,⟨dx,x.2.1,ak,(x2.same s1).on λa ha=>keep _ a (nr a ha)⟩,⟨qs.take (j+1),by rw[aj Nd,Cg,List.map_take],λy hy=>?_,by rw[List.map_take,h3];rfl⟩,λh hh=>hB.hh h (List.mem_of_mem_take hh),λz=>vH (Y4 _ (Y4 _ z)),hB.ng,λa ha=>?_⟩ dq λc o e nc=>by rw[aj nc];exact s1 _ _ e⟩
  ·obtain⟨a1,a2,a3⟩:=h2 y (List.mem_of_mem_take hy);exact⟨keep _ _ (nr _ a3) _ (s1 _ _ a1),(a2.same s1).on λa ha=>keep _ a (nr a ha),a3⟩
  ·obtain⟨o,e⟩:=hB.lv a ha;exact⟨o,keep _ a (nr a ha) _ (s1 _ _ e)⟩
def Py:aM ["_law_standing"] ["_law_standing"] (aF xK):=aP
def Vj{f:Addr}{fd:FuncData}(F:aH K "_law_rows" "_law_rows" xK f fd):aA P w K mg base aN 1 f fd ["_law_standing"] mY:=by
 refine F.ok Py (λvs H Q E h=>?_) (λau A outer s H vs Q E hr h=>?_)
 ·obtain⟨l,fp,es,rfl,_⟩:=h
  rfl
 ·obtain⟨l,fp,es,rfl,he,hl,q⟩:=h;obtain⟨ps,h1,h2,h3,h4,h5⟩:=he.ob;have lp:ps.length=es.length:=by rw[<-h3,Y1]
  refine⟨_,(@sO _ _ _ (@sR _ _ _ _ (Fw [] [] (bW (pv 0)) (λC s H fp=>aK cG (av (show e9 _ (cY (fH K))from bu) (pv 0) af (λ_ _=>rfl)) gD (aI _)) (λC s H fp=>cD (aq (av (show e9 _ (cY (fH K))from bu) (pv 0) af (λ_ _=>rfl)) (aq (av (show e9 _ (cY (fH K))from bu) (pv 0) af (λ_ _=>rfl)) (aq (av (show e9 _ (cY (fH K))from bu) (pv 0) af (λ_ _=>rfl)) (aq (av (show e9 _ (cY (fH K))from bu) (pv 0) af (λ_ _=>rfl)) ae))))) kq))),?_⟩;refine⟨_,rfl,l,rfl,⟨_,ah.of h1⟩,xG (xs:=ps.map λp=>V.ref p.1) λD hD=>⟨λi ys H2=>∃qs:Ps,ys=(qs.map λp=>V.ref p.1)/\qs.length<=i/\Tl H2 D qs/\qs.map (·.2)=rowsOf ((ps.take i).map (·.2))/\aa H H2,⟨[],rfl,Y3 _,⟨ak,(λ_ z=>nomatch z)⟩,rfl,(aa.refl H).upd hD⟩,?_,?_,?_⟩⟩
  ·rintro i ys H2 hi ⟨qs,rfl,ql,tl,_,s2⟩;rw[Y1]at hi;exact⟨s2.seq (ah.of h1),tl.is,bD (by rw[Y1];omega)⟩
  ·rintro i x ys H2 hi ⟨qs,rfl,ql,tl,er,s2⟩ Q1 Q0 q1 q0;rw[Zf]at hi;cases ei:ps[i]? with
   |none=>rw[ei]at hi;cases hi
   |some p=>
    rw[ei]at hi;cases hi;obtain⟨bN,mJ⟩:=ZL.mp ei;have hp:=s2 _ _ (h2 p (Y6 ei));have et:(ps.take (i+1)).map (·.2)=(ps.take i).map (·.2)++[p.2]:=by rw[Zj bN,mJ,Ze];rfl
    obtain⟨pa,pe⟩:=p;cases pe with
    |row j a k b=>
     refine⟨_,rfl,cC hp rfl ⟨rfl,_,rfl,jm (by decide+kernel) ?_⟩⟩;refine⟨_,rfl,cC hp rfl ⟨_,rfl,cC hp rfl ⟨_,rfl,cC hp rfl ⟨_,rfl,cC hp rfl ⟨by show 4<=sizeLine;decide,λt ht=>?_⟩⟩⟩⟩⟩;have nD:D≠t:=a9 tl.is ht;refine q1 _ _ (by rw[aj nD];exact tl.is) ⟨qs++[(t,[j,a,k,b])],by rw[Ze];rfl,by simp;omega,?_,?_,(s2.kF ht).upd hD⟩
     ·refine⟨by rw[ak,Ze];rfl,λp j6=>?_⟩;rcases Y7.mp j6 with e|e
      ·have:=tl.tp p e;have n1:p.1≠D:=λz=>by rw[z,tl.is]at this;cases this
       rw[aj n1,aj (a9 this ht)];exact this
      ·obtain rfl:=Y2.mp e;show upd _ D _ t=_;rw[aj nD.symm,ak];rfl
     ·rw[et,oR,Ze,er];rfl
    |ap j a b=>
     refine⟨_,rfl,cC hp rfl ⟨rfl,_,rfl,cy (by decide+kernel) ?_⟩⟩;refine q0 _ ⟨qs,rfl,by omega,tl,?_,s2⟩;rw[et,oR,er];exact(ZX _).symm
  ·rintro ys H2 ⟨qs,rfl,ql,tl,er,s2⟩;rw[Y1,ZE (Y3 _),h3]at er;exact q D qs H2 hD tl er s2
def A0:aM ["_law_labels","_law_one","_law_two","_law_low","_law_high"] ["_law_labels","_law_one","_law_two"] (aF MR):=aP
def abc{f:Addr}{fd:FuncData}(F:aH K "_law_joined" "_law_joined" MR f fd)(TM:pI mg):aA P w K mg base aN 1 f fd ["_law_labels","_law_one","_law_two"] (LK K):=by
 refine F.ok A0 (λvs H Q E h=>?_) (λau A outer s H vs Q E hr h=>?_)
 ·obtain⟨l,ls,a,b,rfl,_⟩:=h
  rfl
 ·obtain⟨l,ls,a,b,rfl,hl,ha,hb,hn,k⟩:=h
  refine⟨_,ba (bI (i:=3) A0.nd rfl (Or.inr rfl) (bB (xX rfl) (by rfl) TM.min zB (aq (av aJ (pv 0) (pv 1) (λ_ _=>rfl)) (aq (av aJ (pv 0) (pv 2) (λ_ _=>rfl)) ae))))
   <|ba (bI (i:=4) A0.nd rfl (Or.inr rfl) (bB (xW rfl) (by rfl) TM.max rA (aq (av aJ (pv 0) (pv 1) (λ_ _=>rfl)) (aq (av aJ (pv 0) (pv 2) (λ_ _=>rfl)) ae))))
   <|bx (iC (fW ["_law_low","_law_high"] [3,4] (bW (pv 0)) (λC s H fp=>Gw (aK cG (pv 0) (pv 2) (aI _)) (pv 1) (pv 0)) (yR rfl rfl))),?_⟩
  refine⟨_,rfl,_,rfl,aU a hl ha ⟨_,rfl,_,rfl,aU b hl hb ⟨_,_,rfl,?_⟩⟩⟩;rw[zC];refine⟨_,rfl,_,rfl,aU a hl ha ⟨_,rfl,_,rfl,aU b hl hb ⟨_,_,rfl,?_⟩⟩⟩;rw[zD];refine⟨_,rfl,l,rfl,⟨_,ah.of hl⟩,tU (λm=>if m=max (ls.getD a 0) (ls.getD b 0)then min (ls.getD a 0) (ls.getD b 0)else m) (ah.of hl) (bD (by omega)) (λz _ H' Q' q'=>?_) (rG k)⟩;refine⟨_,rfl,_,rfl,rfl,_,rfl,?_⟩;refine bK (λhe=>?_) (λhe=>?_)
  ·have he:z=max (ls.getD a 0) (ls.getD b 0):=by simpa using he
   rw[if_pos he]at q';exact⟨_,rfl,q'⟩
  ·have he:¬z=max (ls.getD a 0) (ls.getD b 0):=by simpa using he
   rw[if_neg he]at q';exact⟨_,rfl,q'⟩
def qP(a b:Int):decide (V.int a=V.int b)=decide (a=b):=by
 by_cases h:a=b
 ·rw[ZN h,h];exact ZN rfl
 ·rw[ZO h];exact ZO λz=>h (V.int.inj z)
def kM(l p q:List Int):Prop:=p.getD 2 0=q.getD 2 0->decide (l.getD (My.mk p 1) 0=l.getD (My.mk q 1) 0)=decide (l.getD (My.mk p (-1)) 0=l.getD (My.mk q (-1)) 0)
def Sw{ps:Ps}{l:List Int}(h:∀p∈ps,∀q∈ps,kM l p.2 q.2):closed (ps.map (·.2)) l:=by
 intro a ha b hb k s hs e;obtain⟨p,hp,rfl⟩:=Zh.mp ha;obtain⟨q,hq,rfl⟩:=Zh.mp hb;have f:=h p hp q hq k;have hs:s=1\/s= -1:=hs;rcases hs with rfl|rfl
 ·rw[ZN e]at f;exact of_decide_eq_true f.symm
 ·rw[ZN e]at f;exact of_decide_eq_true f
def Xo{rs:List (List Int)}{st:Ps}{n:Nat}{l p q:List Int}(h:dP n rs st l)(hp:p∈rs)(hq:q∈rs)(rp:b8 n p)(rq:b8 n q)(k:p.getD 2 0=q.getD 2 0)(fg:decide (l.getD (My.mk p 1) 0=l.getD (My.mk q 1) 0)≠decide (l.getD (My.mk p (-1)) 0=l.getD (My.mk q (-1)) 0))(c:Nat->Int)(cl:Cl rs st c):c (My.mk p 1)=c (My.mk q 1)/\c (My.mk p (-1))=c (My.mk q (-1)):=by
 by_cases e:l.getD (My.mk p 1) 0=l.getD (My.mk q 1) 0
 ·have e1:=h.snd c cl _ _ (rp.mk 1).2 (rq.mk 1).2 e;exact⟨e1,cl.2 p hp q hq k 1 (.inl rfl) e1⟩
 ·have e2:l.getD (My.mk p (-1)) 0=l.getD (My.mk q (-1)) 0:=by
   by_cases e2:l.getD (My.mk p (-1)) 0=l.getD (My.mk q (-1)) 0
   ·exact e2
   ·exact absurd (by rw[ZO e,ZO e2]) fg
  have e1:=h.snd c cl _ _ (rp.mk (-1)).2 (rq.mk (-1)).2 e2;exact⟨cl.2 p hp q hq k (-1) (.inr rfl) e1,e1⟩
structure rV(H0 H:Hp)(q:Addr)(n:Nat)(rs:List (List Int))(st:Ps)(l:List Int):Prop where
 lo:dP n rs st l
 il:ax H q l
 sa:aa H0 H
def gC:aM ["_law_marks","_law_rows_here","_law_start","_law_labels","_law_a","_law_b","_law_moving","_law_one","_law_two","_law_near","_law_far"] ["_law_marks","_law_rows_here","_law_start"] (aF Ks):=aP
def Vk{f:Addr}{fd:FuncData}(F:aH K "_law_folded" "_law_folded" Ks f fd)(T:Txt K mg)(J:bj P w K mg base "_law_joined" ["_law_labels","_law_one","_law_two"] 1 (LK K)):aA P w K mg base aN 2 f fd ["_law_marks","_law_rows_here","_law_start"] IC:=by
 refine F.ok gC (λvs H Q E h=>?_) (λau A outer s H vs Q E hr h=>?_)
 ·obtain⟨n,lr,ls,ps,st,rfl,_⟩:=h
  rfl
 ·obtain⟨n,lr,ls,ps,st,rfl,tr,ts,fj,bz,hn,bL,vA,k⟩:=h
  refine⟨_,(ba (bI (i:=3) gC.nd rfl (Or.inl rfl) (lJ (xq rfl) rfl T.list lN (aq (zy rfl T.range (aq (pv 0) ae)) ae)))
   (ba (cb Zm rfl (bW (pv 2)) (eM rfl (bA (aT (i:=4) gC.nd rfl (Or.inl rfl)) (bA (aT (i:=5) gC.nd rfl (Or.inl rfl)) eJ))) (bx (bI (i:=3) gC.nd rfl (Or.inl rfl) (J.pe hr (aq (pv 3) (aq (pv 4) (aq (pv 5) ae)))))))
   (ba (bI (i:=6) gC.nd rfl (Or.inl rfl) pB)
   (ba (tZ Zm (zm (pv 6)) (ba (bI (i:=6) gC.nd rfl (Or.inl rfl) pB)
   (bx (cb Zm rfl (bW (pv 1)) (aT (i:=7) gC.nd rfl (Or.inl rfl)) (bx (cb Zm rfl (bW (pv 1)) (aT (i:=8) gC.nd rfl (Or.inl rfl)) (ba (bI (i:=9) gC.nd rfl (Or.inl rfl) (o7 cG (av aJ (pv 3) (av bu (pv 7) af (λ_ _=>rfl)) (λ_ _=>rfl)) (av aJ (pv 3) (av bu (pv 8) af (λ_ _=>rfl)) (λ_ _=>rfl)) (aI _)))
   (ba (bI (i:=10) gC.nd rfl (Or.inl rfl) (o7 cG (av aJ (pv 3) (av bu (pv 7) af (λ_ _=>rfl)) (λ_ _=>rfl)) (av aJ (pv 3) (av bu (pv 8) af (λ_ _=>rfl)) (λ_ _=>rfl)) (aI _)))
   (bx (aY (PW.pt (rh (aK cG (av bu (pv 7) af (λ_ _=>rfl)) (av bu (pv 8) af (λ_ _=>rfl)) (aI _)) (qO (aK rD (pv 9) (pv 10) (aI _))))) (ba (bI (i:=3) gC.nd rfl (Or.inl rfl) (J.pe hr (aq (pv 3) (aq (av bu (pv 7) af (λ_ _=>rfl)) (aq (av bu (pv 8) af (λ_ _=>rfl)) ae)))))
   (ba (bI (i:=3) gC.nd rfl (Or.inl rfl) (J.pe hr (aq (pv 3) (aq (av bu (pv 7) af (λ_ _=>rfl)) (aq (av bu (pv 8) af (λ_ _=>rfl)) ae)))))
   (bx (bI (i:=6) gC.nd rfl (Or.inl rfl) pB)))) a7))))))))))
   (bx (iC (pv 3))))))),?_⟩
  refine⟨_,rfl,_,rfl,λr dG=>yp (K:=K) ak (by omega) λq H1 hq iq s1=>?_⟩;have s1:aa H H1:=((aa.refl H).upd dG).trans s1
  refine⟨_,rfl,ls,rfl,⟨_,ah.of (ts.same s1).is⟩,dS (K:=K) (a:=ls) (xs:=st.map λp=>V.ref p.1) (λi σ H2=>∃(x y:Option V) (q:Addr),σ=[some (.int n),some (.ref lr),some (.ref ls),some (.ref q),x,y,none,none,none,none,none]/\ax H2 q (dZ n (st.take i))/\aa H H2)
   ⟨none,none,q,rfl,iq,s1⟩ (λi σ H2 _ ⟨_,_,_,_,_,k2⟩=>ah.of (ts.same k2).is) ?_ ?_⟩
  ·rintro i y σ H2 hi ⟨x,z,q,rfl,i2,s2⟩;obtain⟨p,rfl,ep⟩:=m7 hi;obtain⟨a,b,er,ha,hb⟩:=bz p (Y6 ep);have ht:=(ts.same s2).tp p (Y6 ep);rw[er]at ht;have L2:=Fp (i:=i) bz;refine⟨p.1,_,rfl,aV.of ht,rfl,_,_,rfl,_,_,rfl,rfl,?_⟩;refine⟨_,rfl,_,rfl,_,rfl,q,_,a,b,rfl,i2,by rw[L2.len];exact ha,by rw[L2.len];exact hb,by rw[L2.len];omega,λq' H3 mC i3 s3=>?_⟩;refine⟨_,_,q',rfl,?_,s2.trans s3⟩;rw[Fo ep,er];exact i3
  rintro σ H2 ⟨x,z,q,rfl,i2,s2⟩;rw[Y1,List.take_length]at i2
  refine⟨λm σ H3=>∃(q:Addr) (l:List Int) (mv:Bool) (u v t w:Option V),σ=[some (.int n),some (.ref lr),some (.ref ls),some (.ref q),x,z,some (.bl mv),u,v,t,w]/\rV H H3 q n (ps.map (·.2)) st l/\(mv=false->∀p∈ps,∀q∈ps,kM l p.2 q.2)/\m=2*bt l+mv.toNat,
   ⟨_,q,_,true,none,none,none,none,rfl,⟨yr bz,i2,s2⟩,(λz=>nomatch z),rfl⟩,?_⟩
  rintro m σ H3 ⟨q,l,mv,u,v,t,w,rfl,ok,hf,rfl⟩;refine⟨_,rfl,mv,rfl,?_⟩;cases mv with
  |false=>exact cV ⟨_,rfl,k l q H3 ok.il ok.lo (Sw (hf rfl)) ok.sa⟩
  |true=>
   clear hf;refine fI ⟨λσ H4=>∃(q:Addr) (l':List Int) (mv:Bool) (u v t w:Option V),σ=[some (.int n),some (.ref lr),some (.ref ls),some (.ref q),x,z,some (.bl mv),u,v,t,w]/\rV H H4 q n (ps.map (·.2)) st l'/\(mv=false->∀p∈ps,∀q∈ps,kM l' p.2 q.2)/\bt l'+mv.toNat<=bt l,?_,?_⟩
   ·rintro σ H4 ⟨q,l',mv,u,v,t,w,rfl,fk,hf',hm⟩;refine⟨_,?_,q,l',mv,u,v,t,w,rfl,fk,hf',rfl⟩;have:mv.toNat<=1:=by cases mv<;>decide
    show 2*bt l'+mv.toNat<2*bt l+1;omega
   ·refine⟨_,rfl,lr,rfl,⟨_,ah.of (tr.same ok.sa).is⟩,dS (K:=K) (a:=lr) (xs:=ps.map λp=>V.ref p.1) (λi σ H4=>∃(q:Addr) (l':List Int) (mv:Bool) (u v t w:Option V),σ=[some (.int n),some (.ref lr),some (.ref ls),some (.ref q),x,z,some (.bl mv),u,v,t,w]/\rV H H4 q n (ps.map (·.2)) st l'/\(mv=false->∀p∈ps.take i,∀q∈ps,kM l' p.2 q.2)/\bt l'+mv.toNat<=bt l)
     ⟨q,l,false,u,v,t,w,rfl,ok,(λ_ _ z=>nomatch z),Y3 _⟩ (λi σ H4 _ ⟨_,_,_,_,_,_,_,_,o,_⟩=>ah.of (tr.same o.sa).is) ?_ (λσ H4 h=>?_)⟩
    rotate_left
    ·obtain⟨q,l',mv,u,v,t,w,e,o,hf,hm⟩:=h;rw[Y1,List.take_length]at hf;exact⟨q,l',mv,u,v,t,w,e,o,hf,hm⟩
    rintro i y σ H4 hi ⟨q4,l4,mv4,u4,v4,t4,w4,rfl,pY,Nf,Ng⟩;obtain⟨p1,rfl,Nh⟩:=m7 hi;have m1:=Y6 Nh
    refine⟨_,rfl,lr,rfl,⟨_,ah.of (tr.same pY.sa).is⟩,dS (K:=K) (a:=lr) (xs:=ps.map λp=>V.ref p.1) (λj σ H4=>∃(q:Addr) (l':List Int) (mv:Bool) (v t w:Option V),σ=[some (.int n),some (.ref lr),some (.ref ls),some (.ref q),x,z,some (.bl mv),some (.ref p1.1),v,t,w]/\rV H H4 q n (ps.map (·.2)) st l'/\(mv=false->(∀p∈ps.take i,∀q∈ps,kM l' p.2 q.2)/\∀q∈ps.take j,kM l' p1.2 q.2)/\bt l'+mv.toNat<=bt l)
     ⟨q4,l4,mv4,v4,t4,w4,rfl,pY,(λz=>⟨Nf z,λ_ z=>nomatch z⟩),Ng⟩ (λi σ H4 _ ⟨_,_,_,_,_,_,_,o,_⟩=>ah.of (tr.same o.sa).is) ?_ (λσ H4 h=>?_)⟩
    rotate_left
    ·obtain⟨q,l',mv,v,t,w,e,o,hf,hm⟩:=h;rw[Y1,List.take_length]at hf;refine⟨q,l',mv,_,v,t,w,e,o,λz p hp=>?_,hm⟩;obtain⟨mG,e1⟩:=ZL.mp Nh;rw[Zj mG]at hp;rcases Y7.mp hp with h'|h'
     ·exact(hf z).1 p h'
     ·rw[e1]at h';obtain rfl:=Y2.mp h';exact(hf z).2
    clear ok pY Ng Nf;rintro j y2 σ H5 fP ⟨q5,l5,Ni,v5,t5,w5,rfl,hZ,Nj,hm5⟩;obtain⟨p2,rfl,Nk⟩:=m7 fP;have m2:=Y6 Nk;have t1:=(tr.same hZ.sa).tp p1 m1;have t2:=(tr.same hZ.sa).tp p2 m2;have r1:=fj p1 m1;have r2:=fj p2 m2;obtain⟨n1,a1,k1,b1,Nl,Nm,Nn⟩:=fj p1 m1;obtain⟨n2,a2,k2,b2,Np,Nq,Nr⟩:=fj p2 m2;have x1:My.mk p1.2 1=a1/\My.mk p1.2 (-1)=b1/\p1.2.getD 2 0=k1:=by rw[Nl];exact⟨Za a1,Za b1,rfl⟩
    have x2:My.mk p2.2 1=a2/\My.mk p2.2 (-1)=b2/\p2.2.getD 2 0=k2:=by rw[Np];exact⟨Za a2,Za b2,rfl⟩
    rw[Nl]at t1;rw[Np]at t2;have L5:=hZ.lo.aG.len;refine⟨_,rfl,_,rfl,dH 1 t1 (show 1<4 by decide) (aU a1 hZ.il (by omega) ⟨_,rfl,_,rfl,dH 1 t2 (show 1<4 by decide) (aU a2 hZ.il (by omega) ⟨rfl,?_⟩)⟩)⟩;rw[qP];refine⟨_,rfl,_,rfl,dH 3 t1 (show 3<4 by decide) (aU b1 hZ.il (by omega) ⟨_,rfl,_,rfl,dH 3 t2 (show 3<4 by decide) (aU b2 hZ.il (by omega) ⟨rfl,?_⟩)⟩)⟩;rw[qP]
    have iJ:∀(t w:Option V),kM l5 p1.2 p2.2->∃(q:Addr) (l':List Int) (mv:Bool) (v t' w':Option V),([some (.int n),some (.ref lr),some (.ref ls),some (.ref q5),x,z,some (.bl Ni),some (.ref p1.1),some (.ref p2.1),t,w]:St)=[some (.int n),some (.ref lr),some (.ref ls),some (.ref q),x,z,some (.bl mv),some (.ref p1.1),v,t',w']/\rV H H5 q n (ps.map (·.2)) st l'/\(mv=false->(∀p∈ps.take i,∀q∈ps,kM l' p.2 q.2)/\∀q∈ps.take (j+1),kM l' p1.2 q.2)/\bt l'+mv.toNat<=bt l:=λt w hfi=>by
     refine⟨q5,l5,Ni,_,t,w,rfl,hZ,λz=>⟨(Nj z).1,λp hp=>?_⟩,hm5⟩;obtain⟨mG,e1⟩:=ZL.mp Nk;rw[Zj mG]at hp;rcases Y7.mp hp with h'|h'
     ·exact(Nj z).2 p h'
     ·rw[e1]at h';obtain rfl:=Y2.mp h';exact hfi
    refine⟨_,rfl,dH 2 t1 (show 2<4 by decide) ⟨_,rfl,dH 2 t2 (show 2<4 by decide) ⟨rfl,_,rfl,?_⟩⟩⟩;refine bK (λhk=>?_) (λhk=>iJ _ _ λz=>absurd z (by rw[x1.2.2,x2.2.2];simpa using hk));have hk:k1=k2:=by simpa using hk
    refine⟨_,rfl,_,rfl,rfl,_,rfl,?_⟩;refine bK (λfg=>?_) (λfg=>iJ _ _ λ_=>?_)
    rotate_left
    ·rw[x1.1,x1.2.1,x2.1,x2.2.1];simpa using fg
    have fg:decide (l5.getD a1 0=l5.getD a2 0)≠decide (l5.getD b1 0=l5.getD b2 0):=λe=>by
     rw[e]at fg;simp at fg
    have lt:=Yo hZ.lo.aG Nm Nq Nn Nr fg;have bo:=Xo hZ.lo (Zh.mpr ⟨p1,m1,rfl⟩) (Zh.mpr ⟨p2,m2,rfl⟩) r1 r2 (by rw[x1.2.2,x2.2.2];exact hk) (by rw[x1.1,x1.2.1,x2.1,x2.2.1];exact fg);rw[x1.1,x1.2.1,x2.1,x2.2.1]at bo;have lo6:=hZ.lo.jn bz Nm Nq λc cl=>(bo c cl).1;have lo7:=lo6.jn bz Nn Nr λc cl=>(bo c cl).2;refine⟨_,rfl,_,rfl,dH 1 t1 (show 1<4 by decide) ⟨_,rfl,dH 1 t2 (show 1<4 by decide) ⟨q5,l5,a1,a2,rfl,hZ.il,by omega,by omega,by omega,λq7 H7 f7 i7 s7=>?_⟩⟩⟩;refine⟨_,rfl,_,rfl,dH 3 (s7 _ _ t1) (show 3<4 by decide) ⟨_,rfl,dH 3 (s7 _ _ t2) (show 3<4 by decide) ⟨q7,_,b1,b2,rfl,i7,by rw[tV];omega,by rw[tV];omega,by rw[tV];omega,λq8 H8 f8 i8 s8=>?_⟩⟩⟩;refine⟨q8,_,true,_,_,_,rfl,⟨lo7,i8,(hZ.sa.trans s7).trans s8⟩,(λz=>nomatch z),?_⟩;show _+1<=_;omega
def EA:aM ["_law_table","_law_here","_law_one","_law_c"] ["_law_table","_law_here","_law_one"] (aF xU):=aP
def aae{f:Addr}{fd:FuncData}(F:aH K "_law_led" "_law_led" xU f fd)(T:Txt K mg):aA P w K mg base aN 1 f fd ["_law_table","_law_here","_law_one"] KW:=by
 refine F.ok EA (λvs H Q E h=>?_) (λau A outer s H vs Q E hr h=>?_)
 ·obtain⟨t,as,T',k,n,c,l,rfl,_⟩:=h
  rfl
 ·obtain⟨t,as,T',k,n,c,l,rfl,ht,ok,hn,kb,⟨l0,l1,l2⟩,q⟩:=h
  refine⟨_,(@sC _ _ _ _ _ (aY (aK gX (pv 2) af (aI _)) (@sO _ _ _ (@sR _ _ _ _ (av aJ (av aJ (pv 0) (pv 1) (λ_ _=>rfl)) (ay gV (pv 2) af) (λ_ _=>rfl)))) a7)
   (@sC _ _ _ _ _ (cb Zm rfl (gP rfl T.range (@aC _ _ _ _ _ (bB cA (by rfl) T.len PySem.boot_len (@aC _ _ _ _ _ (pv 0) ae (by rfl))) ae (by rfl))) (aT (i:=3) EA.nd rfl (Or.inl rfl)) (@sO _ _ _ (aY (aK cG (av aJ (av aJ (pv 0) (pv 3) (λ_ _=>rfl)) (ay gV (jh je (pv 2)) af) (λ_ _=>rfl)) (pv 1) (aI _)) (@sO _ _ _ (@sR _ _ _ _ (pv 3))) a7)))
   (@sO _ _ _ (@sR _ _ _ _ c8)))),?_⟩
  have rl:∀{i:Nat}{a:Addr},as[i]?=some a->i<n/\Row H a (T'.getD i [])/\(T'.getD i []).length=k:=λ{i a} ea=>by
   have bN:i<T'.length:=by rw[<-ht.len];exact(ZL.mp ea).1
   obtain⟨a',e1,_,e2,fS⟩:=ht.at bN;rw[ea]at e1;cases e1;exact⟨by rw[<-ok.len];exact bN,fS,ok.row _ (Y6 e2)⟩
  refine⟨_,rfl,_,_,rfl,rfl,_,rfl,bK (λhp=>?_) λhp=>?_⟩
  ·have hp:0<l:=of_decide_eq_true hp;obtain⟨a,ea,_⟩:=ht.at (i:=c) (by rw[ok.len];exact kb);obtain⟨_,gy,hlen⟩:=rl ea;refine⟨_,rfl,_,rfl,lU c ht ea ⟨_,rfl,_,_,rfl,rfl,nj (l-1).toNat gy (by omega) ?_ (by omega)⟩⟩;unfold cT at q;rw[if_pos hp]at q;exact q
  ·have hp:¬0<l:=λz=>hp (ZN z);unfold cT at q;rw[if_neg hp]at q;have e1:((as.map V.ref).length:Int)=n:=by rw[Y1,ht.len,ok.len]
   refine⟨_,rfl,t,_,rfl,.inl (ah.of ht.is),_,rfl,by omega,by omega,mW (lo:=0) (n:=((as.map V.ref).length:Int).toNat) (λi σ H2=>(∃x,σ=[some (.ref t),some (.int c),some (.int l),x])/\H2=H/\∀d:Nat,d<i->cell T' d (-l-1).toNat≠some (c:Int)) ⟨⟨none,rfl⟩,rfl,λd hd=>by omega⟩ ?_ ?_⟩
   ·rintro i σ H2 hi ⟨⟨x,rfl⟩,rfl,no⟩;have hi:i<n:=by rw[e1]at hi;omega
    obtain⟨a,ea,_⟩:=ht.at (i:=i) (by rw[ok.len];exact hi);obtain⟨_,gy,hlen⟩:=rl ea;refine⟨_,rfl,_,rfl,lU i ht ea ⟨_,rfl,_,rfl,_,_,rfl,rfl,nj (-l-1).toNat gy (by omega) ⟨_,rfl,?_⟩ (by omega)⟩ (by omega)⟩;have ce:(T'.getD i []).getD (-l-1).toNat none=cell T' i (-l-1).toNat:=rfl;rw[ce];cases ec:cell T' i (-l-1).toNat with
    |none=>exact⟨rfl,_,rfl,cV ⟨⟨_,rfl⟩,rfl,λd hd=>by
     by_cases z:d=i
     ·rw[z,ec];simp
     ·exact no d (by omega)⟩⟩
    |some e=>
     refine⟨rfl,_,rfl,bK (λhe=>?_) λhe=>?_⟩
     ·have he:e=c:=by simpa[oV]using he
      subst he;have:=(pd ok).mpr ⟨i,rfl,hi,ec⟩;rw[this]at q;refine⟨_,rfl,?_⟩;show Q (V.int (0+(i:Int))) H2;rw[Int.zero_add];exact q
     ·have he:e≠c:=by simpa[oV]using he
      exact⟨⟨_,rfl⟩,rfl,λd hd=>by
       by_cases z:d=i
       ·rw[z,ec];simpa using he
       ·exact no d (by omega)⟩
   ·rintro σ H2 ⟨⟨x,rfl⟩,rfl,no⟩;rw[e1,Za]at no
    have:pre T' (-l-1).toNat c=none:=by
     cases e:pre T' (-l-1).toNat c with
     |none=>rfl
     |some d=>
      obtain⟨m,_,hm,e2⟩:=(pd ok).mp e;exact absurd e2 (no m hm)
    rw[this]at q;exact q
def lF:aM ["_law_table","_law_kinds","_law_here","_law_draws","_law_way_here","_law_d","_law_some","_law_n","_law_one"] ["_law_table","_law_kinds","_law_here","_law_draws"] (aF xA):=aP
def Vl{f:Addr}{fd:FuncData}(F:aH K "_law_round" "_law_round" xA f fd)(T:Txt K mg)(LD:bj P w K mg base "_law_led" ["_law_table","_law_here","_law_one"] 1 KW):aA P w K mg base aN 2 f fd ["_law_table","_law_kinds","_law_here","_law_draws"] Jg:=by
 refine F.ok lF (λvs H Q E h=>?_) (λau A outer s H vs Q E hr h=>?_)
 ·obtain⟨t,as,T',k,n,c,da,ds,rfl,_⟩:=h
  rfl
 ·obtain⟨t,as,T',k,n,c,da,ds,rfl,ht,ok,k1,k5,hn,kb,hd,hdl,q⟩:=h
  refine⟨_,(@sC _ _ _ _ _ (@sS _ 4 _ _ _ _ _ lF.nd rfl (Or.inl rfl) (dU ae) (by rfl) (.inl rfl))
   (@sC _ _ _ _ _ (cb Zm rfl (bW (pv 3)) (aT (i:=5) lF.nd rfl (Or.inl rfl)) (@sC _ _ _ _ _ (@sS _ 6 _ _ _ _ _ lF.nd rfl (Or.inl rfl) (dU ae) (by rfl) (.inl rfl))
   (@sC _ _ _ _ _ (cb Zm rfl (gP rfl T.range (@aC _ _ _ _ _ (ay gW af (pv 1)) ae (by rfl))) (aT (i:=7) lF.nd rfl (Or.inl rfl)) (@sC _ _ _ _ _ (@sS _ 8 _ _ _ _ _ lF.nd rfl (Or.inl rfl) (ay gW (ay cQ (ay jM (pv 7) af) af) (ay gV af (ay gW af (ay bJ (pv 7) af)))) (by rfl) (.inl rfl))
   (@sO _ _ _ (aY (aK ki (LD.pe hr (@aC _ _ _ _ _ (pv 0) (@aC _ _ _ _ _ (pv 2) (@aC _ _ _ _ _ (pv 8) ae (by rfl)) (by rfl)) (by rfl))) c8 (aI _)) (@sO _ _ _ (bF (eQ PySem.F.plainAttrs_list PySem.F.slot_list_append PySem.F.type_list_append eG (pv 6) (@aC _ _ _ _ _ (pv 8) ae (by rfl))))) a7))))
   (@sO _ _ _ (aY (aK gX (bB cA (by rfl) T.len PySem.boot_len (@aC _ _ _ _ _ (pv 6) ae (by rfl))) af (aI _)) (@sC _ _ _ _ _ (@sS _ 8 _ _ _ _ _ lF.nd rfl (Or.inl rfl) (av aJ (pv 6) (ay bJ (pv 5) (bB cA (by rfl) T.len PySem.boot_len (@aC _ _ _ _ _ (pv 6) ae (by rfl)))) (λ_ _=>rfl)) (by rfl) (.inl rfl))
   (@sC _ _ _ _ _ (bF (eQ PySem.F.plainAttrs_list PySem.F.slot_list_append PySem.F.type_list_append eG (pv 4) (@aC _ _ _ _ _ (pv 8) ae (by rfl))))
   (@sO _ _ _ (@sS _ 2 _ _ _ _ _ lF.nd rfl (Or.inl rfl) (LD.pe hr (@aC _ _ _ _ _ (pv 0) (@aC _ _ _ _ _ (pv 2) (@aC _ _ _ _ _ (pv 8) ae (by rfl)) (by rfl)) (by rfl))) (by rfl) (.inl rfl))))) a7)))))
   (@sO _ _ _ (@sR _ _ _ _ (cD (@aC _ _ _ _ _ (pv 4) (@aC _ _ _ _ _ (pv 2) ae (by rfl)) (by rfl))))))),?_⟩
  refine qR (by simp) λlw H1 k9 ilw s1=>?_
  refine⟨_,rfl,da,rfl,⟨_,ah.of (s1.ints hd)⟩,dS (K:=K) (a:=da) (xs:=ds.map V.int) (λi σ H2=>∃(ws:List Int) (d:Nat) (x5 x6 x7 x8:Option V),σ=[some (.ref t),some (.int k),some (.int d),some (.ref da),some (.ref lw),x5,x6,x7,x8]/\ax H2 lw ws/\aa H H2/\(∀l∈ws,Let k l)/\j7 T' (some (c:Int)) ws=some (d:Int)/\d<n/\ws.length<=i)
   ⟨[],c,none,none,none,none,rfl,ilw,s1,(λ_ z=>nomatch z),rfl,kb,Zp _⟩ (λi σ H2 _ ⟨_,_,_,_,_,_,_,_,e,_⟩=>ah.of (e.ints hd)) ?_ ?_⟩
  ·rintro i x σ H2 hi ⟨ws,d,x5,x6,x7,x8,rfl,oC,s2,hl,ew,oI,wl⟩;obtain⟨dd,rfl,ed⟩:=jd hi;have oJ:i<ds.length:=(ZL.mp ed).1;refine qR (by simp) λls H3 ka vI s3=>?_;have Ci:H ls=none:=s2.free ka;have mQ:lw≠ls:=λz=>by rw[<-z,oC]at ka;cases ka
   refine⟨_,rfl,_,_,rfl,rfl,.inl ⟨by omega,by omega⟩,_,rfl,by omega,by omega,mW (lo:=0) (n:=(2*(k:Int)).toNat) (λj σ H6=>∃(os:List Int) (y7 y8:Option V),σ=[some (.ref t),some (.int k),some (.int d),some (.ref da),some (.ref lw),some (.int dd),some (.ref ls),y7,y8]/\ax H6 ls os/\ax H6 lw ws/\aa H H6/\(∀l∈os,Let k l/\∃e:Nat,cT T' d l=some (e:Int)/\e<n)/\os.length<=j)
    ⟨[],_,_,rfl,vI,s3.ints oC,s2.trans s3,(λ_ z=>nomatch z),Zp _⟩ ?_ ?_⟩
   ·rintro j σ H6 hj ⟨os,y7,y8,rfl,oK,fu,s6,ho,ol⟩;have hj:j<2*k:=by omega
    have Nt:=W5 hj;generalize qq:((j:Int)/2+1)*(1-2*((j:Int)%2))=l at Nt;have hl:Let k l:=yx.mp (Y6 Nt);have m0:=Zz (j:Int) (show(2:Int)≠0 by decide);have m1:=Zy (j:Int) (show(0:Int)<2 by decide);have el0:((0+(j:Int))/2+1)*(1-2*((0+(j:Int))%2))=l:=by rw[Int.zero_add];exact qq
    refine⟨_,rfl,_,_,rfl,rfl,⟨by show(0:Int)<2;decide,by show(2:Int)<1073741824;decide⟩,_,_,rfl,rfl,_,rfl,_,_,rfl,rfl,(by show(0:Int)<2;decide),_,_,rfl,rfl,.inl ⟨by decide,by decide⟩,_,_,rfl,rfl,_,_,rfl,rfl,.inl ⟨by omega,by omega⟩,?_⟩;show iG 8 (V.int (((0+(j:Int))/2+1)*(1-2*((0+(j:Int))%2)))) _ _ _;rw[el0];refine⟨_,rfl,_,rfl,_,rfl,t,as,T',k,n,d,l,rfl,ht.same s6,ok,hn,oI,hl,?_⟩;refine⟨rfl,_,rfl,?_⟩;cases e:cT T' d l with
    |none=>exact cV ⟨os,_,_,rfl,oK,fu,s6,ho,by omega⟩
    |some z=>
     obtain⟨z0,z1⟩:=uz ok e;obtain⟨m,rfl⟩:∃c:Nat,z=(c:Int):=⟨z.toNat,by omega⟩;refine fI ⟨_,rfl,.inl ⟨rfl,_,ah.of oK⟩,_,rfl,ls,_,_,rfl,rfl,oK,bD (by simp;omega),?_⟩;refine⟨os++[l],_,_,rfl,?_,fu.other mQ,s6.upd Ci,λx hx=>?_,by rw[Zo];simp;omega⟩
     ·show upd _ ls _ ls=_;rw[ak,Ze];rfl
     ·rcases Y7.mp hx with y|y
      ·exact ho x y
      ·rw[Y2.mp y];exact⟨hl,m,e,by omega⟩
   ·rintro σ H6 ⟨os,y7,y8,rfl,oK,fu,s6,ho,ol⟩;refine⟨_,rfl,ls,_,rfl,.inl (ah.of oK),_,_,rfl,rfl,_,rfl,?_⟩;by_cases h0:os.length=0
    ·refine cy (ZO (by rw[Y1,h0];decide)) ?_;exact⟨ws,d,_,_,_,_,rfl,fu,s6,hl,ew,oI,by omega⟩
    ·have p0:(0:Int)<((os.map V.int).length:Int):=by rw[Y1];omega
     refine jm (ZN p0) ?_;have a0:=Zz dd (show((os.map V.int).length:Int)≠0 by omega);have a1:=Zy dd p0;have a2:(dd%((os.map V.int).length:Int)).toNat<os.length:=by rw[Y1]at a0 a1⊢;omega
     refine⟨_,rfl,_,rfl,_,rfl,ls,_,rfl,.inl (ah.of oK),_,_,rfl,rfl,p0,aU (dd%((os.map V.int).length:Int)).toNat oK a2 ?_ (by omega)⟩;have ml:os.getD (dd%((os.map V.int).length:Int)).toNat 0∈os:=by rw[List.getD,Zd a2];exact ZA a2
     generalize os.getD (dd%((os.map V.int).length:Int)).toNat 0=l at ml;obtain⟨tm,m,e,hm⟩:=ho l ml;refine⟨_,rfl,.inl ⟨rfl,_,ah.of fu⟩,_,rfl,lw,_,_,rfl,rfl,fu,bD (by simp;omega),?_⟩;refine⟨_,rfl,_,rfl,_,rfl,t,as,T',k,n,d,l,rfl,ht.same (s6.upd k9),ok,hn,oI,tm,?_⟩;rw[e];refine⟨ws++[l],m,_,_,_,_,rfl,?_,s6.upd k9,λx hx=>?_,?_,hm,by rw[Zo];simp;omega⟩
     ·show upd _ lw _ lw=_;rw[ak,Ze];rfl
     ·rcases Y7.mp hx with y|y
      ·exact hl x y
      ·rw[Y2.mp y];exact tm
     ·rw[GY,ew];exact e
  ·rintro σ H2 ⟨ws,d,x5,x6,x7,x8,rfl,oC,s2,hl,ew,oI,wl⟩;rw[Y1]at wl;refine⟨_,rfl,_,rfl,(show 2<=sizeLine by decide),λp hp=>?_⟩;exact q p lw ws d _ (s2.free hp) k9 ak (by show upd _ _ _ _=_;rw[aj (a9 oC hp)];exact oC) hl ew oI wl (s2.trans ((aa.refl H2).upd hp))
def tQ:aM ["_law_kinds","_law_marks","_law_rows_here","_law_places","_law_table","_law_row"] ["_law_kinds","_law_marks","_law_rows_here"] (aF xB):=aP
def Sx{f:Addr}{fd:FuncData}(F:aH K "_law_chart" "_law_chart" xB f fd)(T:Txt K mg)(TM:pI mg)(LF:bj P w K mg base "_law_folded" ["_law_marks","_law_rows_here","_law_start"] 2 IC)(RK:bj P w K mg base "_law_ranked" ["_law_labels"] 1 uA):aA P w K mg base aN 3 f fd ["_law_kinds","_law_marks","_law_rows_here"] HJ:=by
 refine F.ok tQ (λvs H Q E h=>?_) (λau A outer s H vs Q E hr h=>?_)
 ·obtain⟨k,m,lr,ps,rfl,_⟩:=h
  rfl
 ·obtain⟨k,m,lr,ps,rfl,tl,fj,k5,m1,m6,pl,q⟩:=h
  refine⟨_,(@sC _ _ _ _ _ (@sS _ 3 _ _ _ _ _ tQ.nd rfl (Or.inl rfl) (RK.pe hr (@aC _ _ _ _ _ (LF.pe hr (@aC _ _ _ _ _ (pv 1) (@aC _ _ _ _ _ (pv 2) (@aC _ _ _ _ _ (dU ae) ae (by rfl)) (by rfl)) (by rfl))) ae (by rfl))) (by rfl) (.inl rfl))
   (@sC _ _ _ _ _ (GQ 4 ["_law_kinds"] [0] tQ.nd (gP rfl T.range (aq (ay cQ (bB (FZ rfl) (by rfl) TM.max rA (aq (pv 3) ae)) af) ae)) (λC s H fp=>fW [] [] (gP rfl T.range (aq (pv 1) ae)) (λC2 s2 H2 mK=>c8) kq) (jV rfl))
   (@sC _ _ _ _ _ (cb Zm rfl (bW (pv 2)) (aT (i:=5) tQ.nd rfl (Or.inl rfl)) (@sO _ _ _ (gE (av aJ (pv 3) (av bu (pv 5) af (λ_ _=>rfl)) (λ_ _=>rfl)) (zo (av aJ (pv 4) (av aJ (pv 3) (av bu (pv 5) af (λ_ _=>rfl)) (λ_ _=>rfl)) (λ_ _=>rfl)) (ay gV (av bu (pv 5) af (λ_ _=>rfl)) af) set_list))))
   (@sO _ _ _ (@sR _ _ _ _ (cD (@aC _ _ _ _ _ (pv 3) (@aC _ _ _ _ _ (pv 4) ae (by rfl)) (by rfl)))))))),?_⟩
  refine⟨_,rfl,_,rfl,jg (by show 0<=1000;decide) λle H1 hle ie s1=>⟨m,lr,le,ps,[],rfl,tl.same s1,⟨ie,(λ_ z=>nomatch z)⟩,λp hp=>(fj p hp).1,(λ_ z=>nomatch z),by omega,pl,by show 0<=1000;decide,λl p H2 il Nu cl s2=>?_⟩⟩;have ll:=Nu.aG.len;refine⟨p,l,rfl,il,by omega,λlp H3 hlp ip s3=>?_⟩;have cZ:=s1.trans (s2.trans s3);have fL:FL m (ps.map (·.2)) [] l:=⟨Nu,cl⟩
  have ok:fK k (nC (rk l)) m (rk l) (ps.map (·.2)):=zf ll (λr hr=>by
   obtain⟨p,hp,rfl⟩:=Zh.mp hr;exact fj p hp) cl
  have n7:=Ao l
  have Nv:rk l≠[]:=λz=>by
   have:=congrArg List.length z;rw[nH,ll]at this;simp at this;omega
  generalize ech:rk l=ch at ip ok n7 Nv;refine⟨_,rfl,Kc ip Nv λM hM vR=>⟨_,_,rfl,rfl,?_⟩⟩;obtain rfl:M=mx ch:=An (ok.bP M hM).1 (.inr hM) vR;have nci:=zO ch;refine⟨_,rfl,by omega,by omega,t9 (n:=(mx ch+1).toNat) (λ_=>List.replicate k none) (by omega) (λi hi H4 s4 Q' q'=>?_) λt as H4 N4=>?_⟩
  ·exact⟨_,rfl,_,rfl,by omega,by omega,Sn (k:=(k:Int).toNat) (by omega) λp H5 hp ip s5=>by
    rw[Za]at ip;exact q' p H5 hp ip s5⟩
  have eN:(mx ch+1).toNat=nC ch:=by omega
  rw[eN]at N4
  have e0:((List.range (nC ch)).map λ_=>List.replicate k (none:Option Int))=List.replicate (nC ch) (List.replicate k none):=by
   rw[List.map_const'];simp
  rw[e0]at N4
  refine⟨_,rfl,lr,rfl,⟨_,ah.of ((tl.same cZ).same N4.sm).is⟩,dS (K:=K) (a:=lr) (xs:=ps.map λp=>V.ref p.1) (λi σ H4=>∃(x5:Option V),σ=[some (.int k),some (.int m),some (.ref lr),some (.ref lp),some (.ref t),x5]/\eA H3 H4 t as (cj k (nC ch) ch ((ps.map (·.2)).take i)))
   ⟨none,rfl,N4⟩ (λi σ H4 _ ⟨_,_,N⟩=>ah.of ((tl.same cZ).same N.sm).is) ?_ ?_⟩
  ·rintro i y σ H4 hi ⟨x5,rfl,N⟩;obtain⟨p,rfl,ep⟩:=m7 hi;have hp:=Y6 ep;have ht:=((tl.same cZ).same N.sm).tp p hp;have rs:(ps.map (·.2))[i]?=some p.2:=by rw[Zf,ep];rfl
   have mr:=Y6 rs;obtain⟨ro,g1,g2⟩:=ok.row p.2 mr;obtain⟨a0,a1⟩:=ok.at mr 1;have ia:=(ro.mk 1).2;have ib:=(ro.mk (-1)).2;have ea:=(ro.mk 1).1;have eb:=(ro.mk (-1)).1;have rl4:=ro.len;have tD:=N.sm.ints ip;have ol:=ok.len;have Nx:=uc ok i (by rw[Y1];have:=(ZL.mp ep).1;omega);have Cj:(ch.getD (My.mk p.2 1) 0).toNat<(cj k (nC ch) ch ((ps.map (·.2)).take i)).length:=by rw[Nx.len];omega
   obtain⟨ra,era,Ny,eT,gy⟩:=N.tb.at Cj;have rl:((cj k (nC ch) ch ((ps.map (·.2)).take i)).getD (ch.getD (My.mk p.2 1) 0).toNat []).length=k:=Nx.row _ (Y6 eT);have Ck:(p.2.getD 2 0-1).toNat<k:=by omega
   refine⟨_,rfl,_,rfl,dH 3 ht (by omega) (aU (My.mk p.2 (-1)) tD (by omega) ⟨_,rfl,_,rfl,_,rfl,dH 1 ht (by omega) (aU (My.mk p.2 1) tD (by omega) (lU (ch.getD (My.mk p.2 1) 0).toNat N.tb era ⟨_,rfl,dH 2 ht (by omega) ⟨_,_,rfl,rfl,ra,_,p.2.getD 2 0-1,(p.2.getD 2 0-1).toNat,rfl,rfl,gy,Kd (by rw[Y1,rl];exact Ck) (by omega),⟨_,rfl,?_⟩⟩⟩ (by omega)) ea)⟩ eb)⟩
   have e1:cj k (nC ch) ch ((ps.map (·.2)).take (i+1))=kK ch (cj k (nC ch) ch ((ps.map (·.2)).take i)) p.2:=by
    obtain⟨bN,ei⟩:=ZL.mp rs;rw[Zj bN,ei];unfold cj;rw[xR]
   rw[e1];unfold kK;have:=N.set era (((cj k (nC ch) ch ((ps.map (·.2)).take i)).getD (ch.getD (My.mk p.2 1) 0).toNat []).set (p.2.getD 2 0-1).toNat (some (ch.getD (My.mk p.2 (-1)) 0)));rw[List.map_set]at this;exact this
  ·rintro σ H4 ⟨x5,rfl,N⟩;rw[Y1, <-Y1 (f:=(·.2)),List.take_length]at N;refine⟨_,rfl,_,rfl,by show 2<=sizeLine;decide,λp hp=>?_⟩;have q':=q p lp t as l (upd H4 p (.tup [.ref lp,.ref t]));have s5:aa H4 (upd H4 p (.tup [.ref lp,.ref t])):=(aa.refl H4).upd hp;rw[ech]at q';exact q' ak (s5.ints (N.sm.ints ip)) (N.tb.same s5) fL ((cZ.trans N.sm).trans s5)
def D5:aM ["kinds","table","row"] ["kinds","table"] (aF w9):=aP
def Vm{f C:Addr}{fd:FuncData}(F:aH K "check_shape" "check_shape" w9 f fd)(T:Txt K mg)(TC:mq K mg C):aA P w K mg base aN 1 f fd ["kinds","table"] II:=by
 obtain⟨_,B5⟩:=TC.Bs;obtain⟨_,hmc⟩:=TC.mcc;refine F.ok D5 (λvs H Q E h=>?_) (λau A outer s H vs Q E hr h=>?_)
 ·obtain⟨k,n,t,as,T',rfl,_⟩:=h
  rfl
 ·obtain⟨k,n,t,as,T',rfl,ht,ok,k1,k5,n1,n7,q⟩:=h
  refine⟨_,(@sC _ _ _ _ _ (aY (PW.pt (iF (aK gG (pv 0) af (aI _)) (iA (aK gX (pv 0) (iy (v:=.int 5) rfl B5 ⟨_,rfl⟩) (aI _))))) (@sO _ _ _ lL) a7)
   (@sC _ _ _ _ _ (aY (PW.pt (iF (aK gG (bB cA (by rfl) T.len PySem.boot_len (@aC _ _ _ _ _ (pv 1) ae (by rfl))) af (aI _)) (iA (aK gX (bB cA (by rfl) T.len PySem.boot_len (@aC _ _ _ _ _ (pv 1) ae (by rfl))) (iy (v:=.int 700) rfl hmc ⟨_,rfl⟩) (aI _))))) (@sO _ _ _ lL) a7)
   (@sO _ _ _ (cb Zm rfl (bW (pv 1)) (aT (i:=2) D5.nd rfl (Or.inl rfl)) (@sO _ _ _ (aY (aK rD (bB cA (by rfl) T.len PySem.boot_len (@aC _ _ _ _ _ (pv 2) ae (by rfl))) (pv 0) (aI _)) (@sO _ _ _ lL) a7)))))),?_⟩
  have hl:as.length=n:=by rw[ht.len,ok.len]
  have e1:((as.map V.ref).length:Int)=n:=by rw[Y1,hl]
  refine⟨_,rfl,_,_,rfl,rfl,_,rfl,cy (ZO (by omega)) ⟨_,rfl,_,_,rfl,rfl,_,rfl,cy (ZO (by omega)) ?_⟩⟩;refine⟨_,rfl,t,_,rfl,.inl (ah.of ht.is),_,_,rfl,rfl,_,rfl,cy (ZO (by omega)) ⟨_,rfl,t,_,rfl,.inl (ah.of ht.is),_,_,rfl,rfl,_,rfl,cy (ZO (by omega)) ?_⟩⟩;refine⟨_,rfl,t,rfl,⟨_,ah.of ht.is⟩,dS (K:=K) (a:=t) (xs:=as.map V.ref) (λi σ H2=>(∃x,σ=[some (.int k),some (.ref t),x])/\H2=H) ⟨⟨none,rfl⟩,rfl⟩ (λi σ H2 _ ⟨_,e⟩=>by rw[e];exact ah.of ht.is) ?_ ?_⟩
  ·rintro i x σ H2 hi ⟨⟨y,rfl⟩,rfl⟩;obtain⟨a,rfl,ea⟩:=IH hi;have bN:i<T'.length:=by rw[<-ht.len];exact(ZL.mp ea).1
   obtain⟨a',e1,_,e2,fS⟩:=ht.at bN;rw[ea]at e1;cases e1;have rl:((T'.getD i []).map oV).length=k:=by rw[Y1];exact ok.row _ (Y6 e2)
   refine⟨_,rfl,a,_,rfl,.inl (ah.of fS),_,rfl,rfl,_,rfl,cy ?_ ⟨⟨_,rfl⟩,rfl⟩⟩;rw[rl];simp
  ·rintro σ H2 ⟨⟨y,rfl⟩,rfl⟩;exact q
def tR:aM ["ends","found","chamber","there"] ["ends"] (aF xu):=aP
def aaf{f:Addr}{fd:FuncData}(F:aH K "beginnings" "beginnings" xu f fd)(T:Txt K mg):aA P w K mg base aN 1 f fd ["ends"] KR:=by
 refine F.ok tR (λvs H Q E h=>?_) (λau A outer s H vs Q E hr h=>?_)
 ·obtain⟨a,ends,rfl,_⟩:=h
  rfl
 ·obtain⟨a,ends,rfl,ha,ok,hl,q⟩:=h
  refine⟨_,(@sC _ _ _ _ _ (@sS _ 1 _ _ _ _ _ tR.nd rfl (Or.inl rfl) (ay uo.wr (dU (aq c8 ae)) (bB cA (by rfl) T.len PySem.boot_len (aq (pv 0) ae))) (by rfl) (.inl rfl))
   (@sC _ _ _ _ _ (cb Zm rfl (yO rfl T.enum yN (@aC _ _ _ _ _ (pv 0) ae (by rfl))) (eM rfl (bA (aT (i:=2) tR.nd rfl (Or.inl rfl)) (bA (aT (i:=3) tR.nd rfl (Or.inl rfl)) eJ))) (@sC _ _ _ _ _ (aY (aK zq (pv 3) c8 (aI _)) (@sO _ _ _ Qd) a7)
   (@sC _ _ _ _ _ (aY (PW.pt (iF (aK gG (pv 3) af (aI _)) (iA (aK pC (pv 3) (bB cA (by rfl) T.len PySem.boot_len (@aC _ _ _ _ _ (pv 0) ae (by rfl))) (aI _))))) (@sO _ _ _ lL) a7)
   (@sC _ _ _ _ _ (aY (aK ki (av aJ (pv 1) (pv 3) (λ_ _=>rfl)) c8 (aI _)) (@sO _ _ _ lL) a7)
   (@sO _ _ _ (gE (pv 2) (zo (pv 1) (pv 3) set_list)))))))
   (@sO _ _ _ (@sR _ _ _ _ (pv 1))))),?_⟩
  refine qR (by simp) λp H1 hp ip s1=>?_;have le:((ends.map oV).length:Int)=ends.length:=by rw[Y1]
  refine⟨_,rfl,a,_,rfl,.inl (ah.of (ha.same s1)),J0 (z:=none) ip (by omega) (λl H2 Bc il s2=>?_) le⟩;have bV:=s1.trans s2;have Cm:H l=none:=s1.free Bc
  refine⟨_,rfl,a,rfl,⟨_,ah.of (ha.same bV)⟩,GI (K:=K) (a:=a) (xs:=ends.map oV) (λi σ H3=>∃(fs:List (Option Int)) (x y:Option V),σ=[some (.ref a),some (.ref l),x,y]/\Row H3 l fs/\gR i ends fs/\aa H H3)
   ⟨_,none,none,rfl,il,gR.zero ends,bV⟩ (λi σ H3 _ ⟨_,_,_,_,_,_,s3⟩=>ah.of (ha.same s3)) ?_ ?_⟩
  ·rintro i v σ H3 tt hi vF ⟨fs,x,y,rfl,vS,bp,s3⟩;obtain⟨z,rfl,ez⟩:=WO hi;have aQ:l≠tt:=a9 vS vF;have s4:aa H (upd H3 tt (.tup [.int i,oV z])):=s3.kF vF;have vT:Row (upd H3 tt (.tup [.int i,oV z])) l fs:=by show upd _ _ _ _=_;rw[aj aQ];exact vS
   refine⟨tt,_,rfl,aV.of ak,rfl,_,_,rfl,_,_,rfl,rfl,?_⟩;generalize upd H3 tt (.tup [.int i,oV z])=H4 at s4 vT;have eg:=getD_some (d:=none) ez;cases z with
   |none=>exact⟨_,rfl,rfl,_,rfl,fI ⟨fs,_,_,rfl,vT,bp.skip eg,s4⟩⟩
   |some e=>
    obtain⟨e0,e1⟩:=ok.1 i e eg;obtain⟨m,rfl⟩:∃m:Nat,e=(m:Int):=⟨e.toNat,by omega⟩;have fr:=bp.free ok eg;have hm:m<fs.length:=by rw[bp.len];omega
    refine⟨_,rfl,rfl,_,rfl,cV ?_⟩;refine⟨_,rfl,_,_,rfl,rfl,_,rfl,cy (ZO (by omega)) ⟨_,rfl,_,rfl,a,_,rfl,.inl (ah.of (ha.same s4)),_,_,rfl,rfl,_,rfl,cy (ZO (by rw[le];omega)) ?_⟩⟩;refine⟨_,rfl,_,rfl,nj m vT hm ⟨rfl,_,rfl,?_⟩⟩;rw[fr];refine cV ⟨_,rfl,_,rfl,_,rfl,l,_,m,m,rfl,rfl,vT,?_,?_⟩
    ·unfold iR;rw[if_pos (by omega),if_pos (by rw[Y1];omega)];rfl
    ·refine⟨fs.set m (some (i:Int)),_,_,rfl,?_,bp.put ok eg,s4.upd Cm⟩;show upd _ _ _ _=_;rw[ak,List.map_set];rfl
  ·rintro σ H3 ⟨fs,x,y,rfl,vS,bp,s3⟩;rw[Y1]at bp;exact⟨_,rfl,q l fs H3 Cm vS bp s3⟩
def OE:aM ["self","kinds","table"] ["self","kinds","table"] (aF wH):=aP
def Xp{f C:Addr}{fd:FuncData}(F:aH K "__init__" "Chart.__init__" wH f fd)(T:Txt K mg)(TC:mq K mg C)(SH:bj P w K mg base "check_shape" ["kinds","table"] 1 II)(BG:bj P w K mg base "beginnings" ["ends"] 1 KR):
  aA P w K mg base aN 2 f fd ["self","kinds","table"] (zJ C):=by
 refine F.ok OE (λvs H Q E h=>?_) (λau A outer s H vs Q E hr h=>?_)
 ·obtain⟨g,dx,k,n,t,as,T',rfl,_⟩:=h
  rfl
 ·obtain⟨g,dx,k,n,t,as,T',rfl,hg,ht,ok,k1,k5,n1,n7,q⟩:=h
  refine⟨_,(@sC _ _ _ _ _ (bF (SH.pe hr (@aC _ _ _ _ _ (pv 1) (@aC _ _ _ _ _ (pv 2) ae (by rfl)) (by rfl))))
   (@sC _ _ _ _ _ (eO (pv 0) (pv 1) rfl)
   (@sC _ _ _ _ _ (eO (pv 0) (GP ["table"] [2] (gP rfl T.range (aq (pv 1) ae)) (λC s H fp=>fW ["place"] [0] (Br K rfl (pv 1)) (λC2 s2 H2 mK=>av (Bq K rfl) (pv 0) (pv 1) (λ_ _=>rfl)) (jV rfl)) (jV rfl)) rfl)
   (@sO _ _ _ (eO (pv 0) (fW [] [] (bW (aO (pv 0) rfl)) (λC s H fp=>BG.pe hr (aq (pv 0) ae)) kq) rfl))))),?_⟩
  have hT:T'.length<=1000:=by rw[ok.len];omega
  refine⟨_,rfl,_,rfl,k,n,t,as,T',rfl,ht,ok,k1,k5,n1,n7,?_⟩;refine⟨_,rfl,_,rfl,g,C,dx,[],rfl,hg,TC.cl,TC.nk,(by show 0<1000;decide),?_⟩
  have ag:∀a∈t::as,a≠g:=λa ha z=>by
   subst z;rcases Y5.mp ha with e|e
   ·subst e;rw[ht.is]at hg;cases hg
   ·obtain⟨i,hi,e⟩:=ZD e;have fP:i<T'.length:=by rw[<-ht.len];exact hi
    have:=ht.rw i a T'[i] (by simp[<-e,hi]) (by simp[fP]);rw[show H a=_ from this]at hg;cases hg
  have mD:Tb (upd H g (.ins C dx (aW "kinds" (.int k) []))) t as T':=ht.on λa ha o e=>by rw[aj (ag a ha)];exact e
  have c7:upd H g (.ins C dx (aW "kinds" (.int k) [])) g=some (.ins C dx (aW "kinds" (.int k) [])):=ak;have Nz:Kp g H (upd H g (.ins C dx (aW "kinds" (.int k) []))):=λc o e nc=>by rw[aj nc];exact e
  have kX:∀a,upd H g (.ins C dx (aW "kinds" (.int k) [])) a=none->H a=none:=λa ha=>by
   by_cases z:a=g
   ·rw[z,ak]at ha;cases ha
   ·rwa [aj z]at ha
  generalize upd H g (.ins C dx (aW "kinds" (.int k) []))=H1 at mD c7 Nz kX;refine⟨_,rfl,_,rfl,by omega,by omega,t9 (n:=(k:Int).toNat) (λj=>col T' j) (by omega) (λj hj H2 s2 Q' q'=>?_) λlo os H2 N2=>?_⟩
  ·refine⟨_,rfl,t,rfl,⟨_,ah.of (mD.same s2).is⟩,GU (j:=j) (mD.same s2) (by omega) (λa r fS H3 Q3 s3 h3 q3=>?_) λD hD=>q' D _ hD ak ((aa.refl _).upd hD)⟩;exact⟨_,rfl,_,rfl,nj j h3 (by rw[ok.row r fS];omega) q3 (by omega)⟩
  have e2:(List.range (k:Int).toNat).map (λj=>col T' j)=cols k T':=by rw[Za];rfl
  rw[e2]at N2;have ng:lo≠g:=λz=>by have:=N2.ft;rw[z,c7]at this;cases this
  have NA:∀a∈lo::os,a≠g:=λa ha z=>by
   rcases Y5.mp ha with e|e
   ·exact ng (e▸z)
   ·have:=N2.fa a e;rw[z,c7]at this;cases this
  refine⟨_,rfl,g,C,dx,_,rfl,N2.sm _ _ c7,TC.cl,TC.no,(by show 1<1000;decide),?_⟩;have mT:upd H2 g (.ins C dx (aW "onward" (.ref lo) (aW "kinds" (.int k) []))) g=some (.ins C dx (aW "onward" (.ref lo) (aW "kinds" (.int k) []))):=ak;have to3:Tb (upd H2 g (.ins C dx (aW "onward" (.ref lo) (aW "kinds" (.int k) [])))) lo os (cols k T'):=N2.tb.on λa ha o e=>by rw[aj (NA a ha)];exact e
  have NC:Kp g H1 (upd H2 g (.ins C dx (aW "onward" (.ref lo) (aW "kinds" (.int k) [])))):=λc o e nc=>by rw[aj nc];exact N2.sm _ _ e
  have cX:∀a,upd H2 g (.ins C dx (aW "onward" (.ref lo) (aW "kinds" (.int k) []))) a=none->H1 a=none:=λa ha=>by
   by_cases z:a=g
   ·rw[z,ak]at ha;cases ha
   ·rw[aj z]at ha;exact N2.sm.free ha
  generalize upd H2 g (.ins C dx (aW "onward" (.ref lo) (aW "kinds" (.int k) [])))=H3 at mT to3 NC cX;refine⟨_,rfl,g,C,dx,_,_,rfl,mT,TC.cl,TC.no,(by rw[lH,if_pos rfl]),lo,rfl,⟨_,ah.of to3.is⟩,FF (xs:=os.map V.ref) (λi r=>uK (col T' i) r) (ah.of to3.is) (by rw[Y1,to3.len,jL];omega) (λi x hi H4 s4 Q' q'=>?_) λli bs I H4 N4 lI hI=>?_⟩
  ·obtain⟨a,rfl,ea⟩:=IH hi
   have hik:i<k:=by
    have:=(ZL.mp ea).1;rw[to3.len,jL]at this;exact this
   have rT:Row H4 a (col T' i):=(to3.rw i a _ ea (yY T' hik)).same s4;exact⟨_,rfl,a,_,rfl,rT,ok.ends i,by rw[kr];omega,λl fs H5 hl hr5 hb s5=>q' l fs H5 hl hr5 hb s5⟩
  ·have ng4:li≠g:=λz=>by have:=N4.ft;rw[z,mT]at this;cases this
   have acd:∀a∈li::bs,a≠g:=λa ha z=>by
    rcases Y5.mp ha with e|e
    ·exact ng4 (e▸z)
    ·have:=N4.fa a e;rw[z,mT]at this;cases this
   refine⟨_,rfl,g,C,dx,_,rfl,N4.sm _ _ mT,TC.cl,TC.ni,(by show 2<1000;decide),?_⟩;rw[Y1,to3.len,jL]at lI;refine q _ (g::((lo::os)++(li::bs))) ⟨ok,k1,k5,n1,n7,dx,lo,li,os,bs,I,rfl,ak,?_,?_,lI,λj hj=>?_⟩ ?_ ?_
   ·exact(to3.same N4.sm).on λa ha o e=>by rw[aj (NA a ha)];exact e
   ·exact N4.tb.on λa ha o e=>by rw[aj (acd a ha)];exact e
   ·exact hI j _ (by simp[List.getD,lI,hj])
   ·intro a ha nag;rcases Y5.mp ha with e|e
    ·exact absurd e nag
    ·rcases Y7.mp e with e|e
     ·refine kX a ?_;rcases Y5.mp e with e|e
      ·rw[e];exact N2.ft
      ·exact N2.fa a e
     ·refine kX a (cX a ?_);rcases Y5.mp e with e|e
      ·rw[e];exact N4.ft
      ·exact N4.fa a e
   ·intro c o e nc;rw[aj nc];exact N4.sm _ _ (NC _ _ (Nz _ _ e nc) nc)
def O7:aM ["self"] ["self"] (aF xr):=aP
def Xq{f C:Addr}{fd:FuncData}(F:aH K "size" "Chart.size" xr f fd)(T:Txt K mg)(TC:mq K mg C):aA P w K mg base aN 1 f fd ["self"] (uy C):=by
 refine F.ok O7 (λvs H Q E h=>?_) (λau A outer s H vs Q E hr h=>?_)
 ·obtain⟨g,k,n,T',fp,rfl,_⟩:=h
  rfl
 ·obtain⟨g,k,n,T',fp,rfl,hc,q⟩:=h;obtain⟨dx,lo,li,as,bs,I,rfl,hg,h1,h2,h3,h4⟩:=hc.ob;refine⟨_,(@sO _ _ _ (@sR _ _ _ _ (bB cA (by rfl) T.len PySem.boot_len (@aC _ _ _ _ _ (av aJ (aO (pv 0) rfl) af (λ_ _=>rfl)) ae (by rfl))))),?_⟩;obtain⟨a,ea,_,e0,dG⟩:=h1.at (i:=0) (by rw[jL];exact hc.k1);rw[xZ T' hc.k1]at dG;refine⟨_,rfl,g,C,dx,_,_,rfl,hg,TC.cl,TC.no,zI ..,lU 0 h1 ea ⟨a,_,rfl,.inl (ah.of dG),?_⟩⟩;rw[Y1,kr,hc.ok.len];exact q
def OY:aM ["self"] ["self"] (aF w6):=aP
def Xr{f C:Addr}{fd:FuncData}(F:aH K "table" "Chart.table" w6 f fd)(T:Txt K mg)(TC:mq K mg C)(SZ:cg P w K mg base C "size" ["self"] 1 (uy C)):aA P w K mg base aN 2 f fd ["self"] (zK C):=by
 refine F.ok OY (λvs H Q E h=>?_) (λau A outer s H vs Q E hr h=>?_)
 ·obtain⟨g,k,n,T',fp,rfl,_⟩:=h
  rfl
 ·obtain⟨g,k,n,T',fp,rfl,hc,q⟩:=h;obtain⟨dx,lo,li,as,bs,I,rfl,hg,h1,h2,h3,h4⟩:=id hc.ob;refine⟨_,(@sO _ _ _ (@sR _ _ _ _ (GP ["self"] [0] (gP rfl T.range (aq (SZ.cS hr (pv 0)) ae)) (λC s H fp=>fW ["chamber"] [0] (Br K rfl (MA K rfl (pv 1) rfl)) (λC2 s2 H2 mK=>av (Bq K rfl) (pv 0) (pv 1) (λ_ _=>rfl)) (jV rfl)) (jV rfl)))),?_⟩;have:=hc.k5;have:=hc.n7;refine⟨_,rfl,g,dx,_,rfl,hg,kA ..,g,k,n,T',_,rfl,hc,_,rfl,by omega,by omega,t9 (n:=(n:Int).toNat) (λc=>col (cols k T') c) (by omega) (λc A8 H2 s2 Q' q'=>?_) λD as2 H2 N2=>?_⟩
  ·refine⟨_,rfl,g,C,dx,_,_,rfl,s2 _ _ hg,TC.cl,TC.no,zI ..,lo,rfl,⟨_,ah.of (h1.same s2).is⟩,GU (j:=c) (h1.same s2) (by rw[jL];omega) (λa r fS H3 Q3 s3 h3 q3=>?_) λD hD=>q' D _ hD ak ((aa.refl _).upd hD)⟩;obtain⟨j,_,rfl⟩:=Zh.mp fS;exact⟨_,rfl,_,rfl,nj c h3 (by rw[kr,hc.ok.len];omega) q3 (by omega)⟩
  ·have e:(List.range (n:Int).toNat).map (λc=>col (cols k T') c)=T':=by
    rw[Za];exact R9 hc.ok
   rw[e]at N2;exact q D as2 H2 N2.ft N2.fa N2.nd N2.tb N2.sm
def DO:aM ["self","chamber"] ["self","chamber"] (aF tL):=aP
def aag{f C:Addr}{fd:FuncData}(F:aH K "check_chamber" "Chart.check_chamber" tL f fd)(SZ:cg P w K mg base C "size" ["self"] 1 (uy C)):aA P w K mg base aN 2 f fd ["self","chamber"] (KS C):=by
 refine F.ok DO (λvs H Q E h=>?_) (λau A outer s H vs Q E hr h=>?_)
 ·obtain⟨g,k,n,T',fp,c,rfl,_⟩:=h
  rfl
 ·obtain⟨g,k,n,T',fp,c,rfl,hc,kb,q⟩:=h;obtain⟨dx,lo,li,as,bs,I,rfl,hg,_⟩:=id hc.ob;refine⟨_,(@sO _ _ _ (aY (PW.pt (iF (aK gG (pv 1) af (aI _)) (iA (aK pC (pv 1) (SZ.cS hr (pv 0)) (aI _))))) (@sO _ _ _ lL) a7)),?_⟩;exact⟨_,rfl,_,_,rfl,rfl,_,rfl,cy (ZO (by omega)) ⟨_,rfl,_,rfl,g,dx,_,rfl,hg,kA ..,g,k,n,T',_,rfl,hc,_,_,rfl,rfl,_,rfl,cy (ZO (by omega)) q⟩⟩
def aah{f:Addr}{fd:FuncData}(F:aH K "check_letters" "check_letters" tO f fd)(T:Txt K mg):aA P w K mg base aN 1 f fd ["kinds","way"] KU:=by
 refine F.ok tN (λvs H Q E h=>?_) (λau A outer s H vs Q E hr h=>?_)
 ·obtain⟨k,wa,ws,rfl,_⟩:=h
  rfl
 ·obtain⟨k,wa,ws,rfl,hw,hl,q⟩:=h;refine⟨_,(@sO _ _ _ (cb Zm rfl (bW (pv 1)) (aT (i:=2) tN.nd rfl (Or.inl rfl)) (@sO _ _ _ (aY (PW.pt (iF (aK cG (pv 2) af (aI _)) (iA (aK gX (bB GA (by rfl) T.abs JM (@aC _ _ _ _ _ (pv 2) ae (by rfl))) (pv 0) (aI _))))) (@sO _ _ _ lL) a7)))),?_⟩;refine⟨_,rfl,wa,rfl,⟨_,ah.of hw⟩,dS (K:=K) (a:=wa) (xs:=ws.map V.int) (λi σ H2=>(∃x,σ=[some (.int k),some (.ref wa),x])/\H2=H) ⟨⟨none,rfl⟩,rfl⟩ (λi σ H2 _ ⟨_,e⟩=>by rw[e];exact ah.of hw) ?_ ?_⟩
  ·rintro i x σ H2 hi ⟨⟨y,rfl⟩,rfl⟩;obtain⟨l,rfl,el⟩:=jd hi;obtain⟨l0,l1,l2⟩:=hl l (Y6 el);refine⟨_,rfl,rfl,_,rfl,cy (ZO (λz=>l0 (V.int.inj z))) ⟨_,rfl,_,rfl,_,rfl,_,_,rfl,rfl,_,rfl,cy (ZO ?_) ⟨⟨_,rfl⟩,rfl⟩⟩⟩;split<;>omega
  ·rintro σ H2 ⟨⟨y,rfl⟩,rfl⟩;exact q
def O8:aM ["self","chamber","letter"] ["self","chamber","letter"] (aF xt):=aP
def Xs{f C:Addr}{fd:FuncData}(F:aH K "step" "Chart.step" xt f fd)(TC:mq K mg C)(CC:cg P w K mg base C "check_chamber" ["self","chamber"] 2 (KS C))(CL:bj P w K mg base "check_letters" ["kinds","way"] 1 KU):
  aA P w K mg base aN 3 f fd ["self","chamber","letter"] (J1 C):=by
 refine F.ok O8 (λvs H Q E h=>?_) (λau A outer s H vs Q E hr h=>?_)
 ·obtain⟨g,k,n,T',fp,c,l,rfl,_⟩:=h
  rfl
 ·obtain⟨g,k,n,T',fp,c,l,rfl,hc,kb,hl,q⟩:=h;obtain⟨dx,lo,li,as,bs,I,rfl,hg,h1,h2,h3,h4⟩:=id hc.ob;have⟨l0,l1,l2⟩:=hl
  refine⟨_,(@sC _ _ _ _ _ (bF (CC.pe hr (pv 0) (@aC _ _ _ _ _ (pv 1) ae (by rfl))))
   (@sC _ _ _ _ _ (bF (CL.pe hr (@aC _ _ _ _ _ (aO (pv 0) rfl) (@aC _ _ _ _ _ (@eL _ _ _ _ (@aC _ _ _ _ _ (pv 2) ae (by rfl))) ae (by rfl)) (by rfl))))
   (@sC _ _ _ _ _ (aY (aK gX (pv 2) af (aI _)) (@sO _ _ _ (@sR _ _ _ _ (av aJ (av aJ (aO (pv 0) rfl) (ay gV (pv 2) af) (λ_ _=>rfl)) (pv 1) (λ_ _=>rfl)))) a7)
   (@sO _ _ _ (@sR _ _ _ _ (av aJ (av aJ (aO (pv 0) rfl) (ay gV (jh je (pv 2)) af) (λ_ _=>rfl)) (pv 1) (λ_ _=>rfl))))))),?_⟩
  refine⟨_,rfl,g,dx,_,rfl,hg,kA ..,_,rfl,g,k,n,T',_,c,rfl,hc,kb,?_⟩;refine⟨_,rfl,g,C,dx,_,_,rfl,hg,TC.cl,TC.nk,Ai ..,_,rfl,lP [l] λla H1 Cm ila s1=>⟨k,la,[l],rfl,ila,(λx hx=>by rw[Y2.mp hx];exact hl),?_⟩⟩;have q:=q H1 s1;have hc:=hc.same s1;obtain⟨dx,lo,li,as,bs,I,ND,hg,h1,h2,h3,h4⟩:=id hc.ob;refine⟨_,rfl,_,_,rfl,rfl,_,rfl,bK (λhp=>?_) λhp=>?_⟩
  ·have hp:0<l:=of_decide_eq_true hp;have hj:(l-1).toNat<k:=by omega
   obtain⟨a,ea,_,e0,gy⟩:=h1.at (i:=(l-1).toNat) (by rw[jL];exact hj);rw[xZ T' hj]at gy;refine⟨_,rfl,g,C,dx,_,_,rfl,hg,TC.cl,TC.no,zI ..,_,rfl,_,_,rfl,rfl,lU (l-1).toNat h1 ea ⟨_,rfl,nj c gy (by rw[kr,hc.ok.len];exact kb) ?_⟩ (by omega)⟩;unfold cT at q;rw[if_pos hp]at q;rw[mX];exact q
  ·have hp:¬0<l:=λz=>hp (ZN z);have hj:(-l-1).toNat<k:=by omega
   obtain⟨a,ea,_,e0,gy⟩:=h2.at (i:=(-l-1).toNat) (by rw[h3];exact hj);have bg:=h4 _ hj;refine⟨_,rfl,g,C,dx,_,_,rfl,hg,TC.cl,TC.ni,YC ..,_,rfl,_,rfl,_,_,rfl,rfl,lU (-l-1).toNat h2 ea ⟨_,rfl,nj c gy (by rw[bg.len,kr,hc.ok.len];exact kb) ?_⟩ (by omega)⟩;unfold cT at q;rw[if_neg hp]at q;rw[WT hc.ok bg];exact q
def Oy:aM ["chart"] ["chart"] (aF wD):=aP
def aai{f C:Addr}{fd:FuncData}(F:aH K "letters_in_order" "letters_in_order" wD f fd)(T:Txt K mg)(TC:mq K mg C):aA P w K mg base aN 1 f fd ["chart"] (K7 C):=by
 refine F.ok Oy (λvs H Q E h=>?_) (λau A outer s H vs Q E hr h=>?_)
 ·obtain⟨g,k,n,T',fp,rfl,_⟩:=h
  rfl
 ·obtain⟨g,k,n,T',fp,rfl,hc,q⟩:=h;obtain⟨dx,lo,li,as,bs,I,rfl,hg,h1,h2,h3,h4⟩:=id hc.ob;have k5:=hc.k5;refine⟨_,(@sO _ _ _ (@sR _ _ _ _ (UL [] [] (RL rfl T.range (aq af (aq (ay cQ (aO (pv 0) rfl) af) ae))) (λC s H fp=>pit K rfl (cD (aq (pv 0) (aq (jh je (pv 0)) ae)))) (λC s H fp=>pv 1) kq))),?_⟩;refine⟨_,rfl,g,C,dx,_,_,rfl,hg,TC.cl,TC.nk,Ai ..,_,_,rfl,rfl,_,_,rfl,⟨by omega,by omega⟩,QU (λi=>[1+(i:Int), -(1+(i:Int))]) (by omega) (λ_=>rfl) (λi hi y0 H2 Q' q'=>⟨_,rfl,_,rfl,_,rfl,q'⟩) λD H' hD mM s2=>q D H' hD ?_ s2⟩;have e:((k:Int)+1-1).toNat=k:=by omega
  rw[e]at mM;exact mM
def lG:aM ["chart","base","ways","order","at","chamber","letter","there"] ["chart","base"] (aF xI):=aP
def Xt{f C:Addr}{fd:FuncData}(F:aH K "ways_from" "ways_from" xI f fd)(T:Txt K mg)(LI:bj P w K mg base "letters_in_order" ["chart"] 1 (K7 C))(SE:cg P w K mg base C "step" ["self","chamber","letter"] 3 (J1 C)):
  aA P w K mg base aN 4 f fd ["chart","base"] (Kh C):=by
 refine F.ok lG (λvs H Q E h=>?_) (λau A outer s H vs Q E hr h=>?_)
 ·obtain⟨g,k,n,T',fp,b,rfl,_⟩:=h
  rfl
 ·obtain⟨g,k,n,T',fp,b,rfl,hc,hb,q⟩:=h;obtain⟨dx,lo,li,as,bs,I,rfl,hg,_⟩:=id hc.ob;have fU:=rF hr;have k5:=hc.k5;have n7:=hc.n7
  refine⟨_,(@sC _ _ _ _ _ (@sS _ 2 _ _ _ _ _ lG.nd rfl (Or.inl rfl) (Ww (Uj (pv 1) (dU ae) Wv) rfl rfl (by simp) (by decide)) (by rfl) (.inl rfl))
   (@sC _ _ _ _ _ (@sS _ 3 _ _ _ _ _ lG.nd rfl (Or.inl rfl) (@eL _ _ _ _ (@aC _ _ _ _ _ (pv 1) ae (by rfl))) (by rfl) (.inl rfl))
   (@sC _ _ _ _ _ (@sS _ 4 _ _ _ _ _ lG.nd rfl (Or.inl rfl) af (by rfl) (.inl rfl))
   (@sC _ _ _ _ _ (tZ Zm (aK gG (pv 4) (bB cA (by rfl) T.len PySem.boot_len (@aC _ _ _ _ _ (pv 3) ae (by rfl))) (aI _)) (@sC _ _ _ _ _ (@sS _ 5 _ _ _ _ _ lG.nd rfl (Or.inl rfl) (av aJ (pv 3) (pv 4) (λ_ _=>rfl)) (by rfl) (.inl rfl))
   (@sC _ _ _ _ _ (cb Zm rfl (bW (LI.pe hr (@aC _ _ _ _ _ (pv 0) ae (by rfl)))) (aT (i:=6) lG.nd rfl (Or.inl rfl)) (@sC _ _ _ _ _ (@sS _ 7 _ _ _ _ _ lG.nd rfl (Or.inl rfl) (SE.pe hr (pv 0) (@aC _ _ _ _ _ (pv 5) (@aC _ _ _ _ _ (pv 6) ae (by rfl)) (by rfl))) (by rfl) (.inl rfl))
   (@sO _ _ _ (aY (PW.pt (rh (aK ki (pv 7) c8 (aI _)) (qO (zk (Fm fU (pv 7) (pv 2)) rfl)))) (@sC _ _ _ _ _ (yP fU (pv 2) (pv 7) (ay ko (ug fU (pv 2) (pv 5) (λ_ _=>rfl)) (@eL _ _ _ _ (@aC _ _ _ _ _ (pv 6) ae (by rfl)))) rfl)
   (@sO _ _ _ (bF (eQ PySem.F.plainAttrs_list PySem.F.slot_list_append PySem.F.type_list_append eG (pv 3) (@aC _ _ _ _ _ (pv 7) ae (by rfl)))))) a7))))
   (@sO _ _ _ (XY (i:=4) lG.nd rfl (Or.inl rfl) af XZ)))))
   (@sO _ _ _ (WZ (pv 2))))))),?_⟩
  refine λd hd=>⟨_,rfl,qR (by simp) λa0 H1 NF ia0 s1=>⟨s1 _ _ ak,[(.inl (b:Int),.ref a0)],rfl,by simp,?_⟩⟩;have hda:a0≠d:=λz=>by rw[z,ak]at NF;cases NF
  have Cn:aa H (upd H1 d (.dK (ky [] [(.inl (b:Int),.ref a0)]))):=(((aa.refl H).upd hd).trans s1).upd hd;have NG:upd H1 d (.dK (ky [] [(.inl (b:Int),.ref a0)])) d=some (.dK (fT [(b,a0,[])])):=by rw[ak];rfl
  have Co:ax (upd H1 d (.dK (ky [] [(.inl (b:Int),.ref a0)]))) a0 []:=by show upd _ _ _ _=_;rw[aj hda];exact ia0
  generalize upd H1 d (.dK (ky [] [(.inl (b:Int),.ref a0)]))=H2 at Cn NG Co;refine⟨_,rfl,lP [(b:Int)] λlo H3 vj ilo s3=>?_⟩
  have ws3:WS H H3 d lo [(b,a0,[])]:=by
   refine⟨⟨s3 _ _ NG,λp hp=>?_⟩,ilo,λp hp=>?_,hd,Cn.free vj,Cn.trans s3⟩
   ·rw[Y2.mp hp];exact s3.ints Co
   ·rw[Y2.mp hp];intro z;have z:a0=lo:=z;rw[<-z,Co]at vj;cases vj
  refine Gz (λσ H4=>∃(W:Wy) (i:Nat) (x5 x6 x7:Option V),σ=[some (.ref g),some (.int b),some (.ref d),some (.ref lo),some (.int i),x5,x6,x7]/\WS H H4 d lo W/\kJ T' k n b W/\i<=W.length/\nT T' k (n+1-i) i (era W)=AY T' k n b)
   (λσ H4=>match σ with|[_,_,_,_,some (.int i),_,_,_]=>n+1-i.toNat|_=>0) ⟨_,0,none,none,none,rfl,ws3,kJ.zero hb a0,Zp _,rfl⟩ ?_ ?_
  ·rintro σ H4 ⟨W,i,x5,x6,x7,rfl,ws,wi,hi,eb⟩
   have wl:W.length<=n:=by
    have:=gq.len (n:=n) (O:=keys W) ⟨wi.nd,λc hc=>by obtain⟨p,hp,rfl⟩:=Zh.mp hc;exact wi.lt p hp⟩;unfold keys at this;rwa [Y1]at this
   have el:((((keys W).map λ(c:Nat)=>(c:Int)).map V.int).length:Int)=W.length:=by simp[keys]
   refine⟨_,rfl,_,rfl,lo,_,rfl,.inl (ah.of ws.io),_,_,rfl,rfl,_,rfl,?_⟩;rw[el];refine bK (λaQ=>?_) λqi=>?_
   ·have aQ:(i:Int)<W.length:=of_decide_eq_true aQ;have aQ:i<W.length:=by omega
    have j9:i<(era W).length:=by unfold era;rw[Y1];exact aQ
    have eW:W[i]?=some W[i]:=by simp[aQ]
    generalize hp:W[i]=p at eW;have mp:p∈W:=Y6 eW
    have ec:((keys W).map λ(c:Nat)=>(c:Int)).getD i 0=(p.1:Int):=by
     have:(keys W)[i]?=some p.1:=by unfold keys;rw[Zf,eW];rfl
     rw[List.getD,Zf,this];rfl
    have ek:(era W).getD i (0,[])=(p.1,p.2.2):=by
     have:(era W)[i]?=some (p.1,p.2.2):=by unfold era;rw[Zf,eW];rfl
     rw[List.getD,this];rfl
    refine⟨_,rfl,_,rfl,aU i ws.io (by simp[keys];exact aQ) ?_⟩;rw[ec];refine⟨_,rfl,g,k,n,T',_,rfl,hc.same ws.sm,λll H5 tm ill s5=>?_⟩;have ws5:=ws.same s5
    refine⟨ll,rfl,⟨_,ah.of ill⟩,dS (K:=K) (a:=ll) (xs:=(lets k).map V.int) (λj σ H6=>∃(W6:Wy) (y6 y7:Option V) (r:Wy),σ=[some (.ref g),some (.int b),some (.ref d),some (.ref lo),some (.int i),some (.int p.1),y6,y7]/\WS H H6 d lo W6/\kJ T' k n b W6/\W6=W++r/\ax H6 ll (lets k)/\ll≠lo/\era W6=((lets k).take j).foldl (iO T' (p.1,p.2.2)) (era W))
     ⟨W,_,_,[],rfl,ws5,wi,by simp,ill,(λz=>by rw[z,ws.io]at tm;cases tm),rfl⟩ (λj σ H6 _ ⟨_,_,_,_,_,_,_,_,e,_⟩=>ah.of e) ?_ ?_⟩
    ·rintro j x σ H6 hj ⟨W6,y6,y7,r,rfl,ig,ke,qw,fu,tE,vU⟩;obtain⟨l,rfl,qv⟩:=jd hj;have hl:Let k l:=yx.mp (Y6 qv);have vV:p∈W6:=by rw[qw];exact Zc _ mp
     have es:((lets k).take (j+1)).foldl (iO T' (p.1,p.2.2)) (era W)=iO T' (p.1,p.2.2) (era W6) l:=by rw[tT qv,vU]
     refine⟨_,rfl,g,dx,_,rfl,ig.sm _ _ hg,kA ..,_,rfl,_,rfl,g,k,n,T',_,p.1,l,rfl,hc.same ig.sm,wi.lt p mp,hl,λH6' vp=>?_⟩;replace ig:=ig.same vp;replace fu:=vp.ints fu;refine⟨_,rfl,rfl,_,rfl,?_⟩;cases e:cT T' p.1 l with
     |none=>
      refine cV ⟨W6,_,_,r,rfl,ig,ke,qw,fu,tE,?_⟩;rw[es];unfold iO;rw[e]
     |some dd=>
      obtain⟨z0,z1⟩:=uz hc.ok e;obtain⟨c,rfl⟩:∃c:Nat,dd=(c:Int):=⟨dd.toNat,by omega⟩;refine fI ⟨_,rfl,_,rfl,d,_,rfl,c4.k (k:=.inl (c:Int)) ig.dw.is,_,rfl,?_⟩;have ev:iO T' (p.1,p.2.2) (era W6) l=if c∈keys W6 then era W6 else era W6++[(c,p.2.2++[l])]:=by unfold iO;rw[e,Ho];rfl
      by_cases oJ:c∈keys W6
      ·obtain⟨p2,gK,e2⟩:=Zh.mp oJ;have v2:=Hs ke.nd gK;have e2:p2.1=c:=e2;rw[e2]at v2;rw[v2];refine cV ⟨W6,_,_,r,rfl,ig,ke,qw,fu,tE,?_⟩;rw[es,ev,if_pos oJ]
      ·rw[Hr oJ]
       have wl6:W6.length<=n:=by
        have:=gq.len (n:=n) (O:=keys W6) ⟨ke.nd,λc hc=>by obtain⟨p,hp,rfl⟩:=Zh.mp hc;exact ke.lt p hp⟩;unfold keys at this;rwa [Y1]at this
       have acL:p.2.2.length<=n:=by
        obtain⟨jj,hjj,ejj⟩:=ZD vV;have:=ke.ln jj p (by simp[<-ejj,hjj]);omega
       refine fI ⟨_,rfl,_,rfl,d,_,rfl,(by have:=c4.k (k:=.inl (p.1:Int)) ig.dw.is;rw[Hs ke.nd vV]at this;exact this),_,rfl,lP [l] λq1 H7 hq1 iq1 s7=>?_⟩;refine pA (s7.ints (ig.dw.wy p vV)) iq1 (by simp;omega) λa H8 ha ia s8=>?_;have vW:=ig.same (s7.trans s8);refine⟨_,rfl,_,rfl,d,_,rfl,gH.k (k:=.inl (c:Int)) vW.dw.is (bD (by unfold fT;rw[Y1];omega)),?_⟩;have NH:ax (upd H8 d (.dK (putK (fT W6) (.inl (c:Int)) (.ref a)))) lo ((keys W6).map λ(c:Nat)=>(c:Int)):=vW.io.other vW.ne.symm;refine⟨_,rfl,.inl ⟨rfl,_,ah.of NH⟩,_,rfl,lo,_,_,rfl,rfl,NH,bD (by simp[keys];omega),?_⟩;have ha6:H6' a=none:=s7.free ha;have wn:=ig.add (s7.trans s8) ha6 ia oJ
       have ace:ax (upd H8 d (.dK (putK (fT W6) (.inl (c:Int)) (.ref a)))) ll (lets k):=((s7.trans s8).ints fu).other λz=>by
        have:=vW.dw.is;rw[<-z,show H8 ll=_ from(s7.trans s8).ints fu]at this;cases this
       refine⟨W6++[(c,a,p.2.2++[l])],_,_,r++[(c,a,p.2.2++[l])],rfl,wn,ke.add hc.ok vV hl e oJ a,by rw[qw,ZY],ace.other tE,tE,?_⟩;rw[es,ev,if_neg oJ];unfold era;rw[Ze];rfl
    ·rintro σ H6 ⟨W6,y6,y7,r,rfl,ig,ke,qw,fu,tE,vU⟩;rw[Y1,List.take_length]at vU;refine⟨_,rfl,_,_,rfl,rfl,⟨W6,i+1,_,_,_,rfl,ig,ke,by rw[qw,Zo];omega,?_⟩,?_⟩
     ·have e1:n+1-i=(n+1-(i+1))+1:=by omega
      rw[e1,Je j9]at eb;rw[vU];unfold uW at eb;rw[ek]at eb;exact eb
     ·show n+1-((i:Int)+1).toNat<n+1-(i:Int).toNat;omega
   ·have qi:¬(i:Int)<W.length:=λz=>qi (ZN z);have hk:(era W).length<=i:=by unfold era;rw[Y1];omega
    rw[F8 hk]at eb;refine⟨_,rfl,d,_,rfl,ws.dw.is,λo=>q d W _ hd ⟨⟨o,ak⟩,λp hp=>?_⟩ wi eb (ws.sm.upd hd)⟩;have i1:=ws.dw.wy p hp;exact i1.other λy=>by rw[y]at i1;have e:=ws.dw.is;rw[show H4 d=_ from i1]at e;cases e
  ·rintro σ H Q Q' hQ ⟨v,e,v',e',p,ys,BR,q,i,j,e3,e4,b,e5,q5⟩;exact⟨v,e,v',e',p,ys,BR,q,i,j,e3,e4,b,e5,hQ _ _ q5⟩
def Lh:(["number","chamber"]:List Str).Nodup:=by decide+kernel
def xp:aM ["chart","order","table","numbers"] ["chart","order"] (aF xw):=aP
def aaj{f C:Addr}{fd:FuncData}(F:aH K "renumbered" "renumbered" xw f fd)(T:Txt K mg)(TC:mq K mg C)(TB:cg P w K mg base C "table" ["self"] 2 (zK C))(CH:kR P w K mg base C "Chart" ["self","kinds","table"] 2 (zJ C)):
  aA P w K mg base aN 4 f fd ["chart","order"] (K8 C):=by
 refine F.ok xp (λvs H Q E h=>?_) (λau A outer s H vs Q E hr h=>?_)
 ·obtain⟨g,la,k,n,T',fp,ord,rfl,_⟩:=h
  rfl
 ·obtain⟨g,la,k,n,T',fp,ord,rfl,hc,io,nd,lt,ne,q⟩:=h;have fU:=rF hr;obtain⟨dx,lo,li,as,bs,I,ND,hg,_⟩:=id hc.ob
  refine⟨_,(@sC _ _ _ _ _ (bI (i:=2) xp.nd rfl (Or.inr rfl) (TB.cS hr (pv 0)))
   (@sC _ _ _ _ _ (bI (i:=3) xp.nd rfl (Or.inr rfl) (Si ["number","chamber"] fU (yO rfl T.enum yN (aq (pv 1) ae)) (λC s H fp=>pgt K (n:=2) rfl rfl (bA (aT (i:=0) Lh rfl (Or.inl rfl) (.inr rfl)) (bA (aT (i:=1) Lh rfl (Or.inl rfl) (.inr rfl)) eJ))) (λC s H fp=>pv 1) (λC s H fp=>pv 0) kq))
   (@sO _ _ _ (@sR _ _ _ _ (CH.pe hr (@aC _ _ _ _ _ (aO (pv 0) rfl) (@aC _ _ _ _ _ (fW ["table","numbers"] [2,3] (bW (pv 1)) (λC s H fp=>fW ["numbers"] [2] (Br K rfl (av (Bq K rfl) (pv 1) (pv 0) (λ_ _=>rfl))) (λC2 s2 H2 mK=>Uk fU (pv 1) (pv 0) m1) (jV rfl)) (yR rfl rfl) (k:=⟨rfl,rfl,rfl,rfl,rfl,rfl,by decide+kernel,rfl,rfl,rfl,λ_=>rfl⟩)) ae (by rfl)) (by rfl))))))),?_⟩
  have acM:ord.length<=n:=gq.len ⟨nd,lt⟩;have n7:=hc.n7;have xl:((ord.map λ(c:Nat)=>(c:Int)).map V.int).length=ord.length:=by simp
  refine⟨_,rfl,g,dx,_,rfl,hg,kA ..,g,k,n,T',fp,rfl,hc,λt ts H1 ft fts ndt tb s1=>?_⟩;have NI:=s1.ints io;refine⟨_,rfl,la,rfl,⟨_,ah.of NI⟩,Qi (K:=K) (xs:=(ord.map λ(c:Nat)=>(c:Int)).map V.int) (λi kvs=>kvs=fZ (ord.take i)) rfl (λH' s=>ah.of (s _ _ NI)) (λi x H2 D kvs t' hi ht s2 hD eD pv nb BH F hF=>?_) λD H2 kvs hD eD pv s2=>?_⟩
  ·obtain⟨z,rfl,ez⟩:=jd hi;rw[Zf]at ez;cases eo:ord[i]? with
   |none=>rw[eo]at ez;cases ez
   |some c=>
    rw[eo]at ez;obtain rfl:(c:Int)=z:=Zg ez;have sX:i<ord.length:=(ZL.mp eo).1;have ec:ord[i]=c:=(ZL.mp eo).2;obtain⟨x0,x1,rfl⟩:=Bu BH;have nD:D≠t':=λz=>by rw[<-z,eD]at ht;cases ht
    refine⟨t',_,rfl,aV.of ak,rfl,_,_,rfl,_,_,rfl,rfl,?_⟩;refine⟨_,rfl,_,rfl,?_⟩;subst pv
    have fresh:c∉ord.take i:=λm=>by
     obtain⟨j,hj,ej⟩:=ZD m;rw[Zx]at hj;rw[List.getElem_take, <-ec]at ej;have:=(List.getElem_inj nd).mp ej;omega
    have lt':(ord.take i).length=i:=by rw[Zx];omega
    have pe:putK (fZ (ord.take i)) (.inl (c:Int)) (V.int (i:Int))=fZ (ord.take (i+1)):=by
     have:=Qj fresh;rw[lt']at this;rw[this,Zj sX,ec]
    refine hF _ _ _ (fZ (ord.take (i+1))) _ (gH.k (kvs:=fZ (ord.take i)) (k:=.inl (c:Int)) (by rw[aj nD];exact eD) (bD (by rw[Sk,lt'];omega))) (λb o eb=>?_) (by rw[ak,pe]) rfl;have b1:=s2 _ _ eb;rw[aj (λz=>by rw[z,hD]at eb;cases eb),aj (λz=>by rw[z,ht]at b1;cases b1)];exact b1
  rw[xl,List.take_length]at pv;subst pv;have bV:aa H H2:=s1.trans s2;have NJ:=tb.same s2;have jF:=bV _ _ hg;refine⟨_,rfl,g,C,dx,_,_,rfl,jF,TC.cl,TC.nk,Ai ..,_,rfl,la,rfl,⟨_,ah.of (bV.ints io)⟩,?_⟩;refine FF (K:=K) (xs:=(ord.map λ(c:Nat)=>(c:Int)).map V.int) (λi r=>r=(eV T' ord).getD i []) (ah.of (bV.ints io)) (by rw[xl];omega) (λi x hi H4 s4 Q' q'=>?_) λBJ bs R H4 N4 lR hR=>?_
  ·obtain⟨z,rfl,ez⟩:=jd hi;rw[Zf]at ez;cases eo:ord[i]? with
   |none=>rw[eo]at ez;cases ez
   |some c=>
    rw[eo]at ez;obtain rfl:(c:Int)=z:=Zg ez;have sX:i<ord.length:=(ZL.mp eo).1;have ec:ord[i]=c:=(ZL.mp eo).2;have kb:c<n:=lt c (Y6 eo);obtain⟨ra,era,Ny,eT,gy⟩:=(NJ.same s4).at (i:=c) (by rw[hc.ok.len];exact kb);have eD4:=s4 _ _ eD;have rl:(T'.getD c []).length=k:=hc.ok.row _ (Y6 eT);have k5:=hc.k5
    let fv:V->V:=λv=>match v with|.int e=>oV (rn ord (some e))|_=>.aE
    have fo:∀o,fv (oV o)=oV (rn ord o):=λo=>by cases o<;>rfl
    refine⟨_,rfl,_,rfl,lU c (NJ.same s4) era ⟨ra,rfl,⟨_,ah.of gy⟩,EL (K:=K) fv (ah.of gy) (bD (by rw[Y1];omega)) (λz hz H5 Q5 s5 q5=>?_) λl H5 hl h5 s5=>q' l ((T'.getD c []).map (rn ord)) H5 hl ?_ ?_ s5⟩⟩
    ·obtain⟨o,mo,rfl⟩:=Zh.mp hz;rw[fo]at q5;have Cp:=s5 _ _ eD4;refine⟨_,rfl,D,rfl,.inl ⟨_,.inl Cp⟩,_,rfl,?_⟩;cases o with
     |none=>exact⟨_,c4.k (k:=.inr none) Cp,by rw[Sl];exact q5⟩
     |some e=>
      obtain⟨j,hj,ej⟩:=ZD mo;have r:=hc.ok.bP c j e (by unfold cell;rw[List.getD,Zd hj,ej];rfl);obtain⟨m,rfl⟩:∃m:Nat,e=(m:Int):=⟨e.toNat,by omega⟩;refine⟨_,c4.k (k:=.inl (m:Int)) Cp,?_⟩;rw[Gb]
      have:oV (rn ord (some (m:Int)))=((if m∈ord then some (V.int ((ord.idxOf m:Nat):Int))else none).getD .aE):=by
       show oV (if((m:Int).toNat)∈ord then some ((ord.idxOf (m:Int).toNat:Nat):Int)else none)=_;rw[Za];split<;>rfl
      rw[<-this];exact q5
    ·show H5 l=_;rw[h5,ZK,ZK];exact congrArg (λl=>some (HO.lst l)) (Z0 λo _=>fo o)
    ·simp[eV,List.getD,sX,ec]
  ·have eR:R=eV T' ord:=by
    apply List.ext_getElem?;intro i;rw[xl]at lR;by_cases hi:i<ord.length
    ·have e1:R[i]?=some R[i]:=by simp[lR,hi]
     have:=hR i R[i] e1;rw[e1,this];simp[eV,List.getD,hi]
    ·rw[ZI (by omega),ZI (by simp[eV];omega)]
   subst eR;have fk:=W7 hc.ok nd lt
   have n1:1<=ord.length:=by
    cases ord with
    |nil=>exact absurd rfl ne
    |cons _ _=>simp
   refine λx dx nx tF nex=>?_;have sx:aa H4 (upd (upd H4 dx (.own x)) x (.ins C dx [])):=((aa.refl H4).upd tF).upd nx;refine⟨x,dx,k,ord.length,BJ,bs,eV T' ord,rfl,ak,N4.tb.same sx,fk,hc.k1,hc.k5,n1,by omega,λH5 fq mU ff kp=>⟨rfl,?_⟩⟩;have lC:aa H H4:=bV.trans N4.sm;have s5:aa H4 H5:=λb o e=>kp b o (sx b o e) λz=>by rw[z,nx]at e;cases e
   refine q x fq H5 (lC.free nx) (λa ha=>?_) mU (lC.trans s5);by_cases z:a=x
   ·rw[z];exact lC.free nx
   ·exact lC.free (sx.free (ff a ha z))
def Qk:aM ["chart","base"] ["chart","base"] (aF xS):=aP
def Xu{f C cN:Addr}{fd:FuncData}(F:aH K "numbered" "numbered" xS f fd)(T:Txt K mg)(CC:bO P w K mg base C "check_chamber" ["self","chamber"] 2 (J4 C cN))(WF:bj P w K mg base "ways_from" ["chart","base"] 4 (Kh C))(RE:bj P w K mg base "renumbered" ["chart","order"] 4 (K8 C)):
  aA P w K mg base (bH P w) 5 f fd ["chart","base"] (Kj C cN):=by
 refine F.fh Qk (λvs H Q E h=>?_) (λau A outer s H vs Q E hr h=>?_)
 ·obtain⟨g,k,n,T',fp,b,rfl,_⟩:=h
  rfl
 ·obtain⟨g,k,n,T',fp,b,rfl,hc,q,qe⟩:=h;obtain⟨dx,lo,li,as,bs,I,ND,hg,_⟩:=id hc.ob
  refine⟨_,(@sC _ _ _ _ _ (bF (CC.pe hr (pv 0) (@aC _ _ _ _ _ (pv 1) ae (by rfl))))
   (@sO _ _ _ (@sR _ _ _ _ (RE.pe hr (@aC _ _ _ _ _ (pv 0) (@aC _ _ _ _ _ (lJ (QX rfl) rfl T.list lN (aq (WF.pe hr (aq (pv 0) (aq (pv 1) ae))) ae)) ae (by rfl)) (by rfl)))))),?_⟩
  refine⟨_,rfl,g,dx,_,rfl,hg,kA ..,_,rfl,g,k,n,T',_,b,rfl,hc,λhb=>?_,qe⟩;have q:=q hb;obtain⟨b,rfl⟩:∃m:Nat,b=(m:Int):=⟨b.toNat,by omega⟩;rw[Za]at q;have NK:b<n:=by omega
  refine⟨_,rfl,_,rfl,_,rfl,g,k,n,T',fp,b,rfl,hc,NK,λd W H1 hd fw wi eW s1=>?_⟩;obtain⟨o,eo⟩:=fw.is;have ek:keys W=met T' k n b:=by rw[<-Ho,eW,UO]
  refine⟨⟨d,o,fT W,rfl,eo,λl hl=>?_⟩⟩;have s2:aa H1 (upd H1 l (.lst ((fT W).map λp=>kV p.1))):=(aa.refl H1).upd hl
  have el:((fT W).map λp=>kV p.1)=((met T' k n b).map λ(c:Nat)=>(c:Int)).map V.int:=by
   rw[<-ek];simp[fT,keys,kV,ZK,Function.comp_def]
  have i2:ax (upd H1 l (.lst ((fT W).map λp=>kV p.1))) l ((met T' k n b).map λ(c:Nat)=>(c:Int)):=by
   show upd _ _ _ _=_;rw[ak,el]
  have mi:=W4 hc.ok (k:=k) NK;refine⟨g,l,k,n,T',fp,met T' k n b,rfl,(hc.same s1).same s2,i2,mi.1.nd,mi.1.lt,List.ne_nil_of_mem mi.2.1,λx fq H3 fx ffq hc3 s3=>?_⟩;have b7:=s1.trans s2;exact q x fq H3 (b7.free fx) (λa ha=>b7.free (ffq a ha)) hc3 (b7.trans s3)
def Xv{f C cN:Addr}{fd:FuncData}(F:aH K "check_chamber" "Chart.check_chamber" tL f fd)(Ql:mg "NoChamber"=some (.ref cN))(Qm:dB K cN=true)(SZ:cg P w K mg base C "size" ["self"] 1 (uy C)):aA P w K mg base (bH P w) 2 f fd ["self","chamber"] (J4 C cN):=by
 refine F.fh DO (λvs H Q E h=>?_) (λau A outer s H vs Q E hr h=>?_)
 ·obtain⟨g,k,n,T',fp,c,rfl,_⟩:=h
  rfl
 ·obtain⟨g,k,n,T',fp,c,rfl,hc,q,qe⟩:=h;obtain⟨dx,lo,li,as,bs,I,rfl,hg,_⟩:=id hc.ob;refine⟨_,(@sO _ _ _ (aY (PW.pt (iF (aK gG (pv 1) af (aI _)) (iA (aK pC (pv 1) (SZ.cS hr (pv 0)) (aI _))))) (@sO _ _ _ (jK rfl rfl Ql Qm (aq gD ae))) a7)),?_⟩;refine⟨_,rfl,_,_,rfl,rfl,_,rfl,bK (λz=>?_) λz=>⟨_,rfl,_,rfl,g,dx,_,rfl,hg,kA ..,g,k,n,T',_,rfl,hc,_,_,rfl,rfl,_,rfl,bK (λy=>?_) λy=>?_⟩⟩
  ·have z:=of_decide_eq_true z;exact⟨by decide,qe (by omega)⟩
  ·have y:=of_decide_eq_true y;exact⟨by decide,qe (by omega)⟩
  ·have z:¬c<0:=λw=>z (ZN w);have y:¬c>=n:=λw=>y (ZN w);exact q (by omega)
def wX:aM ["labels","numbers","label"] ["labels"] (aF xj):=aP
def Xw{f:Addr}{fd:FuncData}(F:aH K "chambers_of" "chambers_of" xj f fd)(T:Txt K mg):aA P w K mg base aN 1 f fd ["labels"] uA:=by
 refine F.ok wX (λvs H Q E h=>?_) (λau A outer s H vs Q E hr h=>?_)
 ·obtain⟨a,l,rfl,_⟩:=h
  rfl
 ·obtain⟨a,l,rfl,ha,ll,q⟩:=h;have fU:=rF hr
  refine⟨_,(@sC _ _ _ _ _ (bI (i:=1) wX.nd rfl (Or.inr rfl) Uh)
   (@sC _ _ _ _ _ (cb Zm rfl (bW (pv 0)) (aT (i:=2) wX.nd rfl (Or.inl rfl)) (@sO _ _ _ (aY (zk (Fm fU (pv 2) (pv 1)) rfl) (@sO _ _ _ (yP fU (pv 1) (pv 2) (bB RZ (by rfl) T.len PySem.boot_len (aq (pv 1) ae)) rfl)) a7)))
   (@sO _ _ _ (@sR _ _ _ _ (fW ["numbers"] [1] (bW (pv 0)) (λC s H fp=>ug fU (pv 1) (pv 0) (λ_ _=>rfl)) (jV rfl)))))),?_⟩
  refine λd hd=>?_;have s1:aa H (upd H d (.dK [])):=(aa.refl H).upd hd;have i1:upd H d (.dK []) d=some (.dK []):=ak;generalize upd H d (.dK [])=H1 at s1 i1;refine⟨_,rfl,a,rfl,⟨_,ah.of (s1.ints ha)⟩,dS (K:=K) (a:=a) (xs:=l.map V.int) (λi σ H2=>∃(x:Option V) (kvs:List (Key×V)),σ=[some (.ref a),some (.ref d),x]/\H2 d=some (.dK kvs)/\DK kvs (bU (l.take i))/\aa H H2) ⟨none,[],rfl,i1,DK.nil,s1⟩ (λi σ H2 _ ⟨_,_,_,_,_,s2⟩=>ah.of (s2.ints ha)) ?_ ?_⟩
  ·rintro i v σ H2 hi ⟨x,kvs,rfl,h2,dk,s2⟩;obtain⟨z,rfl,ez⟩:=jd hi;obtain⟨bN,ei⟩:=ZL.mp ez;have et:l.take (i+1)=l.take i++[z]:=by rw[Zj bN,ei]
   refine⟨_,rfl,_,rfl,d,_,rfl,c4.k (k:=.inl z) h2,_,rfl,?_⟩;rw[dk.at_];have kl:=zc (l.take i);have:(l.take i).length<=l.length:=by rw[Zx];omega
   by_cases m:z∈bU (l.take i)
   ·rw[if_pos m];refine cV ⟨_,kvs,rfl,h2,?_,s2⟩;rw[et,ua,if_pos m];exact dk
   ·rw[if_neg m];refine fI ⟨_,rfl,d,kvs,rfl,h2,_,rfl,_,rfl,d,_,rfl,gH.k (k:=.inl z) h2 (bD (by rw[dk.len];omega)),?_⟩;refine⟨_,_,rfl,ak,?_,s2.upd hd⟩;rw[et,ua,if_neg m];exact dk.put m
  ·rintro σ H2 ⟨x,kvs,rfl,h2,dk,s2⟩;rw[Y1,List.take_length]at dk;refine⟨_,rfl,a,rfl,⟨_,ah.of (s2.ints ha)⟩,ER (λx=>((bU l).idxOf x:Nat)) (s2.ints ha) (by omega) (λz hz H' Q' s' q'=>?_) λD H3 hD i3 s3=>q D H3 (s2.free hD) i3 (s2.trans s3)⟩;refine⟨_,rfl,_,rfl,d,_,rfl,?_,q'⟩;have g:=c4.k (k:=.inl z) (s' _ _ h2);rw[dk.at_,if_pos (show z∈bU l from ph l [] z hz)]at g;exact g
def OI:aM ["self"] ["self"] (aF wK):=aP
def Sy{f C:Addr}{fd:FuncData}(F:aH K "labels" "Survey.labels" wK f fd)(aw:dC K mg C)(FO:bj P w K mg base "folded" ["marks","rows","start"] 6 qW)(RW:bj P w K mg base "rows_of" ["entries"] 1 mY):aA P w K mg base aN 7 f fd ["self"] (Hd C):=by
 refine F.ok OI (λvs H Q E h=>?_) (λau A outer s H vs Q E hr h=>?_)
 ·obtain⟨g,lh,B,rest,rfl,_⟩:=h
  rfl
 ·obtain⟨g,lh,B,rest,rfl,hB,q⟩:=h;obtain⟨dx,ls,hg,he⟩:=id hB.ob;have bM:=hB.bM;have cu:=hB.cu;refine⟨_,(@sO _ _ _ (@sR _ _ _ _ (av bu (FO.pe hr (@aC _ _ _ _ _ (aO (pv 0) rfl) (@aC _ _ _ _ _ (RW.pe hr (@aC _ _ _ _ _ (aO (pv 0) rfl) ae (by rfl))) (@aC _ _ _ _ _ (dU ae) ae (by rfl)) (by rfl)) (by rfl))) af (λ_ _=>rfl)))),?_⟩;refine⟨_,rfl,g,C,dx,_,_,rfl,hg,aw.cl,aw.nn,ju ..,_,rfl,g,C,dx,_,_,rfl,hg,aw.cl,aw.ns,iM ..,ls,rest,B.es,rfl,he,by omega,λr1 mS H2 M6 t1 e1 s2=>?_⟩;refine jg (by show 0<=1000;decide) λl6 H6 hl6 i6 s6=>?_;have l1:=mZ e1;have:=oU B.es;refine⟨B.n,r1,l6,mS,[],rfl,t1.same s6,⟨i6,(λ_ z=>nomatch z)⟩,qK e1 (jI hB.k5 hB.ok),(λ_ z=>nomatch z),by omega,by omega,by simp,λt7 la lp sp l H7 h7 i7 tl7 fL hp k8 _ _ s7=>?_⟩;rw[e1]at fL;have el:l=B.aG:=fL.eq;have ll:l.length=B.n:=fL.1.aG.len;rw[el]at i7 ll fL;exact cC h7 rfl (q la H7 i7 ll fL (s2.trans (s6.trans s7)))
def OA:aM ["self"] ["self"] (aF wG):=aP
def Qn{f C:Addr}{fd:FuncData}(F:aH K "chambers" "Survey.chambers" wG f fd)(LAB:cg P w K mg base C "labels" ["self"] 7 (Hd C))(CHO:bj P w K mg base "chambers_of" ["labels"] 1 uA):aA P w K mg base aN 8 f fd ["self"] (xQ C):=by
 refine F.ok OA (λvs H Q E h=>?_) (λau A outer s H vs Q E hr h=>?_)
 ·obtain⟨g,lh,B,rest,rfl,_⟩:=h
  rfl
 ·obtain⟨g,lh,B,rest,rfl,hB,q⟩:=h;obtain⟨dx,ls,hg,he⟩:=id hB.ob;have bM:=hB.bM;refine⟨_,(@sO _ _ _ (@sR _ _ _ _ (CHO.pe hr (@aC _ _ _ _ _ (LAB.cS hr (pv 0)) ae (by rfl))))),?_⟩;refine⟨_,rfl,g,dx,_,rfl,hg,rfl,g,lh,B,rest,rfl,hB,λp H1 ip ll fL s1=>?_⟩;exact⟨p,B.aG,rfl,ip,by omega,λp2 H2 gK Cq s2=>q p2 H2 (s1.free gK) Cq ll fL (s1.trans s2)⟩
def wY:aM ["_law_labels","_law_known","_law_label"] ["_law_labels"] (aF xk):=aP
def Sz{f:Addr}{fd:FuncData}(F:aH K "_law_ranked" "_law_ranked" xk f fd):aA P w K mg base aN 1 f fd ["_law_labels"] uA:=by
 refine F.ok wY (λvs H Q E h=>?_) (λau A outer s H vs Q E hr h=>?_)
 ·obtain⟨a,l,rfl,_⟩:=h
  rfl
 ·obtain⟨a,l,rfl,ha,ll,q⟩:=h
  refine⟨_,(@sC _ _ _ _ _ (bI (i:=1) wY.nd rfl (Or.inr rfl) (dU ae))
   (@sC _ _ _ _ _ (cb Zm rfl (bW (pv 0)) (aT (i:=2) wY.nd rfl (Or.inl rfl)) (@sO _ _ _ (aY (aK Pu (pv 2) (pv 1) rfl) (@sO _ _ _ (bF (eQ PySem.F.plainAttrs_list PySem.F.slot_list_append PySem.F.type_list_append eG (pv 1) (@aC _ _ _ _ _ (pv 2) ae (by rfl))))) a7)))
   (@sO _ _ _ (@sR _ _ _ _ (fW ["_law_known"] [1] (bW (pv 0)) (λC s H fp=>MB K rfl (eQ PySem.F.plainAttrs_list PySem.F.slot_list_index PySem.F.type_list_index (LP K rfl) (pv 1) (aq (pv 0) ae))) (jV rfl)))))),?_⟩
  refine lP [] λd H1 hd i1 s1=>?_;refine⟨_,rfl,a,rfl,⟨_,ah.of (s1.ints ha)⟩,dS (K:=K) (a:=a) (xs:=l.map V.int) (λi σ H2=>∃(x:Option V),σ=[some (.ref a),some (.ref d),x]/\ax H2 d (bU (l.take i))/\aa H H2) ⟨none,rfl,i1,s1⟩ (λi σ H2 _ ⟨_,_,_,s2⟩=>ah.of (s2.ints ha)) ?_ ?_⟩
  ·rintro i v σ H2 hi ⟨x,rfl,h2,s2⟩;obtain⟨z,rfl,ez⟩:=jd hi;obtain⟨bN,ei⟩:=ZL.mp ez;have et:l.take (i+1)=l.take i++[z]:=by rw[Zj bN,ei]
   refine⟨_,rfl,_,rfl,d,_,rfl,.inl (ah.of h2),rfl,Sj _,_,rfl,?_⟩;show if(!sk (V.int z) ((bU (l.take i)).map V.int))=true then _ else _
   rw[UH];have kl:=zc (l.take i);have:(l.take i).length<=l.length:=by rw[Zx];omega
   by_cases m:z∈bU (l.take i)
   ·rw[ZN m];refine cV ⟨_,rfl,?_,s2⟩;rw[et,ua,if_pos m];exact h2
   ·rw[ZO m];refine fI ⟨_,rfl,.inl ⟨rfl,_,ah.of h2⟩,_,rfl,d,_,_,rfl,rfl,h2,bD (by rw[Y1];omega),?_⟩;refine⟨_,rfl,?_,s2.upd hd⟩;rw[et,ua,if_neg m];exact ax.snoc
  ·rintro σ H2 ⟨x,rfl,h2,s2⟩;rw[Y1,List.take_length]at h2;refine⟨_,rfl,a,rfl,⟨_,ah.of (s2.ints ha)⟩,ER (λx=>((bU l).idxOf x:Nat)) (s2.ints ha) (by omega) (λz hz H' Q' s' q'=>?_) λD H3 hD i3 s3=>q D H3 (s2.free hD) i3 (s2.trans s3)⟩;exact⟨_,rfl,.inl ⟨rfl,_,ah.of (s'.ints h2)⟩,_,rfl,J9 (s'.ints h2) (ph l [] z hz) q'⟩
def mV:aM ["kinds","chambers","rows","size","table","number","a","kind","b"] ["kinds","chambers","rows"] (aF xT):=aP
def Q9{f C:Addr}{fd:FuncData}(F:aH K "chart_of" "chart_of" xT f fd)(T:Txt K mg)(TM:pI mg)(CH:kR P w K mg base C "Chart" ["self","kinds","table"] 2 (zJ C)):aA P w K mg base aN 4 f fd ["kinds","chambers","rows"] (Ge C):=by
 refine F.ok mV (λvs H Q E h=>?_) (λau A outer s H vs Q E hr h=>?_)
 ·obtain⟨k,m,lc,lr,ch,ps,rfl,_⟩:=h
  rfl
 ·obtain⟨k,m,lc,lr,ch,ps,rfl,hc,tl,k1,k5,ok,n7,m10,q⟩:=h
  refine⟨_,(@sC _ _ _ _ _ (@sS _ 3 _ _ _ _ _ mV.nd rfl (Or.inl rfl) (ay cQ (bB (FZ rfl) (by rfl) TM.max rA (aq (ay ko (dU (aq af ae)) (pv 1)) ae)) af) (by rfl) (.inl rfl))
   (@sC _ _ _ _ _ (GQ 4 ["kinds"] [0] mV.nd (gP rfl T.range (aq (pv 3) ae)) (λC s H fp=>ay uo.wr (dU (aq c8 ae)) (pv 1)) (jV rfl))
   (@sC _ _ _ _ _ (cb Zm rfl (bW (pv 2)) (eM rfl (bA (aT (i:=5) mV.nd rfl (Or.inl rfl)) (bA (aT (i:=6) mV.nd rfl (Or.inl rfl)) (bA (aT (i:=7) mV.nd rfl (Or.inl rfl)) (bA (aT (i:=8) mV.nd rfl (Or.inl rfl)) eJ))))) (@sO _ _ _ (gE (av aJ (pv 1) (pv 8) (λ_ _=>rfl)) (zo (av aJ (pv 4) (av aJ (pv 1) (pv 6) (λ_ _=>rfl)) (λ_ _=>rfl)) (ay gV (pv 7) af) set_list))))
   (@sO _ _ _ (@sR _ _ _ _ (CH.pe hr (@aC _ _ _ _ _ (pv 0) (@aC _ _ _ _ _ (pv 4) ae (by rfl)) (by rfl)))))))),?_⟩
  refine lP [0] λl0 H1 qq i0 s1=>⟨_,rfl,pA i0 (s1.ints hc) (by have:=ok.len;simp;omega) λl1 H2 hl1 i1 s2=>Kc i1 (by simp) λM hM vR=>⟨_,_,rfl,rfl,?_⟩⟩
  have em:M=mx ch:=by
   refine An (vR 0 (by simp)) ?_ λi hi=>vR i (Zb _ hi);rcases Y7.mp hM with z|z
   ·exact .inl (Y2.mp z)
   ·exact .inr z
  show iG 3 (V.int (M+1)) _ _ _;rw[em, <-zO];have bV:=s1.trans s2;refine⟨_,rfl,_,rfl,by omega,by omega,t9 (n:=((nC ch:Nat):Int).toNat) (λ_=>List.replicate k none) (by omega) (λi hi H3 s3 Q' q'=>?_) λt as H3 N3=>?_⟩
  ·exact jg (by show 1<=1000;decide) λl2 H4 Bc i2 s4=>⟨_,rfl,J0 (z:=none) i2 (by omega) (λp H5 hp ip s5=>q' p H5 (s4.free hp) ip (s4.trans s5))⟩
  rw[Za]at N3
  have e0:((List.range (nC ch)).map λ_=>List.replicate k (none:Option Int))=List.replicate (nC ch) (List.replicate k none):=by
   rw[List.map_const'];simp
  rw[e0]at N3
  refine⟨_,rfl,lr,rfl,⟨_,ah.of ((tl.same bV).same N3.sm).is⟩,dS (K:=K) (a:=lr) (xs:=ps.map λp=>V.ref p.1) (λi σ H4=>∃(x5 x6 x7 x8:Option V),σ=[some (.int k),some (.ref lc),some (.ref lr),some (.int (nC ch)),some (.ref t),x5,x6,x7,x8]/\eA H2 H4 t as (cj k (nC ch) ch ((ps.map (·.2)).take i)))
   ⟨none,none,none,none,rfl,N3⟩ (λi σ H4 _ ⟨_,_,_,_,_,N⟩=>ah.of ((tl.same bV).same N.sm).is) ?_ ?_⟩
  ·rintro i y σ H4 hi ⟨x5,x6,x7,x8,rfl,N⟩;obtain⟨p,rfl,ep⟩:=m7 hi;have hp:=Y6 ep;have ht:=((tl.same bV).same N.sm).tp p hp;have rs:(ps.map (·.2))[i]?=some p.2:=by rw[Zf,ep];rfl
   have mr:=Y6 rs;obtain⟨ro,g1,g2⟩:=ok.row p.2 mr;obtain⟨a0,a1⟩:=ok.at mr 1;have ia:=(ro.mk 1).2;have ib:=(ro.mk (-1)).2
   have ex:∃(i1:Int) (a:Nat) (kd:Int) (b:Nat),p.2=[i1,(a:Int),kd,(b:Int)]/\My.mk p.2 1=a/\My.mk p.2 (-1)=b:=by
    obtain⟨i1,a,kd,b,er,ha,hb⟩:=ro;exact⟨i1,a,kd,b,er,by rw[er];rfl,by rw[er];rfl⟩
   obtain⟨i1,a,kd,b,er,ea,eb⟩:=ex;rw[er]at ht;have gk:p.2.getD 2 0=kd:=by rw[er];rfl
   rw[ea]at ia a0 a1;rw[eb]at ib;have tD:=(bV.trans N.sm).ints hc;have ol:=ok.len;refine⟨p.1,_,rfl,aV.of ht,rfl,_,_,rfl,_,_,rfl,_,_,rfl,_,_,rfl,rfl,?_⟩
   have Cj:(ch.getD a 0).toNat<(cj k (nC ch) ch ((ps.map (·.2)).take i)).length:=by
    rw[(uc ok i (by rw[Y1];have:=(ZL.mp ep).1;omega)).len];omega
   obtain⟨ra,era,Ny,eT,gy⟩:=N.tb.at Cj;have rl:((cj k (nC ch) ch ((ps.map (·.2)).take i)).getD (ch.getD a 0).toNat []).length=k:=(uc ok i (by rw[Y1];have:=(ZL.mp ep).1;omega)).row _ (Y6 eT);refine⟨_,rfl,_,rfl,aU b tD (by omega) ⟨_,rfl,_,rfl,_,rfl,aU a tD (by omega) (lU (ch.getD a 0).toNat N.tb era ?_ (by omega))⟩⟩;have Ck:(kd-1).toNat<k:=by omega
   refine⟨_,rfl,_,_,rfl,rfl,ra,_,kd-1,(kd-1).toNat,rfl,rfl,gy,Kd (by rw[Y1,rl];exact Ck) (by omega),⟨_,_,_,_,rfl,?_⟩⟩
   have e1:cj k (nC ch) ch ((ps.map (·.2)).take (i+1))=kK ch (cj k (nC ch) ch ((ps.map (·.2)).take i)) p.2:=by
    obtain⟨bN,ei⟩:=ZL.mp rs;rw[Zj bN,ei];unfold cj;rw[xR]
   rw[e1];unfold kK;rw[ea,eb,gk];have:=N.set era (((cj k (nC ch) ch ((ps.map (·.2)).take i)).getD (ch.getD a 0).toNat []).set (kd-1).toNat (some (ch.getD b 0)));rw[List.map_set]at this;exact this
  ·rintro σ H4 ⟨x5,x6,x7,x8,rfl,N⟩;rw[Y1, <-Y1 (f:=(·.2)),List.take_length]at N;have fk:=Kk ok;refine⟨_,rfl,_,rfl,λx dx nx tF nex=>?_⟩;have sx:aa H4 (upd (upd H4 dx (.own x)) x (.ins C dx [])):=((aa.refl H4).upd tF).upd nx;refine⟨x,dx,k,nC ch,t,as,_,rfl,ak,N.tb.same sx,fk,k1,k5,by unfold nC;omega,n7,λH5 fq mU ff kp=>⟨rfl,?_⟩⟩;have lC:aa H H4:=bV.trans N.sm;have s5:aa H4 H5:=λb o e=>kp b o (sx b o e) λz=>by rw[z,nx]at e;cases e
   refine q x fq H5 (lC.free nx) (λa ha=>?_) mU (lC.trans s5);by_cases z:a=x
   ·rw[z];exact lC.free nx
   ·exact lC.free (sx.free (ff a ha z))
def D1:aM ["self","a","chambers"] ["self","a"] (aF wQ):=aP
def SA{f C Cc cM cN:Addr}{fd:FuncData}(F:aH K "piece" "Survey.piece" wQ f fd)(aw:dC K mg C)(CM:bO P w K mg base C "check_marks" ["self","a","b"] 1 (rC C cM))(vX:cg P w K mg base C "chambers" ["self"] 8 (xQ C))(RW:bj P w K mg base "rows_of" ["entries"] 1 mY)
  (COF:bj P w K mg base "chart_of" ["kinds","chambers","rows"] 4 (Ge Cc))(NB:qa P w K mg base "numbered" ["chart","base"] 5 (Kj Cc cN)):aA P w K mg base (bH P w) 9 f fd ["self","a"] (HI C Cc cM):=by
 refine F.fh D1 (λvs H Q E h=>?_) (λau A outer s H vs Q E hr h=>?_)
 ·obtain⟨g,lh,B,rest,a,rfl,_⟩:=h
  rfl
 ·obtain⟨g,lh,B,rest,a,rfl,hB,q,qm⟩:=h;obtain⟨dx,ls,hg,he⟩:=id hB.ob;have bM:=hB.bM;have cu:=hB.cu
  refine⟨_,(@sC _ _ _ _ _ (bF (CM.pe hr (pv 0) (@aC _ _ _ _ _ (pv 1) (@aC _ _ _ _ _ (pv 1) ae (by rfl)) (by rfl))))
   (@sC _ _ _ _ _ (@sS _ 2 _ _ _ _ _ D1.nd rfl (Or.inl rfl) (vX.cS hr (pv 0)) (by rfl) (.inl rfl))
   (@sO _ _ _ (@sR _ _ _ _ (NB.pe hr (@aC _ _ _ _ _ (COF.pe hr (@aC _ _ _ _ _ (aO (pv 0) rfl) (@aC _ _ _ _ _ (pv 2) (@aC _ _ _ _ _ (RW.pe hr (@aC _ _ _ _ _ (aO (pv 0) rfl) ae (by rfl))) ae (by rfl)) (by rfl)) (by rfl))) (@aC _ _ _ _ _ (av aJ (pv 2) (pv 1) (λ_ _=>rfl)) ae (by rfl)) (by rfl))))))),?_⟩
  refine⟨_,rfl,g,dx,_,rfl,hg,rfl,_,rfl,_,rfl,g,lh,B,rest,a,a,rfl,hB,λha H1 s1=>?_,λna=>qm λz=>na ⟨z,z⟩⟩;have ha:=ha.1;refine⟨_,rfl,g,dx,_,rfl,s1 _ _ hg,rfl,g,lh,B,rest,rfl,hB.same s1,λp H2 hp ip ll fL s2=>?_⟩;have bV:=s1.trans s2;have ck:=Bk.AZ hB;refine⟨_,rfl,g,C,dx,_,_,rfl,bV _ _ hg,aw.cl,aw.nk,AW ..,_,rfl,_,rfl,g,C,dx,_,_,rfl,bV _ _ hg,aw.cl,aw.ns,iM ..,ls,rest,B.es,rfl,he.same bV,by omega,λr ps H3 hr3 tl er s3=>?_⟩;have cZ:=bV.trans s3;have n7:=Ao B.aG;refine⟨B.k,B.n,p,r,rk B.aG,ps,rfl,s3.ints ip,tl,hB.k1,hB.k5,by rw[er];exact ck,by omega,by omega,λx fx H4 hx hfx hc s4=>?_⟩;rw[er]at hc;have hc:de Cc H4 x B.k B.eY B.tab fx:=hc;have eF:=cZ.trans s4;obtain⟨a0,a1⟩:=ha;have hb:=ck.bP ((rk B.aG).getD a.toNat 0) (getD_mem (by rw[nH,ll];omega));refine⟨_,rfl,_,rfl,aU a.toNat ((s3.trans s4).ints ip) (by rw[nH,ll];omega) ?_ (by omega)⟩;refine⟨x,B.k,B.eY,B.tab,fx,_,rfl,hc,λ_ y fq H5 hy hfq mU s5=>?_,λz=>absurd hb z⟩;exact q ⟨a0,a1⟩ y fq H5 (eF.free hy) (λb hb=>eF.free (hfq b hb)) mU (eF.trans s5)
def oO:aM ["self","a","way","b","rows","end","labels","paper","number"] ["self","a","way","b"] (aF wz):=aP
def SD{f C cM cK:Addr}{fd:FuncData}(F:aH K "never_paper" "Survey.never_paper" wz f fd)(T:Txt K mg)(aw:dC K mg C)(BY:bO P w K mg base C "laid" ["self","a","way","b"] 2 (y9 C cM cK))(FO:bj P w K mg base "folded" ["marks","rows","start"] 6 qW)(BO:bj P w K mg base "broken_oath" ["entries","labels"] 1 Ak):
  aA P w K mg base (bH P w) 7 f fd ["self","a","way","b"] (HK C cM cK):=by
 refine F.fh oO (λvs H Q E h=>?_) (λau A outer s H vs Q E hr h=>?_)
 ·obtain⟨g,lh,B,rest,a,b,wa,ws,rfl,_⟩:=h
  rfl
 ·obtain⟨g,lh,B,rest,a,b,wa,ws,rfl,hB,hw,wl,q,q0,qm,qk⟩:=h;obtain⟨dx,ls,hg,he⟩:=id hB.ob;have bM:=hB.bM
  refine⟨_,(@sC _ _ _ _ _ (gE (BY.pe hr (pv 0) (@aC _ _ _ _ _ (pv 1) (@aC _ _ _ _ _ (pv 2) (@aC _ _ _ _ _ (pv 3) ae (by rfl)) (by rfl)) (by rfl))) (eM rfl (bA (aT (i:=4) oO.nd rfl (Or.inl rfl)) (bA (aT (i:=5) oO.nd rfl (Or.inl rfl)) eJ))))
   (@sC _ _ _ _ _ (gE (FO.pe hr (@aC _ _ _ _ _ (ay cQ (aO (pv 0) rfl) (bB cA (by rfl) T.len PySem.boot_len (@aC _ _ _ _ _ (pv 2) ae (by rfl)))) (@aC _ _ _ _ _ (pv 4) (@aC _ _ _ _ _ (@eL _ _ _ _ (@aC _ _ _ _ _ (cD (@aC _ _ _ _ _ (pv 5) (@aC _ _ _ _ _ (pv 3) ae (by rfl)) (by rfl))) ae (by rfl))) ae (by rfl)) (by rfl)) (by rfl))) (eM rfl (bA (aT (i:=6) oO.nd rfl (Or.inl rfl)) (bA (aT (i:=7) oO.nd rfl (Or.inl rfl)) eJ))))
   (@sC _ _ _ _ _ (@sS _ 8 _ _ _ _ _ oO.nd rfl (Or.inl rfl) (BO.pe hr (@aC _ _ _ _ _ (aO (pv 0) rfl) (@aC _ _ _ _ _ (pv 6) ae (by rfl)) (by rfl))) (by rfl) (.inl rfl))
   (@sC _ _ _ _ _ (aY (aK zq (pv 8) c8 (aI _)) (@sO _ _ _ (@sR _ _ _ _ c8)) a7)
   (@sO _ _ _ (@sR _ _ _ _ (cD (@aC _ _ _ _ _ (pv 8) (@aC _ _ _ _ _ (pv 7) ae (by rfl)) (by rfl))))))))),?_⟩
  refine⟨_,rfl,g,dx,_,rfl,hg,rfl,_,rfl,_,rfl,_,rfl,g,lh,B,rest,a,b,wa,ws,rfl,hB,hw,wl,λhm hl t r ps H1 ht tr er s1=>?_,qm,qk⟩;refine⟨t,_,rfl,aV.of ht,rfl,_,_,rfl,_,_,rfl,rfl,?_⟩;refine⟨_,rfl,g,C,dx,_,_,rfl,s1 _ _ hg,aw.cl,aw.nn,ju ..,_,rfl,wa,_,rfl,.inl (ah.of (s1.ints hw)),_,_,rfl,rfl,_,rfl,_,rfl,_,rfl,by show 2<=sizeLine;decide,λtp B2=>?_⟩;have s2:aa H1 (upd H1 tp (.tup [.int (bE B.n a ws.length),.int b])):=(aa.refl H1).upd B2;have i2:upd H1 tp (.tup [.int (bE B.n a ws.length),.int b]) tp=some (.tup [.int (bE B.n a ws.length),.int b]):=ak;generalize upd H1 tp (.tup [.int (bE B.n a ws.length),.int b])=H2 at s2 i2;refine jg (by show 1<=1000;decide) λl0 H3 qq i3 s3=>?_;have t3:=tr.same (s2.trans s3);have en:((B.n:Int)+((ws.map V.int).length:Int))=((B.n+ws.length:Nat):Int):=by rw[Y1];rfl
  have mP:∀r∈rowsOf B.es++c9 B.n a ws,b8 (B.n+ws.length) r/\1<=r.getD 2 0/\r.getD 2 0<=5:=λr fS=>by
   rcases Y7.mp fS with z|z
   ·exact jI hB.k5 (λe h=>(hB.ok e h).mono (Nat.le_add_right _ _)) r z
   ·exact yb hm.1 hB.k5 hl r z
  have BZ:=mZ er;have:=oU B.es;have:=hB.cu;rw[Zo,qE]at BZ;obtain⟨e0,e1⟩:=tW hm.1 ws.length ws.length (Y3 _);obtain⟨b0,b1⟩:=hm.2;have fO:Tl H3 l0 [(tp,[bE B.n a ws.length,b])]:=⟨i3,λp hp=>by rw[Y2.mp hp];exact s3 _ _ i2⟩;refine⟨B.n+ws.length,r,l0,ps,[(tp,[bE B.n a ws.length,b])],by show [V.int ((B.n:Int)+((ws.map V.int).length:Int)),_,_]=_;rw[en],t3,fO,qK er mP,λp hp=>?_,by omega,by omega,by show 1<=1000;decide,λt4 l1 l2 sp l H4 h4 i4 tl4 fL hp k8 _ f2 s4=>?_⟩
  ·rw[Y2.mp hp];exact⟨(bE B.n a ws.length).toNat,b.toNat,by rw[Zw e0,Zw b0],by omega,by omega⟩
  rw[er]at fL;have ll:l.length=B.n+ws.length:=fL.1.aG.len;have nv:=WY hB.ok hB.k5 hm.1 hm.2 (zg hl) fL;refine⟨t4,_,rfl,aV.of h4,rfl,_,_,rfl,_,_,rfl,rfl,?_⟩;have eF:=s1.trans (s2.trans (s3.trans s4));refine⟨_,rfl,g,C,dx,_,_,rfl,eF _ _ hg,aw.cl,aw.ns,iM ..,_,rfl,ls,l1,rest,B.es,l,B.k,rfl,he.same eF,i4,(λe h=>by rw[ll];exact(hB.ok e h).mono (Nat.le_add_right _ _)),?_⟩;cases eb:cw B.es l with
  |none=>
   exact⟨_,rfl,rfl,_,rfl,fI (q0 hm hl (λz=>nv.mpr z eb) H4 eF)⟩
  |some i=>
   refine⟨_,rfl,rfl,_,rfl,cV ⟨_,rfl,_,rfl,by show 2<=sizeLine;decide,λt5 ht5=>?_⟩⟩;exact q hm hl (nv.mp (by rw[eb];exact λz=>nomatch z)) t5 _ (eF.kF ht5)
def OQ:aM ["self","a","way","b"] ["self","a","way","b"] (aF wR):=aP
def SF{f C cM cK:Addr}{fd:FuncData}(F:aH K "judge" "Survey.judge" wR f fd)(TJ:LS mg)(MP:bO P w K mg base C "must_paper" ["self","a","way","b"] 7 (za C cM cK))(NP:bO P w K mg base C "never_paper" ["self","a","way","b"] 7 (HK C cM cK)):
  aA P w K mg base (bH P w) 8 f fd ["self","a","way","b"] (Jj C cM cK):=by
 obtain⟨_,abd⟩:=TJ.ab5;obtain⟨_,aak⟩:=TJ.never;obtain⟨_,abe⟩:=TJ.opn;refine F.fh OQ (λvs H Q E h=>?_) (λau A outer s H vs Q E hr h=>?_)
 ·obtain⟨g,lh,B,rest,a,b,wa,ws,rfl,_⟩:=h
  rfl
 ·obtain⟨g,lh,B,rest,a,b,wa,ws,rfl,hB,hw,wl,q,qm,qk⟩:=h;obtain⟨dx,ls,hg,he⟩:=id hB.ob
  refine⟨_,(@sC _ _ _ _ _ (aY (aK ki (MP.pe hr (pv 0) (@aC _ _ _ _ _ (pv 1) (@aC _ _ _ _ _ (pv 2) (@aC _ _ _ _ _ (pv 3) ae (by rfl)) (by rfl)) (by rfl))) c8 (aI _)) (@sO _ _ _ (@sR _ _ _ _ (iy (v:=.str "must") rfl abd ⟨_,rfl⟩))) a7)
   (@sC _ _ _ _ _ (aY (aK ki (NP.pe hr (pv 0) (@aC _ _ _ _ _ (pv 1) (@aC _ _ _ _ _ (pv 2) (@aC _ _ _ _ _ (pv 3) ae (by rfl)) (by rfl)) (by rfl))) c8 (aI _)) (@sO _ _ _ (@sR _ _ _ _ (iy (v:=.str "never") rfl aak ⟨_,rfl⟩))) a7)
   (@sO _ _ _ (@sR _ _ _ _ (iy (v:=.str "open") rfl abe ⟨_,rfl⟩))))),?_⟩
  refine⟨_,rfl,g,dx,_,rfl,hg,rfl,_,rfl,_,rfl,_,rfl,g,lh,B,rest,a,b,wa,ws,rfl,hB,hw,wl,λhm hl z l2 sp ps H2 t2 er hp k8 f2 s2=>?_,λhm hl z H2 s2=>?_,qm,qk⟩
  ·have z:=(Gg hB hm.1 hm.2 hl).mp z;refine⟨rfl,_,rfl,fI ?_⟩;have e:wordOf B.es a ws b="must":=by unfold wordOf;rw[if_pos z]
   have:=q hm hl H2 s2;rw[e]at this;exact this
  ·have z:¬nK (rowsOf B.es) a ws b:=λy=>z ((Gg hB hm.1 hm.2 hl).mpr y);refine⟨rfl,_,rfl,cV ?_⟩;refine⟨_,rfl,g,dx,_,rfl,s2 _ _ hg,rfl,_,rfl,_,rfl,_,rfl,g,lh,B,rest,a,b,wa,ws,rfl,hB.same s2,s2.ints hw,wl,λhm hl y t H3 s3=>?_,λhm hl y H3 s3=>?_,λy=>absurd hm y,λ_ y=>absurd hl y⟩
   ·refine⟨rfl,_,rfl,fI ?_⟩;have e:wordOf B.es a ws b="never":=by unfold wordOf;rw[if_neg z,if_pos y]
    have:=q hm hl H3 (s2.trans s3);rw[e]at this;exact this
   ·refine⟨rfl,_,rfl,cV ?_⟩;have e:wordOf B.es a ws b="open":=by unfold wordOf;rw[if_neg z,if_neg y]
    have:=q hm hl H3 (s2.trans s3);rw[e]at this;exact this
def fA:aM ["_law_kinds","_law_marks","_law_rows_here","_law_draws","_law_a","_law_b","_law_way_here","_law_places","_law_table","_law_end","_law_often","_law_at","_law_one"] ["_law_kinds","_law_marks","_law_rows_here","_law_draws"] (aF jb):=aP
def Ra{f:Addr}{fd:FuncData}(F:aH K "_law_asked" "_law_asked" jb f fd)(T:Txt K mg)(WA:bj P w K mg base "_law_way" ["_law_draws","_law_kinds"] 1 (KL K))(TU:bj P w K mg base "_law_turn" ["_law_way_here"] 1 (JN K))(LCH:bj P w K mg base "_law_chart" ["_law_kinds","_law_marks","_law_rows_here"] 3 HJ)(RO:bj P w K mg base "_law_round" ["_law_table","_law_kinds","_law_here","_law_draws"] 2 Jg):
  aA P w K mg base aN 4 f fd ["_law_kinds","_law_marks","_law_rows_here","_law_draws"] Gh:=by
 refine F.ok fA (λvs H Q E h=>?_) (λau A outer s H vs Q E hr h=>?_)
 ·obtain⟨k,n,lr,ld,ps,ds,rfl,_⟩:=h
  rfl
 ·obtain⟨k,n,lr,ld,ps,ds,rfl,tl,fj,hd,dl,k1,k5,n1,n6,pl,q⟩:=h;have np:(0:Int)<n:=by omega
  have dd:∀{c:Int}{a b:Int}{A B:Prop},(decide (V.int a=V.int b)=true->A)->(¬decide (V.int a=V.int b)=true->B)->(if decide (V.int a=V.int b)=true then A else B):=λh1 h2=>bK h1 h2
  have r7:∃u:TS,cW (fG aN P w K mg base ["_law_kinds","_law_marks","_law_rows_here","_law_draws","_law_a","_law_b","_law_way_here","_law_places","_law_table","_law_end","_law_often","_law_at","_law_one"] "_law_asked" (aF jb) f au A outer s H E).gu ((eK jb).drop 7) u/\
    ∀(a b:Int) (wa:Addr) (ws:List Int) (x7 x8 x9 oM:Option V) (G:Hp),aB n a->aB n b->ax G wa ws->(∀l∈ws,Let k l)->ws.length<=150->H wa=none->aa H G->
     u {nx:=λ_ H'=>Q .aE H',rt:=Q} [some (.int k),some (.int n),some (.ref lr),some (.ref ld),some (.int a),some (.int b),some (.ref wa),x7,x8,x9,oM,none,none] G:=by
   refine⟨_,(@sC _ _ _ _ _ (aY (aK cG (ay bJ (ay jM (av aJ (pv 3) af (λ_ _=>rfl)) af) af) af (aI _)) (@sC _ _ _ _ _ (@sS _ 11 _ _ _ _ _ fA.nd rfl (Or.inl rfl) (ay bJ (av aJ (pv 3) af (λ_ _=>rfl)) (ay cQ (bB cA (by rfl) T.len PySem.boot_len (@aC _ _ _ _ _ (pv 6) ae (by rfl))) af)) (by rfl) (.inl rfl))
   (@sC _ _ _ _ _ (@sS _ 12 _ _ _ _ _ fA.nd rfl (Or.inl rfl) (av aJ (WA.pe hr (@aC _ _ _ _ _ (eI iL (pv 3) (cL af) (cL af)) (@aC _ _ _ _ _ (pv 0) ae (by rfl)) (by rfl))) af (λ_ _=>rfl)) (by rfl) (.inl rfl))
   (@sO _ _ _ (@sS _ 6 _ _ _ _ _ fA.nd rfl (Or.inl rfl) (ay ko (ay ko (eI iL (pv 6) jN (cL (pv 11))) (@eL _ _ _ _ (@aC _ _ _ _ _ (pv 12) (@aC _ _ _ _ _ (jh je (pv 12)) ae (by rfl)) (by rfl)))) (eI iL (pv 6) (cL (pv 11)) jN)) (by rfl) (.inl rfl))))) a7)
   (@sO _ _ _ (@sR _ _ _ _ (cD (@aC _ _ _ _ _ (pv 4) (@aC _ _ _ _ _ (pv 6) (@aC _ _ _ _ _ (pv 5) ae (by rfl)) (by rfl)) (by rfl)))))),?_⟩
   intro a b wa ws x7 x8 x9 oM G ha hb iw hl wl fw s0;have lD:=s0.ints hd;refine⟨_,rfl,aU 4 lD (by omega) ⟨_,_,rfl,rfl,⟨by show(0:Int)<2;decide,by show(2:Int)<1073741824;decide⟩,_,_,rfl,rfl,(by show(0:Int)<4;decide),rfl,_,rfl,bK (λ_=>?_) λ_=>?_⟩⟩
   ·have p1:(0:Int)<((ws.map V.int).length:Int)+1:=by omega
    refine⟨_,rfl,aU 5 lD (by omega) ⟨_,rfl,wa,_,rfl,.inl (ah.of iw),_,_,rfl,rfl,_,_,rfl,rfl,p1,?_⟩⟩;show iG 11 (V.int (ds.getD 5 0%(((ws.map V.int).length:Int)+1))) _ _ _;generalize ds.getD 5 0%(((ws.map V.int).length:Int)+1)=at';refine⟨_,rfl,_,rfl,_,rfl,jc lD λl1 H1 f1 i1 s1=>?_⟩
    have cl:(cO ds (some 5) (some 6)).length=1:=by
     rw[show(6:Int)=((6:Nat):Int)from rfl,show(5:Int)=((5:Nat):Int)from rfl,o8 _ _ _ (by decide),Zx,ZJ,dl];decide
    refine⟨_,rfl,l1,_,(k:Int),rfl,ah.of i1,by omega,by omega,by omega,λl2 H2 f2 i2 s2=>?_⟩;have w2:=zd k1 (cO ds (some 5) (some 6));generalize hgs:(cO ds (some 5) (some 6)).map (oW k)=gs at i2 w2;have gl:gs.length=1:=by rw[<-hgs,Y1,cl]
    refine aU 0 i2 (by omega) ?_;have lx:Let k (gs.getD 0 0):=w2 _ (by simp[List.getD,gl]);generalize gs.getD 0 0=x at lx;have NL:=(s1.trans s2).ints iw;refine⟨_,rfl,_,rfl,_,rfl,jc NL λl3 H3 f3 i3 s3=>?_⟩;refine⟨_,rfl,_,rfl,_,rfl,lP [x, -x] λl4 H4 f4 i4 s4=>?_⟩;have c3:=ym ws none (some at');have c6:=ym ws (some at') none;refine pA (s4.ints i3) i4 (by simp;omega) λl5 H5 f5 i5 s5=>?_;refine⟨_,rfl,_,rfl,_,rfl,jc ((s3.trans (s4.trans s5)).ints NL) λl6 H6 f6 i6 s6=>?_⟩;refine pA (s6.ints i5) i6 (by simp;omega) λl7 H7 f7 i7 s7=>?_;have oG:=s1.trans (s2.trans (s3.trans (s4.trans (s5.trans (s6.trans s7)))));refine⟨_,rfl,_,rfl,_,rfl,by show 3<=sizeLine;decide,λt ht=>?_⟩;have st:=(aa.refl H7).upd (o:=.tup [.int a,.ref l7,.int b]) ht;refine q t l7 a b _ _ ak (st.ints i7) ha hb (λl dq=>?_) (by simp;omega) ((s0.trans (s1.trans (s2.trans (s3.trans (s4.trans (s5.trans s6)))))).free f7) ((s0.trans oG).trans st);rcases Y7.mp dq with z|z
    ·rcases Y7.mp z with y|y
     ·exact hl l (GF y)
     ·rcases Y5.mp y with w|w
      ·rw[w];exact lx
      ·rw[Y2.mp w];exact Xa lx
    ·exact hl l (GF z)
   ·refine⟨_,rfl,_,rfl,_,rfl,by show 3<=sizeLine;decide,λt ht=>?_⟩;have st:=(aa.refl G).upd (o:=.tup [.int a,.ref wa,.int b]) ht;exact q t wa a b _ _ ak (st.ints iw) ha hb hl (by omega) fw (s0.trans st)
  obtain⟨u7,hu7,NM⟩:=r7
  have r6:∃u:TS,cW (fG aN P w K mg base ["_law_kinds","_law_marks","_law_rows_here","_law_draws","_law_a","_law_b","_law_way_here","_law_places","_law_table","_law_end","_law_often","_law_at","_law_one"] "_law_asked" (aF jb) f au A outer s H E).gu ((eK jb).drop 6) u/\
    ∀(a b:Int) (wa:Addr) (ws:List Int) (x7 x8 x9 oM:Option V) (G:Hp),aB n a->aB n b->ax G wa ws->(∀l∈ws,Let k l)->ws.length<=150->H wa=none->aa H G->
     u {nx:=λ_ H'=>Q .aE H',rt:=Q} [some (.int k),some (.int n),some (.ref lr),some (.ref ld),some (.int a),some (.int b),some (.ref wa),x7,x8,x9,oM,none,none] G:=by
   refine⟨_,(@sC _ _ _ _ _ (aY (aK cG (ay bJ (av aJ (pv 3) af (λ_ _=>rfl)) af) af (aI _)) (@sO _ _ _ (@sS _ 6 _ _ _ _ _ fA.nd rfl (Or.inl rfl) (ay uo.wr (pv 6) (ay jM af (ay cQ af (bB cA (by rfl) T.len PySem.boot_len (@aC _ _ _ _ _ (pv 6) ae (by rfl)))))) (by rfl) (.inl rfl))) a7)
   hu7),?_⟩
   intro a b wa ws x7 x8 x9 oM G ha hb iw hl wl fw s0;have lD:=s0.ints hd;refine⟨_,rfl,aU 3 lD (by omega) ⟨_,_,rfl,rfl,(by show(0:Int)<29;decide),rfl,_,rfl,bK (λ_=>?_) λ_=>NM a b wa ws x7 x8 x9 oM G ha hb iw hl wl fw s0⟩⟩;have p1:(0:Int)<1+((ws.map V.int).length:Int):=by omega
   have e1:((ws.map V.int).length:Int)=ws.length:=by rw[Y1]
   have d0:0<=120/(1+((ws.map V.int).length:Int)):=Int.ediv_nonneg (by decide) (by omega);have d1:(120/(1+((ws.map V.int).length:Int)))*(1+((ws.map V.int).length:Int))<=120:=Int.ediv_mul_le _ (by omega);refine⟨_,rfl,_,rfl,wa,_,rfl,.inl (ah.of iw),_,_,rfl,rfl,_,_,rfl,rfl,⟨p1,by show 1+((ws.map V.int).length:Int)<1073741824;omega⟩,?_⟩;show Wr (uO (.ref wa) (.int (120/(1+((ws.map V.int).length:Int)))) G _)
   have mm:ws.length*(120/(1+((ws.map V.int).length:Int))).toNat<=120:=by
    rw[e1]at d0 d1⊢;obtain⟨c,hc⟩:∃c:Nat,120/(1+(ws.length:Int))=(c:Int):=⟨(120/(1+(ws.length:Int))).toNat,by omega⟩;rw[hc]at d1⊢;have:c*(1+ws.length)<=120:=by exact_mod_cast d1
    rw[Nat.mul_add,Nat.mul_one]at this;rw[Za,Nat.mul_comm];omega
   have vY:120/(1+((ws.map V.int).length:Int))<=1000:=by
    have:120/(1+((ws.map V.int).length:Int))*1<=120/(1+((ws.map V.int).length:Int))*(1+((ws.map V.int).length:Int)):=Int.mul_le_mul_of_nonneg_left (by omega) d0;omega
   refine Jk iw d0 vY (by omega) λl1 H1 f1 i1 s1=>?_;refine NM a b l1 _ x7 x8 x9 oM H1 ha hb i1 (λl dq=>hl l (Jl dq)) ?_ (s0.free f1) (s0.trans s1);rw[len_rep,Nat.mul_comm];omega
  obtain⟨u6,hu6,NN⟩:=r6
  have r5:∃u:TS,cW (fG aN P w K mg base ["_law_kinds","_law_marks","_law_rows_here","_law_draws","_law_a","_law_b","_law_way_here","_law_places","_law_table","_law_end","_law_often","_law_at","_law_one"] "_law_asked" (aF jb) f au A outer s H E).gu ((eK jb).drop 5) u/\
    ∀(a b:Int) (wa:Addr) (ws:List Int) (x7 x8 x9:Option V) (G:Hp),aB n a->aB n b->ax G wa ws->(∀l∈ws,Let k l)->ws.length<=25->H wa=none->aa H G->
     u {nx:=λ_ H'=>Q .aE H',rt:=Q} [some (.int k),some (.int n),some (.ref lr),some (.ref ld),some (.int a),some (.int b),some (.ref wa),x7,x8,x9,none,none,none] G:=by
   refine⟨_,(@sC _ _ _ _ _ (aY (aK cG (ay bJ (av aJ (pv 3) af (λ_ _=>rfl)) af) af (aI _)) (@sC _ _ _ _ _ (@sS _ 10 _ _ _ _ _ fA.nd rfl (Or.inl rfl) (ay jM af (ay cQ af (ay gW af (bB cA (by rfl) T.len PySem.boot_len (@aC _ _ _ _ _ (pv 6) ae (by rfl)))))) (by rfl) (.inl rfl))
   (@sO _ _ _ (@sS _ 6 _ _ _ _ _ fA.nd rfl (Or.inl rfl) (ay ko (ay uo.wr (ay ko (pv 6) (TU.pe hr (@aC _ _ _ _ _ (pv 6) ae (by rfl)))) (pv 10)) (pv 6)) (by rfl) (.inl rfl)))) a7)
   hu6),?_⟩
   intro a b wa ws x7 x8 x9 G ha hb iw hl wl fw s0;have lD:=s0.ints hd;refine⟨_,rfl,aU 3 lD (by omega) ⟨_,_,rfl,rfl,(by show(0:Int)<29;decide),rfl,_,rfl,bK (λ_=>?_) λ_=>NN a b wa ws x7 x8 x9 none G ha hb iw hl (by omega) fw s0⟩⟩;have e1:((ws.map V.int).length:Int)=ws.length:=by rw[Y1]
   have p1:(0:Int)<1+2*((ws.map V.int).length:Int):=by omega
   refine⟨_,rfl,wa,_,rfl,.inl (ah.of iw),_,_,rfl,rfl,.inl ⟨by decide,by decide⟩,_,_,rfl,rfl,_,_,rfl,rfl,⟨p1,by show 1+2*((ws.map V.int).length:Int)<1073741824;omega⟩,?_⟩;show iG 10 (V.int (120/(1+2*((ws.map V.int).length:Int)))) _ _ _;have d0:0<=120/(1+2*((ws.map V.int).length:Int)):=Int.ediv_nonneg (by decide) (by omega);have d1:(120/(1+2*((ws.map V.int).length:Int)))*(1+2*((ws.map V.int).length:Int))<=120:=Int.ediv_mul_le _ (by omega)
   have vY:120/(1+2*((ws.map V.int).length:Int))<=1000:=by
    have:120/(1+2*((ws.map V.int).length:Int))*1<=120/(1+2*((ws.map V.int).length:Int))*(1+2*((ws.map V.int).length:Int)):=Int.mul_le_mul_of_nonneg_left (by omega) d0;omega
   have mm:(2*ws.length)*(120/(1+2*((ws.map V.int).length:Int))).toNat<=120:=by
    rw[e1]at d0 d1⊢;obtain⟨c,hc⟩:∃c:Nat,120/(1+2*(ws.length:Int))=(c:Int):=⟨(120/(1+2*(ws.length:Int))).toNat,by omega⟩;rw[hc]at d1⊢;have:c*(1+2*ws.length)<=120:=by exact_mod_cast d1
    rw[Nat.mul_add,Nat.mul_one]at this;rw[Za,Nat.mul_comm];omega
   generalize 120/(1+2*((ws.map V.int).length:Int))=Li at d0 vY mm;refine⟨_,rfl,_,rfl,wa,ws,rfl,ah.of iw,by omega,λl1 H1 f1 i1 s1=>?_⟩;have NO:=UT ws;replace i1:ax H1 l1 (turn ws):=i1;generalize htw:turn ws=tw at i1 NO;have lw:(ws++tw).length=2*ws.length:=by rw[Zo,NO];omega
   refine pA (s1.ints iw) i1 (by omega) λl2 H2 f2 i2 s2=>⟨_,rfl,?_⟩;refine Jk i2 d0 vY (by rw[lw];omega) λl3 H3 f3 i3 s3=>⟨_,rfl,?_⟩;have cZ:=s1.trans (s2.trans s3)
   have l3l:((List.replicate Li.toNat (ws++tw)).flatten).length<=120:=by
    rw[len_rep,lw,Nat.mul_comm];omega
   refine pA i3 (cZ.ints iw) (by omega) λl4 H4 f4 i4 s4=>?_;refine NN a b l4 _ x7 x8 x9 (some (.int Li)) H4 ha hb i4 (λl dq=>?_) (by rw[Zo];omega) ((s0.trans cZ).free f4) (s0.trans (cZ.trans s4));rcases Y7.mp dq with z|z
   ·rcases Y7.mp (Jl z)with y|y
    ·exact hl l y
    ·rw[<-htw]at y;exact US hl l y
   ·exact hl l z
  obtain⟨u5,Cr,tG⟩:=r5
  have r4:∃u:TS,cW (fG aN P w K mg base ["_law_kinds","_law_marks","_law_rows_here","_law_draws","_law_a","_law_b","_law_way_here","_law_places","_law_table","_law_end","_law_often","_law_at","_law_one"] "_law_asked" (aF jb) f au A outer s H E).gu ((eK jb).drop 4) u/\
    ∀(a b:Int) (wa:Addr) (ws:List Int) (G:Hp),aB n a->aB n b->ax G wa ws->(∀l∈ws,Let k l)->ws.length<=25->H wa=none->aa H G->
     u {nx:=λ_ H'=>Q .aE H',rt:=Q} [some (.int k),some (.int n),some (.ref lr),some (.ref ld),some (.int a),some (.int b),some (.ref wa),none,none,none,none,none,none] G:=by
   refine⟨_,(@sC _ _ _ _ _ (aY (aK cG (ay bJ (av aJ (pv 3) af (λ_ _=>rfl)) af) af (aI _)) (@sC _ _ _ _ _ (gE (LCH.pe hr (@aC _ _ _ _ _ (pv 0) (@aC _ _ _ _ _ (pv 1) (@aC _ _ _ _ _ (pv 2) ae (by rfl)) (by rfl)) (by rfl))) (eM rfl (bA (aT (i:=7) fA.nd rfl (Or.inl rfl)) (bA (aT (i:=8) fA.nd rfl (Or.inl rfl)) eJ))))
   (@sC _ _ _ _ _ (gE (RO.pe hr (@aC _ _ _ _ _ (pv 8) (@aC _ _ _ _ _ (pv 0) (@aC _ _ _ _ _ (av aJ (pv 7) (pv 4) (λ_ _=>rfl)) (@aC _ _ _ _ _ (eI iL (pv 3) (cL af) (cL (ay cQ af (ay bJ (av aJ (pv 3) af (λ_ _=>rfl)) af)))) ae (by rfl)) (by rfl)) (by rfl)) (by rfl))) (eM rfl (bA (aT (i:=6) fA.nd rfl (Or.inl rfl)) (bA (aT (i:=9) fA.nd rfl (Or.inl rfl)) eJ))))
   (@sO _ _ _ (@sS _ 5 _ _ _ _ _ fA.nd rfl (Or.inl rfl) (MB K rfl (eQ PySem.F.plainAttrs_list PySem.F.slot_list_index PySem.F.type_list_index (LP K rfl) (pv 7) (@aC _ _ _ _ _ (pv 9) ae (by rfl)))) (by rfl) (.inl rfl))))) a7)
   Cr),?_⟩
   intro a b wa ws G ha hb iw hl wl fw s0;have lD:=s0.ints hd;refine⟨_,rfl,aU 4 lD (by omega) ⟨_,_,rfl,rfl,(by show(0:Int)<2;decide),rfl,_,rfl,bK (λ_=>?_) λ_=>tG a b wa ws none none none G ha hb iw hl wl fw s0⟩⟩;refine⟨_,rfl,_,rfl,_,rfl,k,n,lr,ps,rfl,tl.same s0,fj,k5,n1,n6,pl,λp lp t as l H1 hp ip tb fL s1=>?_⟩;refine⟨p,_,rfl,aV.of hp,rfl,_,_,rfl,_,_,rfl,rfl,?_⟩;have ll:=fL.1.aG.len
   have ck:fK k (nC (rk l)) n (rk l) (ps.map (·.2)):=zf ll (λr hr=>by
    obtain⟨p,hp,rfl⟩:=Zh.mp hr;exact fj p hp) fL.2
   have tok:=Kk ck;have n7:=Ao l;obtain⟨a0,a1⟩:=id ha;have cr:=ck.bP ((rk l).getD a.toNat 0) (getD_mem (by rw[nH,ll];omega));obtain⟨c,ec⟩:∃c:Nat,(rk l).getD a.toNat 0=(c:Int):=⟨((rk l).getD a.toNat 0).toNat,by omega⟩;have vZ:=s0.trans s1;refine⟨_,rfl,_,rfl,_,rfl,_,rfl,aU a.toNat ip (by rw[nH,ll];omega) ⟨_,rfl,_,rfl,_,rfl,aU 2 (vZ.ints hd) (by omega) ⟨_,_,rfl,rfl,(by show(0:Int)<10;decide),_,_,rfl,rfl,_,rfl,jc (vZ.ints hd) λl2 H2 f2 i2 s2=>?_⟩⟩ (by omega)⟩
   have cl:(cO ds (some 6) (some (6+ds.getD 2 0%10))).length<=25:=by
    obtain⟨j,ej⟩:∃j:Nat,ds.getD 2 0%10=(j:Int):=⟨(ds.getD 2 0%10).toNat,by have:=Zz (ds.getD 2 0) (show(10:Int)≠0 by decide);omega⟩;have:=Zy (ds.getD 2 0) (show(0:Int)<10 by decide);rw[ej,show(6:Int)+(j:Int)=((6+j:Nat):Int)by omega,show(6:Int)=((6:Nat):Int)from rfl,o8 _ _ _ (by omega),Zx];omega
   refine⟨t,as,_,k,nC (rk l),c,l2,_,by rw[ec];rfl,tb.same s2,tok,k1,k5,by omega,by omega,i2,by omega,λq3 lw ws' d H3 _ fw3 hq3 iw3 vL _ oI wl3 s3=>?_⟩;refine⟨q3,_,rfl,aV.of hq3,rfl,_,_,rfl,_,_,rfl,rfl,?_⟩;have md:(d:Int)∈rk l:=W9 (λz=>by rw[z]at ll;simp at ll;omega) oI;have il:=ZZ md;rw[nH,ll]at il;refine⟨_,rfl,.inl ⟨rfl,_,ah.of ((s2.trans s3).ints ip)⟩,_,rfl,?_⟩;unfold jT;refine J9 (K:=K) ((s2.trans s3).ints ip) md ?_;exact tG a _ lw ws' _ _ _ H3 ha ⟨by omega,by omega⟩ iw3 vL (by omega) ((vZ.trans s2).free fw3) (vZ.trans (s2.trans s3))
  obtain⟨u4,hu4,NQ⟩:=r4
  refine⟨_,(@sC _ _ _ _ _ (@sS _ 4 _ _ _ _ _ fA.nd rfl (Or.inl rfl) (ay bJ (av aJ (pv 3) af (λ_ _=>rfl)) (pv 1)) (by rfl) (.inl rfl))
   (@sC _ _ _ _ _ (@sS _ 5 _ _ _ _ _ fA.nd rfl (Or.inl rfl) (ay bJ (av aJ (pv 3) af (λ_ _=>rfl)) (pv 1)) (by rfl) (.inl rfl))
   (@sC _ _ _ _ _ (@sS _ 6 _ _ _ _ _ fA.nd rfl (Or.inl rfl) (WA.pe hr (@aC _ _ _ _ _ (eI iL (pv 3) (cL af) (cL (ay cQ af (ay bJ (av aJ (pv 3) af (λ_ _=>rfl)) af)))) (@aC _ _ _ _ _ (pv 0) ae (by rfl)) (by rfl))) (by rfl) (.inl rfl))
   (@sC _ _ _ _ _ (aY (aK cG (ay bJ (av aJ (pv 3) af (λ_ _=>rfl)) af) af (aI _)) (@sO _ _ _ (@sS _ 6 _ _ _ _ _ fA.nd rfl (Or.inl rfl) (WA.pe hr (@aC _ _ _ _ _ (eI iL (pv 3) (cL af) (cL (ay cQ af (ay bJ (av aJ (pv 3) af (λ_ _=>rfl)) af)))) (@aC _ _ _ _ _ (pv 0) ae (by rfl)) (by rfl))) (by rfl) (.inl rfl))) a7)
   hu4)))),?_⟩
  have m:=λ(x:Int)=>(⟨Zz x (show(n:Int)≠0 by omega),Zy x np⟩:aB n (x%(n:Int)))
  have mod:∀(x:Int) (c:Nat),0<c->∃j:Nat,x%(c:Int)=(j:Int)/\j<c:=λx c h=>by
   have a0:=Zz x (show(c:Int)≠0 by omega);have a1:=Zy x (show(0:Int)<c by omega);exact⟨(x%(c:Int)).toNat,by omega,by omega⟩
  have cl:∀j:Nat,j<=25->(cO ds (some 6) (some (6+(j:Int)))).length<=25:=λj hj=>by
   rw[show(6:Int)+(j:Int)=((6+j:Nat):Int)by omega,show(6:Int)=((6:Nat):Int)from rfl,o8 _ _ _ (by omega),Zx];omega
  obtain⟨j1,e1,hj1⟩:=mod (ds.getD 2 0) 10 (by decide);obtain⟨j2,e2,sV⟩:=mod (ds.getD 2 0) 26 (by decide);have c1:(cO ds (some 6) (some (6+ds.getD 2 0%10))).length<=25:=by rw[show ds.getD 2 0%10=(j1:Int)from e1];exact cl j1 (by omega)
  have c2:(cO ds (some 6) (some (6+ds.getD 2 0%26))).length<=25:=by rw[show ds.getD 2 0%26=(j2:Int)from e2];exact cl j2 (by omega)
  refine⟨_,rfl,aU 0 hd (by omega) ⟨_,rfl,_,_,rfl,rfl,np,?_⟩⟩;refine⟨_,rfl,aU 1 hd (by omega) ⟨_,rfl,_,_,rfl,rfl,np,?_⟩⟩;refine⟨_,rfl,_,rfl,_,rfl,aU 2 hd (by omega) ⟨_,_,rfl,rfl,(by show(0:Int)<10;decide),_,_,rfl,rfl,_,rfl,jc hd λl1 H1 f1 i1 s1=>?_⟩⟩;refine⟨_,rfl,l1,_,(k:Int),rfl,ah.of i1,by omega,by omega,by omega,λl2 H2 f2 i2 s2=>?_⟩;have b7:=s1.trans s2;refine⟨_,rfl,aU 3 (b7.ints hd) (by omega) ⟨_,_,rfl,rfl,(by show(0:Int)<7;decide),rfl,_,rfl,bK (λ_=>?_) λ_=>?_⟩⟩
  ·refine⟨_,rfl,_,rfl,_,rfl,aU 2 (b7.ints hd) (by omega) ⟨_,_,rfl,rfl,(by show(0:Int)<26;decide),_,_,rfl,rfl,_,rfl,jc (b7.ints hd) λl3 H3 f3 i3 s3=>?_⟩⟩;refine⟨_,rfl,l3,_,(k:Int),rfl,ah.of i3,by omega,by omega,by omega,λl4 H4 f4 i4 s4=>?_⟩;exact NQ _ _ l4 _ H4 (m _) (m _) i4 (zd k1 _) (by rw[Y1];exact c2) ((b7.trans s3).free f4) (b7.trans (s3.trans s4))
  ·exact NQ _ _ l2 _ H2 (m _) (m _) i2 (zd k1 _) (by rw[Y1];exact c1) (s1.free f2) b7
def tP:aM ["_law_book_here","_law_kinds","_law_marks","_law_draws","_law_entry_here","_law_number","_law_hold"] ["_law_book_here","_law_kinds","_law_marks","_law_draws"] (aF xn):=aP
def Qo{f C cE cH:Addr}{fd:FuncData}(F:aH K "_law_detour" "_law_detour" xn f fd)(T:Txt K mg)(LE:bj P w K mg base "_law_entry" ["_law_kinds","_law_marks","_law_draws"] 1 zb)(qr:bj P w K mg base "_law_entered" ["_law_book_here","_law_entry_here"] 11 (tX C))
  (STK:bO P w K mg base C "strike" ["self","number"] 1 (FV C cE))(qx:cg P w K mg base C "entries" ["self"] 1 (yc C))(HLD:cg P w K mg base C "hold" ["self"] 1 (Ka C))(BCK:bO P w K mg base C "back" ["self","number"] 1 (IW C cH)):
  aA P w K mg base aN 12 f fd ["_law_book_here","_law_kinds","_law_marks","_law_draws"] (Hg C):=by
 refine F.ok tP (λvs H Q E h=>?_) (λau A outer s H vs Q E hr h=>?_)
 ·obtain⟨g,lh,ld,B,rest,ds,rfl,_⟩:=h
  rfl
 ·obtain⟨g,lh,ld,B,rest,ds,rfl,hB,hd,l3,nl,n1,cu,un,h9,q⟩:=h;have bM:=hB.bM
  refine⟨_,(@sC _ _ _ _ _ (@sS _ 4 _ _ _ _ _ tP.nd rfl (Or.inl rfl) (LE.pe hr (@aC _ _ _ _ _ (pv 1) (@aC _ _ _ _ _ (pv 2) (@aC _ _ _ _ _ (pv 3) ae (by rfl)) (by rfl)) (by rfl))) (by rfl) (.inl rfl))
   (@sC _ _ _ _ _ (aY (PW.pt (rh (aK cG (ay bJ (ay jM (av aJ (pv 3) af (λ_ _=>rfl)) af) af) af (aI _)) (qO (aK gG (bB cA (by rfl) T.len PySem.boot_len (@aC _ _ _ _ _ (qx.cS hr (pv 0)) ae (by rfl))) af (aI _))))) (@sC _ _ _ _ _ (@sS _ 5 _ _ _ _ _ tP.nd rfl (Or.inl rfl) (qr.pe hr (@aC _ _ _ _ _ (pv 0) (@aC _ _ _ _ _ (pv 4) ae (by rfl)) (by rfl))) (by rfl) (.inl rfl))
   (@sO _ _ _ (aY (aK ki (pv 5) c8 (aI _)) (@sO _ _ _ (bF (STK.cS hr (pv 0) (@aC _ _ _ _ _ (pv 5) ae (by rfl))))) a7))) a7)
   (@sO _ _ _ (aY (PW.pt (rh (aK cG (ay bJ (ay jM (av aJ (pv 3) af (λ_ _=>rfl)) af) af) af (aI _)) (qO (aK gG (bB cA (by rfl) T.len PySem.boot_len (@aC _ _ _ _ _ (qx.cS hr (pv 0)) ae (by rfl))) af (aI _))))) (@sC _ _ _ _ _ (@sS _ 6 _ _ _ _ _ tP.nd rfl (Or.inl rfl) (HLD.cS hr (pv 0)) (by rfl) (.inl rfl))
   (@sC _ _ _ _ _ (bF (qr.pe hr (@aC _ _ _ _ _ (pv 0) (@aC _ _ _ _ _ (pv 4) ae (by rfl)) (by rfl))))
   (@sO _ _ _ (bF (BCK.cS hr (pv 0) (@aC _ _ _ _ _ (pv 6) ae (by rfl))))))) a7)))),?_⟩
  refine⟨_,rfl,_,rfl,_,rfl,B.k,B.n,ld,ds,rfl,hd,l3,hB.k1,hB.k5,n1,by omega,λt e H2 ht it jG b7=>?_⟩;have hX:=hB.same b7;have hd2:ax H2 ld ds:=b7.ints hd;have Cb:t≠g:=λz=>hB.not ht (z▸Y9 ..);refine⟨_,rfl,aU 0 hd2 (by omega) ⟨_,_,rfl,rfl,⟨by show(0:Int)<100;decide,by show(100:Int)<1073741824;decide⟩,_,_,rfl,rfl,(by show(0:Int)<3;decide),rfl,_,rfl,bK (λz1=>?_) λz1=>?_⟩⟩
  ·have z1:ds.getD 0 0/100%3=1:=V.int.inj (of_decide_eq_true z1);obtain⟨Cs,Ci,tH,_⟩:=id hX.ob;refine⟨_,rfl,g,Cs,_,rfl,tH,rfl,g,lh,B,rest,rfl,hX,λle Ha hle el sa=>?_⟩;obtain⟨qs,e1,_,e3,_⟩:=el.ob;have ql:qs.length=B.es.length:=by rw[<-e3,Y1]
   refine⟨le,_,rfl,.inl (ah.of e1),_,_,rfl,rfl,_,rfl,jm (ZN (by rw[Y1];omega)) ?_⟩;replace b7:=b7.trans sa;replace hX:=hB.same b7;replace hd2:ax Ha ld ds:=b7.ints hd;replace it:=sa _ _ it;clear sa hle el e1 tH
   have fin:∀(x y:Option V) (H':Hp) (B':Bk) (aR:List Addr),B'.k=B.k->B'.n=B.n->B'.es=B.es->aL C H' g lh B' aR->B.c<=B'.c->B'.hs=B.hs->Kp g H H'->Nw H rest aR->Q .aE H':=by
    intro x y H' B' aR ek en ee jE hc eh kp nw;refine q B'.c B'.hs lh aR H' ?_ hc (by rw[eh];omega) (Fr.nR jE kp) .refl nw;rw[<-ek, <-en, <-ee];exact jE
   refine⟨_,rfl,_,rfl,g,lh,B,rest,t,e,rfl,hX,it,jG,cu,λbr H3 s3=>?_,λnb H3 iI cz wc ja=>?_⟩
   ·have Ct:=b7.trans s3;refine⟨_,rfl,rfl,_,rfl,cV ?_⟩;refine⟨_,rfl,aU 0 (Ct.ints hd) (by omega) ⟨_,_,rfl,rfl,⟨by show(0:Int)<100;decide,by show(100:Int)<1073741824;decide⟩,_,_,rfl,rfl,(by show(0:Int)<3;decide),rfl,_,rfl,cy (ZO λw=>by have w:ds.getD 0 0/100%3=2:=V.int.inj w;omega) (cV ?_)⟩⟩;exact fin none none H3 B rest rfl rfl rfl (hB.same Ct) (by omega) rfl (Kp.of Ct) .refl
   ·have A1:Kp g H H3:=(Kp.of b7).trans ja;obtain⟨dx,ls,hg,he⟩:=id cz.ob;have hd3:ax H3 ld ds:=A1 _ _ hd (hB.zN hd);refine⟨_,rfl,rfl,_,rfl,fI ?_⟩;refine⟨_,rfl,g,dx,_,rfl,hg,rfl,_,rfl,g,lh,_,iI,B.c,rfl,cz,λ_ H4 uL fV Cu lA=>?_,λz=>absurd ?_ z⟩
    ·have L6:=A1.trans lA;refine⟨_,rfl,aU 0 (L6 _ _ hd (hB.zN hd)) (by omega) ⟨_,_,rfl,rfl,⟨by show(0:Int)<100;decide,by show(100:Int)<1073741824;decide⟩,_,_,rfl,rfl,(by show(0:Int)<3;decide),rfl,_,rfl,cy (ZO λw=>by have w:ds.getD 0 0/100%3=2:=V.int.inj w;omega) (cV ?_)⟩⟩;refine fin none none H4 ((B.add e).less B.c) uL rfl rfl (UI un e) fV (by show B.c<=B.c+1;omega) rfl L6 ?_;have f3:∀b o,Ha b=some o->H3 b≠none:=(Fr.nR (lh:=lh) cz ja).lv;have n2:Nw H rest iI:=Nw.trans (H':=Ha) Nw.refl wc λb o e=>by rw[b7 b o e];exact λz=>nomatch z
     exact n2.trans Cu (Fr.nR (lh:=lh) cz A1).lv
    ·refine Zh.mpr ⟨e.re B.c,Zb _ (Y2.mpr rfl),uB ..⟩
  ·refine cV ?_;refine⟨_,rfl,aU 0 hd2 (by omega) ⟨_,_,rfl,rfl,⟨by show(0:Int)<100;decide,by show(100:Int)<1073741824;decide⟩,_,_,rfl,rfl,(by show(0:Int)<3;decide),rfl,_,rfl,bK (λz2=>?_) λz2=>?_⟩⟩
   ·obtain⟨Cs,Ci,tH,_⟩:=id hX.ob;refine⟨_,rfl,g,Cs,_,rfl,tH,rfl,g,lh,B,rest,rfl,hX,λle Ha hle el sa=>?_⟩;obtain⟨qs,e1,_,e3,_⟩:=el.ob;have ql:qs.length=B.es.length:=by rw[<-e3,Y1]
    refine⟨le,_,rfl,.inl (ah.of e1),_,_,rfl,rfl,_,rfl,jm (ZN (by rw[Y1];omega)) ?_⟩;replace b7:=b7.trans sa;replace hX:=hB.same b7;replace hd2:ax Ha ld ds:=b7.ints hd;replace it:=sa _ _ it;clear sa hle el e1 tH;obtain⟨dx,ls,hg,he⟩:=id hX.ob;refine⟨_,rfl,g,dx,_,rfl,hg,rfl,g,lh,B,rest,rfl,hX,by omega,λH3 iI cz wc ja=>?_⟩;have cX:Fr Ha H3 g lh:=Fr.ab1 cz ja
    have it3:H3 t=some (.tup e.told):=cX.kp _ _ it Cb λz=>by
     obtain⟨_,xs,hl⟩:=hX.heads;rw[z,hl]at it;cases it
    refine⟨_,rfl,_,rfl,g,lh,B.hold,iI,t,e,rfl,cz,it3,jG,cu,λbr H4 s4=>?_,λnb H4 uL fV Cu lA=>?_⟩
    ·have fV:=cz.same s4;obtain⟨Cv,ls4,qp,he4⟩:=id fV.ob;refine⟨_,rfl,g,Cv,_,rfl,qp,rfl,_,rfl,g,lh,B.hold,iI,_,rfl,fV,by show(B.hs++[_]).length<=1000;simp;omega,λj h ej hj H5 Cw oF Cy Cz=>?_,λz=>absurd ⟨by omega,by show _<=(((B.hs++[_]).length:Nat):Int);simp⟩ z⟩;have ej:j=B.hs.length:=by omega
     subst ej
     have hh:(B.n,B.es,B.c)=h:=by
      have:(B.hs++[(B.n,B.es,B.c)])[B.hs.length]?=some h:=hj;rw[Zt (Y3 _),Nat.sub_self]at this;exact Zg this
     subst hh;have f5:Fr H4 H5 g lh:=Fr.nR oF Cz;have fr:Fr H H5 g lh:=((Fr.of_same b7).trans cX .refl).trans ((Fr.of_same s4).trans f5 .refl) .refl;refine q B.c _ Cw iI H5 oF (Int.le_refl _) (by show((B.hs++[_]).take _).length<=_;simp) fr ?_ ?_
     ·exact gM.trans (H':=H4) .refl (.inr Cy) (((Fr.of_same b7).trans cX .refl).trans (Fr.of_same s4) .refl)
     ·exact Nw.trans (H':=Ha) Nw.refl wc (Fr.of_same (g:=g) (lh:=lh) b7).lv
    ·obtain⟨Cv,ls4,qp,he4⟩:=id fV.ob;refine⟨_,rfl,g,Cv,_,rfl,qp,rfl,_,rfl,g,lh,_,uL,_,rfl,fV,by show(B.hs++[_]).length<=1000;simp;omega,λj h ej hj H5 Cw oF Cy Cz=>?_,λz=>absurd ⟨by omega,by show _<=(((B.hs++[_]).length:Nat):Int);simp⟩ z⟩;have ej:j=B.hs.length:=by omega
     subst ej
     have hh:(B.n,B.es,B.c)=h:=by
      have:(B.hs++[(B.n,B.es,B.c)])[B.hs.length]?=some h:=hj;rw[Zt (Y3 _),Nat.sub_self]at this;exact Zg this
     subst hh;have f4:Fr H3 H4 g lh:=Fr.nR fV lA;have f5:Fr H4 H5 g lh:=Fr.nR oF Cz;have NR:Fr H H4 g lh:=((Fr.of_same b7).trans cX .refl).trans f4 .refl;refine q B.c _ Cw uL H5 oF (Int.le_refl _) (by show((B.hs++[_]).take _).length<=_;simp) (NR.trans f5 .refl) ?_ ?_
     ·exact gM.trans (H':=H4) .refl (.inr Cy) NR
     ·exact(Nw.trans (H':=Ha) Nw.refl wc (Fr.of_same (g:=g) (lh:=lh) b7).lv).trans Cu ((Fr.of_same (g:=g) (lh:=lh) b7).trans cX .refl).lv
   ·exact cV (q B.c B.hs lh rest H2 hX (Int.le_refl _) (by omega) (Fr.of_same b7) .refl .refl)
def tS:aM ["_law_many","_law_draws","_law_left","_law_row","_law_k"] ["_law_many","_law_draws"] (aF xC):=aP
def Vn{f:Addr}{fd:FuncData}(F:aH K "_law_mixed" "_law_mixed" xC f fd)(T:Txt K mg):aA P w K mg base aN 1 f fd ["_law_many","_law_draws"] Jm:=by
 refine F.ok tS (λvs H Q E h=>?_) (λau A outer s H vs Q E hr h=>?_)
 ·obtain⟨n,ld,ds,rfl,_⟩:=h
  rfl
 ·obtain⟨n,ld,ds,rfl,hd,n7,hl,q⟩:=h
  refine⟨_,(@sC _ _ _ _ _ (@sS _ 2 _ _ _ _ _ tS.nd rfl (Or.inl rfl) (lJ (xq rfl) rfl T.list lN (aq (zy rfl T.range (@aC _ _ _ _ _ (pv 0) ae (by rfl))) ae)) (by rfl) (.inl rfl))
   (@sC _ _ _ _ _ (@sS _ 3 _ _ _ _ _ tS.nd rfl (Or.inl rfl) (dU ae) (by rfl) (.inl rfl))
   (@sC _ _ _ _ _ (cb Zm rfl (gP rfl T.range (@aC _ _ _ _ _ (pv 0) ae (by rfl))) (aT (i:=4) tS.nd rfl (Or.inl rfl)) (@sO _ _ _ (bF (eQ PySem.F.plainAttrs_list PySem.F.slot_list_append PySem.F.type_list_append eG (pv 3) (@aC _ _ _ _ _ (eQ PySem.F.plainAttrs_list PySem.F.slot_list_pop PySem.F.type_list_pop Ud (pv 2) (@aC _ _ _ _ _ (ay bJ (av aJ (pv 1) (pv 4) (λ_ _=>rfl)) (bB cA (by rfl) T.len PySem.boot_len (@aC _ _ _ _ _ (pv 2) ae (by rfl)))) ae (by rfl))) ae (by rfl))))))
   (@sO _ _ _ (@sR _ _ _ _ (pv 3)))))),?_⟩
  refine⟨_,rfl,_,rfl,λr dG=>yp (K:=K) ak (by omega) λlf H3 NS il s3=>?_⟩;have NT:aa H H3:=((aa.refl H).upd dG).trans s3
  have acf:H lf=none:=by
   have:=NS;by_cases z:lf=r
   ·rw[z];exact dG
   ·rwa [aj z]at this
  refine qR (by simp) λen H4 CA ie s4=>?_;have L7:H en=none:=NT.free CA;have NU:lf≠en:=λz=>by rw[z]at il;rw[show H3 en=_ from il]at CA;cases CA
  refine⟨_,rfl,_,rfl,by omega,by omega,mW (lo:=0) (n:=(n:Int).toNat) (λc σ H5=>∃(left ends:List Int) (y7:Option V),σ=[some (.int n),some (.ref ld),some (.ref lf),some (.ref en),y7]/\aa H H5/\ax H5 lf left/\ax H5 en ends/\ends.length=c/\kL n c left ends)
   ⟨c5 n,[],_,rfl,NT.trans s4,s4.ints il,ie,rfl,kL.zero n⟩ ?_ ?_⟩
  ·rintro c σ H5 hc ⟨left,ends,y7,rfl,s5,i5,e5,lc,md⟩;have hc:c<n:=by omega
   have h5:=s5.ints hd;have ll:=md.len;have e1:((left.map V.int).length:Int)=((n-c:Nat):Int):=by rw[Y1,ll]
   refine⟨_,rfl,.inl ⟨rfl,_,ah.of e5⟩,_,rfl,.inl ⟨rfl,_,ah.of i5⟩,_,rfl,_,rfl,aU c h5 (by omega) ?_ (by omega)⟩;generalize ds.getD c 0=d;have m0:=Zz d (show((n-c:Nat):Int)≠0 by omega);have m1:=Zy d (show(0:Int)<((n-c:Nat):Int)by omega);obtain⟨m,em⟩:∃m:Nat,d%((n-c:Nat):Int)=(m:Int):=⟨(d%((n-c:Nat):Int)).toNat,by omega⟩;have hm:m<left.length:=by omega
   have ix:iR (left.map V.int).length (m:Int)=some m:=by
    unfold iR;rw[if_pos (by omega),if_pos (by rw[Y1];omega)];rfl
   refine⟨_,rfl,lf,_,rfl,.inl (ah.of i5),_,_,rfl,rfl,by rw[e1];omega,lf,_,_,m,.int left[m],rfl,rfl,i5,?_,?_,?_,?_,?_⟩
   ·rw[e1,em];omega
   ·rw[e1,em];have:=(uf ix).2.2.2;rw[Y1]at this;omega
   ·rw[e1,em];exact(uf ix).1
   ·simp[hm]
   have fu:ax (upd H5 lf (.lst ((left.map V.int).eraseIdx m))) lf (left.eraseIdx m):=by
    show upd _ _ _ _=_;rw[ak,Eg]
   have NV:ax (upd H5 lf (.lst ((left.map V.int).eraseIdx m))) en ends:=e5.other NU.symm;have s6:aa H (upd H5 lf (.lst ((left.map V.int).eraseIdx m))):=s5.upd acf;generalize upd H5 lf (.lst ((left.map V.int).eraseIdx m))=H6 at fu NV s6;refine⟨en,_,_,rfl,rfl,NV,bD (by rw[Y1];omega),?_⟩;refine⟨_,_,_,rfl,s6.upd L7,fu.other NU,ax.snoc,by simp[lc],md.step hm⟩
  ·rintro σ H5 ⟨left,ends,y7,rfl,s5,i5,e5,lc,md⟩;rw[Za]at md;exact⟨_,rfl,q en ends H5 L7 e5 md.done s5⟩
end
section
variable {P:Program}{w:World}{K:PySem.W.Frag}{mg:Str->Option Value}{base:Heap}
def fD:aM ["_law_script","_law_numbers_here","_law_kinds","_law_marks","_law_many","_law_book_here","_law_standing","_law_rows_here","_law_a","_law_way_here","_law_b","_law_other","_law_k"] ["_law_script"] (aF lY):=aP
def aal{f C Cc cF cM cK cN:Addr}{fd:FuncData}(F:aH K "law" "law" lY f fd)(T:Txt K mg)(wd:mg "sorted"=none)(N:bj P w K mg base "_law_numbers" ["_law_script","_law_many"] 1 (JL K))(SV:kR P w K mg base C "Survey" ["self","kinds"] 1 (IS C))(LB:bj P w K mg base "_law_book" ["_law_book_here","_law_kinds","_law_marks","_law_many","_law_draws"] 12 (J7 C))
  (LR:bj P w K mg base "_law_rows" ["_law_standing"] 1 mY)(AS:bj P w K mg base "_law_asked" ["_law_kinds","_law_marks","_law_rows_here","_law_draws"] 4 Gh)(MX:bj P w K mg base "_law_mixed" ["_law_many","_law_draws"] 1 Jm)(B6:bO P w K mg base C "chalk" ["self"] 1 (yu C cF))(qr:bj P w K mg base "_law_entered" ["_law_book_here","_law_entry_here"] 11 (tX C))(DT:bj P w K mg base "_law_detour" ["_law_book_here","_law_kinds","_law_marks","_law_draws"] 12 (Hg C))
  (vX:cg P w K mg base C "chambers" ["self"] 8 (xQ C))(NW:bO P w K mg base C "judge" ["self","a","way","b"] 8 (Jj C cM cK))(se:bO P w K mg base C "piece" ["self","a"] 9 (HI C Cc cN))(TB:cg P w K mg base Cc "table" ["self"] 2 (zK Cc))(qx:cg P w K mg base C "entries" ["self"] 1 (yc C)):
  aA P w K mg base aN 14 f fd ["_law_script"] (uH K):=by
 refine F.ok fD (λvs H Q E h=>?_) (λau A outer s H vs Q E hr h=>?_)
 ·obtain⟨a,ns,rfl,_⟩:=h
  rfl
 ·obtain⟨sc,ns,rfl,hS,hn,kk⟩:=h;have hu:=hr.units
  have abf:∃u:TS,cW (fG aN P w K mg base ["_law_script","_law_numbers_here","_law_kinds","_law_marks","_law_many","_law_book_here","_law_standing","_law_rows_here","_law_a","_law_way_here","_law_b","_law_other","_law_k"] "law" (aF lY) f au A outer s H E).gu ((eK lY).drop 5) u/\
    ∀(l0:Addr) (ms:List Int) (k m many:Nat) (G:Hp),ax G l0 ms->ms.length=200->1<=k->k<=5->m<=24->many<=40->u {nx:=λ_ H'=>Q .aE H',rt:=Q} [some (.ref sc),some (.ref l0),some (.int k),some (.int m),some (.int many),none,none,none,none,none,none,none,none] G:=by
   refine⟨_,(@sC _ _ _ _ _ (@sS _ 5 _ _ _ _ _ fD.nd rfl (Or.inl rfl) (SV.pe hr (@aC _ _ _ _ _ (pv 2) ae (by rfl))) (by rfl) (.inl rfl))
   (@sC _ _ _ _ _ (@sS _ 6 _ _ _ _ _ fD.nd rfl (Or.inl rfl) (LB.pe hr (@aC _ _ _ _ _ (pv 5) (@aC _ _ _ _ _ (pv 2) (@aC _ _ _ _ _ (pv 3) (@aC _ _ _ _ _ (pv 4) (@aC _ _ _ _ _ (eI iL (pv 1) (cL af) jN) ae (by rfl)) (by rfl)) (by rfl)) (by rfl)) (by rfl))) (by rfl) (.inl rfl))
   (@sC _ _ _ _ _ (aY (aK cG (pv 3) af (aI _)) (@sO _ _ _ (@sR _ _ _ _ (o7 (Wk hu) (qx.cS hr (pv 5)) (dU ae) (aI _)))) a7)
   (@sC _ _ _ _ _ (@sS _ 7 _ _ _ _ _ fD.nd rfl (Or.inl rfl) (LR.pe hr (@aC _ _ _ _ _ (pv 6) ae (by rfl))) (by rfl) (.inl rfl))
   (@sC _ _ _ _ _ (gE (AS.pe hr (@aC _ _ _ _ _ (pv 2) (@aC _ _ _ _ _ (pv 3) (@aC _ _ _ _ _ (pv 7) (@aC _ _ _ _ _ (eI iL (pv 1) (cL af) (cL af)) ae (by rfl)) (by rfl)) (by rfl)) (by rfl))) (eM rfl (bA (aT (i:=8) fD.nd rfl (Or.inl rfl)) (bA (aT (i:=9) fD.nd rfl (Or.inl rfl)) (bA (aT (i:=10) fD.nd rfl (Or.inl rfl)) eJ)))))
   (@sC _ _ _ _ _ (@sS _ 11 _ _ _ _ _ fD.nd rfl (Or.inl rfl) (SV.pe hr (@aC _ _ _ _ _ (pv 2) ae (by rfl))) (by rfl) (.inl rfl))
   (@sC _ _ _ _ _ (cb Zm rfl (gP rfl T.range (@aC _ _ _ _ _ (pv 3) ae (by rfl))) (aT (i:=12) fD.nd rfl (Or.inl rfl)) (@sO _ _ _ (bF (B6.MG hr (pv 11)))))
   (@sC _ _ _ _ _ (cb Zm rfl (bW (MX.pe hr (@aC _ _ _ _ _ (bB cA (by rfl) T.len PySem.boot_len (@aC _ _ _ _ _ (pv 6) ae (by rfl))) (@aC _ _ _ _ _ (eI iL (pv 1) (cL af) jN) ae (by rfl)) (by rfl)))) (aT (i:=12) fD.nd rfl (Or.inl rfl)) (@sC _ _ _ _ _ (bF (DT.pe hr (@aC _ _ _ _ _ (pv 11) (@aC _ _ _ _ _ (pv 2) (@aC _ _ _ _ _ (pv 3) (@aC _ _ _ _ _ (eI iL (pv 1) (cL (ay cQ af (pv 12))) (cL (ay cQ af (pv 12)))) ae (by rfl)) (by rfl)) (by rfl)) (by rfl))))
   (@sO _ _ _ (aY (aK zq (qr.pe hr (@aC _ _ _ _ _ (pv 11) (@aC _ _ _ _ _ (eI JC (av aJ (pv 6) (pv 12) (λ_ _=>rfl)) (cL af) jN) ae (by rfl)) (by rfl))) c8 (aI _)) (@sO _ _ _ (@sR _ _ _ _ pB)) a7))))
   (@sC _ _ _ _ _ (aY (PW.pt (iF (aK (Wl hu) (vX.cS hr (pv 11)) (vX.cS hr (pv 5)) (aI _)) (iA (aK rD (NW.cS hr (pv 11) (@aC _ _ _ _ _ (pv 8) (@aC _ _ _ _ _ (pv 9) (@aC _ _ _ _ _ (pv 10) ae (by rfl)) (by rfl)) (by rfl))) (NW.cS hr (pv 5) (@aC _ _ _ _ _ (pv 8) (@aC _ _ _ _ _ (pv 9) (@aC _ _ _ _ _ (pv 10) ae (by rfl)) (by rfl)) (by rfl))) (aI _))))) (@sO _ _ _ (@sR _ _ _ _ pB)) a7)
   (@sC _ _ _ _ _ (aY (aK (Yh hu) (TB.cS hr (se.cS hr (pv 11) (@aC _ _ _ _ _ (pv 10) ae (by rfl)))) (TB.cS hr (se.cS hr (pv 5) (@aC _ _ _ _ _ (pv 10) ae (by rfl)))) (aI _)) (@sO _ _ _ (@sR _ _ _ _ pB)) a7)
   (@sO _ _ _ (@sR _ _ _ _ (o7 (Yg hu) (bB (Ei K rfl) (by rfl) wd Gi (@aC _ _ _ _ _ (fW [] [] (bW (qx.cS hr (pv 11))) (λC s H fp=>eI (LU K rfl) (pv 0) (cL af) jN) kq) ae (by rfl))) (bB (Ei K rfl) (by rfl) wd Gi (@aC _ _ _ _ _ (fW [] [] (bW (qx.cS hr (pv 5))) (λC s H fp=>eI (LU K rfl) (pv 0) (cL af) jN) kq) ae (by rfl))) (aI _)))))))))))))),?_⟩
   intro l0 ms k m many G h0 hm k1 k5 vB L4;refine⟨_,rfl,λg dx ng tF neg=>?_⟩;have sx:aa G (upd (upd G dx (.own g)) g (.ins C dx [])):=((aa.refl G).upd tF).upd ng;refine⟨g,dx,k,rfl,ak,k1,k5,λH1 lh rest lj flh acG kp1=>⟨rfl,?_⟩⟩;have s1:aa G H1:=λb o e=>kp1 b o (sx b o e) λz=>by rw[z,ng]at e;cases e
   have h1:=s1.ints h0;refine⟨_,rfl,_,rfl,_,rfl,_,rfl,_,rfl,_,rfl,jc h1 λld H2 hld id2 s2=>?_⟩;have dr:(cO ms (some 60) none).length=140:=by rw[show(60:Int)=((60:Nat):Int)from rfl,Fh,ZJ,hm]
   refine⟨g,lh,rest,k,m,many,ld,_,rfl,lj.same s2,vB,L4,id2,by rw[dr];omega,λl eE B iI H3 cz bk bn bh be bc qt NX hl nl ngf BW nw fr ja=>?_⟩;subst bk bn;have g0:l0≠g:=λz=>by rw[<-z]at ng;rw[show G l0=_ from h0]at ng;cases ng
   have h3:ax H3 l0 ms:=ja _ _ (s2.ints h1) g0;have cu:=cz.cu;obtain⟨tJ,ls3,mT,_⟩:=id cz.ob;refine⟨_,rfl,rfl,_,rfl,bK (λz=>?_) λz=>?_⟩
   ·have z:B.n=0:=by have:=V.int.inj (of_decide_eq_true z);omega
    refine⟨_,rfl,g,tJ,_,rfl,mT,rfl,g,lh,B,iI,rfl,cz,λp H4 hp lb s4=>lP [] λl0 H5 qq i0 s5=>Wq (ns:=[]) (s5 _ _ ?_) i0 rfl (kk _)⟩
    have:B.es=[]:=List.eq_nil_iff_forall_not_mem.mpr λe he=>by
     have:=cz.ok e he;cases e with
     |row i a kd b=>obtain⟨⟨_,_⟩,_⟩:=this;omega
     |ap i a b=>obtain⟨⟨_,_⟩,_⟩:=this;omega
    obtain⟨ps,e1,_,e3,_⟩:=lb.ob;rw[this]at e3;rw[e1,List.map_eq_nil_iff.mp e3];rfl
   have m1:1<=B.n:=by
    have z:¬(B.n:Int)=0:=λw=>z (ZN (by rw[w]));omega
   refine⟨_,rfl,l,eE,B.es,rfl,NX,by omega,λr ps H4 hr4 tl er s4=>?_⟩;have vG:=EU cz.ok;have acN:=oU B.es;have pl:=mZ er;have h4:=s4.ints h3;refine⟨_,rfl,_,rfl,_,rfl,_,rfl,_,rfl,_,rfl,jc h4 λlq H5 B8 iq s5=>?_⟩
   have ql:(cO ms (some 20) (some 60)).length=40:=by
    rw[show(60:Int)=((60:Nat):Int)from rfl,show(20:Int)=((20:Nat):Int)from rfl,o8 _ _ _ (by decide),Zx,ZJ,hm];decide
   refine⟨B.k,B.n,r,lq,ps,_,rfl,tl.same s5,λp hp=>qK er vG p hp,iq,ql,k1,k5,m1,by omega,by omega,λt wa a b ws H6 ht iw ha hb dq wl _ s6=>?_⟩;refine⟨t,_,rfl,aV.of ht,rfl,_,_,rfl,_,_,rfl,_,_,rfl,rfl,?_⟩;have tK:=s4.trans (s5.trans s6);have nz:=zg dq;refine⟨_,rfl,λg2 qj wg acg acO=>?_⟩;have NY:aa H6 (upd (upd H6 qj (.own g2)) g2 (.ins C qj [])):=((aa.refl H6).upd acg).upd wg;refine⟨g2,qj,B.k,rfl,ak,k1,k5,λH9 gN pF MM ach acE kp9=>⟨rfl,?_⟩⟩;have s69:aa H6 H9:=λb o e=>kp9 b o (NY b o e) λz=>by rw[z,wg]at e;cases e
   have aci:H6 gN=none:=NY.free ach;have m0:(0:Int)<=B.n:=by omega
   refine⟨_,rfl,_,rfl,by omega,by omega,mW (lo:=0) (n:=(B.n:Int).toNat) (λi σ Hx=>(∃x,σ=[some (.ref sc),some (.ref l0),some (.int B.k),some (.int B.n),some (.int many),some (.ref g),some (.ref l),some (.ref r),some (.int a),some (.ref wa),some (.int b),some (.ref g2),x])/\aL C Hx g2 gN ⟨B.k,i,[],1,[]⟩ pF/\Kp g2 H9 Hx) ⟨⟨none,rfl⟩,MM,Kp.of (aa.refl H9)⟩ ?_ ?_⟩
   ·rintro i σ Hx hi ⟨⟨x,rfl⟩,hD,kp⟩;obtain⟨dy,ly,hy,_⟩:=id hD.ob;exact⟨_,rfl,g2,dy,_,rfl,hy,rfl,g2,gN,_,pF,rfl,hD,λ_ H3 cz ja=>⟨⟨_,rfl⟩,cz,kp.trans ja⟩,λz=>absurd (show i<24 by omega) z⟩
   rintro σ HA ⟨⟨x,rfl⟩,CB,kpA⟩;rw[Za]at CB;have sA:aa H6 HA:=λb o e=>kpA _ _ (s69 _ _ e) λz=>by rw[z,wg]at e;cases e
   have N0:=tK.trans sA;obtain⟨qs,q1,q2,q3,_⟩:=id NX.ob;have N1:qs.length=B.es.length:=by rw[<-q3,Y1]
   refine⟨_,rfl,l,_,rfl,.inl (ah.of (N0 _ _ q1)),_,rfl,_,rfl,jc (N0.ints h3) λlz H7 hlz iz s7=>?_⟩;have zl:(cO ms (some 70) none).length=130:=by rw[show(70:Int)=((70:Nat):Int)from rfl,Fh,ZJ,hm]
   refine⟨B.es.length,lz,_,(by rw[Y1,N1];rfl),iz,by omega,by rw[zl];omega,λnn ks H8 N5 N6 pm s8=>?_⟩;have N7:=s7.trans s8;have N8:=CB.same N7;have s68:=sA.trans N7;have kl:ks.length=B.es.length:=by rw[pm.length_eq,HM]
   have nnl:nn≠gN:=λz=>by
    obtain⟨_,xs,h⟩:=(CB.same s7).heads;rw[z,h]at N5;cases N5
   have dg:∀{Hx:Hp},Fr H8 Hx g2 gN->aa H6 Hx:=λfr b o e=>fr.kp b o (s68 _ _ e) (λz=>by rw[z,wg]at e;cases e) λz=>by rw[z,aci]at e;cases e
   have tk:∀x:Int,x∈ks->∃(j:Nat) (q:Addr×En),x=(j:Int)/\j<40/\qs[j]?=some q/\q.2∈B.es:=λx hx=>by
    obtain⟨h1,h2⟩:=UX.mp (pm.mem_iff.mp hx);have hj:x.toNat<qs.length:=by omega
    exact⟨x.toNat,qs[x.toNat],by omega,by omega,by simp[hj],by rw[<-q3];exact Zh.mpr ⟨_,ZA hj,rfl⟩⟩
   have bM:=cz.bM
   refine⟨nn,rfl,⟨_,ah.of N6⟩,dS (K:=K) (a:=nn) (xs:=ks.map V.int) (λi σ Hx=>∃(CD:Option V) (jH:Addr) (D:Bk) (lZ:List Addr),σ=[some (.ref sc),some (.ref l0),some (.int B.k),some (.int B.n),some (.int many),some (.ref g),some (.ref l),some (.ref r),some (.int a),some (.ref wa),some (.int b),some (.ref g2),CD]/\aL C Hx g2 jH D lZ/\D.k=B.k/\D.n=B.n/\D.es.map En.told=(ks.take i).map (λx=>(qs.getD x.toNat jC).2.told)/\iN D.es D.c/\D.hs.length<=i/\Fr H8 Hx g2 gN/\gM H8 gN jH)
    ⟨_,gN,_,pF,rfl,N8,rfl,rfl,rfl,iN.nil _,Y3 _,Fr.of_same (aa.refl _),.refl⟩ (λi σ Hx _ ⟨_,_,_,_,_,_,_,_,_,_,_,fr,_⟩=>ah.of (WX N6 N8 fr nnl)) ?_ ?_⟩
   ·rintro i y σ Hx hi ⟨CD,jH,D,lZ,rfl,hD,dk,dn,dt,du,dh,fr,nw⟩;obtain⟨x,rfl,ex⟩:=jd hi;have xm:=Y6 ex;obtain⟨j,q,rfl,j40,ej,qm⟩:=tk x xm;have wm:=dg fr;have fP:=(ZL.mp ex).1
    have dl:D.es.length=i:=by
     have:=congrArg List.length dt;rw[Y1,Y1,Zx]at this;omega
    have e1:(100+(j:Int))=((100+j:Nat):Int):=by omega
    have e2:(103+(j:Int))=((103+j:Nat):Int):=by omega
    refine⟨_,rfl,_,rfl,_,rfl,_,rfl,_,rfl,_,_,rfl,rfl,_,rfl,_,rfl,_,_,rfl,rfl,_,rfl,jc ((tK.trans wm).ints h3) λlq Hy B8 iq sq=>?_⟩;rw[e1,e2,o8 _ _ _ (by omega)]at iq;have l3:((ms.drop (100+j)).take (103+j-(100+j))).length=3:=by rw[Zx,ZJ];omega
    have nqx:=hD.not B8;refine⟨g2,jH,lq,D,lZ,_,(by rw[dk,dn];rfl),hD.same sq,iq,l3,λz=>nqx (z▸Y4 _ (Y9 ..)),by omega,by omega,du,by omega,λc6 N9 wo abg Hz hD6 hc6 hh6 fr6 nw6 nr6=>?_⟩;have fxz:Fr Hx Hz g2 jH:=(Fr.of_same sq).trans fr6 .refl;have nxz:gM Hx jH wo:=gM.trans (H':=Hy) .refl nw6 (Fr.of_same (g:=g2) sq);have df:Fr H8 Hz g2 gN:=fr.trans fxz nw;have Oa:gM H8 gN wo:=nw.trans nxz fr;have Ob:=dg df;have hte:Hz q.1=some (.tup q.2.vs):=(tK.trans Ob) _ _ (q2 q (Y6 ej));have jG:=cz.ok q.2 qm;refine⟨_,rfl,_,rfl,_,rfl,aa7 ((tK.trans Ob) _ _ q1) ej ⟨_,rfl,q.1,_,rfl,aV.of hte,λz=>?_,λp1 jD=>?_⟩⟩
    ·cases q.2<;>exact absurd (show(1:Nat)=0 from z.1) (by decide)
    have CI:aa Hz (upd Hz p1 (.tup (gn q.2.vs (some 1) none))):=(aa.refl Hz).upd jD;have mD:upd Hz p1 (.tup (gn q.2.vs (some 1) none)) p1=some (.tup q.2.told):=by rw[ak];cases q.2<;>rfl
    generalize upd Hz p1 (.tup (gn q.2.vs (some 1) none))=Hv at CI mD
    have acj:∀e∈D.es,∃f∈B.es,e.told=f.told:=λe he=>by
     have:e.told∈D.es.map En.told:=Zh.mpr ⟨e,he,rfl⟩;rw[dt]at this;obtain⟨x,hx,e3⟩:=Zh.mp this;obtain⟨j',q',rfl,_,ej',qm'⟩:=tk x (List.mem_of_mem_take hx);refine⟨q'.2,qm',?_⟩;rw[<-e3,Za,List.getD,ej'];rfl
    have nb:¬(⟨D.k,D.n,D.es,c6,N9⟩:Bk).kI q.2:=by
     refine UW ?_;show pE D.n (D.es++[q.2.re c6]);rw[dn];refine YN cz.ok cz.k5 bc λe he=>?_;rcases Y7.mp he with z|z
     ·exact acj e z
     ·rw[Y2.mp z];exact⟨q.2,qm,Jp _ _⟩
    refine⟨g2,wo,_,abg,p1,q.2,rfl,hD6.same CI,mD,(by show b3 D.k D.n q.2;rw[dk,dn];exact jG),by show D.es.length<40;omega,λz=>absurd z nb,λ_ Hw abh Oc nww kpw=>⟨rfl,_,rfl,cy (by simp) ⟨_,wo,_,abh,rfl,Oc,dk,dn,?_,du.mono hc6|>.add q.2,by show N9.length<=i+1;omega,df.trans ((Fr.of_same CI).trans (Fr.nR Oc kpw) .refl) Oa,Oa⟩⟩⟩;show(D.es++[q.2.re c6]).map En.told=_;rw[Ze,dt,Zj fP,Ze,(ZL.mp ex).2];simp only[Zr,List.map_nil,Za,List.getD,ej,Option.getD_some,Jp]
   ·rintro σ Hx ⟨CD,jH,D,lZ,rfl,hD,dk,dn,dt,du,dh,fr,nw⟩;rw[Y1,List.take_length]at dt;have wm:=dg fr;have Od:=tK.trans wm;have wq:=cz.same Od;have qo:=Od _ _ mT;have iW:=wm.ints iw;obtain⟨dy,ly,wu,_⟩:=id hD.ob
    have PT:(D.es.map En.told).Perm (B.es.map En.told):=by
     rw[dt];have h1:=pm.map (λx:Int=>(qs.getD x.toNat jC).2.told);rw[<-N1,U1,q3]at h1;exact h1
    have t1:cR D.es B.es:=cR.of PT;have t2:cR B.es D.es:=cR.of PT.symm;obtain⟨Oe,en1,et1⟩:=aa6 cz hD dk dn t2 t1;have L8:aB D.n a/\aB D.n b:=by rw[dn];exact⟨ha,hb⟩
    have hlD:∀l∈ws,Let D.k l:=by rw[dk];exact dq
    refine⟨_,rfl,g2,dy,_,rfl,wu,rfl,g2,jH,D,lZ,rfl,hD,λp1 H1 jD ip1 ll1 fL1 s1=>⟨_,rfl,g,tJ,_,rfl,s1 _ _ qo,rfl,g,lh,B,iI,rfl,wq.same s1,λp2 H2 gK Cq ll2 fL2 s2=>?_⟩⟩;have bV:=s1.trans s2;refine aaJ (s2.ints ip1) Cq ⟨_,rfl,cy (by rw[Oe];simp) ?_⟩;refine⟨_,rfl,g2,dy,_,rfl,bV _ _ wu,rfl,_,rfl,_,rfl,_,rfl,g2,jH,D,lZ,a,b,wa,ws,rfl,hD.same bV,bV.ints iW,by omega,λ_ _=>λH3 s3'=>?_,λz=>absurd L8 z,λ_ z=>absurd hlD z⟩;have cZ:=bV.trans s3';refine⟨_,rfl,g,tJ,_,rfl,cZ _ _ qo,rfl,_,rfl,_,rfl,_,rfl,g,lh,B,iI,a,b,wa,ws,rfl,wq.same cZ,cZ.ints iW,by omega,λ_ _=>λH4 s4'=>?_,λz=>absurd ⟨ha,hb⟩ z,λ_ z=>absurd dq z⟩;have eF:=cZ.trans s4';refine⟨rfl,_,rfl,cy (by rw[YM t1 t2];simp) ?_⟩;refine⟨_,rfl,g2,dy,_,rfl,eF _ _ wu,rfl,_,rfl,g2,jH,D,lZ,b,rfl,hD.same eF,λ_ x fx H5 hx hfx mU BA=>?_,λz=>absurd L8.2 z⟩;obtain⟨du',lo3,li3,as3,bs3,I3,acP,hgu,_⟩:=id mU.ob;refine⟨x,du',_,rfl,hgu,kA ..,x,_,_,_,fx,rfl,mU,λt3 ts3 H7 ft3 acQ M0 Of s7'=>?_⟩;have oG:=eF.trans (BA.trans s7');refine⟨_,rfl,g,tJ,_,rfl,oG _ _ qo,rfl,_,rfl,g,lh,B,iI,b,rfl,wq.same oG,λ_ x' fx' H9' M4 acR Og Oh=>?_,λz=>absurd hb z⟩;obtain⟨dv,lo4,li4,as4,bs4,I4,acS,hgv,_⟩:=id Og.ob;refine⟨x',dv,_,rfl,hgv,kA ..,x',_,_,_,fx',rfl,Og,λt4 ts4 HB ft4 acT nd4 tb4 sB=>?_⟩;rw[et1,en1,Oe,dk]at Of;refine YB (Of.same (Oh.trans sB)) tb4 ⟨_,rfl,cV ?_⟩;have CJ:=oG.trans (Oh.trans sB);have sl:∀(e:En) (te:Addr) (H':Hp) (Q':VK) (b:Addr),(∀b,H' b=none->Q' (.ref b) (upd H' b (.tup e.told)))->H' b=none->Q' (.ref b) (upd H' b (.tup (gn e.vs (some 1) none))):=λe te H' Q' b q' hb=>by cases e<;>exact q' b hb
    refine⟨_,rfl,g2,dy,_,rfl,CJ _ _ wu,rfl,g2,jH,D,lZ,rfl,hD.same CJ,λle HC hle elC sC=>?_⟩;obtain⟨pc,c1,c2,c3,_⟩:=elC.ob;have pcl:pc.length=D.es.length:=by rw[<-c3,Y1]
    have acU:=hD.cu;refine⟨le,rfl,⟨_,ah.of c1⟩,Gp (ah.of c1) c2 (by omega) (λp hp H' Q' s' q'=>⟨_,rfl,_,rfl,p.1,_,rfl,aV.of (s' _ _ (c2 p hp)),(λz=>by cases p.2<;>exact absurd (show(1:Nat)=0 from z.1) (by decide)),λb hb=>sl p.2 p.1 H' Q' b q' hb⟩) λDl rs HD hDl h1 h2 h3 sD=>?_⟩;refine⟨⟨Dl,rs,B.k,B.n,rfl,ah.of h1,λp hp=>⟨h2 p hp,?_⟩,k5,bM,?_,λlS qS hlS pS oS=>?_⟩⟩
    ·have:=hD.ok p.2 (by rw[<-c3, <-h3];exact Zh.mpr ⟨p,hp,rfl⟩)
     rwa [dk,dn]at this
    ·have:=congrArg List.length h3;rw[Y1,Y1]at this;omega
    have sS:=(aa.refl HD).upd (o:=.lst (qS.map λp=>V.ref p.1)) hlS;have gS:upd HD lS (.lst (qS.map λp=>V.ref p.1)) lS=some (.lst (qS.map λp=>V.ref p.1)):=ak;generalize upd HD lS (.lst (qS.map λp=>V.ref p.1))=HE at sS gS;have sBE:=sC.trans (sD.trans sS);have Oi:=CJ.trans sBE;refine⟨_,rfl,g,tJ,_,rfl,Oi _ _ qo,rfl,g,lh,B,iI,rfl,wq.same Oi,λlf HF NS elF sF=>?_⟩;obtain⟨pf,f1,f2,f3,_⟩:=elF.ob;have MA:pf.length=B.es.length:=by rw[<-f3,Y1]
    refine⟨lf,rfl,⟨_,ah.of f1⟩,Gp (ah.of f1) f2 (by omega) (λp hp H' Q' s' q'=>⟨_,rfl,_,rfl,p.1,_,rfl,aV.of (s' _ _ (f2 p hp)),(λz=>by cases p.2<;>exact absurd (show(1:Nat)=0 from z.1) (by decide)),λb hb=>sl p.2 p.1 H' Q' b q' hb⟩) λDl' sW HG acV g1 BP g3 sG=>?_⟩
    have gw:∀p∈rs,b3 B.k B.n p.2:=λp hp=>by
     have:=hD.ok p.2 (by rw[<-c3, <-h3];exact Zh.mpr ⟨p,hp,rfl⟩)
     rwa [dk,dn]at this
    have j4:∀p∈sW,b3 B.k B.n p.2:=λp hp=>cz.ok p.2 (by rw[<-f3, <-g3];exact Zh.mpr ⟨p,hp,rfl⟩);refine⟨⟨Dl',sW,B.k,B.n,rfl,ah.of g1,λp hp=>⟨BP p hp,j4 p hp⟩,k5,bM,?_,λlT qT hlT pT oT=>?_⟩⟩
    ·have:=congrArg List.length g3;rw[Y1,Y1]at this;omega
    have sT:=(aa.refl HG).upd (o:=.lst (qT.map λp=>V.ref p.1)) hlT;have gT:upd HG lT (.lst (qT.map λp=>V.ref p.1)) lT=some (.lst (qT.map λp=>V.ref p.1)):=ak;generalize upd HG lT (.lst (qT.map λp=>V.ref p.1))=HH at sT gT;have Oj:=sF.trans (sG.trans sT);have d1:=Km (K:=K) (Oj _ _ gS) λp hp=>Oj _ _ (sS _ _ (h2 p (pS.mem_iff.mp hp)));have d2:=Km (K:=K) gT λp hp=>sT _ _ (BP p (pT.mem_iff.mp hp))
    have eq:(qS.map (·.2)).map En.fm=(qT.map (·.2)).map En.fm:=by
     refine YT k5 bM (λe he=>?_) (λe he=>?_) ?_ (by rw[ZK];exact oS) (by rw[ZK];exact oT)
     ·obtain⟨p,hp,rfl⟩:=Zh.mp he;exact gw p (pS.mem_iff.mp hp)
     ·obtain⟨p,hp,rfl⟩:=Zh.mp he;exact j4 p (pT.mem_iff.mp hp)
     ·have a1:=(pS.map (·.2)).map En.told;have a2:=(pT.map (·.2)).map En.told;rw[h3,c3]at a1;rw[g3,f3]at a2;exact a1.trans (PT.trans a2.symm)
    rw[eq]at d1;exact YE (m:=true) d1 d2 ((Xe _).mono (by decide)) (kk _)
  obtain⟨u5,Cr,tG⟩:=abf
  refine⟨_,(@sC _ _ _ _ _ (@sS _ 1 _ _ _ _ _ fD.nd rfl (Or.inl rfl) (N.pe hr (@aC _ _ _ _ _ (pv 0) (@aC _ _ _ _ _ af ae (by rfl)) (by rfl))) (by rfl) (.inl rfl))
   (@sC _ _ _ _ _ (@sS _ 2 _ _ _ _ _ fD.nd rfl (Or.inl rfl) (ay cQ af (ay bJ (av aJ (pv 1) af (λ_ _=>rfl)) af)) (by rfl) (.inl rfl))
   (@sC _ _ _ _ _ (@sS _ 3 _ _ _ _ _ fD.nd rfl (Or.inl rfl) (ay bJ (av aJ (pv 1) af (λ_ _=>rfl)) af) (by rfl) (.inl rfl))
   (@sC _ _ _ _ _ (@sS _ 4 _ _ _ _ _ fD.nd rfl (Or.inl rfl) (ay bJ (av aJ (pv 1) af (λ_ _=>rfl)) af) (by rfl) (.inl rfl))
   (@sC _ _ _ _ _ (aY (aK cG (ay bJ (av aJ (pv 1) af (λ_ _=>rfl)) af) af (aI _)) (@sC _ _ _ _ _ (@sS _ 3 _ _ _ _ _ fD.nd rfl (Or.inl rfl) (ay bJ (av aJ (pv 1) af (λ_ _=>rfl)) af) (by rfl) (.inl rfl))
   (@sO _ _ _ (@sS _ 4 _ _ _ _ _ fD.nd rfl (Or.inl rfl) (ay bJ (av aJ (pv 1) af (λ_ _=>rfl)) af) (by rfl) (.inl rfl)))) a7)
   Cr))))),?_⟩
  refine⟨_,rfl,sc,ns,200,rfl,hS,hn,by decide,λl0 ms H1 Ol hg f0 h0 s1=>?_⟩;have a0:=Zz (ms.getD 0 0) (show(5:Int)≠0 by decide);have a1:=Zy (ms.getD 0 0) (show(0:Int)<5 by decide);have b0:=Zz (ms.getD 1 0) (show(11:Int)≠0 by decide);have b1:=Zy (ms.getD 1 0) (show(0:Int)<11 by decide);have c0:=Zz (ms.getD 2 0) (show(15:Int)≠0 by decide);have c1:=Zy (ms.getD 2 0) (show(0:Int)<15 by decide);have d0:=Zz (ms.getD 1 0) (show(25:Int)≠0 by decide);have d1:=Zy (ms.getD 1 0) (show(0:Int)<25 by decide);have e0:=Zz (ms.getD 2 0) (show(41:Int)≠0 by decide);have e1:=Zy (ms.getD 2 0) (show(0:Int)<41 by decide);refine⟨_,rfl,aU 0 h0 (by omega) ⟨_,_,rfl,rfl,(by show(0:Int)<5;decide),_,_,rfl,rfl,?_⟩⟩;refine⟨_,rfl,aU 1 h0 (by omega) ⟨_,_,rfl,rfl,(by show(0:Int)<11;decide),?_⟩⟩;refine⟨_,rfl,aU 2 h0 (by omega) ⟨_,_,rfl,rfl,(by show(0:Int)<15;decide),?_⟩⟩;refine⟨_,rfl,aU 3 h0 (by omega) ⟨_,_,rfl,rfl,(by show(0:Int)<9;decide),rfl,_,rfl,?_⟩⟩;refine bK (λ_=>?_) (λ_=>?_)
  ·refine⟨_,rfl,aU 1 h0 (by omega) ⟨_,_,rfl,rfl,(by show(0:Int)<25;decide),?_⟩⟩;refine⟨_,rfl,aU 2 h0 (by omega) ⟨_,_,rfl,rfl,(by show(0:Int)<41;decide),?_⟩⟩;have:=tG l0 ms (1+ms.getD 0 0%5).toNat (ms.getD 1 0%25).toNat (ms.getD 2 0%41).toNat H1 h0 Ol (by omega) (by omega) (by omega) (by omega);rw[Zw (show 0<=1+ms.getD 0 0%5 by omega),Zw d0,Zw e0]at this;exact this
  ·have:=tG l0 ms (1+ms.getD 0 0%5).toNat (ms.getD 1 0%11).toNat (ms.getD 2 0%15).toNat H1 h0 Ol (by omega) (by omega) (by omega) (by omega);rw[Zw (show 0<=1+ms.getD 0 0%5 by omega),Zw b0,Zw c0]at this;exact this
end
abbrev NsN(K:PySem.W.Frag)(n:Str):Prop:=PySem.W.nsIn K mainGlobals n=some none
abbrev NsI(K:PySem.W.Frag)(n:Str)(f:Addr):Prop:=PySem.W.nsIn K mainGlobals n=some (some (.ref f))
structure De(K:PySem.W.Frag)(n:Str)(st:Stmt)(f:Addr)(d:FuncData):Prop where
 a:PySem.W.nsIn K mainGlobals n=some (some (.ref f))
 F:aH K n n st f d
structure Md(K:PySem.W.Frag)(C:Addr)(n q:Str)(st:Stmt)(f:Addr)(d:FuncData):Prop where
 a:PySem.W.findIn K (.ref C) n=some (some (.ref f))
 i:PySem.W.isFn K (.ref f)=true
 F:aH K n q st f d
structure gO(K:PySem.W.Frag)(n:Str)(C:Addr):Prop where
 a:PySem.W.nsIn K mainGlobals n=some (some (.ref C))
 pg:PySem.W.plainGet K C Str.empty=true
 hd:PySem.W.hasDictIn K C=true
 po:PySem.W.plainOver K C=true
 sa:PySem.W.findIn K (.ref C) "__setattr__"=some (some (.builtin "object.__setattr__"))
 ms:PySem.W.makesIn K C=true
 kc:PySem.W.keepIn K (.ref C)=true
section
variable {K:PySem.W.Frag}{h:Heap}{mg:Str->Option Value}{x:Str}
def mo{v:Value}(X:K.In h)(G:h.Ns mainGlobals mg)(a:PySem.W.nsIn K mainGlobals x=some (some v)):mg x=some v:=PySem.W.mg_of X G a
def mn(X:K.In h)(G:h.Ns mainGlobals mg)(a:NsN K x):mg x=none:=PySem.W.mg_none_of X G a
variable {P:Program}{w:World}{base:Heap}{C f:Addr}{st:Stmt}{d:FuncData}{ps:List Str}{k:Nat}{sp:Sp}{q:Str}
def gO.cl(c:gO K x C):dM K C:=⟨c.pg,c.hd,c.po,c.sa⟩
def mk1(X:K.In h)(G:h.Ns mainGlobals mg)(e:De K x st f d)(ok:aA P w K mg base aN k f d ps sp)(b:Binds K d ps []):bj P w K mg base x ps k sp:=⟨f,d,ok,mo X G e.a,e.F.kp,b⟩
def mkx(X:K.In h)(G:h.Ns mainGlobals mg)(e:De K x st f d)(ok:aA P w K mg base (bH P w) k f d ps sp)(b:Binds K d ps []):qa P w K mg base x ps k sp:=⟨f,d,ok,mo X G e.a,e.F.kp,b⟩
def mkm{n:Str}(c:gO K n C)(e:Md K C x q st f d)(ok:aA P w K mg base aN k f d ps sp)(b:Binds K d ps []):cg P w K mg base C x ps k sp:=⟨f,d,ok,c.cl,⟨e.a,e.i,e.F.kp⟩,b⟩
def ack{n:Str}(c:gO K n C)(e:Md K C x q st f d)(ok:aA P w K mg base (bH P w) k f d ps sp)(b:Binds K d ps []):bO P w K mg base C x ps k sp:=⟨f,d,ok,c.cl,⟨e.a,e.i,e.F.kp⟩,b⟩
def Bs(X:K.In h)(G:h.Ns mainGlobals mg)(c:gO K x C)(e:Md K C "__init__" q st f d)(ok:aA P w K mg base aN k f d ps sp)(b:Binds K d ps []):kR P w K mg base C x ps k sp:=⟨f,d,ok,⟨c.ms,e.a,e.i,c.kc⟩,mo X G c.a,b⟩
def acm(X:K.In h)(G:h.Ns mainGlobals mg)(c:gO K x C)(e:Md K C "__init__" q st f d)(ok:aA P w K mg base (bH P w) k f d ps sp)(b:Binds K d ps []):LQ P w K mg base C x ps k sp:=⟨f,d,ok,⟨c.ms,e.a,e.i,c.kc⟩,mo X G c.a,b⟩
variable {p1 p2 p3 p4 p5 p6 p7 p8:Str}
def fz(F:aH K x q st f d)(h:∀(kV doc pm:Value) (an:Option Addr) (au ct u1:Value),bindArgs (PySem.W.fnOf x q (jO st) (eK st) (aF st) .none kV doc pm an au ct) ⟨[u1],[]⟩=pure [(p1,u1)]:=by intros;rfl):Binds K d [p1] []:=F.binds λkV doc pm an au ct us hl=>by
 obtain⟨u1,rfl⟩:=MC hl;exact h kV doc pm an au ct u1
def dz(F:aH K x q st f d)(h:∀(kV doc pm:Value) (an:Option Addr) (au ct u1 u2:Value),bindArgs (PySem.W.fnOf x q (jO st) (eK st) (aF st) .none kV doc pm an au ct) ⟨[u1,u2],[]⟩=pure [(p1,u1),(p2,u2)]:=by intros;rfl):Binds K d [p1,p2] []:=F.binds λkV doc pm an au ct us hl=>by
 obtain⟨u1,u2,rfl⟩:=Bu hl;exact h kV doc pm an au ct u1 u2
def dQ(F:aH K x q st f d)(h:∀(kV doc pm:Value) (an:Option Addr) (au ct u1 u2 u3:Value),bindArgs (PySem.W.fnOf x q (jO st) (eK st) (aF st) .none kV doc pm an au ct) ⟨[u1,u2,u3],[]⟩=pure [(p1,u1),(p2,u2),(p3,u3)]:=by intros;rfl):Binds K d [p1,p2,p3] []:=F.binds λkV doc pm an au ct us hl=>by
 obtain⟨u1,u2,u3,rfl⟩:=MD hl;exact h kV doc pm an au ct u1 u2 u3
def lE(F:aH K x q st f d)(h:∀(kV doc pm:Value) (an:Option Addr) (au ct u1 u2 u3 u4:Value),bindArgs (PySem.W.fnOf x q (jO st) (eK st) (aF st) .none kV doc pm an au ct) ⟨[u1,u2,u3,u4],[]⟩=pure [(p1,u1),(p2,u2),(p3,u3),(p4,u4)]:=by intros;rfl):Binds K d [p1,p2,p3,p4] []:=F.binds λkV doc pm an au ct us hl=>by
 obtain⟨u1,u2,u3,u4,rfl⟩:=MF hl;exact h kV doc pm an au ct u1 u2 u3 u4
def bd5(F:aH K x q st f d)(h:∀(kV doc pm:Value) (an:Option Addr) (au ct u1 u2 u3 u4 u5:Value),bindArgs (PySem.W.fnOf x q (jO st) (eK st) (aF st) .none kV doc pm an au ct) ⟨[u1,u2,u3,u4,u5],[]⟩=pure [(p1,u1),(p2,u2),(p3,u3),(p4,u4),(p5,u5)]:=by intros;rfl):Binds K d [p1,p2,p3,p4,p5] []:=F.binds λkV doc pm an au ct us hl=>by
 obtain⟨u1,u2,u3,u4,u5,rfl⟩:=us5 hl;exact h kV doc pm an au ct u1 u2 u3 u4 u5
end
def all_mk{l:PySem.W.OpenLaw}{w:World}{K:PySem.W.Frag}{h:Heap}{mg:Str->Option Value}{fa f1 f2 f3 f4 f5 f6 f7 f8 f9 f10 f11 f12 f13 f14 f15 f16 f17 f18 f19 f20 f21 f22 f23 f24 f25 f26 f27 f28 f29 f30 f31 f32 f33 f34 f35 f36 f37 f38 f39 f40 f41 f42 f43 f44 f45 f46 f47 f48 f49 f50 f51 f52 f53 f54 f55 f56 f57 f58 f59 f60 f61 f62 f63 f64 f65 f66 gU fE cn jQ q9 rf ny rM qM rg qG kf:Addr}(X:K.In h)(G:h.Ns mainGlobals mg)(hfa:mg "law"=some (.ref fa))
  {d1 d2 d3 d4 d5 d6 d7 d8 d9 d10 d11 d12 d13 d14 d15 d16 d17 d18 d19 d20 d21 d22 d23 d24 d25 d26 d27 d28 d29 d30 d31 d32 d33 d34 d35 d36 d37 d38 d39 d40 d41 d42 d43 d44 d45 d46 d47 d48 d49 d50 d51 d52 d53 d54 d55 d56 d57 d58 d59 d60 d61 d62 d63 d64 d65 d66:FuncData}{acn aco acp abi acq:Tok}{SG SI:Option Addr}{SJ SK:Str}{SN Rb:List Value}{yf:Addr}{SO SQ:Bool}{SR:List Str}{Rc:Option Bool}{Vo Vp Vq Vr Vs:Option Value}{SS:Value}{Gq:Array DictEntry}{SU:Nat}{SW:Array (Option Value)}{odB dBn:Option Addr}{nmB qnB:Str}{bsB subB acr:List Value}{CK:Addr}{hdB abB acs:Bool}{snB:List Str}{acu:Option Bool}{cBn ocB:Value}{Om:Array DictEntry}{nBn:Nat}{slB acv:Array (Option Value)}{SX SY:Option Addr}{S0 S1:Str}{S2 Rf:List Value}{yg:Addr}{S3 S4:Bool}{S5:List Str}{Rg:Option Bool}{Vt Vu Vv Vw Vx:Option Value}{S6:Value}{Gr:Array DictEntry}{S7:Nat}{S8:Array (Option Value)}{S9 Ta:Option Addr}{Tc Td:Str}{Te Rh:List Value}{yh:Addr}{Tf Tg:Bool}{Th:List Str}{Ri:Option Bool}{Vy Vz VA VB VC:Option Value}{Ti:Value}{Gs:Array DictEntry}{Tj:Nat}{Tn:Array (Option Value)}{Xx Xy:Option Addr}{Xz XA:Str}{XB VD:List Value}{zj:Addr}{XC XD:Bool}{XE:List Str}{VE:Option Bool}{aam aan aao aap aaq:Option Value}{XF:Value}{Jt:Array DictEntry}{XG:Nat}{XH:Array (Option Value)}{Rj Rk:Option Addr}{Rl Rm:Str}{Rn Qp:List Value}{xV:Addr}{Ro Rp:Bool}{Rq:List Str}{Qq:Option Bool}{To Tq Tr Ts Tt:Option Value}{Rr:Value}{E5:Array DictEntry}{Rt:Nat}{Ru:Array (Option Value)}{Tu Tv:Option Addr}{Tw Tx:Str}{Tz Rv:List Value}{yi:Addr}{TH TK:Bool}{TL:List Str}{Rw:Option Bool}{VF VG VH VI VJ:Option Value}{TN:Value}{Gu:Array DictEntry}{TQ:Nat}{TR:Array (Option Value)}{Pz PB:Option Addr}{PD PF:Str}{PH O9:List Value}{xD:Addr}{PJ PK:Bool}{PL:List Str}{Pa:Option Bool}{Qr Qs Qt Qu Qv:Option Value}{PM:Value}{Ek:Array DictEntry}{PN:Nat}{PQ:Array (Option Value)}{acw:Tok}{acx acy acz:Tok}
  (cGroups:gO K "Groups" gU)(cFold:gO K "Fold" fE)(cSurvey:gO K "Survey" cn)(cChart:gO K "Chart" jQ)(aNoKind:NsI K "NoKind" q9)(aNoMark:NsI K "NoMark" rf)(aBarred:NsI K "Barred" ny)(aFull:NsI K "Full" rM)(aNoEntry:NsI K "NoEntry" qM)(aNoHold:NsI K "NoHold" rg)(aNoChamber:NsI K "NoChamber" qG)(aCaveError:NsI K "CaveError" kf)(v1:De K "_law_numbers" D3 f1 d1)(v2:De K "_law_way" E4 f2 d2)(v3:De K "_law_turn" Ez f3 d3)(v4:De K "_law_entered" wV f4 d4)(v5:De K "_law_entry" xy f5 d5)(v6:De K "_law_book" xJ f6 d6)(v7:De K "_law_rows" xK f7 d7)(v8:De K "_law_joined" Eb f8 d8)(v9:De K "_law_folded" Ec f9 d9)(v10:De K "_law_ranked" xk f10 d10)(v11:De K "_law_led" xU f11 d11)(sU:De K "_law_round" xA f12 d12)(CN:De K "_law_chart" xB f13 d13)(CO:De K "_law_asked" jb f14 d14)(CP:De K "_law_detour" xn f15 d15)(CQ:De K "_law_mixed" xC f16 d16)(CT:De K "check_shape" w9 f17 d17)(CU:De K "beginnings" xu f18 d18)(CV:De K "letters_in_order" wD f19 d19)(v20:De K "ways_from" xI f20 d20)(CW:De K "renumbered" xw f21 d21)(CY:De K "numbered" xS f22 d22)(CZ:De K "chart_of" xT f23 d23)(C0:De K "chambers_of" xj f24 d24)(C1:De K "near_mark" Ey f25 d25)(C3:De K "far_mark" E1 f26 d26)(C4:De K "folded" HS f27 d27)(C5:De K "trail" Jq f28 d28)(qy:De K "check_letters" tO f29 d29)(v30:De K "rows_of" ye f30 d30)(C6:De K "broken_oath" xi f31 d31)(C7:Md K gU "__init__" "Groups.__init__" DS f32 d32)(C8:Md K gU "together" "Groups.together" DU f33 d33)(C9:Md K gU "unite" "Groups.unite" D2 f34 d34)(Dc:Md K fE "__init__" "Fold.__init__" DZ f35 d35)(wx:Md K fE "lay" "Fold.lay" E2 f36 d36)(Dd:Md K fE "put" "Fold.put" E3 f37 d37)(Df:Md K fE "settle" "Fold.settle" Ea f38 d38)(Dg:Md K fE "merge" "Fold.merge" Ej f39 d39)(Dh:Md K cn "__init__" "Survey.__init__" wF f40 d40)(Di:Md K cn "chalk" "Survey.chalk" wL f41 d41)(Dj:Md K cn "row" "Survey.row" xx f42 d42)(Dk:Md K cn "apart" "Survey.apart" wM f43 d43)(Dm:Md K cn "marks" "Survey.marks" wN f44 d44)(Dp:Md K cn "entries" "Survey.entries" wI f45 d45)(Dq:Md K cn "same" "Survey.same" xc f46 d46)(Dr:Md K cn "paper" "Survey.paper" wO f47 d47)(Ds:Md K cn "must_paper" "Survey.must_paper" wB f48 d48)(Du:Md K cn "enter" "Survey.enter" wU f49 d49)(Dv:Md K cn "laid" "Survey.laid" xf f50 d50)(Dw:Md K cn "check_marks" "Survey.check_marks" wA f51 d51)(Dx:Md K cn "check_room" "Survey.check_room" wC f52 d52)(Dy:Md K cn "strike" "Survey.strike" wJ f53 d53)(Dz:Md K cn "hold" "Survey.hold" xa f54 d54)(DA:Md K cn "back" "Survey.back" xb f55 d55)(DB:Md K cn "labels" "Survey.labels" wK f56 d56)(DC:Md K cn "chambers" "Survey.chambers" wG f57 d57)(DD:Md K cn "piece" "Survey.piece" wQ f58 d58)(DF:Md K cn "never_paper" "Survey.never_paper" wz f59 d59)(DG:Md K cn "judge" "Survey.judge" wR f60 d60)(DI:Md K jQ "__init__" "Chart.__init__" wH f61 d61)(DJ:Md K jQ "size" "Chart.size" xr f62 d62)(DL:Md K jQ "table" "Chart.table" w6 f63 d63)(qz:Md K jQ "check_chamber" "Chart.check_chamber" tL f64 d64)(DM:Md K jQ "step" "Chart.step" xt f65 d65)(DN:De K "law" lY f66 d66)(Pb:NoAttr K gU "least")(Qw:NoAttr K gU "lay")(PR:NoAttr K fE "groups")(Qx:NoAttr K fE "doors")(Pc:NoAttr K fE "waiting")(Qy:NoAttr K fE "steps")(Pd:NoAttr K cn "kinds")(PV:NoAttr K cn "many")(OJ:NoAttr K cn "standing")(OZ:NoAttr K cn "coming")(PY:NoAttr K cn "held")(PZ:NoAttr K jQ "kinds")(Pe:NoAttr K jQ "onward")(Pf:NoAttr K jQ "inward")(z1:NsN K "len")(z2:NsN K "range")(z3:NsN K "list")(z4:NsN K "int")(z5:NsN K "bool")(z6:NsN K "isinstance")(z7:NsN K "tuple")(z8:NsN K "abs")(z9:NsN K "enumerate")(z10:NsN K "str")(abj:NsN K "min")(abk:NsN K "max")(abl:NsN K "sum")(VL:NsN K "sorted")(Oo:PySem.W.nsIn K mainGlobals "MOST_KINDS"=some (some (.int 5 acn)))(yMM:PySem.W.nsIn K mainGlobals "MOST_MARKS"=some (some (.int 24 aco)))(yME:PySem.W.nsIn K mainGlobals "MOST_ENTRIES"=some (some (.int 40 acp)))(acA:PySem.W.nsIn K mainGlobals "ROW"=some (some (.str "row" abi)))(yAP:PySem.W.nsIn K mainGlobals "APART"=some (some (.str "apart" acq)))(e7:PySem.W.specialIn K (.builtin "object.__class__") "__get__"=some (some (.builtin "getset_descriptor.__get__")))(e8:PySem.W.takesIn K (.builtin "object.__class__")=some true)(VM:K.lookup q9=some ⟨.type "type",SG,.cls ⟨SJ,SN,.ref q9::.ref kf::eS,yf,SK,SO,SR,Rb,SQ,Rc,false⟩, #[Vo,Vp,Vq,Vr,some (.builtin "ValueError.__new__"),Vs]⟩)(TV:K.lookup yf=some ⟨SS,SI,.dict Gq SU,SW⟩)(VN:Gq.toList.all kz=true)(VO:PySem.W.nsIn K yf "__init__"=some none)(lB:K.lookup kf=some ⟨ocB,odB,.cls ⟨nmB,bsB,acr,CK,qnB,hdB,snB,subB,abB,acu,acs⟩,acv⟩)(oN:K.lookup CK=some ⟨cBn,dBn,.dict Om nBn,slB⟩)(hB:Om.toList.all kz=true)(iB:PySem.W.nsIn K CK "__init__"=some none)(VP:K.lookup rf=some ⟨.type "type",SX,.cls ⟨S0,S2,.ref rf::.ref kf::eS,yg,S1,S3,S5,Rf,S4,Rg,false⟩, #[Vt,Vu,Vv,Vw,some (.builtin "ValueError.__new__"),Vx]⟩)(TX:K.lookup yg=some ⟨S6,SY,.dict Gr S7,S8⟩)(VQ:Gr.toList.all kz=true)(VR:PySem.W.nsIn K yg "__init__"=some none)(VS:K.lookup ny=some ⟨.type "type",S9,.cls ⟨Tc,Te,.ref ny::.ref kf::eS,yh,Td,Tf,Th,Rh,Tg,Ri,false⟩, #[Vy,Vz,VA,VB,some (.builtin "ValueError.__new__"),VC]⟩)(TY:K.lookup yh=some ⟨Ti,Ta,.dict Gs Tj,Tn⟩)(VT:Gs.toList.all kz=true)(VU:PySem.W.nsIn K yh "__init__"=some none)(aar:K.lookup rM=some ⟨.type "type",Xx,.cls ⟨Xz,XB,.ref rM::.ref kf::eS,zj,XA,XC,XE,VD,XD,VE,false⟩, #[aam,aan,aao,aap,some (.builtin "ValueError.__new__"),aaq]⟩)(XI:K.lookup zj=some ⟨XF,Xy,.dict Jt XG,XH⟩)(aas:Jt.toList.all kz=true)(aat:PySem.W.nsIn K zj "__init__"=some none)(TZ:K.lookup qM=some ⟨.type "type",Rj,.cls ⟨Rl,Rn,.ref qM::.ref kf::eS,xV,Rm,Ro,Rq,Qp,Rp,Qq,false⟩, #[To,Tq,Tr,Ts,some (.builtin "ValueError.__new__"),Tt]⟩)(Rx:K.lookup xV=some ⟨Rr,Rk,.dict E5 Rt,Ru⟩)(T1:E5.toList.all kz=true)(T3:PySem.W.nsIn K xV "__init__"=some none)(VW:K.lookup rg=some ⟨.type "type",Tu,.cls ⟨Tw,Tz,.ref rg::.ref kf::eS,yi,Tx,TH,TL,Rv,TK,Rw,false⟩, #[VF,VG,VH,VI,some (.builtin "ValueError.__new__"),VJ]⟩)(T4:K.lookup yi=some ⟨TN,Tv,.dict Gu TQ,TR⟩)(VX:Gu.toList.all kz=true)(VY:PySem.W.nsIn K yi "__init__"=some none)(Qz:K.lookup qG=some ⟨.type "type",Pz,.cls ⟨PD,PH,.ref qG::.ref kf::eS,xD,PF,PJ,PL,O9,PK,Pa,false⟩, #[Qr,Qs,Qt,Qu,some (.builtin "ValueError.__new__"),Qv]⟩)(P0:K.lookup xD=some ⟨PM,PB,.dict Ek PN,PQ⟩)(QA:Ek.toList.all kz=true)(QB:PySem.W.nsIn K xD "__init__"=some none)(exsBarred:PySem.W.exmOne K (.ref ny) (.ref ny)=some true)(yMC:PySem.W.nsIn K mainGlobals "MOST_CHAMBERS"=some (some (.int 700 acw)))(yMU:PySem.W.nsIn K mainGlobals "MUST"=some (some (.str "must" acx)))(yNV:PySem.W.nsIn K mainGlobals "NEVER"=some (some (.str "never" acy)))(yOP:PySem.W.nsIn K mainGlobals "OPEN"=some (some (.str "open" acz)))
  :∃fd:FuncData,(∀(s:Shared) (v:Value),BindsTo s fd ⟨[v],[]⟩ [("_law_script",v)])/\∀base:Heap,K.In base->base.Ns mainGlobals mg->aA l.prog w K mg base aN 14 fa fd ["_law_script"] (uH K):=by
 have e:=hfa.symm.trans (mo X G DN.a);cases e;have T:Txt K mg:=⟨mn X G z1,mn X G z2,mn X G z3,mn X G z4,mn X G z5,mn X G z6,mn X G z7,mn X G z8,mn X G z9,mn X G z10⟩;have VZ:=cGroups.cl;have XJ:=cGroups.a;have aau:=cFold.cl;have abm:=cFold.a;have V1:=cSurvey.cl;have acD:=cSurvey.a;have XM:=cChart.cl;have acF:=cChart.a;have TM:pI mg:=⟨mn X G abj,mn X G abk⟩;have TG:l9 K mg gU:=⟨VZ,Pb,mo X G XJ⟩;have TF:nP K mg fE:=⟨aau,PR,Qx,Pc,Qy,mo X G abm⟩
 have fg:fE≠gU:=λe=>by
  have z:=wx.a;rw[e,show PySem.W.findIn K (.ref gU) "lay"=some none from Qw]at z;cases z
 have TS:dC K mg cn:=⟨V1,Pd,PV,OJ,OZ,PY,⟨_,mo X G Oo⟩,⟨_,mo X G yMM⟩,⟨_,mo X G yME⟩,⟨_,mo X G acA⟩,⟨_,mo X G yAP⟩⟩
 let CS:Nat->Addr:=λj=>([q9,0,rf,qM,rg,qG,0,0,0,ny,rM]:List Addr).getD j 0
 have V0:dB K q9=true:=m9 VM (gB TV VN) VO lB (gB oN hB) iB;have V2:dB K rf=true:=m9 VP (gB TX VQ) VR lB (gB oN hB) iB;have V9:dB K ny=true:=m9 VS (gB TY VT) VU lB (gB oN hB) iB;have Oq:dB K rM=true:=m9 aar (gB XI aas) aat lB (gB oN hB) iB;have V3:dB K qM=true:=m9 TZ (gB Rx T1) T3 lB (gB oN hB) iB;have V4:dB K rg=true:=m9 VW (gB T4 VX) VY lB (gB oN hB) iB;have V5:dB K qG=true:=m9 Qz (gB P0 QA) QB lB (gB oN hB) iB;have TC:mq K mg jQ:=⟨XM,PZ,Pe,Pf,⟨_,mo X G Oo⟩,⟨_,mo X G yMC⟩,mn X G abl⟩;have TJ:LS mg:=⟨⟨_,mo X G yMU⟩,⟨_,mo X G yNV⟩,⟨_,mo X G yOP⟩⟩;have wd:mg "sorted"=none:=mn X G VL;obtain⟨x1,x2,x3,x4,x5,x6,x7,x8,x9,e,_⟩:=DN.F.ex;subst e;refine⟨PySem.W.fnOf "law" "law" (jO lY) (eK lY) (aF lY) .none x3 x4 x5 x6 x7 x8,λs v=>.of_eq rfl,λbase _ _=>?_⟩;have m1:∀{x:Str}{ps:List Str}{k:Nat}{sp:Sp}{f:Addr}{st:Stmt}{d:FuncData},De K x st f d->aA l.prog w K mg base aN k f d ps sp->Binds K d ps []->bj l.prog w K mg base x ps k sp:=λe o b=>mk1 X G e o b;have m2:∀{x:Str}{ps:List Str}{k:Nat}{sp:Sp}{f:Addr}{st:Stmt}{d:FuncData},De K x st f d->aA l.prog w K mg base (bH l.prog w) k f d ps sp->Binds K d ps []->qa l.prog w K mg base x ps k sp:=λe o b=>mkx X G e o b;have m3:∀{n x q:Str}{C:Addr}{ps:List Str}{k:Nat}{sp:Sp}{f:Addr}{st:Stmt}{d:FuncData},gO K n C->Md K C x q st f d->aA l.prog w K mg base aN k f d ps sp->Binds K d ps []->cg l.prog w K mg base C x ps k sp:=λc e o b=>mkm c e o b;have m4:∀{n x q:Str}{C:Addr}{ps:List Str}{k:Nat}{sp:Sp}{f:Addr}{st:Stmt}{d:FuncData},gO K n C->Md K C x q st f d->aA l.prog w K mg base (bH l.prog w) k f d ps sp->Binds K d ps []->bO l.prog w K mg base C x ps k sp:=λc e o b=>ack c e o b;have m5:∀{x q:Str}{C:Addr}{ps:List Str}{k:Nat}{sp:Sp}{f:Addr}{st:Stmt}{d:FuncData},gO K x C->Md K C "__init__" q st f d->aA l.prog w K mg base aN k f d ps sp->Binds K d ps []->kR l.prog w K mg base C x ps k sp:=λc e o b=>Bs X G c e o b;have m6:∀{x q:Str}{C:Addr}{ps:List Str}{k:Nat}{sp:Sp}{f:Addr}{st:Stmt}{d:FuncData},gO K x C->Md K C "__init__" q st f d->aA l.prog w K mg base (bH l.prog w) k f d ps sp->Binds K d ps []->LQ l.prog w K mg base C x ps k sp:=λc e o b=>acm X G c e o b
 let O0:=m1 v1 (YU v1.F T) (dz v1.F)
 let Ry:=m1 v2 (YV v2.F) (dz v2.F)
 let QC:=m1 v3 (Xf v3.F) (fz v3.F)
 let Em:=m1 v5 (Vf v5.F) (dQ v5.F)
 let QD:=m1 v7 (Vj v7.F) (fz v7.F)
 let Pg:=m1 v8 (abc v8.F TM) (dQ v8.F)
 let Ph:=m1 v9 (Vk v9.F T Pg) (dQ v9.F)
 let Pj:=m1 v10 (Sz v10.F) (fz v10.F)
 let Rz:=m1 v11 (aae v11.F T) (dQ v11.F)
 let P1:=m1 sU (Vl sU.F T Rz) (lE sU.F)
 let P2:=m1 CN (Sx CN.F T TM Ph Pj) (dQ CN.F)
 let P4:=m1 CO (Ra CO.F T Ry QC P2 P1) (lE CO.F)
 let P5:=m1 CQ (Vn CQ.F T) (dz CQ.F)
 let Pk:=m1 CT (Vm CT.F T TC) (dz CT.F)
 let P6:=m1 CU (aaf CU.F T) (fz CU.F)
 let OB:=m1 CV (aai CV.F T TC) (fz CV.F)
 let Pl:=m1 C0 (Xw C0.F T) (fz C0.F)
 let EB:=m1 C1 (Xg C1.F) (dz C1.F)
 let RA:=m1 C3 (YY C3.F EB) (dz C3.F)
 let XN:=m1 C5 (U5 C5.F T) (dQ C5.F)
 let OR:=m1 qy (aah qy.F T) (dz qy.F)
 let tY:=m1 v30 (Sr v30.F TS) (fz v30.F)
 let Ed:=m1 C6 (aac C6.F TS) (dz C6.F)
 let OF:=m3 cGroups C8 (Y0 C8.F TG) (dQ C8.F)
 let D6:=m3 cGroups C9 (YZ C9.F TM TG) (dQ C9.F)
 let E6:=m3 (sp:=rJ fE gU) cFold Dd (aaa Dd.F TF) (lE Dd.F)
 let P7:=m3 (sp:=yT fE gU) cFold Dg (U3 Dg.F T TM TF TG D6 E6) (dQ Dg.F)
 let V6:=m5 cSurvey Dh (Ve Dh.F TS) (dz Dh.F)
 let D7:=m4 cSurvey Di (Ss Di.F (mo X G aFull) Oq TS) (fz Di.F)
 let acB:=m3 cSurvey Dm (Vd Dm.F TS) (fz Dm.F)
 let DY:=m3 cSurvey Dp (Q6 Dp.F T TS) (fz Dp.F)
 let D8:=m3 cSurvey Du (U8 Du.F TS) (dz Du.F)
 let tM:=m4 cSurvey Dw (Xj Dw.F (mo X G aNoMark) V2 TS) (dQ Dw.F)
 let DQ:=m4 cSurvey Dx (Xk Dx.F (mo X G aFull) Oq T TS) (fz Dx.F)
 let OS:=m4 cSurvey Dy (Q8 Dy.F (mo X G aNoEntry) V3 T TS) (dz Dy.F)
 let Pn:=m3 cSurvey Dz (Xn Dz.F T TS) (fz Dz.F)
 let Po:=m4 cSurvey DA (Vg DA.F (mo X G aNoHold) V4 T TS) (dz DA.F)
 let Ju:=m5 cChart DI (Xp DI.F T TC Pk P6) (dQ DI.F)
 let xE:=m3 cChart DJ (Xq DJ.F T TC) (fz DJ.F)
 let Ee:=m3 cChart DL (Xr DL.F T TC xE) (fz DL.F)
 let Ov:=m3 cChart qz (aag qz.F xE) (dz qz.F)
 let P8:=m3 cChart DM (Xs DM.F TC Ov OR) (dQ DM.F)
 let OG:=m2 qy (Xi qy.F (mo X G aNoKind) V0 T) (dz qy.F)
 let Ou:=m4 cChart qz (Xv qz.F (mo X G aNoChamber) V5 xE) (dz qz.F)
 let QE:=m1 v20 (Xt v20.F T OB P8) (dz v20.F)
 let P9:=m1 CW (aaj CW.F T TC Ee Ju) (dz CW.F)
 let RB:=m2 CY (Xu CY.F T Ou QE P9) (dz CY.F)
 let RC:=m1 CZ (Q9 CZ.F T TM Ju) (dQ CZ.F)
 let V7:=m5 cGroups C7 (U2 C7.F T TG D6) (dQ C7.F)
 let aav:=m5 cFold Dc (U4 Dc.F T TF V7) (dQ Dc.F)
 let RD:=m3 (sp:=Ae fE gU) cFold wx (aab wx.F TF TG EB E6) (dz wx.F)
 let Pp:=m3 (sp:=yq fE gU) cFold Df (So Df.F TF TG RA OF P7) (fz Df.F)
 let Ef:=m4 cSurvey Dv (U9 Dv.F TS tM OG XN tY) (lE Dv.F)
 let ud:=m1 C4 ((Sq C4.F T TF TG fg aav RD Pp).imp λ_ _ _ _=>UC) (dQ C4.F)
 let Qa:=m4 cSurvey Dj (Vc Dj.F (mo X G aNoKind) V0 (mo X G aBarred) V9 TS tM DQ ud tY Ed D8) (lE Dj.F)
 let DR:=m4 cSurvey Ds (Va Ds.F T TS Ef ud) (lE Ds.F)
 let OT:=m3 cSurvey DB (Sy DB.F TS ud tY) (fz DB.F)
 let DV:=m3 cSurvey DC (Qn DC.F OT Pl) (fz DC.F)
 let O1:=m4 cSurvey DD (SA DD.F TS tM DV tY RC RB) (dz DD.F)
 let Ox:=m4 cSurvey DF (SD DF.F T TS Ef ud Ed) (lE DF.F)
 let O2:=m4 cSurvey DG (SF DG.F TJ DR Ox) (lE DG.F)
 let O3:=m4 cSurvey Dr (Xl Dr.F DR) (dQ Dr.F)
 let Pq:=m4 cSurvey Dq (Vb Dq.F O3) (dQ Dq.F)
 let O4:=m4 cSurvey Dk (aad Dk.F (mo X G aBarred) V9 TS tM DQ Pq D8) (dQ Dk.F)
 let wZ:=m1 v4 (Q7 v4.F (mo X G aBarred) exsBarred Qa O4) (dz v4.F)
 let QF:=m1 v6 (Xm v6.F T D7 Em wZ) (bd5 v6.F)
 let Pr:=m1 CP (Qo CP.F T Em wZ OS DY Pn Po) (lE CP.F)
 exact aal DN.F T wd O0 V6 QF QD P4 P5 D7 wZ Pr DV O2 O1 Ee DY
def walk{l:PySem.W.OpenLaw}{q:Program}{loose:List Str}{XP:(Str->Option Value)->Heap->Prop}{YP:World->Heap->Prop}{d:DefRec}{K:Params->PySem.W.Frag}(hn:l.most=some 63)(sr:d.params.defaults=[])
  (hY:∀(w:World) (h:Heap),YP w h->(K w.params).In h)
  (F:∀(w:World) (mg:Str->Option Value) (fa:Addr) (h:Heap),(K w.params).In h->h.Ns mainGlobals mg->mg d.name=some (.ref fa)->
   ∃fd:FuncData,(∀(s:Shared) (u:Value),BindsTo s fd ⟨[u],[]⟩ [("_law_script",u)])/\∀base:Heap,(K w.params).In base->base.Ns mainGlobals mg->aA l.prog w (K w.params) mg base aN 14 fa fd ["_law_script"] (uH (K w.params))):
  PySem.W.WalkO q loose XP YP l.row.toRowW d [] (λf vs=>PySem.call f vs):=
 L2.Wj (n:=63) (k:=14) (x:="_law_script") (CX:=λ_=>aN) (sp:=λw=>uH (K w.params)) hn (by decide) sr ⟨rfl,by decide,by decide⟩ hY F (λ_ _ a ns hl _ hS=>⟨a,ns,rfl,hS,hl,λ_=>rfl⟩) λ_ _ _ _ _ z=>z
end My
namespace PySem.W.Fast
def tw16437856238502408487:=()
def tw15802583942716127052:=()
def tw25697102718690173:=()
def tw5467447027114924275:=()
def tw6088303858678410558:=()
def tw9338951453592904447:=()
def tw4184537771490764911:=()
def tw8182524521195247820:=()
def tw11187818067135618887:=()
def tw1776026673069151533:=()
def tw15910883323753941143:=()
def tw5088813265460273927:=()
def tw447153217233736742:=()
def tw11643992478335727969:=()
def tw8687064819338494011:=()
def tw10443267529458877167:=()
def tw8286875244338638618:=()
def tw2253602261898880265:=()
def tw14854644962576050428:=()
def tw11403161468983039895:=()
def tw11791169055319361766:=()
def tw17870944476362568777:=()
def tw14380860620590935044:=()
def tw15988362424447600558:=()
def tw6826452279752692697:=()
def tw8981151784837242979:=()
def tw984039337080083991:=()
def tw14510715494624318787:=()
def tw14634392561083990666:=()
def tw1966002036785365140:=()
def tw1805385852338153216:=()
def tw9779456408009329350:=()
def tw10608732439255663978:=()
def tw16654382759569977758:=()
def tw10408203837915850322:=()
def tw16382591557370492160:=()
def tw3295090442434704942:=()
def tw1405207328741729915:=()
def tw6376862246137241870:=()
def tw11507787989352060302:=()
def tw10938194807036376081:=()
def tw7218152985370218866:=()
def tw3426600320815395221:=()
def tw14683896635150696004:=()
def tw13598512542607911426:=()
def tw16665019737890130731:=()
def tw11023833527966982940:=()
def tw7128221100523772357:=()
def tw14806681799501344288:=()
def tw7067210131374092559:=()
def tw4397434066590132455:=()
def tw12031451303372798404:=()
def tw14838740770538824047:=()
def tw11720711372268444854:=()
def tw656169351944617224:=()
def tw18156515942692606461:=()
def tw14590185377475964960:=()
def tw3994968959083770454:=()
def tw12593590903353924592:=()
def tw461917172711471074:=()
def tw18058536982354863479:=()
def tw4249993697396512304:=()
def tw16751117805044909388:=()
def tw12721800619091772347:=()
def tw16629700913066668280:=()
def tw6198123512949228776:=()
def tw7978883088474648665:=()
def tw18029080680173448591:=()
def tw14981642967887814486:=()
def tw14446378281114428226:=()
def tw13608858005339289013:=()
def tw6494772973887596607:=()
def tw8734249625924654013:=()
def tw13706603614210502499:=()
def tw6115065830228180109:=()
def tw11108055486473252575:=()
def tw13327466884530292805:=()
def tw11988434238065519302:=()
def tw10363810856996675550:=()
def tw8839016135273784370:=()
def tw3151414998088782423:=()
def tw7978782514996095350:=()
def tw15922303475927310219:=()
def tw10359326297338665834:=()
def tw14263872554212782961:=()
def tw4086517670072145754:=()
def tw285109122252568796:=()
def tw5811769875911876050:=()
def tw13716344404842338071:=()
def tw3802131965162426527:=()
def tw8645386557040650637:=()
def tw7708223823035458446:=()
def tw2648082798545207394:=()
def tw15582664213980646694:=()
def tw6302543614218703551:=()
def tw17645180660620742038:=()
def tw3024277484839200424:=()
def tw1676992192615013125:=()
def tw5665918107082384408:=()
def tw2468619136170131793:=()
def tw1866697981440935621:=()
def tw6158070916258694788:=()
def tw9951040313306488067:=()
def tw14714055887248235536:=()
def tw16817957167037795030:=()
def tw8858600285511819879:=()
def tw2259020698614522290:=()
def tw5933523469303854363:=()
def tw27953834328191276:=()
def tw4182298781676591644:=()
def tw1118586764672055389:=()
def tw12950871627810864390:=()
def tw531477150378401554:=()
def tw13385358108546270834:=()
def tw10405607492754284231:=()
def tw9248019663049944520:=()
def tw16616255030844391835:=()
def tw9298033099462317827:=()
def tw4734670860456654710:=()
def tw3768156498868457554:=()
def tw4958883215758983045:=()
def tw4758150213278366791:=()
def tw14327729830671978087:=()
def tw16110065265182015064:=()
def tw12730601676593704701:=()
def tw105536573338343262:=()
def tw2320565475999157225:=()
def tw6965074467274012804:=()
def tw1103994543036574752:=()
def tw10811727334599590681:=()
def tw11088629277763726193:=()
def tw3312006482072621892:=()
def tw14361392808796376844:=()
def tw17271977509813711769:=()
def tw8028827277791033854:=()
def tw8945672770904859409:=()
def tw15334580976843105768:=()
def tw9758741589054917772:=()
def tw9856639571094365452:=()
def tw7551574739886209533:=()
def tw10596331681839137907:=()
def tw9973518964675313096:=()
def tw9476319937429587818:=()
def tw16657289844192858587:=()
def tw2982105198393258847:=()
def tw9308698617250713314:=()
def tw7043655078787989736:=()
def tw15024726900263060601:=()
def tw6414833783782612519:=()
def tw9123322988747725681:=()
def tw3667281254711467725:=()
def tw14274068345148322792:=()
def tw3657832333563210454:=()
def tw4851604546279349337:=()
def tw14942303045103549442:=()
def tw1681652607092296787:=()
def tw2906266473959303368:=()
def tw10683622214028564484:=()
def tw1109430631779114829:=()
def tw6105073046523825537:=()
def tw18231080306134573255:=()
def tw12104706126953498553:=()
def tw16256423865966403045:=()
def tw8058085567797277108:=()
def tw18153880550420447857:=()
def tw966368752663911215:=()
def tw1282883277093311378:=()
def tw16601417460318490085:=()
def tw446850239656506687:=()
def tw18212966644693633040:=()
def tw1064776878594582805:=()
def tw16090362244013390659:=()
def tw14244841702359856172:=()
def tw1667150538964835820:=()
def tw3693678518852316547:=()
def tw7934735407856966854:=()
def tw4631439202912579446:=()
def tw17129038911041133445:=()
def tw13751326433712766246:=()
def tw9738071097942559807:=()
def tw8374376667478986558:=()
def tw2757922483509028487:=()
def tw4975134081656744992:=()
def tw7142816802185151215:=()
def tw8108786584849579796:=()
def tw11614927284684597612:=()
def tw6899771282810040797:=()
def tw15537289042032315694:=()
def tw4012018994749663329:=()
def tw1649908066860392700:=()
def tw7143612512800590473:=()
def tw6751506515541939675:=()
def tw17934078575328817340:=()
def tw13464358149698300313:=()
def tw8529188475249194510:=()
def tw4122869146171347526:=()
def tw6964755106992338847:=()
def tw9186156033813051849:=()
def tw16285698324830265341:=()
def tw2963665336544644230:=()
def tw5891484036267928883:=()
def tw14168873237856470258:=()
def tw11607612634017698811:=()
def tw8825508307070108919:=()
def tw5066297684119309489:=()
def tw9989308941879796823:=()
def tw5404090033434813782:=()
def tw6880215229942094955:=()
def tw8384374045658761438:=()
def tw16750752410880355809:=()
def tw9383794433735997411:=()
def tw7293064255509495994:=()
def tw16268400633672164157:=()
def tw16407853048984842802:=()
def tw2047913369325276866:=()
def tw1449623593929932687:=()
def tw3306718669649095495:=()
def tw1405855700149709538:=()
def tw3037383937274819848:=()
def tw11469032693490609335:=()
def tw5031433327977866897:=()
def tw2863264377471319823:=()
def tw14179814129207245427:=()
def tw9867176703774846683:=()
def tw3168147068828390140:=()
def tw261664402354296765:=()
def tw6826707719685221918:=()
def tw15849292632040390215:=()
def tw12955932972646498066:=()
def tw4910119270632664951:=()
def tw1176646013715556390:=()
def tw429568008931625556:=()
def tw8875582837440170574:=()
def tw7105749860475148399:=()
def tw1179260324967020536:=()
def tw8704325971115617282:=()
def tw4580735378145976303:=()
def tw12002912780801822420:=()
def tw13568910354806278549:=()
def tw1416344355497592101:=()
def tw18428590196254212656:=()
def tw2260236800030945042:=()
def tw17192936540421676436:=()
def tw4215657679451609497:=()
def tw9447538966183045608:=()
def tw16483981991417941749:=()
def tw2912293339699824071:=()
def tw1910510353081169156:=()
def tw11913554059572081108:=()
def tw9725216837228429328:=()
def tw1602068784612108828:=()
def tw6149875656839600820:=()
def tw9093299184767265343:=()
def tw12555641855889416711:=()
def tw10428049520736922209:=()
def tw17361665487153229799:=()
def tw4351169862587195299:=()
def tw12547902735040036876:=()
def tw7795971636505111588:=()
def tw5404249024699486707:=()
def tw8978466462579907168:=()
def tw12771741211920557674:=()
def tw4797223906885119344:=()
def tw17667011521959091035:=()
def tw3793668692879053238:=()
def tw11369839456762963750:=()
def tw13461162574144309580:=()
def tw17361475844209394127:=()
def tw12541265748871301126:=()
def tw10185958783845687730:=()
def tw947312800891548441:=()
def tw5582609279902437541:=()
def tw6031124276270057369:=()
def tw120663753592398452:=()
def tw14571680945548328486:=()
def tw7768052871939717621:=()
def tw13824209380155923302:=()
def tw1329032831131260049:=()
def tw16840555264692228866:=()
def tw15612541035307781216:=()
def tw3695449044822619775:=()
def tw5637936020141263202:=()
def tw7846373663037035129:=()
def tw12895918447720001738:=()
def tw5650259846628473886:=()
def tw16336876863075079669:=()
def tw12302812047210606873:=()
def tw252553085339546683:=()
def tw7914212449765701445:=()
def tw3118892795533758232:=()
def tw6081219628463959096:=()
def tw11467390494438219026:=()
def tw5280199757584178704:=()
def tw13542861955006612955:=()
def tw3895177102482728018:=()
def tw14463017465241946558:=()
def tw512937303134119821:=()
def tw4509860558036301349:=()
def tw15175978787286929464:=()
def tw6779838066551284885:=()
def tw6208912685046530951:=()
def tw4783581225301060090:=()
def tw5697784481621863647:=()
def tw10331312878518609477:=()
def tw14942998106510478267:=()
def tw37508374145024574:=()
def tw4782028130464326695:=()
def tw5714063329031424209:=()
def tw12932626008057671896:=()
def tw17189918841927763867:=()
def tw95621564804872477:=()
def tw5945835706822080916:=()
def tw13568248861709046751:=()
def tw4093354131995266540:=()
def tw7182890965267690073:=()
def tw4284159933107593638:=()
def tw2860555058985620760:=()
def tw6598645801338078850:=()
def tw7621786346004005256:=()
def tw9809981307387831800:=()
def tw2537235268833094152:=()
def tw878022783137657700:=()
def tw11226750996447296689:=()
def tw4713222708238302307:=()
def tw1922021489834173023:=()
def tw2072365990703289603:=()
def tw9802805801097265573:=()
def tw8262430621020215523:=()
def tw7578782308429073709:=()
def tw16569952855227497912:=()
def tw1417816172845963852:=()
def tw12465359854208246600:=()
def tw6452721345302171450:=()
def tw12583466280114981376:=()
def tw9854761807513492824:=()
def tw10795030538503083505:=()
def tw17859040741864168421:=()
def tw16016853615432515505:=()
def tw10698202885975889447:=()
def tw16564586232496415985:=()
def tw12410934763225654534:=()
def tw16271921620517901046:=()
def tw4293203961632027311:=()
def tw7763837660776022864:=()
def tw37014663551717902:=()
def tw5471818307028530770:=()
def tw9498752301118756399:=()
def tw4390332171005905156:=()
def tw975036395418299494:=()
def tw264918822011096438:=()
def tw11684042419325283658:=()
def tw9454714308634322008:=()
def tw17414485468984634496:=()
def tw16646415445562149949:=()
def tw8736606234015127830:=()
def tw10072661628104871859:=()
def tw3963067375984560009:=()
def tw8963378161457006544:=()
def tw16096024892814739063:=()
def tw1066429572383001673:=()
def tw214927557580362198:=()
def tw1654682056329797980:=()
def tw1991209641661503778:=()
def tw1924109223052543950:=()
def tw6398462635256084034:=()
def tw15144556581997305452:=()
def tw7268334605463372262:=()
def tw6060880624663128534:=()
def tw8884060333896179797:=()
def tw16483745516400628965:=()
def tw311190862710068169:=()
def tw13318698072721780435:=()
def tw2837078312882684875:=()
def tw14157997693669258642:=()
def tw7531562838200816432:=()
def tw10928394380303110093:=()
def tw538752241472361722:=()
def tw17078789971810021287:=()
def tw3498041986009224474:=()
def tw3284366120985023351:=()
def tw405627410905877428:=()
def tw7743193021545200177:=()
def tw4511020490279542492:=()
def tw3732236254078978597:=()
def tw16751191394153224735:=()
def tw4778230142051481389:=()
def tw9692246280644751134:=()
def tw15487145254508405244:=()
def tw331419534830360739:=()
def tw4008995694744500256:=()
def tw7457603584551566459:=()
def tw1055904328890172630:=()
def tw15979972298576134214:=()
def tw15948526810708205203:=()
def tw12476749088735442048:=()
def tw16661561695341134700:=()
def tw8239881928645178548:=()
def tw17787016562173236202:=()
def tw6805532955873572823:=()
def tw17690091804811374597:=()
def tw3547027240855080479:=()
def tw14158696887153793038:=()
def tw9263617408585784342:=()
def tw12336811312683752704:=()
def tw2299073297609260891:=()
def tw9591059875592457570:=()
def tw1101823989269825164:=()
def tw4262843322003262264:=()
def tw18421575900685655404:=()
def tw17628557447726357223:=()
def tw18019895973597180138:=()
def tw18441622093690686407:=()
def tw16879362848202552185:=()
def tw3648675840892081691:=()
def tw14667091251761173656:=()
def tw9113870408545384135:=()
def tw12283883262777247083:=()
def tw1034142376597533113:=()
def tw16024781400422654352:=()
def tw5903422884230322969:=()
def tw11698086106907713324:=()
def tw10627263952162159321:=()
def tw5575111566260669389:=()
def tw6056132377658209664:=()
def tw11050261286737805506:=()
def tw13659941350714886591:=()
def tw7239793925646177079:=()
def tw4271811224238730055:=()
def tw10828178791936393297:=()
def tw8819223423340217089:=()
def tw13349137614288211960:=()
def tw10236526545139283787:=()
def tw1099654814314017693:=()
def tw6999444912288843809:=()
def tw16292559655078998337:=()
def tw14512626958114817173:=()
def tw6234713260960529073:=()
def tw16723240230876875636:=()
def tw8913838120132867062:=()
def tw15745349272784438747:=()
def tw17528994563582354529:=()
def tw3093111445919094015:=()
def tw17226024065431152029:=()
def tw13683238024240056339:=()
def tw993735404570321728:=()
def tw7735323695398534891:=()
def tw84685951438758892:=()
def tw4561831459713761991:=()
def tw5615713693912706704:=()
def tw5114092770724728813:=()
def tw17513361059730509592:=()
def tw10438152539976525017:=()
def tw10174386610498424284:=()
end PySem.W.Fast
def PySem.W.Fast.tw842807335147942141:PySem.Program:=PySem.Challenge.pw_chalkcave_k50_whole_only_what_stands_cou
def PySem.W.Fast.te842807335147942141:PySem.Challenge.pw_chalkcave_k50_whole_only_what_stands_cou=PySem.W.Fast.tw842807335147942141:=rfl
open PySem PySem.W PyProof.Rows
set_option maxRecDepth 100000 in
set_option maxHeartbeats 0 in
theorem PySem.Challenge.cw_chalkcave_k50_whole_only_what_stands_cou_holds : PySem.Challenge.rw_chalkcave_k50_whole_only_what_stands_cou.Holds := by
 w_on;o_law;k_head;(case hw=>w_witness2)
 k_fill
 refine My.walk (l:=PySem.Challenge.rw_chalkcave_k50_whole_only_what_stands_cou) rfl rfl (fun w h Y=>PySem.W.kIn_of Y) ?F
 case F=>
  intro w mg fa h KX G hmg
  refine' My.all_mk KX G hmg ?cGroups ?cFold ?cSurvey ?cChart ?aNoKind ?aNoMark ?aBarred ?aFull ?aNoEntry ?aNoHold ?aNoChamber ?aCaveError ?_ ?_ ?_ ?_ ?_ ?_ ?_ ?_ ?_ ?_ ?_ ?_ ?_ ?_ ?_ ?_ ?_ ?_ ?_ ?_ ?_ ?_ ?_ ?_ ?_ ?_ ?_ ?_ ?_ ?_ ?_ ?_ ?_ ?_ ?_ ?_ ?_ ?_ ?_ ?_ ?_ ?_ ?_ ?_ ?_ ?_ ?_ ?_ ?_ ?_ ?_ ?_ ?_ ?_ ?_ ?_ ?_ ?_ ?_ ?_ ?_ ?_ ?_ ?_ ?_ ?_ ?_ ?_ ?_ ?_ ?_ ?_ ?_ ?_ ?_ ?_ ?_ ?_ ?_ ?_ ?_ ?_ ?_ ?_ ?_ ?_ ?_ ?_ ?_ ?_ ?_ ?_ ?_ ?_ ?_ ?_ ?_ ?_ ?_ ?_ ?_ ?_ ?_ ?_ ?_ ?_ ?_ ?_ ?_ ?_ ?_ ?_ ?_ ?_ ?_ ?_ ?_ ?_ ?_ ?_ ?_ ?_ ?_ ?_ ?_ ?_ ?_ ?_ ?_ ?_ ?_ ?_ ?_ ?exsBarred ?_ ?_ ?_ ?_
  (case cGroups=>constructor <;> k_is)
  (case cFold=>constructor <;> k_is)
  (case cSurvey=>constructor <;> k_is)
  (case cChart=>constructor <;> k_is)
  (case aNoKind=>unfold My.NsI;k_is)
  (case aNoMark=>unfold My.NsI;k_is)
  (case aBarred=>unfold My.NsI;k_is)
  (case aFull=>unfold My.NsI;k_is)
  (case aNoEntry=>unfold My.NsI;k_is)
  (case aNoHold=>unfold My.NsI;k_is)
  (case aNoChamber=>unfold My.NsI;k_is)
  (case aCaveError=>unfold My.NsI;k_is)
  (case exsBarred=>kts_exm)
  all_goals first | (apply My.De.mk;k_is;apply L2.fun_mk;k_is;k_is;k_is) | (apply My.Md.mk;k_is;k_is;apply L2.fun_mk;k_is;k_is;k_is) | k_is | (unfold My.NsN;k_is) | (unfold L2.NoAttr;k_is) | rfl | skip
