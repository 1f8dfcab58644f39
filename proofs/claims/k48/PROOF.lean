import PyProof.Rows.All
import Wide.All
import OpenK.AllK
import Wide.FinOn
import Lean
import PyProof.EqAt
import PyProof.EqKinds
import PyProof.TupleCall
import Wide.Seal
import PyProof.EnumMake
import PyProof.EnumStmt
import PyProof.EnumFor
import PyProof.StrWalks
import PyProof.StrCalls
import PyProof.DictCompW
import PyProof.ListRange
import PyProof.CompUse
import KE.KDictList
import PyProof.ExcArgsOwn
import KE.KIsAll
import KE.KTryDeepN
import OpenK.KOwn
import KE.KTryMore
import PyProof.NsDelKeeps
import PyProof.SliceStr2
import KE.RegKIsAll
import KE.RegKTryMore
import PyProof.Rows.SumAny
import PyProof.AssignAttr
import PyProof.IsRules
import PyProof.Rows.SortWalk
import KE.KRevIter
import PyProof.FactsAll.range_2
import PySem.Challenge.RW_chalkcave_k48_whole_home_is_must
set_option Elab.async false
set_option linter.all false
set_option maxRecDepth 100000
section
open PySem PySem.Spec PyProof.Rows
def Y1:=@List.length_map
def Y2:=@List.mem_singleton
def Y3:=@Nat.le_refl
def Y4:=@List.mem_cons_of_mem
def Y5:=@List.mem_cons
def Y6:=@List.mem_of_getElem?
def Y7:=@List.mem_append
def Y8:=@Heap.get?_push_of_some
def Y9:=@List.mem_cons_self
def Za:=@Int.toNat_natCast
def Zb:=@List.mem_append_right
def Zc:=@List.mem_append_left
def Zd:=@List.getElem?_eq_getElem
def Ze:=@List.map_append
def Zf:=@List.getElem?_map
def Zg:=@Option.some.inj
def Zh:=@List.mem_map
def Zi:=@Heap.lt_size
def Zj:=@List.take_succ_eq_append_getElem
def Zk:=@Bool.false_ne_true
def Zl:=@List.size_toArray
def Zm:=@PassesOwn.never
def Zn:=@Nat.ne_of_lt
def Zo:=@List.length_append
def Zp:=@Nat.zero_le
def Zq:=@Heap.get?_push_size
def Zr:=@List.map_cons
def Zs:=@List.getElem?_append_left
def Zt:=@List.getElem?_append_right
def Zu:=@False.elim
def Zv:=@Nat.lt_of_lt_of_le
def Zw:=@Int.toNat_of_nonneg
def Zx:=@List.length_take
def Zy:=@Int.emod_lt_of_pos
def Zz:=@Int.emod_nonneg
def ZA:=@List.getElem_mem
def ZC:=@List.all_eq_true
def ZD:=@List.getElem_of_mem
def ZE:=@List.take_of_length_le
def ZF:=@List.length_cons
def ZG:=@List.nodup_cons
def ZH:=@beq_eq_false_iff_ne
def ZI:=@List.getElem?_eq_none
def ZJ:=@List.length_drop
def ZK:=@List.map_map
def ZL:=@List.getElem?_eq_some_iff
def ZM:=@PySem.mem_of_lookup
def ZN:=@decide_eq_true
def ZO:=@decide_eq_false
def ZP:=@Nat.lt_of_le_of_lt
def ZQ:=@Nat.le_trans
def ZR:=@List.length_replicate
def ZS:=@List.getElem?_replicate
def ZT:=@List.mem_filter
def ZU:=@List.mem_range
def ZV:=@wpAny_pure
def ZW:=@Nat.lt_succ_of_lt
def ZX:=@List.append_nil
def ZY:=@List.append_assoc
def ZZ:=@List.idxOf_lt_length_of_mem
def Z0:=@List.map_congr_left
def Z1:=@Nat.le_of_lt
def Z2:=@Nat.lt_irrefl
end
namespace L2
open PySem PySem.Spec PyProof.Rows
abbrev Key:=Sum Int (Option Str)
def nj:Key->Value->Bool
 |.inl k,v=>Value.isInt k v
 |.inr (some x),v=>Value.isStrOf x v
 |.inr none,.none=>true
 |.inr none,_=>false
def adp(w:World):Key->Int
 |.inl k=>hashInt k
 |.inr (some x)=>hashStr w x
 |.inr none=>reduceHash 0xFCA86420
def jh:∀{k:Key}{v:Value},nj k v=true->(∃i t,k=Sum.inl i/\v=Value.int i t)\/(∃x t,k=Sum.inr (some x)/\v=Value.str x t)\/(k=Sum.inr none/\v=Value.none)
 |.inl i,v,h=>by
  obtain⟨t,e⟩:=Value.isInt_shape (k:=i) (v:=v) h;exact .inl ⟨i,t,rfl,e⟩
 |.inr none,v,h=>by
  cases v<;>first|exact .inr (.inr ⟨rfl,rfl⟩)|exact absurd h (by simp[nj])
 |.inr (some x),v,h=>by
  obtain⟨t,e⟩:=Value.isStrOf_shape (x:=x) (v:=v) h;exact .inr (.inl ⟨x,t,rfl,e⟩)
def Uj(i:Int)(t:Tok):nj (.inl i) (.int i t)=true:=by simp[nj,Value.isInt]
def Uk(x:Str)(t:Tok):nj (.inr (some x)) (.str x t)=true:=by simp[nj,Value.isStrOf]
def aa7(a b:Int):decide ((Sum.inl a:Key)=Sum.inl b)=(a==b):=by
 by_cases e:a=b
 ·subst e;simp
 ·have h:¬(Sum.inl a:Key)=Sum.inl b:=λq=>e (Sum.inl.inj q);rw[ZO h];exact(ZH.mpr e).symm
def aa8(a b:Str):decide ((Sum.inr (some a):Key)=Sum.inr (some b))=decide (a=b):=by
 by_cases e:a=b
 ·subst e;simp
 ·have h:¬(Sum.inr (some a):Key)=Sum.inr (some b):=λq=>e (Zg (Sum.inr.inj q));rw[ZO h,ZO e]
def LQ(a:Int)(b:Option Str):decide ((Sum.inl a:Key)=Sum.inr b)=false:=ZO (λq=>nomatch q)
def LS(a:Option Str)(b:Int):decide ((Sum.inr a:Key)=Sum.inl b)=false:=ZO (λq=>nomatch q)
def aa9(a:Str):decide ((Sum.inr (some a):Key)=Sum.inr none)=false:=ZO (λq=>nomatch q)
def aba(a:Str):decide ((Sum.inr none:Key)=Sum.inr (some a))=false:=ZO (λq=>nomatch q)
def Wn{prog:Program}{w:World}{A:Around}{E:Value->Shared->Prop}{s:Shared}{Q:Int->Shared->Prop}(h:Q (reduceHash 0xFCA86420) {s with toks:=s.toks+1}):wpAny (model prog w) A (PySem.pyHash .none) Q E s:=
 PySem.W.pyHash_slot (T:="NoneType") rfl F.slot_NoneType_hash F.entry_NoneType_hash (F.args_NoneType_hash_1 _) (beq_builtin_none _) (.inl rfl) (wpAny_bind (ZV (wpAny_bind (wpAny_mkInt (ZV ⟨_,_,rfl,h⟩)))))
def abb{prog:Program}{w:World}{A:Around}{E:Value->Shared->Prop}{s:Shared}{Q:Bool->Shared->Prop}(h:Q true s):wpAny (model prog w) A (PySem.eqBool .none .none) Q E s:=by
 unfold PySem.eqBool;refine wpAny_holding ?_;exact wpAny_ite_split (λ_=>wpAny_bind (wpAny_rule (ZV h))) (λz=>absurd rfl z)
def cY(prog:Program)(w:World):PySem.KeyKind prog w Key where
 is:=nj
 hash:=adp w
 inj:=λv a b ha hb=>by
  rcases jh ha with⟨i,t,rfl,rfl⟩|⟨x,t,rfl,rfl⟩|⟨rfl,rfl⟩
  ·rcases jh hb with⟨j,u,rfl,e⟩|⟨y,u,rfl,e⟩|⟨rfl,e⟩
   ·injection e with e1 _;rw[e1]
   ·exact nomatch e
   ·exact nomatch e
  ·rcases jh hb with⟨j,u,rfl,e⟩|⟨y,u,rfl,e⟩|⟨rfl,e⟩
   ·exact nomatch e
   ·injection e with e1 _;rw[e1]
   ·exact nomatch e
  ·rcases jh hb with⟨j,u,rfl,e⟩|⟨y,u,rfl,e⟩|⟨rfl,e⟩
   ·exact nomatch e
   ·exact nomatch e
   ·rfl
 byValue:=λk v h=>by
  rcases jh h with⟨i,t,rfl,rfl⟩|⟨x,t,rfl,rfl⟩|⟨rfl,rfl⟩<;>rfl
 pyHash:=λhv h=>by
  rcases jh hv with⟨i,t,rfl,rfl⟩|⟨x,t,rfl,rfl⟩|⟨rfl,rfl⟩
  ·exact wpAny_pyHash_int h
  ·exact wpAny_pyHash_str h
  ·exact Wn h
 eqBool:=λhu hv h=>by
  rcases jh hu with⟨i,t,rfl,rfl⟩|⟨x,t,rfl,rfl⟩|⟨rfl,rfl⟩
  ·rcases jh hv with⟨j,u,rfl,rfl⟩|⟨y,u,rfl,rfl⟩|⟨rfl,rfl⟩
   ·rw[aa7]at h;exact wpAny_eqBool_int h
   ·rw[LQ]at h;exact SeqAt.EqAt.int_str i t y u _ _ _ _ h
   ·rw[LQ]at h;exact SeqAt.EqAt.int_none i t _ _ _ _ h
  ·rcases jh hv with⟨j,u,rfl,rfl⟩|⟨y,u,rfl,rfl⟩|⟨rfl,rfl⟩
   ·rw[LS]at h;exact SeqAt.EqAt.str_int x t j u _ _ _ _ h
   ·rw[aa8]at h;exact wpAny_eqBool_str h
   ·rw[aa9]at h;exact SeqAt.EqAt.str_none x t _ _ _ _ h
  ·rcases jh hv with⟨j,u,rfl,rfl⟩|⟨y,u,rfl,rfl⟩|⟨rfl,rfl⟩
   ·rw[LS]at h;exact SeqAt.EqAt.none_int j u _ _ _ _ h
   ·rw[aba]at h;exact SeqAt.EqAt.none_str y u _ _ _ _ h
   ·rw[ZN rfl]at h;exact abb h
 «strs»:=λk x t v h=>by
  rcases jh h with⟨i,u,rfl,e⟩|⟨y,u,rfl,e⟩|⟨rfl,e⟩
  ·exact nomatch e
  ·injection e with e1 _
   subst e1;cases v<;>rfl
  ·exact nomatch e
def Sj(prog:Program)(w:World)(i:Int)(t:Tok):(cY prog w).is (.inl i) (.int i t)=true:=Uj i t
def Sk(prog:Program)(w:World)(x:Str)(t:Tok):(cY prog w).is (.inr (some x)) (.str x t)=true:=Uk x t
inductive V where
 |aH|bl(b:Bool)|int(i:Int)|str(x:Str)|iy(b:Array UInt8)|ph(b:UInt64)|ref(a:Addr)|ty(n:String)
 deriving DecidableEq
def RelV:V->Value->Prop
 |.aH,u=>u=Value.none
 |.bl b,u=>u=Value.bool b
 |.int i,u=>∃t,u=Value.int i t
 |.str x,u=>∃t,u=Value.str x t
 |.iy b,u=>∃t,u=Value.bytes b t
 |.ph b,u=>∃t,u=Value.float b t
 |.ref a,u=>u=Value.ref a
 |.ty n,u=>u=Value.type n
abbrev Vals:List V->List Value->Prop:=Paired RelV
def Vals.length{xs:List V}{us:List Value}(r:Vals xs us):xs.length=us.length:=Paired.length r
def Vals.get:∀{xs:List V}{us:List Value}{i:Nat}{x:V},Vals xs us->xs[i]?=some x->∃u,us[i]?=some u/\RelV x u
 |_,_,_,_,.nil,e=>by simp at e
 |_,_,0,_,.cons r _,e=>by simp at e;subst e;exact⟨_,rfl,r⟩
 |_,_,i+1,x,.cons _ t,e=>by
  obtain⟨u,h1,h2⟩:=Vals.get (i:=i) (x:=x) t (by simpa using e);exact⟨u,by simpa using h1,h2⟩
def Vals.set{x:V}{u:Value}(r:RelV x u):∀{xs:List V}{us:List Value} (i:Nat),Vals xs us->Vals (xs.set i x) (us.set i u)
 |_,_,_,.nil=>.nil
 |_,_,0,.cons _ t=>.cons r t
 |_,_,i+1,.cons q t=>.cons q (Vals.set r i t)
def Vals.append:∀{xs ys:List V}{us ws:List Value},Vals xs us->Vals ys ws->Vals (xs++ys) (us++ws)
 |_,_,_,_,.nil,s=>s
 |_,_,_,_,.cons r t,s=>.cons r (Vals.append t s)
def Vals.take:∀{xs:List V}{us:List Value} (n:Nat),Vals xs us->Vals (xs.take n) (us.take n)
 |_,_,0,_=>.nil
 |_,_,_+1,.nil=>.nil
 |_,_,n+1,.cons r t=>.cons r (Vals.take n t)
def Vals.drop:∀{xs:List V}{us:List Value} (n:Nat),Vals xs us->Vals (xs.drop n) (us.drop n)
 |_,_,0,r=>r
 |_,_,_+1,.nil=>.nil
 |_,_,n+1,.cons _ t=>Vals.drop n t
def fJ:Option V->Option Value->Prop
 |some v,some u=>RelV v u
 |none,none=>True
 |_,_=>False
def KV{κ:Type}:List (κ×V)->List (κ×Value)->Prop:=Paired λ(p:κ×V) (q:κ×Value)=>p.1=q.1/\RelV p.2 q.2
def kV:Key->V
 |.inl i=>.int i
 |.inr (some x)=>.str x
 |.inr none=>.aH
inductive HO where
 |lst(xs:List V)
 |tup(xs:List V)
 |dK(kvs:List (Key×V))|dT(kvs:List (List Key×V))
 |set(S:Int->Bool)(n:Nat)
 |ins(C dx:Addr)(fs:List (Str×V))
 |own(x:Addr)
 |xd(fs:List (Str×V))
 |met(f x:Addr)
 |bx(lo hi:Int)
 |c5(o:Obj)(u:HO)
 |nN(ps:Array Value)
 |ext(φ:Heap->Prop)
abbrev Hp:=Addr->Option HO
def upd(H:Hp)(a:Addr)(o:HO):Hp:=λb=>if b=a then some o else H b
def ak{H:Hp}{a:Addr}{o:HO}:upd H a o a=some o:=by unfold upd;rw[if_pos rfl]
def ai{H:Hp}{a b:Addr}{o:HO}(h:b≠a):upd H a o b=H b:=by unfold upd;rw[if_neg h]
def lH{H:Hp}{a:Addr}{o u:HO}:upd (upd H a o) a u=upd H a u:=by
 funext b;unfold upd;split<;>rfl
def M4{H:Hp}{a b:Addr}{o u:HO}(h:H a=some o)(h':H b=some u)(d:o≠u):a≠b:=by
 intro e;subst e;rw[h]at h';exact d (Zg h')
def a8{H:Hp}{a b:Addr}{o:HO}(h:H a=some o)(h':H b=none):a≠b:=by
 intro e;subst e;rw[h]at h';cases h'
section
variable (P:Program) (w:World)
def bU(H:Hp)(h:Heap)(a:Addr):HO->Prop
 |.lst xs=>xs.length<=sizeLine/\∃(aj:List Value) (n:Nat),Vals xs aj/\h.get? a=some {cls:=.type "list",data:=.seq aj.toArray n}
 |.tup xs=>xs.length<=sizeLine/\∃aj:List Value,Vals xs aj/\IsTup h a aj.toArray
 |.dK kvs=>kvs.length<=sizeLine/\(a==sysModules)=false/\∃vs,KV kvs vs/\h.DictOf (cY P w) a vs
 |.dT kvs=>kvs.length<=sizeLine/\(a==sysModules)=false/\∃xs:List (List Key×Addr×Value),
  Paired (λ(p:List Key×V) (q:List Key×Addr×Value)=>p.1=q.1/\H q.2.1=some (.tup (p.1.map kV))/\RelV p.2 q.2.2) kvs xs/\
  ∃o es ep,h.get? a=some o/\o.ExactDict/\o.data=.dict es ep/\es.toList=xs.map (entryOfKey (tupleKind (cY P w)))/\(xs.map (·.1)).Nodup
 |.set S n=>h.SetOf (intKind P w) a S n
 |.ins C dx fs=>H dx=some (.own a)/\fs.length<=1000/\dx≠a/\h.get? a=some (PySem.W.instObj C dx)/\
  ∃mA,h.Ns1 dx mA/\(∀f,fJ (fs.lookup f) (mA f))/\PySem.Within mA (fs.map (·.1))
 |.own _=>∃o,h.get? a=some o
 |.xd fs=>∃mA,h.Ns1 a mA/\∀f,fJ (fs.lookup f) (mA f)
 |.bx lo hi=>∃t u v,h.get? a=some {cls:=.type "range",data:=.fields #[.int lo t,.int hi u,.int 1 v]}
 |.c5 o u=>h.get? a=some o/\bU H h a u
 |.nN ps=>h.get? a=some {cls:=.none,data:=.fields ps}
 |.met f x=>h.get? a=some (PySem.W.methodObj (.ref f) (.ref x))
 |.ext φ=>φ h/\(∃o,h.get? a=some o)/\∀h1 h2:Heap,φ h1->(∀o,h1.get? a=some o->h2.get? a=some o)->φ h2
def bK(H:Hp)(h:Heap):Prop:=∀a o,H a=some o->bU P w H h a o
end
section
variable {P:Program}{w:World}{H H':Hp}{h h':Heap}{a:Addr}{o:HO}
def bU.lt(x:bU P w H h a o):a<h.objs.size:=by
 cases o with
 |lst xs=>obtain⟨_,_,_,_,e⟩:=x;exact Zi e
 |tup xs=>obtain⟨_,_,_,p⟩:=x;exact p.lt
 |dK kvs=>obtain⟨_,_,_,_,o,_,_,e,_⟩:=x;exact Zi e
 |dT kvs=>obtain⟨_,_,_,_,o,_,_,e,_⟩:=x;exact Zi e
 |set S n=>obtain⟨o,_,_,_,e,_⟩:=x;exact Zi e
 |ins C dx fs=>obtain⟨_,_,_,e,_⟩:=x;exact Zi e
 |own y=>obtain⟨_,e⟩:=x;exact Zi e
 |xd fs=>obtain⟨_,⟨_,_,_,e,_⟩,_⟩:=x;exact Zi e
 |bx lo hi=>obtain⟨_,_,_,e⟩:=x;exact Zi e
 |c5 ob u=>obtain⟨e,_⟩:=x;exact Zi e
 |nN ps=>exact Zi (show h.get? a=some _ from x)
 |met f y=>exact Zi (show h.get? a=some _ from x)
 |ext φ=>obtain⟨_,⟨_,e⟩,_⟩:=x;exact Zi e
def Paired.BR{α β:Type}{F G:α->β->Prop}:∀{l₁:List α}{l₂:List β},Paired F l₁ l₂->(∀a b,F a b->G a b)->Paired G l₁ l₂
 |_,_,.nil,_=>.nil
 |_,_,.cons r t,f=>.cons (f _ _ r) (Paired.BR t f)
def bU.jv(x:bU P w H h a o)(k:∀b u,(b=a\/H b=some (.own a))->h.get? b=some u->h'.get? b=some u)
  (ho:∀b,H b=some (.own a)->H' b=some (.own a))(ht:∀b xs,H b=some (.tup xs)->H' b=some (.tup xs)):bU P w H' h' a o:=by
 induction o with
 |lst xs=>obtain⟨z,aj,n,r,e⟩:=x;exact⟨z,aj,n,r,k _ _ (.inl rfl) e⟩
 |tup xs=>obtain⟨z,aj,r,ob,e,c⟩:=x;exact⟨z,aj,r,ob,k _ _ (.inl rfl) e,c⟩
 |dK kvs=>obtain⟨z,y,vs,r,ob,es,ep,e,c⟩:=x;exact⟨z,y,vs,r,ob,es,ep,k _ _ (.inl rfl) e,c⟩
 |dT kvs=>
  obtain⟨z,y,xs,r,ob,es,ep,e,c⟩:=x;exact⟨z,y,xs,Paired.BR r λp q z=>⟨z.1,ht _ _ z.2.1,z.2.2⟩,ob,es,ep,k _ _ (.inl rfl) e,c⟩
 |set S n=>obtain⟨ob,es,ep,t,e,c⟩:=x;exact⟨ob,es,ep,t,k _ _ (.inl rfl) e,c⟩
 |ins C dx fs=>
  obtain⟨d,z,ne,e,mA,⟨od,es,ep,e2,c⟩,r⟩:=x;exact⟨ho _ d,z,ne,k _ _ (.inl rfl) e,mA,⟨od,es,ep,k _ _ (.inr d) e2,c⟩,r⟩
 |own y=>obtain⟨ob,e⟩:=x;exact⟨ob,k _ _ (.inl rfl) e⟩
 |xd fs=>obtain⟨mA,⟨od,es,ep,e,c⟩,r⟩:=x;exact⟨mA,⟨od,es,ep,k _ _ (.inl rfl) e,c⟩,r⟩
 |bx lo hi=>obtain⟨t,u,v,e⟩:=x;exact⟨t,u,v,k _ _ (.inl rfl) e⟩
 |c5 ob u ih=>obtain⟨e,q⟩:=x;exact⟨k _ _ (.inl rfl) e,ih q⟩
 |nN ps=>
  have e:h.get? a=some {cls:=.none,data:=.fields ps}:=x;show h'.get? a=some {cls:=.none,data:=.fields ps};exact k a _ (.inl rfl) e
 |met f y=>
  have e:h.get? a=some (PySem.W.methodObj (.ref f) (.ref y)):=x;show h'.get? a=some (PySem.W.methodObj (.ref f) (.ref y));exact k a _ (.inl rfl) e
 |ext φ=>obtain⟨p,⟨o,e⟩,st⟩:=x;exact⟨st _ _ p λo q=>k _ _ (.inl rfl) q,⟨o,k _ _ (.inl rfl) e⟩,st⟩
def bK.lt(x:bK P w H h)(e:H a=some o):a<h.objs.size:=(x a o e).lt
def bK.fresh(x:bK P w H h)(e:h.objs.size<=a):H a=none:=by
 cases q:H a with
 |none=>rfl
 |some u=>exact absurd (Zv (x.lt q) e) (Z2 _)
def bK.kept(x:bK P w H h)(k:∀b u,h.get? b=some u->h'.get? b=some u):bK P w H h':=λa o e=>
 (x a o e).jv (λb u _ q=>k b u q) (λ_ q=>q) λ_ _ q=>q
def bK.laid(x:bK P w H h)(k:∀b u,h.get? b=some u->h'.get? b=some u)(hp:h.objs.size<=a)(new:bU P w (upd H a o) h' a o):bK P w (upd H a o) h':=λb u e=>by
 have hn:=x.fresh hp;by_cases hb:b=a
 ·subst hb;rw[ak]at e;cases e;exact new
 ·rw[ai hb]at e;exact(x b u e).jv (λc v _ q=>k c v q) (λc q=>by rw[ai (a8 q hn)];exact q) λc xs q=>by rw[ai (a8 q hn)];exact q
end
def Rd(H:Hp)(a:Addr)(u:HO):Prop:=H a=some u\/∃o,H a=some (.c5 o u)
def Rd.ok{P:Program}{w:World}{H:Hp}{h:Heap}{a:Addr}{u:HO}(r:Rd H a u)(x:bK P w H h):bU P w H h a u:=by
 rcases r with r|⟨o,r⟩
 ·exact x a u r
 ·obtain⟨_,q⟩:=x a _ r;exact q
def tO:Option HO->Prop
 |some (.lst _)=>True
 |some (.dK _)=>True
 |some (.dT _)=>True
 |some (.set _ _)=>True
 |some (.ins _ _ _)=>True
 |some (.ext _)=>True
 |_=>False
section
variable {P:Program}{w:World}{H:Hp}{h h':Heap}{x e:Addr}{o':HO}
def bK.write(ok:bK P w H h)(mu:tO (H x))(he:e=x\/H e=some (.own x))(k:∀b u,b≠e->h.get? b=some u->h'.get? b=some u)(nO:∃u,h'.get? e=some u)
  (new:bU P w (upd H x o') h' x o'):bK P w (upd H x o') h':=λb u q=>by
 have NJ:∀c y,H c=some (.own y)->c≠x:=λc y r z=>by subst z;rw[r]at mu;exact mu
 have adq:∀c xs,H c=some (.tup xs)->c≠x:=λc xs r z=>by subst z;rw[r]at mu;exact mu
 by_cases hb:b=x
 ·subst hb;rw[ak]at q;cases q;exact new
 ·rw[ai hb]at q;by_cases pj:b=e
  ·have q':H b=some (.own x):=by
    rcases he with z|z
    ·exact absurd (pj.trans z) hb
    ·rw[pj];exact z
   rw[q]at q';cases q';obtain⟨v,hv⟩:=nO;exact⟨v,by rw[pj];exact hv⟩
  ·refine(ok b u q).jv (λc v hc r=>k c v ?_ r) (λc r=>by rw[ai (NJ c b r)];exact r) λc xs r=>by rw[ai (adq c xs r)];exact r
   rcases hc with rfl|hc
   ·exact pj
   ·rintro rfl;rcases he with z|z
    ·exact NJ c b hc z
    ·rw[hc]at z;cases z;exact hb rfl
end
structure Un(fs ex:List Addr)(H H':Hp)(h h':Heap):Prop where
 keep:∀b o,h.get? b=some o->H b=none->b∉fs->b∉ex->h'.get? b=some o
 slot:∀b o,h.get? b=some o->H b=none->b∈fs->b∉ex->∃sl,h'.get? b=some {o with slots:=sl}
 free:∀b o,h.get? b=some o->H b=none->b∉ex->H' b=none
 there:∀b o,h.get? b=some o->b∉ex->∃o',h'.get? b=some o'
 gB:∀b xs,H b=some (.tup xs)->H' b=some (.tup xs)
 fY:∀b o u,H b=some (.c5 o u)->H' b=some (.c5 o u)
 gC:∀b ps,H b=some (.nN ps)->∃more,H' b=some (.nN (ps++more))
section
variable {fs qK ex ex':List Addr}{H H1 H2:Hp}{h h1 h2 h':Heap}{a x e:Addr}{o:HO}
def Un.any(u:Un fs ex H H1 h h1){b:Addr}{ob:Obj}(q:h.get? b=some ob)(n:H b=none)(hx:b∉ex):∃sl,h1.get? b=some {ob with slots:=sl}:=by
 by_cases hb:b∈fs
 ·exact u.slot b ob q n hb hx
 ·exact⟨ob.slots,u.keep b ob q n hb hx⟩
def Un.kept(k:∀b u,h.get? b=some u->h'.get? b=some u):Un fs ex H H h h':=
 ⟨λb ob q _ _ _=>k b ob q,λb ob q _ _ _=>⟨ob.slots,k b ob q⟩,λ_ _ _ n _=>n,λb ob q _=>⟨ob,k b ob q⟩,λ_ _ q=>q,λ_ _ _ q=>q,λ_ ps q=>⟨#[],by rw[q];simp⟩⟩
def Un.refl:Un fs ex H H h h:=Un.kept λ_ _ q=>q
def Un.laid(k:∀b u,h.get? b=some u->h'.get? b=some u)(hp:h.objs.size<=a)(hn:H a=none):Un fs ex H (upd H a o) h h' where
 keep:=λb u q _ _ _=>k b u q
 slot:=λb u q _ _ _=>⟨u.slots,k b u q⟩
 free:=λb u q n _=>by rw[ai (Zn (Zv (Zi q) hp))];exact n
 there:=λb u q _=>⟨u,k b u q⟩
 gB:=λb xs q=>by rw[ai (a8 q hn)];exact q
 fY:=λb u xs q=>by rw[ai (a8 q hn)];exact q
 gC:=λb ps q=>⟨#[],by rw[ai (a8 q hn),q];simp⟩
def Un.write(mu:tO (H x))(he:e=x\/H e=some (.own x))(k:∀b u,b≠e->h.get? b=some u->h'.get? b=some u)(nO:∃u,h'.get? e=some u):Un fs ex H (upd H x o) h h':=by
 have hx:∀b,H b=none->b≠x:=λb n z=>by subst z;rw[n]at mu;exact mu
 have hb:∀b,H b=none->b≠e:=λb n z=>by
  subst z;rcases he with r|r
  ·exact hx b n r
  ·rw[n]at r;cases r
 have hm:∀b u,H b=some u->¬tO (some u)->b≠x:=λb u q nm z=>by subst z;rw[q]at mu;exact nm mu
 refine⟨λb u q n _ _=>k b u (hb b n) q,λb u q n _ _=>⟨u.slots,k b u (hb b n) q⟩,λb u q n _=>by rw[ai (hx b n)];exact n,λb u q _=>?_,
  λb xs q=>by rw[ai (hm b _ q λz=>z)];exact q,λb u xs q=>by rw[ai (hm b _ q λz=>z)];exact q,λb ps q=>⟨#[],by rw[ai (hm b _ q λz=>z),q];simp⟩⟩
 by_cases pj:b=e
 ·subst pj;exact nO
 ·exact⟨u,k b u pj q⟩
end
def iz(h:Heap)(H:Hp):List Addr:=(List.range h.objs.size).filter λa=>(H a).isSome
def lP(h:Heap)(H:Hp):Heap:=PySem.W.hideAll h (iz h H)
def Ul(h:Heap)(H:Hp):(lP h H).objs.size=h.objs.size:=PySem.W.hideAll_size _ _
def Wo{h:Heap}{H:Hp}{b:Addr}{o:Obj}(e:h.get? b=some o)(n:H b=none):(lP h H).get? b=some o:=
 PySem.W.hideAll_get _ e λhm=>by
  have q:(H b).isSome=true:=(ZT.mp hm).2;rw[n]at q;simp at q
def Yv{h:Heap}{H:Hp}{b:Addr}{o:Obj}(e:(lP h H).get? b=some o):h.get? b=some o/\H b=none:=by
 have e':h.get? b=some o:=PySem.W.of_hideAll (iz h H) e;refine⟨e',?_⟩;cases q:H b with
 |none=>rfl
 |some x=>
  have hm:b∈iz h H:=ZT.mpr ⟨ZU.mpr (Zi e'),by simp[q]⟩;have z:(lP h H).get? b=none:=PySem.W.hideAll_none (iz h H) hm;rw[z]at e;cases e
structure Mod(K:PySem.W.Frag)(mg:Str->Option Value)(base:Heap):Prop where
 pw:K.In base
 glob:base.Ns mainGlobals mg
 blt:∃mb,base.Ns builtinsNs mb/\∀x:Str,x≠"__name__"->mb x=bootBuiltins x
 nolimit:base.NoLimit
structure Cx where
 prog:Program
 w:World
 K:PySem.W.Frag
 mg:Str->Option Value
 base:Heap
 A:Around
 N:List Str
 s₀:Shared
 H₀:Hp
 env:Env
 outer:List Env
 stack:List Env
 ex:List Addr
 fn:Str->Bool
 calm:Bool
 pn:List (Addr×Obj)
 xe:Value->Shared->Prop
def bW(l:List Env):List Addr:=l.filterMap (·.frame)
abbrev Cx.fs(X:Cx):List Addr:=bW X.outer
def wK(sc:Scope)(x:Str):Prop:=sc.names.lookup x=some .local\/sc.names.lookup x=some .cell\/sc.names.lookup x=some .free
def Loc(sc:Scope)(x:Str):Prop:=sc.names.lookup x=some .local\/sc.names.lookup x=some .cell
def Look(env:Env)(h:Heap)(m:Str->Option Value)(x:Str)(u:Value):Prop:=
 (env.kindOf x=some .local/\m x=some u)\/((env.kindOf x=some .cell\/env.kindOf x=some .free)/\∃c,env.cells.lookup x=some c/\h.IsCell c (some u))
structure Cx.Ok(X:Cx):Prop where
 mod:Mod X.K X.mg X.base
 kind:X.env.scope.kind=.function
 glob:X.env.globals=mainGlobals
 blt:X.env.builtins=builtinsNs
 above:X.s₀.heap.objs.size<=X.env.locals
 inj:∀x y c,X.env.cells.lookup x=some c->X.env.cells.lookup y=some c->x=y
 has:∀x,(X.env.kindOf x=some .cell\/X.env.kindOf x=some .free)->∃c,X.env.cells.lookup x=some c
 cab:∀x c,X.fn x=true->X.env.cells.lookup x=some c->X.s₀.heap.objs.size<=c
 hd:X.calm=true->X.A.handled=none
 frames:X.A.frames=some X.stack
 tP:X.stack=X.outer\/(X.stack=X.env::X.outer/\X.env.frame=some X.env.locals)
 Cv:∀b∈X.ex,b≠X.env.locals/\∀x c,X.env.cells.lookup x=some c->c≠b
 bs:∀b o,X.base.get? b=some o->X.s₀.heap.get? b=some o/\X.H₀ b=none
 iW:X.base.objs.size<=X.s₀.heap.objs.size
 kL:∀b o,X.base.get? b=some o->b∉X.ex
 tG:∀b∈X.ex,b∉X.fs
 gX:X.s₀.heap.FunFrames X.base X.outer
 nP:∀b∈X.fs,X.H₀ b=none
structure Inv(X:Cx)(pins:List (Addr×Obj))(σ:List (Option V))(H:Hp)(s:Shared):Prop where
 ok:X.Ok
 os:s.os=X.s₀.os
 bare:AllBare s.gens
 base:Un X.fs X.ex X.H₀ H X.s₀.heap s.heap
 loc:∃m,s.heap.Ns X.env.locals m/\∀(i:Nat) (x:Str) (v:V),X.N[i]?=some x->σ[i]?=some (some v)->wK X.env.scope x->∃u,RelV v u/\Look X.env s.heap m x u
 cell:∀x c,X.env.cells.lookup x=some c->∃v,s.heap.IsCell c v
 free:H X.env.locals=none
 fj:∀x c,X.env.cells.lookup x=some c->H c=none
 pin:∀p∈X.pn++pins,s.heap.get? p.1=some p.2/\H p.1=none/\p.1≠X.env.locals/\p.1∉X.fs/\∀v,p.2.data≠.cell v
 ao:bK X.prog X.w H s.heap
 len:σ.length=X.N.length
section
variable {X:Cx}{pins:List (Addr×Obj)}{σ:List (Option V)}{H H':Hp}{s:Shared}{h':Heap}
def Cx.Ok.ads(ok:X.Ok){b:Addr}{o:Obj}(e:X.base.get? b=some o):b∉X.fs:=λhb=>by
 have:=(ok.gX.mem hb).1;rw[e]at this;cases this
def Inv.bs(I:Inv X pins σ H s):∀b o,X.base.get? b=some o->s.heap.get? b=some o/\H b=none:=λb o e=>
 ⟨I.base.keep b o (I.ok.bs b o e).1 (I.ok.bs b o e).2 (I.ok.ads e) (I.ok.kL b o e),I.base.free b o (I.ok.bs b o e).1 (I.ok.bs b o e).2 (I.ok.kL b o e)⟩
def Inv.bk(I:Inv X pins σ H s):∀b o,X.base.get? b=some o->s.heap.get? b=some o:=λb o e=>(I.bs b o e).1
def Inv.mod(I:Inv X pins σ H s):Mod X.K X.mg X.base:=I.ok.mod
def Inv.cR(I:Inv X pins σ H s):X.K.In s.heap:=I.ok.mod.pw.keeps I.bk
def Inv.lt(I:Inv X pins σ H s):X.env.locals<s.heap.objs.size:=let⟨_,hn,_⟩:=I.loc;hn.lt
def Inv.sz(I:Inv X pins σ H s):X.s₀.heap.objs.size<=s.heap.objs.size:=ZQ I.ok.above (Z1 I.lt)
def Inv.adt(I:Inv X pins σ H s){a:Addr}(h:s.heap.objs.size<=a):a∉X.fs:=λhb=>by
 obtain⟨_,o,ho,_⟩:=I.ok.gX.mem hb;exact absurd (Zv (Zi ho) (ZQ I.sz h)) (Z2 _)
def Inv.pA(I:Inv X pins σ H s):∀x c,X.env.cells.lookup x=some c->c≠X.env.locals:=λx c e z=>by
 obtain⟨v,o,ho,hd⟩:=I.cell x c e;obtain⟨m,⟨o',es,ep,fm,Cw,_⟩,_⟩:=I.loc;rw[z,fm]at ho;cases ho;rw[Cw]at hd;cases hd
def Inv.gX(I:Inv X pins σ H s):s.heap.FunFrames X.base X.outer:=by
 have all:∀(l:List Env),(∀b∈bW l,b∈X.fs)->X.s₀.heap.FunFrames X.base l->s.heap.FunFrames X.base l:=by
  intro l
  induction l with
  |nil=>intro _ _;trivial
  |cons env r ih=>
   intro hs hl;obtain⟨hk,⟨L,o,hf,hn,ho,hd⟩,hr⟩:=hl;have hL:L∈X.fs:=hs L (by unfold bW;rw[List.filterMap_cons,hf];exact Y9);obtain⟨sl,e⟩:=I.base.slot L o ho (I.ok.nP L hL) hL λz=>I.ok.tG L z hL;exact⟨hk,⟨L,_,hf,hn,e,hd⟩,ih (λb hb=>hs b (by unfold bW;rw[List.filterMap_cons,hf];exact Y4 _ hb)) hr⟩
 exact all X.outer (λ_ hb=>hb) I.ok.gX
def Inv.stack(I:Inv X pins σ H s):s.heap.FunFrames X.base X.stack:=by
 rcases I.ok.tP with e|⟨e,hf⟩
 ·rw[e];exact I.gX
 ·rw[e];obtain⟨m,hn,_⟩:=I.loc;refine .cons (by rw[I.ok.kind];decide) hf hn ?_ I.gX;exact Heap.get?_none_of_le (ZQ I.ok.iW I.ok.above)
def Inv.kE(I:Inv X pins σ H s):∀b∈bW X.stack,b∈X.env.locals::X.fs:=λb hb=>by
 rcases I.ok.tP with e|⟨e,hf⟩
 ·rw[e]at hb;exact Y4 _ hb
 ·rw[e]at hb;unfold bW at hb;rw[List.filterMap_cons,hf]at hb;exact hb
def Inv.oH(I:Inv X pins σ H s):∀b∈bW X.stack,H b=none:=λb hb=>by
 rcases Y5.mp (I.kE b hb)with e|hb
 ·rw[e];exact I.free
 ·obtain⟨_,o,ho,_⟩:=I.ok.gX.mem hb;exact I.base.free b o ho (I.ok.nP b hb) λz=>I.ok.tG b z hb
def Inv.step{g':Array GenState}{t':Nat}{d':Drawn}{ch:List Addr}(I:Inv X pins σ H s)
  (kP:∀b∈ch,(b∈X.ex\/X.s₀.heap.objs.size<=b)/\b≠X.env.locals/\(∀x c,X.env.cells.lookup x=some c->c≠b)/\∀p∈X.pn++pins,p.1≠b)
  (keep:∀b o,b≠X.env.locals->b∉X.fs->b∉ch->s.heap.get? b=some o->H b=none->h'.get? b=some o)
  (slot:∀b o,b≠X.env.locals->b∈X.fs->b∉ch->s.heap.get? b=some o->H b=none->∃sl,h'.get? b=some {o with slots:=sl})(free:∀b o,b∉ch->s.heap.get? b=some o->H b=none->H' b=none)
  (there:∀b o,b∉ch->s.heap.get? b=some o->∃o',h'.get? b=some o')
  (gB:∀b xs,H b=some (.tup xs)->H' b=some (.tup xs))(fY:∀b o u,H b=some (.c5 o u)->H' b=some (.c5 o u))(gC:∀b ps,H b=some (.nN ps)->∃more,H' b=some (.nN (ps++more)))
  (ns:∀m,s.heap.Ns X.env.locals m->h'.Ns X.env.locals m)(ao:bK X.prog X.w H' h')(hg:AllBare g'):
  Inv X pins σ H' {s with heap:=h',gens:=g',drawn:=d',toks:=t'}:=by
 have Oz:∀b o,X.s₀.heap.get? b=some o->b≠X.env.locals:=λb o e=>Zn (Zv (Zi e) I.ok.above)
 have wL:∀b o,X.s₀.heap.get? b=some o->b∉X.ex->b∉ch:=λb o e hx hb=>by
  rcases(kP b hb).1 with z|z
  ·exact hx z
  ·exact absurd (Zv (Zi e) z) (Z2 _)
 have cellK:∀x c,X.env.cells.lookup x=some c->∀v,s.heap.IsCell c v->h'.IsCell c v:=λx c e v ⟨o,ho,hd⟩=>by
  have cp:c∉ch:=λz=>(kP c z).2.2.1 x c e rfl;by_cases hc:c∈X.fs
  ·obtain⟨sl,q⟩:=slot c o (I.pA x c e) hc cp ho (I.fj x c e);exact⟨_,q,hd⟩
  ·exact⟨o,keep c o (I.pA x c e) hc cp ho (I.fj x c e),hd⟩
 refine⟨I.ok,I.os,hg,⟨λb o e n hb hx=>?_,λb o e n hb hx=>?_,λb o e n hx=>?_,λb o e hx=>?_,λb xs e=>gB b xs (I.base.gB b xs e),λb o xs e=>fY b o xs (I.base.fY b o xs e),λb ps e=>?_⟩,?_,λx c e=>?_,?_,λx c e=>?_,λp hp=>?_,ao,I.len⟩
 ·exact keep b o (Oz b o e) hb (wL b o e hx) (I.base.keep b o e n hb hx) (I.base.free b o e n hx)
 ·obtain⟨sl,e1⟩:=I.base.slot b o e n hb hx;obtain⟨wM,e2⟩:=slot b _ (Oz b o e) hb (wL b o e hx) e1 (I.base.free b o e n hx);exact⟨wM,e2⟩
 ·obtain⟨o',e1⟩:=I.base.there b o e hx;exact free b o' (wL b o e hx) e1 (I.base.free b o e n hx)
 ·obtain⟨o',e1⟩:=I.base.there b o e hx;exact there b o' (wL b o e hx) e1
 ·obtain⟨m1,e1⟩:=I.base.gC b ps e;obtain⟨m2,e2⟩:=gC b _ e1;exact⟨m1++m2,by rw[e2,Array.append_assoc]⟩
 ·obtain⟨m,hn,hl⟩:=I.loc;refine⟨m,ns m hn,λi x v e1 e2 e3=>?_⟩;obtain⟨u,r,l⟩:=hl i x v e1 e2 e3;refine⟨u,r,?_⟩;rcases l with l|⟨k,c,e,z⟩
  ·exact .inl l
  ·exact .inr ⟨k,c,e,cellK x c e _ z⟩
 ·obtain⟨v,z⟩:=I.cell x c e;exact⟨v,cellK x c e v z⟩
 ·obtain⟨m,⟨o,_,_,ho,_⟩,_⟩:=I.loc;exact free _ o (λz=>(kP _ z).2.1 rfl) ho I.free
 ·obtain⟨v,o,ho,hd⟩:=I.cell x c e;exact free c o (λz=>(kP c z).2.2.1 x c e rfl) ho (I.fj x c e)
 ·obtain⟨e,n,ne,nf,d⟩:=I.pin p hp;have cp:p.1∉ch:=λz=>(kP p.1 z).2.2.2 p hp rfl;exact⟨keep p.1 p.2 ne nf cp e n,free p.1 p.2 cp e n,ne,nf,d⟩
def Inv.un{t':Nat}(I:Inv X pins σ H s)(u:Un X.fs [] H H' s.heap h')(ao:bK X.prog X.w H' h'):Inv X pins σ H' {s with heap:=h',toks:=t'}:=by
 obtain⟨m,⟨o,es,ep,ho,r⟩,_⟩:=id I.loc;obtain⟨sl,hL⟩:=u.any ho I.free (by simp)
 exact I.step (g':=s.gens) (d':=s.drawn) (ch:=[]) (λ_ z=>nomatch z) (λb o _ hb _ e n=>u.keep b o e n hb (by simp)) (λb o _ hb _ e n=>u.slot b o e n hb (by simp)) (λb o _ e n=>u.free b o e n (by simp)) (λb o _ e=>u.there b o e (by simp)) u.gB u.fY u.gC (λm' hm=>by
  obtain⟨o',es',kQ,fm,r'⟩:=hm;rw[ho]at fm;cases fm;exact⟨_,es',kQ,hL,r'⟩) ao I.bare
def Inv.call{g':Array GenState}{t':Nat}{d':Drawn}{ch:List Addr}(I:Inv X pins σ H s)(u:Un (bW X.stack) ch H H' s.heap h')(ao:bK X.prog X.w H' h')(hg:AllBare g')
  (kP:∀b∈ch,(b∈X.ex\/X.s₀.heap.objs.size<=b)/\b≠X.env.locals/\(∀x c,X.env.cells.lookup x=some c->c≠b)/\∀p∈X.pn++pins,p.1≠b):
  Inv X pins σ H' {s with heap:=h',gens:=g',drawn:=d',toks:=t'}:=by
 obtain⟨m,⟨o,es,ep,ho,r⟩,_⟩:=id I.loc;obtain⟨sl,hL⟩:=u.any ho I.free λz=>(kP _ z).2.1 rfl
 exact I.step (ch:=ch) kP (λb o hL hb hc e n=>u.keep b o e n (λz=>(Y5.mp (I.kE b z)).elim hL hb) hc) (λb o _ _ hc e n=>u.any e n hc) (λb o hc e n=>u.free b o e n hc) (λb o hc e=>u.there b o e hc) u.gB u.fY u.gC (λm' hm=>by
  obtain⟨o',es',kQ,fm,r'⟩:=hm;rw[ho]at fm;cases fm;exact⟨_,es',kQ,hL,r'⟩) ao hg
def Inv.turned{t':Nat}{it:Addr}(I:Inv X pins σ H s)(k:∀b o,b≠it->s.heap.get? b=some o->h'.get? b=some o)(hn:H it=none)(hL:it≠X.env.locals)
  (h1:it∈X.ex\/X.s₀.heap.objs.size<=it)(h2:∀x c,X.env.cells.lookup x=some c->c≠it)(h3:∀p∈X.pn++pins,p.1≠it):Inv X pins σ H {s with heap:=h',toks:=t'}:=by
 have OA:∀b u,H b=some u->b≠it:=λb u e z=>by rw[z,hn]at e;cases e
 refine I.step (g':=s.gens) (d':=s.drawn) (ch:=[it]) (λb hb=>?_) (λb o _ _ hc e _=>k b o (λz=>hc (by simp[z])) e) (λb o _ _ hc e _=>⟨o.slots,k b o (λz=>hc (by simp[z])) e⟩) (λ_ _ _ _ n=>n)
  (λb o hc e=>⟨o,k b o (λz=>hc (by simp[z])) e⟩) (λ_ _ e=>e) (λ_ _ _ e=>e) (λb ps e=>⟨#[],by rw[e];simp⟩) (λm hm=>?_) (λb u e=>?_) I.bare
 ·have e:b=it:=by simpa using hb
  subst e;exact⟨h1,hL,h2,h3⟩
 ·obtain⟨o,es,ep,ho,r⟩:=hm;exact⟨o,es,ep,k _ o (Ne.symm hL) ho,r⟩
 ·refine(I.ao b u e).jv (λc v hc q=>k c v ?_ q) (λ_ q=>q) λ_ _ q=>q;rcases hc with z|z
  ·rw[z];exact OA b u e
  ·exact OA c _ z
def Inv.tok(I:Inv X pins σ H s)(t:Nat):Inv X pins σ H {s with toks:=t}:=I.un (h':=s.heap) (t':=t) Un.refl I.ao
def Inv.kept{t':Nat}(I:Inv X pins σ H s)(k:∀b u,s.heap.get? b=some u->h'.get? b=some u):Inv X pins σ H {s with heap:=h',toks:=t'}:=I.un (Un.kept k) (I.ao.kept k)
def Inv.laid{a:Addr}{o:HO}{t':Nat}(I:Inv X pins σ H s)(k:∀b u,s.heap.get? b=some u->h'.get? b=some u)(hp:s.heap.objs.size<=a)(new:bU X.prog X.w (upd H a o) h' a o):
  Inv X pins σ (upd H a o) {s with heap:=h',toks:=t'}:=I.un (Un.laid k hp (I.ao.fresh hp)) (I.ao.laid k hp new)
def Inv.write{x e:Addr}{o:HO}{t':Nat}(I:Inv X pins σ H s)(mu:tO (H x))(he:e=x\/H e=some (.own x))(k:∀b u,b≠e->s.heap.get? b=some u->h'.get? b=some u)(nO:∃u,h'.get? e=some u)
  (new:bU X.prog X.w (upd H x o) h' x o):Inv X pins σ (upd H x o) {s with heap:=h',toks:=t'}:=I.un (Un.write mu he k nO) (I.ao.write mu he k nO new)
def Inv.Kb{M5:List (Addr×Obj)}(I:Inv X pins σ H s)(h:∀p∈M5,s.heap.get? p.1=some p.2/\H p.1=none/\p.1≠X.env.locals/\p.1∉X.fs/\∀v,p.2.data≠.cell v):Inv X M5 σ H s:=
 ⟨I.ok,I.os,I.bare,I.base,I.loc,I.cell,I.free,I.fj,λp hp=>(Y7.mp hp).elim (λz=>I.pin p (Zc _ z)) (h p),I.ao,I.len⟩
def Jb{N:List Str}(hN:N.Nodup){i j:Nat}{x:Str}(a:N[i]?=some x)(b:N[j]?=some x):i=j:=by
 obtain⟨h1,e1⟩:=ZL.mp a;obtain⟨h2,e2⟩:=ZL.mp b;exact(List.getElem_inj hN).mp (e1.trans e2.symm)
def Hs{M:Model}{A:Around}{E:Value->Shared->Prop}{i:Nat}{x:Str}{v:V}{u:Value}{Q:Unit->Shared->Prop}(I:Inv X pins σ H s)(hN:X.N.Nodup)(hi:X.N[i]?=some x)(hx:Loc X.env.scope x)(r:RelV v u)
  (h:∀s',Inv X pins (σ.set i (some v)) H s'->(∃a,Heap.SameBut a s.heap s'.heap/\(a=X.env.locals\/X.env.cells.lookup x=some a))->Q () s')(hf:X.fn x=true\/X.env.scope.names.lookup x=some .local:=by first|exact .inl rfl|exact .inr rfl|assumption):wpAny M A (storeName X.env x u) Q E s:=by
 obtain⟨m,hn,hl⟩:=id I.loc;have tH:(X.env.scope.kind==.class||(X.env.scope.kind==.module&&X.env.locals !=X.env.globals))=false:=by rw[I.ok.kind];rfl
 have OB:i<σ.length:=by rw[I.len];exact(ZL.mp hi).1
 have pA:=I.pA
 have tracked:∀{a:Addr}{h':Heap},(∃o,s.heap.get? a=some o/\H a=none)->Heap.SameBut a s.heap h'->bK X.prog X.w H h':=λ{a h'} ha hs b ob e=>by
  obtain⟨_,_,M6⟩:=ha;refine(I.ao b ob e).jv (λc w' hc q=>(hs.2 c ?_).trans q) (λ_ q=>q) λ_ _ q=>q;rintro rfl;rcases hc with rfl|hc
  ·rw[M6]at e;cases e
  ·rw[M6]at hc;cases hc
 rcases hx with hk|hk
 ·refine wpAny_storeName_local hk hn (λh' hn' hs=>?_) tH;obtain⟨oL,_,_,hoL,_⟩:=id hn;refine h _ ⟨I.ok,I.os,I.bare,⟨λb o e n hb hx=>?_,λb o e n hb hx=>?_,I.base.free,λb o e hx=>?_,I.base.gB,I.base.fY,I.base.gC⟩,⟨_,hn',λj y v' e1 e2 e3=>?_⟩,λy c e=>?_,I.free,I.fj,λp hp=>?_,tracked ⟨oL,hoL,I.free⟩ hs,by simpa using I.len⟩ ⟨_,hs,.inl rfl⟩
  ·exact(hs.2 b (Zn (Zv (Zi e) I.ok.above))).trans (I.base.keep b o e n hb hx)
  ·obtain⟨sl,e1⟩:=I.base.slot b o e n hb hx;exact⟨sl,(hs.2 b (Zn (Zv (Zi e) I.ok.above))).trans e1⟩
  ·obtain⟨o',e1⟩:=I.base.there b o e hx;exact⟨o',(hs.2 b (Zn (Zv (Zi e) I.ok.above))).trans e1⟩
  ·by_cases hj:j=i
   ·subst hj;rw[hi]at e1;cases e1;rw[List.getElem?_set_self OB]at e2;cases e2;exact⟨u,r,.inl ⟨hk,by simp⟩⟩
   ·rw[List.getElem?_set_ne (Ne.symm hj)]at e2;obtain⟨u',r',q⟩:=hl j y v' e1 e2 e3;refine⟨u',r',?_⟩;rcases q with⟨k,e⟩|⟨k,c,e,z⟩
    ·refine .inl ⟨k,?_⟩;have:y≠x:=λe=>hj (Jb hN e1 (e▸hi));simp[this,e]
    ·exact .inr ⟨k,c,e,z.sameBut hs (pA y c e)⟩
  ·obtain⟨w',z⟩:=I.cell y c e;exact⟨w',z.sameBut hs (pA y c e)⟩
  ·obtain⟨e,n,ne,nf,d⟩:=I.pin p hp;exact⟨(hs.2 p.1 ne).trans e,n,ne,nf,d⟩
 ·have tQ:X.fn x=true:=by
   rcases hf with z|z
   ·exact z
   ·rw[z]at hk;cases hk
  obtain⟨c,hc⟩:=I.ok.has x (.inl hk);obtain⟨w',z⟩:=I.cell x c hc;refine wpAny_storeName_cell I.ok.kind hk hc z (λh' dQ hs=>?_);obtain⟨oc,bX,adu⟩:=id z;refine h {s with heap:=h'} ⟨I.ok,I.os,I.bare,⟨λb o e n hb hx=>?_,λb o e n hb hx=>?_,I.base.free,λb o e hx=>?_,I.base.gB,I.base.fY,I.base.gC⟩,⟨m,hn.sameBut hs (Ne.symm (pA x c hc)),λj y v' e1 e2 e3=>?_⟩,λy c' e=>?_,I.free,I.fj,λp hp=>?_,tracked ⟨oc,bX,I.fj x c hc⟩ hs,by simpa using I.len⟩ ⟨c,hs,.inr hc⟩
  ·exact(hs.2 b (Zn (Zv (Zi e) (I.ok.cab x c tQ hc)))).trans (I.base.keep b o e n hb hx)
  ·obtain⟨sl,e1⟩:=I.base.slot b o e n hb hx;exact⟨sl,(hs.2 b (Zn (Zv (Zi e) (I.ok.cab x c tQ hc)))).trans e1⟩
  ·obtain⟨o',e1⟩:=I.base.there b o e hx;exact⟨o',(hs.2 b (Zn (Zv (Zi e) (I.ok.cab x c tQ hc)))).trans e1⟩
  ·by_cases hj:j=i
   ·subst hj;rw[hi]at e1;cases e1;rw[List.getElem?_set_self OB]at e2;cases e2;exact⟨u,r,.inr ⟨.inl hk,c,hc,dQ⟩⟩
   ·rw[List.getElem?_set_ne (Ne.symm hj)]at e2;obtain⟨u',r',q⟩:=hl j y v' e1 e2 e3;refine⟨u',r',?_⟩;rcases q with q|⟨k,c',e,z'⟩
    ·exact .inl q
    ·refine .inr ⟨k,c',e,z'.sameBut hs ?_⟩;rintro rfl;exact hj (Jb hN e1 (I.ok.inj _ _ _ e hc▸hi))
  ·by_cases qL:c'=c
   ·subst qL;exact⟨_,dQ⟩
   ·obtain⟨w2,z2⟩:=I.cell y c' e;exact⟨w2,z2.sameBut hs qL⟩
  ·obtain⟨e,n,ne,nf,d⟩:=I.pin p hp;refine⟨(hs.2 p.1 ?_).trans e,n,ne,nf,d⟩;intro q;rw[q,bX]at e;have q':oc=p.2:=Zg e;exact d w' (by rw[<-q'];exact adu)
def lF{M:Model}{A:Around}{E:Value->Shared->Prop}{i:Nat}{x:Str}{v:V}{u:Value}{Q:Unit->Shared->Prop}(I:Inv X pins σ H s)(hN:X.N.Nodup)(hi:X.N[i]?=some x)(hx:Loc X.env.scope x)(r:RelV v u)
  (h:∀s',Inv X pins (σ.set i (some v)) H s'->Q () s')(hf:X.fn x=true\/X.env.scope.names.lookup x=some .local:=by first|exact .inl rfl|exact .inr rfl|assumption):wpAny M A (storeName X.env x u) Q E s:=
 Hs I hN hi hx r (λs' I' _=>h s' I') hf
def Inv.nu{s':Shared}{ch:List Addr}(I:Inv X pins σ H s)(ho:s'.os=s.os)(u:Un (bW X.stack) ch H H' s.heap s'.heap)(ao:bK X.prog X.w H' s'.heap)(hg:AllBare s'.gens)
  (kP:∀b∈ch,(b∈X.ex\/X.s₀.heap.objs.size<=b)/\b≠X.env.locals/\(∀x c,X.env.cells.lookup x=some c->c≠b)/\∀p∈X.pn++pins,p.1≠b):Inv X pins σ H' s':=by
 obtain⟨h',g',d',t',o'⟩:=s';have e:o'=s.os:=ho;subst e;exact I.call (g':=g') (t':=t') (d':=d') u ao hg kP
end
abbrev XK:=Value->Option Addr->Hp->Prop
abbrev St:=List (Option V)
abbrev VK:=V->Hp->Prop
abbrev TE:=St->Hp->VK->Prop
abbrev TT:=St->Hp->(Bool->Hp->Prop)->Prop
abbrev TA:=St->Hp->(List V->Hp->Prop)->Prop
structure Ends where
 nx:St->Hp->Prop
 rt:VK
 bk:St->Hp->Prop:=λ_ _=>False
 ct:St->Hp->Prop:=λ_ _=>False
abbrev TS:=Ends->St->Hp->Prop
def EP(X:Cx)(pins:List (Addr×Obj))(σ:St)(Q:VK)(u:Value)(s':Shared):Prop:=∃v H',Inv X pins σ H' s'/\RelV v u/\Q v H'
def TP(X:Cx)(pins:List (Addr×Obj))(σ:St)(Q:Bool->Hp->Prop)(b:Bool)(s':Shared):Prop:=∃H',Inv X pins σ H' s'/\Q b H'
def AP(X:Cx)(pins:List (Addr×Obj))(σ:St)(Q:List V->Hp->Prop)(us:List Value)(s':Shared):Prop:=∃vs H',Inv X pins σ H' s'/\Vals vs us/\Q vs H'
def SP(X:Cx)(pins:List (Addr×Obj))(D:Ends)(f:Flow)(s':Shared):Prop:=
 match f with
 |.next=>∃σ' H',Inv X pins σ' H' s'/\D.nx σ' H'
 |.brk=>∃σ' H',Inv X pins σ' H' s'/\D.bk σ' H'
 |.cont=>∃σ' H',Inv X pins σ' H' s'/\D.ct σ' H'
 |.ret u=>∃v σ' H',Inv X pins σ' H' s'/\RelV v u/\D.rt v H'
def PE(X:Cx)(e:Expr)(t:TE):Prop:=
 ∀(pins:List (Addr×Obj)) (s:Shared) (σ:St) (H:Hp) (Q:VK),Inv X pins σ H s->t σ H Q->wpAny (model X.prog X.w) X.A (eval e X.env) (EP X pins σ Q) X.xe s
def PT(X:Cx)(e:Expr)(t:TT):Prop:=
 ∀(pins:List (Addr×Obj)) (s:Shared) (σ:St) (H:Hp) (Q:Bool->Hp->Prop),Inv X pins σ H s->t σ H Q->wpAny (model X.prog X.w) X.A (isTrue e X.env (eval e X.env)) (TP X pins σ Q) X.xe s
def PW(X:Cx)(e:Expr)(t:TT):Prop:=
 ∀(whole:Sem Value) (pins:List (Addr×Obj)) (s:Shared) (σ:St) (H:Hp) (Q:Bool->Hp->Prop),Inv X pins σ H s->t σ H Q->wpAny (model X.prog X.w) X.A (isTrue e X.env whole) (TP X pins σ Q) X.xe s
def PW.pt{X:Cx}{e:Expr}{t:TT}(h:PW X e t):PT X e t:=h _
def PA(X:Cx)(es:List Expr)(t:TA):Prop:=
 ∀(pos:Pos) (pins:List (Addr×Obj)) (s:Shared) (σ:St) (H:Hp) (Q:List V->Hp->Prop),Inv X pins σ H s->t σ H Q->wpAny (model X.prog X.w) X.A (spliced (backTo pos (starEach es X.env))) (AP X pins σ Q) X.xe s
def PS(X:Cx)(st:Stmt)(t:TS):Prop:=
 ∀(pins:List (Addr×Obj)) (s:Shared) (σ:St) (H:Hp) (D:Ends),Inv X pins σ H s->t D σ H->wpAny (model X.prog X.w) X.A (exec st X.env) (SP X pins D) X.xe s
def dg(X:Cx)(st:List Stmt)(t:TS):Prop:=
 ∀(pins:List (Addr×Obj)) (s:Shared) (σ:St) (H:Hp) (D:Ends),Inv X pins σ H s->t D σ H->wpAny (model X.prog X.w) X.A (execs st X.env) (SP X pins D) X.xe s
def aA{α:Type}{t:Sem α}{Q Q':α->Shared->Prop}{M:Model}{A:Around}{E:Value->Shared->Prop}{s:Shared}(h:wpAny M A t Q E s)(hQ:∀a s,Q a s->Q' a s):wpAny M A t Q' E s:=wpAny_mono h hQ λ_ _ x=>x
section
variable {X:Cx}
inductive LU(i:Nat)(σ:St)(H:Hp)(Q:VK):Prop
 |mk (v:_) (_:σ[i]?=some (some v)) (_:Q v H):LU i σ H Q
def iR(i:Nat):TE:=LU i
def tC(v:V):TE:=λ_ H Q=>Q v H
def abc{i:Nat}{x:Str}{pos:Pos}(hN:X.N[i]?=some x)(hv:wK X.env.scope x)(hd:(x==("__debug__":Str))=false:=by decide)(bS:(x==("__classdict__":Str))=false:=by decide):PE X (.Name x pos) (iR i):=by
 intro pins s σ H Q I h;obtain⟨v,e,h⟩:=h;obtain⟨m,hn,hl⟩:=I.loc;obtain⟨u,r,l⟩:=hl i x v hN e hv;have fin:EP X pins σ Q u s:=⟨v,H,I,r,h⟩;rcases l with⟨hk,hm⟩|⟨hk,c,hc,gz⟩
 ·exact wpAny_Name (wpAny_loadName_local I.ok.kind hk hn hm fin) hd
 ·rcases hk with hk|hk
  ·exact wpAny_Name (wpAny_loadName_cell I.ok.kind hk hc gz fin) hd
  ·exact wpAny_Name (wpAny_loadName_free I.ok.kind hk hc gz fin bS) hd
def af{i j pos}:PE X (.Constant (.int i) j pos) (tC (.int i)):=λ_ _ _ H _ I h=>wpAny_Constant_int ⟨.int i,H,I.tok _,⟨_,rfl⟩,h⟩
def fH{b j pos}:PE X (.Constant (.bool b) j pos) (tC (.bl b)):=λ_ _ _ H _ I h=>Constant_bool ⟨.bl b,H,I,rfl,h⟩
def cU{j pos}:PE X (.Constant .none j pos) (tC .aH):=λ_ _ _ H _ I h=>Constant_none ⟨.aH,H,I,rfl,h⟩
def fT{x j pos}:PE X (.Constant (.str x) j pos) (tC (.str x)):=λ_ _ _ H _ I h=>Calls.Constant_str ⟨.str x,H,I.tok _,⟨_,rfl⟩,h⟩
def Gl(X:Cx)(x:Str):Prop:=X.env.kindOf x=some .globalImplicit
def sk{E:Value->Shared->Prop}{pins:List (Addr×Obj)}{s:Shared}{σ:St}{H:Hp}{x:Str}{u:Value}{pos:Pos}{Q:Value->Shared->Prop}(I:Inv X pins σ H s)(hg:Gl X x)(hm:X.mg x=some u)(h:Q u s)
  (hd:(x==("__debug__":Str))=false:=by decide):wpAny (model X.prog X.w) X.A (eval (.Name x pos) X.env) Q E s:=
 Calls.Name_function_global I.ok.kind hg (Calls.loadGlobal_global (by rw[I.ok.glob];exact I.mod.glob.keeps I.bk) hm h) hd
def oP{E:Value->Shared->Prop}{pins:List (Addr×Obj)}{s:Shared}{σ:St}{H:Hp}{x:Str}{u:Value}{pos:Pos}{Q:Value->Shared->Prop}(I:Inv X pins σ H s)(hg:Gl X x)(hm:X.mg x=none)(hv:bootBuiltins x=some u)(h:Q u s)
  (hn:x≠"__name__":=by decide)(hd:(x==("__debug__":Str))=false:=by decide):wpAny (model X.prog X.w) X.A (eval (.Name x pos) X.env) Q E s:=by
 obtain⟨mb,h1,h2⟩:=I.mod.blt;exact Calls.Name_function_global I.ok.kind hg (Calls.loadGlobal_builtin (by rw[I.ok.glob];exact I.mod.glob.keeps I.bk) hm (by rw[I.ok.blt];exact h1.keeps I.bk) ((h2 x hn).trans hv) h) hd
def jk{x:Str}{v:V}{u:Value}{pos:Pos}(hg:Gl X x)(hm:X.mg x=some u)(r:RelV v u)(hd:(x==("__debug__":Str))=false:=by decide):PE X (.Name x pos) (tC v):=
 λ_ _ _ H _ I h=>sk I hg hm ⟨v,H,I,r,h⟩ hd
def mW{x:Str}{v:V}{u:Value}{pos:Pos}(hg:Gl X x)(hm:X.mg x=none)(hv:bootBuiltins x=some u)(r:RelV v u)(hn:x≠"__name__":=by decide)(hd:(x==("__debug__":Str))=false:=by decide):PE X (.Name x pos) (tC v):=
 λ_ _ _ H _ I h=>oP I hg hm hv ⟨v,H,I,r,h⟩ hn hd
variable {a b:Expr}{ta tb:TE}{pos:Pos}
def PC(X:Cx)(op:CmpOp)(a b:Expr)(t:TE):Prop:=
 ∀(pins:List (Addr×Obj)) (s:Shared) (σ:St) (H:Hp) (Q:VK),Inv X pins σ H s->t σ H Q->
  wpAny (model X.prog X.w) X.A (eval a X.env) (λv s₁=>wpAny (model X.prog X.w) X.A (eval b X.env) (λu s₂=>wpAny (model X.prog X.w) X.A (compareOp op v u) (EP X pins σ Q) X.xe s₂) X.xe s₁) X.xe s
inductive Cy(Q:Bool->Hp->Prop)(x:V)(H1:Hp):Prop
 |mk (c:Bool) (_:x=.bl c) (_:Q c H1):Cy Q x H1
def tB(t:TE):TT:=λσ H Q=>t σ H λx H1=>Cy Q x H1
def AW{op:CmpOp}{t:TE}(h:PC X op a b t)(h1:behindInMarks op b=false:=by first|exact aeC _ (by decide) (by decide)|rfl):PT X (.Compare a [op] [b] pos) (tB t):=by
 intro pins s σ H Q I hw;refine wpAny_isTrue_Compare1 (aA (h pins s σ H _ I hw) λv s1 h1=>aA h1 λu s2 h2=>aA h2 λc s3 ⟨x,H1,I1,r1,q1⟩=>?_) h1;obtain⟨d,rfl,q⟩:=q1;cases r1;exact wpAny_truthy_bool ⟨H1,I1,q⟩
def gN{e:Expr}{t:TE}(h:PE X e t)(he:∀whole,isTrue e X.env whole=(do let v<-whole;standAt e.pos;holding [v] (truthy v)):=by intro _;rfl):PT X e (tB t):=by
 intro pins s σ H Q I hw;refine isTrue_plain (aA (h pins s σ H _ I hw) λv s1 ⟨x,H1,I1,r1,q1⟩=>?_) (he _);obtain⟨d,rfl,q⟩:=q1;cases r1;exact wpAny_truthy_bool ⟨H1,I1,q⟩
variable {tA wN:TT}{rest:List Expr}
def adv(t u:TT):TT:=λσ H Q=>t σ H λc H1=>if c=true then u σ H1 Q else Q false H1
def tOr(t u:TT):TT:=λσ H Q=>t σ H λc H1=>if c=true then Q true H1 else u σ H1 Q
def adw(t:TT):TT:=λσ H Q=>t σ H λc H1=>Q (!c) H1
def kA(ha:PT X a tA):PW X (.BoolOp .And [a] pos) tA:=by
 intro wh pins s σ H Q I h;refine isTrue_and (aA (ha pins s σ H Q I h) λc s1 e=>?_);cases c with
 |true=>exact isTrue_and_nil e
 |false=>exact e
def gv(ha:PT X a tA):PW X (.BoolOp .Or [a] pos) tA:=by
 intro wh pins s σ H Q I h;refine isTrue_or (aA (ha pins s σ H Q I h) λc s1 e=>?_);cases c with
 |false=>exact isTrue_or_nil e
 |true=>exact e
def kF(ha:PT X a tA)(hb:PW X (.BoolOp .And (b::rest) pos) wN):PW X (.BoolOp .And (a::b::rest) pos) (adv tA wN):=by
 intro wh pins s σ H Q I h;refine isTrue_and (aA (ha pins s σ H _ I h) λc s1 ⟨H1,I1,q1⟩=>?_);cases c with
 |true=>exact hb wh pins s1 σ H1 Q I1 q1
 |false=>exact⟨H1,I1,q1⟩
def fW(ha:PT X a tA)(hb:PW X (.BoolOp .Or (b::rest) pos) wN):PW X (.BoolOp .Or (a::b::rest) pos) (tOr tA wN):=by
 intro wh pins s σ H Q I h;refine isTrue_or (aA (ha pins s σ H _ I h) λc s1 ⟨H1,I1,q1⟩=>?_);cases c with
 |true=>exact⟨H1,I1,q1⟩
 |false=>exact hb wh pins s1 σ H1 Q I1 q1
def jN(ha:PT X a tA):PT X (.UnaryOp .Not a pos) (adw tA):=by
 intro pins s σ H Q I h;exact isTrue_not (ha pins s σ H (λc H1=>Q (!c) H1) I h)
def adx(ta tb:TE):TE:=λσ H Q=>ta σ H λx H1=>∃c,x=.bl c/\if c=true then Q (.bl true) H1 else tb σ H1 Q
def abd{op}{t:TE}(h:PE X a t):PE X (.BoolOp op [a] pos) t:=λpins s σ H Q I hw=>BoolOp_one (h pins s σ H Q I hw)
def acu(ha:PE X a ta)(hb:PE X (.BoolOp .Or (b::rest) pos) tb):PE X (.BoolOp .Or (a::b::rest) pos) (adx ta tb):=by
 intro pins s σ H Q I h;refine BoolOp_or (aA (ha pins s σ H _ I h) λv s1 ⟨x,H1,I1,r1,q1⟩=>?_);obtain⟨c,rfl,q1⟩:=q1;cases r1;refine wpAny_truthy_bool ?_;cases c with
 |false=>exact hb pins s1 σ H1 Q I1 q1
 |true=>exact⟨.bl true,H1,I1,rfl,q1⟩
def tIf(t:TT)(ta tb:TE):TE:=λσ H Q=>t σ H λc H1=>if c=true then ta σ H1 Q else tb σ H1 Q
def zN{c:Expr}(hc:PT X c tA)(ha:PE X a ta)(hb:PE X b tb):PE X (.IfExp c a b pos) (tIf tA ta tb):=by
 intro pins s σ H Q I h;refine wpAny_IfExp (aA (hc pins s σ H _ I h) λd s1 ⟨H1,I1,q1⟩=>?_);cases d with
 |true=>exact ha pins s1 σ H1 Q I1 q1
 |false=>exact hb pins s1 σ H1 Q I1 q1
end
def ah(K:PySem.W.Frag)(H:Hp)(a:Addr)(xs:List V):Prop:=
 Rd H a (.lst xs)\/
  ∃(o:Obj) (aj:Array Value) (n:Nat),K.lookup a=some o/\o.cls=.type "list"/\o.dict=none/\o.data=.seq aj n/\aj.size<=sizeLine/\Vals xs aj.toList
def aZ(K:PySem.W.Frag)(H:Hp)(a:Addr)(xs:List V):Prop:=
 Rd H a (.tup xs)\/
  ∃(o:Obj) (aj:Array Value) (n:Nat),K.lookup a=some o/\o.cls=.type "tuple"/\o.data=.seq aj n/\aj.size<=sizeLine/\Vals xs aj.toList
def ady:Value->Option V
 |.none=>some .aH
 |.bool b=>some (.bl b)
 |.int i _=>some (.int i)
 |.str x _=>some (.str x)
 |.bytes b _=>some (.iy b)
 |.float b _=>some (.ph b)
 |.ref a=>some (.ref a)
 |.type n=>some (.ty n)
 |_=>none
def RelV.abs{x:V}{u:Value}(r:RelV x u):ady u=some x:=by
 cases x with
 |aH=>cases r;rfl
 |bl _=>cases r;rfl
 |int _=>obtain⟨t,rfl⟩:=r;rfl
 |str _=>obtain⟨t,rfl⟩:=r;rfl
 |iy _=>obtain⟨t,rfl⟩:=r;rfl
 |ph _=>obtain⟨t,rfl⟩:=r;rfl
 |ref _=>cases r;rfl
 |ty _=>cases r;rfl
def RelV.inj{x y:V}{u:Value}(r:RelV x u)(q:RelV y u):x=y:=Zg (r.abs.symm.trans q.abs)
def Vals.inj:∀{xs ys:List V}{us:List Value},Vals xs us->Vals ys us->xs=ys
 |_,_,_,.nil,.nil=>rfl
 |_,_,_,.cons r t,.cons r' t'=>by rw[r.inj r',Vals.inj t t']
section
variable {X:Cx}{pins:List (Addr×Obj)}{σ:St}{H:Hp}{s:Shared}{a:Addr}{xs ys:List V}
def ah.of{K:PySem.W.Frag}(h:H a=some (.lst xs)):ah K H a xs:=.inl (.inl h)
def aZ.of{K:PySem.W.Frag}(h:H a=some (.tup xs)):aZ K H a xs:=.inl (.inl h)
def Inv.list(I:Inv X pins σ H s)(h:ah X.K H a xs):∃aj:List Value,Vals xs aj/\PlainL s.heap a aj.toArray/\xs.length<=sizeLine:=by
 rcases h with h|⟨o,aj,n,hk,hc,hd,hs,hz,r⟩
 ·obtain⟨z,aj,n,r,e⟩:=h.ok I.ao;exact⟨aj,r,⟨_,n,e,rfl,rfl,rfl⟩,z⟩
 ·refine⟨aj.toList,r,⟨o,n,I.cR a o hk,hc,hd,by simpa using hs⟩,?_⟩;have e:=r.length;simp only[Array.length_toList]at e;omega
def Inv.tuple(I:Inv X pins σ H s)(h:aZ X.K H a xs):∃aj:List Value,Vals xs aj/\IsTup s.heap a aj.toArray/\xs.length<=sizeLine:=by
 rcases h with h|⟨o,aj,n,hk,hc,hs,hz,r⟩
 ·obtain⟨z,aj,r,p⟩:=h.ok I.ao;exact⟨aj,r,p,z⟩
 ·refine⟨aj.toList,r,⟨o,I.cR a o hk,hc,n,by simpa using hs⟩,?_⟩;have e:=r.length;simp only[Array.length_toList]at e;omega
def Inv.Jc(I:Inv X pins σ H s)(h:ah X.K H a xs)(h':ah X.K H a ys):xs=ys:=by
 obtain⟨aj,r,⟨o,n,e,_,_,d⟩,_⟩:=I.list h;obtain⟨its',r',⟨o',n',e',_,_,d'⟩,_⟩:=I.list h';rw[e]at e';cases e';rw[d]at d';injection d' with d1 _
 have:aj=its':=by simpa using congrArg Array.toList d1
 subst this;exact r.inj r'
def Inv.Um(I:Inv X pins σ H s)(h:aZ X.K H a xs)(h':aZ X.K H a ys):xs=ys:=by
 obtain⟨aj,r,⟨o,e,_,n,d⟩,_⟩:=I.tuple h;obtain⟨its',r',⟨o',e',_,n',d'⟩,_⟩:=I.tuple h';rw[e]at e';cases e';rw[d]at d';injection d' with d1 _
 have:aj=its':=by simpa using congrArg Array.toList d1
 subst this;exact r.inj r'
end
abbrev Cx.cQ(X:Cx)(E:Value->Shared->Prop):Cx:={X with xe:=E}
abbrev Cx.gG(X:Cx):Cx:=X.cQ λ_ _=>False
def Cx.Ok.cQ{X:Cx}(ok:X.Ok)(E:Value->Shared->Prop):(X.cQ E).Ok:=
 ⟨ok.mod,ok.kind,ok.glob,ok.blt,ok.above,ok.inj,ok.has,ok.cab,ok.hd,ok.frames,ok.tP,ok.Cv,ok.bs,ok.iW,ok.kL,ok.tG,ok.gX,ok.nP⟩
def Cx.Ok.gw{X:Cx}{E:Value->Shared->Prop}(ok:(X.cQ E).Ok):X.Ok:=
 ⟨ok.mod,ok.kind,ok.glob,ok.blt,ok.above,ok.inj,ok.has,ok.cab,ok.hd,ok.frames,ok.tP,ok.Cv,ok.bs,ok.iW,ok.kL,ok.tG,ok.gX,ok.nP⟩
section
variable {X:Cx}{pins:List (Addr×Obj)}{σ:St}{H:Hp}{s:Shared}{E:Value->Shared->Prop}
def Inv.cQ(I:Inv X pins σ H s)(E:Value->Shared->Prop):Inv (X.cQ E) pins σ H s:=⟨I.ok.cQ E,I.os,I.bare,I.base,I.loc,I.cell,I.free,I.fj,I.pin,I.ao,I.len⟩
def Inv.gw(I:Inv (X.cQ E) pins σ H s):Inv X pins σ H s:=⟨I.ok.gw,I.os,I.bare,I.base,I.loc,I.cell,I.free,I.fj,I.pin,I.ao,I.len⟩
def SP.gw{D:Ends}{f:Flow}{s':Shared}(h:SP (X.cQ E) pins D f s'):SP X pins D f s':=by
 cases f with
 |next=>obtain⟨σ',H',I,q⟩:=h;exact⟨σ',H',I.gw,q⟩
 |brk=>obtain⟨σ',H',I,q⟩:=h;exact⟨σ',H',I.gw,q⟩
 |cont=>obtain⟨σ',H',I,q⟩:=h;exact⟨σ',H',I.gw,q⟩
 |ret u=>obtain⟨v,σ',H',I,r,q⟩:=h;exact⟨v,σ',H',I.gw,r,q⟩
def dg.gG{st:List Stmt}{t:TS}(h:dg X.gG st t):dg X st t:=λpins s σ H D I hw=>
 wpAny_mono (h pins s σ H D (I.cQ _) hw) (λ_ _ q=>q.gw) λ_ _ z=>Zu z
end
section
variable {X:Cx}{st:Stmt}{rest:List Stmt}{t u:TS}{e:Expr}{te:TE}{pos:Pos}
def acv:TS:=λD σ H=>D.nx σ H
def qE(t u:TS):TS:=λD σ H=>t {D with nx:=u D} σ H
def aU:dg X [] acv:=λ_ _ σ H _ I h=>wpAny_execs_nil ⟨σ,H,I,h⟩
def a9(h1:PS X st t)(h2:dg X rest u):dg X (st::rest) (qE t u):=by
 intro pins s σ H D I h;refine wpAny_execs_cons (aA (h1 pins s σ H {D with nx:=u D} I h) λf s1 q=>?_);cases f with
 |next=>
  obtain⟨σ',H',I',q⟩:=q;exact h2 pins s1 σ' H' D I' q
 |ret v=>exact q
 |brk=>exact q
 |cont=>exact q
def a7(h1:PS X st t):dg X [st] t:=by
 intro pins s σ H D I h;refine wpAny_execs_cons (aA (h1 pins s σ H D I h) λf s1 q=>?_);cases f with
 |next=>exact wpAny_execs_nil q
 |ret v=>exact q
 |brk=>exact q
 |cont=>exact q
def acw:TS:=λD σ H=>D.ct σ H
def Sl:PS X (.Continue pos) acw:=λ_ _ σ H _ I h=>wpAny_Continue ⟨σ,H,I,h⟩
def Inv.quiet{pins:List (Addr×Obj)}{σ:St}{H:Hp}{s:Shared}(I:Inv X pins σ H s):interactive X.env=false:=by simp[interactive,I.ok.kind]
def M7(te:TE):TS:=λD σ H=>te σ H λ_ H1=>D.nx σ H1
def bA(he:PE X e te)(hs:swapsWith e none pos.line X.env=pure false:=by rfl):PS X (.Expr e pos) (M7 te):=by
 intro pins s σ H D I h;exact wpAny_Expr_any (aA (he pins s σ H _ I h) λv s1 ⟨x,H1,I1,r1,q1⟩=>⟨σ,H1,I1,q1⟩) I.quiet hs
def NK(te:TE):TS:=λD σ H=>te σ H D.rt
def fF(he:PE X e te):PS X (.Return (some e) pos) (NK te):=by
 intro pins s σ H D I h;exact wpAny_Return_some (aA (he pins s σ H _ I h) λv s1 ⟨x,H1,I1,r1,q1⟩=>⟨x,σ,H1,I1,r1,q1⟩)
def NL(c:TT)(t u:TS):TS:=λD σ H=>c σ H λb H1=>if b=true then t D σ H1 else u D σ H1
def aR{c:Expr}{a b:List Stmt}{tc:TT}(hc:PT X c tc)(ha:dg X a t)(hb:dg X b u):PS X (.If c a b pos) (NL tc t u):=by
 intro pins s σ H D I h;refine wpAny_If (aA (hc pins s σ H _ I h) λd s1 ⟨H1,I1,q1⟩=>?_);cases d with
 |true=>exact ha pins s1 σ H1 D I1 q1
 |false=>exact hb pins s1 σ H1 D I1 q1
def abe:TS:=λ_ _ _=>False
def mU:PS X st abe:=λ_ _ _ _ _ _ h=>h.elim
end
abbrev TG:=V->St->Hp->(St->Hp->Prop)->Prop
abbrev nQ:=List V->St->Hp->(St->Hp->Prop)->Prop
def PG(X:Cx)(target:Expr)(t:TG):Prop:=
 ∀(pins:List (Addr×Obj)) (s:Shared) (σ:St) (H:Hp) (v:V) (u:Value) (Q:St->Hp->Prop),Inv X pins σ H s->RelV v u->t v σ H Q->
  wpAny (model X.prog X.w) X.A (assign target X.env u) (λ_ s'=>∃σ' H',Inv X pins σ' H' s'/\Q σ' H') X.xe s
def tR(X:Cx)(ts:List Expr)(t:nQ):Prop:=
 ∀(pins:List (Addr×Obj)) (s:Shared) (σ:St) (H:Hp) (vs:List V) (us:List Value) (Q:St->Hp->Prop),Inv X pins σ H s->Vals vs us->t vs σ H Q->
  wpAny (model X.prog X.w) X.A (assignInOrder ((assignEach ts X.env).map (·.2)) us) (λ_ s'=>∃σ' H',Inv X pins σ' H' s'/\Q σ' H') X.xe s
abbrev BS:=V->V->V->Hp->(Hp->Prop)->Prop
def NM(X:Cx)(t:BS):Prop:=
 ∀(pins:List (Addr×Obj)) (s:Shared) (σ:St) (H:Hp) (o i v:V) (ov iv u:Value) (Q:Hp->Prop),Inv X pins σ H s->RelV o ov->RelV i iv->RelV v u->t o i v H Q->
  wpAny (model X.prog X.w) X.A (setItem ov iv u) (λ_ s'=>∃H',Inv X pins σ H' s'/\Q H') X.xe s
abbrev wO:=V->V->Hp->VK->Prop
def OC(X:Cx)(op:Operator)(t:wO):Prop:=
 ∀(pins:List (Addr×Obj)) (s:Shared) (σ:St) (H:Hp) (x y:V) (v u:Value) (Q:VK),Inv X pins σ H s->RelV x v->RelV y u->t x y H Q->
  wpAny (model X.prog X.w) X.A (inplaceOp op v u) (EP X pins σ Q) X.xe s
section
variable {X:Cx}{pos:Pos}
def gP(i:Nat):TG:=λv σ H Q=>Q (σ.set i (some v)) H
def aO{i:Nat}{x:Str}(hN:X.N.Nodup)(hi:X.N[i]?=some x)(hx:Loc X.env.scope x)(hf:X.fn x=true\/X.env.scope.names.lookup x=some .local:=by first|exact .inl rfl|exact .inr rfl|assumption):PG X (.Name x pos) (gP i):=by
 intro pins s σ H v u Q I r h;exact wpAny_assign_Name (lF I hN hi hx r (λs' I'=>⟨_,H,I',h⟩) hf)
def adz:nQ:=λvs σ H Q=>vs=[]/\Q σ H
def acx(t:TG)(u:nQ):nQ:=λvs σ H Q=>∃v r,vs=v::r/\t v σ H λσ' H'=>u r σ' H' Q
def eG:tR X [] adz:=by
 intro pins s σ H vs us Q I r h;obtain⟨e,h⟩:=h;subst e;cases r;exact assignInOrder_nil ⟨σ,H,I,h⟩
def bt{e:Expr}{es:List Expr}{t:TG}{u:nQ}(h1:PG X e t)(h2:tR X es u)
  (hs:(assignEach (e::es) X.env).map (·.2)=assign e X.env::(assignEach es X.env).map (·.2):=by rfl):tR X (e::es) (acx t u):=by
 intro pins s σ H vs us Q I r h;obtain⟨v,vr,e1,h⟩:=h;subst e1;cases r with
 |cons r rr=>
  rw[hs];refine assignInOrder_cons (aA (h1 pins s σ H _ _ _ I r h) λ_ s1 ⟨σ1,H1,I1,q1⟩=>?_);exact h2 pins s1 σ1 H1 _ _ Q I1 rr q1
def NN(K:PySem.W.Frag)(n:Nat)(t:nQ):TG:=λv σ H Q=>∃a xs,v=.ref a/\aZ K H a xs/\xs.length=n/\t xs σ H Q
def eJ{es:List Expr}{k:Nat}{t:nQ}{n:Nat}(hc:X.calm=true)(h:tR X es t)
  (hn:(assignEach es X.env).length=n:=by rfl)(bM:(assignEach es X.env).findIdx? (·.1)=none:=by rfl):PG X (.Tuple es k pos) (NN X.K n t):=by
 intro pins s σ H v u Q I r hw;obtain⟨a,xs,e1,hq,hl,hw⟩:=hw;subst e1;cases r;obtain⟨aj,rv,ht,hz⟩:=I.tuple hq;refine assign_Tuple_tuple (I.ok.hd hc) ht (by simp[hn, <-hl,rv.length]) bM λh' hx=>?_;have I1:Inv X pins σ H {s with heap:=h'}:=I.kept (t':=s.toks) λb o e=>hx b o (Zn (Zi e)) e;exact h pins _ σ H xs _ Q I1 (by simpa using rv) hw
def adA(to ti:TE)(t:BS):TG:=λv σ H Q=>to σ H λo H1=>ti σ H1 λi H2=>t o i v H2 λH3=>Q σ H3
def AX{o i:Expr}{to ti:TE}{t:BS}(ho:PE X o to)(hi:PE X i ti)(hs:NM X t)
  (ha:∀v,assign (.Subscript o i pos) X.env v=(do
   let ov<-holding [v] (eval o X.env)
   let iv<-holding [v,ov] (eval i X.env)
   standAt pos
   holding [v,ov,iv] (setItem ov iv v)
   release [v,ov,iv] []):=by intro _;rfl):PG X (.Subscript o i pos) (adA to ti t):=by
 intro pins s σ H v u Q I r h;rw[ha];refine wpAny_bind (wpAny_holding (aA (ho pins s σ H _ I h) λov s1 ⟨x,H1,I1,r1,q1⟩=>?_));refine wpAny_bind (wpAny_holding (aA (hi pins s1 σ H1 _ I1 q1) λiv s2 ⟨y,H2,I2,r2,q2⟩=>?_));refine wpAny_bind (wpAny_standAt (wpAny_bind (wpAny_holding (aA (hs pins s2 σ H2 x y v ov iv u _ I2 r1 r2 r q2) λ_ s3 ⟨H3,I3,q3⟩=>?_))));exact wpAny_release ⟨σ,H3,I3,q3⟩
def nE(te:TE)(g:TG):TS:=λD σ H=>te σ H λx H1=>g x σ H1 D.nx
def gy{tg e:Expr}{te:TE}{g:TG}(he:PE X e te)(hg:PG X tg g)(hs:swapsWithSole [tg] e pos.line X.env=pure false:=by rfl)(hw:swappedStores [tg] e X.env=pure none:=by rfl)
  (h1:(assignEach [tg] X.env).map (·.2)=[assign tg X.env]:=by rfl):PS X (.Assign [tg] e pos) (nE te g):=by
 intro pins s σ H D I h;refine wpAny_Assign_stores (aA (he pins s σ H _ I h) λv s1 ⟨x,H1,I1,r1,q1⟩=>?_) hs hw;rw[h1];exact aA (hg pins s1 σ H1 x v _ I1 r1 q1) λ_ s2 q=>q
def bJ{i:Nat}{x:Str}{e:Expr}{te:TE}{pos':Pos}(hN:X.N.Nodup)(hi:X.N[i]?=some x)(hx:Loc X.env.scope x)(he:PE X e te)(hs:swapsWith e (some (.Name x pos')) pos.line X.env=pure false:=by rfl)(hf:X.fn x=true\/X.env.scope.names.lookup x=some .local:=by first|exact .inl rfl|exact .inr rfl|assumption):
  PS X (.Assign [.Name x pos'] e pos) (nE te (gP i)):=by
 intro pins s σ H D I h;refine wpAny_Assign_Name (aA (he pins s σ H _ I h) λv s1 ⟨y,H1,I1,r1,q1⟩=>?_) hs;exact lF I1 hN hi hx r1 (λs2 I2=>⟨_,H1,I2,q1⟩) hf
def adB(i:Nat)(te:TE)(ti:wO):TS:=λD σ H=>∃x,σ[i]?=some (some x)/\te σ H λy H1=>ti x y H1 λz H2=>D.nx (σ.set i (some z)) H2
def LV{i:Nat}{x:Str}{e:Expr}{te:TE}{op:Operator}{ti:wO}{pos':Pos}(hN:X.N.Nodup)(hi:X.N[i]?=some x)(hx:Loc X.env.scope x)(he:PE X e te)(ho:OC X op ti)(hf:X.fn x=true\/X.env.scope.names.lookup x=some .local:=by first|exact .inl rfl|exact .inr rfl|assumption):
  PS X (.AugAssign (.Name x pos') op e pos) (adB i te ti):=by
 intro pins s σ H D I h;obtain⟨v,e1,h⟩:=h;obtain⟨m,hn,hl⟩:=I.loc;have cg:wK X.env.scope x:=by rcases hx with k|k;exact .inl k;exact .inr (.inl k)
 obtain⟨u,r,l⟩:=hl i x v hi e1 cg;refine wpAny_AugAssign_Name ?_
 have go:wpAny (model X.prog X.w) X.A (eval e X.env) (λw s₂=>wpAny (model X.prog X.w) X.A (inplaceOp op u w) (λr s₃=>wpAny (model X.prog X.w) X.A (storeName X.env x r) (λ_=>SP X pins D .next) X.xe s₃) X.xe s₂) X.xe s:=by
  refine aA (he pins s σ H _ I h) λw s1 ⟨y,H1,I1,r1,q1⟩=>?_;refine aA (ho pins s1 σ H1 v y u w _ I1 r r1 q1) λz s2 ⟨zv,H2,I2,r2,q2⟩=>?_;exact lF I2 hN hi hx r2 (λs3 I3=>⟨_,H2,I3,q2⟩) hf
 rcases l with⟨hk,hm⟩|⟨hk,c,hc,gz⟩
 ·exact wpAny_loadName_local I.ok.kind hk hn hm go
 ·rcases hk with hk|hk
  ·exact wpAny_loadName_cell I.ok.kind hk hc gz go
  ·rcases hx with k|k
   ·have:X.env.scope.names.lookup x=some .free:=hk;rw[k]at this;cases this
   ·have:X.env.scope.names.lookup x=some .free:=hk;rw[k]at this;cases this
def ipI(f:Int->Int->Int):wO:=λx y H Q=>∃i j,x=.int i/\y=.int j/\Q (.int (f i j)) H
def LW:OC X .Add (ipI λi j=>i+j):=by
 intro pins s σ H x y v u Q I r1 r2 h;obtain⟨i,j,e1,e2,q⟩:=h;subst e1;subst e2;obtain⟨t,rfl⟩:=r1;obtain⟨t',rfl⟩:=r2;exact iadd_int ⟨.int _,H,I.tok _,⟨_,rfl⟩,q⟩
end
section
variable {X:Cx}{pos:Pos}
def LX(c:TT)(tb:TS):TS:=λD σ H=>∃W:Nat->St->Hp->Prop,(∃m,W m σ H)/\∀m σ H,W m σ H->
 c σ H λb H1=>if b=true then∃N:St->Hp->Prop,(∀σ' H',N σ' H'->∃m',m'<m/\W m' σ' H')/\tb {D with nx:=N,ct:=N,bk:=D.nx} σ H1 else D.nx σ H1
def rW{c:Expr}{body:List Stmt}{tc:TT}{tb:TS}(hp:PassesOwn (model X.prog X.w) X.A X.env X.xe)(hc:PT X c tc)(hb:dg X body tb):PS X (.While c body [] pos) (LX tc tb):=by
 intro pins s σ H D I h;obtain⟨W,⟨m0,w0⟩,turn⟩:=h;refine wpAny_While (codeAny_whileLoop (λn s'=>∃σ' H',Inv X pins σ' H' s'/\W n σ' H') ?_ m0 ⟨σ,H,I,w0⟩);rintro n s1 ⟨σ1,H1,I1,w1⟩;refine wpAny_passesOwn hp (aA (hc pins s1 σ1 H1 _ I1 (turn n σ1 H1 w1)) λb s2 ⟨H2,I2,q2⟩=>?_);cases b with
 |true=>
  obtain⟨N,hN,q2⟩:=q2;rw[if_pos rfl];refine wpAny_passesOwn hp (aA (hb pins s2 σ1 H2 _ I2 q2) λf s3 q3=>?_);cases f with
  |next=>
   obtain⟨σ3,H3,I3,n3⟩:=q3;obtain⟨m',hm,w3⟩:=hN σ3 H3 n3;exact⟨m',hm,σ3,H3,I3,w3⟩
  |cont=>
   obtain⟨σ3,H3,I3,n3⟩:=q3;obtain⟨m',hm,w3⟩:=hN σ3 H3 n3;exact⟨m',hm,σ3,H3,I3,w3⟩
  |brk=>exact q3
  |ret v=>exact q3
 |false=>
  rw[if_neg Zk];exact wpAny_execs_nil ⟨σ1,H2,I2,q2⟩
end
structure It where
 go:Nat->Hp->Prop
 fO:Nat->Hp->V->Hp->Prop
 stop:Nat->Hp->Prop
def iS(X:Cx)(pins:List (Addr×Obj))(H:Hp)(b:Addr):Prop:=
 H b=none/\b≠X.env.locals/\b∉X.fs/\(b∈X.ex\/X.s₀.heap.objs.size<=b)/\(∀x c,X.env.cells.lookup x=some c->c≠b)/\∀p∈X.pn++pins,p.1≠b
def Inv.qF{X:Cx}{pins:List (Addr×Obj)}{σ:St}{H H':Hp}{s:Shared}{b:Addr}(I:Inv X pins σ H s)(hb:s.heap.objs.size<=b)(hn:H' b=none):iS X pins H' b:=by
 refine⟨hn,Nat.ne_of_gt (Zv I.lt hb),I.adt hb,.inr (ZQ I.sz hb),λx c e z=>?_,λp hp z=>?_⟩
 ·obtain⟨v,q⟩:=I.cell x c e;exact absurd (Zv q.lt (by rw[z];exact hb)) (Z2 _)
 ·exact absurd (Zv (Zi (I.pin p hp).1) (by rw[z];exact hb)) (Z2 _)
structure Turn(P:Program)(w:World)(K:PySem.W.Frag)(tg:Expr)(J:It)(fp:List Addr)(it:Addr)(tn:Nat->Heap->Prop):Prop where
 mem:it∈fp
 obj:∀i h,tn i h->∀b∈fp,∃o,h.get? b=some o/\∀v,o.data≠.cell v
 keep:∀i h h',tn i h->(∀b∈fp,∀o,h.get? b=some o->h'.get? b=some o)->tn i h'
 item:∀(X:Cx),X.prog=P->X.w=w->X.K=K->X.calm=true->∀(i:Nat) (pins:List (Addr×Obj)) (s:Shared) (σ:St) (H:Hp) (E:Value->Shared->Prop),Inv X pins σ H s->(∀b∈fp,iS X pins H b)->tn i s.heap->J.go i H->
  wpAny (model P w) X.A (pyNext (.ref it)) (λr s1=>∃u,r=some u/\
   wpAny (model P w) X.A (letOwnedTupleGo tg (.ref it) u) (λ_ s2=>∃x H',Inv X pins σ H' s2/\RelV x u/\J.fO i H x H'/\tn (i+1) s2.heap/\∀b∈fp,H' b=none) E s1) E s
 done:∀(X:Cx),X.prog=P->X.w=w->X.K=K->X.calm=true->∀(i:Nat) (pins:List (Addr×Obj)) (s:Shared) (σ:St) (H:Hp) (E:Value->Shared->Prop),Inv X pins σ H s->(∀b∈fp,iS X pins H b)->tn i s.heap->J.stop i H->
  wpAny (model P w) X.A (pyNext (.ref it)) (λr s1=>r=none/\Inv X pins σ H s1) E s
 self:∀(A:Around) (i:Nat) (s:Shared) (Q:Value->Shared->Prop) (E:Value->Shared->Prop),tn i s.heap->Q (.ref it) s->wpAny (model P w) A (pyIter (.ref it)) Q E s
abbrev TI:=St->Hp->(It->Hp->Prop)->Prop
def wQ(X:Cx)(pins:List (Addr×Obj))(σ:St)(tg:Expr)(R:It->Hp->Prop)(pB:Value)(s2:Shared):Prop:=
 ∃(it:Addr) (fp:List Addr) (tn:Nat->Heap->Prop) (J:It) (H':Hp),pB=.ref it/\Inv X pins σ H' s2/\Turn X.prog X.w X.K tg J fp it tn/\tn 0 s2.heap/\(∀b∈fp,iS X pins H' b)/\R J H'
def PI(X:Cx)(tg iter:Expr)(wi:TI):Prop:=
 ∀(pins:List (Addr×Obj)) (s:Shared) (σ:St) (H:Hp) (R:It->Hp->Prop),Inv X pins σ H s->wi σ H R->
  wpAny (model X.prog X.w) X.A (eval iter X.env) (λv s1=>wpAny (model X.prog X.w) X.A (pyIter v) (wQ X pins σ tg R) X.xe s1) X.xe s
def vQ{M:Model}{A:Around}{E:Value->Shared->Prop}{s:Shared}{tg:Expr}{it:Addr}{u:Value}{o:Obj}{n:String}{vs:Array Value}{Q:Unit->Shared->Prop}(ho:s.heap.get? it=some o)(hc:o.cls=.type n)(hd:o.data=.fields vs)
  (hn:["enumerate","zip","dict_itemiterator","dict_reverseitemiterator","odict_iterator","itertools.zip_longest","itertools.pairwise"].contains n=false)(hQ:Q () s):wpAny M A (letOwnedTupleGo tg (.ref it) u) Q E s:=by
 unfold letOwnedTupleGo
 cases tg<;>first
  |exact ZV hQ
  |(cases u<;>first
   |exact ZV hQ
   |(refine wpAny_bind (wpAny_load ho ?_)
     rw[hc,hd];show wpAny M A (if(["enumerate","zip","dict_itemiterator","dict_reverseitemiterator","odict_iterator","itertools.zip_longest","itertools.pairwise"].contains n&&vs[0]? ==some (rawInt _))=true then _ else _) Q E s;rw[if_neg (by intro h;rw[hn,Bool.false_and]at h;cases h)];exact ZV hQ))
def eU(K:PySem.W.Frag)(a:Addr):It:=
 ⟨λi H=>∃xs x,ah K H a xs/\xs[i]?=some x,λi H x H'=>H'=H/\∀xs,ah K H a xs->xs[i]?=some x,λi H=>∃xs,ah K H a xs/\xs.length<=i⟩
def tS(K:PySem.W.Frag)(a:Addr):It:=
 ⟨λi H=>∃xs x,aZ K H a xs/\xs[i]?=some x,λi H x H'=>H'=H/\∀xs,aZ K H a xs->xs[i]?=some x,λi H=>∃xs,aZ K H a xs/\xs.length<=i⟩
def gH(lo:Int)(n:Nat):It:=⟨λi _=>i<n,λi H x H'=>H'=H/\x=.int (lo+i),λi _=>n<=i⟩
def Uo{P:Program}{w:World}{K:PySem.W.Frag}{tg:Expr}(a it:Addr):Turn P w K tg (eU K a) [it] it (λi h=>h.IsListIter it a i) where
 mem:=by simp
 obj:=λi h st b hb=>by
  have e:b=it:=by simpa using hb
  subst e;obtain⟨o,e,c,d⟩:=st;exact⟨o,e,λv z=>by rw[d]at z;cases z⟩
 keep:=λi h h' st k=>st.at λo e=>k it (by simp) o e
 item:=by
  intro X hP hw hK hc i pins s σ H E I hf st hg;subst hP hw hK;obtain⟨xs,x,hq,hx⟩:=hg;obtain⟨aj,rv,p,hz⟩:=I.list hq;obtain⟨u,hu,ru⟩:=rv.get hx;obtain⟨f0,f1,f2,f3,f4,f5⟩:=hf it (by simp);refine wpAny_pyNext_list_item st p.isList (x:=u) (by simpa using hu) λh' aX sb=>?_;have I1:Inv X pins σ H {s with heap:=h'}:=I.turned (t':=s.toks) (λb o hb e=>(sb.2 b hb).trans e) f0 f1 f3 f4 f5;obtain⟨o,e,c,d⟩:=id aX;exact⟨u,rfl,vQ (s:={s with heap:=h'}) e c d (by decide) ⟨x,H,I1,ru,⟨rfl,λys hy=>by rw[I.Jc hy hq];exact hx⟩,aX,λb hb=>(hf b hb).1⟩⟩
 done:=by
  intro X hP hw hK hc i pins s σ H E I hf st hg;subst hP hw hK;obtain⟨xs,hq,hx⟩:=hg;obtain⟨aj,rv,p,hz⟩:=I.list hq;obtain⟨f0,f1,f2,f3,f4,f5⟩:=hf it (by simp);have hl:=rv.length;exact wpAny_pyNext_list_end (I.ok.hd hc) st p.isList (by simp;omega) λh' eb=>⟨rfl,I.turned (t':=s.toks) (λb o hb e=>eb b o hb e) f0 f1 f3 f4 f5⟩
 self:=λ_ _ _ _ _ st h=>wpAny_pyIter_listiter st h
def S1{P:Program}{w:World}{K:PySem.W.Frag}{tg:Expr}(a it:Addr):Turn P w K tg (tS K a) [it] it (λi h=>h.IsTupleIter it a i) where
 mem:=by simp
 obj:=λi h st b hb=>by
  have e:b=it:=by simpa using hb
  subst e;obtain⟨o,e,c,d⟩:=st;exact⟨o,e,λv z=>by rw[d]at z;cases z⟩
 keep:=λi h h' st k=>st.at λo e=>k it (by simp) o e
 item:=by
  intro X hP hw hK hc i pins s σ H E I hf st hg;subst hP hw hK;obtain⟨xs,x,hq,hx⟩:=hg;obtain⟨aj,rv,p,hz⟩:=I.tuple hq;obtain⟨u,hu,ru⟩:=rv.get hx;obtain⟨f0,f1,f2,f3,f4,f5⟩:=hf it (by simp);refine wpAny_pyNext_tuple_item st (show s.heap.IsTuple a aj.toArray from p) (x:=u) (by simpa using hu) λh' aX sb=>?_;have I1:Inv X pins σ H {s with heap:=h'}:=I.turned (t':=s.toks) (λb o hb e=>(sb.2 b hb).trans e) f0 f1 f3 f4 f5;obtain⟨o,e,c,d⟩:=id aX;exact⟨u,rfl,vQ (s:={s with heap:=h'}) e c d (by decide) ⟨x,H,I1,ru,⟨rfl,λys hy=>by rw[I.Um hy hq];exact hx⟩,aX,λb hb=>(hf b hb).1⟩⟩
 done:=by
  intro X hP hw hK hc i pins s σ H E I hf st hg;subst hP hw hK;obtain⟨xs,hq,hx⟩:=hg;obtain⟨aj,rv,p,hz⟩:=I.tuple hq;obtain⟨f0,f1,f2,f3,f4,f5⟩:=hf it (by simp);have hl:=rv.length;exact wpAny_pyNext_tuple_end (I.ok.hd hc) st (show s.heap.IsTuple a aj.toArray from p) (by simp;omega) λh' eb=>⟨rfl,I.turned (t':=s.toks) (λb o hb e=>eb b o hb e) f0 f1 f3 f4 f5⟩
 self:=λ_ _ _ _ _ st h=>wpAny_pyIter_tupleiter st h
def S2{P:Program}{w:World}{K:PySem.W.Frag}{tg:Expr}(it:Addr)(lo:Int)(n:Nat):Turn P w K tg (gH lo n) [it] it (λi h=>IsRangeIter h it (lo+(i:Nat)*1) ((n:Int)-(i:Nat)) 1) where
 mem:=by simp
 obj:=λi h st b hb=>by
  have e:b=it:=by simpa using hb
  subst e
  exact⟨_,st,λv z=>by
   have z':Data.fields _=Data.cell v:=z;cases z'⟩
 keep:=λi h h' st k=>k it (by simp) _ st
 item:=by
  intro X hP hw hK hc i pins s σ H E I hf st hg;subst hP hw hK;obtain⟨f0,f1,f2,f3,f4,f5⟩:=hf it (by simp);have W:=Walks.range (prog:=X.prog) (w:=X.w) (I.ok.hd hc) it lo 1 n;refine W.item i s _ _ hg st λv h' tk hv aX kk=>?_;obtain⟨t,rfl⟩:=hv;have I1:Inv X pins σ H {s with heap:=h',toks:=tk}:=I.turned (λb o hb e=>kk b o (by simpa using hb) e) f0 f1 f3 f4 f5;refine⟨_,rfl,vQ (s:={s with heap:=h',toks:=tk}) (n:="range_iterator") aX rfl rfl (by decide) ⟨.int (lo+i),H,I1,⟨t,?_⟩,⟨rfl,rfl⟩,aX,λb hb=>(hf b hb).1⟩⟩;rw[Int.mul_one]
 done:=by
  intro X hP hw hK hc i pins s σ H E I hf st hg;subst hP hw hK;obtain⟨f0,f1,f2,f3,f4,f5⟩:=hf it (by simp);exact wpAny_pyNext_range_end (I.ok.hd hc) st (by have:n<=i:=hg;omega) λh' eb=>⟨rfl,I.turned (t':=s.toks) (λb o hb e=>eb b o hb e) f0 f1 f3 f4 f5⟩
 self:=λ_ _ _ _ _ st h=>wpAny_pyIter_rangeiter st h
section
variable {X:Cx}{tg:Expr}
def M8(K:PySem.W.Frag)(tl:TE):TI:=λσ H R=>tl σ H λx H1=>∃a,x=.ref a/\(∃xs,ah K H1 a xs)/\R (eU K a) H1
def BU(K:PySem.W.Frag)(tl:TE):TI:=λσ H R=>tl σ H λx H1=>∃a,x=.ref a/\(∃xs,aZ K H1 a xs)/\R (tS K a) H1
def bH{l:Expr}{tl:TE}(hl:PE X l tl):PI X tg l (M8 X.K tl):=by
 intro pins s σ H R I h;refine aA (hl pins s σ H _ I h) λv s1 ⟨x,H1,I1,r1,q1⟩=>?_;obtain⟨a,e,⟨xs,hq⟩,q⟩:=q1;subst e;cases r1;obtain⟨aj,rv,p,hz⟩:=I1.list hq;refine wpAny_pyIter_list p.isList ?_;refine⟨s1.heap.objs.size,[s1.heap.objs.size],_,_,H1,rfl,I1.kept (t':=s1.toks) λb o e=>Y8 _ e,Uo a _,⟨_,Zq _ rfl,rfl,rfl⟩,λb hb=>?_,q⟩;have e:b=s1.heap.objs.size:=by simpa using hb
 subst e;exact I1.qF (Y3 _) (I1.ao.fresh (Y3 _))
def AY{l:Expr}{tl:TE}(hl:PE X l tl):PI X tg l (BU X.K tl):=by
 intro pins s σ H R I h;refine aA (hl pins s σ H _ I h) λv s1 ⟨x,H1,I1,r1,q1⟩=>?_;obtain⟨a,e,⟨xs,hq⟩,q⟩:=q1;subst e;cases r1;obtain⟨aj,rv,p,hz⟩:=I1.tuple hq;refine wpAny_pyIter_tuple (show s1.heap.IsTuple a aj.toArray from p) ?_;refine⟨s1.heap.objs.size,[s1.heap.objs.size],_,_,H1,rfl,I1.kept (t':=s1.toks) λb o e=>Y8 _ e,S1 a _,⟨_,Zq _ rfl,rfl,rfl⟩,λb hb=>?_,q⟩;have e:b=s1.heap.objs.size:=by simpa using hb
 subst e;exact I1.qF (Y3 _) (I1.ao.fresh (Y3 _))
def Jd{pins:List (Addr×Obj)}{σ:St}{H:Hp}{s:Shared}{R:It->Hp->Prop}{E:Value->Shared->Prop}{lo hi:Int}{t u v:Tok}{tk:Nat}(I:Inv X pins σ H s)(h1: -(2^ 62)<=lo)(h2:lo<2^ 62)(h3: -(2^ 62)<=hi)(h4:hi<2^ 62)
  (q:R (gH lo (hi-lo).toNat) H):wpAny (model X.prog X.w) X.A (pyIter (.ref s.heap.objs.size)) (wQ X pins σ tg R) E {s with heap:=s.heap.push {cls:=.type "range",data:=.fields #[.int lo t,.int hi u,.int 1 v]},toks:=tk}:=by
 refine wpAny_pyIter_range (IsRange.new ..) (small_one h1 h2 h3 h4) ?_;have I1:Inv X pins σ H {s with heap:=s.heap.push {cls:=.type "range",data:=.fields #[.int lo t,.int hi u,.int 1 v]},toks:=tk}:=I.kept λb o e=>Y8 _ e
 refine⟨(s.heap.push {cls:=.type "range",data:=.fields #[.int lo t,.int hi u,.int 1 v]}).objs.size,[(s.heap.push {cls:=.type "range",data:=.fields #[.int lo t,.int hi u,.int 1 v]}).objs.size],_,_,H,rfl,
  I1.kept (t':=tk) λb o e=>Y8 _ e,S2 _ lo (hi-lo).toNat,?_,λb hb=>?_,q⟩
 ·have e1:lo+((0:Nat):Int)*1=lo:=by simp
  have e2:(((hi-lo).toNat:Nat):Int)-((0:Nat):Int)=Builtin.Range.rangeSize lo hi 1:=by rw[rangeSize_one];split<;>omega
  show IsRangeIter _ _ (lo+((0:Nat):Int)*1) ((((hi-lo).toNat:Nat):Int)-((0:Nat):Int)) 1;rw[e1,e2];exact Zq _ rfl
 ·have e:b=(s.heap.push {cls:=.type "range",data:=.fields #[.int lo t,.int hi u,.int 1 v]}).objs.size:=by simpa using hb
  subst e;exact I1.qF (Y3 _) (I1.ao.fresh (Y3 _))
def M9(ta:TA):TI:=λσ H R=>ta σ H λvs H1=>∃j:Int,vs=[.int j]/\ -(2^ 62)<=j/\j<2^ 62/\R (gH 0 j.toNat) H1
def acy(ta:TA):TI:=λσ H R=>ta σ H λvs H1=>∃i j:Int,vs=[.int i,.int j]/\(-(2^ 62)<=i/\i<2^ 62/\ -(2^ 62)<=j/\j<2^ 62)/\R (gH i (j-i).toNat) H1
def ji{a:Expr}{ta:TA}{p pos:Pos}(hg:Gl X "range")(hm:X.mg "range"=none)(ha:PA X [a] ta)(hs:starEach [a] X.env=[(false,eval a X.env)]:=by rfl):PI X tg (.Call (.Name "range" p) [a] [] pos) (M9 ta):=by
 intro pins s σ H R I h;refine Call_ (oP I hg hm boot_range (PyProof.Rows.callWith_type1 (aA (ha pos pins s σ H _ I h) λus s1 ⟨vs,H1,I1,r1,q1⟩=>?_) hs rfl));obtain⟨j,e,q1,q2,q⟩:=q1;subst e;cases r1 with
 |cons r rr=>
  cases rr;obtain⟨t,rfl⟩:=r;exact call_range_1 (Jd I1 (by omega) (by omega) q1 q2 (by simpa using q))
def Up{a b:Expr}{ta:TA}{p pos:Pos}(hg:Gl X "range")(hm:X.mg "range"=none)(ha:PA X [a,b] ta)(hs:starEach [a,b] X.env=[(false,eval a X.env),(false,eval b X.env)]:=by rfl)(lX:starEach [b] X.env=[(false,eval b X.env)]:=by rfl):
  PI X tg (.Call (.Name "range" p) [a,b] [] pos) (acy ta):=by
 intro pins s σ H R I h;refine Call_ (oP I hg hm boot_range (PyProof.Rows.callWith_type1 (aA (ha pos pins s σ H _ I h) λus s1 ⟨vs,H1,I1,r1,q1⟩=>?_) (by rw[hs,lX]) (by rw[lX];rfl)));obtain⟨i,j,e,⟨q1,q2,q3,q4⟩,q⟩:=q1;subst e;cases r1 with
 |cons r rr=>
  cases rr with
  |cons r' rr=>
   cases rr;obtain⟨t,rfl⟩:=r;obtain⟨t',rfl⟩:=r';exact call_range_2 (Jd I1 q1 q2 q3 q4 q)
def adC(wi:TI)(g:TG)(tb:TS):TS:=λD σ H=>wi σ H λJ H1=>∃W:Nat->Nat->St->Hp->Prop,(∃m,W 0 m σ H1)/\∀i m σ H,W i m σ H->
 (J.stop i H/\D.nx σ H)\/(J.go i H/\∃N:St->Hp->Prop,(∀σ' H',N σ' H'->∃m',m'<m/\W (i+1) m' σ' H')/\∀x H',J.fO i H x H'->g x σ H' λσ2 H2=>tb {D with nx:=N,ct:=N,bk:=D.nx} σ2 H2)
def jO(fp:List Addr)(h:Heap):List (Addr×Obj):=fp.filterMap λb=>(h.get? b).map λo=>(b,o)
def g7{fp:List Addr}{h:Heap}{b:Addr}{o:Obj}(hb:b∈fp)(e:h.get? b=some o):(b,o)∈jO fp h:=List.mem_filterMap.mpr ⟨b,hb,by rw[e];rfl⟩
def Uq{fp:List Addr}{h:Heap}{p:Addr×Obj}(hp:p∈jO fp h):p.1∈fp/\h.get? p.1=some p.2:=by
 obtain⟨b,hb,e⟩:=List.mem_filterMap.mp hp;cases q:h.get? b with
 |none=>rw[q]at e;cases e
 |some o=>
  rw[q]at e;have e':(b,o)=p:=Zg e;subst e';exact⟨hb,q⟩
def Inv.pinned{pins:List (Addr×Obj)}{σ:St}{H:Hp}{s:Shared}{fp:List Addr}(I:Inv X pins σ H s)(hf:∀b∈fp,iS X pins H b)(ho:∀b∈fp,∃o,s.heap.get? b=some o/\∀v,o.data≠.cell v):Inv X (pins++jO fp s.heap) σ H s:=
 I.Kb λp hp=>(Y7.mp hp).elim (λz=>I.pin p (Zb _ z)) λz=>by
  obtain⟨hb,e⟩:=Uq z;obtain⟨f0,f1,f2,_⟩:=hf p.1 hb;obtain⟨o,e',d⟩:=ho p.1 hb;rw[e]at e';cases e';exact⟨e,f0,f1,f2,d⟩
def Inv.kr{pins pl:List (Addr×Obj)}{σ:St}{H:Hp}{s:Shared}(I:Inv X (pins++pl) σ H s):Inv X pins σ H s:=I.Kb λp hp=>I.pin p (Zb _ (Zc _ hp))
def bN{iter:Expr}{body:List Stmt}{wi:TI}{g:TG}{tb:TS}{pos:Pos}(hp:PassesOwn (model X.prog X.w) X.A X.env X.xe)(hc:X.calm=true)(hi:PI X tg iter wi)(hg:PG X tg g)(hb:dg X body tb)
  (hs:∀x,foldedSetIterable iter X.env x=pure x:=by intro _;rfl):PS X (.For tg iter body [] pos) (adC wi g tb):=by
 intro pins s σ H D I h;refine wpAny_For (aA (hi pins s σ H _ I h) λv s1 h1=>aA h1 λpB s2 h2=>?_) hs;obtain⟨it,fp,tn,J,H2,e,I2,T,gI,f2,W,⟨m0,w0⟩,turn⟩:=h2;subst e;have BV:∀{H':Hp},(∀b∈fp,H' b=none)->∀b∈fp,iS X pins H' b:=λhn b hb=>⟨hn b hb,(f2 b hb).2⟩;refine codeAny_forLoop_any (λn s'=>∃i σ' H',Inv X pins σ' H' s'/\tn i s'.heap/\(∀b∈fp,H' b=none)/\W i n σ' H') ?_ m0 ⟨0,σ,H2,I2,gI,λb hb=>(f2 b hb).1,w0⟩;rintro n s3 ⟨i,σ3,H3,I3,fu,cA,w3⟩;rcases turn i n σ3 H3 w3 with⟨stop,qn⟩|⟨go,N,hN,step⟩
 ·refine wpAny_passesOwn hp (aA (T.done X rfl rfl rfl hc i pins s3 σ3 H3 X.xe I3 (BV cA) fu stop) λr s4 ⟨hr,I4⟩=>?_);subst hr;exact wpAny_execs_nil ⟨σ3,H3,I4,qn⟩
 ·refine wpAny_passesOwn hp (aA (T.item X rfl rfl rfl hc i pins s3 σ3 H3 X.xe I3 (BV cA) fu go) λr s4 ⟨u,hr,h4⟩=>?_);subst hr;refine wpAny_passesOwn hp (aA h4 λ_ s5 ⟨x,H5,I5,r5,y5,dJ,j4⟩=>?_);have j5:=I5.pinned (BV j4) (T.obj _ _ dJ);refine wpAny_passesOwn hp (aA (hg _ s5 σ3 H5 x u _ j5 r5 (step x H5 y5)) λ_ s6 ⟨σ6,H6,I6,q6⟩=>?_);refine wpAny_passesOwn hp (aA (hb _ s6 σ6 H6 _ I6 q6) λf s7 q7=>?_)
  have again:∀{σ7:St}{H7:Hp},Inv X (pins++jO fp s5.heap) σ7 H7 s7->N σ7 H7->∃m,m<n/\∃i σ' H',Inv X pins σ' H' s7/\tn i s7.heap/\(∀b∈fp,H' b=none)/\W i m σ' H':=λ{σ7 H7} I7 n7=>by
   obtain⟨m',hm,w7⟩:=hN σ7 H7 n7;refine⟨m',hm,i+1,σ7,H7,I7.kr,T.keep _ _ _ dJ λb hb o e=>(I7.pin (b,o) (Zb _ (Zb _ (g7 hb e)))).1,λb hb=>?_,w7⟩;obtain⟨o,e,d⟩:=T.obj _ _ dJ b hb;exact(I7.pin (b,o) (Zb _ (Zb _ (g7 hb e)))).2.1
  cases f with
  |next=>obtain⟨σ7,H7,I7,n7⟩:=q7;exact again I7 n7
  |cont=>obtain⟨σ7,H7,I7,n7⟩:=q7;exact again I7 n7
  |brk=>obtain⟨σ7,H7,I7,q7⟩:=q7;exact⟨σ7,H7,I7.kr,q7⟩
  |ret v=>obtain⟨x7,σ7,H7,I7,r7,q7⟩:=q7;exact⟨x7,σ7,H7,I7.kr,r7,q7⟩
end
def cS{K:PySem.W.Frag}{a:Addr}{xs:List V}{g:TG}{tb:TS}{D:Ends}{σ:St}{H:Hp}(Pv:Nat->St->Hp->Prop)(h0:Pv 0 σ H)(hl:∀i σ H,i<=xs.length->Pv i σ H->ah K H a xs)
  (hs:∀i x σ H,xs[i]?=some x->Pv i σ H->g x σ H λσ2 H2=>tb {D with nx:=Pv (i+1),ct:=Pv (i+1),bk:=D.nx} σ2 H2)(hd:∀σ H,Pv xs.length σ H->D.nx σ H):
  ∃W:Nat->Nat->St->Hp->Prop,(∃m,W 0 m σ H)/\∀i m σ H,W i m σ H->
   ((eU K a).stop i H/\D.nx σ H)\/((eU K a).go i H/\∃N:St->Hp->Prop,(∀σ' H',N σ' H'->∃m',m'<m/\W (i+1) m' σ' H')/\∀x H',(eU K a).fO i H x H'->g x σ H' λσ2 H2=>tb {D with nx:=N,ct:=N,bk:=D.nx} σ2 H2):=by
 refine⟨λi m σ H=>m=xs.length-i/\i<=xs.length/\Pv i σ H,⟨xs.length,by simp,Zp _,h0⟩,?_⟩;rintro i m σ H ⟨rfl,hi,p⟩;have q:=hl i σ H hi p;by_cases aP:i<xs.length
 ·refine .inr ⟨⟨xs,xs[i],q,by simp[aP]⟩,Pv (i+1),λσ' H' p'=>⟨xs.length-(i+1),by omega,rfl,aP,p'⟩,λx H' y=>?_⟩;obtain⟨e,y⟩:=y;subst e;exact hs i x σ _ (y xs q) p
 ·have e:i=xs.length:=by omega
  subst e;exact .inl ⟨⟨xs,q,Y3 _⟩,hd σ H p⟩
def Kc{K:PySem.W.Frag}{a:Addr}{xs:List V}{g:TG}{tb:TS}{D:Ends}{σ:St}{H:Hp}(Pv:Nat->St->Hp->Prop)(h0:Pv 0 σ H)(hl:∀i σ H,i<=xs.length->Pv i σ H->aZ K H a xs)
  (hs:∀i x σ H,xs[i]?=some x->Pv i σ H->g x σ H λσ2 H2=>tb {D with nx:=Pv (i+1),ct:=Pv (i+1),bk:=D.nx} σ2 H2)(hd:∀σ H,Pv xs.length σ H->D.nx σ H):
  ∃W:Nat->Nat->St->Hp->Prop,(∃m,W 0 m σ H)/\∀i m σ H,W i m σ H->
   ((tS K a).stop i H/\D.nx σ H)\/((tS K a).go i H/\∃N:St->Hp->Prop,(∀σ' H',N σ' H'->∃m',m'<m/\W (i+1) m' σ' H')/\∀x H',(tS K a).fO i H x H'->g x σ H' λσ2 H2=>tb {D with nx:=N,ct:=N,bk:=D.nx} σ2 H2):=by
 refine⟨λi m σ H=>m=xs.length-i/\i<=xs.length/\Pv i σ H,⟨xs.length,by simp,Zp _,h0⟩,?_⟩;rintro i m σ H ⟨rfl,hi,p⟩;have q:=hl i σ H hi p;by_cases aP:i<xs.length
 ·refine .inr ⟨⟨xs,xs[i],q,by simp[aP]⟩,Pv (i+1),λσ' H' p'=>⟨xs.length-(i+1),by omega,rfl,aP,p'⟩,λx H' y=>?_⟩;obtain⟨e,y⟩:=y;subst e;exact hs i x σ _ (y xs q) p
 ·have e:i=xs.length:=by omega
  subst e;exact .inl ⟨⟨xs,q,Y3 _⟩,hd σ H p⟩
def qc{lo:Int}{n:Nat}{g:TG}{tb:TS}{D:Ends}{σ:St}{H:Hp}(Pv:Nat->St->Hp->Prop)(h0:Pv 0 σ H)
  (hs:∀i σ H,i<n->Pv i σ H->g (.int (lo+i)) σ H λσ2 H2=>tb {D with nx:=Pv (i+1),ct:=Pv (i+1),bk:=D.nx} σ2 H2)(hd:∀σ H,Pv n σ H->D.nx σ H):
  ∃W:Nat->Nat->St->Hp->Prop,(∃m,W 0 m σ H)/\∀i m σ H,W i m σ H->
   ((gH lo n).stop i H/\D.nx σ H)\/((gH lo n).go i H/\∃N:St->Hp->Prop,(∀σ' H',N σ' H'->∃m',m'<m/\W (i+1) m' σ' H')/\∀x H',(gH lo n).fO i H x H'->g x σ H' λσ2 H2=>tb {D with nx:=N,ct:=N,bk:=D.nx} σ2 H2):=by
 refine⟨λi m σ H=>m=n-i/\i<=n/\Pv i σ H,⟨n,by simp,Zp _,h0⟩,?_⟩;rintro i m σ H ⟨rfl,hi,p⟩;by_cases aP:i<n
 ·refine .inr ⟨aP,Pv (i+1),λσ' H' p'=>⟨n-(i+1),by omega,rfl,aP,p'⟩,λx H' y=>?_⟩;obtain⟨e,y⟩:=y;subst e y;exact hs i σ _ aP p
 ·have e:i=n:=by omega
  subst e;exact .inl ⟨Y3 _,hd σ H p⟩
def zO{c:TT}{tb:TS}{D:Ends}{σ:St}{H:Hp}(Pv:St->Hp->Prop)(μ:St->Hp->Nat)(h0:Pv σ H)
  (hs:∀σ H,Pv σ H->c σ H λb H1=>if b=true then tb {D with nx:=λσ' H'=>Pv σ' H'/\μ σ' H'<μ σ H,ct:=λσ' H'=>Pv σ' H'/\μ σ' H'<μ σ H,bk:=D.nx} σ H1 else D.nx σ H1)
  (mono:∀σ H Q Q',(∀b H1,Q b H1->Q' b H1)->c σ H Q->c σ H Q'):LX c tb D σ H:=by
 refine⟨λm σ H=>m=μ σ H/\Pv σ H,⟨_,rfl,h0⟩,?_⟩;rintro m σ H ⟨rfl,p⟩;refine mono σ H _ _ (λb H1 q=>?_) (hs σ H p);cases b with
 |true=>exact⟨_,λσ' H' ⟨p',l⟩=>⟨_,l,rfl,p'⟩,q⟩
 |false=>exact q
abbrev R2:=V->V->Hp->VK->Prop
def b6(X:Cx)(f:Value->Value->Sem Value)(r:R2):Prop:=
 ∀(pins:List (Addr×Obj)) (s:Shared) (σ:St) (H:Hp) (x y:V) (v u:Value) (Q:VK),Inv X pins σ H s->RelV x v->RelV y u->r x y H Q->
  wpAny (model X.prog X.w) X.A (f v u) (EP X pins σ Q) X.xe s
def Cz(X:Cx)(f:Value->Sem Value)(r:V->Hp->VK->Prop):Prop:=
 ∀(pins:List (Addr×Obj)) (s:Shared) (σ:St) (H:Hp) (x:V) (v:Value) (Q:VK),Inv X pins σ H s->RelV x v->r x H Q->
  wpAny (model X.prog X.w) X.A (f v) (EP X pins σ Q) X.xe s
def ig(X:Cx)(f:Value)(r:List V->Hp->VK->Prop):Prop:=
 ∀(pins:List (Addr×Obj)) (s:Shared) (σ:St) (H:Hp) (xs:List V) (us:List Value) (Q:VK),Inv X pins σ H s->Vals xs us->r xs H Q->
  wpAny (model X.prog X.w) X.A (call f us) (EP X pins σ Q) X.xe s
def adD(X:Cx)(r:V->Hp->(Bool->Hp->Prop)->Prop):Prop:=
 ∀(pins:List (Addr×Obj)) (s:Shared) (σ:St) (H:Hp) (x:V) (v:Value) (Q:Bool->Hp->Prop),Inv X pins σ H s->RelV x v->r x H Q->
  wpAny (model X.prog X.w) X.A (truthy v) (TP X pins σ Q) X.xe s
def pC(r:R2)(ta tb:TE):TE:=λσ H Q=>ta σ H λx H1=>tb σ H1 λy H2=>r x y H2 Q
def tUn(r:V->Hp->VK->Prop)(ta:TE):TE:=λσ H Q=>ta σ H λx H1=>r x H1 Q
inductive NO(C:Int->Int->Prop)(g:Int->Int->V)(x:V)(y:V)(H:Hp)(Q:VK):Prop
 |mk (i j:_) (_:x=.int i) (_:y=.int j) (_:C i j) (_:Q (g i j) H):NO C g x y H Q
def rI(C:Int->Int->Prop)(g:Int->Int->V):R2:=NO C g
inductive Na(g:Int->Int->V)(x:V)(y:V)(H:Hp)(Q:VK):Prop
 |mk (i j:_) (_:x=.int i) (_:y=.int j) (_:Q (g i j) H):Na g x y H Q
def pD(g:Int->Int->V):R2:=Na g
inductive NQ(g:Int->V)(x:V)(H:Hp)(Q:VK):Prop
 |mk (i:_) (_:x=.int i) (_:Q (g i) H):NQ g x H Q
def rU(g:Int->V):V->Hp->VK->Prop:=NQ g
section
variable {X:Cx}{a b c:Expr}{ta tb tc:TE}{pos:Pos}
def BW(ha:PE X a ta)(hb:PE X b tb){pins:List (Addr×Obj)}{s:Shared}{σ:St}{H:Hp}{R:V->V->Hp->Prop}(I:Inv X pins σ H s)
  (h:ta σ H λx H1=>tb σ H1 λy H2=>R x y H2){Q:Value->Shared->Prop}{f:Value->Value->Sem Value}
  (hf:∀v u s2 x y H2,Inv X pins σ H2 s2->RelV x v->RelV y u->R x y H2->wpAny (model X.prog X.w) X.A (f v u) Q X.xe s2):
  wpAny (model X.prog X.w) X.A (eval a X.env) (λv s₁=>wpAny (model X.prog X.w) X.A (eval b X.env) (λu s₂=>wpAny (model X.prog X.w) X.A (f v u) Q X.xe s₂) X.xe s₁) X.xe s:=by
 refine aA (ha pins s σ H _ I h) λv s1 ⟨x,H1,I1,r1,q1⟩=>?_;refine aA (hb pins s1 σ H1 _ I1 q1) λu s2 ⟨y,H2,I2,r2,q2⟩=>?_;exact hf v u s2 x y H2 I2 r1 r2 q2
def av{op:Operator}{r:R2}(ho:b6 X (binaryOp op) r)(ha:PE X a ta)(hb:PE X b tb):PE X (.BinOp a op b pos) (pC r ta tb):=by
 intro pins s σ H Q I h;exact wpAny_BinOp (BW ha hb I h λv u s2 x y H2 I2 rx ry q=>ho pins s2 σ H2 x y v u Q I2 rx ry q)
def fI{op:UnaryOp}{r:V->Hp->VK->Prop}(ho:Cz X (unaryOp op) r)(ha:PE X a ta):PE X (.UnaryOp op a pos) (tUn r ta):=by
 intro pins s σ H Q I h;exact UnaryOp_ (aA (ha pins s σ H _ I h) λv s1 ⟨x,H1,I1,r1,q1⟩=>ho pins s1 σ H1 x v Q I1 r1 q1)
def wR{f:Value->Value->Sem Value}{C:Int->Int->Prop}{g:Int->Int->Int}
  (rule:∀(i j:Int) (t u:Tok) (s:Shared) (Q:Value->Shared->Prop) (E:Value->Shared->Prop),C i j->Q (.int (g i j) s.toks) {s with toks:=s.toks+1}->wpAny (model X.prog X.w) X.A (f (.int i t) (.int j u)) Q E s):
  b6 X f (rI C λi j=>.int (g i j)):=by
 intro pins s σ H x y v u Q I rx ry h;obtain⟨i,j,rfl,rfl,hc,q⟩:=h;obtain⟨t,rfl⟩:=rx;obtain⟨t',rfl⟩:=ry;exact rule i j t t' s _ _ hc ⟨.int (g i j),H,I.tok _,⟨_,rfl⟩,q⟩
def NR{f:Value->Value->Sem Value}{g:Int->Int->Int}
  (rule:∀(i j:Int) (t u:Tok) (s:Shared) (Q:Value->Shared->Prop) (E:Value->Shared->Prop),Q (.int (g i j) s.toks) {s with toks:=s.toks+1}->wpAny (model X.prog X.w) X.A (f (.int i t) (.int j u)) Q E s):
  b6 X f (pD λi j=>.int (g i j)):=by
 intro pins s σ H x y v u Q I rx ry h;obtain⟨i,j,rfl,rfl,q⟩:=h;obtain⟨t,rfl⟩:=rx;obtain⟨t',rfl⟩:=ry;exact rule i j t t' s _ _ ⟨.int (g i j),H,I.tok _,⟨_,rfl⟩,q⟩
def BX{f:Value->Value->Sem Value}{g:Int->Int->Bool}
  (rule:∀(i j:Int) (t u:Tok) (s:Shared) (Q:Value->Shared->Prop) (E:Value->Shared->Prop),Q (.bool (g i j)) s->wpAny (model X.prog X.w) X.A (f (.int i t) (.int j u)) Q E s):
  b6 X f (pD λi j=>.bl (g i j)):=by
 intro pins s σ H x y v u Q I rx ry h;obtain⟨i,j,rfl,rfl,q⟩:=h;obtain⟨t,rfl⟩:=rx;obtain⟨t',rfl⟩:=ry;exact rule i j t t' s _ _ ⟨.bl (g i j),H,I,rfl,q⟩
def adE(i j:Int):Prop:=0<j/\j<1073741824
def adF(i j:Int):Prop:=0<=j/\j<=1000000/\i.natAbs<2^ 64
def BY(i j:Int):Prop:=(-(2^ 64)<i/\i<2^ 64)\/(-(2^ 64)<j/\j<2^ 64)
def BY.ok{i j:Int}(h:BY i j):IntMulOk i j:=by
 rcases h with⟨h1,h2⟩|⟨h1,h2⟩
 ·exact .of_left (intBits_le_64 h1 h2)
 ·exact .of_right (intBits_le_64 h1 h2)
def cV:b6 X (binaryOp .Add) (pD λi j=>.int (i+j)):=NR λ_ _ _ _ _ _ _ q=>add_int q
def hX:b6 X (binaryOp .Sub) (pD λi j=>.int (i-j)):=NR λ_ _ _ _ _ _ _ q=>sub_int q
def fg:b6 X (binaryOp .Mult) (rI BY λi j=>.int (i*j)):=wR λ_ _ _ _ _ _ _ hc q=>mul_int q hc.ok
def iL:b6 X (binaryOp .FloorDiv) (rI adE λi j=>.int (i/j)):=wR λi j _ _ _ _ _ hc q=>by
 have h1:(0:Int)<j:=hc.1;have h2:j<1073741824:=hc.2;exact floordiv_int (by omega) (by rw[Int.fdiv_eq_ediv_of_nonneg i (by omega)];exact q) (.inl (PyProof.noPylong_small (by omega)))
def bO:b6 X (binaryOp .Mod) (rI (λ_ j=>0<j) λi j=>.int (i%j)):=wR λi j _ _ _ _ _ hc q=>by
 have h1:(0:Int)<j:=hc;exact mod_int' (by omega) (by rw[Int.fmod_eq_emod_of_nonneg i (by omega)];exact q)
def abf:b6 X (binaryOp .Pow) (rI adF λi j=>.int (i^ j.toNat)):=wR λ_ _ _ _ _ _ _ hc q=>pow_int_small hc.1 hc.2.1 hc.2.2 q
def unI{f:Value->Sem Value}{g:Int->Int}
  (rule:∀(i:Int) (t:Tok) (s:Shared) (Q:Value->Shared->Prop) (E:Value->Shared->Prop),Q (.int (g i) s.toks) {s with toks:=s.toks+1}->wpAny (model X.prog X.w) X.A (f (.int i t)) Q E s):
  Cz X f (rU λi=>.int (g i)):=by
 intro pins s σ H x v Q I rx h;obtain⟨i,rfl,q⟩:=h;obtain⟨t,rfl⟩:=rx;exact rule i t s _ _ ⟨.int (g i),H,I.tok _,⟨_,rfl⟩,q⟩
def fG:Cz X (unaryOp .USub) (rU λi=>.int (-i)):=unI λ_ _ _ _ _ q=>neg_int q
end
def BZ:V->V->Bool
 |.aH,.aH=>true|.aH,.int _=>true|.int _,.aH=>true|.aH,.bl _=>true|.bl _,.aH=>true|.aH,.str _=>true|.str _,.aH=>true
 |.int _,.int _=>true|.bl _,.bl _=>true|.str _,.str _=>true|.iy _,.iy _=>true
 |.int _,.str _=>true|.str _,.int _=>true|.bl _,.str _=>true|.str _,.bl _=>true
 |_,_=>false
def rEq:R2:=λx y H Q=>BZ x y=true/\Q (.bl (decide (x=y))) H
def rNe:R2:=λx y H Q=>BZ x y=true/\Q (.bl (!decide (x=y))) H
def so{i j:Int}:decide (V.int i=V.int j)=(i==j):=by
 rw[Bool.eq_iff_iff];simp
def LY{i j:Bool}:decide (V.bl i=V.bl j)=(i==j):=by
 rw[Bool.eq_iff_iff];simp
def Kd{i j:Str}:decide (V.str i=V.str j)=(i==j):=by
 rw[Bool.eq_iff_iff];simp
def Ke{i j:Array UInt8}:decide (V.iy i=V.iy j)=(i.toList==j.toList):=by
 rw[Bool.eq_iff_iff];cases i;cases j;simp
section
variable {X:Cx}{a b c:Expr}{ta tb tc:TE}{pos:Pos}
def b8{pins:List (Addr×Obj)}{σ:St}{H:Hp}{s:Shared}{Q:VK}{k k':Bool}(I:Inv X pins σ H s)(q:Q (.bl k) H)(e:k=k'):EP X pins σ Q (.bool k') s:=by
 subst e;exact⟨.bl k,H,I,rfl,q⟩
def bZ:b6 X (compareOp .Eq) rEq:=by
 intro pins s σ H x y v u Q I rx ry h;obtain⟨hs,q⟩:=h;cases x with
 |aH=>
  cases rx;cases y with
  |aH=>cases ry;exact PySem.EqNone.eq_none_none (b8 I q (by simp))
  |bl j=>cases ry;exact PySem.EqNone.eq_none_bool (b8 I q (by simp))
  |int j=>obtain⟨t',rfl⟩:=ry;exact PySem.EqNone.eq_none_int (b8 I q (by simp))
  |str j=>obtain⟨t',rfl⟩:=ry;exact PySem.EqNone.eq_none_str (b8 I q (by simp))
  |_=>exact absurd (show false=true from hs) Zk
 |bl i=>
  cases rx;cases y with
  |aH=>cases ry;exact PySem.EqNone.eq_bool_none (b8 I q (by simp))
  |bl j=>cases ry;exact eq_bool (b8 I q LY)
  |str j=>obtain⟨t',rfl⟩:=ry;exact PySem.EqMixed.eq_bool_str (b8 I q (by simp))
  |_=>exact absurd (show false=true from hs) Zk
 |int i=>
  obtain⟨t,rfl⟩:=rx;cases y with
  |aH=>cases ry;exact PySem.EqNone.eq_int_none (b8 I q (by simp))
  |int j=>obtain⟨t',rfl⟩:=ry;exact eq_int (b8 I q so)
  |str j=>obtain⟨t',rfl⟩:=ry;exact PySem.EqMixed.eq_int_str (b8 I q (by simp))
  |_=>exact absurd (show false=true from hs) Zk
 |str i=>
  obtain⟨t,rfl⟩:=rx;cases y with
  |aH=>cases ry;exact PySem.EqNone.eq_str_none (b8 I q (by simp))
  |bl j=>cases ry;exact PySem.EqMixed.eq_str_bool (b8 I q (by simp))
  |int j=>obtain⟨t',rfl⟩:=ry;exact PySem.EqMixed.eq_str_int (b8 I q (by simp))
  |str j=>obtain⟨t',rfl⟩:=ry;exact eq_str (b8 I q Kd)
  |_=>exact absurd (show false=true from hs) Zk
 |iy i=>
  obtain⟨t,rfl⟩:=rx;cases y with
  |iy j=>obtain⟨t',rfl⟩:=ry;exact PySem.W.eq_bytes (b8 I q Ke)
  |_=>exact absurd (show false=true from hs) Zk
 |_=>cases y<;>exact absurd (show false=true from hs) Zk
def ny:b6 X (compareOp .NotEq) rNe:=by
 intro pins s σ H x y v u Q I rx ry h;obtain⟨hs,q⟩:=h;cases x with
 |aH=>
  cases rx;cases y with
  |aH=>cases ry;exact PySem.EqNone.ne_none_none (b8 I q (by simp))
  |bl j=>cases ry;exact PySem.EqNone.ne_none_bool (b8 I q (by simp))
  |int j=>obtain⟨t',rfl⟩:=ry;exact PySem.EqNone.ne_none_int (b8 I q (by simp))
  |str j=>obtain⟨t',rfl⟩:=ry;exact PySem.EqNone.ne_none_str (b8 I q (by simp))
  |_=>exact absurd (show false=true from hs) Zk
 |bl i=>
  cases rx;cases y with
  |aH=>cases ry;exact PySem.EqNone.ne_bool_none (b8 I q (by simp))
  |bl j=>cases ry;exact ne_bool (b8 I q (congrArg not LY))
  |str j=>obtain⟨t',rfl⟩:=ry;exact PySem.EqMixed.ne_bool_str (b8 I q (by simp))
  |_=>exact absurd (show false=true from hs) Zk
 |int i=>
  obtain⟨t,rfl⟩:=rx;cases y with
  |aH=>cases ry;exact PySem.EqNone.ne_int_none (b8 I q (by simp))
  |int j=>obtain⟨t',rfl⟩:=ry;exact ne_int (b8 I q (congrArg not so))
  |str j=>obtain⟨t',rfl⟩:=ry;exact PySem.EqMixed.ne_int_str (b8 I q (by simp))
  |_=>exact absurd (show false=true from hs) Zk
 |str i=>
  obtain⟨t,rfl⟩:=rx;cases y with
  |aH=>cases ry;exact PySem.EqNone.ne_str_none (b8 I q (by simp))
  |bl j=>cases ry;exact PySem.EqMixed.ne_str_bool (b8 I q (by simp))
  |int j=>obtain⟨t',rfl⟩:=ry;exact PySem.EqMixed.ne_str_int (b8 I q (by simp))
  |str j=>obtain⟨t',rfl⟩:=ry;exact ne_str (b8 I q (congrArg not Kd))
  |_=>exact absurd (show false=true from hs) Zk
 |iy i=>
  obtain⟨t,rfl⟩:=rx;cases y with
  |iy j=>obtain⟨t',rfl⟩:=ry;exact PySem.W.ne_bytes (b8 I q (congrArg not Ke))
  |_=>exact absurd (show false=true from hs) Zk
 |_=>cases y<;>exact absurd (show false=true from hs) Zk
def ij:b6 X (compareOp .Lt) (pD λi j=>.bl (decide (i<j))):=BX λ_ _ _ _ _ _ _ q=>lt_int q
def gQ:b6 X (compareOp .Gt) (pD λi j=>.bl (decide (j<i))):=BX λ_ _ _ _ _ _ _ q=>gt_int q
def qB:b6 X (compareOp .GtE) (pD λi j=>.bl (decide (j<=i))):=BX λ_ _ _ _ _ _ _ q=>ge_int q
def AZ:b6 X (compareOp .Is) (λx y H Q=>y=.aH/\Q (.bl (decide (x=.aH))) H):=by
 intro pins s σ H x y v u Q I rx ry h;obtain⟨rfl,q⟩:=h;cases ry;refine is_none_gen (b8 I q ?_)
 cases x<;>first
  |(cases rx;rfl)
  |(obtain⟨t,rfl⟩:=rx;rfl)
def iM:b6 X (compareOp .IsNot) (λx y H Q=>y=.aH/\Q (.bl (!decide (x=.aH))) H):=by
 intro pins s σ H x y v u Q I rx ry h;obtain⟨rfl,q⟩:=h;cases ry;refine isnot_none_gen (b8 I q ?_)
 cases x<;>first
  |(cases rx;rfl)
  |(obtain⟨t,rfl⟩:=rx;rfl)
def aG(b:Expr){op:CmpOp}(h:op≠.In:=by decide)(h2:op≠.NotIn:=by decide):behindInMarks op b=false:=by
 have e1:(op==CmpOp.In)=false:=by cases op<;>first|rfl|exact absurd rfl h
 have e2:(op==CmpOp.NotIn)=false:=by cases op<;>first|rfl|exact absurd rfl h2
 cases b<;>simp[behindInMarks,e1,e2]
def iN{op:CmpOp}{r:R2}(ho:b6 X (compareOp op) r)(ha:PE X a ta)(hb:PE X b tb)(hm:behindInMarks op b=false):PE X (.Compare a [op] [b] pos) (pC r ta tb):=by
 intro pins s σ H Q I h;exact wpAny_Compare1 (BW ha hb I h λv u s2 x y H2 I2 rx ry q=>ho pins s2 σ H2 x y v u Q I2 rx ry q) hm
def acz(t:TE):TT:=λσ H Q=>t σ H λx H'=>Cy Q x H'
def aJ{op:CmpOp}{r:R2}(ho:b6 X (compareOp op) r)(ha:PE X a ta)(hb:PE X b tb)(hm:behindInMarks op b=false):PT X (.Compare a [op] [b] pos) (acz (pC r ta tb)):=by
 intro pins s σ H Q I h
 refine wpAny_isTrue_Compare1 (aA (ha pins s σ H _ I h) λv s1 ⟨x,H1,I1,r1,q1⟩=>aA (hb pins s1 σ H1 _ I1 q1) λu s2 ⟨y,H2,I2,r2,q2⟩=>
  aA (ho pins s2 σ H2 x y v u _ I2 r1 r2 q2) λc s3 ⟨z,H3,I3,r3,k,e,q3⟩=>?_) hm
 subst e;cases r3;exact wpAny_truthy_bool ⟨H3,I3,q3⟩
def NS(K:PySem.W.Frag)(x:V)(H:Hp)(k:Bool):Prop:=
 match x with
 |.aH=>k=false
 |.bl b=>k=b
 |.int i=>k=(i !=0)
 |.str y=>y.length<=sizeLine/\k=((y.length:Int) !=0)
 |.iy y=>y.size<=sizeLine/\k=((y.size:Int) !=0)
 |.ref p=>(∃xs,ah K H p xs/\k= !xs.isEmpty)\/(∃xs,aZ K H p xs/\k= !xs.isEmpty)\/∃kvs,H p=some (.dK kvs)/\k= !kvs.isEmpty
 |_=>False
def S3{κ:Type}{kvs:List (κ×V)}{vs:List (κ×Value)}(r:KV kvs vs):(!vs.isEmpty)= !kvs.isEmpty:=by
 cases r<;>rfl
def GO{xs:List V}{aj:List Value}(r:Vals xs aj):(!aj.toArray.isEmpty)= !xs.isEmpty:=by
 cases r<;>simp
def sJ:(sizeLine:Nat)<2^ 63:=by rw[sizeLine_eq];decide
def abg:adD X (λx H Q=>∃k,NS X.K x H k/\Q k H):=by
 intro pins s σ H x v Q I rx h;obtain⟨k,e,q⟩:=h;have hl:=sJ;have hs:sizeLine=16777216:=sizeLine_eq;cases x with
 |aH=>
  cases rx;have e':k=false:=e;subst e';exact truthy_none ⟨H,I,q⟩
 |bl b=>
  cases rx;have e':k=b:=e;subst e';exact wpAny_truthy_bool ⟨H,I,q⟩
 |int i=>
  obtain⟨t,rfl⟩:=rx;have e':k=(i !=0):=e;subst e';exact PySem.P.truthy_int ⟨H,I,q⟩
 |str y=>
  obtain⟨t,rfl⟩:=rx;obtain⟨hy,e'⟩:y.length<=sizeLine/\k=((y.length:Int) !=0):=e;subst e';exact PySem.P.truthy_str (by omega) ⟨H,I.tok _,q⟩
 |iy y=>
  obtain⟨t,rfl⟩:=rx;obtain⟨hy,e'⟩:y.size<=sizeLine/\k=((y.size:Int) !=0):=e;subst e';exact PySem.W.truthy_bytes (by omega) ⟨H,I.tok _,q⟩
 |ref p=>
  cases rx;have e':(∃xs,ah X.K H p xs/\k= !xs.isEmpty)\/(∃xs,aZ X.K H p xs/\k= !xs.isEmpty)\/∃kvs,H p=some (.dK kvs)/\k= !kvs.isEmpty:=e;rcases e' with⟨xs,hx,e'⟩|⟨xs,hx,e'⟩|⟨kvs,hx,e'⟩
  ·subst e';obtain⟨aj,r,pl,hz⟩:=I.list hx;have hlen:=r.length;exact wpAny_truthy_list pl.isList (by simp only[Zl];omega) ⟨H,I.tok _,by rw[GO r];exact q⟩
  ·subst e';obtain⟨aj,r,pl,hz⟩:=I.tuple hx;have hlen:=r.length;exact truthy_tuple pl (by simp only[Zl];omega) ⟨H,I.tok _,by rw[GO r];exact q⟩
  ·subst e';obtain⟨hz,hS,vs,r,m⟩:kvs.length<=sizeLine/\(p==sysModules)=false/\∃vs,KV kvs vs/\s.heap.DictOf (cY X.prog X.w) p vs:=I.ao p _ hx;have hlen:kvs.length=vs.length:=Paired.length r;exact wpAny_truthy_dict hS m (by omega) ⟨H,I.tok _,by rw[S3 r];exact q⟩
 |_=>exact(show False from e).elim
def Je(ha:PE X a ta)(he:∀whole,isTrue a X.env whole=(do let v<-whole;standAt a.pos;holding [v] (truthy v))):
  PT X a (λσ H Q=>ta σ H λx H'=>∃k,NS X.K x H' k/\Q k H'):=by
 intro pins s σ H Q I h;exact isTrue_plain (aA (ha pins s σ H _ I h) λv s1 ⟨x,H1,I1,r1,q1⟩=>abg pins s1 σ H1 x v Q I1 r1 q1) (he _)
def vals1{x:V}{us:List Value}(r:Vals [x] us):∃u,us=[u]/\RelV x u:=by
 cases r with
 |cons r1 r2=>cases r2;exact⟨_,rfl,r1⟩
def vals2{x y:V}{us:List Value}(r:Vals [x,y] us):∃u w',us=[u,w']/\RelV x u/\RelV y w':=by
 cases r with
 |cons r1 r2=>
  cases r2 with
  |cons r3 r4=>cases r4;exact⟨_,_,rfl,r1,r3⟩
def Jf:ig X (.builtin "abs") (λxs H Q=>∃i,xs=[.int i]/\Q (.int (if i<0 then -i else i)) H):=by
 intro pins s σ H xs us Q I r h;obtain⟨i,rfl,q⟩:=h;obtain⟨u,rfl,t,rfl⟩:=vals1 r;exact call_abs_int λu tk=>⟨.int (if i<0 then -i else i),H,I.tok _,⟨_,rfl⟩,q⟩
def zw(hc:X.calm=true):ig X (.builtin "max") (λxs H Q=>∃i j,xs=[.int i,.int j]/\Q (.int (if j>i then j else i)) H):=by
 intro pins s σ H xs us Q I r h;obtain⟨i,j,rfl,q⟩:=h;obtain⟨u,w',rfl,⟨t,rfl⟩,⟨t',rfl⟩⟩:=vals2 r;refine max_two_ints (I.ok.hd hc) λh' tk k=>⟨_,H,I.kept k,?_,q⟩;by_cases hj:j>i
 ·rw[if_pos hj,if_pos hj];exact⟨_,rfl⟩
 ·rw[if_neg hj,if_neg hj];exact⟨_,rfl⟩
def zx(hc:X.calm=true):ig X (.builtin "min") (λxs H Q=>∃i j,xs=[.int i,.int j]/\Q (.int (if j<i then j else i)) H):=by
 intro pins s σ H xs us Q I r h;obtain⟨i,j,rfl,q⟩:=h;obtain⟨u,w',rfl,⟨t,rfl⟩,⟨t',rfl⟩⟩:=vals2 r;refine min_two_ints (I.ok.hd hc) λh' tk k=>⟨_,H,I.kept k,?_,q⟩;by_cases hj:j<i
 ·rw[if_pos hj,if_pos hj];exact⟨_,rfl⟩
 ·rw[if_neg hj,if_neg hj];exact⟨_,rfl⟩
end
structure o6(h:Heap)(x dx C:Addr)(mA:Str->Option Value):Prop where
 obj:h.get? x=some (PySem.W.instObj C dx)
 ns:h.Ns1 dx mA
 ne:dx≠x
def Ur{h:Heap}{dx:Addr}{mA:Str->Option Value}(n:h.Ns1 dx mA):∃od,h.get? dx=some od/\∀name,PySem.W.lookIn name od=some (mA name):=by
 obtain⟨o,es,ep,ho,hd,hk,_,hm⟩:=n;refine⟨o,ho,λname=>?_⟩;have e:=hm name;unfold nsFind findBy at e;rw[<-Array.find?_toList]at e;unfold PySem.W.lookIn;rw[hd];dsimp only;split
 ·rename_i y q;rw[q]at e;exact congrArg some e
 ·rename_i q;rw[q]at e
  have a:es.toList.any (·.refKey)=false:=by
   rw[List.any_eq_false];intro y hy;obtain⟨z,t,B0⟩:=hk y (Array.mem_toList_iff.mp hy);simp[DictEntry.refKey,B0]
  have a':¬es.toList.any (·.refKey)=true:=by rw[a];exact Zk
  rw[if_neg a'];exact congrArg some e
def o6.look{h:Heap}{x dx C:Addr}{mA:Str->Option Value}(I:o6 h x dx C mA):∃od,PySem.W.InstAt h x (PySem.W.instObj C dx) C (some od)/\∀name,PySem.W.lookIn name od=some (mA name):=
 let⟨od,ho,hl⟩:=Ur I.ns
 ⟨od,⟨I.obj,rfl,rfl,ho⟩,hl⟩
section
variable {prog:Program}{w:World}{A:Around}{E:Value->Shared->Prop}{s:Shared}{K:PySem.W.Frag}{x dx C f:Addr}{mA:Str->Option Value}{name:Str}{v:Value}
def get_map{expr:Bool}{Q:Value->Shared->Prop}(X:K.In s.heap)(I:o6 s.heap x dx C mA)(hg:PySem.W.plainGet K C name=true)(hh:PySem.W.hasDictIn K C=true)
  (ha:PySem.W.findIn K (.ref C) name=some none)(hv:mA name=some v)(CA:PySem.W.handedIn v=true)(h:Q v {s with toks:=s.toks+1}):
  wpAny (model prog w) A (getAttr (.ref x) name expr) Q E s:=by
 obtain⟨od,J,hl⟩:=I.look;exact PySem.W.get_value X J (PySem.W.plainGet_of hg).1 (PySem.W.findObj_own hh ha rfl (by rw[hl,hv])) CA h
def Wq{pl:Sem Bool}{Q:Value×List Value->Shared->Prop}(X:K.In s.heap)(I:o6 s.heap x dx C mA)(hg:PySem.W.plainGet K C name=true)
  (hf:PySem.W.findIn K (.ref C) name=some (some (.ref f)))(ht:PySem.W.isFn K (.ref f)=true)(hv:mA name=none)(h:Q (.ref f,[.ref x]) s):
  wpAny (model prog w) A (getMethod (.ref x) name pl) Q E s:=by
 obtain⟨od,J,hl⟩:=I.look;exact PySem.W.method_fn X J (PySem.W.plainGet_of hg).1 (PySem.W.plainGet_of hg).2 hf (beq_iff_eq.mp ht) (by show(PySem.W.lookIn name od).map (·.isSome)=some false;rw[hl,hv];rfl) h
def Yw{ns:List Str}{Q:Unit->Shared->Prop}(X:K.In s.heap)(I:o6 s.heap x dx C mA)
  (hs:PySem.W.findIn K (.ref C) "__setattr__"=some (some (.builtin "object.__setattr__")))(hp:PySem.W.plainOver K C=true)(ht:PySem.W.takerIn K C name=some none)(hh:PySem.W.hasDictIn K C=true)
  (hw:PySem.Within mA ns)(hsz:ns.length<=sizeLine)
  (h:∀h',o6 h' x dx C (λy=>if y=name then some v else mA y)->Heap.SameBut dx s.heap h'->Q () {s with heap:=h',toks:=s.toks+2}):
  wpAny (model prog w) A (setAttr (.ref x) name v) Q E s:=by
 obtain⟨od,J,hl⟩:=I.look;refine PySem.W.set_plain X J hs (PySem.W.osa_open (s:={s with toks:=s.toks+1}) (r:=none) X J hp ht λb=>?_);obtain⟨cd,hc,Cw⟩:=PySem.W.any_some hh;have hx:s.heap.get? x=some ⟨.ref C,some dx,.plain, #[]⟩:=I.obj;refine wpAny_bind (ZV (wpAny_bind (wpAny_bind (wpAny_loadPart hx (wpAny_bind (PySem.W.Looks.here (s:={s with toks:=s.toks+1}) (PySem.W.looks_clsIn X hc) ?_))))));rw[Cw];refine ZV (a:=some dx) (wpAny_bind (ZV (wpAny_bind ?_)));refine wpAny_nsSet1 (s:={s with toks:=s.toks+1}) I.ns λh' wU lX=>?_;obtain⟨oD,esD,epD,hoD,hdD,hcD⟩:=wU.count (PySem.Within.cons name v hw);refine wpAny_bind (wpAny_lookBehind hoD (by rw[hdD];exact pastItsLine_dict (ZQ hcD (by rw[ZF];omega))) ?_);exact ZV (h _ ⟨(lX.2 _ (Ne.symm I.ne)).trans I.obj,wU,I.ne⟩ lX)
def Ws{R:Result->Shared->Prop}{vs:List Value}{kw:List (Str×Value)}(X:K.In s.heap)(hm:PySem.W.makesIn K C=true)
  (hi:PySem.W.findIn K (.ref C) "__init__"=some (some (.ref f)))(hf:PySem.W.typeIn K (.ref f)=some (.type "function"))
  (h:codeAny (model prog w) (A.under (.builtin "type.__call__" ⟨.ref C::vs,kw⟩)) (.call (.ref f) ⟨.ref (s.heap.objs.size+1)::vs,kw⟩) (PySem.W.InitBack (s.heap.objs.size+1) R)
   {s with heap:=(s.heap.push PySem.W.emptyDict).push (PySem.W.instObj C s.heap.objs.size)}):
  codeAny (model prog w) A (.call (.ref C) ⟨vs,kw⟩) R s:=by
 obtain⟨hh,g,d,t,os⟩:=s;exact PySem.W.make_core (PySem.W.makes_of X hm) (PySem.W.looks_findIn X hi) (λself=>PySem.W.bind_fn X self hf) (.inl rfl) h
end
def aY(f:Str)(v:V):List (Str×V)->List (Str×V)
 |[]=>[(f,v)]
 |(g,x)::r=>if g=f then(g,v)::r else(g,x)::aY f v r
def mS(f g:Str)(v:V):∀fs:List (Str×V),(aY f v fs).lookup g=if g=f then some v else fs.lookup g
 |[]=>by
  show List.lookup g [(f,v)]=_;by_cases h:g=f
  ·have hb:(g==f)=true:=beq_iff_eq.mpr h;simp only[List.lookup,hb,if_pos h]
  ·have hb:(g==f)=false:=ZH.mpr h;simp only[List.lookup,hb,if_neg h]
 |(k,x)::r=>by
  have ih:=mS f g v r;rw[show aY f v ((k,x)::r)=(if k=f then(k,v)::r else(k,x)::aY f v r)from rfl];by_cases hk:k=f
  ·rw[if_pos hk];by_cases h:g=k
   ·have hb:(g==k)=true:=beq_iff_eq.mpr h;simp only[List.lookup,hb,if_pos (h.trans hk)]
   ·have hb:(g==k)=false:=ZH.mpr h;simp only[List.lookup,hb,if_neg (λe:g=f=>h (e.trans hk.symm))]
  ·rw[if_neg hk];by_cases h:g=k
   ·have hb:(g==k)=true:=beq_iff_eq.mpr h;simp only[List.lookup,hb,if_neg (λe:g=f=>hk (h.symm.trans e))]
   ·have hb:(g==k)=false:=ZH.mpr h;simp only[List.lookup,hb];exact ih
def zy(f:Str)(v:V):∀fs:List (Str×V),f∈(aY f v fs).map (·.1)/\∀g,g∈fs.map (·.1)->g∈(aY f v fs).map (·.1)
 |[]=>⟨by simp[aY],λg h=>by simp at h⟩
 |(k,x)::r=>by
  obtain⟨i1,i2⟩:=zy f v r;rw[show aY f v ((k,x)::r)=(if k=f then(k,v)::r else(k,x)::aY f v r)from rfl];by_cases hk:k=f
  ·rw[if_pos hk];subst hk;exact⟨by simp,λg h=>by simpa using h⟩
  ·rw[if_neg hk];refine⟨?_,λg h=>?_⟩
   ·rw[Zr];exact Y4 _ i1
   ·rw[Zr]at h⊢;rcases Y5.mp h with e|e
    ·exact Y5.mpr (.inl e)
    ·exact Y4 _ (i2 g e)
def Gz(f:Str)(v:V):∀fs:List (Str×V),(aY f v fs).length<=fs.length+1
 |[]=>by simp[aY]
 |(k,x)::r=>by
  have ih:=Gz f v r;rw[show aY f v ((k,x)::r)=(if k=f then(k,v)::r else(k,x)::aY f v r)from rfl];by_cases hk:k=f
  ·rw[if_pos hk,ZF,ZF];omega
  ·rw[if_neg hk,ZF,ZF];omega
def fJ.some_of{v:V}{o:Option Value}(r:fJ (some v) o):∃u,o=some u/\RelV v u:=by
 cases o with
 |none=>exact(show False from r).elim
 |some u=>exact⟨u,rfl,r⟩
def fJ.none_of{o:Option Value}(r:fJ none o):o=none:=by
 cases o with
 |none=>rfl
 |some u=>exact(show False from r).elim
def Us{v:V}{u:Value}(r:RelV v u):PySem.W.handedIn u=true:=by
 cases v with
 |aH=>cases(show u=Value.none from r);rfl
 |bl b=>cases(show u=Value.bool b from r);rfl
 |int i=>obtain⟨t,e⟩:=(show∃t,u=Value.int i t from r);cases e;rfl
 |str x=>obtain⟨t,e⟩:=(show∃t,u=Value.str x t from r);cases e;rfl
 |iy b=>obtain⟨t,e⟩:=(show∃t,u=Value.bytes b t from r);cases e;rfl
 |ph b=>obtain⟨t,e⟩:=(show∃t,u=Value.float b t from r);cases e;rfl
 |ref a=>cases(show u=Value.ref a from r);rfl
 |ty n=>cases(show u=Value.type n from r);rfl
section
variable {P:Program}{w:World}{H H':Hp}{h h':Heap}{a C dx:Addr}{fs qK:List (Str×V)}
def vm(ao:bK P w H h)(e:H a=some (.ins C dx fs)):∃mA,o6 h a dx C mA/\(∀f,fJ (fs.lookup f) (mA f))/\PySem.Within mA (fs.map (·.1))/\fs.length<=1000/\H dx=some (.own a):=by
 obtain⟨d,z,ne,ob,mA,n,r,q⟩:=(show bU P w H h a (.ins C dx fs)from ao a _ e);exact⟨mA,⟨ob,n,ne⟩,r,q,z,d⟩
end
structure eV(K:PySem.W.Frag)(C:Addr):Prop where
 pg:PySem.W.plainGet K C Str.empty=true
 hd:PySem.W.hasDictIn K C=true
 po:PySem.W.plainOver K C=true
 sa:PySem.W.findIn K (.ref C) "__setattr__"=some (some (.builtin "object.__setattr__"))
def eV.get{K:PySem.W.Frag}{C:Addr}(c:eV K C)(f:Str):PySem.W.plainGet K C f=true:=c.pg
def NoAttr(K:PySem.W.Frag)(C:Addr)(f:Str):Prop:=PySem.W.findIn K (.ref C) f=some none
def NoAttr.acA{K:PySem.W.Frag}{C:Addr}{f:Str}(n:NoAttr K C f):PySem.W.takerIn K C f=some none:=by
 unfold PySem.W.takerIn;rw[show PySem.W.findIn K (.ref C) f=some none from n]
 rfl
structure Meth(K:PySem.W.Frag)(C:Addr)(m:Str)(f:Addr):Prop where
 at_:PySem.W.findIn K (.ref C) m=some (some (.ref f))
 fn:PySem.W.isFn K (.ref f)=true
 kp:PySem.W.keepIn K (.ref f)=true
section
variable {X:Cx}{pins:List (Addr×Obj)}{σ:St}{H:Hp}{s:Shared}{a C dx:Addr}{fs:List (Str×V)}{f:Str}{v:V}{A:Around}{E:Value->Shared->Prop}
def GP{b:Bool}{Q:Value->Shared->Prop}(I:Inv X pins σ H s)(e:H a=some (.ins C dx fs))(c:eV X.K C)(n:NoAttr X.K C f)(l:fs.lookup f=some v)
  (h:∀u s',Inv X pins σ H s'->RelV v u->Q u s'):wpAny (model X.prog X.w) A (getAttr (.ref a) f b) Q E s:=by
 obtain⟨mA,O,r,_,_,_⟩:=vm I.ao e;obtain⟨u,hu,ru⟩:=fJ.some_of (v:=v) (o:=mA f) (by rw[<-l];exact r f);exact get_map I.cR O (c.get f) c.hd n hu (Us ru) (h u _ (I.tok _) ru)
def zf{m:Str}{g:Addr}{pl:Sem Bool}{Q:Value×List Value->Shared->Prop}(I:Inv X pins σ H s)(e:H a=some (.ins C dx fs))(c:eV X.K C)(k:Meth X.K C m g)(l:fs.lookup m=none)
  (h:Q (.ref g,[.ref a]) s):wpAny (model X.prog X.w) A (getMethod (.ref a) m pl) Q E s:=by
 obtain⟨mA,O,r,_,_,_⟩:=vm I.ao e;have hn:mA m=none:=fJ.none_of (by rw[<-l];exact r m);exact Wq I.cR O (c.get m) k.at_ k.fn hn h
def zg{y:V}{u:Value}{Q:Unit->Shared->Prop}(I:Inv X pins σ H s)(e:H a=some (.ins C dx fs))(c:eV X.K C)(n:NoAttr X.K C f)(hl:fs.length<1000)(ry:RelV y u)
  (h:∀s',Inv X pins σ (upd H a (.ins C dx (aY f y fs))) s'->Q () s'):wpAny (model X.prog X.w) A (setAttr (.ref a) f u) Q E s:=by
 obtain⟨mA,O,r,wi,_,ho⟩:=vm I.ao e;have hz:(fs.map (·.1)).length<=sizeLine:=by rw[Y1,sizeLine_eq];omega
 refine Yw I.cR O c.sa c.po n.acA c.hd wi hz λh' O' sb=>h _ ?_;have hd:∃o,h'.get? dx=some o:=let⟨o,_,_,e',_⟩:=O'.ns;⟨o,e'⟩
 refine I.write (x:=a) (e:=dx) (by rw[e];exact True.intro) (.inr ho) (λb q hb z=>(sb.2 b hb).trans z) hd ?_;refine⟨by rw[ai O.ne];exact ho,?_,O.ne,O'.obj,_,O'.ns,λg=>?_,λg hg=>?_⟩
 ·have:=Gz f y fs;omega
 ·show fJ ((aY f y fs).lookup g) (if g=f then some u else mA g);rw[mS];by_cases q:g=f
  ·rw[if_pos q,if_pos q];exact ry
  ·rw[if_neg q,if_neg q];exact r g
 ·by_cases q:g=f
  ·rw[q];exact(zy f y fs).1
  ·refine(zy f y fs).2 g (wi g λz=>hg ?_);show(if g=f then some u else mA g)=none;rw[if_neg q];exact z
def Inv.made(I:Inv X pins σ H s):Inv X pins σ (upd (upd H s.heap.objs.size (.own (s.heap.objs.size+1))) (s.heap.objs.size+1) (.ins C s.heap.objs.size []))
  {s with heap:=(s.heap.push PySem.W.emptyDict).push (PySem.W.instObj C s.heap.objs.size)}:=by
 have e1:(s.heap.push PySem.W.emptyDict).get? s.heap.objs.size=some PySem.W.emptyDict:=Zq s.heap rfl
 have e2:((s.heap.push PySem.W.emptyDict).push (PySem.W.instObj C s.heap.objs.size)).get? (s.heap.objs.size+1)=some (PySem.W.instObj C s.heap.objs.size):=by
  have:=Zq (s.heap.push PySem.W.emptyDict) (o:=PySem.W.instObj C s.heap.objs.size) rfl
  rwa [Heap.size_push]at this
 have e3:(s.heap.push PySem.W.emptyDict).Ns s.heap.objs.size (λ_=>none):=⟨PySem.W.emptyDict, #[],_,e1,rfl,(λe he=>absurd he (by simp)),λ_=>rfl⟩;have I1:=I.laid (a:=s.heap.objs.size) (o:=.own (s.heap.objs.size+1)) (h':=s.heap.push PySem.W.emptyDict) (t':=s.toks) (λb u q=>Y8 _ q) (Y3 _) ⟨_,e1⟩;refine I1.laid (a:=s.heap.objs.size+1) (o:=.ins C s.heap.objs.size []) (t':=s.toks) (λb u q=>Y8 _ q) (Nat.le_of_eq (Heap.size_push _ _)) ?_;have ne:s.heap.objs.size≠s.heap.objs.size+1:=Zn (Nat.lt_succ_self _);refine⟨by rw[ai ne,ak],Zp _,ne,e2,λ_=>none,(Heap.Ns1.of_empty e3).at λo q=>Y8 _ q,λ_=>True.intro,λy hy=>absurd rfl hy⟩
def Yx{prog:Program}{w:World}{env:Env}{e:Expr}{f:Str}{pos:Pos}{s:Shared}{Q:Value->Shared->Prop}(hb:attributeBase e f env (eval e env)=eval e env)
  (h:wpAny (model prog w) A (eval e env) (λo s₁=>wpAny (model prog w) A (getAttr o f true) Q E s₁) E s):wpAny (model prog w) A (eval (.Attribute e f pos) env) Q E s:=
 Attribute_any_ h (by rw[arm_eval_Attribute,hb])
end
inductive Nb(K:PySem.W.Frag)(f:Str)(Q:VK)(x:V)(H1:Hp):Prop
 |mk (a C dx:Addr) (fs:List (Str×V)) (v:V) (_:x=.ref a) (_:H1 a=some (.ins C dx fs)) (_:eV K C) (_:NoAttr K C f) (_:fs.lookup f=some v) (_:Q v H1):Nb K f Q x H1
def tJ(K:PySem.W.Frag)(ta:TE)(f:Str):TE:=λσ H Q=>ta σ H λx H1=>Nb K f Q x H1
def NT(K:PySem.W.Frag)(ta tv:TE)(f:Str):TS:=λD σ H=>tv σ H λy H1=>ta σ H1 λx H2=>∃a C dx fs,x=.ref a/\H2 a=some (.ins C dx fs)/\eV K C/\NoAttr K C f/\fs.length<1000/\
 D.nx σ (upd H2 a (.ins C dx (aY f y fs)))
def NU(X:Cx)(op:Operator)(rd:V->V->Hp->VK->Prop):Prop:=
 ∀(pins:List (Addr×Obj)) (s:Shared) (σ:St) (H:Hp) (x y:V) (u v:Value) (Q:VK),Inv X pins σ H s->RelV x u->RelV y v->rd x y H Q->wpAny (model X.prog X.w) X.A (inplaceOp op u v) (EP X pins σ Q) X.xe s
def Yy(K:PySem.W.Frag)(ta tv:TE)(rd:V->V->Hp->VK->Prop)(f:Str):TS:=λD σ H=>ta σ H λx H1=>∃a C dx fs v,x=.ref a/\H1 a=some (.ins C dx fs)/\eV K C/\NoAttr K C f/\fs.lookup f=some v/\
 tv σ H1 λy H2=>rd v y H2 λz H3=>∃CB qK,H3 a=some (.ins C CB qK)/\qK.length<1000/\D.nx σ (upd H3 a (.ins C CB (aY f z qK)))
section
variable {X:Cx}{o e value:Expr}{f:Str}{pos pos' NV:Pos}{ta tv:TE}
def aS(he:PE X e ta)(hb:attributeBase e f X.env (eval e X.env)=eval e X.env):PE X (.Attribute e f pos) (tJ X.K ta f):=by
 intro pins s σ H Q I h;refine Yx hb (aA (he pins s σ H _ I h) λu s1 ⟨x,H1,I1,rx,a,C,dx,fs,v,ex,ea,c,n,l,q⟩=>?_);subst ex;obtain rfl:u=Value.ref a:=rx;exact GP I1 ea c n l λu' s2 I2 ru=>⟨v,H1,I2,ru,q⟩
def fU(ha:PE X o ta)(hv:PE X value tv)(hs:swapsWith value (some (.Attribute o f pos')) pos.line X.env=pure false):PS X (.Assign [.Attribute o f pos'] value pos) (NT X.K ta tv f):=by
 intro pins s σ H D I h;refine plainObj_wpAny_Assign_Attribute (aA (hv pins s σ H _ I h) λu s1 ⟨y,H1,I1,ry,q⟩=>aA (ha pins s1 σ H1 _ I1 q) λov s2 ⟨x,H2,I2,rx,a,C,dx,fs,ex,ea,c,n,l,q2⟩=>?_) hs;subst ex;obtain rfl:ov=Value.ref a:=rx;exact zg I2 ea c n l ry λs3 I3=>⟨σ,_,I3,q2⟩
def Ht{op:Operator}{rd:V->V->Hp->VK->Prop}(ha:PE X o ta)(hv:PE X value tv)(hop:NU X op rd):PS X (.AugAssign (.Attribute o f NV) op value pos) (Yy X.K ta tv rd f):=by
 intro pins s σ H D I h;refine wpAny_AugAssign_AttributeAny (aA (ha pins s σ H _ I h) λov s1 ⟨x,H1,I1,rx,a,C,dx,fs,v,ex,ea,c,n,l,q⟩=>?_);subst ex;obtain rfl:ov=Value.ref a:=rx;refine GP I1 ea c n l λu s2 I2 ru=>aA (hv pins s2 σ H1 _ I2 q) λw3 s3 ⟨y,H2,I3,ry,q3⟩=>aA (hop pins s3 σ H2 v y u w3 _ I3 ru ry q3) λw4 s4 ⟨z,H3,I4,rz,CB,qK,ea',l',q4⟩=>?_;exact zg I4 ea' c n l' rz λs5 I5=>⟨σ,_,I5,q4⟩
def adG:V->V->Hp->VK->Prop:=λx y H Q=>∃i j,x=.int i/\y=.int j/\Q (.int (i+j)) H
def LZ:NU X .Add adG:=by
 rintro pins s σ H x y u v Q I rx ry ⟨i,j,rfl,rfl,q⟩;obtain⟨t,rfl⟩:=(show∃t,u=Value.int i t from rx);obtain⟨t',rfl⟩:=(show∃t',v=Value.int j t' from ry);exact PyProof.Rows.iadd_int ⟨.int (i+j),H,I.tok _,⟨_,rfl⟩,q⟩
end
section
variable {X:Cx}{pins:List (Addr×Obj)}{σ:St}{H:Hp}{s:Shared}{A:Around}{E:Value->Shared->Prop}{Q:Value->Shared->Prop}{c:Value}{b:Bool}
inductive iU(K:PySem.W.Frag)(H:Hp):V->Value->Prop where
 |aH:iU K H .aH (.type "NoneType")
 |bl (x:Bool):iU K H (.bl x) (.type "bool")
 |int (i:Int):iU K H (.int i) (.type "int")
 |str (x:Str):iU K H (.str x) (.type "str")
 |ph (x:UInt64):iU K H (.ph x) (.type "float")
 |lst {a:Addr}{xs:List V} (e:H a=some (.lst xs)):iU K H (.ref a) (.type "list")
 |c5 {a:Addr}{o:Obj}{xs:List V} (e:H a=some (.c5 o (.lst xs))):iU K H (.ref a) (.type "list")
 |tup {a:Addr}{xs:List V} (e:H a=some (.tup xs)):iU K H (.ref a) (.type "tuple")
 |dK {a:Addr}{kvs:List (Key×V)} (e:H a=some (.dK kvs)):iU K H (.ref a) (.type "dict")
 |dT {a:Addr}{kvs:List (List Key×V)} (e:H a=some (.dT kvs)):iU K H (.ref a) (.type "dict")
 |ins {a C dx:Addr}{fs:List (Str×V)} (e:H a=some (.ins C dx fs)) (cl:eV K C) (ha:PySem.W.findIn K (.ref C) "__class__"=some (some (.builtin "object.__class__")))
  (hn:PySem.W.specialIn K (.builtin "object.__class__") "__get__"=some (some (.builtin "getset_descriptor.__get__"))) (OD:PySem.W.takesIn K (.builtin "object.__class__")=some true)
  (hm:PySem.W.mroIn K C (.type "object")=some true):iU K H (.ref a) (.ref C)
def Ut{x:V}{u t:Value}(I:Inv X pins σ H s)(rx:RelV x u)(ty:iU X.K H x t)(e:PySem.W.kitOne X.K t c=some b)(h:∀tk,Q (.bool b) {s with toks:=tk}):
  wpAny (model X.prog X.w) A (call (.builtin "isinstance") [u,c]) Q E s:=by
 cases ty with
 |aH=>cases(show u=Value.none from rx);exact PySem.W.kia_one PySem.W.kitx_none I.cR True.intro e (λz=>nomatch z) h
 |bl y=>cases(show u=Value.bool y from rx);exact PySem.W.kia_one PySem.W.kitx_bool I.cR True.intro e (λz=>nomatch z) h
 |int i=>obtain⟨t,q⟩:=(show∃t,u=Value.int i t from rx);cases q;exact PySem.W.kia_one PySem.W.kitx_int I.cR True.intro e (λz=>nomatch z) h
 |str y=>obtain⟨t,q⟩:=(show∃t,u=Value.str y t from rx);cases q;exact PySem.W.kia_one PySem.W.kitx_str I.cR True.intro e (λz=>nomatch z) h
 |ph y=>obtain⟨t,q⟩:=(show∃t,u=Value.float y t from rx);cases q;exact PySem.W.kia_one PySem.W.kitx_float I.cR True.intro e (λz=>nomatch z) h
 |@lst a xs ea=>
  cases(show u=Value.ref a from rx);obtain⟨_,_,n,_,h1⟩:=(show bU X.prog X.w H s.heap a (.lst xs)from I.ao a _ ea);exact PySem.W.kia_one PySem.W.kitx_list I.cR ⟨_,h1,rfl⟩ e (λz=>nomatch z) h
 |@c5 a ob xs ea=>
  cases(show u=Value.ref a from rx);obtain⟨_,_,_,n,_,h1⟩:=(show bU X.prog X.w H s.heap a (.c5 ob (.lst xs))from I.ao a _ ea);exact PySem.W.kia_one PySem.W.kitx_list I.cR ⟨_,h1,rfl⟩ e (λz=>nomatch z) h
 |@tup a xs ea=>
  cases(show u=Value.ref a from rx);obtain⟨_,_,_,p⟩:=(show bU X.prog X.w H s.heap a (.tup xs)from I.ao a _ ea);obtain⟨o,h1,h2,_⟩:=p;exact PySem.W.kia_one PySem.W.kitx_tuple I.cR ⟨o,h1,h2⟩ e (λz=>nomatch z) h
 |@dK a kvs ea=>
  cases(show u=Value.ref a from rx);obtain⟨_,_,vs,_,p⟩:=(show bU X.prog X.w H s.heap a (.dK kvs)from I.ao a _ ea);obtain⟨o,es,ep,h1,h2,_⟩:=p;exact PySem.W.kia_one PySem.W.kitx_dict I.cR ⟨o,h1,h2.1⟩ e (λz=>nomatch z) h
 |@dT a kvs ea=>
  cases(show u=Value.ref a from rx);obtain⟨_,_,xs,_,o,es,ep,h1,h2,_⟩:=(show bU X.prog X.w H s.heap a (.dT kvs)from I.ao a _ ea);exact PySem.W.kia_one PySem.W.kitx_dict I.cR ⟨o,h1,h2.1⟩ e (λz=>nomatch z) h
 |@ins a C dx fs ea cl ha hn OD hm=>
  cases(show u=Value.ref a from rx);obtain⟨mA,O,_⟩:=vm I.ao ea;obtain⟨od,J,_⟩:=O.look;exact PySem.W.kia_one (PySem.W.kitx_own (cl.get _) cl.hd ha hn OD hm) I.cR J e (λz=>nomatch z) h
end
structure bR(k:Nat)(A:Around):Prop where
 hd:A.handled=none
 dp:A.depth+3*k+5<recursionLimit
 un:A.units+16*k+200<cLine
def bR.mono{j k:Nat}{A:Around}(r:bR k A)(h:j<=k):bR j A:=⟨r.hd,by have:=r.dp;omega,by have:=r.un;omega⟩
def bR.deeper{k:Nat}{A:Around}(r:bR (k+1) A)(env:Env):bR k (A.deeper env):=
 ⟨r.hd,by have:=r.dp;show A.depth+1+3*k+5<_;omega,by have:=r.un;show A.units+3+16*k+200<_;omega⟩
def S4{A:Around}{C:Addr}{us:List Value}{kw:List (Str×Value)}:(A.under (.builtin "type.__call__" ⟨.ref C::us,kw⟩)).depth=A.depth+1:=by
 first|rfl|simp[Around.under,Code.weight,Code.isCreation,Code.isGuard,Code.isCaller,Code.frames,Code.isFrame,guardIds]
def S5{A:Around}{C:Addr}{us:List Value}{kw:List (Str×Value)}:(A.under (.builtin "type.__call__" ⟨.ref C::us,kw⟩)).units=A.units+1:=by
 first|rfl|simp[Around.under,Code.cUnits,Code.frames,Code.isFrame]
def bR.make{k:Nat}{A:Around}(r:bR (k+1) A)(C:Addr)(us:List Value)(kw:List (Str×Value)):bR k (A.under (.builtin "type.__call__" ⟨.ref C::us,kw⟩)):=
 ⟨r.hd,by have:=r.dp;rw[S4];omega,by have:=r.un;rw[S5];omega⟩
def bR.depth{k:Nat}{A:Around}(r:bR k A):A.depth<recursionLimit:=by have:=r.dp;omega
def bR.units{k:Nat}{A:Around}(r:bR k A):A.units+64<cLine:=by have:=r.un;omega
def kM:TA:=λ_ H Q=>Q [] H
def kH(ta:TE)(tr:TA):TA:=λσ H Q=>ta σ H λx H1=>tr σ H1 λxs H2=>Q (x::xs) H2
section
variable {X:Cx}{e:Expr}{es:List Expr}{te:TE}{t:TA}{pos:Pos}
def ae:PA X [] kM:=λ_ _ _ _ H Q I h=>Calls.spliced_nil ⟨[],H,I,.nil,h⟩
def aq(ha:PE X e te)(hr:PA X es t)(hs:starEach (e::es) X.env=(false,eval e X.env)::starEach es X.env:=by rfl):PA X (e::es) (kH te t):=by
 intro pos pins s σ H Q I h;rw[hs];show wpAny _ _ (spliced ((false,eval e X.env)::backTo pos (starEach es X.env))) _ _ s;refine Calls.spliced_cons (aA (ha pins s σ H _ I h) λu s1 ⟨x,H1,I1,r1,q1⟩=>?_);exact aA (hr pos pins s1 σ H1 _ I1 q1) λus s2 ⟨xs,H2,I2,r2,q2⟩=>⟨x::xs,H2,I2,.cons r1 r2,q2⟩
def B1(t:TA):TE:=λσ H Q=>t σ H λxs H1=>xs.length<=sizeLine/\∀p,H1 p=none->Q (.ref p) (upd H1 p (.tup xs))
def adH(t:TA):TE:=λσ H Q=>t σ H λxs H1=>xs.length<=sizeLine/\∀p,H1 p=none->Q (.ref p) (upd H1 p (.lst xs))
def cW{x1}(h:PA X es t):PE X (.Tuple es x1 pos) (B1 t):=by
 intro pins s σ H Q I hq;refine wpAny_Tuple_spliced (aA (h pos pins s σ H _ I hq) λus s1 ⟨xs,H1,I1,r,z,q⟩=>⟨by rw[<-r.length];exact z,?_⟩);have hf:H1 s1.heap.objs.size=none:=I1.ao.fresh (Y3 _);refine⟨.ref s1.heap.objs.size,upd H1 s1.heap.objs.size (.tup xs),I1.laid (t':=s1.toks) (λb u e=>Y8 _ e) (Y3 _) ?_,rfl,q _ hf⟩;exact⟨z,us,r,⟨_,Zq _ rfl,rfl,_,rfl⟩⟩
def oQ(h:PA X es t):PE X (.List es pos) (adH t):=by
 intro pins s σ H Q I hq;refine wpAny_List_spliced (aA (h pos pins s σ H _ I hq) λus s1 ⟨xs,H1,I1,r,z,q⟩=>⟨by rw[<-r.length];exact z,?_⟩);have hf:H1 s1.heap.objs.size=none:=I1.ao.fresh (Y3 _);refine⟨.ref s1.heap.objs.size,upd H1 s1.heap.objs.size (.lst xs),I1.laid (t':=s1.toks) (λb u e=>Y8 _ e) (Y3 _) ?_,rfl,q _ hf⟩;exact⟨z,us,0,r,Zq _ rfl⟩
end
abbrev Sp:=List V->Hp->VK->XK->Prop
abbrev jz:=List Env->Hp->Shared->XK->Value->Shared->Prop
structure o7(P:Program)(w:World)(K:PySem.W.Frag)(mg:Str->Option Value)(base:Heap)(A:Around)(outer:List Env)(s:Shared)(H:Hp):Prop where
 frames:A.frames=some outer
 mod:Mod K mg base
 bs:∀b o,base.get? b=some o->s.heap.get? b=some o/\H b=none
 iW:base.objs.size<=s.heap.objs.size
 gX:s.heap.FunFrames base outer
 nP:∀b∈bW outer,H b=none
 ao:bK P w H s.heap
 bare:AllBare s.gens
def CE(outer:List Env)(P:Program)(w:World)(H:Hp)(s:Shared)(Q:VK)(u:Value)(s':Shared):Prop:=
 ∃v H',s'.os=s.os/\AllBare s'.gens/\Un (bW outer) [] H H' s.heap s'.heap/\bK P w H' s'.heap/\RelV v u/\Q v H'
def CR(CX:jz)(outer:List Env)(P:Program)(w:World)(H:Hp)(s:Shared)(Q:VK)(E:XK)(r:Result)(s':Shared):Prop:=
 match r with
 |.ok (.ret u)=>CE outer P w H s Q u s'
 |.ok _=>False
 |.error e=>CX outer H s E e s'
structure az(P:Program)(w:World)(K:PySem.W.Frag)(mg:Str->Option Value)(base:Heap)(CX:jz)(k:Nat)(f:Addr)(fd:FuncData)(ps:List Str)(sp:Sp):Prop where
 len:∀vs H Q E,sp vs H Q E->vs.length=ps.length
 run:∀(A:Around) (outer:List Env) (s:Shared) (H:Hp) (args:Args) (us:List Value) (vs:List V) (Q:VK) (E:XK),bR k A->o7 P w K mg base A outer s H->BindsTo s fd args (ps.zip us)->Vals vs us->sp vs H Q E->
  codeAny (model P w) A (.call (.ref f) args) (CR CX outer P w H s Q E) s
def az.imp{P:Program}{w:World}{K:PySem.W.Frag}{mg:Str->Option Value}{base:Heap}{CX:jz}{k:Nat}{f:Addr}{fd:FuncData}{ps:List Str}{sp OE:Sp}(F:az P w K mg base CX k f fd ps sp)
  (h:∀vs H Q E,OE vs H Q E->sp vs H Q E):az P w K mg base CX k f fd ps OE:=
 ⟨λvs H Q E q=>F.len vs H Q E (h _ _ _ _ q),λA outer s H args us vs Q E hr he hb hv hs=>F.run A outer s H args us vs Q E hr he hb hv (h _ _ _ _ hs)⟩
def o7.make{P:Program}{w:World}{K:PySem.W.Frag}{mg:Str->Option Value}{base:Heap}{A:Around}{outer:List Env}{s:Shared}{H:Hp}(e:o7 P w K mg base A outer s H)(C:Addr)(us:List Value)(kw:List (Str×Value)):
  o7 P w K mg base (A.under (.builtin "type.__call__" ⟨.ref C::us,kw⟩)) outer s H:=⟨by first|exact e.frames|(simpa[Around.under,Code.envs,Code.isFrame,pushEnvs]using e.frames),e.mod,e.bs,e.iW,e.gX,e.nP,e.ao,e.bare⟩
section
variable {X:Cx}{pins:List (Addr×Obj)}{σ:St}{H:Hp}{s s':Shared}
def Inv.B2(I:Inv X pins σ H s):o7 X.prog X.w X.K X.mg X.base X.A X.stack s H:=
 ⟨I.ok.frames,I.ok.mod,I.bs,ZQ I.ok.iW I.sz,I.stack,I.oH,I.ao,I.bare⟩
def Inv.after{Q:VK}{u:Value}(I:Inv X pins σ H s)(h:CE X.stack X.prog X.w H s Q u s'):EP X pins σ Q u s':=by
 obtain⟨v,H',os,bare,un,ao,r,q⟩:=h;obtain⟨hh,g,d,t,os'⟩:=s';obtain rfl:os'=s.os:=os;exact⟨v,H',I.call (h':=hh) (g':=g) (d':=d) (t':=t) (ch:=[]) un ao bare (λb z=>absurd z (by simp)),r,q⟩
end
def vR(sp:Sp)(cj:List V)(E:XK)(t:TA):TE:=λσ H Q=>t σ H λvs H1=>sp (vs++cj) H1 Q E
inductive L0(C:Addr)(m:Str)(sp:Sp)(cj:List V)(E:XK)(t:TA)(σ:St)(Q:VK)(x:V)(H1:Hp):Prop
 |mk (a dx:Addr) (fs:List (Str×V)) (_:x=.ref a) (_:H1 a=some (.ins C dx fs)) (_:fs.lookup m=none) (_:t σ H1 λvs H2=>sp (x::(vs++cj)) H2 Q E):L0 C m sp cj E t σ Q x H1
def jR(C:Addr)(m:Str)(sp:Sp)(cj:List V)(E:XK)(ta:TE)(t:TA):TE:=λσ H Q=>ta σ H λx H1=>L0 C m sp cj E t σ Q x H1
def Nc(C:Addr)(sp:Sp)(cj:List V)(E:XK)(t:TA):TE:=λσ H Q=>t σ H λvs H1=>∀x dx,H1 x=none->H1 dx=none->dx≠x->
 sp (.ref x::(vs++cj)) (upd (upd H1 dx (.own x)) x (.ins C dx [])) (λv H2=>v=.aH/\Q (.ref x) H2) E
def Binds(K:PySem.W.Frag)(fd:FuncData)(ps:List Str)(ds:List Value):Prop:=
 ∀(s:Shared) (us:List Value),K.In s.heap->(us++ds).length=ps.length->BindsTo s fd ⟨us,[]⟩ (ps.zip (us++ds))
def Binds.all{K:PySem.W.Frag}{fd:FuncData}{ps:List Str}(h:∀us:List Value,us.length=ps.length->bindArgs fd ⟨us,[]⟩=pure (ps.zip us)):Binds K fd ps []:=λs us _ hl=>by
 rw[ZX]at hl⊢;exact .of_eq (h us hl)
def Passes(CX:jz)(X:Cx)(E:XK):Prop:=∀(pins:List (Addr×Obj)) (σ:St) (H:Hp) (s:Shared) (e:Value) (s':Shared),Inv X pins σ H s->CX X.stack H s E e s'->X.xe e s'
section
variable {X:Cx}{CX:jz}{k:Nat}{f C:Addr}{fd:FuncData}{ps:List Str}{sp:Sp}{cj:List V}{ds:List Value}{E:XK}{x m:Str}{p pos apos:Pos}{e o:Expr}{es:List Expr}{ta:TE}{t:TA}
def A0{pins:List (Addr×Obj)}{σ:St}{H:Hp}{s:Shared}{Q:VK}{us:List Value}{vs:List V}(F:az X.prog X.w X.K X.mg X.base CX k f fd ps sp)(hr:bR k X.A)(hb:Binds X.K fd ps ds)(hd:Vals cj ds)(hx:Passes CX X E)
  (I:Inv X pins σ H s)(r:Vals vs us)(h:sp (vs++cj) H Q E):wpAny (model X.prog X.w) X.A (call (.ref f) us) (EP X pins σ Q) X.xe s:=by
 have r2:Vals (vs++cj) (us++ds):=r.append hd;have hl:(us++ds).length=ps.length:=by rw[<-r2.length];exact F.len _ _ _ _ h
 refine wpAny_call (codeAny_mono (F.run X.A X.stack s H ⟨us,[]⟩ (us++ds) (vs++cj) Q E hr I.B2 (hb s us I.cR hl) r2 h) λr s' hq=>?_);cases r with
 |error e=>exact hx pins σ H s e s' I hq
 |ok fl=>
  cases fl with
  |ret u=>exact I.after hq
  |next=>exact Zu hq
  |brk=>exact Zu hq
  |cont=>exact Zu hq
def Kf(F:az X.prog X.w X.K X.mg X.base CX k f fd ps sp)(hr:bR k X.A)(hg:Gl X x)(hm:X.mg x=some (.ref f))(hk:PySem.W.keepIn X.K (.ref f)=true)(hb:Binds X.K fd ps ds)(hd:Vals cj ds)(hx:Passes CX X E)
  (ha:PA X (e::es) t)(gc:(x==("__debug__":Str))=false:=by decide)(he:starEach (e::es) X.env=(false,eval e X.env)::starEach es X.env:=by rfl)(bY:(backTo pos (starEach es X.env)).any (·.1)=false:=by rfl):
  PE X (.Call (.Name x p) (e::es) [] pos) (vR sp cj E t):=by
 intro pins s σ H Q I h;refine wpAny_Call_Name_kw (sk I hg hm ?_ gc);refine PySem.W.callWith_K (h₀:=X.base) I.ok.mod.pw hk (aA (ha pos pins s σ H _ I h) λus s1 ⟨vs,H1,I1,r,q⟩=>⟨I1.cR,?_⟩) he bY;exact A0 F hr hb hd hx I1 r q
def Ak{pl:Sem Bool}(he:PE X o ta)(c:eV X.K C)(hm:Meth X.K C m f)(F:az X.prog X.w X.K X.mg X.base CX k f fd ps sp)(hr:bR k X.A)(hb:Binds X.K fd ps ds)(hd:Vals cj ds)(hx:Passes CX X E)(ha:PA X (e::es) t)
  (bM:starEach (e::es) X.env=(false,eval e X.env)::starEach es X.env:=by rfl)(bY:(backTo pos (starEach es X.env)).any (·.1)=false:=by rfl)
  (ht:eval (.Call (.Attribute o m apos) (e::es) [] pos) X.env=(do
   let ov<-eval o X.env
   standAt apos.atName
   let(f,first)<-holding [ov] (getMethod ov m pl)
   callWith pos f first (backTo pos (starEach (e::es) X.env)) (backToKw pos (keywordEach [] X.env))):=by rfl):
  PE X (.Call (.Attribute o m apos) (e::es) [] pos) (jR C m sp cj E ta t):=by
 intro pins s σ H Q I h;refine PySem.W.methodCall_KW (pl:=pl) (aA (he pins s σ H _ I h) λu s1 ⟨x,H1,I1,rx,a,dx,fs,ex,ea,l,q⟩=>?_) ht;subst ex;obtain rfl:u=Value.ref a:=rx;refine zf I1 ea c hm l ?_;refine PySem.W.callWith_K (first:=[.ref a]) (h₀:=X.base) I.ok.mod.pw hm.kp (aA (ha pos pins s1 σ H1 _ I1 q) λus s2 ⟨vs,H2,I2,r,q2⟩=>⟨I2.cR,?_⟩) bM bY;exact A0 (us:=.ref a::us) (vs:=.ref a::vs) F hr hb hd hx I2 (.cons rfl r) q2
def zP{pl:Sem Bool}(he:PE X o ta)(c:eV X.K C)(hm:Meth X.K C m f)(F:az X.prog X.w X.K X.mg X.base CX k f fd ps sp)(hr:bR k X.A)(hb:Binds X.K fd ps ds)(hd:Vals cj ds)(hx:Passes CX X E)
  (ht:eval (.Call (.Attribute o m apos) [] [] pos) X.env=(do
   let ov<-eval o X.env
   standAt apos.atName
   let(f,first)<-holding [ov] (getMethod ov m pl)
   callWith pos f first (backTo pos (starEach [] X.env)) (backToKw pos (keywordEach [] X.env))):=by rfl):
  PE X (.Call (.Attribute o m apos) [] [] pos) (jR C m sp cj E ta kM):=by
 intro pins s σ H Q I h;refine PySem.W.methodCall_KW (pl:=pl) (aA (he pins s σ H _ I h) λu s1 ⟨x,H1,I1,rx,a,dx,fs,ex,ea,l,q⟩=>?_) ht;subst ex;obtain rfl:u=Value.ref a:=rx;refine zf I1 ea c hm l ?_;exact PySem.W.callWith_K0 (first:=[.ref a]) I1.cR hm.kp (A0 (us:=[.ref a]) (vs:=[.ref a]) F hr hb hd hx I1 (.cons rfl .nil) q)
structure Mk(K:PySem.W.Frag)(C f:Addr):Prop where
 makes:PySem.W.makesIn K C=true
 init:PySem.W.findIn K (.ref C) "__init__"=some (some (.ref f))
 fn:PySem.W.isFn K (.ref f)=true
 kp:PySem.W.keepIn K (.ref C)=true
def Wt{pins:List (Addr×Obj)}{σ:St}{H:Hp}{s:Shared}{Q:VK}{us:List Value}{vs:List V}(M:Mk X.K C f)(F:az X.prog X.w X.K X.mg X.base CX k f fd ps sp)(hr:bR (k+1) X.A)(hb:Binds X.K fd ps ds)(hd:Vals cj ds)
  (hx:Passes CX X E)(I:Inv X pins σ H s)(r:Vals vs us)
  (h:∀x dx,H x=none->H dx=none->dx≠x->sp (.ref x::(vs++cj)) (upd (upd H dx (.own x)) x (.ins C dx [])) (λv H2=>v=.aH/\Q (.ref x) H2) E):
  wpAny (model X.prog X.w) X.A (call (.ref C) us) (EP X pins σ Q) X.xe s:=by
 have hq:=h (s.heap.objs.size+1) s.heap.objs.size (I.ao.fresh (Nat.le_succ _)) (I.ao.fresh (Y3 _)) (Zn (Nat.lt_succ_self _));have I2:=Inv.made (C:=C) I;have r2:Vals (V.ref (s.heap.objs.size+1)::(vs++cj)) (Value.ref (s.heap.objs.size+1)::(us++ds)):=.cons rfl (r.append hd)
 have hl:(Value.ref (s.heap.objs.size+1)::us++ds).length=ps.length:=by
  have e:=r2.length;rw[F.len _ _ _ _ hq]at e;exact e.symm
 refine wpAny_call (Ws (f:=f) I.cR M.makes M.init (beq_iff_eq.mp M.fn) (codeAny_mono (F.run _ X.stack _ _ ⟨Value.ref (s.heap.objs.size+1)::us,[]⟩ (Value.ref (s.heap.objs.size+1)::(us++ds)) _ _ E (hr.make C us [])
  (I2.B2.make C us []) (hb _ (Value.ref (s.heap.objs.size+1)::us) I2.cR hl) r2 hq) λr s' qM=>?_))
 cases r with
 |error e=>exact hx pins σ _ _ e s' I2 qM
 |ok fl=>
  cases fl with
  |ret u=>
   obtain⟨v,H',I3,rv,ev,q3⟩:=I2.after qM;subst ev;exact⟨rv,⟨V.ref (s.heap.objs.size+1),H',I3,rfl,q3⟩⟩
  |next=>exact Zu qM
  |brk=>exact Zu qM
  |cont=>exact Zu qM
def Yz(M:Mk X.K C f)(F:az X.prog X.w X.K X.mg X.base CX k f fd ps sp)(hr:bR (k+1) X.A)(hg:Gl X x)(hm:X.mg x=some (.ref C))(hb:Binds X.K fd ps ds)(hd:Vals cj ds)(hx:Passes CX X E)
  (ha:PA X (e::es) t)(gc:(x==("__debug__":Str))=false:=by decide)(he:starEach (e::es) X.env=(false,eval e X.env)::starEach es X.env:=by rfl)(bY:(backTo pos (starEach es X.env)).any (·.1)=false:=by rfl):
  PE X (.Call (.Name x p) (e::es) [] pos) (Nc C sp cj E t):=by
 intro pins s σ H Q I h;refine wpAny_Call_Name_kw (sk I hg hm ?_ gc);refine PySem.W.callWith_K (h₀:=X.base) I.ok.mod.pw M.kp (aA (ha pos pins s σ H _ I h) λus s1 ⟨vs,H1,I1,r,q⟩=>⟨I1.cR,?_⟩) he bY;exact Wt M F hr hb hd hx I1 r q
end
structure aM(N P:List Str)(sc:Scope):Prop where
 kind:sc.kind=.function
 co:sc.isCoroutine=false
 gen:sc.isGenerator=false
 nd:N.Nodup
 pre:N.take P.length=P
 par:∀x∈P,sc.names.lookup x=some .local\/sc.names.lookup x=some .cell
 abh:∀y∈sc.names,y.2≠.free
def Hu{kindOf:Str->Option NameKind}{x:Str}:∀{binds:List (Str×Value)}{m:Str->Option Value},(∀v,(x,v)∉binds)->bindL kindOf binds m x=m x
 |[],_,_=>rfl
 |(n,v)::r,m,h=>by
  unfold bindL;rw[Hu λw hw=>h w (Y4 _ hw)];split
  ·have:x≠n:=by rintro rfl;exact h v Y9
   simp[this]
  ·rfl
def Hv{kindOf:Str->Option NameKind}{x:Str}:∀{binds:List (Str×Value)}{m:Str->Option Value},(∀v,(x,v)∉binds)->bindC kindOf binds m x=m x
 |[],_,_=>rfl
 |(n,v)::r,m,h=>by
  unfold bindC;rw[Hv λw hw=>h w (Y4 _ hw)];split
  ·rfl
  ·have:x≠n:=by rintro rfl;exact h v Y9
   simp[this]
def Hw{kindOf:Str->Option NameKind}{x:Str}{v:Value}:∀{P:List Str}{vs:List Value}{i:Nat}{m:Str->Option Value},P.Nodup->P[i]?=some x->vs[i]?=some v->kindOf x=some .local->
  bindL kindOf (P.zip vs) m x=some v
 |[],_,_,_,_,h,_,_=>by simp at h
 |_::_,[],_,_,_,_,h,_=>by simp at h
 |p::P,w::vs,0,m,nd,h1,h2,hk=>by
  simp at h1 h2;subst h1;subst h2;show bindL kindOf ((p,w)::P.zip vs) m p=_;unfold bindL;rw[Hu λv hv=>(ZG.mp nd).1 (List.of_mem_zip hv).1,if_pos hk];simp
 |p::P,w::vs,i+1,m,nd,h1,h2,hk=>by
  show bindL kindOf ((p,w)::P.zip vs) m x=_;unfold bindL;exact Hw (i:=i) (ZG.mp nd).2 (by simpa using h1) (by simpa using h2) hk
def Hx{kindOf:Str->Option NameKind}{x:Str}{v:Value}:∀{P:List Str}{vs:List Value}{i:Nat}{m:Str->Option Value},P.Nodup->P[i]?=some x->vs[i]?=some v->kindOf x≠some .local->
  bindC kindOf (P.zip vs) m x=some v
 |[],_,_,_,_,h,_,_=>by simp at h
 |_::_,[],_,_,_,_,h,_=>by simp at h
 |p::P,w::vs,0,m,nd,h1,h2,hk=>by
  simp at h1 h2;subst h1;subst h2;show bindC kindOf ((p,w)::P.zip vs) m p=_;unfold bindC;rw[Hv λv hv=>(ZG.mp nd).1 (List.of_mem_zip hv).1,if_neg hk];simp
 |p::P,w::vs,i+1,m,nd,h1,h2,hk=>by
  show bindC kindOf ((p,w)::P.zip vs) m x=_;unfold bindC;exact Hx (i:=i) (ZG.mp nd).2 (by simpa using h1) (by simpa using h2) hk
def start(N:List Str)(vs:List V):St:=vs.map some++List.replicate (N.length-vs.length) none
def fZ(CX:jz)(P:Program)(w:World)(K:PySem.W.Frag)(mg:Str->Option Value)(base:Heap)(N:List Str)(qual:Str)(scope:Scope)(f:Addr)(cd:Value)(A:Around)(outer:List Env)(s:Shared)(H:Hp)(E:XK):Cx where
 prog:=P
 w:=w
 K:=K
 mg:=mg
 base:=base
 A:=A.deeper (envOfC qual scope s.heap.objs.size f cd)
 N:=N
 s₀:=s
 H₀:=H
 env:=envOfC qual scope s.heap.objs.size f cd
 outer:=outer
 stack:=envOfC qual scope s.heap.objs.size f cd::outer
 ex:=[]
 calm:=true
 fn:=λ_=>true
 pn:=[]
 xe:=λe s'=>wpAny (model P w) (A.deeper (envOfC qual scope s.heap.objs.size f cd)) (leaving (envOfC qual scope s.heap.objs.size f cd) e) (λ_ CD=>CX outer H s E e CD) (λe' CD=>CX outer H s E e' CD) s'
def Jg{sc:Scope}{n:Nat}{x:Str}(h:sc.names.lookup x=some .cell):∃c,(cellsFrom n sc.names []).lookup x=some c:=by
 have q:=PySem.W.cellsFrom_some sc.names n [] (.inl h);exact Option.isSome_iff_exists.mp q
def Uu{CX:jz}{P:Program}{w:World}{K:PySem.W.Frag}{mg:Str->Option Value}{base:Heap}{N ps:List Str}{qual:Str}{scope:Scope}{f:Addr}{cd:Value}{A:Around}{outer:List Env}{s s1:Shared}{H:Hp}{E:XK}{us:List Value}{vs:List V}
  (S:aM N ps scope)(hd:A.handled=none)(e0:o7 P w K mg base A outer s H)(hl:vs.length=ps.length)(r:Vals vs us)
  (x:InCallC s s.heap.objs.size (bindL (envOfC qual scope s.heap.objs.size f cd).kindOf (ps.zip us) λ_=>none) (cellsFrom (s.heap.objs.size+1) scope.names []) (bindC (envOfC qual scope s.heap.objs.size f cd).kindOf (ps.zip us) λ_=>none) s1):
  Inv (fZ CX P w K mg base N qual scope f cd A outer s H E) [] (start N vs) H s1:=by
 have bY:ps.length<=N.length:=by have:=congrArg List.length S.pre;rw[Zx]at this;omega
 obtain⟨h1,tk,rfl,hk⟩:=x.done;have tT:∀b:Addr,b∉(fZ CX P w K mg base N qual scope f cd A outer s H E).ex:=λb z=>absurd (show b∈([]:List Addr)from z) (by simp)
 refine⟨⟨e0.mod,S.kind,rfl,rfl,Y3 _,λy z c h1 h2=>?_,λy hy=>?_,λy c _ h=>?_,λ_=>hd,Around.frames_deeper e0.frames,.inr ⟨rfl,rfl⟩,λb z=>absurd z (tT b),e0.bs,e0.iW,λb _ _=>tT b,λb z=>absurd z (tT b),e0.gX,e0.nP⟩,
  rfl,e0.bare,Un.kept hk,⟨_,x.toInCall.ns,λi y v h1 h2 h3=>?_⟩,λy c h=>⟨_,x.cell y c h⟩,e0.ao.fresh (Y3 _),λy c h=>?_,λp hp=>absurd (show p∈([]:List (Addr×Obj))from hp) (by simp),e0.ao.kept hk,?_⟩
 ·exact name_of_addr x.apart (ZM h1) (ZM h2)
 ·have hy:scope.names.lookup y=some .cell\/scope.names.lookup y=some .free:=hy;rcases hy with hy|hy
  ·exact Jg hy
  ·exact absurd rfl (S.abh _ (ZM hy))
 ·exact Z1 (x.above y c (ZM h))
 ·have hi:i<vs.length:=by
   unfold start at h2;by_cases hi:i<vs.length
   ·exact hi
   ·rw[Zt (by simpa using hi)]at h2;rw[ZS]at h2;split at h2<;>cases h2
  have ha:vs[i]?=some v:=by
   unfold start at h2;rw[Zs (by simpa using hi),Zf]at h2;cases e:vs[i]? with
   |none=>rw[e]at h2;cases h2
   |some a=>rw[e]at h2;cases h2;rfl
  obtain⟨u,hu,rv⟩:=r.get ha
  have hp:ps[i]?=some y:=by
   rw[<-S.pre,List.getElem?_take_of_lt (by omega)];exact h1
  have OF:ps.Nodup:=by rw[<-S.pre];exact S.nd.sublist (List.take_sublist _ _)
  refine⟨u,rv,?_⟩;rcases S.par y (Y6 hp)with k|k
  ·exact .inl ⟨k,Hw OF hp hu k⟩
  ·obtain⟨c,e⟩:=Jg (n:=s.heap.objs.size+1) k;refine .inr ⟨.inl k,c,e,?_⟩;have q:=x.cell y c e;rw[Hx OF hp hu (by show scope.names.lookup y≠_;rw[k];decide)]at q;exact q
 ·exact e0.ao.fresh (Z1 (x.above y c (ZM h)))
 ·unfold start;show _=N.length;rw[Zo,Y1,ZR];omega
def Nd{CX:jz}{P:Program}{w:World}{K:PySem.W.Frag}{mg:Str->Option Value}{base:Heap}{k:Nat}{f:Addr}{name qual:Str}{params:Arguments}{body:List Stmt}{scope:Scope}{dV kV doc pm au ct oc:Value}{an od:Option Addr}
  {j6:Array (Option Value)}{N ps:List Str}{sp:Sp}(lk:K.lookup f=some ⟨oc,od,.func (PySem.W.fnOf name qual params body scope dV kV doc pm an au ct),j6⟩)(bS:PySem.W.codeIn K au qual=true)(S:aM N ps scope)
  (len:∀vs H Q E,sp vs H Q E->vs.length=ps.length)
  (sW:∀(A:Around) (outer:List Env) (s:Shared) (H:Hp) (vs:List V) (Q:VK) (E:XK),bR k (A.deeper (envOfC qual scope s.heap.objs.size f au))->sp vs H Q E->
   ∃t,dg (fZ CX P w K mg base N qual scope f au A outer s H E) body t/\t {nx:=λ_ H'=>Q .aH H',rt:=Q} (start N vs) H):
  az P w K mg base CX (k+1) f (PySem.W.fnOf name qual params body scope dV kV doc pm an au ct) ps sp:=by
 refine⟨len,λA outer s H args us vs Q E hr e0 hb r kR=>?_⟩;have hl:=len _ _ _ _ kR;have KX:K.In s.heap:=e0.mod.pw.keeps λb o e=>(e0.bs b o e).1;have lim:s.heap.NoLimit:=e0.mod.nolimit.keeps λb o e=>(e0.bs b o e).1
 have de:∀y∈ps.zip us,scope.names.lookup y.1=some .local\/(scope.names.lookup y.1=some .cell/\((cellsFrom (s.heap.objs.size+1) scope.names []).lookup y.1).isSome=true):=λ⟨n,v⟩ hy=>by
  rcases S.par n (List.of_mem_zip hy).1 with q|q
  ·exact .inl q
  ·exact .inr ⟨q,PySem.W.cellsFrom_some _ _ _ (.inl q)⟩
 refine codeAny_call_function hr.depth (KX _ _ lk) rfl S.co S.gen rfl (PySem.W.codeRec_of KX bS) (hb _ _ _ _ ?_);refine wpAny_newFunctionEnv_cells S.kind de λenv he s1 x=>?_;subst he;refine⟨lim.keeps x.toInCall.keep,codeAny_func ?_⟩;obtain⟨t,ht,hq⟩:=sW A outer s H vs Q E (hr.deeper _) kR;have I:Inv (fZ CX P w K mg base N qual scope f au A outer s H E) [] (start N vs) H s1:=Uu S hr.hd e0 hl r x;refine wpAny_mono (ht [] s1 (start N vs) H _ I hq) (λfl s' hs=>?_) λe s' hs=>hs
 have fin:∀{σ':St}{H':Hp}{v:V}{u:Value},Inv (fZ CX P w K mg base N qual scope f au A outer s H E) [] σ' H' s'->RelV v u->Q v H'->CE outer P w H s Q u s':=
  λ{σ' H' v u} J rv q=>⟨v,H',J.os,J.bare,J.base,J.ao,rv,q⟩
 cases fl with
 |ret u=>
  obtain⟨v,σ',H',J,rv,q⟩:=hs;exact fin J rv q
 |next=>
  obtain⟨σ',H',J,q⟩:=hs;exact fin (v:=V.aH) (u:=Value.none) J rfl q
 |brk=>
  obtain⟨_,_,_,q⟩:=hs;exact Zu q
 |cont=>
  obtain⟨_,_,_,q⟩:=hs;exact Zu q
section
variable {X:Cx}{x:Str}{p pos:Pos}{e:Expr}{es:List Expr}{t:TA}{id T:String}{r:List V->Hp->VK->Prop}
def OG(r:List V->Hp->VK->Prop)(t:TA):TE:=λσ H Q=>t σ H λvs H1=>r vs H1 Q
def bq(hc:ig X (.builtin id) r)(hg:Gl X x)(hm:X.mg x=none)(hv:bootBuiltins x=some (.builtin id))(ha:PA X (e::es) t)(hn:x≠"__name__":=by decide)(gc:(x==("__debug__":Str))=false:=by decide)
  (he:starEach (e::es) X.env=(false,eval e X.env)::starEach es X.env:=by rfl)(bY:(backTo pos (starEach es X.env)).any (·.1)=false:=by rfl):PE X (.Call (.Name x p) (e::es) [] pos) (OG r t):=by
 intro pins s σ H Q I h;refine wpAny_Call_Name_kw (oP I hg hm hv ?_ hn gc);exact PyProof.Rows.callWith_builtin1 (aA (ha pos pins s σ H _ I h) λus s1 ⟨vs,H1,I1,r1,q1⟩=>hc pins s1 σ H1 vs us Q I1 r1 q1) he bY
def oB(hc:ig X (.type T) r)(hg:Gl X x)(hm:X.mg x=none)(hv:bootBuiltins x=some (.type T))(ha:PA X (e::es) t)(hn:x≠"__name__":=by decide)(gc:(x==("__debug__":Str))=false:=by decide)
  (he:starEach (e::es) X.env=(false,eval e X.env)::starEach es X.env:=by rfl)(bY:(backTo pos (starEach es X.env)).any (·.1)=false:=by rfl):PE X (.Call (.Name x p) (e::es) [] pos) (OG r t):=by
 intro pins s σ H Q I h;refine wpAny_Call_Name_kw (oP I hg hm hv ?_ hn gc);exact PyProof.Rows.callWith_type1 (aA (ha pos pins s σ H _ I h) λus s1 ⟨vs,H1,I1,r1,q1⟩=>hc pins s1 σ H1 vs us Q I1 r1 q1) he bY
end
end L2
namespace HT
open PySem PyProof.Rows
section
variable {prog:Program}{w:World}{A:Around}{E:Value->Shared->Prop}{s:Shared}
def YA{t b:Addr}{vs ws:List Value}{Q:Value->Shared->Prop}(ht:IsTup s.heap t vs.toArray)(hb:IsTup s.heap b ws.toArray)(hv:vs≠[])
  (h1:ws=[]->Q (.ref t) s)(h2:ws≠[]->Q (.ref s.heap.objs.size) {s with heap:=s.heap.push {cls:=.type "tuple",data:=.seq (vs++ws).toArray}})
  (hsz:vs.length+ws.length<=sizeLine):wpAny (model prog w) A (binaryOp .Add (.ref t) (.ref b)) Q E s:=by
 obtain⟨⟨cls,dd,data,sl⟩,ho,hc,n,hd⟩:=id ht;obtain⟨⟨aeG,OH,data2,OI⟩,wV,CI,n2,hd2⟩:=id hb;simp only at hc hd CI hd2;subst hc hd CI hd2;have e:vs.toArray++ws.toArray=(vs++ws).toArray:=by simp
 by_cases hw:ws=[]
 ·exact concat_meets ⟨_,ho,rfl⟩ ⟨_,wV,rfl⟩ noFill_tuple_add seq_tuple_add PySem.F.slot_tuple_add PySem.F.entry_tuple_add (PySem.F.args_tuple_add_2 _ _)
   (tuple_addW1 t b vs.toArray ws.toArray n n2 dd OH sl OI (by simpa using hv) (by simp[hw])) ⟨ho,wV,h1 hw⟩
 ·refine concat_meets ⟨_,ho,rfl⟩ ⟨_,wV,rfl⟩ noFill_tuple_add seq_tuple_add PySem.F.slot_tuple_add PySem.F.entry_tuple_add (PySem.F.args_tuple_add_2 _ _)
   (tuple_addW2 t b vs.toArray ws.toArray n n2 dd OH sl OI (by simpa using hv) (by simpa using hw) (by rw[Zl,Zl];exact hsz)) ⟨ho,wV,?_⟩
  rw[e];exact h2 hw
def dS(n d:Nat):Option Int->Nat
 |none=>d
 |some v=>if v<0 then(v+(n:Int)).toNat else min v.toNat n
def zQ(n d:Nat):dS n d none=d:=rfl
def vn(n d k:Nat):dS n d (some (k:Int))=min k n:=by
 show(if(k:Int)<0 then((k:Int)+(n:Int)).toNat else min (k:Int).toNat n)=min k n;rw[if_neg (by omega),Za]
end
end HT
namespace L2
open PySem PySem.Spec PyProof.Rows
abbrev TO:=St->Hp->(Option Int->Hp->Prop)->Prop
def PO(X:Cx)(e:Option Expr)(t:TO):Prop:=
 ∀(pins:List (Addr×Obj)) (s:Shared) (σ:St) (H:Hp) (Q:Option Int->Hp->Prop),Inv X pins σ H s->t σ H Q->
  wpAny (model X.prog X.w) X.A (evalPart e X.env) (λu s'=>∃o H',Inv X pins σ H' s'/\IsPart u o/\Q o H') X.xe s
def YB:TO:=λ_ H Q=>Q none H
def acB(t:TE):TO:=λσ H Q=>t σ H λx H1=>∃i,x=.int i/\Q (some i) H1
def intsAre_of{ns:List Int}:∀{us:List Value},Vals (ns.map V.int) us->IntsAre us ns:=by
 induction ns with
 |nil=>intro us r;rw[List.map_nil]at r;cases r;exact .nil
 |cons n ns ih=>
  intro us r;rw[Zr]at r;cases r with
  |cons r1 r2=>
   obtain⟨t,e⟩:=r1;subst e;exact .cons n t (ih r2)
section
variable {X:Cx}{e:Expr}{te:TE}{lo hi:Option Expr}{tl th:TO}{pos p2:Pos}
def mX:PO X none YB:=by
 intro pins s σ H Q I h;rw[evalPart_none];exact ZV ⟨none,H,I,.none,h⟩
def dC(h:PE X e te):PO X (some e) (acB te):=by
 intro pins s σ H Q I hw;rw[evalPart_some];refine aA (h pins s σ H _ I hw) λu s1 ⟨x,H1,I1,r1,q1⟩=>?_;obtain⟨i,rfl,q⟩:=q1;obtain⟨t,rfl⟩:=r1;exact⟨some i,H1,I1,.int i t,q⟩
def CJ(X:Cx)(r:V->Option Int->Option Int->Hp->VK->Prop):Prop:=
 ∀(pins:List (Addr×Obj)) (s:Shared) (σ:St) (H:Hp) (x:V) (v vl vu:Value) (lo hi:Option Int) (sl:Addr) (Q:VK),Inv X pins σ H s->RelV x v->s.heap.IsSliceOf sl vl vu .none->IsPart vl lo->IsPart vu hi->r x lo hi H Q->
  ∃T id,typeLookup (.type T) "__getitem__"=pure (some (.builtin id))/\s.TypeIs v T/\wpAny (model X.prog X.w) X.A (getItem v (.ref sl)) (EP X pins σ Q) X.xe s
def tSl(r:V->Option Int->Option Int->Hp->VK->Prop)(te:TE)(tl th:TO):TE:=λσ H Q=>te σ H λx H1=>tl σ H1 λl H2=>th σ H2 λu H3=>r x l u H3 Q
def gK{r:V->Option Int->Option Int->Hp->VK->Prop}(hr:CJ X r)(he:PE X e te)(hl:PO X lo tl)(hu:PO X hi th):PE X (.Subscript e (.Slice lo hi none p2) pos) (tSl r te tl th):=by
 intro pins s σ H Q I h;refine Subscript_ (aA (he pins s σ H _ I h) λv s1 ⟨x,H1,I1,r1,q1⟩=>?_);refine wpAny_Slice (aA (hl pins s1 σ H1 _ I1 q1) λvl s2 ⟨l,H2,I2,pl,q2⟩=>aA (hu pins s2 σ H2 _ I2 q2) λvu s3 ⟨u,H3,I3,pu,q3⟩=>?_);rw[evalPart_none];refine ZV ?_;have I4:Inv X pins σ H3 {s3 with heap:=s3.heap.push {cls:=.type "slice",data:=.fields #[vl,vu,.none]}}:=I3.kept (t':=s3.toks) λb ob q=>Y8 _ q;obtain⟨T,id,hT,ht,hg⟩:=hr pins {s3 with heap:=s3.heap.push {cls:=.type "slice",data:=.fields #[vl,vu,.none]}} σ H3 x v vl vu l u s3.heap.objs.size Q I4 r1 (Heap.IsSliceOf.new ..) pl pu q3;show wpAny (model X.prog X.w) X.A (subscriptTail e (.Slice lo hi none p2) v (.ref s3.heap.objs.size)) (EP X pins σ Q) X.xe {s3 with heap:=s3.heap.push {cls:=.type "slice",data:=.fields #[vl,vu,.none]}};exact tail_any (ops:=[.ref s3.heap.objs.size,v]) ht hT hg (by with_unfolding_all rfl)
def jV(xs:List V)(lo hi:Option Int):List V:=(xs.drop (HT.dS xs.length 0 lo)).take (HT.dS xs.length xs.length hi-HT.dS xs.length 0 lo)
def Sm(xs:List V)(lo hi:Option Int):(jV xs lo hi).length<=xs.length:=by
 unfold jV;rw[Zx,ZJ];omega
inductive Kg(K:PySem.W.Frag)(x:V)(y:V)(H:Hp)(Q:VK):Prop
 |mk (a b xs ys:_) (_:x=.ref a) (_:y=.ref b) (_:aZ K H a xs) (_:aZ K H b ys) (_:xs≠[]) (_:xs.length+ys.length<=sizeLine) (_:(ys=[]->Q (.ref a) H)) (_:(ys≠[]->∀p,H p=none->Q (.ref p) (upd H p (.tup (xs++ys))))):Kg K x y H Q
def acC(K:PySem.W.Frag):R2:=Kg K
def Vals.Al{xs:List V}{us:List Value}(r:Vals xs us):us=[]↔xs=[]:=by
 cases r with
 |nil=>simp
 |cons _ _=>simp
def Kh:b6 X (binaryOp .Add) (acC X.K):=by
 intro pins s σ H x y v u Q I rx ry h;obtain⟨a,b,xs,ys,rfl,rfl,ha,hb,hx,hz,q1,q2⟩:=h;cases rx;cases ry;obtain⟨aj,r1,p1,_⟩:=I.tuple ha;obtain⟨B3,r2,p2,_⟩:=I.tuple hb;refine HT.YA p1 p2 (λz=>hx (r1.Al.mp z)) (λz=>⟨.ref a,H,I,rfl,q1 (r2.Al.mp z)⟩) (λz=>?_) (by rw[<-r1.length, <-r2.length];exact hz);refine⟨.ref s.heap.objs.size,_,I.laid (t':=s.toks) (o:=.tup (xs++ys)) (λb ob q=>Y8 _ q) (Y3 _) ?_,rfl,q2 (λw=>z (r2.Al.mpr w)) _ (I.ao.fresh (Y3 _))⟩;exact⟨by rw[Zo];exact hz,_,r1.append r2,IsTup.new _ _⟩
end
def jA(n:Nat)(i:Int):Option Nat:=if 0<=i then(if i<n then some i.toNat else none)else if -(n:Int)<=i then some (i+n).toNat else none
def iX{α:Type}(xs:List α)(i:Int):Option α:=(jA xs.length i).bind λj=>xs[j]?
def Ki{n:Nat}{i:Int}{j:Nat}(h:jA n i=some j):seqIndex? i n=some j/\j<n/\ -(n:Int)<=i/\i<n:=by
 unfold jA at h;by_cases h0:0<=i
 ·rw[if_pos h0]at h;by_cases h1:i<n
  ·rw[if_pos h1]at h;have e:i.toNat=j:=Zg h;exact⟨by rw[seqIndex_of h0 h1,e],by omega,by omega,h1⟩
  ·rw[if_neg h1]at h;cases h
 ·rw[if_neg h0]at h;by_cases h1: -(n:Int)<=i
  ·rw[if_pos h1]at h;have e:(i+n).toNat=j:=Zg h;exact⟨by rw[seqIndex_neg (by omega) h1,e],by omega,h1,by omega⟩
  ·rw[if_neg h1]at h;cases h
def Am{α:Type}{xs:List α}{i:Int}{v:α}(h:iX xs i=some v):∃j,seqIndex? i xs.length=some j/\xs[j]?=some v/\j<xs.length/\ -(xs.length:Int)<=i/\i<xs.length:=by
 unfold iX at h;cases e:jA xs.length i with
 |none=>rw[e]at h;cases h
 |some j=>
  rw[e]at h;obtain⟨h1,h2,h3,h4⟩:=Ki e;exact⟨j,h1,h,h2,h3,h4⟩
def mY{α:Type}{xs:List α}{j:Nat}{v:α}(h:xs[j]?=some v):iX xs (j:Int)=some v:=by
 have hj:j<xs.length:=(ZL.mp h).1
 have e:jA xs.length (j:Int)=some j:=by
  unfold jA;rw[if_pos (by omega),if_pos (by omega)];simp
 unfold iX;rw[e];exact h
def Jh{α:Type}(xs:List α)(v:α):iX (xs++[v]) (-1)=some v:=by
 have hl:(xs++[v]).length=xs.length+1:=by simp
 have e:jA (xs++[v]).length (-1)=some xs.length:=by
  unfold jA;rw[hl,if_neg (by decide),if_pos (by omega)];congr 1;omega
 unfold iX;rw[e];show(xs++[v])[xs.length]?=some v;simp
def YC(b:Expr):Prop:=∀o i,subscripted b false o i=operate [o,i] (getItem o i)
def gd(X:Cx)(r:R2):Prop:=
 ∀(value slice:Expr) (pins:List (Addr×Obj)) (s:Shared) (σ:St) (H:Hp) (x y:V) (v u:Value) (Q:VK),Inv X pins σ H s->RelV x v->RelV y u->r x y H Q->
  subscripted slice false v u=operate [v,u] (getItem v u)->wpAny (model X.prog X.w) X.A (subscriptTail value slice v u) (EP X pins σ Q) X.xe s
def OJ(X:Cx)(id:String)(r:V->List V->Hp->VK->Prop):Prop:=
 ∀(pins:List (Addr×Obj)) (s:Shared) (σ:St) (H:Hp) (x:V) (xs:List V) (v:Value) (us:List Value) (Q:VK),Inv X pins σ H s->RelV x v->Vals xs us->r x xs H Q->
  wpAny (model X.prog X.w) X.A (call (.builtin id) (v::us)) (EP X pins σ Q) X.xe s
section
variable {X:Cx}{a b:Expr}{ta tb:TE}{pos:Pos}
def ax{r:R2}(hr:gd X r)(ha:PE X a ta)(hb:PE X b tb)(hs:YC b):PE X (.Subscript a b pos) (pC r ta tb):=by
 intro pins s σ H Q I h;exact Subscript_ (BW ha hb I h λv u s2 x y H2 I2 rx ry q=>hr a b pins s2 σ H2 x y v u Q I2 rx ry q (hs _ _))
inductive L1(K:PySem.W.Frag)(x:V)(y:V)(H:Hp)(Q:VK):Prop
 |mk (p xs i v:_) (_:x=.ref p) (_:y=.int i) (_:ah K H p xs) (_:iX xs i=some v) (_:Q v H):L1 K x y H Q
def lQ(K:PySem.W.Frag):R2:=L1 K
inductive L3(K:PySem.W.Frag)(x:V)(y:V)(H:Hp)(Q:VK):Prop
 |mk (p xs i v:_) (_:x=.ref p) (_:y=.int i) (_:aZ K H p xs) (_:iX xs i=some v) (_:Q v H):L3 K x y H Q
def gD(K:PySem.W.Frag):R2:=L3 K
def An:gd X (lQ X.K):=by
 intro value slice pins s σ H x y v u Q I rx ry h hs;obtain⟨p,xs,i,z,rfl,rfl,hq,he,q⟩:=h;cases rx;obtain⟨t,rfl⟩:=ry;obtain⟨aj,r,pl,hz⟩:=I.list hq;obtain⟨j,h1,h2,h3,h4,h5⟩:=Am he;obtain⟨w,ew,iY⟩:=r.get h2;have hl:=r.length;have hn:=sJ;have fin:EP X pins σ Q w s:=⟨z,H,I,iY,q⟩;by_cases h0:0<=i
 ·have hj:i.toNat=j:=by
   rw[seqIndex_of h0 h5]at h1;exact Zg h1
  exact item_listR pl.isList h0 (by omega) (by rw[hj];simpa using ew) fin hs
 ·have hj:(i+(aj.toArray.size:Int)).toNat=j:=by
   rw[seqIndex_neg (by omega) h4]at h1;rw[Zl, <-hl];exact Zg h1
  exact subscriptTail_builtinR (x:=w) pl.isList.typeIs slot_list_getitem.lookup
   (wpAny_getItem_list_neg (Q:=λr s'=>r=w/\EP X pins σ Q r s') pl.isList (by omega) (by rw[Zl]<;>omega) (by omega) (by rw[hj];simpa using ew) ⟨rfl,fin⟩) hs
def abi:gd X (gD X.K):=by
 intro value slice pins s σ H x y v u Q I rx ry h hs;obtain⟨p,xs,i,z,rfl,rfl,hq,he,q⟩:=h;cases rx;obtain⟨t,rfl⟩:=ry;obtain⟨aj,r,pl,hz⟩:=I.tuple hq;obtain⟨j,h1,h2,h3,h4,h5⟩:=Am he;obtain⟨w,ew,iY⟩:=r.get h2;have hl:=r.length;have hn:=sJ;have fin:EP X pins σ Q w s:=⟨z,H,I,iY,q⟩
 exact subscriptTail_builtinR (x:=w) pl.typeIs slot_tuple_getitem.lookup
  (getItem_tuple (j:=j) (Q:=λr s'=>r=w/\EP X pins σ Q r s') pl (by omega) (by omega) (by rw[Zl, <-hl];exact h1) (by simpa using ew) ⟨rfl,fin⟩) hs
def S6(aj:List Value)(n j:Nat)(u:Value):Obj.mapSeq (·.setIfInBounds j u) {cls:=.type "list",data:=.seq aj.toArray n}={cls:=.type "list",data:=.seq (aj.set j u).toArray n}:=by
 simp[Obj.mapSeq]
def Inv.lst{pins:List (Addr×Obj)}{σ:St}{H:Hp}{s:Shared}{p:Addr}{xs:List V}(I:Inv X pins σ H s)(h:H p=some (.lst xs)):
  ∃(aj:List Value) (n:Nat),Vals xs aj/\s.heap.get? p=some {cls:=.type "list",data:=.seq aj.toArray n}/\xs.length<=sizeLine:=by
 obtain⟨z,aj,n,r,e⟩:=I.ao p _ h;exact⟨aj,n,r,e,z⟩
def Inv.abj{pins:List (Addr×Obj)}{σ:St}{H:Hp}{s:Shared}{p:Addr}{xs ys:List V}{aj its':List Value}{n n':Nat}{f:Obj->Obj}(I:Inv X pins σ H s)(h:H p=some (.lst xs))
  (ho:s.heap.get? p=some {cls:=.type "list",data:=.seq aj.toArray n})(hf:f {cls:=.type "list",data:=.seq aj.toArray n}={cls:=.type "list",data:=.seq its'.toArray n'})(r:Vals ys its')(hz:ys.length<=sizeLine)(t:Nat):
  Inv X pins σ (upd H p (.lst ys)) {s with heap:=s.heap.update p f,toks:=t}:=by
 have e:(s.heap.update p f).get? p=some {cls:=.type "list",data:=.seq its'.toArray n'}:=by
  rw[Heap.get?_update_self f ho (by rw[hf]<;>rfl),hf]
 refine I.write (x:=p) (e:=p) (by rw[h];trivial) (.inl rfl) (λb u hb q=>(Heap.get?_update_other _ _ (Ne.symm hb)).trans q) ⟨_,e⟩ ?_;exact⟨hz,its',n',r,e⟩
def acD:V->V->V->Hp->(Hp->Prop)->Prop:=λo i v H Q=>∃p xs k j,o=.ref p/\i=.int k/\H p=some (.lst xs)/\jA xs.length k=some j/\Q (upd H p (.lst (xs.set j v)))
def set_list:NM X acD:=by
 intro pins s σ H o i v ov iv u Q I ro ri rv h;obtain⟨p,xs,k,j,rfl,rfl,hp,hj,q⟩:=h;cases ro;obtain⟨t,rfl⟩:=ri;obtain⟨aj,n,r,ho,hz⟩:=I.lst hp;obtain⟨h1,h2,h3,h4⟩:=Ki hj;have hl:=r.length;have hn:=sJ
 have I':Inv X pins σ (upd H p (.lst (xs.set j v))) {s with heap:=s.heap.update p (Obj.mapSeq (·.setIfInBounds j u))}:=
  I.abj hp ho (S6 aj n j u) (r.set rv j) (by rw[List.length_set];exact hz) s.toks
 by_cases h0:0<=k
 ·have hk:k.toNat=j:=by
   rw[seqIndex_of h0 h4]at h1;exact Zg h1
  exact PySem.W.ki_setAt ho h0 (by omega) (by rw[Zl, <-hl];exact h4) (by rw[hk];exact⟨_,I',q⟩)
 ·have hk:(k+(aj.toArray.size:Int)).toNat=j:=by
   rw[seqIndex_neg (by omega) h3]at h1;rw[Zl, <-hl];exact Zg h1
  exact PySem.W.ki_setBack ho (by omega) (by rw[Zl, <-hl];exact h3) (by omega) (by rw[hk];exact⟨_,I',q⟩)
def RN(lo hi:Option Int)(n:Nat):(sliceBounds lo hi none n).1=((HT.dS n 0 lo:Nat):Int)/\(sliceBounds lo hi none n).2.1=((HT.dS n n hi:Nat):Int)/\(sliceBounds lo hi none n).2.2=1:=by
 refine⟨?_,?_,rfl⟩
 ·cases lo with
  |none=>simp[sliceBounds,HT.dS]
  |some i=>
   simp only[sliceBounds,HT.dS,Option.getD_none,show(1:Int)>0 by decide,if_true];by_cases h:i<0
   ·simp only[h,if_true]<;>omega
   ·simp only[h,if_false]<;>omega
 ·cases hi with
  |none=>simp[sliceBounds,HT.dS]
  |some i=>
   simp only[sliceBounds,HT.dS,Option.getD_none,show(1:Int)>0 by decide,if_true];by_cases h:i<0
   ·simp only[h,if_true]<;>omega
   ·simp only[h,if_false]<;>omega
def Rn(aj:List Value)(lo hi:Option Int):slicePick aj.toArray lo hi none=((aj.drop (HT.dS aj.length 0 lo)).take (HT.dS aj.length aj.length hi-HT.dS aj.length 0 lo)).toArray:=by
 obtain⟨h1,h2,h3⟩:=RN lo hi aj.toArray.size;unfold slicePick;rw[h1,h2,h3];simp only[sliceRange_one,pick_run,Zl]<;>rfl
def wm(K:PySem.W.Frag):V->Option Int->Option Int->Hp->VK->Prop:=λx lo hi H Q=>∃a xs,x=.ref a/\ah K H a xs/\∀p,H p=none->Q (.ref p) (upd H p (.lst (jV xs lo hi)))
def vo:CJ X (wm X.K):=by
 intro pins s σ H x v vl vu lo hi sl Q I rx hs pl pu h;obtain⟨a,xs,rfl,hx,q⟩:=h;cases rx;obtain⟨aj,r,ht,hz⟩:=I.list hx;have hlen:=r.length;refine⟨"list",_,slot_list_getitem.lookup,ht.isList.typeIs,?_⟩;refine wpAny_getItem_list_slice ht.isList hs pl pu .none (by simp) ?_ (by rw[Zl]<;>omega);rw[Rn, <-hlen];refine⟨.ref s.heap.objs.size,_,I.laid (t':=s.toks) (o:=.lst (jV xs lo hi)) (λb ob q=>Y8 _ q) (Y3 _) ?_,rfl,q _ (I.ao.fresh (Y3 _))⟩;exact⟨ZQ (Sm xs lo hi) hz,_,0,(r.drop (HT.dS xs.length 0 lo)).take (HT.dS xs.length xs.length hi-HT.dS xs.length 0 lo),Zq _ rfl⟩
def gR:V->Bool
 |.aH=>true
 |.bl _=>true
 |.int _=>true
 |.str _=>true
 |_=>false
def fz:V->V->Bool
 |.aH,.aH=>true
 |.bl a,.bl b=>a==b
 |.bl a,.int b=>(if a then 1 else 0)==b
 |.int a,.bl b=>a==(if b then 1 else 0)
 |.int a,.int b=>a==b
 |.str a,.str b=>a==b
 |_,_=>false
def abk{A:Around}{s:Shared}{y x:V}{u v:Value}(ry:RelV y u)(rx:RelV x v)(fy:gR y=true)(fx:gR x=true):SeqAt.EqAt A s u v (fz y x):=by
 cases y with
 |aH=>
  cases ry;cases x with
  |aH=>cases rx;exact SeqAt.EqAt.same _
  |bl b=>cases rx;exact SeqAt.EqAt.none_bool b
  |int b=>obtain⟨t,rfl⟩:=rx;exact SeqAt.EqAt.none_int b t
  |str b=>obtain⟨t,rfl⟩:=rx;exact SeqAt.EqAt.none_str b t
  |_=>exact absurd (show false=true from fx) Zk
 |bl a=>
  cases ry;cases x with
  |aH=>cases rx;exact SeqAt.EqAt.bool_none a
  |bl b=>cases rx;exact SeqAt.EqAt.bool_bool a b
  |int b=>obtain⟨t,rfl⟩:=rx;exact SeqAt.EqAt.bool_int a b t
  |str b=>obtain⟨t,rfl⟩:=rx;exact SeqAt.EqAt.bool_str a b t
  |_=>exact absurd (show false=true from fx) Zk
 |int a=>
  obtain⟨t',rfl⟩:=ry;cases x with
  |aH=>cases rx;exact SeqAt.EqAt.int_none a t'
  |bl b=>cases rx;exact SeqAt.EqAt.int_bool a t' b
  |int b=>obtain⟨t,rfl⟩:=rx;exact SeqAt.EqAt.int_int a t' b t
  |str b=>obtain⟨t,rfl⟩:=rx;exact SeqAt.EqAt.int_str a t' b t
  |_=>exact absurd (show false=true from fx) Zk
 |str a=>
  obtain⟨t',rfl⟩:=ry;cases x with
  |aH=>cases rx;exact SeqAt.EqAt.str_none a t'
  |bl b=>cases rx;exact SeqAt.EqAt.str_bool a t' b
  |int b=>obtain⟨t,rfl⟩:=rx;exact SeqAt.EqAt.str_int a t' b t
  |str b=>obtain⟨t,rfl⟩:=rx;exact SeqAt.EqAt.str_str a t' b t
  |_=>exact absurd (show false=true from fx) Zk
 |_=>exact absurd (show false=true from fy) Zk
def fP(x:V)(u:Value):Bool:=match u with
 |.none=>fz .aH x
 |.bool b=>fz (.bl b) x
 |.int i _=>fz (.int i) x
 |.str z _=>fz (.str z) x
 |_=>false
def A1{x y:V}{u:Value}(r:RelV y u)(f:gR y=true):fP x u=fz y x:=by
 cases y with
 |aH=>cases r;rfl
 |bl b=>cases r;rfl
 |int i=>obtain⟨t,rfl⟩:=r;rfl
 |str z=>obtain⟨t,rfl⟩:=r;rfl
 |_=>exact absurd (show false=true from f) Zk
def sr{x:V}:∀{xs:List V}{us:List Value},Vals xs us->xs.all gR=true->us.any (fP x)=xs.any λy=>fz y x
 |_,_,.nil,_=>rfl
 |y::xs,u::us,.cons r t,f=>by
  rw[List.all_cons,Bool.and_eq_true]at f;rw[List.any_cons,List.any_cons,A1 r f.1,sr t f.2]
def qg{A:Around}{s:Shared}{x:V}{v:Value}(rx:RelV x v)(fx:gR x=true):∀{xs:List V}{us:List Value},Vals xs us->xs.all gR=true->∀u∈us,SeqAt.EqAt A s u v (fP x u)
 |_,_,.nil,_=>λu hu=>by cases hu
 |y::xs,u::us,.cons r t,f=>λu' hu=>by
  rw[List.all_cons,Bool.and_eq_true]at f;rcases Y5.mp hu with rfl|hu
  ·rw[A1 r f.1];exact abk r rx f.1 fx
  ·exact qg rx fx t f.2 u' hu
def j7(x:V)(xs:List V):Bool:=xs.any λy=>fz y x
inductive Nf(K:PySem.W.Frag)(neg:Bool)(x:V)(y:V)(H:Hp)(Q:VK):Prop
 |mk (p xs:_) (_:y=.ref p) (_:(ah K H p xs\/aZ K H p xs)) (_:gR x=true) (_:xs.all gR=true) (_:Q (.bl (if neg then !j7 x xs else j7 x xs)) H):Nf K neg x y H Q
def CK(K:PySem.W.Frag)(neg:Bool):R2:=Nf K neg
def Uv:b6 X (compareOp .In) (CK X.K false):=by
 intro pins s σ H x y v u Q I rx ry h;obtain⟨p,xs,rfl,hq,fx,fs,q⟩:=h;cases ry;rcases hq with hq|hq
 ·obtain⟨aj,r,pl,hz⟩:=I.list hq;refine SeqAt.in_listAt (fP x) pl.isList (λw hw=>qg rx fx r fs w (by simpa using hw)) ⟨.bl _,H,I,rfl,?_⟩;rw[show aj.toArray.any (fP x)=aj.any (fP x)by simp,sr r fs];exact q
 ·obtain⟨aj,r,pl,hz⟩:=I.tuple hq;refine SeqAt.in_tupleAt (fP x) pl (λw hw=>qg rx fx r fs w (by simpa using hw)) ⟨.bl _,H,I,rfl,?_⟩;rw[show aj.toArray.any (fP x)=aj.any (fP x)by simp,sr r fs];exact q
def Gp:b6 X (compareOp .NotIn) (CK X.K true):=by
 intro pins s σ H x y v u Q I rx ry h;obtain⟨p,xs,rfl,hq,fx,fs,q⟩:=h;cases ry;rcases hq with hq|hq
 ·obtain⟨aj,r,pl,hz⟩:=I.list hq;refine SeqAt.notIn_listAt (fP x) pl.isList (λw hw=>qg rx fx r fs w (by simpa using hw)) ⟨.bl _,H,I,rfl,?_⟩;rw[show aj.toArray.any (fP x)=aj.any (fP x)by simp,sr r fs];exact q
 ·obtain⟨aj,r,pl,hz⟩:=I.tuple hq;refine SeqAt.notIn_tupleAt (fP x) pl (λw hw=>qg rx fx r fs w (by simpa using hw)) ⟨.bl _,H,I,rfl,?_⟩;rw[show aj.toArray.any (fP x)=aj.any (fP x)by simp,sr r fs];exact q
def cO:ig X (.builtin "len") (λxs H Q=>∃p ys,xs=[.ref p]/\(ah X.K H p ys\/aZ X.K H p ys)/\Q (.int ys.length) H):=by
 intro pins s σ H xs us Q I r h;obtain⟨p,ys,rfl,hq,q⟩:=h;obtain⟨u,rfl,rx⟩:=vals1 r;cases rx;have hn:=sJ;rcases hq with hq|hq
 ·obtain⟨aj,r',pl,hz⟩:=I.list hq;have hlen:=r'.length;exact Calls.call_len_list pl.isList (by simp only[Zl]<;>omega) ⟨.int ys.length,H,I.tok _,⟨s.toks+1,by rw[Zl,hlen]⟩,q⟩
 ·obtain⟨aj,r',pl,hz⟩:=I.tuple hq;have hlen:=r'.length;exact len_tuple pl (by simp only[Zl]<;>omega) ⟨.int ys.length,H,I.tok _,⟨s.toks+1,by rw[Zl,hlen]⟩,q⟩
def RP:ig X (.type "list") (λxs H Q=>∃p ys,xs=[.ref p]/\(ah X.K H p ys\/aZ X.K H p ys)/\∀l,H l=none->Q (.ref l) (upd H l (.lst ys))):=by
 intro pins s σ H xs us Q I r h;obtain⟨p,ys,rfl,hq,q⟩:=h;obtain⟨u,rfl,rx⟩:=vals1 r;cases rx
 have fin:∀(aj:List Value),Vals ys aj->ys.length<=sizeLine->∀(h':Heap) (c':Nat),(∀b o',s.heap.get? b=some o'->h'.get? b=some o')->
   h'.get? s.heap.objs.size=some {cls:=.type "list",dict:=none,data:=.seq aj.toArray c',slots:= #[]}->EP X pins σ Q (.ref s.heap.objs.size) {s with heap:=h'}:=λaj r' hz h' c' kp e=>
  ⟨.ref s.heap.objs.size,_,I.laid (t':=s.toks) kp (Y3 _) (show bU X.prog X.w _ h' _ (.lst ys)from⟨hz,aj,c',r',e⟩),rfl,q _ (I.ao.fresh (Y3 _))⟩
 rcases hq with hq|hq
 ·obtain⟨aj,r',pl,hz⟩:=I.list hq;have hlen:=r'.length;obtain⟨o,ho,hc,n,hd⟩:=pl.isList;exact call_list_seq p (.inl rfl) ho hc hd (λh' c' kp e=>fin aj r' hz h' c' kp e) (by simp only[Zl]<;>omega)
 ·obtain⟨aj,r',pl,hz⟩:=I.tuple hq;have hlen:=r'.length;obtain⟨o,ho,hc,n,hd⟩:=pl;exact call_list_seq p (.inr rfl) ho hc hd (λh' c' kp e=>fin aj r' hz h' c' kp e) (by simp only[Zl]<;>omega)
def CN(K:PySem.W.Frag)(T:String)(x:V)(H:Hp):Prop:=match x with
 |.str _=>T="str"
 |.int _=>T="int"
 |.ref p=>(T="list"/\∃xs,ah K H p xs)\/(T="tuple"/\∃o,K.lookup p=some o/\o.cls=.type "tuple"/\o.dict=none)\/
  (T="dict"/\((∃kvs,H p=some (.dK kvs))\/∃kvs,H p=some (.dT kvs)))\/(T="set"/\∃S n,H p=some (.set S n))
 |_=>False
def L4{pins:List (Addr×Obj)}{σ:St}{H:Hp}{s:Shared}{T:String}{x:V}{v:Value}(I:Inv X pins σ H s)(r:RelV x v)(ty:CN X.K T x H):
  s.TypeIs v T/\∀a,v=.ref a->∃ob,s.heap.get? a=some ob/\ob.dict=none:=by
 cases x with
 |str z=>
  obtain⟨t,rfl⟩:=r;cases(show T="str" from ty);exact⟨typeIs_str s z t,λ_ e=>nomatch e⟩
 |int i=>
  obtain⟨t,rfl⟩:=r;cases(show T="int" from ty);exact⟨typeIs_int s i t,λ_ e=>nomatch e⟩
 |ref p=>
  cases r;rcases ty with⟨rfl,xs,hq⟩|⟨rfl,o,hk,hc,hd⟩|⟨rfl,hk⟩|⟨rfl,S,n,hk⟩
  ·obtain⟨aj,_,pl,_⟩:=I.list hq;refine⟨pl.isList.typeIs,λa e=>?_⟩;cases e;obtain⟨o,n,e,c,hd,_⟩:=pl;exact⟨o,e,hd⟩
  ·refine⟨⟨o,I.cR p o hk,hc⟩,λa e=>?_⟩;cases e;exact⟨o,I.cR _ o hk,hd⟩
  ·have z:∃o,s.heap.get? p=some o/\o.ExactDict:=by
    rcases hk with⟨kvs,hk⟩|⟨kvs,hk⟩
    ·obtain⟨_,_,_,_,o,_,_,e,ex,_⟩:=I.ao p _ hk;exact⟨o,e,ex⟩
    ·obtain⟨_,_,_,_,o,_,_,e,ex,_⟩:=I.ao p _ hk;exact⟨o,e,ex⟩
   obtain⟨o,e,ex⟩:=z;refine⟨⟨o,e,ex.1⟩,λa e2=>?_⟩;cases e2;exact⟨o,e,ex.2.1⟩
  ·obtain⟨o,_,_,_,e,ex,_⟩:=I.ao p _ hk;refine⟨⟨o,e,ex.1⟩,λa e2=>?_⟩;cases e2;exact⟨o,e,ex.2.1⟩
 |_=>exact Zu ty
def adI(K:PySem.W.Frag)(T:String)(r:V->List V->Hp->VK->Prop)(to:TE):TE:=λσ H Q=>to σ H λx H1=>CN K T x H1/\r x [] H1 Q
def CO(K:PySem.W.Frag)(T:String)(r:V->List V->Hp->VK->Prop)(to:TE)(t:TA):TE:=λσ H Q=>to σ H λx H1=>CN K T x H1/\t σ H1 λxs H2=>r x xs H2 Q
variable {o e:Expr}{es:List Expr}{to:TE}{t:TA}{name:Str}{apos cD:Pos}{T id:String}{r:V->List V->Hp->VK->Prop}
def L6(pa:PlainAttrs T)(slot:Slot T name id)(CP:typeOf (.builtin id)=pure (.type "method_descriptor"))(hm:OJ X id r)(ho:PE X o to)
  (Br:attributeBase o name X.env (eval o X.env)=eval o X.env:=by rfl)(Bs:(apos.endLine==cD.line)=true:=by rfl):PE X (.Call (.Attribute o name apos) [] [] cD) (adI X.K T r to):=by
 intro pins s σ H Q I h;refine wpAny_Call_method0_late Br Bs (aA (ho pins s σ H _ I h) λv s1 ⟨x,H1,I1,r1,ty,q1⟩=>?_);obtain⟨h1,h2⟩:=L4 I1 r1 ty;exact⟨T,id,pa,slot,CP,h1,h2,Calls.callWith_builtin rfl (PySem.evalArgs_none (hm pins s1 σ H1 x [] v [] Q I1 r1 .nil q1))⟩
def eA(pa:PlainAttrs T)(slot:Slot T name id)(CP:typeOf (.builtin id)=pure (.type "method_descriptor"))(hm:OJ X id r)(ho:PE X o to)(ha:PA X (e::es) t)
  (Br:attributeBase o name X.env (eval o X.env)=eval o X.env:=by rfl)
  (adJ:((backTo cD (starEach (e::es) X.env)).all (λx=> !x.1)&&(backToKw cD (keywordEach [] X.env)).all (λx=>x.1.isSome)
   &&decide ((e::es).length+([]:List Keyword).length+(if([]:List Keyword).isEmpty then 0 else 1)<30))=true:=by rfl)
  (Bs:(apos.endLine==cD.line)=true:=by rfl)(hs:starEach (e::es) X.env=(false,eval e X.env)::starEach es X.env:=by rfl)(abl:(backTo cD (starEach es X.env)).any (·.1)=false:=by rfl):
  PE X (.Call (.Attribute o name apos) (e::es) [] cD) (CO X.K T r to t):=by
 intro pins s σ H Q I h;refine wpAny_Call_method_late Br adJ Bs rfl (aA (ho pins s σ H _ I h) λv s1 ⟨x,H1,I1,r1,ty,q1⟩=>?_);obtain⟨h1,h2⟩:=L4 I1 r1 ty;refine⟨T,id,pa,slot,CP,h1,h2,?_⟩;have hA:=ha cD pins s1 σ H1 _ I1 q1;rw[hs]at hA⊢;refine Calls.callWith_builtin (by show(false||(backTo cD (starEach es X.env)).any (·.1))=false;rw[abl]<;>rfl) (Calls.evalArgs_plain ?_);exact aA hA λus s2 ⟨vs,H2,I2,r2,q2⟩=>hm pins s2 σ H2 x vs v us Q I2 r1 r2 q2
end
def tU(X:Cx)(id:String)(r:V->List V->Hp->VK->Prop):Prop:=
 ∀(pins:List (Addr×Obj)) (s:Shared) (σ:St) (H:Hp) (x:V) (xs:List V) (v:Value) (us:List Value) (Q:VK),Inv X pins σ H s->RelV x v->Vals xs us->r x xs H Q->
  wpAny (model X.prog X.w) X.A (call (.builtin id) (v::us)) (EP X pins σ Q) X.xe s
def Vals.one:∀{x:V}{us:List Value},Vals [x] us->∃u,us=[u]/\RelV x u
 |_,_,.cons r .nil=>⟨_,rfl,r⟩
def Vals.zero:∀{us:List Value},Vals [] us->us=[]
 |_,.nil=>rfl
def Vals.dropLast{xs:List V}{us:List Value}(h:Vals xs us):Vals xs.dropLast us.dropLast:=by
 induction h with
 |nil=>exact .nil
 |cons r t ih=>
  cases t with
  |nil=>exact .nil
  |cons q t'=>exact .cons r ih
def Vals.eraseIdx:∀{xs:List V}{us:List Value} (i:Nat),Vals xs us->Vals (xs.eraseIdx i) (us.eraseIdx i)
 |_,_,_,.nil=>.nil
 |_,_,0,.cons _ t=>t
 |_,_,i+1,.cons r t=>.cons r (Vals.eraseIdx i t)
def Vals.rep{xs:List V}{us:List Value}(h:Vals xs us):∀k:Nat,Vals (List.replicate k xs).flatten (List.replicate k us).flatten
 |0=>.nil
 |k+1=>by
  rw[List.replicate_succ,List.replicate_succ,List.flatten_cons,List.flatten_cons];exact Vals.append h (Vals.rep h k)
def S7{α:Type}(l:List α):l.eraseIdx (l.length-1)=l.dropLast:=by
 induction l with
 |nil=>rfl
 |cons a r ih=>
  cases r with
  |nil=>rfl
  |cons b r=>
   have e:(a::b::r).length-1=((b::r).length-1)+1:=by
    have h1:(a::b::r).length=r.length+2:=rfl;have h2:(b::r).length=r.length+1:=rfl;omega
   rw[e,List.eraseIdx_cons_succ,ih]
   all_goals rfl
def Hy{α:Type}:∀(l:List α) (i:Nat),(l.eraseIdx i).length<=l.length
 |[],_=>Y3 _
 |_::_,0=>Nat.le_succ _
 |_::r,i+1=>Nat.succ_le_succ (Hy r i)
def foldl_rep(aj:List Value):∀(k:Nat) (acc:List Value),
  List.foldl (λx1 x2=>x1++x2) acc.toArray (List.replicate k aj.toArray)=(acc++(List.replicate k aj).flatten).toArray
 |0,acc=>by simp
 |k+1,acc=>by
  have e:acc.toArray++aj.toArray=(acc++aj).toArray:=by simp
  have e2:(acc++aj)++(List.replicate k aj).flatten=acc++(List.replicate (k+1) aj).flatten:=by
   rw[List.replicate_succ,List.flatten_cons,ZY]
  rw[<-e2, <-foldl_rep aj k (acc++aj), <-e,List.replicate_succ,List.foldl_cons]
section
variable {X:Cx}{pins:List (Addr×Obj)}{σ:St}{H:Hp}{s:Shared}{l b:Addr}{xs ys zs:List V}
def Inv.B4{aj its':List Value}{n:Nat}{f:Array Value->Array Value}{t':Nat}(I:Inv X pins σ H s)(hH:H l=some (.lst xs))
  (e:s.heap.get? l=some {cls:=.type "list",data:=.seq aj.toArray n})(hf:f aj.toArray=its'.toArray)(hv:Vals ys its')(hz:ys.length<=sizeLine):
  Inv X pins σ (upd H l (.lst ys)) {s with heap:=s.heap.update l (Obj.mapSeq f),toks:=t'}:=by
 have q:=PySem.IsL.update e f;rw[hf]at q;refine I.write (x:=l) (e:=l) (by rw[hH];exact trivial) (.inl rfl) (λb' u hb hu=>(Heap.get?_update_other s.heap (Obj.mapSeq f) (Ne.symm hb)).trans hu) ⟨_,q⟩ ?_;exact⟨hz,its',_,hv,q⟩
def Inv.NW{aj:List Value}{t':Nat}(I:Inv X pins σ H s)(hv:Vals ys aj)(hz:ys.length<=sizeLine):
  Inv X pins σ (upd H s.heap.objs.size (.lst ys)) {s with heap:=s.heap.push {cls:=.type "list",data:=.seq aj.toArray},toks:=t'}:=
 I.laid (λ_ _ q=>Y8 _ q) (Y3 _) ⟨hz,aj,0,hv,Zq _ rfl⟩
def Inv.fresh(I:Inv X pins σ H s):H s.heap.objs.size=none:=I.ao.fresh (Y3 _)
def Inv.qG(I:Inv X pins σ H s)(hH:H l=some (.lst xs)):xs.length<=sizeLine/\∃(aj:List Value) (n:Nat),Vals xs aj/\xs.length=aj.length/\s.heap.get? l=some {cls:=.type "list",data:=.seq aj.toArray n}:=by
 obtain⟨z,aj,n,r,e⟩:=I.ao l _ hH;exact⟨z,aj,n,r,r.length,e⟩
def Wu{n:Nat}(h:n<=sizeLine):Builtin.List.listTooLong n=false:=by
 unfold Builtin.List.listTooLong;exact ZO (by omega)
end
section
variable {X:Cx}
inductive Hz(x:V)(vs:List V)(H:Hp)(Q:VK):Prop
 |mk (l xs y:_) (_:x=.ref l) (_:vs=[y]) (_:H l=some (.lst xs)) (_:xs.length<sizeLine) (_:Q .aH (upd H l (.lst (xs++[y])))):Hz x vs H Q
def YD:V->List V->Hp->VK->Prop:=Hz
def dZ:tU X "list.append" YD:=by
 intro pins s σ H x vs v us Q I rx rv h;obtain⟨l,xs,y,rfl,rfl,hH,hz,q⟩:=h;cases rx;obtain⟨u,rfl,ru⟩:=rv.one;obtain⟨z,aj,n,r,hl,e⟩:=I.qG hH;refine call_meets F.slot_list_append ⟨_,e,rfl⟩ F.entry_list_append (F.args_list_append_2 _ _) (PySem.list_append l aj.toArray n u (by rw[Zl];omega)) ⟨e,?_⟩;refine⟨.aH,_,I.B4 (its':=aj++[u]) hH e (by simp) (r.append (.cons ru .nil)) ?_,rfl,q⟩;rw[Zo,List.length_singleton];omega
inductive L7(x:V)(vs:List V)(H:Hp)(Q:VK):Prop
 |mk (l xs y:_) (_:x=.ref l) (_:vs=[]) (_:H l=some (.lst xs)) (_:xs[xs.length-1]?=some y) (_:Q y (upd H l (.lst xs.dropLast))):L7 x vs H Q
def adK:V->List V->Hp->VK->Prop:=L7
def L8:tU X "list.pop" adK:=by
 intro pins s σ H x vs v us Q I rx rv h;obtain⟨l,xs,y,rfl,rfl,hH,hy,q⟩:=h;cases rx;have hus:=rv.zero;subst hus;obtain⟨z,aj,n,r,hl,e⟩:=I.qG hH;obtain⟨u,hu,ru⟩:=r.get hy
 have hy':aj.toArray[aj.toArray.size-1]?=some u:=by
  show aj.toArray[aj.length-1]?=some u;rw[<-Array.getElem?_toList, <-hl];exact hu
 refine call_meets F.slot_list_pop ⟨_,e,rfl⟩ F.entry_list_pop (F.args_list_pop_1 _) (MeetsSeq.list_pop_last l aj.toArray n u hy' (by rw[Zl];omega)) ⟨e,?_⟩;refine⟨y,_,I.B4 (its':=aj.dropLast) hH e ?_ r.dropLast ?_,ru,q⟩
 ·show aj.toArray.eraseIdxIfInBounds (aj.toArray.size-1)=aj.dropLast.toArray;rw[Zl,List.eraseIdxIfInBounds_toArray,S7]
 ·rw[List.length_dropLast];omega
inductive Ji(x:V)(vs:List V)(H:Hp)(Q:VK):Prop
 |mk (l xs i k y:_) (_:x=.ref l) (_:vs=[.int i]) (_:H l=some (.lst xs)) (_: -(2^ 63)<=i) (_:i<2^ 63) (_:seqIndex? i xs.length=some k) (_:xs[k]?=some y) (_:Q y (upd H l (.lst (xs.eraseIdx k)))):Ji x vs H Q
def abm:V->List V->Hp->VK->Prop:=Ji
def Wv:tU X "list.pop" abm:=by
 intro pins s σ H x vs v us Q I rx rv h;obtain⟨l,xs,i,k,y,rfl,rfl,hH,h1,h2,hk,hy,q⟩:=h;cases rx;obtain⟨u,rfl,ru⟩:=rv.one;obtain⟨t,rfl⟩:=ru;obtain⟨z,aj,n,r,hl,e⟩:=I.qG hH;obtain⟨w,hw,iY⟩:=r.get hy
 refine call_meets F.slot_list_pop ⟨_,e,rfl⟩ F.entry_list_pop (F.args_list_pop_2 _ _)
  (MeetsSeq.list_pop_at l aj.toArray n i t k w (fitsIndex_both h1 h2) (by rw[Zl, <-hl];exact hk) (by rw[<-Array.getElem?_toList];exact hw) (by rw[Zl];omega)) ⟨e,?_⟩
 refine⟨y,_,I.B4 (its':=aj.eraseIdx k) hH e ?_ (r.eraseIdx k) ?_,iY,q⟩
 ·show aj.toArray.eraseIdxIfInBounds k=(aj.eraseIdx k).toArray;rw[List.eraseIdxIfInBounds_toArray]
 ·have:=Hy xs k;omega
inductive L9(x:V)(y:V)(H:Hp)(Q:VK):Prop
 |mk (l b xs zs:_) (_:x=.ref l) (_:y=.ref b) (_:H l=some (.lst xs)) (_:H b=some (.lst zs)) (_:xs.length+zs.length<=sizeLine) (_:∀p,H p=none->Q (.ref p) (upd H p (.lst (xs++zs)))):L9 x y H Q
def wo:R2:=L9
def Ma:b6 X (binaryOp .Add) wo:=by
 intro pins s σ H x y v u Q I rx ry h;obtain⟨l,b,xs,zs,rfl,rfl,hH,hB,hz,q⟩:=h;cases rx;cases ry;obtain⟨z,aj,n,r,hl,e⟩:=I.qG hH;obtain⟨z2,B3,n2,r2,qN,e2⟩:=I.qG hB;refine PySem.P.add_list e e2 ?_ (by rw[Zl,Zl];omega);have ea:aj.toArray++B3.toArray=(aj++B3).toArray:=by simp
 rw[ea];exact⟨.ref _,_,I.NW (t':=s.toks) (r.append r2) (by rw[Zo];omega),rfl,q _ I.fresh⟩
inductive Mb(x:V)(y:V)(H:Hp)(Q:VK):Prop
 |mk (l k xs:_) (_:x=.ref l) (_:y=.int k) (_:H l=some (.lst xs)) (_: -(2^ 63)<=k) (_:k<2^ 63) (_:xs.length*k.toNat<=sizeLine) (_:∀p,H p=none->Q (.ref p) (upd H p (.lst (List.replicate k.toNat xs).flatten))):Mb x y H Q
def wq:R2:=Mb
def len_rep{α:Type}(xs:List α)(k:Nat):(List.replicate k xs).flatten.length=k*xs.length:=by
 induction k with
 |zero=>simp
 |succ k ih=>rw[List.replicate_succ,List.flatten_cons,Zo,ih,Nat.succ_mul,Nat.add_comm]
def sL:b6 X (binaryOp .Mult) wq:=by
 intro pins s σ H x y v u Q I rx ry h;obtain⟨l,k,xs,rfl,rfl,hH,h1,h2,hz,q⟩:=h;cases rx;obtain⟨t,rfl⟩:=ry;obtain⟨z,aj,n,r,hl,e⟩:=I.qG hH;have hlen:aj.toArray.size*k.toNat<=sizeLine:=by rw[Zl, <-hl];exact hz
 have adL:¬aj.toArray.size*k.toNat>(2^ 63-1)/8:=by
  have:(sizeLine:Nat)<=(2^ 63-1)/8:=by decide
  omega
 have adM:¬(!Builtin.List.listFitsIndex k)=true:=by
  rw[fitsIndex_both h1 h2];exact Zk
 have acE:¬Builtin.List.listTooLong (aj.toArray.size*k.toNat)=true:=by
  rw[Wu hlen];exact Zk
 have adN:List.foldl (λx1 x2=>x1++x2) #[] (List.replicate (if aj.toArray.isEmpty=true then 0 else k.toNat) aj.toArray)=(List.replicate k.toNat aj).flatten.toArray:=by
  have f0:∀m:Nat,List.foldl (λx1 x2=>x1++x2) #[] (List.replicate m aj.toArray)=(List.replicate m aj).flatten.toArray:=λm=>by
   have:=foldl_rep aj m [];rw[List.nil_append]at this;exact this
  rw[f0];cases aj with
  |nil=>simp
  |cons a r'=>rw[if_neg (by simp)]
 refine wpAny_binaryOp_repeat_ref (T:="list") (U:="int") (by decide) ⟨_,e,rfl⟩ (λs'=>typeIs_int s' k t) noFill_list_mul F.fills_int_mul F.slot_int_rmul repeat_list F.slot_int_index.lookup
  (call_meets F.slot_int_rmul (typeIs_int s k t) F.entry_int_rmul (F.args_int_rmul_2 _ _) (int___rmul___int_list k t l aj.toArray n)
   ⟨e,rfl,⟨_,e,rfl⟩,call_meets F.slot_list_mul ⟨_,e,rfl⟩ F.entry_list_mul (F.args_list_mul_2 _ _) (AutoListH.list___mul___list_int_3 l aj.toArray n k t adM adL acE) ⟨e,?_⟩⟩)
 rw[adN];exact⟨.ref _,_,I.NW (t':=s.toks) (r.rep k.toNat) (by rw[len_rep,Nat.mul_comm];exact hz),rfl,q _ I.fresh⟩
end
end L2
namespace Att
open PySem PySem.W PySem.Calls PyProof.Rows
def QW{P:Params}{h:Heap}:∀(ns:List Int) (vs:List Value),WellAll P h vs (ns.map WData.int)->IntsAre vs ns:=by
 intro ns
 induction ns with
 |nil=>
  intro vs w;rw[List.map_nil]at w;cases w;exact .nil
 |cons n ns ih=>
  intro vs w;rw[Zr]at w;cases w with
  |cons a b=>
   cases a;exact .cons _ _ (ih _ b)
def Uw{l:OpenLaw}{n:Nat}(hn:l.most=some n){P:Params}{h:Heap}{args:List WData}{vals:List Value}
  (wu:l.row.toRowW.claim.pre args=true)(qO:WellAll P h vals args):
  ∃a vs ns,vals=[Value.ref a]/\args=[WData.list (ns.map WData.int)]/\h.get? a=some {cls:=.type "list",data:=.seq vs.toArray}/\IntsAre vs ns/\ns.length<=n:=by
 have hsh:WShape.hasAll [] args [.list .int]=true:=(pre_splitW wu).1;have hc:l.pre.holds [] {args:=args}=true:=(pre_splitW wu).2;obtain⟨d,r,rfl,h1,h2⟩:=hasAllW_cons hsh;obtain rfl:=hasAllW_nil h2;obtain⟨xs,rfl,h3⟩:=hasW_list h1;obtain⟨ns,rfl⟩:=items_int h3
 have hlen:ns.length<=n:=by
  unfold OpenLaw.pre at hc
  have h4:(WTm.not (.lt (.lit (.int (n:Int))) (.len (.arg 0)))).holds [] {args:=[.list (ns.map .int)]}=true:=by
   have h4:=(holds_andW hc).1;rw[hn]at h4;exact h4
  have h5:=condW_of h4 (w_not (w_lt w_lit (w_len_list (w_arg rfl))));rw[Y1]at h5;refine Nat.le_of_not_lt λq=>?_;have q':(n:Int)<((ns.length:Nat):Int):=by omega
  first
   |(rw[ZN q']at h5;exact absurd h5 (by decide))
   |(simp at h5;omega)
 cases qO with
 |cons w1 w2=>
  cases w2;cases w1 with
  |list ho B5=>exact⟨_,_,ns,rfl,rfl,ho,QW ns _ B5,hlen⟩
def Ux(l:OpenLaw)(args:List WData):l.row.toRowW.claim.post args (.bool true) args=true:=
 postW_of (r:=l.row.toRowW) (X:=(true==true))
  (show WShape.has [] (.bool true) .bool=true by first|rfl|decide|simp[WShape.has,WShape.arms,WShape.armsAll])
  (show(WTm.eq .res (.lit (.bool true))).value [] {args:=args,res:=some (.bool true),after:=args}=some (.bool (true==true))from w_eq_bool (w_res rfl) w_lit) rfl
def Sn{l:OpenLaw}{n:Nat}{q:Program}{loose:List Str}{XP:(Str->Option Value)->Heap->Prop}{YP:World->Heap->Prop}{d:DefRec}
  (hn:l.most=some n)(tV:d.params.defaults=[])
  (call:∀(w:World) (s₀ s₁:Shared) (mg mb:Str->Option Value) (fa:Addr) (o:Obj) (pm cd doc:Value) (a:Addr) (vs:List Value) (ns:List Int),
   Ground q loose [] XP w s₀ mg mb s₁.heap->YP w s₁.heap->
   s₁.heap.get? fa=some o->o.data=.func (docDef d.name d.params d.body d.scope pm cd doc)->s₁.heap.CodeRec cd d.name->mg d.name=some (.ref fa)->
   s₁.heap.get? a=some {cls:=.type "list",data:=.seq vs.toArray}->IntsAre vs ns->ns.length<=n->s₁.gens= #[]->
   codeAny (model l.prog w) callerA (.call (.ref fa) ⟨[.ref a],[]⟩) (λr s'=>r=.ok (.ret (.bool true))/\OldK s₁.heap s'.heap/\s'.os=s₁.os/\AllBare s'.gens) s₁):
  WalkO q loose XP YP l.row.toRowW d [] (λf vs=>PySem.call f vs):=by
 intro w s₀ s₁ mg mb G Y fa o pm cd doc dV kV ho hd bS hD hmg hg args vals as wu aeH OK qO nR;obtain rfl:dV=.none:=Dflts.none hD tV;obtain rfl:kV=.none:=Dflts.noKw hD;obtain⟨a,vs,ns,rfl,rfl,B6,hints,hlen⟩:=Uw hn wu qO;refine enter_call (codeAny_mono (call w s₀ s₁ mg mb fa o pm cd doc a vs ns G Y ho (fd_plain hd) bS hmg B6 hints hlen hg) λr s' hq=>?_);obtain⟨rfl,h2,h3,h4⟩:=hq;exact⟨.inl ⟨.bool true,.bool true,[],rfl,λ_=>rfl,.bool true,Ux l _,λ_=>⟨List.Pairwise.nil,λ_ hm=>(nomatch hm)⟩⟩,h2,h3,h4⟩
section
variable {prog:Program}{w:World}{A:Around}{E:Value->Shared->Prop}{s:Shared}{K:Frag}
end
end Att
namespace L2
open PySem PySem.Spec PyProof.Rows
def HC:∀{vs:List Value}{ns:List Int},IntsAre vs ns->Vals (ns.map V.int) vs
 |_,_,.nil=>.nil
 |_,_,.cons n t h=>.cons ⟨t,rfl⟩ (HC h)
def B7(H:Hp):Prop:=∀b,H b=none\/∃o xs,H b=some (.c5 o (.lst xs))
def Ww{P:Program}{w:World}{K:PySem.W.Frag}{mg mb:Str->Option Value}{CX:jz}{k:Nat}{fa a:Addr}{fd:FuncData}{x:Str}{sp:Sp}{s₁:Shared}{vs:List Value}{ns:List Int}
  (KX:K.In s₁.heap)(OL:s₁.heap.Ns mainGlobals mg)(hb:s₁.heap.Ns builtinsNs mb)(hbb:∀x:Str,x≠"__name__"->mb x=bootBuiltins x)(adO:s₁.heap.NoLimit)(hg:s₁.gens= #[])
  (ha:s₁.heap.get? a=some {cls:=.type "list",data:=.seq vs.toArray})(hi:IntsAre vs ns)(hl:ns.length<=sizeLine)(hr:bR k callerA)
  (F:∀base:Heap,K.In base->base.Ns mainGlobals mg->az P w K mg base CX k fa fd [x] sp)(acF:∀(s:Shared) (u:Value),BindsTo s fd ⟨[u],[]⟩ [(x,u)])
  (kR:∀H:Hp,B7 H->ah K H a (ns.map V.int)->sp [.ref a] H (λv _=>v=.bl true) λ_ _ _=>False)
  (CQ:∀H e s',CX [] H s₁ (λ_ _ _=>False) e s'->False):
  codeAny (model P w) callerA (.call (.ref fa) ⟨[.ref a],[]⟩) (λr s'=>r=.ok (.ret (.bool true))/\OldK s₁.heap s'.heap/\s'.os=s₁.os/\AllBare s'.gens) s₁:=by
 have rv:=HC hi;have adP:=hi.length
 have core:∀H:Hp,B7 H->ah K H a (ns.map V.int)->bK P w H s₁.heap->(∀b,H b≠none->b=a)->(H a≠none->K.lookup a=none)->
   codeAny (model P w) callerA (.call (.ref fa) ⟨[.ref a],[]⟩) (λr s'=>r=.ok (.ret (.bool true))/\OldK s₁.heap s'.heap/\s'.os=s₁.os/\AllBare s'.gens) s₁:=by
  intro H hO hS ao hA hK;have Kj:∀{b:Addr}{o:Obj},s₁.heap.get? b=some o->H b=none->(lP s₁.heap H).get? b=some o:=λe n=>Wo e n
  have tT:∀{b:Addr}{o:Obj}{es:Array DictEntry}{ep:Nat},s₁.heap.get? b=some o->o.data=.dict es ep->H b=none:=λ{b o es ep} e d=>by
   cases q:H b with
   |none=>rfl
   |some u=>
    have e':b=a:=hA b (by rw[q];simp);subst e';rw[ha]at e;cases e;have d':Data.seq vs.toArray _=Data.dict es ep:=d;cases d'
  have wW:∀{b:Addr}{m:Str->Option Value},s₁.heap.Ns b m->(lP s₁.heap H).Ns b m:=λ{b m} ⟨o,es,ep,e,d,r⟩=>⟨o,es,ep,Kj e (tT e d),d,r⟩
  have OM:K.In (lP s₁.heap H):=λb o e=>Kj (KX b o e) (by
   cases q:H b with
   |none=>rfl
   |some u=>
    have e':b=a:=hA b (by rw[q];simp);subst e';rw[hK (by rw[q];simp)]at e;cases e)
  have hM:Mod K mg (lP s₁.heap H):=⟨OM,wW OL,⟨mb,wW hb,hbb⟩,let⟨mc,h1,h2⟩:=adO;⟨mc,wW h1,h2⟩⟩;have e0:o7 P w K mg (lP s₁.heap H) callerA [] s₁ H:=⟨rfl,hM,λb o e=>Yv e,Nat.le_of_eq (Ul _ _),trivial,λb hb=>absurd (show b∈([]:List Addr)from hb) (by simp),ao,.of_eq hg⟩;refine codeAny_mono ((F _ OM (wW OL)).run callerA [] s₁ H ⟨[.ref a],[]⟩ [.ref a] [.ref a] _ _ hr e0 (acF s₁ (.ref a)) (.cons rfl .nil) (kR H hO hS)) λr s' h=>?_;cases r with
  |error e=>exact(CQ H e s' h).elim
  |ok fl=>
   cases fl with
   |next=>exact Zu h
   |brk=>exact Zu h
   |cont=>exact Zu h
   |ret u=>
    obtain⟨v,H',os,bare,un,tK,r',q⟩:=h;have q':v=.bl true:=q;subst q';obtain rfl:u=Value.bool true:=r';refine⟨rfl,OldK.of_keep λb o e=>?_,os,bare⟩;cases q:H b with
    |none=>exact un.keep b o e q (by intro z;exact absurd (show b∈([]:List Addr)from z) (by simp)) (by simp)
    |some u=>
     rcases hO b with z|⟨ob,xs,z⟩
     ·rw[q]at z;cases z
     ·have z2:=un.fY b ob _ z;obtain⟨e1,_⟩:=ao b _ z;obtain⟨e2,_⟩:=tK b _ z2;rw[e]at e1;cases e1;exact e2
 cases hk:K.lookup a with
 |some o=>
  have e:=KX a o hk;rw[ha]at e;cases e;refine core (λ_=>none) (λ_=>.inl rfl) (.inr ⟨_,vs.toArray,_,hk,rfl,rfl,rfl,by rw[Zl,adP];exact hl,by simpa using rv⟩) (λb u z=>by have z':(none:Option HO)=some u:=z;cases z') (λb z=>absurd rfl z) λz=>absurd rfl z
 |none=>
  refine core (λb=>if b=a then some (.c5 {cls:=.type "list",data:=.seq vs.toArray} (.lst (ns.map V.int)))else none) (λb=>?_) (.inl (.inr ⟨{cls:=.type "list",data:=.seq vs.toArray},if_pos rfl⟩)) (λb u z=>?_) (λb z=>?_) λ_=>hk
  ·by_cases hb:b=a
   ·exact .inr ⟨_,_,if_pos hb⟩
   ·exact .inl (if_neg hb)
  ·by_cases hb:b=a
   ·have z':=(if_pos hb).symm.trans z;cases z';subst hb;exact⟨ha,by rw[Y1];exact hl,vs,_,rv,ha⟩
   ·have z':=(if_neg hb).symm.trans z;cases z'
  ·by_cases hb:b=a
   ·exact hb
   ·exact absurd (if_neg hb) z
def YE{l:PySem.W.OpenLaw}{n k:Nat}{q:Program}{loose:List Str}{XP:(Str->Option Value)->Heap->Prop}{YP:World->Heap->Prop}{d:DefRec}{K:Params->PySem.W.Frag}{CX:World->jz}{sp:World->Sp}{x:Str}
  (hn:l.most=some n)(wU:n<=sizeLine)(tV:d.params.defaults=[])(hr:bR k callerA)
  (hY:∀(w:World) (h:Heap),YP w h->(K w.params).In h)
  (F:∀(w:World) (mg:Str->Option Value) (fa:Addr) (h:Heap),(K w.params).In h->h.Ns mainGlobals mg->mg d.name=some (.ref fa)->
   ∃fd:FuncData,(∀(s:Shared) (u:Value),BindsTo s fd ⟨[u],[]⟩ [(x,u)])/\
    ∀base:Heap,(K w.params).In base->base.Ns mainGlobals mg->az l.prog w (K w.params) mg base (CX w) k fa fd [x] (sp w))
  (kR:∀(w:World) (H:Hp) (a:Addr) (ns:List Int),ns.length<=n->B7 H->ah (K w.params) H a (ns.map V.int)->sp w [.ref a] H (λv _=>v=.bl true) λ_ _ _=>False)
  (CQ:∀(w:World) (H:Hp) (s:Shared) (e:Value) (s':Shared),CX w [] H s (λ_ _ _=>False) e s'->False):
  PySem.W.WalkO q loose XP YP l.row.toRowW d [] (λf vs=>PySem.call f vs):=by
 refine Att.Sn hn tV λw s₀ s₁ mg mb fa o pm cd doc a vs ns G Y ho hd bS hmg B6 hints hlen hg=>?_;have KX:=hY w _ Y;obtain⟨fd,hb,hF⟩:=F w mg fa _ KX G.T.g hmg;exact Ww KX G.T.g G.T.b G.T.builtins G.T.nolimit hg B6 hints (ZQ hlen wU) hr hF hb (λH hO hS=>kR w H a ns hlen hO hS) λH e s'=>CQ w H s₁ e s'
def inClass(s:Stmt)(j:Nat):Stmt:=match s with
 |.ClassDef _ _ _ body _ _ _ _ _ _ _=>body.getD j (.Pass ⟨0,0,0,0⟩)
 |_=>.Pass ⟨0,0,0,0⟩
def kB(s:Stmt):Arguments:=match s with
 |.FunctionDef _ a _ _ _ _ _ _ _ _=>a
 |_=>{posonlyargs:=[],args:=[],vararg:=none,kwonlyargs:=[],kw_defaults:=[],kwarg:=none,defaults:=[]}
def fE(s:Stmt):List Stmt:=match s with
 |.FunctionDef _ _ b _ _ _ _ _ _ _=>b
 |_=>[]
def aF(s:Stmt):Scope:=match s with
 |.FunctionDef _ _ _ _ _ _ sc _ _ _=>sc
 |_=>{kind:=.function,names:=[],isGenerator:=false,isCoroutine:=false}
abbrev aL:jz:=λ_ _ _ _ _ _=>False
abbrev E0:XK:=λ_ _ _=>False
def vS{X:Cx}:Passes aL X E0:=λ_ _ _ _ _ _ _ h=>h.elim
structure aI(K:PySem.W.Frag)(x qual:Str)(st:Stmt)(f:Addr)(fd:FuncData):Prop where
 ex:∃(oc:Value) (od:Option Addr) (kV doc pm:Value) (an:Option Addr) (au ct:Value) (j6:Array (Option Value)),
  fd=PySem.W.fnOf x qual (kB st) (fE st) (aF st) .none kV doc pm an au ct/\K.lookup f=some ⟨oc,od,.func fd,j6⟩/\PySem.W.codeIn K au qual=true
 kp:PySem.W.keepIn K (.ref f)=true
section
variable {P:Program}{w:World}{K:PySem.W.Frag}{mg:Str->Option Value}{base:Heap}
def aI.ok{x qual:Str}{st:Stmt}{f:Addr}{fd:FuncData}{N ps:List Str}{k:Nat}{sp:Sp}(F:aI K x qual st f fd)(S:aM N ps (aF st))(len:∀vs H Q E,sp vs H Q E->vs.length=ps.length)
  (sW:∀(au:Value) (A:Around) (outer:List Env) (s:Shared) (H:Hp) (vs:List V) (Q:VK) (E:XK),bR k (A.deeper (envOfC qual (aF st) s.heap.objs.size f au))->sp vs H Q E->
   ∃t,dg (fZ aL P w K mg base N qual (aF st) f au A outer s H E).gG (fE st) t/\t {nx:=λ_ H'=>Q .aH H',rt:=Q} (start N vs) H):az P w K mg base aL (k+1) f fd ps sp:=by
 obtain⟨oc,od,kV,doc,pm,an,au,ct,j6,rfl,lk,bS⟩:=F.ex;refine Nd lk bS S len λA outer s H vs Q E hr kR=>?_;obtain⟨t,h,q⟩:=sW au A outer s H vs Q E hr kR;exact⟨t,h.gG,q⟩
def aI.binds{x qual:Str}{st:Stmt}{f:Addr}{fd:FuncData}{ps:List Str}(F:aI K x qual st f fd)
  (h:∀(kV doc pm:Value) (an:Option Addr) (au ct:Value) (us:List Value),us.length=ps.length->bindArgs (PySem.W.fnOf x qual (kB st) (fE st) (aF st) .none kV doc pm an au ct) ⟨us,[]⟩=pure (ps.zip us)):Binds K fd ps []:=by
 obtain⟨oc,od,kV,doc,pm,an,au,ct,j6,rfl,lk,bS⟩:=F.ex;exact .all (h kV doc pm an au ct)
def fun_mk{x qual:Str}{st:Stmt}{f:Addr}{oc:Value}{od an:Option Addr}{j6:Array (Option Value)}{kV doc pm au ct:Value}(l:K.lookup f=some ⟨oc,od,.func (PySem.W.fnOf x qual (kB st) (fE st) (aF st) .none kV doc pm an au ct),j6⟩)
  (c:PySem.W.codeIn K au qual=true)(k:PySem.W.keepIn K (.ref f)=true):aI K x qual st f (PySem.W.fnOf x qual (kB st) (fE st) (aF st) .none kV doc pm an au ct):=⟨⟨oc,od,kV,doc,pm,an,au,ct,j6,rfl,l,c⟩,k⟩
end
def oX{A:Around}{k:Nat}(hr:bR k A):A.units+1<cLine:=ZP (Nat.add_le_add_left (by decide:1<=64) _) hr.units
section
variable {X:Cx}
def pv(i:Nat){x:Str}{pos:Pos}(hN:X.N[i]?=some x:=by rfl)(hv:wK X.env.scope x:=by first|exact Or.inl rfl|exact Or.inr (Or.inl rfl)|exact Or.inr (Or.inr rfl))(hd:(x==("__debug__":Str))=false:=by decide)
  (bS:(x==("__classdict__":Str))=false:=by decide):PE X (.Name x pos) (iR i):=abc hN hv hd bS
end
def bE{A B:Prop}(h:B):if false=true then A else B:=by
 rw[if_neg Zk];exact h
def c4{A B:Prop}(h:A):if true=true then A else B:=by
 rw[if_pos rfl];exact h
def bF{c A B:Prop} [Decidable c](h1:c->A)(h2:¬c->B):if c then A else B:=by
 by_cases h:c
 ·rw[if_pos h];exact h1 h
 ·rw[if_neg h];exact h2 h
def aa(H H':Hp):Prop:=∀b o,H b=some o->H' b=some o
def aa.refl(H:Hp):aa H H:=λ_ _ h=>h
def aa.trans{H H1 H2:Hp}(a:aa H H1)(b:aa H1 H2):aa H H2:=λc o h=>b c o (a c o h)
def aa.free{H H':Hp}(e:aa H H'){l:Addr}(h:H' l=Option.none):H l=Option.none:=by
 cases q:H l with
 |none=>rfl
 |some o=>
  rw[e l o q]at h;cases h
def aa.seq{K:PySem.W.Frag}{H H':Hp}{a:Addr}{xs:List V}(e:aa H H')(h:ah K H a xs):ah K H' a xs:=by
 rcases h with(h|⟨o,h⟩)|h
 ·exact .inl (.inl (e _ _ h))
 ·exact .inl (.inr ⟨o,e _ _ h⟩)
 ·exact .inr h
def Cx.cq(X:Cx)(N:List Str)(scope:Scope)(cl:List (Str×Addr))(C:Addr)(s:Shared)(H:Hp)(fp:List Addr):Cx:=
 {prog:=X.prog,w:=X.w,K:=X.K,mg:=X.mg,base:=X.base,A:=X.A,N:=N,s₀:=s,H₀:=H,env:=compEnvC scope cl C X.env,outer:=X.stack,stack:=X.stack,ex:=fp,fn:=λ_=>false,calm:=X.calm,pn:=[],xe:=λ_ _=>False}
def bQ(ix:List Nat)(x:Option V)(σ:St):St:=x::ix.map λi=>(σ[i]?).join
def Ng(wi:TI)(ix:List Nat)(te:TE):TE:=λσ H Q=>wi σ H λJ H1=>∀D,H1 D=none->∃W:Nat->Nat->List V->Hp->Prop,(∃m,W 0 m [] (upd H1 D (.lst [])))/\
 ∀i m ys H2,W i m ys H2->H2 D=some (.lst ys)/\((J.stop i H2/\Q (.ref D) H2)\/(J.go i H2/\ys.length<sizeLine/\∀x H',J.fO i H2 x H'->te (bQ ix (some x) σ) H' λy H3=>
  H3 D=some (.lst ys)/\∃m',m'<m/\W (i+1) m' (ys++[y]) (upd H3 D (.lst (ys++[y])))))
def bK.sameBut{P:Program}{w:World}{H:Hp}{h h':Heap}{C:Addr}(x:bK P w H h)(hC:H C=none)(sb:Heap.SameBut C h h'):bK P w H h':=λa o e=>
 (x a o e).jv (λb u hb q=>(sb.2 b (by
  rintro rfl;rcases hb with hb|hb
  ·rw[<-hb,hC]at e;cases e
  ·rw[hC]at hb;cases hb)).trans q) (λ_ q=>q) λ_ _ q=>q
section
variable {X:Cx}
def Wx{x:Str}{px pos:Pos}{elt iter:Expr}{scope:Scope}{cl:List (Str×Addr)}{fr:List Str}{ix:List Nat}{wi:TI}{te:TE}
  (hc:X.calm=true)(hi:PI X (.Name x px) iter wi)
  (gS:closureFor scope X.env=pure cl)(de:scope.kind=.function)(gz:∀y∈scope.names,y.2≠.cell)
  (gO:∀y∈scope.names,y.2=.local->scope.names.lookup y.1=some .local)(hx:scope.names.lookup x=some .local)
  (hN:(x::fr).Nodup)(gi:ix.map (λi=>X.N[i]?)=fr.map some)
  (eB:∀y∈fr,X.env.kindOf y=some .cell/\(relabel scope X.env).names.lookup y=some .cell)
  (aV:∀y c,cl.lookup y=some c->X.env.cells.lookup y=some c)
  (fK:∀y,((relabel scope X.env).names.lookup y=some .cell\/(relabel scope X.env).names.lookup y=some .free)->∃c,cl.lookup y=some c)
  (he:∀C s H fp,PE (X.cq (x::fr) scope cl C s H fp) elt te)
  (hs:∀x,foldedSetIterable iter X.env x=pure x:=by intro _;rfl):
  PE X (.ListComp elt [⟨.Name x px,iter,[],0⟩] scope pos) (Ng wi ix te):=by
 intro pins s σ H Q I h;rw[eval_ListComp];refine wpAny_comprehension_free (use:=none) rfl hs gS de gO (aA (hi pins s σ H _ I h) λxv s1 h1=>aA h1 λpB s2 h2=>?_);obtain⟨it,fp,tn,J,H2,e,I2,T,gI,f2,q⟩:=h2;subst e;refine wpAny_newObj_type (wpAny_newFunctionEnv gz (by intro y hy;simp at hy) (λh₁ dE dF=>?_) de);dsimp only at dE dF⊢;have iC:H2 s2.heap.objs.size=none:=I2.ao.fresh (Y3 _);obtain⟨W,⟨m0,w0⟩,turn⟩:=q s2.heap.objs.size iC;generalize fA:s2.heap.push {cls:=.type "list",dict:=none,data:=.seq ([]:List Value).toArray}=HL at dE dF⊢;have hC:HL.objs.size=s2.heap.objs.size+1:=by rw[<-fA,Heap.size_push]
 have old:∀b o,s2.heap.get? b=some o->h₁.get? b=some o:=λb o e=>(dF.2 b (by rw[hC];exact Zn (ZW (Zi e)))).trans (Y8 _ (fA▸Y8 _ e))
 have j8:h₁.get? s2.heap.objs.size=some {cls:=.type "list",data:=.seq ([]:List Value).toArray}:=
  (dF.2 _ (by rw[hC];exact Zn (Nat.lt_succ_self _))).trans (Y8 _ (fA▸Zq _ rfl))
 generalize lY:HL.objs.size=C at dE dF⊢;rw[lY]at hC;have bC:∀b o,s2.heap.get? b=some o->b≠C:=λb o e=>by rw[hC];exact Zn (ZW (Zi e))
 have wX:∀b∈bW X.stack,∃o,s2.heap.get? b=some o:=λb hb=>by
  obtain⟨_,o,ho,_⟩:=I2.stack.mem hb;exact⟨o,ho⟩
 have eX:∀b∈fp,∃o,s2.heap.get? b=some o/\∀v,o.data≠.cell v:=λb hb=>T.obj 0 _ gI b hb
 have ik:∀b∈fp,b∉bW X.stack:=λb hb z=>by
  rcases Y5.mp (I2.kE b z)with z|z
  ·exact(f2 b hb).2.1 z
  ·exact(f2 b hb).2.2.1 z
 let B:=X.cq (x::fr) scope cl C s2 H2 fp
 have lZ:B.Ok:=by
  refine⟨I2.ok.mod,de,I2.ok.glob,I2.ok.blt,(by show s2.heap.objs.size<=C;rw[hC];exact Nat.le_succ _),λy z c e1 e2=>I2.ok.inj y z c (aV _ _ e1) (aV _ _ e2),λy hy=>fK y hy,λy c z=>absurd (show false=true from z) Zk,
   λ_=>I2.ok.hd hc,I2.ok.frames,.inl rfl,λb hb=>⟨?_,λy c e=>(f2 b hb).2.2.2.2.1 y c (aV _ _ e)⟩,I2.bs,ZQ I2.ok.iW I2.sz,λb o e hb=>?_,λb hb=>ik b hb,I2.stack,I2.oH⟩
  ·obtain⟨o,e,_⟩:=eX b hb;exact bC b o e
  ·rcases(f2 b hb).2.2.2.1 with z|z
   ·exact I2.ok.kL b o e z
   ·exact absurd (Zv (Zi (I2.ok.bs b o e).1) z) (Z2 _)
 have IB:∀tk,Inv B [] (bQ ix none σ) (upd H2 s2.heap.objs.size (.lst [])) {s2 with heap:=h₁,toks:=tk}:=λtk=>by
  refine⟨lZ,rfl,I2.bare,Un.laid old (Y3 _) iC,⟨_,dE,λj y v e1 e2 e3=>?_⟩,λy c e=>?_,?_,λy c e=>?_,(λp hp=>nomatch hp),I2.ao.laid old (Y3 _) ⟨Zp _,[],0,.nil,j8⟩,?_⟩
  ·cases j with
   |zero=>cases(show(some none:Option (Option V))=some (some v)from e2)
   |succ j=>
    have e1:fr[j]?=some y:=e1;have e2:(ix.map λi=>(σ[i]?).join)[j]?=some (some v):=e2;have hj:=congrArg (λl=>l[j]?) gi;simp only[Zf,e1]at hj;rw[Zf]at e2;cases j9:ix[j]? with
    |none=>rw[j9]at e2;cases e2
    |some i=>
     rw[j9]at hj e2;have hj:X.N[i]?=some y:=Zg hj;have e2:(σ[i]?).join=some v:=Zg e2
     have e2:σ[i]?=some (some v):=by
      cases z:σ[i]? with
      |none=>rw[z]at e2;cases e2
      |some z'=>rw[z]at e2;rw[show z'=some v from e2]
     obtain⟨m,hn,hl⟩:=I2.loc;have hk:=eB y (Y6 e1);obtain⟨u,ru,lk⟩:=hl i y v hj e2 (.inr (.inl hk.1));refine⟨u,ru,.inr ⟨.inl hk.2,?_⟩⟩;rcases lk with⟨z,_⟩|⟨_,c,ec,⟨oc,bX,bS⟩⟩
     ·rw[hk.1]at z;cases z
     ·obtain⟨c',ka⟩:=fK y (.inl hk.2);have:=aV _ _ ka;rw[ec]at this;cases this;exact⟨c,ka,oc,old c oc bX,bS⟩
  ·obtain⟨v,oc,bX,bS⟩:=I2.cell y c (aV _ _ e);exact⟨v,oc,old c oc bX,bS⟩
  ·show upd H2 s2.heap.objs.size (.lst []) C=none;rw[ai (by rw[hC];exact Nat.succ_ne_self _)];exact I2.ao.fresh (by rw[hC];exact Nat.le_succ _)
  ·obtain⟨v,oc,bX,bS⟩:=I2.cell y c (aV _ _ e);rw[ai (Zn (Zi bX))];exact I2.fj y c (aV _ _ e)
  ·show(bQ ix none σ).length=(x::fr).length;have:=congrArg List.length gi;simp only[Y1]at this;simp[bQ,this]
 have gj:∀tk,tn 0 ({s2 with heap:=h₁,toks:=tk}:Shared).heap:=λ_=>T.keep 0 _ _ gI λb hb o e=>old b o e
 have fB:∀{H':Hp},(∀b∈fp,H' b=none)->∀b∈fp,iS B [] H' b:=λhn b hb=>by
  obtain⟨o,e,_⟩:=eX b hb;exact⟨hn b hb,bC b o e,ik b hb,.inl hb,λy c ec=>(f2 b hb).2.2.2.2.1 y c (aV _ _ ec),(λp hp=>nomatch hp)⟩
 have loop:∀tk,codeAny (model X.prog X.w) X.A (.compLoop (.ListComp elt [⟨.Name x px,iter,[],0⟩] scope pos) 0 (.ref it) (.ref s2.heap.objs.size) (compEnvC scope cl C X.env))
   (compPost (model X.prog X.w) X.A X.xe none (EP X pins σ Q) (.ref s2.heap.objs.size) C) {s2 with heap:=h₁,toks:=tk}:=λtk=>by
  refine codeAny_loop rfl (λn s'=>∃i ys x' H',Inv B [] (bQ ix x' σ) H' s'/\tn i s'.heap/\(∀b∈fp,H' b=none)/\W i n ys H') (λn s3 hI=>?_) m0 ⟨0,[],none,_,IB tk,gj tk,λb hb=>?_,w0⟩
  ·obtain⟨i,ys,x',H3,I3,fu,cA,w3⟩:=hI;show wpAny _ _ ((compTurn (.ListComp elt [⟨.Name x px,iter,[],0⟩] scope pos) 0 (.ref it) (.ref s2.heap.objs.size) (compEnvC scope cl C X.env)).onRaise (λx=>do noteFrame x (compEnvC scope cl C X.env);theTreesLotGoes x)) _ _ s3;refine wpAny_noted ?_;rw[compTurn_list1];obtain⟨CT,alt⟩:=turn i n ys H3 w3;refine wpAny_bind (wpAny_standAt (wpAny_bind ?_));rcases alt with⟨stop,qn⟩|⟨go,hlen,step⟩
   ·refine aA (T.done B rfl rfl rfl hc i [] s3 _ H3 _ I3 (fB cA) fu stop) λr s4 ⟨hr,I4⟩=>?_;subst hr;refine ZV ?_;obtain⟨m4,kb,_⟩:=I4.loc;refine⟨m4,kb,λh' sb=>?_⟩
    have un:Un (bW X.stack) fp H2 H3 s2.heap h':=by
     have u:=I4.base;refine⟨λb o e n hb hx=>(sb.2 b (bC b o e)).trans (u.keep b o e n hb hx),λb o e n hb hx=>?_,u.free,λb o e hx=>?_,u.gB,u.fY,u.gC⟩
     ·obtain⟨sl,e1⟩:=u.slot b o e n hb hx;exact⟨sl,(sb.2 b (bC b o e)).trans e1⟩
     ·obtain⟨o',e1⟩:=u.there b o e hx;exact⟨o',(sb.2 b (bC b o e)).trans e1⟩
    refine⟨.ref s2.heap.objs.size,H3,I2.nu (s':={s4 with heap:=h'}) (ch:=fp) I4.os un (I4.ao.sameBut I4.free sb) I4.bare (λb hb=>⟨(f2 b hb).2.2.2.1,(f2 b hb).2.1,(f2 b hb).2.2.2.2⟩),rfl,qn⟩
   ·refine aA (T.item B rfl rfl rfl hc i [] s3 _ H3 _ I3 (fB cA) fu go) λr s4 ⟨u,hr,h4⟩=>?_;subst hr;refine wpAny_bind (aA h4 λ_ s5 ⟨xv,H5,I5,r5,y5,dJ,j4⟩=>?_);have j5:=I5.pinned (fB j4) (T.obj _ _ dJ);refine wpAny_bind (wpAny_assign_Name (lF (i:=0) (X:=B) j5 hN rfl (.inl (lookup_relabel_local hx)) r5 (λs6 I6=>?_) (.inr (lookup_relabel_local hx))));have I6:Inv B ([]++jO fp s5.heap) (bQ ix (some xv) σ) H5 s6:=I6;refine wpAny_bind (wpAny_bind (wpAny_mono (he C s2 H2 fp _ s6 _ H5 _ I6 (step xv H5 y5)) (λv s7 ⟨y,H7,I7,r7,tW,m',hm,w7⟩=>?_) λ_ _ z=>Zu z))
    refine wpAny_bind (wpAny_mono (dZ (X:=B) _ s7 _ H7 (.ref s2.heap.objs.size) [y] (.ref s2.heap.objs.size) [v] (λ_ H8=>H8=upd H7 s2.heap.objs.size (.lst (ys++[y]))) I7 rfl (.cons r7 .nil) ⟨_,ys,y,rfl,rfl,tW,hlen,rfl⟩)
     (λ_ s8 ⟨_,H8,I8,_,e8⟩=>?_) λ_ _ z=>Zu z)
    subst e8;refine ZV (ZV ⟨rfl,m',hm,i+1,ys++[y],some xv,_,I8.kr,T.keep _ _ _ dJ λb hb o e=>(I8.pin (b,o) (Zb _ (Zb _ (g7 hb e)))).1,λb hb=>?_,w7⟩);obtain⟨o,e,d⟩:=T.obj _ _ dJ b hb;exact(I8.pin (b,o) (Zb _ (Zb _ (g7 hb e)))).2.1
  ·obtain⟨o,e,_⟩:=eX b hb;rw[ai (Zn (Zi e))];exact(f2 b hb).1
 exact codeAny_compStart_list (loop _) (T.self _ 0 _ _ _ (gj _) (loop _))
end
inductive Wr(P:Prop):Prop where
 |mk (h:P):Wr P
def Wr.get{P:Prop}(h:Wr P):P:=by cases h;assumption
section
variable {X:Cx}{e:Expr}{te:TE}{pos p1 p2 p3:Pos}
abbrev dM(r:R2):R2:=λx y H Q=>Wr (r x y H Q)
def b6.wr{f:Value->Value->Sem Value}{r:R2}(h:b6 X f r):b6 X f (dM r):=λpins s σ H x y v u Q I rx ry q=>h pins s σ H x y v u Q I rx ry q.get
def aK:gd X (dM (lQ X.K)):=λvalue slice pins s σ H x y v u Q I rx ry q hs=>An value slice pins s σ H x y v u Q I rx ry q.get hs
def bI:gd X (dM (gD X.K)):=λvalue slice pins s σ H x y v u Q I rx ry q hs=>abi value slice pins s σ H x y v u Q I rx ry q.get hs
def jw:CJ X (λx lo hi H Q=>Wr (wm X.K x lo hi H Q)):=λpins s σ H x v vl vu lo hi sl Q I rx hs pl pu q=>vo pins s σ H x v vl vu lo hi sl Q I rx hs pl pu q.get
def gM:b6 X (binaryOp .Add) (dM wo):=Ma.wr
inductive Mc(K:PySem.W.Frag)(x:V)(y:V)(H:Hp)(Q:VK):Prop
 |mk (a b:Addr) (ns ms:List Int) (_:x=.ref a) (_:y=.ref b) (_:ah K H a (ns.map V.int)) (_:ah K H b (ms.map V.int)) (_:Q (.bl (decide (ns=ms))) H):Mc K x y H Q
def B8(K:PySem.W.Frag):R2:=Mc K
inductive Me(K:PySem.W.Frag)(x:V)(y:V)(H:Hp)(Q:VK):Prop
 |mk (a b:Addr) (ns ms:List Int) (_:x=.ref a) (_:y=.ref b) (_:ah K H a (ns.map V.int)) (_:ah K H b (ms.map V.int)) (_:Q (.bl (!decide (ns=ms))) H):Me K x y H Q
def B9(K:PySem.W.Frag):R2:=Me K
def vp(hu:X.A.units+64<cLine):b6 X (compareOp .Eq) (dM (B8 X.K)):=by
 intro pins s σ H x y v u Q I rx ry h;replace h:=h.get;obtain⟨a,b,ns,ms,rfl,rfl,ha,hb,q⟩:=h;cases rx;cases ry;obtain⟨aj,r,ht,hz⟩:=I.list ha;obtain⟨its',r',qP,CV⟩:=I.list hb;exact PySem.W.eq_intsK ht.isList (intsAre_of r) qP.isList (intsAre_of r') hu ⟨.bl _,H,I,rfl,q⟩
def YF(hu:X.A.units+64<cLine):b6 X (compareOp .NotEq) (dM (B9 X.K)):=by
 intro pins s σ H x y v u Q I rx ry h;replace h:=h.get;obtain⟨a,b,ns,ms,rfl,rfl,ha,hb,q⟩:=h;cases rx;cases ry;obtain⟨aj,r,ht,hz⟩:=I.list ha;obtain⟨its',r',qP,CV⟩:=I.list hb;exact PySem.W.ne_intsK ht.isList (intsAre_of r) qP.isList (intsAre_of r') hu ⟨.bl _,H,I,rfl,q⟩
def mT:ig X (.builtin "isinstance") (λvs H Q=>∃x c t b,vs=[x,.ty c]/\iU X.K H x t/\PySem.W.kitOne X.K t (.type c)=some b/\Q (.bl b) H):=by
 intro pins s σ H vs us Q I r h;obtain⟨x,c,t,b,rfl,ty,k,q⟩:=h;cases r with
 |cons r1 rr=>
  cases rr with
  |cons r2 rr=>
   cases rr;cases r2;exact Ut I r1 ty k λtk=>⟨.bl b,H,I.tok tk,rfl,q⟩
inductive Ca(K:PySem.W.Frag)(x:V)(H1:Hp)(Q:VK):Prop
 |mk (a xs:_) (_:x=.ref a) (_:ah K H1 a xs) (_:∀p,H1 p=none->Q (.ref p) (upd H1 p (.lst xs.reverse))):Ca K x H1 Q
def adQ(K:PySem.W.Frag)(te:TE):TE:=λσ H Q=>te σ H λx H1=>Wr (Ca K x H1 Q)
def vT(K:PySem.W.Frag)(xs:List V)(H:Hp)(Q:VK):Prop:=∃p ys,xs=[.ref p]/\(ah K H p ys\/aZ K H p ys)/\∀l,H l=none->Q (.ref l) (upd H l (.lst ys))
def zh:ig X (.type "list") (λxs H Q=>Wr (vT X.K xs H Q)):=λpins s σ H vs us Q I r h=>RP pins s σ H vs us Q I r h.get
def Vals.rev{xs:List V}{us:List Value}(r:Vals xs us):Vals xs.reverse us.reverse:=by
 induction r with
 |nil=>exact .nil
 |cons h t ih=>rw[List.reverse_cons,List.reverse_cons];exact Vals.append ih (.cons h .nil)
def Mf(he:PE X e te){j:Nat}:PE X (.Subscript e (.Slice none none (some (.UnaryOp .USub (.Constant (.int 1) j p1) p3)) p2) pos) (adQ X.K te):=by
 intro pins s σ H Q I h;refine Subscript_ (aA (he pins s σ H _ I h) λv s1 ⟨x,H1,I1,r1,q1⟩=>?_);obtain⟨a,xs,rfl,hx,q⟩:=q1.get;cases r1;refine wpAny_Slice ?_;rw[evalPart_none];refine ZV (ZV ?_);refine aA (dC (fI fG af) pins s1 σ H1 (λo H'=>o=some (-1)/\H'=H1) I1 ⟨_,rfl,_,rfl,rfl,rfl⟩) λvk s2 ⟨o,H2,I2,pk,q2⟩=>?_;obtain⟨rfl,rfl⟩:=q2;obtain⟨aj,r,ht,hz⟩:=I2.list hx;have hlen:=r.length;have I4:Inv X pins σ H2 {s2 with heap:=s2.heap.push {cls:=.type "slice",data:=.fields #[.none,.none,vk]}}:=I2.kept (t':=s2.toks) λb ob q=>Y8 _ q;obtain⟨its',r',qP,CV⟩:=I4.list hx;refine tail_any qP.isList.typeIs slot_list_getitem.lookup ?_ (by with_unfolding_all rfl);refine wpAny_getItem_list_slice qP.isList (Heap.IsSliceOf.new ..) .none .none pk (by simp) ?_ (by rw[Zl, <-r'.length];exact CV);rw[PySem.W.krv_pick];refine⟨.ref _,_,I4.laid (t':=s2.toks) (o:=.lst xs.reverse) (λb ob q=>Y8 _ q) (Y3 _) ?_,rfl,q _ (I4.ao.fresh (Y3 _))⟩;exact⟨by rw[List.length_reverse];exact hz,its'.reverse,0,r'.rev,Zq _ rfl⟩
def YG{x:Str}{px:Pos}{elt iter:Expr}{scope:Scope}{cl:List (Str×Addr)}{wi:TI}(fr:List Str)(ix:List Nat)
  (hi:PI X (.Name x px) iter wi)(he:∀C s H fp,PE (X.cq (x::fr) scope cl C s H fp) elt te)
  (aV:∀y c,cl.lookup y=some c->X.env.cells.lookup y=some c)
  (gS:closureFor scope X.env=pure cl:=by rfl)(hc:X.calm=true:=by rfl)(de:scope.kind=.function:=by rfl)(gz:(scope.names.all λp=>p.2 != .cell)=true:=by rfl)
  (gO:(scope.names.all λp=>p.2 != .local||scope.names.lookup p.1==some .local)=true:=by rfl)(hx:scope.names.lookup x=some .local:=by rfl)
  (hN:(x::fr).Nodup:=by decide+kernel)(gi:ix.map (λi=>X.N[i]?)=fr.map some:=by rfl)
  (eB:(fr.all λy=>X.env.kindOf y==some .cell&&(relabel scope X.env).names.lookup y==some .cell)=true:=by rfl)
  (fK:((relabel scope X.env).names.all λp=>(p.2 != .cell&&p.2 != .free)||(cl.lookup p.1).isSome)=true:=by rfl)
  (hs:∀x,foldedSetIterable iter X.env x=pure x:=by intro _;rfl):
  PE X (.ListComp elt [⟨.Name x px,iter,[],0⟩] scope pos) (Ng wi ix te):=by
 refine Wx hc hi gS de (λy hy e=>?_) (λy hy e=>?_) hx hN gi (λy hy=>?_) aV (λy hy=>?_) he hs
 ·have:=ZC.mp gz y hy;rw[e]at this;exact absurd this (by decide)
 ·have:=ZC.mp gO y hy;rw[e]at this;simpa using this
 ·have:=ZC.mp eB y hy;rw[Bool.and_eq_true]at this;exact⟨eq_of_beq this.1,eq_of_beq this.2⟩
 ·have:∃k,(relabel scope X.env).names.lookup y=some k/\(k=.cell\/k=.free):=by
   rcases hy with h|h
   ·exact⟨_,h,.inl rfl⟩
   ·exact⟨_,h,.inr rfl⟩
  obtain⟨k,e,hk⟩:=this;have:=ZC.mp fK (y,k) (ZM e)
  have h2:(cl.lookup y).isSome=true:=by
   rcases hk with rfl|rfl<;>simpa using this
  exact Option.isSome_iff_exists.mp h2
def HD{K:PySem.W.Frag}{a:Addr}{ns:List Int}{ix:List Nat}{te:TE}{σ:St}{H:Hp}{Q:VK}(f:Int->Int)(hq:ah K H a (ns.map V.int))(hl:ns.length<sizeLine)
  (he:∀z∈ns,∀(H':Hp) (Q':VK),Q' (.int (f z)) H'->te (bQ ix (some (.int z)) σ) H' Q')(h:∀D,H D=none->Q (.ref D) (upd H D (.lst ((ns.map f).map V.int)))):
  ∀D,H D=none->∃W:Nat->Nat->List V->Hp->Prop,(∃m,W 0 m [] (upd H D (.lst [])))/\
   ∀i m ys H2,W i m ys H2->H2 D=some (.lst ys)/\(((eU K a).stop i H2/\Q (.ref D) H2)\/((eU K a).go i H2/\ys.length<sizeLine/\∀x H',(eU K a).fO i H2 x H'->te (bQ ix (some x) σ) H' λy H3=>
    H3 D=some (.lst ys)/\∃m',m'<m/\W (i+1) m' (ys++[y]) (upd H3 D (.lst (ys++[y]))))):=by
 intro D hD;refine⟨λi m ys H2=>m=ns.length-i/\i<=ns.length/\ys=((ns.take i).map f).map V.int/\H2=upd H D (.lst ys),⟨ns.length,by simp,Zp _,by simp,rfl⟩,?_⟩;rintro i m ys H2 ⟨rfl,hi,rfl,rfl⟩
 have hs:ah K (upd H D (.lst (((ns.take i).map f).map V.int))) a (ns.map V.int):=by
  have s:aa H (upd H D (.lst (((ns.take i).map f).map V.int))):=λb o e=>by rw[ai (a8 e hD)];exact e
  exact s.seq hq
 refine⟨ak,?_⟩;by_cases aP:i<ns.length
 ·refine .inr ⟨⟨_,V.int ns[i],hs,by simp[aP]⟩,by simp;omega,λx H' y=>?_⟩;obtain⟨e,y⟩:=y;subst e;have ey:=y _ hs;simp only[Zf,Zd aP,Option.map_some]at ey;cases ey;refine he ns[i] (ZA aP) _ _ ⟨ak,ns.length-(i+1),by omega,rfl,aP,?_,?_⟩
  ·rw[Zj aP];simp only[Ze,Zr,List.map_nil]
  ·rw[lH]
 ·have e:i=ns.length:=by omega
  subst e;refine .inl ⟨⟨_,hs,by simp⟩,?_⟩;rw[ZE (Y3 _)];exact h D hD
def wx(xs:List V)(H:Hp)(Q:VK):Prop:=xs.length<=sizeLine/\∀p,H p=none->Q (.ref p) (upd H p (.lst xs))
def Nh(t:TA):TE:=λσ H Q=>t σ H λxs H1=>Wr (wx xs H1 Q)
def eI{es:List Expr}{t:TA}(h:PA X es t):PE X (.List es pos) (Nh t):=by
 intro pins s σ H Q I hq;refine wpAny_List_spliced (aA (h pos pins s σ H _ I hq) λus s1 ⟨xs,H1,I1,r,w⟩=>?_);obtain⟨z,q⟩:=w.get;refine⟨by rw[<-r.length];exact z,?_⟩;have hf:H1 s1.heap.objs.size=none:=I1.ao.fresh (Y3 _);refine⟨.ref s1.heap.objs.size,upd H1 s1.heap.objs.size (.lst xs),I1.laid (t':=s1.toks) (λb u e=>Y8 _ e) (Y3 _) ?_,rfl,q _ hf⟩;exact⟨z,us,0,r,Zq _ rfl⟩
end
abbrev aw(H:Hp)(a:Addr)(ns:List Int):Prop:=H a=some (.lst (ns.map V.int))
def cn{α:Type}(xs:List α)(lo hi:Option Int):List α:=(xs.drop (HT.dS xs.length 0 lo)).take (HT.dS xs.length xs.length hi-HT.dS xs.length 0 lo)
def u9(ns:List Int)(lo hi:Option Int):jV (ns.map V.int) lo hi=(cn ns lo hi).map V.int:=by
 unfold jV cn;simp[List.map_drop,List.map_take]
def Kk{α:Type}(xs:List α)(k:Nat):cn xs none (some (k:Int))=xs.take k:=by
 unfold cn;rw[HT.vn,HT.zQ];simp only[List.drop_zero,Nat.sub_zero];by_cases h:k<=xs.length
 ·rw[Nat.min_eq_left h]
 ·rw[Nat.min_eq_right (by omega),ZE (Y3 _),ZE (by omega)]
def Uy{α:Type}(xs:List α)(k:Nat):cn xs (some (k:Int)) none=xs.drop k:=by
 unfold cn;rw[HT.vn,HT.zQ];by_cases h:k<=xs.length
 ·rw[Nat.min_eq_left h,ZE (by rw[ZJ];exact Y3 _)]
 ·rw[Nat.min_eq_right (by omega),List.drop_of_length_le (Y3 _),List.drop_of_length_le (by omega)];simp
def qu{α:Type}(xs:List α)(j k:Nat)(h:j<=k):cn xs (some (j:Int)) (some (k:Int))=(xs.drop j).take (k-j):=by
 unfold cn;rw[HT.vn,HT.vn];by_cases h1:k<=xs.length
 ·rw[Nat.min_eq_left h1,Nat.min_eq_left (by omega)]
 ·rw[Nat.min_eq_right (show xs.length<=k by omega)];by_cases h2:j<=xs.length
  ·rw[Nat.min_eq_left h2,ZE (by rw[ZJ];exact Y3 _),ZE (by rw[ZJ];omega)]
  ·rw[Nat.min_eq_right (by omega),List.drop_of_length_le (Y3 _),List.drop_of_length_le (by omega)];simp
def zR{α:Type}(xs:List α)(lo hi:Option Int):(cn xs lo hi).length<=xs.length:=by
 unfold cn;rw[Zx,ZJ];omega
def zS{α:Type}{xs:List α}{lo hi:Option Int}{v:α}(h:v∈cn xs lo hi):v∈xs:=List.mem_of_mem_drop (List.mem_of_mem_take h)
def YH{ns:List Int}{j:Nat}(h:j<ns.length):iX (ns.map V.int) (j:Int)=some (V.int (ns[j]'h)):=mY (by rw[Zf,Zd h];rfl)
def gu{ns:List Int}{i:Nat}{y:V}(h:(ns.map V.int)[i]?=some y):∃z,y=V.int z/\ns[i]?=some z:=by
 rw[Zf]at h;cases e:ns[i]? with
 |none=>rw[e]at h;cases h
 |some z=>rw[e]at h;exact⟨z,(Zg h).symm,rfl⟩
def aa.upd{H H1:Hp}{a:Addr}{o:HO}(s:aa H H1)(n:H a=none):aa H (upd H1 a o):=λb u e=>by
 rw[ai (a8 e n)];exact s b u e
def aa.ints{H H':Hp}{a:Addr}{ns:List Int}(e:aa H H')(h:aw H a ns):aw H' a ns:=e _ _ h
def aw.other{H:Hp}{a b:Addr}{ns:List Int}{o:HO}(h:aw H a ns)(n:a≠b):aw (L2.upd H b o) a ns:=by
 show L2.upd H b o a=_;rw[ai n];exact h
def aw.fresh{H:Hp}{a b:Addr}{ns:List Int}{o:HO}(h:aw H a ns)(n:H b=none):aw (L2.upd H b o) a ns:=h.other (a8 h n)
def aw.put{H:Hp}{a:Addr}{ns:List Int}:aw (L2.upd H a (.lst (ns.map V.int))) a ns:=ak
def aw.snoc{H:Hp}{a:Addr}{ns:List Int}{v:Int}:aw (L2.upd H a (.lst (ns.map V.int++[V.int v]))) a (ns++[v]):=by
 show L2.upd H a _ a=_;rw[ak,Ze];rfl
def aa.fM{H H1:Hp}{a:Addr}{o:HO}(s:aa H H1)(n:H1 a=none):aa H (L2.upd H1 a o):=s.upd (s.free n)
def bw{n:Nat}(h:n<=10000000):n<sizeLine:=ZP h (by decide)
def uV{K:PySem.W.Frag}:PySem.W.kitOne K (.type "list") (.type "list")=some true:=by
 show(if(Value.type "list"==Value.type "list")=true then some true else _)=_;rw[if_pos (by decide)]
def HE{K:PySem.W.Frag}:PySem.W.kitOne K (.type "int") (.type "int")=some true:=by
 show(if(Value.type "int"==Value.type "int")=true then some true else _)=_;rw[if_pos (by decide)]
def GQ{K:PySem.W.Frag}(h:PySem.W.kitOne K (.type "int") (.type "bool")=some false:=by rfl):PySem.W.kitOne K (.type "int") (.type "bool")=some false:=h
def sM{H:Hp}{xs:List V}{Q:VK}(ns:List Int)(e:xs=ns.map V.int)(h:∀(p:Addr) (H':Hp),H p=none->aw H' p ns->aa H H'->Q (.ref p) H'):∀p,H p=none->Q (.ref p) (upd H p (.lst xs)):=λp hp=>by
 subst e;exact h p _ hp .put ((aa.refl H).upd hp)
def qC{H:Hp}{ns:List Int}{Q:VK}(h:∀(p:Addr) (H':Hp),H p=none->aw H' p ns->aa H H'->Q (.ref p) H'):∀p,H p=none->Q (.ref p) (upd H p (.lst (ns.map V.int))):=sM ns rfl h
def acG{H:Hp}{ns:List Int}{lo hi:Option Int}{Q:VK}(h:∀(p:Addr) (H':Hp),H p=none->aw H' p (cn ns lo hi)->aa H H'->Q (.ref p) H'):∀p,H p=none->Q (.ref p) (upd H p (.lst (jV (ns.map V.int) lo hi))):=sM _ (u9 ..) h
def abn{H:Hp}{ns ms:List Int}{Q:VK}(h:∀(p:Addr) (H':Hp),H p=none->aw H' p (ns++ms)->aa H H'->Q (.ref p) H'):∀p,H p=none->Q (.ref p) (upd H p (.lst (ns.map V.int++ms.map V.int))):=sM _ (by rw[Ze]) h
def abo{H:Hp}{ns:List Int}{Q:VK}(h:∀(p:Addr) (H':Hp),H p=none->aw H' p ns.reverse->aa H H'->Q (.ref p) H'):∀p,H p=none->Q (.ref p) (upd H p (.lst (ns.map V.int).reverse)):=sM _ (by rw[List.map_reverse]) h
def NX{ms:List Int}(k:Nat){i:Int}(h:k<ms.length)(e:i=(k:Int):=by rfl):iX (ms.map V.int) i=some (V.int (ms.getD k 0)):=by
 subst e;rw[YH h];simp[List.getD,h]
def YI{K:PySem.W.Frag}{H:Hp}{a:Addr}{ns:List Int}{Q:VK}(hq:aw H a ns)(h:∀(p:Addr) (H':Hp),H p=none->aw H' p ns->aa H H'->Q (.ref p) H'):Wr (vT K [.ref a] H Q):=⟨⟨a,_,rfl,.inl (ah.of hq),qC h⟩⟩
def ku{K:PySem.W.Frag}{H:Hp}{a:Addr}{ns:List Int}{lo hi:Option Int}{Q:VK}(hq:aw H a ns)(h:∀(p:Addr) (H':Hp),H p=none->aw H' p (cn ns lo hi)->aa H H'->Q (.ref p) H'):Wr (wm K (.ref a) lo hi H Q):=⟨⟨a,_,rfl,ah.of hq,acG h⟩⟩
def jm{H:Hp}{a b:Addr}{ns ms:List Int}{Q:VK}(ha:aw H a ns)(hb:aw H b ms)(hl:ns.length+ms.length<=10000000)(h:∀(p:Addr) (H':Hp),H p=none->aw H' p (ns++ms)->aa H H'->Q (.ref p) H'):Wr (wo (.ref a) (.ref b) H Q):=
 ⟨⟨a,b,_,_,rfl,rfl,ha,hb,by simp only[Y1];exact Z1 (bw hl),abn h⟩⟩
def Mg{K:PySem.W.Frag}{H:Hp}{a:Addr}{ns:List Int}{Q:VK}(hq:ah K H a (ns.map V.int))(h:∀(p:Addr) (H':Hp),H p=none->aw H' p ns.reverse->aa H H'->Q (.ref p) H'):Wr (Ca K (.ref a) H Q):=⟨⟨a,_,rfl,hq,abo h⟩⟩
def aT{K:PySem.W.Frag}{H:Hp}{a:Addr}{ns:List Int}{i:Int}{Q:VK}(k:Nat)(hq:aw H a ns)(hk:k<ns.length)(h:Q (.int (ns.getD k 0)) H)(e:i=(k:Int):=by rfl):Wr (lQ K (.ref a) (.int i) H Q):=⟨⟨a,_,i,_,rfl,rfl,ah.of hq,NX k hk e,h⟩⟩
def YJ{c:Bool}{A:Prop}{H2:Hp}{K:Hp->Prop}(P:Hp->Prop)(hP:P H2)(key:∀H,P H->K H)(h1:(∀H,P H->K H)->A):if c=true then A else K H2:=by
 cases c with
 |true=>rw[if_pos rfl];exact h1 key
 |false=>rw[if_neg Zk];exact key _ hP
def vU{K:PySem.W.Frag}{H:Hp}{a b:Addr}{ns ms:List Int}{Q:VK}(ha:aw H a ns)(hb:aw H b ms)(h:Q (.bl (decide (ns=ms))) H):Wr (B8 K (.ref a) (.ref b) H Q):=⟨⟨a,b,ns,ms,rfl,rfl,ah.of ha,ah.of hb,h⟩⟩
def acH{K:PySem.W.Frag}{H:Hp}{a b:Addr}{ns ms:List Int}{Q:VK}(ha:aw H a ns)(hb:aw H b ms)(h:Q (.bl (!decide (ns=ms))) H):Wr (B9 K (.ref a) (.ref b) H Q):=⟨⟨a,b,ns,ms,rfl,rfl,ah.of ha,ah.of hb,h⟩⟩
def YK{K:PySem.W.Frag}{H:Hp}{a b:Addr}{ns ms:List Int}{Q:VK}(ha:aw H a ns)(hb:aw H b ms)(e:ns=ms)(h:Q (.bl true) H):Wr (B8 K (.ref a) (.ref b) H Q):=vU ha hb (by rw[ZN e];exact h)
def Wz{K:PySem.W.Frag}{H:Hp}{a b:Addr}{ns ms:List Int}{Q:VK}(ha:aw H a ns)(hb:aw H b ms)(e:ns=ms)(h:Q (.bl false) H):Wr (B9 K (.ref a) (.ref b) H Q):=acH ha hb (by rw[ZN e];exact h)
def hZ{H:Hp}{xs:List V}{Q:VK}(ns:List Int)(h:∀(p:Addr) (H':Hp),H p=none->aw H' p ns->aa H H'->Q (.ref p) H')(e:xs=ns.map V.int:=by rfl)(hl:ns.length<=1000:=by simp):Wr (wx xs H Q):=by
 subst e;exact⟨⟨by rw[Y1];exact Z1 (bw (by omega)),qC h⟩⟩
structure aW(P:Program)(w:World)(K:PySem.W.Frag)(mg:Str->Option Value)(base:Heap)(x:Str)(ps:List Str)(k:Nat)(sp:Sp) where
 f:Addr
 fd:FuncData
 ok:az P w K mg base aL k f fd ps sp
 qQ:mg x=some (.ref f)
 kp:PySem.W.keepIn K (.ref f)=true
 bd:Binds K fd ps []
def aW.pe{X:Cx}{x:Str}{ps:List Str}{k j:Nat}{sp:Sp}{e:Expr}{es:List Expr}{t:TA}{p pos:Pos}(R:aW X.prog X.w X.K X.mg X.base x ps k sp)(hr:bR j X.A)(ha:PA X (e::es) t)(hg:Gl X x:=by rfl)(hj:k<=j:=by decide)
  (gc:(x==("__debug__":Str))=false:=by decide)(he:starEach (e::es) X.env=(false,eval e X.env)::starEach es X.env:=by rfl)(bY:(backTo pos (starEach es X.env)).any (·.1)=false:=by rfl):
  PE X (.Call (.Name x p) (e::es) [] pos) (vR sp [] E0 t):=Kf R.ok (hr.mono hj) hg R.qQ R.kp R.bd .nil vS ha gc he bY
end L2
set_option maxHeartbeats 4000000
namespace My
open PySem L2
structure Txt(K:PySem.W.Frag)(mg:Str->Option Value):Prop where
 len:mg "len"=none
 range:mg "range"=none
 list:mg "list"=none
 int:mg "int"=none
 bool:mg "bool"=none
 inst:mg "isinstance"=none
 tuple:mg "tuple"=none
 abs:mg "abs"=none
 enum:mg "enumerate"=none
 str:mg "str"=none
inductive Jj(K:PySem.W.Frag)(vs:List V)(H:Hp)(Q:VK)(ay:XK):Prop
 |mk (a:Addr) (ns:List Int) (many:Nat) (_:vs=[.ref a,.int many]) (_:ah K H a (ns.map V.int)) (_:ns.length<=63) (_:many<=1000) (_:∀(l:Addr) (ms:List Int) (H':Hp),ms.length=many->True->H l=none->aw H' l ms->aa H H'->Q (.ref l) H'):Jj K vs H Q ay
def Mh(K:PySem.W.Frag):Sp:=Jj K
def acI:((10:Int)^ (18:Int).toNat)=1000000000000000000:=by decide
def qh(k d:Int):Int:=(d%(2*k)/2+1)*(1-2*(d%2))
inductive Kl(K:PySem.W.Frag)(vs:List V)(H:Hp)(Q:VK)(ay:XK):Prop
 |mk (a:Addr) (ns:List Int) (k:Int) (_:vs=[.ref a,.int k]) (_:ah K H a (ns.map V.int)) (_:ns.length<=10000) (_:1<=k) (_:k<=5) (_:∀(l:Addr) (H':Hp),H l=none->aw H' l (ns.map (qh k))->aa H H'->Q (.ref l) H'):Kl K vs H Q ay
def Ni(K:PySem.W.Frag):Sp:=Kl K
def jL:bootBuiltins "list"=some (.type "list"):=by decide+kernel
def Mi:bootBuiltins "int"=some (.type "int"):=by decide+kernel
def Km:bootBuiltins "bool"=some (.type "bool"):=by decide+kernel
def mZ:bootBuiltins "isinstance"=some (.builtin "isinstance"):=by decide+kernel
def Mj:bootBuiltins "abs"=some (.builtin "abs"):=by decide+kernel
def vq:bootBuiltins "enumerate"=some (.type "enumerate"):=by decide+kernel
def push:List Int->Int->List Int
 |[],x=>[x]
 |t::r,x=>if t= -x then r else x::t::r
def cut(w:List Int):List Int:=(w.foldl push []).reverse
def WB(st:List Int)(x:Int):(push st x).length<=st.length+1:=by
 cases st with
 |nil=>simp[push]
 |cons t r=>
  show(if t= -x then r else x::t::r).length<=_;split<;>simp only[ZF]<;>omega
def va(w:List Int):∀st:List Int,(w.foldl push st).length<=st.length+w.length:=by
 induction w with
 |nil=>intro st;simp
 |cons x w ih=>
  intro st;have:=ih (push st x);have h2:=WB st x;simp only[List.foldl_cons,ZF];omega
def HF{ns:List Int}{i:Nat}{z:Int}(h:ns[i]?=some z):(ns.take (i+1)).foldl push []=push ((ns.take i).foldl push []) z:=by
 obtain⟨hi,e⟩:=ZL.mp h;rw[Zj hi,List.foldl_append,e]
 rfl
inductive Kn(K:PySem.W.Frag)(vs:List V)(H:Hp)(Q:VK)(ay:XK):Prop
 |mk (a:Addr) (ns:List Int) (_:vs=[.ref a]) (_:ah K H a (ns.map V.int)) (_:ns.length<=100000) (_:∀(l:Addr) (H':Hp),H l=none->aw H' l (cut ns)->aa H H'->Q (.ref l) H'):Kn K vs H Q ay
def sX(K:PySem.W.Frag):Sp:=Kn K
def Uz{α:Type}(xs:List α)(v:α):cn (xs++[v]) none (some (-1))=xs:=by
 have e:HT.dS (xs++[v]).length (xs++[v]).length (some (-1))=xs.length:=by
  simp only[HT.dS];rw[if_pos (by decide)];simp;omega
 unfold cn;rw[e,HT.zQ];simp
inductive Jk(K:PySem.W.Frag)(vs:List V)(H:Hp)(Q:VK)(ay:XK):Prop
 |mk (a:Addr) (ns:List Int) (_:vs=[.ref a]) (_:ah K H a (ns.map V.int)) (_:ns.length<=100000) (_:∀(l:Addr) (H':Hp),H l=none->aw H' l (ns.reverse.map (- ·))->aa H H'->Q (.ref l) H'):Jk K vs H Q ay
def sN(K:PySem.W.Frag):Sp:=Jk K
inductive Ml(vs:List V)(H:Hp)(Q:VK)(ay:XK):Prop
 |mk (a:Addr) (ns:List Int) (_:vs=[.ref a]) (_:aw H a ns) (_:Q (.bl true) H):Ml vs H Q ay
def NY:Sp:=Ml
def Red:List Int->Prop
 |[]=>True
 |[_]=>True
 |a::b::r=>b≠ -a/\Red (b::r)
def Red.tail{a:Int}{r:List Int}(h:Red (a::r)):Red r:=by
 cases r with
 |nil=>trivial
 |cons b r=>exact h.2
def WC{st:List Int}(h:Red st)(x:Int):Red (push st x):=by
 cases st with
 |nil=>trivial
 |cons t r=>
  show Red (if t= -x then r else x::t::r);split
  ·exact h.tail
  ·exact⟨by assumption,h⟩
def WD(w:List Int):∀{st:List Int},Red st->Red (w.foldl push st):=by
 induction w with
 |nil=>intro st h;exact h
 |cons x w ih=>intro st h;exact ih (WC h x)
def YL(w:List Int):(cut w).length<=w.length:=by
 have:=va w [];unfold cut;rw[List.length_reverse];simpa using this
inductive Ko(K:PySem.W.Frag)(vs:List V)(H:Hp)(Q:VK)(ay:XK):Prop
 |mk (a:Addr) (ns:List Int) (_:vs=[.ref a]) (_:ah K H a (ns.map V.int)) (_:ns.length<=63) (_:∀H',Q (.bl true) H'):Ko K vs H Q ay
def vV(K:PySem.W.Frag):Sp:=Ko K
abbrev turn(w:List Int):List Int:=w.reverse.map (- ·)
def UA(x:Int)(w:List Int):turn (x::w)=turn w++[-x]:=by simp[turn]
def So(u v:List Int):turn (u++v)=turn v++turn u:=by simp[turn]
def Sq(w:List Int):(turn w).length=w.length:=by simp[turn]
def adR:Red []:=trivial
def NZ(w:List Int):Prop:=∀v∈w,v≠0
end My
namespace L2
open PySem PySem.Spec PyProof.Rows
def qR(K:PySem.W.Frag)(a:Addr):It where
 go:=λi H=>∃xs x,ah K H a xs/\xs[i]?=some x
 fO:=λi H x H'=>∃t y,H t=none/\x=.ref t/\H'=upd H t (.tup [.int i,y])/\∀ys,ah K H a ys->ys[i]?=some y
 stop:=λi H=>∃xs,ah K H a xs/\xs.length<=i
def UB{P:Program}{w:World}{K:PySem.W.Frag}{es:List Expr}{k:Nat}{pos:Pos}(a e it:Addr)(ON:e≠it):
  Turn P w K (.Tuple es k pos) (qR K a) [e,it] e (λi h=>(∃old,IsEnum h e it ((i:Nat):Int) old)/\h.IsListIter it a i) where
 mem:=by simp
 obj:=λi h ⟨⟨old,st⟩,si⟩ b hb=>by
  rcases Y5.mp hb with rfl|hb
  ·exact⟨_,st,λv z=>by
    have z':Data.fields _=Data.cell v:=z;cases z'⟩
  ·have e':b=it:=by simpa using hb
   subst e';obtain⟨o,e,c,d⟩:=si;exact⟨o,e,λv z=>by rw[d]at z;cases z⟩
 keep:=λi h h' ⟨⟨old,st⟩,si⟩ k=>⟨⟨old,k e (by simp) _ st⟩,si.at λo q=>k it (by simp) o q⟩
 item:=by
  intro X hP hw hK hc i pins s σ H E I hf ⟨⟨old,st⟩,si⟩ hg;subst hP hw hK;obtain⟨xs,x,hq,hx⟩:=hg;obtain⟨aj,rv,p,hz⟩:=I.list hq;obtain⟨u,hu,ru⟩:=rv.get hx;obtain⟨e0,e1,e2,e3,e4,e5⟩:=hf e (by simp);obtain⟨f0,f1,f2,f3,f4,f5⟩:=hf it (by simp);have hT:=I.ao.fresh (Y3 s.heap.objs.size);refine wpAny_pyNext_enum_item st si p.isList (x:=u) (by simpa using hu) ON λh1 nO adS tX hz1 hk1=>?_;refine⟨_,rfl,wpAny_letOwnedTupleGo_enum nO λh2 qS tY=>?_⟩;have tY:Heap.SameBut e h1 h2:=tY;have tZ:∀b o,b≠e->b≠it->s.heap.get? b=some o->h2.get? b=some o:=λb o n1 n2 q=>(tY.2 b n1).trans (hk1 b o n1 n2 q);have eT:e≠s.heap.objs.size:=Zn (Zi st);have pE:h2.get? s.heap.objs.size=some {cls:=.type "tuple",data:=.seq #[.int i s.toks,u]}:=(tY.2 _ eT.symm).trans tX;have adT:h2.IsListIter it a (i+1):=adS.at λo q=>(tY.2 it ON.symm).trans q
  have qS:IsEnum h2 e it (((i+1:Nat)):Int) u:=by
   have:(((i+1:Nat)):Int)=(i:Int)+1:=by push_cast;rfl
   rw[this];exact qS
  have iT:it≠s.heap.objs.size:=by
   obtain⟨o,q,_⟩:=si;exact Zn (Zi q)
  have iz:∀b o,H b=some o->b≠e/\b≠it/\b≠s.heap.objs.size:=λb o q=>⟨(λz=>by rw[z,e0]at q;cases q),(λz=>by rw[z,f0]at q;cases q),(λz=>by rw[z,hT]at q;cases q)⟩
  have ao:bK X.prog X.w (upd H s.heap.objs.size (.tup [.int i,x])) h2:=λb o q=>by
   by_cases hb:b=s.heap.objs.size
   ·subst hb;rw[ak]at q;cases q;exact⟨(show 2<=sizeLine by decide),[.int i s.toks,u],.cons ⟨_,rfl⟩ (.cons ru .nil),⟨_,pE,rfl,_,rfl⟩⟩
   ·rw[ai hb]at q;refine(I.ao b o q).jv (λc v dQ r=>tZ c v ?_ ?_ r) (λc r=>by rw[ai (iz c _ r).2.2];exact r) λc ys r=>by rw[ai (iz c _ r).2.2];exact r
    ·rcases dQ with rfl|dQ
     ·exact(iz _ _ q).1
     ·exact(iz _ _ dQ).1
    ·rcases dQ with rfl|dQ
     ·exact(iz _ _ q).2.1
     ·exact(iz _ _ dQ).2.1
  have adU:∀b o,s.heap.get? b=some o->b≠s.heap.objs.size:=λb o q=>Zn (Zi q)
  have I1:Inv X pins σ (upd H s.heap.objs.size (.tup [.int i,x])) {s with heap:=h2,toks:=s.toks+1}:=by
   refine I.step (g':=s.gens) (d':=s.drawn) (t':=s.toks+1) (ch:=[e,it]) (λb hb=>?_) (λb o _ _ dQ q _=>tZ b o (λz=>dQ (by simp[z])) (λz=>dQ (by simp[z])) q) (λb o _ _ dQ q _=>⟨o.slots,tZ b o (λz=>dQ (by simp[z])) (λz=>dQ (by simp[z])) q⟩)
    (λb o _ q n=>by rw[ai (adU b o q)];exact n) (λb o dQ q=>⟨o,tZ b o (λz=>dQ (by simp[z])) (λz=>dQ (by simp[z])) q⟩) (λb ys q=>by rw[ai (iz b _ q).2.2];exact q) (λb o ys q=>by rw[ai (iz b _ q).2.2];exact q)
    (λb ps q=>⟨#[],by rw[ai (iz b _ q).2.2,q];simp⟩) (λm hm=>?_) ao I.bare
   ·rcases Y5.mp hb with rfl|hb
    ·exact⟨e3,e1,e4,e5⟩
    ·have e':b=it:=by simpa using hb
     subst e';exact⟨f3,f1,f4,f5⟩
   ·obtain⟨o,es',ep,ho,r⟩:=hm;exact⟨o,es',ep,tZ _ _ e1.symm f1.symm ho,r⟩
  refine⟨.ref s.heap.objs.size,_,I1,rfl,⟨s.heap.objs.size,x,hT,rfl,rfl,λys hy=>by rw[I.Jc hy hq];exact hx⟩,⟨⟨u,qS⟩,adT⟩,λb hb=>?_⟩;rcases Y5.mp hb with rfl|hb
  ·rw[ai eT];exact e0
  ·have e':b=it:=by simpa using hb
   subst e';rw[ai iT];exact f0
 done:=by
  intro X hP hw hK hc i pins s σ H E I hf ⟨⟨old,st⟩,si⟩ hg;subst hP hw hK;obtain⟨xs,hq,hx⟩:=hg;obtain⟨aj,rv,p,hz⟩:=I.list hq;obtain⟨f0,f1,f2,f3,f4,f5⟩:=hf it (by simp);have hl:=rv.length;exact wpAny_pyNext_enum_end (I.ok.hd hc) st si p.isList (by simp;omega) λh' eb=>⟨rfl,I.turned (t':=s.toks) (λb o hb q=>eb b o hb q) f0 f1 f3 f4 f5⟩
 self:=λ_ _ _ _ _ ⟨⟨old,st⟩,_⟩ h=>wpAny_pyIter_enum st h
section
variable {X:Cx}
def acJ(K:PySem.W.Frag)(ta:TA):TI:=λσ H R=>ta σ H λvs H1=>∃a,vs=[.ref a]/\(∃xs,ah K H1 a xs)/\R (qR K a) H1
def vt{l:Expr}{ta:TA}{p pos pt:Pos}{es:List Expr}{k:Nat}(hg:Gl X "enumerate")(hm:X.mg "enumerate"=none)(hb:bootBuiltins "enumerate"=some (.type "enumerate"))(ha:PA X [l] ta)(hs:starEach [l] X.env=[(false,eval l X.env)]:=by rfl):
  PI X (.Tuple es k pt) (.Call (.Name "enumerate" p) [l] [] pos) (acJ X.K ta):=by
 intro pins s σ H R I h;refine Call_ (oP I hg hm hb (PyProof.Rows.callWith_type1 (aA (ha pos pins s σ H _ I h) λus s1 ⟨vs,H1,I1,r1,q1⟩=>?_) hs rfl));obtain⟨a,e,⟨xs,hq⟩,q⟩:=q1;subst e;cases r1 with
 |cons r rr=>
  cases rr;cases r;obtain⟨aj,rv,pl,hz⟩:=I1.list hq;refine call_enumerate_list pl.isList λh' he hit hsz hk=>?_;refine wpAny_pyIter_enum he ?_;have I2:Inv X pins σ H1 {s1 with heap:=h'}:=I1.kept (t':=s1.toks) λb o e=>hk b o e;refine⟨s1.heap.objs.size+1,[s1.heap.objs.size+1,s1.heap.objs.size],_,_,H1,rfl,I2,UB a _ _ (Nat.succ_ne_self _),⟨⟨_,he⟩,hit⟩,λb hb=>?_,q⟩;rcases Y5.mp hb with rfl|hb
  ·exact I1.qF (Nat.le_succ _) (I1.ao.fresh (Nat.le_succ _))
  ·have e:b=s1.heap.objs.size:=by simpa using hb
   subst e;exact I1.qF (Y3 _) (I1.ao.fresh (Y3 _))
def zT{K:PySem.W.Frag}{a:Addr}{xs:List V}{g:TG}{tb:TS}{D:Ends}{σ:St}{H:Hp}(Pv:Nat->St->Hp->Prop)(h0:Pv 0 σ H)(hl:∀i σ H,i<=xs.length->Pv i σ H->ah K H a xs)
  (hs:∀i x σ H t,xs[i]?=some x->H t=none->Pv i σ H->g (.ref t) σ (upd H t (.tup [.int i,x])) λσ2 H2=>tb {D with nx:=Pv (i+1),ct:=Pv (i+1),bk:=D.nx} σ2 H2)(hd:∀σ H,Pv xs.length σ H->D.nx σ H):
  ∃W:Nat->Nat->St->Hp->Prop,(∃m,W 0 m σ H)/\∀i m σ H,W i m σ H->
   ((qR K a).stop i H/\D.nx σ H)\/((qR K a).go i H/\∃N:St->Hp->Prop,(∀σ' H',N σ' H'->∃m',m'<m/\W (i+1) m' σ' H')/\∀x H',(qR K a).fO i H x H'->g x σ H' λσ2 H2=>tb {D with nx:=N,ct:=N,bk:=D.nx} σ2 H2):=by
 refine⟨λi m σ H=>m=xs.length-i/\i<=xs.length/\Pv i σ H,⟨xs.length,by simp,Zp _,h0⟩,?_⟩;rintro i m σ H ⟨rfl,hi,p⟩;have q:=hl i σ H hi p;by_cases aP:i<xs.length
 ·refine .inr ⟨⟨xs,xs[i],q,by simp[aP]⟩,Pv (i+1),λσ' H' p'=>⟨xs.length-(i+1),by omega,rfl,aP,p'⟩,λx H' y=>?_⟩;obtain⟨t,y,ht,rfl,rfl,hy⟩:=y;exact hs i y σ H t (hy xs q) ht p
 ·have e:i=xs.length:=by omega
  subst e;exact .inl ⟨⟨xs,q,Y3 _⟩,hd σ H p⟩
end
open PySem.SeqAt
mutual
inductive Dt(K:PySem.W.Frag)(H:Hp):V->PyData->Prop
 |aH:Dt K H .aH .none
 |bl (b:Bool):Dt K H (.bl b) (.bool b)
 |int (i:Int):Dt K H (.int i) (.int i)
 |str (x:Str):Dt K H (.str x) (.str x)
 |lst {a:Addr}{xs:List V}{ds:List PyData} (h:ah K H a xs) (r:iZ K H xs ds):Dt K H (.ref a) (.list ds)
 |tup {a:Addr}{xs:List V}{ds:List PyData} (h:aZ K H a xs) (r:iZ K H xs ds):Dt K H (.ref a) (.tuple ds)
inductive iZ(K:PySem.W.Frag)(H:Hp):List V->List PyData->Prop
 |nil:iZ K H [] []
 |cons {x:V}{d:PyData}{xs:List V}{ds:List PyData} (h:Dt K H x d) (r:iZ K H xs ds):iZ K H (x::xs) (d::ds)
end
section
variable {X:Cx}{pins:List (Addr×Obj)}{σ:St}{H:Hp}{s:Shared}
mutual
def Dt.reads(I:Inv X pins σ H s):∀{x:V}{d:PyData}{u:Value},Dt X.K H x d->RelV x u->∃as,Reads s.heap u d as
 |_,_,_,.aH,r=>by cases(show _=Value.none from r);exact⟨_,.none⟩
 |_,_,_,.bl b,r=>by cases(show _=Value.bool b from r);exact⟨_,.bool b⟩
 |_,_,_,.int i,r=>by obtain⟨t,e⟩:=(show∃t,_=Value.int i t from r);cases e;exact⟨_,.int i t⟩
 |_,_,_,.str x,r=>by obtain⟨t,e⟩:=(show∃t,_=Value.str x t from r);cases e;exact⟨_,.str x t⟩
 |_,_,_,.lst (a:=a) h rr,r=>by
  cases(show _=Value.ref a from r);obtain⟨aj,rv,p,hz⟩:=I.list h;obtain⟨as,q⟩:=iZ.reads I rr rv;obtain⟨o,ho,hc,n,hd⟩:=p.isList;exact⟨_,.list ho hc hd (by simpa using q)⟩
 |_,_,_,.tup (a:=a) h rr,r=>by
  cases(show _=Value.ref a from r);obtain⟨aj,rv,p,hz⟩:=I.tuple h;obtain⟨as,q⟩:=iZ.reads I rr rv;obtain⟨o,ho,hc,n,hd⟩:=p;exact⟨_,.tuple ho hc hd (by simpa using q)⟩
def iZ.reads(I:Inv X pins σ H s):∀{xs:List V}{ds:List PyData}{us:List Value},iZ X.K H xs ds->Vals xs us->∃as,ReadsAll s.heap us ds as
 |_,_,_,.nil,.nil=>⟨_,.nil⟩
 |_,_,_,.cons h rr,.cons r rs=>by
  obtain⟨as,q⟩:=Dt.reads I h r;obtain⟨bs,q'⟩:=iZ.reads I rr rs;exact⟨_,.cons q q'⟩
end
end
section
variable {X:Cx}
inductive Mm(K:PySem.W.Frag)(x:V)(y:V)(H:Hp)(Q:VK):Prop
 |mk (d d':_) (_:Dt K H x d) (_:Dt K H y d') (_:shaped d=true) (_:shaped d'=true) (_:noMix d d'=true) (_:Q (.bl (same d d')) H):Mm K x y H Q
def Cb(K:PySem.W.Frag):R2:=Mm K
inductive Mn(K:PySem.W.Frag)(x:V)(y:V)(H:Hp)(Q:VK):Prop
 |mk (d d':_) (_:Dt K H x d) (_:Dt K H y d') (_:shaped d=true) (_:shaped d'=true) (_:noMix d d'=true) (_:Q (.bl (!same d d')) H):Mn K x y H Q
def N0(K:PySem.W.Frag):R2:=Mn K
def abp(hu:X.A.units+64<cLine):b6 X (compareOp .Eq) (dM (Cb X.K)):=by
 intro pins s σ H x y v u Q I rx ry h;obtain⟨d,d',a,b,sa,sb,m,q⟩:=h.get;obtain⟨as,ra⟩:=a.reads I rx;obtain⟨bs,rb⟩:=b.reads I ry;exact eq_dataH_same ra rb sa sb hu m ⟨.bl _,H,I,rfl,q⟩
def abq(hu:X.A.units+64<cLine):b6 X (compareOp .NotEq) (dM (N0 X.K)):=by
 intro pins s σ H x y v u Q I rx ry h;obtain⟨d,d',a,b,sa,sb,m,q⟩:=h.get;obtain⟨as,ra⟩:=a.reads I rx;obtain⟨bs,rb⟩:=b.reads I ry;exact ne_dataH_same ra rb sa sb hu m ⟨.bl _,H,I,rfl,q⟩
end
end L2
namespace L2
open PySem PySem.Spec PyProof.Rows
section
variable {X:Cx}{tg:Expr}
def HG{K:PySem.W.Frag}{a:Addr}{xs:List V}{ix:List Nat}{te:TE}{σ:St}{H:Hp}{Q:VK}(f:V->V)(hq:ah K H a xs)(hl:xs.length<sizeLine)
  (he:∀z∈xs,∀(H':Hp) (Q':VK),aa H H'->Q' (f z) H'->te (bQ ix (some z) σ) H' Q')(h:∀D,H D=none->Q (.ref D) (upd H D (.lst (xs.map f)))):
  ∀D,H D=none->∃W:Nat->Nat->List V->Hp->Prop,(∃m,W 0 m [] (upd H D (.lst [])))/\
   ∀i m ys H2,W i m ys H2->H2 D=some (.lst ys)/\(((eU K a).stop i H2/\Q (.ref D) H2)\/((eU K a).go i H2/\ys.length<sizeLine/\∀x H',(eU K a).fO i H2 x H'->te (bQ ix (some x) σ) H' λy H3=>
    H3 D=some (.lst ys)/\∃m',m'<m/\W (i+1) m' (ys++[y]) (upd H3 D (.lst (ys++[y]))))):=by
 intro D hD;refine⟨λi m ys H2=>m=xs.length-i/\i<=xs.length/\ys=(xs.take i).map f/\H2=upd H D (.lst ys),⟨xs.length,by simp,Zp _,by simp,rfl⟩,?_⟩;rintro i m ys H2 ⟨rfl,hi,rfl,rfl⟩;have s:aa H (upd H D (.lst ((xs.take i).map f))):=λb o e=>by rw[ai (a8 e hD)];exact e
 have hs:=s.seq hq;refine⟨ak,?_⟩;by_cases aP:i<xs.length
 ·refine .inr ⟨⟨_,xs[i],hs,by simp[aP]⟩,by simp;omega,λx H' y=>?_⟩;obtain⟨e,y⟩:=y;subst e;have ey:=y _ hs;rw[Zd aP]at ey;cases ey;refine he xs[i] (ZA aP) _ _ s ⟨ak,xs.length-(i+1),by omega,rfl,aP,?_,?_⟩
  ·rw[Zj aP];simp only[Ze,Zr,List.map_nil]
  ·rw[lH]
 ·have e:i=xs.length:=by omega
  subst e;refine .inl ⟨⟨_,hs,by simp⟩,?_⟩;rw[ZE (Y3 _)];exact h D hD
end
section
variable {κ:Type} [DecidableEq κ]
def bj(kvs:List (κ×V))(k:κ):Option V:=(kvs.find? λkv=>decide (kv.1=k)).map (·.2)
def putK(kvs:List (κ×V))(k:κ)(v:V):List (κ×V):=
 if(kvs.any λkv=>decide (kv.1=k))=true then kvs.map (λkv=>if kv.1=k then(kv.1,v)else kv)else kvs++[(k,v)]
def g8{p:κ×V}{r:List (κ×V)}{k:κ}(e:p.1=k):bj (p::r) k=some p.2:=by simp[bj,List.find?_cons,e]
def hJ{p:κ×V}{r:List (κ×V)}{k:κ}(e:¬p.1=k):bj (p::r) k=bj r k:=by simp[bj,List.find?_cons,e]
def qi(k:κ):∀kvs:List (κ×V),(kvs.any λkv=>decide (kv.1=k))=(bj kvs k).isSome
 |[]=>rfl
 |p::r=>by
  rw[List.any_cons];by_cases e:p.1=k
  ·simp only[g8 e,ZN e,Bool.true_or,Option.isSome_some]
  ·rw[hJ e,ZO e,Bool.false_or];exact qi k r
def Jl(k j:κ)(y:V):∀kvs:List (κ×V),bj (kvs.map λkv=>if kv.1=k then(kv.1,y)else kv) j=(bj kvs j).map λx=>if j=k then y else x
 |[]=>rfl
 |p::r=>by
  have ih:=Jl k j y r;rw[Zr];by_cases h:p.1=k
  ·rw[if_pos h];by_cases e:p.1=j
   ·rw[g8 (p:=(p.1,y)) e,g8 e,Option.map_some,if_pos (e.symm.trans h)]
   ·rw[hJ (p:=(p.1,y)) e,hJ e,ih]
  ·rw[if_neg h];by_cases e:p.1=j
   ·rw[g8 (p:=p) e,g8 e,Option.map_some,if_neg (λz=>h (e.trans z))]
   ·rw[hJ (p:=p) e,hJ e,ih]
def HI(k j:κ)(y:V):∀kvs:List (κ×V),bj kvs k=none->bj (kvs++[(k,y)]) j=if j=k then some y else bj kvs j
 |[],_=>by
  by_cases e:k=j
  ·rw[if_pos e.symm];exact g8 (p:=(k,y)) e
  ·rw[if_neg (λz=>e z.symm)];exact hJ (p:=(k,y)) e
 |p::r,hn=>by
  rw[List.cons_append];have hk:¬p.1=k:=λz=>by rw[g8 z]at hn;cases hn
  rw[hJ hk]at hn;have ih:=HI k j y r hn;by_cases e:p.1=j
  ·rw[g8 e,g8 e,if_neg (λz=>hk (e.trans z))]
  ·rw[hJ e,hJ e,ih]
def zU(kvs:List (κ×V))(k j:κ)(y:V):bj (putK kvs k y) j=if j=k then some y else bj kvs j:=by
 unfold putK;by_cases a:(kvs.any λkv=>decide (kv.1=k))=true
 ·rw[if_pos a,Jl];rw[qi]at a;by_cases e:j=k
  ·obtain⟨x,hx⟩:=Option.isSome_iff_exists.mp a;rw[if_pos e,e,hx,Option.map_some,if_pos rfl]
  ·rw[if_neg e];cases bj kvs j with
   |none=>rfl
   |some x=>rw[Option.map_some,if_neg e]
 ·rw[if_neg a];refine HI k j y kvs ?_;rw[qi]at a;cases q:bj kvs k with
  |none=>rfl
  |some x=>rw[q]at a;exact(a rfl).elim
def rO(kvs:List (κ×V))(k:κ)(v:V):(putK kvs k v).length<=kvs.length+1:=by
 unfold putK;split
 ·rw[Y1];omega
 ·rw[Zo,ZF,List.length_nil];omega
def rX{kvs:List (κ×V)}{k:κ}(v:V)(h:bj kvs k=none):putK kvs k v=kvs++[(k,v)]:=by
 unfold putK;rw[qi,h];exact if_neg (by decide)
def fJ.rV{o:Option V}{u:Option Value}(r:fJ o u):o.isSome=u.isSome:=by
 cases o with
 |none=>cases u with
  |none=>rfl
  |some _=>exact(show False from r).elim
 |some _=>cases u with
  |none=>exact(show False from r).elim
  |some _=>rfl
def fJ.getD{o:Option V}{u:Option Value}{d:V}{d':Value}(r:fJ o u)(rd:RelV d d'):RelV (o.getD d) (u.getD d'):=by
 cases o with
 |none=>cases u with
  |none=>exact rd
  |some _=>exact(show False from r).elim
 |some _=>cases u with
  |none=>exact(show False from r).elim
  |some _=>exact r
def KV.val{kvs:List (κ×V)}{vs:List (κ×Value)}(r:KV kvs vs)(k:κ):fJ (bj kvs k) (valueAt vs k):=by
 unfold KV at r
 induction r with
 |nil=>exact True.intro
 |@cons p q ps qs h t ih=>
  obtain⟨h1,h2⟩:=h;by_cases e:p.1=k
  ·have e':q.1=k:=h1.symm.trans e;have b:valueAt (q::qs) k=some q.2:=by simp[valueAt,List.find?_cons,e']
   rw[g8 e,b];exact h2
  ·have e':¬q.1=k:=λz=>e (h1.trans z);have b:valueAt (q::qs) k=valueAt qs k:=by simp[valueAt,List.find?_cons,e']
   rw[hJ e,b];exact ih
def KV.any{kvs:List (κ×V)}{vs:List (κ×Value)}(r:KV kvs vs)(k:κ):(kvs.any λkv=>decide (kv.1=k))=vs.any λkv=>decide (kv.1=k):=by
 unfold KV at r
 induction r with
 |nil=>rfl
 |cons h t ih=>rw[List.any_cons,List.any_cons,ih,h.1]
def KV.Cd{kvs:List (κ×V)}{vs:List (κ×Value)}(r:KV kvs vs)(k:κ){y:V}{u:Value}(ry:RelV y u):
  KV (kvs.map λkv=>if kv.1=k then(kv.1,y)else kv) (vs.map λkv=>if kv.1=k then(kv.1,u)else kv):=by
 unfold KV at r⊢
 induction r with
 |nil=>exact .nil
 |@cons p q ps qs h t ih=>
  rw[Zr,Zr];refine .cons ?_ ih;obtain⟨h1,h2⟩:=h;by_cases e:p.1=k
  ·rw[if_pos e,if_pos (h1.symm.trans e)];exact⟨h1,ry⟩
  ·rw[if_neg e,if_neg (λz=>e (h1.trans z))];exact⟨h1,h2⟩
def KV.put{kvs:List (κ×V)}{vs:List (κ×Value)}(r:KV kvs vs)(k:κ){y:V}{u:Value}(ry:RelV y u):KV (putK kvs k y) (stored vs k u):=by
 unfold putK stored;rw[r.any k];by_cases e:(vs.any λkv=>decide (kv.1=k))=true
 ·rw[if_pos e,if_pos e];exact r.Cd k ry
 ·rw[if_neg e,if_neg e];exact Paired.snoc r ⟨rfl,ry⟩
def KV.length{kvs:List (κ×V)}{vs:List (κ×Value)}(r:KV kvs vs):kvs.length=vs.length:=Paired.length r
end
def nA{P:Program}{w:World}{k:Key}{u:Value}(r:RelV (kV k) u):(cY P w).is k u=true:=by
 cases k with
 |inl i=>obtain⟨t,e⟩:=(show∃t,u=Value.int i t from r);subst e;exact Sj P w i t
 |inr x=>
  cases x with
  |some x=>obtain⟨t,e⟩:=(show∃t,u=Value.str x t from r);subst e;exact Sk P w x t
  |none=>cases(show u=Value.none from r);rfl
def HJ{P:Program}{w:World}:∀{ks:List Key}{us:List Value},Vals (ks.map kV) us->ItemsAre (cY P w) ks us
 |[],_,r=>by rw[List.map_nil]at r;cases r;exact .nil
 |k::ks,_,r=>by
  rw[Zr]at r;cases r with
  |cons h t=>exact .cons (nA h) (HJ t)
abbrev KT(H:Hp):List (List Key×V)->List (List Key×Addr×Value)->Prop:=Paired λp q=>p.1=q.1/\H q.2.1=some (.tup (p.1.map kV))/\RelV p.2 q.2.2
def KT.val{H:Hp}{kvs:List (List Key×V)}{xs:List (List Key×Addr×Value)}(r:KT H kvs xs)(k:List Key):fJ (bj kvs k) ((atKey xs k).map (·.2)):=by
 induction r with
 |nil=>exact True.intro
 |@cons p q ps qs h t ih=>
  obtain⟨h1,_,h2⟩:=h;by_cases e:p.1=k
  ·have e':q.1=k:=h1.symm.trans e;have b:atKey (q::qs) k=some q.2:=by simp[atKey,List.find?_cons,e']
   rw[g8 e,b];exact h2
  ·have e':¬q.1=k:=λz=>e (h1.trans z);have b:atKey (q::qs) k=atKey qs k:=by simp[atKey,List.find?_cons,e']
   rw[hJ e,b];exact ih
def KT.Cd{H:Hp}{kvs:List (List Key×V)}{xs:List (List Key×Addr×Value)}(r:KT H kvs xs)(k:List Key){y:V}{u:Value}(ry:RelV y u):
  KT H (kvs.map λkv=>if kv.1=k then(kv.1,y)else kv) (xs.map (putAt k u)):=by
 induction r with
 |nil=>exact .nil
 |@cons p q ps qs h t ih=>
  rw[Zr,Zr];refine .cons ?_ ih;obtain⟨h1,h2,h3⟩:=h;unfold putAt;by_cases e:p.1=k
  ·rw[if_pos e,if_pos (h1.symm.trans e)];exact⟨h1,h2,ry⟩
  ·rw[if_neg e,if_neg (λz=>e (h1.trans z))];exact⟨h1,h2,h3⟩
def KT.put{H:Hp}{kvs:List (List Key×V)}{xs:List (List Key×Addr×Value)}(r:KT H kvs xs)(k:List Key){b:Addr}{y:V}{u:Value}(hb:H b=some (.tup (k.map kV)))(ry:RelV y u):
  KT H (putK kvs k y) (storedH xs k b u):=by
 have e:(kvs.any λkv=>decide (kv.1=k))=(atKey xs k).isSome:=by
  rw[qi,(r.val k).rV,Option.isSome_map]
 unfold putK storedH;rw[e];by_cases q:(atKey xs k).isSome=true
 ·rw[if_pos q,if_pos q];exact r.Cd k ry
 ·rw[if_neg q,if_neg q];exact Paired.snoc r ⟨rfl,hb,ry⟩
def KT.keeps{H H':Hp}{kvs:List (List Key×V)}{xs:List (List Key×Addr×Value)}(r:KT H kvs xs)(ht:∀b ys,H b=some (.tup ys)->H' b=some (.tup ys)):KT H' kvs xs:=
 Paired.BR r λ_ _ z=>⟨z.1,ht _ _ z.2.1,z.2.2⟩
section
variable {P:Program}{w:World}{H:Hp}{h:Heap}{a:Addr}
def Nj{u:HO}(ok:bK P w H h)(e:Rd H a u):bU P w H h a u:=e.ok ok
def nB{kvs:List (Key×V)}(ok:bK P w H h)(e:Rd H a (.dK kvs)):kvs.length<=sizeLine/\(a==sysModules)=false/\∃vs,KV kvs vs/\h.DictOf (cY P w) a vs:=
 show bU P w H h a (.dK kvs)from Nj ok e
def Bt{kvs:List (Key×V)}(ok:bK P w H h)(e:H a=some (.dK kvs)):kvs.length<=sizeLine/\(a==sysModules)=false/\∃vs,KV kvs vs/\h.DictOf (cY P w) a vs:=nB ok (.inl e)
def oR{ks:List Key}(ok:bK P w H h)(e:H a=some (.tup (ks.map kV))):(tupleKind (cY P w)).is h ks a:=by
 obtain⟨_,aj,r,o,h1,h2,n,h3⟩:=(show bU P w H h a (.tup (ks.map kV))from ok a _ e);exact⟨o,aj.toArray,n,h1,h2,h3,by simpa using HJ r⟩
def oY{kvs:List (List Key×V)}(ok:bK P w H h)(e:Rd H a (.dT kvs)):kvs.length<=sizeLine/\(a==sysModules)=false/\
  ∃xs,KT H kvs xs/\h.DictOfH (tupleKind (cY P w)) a xs:=by
 obtain⟨z,y,xs,r,o,es,ep,h1,h2,h3,h4,h5⟩:=(show bU P w H h a (.dT kvs)from Nj ok e);refine⟨z,y,xs,r,o,es,ep,h1,h2,h3,h4,λx hx=>?_,h5⟩
 have all:∀{l:List (List Key×V)}{m:List (List Key×Addr×Value)},KT H l m->∀x∈m,(tupleKind (cY P w)).is h x.1 x.2.1:=by
  intro l m q
  induction q with
  |nil=>intro x hx;exact nomatch hx
  |@cons p q ps qs hq t ih=>
   intro x hx;rcases Y5.mp hx with e|hx
   ·subst e;exact oR ok (by rw[<-hq.1];exact hq.2.1)
   ·exact ih x hx
 exact all r x hx
def Bu{kvs:List (List Key×V)}(ok:bK P w H h)(e:H a=some (.dT kvs)):kvs.length<=sizeLine/\(a==sysModules)=false/\
  ∃xs,KT H kvs xs/\h.DictOfH (tupleKind (cY P w)) a xs:=oY ok (.inl e)
end
def dG(H:Hp)(a:Addr)(y:V)(r:Option V):Prop:=
 (∃kvs k,Rd H a (.dK kvs)/\y=kV k/\r=bj kvs k)\/∃kvs k b,Rd H a (.dT kvs)/\y=.ref b/\H b=some (.tup (k.map kV))/\r=bj kvs k
def iu(H:Hp)(a:Addr)(y v:V)(H':Hp):Prop:=
 (∃kvs k,H a=some (.dK kvs)/\y=kV k/\kvs.length<sizeLine/\H'=upd H a (.dK (putK kvs k v)))\/
 ∃kvs k b,H a=some (.dT kvs)/\y=.ref b/\H b=some (.tup (k.map kV))/\kvs.length<sizeLine/\H'=upd H a (.dT (putK kvs k v))
def dG.k{H:Hp}{a:Addr}{kvs:List (Key×V)}{k:Key}(e:H a=some (.dK kvs)):dG H a (kV k) (bj kvs k):=.inl ⟨kvs,k,.inl e,rfl,rfl⟩
def dG.t{H:Hp}{a b:Addr}{kvs:List (List Key×V)}{k:List Key}(e:H a=some (.dT kvs))(eb:H b=some (.tup (k.map kV))):dG H a (.ref b) (bj kvs k):=.inr ⟨kvs,k,b,.inl e,rfl,eb,rfl⟩
def iu.k{H:Hp}{a:Addr}{kvs:List (Key×V)}{k:Key}{v:V}(e:H a=some (.dK kvs))(hl:kvs.length<sizeLine):iu H a (kV k) v (upd H a (.dK (putK kvs k v))):=.inl ⟨kvs,k,e,rfl,hl,rfl⟩
def iu.t{H:Hp}{a b:Addr}{kvs:List (List Key×V)}{k:List Key}{v:V}(e:H a=some (.dT kvs))(eb:H b=some (.tup (k.map kV)))(hl:kvs.length<sizeLine):
  iu H a (.ref b) v (upd H a (.dT (putK kvs k v))):=.inr ⟨kvs,k,b,e,rfl,eb,hl,rfl⟩
section
variable {X:Cx}{pins:List (Addr×Obj)}{σ:St}{H:Hp}{s:Shared}{a:Addr}{y v:V}{u r:Value}{o:Option V}{A:Around}{E:Value->Shared->Prop}
def Inv.big(I:Inv X pins σ H s):sysModules<s.heap.objs.size:=by
 have h:mainGlobals<s.heap.objs.size:=(I.mod.glob.keeps I.bk).lt;exact Nat.lt_trans (by decide) h
def UC{Q:Value->Shared->Prop}(hu:A.units+1<cLine)(I:Inv X pins σ H s)(g:dG H a y (some v))(ry:RelV y u)(h:∀w' s',Inv X pins σ H s'->RelV v w'->Q w' s'):
  wpAny (model X.prog X.w) A (getItem (.ref a) u) Q E s:=by
 rcases g with⟨kvs,k,e,ey,l⟩|⟨kvs,k,b,e,ey,eb,l⟩
 ·subst ey;obtain⟨z,hd,vs,rel,dd⟩:=nB I.ao e;obtain⟨w',hw,iY⟩:=fJ.some_of (v:=v) (o:=valueAt vs k) (by rw[l];exact rel.val k);exact wpAny_getItem_of (nA ry) dd.mapOf hw (h w' _ (I.tok _) iY)
 ·subst ey;cases(show u=Value.ref b from ry);obtain⟨z,hd,xs,rel,dd⟩:=oY I.ao e;obtain⟨w',hw,iY⟩:=fJ.some_of (v:=v) (o:=(atKey xs k).map (·.2)) (by rw[l];exact rel.val k);obtain⟨p,hp,jB⟩:=Option.map_eq_some_iff.mp hw;refine wpAny_getItem_heap (tupleKind_room_in1 hu) (oR I.ao eb) dd hp ?_;rw[jB];exact h w' _ (I.tok _) iY
def adV{Q:Value->Shared->Prop}(hu:A.units+1<cLine)(I:Inv X pins σ H s)(g:dG H a y o)(ry:RelV y u)(h:∀s',Inv X pins σ H s'->Q (.bool o.isSome) s'):
  wpAny (model X.prog X.w) A (compareOp .In u (.ref a)) Q E s:=by
 rcases g with⟨kvs,k,e,ey,l⟩|⟨kvs,k,b,e,ey,eb,l⟩
 ·subst ey;obtain⟨z,hd,vs,rel,dd⟩:=nB I.ao e;refine wpAny_in_of (nA ry) hd dd.mapOf ?_;rw[<-(rel.val k).rV, <-l];exact h _ (I.tok _)
 ·subst ey;cases(show u=Value.ref b from ry);obtain⟨z,hd,xs,rel,dd⟩:=oY I.ao e;refine wpAny_in_heap (tupleKind_room_in1 hu) (oR I.ao eb) hd dd ?_;have q:=(rel.val k).rV;rw[Option.isSome_map]at q;rw[<-q, <-l];exact h _ (I.tok _)
def YM{Q:Value->Shared->Prop}(hu:A.units+1<cLine)(I:Inv X pins σ H s)(g:dG H a y o)(ry:RelV y u)(h:∀s',Inv X pins σ H s'->Q (.bool (!o.isSome)) s'):
  wpAny (model X.prog X.w) A (compareOp .NotIn u (.ref a)) Q E s:=by
 rcases g with⟨kvs,k,e,ey,l⟩|⟨kvs,k,b,e,ey,eb,l⟩
 ·subst ey;obtain⟨z,hd,vs,rel,dd⟩:=nB I.ao e;refine wpAny_notIn_of (nA ry) hd dd.mapOf ?_;rw[<-(rel.val k).rV, <-l];exact h _ (I.tok _)
 ·subst ey;cases(show u=Value.ref b from ry);obtain⟨z,hd,xs,rel,dd⟩:=oY I.ao e;refine wpAny_notIn_heap (tupleKind_room_in1 hu) (oR I.ao eb) hd dd ?_;have q:=(rel.val k).rV;rw[Option.isSome_map]at q;rw[<-q, <-l];exact h _ (I.tok _)
def su{h':Heap}{t':Nat}{ob:HO}(I:Inv X pins σ H s)(mu:tO (H a))(hs:Heap.SameBut a s.heap h')(he:∃q,h'.get? a=some q)(new:bU X.prog X.w (upd H a ob) h' a ob):
  Inv X pins σ (upd H a ob) {s with heap:=h',toks:=t'}:=
 I.write (x:=a) (e:=a) mu (.inl rfl) (λb q hb z=>(hs.2 b hb).trans z) he new
def A2{P:Program}{w:World}{H':Hp}{h':Heap}{kvs:List (Key×V)}{vs:List (Key×Value)}(z:kvs.length<=sizeLine)(hd:(a==sysModules)=false)(rel:KV kvs vs)(dd:h'.DictOf (cY P w) a vs):
  bU P w H' h' a (.dK kvs):=⟨z,hd,vs,rel,dd⟩
def UD{H':Hp}{Q:Unit->Shared->Prop}(hu:A.units+1<cLine)(I:Inv X pins σ H s)(g:iu H a y v H')(ry:RelV y u)(rv:RelV v r)(h:∀s',Inv X pins σ H' s'->Q () s'):
  wpAny (model X.prog X.w) A (setItem (.ref a) u r) Q E s:=by
 rcases g with⟨kvs,k,e,ey,l,eH⟩|⟨kvs,k,b,e,ey,eb,l,eH⟩
 ·subst ey eH;obtain⟨z,hd,vs,rel,dd⟩:=Bt I.ao e;have hz:vs.length<=sizeLine:=by rw[<-rel.length];exact z
  have hl:(putK kvs k v).length<=sizeLine:=by have:=rO kvs k v;omega
  refine wpAny_setItem_pairs (hsz:=hz) (nA ry) dd λh' jC hs=>h _ ?_;have he:∃q,h'.get? a=some q:=let⟨q,_,_,hq,_⟩:=jC;⟨q,hq⟩
  exact su I (by rw[e];exact True.intro) hs he (A2 hl hd (rel.put k rv) jC)
 ·subst ey eH;cases(show u=Value.ref b from ry);obtain⟨z,hd,xs,rel,dd⟩:=Bu I.ao e;have hz:xs.length<=sizeLine:=by rw[<-Paired.length rel];exact z
  have hl:(putK kvs k v).length<=sizeLine:=by have:=rO kvs k v;omega
  refine wpAny_setItem_heap (hsz:=hz) (tupleKind_room_in1 hu) (oR I.ao eb) dd λh' jC hs=>h _ ?_;obtain⟨q,es,ep,hq,h2,h3,h4,_,h5⟩:=jC;refine su I (by rw[e];exact True.intro) hs ⟨q,hq⟩ ⟨hl,hd,_,(rel.put k eb rv).keeps λc ys ec=>?_,q,es,ep,hq,h2,h3,h4,h5⟩;rw[ai (M4 ec e (λz=>nomatch z))];exact ec
end
section
variable {X:Cx}{pins:List (Addr×Obj)}{σ:St}{H:Hp}{s:Shared}{a:Addr}{kvs:List (Key×V)}{k:Key}{u:Value}{A:Around}{E:Value->Shared->Prop}
def acK{Q:Value->Shared->Prop}(I:Inv X pins σ H s)(e:Rd H a (.dK kvs))(h:∀t s',Inv X pins σ H s'->Q (.int kvs.length t) s'):wpAny (model X.prog X.w) A (call (.builtin "len") [.ref a]) Q E s:=by
 obtain⟨z,hd,vs,rel,dd⟩:=nB I.ao e;refine call_len_dict hd dd (by rw[<-rel.length];rw[sizeLine_eq]at z;omega) ?_;rw[<-rel.length];exact h _ _ (I.tok _)
end
def N1(i:Expr):Prop:=∀ov iv,subscripted i false ov iv=operate [ov,iv] (getItem ov iv)
def YN{prog:Program}{w:World}{A:Around}{E:Value->Shared->Prop}{s:Shared}{env:Env}{value slice:Expr}{pos:Pos}{T id:String}{Q:Value->Shared->Prop}
  (hl:typeLookup (.type T) "__getitem__"=pure (some (.builtin id)))(hs:N1 slice)
  (h:wpAny (model prog w) A (eval value env) (λo s₁=>wpAny (model prog w) A (eval slice env) (λi s₂=>s₂.TypeIs o T/\wpAny (model prog w) A (getItem o i) Q E s₂) E s₁) E s):
  wpAny (model prog w) A (eval (.Subscript value slice pos) env) Q E s:=by
 refine Subscript_ (wpAny_mono h (λo s₁ h₁=>wpAny_mono h₁ (λi s₂ h₂=>?_) λ_ _ x=>x) λ_ _ x=>x);obtain⟨hT,h₂⟩:=h₂;unfold subscriptTail;refine wpAny_bind ?_;rw[getitemInPython_of_ne hT.not_modules];refine wpAny_bind (wpAny_specialOf hT hl ?_)
 have fin:wpAny (model prog w) A (subscripted slice false o i) (λr s₃=>wpAny (model prog w) A (letTemporaryGo value o r>>=λ_=>pure r) Q E s₃) E s₂:=by
  rw[hs o i];exact wpAny_operating (wpAny_mono h₂ (λr s₃ h₃=>wpAny_bind (wpAny_letTemporaryGo (ZV h₃))) λ_ _ x=>x)
 first
  |exact ZV (wpAny_bind fin)
  |exact wpAny_bind (ZV (wpAny_bind fin))
  |exact wpAny_bind fin
def Sr{X:Cx}{pins:List (Addr×Obj)}{σ:St}{H:Hp}{s:Shared}{a:Addr}{y:V}{o:Option V}(I:Inv X pins σ H s)(g:dG H a y o):s.TypeIs (.ref a) "dict":=by
 rcases g with⟨kvs,k,e,_,_⟩|⟨kvs,k,b,e,_,_,_⟩
 ·obtain⟨_,_,vs,_,dd⟩:=nB I.ao e;exact dd.typeIs
 ·obtain⟨_,_,xs,_,dd⟩:=oY I.ao e;exact dd.typeIs
def acL(td ty:TE):TE:=λσ H Q=>td σ H λx H1=>ty σ H1 λy H2=>∃a v,x=.ref a/\dG H2 a y (some v)/\Q v H2
def adW(ty td:TE):TE:=λσ H Q=>ty σ H λy H1=>td σ H1 λx H2=>∃a o,x=.ref a/\dG H2 a y o/\Q (.bl o.isSome) H2
def YO(ty td:TE):TE:=λσ H Q=>ty σ H λy H1=>td σ H1 λx H2=>∃a o,x=.ref a/\dG H2 a y o/\Q (.bl (!o.isSome)) H2
def acM(td ty tv:TE):TS:=λD σ H=>tv σ H λv H1=>td σ H1 λx H2=>ty σ H2 λy H3=>∃a H4,x=.ref a/\iu H3 a y v H4/\D.nx σ H4
section
variable {X:Cx}{o i e value:Expr}{pos pos' NV:Pos}{td ty tv:TE}
def kC(hu:X.A.units+1<cLine)(ho:PE X o td)(hi:PE X i ty)(hs:N1 i):PE X (.Subscript o i pos) (acL td ty):=by
 intro pins s σ H Q I h;refine YN PySem.F.slot_dict_getitem.lookup hs (aA (ho pins s σ H _ I h) λu s1 ⟨x,H1,I1,rx,q1⟩=>aA (hi pins s1 σ H1 _ I1 q1) λiv s2 ⟨y,H2,I2,ry,a,v,ex,g,q2⟩=>?_);subst ex;obtain rfl:u=Value.ref a:=rx;exact⟨Sr I2 g,UC hu I2 g ry λw' s3 I3 iY=>⟨v,H2,I3,iY,q2⟩⟩
def abr(hu:X.A.units+1<cLine)(hi:PE X i ty)(ho:PE X o td):PC X .In i o (adW ty td):=by
 intro pins s σ H Q I h;refine aA (hi pins s σ H _ I h) λiv s1 ⟨y,H1,I1,ry,q1⟩=>aA (ho pins s1 σ H1 _ I1 q1) λu s2 ⟨x,H2,I2,rx,a,ov,ex,g,q2⟩=>?_;subst ex;obtain rfl:u=Value.ref a:=rx;exact adV hu I2 g ry λs3 I3=>⟨.bl ov.isSome,H2,I3,rfl,q2⟩
def HK(hu:X.A.units+1<cLine)(hi:PE X i ty)(ho:PE X o td):PC X .NotIn i o (YO ty td):=by
 intro pins s σ H Q I h;refine aA (hi pins s σ H _ I h) λiv s1 ⟨y,H1,I1,ry,q1⟩=>aA (ho pins s1 σ H1 _ I1 q1) λu s2 ⟨x,H2,I2,rx,a,ov,ex,g,q2⟩=>?_;subst ex;obtain rfl:u=Value.ref a:=rx;exact YM hu I2 g ry λs3 I3=>⟨.bl (!ov.isSome),H2,I3,rfl,q2⟩
def Ao(hu:X.A.units+1<cLine)(ho:PE X o td)(hi:PE X i ty)(hv:PE X value tv)(hs:swapsWith value (some (.Subscript o i pos')) pos.line X.env=pure false):
  PS X (.Assign [.Subscript o i pos'] value pos) (acM td ty tv):=by
 intro pins s σ H D I h;refine wpAny_Assign_Subscript (aA (hv pins s σ H _ I h) λr s1 ⟨v,H1,I1,rv,q1⟩=>aA (ho pins s1 σ H1 _ I1 q1) λu s2 ⟨x,H2,I2,rx,q2⟩=>aA (hi pins s2 σ H2 _ I2 q2) λiv s3 ⟨y,H3,I3,ry,a,H4,ex,g,q3⟩=>?_) hs;subst ex;obtain rfl:u=Value.ref a:=rx;exact UD hu I3 g ry rv λs4 I4=>⟨σ,H4,I4,q3⟩
end
def zV{P:Program}{w:World}{H:Hp}(h:Heap)(hb:sysModules<h.objs.size):bU P w H (h.push {cls:=.type "dict",data:=.dict #[]}) h.objs.size (.dK []):=
 ⟨Zp _,ZH.mpr (Ne.symm (Zn hb)),[],.nil,Heap.DictOf.new h⟩
def WE{P:Program}{w:World}{H:Hp}(h:Heap)(hb:sysModules<h.objs.size):bU P w H (h.push {cls:=.type "dict",data:=.dict #[]}) h.objs.size (.dT []):=
 ⟨Zp _,ZH.mpr (Ne.symm (Zn hb)),[],.nil,_, #[],0,Zq _ rfl,⟨rfl,rfl,rfl⟩,rfl,rfl,List.nodup_nil⟩
def abt:TE:=λ_ H Q=>∀p,H p=none->Q (.ref p) (upd H p (.dK []))
def A3:TE:=λ_ H Q=>∀p,H p=none->Q (.ref p) (upd H p (.dT []))
section
variable {X:Cx}{pos:Pos}
def WG:PE X (.Dict [] [] pos) abt:=λpins s σ H Q I h=>
 wpAny_Dict_empty ⟨.ref s.heap.objs.size,_,I.laid (a:=s.heap.objs.size) (o:=.dK []) (t':=s.toks) (λ_ _ q=>Y8 _ q) (Y3 _) (zV s.heap I.big),rfl,h _ (I.ao.fresh (Y3 _))⟩
def WH:PE X (.Dict [] [] pos) A3:=λpins s σ H Q I h=>
 wpAny_Dict_empty ⟨.ref s.heap.objs.size,_,I.laid (a:=s.heap.objs.size) (o:=.dT []) (t':=s.toks) (λ_ _ q=>Y8 _ q) (Y3 _) (WE s.heap I.big),rfl,h _ (I.ao.fresh (Y3 _))⟩
end
def A4:List (TE×TE)->St->Hp->(List (V×V)->Hp->Prop)->Prop
 |[],_,H,Q=>Q [] H
 |(tk,tv)::r,σ,H,Q=>tk σ H λx H1=>tv σ H1 λy H2=>A4 r σ H2 λps H3=>Q ((x,y)::ps) H3
abbrev VV:List (V×V)->List (Value×Value)->Prop:=Paired λp q=>RelV p.1 q.1/\RelV p.2 q.2
def wY(X:Cx)(pos:Pos)(keys:List (Option Expr))(values:List Expr)(l8:List (TE×TE)):Prop:=
 ∀(pins:List (Addr×Obj)) (s:Shared) (σ:St) (H:Hp) (Q:List (V×V)->Hp->Prop),Inv X pins σ H s->A4 l8 σ H Q->
  wpAny (model X.prog X.w) X.A (evalPairs (pairTrees keys values X.env pos)) (λvs s'=>∃ps H',Inv X pins σ H' s'/\VV ps vs/\Q ps H') X.xe s
def YQ{X:Cx}{pos:Pos}:wY X pos [] [] []:=λpins s σ H Q I h=>pairTrees_nil_walk ⟨[],H,I,.nil,h⟩
def WI{X:Cx}{pos:Pos}{k v:Expr}{ks:List (Option Expr)}{vs:List Expr}{tk tv:TE}{l8:List (TE×TE)}(hk:PE X k tk)(hv:PE X v tv)(hr:wY X pos ks vs l8):
  wY X pos (some k::ks) (v::vs) ((tk,tv)::l8):=λpins s σ H Q I h=>
 pairTrees_cons_walk (aA (hk pins s σ H _ I h) λu s1 ⟨x,H1,I1,rx,q1⟩=>aA (hv pins s1 σ H1 _ I1 q1) λw2 s2 ⟨y,H2,I2,ry,q2⟩=>
  aA (hr pins s2 σ H2 _ I2 q2) λws s3 ⟨ps,H3,I3,rel,q3⟩=>⟨(x,y)::ps,H3,I3,.cons ⟨rx,ry⟩ rel,q3⟩)
def lK(kvs more:List (Key×V)):List (Key×V):=more.foldl (λacc kv=>putK acc kv.1 kv.2) kvs
def KV.merge:∀{more:List (Key×V)}{rs:List (Key×Value)}{kvs:List (Key×V)}{vs:List (Key×Value)},KV more rs->KV kvs vs->KV (lK kvs more) (merged vs rs):=by
 intro more rs kvs vs r;unfold KV at r
 induction r generalizing kvs vs with
 |nil=>intro q;exact q
 |@cons p q ps qs h t ih=>
  intro r0
  have e:KV (putK kvs p.1 p.2) (stored vs q.1 q.2):=by
   have:=r0.put p.1 h.2;rw[<-h.1];exact this
  exact ih e
def Gg:∀(more kvs:List (Key×V)),(lK kvs more).length<=kvs.length+more.length
 |[],kvs=>by show kvs.length<=kvs.length+0;omega
 |p::r,kvs=>by
  have h1:=Gg r (putK kvs p.1 p.2);have h2:=rO kvs p.1 p.2;show(lK (putK kvs p.1 p.2) r).length<=_;rw[ZF];omega
def GS{P:Program}{w:World}:∀{kvs:List (Key×V)}{ws:List (Value×Value)},VV (kvs.map λkv=>(kV kv.1,kv.2)) ws->∃rs,Carries (cY P w) ws rs/\KV kvs rs
 |[],_,r=>by rw[List.map_nil]at r;cases r;exact⟨[],True.intro,.nil⟩
 |p::kvs,_,r=>by
  rw[Zr]at r;cases r with
  |@cons a b as bs h t=>
   obtain⟨rs,c,q⟩:=GS (P:=P) (w:=w) t;obtain⟨b1,b2⟩:=b;exact⟨(p.1,b2)::rs,⟨nA h.1,rfl,c⟩,.cons ⟨rfl,h.2⟩ q⟩
def acN(l8:List (TE×TE)):TE:=λσ H Q=>∀p,H p=none->A4 l8 σ (upd H p (.dK [])) λps H2=>H2 p=some (.dK [])/\∃kvs:List (Key×V),ps=kvs.map (λkv=>(kV kv.1,kv.2))/\kvs.length<=15/\Q (.ref p) (upd H2 p (.dK (lK [] kvs)))
def YR{X:Cx}{pos:Pos}{keys:List (Option Expr)}{values:List Expr}{l8:List (TE×TE)}(h:wY X pos keys values l8)(B5:keys.all (·.isSome)=true)(hl:keys.length=values.length)(h0:keys≠[])
  (h15:keys.length<=15):PE X (.Dict keys values pos) (acN l8):=by
 intro pins s σ H Q I q;have hn:=I.ao.fresh (Y3 s.heap.objs.size);have I1:=I.laid (a:=s.heap.objs.size) (o:=.dK []) (h':=s.heap.push {cls:=.type "dict",data:=.dict #[]}) (t':=s.toks) (λ_ _ q=>Y8 _ q) (Y3 _) (zV s.heap I.big);refine wpAny_Dict_walk (knd:=cY X.prog X.w) B5 hl h0 h15 (aA (h pins _ σ _ _ I1 (q _ hn)) λws s2 ⟨ps,H2,I2,rel,e,kvs,ep,lk,q2⟩=>?_);subst ep;obtain⟨rs,c,rk⟩:=GS (P:=X.prog) (w:=X.w) rel;obtain⟨z,hd,vs0,r0,dd⟩:=Bt I2.ao e;cases r0;refine⟨rs,c,dd,λh' jC hs=>⟨.ref s.heap.objs.size,_,?_,rfl,q2⟩⟩
 have hz:(lK [] kvs).length<=sizeLine:=by
  have h1:=Gg kvs [];rw[List.length_nil]at h1;rw[sizeLine_eq];omega
 have he:∃q,h'.get? s.heap.objs.size=some q:=let⟨q,_,_,hq,_⟩:=jC;⟨q,hq⟩
 exact su I2 (by rw[e];exact True.intro) hs he (A2 hz hd (rk.merge .nil) jC)
structure M1(X:Cx)(o:Expr)(m:Str)(apos:Pos)(e:Expr)(cD:Pos):Prop where
 base:attributeBase o m X.env (eval o X.env)=eval o X.env
 few:((backTo cD (starEach [e] X.env)).all (λx=> !x.1)&&(backToKw cD (keywordEach [] X.env)).all (λx=>x.1.isSome)
  &&decide (([e]:List Expr).length+([]:List Keyword).length+(if([]:List Keyword).isEmpty then 0 else 1)<30))=true
 line:(apos.endLine==cD.line)=true
 trees:backTo cD (starEach [e] X.env)=[(false,eval e X.env)]
def OO(H:Hp)(a:Addr):Prop:=(∃kvs,Rd H a (.dK kvs))\/∃kvs,Rd H a (.dT kvs)
def abu{X:Cx}{pins:List (Addr×Obj)}{σ:St}{H:Hp}{s:Shared}{a:Addr}(I:Inv X pins σ H s)(d:OO H a):
  s.TypeIs (.ref a) "dict"/\(∀b,Value.ref a=.ref b->∃ob,s.heap.get? b=some ob/\ob.dict=none)/\(a==sysModules)=false:=by
 rcases d with⟨kvs,e⟩|⟨kvs,e⟩
 ·obtain⟨_,hd,vs,_,dd⟩:=nB I.ao e;refine⟨dd.typeIs,λb q=>?_,hd⟩;cases q;obtain⟨ob,_,_,h1,h2,_⟩:=dd;exact⟨ob,h1,h2.2.1⟩
 ·obtain⟨_,hd,xs,_,dd⟩:=oY I.ao e;refine⟨dd.typeIs,λb q=>?_,hd⟩;cases q;obtain⟨ob,_,_,h1,h2,_⟩:=dd;exact⟨ob,h1,h2.2.1⟩
section
variable {X:Cx}{pins:List (Addr×Obj)}{σ:St}{H:Hp}{s:Shared}{a:Addr}{y d:V}{u r:Value}{o:Option V}{A:Around}{E:Value->Shared->Prop}
def abv{Q:Value->Shared->Prop}(hu:A.units+1<cLine)(I:Inv X pins σ H s)(g:dG H a y o)(ry:RelV y u)(h:∀w' s',Inv X pins σ H s'->RelV (o.getD .aH) w'->Q w' s'):
  wpAny (model X.prog X.w) A (call (.builtin "dict.get") [.ref a,u]) Q E s:=by
 rcases g with⟨kvs,k,e,ey,l⟩|⟨kvs,k,b,e,ey,eb,l⟩
 ·subst ey;obtain⟨z,hd,vs,rel,dd⟩:=nB I.ao e;refine call_meetsIn PySem.F.slot_dict_get dd.typeIs PySem.F.entry_dict_get (PySem.F.args_dict_get_2 _ _) (meets_dict_get (cY X.prog X.w) a (nA ry) hd) ⟨_,dd.mapOf,h _ _ (I.tok _) ?_⟩;rw[l];exact(rel.val k).getD rfl
 ·subst ey;cases(show u=Value.ref b from ry);obtain⟨z,hd,xs,rel,dd⟩:=oY I.ao e;refine call_meetsIn PySem.F.slot_dict_get dd.typeIs PySem.F.entry_dict_get (PySem.F.args_dict_get_2 _ _) (meetsH_dict_get (tupleKind (cY X.prog X.w)) a b hd) ⟨tupleKind_room_in1 hu,k,xs,oR I.ao eb,dd,h _ _ (I.tok _) ?_⟩;rw[l];exact(rel.val k).getD rfl
end
def abw(td ty:TE):TE:=λσ H Q=>td σ H λx H1=>∃a,x=.ref a/\OO H1 a/\ty σ H1 λy H2=>∃o,dG H2 a y o/\Q (o.getD .aH) H2
section
variable {X:Cx}{o e f:Expr}{apos cD:Pos}{td ty tx:TE}
def WJ(hu:X.A.units+1<cLine)(ho:PE X o td)(he:PE X e ty)(m:M1 X o "get" apos e cD):PE X (.Call (.Attribute o "get" apos) [e] [] cD) (abw td ty):=by
 intro pins s σ H Q I h;refine wpAny_Call_method m.base m.few m.line PySem.F.plainAttrs_dict PySem.F.slot_dict_get PySem.F.type_dict_get (aA (ho pins s σ H _ I h) λu s1 ⟨x,H1,I1,rx,a,ex,d,q1⟩=>?_);subst ex;obtain rfl:u=Value.ref a:=rx;obtain⟨t1,t2,_⟩:=abu I1 d;refine⟨t1,t2,?_⟩;rw[m.trees];refine Calls.callWith_builtin rfl (Calls.evalArgs_plain (Calls.spliced_cons (aA (he pins s1 σ H1 _ I1 q1) λiv s2 ⟨y,H2,I2,ry,ov,g,q2⟩=>Calls.spliced_nil ?_)));exact abv hu I2 g ry λw' s3 I3 iY=>⟨_,H2,I3,iY,q2⟩
end
section
variable {X:Cx}
def UE:ig X (.builtin "len") (λxs H Q=>∃a kvs,xs=[V.ref a]/\H a=some (.dK kvs)/\Q (.int kvs.length) H):=by
 intro pins s σ H xs us Q I r h;obtain⟨a,kvs,rfl,ha,q⟩:=h;obtain⟨u,rfl,ru⟩:=vals1 r;cases ru;exact acK I (.inl ha) λt s' I'=>⟨.int kvs.length,H,I',⟨t,rfl⟩,q⟩
end
section
variable {κ:Type} [DecidableEq κ]
def WK{kvs:List (κ×V)}{k:κ}(h:bj kvs k=none):¬k∈kvs.map (·.1):=by
 intro m;obtain⟨p,hp,e⟩:=Zh.mp m;have q:(kvs.any λkv=>decide (kv.1=k))=true:=List.any_eq_true.mpr ⟨p,hp,ZN e⟩;rw[qi,h]at q;exact absurd q (by simp)
def qv:∀{l:List κ}{k:κ},l.Nodup->¬k∈l->(l++[k]).Nodup
 |[],k,_,_=>by simp
 |a::r,k,h,hk=>by
  obtain⟨h1,h2⟩:=ZG.mp h;show(a::(r++[k])).Nodup;refine ZG.mpr ⟨λm=>?_,qv h2 λm=>hk (Y5.mpr (Or.inr m))⟩;rcases Y7.mp m with q|q
  ·exact h1 q
  ·exact hk (Y5.mpr (Or.inl (Y2.mp q).symm))
def YS{kvs:List (κ×V)}{k:κ}(v:V)(hn:(kvs.map (·.1)).Nodup)(h:bj kvs k=none):((putK kvs k v).map (·.1)).Nodup:=by
 rw[rX v h,Ze];exact qv hn (WK h)
end
def acO{P:Program}{w:World}{H:Hp}{h h':Heap}(e:h'.get? h.objs.size=some {cls:=.type "dict",data:=.dict #[]})(hb:sysModules<h.objs.size):bU P w H h' h.objs.size (.dK []):=by
 have x:bU P w H (h.push {cls:=.type "dict",data:=.dict #[]}) h.objs.size (.dK []):=zV h hb;obtain⟨z,y,vs,r,dd⟩:=x;exact⟨z,y,vs,r,dd.at λo q=>by rw[Zq _ rfl]at q;cases q;exact e⟩
section
variable {X:Cx}
def adX(ta:TA):TE:=λσ H Q=>ta σ H λvs H1=>∃j:Int,vs=[.int j]/\∀p,H1 p=none->Q (.ref p) (upd H1 p (.bx 0 j))
def Mp{a:Expr}{ta:TA}{p pos:Pos}(hg:Gl X "range")(hm:X.mg "range"=none)(ha:PA X [a] ta)(hs:starEach [a] X.env=[(false,eval a X.env)]:=by rfl):PE X (.Call (.Name "range" p) [a] [] pos) (adX ta):=by
 intro pins s σ H Q I h;refine Call_ (oP I hg hm boot_range (PyProof.Rows.callWith_type1 (aA (ha pos pins s σ H _ I h) λus s1 ⟨vs,H1,I1,r1,q1⟩=>?_) hs rfl));obtain⟨j,e,q⟩:=q1;subst e;cases r1 with
 |cons r rr=>
  cases rr;obtain⟨t,rfl⟩:=r;refine call_range_1 ?_;exact⟨.ref s1.heap.objs.size,_,I1.laid (o:=.bx 0 j) (λb u e=>Y8 _ e) (Y3 _) ⟨_,_,_,Zq _ rfl⟩,rfl,q _ (I1.ao.fresh (Y3 _))⟩
inductive A5(xs:List V)(H:Hp)(Q:VK):Prop
 |mk (r:Addr) (n:Nat) (_:xs=[.ref r]) (_:H r=some (.bx 0 n)) (_:n<=1000000) (_:∀l,H l=none->Q (.ref l) (upd H l (.lst ((List.range n).map λ(i:Nat)=>V.int i)))):A5 xs H Q
def Gq(hc:X.calm=true):ig X (.type "list") (λxs H Q=>Wr (A5 xs H Q)):=by
 intro pins s σ H xs us Q I r h;obtain⟨ra,n,rfl,hr,hn,q⟩:=h.get;obtain⟨u,rfl,ru⟩:=r.one;cases ru;obtain⟨t,tu,tv,e⟩:=(show bU X.prog X.w H s.heap ra (.bx 0 n)from I.ao ra _ hr);have hsz:Builtin.Range.rangeSize 0 (n:Int) 1=(n:Int):=by rw[rangeSize_one];split<;>omega
 refine call_list_range (n:=n) (I.ok.hd hc) e (small_one (by omega) (by omega) (by omega) (by omega)) hsz (by omega) λh' tk acc c hk hS lS=>?_;refine⟨.ref s.heap.objs.size,_,I.laid (t':=tk) (o:=.lst ((List.range n).map λ(i:Nat)=>V.int i)) hk (Y3 _) ?_,rfl,q _ (I.ao.fresh (Y3 _))⟩;have hl:sizeLine=16777216:=sizeLine_eq;refine⟨by rw[Y1,List.length_range];omega,acc.toList,c,?_,by simpa using hS⟩
 have gen:∀(k:Nat) (l:List Value),l.length=n-k->(∀j v,l[j]?=some v->∃t,v=Value.int ((0:Int)+((k+j:Nat):Int)*1) t)->k<=n->Vals ((List.range' k (n-k)).map λ(i:Nat)=>V.int i) l:=by
  intro k l
  induction l generalizing k with
  |nil=>
   intro hl _ _;have:n-k=0:=by simpa using hl.symm
   rw[this];exact .nil
  |cons v l ih=>
   intro hl hv qT;have h1:n-k=(n-(k+1))+1:=by simp at hl;omega
   rw[h1,List.range'_succ,Zr];refine .cons ?_ (ih (k+1) (by simp at hl;omega) (λj v' hj=>?_) (by simp at hl;omega))
   ·obtain⟨t,e⟩:=hv 0 v rfl;exact⟨t,by rw[e];simp⟩
   ·obtain⟨t,e⟩:=hv (j+1) v' (by simpa using hj);refine⟨t,?_⟩;rw[e];congr 3;omega
 have:=gen 0 acc.toList (by simpa using lS.1) (λj v hj=>by
  obtain⟨t,e⟩:=lS.2 j v (by simpa using hj);exact⟨t,by rw[e];simp⟩) (Zp _)
 rw[Nat.sub_zero, <-List.range_eq_range']at this;exact this
def zi{lo:Int}{n:Nat}{ix:List Nat}{te:TE}{σ:St}{H:Hp}{Q:VK}
  (h:∀D,H D=none->∃Pv:Nat->List V->Hp->Prop,Pv 0 [] (upd H D (.lst []))/\(∀i ys H2,Pv i ys H2->H2 D=some (.lst ys)/\ys.length<sizeLine)/\
   (∀i ys H2,i<n->Pv i ys H2->∀Q':VK,(∀y H3,H3 D=some (.lst ys)->Pv (i+1) (ys++[y]) (upd H3 D (.lst (ys++[y])))->Q' y H3)->te (bQ ix (some (.int (lo+i))) σ) H2 Q')/\∀ys H2,Pv n ys H2->Q (.ref D) H2):
  ∀D,H D=none->∃W:Nat->Nat->List V->Hp->Prop,(∃m,W 0 m [] (upd H D (.lst [])))/\
   ∀i m ys H2,W i m ys H2->H2 D=some (.lst ys)/\(((gH lo n).stop i H2/\Q (.ref D) H2)\/((gH lo n).go i H2/\ys.length<sizeLine/\∀x H',(gH lo n).fO i H2 x H'->te (bQ ix (some x) σ) H' λy H3=>
    H3 D=some (.lst ys)/\∃m',m'<m/\W (i+1) m' (ys++[y]) (upd H3 D (.lst (ys++[y]))))):=by
 intro D hD;obtain⟨Pv,p0,pl,ps,pq⟩:=h D hD;refine⟨λi m ys H2=>m=n-i/\i<=n/\Pv i ys H2/\True,⟨n,by simp,Zp _,p0,trivial⟩,?_⟩;rintro i m ys H2 ⟨rfl,hi,p,_⟩;obtain⟨e1,e2⟩:=pl i ys H2 p;refine⟨e1,?_⟩;by_cases aP:i<n
 ·refine .inr ⟨aP,e2,λx H' y=>?_⟩;obtain⟨e,y⟩:=y;subst e y;exact ps i ys _ aP p _ λy H3 e3 p3=>⟨e3,n-(i+1),by omega,rfl,aP,p3,trivial⟩
 ·have e:i=n:=by omega
  subst e;exact .inl ⟨Y3 _,pq ys H2 p⟩
end
end L2
namespace My
open PySem L2
abbrev Ps:=List (Addr×List Int)
def Tp(H:Hp)(ps:Ps):Prop:=∀p∈ps,H p.1=some (.tup (p.2.map V.int))
structure Tl(H:Hp)(l:Addr)(ps:Ps):Prop where
 is:H l=some (.lst (ps.map λp=>V.ref p.1))
 tp:Tp H ps
def Tl.same{H H':Hp}{l:Addr}{ps:Ps}(h:Tl H l ps)(s:aa H H'):Tl H' l ps:=⟨s _ _ h.is,λp hp=>s _ _ (h.tp p hp)⟩
def Tp.same{H H':Hp}{ps:Ps}(h:Tp H ps)(s:aa H H'):Tp H' ps:=λp hp=>s _ _ (h p hp)
def WL{α:Type}(f:α->V)(xs:List α)(lo hi:Option Int):jV (xs.map f) lo hi=(cn xs lo hi).map f:=by
 unfold jV cn;simp[List.map_drop,List.map_take]
def WM{K:PySem.W.Frag}{H:Hp}{a:Addr}{ps:Ps}{Q:VK}(hq:Tl H a ps)(h:∀(p:Addr) (H':Hp),H p=none->Tl H' p ps->aa H H'->Q (.ref p) H'):Wr (vT K [.ref a] H Q):=
 ⟨⟨a,_,rfl,.inl (ah.of hq.is),λp hp=>h p _ hp ⟨ak,hq.tp.same ((aa.refl H).upd hp)⟩ ((aa.refl H).upd hp)⟩⟩
def fh{K:PySem.W.Frag}{H:Hp}{t:Addr}{r:List Int}{i:Int}{Q:VK}(k:Nat)(ht:H t=some (.tup (r.map V.int)))(hk:k<r.length)(h:Q (.int (r.getD k 0)) H)(e:i=(k:Int):=by rfl):Wr (gD K (.ref t) (.int i) H Q):=
 ⟨⟨t,_,i,_,rfl,rfl,aZ.of ht,NX k hk e,h⟩⟩
def jn(l:List Int)(a b:Nat):List Int:=l.map λm=>if m=max (l.getD a 0) (l.getD b 0)then min (l.getD a 0) (l.getD b 0)else m
def uY(l:List Int)(a b:Nat):(jn l a b).length=l.length:=by simp[jn]
structure c7(n:Nat)(l:List Int):Prop where
 len:l.length=n
 bx:∀v∈l,0<=v/\v<n
def getD_mem{l:List Int}{a:Nat}(h:a<l.length):l.getD a 0∈l:=by
 rw[List.getD,Zd h];exact ZA h
def c7.jn{n:Nat}{l:List Int}(h:c7 n l){a b:Nat}(ha:a<n)(hb:b<n):c7 n (jn l a b):=by
 refine⟨by rw[uY];exact h.len,λv hv=>?_⟩;obtain⟨m,hm,rfl⟩:=Zh.mp hv;have h1:=h.bx _ (getD_mem (a:=a) (by rw[h.len];exact ha));have h2:=h.bx _ (getD_mem (a:=b) (by rw[h.len];exact hb));split
 ·omega
 ·exact h.bx m hm
def jW(n:Nat):List Int:=(List.range n).map λ(i:Nat)=>(i:Int)
def Ap(n:Nat):c7 n (jW n):=by
 refine⟨by simp[jW],λv hv=>?_⟩;obtain⟨i,hi,rfl⟩:=Zh.mp hv;have:=ZU.mp hi;omega
def Jm{K:PySem.W.Frag}{H:Hp}{r:Addr}{n:Nat}{Q:VK}(hr:H r=some (.bx 0 n))(hn:n<=1000000)(h:∀(p:Addr) (H':Hp),H p=none->aw H' p (jW n)->aa H H'->Q (.ref p) H'):Wr (A5 [.ref r] H Q):=
 ⟨⟨r,n,rfl,hr,hn,sM _ (by simp[jW,ZK,Function.comp_def]) h⟩⟩
def fV(n:Nat)(r:List Int):Prop:=∃a b:Nat,r=[(a:Int),(b:Int)]/\a<n/\b<n
def cC(n:Nat)(r:List Int):Prop:=∃(i:Int) (a:Nat) (k:Int) (b:Nat),r=[i,(a:Int),k,(b:Int)]/\a<n/\b<n
def fC(l:List Int)(r:List Int):List Int:=jn l (r.getD 0 0).toNat (r.getD 1 0).toNat
def fN(n:Nat)(ps:Ps):List Int:=ps.foldl (λl p=>fC l p.2) (jW n)
def c7.fC{n:Nat}{l r:List Int}(h:c7 n l)(hr:fV n r):c7 n (fC l r):=by
 obtain⟨a,b,rfl,ha,hb⟩:=hr;exact h.jn ha hb
inductive Mq(K:PySem.W.Frag)(vs:List V)(H:Hp)(Q:VK)(ay:XK):Prop
 |mk (l:Addr) (ls:List Int) (a b:Nat) (_:vs=[.ref l,.int a,.int b]) (_:aw H l ls) (_:a<ls.length) (_:b<ls.length) (_:ls.length<=1000) (_:∀(p:Addr) (H':Hp),H p=none->aw H' p (jn ls a b)->aa H H'->Q (.ref p) H'):Mq K vs H Q ay
def N6(K:PySem.W.Frag):Sp:=Mq K
structure qH(mg:Str->Option Value):Prop where
 min:mg "min"=none
 max:mg "max"=none
def A6:bootBuiltins "min"=some (.builtin "min"):=by decide+kernel
def sP:bootBuiltins "max"=some (.builtin "max"):=by decide+kernel
def A7(i j:Int):(if j<i then j else i)=min i j:=by
 split<;>omega
def A8(i j:Int):(if j>i then j else i)=max i j:=by
 split<;>omega
def Aq{cells:List (Str×Addr)}{a b:Str}{x y:Addr}(h1:cells.lookup a=some x)(h2:cells.lookup b=some y):∀z c,[(a,x),(b,y)].lookup z=some c->cells.lookup z=some c:=λz c h=>by
 rcases Y5.mp (ZM h)with e|e
 ·cases e;exact h1
 ·have e:(z,c)=(b,y):=by simpa using e
  cases e;exact h2
def gf(l:Addr):List (Str×V):=aY "least" (.ref l) []
def Bv(l:Addr):gf l=([("least",V.ref l)]:List (Str×V)):=rfl
def iK(l:Addr):(gf l).lookup ("least":Str)=some (.ref l):=by
 unfold gf;rw[mS,if_pos rfl]
def abx(l m:Addr):aY "least" (.ref m) (gf l)=gf m:=by
 rw[Bv,Bv];show(if("least":Str)="least" then [(("least":Str),V.ref m)]else _)=_;rw[if_pos rfl]
def Bw(l:Addr){m:Str}(h:¬m="least"):(gf l).lookup m=none:=by
 unfold gf;rw[mS,if_neg h]
 rfl
structure ke(C:Addr)(H:Hp)(g:Addr)(ls:List Int):Prop where
 ob:∃dx l,H g=some (.ins C dx (gf l))/\aw H l ls
def Kp(g:Addr)(H H':Hp):Prop:=∀b o,H b=some o->b≠g->H' b=some o
structure nF(K:PySem.W.Frag)(mg:Str->Option Value)(C:Addr):Prop where
 cl:eV K C
 nL:NoAttr K C "least"
 mgC:mg "Groups"=some (.ref C)
inductive Kq(C:Addr)(vs:List V)(H:Hp)(Q:VK)(ay:XK):Prop
 |mk (g:Addr) (ls:List Int) (a b:Nat) (_:vs=[.ref g,.int a,.int b]) (_:ke C H g ls) (_:a<ls.length) (_:b<ls.length) (_:ls.length<=1000) (_:∀H',ke C H' g (jn ls a b)->Kp g H H'->Q .aH H'):Kq C vs H Q ay
def Bx(C:Addr):Sp:=Kq C
inductive Kr(C:Addr)(vs:List V)(H:Hp)(Q:VK)(ay:XK):Prop
 |mk (g:Addr) (ls:List Int) (a b:Nat) (_:vs=[.ref g,.int a,.int b]) (_:ke C H g ls) (_:a<ls.length) (_:b<ls.length) (_:Q (.bl (decide (ls.getD a 0=ls.getD b 0))) H):Kr C vs H Q ay
def Nk(C:Addr):Sp:=Kr C
inductive HM(C:Addr)(vs:List V)(H:Hp)(Q:VK)(ay:XK):Prop
 |mk (g dx:Addr) (n:Nat) (l:Addr) (ps:Ps) (_:vs=[.ref g,.int n,.ref l]) (_:H g=some (.ins C dx [])) (_:Tl H l ps) (_:(∀p∈ps,fV n p.2)) (_:n<=1000) (_:ps.length<=1000) (_:∀H',ke C H' g (fN n ps)->Kp g H H'->Q .aH H'):HM C vs H Q ay
def Ks(C:Addr):Sp:=HM C
def oS(s:Int):Nat:=if s=1 then 1 else 3
inductive Jn(vs:List V)(H:Hp)(Q:VK)(ay:XK):Prop
 |mk (t:Addr) (r:List Int) (s:Int) (_:vs=[.ref t,.int s]) (_:H t=some (.tup (r.map V.int))) (_:r.length=4) (_:Q (.int (r.getD (oS s) 0)) H):Jn vs H Q ay
def vE:Sp:=Jn
inductive Kt(vs:List V)(H:Hp)(Q:VK)(ay:XK):Prop
 |mk (t:Addr) (r:List Int) (s:Int) (_:vs=[.ref t,.int s]) (_:H t=some (.tup (r.map V.int))) (_:r.length=4) (_:Q (.int (r.getD (oS (-s)) 0)) H):Kt vs H Q ay
def Nl:Sp:=Kt
def oI{cells:List (Str×Addr)}:∀z c,([]:List (Str×Addr)).lookup z=some c->cells.lookup z=some c:=λz c h=>by cases h
def kI{c:Bool}{A B:Prop}(e:c=true)(h:A):if c=true then A else B:=by rw[if_pos e];exact h
def cm{c:Bool}{A B:Prop}(e:c=false)(h:B):if c=true then A else B:=by rw[e];exact bE h
def kD{ps:Ps}{i:Nat}{y:V}(h:(ps.map λp=>V.ref p.1)[i]?=some y):∃p,y=V.ref p.1/\ps[i]?=some p:=by
 rw[Zf]at h;cases e:ps[i]? with
 |none=>rw[e]at h;cases h
 |some z=>rw[e]at h;exact⟨z,(Zg h).symm,rfl⟩
def rP{α β:Type}{f:β->α->β}{b:β}{ps:List α}{i:Nat}{z:α}(h:ps[i]?=some z):(ps.take (i+1)).foldl f b=f ((ps.take i).foldl f b) z:=by
 obtain⟨hi,e⟩:=ZL.mp h;rw[Zj hi,List.foldl_append,e]
 rfl
def HN{n:Nat}{ps:Ps}{i:Nat}{p:Addr×List Int}(h:ps[i]?=some p):fN n (ps.take (i+1))=fC (fN n (ps.take i)) p.2:=rP h
def Ku{n:Nat}:∀(ps:Ps),(∀p∈ps,fV n p.2)->c7 n (fN n ps):=by
 intro ps
 suffices∀l,c7 n l->(∀p∈ps,fV n p.2)->c7 n (ps.foldl (λl p=>fC l p.2) l)from this _ (Ap n)
 induction ps with
 |nil=>intro l h _;exact h
 |cons p ps ih=>intro l h hp;exact ih _ (h.fC (hp p (Y9 ..))) λq hq=>hp q (Y4 _ hq)
def HP{n:Nat}{ps:Ps}{i:Nat}(h:∀p∈ps,fV n p.2):c7 n (fN n (ps.take i)):=Ku _ λp hp=>h p (List.mem_of_mem_take hp)
def ke.other{C:Addr}{H:Hp}{g:Addr}{ls:List Int}(h:ke C H g ls){H':Hp}(s:aa H H'):ke C H' g ls:=by
 obtain⟨dx,l,e,i⟩:=h.ob;exact⟨dx,l,s _ _ e,s.ints i⟩
def Kp.trans{g:Addr}{H H1 H2:Hp}(a:Kp g H H1)(b:Kp g H1 H2):Kp g H H2:=λc o e n=>b c o (a c o e n) n
def Kp.of{g:Addr}{H H1:Hp}(a:aa H H1):Kp g H H1:=λc o e _=>a c o e
def Tl.kp{g:Addr}{H H':Hp}{l:Addr}{ps:Ps}(h:Tl H l ps)(k:Kp g H H'){C dx:Addr}{fs:List (Str×V)}(hg:H g=some (.ins C dx fs)):Tl H' l ps:=by
 refine⟨k _ _ h.is λe=>?_,λp hp=>k _ _ (h.tp p hp) λe=>?_⟩
 ·have:=h.is;rw[e,hg]at this;cases this
 ·have:=h.tp p hp;rw[e,hg]at this;cases this
def kS(ps:Ps)(i:Int):Option (Addr×List Int):=ps.foldl (λo p=>if i=p.2.getD 0 0 then some p else o) none
def YT{ps:Ps}{i:Int}{p:Addr×List Int}(h:kS ps i=some p):p∈ps:=by
 suffices∀(o:Option (Addr×List Int)),(ps.foldl (λo p=>if i=p.2.getD 0 0 then some p else o) o)=some p->p∈ps\/o=some p from(this none h).elim id λz=>nomatch z
 clear h
 induction ps with
 |nil=>intro o h;exact .inr h
 |cons q ps ih=>
  intro o h;rcases ih _ h with z|z
  ·exact .inl (Y4 _ z)
  ·replace z:(if i=q.2.getD 0 0 then some q else o)=some p:=z;by_cases e:i=q.2.getD 0 0
   ·rw[if_pos e]at z;cases z;exact .inl (Y9 ..)
   ·rw[if_neg e]at z;exact .inr z
def mk(r:List Int)(s:Int):Nat:=(r.getD (oS s) 0).toNat
def cC.mk{n:Nat}{r:List Int}(h:cC n r)(s:Int):r.getD (oS s) 0=((mk r s:Nat):Int)/\mk r s<n:=by
 obtain⟨i,a,k,b,rfl,ha,hb⟩:=h;unfold My.mk oS;split
 ·exact⟨by show(a:Int)=_;simp,by show((a:Int)).toNat<n;simpa using ha⟩
 ·exact⟨by show(b:Int)=_;simp,by show((b:Int)).toNat<n;simpa using hb⟩
def cC.len{n:Nat}{r:List Int}(h:cC n r):r.length=4:=by
 obtain⟨i,a,k,b,rfl,ha,hb⟩:=h
 rfl
def vW(r:List Int):Prop:=∃i j s:Int,r=[i,j,s]/\ -100<s/\s<100
def bG(l:List Int):Nat:=(l.map Int.toNat).sum
def GU{f:Int->Int}:∀(l:List Int),(∀v∈l,(f v).toNat<=v.toNat)->bG (l.map f)<=bG l:=by
 intro l
 induction l with
 |nil=>intro _;exact Y3 _
 |cons a l ih=>
  intro h;have h1:=h a (Y9 ..);have h2:=ih λv hv=>h v (Y4 _ hv);simp only[bG,Zr,List.sum_cons]at *;omega
def S8{f:Int->Int}:∀(l:List Int),(∀v∈l,(f v).toNat<=v.toNat)->(∃v∈l,(f v).toNat<v.toNat)->bG (l.map f)<bG l:=by
 intro l
 induction l with
 |nil=>intro _ h;obtain⟨_,h,_⟩:=h;cases h
 |cons a l ih=>
  intro h he;have h1:=h a (Y9 ..);have h3:=GU l λv hv=>h v (Y4 _ hv);obtain⟨v,hv,aP⟩:=he;rcases Y5.mp hv with rfl|hv
  ·simp only[bG,Zr,List.sum_cons]at *;omega
  ·have h2:=ih (λv hv=>h v (Y4 _ hv)) ⟨v,hv,aP⟩;simp only[bG,Zr,List.sum_cons]at *;omega
def acP{n:Nat}{l:List Int}(h:c7 n l){a b:Nat}(ha:a<n)(hb:b<n):bG (jn l a b)<=bG l:=by
 have h1:=h.bx _ (getD_mem (a:=a) (by rw[h.len];exact ha));have h2:=h.bx _ (getD_mem (a:=b) (by rw[h.len];exact hb));refine GU l λv hv=>?_;split<;>omega
def sY{n:Nat}{l:List Int}(h:c7 n l){a b:Nat}(ha:a<n)(hb:b<n)(ne:l.getD a 0≠l.getD b 0):bG (jn l a b)<bG l:=by
 have m1:=getD_mem (l:=l) (a:=a) (by rw[h.len];exact ha);have m2:=getD_mem (l:=l) (a:=b) (by rw[h.len];exact hb);have h1:=h.bx _ m1;have h2:=h.bx _ m2;refine S8 l (λv hv=>by split<;>omega) ?_;by_cases hh:l.getD a 0<=l.getD b 0
 ·exact⟨_,m2,by rw[if_pos (by omega)];omega⟩
 ·exact⟨_,m1,by rw[if_pos (by omega)];omega⟩
def acQ{l:List Int}{a b:Nat}(e:l.getD a 0=l.getD b 0):jn l a b=l:=by
 unfold jn;rw[e]
 conv=>rhs;rw[<-List.map_id l]
 refine Z0 λv _=>?_;show _=v;split<;>omega
def YU{n:Nat}{l:List Int}(h:c7 n l):bG l<=n*n:=by
 have:∀l:List Int,(∀v∈l,0<=v/\v<n)->bG l<=l.length*n:=by
  intro l
  induction l with
  |nil=>intro _;exact Zp _
  |cons a l ih=>
   intro h;have h1:=h a (Y9 ..);have h2:=ih λv hv=>h v (Y4 _ hv);simp only[bG,Zr,List.sum_cons,ZF,Nat.succ_mul]at *;omega
 have:=this l h.bx
 rwa [h.len]at this
def aby{n:Nat}{l:List Int}(h:c7 n l){a b c d:Nat}(ha:a<n)(hb:b<n)(hc:c<n)(hd:d<n)(ne:decide (l.getD a 0=l.getD b 0)≠decide (l.getD c 0=l.getD d 0)):bG (jn (jn l a b) c d)<bG l:=by
 by_cases e:l.getD a 0=l.getD b 0
 ·have e2:l.getD c 0≠l.getD d 0:=λz=>ne (by rw[ZN e,ZN z]);rw[acQ e];exact sY h hc hd e2
 ·exact ZP (acP (h.jn ha hb) hc hd) (sY h ha hb e)
structure cy(P:Program)(w:World)(K:PySem.W.Frag)(mg:Str->Option Value)(base:Heap)(C:Addr)(m:Str)(ps:List Str)(k:Nat)(sp:Sp) where
 f:Addr
 fd:FuncData
 ok:az P w K mg base aL k f fd ps sp
 cl:eV K C
 mt:Meth K C m f
 bd:Binds K fd ps []
def cy.pe{X:Cx}{m:Str}{C:Addr}{ps:List Str}{k j:Nat}{sp:Sp}{o e:Expr}{es:List Expr}{ta:TE}{t:TA}{apos pos:Pos}{pl:Sem Bool}(R:cy X.prog X.w X.K X.mg X.base C m ps k sp)(hr:bR j X.A)(ho:PE X o ta)(ha:PA X (e::es) t)(hj:k<=j:=by decide)
  (he:starEach (e::es) X.env=(false,eval e X.env)::starEach es X.env:=by rfl)(bY:(backTo pos (starEach es X.env)).any (·.1)=false:=by rfl)
  (ht:eval (.Call (.Attribute o m apos) (e::es) [] pos) X.env=(do
   let ov<-eval o X.env
   standAt apos.atName
   let(f,first)<-holding [ov] (getMethod ov m pl)
   callWith pos f first (backTo pos (starEach (e::es) X.env)) (backToKw pos (keywordEach [] X.env))):=by rfl):
  PE X (.Call (.Attribute o m apos) (e::es) [] pos) (jR C m sp [] E0 ta t):=Ak ho R.cl R.mt R.ok (hr.mono hj) R.bd .nil vS ha he bY ht
structure mf(P:Program)(w:World)(K:PySem.W.Frag)(mg:Str->Option Value)(base:Heap)(C:Addr)(x:Str)(ps:List Str)(k:Nat)(sp:Sp) where
 f:Addr
 fd:FuncData
 ok:az P w K mg base aL k f fd ps sp
 OP:Mk K C f
 qQ:mg x=some (.ref C)
 bd:Binds K fd ps []
def mf.pe{X:Cx}{x:Str}{C:Addr}{ps:List Str}{k j:Nat}{sp:Sp}{e:Expr}{es:List Expr}{t:TA}{p pos:Pos}(R:mf X.prog X.w X.K X.mg X.base C x ps k sp)(hr:bR j X.A)(ha:PA X (e::es) t)(hg:Gl X x:=by rfl)(hj:k+1<=j:=by decide)
  (gc:(x==("__debug__":Str))=false:=by decide)(he:starEach (e::es) X.env=(false,eval e X.env)::starEach es X.env:=by rfl)(bY:(backTo pos (starEach es X.env)).any (·.1)=false:=by rfl):
  PE X (.Call (.Name x p) (e::es) [] pos) (Nc C sp [] E0 t):=Yz R.OP R.ok (hr.mono hj) hg R.qQ R.bd .nil vS ha gc he bY
open PySem.SeqAt PyProof.Rows
def vF{K:PySem.W.Frag}{H:Hp}{a:Addr}{xs:List V}{i:Int}{v:V}{Q:VK}(hq:H a=some (.lst xs))(e:iX xs i=some v)(h:Q v H):Wr (lQ K (.ref a) (.int i) H Q):=⟨⟨a,xs,i,v,rfl,rfl,ah.of hq,e,h⟩⟩
def sv{H:Hp}{xs:List V}{Q:VK}(hl:xs.length<=1000)(h:∀(p:Addr) (H':Hp),H p=none->H' p=some (.lst xs)->aa H H'->Q (.ref p) H'):Wr (wx xs H Q):=
 ⟨⟨Z1 (bw (by omega)),λp hp=>h p _ hp ak ((aa.refl H).upd hp)⟩⟩
def cy.eY{X:Cx}{m:Str}{C:Addr}{ps:List Str}{k j:Nat}{sp:Sp}{o:Expr}{ta:TE}{apos pos:Pos}{pl:Sem Bool}(R:cy X.prog X.w X.K X.mg X.base C m ps k sp)(hr:bR j X.A)(ho:PE X o ta)(hj:k<=j:=by decide)
  (ht:eval (.Call (.Attribute o m apos) [] [] pos) X.env=(do
   let ov<-eval o X.env
   standAt apos.atName
   let(f,first)<-holding [ov] (getMethod ov m pl)
   callWith pos f first (backTo pos (starEach [] X.env)) (backToKw pos (keywordEach [] X.env))):=by rfl):
  PE X (.Call (.Attribute o m apos) [] [] pos) (jR C m sp [] E0 ta kM):=zP ho R.cl R.mt R.ok (hr.mono hj) R.bd .nil vS ht
end My
namespace L2
open PySem PySem.Spec PyProof.Rows PySem.W
section
variable {prog:Program}{w:World}{κ:Type} [DecidableEq κ] {kn:HeapKind prog w κ}{A:Around}{E:Value->Shared->Prop}{s:Shared}
def DH(kn:HeapKind prog w κ)(h:Heap)(d:Addr)(xs:List (κ×Addr×Value))(n:Nat):Prop:=∃ob en,h.get? d=some ob/\ob.ExactDict/\ob.data=.dict en n/\en.toList=xs.map (entryOfKey kn)
def DH.ty{d:Addr}{xs:List (κ×Addr×Value)}{n:Nat}(x:DH kn s.heap d xs n):s.TypeIs (.ref d) "dict":=let⟨ob,_,e,c,_⟩:=x;⟨ob,e,c.1⟩
def DH.to{h h':Heap}{d:Addr}{xs:List (κ×Addr×Value)}{n:Nat}(x:DH kn h d xs n)(k:∀ob,h.get? d=some ob->h'.get? d=some ob):DH kn h' d xs n:=let⟨ob,en,e,r⟩:=x;⟨ob,en,k ob e,r⟩
def DH.lt{h:Heap}{d:Addr}{xs:List (κ×Addr×Value)}{n:Nat}(x:DH kn h d xs n):d<h.objs.size:=let⟨_,_,e,_⟩:=x;Zi e
def YV{d:Addr}{xs:List (κ×Addr×Value)}{n:Nat}{Q:Value->Shared->Prop}(ns:(d==sysModules)=false)(x:DH kn s.heap d xs n)
  (k:Q (.ref s.heap.objs.size) {s with heap:=s.heap.push {cls:=.type "dict_keyiterator",data:=.fields #[.ref d,.int 0 0,.int xs.length 0,.int n 0]}}):wpAny (model prog w) A (pyIter (.ref d)) Q E s:=by
 have ty:=x.ty;obtain⟨ob,en,eo,_,ed,el⟩:=x;have sz:en.size=xs.length:=size_of_entries el;refine wpAny_pyIter_slot ty PySem.F.slot_dict_iter (wpAny_call_entry PySem.F.slot_dict_iter ty PySem.F.entry_dict_iter ?_ (PySem.F.args_dict_iter_1 _));unfold Builtin.«dict.__iter__» Builtin.Dict.dictSlotNone;refine wpAny_bind (wpAny_bind (wpAny_notOrdered_dict ty ?_));refine ZV (α:=Value) (a:=.ref d) ?_;show wpAny _ _ (Builtin.Dict.showsAll d>>=λ_=>_) _ _ _;unfold Builtin.Dict.showsAll;rw[ns,if_neg Zk];refine wpAny_bind (ZV (wpAny_bind (wpAny_dictEntries eo ed (wpAny_bind (wpAny_dictEpoch eo ed (wpAny_bind (wpAny_newObj_type (ZV ⟨_,rfl,"dict_keyiterator",_,⟨_,Zq _ rfl,rfl⟩,PySem.F.slot_dict_keyiterator_next.lookup,?_⟩))))))));simpa[rawInt,sz]using k
def YW{it d:Addr}{xs:List (κ×Addr×Value)}{i n:Nat}{Q:Option Value->Shared->Prop}(hi:s.heap.IsKeyIter it d i xs.length n)(x:DH kn s.heap d xs n)(p:κ×Addr×Value)(hp:xs[i]?=some p)
  (k:∀h',h'.IsKeyIter it d (i+1) xs.length n->Heap.SameBut it s.heap h'->Q (some (.ref p.2.1)) {s with heap:=h'}):wpAny (model prog w) A (pyNext (.ref it)) Q E s:=by
 have tI:=hi.typeIs;obtain⟨oi,ei,ci,di⟩:=id hi;obtain⟨ob,en,eo,_,ed,el⟩:=x;have sz:en.size=xs.length:=size_of_entries el;have at_:en[i]?=some ⟨kn.hash p.1,.ref p.2.1,p.2.2⟩:=by rw[entry_at el,hp];rfl
 unfold pyNext;refine wpAny_bind (wpAny_attempt (wpAny_callSpecial?_slot (name:=Str.ofString "__next__") tI PySem.F.slot_dict_keyiterator_next (wpAny_call_entry PySem.F.slot_dict_keyiterator_next tI PySem.F.entry_dict_keyiterator_next ?_ (PySem.F.args_dict_keyiterator_next_1 _))));refine wpAny_bind (ZV (wpAny_bind (wpAny_bind ?_)));refine wpAny_bind (wpAny_typeNameOfWhole_keyiter tI (ZV (wpAny_bind (wpAny_fieldsOf ei di ?_))));simp only[show Builtin.Dict_items.ownsTuple "dict_keyiterator"=false from by decide,Bool.false_eq_true,if_false];have nn:¬((Value.ref d==Value.none)=true):=Zk;show wpAny _ _ (ite ((Value.ref d==Value.none)=true) _ _) _ _ _;rw[if_neg nn];refine wpAny_bind (ZV (wpAny_bind (wpAny_dictEntries eo ed ?_)));rw[sz,if_neg (by simp)];refine wpAny_bind (ZV (wpAny_bind (wpAny_dictEpoch eo ed ?_)));rw[if_neg (by simp)];refine ZV ?_;simp only[show¬((i:Int)<0)from by omega,if_false,Za,at_];refine wpAny_bind (wpAny_bind (wpAny_typeNameOfWhole_keyiter tI (ZV (wpAny_bind (wpAny_isOneOf_keyiter tI ?_)))));refine wpAny_bind (m:=setField (.ref it) 1 (rawInt ((i:Int)+1))) (wpAny_setField ei di (by simp) ?_)
 have iE:(s.heap.update it (Obj.mapFields λvs=>vs.setIfInBounds 1 (rawInt ((i:Int)+1)))).IsKeyIter it d (i+1) xs.length n:=by
  refine⟨_,Heap.get?_update_self _ ei (Obj.isFreed_of_fields (Obj.data_mapFields di _)),(Obj.cls_mapFields ..).trans ci,?_⟩;rw[Obj.data_mapFields di];simp[rawInt]
 refine wpAny_bind (wpAny_holding (wpAny_bind (wpAny_isOneOf_keyiter (s:={s with heap:=s.heap.update it (Obj.mapFields λvs=>vs.setIfInBounds 1 (rawInt ((i:Int)+1)))}) iE.typeIs ?_)));exact ZV (ZV ⟨_,rfl,ZV (k _ iE (Heap.SameBut.update ..))⟩)
def abz{it d:Addr}{xs:List (κ×Addr×Value)}{i n:Nat}{Q:Option Value->Shared->Prop}(hh:A.handled=none)(hi:s.heap.IsKeyIter it d i xs.length n)(x:DH kn s.heap d xs n)(hp:xs.length<=i)
  (k:∀h',Heap.ExtBut it s.heap h'->Q none {s with heap:=h'}):wpAny (model prog w) A (pyNext (.ref it)) Q E s:=by
 have tI:=hi.typeIs;obtain⟨oi,ei,ci,di⟩:=id hi;obtain⟨ob,en,eo,_,ed,el⟩:=x;have sz:en.size=xs.length:=size_of_entries el;have at_:en[i]?=none:=Array.getElem?_eq_none (by omega)
 unfold pyNext;refine wpAny_bind (wpAny_attempt (wpAny_callSpecial?_slot (name:=Str.ofString "__next__") tI PySem.F.slot_dict_keyiterator_next (wpAny_call_entry PySem.F.slot_dict_keyiterator_next tI PySem.F.entry_dict_keyiterator_next ?_ (PySem.F.args_dict_keyiterator_next_1 _))));refine wpAny_bind (ZV (wpAny_bind (wpAny_bind ?_)));refine wpAny_bind (wpAny_typeNameOfWhole_keyiter tI (ZV (wpAny_bind (wpAny_fieldsOf ei di ?_))));simp only[show Builtin.Dict_items.ownsTuple "dict_keyiterator"=false from by decide,Bool.false_eq_true,if_false];have nn:¬((Value.ref d==Value.none)=true):=Zk;show wpAny _ _ (ite ((Value.ref d==Value.none)=true) _ _) _ _ _;rw[if_neg nn];refine wpAny_bind (ZV (wpAny_bind (wpAny_dictEntries eo ed ?_)));rw[sz,if_neg (by simp)];refine wpAny_bind (ZV (wpAny_bind (wpAny_dictEpoch eo ed ?_)));rw[if_neg (by simp)];refine ZV ?_;simp only[show¬((i:Int)<0)from by omega,if_false,Za,at_];refine wpAny_bind (wpAny_bind (wpAny_typeNameOfWhole_keyiter tI (ZV ?_)));refine wpAny_bind (m:=setField (.ref it) 0 .none) (wpAny_setField ei di (by simp) ?_);refine wpAny_bind (m:=newExc (.type "StopIteration") []) ?_;simp only[newExc,newTuple];refine wpAny_bind (wpAny_newObj_type (wpAny_bind (m:=firstArgMember _ _) (wpAny_of_eq (a:=Value.none) (by first|rfl|(simp only[firstArgMember];rfl)) (wpAny_newObj_type ?_ (by size_fits)))) (by size_fits));simp only[raiseNew];refine wpAny_bind (wpAny_handled ?_);rw[show A.in1.handled=none from hh];refine wpAny_bind (ZV (wpAny_throw ?_));refine wpAny_bind (wpAny_isInstance (T:="StopIteration") (b:=true) ⟨_,Zq _ rfl,rfl⟩ isSubtype_stop (ZV ?_));exact k _ (((Heap.SameBut.update ..).extBut.push _).push _)
def WN(hh:A.handled=none)(it d:Addr)(ne:d≠it)(xs:List (κ×Addr×Value))(n:Nat):
  Walks prog w A it [it,d] [it] xs.length (λi v=>∃p,xs[i]?=some p/\v=.ref p.2.1) (λi h=>h.IsKeyIter it d i xs.length n/\DH kn h d xs n) where
 sub:=λb hb=>Y5.mpr (.inl (Y2.mp hb))
 frame:=λ_ _ _ st k=>⟨st.1.at λob e=>k it (Y9 ..) ob e,st.2.to λob e=>k d (Y4 _ (Y9 ..)) ob e⟩
 item:=λi s Q E lt st q=>by
  refine YW st.1 st.2 xs[i] (Zd lt) λh' bT sb=>?_;exact q _ h' s.toks ⟨_,Zd lt,rfl⟩ ⟨bT,st.2.to λob e=>sb.extBut d ob ne e⟩ λb ob nb e=>sb.extBut b ob (λz=>nb (z▸List.mem_singleton_self _)) e
 done:=λs Q E st q=>abz hh st.1 st.2 (Y3 _) λh' ex=>q h' s.toks λb ob nb e=>ex b ob (λz=>nb (z▸List.mem_singleton_self _)) e
 self:=λ_ _ _ _ st q=>wpAny_pyIter_keyiter st.1 q
def abA{d:Addr}{xs:List (κ×Addr×Value)}{n:Nat}(ns:(d==sysModules)=false):KdlSrc prog w "dict" d d xs.length (λi v=>∃p,xs[i]?=some p/\v=.ref p.2.1) (λh=>DH kn h d xs n) where
 type:=λ_ x=>x.ty
 there:=λ_ x=>⟨x.lt,x.lt⟩
 keep:=λ_ _ x k=>x.to λob e=>k d (.inl rfl) ob e
 notList:=by decide
 notTuple:=by decide
 hint:=λ_ _ _ _ x q=>kdl_hint_dict x.ty q
 iter:=λ_ _ hh x=>⟨_,_,(λ_ _ q=>YV ns x q),WN hh _ d (Zn x.lt) xs n,⟨⟨_,Zq _ rfl,rfl,rfl⟩,x.to λob e=>Y8 _ e⟩⟩
end
section
variable {X:Cx}
inductive Mr(xs:List V)(H:Hp)(Q:VK):Prop
 |mk (d:Addr) (kvs:List (List Key×V)) (_:xs=[.ref d]) (_:H d=some (.dT kvs)) (_:∀(ts:List Addr) (l:Addr),H l=none->ts.length=kvs.length->(∀(i:Nat) (t:Addr) (p:List Key×V),ts[i]?=some t->kvs[i]?=some p->H t=some (.tup (p.1.map kV)))->Q (.ref l) (upd H l (.lst (ts.map V.ref)))):Mr xs H Q
def S9(hc:X.calm=true):ig X (.type "list") (λxs H Q=>Wr (Mr xs H Q)):=by
 intro pins s σ H xs us Q I r h;obtain⟨d,kvs,rfl,hd,q⟩:=h.get;obtain⟨u,rfl,ru⟩:=r.one;cases ru;obtain⟨z,ns,es,kt,ob,en,ep,e1,e2,e3,e4,e5,e6⟩:=Bu I.ao hd;have lk:kvs.length=es.length:=Paired.length kt;refine kdl_call (abA (kn:=tupleKind (cY X.prog X.w)) (xs:=es) (n:=ep) ns) (I.ok.hd hc) ⟨ob,en,e1,e2,e3,e4⟩ (by rw[<-lk];exact z) λh' tk acc c hk hS lS=>?_;refine⟨.ref s.heap.objs.size,_,I.laid (t':=tk) (o:=.lst ((es.map λp=>p.2.1).map V.ref)) hk (Y3 _) ?_,rfl,q (es.map λp=>p.2.1) _ (I.ao.fresh (Y3 _)) (by rw[Y1];exact lk.symm) λi t p ht hp=>?_⟩
 ·refine⟨by rw[Y1,Y1, <-lk];exact z,acc.toList,c,?_,by simpa using hS⟩
  have ha:acc.toList=es.map λp=>Value.ref p.2.1:=by
   apply List.ext_getElem?;intro i;rw[Zf,Array.getElem?_toList];by_cases hi:i<es.length
   ·obtain⟨v,hv⟩:∃v,acc[i]?=some v:=⟨acc[i]'(by rw[lS.1];exact hi),Array.getElem?_eq_getElem _⟩;obtain⟨p,hp,rfl⟩:=lS.2 i v hv;rw[hv,hp];rfl
   ·rw[Array.getElem?_eq_none (by rw[lS.1];omega),ZI (by omega)];rfl
  rw[ha]
  have gen:∀l:List (List Key×Addr×Value),Vals ((l.map λp=>p.2.1).map V.ref) (l.map λp=>Value.ref p.2.1):=by
   intro l
   induction l with
   |nil=>exact .nil
   |cons p l ih=>exact .cons rfl ih
  exact gen es
 ·have gen:∀{a:List (List Key×V)}{b:List (List Key×Addr×Value)},KT H a b->∀(i:Nat) (t:Addr) (p:List Key×V),(b.map λp=>p.2.1)[i]?=some t->a[i]?=some p->H t=some (.tup (p.1.map kV)):=by
   intro a b kt
   induction kt with
   |nil=>intro i t p _ hp;simp at hp
   |@cons x y _ _ CW _ ih=>
    intro i t p ht hp;cases i with
    |zero=>
     have ht:y.2.1=t:=by simpa using ht
     have hp:x=p:=by simpa using hp
     subst ht hp;exact CW.2.1
    |succ i=>exact ih i t p (by simpa using ht) (by simpa using hp)
  exact gen kt i t p ht hp
end
end L2
namespace My
open PySem L2
structure FS where
 l:List Int
 D:Nat->List (List Key×V)
 W:List (Addr×Addr×Int)
 ss:List (List Int)
def key(k s:Int):List Key:=[.inl k,.inl s]
def cG(st:FS)(m:Nat)(k s:Int)(a:Addr):FS:=
 match bj (st.D m) (key k s)with
 |some (.ref b)=>{st with W:=st.W++[(b,a,s)]}
 |some _=>st
 |none=>{st with D:=λi=>if i=m then putK (st.D m) (key k s) (.ref a)else st.D i}
def at_(l:List Int)(m:Nat):Nat:=(l.getD m 0).toNat
def gE(rd:Addr->List Int)(st:FS)(a:Addr):FS:=
 let gj:=cG st (at_ st.l (mk (rd a) 1)) ((rd a).getD 2 0) 1 a
 cG gj (at_ gj.l (mk (rd a) (-1))) ((rd a).getD 2 0) (-1) a
def eK(low:Nat)(s:FS)(e:List Key×V):FS:=
 match e.1,e.2 with
 |[.inl k,.inl sd],.ref r=>cG s low k sd r
 |_,_=>s
def cZ(l:List Int)(a b:Nat):Nat:=(min (l.getD a 0) (l.getD b 0)).toNat
def b5(l:List Int)(a b:Nat):Nat:=(max (l.getD a 0) (l.getD b 0)).toNat
def m9(st:FS)(a b:Nat):FS:=(st.D (b5 st.l a b)).foldl (eK (cZ st.l a b)) {st with l:=jn st.l (cZ st.l a b) (b5 st.l a b)}
def gU(rd:Addr->List Int)(st:FS)(x y:Addr)(s:Int):FS:=
 if st.l.getD (mk (rd x) (-s)) 0=st.l.getD (mk (rd y) (-s)) 0 then st
 else m9 {st with ss:=st.ss++[[(rd x).getD 0 0,(rd y).getD 0 0,s]]} (mk (rd x) (-s)) (mk (rd y) (-s))
def oU(st:FS)(m:Nat)(k s:Int)(a:Addr):(cG st m k s a).l=st.l:=by
 unfold cG;split<;>rfl
def Ar(st:FS)(m:Nat)(k s:Int)(a:Addr):(cG st m k s a).ss=st.ss:=by
 unfold cG;split<;>rfl
structure Rows(n:Nat)(rows:List Addr)(rd:Addr->List Int):Prop where
 row:∀r∈rows,cC n (rd r)
 kind:∀r∈rows,1<=(rd r).getD 2 0/\(rd r).getD 2 0<=5
def gY(s:Int):Prop:=s=1\/s= -1
structure vG(rows:List Addr)(rd:Addr->List Int)(l:List Int)(m:Nat)(e:List Key×V):Prop where
 is:∃(s:Int) (r:Addr),e=(key ((rd r).getD 2 0) s,.ref r)/\r∈rows/\gY s/\l.getD (mk (rd r) s) 0=l.getD m 0
structure A9(rows:List Addr)(rd:Addr->List Int)(l:List Int)(e:Addr×Addr×Int):Prop where
 x:e.1∈rows
 y:e.2.1∈rows
 s:gY e.2.2
 k:(rd e.1).getD 2 0=(rd e.2.1).getD 2 0
 n:l.getD (mk (rd e.1) e.2.2) 0=l.getD (mk (rd e.2.1) e.2.2) 0
structure bz(n:Nat)(rows:List Addr)(rd:Addr->List Int)(st:FS):Prop where
 aD:c7 n st.l
 iF:∀a,a<n->st.l.getD (at_ st.l a) 0=st.l.getD a 0
 i9:∀m,m<n->∀e∈st.D m,vG rows rd st.l m e
 nd:∀m,m<n->((st.D m).map (·.1)).Nodup
 wt:∀e∈st.W,A9 rows rd st.l e
def kJ{n:Nat}{l:List Int}(L:c7 n l){m:Nat}(h:m<n):at_ l m<n/\(at_ l m:Int)=l.getD m 0:=by
 have:=L.bx _ (getD_mem (a:=m) (by rw[L.len];exact h));unfold at_
 omega
def Kv:List (List Key):=[key 1 1,key 1 (-1),key 2 1,key 2 (-1),key 3 1,key 3 (-1),key 4 1,key 4 (-1),key 5 1,key 5 (-1)]
def HQ{α:Type} [DecidableEq α]:∀(a b:List α),a.Nodup->(∀x∈a,x∈b)->a.length<=b.length
 |[],b,_,_=>Zp _
 |x::a,b,nd,h=>by
  have hx:=h x (Y9 ..)
  have:=HQ a (b.erase x) nd.tail λy hy=>by
   have eZ:y≠x:=λe=>by
    have:=(ZG.mp nd).1;rw[e]at hy;exact this hy
   exact(List.mem_erase_of_ne eZ).mpr (h y (Y4 _ hy))
  rw[List.length_erase_of_mem hx]at this;have:=List.length_pos_of_mem hx;simp only[ZF];omega
def bz.Cf{n:Nat}{rows:List Addr}{rd:Addr->List Int}{st:FS}(R:Rows n rows rd)(h:bz n rows rd st){m:Nat}(hm:m<n):(st.D m).length<=10:=by
 have:=HQ ((st.D m).map (·.1)) Kv (h.nd m hm) λk hk=>by
  obtain⟨e,he,rfl⟩:=Zh.mp hk;obtain⟨s,r,rfl,hr,hs,_⟩:=(h.i9 m hm e he).is;obtain⟨k1,k5⟩:=R.kind r hr;generalize(rd r).getD 2 0=k at k1 k5;have:k=1\/k=2\/k=3\/k=4\/k=5:=by omega
  rcases hs with rfl|rfl<;>rcases this with rfl|rfl|rfl|rfl|rfl<;>simp[Kv,key]
 rw[Y1]at this;exact this
def WO{kvs:List (List Key×V)}{k:List Key}{v:V}{e:List Key×V}(h:bj kvs k=none)(he:e∈putK kvs k v):e∈kvs\/e=(k,v):=by
 rw[rX v h]at he;rcases Y7.mp he with z|z
 ·exact .inl z
 ·exact .inr (Y2.mp z)
def rY:∀{kvs:List (List Key×V)}{k:List Key}{v:V},bj kvs k=some v->(k,v)∈kvs
 |[],k,v,h=>by cases h
 |p::r,k,v,h=>by
  by_cases e:p.1=k
  ·rw[g8 e]at h;cases h;rw[<-e];exact Y9 ..
  ·rw[hJ e]at h;exact Y4 _ (rY h)
def GV:∀{kvs:List (List Key×V)}{e:List Key×V},(kvs.map (·.1)).Nodup->e∈kvs->bj kvs e.1=some e.2
 |[],e,_,h=>by cases h
 |p::r,e,nd,h=>by
  rcases Y5.mp h with rfl|h
  ·exact g8 rfl
  ·have:¬p.1=e.1:=λz=>by
    have:¬p.1∈r.map (·.1):=(ZG.mp nd).1;rw[z]at this;exact this (Zh.mpr ⟨e,h,rfl⟩)
   rw[hJ this];exact GV (ZG.mp nd).2 h
def bz.put{n:Nat}{rows:List Addr}{rd:Addr->List Int}{st:FS}(h:bz n rows rd st){m:Nat}(hm:m<n){a:Addr}{s:Int}(ha:a∈rows)(hs:gY s)(hl:st.l.getD (My.mk (rd a) s) 0=st.l.getD m 0):
  bz n rows rd (cG st m ((rd a).getD 2 0) s a):=by
 unfold cG;cases e:bj (st.D m) (key ((rd a).getD 2 0) s)with
 |none=>
  refine⟨h.aD,h.iF,λi hi x hx=>?_,λi hi=>?_,h.wt⟩
  ·have hx:x∈(if i=m then putK (st.D m) (key ((rd a).getD 2 0) s) (.ref a)else st.D i):=hx;by_cases kf:i=m
   ·rw[if_pos kf]at hx;rcases WO e hx with z|z
    ·exact kf▸h.i9 m hm x z
    ·exact⟨s,a,z,ha,hs,by rw[kf];exact hl⟩
   ·rw[if_neg kf]at hx;exact h.i9 i hi x hx
  ·show((if i=m then putK (st.D m) (key ((rd a).getD 2 0) s) (.ref a)else st.D i).map (·.1)).Nodup;by_cases kf:i=m
   ·rw[if_pos kf];exact YS _ (h.nd m hm) e
   ·rw[if_neg kf];exact h.nd i hi
 |some v=>
  obtain⟨s',r,er,hr,CY,OQ⟩:=(h.i9 m hm _ (rY e)).is;have e1:key ((rd a).getD 2 0) s=key ((rd r).getD 2 0) s':=(Prod.mk.inj er).1;obtain rfl:v=.ref r:=(Prod.mk.inj er).2;have e2:(rd a).getD 2 0=(rd r).getD 2 0:=Sum.inl.inj (List.cons.inj e1).1;have e3:s=s':=Sum.inl.inj (List.cons.inj (List.cons.inj e1).2).1;subst e3;refine⟨h.aD,h.iF,h.i9,h.nd,λx hx=>?_⟩;rcases Y7.mp hx with z|z
  ·exact h.wt x z
  ·obtain rfl:=Y2.mp z;exact⟨hr,ha,hs,e2.symm,OQ.trans hl.symm⟩
def vH(st:FS)(m:Nat)(k s:Int)(a:Addr):(cG st m k s a).W.length<=st.W.length+1:=by
 unfold cG;split
 ·simp
 ·simp
 ·simp
def sy{l:List Int}{a b:Nat}{x y:Nat}(hx:x<l.length)(hy:y<l.length)(h:l.getD x 0=l.getD y 0):(jn l a b).getD x 0=(jn l a b).getD y 0:=by
 unfold jn;simp only[List.getD,Zf,Zd hx,Zd hy,Option.map_some,Option.getD_some]at h⊢;rw[h]
def lM{l:List Int}{a b x:Nat}(hx:x<l.length):(jn l a b).getD x 0=if l.getD x 0=max (l.getD a 0) (l.getD b 0)then min (l.getD a 0) (l.getD b 0)else l.getD x 0:=by
 unfold jn;simp only[List.getD,Zf,Zd hx,Option.map_some,Option.getD_some]
 rfl
def qj{n:Nat}{l:List Int}(L:c7 n l){a b:Nat}(ha:a<n)(hb:b<n):cZ l a b<n/\b5 l a b<n/\(cZ l a b:Int)=min (l.getD a 0) (l.getD b 0)/\(b5 l a b:Int)=max (l.getD a 0) (l.getD b 0):=by
 have h1:=L.bx _ (getD_mem (a:=a) (by rw[L.len];exact ha));have h2:=L.bx _ (getD_mem (a:=b) (by rw[L.len];exact hb));unfold cZ b5;omega
def Kw{n:Nat}{l:List Int}(L:c7 n l)(I:∀a,a<n->l.getD (at_ l a) 0=l.getD a 0){a b:Nat}(ha:a<n)(hb:b<n):l.getD (cZ l a b) 0=cZ l a b/\l.getD (b5 l a b) 0=b5 l a b:=by
 obtain⟨_,_,e1,e2⟩:=qj L ha hb;have i1:=I a ha;have i2:=I b hb;have a1:=(kJ L ha).2;have a2:=(kJ L hb).2
 have:(cZ l a b=at_ l a/\b5 l a b=at_ l b)\/(cZ l a b=at_ l b/\b5 l a b=at_ l a):=by
  by_cases h:l.getD a 0<=l.getD b 0
  ·left;omega
  ·right;omega
 rcases this with⟨x,y⟩|⟨x,y⟩
 ·rw[x,y,i1,i2];omega
 ·rw[x,y,i1,i2];omega
def Ms{n:Nat}{l:List Int}(L:c7 n l)(I:∀a,a<n->l.getD (at_ l a) 0=l.getD a 0){a b:Nat}(ha:a<n)(hb:b<n):jn l (cZ l a b) (b5 l a b)=jn l a b:=by
 obtain⟨e1,e2⟩:=Kw L I ha hb;obtain⟨_,_,e3,e4⟩:=qj L ha hb;unfold jn;rw[e1,e2,e3,e4];refine Z0 λv _=>?_;have m1:max (min (l.getD a 0) (l.getD b 0)) (max (l.getD a 0) (l.getD b 0))=max (l.getD a 0) (l.getD b 0):=by omega
 have m2:min (min (l.getD a 0) (l.getD b 0)) (max (l.getD a 0) (l.getD b 0))=min (l.getD a 0) (l.getD b 0):=by omega
 rw[m1,m2]
def Ba{n:Nat}{l:List Int}(L:c7 n l)(I:∀a,a<n->l.getD (at_ l a) 0=l.getD a 0){a b:Nat}(ha:a<n)(hb:b<n):∀x,x<n->(jn l a b).getD (at_ (jn l a b) x) 0=(jn l a b).getD x 0:=by
 intro x hx;have Lj:=L.jn ha hb;have wZ:x<l.length:=by rw[L.len];exact hx
 have ex:=lM (l:=l) (a:=a) (b:=b) wZ;obtain⟨lo,hi,e1,e2⟩:=qj L ha hb;obtain⟨q1,q2⟩:=Kw L I ha hb;by_cases h:l.getD x 0=max (l.getD a 0) (l.getD b 0)
 ·rw[if_pos h]at ex;have:at_ (jn l a b) x=cZ l a b:=by unfold at_;rw[ex];rfl
  rw[this,lM (by rw[L.len];exact lo),q1,e1,ex];split
  ·rfl
  ·rfl
 ·rw[if_neg h]at ex;have:at_ (jn l a b) x=at_ l x:=by unfold at_;rw[ex]
  rw[this,lM (by rw[L.len];exact(kJ L hx).1),I x hx,if_neg h,ex]
def bz.join{n:Nat}{rows:List Addr}{rd:Addr->List Int}{st:FS}(R:Rows n rows rd)(h:bz n rows rd st){a b:Nat}(ha:a<n)(hb:b<n):bz n rows rd {st with l:=jn st.l a b}:=by
 have ll:=h.aD.len;refine⟨h.aD.jn ha hb,Ba h.aD h.iF ha hb,λm hm e he=>?_,h.nd,λe he=>?_⟩
 ·obtain⟨s,r,er,hr,hs,hl⟩:=(h.i9 m hm e he).is;exact⟨s,r,er,hr,hs,sy (by rw[ll];exact((R.row r hr).mk s).2) (by rw[ll];exact hm) hl⟩
 ·obtain⟨x,y,s,k,nn⟩:=h.wt e he;exact⟨x,y,s,k,sy (by rw[ll];exact((R.row _ x).mk _).2) (by rw[ll];exact((R.row _ y).mk _).2) nn⟩
def abC(st:FS){m j:Nat}(k s:Int)(a:Addr)(h:j≠m):(cG st m k s a).D j=st.D j:=by
 unfold cG;split
 ·rfl
 ·rfl
 ·show(if j=m then _ else st.D j)=_;rw[if_neg h]
def abD(st:FS){m j:Nat}(e:List Key×V)(h:j≠m):(eK m st e).D j=st.D j:=by
 unfold eK;split
 ·exact abC st _ _ _ h
 ·rfl
def Ky{n:Nat}{rows:List Addr}{rd:Addr->List Int}{low:Nat}(wz:low<n):∀(es:List (List Key×V)) (st:FS),bz n rows rd st->(∀e∈es,vG rows rd st.l low e)->
  bz n rows rd (es.foldl (eK low) st)/\(es.foldl (eK low) st).l=st.l/\(es.foldl (eK low) st).ss=st.ss/\(es.foldl (eK low) st).W.length<=st.W.length+es.length:=by
 intro es
 induction es with
 |nil=>intro st h _;exact⟨h,rfl,rfl,Y3 _⟩
 |cons e es ih=>
  intro st h he;obtain⟨s,r,er,hr,hs,hl⟩:=(he e (Y9 ..)).is;subst er;have h1:bz n rows rd (eK low st (key ((rd r).getD 2 0) s,.ref r)):=h.put wz hr hs hl;have l1:(eK low st (key ((rd r).getD 2 0) s,.ref r)).l=st.l:=oU ..;have s1:(eK low st (key ((rd r).getD 2 0) s,.ref r)).ss=st.ss:=Ar ..;have w1:(eK low st (key ((rd r).getD 2 0) s,.ref r)).W.length<=st.W.length+1:=vH ..;obtain⟨a1,a2,a3,a4⟩:=ih _ h1 (λe' h'=>by rw[l1];exact he e' (Y4 _ h'));refine⟨a1,a2.trans l1,a3.trans s1,?_⟩;simp only[List.foldl_cons,ZF];omega
def rQ{n:Nat}{l:List Int}(L:c7 n l){a b:Nat}(ha:a<n)(hb:b<n):(jn l a b).getD a 0=(jn l a b).getD b 0:=by
 rw[lM (by rw[L.len];exact ha),lM (by rw[L.len];exact hb)];by_cases h:l.getD a 0<=l.getD b 0
 ·have e:max (l.getD a 0) (l.getD b 0)=l.getD b 0:=by omega
  have e2:min (l.getD a 0) (l.getD b 0)=l.getD a 0:=by omega
  rw[e,e2,if_pos rfl];split<;>rfl
 ·have e:max (l.getD a 0) (l.getD b 0)=l.getD a 0:=by omega
  have e2:min (l.getD a 0) (l.getD b 0)=l.getD b 0:=by omega
  rw[e,e2,if_pos rfl];split<;>rfl
def bz.merge{n:Nat}{rows:List Addr}{rd:Addr->List Int}{st:FS}(R:Rows n rows rd)(h:bz n rows rd st){a b:Nat}(ha:a<n)(hb:b<n):
  bz n rows rd (m9 st a b)/\(m9 st a b).l=jn st.l a b/\(m9 st a b).ss=st.ss/\(m9 st a b).W.length<=st.W.length+10:=by
 obtain⟨lo,hi,_,_⟩:=qj h.aD ha hb;have hj:=h.join R lo hi
 obtain⟨a1,a2,a3,a4⟩:=Ky lo (st.D (b5 st.l a b)) _ hj λe he=>by
  obtain⟨s,r,er,hr,hs,hl⟩:=(hj.i9 _ hi e he).is;exact⟨s,r,er,hr,hs,hl.trans (rQ h.aD lo hi).symm⟩
 refine⟨a1,a2.trans (Ms h.aD h.iF ha hb),a3,ZQ a4 (Nat.add_le_add_left (h.Cf R hi) _)⟩
structure FA where
 dx:Addr
 g:Addr
 ld:Addr
 lw:Addr
 lx:Addr
 ds:List Addr
def ff(d:FA):List (Str×V):=[("groups",.ref d.g),("doors",.ref d.ld),("waiting",.ref d.lw),("steps",.ref d.lx)]
structure b4(CF CG:Addr)(H0 H:Hp)(f:Addr)(d:FA)(n:Nat)(st:FS):Prop where
 ob:H f=some (.ins CF d.dx (ff d))
 gr:ke CG H d.g st.l
 dl:H d.ld=some (.lst (d.ds.map V.ref))
 dn:d.ds.length=n
 du:d.ds.Nodup
 dd:∀m x,d.ds[m]?=some x->H x=some (.dT (st.D m))
 wl:∃wa:List Addr,H d.lw=some (.lst (wa.map V.ref))/\wa.length=st.W.length/\∀(i:Nat) (t:Addr) (e:Addr×Addr×Int),wa[i]?=some t->st.W[i]?=some e->H t=some (.tup [.ref e.1,.ref e.2.1,.int e.2.2])
 sl:∃sp:Ps,Tl H d.lx sp/\sp.map (·.2)=st.ss
 n1:d.lw≠d.lx
 n2:d.lw≠d.ld
 n3:d.lx≠d.ld
 f0:H0 f=none
 f1:H0 d.g=none
 f2:H0 d.lw=none
 f3:H0 d.lx=none
 f4:∀x∈d.ds,H0 x=none
 sa:aa H0 H
def Kx(d:FA)(H H':Hp):Prop:=∀b o,H b=some o->b≠d.lw->b≠d.lx->b≠d.g->b∉d.ds->H' b=some o
def Kx.trans{d:FA}{H H1 H2:Hp}(a:Kx d H H1)(b:Kx d H1 H2):Kx d H H2:=λc o e n1 n2 n3 n4=>b c o (a c o e n1 n2 n3 n4) n1 n2 n3 n4
def Kx.refl{d:FA}{H:Hp}:Kx d H H:=λc o e _ _ _ _=>e
def Kx.of{d:FA}{H H':Hp}(s:aa H H'):Kx d H H':=λc o e _ _ _ _=>s c o e
def b4.tup{CF CG:Addr}{H0 H H':Hp}{f:Addr}{d:FA}{n:Nat}{st:FS}(F:b4 CF CG H0 H f d n st)(k:Kx d H H'){b:Addr}{xs:List V}(h:H b=some (.tup xs)):H' b=some (.tup xs):=by
 obtain⟨wa,w1,_⟩:=F.wl;obtain⟨sp,t1,_⟩:=F.sl;obtain⟨dx,gl,g1,_⟩:=F.gr.ob;refine k b _ h (λe=>?_) (λe=>?_) (λe=>?_) (λe=>?_)
 ·rw[e,w1]at h;cases h
 ·rw[e,t1.is]at h;cases h
 ·rw[e,g1]at h;cases h
 ·obtain⟨m,hm,e2⟩:=ZD e;have:=F.dd m b (by rw[Zd hm,e2]);rw[this]at h;cases h
structure o8(K:PySem.W.Frag)(mg:Str->Option Value)(C:Addr):Prop where
 cl:eV K C
 nG:NoAttr K C "groups"
 nD:NoAttr K C "doors"
 nW:NoAttr K C "waiting"
 nS:NoAttr K C "steps"
 mgC:mg "Fold"=some (.ref C)
def nH(d:FA):(ff d).lookup ("groups":Str)=some (.ref d.g):=rfl
def Cg(d:FA):(ff d).lookup ("doors":Str)=some (.ref d.ld):=rfl
def Ci(d:FA):(ff d).lookup ("waiting":Str)=some (.ref d.lw):=rfl
def N7(d:FA):(ff d).lookup ("steps":Str)=some (.ref d.lx):=rfl
def Mt(d:FA):(ff d).lookup ("put":Str)=none:=rfl
def abE(d:FA):(ff d).lookup ("lay":Str)=none:=rfl
def WQ(d:FA):(ff d).lookup ("merge":Str)=none:=rfl
def UG(d:FA):(ff d).lookup ("settle":Str)=none:=rfl
def b4.same{CF CG:Addr}{H0 H H':Hp}{f:Addr}{d:FA}{n:Nat}{st:FS}(F:b4 CF CG H0 H f d n st)(s:aa H H'):b4 CF CG H0 H' f d n st:=by
 obtain⟨wa,w1,w2,w3⟩:=F.wl;obtain⟨sp,t1,t2⟩:=F.sl;exact⟨s _ _ F.ob,F.gr.other s,s _ _ F.dl,F.dn,F.du,λm x e=>s _ _ (F.dd m x e),⟨wa,s _ _ w1,w2,λi t e h1 h2=>s _ _ (w3 i t e h1 h2)⟩,⟨sp,t1.same s,t2⟩,F.n1,F.n2,F.n3,F.f0,F.f1,F.f2,F.f3,F.f4,F.sa.trans s⟩
def b4.acR{CF CG:Addr}{H0 H H':Hp}{f:Addr}{d:FA}{n:Nat}{st:FS}{l':List Int}(F:b4 CF CG H0 H f d n st)(k:Kp d.g H H')(g:ke CG H' d.g l')(nf:f≠d.g):b4 CF CG H0 H' f d n {st with l:=l'}:=by
 obtain⟨wa,w1,w2,w3⟩:=F.wl;obtain⟨sp,t1,t2⟩:=F.sl;obtain⟨dx,gl,g1,_⟩:=F.gr.ob
 have ne:∀{b:Addr}{o:HO},H b=some o->(∀C x fs,o≠.ins C x fs)->H' b=some o:=λ{b o} e hn=>k b o e λz=>by
  rw[z,g1]at e;exact hn _ _ _ (Zg e).symm
 refine⟨k _ _ F.ob nf,g,ne F.dl (λ_ _ _ z=>nomatch z),F.dn,F.du,λm x e=>ne (F.dd m x e) (λ_ _ _ z=>nomatch z),⟨wa,ne w1 (λ_ _ _ z=>nomatch z),w2,λi t e h1 h2=>ne (w3 i t e h1 h2) (λ_ _ _ z=>nomatch z)⟩,
  ⟨sp,⟨ne t1.is (λ_ _ _ z=>nomatch z),λp hp=>ne (t1.tp p hp) (λ_ _ _ z=>nomatch z)⟩,t2⟩,F.n1,F.n2,F.n3,F.f0,F.f1,F.f2,F.f3,F.f4,λb o e=>k b o (F.sa b o e) (a8 e F.f1)⟩
def Kx.kp{d:FA}{H H':Hp}(k:Kp d.g H H'):Kx d H H':=λc o e _ _ n _=>k c o e n
def HS{H:Hp}{a b:Addr}{l:List Int}{ts:List Addr}(ha:aw H a l)(hl:0<l.length)(hb:H b=some (.lst (ts.map V.ref))):a≠b:=λe=>by
 rw[e]at ha;have e2:=Zg (ha.symm.trans hb);have e3:l.map V.int=ts.map V.ref:=HO.lst.inj e2;cases l with
 |nil=>cases hl
 |cons x l=>
  cases ts with
  |nil=>cases e3
  |cons y ts=>exact nomatch(List.cons.inj e3).1
structure Frame(CF CG:Addr)(H0:Hp)(rows:List Addr)(rd:Addr->List Int)(n:Nat):Prop where
 rw:Rows n rows rd
 tp:∀r∈rows,H0 r=some (.tup ((rd r).map V.int))
 n1:n<=1000
 rl:rows.length<=1000
 ne:CF≠CG
inductive Kz(CF CG:Addr)(vs:List V)(H:Hp)(Q:VK)(ay:XK):Prop
 |mk (H0:Hp) (rows:List Addr) (rd:Addr->List Int) (n:Nat) (f x t a:Addr) (d:FA) (st:FS) (m:Nat) (s:Int) (_:vs=[.ref f,.ref x,.ref t,.ref a]) (_:Frame CF CG H0 rows rd n) (_:b4 CF CG H0 H f d n st) (_:bz n rows rd st) (_:m<n) (_:d.ds[m]?=some x) (_:H t=some (.tup [.int ((rd a).getD 2 0),.int s])) (_:a∈rows) (_:st.W.length<=9990000) (_:∀H',b4 CF CG H0 H' f d n (cG st m ((rd a).getD 2 0) s a)->Kx d H H'->Q .aH H'):Kz CF CG vs H Q ay
def sZ(CF CG:Addr):Sp:=Kz CF CG
inductive KA(CF CG:Addr)(vs:List V)(H:Hp)(Q:VK)(ay:XK):Prop
 |mk (H0:Hp) (rows:List Addr) (rd:Addr->List Int) (n:Nat) (f a:Addr) (d:FA) (st:FS) (_:vs=[.ref f,.ref a]) (_:Frame CF CG H0 rows rd n) (_:b4 CF CG H0 H f d n st) (_:bz n rows rd st) (_:a∈rows) (_:st.W.length<=9989990) (_:∀H',b4 CF CG H0 H' f d n (gE rd st a)->Kx d H H'->Q .aH H'):KA CF CG vs H Q ay
def By(CF CG:Addr):Sp:=KA CF CG
inductive HU(CF CG:Addr)(vs:List V)(H:Hp)(Q:VK)(ay:XK):Prop
 |mk (H0:Hp) (rows:List Addr) (rd:Addr->List Int) (n:Nat) (f:Addr) (d:FA) (st:FS) (a b:Nat) (_:vs=[.ref f,.int a,.int b]) (_:Frame CF CG H0 rows rd n) (_:b4 CF CG H0 H f d n st) (_:bz n rows rd st) (_:a<n) (_:b<n) (_:st.l.getD a 0≠st.l.getD b 0) (_:st.W.length<=9989900) (_:∀H',b4 CF CG H0 H' f d n (m9 st a b)->Kx d H H'->Q .aH H'):HU CF CG vs H Q ay
def As(CF CG:Addr):Sp:=HU CF CG
def qw{H:Hp}{b x:Addr}{o u:HO}(h:H b=some o)(g:H x=some u)(n:o≠u):b≠x:=λe=>by
 rw[e,g]at h;exact n (Zg h).symm
def acS{ds:List Addr}(nd:ds.Nodup){i j:Nat}{x y:Addr}(hi:ds[i]?=some x)(hj:ds[j]?=some y)(h:i≠j):x≠y:=λe=>by
 subst e;obtain⟨h1,e1⟩:=ZL.mp hi;obtain⟨h2,e2⟩:=ZL.mp hj;exact h (List.getElem_inj nd|>.mp (e1.trans e2.symm))
def b4.putD{CF CG:Addr}{H0 H:Hp}{f:Addr}{d:FA}{n:Nat}{st:FS}(F:b4 CF CG H0 H f d n st){m:Nat}{x:Addr}(hx:d.ds[m]?=some x)(kv:List (List Key×V)):
  b4 CF CG H0 (upd H x (.dT kv)) f d n {st with D:=λi=>if i=m then kv else st.D i}/\Kx d H (upd H x (.dT kv)):=by
 obtain⟨wa,w1,w2,w3⟩:=F.wl;obtain⟨sp,t1,t2⟩:=F.sl;obtain⟨gx,gl,g1,g2⟩:=F.gr.ob;have hd:=F.dd m x hx
 have k:∀{b:Addr}{o:HO},H b=some o->(∀kv,o≠.dT kv)->upd H x (.dT kv) b=some o:=λ{b o} e hn=>by
  rw[ai (qw e hd (hn _))];exact e
 refine⟨⟨k F.ob (λ_ z=>nomatch z),⟨gx,gl,k g1 (λ_ z=>nomatch z),k g2 (λ_ z=>nomatch z)⟩,k F.dl (λ_ z=>nomatch z),F.dn,F.du,λi y e=>?_,⟨wa,k w1 (λ_ z=>nomatch z),w2,λi t e h1 h2=>k (w3 i t e h1 h2) (λ_ z=>nomatch z)⟩,
  ⟨sp,⟨k t1.is (λ_ z=>nomatch z),λp hp=>k (t1.tp p hp) (λ_ z=>nomatch z)⟩,t2⟩,F.n1,F.n2,F.n3,F.f0,F.f1,F.f2,F.f3,F.f4,F.sa.upd (F.f4 x (Y6 hx))⟩,λb o e _ _ _ n4=>?_⟩
 ·show upd H x (.dT kv) y=some (.dT (if i=m then kv else st.D i));by_cases kf:i=m
  ·subst kf;rw[hx]at e;cases e;rw[if_pos rfl,ak]
  ·rw[if_neg kf,ai (acS F.du e hx kf)];exact F.dd i y e
 ·have nb:b≠x:=λz=>n4 (by rw[z];exact Y6 hx);rw[ai nb];exact e
def b4.N8{CF CG:Addr}{H0 H:Hp}{f:Addr}{d:FA}{n:Nat}{st:FS}(F:b4 CF CG H0 H f d n st)(n0:0<n)(L:c7 n st.l)(wa:List Addr)(W:List (Addr×Addr×Int))(hl:wa.length=W.length)
  (hw:∀(i:Nat) (t:Addr) (e:Addr×Addr×Int),wa[i]?=some t->W[i]?=some e->H t=some (.tup [.ref e.1,.ref e.2.1,.int e.2.2])):
  b4 CF CG H0 (upd H d.lw (.lst (wa.map V.ref))) f d n {st with W:=W}/\Kx d H (upd H d.lw (.lst (wa.map V.ref))):=by
 obtain⟨wa0,w1,w2,w3⟩:=F.wl;obtain⟨sp,t1,t2⟩:=F.sl;obtain⟨gx,gl,g1,g2⟩:=F.gr.ob
 have k:∀{b:Addr}{o:HO},H b=some o->b≠d.lw->upd H d.lw (.lst (wa.map V.ref)) b=some o:=λ{b o} e hn=>by
  rw[ai hn];exact e
 have kk:∀{b:Addr}{o:HO},H b=some o->(∀xs,o≠.lst xs)->upd H d.lw (.lst (wa.map V.ref)) b=some o:=λ{b o} e hn=>k e (qw e w1 (hn _))
 refine⟨⟨kk F.ob (λ_ z=>nomatch z),⟨gx,gl,kk g1 (λ_ z=>nomatch z),k g2 (HS g2 (by rw[L.len];exact n0) w1)⟩,k F.dl F.n2.symm,F.dn,F.du,λm x e=>kk (F.dd m x e) (λ_ z=>nomatch z),⟨wa,ak,hl,λi t e h1 h2=>kk (hw i t e h1 h2) (λ_ z=>nomatch z)⟩,
  ⟨sp,⟨k t1.is F.n1.symm,λp hp=>kk (t1.tp p hp) (λ_ z=>nomatch z)⟩,t2⟩,F.n1,F.n2,F.n3,F.f0,F.f1,F.f2,F.f3,F.f4,F.sa.upd F.f2⟩,λb o e n1 _ _ _=>k e n1⟩
def b4.adY{CF CG:Addr}{H0 H:Hp}{f:Addr}{d:FA}{n:Nat}{st:FS}(F:b4 CF CG H0 H f d n st)(n0:0<n)(L:c7 n st.l)(sp:Ps)(tp:Tp H sp):
  b4 CF CG H0 (upd H d.lx (.lst (sp.map λp=>V.ref p.1))) f d n {st with ss:=sp.map (·.2)}/\Kx d H (upd H d.lx (.lst (sp.map λp=>V.ref p.1))):=by
 obtain⟨wa,w1,w2,w3⟩:=F.wl;obtain⟨sp0,t1,t2⟩:=F.sl;obtain⟨gx,gl,g1,g2⟩:=F.gr.ob
 have k:∀{b:Addr}{o:HO},H b=some o->b≠d.lx->upd H d.lx (.lst (sp.map λp=>V.ref p.1)) b=some o:=λ{b o} e hn=>by
  rw[ai hn];exact e
 have kk:∀{b:Addr}{o:HO},H b=some o->(∀xs,o≠.lst xs)->upd H d.lx (.lst (sp.map λp=>V.ref p.1)) b=some o:=λ{b o} e hn=>k e (qw e t1.is (hn _));have t1':H d.lx=some (.lst ((sp0.map (·.1)).map V.ref)):=by rw[ZK];exact t1.is
 refine⟨⟨kk F.ob (λ_ z=>nomatch z),⟨gx,gl,kk g1 (λ_ z=>nomatch z),k g2 (HS g2 (by rw[L.len];exact n0) t1')⟩,k F.dl F.n3.symm,F.dn,F.du,λm x e=>kk (F.dd m x e) (λ_ z=>nomatch z),⟨wa,k w1 F.n1,w2,λi t e h1 h2=>kk (w3 i t e h1 h2) (λ_ z=>nomatch z)⟩,
  ⟨sp,⟨ak,λp hp=>kk (tp p hp) (λ_ z=>nomatch z)⟩,rfl⟩,F.n1,F.n2,F.n3,F.f0,F.f1,F.f2,F.f3,F.f4,F.sa.upd F.f3⟩,λb o e _ n2 _ _=>k e n2⟩
def UH{st:FS}{m:Nat}{k s:Int}{a b:Addr}(h:bj (st.D m) (key k s)=some (.ref b)):cG st m k s a={st with W:=st.W++[(b,a,s)]}:=by
 unfold cG;rw[h]
def UI{st:FS}{m:Nat}{k s:Int}{a:Addr}(h:bj (st.D m) (key k s)=none):cG st m k s a={st with D:=λi=>if i=m then putK (st.D m) (key k s) (.ref a)else st.D i}:=by
 unfold cG;rw[h]
end My
namespace L2
open PySem PySem.Spec PyProof.Rows
def jS(J:It)(ix:List Nat)(te:TE)(σ:St)(H1:Hp)(Q:VK):Prop:=∀D,H1 D=none->∃W:Nat->Nat->List V->Hp->Prop,(∃m,W 0 m [] (upd H1 D (.lst [])))/\
 ∀i m ys H2,W i m ys H2->H2 D=some (.lst ys)/\((J.stop i H2/\Q (.ref D) H2)\/(J.go i H2/\ys.length<sizeLine/\∀x H',J.fO i H2 x H'->te (bQ ix (some x) σ) H' λy H3=>
  H3 D=some (.lst ys)/\∃m',m'<m/\W (i+1) m' (ys++[y]) (upd H3 D (.lst (ys++[y])))))
def oJ(J:It)(ix:List Nat)(tt:TT)(te:TE)(σ:St)(H1:Hp)(Q:VK):Prop:=∀D,H1 D=none->∃W:Nat->Nat->List V->Hp->Prop,(∃m,W 0 m [] (upd H1 D (.lst [])))/\
 ∀i m ys H2,W i m ys H2->H2 D=some (.lst ys)/\((J.stop i H2/\Q (.ref D) H2)\/(J.go i H2/\ys.length<sizeLine/\∀x H',J.fO i H2 x H'->tt (bQ ix (some x) σ) H' λb H3=>if b=true then te (bQ ix (some x) σ) H3 (λy H4=>
  H4 D=some (.lst ys)/\∃m',m'<m/\W (i+1) m' (ys++[y]) (upd H4 D (.lst (ys++[y]))))else∃m',m'<m/\W (i+1) m' ys H3))
def sQ(wi:TI)(ix:List Nat)(te:TE):TE:=λσ H Q=>wi σ H λJ H1=>Wr (jS J ix te σ H1 Q)
def Jo(wi:TI)(ix:List Nat)(tt:TT)(te:TE):TE:=λσ H Q=>wi σ H λJ H1=>Wr (oJ J ix tt te σ H1 Q)
def Cx.Cj(X:Cx)(N:List Str)(scope:Scope)(cl:List (Str×Addr))(x:Str)(C:Addr)(s:Shared)(H:Hp)(fp:List Addr):Cx:=
 {prog:=X.prog,w:=X.w,K:=X.K,mg:=X.mg,base:=X.base,A:=X.A,N:=N,s₀:=s,H₀:=H,env:=compEnvC scope ((x,C+1)::cl) C X.env,outer:=X.stack,stack:=X.stack,ex:=fp,fn:=λy=>y==x,calm:=X.calm,pn:=[],xe:=λ_ _=>False}
def UJ{M:Model}{A:Around}{E:Value->Shared->Prop}{s:Shared}{scope:Scope}{globals:Addr}{closure:List (Str×Addr)}{qual:Str}{env:Env}{Q:Env->Shared->Prop}
  (h:Q (newEnv scope s.heap.objs.size globals (cellsFrom (s.heap.objs.size+1) scope.names closure) qual none .none (some env) builtinsNs) {s with heap:=pushCells (s.heap.push {cls:=.type "dict",data:=.dict #[]}) scope.names}):
  wpAny M A (newFunctionEnv scope globals closure [] qual none .none (some env)) Q E s:=by
 simp only[newFunctionEnv,Option.isSome_some,if_true];refine wpAny_bind (wpAny_alloc ?_);refine wpAny_bind (wpAny_layCells _ (λname kind cells=>by cases hkc:kind==NameKind.cell<;>simp[hkc]) _ _ _ _ ?_);rw[show({s with heap:=s.heap.push {cls:=.type "dict",data:=.dict #[]}}:Shared).heap.objs.size=s.heap.objs.size+1 from Heap.size_push ..];exact wpAny_bind (by rw[List.forIn_nil];exact ZV (ZV h))
structure gV(X:Cx)(scope:Scope)(cl:List (Str×Addr))(x:Str)(fr:List Str)(ix:List Nat)(iter:Expr):Prop where
 adZ:closureFor scope X.env=pure cl
 calm:X.calm=true
 kind:scope.kind=.function
 cell:(scope.names.all λp=>p.2 != .cell)=true
 names:(scope.names.all λp=>p.2 != .local||scope.names.lookup p.1==some .local)=true
 hx:scope.names.lookup x=some .local
 hN:(x::fr).Nodup
 gi:ix.map (λi=>X.N[i]?)=fr.map some
 fr:(fr.all λy=>X.env.kindOf y==some .cell&&(relabel scope X.env).names.lookup y==some .cell)=true
 cl2:((relabel scope X.env).names.all λp=>(p.2 != .cell&&p.2 != .free)||(cl.lookup p.1).isSome)=true
 hs:∀x,foldedSetIterable iter X.env x=pure x
section
variable {X:Cx}{x:Str}{px pos:Pos}{elt iter:Expr}{scope:Scope}{cl:List (Str×Addr)}{fr:List Str}{ix:List Nat}{wi:TI}{te:TE}{tt:TT}{ifs:List Expr}
def gV.acT(k:gV X scope cl x fr ix iter):∀y∈scope.names,y.2≠.cell:=λy hy e=>by
 have:=ZC.mp k.cell y hy;rw[e]at this;exact absurd this (by decide)
def gV.abF(k:gV X scope cl x fr ix iter):∀y∈scope.names,y.2=.local->scope.names.lookup y.1=some .local:=λy hy e=>by
 have:=ZC.mp k.names y hy;rw[e]at this;simpa using this
def gV.CZ(k:gV X scope cl x fr ix iter):∀y∈fr,X.env.kindOf y=some .cell/\(relabel scope X.env).names.lookup y=some .cell:=λy hy=>by
 have:=ZC.mp k.fr y hy;rw[Bool.and_eq_true]at this;exact⟨eq_of_beq this.1,eq_of_beq this.2⟩
def gV.N9(k:gV X scope cl x fr ix iter):∀y,((relabel scope X.env).names.lookup y=some .cell\/(relabel scope X.env).names.lookup y=some .free)->∃c,cl.lookup y=some c:=λy hy=>by
 have:∃k,(relabel scope X.env).names.lookup y=some k/\(k=.cell\/k=.free):=by
  rcases hy with h|h
  ·exact⟨_,h,.inl rfl⟩
  ·exact⟨_,h,.inr rfl⟩
 obtain⟨k',e,qT⟩:=this;have:=ZC.mp k.cl2 (y,k') (ZM e)
 have h2:(cl.lookup y).isSome=true:=by
  rcases qT with rfl|rfl<;>simpa using this
 exact Option.isSome_iff_exists.mp h2
def qD(B:Cx->Prop)(ifs:List Expr)(tt:TT):Prop:=(ifs=[]/\tt=λ_ H Q=>Q true H)\/∃ct,ifs=[ct]/\∀Y,B Y->PT Y ct tt
def WT{B:Cx}{BB:Cx->Prop}{pins:List (Addr×Obj)}{σ:St}{H:Hp}{s:Shared}{Q:Bool->Hp->Prop}(pF:qD BB ifs tt)(hb:BB B)(I:Inv B pins σ H s)(h:tt σ H Q):
  wpAny (model B.prog B.w) B.A (forIn ifs true λc r=>if r=true then do
   let ok<-PySem.isTrue c B.env (eval c B.env)
   pure (ForInStep.yield ok)else pure (ForInStep.yield r)) (λb s'=>∃H',Inv B pins σ H' s'/\Q b H') B.xe s:=by
 rcases pF with⟨rfl,rfl⟩|⟨ct,rfl,ht⟩
 ·rw[List.forIn_nil];exact ZV ⟨_,I,h⟩
 ·exact wpAny_tests_one (wpAny_mono (ht B hb _ s _ H _ I h) (λbb s6 ⟨H6,I6,q6⟩=>⟨H6,I6,q6⟩) λ_ _ z=>z)
def HV{use:Option (Value->Sem Unit)}{Post:Value->Shared->Prop}{p0:Pos}(k:gV X scope cl x fr ix iter)(hi:PI X (.Name x px) iter wi)(aV:∀y c,cl.lookup y=some c->X.env.cells.lookup y=some c)
  (he:∀C s H fp,PE (X.cq (x::fr) scope cl C s H fp) elt te)(pF:qD (λY=>∃C s H fp,Y=X.cq (x::fr) scope cl C s H fp) ifs tt)
  {pins:List (Addr×Obj)}{s:Shared}{σ:St}{H:Hp}{Q:VK}(I:Inv X pins σ H s){R:It->Hp->Prop}(h:wi σ H R)(hR:∀J H1,R J H1->Wr (oJ J ix tt te σ H1 Q))
  (fin:∀(s2 s4:Shared) (H2 H3:Hp) (fp:List Addr) (C:Addr) (x':Option V),Inv X pins σ H2 s2->(∀b∈fp,iS X pins H2 b)->C=s2.heap.objs.size+1->(∀b o,s2.heap.get? b=some o->b≠C)->Inv (X.cq (x::fr) scope cl C s2 H2 fp) [] (bQ ix x' σ) H3 s4->Q (.ref s2.heap.objs.size) H3->
   ∀a,compPost (model X.prog X.w) X.A X.xe use Post (.ref s2.heap.objs.size) C (.ok a) s4):
  wpAny (model X.prog X.w) X.A (comprehension (.ListComp elt [⟨.Name x px,iter,ifs,0⟩] scope pos) scope X.env p0 (newList []) false (eval iter X.env) use) Post X.xe s:=by
 refine wpAny_comprehension_free rfl k.hs k.adZ k.kind k.abF (aA (hi pins s σ H _ I h) λxv s1 h1=>aA h1 λpB s2 h2=>?_);obtain⟨it,fp,tn,J,H2,e,I2,T,gI,f2,q⟩:=h2;have q:=hR J H2 q;subst e;refine wpAny_newObj_type (wpAny_newFunctionEnv k.acT (by intro y hy;simp at hy) (λh₁ dE dF=>?_) k.kind);dsimp only at dE dF⊢;have iC:H2 s2.heap.objs.size=none:=I2.ao.fresh (Y3 _);obtain⟨W,⟨m0,w0⟩,turn⟩:=q.get s2.heap.objs.size iC;generalize fA:s2.heap.push {cls:=.type "list",dict:=none,data:=.seq ([]:List Value).toArray}=HL at dE dF⊢;have hC:HL.objs.size=s2.heap.objs.size+1:=by rw[<-fA,Heap.size_push]
 have old:∀b o,s2.heap.get? b=some o->h₁.get? b=some o:=λb o e=>(dF.2 b (by rw[hC];exact Zn (ZW (Zi e)))).trans (Y8 _ (fA▸Y8 _ e))
 have j8:h₁.get? s2.heap.objs.size=some {cls:=.type "list",data:=.seq ([]:List Value).toArray}:=
  (dF.2 _ (by rw[hC];exact Zn (Nat.lt_succ_self _))).trans (Y8 _ (fA▸Zq _ rfl))
 generalize lY:HL.objs.size=C at dE dF⊢;rw[lY]at hC;have bC:∀b o,s2.heap.get? b=some o->b≠C:=λb o e=>by rw[hC];exact Zn (ZW (Zi e))
 have wX:∀b∈bW X.stack,∃o,s2.heap.get? b=some o:=λb hb=>by
  obtain⟨_,o,ho,_⟩:=I2.stack.mem hb;exact⟨o,ho⟩
 have eX:∀b∈fp,∃o,s2.heap.get? b=some o/\∀v,o.data≠.cell v:=λb hb=>T.obj 0 _ gI b hb
 have ik:∀b∈fp,b∉bW X.stack:=λb hb z=>by
  rcases Y5.mp (I2.kE b z)with z|z
  ·exact(f2 b hb).2.1 z
  ·exact(f2 b hb).2.2.1 z
 let B:=X.cq (x::fr) scope cl C s2 H2 fp
 have lZ:B.Ok:=by
  refine⟨I2.ok.mod,k.kind,I2.ok.glob,I2.ok.blt,(by show s2.heap.objs.size<=C;rw[hC];exact Nat.le_succ _),λy z c e1 e2=>I2.ok.inj y z c (aV _ _ e1) (aV _ _ e2),λy hy=>k.N9 y hy,λy c z=>absurd (show false=true from z) Zk,
   λ_=>I2.ok.hd k.calm,I2.ok.frames,.inl rfl,λb hb=>⟨?_,λy c e=>(f2 b hb).2.2.2.2.1 y c (aV _ _ e)⟩,I2.bs,ZQ I2.ok.iW I2.sz,λb o e hb=>?_,λb hb=>ik b hb,I2.stack,I2.oH⟩
  ·obtain⟨o,e,_⟩:=eX b hb;exact bC b o e
  ·rcases(f2 b hb).2.2.2.1 with z|z
   ·exact I2.ok.kL b o e z
   ·exact absurd (Zv (Zi (I2.ok.bs b o e).1) z) (Z2 _)
 have IB:∀tk,Inv B [] (bQ ix none σ) (upd H2 s2.heap.objs.size (.lst [])) {s2 with heap:=h₁,toks:=tk}:=λtk=>by
  refine⟨lZ,rfl,I2.bare,Un.laid old (Y3 _) iC,⟨_,dE,λj y v e1 e2 e3=>?_⟩,λy c e=>?_,?_,λy c e=>?_,(λp hp=>nomatch hp),I2.ao.laid old (Y3 _) ⟨Zp _,[],0,.nil,j8⟩,?_⟩
  ·cases j with
   |zero=>cases(show(some none:Option (Option V))=some (some v)from e2)
   |succ j=>
    have e1:fr[j]?=some y:=e1;have e2:(ix.map λi=>(σ[i]?).join)[j]?=some (some v):=e2;have hj:=congrArg (λl=>l[j]?) k.gi;simp only[Zf,e1]at hj;rw[Zf]at e2;cases j9:ix[j]? with
    |none=>rw[j9]at e2;cases e2
    |some i=>
     rw[j9]at hj e2;have hj:X.N[i]?=some y:=Zg hj;have e2:(σ[i]?).join=some v:=Zg e2
     have e2:σ[i]?=some (some v):=by
      cases z:σ[i]? with
      |none=>rw[z]at e2;cases e2
      |some z'=>rw[z]at e2;rw[show z'=some v from e2]
     obtain⟨m,hn,hl⟩:=I2.loc;have hk:=k.CZ y (Y6 e1);obtain⟨u,ru,lk⟩:=hl i y v hj e2 (.inr (.inl hk.1));refine⟨u,ru,.inr ⟨.inl hk.2,?_⟩⟩;rcases lk with⟨z,_⟩|⟨_,c,ec,⟨oc,bX,bS⟩⟩
     ·rw[hk.1]at z;cases z
     ·obtain⟨c',ka⟩:=k.N9 y (.inl hk.2);have:=aV _ _ ka;rw[ec]at this;cases this;exact⟨c,ka,oc,old c oc bX,bS⟩
  ·obtain⟨v,oc,bX,bS⟩:=I2.cell y c (aV _ _ e);exact⟨v,oc,old c oc bX,bS⟩
  ·show upd H2 s2.heap.objs.size (.lst []) C=none;rw[ai (by rw[hC];exact Nat.succ_ne_self _)];exact I2.ao.fresh (by rw[hC];exact Nat.le_succ _)
  ·obtain⟨v,oc,bX,bS⟩:=I2.cell y c (aV _ _ e);rw[ai (Zn (Zi bX))];exact I2.fj y c (aV _ _ e)
  ·show(bQ ix none σ).length=(x::fr).length;have:=congrArg List.length k.gi;simp only[Y1]at this;simp[bQ,this]
 have gj:∀tk,tn 0 ({s2 with heap:=h₁,toks:=tk}:Shared).heap:=λ_=>T.keep 0 _ _ gI λb hb o e=>old b o e
 have fB:∀{H':Hp},(∀b∈fp,H' b=none)->∀b∈fp,iS B [] H' b:=λhn b hb=>by
  obtain⟨o,e,_⟩:=eX b hb;exact⟨hn b hb,bC b o e,ik b hb,.inl hb,λy c ec=>(f2 b hb).2.2.2.2.1 y c (aV _ _ ec),(λp hp=>nomatch hp)⟩
 have loop:∀tk,codeAny (model X.prog X.w) X.A (.compLoop (.ListComp elt [⟨.Name x px,iter,ifs,0⟩] scope pos) 0 (.ref it) (.ref s2.heap.objs.size) (compEnvC scope cl C X.env))
   (compPost (model X.prog X.w) X.A X.xe use Post (.ref s2.heap.objs.size) C) {s2 with heap:=h₁,toks:=tk}:=λtk=>by
  refine codeAny_loop rfl (λn s'=>∃i ys x' H',Inv B [] (bQ ix x' σ) H' s'/\tn i s'.heap/\(∀b∈fp,H' b=none)/\W i n ys H') (λn s3 hI=>?_) m0 ⟨0,[],none,_,IB tk,gj tk,λb hb=>?_,w0⟩
  ·obtain⟨i,ys,x',H3,I3,fu,cA,w3⟩:=hI;show wpAny _ _ ((compTurn (.ListComp elt [⟨.Name x px,iter,ifs,0⟩] scope pos) 0 (.ref it) (.ref s2.heap.objs.size) (compEnvC scope cl C X.env)).onRaise (λx=>do noteFrame x (compEnvC scope cl C X.env);theTreesLotGoes x)) _ _ s3;refine wpAny_noted ?_;rw[compTurn_list];obtain⟨CT,alt⟩:=turn i n ys H3 w3;refine wpAny_bind (wpAny_standAt (wpAny_bind ?_));rcases alt with⟨stop,qn⟩|⟨go,hlen,step⟩
   ·refine aA (T.done B rfl rfl rfl k.calm i [] s3 _ H3 _ I3 (fB cA) fu stop) λr s4 ⟨hr,I4⟩=>?_;subst hr;refine ZV ?_;exact fin s2 s4 H2 H3 fp C _ I2 f2 hC bC I4 qn _
   ·refine aA (T.item B rfl rfl rfl k.calm i [] s3 _ H3 _ I3 (fB cA) fu go) λr s4 ⟨u,hr,h4⟩=>?_;subst hr;refine wpAny_bind (aA h4 λ_ s5 ⟨xv,H5,I5,r5,y5,dJ,j4⟩=>?_);have j5:=I5.pinned (fB j4) (T.obj _ _ dJ);refine wpAny_bind (wpAny_assign_Name (lF (i:=0) (X:=B) j5 k.hN rfl (.inl (lookup_relabel_local k.hx)) r5 (λs6 I6=>?_) (.inr (lookup_relabel_local k.hx))));have I6:Inv B ([]++jO fp s5.heap) (bQ ix (some xv) σ) H5 s6:=I6;refine wpAny_bind (wpAny_mono (WT pF ⟨C,s2,H2,fp,rfl⟩ I6 (step xv H5 y5)) (λbb w6 ⟨H6,w9,q6⟩=>?_) λ_ _ z=>Zu z)
    have kp:∀{st:St}{H8:Hp}{s8:Shared},Inv B (([]:List (Addr×Obj))++jO fp s5.heap) st H8 s8->tn (i+1) s8.heap/\∀b∈fp,H8 b=none:=λI8=>⟨T.keep _ _ _ dJ λb hb o e=>(I8.pin (b,o) (Zb _ (Zb _ (g7 hb e)))).1,λb hb=>by
     obtain⟨o,e,d⟩:=T.obj _ _ dJ b hb;exact(I8.pin (b,o) (Zb _ (Zb _ (g7 hb e)))).2.1⟩
    cases bb with
    |false=>
     rw[if_neg (by decide)]at q6;obtain⟨m',hm,w7⟩:=q6;exact ZV ⟨rfl,m',hm,i+1,ys,some xv,_,w9.kr,(kp w9).1,(kp w9).2,w7⟩
    |true=>
     rw[if_pos rfl]at q6;refine wpAny_bind (wpAny_bind (wpAny_mono (he C s2 H2 fp _ w6 _ H6 _ w9 q6) (λv s7 ⟨y,H7,I7,r7,tW,m',hm,w7⟩=>?_) λ_ _ z=>Zu z))
     refine wpAny_bind (wpAny_mono (dZ (X:=B) _ s7 _ H7 (.ref s2.heap.objs.size) [y] (.ref s2.heap.objs.size) [v] (λ_ H8=>H8=upd H7 s2.heap.objs.size (.lst (ys++[y]))) I7 rfl (.cons r7 .nil) ⟨_,ys,y,rfl,rfl,tW,hlen,rfl⟩)
      (λ_ s8 ⟨_,H8,I8,_,e8⟩=>?_) λ_ _ z=>Zu z)
     subst e8;exact ZV (ZV ⟨rfl,m',hm,i+1,ys++[y],some xv,_,I8.kr,(kp I8).1,(kp I8).2,w7⟩)
  ·obtain⟨o,e,_⟩:=eX b hb;rw[ai (Zn (Zi e))];exact(f2 b hb).1
 exact codeAny_compStart_list (loop _) (T.self _ 0 _ _ _ (gj _) (loop _))
def HW{J:It}{σ:St}{H:Hp}{Q:VK}(h:Wr (jS J ix te σ H Q)):Wr (oJ J ix (λ_ H Q=>Q true H) te σ H Q):=⟨λD hD=>by
 obtain⟨W,w0,turn⟩:=h.get D hD;refine⟨W,w0,λi m ys H2 w=>?_⟩;obtain⟨a,b|⟨c,d,e⟩⟩:=turn i m ys H2 w
 ·exact⟨a,.inl b⟩
 ·exact⟨a,.inr ⟨c,d,λx H' y=>by
  show(if true=true then _ else _);rw[if_pos rfl];exact e x H' y⟩⟩⟩
def Mu(k:gV X scope cl x fr ix iter)(hi:PI X (.Name x px) iter wi)(aV:∀y c,cl.lookup y=some c->X.env.cells.lookup y=some c)
  (he:∀C s H fp,PE (X.cq (x::fr) scope cl C s H fp) elt te)(pF:qD (λY=>∃C s H fp,Y=X.cq (x::fr) scope cl C s H fp) ifs tt)
  {RR:St->VK->It->Hp->Prop}(hR:∀σ Q J H1,RR σ Q J H1->Wr (oJ J ix tt te σ H1 Q)):PE X (.ListComp elt [⟨.Name x px,iter,ifs,0⟩] scope pos) (λσ H Q=>wi σ H (RR σ Q)):=by
 intro pins s σ H Q I h;rw[eval_ListComp];refine HV k hi aV he pF I h (hR σ Q) λs2 s4 H2 H3 fp C x' I2 f2 hC bC I4 qn _=>?_;obtain⟨m4,kb,_⟩:=I4.loc;refine⟨m4,kb,λh' sb=>?_⟩
 have un:Un (bW X.stack) fp H2 H3 s2.heap h':=by
  have u:=I4.base;refine⟨λb o e n hb hx=>(sb.2 b (bC b o e)).trans (u.keep b o e n hb hx),λb o e n hb hx=>?_,u.free,λb o e hx=>?_,u.gB,u.fY,u.gC⟩
  ·obtain⟨sl,e1⟩:=u.slot b o e n hb hx;exact⟨sl,(sb.2 b (bC b o e)).trans e1⟩
  ·obtain⟨o',e1⟩:=u.there b o e hx;exact⟨o',(sb.2 b (bC b o e)).trans e1⟩
 exact⟨.ref s2.heap.objs.size,H3,I2.nu (s':={s4 with heap:=h'}) (ch:=fp) I4.os un (I4.ao.sameBut I4.free sb) I4.bare (λb hb=>⟨(f2 b hb).2.2.2.1,(f2 b hb).2.1,(f2 b hb).2.2.2.2⟩),rfl,qn⟩
def Mv{ct:Expr}(ht:∀C s H fp,PT (X.cq (x::fr) scope cl C s H fp) ct tt):qD (λY=>∃C s H fp,Y=X.cq (x::fr) scope cl C s H fp) [ct] tt:=.inr ⟨ct,rfl,λY ⟨C,s,H,fp,e⟩=>by subst e;exact ht C s H fp⟩
def HX{ct:Expr}(fr:List Str)(ix:List Nat)(hi:PI X (.Name x px) iter wi)(ht:∀C s H fp,PT (X.cq (x::fr) scope cl C s H fp) ct tt)(he:∀C s H fp,PE (X.cq (x::fr) scope cl C s H fp) elt te)(aV:∀y c,cl.lookup y=some c->X.env.cells.lookup y=some c)
  (k:gV X scope cl x fr ix iter:=by exact⟨rfl,rfl,rfl,rfl,rfl,rfl,by decide+kernel,rfl,rfl,rfl,λ_=>rfl⟩):
  PE X (.ListComp elt [⟨.Name x px,iter,[ct],0⟩] scope pos) (Jo wi ix tt te):=Mu k hi aV he (Mv ht) λ_ _ _ _ h=>h
def KC{B:Cx->Prop}:qD B [] (λ_ H Q=>Q true H):=.inl ⟨rfl,rfl⟩
def gL(fr:List Str)(ix:List Nat)(hi:PI X (.Name x px) iter wi)(he:∀C s H fp,PE (X.cq (x::fr) scope cl C s H fp) elt te)(aV:∀y c,cl.lookup y=some c->X.env.cells.lookup y=some c)
  (k:gV X scope cl x fr ix iter:=by exact⟨rfl,rfl,rfl,rfl,rfl,rfl,by decide+kernel,rfl,rfl,rfl,λ_=>rfl⟩):
  PE X (.ListComp elt [⟨.Name x px,iter,[],0⟩] scope pos) (sQ wi ix te):=Mu k hi aV he KC λ_ _ _ _ h=>HW h
end
section
variable {X:Cx}
def UK{x:Str}{px pos:Pos}{elt iter:Expr}{scope:Scope}{cl:List (Str×Addr)}{fr:List Str}{ix:List Nat}{wi:TI}{te:TE}
  (hc:X.calm=true)(hi:PI X (.Name x px) iter wi)
  (gS:closureFor scope X.env=pure cl)(de:scope.kind=.function)(Bb:∀n,cellsFrom n scope.names cl=(x,n)::cl)(Bz:∀h:Heap,pushCells h scope.names=h.push {cls:=.type "cell",data:=.cell none})(Ck:cl.lookup x=none)
  (gO:∀y∈scope.names,y.2=.local->scope.names.lookup y.1=some .local)(hx:(relabel scope X.env).names.lookup x=some .cell)
  (hN:(x::fr).Nodup)(gi:ix.map (λi=>X.N[i]?)=fr.map some)
  (eB:∀y∈fr,X.env.kindOf y=some .cell/\(relabel scope X.env).names.lookup y=some .cell)
  (aV:∀y c,cl.lookup y=some c->X.env.cells.lookup y=some c)
  (fK:∀y,((relabel scope X.env).names.lookup y=some .cell\/(relabel scope X.env).names.lookup y=some .free)->y=x\/∃c,cl.lookup y=some c)
  (he:∀C s H fp,PE (X.Cj (x::fr) scope cl x C s H fp) elt te)
  (hs:∀x,foldedSetIterable iter X.env x=pure x:=by intro _;rfl):
  PE X (.ListComp elt [⟨.Name x px,iter,[],0⟩] scope pos) (sQ wi ix te):=by
 intro pins s σ H Q I h;rw[eval_ListComp];refine wpAny_comprehension_free (use:=none) rfl hs gS de gO (aA (hi pins s σ H _ I h) λxv s1 h1=>aA h1 λpB s2 h2=>?_);obtain⟨it,fp,tn,J,H2,e,I2,T,gI,f2,q⟩:=h2;subst e;refine wpAny_newObj_type (UJ ?_);rw[Bb,Bz];have iC:H2 s2.heap.objs.size=none:=I2.ao.fresh (Y3 _);obtain⟨W,⟨m0,w0⟩,turn⟩:=q.get s2.heap.objs.size iC;generalize fA:s2.heap.push {cls:=.type "list",dict:=none,data:=.seq ([]:List Value).toArray}=HL;have hC:HL.objs.size=s2.heap.objs.size+1:=by rw[<-fA,Heap.size_push]
 have dE:((HL.push {cls:=.type "dict",data:=.dict #[]}).push {cls:=.type "cell",data:=.cell none}).Ns HL.objs.size (λ_=>none):=(Heap.Ns.new HL (.type "dict")).keeps λb o e=>Y8 _ e
 have Cm:((HL.push {cls:=.type "dict",data:=.dict #[]}).push {cls:=.type "cell",data:=.cell none}).get? (HL.objs.size+1)=some {cls:=.type "cell",data:=.cell none}:=by
  rw[<-Heap.size_push HL {cls:=.type "dict",data:=.dict #[]}];exact Zq _ rfl
 have old:∀b o,s2.heap.get? b=some o->((HL.push {cls:=.type "dict",data:=.dict #[]}).push {cls:=.type "cell",data:=.cell none}).get? b=some o:=λb o e=>Y8 _ (Y8 _ (fA▸Y8 _ e))
 have j8:((HL.push {cls:=.type "dict",data:=.dict #[]}).push {cls:=.type "cell",data:=.cell none}).get? s2.heap.objs.size=some {cls:=.type "list",data:=.seq ([]:List Value).toArray}:=
  Y8 _ (Y8 _ (fA▸Zq _ rfl))
 generalize hH1:((HL.push {cls:=.type "dict",data:=.dict #[]}).push {cls:=.type "cell",data:=.cell none})=h₁ at dE Cm old j8;show codeAny _ _ (.compStart _ 0 _ _ (compEnvC scope ((x,HL.objs.size+1)::cl) HL.objs.size X.env)) (compPost _ _ _ none _ _ HL.objs.size) {s2 with heap:=h₁};generalize lY:HL.objs.size=C at dE Cm⊢;rw[lY]at hC;have bC:∀b o,s2.heap.get? b=some o->b≠C:=λb o e=>by rw[hC];exact Zn (ZW (Zi e))
 have C0:∀b o,s2.heap.get? b=some o->C+1≠b:=λb o e=>Nat.ne_of_gt (Nat.lt_trans (Zi e) (by rw[hC];exact ZW (Nat.lt_succ_self _)))
 have pG:∀y c,((x,C+1)::cl).lookup y=some c->(y=x/\c=C+1)\/(y≠x/\cl.lookup y=some c):=λy c e=>by
  rw[List.lookup_cons]at e;cases z:y==x with
  |true=>rw[z]at e;exact .inl ⟨eq_of_beq z,(Zg e).symm⟩
  |false=>rw[z]at e;exact .inr ⟨λq=>by rw[q]at z;simp at z,e⟩
 have lkx:((x,C+1)::cl).lookup x=some (C+1):=by rw[List.lookup_cons];simp
 have OS:∀y c,cl.lookup y=some c->((x,C+1)::cl).lookup y=some c:=λy c e=>by
  rw[List.lookup_cons];cases z:y==x with
  |true=>rw[eq_of_beq z,Ck]at e;cases e
  |false=>exact e
 have Oa:∀y c,cl.lookup y=some c->C+1≠c:=λy c e=>by
  obtain⟨v,oc,bX,_⟩:=I2.cell y c (aV _ _ e);exact C0 c oc bX
 have wX:∀b∈bW X.stack,∃o,s2.heap.get? b=some o:=λb hb=>by
  obtain⟨_,o,ho,_⟩:=I2.stack.mem hb;exact⟨o,ho⟩
 have eX:∀b∈fp,∃o,s2.heap.get? b=some o/\∀v,o.data≠.cell v:=λb hb=>T.obj 0 _ gI b hb
 have ik:∀b∈fp,b∉bW X.stack:=λb hb z=>by
  rcases Y5.mp (I2.kE b z)with z|z
  ·exact(f2 b hb).2.1 z
  ·exact(f2 b hb).2.2.1 z
 let B:=X.Cj (x::fr) scope cl x C s2 H2 fp
 have lZ:B.Ok:=by
  refine⟨I2.ok.mod,de,I2.ok.glob,I2.ok.blt,(by show s2.heap.objs.size<=C;rw[hC];exact Nat.le_succ _),λy z c e1 e2=>?inj,λy hy=>?has,λy c z e=>?cab,
   λ_=>I2.ok.hd hc,I2.ok.frames,.inl rfl,λb hb=>⟨?fb,λy c e=>?fc⟩,I2.bs,ZQ I2.ok.iW I2.sz,λb o e hb=>?bs,λb hb=>ik b hb,I2.stack,I2.oH⟩
  case inj=>
   rcases pG _ _ e1 with⟨q1,q2⟩|⟨q1,q2⟩<;>rcases pG _ _ e2 with⟨q3,q4⟩|⟨q3,q4⟩
   ·rw[q1,q3]
   ·exact absurd q2.symm (Oa _ _ q4)
   ·exact absurd q4.symm (Oa _ _ q2)
   ·exact I2.ok.inj y z c (aV _ _ q2) (aV _ _ q4)
  case has=>
   rcases fK y hy with q|⟨c,q⟩
   ·rw[q];exact⟨_,lkx⟩
   ·exact⟨c,OS _ _ q⟩
  case cab=>
   rcases pG _ _ e with⟨q1,q2⟩|⟨q1,q2⟩
   ·rw[q2];show s2.heap.objs.size<=C+1;rw[hC];exact Nat.le_succ_of_le (Nat.le_succ _)
   ·exact absurd (eq_of_beq z) q1
  case fb=>
   obtain⟨o,e,_⟩:=eX b hb;exact bC b o e
  case fc=>
   rcases pG _ _ e with⟨q1,q2⟩|⟨q1,q2⟩
   ·obtain⟨o,e,_⟩:=eX b hb;rw[q2];exact C0 b o e
   ·exact(f2 b hb).2.2.2.2.1 y c (aV _ _ q2)
  case bs=>
   rcases(f2 b hb).2.2.2.1 with z|z
   ·exact I2.ok.kL b o e z
   ·exact absurd (Zv (Zi (I2.ok.bs b o e).1) z) (Z2 _)
 have IB:∀tk,Inv B [] (bQ ix none σ) (upd H2 s2.heap.objs.size (.lst [])) {s2 with heap:=h₁,toks:=tk}:=λtk=>by
  refine⟨lZ,rfl,I2.bare,Un.laid old (Y3 _) iC,⟨_,dE,λj y v e1 e2 e3=>?_⟩,λy c e=>?_,?_,λy c e=>?_,(λp hp=>nomatch hp),I2.ao.laid old (Y3 _) ⟨Zp _,[],0,.nil,j8⟩,?_⟩
  ·cases j with
   |zero=>cases(show(some none:Option (Option V))=some (some v)from e2)
   |succ j=>
    have e1:fr[j]?=some y:=e1;have e2:(ix.map λi=>(σ[i]?).join)[j]?=some (some v):=e2;have hj:=congrArg (λl=>l[j]?) gi;simp only[Zf,e1]at hj;rw[Zf]at e2;cases j9:ix[j]? with
    |none=>rw[j9]at e2;cases e2
    |some i=>
     rw[j9]at hj e2;have hj:X.N[i]?=some y:=Zg hj;have e2:(σ[i]?).join=some v:=Zg e2
     have e2:σ[i]?=some (some v):=by
      cases z:σ[i]? with
      |none=>rw[z]at e2;cases e2
      |some z'=>rw[z]at e2;rw[show z'=some v from e2]
     obtain⟨m,hn,hl⟩:=I2.loc;have hk:=eB y (Y6 e1);obtain⟨u,ru,lk⟩:=hl i y v hj e2 (.inr (.inl hk.1));refine⟨u,ru,.inr ⟨.inl hk.2,?_⟩⟩;rcases lk with⟨z,_⟩|⟨_,c,ec,⟨oc,bX,bS⟩⟩
     ·rw[hk.1]at z;cases z
     ·rcases fK y (.inl hk.2)with q|⟨c',ka⟩
      ·rw[q]at e1;exact absurd (Y6 e1) (ZG.mp hN).1
      ·have:=aV _ _ ka;rw[ec]at this;cases this;exact⟨c,OS _ _ ka,oc,old c oc bX,bS⟩
  ·rcases pG _ _ e with⟨q1,q2⟩|⟨q1,q2⟩
   ·rw[q2];exact⟨_,_,Cm,rfl⟩
   ·obtain⟨v,oc,bX,bS⟩:=I2.cell y c (aV _ _ q2);exact⟨v,oc,old c oc bX,bS⟩
  ·show upd H2 s2.heap.objs.size (.lst []) C=none;rw[ai (by rw[hC];exact Nat.succ_ne_self _)];exact I2.ao.fresh (by rw[hC];exact Nat.le_succ _)
  ·rcases pG _ _ e with⟨q1,q2⟩|⟨q1,q2⟩
   ·rw[q2,ai (by rw[hC];exact Nat.ne_of_gt (ZW (Nat.lt_succ_self _)))];exact I2.ao.fresh (by rw[hC];exact Nat.le_succ_of_le (Nat.le_succ _))
   ·obtain⟨v,oc,bX,bS⟩:=I2.cell y c (aV _ _ q2);rw[ai (Zn (Zi bX))];exact I2.fj y c (aV _ _ q2)
  ·show(bQ ix none σ).length=(x::fr).length;have:=congrArg List.length gi;simp only[Y1]at this;simp[bQ,this]
 have gj:∀tk,tn 0 ({s2 with heap:=h₁,toks:=tk}:Shared).heap:=λ_=>T.keep 0 _ _ gI λb hb o e=>old b o e
 have fB:∀{H':Hp},(∀b∈fp,H' b=none)->∀b∈fp,iS B [] H' b:=λhn b hb=>by
  obtain⟨o,e,_⟩:=eX b hb;refine⟨hn b hb,bC b o e,ik b hb,.inl hb,λy c ec=>?_,(λp hp=>nomatch hp)⟩;rcases pG _ _ ec with⟨q1,q2⟩|⟨q1,q2⟩
  ·rw[q2];exact C0 b o e
  ·exact(f2 b hb).2.2.2.2.1 y c (aV _ _ q2)
 have loop:∀tk,codeAny (model X.prog X.w) X.A (.compLoop (.ListComp elt [⟨.Name x px,iter,[],0⟩] scope pos) 0 (.ref it) (.ref s2.heap.objs.size) (compEnvC scope ((x,C+1)::cl) C X.env))
   (compPost (model X.prog X.w) X.A X.xe none (EP X pins σ Q) (.ref s2.heap.objs.size) C) {s2 with heap:=h₁,toks:=tk}:=λtk=>by
  refine codeAny_loop rfl (λn s'=>∃i ys x' H',Inv B [] (bQ ix x' σ) H' s'/\tn i s'.heap/\(∀b∈fp,H' b=none)/\W i n ys H') (λn s3 hI=>?_) m0 ⟨0,[],none,_,IB tk,gj tk,λb hb=>?_,w0⟩
  ·obtain⟨i,ys,x',H3,I3,fu,cA,w3⟩:=hI;show wpAny _ _ ((compTurn (.ListComp elt [⟨.Name x px,iter,[],0⟩] scope pos) 0 (.ref it) (.ref s2.heap.objs.size) (compEnvC scope ((x,C+1)::cl) C X.env)).onRaise (λzz=>do noteFrame zz (compEnvC scope ((x,C+1)::cl) C X.env);theTreesLotGoes zz)) _ _ s3;refine wpAny_noted ?_;rw[compTurn_list1];obtain⟨CT,alt⟩:=turn i n ys H3 w3;refine wpAny_bind (wpAny_standAt (wpAny_bind ?_));rcases alt with⟨stop,qn⟩|⟨go,hlen,step⟩
   ·refine aA (T.done B rfl rfl rfl hc i [] s3 _ H3 _ I3 (fB cA) fu stop) λr s4 ⟨hr,I4⟩=>?_;subst hr;refine ZV ?_;obtain⟨m4,kb,_⟩:=I4.loc;refine⟨m4,kb,λh' sb=>?_⟩
    have un:Un (bW X.stack) fp H2 H3 s2.heap h':=by
     have u:=I4.base;refine⟨λb o e n hb hx=>(sb.2 b (bC b o e)).trans (u.keep b o e n hb hx),λb o e n hb hx=>?_,u.free,λb o e hx=>?_,u.gB,u.fY,u.gC⟩
     ·obtain⟨sl,e1⟩:=u.slot b o e n hb hx;exact⟨sl,(sb.2 b (bC b o e)).trans e1⟩
     ·obtain⟨o',e1⟩:=u.there b o e hx;exact⟨o',(sb.2 b (bC b o e)).trans e1⟩
    refine⟨.ref s2.heap.objs.size,H3,I2.nu (s':={s4 with heap:=h'}) (ch:=fp) I4.os un (I4.ao.sameBut I4.free sb) I4.bare (λb hb=>⟨(f2 b hb).2.2.2.1,(f2 b hb).2.1,(f2 b hb).2.2.2.2⟩),rfl,qn⟩
   ·refine aA (T.item B rfl rfl rfl hc i [] s3 _ H3 _ I3 (fB cA) fu go) λr s4 ⟨u,hr,h4⟩=>?_;subst hr;refine wpAny_bind (aA h4 λ_ s5 ⟨xv,H5,I5,r5,y5,dJ,j4⟩=>?_);have j5:=I5.pinned (fB j4) (T.obj _ _ dJ);refine wpAny_bind (wpAny_assign_Name (lF (i:=0) (X:=B) j5 hN rfl (.inr hx) r5 (λs6 I6=>?_) (.inl (beq_self_eq_true x))));have I6:Inv B ([]++jO fp s5.heap) (bQ ix (some xv) σ) H5 s6:=I6;refine wpAny_bind (wpAny_bind (wpAny_mono (he C s2 H2 fp _ s6 _ H5 _ I6 (step xv H5 y5)) (λv s7 ⟨y,H7,I7,r7,tW,m',hm,w7⟩=>?_) λ_ _ z=>Zu z))
    refine wpAny_bind (wpAny_mono (dZ (X:=B) _ s7 _ H7 (.ref s2.heap.objs.size) [y] (.ref s2.heap.objs.size) [v] (λ_ H8=>H8=upd H7 s2.heap.objs.size (.lst (ys++[y]))) I7 rfl (.cons r7 .nil) ⟨_,ys,y,rfl,rfl,tW,hlen,rfl⟩)
     (λ_ s8 ⟨_,H8,I8,_,e8⟩=>?_) λ_ _ z=>Zu z)
    subst e8;refine ZV (ZV ⟨rfl,m',hm,i+1,ys++[y],some xv,_,I8.kr,T.keep _ _ _ dJ λb hb o e=>(I8.pin (b,o) (Zb _ (Zb _ (g7 hb e)))).1,λb hb=>?_,w7⟩);obtain⟨o,e,d⟩:=T.obj _ _ dJ b hb;exact(I8.pin (b,o) (Zb _ (Zb _ (g7 hb e)))).2.1
  ·obtain⟨o,e,_⟩:=eX b hb;rw[ai (Zn (Zi e))];exact(f2 b hb).1
 exact codeAny_compStart_list (loop _) (T.self _ 0 _ _ _ (gj _) (loop _))
end
end L2
namespace My
open PySem L2
def bz.pop{n:Nat}{rows:List Addr}{rd:Addr->List Int}{st:FS}{W:List (Addr×Addr×Int)}{e:Addr×Addr×Int}(h:bz n rows rd st)(hW:st.W=W++[e]):bz n rows rd {st with W:=W}/\A9 rows rd st.l e:=
 ⟨⟨h.aD,h.iF,h.i9,h.nd,λx hx=>h.wt x (by rw[hW];exact Zc _ hx)⟩,h.wt e (by rw[hW];exact Zb _ (Y2.mpr rfl))⟩
def bz.t6{n:Nat}{rows:List Addr}{rd:Addr->List Int}{st:FS}(h:bz n rows rd st)(s:List (List Int)):bz n rows rd {st with ss:=s}:=⟨h.aD,h.iF,h.i9,h.nd,h.wt⟩
def bz.lay{n:Nat}{rows:List Addr}{rd:Addr->List Int}{st:FS}(R:Rows n rows rd)(h:bz n rows rd st){a:Addr}(ha:a∈rows):
  bz n rows rd (gE rd st a)/\(gE rd st a).l=st.l/\(gE rd st a).ss=st.ss/\(gE rd st a).W.length<=st.W.length+2:=by
 have row:=R.row a ha;have ja:=h.put (kJ h.aD (row.mk 1).2).1 ha (.inl rfl:gY 1) (h.iF _ (row.mk 1).2).symm;have kg:=ja.put (kJ ja.aD (row.mk (-1)).2).1 ha (.inr rfl:gY (-1)) (ja.iF _ (row.mk (-1)).2).symm;refine⟨kg,(oU ..).trans (oU ..),(Ar ..).trans (Ar ..),?_⟩;have w1:=vH st (at_ st.l (My.mk (rd a) 1)) ((rd a).getD 2 0) 1 a;have w2:=vH (cG st (at_ st.l (My.mk (rd a) 1)) ((rd a).getD 2 0) 1 a) (at_ (cG st (at_ st.l (My.mk (rd a) 1)) ((rd a).getD 2 0) 1 a).l (My.mk (rd a) (-1))) ((rd a).getD 2 0) (-1) a;unfold gE;dsimp only;omega
def jD(n:Nat)(start:Ps):FS:={l:=fN n start,D:=λ_=>[],W:=[],ss:=[]}
def sD{n a:Nat}(h:a<n):(jW n).getD a 0=a:=by
 unfold jW;simp[List.getD,Zf,List.getElem?_range h]
def Mw{n:Nat}{rows:List Addr}{rd:Addr->List Int}{start:Ps}(h:∀p∈start,fV n p.2):bz n rows rd (jD n start):=by
 refine⟨Ku _ h,?_,λm hm e he=>(nomatch he),λm hm=>List.nodup_nil,λe he=>(nomatch he)⟩;show∀a,a<n->(fN n start).getD (at_ (fN n start) a) 0=(fN n start).getD a 0
 suffices∀(start:Ps) (l:List Int),c7 n l->(∀a,a<n->l.getD (at_ l a) 0=l.getD a 0)->(∀p∈start,fV n p.2)->∀a,a<n->(start.foldl (λl p=>fC l p.2) l).getD (at_ (start.foldl (λl p=>fC l p.2) l) a) 0=(start.foldl (λl p=>fC l p.2) l).getD a 0 from
  this start (jW n) (Ap n) (λa ha=>by
   have e:=sD ha;have:at_ (jW n) a=a:=by unfold at_;rw[e];simp
   rw[this]) h
 clear h start;intro start
 induction start with
 |nil=>intro l _ h _;exact h
 |cons p ps ih=>
  intro l L h hp;obtain⟨a,b,er,ha,hb⟩:=hp p (Y9 ..);have e:fC l p.2=jn l a b:=by rw[er];rfl
  exact ih (fC l p.2) (L.fC ⟨a,b,er,ha,hb⟩) (by rw[e];exact Ba L h ha hb) λq hq=>hp q (Y4 _ hq)
def WU{n:Nat}{rows:List Addr}{rd:Addr->List Int}{st:FS}(R:Rows n rows rd)(h:bz n rows rd st){x y:Addr}{s:Int}(w:A9 rows rd st.l (x,y,s)):
  bz n rows rd (gU rd st x y s)/\11*bG (gU rd st x y s).l+(gU rd st x y s).W.length<=11*bG st.l+st.W.length/\(gU rd st x y s).W.length+10*bG (gU rd st x y s).l<=st.W.length+10*bG st.l/\(gU rd st x y s).ss.length+bG (gU rd st x y s).l<=st.ss.length+bG st.l:=by
 have rx:=(R.row x w.x).mk (-s);have ry:=(R.row y w.y).mk (-s);unfold gU;by_cases e:st.l.getD (My.mk (rd x) (-s)) 0=st.l.getD (My.mk (rd y) (-s)) 0
 ·rw[if_pos e];exact⟨h,Y3 _,Y3 _,Y3 _⟩
 ·rw[if_neg e];obtain⟨o1,o2,o3,o4⟩:=(h.t6 (st.ss++[[(rd x).getD 0 0,(rd y).getD 0 0,s]])).merge R rx.2 ry.2;have lt:=sY h.aD rx.2 ry.2 e;refine⟨o1,?_,?_,?_⟩
  ·rw[o2];dsimp only at o4⊢;omega
  ·rw[o2];dsimp only at o4⊢;omega
  ·rw[o2,o3];dsimp only;rw[Zo,List.length_singleton];omega
def Keeps(n:Nat)(rows:List Addr)(rd:Addr->List Int)(J:FS->Prop):Prop:=∀(st:FS) (W:List (Addr×Addr×Int)) (x y:Addr) (s:Int),bz n rows rd st->st.W=W++[(x,y,s)]->J st->J (gU rd {st with W:=W} x y s)
inductive GW(CF CG:Addr)(vs:List V)(H:Hp)(Q:VK)(ay:XK):Prop
 |mk (H0:Hp) (rows:List Addr) (rd:Addr->List Int) (n:Nat) (f:Addr) (d:FA) (st:FS) (J:FS->Prop) (_:vs=[.ref f]) (_:Frame CF CG H0 rows rd n) (_:b4 CF CG H0 H f d n st) (_:bz n rows rd st) (_:Keeps n rows rd J) (_:J st) (_:st.W.length+10*bG st.l<=9000000) (_:st.ss.length+bG st.l<=9000000) (_:∀(aX:FS) (H':Hp),b4 CF CG H0 H' f d n aX->bz n rows rd aX->J aX->aX.W=[]->aX.ss.length<=9000000->Kx d H H'->Q .aH H'):GW CF CG vs H Q ay
def zW(CF CG:Addr):Sp:=GW CF CG
inductive HY(CF CG:Addr)(vs:List V)(H:Hp)(Q:VK)(ay:XK):Prop
 |mk (H0:Hp) (f dx:Addr) (n:Nat) (ls:Addr) (ps:Ps) (_:vs=[.ref f,.int n,.ref ls]) (_:H f=some (.ins CF dx [])) (_:H0 f=none) (_:aa H0 H) (_:Tl H ls ps) (_:(∀p∈ps,fV n p.2)) (_:n<=1000) (_:ps.length<=1000) (_:CF≠CG) (_:∀(d:FA) (H':Hp),b4 CF CG H0 H' f d n (jD n ps)->Q .aH H'):HY CF CG vs H Q ay
def KD(CF CG:Addr):Sp:=HY CF CG
def b9(ps:Ps)(a:Addr):List Int:=match ps.find? (λp=>p.1==a)with
 |some p=>p.2
 |none=>[]
def Ss{a b:List Int}(h:a.map V.int=b.map V.int):a=b:=by
 induction a generalizing b with
 |nil=>cases b with
  |nil=>rfl
  |cons _ _=>cases h
 |cons x a ih=>cases b with
  |nil=>cases h
  |cons y b=>
   obtain⟨h1,h2⟩:=List.cons.inj h;rw[V.int.inj h1,ih h2]
def m7{H:Hp}{ps:Ps}(tp:Tp H ps){p:Addr×List Int}(hp:p∈ps):b9 ps p.1=p.2:=by
 unfold b9;cases e:ps.find? (λq=>q.1==p.1)with
 |none=>
  have:=List.find?_eq_none.mp e p hp;simp at this
 |some q=>
  have h1:q.1=p.1:=by simpa using List.find?_some e
  have h2:=tp q (List.mem_of_find?_eq_some e);have h3:=tp p hp;rw[h1,h3]at h2;exact(Ss (HO.tup.inj (Zg h2))).symm
def Bc(ps:Ps)(st:FS):FS:=(ps.map (·.1)).foldl (gE (b9 ps)) st
inductive GX(vs:List V)(H:Hp)(Q:VK)(ay:XK):Prop
 |mk (n:Nat) (lr ls:Addr) (ps start:Ps) (J:FS->Prop) (_:vs=[.int n,.ref lr,.ref ls]) (_:Tl H lr ps) (_:Tl H ls start) (_:(∀p∈ps,cC n p.2/\1<=p.2.getD 2 0/\p.2.getD 2 0<=5)) (_:(∀p∈start,fV n p.2)) (_:n<=700) (_:ps.length<=1000) (_:start.length<=1000) (_:Keeps n (ps.map (·.1)) (b9 ps) J) (_:J (Bc ps (jD n start))) (_:∀(t l1 l2:Addr) (sp:Ps) (st:FS) (H':Hp),H' t=some (.tup [.ref l1,.ref l2])->aw H' l1 st.l->Tl H' l2 sp->sp.map (·.2)=st.ss->bz n (ps.map (·.1)) (b9 ps) st->J st->st.W=[]->sp.length<=9000000->H l1=none->H l2=none->aa H H'->Q (.ref t) H'):GX vs H Q ay
def Jp:Sp:=GX
def WV{lo:Int}{n:Nat}{ix:List Nat}{σ:St}{H:Hp}{Q:VK}(hn:n<=1000)
  (k:∀(D:Addr) (ds:List Addr) (H':Hp),H D=none->H' D=some (.lst (ds.map V.ref))->ds.length=n->ds.Nodup->(∀x∈ds,H x=none/\H' x=some (.dT [])/\x≠D)->aa H H'->Q (.ref D) H'):
  ∀D,H D=none->∃W:Nat->Nat->List V->Hp->Prop,(∃m,W 0 m [] (upd H D (.lst [])))/\
   ∀i m ys H2,W i m ys H2->H2 D=some (.lst ys)/\(((gH lo n).stop i H2/\Q (.ref D) H2)\/((gH lo n).go i H2/\ys.length<sizeLine/\∀x H',(gH lo n).fO i H2 x H'->A3 (bQ ix (some x) σ) H' λy H3=>
    H3 D=some (.lst ys)/\∃m',m'<m/\W (i+1) m' (ys++[y]) (upd H3 D (.lst (ys++[y]))))):=by
 refine zi λD hD=>⟨λi ys H2=>∃ds:List Addr,ys=ds.map V.ref/\ds.length=i/\i<=n/\H2 D=some (.lst ys)/\ds.Nodup/\(∀x∈ds,H x=none/\H2 x=some (.dT [])/\x≠D)/\aa H H2,⟨[],rfl,rfl,Zp _,ak,List.nodup_nil,(λ_ z=>nomatch z),(aa.refl H).upd hD⟩,?_,?_,?_⟩
 ·rintro i ys H2 ⟨ds,rfl,hl,hi,e,_⟩;exact⟨e,bw (by rw[Y1];omega)⟩
 ·rintro i ys H2 hi ⟨ds,rfl,hl,_,e,nd,hx,s2⟩ Q' q' x pH;have nD:D≠x:=a8 e pH
  have ad0:H x=none:=by
   cases h:H x with
   |none=>rfl
   |some o=>rw[s2 _ _ h]at pH;cases pH
  refine q' _ _ (by rw[ai nD];exact e) ⟨ds++[x],by rw[Ze];rfl,by simp[hl],hi,ak,?_,λz hz=>?_,?_⟩
  ·refine qv nd λhz=>?_;rw[(hx x hz).2.1]at pH;cases pH
  ·rcases Y7.mp hz with h|h
   ·obtain⟨h1,h2,h3⟩:=hx z h;exact⟨h1,by rw[ai h3,ai (a8 h2 pH)];exact h2,h3⟩
   ·obtain rfl:=Y2.mp h;exact⟨ad0,by rw[ai nD.symm,ak],nD.symm⟩
  ·exact((s2.fM pH).upd hD)
 ·rintro ys H2 ⟨ds,rfl,hl,_,e,nd,hx,s2⟩;exact k D ds H2 hD e hl nd hx s2
def YX{j n:Nat}{ix:List Nat}{σ:St}{H:Hp}{Q:VK}(hσ:σ[j]?=some (some (.int n)))(hn:n<=1000)
  (k:∀(D:Addr) (ds:List Addr) (H':Hp),H D=none->H' D=some (.lst (ds.map V.ref))->ds.length=n->ds.Nodup->(∀x∈ds,H x=none/\H' x=some (.dT [])/\x≠D)->aa H H'->Q (.ref D) H'):sQ (M9 (kH (iR j) kM)) ix A3 σ H Q:=
 ⟨_,hσ,_,rfl,by omega,by omega,⟨WV (lo:=0) (n:=(n:Int).toNat) (by omega) λD ds H' h1 h2 h3 h4 h5 h6=>k D ds H' h1 h2 (by omega) h4 h5 h6⟩⟩
def good(l p q:List Int)(s:Int):Prop:=(s=1\/s= -1)/\p.getD 2 0=q.getD 2 0/\l.getD (mk p s) 0=l.getD (mk q s) 0/\¬l.getD (mk p (-s)) 0=l.getD (mk q (-s)) 0
instance{l p q:List Int}{s:Int}:Decidable (good l p q s):=by unfold good;infer_instance
def wA(ps:Ps)(l r:List Int):Option (List Int):=
 match kS ps (r.getD 0 0),kS ps (r.getD 1 0)with
 |some p,some q=>if good l p.2 q.2 (r.getD 2 0)then some (jn l (mk p.2 (-(r.getD 2 0))) (mk q.2 (-(r.getD 2 0))))else none
 |_,_=>none
def wP(ps:Ps)(l:List Int)(ss:List (List Int)):Option (List Int):=ss.foldl (λo r=>o.bind λl=>wA ps l r) (some l)
def YY{ps:Ps}{l:List Int}{ss:List (List Int)}{r:List Int}:wP ps l (ss++[r])=(wP ps l ss).bind λl=>wA ps l r:=by
 unfold wP;rw[List.foldl_append];rfl
def YZ{ps:Ps}{l r:List Int}{p q:Addr×List Int}(e1:kS ps (r.getD 0 0)=some p)(e2:kS ps (r.getD 1 0)=some q)(g:good l p.2 q.2 (r.getD 2 0)):wA ps l r=some (jn l (mk p.2 (-(r.getD 2 0))) (mk q.2 (-(r.getD 2 0)))):=by
 unfold wA;rw[e1,e2];dsimp only;rw[if_pos g]
def qU(ps:Ps):Prop:=∀p∈ps,∀q∈ps,p.2.getD 0 0=q.2.getD 0 0->p=q
def Y0{ps:Ps}{i:Int}:∀{q:Addr×List Int},kS ps i=some q->q.2.getD 0 0=i:=by
 suffices∀(o:Option (Addr×List Int)),(∀q,o=some q->q.2.getD 0 0=i)->∀q,ps.foldl (λo p=>if i=p.2.getD 0 0 then some p else o) o=some q->q.2.getD 0 0=i from λ{q} h=>this none (λq z=>nomatch z) q h
 induction ps with
 |nil=>intro o h q e;exact h q e
 |cons p ps ih=>
  intro o h q e;refine ih (if i=p.2.getD 0 0 then some p else o) (λq z=>?_) q e;by_cases c:i=p.2.getD 0 0
  ·rw[if_pos c]at z;cases z;exact c.symm
  ·rw[if_neg c]at z;exact h q z
def abG{ps:Ps}{i:Int}{p:Addr×List Int}(hp:p∈ps)(h:p.2.getD 0 0=i):∃q,kS ps i=some q:=by
 suffices∀(o:Option (Addr×List Int)),(p∈ps\/∃q,o=some q)->∃q,ps.foldl (λo p=>if i=p.2.getD 0 0 then some p else o) o=some q from this none (.inl hp)
 clear hp
 induction ps with
 |nil=>
  intro o h;rcases h with z|z
  ·cases z
  ·exact z
 |cons a ps ih=>
  intro o hh;refine ih (if i=a.2.getD 0 0 then some a else o) ?_;rcases hh with z|⟨q,z⟩
  ·rcases Y5.mp z with rfl|z
   ·exact .inr ⟨p,by rw[if_pos h.symm]⟩
   ·exact .inl z
  ·refine .inr ?_;by_cases c:i=a.2.getD 0 0
   ·exact⟨a,if_pos c⟩
   ·exact⟨q,by rw[if_neg c];exact z⟩
def KG{ps:Ps}(u:qU ps){p:Addr×List Int}(hp:p∈ps):kS ps (p.2.getD 0 0)=some p:=by
 obtain⟨q,e⟩:=abG hp rfl;rw[e,u q (YT e) p hp (Y0 e)]
def JP(ps:Ps)(l0:List Int)(st:FS):Prop:=wP ps l0 st.ss=some st.l/\∀r∈st.ss,vW r
def Su{n:Nat}{ps:Ps}{l0:List Int}{H:Hp}(u:qU ps)(tp:Tp H ps)(R:Rows n (ps.map (·.1)) (b9 ps)):Keeps n (ps.map (·.1)) (b9 ps) (JP ps l0):=by
 intro st W x y s ok eW ⟨j1,j2⟩;obtain⟨jE,we⟩:=ok.pop eW;unfold gU;by_cases he:st.l.getD (My.mk (b9 ps x) (-s)) 0=st.l.getD (My.mk (b9 ps y) (-s)) 0
 ·rw[if_pos he];exact⟨j1,j2⟩
 ·rw[if_neg he];obtain⟨o1,o2,o3,o4⟩:=(jE.t6 (st.ss++[[(b9 ps x).getD 0 0,(b9 ps y).getD 0 0,s]])).merge R ((R.row x we.x).mk (-s)).2 ((R.row y we.y).mk (-s)).2;refine⟨?_,?_⟩
  ·rw[o2,o3];show wP ps l0 (st.ss++[[(b9 ps x).getD 0 0,(b9 ps y).getD 0 0,s]])=some (jn st.l (My.mk (b9 ps x) (-s)) (My.mk (b9 ps y) (-s)));rw[YY,j1];obtain⟨p,hp,ep⟩:=Zh.mp we.x;obtain⟨q,hq,eq⟩:=Zh.mp we.y;have ep:p.1=x:=ep;have eq:q.1=y:=eq;subst ep eq;have k:=we.k;have nn:=we.n;dsimp only at k nn;rw[m7 tp hp,m7 tp hq]at he k nn⊢;have e1:kS ps (([p.2.getD 0 0,q.2.getD 0 0,s]:List Int).getD 0 0)=some p:=KG u hp;have e2:kS ps (([p.2.getD 0 0,q.2.getD 0 0,s]:List Int).getD 1 0)=some q:=KG u hq;exact YZ e1 e2 ⟨we.s,k,nn,he⟩
  ·rw[o3];intro r hr;rcases Y7.mp hr with h|h
   ·exact j2 r h
   ·obtain rfl:=Y2.mp h;refine⟨_,_,s,rfl,?_⟩;have:s=1\/s= -1:=we.s;omega
def Cl(rs:List (List Int))(st:Ps)(c:Nat->Int):Prop:=(∀p∈st,c (p.2.getD 0 0).toNat=c (p.2.getD 1 0).toNat)/\
 ∀p∈rs,∀q∈rs,p.getD 2 0=q.getD 2 0->∀s,gY s->c (mk p s)=c (mk q s)->c (mk p (-s))=c (mk q (-s))
structure LCo(n:Nat)(rs:List (List Int))(st:Ps)(l:List Int):Prop where
 aD:c7 n l
 iF:∀a,a<n->l.getD (at_ l a) 0=l.getD a 0
 le:∀a:Nat,a<n->l.getD a 0<=a
 snd:∀c,Cl rs st c->∀a b,a<n->b<n->l.getD a 0=l.getD b 0->c a=c b
structure fD(n:Nat)(rs:List (List Int))(st:Ps)(l:List Int):Prop extends LCo n rs st l where
 qV:∀p∈st,l.getD (p.2.getD 0 0).toNat 0=l.getD (p.2.getD 1 0).toNat 0
def abH{l:List Int}{a b x y:Nat}(hx:x<l.length)(hy:y<l.length)(h:(jn l a b).getD x 0=(jn l a b).getD y 0):l.getD x 0=l.getD y 0\/(l.getD x 0=l.getD a 0/\l.getD y 0=l.getD b 0)\/(l.getD x 0=l.getD b 0/\l.getD y 0=l.getD a 0):=by
 rw[lM hx,lM hy]at h;split at h<;>split at h<;>omega
def LCo.jn{n:Nat}{rs:List (List Int)}{st:Ps}{l:List Int}(h:LCo n rs st l){a b:Nat}(ha:a<n)(hb:b<n)(hc:∀c,Cl rs st c->c a=c b):LCo n rs st (jn l a b):=by
 have ll:=h.aD.len;refine⟨h.aD.jn ha hb,Ba h.aD h.iF ha hb,λx hx=>?_,λc cl x y hx hy e=>?_⟩
 ·rw[lM (by rw[ll];exact hx)];have h1:=h.le x hx;split<;>omega
 ·have ab:=hc c cl;rcases abH (by rw[ll];exact hx) (by rw[ll];exact hy) e with z|⟨z1,z2⟩|⟨z1,z2⟩
  ·exact h.snd c cl x y hx hy z
  ·rw[h.snd c cl x a hx ha z1,h.snd c cl y b hy hb z2,ab]
  ·rw[h.snd c cl x b hx hb z1,h.snd c cl y a hy ha z2,ab]
def fV.to{n:Nat}{r:List Int}(h:fV n r):(r.getD 0 0).toNat<n/\(r.getD 1 0).toNat<n:=by
 obtain⟨a,b,rfl,ha,hb⟩:=h;exact⟨by simpa using ha,by simpa using hb⟩
def fD.jn{n:Nat}{rs:List (List Int)}{st:Ps}{l:List Int}(bM:∀p∈st,fV n p.2)(h:fD n rs st l){a b:Nat}(ha:a<n)(hb:b<n)(hc:∀c,Cl rs st c->c a=c b):fD n rs st (jn l a b):=by
 refine{h.toLCo.jn ha hb hc with qV:=λp hp=>?_};have ll:=h.aD.len;exact sy (by rw[ll];exact(bM p hp).to.1) (by rw[ll];exact(bM p hp).to.2) (h.qV p hp)
def zX{n:Nat}{rs:List (List Int)}{st:Ps}(bM:∀p∈st,fV n p.2):fD n rs st (fN n st):=by
 suffices∀(todo:Ps) (l:List Int),LCo n rs st l->(∀p∈todo,p∈st)->LCo n rs st (todo.foldl (λl p=>fC l p.2) l)/\(∀p∈todo,(todo.foldl (λl p=>fC l p.2) l).getD (p.2.getD 0 0).toNat 0=(todo.foldl (λl p=>fC l p.2) l).getD (p.2.getD 1 0).toNat 0)/\
   ∀x y,x<n->y<n->l.getD x 0=l.getD y 0->(todo.foldl (λl p=>fC l p.2) l).getD x 0=(todo.foldl (λl p=>fC l p.2) l).getD y 0 by
  obtain⟨h1,h2,_⟩:=this st (jW n) ⟨Ap n,λa ha=>by
   have e:=sD ha;have:at_ (jW n) a=a:=by unfold at_;rw[e];simp
   rw[this],λa ha=>by rw[sD ha];exact Int.le_refl _,λc _ a b ha hb e=>by rw[sD ha,sD hb]at e;rw[Int.ofNat.inj e]⟩ (λp hp=>hp)
  exact{h1 with qV:=h2}
 intro todo
 induction todo with
 |nil=>intro l h _;exact⟨h,(λ_ z=>nomatch z),λx y _ _ e=>e⟩
 |cons p ps ih=>
  intro l h hp;have po:=bM p (hp p (Y9 ..));have h1:LCo n rs st (fC l p.2):=h.jn po.to.1 po.to.2 λc cl=>cl.1 p (hp p (Y9 ..));obtain⟨g1,g2,g3⟩:=ih (fC l p.2) h1 λq hq=>hp q (Y4 _ hq);refine⟨g1,λq hq=>?_,λx y hx hy e=>g3 x y hx hy (sy (by rw[h.aD.len];exact hx) (by rw[h.aD.len];exact hy) e)⟩;rcases Y5.mp hq with rfl|hq
  ·exact g3 _ _ po.to.1 po.to.2 (rQ h.aD po.to.1 po.to.2)
  ·exact g2 q hq
def closed(rs:List (List Int))(l:List Int):Prop:=∀p∈rs,∀q∈rs,p.getD 2 0=q.getD 2 0->∀s,gY s->l.getD (mk p s) 0=l.getD (mk q s) 0->l.getD (mk p (-s)) 0=l.getD (mk q (-s)) 0
def fD.lt{n:Nat}{rs:List (List Int)}{st:Ps}{l1 l2:List Int}(h1:fD n rs st l1)(c1:closed rs l1)(h2:fD n rs st l2):∀a,a<n->l1.getD a 0<=l2.getD a 0:=by
 intro a ha;have cl:Cl rs st (λa=>l1.getD a 0):=⟨h1.qV,c1⟩;obtain⟨m1,m2⟩:=kJ h2.aD ha;have e:=h2.snd _ cl _ _ m1 ha (h2.iF a ha);have:=h1.le _ m1;omega
def fD.unique{n:Nat}{rs:List (List Int)}{st:Ps}{l1 l2:List Int}(h1:fD n rs st l1)(c1:closed rs l1)(h2:fD n rs st l2)(c2:closed rs l2):l1=l2:=by
 refine List.ext_getElem (by rw[h1.aD.len,h2.aD.len]) λi nT iE=>?_;have hi:i<n:=by rw[<-h1.aD.len];exact nT
 have a:=h1.lt c1 h2 i hi;have b:=h2.lt c2 h1 i hi;simp only[List.getD,Zd nT,Zd iE,Option.getD_some]at a b;omega
def nU(n:Nat)(rd:Addr->List Int)(st:FS)(c:Nat->Int):Prop:=(∀x y,x<n->y<n->st.l.getD x 0=st.l.getD y 0->c x=c y)/\∀e∈st.W,c (mk (rd e.1) (-e.2.2))=c (mk (rd e.2.1) (-e.2.2))
def kU(n:Nat)(rd:Addr->List Int)(st:FS)(m:Nat)(k s:Int)(v:Nat):Prop:=∃r:Addr,bj (st.D m) (key k s)=some (.ref r)/\∀c,nU n rd st c->c v=c (mk (rd r) (-s))
def KH{n:Nat}{rd:Addr->List Int}{st:FS}{m:Nat}{k s:Int}{a:Addr}{c:Nat->Int}(h:nU n rd (cG st m k s a) c):nU n rd st c:=by
 refine⟨λx y hx hy e=>h.1 x y hx hy (by rw[oU];exact e),λe he=>h.2 e ?_⟩;unfold cG;split
 ·exact Zc _ he
 ·exact he
 ·exact he
def vw{n:Nat}{rd:Addr->List Int}{st:FS}{m m':Nat}{k s k' s':Int}{a:Addr}{v:Nat}(h:kU n rd st m' k' s' v):kU n rd (cG st m k s a) m' k' s' v:=by
 obtain⟨r,e,hc⟩:=h;refine⟨r,?_,λc ad=>hc c (KH ad)⟩;unfold cG;split
 ·exact e
 ·exact e
 ·rename_i en;show bj (if m'=m then putK (st.D m) (key k s) (.ref a)else st.D m') (key k' s')=_;by_cases hm:m'=m
  ·subst hm;rw[if_pos rfl,zU,if_neg (λz=>by rw[z,en]at e;cases e)];exact e
  ·rw[if_neg hm];exact e
def Au{n:Nat}{rows:List Addr}{rd:Addr->List Int}{st:FS}(ok:bz n rows rd st){m:Nat}(hm:m<n){k s:Int}{a:Addr}:kU n rd (cG st m k s a) m k s (mk (rd a) (-s)):=by
 unfold cG;cases e:bj (st.D m) (key k s)with
 |none=>
  refine⟨a,?_,λc _=>rfl⟩;show bj (if m=m then putK (st.D m) (key k s) (.ref a)else st.D m) (key k s)=_;rw[if_pos rfl,zU,if_pos rfl]
 |some v=>
  obtain⟨s',r,er,_⟩:=(ok.i9 m hm _ (rY e)).is;obtain rfl:v=.ref r:=(Prod.mk.inj er).2;refine⟨r,e,λc ad=>?_⟩;exact(ad.2 (r,a,s) (Zb _ (Y2.mpr rfl))).symm
def WW{n:Nat}{rows:List Addr}{rd:Addr->List Int}{low:Nat}(wz:low<n):∀(es:List (List Key×V)) (st:FS),bz n rows rd st->(∀e∈es,vG rows rd st.l low e)->
  (∀c,nU n rd (es.foldl (eK low) st) c->nU n rd st c)/\(∀m k s v,kU n rd st m k s v->kU n rd (es.foldl (eK low) st) m k s v)/\∀e∈es,∀k s r,e=(key k s,V.ref r)->kU n rd (es.foldl (eK low) st) low k s (mk (rd r) (-s)):=by
 intro es
 induction es with
 |nil=>intro st h _;exact⟨λc h=>h,λm k s v h=>h,λ_ z=>nomatch z⟩
 |cons e es ih=>
  intro st h he;obtain⟨s,r,er,hr,hs,hl⟩:=(he e (Y9 ..)).is;subst er;have h1:bz n rows rd (eK low st (key ((rd r).getD 2 0) s,.ref r)):=h.put wz hr hs hl;have l1:(eK low st (key ((rd r).getD 2 0) s,.ref r)).l=st.l:=oU ..;obtain⟨a1,a2,a3⟩:=ih _ h1 (λe' h'=>by rw[l1];exact he e' (Y4 _ h'));refine⟨λc ad=>KH (a1 c ad),λm k' s' v cv=>a2 _ _ _ _ (vw cv),λe' h' k' s' r' z=>?_⟩;rcases Y5.mp h' with rfl|h'
  ·obtain⟨z1,z2⟩:=Prod.mk.inj z;have e2:(rd r).getD 2 0=k':=Sum.inl.inj (List.cons.inj z1).1;have e3:s=s':=Sum.inl.inj (List.cons.inj (List.cons.inj z1).2).1;have e4:r=r':=V.ref.inj z2;subst e2 e3 e4;exact a2 _ _ _ _ (Au h wz)
  ·exact a3 e' h' k' s' r' z
def t8(n:Nat)(rd:Addr->List Int)(La:Addr->Int->Prop)(st:FS):Prop:=∀r s,La r s->kU n rd st (at_ st.l (mk (rd r) s)) ((rd r).getD 2 0) s (mk (rd r) (-s))
def aaa{n:Nat}{rows:List Addr}{rd:Addr->List Int}(R:Rows n rows rd):∀(as:List Addr) (st:FS) (La:Addr->Int->Prop),bz n rows rd st->(∀a∈as,a∈rows)->t8 n rd La st->t8 n rd (λr s=>La r s\/(r∈as/\gY s)) (as.foldl (gE rd) st):=by
 intro as
 induction as with
 |nil=>intro st La _ _ h r s z;exact h r s (z.elim id λy=>nomatch y.1)
 |cons a as ih=>
  intro st La ok ha h;have ar:=ha a (Y9 ..);have row:=R.row a ar;have m1:=(kJ ok.aD (row.mk 1).2).1;have ja:=ok.put m1 ar (.inl rfl:gY 1) (ok.iF _ (row.mk 1).2).symm;have m2:=(kJ ja.aD (row.mk (-1)).2).1;obtain⟨o1,o2,_,_⟩:=ok.lay R ar;refine λr0 s0 z0=>ih (gE rd st a) (λr s=>La r s\/(r=a/\gY s)) o1 (λb hb=>ha b (Y4 _ hb)) ?_ r0 s0 ?_
  ·intro r s z;rw[o2];rcases z with z|⟨rfl,hz⟩
   ·exact vw (vw (h r s z))
   ·have hz:s=1\/s= -1:=hz;rcases hz with rfl|rfl
    ·exact vw (Au ok m1)
    ·have:=Au (k:=(rd r).getD 2 0) (s:= -1) (a:=r) ja m2;rw[oU]at this;unfold gE;dsimp only;rw[oU];exact this
  ·rcases z0 with z|⟨z,hs⟩
   ·exact .inl (.inl z)
   ·rcases Y5.mp z with z|z
    ·exact .inl (.inr ⟨z,hs⟩)
    ·exact .inr ⟨z,hs⟩
def WX{n:Nat}{rows:List Addr}{rd:Addr->List Int}(R:Rows n rows rd){La:Addr->Int->Prop}(hLa:∀r s,La r s->r∈rows/\gY s):Keeps n rows rd (t8 n rd La):=by
 intro st W x y s ok eW h;obtain⟨jE,we⟩:=ok.pop eW;have rx:=(R.row x we.x).mk (-s);have ry:=(R.row y we.y).mk (-s);unfold gU;by_cases he:st.l.getD (My.mk (rd x) (-s)) 0=st.l.getD (My.mk (rd y) (-s)) 0
 ·rw[if_pos he];intro r s' z;obtain⟨r',e,hc⟩:=h r s' z;refine⟨r',e,λc ad=>hc c ⟨ad.1,λe' h'=>?_⟩⟩;rw[eW]at h';rcases Y7.mp h' with q|q
  ·exact ad.2 e' q
  ·obtain rfl:=Y2.mp q;exact ad.1 _ _ rx.2 ry.2 he
 ·rw[if_neg he];have qW:=jE.t6 (st.ss++[[(rd x).getD 0 0,(rd y).getD 0 0,s]]);obtain⟨lo,hi,el,eh⟩:=qj ok.aD rx.2 ry.2;have OT:=qW.join R lo hi;obtain⟨o1,o2,_,_⟩:=qW.merge R rx.2 ry.2;have jl:=Ms ok.aD ok.iF rx.2 ry.2;have ll:=ok.aD.len
  have OU:∀c,nU n rd {st with W:=W,ss:=st.ss++[[(rd x).getD 0 0,(rd y).getD 0 0,s]],l:=jn st.l (cZ st.l (My.mk (rd x) (-s)) (My.mk (rd y) (-s))) (b5 st.l (My.mk (rd x) (-s)) (My.mk (rd y) (-s)))} c->nU n rd st c:=λc ad=>by
   have xa:=ad.1;dsimp only at xa;rw[jl]at xa;refine⟨λa b ha hb e=>xa a b ha hb (sy (by rw[ll];exact ha) (by rw[ll];exact hb) e),λe' h'=>?_⟩;rw[eW]at h';rcases Y7.mp h' with q|q
   ·exact ad.2 e' q
   ·obtain rfl:=Y2.mp q;exact xa _ _ rx.2 ry.2 (rQ ok.aD rx.2 ry.2)
  have cv1:∀m k s' v,kU n rd st m k s' v->kU n rd {st with W:=W,ss:=st.ss++[[(rd x).getD 0 0,(rd y).getD 0 0,s]],l:=jn st.l (cZ st.l (My.mk (rd x) (-s)) (My.mk (rd y) (-s))) (b5 st.l (My.mk (rd x) (-s)) (My.mk (rd y) (-s)))} m k s' v:=λm k s' v ⟨r',e,hc⟩=>⟨r',e,λc ad=>hc c (OU c ad)⟩
  obtain⟨f1,f2,f3⟩:=WW lo (st.D (b5 st.l (My.mk (rd x) (-s)) (My.mk (rd y) (-s)))) _ OT λe he=>by
   obtain⟨s,r,er,hr,hs,hl⟩:=(OT.i9 _ hi e he).is;exact⟨s,r,er,hr,hs,hl.trans (rQ ok.aD lo hi).symm⟩
  intro r s' z;obtain⟨xb,hss⟩:=hLa r s' z;have rr:=((R.row r xb).mk s').2;have cv:=h r s' z;have ej:=lM (l:=st.l) (a:=My.mk (rd x) (-s)) (b:=My.mk (rd y) (-s)) (x:=My.mk (rd r) s') (by rw[ll];exact rr);rw[o2];show kU n rd ((st.D (b5 st.l (My.mk (rd x) (-s)) (My.mk (rd y) (-s)))).foldl (eK (cZ st.l (My.mk (rd x) (-s)) (My.mk (rd y) (-s)))) _) (at_ (jn st.l (My.mk (rd x) (-s)) (My.mk (rd y) (-s))) (My.mk (rd r) s')) _ _ _;by_cases hh:st.l.getD (My.mk (rd r) s') 0=max (st.l.getD (My.mk (rd x) (-s)) 0) (st.l.getD (My.mk (rd y) (-s)) 0)
  ·rw[if_pos hh]at ej;have e1:at_ (jn st.l (My.mk (rd x) (-s)) (My.mk (rd y) (-s))) (My.mk (rd r) s')=cZ st.l (My.mk (rd x) (-s)) (My.mk (rd y) (-s)):=by unfold at_;rw[ej];rfl
   have e2:at_ st.l (My.mk (rd r) s')=b5 st.l (My.mk (rd x) (-s)) (My.mk (rd y) (-s)):=by unfold at_;rw[hh];rfl
   rw[e2]at cv;obtain⟨r',e,hc⟩:=cv;obtain⟨r'',e',dQ⟩:=f3 _ (rY e) _ _ r' rfl;rw[e1];exact⟨r'',e',λc ad=>(hc c (OU c (f1 c ad))).trans (dQ c ad)⟩
  ·rw[if_neg hh]at ej;have e1:at_ (jn st.l (My.mk (rd x) (-s)) (My.mk (rd y) (-s))) (My.mk (rd r) s')=at_ st.l (My.mk (rd r) s'):=by unfold at_;rw[ej]
   rw[e1];exact f2 _ _ _ _ (cv1 _ _ _ _ cv)
def UL{n:Nat}{ps start:Ps}{H:Hp}(tp:Tp H ps)(bM:∀p∈start,fV n p.2)(R:Rows n (ps.map (·.1)) (b9 ps)):Keeps n (ps.map (·.1)) (b9 ps) (λst=>fD n (ps.map (·.2)) start st.l):=by
 intro st W x y s ok eW h;obtain⟨jE,we⟩:=ok.pop eW;unfold gU;by_cases he:st.l.getD (My.mk (b9 ps x) (-s)) 0=st.l.getD (My.mk (b9 ps y) (-s)) 0
 ·rw[if_pos he];exact h
 ·rw[if_neg he];have rx:=(R.row x we.x).mk;have ry:=(R.row y we.y).mk;obtain⟨o1,o2,o3,o4⟩:=(jE.t6 (st.ss++[[(b9 ps x).getD 0 0,(b9 ps y).getD 0 0,s]])).merge R (rx (-s)).2 (ry (-s)).2;show fD n (ps.map (·.2)) start (m9 _ _ _).l;rw[o2];refine h.jn bM (rx (-s)).2 (ry (-s)).2 λc cl=>?_;obtain⟨p,hp,ep⟩:=Zh.mp we.x;obtain⟨q,hq,eq⟩:=Zh.mp we.y;have ep:p.1=x:=ep;have eq:q.1=y:=eq;subst ep eq;have k:=we.k;have nn:=h.snd c cl _ _ (rx s).2 (ry s).2 we.n;dsimp only at k;rw[m7 tp hp,m7 tp hq]at k nn⊢;exact cl.2 p.2 (Zh.mpr ⟨p,hp,rfl⟩) q.2 (Zh.mpr ⟨q,hq,rfl⟩) k s we.s nn
def Ta{n:Nat}{ps:Ps}{H:Hp}{st:FS}(tp:Tp H ps)(ok:bz n (ps.map (·.1)) (b9 ps) st)(h:t8 n (b9 ps) (λr s=>r∈ps.map (·.1)/\gY s) st)(w:st.W=[]):closed (ps.map (·.2)) st.l:=by
 intro a ha b hb k s hs e;obtain⟨p,hp,rfl⟩:=Zh.mp ha;obtain⟨q,hq,rfl⟩:=Zh.mp hb;have ad:nU n (b9 ps) st (λa=>st.l.getD a 0):=⟨λx y _ _ e=>e,λe he=>by rw[w]at he;cases he⟩;obtain⟨r1,e1,c1⟩:=h p.1 s ⟨Zh.mpr ⟨p,hp,rfl⟩,hs⟩;obtain⟨r2,e2,c2⟩:=h q.1 s ⟨Zh.mpr ⟨q,hq,rfl⟩,hs⟩;have d1:=c1 _ ad;have d2:=c2 _ ad;rw[m7 tp hp]at e1 d1;rw[m7 tp hq]at e2 d2;have:at_ st.l (My.mk p.2 s)=at_ st.l (My.mk q.2 s):=by unfold at_;rw[e]
 rw[this,k,e2]at e1;have:r2=r1:=V.ref.inj (Zg e1);rw[d1,d2,this]
inductive HZ(vs:List V)(H:Hp)(Q:VK)(ay:XK):Prop
 |mk (n:Nat) (lr ls:Addr) (ps st:Ps) (_:vs=[.int n,.ref lr,.ref ls]) (_:Tl H lr ps) (_:Tl H ls st) (_:(∀p∈ps,cC n p.2)) (_:(∀p∈st,fV n p.2)) (_:n<=1000) (_:ps.length<=1000) (_:st.length<=1000) (_:∀(l:List Int) (p:Addr) (H':Hp),aw H' p l->fD n (ps.map (·.2)) st l->closed (ps.map (·.2)) l->aa H H'->Q (.ref p) H'):HZ vs H Q ay
def KI:Sp:=HZ
def bP(fi st:Int)(i:Nat):Int:=if i=0 then st else fi+i-1
def y9(fi st:Int)(i:Nat):bP fi st (i+1)=fi+i:=by
 unfold bP;rw[if_neg (by omega)];have:((i+1:Nat):Int)=i+1:=by omega
 omega
def rowAt(fi st:Int)(ns:List Int)(i:Nat):List Int:=
 if 0<ns.getD i 0 then [-1-(i:Int),bP fi st i,ns.getD i 0,fi+i]else [-1-(i:Int),fi+i, -ns.getD i 0,bP fi st i]
inductive Ia(K:PySem.W.Frag)(vs:List V)(H:Hp)(Q:VK)(ay:XK):Prop
 |mk (fi st:Int) (l:Addr) (ns:List Int) (_:vs=[.int fi,.int st,.ref l]) (_:ah K H l (ns.map V.int)) (_:ns.length<=1000) (_:NZ ns) (_:∀(p r:Addr) (ts:List Addr) (H':Hp),H p=none->H r=none->H' p=some (.tup [.ref r,.int (bP fi st ns.length)])->H' r=some (.lst (ts.map V.ref))->ts.length=ns.length->(∀j t,ts[j]?=some t->H' t=some (.tup ((rowAt fi st ns j).map V.int)))->aa H H'->Q (.ref p) H'):Ia K vs H Q ay
def KJ(K:PySem.W.Frag):Sp:=Ia K
end My
namespace PySem.W
open PySem PySem.Spec PySem.Calls PyProof.Rows
section
variable {prog:Program}{w:World}{A:Around}{E:Value->Shared->Prop}{s:Shared}{K:Frag}{x C:Addr}{ox:Obj}
def ClsAt(C x:Addr)(h:Heap):Prop:=∃o,h.get? x=some o/\o.cls=.ref C
def ClsAt.ty{M:Model}{h:Heap}(I:ClsAt C x h):Looks M h (typeOf (.ref x)) (.ref C):=by
 obtain⟨o,h1,h2⟩:=I;exact h2▸(Looks.ld h1).andThen .now
end
end PySem.W
namespace L2
open PySem PySem.Spec PyProof.Rows
section
variable {P:Program}{w:World}{H H':Hp}{h h':Heap}{a:Addr}{o:HO}
def bU.has(x:bU P w H h a o):∃u,h.get? a=some u:=by
 cases o with
 |lst xs=>obtain⟨_,_,_,_,e⟩:=x;exact⟨_,e⟩
 |tup xs=>obtain⟨_,_,_,o,e,_⟩:=x;exact⟨_,e⟩
 |dK kvs=>obtain⟨_,_,_,_,o,_,_,e,_⟩:=x;exact⟨_,e⟩
 |dT kvs=>obtain⟨_,_,_,_,o,_,_,e,_⟩:=x;exact⟨_,e⟩
 |set S n=>obtain⟨o,_,_,_,e,_⟩:=x;exact⟨_,e⟩
 |ins C dx fs=>obtain⟨_,_,_,e,_⟩:=x;exact⟨_,e⟩
 |own y=>obtain⟨_,e⟩:=x;exact⟨_,e⟩
 |xd fs=>obtain⟨_,⟨_,_,_,e,_⟩,_⟩:=x;exact⟨_,e⟩
 |bx lo hi=>obtain⟨_,_,_,e⟩:=x;exact⟨_,e⟩
 |c5 ob u=>obtain⟨e,_⟩:=x;exact⟨_,e⟩
 |nN ps=>exact⟨_,(show h.get? a=some _ from x)⟩
 |met f y=>exact⟨_,(show h.get? a=some _ from x)⟩
 |ext φ=>obtain⟨_,⟨_,e⟩,_⟩:=x;exact⟨_,e⟩
def bK.only(x:bK P w H h)(k:∀b u,H b≠none->h.get? b=some u->h'.get? b=some u):bK P w H h':=λa o e=>
 (x a o e).jv (λb u hb q=>k b u (by
  rcases hb with hb|hb
  ·rw[hb,e];exact λz=>nomatch z
  ·rw[hb];exact λz=>nomatch z) q) (λ_ q=>q) λ_ _ q=>q
end
def gZ(B:Heap)(l:List Env)(e:Addr)(cls a0 fl:Value)(h:Heap):Prop:=B.StaysIn h/\B.get? e=none/\h.FunFrames B l/\h.TracedAtW B e cls a0 fl
def gZ.cls{B:Heap}{l:List Env}{e:Addr}{cls a0 fl:Value}{h:Heap}(x:gZ B l e cls a0 fl h):∃o vs,h.get? e=some o/\o.cls=cls/\o.data=.fields vs:=by
 obtain⟨_,_,_,oe,vs,_,_,_,he,hc,hd,_⟩:=x;exact⟨oe,vs,he,hc.1,hd⟩
section
variable {M:Model}{A:Around}{E:Value->Shared->Prop}{s:Shared}{B:Heap}{env:Env}{outer l:List Env}{L e:Addr}{cls a0 fl:Value}{Q:Unit->Shared->Prop}
def Av(eB:A.frames=some (env::outer))(hf:env.frame=some L)(h:gZ B (env::outer) e cls a0 fl s.heap)
  (hQ:∀h',gZ B (env::outer) e cls a0 (rawInt L) h'->s.heap.UpToSlots h'->Q () {s with heap:=h'}):wpAny M A (noteFrame (.ref e) env) Q E s:=by
 by_cases qX:(fl==rawInt L)=true
 ·have:fl=rawInt L:=beq_iff_eq.mp qX;subst this;exact wpAny_noteFrame_againW hf h.2.2.2 (hQ s.heap h (Heap.UpToSlots.refl _))
 obtain⟨f1,f2,f3,oe,vs,tb,otb,ts,he,⟨tH,h0⟩,hd,h1,wB,wC,pI,nI,h3⟩:=h;subst tH;have rest:∀b,b≠tb->(s.heap.update tb (Obj.mapFields (·.setIfInBounds 3 Value.none))).get? b=s.heap.get? b:=λb hb=>Heap.get?_update_other _ _ (Ne.symm hb)
 have tf:∀b o,s.heap.get? b=some o->(∀vs,o.data≠.fields vs)->b≠tb:=λb o hb jF q=>by
  rw[q,pI]at hb;cases hb;exact jF ts nI
 unfold noteFrame;simp only[hf];refine wpAny_bind (wpAny_field he hd h1 ?_);rw[if_pos (show(Value.ref tb !=Value.none)=true from by simp)];refine wpAny_bind (wpAny_field pI nI h3 ?_);rw[if_neg qX];refine wpAny_bind (wpAny_setField pI nI (Array.getElem?_eq_some_iff.mp h3).1 ?_)
 refine wpAny_entryW eB (f3.of_keeps λb o hb jF=>⟨o,(rest b (tf b o hb jF)).trans hb,rfl⟩) hf ((rest e (Ne.symm wC)).trans he)
  (λb o pJ=>(rest b λq=>by rw[q,wB]at pJ;cases pJ).trans (f1 b o pJ)) f2 hd (Array.getElem?_eq_some_iff.mp h1).1 h0 λh' ⟨x1,x2,x3,x4⟩=>?_
 exact hQ h' ⟨x1,f2,x2,x3⟩ λb o hb jF=>x4 b o ((rest b (tf b o hb jF)).trans hb) jF
def Aw(h:gZ B l e cls a0 fl s.heap)(hQ:∀h',gZ B l e cls a0 .none h'->s.heap.UpToSlots h'->Q () {s with heap:=h'}):wpAny M A (setFlight (.ref e) none) Q E s:=
 wpAny_setFlight_noneW h.1 h.2.2.1 h.2.2.2 λh' k1 k2 k3 k4=>hQ h' ⟨k1,h.2.1,k2,k3⟩ λb o hb hn=>⟨o.slots,k4 b o hb hn⟩
def WY(eB:A.frames=some (env::outer))(hf:env.frame=some L)(h:gZ B (env::outer) e cls a0 fl s.heap)
  (hQ:∀h',gZ B outer e cls a0 .none h'->s.heap.UpToSlots h'->Q () {s with heap:=h'}):wpAny M A (leaving env (.ref e)) Q E s:=by
 unfold leaving;refine wpAny_bind (Av eB hf h λh1 x1 u1=>?_);refine Aw (s:={s with heap:=h1}) x1 λh2 x2 u2=>hQ h2 ⟨x2.1,x2.2.1,x2.2.2.1.2.2,x2.2.2.2⟩ (u1.trans u2)
def abI{fo:Option Addr}(h:gZ B l e cls a0 fl s.heap)(hQ:∀h',gZ B l e cls a0 (fo.elim Value.none λf=>rawInt f) h'->s.heap.UpToSlots h'->Q () {s with heap:=h'}):wpAny M A (setFlight (.ref e) fo) Q E s:=by
 obtain⟨f1,f2,f3,oe,vs,tb,otb,ts,he,tH,hd,h1,wB,wC,pI,nI,h3⟩:=h;have three:3<ts.size:=(Array.getElem?_eq_some_iff.mp h3).1;have rest:∀b,b≠tb->(s.heap.update tb (Obj.mapFields (·.setIfInBounds 3 (fo.elim Value.none λf=>rawInt f)))).get? b=s.heap.get? b:=λb hb=>Heap.get?_update_other _ _ (Ne.symm hb)
 have tf:∀b o,s.heap.get? b=some o->(∀vs,o.data≠.fields vs)->b≠tb:=λb o hb jF q=>by
  rw[q,pI]at hb;cases hb;exact jF ts nI
 unfold setFlight;refine wpAny_bind (wpAny_field he hd h1 ?_);rw[if_pos (show(Value.ref tb !=Value.none)=true from by simp)];refine wpAny_setField pI nI three (hQ _ ⟨λb o pJ=>(rest b λq=>by rw[q,wB]at pJ;cases pJ).trans (f1 b o pJ),f2,f3.of_keeps λb o hb jF=>⟨o,(rest b (tf b o hb jF)).trans hb,rfl⟩,?_⟩ λb o hb jF=>⟨o.slots,(rest b (tf b o hb jF)).trans hb⟩);exact⟨oe,vs,tb,_,_,(rest e (Ne.symm wC)).trans he,tH,hd,h1,wB,wC,Heap.get?_update_self _ pI (Obj.isFreed_of_fields (Obj.data_mapFields nI _)),Obj.data_mapFields nI _,by simp[three]⟩
end
structure nJ(B:Heap)(fs ex:List Addr)(H H':Hp)(h h':Heap):Prop where
 a1:∀b o,H' b≠none->h'.get? b=some o->B.get? b=some o
 a2:∀b o,h.get? b=some o->H b=none->b∉fs->b∉ex->B.get? b=some o
 a3:∀b o,h.get? b=some o->b∉fs->b∉ex->∃o',B.get? b=some o'
section
variable {P:Program}{w:World}{B h h1 h2:Heap}{fs ex:List Addr}{H H':Hp}
def BA(u:Un fs ex H H' h h1)(k:nJ B fs ex H H' h h1)(hB:B.StaysIn h2)(up:h1.UpToSlots h2)(fr:∀b∈fs,∀o,h1.get? b=some o->∀vs,o.data≠.fields vs):Un fs ex H H' h h2 where
 keep:=λb o q n hb he=>hB _ _ (k.a2 b o q n hb he)
 slot:=λb o q n hb he=>by
  obtain⟨sl,e⟩:=u.slot b o q n hb he;obtain⟨wM,e'⟩:=up b _ e (fr b hb _ e);exact⟨wM,e'⟩
 free:=u.free
 there:=λb o q he=>by
  by_cases hb:b∈fs
  ·obtain⟨o',e⟩:=u.there b o q he;obtain⟨wM,e'⟩:=up b _ e (fr b hb _ e);exact⟨_,e'⟩
  ·obtain⟨o',e⟩:=k.a3 b o q hb he;exact⟨o',hB _ _ e⟩
 gB:=u.gB
 fY:=u.fY
 gC:=u.gC
def vy(ao:bK P w H' h1)(k:nJ B fs ex H H' h h1)(hB:B.StaysIn h2):nJ B fs ex H H' h h2/\bK P w H' h2:=by
 refine⟨⟨λb o n q=>?_,k.a2,k.a3⟩,ao.only λb u n q=>hB _ _ (k.a1 b u n q)⟩;cases e:H' b with
 |none=>exact absurd e n
 |some x=>
  obtain⟨u,hu⟩:=(ao b x e).has;have:=k.a1 b u n hu;have z:=hB _ _ this;rw[q]at z;cases z;exact this
end
structure Fly(P:Program)(w:World)(l:List Env)(H H':Hp)(h:Heap)(ea:Addr)(cls:Value)(h':Heap):Prop where
 ex:∃B a0,gZ B l ea cls a0 .none h'/\nJ B (bW l) [] H H' h h'
 un:Un (bW l) [] H H' h h'
 ao:bK P w H' h'
def bV(P:Program)(w:World):jz:=λl H s E e s'=>∃ea cls H',e=.ref ea/\s'.os=s.os/\AllBare s'.gens/\Fly P w l H H' s.heap ea cls s'.heap/\E cls none H'
def qY(X:Cx)(pins:List (Addr×Obj))(σ:St)(E:XK)(e:Value)(s':Shared):Prop:=∃ea cls H' B a0 fl,e=.ref ea/\Inv X pins σ H' s'/\gZ B X.stack ea cls a0 fl s'.heap/\
 nJ B X.fs X.ex X.H₀ H' X.s₀.heap s'.heap/\(∀p∈X.pn++pins,B.get? p.1=some p.2)/\E cls none H'
section
variable {X:Cx}{pins:List (Addr×Obj)}{σ:St}{H H':Hp}{s s':Shared}{B h2:Heap}
def Inv.up(I:Inv X pins σ H s)(k:nJ B X.fs X.ex X.H₀ H X.s₀.heap s.heap)(hp:∀p∈X.pn++pins,B.get? p.1=some p.2)(hB:B.StaysIn h2)(up:s.heap.UpToSlots h2):Inv X pins σ H {s with heap:=h2}:=by
 have ic:∀c v,s.heap.IsCell c v->h2.IsCell c v:=λc v ⟨o,e,d⟩=>by
  obtain⟨sl,e'⟩:=up c o e λvs z=>by rw[d]at z;cases z
  exact⟨_,e',d⟩
 obtain⟨m,hn,hl⟩:=I.loc;refine⟨I.ok,I.os,I.bare,BA I.base k hB up λb hb o e=>?_,⟨m,up.ns hn,λi x v e1 e2 e3=>?_⟩,λx c e=>?_,I.free,I.fj,λp kW=>?_,(vy I.ao k hB).2,I.len⟩
 ·obtain⟨_,o',e',d⟩:=I.gX.mem hb;rw[e]at e';cases e';exact d
 ·obtain⟨u,r,lk⟩:=hl i x v e1 e2 e3;refine⟨u,r,?_⟩;rcases lk with lk|⟨q,c,e,z⟩
  ·exact .inl lk
  ·exact .inr ⟨q,c,e,ic _ _ z⟩
 ·obtain⟨v,z⟩:=I.cell x c e;exact⟨v,ic _ _ z⟩
 ·exact⟨hB _ _ (hp p kW),(I.pin p kW).2⟩
def Inv.vI(I:Inv X pins σ H s){b:Addr}{o:Obj}(e:X.s₀.heap.get? b=some o)(h:b∉X.fs):b∉bW X.stack:=λz=>by
 rcases Y5.mp (I.kE b z)with q|q
 ·exact absurd (Zv (Zi e) I.ok.above) (by rw[q];exact Z2 _)
 ·exact h q
def Inv.flew{E:XK}{e:Value}(I:Inv X pins σ H s)(h:bV X.prog X.w X.stack H s E e s'):qY X pins σ E e s':=by
 obtain⟨ea,cls,H',rfl,os,bare,F,hE⟩:=h;obtain⟨B,a0,fl,k⟩:=F.ex;refine⟨ea,cls,H',B,a0,.none,rfl,I.nu os F.un F.ao bare (λb z=>absurd z (by simp)),fl,⟨k.a1,λb o e n hb hx=>?_,λb o e hb hx=>?_⟩,λp hp=>?_,hE⟩
 ·exact k.a2 b o (I.base.keep b o e n hb hx) (I.base.free b o e n hx) (I.vI e hb) (by simp)
 ·obtain⟨o',e'⟩:=I.base.there b o e hx;exact k.a3 b o' e' (I.vI e hb) (by simp)
 ·obtain⟨h1,h2,h3,h4,_⟩:=I.pin p hp;refine k.a2 p.1 p.2 h1 h2 (λz=>?_) (by simp);rcases Y5.mp (I.kE _ z)with q|q
  ·exact h3 q
  ·exact h4 q
end
def PX(X:Cx)(e:Expr)(t:XK->TE):Prop:=
 ∀(pins:List (Addr×Obj)) (s:Shared) (σ:St) (H:Hp) (Q:VK) (E:XK),Inv X pins σ H s->t E σ H Q->wpAny (model X.prog X.w) X.A (eval e X.env) (EP X pins σ Q) (qY X pins σ E) s
section
variable {X:Cx}{k:Nat}{f C:Addr}{fd:FuncData}{ps:List Str}{sp:Sp}{cj:List V}{ds:List Value}{x m:Str}{p pos apos:Pos}{e o:Expr}{es:List Expr}{ta:TE}{t:TA}
def aab{pins:List (Addr×Obj)}{σ:St}{H:Hp}{s:Shared}{Q:VK}{E:XK}{us:List Value}{vs:List V}(F:az X.prog X.w X.K X.mg X.base (bV X.prog X.w) k f fd ps sp)(hr:bR k X.A)(hb:Binds X.K fd ps ds)(hd:Vals cj ds)
  (I:Inv X pins σ H s)(r:Vals vs us)(h:sp (vs++cj) H Q E):wpAny (model X.prog X.w) X.A (call (.ref f) us) (EP X pins σ Q) (qY X pins σ E) s:=by
 have r2:Vals (vs++cj) (us++ds):=r.append hd;have hl:(us++ds).length=ps.length:=by rw[<-r2.length];exact F.len _ _ _ _ h
 refine wpAny_call (codeAny_mono (F.run X.A X.stack s H ⟨us,[]⟩ (us++ds) (vs++cj) Q E hr I.B2 (hb s us I.cR hl) r2 h) λr s' hq=>?_);cases r with
 |error e=>exact I.flew hq
 |ok fl=>
  cases fl with
  |ret u=>exact I.after hq
  |next=>exact Zu hq
  |brk=>exact Zu hq
  |cont=>exact Zu hq
end
def fQ(X:Cx)(E:XK)(e:Value)(s':Shared):Prop:=(∃pins σ,qY X pins σ E e s')\/
 ∃pins σ H h C ea args,e=.ref ea/\Inv X pins σ H {s' with heap:=h}/\Heap.MadeExcOf h s'.heap ea (.ref C) args/\E (.ref C) none H
section
variable {P:Program}{w:World}{K:PySem.W.Frag}{mg:Str->Option Value}{base:Heap}
def Inv.Jq{X:Cx}{pins:List (Addr×Obj)}{σ:St}{H:Hp}{s:Shared}(I:Inv X pins σ H s):∀b∈X.fs,∀o,s.heap.get? b=some o->∀vs,o.data≠.fields vs:=λb hb o e=>by
 obtain⟨_,o',e',d⟩:=I.gX.mem hb;rw[e]at e';cases e';exact d
def Inv.hold{X:Cx}{pins:List (Addr×Obj)}{σ:St}{H:Hp}{s:Shared}(I:Inv X pins σ H s):nJ (PySem.W.hideAll s.heap (bW X.stack)) X.fs X.ex X.H₀ H X.s₀.heap s.heap where
 a1:=λb o n e=>PySem.W.hideAll_get _ e λz=>n (I.oH b z)
 a2:=λb o e n hb hx=>PySem.W.hideAll_get _ (I.base.keep b o e n hb hx) (I.vI e hb)
 a3:=λb o e hb hx=>by
  obtain⟨o',e'⟩:=I.base.there b o e hx;exact⟨o',PySem.W.hideAll_get _ e' (I.vI e hb)⟩
def fQ.out{N:List Str}{qual:Str}{scope:Scope}{f:Addr}{cd:Value}{A:Around}{outer:List Env}{s:Shared}{H:Hp}{E:XK}{e:Value}{s':Shared}(h:fQ (fZ (bV P w) P w K mg base N qual scope f cd A outer s H E) E e s'):
  (fZ (bV P w) P w K mg base N qual scope f cd A outer s H E).xe e s':=by
 rcases h with⟨pins,σ,ea,cls,H',B,a0,fl,rfl,I,F,k,_,hE⟩|⟨pins,σ,H',h,C,ea,args,rfl,I,hx,hE⟩
 ·refine WY (L:=s.heap.objs.size) I.ok.frames rfl F λh' F' up=>?_;obtain⟨k',tK⟩:=vy I.ao k F'.1;exact⟨ea,cls,H',rfl,I.os,I.bare,⟨⟨B,a0,F',k'⟩,BA I.base k F'.1 up I.Jq,tK⟩,hE⟩
 ·refine wpAny_leaves_madeW (base:=PySem.W.hideAll h (bW (fZ (bV P w) P w K mg base N qual scope f cd A outer s H E).stack)) (L:=s.heap.objs.size) (h:=h) I.ok.frames rfl (λb o q=>PySem.W.of_hideAll _ q)
   (PySem.W.funFrames_hide I.stack λenv he a hf=>List.mem_filterMap.mpr ⟨env,he,hf⟩) hx λh' t F' _ _ up=>?_
  have k:=I.hold;obtain⟨k',tK⟩:=vy I.ao k F'.1;have up':h.UpToSlots h':=(Heap.UpToSlots.of_keeps hx.keeps).trans up;exact⟨ea,.ref C,H',rfl,I.os,I.bare,⟨⟨_,_,F',k'⟩,BA I.base k F'.1 up' I.Jq,tK⟩,hE⟩
def aI.gm{x qual:Str}{st:Stmt}{f:Addr}{fd:FuncData}{N ps:List Str}{k:Nat}{sp:Sp}(F:aI K x qual st f fd)(S:aM N ps (aF st))(len:∀vs H Q E,sp vs H Q E->vs.length=ps.length)
  (sW:∀(au:Value) (A:Around) (outer:List Env) (s:Shared) (H:Hp) (vs:List V) (Q:VK) (E:XK),bR k (A.deeper (envOfC qual (aF st) s.heap.objs.size f au))->sp vs H Q E->
   ∃t,dg ((fZ (bV P w) P w K mg base N qual (aF st) f au A outer s H E).cQ (fQ (fZ (bV P w) P w K mg base N qual (aF st) f au A outer s H E) E)) (fE st) t/\t {nx:=λ_ H'=>Q .aH H',rt:=Q} (start N vs) H):az P w K mg base (bV P w) (k+1) f fd ps sp:=by
 obtain⟨oc,od,kV,doc,pm,an,au,ct,j6,rfl,lk,bS⟩:=F.ex;refine Nd lk bS S len λA outer s H vs Q E hr kR=>?_;obtain⟨t,h,q⟩:=sW au A outer s H vs Q E hr kR;exact⟨t,λpins s1 σ1 H1 D I hw=>wpAny_mono (h pins s1 σ1 H1 D (I.cQ _) hw) (λ_ _ q=>q.gw) λ_ _ z=>fQ.out z,q⟩
end
abbrev fX:List Value:=[.type "ValueError",.type "Exception",.type "BaseException",.type "object"]
def VeP(K:PySem.W.Frag)(C:Addr):Prop:=∃(dd:Option Addr) (nm qn:Str) (bs sub:List Value) (B ns:Addr) (hd ab:Bool) (sn:List Str) (col:Option Bool) (k0 k1 k2 k3 k5:Option Value),
 K.lookup C=some ⟨.type "type",dd,.cls ⟨nm,bs,.ref C::.ref B::fX,ns,qn,hd,sn,sub,ab,col,false⟩, #[k0,k1,k2,k3,some (.builtin "ValueError.__new__"),k5]⟩/\PySem.W.nsOkIn K ns=true/\PySem.W.nsIn K ns "__init__"=some none/\PySem.W.tailIn K fX (.ref B::fX)=true
noncomputable def eM(K:PySem.W.Frag)(C:Addr):Bool:=@decide (VeP K C) (Classical.propDecidable _)
def aac{K:PySem.W.Frag}{h:Heap}{C:Addr}(X:K.In h)(q:eM K C=true):∃bm N nm qn bs hdct sn sub ab col dd k0 k1 k2 k3 k5 mN,h.get? C=some (excClassObj nm qn C N bs bm hdct sn sub ab col dd k0 k1 k2 k3 k5 "ValueError.__new__")/\h.Ns N mN/\mN "__init__"=none/\OwnTail h fX bm:=by
 obtain⟨dd,nm,qn,bs,sub,B,ns,hd,ab,sn,col,k0,k1,k2,k3,k5,ho,ao,C1,ht⟩:=@of_decide_eq_true _ (Classical.propDecidable _) q;exact⟨.ref B::fX,ns,nm,qn,bs,hd,sn,sub,ab,col,dd,k0,k1,k2,k3,k5,_,X _ _ ho,.of_isNs (PySem.W.isNs_of_in X ao),PySem.W.nsMap_none_of_in X ao C1,PySem.W.tail_of_in X ht⟩
def abJ(C:Addr)(E:XK)(ta:TA):TS:=λ_ σ H=>ta σ H λvs H1=>vs.length<=sizeLine/\E (.ref C) none H1
def ky{X:Cx}{E:XK}{C:Addr}{x:Str}{np cD pos:Pos}{e:Expr}{es:List Expr}{ta:TA}(hc:X.calm=true)(hg:Gl X x)(hm:X.mg x=some (.ref C))(q:eM X.K C=true)(ha:PA X.gG (e::es) ta)
  (gc:(x==("__debug__":Str))=false:=by decide)(he:starEach (e::es) X.env=(false,eval e X.env)::starEach es X.env:=by rfl)(bY:(backTo cD (starEach es X.env)).any (·.1)=false:=by rfl):
  PS (X.cQ (fQ X E)) (.Raise (some (.Call (.Name x np) (e::es) [] cD)) none pos) (abJ C E ta):=by
 intro pins s σ H D I h;have I0:=I.gw;obtain⟨bm,N,nm,qn,bs,hdct,sn,sub,ab,col,dd,k0,k1,k2,k3,k5,mN,hC,hN,C1,T⟩:=aac I0.mod.pw q
 refine wpAny_Raise_call_subT (C:=C) (nm:=nm) (q:=qn) (N:=N) (bs:=bs) (bm:=bm) (hdct:=hdct) (sn:=sn) (sub:=sub) (ab:=ab) (col:=col) (dd:=dd) (k0:=k0) (k1:=k1) (k2:=k2) (k3:=k3) (k5:=k5)
  F.excBase_ValueError (mN:=mN) (T.hasType (by decide+kernel)) (I0.ok.hd hc) (by rw[he];show(false||(backTo cD (starEach es X.env)).any (·.1))=false;rw[bY];rfl) C1 (sk I hg hm ⟨rfl,?_⟩ gc)
 have z:=ha cD pins s σ H _ (I0.cQ _) h;show wpAny _ _ (evalArgs (.ref C) true (backTo cD (starEach (e::es) X.env)) []) _ _ _;rw[he]at z⊢;refine Calls.evalArgs_plain (wpAny_mono z (λvs s2 ⟨ws,H1,I1,r,hl,hE⟩=>?_) λ_ _ z=>Zu z);have I1:=I1.gw;exact⟨rfl,by rw[<-r.length];exact hl,I1.bk _ _ hC,hN.keeps I1.bk,T.keeps I1.bk,λh' ea hx=>.inr ⟨pins,σ,H1,s2.heap,C,ea,vs,rfl,I1,hx,hE⟩⟩
def Cx.oW(X:Cx)(ea:Addr):Cx:={X with A:=X.A.mark (some (.ref ea)),calm:=false,xe:=λ_ _=>False}
section
variable {X:Cx}{pins:List (Addr×Obj)}{σ:St}{H:Hp}{s:Shared}{ea:Addr}
def Inv.oW(I:Inv X pins σ H s):Inv (X.oW ea) pins σ H s:=
 ⟨⟨I.ok.mod,I.ok.kind,I.ok.glob,I.ok.blt,I.ok.above,I.ok.inj,I.ok.has,I.ok.cab,(λz=>nomatch(show false=true from z)),I.ok.frames,I.ok.tP,I.ok.Cv,I.ok.bs,I.ok.iW,I.ok.kL,I.ok.tG,I.ok.gX,I.ok.nP⟩,I.os,I.bare,I.base,I.loc,I.cell,I.free,I.fj,I.pin,I.ao,I.len⟩
def Inv.uncaught(ok:X.Ok)(I:Inv (X.oW ea) pins σ H s):Inv X pins σ H s:=⟨ok,I.os,I.bare,I.base,I.loc,I.cell,I.free,I.fj,I.pin,I.ao,I.len⟩
end
section
variable {X:Cx}
end
structure qZ(P:Program)(w:World)(K:PySem.W.Frag)(mg:Str->Option Value)(base:Heap)(x:Str)(ps:List Str)(k:Nat)(sp:Sp) where
 f:Addr
 fd:FuncData
 ok:az P w K mg base (bV P w) k f fd ps sp
 qQ:mg x=some (.ref f)
 kp:PySem.W.keepIn K (.ref f)=true
 bd:Binds K fd ps []
def lL(e:DictEntry):Bool:=match e.key with
 |.str _ _=>true
 |_=>false
def hU{K:PySem.W.Frag}{N:Addr}{c:Value}{d:Option Addr}{es:Array DictEntry}{n:Nat}{sl:Array (Option Value)}(l:K.lookup N=some ⟨c,d,.dict es n,sl⟩)(h:es.toList.all lL=true):PySem.W.nsOkIn K N=true:=by
 unfold PySem.W.nsOkIn;rw[l];rw[Array.all_toList]at h;exact h
def oK{K:PySem.W.Frag}{C B ns:Addr}{dd od:Option Addr}{nm qn:Str}{bs sub:List Value}{hd ab:Bool}{sn:List Str}{col:Option Bool}{k0 k1 k2 k3 k5:Option Value}{oc:Value}{C3:ClassData}{j6:Array (Option Value)}
  (l:K.lookup C=some ⟨.type "type",dd,.cls ⟨nm,bs,.ref C::.ref B::fX,ns,qn,hd,sn,sub,ab,col,false⟩, #[k0,k1,k2,k3,some (.builtin "ValueError.__new__"),k5]⟩)(n1:PySem.W.nsOkIn K ns=true)(n2:PySem.W.nsIn K ns "__init__"=some none)
  (l2:K.lookup B=some ⟨oc,od,.cls C3,j6⟩)(n3:PySem.W.nsOkIn K C3.ns=true)(n4:PySem.W.nsIn K C3.ns "__init__"=some none):eM K C=true:=by
 have t:PySem.W.tailIn K fX (.ref B::fX)=true:=by
  unfold PySem.W.tailIn;dsimp only;rw[l2];dsimp only;rw[n3,n4]
  have:PySem.W.tailIn K fX fX=true:=by
   unfold PySem.W.tailIn;rw[beq_self_eq_true]
   rfl
  rw[this,Bool.or_eq_true];exact .inr rfl
 exact@ZN _ (Classical.propDecidable _) ⟨dd,nm,qn,bs,sub,B,ns,hd,ab,sn,col,k0,k1,k2,k3,k5,l,n1,n2,t⟩
def BC{X:Cx}{E:XK}:Passes (bV X.prog X.w) (X.cQ (fQ X E)) E:=λpins σ _ _ _ _ I h=>.inl ⟨pins,σ,I.gw.flew h⟩
def Ib{X:Cx}{E:XK}{L:Addr}(bM:X.stack=X.env::X.outer)(eB:X.env.frame=some L):PassesOwn (model X.prog X.w) X.A X.env (fQ X E):=by
 intro ev s' h
 have fin:∀(pins:List (Addr×Obj)) (σ:St) (H':Hp) (ea:Addr) (cls a0:Value) (B:Heap) (s1:Shared) (h2:Heap),Inv X pins σ H' s1->nJ B X.fs X.ex X.H₀ H' X.s₀.heap s1.heap->(∀p∈X.pn++pins,B.get? p.1=some p.2)->gZ B (X.env::X.outer) ea cls a0 (rawInt L) h2->s1.heap.UpToSlots h2->E cls none H'->
   cameBackBy (model X.prog X.w) X.A X.env (fQ X E) (.ref ea) {s1 with heap:=h2}:=by
  intro pins σ H' ea cls a0 B s1 h2 I k kp F2 up hE;unfold cameBackBy;obtain⟨_,_,_,oe,vs,T,oT,ts,he,_,hd,h1,_⟩:=id F2;refine wpAny_bind (wpAny_field (s:={s1 with heap:=h2}) he hd h1 ?_);rw[if_neg (by simp)];refine abI (s:={s1 with heap:=h2}) F2 λh3 F3 xc=>?_;exact .inl ⟨pins,σ,ea,cls,H',B,a0,_,rfl,I.up k kp F3.1 (up.trans xc),by rw[bM];exact F3,(vy I.ao k F3.1).1,kp,hE⟩
 rcases h with⟨pins,σ,ea,cls,H',B,a0,fl,rfl,I,F,k,kp,hE⟩|⟨pins,σ,H',h,C,ea,args,rfl,I,hx,hE⟩
 ·have mh:X.A.frames=some (X.env::X.outer):=by rw[<-bM];exact I.ok.frames
  have F':gZ B (X.env::X.outer) ea cls a0 fl s'.heap:=by rw[<-bM];exact F
  refine Av mh eB F' λh2 F2 xf=>?_;exact fin pins σ H' ea cls a0 B s' h2 I k kp F2 xf hE
 ·have mh:X.A.frames=some (X.env::X.outer):=by rw[<-bM];exact I.ok.frames
  obtain⟨t,he,_,_⟩:=hx.there;have st:(PySem.W.hideAll h (bW X.stack)).StaysIn s'.heap:=λb o q=>hx.keeps b o (PySem.W.of_hideAll _ q)
  have en:(PySem.W.hideAll h (bW X.stack)).get? ea=none:=by
   cases z:(PySem.W.hideAll h (bW X.stack)).get? ea with
   |none=>rfl
   |some o=>have:=PySem.W.of_hideAll _ z;rw[hx.new]at this;cases this
  have ff:s'.heap.FunFrames (PySem.W.hideAll h (bW X.stack)) (X.env::X.outer):=by
   rw[<-bM];exact(PySem.W.funFrames_hide I.stack λenv he a hf=>List.mem_filterMap.mpr ⟨env,he,hf⟩).of_keeps λb o hb _=>⟨o,hx.keeps b o hb,rfl⟩
  have kp:∀p∈X.pn++pins,(PySem.W.hideAll h (bW X.stack)).get? p.1=some p.2:=λp hp=>by
   obtain⟨h1,h2,h3,h4,_⟩:=I.pin p hp;refine PySem.W.hideAll_get _ h1 λz=>?_;rcases Y5.mp (I.kE _ z)with q|q
   ·exact h3 q
   ·exact h4 q
  unfold notedBy noteFrame;simp only[eB];refine wpAny_bind (wpAny_field (x:=.none) he rfl rfl ?_);rw[if_neg (by decide)];refine wpAny_entryW (a0:=.ref t) mh ff eB he st en rfl (show 1<6 by decide) rfl λh2 ⟨x1,x2,x3,x4⟩=>?_;exact fin pins σ H' ea (.ref C) (.ref t) _ {s' with heap:=h} h2 I I.hold kp ⟨x1,en,x2,x3⟩ ((Heap.UpToSlots.of_keeps hx.keeps).trans x4) hE
section
variable {X:Cx}{k:Nat}{f C:Addr}{fd:FuncData}{ps:List Str}{sp:Sp}{cj:List V}{ds:List Value}{x m:Str}{p pos apos:Pos}{e o:Expr}{es:List Expr}{ta:TE}{t:TA}
def aad{pl:Sem Bool}(he:PE X.gG o ta)(c:eV X.K C)(hm:Meth X.K C m f)(F:az X.prog X.w X.K X.mg X.base (bV X.prog X.w) k f fd ps sp)(hr:bR k X.A)(hb:Binds X.K fd ps ds)(hd:Vals cj ds)(ha:PA X.gG (e::es) t)
  (bM:starEach (e::es) X.env=(false,eval e X.env)::starEach es X.env:=by rfl)(bY:(backTo pos (starEach es X.env)).any (·.1)=false:=by rfl)
  (ht:eval (.Call (.Attribute o m apos) (e::es) [] pos) X.env=(do
   let ov<-eval o X.env
   standAt apos.atName
   let(f,first)<-holding [ov] (getMethod ov m pl)
   callWith pos f first (backTo pos (starEach (e::es) X.env)) (backToKw pos (keywordEach [] X.env))):=by rfl):
  PX X (.Call (.Attribute o m apos) (e::es) [] pos) (λE=>jR C m sp cj E ta t):=by
 intro pins s σ H Q E I h;refine PySem.W.methodCall_KW (pl:=pl) (wpAny_mono (he pins s σ H _ (I.cQ _) h) (λu s1 ⟨x,H1,I1,rx,a,dx,fs,ex,ea,l,q⟩=>?_) λ_ _ z=>Zu z) ht;subst ex;obtain rfl:u=Value.ref a:=rx;have I1:=I1.gw;refine zf I1 ea c hm l ?_;refine PySem.W.callWith_K (first:=[.ref a]) (h₀:=X.base) I.ok.mod.pw hm.kp (wpAny_mono (ha pos pins s1 σ H1 _ (I1.cQ _) q) (λus s2 ⟨vs,H2,I2,r,q2⟩=>⟨I2.gw.cR,?_⟩) λ_ _ z=>Zu z) bM bY;exact aab (us:=.ref a::us) (vs:=.ref a::vs) F hr hb hd I2.gw (.cons rfl r) q2
end
def q9(X:Cx)(st:Stmt)(t:XK->TS):Prop:=
 ∀(pins:List (Addr×Obj)) (s:Shared) (σ:St) (H:Hp) (D:Ends) (E:XK),Inv X pins σ H s->t E D σ H->wpAny (model X.prog X.w) X.A (exec st X.env) (SP X pins D) (qY X pins σ E) s
def acU(i:Nat)(te:XK->TE)(E:XK):TS:=λD σ H=>te E σ H λv H1=>D.nx (σ.set i (some v)) H1
def KL{X:Cx}{i:Nat}{x:Str}{e:Expr}{te:XK->TE}{px pa:Pos}(hN:X.N.Nodup)(hi:X.N[i]?=some x)(hx:Loc X.env.scope x)(he:PX X e te)(hs:swapsWith e (some (.Name x px)) pa.line X.env=pure false:=by rfl)(tQ:∀x,X.fn x=true:=by intro _;rfl):
  q9 X (.Assign [.Name x px] e pa) (acU i te):=by
 intro pins s σ H D E I h;refine wpAny_Assign_Name (wpAny_mono (he pins s σ H _ _ I h) (λv s1 ⟨y,H1,I1,r1,q1⟩=>?_) (λev s1 qX=>qX)) hs;exact lF I1 hN hi hx r1 (λs2 I2=>⟨_,H1,I2,q1⟩) (.inl (tQ x))
def abK{X:Cx}{c:Expr}{a b:Stmt}{tc:TT}{ta tb:XK->TS}{pos:Pos}(hc:PT X.gG c tc)(ha:q9 X a ta)(hb:q9 X b tb):q9 X (.If c [a] [b] pos) (λE=>NL tc (ta E) (tb E)):=by
 intro pins s σ H D E I h;refine wpAny_If (wpAny_mono (hc pins s σ H _ (I.cQ _) h) (λd s1 ⟨H1,I1,q1⟩=>?_) λ_ _ z=>Zu z);have I1:=I1.gw
 have fin:∀{st:Stmt}{t:XK->TS},q9 X st t->t E D σ H1->wpAny (model X.prog X.w) X.A (execs [st] X.env) (SP X pins D) (qY X pins σ E) s1:=λhp q=>by
  refine wpAny_execs_cons (aA (hp pins s1 σ H1 D E I1 q) λf s1 q=>?_);cases f with
  |next=>exact wpAny_execs_nil q
  |ret v=>exact q
  |brk=>exact q
  |cont=>exact q
 cases d with
 |true=>exact fin ha q1
 |false=>exact fin hb q1
def vX(K:PySem.W.Frag)(Ce:Addr)(tb:XK->TS)(ts:TS):TS:=λD σ H=>
 tb (λcls _ H'=>∃C,cls=.ref C/\PySem.W.exmOne K (.ref C) (.ref Ce)=some true/\ts D σ H') D σ H
def aae{X:Cx}{cx:Str}{b:Stmt}{tb:XK->TS}{ts:TS}{b₀:Stmt}{Nm:List Stmt}{Ce:Addr}{np hp pos:Pos}
  (hb:q9 X b tb)(hg:Gl X cx)(hm:X.mg cx=some (.ref Ce))(hsu:∀ea,dg (X.oW ea) (b₀::Nm) ts)
  (gc:(cx==("__debug__":Str))=false:=by decide)(bM:X.stack=X.env::X.outer:=by rfl)(eB:X.env.frame=some X.env.locals:=by rfl):
  PS X (.Try [b] [.ExceptHandler (some (.Name cx np)) none (b₀::Nm) hp] [] [] pos) (vX X.K Ce tb ts):=by
 intro pins s σ H D I h;refine wpAny_Try_except (wpAny_execs_cons (wpAny_mono (hb pins s σ H D _ I h) (λf s1 q=>?_) (λev s1 qX=>?_)))
 ·cases f with
  |next=>exact wpAny_execs_nil (wpAny_execs_nil q)
  |ret v=>exact q
  |brk=>exact q
  |cont=>exact q
 obtain⟨ea,cls,H',B,a0,fl,rfl,I1,F1,k1,kp,C,rfl,ad2,hE⟩:=qX;have mh:X.A.frames=some (X.env::X.outer):=by rw[<-bM];exact I.ok.frames
 have F1':gZ B (X.env::X.outer) ea (.ref C) a0 fl s1.heap:=by rw[<-bM];exact F1
 refine Av mh eB F1' λh2 F2 xf=>?_;refine Aw (s:={s1 with heap:=h2}) F2 λh3 F3 xc=>?_;have I3:=I1.up k1 kp F3.1 (xf.trans xc);obtain⟨oe,vs,g1,g2,g3⟩:=F3.cls;have LT:PySem.W.Looks (model X.prog X.w) h3 (typeOf (.ref ea)) (.ref C):=PySem.W.ClsAt.ty ⟨oe,g1,g2⟩;refine wpAny_handleBy_cons (codeAny_handlers_test ?_) (by intro q;cases q);refine sk (X:=X.oW ea) (I3.oW (ea:=ea)) hg hm ?_ gc;refine(PySem.W.exm_one (M:=model X.prog X.w) I3.cR LT ad2).at ?_;refine codeAny_handlers_suite ?_;refine Aw (s:={s1 with heap:=h3}) F3 λh4 F4 up4=>?_;have I4:=I1.up k1 kp F4.1 ((xf.trans xc).trans up4);refine wpAny_mono (hsu ea pins _ σ H' D (I4.oW (ea:=ea)) hE) (λf s7 q=>?_) λ_ _ z=>Zu z;cases f with
 |next=>obtain⟨σ',H7,I7,q⟩:=q;exact⟨_,_,I7.uncaught I.ok,q⟩
 |brk=>obtain⟨σ',H7,I7,q⟩:=q;exact⟨_,_,I7.uncaught I.ok,q⟩
 |cont=>obtain⟨σ',H7,I7,q⟩:=q;exact⟨_,_,I7.uncaught I.ok,q⟩
 |ret u=>obtain⟨v,σ',H7,I7,r,q⟩:=q;exact⟨v,_,_,I7.uncaught I.ok,r,q⟩
section
variable {X:Cx}{e:Expr}{te:TE}{pos:Pos}
def Jr{x:Str}{px:Pos}{elt iter:Expr}{scope:Scope}{cl:List (Str×Addr)}{wi:TI}(fr:List Str)(ix:List Nat)
  (hi:PI X (.Name x px) iter wi)(he:∀C s H fp,PE (X.Cj (x::fr) scope cl x C s H fp) elt te)
  (aV:∀y c,cl.lookup y=some c->X.env.cells.lookup y=some c)
  (gS:closureFor scope X.env=pure cl:=by rfl)(hc:X.calm=true:=by rfl)(de:scope.kind=.function:=by rfl)(Bb:∀n,cellsFrom n scope.names cl=(x,n)::cl:=by intro _;rfl)
  (Bz:∀h:Heap,pushCells h scope.names=h.push {cls:=.type "cell",data:=.cell none}:=by intro _;rfl)(Ck:cl.lookup x=none:=by rfl)
  (gO:(scope.names.all λp=>p.2 != .local||scope.names.lookup p.1==some .local)=true:=by rfl)(hx:(relabel scope X.env).names.lookup x=some .cell:=by rfl)
  (hN:(x::fr).Nodup:=by decide+kernel)(gi:ix.map (λi=>X.N[i]?)=fr.map some:=by rfl)
  (eB:(fr.all λy=>X.env.kindOf y==some .cell&&(relabel scope X.env).names.lookup y==some .cell)=true:=by rfl)
  (fK:((relabel scope X.env).names.all λp=>(p.2 != .cell&&p.2 != .free)||(p.1==x||(cl.lookup p.1).isSome))=true:=by rfl)
  (hs:∀x,foldedSetIterable iter X.env x=pure x:=by intro _;rfl):
  PE X (.ListComp elt [⟨.Name x px,iter,[],0⟩] scope pos) (sQ wi ix te):=by
 refine UK hc hi gS de Bb Bz Ck (λy hy e=>?_) hx hN gi (λy hy=>?_) aV (λy hy=>?_) he hs
 ·have:=ZC.mp gO y hy;rw[e]at this;simpa using this
 ·have:=ZC.mp eB y hy;rw[Bool.and_eq_true]at this;exact⟨eq_of_beq this.1,eq_of_beq this.2⟩
 ·have:∃k,(relabel scope X.env).names.lookup y=some k/\(k=.cell\/k=.free):=by
   rcases hy with h|h
   ·exact⟨_,h,.inl rfl⟩
   ·exact⟨_,h,.inr rfl⟩
  obtain⟨k,e,hk⟩:=this;have:=ZC.mp fK (y,k) (ZM e)
  have h2:(y==x||(cl.lookup y).isSome)=true:=by
   rcases hk with rfl|rfl<;>simpa using this
  rcases Bool.or_eq_true _ _|>.mp h2 with h|h
  ·exact .inl (eq_of_beq h)
  ·exact .inr (Option.isSome_iff_exists.mp h)
def Ic{K:PySem.W.Frag}{a:Addr}{xs:List V}{ix:List Nat}{te:TE}{σ:St}{H:Hp}{Q:VK}
  (h:∀D,H D=none->∃Pv:Nat->List V->Hp->Prop,Pv 0 [] (upd H D (.lst []))/\(∀i ys H2,i<=xs.length->Pv i ys H2->ah K H2 a xs/\H2 D=some (.lst ys)/\ys.length<sizeLine)/\
   (∀i x ys H2,xs[i]?=some x->Pv i ys H2->∀Q':VK,(∀y H3,H3 D=some (.lst ys)->Pv (i+1) (ys++[y]) (upd H3 D (.lst (ys++[y])))->Q' y H3)->te (bQ ix (some x) σ) H2 Q')/\∀ys H2,Pv xs.length ys H2->Q (.ref D) H2):
  Wr (jS (eU K a) ix te σ H Q):=by
 refine⟨λD hD=>?_⟩;obtain⟨Pv,p0,pl,ps,pq⟩:=h D hD;refine⟨λi m ys H2=>m=xs.length-i/\i<=xs.length/\Pv i ys H2,⟨xs.length,by simp,Zp _,p0⟩,?_⟩;rintro i m ys H2 ⟨rfl,hi,p⟩;obtain⟨e0,e1,e2⟩:=pl i ys H2 hi p;refine⟨e1,?_⟩;by_cases aP:i<xs.length
 ·refine .inr ⟨⟨_,xs[i],e0,by simp[aP]⟩,e2,λx H' y=>?_⟩;obtain⟨e,y⟩:=y;subst e;exact ps i x ys _ (y _ e0) p _ λy H3 e3 p3=>⟨e3,xs.length-(i+1),by omega,rfl,aP,p3⟩
 ·have e:i=xs.length:=by omega
  subst e;exact .inl ⟨⟨_,e0,Y3 _⟩,pq ys H2 p⟩
def za{K:PySem.W.Frag}{a:Addr}{xs:List V}{ix:List Nat}{tt:TT}{te:TE}{σ:St}{H:Hp}{Q:VK}
  (h:∀D,H D=none->∃Pv:Nat->List V->Hp->Prop,Pv 0 [] (upd H D (.lst []))/\(∀i ys H2,i<=xs.length->Pv i ys H2->ah K H2 a xs/\H2 D=some (.lst ys)/\ys.length<sizeLine)/\
   (∀i x ys H2,xs[i]?=some x->Pv i ys H2->∀(Q1:V->Hp->Prop) (Q0:Hp->Prop),(∀y H3,H3 D=some (.lst ys)->Pv (i+1) (ys++[y]) (upd H3 D (.lst (ys++[y])))->Q1 y H3)->(∀H3,Pv (i+1) ys H3->Q0 H3)->
    tt (bQ ix (some x) σ) H2 λb H3=>if b=true then te (bQ ix (some x) σ) H3 Q1 else Q0 H3)/\∀ys H2,Pv xs.length ys H2->Q (.ref D) H2):
  Wr (oJ (eU K a) ix tt te σ H Q):=by
 refine⟨λD hD=>?_⟩;obtain⟨Pv,p0,pl,ps,pq⟩:=h D hD;refine⟨λi m ys H2=>m=xs.length-i/\i<=xs.length/\Pv i ys H2,⟨xs.length,by simp,Zp _,p0⟩,?_⟩;rintro i m ys H2 ⟨rfl,hi,p⟩;obtain⟨e0,e1,e2⟩:=pl i ys H2 hi p;refine⟨e1,?_⟩;by_cases aP:i<xs.length
 ·refine .inr ⟨⟨_,xs[i],e0,by simp[aP]⟩,e2,λx H' y=>?_⟩;obtain⟨e,y⟩:=y;subst e;exact ps i x ys _ (y _ e0) p _ _ (λy H3 e3 p3=>⟨e3,xs.length-(i+1),by omega,rfl,aP,p3⟩) λH3 p3=>⟨xs.length-(i+1),by omega,rfl,aP,p3⟩
 ·have e:i=xs.length:=by omega
  subst e;exact .inl ⟨⟨_,e0,Y3 _⟩,pq ys H2 p⟩
inductive Mx(K:PySem.W.Frag)(x:V)(vs:List V)(H:Hp)(Q:VK):Prop
 |mk (l xs y j:_) (_:x=.ref l) (_:vs=[y]) (_:ah K H l xs) (_:gR y=true) (_:xs.all gR=true) (_:j<xs.length) (_:(xs[j]?.map λz=>fz z y)=some true) (_:(∀m,m<j->(xs[m]?.map λz=>fz z y)=some false)) (_:Q (.int (j:Nat)) H):Mx K x vs H Q
def Cn(K:PySem.W.Frag):V->List V->Hp->VK->Prop:=Mx K
def abL{x:V}{xs:List V}{us:List Value}(r:Vals xs us)(f:xs.all gR=true)(m:Nat):us[m]?.map (fP x)=xs[m]?.map λz=>fz z x:=by
 induction r generalizing m with
 |nil=>rfl
 |cons h t ih=>
  rw[List.all_cons,Bool.and_eq_true]at f;cases m with
  |zero=>simp[A1 h f.1]
  |succ m=>simpa using ih f.2 m
def UM:tU X "list.index" (Cn X.K):=by
 intro pins s σ H x vs v us Q I rx rv h;obtain⟨l,xs,y,j,rfl,rfl,hq,fy,fx,hj,h1,h0,q⟩:=h;cases rx;obtain⟨u,rfl,ru⟩:=rv.one;obtain⟨aj,r,pl,hz⟩:=I.list hq;obtain⟨⟨cls,dd,data,sl⟩,ho,hc,n,hd⟩:=id pl.isList;simp only at hc hd;subst hc hd;have hl:=r.length
 have at':∀(m:Nat) (hm:m<aj.toArray.size),(xs[m]?.map λz=>fz z y)=some (fP y aj.toArray[m]):=λm hm=>by
  rw[<-abL r fx m,Zd (by simpa using hm)];simp
 have kh:j<aj.toArray.size:=by simp;omega
 refine call_meets PySem.F.slot_list_index ⟨_,ho,rfl⟩ PySem.F.entry_list_index (PySem.F.args_list_index_2 _ _) (SeqAt.list_indexAt l aj.toArray n dd sl u (fP y) j kh ?_ ?_ ?_) ⟨ho,λw hw=>qg ru fy r fx w (by simpa using hw),⟨.int _,H,I.tok _,⟨_,rfl⟩,q⟩⟩
 ·have:xs.length<2^ 62:=ZP hz (by decide);omega
 ·rw[at' j kh]at h1;exact Zg h1
 ·intro m hm aP;have:=h0 m aP;rw[at' m hm]at this;exact Zg this
end
def uW{K:PySem.W.Frag}{a:Addr}{ns:List Int}{ix:List Nat}{te:TE}{σ:St}{H:Hp}{Q:VK}(f:Int->Int)(hq:ah K H a (ns.map V.int))(hl:ns.length<sizeLine)
  (he:∀z∈ns,∀(H':Hp) (Q':VK),Q' (.int (f z)) H'->te (bQ ix (some (.int z)) σ) H' Q')(h:∀D,H D=none->Q (.ref D) (upd H D (.lst ((ns.map f).map V.int)))):Wr (jS (eU K a) ix te σ H Q):=
 ⟨λD hD=>HD f hq hl he h D hD⟩
section
variable {X:Cx}{x:Str}{px pos:Pos}{elt iter:Expr}{scope:Scope}{cl:List (Str×Addr)}{fr:List Str}{ix:List Nat}{wi:TI}{te:TE}{tt:TT}{ifs:List Expr}
variable {eC:Str}{py qI:Pos}{kT:Nat}
def Mz(k:gV X scope cl x fr ix iter)(hi:PI X (.Name x px) iter wi)(aV:∀y c,cl.lookup y=some c->X.env.cells.lookup y=some c)
  (he:∀C s H fp,PE (X.cq (x::fr) scope cl C s H fp) elt te)(pF:qD (λY=>∃C s H fp,Y=X.cq (x::fr) scope cl C s H fp) ifs tt)(t9:X.N.Nodup)(ua:X.N[kT]?=some eC)(ub:Loc X.env.scope eC)
  (uc:swapsWith (.ListComp elt [⟨.Name x px,iter,ifs,0⟩] scope pos) (some (.Name eC py)) qI.line X.env=pure true)(hf:X.fn eC=true\/X.env.scope.names.lookup eC=some .local)
  {RR:St->VK->It->Hp->Prop}(hR:∀σ Q J H1,RR σ Q J H1->Wr (oJ J ix tt te σ H1 Q)):
  PS X (.Assign [.Name eC py] (.ListComp elt [⟨.Name x px,iter,ifs,0⟩] scope pos) qI) (nE (λσ H Q=>wi σ H (RR σ Q)) (gP kT)):=by
 intro pins s σ H DE I h;have h:wi σ H (RR σ (λx H1=>DE.nx (σ.set kT (some x)) H1)):=h;rw[exec_Assign_Name_used _ _ _ _ uc];refine wpAny_bind (wpAny_standAt (wpAny_bind ?_));show wpAny _ X.A (do let _<-comprehension (.ListComp elt [⟨.Name x px,iter,ifs,0⟩] scope pos) scope X.env _ (newList []) false (eval iter X.env) (some (assign (.Name eC py) X.env))) _ _ s;refine wpAny_bind (wpAny_mono (HV (use:=some (assign (.Name eC py) X.env)) (Post:=λ_ s'=>SP X pins DE .next s') k hi aV he pF I h (hR σ _) λs2 s4 H2 H3 fp C x' I2 f2 hC bC I4 qn _=>?_) (λ_ s' hq=>ZV (ZV hq)) λ_ _ e=>e);obtain⟨m4,kb,_⟩:=I4.loc;have IX:Inv X pins σ H3 s4:=I2.nu (s':=s4) (ch:=fp) I4.os I4.base I4.ao I4.bare (λb hb=>⟨(f2 b hb).2.2.2.1,(f2 b hb).2.1,(f2 b hb).2.2.2.2⟩)
 have OV:C≠X.env.locals:=by
  obtain⟨mL,hnL,_⟩:=I2.loc;rw[hC];exact Nat.ne_of_gt (ZW hnL.lt)
 show wpAny _ _ (assign (.Name eC py) X.env (.ref s2.heap.objs.size)) _ _ s4;refine wpAny_assign_Name (Hs (v:=.ref s2.heap.objs.size) IX t9 ua ub rfl (λs5 I5 ⟨a5,sb5,C4⟩=>?_) hf)
 have nCa:C≠a5:=by
  rcases C4 with rfl|C4
  ·exact OV
  ·obtain⟨v,oc,bX,_⟩:=I2.cell _ _ C4;exact(bC _ _ bX).symm
 refine⟨m4,kb.sameBut sb5 nCa,λh' sb=>⟨σ.set kT (some (.ref s2.heap.objs.size)),H3,?_,qn⟩⟩;refine I5.nu (s':={s5 with heap:=h'}) (ch:=[C]) rfl ⟨λb o e n hb hx=>(sb.2 b (λz=>hx (z▸List.mem_singleton_self _))).trans e,λb o e n hb hx=>⟨o.slots,(sb.2 b (λz=>hx (z▸List.mem_singleton_self _))).trans e⟩,λb o e n hx=>n,λb o e hx=>⟨o,(sb.2 b (λz=>hx (z▸List.mem_singleton_self _))).trans e⟩,λb xs e=>e,λb o u e=>e,λb ps e=>⟨#[],by rw[Array.append_empty];exact e⟩⟩ (I5.ao.sameBut I4.free sb) I5.bare λb hb=>?_;rw[Y2.mp hb];refine⟨.inr (ZQ I2.sz (by rw[hC];exact Nat.le_succ _)),OV,λx c e=>?_,λp hp=>?_⟩
 ·obtain⟨v,oc,bX,_⟩:=I2.cell x c e;exact bC _ _ bX
 ·exact bC _ _ (I2.pin p hp).1
def Js(kT:Nat)(fr:List Str)(ix:List Nat)(t9:X.N.Nodup)(hi:PI X (.Name x px) iter wi)(he:∀C s H fp,PE (X.cq (x::fr) scope cl C s H fp) elt te)(aV:∀y c,cl.lookup y=some c->X.env.cells.lookup y=some c)
  (ua:X.N[kT]?=some eC:=by rfl)(ub:Loc X.env.scope eC:=by first|exact .inl rfl|exact .inr rfl)
  (k:gV X scope cl x fr ix iter:=by exact⟨rfl,rfl,rfl,rfl,rfl,rfl,by decide+kernel,rfl,rfl,rfl,λ_=>rfl⟩)
  (uc:swapsWith (.ListComp elt [⟨.Name x px,iter,[],0⟩] scope pos) (some (.Name eC py)) qI.line X.env=pure true:=by rfl)(hf:X.fn eC=true\/X.env.scope.names.lookup eC=some .local:=by first|exact .inl rfl|exact .inr rfl|assumption):
  PS X (.Assign [.Name eC py] (.ListComp elt [⟨.Name x px,iter,[],0⟩] scope pos) qI) (nE (sQ wi ix te) (gP kT)):=Mz k hi aV he KC t9 ua ub uc hf λ_ _ _ _ h=>HW h
def UN{ct:Expr}(kT:Nat)(fr:List Str)(ix:List Nat)(t9:X.N.Nodup)(hi:PI X (.Name x px) iter wi)(ht:∀C s H fp,PT (X.cq (x::fr) scope cl C s H fp) ct tt)(he:∀C s H fp,PE (X.cq (x::fr) scope cl C s H fp) elt te)(aV:∀y c,cl.lookup y=some c->X.env.cells.lookup y=some c)
  (ua:X.N[kT]?=some eC:=by rfl)(ub:Loc X.env.scope eC:=by first|exact .inl rfl|exact .inr rfl)
  (k:gV X scope cl x fr ix iter:=by exact⟨rfl,rfl,rfl,rfl,rfl,rfl,by decide+kernel,rfl,rfl,rfl,λ_=>rfl⟩)
  (uc:swapsWith (.ListComp elt [⟨.Name x px,iter,[ct],0⟩] scope pos) (some (.Name eC py)) qI.line X.env=pure true:=by rfl)(hf:X.fn eC=true\/X.env.scope.names.lookup eC=some .local:=by first|exact .inl rfl|exact .inr rfl|assumption):
  PS X (.Assign [.Name eC py] (.ListComp elt [⟨.Name x px,iter,[ct],0⟩] scope pos) qI) (nE (Jo wi ix tt te) (gP kT)):=Mz k hi aV he (Mv ht) t9 ua ub uc hf λ_ _ _ _ h=>h
end
section
variable {X:Cx}{l o:Expr}{tl ta:TE}{tg:Expr}{f:Str}{pos:Pos} (K:PySem.W.Frag)
def C5(e:X.K=K):gd X (dM (lQ K)):=by subst e;exact aK
def C6(e:X.K=K)(hl:PE X l tl):PI X tg l (M8 K tl):=by subst e;exact bH hl
def pfl(e:X.K=K)(he:PE X o ta)(hb:attributeBase o f X.env (eval o X.env)=eval o X.env):PE X (.Attribute o f pos) (tJ K ta f):=by subst e;exact aS he hb
def Co(e:X.K=K):tU X "list.index" (Cn K):=by subst e;exact UM
def inK(e:X.K=K):b6 X (compareOp .In) (CK K false):=by subst e;exact Uv
def C7{T:String}{name:Str}{r:V->List V->Hp->VK->Prop}{to:TE}{t:TA}{e:Expr}{es:List Expr}{apos:Pos}(hK:X.K=K)(h:PE X (.Call (.Attribute o name apos) (e::es) [] pos) (CO X.K T r to t)):PE X (.Call (.Attribute o name apos) (e::es) [] pos) (CO K T r to t):=by subst hK;exact h
end
end L2
namespace My
open PySem L2
def oV:Option Int->V
 |none=>.aH
 |some n=>.int n
abbrev Tab:=List (List (Option Int))
abbrev Row(H:Hp)(a:Addr)(r:List (Option Int)):Prop:=H a=some (.lst (r.map oV))
structure Tb(H:Hp)(t:Addr)(as:List Addr)(T:Tab):Prop where
 is:H t=some (.lst (as.map V.ref))
 len:as.length=T.length
 rw:∀(i:Nat) a r,as[i]?=some a->T[i]?=some r->Row H a r
def cell(T:Tab)(c j:Nat):Option Int:=(T.getD c []).getD j none
def Tb.on{H H':Hp}{t:Addr}{as:List Addr}{T:Tab}(h:Tb H t as T)(k:∀a∈t::as,∀o,H a=some o->H' a=some o):Tb H' t as T:=
 ⟨k t (Y9 ..) _ h.is,h.len,λi a r e1 e2=>k a (Y4 _ (Y6 e1)) _ (h.rw i a r e1 e2)⟩
def Tb.same{H H':Hp}{t:Addr}{as:List Addr}{T:Tab}(h:Tb H t as T)(s:aa H H'):Tb H' t as T:=h.on λa _ o e=>s a o e
def Tb.at{H:Hp}{t:Addr}{as:List Addr}{T:Tab}(h:Tb H t as T){i:Nat}(hi:i<T.length):∃a,as[i]?=some a/\a∈as/\T[i]?=some (T.getD i [])/\Row H a (T.getD i []):=by
 have h1:i<as.length:=by rw[h.len];exact hi
 have e:T[i]?=some (T.getD i []):=by simp[List.getD,hi]
 exact⟨as[i],by simp[h1],ZA h1,e,h.rw i _ _ (by simp[h1]) e⟩
def Tb.live{H:Hp}{t:Addr}{as:List Addr}{T:Tab}(h:Tb H t as T):∀a∈t::as,∃o,H a=some o:=λa ha=>by
 rcases Y5.mp ha with e|e
 ·rw[e];exact⟨_,h.is⟩
 ·obtain⟨i,hi,e⟩:=ZD e;have iE:i<T.length:=by rw[<-h.len];exact hi
  exact⟨_,h.rw i a (T.getD i []) (by simp[<-e,hi]) (by simp[List.getD,iE])⟩
def Tb.set{H:Hp}{t a:Addr}{as:List Addr}{T:Tab}{i:Nat}(h:Tb H t as T)(nd:(t::as).Nodup)(e:as[i]?=some a)(r:List (Option Int)):Tb (upd H a (.lst (r.map oV))) t as (T.set i r):=by
 obtain⟨n1,n2⟩:=ZG.mp nd;have ma:=Y6 e;obtain⟨hi,ea⟩:=ZL.mp e;refine⟨?_,by rw[h.len,List.length_set],λj b s e1 e2=>?_⟩
 ·have nt:t≠a:=λz=>n1 (z▸ma);rw[ai nt];exact h.is
 ·by_cases hj:j=i
  ·subst hj;rw[e]at e1;cases e1;rw[List.getElem?_set_self (by rw[<-h.len];exact hi)]at e2;cases e2;exact ak
  ·rw[List.getElem?_set_ne (Ne.symm hj)]at e2
   have:b≠a:=λz=>by
    subst z;obtain⟨kh,eb⟩:=ZL.mp e1;exact hj ((List.getElem_inj n2).mp (eb.trans ea.symm))
   show upd H a _ b=_;rw[ai this];exact h.rw j b s e1 e2
def Tb.snoc{H:Hp}{t a:Addr}{as:List Addr}{T:Tab}{r:List (Option Int)}(h:Tb H t as T)(ha:Row H a r)(n:a≠t)(nt:t∉as):Tb (upd H t (.lst (as.map V.ref++[V.ref a]))) t (as++[a]) (T++[r]):=by
 refine⟨by rw[ak,Ze];rfl,by simp[h.len],λj b s e1 e2=>?_⟩
 have hb:b≠t:=by
  rcases Y7.mp (Y6 e1)with q|q
  ·exact λz=>nt (z▸q)
  ·rw[Y2.mp q];exact n
 show upd H t _ b=_;rw[ai hb];by_cases hj:j<as.length
 ·rw[Zs hj]at e1;rw[Zs (by rw[<-h.len];exact hj)]at e2;exact h.rw j b s e1 e2
 ·rw[Zt (by omega)]at e1;rw[Zt (by rw[<-h.len];omega), <-h.len]at e2
  have z:j-as.length=0:=by
   have:=(ZL.mp e1).1;simp at this;omega
  rw[z]at e1 e2;cases e1;cases e2;exact ha
structure bL(k n:Nat)(T:Tab):Prop where
 len:T.length=n
 row:∀r∈T,r.length=k
 bx:∀c j e,cell T c j=some e->0<=e/\e<n
 inj:∀c d j e,cell T c j=some e->cell T d j=some e->c=d
def WZ{T:Tab}{c:Nat}{r:List (Option Int)}(hc:c<T.length)(i j:Nat):cell (T.set c r) i j=if i=c then r.getD j none else cell T i j:=by
 unfold cell;by_cases h:i=c
 ·subst h;rw[if_pos rfl];simp[List.getD,List.getElem?_set_self hc]
 ·rw[if_neg h];simp[List.getD,List.getElem?_set_ne (Ne.symm h)]
open PySem.SeqAt PyProof.Rows
def dO:Option Int->PyData
 |none=>.none
 |some n=>.int n
def dR(r:List (Option Int)):PyData:=.list (r.map dO)
def o9(T:Tab):PyData:=.list (T.map dR)
def KN:∀r:List (Option Int),PyData.canLayAll0 (r.map dO)=true/\PyData.depthAll (r.map dO)=0/\noMixAll (r.map dO) (r.map dO)=true
 |[]=>⟨by simp[PyData.canLayAll0],by simp[PyData.depthAll],by simp[noMixAll]⟩
 |a::r=>by
  obtain⟨h1,h2,h3⟩:=KN r;cases a with
  |none=>exact⟨by rw[Zr,PyData.canLayAll0,h1];simp[dO,PyData.canLay0],by rw[Zr,PyData.depthAll,h2];simp[dO,PyData.depth],by rw[Zr,noMixAll,h3];simp[dO,noMix]⟩
  |some z=>exact⟨by rw[Zr,PyData.canLayAll0,h1];simp[dO,PyData.canLay0],by rw[Zr,PyData.depthAll,h2];simp[dO,PyData.depth],by rw[Zr,noMixAll,h3];simp[dO,noMix]⟩
def KO:∀T:Tab,PyData.canLayAll0 (T.map dR)=true/\PyData.depthAll (T.map dR)<=1/\noMixAll (T.map dR) (T.map dR)=true
 |[]=>⟨by simp[PyData.canLayAll0],by simp[PyData.depthAll],by simp[noMixAll]⟩
 |a::r=>by
  obtain⟨h1,h2,h3⟩:=KO r;obtain⟨g1,g2,g3⟩:=KN a;refine⟨?_,?_,?_⟩
  ·rw[Zr,PyData.canLayAll0,h1];simp[dR,PyData.canLay0,g1]
  ·rw[Zr,PyData.depthAll];have:(dR a).depth=1:=by rw[dR,PyData.depth,g2]
   omega
  ·rw[Zr,noMixAll,h3];simp[dR,noMix,g3]
def Ax{K:PySem.W.Frag}{H:Hp}:∀r:List (Option Int),iZ K H (r.map oV) (r.map dO)
 |[]=>.nil
 |none::r=>.cons .aH (Ax r)
 |some z::r=>.cons (.int z) (Ax r)
def Jt{K:PySem.W.Frag}{H:Hp}:∀{as:List Addr}{T:Tab},as.length=T.length->(∀(i:Nat) a r,as[i]?=some a->T[i]?=some r->Row H a r)->iZ K H (as.map V.ref) (T.map dR)
 |[],[],_,_=>.nil
 |a::as,r::T,e,h=>.cons (.lst (ah.of (h 0 a r rfl rfl)) (Ax r)) (Jt (by simpa using e) λi b s h1 h2=>h (i+1) b s (by simpa using h1) (by simpa using h2))
 |[],_::_,e,_=>by simp at e
 |_::_,[],e,_=>by simp at e
def Tb.dt{K:PySem.W.Frag}{H:Hp}{t:Addr}{as:List Addr}{T:Tab}(h:Tb H t as T):Dt K H (.ref t) (o9 T):=.lst (ah.of h.is) (Jt h.len h.rw)
def zY(T:Tab):shaped (o9 T)=true/\noMix (o9 T) (o9 T)=true:=by
 obtain⟨a1,a2,a3⟩:=KO T;refine⟨?_,?_⟩
 ·unfold shaped;rw[Bool.and_eq_true];refine⟨by simp[PyData.canLay0,o9,a1],ZN ?_⟩;simp only[PyData.depth,o9];omega
 ·simp[noMix,o9,a3]
def abM{K:PySem.W.Frag}{H:Hp}{x y:Addr}{as bs:List Addr}{T:Tab}{Q:VK}(hx:Tb H x as T)(hy:Tb H y bs T)(h:Q (.bl false) H):Wr (N0 K (.ref x) (.ref y) H Q):=by
 refine⟨⟨_,_,hx.dt,hy.dt,(zY T).1,(zY T).1,(zY T).2,?_⟩⟩;rw[PyProof.Rows.same_refl];exact h
def col(T:Tab)(j:Nat):List (Option Int):=T.map λr=>r.getD j none
def cols(k:Nat)(T:Tab):Tab:=(List.range k).map (col T)
def kz(k:Nat)(T:Tab):(cols k T).length=k:=by simp[cols]
def Ay{k j:Nat}(T:Tab)(h:j<k):(cols k T)[j]?=some (col T j):=by simp[cols,h]
def zA{k j:Nat}(T:Tab)(h:j<k):(cols k T).getD j []=col T j:=by simp[List.getD,Ay T h]
def lJ(T:Tab)(j:Nat):(col T j).length=T.length:=by simp[col]
def oC(T:Tab)(c j:Nat):(col T j).getD c none=cell T c j:=by
 unfold col cell;by_cases h:c<T.length
 ·simp[List.getD,h]
 ·simp[List.getD,ZI (Nat.le_of_not_lt h)]
def W0{r s:List (Option Int)}(hl:r.length=s.length)(h:∀j,r.getD j none=s.getD j none):r=s:=by
 refine List.ext_getElem hl λi h1 h2=>?_;have:=h i;simpa[List.getD,h1,h2]using this
def W2{k n:Nat}{T:Tab}(h:bL k n T){c:Nat}(hc:c<n):col (cols k T) c=T.getD c []:=by
 have hcT:c<T.length:=by rw[h.len];exact hc
 have hr:(T.getD c []).length=k:=h.row _ (by simp[List.getD,hcT]);refine W0 (by rw[lJ,kz,hr]) λj=>?_;rw[oC];unfold cell;by_cases hj:j<k
 ·rw[zA T hj,oC];rfl
 ·have e1:(cols k T).getD j []=[]:=by rw[List.getD,ZI (by rw[kz];omega)];rfl
  have e2:(T.getD c []).getD j none=none:=by
   generalize T.getD c []=r at hr;rw[List.getD,ZI (by omega)];rfl
  rw[e1,e2];rfl
def UO{k n:Nat}{T:Tab}(h:bL k n T):cols n (cols k T)=T:=by
 refine List.ext_getElem (by rw[kz,h.len]) λi h1 h2=>?_;have hi:i<n:=by rwa [kz]at h1
 have e:=Ay (cols k T) hi;rw[W2 h hi]at e;have e2:(cols n (cols k T))[i]?=some ((cols n (cols k T))[i]):=by simp[h1]
 rw[e]at e2;have e3:=Zg e2;rw[<-e3];simp[List.getD,h2]
structure iO(i:Nat)(ends fs:List (Option Int)):Prop where
 len:fs.length=ends.length
 iff:∀(e:Nat) (c:Int),fs.getD e none=some c↔∃m:Nat,c=m/\m<i/\ends.getD m none=some (e:Int)
abbrev vY(ends fs:List (Option Int)):Prop:=iO ends.length ends fs
def pK(k:Nat)(lo li:Addr):List (Str×V):=aY "inward" (.ref li) (aY "onward" (.ref lo) (aY "kinds" (.int k) []))
def vb(k:Nat)(lo li:Addr)(m:Str):(pK k lo li).lookup m=if m="inward" then some (.ref li)else if m="onward" then some (.ref lo)else if m="kinds" then some (.int k)else none:=by
 unfold pK;rw[mS,mS,mS];rfl
def abN(k:Nat)(lo li:Addr):(pK k lo li).lookup ("inward":Str)=some (.ref li):=by rw[vb,if_pos rfl]
def Bd(k:Nat)(lo li:Addr):(pK k lo li).lookup ("onward":Str)=some (.ref lo):=by rw[vb,if_neg (by decide),if_pos rfl]
def vZ(k:Nat)(lo li:Addr):(pK k lo li).lookup ("kinds":Str)=some (.int k):=by rw[vb,if_neg (by decide),if_neg (by decide),if_pos rfl]
def jo(k:Nat)(lo li:Addr){m:Str}(h1:¬m="inward":=by decide)(h2:¬m="onward":=by decide)(h3:¬m="kinds":=by decide):(pK k lo li).lookup m=none:=by rw[vb,if_neg h1,if_neg h2,if_neg h3]
structure df(C:Addr)(H:Hp)(g:Addr)(k n:Nat)(T:Tab)(fp:List Addr):Prop where
 ok:bL k n T
 k1:1<=k
 k5:k<=5
 n1:1<=n
 n7:n<=700
 ob:∃dx lo li as bs I,fp=g::((lo::as)++(li::bs))/\H g=some (.ins C dx (pK k lo li))/\Tb H lo as (cols k T)/\Tb H li bs I/\I.length=k/\∀j,j<k->vY (col T j) (I.getD j [])
def df.on{C:Addr}{H H':Hp}{g:Addr}{k n:Nat}{T:Tab}{fp:List Addr}(h:df C H g k n T fp)(s:∀a∈fp,∀o,H a=some o->H' a=some o):df C H' g k n T fp:=by
 obtain⟨dx,lo,li,as,bs,I,rfl,hg,h1,h2,h3,h4⟩:=h.ob;refine⟨h.ok,h.k1,h.k5,h.n1,h.n7,dx,lo,li,as,bs,I,rfl,s g (Y9 ..) _ hg,h1.on λa ha=>s a ?_,h2.on λa ha=>s a ?_,h3,h4⟩
 ·exact Y4 _ (Zc _ ha)
 ·exact Y4 _ (Zb _ ha)
def df.same{C:Addr}{H H':Hp}{g:Addr}{k n:Nat}{T:Tab}{fp:List Addr}(h:df C H g k n T fp)(s:aa H H'):df C H' g k n T fp:=h.on λa _ o e=>s a o e
end My
namespace My
open PySem L2
structure lT(K:PySem.W.Frag)(mg:Str->Option Value)(C:Addr):Prop where
 cl:eV K C
 nk:NoAttr K C "kinds"
 no:NoAttr K C "onward"
 ni:NoAttr K C "inward"
 C8:∃t,mg "MOST_KINDS"=some (.int 5 t)
 mcc:∃t,mg "MOST_CHAMBERS"=some (.int 700 t)
 sum:mg "sum"=none
def Row.same{H H':Hp}{a:Addr}{r:List (Option Int)}(h:Row H a r)(s:aa H H'):Row H' a r:=s _ _ h
def Az{r:List (Option Int)}{i:Nat}{y:V}(h:(r.map oV)[i]?=some y):∃z,y=oV z/\r[i]?=some z:=by
 rw[Zf]at h;cases e:r[i]? with
 |none=>rw[e]at h;cases h
 |some z=>rw[e]at h;exact⟨z,(Zg h).symm,rfl⟩
def AA{as:List Addr}{i:Nat}{y:V}(h:(as.map V.ref)[i]?=some y):∃z,y=V.ref z/\as[i]?=some z:=by
 rw[Zf]at h;cases e:as[i]? with
 |none=>rw[e]at h;cases h
 |some z=>rw[e]at h;exact⟨z,(Zg h).symm,rfl⟩
def getD_some{α:Type}{r:List α}{i:Nat}{z d:α}(h:r[i]?=some z):r.getD i d=z:=by rw[List.getD,h];rfl
def oM{K:PySem.W.Frag}{H:Hp}{a:Addr}{r:List (Option Int)}{i:Int}{Q:VK}(k:Nat)(hq:Row H a r)(hk:k<r.length)(h:Q (oV (r.getD k none)) H)(e:i=(k:Int):=by rfl):Wr (lQ K (.ref a) (.int i) H Q):=by
 refine⟨⟨a,_,i,_,rfl,rfl,ah.of hq,?_,h⟩⟩;subst e;exact mY (by rw[Zf,show r[k]?=some (r.getD k none)by simp[List.getD,hk]];rfl)
def kG{K:PySem.W.Frag}{H:Hp}{t a:Addr}{as:List Addr}{T:Tab}{i:Int}{Q:VK}(k:Nat)(hq:Tb H t as T)(ha:as[k]?=some a)(h:Q (.ref a) H)(e:i=(k:Int):=by rfl):Wr (lQ K (.ref t) (.int i) H Q):=by
 refine⟨⟨t,_,i,_,rfl,rfl,ah.of hq.is,?_,h⟩⟩;subst e;exact mY (by rw[Zf,ha];rfl)
def Ju{K:PySem.W.Frag}{t:Addr}{as:List Addr}{T:Tab}{j:Nat}{ix:List Nat}{te:TE}{σ:St}{H:Hp}{Q:VK}(h:Tb H t as T)(hl:T.length<=100000)
  (he:∀a r,r∈T->∀(H':Hp) (Q':VK),aa H H'->Row H' a r->Q' (oV (r.getD j none)) H'->te (bQ ix (some (.ref a)) σ) H' Q')(hQ:∀D,H D=none->Q (.ref D) (upd H D (.lst ((col T j).map oV)))):
  Wr (jS (eU K t) ix te σ H Q):=by
 let f:V->V:=λz=>match z with
  |.ref a=>(match H a with|some (.lst xs)=>xs.getD j .aH|_=>.aH)
  |_=>.aH
 have fe:∀a r,Row H a r->f (.ref a)=oV (r.getD j none):=λa r hr=>by
  show(match H a with|some (.lst xs)=>xs.getD j .aH|_=>.aH)=_;rw[show H a=some (.lst (r.map oV))from hr];show(r.map oV).getD j .aH=_;by_cases hj:j<r.length
  ·simp[List.getD,hj]
  ·simp[List.getD,ZI (Nat.le_of_not_lt hj),oV]
 refine⟨HG (xs:=as.map V.ref) f (ah.of h.is) (bw (by rw[Y1,h.len];omega)) (λz hz H' Q' s q=>?_) λD hD=>?_⟩
 ·obtain⟨a,ha,rfl⟩:=Zh.mp hz;obtain⟨i,hi,e⟩:=ZD ha;have iE:i<T.length:=by rw[<-h.len];exact hi
  have hr:=h.rw i a T[i] (by simp[<-e,hi]) (by simp[iE]);rw[fe a _ hr]at q;exact he a _ (ZA iE) H' Q' s (hr.same s) q
 ·have:(as.map V.ref).map f=(col T j).map oV:=by
   unfold col;rw[ZK,ZK];refine List.ext_getElem (by simp[h.len]) λi h1 h2=>?_;have h1':i<as.length:=by simpa using h1
   have mj:i<T.length:=by simpa using h2
   simp only[List.getElem_map,Function.comp];exact fe _ _ (h.rw i as[i] T[i] (by simp[h1']) (by simp[mj]))
  rw[this];exact hQ D hD
def jx{cells:List (Str×Addr)}{a:Str}{x:Addr}(h1:cells.lookup a=some x):∀z c,[(a,x)].lookup z=some c->cells.lookup z=some c:=λz c h=>by
 rw[List.lookup_cons]at h;cases e:z==a with
 |true=>rw[e]at h;rw[eq_of_beq e,h1];exact h
 |false=>rw[e]at h;cases h
def MA{H:Hp}{a:Addr}{n:Nat}{k:Int}{z:Option Int}{Q:VK}(ha:H a=some (.lst [oV z]))(hn:n<=100000)(h:∀(p:Addr) (H':Hp),H p=none->Row H' p (List.replicate n z)->aa H H'->Q (.ref p) H')(e:k=(n:Int):=by rfl):Wr (wq (.ref a) (.int k) H Q):=by
 subst e;refine⟨⟨a,n,[oV z],rfl,rfl,ha,by omega,by omega,?_,λp hp=>?_⟩⟩
 ·exact Z1 (bw (by simp;omega))
 ·have e:(List.replicate (n:Int).toNat [oV z]).flatten=(List.replicate n z).map oV:=by
   rw[Za];clear h hn
   induction n with
   |zero=>rfl
   |succ n ih=>rw[List.replicate_succ,List.flatten_cons,ih,List.replicate_succ,Zr];rfl
  rw[e];exact h p _ hp ak ((aa.refl H).upd hp)
inductive Ie(vs:List V)(H:Hp)(Q:VK)(ay:XK):Prop
 |mk (t u:Addr) (as bs:List Addr) (T:Tab) (_:vs=[.ref t,.ref u]) (_:Tb H t as T) (_:Tb H u bs T) (_:Q (.bl true) H):Ie vs H Q ay
def KP:Sp:=Ie
inductive Ig(vs:List V)(H:Hp)(Q:VK)(ay:XK):Prop
 |mk (k n:Nat) (t:Addr) (as:List Addr) (T:Tab) (_:vs=[.int k,.ref t]) (_:Tb H t as T) (_:bL k n T) (_:1<=k) (_:k<=5) (_:1<=n) (_:n<=700) (_:Q .aH H):Ig vs H Q ay
def KQ:Sp:=Ig
def vJ(ends:List (Option Int)):Prop:=(∀(c:Nat) e,ends.getD c none=some e->0<=e/\e<ends.length)/\∀(c d:Nat) e,ends.getD c none=some e->ends.getD d none=some e->c=d
def bL.ends{k n:Nat}{T:Tab}(h:bL k n T)(j:Nat):vJ (col T j):=by
 refine⟨λc e he=>?_,λc d e h1 h2=>?_⟩
 ·rw[oC]at he;rw[lJ,h.len];exact h.bx _ _ _ he
 ·rw[oC]at h1 h2;exact h.inj _ _ _ _ h1 h2
inductive KR(vs:List V)(H:Hp)(Q:VK)(ay:XK):Prop
 |mk (a:Addr) (ends:List (Option Int)) (_:vs=[.ref a]) (_:Row H a ends) (_:vJ ends) (_:ends.length<=1000) (_:∀(l:Addr) (fs:List (Option Int)) (H':Hp),H l=none->Row H' l fs->vY ends fs->aa H H'->Q (.ref l) H'):KR vs H Q ay
def Nn:Sp:=KR
inductive Jv(C:Addr)(vs:List V)(H:Hp)(Q:VK)(ay:XK):Prop
 |mk (g dx:Addr) (k n:Nat) (t:Addr) (as:List Addr) (T:Tab) (_:vs=[.ref g,.int k,.ref t]) (_:H g=some (.ins C dx [])) (_:Tb H t as T) (_:bL k n T) (_:1<=k) (_:k<=5) (_:1<=n) (_:n<=700) (_:∀(H':Hp) (fp:List Addr),df C H' g k n T fp->(∀a∈fp,a≠g->H a=none)->Kp g H H'->Q .aH H'):Jv C vs H Q ay
def Be(C:Addr):Sp:=Jv C
inductive Jw(C:Addr)(vs:List V)(H:Hp)(Q:VK)(ay:XK):Prop
 |mk (g:Addr) (k n:Nat) (T:Tab) (fp:List Addr) (_:vs=[.ref g]) (_:df C H g k n T fp) (_:Q (.int n) H):Jw C vs H Q ay
def vK(C:Addr):Sp:=Jw C
inductive Jx(C:Addr)(vs:List V)(H:Hp)(Q:VK)(ay:XK):Prop
 |mk (g:Addr) (k n:Nat) (T:Tab) (fp:List Addr) (_:vs=[.ref g]) (_:df C H g k n T fp) (_:∀(t:Addr) (as:List Addr) (H':Hp),H t=none->(∀a∈as,H a=none)->(t::as).Nodup->Tb H' t as T->aa H H'->Q (.ref t) H'):Jx C vs H Q ay
def vL(C:Addr):Sp:=Jx C
def iO.zero(ends:List (Option Int)):iO 0 ends (List.replicate ends.length none):=by
 refine⟨by simp,λe c=>⟨λh=>?_,λ⟨m,_,h,_⟩=>by omega⟩⟩;rw[List.getD,ZS]at h;split at h<;>cases h
def iO.skip{i:Nat}{ends fs:List (Option Int)}(h:iO i ends fs)(e:ends.getD i none=none):iO (i+1) ends fs:=by
 refine⟨h.len,λx c=>(h.iff x c).trans ⟨λ⟨m,a,b,d⟩=>⟨m,a,by omega,d⟩,λ⟨m,a,b,d⟩=>⟨m,a,?_,d⟩⟩⟩;by_cases q:m=i
 ·subst q;rw[e]at d;cases d
 ·omega
def iO.free{i x:Nat}{ends fs:List (Option Int)}(h:iO i ends fs)(ok:vJ ends)(e:ends.getD i none=some (x:Int)):fs.getD x none=none:=by
 cases q:fs.getD x none with
 |none=>rfl
 |some c=>
  obtain⟨m,_,hm,d⟩:=(h.iff x c).mp q;have:=ok.2 _ _ _ d e;omega
def iO.put{i x:Nat}{ends fs:List (Option Int)}(h:iO i ends fs)(ok:vJ ends)(e:ends.getD i none=some (x:Int)):iO (i+1) ends (fs.set x (some (i:Int))):=by
 have hx:x<fs.length:=by
  have:=(ok.1 i _ e).2;rw[h.len];omega
 refine⟨by rw[List.length_set];exact h.len,λy c=>?_⟩;by_cases q:y=x
 ·subst q;have e1:(fs.set y (some (i:Int))).getD y none=some (i:Int):=by rw[List.getD,List.getElem?_set_self hx];rfl
  rw[e1];constructor
  ·intro z;exact⟨i,(Zg z).symm,by omega,e⟩
  ·rintro⟨m,rfl,hm,d⟩;rw[ok.2 _ _ _ d e]
 ·have e1:(fs.set x (some (i:Int))).getD y none=fs.getD y none:=by rw[List.getD,List.getElem?_set_ne (λz=>q z.symm)];rfl
  rw[e1,h.iff];constructor
  ·rintro⟨m,a,b,d⟩;exact⟨m,a,by omega,d⟩
  ·rintro⟨m,a,b,d⟩;refine⟨m,a,?_,d⟩;by_cases z:m=i
   ·subst z;rw[e]at d;exact absurd (Zg d) (by omega)
   ·omega
structure dH(H H':Hp)(t:Addr)(as:List Addr)(T:Tab):Prop where
 ft:H t=none
 fa:∀a∈as,H a=none
 nd:(t::as).Nodup
 tb:Tb H' t as T
 sm:aa H H'
def dH.zero{H:Hp}{D:Addr}(h:H D=none):dH H (upd H D (.lst [])) D [] []:=⟨h,(λ_ z=>nomatch z),by simp,⟨ak,rfl,λi a r e=>by simp at e⟩,(aa.refl H).upd h⟩
def dH.snoc{H H2 H3:Hp}{D a:Addr}{as:List Addr}{T:Tab}{r:List (Option Int)}(h:dH H H2 D as T)(ha:H2 a=none)(hr:Row H3 a r)(s:aa H2 H3):dH H (upd H3 D (.lst (as.map V.ref++[V.ref a]))) D (as++[a]) (T++[r]):=by
 have nD:a≠D:=λz=>by rw[z,h.tb.is]at ha;cases ha
 obtain⟨n1,n2⟩:=ZG.mp h.nd
 have na:a∉as:=λz=>by
  obtain⟨o,e⟩:=h.tb.live a (Y4 _ z);rw[ha]at e;cases e
 refine⟨h.ft,λb hb=>?_,?_,(h.tb.same s).snoc hr nD n1,(h.sm.trans s).upd h.ft⟩
 ·rcases Y7.mp hb with q|q
  ·exact h.fa b q
  ·rw[Y2.mp q];exact h.sm.free ha
 ·refine ZG.mpr ⟨λz=>?_,qv n2 na⟩;rcases Y7.mp z with q|q
  ·exact n1 q
  ·exact nD (Y2.mp q).symm
def dH.row{H H2 H3:Hp}{D:Addr}{as:List Addr}{T:Tab}(h:dH H H2 D as T)(s:aa H2 H3):H3 D=some (.lst (as.map V.ref)):=s _ _ h.tb.is
def dH.set{H H2:Hp}{t a:Addr}{as:List Addr}{T:Tab}{i:Nat}(h:dH H H2 t as T)(e:as[i]?=some a)(r:List (Option Int)):dH H (upd H2 a (.lst (r.map oV))) t as (T.set i r):=
 ⟨h.ft,h.fa,h.nd,h.tb.set h.nd e r,h.sm.upd (h.fa a (Y6 e))⟩
def vc{lo:Int}{n:Nat}{ix:List Nat}{te:TE}{σ:St}{H:Hp}{Q:VK}(f:Nat->List (Option Int))(hn:n<=100000)
  (he:∀i,i<n->∀H2,aa H H2->∀Q':VK,(∀(a:Addr) (H3:Hp),H2 a=none->Row H3 a (f i)->aa H2 H3->Q' (.ref a) H3)->te (bQ ix (some (.int (lo+i))) σ) H2 Q')
  (hQ:∀D as H',dH H H' D as ((List.range n).map f)->Q (.ref D) H'):
  Wr (jS (gH lo n) ix te σ H Q):=by
 refine⟨zi λD hD=>⟨λi ys H2=>∃as,ys=as.map V.ref/\dH H H2 D as ((List.range i).map f)/\i<=n,⟨[],rfl,dH.zero hD,Zp _⟩,?_,?_,?_⟩⟩
 ·rintro i ys H2 ⟨as,rfl,h,hi⟩;refine⟨h.tb.is,bw ?_⟩;rw[Y1,h.tb.len];simp;omega
 ·rintro i ys H2 hi ⟨as,rfl,h,_⟩ Q' q';refine he i hi H2 h.sm Q' λa H3 ha hr s=>q' _ _ (h.row s) ⟨as++[a],by rw[Ze];rfl,?_,hi⟩;rw[List.range_succ,Ze];exact h.snoc ha hr s
 ·rintro ys H2 ⟨as,rfl,h,_⟩;exact hQ D as H2 h
def UP{K:PySem.W.Frag}{a0:Addr}{xs:List V}{ix:List Nat}{te:TE}{σ:St}{H:Hp}{Q:VK}(T:Tab)(hq:ah K H a0 xs)(hl:T.length=xs.length)(hn:xs.length<=100000)
  (he:∀(i:Nat) x r,xs[i]?=some x->T[i]?=some r->∀H2,aa H H2->∀Q':VK,(∀(a:Addr) (H3:Hp),H2 a=none->Row H3 a r->aa H2 H3->Q' (.ref a) H3)->te (bQ ix (some x) σ) H2 Q')
  (hQ:∀D as H',dH H H' D as T->Q (.ref D) H'):
  Wr (jS (eU K a0) ix te σ H Q):=by
 refine Ic (xs:=xs) λD hD=>⟨λi ys H2=>∃as,ys=as.map V.ref/\dH H H2 D as (T.take i),⟨[],rfl,by rw[List.take_zero];exact dH.zero hD⟩,?_,?_,?_⟩
 ·rintro i ys H2 hi ⟨as,rfl,h⟩;refine⟨h.sm.seq hq,h.tb.is,bw ?_⟩;rw[Y1,h.tb.len,Zx];omega
 ·rintro i x ys H2 hi ⟨as,rfl,h⟩ Q' q';have bT:i<T.length:=by rw[hl];exact(ZL.mp hi).1
  refine he i x T[i] hi (by simp[bT]) H2 h.sm Q' λa H3 ha hr s=>q' _ _ (h.row s) ⟨as++[a],by rw[Ze];rfl,?_⟩;rw[Zj bT];exact h.snoc ha hr s
 ·rintro ys H2 ⟨as,rfl,h⟩;rw[ZE (by omega)]at h;exact hQ D as H2 h
def Ih{K:PySem.W.Frag}{a0:Addr}{xs:List V}{ix:List Nat}{te:TE}{σ:St}{H:Hp}{Q:VK}(R:Nat->List (Option Int)->Prop)(hq:ah K H a0 xs)(hn:xs.length<=100000)
  (he:∀(i:Nat) x,xs[i]?=some x->∀H2,aa H H2->∀Q':VK,(∀(a:Addr) (r:List (Option Int)) (H3:Hp),H2 a=none->Row H3 a r->R i r->aa H2 H3->Q' (.ref a) H3)->te (bQ ix (some x) σ) H2 Q')
  (hQ:∀D as T H',dH H H' D as T->T.length=xs.length->(∀(i:Nat) r,T[i]?=some r->R i r)->Q (.ref D) H'):
  Wr (jS (eU K a0) ix te σ H Q):=by
 refine Ic (xs:=xs) λD hD=>⟨λi ys H2=>∃as T,ys=as.map V.ref/\dH H H2 D as T/\T.length=i/\i<=xs.length/\∀(j:Nat) r,T[j]?=some r->R j r,⟨[],[],rfl,dH.zero hD,rfl,Zp _,λj r e=>by simp at e⟩,?_,?_,?_⟩
 ·rintro i ys H2 hi ⟨as,T,rfl,h,e,_⟩;refine⟨h.sm.seq hq,h.tb.is,bw ?_⟩;rw[Y1,h.tb.len];omega
 ·rintro i x ys H2 hi ⟨as,T,rfl,h,e,_,hR⟩ Q' q';refine he i x hi H2 h.sm Q' λa r H3 ha hr eE s=>q' _ _ (h.row s) ⟨as++[a],T++[r],by rw[Ze];rfl,h.snoc ha hr s,by simp[e],(ZL.mp hi).1,λj r' e'=>?_⟩;by_cases hj:j<T.length
  ·rw[Zs hj]at e';exact hR j r' e'
  ·rw[Zt (by omega)]at e'
   have z:j-T.length=0:=by
    have:=(ZL.mp e').1;simp at this;omega
   rw[z]at e';cases e';have:j=i:=by omega
   rw[this];exact eE
 ·rintro ys H2 ⟨as,T,rfl,h,e,_,hR⟩;exact hQ D as T H2 h e hR
def Let(k:Nat)(l:Int):Prop:=l≠0/\ -(k:Int)<=l/\l<=k
def pre(T:Tab)(j c:Nat):Option Int:=((List.range T.length).find? λd=>decide (cell T d j=some (c:Int))).map λd=>(d:Int)
def a6(T:Tab)(c:Nat)(l:Int):Option Int:=if 0<l then cell T c (l-1).toNat else pre T (-l-1).toNat c
def bB(T:Tab)(o:Option Int)(w:List Int):Option Int:=w.foldl (λo l=>o.bind λc=>a6 T c.toNat l) o
def aaf{k n:Nat}{T:Tab}(h:bL k n T){c j:Nat}{e:Int}(he:cell T c j=some e):c<n:=by
 unfold cell at he;by_cases hc:c<T.length
 ·rw[h.len]at hc;exact hc
 ·simp[List.getD,ZI (Nat.le_of_not_lt hc)]at he
def jM{k n:Nat}{T:Tab}(h:bL k n T){j c:Nat}{d:Int}:pre T j c=some d↔∃m:Nat,d=m/\m<n/\cell T m j=some (c:Int):=by
 unfold pre;constructor
 ·intro e;cases q:(List.range T.length).find? (λd=>decide (cell T d j=some (c:Int)))with
  |none=>rw[q]at e;cases e
  |some m=>
   rw[q]at e;have h1:=List.find?_some q;have h1:cell T m j=some (c:Int):=by simpa using h1
   exact⟨m,(Zg e).symm,aaf h h1,h1⟩
 ·rintro⟨m,rfl,hm,e⟩;cases q:(List.range T.length).find? (λd=>decide (cell T d j=some (c:Int)))with
  |none=>
   have:=List.find?_eq_none.mp q m (by rw[h.len];exact ZU.mpr hm);simp[e]at this
  |some m'=>
   have h1:=List.find?_some q;have h1:cell T m' j=some (c:Int):=by simpa using h1
   have:=h.inj _ _ _ _ e h1;rw[this];rfl
def aag{a b:Option Int}(h:∀d,a=some d↔b=some d):a=b:=by
 cases a with
 |none=>cases b with
  |none=>rfl
  |some y=>exact absurd ((h y).mpr rfl) (by simp)
 |some x=>exact((h x).mp rfl).symm
def aah{k n:Nat}{T:Tab}(h:bL k n T){j c:Nat}{fs:List (Option Int)}(b:vY (col T j) fs):fs.getD c none=pre T j c:=by
 refine aag λd=>?_;rw[b.iff,jM h];constructor
 ·rintro⟨m,e,h1,h2⟩;rw[oC]at h2;rw[lJ,h.len]at h1;exact⟨m,e,h1,h2⟩
 ·rintro⟨m,e,h1,h2⟩;refine⟨m,e,by rw[lJ,h.len];exact h1,by rw[oC];exact h2⟩
def jP{k n:Nat}{T:Tab}(h:bL k n T){c:Nat}{l d:Int}(e:a6 T c l=some d):0<=d/\d<n:=by
 unfold a6 at e;split at e
 ·exact h.bx _ _ _ e
 ·obtain⟨m,rfl,hm,_⟩:=(jM h).mp e;omega
def rZ{k n:Nat}{T:Tab}(h:bL k n T){c d:Nat}{l:Int}(hl:l≠0)(hc:c<n)(e:a6 T c l=some (d:Int)):a6 T d (-l)=some (c:Int):=by
 unfold a6 at e⊢;by_cases hp:0<l
 ·rw[if_pos hp]at e;rw[if_neg (by omega),show(- -l-1).toNat=(l-1).toNat by omega];exact(jM h).mpr ⟨c,rfl,hc,e⟩
 ·rw[if_neg hp]at e;rw[if_pos (by omega)];obtain⟨m,e1,hm,e2⟩:=(jM h).mp e;have:m=d:=by omega
  subst this;exact e2
def oE(T:Tab)(w:List Int):bB T none w=none:=by
 unfold bB
 induction w with
 |nil=>rfl
 |cons a w ih=>exact ih
def oF(T:Tab)(c:Int)(l:Int)(w:List Int):bB T (some c) (l::w)=bB T (a6 T c.toNat l) w:=rfl
def vz(T:Tab)(o:Option Int)(v w:List Int):bB T o (v++w)=bB T (bB T o v) w:=by unfold bB;rw[List.foldl_append]
def vd(T:Tab)(o:Option Int)(v:List Int)(l:Int):bB T o (v++[l])=(bB T o v).bind λc=>a6 T c.toNat l:=by rw[vz];rfl
def Jy{T:Tab}{o:Option Int}{w:List Int}{i:Nat}{l:Int}(h:w[i]?=some l):bB T o (w.take (i+1))=(bB T o (w.take i)).bind λc=>a6 T c.toNat l:=by
 obtain⟨hi,e⟩:=ZL.mp h;rw[Zj hi,vd,e]
def W3{T:Tab}{o:Option Int}{w:List Int}(i:Nat)(h:bB T o (w.take i)=none):bB T o w=none:=by
 have:=vz T o (w.take i) (w.drop i);rw[List.take_append_drop,h,oE]at this;exact this
def Bf{k n:Nat}{T:Tab}(h:bL k n T){c d:Int}{w:List Int}(hc:0<=c/\c<n)(e:bB T (some c) w=some d):0<=d/\d<n:=by
 induction w generalizing c with
 |nil=>cases e;exact hc
 |cons l w ih=>
  rw[oF]at e;cases q:a6 T c.toNat l with
  |none=>rw[q,oE]at e;cases e
  |some c'=>rw[q]at e;exact ih (jP h q) e
inductive KS(C:Addr)(vs:List V)(H:Hp)(Q:VK)(ay:XK):Prop
 |mk (g:Addr) (k n:Nat) (T:Tab) (fp:List Addr) (c:Nat) (_:vs=[.ref g,.int c]) (_:df C H g k n T fp) (_:c<n) (_:Q .aH H):KS C vs H Q ay
def BD(C:Addr):Sp:=KS C
inductive KU(vs:List V)(H:Hp)(Q:VK)(ay:XK):Prop
 |mk (k:Nat) (wa:Addr) (ws:List Int) (_:vs=[.int k,.ref wa]) (_:aw H wa ws) (_:(∀l∈ws,Let k l)) (_:Q .aH H):KU vs H Q ay
def BE:Sp:=KU
inductive Jz(C:Addr)(vs:List V)(H:Hp)(Q:VK)(ay:XK):Prop
 |mk (g:Addr) (k n:Nat) (T:Tab) (fp:List Addr) (c:Nat) (l:Int) (_:vs=[.ref g,.int c,.int l]) (_:df C H g k n T fp) (_:c<n) (_:Let k l) (_:∀H',aa H H'->Q (oV (a6 T c l)) H'):Jz C vs H Q ay
def Bg(C:Addr):Sp:=Jz C
inductive Ii(C:Addr)(vs:List V)(H:Hp)(Q:VK)(ay:XK):Prop
 |mk (g:Addr) (k n:Nat) (T:Tab) (fp:List Addr) (c:Nat) (wa:Addr) (w:List Int) (_:vs=[.ref g,.int c,.ref wa]) (_:df C H g k n T fp) (_:c<n) (_:aw H wa w) (_:w.length<=100000) (_:(∀l∈w,Let k l)) (_:∀H',aa H H'->Q (oV (bB T (some (c:Int)) (cut w))) H'):Ii C vs H Q ay
def KW(C:Addr):Sp:=Ii C
inductive KY(vs:List V)(H:Hp)(Q:VK)(ay:XK):Prop
 |mk (t:Addr) (as:List Addr) (T:Tab) (k n c:Nat) (l:Int) (_:vs=[.ref t,.int c,.int l]) (_:Tb H t as T) (_:bL k n T) (_:n<=1000) (_:c<n) (_:Let k l) (_:Q (oV (a6 T c l)) H):KY vs H Q ay
def wc:Sp:=KY
inductive KZ(vs:List V)(H:Hp)(Q:VK)(ay:XK):Prop
 |mk (t:Addr) (as:List Addr) (T:Tab) (k n:Nat) (c:Nat) (wa:Addr) (w:List Int) (_:vs=[.ref t,.int c,.ref wa]) (_:Tb H t as T) (_:bL k n T) (_:n<=1000) (_:c<n) (_:aw H wa w) (_:w.length<=100000) (_:(∀l∈w,Let k l)) (_:Q (oV (bB T (some (c:Int)) w)) H):KZ vs H Q ay
def Np:Sp:=KZ
def W4{p:Int->Prop}{st:List Int}{x:Int}(h:∀l∈st,p l)(hx:p x):∀l∈push st x,p l:=by
 cases st with
 |nil=>intro l hl;rw[Y2.mp hl];exact hx
 |cons t r=>
  show∀l∈(if t= -x then r else x::t::r),p l;split
  ·exact λl hl=>h l (Y4 _ hl)
  ·intro l hl;rcases Y5.mp hl with e|e
   ·rw[e];exact hx
   ·exact h l e
def vA{p:Int->Prop}{w:List Int}(h:∀l∈w,p l):∀l∈cut w,p l:=by
 have:∀(w st:List Int),(∀l∈st,p l)->(∀l∈w,p l)->∀l∈w.foldl push st,p l:=by
  intro w
  induction w with
  |nil=>intro st h1 _;exact h1
  |cons x w ih=>intro st h1 h2;exact ih _ (W4 h1 (h2 x (Y9 ..))) λl hl=>h2 l (Y4 _ hl)
 intro l hl;unfold cut at hl;rw[List.mem_reverse]at hl;exact this w [] (λ_ z=>nomatch z) h l hl
end My
set_option autoImplicit false
namespace My
open PySem L2 PySem.SeqAt PyProof.Rows PySem.Spec
mutual
def jb(m:Bool):PyData->Bool
 |.none=>true
 |.bool _=> !m
 |.int _=>m
 |.str _=>true
 |.list xs=>lU m xs
 |.tuple xs=>lU m xs
 |.dict _=>false
def lU(m:Bool):List PyData->Bool
 |[]=>true
 |x::r=>jb m x&&lU m r
end
mutual
def JA(m:Bool):∀d d':PyData,jb m d=true->jb m d'=true->noMix d d'=true
 |.none,d',_,h=>by cases d'<;>first|rfl|(rw[noMix])
 |.bool a,d',g,h=>by
  cases d'<;>first|rfl|(rw[noMix];done)|(cases m<;>simp[jb]at g h)
 |.int a,d',g,h=>by
  cases d'<;>first|rfl|(rw[noMix];done)|(cases m<;>simp[jb]at g h)
 |.str a,d',_,h=>by cases d'<;>first|rfl|(rw[noMix])
 |.list xs,d',g,h=>by
  cases d' with
  |list ys=>
   rw[noMix];rw[jb]at g h;exact zb m xs ys g h
  |_=>rw[noMix]
 |.tuple xs,d',g,h=>by
  cases d' with
  |tuple ys=>
   rw[noMix];rw[jb]at g h;exact zb m xs ys g h
  |_=>rw[noMix]
 |.dict _,_,g,_=>by rw[jb]at g;cases g
def zb(m:Bool):∀xs ys:List PyData,lU m xs=true->lU m ys=true->noMixAll xs ys=true
 |[],[],_,_=>by rw[noMixAll]
 |[],_::_,_,_=>by rw[noMixAll]
 |_::_,[],_,_=>by rw[noMixAll]
 |x::xs,y::ys,g,h=>by
  rw[lU,Bool.and_eq_true]at g h;rw[noMixAll,JA m x y g.1 h.1,zb m xs ys g.2 h.2];rfl
end
structure Gd(m:Bool)(n:Nat)(d:PyData):Prop where
 lay:d.canLay0=true
 dep:d.depth<=n
 ok:jb m d=true
def Gd.int{n:Nat}(i:Int):Gd true n (.int i):=⟨by rw[PyData.canLay0],by rw[PyData.depth];omega,by rw[jb]⟩
def Gd.str{m:Bool}{n:Nat}{x:Str}(h:(PyData.str x).canLay0=true):Gd m n (.str x):=⟨h,by rw[PyData.depth];omega,by rw[jb]⟩
def Gd.mono{m:Bool}{n n':Nat}{d:PyData}(h:Gd m n d)(e:n<=n'):Gd m n' d:=⟨h.lay,ZQ h.dep e,h.ok⟩
def C9{m:Bool}{n:Nat}:∀{ds:List PyData},(∀d∈ds,Gd m n d)->PyData.canLayAll0 ds=true/\PyData.depthAll ds<=n/\lU m ds=true
 |[],_=>⟨by rw[PyData.canLayAll0],by rw[PyData.depthAll];omega,by rw[lU]⟩
 |d::r,h=>by
  obtain⟨a,b,c⟩:=C9 (ds:=r) λx hx=>h x (Y4 _ hx);have z:=h d (Y9 ..);refine⟨by rw[PyData.canLayAll0,a,z.lay];rfl,?_,by rw[lU,c,z.ok];rfl⟩;rw[PyData.depthAll];have:=z.dep;omega
def Gd.list{m:Bool}{n:Nat}{ds:List PyData}(h:∀d∈ds,Gd m n d):Gd m (n+1) (.list ds):=by
 obtain⟨a,b,c⟩:=C9 h;exact⟨by rw[PyData.canLay0];exact a,by rw[PyData.depth];omega,by rw[jb];exact c⟩
def Gd.tup{m:Bool}{n:Nat}{ds:List PyData}(h:∀d∈ds,Gd m n d):Gd m (n+1) (.tuple ds):=by
 obtain⟨a,b,c⟩:=C9 h;exact⟨by rw[PyData.canLay0];exact a,by rw[PyData.depth];omega,by rw[jb];exact c⟩
def Gd.shaped{m:Bool}{n:Nat}{d:PyData}(h:Gd m n d)(e:n<=64:=by decide):shaped d=true:=by
 unfold PySem.SeqAt.shaped;rw[h.lay,ZN (ZQ h.dep e)];rfl
section
variable {K:PySem.W.Frag}{H:Hp}{x y:V}{d d':PyData}{m:Bool}{Q:VK}
def abO(hx:Dt K H x d)(hy:Dt K H y d')(g:Gd m 64 d)(g':Gd m 64 d')(h:Q (.bl (same d d')) H):Wr (Cb K x y H Q):=
 ⟨⟨d,d',hx,hy,g.shaped,g'.shaped,JA m d d' g.ok g'.ok,h⟩⟩
def abP(hx:Dt K H x d)(hy:Dt K H y d)(g:Gd m 64 d)(h:Q (.bl true) H):Wr (Cb K x y H Q):=
 abO hx hy g g (by rw[PyProof.Rows.same_refl];exact h)
end
def Ij(x:Str)(h:(x.cps.all (· <0x110000))=true):(PyData.str x).canLay0=true:=by
 rw[PyData.canLay0];exact h
end My
namespace L2
open PySem
def vX.abQ{K:PySem.W.Frag}{Ce:Addr}{tb:XK->TS}{ts u:TS}{D:Ends}{σ:St}{H:Hp}
  (h:∀EE:XK,(∀(C:Addr) (H':Hp),PySem.W.exmOne K (.ref C) (.ref Ce)=some true->ts {D with nx:=u D} σ H'->EE (.ref C) none H')->tb EE {D with nx:=u D} σ H):qE (vX K Ce tb ts) u D σ H:=
 h _ λC H' e q=>⟨C,rfl,e,q⟩
section
variable {X:Cx}{E:XK}{x m:Str}{C:Addr}{ps:List Str}{k j:Nat}{sp:Sp}{o e:Expr}{es:List Expr}{ta:TE}{t:TA}{apos p pos:Pos}{pl:Sem Bool}
def MB{X:Cx}:Passes (bV X.prog X.w) X E0:=λ_ _ _ _ _ _ _ ⟨_,_,_,_,_,_,_,z⟩=>z.elim
def qZ.pe(R:qZ X.prog X.w X.K X.mg X.base x ps k sp)(hr:bR j X.A)(ha:PA (X.cQ (fQ X E)) (e::es) t)(hg:Gl X x:=by rfl)(hj:k<=j:=by decide)
  (gc:(x==("__debug__":Str))=false:=by decide)(he:starEach (e::es) X.env=(false,eval e X.env)::starEach es X.env:=by rfl)(bY:(backTo pos (starEach es X.env)).any (·.1)=false:=by rfl):
  PE (X.cQ (fQ X E)) (.Call (.Name x p) (e::es) [] pos) (vR sp [] E t):=Kf (X:=X.cQ (fQ X E)) R.ok (hr.mono hj) hg R.qQ R.kp R.bd .nil BC ha gc he bY
end
end L2
namespace My
open PySem L2
def zj{K:PySem.W.Frag}{a:Addr}{xs:List V}{ix:List Nat}{te:TE}{σ:St}{H:Hp}{Q:VK}(f:V->V)(hq:ah K H a xs)(hl:xs.length<sizeLine)
  (he:∀z∈xs,∀(H':Hp) (Q':VK),aa H H'->Q' (f z) H'->te (bQ ix (some z) σ) H' Q')(h:∀(D:Addr) (H':Hp),H D=none->H' D=some (.lst (xs.map f))->aa H H'->Q (.ref D) H'):Wr (jS (eU K a) ix te σ H Q):=
 ⟨λD hD=>HG f hq hl he (λD hD=>h D _ hD ak ((aa.refl H).upd hD)) D hD⟩
def cT{K:PySem.W.Frag}{H:Hp}{a:Addr}{xs:List V}{i:Int}{v:V}{Q:VK}(hq:H a=some (.tup xs))(e:iX xs i=some v)(h:Q v H):Wr (gD K (.ref a) (.int i) H Q):=⟨⟨a,xs,i,v,rfl,rfl,aZ.of hq,e,h⟩⟩
def jq{H:Hp}{xs:List V}{Q:VK}(hl:xs.length<=1000)(h:∀(p:Addr) (H':Hp),H p=none->H' p=some (.lst xs)->aa H H'->Q (.ref p) H'):Wr (wx xs H Q):=
 ⟨⟨Z1 (bw (by omega)),λp hp=>h p _ hp ak ((aa.refl H).upd hp)⟩⟩
def AB{H:Hp}{a b:Addr}{xs ys:List V}{Q:VK}(ha:H a=some (.lst xs))(hb:H b=some (.lst ys))(hl:xs.length+ys.length<=10000000)(h:∀(p:Addr) (H':Hp),H p=none->H' p=some (.lst (xs++ys))->aa H H'->Q (.ref p) H'):Wr (wo (.ref a) (.ref b) H Q):=
 ⟨⟨a,b,_,_,rfl,rfl,ha,hb,Z1 (bw hl),λp hp=>h p _ hp ak ((aa.refl H).upd hp)⟩⟩
section
variable {X:Cx}{E:XK}{x m:Str}{C:Addr}{ps:List Str}{k j:Nat}{sp:Sp}{o e:Expr}{es:List Expr}{ta:TE}{t:TA}{apos p pos:Pos}{pl:Sem Bool}
structure b3(P:Program)(w:World)(K:PySem.W.Frag)(mg:Str->Option Value)(base:Heap)(C:Addr)(m:Str)(ps:List Str)(k:Nat)(sp:Sp) where
 f:Addr
 fd:FuncData
 ok:az P w K mg base (bV P w) k f fd ps sp
 cl:eV K C
 mt:Meth K C m f
 bd:Binds K fd ps []
def b3.px(R:b3 X.prog X.w X.K X.mg X.base C m ps k sp)(hr:bR j X.A)(ho:PE X.gG o ta)(ha:PA X.gG (e::es) t)(hj:k<=j:=by decide)
  (he:starEach (e::es) X.env=(false,eval e X.env)::starEach es X.env:=by rfl)(bY:(backTo pos (starEach es X.env)).any (·.1)=false:=by rfl)
  (ht:eval (.Call (.Attribute o m apos) (e::es) [] pos) X.env=(do
   let ov<-eval o X.env
   standAt apos.atName
   let(f,first)<-holding [ov] (getMethod ov m pl)
   callWith pos f first (backTo pos (starEach (e::es) X.env)) (backToKw pos (keywordEach [] X.env))):=by rfl):
  PX X (.Call (.Attribute o m apos) (e::es) [] pos) (λE=>jR C m sp [] E ta t):=aad ho R.cl R.mt R.ok (hr.mono hj) R.bd .nil ha he bY ht
def b3.pe(R:b3 X.prog X.w X.K X.mg X.base C m ps k sp)(hr:bR j X.A)(ho:PE (X.cQ (fQ X E)) o ta)(ha:PA (X.cQ (fQ X E)) (e::es) t)(hj:k<=j:=by decide)
  (he:starEach (e::es) X.env=(false,eval e X.env)::starEach es X.env:=by rfl)(bY:(backTo pos (starEach es X.env)).any (·.1)=false:=by rfl)
  (ht:eval (.Call (.Attribute o m apos) (e::es) [] pos) X.env=(do
   let ov<-eval o X.env
   standAt apos.atName
   let(f,first)<-holding [ov] (getMethod ov m pl)
   callWith pos f first (backTo pos (starEach (e::es) X.env)) (backToKw pos (keywordEach [] X.env))):=by rfl):
  PE (X.cQ (fQ X E)) (.Call (.Attribute o m apos) (e::es) [] pos) (jR C m sp [] E ta t):=Ak (X:=X.cQ (fQ X E)) ho R.cl R.mt R.ok (hr.mono hj) R.bd .nil BC ha he bY ht
def b3.eY(R:b3 X.prog X.w X.K X.mg X.base C m ps k sp)(hr:bR j X.A)(ho:PE X o ta)(ha:PA X (e::es) t)(hj:k<=j:=by decide)
  (he:starEach (e::es) X.env=(false,eval e X.env)::starEach es X.env:=by rfl)(bY:(backTo pos (starEach es X.env)).any (·.1)=false:=by rfl)
  (ht:eval (.Call (.Attribute o m apos) (e::es) [] pos) X.env=(do
   let ov<-eval o X.env
   standAt apos.atName
   let(f,first)<-holding [ov] (getMethod ov m pl)
   callWith pos f first (backTo pos (starEach (e::es) X.env)) (backToKw pos (keywordEach [] X.env))):=by rfl):
  PE X (.Call (.Attribute o m apos) (e::es) [] pos) (jR C m sp [] E0 ta t):=Ak ho R.cl R.mt R.ok (hr.mono hj) R.bd .nil MB ha he bY ht
structure Ob(P:Program)(w:World)(K:PySem.W.Frag)(mg:Str->Option Value)(base:Heap)(C:Addr)(x:Str)(ps:List Str)(k:Nat)(sp:Sp) where
 f:Addr
 fd:FuncData
 ok:az P w K mg base (bV P w) k f fd ps sp
 OP:Mk K C f
 qQ:mg x=some (.ref C)
 bd:Binds K fd ps []
end
inductive JB(C:Addr)(cN:Addr)(vs:List V)(H:Hp)(Q:VK)(E:XK):Prop
 |mk (g:Addr) (k n:Nat) (T:Tab) (fp:List Addr) (c:Int) (_:vs=[.ref g,.int c]) (_:df C H g k n T fp) (_:(0<=c/\c<n->Q .aH H)) (_:(¬(0<=c/\c<n)->E (.ref cN) none H)):JB C cN vs H Q E
def MC(C:Addr)(cN:Addr):Sp:=JB C cN
inductive JC(cK:Addr)(vs:List V)(H:Hp)(Q:VK)(E:XK):Prop
 |mk (k:Nat) (wa:Addr) (ws:List Int) (_:vs=[.int k,.ref wa]) (_:aw H wa ws) (_:((∀l∈ws,Let k l)->Q .aH H)) (_:(¬(∀l∈ws,Let k l)->E (.ref cK) none H)):JC cK vs H Q E
def MD(cK:Addr):Sp:=JC cK
end My
namespace L2
open PySem PySem.Spec PyProof.Rows
def sC{X:Cx}{st:Stmt}{t:TS}{rest:List Stmt}{u:TS}(h1:PS X st t)(h2:dg X rest u):dg X (st::rest) (qE t u):=a9 h1 h2
def sO{X:Cx}{st:Stmt}{t:TS}(h:PS X st t):dg X [st] t:=a7 h
def sS{X:Cx}{i:Nat}{x:Str}{e:Expr}{te:TE}{pos pos':Pos}(hN:X.N.Nodup)(hi:X.N[i]?=some x)(hx:Loc X.env.scope x)(he:PE X e te)(hs:swapsWith e (some (.Name x pos')) pos.line X.env=pure false)(hf:X.fn x=true\/X.env.scope.names.lookup x=some .local):
  PS X (.Assign [.Name x pos'] e pos) (nE te (gP i)):=bJ hN hi hx he hs hf
def sR{X:Cx}{e:Expr}{te:TE}{pos:Pos}(he:PE X e te):PS X (.Return (some e) pos) (NK te):=fF he
def aC{X:Cx}{e:Expr}{te:TE}{es:List Expr}{t:TA}(ha:PE X e te)(hr:PA X es t)(hs:starEach (e::es) X.env=(false,eval e X.env)::starEach es X.env):PA X (e::es) (kH te t):=aq ha hr hs
def eL{X:Cx}{es:List Expr}{t:TA}{pos:Pos}(h:PA X es t):PE X (.List es pos) (Nh t):=eI h
def OW{α:Type}{us:List α}(h:us.length=1):∃a,us=[a]:=by
 match us,h with
 |[a],_=>exact⟨a,rfl⟩
def Dc{α:Type}{us:List α}(h:us.length=2):∃a b,us=[a,b]:=by
 cases us with
 |nil=>cases h
 |cons a r=>obtain⟨b,rfl⟩:=OW (us:=r) (by simpa using h);exact⟨a,b,rfl⟩
def OX{α:Type}{us:List α}(h:us.length=3):∃a b c,us=[a,b,c]:=by
 cases us with
 |nil=>cases h
 |cons a r=>obtain⟨b,c,rfl⟩:=Dc (us:=r) (by simpa using h);exact⟨a,b,c,rfl⟩
def OY{α:Type}{us:List α}(h:us.length=4):∃a b c d,us=[a,b,c,d]:=by
 cases us with
 |nil=>cases h
 |cons a r=>obtain⟨b,c,d,rfl⟩:=OX (us:=r) (by simpa using h);exact⟨a,b,c,d,rfl⟩
def us5{α:Type}{us:List α}(h:us.length=5):∃a b c d e,us=[a,b,c,d,e]:=by
 cases us with
 |nil=>cases h
 |cons a r=>obtain⟨b,c,d,e,rfl⟩:=OY (us:=r) (by simpa using h);exact⟨a,b,c,d,e,rfl⟩
def aN{N P:List Str}{sc:Scope}(a:sc.kind=.function:=by rfl)(b:sc.isCoroutine=false:=by rfl)(c:sc.isGenerator=false:=by rfl)(d:N.Nodup:=by decide+kernel)(e:N.take P.length=P:=by rfl)(f:∀x∈P,sc.names.lookup x=some .local\/sc.names.lookup x=some .cell:=by decide+kernel)(g:∀y∈sc.names,y.2≠.free:=by decide+kernel):aM N P sc:=⟨a,b,c,d,e,f,g⟩
end L2
namespace My
open PySem L2
section
variable {X:Cx}{E:XK}{m:Str}{C:Addr}{ps:List Str}{k j:Nat}{sp:Sp}{o:Expr}{ta:TE}{apos pos:Pos}{pl:Sem Bool}
def b3.pz(R:b3 X.prog X.w X.K X.mg X.base C m ps k sp)(hr:bR j X.A)(ho:PE (X.cQ (fQ X E)) o ta)(hj:k<=j:=by decide)
  (ht:eval (.Call (.Attribute o m apos) [] [] pos) X.env=(do
   let ov<-eval o X.env
   standAt apos.atName
   let(f,first)<-holding [ov] (getMethod ov m pl)
   callWith pos f first (backTo pos (starEach [] X.env)) (backToKw pos (keywordEach [] X.env))):=by rfl):
  PE (X.cQ (fQ X E)) (.Call (.Attribute o m apos) [] [] pos) (jR C m sp [] E ta kM):=zP (X:=X.cQ (fQ X E)) ho R.cl R.mt R.ok (hr.mono hj) R.bd .nil BC ht
def b3.pz0(R:b3 X.prog X.w X.K X.mg X.base C m ps k sp)(hr:bR j X.A)(ho:PE X o ta)(hj:k<=j:=by decide)
  (ht:eval (.Call (.Attribute o m apos) [] [] pos) X.env=(do
   let ov<-eval o X.env
   standAt apos.atName
   let(f,first)<-holding [ov] (getMethod ov m pl)
   callWith pos f first (backTo pos (starEach [] X.env)) (backToKw pos (keywordEach [] X.env))):=by rfl):
  PE X (.Call (.Attribute o m apos) [] [] pos) (jR C m sp [] E0 ta kM):=zP ho R.cl R.mt R.ok (hr.mono hj) R.bd .nil MB ht
end
def UQ{i:Nat}{v:V}{u:TS}{D:Ends}{σ:St}{H:Hp}(h:u D (σ.set i (some v)) H):qE (nE (tC v) (gP i)) u D σ H:=h
def K0{n:Nat}{rows:List Addr}{rd:Addr->List Int}(R:Rows n rows rd):∀(as:List Addr) (st:FS),bz n rows rd st->(∀a∈as,a∈rows)->
  bz n rows rd (as.foldl (gE rd) st)/\(as.foldl (gE rd) st).l=st.l/\(as.foldl (gE rd) st).ss=st.ss/\(as.foldl (gE rd) st).W.length<=st.W.length+2*as.length:=by
 intro as
 induction as with
 |nil=>intro st h _;exact⟨h,rfl,rfl,Y3 _⟩
 |cons a as ih=>
  intro st h ha;obtain⟨h1,h2,h3,h4⟩:=h.lay R (ha a (Y9 ..));obtain⟨g1,g2,g3,g4⟩:=ih _ h1 λb hb=>ha b (Y4 _ hb);refine⟨g1,g2.trans h2,g3.trans h3,?_⟩;simp only[List.foldl_cons,ZF];omega
def FL(n:Nat)(rs:List (List Int))(st:Ps)(l:List Int):Prop:=fD n rs st l/\closed rs l
def FL.unique{n:Nat}{rs:List (List Int)}{st:Ps}{l l':List Int}(h:FL n rs st l)(h':FL n rs st l'):l=l':=fD.unique h.1 h.2 h'.1 h'.2
open Classical in
noncomputable def fl(n:Nat)(rs:List (List Int)):List Int:=if h:∃l,FL n rs [] l then Classical.choose h else []
def FL.eq{n:Nat}{rs:List (List Int)}{l:List Int}(h:FL n rs [] l):l=fl n rs:=by
 unfold fl;have e:∃l,FL n rs [] l:=⟨l,h⟩;rw[dif_pos e];exact h.unique (Classical.choose_spec e)
inductive Ik(vs:List V)(H:Hp)(Q:VK)(ay:XK):Prop
 |mk (n:Nat) (lr ls:Addr) (ps start:Ps) (_:vs=[.int n,.ref lr,.ref ls]) (_:Tl H lr ps) (_:Tl H ls start) (_:(∀p∈ps,cC n p.2/\1<=p.2.getD 2 0/\p.2.getD 2 0<=5)) (_:(∀p∈start,fV n p.2)) (_:n<=700) (_:ps.length<=1000) (_:start.length<=1000) (_:∀(t l1 l2:Addr) (sp:Ps) (l:List Int) (H':Hp),H' t=some (.tup [.ref l1,.ref l2])->aw H' l1 l->Tl H' l2 sp->FL n (ps.map (·.2)) start l->(qU ps->wP ps (fN n start) (sp.map (·.2))=some l/\∀r∈sp.map (·.2),vW r)->sp.length<=9000000->H l1=none->H l2=none->aa H H'->Q (.ref t) H'):Ik vs H Q ay
def sE:Sp:=Ik
def W5{vs:List V}{H:Hp}{Q:VK}{E:XK}(h:sE vs H Q E):Jp vs H Q E:=by
 obtain⟨n,lr,ls,ps,start,rfl,tr,ts,gn,bM,hn,bY,xi,q⟩:=h;have tp:=tr.tp
 have R:Rows n (ps.map (·.1)) (b9 ps):=by
  refine⟨λr hr=>?_,λr hr=>?_⟩
  all_goals obtain⟨p,hp,rfl⟩:=Zh.mp hr
  all_goals rw[m7 tp hp]
  ·exact(gn p hp).1
  ·exact(gn p hp).2
 have ud:bz n (ps.map (·.1)) (b9 ps) (jD n start):=Mw bM;obtain⟨o1,o2,o3,o4⟩:=K0 R (ps.map (·.1)) (jD n start) ud λa ha=>ha;refine⟨n,lr,ls,ps,start,λst=>(fD n (ps.map (·.2)) start st.l/\t8 n (b9 ps) (λr s=>r∈ps.map (·.1)/\gY s) st)/\(qU ps->JP ps (fN n start) st),rfl,tr,ts,gn,bM,hn,bY,xi,?_,⟨⟨?_,?_⟩,λu=>?_⟩,?_⟩
 ·exact λst W x y s ok eW ⟨⟨j1,j2⟩,j3⟩=>⟨⟨UL tp bM R st W x y s ok eW j1,WX R (λr s h=>h) st W x y s ok eW j2⟩,λu=>Su u tp R st W x y s ok eW (j3 u)⟩
 ·unfold Bc;rw[o2];exact zX bM
 ·have:=aaa R (ps.map (·.1)) (jD n start) (λ_ _=>False) ud (λa ha=>ha) λr s z=>z.elim;exact λr s z=>this r s (.inr z)
 ·unfold Bc JP;rw[o2,o3];exact⟨rfl,(λ_ z=>nomatch z)⟩
 ·intro t l1 l2 sp st H' ht h1 h2 es ok j w hl f1 f2 s;refine q t l1 l2 sp st.l H' ht h1 h2 ⟨j.1.1,Ta tp ok j.1.2 w⟩ (λu=>?_) hl f1 f2 s;have:=j.2 u;rw[es];exact this
inductive En where
 |row(i a k b:Int)
 |ap(i a b:Int)
def En.num:En->Int
 |.row i _ _ _=>i
 |.ap i _ _=>i
def En.told:En->List V
 |.row _ a k b=>[.str "row",.int a,.int k,.int b]
 |.ap _ a b=>[.str "apart",.int a,.int b]
def En.vs(e:En):List V:=.int e.num::e.told
def En.re(e:En)(i:Int):En:=match e with
 |.row _ a k b=>.row i a k b
 |.ap _ a b=>.ap i a b
def aE(n:Nat)(a:Int):Prop:=0<=a/\a<n
def g5(k n:Nat):En->Prop
 |.row _ a kd b=>aE n a/\(1<=kd/\kd<=k)/\aE n b
 |.ap _ a b=>aE n a/\aE n b
def g5.mono{k n n':Nat}{e:En}(h:g5 k n e)(hn:n<=n'):g5 k n' e:=by
 cases e with
 |row i a kd b=>obtain⟨⟨a0,a1⟩,h2,⟨b0,b1⟩⟩:=h;exact⟨⟨a0,by omega⟩,h2,⟨b0,by omega⟩⟩
 |ap i a b=>obtain⟨⟨a0,a1⟩,⟨b0,b1⟩⟩:=h;exact⟨⟨a0,by omega⟩,⟨b0,by omega⟩⟩
def rowsOf(es:List En):List (List Int):=es.filterMap λe=>match e with
 |.row i a k b=>some [i,a,k,b]
 |.ap ..=>none
def cX(es:List En)(l:List Int):Option Int:=es.findSome? λe=>match e with
 |.row ..=>none
 |.ap i a b=>if l.getD a.toNat 0=l.getD b.toNat 0 then some i else none
def Tc(i a k b:Int)(es:List En)(l:List Int):cX (.row i a k b::es) l=cX es l:=rfl
def zB(i a b:Int)(es:List En)(l:List Int):cX (.ap i a b::es) l=if l.getD a.toNat 0=l.getD b.toNat 0 then some i else cX es l:=by
 unfold cX;rw[List.findSome?_cons];by_cases z:l.getD a.toNat 0=l.getD b.toNat 0
 ·rw[if_pos z];simp only[if_pos z]
 ·rw[if_neg z];simp only[if_neg z]
def qa(a b:List En):rowsOf (a++b)=rowsOf a++rowsOf b:=List.filterMap_append
def kq{k n:Nat}{es:List En}(k5:k<=5)(h:∀e∈es,g5 k n e):∀r∈rowsOf es,cC n r/\1<=r.getD 2 0/\r.getD 2 0<=5:=λr hr=>by
 obtain⟨e,he,h1⟩:=List.mem_filterMap.mp hr;have:=h e he;cases e with
 |row i a kd b=>
  cases h1;obtain⟨⟨a0,a1⟩,⟨k0,k1⟩,⟨b0,b1⟩⟩:=this;refine⟨⟨i,a.toNat,kd,b.toNat,?_,by omega,by omega⟩,?_,?_⟩
  ·rw[Zw a0,Zw b0]
  ·exact k0
  ·show kd<=5;omega
 |ap i a b=>cases h1
def oA(es:List En):(rowsOf es).length<=es.length:=List.length_filterMap_le ..
structure El(H:Hp)(fp:List Addr)(l:Addr)(es:List En):Prop where
 ob:∃ps:List (Addr×En),H l=some (.lst (ps.map λp=>V.ref p.1))/\(∀p∈ps,H p.1=some (.tup p.2.vs))/\ps.map (·.2)=es/\l∈fp/\∀p∈ps,p.1∈fp
def El.on{H H':Hp}{fp:List Addr}{l:Addr}{es:List En}(h:El H fp l es)(s:∀a∈fp,∀o,H a=some o->H' a=some o):El H' fp l es:=by
 obtain⟨ps,h1,h2,h3,h4,h5⟩:=h.ob;exact⟨ps,s l h4 _ h1,λp hp=>s _ (h5 p hp) _ (h2 p hp),h3,h4,h5⟩
def El.same{H H':Hp}{fp:List Addr}{l:Addr}{es:List En}(h:El H fp l es)(s:aa H H'):El H' fp l es:=h.on λa _ o e=>s a o e
def El.sub{H:Hp}{fp ue:List Addr}{l:Addr}{es:List En}(h:El H fp l es)(s:∀a∈fp,a∈ue):El H ue l es:=by
 obtain⟨ps,h1,h2,h3,h4,h5⟩:=h.ob;exact⟨ps,h1,h2,h3,s l h4,λp hp=>s _ (h5 p hp)⟩
def El.other{H:Hp}{fp:List Addr}{l x:Addr}{es:List En}{o:HO}(h:El H fp l es)(n:x∉fp):El (upd H x o) fp l es:=h.on λa ha _ e=>by
 have ne:a≠x:=λz=>n (z▸ha);rw[ai ne];exact e
structure Bk where
 k:Nat
 n:Nat
 es:List En
 c:Int
 hs:List (Nat×List En×Int)
def bf(k n:Nat)(ls:Addr)(c:Int)(lh:Addr):List (Str×V):=[("kinds",.int k),("many",.int n),("standing",.ref ls),("coming",.int c),("held",.ref lh)]
def Cp(k n:Nat)(ls:Addr)(c:Int)(lh:Addr):(bf k n ls c lh).lookup ("kinds":Str)=some (.int k):=rfl
def jX(k n:Nat)(ls:Addr)(c:Int)(lh:Addr):(bf k n ls c lh).lookup ("many":Str)=some (.int n):=rfl
def jy(k n:Nat)(ls:Addr)(c:Int)(lh:Addr):(bf k n ls c lh).lookup ("standing":Str)=some (.ref ls):=rfl
def wD(k n:Nat)(ls:Addr)(c:Int)(lh:Addr):(bf k n ls c lh).lookup ("coming":Str)=some (.int c):=rfl
def tL(k n:Nat)(ls:Addr)(c:Int)(lh:Addr):(bf k n ls c lh).lookup ("held":Str)=some (.ref lh):=rfl
def Nq(k n n':Nat)(ls:Addr)(c:Int)(lh:Addr):aY "many" (.int n') (bf k n ls c lh)=bf k n' ls c lh:=rfl
def BF(k n:Nat)(ls rf:Addr)(c:Int)(lh:Addr):aY "standing" (.ref rf) (bf k n ls c lh)=bf k n rf c lh:=rfl
def Nr(k n:Nat)(ls:Addr)(c c':Int)(lh:Addr):aY "coming" (.int c') (bf k n ls c lh)=bf k n ls c' lh:=rfl
def acV(k n:Nat)(ls:Addr)(c:Int)(lh cI:Addr):aY "held" (.ref cI) (bf k n ls c lh)=bf k n ls c cI:=rfl
structure eP(K:PySem.W.Frag)(mg:Str->Option Value)(C:Addr):Prop where
 cl:eV K C
 nk:NoAttr K C "kinds"
 nn:NoAttr K C "many"
 ns:NoAttr K C "standing"
 nc:NoAttr K C "coming"
 nh:NoAttr K C "held"
 mk5:∃t,mg "MOST_KINDS"=some (.int 5 t)
 xj:∃t,mg "MOST_MARKS"=some (.int 24 t)
 m40:∃t,mg "MOST_ENTRIES"=some (.int 40 t)
 row:∃t,mg "ROW"=some (.str "row" t)
 ap:∃t,mg "APART"=some (.str "apart" t)
structure Hl(H:Hp)(fp:List Addr)(lh:Addr)(hs:List (Nat×List En×Int)):Prop where
 ob:∃qs:List (Addr×Addr×(Nat×List En×Int)),H lh=some (.lst (qs.map λq=>V.ref q.1))/\(∀q∈qs,H q.1=some (.tup [.int q.2.2.1,.ref q.2.1,.int q.2.2.2.2])/\El H fp q.2.1 q.2.2.2.1/\q.1∈fp)/\qs.map (·.2.2)=hs
structure aQ(C:Addr)(H:Hp)(g lh:Addr)(B:Bk)(rest:List Addr):Prop where
 k1:1<=B.k
 k5:B.k<=5
 c8:B.n<=24
 cJ:B.es.length<=40
 ok:∀e∈B.es,g5 B.k B.n e
 ob:∃dx ls,H g=some (.ins C dx (bf B.k B.n ls B.c lh))/\El H rest ls B.es
 hl:Hl H rest lh B.hs
 hh:∀h∈B.hs,h.1<=24/\h.2.1.length<=40/\∀e∈h.2.1,g5 B.k h.1 e
 nl:lh∉rest
 ng:g∉rest
 lv:∀a∈rest,∃o,H a=some o
def Hl.on{H H':Hp}{fp:List Addr}{lh:Addr}{hs:List (Nat×List En×Int)}(h:Hl H fp lh hs)(s:∀a∈lh::fp,∀o,H a=some o->H' a=some o):Hl H' fp lh hs:=by
 obtain⟨qs,h1,h2,h3⟩:=h.ob;exact⟨qs,s lh (Y9 ..) _ h1,λq hq=>⟨s _ (Y4 _ (h2 q hq).2.2) _ (h2 q hq).1,(h2 q hq).2.1.on λa ha=>s a (Y4 _ ha),(h2 q hq).2.2⟩,h3⟩
def Hl.sub{H:Hp}{fp ue:List Addr}{lh:Addr}{hs:List (Nat×List En×Int)}(h:Hl H fp lh hs)(s:∀a∈fp,a∈ue):Hl H ue lh hs:=by
 obtain⟨qs,h1,h2,h3⟩:=h.ob;exact⟨qs,h1,λq hq=>⟨(h2 q hq).1,(h2 q hq).2.1.sub s,s _ (h2 q hq).2.2⟩,h3⟩
section
variable {C:Addr}{H H':Hp}{g lh:Addr}{B:Bk}{rest:List Addr}
def aQ.on(h:aQ C H g lh B rest)(s:∀a∈g::lh::rest,∀o,H a=some o->H' a=some o):aQ C H' g lh B rest:=by
 obtain⟨dx,ls,h1,h2⟩:=h.ob
 exact⟨h.k1,h.k5,h.c8,h.cJ,h.ok,⟨dx,ls,s g (Y9 ..) _ h1,h2.on λa ha=>s a (Y4 _ (Y4 _ ha))⟩,h.hl.on λa ha=>s a (Y4 _ ha),h.hh,h.nl,h.ng,λa ha=>by
  obtain⟨o,e⟩:=h.lv a ha;exact⟨o,s a (Y4 _ (Y4 _ ha)) _ e⟩⟩
def aQ.same(h:aQ C H g lh B rest)(s:aa H H'):aQ C H' g lh B rest:=h.on λa _ o e=>s a o e
def aQ.other{x:Addr}{o:HO}(h:aQ C H g lh B rest)(n:x∉g::lh::rest):aQ C (upd H x o) g lh B rest:=h.on λa ha _ e=>by
 have ne:a≠x:=λz=>n (z▸ha);rw[ai ne];exact e
def aQ.fld{dx ls:Addr}{B':Bk}(h:aQ C H g lh B rest)(hg:H g=some (.ins C dx (bf B.k B.n ls B.c lh))){rf:Addr}(el:El H rest rf B'.es)(ek:B'.k=B.k)(eh:B'.hs=B.hs)(c8:B'.n<=24)(cJ:B'.es.length<=40)(ok:∀e∈B'.es,g5 B'.k B'.n e):
  aQ C (upd H g (.ins C dx (bf B'.k B'.n rf B'.c lh))) g lh B' rest:=by
 have nV:lh≠g:=λz=>by
  obtain⟨qs,h1,_⟩:=h.hl.ob;rw[z,hg]at h1;cases h1
 refine⟨by rw[ek];exact h.k1,by rw[ek];exact h.k5,c8,cJ,ok,⟨dx,rf,ak,el.other h.ng⟩,?_,by rw[eh,ek];exact h.hh,h.nl,h.ng,λa ha=>by
  obtain⟨o,e⟩:=h.lv a ha;exact⟨o,by rw[ai (show a≠g from λz=>h.ng (z▸ha))];exact e⟩⟩
 rw[eh];refine h.hl.on λa ha o e=>?_
 have ne:a≠g:=λz=>by
  rcases Y5.mp ha with q|q
  ·exact nV (q▸z)
  ·exact h.ng (z▸q)
 rw[ai ne];exact e
def aQ.more{ba:List Addr}(h:aQ C H g lh B rest)(s:∀a∈rest,a∈ba)(n1:lh∉ba)(n2:g∉ba)(n3:∀a∈ba,∃o,H a=some o):aQ C H g lh B ba:=by
 obtain⟨dx,ls,h1,h2⟩:=h.ob;exact⟨h.k1,h.k5,h.c8,h.cJ,h.ok,⟨dx,ls,h1,h2.sub s⟩,h.hl.sub s,h.hh,n1,n2,n3⟩
def aQ.not{x:Addr}(h:aQ C H g lh B rest)(hx:H x=none):x∉g::lh::rest:=λz=>by
 rcases Y5.mp z with z|z
 ·obtain⟨dx,ls,h1,h2⟩:=h.ob;rw[<-z,hx]at h1;cases h1
 rcases Y5.mp z with z|z
 ·obtain⟨qs,h3,_⟩:=h.hl.ob;rw[<-z,hx]at h3;cases h3
 ·obtain⟨o,e⟩:=h.lv x z;rw[hx]at e;cases e
def aQ.lg(h:aQ C H g lh B rest):H lh≠none/\H g≠none:=by
 obtain⟨dx,ls,h1,h2⟩:=h.ob;obtain⟨qs,h3,_⟩:=h.hl.ob;exact⟨by rw[h3];exact(λz=>nomatch z),by rw[h1];exact(λz=>nomatch z)⟩
end
def Bk.add(B:Bk)(e:En):Bk:={B with es:=B.es++[e.re B.c],c:=B.c+1}
noncomputable def Bk.aD(B:Bk):List Int:=fl B.n (rowsOf B.es)
noncomputable def Bk.pb(B:Bk):En->Prop
 |.row _ a k b=>cX B.es (fl B.n (rowsOf B.es++[[B.c,a,k,b]]))≠none
 |.ap _ a b=>B.aD.getD a.toNat 0=B.aD.getD b.toNat 0
def Nw(H:Hp)(rest ba:List Addr):Prop:=∀x∈ba,x∈rest\/H x=none
def W7{K:PySem.W.Frag}{H:Hp}{a:Addr}{xs:List V}{Q:VK}(hq:H a=some (.lst xs))(h:∀(p:Addr) (H':Hp),H p=none->H' p=some (.lst xs)->aa H H'->Q (.ref p) H'):Wr (vT K [.ref a] H Q):=
 ⟨⟨a,_,rfl,.inl (ah.of hq),λp hp=>h p _ hp ak ((aa.refl H).upd hp)⟩⟩
inductive GY(vs:List V)(H:Hp)(Q:VK)(ay:XK):Prop
 |mk (l:Addr) (fp:List Addr) (es:List En) (_:vs=[.ref l]) (_:El H fp l es) (_:es.length<=1000) (_:∀(r:Addr) (ps:Ps) (H':Hp),H r=none->Tl H' r ps->ps.map (·.2)=rowsOf es->aa H H'->Q (.ref r) H'):GY vs H Q ay
def oG:Sp:=GY
inductive K4(vs:List V)(H:Hp)(Q:VK)(ay:XK):Prop
 |mk (l ll:Addr) (fp:List Addr) (es:List En) (ls:List Int) (k:Nat) (_:vs=[.ref l,.ref ll]) (_:El H fp l es) (_:aw H ll ls) (_:(∀e∈es,g5 k ls.length e)) (_:Q (oV (cX es ls)) H):K4 vs H Q ay
def BH:Sp:=K4
inductive Im(C:Addr)(vs:List V)(H:Hp)(Q:VK)(ay:XK):Prop
 |mk (g dx:Addr) (k:Nat) (_:vs=[.ref g,.int k]) (_:H g=some (.ins C dx [])) (_:1<=k) (_:k<=5) (_:∀(H':Hp) (lh:Addr) (rest:List Addr),aQ C H' g lh ⟨k,0,[],1,[]⟩ rest->H lh=none->(∀a∈rest,H a=none)->Kp g H H'->Q .aH H'):Im C vs H Q ay
def K5(C:Addr):Sp:=Im C
inductive GZ(C cF:Addr)(vs:List V)(H:Hp)(Q:VK)(E:XK):Prop
 |mk (g lh:Addr) (B:Bk) (rest:List Addr) (_:vs=[.ref g]) (_:aQ C H g lh B rest) (_:(B.n<24->∀H',aQ C H' g lh {B with n:=B.n+1} rest->Kp g H H'->Q (.int B.n) H')) (_:(¬B.n<24->E (.ref cF) none H)):GZ C cF vs H Q E
def JD(C cF:Addr):Sp:=GZ C cF
inductive JE(C cM:Addr)(vs:List V)(H:Hp)(Q:VK)(E:XK):Prop
 |mk (g lh:Addr) (B:Bk) (rest:List Addr) (a b:Int) (_:vs=[.ref g,.int a,.int b]) (_:aQ C H g lh B rest) (_:(aE B.n a/\aE B.n b->∀H',aa H H'->Q .aH H')) (_:(¬(aE B.n a/\aE B.n b)->∀H',aa H H'->E (.ref cM) none H')):JE C cM vs H Q E
def sT(C cM:Addr):Sp:=JE C cM
inductive JF(C cF:Addr)(vs:List V)(H:Hp)(Q:VK)(E:XK):Prop
 |mk (g lh:Addr) (B:Bk) (rest:List Addr) (_:vs=[.ref g]) (_:aQ C H g lh B rest) (_:(B.es.length<40->Q .aH H)) (_:(¬B.es.length<40->E (.ref cF) none H)):JF C cF vs H Q E
def Bh(C cF:Addr):Sp:=JF C cF
inductive Io(C:Addr)(vs:List V)(H:Hp)(Q:VK)(ay:XK):Prop
 |mk (g lh:Addr) (B:Bk) (rest:List Addr) (t:Addr) (e:En) (_:vs=[.ref g,.ref t]) (_:aQ C H g lh B rest) (_:H t=some (.tup e.told)) (_:g5 B.k B.n e) (_:B.es.length<40) (_:∀(H':Hp) (ba:List Addr),aQ C H' g lh (B.add e) ba->Nw H rest ba->Kp g H H'->Q (.int B.c) H'):Io C vs H Q ay
def AD(C:Addr):Sp:=Io C
def eu(fi st:Int)(ns:List Int):List (List Int):=(List.range ns.length).map (rowAt fi st ns)
inductive Ip(C cM cK:Addr)(vs:List V)(H:Hp)(Q:VK)(E:XK):Prop
 |mk (g lh:Addr) (B:Bk) (rest:List Addr) (a b:Int) (wa:Addr) (ws:List Int) (_:vs=[.ref g,.int a,.ref wa,.int b]) (_:aQ C H g lh B rest) (_:aw H wa ws) (_:ws.length<=600) (_:(aE B.n a/\aE B.n b->(∀l∈ws,Let B.k l)->∀(t r:Addr) (ps:Ps) (H':Hp),H' t=some (.tup [.ref r,.int (bP B.n a ws.length)])->Tl H' r ps->ps.map (·.2)=rowsOf B.es++eu B.n a ws->aa H H'->Q (.ref t) H')) (_:(¬(aE B.n a/\aE B.n b)->∀H',aa H H'->E (.ref cM) none H')) (_:(aE B.n a/\aE B.n b->¬(∀l∈ws,Let B.k l)->∀H',aa H H'->E (.ref cK) none H')):Ip C cM cK vs H Q E
def AE(C cM cK:Addr):Sp:=Ip C cM cK
def rR(fi st:Int)(ns:List Int):(eu fi st ns).length=ns.length:=by simp[eu]
def UR{fi st:Int}{ns:List Int}{i:Nat}(h:i<ns.length):(eu fi st ns)[i]?=some (rowAt fi st ns i):=by simp[eu,h]
def W8{H:Hp}{r:Addr}{ts:List Addr}{fi st:Int}{ns:List Int}(h1:H r=some (.lst (ts.map V.ref)))(h2:ts.length=ns.length)(h3:∀(j:Nat) t,ts[j]?=some t->H t=some (.tup ((rowAt fi st ns j).map V.int))):∃ps:Ps,Tl H r ps/\ps.map (·.2)=eu fi st ns:=by
 refine⟨ts.zip (eu fi st ns),⟨?_,λp hp=>?_⟩,?_⟩
 ·rw[h1];have:(ts.zip (eu fi st ns)).map (λp=>V.ref p.1)=((ts.zip (eu fi st ns)).map Prod.fst).map V.ref:=by rw[ZK];rfl
  rw[this,List.map_fst_zip (by rw[rR];omega)]
 ·obtain⟨i,hi,e⟩:=ZD hp;have nT:i<ts.length:=by rw[List.length_zip]at hi;omega
  have iE:i<ns.length:=by omega
  have e1:p=(ts[i],rowAt fi st ns i):=by
   rw[<-e,List.getElem_zip];congr 1;simp[eu]
  rw[e1];exact h3 i _ (by simp[nT])
 ·exact List.map_snd_zip (by rw[rR];omega)
def Tl.cat{H H':Hp}{a b p:Addr}{ps qs:Ps}(h1:Tl H a ps)(h2:Tl H b qs)(s:aa H H')(h:H' p=some (.lst ((ps.map λp=>V.ref p.1)++(qs.map λp=>V.ref p.1)))):Tl H' p (ps++qs):=by
 refine⟨by rw[h,Ze],λx hx=>?_⟩;rcases Y7.mp hx with z|z
 ·exact s _ _ (h1.tp x z)
 ·exact s _ _ (h2.tp x z)
def uZ{n:Nat}{a:Int}(h:aE n a)(i m:Nat)(hi:i<=m):0<=bP n a i/\bP n a i<((n+m:Nat):Int):=by
 unfold bP;obtain⟨h0,h1⟩:=h;split<;>omega
def zC{n k:Nat}{a:Int}{ws:List Int}(ha:aE n a)(k5:k<=5)(hl:∀l∈ws,Let k l):∀r∈eu n a ws,cC (n+ws.length) r/\1<=r.getD 2 0/\r.getD 2 0<=5:=λr hr=>by
 obtain⟨i,hi,rfl⟩:=Zh.mp hr;have hi:=ZU.mp hi;have hL:Let k (ws.getD i 0):=hl _ (by simp[List.getD,hi]);obtain⟨l0,l1,l2⟩:=hL;obtain⟨h0,h1⟩:=uZ ha i ws.length (by omega);unfold rowAt;by_cases z:0<ws.getD i 0
 ·rw[if_pos z];refine⟨⟨-1-(i:Int),(bP n a i).toNat,ws.getD i 0,n+i,?_,by omega,by omega⟩,?_,?_⟩
  ·rw[Zw h0];rfl
  ·show 1<=ws.getD i 0;omega
  ·show ws.getD i 0<=5;omega
 ·rw[if_neg z];refine⟨⟨-1-(i:Int),n+i, -ws.getD i 0,(bP n a i).toNat,?_,by omega,by omega⟩,?_,?_⟩
  ·rw[Zw h0];rfl
  ·show 1<= -ws.getD i 0;omega
  ·show -ws.getD i 0<=5;omega
def qo{ps:Ps}{rs:List (List Int)}{p:List Int->Prop}(e:ps.map (·.2)=rs)(h:∀r∈rs,p r):∀x∈ps,p x.2:=λx hx=>h _ (e▸Zh.mpr ⟨x,hx,rfl⟩)
def mV{ps:Ps}{rs:List (List Int)}(e:ps.map (·.2)=rs):ps.length=rs.length:=by rw[<-e,Y1]
noncomputable def Bk.jY(B:Bk)(a:Int)(ws:List Int):List Int:=fl (B.n+ws.length) (rowsOf B.es++eu B.n a ws)
inductive Iq(C cM cK:Addr)(vs:List V)(H:Hp)(Q:VK)(E:XK):Prop
 |mk (g lh:Addr) (B:Bk) (rest:List Addr) (a b:Int) (wa:Addr) (ws:List Int) (_:vs=[.ref g,.int a,.ref wa,.int b]) (_:aQ C H g lh B rest) (_:aw H wa ws) (_:ws.length<=600) (_:(aE B.n a/\aE B.n b->(∀l∈ws,Let B.k l)->(B.jY a ws).getD (bP B.n a ws.length).toNat 0=(B.jY a ws).getD b.toNat 0->∀(l2:Addr) (sp ps:Ps) (H':Hp),Tl H' l2 sp->ps.map (·.2)=rowsOf B.es++eu B.n a ws->(qU ps->wP ps (fN (B.n+ws.length) []) (sp.map (·.2))=some (B.jY a ws)/\∀r∈sp.map (·.2),vW r)->sp.length<=9000000->H l2=none->aa H H'->Q (.ref l2) H')) (_:(aE B.n a/\aE B.n b->(∀l∈ws,Let B.k l)->¬(B.jY a ws).getD (bP B.n a ws.length).toNat 0=(B.jY a ws).getD b.toNat 0->∀H',aa H H'->Q .aH H')) (_:(¬(aE B.n a/\aE B.n b)->∀H',aa H H'->E (.ref cM) none H')) (_:(aE B.n a/\aE B.n b->¬(∀l∈ws,Let B.k l)->∀H',aa H H'->E (.ref cK) none H')):Iq C cM cK vs H Q E
def AF(C cM cK:Addr):Sp:=Iq C cM cK
def Bk.JG(B:Bk)(a:Int):B.jY a []=B.aD:=by
 unfold Bk.jY Bk.aD;rw[show eu B.n a []=[]from rfl,ZX];rfl
inductive JH(C cM:Addr)(vs:List V)(H:Hp)(Q:VK)(E:XK):Prop
 |mk (g lh:Addr) (B:Bk) (rest:List Addr) (a b:Int) (_:vs=[.ref g,.int a,.int b]) (_:aQ C H g lh B rest) (_:(aE B.n a/\aE B.n b->B.aD.getD a.toNat 0=B.aD.getD b.toNat 0->∀(l2:Addr) (sp ps:Ps) (H':Hp),Tl H' l2 sp->ps.map (·.2)=rowsOf B.es->(qU ps->wP ps (fN B.n []) (sp.map (·.2))=some B.aD/\∀r∈sp.map (·.2),vW r)->sp.length<=9000000->H l2=none->aa H H'->Q (.ref l2) H')) (_:(aE B.n a/\aE B.n b->¬B.aD.getD a.toNat 0=B.aD.getD b.toNat 0->∀H',aa H H'->Q .aH H')) (_:(¬(aE B.n a/\aE B.n b)->∀H',aa H H'->E (.ref cM) none H')):JH C cM vs H Q E
def MF(C cM:Addr):Sp:=JH C cM
inductive Ir(C cM:Addr)(vs:List V)(H:Hp)(Q:VK)(E:XK):Prop
 |mk (g lh:Addr) (B:Bk) (rest:List Addr) (a b:Int) (_:vs=[.ref g,.int a,.int b]) (_:aQ C H g lh B rest) (_:(aE B.n a/\aE B.n b->∀H',aa H H'->Q (.bl (decide (B.aD.getD a.toNat 0=B.aD.getD b.toNat 0))) H')) (_:(¬(aE B.n a/\aE B.n b)->∀H',aa H H'->E (.ref cM) none H')):Ir C cM vs H Q E
def K6(C cM:Addr):Sp:=Ir C cM
inductive Iu(C cM cK cF cB:Addr)(vs:List V)(H:Hp)(Q:VK)(E:XK):Prop
 |mk (g lh:Addr) (B:Bk) (rest:List Addr) (a kd b:Int) (_:vs=[.ref g,.int a,.int kd,.int b]) (_:aQ C H g lh B rest) (_:(aE B.n a/\aE B.n b->(1<=kd/\kd<=B.k)->B.es.length<40->¬B.pb (.row 0 a kd b)->∀(H':Hp) (ba:List Addr),aQ C H' g lh (B.add (.row 0 a kd b)) ba->Nw H rest ba->Kp g H H'->Q (.int B.c) H')) (_:(¬(aE B.n a/\aE B.n b)->∀H',aa H H'->E (.ref cM) none H')) (_:(aE B.n a/\aE B.n b->¬(1<=kd/\kd<=B.k)->∀H',aa H H'->E (.ref cK) none H')) (_:(aE B.n a/\aE B.n b->(1<=kd/\kd<=B.k)->¬B.es.length<40->∀H',aa H H'->E (.ref cF) none H')) (_:(aE B.n a/\aE B.n b->(1<=kd/\kd<=B.k)->B.es.length<40->B.pb (.row 0 a kd b)->∀H',aa H H'->E (.ref cB) none H')):Iu C cM cK cF cB vs H Q E
def K7(C cM cK cF cB:Addr):Sp:=Iu C cM cK cF cB
inductive K8(C cM cF cB:Addr)(vs:List V)(H:Hp)(Q:VK)(E:XK):Prop
 |mk (g lh:Addr) (B:Bk) (rest:List Addr) (a b:Int) (_:vs=[.ref g,.int a,.int b]) (_:aQ C H g lh B rest) (_:(aE B.n a/\aE B.n b->B.es.length<40->¬B.pb (.ap 0 a b)->∀(H':Hp) (ba:List Addr),aQ C H' g lh (B.add (.ap 0 a b)) ba->Nw H rest ba->Kp g H H'->Q (.int B.c) H')) (_:(¬(aE B.n a/\aE B.n b)->∀H',aa H H'->E (.ref cM) none H')) (_:(aE B.n a/\aE B.n b->¬B.es.length<40->∀H',aa H H'->E (.ref cF) none H')) (_:(aE B.n a/\aE B.n b->B.es.length<40->B.pb (.ap 0 a b)->∀H',aa H H'->E (.ref cB) none H')):K8 C cM cF cB vs H Q E
def Nt(C cM cF cB:Addr):Sp:=K8 C cM cF cB
inductive Iv(C:Addr)(vs:List V)(H:Hp)(Q:VK)(ay:XK):Prop
 |mk (g lh:Addr) (B:Bk) (rest:List Addr) (_:vs=[.ref g]) (_:aQ C H g lh B rest) (_:Q (.int B.n) H):Iv C vs H Q ay
def aai(C:Addr):Sp:=Iv C
inductive GA(C:Addr)(vs:List V)(H:Hp)(Q:VK)(ay:XK):Prop
 |mk (g lh:Addr) (B:Bk) (rest:List Addr) (_:vs=[.ref g]) (_:aQ C H g lh B rest) (_:∀(l:Addr) (H':Hp),H l=none->El H' (l::rest) l B.es->aa H H'->Q (.ref l) H'):GA C vs H Q ay
def Iw(C:Addr):Sp:=GA C
end My
namespace L2
open PySem PySem.Spec PyProof.Rows
section
variable {X:Cx}
end
end L2
namespace My
open PySem L2
inductive GB(C:Addr)(vs:List V)(H:Hp)(Q:VK)(ay:XK):Prop
 |mk (g lh:Addr) (B:Bk) (rest:List Addr) (t:Addr) (e:En) (_:vs=[.ref g,.ref t]) (_:aQ C H g lh B rest) (_:H t=some (.tup e.told)) (_:g5 B.k B.n e) (_:B.es.length<40) (_:(B.pb e->∀H',aa H H'->Q .aH H')) (_:(¬B.pb e->∀(H':Hp) (ba:List Addr),aQ C H' g lh (B.add e) ba->Nw H rest ba->Kp g H H'->Q (.int B.c) H')):GB C vs H Q ay
def zD(C:Addr):Sp:=GB C
inductive Iy(vs:List V)(H:Hp)(Q:VK)(ay:XK):Prop
 |mk (k n:Nat) (ld:Addr) (ds:List Int) (_:vs=[.int k,.int n,.ref ld]) (_:aw H ld ds) (_:ds.length=3) (_:1<=k) (_:k<=5) (_:1<=n) (_:n<=1000) (_:∀(t:Addr) (e:En) (H':Hp),H t=none->H' t=some (.tup e.told)->g5 k n e->aa H H'->Q (.ref t) H'):Iy vs H Q ay
def AG:Sp:=Iy
def Cons(B:Bk):Prop:=cX B.es B.aD=none
def G0(a b:List En)(l:List Int):cX (a++b) l=(cX a l).or (cX b l):=by
 unfold cX;rw[List.findSome?_append]
def Cons.add{B:Bk}(h:Cons B){e:En}(nb:¬B.pb e):Cons (B.add e):=by
 unfold Cons;cases e with
 |row i a k b=>
  show cX (B.es++[.row B.c a k b]) (fl B.n (rowsOf (B.es++[.row B.c a k b])))=none;rw[G0,qa];have:cX B.es (fl B.n (rowsOf B.es++[[B.c,a,k,b]]))=none:=Classical.byContradiction nb;rw[show rowsOf [.row B.c a k b]=[[B.c,a,k,b]]from rfl,this];rfl
 |ap i a b=>
  show cX (B.es++[.ap B.c a b]) (fl B.n (rowsOf (B.es++[.ap B.c a b])))=none;rw[G0,qa,show rowsOf [.ap B.c a b]=[]from rfl,ZX,zB];have h1:cX B.es (fl B.n (rowsOf B.es))=none:=h;have h2:¬(fl B.n (rowsOf B.es)).getD a.toNat 0=(fl B.n (rowsOf B.es)).getD b.toNat 0:=nb;rw[h1,if_neg h2];rfl
def En.dt:En->PyData
 |.row i a k b=>.tuple [.int i,.str "row",.int a,.int k,.int b]
 |.ap i a b=>.tuple [.int i,.str "apart",.int a,.int b]
def acW(e:En):Gd true 1 e.dt:=by
 have r:(PyData.str "row").canLay0=true:=Ij _ (by decide+kernel);have a:(PyData.str "apart").canLay0=true:=Ij _ (by decide+kernel);cases e with
 |row i x k b=>
  refine Gd.tup (n:=0) λd hd=>?_;simp only[Y5,List.not_mem_nil,or_false]at hd;rcases hd with rfl|rfl|rfl|rfl|rfl
  ·exact Gd.int _
  ·exact Gd.str r
  ·exact Gd.int _
  ·exact Gd.int _
  ·exact Gd.int _
 |ap i x b=>
  refine Gd.tup (n:=0) λd hd=>?_;simp only[Y5,List.not_mem_nil,or_false]at hd;rcases hd with rfl|rfl|rfl|rfl
  ·exact Gd.int _
  ·exact Gd.str a
  ·exact Gd.int _
  ·exact Gd.int _
def abR(es:List En):Gd true 2 (.list (es.map En.dt)):=Gd.list λd hd=>by
 obtain⟨e,_,rfl⟩:=Zh.mp hd;exact acW e
def acX{K:PySem.W.Frag}{H:Hp}{a:Addr}{e:En}(h:H a=some (.tup e.vs)):Dt K H (.ref a) e.dt:=by
 cases e with
 |row i x k b=>exact .tup (aZ.of h) (.cons (.int _) (.cons (.str _) (.cons (.int _) (.cons (.int _) (.cons (.int _) .nil)))))
 |ap i x b=>exact .tup (aZ.of h) (.cons (.int _) (.cons (.str _) (.cons (.int _) (.cons (.int _) .nil))))
def K9{K:PySem.W.Frag}{H:Hp}:∀{ps:List (Addr×En)},(∀p∈ps,H p.1=some (.tup p.2.vs))->iZ K H (ps.map λp=>V.ref p.1) ((ps.map (·.2)).map En.dt)
 |[],_=>.nil
 |p::ps,h=>.cons (acX (h p (Y9 ..))) (K9 λq hq=>h q (Y4 _ hq))
def El.dt{K:PySem.W.Frag}{H:Hp}{fp:List Addr}{l:Addr}{es:List En}(h:El H fp l es):Dt K H (.ref l) (.list (es.map En.dt)):=by
 obtain⟨ps,h1,h2,h3,_⟩:=h.ob;rw[<-h3];exact .lst (ah.of h1) (K9 h2)
def b7(l:List Int):List Int:=l.foldl (λk x=>if x∈k then k else k++[x]) []
def ve(l:List Int)(x:Int):b7 (l++[x])=if x∈b7 l then b7 l else b7 l++[x]:=by unfold b7;rw[List.foldl_append];rfl
def MG(l:List Int):(b7 l).Nodup:=by
 have:∀(l k:List Int),k.Nodup->(l.foldl (λk x=>if x∈k then k else k++[x]) k).Nodup:=λl=>by
  induction l with
  |nil=>exact λk h=>h
  |cons x l ih=>
   intro k h;refine ih _ ?_;dsimp only;split
   ·exact h
   ·rename_i hx;rw[List.nodup_append];refine⟨h,List.pairwise_singleton _ x,λa ha b hb z=>?_⟩;rw[Y2.mp hb]at z;exact hx (z▸ha)
 exact this l [] List.nodup_nil
def W9(l k:List Int):∀x∈k,x∈l.foldl (λk x=>if x∈k then k else k++[x]) k:=by
 induction l generalizing k with
 |nil=>exact λx h=>h
 |cons y l ih=>
  intro x hx;refine ih _ x ?_;dsimp only;split
  ·exact hx
  ·exact Zc _ hx
def qx(l k:List Int):∀x∈l,x∈l.foldl (λk x=>if x∈k then k else k++[x]) k:=by
 induction l generalizing k with
 |nil=>exact λx h=>nomatch h
 |cons y l ih=>
  intro x hx;rcases Y5.mp hx with e|e
  ·rw[e];refine W9 l _ y ?_;dsimp only;split
   ·assumption
   ·exact Zb _ (Y2.mpr rfl)
  ·exact ih _ x e
def AH(l:List Int):(b7 l).length<=l.length:=by
 have:∀(l k:List Int),(l.foldl (λk x=>if x∈k then k else k++[x]) k).length<=k.length+l.length:=λl=>by
  induction l with
  |nil=>exact λk=>Y3 _
  |cons x l ih=>
   intro k;refine ZQ (ih _) ?_;dsimp only;split
   ·simp only[ZF];omega
   ·simp only[Zo,ZF,List.length_nil];omega
 have:=this l [];rw[List.length_nil,Nat.zero_add]at this;exact this
def rk(l:List Int):List Int:=l.map λx=>((b7 l).idxOf x:Nat)
def iQ(l:List Int):(rk l).length=l.length:=by simp[rk]
def Nu{l:List Int}{a:Nat}(h:a<l.length):(rk l).getD a 0=((b7 l).idxOf (l.getD a 0):Nat):=by
 simp[rk,List.getD,h]
def BI{l:List Int}{a b:Nat}(ha:a<l.length)(hb:b<l.length):(rk l).getD a 0=(rk l).getD b 0↔l.getD a 0=l.getD b 0:=by
 rw[Nu ha,Nu hb];constructor
 ·intro h;have ma:l.getD a 0∈b7 l:=qx l [] _ (getD_mem ha);have mb:l.getD b 0∈b7 l:=qx l [] _ (getD_mem hb);have h:(b7 l).idxOf (l.getD a 0)=(b7 l).idxOf (l.getD b 0):=by omega
  have e1:=List.getElem_idxOf (ZZ ma);have e2:=List.getElem_idxOf (ZZ mb);rw[<-e1, <-e2];congr 1
 ·intro h;rw[h]
structure DK(kvs:List (Key×V))(K:List Int):Prop where
 len:kvs.length=K.length
 at_:∀x:Int,bj kvs (.inl x)=if x∈K then some (.int (K.idxOf x:Nat))else none
def DK.nil:DK [] []:=⟨rfl,λx=>rfl⟩
def DK.put{kvs:List (Key×V)}{K:List Int}(h:DK kvs K){x:Int}(hx:x∉K):DK (putK kvs (.inl x) (.int kvs.length)) (K++[x]):=by
 have e:bj kvs (.inl x)=none:=by rw[h.at_,if_neg hx]
 refine⟨by rw[rX _ e];simp[h.len],λy=>?_⟩;rw[zU];by_cases z:y=x
 ·rw[if_pos (by rw[z]),if_pos (by rw[z];exact Zb _ (Y2.mpr rfl)),z,List.idxOf_append,if_neg hx,h.len];simp
 ·rw[if_neg (λw=>z (Sum.inl.inj w)),h.at_];by_cases m:y∈K
  ·rw[if_pos m,if_pos (Zc _ m),List.idxOf_append,if_pos m]
  ·rw[if_neg m,if_neg (λw=>by rcases Y7.mp w with w|w; ·exact m w
                              ·exact z (Y2.mp w))]
def Xa(x:Int)(l:List Int):j7 (V.int x) (l.map V.int)=decide (x∈l):=by
 unfold j7;by_cases h:x∈l
 ·rw[ZN h,List.any_eq_true];exact⟨V.int x,Zh.mpr ⟨x,h,rfl⟩,by simp[fz]⟩
 ·rw[ZO h,List.any_eq_false];intro v hv;obtain⟨z,hz,rfl⟩:=Zh.mp hv;have:¬z=x:=λe=>h (e▸hz);simp[fz,this,Ne.symm this]
def Td(l:List Int):(l.map V.int).all gR=true:=by
 rw[ZC];intro v hv;obtain⟨z,_,rfl⟩:=Zh.mp hv
 rfl
def MH{K:PySem.W.Frag}{H:Hp}{a:Addr}{l:List Int}{x:Int}{Q:VK}(ha:aw H a l)(hx:x∈l)(h:Q (.int (l.idxOf x:Nat)) H):Cn K (.ref a) [.int x] H Q:=by
 have aP:=ZZ hx;refine⟨a,_,_,l.idxOf x,rfl,rfl,ah.of ha,rfl,Td l,by rw[Y1];exact aP,?_,λm hm=>?_,h⟩
 ·rw[Zf,Zd aP];show some (fz (.int l[l.idxOf x]) (.int x))=some true;rw[List.getElem_idxOf aP];simp[fz]
 ·have hm2:m<l.length:=by omega
  rw[Zf,Zd hm2];show some (fz (.int l[m]) (.int x))=some false
  have:¬l[m]=x:=by
   have:=List.not_of_lt_findIdx (p:=(· ==x)) (xs:=l) (i:=m) hm;simpa using this
  simp[fz,this]
def G4{K:PySem.W.Frag}{a:Addr}{ns:List Int}{ix:List Nat}{te:TE}{σ:St}{H:Hp}{Q:VK}(f:Int->Int)(ha:aw H a ns)(hl:ns.length<=100000)
  (he:∀z∈ns,∀(H':Hp) (Q':VK),aa H H'->Q' (.int (f z)) H'->te (bQ ix (some (.int z)) σ) H' Q')(h:∀(D:Addr) (H':Hp),H D=none->aw H' D (ns.map f)->aa H H'->Q (.ref D) H'):Wr (jS (eU K a) ix te σ H Q):=by
 refine zj (K:=K) (λv=>match v with|.int z=>.int (f z)|_=>.aH) (ah.of ha) (bw (by rw[Y1];omega)) (λz hz H' Q' s q=>?_) λD H' hD h1 s=>h D H' hD ?_ s
 ·obtain⟨x,hx,rfl⟩:=Zh.mp hz;exact he x hx H' Q' s q
 ·show H' D=_;rw[h1,ZK,ZK];rfl
inductive JI(vs:List V)(H:Hp)(Q:VK)(ay:XK):Prop
 |mk (a:Addr) (l:List Int) (_:vs=[.ref a]) (_:aw H a l) (_:l.length<=1000) (_:∀(p:Addr) (H':Hp),H p=none->aw H' p (rk l)->aa H H'->Q (.ref p) H'):JI vs H Q ay
def vM:Sp:=JI
inductive G5(C:Addr)(vs:List V)(H:Hp)(Q:VK)(ay:XK):Prop
 |mk (g lh:Addr) (B:Bk) (rest:List Addr) (_:vs=[.ref g]) (_:aQ C H g lh B rest) (_:(∀(p:Addr) (H':Hp),aw H' p B.aD->B.aD.length=B.n->FL B.n (rowsOf B.es) [] B.aD->aa H H'->Q (.ref p) H')):G5 C vs H Q ay
def JJ(C:Addr):Sp:=G5 C
inductive Gr(C:Addr)(vs:List V)(H:Hp)(Q:VK)(ay:XK):Prop
 |mk (g lh:Addr) (B:Bk) (rest:List Addr) (_:vs=[.ref g]) (_:aQ C H g lh B rest) (_:(∀(p:Addr) (H':Hp),H p=none->aw H' p (rk B.aD)->B.aD.length=B.n->FL B.n (rowsOf B.es) [] B.aD->aa H H'->Q (.ref p) H')):Gr C vs H Q ay
def G6(C:Addr):Sp:=Gr C
def US{K:PySem.W.Frag}{a:Addr}{fp:List Addr}{es:List En}{ix:List Nat}{tt:TT}{te:TE}{σ:St}{H:Hp}{Q:VK}(p:En->Bool)(he:El H fp a es)(hl:es.length<=100000)
  (ht:∀x e,∀(H':Hp) (Q':Bool->Hp->Prop),aa H H'->H' x=some (.tup e.vs)->Q' (p e) H'->tt (bQ ix (some (.ref x)) σ) H' Q')(hx:∀(x:Addr) (H':Hp) (Q':VK),Q' (.ref x) H'->te (bQ ix (some (.ref x)) σ) H' Q')
  (hQ:∀(D:Addr) (H':Hp),H D=none->El H' (D::fp) D (es.filter p)->aa H H'->Q (.ref D) H'):Wr (oJ (eU K a) ix tt te σ H Q):=by
 obtain⟨ps,h1,h2,h3,h4,h5⟩:=he.ob;have lp:ps.length=es.length:=by rw[<-h3,Y1]
 refine za (xs:=ps.map λp=>V.ref p.1) λD hD=>⟨λi ys H2=>ys=(((ps.take i).filter λx=>p x.2).map λp=>V.ref p.1)/\H2 D=some (.lst ys)/\aa H H2,⟨rfl,ak,(aa.refl H).upd hD⟩,?_,?_,?_⟩
 ·rintro i ys H2 hi ⟨rfl,hd,s2⟩;refine⟨s2.seq (ah.of h1),hd,bw ?_⟩;have q1:=List.length_filter_le (λx:Addr×En=>p x.2) (ps.take i);have q2:(ps.take i).length<=ps.length:=by rw[Zx];omega
  rw[Y1];omega
 ·rintro i x ys H2 hi ⟨rfl,hd,s2⟩ Q1 Q0 q1 q0;rw[Zf]at hi;cases ei:ps[i]? with
  |none=>rw[ei]at hi;cases hi
  |some y=>
   rw[ei]at hi;cases hi;obtain⟨bT,nX⟩:=ZL.mp ei;refine ht y.1 y.2 _ _ s2 (s2 _ _ (h2 y (Y6 ei))) ?_;cases hp:p y.2 with
   |true=>
    rw[if_pos rfl];refine hx _ _ _ (q1 _ _ hd ⟨?_,ak,s2.upd hD⟩);rw[Zj bT,List.filter_append,Ze,nX];simp[hp]
   |false=>
    rw[if_neg (by decide)];refine q0 _ ⟨?_,hd,s2⟩;rw[Zj bT,List.filter_append,nX];simp[hp]
 ·rintro ys H2 ⟨rfl,hd,s2⟩;rw[Y1,ZE (Y3 _)]at hd;refine hQ D H2 hD ⟨ps.filter λx=>p x.2,hd,λx hx=>s2 _ _ (h2 x (ZT.mp hx).1),?_,Y9 ..,λx hx=>Y4 _ (h5 x (ZT.mp hx).1)⟩ s2;rw[<-h3,List.filter_map];rfl
def El.sq{K:PySem.W.Frag}{H:Hp}{fp:List Addr}{l:Addr}{es:List En}(h:El H fp l es):∃xs,ah K H l xs:=by
 obtain⟨ps,h1,_⟩:=h.ob;exact⟨_,ah.of h1⟩
def El.cnt{H:Hp}{fp:List Addr}{l:Addr}{es:List En}(h:El H fp l es):∃xs:List V,H l=some (.lst xs)/\xs.length=es.length:=by
 obtain⟨ps,h1,_,h3,_⟩:=h.ob;exact⟨_,h1,by rw[Y1, <-h3,Y1]⟩
def MI(e:En):iX e.vs 0=some (.int e.num):=by cases e<;>rfl
def Bk.less(B:Bk)(i:Int):Bk:={B with es:=B.es.filter λe=>decide (e.num≠i)}
inductive GC(C cE:Addr)(vs:List V)(H:Hp)(Q:VK)(E:XK):Prop
 |mk (g lh:Addr) (B:Bk) (rest:List Addr) (i:Int) (_:vs=[.ref g,.int i]) (_:aQ C H g lh B rest) (_:(i∈B.es.map En.num->∀(H':Hp) (ba:List Addr),aQ C H' g lh (B.less i) ba->Nw H rest ba->Kp g H H'->Q (.int i) H')) (_:(i∉B.es.map En.num->∀H',aa H H'->E (.ref cE) none H')):GC C cE vs H Q E
def zE(C cE:Addr):Sp:=GC C cE
def JK{es:List En}{i:Int}:(es.filter λe=>decide (e.num≠i)).length=es.length↔i∉es.map En.num:=by
 constructor
 ·intro h hm;have:=List.filter_eq_self.mp ((List.filter_sublist (p:=λe=>decide (e.num≠i)) (l:=es)).eq_of_length h);obtain⟨e,he,rfl⟩:=Zh.mp hm;have:=this e he;simp at this
 ·intro h;have:(es.filter λe=>decide (e.num≠i))=es:=List.filter_eq_self.mpr λe he=>ZN (show e.num≠i from λz=>h (Zh.mpr ⟨e,he,z⟩));rw[this]
end My
namespace L2
open PySem PySem.Spec PyProof.Rows
section
variable {X:Cx}
def ad3(K:PySem.W.Frag)(to:TE)(f:Str):TG:=λv σ H Q=>to σ H λo H1=>∃a C dx fs,o=.ref a/\H1 a=some (.ins C dx fs)/\eV K C/\NoAttr K C f/\fs.length<1000/\Q σ (upd H1 a (.ins C dx (aY f v fs)))
def Bi{o:Expr}{to:TE}{f:Str}{pos:Pos}(ho:PE X o to):PG X (.Attribute o f pos) (ad3 X.K to f):=by
 intro pins s σ H v u Q I r h;rw[assign_Attribute];refine wpAny_bind (wpAny_holding (aA (ho pins s σ H _ I h) λov s1 ⟨x,H1,I1,rx,a,C,dx,fs,ex,ea,c,n,l,q⟩=>?_));subst ex;obtain rfl:ov=Value.ref a:=rx;refine wpAny_bind (wpAny_standAt (wpAny_bind (wpAny_holding (zg I1 ea c n l r λs3 I3=>?_))));exact wpAny_release ⟨σ,_,I3,q⟩
end
end L2
namespace My
open PySem L2
def aaj(xs:List V)(k:Nat):jV xs none (some (k:Int))=xs.take k:=Kk xs k
def Iz{K:PySem.W.Frag}{H:Hp}{a:Addr}{xs:List V}{lo hi:Option Int}{Q:VK}(hq:H a=some (.lst xs))(h:∀(p:Addr) (H':Hp),H p=none->H' p=some (.lst (jV xs lo hi))->aa H H'->Q (.ref p) H'):Wr (wm K (.ref a) lo hi H Q):=
 ⟨⟨a,_,rfl,ah.of hq,λp hp=>h p _ hp ak ((aa.refl H).upd hp)⟩⟩
def Bk.hold(B:Bk):Bk:={B with hs:=B.hs++[(B.n,B.es,B.c)]}
def Bk.back(B:Bk)(i:Nat)(h:Nat×List En×Int):Bk:={k:=B.k,n:=h.1,es:=h.2.1,c:=h.2.2,hs:=B.hs.take i}
inductive JL(C:Addr)(vs:List V)(H:Hp)(Q:VK)(ay:XK):Prop
 |mk (g lh:Addr) (B:Bk) (rest:List Addr) (_:vs=[.ref g]) (_:aQ C H g lh B rest) (_:B.hs.length<=1000) (_:∀(H':Hp) (ba:List Addr),aQ C H' g lh B.hold ba->Nw H rest ba->Kp lh H H'->Q (.int ((B.hs.length:Int)+1)) H'):JL C vs H Q ay
def MJ(C:Addr):Sp:=JL C
inductive IA(C cH:Addr)(vs:List V)(H:Hp)(Q:VK)(E:XK):Prop
 |mk (g lh:Addr) (B:Bk) (rest:List Addr) (i:Int) (_:vs=[.ref g,.int i]) (_:aQ C H g lh B rest) (_:B.hs.length<=1000) (_:(∀(j:Nat) h,i=(j:Int)+1->B.hs[j]?=some h->∀(H':Hp) (cI:Addr),aQ C H' g cI (B.back (j+1) h) rest->H cI=none->Kp g H H'->Q (.int i) H')) (_:(¬(1<=i/\i<=(B.hs.length:Int))->E (.ref cH) none H)):IA C cH vs H Q E
def Lb(C cH:Addr):Sp:=IA C cH
def FL.ex{n:Nat}{rs:List (List Int)}{st:Ps}(bM:∀p∈st,fV n p.2)(hr:∀r∈rs,cC n r):∃l,FL n rs st l:=by
 suffices∀(m:Nat) (l:List Int),bG l<=m->fD n rs st l->∃l,FL n rs st l from this _ _ (Y3 _) (zX bM)
 intro m
 induction m with
 |zero=>
  intro l hm h;refine⟨l,h,λp hp q hq k s hs e=>Classical.byContradiction λne=>?_⟩;have:=sY h.aD ((hr p hp).mk (-s)).2 ((hr q hq).mk (-s)).2 ne;omega
 |succ m ih=>
  intro l hm h;by_cases c:closed rs l
  ·exact⟨l,h,c⟩
  ·simp only[closed,Classical.not_forall]at c;obtain⟨p,hp,q,hq,k,s,hs,e,ne⟩:=c;have lt:=sY h.aD ((hr p hp).mk (-s)).2 ((hr q hq).mk (-s)).2 ne;exact ih _ (by omega) (h.jn bM ((hr p hp).mk (-s)).2 ((hr q hq).mk (-s)).2 λc cl=>cl.2 p hp q hq k s hs (h.snd c cl _ _ ((hr p hp).mk s).2 ((hr q hq).mk s).2 e))
def tj{n:Nat}{rs:List (List Int)}(hr:∀r∈rs,cC n r):FL n rs [] (fl n rs):=by
 obtain⟨l,h⟩:=FL.ex (st:=[]) (λ_ z=>nomatch z) hr;rw[<-h.eq];exact h
def FL.cl{n:Nat}{rs:List (List Int)}{st:Ps}{l:List Int}(h:FL n rs st l):Cl rs st (λa=>l.getD a 0):=⟨h.1.qV,h.2⟩
def Cl.sub{rs nY:List (List Int)}{c:Nat->Int}(h:Cl nY [] c)(s:∀r∈rs,r∈nY):Cl rs [] c:=⟨(λ_ z=>nomatch z),λp hp q hq=>h.2 p (s p hp) q (s q hq)⟩
def FL.mono{n n':Nat}{rs nY:List (List Int)}{l l':List Int}(h:FL n rs [] l)(h':FL n' nY [] l')(s:∀r∈rs,r∈nY){a b:Nat}(ha:a<n)(hb:b<n)(e:l.getD a 0=l.getD b 0):l'.getD a 0=l'.getD b 0:=
 h.1.snd _ (h'.cl.sub s) a b ha hb e
def uS{es:List En}{l:List Int}:cX es l=none↔∀i a b,En.ap i a b∈es->¬l.getD a.toNat 0=l.getD b.toNat 0:=by
 induction es with
 |nil=>exact⟨λ_ _ _ _ z=>(nomatch z),λ_=>rfl⟩
 |cons e es ih=>
  cases e with
  |row i a k b=>
   rw[Tc,ih]
   exact⟨λh i' a' b' z=>h i' a' b' (by rcases Y5.mp z with w|w; ·cases w
                                       ·exact w),λh i' a' b' z=>h i' a' b' (Y4 _ z)⟩
  |ap i a b=>
   rw[zB];constructor
   ·intro h i' a' b' z;by_cases w:l.getD a.toNat 0=l.getD b.toNat 0
    ·rw[if_pos w]at h;cases h
    ·rw[if_neg w]at h;rcases Y5.mp z with y|y
     ·injection y with y1 y2 y3;subst y2 y3;exact w
     ·exact ih.mp h i' a' b' y
   ·intro h;rw[if_neg (h i a b (Y9 ..))];exact ih.mpr λi' a' b' z=>h i' a' b' (Y4 _ z)
def wd(n:Nat)(es:List En):Prop:=cX es (fl n (rowsOf es))=none
def zk{es:List En}{r:List Int}:r∈rowsOf es↔∃i a k b,En.row i a k b∈es/\r=[i,a,k,b]:=by
 unfold rowsOf;rw[List.mem_filterMap];constructor
 ·rintro⟨e,he,h⟩;cases e with
  |row i a k b=>exact⟨i,a,k,b,he,(Zg h).symm⟩
  |ap i a b=>cases h
 ·rintro⟨i,a,k,b,he,rfl⟩;exact⟨_,he,rfl⟩
def Te{es es':List En}(s:∀e∈es,e∈es'):∀r∈rowsOf es,r∈rowsOf es':=λr hr=>by
 obtain⟨i,a,k,b,he,rfl⟩:=zk.mp hr;exact zk.mpr ⟨i,a,k,b,s _ he,rfl⟩
def wd.sub{k n:Nat}{es es':List En}(h:wd n es')(k5:k<=5)(ok:∀e∈es',g5 k n e)(s:∀e∈es,e∈es'):wd n es:=by
 refine uS.mpr λi a b m e=>uS.mp h i a b (s _ m) ?_;have kg:=ok _ (s _ m);obtain⟨⟨a0,a1⟩,⟨b0,b1⟩⟩:=kg;have f1:=tj (n:=n) λr hr=>(kq k5 (λe he=>ok e (s e he)) r hr).1;have f2:=tj (n:=n) λr hr=>(kq k5 ok r hr).1;exact f1.mono f2 (Te s) (by omega) (by omega) e
def Cons.less{C g lh:Addr}{H:Hp}{B:Bk}{rest:List Addr}(hB:aQ C H g lh B rest)(h:Cons B)(i:Int):Cons (B.less i):=
 wd.sub (n:=B.n) (es':=B.es) h hB.k5 hB.ok λ_ he=>(ZT.mp he).1
def fk(es:List En)(c:Int):Prop:=(es.map En.num).Nodup/\∀e∈es,e.num<c
def vN(e:En)(i:Int):(e.re i).num=i:=by cases e<;>rfl
def fk.nil(c:Int):fk [] c:=⟨List.nodup_nil,λ_ z=>nomatch z⟩
def fk.add{es:List En}{c:Int}(h:fk es c)(e:En):fk (es++[e.re c]) (c+1):=by
 refine⟨?_,λx hx=>?_⟩
 ·rw[Ze,List.nodup_append];refine⟨h.1,List.pairwise_singleton _ _,λa ha b hb z=>?_⟩;obtain⟨x,hx,rfl⟩:=Zh.mp ha;have hb:=Y2.mp hb;have:=h.2 x hx;rw[z,hb,vN]at this;omega
 ·rcases Y7.mp hx with z|z
  ·have:=h.2 x z;omega
  ·rw[Y2.mp z,vN];omega
def fk.filter{es:List En}{c:Int}(h:fk es c)(p:En->Bool):fk (es.filter p) c:=⟨(List.filter_sublist.map _).nodup h.1,λe he=>h.2 e (ZT.mp he).1⟩
def fk.mono{es:List En}{c c':Int}(h:fk es c)(l:c<=c'):fk es c':=⟨h.1,λe he=>by have:=h.2 e he;omega⟩
def Xb{es:List En}{c:Int}(h:fk es c)(e:En):(es++[e.re c]).filter (λx=>decide (x.num≠c))=es:=by
 rw[List.filter_append,List.filter_eq_self.mpr λx hx=>ZN (by have:=h.2 x hx;omega),List.filter_cons_of_neg (by simp[vN]),List.filter_nil,ZX]
def aak{es:List En}{c:Int}(h:fk es c){j:Nat}{e:En}(he:es[j]?=some e):es.filter (λx=>decide (x.num≠e.num))=es.take j++es.drop (j+1):=by
 obtain⟨hj,ej⟩:=ZL.mp he
 have sp:es=es.take j++e::es.drop (j+1):=by
  have:=List.drop_eq_getElem_cons hj;rw[ej]at this;rw[<-this,List.take_append_drop]
 have nd:=h.1;rw[sp,Ze,Zr,List.nodup_append]at nd;obtain⟨_,n2,n3⟩:=nd;have n2:=ZG.mp n2;have a1:(es.take j).filter (λx=>decide (x.num≠e.num))=es.take j:=List.filter_eq_self.mpr λx hx=>ZN λz=>n3 _ (Zh.mpr ⟨x,hx,rfl⟩) _ (Y9 ..) z;have a2:(es.drop (j+1)).filter (λx=>decide (x.num≠e.num))=es.drop (j+1):=List.filter_eq_self.mpr λx hx=>ZN λz=>n2.1 (z▸Zh.mpr ⟨x,hx,rfl⟩)
 conv=>lhs;rw[sp]
 rw[List.filter_append,List.filter_cons_of_neg (by simp),a1,a2]
def Es(H:Hp)(l:Addr)(es:List En):Prop:=∃ps:List (Addr×En),H l=some (.lst (ps.map λp=>V.ref p.1))/\(∀p∈ps,H p.1=some (.tup p.2.vs))/\ps.map (·.2)=es
def Es.el{H:Hp}{l:Addr}{es:List En}(h:Es H l es):∃fp,El H fp l es:=by
 obtain⟨ps,h1,h2,h3⟩:=h;exact⟨l::ps.map (·.1),ps,h1,h2,h3,Y9 ..,λp hp=>Y4 _ (Zh.mpr ⟨p,hp,rfl⟩)⟩
def Es.on{H H':Hp}{l:Addr}{es:List En}(h:Es H l es)(s1:∀o,H l=some o->H' l=some o)(s2:∀a vs,H a=some (.tup vs)->H' a=some (.tup vs)):Es H' l es:=by
 obtain⟨ps,h1,h2,h3⟩:=h;exact⟨ps,s1 _ h1,λp hp=>s2 _ _ (h2 p hp),h3⟩
def Es.same{H H':Hp}{l:Addr}{es:List En}(h:Es H l es)(s:aa H H'):Es H' l es:=h.on (λo e=>s _ o e) λa vs e=>s a _ e
def Es.cnt{H:Hp}{l:Addr}{es:List En}(h:Es H l es):∃xs:List V,H l=some (.lst xs)/\xs.length=es.length:=by
 obtain⟨ps,h1,h2,h3⟩:=h;exact⟨_,h1,by rw[Y1, <-h3,Y1]⟩
def Es.dt{K:PySem.W.Frag}{H:Hp}{l:Addr}{es:List En}(h:Es H l es):Dt K H (.ref l) (.list (es.map En.dt)):=by
 obtain⟨fp,e⟩:=h.el;exact e.dt
structure Fr(H H':Hp)(g lh:Addr):Prop where
 kp:∀b o,H b=some o->b≠g->b≠lh->H' b=some o
 lv:∀b o,H b=some o->H' b≠none
def gp(H:Hp)(a a':Addr):Prop:=a'=a\/H a'=none
section
variable {C:Addr}{H H' H2:Hp}{g lh cI:Addr}{B B':Bk}{rest ba:List Addr}
def aQ.heads(h:aQ C H g lh B rest):(∃dx fs,H g=some (.ins C dx fs))/\∃xs,H lh=some (.lst xs):=by
 obtain⟨dx,ls,h1,_⟩:=h.ob;obtain⟨qs,h3,_⟩:=h.hl.ob;exact⟨⟨dx,_,h1⟩,_,h3⟩
def Fr.of_same(s:aa H H'):Fr H H' g lh:=⟨(λb o e _ _=>s b o e),(λb o e=>by rw[s b o e];exact(λz=>nomatch z))⟩
def Fr.kN(hB:aQ C H' g cI B' ba)(k:Kp g H H'):Fr H H' g lh:=⟨λb o e n _=>k b o e n,λb o e z=>by
 by_cases w:b=g
 ·exact hB.lg.2 (w▸z)
 ·rw[k b o e w]at z;cases z⟩
def Fr.ad4(hB:aQ C H' g lh B' ba)(k:Kp lh H H'):Fr H H' g lh:=⟨λb o e _ n=>k b o e n,λb o e z=>by
 by_cases w:b=lh
 ·exact hB.lg.1 (w▸z)
 ·rw[k b o e w]at z;cases z⟩
def Fr.trans(f:Fr H H' g lh)(f2:Fr H' H2 g cI)(n:gp H lh cI):Fr H H2 g lh:=⟨(λb o e n1 n2=>f2.kp b o (f.kp b o e n1 n2) n1 λz=>by
 rcases n with w|w
 ·exact n2 (z.trans w)
 ·rw[z,w]at e;cases e),λb o e z=>by
 cases w:H' b with
 |none=>exact f.lv b o e w
 |some o'=>exact f2.lv b o' w z⟩
def gp.refl:gp H lh lh:=.inl rfl
def gp.trans{Dd:Addr}(n:gp H lh cI)(n2:gp H' cI Dd)(f:Fr H H' g lh):gp H lh Dd:=by
 rcases n2 with w|w
 ·rw[w];exact n
 ·refine .inr ?_;cases e:H Dd with
  |none=>rfl
  |some o=>exact absurd w (f.lv _ o e)
def Nw.trans{Nv:List Addr}(n:Nw H rest ba)(n2:Nw H' ba Nv)(f:∀b o,H b=some o->H' b≠none):Nw H rest Nv:=λx hx=>by
 rcases n2 x hx with w|w
 ·exact n x w
 ·refine .inr ?_;cases e:H x with
  |none=>rfl
  |some o=>exact absurd w (f _ o e)
def Nw.refl:Nw H rest rest:=λx hx=>.inl hx
def Es.fr{l:Addr}{es:List En}(h:Es H l es)(hB:aQ C H g lh B rest)(f:Fr H H' g lh)(n:l≠lh):Es H' l es:=by
 obtain⟨⟨dx,fs,hg⟩,xs,hl⟩:=hB.heads;obtain⟨xs',c9,_⟩:=h.cnt;refine h.on (λo e=>f.kp _ o e (λz=>by rw[z,hg]at c9;cases c9) n) λa vs e=>f.kp _ _ e (λz=>by rw[z,hg]at e;cases e) λz=>by rw[z,hl]at e;cases e
def aQ.sU{l:Addr}{xs:List V}(hB:aQ C H g lh B rest)(h:H l=some (.lst xs)):l≠g:=λz=>by
 obtain⟨⟨dx,fs,hg⟩,_⟩:=hB.heads;rw[z,hg]at h;cases h
def vB{a:Addr}{ns:List Int}(h:aw H a ns)(hB:aQ C H g lh B rest)(f:Fr H H' g lh)(n:a≠lh):aw H' a ns:=f.kp _ _ h (hB.sU h) n
def gp.ne{a:Addr}{o:HO}(n:gp H lh cI)(e:H a=some o)(h:a≠lh):a≠cI:=λz=>by
 rcases n with w|w
 ·exact h (z.trans w)
 ·rw[z,w]at e;cases e
end
def aal(e:En)(c:Int):[V.int c]++e.told=(e.re c).vs:=by cases e<;>rfl
def Tf(e:En):1+e.told.length<=sizeLine/\e.told≠[]:=by
 cases e with
 |row=>exact⟨by show 1+4<=sizeLine;decide,(λz=>nomatch z)⟩
 |ap=>exact⟨by show 1+3<=sizeLine;decide,(λz=>nomatch z)⟩
def acY{H:Hp}{es:List En}{ps:List (Addr×En)}(h2:∀p∈ps,H p.1=some (.tup p.2.vs))(h3:ps.map (·.2)=es){j:Nat}(hj:j<es.length):∃p,ps[j]?=some p/\es[j]?=some p.2/\H p.1=some (.tup p.2.vs):=by
 have lp:ps.length=es.length:=by rw[<-h3,Y1]
 have kh:j<ps.length:=by omega
 exact⟨ps[j],Zd kh,by rw[<-h3,Zf,Zd kh];rfl,h2 _ (ZA _)⟩
def Es.pop{H:Hp}{l:Addr}{es:List En}{c:Int}{ps:List (Addr×En)}(h1:H l=some (.lst (ps.map λp=>V.ref p.1)))(h2:∀p∈ps,H p.1=some (.tup p.2.vs))(h3:ps.map (·.2)=es)(un:fk es c){j:Nat}{e:En}(he:es[j]?=some e):
  Es (upd H l (.lst ((ps.map λp=>V.ref p.1).eraseIdx j))) l (es.filter λx=>decide (x.num≠e.num)):=by
 refine⟨ps.take j++ps.drop (j+1),?_,λp hp=>?_,?_⟩
 ·rw[ak,List.eraseIdx_eq_take_drop_succ,Ze,List.map_take,List.map_drop]
 ·have hp:p∈ps:=(Y7.mp hp).elim List.mem_of_mem_take List.mem_of_mem_drop;have:=h2 p hp;rw[ai (λz=>by rw[z,h1]at this;cases this)];exact this
 ·rw[aak un he,Ze,List.map_take,List.map_drop,h3]
def Es.snoc{H:Hp}{l q:Addr}{es:List En}{ps:List (Addr×En)}{e:En}(h1:H l=some (.lst (ps.map λp=>V.ref p.1)))(h2:∀p∈ps,H p.1=some (.tup p.2.vs))(h3:ps.map (·.2)=es)(hq:H q=some (.tup e.vs)):
  Es (upd H l (.lst ((ps.map λp=>V.ref p.1)++[.ref q]))) l (es++[e]):=by
 refine⟨ps++[(q,e)],by rw[ak,Ze];rfl,λp hp=>?_,by rw[Ze,h3];rfl⟩
 have:H p.1=some (.tup p.2.vs):=by
  rcases Y7.mp hp with z|z
  ·exact h2 p z
  ·rw[Y2.mp z];exact hq
 rw[ai (λz=>by rw[z,h1]at this;cases this)];exact this
inductive G7(C:Addr)(vs:List V)(H:Hp)(Q:VK)(ay:XK):Prop
 |mk (g lh ld:Addr) (B:Bk) (rest:List Addr) (ds:List Int) (_:vs=[.ref g,.int B.k,.int B.n,.ref ld]) (_:aQ C H g lh B rest) (_:aw H ld ds) (_:ds.length=3) (_:ld≠lh) (_:1<=B.n) (_:B.es.length<40) (_:fk B.es B.c) (_:B.hs.length<=900) (_:∀(c':Int) (CY:List (Nat×List En×Int)) (cI:Addr) (ba:List Addr) (H':Hp),aQ C H' g cI ⟨B.k,B.n,B.es,c',CY⟩ ba->B.c<=c'->CY.length<=B.hs.length+1->Fr H H' g lh->gp H lh cI->Nw H rest ba->Q .aH H'):G7 C vs H Q ay
def JM(C:Addr):Sp:=G7 C
inductive IC(C:Addr)(vs:List V)(H:Hp)(Q:VK)(ay:XK):Prop
 |mk (g lh:Addr) (rest:List Addr) (k m many:Nat) (ld:Addr) (ds:List Int) (_:vs=[.ref g,.int k,.int m,.int many,.ref ld]) (_:aQ C H g lh ⟨k,0,[],1,[]⟩ rest) (_:m<=24) (_:many<=40) (_:aw H ld ds) (_:3*many<=ds.length) (_:2<=ds.length) (_:ld≠lh) (_:∀(l cI:Addr) (B:Bk) (ba:List Addr) (H':Hp),aQ C H' g cI B ba->B.k=k->B.n=m->B.es.length<=many->B.hs.length<=40->Cons B->fk B.es B.c->Es H' l B.es->l≠cI->l∉ba->H l=none->Fr H H' g lh->gp H lh cI->Q (.ref l) H'):IC C vs H Q ay
def Lc(C:Addr):Sp:=IC C
structure Mo where
 s:Int->Int->Int
 t:Int->Int->Int
 l:∀k x,t k (s k x)=x
 r:∀k x,s k (t k x)=x
def Mo.go(M:Mo)(x l:Int):Int:=if 0<l then M.s l x else M.t (-l) x
def Mo.wk(M:Mo)(x:Int)(ws:List Int):Int:=ws.foldl M.go x
def Mo.Fits(M:Mo)(f:Nat->Int)(rs:List (List Int)):Prop:=∀r∈rs,M.s (r.getD 2 0) (f (My.mk r 1))=f (My.mk r (-1))
def Mo.acZ(M:Mo){k x y:Int}(h:M.s k x=M.s k y):x=y:=by rw[<-M.l k x,h,M.l]
def Mo.back(M:Mo){x l:Int}(h:l≠0):M.go (M.go x l) (-l)=x:=by
 unfold Mo.go;by_cases z:0<l
 ·rw[if_pos z,if_neg (by omega),Int.neg_neg,M.l]
 ·rw[if_neg z,if_pos (by omega),M.r]
def Mo.app(M:Mo)(x:Int)(u v:List Int):M.wk x (u++v)=M.wk (M.wk x u) v:=List.foldl_append ..
def Mo.ins(M:Mo)(x:Int)(u v:List Int){l:Int}(h:l≠0):M.wk x (u++[l, -l]++v)=M.wk x (u++v):=by
 rw[M.app,M.app,M.app];congr 1;exact M.back h
def Mo.cut(M:Mo){ws:List Int}(h:∀l∈ws,l≠0)(x:Int):M.wk x (cut ws)=M.wk x ws:=by
 have:∀(ws st:List Int),(∀l∈ws,l≠0)->M.wk x (ws.foldl push st).reverse=M.wk x (st.reverse++ws):=by
  intro ws
  induction ws with
  |nil=>intro st _;simp
  |cons a ws ih=>
   intro st h;have ha:=h a (Y9 ..);rw[List.foldl_cons,ih _ λl hl=>h l (Y4 _ hl)];cases st with
   |nil=>rfl
   |cons t r=>
    show M.wk x ((if t= -a then r else a::t::r).reverse++ws)=_;by_cases z:t= -a
    ·rw[if_pos z,z,List.reverse_cons];have:=M.ins x r.reverse ws (l:= -a) (by omega);rw[Int.neg_neg]at this;rw[<-this];simp
    ·rw[if_neg z];simp
 have:=this ws [] h;simpa[My.cut]using this
def pL(a b x:Int):Int:=if x=a then b else if x=b then a else x
def Ld(a b x:Int):pL a b (pL a b x)=x:=by
 unfold pL
 repeat' split
 all_goals omega
def zZ:∀ps:List (Int×Int),(∀p∈ps,∀q∈ps,p.1=q.1↔p.2=q.2)->∃s t:Int->Int,(∀x,t (s x)=x)/\(∀x,s (t x)=x)/\∀p∈ps,s p.1=p.2
 |[],_=>⟨id,id,λ_=>rfl,λ_=>rfl,λ_ z=>nomatch z⟩
 |p::ps,h=>by
  obtain⟨s,t,a,b,c⟩:=zZ ps λp hp q hq=>h p (Y4 _ hp) q (Y4 _ hq);refine⟨λx=>pL (s p.1) p.2 (s x),λx=>t (pL (s p.1) p.2 x),λx=>by dsimp only;rw[Ld,a],λx=>by dsimp only;rw[b,Ld],λq hq=>?_⟩;dsimp only;rcases Y5.mp hq with rfl|uf
  ·unfold pL;rw[if_pos rfl]
  ·have e:=h q hq p (Y9 ..);have sq:=c q uf;unfold pL;by_cases z1:s q.1=s p.1
   ·rw[if_pos z1];have:q.1=p.1:=by rw[<-a q.1,z1,a]
    exact(e.mp this).symm
   ·rw[if_neg z1];by_cases z2:s q.1=p.2
    ·have:q.1=p.1:=e.mpr (by rw[<-sq,z2]);rw[this]at z1;exact absurd rfl z1
    ·rw[if_neg z2,sq]
def UT{rs:List (List Int)}{l:List Int}(h:closed rs l):∃M:Mo,M.Fits (λa=>l.getD a 0) rs:=by
 have H:∀k:Int,∃s t:Int->Int,(∀x,t (s x)=x)/\(∀x,s (t x)=x)/\∀r∈rs,r.getD 2 0=k->s (l.getD (My.mk r 1) 0)=l.getD (My.mk r (-1)) 0:=λk=>by
  obtain⟨s,t,a,b,c⟩:=zZ ((rs.filter λr=>r.getD 2 0==k).map λr=>(l.getD (My.mk r 1) 0,l.getD (My.mk r (-1)) 0)) λp hp q hq=>by
   obtain⟨x,hx,rfl⟩:=Zh.mp hp;obtain⟨y,hy,rfl⟩:=Zh.mp hq;obtain⟨hx,ex⟩:=ZT.mp hx;obtain⟨hy,ey⟩:=ZT.mp hy;have ee:x.getD 2 0=y.getD 2 0:=(eq_of_beq ex).trans (eq_of_beq ey).symm;have h1:=h x hx y hy ee 1 (.inl rfl);have h2:=h x hx y hy ee (-1) (.inr rfl);exact⟨h1,h2⟩
  refine⟨s,t,a,b,λr hr e=>?_⟩;exact c (l.getD (My.mk r 1) 0,l.getD (My.mk r (-1)) 0) (Zh.mpr ⟨r,ZT.mpr ⟨hr,beq_iff_eq.mpr e⟩,rfl⟩)
 refine⟨⟨λk=>Classical.choose (H k),λk=>Classical.choose (Classical.choose_spec (H k)),λk=>(Classical.choose_spec (Classical.choose_spec (H k))).1,λk=>(Classical.choose_spec (Classical.choose_spec (H k))).2.1⟩,λr hr=>?_⟩;exact(Classical.choose_spec (Classical.choose_spec (H (r.getD 2 0)))).2.2 r hr rfl
def Mo.Fits.cl{M:Mo}{f:Nat->Int}{rs:List (List Int)}{st:Ps}(h:M.Fits f rs)(hs:∀p∈st,f (p.2.getD 0 0).toNat=f (p.2.getD 1 0).toNat):Cl rs st f:=by
 refine⟨hs,λp hp q hq e s hs ee=>?_⟩;have h1:=h p hp;have h2:=h q hq;have hs:s=1\/s= -1:=hs;rcases hs with rfl|rfl
 ·rw[<-h1, <-h2,e,ee]
 ·show f (My.mk p 1)=f (My.mk q 1);rw[<-h1, <-h2,e]at ee;exact M.acZ ee
def FL.iff{n:Nat}{rs:List (List Int)}{st:Ps}{l:List Int}(h:FL n rs st l){a b:Nat}(ha:a<n)(hb:b<n):l.getD a 0=l.getD b 0↔∀(M:Mo) (f:Nat->Int),M.Fits f rs->(∀p∈st,f (p.2.getD 0 0).toNat=f (p.2.getD 1 0).toNat)->f a=f b:=by
 constructor
 ·exact λe M f hf hs=>h.1.snd f (hf.cl hs) a b ha hb e
 ·intro k;obtain⟨M,hM⟩:=UT h.2;exact k M _ hM h.1.qV
def Le{n:Nat}{rs:List (List Int)}(hr:∀r∈rs,cC n r){f g:Nat->Int}(h:∀x<n,f x=g x){M:Mo}:M.Fits f rs↔M.Fits g rs:=by
 constructor <;>intro k r h1<;>have:=k r h1
 ·rwa [h _ ((hr r h1).mk 1).2,h _ ((hr r h1).mk (-1)).2]at this
 ·rwa [h _ ((hr r h1).mk 1).2,h _ ((hr r h1).mk (-1)).2]
def MK{M:Mo}{f:Nat->Int}{n:Nat}{a:Int}{ws:List Int}{i:Nat}(nz:ws.getD i 0≠0):M.s ((rowAt n a ws i).getD 2 0) (f (My.mk (rowAt n a ws i) 1))=f (My.mk (rowAt n a ws i) (-1))↔f (n+i)=M.go (f (bP n a i).toNat) (ws.getD i 0):=by
 have e:((n:Int)+(i:Int)).toNat=n+i:=by omega
 unfold rowAt Mo.go;by_cases z:0<ws.getD i 0
 ·rw[if_pos z,if_pos z];show M.s (ws.getD i 0) (f (bP n a i).toNat)=f ((n:Int)+i).toNat↔_;rw[e];exact eq_comm
 ·rw[if_neg z,if_neg z];show M.s (-ws.getD i 0) (f ((n:Int)+i).toNat)=f (bP n a i).toNat↔_;rw[e];constructor
  ·intro h;rw[<-h,M.l]
  ·intro h;rw[h,M.r]
def Aa(n:Nat)(a:Int)(i:Nat):(bP n a (i+1)).toNat=n+i:=by rw[y9];omega
def UU(n:Nat)(a:Int):bP n a 0=a:=rfl
def Lf{M:Mo}{x:Int}{ws:List Int}{i:Nat}(h:i<ws.length):M.wk x (ws.take (i+1))=M.go (M.wk x (ws.take i)) (ws.getD i 0):=by
 rw[Zj h,M.app,show ws.getD i 0=ws[i]by simp[List.getD,h]];rfl
def JN{M:Mo}{f:Nat->Int}{n:Nat}{a:Int}{ws:List Int}(nz:∀l∈ws,l≠0)(h:M.Fits f (eu n a ws)):∀i≤ws.length,f (bP n a i).toNat=M.wk (f a.toNat) (ws.take i):=by
 intro i
 induction i with
 |zero=>intro _;rfl
 |succ i ih=>
  intro hi;have Df:ws.getD i 0≠0:=nz _ (by simp[List.getD,show i<ws.length by omega]);rw[Aa,Lf (by omega), <-ih (by omega)];exact(MK Df).mp (h _ (Y6 (UR (show i<ws.length by omega))))
def iV(M:Mo)(f:Nat->Int)(n:Nat)(a:Int)(ws:List Int)(x:Nat):Int:=if x<n then f x else M.wk (f a.toNat) (ws.take (x-n+1))
def vf{M:Mo}{f:Nat->Int}{n:Nat}{a:Int}{ws:List Int}(ha:aE n a)(i:Nat):iV M f n a ws (bP n a i).toNat=M.wk (f a.toNat) (ws.take i):=by
 obtain⟨a0,a1⟩:=ha;cases i with
 |zero=>
  unfold iV;rw[UU,if_pos (by omega)];rfl
 |succ i=>
  unfold iV;rw[Aa,if_neg (by omega),show n+i-n+1=i+1 by omega]
def JO{M:Mo}{f:Nat->Int}{n:Nat}{a:Int}{ws:List Int}(ha:aE n a)(nz:∀l∈ws,l≠0):M.Fits (iV M f n a ws) (eu n a ws):=λr hr=>by
 obtain⟨i,hi,rfl⟩:=Zh.mp hr;have hi:=ZU.mp hi;have Df:ws.getD i 0≠0:=nz _ (by simp[List.getD,hi]);refine(MK Df).mpr ?_;rw[vf ha, <-Lf hi, <-Aa n a i,vf ha]
def Mo.Fits.app{M:Mo}{f:Nat->Int}{rs rt:List (List Int)}:M.Fits f (rs++rt)↔M.Fits f rs/\M.Fits f rt:=
 ⟨λh=>⟨λr hr=>h r (Zc _ hr),λr hr=>h r (Zb _ hr)⟩,λh r hr=>(Y7.mp hr).elim (h.1 r) (h.2 r)⟩
def jT(rs:List (List Int))(a:Int)(ws:List Int)(b:Int):Prop:=∀(M:Mo) (f:Nat->Int),M.Fits f rs->M.wk (f a.toNat) ws=f b.toNat
def pd(es:List En)(a:Int)(ws:List Int)(b:Int):Prop:=∃i x y,En.ap i x y∈es/\∀(M:Mo) (f:Nat->Int),M.Fits f (rowsOf es)->M.wk (f a.toNat) ws=f b.toNat->f x.toNat=f y.toNat
def row_more{n m:Nat}{r:List Int}(h:cC n r)(hm:n<=m):cC m r:=by
 obtain⟨i,a,k,b,rfl,ha,hb⟩:=h;exact⟨i,a,k,b,rfl,by omega,by omega⟩
def take_all{ws:List Int}:ws.take ws.length=ws:=List.take_length
def Xc{n:Nat}{rs:List (List Int)}{a b:Int}{ws l:List Int}(hr:∀r∈rs,cC n r)(ha:aE n a)(hb:aE n b)(nz:∀x∈ws,x≠0)(h:FL (n+ws.length) (rs++eu n a ws) [] l):
  l.getD (bP n a ws.length).toNat 0=l.getD b.toNat 0↔jT rs a ws b:=by
 obtain⟨e0,e1⟩:=uZ ha ws.length ws.length (Y3 _);have b0:=hb;obtain⟨b0,b1⟩:=b0;rw[h.iff (a:=(bP n a ws.length).toNat) (b:=b.toNat) (by omega) (by omega)];constructor
 ·intro k M f hf;have:=k M (iV M f n a ws) (Mo.Fits.app.mpr ⟨(Le hr λx hx=>by unfold iV;rw[if_pos hx]).mpr hf,JO ha nz⟩) λ_ z=>nomatch z
  rw[vf ha,take_all]at this;rw[this];unfold iV;rw[if_pos (by omega)]
 ·intro k M f hf _;obtain⟨h1,h2⟩:=Mo.Fits.app.mp hf;rw[JN nz h2 _ (Y3 _),take_all];exact k M f h1
def aam{n k:Nat}{es:List En}{a b:Int}{ws l:List Int}{p:Addr}(ok:∀e∈es,g5 k n e)(k5:k<=5)(ha:aE n a)(hb:aE n b)(nz:∀x∈ws,x≠0)(h:FL (n+ws.length) (rowsOf es++eu n a ws) [(p,[bP n a ws.length,b])] l):
  cX es l≠none↔pd es a ws b:=by
 have hr:∀r∈rowsOf es,cC n r:=λr hr=>(kq k5 ok r hr).1
 have key:∀x y:Int,aE n x->aE n y->(l.getD x.toNat 0=l.getD y.toNat 0↔∀(M:Mo) (f:Nat->Int),M.Fits f (rowsOf es)->M.wk (f a.toNat) ws=f b.toNat->f x.toNat=f y.toNat):=λx y hx hy=>by
  obtain⟨x0,x1⟩:=id hx;obtain⟨y0,y1⟩:=id hy;obtain⟨b0,b1⟩:=id hb;rw[h.iff (a:=x.toNat) (b:=y.toNat) (by omega) (by omega)];constructor
  ·intro k M f hf hw
   have:=k M (iV M f n a ws) (Mo.Fits.app.mpr ⟨(Le hr λx hx=>by unfold iV;rw[if_pos hx]).mpr hf,JO ha nz⟩) λq hq=>by
    rw[Y2.mp hq];show iV M f n a ws (bP n a ws.length).toNat=iV M f n a ws b.toNat;rw[vf ha,take_all,hw];unfold iV;rw[if_pos (by omega)]
   unfold iV at this
   rwa [if_pos (by omega),if_pos (by omega)]at this
  ·intro k M f hf hs;obtain⟨h1,h2⟩:=Mo.Fits.app.mp hf;refine k M f h1 ?_;have:=hs _ (Y2.mpr rfl);have this:f (bP n a ws.length).toNat=f b.toNat:=this;rw[<-this,JN nz h2 _ (Y3 _),take_all]
 constructor
 ·intro z;by_cases y:∃i x y,En.ap i x y∈es/\l.getD x.toNat 0=l.getD y.toNat 0
  ·obtain⟨i,x,y,m,e⟩:=y;have:=ok _ m;exact⟨i,x,y,m,(key x y this.1 this.2).mp e⟩
  ·exact absurd (uS.mpr λi x y' m e=>y ⟨i,x,y',m,e⟩) z
 ·rintro⟨i,x,y,m,e⟩ z;have:=ok _ m;exact uS.mp z i x y m ((key x y this.1 this.2).mpr e)
open Classical in
noncomputable def wordOf(es:List En)(a:Int)(ws:List Int)(b:Int):Str:=if jT (rowsOf es) a ws b then"must" else if pd es a ws b then"never" else"open"
end My
namespace L2
open PySem PySem.Spec PyProof.Rows
section
variable {X:Cx}
inductive BJ(K:PySem.W.Frag)(xs:List V)(H:Hp)(Q:VK):Prop
 |mk (a:Addr) (ns:List Int) (_:xs=[.ref a]) (_:ah K H a (ns.map V.int)) (_:ns≠[]) (_:∀m∈ns,(∀i∈ns,i<=m)->Q (.int m) H):BJ K xs H Q
def ID(hc:X.calm=true):ig X (.builtin "max") (λxs H Q=>Wr (BJ X.K xs H Q)):=by
 intro pins s σ H vs us Q I r ⟨h⟩;obtain⟨a,ns,rfl,hq,ne,q⟩:=h;obtain⟨u,rfl,ru⟩:=vals1 r;cases ru;obtain⟨aj,r,pl,hz⟩:=I.list hq;have hi:=intsAre_of r;obtain⟨xs,e⟩:=hi.allInts.items;have pl:=pl.isList;rw[e]at pl;have e2:(PySem.numsOf aj)=ns:=hi.numsOf;have e3:=PySem.nums_intItems xs;have e4:aj=(PySem.intItems xs).toList:=by rw[<-e]
 rw[e4,e3]at e2;have el:xs.size=ns.length:=by rw[<-e2];simp
 have sz:0<xs.size:=by
  rw[el];cases ns with
  |nil=>exact absurd rfl ne
  |cons=>simp
 have na:∀i,i<xs.size->PySem.numAt xs i=ns.getD i 0:=λi hi=>by
  unfold PySem.numAt;rw[<-e2];simp[List.getD,hi]
 obtain⟨g1,g2⟩:=PySem.argBest_gt (PySem.numAt xs) (xs.size-1);refine PySem.max_intList (I.ok.hd hc) pl sz λv h' tk hv hk=>?_;generalize PySem.argBest (λi j=>decide (PySem.numAt xs i>PySem.numAt xs j)) (xs.size-1)=k at g1 g2 hv;have qT:k<xs.size:=by omega
 have CA:v=.int (xs[k]).1 (xs[k]).2:=by
  have:(PySem.intItems xs)[k]?=some (.int (xs[k]).1 (xs[k]).2):=by simp[PySem.intItems,qT]
  rw[this]at hv;exact(Zg hv).symm
 have nk:(xs[k]).1=PySem.numAt xs k:=by simp[PySem.numAt,qT]
 have mm:(xs[k]).1∈ns:=by
  rw[nk,na k qT,List.getD,Zd (by omega)];exact ZA _
 refine⟨.int (xs[k]).1,H,I.kept hk,⟨_,CA⟩,q _ mm λi bT=>?_⟩;obtain⟨j,hj,ej⟩:=ZD bT;have:=g2 j (by omega);rw[na j (by omega),List.getD,Zd hj,ej]at this;rw[nk];exact this
end
def ML{K:PySem.W.Frag}{H:Hp}{a:Addr}{ns:List Int}{Q:VK}(ha:H a=some (.lst (ns.map V.int)))(ne:ns≠[])(h:∀m∈ns,(∀i∈ns,i<=m)->Q (.int m) H):Wr (BJ K [.ref a] H Q):=⟨⟨a,ns,rfl,ah.of ha,ne,h⟩⟩
end L2
namespace L2
def MM{n j:Nat}{i:Int}(h:j<n)(e:i=(j:Int):=by rfl):jA n i=some j:=by
 subst e;unfold jA;rw[if_pos (by omega),if_pos (by omega)];rfl
open PySem PySem.Spec PyProof.Rows
section
variable {X:Cx}{pins:List (Addr×Obj)}{σ:St}{H:Hp}{s:Shared}{d:Addr}{kvs:List (Key×V)}
def Inv.freeze(I:Inv X pins σ H s)(e:H d=some (.dK kvs)):∃o,Inv X pins σ (upd H d (.c5 o (.dK kvs))) s:=by
 have Dg:=I.ao d _ e;obtain⟨z,ns,vs,kv,dd⟩:=(show bU X.prog X.w H s.heap d (.dK kvs)from Dg);obtain⟨o,es,ep,ho,r⟩:=id dd;have ne:∀{b:Addr},H b=none->b≠d:=λhb q=>by rw[q,e]at hb;cases hb
 refine⟨o,I.ok,I.os,I.bare,⟨I.base.keep,I.base.slot,λb ob q n hx=>?_,I.base.there,λb xs q=>?_,λb ob u q=>?_,λb ps q=>?_⟩,I.loc,I.cell,?_,λx c q=>?_,λp hp=>?_,λa u q=>?_,I.len⟩
 ·have h1:=I.base.free b ob q n hx;rw[ai (ne h1)];exact h1
 ·have h1:=I.base.gB b xs q;rw[ai (λz=>by rw[z,e]at h1;cases h1)];exact h1
 ·have h1:=I.base.fY b ob u q;rw[ai (λz=>by rw[z,e]at h1;cases h1)];exact h1
 ·obtain⟨m,h1⟩:=I.base.gC b ps q;exact⟨m,by rw[ai (λz=>by rw[z,e]at h1;cases h1)];exact h1⟩
 ·rw[ai (ne I.free)];exact I.free
 ·rw[ai (ne (I.fj x c q))];exact I.fj x c q
 ·obtain⟨h1,h2,h3⟩:=I.pin p hp;exact⟨h1,by rw[ai (ne h2)];exact h2,h3⟩
 ·by_cases ha:a=d
  ·subst ha;rw[ak]at q;cases q;exact⟨ho,z,ns,vs,kv,dd⟩
  ·rw[ai ha]at q;refine(I.ao a u q).jv (λb v hb w=>w) (λb hb=>?_) λb xs hb=>?_
   ·rw[ai (λz=>by rw[z,e]at hb;cases hb)];exact hb
   ·rw[ai (λz=>by rw[z,e]at hb;cases hb)];exact hb
def ac0(te:TE):TS:=λD σ H=>te σ H λx H1=>∃d kvs,x=.ref d/\H1 d=some (.dK kvs)/\∀o,D.rt x (upd H1 d (.c5 o (.dK kvs)))
def aan{e:Expr}{te:TE}{pos:Pos}(he:PE X e te):PS X (.Return (some e) pos) (ac0 te):=by
 intro pins s σ H D I h;refine wpAny_Return_some (aA (he pins s σ H _ I h) λv s1 ⟨x,H1,I1,r1,d,kvs,ex,ed,q⟩=>?_);obtain⟨o,I2⟩:=I1.freeze ed;exact⟨x,σ,_,I2,r1,q o⟩
def ug(o:Obj)(d:Addr)(kvs:List (Key×V)):It:=
 ⟨λi H=>H d=some (.c5 o (.dK kvs))/\i<kvs.length,λi H x H'=>H'=H/\∃p,kvs[i]?=some p/\x=kV p.1,λi H=>H d=some (.c5 o (.dK kvs))/\kvs.length<=i⟩
def Lg{P:Program}{w:World}{k:Key}{u:Value}(h:(cY P w).is k u=true):RelV (kV k) u:=by
 have h:nj k u=true:=h;rcases jh h with⟨i,t,rfl,rfl⟩|⟨x,t,rfl,rfl⟩|⟨rfl,rfl⟩
 ·exact⟨t,rfl⟩
 ·exact⟨t,rfl⟩
 ·exact rfl
def vg{P:Program}{w:World}{h:Heap}{o:Obj}(ok:bK P w H h)(e:H d=some (.c5 o (.dK kvs))):(d==sysModules)=false/\h.get? d=some o/\∃vs,KV kvs vs/\vs.length=kvs.length/\h.DictOf (cY P w) d vs:=by
 obtain⟨ho,z,ns,vs,kv,dd⟩:=(show bU P w H h d (.c5 o (.dK kvs))from ok d _ e);exact⟨ns,ho,vs,kv,(Paired.length kv).symm,dd⟩
def KV.get{κ:Type}{a:List (κ×V)}{b:List (κ×Value)}(h:KV a b):∀{i:Nat}{p:κ×V},a[i]?=some p->∃q,b[i]?=some q/\p.1=q.1:=by
 unfold KV at h
 induction h with
 |nil=>intro i p e;simp at e
 |cons CW _ ih=>
  intro i p e;cases i with
  |zero=>cases e;exact⟨_,rfl,CW.1⟩
  |succ i=>exact ih (by simpa using e)
def UW{P:Program}{w:World}{K:PySem.W.Frag}{tg:Expr}(o:Obj)(d it:Addr)(ep:Nat)(es:Array DictEntry)(xk:o.data=.dict es ep):Turn P w K tg (ug o d kvs) [it] it (λi h=>h.IsKeyIter it d i kvs.length ep) where
 mem:=by simp
 obj:=λi h st b hb=>by
  have e:b=it:=by simpa using hb
  subst e;obtain⟨o,e,c,d⟩:=st;exact⟨o,e,λv z=>by rw[d]at z;cases z⟩
 keep:=λi h h' st k=>st.at λo e=>k it (by simp) o e
 item:=by
  intro X hP hw hK hc i pins s σ H E I hf st hg;subst hP hw hK;obtain⟨hd,hi⟩:=hg;obtain⟨ns,ho,vs,kv,hl,o',es',kQ,fm,r1,r2,r3⟩:=vg I.ao hd;rw[ho]at fm;cases fm;rw[xk]at r2;cases r2;obtain⟨q,eq,ek⟩:=kv.get (show kvs[i]?=some kvs[i]by simp[hi]);obtain⟨f0,f1,f2,f3,f4,f5⟩:=hf it (by simp);refine wpAny_pyNext_dict_item (knd:=cY X.prog X.w) (kvs:=vs) (k:=q.1) (v:=q.2) (by rw[hl];exact st) ⟨o,es,ho,r1,xk,r3⟩ eq λkey h' B0 aX sb=>?_;have I1:Inv X pins σ H {s with heap:=h'}:=I.turned (t':=s.toks) (λb o hb e=>(sb.2 b hb).trans e) f0 f1 f3 f4 f5;rw[hl]at aX;obtain⟨oo,e,c,dd⟩:=id aX;exact⟨key,rfl,vQ (s:={s with heap:=h'}) e c dd (by decide) ⟨kV q.1,H,I1,Lg B0,⟨rfl,kvs[i],by simp[hi],by rw[ek]⟩,aX,λb hb=>(hf b hb).1⟩⟩
 done:=by
  intro X hP hw hK hc i pins s σ H E I hf st hg;subst hP hw hK;obtain⟨hd,hi⟩:=hg;obtain⟨ns,ho,vs,kv,hl,o',es',kQ,fm,r1,r2,r3⟩:=vg I.ao hd;rw[ho]at fm;cases fm;rw[xk]at r2;cases r2;obtain⟨f0,f1,f2,f3,f4,f5⟩:=hf it (by simp);exact wpAny_pyNext_dict_end (knd:=cY X.prog X.w) (kvs:=vs) (I.ok.hd hc) (by rw[hl];exact st) ⟨o,es,ho,r1,xk,r3⟩ (ZI (by omega)) λh' eb=>⟨rfl,I.turned (t':=s.toks) (λb o hb e=>eb b o hb e) f0 f1 f3 f4 f5⟩
 self:=λ_ _ _ _ _ st h=>wpAny_pyIter_keyiter st h
def ac1(tl:TE):TI:=λσ H R=>tl σ H λx H1=>∃d o kvs,x=.ref d/\H1 d=some (.c5 o (.dK kvs))/\R (ug o d kvs) H1
def aao{l tg:Expr}{tl:TE}(hl:PE X l tl):PI X tg l (ac1 tl):=by
 intro pins s σ H R I h;refine aA (hl pins s σ H _ I h) λv s1 ⟨x,H1,I1,r1,q1⟩=>?_;obtain⟨d,o,kvs,e,hd,q⟩:=q1;subst e;cases r1;obtain⟨ns,ho,vs,kv,c9,o',es',kQ,fm,r1,r2,r3⟩:=vg I1.ao hd;rw[ho]at fm;cases fm;refine wpAny_pyIter_dict (knd:=cY X.prog X.w) (kvs:=vs) (ep:=kQ) ns ⟨o,es',ho,r1,r2,r3⟩ ?_;rw[c9];refine⟨s1.heap.objs.size,[s1.heap.objs.size],_,_,H1,rfl,I1.kept (t':=s1.toks) λb o e=>Y8 _ e,UW o d _ kQ es' r2,⟨_,Zq _ rfl,rfl,rfl⟩,λb hb=>?_,q⟩;have e:b=s1.heap.objs.size:=by simpa using hb
 subst e;exact I1.qF (Y3 _) (I1.ao.fresh (Y3 _))
def Xd{o:Obj}{d:Addr}{kvs:List (Key×V)}{g:TG}{tb:TS}{D:Ends}{σ:St}{H:Hp}(Pv:Nat->St->Hp->Prop)(h0:Pv 0 σ H)(hl:∀i σ H,i<=kvs.length->Pv i σ H->H d=some (.c5 o (.dK kvs)))
  (hs:∀(i:Nat) p σ H,kvs[i]?=some p->Pv i σ H->g (kV p.1) σ H λσ2 H2=>tb {D with nx:=Pv (i+1),ct:=Pv (i+1),bk:=D.nx} σ2 H2)(hd:∀σ H,Pv kvs.length σ H->D.nx σ H):
  ∃W:Nat->Nat->St->Hp->Prop,(∃m,W 0 m σ H)/\∀i m σ H,W i m σ H->
   ((ug o d kvs).stop i H/\D.nx σ H)\/((ug o d kvs).go i H/\∃N:St->Hp->Prop,(∀σ' H',N σ' H'->∃m',m'<m/\W (i+1) m' σ' H')/\∀x H',(ug o d kvs).fO i H x H'->g x σ H' λσ2 H2=>tb {D with nx:=N,ct:=N,bk:=D.nx} σ2 H2):=by
 refine⟨λi m σ H=>m=kvs.length-i/\i<=kvs.length/\Pv i σ H,⟨kvs.length,by simp,Zp _,h0⟩,?_⟩;rintro i m σ H ⟨rfl,hi,p⟩;have q:=hl i σ H hi p;by_cases aP:i<kvs.length
 ·refine .inr ⟨⟨q,aP⟩,Pv (i+1),λσ' H' p'=>⟨kvs.length-(i+1),by omega,rfl,aP,p'⟩,λx H' y=>?_⟩;obtain⟨e,pp,e1,rfl⟩:=y;subst e;exact hs i pp σ _ e1 p
 ·have e:i=kvs.length:=by omega
  subst e;exact .inl ⟨⟨q,Y3 _⟩,hd σ H p⟩
end
def jr(ix:List Nat)(x y:Option V)(σ:St):St:=x::y::ix.map λi=>(σ[i]?).join
def MN(J:It)(ix:List Nat)(wj:TI)(te:TE)(σ:St)(H1:Hp)(Q:VK):Prop:=∀D,H1 D=none->∃W:Nat->Nat->List V->Hp->Prop,(∃m,W 0 m [] (upd H1 D (.lst [])))/\
 ∀i m ys H2,W i m ys H2->H2 D=some (.lst ys)/\((J.stop i H2/\Q (.ref D) H2)\/(J.go i H2/\∀x H',J.fO i H2 x H'->∀y0,wj (jr ix (some x) y0 σ) H' λJ2 H3=>∃U:Nat->Nat->List V->Hp->Prop,(∃m2,U 0 m2 ys H3)/\
  ∀j m2 zs H4,U j m2 zs H4->H4 D=some (.lst zs)/\((J2.stop j H4/\∃m',m'<m/\W (i+1) m' zs H4)\/(J2.go j H4/\zs.length<sizeLine/\∀y H5,J2.fO j H4 y H5->te (jr ix (some x) (some y) σ) H5 λv H6=>
   H6 D=some (.lst zs)/\∃OZ,OZ<m2/\U (j+1) OZ (zs++[v]) (upd H6 D (.lst (zs++[v])))))))
def MO(wi:TI)(ix:List Nat)(wj:TI)(te:TE):TE:=λσ H Q=>wi σ H λJ H1=>Wr (MN J ix wj te σ H1 Q)
def Q9(elt t1 i1 t2 i2:Expr)(scope:Scope)(pos:Pos)(it acc:Value)(env:Env):
  compTurn (.ListComp elt [⟨t1,i1,[],0⟩,⟨t2,i2,[],0⟩] scope pos) 0 it acc env=(standAt i1.pos>>=λ_=>pyNext it>>=λr=>match r with
   |none=>pure (.done .next)
   |some v=>letOwnedTupleGo t1 it v>>=λ_=>assign t1 env v>>=λ_=>
    eval i2 env>>=λx=>standAt i2.pos>>=λ_=>foldedSetIterable i2 env x>>=λx=>holding [x] (pyIter x)>>=λuh=>runOwn (.compStart (.ListComp elt [⟨t1,i1,[],0⟩,⟨t2,i2,[],0⟩] scope pos) 1 uh acc env) env>>=λ_=>
     again (.compLoop (.ListComp elt [⟨t1,i1,[],0⟩,⟨t2,i2,[],0⟩] scope pos) 0 it acc env)):=by rfl
def QX(elt t1 i1 t2 i2:Expr)(scope:Scope)(pos:Pos)(it acc:Value)(env:Env):
  compTurn (.ListComp elt [⟨t1,i1,[],0⟩,⟨t2,i2,[],0⟩] scope pos) 1 it acc env=(standAt i2.pos>>=λ_=>pyNext it>>=λr=>match r with
   |none=>pure (.done .next)
   |some v=>letOwnedTupleGo t2 it v>>=λ_=>assign t2 env v>>=λ_=>
    (eval elt env>>=λx=>call (.builtin "list.append") [acc,x]>>=λ_=>pure ())>>=λ_=>
     again (.compLoop (.ListComp elt [⟨t1,i1,[],0⟩,⟨t2,i2,[],0⟩] scope pos) 1 it acc env)):=by rfl
def QD{prog:Program}{w:World}{A:Around}{R:Result->Shared->Prop}{s:Shared}{elt g1 t2 i2 scope pos it acc env}
  (h0:codeAny (model prog w) A (.compLoop (.ListComp elt [g1,⟨t2,i2,[],0⟩] scope pos) 1 it acc env) R s)
  (h:wpAny (model prog w) A (pyIter it) (λDh s'=>codeAny (model prog w) A (.compLoop (.ListComp elt [g1,⟨t2,i2,[],0⟩] scope pos) 1 Dh acc env) R s')
   (notedBy (model prog w) A env λx s'=>R (.error x) s') s):
  codeAny (model prog w) A (.compStart (.ListComp elt [g1,⟨t2,i2,[],0⟩] scope pos) 1 it acc env) R s:=by
 refine codeAny_of_tree ?_;show wpAny _ _ ((compStart (.ListComp elt [g1,⟨t2,i2,[],0⟩] scope pos) 1 it acc env).onRaise (λx=>do noteFrame x env;standAt theWindowsPlace)) _ _ s;refine wpAny_notedAt ?_;unfold compStart;show wpAny _ _ (ask>>=_) _ _ s;refine wpAny_bind (wpAny_askSetting (wpAny_ite ?_));split
 ·first
   |exact wpAny_bind (ZV (ZV (And.intro rfl h0)))
   |exact ZV (And.intro rfl h0)
 ·first
   |exact wpAny_bind (wpAny_rule (wpAny_bind (wpAny_standAt (wpAny_bind (wpAny_mono h (λDh s' h'=>ZV (And.intro rfl h')) λ_ _ x=>x)))))
   |(refine wpAny_bind (wpAny_rule ?_);show wpAny _ _ (standAt i2.pos>>=_) _ _ s;exact wpAny_bind (wpAny_standAt (wpAny_bind (wpAny_mono h (λDh s' h'=>ZV (And.intro rfl h')) λ_ _ x=>x))))
section
variable {X:Cx}
def UX{x y2:Str}{px py pos:Pos}{elt iter jt:Expr}{scope:Scope}{cl:List (Str×Addr)}{fr:List Str}{ix:List Nat}{wi wj:TI}{te:TE}
  (hc:X.calm=true)(hi:PI X (.Name x px) iter wi)
  (gS:closureFor scope X.env=pure cl)(de:scope.kind=.function)(gz:∀y∈scope.names,y.2≠.cell)
  (gO:∀y∈scope.names,y.2=.local->scope.names.lookup y.1=some .local)(hx:scope.names.lookup x=some .local)(xm:scope.names.lookup y2=some .local)
  (hN:(x::y2::fr).Nodup)(gi:ix.map (λi=>X.N[i]?)=fr.map some)
  (eB:∀y∈fr,X.env.kindOf y=some .cell/\(relabel scope X.env).names.lookup y=some .cell)
  (aV:∀y c,cl.lookup y=some c->X.env.cells.lookup y=some c)
  (fK:∀y,((relabel scope X.env).names.lookup y=some .cell\/(relabel scope X.env).names.lookup y=some .free)->∃c,cl.lookup y=some c)
  (hj:∀C s H fp,PI (X.cq (x::y2::fr) scope cl C s H fp) (.Name y2 py) jt wj)
  (he:∀C s H fp,PE (X.cq (x::y2::fr) scope cl C s H fp) elt te)
  (hs:∀x,foldedSetIterable iter X.env x=pure x:=by intro _;rfl)(lX:∀env x,foldedSetIterable jt env x=pure x:=by intro _ _;rfl):
  PE X (.ListComp elt [⟨.Name x px,iter,[],0⟩,⟨.Name y2 py,jt,[],0⟩] scope pos) (MO wi ix wj te):=by
 intro pins s σ H Q I h;rw[eval_ListComp];refine wpAny_comprehension_free (use:=none) rfl hs gS de gO (aA (hi pins s σ H _ I h) λxv s1 h1=>aA h1 λpB s2 h2=>?_);obtain⟨it,fp,tn,J,H2,e,I2,T,gI,f2,q⟩:=h2;subst e;refine wpAny_newObj_type (wpAny_newFunctionEnv gz (by intro y hy;simp at hy) (λh₁ dE dF=>?_) de);dsimp only at dE dF⊢;have iC:H2 s2.heap.objs.size=none:=I2.ao.fresh (Y3 _);obtain⟨W,⟨m0,w0⟩,turn⟩:=q.get s2.heap.objs.size iC;generalize fA:s2.heap.push {cls:=.type "list",dict:=none,data:=.seq ([]:List Value).toArray}=HL at dE dF⊢;have hC:HL.objs.size=s2.heap.objs.size+1:=by rw[<-fA,Heap.size_push]
 have old:∀b o,s2.heap.get? b=some o->h₁.get? b=some o:=λb o e=>(dF.2 b (by rw[hC];exact Zn (ZW (Zi e)))).trans (Y8 _ (fA▸Y8 _ e))
 have j8:h₁.get? s2.heap.objs.size=some {cls:=.type "list",data:=.seq ([]:List Value).toArray}:=
  (dF.2 _ (by rw[hC];exact Zn (Nat.lt_succ_self _))).trans (Y8 _ (fA▸Zq _ rfl))
 generalize lY:HL.objs.size=C at dE dF⊢;rw[lY]at hC;have bC:∀b o,s2.heap.get? b=some o->b≠C:=λb o e=>by rw[hC];exact Zn (ZW (Zi e))
 have wX:∀b∈bW X.stack,∃o,s2.heap.get? b=some o:=λb hb=>by
  obtain⟨_,o,ho,_⟩:=I2.stack.mem hb;exact⟨o,ho⟩
 have eX:∀b∈fp,∃o,s2.heap.get? b=some o/\∀v,o.data≠.cell v:=λb hb=>T.obj 0 _ gI b hb
 have ik:∀b∈fp,b∉bW X.stack:=λb hb z=>by
  rcases Y5.mp (I2.kE b z)with z|z
  ·exact(f2 b hb).2.1 z
  ·exact(f2 b hb).2.2.1 z
 let B:=X.cq (x::y2::fr) scope cl C s2 H2 fp
 have lZ:B.Ok:=by
  refine⟨I2.ok.mod,de,I2.ok.glob,I2.ok.blt,(by show s2.heap.objs.size<=C;rw[hC];exact Nat.le_succ _),λy z c e1 e2=>I2.ok.inj y z c (aV _ _ e1) (aV _ _ e2),λy hy=>fK y hy,λy c z=>absurd (show false=true from z) Zk,
   λ_=>I2.ok.hd hc,I2.ok.frames,.inl rfl,λb hb=>⟨?_,λy c e=>(f2 b hb).2.2.2.2.1 y c (aV _ _ e)⟩,I2.bs,ZQ I2.ok.iW I2.sz,λb o e hb=>?_,λb hb=>ik b hb,I2.stack,I2.oH⟩
  ·obtain⟨o,e,_⟩:=eX b hb;exact bC b o e
  ·rcases(f2 b hb).2.2.2.1 with z|z
   ·exact I2.ok.kL b o e z
   ·exact absurd (Zv (Zi (I2.ok.bs b o e).1) z) (Z2 _)
 have IB:∀tk,Inv B [] (jr ix none none σ) (upd H2 s2.heap.objs.size (.lst [])) {s2 with heap:=h₁,toks:=tk}:=λtk=>by
  refine⟨lZ,rfl,I2.bare,Un.laid old (Y3 _) iC,⟨_,dE,λj y v e1 e2 e3=>?_⟩,λy c e=>?_,?_,λy c e=>?_,(λp hp=>nomatch hp),I2.ao.laid old (Y3 _) ⟨Zp _,[],0,.nil,j8⟩,?_⟩
  ·cases j with
   |zero=>cases(show(some none:Option (Option V))=some (some v)from e2)
   |succ j=>
    cases j with
    |zero=>cases(show(some none:Option (Option V))=some (some v)from e2)
    |succ j=>
     have e1:fr[j]?=some y:=e1;have e2:(ix.map λi=>(σ[i]?).join)[j]?=some (some v):=e2;have hj:=congrArg (λl=>l[j]?) gi;simp only[Zf,e1]at hj;rw[Zf]at e2;cases j9:ix[j]? with
     |none=>rw[j9]at e2;cases e2
     |some i=>
      rw[j9]at hj e2;have hj:X.N[i]?=some y:=Zg hj;have e2:(σ[i]?).join=some v:=Zg e2
      have e2:σ[i]?=some (some v):=by
       cases z:σ[i]? with
       |none=>rw[z]at e2;cases e2
       |some z'=>rw[z]at e2;rw[show z'=some v from e2]
      obtain⟨m,hn,hl⟩:=I2.loc;have hk:=eB y (Y6 e1);obtain⟨u,ru,lk⟩:=hl i y v hj e2 (.inr (.inl hk.1));refine⟨u,ru,.inr ⟨.inl hk.2,?_⟩⟩;rcases lk with⟨z,_⟩|⟨_,c,ec,⟨oc,bX,bS⟩⟩
      ·rw[hk.1]at z;cases z
      ·obtain⟨c',ka⟩:=fK y (.inl hk.2);have:=aV _ _ ka;rw[ec]at this;cases this;exact⟨c,ka,oc,old c oc bX,bS⟩
  ·obtain⟨v,oc,bX,bS⟩:=I2.cell y c (aV _ _ e);exact⟨v,oc,old c oc bX,bS⟩
  ·show upd H2 s2.heap.objs.size (.lst []) C=none;rw[ai (by rw[hC];exact Nat.succ_ne_self _)];exact I2.ao.fresh (by rw[hC];exact Nat.le_succ _)
  ·obtain⟨v,oc,bX,bS⟩:=I2.cell y c (aV _ _ e);rw[ai (Zn (Zi bX))];exact I2.fj y c (aV _ _ e)
  ·show(jr ix none none σ).length=(x::y2::fr).length;have:=congrArg List.length gi;simp only[Y1]at this;simp[jr,this]
 have gj:∀tk,tn 0 ({s2 with heap:=h₁,toks:=tk}:Shared).heap:=λ_=>T.keep 0 _ _ gI λb hb o e=>old b o e
 have fB:∀{H':Hp},(∀b∈fp,H' b=none)->∀b∈fp,iS B [] H' b:=λhn b hb=>by
  obtain⟨o,e,_⟩:=eX b hb;exact⟨hn b hb,bC b o e,ik b hb,.inl hb,λy c ec=>(f2 b hb).2.2.2.2.1 y c (aV _ _ ec),(λp hp=>nomatch hp)⟩
 have loop:∀tk,codeAny (model X.prog X.w) X.A (.compLoop (.ListComp elt [⟨.Name x px,iter,[],0⟩,⟨.Name y2 py,jt,[],0⟩] scope pos) 0 (.ref it) (.ref s2.heap.objs.size) (compEnvC scope cl C X.env))
   (compPost (model X.prog X.w) X.A X.xe none (EP X pins σ Q) (.ref s2.heap.objs.size) C) {s2 with heap:=h₁,toks:=tk}:=λtk=>by
  refine codeAny_loop rfl (λn s'=>∃i ys x' y' H',Inv B [] (jr ix x' y' σ) H' s'/\tn i s'.heap/\(∀b∈fp,H' b=none)/\W i n ys H') (λn s3 hI=>?_) m0 ⟨0,[],none,none,_,IB tk,gj tk,λb hb=>?_,w0⟩
  ·obtain⟨i,ys,x',y',H3,I3,fu,cA,w3⟩:=hI;show wpAny _ _ ((compTurn (.ListComp elt [⟨.Name x px,iter,[],0⟩,⟨.Name y2 py,jt,[],0⟩] scope pos) 0 (.ref it) (.ref s2.heap.objs.size) (compEnvC scope cl C X.env)).onRaise (λx=>do noteFrame x (compEnvC scope cl C X.env);theTreesLotGoes x)) _ _ s3;refine wpAny_noted ?_;rw[Q9];obtain⟨CT,alt⟩:=turn i n ys H3 w3;refine wpAny_bind (wpAny_standAt (wpAny_bind ?_));rcases alt with⟨stop,qn⟩|⟨go,step⟩
   ·refine aA (T.done B rfl rfl rfl hc i [] s3 _ H3 _ I3 (fB cA) fu stop) λr s4 ⟨hr,I4⟩=>?_;subst hr;refine ZV ?_;obtain⟨m4,kb,_⟩:=I4.loc;refine⟨m4,kb,λh' sb=>?_⟩
    have un:Un (bW X.stack) fp H2 H3 s2.heap h':=by
     have u:=I4.base;refine⟨λb o e n hb hx=>(sb.2 b (bC b o e)).trans (u.keep b o e n hb hx),λb o e n hb hx=>?_,u.free,λb o e hx=>?_,u.gB,u.fY,u.gC⟩
     ·obtain⟨sl,e1⟩:=u.slot b o e n hb hx;exact⟨sl,(sb.2 b (bC b o e)).trans e1⟩
     ·obtain⟨o',e1⟩:=u.there b o e hx;exact⟨o',(sb.2 b (bC b o e)).trans e1⟩
    refine⟨.ref s2.heap.objs.size,H3,I2.nu (s':={s4 with heap:=h'}) (ch:=fp) I4.os un (I4.ao.sameBut I4.free sb) I4.bare (λb hb=>⟨(f2 b hb).2.2.2.1,(f2 b hb).2.1,(f2 b hb).2.2.2.2⟩),rfl,qn⟩
   ·refine aA (T.item B rfl rfl rfl hc i [] s3 _ H3 _ I3 (fB cA) fu go) λr s4 ⟨u,hr,h4⟩=>?_;subst hr;refine wpAny_bind (aA h4 λ_ s5 ⟨xv,H5,I5,r5,y5,dJ,j4⟩=>?_);have j5:=I5.pinned (fB j4) (T.obj _ _ dJ);refine wpAny_bind (wpAny_assign_Name (lF (i:=0) (X:=B) j5 hN rfl (.inl (lookup_relabel_local hx)) r5 (λs6 I6=>?_) (.inr (lookup_relabel_local hx))));have I6:Inv B ([]++jO fp s5.heap) (jr ix (some xv) y' σ) H5 s6:=I6;generalize O0:([]:List (Addr×Obj))++jO fp s5.heap=pp at I6
    have kp:∀{st:St}{H8:Hp}{s8:Shared},Inv B pp st H8 s8->tn (i+1) s8.heap/\∀b∈fp,H8 b=none:=λI8=>by
     subst O0
     exact⟨T.keep _ _ _ dJ λb hb o e=>(I8.pin (b,o) (Zb _ (Zb _ (g7 hb e)))).1,λb hb=>by
      obtain⟨o,e,d⟩:=T.obj _ _ dJ b hb;exact(I8.pin (b,o) (Zb _ (Zb _ (g7 hb e)))).2.1⟩
    have un8:∀{st:St}{H8:Hp}{s8:Shared},Inv B pp st H8 s8->Inv B [] st H8 s8:=λI8=>by
     subst O0;exact I8.kr
    refine wpAny_bind (wpAny_mono (hj C s2 H2 fp pp s6 _ H5 _ I6 (step xv H5 y5 y')) (λxv2 s7 h7=>?_) λ_ _ z=>Zu z);refine wpAny_bind (wpAny_standAt (wpAny_bind (wpAny_of_eq (lX _ _) (wpAny_bind (wpAny_holding (wpAny_mono h7 (λaeI s8 h8=>?_) λ_ _ z=>Zu z))))));obtain⟨uh,nZ,tn2,J2,H8,e8,I8,T2,O1,f8,q8⟩:=h8;subst e8;obtain⟨VV,⟨n0,v0⟩,ac2⟩:=q8;refine wpAny_bind (wpAny_runOwn ?_)
    have Nx:∀Di:Shared,Di=s8->codeAny (model X.prog X.w) X.A (.compLoop (.ListComp elt [⟨.Name x px,iter,[],0⟩,⟨.Name y2 py,jt,[],0⟩] scope pos) 1 (.ref uh) (.ref s2.heap.objs.size) (compEnvC scope cl C X.env))
      (λr s'=>match r with|.ok _=>∃m' mq zs H',m'<n/\Inv B pp (jr ix (some xv) mq σ) H' s'/\W (i+1) m' zs H'|.error _=>False) Di:=λDi ui=>by
     subst ui;refine codeAny_loop rfl (λn s'=>∃j zs mq H',Inv B pp (jr ix (some xv) mq σ) H' s'/\tn2 j s'.heap/\(∀b∈nZ,H' b=none)/\VV j n zs H') (λn s3 hI=>?_) n0 ⟨0,ys,y',H8,I8,O1,λb hb=>(f8 b hb).1,v0⟩;obtain⟨j,zs,mq,H9,I9,O2,O3,v9⟩:=hI;show wpAny _ _ ((compTurn (.ListComp elt [⟨.Name x px,iter,[],0⟩,⟨.Name y2 py,jt,[],0⟩] scope pos) 1 (.ref uh) (.ref s2.heap.objs.size) (compEnvC scope cl C X.env)).onRaise (λx=>do noteFrame x (compEnvC scope cl C X.env);theTreesLotGoes x)) _ _ s3;refine wpAny_noted ?_;rw[QX];obtain⟨hD9,alt⟩:=ac2 j n zs H9 v9;have Dj:∀{Hq:Hp},(∀b∈nZ,Hq b=none)->∀b∈nZ,iS B pp Hq b:=λhn b hb=>⟨hn b hb,(f8 b hb).2⟩;refine wpAny_bind (wpAny_standAt (wpAny_bind ?_));rcases alt with⟨stop,m',hm',w'⟩|⟨go,hlen,ac3⟩
     ·refine wpAny_mono (T2.done B rfl rfl rfl hc j pp s3 _ H9 (λ_ _=>False) I9 (Dj O3) O2 stop) (λr s4 ⟨hr,I4⟩=>?_) λ_ _ z=>Zu z;subst hr;exact ZV ⟨m',mq,zs,H9,hm',I4,w'⟩
     ·refine wpAny_mono (T2.item B rfl rfl rfl hc j pp s3 _ H9 (λ_ _=>False) I9 (Dj O3) O2 go) (λr s4 ⟨u,hr,h4⟩=>?_) λ_ _ z=>Zu z;subst hr;refine wpAny_bind (wpAny_mono h4 (λ_ s5' ⟨yv,xn,I10,r10,y10,Cq,ad5⟩=>?_) λ_ _ z=>Zu z);have ad6:=I10.pinned (Dj ad5) (T2.obj _ _ Cq);refine wpAny_bind (wpAny_assign_Name (lF (i:=1) (X:=B) ad6 hN rfl (.inl (lookup_relabel_local xm)) r10 (λO4 Dk=>?_) (.inr (lookup_relabel_local xm))));have Dk:Inv B (pp++jO nZ s5'.heap) (jr ix (some xv) (some yv) σ) xn O4:=Dk;refine wpAny_bind (wpAny_bind (wpAny_mono (he C s2 H2 fp _ O4 _ xn _ Dk (ac3 yv xn y10)) (λv bD ⟨y,O5,I12,r12,ad7,m',hm,uj⟩=>?_) λ_ _ z=>Zu z))
      refine wpAny_bind (wpAny_mono (dZ (X:=B) _ bD _ O5 (.ref s2.heap.objs.size) [y] (.ref s2.heap.objs.size) [v] (λ_ H8=>H8=upd O5 s2.heap.objs.size (.lst (zs++[y]))) I12 rfl (.cons r12 .nil) ⟨_,zs,y,rfl,rfl,ad7,hlen,rfl⟩)
       (λ_ dc ⟨_,H13,Dl,_,e13⟩=>?_) λ_ _ z=>Zu z)
      subst e13;refine ZV (ZV ⟨rfl,m',hm,j+1,zs++[y],some yv,_,Dl.kr,T2.keep _ _ _ Cq λb hb o e=>(Dl.pin (b,o) (Zb _ (Zb _ (g7 hb e)))).1,λb hb=>?_,uj⟩);obtain⟨o,e,d⟩:=T2.obj _ _ Cq b hb;exact(Dl.pin (b,o) (Zb _ (Zb _ (g7 hb e)))).2.1
    have cont:codeAny (model X.prog X.w) X.A (.compStart (.ListComp elt [⟨.Name x px,iter,[],0⟩,⟨.Name y2 py,jt,[],0⟩] scope pos) 1 (.ref uh) (.ref s2.heap.objs.size) (compEnvC scope cl C X.env))
      (λr s'=>match r with|.ok _=>∃m' mq zs H',m'<n/\Inv B pp (jr ix (some xv) mq σ) H' s'/\W (i+1) m' zs H'|.error _=>False) s8:=
     QD (Nx _ rfl) (T2.self _ 0 _ _ _ O1 (Nx _ rfl))
    refine codeAny_mono cont λr s' hr=>?_;cases r with
    |error _=>exact Zu hr
    |ok f=>
     obtain⟨m',mq,zs,H',hm,I',w'⟩:=hr;exact ZV ⟨rfl,m',hm,i+1,zs,some xv,mq,H',un8 I',(kp I').1,(kp I').2,w'⟩
  ·obtain⟨o,e,_⟩:=eX b hb;rw[ai (Zn (Zi e))];exact(f2 b hb).1
 exact codeAny_compStart_list (loop _) (T.self _ 0 _ _ _ (gj _) (loop _))
end
section
variable {X:Cx}{te:TE}{pos:Pos}
def pit{l tg:Expr}{tl:TE}(K:PySem.W.Frag)(e:X.K=K)(hl:PE X l tl):PI X tg l (BU K tl):=by subst e;exact AY hl
def Xe{x y2:Str}{px py:Pos}{elt iter jt:Expr}{scope:Scope}{cl:List (Str×Addr)}{wi wj:TI}(fr:List Str)(ix:List Nat)
  (hi:PI X (.Name x px) iter wi)(hj:∀C s H fp,PI (X.cq (x::y2::fr) scope cl C s H fp) (.Name y2 py) jt wj)(he:∀C s H fp,PE (X.cq (x::y2::fr) scope cl C s H fp) elt te)
  (aV:∀y c,cl.lookup y=some c->X.env.cells.lookup y=some c)
  (gS:closureFor scope X.env=pure cl:=by rfl)(hc:X.calm=true:=by rfl)(de:scope.kind=.function:=by rfl)(gz:(scope.names.all λp=>p.2 != .cell)=true:=by rfl)
  (gO:(scope.names.all λp=>p.2 != .local||scope.names.lookup p.1==some .local)=true:=by rfl)(hx:scope.names.lookup x=some .local:=by rfl)(xm:scope.names.lookup y2=some .local:=by rfl)
  (hN:(x::y2::fr).Nodup:=by decide+kernel)(gi:ix.map (λi=>X.N[i]?)=fr.map some:=by rfl)
  (eB:(fr.all λy=>X.env.kindOf y==some .cell&&(relabel scope X.env).names.lookup y==some .cell)=true:=by rfl)
  (fK:((relabel scope X.env).names.all λp=>(p.2 != .cell&&p.2 != .free)||(cl.lookup p.1).isSome)=true:=by rfl)
  (hs:∀x,foldedSetIterable iter X.env x=pure x:=by intro _;rfl)(lX:∀env x,foldedSetIterable jt env x=pure x:=by intro _ _;rfl):
  PE X (.ListComp elt [⟨.Name x px,iter,[],0⟩,⟨.Name y2 py,jt,[],0⟩] scope pos) (MO wi ix wj te):=by
 refine UX hc hi gS de (λy hy e=>?_) (λy hy e=>?_) hx xm hN gi (λy hy=>?_) aV (λy hy=>?_) hj he hs lX
 ·have:=ZC.mp gz y hy;rw[e]at this;exact absurd this (by decide)
 ·have:=ZC.mp gO y hy;rw[e]at this;simpa using this
 ·have:=ZC.mp eB y hy;rw[Bool.and_eq_true]at this;exact⟨eq_of_beq this.1,eq_of_beq this.2⟩
 ·have:∃k,(relabel scope X.env).names.lookup y=some k/\(k=.cell\/k=.free):=by
   rcases hy with h|h
   ·exact⟨_,h,.inl rfl⟩
   ·exact⟨_,h,.inr rfl⟩
  obtain⟨k,e,hk⟩:=this;have:=ZC.mp fK (y,k) (ZM e)
  have h2:(cl.lookup y).isSome=true:=by
   rcases hk with rfl|rfl<;>simpa using this
  exact Option.isSome_iff_exists.mp h2
def Tg{K:PySem.W.Frag}{lo:Int}{n:Nat}{ix:List Nat}{ta:TA}{σ:St}{H:Hp}{Q:VK}(f:Nat->List Int)(hn:n<=1000)(hf:∀i,(f i).length=2)
  (ha:∀i,i<n->∀(y0:Option V) (H2:Hp) (Q':List V->Hp->Prop),Q' ((f i).map V.int) H2->ta (jr ix (some (.int (lo+i))) y0 σ) H2 Q')
  (hQ:∀D H',H D=none->H' D=some (.lst (((List.range n).flatMap f).map V.int))->aa H H'->Q (.ref D) H'):
  Wr (MN (gH lo n) ix (BU K (B1 ta)) (iR 1) σ H Q):=by
 refine⟨λD hD=>⟨λi m ys H2=>m=n-i/\i<=n/\ys=((List.range i).flatMap f).map V.int/\H2 D=some (.lst ys)/\aa H H2,⟨n,rfl,Zp _,rfl,ak,(λb o e=>by rw[ai (a8 e hD)];exact e)⟩,?_⟩⟩;rintro i m ys H2 ⟨rfl,hi,rfl,n5,s2⟩;refine⟨n5,?_⟩;by_cases aP:i<n
 ·refine .inr ⟨aP,λx H' y y0=>?_⟩;obtain⟨e,y⟩:=y;subst e y;refine ha i aP y0 H' _ ⟨?_,λt ht=>?_⟩
  ·rw[Y1,hf];exact(by decide:2<=sizeLine)
  refine⟨t,rfl,⟨_,aZ.of ak⟩,?_⟩;have nt:D≠t:=λz=>by rw[<-z,n5]at ht;cases ht
  have len:((List.range i).flatMap f).length=2*i:=by
   clear aP hi n5 ht nt s2 hD ha hn
   induction i with
   |zero=>rfl
   |succ i ih=>rw[List.range_succ,List.flatMap_append,Zo,ih];simp[hf];omega
  refine⟨λj m2 zs H4=>m2=2-j/\j<=2/\zs=((List.range i).flatMap f).map V.int++((f i).take j).map V.int/\H4=upd (upd H' t (.tup ((f i).map V.int))) D (.lst zs),⟨2,rfl,Zp _,by simp,?_⟩,?_⟩
  ·funext b
   by_cases z:b=D
   ·rw[z,ak,ai nt];exact n5
   ·rw[ai (a:=D) z]
  rintro j m2 zs H4 ⟨rfl,hj,rfl,rfl⟩;refine⟨ak,?_⟩;have st:aZ K (upd (upd H' t (.tup ((f i).map V.int))) D (.lst (((List.range i).flatMap f).map V.int++((f i).take j).map V.int))) t ((f i).map V.int):=aZ.of (by rw[ai (λz=>nt z.symm),ak]);by_cases uk:j<2
  ·have Dm:j<(f i).length:=by rw[hf];exact uk
   refine .inr ⟨⟨_,V.int (f i)[j],st,by simp[Dm]⟩,?_,λy H5 yl=>?_⟩
   ·refine ZP (?_:_<=10000) (by decide);rw[Zo,Y1,Y1,len,Zx,hf];omega
   obtain⟨e,yl⟩:=yl;subst e;have ey:=yl _ st;rw[Zf,Zd Dm]at ey;cases ey;refine⟨_,rfl,ak,2-(j+1),by omega,rfl,uk,?_,by rw[lH]⟩;rw[Zj Dm,Ze,ZY];rfl
  ·have e:j=2:=by omega
   subst e;refine .inl ⟨⟨_,st,by rw[Y1,hf];exact Y3 _⟩,n-(i+1),by omega,rfl,aP,?_,ak,?_⟩
   ·rw[ZE (by rw[hf];exact Y3 _),List.range_succ,List.flatMap_append,Ze];simp
   ·intro b o e;have h1:=s2 b o e;have nb:b≠D:=a8 e hD;have nb2:b≠t:=a8 h1 ht;rw[ai nb,ai nb2];exact h1
 ·have e:i=n:=by omega
  subst e;exact .inl ⟨Y3 _,hQ D H2 hD n5 s2⟩
end
def Lh(J:It)(n:Nat)(gT:TG)(tk tv:TE)(H1:Hp)(Q:VK):Prop:=∀D,H1 D=none->∃(e0:HO) (W:Nat->Nat->Hp->Prop),(e0=.dK []\/e0=.dT [])/\(∃m,W 0 m (upd H1 D e0))/\
 ∀i m H2,W i m H2->(J.stop i H2/\Q (.ref D) H2)\/(J.go i H2/\∀x H',J.fO i H2 x H'->∀nb:St,nb.length=n->gT x nb H' λσ2 H3=>tk σ2 H3 λy H4=>tv σ2 H4 λyv H5=>
  ∃H6,iu H5 D y yv H6/\∃m',m'<m/\W (i+1) m' H6)
def Li(wi:TI)(n:Nat)(gT:TG)(tk tv:TE):TE:=λσ H Q=>wi σ H λJ H1=>Wr (Lh J n gT tk tv H1 Q)
def ac4{P:Program}{w:World}{H:Hp}{h h':Heap}(e:h'.get? h.objs.size=some {cls:=.type "dict",data:=.dict #[]})(hb:sysModules<h.objs.size):bU P w H h' h.objs.size (.dT []):=
 ⟨Zp _,ZH.mpr (Ne.symm (Zn hb)),[],.nil,_, #[],0,e,⟨rfl,rfl,rfl⟩,rfl,rfl,List.nodup_nil⟩
section
variable {X:Cx}{pins:List (Addr×Obj)}{σ:St}{H:Hp}{s:Shared}{a:Addr}{y v:V}{u r:Value}{A:Around}{E:Value->Shared->Prop}
def UY{H':Hp}{Q:Unit->Shared->Prop}(hu:A.units+1<cLine)(I:Inv X pins σ H s)(g:iu H a y v H')(ry:RelV y u)(rv:RelV v r)(h:∀s',Inv X pins σ H' s'->Q () s'):
  wpAny (model X.prog X.w) A (dictSet a u r) Q E s:=by
 rcases g with⟨kvs,k,e,ey,l,eH⟩|⟨kvs,k,b,e,ey,eb,l,eH⟩
 ·subst ey eH;obtain⟨z,hd,vs,rel,dd⟩:=Bt I.ao e;have hz:vs.length<=sizeLine:=by rw[<-rel.length];exact z
  have hl:(putK kvs k v).length<=sizeLine:=by have:=rO kvs k v;omega
  refine wpAny_dictSet_pairs (hsz:=hz) (nA ry) dd λh' jC hs=>h _ ?_;have he:∃q,h'.get? a=some q:=let⟨q,_,_,hq,_⟩:=jC;⟨q,hq⟩
  exact su I (by rw[e];exact True.intro) hs he (A2 hl hd (rel.put k rv) jC)
 ·subst ey eH;cases(show u=Value.ref b from ry);obtain⟨z,hd,xs,rel,dd⟩:=Bu I.ao e;have hz:xs.length<=sizeLine:=by rw[<-Paired.length rel];exact z
  have hl:(putK kvs k v).length<=sizeLine:=by have:=rO kvs k v;omega
  refine wpAny_dictSet_heap (hsz:=hz) (show(tupleKind (cY X.prog X.w)).room A from Nat.lt_of_succ_lt hu) (oR I.ao eb) dd λh' jC hs=>h _ ?_;obtain⟨q,es,ep,hq,h2,h3,h4,_,h5⟩:=jC;refine su I (by rw[e];exact True.intro) hs ⟨q,hq⟩ ⟨hl,hd,_,(rel.put k eb rv).keeps λc ys ec=>?_,q,es,ep,hq,h2,h3,h4,h5⟩;rw[ai (M4 ec e (λz=>nomatch z))];exact ec
end
section
variable {X:Cx}
def Th{NB:List Str}{mz:Expr}{gT:TG}{pos:Pos}{kx vx iter:Expr}{scope:Scope}{cl:List (Str×Addr)}{wi:TI}{tk tv:TE}
  (hu:X.A.units+1<cLine)(hc:X.calm=true)(hi:PI X mz iter wi)
  (gS:closureFor scope X.env=pure cl)(de:scope.kind=.function)(gz:∀y∈scope.names,y.2≠.cell)
  (gO:∀y∈scope.names,y.2=.local->scope.names.lookup y.1=some .local)
  (aV:∀y c,cl.lookup y=some c->X.env.cells.lookup y=some c)
  (fK:∀y,((relabel scope X.env).names.lookup y=some .cell\/(relabel scope X.env).names.lookup y=some .free)->∃c,cl.lookup y=some c)
  (hg:∀C s H fp,PG (X.cq NB scope cl C s H fp) mz gT)
  (hk:∀C s H fp,PE (X.cq NB scope cl C s H fp) kx tk)(he:∀C s H fp,PE (X.cq NB scope cl C s H fp) vx tv)
  (hs:∀x,foldedSetIterable iter X.env x=pure x:=by intro _;rfl):
  PE X (.DictComp kx vx [⟨mz,iter,[],0⟩] scope pos) (Li wi NB.length gT tk tv):=by
 intro pins s σ H Q I h;rw[arm_eval_DictComp];refine wpAny_comprehension_free (use:=none) rfl hs gS de gO (aA (hi pins s σ H _ I h) λxv s1 h1=>aA h1 λpB s2 h2=>?_);obtain⟨it,fp,tn,J,H2,e,I2,T,gI,f2,q⟩:=h2;subst e;refine wpAny_newObj_type (wpAny_newFunctionEnv gz (by intro y hy;simp at hy) (λh₁ dE dF=>?_) de);dsimp only at dE dF⊢;have iC:H2 s2.heap.objs.size=none:=I2.ao.fresh (Y3 _);obtain⟨e0,W,he0,⟨m0,w0⟩,turn⟩:=q.get s2.heap.objs.size iC;generalize fA:s2.heap.push {cls:=.type "dict",dict:=none,data:=.dict #[]}=HL at dE dF⊢;have hC:HL.objs.size=s2.heap.objs.size+1:=by rw[<-fA,Heap.size_push]
 have old:∀b o,s2.heap.get? b=some o->h₁.get? b=some o:=λb o e=>(dF.2 b (by rw[hC];exact Zn (ZW (Zi e)))).trans (Y8 _ (fA▸Y8 _ e))
 have j8:h₁.get? s2.heap.objs.size=some {cls:=.type "dict",data:=.dict #[]}:=
  (dF.2 _ (by rw[hC];exact Zn (Nat.lt_succ_self _))).trans (Y8 _ (fA▸Zq _ rfl))
 generalize lY:HL.objs.size=C at dE dF⊢;rw[lY]at hC;have bC:∀b o,s2.heap.get? b=some o->b≠C:=λb o e=>by rw[hC];exact Zn (ZW (Zi e))
 have wX:∀b∈bW X.stack,∃o,s2.heap.get? b=some o:=λb hb=>by
  obtain⟨_,o,ho,_⟩:=I2.stack.mem hb;exact⟨o,ho⟩
 have eX:∀b∈fp,∃o,s2.heap.get? b=some o/\∀v,o.data≠.cell v:=λb hb=>T.obj 0 _ gI b hb
 have ik:∀b∈fp,b∉bW X.stack:=λb hb z=>by
  rcases Y5.mp (I2.kE b z)with z|z
  ·exact(f2 b hb).2.1 z
  ·exact(f2 b hb).2.2.1 z
 let B:=X.cq NB scope cl C s2 H2 fp
 have lZ:B.Ok:=by
  refine⟨I2.ok.mod,de,I2.ok.glob,I2.ok.blt,(by show s2.heap.objs.size<=C;rw[hC];exact Nat.le_succ _),λy z c e1 e2=>I2.ok.inj y z c (aV _ _ e1) (aV _ _ e2),λy hy=>fK y hy,λy c z=>absurd (show false=true from z) Zk,
   λ_=>I2.ok.hd hc,I2.ok.frames,.inl rfl,λb hb=>⟨?_,λy c e=>(f2 b hb).2.2.2.2.1 y c (aV _ _ e)⟩,I2.bs,ZQ I2.ok.iW I2.sz,λb o e hb=>?_,λb hb=>ik b hb,I2.stack,I2.oH⟩
  ·obtain⟨o,e,_⟩:=eX b hb;exact bC b o e
  ·rcases(f2 b hb).2.2.2.1 with z|z
   ·exact I2.ok.kL b o e z
   ·exact absurd (Zv (Zi (I2.ok.bs b o e).1) z) (Z2 _)
 have Dg:∀HH,bU X.prog X.w HH h₁ s2.heap.objs.size e0:=λHH=>by
  rcases he0 with z|z
  ·subst z;exact acO j8 I2.big
  ·subst z;exact ac4 j8 I2.big
 have IB:∀tk,Inv B [] (List.replicate NB.length none) (upd H2 s2.heap.objs.size e0) {s2 with heap:=h₁,toks:=tk}:=λtk=>by
  refine⟨lZ,rfl,I2.bare,Un.laid old (Y3 _) iC,⟨_,dE,λj y v e1 e2 e3=>?_⟩,λy c e=>?_,?_,λy c e=>?_,(λp hp=>nomatch hp),I2.ao.laid old (Y3 _) (Dg _),?_⟩
  ·rw[ZS]at e2;split at e2<;>cases e2
  ·obtain⟨v,oc,bX,bS⟩:=I2.cell y c (aV _ _ e);exact⟨v,oc,old c oc bX,bS⟩
  ·show upd H2 s2.heap.objs.size e0 C=none;rw[ai (by rw[hC];exact Nat.succ_ne_self _)];exact I2.ao.fresh (by rw[hC];exact Nat.le_succ _)
  ·obtain⟨v,oc,bX,bS⟩:=I2.cell y c (aV _ _ e);rw[ai (Zn (Zi bX))];exact I2.fj y c (aV _ _ e)
  ·exact ZR
 have gj:∀tk,tn 0 ({s2 with heap:=h₁,toks:=tk}:Shared).heap:=λ_=>T.keep 0 _ _ gI λb hb o e=>old b o e
 have fB:∀{H':Hp},(∀b∈fp,H' b=none)->∀b∈fp,iS B [] H' b:=λhn b hb=>by
  obtain⟨o,e,_⟩:=eX b hb;exact⟨hn b hb,bC b o e,ik b hb,.inl hb,λy c ec=>(f2 b hb).2.2.2.2.1 y c (aV _ _ ec),(λp hp=>nomatch hp)⟩
 have loop:∀tk,codeAny (model X.prog X.w) X.A (.compLoop (.DictComp kx vx [⟨mz,iter,[],0⟩] scope pos) 0 (.ref it) (.ref s2.heap.objs.size) (compEnvC scope cl C X.env))
   (compPost (model X.prog X.w) X.A X.xe none (EP X pins σ Q) (.ref s2.heap.objs.size) C) {s2 with heap:=h₁,toks:=tk}:=λtk=>by
  refine codeAny_loop rfl (λn s'=>∃i nb H',Inv B [] nb H' s'/\tn i s'.heap/\(∀b∈fp,H' b=none)/\W i n H') (λn s3 hI=>?_) m0 ⟨0,_,_,IB tk,gj tk,λb hb=>?_,w0⟩
  ·obtain⟨i,nb,H3,I3,fu,cA,w3⟩:=hI;show wpAny _ _ ((compTurn (.DictComp kx vx [⟨mz,iter,[],0⟩] scope pos) 0 (.ref it) (.ref s2.heap.objs.size) (compEnvC scope cl C X.env)).onRaise (λx=>do noteFrame x (compEnvC scope cl C X.env);theTreesLotGoes x)) _ _ s3;refine wpAny_noted ?_;rw[compTurn_dict];have alt:=turn i n H3 w3;refine wpAny_bind (wpAny_standAt (wpAny_bind ?_));rcases alt with⟨stop,qn⟩|⟨go,step⟩
   ·refine aA (T.done B rfl rfl rfl hc i [] s3 _ H3 _ I3 (fB cA) fu stop) λr s4 ⟨hr,I4⟩=>?_;subst hr;refine ZV ?_;obtain⟨m4,kb,_⟩:=I4.loc;refine⟨m4,kb,λh' sb=>?_⟩
    have un:Un (bW X.stack) fp H2 H3 s2.heap h':=by
     have u:=I4.base;refine⟨λb o e n hb hx=>(sb.2 b (bC b o e)).trans (u.keep b o e n hb hx),λb o e n hb hx=>?_,u.free,λb o e hx=>?_,u.gB,u.fY,u.gC⟩
     ·obtain⟨sl,e1⟩:=u.slot b o e n hb hx;exact⟨sl,(sb.2 b (bC b o e)).trans e1⟩
     ·obtain⟨o',e1⟩:=u.there b o e hx;exact⟨o',(sb.2 b (bC b o e)).trans e1⟩
    refine⟨.ref s2.heap.objs.size,H3,I2.nu (s':={s4 with heap:=h'}) (ch:=fp) I4.os un (I4.ao.sameBut I4.free sb) I4.bare (λb hb=>⟨(f2 b hb).2.2.2.1,(f2 b hb).2.1,(f2 b hb).2.2.2.2⟩),rfl,qn⟩
   ·refine aA (T.item B rfl rfl rfl hc i [] s3 _ H3 _ I3 (fB cA) fu go) λr s4 ⟨u,hr,h4⟩=>?_;subst hr;refine wpAny_bind (aA h4 λ_ s5 ⟨xv,H5,I5,r5,y5,dJ,j4⟩=>?_);have j5:=I5.pinned (fB j4) (T.obj _ _ dJ);refine wpAny_bind (wpAny_mono (hg C s2 H2 fp _ s5 _ H5 xv u _ j5 r5 (step xv H5 y5 nb I3.len)) (λ_ s6 ⟨σ2,H6,I6,q6⟩=>?_) λ_ _ z=>Zu z);refine wpAny_bind (wpAny_tests_nil (wpAny_bind (wpAny_bind (wpAny_mono (hk C s2 H2 fp _ s6 _ H6 _ I6 q6) (λkv s7 ⟨y,H7,I7,r7,q7⟩=>?_) λ_ _ z=>Zu z))));refine wpAny_bind (wpAny_holding (wpAny_mono (he C s2 H2 fp _ s7 _ H7 _ I7 q7) (λvv s8 ⟨yv,H8,I8,r8,H9,g9,m',hm,w8⟩=>?_) λ_ _ z=>Zu z));refine wpAny_bind (wpAny_standAt (wpAny_holding (UY (X:=B) hu I8 g9 r7 r8 λs9 I9=>?_)));refine ZV ⟨rfl,m',hm,i+1,σ2,_,I9.kr,T.keep _ _ _ dJ λb hb o e=>(I9.pin (b,o) (Zb _ (Zb _ (g7 hb e)))).1,λb hb=>?_,w8⟩;obtain⟨o,e,d⟩:=T.obj _ _ dJ b hb;exact(I9.pin (b,o) (Zb _ (Zb _ (g7 hb e)))).2.1
  ·obtain⟨o,e,_⟩:=eX b hb;rw[ai (Zn (Zi e))];exact(f2 b hb).1
 exact codeAny_compStart_dict (loop _) (T.self _ 0 _ _ _ (gj _) (loop _))
end
section
variable {X:Cx}
def pgt(K:PySem.W.Frag){pos:Pos}{es:List Expr}{k:Nat}{t:nQ}{n:Nat}(e:X.K=K)(hc:X.calm=true)(h:tR X es t)
  (hn:(assignEach es X.env).length=n:=by rfl)(bM:(assignEach es X.env).findIdx? (·.1)=none:=by rfl):PG X (.Tuple es k pos) (NN K n t):=by subst e;exact eJ hc h hn bM
def UZ{mz:Expr}{gT:TG}{pos:Pos}{kx vx iter:Expr}{scope:Scope}{cl:List (Str×Addr)}{wi:TI}{tk tv:TE}(NB:List Str)
  (hu:X.A.units+1<cLine)(hi:PI X mz iter wi)
  (hg:∀C s H fp,PG (X.cq NB scope cl C s H fp) mz gT)
  (hk:∀C s H fp,PE (X.cq NB scope cl C s H fp) kx tk)(he:∀C s H fp,PE (X.cq NB scope cl C s H fp) vx tv)
  (aV:∀y c,cl.lookup y=some c->X.env.cells.lookup y=some c)
  (gS:closureFor scope X.env=pure cl:=by rfl)(hc:X.calm=true:=by rfl)(de:scope.kind=.function:=by rfl)(gz:(scope.names.all λp=>p.2 != .cell)=true:=by rfl)
  (gO:(scope.names.all λp=>p.2 != .local||scope.names.lookup p.1==some .local)=true:=by rfl)
  (fK:((relabel scope X.env).names.all λp=>(p.2 != .cell&&p.2 != .free)||(cl.lookup p.1).isSome)=true:=by rfl)
  (hs:∀x,foldedSetIterable iter X.env x=pure x:=by intro _;rfl):
  PE X (.DictComp kx vx [⟨mz,iter,[],0⟩] scope pos) (Li wi NB.length gT tk tv):=by
 refine Th hu hc hi gS de (λy hy e=>?_) (λy hy e=>?_) aV (λy hy=>?_) hg hk he hs
 ·have:=ZC.mp gz y hy;rw[e]at this;exact absurd this (by decide)
 ·have:=ZC.mp gO y hy;rw[e]at this;simpa using this
 ·have:∃k,(relabel scope X.env).names.lookup y=some k/\(k=.cell\/k=.free):=by
   rcases hy with h|h
   ·exact⟨_,h,.inl rfl⟩
   ·exact⟨_,h,.inr rfl⟩
  obtain⟨k,e,hk⟩:=this;have:=ZC.mp fK (y,k) (mem_of_lookup e)
  have h2:(cl.lookup y).isSome=true:=by
   rcases hk with rfl|rfl<;>simpa using this
  exact Option.isSome_iff_exists.mp h2
end
end L2
namespace My
open PySem L2
def lets(k:Nat):List Int:=(List.range k).flatMap λ(i:Nat)=>[1+(i:Int), -(1+(i:Int))]
def r9{k:Nat}{l:Int}:l∈lets k↔Let k l:=by
 unfold lets Let;rw[List.mem_flatMap];constructor
 ·rintro⟨i,hi,h⟩;have:=ZU.mp hi;rcases Y5.mp h with e|h
  ·omega
  ·have e:=Y2.mp h;omega
 ·rintro⟨h0,h1,h2⟩;refine⟨l.natAbs-1,ZU.mpr (by omega),?_⟩;by_cases hp:0<l
  ·exact Y5.mpr (.inl (by omega))
  ·exact Y4 _ (Y2.mpr (by omega))
def JQ(k:Nat):(lets k).length=2*k:=by
 unfold lets
 induction k with
 |zero=>rfl
 |succ k ih=>rw[List.range_succ,List.flatMap_append,Zo,ih];simp;omega
def cg(T:Tab)(c:Nat)(O:List Nat)(l:Int):List Nat:=match a6 T c l with
 |none=>O
 |some d=>if d.toNat∈O then O else O++[d.toNat]
def nK(T:Tab)(k:Nat)(O:List Nat)(i:Nat):List Nat:=(lets k).foldl (cg T (O.getD i 0)) O
def mB(T:Tab)(k:Nat):Nat->Nat->List Nat->List Nat
 |0,_,O=>O
 |f+1,i,O=>if i<O.length then mB T k f (i+1) (nK T k O i)else O
def met(T:Tab)(k n base:Nat):List Nat:=mB T k (n+1) 0 [base]
def Ab{T:Tab}{k f i:Nat}{O:List Nat}(h:O.length<=i):mB T k f i O=O:=by
 cases f with
 |zero=>rfl
 |succ f=>show(if i<O.length then _ else O)=O;rw[if_neg (by omega)]
def Bj{T:Tab}{k f i:Nat}{O:List Nat}(h:i<O.length):mB T k (f+1) i O=mB T k f (i+1) (nK T k O i):=by
 show(if i<O.length then _ else O)=_;rw[if_pos h]
def AI{T:Tab}{k:Nat}(P:Nat->List Nat->Prop)(h:∀i O,i<O.length->P i O->P (i+1) (nK T k O i)):∀(f i:Nat) (O:List Nat),P i O->∃i',P i' (mB T k f i O)/\((mB T k f i O).length<=i'\/i'=i+f)
 |0,i,O,p=>⟨i,p,.inr rfl⟩
 |f+1,i,O,p=>by
  by_cases hl:i<O.length
  ·rw[Bj hl];obtain⟨i',p',q⟩:=AI P h f (i+1) _ (h i O hl p);exact⟨i',p',q.imp id λe=>by omega⟩
  ·rw[Ab (by omega)];exact⟨i,p,.inl (by omega)⟩
def aap{T:Tab}{c:Nat}{O:List Nat}{l:Int}:∃r,cg T c O l=O++r:=by
 unfold cg;split
 ·exact⟨[],by simp⟩
 ·split
  ·exact⟨[],by simp⟩
  ·exact⟨_,rfl⟩
def vh{T:Tab}{c:Nat}:∀(ls:List Int) (O:List Nat),∃r,ls.foldl (cg T c) O=O++r
 |[],O=>⟨[],by simp⟩
 |l::ls,O=>by
  obtain⟨r,e⟩:=aap (T:=T) (c:=c) (O:=O) (l:=l);obtain⟨r',e'⟩:=vh ls (cg T c O l);refine⟨r++r',?_⟩;show ls.foldl (cg T c) (cg T c O l)=_;rw[e',e,ZY]
def aaq{T:Tab}{c:Nat}{O:List Nat}{l d:Int}(e:a6 T c l=some d):d.toNat∈cg T c O l:=by
 unfold cg;rw[e];dsimp only;split
 ·assumption
 ·exact Zb _ (Y2.mpr rfl)
def JR{T:Tab}{c:Nat}{d:Int}{l:Int}(e:a6 T c l=some d):∀(ls:List Int) (O:List Nat),l∈ls->d.toNat∈ls.foldl (cg T c) O
 |a::ls,O,h=>by
  show d.toNat∈ls.foldl (cg T c) (cg T c O a);rcases Y5.mp h with q|q
  ·obtain⟨r,e'⟩:=vh (T:=T) (c:=c) ls (cg T c O a);rw[e'];exact Zc _ (q▸aaq e)
  ·exact JR e ls _ q
structure dI(n:Nat)(O:List Nat):Prop where
 nd:O.Nodup
 lt:∀c∈O,c<n
def dI.cg{k n:Nat}{T:Tab}(ok:bL k n T){c:Nat}{O:List Nat}{l:Int}(h:dI n O):dI n (cg T c O l):=by
 unfold My.cg;split
 ·exact h
 ·rename_i d e;have:=jP ok e;split
  ·exact h
  ·rename_i q;refine⟨qv h.nd q,λx hx=>?_⟩;rcases Y7.mp hx with z|z
   ·exact h.lt x z
   ·rw[Y2.mp z];omega
def dI.fold{k n:Nat}{T:Tab}(ok:bL k n T){c:Nat}:∀(ls:List Int) {O:List Nat},dI n O->dI n (ls.foldl (My.cg T c) O)
 |[],_,h=>h
 |l::ls,O,h=>dI.fold ok ls (h.cg ok)
def dI.len{n:Nat}{O:List Nat}(h:dI n O):O.length<=n:=by
 have gen:∀(n:Nat) (O:List Nat),O.Nodup->(∀c∈O,c<n)->O.length<=n:=by
  intro n
  induction n with
  |zero=>
   intro O _ h;cases O with
   |nil=>exact Y3 _
   |cons a _=>exact absurd (h a (Y9 ..)) (by omega)
  |succ n ih=>
   intro O nd h
   have h1:=ih (O.erase n) (nd.erase n) λc hc=>by
    have:=h c (List.mem_of_mem_erase hc);have ne:c≠n:=(nd.mem_erase_iff.mp hc).1;omega
   rw[List.length_erase]at h1;split at h1<;>omega
 exact gen n O h.nd h.lt
def m8{k n base:Nat}{T:Tab}(ok:bL k n T)(hb:base<n):dI n (met T k n base)/\base∈met T k n base/\(∀c∈met T k n base,∀l,Let k l->∀d,a6 T c l=some d->d.toNat∈met T k n base):=by
 have:=AI (T:=T) (k:=k) (λi O=>dI n O/\O[0]?=some base/\∀j,j<i->∀c,O[j]?=some c->∀l,Let k l->∀d,a6 T c l=some d->d.toNat∈O) (λi O hi ⟨h1,h2,h3⟩=>by
  obtain⟨r,e⟩:=vh (T:=T) (c:=O.getD i 0) (lets k) O;refine⟨h1.fold ok _,?_,λj hj c hc l hl d hd=>?_⟩
  ·unfold nK;rw[e];rw[Zs (ZL.mp h2).1];exact h2
  ·unfold nK at hc⊢;by_cases z:j<i
   ·rw[e]at hc⊢;rw[Zs (by omega)]at hc;exact Zc _ (h3 j z c hc l hl d hd)
   ·have z:j=i:=by omega
    subst z
    have ec:O.getD j 0=c:=by
     rw[e,Zs hi]at hc;rw[List.getD,hc];rfl
    rw[ec];exact JR hd _ _ (r9.mpr hl)) (n+1) 0 [base] ⟨⟨by simp,λc hc=>by rw[Y2.mp hc];exact hb⟩,rfl,λj hj=>by omega⟩
 obtain⟨i',⟨h1,h2,h3⟩,q⟩:=this
 have hl:(met T k n base).length<=i':=by
  rcases q with q|q
  ·exact q
  ·have:=dI.len h1;unfold met;omega
 refine⟨h1,Y6 h2,λc hc=>?_⟩;obtain⟨j,hj,e⟩:=ZD hc;exact h3 j (by omega) c (ZL.mpr ⟨hj,e⟩)
abbrev Pw:=List (Nat×List Int)
def gF(T:Tab)(p:Nat×List Int)(W:Pw)(l:Int):Pw:=match a6 T p.1 l with
 |none=>W
 |some d=>if d.toNat∈W.map (·.1)then W else W++[(d.toNat,p.2++[l])]
def wF(T:Tab)(k:Nat)(W:Pw)(i:Nat):Pw:=(lets k).foldl (gF T (W.getD i (0,[]))) W
def nM(T:Tab)(k:Nat):Nat->Nat->Pw->Pw
 |0,_,W=>W
 |f+1,i,W=>if i<W.length then nM T k f (i+1) (wF T k W i)else W
def cz(T:Tab)(k n base:Nat):Pw:=nM T k (n+1) 0 [(base,[])]
def zF{T:Tab}{k f i:Nat}{W:Pw}(h:W.length<=i):nM T k f i W=W:=by
 cases f with
 |zero=>rfl
 |succ f=>show(if i<W.length then _ else W)=W;rw[if_neg (by omega)]
def AJ{T:Tab}{k f i:Nat}{W:Pw}(h:i<W.length):nM T k (f+1) i W=nM T k f (i+1) (wF T k W i):=by
 show(if i<W.length then _ else W)=_;rw[if_pos h]
def Xf{T:Tab}{p:Nat×List Int}{W:Pw}{l:Int}:(gF T p W l).map (·.1)=cg T p.1 (W.map (·.1)) l:=by
 unfold gF cg;split
 ·rfl
 ·split
  ·rfl
  ·rw[Ze];rfl
def IE{T:Tab}{p:Nat×List Int}:∀(ls:List Int) (W:Pw),(ls.foldl (gF T p) W).map (·.1)=ls.foldl (cg T p.1) (W.map (·.1))
 |[],_=>rfl
 |l::ls,W=>by
  show(ls.foldl (gF T p) (gF T p W l)).map (·.1)=ls.foldl (cg T p.1) (cg T p.1 (W.map (·.1)) l);rw[IE ls,Xf]
def JS{T:Tab}{k:Nat}:∀(f i:Nat) (W:Pw),(nM T k f i W).map (·.1)=mB T k f i (W.map (·.1))
 |0,_,_=>rfl
 |f+1,i,W=>by
  by_cases h:i<W.length
  ·rw[AJ h,Bj (by rw[Y1];exact h),JS f];unfold wF nK;rw[IE];have:(W.map (·.1)).getD i 0=(W.getD i (0,[])).1:=by simp[List.getD,h]
   rw[this]
  ·rw[zF (by omega),Ab (by rw[Y1];omega)]
def qp(T:Tab)(k n base:Nat):(cz T k n base).map (·.1)=met T k n base:=JS ..
abbrev Wy:=List (Nat×Addr×List Int)
def keys(W:Wy):List Nat:=W.map (·.1)
def dU(W:Wy):List (Key×V):=W.map λp=>(Sum.inl (p.1:Int),V.ref p.2.1)
def era(W:Wy):Pw:=W.map λp=>(p.1,p.2.2)
def qr(W:Wy):(era W).map (·.1)=keys W:=by unfold era keys;rw[ZK];rfl
def JT{W:Wy}{c:Nat}(h:c∉keys W):bj (dU W) (.inl (c:Int))=none:=by
 unfold bj;rw[Option.map_eq_none_iff,List.find?_eq_none];intro x hx;obtain⟨p,hp,rfl⟩:=Zh.mp hx;intro z;have z:(Sum.inl (p.1:Int):Key)=.inl (c:Int):=of_decide_eq_true z;have:=Sum.inl.inj z;exact h (Zh.mpr ⟨p,hp,by omega⟩)
def Ac{W:Wy}(nd:(keys W).Nodup){p:Nat×Addr×List Int}(hp:p∈W):bj (dU W) (.inl (p.1:Int))=some (.ref p.2.1):=by
 induction W with
 |nil=>cases hp
 |cons q W ih=>
  obtain⟨n1,n2⟩:=ZG.mp nd;rcases Y5.mp hp with e|e
  ·subst e;exact g8 rfl
  ·have:¬(Sum.inl (q.1:Int):Key)=.inl (p.1:Int):=λz=>by
    have:=Sum.inl.inj z;exact n1 (Zh.mpr ⟨p,e,by show p.1=q.1;omega⟩)
   show bj ((Sum.inl (q.1:Int),V.ref q.2.1)::dU W) _=_;rw[hJ this];exact ih n2 e
structure eQ(T:Tab)(k n base:Nat)(W:Wy):Prop where
 nd:(keys W).Nodup
 lt:∀p∈W,p.1<n
 hd:∃a,W[0]?=some (base,a,[])
 wk:∀p∈W,bB T (some (base:Int)) p.2.2=some (p.1:Int)
 ll:∀p∈W,∀l∈p.2.2,Let k l
 rd:∀p∈W,cut p.2.2=p.2.2
 pr:∀p∈W,p.2.2=[]\/∃q∈W,∃l,p.2.2=q.2.2++[l]/\a6 T q.1 l=some (p.1:Int)
 ln:∀(j:Nat) p,W[j]?=some p->p.2.2.length<=j
def JU(w:List Int)(l:Int):cut (w++[l])=(push (w.foldl push []) l).reverse:=by unfold cut;rw[List.foldl_append];rfl
def JV{w:List Int}(h:cut w=w):w.foldl push []=w.reverse:=by
 unfold cut at h
 conv=>rhs;rw[<-h]
 rw[List.reverse_reverse]
def Ad{w:List Int}{l:Int}(h:cut w=w)(hl:∀u,w≠u++[-l]):cut (w++[l])=w++[l]:=by
 rw[JU,JV h];cases e:w.reverse with
 |nil=>
  have:w=[]:=by simpa using e
  subst this;rfl
 |cons t r=>
  have hw:w=r.reverse++[t]:=by
   have:=congrArg List.reverse e;rw[List.reverse_reverse]at this;rw[this];simp
  have:¬t= -l:=λz=>hl r.reverse (by rw[hw,z]);show(if t= -l then r else l::t::r).reverse=_;rw[if_neg this,hw];simp
def eQ.zero{T:Tab}{k n base:Nat}(hb:base<n)(a:Addr):eQ T k n base [(base,a,[])]:=by
 refine⟨by simp[keys],?_,⟨a,rfl⟩,?_,?_,?_,?_,?_⟩
 ·intro p hp;rw[Y2.mp hp];exact hb
 ·intro p hp;rw[Y2.mp hp];rfl
 ·intro p hp;rw[Y2.mp hp];intro l hl;cases hl
 ·intro p hp;rw[Y2.mp hp];rfl
 ·intro p hp;rw[Y2.mp hp];exact .inl rfl
 ·intro j p hj
  have:j=0:=by
   have:=(ZL.mp hj).1;simp at this;omega
  subst this;cases hj;exact Zp _
def eQ.add{T:Tab}{k n base:Nat}{W:Wy}(ok:bL k n T)(h:eQ T k n base W){p:Nat×Addr×List Int}(hp:p∈W){l d:Int}(hl:Let k l)(e:a6 T p.1 l=some d)(hn:d.toNat∉keys W)(a:Addr):
  eQ T k n base (W++[(d.toNat,a,p.2.2++[l])]):=by
 have hd:=jP ok e;have ed:((d.toNat:Nat):Int)=d:=by omega
 have red:cut (p.2.2++[l])=p.2.2++[l]:=by
  refine Ad (h.rd p hp) λu hu=>?_;rcases h.pr p hp with z|⟨q,hq,l',e1,e2⟩
  ·rw[z]at hu;simp at hu
  ·rw[e1]at hu;have:=List.append_inj' hu rfl;have el:l'= -l:=by simpa using this.2
   subst el;have b:=rZ ok (by have:=hl.1;omega) (h.lt q hq) e2;rw[Int.neg_neg]at b;rw[e]at b;have:d=q.1:=Zg b;exact hn (by rw[this,Za];exact Zh.mpr ⟨q,hq,rfl⟩)
 have mem:∀{x:Nat×Addr×List Int},x∈W++[(d.toNat,a,p.2.2++[l])]->x∈W\/x=(d.toNat,a,p.2.2++[l]):=λhx=>(Y7.mp hx).imp id Y2.mp;refine⟨?_,λx hx=>?_,?_,λx hx=>?_,λx hx=>?_,λx hx=>?_,λx hx=>?_,λj x hj=>?_⟩
 ·unfold keys;rw[Ze];exact qv h.nd hn
 ·rcases mem hx with z|z
  ·exact h.lt x z
  ·rw[z];show d.toNat<n;omega
 ·obtain⟨a0,z⟩:=h.hd;exact⟨a0,by rw[Zs (ZL.mp z).1];exact z⟩
 ·rcases mem hx with z|z
  ·exact h.wk x z
  ·rw[z];show bB T _ (p.2.2++[l])=some ((d.toNat:Nat):Int);rw[vd,h.wk p hp,ed];exact e
 ·rcases mem hx with z|z
  ·exact h.ll x z
  ·rw[z];intro m hm;rcases Y7.mp hm with y|y
   ·exact h.ll p hp m y
   ·rw[Y2.mp y];exact hl
 ·rcases mem hx with z|z
  ·exact h.rd x z
  ·rw[z];exact red
 ·rcases mem hx with z|z
  ·rcases h.pr x z with y|⟨q,hq,m,e1,e2⟩
   ·exact .inl y
   ·exact .inr ⟨q,Zc _ hq,m,e1,e2⟩
  ·rw[z];exact .inr ⟨p,Zc _ hp,l,rfl,by rw[e];show some d=some ((d.toNat:Nat):Int);rw[ed]⟩
 ·by_cases uk:j<W.length
  ·rw[Zs uk]at hj;exact h.ln j x hj
  ·rw[Zt (by omega)]at hj
   have z:j-W.length=0:=by
    have:=(ZL.mp hj).1;simp at this;omega
   rw[z]at hj;cases hj;obtain⟨i,hi,ei⟩:=ZD hp;have:=h.ln i p (by simp[<-ei,hi]);rw[Zo];simp only[ZF,List.length_nil];omega
structure DW(H:Hp)(d:Addr)(W:Wy):Prop where
 is:H d=some (.dK (dU W))
 wy:∀p∈W,aw H p.2.1 p.2.2
structure FW(H:Hp)(d:Addr)(W:Wy):Prop where
 is:∃o,H d=some (.c5 o (.dK (dU W)))
 wy:∀p∈W,aw H p.2.1 p.2.2
def FW.same{H H':Hp}{d:Addr}{W:Wy}(h:FW H d W)(s:aa H H'):FW H' d W:=⟨let⟨o,e⟩:=h.is;⟨o,s _ _ e⟩,λp hp=>s.ints (h.wy p hp)⟩
structure WS(H0 H:Hp)(d lo:Addr)(W:Wy):Prop where
 dw:DW H d W
 io:aw H lo ((keys W).map λ(c:Nat)=>(c:Int))
 nl:∀p∈W,p.2.1≠lo
 fd:H0 d=none
 fl:H0 lo=none
 sm:aa H0 H
def WS.same{H0 H H':Hp}{d lo:Addr}{W:Wy}(h:WS H0 H d lo W)(s:aa H H'):WS H0 H' d lo W:=⟨⟨s _ _ h.dw.is,λp hp=>s.ints (h.dw.wy p hp)⟩,s.ints h.io,h.nl,h.fd,h.fl,h.sm.trans s⟩
def WS.ne{H0 H:Hp}{d lo:Addr}{W:Wy}(h:WS H0 H d lo W):d≠lo:=λz=>by
 have:=h.io;rw[<-z]at this;have e:=h.dw.is;rw[show H d=_ from this]at e;cases e
def WS.add{H0 H H':Hp}{d lo a:Addr}{W:Wy}{c:Nat}{w:List Int}(h:WS H0 H d lo W)(s:aa H H')(ha:H a=none)(ia:aw H' a w)(hc:c∉keys W):
  WS H0 (upd (upd H' d (.dK (putK (dU W) (.inl (c:Int)) (.ref a)))) lo (.lst (((keys W).map λ(c:Nat)=>(c:Int)).map V.int++[V.int c]))) d lo (W++[(c,a,w)]):=by
 have ne:=h.ne;have al:a≠lo:=λz=>by rw[z,show H lo=_ from h.io]at ha;cases ha
 have ad:a≠d:=λz=>by rw[z,h.dw.is]at ha;cases ha
 have h':=h.same s;refine⟨⟨?_,λp hp=>?_⟩,?_,λp hp=>?_,h.fd,h.fl,(h'.sm.upd h.fd).upd h.fl⟩
 ·rw[ai ne,ak,rX _ (JT hc)];unfold dU;rw[Ze];rfl
 ·rcases Y7.mp hp with z|z
  ·have n1:=h.nl p z;have i1:=h'.dw.wy p z;have n2:p.2.1≠d:=λy=>by rw[y]at i1;have e:=h'.dw.is;rw[show H' d=_ from i1]at e;cases e
   exact(i1.other n2).other n1
  ·rw[Y2.mp z];exact(ia.other ad).other al
 ·show upd _ lo _ lo=_;rw[ak];unfold keys;rw[Ze,Ze,Ze];rfl
 ·rcases Y7.mp hp with z|z
  ·exact h.nl p z
  ·rw[Y2.mp z];exact al
inductive Lk(C:Addr)(vs:List V)(H:Hp)(Q:VK)(ay:XK):Prop
 |mk (g:Addr) (k n:Nat) (T:Tab) (fp:List Addr) (_:vs=[.ref g]) (_:df C H g k n T fp) (_:∀(l:Addr) (H':Hp),H l=none->aw H' l (lets k)->aa H H'->Q (.ref l) H'):Lk C vs H Q ay
def Ny(C:Addr):Sp:=Lk C
inductive JW(C:Addr)(vs:List V)(H:Hp)(Q:VK)(ay:XK):Prop
 |mk (g:Addr) (k n:Nat) (T:Tab) (fp:List Addr) (b:Nat) (_:vs=[.ref g,.int b]) (_:df C H g k n T fp) (_:b<n) (_:∀(d:Addr) (W:Wy) (H':Hp),H d=none->FW H' d W->eQ T k n b W->era W=cz T k n b->aa H H'->Q (.ref d) H'):JW C vs H Q ay
def Bl(C:Addr):Sp:=JW C
def way(W:Pw)(c:Nat):List Int:=((W.find? λp=>p.1==c).map (·.2)).getD []
def Ll{W:Pw}(nd:(W.map (·.1)).Nodup){p:Nat×List Int}(hp:p∈W):way W p.1=p.2:=by
 unfold way
 induction W with
 |nil=>cases hp
 |cons q W ih=>
  obtain⟨n1,n2⟩:=ZG.mp nd;rcases Y5.mp hp with e|e
  ·subst e;simp
  ·have:(q.1==p.1)=false:=by
    rw[ZH];intro z;exact n1 (Zh.mpr ⟨p,e,z.symm⟩)
   rw[List.find?_cons,this];exact ih n2 e
def used(W:Pw)(c:Nat)(κ:Int)(d:Nat):Bool:=decide (way W d=way W c++[κ])||decide (way W c=way W d++[-κ])
def iH(T:Tab)(W:Pw)(c j:Nat):Bool:=match cell T c j with
 |none=>false
 |some d=> !used W c ((j:Int)+1) d.toNat
def wG(T:Tab)(c j:Nat):List Int:=[(c:Int),(j:Int)+1,(cell T c j).getD 0]
def pf(T:Tab)(W:Pw)(k c:Nat):List (List Int):=((List.range k).filter (iH T W c)).map (wG T c)
def fR(T:Tab)(k:Nat)(W:Pw)(O:List Nat):List (List Int):=O.flatMap (pf T W k)
def kO(W:Pw)(t:List Int):List Int:=way W (t.getD 0 0).toNat++[t.getD 1 0]++turn (way W (t.getD 2 0).toNat)
def oZ(T:Tab)(k n:Nat):List (List Int):=(fR T k (cz T k n 0) (met T k n 0)).map (kO (cz T k n 0))
def FW.get{H:Hp}{d:Addr}{W:Wy}(h:FW H d W)(nd:(keys W).Nodup){c:Nat}(hc:c∈keys W):∃a,dG H d (.int c) (some (.ref a))/\aw H a (way (era W) c):=by
 obtain⟨p,hp,rfl⟩:=Zh.mp hc;obtain⟨o,e⟩:=h.is;refine⟨p.2.1,.inl ⟨dU W,.inl (p.1:Int),.inr ⟨o,e⟩,rfl,(Ac nd hp).symm⟩,?_⟩;have:way (era W) p.1=p.2.2:=Ll (p:=(p.1,p.2.2)) (by rw[qr];exact nd) (Zh.mpr ⟨p,hp,rfl⟩);show aw H p.2.1 (way (era W) p.1);rw[this];exact h.wy p hp
structure Il(H:Hp)(l:Addr)(ps:Ps):Prop where
 is:H l=some (.lst (ps.map λp=>V.ref p.1))
 iv:∀p∈ps,aw H p.1 p.2
def Il.same{H H':Hp}{l:Addr}{ps:Ps}(h:Il H l ps)(s:aa H H'):Il H' l ps:=⟨s _ _ h.is,λp hp=>s.ints (h.iv p hp)⟩
def aar{H:Hp}{l q:Addr}{ps:Ps}{xs:List V}(r:List Int)(h:Tl H l ps)(hq:H q=none)(e:xs=r.map V.int:=by rfl):Tl (upd (upd H q (.tup xs)) l (.lst ((ps.map λp=>V.ref p.1)++[V.ref q]))) l (ps++[(q,r)]):=by
 subst e;have nq:l≠q:=a8 h.is hq;refine⟨by rw[ak,Ze];rfl,λp hp=>?_⟩;rcases Y7.mp hp with e|e
 ·have:=h.tp p e;have n1:p.1≠l:=λz=>by rw[z,h.is]at this;cases this
  rw[ai n1,ai (a8 this hq)];exact this
 ·obtain rfl:=Y2.mp e;show upd _ l _ q=_;rw[ai nq.symm,ak]
inductive JX(vs:List V)(H:Hp)(Q:VK)(ay:XK):Prop
 |mk (d:Addr) (W:Wy) (c e:Nat) (κ:Int) (_:vs=[.ref d,.int c,.int κ,.int e]) (_:FW H d W) (_:(keys W).Nodup) (_:c∈keys W) (_:e∈keys W) (_:(∀p∈W,p.2.2.length<=1000)) (_:∀H',aa H H'->Q (.bl (used (era W) c κ e)) H'):JX vs H Q ay
def MQ:Sp:=JX
inductive IF(C:Addr)(vs:List V)(H:Hp)(Q:VK)(ay:XK):Prop
 |mk (g d:Addr) (k n:Nat) (T:Tab) (fp:List Addr) (W:Wy) (_:vs=[.ref g,.ref d]) (_:df C H g k n T fp) (_:FW H d W) (_:eQ T k n 0 W) (_:era W=cz T k n 0) (_:∀(l:Addr) (ps:Ps) (H':Hp),H l=none->Tl H' l ps->ps.map (·.2)=fR T k (cz T k n 0) (met T k n 0)->aa H H'->Q (.ref l) H'):IF C vs H Q ay
def Lm(C:Addr):Sp:=IF C
inductive JY(vs:List V)(H:Hp)(Q:VK)(ay:XK):Prop
 |mk (d t:Addr) (W:Wy) (c e:Nat) (κ:Int) (_:vs=[.ref d,.ref t]) (_:FW H d W) (_:(keys W).Nodup) (_:H t=some (.tup [.int c,.int κ,.int e])) (_:c∈keys W) (_:e∈keys W) (_:(∀p∈W,p.2.2.length<=1000)) (_:∀(l:Addr) (H':Hp),H l=none->aw H' l (kO (era W) [(c:Int),κ,(e:Int)])->aa H H'->Q (.ref l) H'):JY vs H Q ay
def MR:Sp:=JY
inductive IG(C:Addr)(vs:List V)(H:Hp)(Q:VK)(ay:XK):Prop
 |mk (g:Addr) (k n:Nat) (T:Tab) (fp:List Addr) (_:vs=[.ref g]) (_:df C H g k n T fp) (_:∀(l:Addr) (ps:Ps) (H':Hp),H l=none->(∀p∈ps,H p.1=none)->(l::ps.map (·.1)).Nodup->Il H' l ps->ps.map (·.2)=oZ T k n->aa H H'->Q (.ref l) H'):IG C vs H Q ay
def Ln(C:Addr):Sp:=IG C
def eQ.short{T:Tab}{k n base:Nat}{W:Wy}(h:eQ T k n base W)(hn:n<=1000):∀p∈W,p.2.2.length<=1000:=λp hp=>by
 obtain⟨j,hj,e⟩:=ZD hp;have h1:=h.ln j p (by simp[<-e,hj]);have:=dI.len (n:=n) (O:=keys W) ⟨h.nd,λc hc=>by obtain⟨p,hp,rfl⟩:=Zh.mp hc;exact h.lt p hp⟩;unfold keys at this;rw[Y1]at this;omega
end My
namespace L2
open PySem PySem.Spec PyProof.Rows
end L2
namespace My
open PySem L2
def Lo{T:Tab}{k:Nat}{W:Pw}{O:List Nat}{t:List Int}(h:t∈fR T k W O):∃(c j:Nat) (e:Int),t=[(c:Int),(j:Int)+1,e]/\c∈O/\j<k/\cell T c j=some e/\used W c ((j:Int)+1) e.toNat=false:=by
 unfold fR at h;obtain⟨c,hc,h⟩:=List.mem_flatMap.mp h;obtain⟨j,hj,rfl⟩:=Zh.mp h;obtain⟨h1,h2⟩:=ZT.mp hj;unfold iH at h2;cases e:cell T c j with
 |none=>rw[e]at h2;cases h2
 |some d=>
  rw[e]at h2;refine⟨c,j,d,by unfold wG;rw[e];rfl,hc,ZU.mp h1,e,?_⟩;simpa using h2
def ac5{H H':Hp}{l:Addr}{as:List Addr}{R:List (List Int)}(N:dH H H' l as (R.map λr=>r.map some)):∃ps:Ps,ps.map (·.2)=R/\ps.map (·.1)=as/\Il H' l ps:=by
 have len:as.length=R.length:=by rw[N.tb.len,Y1]
 refine⟨as.zip R,List.map_snd_zip (by omega),List.map_fst_zip (by omega),?_,λp hp=>?_⟩
 ·have:(as.zip R).map (λp=>V.ref p.1)=as.map V.ref:=by
   have z:=ZK (f:=Prod.fst) (g:=V.ref) (l:=as.zip R);rw[List.map_fst_zip (by omega)]at z;exact z.symm
  rw[this];exact N.tb.is
 ·obtain⟨i,hi,e⟩:=ZD hp;have h1:i<as.length:=by rw[List.length_zip]at hi;omega
  have h2:i<R.length:=by rw[List.length_zip]at hi;omega
  have:=N.tb.rw i as[i] (R[i].map some) (by simp[h1]) (by simp[h2]);rw[<-e,List.getElem_zip];show H' as[i]=some (.lst (R[i].map V.int));rw[show H' as[i]=_ from this,ZK]
  rfl
def Xg{H:Hp}{a:Addr}{ns:List Int}(h:aw H a ns):Row H a (ns.map some):=by
 show H a=_;rw[show H a=_ from h,ZK];rfl
def Lp{k m:Nat}(h:m<2*k):(lets k)[m]?=some (((m:Int)/2+1)*(1-2*((m:Int)%2))):=by
 unfold lets
 induction k with
 |zero=>omega
 |succ k ih=>
  rw[List.range_succ,List.flatMap_append];have hl:((List.range k).flatMap λ(i:Nat)=>[1+(i:Int), -(1+(i:Int))]).length=2*k:=JQ k;by_cases hm:m<2*k
  ·rw[Zs (by rw[hl];exact hm)];exact ih hm
  ·rw[Zt (by rw[hl];omega),hl];have:m=2*k\/m=2*k+1:=by omega
   rcases this with e|e
   ·subst e;have h1:((2*k:Nat):Int)/2=k:=by omega
    have h2:((2*k:Nat):Int)%2=0:=by omega
    rw[h1,h2,Nat.sub_self];simp;omega
   ·subst e;have h1:((2*k+1:Nat):Int)/2=k:=by omega
    have h2:((2*k+1:Nat):Int)%2=1:=by omega
    rw[h1,h2,show 2*k+1-2*k=1 by omega];simp;omega
def AK{c:Nat}:∀O:List Nat,j7 (.int (c:Int)) ((O.map λ(x:Nat)=>(x:Int)).map V.int)=decide (c∈O)
 |[]=>rfl
 |a::O=>by
  have ih:=AK (c:=c) O;unfold j7 at ih⊢;rw[Zr,Zr,List.any_cons,ih];show(((a:Int)==(c:Int))||decide (c∈O))=_;by_cases h:a=c
  ·subst h;simp
  ·have:((a:Int)==(c:Int))=false:=by rw[ZH];omega
   rw[this,Bool.false_or];by_cases h2:c∈O
   ·rw[ZN h2,ZN (Y4 _ h2)]
   ·rw[ZO h2,ZO (λz=>(Y5.mp z).elim (λq=>h q.symm) h2)]
def IH(ns:List Int):(ns.map V.int).all gR=true:=by
 rw[ZC];intro x hx;obtain⟨z,_,rfl⟩:=Zh.mp hx
 rfl
inductive II(vs:List V)(H:Hp)(Q:VK)(ay:XK):Prop
 |mk (t:Addr) (as:List Addr) (T:Tab) (k n b:Nat) (_:vs=[.ref t,.int k,.int b]) (_:Tb H t as T) (_:bL k n T) (_:1<=k) (_:k<=5) (_:n<=1000) (_:b<n) (_:∀(l:Addr) (H':Hp),H l=none->aw H' l ((met T k n b).map λ(c:Nat)=>(c:Int))->aa H H'->Q (.ref l) H'):II vs H Q ay
def Lq:Sp:=II
def JZ{k n:Nat}{T:Tab}(ok:bL k n T):∀(w:List Int) {c d:Int},0<=c/\c<n->(∀l∈w,l≠0)->bB T (some c) w=some d->bB T (some d) (turn w)=some c
 |[],c,d,_,_,h=>by cases h;rfl
 |l::w,c,d,hc,hl,h=>by
  rw[oF]at h;cases q:a6 T c.toNat l with
  |none=>rw[q,oE]at h;cases h
  |some x=>
   rw[q]at h;have hx:=jP ok q;have:=JZ ok w hx (λm hm=>hl m (Y4 _ hm)) h;rw[UA,vz,this];show a6 T x.toNat (-l)=some c;have b:=rZ ok (c:=c.toNat) (d:=x.toNat) (hl l (Y9 ..)) (by omega) (by rw[q];congr 1;omega);rw[b];congr 1;omega
def Ti{k:Nat}(h:1<=k)(d:Int):Let k (qh k d):=by
 unfold Let qh;have a0:=Zz d (show(2*(k:Int))≠0 by omega);have a1:=Zy d (show(0:Int)<2*k by omega);generalize d%(2*(k:Int))=x at a0 a1;have b:d%2=0\/d%2=1:=by omega
 rcases b with b|b<;>rw[b]<;>omega
def AL{k:Nat}(h:1<=k)(ds:List Int):∀l∈ds.map (qh k),Let k l:=λl hl=>by
 obtain⟨d,_,rfl⟩:=Zh.mp hl;exact Ti h d
def Xh{k:Nat}{w:List Int}(h:∀l∈w,Let k l):∀l∈turn w,Let k l:=λl hl=>by
 obtain⟨d,hd,rfl⟩:=Zh.mp hl;have:=h d (List.mem_reverse.mp hd);unfold Let at this⊢;omega
def dm(W:Pw):Wy:=W.map λp=>(p.1,0,p.2)
def abS(W:Pw):era (dm W)=W:=by
 unfold era dm;rw[ZK];exact List.map_id W
def vC(W:Pw):keys (dm W)=W.map (·.1):=by rw[<-qr,abS]
def Xi{k n b:Nat}{T:Tab}(ok:bL k n T){W:Pw}{p:Nat×List Int}{l:Int}(hp:p∈W)(hl:Let k l)(h:eQ T k n b (dm W)):eQ T k n b (dm (gF T p W l))/\p∈gF T p W l:=by
 unfold gF;split
 ·exact⟨h,hp⟩
 ·rename_i d e;split
  ·exact⟨h,hp⟩
  ·rename_i q;have:=h.add ok (p:=(p.1,0,p.2)) (Zh.mpr ⟨p,hp,rfl⟩) hl e (by rw[vC];exact q) 0;refine⟨?_,Zc _ hp⟩;unfold dm at this⊢;rw[Ze];exact this
def IJ{k n b:Nat}{T:Tab}(ok:bL k n T){p:Nat×List Int}:∀(ls:List Int) {W:Pw},(∀l∈ls,Let k l)->p∈W->eQ T k n b (dm W)->eQ T k n b (dm (ls.foldl (gF T p) W))
 |[],_,_,_,h=>h
 |l::ls,W,hl,hp,h=>by
  obtain⟨h1,h2⟩:=Xi ok hp (hl l (Y9 ..)) h;exact IJ ok ls (λm hm=>hl m (Y4 _ hm)) h2 h1
def J0{k n b:Nat}{T:Tab}(ok:bL k n T):∀(f i:Nat) {W:Pw},eQ T k n b (dm W)->eQ T k n b (dm (nM T k f i W))
 |0,_,_,h=>h
 |f+1,i,W,h=>by
  by_cases hi:i<W.length
  ·rw[AJ hi];refine J0 ok f (i+1) (IJ ok (lets k) (λl hl=>r9.mp hl) ?_ h);simp[List.getD,hi]
  ·rw[zF (by omega)];exact h
def Xj{k n b:Nat}{T:Tab}(ok:bL k n T)(hb:b<n):eQ T k n b (dm (cz T k n b)):=J0 ok _ _ (eQ.zero hb 0)
def Tj{k n b:Nat}{T:Tab}(ok:bL k n T)(hb:b<n):∀c∈keys (dm (cz T k n b)),∀l,Let k l->∀d,a6 T c l=some d->d.toNat∈keys (dm (cz T k n b)):=by
 rw[vC,qp];exact(m8 ok hb).2.2
def Xk{w:List Int}{l:Int}(h:cut (w++[l])=w++[l]):cut w=w/\∀b,w≠b++[-l]:=by
 rw[JU]at h;have fl:=va w [];cases e:w.foldl push []with
 |nil=>
  rw[e]at h
  have:w=[]:=by
   have:=congrArg List.length h;simp[push]at this;exact this
  subst this;exact⟨rfl,λb z=>by simp at z⟩
 |cons t r=>
  rw[e]at h;have h:(if t= -l then r else l::t::r).reverse=w++[l]:=h;rw[e]at fl;by_cases ht:t= -l
  ·rw[if_pos ht]at h;have:=congrArg List.length h;simp at this fl;omega
  ·rw[if_neg ht]at h;rw[List.reverse_cons]at h;have h1:=List.append_inj' h rfl;have cw:cut w=w:=by unfold cut;rw[e];exact h1.1
   refine⟨cw,λb z=>?_⟩;have:=JV cw;rw[e,z]at this;simp at this;exact ht this.1
def Gs:∀(n:Nat) (w u:List Int),w.length=n->cut u=u->cut w=w->(∀a b x,u≠a++[x]\/w≠b++[x])->cut (u++turn w)=u++turn w
 |0,w,u,hn,hu,_,_=>by
  have:w=[]:=List.length_eq_zero_iff.mp hn;subst this;simpa[turn]using hu
 |n+1,w,u,hn,hu,hw,hx=>by
  have eZ:w≠[]:=λz=>by rw[z]at hn;simp at hn
  obtain⟨w',l,rfl⟩:∃w' l,w=w'++[l]:=⟨w.dropLast,w.getLast eZ,(List.dropLast_concat_getLast eZ).symm⟩;obtain⟨c1,c2⟩:=Xk hw
  have pM:cut (u++[-l])=u++[-l]:=Ad hu λa z=>by
   rw[Int.neg_neg]at z;rcases hx a w' l with q|q
   ·exact q z
   ·exact q rfl
  have e:u++turn (w'++[l])=(u++[-l])++turn w':=by rw[So];simp[turn]
  rw[e];refine Gs n w' (u++[-l]) (by simpa using hn) pM c1 λa b x=>?_;by_cases q:u++[-l]=a++[x]
  ·right
   have:=(List.append_inj' q rfl).2;have: -l=x:=by simpa using this
   rw[<-this];exact c2 b
  ·exact .inl q
structure MS(T:Tab)(k m:Nat)(r:List Int):Prop where
 rd:cut r=r
 ne:r≠[]
 hm:bB T (some 0) r=some 0
 ll:∀l∈r,Let k l
 ln:r.length<=2*m+1
def aas{k n:Nat}{T:Tab}(ok:bL k n T)(hn:0<n){r:List Int}(hr:r∈oZ T k n):MS T k (met T k n 0).length r:=by
 unfold oZ at hr;obtain⟨t,ht,rfl⟩:=Zh.mp hr;obtain⟨c,j,e,rfl,um,hj,ec,hu⟩:=Lo ht;have wi:=Xj ok hn;have cl:=Tj ok hn;have r0:=ok.bx _ _ _ ec;obtain⟨m,rfl⟩:∃m:Nat,e=(m:Int):=⟨e.toNat,by omega⟩;have hs:a6 T c ((j:Int)+1)=some (m:Int):=by unfold a6;rw[if_pos (by omega),show((j:Int)+1-1).toNat=j by omega];exact ec
 have O7:c∈keys (dm (cz T k n 0)):=by rw[vC,qp];exact um
 have hmK:m∈keys (dm (cz T k n 0)):=cl c O7 _ ⟨by omega,by omega,by omega⟩ _ hs;obtain⟨p,hp,ep⟩:=Zh.mp O7;obtain⟨q,hq,eq⟩:=Zh.mp hmK;have ep:p.1=c:=ep;have eq:q.1=m:=eq;have nd:((cz T k n 0).map (·.1)).Nodup:=by rw[<-vC];exact wi.nd
 have wy:∀x∈dm (cz T k n 0),way (cz T k n 0) x.1=x.2.2:=λx hx=>by
  obtain⟨y,hy,rfl⟩:=Zh.mp hx;exact Ll nd hy
 have O8:∀x∈dm (cz T k n 0),∀y∈dm (cz T k n 0),x.1=y.1->x=y:=by
  intro x hx y hy e;obtain⟨i,hi,ei⟩:=ZD hx;obtain⟨j,hj,ej⟩:=ZD hy
  have:i=j:=by
   have h1:(keys (dm (cz T k n 0)))[i]'(by unfold keys;rw[Y1];exact hi)=(keys (dm (cz T k n 0)))[j]'(by unfold keys;rw[Y1];exact hj):=by
    unfold keys;simp only[List.getElem_map,ei,ej,e]
   exact(List.getElem_inj wi.nd).mp h1
  subst this;rw[<-ei, <-ej]
 have hr:kO (cz T k n 0) [(c:Int),(j:Int)+1,(m:Int)]=p.2.2++[(j:Int)+1]++turn q.2.2:=by
  show way (cz T k n 0) (c:Int).toNat++[(j:Int)+1]++turn (way (cz T k n 0) (m:Int).toNat)=_;rw[Za,Za, <-ep, <-eq,wy p hp,wy q hq]
 rw[hr];unfold used at hu;rw[Za, <-ep, <-eq,wy p hp,wy q hq,Bool.or_eq_false_iff]at hu;have u1:=of_decide_eq_false hu.1;have u2:=of_decide_eq_false hu.2
 have c1:cut (p.2.2++[(j:Int)+1])=p.2.2++[(j:Int)+1]:=by
  refine Ad (wi.rd p hp) λu pM=>?_;rcases wi.pr p hp with z|⟨x,hx,l',e1,e2⟩
  ·rw[z]at pM;simp at pM
  ·have Dn:=e1;rw[pM]at e1;have:=List.append_inj' e1 rfl;have el: -((j:Int)+1)=l':=by simpa using this.2
   rw[<-el]at e2;have b:=rZ ok (by omega) (wi.lt x hx) e2;rw[Int.neg_neg,ep,hs]at b;have:q=x:=O8 q hq x hx (by have:=Zg b;omega);rw[this]at u2;exact u2 (by rw[Dn,el])
 refine⟨Gs _ _ _ rfl c1 (wi.rd q hq) λa b x=>?_,by simp,?_,λl hl=>?_,?_⟩
 ·by_cases z:p.2.2++[(j:Int)+1]=a++[x]
  ·right
   have ex:(j:Int)+1=x:=by simpa using(List.append_inj' z rfl).2
   intro hb;rcases wi.pr q hq with y|⟨x',xo,l',e1,e2⟩
   ·rw[y]at hb;simp at hb
   ·have Dn:=e1;rw[hb]at e1;have el:x=l':=by simpa using(List.append_inj' e1 rfl).2
    rw[<-el, <-ex]at e2;have b1:=rZ ok (by omega) (wi.lt x' xo) e2;have b2:=rZ ok (c:=c) (d:=q.1) (l:=(j:Int)+1) (by omega) (by rw[<-ep];exact wi.lt p hp) (by rw[hs,eq]);rw[b1]at b2;have:p=x':=O8 p hp x' xo (by have:=Zg b2;omega);exact u1 (by rw[Dn,this, <-el, <-ex])
  ·exact .inl z
 ·rw[vz,vd];have h1:bB T (some 0) p.2.2=some (p.1:Int):=wi.wk p hp;rw[h1,ep];show bB T (a6 T c ((j:Int)+1)) (turn q.2.2)=some 0;rw[hs, <-eq];exact JZ ok q.2.2 (c:=0) ⟨by omega,by omega⟩ (λl hl=>(wi.ll q hq l hl).1) (wi.wk q hq)
 ·rcases Y7.mp hl with z|z
  ·rcases Y7.mp z with z|z
   ·exact wi.ll p hp l z
   ·rw[Y2.mp z];exact⟨by omega,by omega,by omega⟩
  ·exact Xh (wi.ll q hq) l z
 ·have ln:∀x∈dm (cz T k n 0),x.2.2.length+1<=(met T k n 0).length:=λx hx=>by
   obtain⟨i,hi,ei⟩:=ZD hx;have h1:=wi.ln i x (by simp[<-ei,hi]);have h3:(dm (cz T k n 0)).length=(met T k n 0).length:=by rw[<-qp];simp[dm]
   omega
  have h1:=ln p hp;have h2:=ln q hq;simp only[Zo,ZF,List.length_nil,Sq];omega
inductive MT(vs:List V)(H:Hp)(Q:VK)(ay:XK):Prop
 |mk (l:Addr) (ps:Ps) (_:vs=[.ref l]) (_:Il H l ps) (_:(∀p∈ps,cut p.2=p.2/\p.2≠[]/\p.2.length<=10000)) (_:∀H',aa H H'->Q (.bl true) H'):MT vs H Q ay
def Oc:Sp:=MT
def aat(w:List Int):Red (cut w).reverse:=by
 unfold cut;rw[List.reverse_reverse];exact WD w adR
def uX:∀{u v:List Int},Red (u++v)↔Red u/\Red v/\∀a b,u.getLast?=some a->v.head?=some b->b≠ -a
 |[],v=>by simp[Red]
 |[x],v=>by
  cases v with
  |nil=>simp[Red]
  |cons b r=>
   show(b≠ -x/\Red (b::r))↔_;simp[Red];exact And.comm
 |x::y::u,v=>by
  have ih:=@uX (y::u) v;show(y≠ -x/\Red (y::u++v))↔(y≠ -x/\Red (y::u))/\_;rw[ih];simp only[List.getLast?_cons_cons];constructor
  ·rintro⟨a,b,c,d⟩;exact⟨⟨a,b⟩,c,d⟩
  ·rintro⟨⟨a,b⟩,c,d⟩;exact⟨a,b,c,d⟩
def Lr:∀{l:List Int},Red l->Red l.reverse
 |[],_=>trivial
 |x::l,h=>by
  rw[List.reverse_cons,uX];refine⟨Lr h.tail,trivial,λa b e1 e2=>?_⟩;rw[List.getLast?_reverse]at e1;cases l with
  |nil=>simp at e1
  |cons y r=>
   simp at e1 e2;have:=h.1;omega
def U0(w:List Int):Red (cut w):=by
 have:=Lr (aat w)
 rwa [List.reverse_reverse]at this
section
variable {T:Tab}{k n:Nat}
end
inductive IK(vs:List V)(H:Hp)(Q:VK)(ay:XK):Prop
 |mk (t:Addr) (as:List Addr) (T:Tab) (k n c:Nat) (da:Addr) (ds:List Int) (_:vs=[.ref t,.int k,.int c,.ref da]) (_:Tb H t as T) (_:bL k n T) (_:1<=k) (_:k<=5) (_:n<=1000) (_:c<n) (_:aw H da ds) (_:ds.length<=1000) (_:∀(q lw:Addr) (ws:List Int) (d:Nat) (H':Hp),H q=none->H lw=none->H' q=some (.tup [.ref lw,.int d])->aw H' lw ws->(∀l∈ws,Let k l)->bB T (some (c:Int)) ws=some (d:Int)->d<n->ws.length<=ds.length->aa H H'->Q (.ref q) H'):IK vs H Q ay
def Ls:Sp:=IK
end My
namespace L2
open PySem PySem.Spec PyProof.Rows PySem.W
section
variable {X:Cx}
inductive MU(xs:List V)(H:Hp)(Q:VK):Prop
 |mk (d:Addr) (o:Obj) (kvs:List (Key×V)) (_:xs=[.ref d]) (_:H d=some (.c5 o (.dK kvs))) (_:∀l:Addr,H l=none->Q (.ref l) (upd H l (.lst (kvs.map λp=>kV p.1)))):MU xs H Q
def Tn(hc:X.calm=true):ig X (.type "list") (λxs H Q=>Wr (MU xs H Q)):=by
 intro pins s σ H xs us Q I r h;obtain⟨d,o,kvs,rfl,hd,q⟩:=h.get;obtain⟨u,rfl,ru⟩:=r.one;cases ru;obtain⟨ho0,z,ns0,vs0,kv0,dd0⟩:=(show bU X.prog X.w H s.heap d (.c5 o (.dK kvs))from I.ao d _ hd);obtain⟨ns,ho,vs,kv,c9,o',es',kQ,fm,r1,r2,r3⟩:=vg I.ao hd;rw[ho]at fm;cases fm;refine kdl_call (kdl_dict (knd:=cY X.prog X.w) (kvs:=vs) (ep:=kQ) ns) (I.ok.hd hc) ⟨o,es',ho,r1,r2,r3⟩ (by rw[c9];exact z) λh' tk acc c hk hS lS=>?_;refine⟨.ref s.heap.objs.size,_,I.laid (t':=tk) (o:=.lst (kvs.map λp=>kV p.1)) hk (Y3 _) ?_,rfl,q _ (I.ao.fresh (Y3 _))⟩;refine⟨by rw[Y1];exact z,acc.toList,c,?_,by simpa using hS⟩
 have gen:∀(ks:List (Key×V)) (ws:List Value),ks.length=ws.length->(∀(i:Nat) p v,ks[i]?=some p->ws[i]?=some v->RelV (kV p.1) v)->Vals (ks.map λp=>kV p.1) ws:=by
  intro ks
  induction ks with
  |nil=>intro ws e _;cases ws with|nil=>exact .nil|cons _ _=>simp at e
  |cons p ks ih=>
   intro ws e hr;cases ws with
   |nil=>simp at e
   |cons v ws=>exact .cons (hr 0 p v rfl rfl) (ih ws (by simpa using e) λi p' v' h1 h2=>hr (i+1) p' v' (by simpa using h1) (by simpa using h2))
 refine gen kvs acc.toList (by have h1:=lS.1;simp only[Array.length_toList];omega) λi p v h1 h2=>?_;rw[Array.getElem?_toList]at h2;obtain⟨k,x,e1,e2⟩:=lS.2 i v h2;obtain⟨q',e3,e4⟩:=kv.get h1;rw[e1]at e3;cases e3;rw[e4];exact Lg e2
def m1{o e:Expr}{m:Str}{apos cD:Pos}(h1:attributeBase o m X.env (eval o X.env)=eval o X.env:=by rfl)
  (h2:((backTo cD (starEach [e] X.env)).all (λx=> !x.1)&&(backToKw cD (keywordEach [] X.env)).all (λx=>x.1.isSome)
  &&decide (([e]:List Expr).length+([]:List Keyword).length+(if([]:List Keyword).isEmpty then 0 else 1)<30))=true:=by rfl)
  (h3:(apos.endLine==cD.line)=true:=by rfl)(h4:backTo cD (starEach [e] X.env)=[(false,eval e X.env)]:=by rfl):M1 X o m apos e cD:=⟨h1,h2,h3,h4⟩
end
def Sv{K:PySem.W.Frag}{a:Addr}{xs:List V}{n:Nat}{gT:TG}{tk tv:TE}{H:Hp}{Q:VK}(Pv:Nat->List (Key×V)->Prop)(h0:Pv 0 [])(OK:∀H',(∀b o,H b=some o->H' b=some o)->ah K H' a xs)
  (hs:∀i x H1 D kvs t,xs[i]?=some x->H1 t=none->(∀b o,H b=some o->H1 b=some o)->H D=none->H1 D=some (.dK kvs)->Pv i kvs->∀nb:St,nb.length=n->∀F:V->V->Hp->Prop,(∀y yv H5 wH H6,iu H5 D y yv H6->(∀b o,H b=some o->H6 b=some o)->H6 D=some (.dK wH)->Pv (i+1) wH->F y yv H5)->
   gT (.ref t) nb (upd H1 t (.tup [.int i,x])) λσ2 H3=>tk σ2 H3 λy H4=>tv σ2 H4 λyv H5=>F y yv H5)
  (hd:∀D H' kvs,H D=none->H' D=some (.dK kvs)->Pv xs.length kvs->(∀b o,H b=some o->H' b=some o)->Q (.ref D) H'):Wr (Lh (qR K a) n gT tk tv H Q):=by
 refine⟨λD hD=>⟨.dK [],λi m H1=>m=xs.length-i/\i<=xs.length/\(∀b o,H b=some o->H1 b=some o)/\∃kvs,H1 D=some (.dK kvs)/\Pv i kvs,.inl rfl,⟨xs.length,by simp,Zp _,λb o e=>?_,[],ak,h0⟩,?_⟩⟩
 ·rw[ai (λz=>by rw[z,hD]at e;cases e)];exact e
 ·rintro i m H1 ⟨rfl,hi,sm,kvs,eD,pv⟩;have q:=OK H1 sm;by_cases aP:i<xs.length
  ·refine .inr ⟨⟨xs,xs[i],q,by simp[aP]⟩,λx H' y nb Dp=>?_⟩;obtain⟨t,y,ht,rfl,rfl,hy⟩:=y;exact hs i y H1 D kvs t (hy xs q) ht sm hD eD pv nb Dp (λy yv H5=>∃H6,iu H5 D y yv H6/\∃m',m'<xs.length-i/\m'=xs.length-(i+1)/\i+1<=xs.length/\(∀b o,H b=some o->H6 b=some o)/\∃kvs,H6 D=some (.dK kvs)/\Pv (i+1) kvs) λy yv H5 wH H6 p6 s6 e6 pv6=>⟨H6,p6,xs.length-(i+1),by omega,rfl,aP,s6,wH,e6,pv6⟩
  ·have e:i=xs.length:=by omega
   subst e;exact .inl ⟨⟨xs,q,Y3 _⟩,hd D H1 kvs hD eD pv sm⟩
end L2
namespace My
open PySem L2
def rn(ord:List Nat)(o:Option Int):Option Int:=o.bind λe=>if e.toNat∈ord then some ((ord.idxOf e.toNat:Nat):Int)else none
def cf(T:Tab)(ord:List Nat):Tab:=ord.map λc=>(T.getD c []).map (rn ord)
def qd{T:Tab}{ord:List Nat}(i j:Nat)(hi:i<ord.length):cell (cf T ord) i j=rn ord (cell T ord[i] j):=by
 have e:(cf T ord).getD i []=(T.getD ord[i] []).map (rn ord):=by
  simp[cf,List.getD,hi]
 unfold cell;rw[e];generalize T.getD ord[i] []=r;simp only[List.getD,Zf];cases r[j]? <;>rfl
def Ae{T:Tab}{ord:List Nat}(i j:Nat)(hi:¬i<ord.length):cell (cf T ord) i j=none:=by
 have e:(cf T ord).getD i []=[]:=by
  simp[cf,List.getD,ZI (Nat.le_of_not_lt hi)]
 unfold cell;rw[e];rfl
def qy{ord:List Nat}{o:Option Int}{e:Int}(h:rn ord o=some e):∃a,o=some a/\a.toNat∈ord/\e=((ord.idxOf a.toNat:Nat):Int):=by
 unfold rn at h;cases o with
 |none=>cases h
 |some a=>
  have h:(if a.toNat∈ord then some ((ord.idxOf a.toNat:Nat):Int)else none)=some e:=h;split at h
  ·rename_i m;exact⟨a,rfl,m,(Zg h).symm⟩
  ·cases h
def Lu{k n:Nat}{T:Tab}(ok:bL k n T){ord:List Nat}(nd:ord.Nodup)(lt:∀c∈ord,c<n):bL k ord.length (cf T ord) where
 len:=by simp[cf]
 row:=λr hr=>by
  obtain⟨c,hc,rfl⟩:=Zh.mp hr;rw[Y1];have:c<T.length:=by rw[ok.len];exact lt c hc
  rw[List.getD,Zd this];exact ok.row _ (ZA this)
 bx:=λc j e he=>by
  by_cases hc:c<ord.length
  ·rw[qd c j hc]at he;obtain⟨a,_,m,rfl⟩:=qy he;have:=List.idxOf_lt_length_iff.mpr m;exact⟨by omega,by omega⟩
  ·rw[Ae c j hc]at he;cases he
 inj:=λc d j e h1 h2=>by
  by_cases hc:c<ord.length
  ·by_cases hd:d<ord.length
   ·rw[qd c j hc]at h1;rw[qd d j hd]at h2;obtain⟨a,ea,ma,e1⟩:=qy h1;obtain⟨b,eb,mb,e2⟩:=qy h2;have ei:ord.idxOf a.toNat=ord.idxOf b.toNat:=by omega
    have ga:=List.getElem_idxOf (List.idxOf_lt_length_iff.mpr ma);have gb:=List.getElem_idxOf (List.idxOf_lt_length_iff.mpr mb)
    have et:a.toNat=b.toNat:=by
     rw[<-ga, <-gb];simp only[ei]
    have ra:=ok.bx _ _ _ ea;have rb:=ok.bx _ _ _ eb;have eab:a=b:=by omega
    subst eab;exact(List.getElem_inj nd).mp (ok.inj _ _ _ _ ea eb)
   ·rw[Ae d j hd]at h2;cases h2
  ·rw[Ae c j hc]at h1;cases h1
def gW(ord:List Nat):List (Key×V):=ord.zipIdx.map λp=>(Sum.inl (p.1:Int),V.int (p.2:Int))
def To(ord:List Nat)(c:Nat):gW (ord++[c])=gW ord++[(Sum.inl (c:Int),V.int (ord.length:Int))]:=by
 unfold gW;rw[List.zipIdx_append];simp
def U1(ord:List Nat):(gW ord).length=ord.length:=by simp[gW]
def IL:∀(ord:List Nat) (c:Nat),bj (gW ord) (.inl (c:Int))=if c∈ord then some (V.int ((ord.idxOf c:Nat):Int))else none:=by
 intro ord
 have gen:∀(l:List Nat) (m:Nat) (c:Nat),bj (l.zipIdx m|>.map λp=>((Sum.inl (p.1:Int):Key),V.int (p.2:Int))) (.inl (c:Int))=if c∈l then some (V.int ((m+l.idxOf c:Nat):Int))else none:=by
  intro l
  induction l with
  |nil=>intro m c;rfl
  |cons x r ih=>
   intro m c;rw[List.zipIdx_cons,Zr];by_cases e:x=c
   ·subst e;simp[bj]
   ·have ne:¬((Sum.inl (x:Int):Key)=Sum.inl (c:Int)):=λz=>e (by have:=Sum.inl.inj z;omega);have:=ih (m+1) c;unfold bj at this⊢;rw[List.find?_cons_of_neg (by simpa using ne),this];by_cases mc:c∈r
    ·rw[if_pos mc,if_pos (Y4 _ mc),List.idxOf_cons];have:(x==c)=false:=by simpa using e
     rw[this];simp only[cond_false];congr 3;omega
    ·rw[if_neg mc,if_neg (λz=>(Y5.mp z).elim (λq=>e q.symm) mc)]
 intro c;have:=gen ord 0 c;rw[Nat.zero_add]at this;exact this
def U2(ord:List Nat):bj (gW ord) (.inr none)=none:=by
 unfold bj gW;rw[Option.map_eq_none_iff,List.find?_eq_none];intro x hx;obtain⟨p,_,rfl⟩:=Zh.mp hx;simp
def Sw{ord:List Nat}{c:Nat}(h:c∉ord):putK (gW ord) (.inl (c:Int)) (V.int (ord.length:Int))=gW (ord++[c]):=by
 rw[To];exact rX _ (by rw[IL,if_neg h])
inductive Lv(C:Addr)(vs:List V)(H:Hp)(Q:VK)(ay:XK):Prop
 |mk (g la:Addr) (k n:Nat) (T:Tab) (fp:List Addr) (ord:List Nat) (_:vs=[.ref g,.ref la]) (_:df C H g k n T fp) (_:aw H la (ord.map λ(c:Nat)=>(c:Int))) (_:ord.Nodup) (_:(∀c∈ord,c<n)) (_:ord≠[]) (_:∀(x:Addr) (fq:List Addr) (H':Hp),H x=none->(∀a∈fq,H a=none)->df C H' x k ord.length (cf T ord) fq->aa H H'->Q (.ref x) H'):Lv C vs H Q ay
def Nz(C:Addr):Sp:=Lv C
inductive J1(C cN:Addr)(vs:List V)(H:Hp)(Q:VK)(E:XK):Prop
 |mk (g:Addr) (k n:Nat) (T:Tab) (fp:List Addr) (b:Int) (_:vs=[.ref g,.int b]) (_:df C H g k n T fp) (_:(0<=b/\b<n->∀(x:Addr) (fq:List Addr) (H':Hp),H x=none->(∀a∈fq,H a=none)->df C H' x k (met T k n b.toNat).length (cf T (met T k n b.toNat)) fq->aa H H'->Q (.ref x) H')) (_:(¬(0<=b/\b<n)->E (.ref cN) none H)):J1 C cN vs H Q E
def MV(C cN:Addr):Sp:=J1 C cN
inductive Lw(vs:List V)(H:Hp)(Q:VK)(ay:XK):Prop
 |mk (t la:Addr) (as:List Addr) (k n:Nat) (T:Tab) (ord:List Nat) (_:vs=[.ref t,.ref la]) (_:Tb H t as T) (_:bL k n T) (_:n<=1000) (_:k<=5) (_:aw H la (ord.map λ(c:Nat)=>(c:Int))) (_:ord.Nodup) (_:(∀c∈ord,c<n)) (_:∀(u:Addr) (bs:List Addr) (H':Hp),H u=none->Tb H' u bs (cf T ord)->aa H H'->Q (.ref u) H'):Lw vs H Q ay
def NA:Sp:=Lw
def mx(l:List Int):Int:=l.foldl max 0
def foldl_max(l:List Int):∀a:Int,a<=l.foldl max a/\(∀i∈l,i<=l.foldl max a)/\(l.foldl max a=a\/l.foldl max a∈l):=by
 induction l with
 |nil=>exact λa=>⟨Int.le_refl _,(λ_ z=>nomatch z),.inl rfl⟩
 |cons x l ih=>
  intro a;obtain⟨h1,h2,h3⟩:=ih (max a x);refine⟨by show a<=l.foldl max (max a x);omega,λi hi=>?_,?_⟩
  ·show i<=l.foldl max (max a x);rcases Y5.mp hi with z|z
   ·omega
   ·exact h2 i z
  ·show l.foldl max (max a x)=a\/l.foldl max (max a x)∈x::l;rcases h3 with z|z
   ·rw[z];rcases Int.le_total a x with w|w
    ·rw[show max a x=x by omega];exact .inr (Y9 ..)
    ·exact .inl (by omega)
   ·exact .inr (Y4 _ z)
def NC{l:List Int}{i:Int}(h:i∈l):i<=mx l:=(foldl_max l 0).2.1 i h
def ND(l:List Int):0<=mx l:=(foldl_max l 0).1
def BK{l:List Int}:mx l=0\/mx l∈l:=(foldl_max l 0).2.2
def BL{l:List Int}{m:Int}(h0:0<=m)(hm:m=0\/m∈l)(hl:∀i∈l,i<=m):m=mx l:=by
 have:=ND l;rcases hm with z|z
 ·rcases BK (l:=l)with w|w
  ·omega
  ·have:=hl _ w;omega
 ·have:=NC z;rcases BK (l:=l)with w|w
  ·omega
  ·have:=hl _ w;omega
def nC(l:List Int):Nat:=(mx l).toNat+1
def Bm(l:List Int):((nC l:Nat):Int)=mx l+1:=by
 have:=ND l;unfold nC;omega
def Lx(l k:List Int):∀x∈l.foldl (λk x=>if x∈k then k else k++[x]) k,x∈k\/x∈l:=by
 induction l generalizing k with
 |nil=>exact λx h=>.inl h
 |cons y l ih=>
  intro x hx;rcases ih _ x hx with z|z
  ·dsimp only at z;split at z
   ·exact .inl z
   ·rcases Y7.mp z with w|w
    ·exact .inl w
    ·rw[Y2.mp w];exact .inr (Y9 ..)
  ·exact .inr (Y4 _ z)
def Bn{l:List Int}{x:Int}(h:x∈rk l):0<=x/\x<(b7 l).length:=by
 obtain⟨y,hy,rfl⟩:=Zh.mp h;have:=ZZ (qx l [] y hy);have:(b7 l).idxOf y<(b7 l).length:=this;omega
def ac6{l:List Int}{x:Int}(h:x∈rk l):0<=x/\x<nC (rk l):=by
 have h1:=NC h;rw[Bm];exact⟨(Bn h).1,by omega⟩
def wg(l:List Int):nC (rk l)<=l.length+1:=by
 have h2:=AH l;unfold nC;rcases BK (l:=rk l)with z|z
 ·rw[z];omega
 ·have:=Bn z;omega
def abT{l:List Int}(h:l≠[]):nC (rk l)=(b7 l).length:=by
 have k1:∀x∈b7 l,x∈l:=λx hx=>(Lx l [] x hx).elim (λz=>nomatch z) id
 obtain⟨y,hy⟩:∃y,y∈l:=by
  cases l with
  |nil=>exact absurd rfl h
  |cons y l=>exact⟨y,Y9 ..⟩
 have pos:1<=(b7 l).length:=List.length_pos_of_mem (qx l [] y hy)
 have last:((b7 l).length:Int)-1=mx (rk l):=by
  refine BL (by omega) (.inr ?_) λi hi=>by have:=Bn hi;omega
  have hl:(b7 l).length-1<(b7 l).length:=by omega
  refine Zh.mpr ⟨(b7 l)[(b7 l).length-1],k1 _ (ZA hl),?_⟩;rw[(MG l).idxOf_getElem _ hl];omega
 unfold nC;omega
def lV(ch:List Int)(T:Tab)(r:List Int):Tab:=T.set (ch.getD (My.mk r 1) 0).toNat ((T.getD (ch.getD (My.mk r 1) 0).toNat []).set (r.getD 2 0-1).toNat (some (ch.getD (My.mk r (-1)) 0)))
def dj(k n:Nat)(ch:List Int)(rs:List (List Int)):Tab:=rs.foldl (lV ch) (List.replicate n (List.replicate k none))
structure g6(k n m:Nat)(ch:List Int)(rs:List (List Int)):Prop where
 len:ch.length=m
 bx:∀x∈ch,0<=x/\x<n
 row:∀r∈rs,cC m r/\1<=r.getD 2 0/\r.getD 2 0<=k
 cl:closed rs ch
def g6.at{k n m:Nat}{ch:List Int}{rs:List (List Int)}(h:g6 k n m ch rs){r:List Int}(hr:r∈rs)(s:Int):0<=ch.getD (My.mk r s) 0/\ch.getD (My.mk r s) 0<n:=h.bx _ (getD_mem (by rw[h.len];exact((h.row r hr).1.mk s).2))
def g6.part{k n m:Nat}{ch:List Int}{rs nY:List (List Int)}(h:g6 k n m ch rs)(s:∀r∈nY,r∈rs):g6 k n m ch nY:=⟨h.len,h.bx,λr hr=>h.row r (s r hr),λp hp q hq=>h.cl p (s p hp) q (s q hq)⟩
structure n8(k n:Nat)(ch:List Int)(rs:List (List Int))(T:Tab):Prop where
 len:T.length=n
 row:∀r∈T,r.length=k
 mC:∀c j e,cell T c j=some e↔∃r∈rs,ch.getD (My.mk r 1) 0=(c:Nat)/\r.getD 2 0=(j:Nat)+1/\e=ch.getD (My.mk r (-1)) 0
def n8.nil(k n:Nat)(ch:List Int):n8 k n ch [] (List.replicate n (List.replicate k none)):=by
 refine⟨by simp,λr hr=>by rw[(List.mem_replicate.mp hr).2];simp,λc j e=>⟨λh=>?_,λ⟨_,z,_⟩=>nomatch z⟩⟩
 have:cell (List.replicate n (List.replicate k none)) c j=none:=by
  unfold cell;simp only[List.getD,ZS];by_cases z:c<n
  ·rw[if_pos z];show(List.replicate k none)[j]?.getD none=none;rw[ZS];split<;>rfl
  ·rw[if_neg z];rfl
 rw[this]at h;cases h
def n8.put{k n m:Nat}{ch:List Int}{rs:List (List Int)}{r:List Int}{T:Tab}(h:n8 k n ch rs T)(ok:g6 k n m ch (rs++[r])):n8 k n ch (rs++[r]) (lV ch T r):=by
 have mr:r∈rs++[r]:=Zb _ (Y2.mpr rfl);obtain⟨a0,a1⟩:=ok.at mr 1;obtain⟨_,k1,k2⟩:=ok.row r mr;have hc:(ch.getD (My.mk r 1) 0).toNat<T.length:=by rw[h.len];omega
 have rl:(T.getD (ch.getD (My.mk r 1) 0).toNat []).length=k:=h.row _ (by rw[List.getD,Zd hc];exact ZA hc);refine⟨by unfold lV;rw[List.length_set];exact h.len,λx hx=>?_,λc j e=>?_⟩
 ·rcases List.mem_or_eq_of_mem_set hx with z|z
  ·exact h.row x z
  ·rw[z,List.length_set];exact rl
 ·have ce:cell (lV ch T r) c j=if c=(ch.getD (My.mk r 1) 0).toNat/\j=(r.getD 2 0-1).toNat then some (ch.getD (My.mk r (-1)) 0)else cell T c j:=by
   unfold lV;rw[WZ hc];by_cases z:c=(ch.getD (My.mk r 1) 0).toNat
   ·rw[if_pos z];by_cases y:j=(r.getD 2 0-1).toNat
    ·rw[if_pos ⟨z,y⟩,y,List.getD,List.getElem?_set_self (by rw[rl];omega)];rfl
    ·rw[if_neg (λw=>y w.2),List.getD,List.getElem?_set_ne (Ne.symm y),z];rfl
   ·rw[if_neg z,if_neg (λw=>z w.1)]
  rw[ce];by_cases z:c=(ch.getD (My.mk r 1) 0).toNat/\j=(r.getD 2 0-1).toNat
  ·rw[if_pos z];constructor
   ·intro w;exact⟨r,mr,by omega,by omega,(Zg w).symm⟩
   ·rintro⟨q,hq,q1,q2,rfl⟩;have:=ok.cl r mr q hq (by omega) 1 (.inl rfl) (by omega);rw[this]
  ·rw[if_neg z,h.mC];constructor
   ·rintro⟨q,hq,q1,q2,q3⟩;exact⟨q,Zc _ hq,q1,q2,q3⟩
   ·rintro⟨q,hq,q1,q2,q3⟩;rcases Y7.mp hq with w|w
    ·exact⟨q,w,q1,q2,q3⟩
    ·obtain rfl:=Y2.mp w;exact absurd ⟨by omega,by omega⟩ z
def zl{α β:Type}(f:β->α->β)(b:β)(l:List α)(a:α):(l++[a]).foldl f b=f (l.foldl f b) a:=by rw[List.foldl_append];rfl
def vi{k n m:Nat}{ch:List Int}{rs:List (List Int)}(ok:g6 k n m ch rs):∀i,i<=rs.length->n8 k n ch (rs.take i) (dj k n ch (rs.take i)):=by
 intro i
 induction i with
 |zero=>intro _;rw[List.take_zero];exact n8.nil k n ch
 |succ i ih=>
  intro hi;have h:=ih (by omega);have e:rs.take (i+1)=rs.take i++[rs[i]]:=Zj (by omega);rw[e];unfold dj;rw[zl];exact h.put (ok.part λr hr=>List.mem_of_mem_take (e▸hr))
def Bo{k n m:Nat}{ch:List Int}{rs:List (List Int)}(ok:g6 k n m ch rs):n8 k n ch rs (dj k n ch rs):=by
 have:=vi ok rs.length (Y3 _)
 rwa [List.take_length]at this
def sV{k n m:Nat}{ch:List Int}{rs:List (List Int)}(ok:g6 k n m ch rs):bL k n (dj k n ch rs):=by
 have h:=Bo ok;refine⟨h.len,h.row,λc j e he=>?_,λc d j e h1 h2=>?_⟩
 ·obtain⟨r,hr,_,_,rfl⟩:=(h.mC c j e).mp he;exact ok.at hr (-1)
 ·obtain⟨r,hr,r1,r2,r3⟩:=(h.mC c j e).mp h1;obtain⟨q,hq,q1,q2,q3⟩:=(h.mC d j e).mp h2;have:ch.getD (My.mk r 1) 0=ch.getD (My.mk q 1) 0:=ok.cl r hr q hq (by omega) (-1) (.inr rfl) (by omega);omega
def U3{m:Nat}{l:List Int}{rs:List (List Int)}(ll:l.length=m)(hr:∀r∈rs,cC m r)(h:closed rs l):closed rs (rk l):=λp hp q hq k s hs e=>by
 have a:=λs=>((hr p hp).mk s).2;have b:=λs=>((hr q hq).mk s).2;rw[<-ll]at a b;exact(BI (a _) (b _)).mpr (h p hp q hq k s hs ((BI (a s) (b s)).mp e))
def AM{k m:Nat}{l:List Int}{rs:List (List Int)}(ll:l.length=m)(hr:∀r∈rs,cC m r/\1<=r.getD 2 0/\r.getD 2 0<=k)(h:closed rs l):g6 k (nC (rk l)) m (rk l) rs:=
 ⟨by rw[iQ];exact ll,λx hx=>ac6 hx,hr,U3 ll (λr h=>(hr r h).1) h⟩
def zm{k n:Nat}{es:List En}(h:∀e∈es,g5 k n e):∀r∈rowsOf es,cC n r/\1<=r.getD 2 0/\r.getD 2 0<=k:=λr hr=>by
 obtain⟨i,a,kd,b,he,rfl⟩:=zk.mp hr;obtain⟨⟨a0,a1⟩,⟨k0,k1⟩,⟨b0,b1⟩⟩:=h _ he;refine⟨⟨i,a.toNat,kd,b.toNat,?_,by omega,by omega⟩,?_,?_⟩
 ·rw[Zw a0,Zw b0]
 ·exact k0
 ·exact k1
noncomputable def Bk.cp(B:Bk):Nat:=nC (rk B.aD)
noncomputable def Bk.tab(B:Bk):Tab:=dj B.k B.cp (rk B.aD) (rowsOf B.es)
def Bk.Cr{C g lh:Addr}{H:Hp}{B:Bk}{rest:List Addr}(h:aQ C H g lh B rest):g6 B.k B.cp B.n (rk B.aD) (rowsOf B.es):=by
 have f:=tj (n:=B.n) λr hr=>(kq h.k5 h.ok r hr).1;exact AM f.1.aD.len (zm h.ok) f.2
def U4{lo:Int}{k:Nat}{ix:List Nat}{σ:St}{H:Hp}{Q:VK}(hk:k<=1000)(h:∀(p:Addr) (H':Hp),H p=none->Row H' p (List.replicate k none)->aa H H'->Q (.ref p) H'):Wr (jS (gH lo k) ix (tC V.aH) σ H Q):=by
 refine⟨zi λD hD=>⟨λi ys H2=>ys=(List.replicate i (none:Option Int)).map oV/\H2 D=some (.lst ys)/\aa H H2/\i<=k,⟨rfl,ak,(aa.refl H).upd hD,Zp _⟩,?_,?_,?_⟩⟩
 ·rintro i ys H2 ⟨rfl,h1,s,hi⟩;exact⟨h1,bw (by simp;omega)⟩
 ·rintro i ys H2 hi ⟨rfl,h1,s,_⟩ Q' q';refine q' _ _ h1 ⟨?_,ak,s.upd hD,hi⟩;rw[List.replicate_succ',Ze];rfl
 ·rintro ys H2 ⟨rfl,h1,s,_⟩;exact h D H2 hD h1 s
inductive GD(C:Addr)(vs:List V)(H:Hp)(Q:VK)(ay:XK):Prop
 |mk (k m:Nat) (lc lr:Addr) (ch:List Int) (ps:Ps) (_:vs=[.int k,.ref lc,.ref lr]) (_:aw H lc ch) (_:Tl H lr ps) (_:1<=k) (_:k<=5) (_:g6 k (nC ch) m ch (ps.map (·.2))) (_:nC ch<=700) (_:m<=1000) (_:∀(g:Addr) (fq:List Addr) (H':Hp),H g=none->(∀a∈fq,H a=none)->df C H' g k (nC ch) (dj k (nC ch) ch (ps.map (·.2))) fq->aa H H'->Q (.ref g) H'):GD C vs H Q ay
def IM(C:Addr):Sp:=GD C
inductive G8(C Cc cM:Addr)(vs:List V)(H:Hp)(Q:VK)(E:XK):Prop
 |mk (g lh:Addr) (B:Bk) (rest:List Addr) (a:Int) (_:vs=[.ref g,.int a]) (_:aQ C H g lh B rest) (_:(aE B.n a->∀(x:Addr) (fq:List Addr) (H':Hp),H x=none->(∀b∈fq,H b=none)->df Cc H' x B.k (met B.tab B.k B.cp ((rk B.aD).getD a.toNat 0).toNat).length (cf B.tab (met B.tab B.k B.cp ((rk B.aD).getD a.toNat 0).toNat)) fq->aa H H'->Q (.ref x) H')) (_:(¬aE B.n a->∀H',aa H H'->E (.ref cM) none H')):G8 C Cc cM vs H Q E
def J3(C Cc cM:Addr):Sp:=G8 C Cc cM
inductive G9(vs:List V)(H:Hp)(Q:VK)(ay:XK):Prop
 |mk (k m:Nat) (lr:Addr) (ps:Ps) (_:vs=[.int k,.int m,.ref lr]) (_:Tl H lr ps) (_:(∀p∈ps,cC m p.2/\1<=p.2.getD 2 0/\p.2.getD 2 0<=k)) (_:k<=5) (_:1<=m) (_:m<=600) (_:ps.length<=1000) (_:∀(p lp t:Addr) (as:List Addr) (l:List Int) (H':Hp),H' p=some (.tup [.ref lp,.ref t])->aw H' lp (rk l)->Tb H' t as (dj k (nC (rk l)) (rk l) (ps.map (·.2)))->FL m (ps.map (·.2)) [] l->aa H H'->Q (.ref p) H'):G9 vs H Q ay
def Af:Sp:=G9
structure Od(mg:Str->Option Value):Prop where
 ad8:∃t,mg "MUST"=some (.str "must" t)
 never:∃t,mg "NEVER"=some (.str "never" t)
 opn:∃t,mg "OPEN"=some (.str "open" t)
inductive Ha(C cM cK:Addr)(vs:List V)(H:Hp)(Q:VK)(E:XK):Prop
 |mk (g lh:Addr) (B:Bk) (rest:List Addr) (a b:Int) (wa:Addr) (ws:List Int) (_:vs=[.ref g,.int a,.ref wa,.int b]) (_:aQ C H g lh B rest) (_:aw H wa ws) (_:ws.length<=600) (_:(aE B.n a/\aE B.n b->(∀l∈ws,Let B.k l)->pd B.es a ws b->∀(t:Addr) (H':Hp),aa H H'->Q (.ref t) H')) (_:(aE B.n a/\aE B.n b->(∀l∈ws,Let B.k l)->¬pd B.es a ws b->∀H',aa H H'->Q .aH H')) (_:(¬(aE B.n a/\aE B.n b)->∀H',aa H H'->E (.ref cM) none H')) (_:(aE B.n a/\aE B.n b->¬(∀l∈ws,Let B.k l)->∀H',aa H H'->E (.ref cK) none H')):Ha C cM cK vs H Q E
def J4(C cM cK:Addr):Sp:=Ha C cM cK
inductive IP(C cM cK:Addr)(vs:List V)(H:Hp)(Q:VK)(E:XK):Prop
 |mk (g lh:Addr) (B:Bk) (rest:List Addr) (a b:Int) (wa:Addr) (ws:List Int) (_:vs=[.ref g,.int a,.ref wa,.int b]) (_:aQ C H g lh B rest) (_:aw H wa ws) (_:ws.length<=600) (_:(aE B.n a/\aE B.n b->(∀l∈ws,Let B.k l)->∀H',aa H H'->Q (.str (wordOf B.es a ws b)) H')) (_:(¬(aE B.n a/\aE B.n b)->∀H',aa H H'->E (.ref cM) none H')) (_:(aE B.n a/\aE B.n b->¬(∀l∈ws,Let B.k l)->∀H',aa H H'->E (.ref cK) none H')):IP C cM cK vs H Q E
def Ly(C cM cK:Addr):Sp:=IP C cM cK
def vD{k:Nat}{ws:List Int}(h:∀l∈ws,Let k l):∀l∈ws,l≠0:=λl hl=>(h l hl).1
def Bk.kX{C g lh:Addr}{H:Hp}{B:Bk}{rest:List Addr}(h:aQ C H g lh B rest):∀r∈rowsOf B.es,cC B.n r:=λr hr=>(kq h.k5 h.ok r hr).1
def aau{C g lh:Addr}{H:Hp}{B:Bk}{rest:List Addr}{a:Int}{ws:List Int}(h:aQ C H g lh B rest)(ha:aE B.n a)(hl:∀l∈ws,Let B.k l):FL (B.n+ws.length) (rowsOf B.es++eu B.n a ws) [] (B.jY a ws):=tj λr hr=>by
 rcases Y7.mp hr with z|z
 ·exact row_more (Bk.kX h r z) (Nat.le_add_right _ _)
 ·exact(zC ha h.k5 hl r z).1
def IQ{C g lh:Addr}{H:Hp}{B:Bk}{rest:List Addr}{a b:Int}{ws:List Int}(h:aQ C H g lh B rest)(ha:aE B.n a)(hb:aE B.n b)(hl:∀l∈ws,Let B.k l):(B.jY a ws).getD (bP B.n a ws.length).toNat 0=(B.jY a ws).getD b.toNat 0↔jT (rowsOf B.es) a ws b:=
 Xc (Bk.kX h) ha hb (vD hl) (aau h ha hl)
def aav{l:List Int}{d:Nat}(hl:l≠[])(h:d<nC (rk l)):(d:Int)∈rk l:=by
 rw[abT hl]at h;have m:(b7 l)[d]∈l:=(Lx l [] _ (ZA h)).elim (λz=>nomatch z) id;exact Zh.mpr ⟨_,m,by rw[(MG l).idxOf_getElem _ h]⟩
def AN{H:Hp}{a:Addr}{ns:List Int}{k:Int}{Q:VK}(ha:aw H a ns)(h0:0<=k)(h1:k<=1000)(hl:ns.length*k.toNat<=10000)(h:∀(p:Addr) (H':Hp),H p=none->aw H' p (List.replicate k.toNat ns).flatten->aa H H'->Q (.ref p) H'):Wr (wq (.ref a) (.int k) H Q):=by
 refine⟨⟨a,k,ns.map V.int,rfl,rfl,ha,by omega,by omega,?_,λp hp=>?_⟩⟩
 ·rw[Y1];exact Z1 (bw (by omega))
 ·have e:(List.replicate k.toNat (ns.map V.int)).flatten=((List.replicate k.toNat ns).flatten).map V.int:=by
   rw[List.map_flatten,List.map_replicate]
  rw[e];exact h p _ hp ak ((aa.refl H).upd hp)
def AO{n:Nat}{ns:List Int}{x:Int}(h:x∈(List.replicate n ns).flatten):x∈ns:=by
 obtain⟨l,h1,h2⟩:=List.mem_flatten.mp h
 rwa [(List.mem_replicate.mp h1).2]at h2
def J5{k:Nat}{ws:List Int}(h:∀l∈ws,Let k l):∀l∈turn ws,Let k l:=λl hl=>by
 unfold turn at hl;simp only[Zh,List.mem_reverse]at hl;obtain⟨y,hy,rfl⟩:=hl;obtain⟨h1,h2,h3⟩:=h y hy;exact⟨by omega,by omega,by omega⟩
def aaw{k:Nat}{l:Int}(h:Let k l):Let k (-l):=⟨by have:=h.1;omega,by have:=h.2.2;omega,by have:=h.2.1;omega⟩
def J6(ws:List Int):(turn ws).length=ws.length:=by simp[turn]
inductive GF(vs:List V)(H:Hp)(Q:VK)(ay:XK):Prop
 |mk (k n:Nat) (lr ld:Addr) (ps:Ps) (ds:List Int) (_:vs=[.int k,.int n,.ref lr,.ref ld]) (_:Tl H lr ps) (_:(∀p∈ps,cC n p.2/\1<=p.2.getD 2 0/\p.2.getD 2 0<=k)) (_:aw H ld ds) (_:ds.length=40) (_:1<=k) (_:k<=5) (_:1<=n) (_:n<=600) (_:ps.length<=1000) (_:∀(t wa:Addr) (a b:Int) (ws:List Int) (H':Hp),H' t=some (.tup [.int a,.ref wa,.int b])->aw H' wa ws->aE n a->aE n b->(∀l∈ws,Let k l)->ws.length<=400->H wa=none->aa H H'->Q (.ref t) H'):GF vs H Q ay
def IS:Sp:=GF
def Tq(es:List En)(a:Int)(ws:List Int)(b:Int):(jT (rowsOf es) a ws b/\wordOf es a ws b="must")\/(¬jT (rowsOf es) a ws b/\pd es a ws b/\wordOf es a ws b="never")\/(¬jT (rowsOf es) a ws b/\¬pd es a ws b/\wordOf es a ws b="open"):=by
 unfold wordOf;by_cases h1:jT (rowsOf es) a ws b
 ·exact .inl ⟨h1,if_pos h1⟩
 ·by_cases h2:pd es a ws b
  ·exact .inr (.inl ⟨h1,h2,by rw[if_neg h1,if_pos h2]⟩)
  ·exact .inr (.inr ⟨h1,h2,by rw[if_neg h1,if_neg h2]⟩)
end My
namespace L2
open PySem PySem.Spec PyProof.Rows
end L2
namespace My
open PySem L2
def uT{ord:List Nat}(nd:ord.Nodup){i:Nat}(hi:i<ord.length):ord.idxOf ord[i]=i:=nd.idxOf_getElem i hi
def aax{k n:Nat}{T:Tab}(ok:bL k n T){ord:List Nat}(nd:ord.Nodup)(lt:∀c∈ord,c<n){i:Nat}(hi:i<ord.length)(l:Int):a6 (cf T ord) i l=rn ord (a6 T ord[i] l):=by
 unfold a6;by_cases z:0<l
 ·rw[if_pos z,if_pos z,qd i _ hi]
 ·rw[if_neg z,if_neg z];have pN:=Lu ok nd lt;apply Option.ext;intro d;rw[jM pN];constructor
  ·rintro⟨m,rfl,hm,hc⟩;rw[qd m _ hm]at hc;obtain⟨a,ea,ma,e1⟩:=qy hc;have ra:=ok.bx _ _ _ ea
   have ga:a.toNat=ord[i]:=by
    have h1:=List.getElem_idxOf (List.idxOf_lt_length_iff.mpr ma);have:ord.idxOf a.toNat=i:=by omega
    rw[<-h1];simp only[this]
   have hp:pre T (-l-1).toNat ord[i]=some ((ord[m]:Nat):Int):=(jM ok).mpr ⟨ord[m],rfl,lt _ (ZA hm),by rw[ea];congr 1;omega⟩;rw[hp];unfold rn;dsimp only[Option.bind];rw[Za,if_pos (ZA hm),uT nd hm]
  ·intro h;obtain⟨a,ea,ma,rfl⟩:=qy h;obtain⟨m,rfl,hm,hc⟩:=(jM ok).mp ea;rw[Za]at ma⊢;have hx:=List.idxOf_lt_length_iff.mpr ma;refine⟨ord.idxOf m,rfl,hx,?_⟩;rw[qd _ _ hx,List.getElem_idxOf,hc];unfold rn;dsimp only[Option.bind];rw[Za,if_pos (ZA hi),uT nd hi]
def Xl{T:Tab}{k n base:Nat}:(met T k n base)[0]?=some base:=by
 have:=AI (T:=T) (k:=k) (λ_ O=>O[0]?=some base) (λi O hi h=>by
  obtain⟨r,e⟩:=vh (T:=T) (c:=O.getD i 0) (lets k) O;unfold nK;rw[e,Zs (ZL.mp h).1];exact h) (n+1) 0 [base] rfl
 exact this.elim λ_ h=>h.1
end My
namespace L2
open PySem PySem.Spec PyProof.Rows
end L2
namespace My
open PySem L2
end My
namespace L2
open PySem PySem.Spec PyProof.Rows
end L2
namespace My
open PySem L2
end My
namespace L2
open PySem PySem.Spec PyProof.Rows
end L2
namespace My
open PySem L2
def Lz{k n:Nat}{T:Tab}(ok:bL k n T){ord:List Nat}(nd:ord.Nodup)(lt:∀c∈ord,c<n)(cl:∀c∈ord,∀l,Let k l->∀d,a6 T c l=some d->d.toNat∈ord):
  ∀(w:List Int),(∀l∈w,Let k l)->∀(i:Nat) (hi:i<ord.length),bB (cf T ord) (some (i:Int)) w=rn ord (bB T (some ((ord[i]:Nat):Int)) w)
 |[],_,i,hi=>by
  show some (i:Int)=rn ord (some ((ord[i]:Nat):Int));unfold rn;dsimp only[Option.bind];rw[Za,if_pos (ZA hi),uT nd hi]
 |l::w,hl,i,hi=>by
  rw[oF,oF,Za,Za,aax ok nd lt hi];cases e:a6 T ord[i] l with
  |none=>
   show bB _ none w=rn ord (bB T none w);rw[oE,oE];rfl
  |some d=>
   have md:=cl _ (ZA hi) l (hl l (Y9 ..)) d e;have hx:=List.idxOf_lt_length_iff.mpr md;have rd:=jP ok e;have ih:=Lz ok nd lt cl w (λl h=>hl l (Y4 _ h)) _ hx
   have er:rn ord (some d)=some ((ord.idxOf d.toNat:Nat):Int):=by
    unfold rn;dsimp only[Option.bind];rw[if_pos md]
   rw[er,ih,List.getElem_idxOf,Zw rd.1]
def LC{k nn m:Nat}{ch:List Int}{rs:List (List Int)}(ck:g6 k nn m ch rs){M:Mo}{f:Nat->Int}(fa:∀x y,x<m->y<m->ch.getD x 0=ch.getD y 0->f x=f y)(hf:M.Fits f rs):
  ∀(w:List Int) (x:Nat) (d:Int),x<m->(∀l∈w,Let k l)->bB (dj k nn ch rs) (some (ch.getD x 0)) w=some d->∀y,y<m->ch.getD y 0=d->M.wk (f x) w=f y
 |[],x,d,hx,_,h,y,hy,e=>fa x y hx hy (by rw[e];exact Zg h)
 |l::w,x,d,hx,hl,h,y,hy,e=>by
  rw[oF]at h;have rx:=ck.bx _ (getD_mem (l:=ch) (a:=x) (by rw[ck.len];exact hx));obtain⟨l0,l1,l2⟩:=hl l (Y9 ..);have tok:=sV ck;have mC:=(Bo ck).mC
  have step:∀z,z<m->a6 (dj k nn ch rs) (ch.getD x 0).toNat l=some (ch.getD z 0)->M.go (f x) l=f z->M.wk (f x) (l::w)=f y:=λz hz e1 e2=>by
   rw[e1]at h;show M.wk (M.go (f x) l) w=f y;rw[e2];exact LC ck fa hf w z d hz (λl' h'=>hl l' (Y4 _ h')) h y hy e
  cases es:a6 (dj k nn ch rs) (ch.getD x 0).toNat l with
  |none=>rw[es,oE]at h;cases h
  |some q=>
   unfold a6 at es;by_cases z:0<l
   ·rw[if_pos z]at es;obtain⟨r,hr,r1,r2,r3⟩:=(mC _ _ _).mp es;have b1:=((ck.row r hr).1.mk 1).2;have b2:=((ck.row r hr).1.mk (-1)).2;refine step (My.mk r (-1)) b2 (by unfold a6;rw[if_pos z,es,r3]) ?_;have:=hf r hr;rw[show r.getD 2 0=l by omega]at this;unfold Mo.go;rw[if_pos z,fa x (My.mk r 1) hx b1 (by omega),this]
   ·rw[if_neg z]at es;obtain⟨p,rfl,hp,ec⟩:=(jM tok).mp es;obtain⟨r,hr,r1,r2,r3⟩:=(mC _ _ _).mp ec;have b1:=((ck.row r hr).1.mk 1).2;have b2:=((ck.row r hr).1.mk (-1)).2;refine step (My.mk r 1) b1 (by unfold a6;rw[if_neg z,es,r1]) ?_;have:=hf r hr;rw[show r.getD 2 0= -l by omega]at this;unfold Mo.go;rw[if_neg z,fa x (My.mk r (-1)) hx b2 (by omega), <-this,M.l]
abbrev oa:=List (Int×Int×Int)
def jc(E:oa)(x l y:Int):Prop:=if 0<l then(x,l,y)∈E else(y, -l,x)∈E
structure kY(E:oa)(n:Int):Prop where
 inj:∀p∈E,∀q∈E,p.2.1=q.2.1->(p.1=q.1↔p.2.2=q.2.2)
 lt:∀p∈E,p.1<n/\p.2.2<n
def kY.mo{E:oa}{n:Int}(h:kY E n):∃M:Mo,∀p∈E,M.s p.2.1 p.1=p.2.2:=by
 have H:∀k:Int,∃s t:Int->Int,(∀x,t (s x)=x)/\(∀x,s (t x)=x)/\∀p∈E,p.2.1=k->s p.1=p.2.2:=λk=>by
  obtain⟨s,t,a,b,c⟩:=zZ ((E.filter λp=>p.2.1==k).map λp=>(p.1,p.2.2)) λp hp q hq=>by
   obtain⟨x,hx,rfl⟩:=Zh.mp hp;obtain⟨y,hy,rfl⟩:=Zh.mp hq;obtain⟨hx,ex⟩:=ZT.mp hx;obtain⟨hy,ey⟩:=ZT.mp hy;exact h.inj x hx y hy ((eq_of_beq ex).trans (eq_of_beq ey).symm)
  exact⟨s,t,a,b,λp hp e=>c (p.1,p.2.2) (Zh.mpr ⟨p,ZT.mpr ⟨hp,beq_iff_eq.mpr e⟩,rfl⟩)⟩
 refine⟨⟨λk=>Classical.choose (H k),λk=>Classical.choose (Classical.choose_spec (H k)),λk=>(Classical.choose_spec (Classical.choose_spec (H k))).1,λk=>(Classical.choose_spec (Classical.choose_spec (H k))).2.1⟩,λp hp=>?_⟩;exact(Classical.choose_spec (Classical.choose_spec (H p.2.1))).2.2 p hp rfl
def vO{E:oa}{M:Mo}(h:∀p∈E,M.s p.2.1 p.1=p.2.2){x l y:Int}(s:jc E x l y):M.go x l=y:=by
 unfold jc at s;unfold Mo.go;by_cases z:0<l
 ·rw[if_pos z]at s⊢;exact h _ s
 ·rw[if_neg z]at s⊢;have:M.s (-l) y=x:=h _ s;rw[<-this,M.l]
def kY.more{E:oa}{n x l:Int}(h:kY E n)(hx:x<n)(l0:l≠0)(no:∀y,¬jc E x l y):∃E':oa,kY E' (n+1)/\(∀p∈E,p∈E')/\jc E' x l n/\∀l',l'≠ -l->∀y,¬jc E' n l' y:=by
 unfold jc at no;by_cases z:0<l
 ·simp only[if_pos z]at no;refine⟨(x,l,n)::E,⟨λp hp q hq e=>?_,λp hp=>?_⟩,λp hp=>Y4 _ hp,by unfold jc;rw[if_pos z];exact Y9 ..,λl' c9 y s=>?_⟩
  ·rcases Y5.mp hp with rfl|hp<;>rcases Y5.mp hq with rfl|hq
   ·simp
   ·have:=h.lt q hq;constructor
    ·intro e2;have e2:x=q.1:=e2;have e:l=q.2.1:=e;exact absurd (by rw[e2,e];exact hq) (no q.2.2)
    ·intro e2;have e2:n=q.2.2:=e2;omega
   ·have:=h.lt p hp;constructor
    ·intro e2;have e2:p.1=x:=e2;have e:p.2.1=l:=e;exact absurd (by rw[<-e2, <-e];exact hp) (no p.2.2)
    ·intro e2;have e2:p.2.2=n:=e2;omega
   ·exact h.inj p hp q hq e
  ·rcases Y5.mp hp with rfl|hp
   ·exact⟨by show x<n+1;omega,by show n<n+1;omega⟩
   ·have:=h.lt p hp;omega
  ·unfold jc at s;by_cases w:0<l'
   ·rw[if_pos w]at s;rcases Y5.mp s with e|s
    ·injection e with e1 _;omega
    ·have:=(h.lt _ s).1;simp only at this;omega
   ·rw[if_neg w]at s;rcases Y5.mp s with e|s
    ·injection e with _ e;injection e with e1 _;omega
    ·have:=(h.lt _ s).2;simp only at this;omega
 ·simp only[if_neg z]at no;refine⟨(n, -l,x)::E,⟨λp hp q hq e=>?_,λp hp=>?_⟩,λp hp=>Y4 _ hp,by unfold jc;rw[if_neg z];exact Y9 ..,λl' c9 y s=>?_⟩
  ·rcases Y5.mp hp with rfl|hp<;>rcases Y5.mp hq with rfl|hq
   ·simp
   ·have:=h.lt q hq;constructor
    ·intro e2;have e2:n=q.1:=e2;omega
    ·intro e2;have e2:x=q.2.2:=e2;have e: -l=q.2.1:=e;exact absurd (by rw[e2,e];exact hq) (no q.1)
   ·have:=h.lt p hp;constructor
    ·intro e2;have e2:p.1=n:=e2;omega
    ·intro e2;have e2:p.2.2=x:=e2;have e:p.2.1= -l:=e;exact absurd (by rw[<-e2, <-e];exact hp) (no p.1)
   ·exact h.inj p hp q hq e
  ·rcases Y5.mp hp with rfl|hp
   ·exact⟨by show n<n+1;omega,by show x<n+1;omega⟩
   ·have:=h.lt p hp;omega
  ·unfold jc at s;by_cases w:0<l'
   ·rw[if_pos w]at s;rcases Y5.mp s with e|s
    ·injection e with _ e;injection e with e1 _;omega
    ·have:=(h.lt _ s).1;simp only at this;omega
   ·rw[if_neg w]at s;rcases Y5.mp s with e|s
    ·injection e with e1 e;injection e with e2 e3;omega
    ·have:=(h.lt _ s).2;simp only at this;omega
def kY.out:∀(r:List Int) (E:oa) (n x:Int),kY E n->x<n->Red r->(∀l∈r,l≠0)->(∀l,r.head?=some l->∀y,¬jc E x l y)->r≠[]->∃M:Mo,(∀p∈E,M.s p.2.1 p.1=p.2.2)/\n<=M.wk x r
 |[],_,_,_,_,_,_,_,_,z=>absurd rfl z
 |l::r,E,n,x,h,hx,rd,nz,no,_=>by
  obtain⟨E',h',sub,st,no'⟩:=h.more hx (nz l (Y9 ..)) (no l rfl);cases r with
  |nil=>
   obtain⟨M,hM⟩:=h'.mo;refine⟨M,λp hp=>hM p (sub p hp),?_⟩;show n<=M.go x l;rw[vO hM st];exact Int.le_refl _
  |cons l2 r=>
   have rg:=rd;rw[show l::l2::r=[l]++(l2::r)from rfl,uX]at rg;obtain⟨M,hM,le⟩:=kY.out (l2::r) E' (n+1) n h' (by omega) rg.2.1 (λy hy=>nz y (Y4 _ hy)) (λl' e y=>no' l' (by rw[<-Zg e];exact rg.2.2 l l2 rfl rfl) y) (List.cons_ne_nil _ _);refine⟨M,λp hp=>hM p (sub p hp),?_⟩;show n<=M.wk (M.go x l) (l2::r);rw[vO hM st];omega
def rj(T:Tab)(k n:Nat):oa:=(List.range n).flatMap λc=>(List.range k).filterMap λj=>(cell T c j).map λe=>((c:Int),(j:Int)+1,e)
def qz{T:Tab}{k n:Nat}{p:Int×Int×Int}:p∈rj T k n↔∃c j e,c<n/\j<k/\cell T c j=some e/\p=((c:Int),(j:Int)+1,e):=by
 unfold rj;simp only[List.mem_flatMap,ZU,List.mem_filterMap,Option.map_eq_some_iff];constructor
 ·rintro⟨c,hc,j,hj,e,he,rfl⟩;exact⟨c,j,e,hc,hj,he,rfl⟩
 ·rintro⟨c,j,e,hc,hj,he,rfl⟩;exact⟨c,hc,j,hj,e,he,rfl⟩
def LG{T:Tab}{k n:Nat}(ok:bL k n T):kY (rj T k n) n:=by
 refine⟨λp hp q hq e=>?_,λp hp=>?_⟩
 ·obtain⟨c,j,x,_,_,ec,rfl⟩:=qz.mp hp;obtain⟨d,i,y,_,_,ed,rfl⟩:=qz.mp hq;have e:(j:Int)+1=(i:Int)+1:=e;obtain rfl:j=i:=by omega
  show(c:Int)=(d:Int)↔x=y;constructor
  ·intro z;obtain rfl:c=d:=by omega
   rw[ec]at ed;exact Zg ed
  ·rintro rfl;rw[ok.inj _ _ _ _ ec ed]
 ·obtain⟨c,j,x,hc,_,ec,rfl⟩:=qz.mp hp;exact⟨by show(c:Int)<n;omega,(ok.bx _ _ _ ec).2⟩
def AQ{T:Tab}{k n:Nat}(ok:bL k n T){c:Nat}{l y:Int}(hl:Let k l)(h:c<n):jc (rj T k n) c l y↔a6 T c l=some y:=by
 obtain⟨l0,l1,l2⟩:=hl;unfold jc a6;by_cases z:0<l
 ·rw[if_pos z,if_pos z,qz];constructor
  ·rintro⟨c',j,e,_,_,ec,q⟩;injection q with q1 q;injection q with q2 q3
   obtain rfl:c=c':=by omega
   rw[show(l-1).toNat=j by omega,ec,q3]
  ·intro e;exact⟨c,(l-1).toNat,y,h,by omega,e,by rw[show(((l-1).toNat:Nat):Int)+1=l by omega]⟩
 ·rw[if_neg z,if_neg z,qz,jM ok];constructor
  ·rintro⟨c',j,e,dQ,_,ec,q⟩;injection q with q1 q;injection q with q2 q3
   refine⟨c',q1,dQ,?_⟩;rw[show(-l-1).toNat=j by omega,ec,q3]
  ·rintro⟨m,rfl,hm,ec⟩;exact⟨m,(-l-1).toNat,_,hm,by omega,ec,by rw[show(((-l-1).toNat:Nat):Int)+1= -l by omega]⟩
def LH{T:Tab}{k n:Nat}(ok:bL k n T):∀(v:List Int) (c:Nat),c<n->Red v->(∀l∈v,Let k l)->bB T (some (c:Int)) v=none->∃M:Mo,(∀p∈rj T k n,M.s p.2.1 p.1=p.2.2)/\(n:Int)<=M.wk c v
 |[],_,_,_,_,h=>nomatch h
 |l::r,c,hc,rd,hl,h=>by
  have l0:=hl l (Y9 ..);cases e:a6 T c l with
  |none=>
   exact kY.out (l::r) _ n c (LG ok) (by omega) rd (λy hy=>(hl y hy).1) (λl' e' y s=>by
    obtain rfl:=Zg e';rw[(AQ ok l0 hc).mp s]at e;cases e) (List.cons_ne_nil _ _)
  |some d=>
   have rd':=jP ok e;obtain⟨d,rfl⟩:∃d':Nat,d=(d':Int):=⟨d.toNat,by omega⟩;rw[oF,Za,e]at h;have rg:=rd;rw[show l::r=[l]++r from rfl,uX]at rg;obtain⟨M,hM,le⟩:=LH ok r d (by omega) rg.2.1 (λy hy=>hl y (Y4 _ hy)) h;refine⟨M,hM,?_⟩;show(n:Int)<=M.wk (M.go c l) r;rw[vO hM ((AQ ok l0 hc).mpr e)];exact le
def Bk.fa{C g lh:Addr}{H:Hp}{B:Bk}{rest:List Addr}(h:aQ C H g lh B rest){M:Mo}{f:Nat->Int}(hf:M.Fits f (rowsOf B.es)):∀x y,x<B.n->y<B.n->(rk B.aD).getD x 0=(rk B.aD).getD y 0->f x=f y:=λx y hx hy e=>by
 have hF:FL B.n (rowsOf B.es) [] B.aD:=tj λr hr=>(kq h.k5 h.ok r hr).1;have ll:=hF.1.aD.len;exact(hF.iff hx hy).mp ((BI (by rw[ll];exact hx) (by rw[ll];exact hy)).mp e) M f hf λ_ z=>nomatch z
def Bk.IT{C g lh:Addr}{H:Hp}{B:Bk}{rest:List Addr}(h:aQ C H g lh B rest){a b:Int}{ws:List Int}(ha:aE B.n a)(hb:aE B.n b)(hl:∀l∈ws,Let B.k l):
  jT (rowsOf B.es) a ws b↔bB B.tab (some ((rk B.aD).getD a.toNat 0)) (cut ws)=some ((rk B.aD).getD b.toNat 0):=by
 have ck:=Bk.Cr h;have tok:bL B.k B.cp B.tab:=sV ck;obtain⟨a0,a1⟩:=id ha;obtain⟨b0,b1⟩:=id hb;have la:=ck.bx _ (getD_mem (l:=rk B.aD) (a:=a.toNat) (by rw[ck.len];omega));have lb:=ck.bx _ (getD_mem (l:=rk B.aD) (a:=b.toNat) (by rw[ck.len];omega));have lc:∀l∈cut ws,Let B.k l:=vA hl;constructor
 ·intro hm
  have key:∀M:Mo,(∀p∈rj B.tab B.k B.cp,M.s p.2.1 p.1=p.2.2)->M.wk ((rk B.aD).getD a.toNat 0) (cut ws)=(rk B.aD).getD b.toNat 0:=λM hM=>by
   rw[M.cut (vD hl)];refine hm M (λx=>(rk B.aD).getD x 0) λr hr=>?_;have ra:=ck.at hr 1;have aeJ:=(ck.row r hr).2;have:cell B.tab ((rk B.aD).getD (My.mk r 1) 0).toNat (r.getD 2 0-1).toNat=some ((rk B.aD).getD (My.mk r (-1)) 0):=((Bo ck).mC _ _ _).mpr ⟨r,hr,by omega,by omega,rfl⟩;have:=hM _ (qz.mpr ⟨_,_,_,by omega,by omega,this,rfl⟩);dsimp only at this;rw[show((((rk B.aD).getD (My.mk r 1) 0).toNat:Nat):Int)=(rk B.aD).getD (My.mk r 1) 0 by omega,show(((r.getD 2 0-1).toNat:Nat):Int)+1=r.getD 2 0 by omega]at this;exact this
  cases e:bB B.tab (some ((rk B.aD).getD a.toNat 0)) (cut ws)with
  |none=>
   obtain⟨c,ec⟩:∃c:Nat,(rk B.aD).getD a.toNat 0=(c:Int):=⟨((rk B.aD).getD a.toNat 0).toNat,by omega⟩;rw[ec]at e;obtain⟨M,hM,le⟩:=LH tok (cut ws) c (by omega) (U0 ws) lc e;have:=key M hM;rw[ec]at this;omega
  |some d=>
   have rd:=Bf tok (by omega) e;obtain⟨M,hM⟩:=(LG tok).mo
   have go:∀(w:List Int) (c d:Int),0<=c/\c<B.cp->(∀l∈w,Let B.k l)->bB B.tab (some c) w=some d->M.wk c w=d:=by
    intro w
    induction w with
    |nil=>intro c d _ _ h;exact Zg h
    |cons l w ih=>
     intro c d hc hl h;rw[oF]at h;cases es:a6 B.tab c.toNat l with
     |none=>rw[es,oE]at h;cases h
     |some x=>
      rw[es]at h;have:=vO hM ((AQ tok (hl l (Y9 ..)) (by omega)).mpr es);rw[Zw hc.1]at this;show M.wk (M.go c l) w=d;rw[this];exact ih x d (jP tok es) (λy hy=>hl y (Y4 _ hy)) h
   rw[<-go _ _ _ (by omega) lc e,key M hM]
 ·intro e M f hf;rw[<-M.cut (vD hl)];exact LC ck (Bk.fa h hf) hf (cut ws) a.toNat _ (by omega) lc e b.toNat (by omega) rfl
def J7{k n:Nat}{T:Tab}(ok:bL k n T){c:Nat}(hc:c<n){w:List Int}(hl:∀l∈w,Let k l):bB (cf T (met T k n c)) (some 0) w=some 0↔bB T (some (c:Int)) w=some (c:Int):=by
 have mi:=m8 ok (k:=k) hc;have hd:=Xl (T:=T) (k:=k) (n:=n) (base:=c);have p1:=List.length_pos_of_mem mi.2.1;have h1:=Lz ok mi.1.nd mi.1.lt mi.2.2 w hl 0 p1;obtain⟨l0,e0⟩:=ZL.mp hd;have nd:=mi.1.nd;have mc:=mi.2.1;generalize met T k n c=ord at *;rw[e0,show((0:Nat):Int)=0 from rfl]at h1;rw[h1];constructor
 ·intro h;obtain⟨a,ea,ma,e1⟩:=qy h;have i0:ord.idxOf a.toNat=0:=by omega
  have ga:=List.getElem_idxOf (List.idxOf_lt_length_iff.mpr ma);simp only[i0]at ga;rw[e0]at ga;have:=Bf ok ⟨by omega,by omega⟩ ea;rw[ea,show a=(c:Int)by omega]
 ·intro h;rw[h];unfold rn;dsimp only[Option.bind];rw[Za,if_pos mc];have:=uT nd l0;rw[e0]at this;rw[this];rfl
def zG{es:List En}{a b:Int}{ws:List Int}:V.str (wordOf es a ws b)=V.str "must"↔jT (rowsOf es) a ws b:=by
 constructor
 ·intro h;have h:=V.str.inj h;rcases Tq es a ws b with⟨m,_⟩|⟨_,_,e⟩|⟨_,_,e⟩
  ·exact m
  ·rw[e]at h;exact absurd h (by decide)
  ·rw[e]at h;exact absurd h (by decide)
 ·intro m;unfold wordOf;rw[if_pos m]
def vP{o:Option Int}{x:Int}:oV o=V.int x↔o=some x:=by cases o<;>simp[oV]
def BM{p q:Prop} [Decidable p] [Decidable q](h:p↔q):(!decide (V.bl (decide p)=V.bl (decide q)))=false:=by
 have:decide p=decide q:=by by_cases z:p<;>simp[z, <-h]
 rw[this];simp
def top(i:Nat):Stmt:=PySem.Challenge.pw_chalkcave_k48_whole_home_is_must.main.body.getD i (.Pass ⟨0,0,0,0⟩)
abbrev GG:Stmt:=top 12
abbrev J8:Stmt:=top 13
abbrev yf:Stmt:=inClass (top 17) 0
abbrev yP:Stmt:=inClass (top 17) 1
abbrev yA:Stmt:=inClass (top 17) 4
abbrev yQ:Stmt:=inClass (top 17) 5
abbrev yB:Stmt:=inClass (top 17) 6
abbrev uK:Stmt:=inClass (top 17) 7
abbrev uN:Stmt:=top 18
abbrev yC:Stmt:=top 19
abbrev yR:Stmt:=top 20
abbrev FN:Stmt:=inClass (top 22) 0
abbrev FP:Stmt:=inClass (top 22) 1
abbrev FZ:Stmt:=inClass (top 22) 2
abbrev GH:Stmt:=top 23
abbrev Hh:Stmt:=top 24
abbrev FT:Stmt:=inClass (top 26) 0
abbrev Hi:Stmt:=inClass (top 26) 1
abbrev Hj:Stmt:=inClass (top 26) 2
abbrev Gh:Stmt:=inClass (top 26) 3
abbrev Gu:Stmt:=inClass (top 26) 4
abbrev J9:Stmt:=top 27
abbrev LJ:Stmt:=top 28
abbrev zo:Stmt:=top 30
abbrev zc:Stmt:=top 31
abbrev xZ:Stmt:=top 32
abbrev yS:Stmt:=top 33
abbrev yb:Stmt:=inClass (top 42) 0
abbrev yn:Stmt:=inClass (top 42) 1
abbrev yT:Stmt:=inClass (top 42) 2
abbrev yo:Stmt:=inClass (top 42) 3
abbrev yj:Stmt:=inClass (top 42) 4
abbrev yp:Stmt:=inClass (top 42) 5
abbrev yg:Stmt:=inClass (top 42) 6
abbrev yD:Stmt:=inClass (top 42) 7
abbrev yE:Stmt:=inClass (top 42) 8
abbrev yc:Stmt:=inClass (top 42) 10
abbrev yF:Stmt:=inClass (top 42) 11
abbrev yq:Stmt:=inClass (top 42) 12
abbrev yr:Stmt:=inClass (top 42) 13
abbrev yt:Stmt:=inClass (top 42) 16
abbrev xX:Stmt:=inClass (top 42) 17
abbrev xV:Stmt:=inClass (top 42) 18
abbrev yu:Stmt:=inClass (top 42) 21
abbrev yk:Stmt:=inClass (top 42) 22
abbrev yG:Stmt:=inClass (top 42) 23
abbrev xW:Stmt:=inClass (top 42) 25
abbrev xY:Stmt:=inClass (top 42) 26
abbrev zH:Stmt:=top 43
abbrev yH:Stmt:=top 44
abbrev yI:Stmt:=top 45
abbrev zp:Stmt:=top 46
abbrev AR:Stmt:=top 48
abbrev yh:Stmt:=top 49
abbrev zI:Stmt:=top 50
abbrev zq:Stmt:=top 51
abbrev F8:Stmt:=top 53
abbrev Hk:Stmt:=top 54
abbrev yw:Stmt:=top 56
abbrev yU:Stmt:=top 57
abbrev yJ:Stmt:=top 58
abbrev zd:Stmt:=top 59
abbrev ze:Stmt:=top 60
abbrev Gi:Stmt:=top 61
abbrev Gj:Stmt:=top 62
abbrev yK:Stmt:=top 63
abbrev zr:Stmt:=top 64
abbrev yV:Stmt:=top 65
abbrev yW:Stmt:=top 67
abbrev GI:Stmt:=top 68
abbrev jK:Stmt:=top 69
abbrev yX:Stmt:=top 70
abbrev Hm:Stmt:=top 71
abbrev Gk:Stmt:=top 72
abbrev yd:Stmt:=top 73
abbrev yY:Stmt:=top 74
abbrev ym:Stmt:=top 75
abbrev ye:Stmt:=top 76
abbrev kK:Stmt:=top 77
abbrev Oe:Stmt:=F8
abbrev Of:Stmt:=Hk
abbrev Og:Stmt:=Hm
abbrev NF:Stmt:=GI
abbrev O9:Stmt:=Gk
abbrev Oh:Stmt:=GG
abbrev LK:Stmt:=J8
abbrev NG:Stmt:=GH
abbrev Oi:Stmt:=Hh
abbrev Oj:Stmt:=FZ
abbrev Ol:Stmt:=FP
abbrev MW:Stmt:=FN
abbrev MX:Stmt:=FT
abbrev Om:Stmt:=Hi
abbrev Oo:Stmt:=Hj
abbrev LL:Stmt:=Gh
abbrev MY:Stmt:=Gu
abbrev LM:Stmt:=J9
abbrev MZ:Stmt:=LJ
abbrev Pa:Stmt:=Gi
abbrev M0:Stmt:=Gj
section
variable {P:Program}{w:World}{K:PySem.W.Frag}{mg:Str->Option Value}{base:Heap}
def lN:aM ["_law_script","_law_many","_law_row","_law_seed","_law_cell","_law_rest","_law_k"] ["_law_script","_law_many"] (aF Oe):=aN
def abU{f:Addr}{fd:FuncData}(F:aI K "_law_numbers" "_law_numbers" Oe f fd)(T:Txt K mg):az P w K mg base aL 1 f fd ["_law_script","_law_many"] (Mh K):=by
 refine F.ok lN (λvs H Q E h=>?_) (λau A outer s H vs Q E hr h=>?_)
 ·obtain⟨a,ns,many,rfl,_⟩:=h
  rfl
 ·obtain⟨a,ns,many,rfl,hS,hn,hm,k⟩:=h
  refine⟨_,a9 (bJ (i:=2) lN.nd rfl (Or.inl rfl) (oQ ae))
   (a9 (bJ (i:=3) lN.nd rfl (Or.inl rfl) af)
   (a9 (bN Zm rfl (bH (gK vo (pv 0) mX (dC af))) (aO (i:=4) lN.nd rfl (Or.inl rfl))
    (a9 (bJ (i:=3) lN.nd rfl (Or.inl rfl) (av bO (av cV (av cV (av fg (pv 3) af) (av bO (pv 4) af)) af) af))
    (a9 (bJ (i:=5) lN.nd rfl (Or.inl rfl) (av hX (pv 4) (av abf af af)))
    (a9 (aR (aJ ij (pv 5) af (aG _))
     (a7 (bA (eA PySem.F.plainAttrs_list PySem.F.slot_list_append PySem.F.type_list_append dZ (pv 2) (aq (av bO (pv 4) af) ae)))) aU)
    (a7 (bN Zm rfl (ji rfl T.range (aq af ae)) (aO (i:=6) lN.nd rfl (Or.inl rfl))
     (a7 (aR (aJ gQ (pv 5) af (aG _))
      (a9 (bA (eA PySem.F.plainAttrs_list PySem.F.slot_list_append PySem.F.type_list_append dZ (pv 2) (aq (av bO (pv 5) af) ae)))
      (a7 (bJ (i:=5) lN.nd rfl (Or.inl rfl) (av iL (pv 5) af)))) aU))))))))
   (a9 (rW Zm (aJ ij (bq cO (by rfl) T.len PySem.boot_len (aq (pv 2) ae)) (pv 1) (aG _))
    (a9 (bJ (i:=3) lN.nd rfl (Or.inl rfl) (av bO (av cV (av cV (av cV (av fg (pv 3) (pv 3)) (av fg af (pv 3))) (av fg af (bq cO (by rfl) T.len PySem.boot_len (aq (pv 2) ae)))) af) af))
    (a7 (bA (eA PySem.F.plainAttrs_list PySem.F.slot_list_append PySem.F.type_list_append dZ (pv 2) (aq (av bO (av iL (pv 3) af) af) ae))))))
   (a7 (fF (gK vo (pv 2) mX (dC (pv 1)))))))),?_⟩
  refine⟨Zp _,λr cL=>?_⟩;refine⟨_,rfl,_,rfl,a,_,rfl,(aa.refl H).upd cL|>.seq hS,λp hp=>?_⟩;have xp:r≠p:=a8 (H:=upd H r (.lst [])) (o:=.lst []) ak hp;have hp0:H p=none:=by rw[ai xp.symm]at hp;exact hp
  rw[u9];have aV:=zR ns none (some 63);generalize cn ns none (some 63)=cs at aV⊢
  refine⟨p,rfl,⟨_,ah.of ak⟩,cS (K:=K) (a:=p) (xs:=cs.map V.int) (λi σ H2=>∃(ms:List Int) (eS:Int) (c x y:Option V),σ=[some (.ref a),some (.int many),some (.ref r),some (.int eS),c,x,y]/\0<=eS/\eS<2147483647/\
   ms.length<=61*i/\aw H2 r ms/\aw H2 p cs/\aa H H2)
   ⟨[],17,none,none,none,rfl,by decide,by decide,Zp _,((aw.put (ns:=[])).other xp),.put,((aa.refl H).upd cL).upd hp0⟩ (λi σ H2 _ ⟨_,_,_,_,_,_,_,_,_,_,z,_⟩=>ah.of z) ?_ ?_⟩
  ·rintro i y σ H2 hi ⟨ms,eS,c,x,y',rfl,h0,h1,hl,h2,h3,hs⟩;obtain⟨z,rfl,hz⟩:=gu hi;have mD:i<cs.length:=(ZL.mp hz).1;refine⟨_,rfl,_,_,rfl,rfl,.inl ⟨by omega,by omega⟩,_,rfl,_,_,rfl,rfl,(by show(0:Int)<1000003;decide),_,_,rfl,rfl,_,_,rfl,rfl,_,_,rfl,rfl,(by show(0:Int)<2147483647;decide),?_⟩;have g0:=Zz (eS*48271+z%1000003+11) (show(2147483647:Int)≠0 by decide);have g1:=Zy (eS*48271+z%1000003+11) (show(0:Int)<2147483647 by decide);refine⟨_,rfl,_,_,rfl,rfl,⟨by decide,by decide,by decide⟩,_,_,rfl,rfl,?_⟩;rw[acI];refine⟨_,rfl,_,_,rfl,rfl,_,rfl,?_⟩;refine YJ (λH2=>∃ms:List Int,ms.length<=61*i+1/\aw H2 r ms/\aw H2 p cs/\aa H H2) ⟨ms,by omega,h2,h3,hs⟩ (λH2 hP=>?key) (λkey=>?w1)
   case w1=>
    exact⟨_,rfl,.inl ⟨rfl,_,ah.of h2⟩,_,rfl,_,_,rfl,rfl,(by show(0:Int)<1000;decide),r,_,_,rfl,rfl,h2,bw (by rw[Y1];omega),key _ ⟨ms++[z%1000],by simp;omega,.snoc,h3.other xp.symm,hs.upd cL⟩⟩
   case key=>
    obtain⟨ms,hl,h2,h3,hs⟩:=hP
    refine⟨_,rfl,by decide,by decide,qc (lo:=0) (n:=60) (λj σ H2=>∃(ms:List Int) (rest:Int) (y:Option V),σ=[some (.ref a),some (.int many),some (.ref r),some (.int ((eS*48271+z%1000003+11)%2147483647)),some (.int z),some (.int rest),y]/\
     ms.length<=61*i+1+j/\aw H2 r ms/\aw H2 p cs/\aa H H2) ⟨ms,_,_,rfl,by omega,h2,h3,hs⟩ ?_ ?_⟩
    ·rintro j σ H3 hj ⟨ms,rest,y,rfl,hl,h2,h3,hs⟩;refine⟨_,rfl,_,_,rfl,rfl,_,rfl,?_⟩;refine bF (λ_=>?_) (λ_=>?_)
     ·skip
      refine⟨_,rfl,.inl ⟨rfl,_,ah.of h2⟩,_,rfl,_,_,rfl,rfl,(by show(0:Int)<1000;decide),r,_,_,rfl,rfl,h2,bw (by rw[Y1];omega),?_⟩;refine⟨_,rfl,_,_,rfl,rfl,⟨by decide,by decide⟩,?_⟩;exact⟨ms++[rest%1000],_,_,rfl,by simp;omega,.snoc,h3.other xp.symm,hs.upd cL⟩
     ·exact⟨ms,rest,_,rfl,by omega,h2,h3,hs⟩
    ·rintro σ H3 ⟨ms,rest,y,rfl,hl,h2,h3,hs⟩;exact⟨ms,_,_,_,_,rfl,g0,g1,by omega,h2,h3,hs⟩
  ·rintro σ H2 ⟨ms,eS,c,x,y,rfl,h0,h1,hl,h2,h3,hs⟩;rw[Y1]at hl
   refine zO (λσ H2=>∃(ms:List Int) (eS:Int) (c x y:Option V),σ=[some (.ref a),some (.int many),some (.ref r),some (.int eS),c,x,y]/\0<=eS/\eS<2147483647/\ms.length<=4000/\aw H2 r ms/\aa H H2)
    (λσ H2=>match H2 r with|some (.lst xs)=>1000-xs.length|_=>0) ⟨ms,eS,c,x,y,rfl,h0,h1,by omega,h2,hs⟩ ?_ ?_
   ·rintro σ H2 ⟨ms,eS,c,x,y,rfl,h0,h1,hl,h2,hs⟩;refine⟨_,rfl,r,_,rfl,.inl (ah.of h2),_,rfl,_,_,rfl,rfl,_,rfl,?_⟩;refine bF (λaP=>?_) (λmE=>?_)
    ·have aP:=of_decide_eq_true aP;rw[Y1]at aP
     refine⟨_,rfl,_,rfl,_,_,rfl,rfl,.inl ⟨by omega,by omega⟩,_,rfl,_,_,rfl,rfl,.inl ⟨by decide,by decide⟩,_,_,rfl,rfl,_,rfl,r,_,rfl,.inl (ah.of h2),_,_,rfl,rfl,.inl ⟨by decide,by decide⟩,_,_,rfl,rfl,_,_,rfl,rfl,_,_,rfl,rfl,
      (by show(0:Int)<2147483629;decide),?_⟩
     have g0:=Zz (eS*eS+69621*eS+7*((ms.map V.int).length:Int)+5) (show(2147483629:Int)≠0 by decide);have g1:=Zy (eS*eS+69621*eS+7*((ms.map V.int).length:Int)+5) (show(0:Int)<2147483629 by decide);refine⟨_,rfl,.inl ⟨rfl,_,ah.of h2⟩,_,rfl,_,_,rfl,rfl,⟨by decide,by decide⟩,_,_,rfl,rfl,(by show(0:Int)<1000;decide),r,_,_,rfl,rfl,h2,bw (by rw[Y1];omega),?_⟩;refine⟨⟨ms++[_],_,_,_,_,rfl,g0,Int.lt_trans g1 (by decide),by simp;omega,.snoc,hs.upd cL⟩,?_⟩;show(match upd H2 r _ r with|some (.lst xs)=>1000-xs.length|_=>0)<(match H2 r with|some (.lst xs)=>1000-xs.length|_=>0);rw[ak,h2];simp only[Zo,Y1,List.length_singleton];omega
    ·have mE:¬((ms.map V.int).length:Int)<(many:Int):=λz=>mE (ZN z);rw[Y1]at mE;refine⟨_,rfl,_,rfl,_,rfl,r,_,rfl,ah.of h2,λq hq=>?_⟩;rw[u9,Kk];exact k q (ms.take many) _ (by rw[Zx];omega) trivial (hs.free hq) .put (hs.fM hq)
   ·rintro σ H Q Q' hQ ⟨v,e,p,ys,e',q,v',uo,i,j,e3,e4,b,e5,q5⟩;exact⟨v,e,p,ys,e',q,v',uo,i,j,e3,e4,b,e5,hQ _ _ q5⟩
def ac7:aM ["_law_draws","_law_kinds"] ["_law_draws","_law_kinds"] (aF Of):=aN
def abV{f:Addr}{fd:FuncData}(F:aI K "_law_way" "_law_way" Of f fd):az P w K mg base aL 1 f fd ["_law_draws","_law_kinds"] (Ni K):=by
 refine F.ok ac7 (λvs H Q E h=>?_) (λau A outer s H vs Q E hr h=>?_)
 ·obtain⟨a,ns,k,rfl,_⟩:=h
  rfl
 ·obtain⟨a,ns,k,rfl,hS,hn,h1,h5,q⟩:=h;refine⟨_,a7 (fF (gL ["_law_kinds"] [1] (bH (pv 0)) (λC s H fp=>av fg (av cV (av iL (av bO (pv 0) (av fg af (pv 1))) af) af) (av hX af (av fg af (av bO (pv 0) af)))) (λ_ _ h=>h))),?_⟩;refine⟨_,rfl,a,rfl,⟨_,hS⟩,uW (qh k) hS (bw (by omega)) (λz _ H' Q' q'=>?_) (qC q)⟩;refine⟨_,rfl,_,rfl,_,_,rfl,rfl,.inl ⟨by decide,by decide⟩,_,_,rfl,rfl,(by show(0:Int)<2*k;omega),_,_,rfl,rfl,⟨by decide,by decide⟩,_,_,rfl,rfl,_,rfl,_,_,rfl,rfl,(by show(0:Int)<2;decide),_,_,rfl,rfl,.inl ⟨by decide,by decide⟩,_,_,rfl,rfl,_,_,rfl,rfl,.inr ⟨?_,?_⟩,q'⟩
  ·have:=Zy z (show(0:Int)<2 by decide);show -(2^ 64)<1-2*(z%2);omega
  ·have:=Zz z (show(2:Int)≠0 by decide);show 1-2*(z%2)<2^ 64;omega
def abW:aM ["_law_way_here"] ["_law_way_here"] (aF NF):=aN
def aay{f:Addr}{fd:FuncData}(F:aI K "_law_turn" "_law_turn" NF f fd):az P w K mg base aL 1 f fd ["_law_way_here"] (sN K):=by
 refine F.ok abW (λvs H Q E h=>?_) (λau A outer s H vs Q E hr h=>?_)
 ·obtain⟨a,ns,rfl,_⟩:=h
  rfl
 ·obtain⟨a,ns,rfl,hS,hn,k⟩:=h;refine⟨_,a7 (fF (gL (cl:=[]) [] [] (bH (Mf (pv 0))) (λC s H fp=>fI fG (pv 0)) (λ_ _ h=>nomatch h))),?_⟩;refine⟨_,rfl,Mg hS λp H1 hp h1 s1=>?_⟩;refine⟨p,rfl,⟨_,ah.of h1⟩,uW (- ·) (ah.of h1) (bw (by simp;omega)) (λz _ H' Q' q'=>⟨_,rfl,_,rfl,q'⟩) (qC λD H2 hD h2 s2=>?_)⟩;exact k D _ (s1.free hD) h2 (s1.trans s2)
def Oq:aM ["_law_found","_law_one"] ["_law_found"] (aF O9):=aN
def ac8{f:Addr}{fd:FuncData}(F:aI K "_law_is_way" "_law_is_way" O9 f fd)(T:Txt K mg):az P w K mg base aL 1 f fd ["_law_found"] NY:=by
 refine F.ok Oq (λvs H Q E h=>?_) (λau A outer s H vs Q E hr h=>?_)
 ·obtain⟨a,ns,rfl,_⟩:=h
  rfl
 ·obtain⟨a,ns,rfl,hS,k⟩:=h
  refine⟨_,a9 (aR (jN (gN (bq mT (by rfl) T.inst mZ (aq (pv 0) (aq (mW (v:=.ty "list") rfl T.list jL rfl) ae))))) (a7 (fF fH)) aU)
   (a9 (bN Zm rfl (bH (pv 0)) (aO (i:=1) Oq.nd rfl (Or.inl rfl))
    (a7 (aR (PW.pt (fW (jN (gN (bq mT (by rfl) T.inst mZ (aq (pv 1) (aq (mW (v:=.ty "int") rfl T.int Mi rfl) ae)))))
     (gv (gN (bq mT (by rfl) T.inst mZ (aq (pv 1) (aq (mW (v:=.ty "bool") rfl T.bool Km rfl) ae))))))) (a7 (fF fH)) aU)))
   (a7 (fF fH))),?_⟩
  refine⟨_,rfl,_,_,_,_,rfl,.lst hS,uV,_,rfl,bE ?_⟩;refine⟨_,rfl,a,rfl,⟨_,ah.of hS⟩,cS (K:=K) (a:=a) (xs:=ns.map V.int) (λi σ H2=>∃(c:Option V),σ=[some (.ref a),c]/\H2=H) ⟨none,rfl,rfl⟩ (λi σ H2 _ ⟨_,_,e⟩=>by rw[e];exact ah.of hS) ?_ ?_⟩
  ·rintro i y σ H2 hi ⟨c,rfl,rfl⟩;obtain⟨z,rfl,hz⟩:=gu hi;refine⟨_,rfl,_,_,_,_,rfl,.int z,HE,_,rfl,bE ?_⟩;refine⟨_,rfl,_,_,_,_,rfl,.int z,GQ,_,rfl,bE ?_⟩;exact⟨_,rfl,rfl⟩
  ·rintro σ H2 ⟨c,rfl,rfl⟩;exact k
def tm:aM ["_law_way_here","_law_kept","_law_one"] ["_law_way_here"] (aF Og):=aN
def abX{f:Addr}{fd:FuncData}(F:aI K "_law_cut" "_law_cut" Og f fd)(T:Txt K mg):az P w K mg base aL 1 f fd ["_law_way_here"] (sX K):=by
 refine F.ok tm (λvs H Q E h=>?_) (λau A outer s H vs Q E hr h=>?_)
 ·obtain⟨a,ns,rfl,_⟩:=h
  rfl
 ·obtain⟨a,ns,rfl,hS,hn,k⟩:=h
  refine⟨_,a9 (bJ (i:=1) tm.nd rfl (Or.inl rfl) (oQ ae))
   (a9 (bN Zm rfl (bH (pv 0)) (aO (i:=2) tm.nd rfl (Or.inl rfl))
    (a7 (aR (PW.pt (kF (aJ gQ (bq cO (by rfl) T.len PySem.boot_len (aq (pv 1) ae)) af (aG _)) (kA (aJ bZ (ax An (pv 1) (fI fG af) (λ_ _=>rfl)) (fI fG (pv 2)) (aG _)))))
     (a7 (bJ (i:=1) tm.nd rfl (Or.inl rfl) (gK vo (pv 1) mX (dC (fI fG af)))))
     (a7 (bJ (i:=1) tm.nd rfl (Or.inl rfl) (av Ma (pv 1) (oQ (aq (pv 2) ae))))))))
   (a7 (fF (pv 1)))),?_⟩
  refine⟨Zp _,λr cL=>?_⟩;have s0:aa H (upd H r (.lst [])):=(aa.refl H).upd cL
  refine⟨_,rfl,a,rfl,⟨_,s0.seq hS⟩,cS (K:=K) (a:=a) (xs:=ns.map V.int) (λi σ H2=>∃(r:Addr) (st:List Int) (c:Option V),σ=[some (.ref a),some (.ref r),c]/\st=(ns.take i).foldl push []/\H r=none/\aw H2 r st.reverse/\aa H H2)
   ⟨r,[],none,rfl,by simp,cL,aw.put (ns:=[]),s0⟩ (λi σ H2 _ ⟨_,_,_,_,_,_,_,s2⟩=>s2.seq hS) ?_ ?_⟩
  ·rintro i y σ H2 hi ⟨r,st,c,rfl,ki,cL,h2,s2⟩;obtain⟨z,rfl,hz⟩:=gu hi;have mD:i<ns.length:=(ZL.mp hz).1;have hl:=va (ns.take i) [];rw[<-ki,Zx]at hl;simp only[List.length_nil]at hl;have e1:=HF hz;rw[<-ki]at e1;refine⟨_,rfl,r,_,rfl,.inl (ah.of h2),_,_,rfl,rfl,_,rfl,?_⟩;cases st with
   |nil=>
    refine bE ?_;refine bE ?_;refine⟨_,rfl,_,rfl,(show 1<=sizeLine by decide),λp hp=>?_⟩;refine⟨r,p,_,_,rfl,rfl,(h2.fresh hp),ak,by simp;decide,λq hq=>?_⟩
    have uf:H2 q=none:=by
     rw[ai (λe=>by rw[e,ak]at hq;cases hq)]at hq;exact hq
    exact⟨q,[z],_,rfl,e1.symm,s2.free uf,ak,(s2.fM hp).fM hq⟩
   |cons t u=>
    have ne:decide ((0:Int)<((List.map V.int (t::u).reverse).length:Int))=true:=by simp <;>omega
    rw[ne];refine c4 ?_;refine⟨_,rfl,_,rfl,r,_,_,_,rfl,rfl,ah.of h2,(by rw[List.reverse_cons,Ze];exact Jh _ _),_,rfl,_,rfl,rfl,_,rfl,?_⟩;refine bF (λhc=>?_) (λhc=>?_)
    ·have hc:t= -z:=by simpa using hc
     refine⟨_,rfl,_,rfl,_,rfl,r,_,rfl,ah.of h2,λp hp=>?_⟩;rw[u9,List.reverse_cons,Uz];exact⟨p,u,_,rfl,by rw[e1];simp[push,hc],s2.free hp,.put,s2.fM hp⟩
    ·have hc:¬t= -z:=by simpa using hc
     refine⟨_,rfl,_,rfl,(show 1<=sizeLine by decide),λp hp=>?_⟩;refine⟨r,p,_,_,rfl,rfl,(h2.fresh hp),ak,(by simp at hl⊢;exact Z1 (bw (by omega))),λq hq=>?_⟩
     have uf:H2 q=none:=by
      rw[ai (λe=>by rw[e,ak]at hq;cases hq)]at hq;exact hq
     refine⟨q,z::t::u,_,rfl,by rw[e1];simp[push,hc],s2.free uf,?_,(s2.fM hp).fM hq⟩;rw[List.reverse_cons (a:=z)];exact .snoc
  ·rintro σ H2 ⟨r,st,c,rfl,ki,cL,h2,s2⟩;refine⟨_,rfl,k r H2 cL ?_ s2⟩;rw[Y1,ZE (Y3 _)]at ki;rw[ki]at h2;exact h2
def abY:aM ["row","side"] ["row","side"] (aF NG):=aN
def aaz{f:Addr}{fd:FuncData}(F:aI K "near_mark" "near_mark" NG f fd):az P w K mg base aL 1 f fd ["row","side"] vE:=by
 refine F.ok abY (λvs H Q E h=>?_) (λau A outer s H vs Q E hr h=>?_)
 ·obtain⟨t,r,s,rfl,_⟩:=h
  rfl
 ·obtain⟨t,r,sd,rfl,ht,hl,k⟩:=h;refine⟨_,a9 (aR (aJ bZ (pv 1) af (aG _)) (a7 (fF (ax bI (pv 0) af (λ_ _=>rfl)))) aU)<|a7 (fF (ax bI (pv 0) af (λ_ _=>rfl))),?_⟩;refine⟨_,rfl,rfl,_,rfl,?_⟩;refine bF (λhe=>?_) (λhe=>?_)
  ·have he:sd=1:=by simpa using he
   unfold oS at k;rw[if_pos he]at k;exact⟨_,rfl,fh 1 ht (by omega) k⟩
  ·have he:¬sd=1:=by simpa using he
   unfold oS at k;rw[if_neg he]at k;exact⟨_,rfl,fh 3 ht (by omega) k⟩
def ac9:aM ["row","side"] ["row","side"] (aF Oi):=aN
def abZ{f:Addr}{fd:FuncData}(F:aI K "far_mark" "far_mark" Oi f fd)(R:aW P w K mg base "near_mark" ["row","side"] 1 vE):az P w K mg base aL 2 f fd ["row","side"] Nl:=by
 refine F.ok ac9 (λvs H Q E h=>?_) (λau A outer s H vs Q E hr h=>?_)
 ·obtain⟨t,r,s,rfl,_⟩:=h
  rfl
 ·obtain⟨t,r,sd,rfl,ht,hl,k⟩:=h;refine⟨_,a7 (fF (R.pe hr (aq (pv 0) (aq (fI fG (pv 1)) ae)))),?_⟩;exact⟨_,rfl,_,rfl,_,rfl,t,r,_,rfl,ht,hl,k⟩
def BN:aM ["self","a","b","low","high"] ["self","a","b"] (aF Oj):=aN
def ab0{f C:Addr}{fd:FuncData}(F:aI K "unite" "Groups.unite" Oj f fd)(TM:qH mg)(TG:nF K mg C):az P w K mg base aL 1 f fd ["self","a","b"] (Bx C):=by
 refine F.ok BN (λvs H Q E h=>?_) (λau A outer s H vs Q E hr h=>?_)
 ·obtain⟨g,ls,a,b,rfl,_⟩:=h
  rfl
 ·obtain⟨g,ls,a,b,rfl,⟨dx,l,hg,hl⟩,ha,hb,hn,k⟩:=h
  refine⟨_,a9 (bJ (i:=3) BN.nd rfl (Or.inr rfl) (bq (zx rfl) (by rfl) TM.min A6 (aq (ax aK (aS (pv 0) rfl) (pv 1) (λ_ _=>rfl)) (aq (ax aK (aS (pv 0) rfl) (pv 2) (λ_ _=>rfl)) ae))))
   <|a9 (bJ (i:=4) BN.nd rfl (Or.inr rfl) (bq (zw rfl) (by rfl) TM.max sP (aq (ax aK (aS (pv 0) rfl) (pv 1) (λ_ _=>rfl)) (aq (ax aK (aS (pv 0) rfl) (pv 2) (λ_ _=>rfl)) ae))))
   <|a7 (fU (pv 0) (gL ["low","high"] [3,4] (bH (aS (pv 0) rfl)) (λC s H fp=>zN (aJ bZ (pv 0) (pv 2) (aG _)) (pv 1) (pv 0)) (Aq rfl rfl)) rfl),?_⟩
  refine⟨_,rfl,g,C,dx,_,_,rfl,hg,TG.cl,TG.nL,iK l,_,rfl,aT a hl ha ⟨_,rfl,g,C,dx,_,_,rfl,hg,TG.cl,TG.nL,iK l,_,rfl,aT b hl hb ⟨_,_,rfl,?_⟩⟩⟩;rw[A7];refine⟨_,rfl,g,C,dx,_,_,rfl,hg,TG.cl,TG.nL,iK l,_,rfl,aT a hl ha ⟨_,rfl,g,C,dx,_,_,rfl,hg,TG.cl,TG.nL,iK l,_,rfl,aT b hl hb ⟨_,_,rfl,?_⟩⟩⟩;rw[A8];refine⟨_,rfl,g,C,dx,_,_,rfl,hg,TG.cl,TG.nL,iK l,l,rfl,⟨_,ah.of hl⟩,uW (λm=>if m=max (ls.getD a 0) (ls.getD b 0)then min (ls.getD a 0) (ls.getD b 0)else m) (ah.of hl) (bw (by omega)) (λz _ H' Q' q'=>?_) λD hD=>?_⟩
  ·refine⟨_,rfl,_,rfl,rfl,_,rfl,?_⟩;refine bF (λhe=>?_) (λhe=>?_)
   ·have he:z=max (ls.getD a 0) (ls.getD b 0):=by simpa using he
    rw[if_pos he]at q';exact⟨_,rfl,q'⟩
   ·have he:¬z=max (ls.getD a 0) (ls.getD b 0):=by simpa using he
    rw[if_neg he]at q';exact⟨_,rfl,q'⟩
  ·have ng:g≠D:=a8 hg hD;refine⟨_,rfl,g,C,dx,_,rfl,(by rw[ai ng];exact hg),TG.cl,TG.nL,(by rw[Bv];show 1<1000;decide),?_⟩;rw[abx];refine k _ ⟨dx,D,ak,?_⟩ λc o e hc=>?_
   ·show upd _ g _ D=_;rw[ai ng.symm,ak]
    rfl
   ·rw[ai hc,ai (a8 e hD)];exact e
def ada:aM ["self","a","b"] ["self","a","b"] (aF Ol):=aN
def ab1{f C:Addr}{fd:FuncData}(F:aI K "together" "Groups.together" Ol f fd)(TG:nF K mg C):az P w K mg base aL 1 f fd ["self","a","b"] (Nk C):=by
 refine F.ok ada (λvs H Q E h=>?_) (λau A outer s H vs Q E hr h=>?_)
 ·obtain⟨g,ls,a,b,rfl,_⟩:=h
  rfl
 ·obtain⟨g,ls,a,b,rfl,⟨dx,l,hg,hl⟩,ha,hb,k⟩:=h;refine⟨_,a7 (fF (iN bZ (ax aK (aS (pv 0) rfl) (pv 1) (λ_ _=>rfl)) (ax aK (aS (pv 0) rfl) (pv 2) (λ_ _=>rfl)) (aG _))),?_⟩;refine⟨_,rfl,g,C,dx,_,_,rfl,hg,TG.cl,TG.nL,iK l,_,rfl,aT a hl ha ⟨_,rfl,g,C,dx,_,_,rfl,hg,TG.cl,TG.nL,iK l,_,rfl,aT b hl hb ⟨rfl,?_⟩⟩⟩
  have e:decide (V.int (ls.getD a 0)=V.int (ls.getD b 0))=decide (ls.getD a 0=ls.getD b 0):=by
   by_cases h:ls.getD a 0=ls.getD b 0
   ·rw[ZN h,h];exact ZN rfl
   ·rw[ZO h];exact ZO λz=>h (V.int.inj z)
  rw[e];exact k
def AU:aM ["self","marks","pairs","a","b"] ["self","marks","pairs"] (aF MW):=aN
def Xm{f C:Addr}{fd:FuncData}(F:aI K "__init__" "Groups.__init__" MW f fd)(T:Txt K mg)(TG:nF K mg C)(U:cy P w K mg base C "unite" ["self","a","b"] 1 (Bx C)):az P w K mg base aL 2 f fd ["self","marks","pairs"] (Ks C):=by
 refine F.ok AU (λvs H Q E h=>?_) (λau A outer s H vs Q E hr h=>?_)
 ·obtain⟨g,dx,n,l,ps,rfl,_⟩:=h
  rfl
 ·obtain⟨g,dx,n,l,ps,rfl,hg,hl,hp,hn,bY,k⟩:=h
  refine⟨_,(a9 (fU (pv 0) (oB (Gq rfl) rfl T.list jL (aq (Mp rfl T.range (aq (pv 1) ae)) ae)) rfl)
   (a7 (bN Zm rfl (bH (pv 2)) (eJ rfl (bt (aO (i:=3) AU.nd rfl (Or.inl rfl)) (bt (aO (i:=4) AU.nd rfl (Or.inl rfl)) eG))) (a7 (bA (U.pe hr (pv 0) (aq (pv 3) (aq (pv 4) ae)))))))),?_⟩
  refine⟨_,rfl,_,rfl,λr cL=>Jm (K:=K) ak (by omega) λq H1 hq iq s1=>?_⟩;have s1:aa H H1:=((aa.refl H).upd cL).trans s1;refine⟨_,rfl,g,C,dx,[],rfl,s1 _ _ hg,TG.cl,TG.nL,(by show 0<1000;decide),?_⟩
  have nq:q≠g:=λe=>by
   rw[e,ai (a8 hg cL),hg]at hq;cases hq
  have G1:ke C (upd H1 g (.ins C dx (aY "least" (.ref q) []))) g (fN n (ps.take 0)):=⟨dx,q,ak,iq.other nq⟩;have K1:Kp g H (upd H1 g (.ins C dx (aY "least" (.ref q) []))):=λc o e nc=>by rw[ai nc];exact s1 _ _ e
  refine⟨_,rfl,l,rfl,⟨_,ah.of (hl.kp K1 hg).is⟩,cS (K:=K) (a:=l) (xs:=ps.map λp=>V.ref p.1) (λi σ H2=>∃x y:Option V,σ=[some (.ref g),some (.int n),some (.ref l),x,y]/\ke C H2 g (fN n (ps.take i))/\Kp g H H2)
   ⟨none,none,rfl,G1,K1⟩ (λi σ H2 _ ⟨_,_,_,_,k2⟩=>ah.of (hl.kp k2 hg).is) ?_ ?_⟩
  ·rintro i y σ H2 hi ⟨x,z,rfl,G2,K2⟩;obtain⟨p,rfl,ep⟩:=kD hi;obtain⟨a,b,er,ha,hb⟩:=hp p (Y6 ep);have ht:=(hl.kp K2 hg).tp p (Y6 ep);rw[er]at ht;have L2:=HP (i:=i) hp;obtain⟨Pb,l2,km,kZ⟩:=G2.ob;refine⟨p.1,_,rfl,aZ.of ht,rfl,_,_,rfl,_,_,rfl,rfl,?_⟩;refine⟨_,rfl,g,Pb,_,rfl,km,Bw _ (by decide),_,rfl,_,rfl,g,_,a,b,rfl,⟨Pb,l2,km,kZ⟩,by rw[L2.len];exact ha,by rw[L2.len];exact hb,by rw[L2.len];omega,λH3 G3 K3=>?_⟩;refine⟨_,_,rfl,?_,K2.trans K3⟩;rw[HN ep,er];exact G3
  ·rintro σ H2 ⟨x,y,rfl,G2,K2⟩;rw[Y1,List.take_length]at G2;exact k _ G2 K2
def adb:aM ["self","doors","door","row"] ["self","doors","door","row"] (aF Oo):=aN
def ab2{f CF CG:Addr}{fd:FuncData}(F:aI K "put" "Fold.put" Oo f fd)(TF:o8 K mg CF):az P w K mg base aL 1 f fd ["self","doors","door","row"] (sZ CF CG):=by
 refine F.ok adb (λvs H Q E h=>?_) (λau A outer s H vs Q E hr h=>?_)
 ·obtain⟨H0,rows,rd,n,f,x,t,a,d,st,m,s,rfl,_⟩:=h
  rfl
 ·obtain⟨H0,rows,rd,n,f,x,t,a,d,st,m,sd,rfl,fr,FA,ok,hm,hx,ht,ha,hw,k⟩:=h;have dq:=oX hr;have hd:=FA.dd m x hx;have n0:0<n:=by omega
  have pE:H t=some (.tup ((key ((rd a).getD 2 0) sd).map kV)):=ht;refine⟨_,(a7 (aR (AW (abr dq (pv 2) (pv 1)) rfl) (a7 (bA (eA PySem.F.plainAttrs_list PySem.F.slot_list_append PySem.F.type_list_append dZ (aS (pv 0) rfl) (aq (cW (aq (kC dq (pv 1) (pv 2) (λ_ _=>rfl)) (aq (pv 3) (aq (ax bI (pv 2) af (λ_ _=>rfl)) ae)))) ae)))) (a7 (Ao dq (pv 1) (pv 2) (pv 3) rfl)))),?_⟩;refine⟨_,rfl,_,rfl,x,_,rfl,dG.t hd pE,_,rfl,?_⟩;cases e:bj (st.D m) (key ((rd a).getD 2 0) sd)with
  |none=>
   refine bE ⟨_,rfl,_,rfl,_,rfl,x,_,rfl,iu.t hd pE (bw (ZQ (ok.Cf fr.rw hm) (by decide))),?_⟩;obtain⟨Pc,k'⟩:=FA.putD hx (putK (st.D m) (key ((rd a).getD 2 0) sd) (.ref a));rw[<-UI e]at Pc;exact k _ Pc k'
  |some v=>
   obtain⟨s',r,er,xb,_,_⟩:=(ok.i9 m hm _ (rY e)).is;obtain rfl:v=.ref r:=(Prod.mk.inj er).2;obtain⟨wa,w1,w2,w3⟩:=FA.wl;have g:=dG.t hd pE;rw[e]at g;refine c4 ⟨_,rfl,f,CF,d.dx,_,_,rfl,FA.ob,TF.cl,TF.nW,Ci d,.inl ⟨rfl,_,ah.of w1⟩,_,rfl,_,rfl,x,_,rfl,g,_,rfl,_,rfl,fh (r:=[(rd a).getD 2 0,sd]) 1 ht (show 1<2 by decide) ⟨(show 3<=sizeLine by decide),λq hq=>?_⟩⟩;have F1:=FA.same (H':=upd H q (.tup [V.ref r,V.ref a,V.int sd])) ((aa.refl H).upd hq);have k1:Kx d H (upd H q (.tup [V.ref r,V.ref a,V.int sd])):=Kx.of ((aa.refl H).upd hq);have og:d.lw≠q:=a8 w1 hq;refine⟨d.lw,_,_,rfl,rfl,(by rw[ai og];exact w1),bw (by rw[Y1];omega),?_⟩
   obtain⟨F2,k2⟩:=F1.N8 n0 ok.aD (wa++[q]) (st.W++[(r,a,sd)]) (by simp[w2]) λi t' e' h1 h2=>by
    by_cases hi:i<wa.length
    ·rw[Zs hi]at h1;rw[Zs (by omega)]at h2;have:=w3 i t' e' h1 h2;rw[ai (a8 this hq)];exact this
    ·rw[Zt (by omega)]at h1 h2
     have z:i-wa.length=0:=by
      have:=(ZL.mp h1).1;simp at this;omega
     rw[z]at h1;rw[<-w2,z]at h2;cases h1;cases h2;exact ak
   rw[Ze]at F2 k2;rw[<-UH (a:=a) e]at F2;exact k _ F2 (k1.trans k2)
def BP:aM ["self","row","side","least"] ["self","row"] (aF Om):=aN
def ab3{f CF CG:Addr}{fd:FuncData}(F:aI K "lay" "Fold.lay" Om f fd)(TF:o8 K mg CF)(TG:nF K mg CG)(N:aW P w K mg base "near_mark" ["row","side"] 1 vE)(PU:cy P w K mg base CF "put" ["self","doors","door","row"] 1 (sZ CF CG)):az P w K mg base aL 2 f fd ["self","row"] (By CF CG):=by
 refine F.ok BP (λvs H Q E h=>?_) (λau A outer s H vs Q E hr h=>?_)
 ·obtain⟨H0,rows,rd,n,f,a,d,st,rfl,_⟩:=h
  rfl
 ·obtain⟨H0,rows,rd,n,f,a,d,st,rfl,fr,FA,ok,ha,hw,k⟩:=h
  refine⟨_,(a7 (bN Zm rfl (AY (cW (aq af (aq (fI fG af) ae)))) (aO (i:=2) BP.nd rfl (Or.inl rfl)) (a9 (bJ (i:=3) BP.nd rfl (Or.inl rfl) (ax aK (aS (aS (pv 0) rfl) rfl) (N.pe hr (aq (pv 1) (aq (pv 2) ae))) (λ_ _=>rfl)))
   (a7 (bA (PU.pe hr (pv 0) (aq (ax aK (aS (pv 0) rfl) (pv 3) (λ_ _=>rfl)) (aq (cW (aq (ax bI (pv 1) af (λ_ _=>rfl)) (aq (pv 2) ae))) (aq (pv 1) ae))))))))),?_⟩
  refine⟨_,rfl,(show 2<=sizeLine by decide),λq hq=>⟨q,rfl,⟨_,aZ.of ak⟩,?_⟩⟩;have row:=fr.rw.row a ha
  have turn:∀(sd:Int) (aX:FS) (x y:Option V) (D:Ends) (H2:Hp),gY sd->b4 CF CG H0 H2 f d n aX->bz n rows rd aX->aX.W.length<=9989999->Kx d (upd H q (.tup [V.int 1,V.int (-1)])) H2->
    (∀x y H3,b4 CF CG H0 H3 f d n (cG aX (at_ aX.l (My.mk (rd a) sd)) ((rd a).getD 2 0) sd a)->Kx d (upd H q (.tup [V.int 1,V.int (-1)])) H3->D.nx [some (.ref f),some (.ref a),x,y] H3)->
    qE (nE (pC (dM (lQ K)) (tJ K (tJ K (iR 0) "groups") "least") (vR vE [] E0 (kH (iR 1) (kH (iR 2) kM)))) (gP 3))
     (M7 (jR CF "put" (sZ CF CG) [] E0 (iR 0) (kH (pC (dM (lQ K)) (tJ K (iR 0) "doors") (iR 3)) (kH (B1 (kH (pC (dM (gD K)) (iR 1) (tC (.int 2))) (kH (iR 2) kM))) (kH (iR 1) kM)))))
     D [some (.ref f),some (.ref a),some (.int sd),y] H2:=by
   intro sd aX x y D H2 hsd F2 kg w2 k2 kd;obtain⟨gx,gl,g1,g2⟩:=F2.gr.ob;have Pd:=F2.sa _ _ (fr.tp a ha);obtain⟨e1,e2⟩:=row.mk sd;have L:=kg.aD;obtain⟨m1,m2⟩:=kJ L e2;refine⟨_,rfl,f,CF,d.dx,_,_,rfl,F2.ob,TF.cl,TF.nG,nH d,d.g,CG,gx,_,_,rfl,g1,TG.cl,TG.nL,iK gl,_,rfl,_,rfl,a,rd a,sd,rfl,Pd,row.len,aT (My.mk (rd a) sd) g2 (by rw[L.len];exact e2) ?_ e1⟩;obtain⟨z,hz⟩:∃z,d.ds[at_ aX.l (My.mk (rd a) sd)]?=some z:=⟨d.ds[at_ aX.l (My.mk (rd a) sd)]'(by rw[F2.dn];exact m1),Zd _⟩;refine⟨_,rfl,f,d.dx,_,rfl,F2.ob,Mt d,_,rfl,f,CF,d.dx,_,_,rfl,F2.ob,TF.cl,TF.nD,Cg d,_,rfl,vF F2.dl (v:=.ref z) (by rw[<-m2];exact mY (by rw[Zf,hz];rfl)) ?_⟩;refine⟨_,rfl,fh 2 Pd (by rw[row.len];decide) ⟨_,rfl,(show 2<=sizeLine by decide),λt ht=>⟨_,rfl,?_⟩⟩⟩;have sm:aa H2 (upd H2 t (.tup [V.int ((rd a).getD 2 0),V.int sd])):=(aa.refl H2).upd ht;exact⟨H0,rows,rd,n,f,z,t,a,d,aX,_,sd,rfl,fr,F2.same sm,kg,m1,hz,ak,ha,by omega,λH3 F3 k3=>kd _ _ H3 F3 ((k2.trans (Kx.of sm)).trans k3)⟩
  have ja:=ok.put (kJ ok.aD (row.mk 1).2).1 ha (.inl rfl:gY 1) (ok.iF _ (row.mk 1).2).symm
  refine Kc (K:=K) (a:=q) (xs:=[V.int 1,V.int (-1)]) (λi σ H2=>∃x y:Option V,σ=[some (.ref f),some (.ref a),x,y]/\b4 CF CG H0 H2 f d n (if i=0 then st else if i=1 then cG st (at_ st.l (My.mk (rd a) 1)) ((rd a).getD 2 0) 1 a else gE rd st a)/\Kx d (upd H q (.tup [V.int 1,V.int (-1)])) H2)
   ⟨none,none,rfl,FA.same ((aa.refl H).upd hq),Kx.refl⟩ (λi σ H2 _ ⟨_,_,_,_,k2⟩=>aZ.of ((FA.same ((aa.refl H).upd hq)).tup k2 ak)) ?_ ?_
  ·rintro i v σ H2 hi ⟨x,y,rfl,F2,k2⟩;cases i with
   |zero=>
    cases hi;exact turn 1 st none y _ H2 (.inl rfl) F2 ok (by omega) k2 λx y H3 F3 k3=>⟨x,y,rfl,F3,k3⟩
   |succ i=>
    cases i with
    |zero=>
     cases hi;have w1:=vH st (at_ st.l (My.mk (rd a) 1)) ((rd a).getD 2 0) 1 a;exact turn (-1) (cG st (at_ st.l (My.mk (rd a) 1)) ((rd a).getD 2 0) 1 a) none y _ H2 (.inr rfl) F2 ja (by omega) k2 λx y H3 F3 k3=>⟨x,y,rfl,F3,k3⟩
    |succ i=>simp at hi
  ·rintro σ H2 ⟨x,y,rfl,F2,k2⟩;exact k _ F2 ((Kx.of ((aa.refl H).upd hq)).trans k2)
def M3{low j:Nat}(h:j≠low):∀(es:List (List Key×V)) (st:FS),(es.foldl (eK low) st).D j=st.D j
 |[],_=>rfl
 |e::es,st=>(M3 h es (eK low st e)).trans (abD st e h)
def qA:aM ["self","a","b","low","high","kept","gone","door"] ["self","a","b"] (aF MY):=aN
def Xn{f CF CG:Addr}{fd:FuncData}(F:aI K "merge" "Fold.merge" MY f fd)(T:Txt K mg)(TM:qH mg)(TF:o8 K mg CF)(TG:nF K mg CG)(U:cy P w K mg base CG "unite" ["self","a","b"] 1 (Bx CG))(PU:cy P w K mg base CF "put" ["self","doors","door","row"] 1 (sZ CF CG)):
  az P w K mg base aL 2 f fd ["self","a","b"] (As CF CG):=by
 refine F.ok qA (λvs H Q E h=>?_) (λau A outer s H vs Q E hr h=>?_)
 ·obtain⟨H0,rows,rd,n,f,d,st,a,b,rfl,_⟩:=h
  rfl
 ·obtain⟨H0,rows,rd,n,f,d,st,a,b,rfl,fr,FA,ok,ha,hb,hab,hw,k⟩:=h;have dq:=oX hr
  refine⟨_,(a9 (bJ (i:=3) qA.nd rfl (Or.inl rfl) (bq (zx rfl) (by rfl) TM.min A6 (aq (ax aK (aS (aS (pv 0) rfl) rfl) (pv 1) (λ_ _=>rfl)) (aq (ax aK (aS (aS (pv 0) rfl) rfl) (pv 2) (λ_ _=>rfl)) ae))))
   (a9 (bJ (i:=4) qA.nd rfl (Or.inl rfl) (bq (zw rfl) (by rfl) TM.max sP (aq (ax aK (aS (aS (pv 0) rfl) rfl) (pv 1) (λ_ _=>rfl)) (aq (ax aK (aS (aS (pv 0) rfl) rfl) (pv 2) (λ_ _=>rfl)) ae))))
   (a9 (bA (U.pe hr (aS (pv 0) rfl) (aq (pv 3) (aq (pv 4) ae))))
   (a9 (bJ (i:=5) qA.nd rfl (Or.inl rfl) (ax aK (aS (pv 0) rfl) (pv 3) (λ_ _=>rfl)))
   (a9 (bJ (i:=6) qA.nd rfl (Or.inl rfl) (ax aK (aS (pv 0) rfl) (pv 4) (λ_ _=>rfl)))
   (a7 (bN Zm rfl (bH (oB (S9 rfl) rfl T.list jL (aq (pv 6) ae))) (aO (i:=7) qA.nd rfl (Or.inl rfl)) (a7 (bA (PU.pe hr (pv 0) (aq (pv 5) (aq (pv 7) (aq (kC dq (pv 6) (pv 7) (λ_ _=>rfl)) ae))))))))))))),?_⟩
  obtain⟨gx,gl,g1,g2⟩:=FA.gr.ob;have L:=ok.aD;have al:a<st.l.length:=by rw[L.len];exact ha
  have bl:b<st.l.length:=by rw[L.len];exact hb
  obtain⟨lo,hi,e1,e2⟩:=qj L ha hb
  have Dq:b5 st.l a b≠cZ st.l a b:=by
   intro e;have:((b5 st.l a b:Nat):Int)=(cZ st.l a b:Nat):=by rw[e]
   omega
  have xq:f≠d.g:=qw FA.ob g1 λz=>fr.ne (HO.ins.inj z).1;refine⟨_,rfl,f,CF,d.dx,_,_,rfl,FA.ob,TF.cl,TF.nG,nH d,d.g,CG,gx,_,_,rfl,g1,TG.cl,TG.nL,iK gl,_,rfl,aT a g2 al ⟨_,rfl,f,CF,d.dx,_,_,rfl,FA.ob,TF.cl,TF.nG,nH d,d.g,CG,gx,_,_,rfl,g1,TG.cl,TG.nL,iK gl,_,rfl,aT b g2 bl ⟨_,_,rfl,?_⟩⟩⟩;rw[A7, <-e1];refine⟨_,rfl,f,CF,d.dx,_,_,rfl,FA.ob,TF.cl,TF.nG,nH d,d.g,CG,gx,_,_,rfl,g1,TG.cl,TG.nL,iK gl,_,rfl,aT a g2 al ⟨_,rfl,f,CF,d.dx,_,_,rfl,FA.ob,TF.cl,TF.nG,nH d,d.g,CG,gx,_,_,rfl,g1,TG.cl,TG.nL,iK gl,_,rfl,aT b g2 bl ⟨_,_,rfl,?_⟩⟩⟩;rw[A8, <-e2];refine⟨_,rfl,f,CF,d.dx,_,_,rfl,FA.ob,TF.cl,TF.nG,nH d,d.g,gx,_,rfl,g1,Bw _ (by decide),_,rfl,_,rfl,d.g,st.l,cZ st.l a b,b5 st.l a b,rfl,FA.gr,by rw[L.len];exact lo,by rw[L.len];exact hi,by rw[L.len];have:=fr.n1;omega,λH1 G1 K1=>?_⟩;have F1:=FA.acR K1 G1 xq;have ja:=ok.join fr.rw lo hi;have k1:Kx d H H1:=Kx.kp K1;obtain⟨xl,wZ⟩:∃z,d.ds[cZ st.l a b]?=some z:=⟨d.ds[cZ st.l a b]'(by rw[FA.dn];exact lo),Zd _⟩;obtain⟨xh,Dr⟩:∃z,d.ds[b5 st.l a b]?=some z:=⟨d.ds[b5 st.l a b]'(by rw[FA.dn];exact hi),Zd _⟩;refine⟨_,rfl,f,CF,d.dx,_,_,rfl,F1.ob,TF.cl,TF.nD,Cg d,_,rfl,vF F1.dl (v:=.ref xl) (mY (by rw[Zf,wZ];rfl)) ?_⟩;refine⟨_,rfl,f,CF,d.dx,_,_,rfl,F1.ob,TF.cl,TF.nD,Cg d,_,rfl,vF F1.dl (v:=.ref xh) (mY (by rw[Zf,Dr];rfl)) ?_⟩;have dh:=F1.dd _ _ Dr;have dl:=ja.Cf fr.rw hi
  have Pe:∀e∈st.D (b5 st.l a b),vG rows rd (jn st.l (cZ st.l a b) (b5 st.l a b)) (cZ st.l a b) e:=λe he=>by
   obtain⟨s,r,er,hr,hs,hl⟩:=(ja.i9 _ hi e he).is;exact⟨s,r,er,hr,hs,hl.trans (rQ L lo hi).symm⟩
  refine⟨_,rfl,⟨⟨xh,_,rfl,dh,λts lk k7 hlen ad9=>⟨lk,rfl,⟨_,ah.of ak⟩,?_⟩⟩⟩⟩;have F2:=F1.same (H':=upd H1 lk (.lst (ts.map V.ref))) ((aa.refl H1).upd k7);have k2:=k1.trans (Kx.of (d:=d) ((aa.refl H1).upd (o:=.lst (ts.map V.ref)) k7));have nk1:lk≠d.lw:=by obtain⟨_,w1,_⟩:=F1.wl;exact(a8 w1 k7).symm
  have nk2:lk≠d.lx:=by obtain⟨_,t1,_⟩:=F1.sl;exact(a8 t1.is k7).symm
  have nk3:lk≠d.g:=by obtain⟨_,_,w1,_⟩:=F1.gr.ob;exact(a8 w1 k7).symm
  have nk4:lk∉d.ds:=λz=>by
   obtain⟨m,hm,e⟩:=ZD z;have:=F1.dd m lk (by rw[Zd hm,e]);rw[this]at k7;cases k7
  refine cS (K:=K) (a:=lk) (xs:=ts.map V.ref) (λi σ H3=>∃x:Option V,σ=[some (.ref f),some (.int a),some (.int b),some (.int (cZ st.l a b)),some (.int (b5 st.l a b)),some (.ref xl),some (.ref xh),x]/\
   b4 CF CG H0 H3 f d n (((st.D (b5 st.l a b)).take i).foldl (eK (cZ st.l a b)) {st with l:=jn st.l (cZ st.l a b) (b5 st.l a b)})/\Kx d (upd H1 lk (.lst (ts.map V.ref))) H3)
   ⟨none,rfl,F2,Kx.refl⟩ (λi σ H3 _ ⟨_,_,_,k3⟩=>ah.of (k3 _ _ ak nk1 nk2 nk3 nk4)) ?_ ?_
  ·rintro i v σ H3 bT ⟨x,rfl,F3,k3⟩;rw[Zf]at bT;cases et:ts[i]? with
   |none=>rw[et]at bT;cases bT
   |some t=>
    rw[et]at bT;obtain rfl:=Zg bT;have il:i<(st.D (b5 st.l a b)).length:=by rw[<-hlen];exact(ZL.mp et).1
    obtain⟨e,ee⟩:∃e,(st.D (b5 st.l a b))[i]?=some e:=⟨_,Zd il⟩;have me:=Y6 ee;obtain⟨s,r,er,xb,hs,hl⟩:=(Pe e me).is;have tt:=ad9 i t e et ee;have ee':=ee;rw[er]at tt;have Pf:H3 t=some (.tup [.int ((rd r).getD 2 0),.int s]):=F2.tup k3 (by rw[ai (a8 tt k7)];exact tt);obtain⟨o1,o2,o3,o4⟩:=Ky lo ((st.D (b5 st.l a b)).take i) _ ja λe' h'=>Pe e' (List.mem_of_mem_take h');have Pg:=F3.dd _ _ Dr;rw[M3 Dq]at Pg
    have dv:bj (st.D (b5 st.l a b)) (key ((rd r).getD 2 0) s)=some (.ref r):=by
     have:=GV (ja.nd _ hi) me;rw[er]at this;exact this
    have gg:=dG.t Pg (k:=key ((rd r).getD 2 0) s) Pf;rw[dv]at gg;have lt:((st.D (b5 st.l a b)).take i).length<=10:=by rw[Zx];have:(st.D (b5 st.l a b)).length<=10:=dl;omega
    have hw':({st with l:=jn st.l (cZ st.l a b) (b5 st.l a b)}:FS).W.length=st.W.length:=rfl;refine⟨_,rfl,f,d.dx,_,rfl,F3.ob,Mt d,_,rfl,_,rfl,_,rfl,_,rfl,xh,_,rfl,gg,?_⟩;refine⟨H0,rows,rd,n,f,xl,t,r,d,_,_,s,rfl,fr,F3,o1,lo,wZ,Pf,xb,by omega,λH4 F4 k4=>⟨_,rfl,?_,k3.trans k4⟩⟩;rw[rP ee',er];exact F4
  ·rintro σ H3 ⟨x,rfl,F3,k3⟩;rw[Y1,hlen]at F3;dsimp only at F3;rw[List.take_length]at F3;exact k _ F3 (k2.trans k3)
def qt:aM ["self","one","two","side","a","b"] ["self"] (aF LL):=aN
def U5{f CF CG:Addr}{fd:FuncData}(F:aI K "settle" "Fold.settle" LL f fd)(TF:o8 K mg CF)(TG:nF K mg CG)(FA:aW P w K mg base "far_mark" ["row","side"] 2 Nl)(O:cy P w K mg base CG "together" ["self","a","b"] 1 (Nk CG))(ME:cy P w K mg base CF "merge" ["self","a","b"] 2 (As CF CG)):
  az P w K mg base aL 3 f fd ["self"] (zW CF CG):=by
 refine F.ok qt (λvs H Q E h=>?_) (λau A outer s H vs Q E hr h=>?_)
 ·obtain⟨H0,rows,rd,n,f,d,st,J,rfl,_⟩:=h
  rfl
 ·obtain⟨H0,rows,rd,n,f,d,st,J,rfl,fr,F0,ok,kj,j0,b1,b2,k⟩:=h
  refine⟨_,(a7 (rW Zm (Je (aS (pv 0) rfl) (λ_=>rfl)) (a9 (gy (L6 PySem.F.plainAttrs_list PySem.F.slot_list_pop PySem.F.type_list_pop L8 (aS (pv 0) rfl)) (eJ rfl (bt (aO (i:=1) qt.nd rfl (Or.inl rfl)) (bt (aO (i:=2) qt.nd rfl (Or.inl rfl)) (bt (aO (i:=3) qt.nd rfl (Or.inl rfl)) eG)))))
   (a9 (bJ (i:=4) qt.nd rfl (Or.inl rfl) (FA.pe hr (aq (pv 1) (aq (pv 3) ae))))
   (a9 (bJ (i:=5) qt.nd rfl (Or.inl rfl) (FA.pe hr (aq (pv 2) (aq (pv 3) ae))))
   (a7 (aR (jN (gN (O.pe hr (aS (pv 0) rfl) (aq (pv 4) (aq (pv 5) ae))))) (a9 (bA (eA PySem.F.plainAttrs_list PySem.F.slot_list_append PySem.F.type_list_append dZ (aS (pv 0) rfl) (aq (cW (aq (ax bI (pv 1) af (λ_ _=>rfl)) (aq (ax bI (pv 2) af (λ_ _=>rfl)) (aq (pv 3) ae)))) ae)))
   (a7 (bA (ME.pe hr (pv 0) (aq (pv 4) (aq (pv 5) ae)))))) aU))))))),?_⟩
  refine⟨λm σ H2=>∃(x y z u v:Option V) (aX:FS),σ=[some (.ref f),x,y,z,u,v]/\b4 CF CG H0 H2 f d n aX/\bz n rows rd aX/\J aX/\aX.W.length+10*bG aX.l<=9000000/\aX.ss.length+bG aX.l<=9000000/\Kx d H H2/\m=11*bG aX.l+aX.W.length,⟨_,none,none,none,none,none,st,rfl,F0,ok,j0,b1,b2,Kx.refl,rfl⟩,?_⟩;rintro m σ H2 ⟨x,y,z,u,v,aX,rfl,F2,kg,j2,c1,c2,k2,rfl⟩;obtain⟨wa,w1,w2,w3⟩:=F2.wl;refine⟨_,rfl,f,CF,d.dx,_,_,rfl,F2.ob,TF.cl,TF.nW,Ci d,_,.inl ⟨_,ah.of w1,rfl⟩,?_⟩;rcases List.eq_nil_or_concat aX.W with eW|⟨W,e,eW⟩
  ·have:wa=[]:=by rw[eW]at w2;exact List.length_eq_zero_iff.mp w2
   rw[this];exact k aX H2 F2 kg j2 eW (by omega) k2
  ·rw[List.concat_eq_append]at eW;have wl:wa.length=W.length+1:=by rw[w2,eW,Zo];rfl
   rcases List.eq_nil_or_concat wa with ew|⟨wb,t,ew⟩
   ·rw[ew]at wl;simp at wl
   ·rw[List.concat_eq_append]at ew;subst ew;have wl:wb.length=W.length:=by rw[Zo]at wl;simpa using wl
    have ht:H2 t=some (.tup [.ref e.1,.ref e.2.1,.int e.2.2]):=w3 wb.length t e (by rw[Zt (Y3 _),Nat.sub_self];rfl) (by rw[eW,wl,Zt (Y3 _),Nat.sub_self];rfl);obtain⟨jE,we⟩:=kg.pop eW;have n0:0<n:=ZP (Zp _) ((fr.rw.row _ we.x).mk 1).2;have F3':=F2.N8 n0 kg.aD wb W wl λi t' e' h1 h2=>w3 i t' e' (by rw[Zs (ZL.mp h1).1];exact h1) (by rw[eW,Zs (ZL.mp h2).1];exact h2);obtain⟨F3,k3⟩:=F3';obtain⟨a,b,sd⟩:=e;have ra:=fr.rw.row _ we.x;have rb:=fr.rw.row _ we.y;have aea:(((wb++[t]).map V.ref).isEmpty)=false:=by rw[Ze];cases wb<;>rfl
    rw[aea];refine c4 ⟨λσ' H'=>∃(x y z u v:Option V) (jZ:FS),σ'=[some (.ref f),x,y,z,u,v]/\b4 CF CG H0 H' f d n jZ/\bz n rows rd jZ/\J jZ/\jZ.W.length+10*bG jZ.l<=9000000/\jZ.ss.length+bG jZ.l<=9000000/\Kx d H H'/\11*bG jZ.l+jZ.W.length<11*bG aX.l+aX.W.length,λσ' H' ⟨x,y,z,u,v,jZ,h1,h2,h3,h4,h5,h6,h7,h8⟩=>⟨_,h8,x,y,z,u,v,jZ,h1,h2,h3,h4,h5,h6,h7,rfl⟩,?_⟩;have js:=kj aX W a b sd kg eW j2;obtain⟨o1,o2,o3,o4⟩:=WU fr.rw jE we;have aeK:aX.W.length=W.length+1:=by rw[eW,Zo];rfl
    have ed:((wb++[t]).map V.ref).dropLast=wb.map V.ref:=by rw[Ze];exact List.dropLast_concat
    refine⟨_,rfl,f,CF,d.dx,_,_,rfl,F2.ob,TF.cl,TF.nW,Ci d,.inl ⟨rfl,_,ah.of w1⟩,d.lw,_,.ref t,rfl,rfl,w1,by rw[Ze,Zo,Zt (by simp)];simp,?_⟩;rw[ed];have xr:=F2.tup k3 ht;refine⟨t,_,rfl,aZ.of xr,rfl,_,_,rfl,_,_,rfl,_,_,rfl,rfl,?_⟩;have ta:=F3.sa _ _ (fr.tp _ we.x);have tb:=F3.sa _ _ (fr.tp _ we.y);refine⟨_,rfl,_,rfl,a,rd a,sd,rfl,ta,ra.len,?_⟩;refine⟨_,rfl,_,rfl,b,rd b,sd,rfl,tb,rb.len,?_⟩;rw[(ra.mk (-sd)).1,(rb.mk (-sd)).1];obtain⟨gx,gl,g1,g2⟩:=F3.gr.ob;have L:=jE.aD;refine⟨_,rfl,f,CF,d.dx,_,_,rfl,F3.ob,TF.cl,TF.nG,nH d,d.g,gx,_,rfl,g1,Bw _ (by decide),_,rfl,_,rfl,d.g,aX.l,My.mk (rd a) (-sd),My.mk (rd b) (-sd),rfl,F3.gr,by rw[L.len];exact(ra.mk _).2,by rw[L.len];exact(rb.mk _).2,_,rfl,?_⟩;by_cases he:aX.l.getD (My.mk (rd a) (-sd)) 0=aX.l.getD (My.mk (rd b) (-sd)) 0
    ·rw[ZN he];have ef:gU rd {aX with W:=W} a b sd={aX with W:=W}:=if_pos he;rw[ef]at js;refine bE ⟨_,_,_,_,_,{aX with W:=W},rfl,F3,jE,js,?_,c2,k2.trans k3,?_⟩
     ·dsimp only;omega
     ·dsimp only;omega
    ·rw[ZO he];have ef:gU rd {aX with W:=W} a b sd=m9 {aX with W:=W,ss:=aX.ss++[[(rd a).getD 0 0,(rd b).getD 0 0,sd]]} (My.mk (rd a) (-sd)) (My.mk (rd b) (-sd)):=if_neg he;obtain⟨sp,t1,t2⟩:=F3.sl;refine c4 ⟨_,rfl,f,CF,d.dx,_,_,rfl,F3.ob,TF.cl,TF.nS,N7 d,.inl ⟨rfl,_,ah.of t1.is⟩,_,rfl,fh 0 ta (by rw[ra.len];decide) ⟨_,rfl,fh 0 tb (by rw[rb.len];decide) ⟨_,rfl,(show 3<=sizeLine by decide),λq hq=>?_⟩⟩⟩;have F4:=F3.same (H':=upd _ q (.tup [V.int ((rd a).getD 0 0),V.int ((rd b).getD 0 0),V.int sd])) ((aa.refl _).upd hq);have k4:Kx d _ (upd _ q (.tup [V.int ((rd a).getD 0 0),V.int ((rd b).getD 0 0),V.int sd])):=Kx.of ((aa.refl _).upd hq);have uq:d.lx≠q:=a8 t1.is hq;have mF:sp.length=aX.ss.length:=by rw[<-(show _=aX.ss from t2),Y1]
     refine⟨d.lx,_,_,rfl,rfl,(by rw[ai uq];exact t1.is),bw (by rw[Y1];omega),?_⟩
     obtain⟨F5,k5⟩:=F4.adY n0 L (sp++[(q,[(rd a).getD 0 0,(rd b).getD 0 0,sd])]) λp hp=>by
      rcases Y7.mp hp with h|h
      ·have:=t1.tp p h;rw[ai (a8 this hq)];exact this
      ·obtain rfl:=Y2.mp h;exact ak
     rw[Ze]at F5 k5;rw[Ze,show sp.map (·.2)=aX.ss from t2]at F5;refine⟨_,rfl,f,d.dx,_,rfl,F5.ob,WQ d,_,rfl,_,rfl,H0,rows,rd,n,f,d,_,My.mk (rd a) (-sd),My.mk (rd b) (-sd),rfl,fr,F5,jE.t6 _,(ra.mk _).2,(rb.mk _).2,he,(by dsimp only;omega),λH6 F6 k6=>?_⟩;have F7:b4 CF CG H0 H6 f d n (gU rd {aX with W:=W} a b sd):=by rw[ef];exact F6
     exact⟨_,_,_,_,_,_,rfl,F7,o1,js,by dsimp only at o3;omega,by dsimp only at o4;omega,(((k2.trans k3).trans k4).trans k5).trans k6,by dsimp only at o2;omega⟩
def none_of{H H':Hp}(s:aa H H'){x:Addr}(h:H' x=none):H x=none:=by
 cases e:H x with
 |none=>rfl
 |some o=>rw[s _ _ e]at h;cases h
def aaA:aM ["self","marks","start"] ["self","marks","start"] (aF MX):=aN
def Xo{f CF CG:Addr}{fd:FuncData}(F:aI K "__init__" "Fold.__init__" MX f fd)(T:Txt K mg)(TF:o8 K mg CF)(GR:mf P w K mg base CG "Groups" ["self","marks","pairs"] 2 (Ks CG)):az P w K mg base aL 4 f fd ["self","marks","start"] (KD CF CG):=by
 refine F.ok aaA (λvs H Q E h=>?_) (λau A outer s H vs Q E hr h=>?_)
 ·obtain⟨H0,f,dx,n,ls,ps,rfl,_⟩:=h
  rfl
 ·obtain⟨H0,f,dx,n,ls,ps,rfl,hf,f0,sa,ts,hp,hn,bY,eZ,k⟩:=h
  refine⟨_,(a9 (fU (pv 0) (GR.pe hr (aq (pv 1) (aq (pv 2) ae))) rfl)
   (a9 (fU (pv 0) (gL [] [] (ji rfl T.range (aq (pv 1) ae)) (λC s H fp=>WH) oI) rfl)
   (a9 (fU (pv 0) (oQ ae) rfl)
   (a7 (fU (pv 0) (oQ ae) rfl))))),?_⟩
  refine⟨_,rfl,_,rfl,λg gx hg hgx nd=>?_⟩;have s0:aa H (upd (upd H gx (.own g)) g (.ins CG gx [])):=((aa.refl H).upd hgx).upd hg;refine⟨g,gx,n,ls,ps,rfl,ak,ts.same s0,hp,hn,bY,λH1 G1 K1=>⟨rfl,?_⟩⟩;have s1:aa H H1:=λc o e=>K1 c o (s0 c o e) (a8 e hg);have Ph:=s1 _ _ hf;have xq:f≠g:=a8 hf hg;have sa1:aa H0 H1:=sa.trans s1;refine⟨_,rfl,f,CF,dx,[],rfl,Ph,TF.cl,TF.nG,(by show 0<1000;decide),?_⟩;have Pj:aa H0 (upd H1 f (.ins CF dx (aY "groups" (.ref g) []))):=sa1.upd f0;dsimp only[qE,NT];refine YX (n:=n) rfl hn λD ds H3 hD e3 hl Pk hx s3=>?_;have Pl:=s3 _ _ (ak (H:=H1) (a:=f) (o:=.ins CF dx (aY "groups" (.ref g) [])));have ur:=Pj.trans s3;refine⟨_,rfl,f,CF,dx,_,rfl,Pl,TF.cl,TF.nD,(by show 1<1000;decide),?_⟩;refine⟨Zp _,λlw mG=>⟨_,rfl,f,CF,dx,aY "doors" (.ref D) (aY "groups" (.ref g) []),rfl,(ai (a8 ak mG)).trans ak,TF.cl,TF.nW,(by show 2<1000;decide),?_⟩⟩;refine⟨Zp _,λlx pO=>⟨_,rfl,f,CF,dx,aY "waiting" (.ref lw) (aY "doors" (.ref D) (aY "groups" (.ref g) [])),rfl,(ai (a8 ak pO)).trans ak,TF.cl,TF.nS,(by show 3<1000;decide),?_⟩⟩;have og:lw≠f:=λe=>by rw[e,ak]at mG;cases mG
  have uq:lx≠f:=λe=>by rw[e,ak]at pO;cases pO
  have Ds:lw≠lx:=λe=>by rw[<-e,ai og,ak]at pO;cases pO
  have wI:H3 lw=none:=by rw[ai og]at mG;exact mG
  have wJ:H3 lx=none:=by rw[ai uq,ai Ds.symm,ai uq]at pO;exact pO
  refine k ⟨dx,g,D,lw,lx,ds⟩ _ ?_
  have keep:∀{b:Addr}{o:HO}{o1 o2 o3 o4 o5:HO},H3 b=some o->b≠f->upd (upd (upd (upd (upd H3 f o1) lw o2) f o3) lx o4) f o5 b=some o:=λ{b o o1 o2 o3 o4 o5} e h=>by
   rw[ai h,ai (a8 e wJ),ai h,ai (a8 e wI),ai h];exact e
  obtain⟨gx',gl,g1,g2⟩:=G1.ob;have g3:=s3 _ _ ((ai xq.symm (H:=H1) (o:=.ins CF dx (aY "groups" (.ref g) []))).trans g1);have Pm:gl≠f:=qw g2 Ph (λz=>nomatch z);have g4:aw H3 gl (fN n ps):=s3 _ _ ((ai Pm (H:=H1) (o:=.ins CF dx (aY "groups" (.ref g) []))).trans g2);have nDf:D≠f:=λe=>by rw[e,ak]at hD;cases hD
  have c9:ds.length=n:=by omega
  refine⟨?_,⟨gx',gl,keep g3 xq.symm,keep g4 Pm⟩,keep e3 nDf,c9,Pk,λm x e=>?_,⟨[],?_,rfl,λi t e h1 _=>nomatch h1⟩,⟨[],⟨?_,λ_ z=>nomatch z⟩,rfl⟩,Ds,(a8 e3 wI).symm,(a8 e3 wJ).symm,f0,none_of sa hg,none_of ur wI,none_of ur wJ,λx xo=>none_of Pj (hx x xo).1,?_⟩
  ·rw[ak];rfl
  ·have h:=hx x (Y6 e);exact keep h.2.1 (qw h.2.1 Pl (λz=>nomatch z))
  ·show upd _ _ _ lw=_;rw[ai og,ai Ds,ai og,ak];rfl
  ·show upd _ _ _ lx=_;rw[ai uq,ak];rfl
  ·exact((((ur.upd f0).upd (none_of ur wI)).upd f0).upd (none_of ur wJ)).upd f0
def Ag:aM ["marks","rows","start","fold","row"] ["marks","rows","start"] (aF LM):=aN
def U6{f CF CG:Addr}{fd:FuncData}(F:aI K "folded" "folded" LM f fd)(T:Txt K mg)(TF:o8 K mg CF)(TG:nF K mg CG)(eZ:CF≠CG)(FR:mf P w K mg base CF "Fold" ["self","marks","start"] 4 (KD CF CG))(LA:cy P w K mg base CF "lay" ["self","row"] 2 (By CF CG))(SE:cy P w K mg base CF "settle" ["self"] 3 (zW CF CG)):
  az P w K mg base aL 6 f fd ["marks","rows","start"] Jp:=by
 refine F.ok Ag (λvs H Q E h=>?_) (λau A outer s H vs Q E hr h=>?_)
 ·obtain⟨n,lr,ls,ps,start,J,rfl,_⟩:=h
  rfl
 ·obtain⟨n,lr,ls,ps,start,J,rfl,tr,ts,gn,bM,hn,bY,xi,kj,j0,k⟩:=h
  refine⟨_,(a9 (bJ (i:=3) Ag.nd rfl (Or.inl rfl) (FR.pe hr (aq (pv 0) (aq (pv 2) ae))))
   (a9 (bN Zm rfl (bH (pv 1)) (aO (i:=4) Ag.nd rfl (Or.inl rfl)) (a7 (bA (LA.pe hr (pv 3) (aq (pv 4) ae)))))
   (a9 (bA (SE.eY hr (pv 3)))
   (a7 (fF (cW (aq (oB zh rfl T.list jL (aq (aS (aS (pv 3) rfl) rfl) ae)) (aq (oB zh rfl T.list jL (aq (aS (pv 3) rfl) ae)) ae)))))))),?_⟩
  refine⟨_,rfl,_,rfl,λf dx hf hdx nd=>?_⟩;have s0:aa H (upd (upd H dx (.own f)) f (.ins CF dx [])):=((aa.refl H).upd hdx).upd hf;refine⟨H,f,dx,n,ls,start,rfl,ak,hf,s0,ts.same s0,bM,by omega,xi,eZ,λd H1 F1=>⟨rfl,?_⟩⟩
  have fr:Frame CF CG H (ps.map (·.1)) (b9 ps) n:=by
   refine⟨⟨λr hr=>?_,λr hr=>?_⟩,λr hr=>?_,by omega,by rw[Y1];exact bY,eZ⟩
   all_goals obtain⟨p,hp,rfl⟩:=Zh.mp hr
   all_goals rw[m7 tr.tp hp]
   ·exact(gn p hp).1
   ·exact(gn p hp).2
   ·exact tr.tp p hp
  have ud:bz n (ps.map (·.1)) (b9 ps) (jD n start):=Mw bM;have rm:∀i,_:=λi=>K0 fr.rw ((ps.map (·.1)).take i) (jD n start) ud λa ha=>List.mem_of_mem_take ha;have sl:=YU ud.aD;have nn:n*n<=490000:=Nat.mul_le_mul hn hn
  refine⟨_,rfl,lr,rfl,⟨_,ah.of (tr.same F1.sa).is⟩,cS (K:=K) (a:=lr) (xs:=ps.map λp=>V.ref p.1) (λi σ H2=>∃x:Option V,σ=[some (.int n),some (.ref lr),some (.ref ls),some (.ref f),x]/\b4 CF CG H H2 f d n (((ps.map (·.1)).take i).foldl (gE (b9 ps)) (jD n start)))
   ⟨none,rfl,F1⟩ (λi σ H2 _ ⟨_,_,F2⟩=>ah.of (tr.same F2.sa).is) ?_ ?_⟩
  ·rintro i v σ H2 hi ⟨x,rfl,F2⟩;obtain⟨p,rfl,ep⟩:=kD hi;have em:(ps.map (·.1))[i]?=some p.1:=by rw[Zf,ep];rfl
   obtain⟨o1,_,_,o4⟩:=rm i;have:((ps.map (·.1)).take i).length<=1000:=by rw[Zx,Y1];omega
   refine⟨_,rfl,f,d.dx,_,rfl,F2.ob,abE d,_,rfl,H,_,b9 ps,n,f,p.1,d,_,rfl,fr,F2,o1,Y6 em,?_,λH3 F3 _=>⟨_,rfl,?_⟩⟩
   ·have:(jD n start).W.length=0:=rfl;omega
   ·rw[rP em];exact F3
  ·rintro σ H2 ⟨x,rfl,F2⟩;rw[Y1]at F2;obtain⟨o1,o2,o3,o4⟩:=rm ps.length;have et:(ps.map (·.1)).take ps.length=ps.map (·.1):=ZE (by rw[Y1];exact Y3 _);rw[et]at F2 o1 o2 o3 o4;have e0:(jD n start).W.length=0:=rfl;have e1:(jD n start).ss.length=0:=rfl;rw[Y1]at o4;refine⟨_,rfl,f,d.dx,_,rfl,F2.ob,UG d,H,_,b9 ps,n,f,d,_,J,rfl,fr,F2,o1,kj,j0,by rw[o2];omega,by rw[o2,o3];omega,λaX H3 F3 jE j3 w3 l3 _=>?_⟩;obtain⟨gx,gl,g1,g2⟩:=F3.gr.ob;obtain⟨sp,t1,t2⟩:=F3.sl;refine⟨_,rfl,f,CF,d.dx,_,_,rfl,F3.ob,TF.cl,TF.nG,nH d,d.g,CG,gx,_,_,rfl,g1,TG.cl,TG.nL,iK gl,YI g2 λl1 H4 h4 i4 s4=>?_⟩;refine⟨_,rfl,f,CF,d.dx,_,_,rfl,s4 _ _ F3.ob,TF.cl,TF.nS,N7 d,WM (t1.same s4) λl2 H5 h5 t5 s5=>⟨(show 2<=sizeLine by decide),λt ht=>?_⟩⟩;have s6:aa H5 (upd H5 t (.tup [.ref l1,.ref l2])):=(aa.refl H5).upd ht;exact k t l1 l2 sp aX _ ak (s6.ints (s5.ints i4)) (t5.same s6) t2 jE j3 w3 (by rw[<-Y1 (f:=(·.2)),t2];exact l3) (F3.sa.free h4) ((F3.sa.trans s4).free h5) (((F3.sa.trans s4).trans s5).trans s6)
def oN:aM ["first","a","way","rows","end","at","letter","new"] ["first","a","way"] (aF MZ):=aN
def Xp{f:Addr}{fd:FuncData}(F:aI K "trail" "trail" MZ f fd)(T:Txt K mg):az P w K mg base aL 1 f fd ["first","a","way"] (KJ K):=by
 refine F.ok oN (λvs H Q E h=>?_) (λau A outer s H vs Q E hr h=>?_)
 ·obtain⟨fi,st,l,ns,rfl,_⟩:=h
  rfl
 ·obtain⟨fi,st,l,ns,rfl,hS,hl,nz,k⟩:=h
  refine⟨_,a9 (bJ (i:=3) oN.nd rfl (Or.inl rfl) (oQ ae))
   <|a9 (bJ (i:=4) oN.nd rfl (Or.inl rfl) (pv 1))
   <|a9 (bN Zm rfl (vt rfl T.enum vq (aq (pv 2) ae)) (eJ rfl (bt (aO (i:=5) oN.nd rfl (Or.inl rfl)) (bt (aO (i:=6) oN.nd rfl (Or.inl rfl)) eG)))
    (a9 (bJ (i:=7) oN.nd rfl (Or.inl rfl) (av cV (pv 0) (pv 5)))
    <|a9 (aR (aJ gQ (pv 6) af (aG _))
     (a7 (bA (eA PySem.F.plainAttrs_list PySem.F.slot_list_append PySem.F.type_list_append dZ (pv 3) (aq (cW (aq (av hX (fI fG af) (pv 5)) (aq (pv 4) (aq (pv 6) (aq (pv 7) ae))))) ae))))
     (a7 (bA (eA PySem.F.plainAttrs_list PySem.F.slot_list_append PySem.F.type_list_append dZ (pv 3) (aq (cW (aq (av hX (fI fG af) (pv 5)) (aq (pv 7) (aq (fI fG (pv 6)) (aq (pv 4) ae))))) ae)))))
    <|a7 (bJ (i:=4) oN.nd rfl (Or.inl rfl) (pv 7))))
   <|a7 (fF (cW (aq (pv 3) (aq (pv 4) ae)))),?_⟩
  refine⟨Zp _,λr cL=>?_⟩;have s0:aa H (upd H r (.lst [])):=(aa.refl H).upd cL;refine⟨_,rfl,?_⟩
  refine⟨_,rfl,l,rfl,⟨_,s0.seq hS⟩,zT (K:=K) (a:=l) (xs:=ns.map V.int) (λi σ H2=>∃(ts:List Addr) (x y z:Option V),σ=[some (.int fi),some (.int st),some (.ref l),some (.ref r),some (.int (bP fi st i)),x,y,z]/\
   ts.length=i/\H2 r=some (.lst (ts.map V.ref))/\(∀j t,ts[j]?=some t->H2 t=some (.tup ((rowAt fi st ns j).map V.int)))/\aa H H2)
   ⟨[],none,none,none,rfl,rfl,ak,(λj t e=>by simp at e),s0⟩ (λi σ H2 _ ⟨_,_,_,_,_,_,_,_,s2⟩=>s2.seq hS) ?_ ?_⟩
  ·rintro i v σ H2 t hi ht ⟨ts,x,y,z,rfl,uv,h2,h3,s2⟩;obtain⟨c,rfl,hc⟩:=gu hi;have mD:i<ns.length:=(ZL.mp hc).1;have ec:ns.getD i 0=c:=by rw[List.getD,hc];rfl
   have c0:c≠0:=nz c (Y6 hc);have mj:upd H2 t (.tup [.int i,.int c]) r=some (.lst (ts.map V.ref)):=by rw[ai (a8 h2 ht)];exact h2
   have nrt:r≠t:=a8 h2 ht;refine⟨t,_,rfl,aZ.of ak,rfl,_,_,rfl,_,_,rfl,rfl,?_⟩;refine⟨_,rfl,_,rfl,_,_,rfl,rfl,?_⟩
   have fin:∀(q:Addr),(upd H2 t (.tup [.int i,.int c])) q=none->∃oh,oh=ts++[q]/\oh.length=i+1/\
     (upd (upd (upd H2 t (.tup [.int i,.int c])) q (.tup ((rowAt fi st ns i).map V.int))) r (.lst (ts.map V.ref++[V.ref q]))) r=some (.lst (oh.map V.ref))/\
     (∀j t',oh[j]?=some t'->(upd (upd (upd H2 t (.tup [.int i,.int c])) q (.tup ((rowAt fi st ns i).map V.int))) r (.lst (ts.map V.ref++[V.ref q]))) t'=some (.tup ((rowAt fi st ns j).map V.int)))/\
     aa H (upd (upd (upd H2 t (.tup [.int i,.int c])) q (.tup ((rowAt fi st ns i).map V.int))) r (.lst (ts.map V.ref++[V.ref q]))):=λq hq=>by
    have nrq:r≠q:=a8 mj hq;refine⟨_,rfl,by simp[uv],by rw[ak,Ze];rfl,λj t' e=>?_,((s2.fM ht).fM hq).upd cL⟩;by_cases hj:j<i
    ·rw[Zs (by omega)]at e;have e3:=h3 j t' e;have n1:t'≠r:=λz=>by rw[z,h2]at e3;cases e3
     have n2:t'≠t:=a8 e3 ht;have n3:t'≠q:=λz=>by rw[z, <-ai (H:=H2) (a:=t) (o:=.tup [.int i,.int c]) (by rw[<-z];exact n2),hq]at e3;cases e3
     rw[ai n1,ai n3,ai n2];exact e3
    ·rw[Zt (by omega)]at e
     have:j=i:=by
      have:=(ZL.mp e).1;simp at this;omega
     subst this;rw[uv,Nat.sub_self]at e;have e':q=t':=by simpa using e
     subst e';rw[ai nrq.symm,ak]
   have len:(ts.map V.ref).length<sizeLine:=bw (by rw[Y1];omega);refine⟨_,rfl,_,_,rfl,rfl,_,rfl,?_⟩;refine bF (λhp=>?_) (λhp=>?_)
   ·have hp:0<c:=of_decide_eq_true hp;refine⟨_,rfl,.inl ⟨rfl,_,ah.of mj⟩,_,rfl,_,rfl,_,_,rfl,rfl,_,rfl,_,rfl,_,rfl,(show 4<=sizeLine by decide),λq hq=>?_⟩;have er:[V.int (-1-(i:Int)),V.int (bP fi st i),V.int c,V.int (fi+i)]=(rowAt fi st ns i).map V.int:=by unfold rowAt;rw[ec,if_pos hp];rfl
    obtain⟨oh,e1,e2,e3,e4,e5⟩:=fin q hq;rw[<-er]at e3 e4 e5;refine⟨r,_,_,rfl,rfl,(by rw[ai (a8 mj hq)];exact mj),len,?_⟩;exact⟨_,rfl,oh,some (.int i),some (.int c),some (.int (fi+i)),by rw[y9];rfl,e2,e3,e4,e5⟩
   ·have hp:¬0<c:=λz=>hp (ZN z);refine⟨_,rfl,.inl ⟨rfl,_,ah.of mj⟩,_,rfl,_,rfl,_,_,rfl,rfl,_,rfl,_,rfl,_,rfl,_,rfl,(show 4<=sizeLine by decide),λq hq=>?_⟩;have er:[V.int (-1-(i:Int)),V.int (fi+i),V.int (-c),V.int (bP fi st i)]=(rowAt fi st ns i).map V.int:=by unfold rowAt;rw[ec,if_neg hp];rfl
    obtain⟨oh,e1,e2,e3,e4,e5⟩:=fin q hq;rw[<-er]at e3 e4 e5;refine⟨r,_,_,rfl,rfl,(by rw[ai (a8 mj hq)];exact mj),len,?_⟩;exact⟨_,rfl,oh,some (.int i),some (.int c),some (.int (fi+i)),by rw[y9];rfl,e2,e3,e4,e5⟩
  ·rintro σ H2 ⟨ts,x,y,z,rfl,uv,h2,h3,s2⟩;rw[Y1]at uv⊢;refine⟨_,rfl,_,rfl,(show 2<=sizeLine by decide),λp hp=>?_⟩;exact k p r ts _ (s2.free hp) cL ak (by rw[ai (a8 h2 hp)];exact h2) uv (λj t e=>by rw[ai (a8 (h3 j t e) hp)];exact h3 j t e) (s2.fM hp)
def uM:aM ["kinds","way","letter"] ["kinds","way"] (aF uN):=aN
def aaB{f cK:Addr}{fd:FuncData}(F:aI K "check_letters" "check_letters" uN f fd)(Ah:mg "NoKind"=some (.ref cK))(Ai:eM K cK=true)(T:Txt K mg):az P w K mg base (bV P w) 1 f fd ["kinds","way"] (MD cK):=by
 refine F.gm uM (λvs H Q E h=>?_) (λau A outer s H vs Q E hr h=>?_)
 ·obtain⟨k,wa,ws,rfl,_⟩:=h
  rfl
 ·obtain⟨k,wa,ws,rfl,hw,q,qe⟩:=h;refine⟨_,(@sO _ _ _ (bN (Ib rfl rfl) rfl (bH (pv 1)) (aO (i:=2) uM.nd rfl (Or.inl rfl)) (@sO _ _ _ (aR (PW.pt (fW (aJ bZ (pv 2) af (aG _)) (gv (aJ gQ (bq Jf (by rfl) T.abs Mj (@aC _ _ _ _ _ (pv 2) ae (by rfl))) (pv 0) (aG _))))) (@sO _ _ _ (ky rfl rfl Ah Ai (aq fT ae))) aU)))),?_⟩;refine⟨_,rfl,wa,rfl,⟨_,ah.of hw⟩,cS (K:=K) (a:=wa) (xs:=ws.map V.int) (λi σ H2=>(∃x,σ=[some (.int k),some (.ref wa),x])/\H2=H/\∀l∈ws.take i,Let k l) ⟨⟨none,rfl⟩,rfl,by simp⟩ (λi σ H2 _ ⟨_,e,_⟩=>by rw[e];exact ah.of hw) ?_ ?_⟩
  ·rintro i x σ H2 hi ⟨⟨y,rfl⟩,rfl,hl⟩;obtain⟨l,rfl,el⟩:=gu hi;have bT:i<ws.length:=(ZL.mp el).1;have ei:ws[i]=l:=(ZL.mp el).2;refine⟨_,rfl,rfl,_,rfl,bF (λz=>?_) λz=>⟨_,rfl,_,rfl,_,rfl,_,_,rfl,rfl,_,rfl,bF (λy=>?_) λy=>?_⟩⟩
   ·have z:=V.int.inj (of_decide_eq_true z);exact⟨by decide,qe λh=>(h l (Y6 el)).1 z⟩
   ·have y:=of_decide_eq_true y;exact⟨by decide,qe λh=>by have:=h l (Y6 el);obtain⟨_,a,b⟩:=this;split at y<;>omega⟩
   ·have z:¬l=0:=λw=>z (ZN (by rw[w]));have y:¬_:=λw=>y (ZN w);refine⟨⟨_,rfl⟩,rfl,λl' c9=>?_⟩;rw[Zj bT,ei]at c9;rcases Y7.mp c9 with e|e
    ·exact hl l' e
    ·rw[Y2.mp e];refine⟨z,?_,?_⟩<;>(split at y<;>omega)
  ·rintro σ H2 ⟨⟨y,rfl⟩,rfl,hl⟩;rw[Y1,List.take_length]at hl;exact q hl
def Tr:aM ["entries"] ["entries"] (aF zH):=aN
def U7{f C:Addr}{fd:FuncData}(F:aI K "rows_of" "rows_of" zH f fd)(aB:eP K mg C):az P w K mg base aL 1 f fd ["entries"] oG:=by
 obtain⟨_,kO⟩:=aB.row;refine F.ok Tr (λvs H Q E h=>?_) (λau A outer s H vs Q E hr h=>?_)
 ·obtain⟨l,fp,es,rfl,_⟩:=h
  rfl
 ·obtain⟨l,fp,es,rfl,he,hl,q⟩:=h;obtain⟨ps,h1,h2,h3,h4,h5⟩:=he.ob;have lp:ps.length=es.length:=by rw[<-h3,Y1]
  refine⟨_,(@sO _ _ _ (@sR _ _ _ _ (HX [] [] (bH (pv 0)) (λC s H fp=>aJ bZ (ax (show gd _ (dM (gD K))from bI) (pv 0) af (λ_ _=>rfl)) (jk (v:=.str "row") rfl kO ⟨_,rfl⟩) (aG _)) (λC s H fp=>cW (aq (ax (show gd _ (dM (gD K))from bI) (pv 0) af (λ_ _=>rfl)) (aq (ax (show gd _ (dM (gD K))from bI) (pv 0) af (λ_ _=>rfl)) (aq (ax (show gd _ (dM (gD K))from bI) (pv 0) af (λ_ _=>rfl)) (aq (ax (show gd _ (dM (gD K))from bI) (pv 0) af (λ_ _=>rfl)) ae))))) oI))),?_⟩;refine⟨_,rfl,l,rfl,⟨_,ah.of h1⟩,za (xs:=ps.map λp=>V.ref p.1) λD hD=>⟨λi ys H2=>∃qs:Ps,ys=(qs.map λp=>V.ref p.1)/\qs.length<=i/\Tl H2 D qs/\qs.map (·.2)=rowsOf ((ps.take i).map (·.2))/\aa H H2,⟨[],rfl,Y3 _,⟨ak,(λ_ z=>nomatch z)⟩,rfl,(aa.refl H).upd hD⟩,?_,?_,?_⟩⟩
  ·rintro i ys H2 hi ⟨qs,rfl,ql,tl,_,s2⟩;rw[Y1]at hi;exact⟨s2.seq (ah.of h1),tl.is,bw (by rw[Y1];omega)⟩
  ·rintro i x ys H2 hi ⟨qs,rfl,ql,tl,er,s2⟩ Q1 Q0 q1 q0;rw[Zf]at hi;cases ei:ps[i]? with
   |none=>rw[ei]at hi;cases hi
   |some p=>
    rw[ei]at hi;cases hi;obtain⟨bT,nX⟩:=ZL.mp ei;have hp:=s2 _ _ (h2 p (Y6 ei));have et:(ps.take (i+1)).map (·.2)=(ps.take i).map (·.2)++[p.2]:=by rw[Zj bT,nX,Ze];rfl
    obtain⟨pa,pe⟩:=p;cases pe with
    |row j a k b=>
     refine⟨_,rfl,cT hp rfl ⟨rfl,_,rfl,kI (by decide+kernel) ?_⟩⟩;refine⟨_,rfl,cT hp rfl ⟨_,rfl,cT hp rfl ⟨_,rfl,cT hp rfl ⟨_,rfl,cT hp rfl ⟨by show 4<=sizeLine;decide,λt ht=>?_⟩⟩⟩⟩⟩;have nD:D≠t:=a8 tl.is ht;refine q1 _ _ (by rw[ai nD];exact tl.is) ⟨qs++[(t,[j,a,k,b])],by rw[Ze];rfl,by simp;omega,?_,?_,(s2.fM ht).upd hD⟩
     ·refine⟨by rw[ak,Ze];rfl,λp kW=>?_⟩;rcases Y7.mp kW with e|e
      ·have:=tl.tp p e;have n1:p.1≠D:=λz=>by rw[z,tl.is]at this;cases this
       rw[ai n1,ai (a8 this ht)];exact this
      ·obtain rfl:=Y2.mp e;show upd _ D _ t=_;rw[ai nD.symm,ak];rfl
     ·rw[et,qa,Ze,er];rfl
    |ap j a b=>
     refine⟨_,rfl,cT hp rfl ⟨rfl,_,rfl,cm (by decide+kernel) ?_⟩⟩;refine q0 _ ⟨qs,rfl,by omega,tl,?_,s2⟩;rw[et,qa,er];exact(ZX _).symm
  ·rintro ys H2 ⟨qs,rfl,ql,tl,er,s2⟩;rw[Y1,ZE (Y3 _),h3]at er;exact q D qs H2 hD tl er s2
def F9:aM ["entries","labels","entry"] ["entries","labels"] (aF yH):=aN
def ab4{f C:Addr}{fd:FuncData}(F:aI K "broken_oath" "broken_oath" yH f fd)(aB:eP K mg C):az P w K mg base aL 1 f fd ["entries","labels"] BH:=by
 obtain⟨_,Du⟩:=aB.ap;refine F.ok F9 (λvs H Q E h=>?_) (λau A outer s H vs Q E hr h=>?_)
 ·obtain⟨l,ll,fp,es,ls,k,rfl,_⟩:=h
  rfl
 ·obtain⟨l,ll,fp,es,ls,k,rfl,he,k8,ao,q⟩:=h;obtain⟨ps,h1,h2,h3,h4,h5⟩:=he.ob
  refine⟨_,(@sC _ _ _ _ _ (bN Zm rfl (bH (pv 0)) (aO (i:=2) F9.nd rfl (Or.inl rfl)) (@sO _ _ _ (aR (PW.pt (kF (aJ bZ (ax bI (pv 2) af (λ_ _=>rfl)) (jk (v:=.str "apart") rfl Du ⟨_,rfl⟩) (aG _)) (kA (aJ bZ (ax aK (pv 1) (ax bI (pv 2) af (λ_ _=>rfl)) (λ_ _=>rfl)) (ax aK (pv 1) (ax bI (pv 2) af (λ_ _=>rfl)) (λ_ _=>rfl)) (aG _))))) (@sO _ _ _ (@sR _ _ _ _ (ax bI (pv 2) af (λ_ _=>rfl)))) aU)))
   (@sO _ _ _ (@sR _ _ _ _ cU))),?_⟩
  refine⟨_,rfl,l,rfl,⟨_,ah.of h1⟩,cS (K:=K) (a:=l) (xs:=ps.map λp=>V.ref p.1) (λi σ H2=>(∃x,σ=[some (.ref l),some (.ref ll),x])/\H2=H/\cX es ls=cX ((ps.drop i).map (·.2)) ls) ⟨⟨none,rfl⟩,rfl,by rw[List.drop_zero,h3]⟩ (λi σ H2 _ ⟨_,e,_⟩=>by rw[e];exact ah.of h1) ?_ ?_⟩
  ·rintro i x σ H2 hi ⟨⟨y,rfl⟩,rfl,eb⟩;rw[Zf]at hi;cases ei:ps[i]? with
   |none=>rw[ei]at hi;cases hi
   |some p=>
    rw[ei]at hi;cases hi;obtain⟨bT,nX⟩:=ZL.mp ei;have mp:=Y6 ei;have hp:=h2 p mp;have ok:=ao p.2 (h3▸Zh.mpr ⟨p,mp,rfl⟩);rw[List.drop_eq_getElem_cons bT,nX,Zr]at eb;obtain⟨pa,pe⟩:=p;cases pe with
    |row j a k b=>
     refine⟨_,rfl,cT hp rfl ⟨rfl,_,rfl,cm (by decide+kernel) ⟨⟨_,rfl⟩,rfl,eb⟩⟩⟩
    |ap j a b=>
     obtain⟨⟨a0,a1⟩,⟨b0,b1⟩⟩:=ok;refine⟨_,rfl,cT hp rfl ⟨rfl,_,rfl,kI (by decide+kernel) ?_⟩⟩;refine⟨_,rfl,_,rfl,cT hp rfl (aT a.toNat k8 (by omega) ⟨_,rfl,_,rfl,cT hp rfl (aT b.toNat k8 (by omega) ⟨rfl,_,rfl,?_⟩ (by omega))⟩ (by omega))⟩
     have eb:cX es ls=if ls.getD a.toNat 0=ls.getD b.toNat 0 then some j else cX ((ps.drop (i+1)).map (·.2)) ls:=by
      rw[eb];exact zB ..
     by_cases z:ls.getD a.toNat 0=ls.getD b.toNat 0
     ·rw[if_pos z]at eb;rw[eb]at q;exact kI (ZN (by rw[z])) ⟨_,rfl,cT hp rfl q⟩
     ·rw[if_neg z]at eb;exact cm (ZO λy=>z (V.int.inj y)) ⟨⟨_,rfl⟩,rfl,eb⟩
  ·rintro σ H2 ⟨⟨y,rfl⟩,rfl,eb⟩;rw[Y1,List.drop_length]at eb;rw[eb]at q;exact q
def QY:aM ["self"] ["self"] (aF yn):=aN
def U8{f C cF:Addr}{fd:FuncData}(F:aI K "chalk" "Survey.chalk" yn f fd)(Bp:mg "Full"=some (.ref cF))(Bq:eM K cF=true)(aB:eP K mg C):az P w K mg base (bV P w) 1 f fd ["self"] (JD C cF):=by
 obtain⟨_,h24⟩:=aB.xj;refine F.gm QY (λvs H Q E h=>?_) (λau A outer s H vs Q E hr h=>?_)
 ·obtain⟨g,lh,B,rest,rfl,_⟩:=h
  rfl
 ·obtain⟨g,lh,B,rest,rfl,hB,q,qe⟩:=h;obtain⟨dx,ls,hg,he⟩:=id hB.ob
  refine⟨_,(@sC _ _ _ _ _ (aR (aJ qB (aS (pv 0) rfl) (jk (v:=.int 24) rfl h24 ⟨_,rfl⟩) (aG _)) (@sO _ _ _ (ky rfl rfl Bp Bq (aq fT ae))) aU)
   (@sC _ _ _ _ _ (Ht (pv 0) af LZ)
   (@sO _ _ _ (@sR _ _ _ _ (av hX (aS (pv 0) rfl) af))))),?_⟩
  refine⟨_,rfl,g,C,dx,_,_,rfl,hg,aB.cl,aB.nn,jX ..,_,_,rfl,rfl,_,rfl,bF (λz=>⟨by decide,qe (by have:=of_decide_eq_true z;omega)⟩) λz=>?_⟩;have z:¬_:=λy=>z (ZN y);have lt:B.n<24:=by omega
  refine⟨_,rfl,g,C,dx,_,_,rfl,hg,aB.cl,aB.nn,jX ..,_,_,rfl,rfl,dx,_,hg,(by show 5<1000;decide),?_⟩;rw[show(B.n:Int)+1=((B.n+1:Nat):Int)from rfl,Nq];have k9:=hB.fld (B':={B with n:=B.n+1}) hg he rfl rfl lt hB.cJ λe h=>(hB.ok e h).mono (Nat.le_succ _);refine⟨_,rfl,g,C,dx,_,_,rfl,ak,aB.cl,aB.nn,jX ..,_,_,rfl,rfl,?_⟩;show Q (V.int (((B.n+1:Nat):Int)-1)) _;rw[show((B.n+1:Nat):Int)-1=(B.n:Int)by omega];exact q lt _ k9 λc o e nc=>by rw[ai nc];exact e
def FG:aM ["self","a","b","mark"] ["self","a","b"] (aF xW):=aN
def aaC{f C cM:Addr}{fd:FuncData}(F:aI K "check_marks" "Survey.check_marks" xW f fd)(Xq:mg "NoMark"=some (.ref cM))(Xr:eM K cM=true)(aB:eP K mg C):az P w K mg base (bV P w) 1 f fd ["self","a","b"] (sT C cM):=by
 refine F.gm FG (λvs H Q E h=>?_) (λau A outer s H vs Q E hr h=>?_)
 ·obtain⟨g,lh,B,rest,a,b,rfl,_⟩:=h
  rfl
 ·obtain⟨g,lh,B,rest,a,b,rfl,hB,q,qe⟩:=h;obtain⟨dx,ls,hg,he⟩:=id hB.ob;refine⟨_,(@sO _ _ _ (bN (Ib rfl rfl) rfl (AY (cW (@aC _ _ _ _ _ (pv 1) (@aC _ _ _ _ _ (pv 2) ae (by rfl)) (by rfl)))) (aO (i:=3) FG.nd rfl (Or.inl rfl)) (@sO _ _ _ (aR (PW.pt (fW (aJ ij (pv 3) af (aG _)) (gv (aJ qB (pv 3) (aS (pv 0) rfl) (aG _))))) (@sO _ _ _ (ky rfl rfl Xq Xr (aq fT ae))) aU)))),?_⟩;refine⟨_,rfl,_,rfl,by show 2<=sizeLine;decide,λt ht=>?_⟩;have s1:aa H (upd H t (.tup [.int a,.int b])):=(aa.refl H).upd ht;have h1:upd H t (.tup [.int a,.int b]) t=some (.tup [.int a,.int b]):=ak;generalize upd H t (.tup [.int a,.int b])=H1 at s1 h1;have dW:=s1 _ _ hg;refine⟨t,rfl,⟨_,aZ.of h1⟩,Kc (K:=K) (a:=t) (xs:=[.int a,.int b]) (λi σ H2=>(∃x,σ=[some (.ref g),some (.int a),some (.int b),x])/\H2=H1/\(1<=i->aE B.n a)/\(2<=i->aE B.n b)) ⟨⟨none,rfl⟩,rfl,(λz=>by omega),(λz=>by omega)⟩ (λi σ H2 _ ⟨_,e,_⟩=>by rw[e];exact aZ.of h1) ?_ ?_⟩
  ·rintro i x σ H2 hi ⟨⟨y,rfl⟩,rfl,i1,i2⟩
   obtain⟨m,rfl,Pn,aeb⟩:∃m:Int,x=V.int m/\(¬aE B.n m->¬(aE B.n a/\aE B.n b))/\(aE B.n m->(1<=i+1->aE B.n a)/\(2<=i+1->aE B.n b)):=by
    match i,hi with
    |0,hi=>exact⟨a,(Zg hi).symm,(λh z=>h z.1),λh=>⟨λ_=>h,λz=>by omega⟩⟩
    |1,hi=>exact⟨b,(Zg hi).symm,(λh z=>h z.2),λh=>⟨λ_=>i1 (by omega),λ_=>h⟩⟩
   refine⟨_,rfl,_,_,rfl,rfl,_,rfl,bF (λz=>⟨by decide,qe (Pn λy=>by have:=of_decide_eq_true z;have:=y.1;omega) _ s1⟩) λz=>⟨_,rfl,_,rfl,g,C,dx,_,_,rfl,dW,aB.cl,aB.nn,jX ..,_,_,rfl,rfl,_,rfl,bF (λy=>⟨by decide,qe (Pn λw=>by have:=of_decide_eq_true y;have:=w.2;omega) _ s1⟩) λy=>?_⟩⟩;have z:¬_:=λw=>z (ZN w);have y:¬_:=λw=>y (ZN w);exact⟨⟨_,rfl⟩,rfl,aeb ⟨by omega,by omega⟩⟩
  ·rintro σ H2 ⟨⟨y,rfl⟩,rfl,i1,i2⟩;exact q ⟨i1 (by show 1<=2;decide),i2 (by show 2<=2;decide)⟩ _ s1
def QF:aM ["self"] ["self"] (aF xY):=aN
def aaD{f C cF:Addr}{fd:FuncData}(F:aI K "check_room" "Survey.check_room" xY f fd)(Bp:mg "Full"=some (.ref cF))(Bq:eM K cF=true)(T:Txt K mg)(aB:eP K mg C):az P w K mg base (bV P w) 1 f fd ["self"] (Bh C cF):=by
 obtain⟨_,h40⟩:=aB.m40;refine F.gm QF (λvs H Q E h=>?_) (λau A outer s H vs Q E hr h=>?_)
 ·obtain⟨g,lh,B,rest,rfl,_⟩:=h
  rfl
 ·obtain⟨g,lh,B,rest,rfl,hB,q,qe⟩:=h;obtain⟨dx,ls,hg,he⟩:=id hB.ob;obtain⟨ps,h1,h2,h3,h4,h5⟩:=he.ob;have lp:((ps.map λp=>V.ref p.1).length:Int)=B.es.length:=by rw[Y1, <-h3,Y1]
  refine⟨_,(@sO _ _ _ (aR (aJ qB (bq cO (by rfl) T.len PySem.boot_len (@aC _ _ _ _ _ (aS (pv 0) rfl) ae (by rfl))) (jk (v:=.int 40) rfl h40 ⟨_,rfl⟩) (aG _)) (@sO _ _ _ (ky rfl rfl Bp Bq (aq fT ae))) aU)),?_⟩;refine⟨_,rfl,g,C,dx,_,_,rfl,hg,aB.cl,aB.ns,jy ..,ls,_,rfl,.inl (ah.of h1),_,_,rfl,rfl,_,rfl,?_⟩;refine bF (λz=>⟨by decide,qe (by have:=of_decide_eq_true z;rw[lp]at this;omega)⟩) λz=>?_;have z:¬_:=λy=>z (ZN y);exact q (by rw[lp]at z;omega)
def FU:aM ["self","told","number"] ["self","told"] (aF yu):=aN
def Xs{f C:Addr}{fd:FuncData}(F:aI K "enter" "Survey.enter" yu f fd)(aB:eP K mg C):az P w K mg base aL 1 f fd ["self","told"] (AD C):=by
 refine F.ok FU (λvs H Q E h=>?_) (λau A outer s H vs Q E hr h=>?_)
 ·obtain⟨g,lh,B,rest,t,e,rfl,_⟩:=h
  rfl
 ·obtain⟨g,lh,B,rest,t,e,rfl,hB,ht,mH,cJ,q⟩:=h;obtain⟨dx,ls,hg,he⟩:=id hB.ob;obtain⟨ps,h1,h2,h3,h4,h5⟩:=id he.ob;have lp:ps.length=B.es.length:=by rw[<-h3,Y1]
  refine⟨_,(@sC _ _ _ _ _ (@sS _ 2 _ _ _ _ _ FU.nd rfl (Or.inl rfl) (aS (pv 0) rfl) (by rfl) (.inl rfl))
   (@sC _ _ _ _ _ (fU (pv 0) (av gM (aS (pv 0) rfl) (@eL _ _ _ _ (@aC _ _ _ _ _ (av Kh (cW (aq (pv 2) ae)) (pv 1)) ae (by rfl)))) rfl)
   (@sC _ _ _ _ _ (Ht (pv 0) af LZ)
   (@sO _ _ _ (@sR _ _ _ _ (pv 2)))))),?_⟩
  refine⟨_,rfl,g,C,dx,_,_,rfl,hg,aB.cl,aB.nc,wD ..,?_⟩;refine⟨_,rfl,g,C,dx,_,_,rfl,hg,aB.cl,aB.ns,jy ..,_,rfl,by show 1<=sizeLine;decide,λp1 uw=>?_⟩;have s1:aa H (upd H p1 (.tup [.int B.c])):=(aa.refl H).upd uw;have i1:upd H p1 (.tup [.int B.c]) p1=some (.tup [.int B.c]):=ak;generalize upd H p1 (.tup [.int B.c])=H1 at s1 i1
  have tl:1+e.told.length<=sizeLine/\e.told≠[]:=by
   cases e with
   |row=>exact⟨by show 1+4<=sizeLine;decide,(λz=>nomatch z)⟩
   |ap=>exact⟨by show 1+3<=sizeLine;decide,(λz=>nomatch z)⟩
  refine⟨_,rfl,p1,t,_,_,rfl,rfl,aZ.of i1,aZ.of (s1 _ _ ht),(λz=>nomatch z),tl.1,λz=>absurd z tl.2,λ_ p2 jB=>?_⟩;have ev:[V.int B.c]++e.told=(e.re B.c).vs:=by cases e<;>rfl
  rw[ev];have s2:aa H1 (upd H1 p2 (.tup (e.re B.c).vs)):=(aa.refl H1).upd jB;have i2:upd H1 p2 (.tup (e.re B.c).vs) p2=some (.tup (e.re B.c).vs):=ak;generalize upd H1 p2 (.tup (e.re B.c).vs)=H2 at s2 i2;refine jq (by show 1<=1000;decide) λp3 H3 Po i3 s3=>?_;have dc:=s1.trans (s2.trans s3);refine AB (dc _ _ h1) i3 (by rw[Y1,lp];show B.es.length+1<=_;omega) λp4 H4 xt i4 s4=>?_;have fS:=dc.trans s4;have n4:H p4=none:=dc.free xt;have n2:H p2=none:=s1.free jB;have g2:p2≠g:=λz=>by rw[z,hg]at n2;cases n2
  have g4:p4≠g:=λz=>by rw[z,hg]at n4;cases n4
  have l2:p2≠lh:=λz=>hB.lg.1 (z▸n2);have l4:p4≠lh:=λz=>hB.lg.1 (z▸n4);have sub:∀a∈rest,a∈p4::p2::rest:=λa ha=>Y4 _ (Y4 _ ha)
  have xu:lh∉p4::p2::rest:=λz=>by
   rcases Y5.mp z with z|z
   ·exact l4 z.symm
   rcases Y5.mp z with z|z
   ·exact l2 z.symm
   ·exact hB.nl z
  have ng':g∉p4::p2::rest:=λz=>by
   rcases Y5.mp z with z|z
   ·exact g4 z.symm
   rcases Y5.mp z with z|z
   ·exact g2 z.symm
   ·exact hB.ng z
  have lv':∀a∈p4::p2::rest,∃o,H4 a=some o:=λa ha=>by
   rcases Y5.mp ha with z|z
   ·exact⟨_,z▸i4⟩
   rcases Y5.mp z with z|z
   ·exact⟨_,z▸s4 _ _ (s3 _ _ i2)⟩
   ·obtain⟨o,e⟩:=hB.lv a z;exact⟨o,fS _ _ e⟩
  have eF:=(hB.same fS).more sub xu ng' lv';have rA:=fS _ _ hg
  have Dv:El H4 (p4::p2::rest) p4 (B.add e).es:=by
   refine⟨ps++[(p2,e.re B.c)],by rw[Ze];exact i4,λp hp=>?_,by rw[Ze,h3];rfl,Y9 ..,λp hp=>?_⟩
   ·rcases Y7.mp hp with z|z
    ·exact fS _ _ (h2 p z)
    ·rw[Y2.mp z];exact s4 _ _ (s3 _ _ i2)
   ·rcases Y7.mp hp with z|z
    ·exact sub _ (h5 p z)
    ·rw[Y2.mp z];exact Y4 _ (Y9 ..)
  have lad:(B.add e).es.length<=40:=by show(B.es++[e.re B.c]).length<=40;simp;omega
  have oka:∀x∈(B.add e).es,g5 (B.add e).k (B.add e).n x:=λx hx=>by
   rcases Y7.mp (show x∈B.es++[e.re B.c]from hx)with z|z
   ·exact hB.ok x z
   ·rw[Y2.mp z];cases e<;>exact mH
  refine⟨_,rfl,g,C,dx,_,rfl,rA,aB.cl,aB.ns,(by show 5<1000;decide),?_⟩;rw[BF];refine⟨_,rfl,g,C,dx,_,_,rfl,ak,aB.cl,aB.nc,wD ..,_,_,rfl,rfl,dx,_,ak,(by show 5<1000;decide),?_⟩;rw[Nr,lH];have jG:=eF.fld (B':=B.add e) rA Dv rfl rfl hB.c8 lad oka;refine⟨_,rfl,q _ _ jG (λx hx=>?_) λc o e' nc=>by rw[ai nc];exact fS _ _ e'⟩;rcases Y5.mp hx with z|z
  ·rw[z];exact .inr n4
  rcases Y5.mp z with z|z
  ·rw[z];exact .inr n2
  ·exact .inl z
def yx:aM ["self","a","way","b","rows","end"] ["self","a","way","b"] (aF yG):=aN
def Xt{f C cM cK:Addr}{fd:FuncData}(F:aI K "laid" "Survey.laid" yG f fd)(aB:eP K mg C)(CM:b3 P w K mg base C "check_marks" ["self","a","b"] 1 (sT C cM))(CL:qZ P w K mg base "check_letters" ["kinds","way"] 1 (MD cK))
  (TRL:aW P w K mg base "trail" ["first","a","way"] 1 (KJ K))(RW:aW P w K mg base "rows_of" ["entries"] 1 oG):az P w K mg base (bV P w) 2 f fd ["self","a","way","b"] (AE C cM cK):=by
 refine F.gm yx (λvs H Q E h=>?_) (λau A outer s H vs Q E hr h=>?_)
 ·obtain⟨g,lh,B,rest,a,b,wa,ws,rfl,_⟩:=h
  rfl
 ·obtain⟨g,lh,B,rest,a,b,wa,ws,rfl,hB,hw,wl,q,qm,qk⟩:=h;obtain⟨dx,ls,hg,he⟩:=id hB.ob
  refine⟨_,(@sC _ _ _ _ _ (bA (CM.pe hr (pv 0) (@aC _ _ _ _ _ (pv 1) (@aC _ _ _ _ _ (pv 3) ae (by rfl)) (by rfl))))
   (@sC _ _ _ _ _ (bA (CL.pe hr (@aC _ _ _ _ _ (aS (pv 0) rfl) (@aC _ _ _ _ _ (pv 2) ae (by rfl)) (by rfl))))
   (@sC _ _ _ _ _ (gy (TRL.pe hr (@aC _ _ _ _ _ (aS (pv 0) rfl) (@aC _ _ _ _ _ (pv 1) (@aC _ _ _ _ _ (pv 2) ae (by rfl)) (by rfl)) (by rfl))) (eJ rfl (bt (aO (i:=4) yx.nd rfl (Or.inl rfl)) (bt (aO (i:=5) yx.nd rfl (Or.inl rfl)) eG))))
   (@sO _ _ _ (@sR _ _ _ _ (cW (@aC _ _ _ _ _ (av gM (RW.pe hr (@aC _ _ _ _ _ (aS (pv 0) rfl) ae (by rfl))) (pv 4)) (@aC _ _ _ _ _ (pv 5) ae (by rfl)) (by rfl)))))))),?_⟩
  refine⟨_,rfl,g,dx,_,rfl,hg,rfl,_,rfl,_,rfl,g,lh,B,rest,a,b,rfl,hB,λhm H1 s1=>?_,qm⟩;refine⟨_,rfl,g,C,dx,_,_,rfl,s1 _ _ hg,aB.cl,aB.nk,Cp ..,_,rfl,B.k,wa,ws,rfl,s1.ints hw,λhl=>?_,λhl=>qk hm hl H1 s1⟩;refine⟨_,rfl,g,C,dx,_,_,rfl,s1 _ _ hg,aB.cl,aB.nn,jX ..,_,rfl,_,rfl,(B.n:Int),a,wa,ws,rfl,ah.of (s1.ints hw),by omega,(λl c9=>(hl l c9).1),λp r ts H2 hp eE ip ir lts ht s2=>?_⟩;obtain⟨Pp,t2,e2⟩:=W8 ir lts ht;refine⟨p,_,rfl,aZ.of ip,rfl,_,_,rfl,_,_,rfl,rfl,?_⟩;have bD:=s1.trans s2;refine⟨_,rfl,g,C,dx,_,_,rfl,bD _ _ hg,aB.cl,aB.ns,jy ..,ls,rest,B.es,rfl,he.same bD,by have:=hB.cJ;omega,λr1 oj H3 Pq t1 e1 s3=>?_⟩;have l1:=mV e1;have l2:=mV e2;have:=oA B.es;have:=hB.cJ;rw[rR]at l2;refine⟨_,rfl,AB t1.is (s3 _ _ t2.is) (by rw[Y1,Y1];omega) λr4 H4 hr4 i4 s4=>?_⟩;have t4:Tl H4 r4 (oj++Pp):=Tl.cat t1 (t2.same s3) s4 i4;refine⟨_,rfl,by show 2<=sizeLine;decide,λt pE=>?_⟩;have s5:aa H4 (upd H4 t (.tup [.ref r4,.int (bP B.n a ws.length)])):=(aa.refl H4).upd pE;exact q hm hl t r4 (oj++Pp) _ ak (t4.same s5) (by rw[Ze,e1,e2]) (bD.trans (s3.trans (s4.trans s5)))
def rM:aM ["self","a","way","b","rows","end","labels","paper"] ["self","a","way","b"] (aF xX):=aN
def Xu{f C cM cK:Addr}{fd:FuncData}(F:aI K "must_paper" "Survey.must_paper" xX f fd)(T:Txt K mg)(aB:eP K mg C)(Dw:b3 P w K mg base C "laid" ["self","a","way","b"] 2 (AE C cM cK))(FO:aW P w K mg base "folded" ["marks","rows","start"] 6 sE):
  az P w K mg base (bV P w) 7 f fd ["self","a","way","b"] (AF C cM cK):=by
 refine F.gm rM (λvs H Q E h=>?_) (λau A outer s H vs Q E hr h=>?_)
 ·obtain⟨g,lh,B,rest,a,b,wa,ws,rfl,_⟩:=h
  rfl
 ·obtain⟨g,lh,B,rest,a,b,wa,ws,rfl,hB,hw,wl,q,q0,qm,qk⟩:=h;obtain⟨dx,ls,hg,he⟩:=id hB.ob;have c8:=hB.c8
  refine⟨_,(@sC _ _ _ _ _ (gy (Dw.pe hr (pv 0) (@aC _ _ _ _ _ (pv 1) (@aC _ _ _ _ _ (pv 2) (@aC _ _ _ _ _ (pv 3) ae (by rfl)) (by rfl)) (by rfl))) (eJ rfl (bt (aO (i:=4) rM.nd rfl (Or.inl rfl)) (bt (aO (i:=5) rM.nd rfl (Or.inl rfl)) eG))))
   (@sC _ _ _ _ _ (gy (FO.pe hr (@aC _ _ _ _ _ (av cV (aS (pv 0) rfl) (bq cO (by rfl) T.len PySem.boot_len (@aC _ _ _ _ _ (pv 2) ae (by rfl)))) (@aC _ _ _ _ _ (pv 4) (@aC _ _ _ _ _ (eI ae) ae (by rfl)) (by rfl)) (by rfl))) (eJ rfl (bt (aO (i:=6) rM.nd rfl (Or.inl rfl)) (bt (aO (i:=7) rM.nd rfl (Or.inl rfl)) eG))))
   (@sC _ _ _ _ _ (aR (aJ ny (ax aK (pv 6) (pv 5) (λ_ _=>rfl)) (ax aK (pv 6) (pv 3) (λ_ _=>rfl)) (aG _)) (@sO _ _ _ (@sR _ _ _ _ cU)) aU)
   (@sO _ _ _ (@sR _ _ _ _ (pv 7)))))),?_⟩
  refine⟨_,rfl,g,dx,_,rfl,hg,rfl,_,rfl,_,rfl,_,rfl,g,lh,B,rest,a,b,wa,ws,rfl,hB,hw,wl,λhm hl t r ps H1 ht tr er s1=>?_,qm,qk⟩;refine⟨t,_,rfl,aZ.of ht,rfl,_,_,rfl,_,_,rfl,rfl,?_⟩;refine⟨_,rfl,g,C,dx,_,_,rfl,s1 _ _ hg,aB.cl,aB.nn,jX ..,_,rfl,wa,_,rfl,.inl (ah.of (s1.ints hw)),_,_,rfl,rfl,_,rfl,jq (by show 0<=1000;decide) λl0 H2 om i0 s2=>?_⟩;have t2:=tr.same s2;have en:((B.n:Int)+((ws.map V.int).length:Int))=((B.n+ws.length:Nat):Int):=by rw[Y1];rfl
  have kX:∀r∈rowsOf B.es++eu B.n a ws,cC (B.n+ws.length) r/\1<=r.getD 2 0/\r.getD 2 0<=5:=λr eE=>by
   rcases Y7.mp eE with z|z
   ·exact kq hB.k5 (λe h=>(hB.ok e h).mono (Nat.le_add_right _ _)) r z
   ·exact zC hm.1 hB.k5 hl r z
  have fR:=mV er;have:=oA B.es;have:=hB.cJ;rw[Zo,rR]at fR;refine⟨B.n+ws.length,r,l0,ps,[],by show [V.int ((B.n:Int)+((ws.map V.int).length:Int)),_,_]=_;rw[en],t2,⟨i0,(λ_ z=>nomatch z)⟩,qo er kX,(λ_ z=>nomatch z),by omega,by omega,by simp,λt3 l1 l2 sp l H3 h3 i3 tl3 fL hp mF _ f2 s3=>?_⟩;rw[er]at fL;have el:l=B.jY a ws:=fL.eq;have ll:l.length=B.n+ws.length:=fL.1.aD.len;refine⟨t3,_,rfl,aZ.of h3,rfl,_,_,rfl,_,_,rfl,rfl,?_⟩;obtain⟨e0,e1⟩:=uZ hm.1 ws.length ws.length (Y3 _);obtain⟨b0,b1⟩:=hm.2;refine⟨_,rfl,_,rfl,aT (bP B.n a ws.length).toNat i3 (by omega) ⟨_,rfl,_,rfl,aT b.toNat i3 (by omega) ⟨rfl,_,rfl,?_⟩ (by omega)⟩ (by omega)⟩;have dc:=s1.trans (s2.trans s3);by_cases z:l.getD (bP B.n a ws.length).toNat 0=l.getD b.toNat 0
  ·refine cm (by rw[z];simp) ⟨_,rfl,?_⟩;rw[el]at z;refine q hm hl z l2 sp ps H3 tl3 er (λu=>?_) mF ((s1.trans s2).free f2) dc;have:=hp u;rw[el]at this;exact this
  ·refine kI (by rw[ZO (λy=>z (V.int.inj y))];rfl) ?_;rw[el]at z;exact q0 hm hl z H3 dc
def QZ:aM ["self","a","b"] ["self","a","b"] (aF yq):=aN
def aaE{f C cM cK:Addr}{fd:FuncData}(F:aI K "paper" "Survey.paper" yq f fd)(MP:b3 P w K mg base C "must_paper" ["self","a","way","b"] 7 (AF C cM cK)):az P w K mg base (bV P w) 8 f fd ["self","a","b"] (MF C cM):=by
 refine F.gm QZ (λvs H Q E h=>?_) (λau A outer s H vs Q E hr h=>?_)
 ·obtain⟨g,lh,B,rest,a,b,rfl,_⟩:=h
  rfl
 ·obtain⟨g,lh,B,rest,a,b,rfl,hB,q,q0,qm⟩:=h;obtain⟨dx,ls,hg,he⟩:=id hB.ob;refine⟨_,(@sO _ _ _ (@sR _ _ _ _ (MP.pe hr (pv 0) (@aC _ _ _ _ _ (pv 1) (@aC _ _ _ _ _ (eI ae) (@aC _ _ _ _ _ (pv 2) ae (by rfl)) (by rfl)) (by rfl))))),?_⟩;refine⟨_,rfl,g,dx,_,rfl,hg,rfl,_,rfl,hZ [] λl0 H1 om i0 s1=>⟨_,rfl,?_⟩⟩;refine⟨g,lh,B,rest,a,b,l0,[],rfl,hB.same s1,i0,by simp,λhm _ z l2 sp ps H2 t2 er hp mF f2 s2=>?_,λhm _ z H2 s2=>?_,λhm H2 s2=>qm hm H2 (s1.trans s2),λ_ z=>absurd (λ_ y=>nomatch y) z⟩
  ·rw[B.JG]at z hp;refine q hm z l2 sp ps H2 t2 (by rw[er];exact ZX _) (λu=>hp u) mF (s1.free f2) (s1.trans s2)
  ·rw[B.JG]at z;exact q0 hm z H2 (s1.trans s2)
def Ra:aM ["self","a","b"] ["self","a","b"] (aF yF):=aN
def Xv{f C cM:Addr}{fd:FuncData}(F:aI K "same" "Survey.same" yF f fd)(PP:b3 P w K mg base C "paper" ["self","a","b"] 8 (MF C cM)):az P w K mg base (bV P w) 9 f fd ["self","a","b"] (K6 C cM):=by
 refine F.gm Ra (λvs H Q E h=>?_) (λau A outer s H vs Q E hr h=>?_)
 ·obtain⟨g,lh,B,rest,a,b,rfl,_⟩:=h
  rfl
 ·obtain⟨g,lh,B,rest,a,b,rfl,hB,q,qm⟩:=h;obtain⟨dx,ls,hg,he⟩:=id hB.ob;refine⟨_,(@sO _ _ _ (@sR _ _ _ _ (iN iM (PP.pe hr (pv 0) (@aC _ _ _ _ _ (pv 1) (@aC _ _ _ _ _ (pv 2) ae (by rfl)) (by rfl))) cU (aG _)))),?_⟩;refine⟨_,rfl,g,dx,_,rfl,hg,rfl,_,rfl,_,rfl,g,lh,B,rest,a,b,rfl,hB,λhm z l2 sp ps H2 t2 er hp mF _ s2=>?_,λhm z H2 s2=>?_,qm⟩
  ·have:=q hm H2 s2;rw[ZN z]at this;exact⟨rfl,this⟩
  ·have:=q hm H2 s2;rw[ZO z]at this;exact⟨rfl,this⟩
def yL:aM ["self","a","kind","b","labels","paper"] ["self","a","kind","b"] (aF yT):=aN
def Xw{f C cM cK cF cB:Addr}{fd:FuncData}(F:aI K "row" "Survey.row" yT f fd)(Ah:mg "NoKind"=some (.ref cK))(Ai:eM K cK=true)(sh:mg "Barred"=some (.ref cB))(Aj:eM K cB=true)(aB:eP K mg C)
  (CM:b3 P w K mg base C "check_marks" ["self","a","b"] 1 (sT C cM))(Dx:b3 P w K mg base C "check_room" ["self"] 1 (Bh C cF))(FO:aW P w K mg base "folded" ["marks","rows","start"] 6 sE)(RW:aW P w K mg base "rows_of" ["entries"] 1 oG)(BO:aW P w K mg base "broken_oath" ["entries","labels"] 1 BH)(Dy:cy P w K mg base C "enter" ["self","told"] 1 (AD C)):
  az P w K mg base (bV P w) 7 f fd ["self","a","kind","b"] (K7 C cM cK cF cB):=by
 obtain⟨_,kO⟩:=aB.row;refine F.gm yL (λvs H Q E h=>?_) (λau A outer s H vs Q E hr h=>?_)
 ·obtain⟨g,lh,B,rest,a,kd,b,rfl,_⟩:=h
  rfl
 ·obtain⟨g,lh,B,rest,a,kd,b,rfl,hB,q,qm,qk,qf,qb⟩:=h;obtain⟨dx,ls,hg,he⟩:=id hB.ob;have c8:=hB.c8
  refine⟨_,(@sC _ _ _ _ _ (bA (CM.pe hr (pv 0) (@aC _ _ _ _ _ (pv 1) (@aC _ _ _ _ _ (pv 3) ae (by rfl)) (by rfl))))
   (@sC _ _ _ _ _ (aR (PW.pt (fW (aJ ij (pv 2) af (aG _)) (gv (aJ gQ (pv 2) (aS (pv 0) rfl) (aG _))))) (@sO _ _ _ (ky rfl rfl Ah Ai (aq fT ae))) aU)
   (@sC _ _ _ _ _ (bA (Dx.pz hr (pv 0)))
   (@sC _ _ _ _ _ (gy (FO.pe hr (@aC _ _ _ _ _ (aS (pv 0) rfl) (@aC _ _ _ _ _ (av gM (RW.pe hr (@aC _ _ _ _ _ (aS (pv 0) rfl) ae (by rfl))) (@eL _ _ _ _ (@aC _ _ _ _ _ (cW (@aC _ _ _ _ _ (aS (pv 0) rfl) (@aC _ _ _ _ _ (pv 1) (@aC _ _ _ _ _ (pv 2) (@aC _ _ _ _ _ (pv 3) ae (by rfl)) (by rfl)) (by rfl)) (by rfl))) ae (by rfl)))) (@aC _ _ _ _ _ (eI ae) ae (by rfl)) (by rfl)) (by rfl))) (eJ rfl (bt (aO (i:=4) yL.nd rfl (Or.inl rfl)) (bt (aO (i:=5) yL.nd rfl (Or.inl rfl)) eG))))
   (@sC _ _ _ _ _ (aR (aJ iM (BO.pe hr (@aC _ _ _ _ _ (aS (pv 0) rfl) (@aC _ _ _ _ _ (pv 4) ae (by rfl)) (by rfl))) cU (aG _)) (@sO _ _ _ (ky rfl rfl sh Aj (aq fT ae))) aU)
   (@sO _ _ _ (@sR _ _ _ _ (Dy.pe hr (pv 0) (@aC _ _ _ _ _ (cW (@aC _ _ _ _ _ (jk (v:=.str "row") rfl kO ⟨_,rfl⟩) (@aC _ _ _ _ _ (pv 1) (@aC _ _ _ _ _ (pv 2) (@aC _ _ _ _ _ (pv 3) ae (by rfl)) (by rfl)) (by rfl)) (by rfl))) ae (by rfl)))))))))),?_⟩
  refine⟨_,rfl,g,dx,_,rfl,hg,rfl,_,rfl,_,rfl,g,lh,B,rest,a,b,rfl,hB,λhm H1 s1=>?_,qm⟩;have dW:=s1 _ _ hg;have ko:=hB.same s1;refine⟨_,rfl,_,_,rfl,rfl,_,rfl,bF (λz=>⟨by decide,qk hm (λy=>by have:=of_decide_eq_true z;omega) _ s1⟩) λz=>⟨_,rfl,_,rfl,g,C,dx,_,_,rfl,dW,aB.cl,aB.nk,Cp ..,_,_,rfl,rfl,_,rfl,bF (λy=>⟨by decide,qk hm (λw=>by have:=of_decide_eq_true y;omega) _ s1⟩) λy=>?_⟩⟩;have z:¬_:=λw=>z (ZN w);have y:¬_:=λw=>y (ZN w);have hk:1<=kd/\kd<=B.k:=⟨by omega,by omega⟩;refine⟨_,rfl,g,dx,_,rfl,dW,rfl,g,lh,B,rest,rfl,ko,λjU=>?_,λjU=>qf hm hk jU H1 s1⟩;refine⟨_,rfl,g,C,dx,_,_,rfl,dW,aB.cl,aB.nn,jX ..,_,rfl,g,C,dx,_,_,rfl,dW,aB.cl,aB.ns,jy ..,ls,rest,B.es,rfl,he.same s1,by omega,λr1 oj H2 Pq t1 e1 s2=>?_⟩;have km:=s2 _ _ dW;refine⟨_,rfl,g,C,dx,_,_,rfl,km,aB.cl,aB.nc,wD ..,_,rfl,_,rfl,_,rfl,by show 4<=sizeLine;decide,λtp Dz=>?_⟩;have s3:aa H2 (upd H2 tp (.tup [.int B.c,.int a,.int kd,.int b])):=(aa.refl H2).upd Dz;have i3:upd H2 tp (.tup [.int B.c,.int a,.int kd,.int b]) tp=some (.tup [.int B.c,.int a,.int kd,.int b]):=ak;generalize upd H2 tp (.tup [.int B.c,.int a,.int kd,.int b])=H3 at s3 i3;refine jq (by show 1<=1000;decide) λl4 H4 DA i4 s4=>?_;have t4:Tl H4 l4 [(tp,[B.c,a,kd,b])]:=⟨i4,λp hp=>by rw[Y2.mp hp];exact s4 _ _ i3⟩;have l1:=mV e1;have:=oA B.es;refine AB (s4 _ _ (s3 _ _ t1.is)) i4 (by rw[Y1];show oj.length+1<=_;omega) λl5 H5 hl5 i5 s5=>?_;have t5:Tl H5 l5 (oj++[(tp,[B.c,a,kd,b])]):=Tl.cat (t1.same (s3.trans s4)) t4 s5 i5;have e5:(oj++[(tp,[B.c,a,kd,b])]).map (·.2)=rowsOf B.es++[[B.c,a,kd,b]]:=by rw[Ze,e1];rfl
  refine jq (by show 0<=1000;decide) λl6 H6 hl6 i6 s6=>?_
  have kX:∀r∈rowsOf B.es++[[B.c,a,kd,b]],cC B.n r/\1<=r.getD 2 0/\r.getD 2 0<=5:=λr eE=>by
   rcases Y7.mp eE with z|z
   ·exact kq hB.k5 hB.ok r z
   ·rw[Y2.mp z];obtain⟨⟨a0,a1⟩,b0,b1⟩:=hm;have:=hB.k5;refine⟨⟨B.c,a.toNat,kd,b.toNat,by rw[Zw a0,Zw b0],by omega,by omega⟩,hk.1,?_⟩;show kd<=5;omega
  refine⟨B.n,l5,l6,_,[],rfl,t5.same s6,⟨i6,(λ_ z=>nomatch z)⟩,qo e5 kX,(λ_ z=>nomatch z),by omega,by simp;omega,by simp,λt7 la lp sp l H7 h7 i7 tl7 fL hp mF _ _ s7=>?_⟩;rw[e5]at fL;have el:l=fl B.n (rowsOf B.es++[[B.c,a,kd,b]]):=fL.eq;have ll:l.length=B.n:=fL.1.aD.len;refine⟨t7,_,rfl,aZ.of h7,rfl,_,_,rfl,_,_,rfl,rfl,?_⟩;have DB:aa H1 H7:=s2.trans (s3.trans (s4.trans (s5.trans (s6.trans s7))));have mI:=s1.trans DB;refine⟨_,rfl,g,C,dx,_,_,rfl,mI _ _ hg,aB.cl,aB.ns,jy ..,_,rfl,ls,la,rest,B.es,l,B.k,rfl,he.same mI,i7,by rw[ll];exact hB.ok,rfl,_,rfl,?_⟩;cases Pr:cX B.es l with
  |some i=>
   refine c4 ⟨by decide,qb hm hk jU ?_ _ mI⟩;show cX B.es (fl B.n (rowsOf B.es++[[B.c,a,kd,b]]))≠none;rw[<-el,Pr];exact(λz=>nomatch z)
  |none=>
   refine bE ?_;refine⟨_,rfl,g,dx,_,rfl,mI _ _ hg,rfl,_,rfl,_,rfl,_,rfl,by show 4<=sizeLine;decide,λtq DC=>?_⟩;have s8:aa H7 (upd H7 tq (.tup [.str "row",.int a,.int kd,.int b])):=(aa.refl H7).upd DC;have jH:=mI.trans s8;refine⟨g,lh,B,rest,tq,.row 0 a kd b,rfl,hB.same jH,ak,⟨hm.1,hk,hm.2⟩,jU,λH9 ba rB nw kp=>?_⟩;refine q hm hk jU ?_ H9 ba rB (λx hx=>?_) λc o e nc=>kp c o (jH _ _ e) nc
   ·show¬cX B.es (fl B.n (rowsOf B.es++[[B.c,a,kd,b]]))≠none;rw[<-el,Pr];exact λz=>z rfl
   ·rcases nw x hx with z|z
    ·exact .inl z
    ·exact .inr (jH.free z)
def Q2:aM ["self","a","b"] ["self","a","b"] (aF yo):=aN
def ab5{f C cM cF cB:Addr}{fd:FuncData}(F:aI K "apart" "Survey.apart" yo f fd)(sh:mg "Barred"=some (.ref cB))(Aj:eM K cB=true)(aB:eP K mg C)
  (CM:b3 P w K mg base C "check_marks" ["self","a","b"] 1 (sT C cM))(Dx:b3 P w K mg base C "check_room" ["self"] 1 (Bh C cF))(SM:b3 P w K mg base C "same" ["self","a","b"] 9 (K6 C cM))(Dy:cy P w K mg base C "enter" ["self","told"] 1 (AD C)):
  az P w K mg base (bV P w) 10 f fd ["self","a","b"] (Nt C cM cF cB):=by
 obtain⟨_,Du⟩:=aB.ap;refine F.gm Q2 (λvs H Q E h=>?_) (λau A outer s H vs Q E hr h=>?_)
 ·obtain⟨g,lh,B,rest,a,b,rfl,_⟩:=h
  rfl
 ·obtain⟨g,lh,B,rest,a,b,rfl,hB,q,qm,qf,qb⟩:=h;obtain⟨dx,ls,hg,he⟩:=id hB.ob
  refine⟨_,(@sC _ _ _ _ _ (bA (CM.pe hr (pv 0) (@aC _ _ _ _ _ (pv 1) (@aC _ _ _ _ _ (pv 2) ae (by rfl)) (by rfl))))
   (@sC _ _ _ _ _ (bA (Dx.pz hr (pv 0)))
   (@sC _ _ _ _ _ (aR (gN (SM.pe hr (pv 0) (@aC _ _ _ _ _ (pv 1) (@aC _ _ _ _ _ (pv 2) ae (by rfl)) (by rfl)))) (@sO _ _ _ (ky rfl rfl sh Aj (aq fT ae))) aU)
   (@sO _ _ _ (@sR _ _ _ _ (Dy.pe hr (pv 0) (@aC _ _ _ _ _ (cW (@aC _ _ _ _ _ (jk (v:=.str "apart") rfl Du ⟨_,rfl⟩) (@aC _ _ _ _ _ (pv 1) (@aC _ _ _ _ _ (pv 2) ae (by rfl)) (by rfl)) (by rfl))) ae (by rfl)))))))),?_⟩
  refine⟨_,rfl,g,dx,_,rfl,hg,rfl,_,rfl,_,rfl,g,lh,B,rest,a,b,rfl,hB,λhm H1 s1=>?_,qm⟩;have dW:=s1 _ _ hg;have ko:=hB.same s1;refine⟨_,rfl,g,dx,_,rfl,dW,rfl,g,lh,B,rest,rfl,ko,λjU=>?_,λjU=>qf hm jU H1 s1⟩;refine⟨_,rfl,g,dx,_,rfl,dW,rfl,_,rfl,_,rfl,g,lh,B,rest,a,b,rfl,ko,λ_ H2 s2=>⟨_,rfl,?_⟩,λz=>absurd hm z⟩;have bD:=s1.trans s2;by_cases z:B.aD.getD a.toNat 0=B.aD.getD b.toNat 0
  ·exact kI (ZN z) ⟨by decide,qb hm jU z _ bD⟩
  ·refine cm (ZO z) ?_;refine⟨_,rfl,g,dx,_,rfl,bD _ _ hg,rfl,_,rfl,_,rfl,by show 3<=sizeLine;decide,λtq DC=>?_⟩;have s8:aa H2 (upd H2 tq (.tup [.str "apart",.int a,.int b])):=(aa.refl H2).upd DC;have jH:=bD.trans s8;refine⟨g,lh,B,rest,tq,.ap 0 a b,rfl,hB.same jH,ak,⟨hm.1,hm.2⟩,jU,λH9 ba rB nw kp=>?_⟩;refine q hm jU z H9 ba rB (λx hx=>?_) λc o e nc=>kp c o (jH _ _ e) nc;rcases nw x hx with z|z
   ·exact .inl z
   ·exact .inr (jH.free z)
def Q4:aM ["self"] ["self"] (aF yp):=aN
def Xx{f C:Addr}{fd:FuncData}(F:aI K "marks" "Survey.marks" yp f fd)(aB:eP K mg C):az P w K mg base aL 1 f fd ["self"] (aai C):=by
 refine F.ok Q4 (λvs H Q E h=>?_) (λau A outer s H vs Q E hr h=>?_)
 ·obtain⟨g,lh,B,rest,rfl,_⟩:=h
  rfl
 ·obtain⟨g,lh,B,rest,rfl,hB,q⟩:=h;obtain⟨dx,ls,hg,he⟩:=id hB.ob;exact⟨_,(@sO _ _ _ (@sR _ _ _ _ (aS (pv 0) rfl))),_,rfl,g,C,dx,_,_,rfl,hg,aB.cl,aB.nn,jX ..,q⟩
def QL:aM ["self"] ["self"] (aF yg):=aN
def Ts{f C:Addr}{fd:FuncData}(F:aI K "entries" "Survey.entries" yg f fd)(T:Txt K mg)(aB:eP K mg C):az P w K mg base aL 1 f fd ["self"] (Iw C):=by
 refine F.ok QL (λvs H Q E h=>?_) (λau A outer s H vs Q E hr h=>?_)
 ·obtain⟨g,lh,B,rest,rfl,_⟩:=h
  rfl
 ·obtain⟨g,lh,B,rest,rfl,hB,q⟩:=h;obtain⟨dx,ls,hg,he⟩:=id hB.ob;obtain⟨ps,h1,h2,h3,h4,h5⟩:=he.ob;refine⟨_,(@sO _ _ _ (@sR _ _ _ _ (oB zh rfl T.list jL (@aC _ _ _ _ _ (aS (pv 0) rfl) ae (by rfl))))),?_⟩;refine⟨_,rfl,g,C,dx,_,_,rfl,hg,aB.cl,aB.ns,jy ..,W7 h1 λl H1 hl il s1=>?_⟩;exact q l H1 hl ⟨ps,il,λp hp=>s1 _ _ (h2 p hp),h3,Y9 ..,λp hp=>Y4 _ (h5 p hp)⟩ s1
def QI:aM ["self","kinds"] ["self","kinds"] (aF yb):=aN
def Xy{f C:Addr}{fd:FuncData}(F:aI K "__init__" "Survey.__init__" yb f fd)(aB:eP K mg C):az P w K mg base aL 1 f fd ["self","kinds"] (K5 C):=by
 obtain⟨_,DD⟩:=aB.mk5;refine F.ok QI (λvs H Q E h=>?_) (λau A outer s H vs Q E hr h=>?_)
 ·obtain⟨g,dx,k,rfl,_⟩:=h
  rfl
 ·obtain⟨g,dx,k,rfl,hg,k1,k5,q⟩:=h
  refine⟨_,(@sC _ _ _ _ _ (aR (PW.pt (fW (aJ ij (pv 1) af (aG _)) (gv (aJ gQ (pv 1) (jk (v:=.int 5) rfl DD ⟨_,rfl⟩) (aG _))))) (@sO _ _ _ mU) aU)
   (@sC _ _ _ _ _ (fU (pv 0) (pv 1) rfl)
   (@sC _ _ _ _ _ (fU (pv 0) af rfl)
   (@sC _ _ _ _ _ (fU (pv 0) (eI ae) rfl)
   (@sC _ _ _ _ _ (fU (pv 0) af rfl)
   (@sO _ _ _ (fU (pv 0) (eI ae) rfl))))))),?_⟩
  refine⟨_,rfl,_,_,rfl,rfl,_,rfl,cm (ZO (by omega)) ⟨_,rfl,_,_,rfl,rfl,_,rfl,cm (ZO (by omega)) ?_⟩⟩;refine⟨_,rfl,_,rfl,g,C,dx,_,rfl,hg,aB.cl,aB.nk,(by show 0<1000;decide),?_⟩;refine⟨_,rfl,g,C,dx,_,rfl,ak,aB.cl,aB.nn,(by show 1<1000;decide),?_⟩;rw[lH];refine jq (by show 0<=1000;decide) λls H1 k8 xw s1=>?_;have gl:ls≠g:=λz=>by rw[z,ak]at k8;cases k8
  have dW:=s1 g _ ak;refine⟨_,rfl,g,C,dx,_,rfl,dW,aB.cl,aB.ns,(by show 2<1000;decide),?_⟩;refine⟨_,rfl,g,C,dx,_,rfl,ak,aB.cl,aB.nc,(by show 3<1000;decide),?_⟩;rw[lH];refine jq (by show 0<=1000;decide) λlh H2 nV ilh s2=>?_;have gh:lh≠g:=λz=>by rw[z,ak]at nV;cases nV
  have km:=s2 g _ ak;refine⟨_,rfl,g,C,dx,_,rfl,km,aB.cl,aB.nh,(by show 4<1000;decide),?_⟩;have Pt:H2 ls=some (.lst []):=s2 ls _ (by rw[ai gl];exact xw)
  have Dq:ls≠lh:=λz=>by
   rw[<-z,ai gl,xw]at nV;cases nV
  have aec:H ls=none:=by rwa [ai gl]at k8
  have aed:H lh=none:=by
   rw[ai gh]at nV;have:=s1.free nV
   rwa [ai gh]at this
  refine q _ lh [ls] ⟨k1,k5,Zp _,Zp _,(λ_ z=>nomatch z),⟨dx,ls,ak,⟨[],by rw[ai gl];exact Pt,(λ_ z=>nomatch z),rfl,Y2.mpr rfl,(λ_ z=>nomatch z)⟩⟩,⟨[],by rw[ai gh];exact ilh,(λ_ z=>nomatch z),rfl⟩,(λ_ z=>nomatch z),λz=>Dq (Y2.mp z).symm,λz=>gl (Y2.mp z).symm,λa ha=>⟨.lst [],by rw[Y2.mp ha,ai gl];exact Pt⟩⟩ aed (λa ha=>by rw[Y2.mp ha];exact aec) λc o e nc=>?_;rw[ai nc];refine s2 _ _ ?_;rw[ai nc];refine s1 _ _ ?_;rw[ai nc];exact e
def rN:aM ["_law_book_here","_law_entry_here","_law_number"] ["_law_book_here","_law_entry_here"] (aF yw):=aN
def Tt{f C cM cK cF cB:Addr}{fd:FuncData}(F:aI K "_law_entered" "_law_entered" yw f fd)(sh:mg "Barred"=some (.ref cB))(hex:PySem.W.exmOne K (.ref cB) (.ref cB)=some true)
  (SRW:b3 P w K mg base C "row" ["self","a","kind","b"] 7 (K7 C cM cK cF cB))(SAP:b3 P w K mg base C "apart" ["self","a","b"] 10 (Nt C cM cF cB)):az P w K mg base aL 11 f fd ["_law_book_here","_law_entry_here"] (zD C):=by
 refine F.ok rN (λvs H Q E h=>?_) (λau A outer s H vs Q E hr h=>?_)
 ·obtain⟨g,lh,B,rest,t,e,rfl,_⟩:=h
  rfl
 ·obtain⟨g,lh,B,rest,t,e,rfl,hB,ht,mH,cJ,qn,q⟩:=h;obtain⟨dx,ls,hg,he⟩:=id hB.ob
  refine⟨_,(@sC _ _ _ _ _ (@sS _ 2 _ _ _ _ _ rN.nd rfl (Or.inl rfl) cU (by rfl) (.inl rfl))
   (@sC _ _ _ _ _ (aae (abK (aJ bZ (ax bI (pv 1) af (λ_ _=>rfl)) fT (aG _)) (KL (i:=2) rN.nd rfl (Or.inl rfl) (SRW.px hr (pv 0) (@aC _ _ _ _ _ (ax bI (pv 1) af (λ_ _=>rfl)) (@aC _ _ _ _ _ (ax bI (pv 1) af (λ_ _=>rfl)) (@aC _ _ _ _ _ (ax bI (pv 1) af (λ_ _=>rfl)) ae (by rfl)) (by rfl)) (by rfl)))) (KL (i:=2) rN.nd rfl (Or.inl rfl) (SAP.px hr (pv 0) (@aC _ _ _ _ _ (ax bI (pv 1) af (λ_ _=>rfl)) (@aC _ _ _ _ _ (ax bI (pv 1) af (λ_ _=>rfl)) ae (by rfl)) (by rfl))))) rfl sh (λea=>(@sO _ _ _ (@sS _ 2 _ _ _ _ _ rN.nd rfl (Or.inl rfl) cU (by rfl) (.inl rfl)))))
   (@sO _ _ _ (@sR _ _ _ _ (pv 2))))),?_⟩
  refine UQ ?_;refine vX.abQ λEE hEE=>?_;have EX:∀G,aa H G->Q .aH G->EE (.ref cB) none G:=λG sG z=>hEE _ _ hex ⟨_,rfl,z⟩;cases e with
  |row i a kd b=>
   obtain⟨ha,hk,hb⟩:=mH;refine⟨_,rfl,cT ht rfl ⟨rfl,_,rfl,kI (by decide+kernel) ?_⟩⟩;refine⟨_,rfl,g,dx,_,rfl,hg,rfl,_,rfl,cT ht rfl ⟨_,rfl,cT ht rfl ⟨_,rfl,cT ht rfl ?_⟩⟩⟩;refine⟨g,lh,B,rest,a,kd,b,rfl,hB,λ_ _ _ nb H' ba k9 nw kp=>⟨_,rfl,q nb H' ba k9 nw kp⟩,λz=>absurd ⟨ha,hb⟩ z,λ_ z=>absurd hk z,λ_ _ z=>absurd cJ z,λ_ _ _ br H' s'=>EX _ s' (qn br H' s')⟩
  |ap i a b=>
   obtain⟨ha,hb⟩:=mH;refine⟨_,rfl,cT ht rfl ⟨rfl,_,rfl,cm (by decide+kernel) ?_⟩⟩;refine⟨_,rfl,g,dx,_,rfl,hg,rfl,_,rfl,cT ht rfl ⟨_,rfl,cT ht rfl ?_⟩⟩;refine⟨g,lh,B,rest,a,b,rfl,hB,λ_ _ nb H' ba k9 nw kp=>⟨_,rfl,q nb H' ba k9 nw kp⟩,λz=>absurd ⟨ha,hb⟩ z,λ_ z=>absurd cJ z,λ_ _ br H' s'=>EX _ s' (qn br H' s')⟩
def Ro:aM ["_law_kinds","_law_marks","_law_draws"] ["_law_kinds","_law_marks","_law_draws"] (aF yU):=aN
def Xz{f:Addr}{fd:FuncData}(F:aI K "_law_entry" "_law_entry" yU f fd):az P w K mg base aL 1 f fd ["_law_kinds","_law_marks","_law_draws"] AG:=by
 refine F.ok Ro (λvs H Q E h=>?_) (λau A outer s H vs Q E hr h=>?_)
 ·obtain⟨k,n,ld,ds,rfl,_⟩:=h
  rfl
 ·obtain⟨k,n,ld,ds,rfl,hd,l3,k1,k5,n1,n7,q⟩:=h
  refine⟨_,(@sC _ _ _ _ _ (aR (aJ bZ (av bO (ax aK (pv 2) af (λ_ _=>rfl)) af) af (aG _)) (@sO _ _ _ (@sR _ _ _ _ (cW (@aC _ _ _ _ _ fT (@aC _ _ _ _ _ (av bO (ax aK (pv 2) af (λ_ _=>rfl)) (pv 1)) (@aC _ _ _ _ _ (av bO (ax aK (pv 2) af (λ_ _=>rfl)) (pv 1)) ae (by rfl)) (by rfl)) (by rfl))))) aU)
   (@sO _ _ _ (@sR _ _ _ _ (cW (@aC _ _ _ _ _ fT (@aC _ _ _ _ _ (av bO (ax aK (pv 2) af (λ_ _=>rfl)) (pv 1)) (@aC _ _ _ _ _ (av cV af (av bO (av iL (ax aK (pv 2) af (λ_ _=>rfl)) af) (pv 0))) (@aC _ _ _ _ _ (av bO (ax aK (pv 2) af (λ_ _=>rfl)) (pv 1)) ae (by rfl)) (by rfl)) (by rfl)) (by rfl)))))),?_⟩
  have np:(0:Int)<n:=by omega
  have kp:(0:Int)<k:=by omega
  have xx:∀d:Int,aE n (d%n):=λd=>⟨Zz _ (by omega),Zy _ np⟩;refine⟨_,rfl,aT 0 hd (by omega) ⟨_,_,rfl,rfl,(by show(0:Int)<5;decide),rfl,_,rfl,bF (λ_=>?_) λ_=>?_⟩⟩
  ·refine⟨_,rfl,aT 1 hd (by omega) ⟨_,rfl,_,_,rfl,rfl,np,_,rfl,aT 2 hd (by omega) ⟨_,rfl,_,_,rfl,rfl,np,by show 3<=sizeLine;decide,λt ht=>?_⟩⟩⟩;exact q t (.ap 0 (ds.getD 1 0%n) (ds.getD 2 0%n)) _ ht ak ⟨xx _,xx _⟩ ((aa.refl H).upd ht)
  ·refine⟨_,rfl,aT 1 hd (by omega) ⟨_,rfl,_,_,rfl,rfl,np,_,rfl,aT 0 hd (by omega) ⟨_,_,rfl,rfl,⟨by show(0:Int)<5;decide,by show(5:Int)<1073741824;decide⟩,_,rfl,_,_,rfl,rfl,kp,_,_,rfl,rfl,_,rfl,aT 2 hd (by omega) ⟨_,rfl,_,_,rfl,rfl,np,by show 4<=sizeLine;decide,λt ht=>?_⟩⟩⟩⟩;have m0:=Zz (ds.getD 0 0/5) (show(k:Int)≠0 by omega);have m1:=Zy (ds.getD 0 0/5) kp;exact q t (.row 0 (ds.getD 1 0%n) (1+ds.getD 0 0/5%k) (ds.getD 2 0%n)) _ ht ak ⟨xx _,⟨by omega,by omega⟩,xx _⟩ ((aa.refl H).upd ht)
def FQ:aM ["self","number","left"] ["self","number"] (aF yj):=aN
def Tu{f C cE:Addr}{fd:FuncData}(F:aI K "strike" "Survey.strike" yj f fd)(U9:mg "NoEntry"=some (.ref cE))(Va:eM K cE=true)(T:Txt K mg)(aB:eP K mg C):az P w K mg base (bV P w) 1 f fd ["self","number"] (zE C cE):=by
 refine F.gm FQ (λvs H Q E h=>?_) (λau A outer s H vs Q E hr h=>?_)
 ·obtain⟨g,lh,B,rest,i,rfl,_⟩:=h
  rfl
 ·obtain⟨g,lh,B,rest,i,rfl,hB,q,qe⟩:=h;obtain⟨dx,ls,hg,he⟩:=id hB.ob;have cJ:=hB.cJ
  refine⟨_,(@sC _ _ _ _ _ (UN 2 ["number"] [1] FQ.nd (bH (aS (pv 0) rfl)) (λC s H fp=>aJ ny (ax (show gd _ (dM (gD K))from bI) (pv 0) af (λ_ _=>rfl)) (pv 1) (aG _)) (λC s H fp=>pv 0) (jx rfl))
   (@sC _ _ _ _ _ (aR (aJ bZ (bq cO (by rfl) T.len PySem.boot_len (@aC _ _ _ _ _ (pv 2) ae (by rfl))) (bq cO (by rfl) T.len PySem.boot_len (@aC _ _ _ _ _ (aS (pv 0) rfl) ae (by rfl))) (aG _)) (@sO _ _ _ (ky rfl rfl U9 Va (aq fT ae))) aU)
   (@sC _ _ _ _ _ (fU (pv 0) (pv 2) rfl)
   (@sO _ _ _ (@sR _ _ _ _ (pv 1)))))),?_⟩
  refine⟨_,rfl,g,C,dx,_,_,rfl,hg,aB.cl,aB.ns,jy ..,ls,rfl,he.sq,US (λe=>decide (e.num≠i)) he (by omega) (λx e H' Q' s' hx q'=>?_) (λx H' Q' q'=>⟨_,rfl,q'⟩) λD H1 hD el s1=>?_⟩
  ·refine⟨_,rfl,cT hx (MI e) ⟨_,rfl,rfl,_,rfl,?_⟩⟩
   have:(!decide (V.int e.num=V.int i))=decide (e.num≠i):=by
    by_cases z:e.num=i
    ·simp[z]
    ·simp[z]
   rw[this];exact q'
  obtain⟨n1,a1,c1⟩:=el.cnt;obtain⟨n2,a2,c2⟩:=(he.same s1).cnt;refine⟨_,rfl,D,n1,rfl,.inl (ah.of a1),_,rfl,g,C,dx,_,_,rfl,s1 _ _ hg,aB.cl,aB.ns,jy ..,ls,n2,rfl,.inl (ah.of a2),rfl,_,rfl,?_⟩;rw[c1,c2];by_cases z:i∈B.es.map En.num
  ·have ne:¬(B.es.filter λe=>decide (e.num≠i)).length=B.es.length:=λy=>JK.mp y z;refine cm (ZO λy=>ne (by have:=V.int.inj y;omega)) ?_;have dW:=s1 _ _ hg;have nD:=hB.not hD
   have ko:aQ C H1 g lh B (D::rest):=(hB.same s1).more (λa ha=>Y4 _ ha) (λy=>by
     rcases Y5.mp y with y|y
     ·exact nD (y▸Y4 _ (Y9 ..))
     ·exact hB.nl y) (λy=>by
     rcases Y5.mp y with y|y
     ·exact nD (y▸Y9 ..)
     ·exact hB.ng y) λa ha=>by
     rcases Y5.mp ha with y|y
     ·exact⟨_,y▸a1⟩
     ·obtain⟨o,e⟩:=hB.lv a y;exact⟨o,s1 _ _ e⟩
   refine⟨_,rfl,_,rfl,g,C,dx,_,rfl,dW,aB.cl,aB.ns,(by show 5<1000;decide),?_⟩;rw[BF];have pP:=ko.fld (B':=B.less i) dW el rfl rfl hB.c8 (ZQ (List.length_filter_le _ _) cJ) λe h=>hB.ok e (ZT.mp h).1;refine⟨_,rfl,q z _ _ pP (λx hx=>?_) λc o e nc=>by rw[ai nc];exact s1 _ _ e⟩;rcases Y5.mp hx with y|y
   ·rw[y];exact .inr hD
   ·exact .inl y
  ·refine kI (ZN (by rw[JK.mpr z])) ⟨by decide,qe z _ s1⟩
def Rb:aM ["self"] ["self"] (aF yD):=aN
def aaF{f C:Addr}{fd:FuncData}(F:aI K "hold" "Survey.hold" yD f fd)(T:Txt K mg)(aB:eP K mg C):az P w K mg base aL 1 f fd ["self"] (MJ C):=by
 refine F.ok Rb (λvs H Q E h=>?_) (λau A outer s H vs Q E hr h=>?_)
 ·obtain⟨g,lh,B,rest,rfl,_⟩:=h
  rfl
 ·obtain⟨g,lh,B,rest,rfl,hB,hl,q⟩:=h;obtain⟨dx,ls,hg,he⟩:=id hB.ob;obtain⟨qs,h1,h2,h3⟩:=id hB.hl.ob;have lq:qs.length=B.hs.length:=by rw[<-h3,Y1]
  refine⟨_,(@sC _ _ _ _ _ (bA (eA PySem.F.plainAttrs_list PySem.F.slot_list_append PySem.F.type_list_append dZ (aS (pv 0) rfl) (@aC _ _ _ _ _ (cW (@aC _ _ _ _ _ (aS (pv 0) rfl) (@aC _ _ _ _ _ (aS (pv 0) rfl) (@aC _ _ _ _ _ (aS (pv 0) rfl) ae (by rfl)) (by rfl)) (by rfl))) ae (by rfl))))
   (@sO _ _ _ (@sR _ _ _ _ (bq cO (by rfl) T.len PySem.boot_len (@aC _ _ _ _ _ (aS (pv 0) rfl) ae (by rfl)))))),?_⟩
  refine⟨_,rfl,g,C,dx,_,_,rfl,hg,aB.cl,aB.nh,tL ..,.inl ⟨rfl,_,ah.of h1⟩,_,rfl,g,C,dx,_,_,rfl,hg,aB.cl,aB.nn,jX ..,_,rfl,g,C,dx,_,_,rfl,hg,aB.cl,aB.ns,jy ..,_,rfl,g,C,dx,_,_,rfl,hg,aB.cl,aB.nc,wD ..,by show 3<=sizeLine;decide,λp hp=>?_⟩;have s1:aa H (upd H p (.tup [.int B.n,.ref ls,.int B.c])):=(aa.refl H).upd hp;have i1:upd H p (.tup [.int B.n,.ref ls,.int B.c]) p=some (.tup [.int B.n,.ref ls,.int B.c]):=ak;generalize upd H p (.tup [.int B.n,.ref ls,.int B.c])=H1 at s1 i1;have ko:=hB.same s1;have np:=hB.not hp;refine⟨lh,_,_,rfl,rfl,s1 _ _ h1,bw (by rw[Y1];omega),?_⟩;have hgl:g≠lh:=λz=>by rw[z,h1]at hg;cases hg
  have keep:∀a,a≠lh->∀o,H1 a=some o->upd H1 lh (.lst ((qs.map λq=>V.ref q.1)++[.ref p])) a=some o:=λa na o e=>by rw[ai na];exact e
  have nr:∀a∈rest,a≠lh:=λa ha z=>hB.nl (z▸ha);have pl:p≠lh:=λz=>np (z▸Y4 _ (Y9 ..));have km:=keep g hgl _ (s1 _ _ hg);have qS:El (upd H1 lh (.lst ((qs.map λq=>V.ref q.1)++[.ref p]))) rest ls B.es:=(he.same s1).on λa ha=>keep a (nr a ha);have sub:∀a∈rest,a∈p::rest:=λa ha=>Y4 _ ha;refine⟨_,rfl,g,C,dx,_,_,rfl,km,aB.cl,aB.nh,tL ..,lh,_,rfl,.inl (ah.of ak),?_⟩;rw[Zo,Y1,lq];refine q _ (p::rest) ⟨hB.k1,hB.k5,hB.c8,hB.cJ,hB.ok,⟨dx,ls,km,qS.sub sub⟩,⟨qs++[(p,ls,(B.n,B.es,B.c))],by rw[ak,Ze];rfl,λy hy=>?_,by rw[Ze,h3];rfl⟩,λh hh=>?_,λz=>?_,λz=>?_,λa ha=>?_⟩ (λx hx=>?_) λc o e nc=>by rw[ai nc];exact s1 _ _ e
  ·rcases Y7.mp hy with z|z
   ·obtain⟨a1,a2,a3⟩:=h2 y z;exact⟨keep _ (nr _ a3) _ (s1 _ _ a1),((a2.same s1).on λa ha=>keep a (nr a ha)).sub sub,sub _ a3⟩
   ·rw[Y2.mp z];exact⟨keep _ pl _ i1,qS.sub sub,Y9 ..⟩
  ·rcases Y7.mp (show h∈B.hs++[(B.n,B.es,B.c)]from hh)with z|z
   ·exact hB.hh h z
   ·rw[Y2.mp z];exact⟨hB.c8,hB.cJ,hB.ok⟩
  ·rcases Y5.mp z with z|z
   ·exact pl z.symm
   ·exact hB.nl z
  ·rcases Y5.mp z with z|z
   ·exact np (z▸Y9 ..)
   ·exact hB.ng z
  ·rcases Y5.mp ha with z|z
   ·exact⟨_,keep a (z▸pl) _ (z▸i1)⟩
   ·obtain⟨o,e⟩:=hB.lv a z;exact⟨o,keep a (nr a z) _ (s1 _ _ e)⟩
  ·rcases Y5.mp hx with z|z
   ·rw[z];exact .inr hp
   ·exact .inl z
def Rc:aM ["self","number"] ["self","number"] (aF yE):=aN
def XA{f C cH:Addr}{fd:FuncData}(F:aI K "back" "Survey.back" yE f fd)(XB:mg "NoHold"=some (.ref cH))(XC:eM K cH=true)(T:Txt K mg)(aB:eP K mg C):az P w K mg base (bV P w) 1 f fd ["self","number"] (Lb C cH):=by
 refine F.gm Rc (λvs H Q E h=>?_) (λau A outer s H vs Q E hr h=>?_)
 ·obtain⟨g,lh,B,rest,i,rfl,_⟩:=h
  rfl
 ·obtain⟨g,lh,B,rest,i,rfl,hB,hl,q,qe⟩:=h;obtain⟨dx,ls,hg,he⟩:=id hB.ob;obtain⟨qs,h1,h2,h3⟩:=id hB.hl.ob;have lq:qs.length=B.hs.length:=by rw[<-h3,Y1]
  refine⟨_,(@sC _ _ _ _ _ (aR (PW.pt (fW (aJ ij (pv 1) af (aG _)) (gv (aJ gQ (pv 1) (bq cO (by rfl) T.len PySem.boot_len (@aC _ _ _ _ _ (aS (pv 0) rfl) ae (by rfl))) (aG _))))) (@sO _ _ _ (ky rfl rfl XB XC (aq fT ae))) aU)
   (@sC _ _ _ _ _ (fU (pv 0) (gK jw (aS (pv 0) rfl) mX (dC (pv 1))) rfl)
   (@sC _ _ _ _ _ (gy (ax aK (aS (pv 0) rfl) (av hX (pv 1) af) (λ_ _=>rfl)) (eJ rfl (bt (Bi (pv 0)) (bt (Bi (pv 0)) (bt (Bi (pv 0)) eG)))))
   (@sO _ _ _ (@sR _ _ _ _ (pv 1)))))),?_⟩
  refine⟨_,rfl,_,_,rfl,rfl,_,rfl,bF (λz=>⟨by decide,qe (by have:=of_decide_eq_true z;omega)⟩) λz=>⟨_,rfl,_,rfl,g,C,dx,_,_,rfl,hg,aB.cl,aB.nh,tL ..,lh,_,rfl,.inl (ah.of h1),_,_,rfl,rfl,_,rfl,bF (λy=>⟨by decide,qe (by have:=of_decide_eq_true y;rw[Y1,lq]at this;omega)⟩) λy=>?_⟩⟩;have z:¬_:=λw=>z (ZN w);have y:¬_:=λw=>y (ZN w);rw[Y1,lq]at y;obtain⟨j,rfl⟩:∃j:Nat,i=(j:Int)+1:=⟨(i-1).toNat,by omega⟩;have hj:j<B.hs.length:=by omega
  obtain⟨x,ex⟩:∃x,qs[j]?=some x:=⟨_,Zd (by omega)⟩;have eh:B.hs[j]?=some x.2.2:=by rw[<-h3,Zf,ex];rfl
  obtain⟨x1,x2,x3⟩:=h2 x (Y6 ex);obtain⟨hn,hle,ao⟩:=hB.hh _ (Y6 eh);refine⟨_,rfl,g,C,dx,_,_,rfl,hg,aB.cl,aB.nh,tL ..,_,rfl,_,rfl,Iz h1 λcI H1 c9 DF s1=>?_⟩;rw[show(j:Int)+1=((j+1:Nat):Int)from rfl,aaj]at DF;have dW:=s1 _ _ hg;have xu:=hB.not c9;have Pu:cI≠g:=λz=>xu (z▸Y9 ..);refine⟨_,rfl,g,C,dx,_,rfl,dW,aB.cl,aB.nh,(by show 5<1000;decide),?_⟩;rw[acV];have keep:∀(o':HO) a,a≠g->∀o,H1 a=some o->upd H1 g o' a=some o:=λo' a na o e=>by rw[ai na];exact e
  have nr:∀a∈rest,a≠g:=λa ha z=>hB.ng (z▸ha);have xg:x.1≠g:=nr _ x3;refine⟨_,rfl,g,C,dx,_,_,rfl,ak,aB.cl,aB.nh,tL ..,_,rfl,_,_,rfl,rfl,vF (v:=.ref x.1) (keep _ cI Pu _ DF) ?_ ?_⟩
  ·rw[show((j:Int)+1-1)=(j:Int)by omega];refine mY ?_;rw[List.getElem?_take,if_pos (by omega),Zf,ex];rfl
  refine⟨x.1,_,rfl,aZ.of (keep _ _ xg _ (s1 _ _ x1)),rfl,_,_,rfl,_,rfl,g,C,dx,_,rfl,ak,aB.cl,aB.nn,(by show 5<1000;decide),?_⟩;rw[Nq,lH];refine⟨_,_,rfl,_,rfl,g,C,dx,_,rfl,ak,aB.cl,aB.ns,(by show 5<1000;decide),?_⟩;rw[BF,lH];refine⟨_,_,rfl,_,rfl,g,C,dx,_,rfl,ak,aB.cl,aB.nc,(by show 5<1000;decide),?_⟩;rw[Nr,lH];refine⟨rfl,?_⟩;have o':HO:=.ins C dx (bf B.k x.2.2.1 x.2.1 x.2.2.2.2 cI);refine⟨_,rfl,q j x.2.2 rfl eh _ cI ⟨hB.k1,hB.k5,hn,hle,ao,⟨dx,x.2.1,ak,(x2.same s1).on λa ha=>keep _ a (nr a ha)⟩,⟨qs.take (j+1),by rw[ai Pu,DF,List.map_take],λy hy=>?_,by rw[List.map_take,h3];rfl⟩,λh hh=>hB.hh h (List.mem_of_mem_take hh),λz=>xu (Y4 _ (Y4 _ z)),hB.ng,λa ha=>?_⟩ c9 λc o e nc=>by rw[ai nc];exact s1 _ _ e⟩
  ·obtain⟨a1,a2,a3⟩:=h2 y (List.mem_of_mem_take hy);exact⟨keep _ _ (nr _ a3) _ (s1 _ _ a1),(a2.same s1).on λa ha=>keep _ a (nr a ha),a3⟩
  ·obtain⟨o,e⟩:=hB.lv a ha;exact⟨o,keep _ a (nr a ha) _ (s1 _ _ e)⟩
def uO:aM ["_law_book_here","_law_kinds","_law_marks","_law_draws","_law_entry_here","_law_number","_law_hold"] ["_law_book_here","_law_kinds","_law_marks","_law_draws"] (aF yJ):=aN
def Vb{f C cE cH:Addr}{fd:FuncData}(F:aI K "_law_detour" "_law_detour" yJ f fd)(LE:aW P w K mg base "_law_entry" ["_law_kinds","_law_marks","_law_draws"] 1 AG)(xy:aW P w K mg base "_law_entered" ["_law_book_here","_law_entry_here"] 11 (zD C))
  (DG:b3 P w K mg base C "strike" ["self","number"] 1 (zE C cE))(HLD:cy P w K mg base C "hold" ["self"] 1 (MJ C))(BCK:b3 P w K mg base C "back" ["self","number"] 1 (Lb C cH)):
  az P w K mg base aL 12 f fd ["_law_book_here","_law_kinds","_law_marks","_law_draws"] (JM C):=by
 refine F.ok uO (λvs H Q E h=>?_) (λau A outer s H vs Q E hr h=>?_)
 ·obtain⟨g,lh,ld,B,rest,ds,rfl,_⟩:=h
  rfl
 ·obtain⟨g,lh,ld,B,rest,ds,rfl,hB,hd,l3,nl,n1,cJ,un,h9,q⟩:=h;have c8:=hB.c8
  refine⟨_,(@sC _ _ _ _ _ (@sS _ 4 _ _ _ _ _ uO.nd rfl (Or.inl rfl) (LE.pe hr (@aC _ _ _ _ _ (pv 1) (@aC _ _ _ _ _ (pv 2) (@aC _ _ _ _ _ (@eL _ _ _ _ (@aC _ _ _ _ _ (ax aK (pv 3) af (λ_ _=>rfl)) (@aC _ _ _ _ _ (ax aK (pv 3) af (λ_ _=>rfl)) (@aC _ _ _ _ _ (ax aK (pv 3) af (λ_ _=>rfl)) ae (by rfl)) (by rfl)) (by rfl))) ae (by rfl)) (by rfl)) (by rfl))) (by rfl) (.inl rfl))
   (@sC _ _ _ _ _ (aR (aJ bZ (av bO (av iL (ax aK (pv 3) af (λ_ _=>rfl)) af) af) af (aG _)) (@sC _ _ _ _ _ (@sS _ 5 _ _ _ _ _ uO.nd rfl (Or.inl rfl) (xy.pe hr (@aC _ _ _ _ _ (pv 0) (@aC _ _ _ _ _ (pv 4) ae (by rfl)) (by rfl))) (by rfl) (.inl rfl))
   (@sO _ _ _ (aR (aJ iM (pv 5) cU (aG _)) (@sO _ _ _ (bA (DG.eY hr (pv 0) (@aC _ _ _ _ _ (pv 5) ae (by rfl))))) aU))) aU)
   (@sO _ _ _ (aR (aJ bZ (av bO (av iL (ax aK (pv 3) af (λ_ _=>rfl)) af) af) af (aG _)) (@sC _ _ _ _ _ (@sS _ 6 _ _ _ _ _ uO.nd rfl (Or.inl rfl) (HLD.eY hr (pv 0)) (by rfl) (.inl rfl))
   (@sC _ _ _ _ _ (bA (xy.pe hr (@aC _ _ _ _ _ (pv 0) (@aC _ _ _ _ _ (pv 4) ae (by rfl)) (by rfl))))
   (@sO _ _ _ (bA (BCK.eY hr (pv 0) (@aC _ _ _ _ _ (pv 6) ae (by rfl))))))) aU)))),?_⟩
  refine⟨_,rfl,_,rfl,_,rfl,aT 2 hd (by omega) ⟨_,rfl,aT 0 hd (by omega) ⟨_,rfl,aT 1 hd (by omega) (hZ [ds.getD 2 0,ds.getD 0 0,ds.getD 1 0] λlq H1 DI iq s1=>?_)⟩⟩⟩;refine⟨B.k,B.n,lq,_,rfl,iq,rfl,hB.k1,hB.k5,n1,by omega,λt e H2 ht it mH s2=>?_⟩;have dN:=s1.trans s2;have pP:=hB.same dN;have hd2:aw H2 ld ds:=dN.ints hd;have DJ:t≠g:=λz=>(hB.same s1).not ht (z▸Y9 ..);refine⟨_,rfl,aT 0 hd2 (by omega) ⟨_,_,rfl,rfl,⟨by show(0:Int)<100;decide,by show(100:Int)<1073741824;decide⟩,_,_,rfl,rfl,(by show(0:Int)<3;decide),rfl,_,rfl,bF (λz1=>?_) λz1=>?_⟩⟩
  ·have z1:ds.getD 0 0/100%3=1:=V.int.inj (of_decide_eq_true z1)
   have fin:∀(x y:Option V) (H':Hp) (B':Bk) (ba:List Addr),B'.k=B.k->B'.n=B.n->B'.es=B.es->aQ C H' g lh B' ba->B.c<=B'.c->B'.hs=B.hs->Kp g H H'->Nw H rest ba->Q .aH H':=by
    intro x y H' B' ba ek en ee k9 hc eh kp nw;refine q B'.c B'.hs lh ba H' ?_ hc (by rw[eh];omega) (Fr.kN k9 kp) .refl nw;rw[<-ek, <-en, <-ee];exact k9
   refine⟨_,rfl,_,rfl,g,lh,B,rest,t,e,rfl,pP,it,mH,cJ,λbr H3 s3=>?_,λnb H3 lO e9 ux rC=>?_⟩
   ·have DL:=dN.trans s3;refine⟨_,rfl,rfl,_,rfl,bE ?_⟩;refine⟨_,rfl,aT 0 (DL.ints hd) (by omega) ⟨_,_,rfl,rfl,⟨by show(0:Int)<100;decide,by show(100:Int)<1073741824;decide⟩,_,_,rfl,rfl,(by show(0:Int)<3;decide),rfl,_,rfl,cm (ZO λw=>by have w:ds.getD 0 0/100%3=2:=V.int.inj w;omega) ?_⟩⟩;exact fin none none H3 B rest rfl rfl rfl (hB.same DL) (by omega) rfl (Kp.of DL) .refl
   ·have Cs:Kp g H H3:=(Kp.of dN).trans rC;obtain⟨dx,ls,hg,he⟩:=id e9.ob;have hd3:aw H3 ld ds:=Cs _ _ hd (hB.sU hd);refine⟨_,rfl,rfl,_,rfl,c4 ?_⟩;refine⟨_,rfl,g,dx,_,rfl,hg,rfl,_,rfl,g,lh,_,lO,B.c,rfl,e9,λ_ H4 ju eF jI DM=>?_,λz=>absurd ?_ z⟩
    ·have Ot:=Cs.trans DM;refine⟨_,rfl,aT 0 (Ot _ _ hd (hB.sU hd)) (by omega) ⟨_,_,rfl,rfl,⟨by show(0:Int)<100;decide,by show(100:Int)<1073741824;decide⟩,_,_,rfl,rfl,(by show(0:Int)<3;decide),rfl,_,rfl,cm (ZO λw=>by have w:ds.getD 0 0/100%3=2:=V.int.inj w;omega) ?_⟩⟩;refine fin none none H4 ((B.add e).less B.c) ju rfl rfl (Xb un e) eF (by show B.c<=B.c+1;omega) rfl Ot ?_;have f3:∀b o,H2 b=some o->H3 b≠none:=(Fr.kN (lh:=lh) e9 rC).lv;have n2:Nw H rest lO:=Nw.trans (H':=H2) Nw.refl ux λb o e=>by rw[dN b o e];exact λz=>nomatch z
     exact n2.trans jI (Fr.kN (lh:=lh) e9 Cs).lv
    ·refine Zh.mpr ⟨e.re B.c,Zb _ (Y2.mpr rfl),vN ..⟩
  ·refine⟨_,rfl,aT 0 hd2 (by omega) ⟨_,_,rfl,rfl,⟨by show(0:Int)<100;decide,by show(100:Int)<1073741824;decide⟩,_,_,rfl,rfl,(by show(0:Int)<3;decide),rfl,_,rfl,bF (λz2=>?_) λz2=>?_⟩⟩
   ·obtain⟨dx,ls,hg,he⟩:=id pP.ob;refine⟨_,rfl,g,dx,_,rfl,hg,rfl,g,lh,B,rest,rfl,pP,by omega,λH3 lO e9 ux rC=>?_⟩;have cA:Fr H2 H3 g lh:=Fr.ad4 e9 rC
    have it3:H3 t=some (.tup e.told):=cA.kp _ _ it DJ λz=>by
     obtain⟨_,xs,hl⟩:=pP.heads;rw[z,hl]at it;cases it
    refine⟨_,rfl,_,rfl,g,lh,B.hold,lO,t,e,rfl,e9,it3,mH,cJ,λbr H4 s4=>?_,λnb H4 ju eF jI DM=>?_⟩
    ·have eF:=e9.same s4;obtain⟨DN,ls4,rA,he4⟩:=id eF.ob;refine⟨_,rfl,g,DN,_,rfl,rA,rfl,_,rfl,g,lh,B.hold,lO,_,rfl,eF,by show(B.hs++[_]).length<=1000;simp;omega,λj h ej hj H5 DO jG DP DQ=>?_,λz=>absurd ⟨by omega,by show _<=(((B.hs++[_]).length:Nat):Int);simp⟩ z⟩;have ej:j=B.hs.length:=by omega
     subst ej
     have hh:(B.n,B.es,B.c)=h:=by
      have:(B.hs++[(B.n,B.es,B.c)])[B.hs.length]?=some h:=hj;rw[Zt (Y3 _),Nat.sub_self]at this;exact Zg this
     subst hh;have f5:Fr H4 H5 g lh:=Fr.kN jG DQ;have fr:Fr H H5 g lh:=((Fr.of_same dN).trans cA .refl).trans ((Fr.of_same s4).trans f5 .refl) .refl;refine q B.c _ DO lO H5 jG (Int.le_refl _) (by show((B.hs++[_]).take _).length<=_;simp) fr ?_ ?_
     ·exact gp.trans (H':=H4) .refl (.inr DP) (((Fr.of_same dN).trans cA .refl).trans (Fr.of_same s4) .refl)
     ·exact Nw.trans (H':=H2) Nw.refl ux (Fr.of_same (g:=g) (lh:=lh) dN).lv
    ·obtain⟨DN,ls4,rA,he4⟩:=id eF.ob;refine⟨_,rfl,g,DN,_,rfl,rA,rfl,_,rfl,g,lh,_,ju,_,rfl,eF,by show(B.hs++[_]).length<=1000;simp;omega,λj h ej hj H5 DO jG DP DQ=>?_,λz=>absurd ⟨by omega,by show _<=(((B.hs++[_]).length:Nat):Int);simp⟩ z⟩;have ej:j=B.hs.length:=by omega
     subst ej
     have hh:(B.n,B.es,B.c)=h:=by
      have:(B.hs++[(B.n,B.es,B.c)])[B.hs.length]?=some h:=hj;rw[Zt (Y3 _),Nat.sub_self]at this;exact Zg this
     subst hh;have f4:Fr H3 H4 g lh:=Fr.kN eF DM;have f5:Fr H4 H5 g lh:=Fr.kN jG DQ;have Px:Fr H H4 g lh:=((Fr.of_same dN).trans cA .refl).trans f4 .refl;refine q B.c _ DO ju H5 jG (Int.le_refl _) (by show((B.hs++[_]).take _).length<=_;simp) (Px.trans f5 .refl) ?_ ?_
     ·exact gp.trans (H':=H4) .refl (.inr DP) Px
     ·exact(Nw.trans (H':=H2) Nw.refl ux (Fr.of_same (g:=g) (lh:=lh) dN).lv).trans jI ((Fr.of_same (g:=g) (lh:=lh) dN).trans cA .refl).lv
   ·exact q B.c B.hs lh rest H2 pP (Int.le_refl _) (by omega) (Fr.of_same dN) .refl .refl
def p9:aM ["_law_book_here","_law_kinds","_law_marks","_law_many","_law_draws","_law_k","_law_standing","_law_entry_here","_law_number"] ["_law_book_here","_law_kinds","_law_marks","_law_many","_law_draws"] (aF zd):=aN
def XD{f C cF cE:Addr}{fd:FuncData}(F:aI K "_law_book" "_law_book" zd f fd)(T:Txt K mg)(CHK:b3 P w K mg base C "chalk" ["self"] 1 (JD C cF))(LE:aW P w K mg base "_law_entry" ["_law_kinds","_law_marks","_law_draws"] 1 AG)(xy:aW P w K mg base "_law_entered" ["_law_book_here","_law_entry_here"] 11 (zD C))
  (DT:aW P w K mg base "_law_detour" ["_law_book_here","_law_kinds","_law_marks","_law_draws"] 12 (JM C))(DG:b3 P w K mg base C "strike" ["self","number"] 1 (zE C cE)):
  az P w K mg base aL 13 f fd ["_law_book_here","_law_kinds","_law_marks","_law_many","_law_draws"] (Lc C):=by
 refine F.ok p9 (λvs H Q E h=>?_) (λau A outer s H vs Q E hr h=>?_)
 ·obtain⟨g,lh,rest,k,m,many,ld,ds,rfl,_⟩:=h
  rfl
 ·obtain⟨g,lh,rest,k,m,many,ld,ds,rfl,rD,xj,Ou,hd,hl,qN,nl,q⟩:=h;have k1:1<=k:=rD.k1;have k5:k<=5:=rD.k5
  refine⟨_,(@sC _ _ _ _ _ (bN Zm rfl (ji rfl T.range (@aC _ _ _ _ _ (pv 2) ae (by rfl))) (aO (i:=5) p9.nd rfl (Or.inl rfl)) (@sO _ _ _ (bA (CHK.pz0 hr (pv 0)))))
   (@sC _ _ _ _ _ (@sS _ 6 _ _ _ _ _ p9.nd rfl (Or.inl rfl) (eI ae) (by rfl) (.inl rfl))
   (@sC _ _ _ _ _ (bN Zm rfl (ji rfl T.range (@aC _ _ _ _ _ (pv 3) ae (by rfl))) (aO (i:=5) p9.nd rfl (Or.inl rfl)) (@sO _ _ _ (aR (aJ gQ (pv 2) af (aG _)) (@sC _ _ _ _ _ (bA (DT.pe hr (@aC _ _ _ _ _ (pv 0) (@aC _ _ _ _ _ (pv 1) (@aC _ _ _ _ _ (pv 2) (@aC _ _ _ _ _ (gK jw (pv 4) (dC (av fg af (pv 5))) (dC (av cV (av fg af (pv 5)) af))) ae (by rfl)) (by rfl)) (by rfl)) (by rfl))))
   (@sC _ _ _ _ _ (@sS _ 7 _ _ _ _ _ p9.nd rfl (Or.inl rfl) (LE.pe hr (@aC _ _ _ _ _ (pv 1) (@aC _ _ _ _ _ (pv 2) (@aC _ _ _ _ _ (gK jw (pv 4) (dC (av fg af (pv 5))) (dC (av cV (av fg af (pv 5)) af))) ae (by rfl)) (by rfl)) (by rfl))) (by rfl) (.inl rfl))
   (@sC _ _ _ _ _ (@sS _ 8 _ _ _ _ _ p9.nd rfl (Or.inl rfl) (xy.pe hr (@aC _ _ _ _ _ (pv 0) (@aC _ _ _ _ _ (pv 7) ae (by rfl)) (by rfl))) (by rfl) (.inl rfl))
   (@sO _ _ _ (aR (aJ iM (pv 8) cU (aG _)) (@sO _ _ _ (bA (eA PySem.F.plainAttrs_list PySem.F.slot_list_append PySem.F.type_list_append dZ (pv 6) (@aC _ _ _ _ _ (av Kh (cW (aq (pv 8) ae)) (pv 7)) ae (by rfl))))) aU))))) aU)))
   (@sC _ _ _ _ _ (aR (PW.pt (kF (aJ gQ (bq cO (by rfl) T.len PySem.boot_len (@aC _ _ _ _ _ (pv 6) ae (by rfl))) af (aG _)) (kA (aJ bZ (av bO (av iL (ax aK (pv 4) af (λ_ _=>rfl)) af) af) af (aG _))))) (@sO _ _ _ (bA (DG.eY hr (pv 0) (@aC _ _ _ _ _ (ax bI (eA PySem.F.plainAttrs_list PySem.F.slot_list_pop PySem.F.type_list_pop Wv (pv 6) (@aC _ _ _ _ _ (av bO (ax aK (pv 4) af (λ_ _=>rfl)) (bq cO (by rfl) T.len PySem.boot_len (@aC _ _ _ _ _ (pv 6) ae (by rfl)))) ae (by rfl))) af (λ_ _=>rfl)) ae (by rfl))))) aU)
   (@sO _ _ _ (@sR _ _ _ _ (pv 6))))))),?_⟩
  refine⟨_,rfl,_,rfl,by omega,by omega,qc (lo:=0) (n:=(m:Int).toNat) (λi σ H2=>(∃x,σ=[some (.ref g),some (.int k),some (.int m),some (.int many),some (.ref ld),x,none,none,none])/\aQ C H2 g lh ⟨k,i,[],1,[]⟩ rest/\Kp g H H2) ⟨⟨none,rfl⟩,rD,Kp.of (aa.refl H)⟩ ?_ ?_⟩
  ·rintro i σ H2 hi ⟨⟨x,rfl⟩,hB,kp⟩;obtain⟨dx,ls,hg,he⟩:=id hB.ob;exact⟨_,rfl,g,dx,_,rfl,hg,rfl,g,lh,_,rest,rfl,hB,λ_ H3 e9 rC=>⟨⟨_,rfl⟩,e9,kp.trans rC⟩,λz=>absurd (show i<24 by omega) z⟩
  rintro σ H2 ⟨⟨x,rfl⟩,hB,kp⟩;rw[Za]at hB;refine jq (by show 0<=1000;decide) λl H3 uy il s3=>?_;have e9:=hB.same s3;have DR:=hB.not uy;have cA:Fr H H3 g lh:=(Fr.kN hB kp).trans (Fr.of_same s3) .refl
  have rE:H l=none:=by
   cases e:H l with
   |none=>rfl
   |some o=>exact absurd uy ((Fr.kN (lh:=lh) hB kp).lv l o e)
  have llh:l≠lh:=λz=>DR (z▸Y4 _ (Y9 ..))
  refine⟨_,rfl,_,rfl,by omega,by omega,qc (lo:=0) (n:=(many:Int).toNat) (λi σ H4=>∃(x y z:Option V) (cI:Addr) (B:Bk) (ba:List Addr),σ=[some (.ref g),some (.int k),some (.int m),some (.int many),some (.ref ld),x,some (.ref l),y,z]/\aQ C H4 g cI B ba/\B.k=k/\B.n=m/\B.es.length<=i/\B.hs.length<=i/\Cons B/\fk B.es B.c/\Es H4 l B.es/\l≠cI/\l∉ba/\Fr H H4 g lh/\gp H lh cI)
   ⟨_,none,none,lh,_,rest,rfl,e9,rfl,rfl,Y3 _,Y3 _,rfl,fk.nil _,⟨[],il,(λ_ z=>nomatch z),rfl⟩,llh,(λz=>DR (Y4 _ (Y4 _ z))),cA,.refl⟩ ?_ ?_⟩
  ·rintro i σ H4 hi ⟨x,y,z,jJ,B,ju,rfl,eF,bk,bn,be,bh,bc,bu,oq,ot,rF,lu,jI⟩;have hi:i<many:=by omega
   have xA:aw H4 ld ds:=vB hd rD lu nl;have ld4:ld≠jJ:=jI.ne hd nl;refine⟨_,rfl,_,_,rfl,rfl,_,rfl,bF (λhm=>?_) λhm=>⟨_,_,_,jJ,B,ju,rfl,eF,bk,bn,by omega,by omega,bc,bu,oq,ot,rF,lu,jI⟩⟩;have hm:1<=m:=by have:=of_decide_eq_true hm;omega
   have e1:(3*(0+(i:Int)))=((3*i:Nat):Int):=by omega
   have e2:(3*(0+(i:Int))+3)=((3*i+3:Nat):Int):=by omega
   have l3:((ds.drop (3*i)).take (3*i+3-3*i)).length=3:=by rw[Zx,ZJ];omega
   refine⟨_,rfl,_,rfl,_,rfl,_,rfl,_,rfl,_,_,rfl,rfl,.inl ⟨by omega,by omega⟩,_,rfl,_,rfl,_,_,rfl,rfl,.inl ⟨by omega,by omega⟩,_,_,rfl,rfl,_,rfl,ku xA λlq H5 DI iq s5=>?_⟩;have iq:aw H5 lq (cn ds (some ((3*i:Nat):Int)) (some ((3*i+3:Nat):Int))):=by rw[<-e1, <-e2];exact iq
   rw[qu _ _ _ (by omega)]at iq;refine⟨g,jJ,lq,B,ju,_,by rw[bk,bn];rfl,eF.same s5,iq,l3,λz=>(eF.not DI) (z▸Y4 _ (Y9 ..)),by omega,by omega,bu,by omega,λc6 DS ou tD H6 uz hc6 hh6 fr6 DU xB=>?_⟩;have xC:Fr H4 H6 g jJ:=(Fr.of_same s5).trans fr6 .refl;have Py:gp H4 jJ ou:=gp.trans (H':=H5) .refl DU (Fr.of_same (g:=g) s5);have Ov:Fr H H6 g lh:=lu.trans xC jI;have tM:gp H lh ou:=jI.trans Py lu;have es6:Es H6 l B.es:=oq.fr eF xC ot
   have xB:l∉tD:=λz=>by
    rcases xB _ z with w|w
    ·exact rF w
    ·obtain⟨xs,h,_⟩:=oq.cnt;rw[s5 _ _ h]at w;cases w
   have xD:l≠ou:=by
    obtain⟨xs,h,_⟩:=oq.cnt;exact Py.ne h ot
   have hd6:aw H6 ld ds:=vB hd rD Ov nl;refine⟨_,rfl,_,rfl,_,rfl,_,rfl,_,_,rfl,rfl,.inl ⟨by omega,by omega⟩,_,rfl,_,rfl,_,_,rfl,rfl,.inl ⟨by omega,by omega⟩,_,_,rfl,rfl,_,rfl,ku hd6 λlr H7 OQ ir s7=>?_⟩;have ir:aw H7 lr (cn ds (some ((3*i:Nat):Int)) (some ((3*i+3:Nat):Int))):=by rw[<-e1, <-e2];exact ir
   rw[qu _ _ _ (by omega)]at ir;refine⟨k,m,lr,_,rfl,ir,l3,k1,k5,hm,by omega,λt e H8 ht it mH s8=>?_⟩;have DV:=s7.trans s8;have DX:=uz.same DV;have ui:=es6.same DV;have DJ:t≠g:=λz=>(uz.same s7).not ht (z▸Y9 ..);have Pz:Fr H H8 g lh:=Ov.trans (Fr.of_same DV) tM;have cc:Cons (⟨B.k,B.n,B.es,c6,DS⟩:Bk):=bc;have uu:fk B.es c6:=bu.mono hc6;refine⟨_,rfl,_,rfl,g,ou,_,tD,t,e,rfl,DX,it,by rw[bk,bn];exact mH,by show B.es.length<40;omega,λbr H9 s9=>?_,λnb H9 NH rB nw9 PB=>?_⟩
   ·exact⟨_,rfl,rfl,_,rfl,bE ⟨_,_,_,ou,_,tD,rfl,DX.same s9,bk,bn,by show B.es.length<=i+1;omega,by show DS.length<=i+1;omega,cc,uu,ui.same s9,xD,xB,Pz.trans (Fr.of_same s9) tM,tM⟩⟩
   ·refine⟨_,rfl,rfl,_,rfl,c4 ?_⟩;have PD:Fr H8 H9 g ou:=Fr.kN rB PB;have it9:H9 t=some (.tup e.told):=PB _ _ it DJ;obtain⟨ps,h1,h2,h3⟩:=ui.fr DX PD xD;have tl:=Tf e;refine⟨_,rfl,.inl ⟨rfl,_,ah.of h1⟩,_,rfl,by show 1<=sizeLine;decide,λp1 uw=>?_⟩;have sA:aa H9 (upd H9 p1 (.tup [.int c6])):=(aa.refl H9).upd uw;have iA:upd H9 p1 (.tup [.int c6]) p1=some (.tup [.int c6]):=ak;generalize upd H9 p1 (.tup [.int c6])=HA at sA iA;refine⟨_,rfl,p1,t,_,_,rfl,rfl,aZ.of iA,aZ.of (sA _ _ it9),(λz=>nomatch z),tl.1,λz=>absurd z tl.2,λ_ p2 jB=>?_⟩;rw[aal e c6];have sB:aa HA (upd HA p2 (.tup (e.re c6).vs)):=(aa.refl HA).upd jB;have iB:upd HA p2 (.tup (e.re c6).vs) p2=some (.tup (e.re c6).vs):=ak;generalize upd HA p2 (.tup (e.re c6).vs)=HB at sB iB;have xE:=sA.trans sB;have ly:=xE _ _ h1;have PF:=rB.same xE
    have n9:l∉g::ou::NH:=λz=>by
     rcases Y5.mp z with z|z
     ·exact PF.sU ly z
     rcases Y5.mp z with z|z
     ·exact xD z
     ·rcases nw9 _ z with w|w
      ·exact xB w
      ·obtain⟨xs,h,_⟩:=ui.cnt;rw[h]at w;cases w
    refine⟨l,_,_,rfl,rfl,ly,bw (by rw[Y1, <-Y1 (f:=(·.2)),h3];show B.es.length<=_;omega),?_⟩;refine⟨_,_,_,ou,_,NH,rfl,PF.other n9,bk,bn,?_,?_,cc.add nb,uu.add e,Es.snoc ly (λp hp=>xE _ _ (h2 p hp)) h3 iB,xD,(λz=>n9 (Y4 _ (Y4 _ z))),?_,tM⟩
    ·show(B.es++[e.re c6]).length<=i+1;simp;omega
    ·show DS.length<=i+1;omega
    ·have fB:=Pz.trans (PD.trans (Fr.of_same xE) .refl) tM;exact⟨λb o e n1 n2=>by rw[ai (λz=>by rw[z,rE]at e;cases e)];exact fB.kp b o e n1 n2,λb o e=>by rw[ai (λz=>by rw[z,rE]at e;cases e)];exact fB.lv b o e⟩
  ·rintro σ H4 ⟨x,y,z,jJ,B,ju,rfl,eF,bk,bn,be,bh,bc,bu,oq,ot,rF,lu,jI⟩;rw[Za]at be bh;have xA:aw H4 ld ds:=vB hd rD lu nl;obtain⟨ps,p1,p2,p3⟩:=id oq;have fR:ps.length=B.es.length:=by rw[<-p3,Y1]
   have DY:(ps.map λp=>V.ref p.1).length=B.es.length:=by rw[Y1,fR]
   have fin:∀H',aQ C H' g jJ B ju->Es H' l B.es->Fr H H' g lh->Q (.ref l) H':=λH' k9 es' CZ=>q l jJ B ju H' k9 bk bn be (by omega) bc bu es' ot rF rE CZ jI;refine⟨_,rfl,l,_,rfl,.inl (ah.of p1),_,_,rfl,rfl,_,rfl,bF (λz=>?_) λ_=>⟨_,rfl,fin H4 eF oq lu⟩⟩;have z:0<B.es.length:=by have:=of_decide_eq_true z;rw[DY]at this;omega
   refine⟨_,rfl,aT 0 xA (by omega) ⟨_,_,rfl,rfl,⟨by show(0:Int)<10;decide,by show(10:Int)<1073741824;decide⟩,_,_,rfl,rfl,(by show(0:Int)<2;decide),rfl,_,rfl,bF (λ_=>?_) λ_=>⟨_,rfl,fin H4 eF oq lu⟩⟩⟩;obtain⟨lz,DZ,jd,he3⟩:=id eF.ob;have Ow:(0:Int)<((ps.map λp=>V.ref p.1).length:Int):=by rw[DY];omega
   obtain⟨j,hj,ej⟩:∃j:Nat,j<B.es.length/\ds.getD 1 0%((ps.map λp=>V.ref p.1).length:Int)=(j:Int):=by
    have a0:=Zz (ds.getD 1 0) (show((ps.map λp=>V.ref p.1).length:Int)≠0 by omega);have a1:=Zy (ds.getD 1 0) Ow;exact⟨(ds.getD 1 0%((ps.map λp=>V.ref p.1).length:Int)).toNat,by omega,by omega⟩
   obtain⟨y',ey,ee,my⟩:=acY p2 p3 hj;have mem:y'.2.num∈B.es.map En.num:=Zh.mpr ⟨y'.2,Y6 ee,rfl⟩;have lj:(ps.map λp=>V.ref p.1)[j]?=some (V.ref y'.1):=by rw[Zf,ey];rfl
   have ny':y'.1≠l:=λz=>by rw[z,p1]at my;cases my
   refine⟨_,rfl,g,lz,_,rfl,jd,rfl,_,rfl,.inl ⟨rfl,_,ah.of p1⟩,_,rfl,aT 1 xA (by omega) ⟨_,rfl,l,_,rfl,.inl (ah.of p1),_,_,rfl,rfl,Ow,l,_,_,j,V.ref y'.1,rfl,rfl,p1,by omega,by omega,?_,lj,cT (by rw[ai ny'];exact my) (MI _) ?_⟩⟩
   ·rw[ej];obtain⟨j',q1,q2,_⟩:=Am (mY lj)
    have:j'=j:=by
     have:=PySem.StrLaws.seqIndex_nonneg (n:=(ps.map λp=>V.ref p.1).length) (show(0:Int)<=(j:Int)by omega) (by rw[DY];omega);rw[this]at q1;have:=Zg q1;omega
    rw[this]at q1;exact q1
   have n4:l∉g::jJ::ju:=λz=>by
    rcases Y5.mp z with z|z
    ·exact eF.sU p1 z
    rcases Y5.mp z with z|z
    ·exact ot z
    ·exact rF z
   have jG:=eF.other (o:=.lst ((ps.map λp=>V.ref p.1).eraseIdx j)) n4;have D0:=Es.pop p1 p2 p3 bu ee;have f5:Fr H (upd H4 l (.lst ((ps.map λp=>V.ref p.1).eraseIdx j))) g lh:=⟨λb o e n1 n2=>by rw[ai (λz=>by rw[z,rE]at e;cases e)];exact lu.kp b o e n1 n2,λb o e=>by rw[ai (λz=>by rw[z,rE]at e;cases e)];exact lu.lv b o e⟩;generalize upd H4 l (.lst ((ps.map λp=>V.ref p.1).eraseIdx j))=H5 at jG D0 f5;refine⟨g,jJ,B,ju,y'.2.num,rfl,jG,λ_ H6 tD uz DU kp6=>?_,λz=>absurd mem z⟩;have xF:Fr H5 H6 g jJ:=Fr.kN uz kp6;refine⟨_,rfl,q l jJ (B.less y'.2.num) tD H6 uz bk bn (ZQ (List.length_filter_le _ _) be) (by show B.hs.length<=40;omega) (Cons.less jG bc _) (bu.filter _) (D0.fr jG xF ot) ot (λz=>?_) rE (f5.trans xF jI) jI⟩;rcases DU _ z with w|w
   ·exact rF w
   ·obtain⟨xs,h,_⟩:=D0.cnt;rw[h]at w;cases w
def RQ:aM ["_law_standing"] ["_law_standing"] (aF ze):=aN
def XE{f:Addr}{fd:FuncData}(F:aI K "_law_rows" "_law_rows" ze f fd):az P w K mg base aL 1 f fd ["_law_standing"] oG:=by
 refine F.ok RQ (λvs H Q E h=>?_) (λau A outer s H vs Q E hr h=>?_)
 ·obtain⟨l,fp,es,rfl,_⟩:=h
  rfl
 ·obtain⟨l,fp,es,rfl,he,hl,q⟩:=h;obtain⟨ps,h1,h2,h3,h4,h5⟩:=he.ob;have lp:ps.length=es.length:=by rw[<-h3,Y1]
  refine⟨_,(@sO _ _ _ (@sR _ _ _ _ (HX [] [] (bH (pv 0)) (λC s H fp=>aJ bZ (ax (show gd _ (dM (gD K))from bI) (pv 0) af (λ_ _=>rfl)) fT (aG _)) (λC s H fp=>cW (aq (ax (show gd _ (dM (gD K))from bI) (pv 0) af (λ_ _=>rfl)) (aq (ax (show gd _ (dM (gD K))from bI) (pv 0) af (λ_ _=>rfl)) (aq (ax (show gd _ (dM (gD K))from bI) (pv 0) af (λ_ _=>rfl)) (aq (ax (show gd _ (dM (gD K))from bI) (pv 0) af (λ_ _=>rfl)) ae))))) oI))),?_⟩;refine⟨_,rfl,l,rfl,⟨_,ah.of h1⟩,za (xs:=ps.map λp=>V.ref p.1) λD hD=>⟨λi ys H2=>∃qs:Ps,ys=(qs.map λp=>V.ref p.1)/\qs.length<=i/\Tl H2 D qs/\qs.map (·.2)=rowsOf ((ps.take i).map (·.2))/\aa H H2,⟨[],rfl,Y3 _,⟨ak,(λ_ z=>nomatch z)⟩,rfl,(aa.refl H).upd hD⟩,?_,?_,?_⟩⟩
  ·rintro i ys H2 hi ⟨qs,rfl,ql,tl,_,s2⟩;rw[Y1]at hi;exact⟨s2.seq (ah.of h1),tl.is,bw (by rw[Y1];omega)⟩
  ·rintro i x ys H2 hi ⟨qs,rfl,ql,tl,er,s2⟩ Q1 Q0 q1 q0;rw[Zf]at hi;cases ei:ps[i]? with
   |none=>rw[ei]at hi;cases hi
   |some p=>
    rw[ei]at hi;cases hi;obtain⟨bT,nX⟩:=ZL.mp ei;have hp:=s2 _ _ (h2 p (Y6 ei));have et:(ps.take (i+1)).map (·.2)=(ps.take i).map (·.2)++[p.2]:=by rw[Zj bT,nX,Ze];rfl
    obtain⟨pa,pe⟩:=p;cases pe with
    |row j a k b=>
     refine⟨_,rfl,cT hp rfl ⟨rfl,_,rfl,kI (by decide+kernel) ?_⟩⟩;refine⟨_,rfl,cT hp rfl ⟨_,rfl,cT hp rfl ⟨_,rfl,cT hp rfl ⟨_,rfl,cT hp rfl ⟨by show 4<=sizeLine;decide,λt ht=>?_⟩⟩⟩⟩⟩;have nD:D≠t:=a8 tl.is ht;refine q1 _ _ (by rw[ai nD];exact tl.is) ⟨qs++[(t,[j,a,k,b])],by rw[Ze];rfl,by simp;omega,?_,?_,(s2.fM ht).upd hD⟩
     ·refine⟨by rw[ak,Ze];rfl,λp kW=>?_⟩;rcases Y7.mp kW with e|e
      ·have:=tl.tp p e;have n1:p.1≠D:=λz=>by rw[z,tl.is]at this;cases this
       rw[ai n1,ai (a8 this ht)];exact this
      ·obtain rfl:=Y2.mp e;show upd _ D _ t=_;rw[ai nD.symm,ak];rfl
     ·rw[et,qa,Ze,er];rfl
    |ap j a b=>
     refine⟨_,rfl,cT hp rfl ⟨rfl,_,rfl,cm (by decide+kernel) ?_⟩⟩;refine q0 _ ⟨qs,rfl,by omega,tl,?_,s2⟩;rw[et,qa,er];exact(ZX _).symm
  ·rintro ys H2 ⟨qs,rfl,ql,tl,er,s2⟩;rw[Y1,ZE (Y3 _),h3]at er;exact q D qs H2 hD tl er s2
def Ct:aM ["_law_labels","_law_one","_law_two","_law_low","_law_high"] ["_law_labels","_law_one","_law_two"] (aF Pa):=aN
def ade{f:Addr}{fd:FuncData}(F:aI K "_law_joined" "_law_joined" Pa f fd)(TM:qH mg):az P w K mg base aL 1 f fd ["_law_labels","_law_one","_law_two"] (N6 K):=by
 refine F.ok Ct (λvs H Q E h=>?_) (λau A outer s H vs Q E hr h=>?_)
 ·obtain⟨l,ls,a,b,rfl,_⟩:=h
  rfl
 ·obtain⟨l,ls,a,b,rfl,hl,ha,hb,hn,k⟩:=h
  refine⟨_,a9 (bJ (i:=3) Ct.nd rfl (Or.inr rfl) (bq (zx rfl) (by rfl) TM.min A6 (aq (ax aK (pv 0) (pv 1) (λ_ _=>rfl)) (aq (ax aK (pv 0) (pv 2) (λ_ _=>rfl)) ae))))
   <|a9 (bJ (i:=4) Ct.nd rfl (Or.inr rfl) (bq (zw rfl) (by rfl) TM.max sP (aq (ax aK (pv 0) (pv 1) (λ_ _=>rfl)) (aq (ax aK (pv 0) (pv 2) (λ_ _=>rfl)) ae))))
   <|a7 (fF (gL ["_law_low","_law_high"] [3,4] (bH (pv 0)) (λC s H fp=>zN (aJ bZ (pv 0) (pv 2) (aG _)) (pv 1) (pv 0)) (Aq rfl rfl))),?_⟩
  refine⟨_,rfl,_,rfl,aT a hl ha ⟨_,rfl,_,rfl,aT b hl hb ⟨_,_,rfl,?_⟩⟩⟩;rw[A7];refine⟨_,rfl,_,rfl,aT a hl ha ⟨_,rfl,_,rfl,aT b hl hb ⟨_,_,rfl,?_⟩⟩⟩;rw[A8];refine⟨_,rfl,l,rfl,⟨_,ah.of hl⟩,uW (λm=>if m=max (ls.getD a 0) (ls.getD b 0)then min (ls.getD a 0) (ls.getD b 0)else m) (ah.of hl) (bw (by omega)) (λz _ H' Q' q'=>?_) (qC k)⟩;refine⟨_,rfl,_,rfl,rfl,_,rfl,?_⟩;refine bF (λhe=>?_) (λhe=>?_)
  ·have he:z=max (ls.getD a 0) (ls.getD b 0):=by simpa using he
   rw[if_pos he]at q';exact⟨_,rfl,q'⟩
  ·have he:¬z=max (ls.getD a 0) (ls.getD b 0):=by simpa using he
   rw[if_neg he]at q';exact⟨_,rfl,q'⟩
def so(a b:Int):decide (V.int a=V.int b)=decide (a=b):=by
 by_cases h:a=b
 ·rw[ZN h,h];exact ZN rfl
 ·rw[ZO h];exact ZO λz=>h (V.int.inj z)
def lW(l p q:List Int):Prop:=p.getD 2 0=q.getD 2 0->decide (l.getD (My.mk p 1) 0=l.getD (My.mk q 1) 0)=decide (l.getD (My.mk p (-1)) 0=l.getD (My.mk q (-1)) 0)
def Vc{ps:Ps}{l:List Int}(h:∀p∈ps,∀q∈ps,lW l p.2 q.2):closed (ps.map (·.2)) l:=by
 intro a ha b hb k s hs e;obtain⟨p,hp,rfl⟩:=Zh.mp ha;obtain⟨q,hq,rfl⟩:=Zh.mp hb;have f:=h p hp q hq k;have hs:s=1\/s= -1:=hs;rcases hs with rfl|rfl
 ·rw[ZN e]at f;exact of_decide_eq_true f.symm
 ·rw[ZN e]at f;exact of_decide_eq_true f
def aaG{rs:List (List Int)}{st:Ps}{n:Nat}{l p q:List Int}(h:fD n rs st l)(hp:p∈rs)(hq:q∈rs)(rp:cC n p)(rq:cC n q)(k:p.getD 2 0=q.getD 2 0)(eZ:decide (l.getD (My.mk p 1) 0=l.getD (My.mk q 1) 0)≠decide (l.getD (My.mk p (-1)) 0=l.getD (My.mk q (-1)) 0))(c:Nat->Int)(cl:Cl rs st c):c (My.mk p 1)=c (My.mk q 1)/\c (My.mk p (-1))=c (My.mk q (-1)):=by
 by_cases e:l.getD (My.mk p 1) 0=l.getD (My.mk q 1) 0
 ·have e1:=h.snd c cl _ _ (rp.mk 1).2 (rq.mk 1).2 e;exact⟨e1,cl.2 p hp q hq k 1 (.inl rfl) e1⟩
 ·have e2:l.getD (My.mk p (-1)) 0=l.getD (My.mk q (-1)) 0:=by
   by_cases e2:l.getD (My.mk p (-1)) 0=l.getD (My.mk q (-1)) 0
   ·exact e2
   ·exact absurd (by rw[ZO e,ZO e2]) eZ
  have e1:=h.snd c cl _ _ (rp.mk (-1)).2 (rq.mk (-1)).2 e2;exact⟨cl.2 p hp q hq k (-1) (.inr rfl) e1,e1⟩
structure tN(H0 H:Hp)(q:Addr)(n:Nat)(rs:List (List Int))(st:Ps)(l:List Int):Prop where
 lo:fD n rs st l
 il:aw H q l
 sa:aa H0 H
def hV:aM ["_law_marks","_law_rows_here","_law_start","_law_labels","_law_a","_law_b","_law_moving","_law_one","_law_two","_law_near","_law_far"] ["_law_marks","_law_rows_here","_law_start"] (aF M0):=aN
def XF{f:Addr}{fd:FuncData}(F:aI K "_law_folded" "_law_folded" M0 f fd)(T:Txt K mg)(J:aW P w K mg base "_law_joined" ["_law_labels","_law_one","_law_two"] 1 (N6 K)):az P w K mg base aL 2 f fd ["_law_marks","_law_rows_here","_law_start"] KI:=by
 refine F.ok hV (λvs H Q E h=>?_) (λau A outer s H vs Q E hr h=>?_)
 ·obtain⟨n,lr,ls,ps,st,rfl,_⟩:=h
  rfl
 ·obtain⟨n,lr,ls,ps,st,rfl,tr,ts,gn,bM,hn,bY,xi,k⟩:=h
  refine⟨_,(a9 (bJ (i:=3) hV.nd rfl (Or.inl rfl) (oB (Gq rfl) rfl T.list jL (aq (Mp rfl T.range (aq (pv 0) ae)) ae)))
   (a9 (bN Zm rfl (bH (pv 2)) (eJ rfl (bt (aO (i:=4) hV.nd rfl (Or.inl rfl)) (bt (aO (i:=5) hV.nd rfl (Or.inl rfl)) eG))) (a7 (bJ (i:=3) hV.nd rfl (Or.inl rfl) (J.pe hr (aq (pv 3) (aq (pv 4) (aq (pv 5) ae)))))))
   (a9 (bJ (i:=6) hV.nd rfl (Or.inl rfl) fH)
   (a9 (rW Zm (gN (pv 6)) (a9 (bJ (i:=6) hV.nd rfl (Or.inl rfl) fH)
   (a7 (bN Zm rfl (bH (pv 1)) (aO (i:=7) hV.nd rfl (Or.inl rfl)) (a7 (bN Zm rfl (bH (pv 1)) (aO (i:=8) hV.nd rfl (Or.inl rfl)) (a9 (bJ (i:=9) hV.nd rfl (Or.inl rfl) (iN bZ (ax aK (pv 3) (ax bI (pv 7) af (λ_ _=>rfl)) (λ_ _=>rfl)) (ax aK (pv 3) (ax bI (pv 8) af (λ_ _=>rfl)) (λ_ _=>rfl)) (aG _)))
   (a9 (bJ (i:=10) hV.nd rfl (Or.inl rfl) (iN bZ (ax aK (pv 3) (ax bI (pv 7) af (λ_ _=>rfl)) (λ_ _=>rfl)) (ax aK (pv 3) (ax bI (pv 8) af (λ_ _=>rfl)) (λ_ _=>rfl)) (aG _)))
   (a7 (aR (PW.pt (kF (aJ bZ (ax bI (pv 7) af (λ_ _=>rfl)) (ax bI (pv 8) af (λ_ _=>rfl)) (aG _)) (kA (aJ ny (pv 9) (pv 10) (aG _))))) (a9 (bJ (i:=3) hV.nd rfl (Or.inl rfl) (J.pe hr (aq (pv 3) (aq (ax bI (pv 7) af (λ_ _=>rfl)) (aq (ax bI (pv 8) af (λ_ _=>rfl)) ae)))))
   (a9 (bJ (i:=3) hV.nd rfl (Or.inl rfl) (J.pe hr (aq (pv 3) (aq (ax bI (pv 7) af (λ_ _=>rfl)) (aq (ax bI (pv 8) af (λ_ _=>rfl)) ae)))))
   (a7 (bJ (i:=6) hV.nd rfl (Or.inl rfl) fH)))) aU))))))))))
   (a7 (fF (pv 3))))))),?_⟩
  refine⟨_,rfl,_,rfl,λr cL=>Jm (K:=K) ak (by omega) λq H1 hq iq s1=>?_⟩;have s1:aa H H1:=((aa.refl H).upd cL).trans s1
  refine⟨_,rfl,ls,rfl,⟨_,ah.of (ts.same s1).is⟩,cS (K:=K) (a:=ls) (xs:=st.map λp=>V.ref p.1) (λi σ H2=>∃(x y:Option V) (q:Addr),σ=[some (.int n),some (.ref lr),some (.ref ls),some (.ref q),x,y,none,none,none,none,none]/\aw H2 q (fN n (st.take i))/\aa H H2)
   ⟨none,none,q,rfl,iq,s1⟩ (λi σ H2 _ ⟨_,_,_,_,_,k2⟩=>ah.of (ts.same k2).is) ?_ ?_⟩
  ·rintro i y σ H2 hi ⟨x,z,q,rfl,i2,s2⟩;obtain⟨p,rfl,ep⟩:=kD hi;obtain⟨a,b,er,ha,hb⟩:=bM p (Y6 ep);have ht:=(ts.same s2).tp p (Y6 ep);rw[er]at ht;have L2:=HP (i:=i) bM;refine⟨p.1,_,rfl,aZ.of ht,rfl,_,_,rfl,_,_,rfl,rfl,?_⟩;refine⟨_,rfl,_,rfl,_,rfl,q,_,a,b,rfl,i2,by rw[L2.len];exact ha,by rw[L2.len];exact hb,by rw[L2.len];omega,λq' H3 qM i3 s3=>?_⟩;refine⟨_,_,q',rfl,?_,s2.trans s3⟩;rw[HN ep,er];exact i3
  rintro σ H2 ⟨x,z,q,rfl,i2,s2⟩;rw[Y1,List.take_length]at i2
  refine⟨λm σ H3=>∃(q:Addr) (l:List Int) (mv:Bool) (u v t w:Option V),σ=[some (.int n),some (.ref lr),some (.ref ls),some (.ref q),x,z,some (.bl mv),u,v,t,w]/\tN H H3 q n (ps.map (·.2)) st l/\(mv=false->∀p∈ps,∀q∈ps,lW l p.2 q.2)/\m=2*bG l+mv.toNat,
   ⟨_,q,_,true,none,none,none,none,rfl,⟨zX bM,i2,s2⟩,(λz=>nomatch z),rfl⟩,?_⟩
  rintro m σ H3 ⟨q,l,mv,u,v,t,w,rfl,ok,hf,rfl⟩;refine⟨_,rfl,mv,rfl,?_⟩;cases mv with
  |false=>exact bE ⟨_,rfl,k l q H3 ok.il ok.lo (Vc (hf rfl)) ok.sa⟩
  |true=>
   clear hf;refine c4 ⟨λσ H4=>∃(q:Addr) (l':List Int) (mv:Bool) (u v t w:Option V),σ=[some (.int n),some (.ref lr),some (.ref ls),some (.ref q),x,z,some (.bl mv),u,v,t,w]/\tN H H4 q n (ps.map (·.2)) st l'/\(mv=false->∀p∈ps,∀q∈ps,lW l' p.2 q.2)/\bG l'+mv.toNat<=bG l,?_,?_⟩
   ·rintro σ H4 ⟨q,l',mv,u,v,t,w,rfl,pN,hf',hm⟩;refine⟨_,?_,q,l',mv,u,v,t,w,rfl,pN,hf',rfl⟩;have:mv.toNat<=1:=by cases mv<;>decide
    show 2*bG l'+mv.toNat<2*bG l+1;omega
   ·refine⟨_,rfl,lr,rfl,⟨_,ah.of (tr.same ok.sa).is⟩,cS (K:=K) (a:=lr) (xs:=ps.map λp=>V.ref p.1) (λi σ H4=>∃(q:Addr) (l':List Int) (mv:Bool) (u v t w:Option V),σ=[some (.int n),some (.ref lr),some (.ref ls),some (.ref q),x,z,some (.bl mv),u,v,t,w]/\tN H H4 q n (ps.map (·.2)) st l'/\(mv=false->∀p∈ps.take i,∀q∈ps,lW l' p.2 q.2)/\bG l'+mv.toNat<=bG l)
     ⟨q,l,false,u,v,t,w,rfl,ok,(λ_ _ z=>nomatch z),Y3 _⟩ (λi σ H4 _ ⟨_,_,_,_,_,_,_,_,o,_⟩=>ah.of (tr.same o.sa).is) ?_ (λσ H4 h=>?_)⟩
    rotate_left
    ·obtain⟨q,l',mv,u,v,t,w,e,o,hf,hm⟩:=h;rw[Y1,List.take_length]at hf;exact⟨q,l',mv,u,v,t,w,e,o,hf,hm⟩
    rintro i y σ H4 hi ⟨q4,l4,mv4,u4,v4,t4,w4,rfl,qW,PH,PJ⟩;obtain⟨p1,rfl,PK⟩:=kD hi;have m1:=Y6 PK
    refine⟨_,rfl,lr,rfl,⟨_,ah.of (tr.same qW.sa).is⟩,cS (K:=K) (a:=lr) (xs:=ps.map λp=>V.ref p.1) (λj σ H4=>∃(q:Addr) (l':List Int) (mv:Bool) (v t w:Option V),σ=[some (.int n),some (.ref lr),some (.ref ls),some (.ref q),x,z,some (.bl mv),some (.ref p1.1),v,t,w]/\tN H H4 q n (ps.map (·.2)) st l'/\(mv=false->(∀p∈ps.take i,∀q∈ps,lW l' p.2 q.2)/\∀q∈ps.take j,lW l' p1.2 q.2)/\bG l'+mv.toNat<=bG l)
     ⟨q4,l4,mv4,v4,t4,w4,rfl,qW,(λz=>⟨PH z,λ_ z=>nomatch z⟩),PJ⟩ (λi σ H4 _ ⟨_,_,_,_,_,_,_,o,_⟩=>ah.of (tr.same o.sa).is) ?_ (λσ H4 h=>?_)⟩
    rotate_left
    ·obtain⟨q,l',mv,v,t,w,e,o,hf,hm⟩:=h;rw[Y1,List.take_length]at hf;refine⟨q,l',mv,_,v,t,w,e,o,λz p hp=>?_,hm⟩;obtain⟨nT,e1⟩:=ZL.mp PK;rw[Zj nT]at hp;rcases Y7.mp hp with h'|h'
     ·exact(hf z).1 p h'
     ·rw[e1]at h';obtain rfl:=Y2.mp h';exact(hf z).2
    clear ok qW PJ PH;rintro j y2 σ H5 iE ⟨q5,l5,PL,v5,t5,w5,rfl,je,PM,hm5⟩;obtain⟨p2,rfl,PN⟩:=kD iE;have m2:=Y6 PN;have t1:=(tr.same je.sa).tp p1 m1;have t2:=(tr.same je.sa).tp p2 m2;have r1:=gn p1 m1;have r2:=gn p2 m2;obtain⟨n1,a1,k1,b1,PQ,PR,PV⟩:=gn p1 m1;obtain⟨n2,a2,k2,b2,PY,PZ,P0⟩:=gn p2 m2;have x1:My.mk p1.2 1=a1/\My.mk p1.2 (-1)=b1/\p1.2.getD 2 0=k1:=by rw[PQ];exact⟨Za a1,Za b1,rfl⟩
    have x2:My.mk p2.2 1=a2/\My.mk p2.2 (-1)=b2/\p2.2.getD 2 0=k2:=by rw[PY];exact⟨Za a2,Za b2,rfl⟩
    rw[PQ]at t1;rw[PY]at t2;have L5:=je.lo.aD.len;refine⟨_,rfl,_,rfl,fh 1 t1 (show 1<4 by decide) (aT a1 je.il (by omega) ⟨_,rfl,_,rfl,fh 1 t2 (show 1<4 by decide) (aT a2 je.il (by omega) ⟨rfl,?_⟩)⟩)⟩;rw[so];refine⟨_,rfl,_,rfl,fh 3 t1 (show 3<4 by decide) (aT b1 je.il (by omega) ⟨_,rfl,_,rfl,fh 3 t2 (show 3<4 by decide) (aT b2 je.il (by omega) ⟨rfl,?_⟩)⟩)⟩;rw[so]
    have jv:∀(t w:Option V),lW l5 p1.2 p2.2->∃(q:Addr) (l':List Int) (mv:Bool) (v t' w':Option V),([some (.int n),some (.ref lr),some (.ref ls),some (.ref q5),x,z,some (.bl PL),some (.ref p1.1),some (.ref p2.1),t,w]:St)=[some (.int n),some (.ref lr),some (.ref ls),some (.ref q),x,z,some (.bl mv),some (.ref p1.1),v,t',w']/\tN H H5 q n (ps.map (·.2)) st l'/\(mv=false->(∀p∈ps.take i,∀q∈ps,lW l' p.2 q.2)/\∀q∈ps.take (j+1),lW l' p1.2 q.2)/\bG l'+mv.toNat<=bG l:=λt w hfi=>by
     refine⟨q5,l5,PL,_,t,w,rfl,je,λz=>⟨(PM z).1,λp hp=>?_⟩,hm5⟩;obtain⟨nT,e1⟩:=ZL.mp PN;rw[Zj nT]at hp;rcases Y7.mp hp with h'|h'
     ·exact(PM z).2 p h'
     ·rw[e1]at h';obtain rfl:=Y2.mp h';exact hfi
    refine⟨_,rfl,fh 2 t1 (show 2<4 by decide) ⟨_,rfl,fh 2 t2 (show 2<4 by decide) ⟨rfl,_,rfl,?_⟩⟩⟩;refine bF (λhk=>?_) (λhk=>jv _ _ λz=>absurd z (by rw[x1.2.2,x2.2.2];simpa using hk));have hk:k1=k2:=by simpa using hk
    refine⟨_,rfl,_,rfl,rfl,_,rfl,?_⟩;refine bF (λeZ=>?_) (λeZ=>jv _ _ λ_=>?_)
    rotate_left
    ·rw[x1.1,x1.2.1,x2.1,x2.2.1];simpa using eZ
    have eZ:decide (l5.getD a1 0=l5.getD a2 0)≠decide (l5.getD b1 0=l5.getD b2 0):=λe=>by
     rw[e]at eZ;simp at eZ
    have lt:=aby je.lo.aD PR PZ PV P0 eZ;have bo:=aaG je.lo (Zh.mpr ⟨p1,m1,rfl⟩) (Zh.mpr ⟨p2,m2,rfl⟩) r1 r2 (by rw[x1.2.2,x2.2.2];exact hk) (by rw[x1.1,x1.2.1,x2.1,x2.2.1];exact eZ);rw[x1.1,x1.2.1,x2.1,x2.2.1]at bo;have lo6:=je.lo.jn bM PR PZ λc cl=>(bo c cl).1;have lo7:=lo6.jn bM PV P0 λc cl=>(bo c cl).2;refine⟨_,rfl,_,rfl,fh 1 t1 (show 1<4 by decide) ⟨_,rfl,fh 1 t2 (show 1<4 by decide) ⟨q5,l5,a1,a2,rfl,je.il,by omega,by omega,by omega,λq7 H7 f7 i7 s7=>?_⟩⟩⟩;refine⟨_,rfl,_,rfl,fh 3 (s7 _ _ t1) (show 3<4 by decide) ⟨_,rfl,fh 3 (s7 _ _ t2) (show 3<4 by decide) ⟨q7,_,b1,b2,rfl,i7,by rw[uY];omega,by rw[uY];omega,by rw[uY];omega,λq8 H8 f8 i8 s8=>?_⟩⟩⟩;refine⟨q8,_,true,_,_,_,rfl,⟨lo7,i8,(je.sa.trans s7).trans s8⟩,(λz=>nomatch z),?_⟩;show _+1<=_;omega
def yy:aM ["_law_labels","_law_known","_law_label"] ["_law_labels"] (aF yK):=aN
def Vd{f:Addr}{fd:FuncData}(F:aI K "_law_ranked" "_law_ranked" yK f fd):az P w K mg base aL 1 f fd ["_law_labels"] vM:=by
 refine F.ok yy (λvs H Q E h=>?_) (λau A outer s H vs Q E hr h=>?_)
 ·obtain⟨a,l,rfl,_⟩:=h
  rfl
 ·obtain⟨a,l,rfl,ha,ll,q⟩:=h
  refine⟨_,(@sC _ _ _ _ _ (bJ (i:=1) yy.nd rfl (Or.inr rfl) (eI ae))
   (@sC _ _ _ _ _ (bN Zm rfl (bH (pv 0)) (aO (i:=2) yy.nd rfl (Or.inl rfl)) (@sO _ _ _ (aR (aJ Gp (pv 2) (pv 1) rfl) (@sO _ _ _ (bA (eA PySem.F.plainAttrs_list PySem.F.slot_list_append PySem.F.type_list_append dZ (pv 1) (@aC _ _ _ _ _ (pv 2) ae (by rfl))))) aU)))
   (@sO _ _ _ (@sR _ _ _ _ (gL ["_law_known"] [1] (bH (pv 0)) (λC s H fp=>C7 K rfl (eA PySem.F.plainAttrs_list PySem.F.slot_list_index PySem.F.type_list_index (Co K rfl) (pv 1) (aq (pv 0) ae))) (jx rfl)))))),?_⟩
  refine hZ [] λd H1 hd i1 s1=>?_;refine⟨_,rfl,a,rfl,⟨_,ah.of (s1.ints ha)⟩,cS (K:=K) (a:=a) (xs:=l.map V.int) (λi σ H2=>∃(x:Option V),σ=[some (.ref a),some (.ref d),x]/\aw H2 d (b7 (l.take i))/\aa H H2) ⟨none,rfl,i1,s1⟩ (λi σ H2 _ ⟨_,_,_,s2⟩=>ah.of (s2.ints ha)) ?_ ?_⟩
  ·rintro i v σ H2 hi ⟨x,rfl,h2,s2⟩;obtain⟨z,rfl,ez⟩:=gu hi;obtain⟨bT,ei⟩:=ZL.mp ez;have et:l.take (i+1)=l.take i++[z]:=by rw[Zj bT,ei]
   refine⟨_,rfl,_,rfl,d,_,rfl,.inl (ah.of h2),rfl,IH _,_,rfl,?_⟩;show if(!j7 (V.int z) ((b7 (l.take i)).map V.int))=true then _ else _
   rw[Xa];have kl:=AH (l.take i);have:(l.take i).length<=l.length:=by rw[Zx];omega
   by_cases m:z∈b7 (l.take i)
   ·rw[ZN m];refine bE ⟨_,rfl,?_,s2⟩;rw[et,ve,if_pos m];exact h2
   ·rw[ZO m];refine c4 ⟨_,rfl,.inl ⟨rfl,_,ah.of h2⟩,_,rfl,d,_,_,rfl,rfl,h2,bw (by rw[Y1];omega),?_⟩;refine⟨_,rfl,?_,s2.upd hd⟩;rw[et,ve,if_neg m];exact aw.snoc
  ·rintro σ H2 ⟨x,rfl,h2,s2⟩;rw[Y1,List.take_length]at h2;refine⟨_,rfl,a,rfl,⟨_,ah.of (s2.ints ha)⟩,G4 (λx=>((b7 l).idxOf x:Nat)) (s2.ints ha) (by omega) (λz hz H' Q' s' q'=>?_) λD H3 hD i3 s3=>q D H3 (s2.free hD) i3 (s2.trans s3)⟩;exact⟨_,rfl,.inl ⟨rfl,_,ah.of (s'.ints h2)⟩,_,rfl,MH (s'.ints h2) (qx l [] z hz) q'⟩
def GJ:aM ["_law_table","_law_here","_law_one","_law_c"] ["_law_table","_law_here","_law_one"] (aF zr):=aN
def ab6{f:Addr}{fd:FuncData}(F:aI K "_law_led" "_law_led" zr f fd)(T:Txt K mg):az P w K mg base aL 1 f fd ["_law_table","_law_here","_law_one"] wc:=by
 refine F.ok GJ (λvs H Q E h=>?_) (λau A outer s H vs Q E hr h=>?_)
 ·obtain⟨t,as,T',k,n,c,l,rfl,_⟩:=h
  rfl
 ·obtain⟨t,as,T',k,n,c,l,rfl,ht,ok,hn,dX,⟨l0,l1,l2⟩,q⟩:=h
  refine⟨_,(@sC _ _ _ _ _ (aR (aJ gQ (pv 2) af (aG _)) (@sO _ _ _ (@sR _ _ _ _ (ax aK (ax aK (pv 0) (pv 1) (λ_ _=>rfl)) (av hX (pv 2) af) (λ_ _=>rfl)))) aU)
   (@sC _ _ _ _ _ (bN Zm rfl (ji rfl T.range (@aC _ _ _ _ _ (bq cO (by rfl) T.len PySem.boot_len (@aC _ _ _ _ _ (pv 0) ae (by rfl))) ae (by rfl))) (aO (i:=3) GJ.nd rfl (Or.inl rfl)) (@sO _ _ _ (aR (aJ bZ (ax aK (ax aK (pv 0) (pv 3) (λ_ _=>rfl)) (av hX (fI fG (pv 2)) af) (λ_ _=>rfl)) (pv 1) (aG _)) (@sO _ _ _ (@sR _ _ _ _ (pv 3))) aU)))
   (@sO _ _ _ (@sR _ _ _ _ cU)))),?_⟩
  have rl:∀{i:Nat}{a:Addr},as[i]?=some a->i<n/\Row H a (T'.getD i [])/\(T'.getD i []).length=k:=λ{i a} ea=>by
   have bT:i<T'.length:=by rw[<-ht.len];exact(ZL.mp ea).1
   obtain⟨a',e1,_,e2,eE⟩:=ht.at bT;rw[ea]at e1;cases e1;exact⟨by rw[<-ok.len];exact bT,eE,ok.row _ (Y6 e2)⟩
  refine⟨_,rfl,_,_,rfl,rfl,_,rfl,bF (λhp=>?_) λhp=>?_⟩
  ·have hp:0<l:=of_decide_eq_true hp;obtain⟨a,ea,_⟩:=ht.at (i:=c) (by rw[ok.len];exact dX);obtain⟨_,dA,hlen⟩:=rl ea;refine⟨_,rfl,_,rfl,kG c ht ea ⟨_,rfl,_,_,rfl,rfl,oM (l-1).toNat dA (by omega) ?_ (by omega)⟩⟩;unfold a6 at q;rw[if_pos hp]at q;exact q
  ·have hp:¬0<l:=λz=>hp (ZN z);unfold a6 at q;rw[if_neg hp]at q;have e1:((as.map V.ref).length:Int)=n:=by rw[Y1,ht.len,ok.len]
   refine⟨_,rfl,t,_,rfl,.inl (ah.of ht.is),_,rfl,by omega,by omega,qc (lo:=0) (n:=((as.map V.ref).length:Int).toNat) (λi σ H2=>(∃x,σ=[some (.ref t),some (.int c),some (.int l),x])/\H2=H/\∀d:Nat,d<i->cell T' d (-l-1).toNat≠some (c:Int)) ⟨⟨none,rfl⟩,rfl,λd hd=>by omega⟩ ?_ ?_⟩
   ·rintro i σ H2 hi ⟨⟨x,rfl⟩,rfl,no⟩;have hi:i<n:=by rw[e1]at hi;omega
    obtain⟨a,ea,_⟩:=ht.at (i:=i) (by rw[ok.len];exact hi);obtain⟨_,dA,hlen⟩:=rl ea;refine⟨_,rfl,_,rfl,kG i ht ea ⟨_,rfl,_,rfl,_,_,rfl,rfl,oM (-l-1).toNat dA (by omega) ⟨_,rfl,?_⟩ (by omega)⟩ (by omega)⟩;have ce:(T'.getD i []).getD (-l-1).toNat none=cell T' i (-l-1).toNat:=rfl;rw[ce];cases ec:cell T' i (-l-1).toNat with
    |none=>exact⟨rfl,_,rfl,bE ⟨⟨_,rfl⟩,rfl,λd hd=>by
     by_cases z:d=i
     ·rw[z,ec];simp
     ·exact no d (by omega)⟩⟩
    |some e=>
     refine⟨rfl,_,rfl,bF (λhe=>?_) λhe=>?_⟩
     ·have he:e=c:=by simpa[oV]using he
      subst he;have:=(jM ok).mpr ⟨i,rfl,hi,ec⟩;rw[this]at q;refine⟨_,rfl,?_⟩;show Q (V.int (0+(i:Int))) H2;rw[Int.zero_add];exact q
     ·have he:e≠c:=by simpa[oV]using he
      exact⟨⟨_,rfl⟩,rfl,λd hd=>by
       by_cases z:d=i
       ·rw[z,ec];simpa using he
       ·exact no d (by omega)⟩
   ·rintro σ H2 ⟨⟨x,rfl⟩,rfl,no⟩;rw[e1,Za]at no
    have:pre T' (-l-1).toNat c=none:=by
     cases e:pre T' (-l-1).toNat c with
     |none=>rfl
     |some d=>
      obtain⟨m,_,hm,e2⟩:=(jM ok).mp e;exact absurd e2 (no m hm)
    rw[this]at q;exact q
def yM:aM ["_law_table","_law_here","_law_way_here","_law_one"] ["_law_table","_law_here","_law_way_here"] (aF yX):=aN
def ab7{f:Addr}{fd:FuncData}(F:aI K "_law_trace" "_law_trace" yX f fd)(LD:aW P w K mg base "_law_led" ["_law_table","_law_here","_law_one"] 1 wc):az P w K mg base aL 2 f fd ["_law_table","_law_here","_law_way_here"] Np:=by
 refine F.ok yM (λvs H Q E h=>?_) (λau A outer s H vs Q E hr h=>?_)
 ·obtain⟨t,as,T',k,n,c,wa,ws,rfl,_⟩:=h
  rfl
 ·obtain⟨t,as,T',k,n,c,wa,ws,rfl,ht,ok,hn,dX,hw,qO,hl,q⟩:=h
  refine⟨_,(@sC _ _ _ _ _ (bN Zm rfl (bH (pv 2)) (aO (i:=3) yM.nd rfl (Or.inl rfl)) (@sO _ _ _ (aR (aJ iM (pv 1) cU (aG _)) (@sO _ _ _ (@sS _ 1 _ _ _ _ _ yM.nd rfl (Or.inl rfl) (LD.pe hr (@aC _ _ _ _ _ (pv 0) (@aC _ _ _ _ _ (pv 1) (@aC _ _ _ _ _ (pv 3) ae (by rfl)) (by rfl)) (by rfl))) (by rfl) (.inl rfl))) aU)))
   (@sO _ _ _ (@sR _ _ _ _ (pv 1)))),?_⟩
  refine⟨_,rfl,wa,rfl,⟨_,ah.of hw⟩,cS (K:=K) (a:=wa) (xs:=ws.map V.int) (λi σ H2=>(∃x,σ=[some (.ref t),some (oV (bB T' (some (c:Int)) (ws.take i))),some (.ref wa),x])/\H2=H) ⟨⟨none,rfl⟩,rfl⟩ (λi σ H2 _ ⟨_,e⟩=>by rw[e];exact ah.of hw) ?_ ?_⟩
  ·rintro i x σ H2 hi ⟨⟨y,rfl⟩,rfl⟩;obtain⟨l,rfl,el⟩:=gu hi;have e2:=Jy (T:=T') (o:=some (c:Int)) el;refine⟨_,rfl,rfl,_,rfl,?_⟩;cases ew:bB T' (some (c:Int)) (ws.take i)with
   |none=>
    rw[ew]at e2;refine bE ⟨⟨some (.int l),?_⟩,rfl⟩;rw[e2];rfl
   |some d=>
    obtain⟨z0,z1⟩:=Bf ok ⟨by omega,by omega⟩ ew;obtain⟨m,rfl⟩:∃m:Nat,d=(m:Int):=⟨d.toNat,by omega⟩;rw[ew]at e2;refine c4 ⟨_,rfl,_,rfl,_,rfl,t,as,T',k,n,m,l,rfl,ht,ok,hn,by omega,hl l (Y6 el),⟨some (.int l),?_⟩,rfl⟩;rw[e2];rfl
  ·rintro σ H2 ⟨⟨y,rfl⟩,rfl⟩;rw[Y1,List.take_length];exact⟨_,rfl,q⟩
def mQ:aM ["_law_table","_law_kinds","_law_here","_law_draws","_law_way_here","_law_d","_law_some","_law_n","_law_one"] ["_law_table","_law_kinds","_law_here","_law_draws"] (aF yV):=aN
def XG{f:Addr}{fd:FuncData}(F:aI K "_law_round" "_law_round" yV f fd)(T:Txt K mg)(LD:aW P w K mg base "_law_led" ["_law_table","_law_here","_law_one"] 1 wc):az P w K mg base aL 2 f fd ["_law_table","_law_kinds","_law_here","_law_draws"] Ls:=by
 refine F.ok mQ (λvs H Q E h=>?_) (λau A outer s H vs Q E hr h=>?_)
 ·obtain⟨t,as,T',k,n,c,da,ds,rfl,_⟩:=h
  rfl
 ·obtain⟨t,as,T',k,n,c,da,ds,rfl,ht,ok,k1,k5,hn,dX,hd,hdl,q⟩:=h
  refine⟨_,(@sC _ _ _ _ _ (@sS _ 4 _ _ _ _ _ mQ.nd rfl (Or.inl rfl) (eI ae) (by rfl) (.inl rfl))
   (@sC _ _ _ _ _ (bN Zm rfl (bH (pv 3)) (aO (i:=5) mQ.nd rfl (Or.inl rfl)) (@sC _ _ _ _ _ (@sS _ 6 _ _ _ _ _ mQ.nd rfl (Or.inl rfl) (eI ae) (by rfl) (.inl rfl))
   (@sC _ _ _ _ _ (bN Zm rfl (ji rfl T.range (@aC _ _ _ _ _ (av fg af (pv 1)) ae (by rfl))) (aO (i:=7) mQ.nd rfl (Or.inl rfl)) (@sC _ _ _ _ _ (@sS _ 8 _ _ _ _ _ mQ.nd rfl (Or.inl rfl) (av fg (av cV (av iL (pv 7) af) af) (av hX af (av fg af (av bO (pv 7) af)))) (by rfl) (.inl rfl))
   (@sO _ _ _ (aR (aJ iM (LD.pe hr (@aC _ _ _ _ _ (pv 0) (@aC _ _ _ _ _ (pv 2) (@aC _ _ _ _ _ (pv 8) ae (by rfl)) (by rfl)) (by rfl))) cU (aG _)) (@sO _ _ _ (bA (eA PySem.F.plainAttrs_list PySem.F.slot_list_append PySem.F.type_list_append dZ (pv 6) (@aC _ _ _ _ _ (pv 8) ae (by rfl))))) aU))))
   (@sO _ _ _ (aR (aJ gQ (bq cO (by rfl) T.len PySem.boot_len (@aC _ _ _ _ _ (pv 6) ae (by rfl))) af (aG _)) (@sC _ _ _ _ _ (@sS _ 8 _ _ _ _ _ mQ.nd rfl (Or.inl rfl) (ax aK (pv 6) (av bO (pv 5) (bq cO (by rfl) T.len PySem.boot_len (@aC _ _ _ _ _ (pv 6) ae (by rfl)))) (λ_ _=>rfl)) (by rfl) (.inl rfl))
   (@sC _ _ _ _ _ (bA (eA PySem.F.plainAttrs_list PySem.F.slot_list_append PySem.F.type_list_append dZ (pv 4) (@aC _ _ _ _ _ (pv 8) ae (by rfl))))
   (@sO _ _ _ (@sS _ 2 _ _ _ _ _ mQ.nd rfl (Or.inl rfl) (LD.pe hr (@aC _ _ _ _ _ (pv 0) (@aC _ _ _ _ _ (pv 2) (@aC _ _ _ _ _ (pv 8) ae (by rfl)) (by rfl)) (by rfl))) (by rfl) (.inl rfl))))) aU)))))
   (@sO _ _ _ (@sR _ _ _ _ (cW (@aC _ _ _ _ _ (pv 4) (@aC _ _ _ _ _ (pv 2) ae (by rfl)) (by rfl))))))),?_⟩
  refine sv (by simp) λlw H1 mG ilw s1=>?_
  refine⟨_,rfl,da,rfl,⟨_,ah.of (s1.ints hd)⟩,cS (K:=K) (a:=da) (xs:=ds.map V.int) (λi σ H2=>∃(ws:List Int) (d:Nat) (x5 x6 x7 x8:Option V),σ=[some (.ref t),some (.int k),some (.int d),some (.ref da),some (.ref lw),x5,x6,x7,x8]/\aw H2 lw ws/\aa H H2/\(∀l∈ws,Let k l)/\bB T' (some (c:Int)) ws=some (d:Int)/\d<n/\ws.length<=i)
   ⟨[],c,none,none,none,none,rfl,ilw,s1,(λ_ z=>nomatch z),rfl,dX,Zp _⟩ (λi σ H2 _ ⟨_,_,_,_,_,_,_,_,e,_⟩=>ah.of (e.ints hd)) ?_ ?_⟩
  ·rintro i x σ H2 hi ⟨ws,d,x5,x6,x7,x8,rfl,kZ,s2,hl,ew,pQ,wl⟩;obtain⟨dd,rfl,ed⟩:=gu hi;have jf:i<ds.length:=(ZL.mp ed).1;refine sv (by simp) λls H3 k8 xw s3=>?_;have ls0:H ls=none:=s2.free k8;have og:lw≠ls:=λz=>by rw[<-z,kZ]at k8;cases k8
   refine⟨_,rfl,_,_,rfl,rfl,.inl ⟨by omega,by omega⟩,_,rfl,by omega,by omega,qc (lo:=0) (n:=(2*(k:Int)).toNat) (λj σ H6=>∃(os:List Int) (y7 y8:Option V),σ=[some (.ref t),some (.int k),some (.int d),some (.ref da),some (.ref lw),some (.int dd),some (.ref ls),y7,y8]/\aw H6 ls os/\aw H6 lw ws/\aa H H6/\(∀l∈os,Let k l/\∃e:Nat,a6 T' d l=some (e:Int)/\e<n)/\os.length<=j)
    ⟨[],_,_,rfl,xw,s3.ints kZ,s2.trans s3,(λ_ z=>nomatch z),Zp _⟩ ?_ ?_⟩
   ·rintro j σ H6 hj ⟨os,y7,y8,rfl,gJ,iI,s6,ho,ol⟩;have hj:j<2*k:=by omega
    have rG:=Lp hj;generalize om:((j:Int)/2+1)*(1-2*((j:Int)%2))=l at rG;have hl:Let k l:=r9.mp (Y6 rG);have m0:=Zz (j:Int) (show(2:Int)≠0 by decide);have m1:=Zy (j:Int) (show(0:Int)<2 by decide);have D1:((0+(j:Int))/2+1)*(1-2*((0+(j:Int))%2))=l:=by rw[Int.zero_add];exact om
    refine⟨_,rfl,_,_,rfl,rfl,⟨by show(0:Int)<2;decide,by show(2:Int)<1073741824;decide⟩,_,_,rfl,rfl,_,rfl,_,_,rfl,rfl,(by show(0:Int)<2;decide),_,_,rfl,rfl,.inl ⟨by decide,by decide⟩,_,_,rfl,rfl,_,_,rfl,rfl,.inl ⟨by omega,by omega⟩,?_⟩;show gP 8 (V.int (((0+(j:Int))/2+1)*(1-2*((0+(j:Int))%2)))) _ _ _;rw[D1];refine⟨_,rfl,_,rfl,_,rfl,t,as,T',k,n,d,l,rfl,ht.same s6,ok,hn,pQ,hl,?_⟩;refine⟨rfl,_,rfl,?_⟩;cases e:a6 T' d l with
    |none=>exact bE ⟨os,_,_,rfl,gJ,iI,s6,ho,by omega⟩
    |some z=>
     obtain⟨z0,z1⟩:=jP ok e;obtain⟨m,rfl⟩:∃c:Nat,z=(c:Int):=⟨z.toNat,by omega⟩;refine c4 ⟨_,rfl,.inl ⟨rfl,_,ah.of gJ⟩,_,rfl,ls,_,_,rfl,rfl,gJ,bw (by simp;omega),?_⟩;refine⟨os++[l],_,_,rfl,?_,iI.other og,s6.upd ls0,λx hx=>?_,by rw[Zo];simp;omega⟩
     ·show upd _ ls _ ls=_;rw[ak,Ze];rfl
     ·rcases Y7.mp hx with y|y
      ·exact ho x y
      ·rw[Y2.mp y];exact⟨hl,m,e,by omega⟩
   ·rintro σ H6 ⟨os,y7,y8,rfl,gJ,iI,s6,ho,ol⟩;refine⟨_,rfl,ls,_,rfl,.inl (ah.of gJ),_,_,rfl,rfl,_,rfl,?_⟩;by_cases h0:os.length=0
    ·refine cm (ZO (by rw[Y1,h0];decide)) ?_;exact⟨ws,d,_,_,_,_,rfl,iI,s6,hl,ew,pQ,by omega⟩
    ·have p0:(0:Int)<((os.map V.int).length:Int):=by rw[Y1];omega
     refine kI (ZN p0) ?_;have a0:=Zz dd (show((os.map V.int).length:Int)≠0 by omega);have a1:=Zy dd p0;have a2:(dd%((os.map V.int).length:Int)).toNat<os.length:=by rw[Y1]at a0 a1⊢;omega
     refine⟨_,rfl,_,rfl,_,rfl,ls,_,rfl,.inl (ah.of gJ),_,_,rfl,rfl,p0,aT (dd%((os.map V.int).length:Int)).toNat gJ a2 ?_ (by omega)⟩;have ml:os.getD (dd%((os.map V.int).length:Int)).toNat 0∈os:=by rw[List.getD,Zd a2];exact ZA a2
     generalize os.getD (dd%((os.map V.int).length:Int)).toNat 0=l at ml;obtain⟨uA,m,e,hm⟩:=ho l ml;refine⟨_,rfl,.inl ⟨rfl,_,ah.of iI⟩,_,rfl,lw,_,_,rfl,rfl,iI,bw (by simp;omega),?_⟩;refine⟨_,rfl,_,rfl,_,rfl,t,as,T',k,n,d,l,rfl,ht.same (s6.upd mG),ok,hn,pQ,uA,?_⟩;rw[e];refine⟨ws++[l],m,_,_,_,_,rfl,?_,s6.upd mG,λx hx=>?_,?_,hm,by rw[Zo];simp;omega⟩
     ·show upd _ lw _ lw=_;rw[ak,Ze];rfl
     ·rcases Y7.mp hx with y|y
      ·exact hl x y
      ·rw[Y2.mp y];exact uA
     ·rw[vd,ew];exact e
  ·rintro σ H2 ⟨ws,d,x5,x6,x7,x8,rfl,kZ,s2,hl,ew,pQ,wl⟩;rw[Y1]at wl;refine⟨_,rfl,_,rfl,(show 2<=sizeLine by decide),λp hp=>?_⟩;exact q p lw ws d _ (s2.free hp) mG ak (by show upd _ _ _ _=_;rw[ai (a8 kZ hp)];exact kZ) hl ew pQ wl (s2.trans ((aa.refl H2).upd hp))
def pZ:aM ["_law_table","_law_kinds","_law_base","_law_order_here","_law_k","_law_n","_law_end"] ["_law_table","_law_kinds","_law_base"] (aF yY):=aN
def XH{f:Addr}{fd:FuncData}(F:aI K "_law_order" "_law_order" yY f fd)(T:Txt K mg)(LD:aW P w K mg base "_law_led" ["_law_table","_law_here","_law_one"] 1 wc):az P w K mg base aL 2 f fd ["_law_table","_law_kinds","_law_base"] Lq:=by
 refine F.ok pZ (λvs H Q E h=>?_) (λau A outer s H vs Q E hr h=>?_)
 ·obtain⟨t,as,T',k,n,b,rfl,_⟩:=h
  rfl
 ·obtain⟨t,as,T',k,n,b,rfl,ht,ok,k1,k5,hn,hb,q⟩:=h
  refine⟨_,(@sC _ _ _ _ _ (@sS _ 3 _ _ _ _ _ pZ.nd rfl (Or.inl rfl) (@eL _ _ _ _ (@aC _ _ _ _ _ (pv 2) ae (by rfl))) (by rfl) (.inl rfl))
   (@sC _ _ _ _ _ (@sS _ 4 _ _ _ _ _ pZ.nd rfl (Or.inl rfl) af (by rfl) (.inl rfl))
   (@sC _ _ _ _ _ (rW Zm (aJ ij (pv 4) (bq cO (by rfl) T.len PySem.boot_len (@aC _ _ _ _ _ (pv 3) ae (by rfl))) (aG _)) (@sC _ _ _ _ _ (bN Zm rfl (ji rfl T.range (@aC _ _ _ _ _ (av fg af (pv 1)) ae (by rfl))) (aO (i:=5) pZ.nd rfl (Or.inl rfl)) (@sC _ _ _ _ _ (@sS _ 6 _ _ _ _ _ pZ.nd rfl (Or.inl rfl) (LD.pe hr (@aC _ _ _ _ _ (pv 0) (@aC _ _ _ _ _ (ax aK (pv 3) (pv 4) (λ_ _=>rfl)) (@aC _ _ _ _ _ (av fg (av cV (av iL (pv 5) af) af) (av hX af (av fg af (av bO (pv 5) af)))) ae (by rfl)) (by rfl)) (by rfl))) (by rfl) (.inl rfl))
   (@sO _ _ _ (aR (PW.pt (kF (aJ iM (pv 6) cU (aG _)) (kA (aJ Gp (pv 6) (pv 3) rfl)))) (@sO _ _ _ (bA (eA PySem.F.plainAttrs_list PySem.F.slot_list_append PySem.F.type_list_append dZ (pv 3) (@aC _ _ _ _ _ (pv 6) ae (by rfl))))) aU))))
   (@sO _ _ _ (LV (i:=4) pZ.nd rfl (Or.inl rfl) af LW))))
   (@sO _ _ _ (@sR _ _ _ _ (pv 3)))))),?_⟩
  refine⟨_,rfl,hZ [(b:Int)] λlo H1 nR D2 s1=>?_⟩
  refine zO (λσ H4=>∃(O:List Nat) (i:Nat) (x5 x6:Option V),σ=[some (.ref t),some (.int k),some (.int b),some (.ref lo),some (.int i),x5,x6]/\aw H4 lo (O.map λ(c:Nat)=>(c:Int))/\aa H H4/\dI n O/\i<=O.length/\mB T' k (n+1-i) i O=met T' k n b)
   (λσ H4=>match σ with|[_,_,_,_,some (.int i),_,_]=>n+1-i.toNat|_=>0) ⟨[b],0,none,none,rfl,D2,s1,⟨by simp,λc hc=>by rw[Y2.mp hc];exact hb⟩,Zp _,rfl⟩ ?_ ?_
  ·rintro σ H4 ⟨O,i,x5,x6,rfl,io,s4,oi,hi,eb⟩;have ol:=oi.len;have el:(((O.map λ(c:Nat)=>(c:Int)).map V.int).length:Int)=O.length:=by simp
   refine⟨_,rfl,_,rfl,lo,_,rfl,.inl (ah.of io),_,_,rfl,rfl,_,rfl,?_⟩;rw[el];refine bF (λaP=>?_) λmE=>?_
   ·have aP:(i:Int)<O.length:=of_decide_eq_true aP;have aP:i<O.length:=by omega
    have eO:O[i]?=some O[i]:=by simp[aP]
    have mO:O[i]∈O:=ZA aP;generalize O[i]=c at eO mO;have ek:O.getD i 0=c:=by rw[List.getD,eO];rfl
    refine⟨_,rfl,_,_,rfl,rfl,.inl ⟨by omega,by omega⟩,_,rfl,by omega,by omega,qc (lo:=0) (n:=(2*(k:Int)).toNat) (λj σ H6=>∃(O6:List Nat) (y5 y6:Option V) (r:List Nat),σ=[some (.ref t),some (.int k),some (.int b),some (.ref lo),some (.int i),y5,y6]/\aw H6 lo (O6.map λ(c:Nat)=>(c:Int))/\aa H H6/\dI n O6/\O6=O++r/\O6=((lets k).take j).foldl (cg T' c) O)
     ⟨O,_,_,[],rfl,io,s4,oi,by simp,rfl⟩ ?_ ?_⟩
    ·rintro j σ H6 hj ⟨O6,y5,y6,r,rfl,gJ,s6,rH,pR,ef⟩;have hj:j<2*k:=by omega
     have ol6:=rH.len;have rG:=Lp hj;generalize om:((j:Int)/2+1)*(1-2*((j:Int)%2))=l at rG;have hl:Let k l:=r9.mp (Y6 rG);have mc:c<n:=oi.lt c mO
     have e6:(O6.map λ(c:Nat)=>(c:Int)).getD i 0=(c:Int):=by
      have:O6[i]?=some c:=by rw[pR,Zs aP];exact eO
      rw[List.getD,Zf,this];rfl
     have es:((lets k).take (j+1)).foldl (cg T' c) O=cg T' c O6 l:=by rw[rP rG, <-ef]
     have m0:=Zz (j:Int) (show(2:Int)≠0 by decide);have m1:=Zy (j:Int) (show(0:Int)<2 by decide);refine⟨_,rfl,_,rfl,_,rfl,aT i gJ (by rw[Y1,pR,Zo];omega) ?_⟩;rw[e6];refine⟨_,rfl,_,_,rfl,rfl,⟨by show(0:Int)<2;decide,by show(2:Int)<1073741824;decide⟩,_,_,rfl,rfl,_,rfl,_,_,rfl,rfl,(by show(0:Int)<2;decide),_,_,rfl,rfl,.inl ⟨by decide,by decide⟩,_,_,rfl,rfl,_,_,rfl,rfl,.inl ⟨by omega,by omega⟩,?_⟩;have D1:((0+(j:Int))/2+1)*(1-2*((0+(j:Int))%2))=l:=by rw[Int.zero_add];exact om
     refine⟨t,as,T',k,n,c,l,?_,ht.same s6,ok,hn,mc,hl,?_⟩
     ·show [V.ref t,V.int c,V.int (((0+(j:Int))/2+1)*(1-2*((0+(j:Int))%2)))]++[]=_;rw[D1];rfl
     refine⟨_,rfl,rfl,_,rfl,?_⟩;cases e:a6 T' c l with
     |none=>
      refine bE ⟨O6,_,_,r,rfl,gJ,s6,rH,pR,?_⟩;rw[es];unfold cg;rw[e]
     |some dd=>
      obtain⟨z0,z1⟩:=jP ok e;obtain⟨x,rfl⟩:∃c:Nat,dd=(c:Int):=⟨dd.toNat,by omega⟩;have ev:cg T' c O6 l=if x∈O6 then O6 else O6++[x]:=by unfold cg;rw[e];rfl
      refine c4 ⟨_,rfl,_,rfl,lo,_,rfl,.inl (ah.of gJ),rfl,IH _,_,rfl,?_⟩;rw[if_pos rfl];show if(!j7 (V.int (x:Int)) ((O6.map λ(c:Nat)=>(c:Int)).map V.int))=true then _ else _
      rw[AK];by_cases jf:x∈O6
      ·rw[ZN jf];refine bE ⟨O6,_,_,r,rfl,gJ,s6,rH,pR,?_⟩;rw[es,ev,if_pos jf]
      ·rw[ZO jf];refine c4 ⟨_,rfl,.inl ⟨rfl,_,ah.of gJ⟩,_,rfl,lo,_,_,rfl,rfl,gJ,bw (by simp;omega),?_⟩;have P1:=rH.cg ok (c:=c) (l:=l);rw[ev,if_neg jf]at P1;refine⟨O6++[x],_,_,r++[x],rfl,?_,s6.upd nR,P1,by rw[pR,ZY],by rw[es,ev,if_neg jf]⟩;show upd _ lo _ lo=_;rw[ak,Ze,Ze];rfl
    ·rintro σ H6 ⟨O6,y5,y6,r,rfl,gJ,s6,rH,pR,ef⟩;rw[show(2*(k:Int)).toNat=(lets k).length by rw[JQ];omega,List.take_length]at ef;refine⟨_,rfl,_,_,rfl,rfl,⟨O6,i+1,_,_,rfl,gJ,s6,rH,by rw[pR,Zo];omega,?_⟩,?_⟩
     ·have e1:n+1-i=(n+1-(i+1))+1:=by omega
      rw[e1,Bj aP]at eb;unfold nK at eb;rw[ek]at eb;rw[ef];exact eb
     ·show n+1-((i:Int)+1).toNat<n+1-(i:Int).toNat;omega
   ·have mE:¬(i:Int)<O.length:=λz=>mE (ZN z);rw[Ab (by omega)]at eb;exact⟨_,rfl,q lo H4 nR (by rw[<-eb];exact io) s4⟩
  ·rintro σ H Q Q' hQ ⟨v,e,v',e',p,ys,uo,q,i,j,e3,e4,b,e5,q5⟩;exact⟨v,e,v',e',p,ys,uo,q,i,j,e3,e4,b,e5,hQ _ _ q5⟩
def yi:aM ["_law_table","_law_order_here","_law_made","_law_c"] ["_law_table","_law_order_here"] (aF ym):=aN
def ab8{f:Addr}{fd:FuncData}(F:aI K "_law_in_order" "_law_in_order" ym f fd)(T:Txt K mg):az P w K mg base aL 1 f fd ["_law_table","_law_order_here"] NA:=by
 refine F.ok yi (λvs H Q E h=>?_) (λau A outer s H vs Q E hr h=>?_)
 ·obtain⟨t,la,as,k,n,T',ord,rfl,_⟩:=h
  rfl
 ·obtain⟨t,la,as,k,n,T',ord,rfl,tb,ok,xG,k5,io,nd,lt,q⟩:=h
  refine⟨_,(@sC _ _ _ _ _ (@sS _ 2 _ _ _ _ _ yi.nd rfl (Or.inl rfl) (eI ae) (by rfl) (.inl rfl))
   (@sC _ _ _ _ _ (bN Zm rfl (bH (pv 1)) (aO (i:=3) yi.nd rfl (Or.inl rfl)) (@sO _ _ _ (bA (eA PySem.F.plainAttrs_list PySem.F.slot_list_append PySem.F.type_list_append dZ (pv 2) (@aC _ _ _ _ _ (gL ["_law_order_here"] [1] (bH (ax aK (pv 0) (pv 3) (λ_ _=>rfl))) (λC s H fp=>zN (aJ (inK K rfl) (pv 0) (pv 1) rfl) (C7 K rfl (eA PySem.F.plainAttrs_list PySem.F.slot_list_index PySem.F.type_list_index (Co K rfl) (pv 1) (aq (pv 0) ae))) cU) (jx rfl)) ae (by rfl))))))
   (@sO _ _ _ (@sR _ _ _ _ (pv 2))))),?_⟩
  have xl:((ord.map λ(c:Nat)=>(c:Int)).map V.int).length=ord.length:=by simp
  have aee:ord.length<=n:=dI.len ⟨nd,lt⟩
  have fl:(((ord.map λ(c:Nat)=>(c:Int)).map V.int).all gR)=true:=by
   rw[ZC];intro v hv;obtain⟨z,_,rfl⟩:=Zh.mp hv
   rfl
  have fw:∀o,gR (oV o)=true:=λo=>by cases o<;>rfl
  have rT:∀i,(hi:i<ord.length)->(cf T' ord).take (i+1)=(cf T' ord).take i++[(T'.getD ord[i] []).map (rn ord)]:=λi hi=>by
   have h2:i<(cf T' ord).length:=by simp[cf,hi]
   rw[Zj h2];simp[cf]
  refine jq (by decide) λlm H1 f1 h1 s1=>?_
  refine⟨_,rfl,la,rfl,⟨_,ah.of (s1.ints io)⟩,cS (K:=K) (a:=la) (xs:=(ord.map λ(c:Nat)=>(c:Int)).map V.int) (λi σ H3=>∃(bs:List Addr) (x:Option V),σ=[some (.ref t),some (.ref la),some (.ref lm),x]/\dH H H3 lm bs ((cf T' ord).take i))
   ⟨[],none,rfl,⟨f1,(λ_ z=>nomatch z),by simp,⟨h1,rfl,λi a r e=>by simp at e⟩,s1⟩⟩ (λi σ H3 _ ⟨_,_,_,N⟩=>ah.of (N.sm.ints io)) ?_ ?_⟩
  ·rintro i x σ H3 hi ⟨bs,y,rfl,N⟩;obtain⟨z,rfl,ez⟩:=gu hi;rw[Zf]at ez;cases eo:ord[i]? with
   |none=>rw[eo]at ez;cases ez
   |some c=>
    rw[eo]at ez;obtain rfl:(c:Int)=z:=Zg ez;have mD:i<ord.length:=(ZL.mp eo).1;have ec:ord[i]=c:=(ZL.mp eo).2;have dX:c<n:=lt c (Y6 eo);obtain⟨ra,era,xH,eT,dA⟩:=(tb.same N.sm).at (i:=c) (by rw[ok.len];exact dX);have rl:(T'.getD c []).length=k:=ok.row _ (Y6 eT)
    let fv:V->V:=λv=>match v with|.int e=>oV (rn ord (some e))|_=>.aH
    have fo:∀o,fv (oV o)=oV (rn ord o):=λo=>by cases o<;>rfl
    refine⟨_,rfl,.inl ⟨rfl,_,ah.of N.tb.is⟩,_,rfl,_,rfl,kG c (tb.same N.sm) era ⟨ra,rfl,⟨_,ah.of dA⟩,zj (K:=K) fv (ah.of dA) (bw (by rw[Y1];omega)) (λz hz H5 Q5 s5 q5=>?_) λl H5 hl h5 s5=>?_⟩⟩
    ·obtain⟨o,mo,rfl⟩:=Zh.mp hz;rw[fo]at q5;have D3:=s5.ints (N.sm.ints io);refine⟨_,rfl,_,rfl,la,_,rfl,.inl (ah.of D3),fw o,fl,_,rfl,?_⟩;cases o with
     |none=>
      refine cm ?_ q5;show j7 V.aH _=false;unfold j7;rw[List.any_eq_false];intro v hv;obtain⟨z,_,rfl⟩:=Zh.mp hv;exact Zk
     |some e=>
      obtain⟨j,hj,ej⟩:=ZD mo;have r:=ok.bx c j e (by unfold cell;rw[List.getD,Zd hj,ej];rfl);obtain⟨m,rfl⟩:∃m:Nat,e=(m:Int):=⟨e.toNat,by omega⟩;show if j7 (V.int (m:Int)) _=true then _ else _
      rw[AK]
      have er:rn ord (some (m:Int))=if m∈ord then some ((ord.idxOf m:Nat):Int)else none:=by
       show(if((m:Int).toNat)∈ord then some ((ord.idxOf (m:Int).toNat:Nat):Int)else none)=_;rw[Za]
      rw[er]at q5;by_cases mm:m∈ord
      ·rw[if_pos mm]at q5;have hj:=List.idxOf_lt_length_iff.mpr mm
       have at_:∀j,(hj:j<ord.length)->(((ord.map λ(c:Nat)=>(c:Int)).map V.int)[j]?.map λz=>fz z (oV (some (m:Int))))=some (decide (ord[j]=m)):=λj hj=>by
        rw[Zf,Zf,Zd hj];show some (((ord[j]:Nat):Int)==(m:Int))=_;congr 1;by_cases z:ord[j]=m
        ·rw[z,ZN rfl];simp
        ·rw[ZO z];have z':¬(((ord[j]:Nat):Int)=(m:Int)):=by omega
         simpa using z'
       refine kI (ZN mm) ⟨_,rfl,.inl ⟨rfl,_,ah.of D3⟩,_,rfl,la,_,_,ord.idxOf m,rfl,rfl,ah.of D3,rfl,fl,by rw[xl];exact hj,?_,λj' kh=>?_,q5⟩
       ·rw[at_ _ hj,List.getElem_idxOf hj];simp
       ·rw[at_ _ (by omega),ZO];intro z;have:=nd.idxOf_getElem j' (by omega);rw[z]at this;omega
      ·rw[if_neg mm]at q5;exact cm (ZO mm) q5
    ·have N5:H5 lm=some (.lst (bs.map V.ref)):=s5 _ _ N.tb.is;refine⟨lm,_,_,rfl,rfl,N5,bw ?_,?_⟩
     ·rw[Y1,N.tb.len,Zx];omega
     ·refine⟨bs++[l],_,rfl,?_⟩;rw[rT i mD,ec];refine N.snoc hl ?_ s5;show H5 l=_;rw[h5,ZK,ZK];exact congrArg (λl=>some (HO.lst l)) (Z0 λo _=>fo o)
  ·rintro σ H3 ⟨bs,y,rfl,N⟩;rw[xl,ZE (by simp[cf])]at N;exact⟨_,rfl,q lm bs H3 N.ft N.tb N.sm⟩
def ya:aM ["_law_found","_law_due","_law_outs","_law_end"] ["_law_found","_law_due"] (aF ye):=aN
def XI{f:Addr}{fd:FuncData}(F:aI K "_law_same_table" "_law_same_table" ye f fd)(T:Txt K mg):az P w K mg base aL 1 f fd ["_law_found","_law_due"] KP:=by
 refine F.ok ya (λvs H Q E h=>?_) (λau A outer s H vs Q E hr h=>?_)
 ·obtain⟨t,u,as,bs,T',rfl,_⟩:=h
  rfl
 ·obtain⟨t,u,as,bs,T',rfl,ht,pM,q⟩:=h;have hu:=hr.units
  refine⟨_,(@sC _ _ _ _ _ (aR (PW.pt (fW (jN (gN (bq mT (by rfl) T.inst mZ (@aC _ _ _ _ _ (pv 0) (@aC _ _ _ _ _ (mW (v:=.ty "list") rfl T.list jL rfl) ae (by rfl)) (by rfl))))) (gv (aJ (abq hu) (pv 0) (pv 1) (aG _))))) (@sO _ _ _ (@sR _ _ _ _ fH)) aU)
   (@sC _ _ _ _ _ (bN Zm rfl (bH (pv 0)) (aO (i:=2) ya.nd rfl (Or.inl rfl)) (@sC _ _ _ _ _ (aR (jN (gN (bq mT (by rfl) T.inst mZ (@aC _ _ _ _ _ (pv 2) (@aC _ _ _ _ _ (mW (v:=.ty "list") rfl T.list jL rfl) ae (by rfl)) (by rfl))))) (@sO _ _ _ (@sR _ _ _ _ fH)) aU)
   (@sO _ _ _ (bN Zm rfl (bH (pv 2)) (aO (i:=3) ya.nd rfl (Or.inl rfl)) (@sO _ _ _ (aR (PW.pt (kF (aJ iM (pv 3) cU (aG _)) (kA (PW.pt (fW (jN (gN (bq mT (by rfl) T.inst mZ (@aC _ _ _ _ _ (pv 3) (@aC _ _ _ _ _ (mW (v:=.ty "int") rfl T.int Mi rfl) ae (by rfl)) (by rfl))))) (gv (gN (bq mT (by rfl) T.inst mZ (@aC _ _ _ _ _ (pv 3) (@aC _ _ _ _ _ (mW (v:=.ty "bool") rfl T.bool Km rfl) ae (by rfl)) (by rfl)))))))))) (@sO _ _ _ (@sR _ _ _ _ fH)) aU))))))
   (@sO _ _ _ (@sR _ _ _ _ fH)))),?_⟩
  refine⟨_,rfl,_,_,_,_,rfl,.lst ht.is,uV,_,rfl,bE ⟨_,rfl,_,rfl,abM ht pM ⟨_,rfl,bE ?_⟩⟩⟩;refine⟨_,rfl,t,rfl,⟨_,ah.of ht.is⟩,cS (K:=K) (a:=t) (xs:=as.map V.ref) (λi σ H2=>(∃x y,σ=[some (.ref t),some (.ref u),x,y])/\H2=H) ⟨⟨none,none,rfl⟩,rfl⟩ (λi σ H2 _ ⟨_,e⟩=>by rw[e];exact ah.of ht.is) ?_ ?_⟩
  ·rintro i x σ H2 hi ⟨⟨y,z,rfl⟩,rfl⟩;obtain⟨a,rfl,ea⟩:=AA hi;have bT:i<T'.length:=by rw[<-ht.len];exact(ZL.mp ea).1
   have dA:=ht.rw i a T'[i] ea (by simp[bT]);refine⟨_,rfl,_,_,_,_,rfl,.lst dA,uV,_,rfl,bE ?_⟩;refine⟨_,rfl,a,rfl,⟨_,ah.of dA⟩,cS (K:=K) (a:=a) (xs:=T'[i].map oV) (λi σ H3=>(∃x y,σ=[some (.ref t),some (.ref u),x,y])/\H3=H2) ⟨⟨_,_,rfl⟩,rfl⟩ (λi σ H2 _ ⟨_,e⟩=>by rw[e];exact ah.of dA) ?_ ?_⟩
   ·rintro j x σ H3 hj ⟨⟨y,z,rfl⟩,rfl⟩;obtain⟨v,rfl,ev⟩:=Az hj;cases v with
    |none=>exact⟨_,rfl,rfl,_,rfl,bE ⟨⟨_,_,rfl⟩,rfl⟩⟩
    |some v=>
     refine⟨_,rfl,rfl,_,rfl,c4 ⟨_,rfl,_,_,_,_,rfl,.int v,HE,_,rfl,bE ⟨_,rfl,_,_,_,_,rfl,.int v,GQ,_,rfl,?_⟩⟩⟩;exact⟨⟨_,_,rfl⟩,rfl⟩
   ·rintro σ H3 ⟨⟨y,z,rfl⟩,rfl⟩;exact⟨⟨_,_,rfl⟩,rfl⟩
  ·rintro σ H2 ⟨⟨y,z,rfl⟩,rfl⟩;exact q
def FK:aM ["_law_found","_law_way_here"] ["_law_found"] (aF yd):=aN
def adf{f:Addr}{fd:FuncData}(F:aI K "_law_ways_right" "_law_ways_right" yd f fd)(T:Txt K mg)(IW:aW P w K mg base "_law_is_way" ["_law_found"] 1 NY)(CU:aW P w K mg base "_law_cut" ["_law_way_here"] 1 (sX K)):az P w K mg base aL 2 f fd ["_law_found"] Oc:=by
 refine F.ok FK (λvs H Q E h=>?_) (λau A outer s H vs Q E hr h=>?_)
 ·obtain⟨l,ps,rfl,_⟩:=h
  rfl
 ·obtain⟨l,ps,rfl,il,hp,q⟩:=h;have hu:=hr.units
  refine⟨_,(@sC _ _ _ _ _ (aR (jN (gN (bq mT (by rfl) T.inst mZ (@aC _ _ _ _ _ (pv 0) (@aC _ _ _ _ _ (mW (v:=.ty "list") rfl T.list jL rfl) ae (by rfl)) (by rfl))))) (@sO _ _ _ (@sR _ _ _ _ fH)) aU)
   (@sC _ _ _ _ _ (bN Zm rfl (bH (pv 0)) (aO (i:=1) FK.nd rfl (Or.inl rfl)) (@sO _ _ _ (aR (PW.pt (fW (jN (gN (IW.pe hr (@aC _ _ _ _ _ (pv 1) ae (by rfl))))) (fW (aJ (vp hu) (pv 1) (eI ae) (aG _)) (gv (aJ (YF hu) (pv 1) (CU.pe hr (@aC _ _ _ _ _ (pv 1) ae (by rfl))) (aG _)))))) (@sO _ _ _ (@sR _ _ _ _ fH)) aU)))
   (@sO _ _ _ (@sR _ _ _ _ fH)))),?_⟩
  refine⟨_,rfl,_,_,_,_,rfl,.lst il.is,uV,_,rfl,bE ?_⟩;refine⟨_,rfl,l,rfl,⟨_,ah.of il.is⟩,cS (K:=K) (a:=l) (xs:=ps.map λp=>V.ref p.1) (λi σ H2=>(∃x,σ=[some (.ref l),x])/\aa H H2) ⟨⟨none,rfl⟩,aa.refl H⟩ (λi σ H2 _ ⟨_,s2⟩=>ah.of (s2 _ _ il.is)) ?_ ?_⟩
  ·rintro i x σ H2 hi ⟨⟨y,rfl⟩,s2⟩;obtain⟨p,rfl,ep⟩:=kD hi;have mp:=Y6 ep;obtain⟨h1,h2,h3⟩:=hp p mp;have ip:=s2.ints (il.iv p mp);refine⟨_,rfl,p.1,p.2,rfl,ip,_,rfl,bE ⟨_,rfl,hZ [] λl3 H3 uy lA s3=>?_⟩⟩;refine vU (s3.ints ip) lA ⟨_,rfl,cm (ZO h2) ?_⟩;refine⟨_,rfl,_,rfl,p.1,p.2,rfl,ah.of (s3.ints ip),by omega,λl4 H4 DA ow s4=>?_⟩;have P2:=s3.trans s4;refine Wz (P2.ints ip) ow h1.symm ⟨_,rfl,bE ⟨⟨_,rfl⟩,s2.trans P2⟩⟩
  ·rintro σ H2 ⟨⟨y,rfl⟩,s2⟩;exact q _ s2
def uQ:aM ["_law_kinds","_law_marks","_law_rows_here","_law_places","_law_table","_law_row"] ["_law_kinds","_law_marks","_law_rows_here"] (aF yW):=aN
def Ve{f:Addr}{fd:FuncData}(F:aI K "_law_chart" "_law_chart" yW f fd)(T:Txt K mg)(TM:qH mg)(LF:aW P w K mg base "_law_folded" ["_law_marks","_law_rows_here","_law_start"] 2 KI)(RK:aW P w K mg base "_law_ranked" ["_law_labels"] 1 vM):az P w K mg base aL 3 f fd ["_law_kinds","_law_marks","_law_rows_here"] Af:=by
 refine F.ok uQ (λvs H Q E h=>?_) (λau A outer s H vs Q E hr h=>?_)
 ·obtain⟨k,m,lr,ps,rfl,_⟩:=h
  rfl
 ·obtain⟨k,m,lr,ps,rfl,tl,gn,k5,m1,m6,pl,q⟩:=h
  refine⟨_,(@sC _ _ _ _ _ (@sS _ 3 _ _ _ _ _ uQ.nd rfl (Or.inl rfl) (RK.pe hr (@aC _ _ _ _ _ (LF.pe hr (@aC _ _ _ _ _ (pv 1) (@aC _ _ _ _ _ (pv 2) (@aC _ _ _ _ _ (eI ae) ae (by rfl)) (by rfl)) (by rfl))) ae (by rfl))) (by rfl) (.inl rfl))
   (@sC _ _ _ _ _ (Js 4 ["_law_kinds"] [0] uQ.nd (ji rfl T.range (aq (av cV (bq (ID rfl) (by rfl) TM.max sP (aq (pv 3) ae)) af) ae)) (λC s H fp=>gL [] [] (ji rfl T.range (aq (pv 1) ae)) (λC2 s2 H2 nZ=>cU) oI) (jx rfl))
   (@sC _ _ _ _ _ (bN Zm rfl (bH (pv 2)) (aO (i:=5) uQ.nd rfl (Or.inl rfl)) (@sO _ _ _ (gy (ax aK (pv 3) (ax bI (pv 5) af (λ_ _=>rfl)) (λ_ _=>rfl)) (AX (ax aK (pv 4) (ax aK (pv 3) (ax bI (pv 5) af (λ_ _=>rfl)) (λ_ _=>rfl)) (λ_ _=>rfl)) (av hX (ax bI (pv 5) af (λ_ _=>rfl)) af) set_list))))
   (@sO _ _ _ (@sR _ _ _ _ (cW (@aC _ _ _ _ _ (pv 3) (@aC _ _ _ _ _ (pv 4) ae (by rfl)) (by rfl)))))))),?_⟩
  refine⟨_,rfl,_,rfl,jq (by show 0<=1000;decide) λle H1 hle ie s1=>⟨m,lr,le,ps,[],rfl,tl.same s1,⟨ie,(λ_ z=>nomatch z)⟩,λp hp=>(gn p hp).1,(λ_ z=>nomatch z),by omega,pl,by show 0<=1000;decide,λl p H2 il P4 cl s2=>?_⟩⟩;have ll:=P4.aD.len;refine⟨p,l,rfl,il,by omega,λlp H3 hlp ip s3=>?_⟩;have dc:=s1.trans (s2.trans s3);have fL:FL m (ps.map (·.2)) [] l:=⟨P4,cl⟩
  have ok:g6 k (nC (rk l)) m (rk l) (ps.map (·.2)):=AM ll (λr hr=>by
   obtain⟨p,hp,rfl⟩:=Zh.mp hr;exact gn p hp) cl
  have n7:=wg l
  have P5:rk l≠[]:=λz=>by
   have:=congrArg List.length z;rw[iQ,ll]at this;simp at this;omega
  generalize ech:rk l=ch at ip ok n7 P5;refine⟨_,rfl,ML ip P5 λM hM xI=>⟨_,_,rfl,rfl,?_⟩⟩;obtain rfl:M=mx ch:=BL (ok.bx M hM).1 (.inr hM) xI;have nci:=Bm ch;refine⟨_,rfl,by omega,by omega,vc (n:=(mx ch+1).toNat) (λ_=>List.replicate k none) (by omega) (λi hi H4 s4 Q' q'=>?_) λt as H4 N4=>?_⟩
  ·exact⟨_,rfl,_,rfl,by omega,by omega,U4 (k:=(k:Int).toNat) (by omega) λp H5 hp ip s5=>by
    rw[Za]at ip;exact q' p H5 hp ip s5⟩
  have eN:(mx ch+1).toNat=nC ch:=by omega
  rw[eN]at N4
  have e0:((List.range (nC ch)).map λ_=>List.replicate k (none:Option Int))=List.replicate (nC ch) (List.replicate k none):=by
   rw[List.map_const'];simp
  rw[e0]at N4
  refine⟨_,rfl,lr,rfl,⟨_,ah.of ((tl.same dc).same N4.sm).is⟩,cS (K:=K) (a:=lr) (xs:=ps.map λp=>V.ref p.1) (λi σ H4=>∃(x5:Option V),σ=[some (.int k),some (.int m),some (.ref lr),some (.ref lp),some (.ref t),x5]/\dH H3 H4 t as (dj k (nC ch) ch ((ps.map (·.2)).take i)))
   ⟨none,rfl,N4⟩ (λi σ H4 _ ⟨_,_,N⟩=>ah.of ((tl.same dc).same N.sm).is) ?_ ?_⟩
  ·rintro i y σ H4 hi ⟨x5,rfl,N⟩;obtain⟨p,rfl,ep⟩:=kD hi;have hp:=Y6 ep;have ht:=((tl.same dc).same N.sm).tp p hp;have rs:(ps.map (·.2))[i]?=some p.2:=by rw[Zf,ep];rfl
   have mr:=Y6 rs;obtain⟨ro,g1,g2⟩:=ok.row p.2 mr;obtain⟨a0,a1⟩:=ok.at mr 1;have ia:=(ro.mk 1).2;have ib:=(ro.mk (-1)).2;have ea:=(ro.mk 1).1;have eb:=(ro.mk (-1)).1;have rl4:=ro.len;have uB:=N.sm.ints ip;have ol:=ok.len;have P6:=vi ok i (by rw[Y1];have:=(ZL.mp ep).1;omega);have D4:(ch.getD (My.mk p.2 1) 0).toNat<(dj k (nC ch) ch ((ps.map (·.2)).take i)).length:=by rw[P6.len];omega
   obtain⟨ra,era,xH,eT,dA⟩:=N.tb.at D4;have rl:((dj k (nC ch) ch ((ps.map (·.2)).take i)).getD (ch.getD (My.mk p.2 1) 0).toNat []).length=k:=P6.row _ (Y6 eT);have D5:(p.2.getD 2 0-1).toNat<k:=by omega
   refine⟨_,rfl,_,rfl,fh 3 ht (by omega) (aT (My.mk p.2 (-1)) uB (by omega) ⟨_,rfl,_,rfl,_,rfl,fh 1 ht (by omega) (aT (My.mk p.2 1) uB (by omega) (kG (ch.getD (My.mk p.2 1) 0).toNat N.tb era ⟨_,rfl,fh 2 ht (by omega) ⟨_,_,rfl,rfl,ra,_,p.2.getD 2 0-1,(p.2.getD 2 0-1).toNat,rfl,rfl,dA,MM (by rw[Y1,rl];exact D5) (by omega),⟨_,rfl,?_⟩⟩⟩ (by omega)) ea)⟩ eb)⟩
   have e1:dj k (nC ch) ch ((ps.map (·.2)).take (i+1))=lV ch (dj k (nC ch) ch ((ps.map (·.2)).take i)) p.2:=by
    obtain⟨bT,ei⟩:=ZL.mp rs;rw[Zj bT,ei];unfold dj;rw[zl]
   rw[e1];unfold lV;have:=N.set era (((dj k (nC ch) ch ((ps.map (·.2)).take i)).getD (ch.getD (My.mk p.2 1) 0).toNat []).set (p.2.getD 2 0-1).toNat (some (ch.getD (My.mk p.2 (-1)) 0)));rw[List.map_set]at this;exact this
  ·rintro σ H4 ⟨x5,rfl,N⟩;rw[Y1, <-Y1 (f:=(·.2)),List.take_length]at N;refine⟨_,rfl,_,rfl,by show 2<=sizeLine;decide,λp hp=>?_⟩;have q':=q p lp t as l (upd H4 p (.tup [.ref lp,.ref t]));have s5:aa H4 (upd H4 p (.tup [.ref lp,.ref t])):=(aa.refl H4).upd hp;rw[ech]at q';exact q' ak (s5.ints (N.sm.ints ip)) (N.tb.same s5) fL ((dc.trans N.sm).trans s5)
def Ga:aM ["kinds","table","row"] ["kinds","table"] (aF yC):=aN
def XJ{f C:Addr}{fd:FuncData}(F:aI K "check_shape" "check_shape" yC f fd)(T:Txt K mg)(TC:lT K mg C):az P w K mg base aL 1 f fd ["kinds","table"] KQ:=by
 obtain⟨_,DD⟩:=TC.C8;obtain⟨_,hmc⟩:=TC.mcc;refine F.ok Ga (λvs H Q E h=>?_) (λau A outer s H vs Q E hr h=>?_)
 ·obtain⟨k,n,t,as,T',rfl,_⟩:=h
  rfl
 ·obtain⟨k,n,t,as,T',rfl,ht,ok,k1,k5,n1,n7,q⟩:=h
  refine⟨_,(@sC _ _ _ _ _ (aR (PW.pt (fW (aJ ij (pv 0) af (aG _)) (gv (aJ gQ (pv 0) (jk (v:=.int 5) rfl DD ⟨_,rfl⟩) (aG _))))) (@sO _ _ _ mU) aU)
   (@sC _ _ _ _ _ (aR (PW.pt (fW (aJ ij (bq cO (by rfl) T.len PySem.boot_len (@aC _ _ _ _ _ (pv 1) ae (by rfl))) af (aG _)) (gv (aJ gQ (bq cO (by rfl) T.len PySem.boot_len (@aC _ _ _ _ _ (pv 1) ae (by rfl))) (jk (v:=.int 700) rfl hmc ⟨_,rfl⟩) (aG _))))) (@sO _ _ _ mU) aU)
   (@sO _ _ _ (bN Zm rfl (bH (pv 1)) (aO (i:=2) Ga.nd rfl (Or.inl rfl)) (@sO _ _ _ (aR (aJ ny (bq cO (by rfl) T.len PySem.boot_len (@aC _ _ _ _ _ (pv 2) ae (by rfl))) (pv 0) (aG _)) (@sO _ _ _ mU) aU)))))),?_⟩
  have hl:as.length=n:=by rw[ht.len,ok.len]
  have e1:((as.map V.ref).length:Int)=n:=by rw[Y1,hl]
  refine⟨_,rfl,_,_,rfl,rfl,_,rfl,cm (ZO (by omega)) ⟨_,rfl,_,_,rfl,rfl,_,rfl,cm (ZO (by omega)) ?_⟩⟩;refine⟨_,rfl,t,_,rfl,.inl (ah.of ht.is),_,_,rfl,rfl,_,rfl,cm (ZO (by omega)) ⟨_,rfl,t,_,rfl,.inl (ah.of ht.is),_,_,rfl,rfl,_,rfl,cm (ZO (by omega)) ?_⟩⟩;refine⟨_,rfl,t,rfl,⟨_,ah.of ht.is⟩,cS (K:=K) (a:=t) (xs:=as.map V.ref) (λi σ H2=>(∃x,σ=[some (.int k),some (.ref t),x])/\H2=H) ⟨⟨none,rfl⟩,rfl⟩ (λi σ H2 _ ⟨_,e⟩=>by rw[e];exact ah.of ht.is) ?_ ?_⟩
  ·rintro i x σ H2 hi ⟨⟨y,rfl⟩,rfl⟩;obtain⟨a,rfl,ea⟩:=AA hi;have bT:i<T'.length:=by rw[<-ht.len];exact(ZL.mp ea).1
   obtain⟨a',e1,_,e2,eE⟩:=ht.at bT;rw[ea]at e1;cases e1;have rl:((T'.getD i []).map oV).length=k:=by rw[Y1];exact ok.row _ (Y6 e2)
   refine⟨_,rfl,a,_,rfl,.inl (ah.of eE),_,rfl,rfl,_,rfl,cm ?_ ⟨⟨_,rfl⟩,rfl⟩⟩;rw[rl];simp
  ·rintro σ H2 ⟨⟨y,rfl⟩,rfl⟩;exact q
def uR:aM ["ends","found","chamber","there"] ["ends"] (aF yR):=aN
def ab9{f:Addr}{fd:FuncData}(F:aI K "beginnings" "beginnings" yR f fd)(T:Txt K mg):az P w K mg base aL 1 f fd ["ends"] Nn:=by
 refine F.ok uR (λvs H Q E h=>?_) (λau A outer s H vs Q E hr h=>?_)
 ·obtain⟨a,ends,rfl,_⟩:=h
  rfl
 ·obtain⟨a,ends,rfl,ha,ok,hl,q⟩:=h
  refine⟨_,(@sC _ _ _ _ _ (@sS _ 1 _ _ _ _ _ uR.nd rfl (Or.inl rfl) (av sL.wr (eI (aq cU ae)) (bq cO (by rfl) T.len PySem.boot_len (aq (pv 0) ae))) (by rfl) (.inl rfl))
   (@sC _ _ _ _ _ (bN Zm rfl (vt rfl T.enum vq (@aC _ _ _ _ _ (pv 0) ae (by rfl))) (eJ rfl (bt (aO (i:=2) uR.nd rfl (Or.inl rfl)) (bt (aO (i:=3) uR.nd rfl (Or.inl rfl)) eG))) (@sC _ _ _ _ _ (aR (aJ AZ (pv 3) cU (aG _)) (@sO _ _ _ Sl) aU)
   (@sC _ _ _ _ _ (aR (PW.pt (fW (aJ ij (pv 3) af (aG _)) (gv (aJ qB (pv 3) (bq cO (by rfl) T.len PySem.boot_len (@aC _ _ _ _ _ (pv 0) ae (by rfl))) (aG _))))) (@sO _ _ _ mU) aU)
   (@sC _ _ _ _ _ (aR (aJ iM (ax aK (pv 1) (pv 3) (λ_ _=>rfl)) cU (aG _)) (@sO _ _ _ mU) aU)
   (@sO _ _ _ (gy (pv 2) (AX (pv 1) (pv 3) set_list)))))))
   (@sO _ _ _ (@sR _ _ _ _ (pv 1))))),?_⟩
  refine sv (by simp) λp H1 hp ip s1=>?_;have le:((ends.map oV).length:Int)=ends.length:=by rw[Y1]
  refine⟨_,rfl,a,_,rfl,.inl (ah.of (ha.same s1)),MA (z:=none) ip (by omega) (λl H2 qN il s2=>?_) le⟩;have bD:=s1.trans s2;have D6:H l=none:=s1.free qN
  refine⟨_,rfl,a,rfl,⟨_,ah.of (ha.same bD)⟩,zT (K:=K) (a:=a) (xs:=ends.map oV) (λi σ H3=>∃(fs:List (Option Int)) (x y:Option V),σ=[some (.ref a),some (.ref l),x,y]/\Row H3 l fs/\iO i ends fs/\aa H H3)
   ⟨_,none,none,rfl,il,iO.zero ends,bD⟩ (λi σ H3 _ ⟨_,_,_,_,_,_,s3⟩=>ah.of (ha.same s3)) ?_ ?_⟩
  ·rintro i v σ H3 tt hi xr ⟨fs,x,y,rfl,lA,bp,s3⟩;obtain⟨z,rfl,ez⟩:=Az hi;have aP:l≠tt:=a8 lA xr;have s4:aa H (upd H3 tt (.tup [.int i,oV z])):=s3.fM xr;have ow:Row (upd H3 tt (.tup [.int i,oV z])) l fs:=by show upd _ _ _ _=_;rw[ai aP];exact lA
   refine⟨tt,_,rfl,aZ.of ak,rfl,_,_,rfl,_,_,rfl,rfl,?_⟩;generalize upd H3 tt (.tup [.int i,oV z])=H4 at s4 ow;have eg:=getD_some (d:=none) ez;cases z with
   |none=>exact⟨_,rfl,rfl,_,rfl,c4 ⟨fs,_,_,rfl,ow,bp.skip eg,s4⟩⟩
   |some e=>
    obtain⟨e0,e1⟩:=ok.1 i e eg;obtain⟨m,rfl⟩:∃m:Nat,e=(m:Int):=⟨e.toNat,by omega⟩;have fr:=bp.free ok eg;have hm:m<fs.length:=by rw[bp.len];omega
    refine⟨_,rfl,rfl,_,rfl,bE ?_⟩;refine⟨_,rfl,_,_,rfl,rfl,_,rfl,cm (ZO (by omega)) ⟨_,rfl,_,rfl,a,_,rfl,.inl (ah.of (ha.same s4)),_,_,rfl,rfl,_,rfl,cm (ZO (by rw[le];omega)) ?_⟩⟩;refine⟨_,rfl,_,rfl,oM m ow hm ⟨rfl,_,rfl,?_⟩⟩;rw[fr];refine bE ⟨_,rfl,_,rfl,_,rfl,l,_,m,m,rfl,rfl,ow,?_,?_⟩
    ·unfold jA;rw[if_pos (by omega),if_pos (by rw[Y1];omega)];rfl
    ·refine⟨fs.set m (some (i:Int)),_,_,rfl,?_,bp.put ok eg,s4.upd D6⟩;show upd _ _ _ _=_;rw[ak,List.map_set];rfl
  ·rintro σ H3 ⟨fs,x,y,rfl,lA,bp,s3⟩;rw[Y1]at bp;exact⟨_,rfl,q l fs H3 D6 lA bp s3⟩
def QM:aM ["self","kinds","table"] ["self","kinds","table"] (aF yf):=aN
def aaH{f C:Addr}{fd:FuncData}(F:aI K "__init__" "Chart.__init__" yf f fd)(T:Txt K mg)(TC:lT K mg C)(SH:aW P w K mg base "check_shape" ["kinds","table"] 1 KQ)(BG:aW P w K mg base "beginnings" ["ends"] 1 Nn):
  az P w K mg base aL 2 f fd ["self","kinds","table"] (Be C):=by
 refine F.ok QM (λvs H Q E h=>?_) (λau A outer s H vs Q E hr h=>?_)
 ·obtain⟨g,dx,k,n,t,as,T',rfl,_⟩:=h
  rfl
 ·obtain⟨g,dx,k,n,t,as,T',rfl,hg,ht,ok,k1,k5,n1,n7,q⟩:=h
  refine⟨_,(@sC _ _ _ _ _ (bA (SH.pe hr (@aC _ _ _ _ _ (pv 1) (@aC _ _ _ _ _ (pv 2) ae (by rfl)) (by rfl))))
   (@sC _ _ _ _ _ (fU (pv 0) (pv 1) rfl)
   (@sC _ _ _ _ _ (fU (pv 0) (Jr ["table"] [2] (ji rfl T.range (aq (pv 1) ae)) (λC s H fp=>gL ["place"] [0] (C6 K rfl (pv 1)) (λC2 s2 H2 nZ=>ax (C5 K rfl) (pv 0) (pv 1) (λ_ _=>rfl)) (jx rfl)) (jx rfl)) rfl)
   (@sO _ _ _ (fU (pv 0) (gL [] [] (bH (aS (pv 0) rfl)) (λC s H fp=>BG.pe hr (aq (pv 0) ae)) oI) rfl))))),?_⟩
  have hT:T'.length<=1000:=by rw[ok.len];omega
  refine⟨_,rfl,_,rfl,k,n,t,as,T',rfl,ht,ok,k1,k5,n1,n7,?_⟩;refine⟨_,rfl,_,rfl,g,C,dx,[],rfl,hg,TC.cl,TC.nk,(by show 0<1000;decide),?_⟩
  have ag:∀a∈t::as,a≠g:=λa ha z=>by
   subst z;rcases Y5.mp ha with e|e
   ·subst e;rw[ht.is]at hg;cases hg
   ·obtain⟨i,hi,e⟩:=ZD e;have iE:i<T'.length:=by rw[<-ht.len];exact hi
    have:=ht.rw i a T'[i] (by simp[<-e,hi]) (by simp[iE]);rw[show H a=_ from this]at hg;cases hg
  have tX:Tb (upd H g (.ins C dx (aY "kinds" (.int k) []))) t as T':=ht.on λa ha o e=>by rw[ai (ag a ha)];exact e
  have dW:upd H g (.ins C dx (aY "kinds" (.int k) [])) g=some (.ins C dx (aY "kinds" (.int k) [])):=ak;have P7:Kp g H (upd H g (.ins C dx (aY "kinds" (.int k) []))):=λc o e nc=>by rw[ai nc];exact e
  have mh:∀a,upd H g (.ins C dx (aY "kinds" (.int k) [])) a=none->H a=none:=λa ha=>by
   by_cases z:a=g
   ·rw[z,ak]at ha;cases ha
   ·rwa [ai z]at ha
  generalize upd H g (.ins C dx (aY "kinds" (.int k) []))=H1 at tX dW P7 mh;refine⟨_,rfl,_,rfl,by omega,by omega,vc (n:=(k:Int).toNat) (λj=>col T' j) (by omega) (λj hj H2 s2 Q' q'=>?_) λlo os H2 N2=>?_⟩
  ·refine⟨_,rfl,t,rfl,⟨_,ah.of (tX.same s2).is⟩,Ju (j:=j) (tX.same s2) (by omega) (λa r eE H3 Q3 s3 h3 q3=>?_) λD hD=>q' D _ hD ak ((aa.refl _).upd hD)⟩;exact⟨_,rfl,_,rfl,oM j h3 (by rw[ok.row r eE];omega) q3 (by omega)⟩
  have e2:(List.range (k:Int).toNat).map (λj=>col T' j)=cols k T':=by rw[Za];rfl
  rw[e2]at N2;have ng:lo≠g:=λz=>by have:=N2.ft;rw[z,dW]at this;cases this
  have P8:∀a∈lo::os,a≠g:=λa ha z=>by
   rcases Y5.mp ha with e|e
   ·exact ng (e▸z)
   ·have:=N2.fa a e;rw[z,dW]at this;cases this
  refine⟨_,rfl,g,C,dx,_,rfl,N2.sm _ _ dW,TC.cl,TC.no,(by show 1<1000;decide),?_⟩;have jd:upd H2 g (.ins C dx (aY "onward" (.ref lo) (aY "kinds" (.int k) []))) g=some (.ins C dx (aY "onward" (.ref lo) (aY "kinds" (.int k) []))):=ak;have to3:Tb (upd H2 g (.ins C dx (aY "onward" (.ref lo) (aY "kinds" (.int k) [])))) lo os (cols k T'):=N2.tb.on λa ha o e=>by rw[ai (P8 a ha)];exact e
  have P9:Kp g H1 (upd H2 g (.ins C dx (aY "onward" (.ref lo) (aY "kinds" (.int k) [])))):=λc o e nc=>by rw[ai nc];exact N2.sm _ _ e
  have cA:∀a,upd H2 g (.ins C dx (aY "onward" (.ref lo) (aY "kinds" (.int k) []))) a=none->H1 a=none:=λa ha=>by
   by_cases z:a=g
   ·rw[z,ak]at ha;cases ha
   ·rw[ai z]at ha;exact N2.sm.free ha
  generalize upd H2 g (.ins C dx (aY "onward" (.ref lo) (aY "kinds" (.int k) [])))=H3 at jd to3 P9 cA;refine⟨_,rfl,g,C,dx,_,_,rfl,jd,TC.cl,TC.no,(by rw[mS,if_pos rfl]),lo,rfl,⟨_,ah.of to3.is⟩,Ih (xs:=os.map V.ref) (λi r=>vY (col T' i) r) (ah.of to3.is) (by rw[Y1,to3.len,kz];omega) (λi x hi H4 s4 Q' q'=>?_) λli bs I H4 N4 lI hI=>?_⟩
  ·obtain⟨a,rfl,ea⟩:=AA hi
   have D7:i<k:=by
    have:=(ZL.mp ea).1;rw[to3.len,kz]at this;exact this
   have kO:Row H4 a (col T' i):=(to3.rw i a _ ea (Ay T' D7)).same s4;exact⟨_,rfl,a,_,rfl,kO,ok.ends i,by rw[lJ];omega,λl fs H5 hl hr5 hb s5=>q' l fs H5 hl hr5 hb s5⟩
  ·have ng4:li≠g:=λz=>by have:=N4.ft;rw[z,jd]at this;cases this
   have aef:∀a∈li::bs,a≠g:=λa ha z=>by
    rcases Y5.mp ha with e|e
    ·exact ng4 (e▸z)
    ·have:=N4.fa a e;rw[z,jd]at this;cases this
   refine⟨_,rfl,g,C,dx,_,rfl,N4.sm _ _ jd,TC.cl,TC.ni,(by show 2<1000;decide),?_⟩;rw[Y1,to3.len,kz]at lI;refine q _ (g::((lo::os)++(li::bs))) ⟨ok,k1,k5,n1,n7,dx,lo,li,os,bs,I,rfl,ak,?_,?_,lI,λj hj=>?_⟩ ?_ ?_
   ·exact(to3.same N4.sm).on λa ha o e=>by rw[ai (P8 a ha)];exact e
   ·exact N4.tb.on λa ha o e=>by rw[ai (aef a ha)];exact e
   ·exact hI j _ (by simp[List.getD,lI,hj])
   ·intro a ha nag;rcases Y5.mp ha with e|e
    ·exact absurd e nag
    ·rcases Y7.mp e with e|e
     ·refine mh a ?_;rcases Y5.mp e with e|e
      ·rw[e];exact N2.ft
      ·exact N2.fa a e
     ·refine mh a (cA a ?_);rcases Y5.mp e with e|e
      ·rw[e];exact N4.ft
      ·exact N4.fa a e
   ·intro c o e nc;rw[ai nc];exact N4.sm _ _ (P9 _ _ (P7 _ _ e nc) nc)
def Rp:aM ["self"] ["self"] (aF yP):=aN
def aaI{f C:Addr}{fd:FuncData}(F:aI K "size" "Chart.size" yP f fd)(T:Txt K mg)(TC:lT K mg C):az P w K mg base aL 1 f fd ["self"] (vK C):=by
 refine F.ok Rp (λvs H Q E h=>?_) (λau A outer s H vs Q E hr h=>?_)
 ·obtain⟨g,k,n,T',fp,rfl,_⟩:=h
  rfl
 ·obtain⟨g,k,n,T',fp,rfl,hc,q⟩:=h;obtain⟨dx,lo,li,as,bs,I,rfl,hg,h1,h2,h3,h4⟩:=hc.ob;refine⟨_,(@sO _ _ _ (@sR _ _ _ _ (bq cO (by rfl) T.len PySem.boot_len (@aC _ _ _ _ _ (ax aK (aS (pv 0) rfl) af (λ_ _=>rfl)) ae (by rfl))))),?_⟩;obtain⟨a,ea,_,e0,cL⟩:=h1.at (i:=0) (by rw[kz];exact hc.k1);rw[zA T' hc.k1]at cL;refine⟨_,rfl,g,C,dx,_,_,rfl,hg,TC.cl,TC.no,Bd ..,kG 0 h1 ea ⟨a,_,rfl,.inl (ah.of cL),?_⟩⟩;rw[Y1,lJ,hc.ok.len];exact q
def Rf:aM ["self"] ["self"] (aF yA):=aN
def aaJ{f C:Addr}{fd:FuncData}(F:aI K "table" "Chart.table" yA f fd)(T:Txt K mg)(TC:lT K mg C)(SZ:cy P w K mg base C "size" ["self"] 1 (vK C)):az P w K mg base aL 2 f fd ["self"] (vL C):=by
 refine F.ok Rf (λvs H Q E h=>?_) (λau A outer s H vs Q E hr h=>?_)
 ·obtain⟨g,k,n,T',fp,rfl,_⟩:=h
  rfl
 ·obtain⟨g,k,n,T',fp,rfl,hc,q⟩:=h;obtain⟨dx,lo,li,as,bs,I,rfl,hg,h1,h2,h3,h4⟩:=id hc.ob;refine⟨_,(@sO _ _ _ (@sR _ _ _ _ (Jr ["self"] [0] (ji rfl T.range (aq (SZ.eY hr (pv 0)) ae)) (λC s H fp=>gL ["chamber"] [0] (C6 K rfl (pfl K rfl (pv 1) rfl)) (λC2 s2 H2 nZ=>ax (C5 K rfl) (pv 0) (pv 1) (λ_ _=>rfl)) (jx rfl)) (jx rfl)))),?_⟩;have:=hc.k5;have:=hc.n7;refine⟨_,rfl,g,dx,_,rfl,hg,jo ..,g,k,n,T',_,rfl,hc,_,rfl,by omega,by omega,vc (n:=(n:Int).toNat) (λc=>col (cols k T') c) (by omega) (λc CI H2 s2 Q' q'=>?_) λD as2 H2 N2=>?_⟩
  ·refine⟨_,rfl,g,C,dx,_,_,rfl,s2 _ _ hg,TC.cl,TC.no,Bd ..,lo,rfl,⟨_,ah.of (h1.same s2).is⟩,Ju (j:=c) (h1.same s2) (by rw[kz];omega) (λa r eE H3 Q3 s3 h3 q3=>?_) λD hD=>q' D _ hD ak ((aa.refl _).upd hD)⟩;obtain⟨j,_,rfl⟩:=Zh.mp eE;exact⟨_,rfl,_,rfl,oM c h3 (by rw[lJ,hc.ok.len];omega) q3 (by omega)⟩
  ·have e:(List.range (n:Int).toNat).map (λc=>col (cols k T') c)=T':=by
    rw[Za];exact UO hc.ok
   rw[e]at N2;exact q D as2 H2 N2.ft N2.fa N2.nd N2.tb N2.sm
def BQ:aM ["way","left","letter"] ["way"] (aF Oh):=aN
def aca{f:Addr}{fd:FuncData}(F:aI K "cancelled" "cancelled" Oh f fd):az P w K mg base aL 1 f fd ["way"] (sX K):=by
 refine F.ok BQ (λvs H Q E h=>?_) (λau A outer s H vs Q E hr h=>?_)
 ·obtain⟨a,ns,rfl,_⟩:=h
  rfl
 ·obtain⟨a,ns,rfl,hS,hn,k⟩:=h
  refine⟨_,a9 (bJ (i:=1) BQ.nd rfl (Or.inl rfl) (oQ ae))
   (a9 (bN Zm rfl (bH (pv 0)) (aO (i:=2) BQ.nd rfl (Or.inl rfl))
    (a7 (aR (PW.pt (kF (Je (pv 1) (λ_=>rfl)) (kA (aJ bZ (ax An (pv 1) (fI fG af) (λ_ _=>rfl)) (fI fG (pv 2)) (aG _)))))
     (a7 (bA (L6 PySem.F.plainAttrs_list PySem.F.slot_list_pop PySem.F.type_list_pop L8 (pv 1))))
     (a7 (bA (eA PySem.F.plainAttrs_list PySem.F.slot_list_append PySem.F.type_list_append dZ (pv 1) (aq (pv 2) ae)))))))
   (a7 (fF (pv 1)))),?_⟩
  refine⟨Zp _,λr cL=>?_⟩;have s0:aa H (upd H r (.lst [])):=(aa.refl H).upd cL
  refine⟨_,rfl,a,rfl,⟨_,s0.seq hS⟩,cS (K:=K) (a:=a) (xs:=ns.map V.int) (λi σ H2=>∃(st:List Int) (c:Option V),σ=[some (.ref a),some (.ref r),c]/\st=(ns.take i).foldl push []/\aw H2 r st.reverse/\aa H H2)
   ⟨[],none,rfl,by simp,aw.put (ns:=[]),s0⟩ (λi σ H2 _ ⟨_,_,_,_,_,s2⟩=>s2.seq hS) ?_ ?_⟩
  ·rintro i y σ H2 hi ⟨st,c,rfl,ki,h2,s2⟩;obtain⟨z,rfl,hz⟩:=gu hi;have mD:i<ns.length:=(ZL.mp hz).1;have hl:=va (ns.take i) [];rw[<-ki,Zx]at hl;simp only[List.length_nil]at hl;have e1:=HF hz;rw[<-ki]at e1;refine⟨_,rfl,_,.inl ⟨_,ah.of h2,rfl⟩,?_⟩;cases st with
   |nil=>
    refine bE ?_;refine bE ?_;refine⟨_,rfl,.inl ⟨rfl,_,ah.of h2⟩,_,rfl,r,_,_,rfl,rfl,h2,bw (by simp),?_⟩;exact⟨[z],_,rfl,e1.symm,.snoc,s2.upd cL⟩
   |cons t q=>
    have ne:(!(List.map V.int (t::q).reverse).isEmpty)=true:=by simp
    rw[ne];refine c4 ?_;refine⟨_,rfl,_,rfl,r,_,_,_,rfl,rfl,ah.of h2,(by rw[List.reverse_cons,Ze];exact Jh _ _),_,rfl,_,rfl,rfl,_,rfl,?_⟩;refine bF (λhc=>?_) (λhc=>?_)
    ·have hc:t= -z:=by simpa using hc
     refine⟨_,rfl,.inl ⟨rfl,_,ah.of h2⟩,r,_,V.int t,rfl,rfl,h2,(by simp),?_⟩;refine⟨q,_,rfl,by rw[e1];simp[push,hc],?_,s2.upd cL⟩;show upd H2 r _ r=_;rw[ak,List.reverse_cons,Ze];simp
    ·have hc:¬t= -z:=by simpa using hc
     refine⟨_,rfl,.inl ⟨rfl,_,ah.of h2⟩,_,rfl,r,_,_,rfl,rfl,h2,bw (by simp at hl⊢;omega),?_⟩;refine⟨z::t::q,_,rfl,by rw[e1];simp[push,hc],?_,s2.upd cL⟩;rw[List.reverse_cons (a:=z)];exact .snoc
  ·rintro σ H2 ⟨st,c,rfl,ki,h2,s2⟩;refine⟨_,rfl,k r H2 cL ?_ s2⟩;rw[Y1,ZE (Y3 _)]at ki;rw[ki]at h2;exact h2
def XM:aM ["way"] ["way"] (aF LK):=aN
def Vf{f:Addr}{fd:FuncData}(F:aI K "turned" "turned" LK f fd):az P w K mg base aL 1 f fd ["way"] (sN K):=by
 refine F.ok XM (λvs H Q E h=>?_) (λau A outer s H vs Q E hr h=>?_)
 ·obtain⟨a,ns,rfl,_⟩:=h
  rfl
 ·obtain⟨a,ns,rfl,hS,hn,k⟩:=h;refine⟨_,a7 (fF (YG (cl:=[]) [] [] (bH (Mf (pv 0))) (λC s H fp=>fI fG (pv 0)) (λ_ _ h=>nomatch h))),?_⟩;refine⟨_,rfl,Mg hS λp H1 hp h1 s1=>?_⟩;refine⟨p,rfl,⟨_,ah.of h1⟩,HD (- ·) (ah.of h1) (bw (by simp;omega)) (λz _ H' Q' q'=>⟨_,rfl,_,rfl,q'⟩) (qC λD H2 hD h2 s2=>?_)⟩;exact k D _ (s1.free hD) h2 (s1.trans s2)
def FF:aM ["self","chamber"] ["self","chamber"] (aF uK):=aN
def acb{f C:Addr}{fd:FuncData}(F:aI K "check_chamber" "Chart.check_chamber" uK f fd)(SZ:cy P w K mg base C "size" ["self"] 1 (vK C)):az P w K mg base aL 2 f fd ["self","chamber"] (BD C):=by
 refine F.ok FF (λvs H Q E h=>?_) (λau A outer s H vs Q E hr h=>?_)
 ·obtain⟨g,k,n,T',fp,c,rfl,_⟩:=h
  rfl
 ·obtain⟨g,k,n,T',fp,c,rfl,hc,dX,q⟩:=h;obtain⟨dx,lo,li,as,bs,I,rfl,hg,_⟩:=id hc.ob;refine⟨_,(@sO _ _ _ (aR (PW.pt (fW (aJ ij (pv 1) af (aG _)) (gv (aJ qB (pv 1) (SZ.eY hr (pv 0)) (aG _))))) (@sO _ _ _ mU) aU)),?_⟩;exact⟨_,rfl,_,_,rfl,rfl,_,rfl,cm (ZO (by omega)) ⟨_,rfl,_,rfl,g,dx,_,rfl,hg,jo ..,g,k,n,T',_,rfl,hc,_,_,rfl,rfl,_,rfl,cm (ZO (by omega)) q⟩⟩
def acd{f:Addr}{fd:FuncData}(F:aI K "check_letters" "check_letters" uN f fd)(T:Txt K mg):az P w K mg base aL 1 f fd ["kinds","way"] BE:=by
 refine F.ok uM (λvs H Q E h=>?_) (λau A outer s H vs Q E hr h=>?_)
 ·obtain⟨k,wa,ws,rfl,_⟩:=h
  rfl
 ·obtain⟨k,wa,ws,rfl,hw,hl,q⟩:=h;refine⟨_,(@sO _ _ _ (bN Zm rfl (bH (pv 1)) (aO (i:=2) uM.nd rfl (Or.inl rfl)) (@sO _ _ _ (aR (PW.pt (fW (aJ bZ (pv 2) af (aG _)) (gv (aJ gQ (bq Jf (by rfl) T.abs Mj (@aC _ _ _ _ _ (pv 2) ae (by rfl))) (pv 0) (aG _))))) (@sO _ _ _ mU) aU)))),?_⟩;refine⟨_,rfl,wa,rfl,⟨_,ah.of hw⟩,cS (K:=K) (a:=wa) (xs:=ws.map V.int) (λi σ H2=>(∃x,σ=[some (.int k),some (.ref wa),x])/\H2=H) ⟨⟨none,rfl⟩,rfl⟩ (λi σ H2 _ ⟨_,e⟩=>by rw[e];exact ah.of hw) ?_ ?_⟩
  ·rintro i x σ H2 hi ⟨⟨y,rfl⟩,rfl⟩;obtain⟨l,rfl,el⟩:=gu hi;obtain⟨l0,l1,l2⟩:=hl l (Y6 el);refine⟨_,rfl,rfl,_,rfl,cm (ZO (λz=>l0 (V.int.inj z))) ⟨_,rfl,_,rfl,_,rfl,_,_,rfl,rfl,_,rfl,cm (ZO ?_) ⟨⟨_,rfl⟩,rfl⟩⟩⟩;split<;>omega
  ·rintro σ H2 ⟨⟨y,rfl⟩,rfl⟩;exact q
def Rq:aM ["self","chamber","letter"] ["self","chamber","letter"] (aF yQ):=aN
def aaK{f C:Addr}{fd:FuncData}(F:aI K "step" "Chart.step" yQ f fd)(TC:lT K mg C)(CC:cy P w K mg base C "check_chamber" ["self","chamber"] 2 (BD C))(CL:aW P w K mg base "check_letters" ["kinds","way"] 1 BE):
  az P w K mg base aL 3 f fd ["self","chamber","letter"] (Bg C):=by
 refine F.ok Rq (λvs H Q E h=>?_) (λau A outer s H vs Q E hr h=>?_)
 ·obtain⟨g,k,n,T',fp,c,l,rfl,_⟩:=h
  rfl
 ·obtain⟨g,k,n,T',fp,c,l,rfl,hc,dX,hl,q⟩:=h;obtain⟨dx,lo,li,as,bs,I,rfl,hg,h1,h2,h3,h4⟩:=id hc.ob;have⟨l0,l1,l2⟩:=hl
  refine⟨_,(@sC _ _ _ _ _ (bA (CC.pe hr (pv 0) (@aC _ _ _ _ _ (pv 1) ae (by rfl))))
   (@sC _ _ _ _ _ (bA (CL.pe hr (@aC _ _ _ _ _ (aS (pv 0) rfl) (@aC _ _ _ _ _ (@eL _ _ _ _ (@aC _ _ _ _ _ (pv 2) ae (by rfl))) ae (by rfl)) (by rfl))))
   (@sC _ _ _ _ _ (aR (aJ gQ (pv 2) af (aG _)) (@sO _ _ _ (@sR _ _ _ _ (ax aK (ax aK (aS (pv 0) rfl) (av hX (pv 2) af) (λ_ _=>rfl)) (pv 1) (λ_ _=>rfl)))) aU)
   (@sO _ _ _ (@sR _ _ _ _ (ax aK (ax aK (aS (pv 0) rfl) (av hX (fI fG (pv 2)) af) (λ_ _=>rfl)) (pv 1) (λ_ _=>rfl))))))),?_⟩
  refine⟨_,rfl,g,dx,_,rfl,hg,jo ..,_,rfl,g,k,n,T',_,c,rfl,hc,dX,?_⟩;refine⟨_,rfl,g,C,dx,_,_,rfl,hg,TC.cl,TC.nk,vZ ..,_,rfl,hZ [l] λla H1 D6 ila s1=>⟨k,la,[l],rfl,ila,(λx hx=>by rw[Y2.mp hx];exact hl),?_⟩⟩;have q:=q H1 s1;have hc:=hc.same s1;obtain⟨dx,lo,li,as,bs,I,Qa,hg,h1,h2,h3,h4⟩:=id hc.ob;refine⟨_,rfl,_,_,rfl,rfl,_,rfl,bF (λhp=>?_) λhp=>?_⟩
  ·have hp:0<l:=of_decide_eq_true hp;have hj:(l-1).toNat<k:=by omega
   obtain⟨a,ea,_,e0,dA⟩:=h1.at (i:=(l-1).toNat) (by rw[kz];exact hj);rw[zA T' hj]at dA;refine⟨_,rfl,g,C,dx,_,_,rfl,hg,TC.cl,TC.no,Bd ..,_,rfl,_,_,rfl,rfl,kG (l-1).toNat h1 ea ⟨_,rfl,oM c dA (by rw[lJ,hc.ok.len];exact dX) ?_⟩ (by omega)⟩;unfold a6 at q;rw[if_pos hp]at q;rw[oC];exact q
  ·have hp:¬0<l:=λz=>hp (ZN z);have hj:(-l-1).toNat<k:=by omega
   obtain⟨a,ea,_,e0,dA⟩:=h2.at (i:=(-l-1).toNat) (by rw[h3];exact hj);have bg:=h4 _ hj;refine⟨_,rfl,g,C,dx,_,_,rfl,hg,TC.cl,TC.ni,abN ..,_,rfl,_,rfl,_,_,rfl,rfl,kG (-l-1).toNat h2 ea ⟨_,rfl,oM c dA (by rw[bg.len,lJ,hc.ok.len];exact dX) ?_⟩ (by omega)⟩;unfold a6 at q;rw[if_neg hp]at q;rw[aah hc.ok bg];exact q
def uP:aM ["self","chamber","way","here","letter"] ["self","chamber","way"] (aF yB):=aN
def XN{f C:Addr}{fd:FuncData}(F:aI K "trace" "Chart.trace" yB f fd)(CC:cy P w K mg base C "check_chamber" ["self","chamber"] 2 (BD C))(TC:lT K mg C)(CL:aW P w K mg base "check_letters" ["kinds","way"] 1 BE)
  (SE:cy P w K mg base C "step" ["self","chamber","letter"] 3 (Bg C))(CAN:aW P w K mg base "cancelled" ["way"] 1 (sX K)):
  az P w K mg base aL 4 f fd ["self","chamber","way"] (KW C):=by
 refine F.ok uP (λvs H Q E h=>?_) (λau A outer s H vs Q E hr h=>?_)
 ·obtain⟨g,k,n,T',fp,c,wa,ws,rfl,_⟩:=h
  rfl
 ·obtain⟨g,k,n,T',fp,c,wa,ws,rfl,hc,dX,hw,qO,hl,q⟩:=h;obtain⟨dx,lo,li,as,bs,I,rfl,hg,h1,h2,h3,h4⟩:=id hc.ob
  refine⟨_,(@sC _ _ _ _ _ (bA (CC.pe hr (pv 0) (@aC _ _ _ _ _ (pv 1) ae (by rfl))))
   (@sC _ _ _ _ _ (bA (CL.pe hr (@aC _ _ _ _ _ (aS (pv 0) rfl) (@aC _ _ _ _ _ (pv 2) ae (by rfl)) (by rfl))))
   (@sC _ _ _ _ _ (@sS _ 3 _ _ _ _ _ uP.nd rfl (Or.inl rfl) (pv 1) (by rfl) (.inl rfl))
   (@sC _ _ _ _ _ (bN Zm rfl (bH (CAN.pe hr (@aC _ _ _ _ _ (pv 2) ae (by rfl)))) (aO (i:=4) uP.nd rfl (Or.inl rfl)) (@sC _ _ _ _ _ (@sS _ 3 _ _ _ _ _ uP.nd rfl (Or.inl rfl) (SE.pe hr (pv 0) (@aC _ _ _ _ _ (pv 3) (@aC _ _ _ _ _ (pv 4) ae (by rfl)) (by rfl))) (by rfl) (.inl rfl))
   (@sO _ _ _ (aR (aJ AZ (pv 3) cU (aG _)) (@sO _ _ _ (@sR _ _ _ _ cU)) aU))))
   (@sO _ _ _ (@sR _ _ _ _ (pv 3))))))),?_⟩
  refine⟨_,rfl,g,dx,_,rfl,hg,jo ..,_,rfl,g,k,n,T',_,c,rfl,hc,dX,?_⟩;refine⟨_,rfl,g,C,dx,_,_,rfl,hg,TC.cl,TC.nk,vZ ..,_,rfl,k,wa,ws,rfl,hw,hl,?_⟩;refine⟨_,rfl,?_⟩;refine⟨_,rfl,wa,ws,rfl,ah.of hw,qO,λcu H3 hcu Qb s3=>?_⟩;have D8:=hc.same s3;have jd:=s3 _ _ hg;refine⟨cu,rfl,⟨_,ah.of Qb⟩,cS (K:=K) (a:=cu) (xs:=(cut ws).map V.int) (λi σ H4=>(∃(x:Option V) (d:Nat),σ=[some (.ref g),some (.int c),some (.ref wa),some (.int d),x]/\d<n/\bB T' (some (c:Int)) ((cut ws).take i)=some (d:Int))/\aa H3 H4) ⟨⟨_,c,rfl,dX,rfl⟩,aa.refl _⟩ (λi σ H4 _ ⟨_,e⟩=>ah.of (e.ints Qb)) ?_ ?_⟩
  ·rintro i x σ H4 hi ⟨⟨y,d,rfl,hd,ew⟩,s4⟩;obtain⟨l,rfl,el⟩:=gu hi;have qN:Let k l:=vA hl l (Y6 el);have e2:=Jy (T:=T') (o:=some (c:Int)) el;rw[ew]at e2;have e2:bB T' (some (c:Int)) ((cut ws).take (i+1))=a6 T' d l:=e2;refine⟨_,rfl,g,dx,_,rfl,s4 _ _ jd,jo ..,_,rfl,_,rfl,g,k,n,T',_,d,l,rfl,D8.same s4,hd,qN,λH5 s5=>?_⟩;refine⟨_,rfl,rfl,_,rfl,?_⟩;cases es:a6 T' d l with
   |none=>
    refine c4 ?_;rw[es]at e2;have:=q H5 (s3.trans (s4.trans s5));rw[W3 (i+1) e2]at this;exact this
   |some e=>
    obtain⟨z0,z1⟩:=jP hc.ok es;obtain⟨m,rfl⟩:∃m:Nat,e=(m:Int):=⟨e.toNat,by omega⟩;exact bE ⟨⟨_,m,rfl,by omega,by rw[e2,es]⟩,s4.trans s5⟩
  ·rintro σ H4 ⟨⟨y,d,rfl,hd,ew⟩,s4⟩;rw[Y1,List.take_length]at ew;have:=q H4 (s3.trans s4);rw[ew]at this;exact⟨_,rfl,this⟩
def QH:aM ["chart"] ["chart"] (aF xZ):=aN
def ace{f C:Addr}{fd:FuncData}(F:aI K "letters_in_order" "letters_in_order" xZ f fd)(T:Txt K mg)(TC:lT K mg C):az P w K mg base aL 1 f fd ["chart"] (Ny C):=by
 refine F.ok QH (λvs H Q E h=>?_) (λau A outer s H vs Q E hr h=>?_)
 ·obtain⟨g,k,n,T',fp,rfl,_⟩:=h
  rfl
 ·obtain⟨g,k,n,T',fp,rfl,hc,q⟩:=h;obtain⟨dx,lo,li,as,bs,I,rfl,hg,h1,h2,h3,h4⟩:=id hc.ob;have k5:=hc.k5;refine⟨_,(@sO _ _ _ (@sR _ _ _ _ (Xe [] [] (Up rfl T.range (aq af (aq (av cV (aS (pv 0) rfl) af) ae))) (λC s H fp=>pit K rfl (cW (aq (pv 0) (aq (fI fG (pv 0)) ae)))) (λC s H fp=>pv 1) oI))),?_⟩;refine⟨_,rfl,g,C,dx,_,_,rfl,hg,TC.cl,TC.nk,vZ ..,_,_,rfl,rfl,_,_,rfl,⟨by omega,by omega⟩,Tg (λi=>[1+(i:Int), -(1+(i:Int))]) (by omega) (λ_=>rfl) (λi hi y0 H2 Q' q'=>⟨_,rfl,_,rfl,_,rfl,q'⟩) λD H' hD n5 s2=>q D H' hD ?_ s2⟩;have e:((k:Int)+1-1).toNat=k:=by omega
  rw[e]at n5;exact n5
def mR:aM ["chart","base","ways","order","at","chamber","letter","there"] ["chart","base"] (aF zc):=aN
def aaL{f C:Addr}{fd:FuncData}(F:aI K "ways_from" "ways_from" zc f fd)(T:Txt K mg)(LI:aW P w K mg base "letters_in_order" ["chart"] 1 (Ny C))(SE:cy P w K mg base C "step" ["self","chamber","letter"] 3 (Bg C)):
  az P w K mg base aL 4 f fd ["chart","base"] (Bl C):=by
 refine F.ok mR (λvs H Q E h=>?_) (λau A outer s H vs Q E hr h=>?_)
 ·obtain⟨g,k,n,T',fp,b,rfl,_⟩:=h
  rfl
 ·obtain⟨g,k,n,T',fp,b,rfl,hc,hb,q⟩:=h;obtain⟨dx,lo,li,as,bs,I,rfl,hg,_⟩:=id hc.ob;have dq:=oX hr;have k5:=hc.k5;have n7:=hc.n7
  refine⟨_,(@sC _ _ _ _ _ (@sS _ 2 _ _ _ _ _ mR.nd rfl (Or.inl rfl) (YR (WI (pv 1) (eI ae) YQ) rfl rfl (by simp) (by decide)) (by rfl) (.inl rfl))
   (@sC _ _ _ _ _ (@sS _ 3 _ _ _ _ _ mR.nd rfl (Or.inl rfl) (@eL _ _ _ _ (@aC _ _ _ _ _ (pv 1) ae (by rfl))) (by rfl) (.inl rfl))
   (@sC _ _ _ _ _ (@sS _ 4 _ _ _ _ _ mR.nd rfl (Or.inl rfl) af (by rfl) (.inl rfl))
   (@sC _ _ _ _ _ (rW Zm (aJ ij (pv 4) (bq cO (by rfl) T.len PySem.boot_len (@aC _ _ _ _ _ (pv 3) ae (by rfl))) (aG _)) (@sC _ _ _ _ _ (@sS _ 5 _ _ _ _ _ mR.nd rfl (Or.inl rfl) (ax aK (pv 3) (pv 4) (λ_ _=>rfl)) (by rfl) (.inl rfl))
   (@sC _ _ _ _ _ (bN Zm rfl (bH (LI.pe hr (@aC _ _ _ _ _ (pv 0) ae (by rfl)))) (aO (i:=6) mR.nd rfl (Or.inl rfl)) (@sC _ _ _ _ _ (@sS _ 7 _ _ _ _ _ mR.nd rfl (Or.inl rfl) (SE.pe hr (pv 0) (@aC _ _ _ _ _ (pv 5) (@aC _ _ _ _ _ (pv 6) ae (by rfl)) (by rfl))) (by rfl) (.inl rfl))
   (@sO _ _ _ (aR (PW.pt (kF (aJ iM (pv 7) cU (aG _)) (kA (AW (HK dq (pv 7) (pv 2)) rfl)))) (@sC _ _ _ _ _ (Ao dq (pv 2) (pv 7) (av gM (kC dq (pv 2) (pv 5) (λ_ _=>rfl)) (@eL _ _ _ _ (@aC _ _ _ _ _ (pv 6) ae (by rfl)))) rfl)
   (@sO _ _ _ (bA (eA PySem.F.plainAttrs_list PySem.F.slot_list_append PySem.F.type_list_append dZ (pv 3) (@aC _ _ _ _ _ (pv 7) ae (by rfl)))))) aU))))
   (@sO _ _ _ (LV (i:=4) mR.nd rfl (Or.inl rfl) af LW)))))
   (@sO _ _ _ (aan (pv 2))))))),?_⟩
  refine λd hd=>⟨_,rfl,sv (by simp) λa0 H1 Qc ia0 s1=>⟨s1 _ _ ak,[(.inl (b:Int),.ref a0)],rfl,by simp,?_⟩⟩;have hda:a0≠d:=λz=>by rw[z,ak]at Qc;cases Qc
  have D9:aa H (upd H1 d (.dK (lK [] [(.inl (b:Int),.ref a0)]))):=(((aa.refl H).upd hd).trans s1).upd hd;have Qd:upd H1 d (.dK (lK [] [(.inl (b:Int),.ref a0)])) d=some (.dK (dU [(b,a0,[])])):=by rw[ak];rfl
  have Ea:aw (upd H1 d (.dK (lK [] [(.inl (b:Int),.ref a0)]))) a0 []:=by show upd _ _ _ _=_;rw[ai hda];exact ia0
  generalize upd H1 d (.dK (lK [] [(.inl (b:Int),.ref a0)]))=H2 at D9 Qd Ea;refine⟨_,rfl,hZ [(b:Int)] λlo H3 nR D2 s3=>?_⟩
  have ws3:WS H H3 d lo [(b,a0,[])]:=by
   refine⟨⟨s3 _ _ Qd,λp hp=>?_⟩,D2,λp hp=>?_,hd,D9.free nR,D9.trans s3⟩
   ·rw[Y2.mp hp];exact s3.ints Ea
   ·rw[Y2.mp hp];intro z;have z:a0=lo:=z;rw[<-z,Ea]at nR;cases nR
  refine zO (λσ H4=>∃(W:Wy) (i:Nat) (x5 x6 x7:Option V),σ=[some (.ref g),some (.int b),some (.ref d),some (.ref lo),some (.int i),x5,x6,x7]/\WS H H4 d lo W/\eQ T' k n b W/\i<=W.length/\nM T' k (n+1-i) i (era W)=cz T' k n b)
   (λσ H4=>match σ with|[_,_,_,_,some (.int i),_,_,_]=>n+1-i.toNat|_=>0) ⟨_,0,none,none,none,rfl,ws3,eQ.zero hb a0,Zp _,rfl⟩ ?_ ?_
  ·rintro σ H4 ⟨W,i,x5,x6,x7,rfl,ws,wi,hi,eb⟩
   have wl:W.length<=n:=by
    have:=dI.len (n:=n) (O:=keys W) ⟨wi.nd,λc hc=>by obtain⟨p,hp,rfl⟩:=Zh.mp hc;exact wi.lt p hp⟩;unfold keys at this;rwa [Y1]at this
   have el:((((keys W).map λ(c:Nat)=>(c:Int)).map V.int).length:Int)=W.length:=by simp[keys]
   refine⟨_,rfl,_,rfl,lo,_,rfl,.inl (ah.of ws.io),_,_,rfl,rfl,_,rfl,?_⟩;rw[el];refine bF (λaP=>?_) λmE=>?_
   ·have aP:(i:Int)<W.length:=of_decide_eq_true aP;have aP:i<W.length:=by omega
    have k7:i<(era W).length:=by unfold era;rw[Y1];exact aP
    have eW:W[i]?=some W[i]:=by simp[aP]
    generalize hp:W[i]=p at eW;have mp:p∈W:=Y6 eW
    have ec:((keys W).map λ(c:Nat)=>(c:Int)).getD i 0=(p.1:Int):=by
     have:(keys W)[i]?=some p.1:=by unfold keys;rw[Zf,eW];rfl
     rw[List.getD,Zf,this];rfl
    have ek:(era W).getD i (0,[])=(p.1,p.2.2):=by
     have:(era W)[i]?=some (p.1,p.2.2):=by unfold era;rw[Zf,eW];rfl
     rw[List.getD,this];rfl
    refine⟨_,rfl,_,rfl,aT i ws.io (by simp[keys];exact aP) ?_⟩;rw[ec];refine⟨_,rfl,g,k,n,T',_,rfl,hc.same ws.sm,λll H5 uA ill s5=>?_⟩;have ws5:=ws.same s5
    refine⟨ll,rfl,⟨_,ah.of ill⟩,cS (K:=K) (a:=ll) (xs:=(lets k).map V.int) (λj σ H6=>∃(W6:Wy) (y6 y7:Option V) (r:Wy),σ=[some (.ref g),some (.int b),some (.ref d),some (.ref lo),some (.int i),some (.int p.1),y6,y7]/\WS H H6 d lo W6/\eQ T' k n b W6/\W6=W++r/\aw H6 ll (lets k)/\ll≠lo/\era W6=((lets k).take j).foldl (gF T' (p.1,p.2.2)) (era W))
     ⟨W,_,_,[],rfl,ws5,wi,by simp,ill,(λz=>by rw[z,ws.io]at uA;cases uA),rfl⟩ (λj σ H6 _ ⟨_,_,_,_,_,_,_,_,e,_⟩=>ah.of e) ?_ ?_⟩
    ·rintro j x σ H6 hj ⟨W6,y6,y7,r,rfl,jg,lC,rJ,iI,uC,xJ⟩;obtain⟨l,rfl,Qe⟩:=gu hj;have hl:Let k l:=r9.mp (Y6 Qe);have xK:p∈W6:=by rw[rJ];exact Zc _ mp
     have es:((lets k).take (j+1)).foldl (gF T' (p.1,p.2.2)) (era W)=gF T' (p.1,p.2.2) (era W6) l:=by rw[rP Qe,xJ]
     refine⟨_,rfl,g,dx,_,rfl,jg.sm _ _ hg,jo ..,_,rfl,_,rfl,g,k,n,T',_,p.1,l,rfl,hc.same jg.sm,wi.lt p mp,hl,λH6' w6=>?_⟩;replace jg:=jg.same w6;replace iI:=w6.ints iI;refine⟨_,rfl,rfl,_,rfl,?_⟩;cases e:a6 T' p.1 l with
     |none=>
      refine bE ⟨W6,_,_,r,rfl,jg,lC,rJ,iI,uC,?_⟩;rw[es];unfold gF;rw[e]
     |some dd=>
      obtain⟨z0,z1⟩:=jP hc.ok e;obtain⟨c,rfl⟩:∃c:Nat,dd=(c:Int):=⟨dd.toNat,by omega⟩;refine c4 ⟨_,rfl,_,rfl,d,_,rfl,dG.k (k:=.inl (c:Int)) jg.dw.is,_,rfl,?_⟩;have ev:gF T' (p.1,p.2.2) (era W6) l=if c∈keys W6 then era W6 else era W6++[(c,p.2.2++[l])]:=by unfold gF;rw[e,qr];rfl
      by_cases jf:c∈keys W6
      ·obtain⟨p2,jB,e2⟩:=Zh.mp jf;have v2:=Ac lC.nd jB;have e2:p2.1=c:=e2;rw[e2]at v2;rw[v2];refine bE ⟨W6,_,_,r,rfl,jg,lC,rJ,iI,uC,?_⟩;rw[es,ev,if_pos jf]
      ·rw[JT jf]
       have wl6:W6.length<=n:=by
        have:=dI.len (n:=n) (O:=keys W6) ⟨lC.nd,λc hc=>by obtain⟨p,hp,rfl⟩:=Zh.mp hc;exact lC.lt p hp⟩;unfold keys at this;rwa [Y1]at this
       have aeL:p.2.2.length<=n:=by
        obtain⟨jj,hjj,ejj⟩:=ZD xK;have:=lC.ln jj p (by simp[<-ejj,hjj]);omega
       refine c4 ⟨_,rfl,_,rfl,d,_,rfl,(by have:=dG.k (k:=.inl (p.1:Int)) jg.dw.is;rw[Ac lC.nd xK]at this;exact this),_,rfl,hZ [l] λq1 H7 hq1 iq1 s7=>?_⟩;refine jm (s7.ints (jg.dw.wy p xK)) iq1 (by simp;omega) λa H8 ha ia s8=>?_;have xM:=jg.same (s7.trans s8);refine⟨_,rfl,_,rfl,d,_,rfl,iu.k (k:=.inl (c:Int)) xM.dw.is (bw (by unfold dU;rw[Y1];omega)),?_⟩;have Qf:aw (upd H8 d (.dK (putK (dU W6) (.inl (c:Int)) (.ref a)))) lo ((keys W6).map λ(c:Nat)=>(c:Int)):=xM.io.other xM.ne.symm;refine⟨_,rfl,.inl ⟨rfl,_,ah.of Qf⟩,_,rfl,lo,_,_,rfl,rfl,Qf,bw (by simp[keys];omega),?_⟩;have ha6:H6' a=none:=s7.free ha;have wn:=jg.add (s7.trans s8) ha6 ia jf
       have aeg:aw (upd H8 d (.dK (putK (dU W6) (.inl (c:Int)) (.ref a)))) ll (lets k):=((s7.trans s8).ints iI).other λz=>by
        have:=xM.dw.is;rw[<-z,show H8 ll=_ from(s7.trans s8).ints iI]at this;cases this
       refine⟨W6++[(c,a,p.2.2++[l])],_,_,r++[(c,a,p.2.2++[l])],rfl,wn,lC.add hc.ok xK hl e jf a,by rw[rJ,ZY],aeg.other uC,uC,?_⟩;rw[es,ev,if_neg jf];unfold era;rw[Ze];rfl
    ·rintro σ H6 ⟨W6,y6,y7,r,rfl,jg,lC,rJ,iI,uC,xJ⟩;rw[Y1,List.take_length]at xJ;refine⟨_,rfl,_,_,rfl,rfl,⟨W6,i+1,_,_,_,rfl,jg,lC,by rw[rJ,Zo];omega,?_⟩,?_⟩
     ·have e1:n+1-i=(n+1-(i+1))+1:=by omega
      rw[e1,AJ k7]at eb;rw[xJ];unfold wF at eb;rw[ek]at eb;exact eb
     ·show n+1-((i:Int)+1).toNat<n+1-(i:Int).toNat;omega
   ·have mE:¬(i:Int)<W.length:=λz=>mE (ZN z);have hk:(era W).length<=i:=by unfold era;rw[Y1];omega
    rw[zF hk]at eb;refine⟨_,rfl,d,_,rfl,ws.dw.is,λo=>q d W _ hd ⟨⟨o,ak⟩,λp hp=>?_⟩ wi eb (ws.sm.upd hd)⟩;have i1:=ws.dw.wy p hp;exact i1.other λy=>by rw[y]at i1;have e:=ws.dw.is;rw[show H4 d=_ from i1]at e;cases e
  ·rintro σ H Q Q' hQ ⟨v,e,v',e',p,ys,uo,q,i,j,e3,e4,b,e5,q5⟩;exact⟨v,e,v',e',p,ys,uo,q,i,j,e3,e4,b,e5,hQ _ _ q5⟩
def Tv:aM ["ways","chamber","kind","there"] ["ways","chamber","kind","there"] (aF zI):=aN
def aaM{f:Addr}{fd:FuncData}(F:aI K "is_used" "is_used" zI f fd):az P w K mg base aL 1 f fd ["ways","chamber","kind","there"] MQ:=by
 refine F.ok Tv (λvs H Q E h=>?_) (λau A outer s H vs Q E hr h=>?_)
 ·obtain⟨d,W,c,e,κ,rfl,_⟩:=h
  rfl
 ·obtain⟨d,W,c,e,κ,rfl,fw,nd,hc,he,hl,q⟩:=h;have hu:=hr.units;have dq:=oX hr;obtain⟨a,ga,ia⟩:=fw.get nd hc;obtain⟨b,gb,ib⟩:=fw.get nd he
  have la:∀x,(way (era W) x).length<=1000:=λx=>by
   unfold way;cases z:(era W).find? (λp=>p.1==x)with
   |none=>simp
   |some p=>
    obtain⟨p',kW,rfl⟩:=Zh.mp (List.mem_of_find?_eq_some z);exact hl p' kW
  refine⟨_,(@sO _ _ _ (@sR _ _ _ _ (acu (iN (vp hu) (kC dq (pv 0) (pv 3) (λ_ _=>rfl)) (av gM (kC dq (pv 0) (pv 1) (λ_ _=>rfl)) (@eL _ _ _ _ (@aC _ _ _ _ _ (pv 2) ae (by rfl)))) (aG _)) (abd (iN (vp hu) (kC dq (pv 0) (pv 1) (λ_ _=>rfl)) (av gM (kC dq (pv 0) (pv 3) (λ_ _=>rfl)) (@eL _ _ _ _ (@aC _ _ _ _ _ (fI fG (pv 2)) ae (by rfl)))) (aG _)))))),?_⟩;refine⟨_,rfl,_,rfl,d,_,rfl,gb,_,rfl,_,rfl,d,_,rfl,ga,_,rfl,hZ [κ] λp1 H1 uw Eb s1=>?_⟩;refine jm (s1.ints ia) Eb (by have:=la c;simp;omega) λp2 H2 jB uD s2=>?_;have bD:=s1.trans s2;refine vU (bD.ints ib) uD ?_;unfold used at q;by_cases z:way (era W) e=way (era W) c++[κ]
  ·rw[ZN z]at q⊢;exact⟨_,rfl,c4 (q _ bD)⟩
  ·rw[ZO z]at q⊢;have Qg:=fw.same bD;obtain⟨a2,ga2,ia2⟩:=Qg.get nd hc;obtain⟨b2,gb2,ib2⟩:=Qg.get nd he;refine⟨_,rfl,bE ⟨_,rfl,_,rfl,d,_,rfl,ga2,_,rfl,_,rfl,d,_,rfl,gb2,_,rfl,_,rfl,hZ [-κ] λp3 H3 Po Ec s3=>?_⟩⟩;refine jm (s3.ints ib2) Ec (by have:=la e;simp;omega) λp4 H4 xt Ed s4=>?_;exact vU ((s3.trans s4).ints ia2) Ed (q _ (bD.trans (s3.trans s4)))
def pY:aM ["chart","ways","table","found","chamber","place","there"] ["chart","ways"] (aF yh):=aN
def XO{f C:Addr}{fd:FuncData}(F:aI K "loose_passages" "loose_passages" yh f fd)(T:Txt K mg)(TB:cy P w K mg base C "table" ["self"] 2 (vL C))(IU:aW P w K mg base "is_used" ["ways","chamber","kind","there"] 1 MQ):
  az P w K mg base aL 3 f fd ["chart","ways"] (Lm C):=by
 refine F.ok pY (λvs H Q E h=>?_) (λau A outer s H vs Q E hr h=>?_)
 ·obtain⟨g,d,k,n,T',fp,W,rfl,_⟩:=h
  rfl
 ·obtain⟨g,d,k,n,T',fp,W,rfl,hc,fw,wi,eW,q⟩:=h;obtain⟨dx,lo,li,as0,bs,I,rfl,hg,_⟩:=id hc.ob;have k5:=hc.k5;have n7:=hc.n7
  have wl:W.length<=n:=by
   have:=dI.len (n:=n) (O:=keys W) ⟨wi.nd,λc hc=>by obtain⟨p,hp,rfl⟩:=Zh.mp hc;exact wi.lt p hp⟩;unfold keys at this;rwa [Y1]at this
  have ek:keys W=met T' k n 0:=by rw[<-qr,eW,qp]
  have cl:=(m8 hc.ok (k:=k) (base:=0) hc.n1).2.2;rw[<-ek]at cl;rw[<-eW, <-ek]at q
  refine⟨_,(@sC _ _ _ _ _ (@sS _ 2 _ _ _ _ _ pY.nd rfl (Or.inl rfl) (TB.eY hr (pv 0)) (by rfl) (.inl rfl))
   (@sC _ _ _ _ _ (@sS _ 3 _ _ _ _ _ pY.nd rfl (Or.inl rfl) (eI ae) (by rfl) (.inl rfl))
   (@sC _ _ _ _ _ (bN Zm rfl (aao (pv 1)) (aO (i:=4) pY.nd rfl (Or.inl rfl)) (@sO _ _ _ (bN Zm rfl (vt rfl T.enum vq (@aC _ _ _ _ _ (ax aK (pv 2) (pv 4) (λ_ _=>rfl)) ae (by rfl))) (eJ rfl (bt (aO (i:=5) pY.nd rfl (Or.inl rfl)) (bt (aO (i:=6) pY.nd rfl (Or.inl rfl)) eG))) (@sO _ _ _ (aR (PW.pt (kF (aJ iM (pv 6) cU (aG _)) (kA (jN (gN (IU.pe hr (@aC _ _ _ _ _ (pv 1) (@aC _ _ _ _ _ (pv 4) (@aC _ _ _ _ _ (av cV (pv 5) af) (@aC _ _ _ _ _ (pv 6) ae (by rfl)) (by rfl)) (by rfl)) (by rfl)))))))) (@sO _ _ _ (bA (eA PySem.F.plainAttrs_list PySem.F.slot_list_append PySem.F.type_list_append dZ (pv 3) (@aC _ _ _ _ _ (cW (@aC _ _ _ _ _ (pv 4) (@aC _ _ _ _ _ (av cV (pv 5) af) (@aC _ _ _ _ _ (pv 6) ae (by rfl)) (by rfl)) (by rfl))) ae (by rfl))))) aU)))))
   (@sO _ _ _ (@sR _ _ _ _ (pv 3)))))),?_⟩
  refine⟨_,rfl,g,dx,_,rfl,hg,jo ..,g,k,n,T',_,rfl,hc,λt as H1 ft fa nd tb s1=>?_⟩;refine sv (by simp) λl H2 hl il s2=>?_;have bD:=s1.trans s2;have fl:H l=none:=s1.free hl;obtain⟨o,eo⟩:=fw.is
  have lle:∀i,(fR T' k (era W) ((keys W).take i)).length<=i*k:=λi=>by
   unfold fR
   induction i with
   |zero=>simp
   |succ i ih=>
    by_cases hi:i<(keys W).length
    ·rw[Zj hi,List.flatMap_append,Zo,Nat.add_mul]
     have:([(keys W)[i]].flatMap (pf T' (era W) k)).length<=k:=by
      simp only[List.flatMap_cons,List.flatMap_nil,ZX];unfold pf;rw[Y1];have:=List.length_filter_le (iH T' (era W) (keys W)[i]) (List.range k);simpa using this
     omega
    ·rw[ZE (by omega)]at ih⊢;rw[Nat.add_mul];omega
  refine⟨_,rfl,d,o,_,rfl,bD _ _ eo,Xd (o:=o) (d:=d) (kvs:=dU W) (λi σ H3=>∃(ps:Ps) (x4 x5 x6:Option V),σ=[some (.ref g),some (.ref d),some (.ref t),some (.ref l),x4,x5,x6]/\Tl H3 l ps/\ps.map (·.2)=fR T' k (era W) ((keys W).take i)/\aa H H3/\aa H1 H3)
   ⟨[],none,none,none,rfl,⟨il,λ_ z=>nomatch z⟩,rfl,bD,s2⟩ (λi σ H3 _ ⟨_,_,_,_,_,_,_,s3,_⟩=>s3 _ _ eo) ?_ ?_⟩
  ·rintro i p σ H3 hi ⟨ps,x4,x5,x6,rfl,tl,oy,s3,dc⟩
   have Ee:i<W.length:=by
    have:=(ZL.mp hi).1;unfold dU at this;rwa [Y1]at this
   have Qh:p=(.inl (W[i].1:Int),.ref W[i].2.1):=by
    unfold dU at hi;rw[Zf,Zd Ee]at hi;exact(Zg hi).symm
   generalize hx:W[i]=x at Qh;have mx:x∈W:=hx▸ZA Ee;have Ef:(keys W)[i]?=some x.1:=by unfold keys;rw[Zf,Zd Ee,hx];rfl
   have mk:x.1∈keys W:=Y6 Ef;have hxn:=wi.lt x mx;subst Qh;obtain⟨ra,Ox,xH,eT,dA⟩:=(tb.same dc).at (i:=x.1) (by rw[hc.ok.len];exact hxn);have aeh:(T'.getD x.1 []).length=k:=hc.ok.row _ (Y6 eT);refine⟨_,rfl,_,rfl,kG x.1 (tb.same dc) Ox ⟨ra,rfl,⟨_,ah.of dA⟩,?_⟩⟩
   refine zT (K:=K) (a:=ra) (xs:=(T'.getD x.1 []).map oV) (λj σ H4=>∃(mJ:Ps) (y5 y6:Option V),σ=[some (.ref g),some (.ref d),some (.ref t),some (.ref l),some (.int x.1),y5,y6]/\Tl H4 l mJ/\mJ.map (·.2)=fR T' k (era W) ((keys W).take i)++((List.range j).filter (iH T' (era W) x.1)).map (wG T' x.1)/\j<=k/\aa H H4/\aa H1 H4)
    ⟨ps,_,_,rfl,tl,by rw[oy];simp,Zp _,s3,dc⟩ (λj σ H4 _ ⟨_,_,_,_,_,_,_,_,s4⟩=>ah.of ((tb.same s4).rw _ _ _ Ox eT)) ?_ ?_
   ·rintro j v σ H4 tt hj Eg ⟨mJ,y5,y6,rfl,xN,e4,hjk,s4,fS⟩;obtain⟨z,rfl,ez⟩:=Az hj;have kh:j<k:=by have:=(ZL.mp ez).1;omega
    have ec:cell T' x.1 j=z:=getD_some ez;have s5:aa H (upd H4 tt (.tup [.int j,oV z])):=s4.fM Eg;have xO:aa H1 (upd H4 tt (.tup [.int j,oV z])):=fS.fM Eg;have pS:Tl (upd H4 tt (.tup [.int j,oV z])) l mJ:=xN.same ((aa.refl H4).upd Eg);refine⟨tt,_,rfl,aZ.of ak,rfl,_,_,rfl,_,_,rfl,rfl,?_⟩;generalize upd H4 tt (.tup [.int j,oV z])=H5 at s5 xO pS
    have ef:(List.range (j+1)).filter (iH T' (era W) x.1)=(List.range j).filter (iH T' (era W) x.1)++(if iH T' (era W) x.1 j then [j]else []):=by
     rw[List.range_succ,List.filter_append];cases h:iH T' (era W) x.1 j<;>simp[h]
    cases z with
    |none=>
     refine⟨_,rfl,rfl,_,rfl,bE ⟨mJ,_,_,rfl,pS,?_,kh,s5,xO⟩⟩;have:iH T' (era W) x.1 j=false:=by unfold iH;rw[ec]
     rw[ef,this,e4];simp
    |some e=>
     have r:=hc.ok.bx _ _ _ ec;obtain⟨m,rfl⟩:∃m:Nat,e=(m:Int):=⟨e.toNat,by omega⟩;have hs:a6 T' x.1 ((j:Int)+1)=some (m:Int):=by unfold a6;rw[if_pos (by omega),show((j:Int)+1-1).toNat=j by omega];exact ec
     have mm:m∈keys W:=cl x.1 mk _ ⟨by omega,by omega,by omega⟩ _ hs;refine⟨_,rfl,rfl,_,rfl,c4 ⟨_,rfl,_,rfl,_,rfl,_,_,rfl,rfl,_,rfl,d,W,x.1,m,(j:Int)+1,rfl,fw.same s5,wi.nd,mk,mm,wi.short (by omega),λH6 s6=>⟨_,rfl,?_⟩⟩⟩;have ep:iH T' (era W) x.1 j= !used (era W) x.1 ((j:Int)+1) m:=by unfold iH;rw[ec];rfl
     have Qi:=s5.trans s6;cases hu:used (era W) x.1 ((j:Int)+1) m with
     |true=>
      refine bE ⟨mJ,_,_,rfl,pS.same s6,?_,kh,Qi,xO.trans s6⟩;rw[ef,ep,hu,e4];simp
     |false=>
      refine c4 ⟨_,rfl,.inl ⟨rfl,_,ah.of (pS.same s6).is⟩,_,rfl,_,rfl,_,_,rfl,rfl,_,rfl,(show 3<=sizeLine by decide),λqq hq=>⟨l,_,_,rfl,rfl,by rw[ai (a8 (pS.same s6).is hq)];exact(pS.same s6).is,bw ?_,?_⟩⟩
      ·have h1:=congrArg List.length e4;rw[Y1,Zo,Y1]at h1;have h2:=List.length_filter_le (iH T' (era W) x.1) (List.range j);have h3:=lle i;rw[List.length_range]at h2;have h4:i*k<=700*5:=Nat.mul_le_mul (by omega) k5;rw[Y1];omega
      ·refine⟨mJ++[(qq,[(x.1:Int),(j:Int)+1,(m:Int)])],_,_,rfl,aar _ (pS.same s6) hq,?_,kh,(Qi.fM hq).upd fl,((xO.trans s6).fM hq).upd hl⟩;rw[Ze,ef,ep,hu,e4];simp only[Bool.not_false,if_true,Ze,Zr,List.map_nil,ZY];unfold wG;rw[ec];rfl
   ·rintro σ H4 ⟨mJ,y5,y6,rfl,xN,e4,_,s4,fS⟩;refine⟨mJ,_,_,_,rfl,xN,?_,s4,fS⟩;rw[Y1,aeh]at e4;have D7:i<(keys W).length:=(ZL.mp Ef).1;rw[e4,Zj D7];unfold fR;rw[List.flatMap_append];have:(keys W)[i]=x.1:=(ZL.mp Ef).2;rw[this];simp[pf]
  ·rintro σ H3 ⟨ps,x4,x5,x6,rfl,tl,oy,s3,dc⟩;refine⟨_,rfl,q l ps H3 fl tl ?_ s3⟩;rw[oy];have:(dU W).length=(keys W).length:=by simp[dU,keys]
   rw[this,List.take_length]
def uU:aM ["ways","passage","chamber","kind","there"] ["ways","passage"] (aF zq):=aN
def aaN{f:Addr}{fd:FuncData}(F:aI K "home_row" "home_row" zq f fd)(TUR:aW P w K mg base "turned" ["way"] 1 (sN K)):az P w K mg base aL 2 f fd ["ways","passage"] MR:=by
 refine F.ok uU (λvs H Q E h=>?_) (λau A outer s H vs Q E hr h=>?_)
 ·obtain⟨d,t,W,c,e,κ,rfl,_⟩:=h
  rfl
 ·obtain⟨d,t,W,c,e,κ,rfl,fw,nd,ht,hc,he,hl,q⟩:=h;have dq:=oX hr;obtain⟨a,ga,ia⟩:=fw.get nd hc
  have la:∀x,(way (era W) x).length<=1000:=λx=>by
   unfold way;cases z:(era W).find? (λp=>p.1==x)with
   |none=>simp
   |some p=>
    obtain⟨p',kW,rfl⟩:=Zh.mp (List.mem_of_find?_eq_some z);exact hl p' kW
  refine⟨_,(@sC _ _ _ _ _ (gy (pv 1) (eJ rfl (bt (aO (i:=2) uU.nd rfl (Or.inl rfl)) (bt (aO (i:=3) uU.nd rfl (Or.inl rfl)) (bt (aO (i:=4) uU.nd rfl (Or.inl rfl)) eG)))))
   (@sO _ _ _ (@sR _ _ _ _ (av gM (av gM (kC dq (pv 0) (pv 2) (λ_ _=>rfl)) (@eL _ _ _ _ (@aC _ _ _ _ _ (pv 3) ae (by rfl)))) (TUR.pe hr (@aC _ _ _ _ _ (kC dq (pv 0) (pv 4) (λ_ _=>rfl)) ae (by rfl))))))),?_⟩
  refine⟨_,rfl,t,_,rfl,aZ.of ht,rfl,_,_,rfl,_,_,rfl,_,_,rfl,rfl,?_⟩;refine⟨_,rfl,_,rfl,d,_,rfl,ga,_,rfl,hZ [κ] λp1 H1 uw Eb s1=>?_⟩;have l1:=la c;have l2:=la e;refine jm (s1.ints ia) Eb (by simp;omega) λp2 H2 jB uD s2=>?_;have bD:=s1.trans s2;obtain⟨b,gb,ib⟩:=(fw.same bD).get nd he;refine⟨_,rfl,_,rfl,d,_,rfl,gb,b,_,rfl,ah.of ib,by omega,λp3 H3 Po Ec s3=>?_⟩;refine jm (s3.ints uD) Ec (by simp;omega) λp4 H4 xt Ed s4=>q p4 H4 ((bD.trans s3).free xt) ?_ ((bD.trans s3).trans s4);exact Ed
def Ka:aM ["chart","ways"] ["chart"] (aF AR):=aN
def XQ{f C:Addr}{fd:FuncData}(F:aI K "homes" "homes" AR f fd)(WF:aW P w K mg base "ways_from" ["chart","base"] 4 (Bl C))(LP:aW P w K mg base "loose_passages" ["chart","ways"] 3 (Lm C))(HR:aW P w K mg base "home_row" ["ways","passage"] 2 MR):
  az P w K mg base aL 5 f fd ["chart"] (Ln C):=by
 refine F.ok Ka (λvs H Q E h=>?_) (λau A outer s H vs Q E hr h=>?_)
 ·obtain⟨g,k,n,T',fp,rfl,_⟩:=h
  rfl
 ·obtain⟨g,k,n,T',fp,rfl,hc,q⟩:=h;have n7:=hc.n7;have k5:=hc.k5
  refine⟨_,(@sC _ _ _ _ _ (bJ (i:=1) Ka.nd rfl (Or.inr rfl) (WF.pe hr (aq (pv 0) (aq af ae))))
   (@sO _ _ _ (@sR _ _ _ _ (gL ["ways"] [1] (bH (LP.pe hr (aq (pv 0) (aq (pv 1) ae)))) (λC s H fp=>HR.pe hr (aq (pv 1) (aq (pv 0) ae))) (jx rfl))))),?_⟩
  refine⟨_,rfl,g,k,n,T',fp,0,rfl,hc,hc.n1,λd W H1 hd fw wi eW s1=>?_⟩;have ek:keys W=met T' k n 0:=by rw[<-qr,eW,qp]
  have cl:=(m8 hc.ok (k:=k) (base:=0) hc.n1).2.2;rw[<-ek]at cl;refine⟨_,rfl,_,rfl,g,d,k,n,T',fp,W,rfl,hc.same s1,fw,wi,eW,λl ps H2 hl tl oy s2=>?_⟩;refine⟨l,rfl,⟨_,ah.of tl.is⟩,UP (xs:=ps.map λp=>V.ref p.1) ((oZ T' k n).map λr=>r.map some) (ah.of tl.is) ?_ ?_ (λi x r hi eE H3 s3 Q' q'=>?_) λD as H3 N3=>?_⟩
  ·unfold oZ;rw[<-oy];simp
  ·rw[Y1];have h1:=congrArg List.length oy;rw[Y1]at h1;rw[h1];unfold fR
   have gen:∀O:List Nat,(O.flatMap (pf T' (cz T' k n 0) k)).length<=O.length*k:=λO=>by
    induction O with
    |nil=>simp
    |cons a O ih=>
     rw[List.flatMap_cons,Zo,ZF,Nat.add_mul]
     have:(pf T' (cz T' k n 0) k a).length<=k:=by
      unfold pf;rw[Y1];have:=List.length_filter_le (iH T' (cz T' k n 0) a) (List.range k);simpa using this
     omega
   have h2:=gen (met T' k n 0);have h3:=dI.len (m8 hc.ok (k:=k) (base:=0) hc.n1).1;have h4:(met T' k n 0).length*k<=700*5:=Nat.mul_le_mul (by omega) k5;omega
  ·obtain⟨p,rfl,ep⟩:=kD hi;have mp:p.2∈fR T' k (cz T' k n 0) (met T' k n 0):=by rw[<-oy];exact Zh.mpr ⟨p,Y6 ep,rfl⟩
   obtain⟨c,j,e,et,um,hj,ec,_⟩:=Lo mp;have r0:=hc.ok.bx _ _ _ ec;obtain⟨m,rfl⟩:∃m:Nat,e=(m:Int):=⟨e.toNat,by omega⟩;rw[<-ek]at um;have hs:a6 T' c ((j:Int)+1)=some (m:Int):=by unfold a6;rw[if_pos (by omega),show((j:Int)+1-1).toNat=j by omega];exact ec
   have mm:m∈keys W:=cl c um _ ⟨by omega,by omega,by omega⟩ _ hs;have ht:=(tl.same s3).tp p (Y6 ep);rw[et]at ht;refine⟨_,rfl,_,rfl,d,p.1,W,c,m,(j:Int)+1,rfl,fw.same (s2.trans s3),wi.nd,ht,um,mm,wi.short (by omega),λl4 H4 DA ow s4=>q' l4 H4 DA ?_ s4⟩
   have er:r=(kO (cz T' k n 0) p.2).map some:=by
    unfold oZ at eE;rw[Zf,Zf]at eE;have e1:(fR T' k (cz T' k n 0) (met T' k n 0))[i]?=some p.2:=by rw[<-oy,Zf,ep];rfl
    rw[e1]at eE;exact(Zg eE).symm
   rw[er,et, <-eW];exact Xg ow
  ·obtain⟨ps3,e1,e2,lA⟩:=ac5 N3;have bD:=s1.trans s2;refine q D ps3 H3 (bD.free N3.ft) (λp hp=>bD.free (N3.fa p.1 (by rw[<-e2];exact Zh.mpr ⟨p,hp,rfl⟩))) (by rw[e2];exact N3.nd) lA e1 (bD.trans N3.sm)
def NI:(["number","chamber"]:List Str).Nodup:=by decide+kernel
def yN:aM ["chart","order","table","numbers"] ["chart","order"] (aF yS):=aN
def acf{f C:Addr}{fd:FuncData}(F:aI K "renumbered" "renumbered" yS f fd)(T:Txt K mg)(TC:lT K mg C)(TB:cy P w K mg base C "table" ["self"] 2 (vL C))(CH:mf P w K mg base C "Chart" ["self","kinds","table"] 2 (Be C)):
  az P w K mg base aL 4 f fd ["chart","order"] (Nz C):=by
 refine F.ok yN (λvs H Q E h=>?_) (λau A outer s H vs Q E hr h=>?_)
 ·obtain⟨g,la,k,n,T',fp,ord,rfl,_⟩:=h
  rfl
 ·obtain⟨g,la,k,n,T',fp,ord,rfl,hc,io,nd,lt,ne,q⟩:=h;have dq:=oX hr;obtain⟨dx,lo,li,as,bs,I,Qa,hg,_⟩:=id hc.ob
  refine⟨_,(@sC _ _ _ _ _ (bJ (i:=2) yN.nd rfl (Or.inr rfl) (TB.eY hr (pv 0)))
   (@sC _ _ _ _ _ (bJ (i:=3) yN.nd rfl (Or.inr rfl) (UZ ["number","chamber"] dq (vt rfl T.enum vq (aq (pv 1) ae)) (λC s H fp=>pgt K (n:=2) rfl rfl (bt (aO (i:=0) NI rfl (Or.inl rfl) (.inr rfl)) (bt (aO (i:=1) NI rfl (Or.inl rfl) (.inr rfl)) eG))) (λC s H fp=>pv 1) (λC s H fp=>pv 0) oI))
   (@sO _ _ _ (@sR _ _ _ _ (CH.pe hr (@aC _ _ _ _ _ (aS (pv 0) rfl) (@aC _ _ _ _ _ (gL ["table","numbers"] [2,3] (bH (pv 1)) (λC s H fp=>gL ["numbers"] [2] (C6 K rfl (ax (C5 K rfl) (pv 1) (pv 0) (λ_ _=>rfl))) (λC2 s2 H2 nZ=>WJ dq (pv 1) (pv 0) m1) (jx rfl)) (Aq rfl rfl) (k:=⟨rfl,rfl,rfl,rfl,rfl,rfl,by decide+kernel,rfl,rfl,rfl,λ_=>rfl⟩)) ae (by rfl)) (by rfl))))))),?_⟩
  have aee:ord.length<=n:=dI.len ⟨nd,lt⟩;have n7:=hc.n7;have xl:((ord.map λ(c:Nat)=>(c:Int)).map V.int).length=ord.length:=by simp
  refine⟨_,rfl,g,dx,_,rfl,hg,jo ..,g,k,n,T',fp,rfl,hc,λt ts H1 ft fts ndt tb s1=>?_⟩;have Qj:=s1.ints io;refine⟨_,rfl,la,rfl,⟨_,ah.of Qj⟩,Sv (K:=K) (xs:=(ord.map λ(c:Nat)=>(c:Int)).map V.int) (λi kvs=>kvs=gW (ord.take i)) rfl (λH' s=>ah.of (s _ _ Qj)) (λi x H2 D kvs t' hi ht s2 hD eD pv nb Dp F hF=>?_) λD H2 kvs hD eD pv s2=>?_⟩
  ·obtain⟨z,rfl,ez⟩:=gu hi;rw[Zf]at ez;cases eo:ord[i]? with
   |none=>rw[eo]at ez;cases ez
   |some c=>
    rw[eo]at ez;obtain rfl:(c:Int)=z:=Zg ez;have mD:i<ord.length:=(ZL.mp eo).1;have ec:ord[i]=c:=(ZL.mp eo).2;obtain⟨x0,x1,rfl⟩:=Dc Dp;have nD:D≠t':=λz=>by rw[<-z,eD]at ht;cases ht
    refine⟨t',_,rfl,aZ.of ak,rfl,_,_,rfl,_,_,rfl,rfl,?_⟩;refine⟨_,rfl,_,rfl,?_⟩;subst pv
    have fresh:c∉ord.take i:=λm=>by
     obtain⟨j,hj,ej⟩:=ZD m;rw[Zx]at hj;rw[List.getElem_take, <-ec]at ej;have:=(List.getElem_inj nd).mp ej;omega
    have lt':(ord.take i).length=i:=by rw[Zx];omega
    have pe:putK (gW (ord.take i)) (.inl (c:Int)) (V.int (i:Int))=gW (ord.take (i+1)):=by
     have:=Sw fresh;rw[lt']at this;rw[this,Zj mD,ec]
    refine hF _ _ _ (gW (ord.take (i+1))) _ (iu.k (kvs:=gW (ord.take i)) (k:=.inl (c:Int)) (by rw[ai nD];exact eD) (bw (by rw[U1,lt'];omega))) (λb o eb=>?_) (by rw[ak,pe]) rfl;have b1:=s2 _ _ eb;rw[ai (λz=>by rw[z,hD]at eb;cases eb),ai (λz=>by rw[z,ht]at b1;cases b1)];exact b1
  rw[xl,List.take_length]at pv;subst pv;have bD:aa H H2:=s1.trans s2;have Qk:=tb.same s2;have km:=bD _ _ hg;refine⟨_,rfl,g,C,dx,_,_,rfl,km,TC.cl,TC.nk,vZ ..,_,rfl,la,rfl,⟨_,ah.of (bD.ints io)⟩,?_⟩;refine Ih (K:=K) (xs:=(ord.map λ(c:Nat)=>(c:Int)).map V.int) (λi r=>r=(cf T' ord).getD i []) (ah.of (bD.ints io)) (by rw[xl];omega) (λi x hi H4 s4 Q' q'=>?_) λlt2 bs R H4 N4 lR hR=>?_
  ·obtain⟨z,rfl,ez⟩:=gu hi;rw[Zf]at ez;cases eo:ord[i]? with
   |none=>rw[eo]at ez;cases ez
   |some c=>
    rw[eo]at ez;obtain rfl:(c:Int)=z:=Zg ez;have mD:i<ord.length:=(ZL.mp eo).1;have ec:ord[i]=c:=(ZL.mp eo).2;have dX:c<n:=lt c (Y6 eo);obtain⟨ra,era,xH,eT,dA⟩:=(Qk.same s4).at (i:=c) (by rw[hc.ok.len];exact dX);have eD4:=s4 _ _ eD;have rl:(T'.getD c []).length=k:=hc.ok.row _ (Y6 eT);have k5:=hc.k5
    let fv:V->V:=λv=>match v with|.int e=>oV (rn ord (some e))|_=>.aH
    have fo:∀o,fv (oV o)=oV (rn ord o):=λo=>by cases o<;>rfl
    refine⟨_,rfl,_,rfl,kG c (Qk.same s4) era ⟨ra,rfl,⟨_,ah.of dA⟩,zj (K:=K) fv (ah.of dA) (bw (by rw[Y1];omega)) (λz hz H5 Q5 s5 q5=>?_) λl H5 hl h5 s5=>q' l ((T'.getD c []).map (rn ord)) H5 hl ?_ ?_ s5⟩⟩
    ·obtain⟨o,mo,rfl⟩:=Zh.mp hz;rw[fo]at q5;have Eh:=s5 _ _ eD4;refine⟨_,rfl,D,rfl,.inl ⟨_,.inl Eh⟩,_,rfl,?_⟩;cases o with
     |none=>exact⟨_,dG.k (k:=.inr none) Eh,by rw[U2];exact q5⟩
     |some e=>
      obtain⟨j,hj,ej⟩:=ZD mo;have r:=hc.ok.bx c j e (by unfold cell;rw[List.getD,Zd hj,ej];rfl);obtain⟨m,rfl⟩:∃m:Nat,e=(m:Int):=⟨e.toNat,by omega⟩;refine⟨_,dG.k (k:=.inl (m:Int)) Eh,?_⟩;rw[IL]
      have:oV (rn ord (some (m:Int)))=((if m∈ord then some (V.int ((ord.idxOf m:Nat):Int))else none).getD .aH):=by
       show oV (if((m:Int).toNat)∈ord then some ((ord.idxOf (m:Int).toNat:Nat):Int)else none)=_;rw[Za];split<;>rfl
      rw[<-this];exact q5
    ·show H5 l=_;rw[h5,ZK,ZK];exact congrArg (λl=>some (HO.lst l)) (Z0 λo _=>fo o)
    ·simp[cf,List.getD,mD,ec]
  ·have eR:R=cf T' ord:=by
    apply List.ext_getElem?;intro i;rw[xl]at lR;by_cases hi:i<ord.length
    ·have e1:R[i]?=some R[i]:=by simp[lR,hi]
     have:=hR i R[i] e1;rw[e1,this];simp[cf,List.getD,hi]
    ·rw[ZI (by omega),ZI (by simp[cf];omega)]
   subst eR;have pN:=Lu hc.ok nd lt
   have n1:1<=ord.length:=by
    cases ord with
    |nil=>exact absurd rfl ne
    |cons _ _=>simp
   refine λx dx nx uE nex=>?_;have sx:aa H4 (upd (upd H4 dx (.own x)) x (.ins C dx [])):=((aa.refl H4).upd uE).upd nx;refine⟨x,dx,k,ord.length,lt2,bs,cf T' ord,rfl,ak,N4.tb.same sx,pN,hc.k1,hc.k5,n1,by omega,λH5 fq uF ff kp=>⟨rfl,?_⟩⟩;have mK:aa H H4:=bD.trans N4.sm;have s5:aa H4 H5:=λb o e=>kp b o (sx b o e) λz=>by rw[z,nx]at e;cases e
   refine q x fq H5 (mK.free nx) (λa ha=>?_) uF (mK.trans s5);by_cases z:a=x
   ·rw[z];exact mK.free nx
   ·exact mK.free (sx.free (ff a ha z))
def Sx:aM ["chart","base"] ["chart","base"] (aF zo):=aN
def aaO{f C cN:Addr}{fd:FuncData}(F:aI K "numbered" "numbered" zo f fd)(T:Txt K mg)(CC:b3 P w K mg base C "check_chamber" ["self","chamber"] 2 (MC C cN))(WF:aW P w K mg base "ways_from" ["chart","base"] 4 (Bl C))(RE:aW P w K mg base "renumbered" ["chart","order"] 4 (Nz C)):
  az P w K mg base (bV P w) 5 f fd ["chart","base"] (MV C cN):=by
 refine F.gm Sx (λvs H Q E h=>?_) (λau A outer s H vs Q E hr h=>?_)
 ·obtain⟨g,k,n,T',fp,b,rfl,_⟩:=h
  rfl
 ·obtain⟨g,k,n,T',fp,b,rfl,hc,q,qe⟩:=h;obtain⟨dx,lo,li,as,bs,I,Qa,hg,_⟩:=id hc.ob
  refine⟨_,(@sC _ _ _ _ _ (bA (CC.pe hr (pv 0) (@aC _ _ _ _ _ (pv 1) ae (by rfl))))
   (@sO _ _ _ (@sR _ _ _ _ (RE.pe hr (@aC _ _ _ _ _ (pv 0) (@aC _ _ _ _ _ (oB (Tn rfl) rfl T.list jL (aq (WF.pe hr (aq (pv 0) (aq (pv 1) ae))) ae)) ae (by rfl)) (by rfl)))))),?_⟩
  refine⟨_,rfl,g,dx,_,rfl,hg,jo ..,_,rfl,g,k,n,T',_,b,rfl,hc,λhb=>?_,qe⟩;have q:=q hb;obtain⟨b,rfl⟩:∃m:Nat,b=(m:Int):=⟨b.toNat,by omega⟩;rw[Za]at q;have Ql:b<n:=by omega
  refine⟨_,rfl,_,rfl,_,rfl,g,k,n,T',fp,b,rfl,hc,Ql,λd W H1 hd fw wi eW s1=>?_⟩;obtain⟨o,eo⟩:=fw.is;have ek:keys W=met T' k n b:=by rw[<-qr,eW,qp]
  refine⟨⟨d,o,dU W,rfl,eo,λl hl=>?_⟩⟩;have s2:aa H1 (upd H1 l (.lst ((dU W).map λp=>kV p.1))):=(aa.refl H1).upd hl
  have el:((dU W).map λp=>kV p.1)=((met T' k n b).map λ(c:Nat)=>(c:Int)).map V.int:=by
   rw[<-ek];simp[dU,keys,kV,ZK,Function.comp_def]
  have i2:aw (upd H1 l (.lst ((dU W).map λp=>kV p.1))) l ((met T' k n b).map λ(c:Nat)=>(c:Int)):=by
   show upd _ _ _ _=_;rw[ak,el]
  have mi:=m8 hc.ok (k:=k) Ql;refine⟨g,l,k,n,T',fp,met T' k n b,rfl,(hc.same s1).same s2,i2,mi.1.nd,mi.1.lt,List.ne_nil_of_mem mi.2.1,λx fq H3 fx ffq D8 s3=>?_⟩;have dN:=s1.trans s2;exact q x fq H3 (dN.free fx) (λa ha=>dN.free (ffq a ha)) D8 (dN.trans s3)
def aaP{f C cN:Addr}{fd:FuncData}(F:aI K "check_chamber" "Chart.check_chamber" uK f fd)(Sy:mg "NoChamber"=some (.ref cN))(Sz:eM K cN=true)(SZ:cy P w K mg base C "size" ["self"] 1 (vK C)):az P w K mg base (bV P w) 2 f fd ["self","chamber"] (MC C cN):=by
 refine F.gm FF (λvs H Q E h=>?_) (λau A outer s H vs Q E hr h=>?_)
 ·obtain⟨g,k,n,T',fp,c,rfl,_⟩:=h
  rfl
 ·obtain⟨g,k,n,T',fp,c,rfl,hc,q,qe⟩:=h;obtain⟨dx,lo,li,as,bs,I,rfl,hg,_⟩:=id hc.ob;refine⟨_,(@sO _ _ _ (aR (PW.pt (fW (aJ ij (pv 1) af (aG _)) (gv (aJ qB (pv 1) (SZ.eY hr (pv 0)) (aG _))))) (@sO _ _ _ (ky rfl rfl Sy Sz (aq fT ae))) aU)),?_⟩;refine⟨_,rfl,_,_,rfl,rfl,_,rfl,bF (λz=>?_) λz=>⟨_,rfl,_,rfl,g,dx,_,rfl,hg,jo ..,g,k,n,T',_,rfl,hc,_,_,rfl,rfl,_,rfl,bF (λy=>?_) λy=>?_⟩⟩
  ·have z:=of_decide_eq_true z;exact⟨by decide,qe (by omega)⟩
  ·have y:=of_decide_eq_true y;exact⟨by decide,qe (by omega)⟩
  ·have z:¬c<0:=λw=>z (ZN w);have y:¬c>=n:=λw=>y (ZN w);exact q (by omega)
def yz:aM ["labels","numbers","label"] ["labels"] (aF yI):=aN
def aaQ{f:Addr}{fd:FuncData}(F:aI K "chambers_of" "chambers_of" yI f fd)(T:Txt K mg):az P w K mg base aL 1 f fd ["labels"] vM:=by
 refine F.ok yz (λvs H Q E h=>?_) (λau A outer s H vs Q E hr h=>?_)
 ·obtain⟨a,l,rfl,_⟩:=h
  rfl
 ·obtain⟨a,l,rfl,ha,ll,q⟩:=h;have dq:=oX hr
  refine⟨_,(@sC _ _ _ _ _ (bJ (i:=1) yz.nd rfl (Or.inr rfl) WG)
   (@sC _ _ _ _ _ (bN Zm rfl (bH (pv 0)) (aO (i:=2) yz.nd rfl (Or.inl rfl)) (@sO _ _ _ (aR (AW (HK dq (pv 2) (pv 1)) rfl) (@sO _ _ _ (Ao dq (pv 1) (pv 2) (bq UE (by rfl) T.len PySem.boot_len (aq (pv 1) ae)) rfl)) aU)))
   (@sO _ _ _ (@sR _ _ _ _ (gL ["numbers"] [1] (bH (pv 0)) (λC s H fp=>kC dq (pv 1) (pv 0) (λ_ _=>rfl)) (jx rfl)))))),?_⟩
  refine λd hd=>?_;have s1:aa H (upd H d (.dK [])):=(aa.refl H).upd hd;have i1:upd H d (.dK []) d=some (.dK []):=ak;generalize upd H d (.dK [])=H1 at s1 i1;refine⟨_,rfl,a,rfl,⟨_,ah.of (s1.ints ha)⟩,cS (K:=K) (a:=a) (xs:=l.map V.int) (λi σ H2=>∃(x:Option V) (kvs:List (Key×V)),σ=[some (.ref a),some (.ref d),x]/\H2 d=some (.dK kvs)/\DK kvs (b7 (l.take i))/\aa H H2) ⟨none,[],rfl,i1,DK.nil,s1⟩ (λi σ H2 _ ⟨_,_,_,_,_,s2⟩=>ah.of (s2.ints ha)) ?_ ?_⟩
  ·rintro i v σ H2 hi ⟨x,kvs,rfl,h2,dk,s2⟩;obtain⟨z,rfl,ez⟩:=gu hi;obtain⟨bT,ei⟩:=ZL.mp ez;have et:l.take (i+1)=l.take i++[z]:=by rw[Zj bT,ei]
   refine⟨_,rfl,_,rfl,d,_,rfl,dG.k (k:=.inl z) h2,_,rfl,?_⟩;rw[dk.at_];have kl:=AH (l.take i);have:(l.take i).length<=l.length:=by rw[Zx];omega
   by_cases m:z∈b7 (l.take i)
   ·rw[if_pos m];refine bE ⟨_,kvs,rfl,h2,?_,s2⟩;rw[et,ve,if_pos m];exact dk
   ·rw[if_neg m];refine c4 ⟨_,rfl,d,kvs,rfl,h2,_,rfl,_,rfl,d,_,rfl,iu.k (k:=.inl z) h2 (bw (by rw[dk.len];omega)),?_⟩;refine⟨_,_,rfl,ak,?_,s2.upd hd⟩;rw[et,ve,if_neg m];exact dk.put m
  ·rintro σ H2 ⟨x,kvs,rfl,h2,dk,s2⟩;rw[Y1,List.take_length]at dk;refine⟨_,rfl,a,rfl,⟨_,ah.of (s2.ints ha)⟩,G4 (λx=>((b7 l).idxOf x:Nat)) (s2.ints ha) (by omega) (λz hz H' Q' s' q'=>?_) λD H3 hD i3 s3=>q D H3 (s2.free hD) i3 (s2.trans s3)⟩;refine⟨_,rfl,_,rfl,d,_,rfl,?_,q'⟩;have g:=dG.k (k:=.inl z) (s' _ _ h2);rw[dk.at_,if_pos (show z∈b7 l from qx l [] z hz)]at g;exact g
def QS:aM ["self"] ["self"] (aF yk):=aN
def Vg{f C:Addr}{fd:FuncData}(F:aI K "labels" "Survey.labels" yk f fd)(aB:eP K mg C)(FO:aW P w K mg base "folded" ["marks","rows","start"] 6 sE)(RW:aW P w K mg base "rows_of" ["entries"] 1 oG):az P w K mg base aL 7 f fd ["self"] (JJ C):=by
 refine F.ok QS (λvs H Q E h=>?_) (λau A outer s H vs Q E hr h=>?_)
 ·obtain⟨g,lh,B,rest,rfl,_⟩:=h
  rfl
 ·obtain⟨g,lh,B,rest,rfl,hB,q⟩:=h;obtain⟨dx,ls,hg,he⟩:=id hB.ob;have c8:=hB.c8;have cJ:=hB.cJ;refine⟨_,(@sO _ _ _ (@sR _ _ _ _ (ax bI (FO.pe hr (@aC _ _ _ _ _ (aS (pv 0) rfl) (@aC _ _ _ _ _ (RW.pe hr (@aC _ _ _ _ _ (aS (pv 0) rfl) ae (by rfl))) (@aC _ _ _ _ _ (eI ae) ae (by rfl)) (by rfl)) (by rfl))) af (λ_ _=>rfl)))),?_⟩;refine⟨_,rfl,g,C,dx,_,_,rfl,hg,aB.cl,aB.nn,jX ..,_,rfl,g,C,dx,_,_,rfl,hg,aB.cl,aB.ns,jy ..,ls,rest,B.es,rfl,he,by omega,λr1 oj H2 Pq t1 e1 s2=>?_⟩;refine jq (by show 0<=1000;decide) λl6 H6 hl6 i6 s6=>?_;have l1:=mV e1;have:=oA B.es;refine⟨B.n,r1,l6,oj,[],rfl,t1.same s6,⟨i6,(λ_ z=>nomatch z)⟩,qo e1 (kq hB.k5 hB.ok),(λ_ z=>nomatch z),by omega,by omega,by simp,λt7 la lp sp l H7 h7 i7 tl7 fL hp mF _ _ s7=>?_⟩;rw[e1]at fL;have el:l=B.aD:=fL.eq;have ll:l.length=B.n:=fL.1.aD.len;rw[el]at i7 ll fL;exact cT h7 rfl (q la H7 i7 ll fL (s2.trans (s6.trans s7)))
def QJ:aM ["self"] ["self"] (aF yc):=aN
def SA{f C:Addr}{fd:FuncData}(F:aI K "chambers" "Survey.chambers" yc f fd)(LAB:cy P w K mg base C "labels" ["self"] 7 (JJ C))(CHO:aW P w K mg base "chambers_of" ["labels"] 1 vM):az P w K mg base aL 8 f fd ["self"] (G6 C):=by
 refine F.ok QJ (λvs H Q E h=>?_) (λau A outer s H vs Q E hr h=>?_)
 ·obtain⟨g,lh,B,rest,rfl,_⟩:=h
  rfl
 ·obtain⟨g,lh,B,rest,rfl,hB,q⟩:=h;obtain⟨dx,ls,hg,he⟩:=id hB.ob;have c8:=hB.c8;refine⟨_,(@sO _ _ _ (@sR _ _ _ _ (CHO.pe hr (@aC _ _ _ _ _ (LAB.eY hr (pv 0)) ae (by rfl))))),?_⟩;refine⟨_,rfl,g,dx,_,rfl,hg,rfl,g,lh,B,rest,rfl,hB,λp H1 ip ll fL s1=>?_⟩;exact⟨p,B.aD,rfl,ip,by omega,λp2 H2 jB uD s2=>q p2 H2 (s1.free jB) uD ll fL (s1.trans s2)⟩
def oz:aM ["kinds","chambers","rows","size","table","number","a","kind","b"] ["kinds","chambers","rows"] (aF zp):=aN
def Tw{f C:Addr}{fd:FuncData}(F:aI K "chart_of" "chart_of" zp f fd)(T:Txt K mg)(TM:qH mg)(CH:mf P w K mg base C "Chart" ["self","kinds","table"] 2 (Be C)):az P w K mg base aL 4 f fd ["kinds","chambers","rows"] (IM C):=by
 refine F.ok oz (λvs H Q E h=>?_) (λau A outer s H vs Q E hr h=>?_)
 ·obtain⟨k,m,lc,lr,ch,ps,rfl,_⟩:=h
  rfl
 ·obtain⟨k,m,lc,lr,ch,ps,rfl,hc,tl,k1,k5,ok,n7,m10,q⟩:=h
  refine⟨_,(@sC _ _ _ _ _ (@sS _ 3 _ _ _ _ _ oz.nd rfl (Or.inl rfl) (av cV (bq (ID rfl) (by rfl) TM.max sP (aq (av gM (eI (aq af ae)) (pv 1)) ae)) af) (by rfl) (.inl rfl))
   (@sC _ _ _ _ _ (Js 4 ["kinds"] [0] oz.nd (ji rfl T.range (aq (pv 3) ae)) (λC s H fp=>av sL.wr (eI (aq cU ae)) (pv 1)) (jx rfl))
   (@sC _ _ _ _ _ (bN Zm rfl (bH (pv 2)) (eJ rfl (bt (aO (i:=5) oz.nd rfl (Or.inl rfl)) (bt (aO (i:=6) oz.nd rfl (Or.inl rfl)) (bt (aO (i:=7) oz.nd rfl (Or.inl rfl)) (bt (aO (i:=8) oz.nd rfl (Or.inl rfl)) eG))))) (@sO _ _ _ (gy (ax aK (pv 1) (pv 8) (λ_ _=>rfl)) (AX (ax aK (pv 4) (ax aK (pv 1) (pv 6) (λ_ _=>rfl)) (λ_ _=>rfl)) (av hX (pv 7) af) set_list))))
   (@sO _ _ _ (@sR _ _ _ _ (CH.pe hr (@aC _ _ _ _ _ (pv 0) (@aC _ _ _ _ _ (pv 4) ae (by rfl)) (by rfl)))))))),?_⟩
  refine hZ [0] λl0 H1 om i0 s1=>⟨_,rfl,jm i0 (s1.ints hc) (by have:=ok.len;simp;omega) λl1 H2 hl1 i1 s2=>ML i1 (by simp) λM hM xI=>⟨_,_,rfl,rfl,?_⟩⟩
  have em:M=mx ch:=by
   refine BL (xI 0 (by simp)) ?_ λi hi=>xI i (Zb _ hi);rcases Y7.mp hM with z|z
   ·exact .inl (Y2.mp z)
   ·exact .inr z
  show gP 3 (V.int (M+1)) _ _ _;rw[em, <-Bm];have bD:=s1.trans s2;refine⟨_,rfl,_,rfl,by omega,by omega,vc (n:=((nC ch:Nat):Int).toNat) (λ_=>List.replicate k none) (by omega) (λi hi H3 s3 Q' q'=>?_) λt as H3 N3=>?_⟩
  ·exact jq (by show 1<=1000;decide) λl2 H4 qN i2 s4=>⟨_,rfl,MA (z:=none) i2 (by omega) (λp H5 hp ip s5=>q' p H5 (s4.free hp) ip (s4.trans s5))⟩
  rw[Za]at N3
  have e0:((List.range (nC ch)).map λ_=>List.replicate k (none:Option Int))=List.replicate (nC ch) (List.replicate k none):=by
   rw[List.map_const'];simp
  rw[e0]at N3
  refine⟨_,rfl,lr,rfl,⟨_,ah.of ((tl.same bD).same N3.sm).is⟩,cS (K:=K) (a:=lr) (xs:=ps.map λp=>V.ref p.1) (λi σ H4=>∃(x5 x6 x7 x8:Option V),σ=[some (.int k),some (.ref lc),some (.ref lr),some (.int (nC ch)),some (.ref t),x5,x6,x7,x8]/\dH H2 H4 t as (dj k (nC ch) ch ((ps.map (·.2)).take i)))
   ⟨none,none,none,none,rfl,N3⟩ (λi σ H4 _ ⟨_,_,_,_,_,N⟩=>ah.of ((tl.same bD).same N.sm).is) ?_ ?_⟩
  ·rintro i y σ H4 hi ⟨x5,x6,x7,x8,rfl,N⟩;obtain⟨p,rfl,ep⟩:=kD hi;have hp:=Y6 ep;have ht:=((tl.same bD).same N.sm).tp p hp;have rs:(ps.map (·.2))[i]?=some p.2:=by rw[Zf,ep];rfl
   have mr:=Y6 rs;obtain⟨ro,g1,g2⟩:=ok.row p.2 mr;obtain⟨a0,a1⟩:=ok.at mr 1;have ia:=(ro.mk 1).2;have ib:=(ro.mk (-1)).2
   have ex:∃(i1:Int) (a:Nat) (kd:Int) (b:Nat),p.2=[i1,(a:Int),kd,(b:Int)]/\My.mk p.2 1=a/\My.mk p.2 (-1)=b:=by
    obtain⟨i1,a,kd,b,er,ha,hb⟩:=ro;exact⟨i1,a,kd,b,er,by rw[er];rfl,by rw[er];rfl⟩
   obtain⟨i1,a,kd,b,er,ea,eb⟩:=ex;rw[er]at ht;have gk:p.2.getD 2 0=kd:=by rw[er];rfl
   rw[ea]at ia a0 a1;rw[eb]at ib;have uB:=(bD.trans N.sm).ints hc;have ol:=ok.len;refine⟨p.1,_,rfl,aZ.of ht,rfl,_,_,rfl,_,_,rfl,_,_,rfl,_,_,rfl,rfl,?_⟩
   have D4:(ch.getD a 0).toNat<(dj k (nC ch) ch ((ps.map (·.2)).take i)).length:=by
    rw[(vi ok i (by rw[Y1];have:=(ZL.mp ep).1;omega)).len];omega
   obtain⟨ra,era,xH,eT,dA⟩:=N.tb.at D4;have rl:((dj k (nC ch) ch ((ps.map (·.2)).take i)).getD (ch.getD a 0).toNat []).length=k:=(vi ok i (by rw[Y1];have:=(ZL.mp ep).1;omega)).row _ (Y6 eT);refine⟨_,rfl,_,rfl,aT b uB (by omega) ⟨_,rfl,_,rfl,_,rfl,aT a uB (by omega) (kG (ch.getD a 0).toNat N.tb era ?_ (by omega))⟩⟩;have D5:(kd-1).toNat<k:=by omega
   refine⟨_,rfl,_,_,rfl,rfl,ra,_,kd-1,(kd-1).toNat,rfl,rfl,dA,MM (by rw[Y1,rl];exact D5) (by omega),⟨_,_,_,_,rfl,?_⟩⟩
   have e1:dj k (nC ch) ch ((ps.map (·.2)).take (i+1))=lV ch (dj k (nC ch) ch ((ps.map (·.2)).take i)) p.2:=by
    obtain⟨bT,ei⟩:=ZL.mp rs;rw[Zj bT,ei];unfold dj;rw[zl]
   rw[e1];unfold lV;rw[ea,eb,gk];have:=N.set era (((dj k (nC ch) ch ((ps.map (·.2)).take i)).getD (ch.getD a 0).toNat []).set (kd-1).toNat (some (ch.getD b 0)));rw[List.map_set]at this;exact this
  ·rintro σ H4 ⟨x5,x6,x7,x8,rfl,N⟩;rw[Y1, <-Y1 (f:=(·.2)),List.take_length]at N;have pN:=sV ok;refine⟨_,rfl,_,rfl,λx dx nx uE nex=>?_⟩;have sx:aa H4 (upd (upd H4 dx (.own x)) x (.ins C dx [])):=((aa.refl H4).upd uE).upd nx;refine⟨x,dx,k,nC ch,t,as,_,rfl,ak,N.tb.same sx,pN,k1,k5,by unfold nC;omega,n7,λH5 fq uF ff kp=>⟨rfl,?_⟩⟩;have mK:aa H H4:=bD.trans N.sm;have s5:aa H4 H5:=λb o e=>kp b o (sx b o e) λz=>by rw[z,nx]at e;cases e
   refine q x fq H5 (mK.free nx) (λa ha=>?_) uF (mK.trans s5);by_cases z:a=x
   ·rw[z];exact mK.free nx
   ·exact mK.free (sx.free (ff a ha z))
def FV:aM ["self","a","chambers"] ["self","a"] (aF yr):=aN
def Vh{f C Cc cM cN:Addr}{fd:FuncData}(F:aI K "piece" "Survey.piece" yr f fd)(aB:eP K mg C)(CM:b3 P w K mg base C "check_marks" ["self","a","b"] 1 (sT C cM))(CHA:cy P w K mg base C "chambers" ["self"] 8 (G6 C))(RW:aW P w K mg base "rows_of" ["entries"] 1 oG)
  (COF:aW P w K mg base "chart_of" ["kinds","chambers","rows"] 4 (IM Cc))(NB:qZ P w K mg base "numbered" ["chart","base"] 5 (MV Cc cN)):az P w K mg base (bV P w) 9 f fd ["self","a"] (J3 C Cc cM):=by
 refine F.gm FV (λvs H Q E h=>?_) (λau A outer s H vs Q E hr h=>?_)
 ·obtain⟨g,lh,B,rest,a,rfl,_⟩:=h
  rfl
 ·obtain⟨g,lh,B,rest,a,rfl,hB,q,qm⟩:=h;obtain⟨dx,ls,hg,he⟩:=id hB.ob;have c8:=hB.c8;have cJ:=hB.cJ
  refine⟨_,(@sC _ _ _ _ _ (bA (CM.pe hr (pv 0) (@aC _ _ _ _ _ (pv 1) (@aC _ _ _ _ _ (pv 1) ae (by rfl)) (by rfl))))
   (@sC _ _ _ _ _ (@sS _ 2 _ _ _ _ _ FV.nd rfl (Or.inl rfl) (CHA.eY hr (pv 0)) (by rfl) (.inl rfl))
   (@sO _ _ _ (@sR _ _ _ _ (NB.pe hr (@aC _ _ _ _ _ (COF.pe hr (@aC _ _ _ _ _ (aS (pv 0) rfl) (@aC _ _ _ _ _ (pv 2) (@aC _ _ _ _ _ (RW.pe hr (@aC _ _ _ _ _ (aS (pv 0) rfl) ae (by rfl))) ae (by rfl)) (by rfl)) (by rfl))) (@aC _ _ _ _ _ (ax aK (pv 2) (pv 1) (λ_ _=>rfl)) ae (by rfl)) (by rfl))))))),?_⟩
  refine⟨_,rfl,g,dx,_,rfl,hg,rfl,_,rfl,_,rfl,g,lh,B,rest,a,a,rfl,hB,λha H1 s1=>?_,λna=>qm λz=>na ⟨z,z⟩⟩;have ha:=ha.1;refine⟨_,rfl,g,dx,_,rfl,s1 _ _ hg,rfl,g,lh,B,rest,rfl,hB.same s1,λp H2 hp ip ll fL s2=>?_⟩;have bD:=s1.trans s2;have ck:=Bk.Cr hB;refine⟨_,rfl,g,C,dx,_,_,rfl,bD _ _ hg,aB.cl,aB.nk,Cp ..,_,rfl,_,rfl,g,C,dx,_,_,rfl,bD _ _ hg,aB.cl,aB.ns,jy ..,ls,rest,B.es,rfl,he.same bD,by omega,λr ps H3 hr3 tl er s3=>?_⟩;have dc:=bD.trans s3;have n7:=wg B.aD;refine⟨B.k,B.n,p,r,rk B.aD,ps,rfl,s3.ints ip,tl,hB.k1,hB.k5,by rw[er];exact ck,by omega,by omega,λx fx H4 hx hfx hc s4=>?_⟩;rw[er]at hc;have hc:df Cc H4 x B.k B.cp B.tab fx:=hc;have fS:=dc.trans s4;obtain⟨a0,a1⟩:=ha;have hb:=ck.bx ((rk B.aD).getD a.toNat 0) (getD_mem (by rw[iQ,ll];omega));refine⟨_,rfl,_,rfl,aT a.toNat ((s3.trans s4).ints ip) (by rw[iQ,ll];omega) ?_ (by omega)⟩;refine⟨x,B.k,B.cp,B.tab,fx,_,rfl,hc,λ_ y fq H5 hy hfq uF s5=>?_,λz=>absurd hb z⟩;exact q ⟨a0,a1⟩ y fq H5 (fS.free hy) (λb hb=>fS.free (hfq b hb)) uF (fS.trans s5)
def pX:aM ["self","a","way","b","rows","end","labels","paper","number"] ["self","a","way","b"] (aF xV):=aN
def Vi{f C cM cK:Addr}{fd:FuncData}(F:aI K "never_paper" "Survey.never_paper" xV f fd)(T:Txt K mg)(aB:eP K mg C)(Dw:b3 P w K mg base C "laid" ["self","a","way","b"] 2 (AE C cM cK))(FO:aW P w K mg base "folded" ["marks","rows","start"] 6 sE)(BO:aW P w K mg base "broken_oath" ["entries","labels"] 1 BH):
  az P w K mg base (bV P w) 7 f fd ["self","a","way","b"] (J4 C cM cK):=by
 refine F.gm pX (λvs H Q E h=>?_) (λau A outer s H vs Q E hr h=>?_)
 ·obtain⟨g,lh,B,rest,a,b,wa,ws,rfl,_⟩:=h
  rfl
 ·obtain⟨g,lh,B,rest,a,b,wa,ws,rfl,hB,hw,wl,q,q0,qm,qk⟩:=h;obtain⟨dx,ls,hg,he⟩:=id hB.ob;have c8:=hB.c8
  refine⟨_,(@sC _ _ _ _ _ (gy (Dw.pe hr (pv 0) (@aC _ _ _ _ _ (pv 1) (@aC _ _ _ _ _ (pv 2) (@aC _ _ _ _ _ (pv 3) ae (by rfl)) (by rfl)) (by rfl))) (eJ rfl (bt (aO (i:=4) pX.nd rfl (Or.inl rfl)) (bt (aO (i:=5) pX.nd rfl (Or.inl rfl)) eG))))
   (@sC _ _ _ _ _ (gy (FO.pe hr (@aC _ _ _ _ _ (av cV (aS (pv 0) rfl) (bq cO (by rfl) T.len PySem.boot_len (@aC _ _ _ _ _ (pv 2) ae (by rfl)))) (@aC _ _ _ _ _ (pv 4) (@aC _ _ _ _ _ (@eL _ _ _ _ (@aC _ _ _ _ _ (cW (@aC _ _ _ _ _ (pv 5) (@aC _ _ _ _ _ (pv 3) ae (by rfl)) (by rfl))) ae (by rfl))) ae (by rfl)) (by rfl)) (by rfl))) (eJ rfl (bt (aO (i:=6) pX.nd rfl (Or.inl rfl)) (bt (aO (i:=7) pX.nd rfl (Or.inl rfl)) eG))))
   (@sC _ _ _ _ _ (@sS _ 8 _ _ _ _ _ pX.nd rfl (Or.inl rfl) (BO.pe hr (@aC _ _ _ _ _ (aS (pv 0) rfl) (@aC _ _ _ _ _ (pv 6) ae (by rfl)) (by rfl))) (by rfl) (.inl rfl))
   (@sC _ _ _ _ _ (aR (aJ AZ (pv 8) cU (aG _)) (@sO _ _ _ (@sR _ _ _ _ cU)) aU)
   (@sO _ _ _ (@sR _ _ _ _ (cW (@aC _ _ _ _ _ (pv 8) (@aC _ _ _ _ _ (pv 7) ae (by rfl)) (by rfl))))))))),?_⟩
  refine⟨_,rfl,g,dx,_,rfl,hg,rfl,_,rfl,_,rfl,_,rfl,g,lh,B,rest,a,b,wa,ws,rfl,hB,hw,wl,λhm hl t r ps H1 ht tr er s1=>?_,qm,qk⟩;refine⟨t,_,rfl,aZ.of ht,rfl,_,_,rfl,_,_,rfl,rfl,?_⟩;refine⟨_,rfl,g,C,dx,_,_,rfl,s1 _ _ hg,aB.cl,aB.nn,jX ..,_,rfl,wa,_,rfl,.inl (ah.of (s1.ints hw)),_,_,rfl,rfl,_,rfl,_,rfl,_,rfl,by show 2<=sizeLine;decide,λtp Dz=>?_⟩;have s2:aa H1 (upd H1 tp (.tup [.int (bP B.n a ws.length),.int b])):=(aa.refl H1).upd Dz;have i2:upd H1 tp (.tup [.int (bP B.n a ws.length),.int b]) tp=some (.tup [.int (bP B.n a ws.length),.int b]):=ak;generalize upd H1 tp (.tup [.int (bP B.n a ws.length),.int b])=H2 at s2 i2;refine jq (by show 1<=1000;decide) λl0 H3 om i3 s3=>?_;have t3:=tr.same (s2.trans s3);have en:((B.n:Int)+((ws.map V.int).length:Int))=((B.n+ws.length:Nat):Int):=by rw[Y1];rfl
  have kX:∀r∈rowsOf B.es++eu B.n a ws,cC (B.n+ws.length) r/\1<=r.getD 2 0/\r.getD 2 0<=5:=λr eE=>by
   rcases Y7.mp eE with z|z
   ·exact kq hB.k5 (λe h=>(hB.ok e h).mono (Nat.le_add_right _ _)) r z
   ·exact zC hm.1 hB.k5 hl r z
  have fR:=mV er;have:=oA B.es;have:=hB.cJ;rw[Zo,rR]at fR;obtain⟨e0,e1⟩:=uZ hm.1 ws.length ws.length (Y3 _);obtain⟨b0,b1⟩:=hm.2;have fu:Tl H3 l0 [(tp,[bP B.n a ws.length,b])]:=⟨i3,λp hp=>by rw[Y2.mp hp];exact s3 _ _ i2⟩;refine⟨B.n+ws.length,r,l0,ps,[(tp,[bP B.n a ws.length,b])],by show [V.int ((B.n:Int)+((ws.map V.int).length:Int)),_,_]=_;rw[en],t3,fu,qo er kX,λp hp=>?_,by omega,by omega,by show 1<=1000;decide,λt4 l1 l2 sp l H4 h4 i4 xN fL hp mF _ f2 s4=>?_⟩
  ·rw[Y2.mp hp];exact⟨(bP B.n a ws.length).toNat,b.toNat,by rw[Zw e0,Zw b0],by omega,by omega⟩
  rw[er]at fL;have ll:l.length=B.n+ws.length:=fL.1.aD.len;have nv:=aam hB.ok hB.k5 hm.1 hm.2 (vD hl) fL;refine⟨t4,_,rfl,aZ.of h4,rfl,_,_,rfl,_,_,rfl,rfl,?_⟩;have fS:=s1.trans (s2.trans (s3.trans s4));refine⟨_,rfl,g,C,dx,_,_,rfl,fS _ _ hg,aB.cl,aB.ns,jy ..,_,rfl,ls,l1,rest,B.es,l,B.k,rfl,he.same fS,i4,(λe h=>by rw[ll];exact(hB.ok e h).mono (Nat.le_add_right _ _)),?_⟩;cases eb:cX B.es l with
  |none=>
   exact⟨_,rfl,rfl,_,rfl,c4 (q0 hm hl (λz=>nv.mpr z eb) H4 fS)⟩
  |some i=>
   refine⟨_,rfl,rfl,_,rfl,bE ⟨_,rfl,_,rfl,by show 2<=sizeLine;decide,λt5 ht5=>?_⟩⟩;exact q hm hl (nv.mp (by rw[eb];exact λz=>nomatch z)) t5 _ (fS.fM ht5)
def Q6:aM ["self","a","way","b"] ["self","a","way","b"] (aF yt):=aN
def Vj{f C cM cK:Addr}{fd:FuncData}(F:aI K "judge" "Survey.judge" yt f fd)(TJ:Od mg)(MP:b3 P w K mg base C "must_paper" ["self","a","way","b"] 7 (AF C cM cK))(NP:b3 P w K mg base C "never_paper" ["self","a","way","b"] 7 (J4 C cM cK)):
  az P w K mg base (bV P w) 8 f fd ["self","a","way","b"] (Ly C cM cK):=by
 obtain⟨_,adg⟩:=TJ.ad8;obtain⟨_,acg⟩:=TJ.never;obtain⟨_,adh⟩:=TJ.opn;refine F.gm Q6 (λvs H Q E h=>?_) (λau A outer s H vs Q E hr h=>?_)
 ·obtain⟨g,lh,B,rest,a,b,wa,ws,rfl,_⟩:=h
  rfl
 ·obtain⟨g,lh,B,rest,a,b,wa,ws,rfl,hB,hw,wl,q,qm,qk⟩:=h;obtain⟨dx,ls,hg,he⟩:=id hB.ob
  refine⟨_,(@sC _ _ _ _ _ (aR (aJ iM (MP.pe hr (pv 0) (@aC _ _ _ _ _ (pv 1) (@aC _ _ _ _ _ (pv 2) (@aC _ _ _ _ _ (pv 3) ae (by rfl)) (by rfl)) (by rfl))) cU (aG _)) (@sO _ _ _ (@sR _ _ _ _ (jk (v:=.str "must") rfl adg ⟨_,rfl⟩))) aU)
   (@sC _ _ _ _ _ (aR (aJ iM (NP.pe hr (pv 0) (@aC _ _ _ _ _ (pv 1) (@aC _ _ _ _ _ (pv 2) (@aC _ _ _ _ _ (pv 3) ae (by rfl)) (by rfl)) (by rfl))) cU (aG _)) (@sO _ _ _ (@sR _ _ _ _ (jk (v:=.str "never") rfl acg ⟨_,rfl⟩))) aU)
   (@sO _ _ _ (@sR _ _ _ _ (jk (v:=.str "open") rfl adh ⟨_,rfl⟩))))),?_⟩
  refine⟨_,rfl,g,dx,_,rfl,hg,rfl,_,rfl,_,rfl,_,rfl,g,lh,B,rest,a,b,wa,ws,rfl,hB,hw,wl,λhm hl z l2 sp ps H2 t2 er hp mF f2 s2=>?_,λhm hl z H2 s2=>?_,qm,qk⟩
  ·have z:=(IQ hB hm.1 hm.2 hl).mp z;refine⟨rfl,_,rfl,c4 ?_⟩;have e:wordOf B.es a ws b="must":=by unfold wordOf;rw[if_pos z]
   have:=q hm hl H2 s2;rw[e]at this;exact this
  ·have z:¬jT (rowsOf B.es) a ws b:=λy=>z ((IQ hB hm.1 hm.2 hl).mpr y);refine⟨rfl,_,rfl,bE ?_⟩;refine⟨_,rfl,g,dx,_,rfl,s2 _ _ hg,rfl,_,rfl,_,rfl,_,rfl,g,lh,B,rest,a,b,wa,ws,rfl,hB.same s2,s2.ints hw,wl,λhm hl y t H3 s3=>?_,λhm hl y H3 s3=>?_,λy=>absurd hm y,λ_ y=>absurd hl y⟩
   ·refine⟨rfl,_,rfl,c4 ?_⟩;have e:wordOf B.es a ws b="never":=by unfold wordOf;rw[if_neg z,if_pos y]
    have:=q hm hl H3 (s2.trans s3);rw[e]at this;exact this
   ·refine⟨rfl,_,rfl,bE ?_⟩;have e:wordOf B.es a ws b="open":=by unfold wordOf;rw[if_neg z,if_neg y]
    have:=q hm hl H3 (s2.trans s3);rw[e]at this;exact this
def gq:aM ["_law_kinds","_law_marks","_law_rows_here","_law_draws","_law_a","_law_b","_law_way_here","_law_places","_law_table","_law_end","_law_often","_law_at","_law_one"] ["_law_kinds","_law_marks","_law_rows_here","_law_draws"] (aF jK):=aN
def Tx{f:Addr}{fd:FuncData}(F:aI K "_law_asked" "_law_asked" jK f fd)(T:Txt K mg)(WA:aW P w K mg base "_law_way" ["_law_draws","_law_kinds"] 1 (Ni K))(TU:aW P w K mg base "_law_turn" ["_law_way_here"] 1 (sN K))(Ei:aW P w K mg base "_law_chart" ["_law_kinds","_law_marks","_law_rows_here"] 3 Af)(RO:aW P w K mg base "_law_round" ["_law_table","_law_kinds","_law_here","_law_draws"] 2 Ls):
  az P w K mg base aL 4 f fd ["_law_kinds","_law_marks","_law_rows_here","_law_draws"] IS:=by
 refine F.ok gq (λvs H Q E h=>?_) (λau A outer s H vs Q E hr h=>?_)
 ·obtain⟨k,n,lr,ld,ps,ds,rfl,_⟩:=h
  rfl
 ·obtain⟨k,n,lr,ld,ps,ds,rfl,tl,gn,hd,dl,k1,k5,n1,n6,pl,q⟩:=h;have np:(0:Int)<n:=by omega
  have dd:∀{c:Int}{a b:Int}{A B:Prop},(decide (V.int a=V.int b)=true->A)->(¬decide (V.int a=V.int b)=true->B)->(if decide (V.int a=V.int b)=true then A else B):=λh1 h2=>bF h1 h2
  have r7:∃u:TS,dg (fZ aL P w K mg base ["_law_kinds","_law_marks","_law_rows_here","_law_draws","_law_a","_law_b","_law_way_here","_law_places","_law_table","_law_end","_law_often","_law_at","_law_one"] "_law_asked" (aF jK) f au A outer s H E).gG ((fE jK).drop 7) u/\
    ∀(a b:Int) (wa:Addr) (ws:List Int) (x7 x8 x9 pT:Option V) (G:Hp),aE n a->aE n b->aw G wa ws->(∀l∈ws,Let k l)->ws.length<=150->H wa=none->aa H G->
     u {nx:=λ_ H'=>Q .aH H',rt:=Q} [some (.int k),some (.int n),some (.ref lr),some (.ref ld),some (.int a),some (.int b),some (.ref wa),x7,x8,x9,pT,none,none] G:=by
   refine⟨_,(@sC _ _ _ _ _ (aR (aJ bZ (av bO (av iL (ax aK (pv 3) af (λ_ _=>rfl)) af) af) af (aG _)) (@sC _ _ _ _ _ (@sS _ 11 _ _ _ _ _ gq.nd rfl (Or.inl rfl) (av bO (ax aK (pv 3) af (λ_ _=>rfl)) (av cV (bq cO (by rfl) T.len PySem.boot_len (@aC _ _ _ _ _ (pv 6) ae (by rfl))) af)) (by rfl) (.inl rfl))
   (@sC _ _ _ _ _ (@sS _ 12 _ _ _ _ _ gq.nd rfl (Or.inl rfl) (ax aK (WA.pe hr (@aC _ _ _ _ _ (gK jw (pv 3) (dC af) (dC af)) (@aC _ _ _ _ _ (pv 0) ae (by rfl)) (by rfl))) af (λ_ _=>rfl)) (by rfl) (.inl rfl))
   (@sO _ _ _ (@sS _ 6 _ _ _ _ _ gq.nd rfl (Or.inl rfl) (av gM (av gM (gK jw (pv 6) mX (dC (pv 11))) (@eL _ _ _ _ (@aC _ _ _ _ _ (pv 12) (@aC _ _ _ _ _ (fI fG (pv 12)) ae (by rfl)) (by rfl)))) (gK jw (pv 6) (dC (pv 11)) mX)) (by rfl) (.inl rfl))))) aU)
   (@sO _ _ _ (@sR _ _ _ _ (cW (@aC _ _ _ _ _ (pv 4) (@aC _ _ _ _ _ (pv 6) (@aC _ _ _ _ _ (pv 5) ae (by rfl)) (by rfl)) (by rfl)))))),?_⟩
   intro a b wa ws x7 x8 x9 pT G ha hb iw hl wl fw s0;have mM:=s0.ints hd;refine⟨_,rfl,aT 4 mM (by omega) ⟨_,_,rfl,rfl,⟨by show(0:Int)<2;decide,by show(2:Int)<1073741824;decide⟩,_,_,rfl,rfl,(by show(0:Int)<4;decide),rfl,_,rfl,bF (λ_=>?_) λ_=>?_⟩⟩
   ·have p1:(0:Int)<((ws.map V.int).length:Int)+1:=by omega
    refine⟨_,rfl,aT 5 mM (by omega) ⟨_,rfl,wa,_,rfl,.inl (ah.of iw),_,_,rfl,rfl,_,_,rfl,rfl,p1,?_⟩⟩;show gP 11 (V.int (ds.getD 5 0%(((ws.map V.int).length:Int)+1))) _ _ _;generalize ds.getD 5 0%(((ws.map V.int).length:Int)+1)=at';refine⟨_,rfl,_,rfl,_,rfl,ku mM λl1 H1 f1 i1 s1=>?_⟩
    have cl:(cn ds (some 5) (some 6)).length=1:=by
     rw[show(6:Int)=((6:Nat):Int)from rfl,show(5:Int)=((5:Nat):Int)from rfl,qu _ _ _ (by decide),Zx,ZJ,dl];decide
    refine⟨_,rfl,l1,_,(k:Int),rfl,ah.of i1,by omega,by omega,by omega,λl2 H2 f2 i2 s2=>?_⟩;have w2:=AL k1 (cn ds (some 5) (some 6));generalize hgs:(cn ds (some 5) (some 6)).map (qh k)=gs at i2 w2;have gl:gs.length=1:=by rw[<-hgs,Y1,cl]
    refine aT 0 i2 (by omega) ?_;have lx:Let k (gs.getD 0 0):=w2 _ (by simp[List.getD,gl]);generalize gs.getD 0 0=x at lx;have Qm:=(s1.trans s2).ints iw;refine⟨_,rfl,_,rfl,_,rfl,ku Qm λl3 H3 f3 i3 s3=>?_⟩;refine⟨_,rfl,_,rfl,_,rfl,hZ [x, -x] λl4 H4 f4 i4 s4=>?_⟩;have c3:=zR ws none (some at');have c6:=zR ws (some at') none;refine jm (s4.ints i3) i4 (by simp;omega) λl5 H5 f5 i5 s5=>?_;refine⟨_,rfl,_,rfl,_,rfl,ku ((s3.trans (s4.trans s5)).ints Qm) λl6 H6 f6 i6 s6=>?_⟩;refine jm (s6.ints i5) i6 (by simp;omega) λl7 H7 f7 i7 s7=>?_;have DB:=s1.trans (s2.trans (s3.trans (s4.trans (s5.trans (s6.trans s7)))));refine⟨_,rfl,_,rfl,_,rfl,by show 3<=sizeLine;decide,λt ht=>?_⟩;have st:=(aa.refl H7).upd (o:=.tup [.int a,.ref l7,.int b]) ht;refine q t l7 a b _ _ ak (st.ints i7) ha hb (λl c9=>?_) (by simp;omega) ((s0.trans (s1.trans (s2.trans (s3.trans (s4.trans (s5.trans s6)))))).free f7) ((s0.trans DB).trans st);rcases Y7.mp c9 with z|z
    ·rcases Y7.mp z with y|y
     ·exact hl l (zS y)
     ·rcases Y5.mp y with w|w
      ·rw[w];exact lx
      ·rw[Y2.mp w];exact aaw lx
    ·exact hl l (zS z)
   ·refine⟨_,rfl,_,rfl,_,rfl,by show 3<=sizeLine;decide,λt ht=>?_⟩;have st:=(aa.refl G).upd (o:=.tup [.int a,.ref wa,.int b]) ht;exact q t wa a b _ _ ak (st.ints iw) ha hb hl (by omega) fw (s0.trans st)
  obtain⟨u7,hu7,Qn⟩:=r7
  have r6:∃u:TS,dg (fZ aL P w K mg base ["_law_kinds","_law_marks","_law_rows_here","_law_draws","_law_a","_law_b","_law_way_here","_law_places","_law_table","_law_end","_law_often","_law_at","_law_one"] "_law_asked" (aF jK) f au A outer s H E).gG ((fE jK).drop 6) u/\
    ∀(a b:Int) (wa:Addr) (ws:List Int) (x7 x8 x9 pT:Option V) (G:Hp),aE n a->aE n b->aw G wa ws->(∀l∈ws,Let k l)->ws.length<=150->H wa=none->aa H G->
     u {nx:=λ_ H'=>Q .aH H',rt:=Q} [some (.int k),some (.int n),some (.ref lr),some (.ref ld),some (.int a),some (.int b),some (.ref wa),x7,x8,x9,pT,none,none] G:=by
   refine⟨_,(@sC _ _ _ _ _ (aR (aJ bZ (av bO (ax aK (pv 3) af (λ_ _=>rfl)) af) af (aG _)) (@sO _ _ _ (@sS _ 6 _ _ _ _ _ gq.nd rfl (Or.inl rfl) (av sL.wr (pv 6) (av iL af (av cV af (bq cO (by rfl) T.len PySem.boot_len (@aC _ _ _ _ _ (pv 6) ae (by rfl)))))) (by rfl) (.inl rfl))) aU)
   hu7),?_⟩
   intro a b wa ws x7 x8 x9 pT G ha hb iw hl wl fw s0;have mM:=s0.ints hd;refine⟨_,rfl,aT 3 mM (by omega) ⟨_,_,rfl,rfl,(by show(0:Int)<29;decide),rfl,_,rfl,bF (λ_=>?_) λ_=>Qn a b wa ws x7 x8 x9 pT G ha hb iw hl wl fw s0⟩⟩;have p1:(0:Int)<1+((ws.map V.int).length:Int):=by omega
   have e1:((ws.map V.int).length:Int)=ws.length:=by rw[Y1]
   have d0:0<=120/(1+((ws.map V.int).length:Int)):=Int.ediv_nonneg (by decide) (by omega);have d1:(120/(1+((ws.map V.int).length:Int)))*(1+((ws.map V.int).length:Int))<=120:=Int.ediv_mul_le _ (by omega);refine⟨_,rfl,_,rfl,wa,_,rfl,.inl (ah.of iw),_,_,rfl,rfl,_,_,rfl,rfl,⟨p1,by show 1+((ws.map V.int).length:Int)<1073741824;omega⟩,?_⟩;show Wr (wq (.ref wa) (.int (120/(1+((ws.map V.int).length:Int)))) G _)
   have mm:ws.length*(120/(1+((ws.map V.int).length:Int))).toNat<=120:=by
    rw[e1]at d0 d1⊢;obtain⟨c,hc⟩:∃c:Nat,120/(1+(ws.length:Int))=(c:Int):=⟨(120/(1+(ws.length:Int))).toNat,by omega⟩;rw[hc]at d1⊢;have:c*(1+ws.length)<=120:=by exact_mod_cast d1
    rw[Nat.mul_add,Nat.mul_one]at this;rw[Za,Nat.mul_comm];omega
   have pU:120/(1+((ws.map V.int).length:Int))<=1000:=by
    have:120/(1+((ws.map V.int).length:Int))*1<=120/(1+((ws.map V.int).length:Int))*(1+((ws.map V.int).length:Int)):=Int.mul_le_mul_of_nonneg_left (by omega) d0;omega
   refine AN iw d0 pU (by omega) λl1 H1 f1 i1 s1=>?_;refine Qn a b l1 _ x7 x8 x9 pT H1 ha hb i1 (λl c9=>hl l (AO c9)) ?_ (s0.free f1) (s0.trans s1);rw[len_rep,Nat.mul_comm];omega
  obtain⟨u6,hu6,Qo⟩:=r6
  have r5:∃u:TS,dg (fZ aL P w K mg base ["_law_kinds","_law_marks","_law_rows_here","_law_draws","_law_a","_law_b","_law_way_here","_law_places","_law_table","_law_end","_law_often","_law_at","_law_one"] "_law_asked" (aF jK) f au A outer s H E).gG ((fE jK).drop 5) u/\
    ∀(a b:Int) (wa:Addr) (ws:List Int) (x7 x8 x9:Option V) (G:Hp),aE n a->aE n b->aw G wa ws->(∀l∈ws,Let k l)->ws.length<=25->H wa=none->aa H G->
     u {nx:=λ_ H'=>Q .aH H',rt:=Q} [some (.int k),some (.int n),some (.ref lr),some (.ref ld),some (.int a),some (.int b),some (.ref wa),x7,x8,x9,none,none,none] G:=by
   refine⟨_,(@sC _ _ _ _ _ (aR (aJ bZ (av bO (ax aK (pv 3) af (λ_ _=>rfl)) af) af (aG _)) (@sC _ _ _ _ _ (@sS _ 10 _ _ _ _ _ gq.nd rfl (Or.inl rfl) (av iL af (av cV af (av fg af (bq cO (by rfl) T.len PySem.boot_len (@aC _ _ _ _ _ (pv 6) ae (by rfl)))))) (by rfl) (.inl rfl))
   (@sO _ _ _ (@sS _ 6 _ _ _ _ _ gq.nd rfl (Or.inl rfl) (av gM (av sL.wr (av gM (pv 6) (TU.pe hr (@aC _ _ _ _ _ (pv 6) ae (by rfl)))) (pv 10)) (pv 6)) (by rfl) (.inl rfl)))) aU)
   hu6),?_⟩
   intro a b wa ws x7 x8 x9 G ha hb iw hl wl fw s0;have mM:=s0.ints hd;refine⟨_,rfl,aT 3 mM (by omega) ⟨_,_,rfl,rfl,(by show(0:Int)<29;decide),rfl,_,rfl,bF (λ_=>?_) λ_=>Qo a b wa ws x7 x8 x9 none G ha hb iw hl (by omega) fw s0⟩⟩;have e1:((ws.map V.int).length:Int)=ws.length:=by rw[Y1]
   have p1:(0:Int)<1+2*((ws.map V.int).length:Int):=by omega
   refine⟨_,rfl,wa,_,rfl,.inl (ah.of iw),_,_,rfl,rfl,.inl ⟨by decide,by decide⟩,_,_,rfl,rfl,_,_,rfl,rfl,⟨p1,by show 1+2*((ws.map V.int).length:Int)<1073741824;omega⟩,?_⟩;show gP 10 (V.int (120/(1+2*((ws.map V.int).length:Int)))) _ _ _;have d0:0<=120/(1+2*((ws.map V.int).length:Int)):=Int.ediv_nonneg (by decide) (by omega);have d1:(120/(1+2*((ws.map V.int).length:Int)))*(1+2*((ws.map V.int).length:Int))<=120:=Int.ediv_mul_le _ (by omega)
   have pU:120/(1+2*((ws.map V.int).length:Int))<=1000:=by
    have:120/(1+2*((ws.map V.int).length:Int))*1<=120/(1+2*((ws.map V.int).length:Int))*(1+2*((ws.map V.int).length:Int)):=Int.mul_le_mul_of_nonneg_left (by omega) d0;omega
   have mm:(2*ws.length)*(120/(1+2*((ws.map V.int).length:Int))).toNat<=120:=by
    rw[e1]at d0 d1⊢;obtain⟨c,hc⟩:∃c:Nat,120/(1+2*(ws.length:Int))=(c:Int):=⟨(120/(1+2*(ws.length:Int))).toNat,by omega⟩;rw[hc]at d1⊢;have:c*(1+2*ws.length)<=120:=by exact_mod_cast d1
    rw[Nat.mul_add,Nat.mul_one]at this;rw[Za,Nat.mul_comm];omega
   generalize 120/(1+2*((ws.map V.int).length:Int))=tE at d0 pU mm;refine⟨_,rfl,_,rfl,wa,ws,rfl,ah.of iw,by omega,λl1 H1 f1 i1 s1=>?_⟩;have uG:=J6 ws;replace i1:aw H1 l1 (turn ws):=i1;generalize Ej:turn ws=tw at i1 uG;have lw:(ws++tw).length=2*ws.length:=by rw[Zo,uG];omega
   refine jm (s1.ints iw) i1 (by omega) λl2 H2 f2 i2 s2=>⟨_,rfl,?_⟩;refine AN i2 d0 pU (by rw[lw];omega) λl3 H3 f3 i3 s3=>⟨_,rfl,?_⟩;have dc:=s1.trans (s2.trans s3)
   have l3l:((List.replicate tE.toNat (ws++tw)).flatten).length<=120:=by
    rw[len_rep,lw,Nat.mul_comm];omega
   refine jm i3 (dc.ints iw) (by omega) λl4 H4 f4 i4 s4=>?_;refine Qo a b l4 _ x7 x8 x9 (some (.int tE)) H4 ha hb i4 (λl c9=>?_) (by rw[Zo];omega) ((s0.trans dc).free f4) (s0.trans (dc.trans s4));rcases Y7.mp c9 with z|z
   ·rcases Y7.mp (AO z)with y|y
    ·exact hl l y
    ·rw[<-Ej]at y;exact J5 hl l y
   ·exact hl l z
  obtain⟨u5,Ek,uH⟩:=r5
  have r4:∃u:TS,dg (fZ aL P w K mg base ["_law_kinds","_law_marks","_law_rows_here","_law_draws","_law_a","_law_b","_law_way_here","_law_places","_law_table","_law_end","_law_often","_law_at","_law_one"] "_law_asked" (aF jK) f au A outer s H E).gG ((fE jK).drop 4) u/\
    ∀(a b:Int) (wa:Addr) (ws:List Int) (G:Hp),aE n a->aE n b->aw G wa ws->(∀l∈ws,Let k l)->ws.length<=25->H wa=none->aa H G->
     u {nx:=λ_ H'=>Q .aH H',rt:=Q} [some (.int k),some (.int n),some (.ref lr),some (.ref ld),some (.int a),some (.int b),some (.ref wa),none,none,none,none,none,none] G:=by
   refine⟨_,(@sC _ _ _ _ _ (aR (aJ bZ (av bO (ax aK (pv 3) af (λ_ _=>rfl)) af) af (aG _)) (@sC _ _ _ _ _ (gy (Ei.pe hr (@aC _ _ _ _ _ (pv 0) (@aC _ _ _ _ _ (pv 1) (@aC _ _ _ _ _ (pv 2) ae (by rfl)) (by rfl)) (by rfl))) (eJ rfl (bt (aO (i:=7) gq.nd rfl (Or.inl rfl)) (bt (aO (i:=8) gq.nd rfl (Or.inl rfl)) eG))))
   (@sC _ _ _ _ _ (gy (RO.pe hr (@aC _ _ _ _ _ (pv 8) (@aC _ _ _ _ _ (pv 0) (@aC _ _ _ _ _ (ax aK (pv 7) (pv 4) (λ_ _=>rfl)) (@aC _ _ _ _ _ (gK jw (pv 3) (dC af) (dC (av cV af (av bO (ax aK (pv 3) af (λ_ _=>rfl)) af)))) ae (by rfl)) (by rfl)) (by rfl)) (by rfl))) (eJ rfl (bt (aO (i:=6) gq.nd rfl (Or.inl rfl)) (bt (aO (i:=9) gq.nd rfl (Or.inl rfl)) eG))))
   (@sO _ _ _ (@sS _ 5 _ _ _ _ _ gq.nd rfl (Or.inl rfl) (C7 K rfl (eA PySem.F.plainAttrs_list PySem.F.slot_list_index PySem.F.type_list_index (Co K rfl) (pv 7) (@aC _ _ _ _ _ (pv 9) ae (by rfl)))) (by rfl) (.inl rfl))))) aU)
   Ek),?_⟩
   intro a b wa ws G ha hb iw hl wl fw s0;have mM:=s0.ints hd;refine⟨_,rfl,aT 4 mM (by omega) ⟨_,_,rfl,rfl,(by show(0:Int)<2;decide),rfl,_,rfl,bF (λ_=>?_) λ_=>uH a b wa ws none none none G ha hb iw hl wl fw s0⟩⟩;refine⟨_,rfl,_,rfl,_,rfl,k,n,lr,ps,rfl,tl.same s0,gn,k5,n1,n6,pl,λp lp t as l H1 hp ip tb fL s1=>?_⟩;refine⟨p,_,rfl,aZ.of hp,rfl,_,_,rfl,_,_,rfl,rfl,?_⟩;have ll:=fL.1.aD.len
   have ck:g6 k (nC (rk l)) n (rk l) (ps.map (·.2)):=AM ll (λr hr=>by
    obtain⟨p,hp,rfl⟩:=Zh.mp hr;exact gn p hp) fL.2
   have tok:=sV ck;have n7:=wg l;obtain⟨a0,a1⟩:=id ha;have cr:=ck.bx ((rk l).getD a.toNat 0) (getD_mem (by rw[iQ,ll];omega));obtain⟨c,ec⟩:∃c:Nat,(rk l).getD a.toNat 0=(c:Int):=⟨((rk l).getD a.toNat 0).toNat,by omega⟩;have xP:=s0.trans s1;refine⟨_,rfl,_,rfl,_,rfl,_,rfl,aT a.toNat ip (by rw[iQ,ll];omega) ⟨_,rfl,_,rfl,_,rfl,aT 2 (xP.ints hd) (by omega) ⟨_,_,rfl,rfl,(by show(0:Int)<10;decide),_,_,rfl,rfl,_,rfl,ku (xP.ints hd) λl2 H2 f2 i2 s2=>?_⟩⟩ (by omega)⟩
   have cl:(cn ds (some 6) (some (6+ds.getD 2 0%10))).length<=25:=by
    obtain⟨j,ej⟩:∃j:Nat,ds.getD 2 0%10=(j:Int):=⟨(ds.getD 2 0%10).toNat,by have:=Zz (ds.getD 2 0) (show(10:Int)≠0 by decide);omega⟩;have:=Zy (ds.getD 2 0) (show(0:Int)<10 by decide);rw[ej,show(6:Int)+(j:Int)=((6+j:Nat):Int)by omega,show(6:Int)=((6:Nat):Int)from rfl,qu _ _ _ (by omega),Zx];omega
   refine⟨t,as,_,k,nC (rk l),c,l2,_,by rw[ec];rfl,tb.same s2,tok,k1,k5,by omega,by omega,i2,by omega,λq3 lw ws' d H3 _ fw3 hq3 iw3 uy _ pQ wl3 s3=>?_⟩;refine⟨q3,_,rfl,aZ.of hq3,rfl,_,_,rfl,_,_,rfl,rfl,?_⟩;have md:(d:Int)∈rk l:=aav (λz=>by rw[z]at ll;simp at ll;omega) pQ;have il:=ZZ md;rw[iQ,ll]at il;refine⟨_,rfl,.inl ⟨rfl,_,ah.of ((s2.trans s3).ints ip)⟩,_,rfl,?_⟩;unfold kM;refine MH (K:=K) ((s2.trans s3).ints ip) md ?_;exact uH a _ lw ws' _ _ _ H3 ha ⟨by omega,by omega⟩ iw3 uy (by omega) ((xP.trans s2).free fw3) (xP.trans (s2.trans s3))
  obtain⟨u4,hu4,Qp⟩:=r4
  refine⟨_,(@sC _ _ _ _ _ (@sS _ 4 _ _ _ _ _ gq.nd rfl (Or.inl rfl) (av bO (ax aK (pv 3) af (λ_ _=>rfl)) (pv 1)) (by rfl) (.inl rfl))
   (@sC _ _ _ _ _ (@sS _ 5 _ _ _ _ _ gq.nd rfl (Or.inl rfl) (av bO (ax aK (pv 3) af (λ_ _=>rfl)) (pv 1)) (by rfl) (.inl rfl))
   (@sC _ _ _ _ _ (@sS _ 6 _ _ _ _ _ gq.nd rfl (Or.inl rfl) (WA.pe hr (@aC _ _ _ _ _ (gK jw (pv 3) (dC af) (dC (av cV af (av bO (ax aK (pv 3) af (λ_ _=>rfl)) af)))) (@aC _ _ _ _ _ (pv 0) ae (by rfl)) (by rfl))) (by rfl) (.inl rfl))
   (@sC _ _ _ _ _ (aR (aJ bZ (av bO (ax aK (pv 3) af (λ_ _=>rfl)) af) af (aG _)) (@sO _ _ _ (@sS _ 6 _ _ _ _ _ gq.nd rfl (Or.inl rfl) (WA.pe hr (@aC _ _ _ _ _ (gK jw (pv 3) (dC af) (dC (av cV af (av bO (ax aK (pv 3) af (λ_ _=>rfl)) af)))) (@aC _ _ _ _ _ (pv 0) ae (by rfl)) (by rfl))) (by rfl) (.inl rfl))) aU)
   hu4)))),?_⟩
  have m:=λ(x:Int)=>(⟨Zz x (show(n:Int)≠0 by omega),Zy x np⟩:aE n (x%(n:Int)))
  have mod:∀(x:Int) (c:Nat),0<c->∃j:Nat,x%(c:Int)=(j:Int)/\j<c:=λx c h=>by
   have a0:=Zz x (show(c:Int)≠0 by omega);have a1:=Zy x (show(0:Int)<c by omega);exact⟨(x%(c:Int)).toNat,by omega,by omega⟩
  have cl:∀j:Nat,j<=25->(cn ds (some 6) (some (6+(j:Int)))).length<=25:=λj hj=>by
   rw[show(6:Int)+(j:Int)=((6+j:Nat):Int)by omega,show(6:Int)=((6:Nat):Int)from rfl,qu _ _ _ (by omega),Zx];omega
  obtain⟨j1,e1,hj1⟩:=mod (ds.getD 2 0) 10 (by decide);obtain⟨j2,e2,uk⟩:=mod (ds.getD 2 0) 26 (by decide);have c1:(cn ds (some 6) (some (6+ds.getD 2 0%10))).length<=25:=by rw[show ds.getD 2 0%10=(j1:Int)from e1];exact cl j1 (by omega)
  have c2:(cn ds (some 6) (some (6+ds.getD 2 0%26))).length<=25:=by rw[show ds.getD 2 0%26=(j2:Int)from e2];exact cl j2 (by omega)
  refine⟨_,rfl,aT 0 hd (by omega) ⟨_,rfl,_,_,rfl,rfl,np,?_⟩⟩;refine⟨_,rfl,aT 1 hd (by omega) ⟨_,rfl,_,_,rfl,rfl,np,?_⟩⟩;refine⟨_,rfl,_,rfl,_,rfl,aT 2 hd (by omega) ⟨_,_,rfl,rfl,(by show(0:Int)<10;decide),_,_,rfl,rfl,_,rfl,ku hd λl1 H1 f1 i1 s1=>?_⟩⟩;refine⟨_,rfl,l1,_,(k:Int),rfl,ah.of i1,by omega,by omega,by omega,λl2 H2 f2 i2 s2=>?_⟩;have dN:=s1.trans s2;refine⟨_,rfl,aT 3 (dN.ints hd) (by omega) ⟨_,_,rfl,rfl,(by show(0:Int)<7;decide),rfl,_,rfl,bF (λ_=>?_) λ_=>?_⟩⟩
  ·refine⟨_,rfl,_,rfl,_,rfl,aT 2 (dN.ints hd) (by omega) ⟨_,_,rfl,rfl,(by show(0:Int)<26;decide),_,_,rfl,rfl,_,rfl,ku (dN.ints hd) λl3 H3 f3 i3 s3=>?_⟩⟩;refine⟨_,rfl,l3,_,(k:Int),rfl,ah.of i3,by omega,by omega,by omega,λl4 H4 f4 i4 s4=>?_⟩;exact Qp _ _ l4 _ H4 (m _) (m _) i4 (AL k1 _) (by rw[Y1];exact c2) ((dN.trans s3).free f4) (dN.trans (s3.trans s4))
  ·exact Qp _ _ l2 _ H2 (m _) (m _) i2 (AL k1 _) (by rw[Y1];exact c1) (s1.free f2) dN
end
section
variable {P:Program}{w:World}{K:PySem.W.Frag}{mg:Str->Option Value}{base:Heap}
def dD:aM ["_law_script","_law_numbers_here","_law_kinds","_law_marks","_law_many","_law_book_here","_law_standing","_law_rows_here","_law_a","_law_way_here","_law_b","_law_often","_law_places","_law_table","_law_end","_law_home","_law_chart_here","_law_due","_law_some","_law_row"] ["_law_script"] (aF kK):=aN
def ach{f C Cc cM cK:Addr}{fd:FuncData}(F:aI K "law" "law" kK f fd)(T:Txt K mg)(N:aW P w K mg base "_law_numbers" ["_law_script","_law_many"] 1 (Mh K))(SV:mf P w K mg base C "Survey" ["self","kinds"] 1 (K5 C))(LB:aW P w K mg base "_law_book" ["_law_book_here","_law_kinds","_law_marks","_law_many","_law_draws"] 13 (Lc C))
  (LR:aW P w K mg base "_law_rows" ["_law_standing"] 1 oG)(AS:aW P w K mg base "_law_asked" ["_law_kinds","_law_marks","_law_rows_here","_law_draws"] 4 IS)(CU:aW P w K mg base "_law_cut" ["_law_way_here"] 1 (sX K))(TU:aW P w K mg base "_law_turn" ["_law_way_here"] 1 (sN K))(Ei:aW P w K mg base "_law_chart" ["_law_kinds","_law_marks","_law_rows_here"] 3 Af)(TR:aW P w K mg base "_law_trace" ["_law_table","_law_here","_law_way_here"] 2 Np)
  (Em:b3 P w K mg base C "judge" ["self","a","way","b"] 8 (Ly C cM cK))(wQ:b3 P w K mg base C "piece" ["self","a"] 9 (J3 C Cc cM))(TRC:cy P w K mg base Cc "trace" ["self","chamber","way"] 4 (KW Cc))(IO:aW P w K mg base "_law_in_order" ["_law_table","_law_order_here"] 1 NA)(OR:aW P w K mg base "_law_order" ["_law_table","_law_kinds","_law_base"] 2 Lq)(ST:aW P w K mg base "_law_same_table" ["_law_found","_law_due"] 1 KP)
  (TB:cy P w K mg base Cc "table" ["self"] 2 (vL Cc))(HO:aW P w K mg base "homes" ["chart"] 5 (Ln Cc))(WR:aW P w K mg base "_law_ways_right" ["_law_found"] 2 Oc)(Qq:cy P w K mg base C "entries" ["self"] 1 (Iw C)):
  az P w K mg base aL 14 f fd ["_law_script"] (vV K):=by
 refine F.ok dD (λvs H Q E h=>?_) (λau A outer s H vs Q E hr h=>?_)
 ·obtain⟨a,ns,rfl,_⟩:=h
  rfl
 ·obtain⟨sc,ns,rfl,hS,hn,kk⟩:=h;have hu:=hr.units
  have r11:∃u:TS,dg (fZ aL P w K mg base ["_law_script","_law_numbers_here","_law_kinds","_law_marks","_law_many","_law_book_here","_law_standing","_law_rows_here","_law_a","_law_way_here","_law_b","_law_often","_law_places","_law_table","_law_end","_law_home","_law_chart_here","_law_due","_law_some","_law_row"] "law" (aF kK) f au A outer s H E).gG ((fE kK).drop 11) u/\
    ∀(l0 l r wa g lh:Addr) (k m a b:Nat) (B:Bk) (rest:List Addr) (ps:Ps) (ws:List Int) (many pV:Option V) (G:Hp),aQ C G g lh B rest->B.k=k->B.n=m->1<=m->Tl G r ps->ps.map (·.2)=rowsOf B.es->Es G l B.es->aw G wa ws->(∀l∈ws,Let k l)->ws.length<=600->a<m->b<m->
     u {nx:=λ_ H'=>Q .aH H',rt:=Q} [some (.ref sc),some (.ref l0),some (.int k),some (.int m),many,some (.ref g),some (.ref l),some (.ref r),some (.int a),some (.ref wa),some (.int b),pV,none,none,none,none,none,none,none,none] G:=by
   refine⟨_,(@sC _ _ _ _ _ (gy (Ei.pe hr (@aC _ _ _ _ _ (pv 2) (@aC _ _ _ _ _ (pv 3) (@aC _ _ _ _ _ (pv 7) ae (by rfl)) (by rfl)) (by rfl))) (eJ rfl (bt (aO (i:=12) dD.nd rfl (Or.inl rfl)) (bt (aO (i:=13) dD.nd rfl (Or.inl rfl)) eG))))
   (@sC _ _ _ _ _ (@sS _ 14 _ _ _ _ _ dD.nd rfl (Or.inl rfl) (TR.pe hr (@aC _ _ _ _ _ (pv 13) (@aC _ _ _ _ _ (ax aK (pv 12) (pv 8) (λ_ _=>rfl)) (@aC _ _ _ _ _ (CU.pe hr (@aC _ _ _ _ _ (pv 9) ae (by rfl))) ae (by rfl)) (by rfl)) (by rfl))) (by rfl) (.inl rfl))
   (@sC _ _ _ _ _ (aR (aJ ny (iN bZ (Em.eY hr (pv 5) (@aC _ _ _ _ _ (pv 8) (@aC _ _ _ _ _ (pv 9) (@aC _ _ _ _ _ (pv 10) ae (by rfl)) (by rfl)) (by rfl))) fT (aG _)) (iN bZ (pv 14) (ax aK (pv 12) (pv 10) (λ_ _=>rfl)) (aG _)) (aG _)) (@sO _ _ _ (@sR _ _ _ _ fH)) aU)
   (@sC _ _ _ _ _ (@sS _ 15 _ _ _ _ _ dD.nd rfl (Or.inl rfl) (iN bZ (pv 14) (ax aK (pv 12) (pv 8) (λ_ _=>rfl)) (aG _)) (by rfl) (.inl rfl))
   (@sC _ _ _ _ _ (@sS _ 16 _ _ _ _ _ dD.nd rfl (Or.inl rfl) (wQ.eY hr (pv 5) (@aC _ _ _ _ _ (pv 8) ae (by rfl))) (by rfl) (.inl rfl))
   (@sC _ _ _ _ _ (aR (PW.pt (fW (aJ ny (iN bZ (Em.eY hr (pv 5) (@aC _ _ _ _ _ (pv 8) (@aC _ _ _ _ _ (pv 9) (@aC _ _ _ _ _ (pv 8) ae (by rfl)) (by rfl)) (by rfl))) fT (aG _)) (pv 15) (aG _)) (gv (aJ ny (iN bZ (TRC.pe hr (pv 16) (@aC _ _ _ _ _ af (@aC _ _ _ _ _ (pv 9) ae (by rfl)) (by rfl))) af (aG _)) (pv 15) (aG _))))) (@sO _ _ _ (@sR _ _ _ _ fH)) aU)
   (@sC _ _ _ _ _ (@sS _ 17 _ _ _ _ _ dD.nd rfl (Or.inl rfl) (IO.pe hr (@aC _ _ _ _ _ (pv 13) (@aC _ _ _ _ _ (OR.pe hr (@aC _ _ _ _ _ (pv 13) (@aC _ _ _ _ _ (pv 2) (@aC _ _ _ _ _ (ax aK (pv 12) (pv 8) (λ_ _=>rfl)) ae (by rfl)) (by rfl)) (by rfl))) ae (by rfl)) (by rfl))) (by rfl) (.inl rfl))
   (@sC _ _ _ _ _ (aR (jN (gN (ST.pe hr (@aC _ _ _ _ _ (TB.eY hr (pv 16)) (@aC _ _ _ _ _ (pv 17) ae (by rfl)) (by rfl))))) (@sO _ _ _ (@sR _ _ _ _ fH)) aU)
   (@sC _ _ _ _ _ (@sS _ 18 _ _ _ _ _ dD.nd rfl (Or.inl rfl) (HO.pe hr (@aC _ _ _ _ _ (pv 16) ae (by rfl))) (by rfl) (.inl rfl))
   (@sC _ _ _ _ _ (aR (jN (gN (WR.pe hr (@aC _ _ _ _ _ (pv 18) ae (by rfl))))) (@sO _ _ _ (@sR _ _ _ _ fH)) aU)
   (@sC _ _ _ _ _ (bN Zm rfl (bH (gK jw (pv 18) mX (dC af))) (aO (i:=19) dD.nd rfl (Or.inl rfl)) (@sO _ _ _ (aR (aJ ny (Em.eY hr (pv 5) (@aC _ _ _ _ _ (pv 8) (@aC _ _ _ _ _ (pv 19) (@aC _ _ _ _ _ (pv 8) ae (by rfl)) (by rfl)) (by rfl))) fT (aG _)) (@sO _ _ _ (@sR _ _ _ _ fH)) aU)))
   (@sO _ _ _ (@sR _ _ _ _ (iN (abp hu) (Qq.eY hr (pv 5)) (pv 6) (aG _))))))))))))))),?_⟩
   intro l0 l r wa g lh k m a b B rest ps ws many pV G hB bk bn m1 tl er xQ iw hl wl ha hb;obtain⟨lz,DZ,jd,_⟩:=id hB.ob;have c8:=hB.c8;have cJ:=hB.cJ;have k1:=hB.k1;have k5:=hB.k5;have ck:=Bk.Cr hB;have rm:=zm hB.ok;have aei:=oA B.es;have pl:=mV er;have mP:aE B.n (a:Int):=⟨by omega,by omega⟩;have inB:aE B.n (b:Int):=⟨by omega,by omega⟩;have ly:∀l∈ws,Let B.k l:=by rw[bk];exact hl
   refine⟨_,rfl,_,rfl,_,rfl,k,m,r,ps,rfl,tl,λp hp=>by rw[<-bk, <-bn];exact qo er rm p hp,by omega,m1,by omega,by omega,λq5 lp t as l5 H5 hq5 ip tb fL s5=>?_⟩;rw[er]at tb fL
   have el5:l5=B.aD:=by
    rw[<-bn]at fL;exact fL.eq
   subst el5;have ll:=fL.1.aD.len
   have tb:Tb H5 t as B.tab:=by
    unfold Bk.tab Bk.cp;rw[bk];exact tb
   have tok:bL B.k B.cp B.tab:=sV ck;refine⟨q5,_,rfl,aZ.of hq5,rfl,_,_,rfl,_,_,rfl,rfl,?_⟩;have ca:=ck.bx ((rk B.aD).getD a 0) (getD_mem (by rw[iQ,ll];omega));obtain⟨c,ec⟩:∃c:Nat,(rk B.aD).getD a 0=(c:Int):=⟨((rk B.aD).getD a 0).toNat,by omega⟩;have cb:=ck.bx ((rk B.aD).getD b 0) (getD_mem (by rw[iQ,ll];omega));have dX:c<B.cp:=by omega
   have n7:=wg B.aD;have xG:B.cp<=1000:=by show nC (rk B.aD)<=_;omega
   have mw:=λ{b:Nat} (hb:b<m)=>Bk.IT hB (a:=a) (b:=b) (ws:=ws) mP ⟨by omega,by omega⟩ ly;simp only[Za]at mw;rw[ec]at mw;have lcl:=YL ws;refine⟨_,rfl,_,rfl,_,rfl,aT a ip (by rw[iQ,ll];omega) ⟨_,rfl,wa,ws,rfl,ah.of (s5.ints iw),by omega,λlf Hf ff iff sf=>?_⟩⟩;refine⟨t,as,B.tab,B.k,B.cp,c,lf,cut ws,by rw[ec];rfl,tb.same sf,tok,xG,dX,iff,by omega,vA ly,?_⟩;show gP 14 (oV (bB B.tab (some (c:Int)) (cut ws))) _ _ _;generalize he:bB B.tab (some (c:Int)) (cut ws)=en at mw;have uI:∀{G':Hp},aa G G'->G' g=some (.ins C lz (bf B.k B.n DZ B.c lh)):=λsg=>sg _ _ jd;have xR:=s5.trans sf;have Qr:=xR.ints iw;refine⟨_,rfl,g,lz,_,rfl,uI xR,rfl,_,rfl,_,rfl,_,rfl,g,lh,B,rest,a,b,wa,ws,rfl,hB.same xR,Qr,wl,λ_ _=>λH7 s7=>?_,λz=>absurd ⟨mP,inB⟩ z,λ_ z=>absurd ly z⟩;have mI:=xR.trans s7;refine⟨rfl,_,rfl,_,rfl,_,rfl,aT b ((sf.trans s7).ints ip) (by rw[iQ,ll];omega) ?_⟩;refine⟨by cases en<;>rfl,rfl,_,rfl,cm (BM (zG.trans ((mw hb).trans vP.symm))) ?_⟩;refine⟨_,rfl,_,rfl,_,rfl,aT a ((sf.trans s7).ints ip) (by rw[iQ,ll];omega) ⟨by cases en<;>rfl,?_⟩⟩;rw[ec];show gP 15 (V.bl (decide (oV en=V.int (c:Int)))) _ _ _;have Qs:=mw ha;rw[ec]at Qs;have mi:=m8 tok (k:=B.k) dX;refine⟨_,rfl,g,lz,_,rfl,uI mI,rfl,_,rfl,g,lh,B,rest,a,rfl,hB.same mI,λ_ x fx H8 hx hfx xS s8=>?_,λz=>absurd mP z⟩;rw[Za,ec,Za]at xS;have jH:=mI.trans s8;have Qt:=(s7.trans s8).ints Qr;refine⟨_,rfl,g,lz,_,rfl,uI jH,rfl,_,rfl,_,rfl,_,rfl,g,lh,B,rest,a,a,wa,ws,rfl,hB.same jH,Qt,wl,λ_ _=>λH9 s9=>?_,λz=>absurd ⟨mP,mP⟩ z,λ_ z=>absurd ly z⟩;have s09:=jH.trans s9;refine⟨rfl,_,rfl,rfl,_,rfl,cm (BM (zG.trans (Qs.trans vP.symm))) ?_⟩;have s89:=s9;have Qu:=xS.same s9;obtain⟨dy,lo3,li3,as3,bs3,I3,aeM,hgy,_⟩:=id Qu.ob;have ol:0<(met B.tab B.k B.cp c).length:=List.length_pos_of_mem mi.2.1;have rh:=J7 tok dX (vA ly);rw[he]at rh;refine⟨_,rfl,x,dy,_,rfl,hgy,jo ..,_,rfl,x,B.k,_,_,fx,0,wa,ws,rfl,Qu,ol,(s9.ints Qt),by omega,ly,λxn s10=>?_⟩;refine⟨?_,_,rfl,rfl,_,rfl,cm (BM (vP.trans (rh.trans vP.symm))) ?_⟩
   ·show BZ (oV _) (V.int 0)=true;cases bB (cf B.tab (met B.tab B.k B.cp c)) (some ((0:Nat):Int)) (cut ws)<;>rfl
   have Eo:=s9.trans s10;have s0a:=jH.trans Eo;have Ep:=sf.trans (s7.trans (s8.trans Eo));have hca:=xS.same Eo;have vk:V.int (k:Int)=V.int (B.k:Int):=by rw[bk]
   refine⟨_,rfl,_,rfl,_,rfl,_,rfl,_,rfl,aT a (Ep.ints ip) (by rw[iQ,ll];omega) ⟨t,as,B.tab,B.k,B.cp,c,by rw[ec,vk];rfl,tb.same Ep,tok,k1,k5,xG,dX,λlo Hb nR io sb=>?_⟩⟩;have s5b:=Ep.trans sb;refine⟨t,lo,as,B.k,B.cp,B.tab,met B.tab B.k B.cp c,rfl,tb.same s5b,tok,xG,k5,io,mi.1.nd,mi.1.lt,λu bs Hc aeN tbu sc'=>?_⟩;have Qv:=sb.trans sc';have qL:=hca.same Qv;obtain⟨dz,lo4,li4,as4,bs4,I4,aeO,hgz,_⟩:=id qL.ob;refine⟨_,rfl,x,dz,_,rfl,hgz,jo ..,x,B.k,_,_,fx,rfl,qL,λt3 ts3 Hd ft3 aeP Pk tb3 sd=>⟨_,rfl,t3,u,ts3,bs,_,rfl,tb3,tbu.same sd,⟨_,rfl,bE ?_⟩⟩⟩;have bS:=qL.same sd;have s0d:=s0a.trans (Qv.trans sd);have Qw:=xS.ok;have aeQ:=dI.len mi.1;refine⟨_,rfl,x,B.k,_,_,fx,rfl,bS,λlr qs He fr fqs ndq il eq se=>?_⟩;have kX:=λ(r:List Int) (hr:r∈oZ (cf B.tab (met B.tab B.k B.cp c)) B.k (met B.tab B.k B.cp c).length)=>aas Qw ol hr;have xT:∀p∈qs,MS (cf B.tab (met B.tab B.k B.cp c)) B.k (met (cf B.tab (met B.tab B.k B.cp c)) B.k (met B.tab B.k B.cp c).length 0).length p.2:=λp hp=>kX p.2 (by rw[<-eq];exact Zh.mpr ⟨p,hp,rfl⟩);have ml2:=dI.len (m8 Qw (k:=B.k) (base:=0) ol).1
   have n26:B.cp<=25:=by
    have:nC (rk B.aD)<=B.aD.length+1:=n7;show nC (rk B.aD)<=25;omega
   refine⟨_,rfl,lr,qs,rfl,il,λp hp=>⟨(xT p hp).rd,(xT p hp).ne,by have:=(xT p hp).ln;omega⟩,λHf' Qx=>⟨_,rfl,bE ?_⟩⟩;have kZ:=il.same Qx;have Oy:=s0d.trans (se.trans Qx);refine⟨_,rfl,_,rfl,Iz kZ.is λD Hg hD iD sg=>?_⟩;rw[WL]at iD;have aej:∀p∈cn qs none (some 4),p∈qs:=λp hp=>zS hp;have lA:=kZ.same sg;refine⟨D,rfl,⟨_,ah.of iD⟩,cS (K:=K) (a:=D) (xs:=(cn qs none (some 4)).map λp=>V.ref p.1) (λi σ H7=>∃(x1:Option V),σ=[some (.ref sc),some (.ref l0),some (.int k),some (.int m),many,some (.ref g),some (.ref l),some (.ref r),some (.int a),some (.ref wa),some (.int b),pV,some (.ref lp),some (.ref t),some (oV en),some (V.bl (decide (oV en=V.int (c:Int)))),some (.ref x),some (.ref u),some (.ref lr),x1]/\aa Hg H7) ⟨_,rfl,aa.refl _⟩ (λi σ H7 _ ⟨_,_,w⟩=>ah.of (w _ _ iD)) ?_ ?_⟩
   ·rintro i y σ H7 hi ⟨x1,rfl,uJ⟩;obtain⟨p,rfl,ep⟩:=kD hi;have mp:=aej p (Y6 ep);have rp:=xT p mp;have qJ:=Oy.trans (sg.trans uJ);have pl:=rp.ln;refine⟨_,rfl,g,lz,_,rfl,uI qJ,rfl,_,rfl,_,rfl,_,rfl,g,lh,B,rest,a,a,p.1,p.2,rfl,hB.same qJ,(lA.same uJ).iv p mp,by omega,λ_ _=>λH9' s9'=>?_,λz=>absurd ⟨mP,mP⟩ z,λ_ z=>absurd rp.ll z⟩
    have mp2:jT (rowsOf B.es) a p.2 a:=by
     refine(Bk.IT hB mP mP rp.ll).mpr ?_;rw[Za,ec,rp.rd];exact(J7 tok dX rp.ll).mp rp.hm
    refine⟨rfl,_,rfl,cm ?_ ⟨_,rfl,uJ.trans s9'⟩⟩;rw[ZN (zG.mpr mp2)];rfl
   ·rintro σ H7 ⟨x1,rfl,uJ⟩;have qJ:=Oy.trans (sg.trans uJ);refine⟨_,rfl,g,lz,_,rfl,uI qJ,rfl,g,lh,B,rest,rfl,hB.same qJ,λl9 H9 h9 el9 s9=>⟨_,rfl,abP (m:=true) el9.dt (xQ.same (qJ.trans s9)).dt ((abR B.es).mono (by decide)) (kk _)⟩⟩
  obtain⟨u11,aek,ael⟩:=r11
  have adi:∃u:TS,dg (fZ aL P w K mg base ["_law_script","_law_numbers_here","_law_kinds","_law_marks","_law_many","_law_book_here","_law_standing","_law_rows_here","_law_a","_law_way_here","_law_b","_law_often","_law_places","_law_table","_law_end","_law_home","_law_chart_here","_law_due","_law_some","_law_row"] "law" (aF kK) f au A outer s H E).gG ((fE kK).drop 5) u/\
    ∀(l0:Addr) (ms:List Int) (k m many:Nat) (G:Hp),aw G l0 ms->ms.length=200->1<=k->k<=5->m<=24->many<=40->u {nx:=λ_ H'=>Q .aH H',rt:=Q} [some (.ref sc),some (.ref l0),some (.int k),some (.int m),some (.int many),none,none,none,none,none,none,none,none,none,none,none,none,none,none,none] G:=by
   refine⟨_,(@sC _ _ _ _ _ (@sS _ 5 _ _ _ _ _ dD.nd rfl (Or.inl rfl) (SV.pe hr (@aC _ _ _ _ _ (pv 2) ae (by rfl))) (by rfl) (.inl rfl))
   (@sC _ _ _ _ _ (@sS _ 6 _ _ _ _ _ dD.nd rfl (Or.inl rfl) (LB.pe hr (@aC _ _ _ _ _ (pv 5) (@aC _ _ _ _ _ (pv 2) (@aC _ _ _ _ _ (pv 3) (@aC _ _ _ _ _ (pv 4) (@aC _ _ _ _ _ (gK jw (pv 1) (dC af) mX) ae (by rfl)) (by rfl)) (by rfl)) (by rfl)) (by rfl))) (by rfl) (.inl rfl))
   (@sC _ _ _ _ _ (aR (aJ bZ (pv 3) af (aG _)) (@sO _ _ _ (@sR _ _ _ _ (iN (vp hu) (Qq.eY hr (pv 5)) (eI ae) (aG _)))) aU)
   (@sC _ _ _ _ _ (@sS _ 7 _ _ _ _ _ dD.nd rfl (Or.inl rfl) (LR.pe hr (@aC _ _ _ _ _ (pv 6) ae (by rfl))) (by rfl) (.inl rfl))
   (@sC _ _ _ _ _ (gy (AS.pe hr (@aC _ _ _ _ _ (pv 2) (@aC _ _ _ _ _ (pv 3) (@aC _ _ _ _ _ (pv 7) (@aC _ _ _ _ _ (gK jw (pv 1) (dC af) (dC af)) ae (by rfl)) (by rfl)) (by rfl)) (by rfl))) (eJ rfl (bt (aO (i:=8) dD.nd rfl (Or.inl rfl)) (bt (aO (i:=9) dD.nd rfl (Or.inl rfl)) (bt (aO (i:=10) dD.nd rfl (Or.inl rfl)) eG)))))
   (@sC _ _ _ _ _ (aR (PW.pt (kF (aJ bZ (av bO (ax aK (pv 1) af (λ_ _=>rfl)) af) af (aG _)) (kA (aJ ij (bq cO (by rfl) T.len PySem.boot_len (@aC _ _ _ _ _ (pv 9) ae (by rfl))) af (aG _))))) (@sC _ _ _ _ _ (@sS _ 11 _ _ _ _ _ dD.nd rfl (Or.inl rfl) (av iL af (av cV af (av fg af (bq cO (by rfl) T.len PySem.boot_len (@aC _ _ _ _ _ (pv 9) ae (by rfl)))))) (by rfl) (.inl rfl))
   (@sO _ _ _ (@sS _ 9 _ _ _ _ _ dD.nd rfl (Or.inl rfl) (av gM (av sL.wr (av gM (pv 9) (TU.pe hr (@aC _ _ _ _ _ (pv 9) ae (by rfl)))) (pv 11)) (pv 9)) (by rfl) (.inl rfl)))) aU)
   aek)))))),?_⟩
   intro l0 ms k m many G h0 hm k1 k5 xj Ou;refine⟨_,rfl,λg dx ng uE neg=>?_⟩;have sx:aa G (upd (upd G dx (.own g)) g (.ins C dx [])):=((aa.refl G).upd uE).upd ng;refine⟨g,dx,k,rfl,ak,k1,k5,λH1 lh rest ko flh aeF kp1=>⟨rfl,?_⟩⟩;have s1:aa G H1:=λb o e=>kp1 b o (sx b o e) λz=>by rw[z,ng]at e;cases e
   have h1:=s1.ints h0
   have l0h:l0≠lh:=λz=>by
    have:=sx.free flh;rw[<-z,show G l0=_ from h0]at this;cases this
   refine⟨_,rfl,_,rfl,_,rfl,_,rfl,_,rfl,_,rfl,ku h1 λld H2 hld id2 s2=>?_⟩;have dr:(cn ms (some 60) none).length=140:=by rw[show(60:Int)=((60:Nat):Int)from rfl,Uy,ZJ,hm]
   refine⟨g,lh,rest,k,m,many,ld,_,rfl,ko.same s2,xj,Ou,id2,by rw[dr];omega,by rw[dr];decide,λz=>ko.not hld (z▸Y4 _ (Y9 ..)),λl Qy B lO H3 e9 bk bn be bh bc bu xQ DR nr3 hl cA ux=>?_⟩;have h2:=s2.ints h1;have h3:aw H3 l0 ms:=vB h2 (ko.same s2) cA l0h;obtain⟨lz,DZ,jd,_⟩:=id e9.ob;have c8:=e9.c8;have cJ:=e9.cJ;refine⟨_,rfl,rfl,_,rfl,bF (λz=>?_) λz=>?_⟩
   ·have z:m=0:=by have:=V.int.inj (of_decide_eq_true z);omega
    refine⟨_,rfl,g,lz,_,rfl,jd,rfl,g,Qy,B,lO,rfl,e9,λp H4 hp Dv s4=>hZ [] λl0 H5 om i0 s5=>YK (ns:=[]) (s5 _ _ ?_) i0 rfl (kk _)⟩
    have:B.es=[]:=List.eq_nil_iff_forall_not_mem.mpr λe he=>by
     have:=e9.ok e he;cases e with
     |row i a kd b=>obtain⟨⟨_,_⟩,_⟩:=this;omega
     |ap i a b=>obtain⟨⟨_,_⟩,_⟩:=this;omega
    obtain⟨ps,e1,_,e3,_⟩:=Dv.ob;rw[this]at e3;rw[e1,List.map_eq_nil_iff.mp e3];rfl
   have m1:1<=m:=by
    have z:¬(m:Int)=0:=λw=>z (ZN (by rw[w]));omega
   obtain⟨fp,el⟩:=xQ.el;refine⟨_,rfl,l,fp,B.es,rfl,el,by omega,λr ps H4 hr4 tl er s4=>?_⟩;have rm:=zm e9.ok;have aei:=oA B.es;have pl:=mV er;have h4:=s4.ints h3;refine⟨_,rfl,_,rfl,_,rfl,_,rfl,_,rfl,_,rfl,ku h4 λlq H5 DI iq s5=>?_⟩
   have ql:(cn ms (some 20) (some 60)).length=40:=by
    rw[show(60:Int)=((60:Nat):Int)from rfl,show(20:Int)=((20:Nat):Int)from rfl,qu _ _ _ (by decide),Zx,ZJ,hm];decide
   refine⟨k,m,r,lq,ps,_,rfl,tl.same s5,λp hp=>by rw[<-bk, <-bn];exact qo er rm p hp,iq,ql,k1,k5,m1,by omega,by omega,λt wa a b ws H6 ht iw ha hb hl wl _ s6=>?_⟩;refine⟨t,_,rfl,aZ.of ht,rfl,_,_,rfl,_,_,rfl,_,_,rfl,rfl,?_⟩;have Er:=s4.trans (s5.trans s6);have h6:=Er.ints h3;obtain⟨a,rfl⟩:∃a':Nat,a=(a':Int):=⟨a.toNat,by have:=ha.1;omega⟩;obtain⟨b,rfl⟩:∃b':Nat,b=(b':Int):=⟨b.toNat,by have:=hb.1;omega⟩;have a1:a<m:=by have:=ha.2;omega
   have b1:b<m:=by have:=hb.2;omega
   refine⟨_,rfl,aT 4 h6 (by omega) ⟨_,_,rfl,rfl,(by show(0:Int)<20;decide),rfl,_,rfl,?_⟩⟩;have iwH:=iw
   have Cu:∀(wa:Addr) (ws:List Int) (pV:Option V) (G:Hp),aa H6 G->aw G wa ws->(∀l∈ws,Let k l)->ws.length<=600->u11 {nx:=λ_ H'=>Q .aH H',rt:=Q} [some (.ref sc),some (.ref l0),some (.int k),some (.int m),some (.int many),some (.ref g),some (.ref l),some (.ref r),some (.int a),some (.ref wa),some (.int b),pV,none,none,none,none,none,none,none,none] G:=λwa ws pV G sG iG hG lG=>
    ael l0 l r wa g Qy k m a b B lO ps ws _ pV G (e9.same (Er.trans sG)) bk bn m1 (tl.same (s5.trans (s6.trans sG))) er (xQ.same (Er.trans sG)) iG hG lG a1 b1
   refine bF (λ_=>⟨_,rfl,wa,_,rfl,.inl (ah.of iw),_,_,rfl,rfl,_,rfl,bF (λz=>?_) λ_=>Cu wa ws none H6 (aa.refl _) iw hl (by omega)⟩) λ_=>bE (Cu wa ws none H6 (aa.refl _) iw hl (by omega));have e1:((ws.map V.int).length:Int)=ws.length:=by rw[Y1]
   have z30:ws.length<30:=by have:=of_decide_eq_true z;omega
   have p1:(0:Int)<1+2*((ws.map V.int).length:Int):=by omega
   refine⟨_,rfl,wa,_,rfl,.inl (ah.of iw),_,_,rfl,rfl,.inl ⟨by decide,by decide⟩,_,_,rfl,rfl,_,_,rfl,rfl,⟨p1,by show 1+2*((ws.map V.int).length:Int)<1073741824;omega⟩,?_⟩;show gP 11 (V.int (560/(1+2*((ws.map V.int).length:Int)))) _ _ _;have d0:0<=560/(1+2*((ws.map V.int).length:Int)):=Int.ediv_nonneg (by decide) (by omega);have d1:(560/(1+2*((ws.map V.int).length:Int)))*(1+2*((ws.map V.int).length:Int))<=560:=Int.ediv_mul_le _ (by omega)
   have pU:560/(1+2*((ws.map V.int).length:Int))<=1000:=by
    have:560/(1+2*((ws.map V.int).length:Int))*1<=560/(1+2*((ws.map V.int).length:Int))*(1+2*((ws.map V.int).length:Int)):=Int.mul_le_mul_of_nonneg_left (by omega) d0;omega
   have mm:(2*ws.length)*(560/(1+2*((ws.map V.int).length:Int))).toNat<=560:=by
    rw[e1]at d0 d1⊢;obtain⟨c,hc⟩:∃c:Nat,560/(1+2*(ws.length:Int))=(c:Int):=⟨(560/(1+2*(ws.length:Int))).toNat,by omega⟩;rw[hc]at d1⊢;have:c*(1+2*ws.length)<=560:=by exact_mod_cast d1
    rw[Nat.mul_add,Nat.mul_one]at this;rw[Za,Nat.mul_comm];omega
   generalize 560/(1+2*((ws.map V.int).length:Int))=tE at d0 pU mm;refine⟨_,rfl,_,rfl,wa,ws,rfl,ah.of iw,by omega,λl1 H1 f1 i1 s1=>?_⟩;have uG:=J6 ws;replace i1:aw H1 l1 (turn ws):=i1;generalize Ej:turn ws=tw at i1 uG;have lw:(ws++tw).length=2*ws.length:=by rw[Zo,uG];omega
   refine jm (s1.ints iw) i1 (by omega) λl2 H2 f2 i2 s2=>⟨_,rfl,?_⟩;refine AN i2 d0 pU (by rw[lw];omega) λl3 H3 f3 i3 s3=>⟨_,rfl,?_⟩;have dc:=s1.trans (s2.trans s3)
   have l3l:((List.replicate tE.toNat (ws++tw)).flatten).length<=560:=by
    rw[len_rep,lw,Nat.mul_comm];omega
   refine jm i3 (dc.ints iw) (by omega) λl4 H4 f4 i4 s4=>?_;refine Cu l4 _ (some (.int tE)) H4 (dc.trans s4) i4 (λl c9=>?_) (by rw[Zo];omega);rcases Y7.mp c9 with z|z
   ·rcases Y7.mp (AO z)with y|y
    ·exact hl l y
    ·exact J5 hl l (by rw[Ej];exact y)
   ·exact hl l z
  obtain⟨u5,Ek,uH⟩:=adi
  refine⟨_,(@sC _ _ _ _ _ (@sS _ 1 _ _ _ _ _ dD.nd rfl (Or.inl rfl) (N.pe hr (@aC _ _ _ _ _ (pv 0) (@aC _ _ _ _ _ af ae (by rfl)) (by rfl))) (by rfl) (.inl rfl))
   (@sC _ _ _ _ _ (@sS _ 2 _ _ _ _ _ dD.nd rfl (Or.inl rfl) (av cV af (av bO (ax aK (pv 1) af (λ_ _=>rfl)) af)) (by rfl) (.inl rfl))
   (@sC _ _ _ _ _ (@sS _ 3 _ _ _ _ _ dD.nd rfl (Or.inl rfl) (av bO (ax aK (pv 1) af (λ_ _=>rfl)) af) (by rfl) (.inl rfl))
   (@sC _ _ _ _ _ (@sS _ 4 _ _ _ _ _ dD.nd rfl (Or.inl rfl) (av bO (ax aK (pv 1) af (λ_ _=>rfl)) af) (by rfl) (.inl rfl))
   (@sC _ _ _ _ _ (aR (aJ bZ (av bO (ax aK (pv 1) af (λ_ _=>rfl)) af) af (aG _)) (@sC _ _ _ _ _ (@sS _ 3 _ _ _ _ _ dD.nd rfl (Or.inl rfl) (av bO (ax aK (pv 1) af (λ_ _=>rfl)) af) (by rfl) (.inl rfl))
   (@sO _ _ _ (@sS _ 4 _ _ _ _ _ dD.nd rfl (Or.inl rfl) (av bO (ax aK (pv 1) af (λ_ _=>rfl)) af) (by rfl) (.inl rfl)))) aU)
   Ek))))),?_⟩
  refine⟨_,rfl,sc,ns,200,rfl,hS,hn,by decide,λl0 ms H1 Qz hg f0 h0 s1=>?_⟩;have a0:=Zz (ms.getD 0 0) (show(5:Int)≠0 by decide);have a1:=Zy (ms.getD 0 0) (show(0:Int)<5 by decide);have b0:=Zz (ms.getD 1 0) (show(11:Int)≠0 by decide);have b1:=Zy (ms.getD 1 0) (show(0:Int)<11 by decide);have c0:=Zz (ms.getD 2 0) (show(15:Int)≠0 by decide);have c1:=Zy (ms.getD 2 0) (show(0:Int)<15 by decide);have d0:=Zz (ms.getD 1 0) (show(25:Int)≠0 by decide);have d1:=Zy (ms.getD 1 0) (show(0:Int)<25 by decide);have e0:=Zz (ms.getD 2 0) (show(41:Int)≠0 by decide);have e1:=Zy (ms.getD 2 0) (show(0:Int)<41 by decide);refine⟨_,rfl,aT 0 h0 (by omega) ⟨_,_,rfl,rfl,(by show(0:Int)<5;decide),_,_,rfl,rfl,?_⟩⟩;refine⟨_,rfl,aT 1 h0 (by omega) ⟨_,_,rfl,rfl,(by show(0:Int)<11;decide),?_⟩⟩;refine⟨_,rfl,aT 2 h0 (by omega) ⟨_,_,rfl,rfl,(by show(0:Int)<15;decide),?_⟩⟩;refine⟨_,rfl,aT 3 h0 (by omega) ⟨_,_,rfl,rfl,(by show(0:Int)<9;decide),rfl,_,rfl,?_⟩⟩;refine bF (λ_=>?_) (λ_=>?_)
  ·refine⟨_,rfl,aT 1 h0 (by omega) ⟨_,_,rfl,rfl,(by show(0:Int)<25;decide),?_⟩⟩;refine⟨_,rfl,aT 2 h0 (by omega) ⟨_,_,rfl,rfl,(by show(0:Int)<41;decide),?_⟩⟩;have:=uH l0 ms (1+ms.getD 0 0%5).toNat (ms.getD 1 0%25).toNat (ms.getD 2 0%41).toNat H1 h0 Qz (by omega) (by omega) (by omega) (by omega);rw[Zw (show 0<=1+ms.getD 0 0%5 by omega),Zw d0,Zw e0]at this;exact this
  ·have:=uH l0 ms (1+ms.getD 0 0%5).toNat (ms.getD 1 0%11).toNat (ms.getD 2 0%15).toNat H1 h0 Qz (by omega) (by omega) (by omega) (by omega);rw[Zw (show 0<=1+ms.getD 0 0%5 by omega),Zw b0,Zw c0]at this;exact this
end
abbrev NsN(K:PySem.W.Frag)(n:Str):Prop:=PySem.W.nsIn K mainGlobals n=some none
abbrev NsI(K:PySem.W.Frag)(n:Str)(f:Addr):Prop:=PySem.W.nsIn K mainGlobals n=some (some (.ref f))
structure De(K:PySem.W.Frag)(n:Str)(st:Stmt)(f:Addr)(d:FuncData):Prop where
 a:PySem.W.nsIn K mainGlobals n=some (some (.ref f))
 F:aI K n n st f d
structure Md(K:PySem.W.Frag)(C:Addr)(n q:Str)(st:Stmt)(f:Addr)(d:FuncData):Prop where
 a:PySem.W.findIn K (.ref C) n=some (some (.ref f))
 i:PySem.W.isFn K (.ref f)=true
 F:aI K n q st f d
structure iJ(K:PySem.W.Frag)(n:Str)(C:Addr):Prop where
 a:PySem.W.nsIn K mainGlobals n=some (some (.ref C))
 pg:PySem.W.plainGet K C Str.empty=true
 hd:PySem.W.hasDictIn K C=true
 po:PySem.W.plainOver K C=true
 sa:PySem.W.findIn K (.ref C) "__setattr__"=some (some (.builtin "object.__setattr__"))
 ms:PySem.W.makesIn K C=true
 kc:PySem.W.keepIn K (.ref C)=true
section
variable {K:PySem.W.Frag}{h:Heap}{mg:Str->Option Value}{x:Str}
def mo{v:Value}(X:K.In h)(G:h.Ns mainGlobals mg)(a:PySem.W.nsIn K mainGlobals x=some (some v)):mg x=some v:=PySem.W.mg_of X G a
def mn(X:K.In h)(G:h.Ns mainGlobals mg)(a:NsN K x):mg x=none:=PySem.W.mg_none_of X G a
variable {P:Program}{w:World}{base:Heap}{C f:Addr}{st:Stmt}{d:FuncData}{ps:List Str}{k:Nat}{sp:Sp}{q:Str}
def iJ.cl(c:iJ K x C):eV K C:=⟨c.pg,c.hd,c.po,c.sa⟩
def mk1(X:K.In h)(G:h.Ns mainGlobals mg)(e:De K x st f d)(ok:az P w K mg base aL k f d ps sp)(b:Binds K d ps []):aW P w K mg base x ps k sp:=⟨f,d,ok,mo X G e.a,e.F.kp,b⟩
def mkx(X:K.In h)(G:h.Ns mainGlobals mg)(e:De K x st f d)(ok:az P w K mg base (bV P w) k f d ps sp)(b:Binds K d ps []):qZ P w K mg base x ps k sp:=⟨f,d,ok,mo X G e.a,e.F.kp,b⟩
def mkm{n:Str}(c:iJ K n C)(e:Md K C x q st f d)(ok:az P w K mg base aL k f d ps sp)(b:Binds K d ps []):cy P w K mg base C x ps k sp:=⟨f,d,ok,c.cl,⟨e.a,e.i,e.F.kp⟩,b⟩
def aem{n:Str}(c:iJ K n C)(e:Md K C x q st f d)(ok:az P w K mg base (bV P w) k f d ps sp)(b:Binds K d ps []):b3 P w K mg base C x ps k sp:=⟨f,d,ok,c.cl,⟨e.a,e.i,e.F.kp⟩,b⟩
def C8(X:K.In h)(G:h.Ns mainGlobals mg)(c:iJ K x C)(e:Md K C "__init__" q st f d)(ok:az P w K mg base aL k f d ps sp)(b:Binds K d ps []):mf P w K mg base C x ps k sp:=⟨f,d,ok,⟨c.ms,e.a,e.i,c.kc⟩,mo X G c.a,b⟩
def aen(X:K.In h)(G:h.Ns mainGlobals mg)(c:iJ K x C)(e:Md K C "__init__" q st f d)(ok:az P w K mg base (bV P w) k f d ps sp)(b:Binds K d ps []):Ob P w K mg base C x ps k sp:=⟨f,d,ok,⟨c.ms,e.a,e.i,c.kc⟩,mo X G c.a,b⟩
variable {p1 p2 p3 p4 p5 p6 p7 p8:Str}
def dP(F:aI K x q st f d)(h:∀(kV doc pm:Value) (an:Option Addr) (au ct u1:Value),bindArgs (PySem.W.fnOf x q (kB st) (fE st) (aF st) .none kV doc pm an au ct) ⟨[u1],[]⟩=pure [(p1,u1)]:=by intros;rfl):Binds K d [p1] []:=F.binds λkV doc pm an au ct us hl=>by
 obtain⟨u1,rfl⟩:=OW hl;exact h kV doc pm an au ct u1
def dB(F:aI K x q st f d)(h:∀(kV doc pm:Value) (an:Option Addr) (au ct u1 u2:Value),bindArgs (PySem.W.fnOf x q (kB st) (fE st) (aF st) .none kV doc pm an au ct) ⟨[u1,u2],[]⟩=pure [(p1,u1),(p2,u2)]:=by intros;rfl):Binds K d [p1,p2] []:=F.binds λkV doc pm an au ct us hl=>by
 obtain⟨u1,u2,rfl⟩:=Dc hl;exact h kV doc pm an au ct u1 u2
def dY(F:aI K x q st f d)(h:∀(kV doc pm:Value) (an:Option Addr) (au ct u1 u2 u3:Value),bindArgs (PySem.W.fnOf x q (kB st) (fE st) (aF st) .none kV doc pm an au ct) ⟨[u1,u2,u3],[]⟩=pure [(p1,u1),(p2,u2),(p3,u3)]:=by intros;rfl):Binds K d [p1,p2,p3] []:=F.binds λkV doc pm an au ct us hl=>by
 obtain⟨u1,u2,u3,rfl⟩:=OX hl;exact h kV doc pm an au ct u1 u2 u3
def lD(F:aI K x q st f d)(h:∀(kV doc pm:Value) (an:Option Addr) (au ct u1 u2 u3 u4:Value),bindArgs (PySem.W.fnOf x q (kB st) (fE st) (aF st) .none kV doc pm an au ct) ⟨[u1,u2,u3,u4],[]⟩=pure [(p1,u1),(p2,u2),(p3,u3),(p4,u4)]:=by intros;rfl):Binds K d [p1,p2,p3,p4] []:=F.binds λkV doc pm an au ct us hl=>by
 obtain⟨u1,u2,u3,u4,rfl⟩:=OY hl;exact h kV doc pm an au ct u1 u2 u3 u4
def bd5(F:aI K x q st f d)(h:∀(kV doc pm:Value) (an:Option Addr) (au ct u1 u2 u3 u4 u5:Value),bindArgs (PySem.W.fnOf x q (kB st) (fE st) (aF st) .none kV doc pm an au ct) ⟨[u1,u2,u3,u4,u5],[]⟩=pure [(p1,u1),(p2,u2),(p3,u3),(p4,u4),(p5,u5)]:=by intros;rfl):Binds K d [p1,p2,p3,p4,p5] []:=F.binds λkV doc pm an au ct us hl=>by
 obtain⟨u1,u2,u3,u4,u5,rfl⟩:=us5 hl;exact h kV doc pm an au ct u1 u2 u3 u4 u5
end
def all_mk{l:PySem.W.OpenLaw}{w:World}{K:PySem.W.Frag}{h:Heap}{mg:Str->Option Value}{fa f1 f2 f3 f4 f5 f6 f7 f8 f9 f10 f11 f12 f13 f14 f15 f16 f17 f18 f19 f20 f21 f22 f23 f24 f25 f26 f27 f28 f29 f30 f31 f32 f33 f34 f35 f36 f37 f38 f39 f40 f41 f42 f43 f44 f45 xC f47 f48 f49 f50 f51 f52 f53 f54 f55 xF f57 f58 f59 f60 f61 f62 f63 f64 f65 f66 f67 f68 f69 f70 f71 f72 f73 f74 f75 f76 f77 f78 f79 iP gA cP jQ sF sH oO tF sj sI rS lE:Addr}(X:K.In h)(G:h.Ns mainGlobals mg)(hfa:mg "law"=some (.ref fa))
  {d1 d2 d3 d4 d5 d6 d7 d8 d9 d10 d11 d12 d13 d14 d15 d16 d17 d18 d19 d20 d21 d22 d23 d24 d25 d26 d27 d28 d29 d30 d31 d32 d33 d34 d35 d36 d37 d38 d39 d40 d41 d42 d43 d44 d45 d46 d47 d48 d49 d50 d51 d52 d53 d54 d55 d56 d57 d58 d59 d60 d61 d62 d63 d64 d65 d66 d67 d68 d69 d70 d71 d72 d73 d74 d75 d76 d77 d78 d79:FuncData}{aeo aep aeq adj aer:Tok}{Vk Vl:Option Addr}{Vm Vn:Str}{Vo Tz:List Value}{zJ:Addr}{Vp Vq:Bool}{Vr:List Str}{TH:Option Bool}{XR XS XT XU XW:Option Value}{Vs:Value}{IV:Array DictEntry}{Vt:Nat}{Vu:Array (Option Value)}{odB dBn:Option Addr}{nmB qnB:Str}{bsB subB aes:List Value}{Et:Addr}{hdB abB aet:Bool}{snB:List Str}{aeu:Option Bool}{cBn ocB:Value}{QA:Array DictEntry}{nBn:Nat}{slB aev:Array (Option Value)}{Vv Vw:Option Addr}{Vx Vy:Str}{Vz TK:List Value}{zK:Addr}{VA VB:Bool}{VC:List Str}{TL:Option Bool}{XX XY XZ X0 X1:Option Value}{VD:Value}{IY:Array DictEntry}{VE:Nat}{VF:Array (Option Value)}{VG VH:Option Addr}{VI VJ:Str}{VL TN:List Value}{zL:Addr}{VM VN:Bool}{VO:List Str}{TQ:Option Bool}{X2 X3 X4 X5 X6:Option Value}{VP:Value}{IZ:Array DictEntry}{VQ:Nat}{VR:Array (Option Value)}{aaR aaS:Option Addr}{aaT aaU:Str}{aaV X7:List Value}{AV:Addr}{aaW aaX:Bool}{aaY:List Str}{X8:Option Bool}{aci acj ack acm acn:Option Value}{aaZ:Value}{LN:Array DictEntry}{aa0:Nat}{aa1:Array (Option Value)}{TV TX:Option Addr}{TY TZ:Str}{T1 SD:List Value}{zt:Addr}{T3 T4:Bool}{T5:List Str}{SF:Option Bool}{VS VT VU VW VX:Option Value}{T6:Value}{Hn:Array DictEntry}{T7:Nat}{T8:Array (Option Value)}{VY VZ:Option Addr}{V1 V6:Str}{V7 T9:List Value}{zM:Addr}{V8 Wa:Bool}{Wb:List Str}{Ua:Option Bool}{X9 Ya Yb Yc Yd:Option Value}{Wc:Value}{Ja:Array DictEntry}{Wd:Nat}{We:Array (Option Value)}{RS RT:Option Addr}{RU RV:Str}{RX Rr:List Value}{yZ:Addr}{RY RZ:Bool}{R0:List Str}{Rt:Option Bool}{SG SI SJ SK SN:Option Value}{R1:Value}{Gv:Array DictEntry}{R3:Nat}{R4:Array (Option Value)}{aew:Tok}{aex aey aez:Tok}
  (cGroups:iJ K "Groups" iP)(cFold:iJ K "Fold" gA)(cSurvey:iJ K "Survey" cP)(cChart:iJ K "Chart" jQ)(aNoKind:NsI K "NoKind" sF)(aNoMark:NsI K "NoMark" sH)(aBarred:NsI K "Barred" oO)(aFull:NsI K "Full" tF)(aNoEntry:NsI K "NoEntry" sj)(aNoHold:NsI K "NoHold" sI)(aNoChamber:NsI K "NoChamber" rS)(aCaveError:NsI K "CaveError" lE)(v1:De K "_law_numbers" F8 f1 d1)(v2:De K "_law_way" Hk f2 d2)(v3:De K "_law_turn" GI f3 d3)(v4:De K "_law_entered" yw f4 d4)(v5:De K "_law_entry" yU f5 d5)(v6:De K "_law_detour" yJ f6 d6)(v7:De K "_law_book" zd f7 d7)(v8:De K "_law_rows" ze f8 d8)(v9:De K "_law_joined" Gi f9 d9)(v10:De K "_law_folded" Gj f10 d10)(v11:De K "_law_ranked" yK f11 d11)(uj:De K "_law_led" zr f12 d12)(Eu:De K "_law_round" yV f13 d13)(Ew:De K "_law_chart" yW f14 d14)(Ex:De K "_law_asked" jK f15 d15)(Ey:De K "_law_is_way" Gk f16 d16)(Ez:De K "_law_cut" Hm f17 d17)(EA:De K "_law_trace" yX f18 d18)(EB:De K "_law_order" yY f19 d19)(v20:De K "_law_in_order" ym f20 d20)(EC:De K "_law_same_table" ye f21 d21)(ED:De K "_law_ways_right" yd f22 d22)(EF:De K "check_shape" yC f23 d23)(EG:De K "beginnings" yR f24 d24)(EH:De K "cancelled" GG f25 d25)(EI:De K "turned" J8 f26 d26)(EJ:De K "letters_in_order" xZ f27 d27)(EK:De K "ways_from" zc f28 d28)(EL:De K "is_used" zI f29 d29)(v30:De K "loose_passages" yh f30 d30)(EM:De K "home_row" zq f31 d31)(EN:De K "homes" AR f32 d32)(EO:De K "renumbered" yS f33 d33)(ER:De K "numbered" zo f34 d34)(ES:De K "chart_of" zp f35 d35)(ET:De K "chambers_of" yI f36 d36)(EU:De K "near_mark" GH f37 d37)(EV:De K "far_mark" Hh f38 d38)(EW:De K "folded" J9 f39 d39)(EY:De K "trail" LJ f40 d40)(rK:De K "check_letters" uN f41 d41)(EZ:De K "rows_of" zH f42 d42)(E1:De K "broken_oath" yH f43 d43)(E2:Md K iP "__init__" "Groups.__init__" FN f44 d44)(E3:Md K iP "together" "Groups.together" FP f45 d45)(E4:Md K iP "unite" "Groups.unite" FZ xC d46)(E5:Md K gA "__init__" "Fold.__init__" FT f47 d47)(xU:Md K gA "lay" "Fold.lay" Hi f48 d48)(E6:Md K gA "put" "Fold.put" Hj f49 d49)(E7:Md K gA "settle" "Fold.settle" Gh f50 d50)(E8:Md K gA "merge" "Fold.merge" Gu f51 d51)(E9:Md K cP "__init__" "Survey.__init__" yb f52 d52)(Fb:Md K cP "chalk" "Survey.chalk" yn f53 d53)(Fc:Md K cP "row" "Survey.row" yT f54 d54)(Fd:Md K cP "apart" "Survey.apart" yo f55 d55)(Fe:Md K cP "marks" "Survey.marks" yp xF d56)(Ff:Md K cP "entries" "Survey.entries" yg f57 d57)(Fg:Md K cP "same" "Survey.same" yF f58 d58)(Fh:Md K cP "paper" "Survey.paper" yq f59 d59)(Fi:Md K cP "must_paper" "Survey.must_paper" xX f60 d60)(Fj:Md K cP "enter" "Survey.enter" yu f61 d61)(Fl:Md K cP "laid" "Survey.laid" yG f62 d62)(Fm:Md K cP "check_marks" "Survey.check_marks" xW f63 d63)(Fn:Md K cP "check_room" "Survey.check_room" xY f64 d64)(Fo:Md K cP "strike" "Survey.strike" yj f65 d65)(Fp:Md K cP "hold" "Survey.hold" yD f66 d66)(Fq:Md K cP "back" "Survey.back" yE f67 d67)(Fs:Md K cP "labels" "Survey.labels" yk f68 d68)(Ft:Md K cP "chambers" "Survey.chambers" yc f69 d69)(Fu:Md K cP "piece" "Survey.piece" yr f70 d70)(Fv:Md K cP "never_paper" "Survey.never_paper" xV f71 d71)(Fw:Md K cP "judge" "Survey.judge" yt f72 d72)(Fx:Md K jQ "__init__" "Chart.__init__" yf f73 d73)(Fy:Md K jQ "size" "Chart.size" yP f74 d74)(Fz:Md K jQ "table" "Chart.table" yA f75 d75)(rL:Md K jQ "check_chamber" "Chart.check_chamber" uK f76 d76)(FC:Md K jQ "step" "Chart.step" yQ f77 d77)(FD:Md K jQ "trace" "Chart.trace" yB f78 d78)(FE:De K "law" kK f79 d79)(Ru:NoAttr K iP "least")(SO:NoAttr K iP "lay")(R5:NoAttr K gA "groups")(SQ:NoAttr K gA "doors")(Rv:NoAttr K gA "waiting")(SR:NoAttr K gA "steps")(Rw:NoAttr K cP "kinds")(R6:NoAttr K cP "many")(QT:NoAttr K cP "standing")(Rg:NoAttr K cP "coming")(R7:NoAttr K cP "held")(R8:NoAttr K jQ "kinds")(Rx:NoAttr K jQ "onward")(Ry:NoAttr K jQ "inward")(z1:NsN K "len")(z2:NsN K "range")(z3:NsN K "list")(z4:NsN K "int")(z5:NsN K "bool")(z6:NsN K "isinstance")(z7:NsN K "tuple")(z8:NsN K "abs")(z9:NsN K "enumerate")(z10:NsN K "str")(adk:NsN K "min")(adl:NsN K "max")(adn:NsN K "sum")(QB:PySem.W.nsIn K mainGlobals "MOST_KINDS"=some (some (.int 5 aeo)))(yMM:PySem.W.nsIn K mainGlobals "MOST_MARKS"=some (some (.int 24 aep)))(yME:PySem.W.nsIn K mainGlobals "MOST_ENTRIES"=some (some (.int 40 aeq)))(aeA:PySem.W.nsIn K mainGlobals "ROW"=some (some (.str "row" adj)))(yAP:PySem.W.nsIn K mainGlobals "APART"=some (some (.str "apart" aer)))(e7:PySem.W.specialIn K (.builtin "object.__class__") "__get__"=some (some (.builtin "getset_descriptor.__get__")))(e8:PySem.W.takesIn K (.builtin "object.__class__")=some true)(Ye:K.lookup sF=some ⟨.type "type",Vk,.cls ⟨Vm,Vo,.ref sF::.ref lE::fX,zJ,Vn,Vp,Vr,Tz,Vq,TH,false⟩, #[XR,XS,XT,XU,some (.builtin "ValueError.__new__"),XW]⟩)(Wf:K.lookup zJ=some ⟨Vs,Vl,.dict IV Vt,Vu⟩)(Yf:IV.toList.all lL=true)(Yg:PySem.W.nsIn K zJ "__init__"=some none)(lB:K.lookup lE=some ⟨ocB,odB,.cls ⟨nmB,bsB,aes,Et,qnB,hdB,snB,subB,abB,aeu,aet⟩,aev⟩)(pW:K.lookup Et=some ⟨cBn,dBn,.dict QA nBn,slB⟩)(hB:QA.toList.all lL=true)(iB:PySem.W.nsIn K Et "__init__"=some none)(Yh:K.lookup sH=some ⟨.type "type",Vv,.cls ⟨Vx,Vz,.ref sH::.ref lE::fX,zK,Vy,VA,VC,TK,VB,TL,false⟩, #[XX,XY,XZ,X0,some (.builtin "ValueError.__new__"),X1]⟩)(Wg:K.lookup zK=some ⟨VD,Vw,.dict IY VE,VF⟩)(Yi:IY.toList.all lL=true)(Yj:PySem.W.nsIn K zK "__init__"=some none)(Yk:K.lookup oO=some ⟨.type "type",VG,.cls ⟨VI,VL,.ref oO::.ref lE::fX,zL,VJ,VM,VO,TN,VN,TQ,false⟩, #[X2,X3,X4,X5,some (.builtin "ValueError.__new__"),X6]⟩)(Wh:K.lookup zL=some ⟨VP,VH,.dict IZ VQ,VR⟩)(Yl:IZ.toList.all lL=true)(Ym:PySem.W.nsIn K zL "__init__"=some none)(aco:K.lookup tF=some ⟨.type "type",aaR,.cls ⟨aaT,aaV,.ref tF::.ref lE::fX,AV,aaU,aaW,aaY,X7,aaX,X8,false⟩, #[aci,acj,ack,acm,some (.builtin "ValueError.__new__"),acn]⟩)(aa2:K.lookup AV=some ⟨aaZ,aaS,.dict LN aa0,aa1⟩)(acp:LN.toList.all lL=true)(acq:PySem.W.nsIn K AV "__init__"=some none)(Wi:K.lookup sj=some ⟨.type "type",TV,.cls ⟨TY,T1,.ref sj::.ref lE::fX,zt,TZ,T3,T5,SD,T4,SF,false⟩, #[VS,VT,VU,VW,some (.builtin "ValueError.__new__"),VX]⟩)(Ub:K.lookup zt=some ⟨T6,TX,.dict Hn T7,T8⟩)(Wj:Hn.toList.all lL=true)(Wk:PySem.W.nsIn K zt "__init__"=some none)(Yn:K.lookup sI=some ⟨.type "type",VY,.cls ⟨V1,V7,.ref sI::.ref lE::fX,zM,V6,V8,Wb,T9,Wa,Ua,false⟩, #[X9,Ya,Yb,Yc,some (.builtin "ValueError.__new__"),Yd]⟩)(Wl:K.lookup zM=some ⟨Wc,VZ,.dict Ja Wd,We⟩)(Yo:Ja.toList.all lL=true)(Yp:PySem.W.nsIn K zM "__init__"=some none)(SS:K.lookup rS=some ⟨.type "type",RS,.cls ⟨RU,RX,.ref rS::.ref lE::fX,yZ,RV,RY,R0,Rr,RZ,Rt,false⟩, #[SG,SI,SJ,SK,some (.builtin "ValueError.__new__"),SN]⟩)(R9:K.lookup yZ=some ⟨R1,RT,.dict Gv R3,R4⟩)(SU:Gv.toList.all lL=true)(SW:PySem.W.nsIn K yZ "__init__"=some none)(exsBarred:PySem.W.exmOne K (.ref oO) (.ref oO)=some true)(yMC:PySem.W.nsIn K mainGlobals "MOST_CHAMBERS"=some (some (.int 700 aew)))(yMU:PySem.W.nsIn K mainGlobals "MUST"=some (some (.str "must" aex)))(yNV:PySem.W.nsIn K mainGlobals "NEVER"=some (some (.str "never" aey)))(yOP:PySem.W.nsIn K mainGlobals "OPEN"=some (some (.str "open" aez)))
  :∃fd:FuncData,(∀(s:Shared) (v:Value),BindsTo s fd ⟨[v],[]⟩ [("_law_script",v)])/\∀base:Heap,K.In base->base.Ns mainGlobals mg->az l.prog w K mg base aL 14 fa fd ["_law_script"] (vV K):=by
 have e:=hfa.symm.trans (mo X G FE.a);cases e;have T:Txt K mg:=⟨mn X G z1,mn X G z2,mn X G z3,mn X G z4,mn X G z5,mn X G z6,mn X G z7,mn X G z8,mn X G z9,mn X G z10⟩;have Yq:=cGroups.cl;have aa3:=cGroups.a;have acr:=cFold.cl;have ado:=cFold.a;have Yr:=cSurvey.cl;have aeD:=cSurvey.a;have aa4:=cChart.cl;have aeE:=cChart.a;have TM:qH mg:=⟨mn X G adk,mn X G adl⟩;have TG:nF K mg iP:=⟨Yq,Ru,mo X G aa3⟩;have TF:o8 K mg gA:=⟨acr,R5,SQ,Rv,SR,mo X G ado⟩
 have eZ:gA≠iP:=λe=>by
  have z:=xU.a;rw[e,show PySem.W.findIn K (.ref iP) "lay"=some none from SO]at z;cases z
 have TS:eP K mg cP:=⟨Yr,Rw,R6,QT,Rg,R7,⟨_,mo X G QB⟩,⟨_,mo X G yMM⟩,⟨_,mo X G yME⟩,⟨_,mo X G aeA⟩,⟨_,mo X G yAP⟩⟩
 let CS:Nat->Addr:=λj=>([sF,0,sH,sj,sI,rS,0,0,0,oO,tF]:List Addr).getD j 0
 have V0:eM K sF=true:=oK Ye (hU Wf Yf) Yg lB (hU pW hB) iB;have V2:eM K sH=true:=oK Yh (hU Wg Yi) Yj lB (hU pW hB) iB;have V9:eM K oO=true:=oK Yk (hU Wh Yl) Ym lB (hU pW hB) iB;have QC:eM K tF=true:=oK aco (hU aa2 acp) acq lB (hU pW hB) iB;have V3:eM K sj=true:=oK Wi (hU Ub Wj) Wk lB (hU pW hB) iB;have V4:eM K sI=true:=oK Yn (hU Wl Yo) Yp lB (hU pW hB) iB;have V5:eM K rS=true:=oK SS (hU R9 SU) SW lB (hU pW hB) iB;have TC:lT K mg jQ:=⟨aa4,R8,Rx,Ry,⟨_,mo X G QB⟩,⟨_,mo X G yMC⟩,mn X G adn⟩;have TJ:Od mg:=⟨⟨_,mo X G yMU⟩,⟨_,mo X G yNV⟩,⟨_,mo X G yOP⟩⟩;obtain⟨x1,x2,x3,x4,x5,x6,x7,x8,x9,e,_⟩:=FE.F.ex;subst e;refine⟨PySem.W.fnOf "law" "law" (kB kK) (fE kK) (aF kK) .none x3 x4 x5 x6 x7 x8,λs v=>.of_eq rfl,λbase _ _=>?_⟩;have m1:∀{x:Str}{ps:List Str}{k:Nat}{sp:Sp}{f:Addr}{st:Stmt}{d:FuncData},De K x st f d->az l.prog w K mg base aL k f d ps sp->Binds K d ps []->aW l.prog w K mg base x ps k sp:=λe o b=>mk1 X G e o b;have m2:∀{x:Str}{ps:List Str}{k:Nat}{sp:Sp}{f:Addr}{st:Stmt}{d:FuncData},De K x st f d->az l.prog w K mg base (bV l.prog w) k f d ps sp->Binds K d ps []->qZ l.prog w K mg base x ps k sp:=λe o b=>mkx X G e o b;have m3:∀{n x q:Str}{C:Addr}{ps:List Str}{k:Nat}{sp:Sp}{f:Addr}{st:Stmt}{d:FuncData},iJ K n C->Md K C x q st f d->az l.prog w K mg base aL k f d ps sp->Binds K d ps []->cy l.prog w K mg base C x ps k sp:=λc e o b=>mkm c e o b;have m4:∀{n x q:Str}{C:Addr}{ps:List Str}{k:Nat}{sp:Sp}{f:Addr}{st:Stmt}{d:FuncData},iJ K n C->Md K C x q st f d->az l.prog w K mg base (bV l.prog w) k f d ps sp->Binds K d ps []->b3 l.prog w K mg base C x ps k sp:=λc e o b=>aem c e o b;have m5:∀{x q:Str}{C:Addr}{ps:List Str}{k:Nat}{sp:Sp}{f:Addr}{st:Stmt}{d:FuncData},iJ K x C->Md K C "__init__" q st f d->az l.prog w K mg base aL k f d ps sp->Binds K d ps []->mf l.prog w K mg base C x ps k sp:=λc e o b=>C8 X G c e o b;have m6:∀{x q:Str}{C:Addr}{ps:List Str}{k:Nat}{sp:Sp}{f:Addr}{st:Stmt}{d:FuncData},iJ K x C->Md K C "__init__" q st f d->az l.prog w K mg base (bV l.prog w) k f d ps sp->Binds K d ps []->Ob l.prog w K mg base C x ps k sp:=λc e o b=>aen X G c e o b
 let Rh:=m1 v1 (abU v1.F T) (dB v1.F)
 let Uc:=m1 v2 (abV v2.F) (dB v2.F)
 let GK:=m1 v3 (aay v3.F) (dP v3.F)
 let Gw:=m1 v5 (Xz v5.F) (dY v5.F)
 let SX:=m1 v8 (XE v8.F) (dP v8.F)
 let Rz:=m1 v9 (ade v9.F TM) (dY v9.F)
 let RA:=m1 v10 (XF v10.F T Rz) (dY v10.F)
 let RB:=m1 v11 (Vd v11.F) (dP v11.F)
 let zu:=m1 uj (ab6 uj.F T) (dY uj.F)
 let Sa:=m1 Eu (XG Eu.F T zu) (lD Eu.F)
 let Gx:=m1 Ew (Ve Ew.F T TM RA RB) (dY Ew.F)
 let Sb:=m1 Ex (Tx Ex.F T Uc GK Gx Sa) (lD Ex.F)
 let RC:=m1 Ey (ac8 Ey.F T) (dP Ey.F)
 let Ho:=m1 Ez (abX Ez.F T) (dP Ez.F)
 let Sd:=m1 EA (ab7 EA.F zu) (dY EA.F)
 let Se:=m1 EB (XH EB.F T zu) (dY EB.F)
 let Q7:=m1 v20 (ab8 v20.F T) (dB v20.F)
 let QN:=m1 EC (XI EC.F T) (dB EC.F)
 let QO:=m1 ED (adf ED.F T RC Ho) (dP ED.F)
 let RD:=m1 EF (XJ EF.F T TC) (dB EF.F)
 let Sf:=m1 EG (ab9 EG.F T) (dP EG.F)
 let SY:=m1 EH (aca EH.F) (dP EH.F)
 let Ys:=m1 EI (Vf EI.F) (dP EI.F)
 let QK:=m1 EJ (ace EJ.F T TC) (dP EJ.F)
 let Wm:=m1 EL (aaM EL.F) (lD EL.F)
 let Ud:=m1 EM (aaN EM.F Ys) (dB EM.F)
 let RF:=m1 ET (aaQ ET.F T) (dP ET.F)
 let GL:=m1 EU (aaz EU.F) (dB EU.F)
 let Ue:=m1 EV (abZ EV.F GL) (dB EV.F)
 let aa5:=m1 EY (Xp EY.F T) (dY EY.F)
 let FX:=m1 rK (acd rK.F T) (dB rK.F)
 let u0:=m1 EZ (U7 EZ.F TS) (dP EZ.F)
 let Gm:=m1 E1 (ab4 E1.F TS) (dB E1.F)
 let QP:=m3 cGroups E3 (ab1 E3.F TG) (dY E3.F)
 let Gb:=m3 cGroups E4 (ab0 E4.F TM TG) (dY E4.F)
 let Hr:=m3 (sp:=sZ gA iP) cFold E6 (ab2 E6.F TF) (lD E6.F)
 let Sg:=m3 (sp:=As gA iP) cFold E8 (Xn E8.F T TM TF TG Gb Hr) (dY E8.F)
 let Yt:=m5 cSurvey E9 (Xy E9.F TS) (dB E9.F)
 let Ri:=m4 cSurvey Fb (U8 Fb.F (mo X G aFull) QC TS) (dP Fb.F)
 let aeB:=m3 cSurvey Fe (Xx Fe.F TS) (dP Fe.F)
 let QU:=m3 cSurvey Ff (Ts Ff.F T TS) (dP Ff.F)
 let Ge:=m3 cSurvey Fj (Xs Fj.F TS) (dB Fj.F)
 let uL:=m4 cSurvey Fm (aaC Fm.F (mo X G aNoMark) V2 TS) (dY Fm.F)
 let FI:=m4 cSurvey Fn (aaD Fn.F (mo X G aFull) QC T TS) (dP Fn.F)
 let FY:=m4 cSurvey Fo (Tu Fo.F (mo X G aNoEntry) V3 T TS) (dB Fo.F)
 let RG:=m3 cSurvey Fp (aaF Fp.F T TS) (dP Fp.F)
 let RH:=m4 cSurvey Fq (XA Fq.F (mo X G aNoHold) V4 T TS) (dB Fq.F)
 let LO:=m5 cChart Fx (aaH Fx.F T TC RD Sf) (dY Fx.F)
 let y4:=m3 cChart Fy (aaI Fy.F T TC) (dP Fy.F)
 let yO:=m3 cChart Fz (aaJ Fz.F T TC y4) (dP Fz.F)
 let FH:=m3 cChart rL (acb rL.F y4) (dB rL.F)
 let Gy:=m3 cChart FC (aaK FC.F TC FH FX) (dY FC.F)
 let RI:=m3 cChart FD (XN FD.F FH TC FX Gy SY) (dY FD.F)
 let QQ:=m2 rK (aaB rK.F (mo X G aNoKind) V0 T) (dB rK.F)
 let QE:=m4 cChart rL (aaP rL.F (mo X G aNoChamber) V5 y4) (dB rL.F)
 let GN:=m1 EK (aaL EK.F T QK Gy) (dB EK.F)
 let QV:=m1 v30 (XO v30.F T yO Wm) (dB v30.F)
 let aa6:=m1 EN (XQ EN.F GN QV Ud) (dP EN.F)
 let Sh:=m1 EO (acf EO.F T TC yO LO) (dB EO.F)
 let Ug:=m2 ER (aaO ER.F T QE GN Sh) (dB ER.F)
 let Uh:=m1 ES (Tw ES.F T TM LO) (dY ES.F)
 let Yu:=m5 cGroups E2 (Xm E2.F T TG Gb) (dY E2.F)
 let acs:=m5 cFold E5 (Xo E5.F T TF Yu) (dY E5.F)
 let Ui:=m3 (sp:=By gA iP) cFold xU (ab3 xU.F TF TG GL Hr) (dB xU.F)
 let RJ:=m3 (sp:=zW gA iP) cFold E7 (U5 E7.F TF TG Ue QP Sg) (dP E7.F)
 let Gn:=m4 cSurvey Fl (Xt Fl.F TS uL QQ aa5 u0) (lD Fl.F)
 let vj:=m1 EW ((U6 EW.F T TF TG eZ acs Ui RJ).imp λ_ _ _ _=>W5) (dY EW.F)
 let Si:=m4 cSurvey Fc (Xw Fc.F (mo X G aNoKind) V0 (mo X G aBarred) V9 TS uL FI vj u0 Gm Ge) (lD Fc.F)
 let FJ:=m4 cSurvey Fi (Xu Fi.F T TS Gn vj) (lD Fi.F)
 let Q8:=m3 cSurvey Fs (Vg Fs.F TS vj u0) (dP Fs.F)
 let QR:=m3 cSurvey Ft (SA Ft.F Q8 RF) (dP Ft.F)
 let Rj:=m4 cSurvey Fu (Vh Fu.F TS uL QR u0 Uh Ug) (dB Fu.F)
 let QG:=m4 cSurvey Fv (Vi Fv.F T TS Gn vj Gm) (lD Fv.F)
 let Rk:=m4 cSurvey Fw (Vj Fw.F TJ FJ QG) (lD Fw.F)
 let Rl:=m4 cSurvey Fh (aaE Fh.F FJ) (dY Fh.F)
 let RL:=m4 cSurvey Fg (Xv Fg.F Rl) (dY Fg.F)
 let Rm:=m4 cSurvey Fd (ab5 Fd.F (mo X G aBarred) V9 TS uL FI RL Ge) (dY Fd.F)
 let Gf:=m1 v4 (Tt v4.F (mo X G aBarred) exsBarred Si Rm) (dB v4.F)
 let RM:=m1 v6 (Vb v6.F Gw Gf FY RG RH) (lD v6.F)
 let S0:=m1 v7 (XD v7.F T Ri Gw Gf RM FY) (bd5 v7.F)
 exact ach FE.F T Rh Yt S0 SX Sb Ho GK Gx Sd Rk Rj RI Q7 Se QN yO aa6 QO QU
def walk{l:PySem.W.OpenLaw}{q:Program}{loose:List Str}{XP:(Str->Option Value)->Heap->Prop}{YP:World->Heap->Prop}{d:DefRec}{K:Params->PySem.W.Frag}(hn:l.most=some 63)(tV:d.params.defaults=[])
  (hY:∀(w:World) (h:Heap),YP w h->(K w.params).In h)
  (F:∀(w:World) (mg:Str->Option Value) (fa:Addr) (h:Heap),(K w.params).In h->h.Ns mainGlobals mg->mg d.name=some (.ref fa)->
   ∃fd:FuncData,(∀(s:Shared) (u:Value),BindsTo s fd ⟨[u],[]⟩ [("_law_script",u)])/\∀base:Heap,(K w.params).In base->base.Ns mainGlobals mg->az l.prog w (K w.params) mg base aL 14 fa fd ["_law_script"] (vV (K w.params))):
  PySem.W.WalkO q loose XP YP l.row.toRowW d [] (λf vs=>PySem.call f vs):=
 L2.YE (n:=63) (k:=14) (x:="_law_script") (CX:=λ_=>aL) (sp:=λw=>vV (K w.params)) hn (by decide) tV ⟨rfl,by decide,by decide⟩ hY F (λ_ _ a ns hl _ hS=>⟨a,ns,rfl,hS,hl,λ_=>rfl⟩) λ_ _ _ _ _ z=>z
end My
namespace PySem.W.Fast
def tw6647912993400089543:=()
def tw15274590770791938219:=()
def tw12444016277727056293:=()
def tw17585535277535285888:=()
def tw8138199364878377011:=()
def tw18394413370506352887:=()
def tw16014734226229660288:=()
def tw17746931065870481378:=()
def tw742151764996976354:=()
def tw3848213400649052671:=()
def tw9868922083668321521:=()
def tw7482954037848911833:=()
def tw10363910684523362276:=()
def tw10164206357103220075:=()
def tw1518046337587281753:=()
def tw7898303510727124475:=()
def tw8501613855316598105:=()
def tw8219345895797380433:=()
def tw17633657844794040079:=()
def tw15263011654892693141:=()
def tw7706554826963642225:=()
def tw8165388010474612238:=()
def tw6265615201468697493:=()
def tw12330341251575357996:=()
def tw11109086616648204130:=()
def tw7209836958882802313:=()
def tw16708524295583319070:=()
def tw516670194383104516:=()
def tw11011250457777376549:=()
def tw8612547235628149211:=()
def tw278327471886535904:=()
def tw9416551393967002304:=()
def tw17052949784640233235:=()
def tw17371376508854017440:=()
def tw16038920273228339973:=()
def tw11028754717207655006:=()
def tw17247456574236105850:=()
def tw1299229998909672185:=()
def tw11386383157750515376:=()
def tw8459466527153846031:=()
def tw14682113990439997684:=()
def tw2255139043225326450:=()
def tw17849356570868373467:=()
def tw3020393254840658650:=()
def tw10475429771023582227:=()
def tw3165387935356986987:=()
def tw11164166192882366924:=()
def tw12281980604461279547:=()
def tw2556979576822710809:=()
def tw10554762246518827755:=()
def tw16716651121542068570:=()
def tw9154810309538972427:=()
def tw5470712184836395481:=()
def tw9783531269509165377:=()
def tw13077018284831291303:=()
def tw11891555724844544767:=()
def tw13392896436959017191:=()
def tw4625293282175573388:=()
def tw17070116475689925854:=()
def tw3012920994807684176:=()
def tw17635689710538173670:=()
def tw7831239744920269938:=()
def tw16505710749236391443:=()
def tw5463658132630002019:=()
def tw6795608313362762502:=()
def tw7166100935885081063:=()
def tw12283881835918329030:=()
def tw1164484276576376507:=()
def tw3887835326053978231:=()
def tw16323580031471938205:=()
def tw14774747304928864604:=()
def tw7851461844667796412:=()
def tw3283673327307218980:=()
def tw8567323755642372056:=()
def tw5486831420084936920:=()
def tw8425646651277694527:=()
def tw5694839092957628659:=()
def tw6082375335392285906:=()
def tw15872981153083675250:=()
def tw2798918036491744383:=()
def tw8974090636047928812:=()
def tw8773475373477887165:=()
def tw1624614288638649639:=()
def tw11902897489289323137:=()
def tw11673552697090662765:=()
def tw1366663064649773541:=()
def tw10260555971493204771:=()
def tw11694095566604166621:=()
def tw2729713596105277584:=()
def tw12334522356498931881:=()
def tw16365055765621115000:=()
def tw18086079990020424763:=()
def tw5397620278107943354:=()
def tw6432858712870156512:=()
def tw5096535756159743847:=()
def tw7463534811309210320:=()
def tw7418874974942161168:=()
def tw16345708224504366556:=()
def tw8335489440594809482:=()
def tw17020683330598057855:=()
def tw10593217692617181425:=()
def tw16492167886235331422:=()
def tw242726395148964891:=()
def tw7962014970071004669:=()
def tw4600380023724519893:=()
def tw6251654789421247099:=()
def tw9044074136189399402:=()
def tw12942655431986141135:=()
def tw3378895258095683554:=()
def tw17014368576990361335:=()
def tw16571515931494153450:=()
def tw8606397106669232957:=()
def tw7148646724825000496:=()
def tw15584747478935671394:=()
def tw6266689912139396723:=()
def tw4015569957738123940:=()
def tw1020480779966387107:=()
def tw17237324939163653902:=()
def tw3948271439534893306:=()
def tw2511070188499784551:=()
def tw1869394244351104552:=()
def tw17565455867898409545:=()
def tw16109926708941288117:=()
def tw16431343556867031870:=()
def tw15798777041750647336:=()
def tw6504600314526870397:=()
def tw838984914450236953:=()
def tw17209801077818303355:=()
def tw18108496488773762698:=()
def tw17124196524947985544:=()
def tw5799609223726452953:=()
def tw7228301164839128413:=()
def tw7007161153924165721:=()
def tw17055208060641989633:=()
def tw2109193533851461327:=()
def tw1622833551308626891:=()
def tw7686687857590788760:=()
def tw13434259754331575654:=()
def tw7523754822030303304:=()
def tw11305081012884847250:=()
def tw12988807911951544150:=()
def tw4104755096700129034:=()
def tw8164103726202141104:=()
def tw9148213245983697343:=()
def tw1662772793897150658:=()
def tw5545381425611756076:=()
def tw7010845832857257234:=()
def tw209438448278466491:=()
def tw1132031012080054541:=()
def tw1992016014593634550:=()
def tw14819474897347404579:=()
def tw10771468502841669961:=()
def tw10166819820830994502:=()
def tw8876168397382075204:=()
def tw4130508579273091254:=()
def tw6431567389692160011:=()
def tw8027924683139659592:=()
def tw12791404240312287188:=()
def tw15164891576055228845:=()
def tw10195162429765826850:=()
def tw12119790201494740350:=()
def tw16066547243228425612:=()
def tw16743853951955299429:=()
def tw10842671164279268690:=()
def tw5811139469021230530:=()
def tw18242756302802048155:=()
def tw14493647820202065062:=()
def tw8742219322026207349:=()
def tw13831888216715833831:=()
def tw910989452011256682:=()
def tw5998552522385661738:=()
def tw1667313774945365939:=()
def tw7236040194877626855:=()
def tw14799652087788415769:=()
def tw17699365182102488951:=()
def tw17617002122522059484:=()
def tw3076995929183438100:=()
def tw15609931904586317304:=()
def tw2426795910050275643:=()
def tw13535701901137619277:=()
def tw536690779926198966:=()
def tw15974091018325821594:=()
def tw367194378196499174:=()
def tw26479463344454983:=()
def tw689648902009523113:=()
def tw1324269724753540843:=()
def tw4629976002386405472:=()
def tw6270871882855032569:=()
def tw17103967964378412303:=()
def tw12910655352375227825:=()
def tw7823161870139257896:=()
def tw10337297845054708417:=()
def tw11263635630197703250:=()
def tw5095329171590858162:=()
def tw1611107038439742589:=()
def tw11505264120134780897:=()
def tw1138010934771298167:=()
def tw6821454919840540872:=()
def tw2842688015742182468:=()
def tw18412793150202064084:=()
def tw2078908800677865188:=()
def tw3949659238333510616:=()
def tw14035327520373828038:=()
def tw11265863742433005319:=()
def tw12454525203820600251:=()
def tw11331036296205094348:=()
def tw8095055501028137840:=()
def tw17005130600892864309:=()
def tw5337812055588511370:=()
def tw11039415928065529:=()
def tw9299288809327140727:=()
def tw10466707397659965310:=()
def tw8143288218701456696:=()
def tw6754780279583607305:=()
def tw2730781960327122973:=()
def tw4600197776702982584:=()
def tw17818434938890758885:=()
def tw1247029798123297945:=()
def tw16399986575824065899:=()
def tw2514803155465845099:=()
def tw3064576318794826854:=()
def tw1445073125461713039:=()
def tw9438926886907153121:=()
def tw328403084999149670:=()
def tw18150287080063602596:=()
def tw5347846524806316689:=()
def tw8360524025376645026:=()
def tw5143561611810960173:=()
def tw7240920311831349572:=()
def tw12058250545846283453:=()
def tw10136441308667010933:=()
def tw9066260789137693098:=()
def tw13294130667533505984:=()
def tw1819740695568847735:=()
def tw8297003489032681553:=()
def tw11110487074724392446:=()
def tw11988905576382057170:=()
def tw834299896700921024:=()
def tw8854031134303081883:=()
def tw14092915101177332452:=()
def tw14394580644184335957:=()
def tw820437753351769940:=()
def tw10679816983713122518:=()
def tw7061340841895619366:=()
def tw7213940520630417147:=()
def tw17555279594698259186:=()
def tw13051269588166940499:=()
def tw2066261718760565433:=()
def tw16052413279426656434:=()
def tw1009157718678940443:=()
def tw2501711312134134308:=()
def tw5016799771757718796:=()
def tw8863612625934951877:=()
def tw15212123852565096772:=()
def tw1063180216712564821:=()
def tw9629043579569355148:=()
def tw14672418136432988336:=()
def tw2939123568306309399:=()
def tw14680011131251713246:=()
def tw6806906624692505430:=()
def tw14096728206493656095:=()
def tw12357582521995368945:=()
def tw18203614913905759348:=()
def tw5101858809665547726:=()
def tw12509113726576170236:=()
def tw6185552939312538058:=()
def tw15511096714380503081:=()
def tw8143903331847245636:=()
def tw17215286460098796792:=()
def tw14107485092446859569:=()
def tw10494487083012144576:=()
def tw7358372739953917193:=()
def tw5908632296532126602:=()
def tw12644813240534739274:=()
def tw14771111638909276521:=()
def tw18359789624328904411:=()
def tw5244794379679859081:=()
def tw9996144931075074528:=()
def tw17946013666726655269:=()
def tw4100613743329564101:=()
def tw16922159547470068696:=()
def tw17831408009711309725:=()
def tw15928782553815402000:=()
def tw13282493783552963393:=()
def tw4321083956329623371:=()
def tw7306533290791415877:=()
def tw4908841786735460979:=()
def tw15469851449736571505:=()
def tw13655245184023203590:=()
def tw8983358527381075377:=()
def tw4242513090528664684:=()
def tw18297185652741009048:=()
def tw17748893950408411238:=()
def tw15979798020229133395:=()
def tw10147732594300589771:=()
def tw15111457595349196881:=()
def tw13060131918560897508:=()
def tw428664190399439729:=()
def tw10354952361943689812:=()
def tw2378921325641729507:=()
def tw15394055433523044503:=()
def tw7564685920923235125:=()
def tw10494364489119575504:=()
def tw12699769221807331419:=()
def tw15139365564994687457:=()
def tw2915786883634555318:=()
def tw9152137626896247168:=()
def tw16455914459950848911:=()
def tw11276104994338147135:=()
def tw18060038900590375289:=()
def tw7228780381571279402:=()
def tw1068333481482263749:=()
def tw11837559886185799583:=()
def tw6987695794381469466:=()
def tw11402921311029776687:=()
def tw16104577611678666508:=()
def tw13700963312354476170:=()
def tw1651646928061851764:=()
def tw1959733199349772590:=()
def tw16610546901196911536:=()
def tw7123716670162767889:=()
def tw14746295582359768875:=()
def tw15670826652787145189:=()
def tw3122134408636468774:=()
def tw4162525186183593628:=()
def tw17760730748393180723:=()
def tw13373249457223736518:=()
def tw14619994117672241487:=()
def tw11895169612550515856:=()
def tw10433637777139036683:=()
def tw14177926887269941068:=()
def tw2176143048672069217:=()
def tw13423833718544975317:=()
def tw11264840026896775941:=()
def tw10866190852225211938:=()
def tw5372698279285991548:=()
def tw18094242210077720153:=()
def tw5123452259250381019:=()
def tw4508497020970439052:=()
def tw608049299752443819:=()
def tw6860138647015093633:=()
def tw17658253509442996153:=()
def tw4376259942599273145:=()
def tw17136948236438050279:=()
def tw16375525516905717027:=()
def tw838610041588808253:=()
def tw14390893577927210731:=()
def tw10734900197231141417:=()
def tw15621888340873372662:=()
def tw4064420012085531319:=()
def tw127214910139604417:=()
def tw14222911083313762496:=()
def tw14797335162523850717:=()
def tw16898355429677477299:=()
def tw14962462387548335628:=()
def tw8236844458867412509:=()
def tw8936438284059351782:=()
def tw11094552697437846464:=()
def tw17784294675498131843:=()
def tw16095215811346139936:=()
def tw18169478526609335901:=()
def tw8222483335049711535:=()
def tw5782644412587498660:=()
def tw15393969226738764263:=()
def tw15009122074766040157:=()
def tw15523444908359601657:=()
def tw10270457318606813226:=()
def tw9273041164872528173:=()
def tw9020957602474317682:=()
def tw2892381594884177354:=()
def tw10879656753751268062:=()
def tw13364680238008499065:=()
def tw10873336604476440385:=()
def tw10781338231022022091:=()
def tw5504783478956901551:=()
def tw17860407018453326133:=()
def tw3716674162044930000:=()
def tw12456087744726047956:=()
def tw16641219757233232245:=()
def tw188174931083798088:=()
def tw10062555694602179252:=()
def tw5108842018476709752:=()
def tw13815510761829831032:=()
def tw17749344961813631755:=()
def tw17784994807010359561:=()
def tw6305248318636170748:=()
def tw8901725703908013118:=()
def tw7467628952403362991:=()
def tw15174855814009234069:=()
def tw4601463910189871000:=()
def tw5118115925490094345:=()
def tw757143428303528967:=()
def tw3910147303320196110:=()
def tw9201169375155247206:=()
def tw1924673293487959284:=()
def tw2735199304608438954:=()
def tw307578664569241714:=()
def tw17541281414873887623:=()
def tw12264871945982946611:=()
def tw8092071192568439815:=()
def tw13023053053800093895:=()
def tw7857603828692673148:=()
def tw323821455001825659:=()
def tw14498668190506913312:=()
def tw17766329016482978895:=()
def tw143884504581781730:=()
def tw10153213972086694155:=()
def tw8859616065602461543:=()
def tw1574468774777628217:=()
def tw8861653502525488346:=()
def tw12949531709994156339:=()
def tw12965881352759586493:=()
def tw2128329532705960935:=()
def tw12352817488588146673:=()
def tw4105304888173595699:=()
def tw9886935976456510006:=()
def tw13017468580009893159:=()
def tw9754687518926244733:=()
def tw12442441512546738347:=()
def tw5523854655328955440:=()
def tw10890878671819855543:=()
def tw12215794079452716527:=()
def tw15900452784466861219:=()
def tw14040935618169959872:=()
def tw8550264094388956708:=()
def tw4883835472952754470:=()
def tw8552748706471906125:=()
def tw12161491441577311259:=()
def tw17603195716562357420:=()
def tw14369763320731096612:=()
def tw7154174196566052268:=()
def tw16260290230213513955:=()
def tw10550061029940768918:=()
def tw15361054296866489900:=()
def tw9455440342361906442:=()
def tw9963756919781782754:=()
def tw11748537513460821716:=()
def tw17177247377480295606:=()
def tw15583714926713967256:=()
def tw11514562580166374823:=()
def tw17948464699256794642:=()
def tw1708382655350620443:=()
def tw13737426774901760871:=()
def tw6763693409220274193:=()
def tw6735769906348391684:=()
def tw9481951704207949567:=()
def tw18091122818783076880:=()
def tw13832110014095785956:=()
def tw15319757841210942091:=()
def tw6919507940091158440:=()
def tw3214731764825975669:=()
def tw12599990331623447042:=()
def tw5256152577298848669:=()
def tw17100568027502193466:=()
def tw18137575970984869412:=()
def tw9566848235482455817:=()
def tw7936942306651867581:=()
def tw736379946393986661:=()
def tw5344277063179364344:=()
def tw13904927476532741424:=()
def tw2809075396986599884:=()
def tw8066178736693087014:=()
def tw574347281730668258:=()
def tw10547505766545879357:=()
def tw10341182151543943533:=()
def tw16218456798483092748:=()
def tw14070603225888239357:=()
def tw11272741613090567128:=()
def tw8608844014626106587:=()
def tw4394157934231313497:=()
def tw6267277398047896099:=()
def tw11397523976204008300:=()
def tw1889245294894090078:=()
def tw5547481712534003764:=()
def tw15878152326352320638:=()
def tw3191150225334788334:=()
def tw7877891595351462813:=()
def tw4652855636407415066:=()
def tw14416096546313684852:=()
def tw3383361441613251002:=()
def tw2606101600672134819:=()
def tw14489137266444425129:=()
def tw9592625964092168377:=()
def tw12507566585113516833:=()
def tw17439442584724441814:=()
def tw15198245671515649242:=()
def tw17950681944916224756:=()
def tw7190835403924269459:=()
def tw3826474818249656367:=()
def tw7856997913823801443:=()
def tw13006665134962413367:=()
def tw16222078116420965030:=()
def tw14160216762026833545:=()
def tw1116906358017056306:=()
def tw14622301145754691796:=()
def tw6480343452054307046:=()
def tw2065846598887396072:=()
def tw15662217200053777317:=()
def tw2501574960613373966:=()
def tw3002978321905418658:=()
end PySem.W.Fast
def PySem.W.Fast.tw14798594921374990561:PySem.Program:=PySem.Challenge.pw_chalkcave_k48_whole_home_is_must
def PySem.W.Fast.te14798594921374990561:PySem.Challenge.pw_chalkcave_k48_whole_home_is_must=PySem.W.Fast.tw14798594921374990561:=rfl
open PySem PySem.W PyProof.Rows
set_option maxRecDepth 100000 in
set_option maxHeartbeats 0 in
theorem PySem.Challenge.cw_chalkcave_k48_whole_home_is_must_holds : PySem.Challenge.rw_chalkcave_k48_whole_home_is_must.Holds := by
 w_on;o_law;k_head;(case hw=>w_witness2)
 k_fill
 refine My.walk (l:=PySem.Challenge.rw_chalkcave_k48_whole_home_is_must) rfl rfl (fun w h Y=>PySem.W.kIn_of Y) ?F
 case F=>
  intro w mg fa h KX G hmg
  refine' My.all_mk KX G hmg ?cGroups ?cFold ?cSurvey ?cChart ?aNoKind ?aNoMark ?aBarred ?aFull ?aNoEntry ?aNoHold ?aNoChamber ?aCaveError ?_ ?_ ?_ ?_ ?_ ?_ ?_ ?_ ?_ ?_ ?_ ?_ ?_ ?_ ?_ ?_ ?_ ?_ ?_ ?_ ?_ ?_ ?_ ?_ ?_ ?_ ?_ ?_ ?_ ?_ ?_ ?_ ?_ ?_ ?_ ?_ ?_ ?_ ?_ ?_ ?_ ?_ ?_ ?_ ?_ ?_ ?_ ?_ ?_ ?_ ?_ ?_ ?_ ?_ ?_ ?_ ?_ ?_ ?_ ?_ ?_ ?_ ?_ ?_ ?_ ?_ ?_ ?_ ?_ ?_ ?_ ?_ ?_ ?_ ?_ ?_ ?_ ?_ ?_ ?_ ?_ ?_ ?_ ?_ ?_ ?_ ?_ ?_ ?_ ?_ ?_ ?_ ?_ ?_ ?_ ?_ ?_ ?_ ?_ ?_ ?_ ?_ ?_ ?_ ?_ ?_ ?_ ?_ ?_ ?_ ?_ ?_ ?_ ?_ ?_ ?_ ?_ ?_ ?_ ?_ ?_ ?_ ?_ ?_ ?_ ?_ ?_ ?_ ?_ ?_ ?_ ?_ ?_ ?_ ?_ ?_ ?_ ?_ ?_ ?_ ?_ ?_ ?_ ?_ ?_ ?exsBarred ?_ ?_ ?_ ?_
  (case cGroups=>constructor <;> k_is)
  (case cFold=>constructor <;> k_is)
  (case cSurvey=>constructor <;> k_is)
  (case cChart=>constructor <;> k_is)
  (case aNoKind=>unfold My.NsI;k_is)
  (case aNoMark=>unfold My.NsI;k_is)
  (case aBarred=>unfold My.NsI;k_is)
  (case aFull=>unfold My.NsI;k_is)
  (case aNoEntry=>unfold My.NsI;k_is)
  (case aNoHold=>unfold My.NsI;k_is)
  (case aNoChamber=>unfold My.NsI;k_is)
  (case aCaveError=>unfold My.NsI;k_is)
  (case exsBarred=>kts_exm)
  all_goals first | (apply My.De.mk;k_is;apply L2.fun_mk;k_is;k_is;k_is) | (apply My.Md.mk;k_is;k_is;apply L2.fun_mk;k_is;k_is;k_is) | k_is | (unfold My.NsN;k_is) | (unfold L2.NoAttr;k_is) | rfl | skip
