import PyProof.Rows.All
import Wide.All
import OpenK.AllK
import Wide.FinOn
import Lean
import PyProof.EqAt
import PyProof.EqKinds
import PyProof.TupleCall
import Wide.Seal
import PyProof.EnumMake
import PyProof.EnumStmt
import PyProof.EnumFor
import PyProof.StrWalks
import PyProof.StrCalls
import PyProof.DictCompW
import PyProof.ListRange
import PyProof.CompUse
import KE.KDictList
import PyProof.ExcArgsOwn
import KE.KIsAll
import KE.KTryDeepN
import OpenK.KOwn
import KE.KTryMore
import PyProof.NsDelKeeps
import PyProof.SliceStr2
import KE.RegKIsAll
import KE.RegKTryMore
import PyProof.Rows.SumAny
import PyProof.AssignAttr
import PyProof.IsRules
import PyProof.Rows.SortWalk
import KE.KRevIter
import PyProof.FactsAll.range_2
import PyProof.Rows.StrSplitJoin
import PyProof.Rows.StrItems
import PyProof.StrLawsTight
import PyProof.FString
import PyProof.Conv_int
import PyProof.WalkLemmas
import PySem.Challenge.RW_chalkcave_k54_whole_cores_tell_homes
set_option Elab.async false
set_option linter.all false
set_option maxRecDepth 100000
section
open PySem PySem.Spec PyProof.Rows
def Y0:=@List.length_map
def Y1:=@List.mem_singleton
def Y2:=@Nat.le_refl
def Y3:=@List.mem_cons_of_mem
def Y4:=@List.mem_cons
def Y5:=@List.mem_of_getElem?
def Y6:=@List.mem_append
def Y7:=@Heap.get?_push_of_some
def Y8:=@List.mem_cons_self
def Y9:=@Int.toNat_natCast
def Za:=@List.mem_append_right
def Zb:=@List.mem_append_left
def Zc:=@List.getElem?_eq_getElem
def Zd:=@List.map_append
def Ze:=@List.getElem?_map
def Zf:=@Option.some.inj
def Zg:=@List.mem_map
def Zh:=@Heap.lt_size
def Zi:=@List.take_succ_eq_append_getElem
def Zj:=@Bool.false_ne_true
def Zk:=@List.size_toArray
def Zl:=@PassesOwn.never
def Zm:=@Nat.ne_of_lt
def Zn:=@List.length_append
def Zo:=@Nat.zero_le
def Zp:=@Heap.get?_push_size
def Zq:=@List.map_cons
def Zr:=@List.getElem?_append_left
def Zt:=@List.getElem?_append_right
def Zu:=@False.elim
def Zv:=@Nat.lt_of_lt_of_le
def Zw:=@Int.toNat_of_nonneg
def Zx:=@List.length_take
def Zy:=@Int.emod_lt_of_pos
def Zz:=@Int.emod_nonneg
def ZA:=@List.getElem_mem
def ZC:=@List.all_eq_true
def ZD:=@List.getElem_of_mem
def ZE:=@List.take_of_length_le
def ZF:=@List.length_cons
def ZG:=@List.nodup_cons
def ZH:=@beq_eq_false_iff_ne
def ZI:=@List.getElem?_eq_none
def ZJ:=@List.length_drop
def ZK:=@List.map_map
def ZL:=@List.getElem?_eq_some_iff
def ZM:=@PySem.mem_of_lookup
def ZN:=@decide_eq_true
def ZO:=@decide_eq_false
def ZP:=@Nat.lt_of_le_of_lt
def ZQ:=@Nat.le_trans
def ZR:=@List.length_replicate
def ZS:=@List.getElem?_replicate
def ZT:=@List.mem_filter
def ZU:=@List.mem_range
def ZV:=@wpAny_pure
def ZW:=@Nat.lt_succ_of_lt
def ZX:=@List.nil_append
def ZY:=@List.append_nil
def ZZ:=@List.append_assoc
def Z0:=@List.idxOf_lt_length_of_mem
def Z1:=@List.map_congr_left
def Z2:=@Nat.le_of_lt
def Z3:=@Nat.lt_irrefl
def Z4:=@List.length_range
end
namespace L2
open PySem PySem.Spec PyProof.Rows
abbrev Key:=Sum Int (Option Str)
def mQ:Key->Value->Bool
 |.inl k,v=>Value.isInt k v
 |.inr (some x),v=>Value.isStrOf x v
 |.inr none,.none=>true
 |.inr none,_=>false
def ado(w:World):Key->Int
 |.inl k=>hashInt k
 |.inr (some x)=>hashStr w x
 |.inr none=>reduceHash 0xFCA86420
def iV:∀{k:Key}{v:Value},mQ k v=true->(∃i t,k=Sum.inl i/\v=Value.int i t)\/(∃x t,k=Sum.inr (some x)/\v=Value.str x t)\/(k=Sum.inr none/\v=Value.none)
 |.inl i,v,h=>by
  obtain⟨t,e⟩:=Value.isInt_shape (k:=i) (v:=v) h;exact .inl ⟨i,t,rfl,e⟩
 |.inr none,v,h=>by
  cases v<;>first|exact .inr (.inr ⟨rfl,rfl⟩)|exact absurd h (by simp[mQ])
 |.inr (some x),v,h=>by
  obtain⟨t,e⟩:=Value.isStrOf_shape (x:=x) (v:=v) h;exact .inr (.inl ⟨x,t,rfl,e⟩)
def Ur(i:Int)(t:Tok):mQ (.inl i) (.int i t)=true:=by simp[mQ,Value.isInt]
def Us(x:Str)(t:Tok):mQ (.inr (some x)) (.str x t)=true:=by simp[mQ,Value.isStrOf]
def aa0(a b:Int):decide ((Sum.inl a:Key)=Sum.inl b)=(a==b):=by
 by_cases e:a=b
 ·subst e;simp
 ·have h:¬(Sum.inl a:Key)=Sum.inl b:=λq=>e (Sum.inl.inj q);rw[ZO h];exact(ZH.mpr e).symm
def aa1(a b:Str):decide ((Sum.inr (some a):Key)=Sum.inr (some b))=decide (a=b):=by
 by_cases e:a=b
 ·subst e;simp
 ·have h:¬(Sum.inr (some a):Key)=Sum.inr (some b):=λq=>e (Zf (Sum.inr.inj q));rw[ZO h,ZO e]
def L1(a:Int)(b:Option Str):decide ((Sum.inl a:Key)=Sum.inr b)=false:=ZO (λq=>nomatch q)
def L4(a:Option Str)(b:Int):decide ((Sum.inr a:Key)=Sum.inl b)=false:=ZO (λq=>nomatch q)
def aa2(a:Str):decide ((Sum.inr (some a):Key)=Sum.inr none)=false:=ZO (λq=>nomatch q)
def aa3(a:Str):decide ((Sum.inr none:Key)=Sum.inr (some a))=false:=ZO (λq=>nomatch q)
def Wk{prog:Program}{w:World}{A:Around}{E:Value->Shared->Prop}{s:Shared}{Q:Int->Shared->Prop}(h:Q (reduceHash 0xFCA86420) {s with toks:=s.toks+1}):wpAny (model prog w) A (PySem.pyHash .none) Q E s:=
 PySem.W.pyHash_slot (T:="NoneType") rfl F.slot_NoneType_hash F.entry_NoneType_hash (F.args_NoneType_hash_1 _) (beq_builtin_none _) (.inl rfl) (wpAny_bind (ZV (wpAny_bind (wpAny_mkInt (ZV ⟨_,_,rfl,h⟩)))))
def aa4{prog:Program}{w:World}{A:Around}{E:Value->Shared->Prop}{s:Shared}{Q:Bool->Shared->Prop}(h:Q true s):wpAny (model prog w) A (PySem.eqBool .none .none) Q E s:=by
 unfold PySem.eqBool;refine wpAny_holding ?_;exact wpAny_ite_split (λ_=>wpAny_bind (wpAny_rule (ZV h))) (λz=>absurd rfl z)
def cJ(prog:Program)(w:World):PySem.KeyKind prog w Key where
 is:=mQ
 hash:=ado w
 inj:=λv a b ha hb=>by
  rcases iV ha with⟨i,t,rfl,rfl⟩|⟨x,t,rfl,rfl⟩|⟨rfl,rfl⟩
  ·rcases iV hb with⟨j,u,rfl,e⟩|⟨y,u,rfl,e⟩|⟨rfl,e⟩
   ·injection e with e1 _;rw[e1]
   ·exact nomatch e
   ·exact nomatch e
  ·rcases iV hb with⟨j,u,rfl,e⟩|⟨y,u,rfl,e⟩|⟨rfl,e⟩
   ·exact nomatch e
   ·injection e with e1 _;rw[e1]
   ·exact nomatch e
  ·rcases iV hb with⟨j,u,rfl,e⟩|⟨y,u,rfl,e⟩|⟨rfl,e⟩
   ·exact nomatch e
   ·exact nomatch e
   ·rfl
 byValue:=λk v h=>by
  rcases iV h with⟨i,t,rfl,rfl⟩|⟨x,t,rfl,rfl⟩|⟨rfl,rfl⟩<;>rfl
 pyHash:=λhv h=>by
  rcases iV hv with⟨i,t,rfl,rfl⟩|⟨x,t,rfl,rfl⟩|⟨rfl,rfl⟩
  ·exact wpAny_pyHash_int h
  ·exact wpAny_pyHash_str h
  ·exact Wk h
 eqBool:=λhu hv h=>by
  rcases iV hu with⟨i,t,rfl,rfl⟩|⟨x,t,rfl,rfl⟩|⟨rfl,rfl⟩
  ·rcases iV hv with⟨j,u,rfl,rfl⟩|⟨y,u,rfl,rfl⟩|⟨rfl,rfl⟩
   ·rw[aa0]at h;exact wpAny_eqBool_int h
   ·rw[L1]at h;exact SeqAt.EqAt.int_str i t y u _ _ _ _ h
   ·rw[L1]at h;exact SeqAt.EqAt.int_none i t _ _ _ _ h
  ·rcases iV hv with⟨j,u,rfl,rfl⟩|⟨y,u,rfl,rfl⟩|⟨rfl,rfl⟩
   ·rw[L4]at h;exact SeqAt.EqAt.str_int x t j u _ _ _ _ h
   ·rw[aa1]at h;exact wpAny_eqBool_str h
   ·rw[aa2]at h;exact SeqAt.EqAt.str_none x t _ _ _ _ h
  ·rcases iV hv with⟨j,u,rfl,rfl⟩|⟨y,u,rfl,rfl⟩|⟨rfl,rfl⟩
   ·rw[L4]at h;exact SeqAt.EqAt.none_int j u _ _ _ _ h
   ·rw[aa3]at h;exact SeqAt.EqAt.none_str y u _ _ _ _ h
   ·rw[ZN rfl]at h;exact aa4 h
 «strs»:=λk x t v h=>by
  rcases iV h with⟨i,u,rfl,e⟩|⟨y,u,rfl,e⟩|⟨rfl,e⟩
  ·exact nomatch e
  ·injection e with e1 _
   subst e1;cases v<;>rfl
  ·exact nomatch e
def SG(prog:Program)(w:World)(i:Int)(t:Tok):(cJ prog w).is (.inl i) (.int i t)=true:=Ur i t
def SI(prog:Program)(w:World)(x:Str)(t:Tok):(cJ prog w).is (.inr (some x)) (.str x t)=true:=Us x t
inductive V where
 |aI|bl(b:Bool)|int(i:Int)|str(x:Str)|gZ(b:Array UInt8)|oY(b:UInt64)|ref(a:Addr)|ty(n:String)
 deriving DecidableEq
def RelV:V->Value->Prop
 |.aI,u=>u=Value.none
 |.bl b,u=>u=Value.bool b
 |.int i,u=>∃t,u=Value.int i t
 |.str x,u=>∃t,u=Value.str x t
 |.gZ b,u=>∃t,u=Value.bytes b t
 |.oY b,u=>∃t,u=Value.float b t
 |.ref a,u=>u=Value.ref a
 |.ty n,u=>u=Value.type n
abbrev Vals:List V->List Value->Prop:=Paired RelV
def Vals.length{xs:List V}{us:List Value}(r:Vals xs us):xs.length=us.length:=Paired.length r
def Vals.get:∀{xs:List V}{us:List Value}{i:Nat}{x:V},Vals xs us->xs[i]?=some x->∃u,us[i]?=some u/\RelV x u
 |_,_,_,_,.nil,e=>by simp at e
 |_,_,0,_,.cons r _,e=>by simp at e;subst e;exact⟨_,rfl,r⟩
 |_,_,i+1,x,.cons _ t,e=>by
  obtain⟨u,h1,h2⟩:=Vals.get (i:=i) (x:=x) t (by simpa using e);exact⟨u,by simpa using h1,h2⟩
def Vals.set{x:V}{u:Value}(r:RelV x u):∀{xs:List V}{us:List Value} (i:Nat),Vals xs us->Vals (xs.set i x) (us.set i u)
 |_,_,_,.nil=>.nil
 |_,_,0,.cons _ t=>.cons r t
 |_,_,i+1,.cons q t=>.cons q (Vals.set r i t)
def Vals.append:∀{xs ys:List V}{us ws:List Value},Vals xs us->Vals ys ws->Vals (xs++ys) (us++ws)
 |_,_,_,_,.nil,s=>s
 |_,_,_,_,.cons r t,s=>.cons r (Vals.append t s)
def Vals.take:∀{xs:List V}{us:List Value} (n:Nat),Vals xs us->Vals (xs.take n) (us.take n)
 |_,_,0,_=>.nil
 |_,_,_+1,.nil=>.nil
 |_,_,n+1,.cons r t=>.cons r (Vals.take n t)
def Vals.drop:∀{xs:List V}{us:List Value} (n:Nat),Vals xs us->Vals (xs.drop n) (us.drop n)
 |_,_,0,r=>r
 |_,_,_+1,.nil=>.nil
 |_,_,n+1,.cons _ t=>Vals.drop n t
def eY:Option V->Option Value->Prop
 |some v,some u=>RelV v u
 |none,none=>True
 |_,_=>False
def KV{κ:Type}:List (κ×V)->List (κ×Value)->Prop:=Paired λ(p:κ×V) (q:κ×Value)=>p.1=q.1/\RelV p.2 q.2
def kV:Key->V
 |.inl i=>.int i
 |.inr (some x)=>.str x
 |.inr none=>.aI
inductive HO where
 |lst(xs:List V)
 |tup(xs:List V)
 |dK(kvs:List (Key×V))|dT(kvs:List (List Key×V))
 |set(S:Int->Bool)(n:Nat)
 |ins(C dx:Addr)(fs:List (Str×V))
 |own(x:Addr)
 |xd(fs:List (Str×V))
 |met(f x:Addr)
 |bA(lo hi:Int)
 |cS(o:Obj)(u:HO)
 |nj(ps:Array Value)
 |ext(φ:Heap->Prop)
abbrev Hp:=Addr->Option HO
def upd(H:Hp)(a:Addr)(o:HO):Hp:=λb=>if b=a then some o else H b
def aj{H:Hp}{a:Addr}{o:HO}:upd H a o a=some o:=by unfold upd;rw[if_pos rfl]
def ah{H:Hp}{a b:Addr}{o:HO}(h:b≠a):upd H a o b=H b:=by unfold upd;rw[if_neg h]
def oj{H:Hp}{a:Addr}{o u:HO}:upd (upd H a o) a u=upd H a u:=by
 funext b;unfold upd;split<;>rfl
def Nc{H:Hp}{a b:Addr}{o u:HO}(h:H a=some o)(h':H b=some u)(d:o≠u):a≠b:=by
 intro e;subst e;rw[h]at h';exact d (Zf h')
def bj{H:Hp}{a b:Addr}{o:HO}(h:H a=some o)(h':H b=none):a≠b:=by
 intro e;subst e;rw[h]at h';cases h'
section
variable (P:Program) (w:World)
def bN(H:Hp)(h:Heap)(a:Addr):HO->Prop
 |.lst xs=>xs.length<=sizeLine/\∃(ai:List Value) (n:Nat),Vals xs ai/\h.get? a=some {cls:=.type "list",data:=.seq ai.toArray n}
 |.tup xs=>xs.length<=sizeLine/\∃ai:List Value,Vals xs ai/\IsTup h a ai.toArray
 |.dK kvs=>kvs.length<=sizeLine/\(a==sysModules)=false/\∃vs,KV kvs vs/\h.DictOf (cJ P w) a vs
 |.dT kvs=>kvs.length<=sizeLine/\(a==sysModules)=false/\∃xs:List (List Key×Addr×Value),
  Paired (λ(p:List Key×V) (q:List Key×Addr×Value)=>p.1=q.1/\H q.2.1=some (.tup (p.1.map kV))/\RelV p.2 q.2.2) kvs xs/\
  ∃o es ep,h.get? a=some o/\o.ExactDict/\o.data=.dict es ep/\es.toList=xs.map (entryOfKey (tupleKind (cJ P w)))/\(xs.map (·.1)).Nodup
 |.set S n=>h.SetOf (intKind P w) a S n
 |.ins C dx fs=>H dx=some (.own a)/\fs.length<=1000/\dx≠a/\h.get? a=some (PySem.W.instObj C dx)/\
  ∃mA,h.Ns1 dx mA/\(∀f,eY (fs.lookup f) (mA f))/\PySem.Within mA (fs.map (·.1))
 |.own _=>∃o,h.get? a=some o
 |.xd fs=>∃mA,h.Ns1 a mA/\∀f,eY (fs.lookup f) (mA f)
 |.bA lo hi=>∃t u v,h.get? a=some {cls:=.type "range",data:=.fields #[.int lo t,.int hi u,.int 1 v]}
 |.cS o u=>h.get? a=some o/\bN H h a u
 |.nj ps=>h.get? a=some {cls:=.none,data:=.fields ps}
 |.met f x=>h.get? a=some (PySem.W.methodObj (.ref f) (.ref x))
 |.ext φ=>φ h/\(∃o,h.get? a=some o)/\∀h1 h2:Heap,φ h1->(∀o,h1.get? a=some o->h2.get? a=some o)->φ h2
def bG(H:Hp)(h:Heap):Prop:=∀a o,H a=some o->bN P w H h a o
end
section
variable {P:Program}{w:World}{H H':Hp}{h h':Heap}{a:Addr}{o:HO}
def bN.lt(x:bN P w H h a o):a<h.objs.size:=by
 cases o with
 |lst xs=>obtain⟨_,_,_,_,e⟩:=x;exact Zh e
 |tup xs=>obtain⟨_,_,_,p⟩:=x;exact p.lt
 |dK kvs=>obtain⟨_,_,_,_,o,_,_,e,_⟩:=x;exact Zh e
 |dT kvs=>obtain⟨_,_,_,_,o,_,_,e,_⟩:=x;exact Zh e
 |set S n=>obtain⟨o,_,_,_,e,_⟩:=x;exact Zh e
 |ins C dx fs=>obtain⟨_,_,_,e,_⟩:=x;exact Zh e
 |own y=>obtain⟨_,e⟩:=x;exact Zh e
 |xd fs=>obtain⟨_,⟨_,_,_,e,_⟩,_⟩:=x;exact Zh e
 |bA lo hi=>obtain⟨_,_,_,e⟩:=x;exact Zh e
 |cS ob u=>obtain⟨e,_⟩:=x;exact Zh e
 |nj ps=>exact Zh (show h.get? a=some _ from x)
 |met f y=>exact Zh (show h.get? a=some _ from x)
 |ext φ=>obtain⟨_,⟨_,e⟩,_⟩:=x;exact Zh e
def Paired.BP{α β:Type}{F G:α->β->Prop}:∀{l₁:List α}{l₂:List β},Paired F l₁ l₂->(∀a b,F a b->G a b)->Paired G l₁ l₂
 |_,_,.nil,_=>.nil
 |_,_,.cons r t,f=>.cons (f _ _ r) (Paired.BP t f)
def bN.k7(x:bN P w H h a o)(k:∀b u,(b=a\/H b=some (.own a))->h.get? b=some u->h'.get? b=some u)
  (ho:∀b,H b=some (.own a)->H' b=some (.own a))(ht:∀b xs,H b=some (.tup xs)->H' b=some (.tup xs)):bN P w H' h' a o:=by
 induction o with
 |lst xs=>obtain⟨z,ai,n,r,e⟩:=x;exact⟨z,ai,n,r,k _ _ (.inl rfl) e⟩
 |tup xs=>obtain⟨z,ai,r,ob,e,c⟩:=x;exact⟨z,ai,r,ob,k _ _ (.inl rfl) e,c⟩
 |dK kvs=>obtain⟨z,y,vs,r,ob,es,ep,e,c⟩:=x;exact⟨z,y,vs,r,ob,es,ep,k _ _ (.inl rfl) e,c⟩
 |dT kvs=>
  obtain⟨z,y,xs,r,ob,es,ep,e,c⟩:=x;exact⟨z,y,xs,Paired.BP r λp q z=>⟨z.1,ht _ _ z.2.1,z.2.2⟩,ob,es,ep,k _ _ (.inl rfl) e,c⟩
 |set S n=>obtain⟨ob,es,ep,t,e,c⟩:=x;exact⟨ob,es,ep,t,k _ _ (.inl rfl) e,c⟩
 |ins C dx fs=>
  obtain⟨d,z,ne,e,mA,⟨od,es,ep,e2,c⟩,r⟩:=x;exact⟨ho _ d,z,ne,k _ _ (.inl rfl) e,mA,⟨od,es,ep,k _ _ (.inr d) e2,c⟩,r⟩
 |own y=>obtain⟨ob,e⟩:=x;exact⟨ob,k _ _ (.inl rfl) e⟩
 |xd fs=>obtain⟨mA,⟨od,es,ep,e,c⟩,r⟩:=x;exact⟨mA,⟨od,es,ep,k _ _ (.inl rfl) e,c⟩,r⟩
 |bA lo hi=>obtain⟨t,u,v,e⟩:=x;exact⟨t,u,v,k _ _ (.inl rfl) e⟩
 |cS ob u ih=>obtain⟨e,q⟩:=x;exact⟨k _ _ (.inl rfl) e,ih q⟩
 |nj ps=>
  have e:h.get? a=some {cls:=.none,data:=.fields ps}:=x;show h'.get? a=some {cls:=.none,data:=.fields ps};exact k a _ (.inl rfl) e
 |met f y=>
  have e:h.get? a=some (PySem.W.methodObj (.ref f) (.ref y)):=x;show h'.get? a=some (PySem.W.methodObj (.ref f) (.ref y));exact k a _ (.inl rfl) e
 |ext φ=>obtain⟨p,⟨o,e⟩,st⟩:=x;exact⟨st _ _ p λo q=>k _ _ (.inl rfl) q,⟨o,k _ _ (.inl rfl) e⟩,st⟩
def bG.lt(x:bG P w H h)(e:H a=some o):a<h.objs.size:=(x a o e).lt
def bG.fresh(x:bG P w H h)(e:h.objs.size<=a):H a=none:=by
 cases q:H a with
 |none=>rfl
 |some u=>exact absurd (Zv (x.lt q) e) (Z3 _)
def bG.kept(x:bG P w H h)(k:∀b u,h.get? b=some u->h'.get? b=some u):bG P w H h':=λa o e=>
 (x a o e).k7 (λb u _ q=>k b u q) (λ_ q=>q) λ_ _ q=>q
def bG.laid(x:bG P w H h)(k:∀b u,h.get? b=some u->h'.get? b=some u)(hp:h.objs.size<=a)(new:bN P w (upd H a o) h' a o):bG P w (upd H a o) h':=λb u e=>by
 have hn:=x.fresh hp;by_cases hb:b=a
 ·subst hb;rw[aj]at e;cases e;exact new
 ·rw[ah hb]at e;exact(x b u e).k7 (λc v _ q=>k c v q) (λc q=>by rw[ah (bj q hn)];exact q) λc xs q=>by rw[ah (bj q hn)];exact q
end
def Rd(H:Hp)(a:Addr)(u:HO):Prop:=H a=some u\/∃o,H a=some (.cS o u)
def Rd.ok{P:Program}{w:World}{H:Hp}{h:Heap}{a:Addr}{u:HO}(r:Rd H a u)(x:bG P w H h):bN P w H h a u:=by
 rcases r with r|⟨o,r⟩
 ·exact x a u r
 ·obtain⟨_,q⟩:=x a _ r;exact q
def tN:Option HO->Prop
 |some (.lst _)=>True
 |some (.dK _)=>True
 |some (.dT _)=>True
 |some (.set _ _)=>True
 |some (.ins _ _ _)=>True
 |some (.ext _)=>True
 |_=>False
section
variable {P:Program}{w:World}{H:Hp}{h h':Heap}{x e:Addr}{o':HO}
def bG.write(ok:bG P w H h)(mu:tN (H x))(he:e=x\/H e=some (.own x))(k:∀b u,b≠e->h.get? b=some u->h'.get? b=some u)(nr:∃u,h'.get? e=some u)
  (new:bN P w (upd H x o') h' x o'):bG P w (upd H x o') h':=λb u q=>by
 have NN:∀c y,H c=some (.own y)->c≠x:=λc y r z=>by subst z;rw[r]at mu;exact mu
 have adp:∀c xs,H c=some (.tup xs)->c≠x:=λc xs r z=>by subst z;rw[r]at mu;exact mu
 by_cases hb:b=x
 ·subst hb;rw[aj]at q;cases q;exact new
 ·rw[ah hb]at q;by_cases oZ:b=e
  ·have q':H b=some (.own x):=by
    rcases he with z|z
    ·exact absurd (oZ.trans z) hb
    ·rw[oZ];exact z
   rw[q]at q';cases q';obtain⟨v,hv⟩:=nr;exact⟨v,by rw[oZ];exact hv⟩
  ·refine(ok b u q).k7 (λc v hc r=>k c v ?_ r) (λc r=>by rw[ah (NN c b r)];exact r) λc xs r=>by rw[ah (adp c xs r)];exact r
   rcases hc with rfl|hc
   ·exact oZ
   ·rintro rfl;rcases he with z|z
    ·exact NN c b hc z
    ·rw[hc]at z;cases z;exact hb rfl
end
structure Un(fs ex:List Addr)(H H':Hp)(h h':Heap):Prop where
 keep:∀b o,h.get? b=some o->H b=none->b∉fs->b∉ex->h'.get? b=some o
 slot:∀b o,h.get? b=some o->H b=none->b∈fs->b∉ex->∃sl,h'.get? b=some {o with slots:=sl}
 free:∀b o,h.get? b=some o->H b=none->b∉ex->H' b=none
 there:∀b o,h.get? b=some o->b∉ex->∃o',h'.get? b=some o'
 fY:∀b xs,H b=some (.tup xs)->H' b=some (.tup xs)
 fA:∀b o u,H b=some (.cS o u)->H' b=some (.cS o u)
 fZ:∀b ps,H b=some (.nj ps)->∃more,H' b=some (.nj (ps++more))
section
variable {fs qV ex ex':List Addr}{H H1 H2:Hp}{h h1 h2 h':Heap}{a x e:Addr}{o:HO}
def Un.any(u:Un fs ex H H1 h h1){b:Addr}{ob:Obj}(q:h.get? b=some ob)(n:H b=none)(hx:b∉ex):∃sl,h1.get? b=some {ob with slots:=sl}:=by
 by_cases hb:b∈fs
 ·exact u.slot b ob q n hb hx
 ·exact⟨ob.slots,u.keep b ob q n hb hx⟩
def Un.kept(k:∀b u,h.get? b=some u->h'.get? b=some u):Un fs ex H H h h':=
 ⟨λb ob q _ _ _=>k b ob q,λb ob q _ _ _=>⟨ob.slots,k b ob q⟩,λ_ _ _ n _=>n,λb ob q _=>⟨ob,k b ob q⟩,λ_ _ q=>q,λ_ _ _ q=>q,λ_ ps q=>⟨#[],by rw[q];simp⟩⟩
def Un.refl:Un fs ex H H h h:=Un.kept λ_ _ q=>q
def Un.laid(k:∀b u,h.get? b=some u->h'.get? b=some u)(hp:h.objs.size<=a)(hn:H a=none):Un fs ex H (upd H a o) h h' where
 keep:=λb u q _ _ _=>k b u q
 slot:=λb u q _ _ _=>⟨u.slots,k b u q⟩
 free:=λb u q n _=>by rw[ah (Zm (Zv (Zh q) hp))];exact n
 there:=λb u q _=>⟨u,k b u q⟩
 fY:=λb xs q=>by rw[ah (bj q hn)];exact q
 fA:=λb u xs q=>by rw[ah (bj q hn)];exact q
 fZ:=λb ps q=>⟨#[],by rw[ah (bj q hn),q];simp⟩
def Un.write(mu:tN (H x))(he:e=x\/H e=some (.own x))(k:∀b u,b≠e->h.get? b=some u->h'.get? b=some u)(nr:∃u,h'.get? e=some u):Un fs ex H (upd H x o) h h':=by
 have hx:∀b,H b=none->b≠x:=λb n z=>by subst z;rw[n]at mu;exact mu
 have hb:∀b,H b=none->b≠e:=λb n z=>by
  subst z;rcases he with r|r
  ·exact hx b n r
  ·rw[n]at r;cases r
 have hm:∀b u,H b=some u->¬tN (some u)->b≠x:=λb u q nm z=>by subst z;rw[q]at mu;exact nm mu
 refine⟨λb u q n _ _=>k b u (hb b n) q,λb u q n _ _=>⟨u.slots,k b u (hb b n) q⟩,λb u q n _=>by rw[ah (hx b n)];exact n,λb u q _=>?_,
  λb xs q=>by rw[ah (hm b _ q λz=>z)];exact q,λb u xs q=>by rw[ah (hm b _ q λz=>z)];exact q,λb ps q=>⟨#[],by rw[ah (hm b _ q λz=>z),q];simp⟩⟩
 by_cases oZ:b=e
 ·subst oZ;exact nr
 ·exact⟨u,k b u oZ q⟩
end
def g5(h:Heap)(H:Hp):List Addr:=(List.range h.objs.size).filter λa=>(H a).isSome
def k8(h:Heap)(H:Hp):Heap:=PySem.W.hideAll h (g5 h H)
def Ut(h:Heap)(H:Hp):(k8 h H).objs.size=h.objs.size:=PySem.W.hideAll_size _ _
def Wl{h:Heap}{H:Hp}{b:Addr}{o:Obj}(e:h.get? b=some o)(n:H b=none):(k8 h H).get? b=some o:=
 PySem.W.hideAll_get _ e λhm=>by
  have q:(H b).isSome=true:=(ZT.mp hm).2;rw[n]at q;simp at q
def Yf{h:Heap}{H:Hp}{b:Addr}{o:Obj}(e:(k8 h H).get? b=some o):h.get? b=some o/\H b=none:=by
 have e':h.get? b=some o:=PySem.W.of_hideAll (g5 h H) e;refine⟨e',?_⟩;cases q:H b with
 |none=>rfl
 |some x=>
  have hm:b∈g5 h H:=ZT.mpr ⟨ZU.mpr (Zh e'),by simp[q]⟩;have z:(k8 h H).get? b=none:=PySem.W.hideAll_none (g5 h H) hm;rw[z]at e;cases e
structure Mod(K:PySem.W.Frag)(mg:Str->Option Value)(base:Heap):Prop where
 o6:K.In base
 glob:base.Ns mainGlobals mg
 blt:∃mb,base.Ns builtinsNs mb/\∀x:Str,x≠"__name__"->mb x=bootBuiltins x
 nolimit:base.NoLimit
structure Cx where
 prog:Program
 w:World
 K:PySem.W.Frag
 mg:Str->Option Value
 base:Heap
 A:Around
 N:List Str
 s₀:Shared
 H₀:Hp
 env:Env
 outer:List Env
 stack:List Env
 ex:List Addr
 fn:Str->Bool
 calm:Bool
 pn:List (Addr×Obj)
 xe:Value->Shared->Prop
def bP(l:List Env):List Addr:=l.filterMap (·.frame)
abbrev Cx.fs(X:Cx):List Addr:=bP X.outer
def wN(sc:Scope)(x:Str):Prop:=sc.names.lookup x=some .local\/sc.names.lookup x=some .cell\/sc.names.lookup x=some .free
def Loc(sc:Scope)(x:Str):Prop:=sc.names.lookup x=some .local\/sc.names.lookup x=some .cell
def Look(env:Env)(h:Heap)(m:Str->Option Value)(x:Str)(u:Value):Prop:=
 (env.kindOf x=some .local/\m x=some u)\/((env.kindOf x=some .cell\/env.kindOf x=some .free)/\∃c,env.cells.lookup x=some c/\h.IsCell c (some u))
structure Cx.Ok(X:Cx):Prop where
 mod:Mod X.K X.mg X.base
 kind:X.env.scope.kind=.function
 glob:X.env.globals=mainGlobals
 blt:X.env.builtins=builtinsNs
 above:X.s₀.heap.objs.size<=X.env.locals
 inj:∀x y c,X.env.cells.lookup x=some c->X.env.cells.lookup y=some c->x=y
 has:∀x,(X.env.kindOf x=some .cell\/X.env.kindOf x=some .free)->∃c,X.env.cells.lookup x=some c
 cab:∀x c,X.fn x=true->X.env.cells.lookup x=some c->X.s₀.heap.objs.size<=c
 hd:X.calm=true->X.A.handled=none
 frames:X.A.frames=some X.stack
 tO:X.stack=X.outer\/(X.stack=X.env::X.outer/\X.env.frame=some X.env.locals)
 Cq:∀b∈X.ex,b≠X.env.locals/\∀x c,X.env.cells.lookup x=some c->c≠b
 bs:∀b o,X.base.get? b=some o->X.s₀.heap.get? b=some o/\X.H₀ b=none
 iO:X.base.objs.size<=X.s₀.heap.objs.size
 kq:∀b o,X.base.get? b=some o->b∉X.ex
 tE:∀b∈X.ex,b∉X.fs
 gF:X.s₀.heap.FunFrames X.base X.outer
 nu:∀b∈X.fs,X.H₀ b=none
structure Inv(X:Cx)(pins:List (Addr×Obj))(σ:List (Option V))(H:Hp)(s:Shared):Prop where
 ok:X.Ok
 os:s.os=X.s₀.os
 bare:AllBare s.gens
 base:Un X.fs X.ex X.H₀ H X.s₀.heap s.heap
 loc:∃m,s.heap.Ns X.env.locals m/\∀(i:Nat) (x:Str) (v:V),X.N[i]?=some x->σ[i]?=some (some v)->wN X.env.scope x->∃u,RelV v u/\Look X.env s.heap m x u
 cell:∀x c,X.env.cells.lookup x=some c->∃v,s.heap.IsCell c v
 free:H X.env.locals=none
 eC:∀x c,X.env.cells.lookup x=some c->H c=none
 pin:∀p∈X.pn++pins,s.heap.get? p.1=some p.2/\H p.1=none/\p.1≠X.env.locals/\p.1∉X.fs/\∀v,p.2.data≠.cell v
 ao:bG X.prog X.w H s.heap
 len:σ.length=X.N.length
section
variable {X:Cx}{pins:List (Addr×Obj)}{σ:List (Option V)}{H H':Hp}{s:Shared}{h':Heap}
def Cx.Ok.adq(ok:X.Ok){b:Addr}{o:Obj}(e:X.base.get? b=some o):b∉X.fs:=λhb=>by
 have:=(ok.gF.mem hb).1;rw[e]at this;cases this
def Inv.bs(I:Inv X pins σ H s):∀b o,X.base.get? b=some o->s.heap.get? b=some o/\H b=none:=λb o e=>
 ⟨I.base.keep b o (I.ok.bs b o e).1 (I.ok.bs b o e).2 (I.ok.adq e) (I.ok.kq b o e),I.base.free b o (I.ok.bs b o e).1 (I.ok.bs b o e).2 (I.ok.kq b o e)⟩
def Inv.bk(I:Inv X pins σ H s):∀b o,X.base.get? b=some o->s.heap.get? b=some o:=λb o e=>(I.bs b o e).1
def Inv.mod(I:Inv X pins σ H s):Mod X.K X.mg X.base:=I.ok.mod
def Inv.cG(I:Inv X pins σ H s):X.K.In s.heap:=I.ok.mod.o6.keeps I.bk
def Inv.lt(I:Inv X pins σ H s):X.env.locals<s.heap.objs.size:=let⟨_,hn,_⟩:=I.loc;hn.lt
def Inv.sz(I:Inv X pins σ H s):X.s₀.heap.objs.size<=s.heap.objs.size:=ZQ I.ok.above (Z2 I.lt)
def Inv.ads(I:Inv X pins σ H s){a:Addr}(h:s.heap.objs.size<=a):a∉X.fs:=λhb=>by
 obtain⟨_,o,ho,_⟩:=I.ok.gF.mem hb;exact absurd (Zv (Zh ho) (ZQ I.sz h)) (Z3 _)
def Inv.o7(I:Inv X pins σ H s):∀x c,X.env.cells.lookup x=some c->c≠X.env.locals:=λx c e z=>by
 obtain⟨v,o,ho,hd⟩:=I.cell x c e;obtain⟨m,⟨o',es,ep,eF,lH,_⟩,_⟩:=I.loc;rw[z,eF]at ho;cases ho;rw[lH]at hd;cases hd
def Inv.gF(I:Inv X pins σ H s):s.heap.FunFrames X.base X.outer:=by
 have all:∀(l:List Env),(∀b∈bP l,b∈X.fs)->X.s₀.heap.FunFrames X.base l->s.heap.FunFrames X.base l:=by
  intro l
  induction l with
  |nil=>intro _ _;trivial
  |cons env r ih=>
   intro hs hl;obtain⟨hk,⟨L,o,hf,hn,ho,hd⟩,hr⟩:=hl;have hL:L∈X.fs:=hs L (by unfold bP;rw[List.filterMap_cons,hf];exact Y8);obtain⟨sl,e⟩:=I.base.slot L o ho (I.ok.nu L hL) hL λz=>I.ok.tE L z hL;exact⟨hk,⟨L,_,hf,hn,e,hd⟩,ih (λb hb=>hs b (by unfold bP;rw[List.filterMap_cons,hf];exact Y3 _ hb)) hr⟩
 exact all X.outer (λ_ hb=>hb) I.ok.gF
def Inv.stack(I:Inv X pins σ H s):s.heap.FunFrames X.base X.stack:=by
 rcases I.ok.tO with e|⟨e,hf⟩
 ·rw[e];exact I.gF
 ·rw[e];obtain⟨m,hn,_⟩:=I.loc;refine .cons (by rw[I.ok.kind];decide) hf hn ?_ I.gF;exact Heap.get?_none_of_le (ZQ I.ok.iO I.ok.above)
def Inv.kf(I:Inv X pins σ H s):∀b∈bP X.stack,b∈X.env.locals::X.fs:=λb hb=>by
 rcases I.ok.tO with e|⟨e,hf⟩
 ·rw[e]at hb;exact Y3 _ hb
 ·rw[e]at hb;unfold bP at hb;rw[List.filterMap_cons,hf]at hb;exact hb
def Inv.oq(I:Inv X pins σ H s):∀b∈bP X.stack,H b=none:=λb hb=>by
 rcases Y4.mp (I.kf b hb)with e|hb
 ·rw[e];exact I.free
 ·obtain⟨_,o,ho,_⟩:=I.ok.gF.mem hb;exact I.base.free b o ho (I.ok.nu b hb) λz=>I.ok.tE b z hb
def Inv.step{g':Array GenState}{t':Nat}{d':Drawn}{ch:List Addr}(I:Inv X pins σ H s)
  (kA:∀b∈ch,(b∈X.ex\/X.s₀.heap.objs.size<=b)/\b≠X.env.locals/\(∀x c,X.env.cells.lookup x=some c->c≠b)/\∀p∈X.pn++pins,p.1≠b)
  (keep:∀b o,b≠X.env.locals->b∉X.fs->b∉ch->s.heap.get? b=some o->H b=none->h'.get? b=some o)
  (slot:∀b o,b≠X.env.locals->b∈X.fs->b∉ch->s.heap.get? b=some o->H b=none->∃sl,h'.get? b=some {o with slots:=sl})(free:∀b o,b∉ch->s.heap.get? b=some o->H b=none->H' b=none)
  (there:∀b o,b∉ch->s.heap.get? b=some o->∃o',h'.get? b=some o')
  (fY:∀b xs,H b=some (.tup xs)->H' b=some (.tup xs))(fA:∀b o u,H b=some (.cS o u)->H' b=some (.cS o u))(fZ:∀b ps,H b=some (.nj ps)->∃more,H' b=some (.nj (ps++more)))
  (ns:∀m,s.heap.Ns X.env.locals m->h'.Ns X.env.locals m)(ao:bG X.prog X.w H' h')(hg:AllBare g'):
  Inv X pins σ H' {s with heap:=h',gens:=g',drawn:=d',toks:=t'}:=by
 have OC:∀b o,X.s₀.heap.get? b=some o->b≠X.env.locals:=λb o e=>Zm (Zv (Zh e) I.ok.above)
 have wQ:∀b o,X.s₀.heap.get? b=some o->b∉X.ex->b∉ch:=λb o e hx hb=>by
  rcases(kA b hb).1 with z|z
  ·exact hx z
  ·exact absurd (Zv (Zh e) z) (Z3 _)
 have cellK:∀x c,X.env.cells.lookup x=some c->∀v,s.heap.IsCell c v->h'.IsCell c v:=λx c e v ⟨o,ho,hd⟩=>by
  have bW:c∉ch:=λz=>(kA c z).2.2.1 x c e rfl;by_cases hc:c∈X.fs
  ·obtain⟨sl,q⟩:=slot c o (I.o7 x c e) hc bW ho (I.eC x c e);exact⟨_,q,hd⟩
  ·exact⟨o,keep c o (I.o7 x c e) hc bW ho (I.eC x c e),hd⟩
 refine⟨I.ok,I.os,hg,⟨λb o e n hb hx=>?_,λb o e n hb hx=>?_,λb o e n hx=>?_,λb o e hx=>?_,λb xs e=>fY b xs (I.base.fY b xs e),λb o xs e=>fA b o xs (I.base.fA b o xs e),λb ps e=>?_⟩,?_,λx c e=>?_,?_,λx c e=>?_,λp hp=>?_,ao,I.len⟩
 ·exact keep b o (OC b o e) hb (wQ b o e hx) (I.base.keep b o e n hb hx) (I.base.free b o e n hx)
 ·obtain⟨sl,e1⟩:=I.base.slot b o e n hb hx;obtain⟨wR,e2⟩:=slot b _ (OC b o e) hb (wQ b o e hx) e1 (I.base.free b o e n hx);exact⟨wR,e2⟩
 ·obtain⟨o',e1⟩:=I.base.there b o e hx;exact free b o' (wQ b o e hx) e1 (I.base.free b o e n hx)
 ·obtain⟨o',e1⟩:=I.base.there b o e hx;exact there b o' (wQ b o e hx) e1
 ·obtain⟨m1,e1⟩:=I.base.fZ b ps e;obtain⟨m2,e2⟩:=fZ b _ e1;exact⟨m1++m2,by rw[e2,Array.append_assoc]⟩
 ·obtain⟨m,hn,hl⟩:=I.loc;refine⟨m,ns m hn,λi x v e1 e2 e3=>?_⟩;obtain⟨u,r,l⟩:=hl i x v e1 e2 e3;refine⟨u,r,?_⟩;rcases l with l|⟨k,c,e,z⟩
  ·exact .inl l
  ·exact .inr ⟨k,c,e,cellK x c e _ z⟩
 ·obtain⟨v,z⟩:=I.cell x c e;exact⟨v,cellK x c e v z⟩
 ·obtain⟨m,⟨o,_,_,ho,_⟩,_⟩:=I.loc;exact free _ o (λz=>(kA _ z).2.1 rfl) ho I.free
 ·obtain⟨v,o,ho,hd⟩:=I.cell x c e;exact free c o (λz=>(kA c z).2.2.1 x c e rfl) ho (I.eC x c e)
 ·obtain⟨e,n,ne,nf,d⟩:=I.pin p hp;have bW:p.1∉ch:=λz=>(kA p.1 z).2.2.2 p hp rfl;exact⟨keep p.1 p.2 ne nf bW e n,free p.1 p.2 bW e n,ne,nf,d⟩
def Inv.un{t':Nat}(I:Inv X pins σ H s)(u:Un X.fs [] H H' s.heap h')(ao:bG X.prog X.w H' h'):Inv X pins σ H' {s with heap:=h',toks:=t'}:=by
 obtain⟨m,⟨o,es,ep,ho,r⟩,_⟩:=id I.loc;obtain⟨sl,hL⟩:=u.any ho I.free (by simp)
 exact I.step (g':=s.gens) (d':=s.drawn) (ch:=[]) (λ_ z=>nomatch z) (λb o _ hb _ e n=>u.keep b o e n hb (by simp)) (λb o _ hb _ e n=>u.slot b o e n hb (by simp)) (λb o _ e n=>u.free b o e n (by simp)) (λb o _ e=>u.there b o e (by simp)) u.fY u.fA u.fZ (λm' hm=>by
  obtain⟨o',ji,kB,eF,r'⟩:=hm;rw[ho]at eF;cases eF;exact⟨_,ji,kB,hL,r'⟩) ao I.bare
def Inv.call{g':Array GenState}{t':Nat}{d':Drawn}{ch:List Addr}(I:Inv X pins σ H s)(u:Un (bP X.stack) ch H H' s.heap h')(ao:bG X.prog X.w H' h')(hg:AllBare g')
  (kA:∀b∈ch,(b∈X.ex\/X.s₀.heap.objs.size<=b)/\b≠X.env.locals/\(∀x c,X.env.cells.lookup x=some c->c≠b)/\∀p∈X.pn++pins,p.1≠b):
  Inv X pins σ H' {s with heap:=h',gens:=g',drawn:=d',toks:=t'}:=by
 obtain⟨m,⟨o,es,ep,ho,r⟩,_⟩:=id I.loc;obtain⟨sl,hL⟩:=u.any ho I.free λz=>(kA _ z).2.1 rfl
 exact I.step (ch:=ch) kA (λb o hL hb hc e n=>u.keep b o e n (λz=>(Y4.mp (I.kf b z)).elim hL hb) hc) (λb o _ _ hc e n=>u.any e n hc) (λb o hc e n=>u.free b o e n hc) (λb o hc e=>u.there b o e hc) u.fY u.fA u.fZ (λm' hm=>by
  obtain⟨o',ji,kB,eF,r'⟩:=hm;rw[ho]at eF;cases eF;exact⟨_,ji,kB,hL,r'⟩) ao hg
def Inv.turned{t':Nat}{it:Addr}(I:Inv X pins σ H s)(k:∀b o,b≠it->s.heap.get? b=some o->h'.get? b=some o)(hn:H it=none)(hL:it≠X.env.locals)
  (h1:it∈X.ex\/X.s₀.heap.objs.size<=it)(h2:∀x c,X.env.cells.lookup x=some c->c≠it)(h3:∀p∈X.pn++pins,p.1≠it):Inv X pins σ H {s with heap:=h',toks:=t'}:=by
 have OD:∀b u,H b=some u->b≠it:=λb u e z=>by rw[z,hn]at e;cases e
 refine I.step (g':=s.gens) (d':=s.drawn) (ch:=[it]) (λb hb=>?_) (λb o _ _ hc e _=>k b o (λz=>hc (by simp[z])) e) (λb o _ _ hc e _=>⟨o.slots,k b o (λz=>hc (by simp[z])) e⟩) (λ_ _ _ _ n=>n)
  (λb o hc e=>⟨o,k b o (λz=>hc (by simp[z])) e⟩) (λ_ _ e=>e) (λ_ _ _ e=>e) (λb ps e=>⟨#[],by rw[e];simp⟩) (λm hm=>?_) (λb u e=>?_) I.bare
 ·have e:b=it:=by simpa using hb
  subst e;exact⟨h1,hL,h2,h3⟩
 ·obtain⟨o,es,ep,ho,r⟩:=hm;exact⟨o,es,ep,k _ o (Ne.symm hL) ho,r⟩
 ·refine(I.ao b u e).k7 (λc v hc q=>k c v ?_ q) (λ_ q=>q) λ_ _ q=>q;rcases hc with z|z
  ·rw[z];exact OD b u e
  ·exact OD c _ z
def Inv.tok(I:Inv X pins σ H s)(t:Nat):Inv X pins σ H {s with toks:=t}:=I.un (h':=s.heap) (t':=t) Un.refl I.ao
def Inv.kept{t':Nat}(I:Inv X pins σ H s)(k:∀b u,s.heap.get? b=some u->h'.get? b=some u):Inv X pins σ H {s with heap:=h',toks:=t'}:=I.un (Un.kept k) (I.ao.kept k)
def Inv.laid{a:Addr}{o:HO}{t':Nat}(I:Inv X pins σ H s)(k:∀b u,s.heap.get? b=some u->h'.get? b=some u)(hp:s.heap.objs.size<=a)(new:bN X.prog X.w (upd H a o) h' a o):
  Inv X pins σ (upd H a o) {s with heap:=h',toks:=t'}:=I.un (Un.laid k hp (I.ao.fresh hp)) (I.ao.laid k hp new)
def Inv.write{x e:Addr}{o:HO}{t':Nat}(I:Inv X pins σ H s)(mu:tN (H x))(he:e=x\/H e=some (.own x))(k:∀b u,b≠e->s.heap.get? b=some u->h'.get? b=some u)(nr:∃u,h'.get? e=some u)
  (new:bN X.prog X.w (upd H x o) h' x o):Inv X pins σ (upd H x o) {s with heap:=h',toks:=t'}:=I.un (Un.write mu he k nr) (I.ao.write mu he k nr new)
def Inv.Ko{Nd:List (Addr×Obj)}(I:Inv X pins σ H s)(h:∀p∈Nd,s.heap.get? p.1=some p.2/\H p.1=none/\p.1≠X.env.locals/\p.1∉X.fs/\∀v,p.2.data≠.cell v):Inv X Nd σ H s:=
 ⟨I.ok,I.os,I.bare,I.base,I.loc,I.cell,I.free,I.eC,λp hp=>(Y6.mp hp).elim (λz=>I.pin p (Zb _ z)) (h p),I.ao,I.len⟩
def IS{N:List Str}(hN:N.Nodup){i j:Nat}{x:Str}(a:N[i]?=some x)(b:N[j]?=some x):i=j:=by
 obtain⟨h1,e1⟩:=ZL.mp a;obtain⟨h2,e2⟩:=ZL.mp b;exact(List.getElem_inj hN).mp (e1.trans e2.symm)
def Hk{M:Model}{A:Around}{E:Value->Shared->Prop}{i:Nat}{x:Str}{v:V}{u:Value}{Q:Unit->Shared->Prop}(I:Inv X pins σ H s)(hN:X.N.Nodup)(hi:X.N[i]?=some x)(hx:Loc X.env.scope x)(r:RelV v u)
  (h:∀s',Inv X pins (σ.set i (some v)) H s'->(∃a,Heap.SameBut a s.heap s'.heap/\(a=X.env.locals\/X.env.cells.lookup x=some a))->Q () s')(hf:X.fn x=true\/X.env.scope.names.lookup x=some .local:=by first|exact .inl rfl|exact .inr rfl|assumption):wpAny M A (storeName X.env x u) Q E s:=by
 obtain⟨m,hn,hl⟩:=id I.loc;have tF:(X.env.scope.kind==.class||(X.env.scope.kind==.module&&X.env.locals !=X.env.globals))=false:=by rw[I.ok.kind];rfl
 have OE:i<σ.length:=by rw[I.len];exact(ZL.mp hi).1
 have o7:=I.o7
 have tracked:∀{a:Addr}{h':Heap},(∃o,s.heap.get? a=some o/\H a=none)->Heap.SameBut a s.heap h'->bG X.prog X.w H h':=λ{a h'} ha hs b ob e=>by
  obtain⟨_,_,Nf⟩:=ha;refine(I.ao b ob e).k7 (λc w' hc q=>(hs.2 c ?_).trans q) (λ_ q=>q) λ_ _ q=>q;rintro rfl;rcases hc with rfl|hc
  ·rw[Nf]at e;cases e
  ·rw[Nf]at hc;cases hc
 rcases hx with hk|hk
 ·refine wpAny_storeName_local hk hn (λh' hn' hs=>?_) tF;obtain⟨oL,_,_,hoL,_⟩:=id hn;refine h _ ⟨I.ok,I.os,I.bare,⟨λb o e n hb hx=>?_,λb o e n hb hx=>?_,I.base.free,λb o e hx=>?_,I.base.fY,I.base.fA,I.base.fZ⟩,⟨_,hn',λj y v' e1 e2 e3=>?_⟩,λy c e=>?_,I.free,I.eC,λp hp=>?_,tracked ⟨oL,hoL,I.free⟩ hs,by simpa using I.len⟩ ⟨_,hs,.inl rfl⟩
  ·exact(hs.2 b (Zm (Zv (Zh e) I.ok.above))).trans (I.base.keep b o e n hb hx)
  ·obtain⟨sl,e1⟩:=I.base.slot b o e n hb hx;exact⟨sl,(hs.2 b (Zm (Zv (Zh e) I.ok.above))).trans e1⟩
  ·obtain⟨o',e1⟩:=I.base.there b o e hx;exact⟨o',(hs.2 b (Zm (Zv (Zh e) I.ok.above))).trans e1⟩
  ·by_cases hj:j=i
   ·subst hj;rw[hi]at e1;cases e1;rw[List.getElem?_set_self OE]at e2;cases e2;exact⟨u,r,.inl ⟨hk,by simp⟩⟩
   ·rw[List.getElem?_set_ne (Ne.symm hj)]at e2;obtain⟨u',r',q⟩:=hl j y v' e1 e2 e3;refine⟨u',r',?_⟩;rcases q with⟨k,e⟩|⟨k,c,e,z⟩
    ·refine .inl ⟨k,?_⟩;have:y≠x:=λe=>hj (IS hN e1 (e▸hi));simp[this,e]
    ·exact .inr ⟨k,c,e,z.sameBut hs (o7 y c e)⟩
  ·obtain⟨w',z⟩:=I.cell y c e;exact⟨w',z.sameBut hs (o7 y c e)⟩
  ·obtain⟨e,n,ne,nf,d⟩:=I.pin p hp;exact⟨(hs.2 p.1 ne).trans e,n,ne,nf,d⟩
 ·have tP:X.fn x=true:=by
   rcases hf with z|z
   ·exact z
   ·rw[z]at hk;cases hk
  obtain⟨c,hc⟩:=I.ok.has x (.inl hk);obtain⟨w',z⟩:=I.cell x c hc;refine wpAny_storeName_cell I.ok.kind hk hc z (λh' dA hs=>?_);obtain⟨oc,bQ,adt⟩:=id z;refine h {s with heap:=h'} ⟨I.ok,I.os,I.bare,⟨λb o e n hb hx=>?_,λb o e n hb hx=>?_,I.base.free,λb o e hx=>?_,I.base.fY,I.base.fA,I.base.fZ⟩,⟨m,hn.sameBut hs (Ne.symm (o7 x c hc)),λj y v' e1 e2 e3=>?_⟩,λy c' e=>?_,I.free,I.eC,λp hp=>?_,tracked ⟨oc,bQ,I.eC x c hc⟩ hs,by simpa using I.len⟩ ⟨c,hs,.inr hc⟩
  ·exact(hs.2 b (Zm (Zv (Zh e) (I.ok.cab x c tP hc)))).trans (I.base.keep b o e n hb hx)
  ·obtain⟨sl,e1⟩:=I.base.slot b o e n hb hx;exact⟨sl,(hs.2 b (Zm (Zv (Zh e) (I.ok.cab x c tP hc)))).trans e1⟩
  ·obtain⟨o',e1⟩:=I.base.there b o e hx;exact⟨o',(hs.2 b (Zm (Zv (Zh e) (I.ok.cab x c tP hc)))).trans e1⟩
  ·by_cases hj:j=i
   ·subst hj;rw[hi]at e1;cases e1;rw[List.getElem?_set_self OE]at e2;cases e2;exact⟨u,r,.inr ⟨.inl hk,c,hc,dA⟩⟩
   ·rw[List.getElem?_set_ne (Ne.symm hj)]at e2;obtain⟨u',r',q⟩:=hl j y v' e1 e2 e3;refine⟨u',r',?_⟩;rcases q with q|⟨k,c',e,z'⟩
    ·exact .inl q
    ·refine .inr ⟨k,c',e,z'.sameBut hs ?_⟩;rintro rfl;exact hj (IS hN e1 (I.ok.inj _ _ _ e hc▸hi))
  ·by_cases OF:c'=c
   ·subst OF;exact⟨_,dA⟩
   ·obtain⟨w2,z2⟩:=I.cell y c' e;exact⟨w2,z2.sameBut hs OF⟩
  ·obtain⟨e,n,ne,nf,d⟩:=I.pin p hp;refine⟨(hs.2 p.1 ?_).trans e,n,ne,nf,d⟩;intro q;rw[q,bQ]at e;have q':oc=p.2:=Zf e;exact d w' (by rw[<-q'];exact adt)
def kO{M:Model}{A:Around}{E:Value->Shared->Prop}{i:Nat}{x:Str}{v:V}{u:Value}{Q:Unit->Shared->Prop}(I:Inv X pins σ H s)(hN:X.N.Nodup)(hi:X.N[i]?=some x)(hx:Loc X.env.scope x)(r:RelV v u)
  (h:∀s',Inv X pins (σ.set i (some v)) H s'->Q () s')(hf:X.fn x=true\/X.env.scope.names.lookup x=some .local:=by first|exact .inl rfl|exact .inr rfl|assumption):wpAny M A (storeName X.env x u) Q E s:=
 Hk I hN hi hx r (λs' I' _=>h s' I') hf
def Inv.mR{s':Shared}{ch:List Addr}(I:Inv X pins σ H s)(ho:s'.os=s.os)(u:Un (bP X.stack) ch H H' s.heap s'.heap)(ao:bG X.prog X.w H' s'.heap)(hg:AllBare s'.gens)
  (kA:∀b∈ch,(b∈X.ex\/X.s₀.heap.objs.size<=b)/\b≠X.env.locals/\(∀x c,X.env.cells.lookup x=some c->c≠b)/\∀p∈X.pn++pins,p.1≠b):Inv X pins σ H' s':=by
 obtain⟨h',g',d',t',o'⟩:=s';have e:o'=s.os:=ho;subst e;exact I.call (g':=g') (t':=t') (d':=d') u ao hg kA
end
abbrev XK:=Value->Option Addr->Hp->Prop
abbrev St:=List (Option V)
abbrev VK:=V->Hp->Prop
abbrev TE:=St->Hp->VK->Prop
abbrev TT:=St->Hp->(Bool->Hp->Prop)->Prop
abbrev TA:=St->Hp->(List V->Hp->Prop)->Prop
structure Ends where
 nx:St->Hp->Prop
 rt:VK
 bk:St->Hp->Prop:=λ_ _=>False
 ct:St->Hp->Prop:=λ_ _=>False
abbrev TS:=Ends->St->Hp->Prop
def EP(X:Cx)(pins:List (Addr×Obj))(σ:St)(Q:VK)(u:Value)(s':Shared):Prop:=∃v H',Inv X pins σ H' s'/\RelV v u/\Q v H'
def TP(X:Cx)(pins:List (Addr×Obj))(σ:St)(Q:Bool->Hp->Prop)(b:Bool)(s':Shared):Prop:=∃H',Inv X pins σ H' s'/\Q b H'
def AP(X:Cx)(pins:List (Addr×Obj))(σ:St)(Q:List V->Hp->Prop)(us:List Value)(s':Shared):Prop:=∃vs H',Inv X pins σ H' s'/\Vals vs us/\Q vs H'
def SP(X:Cx)(pins:List (Addr×Obj))(D:Ends)(f:Flow)(s':Shared):Prop:=
 match f with
 |.next=>∃σ' H',Inv X pins σ' H' s'/\D.nx σ' H'
 |.brk=>∃σ' H',Inv X pins σ' H' s'/\D.bk σ' H'
 |.cont=>∃σ' H',Inv X pins σ' H' s'/\D.ct σ' H'
 |.ret u=>∃v σ' H',Inv X pins σ' H' s'/\RelV v u/\D.rt v H'
def PE(X:Cx)(e:Expr)(t:TE):Prop:=
 ∀(pins:List (Addr×Obj)) (s:Shared) (σ:St) (H:Hp) (Q:VK),Inv X pins σ H s->t σ H Q->wpAny (model X.prog X.w) X.A (eval e X.env) (EP X pins σ Q) X.xe s
def PT(X:Cx)(e:Expr)(t:TT):Prop:=
 ∀(pins:List (Addr×Obj)) (s:Shared) (σ:St) (H:Hp) (Q:Bool->Hp->Prop),Inv X pins σ H s->t σ H Q->wpAny (model X.prog X.w) X.A (isTrue e X.env (eval e X.env)) (TP X pins σ Q) X.xe s
def PW(X:Cx)(e:Expr)(t:TT):Prop:=
 ∀(whole:Sem Value) (pins:List (Addr×Obj)) (s:Shared) (σ:St) (H:Hp) (Q:Bool->Hp->Prop),Inv X pins σ H s->t σ H Q->wpAny (model X.prog X.w) X.A (isTrue e X.env whole) (TP X pins σ Q) X.xe s
def PW.pt{X:Cx}{e:Expr}{t:TT}(h:PW X e t):PT X e t:=h _
def PA(X:Cx)(es:List Expr)(t:TA):Prop:=
 ∀(pos:Pos) (pins:List (Addr×Obj)) (s:Shared) (σ:St) (H:Hp) (Q:List V->Hp->Prop),Inv X pins σ H s->t σ H Q->wpAny (model X.prog X.w) X.A (spliced (backTo pos (starEach es X.env))) (AP X pins σ Q) X.xe s
def PS(X:Cx)(st:Stmt)(t:TS):Prop:=
 ∀(pins:List (Addr×Obj)) (s:Shared) (σ:St) (H:Hp) (D:Ends),Inv X pins σ H s->t D σ H->wpAny (model X.prog X.w) X.A (exec st X.env) (SP X pins D) X.xe s
def c8(X:Cx)(st:List Stmt)(t:TS):Prop:=
 ∀(pins:List (Addr×Obj)) (s:Shared) (σ:St) (H:Hp) (D:Ends),Inv X pins σ H s->t D σ H->wpAny (model X.prog X.w) X.A (execs st X.env) (SP X pins D) X.xe s
def au{α:Type}{t:Sem α}{Q Q':α->Shared->Prop}{M:Model}{A:Around}{E:Value->Shared->Prop}{s:Shared}(h:wpAny M A t Q E s)(hQ:∀a s,Q a s->Q' a s):wpAny M A t Q' E s:=wpAny_mono h hQ λ_ _ x=>x
section
variable {X:Cx}
inductive L5(i:Nat)(σ:St)(H:Hp)(Q:VK):Prop
 |mk (v:_) (_:σ[i]?=some (some v)) (_:Q v H):L5 i σ H Q
def iE(i:Nat):TE:=L5 i
def tC(v:V):TE:=λ_ H Q=>Q v H
def aa5{i:Nat}{x:Str}{pos:Pos}(hN:X.N[i]?=some x)(hv:wN X.env.scope x)(hd:(x==("__debug__":Str))=false:=by decide)(bR:(x==("__classdict__":Str))=false:=by decide):PE X (.Name x pos) (iE i):=by
 intro pins s σ H Q I h;obtain⟨v,e,h⟩:=h;obtain⟨m,hn,hl⟩:=I.loc;obtain⟨u,r,l⟩:=hl i x v hN e hv;have fin:EP X pins σ Q u s:=⟨v,H,I,r,h⟩;rcases l with⟨hk,hm⟩|⟨hk,c,hc,fR⟩
 ·exact wpAny_Name (wpAny_loadName_local I.ok.kind hk hn hm fin) hd
 ·rcases hk with hk|hk
  ·exact wpAny_Name (wpAny_loadName_cell I.ok.kind hk hc fR fin) hd
  ·exact wpAny_Name (wpAny_loadName_free I.ok.kind hk hc fR fin bR) hd
def ak{i j pos}:PE X (.Constant (.int i) j pos) (tC (.int i)):=λ_ _ _ H _ I h=>wpAny_Constant_int ⟨.int i,H,I.tok _,⟨_,rfl⟩,h⟩
def jF{b j pos}:PE X (.Constant (.bool b) j pos) (tC (.bl b)):=λ_ _ _ H _ I h=>Constant_bool ⟨.bl b,H,I,rfl,h⟩
def eu{j pos}:PE X (.Constant .none j pos) (tC .aI):=λ_ _ _ H _ I h=>Constant_none ⟨.aI,H,I,rfl,h⟩
def eA{x j pos}:PE X (.Constant (.str x) j pos) (tC (.str x)):=λ_ _ _ H _ I h=>Calls.Constant_str ⟨.str x,H,I.tok _,⟨_,rfl⟩,h⟩
def Gl(X:Cx)(x:Str):Prop:=X.env.kindOf x=some .globalImplicit
def sD{E:Value->Shared->Prop}{pins:List (Addr×Obj)}{s:Shared}{σ:St}{H:Hp}{x:Str}{u:Value}{pos:Pos}{Q:Value->Shared->Prop}(I:Inv X pins σ H s)(hg:Gl X x)(hm:X.mg x=some u)(h:Q u s)
  (hd:(x==("__debug__":Str))=false:=by decide):wpAny (model X.prog X.w) X.A (eval (.Name x pos) X.env) Q E s:=
 Calls.Name_function_global I.ok.kind hg (Calls.loadGlobal_global (by rw[I.ok.glob];exact I.mod.glob.keeps I.bk) hm h) hd
def oy{E:Value->Shared->Prop}{pins:List (Addr×Obj)}{s:Shared}{σ:St}{H:Hp}{x:Str}{u:Value}{pos:Pos}{Q:Value->Shared->Prop}(I:Inv X pins σ H s)(hg:Gl X x)(hm:X.mg x=none)(hv:bootBuiltins x=some u)(h:Q u s)
  (hn:x≠"__name__":=by decide)(hd:(x==("__debug__":Str))=false:=by decide):wpAny (model X.prog X.w) X.A (eval (.Name x pos) X.env) Q E s:=by
 obtain⟨mb,h1,h2⟩:=I.mod.blt;exact Calls.Name_function_global I.ok.kind hg (Calls.loadGlobal_builtin (by rw[I.ok.glob];exact I.mod.glob.keeps I.bk) hm (by rw[I.ok.blt];exact h1.keeps I.bk) ((h2 x hn).trans hv) h) hd
def gR{x:Str}{v:V}{u:Value}{pos:Pos}(hg:Gl X x)(hm:X.mg x=some u)(r:RelV v u)(hd:(x==("__debug__":Str))=false:=by decide):PE X (.Name x pos) (tC v):=
 λ_ _ _ H _ I h=>sD I hg hm ⟨v,H,I,r,h⟩ hd
def vo{x:Str}{v:V}{u:Value}{pos:Pos}(hg:Gl X x)(hm:X.mg x=none)(hv:bootBuiltins x=some u)(r:RelV v u)(hn:x≠"__name__":=by decide)(hd:(x==("__debug__":Str))=false:=by decide):PE X (.Name x pos) (tC v):=
 λ_ _ _ H _ I h=>oy I hg hm hv ⟨v,H,I,r,h⟩ hn hd
variable {a b:Expr}{ta tb:TE}{pos:Pos}
def PC(X:Cx)(op:CmpOp)(a b:Expr)(t:TE):Prop:=
 ∀(pins:List (Addr×Obj)) (s:Shared) (σ:St) (H:Hp) (Q:VK),Inv X pins σ H s->t σ H Q->
  wpAny (model X.prog X.w) X.A (eval a X.env) (λv s₁=>wpAny (model X.prog X.w) X.A (eval b X.env) (λu s₂=>wpAny (model X.prog X.w) X.A (compareOp op v u) (EP X pins σ Q) X.xe s₂) X.xe s₁) X.xe s
inductive Cr(Q:Bool->Hp->Prop)(x:V)(H1:Hp):Prop
 |mk (c:Bool) (_:x=.bl c) (_:Q c H1):Cr Q x H1
def tB(t:TE):TT:=λσ H Q=>t σ H λx H1=>Cr Q x H1
def AM{op:CmpOp}{t:TE}(h:PC X op a b t)(h1:behindInMarks op b=false:=by first|exact aeK _ (by decide) (by decide)|rfl):PT X (.Compare a [op] [b] pos) (tB t):=by
 intro pins s σ H Q I hw;refine wpAny_isTrue_Compare1 (au (h pins s σ H _ I hw) λv s1 h1=>au h1 λu s2 h2=>au h2 λc s3 ⟨x,H1,I1,r1,q1⟩=>?_) h1;obtain⟨d,rfl,q⟩:=q1;cases r1;exact wpAny_truthy_bool ⟨H1,I1,q⟩
def iY{e:Expr}{t:TE}(h:PE X e t)(he:∀whole,isTrue e X.env whole=(do let v<-whole;standAt e.pos;holding [v] (truthy v)):=by intro _;rfl):PT X e (tB t):=by
 intro pins s σ H Q I hw;refine isTrue_plain (au (h pins s σ H _ I hw) λv s1 ⟨x,H1,I1,r1,q1⟩=>?_) (he _);obtain⟨d,rfl,q⟩:=q1;cases r1;exact wpAny_truthy_bool ⟨H1,I1,q⟩
variable {tA wU:TT}{rest:List Expr}
def adu(t u:TT):TT:=λσ H Q=>t σ H λc H1=>if c=true then u σ H1 Q else Q false H1
def tOr(t u:TT):TT:=λσ H Q=>t σ H λc H1=>if c=true then Q true H1 else u σ H1 Q
def adv(t:TT):TT:=λσ H Q=>t σ H λc H1=>Q (!c) H1
def qt(ha:PT X a tA):PW X (.BoolOp .And [a] pos) tA:=by
 intro wh pins s σ H Q I h;refine isTrue_and (au (ha pins s σ H Q I h) λc s1 e=>?_);cases c with
 |true=>exact isTrue_and_nil e
 |false=>exact e
def ij(ha:PT X a tA):PW X (.BoolOp .Or [a] pos) tA:=by
 intro wh pins s σ H Q I h;refine isTrue_or (au (ha pins s σ H Q I h) λc s1 e=>?_);cases c with
 |false=>exact isTrue_or_nil e
 |true=>exact e
def oz(ha:PT X a tA)(hb:PW X (.BoolOp .And (b::rest) pos) wU):PW X (.BoolOp .And (a::b::rest) pos) (adu tA wU):=by
 intro wh pins s σ H Q I h;refine isTrue_and (au (ha pins s σ H _ I h) λc s1 ⟨H1,I1,q1⟩=>?_);cases c with
 |true=>exact hb wh pins s1 σ H1 Q I1 q1
 |false=>exact⟨H1,I1,q1⟩
def gW(ha:PT X a tA)(hb:PW X (.BoolOp .Or (b::rest) pos) wU):PW X (.BoolOp .Or (a::b::rest) pos) (tOr tA wU):=by
 intro wh pins s σ H Q I h;refine isTrue_or (au (ha pins s σ H _ I h) λc s1 ⟨H1,I1,q1⟩=>?_);cases c with
 |true=>exact⟨H1,I1,q1⟩
 |false=>exact hb wh pins s1 σ H1 Q I1 q1
def mO(ha:PT X a tA):PT X (.UnaryOp .Not a pos) (adv tA):=by
 intro pins s σ H Q I h;exact isTrue_not (ha pins s σ H (λc H1=>Q (!c) H1) I h)
def acr(ta tb:TE):TE:=λσ H Q=>ta σ H λx H1=>∃c,x=.bl c/\if c=true then tb σ H1 Q else Q (.bl false) H1
def adw(ta tb:TE):TE:=λσ H Q=>ta σ H λx H1=>∃c,x=.bl c/\if c=true then Q (.bl true) H1 else tb σ H1 Q
def L7{op}{t:TE}(h:PE X a t):PE X (.BoolOp op [a] pos) t:=λpins s σ H Q I hw=>BoolOp_one (h pins s σ H Q I hw)
def aa6(ha:PE X a ta)(hb:PE X (.BoolOp .And (b::rest) pos) tb):PE X (.BoolOp .And (a::b::rest) pos) (acr ta tb):=by
 intro pins s σ H Q I h;refine BoolOp_and (au (ha pins s σ H _ I h) λv s1 ⟨x,H1,I1,r1,q1⟩=>?_);obtain⟨c,rfl,q1⟩:=q1;cases r1;refine wpAny_truthy_bool ?_;cases c with
 |true=>exact hb pins s1 σ H1 Q I1 q1
 |false=>exact⟨.bl false,H1,I1,rfl,q1⟩
def acs(ha:PE X a ta)(hb:PE X (.BoolOp .Or (b::rest) pos) tb):PE X (.BoolOp .Or (a::b::rest) pos) (adw ta tb):=by
 intro pins s σ H Q I h;refine BoolOp_or (au (ha pins s σ H _ I h) λv s1 ⟨x,H1,I1,r1,q1⟩=>?_);obtain⟨c,rfl,q1⟩:=q1;cases r1;refine wpAny_truthy_bool ?_;cases c with
 |false=>exact hb pins s1 σ H1 Q I1 q1
 |true=>exact⟨.bl true,H1,I1,rfl,q1⟩
def tIf(t:TT)(ta tb:TE):TE:=λσ H Q=>t σ H λc H1=>if c=true then ta σ H1 Q else tb σ H1 Q
def Wm{c:Expr}(hc:PT X c tA)(ha:PE X a ta)(hb:PE X b tb):PE X (.IfExp c a b pos) (tIf tA ta tb):=by
 intro pins s σ H Q I h;refine wpAny_IfExp (au (hc pins s σ H _ I h) λd s1 ⟨H1,I1,q1⟩=>?_);cases d with
 |true=>exact ha pins s1 σ H1 Q I1 q1
 |false=>exact hb pins s1 σ H1 Q I1 q1
end
def af(K:PySem.W.Frag)(H:Hp)(a:Addr)(xs:List V):Prop:=
 Rd H a (.lst xs)\/
  ∃(o:Obj) (ai:Array Value) (n:Nat),K.lookup a=some o/\o.cls=.type "list"/\o.dict=none/\o.data=.seq ai n/\ai.size<=sizeLine/\Vals xs ai.toList
def bt(K:PySem.W.Frag)(H:Hp)(a:Addr)(xs:List V):Prop:=
 Rd H a (.tup xs)\/
  ∃(o:Obj) (ai:Array Value) (n:Nat),K.lookup a=some o/\o.cls=.type "tuple"/\o.data=.seq ai n/\ai.size<=sizeLine/\Vals xs ai.toList
def adx:Value->Option V
 |.none=>some .aI
 |.bool b=>some (.bl b)
 |.int i _=>some (.int i)
 |.str x _=>some (.str x)
 |.bytes b _=>some (.gZ b)
 |.float b _=>some (.oY b)
 |.ref a=>some (.ref a)
 |.type n=>some (.ty n)
 |_=>none
def RelV.abs{x:V}{u:Value}(r:RelV x u):adx u=some x:=by
 cases x with
 |aI=>cases r;rfl
 |bl _=>cases r;rfl
 |int _=>obtain⟨t,rfl⟩:=r;rfl
 |str _=>obtain⟨t,rfl⟩:=r;rfl
 |gZ _=>obtain⟨t,rfl⟩:=r;rfl
 |oY _=>obtain⟨t,rfl⟩:=r;rfl
 |ref _=>cases r;rfl
 |ty _=>cases r;rfl
def RelV.inj{x y:V}{u:Value}(r:RelV x u)(q:RelV y u):x=y:=Zf (r.abs.symm.trans q.abs)
def Vals.inj:∀{xs ys:List V}{us:List Value},Vals xs us->Vals ys us->xs=ys
 |_,_,_,.nil,.nil=>rfl
 |_,_,_,.cons r t,.cons r' t'=>by rw[r.inj r',Vals.inj t t']
section
variable {X:Cx}{pins:List (Addr×Obj)}{σ:St}{H:Hp}{s:Shared}{a:Addr}{xs ys:List V}
def af.of{K:PySem.W.Frag}(h:H a=some (.lst xs)):af K H a xs:=.inl (.inl h)
def bt.of{K:PySem.W.Frag}(h:H a=some (.tup xs)):bt K H a xs:=.inl (.inl h)
def Inv.list(I:Inv X pins σ H s)(h:af X.K H a xs):∃ai:List Value,Vals xs ai/\PlainL s.heap a ai.toArray/\xs.length<=sizeLine:=by
 rcases h with h|⟨o,ai,n,hk,hc,hd,hs,hz,r⟩
 ·obtain⟨z,ai,n,r,e⟩:=h.ok I.ao;exact⟨ai,r,⟨_,n,e,rfl,rfl,rfl⟩,z⟩
 ·refine⟨ai.toList,r,⟨o,n,I.cG a o hk,hc,hd,by simpa using hs⟩,?_⟩;have e:=r.length;simp only[Array.length_toList]at e;omega
def Inv.tuple(I:Inv X pins σ H s)(h:bt X.K H a xs):∃ai:List Value,Vals xs ai/\IsTup s.heap a ai.toArray/\xs.length<=sizeLine:=by
 rcases h with h|⟨o,ai,n,hk,hc,hs,hz,r⟩
 ·obtain⟨z,ai,r,p⟩:=h.ok I.ao;exact⟨ai,r,p,z⟩
 ·refine⟨ai.toList,r,⟨o,I.cG a o hk,hc,n,by simpa using hs⟩,?_⟩;have e:=r.length;simp only[Array.length_toList]at e;omega
def Inv.IT(I:Inv X pins σ H s)(h:af X.K H a xs)(h':af X.K H a ys):xs=ys:=by
 obtain⟨ai,r,⟨o,n,e,_,_,d⟩,_⟩:=I.list h;obtain⟨its',r',⟨o',n',e',_,_,d'⟩,_⟩:=I.list h';rw[e]at e';cases e';rw[d]at d';injection d' with d1 _
 have:ai=its':=by simpa using congrArg Array.toList d1
 subst this;exact r.inj r'
def Inv.Uu(I:Inv X pins σ H s)(h:bt X.K H a xs)(h':bt X.K H a ys):xs=ys:=by
 obtain⟨ai,r,⟨o,e,_,n,d⟩,_⟩:=I.tuple h;obtain⟨its',r',⟨o',e',_,n',d'⟩,_⟩:=I.tuple h';rw[e]at e';cases e';rw[d]at d';injection d' with d1 _
 have:ai=its':=by simpa using congrArg Array.toList d1
 subst this;exact r.inj r'
end
abbrev Cx.cC(X:Cx)(E:Value->Shared->Prop):Cx:={X with xe:=E}
abbrev Cx.gj(X:Cx):Cx:=X.cC λ_ _=>False
def Cx.Ok.cC{X:Cx}(ok:X.Ok)(E:Value->Shared->Prop):(X.cC E).Ok:=
 ⟨ok.mod,ok.kind,ok.glob,ok.blt,ok.above,ok.inj,ok.has,ok.cab,ok.hd,ok.frames,ok.tO,ok.Cq,ok.bs,ok.iO,ok.kq,ok.tE,ok.gF,ok.nu⟩
def Cx.Ok.fP{X:Cx}{E:Value->Shared->Prop}(ok:(X.cC E).Ok):X.Ok:=
 ⟨ok.mod,ok.kind,ok.glob,ok.blt,ok.above,ok.inj,ok.has,ok.cab,ok.hd,ok.frames,ok.tO,ok.Cq,ok.bs,ok.iO,ok.kq,ok.tE,ok.gF,ok.nu⟩
section
variable {X:Cx}{pins:List (Addr×Obj)}{σ:St}{H:Hp}{s:Shared}{E:Value->Shared->Prop}
def Inv.cC(I:Inv X pins σ H s)(E:Value->Shared->Prop):Inv (X.cC E) pins σ H s:=⟨I.ok.cC E,I.os,I.bare,I.base,I.loc,I.cell,I.free,I.eC,I.pin,I.ao,I.len⟩
def Inv.fP(I:Inv (X.cC E) pins σ H s):Inv X pins σ H s:=⟨I.ok.fP,I.os,I.bare,I.base,I.loc,I.cell,I.free,I.eC,I.pin,I.ao,I.len⟩
def SP.fP{D:Ends}{f:Flow}{s':Shared}(h:SP (X.cC E) pins D f s'):SP X pins D f s':=by
 cases f with
 |next=>obtain⟨σ',H',I,q⟩:=h;exact⟨σ',H',I.fP,q⟩
 |brk=>obtain⟨σ',H',I,q⟩:=h;exact⟨σ',H',I.fP,q⟩
 |cont=>obtain⟨σ',H',I,q⟩:=h;exact⟨σ',H',I.fP,q⟩
 |ret u=>obtain⟨v,σ',H',I,r,q⟩:=h;exact⟨v,σ',H',I.fP,r,q⟩
def c8.gj{st:List Stmt}{t:TS}(h:c8 X.gj st t):c8 X st t:=λpins s σ H D I hw=>
 wpAny_mono (h pins s σ H D (I.cC _) hw) (λ_ _ q=>q.fP) λ_ _ z=>Zu z
end
section
variable {X:Cx}{st:Stmt}{rest:List Stmt}{t u:TS}{e:Expr}{te:TE}{pos:Pos}
def acu:TS:=λD σ H=>D.nx σ H
def oN(t u:TS):TS:=λD σ H=>t {D with nx:=u D} σ H
def bx:c8 X [] acu:=λ_ _ σ H _ I h=>wpAny_execs_nil ⟨σ,H,I,h⟩
def bJ(h1:PS X st t)(h2:c8 X rest u):c8 X (st::rest) (oN t u):=by
 intro pins s σ H D I h;refine wpAny_execs_cons (au (h1 pins s σ H {D with nx:=u D} I h) λf s1 q=>?_);cases f with
 |next=>
  obtain⟨σ',H',I',q⟩:=q;exact h2 pins s1 σ' H' D I' q
 |ret v=>exact q
 |brk=>exact q
 |cont=>exact q
def bH(h1:PS X st t):c8 X [st] t:=by
 intro pins s σ H D I h;refine wpAny_execs_cons (au (h1 pins s σ H D I h) λf s1 q=>?_);cases f with
 |next=>exact wpAny_execs_nil q
 |ret v=>exact q
 |brk=>exact q
 |cont=>exact q
def acv:TS:=λD σ H=>D.ct σ H
def SJ:PS X (.Continue pos) acv:=λ_ _ σ H _ I h=>wpAny_Continue ⟨σ,H,I,h⟩
def Inv.quiet{pins:List (Addr×Obj)}{σ:St}{H:Hp}{s:Shared}(I:Inv X pins σ H s):interactive X.env=false:=by simp[interactive,I.ok.kind]
def Ng(te:TE):TS:=λD σ H=>te σ H λ_ H1=>D.nx σ H1
def bM(he:PE X e te)(hs:swapsWith e none pos.line X.env=pure false:=by rfl):PS X (.Expr e pos) (Ng te):=by
 intro pins s σ H D I h;exact wpAny_Expr_any (au (he pins s σ H _ I h) λv s1 ⟨x,H1,I1,r1,q1⟩=>⟨σ,H1,I1,q1⟩) I.quiet hs
def NO(te:TE):TS:=λD σ H=>te σ H D.rt
def ik(he:PE X e te):PS X (.Return (some e) pos) (NO te):=by
 intro pins s σ H D I h;exact wpAny_Return_some (au (he pins s σ H _ I h) λv s1 ⟨x,H1,I1,r1,q1⟩=>⟨x,σ,H1,I1,r1,q1⟩)
def NQ(c:TT)(t u:TS):TS:=λD σ H=>c σ H λb H1=>if b=true then t D σ H1 else u D σ H1
def bo{c:Expr}{a b:List Stmt}{tc:TT}(hc:PT X c tc)(ha:c8 X a t)(hb:c8 X b u):PS X (.If c a b pos) (NQ tc t u):=by
 intro pins s σ H D I h;refine wpAny_If (au (hc pins s σ H _ I h) λd s1 ⟨H1,I1,q1⟩=>?_);cases d with
 |true=>exact ha pins s1 σ H1 D I1 q1
 |false=>exact hb pins s1 σ H1 D I1 q1
def aa7:TS:=λ_ _ _=>False
def mC:PS X st aa7:=λ_ _ _ _ _ _ h=>h.elim
end
abbrev TG:=V->St->Hp->(St->Hp->Prop)->Prop
abbrev ny:=List V->St->Hp->(St->Hp->Prop)->Prop
def PG(X:Cx)(target:Expr)(t:TG):Prop:=
 ∀(pins:List (Addr×Obj)) (s:Shared) (σ:St) (H:Hp) (v:V) (u:Value) (Q:St->Hp->Prop),Inv X pins σ H s->RelV v u->t v σ H Q->
  wpAny (model X.prog X.w) X.A (assign target X.env u) (λ_ s'=>∃σ' H',Inv X pins σ' H' s'/\Q σ' H') X.xe s
def tQ(X:Cx)(ts:List Expr)(t:ny):Prop:=
 ∀(pins:List (Addr×Obj)) (s:Shared) (σ:St) (H:Hp) (vs:List V) (us:List Value) (Q:St->Hp->Prop),Inv X pins σ H s->Vals vs us->t vs σ H Q->
  wpAny (model X.prog X.w) X.A (assignInOrder ((assignEach ts X.env).map (·.2)) us) (λ_ s'=>∃σ' H',Inv X pins σ' H' s'/\Q σ' H') X.xe s
abbrev tG:=V->V->V->Hp->(Hp->Prop)->Prop
def BQ(X:Cx)(t:tG):Prop:=
 ∀(pins:List (Addr×Obj)) (s:Shared) (σ:St) (H:Hp) (o i v:V) (ov iv u:Value) (Q:Hp->Prop),Inv X pins σ H s->RelV o ov->RelV i iv->RelV v u->t o i v H Q->
  wpAny (model X.prog X.w) X.A (setItem ov iv u) (λ_ s'=>∃H',Inv X pins σ H' s'/\Q H') X.xe s
abbrev qW:=V->V->Hp->VK->Prop
def wV(X:Cx)(op:Operator)(t:qW):Prop:=
 ∀(pins:List (Addr×Obj)) (s:Shared) (σ:St) (H:Hp) (x y:V) (v u:Value) (Q:VK),Inv X pins σ H s->RelV x v->RelV y u->t x y H Q->
  wpAny (model X.prog X.w) X.A (inplaceOp op v u) (EP X pins σ Q) X.xe s
section
variable {X:Cx}{pos:Pos}
def jG(i:Nat):TG:=λv σ H Q=>Q (σ.set i (some v)) H
def a7{i:Nat}{x:Str}(hN:X.N.Nodup)(hi:X.N[i]?=some x)(hx:Loc X.env.scope x)(hf:X.fn x=true\/X.env.scope.names.lookup x=some .local:=by first|exact .inl rfl|exact .inr rfl|assumption):PG X (.Name x pos) (jG i):=by
 intro pins s σ H v u Q I r h;exact wpAny_assign_Name (kO I hN hi hx r (λs' I'=>⟨_,H,I',h⟩) hf)
def ady:ny:=λvs σ H Q=>vs=[]/\Q σ H
def acw(t:TG)(u:ny):ny:=λvs σ H Q=>∃v r,vs=v::r/\t v σ H λσ' H'=>u r σ' H' Q
def gS:tQ X [] ady:=by
 intro pins s σ H vs us Q I r h;obtain⟨e,h⟩:=h;subst e;cases r;exact assignInOrder_nil ⟨σ,H,I,h⟩
def bX{e:Expr}{es:List Expr}{t:TG}{u:ny}(h1:PG X e t)(h2:tQ X es u)
  (hs:(assignEach (e::es) X.env).map (·.2)=assign e X.env::(assignEach es X.env).map (·.2):=by rfl):tQ X (e::es) (acw t u):=by
 intro pins s σ H vs us Q I r h;obtain⟨v,vr,e1,h⟩:=h;subst e1;cases r with
 |cons r rr=>
  rw[hs];refine assignInOrder_cons (au (h1 pins s σ H _ _ _ I r h) λ_ s1 ⟨σ1,H1,I1,q1⟩=>?_);exact h2 pins s1 σ1 H1 _ _ Q I1 rr q1
def NR(K:PySem.W.Frag)(n:Nat)(t:ny):TG:=λv σ H Q=>∃a xs,v=.ref a/\bt K H a xs/\xs.length=n/\t xs σ H Q
def gU{es:List Expr}{k:Nat}{t:ny}{n:Nat}(hc:X.calm=true)(h:tQ X es t)
  (hn:(assignEach es X.env).length=n:=by rfl)(bT:(assignEach es X.env).findIdx? (·.1)=none:=by rfl):PG X (.Tuple es k pos) (NR X.K n t):=by
 intro pins s σ H v u Q I r hw;obtain⟨a,xs,e1,hq,hl,hw⟩:=hw;subst e1;cases r;obtain⟨ai,rv,ht,hz⟩:=I.tuple hq;refine assign_Tuple_tuple (I.ok.hd hc) ht (by simp[hn, <-hl,rv.length]) bT λh' hx=>?_;have I1:Inv X pins σ H {s with heap:=h'}:=I.kept (t':=s.toks) λb o e=>hx b o (Zm (Zh e)) e;exact h pins _ σ H xs _ Q I1 (by simpa using rv) hw
def adz(to ti:TE)(t:tG):TG:=λv σ H Q=>to σ H λo H1=>ti σ H1 λi H2=>t o i v H2 λH3=>Q σ H3
def AN{o i:Expr}{to ti:TE}{t:tG}(ho:PE X o to)(hi:PE X i ti)(hs:BQ X t)
  (ha:∀v,assign (.Subscript o i pos) X.env v=(do
   let ov<-holding [v] (eval o X.env)
   let iv<-holding [v,ov] (eval i X.env)
   standAt pos
   holding [v,ov,iv] (setItem ov iv v)
   release [v,ov,iv] []):=by intro _;rfl):PG X (.Subscript o i pos) (adz to ti t):=by
 intro pins s σ H v u Q I r h;rw[ha];refine wpAny_bind (wpAny_holding (au (ho pins s σ H _ I h) λov s1 ⟨x,H1,I1,r1,q1⟩=>?_));refine wpAny_bind (wpAny_holding (au (hi pins s1 σ H1 _ I1 q1) λiv s2 ⟨y,H2,I2,r2,q2⟩=>?_));refine wpAny_bind (wpAny_standAt (wpAny_bind (wpAny_holding (au (hs pins s2 σ H2 x y v ov iv u _ I2 r1 r2 r q2) λ_ s3 ⟨H3,I3,q3⟩=>?_))));exact wpAny_release ⟨σ,H3,I3,q3⟩
def mV(te:TE)(g:TG):TS:=λD σ H=>te σ H λx H1=>g x σ H1 D.nx
def jB{tg e:Expr}{te:TE}{g:TG}(he:PE X e te)(hg:PG X tg g)(hs:swapsWithSole [tg] e pos.line X.env=pure false:=by rfl)(hw:swappedStores [tg] e X.env=pure none:=by rfl)
  (h1:(assignEach [tg] X.env).map (·.2)=[assign tg X.env]:=by rfl):PS X (.Assign [tg] e pos) (mV te g):=by
 intro pins s σ H D I h;refine wpAny_Assign_stores (au (he pins s σ H _ I h) λv s1 ⟨x,H1,I1,r1,q1⟩=>?_) hs hw;rw[h1];exact au (hg pins s1 σ H1 x v _ I1 r1 q1) λ_ s2 q=>q
def b9{i:Nat}{x:Str}{e:Expr}{te:TE}{pos':Pos}(hN:X.N.Nodup)(hi:X.N[i]?=some x)(hx:Loc X.env.scope x)(he:PE X e te)(hs:swapsWith e (some (.Name x pos')) pos.line X.env=pure false:=by rfl)(hf:X.fn x=true\/X.env.scope.names.lookup x=some .local:=by first|exact .inl rfl|exact .inr rfl|assumption):
  PS X (.Assign [.Name x pos'] e pos) (mV te (jG i)):=by
 intro pins s σ H D I h;refine wpAny_Assign_Name (au (he pins s σ H _ I h) λv s1 ⟨y,H1,I1,r1,q1⟩=>?_) hs;exact kO I1 hN hi hx r1 (λs2 I2=>⟨_,H1,I2,q1⟩) hf
def adA(i:Nat)(te:TE)(ti:qW):TS:=λD σ H=>∃x,σ[i]?=some (some x)/\te σ H λy H1=>ti x y H1 λz H2=>D.nx (σ.set i (some z)) H2
def aa8{i:Nat}{x:Str}{e:Expr}{te:TE}{op:Operator}{ti:qW}{pos':Pos}(hN:X.N.Nodup)(hi:X.N[i]?=some x)(hx:Loc X.env.scope x)(he:PE X e te)(ho:wV X op ti)(hf:X.fn x=true\/X.env.scope.names.lookup x=some .local:=by first|exact .inl rfl|exact .inr rfl|assumption):
  PS X (.AugAssign (.Name x pos') op e pos) (adA i te ti):=by
 intro pins s σ H D I h;obtain⟨v,e1,h⟩:=h;obtain⟨m,hn,hl⟩:=I.loc;have b5:wN X.env.scope x:=by rcases hx with k|k;exact .inl k;exact .inr (.inl k)
 obtain⟨u,r,l⟩:=hl i x v hi e1 b5;refine wpAny_AugAssign_Name ?_
 have go:wpAny (model X.prog X.w) X.A (eval e X.env) (λw s₂=>wpAny (model X.prog X.w) X.A (inplaceOp op u w) (λr s₃=>wpAny (model X.prog X.w) X.A (storeName X.env x r) (λ_=>SP X pins D .next) X.xe s₃) X.xe s₂) X.xe s:=by
  refine au (he pins s σ H _ I h) λw s1 ⟨y,H1,I1,r1,q1⟩=>?_;refine au (ho pins s1 σ H1 v y u w _ I1 r r1 q1) λz s2 ⟨zv,H2,I2,r2,q2⟩=>?_;exact kO I2 hN hi hx r2 (λs3 I3=>⟨_,H2,I3,q2⟩) hf
 rcases l with⟨hk,hm⟩|⟨hk,c,hc,fR⟩
 ·exact wpAny_loadName_local I.ok.kind hk hn hm go
 ·rcases hk with hk|hk
  ·exact wpAny_loadName_cell I.ok.kind hk hc fR go
  ·rcases hx with k|k
   ·have:X.env.scope.names.lookup x=some .free:=hk;rw[k]at this;cases this
   ·have:X.env.scope.names.lookup x=some .free:=hk;rw[k]at this;cases this
def acx(to ti te:TE)(wq:V->V->Hp->VK->Prop)(wW:qW)(wu:tG):TS:=λD σ H=>to σ H λo H1=>ti σ H1 λi H2=>wq o i H2 λx H3=>te σ H3 λy H4=>wW x y H4 λz H5=>wu o i z H5 λH6=>D.nx σ H6
def NS(X:Cx)(t:V->V->Hp->VK->Prop):Prop:=
 ∀(pins:List (Addr×Obj)) (s:Shared) (σ:St) (H:Hp) (o i:V) (ov iv:Value) (Q:VK),Inv X pins σ H s->RelV o ov->RelV i iv->t o i H Q->
  wpAny (model X.prog X.w) X.A (getItem ov iv) (EP X pins σ Q) X.xe s
def Yg{o i e:Expr}{to ti te:TE}{wq:V->V->Hp->VK->Prop}{wW:qW}{wu:tG}{op:Operator}{wx:Pos}(ho:PE X o to)(hi:PE X i ti)(hg:NS X wq)(he:PE X e te)(hp:wV X op wW)(hs:BQ X wu)
  (ha:∀ov iv new,augStore i ov iv new=(do holding [new,ov,iv] (setItem ov iv new);release [new,ov,iv] [];pure .next):=by intros;rfl):PS X (.AugAssign (.Subscript o i wx) op e pos) (acx to ti te wq wW wu):=by
 intro pins s σ H D I h;refine wpAny_AugAssign_SubscriptAny (au (ho pins s σ H _ I h) λov s1 ⟨x1,H1,I1,r1,q1⟩=>?_) ha;refine au (hi pins s1 σ H1 _ I1 q1) λiv s2 ⟨x2,H2,I2,r2,q2⟩=>?_;refine au (hg pins s2 σ H2 x1 x2 ov iv _ I2 r1 r2 q2) λold s3 ⟨x3,H3,I3,r3,q3⟩=>?_;refine au (he pins s3 σ H3 _ I3 q3) λv s4 ⟨x4,H4,I4,r4,q4⟩=>?_;refine au (hp pins s4 σ H4 x3 x4 old v _ I4 r3 r4 q4) λnew s5 ⟨x5,H5,I5,r5,q5⟩=>?_;exact au (hs pins s5 σ H5 x1 x2 x5 ov iv new _ I5 r1 r2 r5 q5) λ_ s6 ⟨H6,I6,q6⟩=>⟨σ,H6,I6,q6⟩
def OG(f:Int->Int->Int):qW:=λx y H Q=>∃i j,x=.int i/\y=.int j/\Q (.int (f i j)) H
def aa9:wV X .Add (OG λi j=>i+j):=by
 intro pins s σ H x y v u Q I r1 r2 h;obtain⟨i,j,e1,e2,q⟩:=h;subst e1;subst e2;obtain⟨t,rfl⟩:=r1;obtain⟨t',rfl⟩:=r2;exact iadd_int ⟨.int _,H,I.tok _,⟨_,rfl⟩,q⟩
def aba:wV X .Sub (OG λi j=>i-j):=by
 intro pins s σ H x y v u Q I r1 r2 h;obtain⟨i,j,e1,e2,q⟩:=h;subst e1;subst e2;obtain⟨t,rfl⟩:=r1;obtain⟨t',rfl⟩:=r2;exact isub_int ⟨.int _,H,I.tok _,⟨_,rfl⟩,q⟩
end
section
variable {X:Cx}{pos:Pos}
def L8(c:TT)(tb:TS):TS:=λD σ H=>∃W:Nat->St->Hp->Prop,(∃m,W m σ H)/\∀m σ H,W m σ H->
 c σ H λb H1=>if b=true then∃N:St->Hp->Prop,(∀σ' H',N σ' H'->∃m',m'<m/\W m' σ' H')/\tb {D with nx:=N,ct:=N,bk:=D.nx} σ H1 else D.nx σ H1
def va{c:Expr}{body:List Stmt}{tc:TT}{tb:TS}(hp:PassesOwn (model X.prog X.w) X.A X.env X.xe)(hc:PT X c tc)(hb:c8 X body tb):PS X (.While c body [] pos) (L8 tc tb):=by
 intro pins s σ H D I h;obtain⟨W,⟨m0,w0⟩,turn⟩:=h;refine wpAny_While (codeAny_whileLoop (λn s'=>∃σ' H',Inv X pins σ' H' s'/\W n σ' H') ?_ m0 ⟨σ,H,I,w0⟩);rintro n s1 ⟨σ1,H1,I1,w1⟩;refine wpAny_passesOwn hp (au (hc pins s1 σ1 H1 _ I1 (turn n σ1 H1 w1)) λb s2 ⟨H2,I2,q2⟩=>?_);cases b with
 |true=>
  obtain⟨N,hN,q2⟩:=q2;rw[if_pos rfl];refine wpAny_passesOwn hp (au (hb pins s2 σ1 H2 _ I2 q2) λf s3 q3=>?_);cases f with
  |next=>
   obtain⟨σ3,H3,I3,n3⟩:=q3;obtain⟨m',hm,w3⟩:=hN σ3 H3 n3;exact⟨m',hm,σ3,H3,I3,w3⟩
  |cont=>
   obtain⟨σ3,H3,I3,n3⟩:=q3;obtain⟨m',hm,w3⟩:=hN σ3 H3 n3;exact⟨m',hm,σ3,H3,I3,w3⟩
  |brk=>exact q3
  |ret v=>exact q3
 |false=>
  rw[if_neg Zj];exact wpAny_execs_nil ⟨σ1,H2,I2,q2⟩
end
structure It where
 go:Nat->Hp->Prop
 e9:Nat->Hp->V->Hp->Prop
 stop:Nat->Hp->Prop
def iG(X:Cx)(pins:List (Addr×Obj))(H:Hp)(b:Addr):Prop:=
 H b=none/\b≠X.env.locals/\b∉X.fs/\(b∈X.ex\/X.s₀.heap.objs.size<=b)/\(∀x c,X.env.cells.lookup x=some c->c≠b)/\∀p∈X.pn++pins,p.1≠b
def Inv.qP{X:Cx}{pins:List (Addr×Obj)}{σ:St}{H H':Hp}{s:Shared}{b:Addr}(I:Inv X pins σ H s)(hb:s.heap.objs.size<=b)(hn:H' b=none):iG X pins H' b:=by
 refine⟨hn,Nat.ne_of_gt (Zv I.lt hb),I.ads hb,.inr (ZQ I.sz hb),λx c e z=>?_,λp hp z=>?_⟩
 ·obtain⟨v,q⟩:=I.cell x c e;exact absurd (Zv q.lt (by rw[z];exact hb)) (Z3 _)
 ·exact absurd (Zv (Zh (I.pin p hp).1) (by rw[z];exact hb)) (Z3 _)
structure Turn(P:Program)(w:World)(K:PySem.W.Frag)(tg:Expr)(J:It)(fp:List Addr)(it:Addr)(tn:Nat->Heap->Prop):Prop where
 mem:it∈fp
 obj:∀i h,tn i h->∀b∈fp,∃o,h.get? b=some o/\∀v,o.data≠.cell v
 keep:∀i h h',tn i h->(∀b∈fp,∀o,h.get? b=some o->h'.get? b=some o)->tn i h'
 item:∀(X:Cx),X.prog=P->X.w=w->X.K=K->X.calm=true->∀(i:Nat) (pins:List (Addr×Obj)) (s:Shared) (σ:St) (H:Hp) (E:Value->Shared->Prop),Inv X pins σ H s->(∀b∈fp,iG X pins H b)->tn i s.heap->J.go i H->
  wpAny (model P w) X.A (pyNext (.ref it)) (λr s1=>∃u,r=some u/\
   wpAny (model P w) X.A (letOwnedTupleGo tg (.ref it) u) (λ_ s2=>∃x H',Inv X pins σ H' s2/\RelV x u/\J.e9 i H x H'/\tn (i+1) s2.heap/\∀b∈fp,H' b=none) E s1) E s
 done:∀(X:Cx),X.prog=P->X.w=w->X.K=K->X.calm=true->∀(i:Nat) (pins:List (Addr×Obj)) (s:Shared) (σ:St) (H:Hp) (E:Value->Shared->Prop),Inv X pins σ H s->(∀b∈fp,iG X pins H b)->tn i s.heap->J.stop i H->
  wpAny (model P w) X.A (pyNext (.ref it)) (λr s1=>r=none/\Inv X pins σ H s1) E s
 self:∀(A:Around) (i:Nat) (s:Shared) (Q:Value->Shared->Prop) (E:Value->Shared->Prop),tn i s.heap->Q (.ref it) s->wpAny (model P w) A (pyIter (.ref it)) Q E s
abbrev TI:=St->Hp->(It->Hp->Prop)->Prop
def tR(X:Cx)(pins:List (Addr×Obj))(σ:St)(tg:Expr)(R:It->Hp->Prop)(o8:Value)(s2:Shared):Prop:=
 ∃(it:Addr) (fp:List Addr) (tn:Nat->Heap->Prop) (J:It) (H':Hp),o8=.ref it/\Inv X pins σ H' s2/\Turn X.prog X.w X.K tg J fp it tn/\tn 0 s2.heap/\(∀b∈fp,iG X pins H' b)/\R J H'
def PI(X:Cx)(tg iter:Expr)(wi:TI):Prop:=
 ∀(pins:List (Addr×Obj)) (s:Shared) (σ:St) (H:Hp) (R:It->Hp->Prop),Inv X pins σ H s->wi σ H R->
  wpAny (model X.prog X.w) X.A (eval iter X.env) (λv s1=>wpAny (model X.prog X.w) X.A (pyIter v) (tR X pins σ tg R) X.xe s1) X.xe s
def vR{M:Model}{A:Around}{E:Value->Shared->Prop}{s:Shared}{tg:Expr}{it:Addr}{u:Value}{o:Obj}{n:String}{vs:Array Value}{Q:Unit->Shared->Prop}(ho:s.heap.get? it=some o)(hc:o.cls=.type n)(hd:o.data=.fields vs)
  (hn:["enumerate","zip","dict_itemiterator","dict_reverseitemiterator","odict_iterator","itertools.zip_longest","itertools.pairwise"].contains n=false)(hQ:Q () s):wpAny M A (letOwnedTupleGo tg (.ref it) u) Q E s:=by
 unfold letOwnedTupleGo
 cases tg<;>first
  |exact ZV hQ
  |(cases u<;>first
   |exact ZV hQ
   |(refine wpAny_bind (wpAny_load ho ?_)
     rw[hc,hd];show wpAny M A (if(["enumerate","zip","dict_itemiterator","dict_reverseitemiterator","odict_iterator","itertools.zip_longest","itertools.pairwise"].contains n&&vs[0]? ==some (rawInt _))=true then _ else _) Q E s;rw[if_neg (by intro h;rw[hn,Bool.false_and]at h;cases h)];exact ZV hQ))
def dM(K:PySem.W.Frag)(a:Addr):It:=
 ⟨λi H=>∃xs x,af K H a xs/\xs[i]?=some x,λi H x H'=>H'=H/\∀xs,af K H a xs->xs[i]?=some x,λi H=>∃xs,af K H a xs/\xs.length<=i⟩
def tS(K:PySem.W.Frag)(a:Addr):It:=
 ⟨λi H=>∃xs x,bt K H a xs/\xs[i]?=some x,λi H x H'=>H'=H/\∀xs,bt K H a xs->xs[i]?=some x,λi H=>∃xs,bt K H a xs/\xs.length<=i⟩
def fH(lo:Int)(n:Nat):It:=⟨λi _=>i<n,λi H x H'=>H'=H/\x=.int (lo+i),λi _=>n<=i⟩
def Uv{P:Program}{w:World}{K:PySem.W.Frag}{tg:Expr}(a it:Addr):Turn P w K tg (dM K a) [it] it (λi h=>h.IsListIter it a i) where
 mem:=by simp
 obj:=λi h st b hb=>by
  have e:b=it:=by simpa using hb
  subst e;obtain⟨o,e,c,d⟩:=st;exact⟨o,e,λv z=>by rw[d]at z;cases z⟩
 keep:=λi h h' st k=>st.at λo e=>k it (by simp) o e
 item:=by
  intro X hP hw hK hc i pins s σ H E I hf st hg;subst hP hw hK;obtain⟨xs,x,hq,hx⟩:=hg;obtain⟨ai,rv,p,hz⟩:=I.list hq;obtain⟨u,hu,ru⟩:=rv.get hx;obtain⟨f0,f1,f2,f3,f4,f5⟩:=hf it (by simp);refine wpAny_pyNext_list_item st p.isList (x:=u) (by simpa using hu) λh' aX sb=>?_;have I1:Inv X pins σ H {s with heap:=h'}:=I.turned (t':=s.toks) (λb o hb e=>(sb.2 b hb).trans e) f0 f1 f3 f4 f5;obtain⟨o,e,c,d⟩:=id aX;exact⟨u,rfl,vR (s:={s with heap:=h'}) e c d (by decide) ⟨x,H,I1,ru,⟨rfl,λys hy=>by rw[I.IT hy hq];exact hx⟩,aX,λb hb=>(hf b hb).1⟩⟩
 done:=by
  intro X hP hw hK hc i pins s σ H E I hf st hg;subst hP hw hK;obtain⟨xs,hq,hx⟩:=hg;obtain⟨ai,rv,p,hz⟩:=I.list hq;obtain⟨f0,f1,f2,f3,f4,f5⟩:=hf it (by simp);have hl:=rv.length;exact wpAny_pyNext_list_end (I.ok.hd hc) st p.isList (by simp;omega) λh' eb=>⟨rfl,I.turned (t':=s.toks) (λb o hb e=>eb b o hb e) f0 f1 f3 f4 f5⟩
 self:=λ_ _ _ _ _ st h=>wpAny_pyIter_listiter st h
def Te{P:Program}{w:World}{K:PySem.W.Frag}{tg:Expr}(a it:Addr):Turn P w K tg (tS K a) [it] it (λi h=>h.IsTupleIter it a i) where
 mem:=by simp
 obj:=λi h st b hb=>by
  have e:b=it:=by simpa using hb
  subst e;obtain⟨o,e,c,d⟩:=st;exact⟨o,e,λv z=>by rw[d]at z;cases z⟩
 keep:=λi h h' st k=>st.at λo e=>k it (by simp) o e
 item:=by
  intro X hP hw hK hc i pins s σ H E I hf st hg;subst hP hw hK;obtain⟨xs,x,hq,hx⟩:=hg;obtain⟨ai,rv,p,hz⟩:=I.tuple hq;obtain⟨u,hu,ru⟩:=rv.get hx;obtain⟨f0,f1,f2,f3,f4,f5⟩:=hf it (by simp);refine wpAny_pyNext_tuple_item st (show s.heap.IsTuple a ai.toArray from p) (x:=u) (by simpa using hu) λh' aX sb=>?_;have I1:Inv X pins σ H {s with heap:=h'}:=I.turned (t':=s.toks) (λb o hb e=>(sb.2 b hb).trans e) f0 f1 f3 f4 f5;obtain⟨o,e,c,d⟩:=id aX;exact⟨u,rfl,vR (s:={s with heap:=h'}) e c d (by decide) ⟨x,H,I1,ru,⟨rfl,λys hy=>by rw[I.Uu hy hq];exact hx⟩,aX,λb hb=>(hf b hb).1⟩⟩
 done:=by
  intro X hP hw hK hc i pins s σ H E I hf st hg;subst hP hw hK;obtain⟨xs,hq,hx⟩:=hg;obtain⟨ai,rv,p,hz⟩:=I.tuple hq;obtain⟨f0,f1,f2,f3,f4,f5⟩:=hf it (by simp);have hl:=rv.length;exact wpAny_pyNext_tuple_end (I.ok.hd hc) st (show s.heap.IsTuple a ai.toArray from p) (by simp;omega) λh' eb=>⟨rfl,I.turned (t':=s.toks) (λb o hb e=>eb b o hb e) f0 f1 f3 f4 f5⟩
 self:=λ_ _ _ _ _ st h=>wpAny_pyIter_tupleiter st h
def Tf{P:Program}{w:World}{K:PySem.W.Frag}{tg:Expr}(it:Addr)(lo:Int)(n:Nat):Turn P w K tg (fH lo n) [it] it (λi h=>IsRangeIter h it (lo+(i:Nat)*1) ((n:Int)-(i:Nat)) 1) where
 mem:=by simp
 obj:=λi h st b hb=>by
  have e:b=it:=by simpa using hb
  subst e
  exact⟨_,st,λv z=>by
   have z':Data.fields _=Data.cell v:=z;cases z'⟩
 keep:=λi h h' st k=>k it (by simp) _ st
 item:=by
  intro X hP hw hK hc i pins s σ H E I hf st hg;subst hP hw hK;obtain⟨f0,f1,f2,f3,f4,f5⟩:=hf it (by simp);have W:=Walks.range (prog:=X.prog) (w:=X.w) (I.ok.hd hc) it lo 1 n;refine W.item i s _ _ hg st λv h' tk hv aX kk=>?_;obtain⟨t,rfl⟩:=hv;have I1:Inv X pins σ H {s with heap:=h',toks:=tk}:=I.turned (λb o hb e=>kk b o (by simpa using hb) e) f0 f1 f3 f4 f5;refine⟨_,rfl,vR (s:={s with heap:=h',toks:=tk}) (n:="range_iterator") aX rfl rfl (by decide) ⟨.int (lo+i),H,I1,⟨t,?_⟩,⟨rfl,rfl⟩,aX,λb hb=>(hf b hb).1⟩⟩;rw[Int.mul_one]
 done:=by
  intro X hP hw hK hc i pins s σ H E I hf st hg;subst hP hw hK;obtain⟨f0,f1,f2,f3,f4,f5⟩:=hf it (by simp);exact wpAny_pyNext_range_end (I.ok.hd hc) st (by have:n<=i:=hg;omega) λh' eb=>⟨rfl,I.turned (t':=s.toks) (λb o hb e=>eb b o hb e) f0 f1 f3 f4 f5⟩
 self:=λ_ _ _ _ _ st h=>wpAny_pyIter_rangeiter st h
section
variable {X:Cx}{tg:Expr}
def Nh(K:PySem.W.Frag)(tl:TE):TI:=λσ H R=>tl σ H λx H1=>∃a,x=.ref a/\(∃xs,af K H1 a xs)/\R (dM K a) H1
def BR(K:PySem.W.Frag)(tl:TE):TI:=λσ H R=>tl σ H λx H1=>∃a,x=.ref a/\(∃xs,bt K H1 a xs)/\R (tS K a) H1
def b8{l:Expr}{tl:TE}(hl:PE X l tl):PI X tg l (Nh X.K tl):=by
 intro pins s σ H R I h;refine au (hl pins s σ H _ I h) λv s1 ⟨x,H1,I1,r1,q1⟩=>?_;obtain⟨a,e,⟨xs,hq⟩,q⟩:=q1;subst e;cases r1;obtain⟨ai,rv,p,hz⟩:=I1.list hq;refine wpAny_pyIter_list p.isList ?_;refine⟨s1.heap.objs.size,[s1.heap.objs.size],_,_,H1,rfl,I1.kept (t':=s1.toks) λb o e=>Y7 _ e,Uv a _,⟨_,Zp _ rfl,rfl,rfl⟩,λb hb=>?_,q⟩;have e:b=s1.heap.objs.size:=by simpa using hb
 subst e;exact I1.qP (Y2 _) (I1.ao.fresh (Y2 _))
def AO{l:Expr}{tl:TE}(hl:PE X l tl):PI X tg l (BR X.K tl):=by
 intro pins s σ H R I h;refine au (hl pins s σ H _ I h) λv s1 ⟨x,H1,I1,r1,q1⟩=>?_;obtain⟨a,e,⟨xs,hq⟩,q⟩:=q1;subst e;cases r1;obtain⟨ai,rv,p,hz⟩:=I1.tuple hq;refine wpAny_pyIter_tuple (show s1.heap.IsTuple a ai.toArray from p) ?_;refine⟨s1.heap.objs.size,[s1.heap.objs.size],_,_,H1,rfl,I1.kept (t':=s1.toks) λb o e=>Y7 _ e,Te a _,⟨_,Zp _ rfl,rfl,rfl⟩,λb hb=>?_,q⟩;have e:b=s1.heap.objs.size:=by simpa using hb
 subst e;exact I1.qP (Y2 _) (I1.ao.fresh (Y2 _))
def IV{pins:List (Addr×Obj)}{σ:St}{H:Hp}{s:Shared}{R:It->Hp->Prop}{E:Value->Shared->Prop}{lo hi:Int}{t u v:Tok}{tk:Nat}(I:Inv X pins σ H s)(h1: -(2^ 62)<=lo)(h2:lo<2^ 62)(h3: -(2^ 62)<=hi)(h4:hi<2^ 62)
  (q:R (fH lo (hi-lo).toNat) H):wpAny (model X.prog X.w) X.A (pyIter (.ref s.heap.objs.size)) (tR X pins σ tg R) E {s with heap:=s.heap.push {cls:=.type "range",data:=.fields #[.int lo t,.int hi u,.int 1 v]},toks:=tk}:=by
 refine wpAny_pyIter_range (IsRange.new ..) (small_one h1 h2 h3 h4) ?_;have I1:Inv X pins σ H {s with heap:=s.heap.push {cls:=.type "range",data:=.fields #[.int lo t,.int hi u,.int 1 v]},toks:=tk}:=I.kept λb o e=>Y7 _ e
 refine⟨(s.heap.push {cls:=.type "range",data:=.fields #[.int lo t,.int hi u,.int 1 v]}).objs.size,[(s.heap.push {cls:=.type "range",data:=.fields #[.int lo t,.int hi u,.int 1 v]}).objs.size],_,_,H,rfl,
  I1.kept (t':=tk) λb o e=>Y7 _ e,Tf _ lo (hi-lo).toNat,?_,λb hb=>?_,q⟩
 ·have e1:lo+((0:Nat):Int)*1=lo:=by simp
  have e2:(((hi-lo).toNat:Nat):Int)-((0:Nat):Int)=Builtin.Range.rangeSize lo hi 1:=by rw[rangeSize_one];split<;>omega
  show IsRangeIter _ _ (lo+((0:Nat):Int)*1) ((((hi-lo).toNat:Nat):Int)-((0:Nat):Int)) 1;rw[e1,e2];exact Zp _ rfl
 ·have e:b=(s.heap.push {cls:=.type "range",data:=.fields #[.int lo t,.int hi u,.int 1 v]}).objs.size:=by simpa using hb
  subst e;exact I1.qP (Y2 _) (I1.ao.fresh (Y2 _))
def Ni(ta:TA):TI:=λσ H R=>ta σ H λvs H1=>∃j:Int,vs=[.int j]/\ -(2^ 62)<=j/\j<2^ 62/\R (fH 0 j.toNat) H1
def acy(ta:TA):TI:=λσ H R=>ta σ H λvs H1=>∃i j:Int,vs=[.int i,.int j]/\(-(2^ 62)<=i/\i<2^ 62/\ -(2^ 62)<=j/\j<2^ 62)/\R (fH i (j-i).toNat) H1
def iX{a:Expr}{ta:TA}{p pos:Pos}(hg:Gl X "range")(hm:X.mg "range"=none)(ha:PA X [a] ta)(hs:starEach [a] X.env=[(false,eval a X.env)]:=by rfl):PI X tg (.Call (.Name "range" p) [a] [] pos) (Ni ta):=by
 intro pins s σ H R I h;refine Call_ (oy I hg hm boot_range (PyProof.Rows.callWith_type1 (au (ha pos pins s σ H _ I h) λus s1 ⟨vs,H1,I1,r1,q1⟩=>?_) hs rfl));obtain⟨j,e,q1,q2,q⟩:=q1;subst e;cases r1 with
 |cons r rr=>
  cases rr;obtain⟨t,rfl⟩:=r;exact call_range_1 (IV I1 (by omega) (by omega) q1 q2 (by simpa using q))
def Hn{a b:Expr}{ta:TA}{p pos:Pos}(hg:Gl X "range")(hm:X.mg "range"=none)(ha:PA X [a,b] ta)(hs:starEach [a,b] X.env=[(false,eval a X.env),(false,eval b X.env)]:=by rfl)(lJ:starEach [b] X.env=[(false,eval b X.env)]:=by rfl):
  PI X tg (.Call (.Name "range" p) [a,b] [] pos) (acy ta):=by
 intro pins s σ H R I h;refine Call_ (oy I hg hm boot_range (PyProof.Rows.callWith_type1 (au (ha pos pins s σ H _ I h) λus s1 ⟨vs,H1,I1,r1,q1⟩=>?_) (by rw[hs,lJ]) (by rw[lJ];rfl)));obtain⟨i,j,e,⟨q1,q2,q3,q4⟩,q⟩:=q1;subst e;cases r1 with
 |cons r rr=>
  cases rr with
  |cons r' rr=>
   cases rr;obtain⟨t,rfl⟩:=r;obtain⟨t',rfl⟩:=r';exact call_range_2 (IV I1 q1 q2 q3 q4 q)
def adB(wi:TI)(g:TG)(tb:TS):TS:=λD σ H=>wi σ H λJ H1=>∃W:Nat->Nat->St->Hp->Prop,(∃m,W 0 m σ H1)/\∀i m σ H,W i m σ H->
 (J.stop i H/\D.nx σ H)\/(J.go i H/\∃N:St->Hp->Prop,(∀σ' H',N σ' H'->∃m',m'<m/\W (i+1) m' σ' H')/\∀x H',J.e9 i H x H'->g x σ H' λσ2 H2=>tb {D with nx:=N,ct:=N,bk:=D.nx} σ2 H2)
def jC(fp:List Addr)(h:Heap):List (Addr×Obj):=fp.filterMap λb=>(h.get? b).map λo=>(b,o)
def gN{fp:List Addr}{h:Heap}{b:Addr}{o:Obj}(hb:b∈fp)(e:h.get? b=some o):(b,o)∈jC fp h:=List.mem_filterMap.mpr ⟨b,hb,by rw[e];rfl⟩
def Uw{fp:List Addr}{h:Heap}{p:Addr×Obj}(hp:p∈jC fp h):p.1∈fp/\h.get? p.1=some p.2:=by
 obtain⟨b,hb,e⟩:=List.mem_filterMap.mp hp;cases q:h.get? b with
 |none=>rw[q]at e;cases e
 |some o=>
  rw[q]at e;have e':(b,o)=p:=Zf e;subst e';exact⟨hb,q⟩
def Inv.pinned{pins:List (Addr×Obj)}{σ:St}{H:Hp}{s:Shared}{fp:List Addr}(I:Inv X pins σ H s)(hf:∀b∈fp,iG X pins H b)(ho:∀b∈fp,∃o,s.heap.get? b=some o/\∀v,o.data≠.cell v):Inv X (pins++jC fp s.heap) σ H s:=
 I.Ko λp hp=>(Y6.mp hp).elim (λz=>I.pin p (Za _ z)) λz=>by
  obtain⟨hb,e⟩:=Uw z;obtain⟨f0,f1,f2,_⟩:=hf p.1 hb;obtain⟨o,e',d⟩:=ho p.1 hb;rw[e]at e';cases e';exact⟨e,f0,f1,f2,d⟩
def Inv.j4{pins pl:List (Addr×Obj)}{σ:St}{H:Hp}{s:Shared}(I:Inv X (pins++pl) σ H s):Inv X pins σ H s:=I.Ko λp hp=>I.pin p (Za _ (Zb _ hp))
def cb{iter:Expr}{body:List Stmt}{wi:TI}{g:TG}{tb:TS}{pos:Pos}(hp:PassesOwn (model X.prog X.w) X.A X.env X.xe)(hc:X.calm=true)(hi:PI X tg iter wi)(hg:PG X tg g)(hb:c8 X body tb)
  (hs:∀x,foldedSetIterable iter X.env x=pure x:=by intro _;rfl):PS X (.For tg iter body [] pos) (adB wi g tb):=by
 intro pins s σ H D I h;refine wpAny_For (au (hi pins s σ H _ I h) λv s1 h1=>au h1 λo8 s2 h2=>?_) hs;obtain⟨it,fp,tn,J,H2,e,I2,T,gm,f2,W,⟨m0,w0⟩,turn⟩:=h2;subst e;have BS:∀{H':Hp},(∀b∈fp,H' b=none)->∀b∈fp,iG X pins H' b:=λhn b hb=>⟨hn b hb,(f2 b hb).2⟩;refine codeAny_forLoop_any (λn s'=>∃i σ' H',Inv X pins σ' H' s'/\tn i s'.heap/\(∀b∈fp,H' b=none)/\W i n σ' H') ?_ m0 ⟨0,σ,H2,I2,gm,λb hb=>(f2 b hb).1,w0⟩;rintro n s3 ⟨i,σ3,H3,I3,eG,dX,w3⟩;rcases turn i n σ3 H3 w3 with⟨stop,qn⟩|⟨go,N,hN,step⟩
 ·refine wpAny_passesOwn hp (au (T.done X rfl rfl rfl hc i pins s3 σ3 H3 X.xe I3 (BS dX) eG stop) λr s4 ⟨hr,I4⟩=>?_);subst hr;exact wpAny_execs_nil ⟨σ3,H3,I4,qn⟩
 ·refine wpAny_passesOwn hp (au (T.item X rfl rfl rfl hc i pins s3 σ3 H3 X.xe I3 (BS dX) eG go) λr s4 ⟨u,hr,h4⟩=>?_);subst hr;refine wpAny_passesOwn hp (au h4 λ_ s5 ⟨x,H5,I5,r5,y5,dt,jN⟩=>?_);have jO:=I5.pinned (BS jN) (T.obj _ _ dt);refine wpAny_passesOwn hp (au (hg _ s5 σ3 H5 x u _ jO r5 (step x H5 y5)) λ_ s6 ⟨σ6,H6,I6,q6⟩=>?_);refine wpAny_passesOwn hp (au (hb _ s6 σ6 H6 _ I6 q6) λf s7 q7=>?_)
  have again:∀{σ7:St}{H7:Hp},Inv X (pins++jC fp s5.heap) σ7 H7 s7->N σ7 H7->∃m,m<n/\∃i σ' H',Inv X pins σ' H' s7/\tn i s7.heap/\(∀b∈fp,H' b=none)/\W i m σ' H':=λ{σ7 H7} I7 n7=>by
   obtain⟨m',hm,w7⟩:=hN σ7 H7 n7;refine⟨m',hm,i+1,σ7,H7,I7.j4,T.keep _ _ _ dt λb hb o e=>(I7.pin (b,o) (Za _ (Za _ (gN hb e)))).1,λb hb=>?_,w7⟩;obtain⟨o,e,d⟩:=T.obj _ _ dt b hb;exact(I7.pin (b,o) (Za _ (Za _ (gN hb e)))).2.1
  cases f with
  |next=>obtain⟨σ7,H7,I7,n7⟩:=q7;exact again I7 n7
  |cont=>obtain⟨σ7,H7,I7,n7⟩:=q7;exact again I7 n7
  |brk=>obtain⟨σ7,H7,I7,q7⟩:=q7;exact⟨σ7,H7,I7.j4,q7⟩
  |ret v=>obtain⟨x7,σ7,H7,I7,r7,q7⟩:=q7;exact⟨x7,σ7,H7,I7.j4,r7,q7⟩
end
def eU{K:PySem.W.Frag}{a:Addr}{xs:List V}{g:TG}{tb:TS}{D:Ends}{σ:St}{H:Hp}(Pv:Nat->St->Hp->Prop)(h0:Pv 0 σ H)(hl:∀i σ H,i<=xs.length->Pv i σ H->af K H a xs)
  (hs:∀i x σ H,xs[i]?=some x->Pv i σ H->g x σ H λσ2 H2=>tb {D with nx:=Pv (i+1),ct:=Pv (i+1),bk:=D.nx} σ2 H2)(hd:∀σ H,Pv xs.length σ H->D.nx σ H):
  ∃W:Nat->Nat->St->Hp->Prop,(∃m,W 0 m σ H)/\∀i m σ H,W i m σ H->
   ((dM K a).stop i H/\D.nx σ H)\/((dM K a).go i H/\∃N:St->Hp->Prop,(∀σ' H',N σ' H'->∃m',m'<m/\W (i+1) m' σ' H')/\∀x H',(dM K a).e9 i H x H'->g x σ H' λσ2 H2=>tb {D with nx:=N,ct:=N,bk:=D.nx} σ2 H2):=by
 refine⟨λi m σ H=>m=xs.length-i/\i<=xs.length/\Pv i σ H,⟨xs.length,by simp,Zo _,h0⟩,?_⟩;rintro i m σ H ⟨rfl,hi,p⟩;have q:=hl i σ H hi p;by_cases aR:i<xs.length
 ·refine .inr ⟨⟨xs,xs[i],q,by simp[aR]⟩,Pv (i+1),λσ' H' p'=>⟨xs.length-(i+1),by omega,rfl,aR,p'⟩,λx H' y=>?_⟩;obtain⟨e,y⟩:=y;subst e;exact hs i x σ _ (y xs q) p
 ·have e:i=xs.length:=by omega
  subst e;exact .inl ⟨⟨xs,q,Y2 _⟩,hd σ H p⟩
def Kq{K:PySem.W.Frag}{a:Addr}{xs:List V}{g:TG}{tb:TS}{D:Ends}{σ:St}{H:Hp}(Pv:Nat->St->Hp->Prop)(h0:Pv 0 σ H)(hl:∀i σ H,i<=xs.length->Pv i σ H->bt K H a xs)
  (hs:∀i x σ H,xs[i]?=some x->Pv i σ H->g x σ H λσ2 H2=>tb {D with nx:=Pv (i+1),ct:=Pv (i+1),bk:=D.nx} σ2 H2)(hd:∀σ H,Pv xs.length σ H->D.nx σ H):
  ∃W:Nat->Nat->St->Hp->Prop,(∃m,W 0 m σ H)/\∀i m σ H,W i m σ H->
   ((tS K a).stop i H/\D.nx σ H)\/((tS K a).go i H/\∃N:St->Hp->Prop,(∀σ' H',N σ' H'->∃m',m'<m/\W (i+1) m' σ' H')/\∀x H',(tS K a).e9 i H x H'->g x σ H' λσ2 H2=>tb {D with nx:=N,ct:=N,bk:=D.nx} σ2 H2):=by
 refine⟨λi m σ H=>m=xs.length-i/\i<=xs.length/\Pv i σ H,⟨xs.length,by simp,Zo _,h0⟩,?_⟩;rintro i m σ H ⟨rfl,hi,p⟩;have q:=hl i σ H hi p;by_cases aR:i<xs.length
 ·refine .inr ⟨⟨xs,xs[i],q,by simp[aR]⟩,Pv (i+1),λσ' H' p'=>⟨xs.length-(i+1),by omega,rfl,aR,p'⟩,λx H' y=>?_⟩;obtain⟨e,y⟩:=y;subst e;exact hs i x σ _ (y xs q) p
 ·have e:i=xs.length:=by omega
  subst e;exact .inl ⟨⟨xs,q,Y2 _⟩,hd σ H p⟩
def qd{lo:Int}{n:Nat}{g:TG}{tb:TS}{D:Ends}{σ:St}{H:Hp}(Pv:Nat->St->Hp->Prop)(h0:Pv 0 σ H)
  (hs:∀i σ H,i<n->Pv i σ H->g (.int (lo+i)) σ H λσ2 H2=>tb {D with nx:=Pv (i+1),ct:=Pv (i+1),bk:=D.nx} σ2 H2)(hd:∀σ H,Pv n σ H->D.nx σ H):
  ∃W:Nat->Nat->St->Hp->Prop,(∃m,W 0 m σ H)/\∀i m σ H,W i m σ H->
   ((fH lo n).stop i H/\D.nx σ H)\/((fH lo n).go i H/\∃N:St->Hp->Prop,(∀σ' H',N σ' H'->∃m',m'<m/\W (i+1) m' σ' H')/\∀x H',(fH lo n).e9 i H x H'->g x σ H' λσ2 H2=>tb {D with nx:=N,ct:=N,bk:=D.nx} σ2 H2):=by
 refine⟨λi m σ H=>m=n-i/\i<=n/\Pv i σ H,⟨n,by simp,Zo _,h0⟩,?_⟩;rintro i m σ H ⟨rfl,hi,p⟩;by_cases aR:i<n
 ·refine .inr ⟨aR,Pv (i+1),λσ' H' p'=>⟨n-(i+1),by omega,rfl,aR,p'⟩,λx H' y=>?_⟩;obtain⟨e,y⟩:=y;subst e y;exact hs i σ _ aR p
 ·have e:i=n:=by omega
  subst e;exact .inl ⟨Y2 _,hd σ H p⟩
def zI{c:TT}{tb:TS}{D:Ends}{σ:St}{H:Hp}(Pv:St->Hp->Prop)(μ:St->Hp->Nat)(h0:Pv σ H)
  (hs:∀σ H,Pv σ H->c σ H λb H1=>if b=true then tb {D with nx:=λσ' H'=>Pv σ' H'/\μ σ' H'<μ σ H,ct:=λσ' H'=>Pv σ' H'/\μ σ' H'<μ σ H,bk:=D.nx} σ H1 else D.nx σ H1)
  (mono:∀σ H Q Q',(∀b H1,Q b H1->Q' b H1)->c σ H Q->c σ H Q'):L8 c tb D σ H:=by
 refine⟨λm σ H=>m=μ σ H/\Pv σ H,⟨_,rfl,h0⟩,?_⟩;rintro m σ H ⟨rfl,p⟩;refine mono σ H _ _ (λb H1 q=>?_) (hs σ H p);cases b with
 |true=>exact⟨_,λσ' H' ⟨p',l⟩=>⟨_,l,rfl,p'⟩,q⟩
 |false=>exact q
abbrev R2:=V->V->Hp->VK->Prop
def cH(X:Cx)(f:Value->Value->Sem Value)(r:R2):Prop:=
 ∀(pins:List (Addr×Obj)) (s:Shared) (σ:St) (H:Hp) (x y:V) (v u:Value) (Q:VK),Inv X pins σ H s->RelV x v->RelV y u->r x y H Q->
  wpAny (model X.prog X.w) X.A (f v u) (EP X pins σ Q) X.xe s
def Cs(X:Cx)(f:Value->Sem Value)(r:V->Hp->VK->Prop):Prop:=
 ∀(pins:List (Addr×Obj)) (s:Shared) (σ:St) (H:Hp) (x:V) (v:Value) (Q:VK),Inv X pins σ H s->RelV x v->r x H Q->
  wpAny (model X.prog X.w) X.A (f v) (EP X pins σ Q) X.xe s
def fS(X:Cx)(f:Value)(r:List V->Hp->VK->Prop):Prop:=
 ∀(pins:List (Addr×Obj)) (s:Shared) (σ:St) (H:Hp) (xs:List V) (us:List Value) (Q:VK),Inv X pins σ H s->Vals xs us->r xs H Q->
  wpAny (model X.prog X.w) X.A (call f us) (EP X pins σ Q) X.xe s
def adC(X:Cx)(r:V->Hp->(Bool->Hp->Prop)->Prop):Prop:=
 ∀(pins:List (Addr×Obj)) (s:Shared) (σ:St) (H:Hp) (x:V) (v:Value) (Q:Bool->Hp->Prop),Inv X pins σ H s->RelV x v->r x H Q->
  wpAny (model X.prog X.w) X.A (truthy v) (TP X pins σ Q) X.xe s
def o9(r:R2)(ta tb:TE):TE:=λσ H Q=>ta σ H λx H1=>tb σ H1 λy H2=>r x y H2 Q
def tUn(r:V->Hp->VK->Prop)(ta:TE):TE:=λσ H Q=>ta σ H λx H1=>r x H1 Q
inductive NT(C:Int->Int->Prop)(g:Int->Int->V)(x:V)(y:V)(H:Hp)(Q:VK):Prop
 |mk (i j:_) (_:x=.int i) (_:y=.int j) (_:C i j) (_:Q (g i j) H):NT C g x y H Q
def rI(C:Int->Int->Prop)(g:Int->Int->V):R2:=NT C g
inductive Nj(g:Int->Int->V)(x:V)(y:V)(H:Hp)(Q:VK):Prop
 |mk (i j:_) (_:x=.int i) (_:y=.int j) (_:Q (g i j) H):Nj g x y H Q
def pd(g:Int->Int->V):R2:=Nj g
inductive NU(g:Int->V)(x:V)(H:Hp)(Q:VK):Prop
 |mk (i:_) (_:x=.int i) (_:Q (g i) H):NU g x H Q
def rU(g:Int->V):V->Hp->VK->Prop:=NU g
section
variable {X:Cx}{a b c:Expr}{ta tb tc:TE}{pos:Pos}
def BU(ha:PE X a ta)(hb:PE X b tb){pins:List (Addr×Obj)}{s:Shared}{σ:St}{H:Hp}{R:V->V->Hp->Prop}(I:Inv X pins σ H s)
  (h:ta σ H λx H1=>tb σ H1 λy H2=>R x y H2){Q:Value->Shared->Prop}{f:Value->Value->Sem Value}
  (hf:∀v u s2 x y H2,Inv X pins σ H2 s2->RelV x v->RelV y u->R x y H2->wpAny (model X.prog X.w) X.A (f v u) Q X.xe s2):
  wpAny (model X.prog X.w) X.A (eval a X.env) (λv s₁=>wpAny (model X.prog X.w) X.A (eval b X.env) (λu s₂=>wpAny (model X.prog X.w) X.A (f v u) Q X.xe s₂) X.xe s₁) X.xe s:=by
 refine au (ha pins s σ H _ I h) λv s1 ⟨x,H1,I1,r1,q1⟩=>?_;refine au (hb pins s1 σ H1 _ I1 q1) λu s2 ⟨y,H2,I2,r2,q2⟩=>?_;exact hf v u s2 x y H2 I2 r1 r2 q2
def aH{op:Operator}{r:R2}(ho:cH X (binaryOp op) r)(ha:PE X a ta)(hb:PE X b tb):PE X (.BinOp a op b pos) (o9 r ta tb):=by
 intro pins s σ H Q I h;exact wpAny_BinOp (BU ha hb I h λv u s2 x y H2 I2 rx ry q=>ho pins s2 σ H2 x y v u Q I2 rx ry q)
def iC{op:UnaryOp}{r:V->Hp->VK->Prop}(ho:Cs X (unaryOp op) r)(ha:PE X a ta):PE X (.UnaryOp op a pos) (tUn r ta):=by
 intro pins s σ H Q I h;exact UnaryOp_ (au (ha pins s σ H _ I h) λv s1 ⟨x,H1,I1,r1,q1⟩=>ho pins s1 σ H1 x v Q I1 r1 q1)
def wX{f:Value->Value->Sem Value}{C:Int->Int->Prop}{g:Int->Int->Int}
  (rule:∀(i j:Int) (t u:Tok) (s:Shared) (Q:Value->Shared->Prop) (E:Value->Shared->Prop),C i j->Q (.int (g i j) s.toks) {s with toks:=s.toks+1}->wpAny (model X.prog X.w) X.A (f (.int i t) (.int j u)) Q E s):
  cH X f (rI C λi j=>.int (g i j)):=by
 intro pins s σ H x y v u Q I rx ry h;obtain⟨i,j,rfl,rfl,hc,q⟩:=h;obtain⟨t,rfl⟩:=rx;obtain⟨t',rfl⟩:=ry;exact rule i j t t' s _ _ hc ⟨.int (g i j),H,I.tok _,⟨_,rfl⟩,q⟩
def NV{f:Value->Value->Sem Value}{g:Int->Int->Int}
  (rule:∀(i j:Int) (t u:Tok) (s:Shared) (Q:Value->Shared->Prop) (E:Value->Shared->Prop),Q (.int (g i j) s.toks) {s with toks:=s.toks+1}->wpAny (model X.prog X.w) X.A (f (.int i t) (.int j u)) Q E s):
  cH X f (pd λi j=>.int (g i j)):=by
 intro pins s σ H x y v u Q I rx ry h;obtain⟨i,j,rfl,rfl,q⟩:=h;obtain⟨t,rfl⟩:=rx;obtain⟨t',rfl⟩:=ry;exact rule i j t t' s _ _ ⟨.int (g i j),H,I.tok _,⟨_,rfl⟩,q⟩
def BV{f:Value->Value->Sem Value}{g:Int->Int->Bool}
  (rule:∀(i j:Int) (t u:Tok) (s:Shared) (Q:Value->Shared->Prop) (E:Value->Shared->Prop),Q (.bool (g i j)) s->wpAny (model X.prog X.w) X.A (f (.int i t) (.int j u)) Q E s):
  cH X f (pd λi j=>.bl (g i j)):=by
 intro pins s σ H x y v u Q I rx ry h;obtain⟨i,j,rfl,rfl,q⟩:=h;obtain⟨t,rfl⟩:=rx;obtain⟨t',rfl⟩:=ry;exact rule i j t t' s _ _ ⟨.bl (g i j),H,I,rfl,q⟩
def adD(i j:Int):Prop:=0<j/\j<1073741824
def adE(i j:Int):Prop:=0<=j/\j<=1000000/\i.natAbs<2^ 64
def BW(i j:Int):Prop:=(-(2^ 64)<i/\i<2^ 64)\/(-(2^ 64)<j/\j<2^ 64)
def BW.ok{i j:Int}(h:BW i j):IntMulOk i j:=by
 rcases h with⟨h1,h2⟩|⟨h1,h2⟩
 ·exact .of_left (intBits_le_64 h1 h2)
 ·exact .of_right (intBits_le_64 h1 h2)
def cY:cH X (binaryOp .Add) (pd λi j=>.int (i+j)):=NV λ_ _ _ _ _ _ _ q=>add_int q
def oA:cH X (binaryOp .Sub) (pd λi j=>.int (i-j)):=NV λ_ _ _ _ _ _ _ q=>sub_int q
def qD:cH X (binaryOp .Mult) (rI BW λi j=>.int (i*j)):=wX λ_ _ _ _ _ _ _ hc q=>mul_int q hc.ok
def Ag:cH X (binaryOp .FloorDiv) (rI adD λi j=>.int (i/j)):=wX λi j _ _ _ _ _ hc q=>by
 have h1:(0:Int)<j:=hc.1;have h2:j<1073741824:=hc.2;exact floordiv_int (by omega) (by rw[Int.fdiv_eq_ediv_of_nonneg i (by omega)];exact q) (.inl (PyProof.noPylong_small (by omega)))
def cc:cH X (binaryOp .Mod) (rI (λ_ j=>0<j) λi j=>.int (i%j)):=wX λi j _ _ _ _ _ hc q=>by
 have h1:(0:Int)<j:=hc;exact mod_int' (by omega) (by rw[Int.fmod_eq_emod_of_nonneg i (by omega)];exact q)
def abb:cH X (binaryOp .Pow) (rI adE λi j=>.int (i^ j.toNat)):=wX λ_ _ _ _ _ _ _ hc q=>pow_int_small hc.1 hc.2.1 hc.2.2 q
def unI{f:Value->Sem Value}{g:Int->Int}
  (rule:∀(i:Int) (t:Tok) (s:Shared) (Q:Value->Shared->Prop) (E:Value->Shared->Prop),Q (.int (g i) s.toks) {s with toks:=s.toks+1}->wpAny (model X.prog X.w) X.A (f (.int i t)) Q E s):
  Cs X f (rU λi=>.int (g i)):=by
 intro pins s σ H x v Q I rx h;obtain⟨i,rfl,q⟩:=h;obtain⟨t,rfl⟩:=rx;exact rule i t s _ _ ⟨.int (g i),H,I.tok _,⟨_,rfl⟩,q⟩
def iy:Cs X (unaryOp .USub) (rU λi=>.int (-i)):=unI λ_ _ _ _ _ q=>neg_int q
end
def NW:V->V->Bool
 |.aI,.aI=>true|.aI,.int _=>true|.int _,.aI=>true|.aI,.bl _=>true|.bl _,.aI=>true|.aI,.str _=>true|.str _,.aI=>true
 |.int _,.int _=>true|.bl _,.bl _=>true|.str _,.str _=>true|.gZ _,.gZ _=>true
 |.int _,.str _=>true|.str _,.int _=>true|.bl _,.str _=>true|.str _,.bl _=>true
 |_,_=>false
def rEq:R2:=λx y H Q=>NW x y=true/\Q (.bl (decide (x=y))) H
def rNe:R2:=λx y H Q=>NW x y=true/\Q (.bl (!decide (x=y))) H
def Kr{i j:Int}:decide (V.int i=V.int j)=(i==j):=by
 rw[Bool.eq_iff_iff];simp
def L9{i j:Bool}:decide (V.bl i=V.bl j)=(i==j):=by
 rw[Bool.eq_iff_iff];simp
def Ks{i j:Str}:decide (V.str i=V.str j)=(i==j):=by
 rw[Bool.eq_iff_iff];simp
def Kt{i j:Array UInt8}:decide (V.gZ i=V.gZ j)=(i.toList==j.toList):=by
 rw[Bool.eq_iff_iff];cases i;cases j;simp
section
variable {X:Cx}{a b c:Expr}{ta tb tc:TE}{pos:Pos}
def bY{pins:List (Addr×Obj)}{σ:St}{H:Hp}{s:Shared}{Q:VK}{k k':Bool}(I:Inv X pins σ H s)(q:Q (.bl k) H)(e:k=k'):EP X pins σ Q (.bool k') s:=by
 subst e;exact⟨.bl k,H,I,rfl,q⟩
def dQ:cH X (compareOp .Eq) rEq:=by
 intro pins s σ H x y v u Q I rx ry h;obtain⟨hs,q⟩:=h;cases x with
 |aI=>
  cases rx;cases y with
  |aI=>cases ry;exact PySem.EqNone.eq_none_none (bY I q (by simp))
  |bl j=>cases ry;exact PySem.EqNone.eq_none_bool (bY I q (by simp))
  |int j=>obtain⟨t',rfl⟩:=ry;exact PySem.EqNone.eq_none_int (bY I q (by simp))
  |str j=>obtain⟨t',rfl⟩:=ry;exact PySem.EqNone.eq_none_str (bY I q (by simp))
  |_=>exact absurd (show false=true from hs) Zj
 |bl i=>
  cases rx;cases y with
  |aI=>cases ry;exact PySem.EqNone.eq_bool_none (bY I q (by simp))
  |bl j=>cases ry;exact eq_bool (bY I q L9)
  |str j=>obtain⟨t',rfl⟩:=ry;exact PySem.EqMixed.eq_bool_str (bY I q (by simp))
  |_=>exact absurd (show false=true from hs) Zj
 |int i=>
  obtain⟨t,rfl⟩:=rx;cases y with
  |aI=>cases ry;exact PySem.EqNone.eq_int_none (bY I q (by simp))
  |int j=>obtain⟨t',rfl⟩:=ry;exact eq_int (bY I q Kr)
  |str j=>obtain⟨t',rfl⟩:=ry;exact PySem.EqMixed.eq_int_str (bY I q (by simp))
  |_=>exact absurd (show false=true from hs) Zj
 |str i=>
  obtain⟨t,rfl⟩:=rx;cases y with
  |aI=>cases ry;exact PySem.EqNone.eq_str_none (bY I q (by simp))
  |bl j=>cases ry;exact PySem.EqMixed.eq_str_bool (bY I q (by simp))
  |int j=>obtain⟨t',rfl⟩:=ry;exact PySem.EqMixed.eq_str_int (bY I q (by simp))
  |str j=>obtain⟨t',rfl⟩:=ry;exact eq_str (bY I q Ks)
  |_=>exact absurd (show false=true from hs) Zj
 |gZ i=>
  obtain⟨t,rfl⟩:=rx;cases y with
  |gZ j=>obtain⟨t',rfl⟩:=ry;exact PySem.W.eq_bytes (bY I q Kt)
  |_=>exact absurd (show false=true from hs) Zj
 |_=>cases y<;>exact absurd (show false=true from hs) Zj
def vT:cH X (compareOp .NotEq) rNe:=by
 intro pins s σ H x y v u Q I rx ry h;obtain⟨hs,q⟩:=h;cases x with
 |aI=>
  cases rx;cases y with
  |aI=>cases ry;exact PySem.EqNone.ne_none_none (bY I q (by simp))
  |bl j=>cases ry;exact PySem.EqNone.ne_none_bool (bY I q (by simp))
  |int j=>obtain⟨t',rfl⟩:=ry;exact PySem.EqNone.ne_none_int (bY I q (by simp))
  |str j=>obtain⟨t',rfl⟩:=ry;exact PySem.EqNone.ne_none_str (bY I q (by simp))
  |_=>exact absurd (show false=true from hs) Zj
 |bl i=>
  cases rx;cases y with
  |aI=>cases ry;exact PySem.EqNone.ne_bool_none (bY I q (by simp))
  |bl j=>cases ry;exact ne_bool (bY I q (congrArg not L9))
  |str j=>obtain⟨t',rfl⟩:=ry;exact PySem.EqMixed.ne_bool_str (bY I q (by simp))
  |_=>exact absurd (show false=true from hs) Zj
 |int i=>
  obtain⟨t,rfl⟩:=rx;cases y with
  |aI=>cases ry;exact PySem.EqNone.ne_int_none (bY I q (by simp))
  |int j=>obtain⟨t',rfl⟩:=ry;exact ne_int (bY I q (congrArg not Kr))
  |str j=>obtain⟨t',rfl⟩:=ry;exact PySem.EqMixed.ne_int_str (bY I q (by simp))
  |_=>exact absurd (show false=true from hs) Zj
 |str i=>
  obtain⟨t,rfl⟩:=rx;cases y with
  |aI=>cases ry;exact PySem.EqNone.ne_str_none (bY I q (by simp))
  |bl j=>cases ry;exact PySem.EqMixed.ne_str_bool (bY I q (by simp))
  |int j=>obtain⟨t',rfl⟩:=ry;exact PySem.EqMixed.ne_str_int (bY I q (by simp))
  |str j=>obtain⟨t',rfl⟩:=ry;exact ne_str (bY I q (congrArg not Ks))
  |_=>exact absurd (show false=true from hs) Zj
 |gZ i=>
  obtain⟨t,rfl⟩:=rx;cases y with
  |gZ j=>obtain⟨t',rfl⟩:=ry;exact PySem.W.ne_bytes (bY I q (congrArg not Kt))
  |_=>exact absurd (show false=true from hs) Zj
 |_=>cases y<;>exact absurd (show false=true from hs) Zj
def jH:cH X (compareOp .Lt) (pd λi j=>.bl (decide (i<j))):=BV λ_ _ _ _ _ _ _ q=>lt_int q
def jb:cH X (compareOp .Gt) (pd λi j=>.bl (decide (j<i))):=BV λ_ _ _ _ _ _ _ q=>gt_int q
def qL:cH X (compareOp .GtE) (pd λi j=>.bl (decide (j<=i))):=BV λ_ _ _ _ _ _ _ q=>ge_int q
def AQ:cH X (compareOp .Is) (λx y H Q=>y=.aI/\Q (.bl (decide (x=.aI))) H):=by
 intro pins s σ H x y v u Q I rx ry h;obtain⟨rfl,q⟩:=h;cases ry;refine is_none_gen (bY I q ?_)
 cases x<;>first
  |(cases rx;rfl)
  |(obtain⟨t,rfl⟩:=rx;rfl)
def kQ:cH X (compareOp .IsNot) (λx y H Q=>y=.aI/\Q (.bl (!decide (x=.aI))) H):=by
 intro pins s σ H x y v u Q I rx ry h;obtain⟨rfl,q⟩:=h;cases ry;refine isnot_none_gen (bY I q ?_)
 cases x<;>first
  |(cases rx;rfl)
  |(obtain⟨t,rfl⟩:=rx;rfl)
def aO(b:Expr){op:CmpOp}(h:op≠.In:=by decide)(h2:op≠.NotIn:=by decide):behindInMarks op b=false:=by
 have e1:(op==CmpOp.In)=false:=by cases op<;>first|rfl|exact absurd rfl h
 have e2:(op==CmpOp.NotIn)=false:=by cases op<;>first|rfl|exact absurd rfl h2
 cases b<;>simp[behindInMarks,e1,e2]
def qu{op:CmpOp}{r:R2}(ho:cH X (compareOp op) r)(ha:PE X a ta)(hb:PE X b tb)(hm:behindInMarks op b=false):PE X (.Compare a [op] [b] pos) (o9 r ta tb):=by
 intro pins s σ H Q I h;exact wpAny_Compare1 (BU ha hb I h λv u s2 x y H2 I2 rx ry q=>ho pins s2 σ H2 x y v u Q I2 rx ry q) hm
def acz(t:TE):TT:=λσ H Q=>t σ H λx H'=>Cr Q x H'
def aV{op:CmpOp}{r:R2}(ho:cH X (compareOp op) r)(ha:PE X a ta)(hb:PE X b tb)(hm:behindInMarks op b=false):PT X (.Compare a [op] [b] pos) (acz (o9 r ta tb)):=by
 intro pins s σ H Q I h
 refine wpAny_isTrue_Compare1 (au (ha pins s σ H _ I h) λv s1 ⟨x,H1,I1,r1,q1⟩=>au (hb pins s1 σ H1 _ I1 q1) λu s2 ⟨y,H2,I2,r2,q2⟩=>
  au (ho pins s2 σ H2 x y v u _ I2 r1 r2 q2) λc s3 ⟨z,H3,I3,r3,k,e,q3⟩=>?_) hm
 subst e;cases r3;exact wpAny_truthy_bool ⟨H3,I3,q3⟩
def NX(K:PySem.W.Frag)(x:V)(H:Hp)(k:Bool):Prop:=
 match x with
 |.aI=>k=false
 |.bl b=>k=b
 |.int i=>k=(i !=0)
 |.str y=>y.length<=sizeLine/\k=((y.length:Int) !=0)
 |.gZ y=>y.size<=sizeLine/\k=((y.size:Int) !=0)
 |.ref p=>(∃xs,af K H p xs/\k= !xs.isEmpty)\/(∃xs,bt K H p xs/\k= !xs.isEmpty)\/∃kvs,H p=some (.dK kvs)/\k= !kvs.isEmpty
 |_=>False
def Tg{κ:Type}{kvs:List (κ×V)}{vs:List (κ×Value)}(r:KV kvs vs):(!vs.isEmpty)= !kvs.isEmpty:=by
 cases r<;>rfl
def GC{xs:List V}{ai:List Value}(r:Vals xs ai):(!ai.toArray.isEmpty)= !xs.isEmpty:=by
 cases r<;>simp
def qE:(sizeLine:Nat)<2^ 63:=by rw[sizeLine_eq];decide
def abc:adC X (λx H Q=>∃k,NX X.K x H k/\Q k H):=by
 intro pins s σ H x v Q I rx h;obtain⟨k,e,q⟩:=h;have hl:=qE;have hs:sizeLine=16777216:=sizeLine_eq;cases x with
 |aI=>
  cases rx;have e':k=false:=e;subst e';exact truthy_none ⟨H,I,q⟩
 |bl b=>
  cases rx;have e':k=b:=e;subst e';exact wpAny_truthy_bool ⟨H,I,q⟩
 |int i=>
  obtain⟨t,rfl⟩:=rx;have e':k=(i !=0):=e;subst e';exact PySem.P.truthy_int ⟨H,I,q⟩
 |str y=>
  obtain⟨t,rfl⟩:=rx;obtain⟨hy,e'⟩:y.length<=sizeLine/\k=((y.length:Int) !=0):=e;subst e';exact PySem.P.truthy_str (by omega) ⟨H,I.tok _,q⟩
 |gZ y=>
  obtain⟨t,rfl⟩:=rx;obtain⟨hy,e'⟩:y.size<=sizeLine/\k=((y.size:Int) !=0):=e;subst e';exact PySem.W.truthy_bytes (by omega) ⟨H,I.tok _,q⟩
 |ref p=>
  cases rx;have e':(∃xs,af X.K H p xs/\k= !xs.isEmpty)\/(∃xs,bt X.K H p xs/\k= !xs.isEmpty)\/∃kvs,H p=some (.dK kvs)/\k= !kvs.isEmpty:=e;rcases e' with⟨xs,hx,e'⟩|⟨xs,hx,e'⟩|⟨kvs,hx,e'⟩
  ·subst e';obtain⟨ai,r,pl,hz⟩:=I.list hx;have hlen:=r.length;exact wpAny_truthy_list pl.isList (by simp only[Zk];omega) ⟨H,I.tok _,by rw[GC r];exact q⟩
  ·subst e';obtain⟨ai,r,pl,hz⟩:=I.tuple hx;have hlen:=r.length;exact truthy_tuple pl (by simp only[Zk];omega) ⟨H,I.tok _,by rw[GC r];exact q⟩
  ·subst e';obtain⟨hz,hS,vs,r,m⟩:kvs.length<=sizeLine/\(p==sysModules)=false/\∃vs,KV kvs vs/\s.heap.DictOf (cJ X.prog X.w) p vs:=I.ao p _ hx;have hlen:kvs.length=vs.length:=Paired.length r;exact wpAny_truthy_dict hS m (by omega) ⟨H,I.tok _,by rw[Tg r];exact q⟩
 |_=>exact(show False from e).elim
def IY(ha:PE X a ta)(he:∀whole,isTrue a X.env whole=(do let v<-whole;standAt a.pos;holding [v] (truthy v))):
  PT X a (λσ H Q=>ta σ H λx H'=>∃k,NX X.K x H' k/\Q k H'):=by
 intro pins s σ H Q I h;exact isTrue_plain (au (ha pins s σ H _ I h) λv s1 ⟨x,H1,I1,r1,q1⟩=>abc pins s1 σ H1 x v Q I1 r1 q1) (he _)
def vals1{x:V}{us:List Value}(r:Vals [x] us):∃u,us=[u]/\RelV x u:=by
 cases r with
 |cons r1 r2=>cases r2;exact⟨_,rfl,r1⟩
def vals2{x y:V}{us:List Value}(r:Vals [x,y] us):∃u w',us=[u,w']/\RelV x u/\RelV y w':=by
 cases r with
 |cons r1 r2=>
  cases r2 with
  |cons r3 r4=>cases r4;exact⟨_,_,rfl,r1,r3⟩
def IZ:fS X (.builtin "abs") (λxs H Q=>∃i,xs=[.int i]/\Q (.int (if i<0 then -i else i)) H):=by
 intro pins s σ H xs us Q I r h;obtain⟨i,rfl,q⟩:=h;obtain⟨u,rfl,t,rfl⟩:=vals1 r;exact call_abs_int λu tk=>⟨.int (if i<0 then -i else i),H,I.tok _,⟨_,rfl⟩,q⟩
def Ho(hc:X.calm=true):fS X (.builtin "max") (λxs H Q=>∃i j,xs=[.int i,.int j]/\Q (.int (if j>i then j else i)) H):=by
 intro pins s σ H xs us Q I r h;obtain⟨i,j,rfl,q⟩:=h;obtain⟨u,w',rfl,⟨t,rfl⟩,⟨t',rfl⟩⟩:=vals2 r;refine max_two_ints (I.ok.hd hc) λh' tk k=>⟨_,H,I.kept k,?_,q⟩;by_cases hj:j>i
 ·rw[if_pos hj,if_pos hj];exact⟨_,rfl⟩
 ·rw[if_neg hj,if_neg hj];exact⟨_,rfl⟩
def Hr(hc:X.calm=true):fS X (.builtin "min") (λxs H Q=>∃i j,xs=[.int i,.int j]/\Q (.int (if j<i then j else i)) H):=by
 intro pins s σ H xs us Q I r h;obtain⟨i,j,rfl,q⟩:=h;obtain⟨u,w',rfl,⟨t,rfl⟩,⟨t',rfl⟩⟩:=vals2 r;refine min_two_ints (I.ok.hd hc) λh' tk k=>⟨_,H,I.kept k,?_,q⟩;by_cases hj:j<i
 ·rw[if_pos hj,if_pos hj];exact⟨_,rfl⟩
 ·rw[if_neg hj,if_neg hj];exact⟨_,rfl⟩
def Sb:fS X (.type "str") (λxs H Q=>∃i,xs=[.int i]/\i.natAbs.log2<1920/\Q (.str (toString i)) H):=by
 intro pins s σ H xs us Q I r h;obtain⟨i,rfl,hz,q⟩:=h;obtain⟨u,rfl,t,rfl⟩:=vals1 r;exact PySem.P.str_of_int hz ⟨.str _,H,I.tok _,⟨_,rfl⟩,q⟩
end
structure oO(h:Heap)(x dx C:Addr)(mA:Str->Option Value):Prop where
 obj:h.get? x=some (PySem.W.instObj C dx)
 ns:h.Ns1 dx mA
 ne:dx≠x
def Ux{h:Heap}{dx:Addr}{mA:Str->Option Value}(n:h.Ns1 dx mA):∃od,h.get? dx=some od/\∀name,PySem.W.lookIn name od=some (mA name):=by
 obtain⟨o,es,ep,ho,hd,hk,_,hm⟩:=n;refine⟨o,ho,λname=>?_⟩;have e:=hm name;unfold nsFind findBy at e;rw[<-Array.find?_toList]at e;unfold PySem.W.lookIn;rw[hd];dsimp only;split
 ·rename_i y q;rw[q]at e;exact congrArg some e
 ·rename_i q;rw[q]at e
  have a:es.toList.any (·.refKey)=false:=by
   rw[List.any_eq_false];intro y hy;obtain⟨z,t,BX⟩:=hk y (Array.mem_toList_iff.mp hy);simp[DictEntry.refKey,BX]
  have a':¬es.toList.any (·.refKey)=true:=by rw[a];exact Zj
  rw[if_neg a'];exact congrArg some e
def oO.look{h:Heap}{x dx C:Addr}{mA:Str->Option Value}(I:oO h x dx C mA):∃od,PySem.W.InstAt h x (PySem.W.instObj C dx) C (some od)/\∀name,PySem.W.lookIn name od=some (mA name):=
 let⟨od,ho,hl⟩:=Ux I.ns
 ⟨od,⟨I.obj,rfl,rfl,ho⟩,hl⟩
section
variable {prog:Program}{w:World}{A:Around}{E:Value->Shared->Prop}{s:Shared}{K:PySem.W.Frag}{x dx C f:Addr}{mA:Str->Option Value}{name:Str}{v:Value}
def get_map{expr:Bool}{Q:Value->Shared->Prop}(X:K.In s.heap)(I:oO s.heap x dx C mA)(hg:PySem.W.plainGet K C name=true)(hh:PySem.W.hasDictIn K C=true)
  (ha:PySem.W.findIn K (.ref C) name=some none)(hv:mA name=some v)(Ct:PySem.W.handedIn v=true)(h:Q v {s with toks:=s.toks+1}):
  wpAny (model prog w) A (getAttr (.ref x) name expr) Q E s:=by
 obtain⟨od,J,hl⟩:=I.look;exact PySem.W.get_value X J (PySem.W.plainGet_of hg).1 (PySem.W.findObj_own hh ha rfl (by rw[hl,hv])) Ct h
def Wn{pl:Sem Bool}{Q:Value×List Value->Shared->Prop}(X:K.In s.heap)(I:oO s.heap x dx C mA)(hg:PySem.W.plainGet K C name=true)
  (hf:PySem.W.findIn K (.ref C) name=some (some (.ref f)))(ht:PySem.W.isFn K (.ref f)=true)(hv:mA name=none)(h:Q (.ref f,[.ref x]) s):
  wpAny (model prog w) A (getMethod (.ref x) name pl) Q E s:=by
 obtain⟨od,J,hl⟩:=I.look;exact PySem.W.method_fn X J (PySem.W.plainGet_of hg).1 (PySem.W.plainGet_of hg).2 hf (beq_iff_eq.mp ht) (by show(PySem.W.lookIn name od).map (·.isSome)=some false;rw[hl,hv];rfl) h
def Yh{ns:List Str}{Q:Unit->Shared->Prop}(X:K.In s.heap)(I:oO s.heap x dx C mA)
  (hs:PySem.W.findIn K (.ref C) "__setattr__"=some (some (.builtin "object.__setattr__")))(hp:PySem.W.plainOver K C=true)(ht:PySem.W.takerIn K C name=some none)(hh:PySem.W.hasDictIn K C=true)
  (hw:PySem.Within mA ns)(hsz:ns.length<=sizeLine)
  (h:∀h',oO h' x dx C (λy=>if y=name then some v else mA y)->Heap.SameBut dx s.heap h'->Q () {s with heap:=h',toks:=s.toks+2}):
  wpAny (model prog w) A (setAttr (.ref x) name v) Q E s:=by
 obtain⟨od,J,hl⟩:=I.look;refine PySem.W.set_plain X J hs (PySem.W.osa_open (s:={s with toks:=s.toks+1}) (r:=none) X J hp ht λb=>?_);obtain⟨cd,hc,lH⟩:=PySem.W.any_some hh;have hx:s.heap.get? x=some ⟨.ref C,some dx,.plain, #[]⟩:=I.obj;refine wpAny_bind (ZV (wpAny_bind (wpAny_bind (wpAny_loadPart hx (wpAny_bind (PySem.W.Looks.here (s:={s with toks:=s.toks+1}) (PySem.W.looks_clsIn X hc) ?_))))));rw[lH];refine ZV (a:=some dx) (wpAny_bind (ZV (wpAny_bind ?_)));refine wpAny_nsSet1 (s:={s with toks:=s.toks+1}) I.ns λh' wY lJ=>?_;obtain⟨oD,esD,epD,hoD,hdD,hcD⟩:=wY.count (PySem.Within.cons name v hw);refine wpAny_bind (wpAny_lookBehind hoD (by rw[hdD];exact pastItsLine_dict (ZQ hcD (by rw[ZF];omega))) ?_);exact ZV (h _ ⟨(lJ.2 _ (Ne.symm I.ne)).trans I.obj,wY,I.ne⟩ lJ)
def Wo{R:Result->Shared->Prop}{vs:List Value}{kw:List (Str×Value)}(X:K.In s.heap)(hm:PySem.W.makesIn K C=true)
  (hi:PySem.W.findIn K (.ref C) "__init__"=some (some (.ref f)))(hf:PySem.W.typeIn K (.ref f)=some (.type "function"))
  (h:codeAny (model prog w) (A.under (.builtin "type.__call__" ⟨.ref C::vs,kw⟩)) (.call (.ref f) ⟨.ref (s.heap.objs.size+1)::vs,kw⟩) (PySem.W.InitBack (s.heap.objs.size+1) R)
   {s with heap:=(s.heap.push PySem.W.emptyDict).push (PySem.W.instObj C s.heap.objs.size)}):
  codeAny (model prog w) A (.call (.ref C) ⟨vs,kw⟩) R s:=by
 obtain⟨hh,g,d,t,os⟩:=s;exact PySem.W.make_core (PySem.W.makes_of X hm) (PySem.W.looks_findIn X hi) (λself=>PySem.W.bind_fn X self hf) (.inl rfl) h
end
def a8(f:Str)(v:V):List (Str×V)->List (Str×V)
 |[]=>[(f,v)]
 |(g,x)::r=>if g=f then(g,v)::r else(g,x)::a8 f v r
def my(f g:Str)(v:V):∀fs:List (Str×V),(a8 f v fs).lookup g=if g=f then some v else fs.lookup g
 |[]=>by
  show List.lookup g [(f,v)]=_;by_cases h:g=f
  ·have hb:(g==f)=true:=beq_iff_eq.mpr h;simp only[List.lookup,hb,if_pos h]
  ·have hb:(g==f)=false:=ZH.mpr h;simp only[List.lookup,hb,if_neg h]
 |(k,x)::r=>by
  have ih:=my f g v r;rw[show a8 f v ((k,x)::r)=(if k=f then(k,v)::r else(k,x)::a8 f v r)from rfl];by_cases hk:k=f
  ·rw[if_pos hk];by_cases h:g=k
   ·have hb:(g==k)=true:=beq_iff_eq.mpr h;simp only[List.lookup,hb,if_pos (h.trans hk)]
   ·have hb:(g==k)=false:=ZH.mpr h;simp only[List.lookup,hb,if_neg (λe:g=f=>h (e.trans hk.symm))]
  ·rw[if_neg hk];by_cases h:g=k
   ·have hb:(g==k)=true:=beq_iff_eq.mpr h;simp only[List.lookup,hb,if_neg (λe:g=f=>hk (h.symm.trans e))]
   ·have hb:(g==k)=false:=ZH.mpr h;simp only[List.lookup,hb];exact ih
def zp(f:Str)(v:V):∀fs:List (Str×V),f∈(a8 f v fs).map (·.1)/\∀g,g∈fs.map (·.1)->g∈(a8 f v fs).map (·.1)
 |[]=>⟨by simp[a8],λg h=>by simp at h⟩
 |(k,x)::r=>by
  obtain⟨i1,i2⟩:=zp f v r;rw[show a8 f v ((k,x)::r)=(if k=f then(k,v)::r else(k,x)::a8 f v r)from rfl];by_cases hk:k=f
  ·rw[if_pos hk];subst hk;exact⟨by simp,λg h=>by simpa using h⟩
  ·rw[if_neg hk];refine⟨?_,λg h=>?_⟩
   ·rw[Zq];exact Y3 _ i1
   ·rw[Zq]at h⊢;rcases Y4.mp h with e|e
    ·exact Y4.mpr (.inl e)
    ·exact Y3 _ (i2 g e)
def Gm(f:Str)(v:V):∀fs:List (Str×V),(a8 f v fs).length<=fs.length+1
 |[]=>by simp[a8]
 |(k,x)::r=>by
  have ih:=Gm f v r;rw[show a8 f v ((k,x)::r)=(if k=f then(k,v)::r else(k,x)::a8 f v r)from rfl];by_cases hk:k=f
  ·rw[if_pos hk,ZF,ZF];omega
  ·rw[if_neg hk,ZF,ZF];omega
def eY.some_of{v:V}{o:Option Value}(r:eY (some v) o):∃u,o=some u/\RelV v u:=by
 cases o with
 |none=>exact(show False from r).elim
 |some u=>exact⟨u,rfl,r⟩
def eY.none_of{o:Option Value}(r:eY none o):o=none:=by
 cases o with
 |none=>rfl
 |some u=>exact(show False from r).elim
def Uy{v:V}{u:Value}(r:RelV v u):PySem.W.handedIn u=true:=by
 cases v with
 |aI=>cases(show u=Value.none from r);rfl
 |bl b=>cases(show u=Value.bool b from r);rfl
 |int i=>obtain⟨t,e⟩:=(show∃t,u=Value.int i t from r);cases e;rfl
 |str x=>obtain⟨t,e⟩:=(show∃t,u=Value.str x t from r);cases e;rfl
 |gZ b=>obtain⟨t,e⟩:=(show∃t,u=Value.bytes b t from r);cases e;rfl
 |oY b=>obtain⟨t,e⟩:=(show∃t,u=Value.float b t from r);cases e;rfl
 |ref a=>cases(show u=Value.ref a from r);rfl
 |ty n=>cases(show u=Value.type n from r);rfl
section
variable {P:Program}{w:World}{H H':Hp}{h h':Heap}{a C dx:Addr}{fs qV:List (Str×V)}
def vp(ao:bG P w H h)(e:H a=some (.ins C dx fs)):∃mA,oO h a dx C mA/\(∀f,eY (fs.lookup f) (mA f))/\PySem.Within mA (fs.map (·.1))/\fs.length<=1000/\H dx=some (.own a):=by
 obtain⟨d,z,ne,ob,mA,n,r,q⟩:=(show bN P w H h a (.ins C dx fs)from ao a _ e);exact⟨mA,⟨ob,n,ne⟩,r,q,z,d⟩
end
structure eI(K:PySem.W.Frag)(C:Addr):Prop where
 pg:PySem.W.plainGet K C Str.empty=true
 hd:PySem.W.hasDictIn K C=true
 po:PySem.W.plainOver K C=true
 sa:PySem.W.findIn K (.ref C) "__setattr__"=some (some (.builtin "object.__setattr__"))
def eI.get{K:PySem.W.Frag}{C:Addr}(c:eI K C)(f:Str):PySem.W.plainGet K C f=true:=c.pg
def NoAttr(K:PySem.W.Frag)(C:Addr)(f:Str):Prop:=PySem.W.findIn K (.ref C) f=some none
def NoAttr.acA{K:PySem.W.Frag}{C:Addr}{f:Str}(n:NoAttr K C f):PySem.W.takerIn K C f=some none:=by
 unfold PySem.W.takerIn;rw[show PySem.W.findIn K (.ref C) f=some none from n]
 rfl
structure Meth(K:PySem.W.Frag)(C:Addr)(m:Str)(f:Addr):Prop where
 at_:PySem.W.findIn K (.ref C) m=some (some (.ref f))
 fn:PySem.W.isFn K (.ref f)=true
 kp:PySem.W.keepIn K (.ref f)=true
section
variable {X:Cx}{pins:List (Addr×Obj)}{σ:St}{H:Hp}{s:Shared}{a C dx:Addr}{fs:List (Str×V)}{f:Str}{v:V}{A:Around}{E:Value->Shared->Prop}
def GD{b:Bool}{Q:Value->Shared->Prop}(I:Inv X pins σ H s)(e:H a=some (.ins C dx fs))(c:eI X.K C)(n:NoAttr X.K C f)(l:fs.lookup f=some v)
  (h:∀u s',Inv X pins σ H s'->RelV v u->Q u s'):wpAny (model X.prog X.w) A (getAttr (.ref a) f b) Q E s:=by
 obtain⟨mA,O,r,_,_,_⟩:=vp I.ao e;obtain⟨u,hu,ru⟩:=eY.some_of (v:=v) (o:=mA f) (by rw[<-l];exact r f);exact get_map I.cG O (c.get f) c.hd n hu (Uy ru) (h u _ (I.tok _) ru)
def ze{m:Str}{g:Addr}{pl:Sem Bool}{Q:Value×List Value->Shared->Prop}(I:Inv X pins σ H s)(e:H a=some (.ins C dx fs))(c:eI X.K C)(k:Meth X.K C m g)(l:fs.lookup m=none)
  (h:Q (.ref g,[.ref a]) s):wpAny (model X.prog X.w) A (getMethod (.ref a) m pl) Q E s:=by
 obtain⟨mA,O,r,_,_,_⟩:=vp I.ao e;have hn:mA m=none:=eY.none_of (by rw[<-l];exact r m);exact Wn I.cG O (c.get m) k.at_ k.fn hn h
def GF{y:V}{u:Value}{Q:Unit->Shared->Prop}(I:Inv X pins σ H s)(e:H a=some (.ins C dx fs))(c:eI X.K C)(n:NoAttr X.K C f)(hl:fs.length<1000)(ry:RelV y u)
  (h:∀s',Inv X pins σ (upd H a (.ins C dx (a8 f y fs))) s'->Q () s'):wpAny (model X.prog X.w) A (setAttr (.ref a) f u) Q E s:=by
 obtain⟨mA,O,r,wi,_,ho⟩:=vp I.ao e;have hz:(fs.map (·.1)).length<=sizeLine:=by rw[Y0,sizeLine_eq];omega
 refine Yh I.cG O c.sa c.po n.acA c.hd wi hz λh' O' sb=>h _ ?_;have hd:∃o,h'.get? dx=some o:=let⟨o,_,_,e',_⟩:=O'.ns;⟨o,e'⟩
 refine I.write (x:=a) (e:=dx) (by rw[e];exact True.intro) (.inr ho) (λb q hb z=>(sb.2 b hb).trans z) hd ?_;refine⟨by rw[ah O.ne];exact ho,?_,O.ne,O'.obj,_,O'.ns,λg=>?_,λg hg=>?_⟩
 ·have:=Gm f y fs;omega
 ·show eY ((a8 f y fs).lookup g) (if g=f then some u else mA g);rw[my];by_cases q:g=f
  ·rw[if_pos q,if_pos q];exact ry
  ·rw[if_neg q,if_neg q];exact r g
 ·by_cases q:g=f
  ·rw[q];exact(zp f y fs).1
  ·refine(zp f y fs).2 g (wi g λz=>hg ?_);show(if g=f then some u else mA g)=none;rw[if_neg q];exact z
def Inv.made(I:Inv X pins σ H s):Inv X pins σ (upd (upd H s.heap.objs.size (.own (s.heap.objs.size+1))) (s.heap.objs.size+1) (.ins C s.heap.objs.size []))
  {s with heap:=(s.heap.push PySem.W.emptyDict).push (PySem.W.instObj C s.heap.objs.size)}:=by
 have e1:(s.heap.push PySem.W.emptyDict).get? s.heap.objs.size=some PySem.W.emptyDict:=Zp s.heap rfl
 have e2:((s.heap.push PySem.W.emptyDict).push (PySem.W.instObj C s.heap.objs.size)).get? (s.heap.objs.size+1)=some (PySem.W.instObj C s.heap.objs.size):=by
  have:=Zp (s.heap.push PySem.W.emptyDict) (o:=PySem.W.instObj C s.heap.objs.size) rfl
  rwa [Heap.size_push]at this
 have e3:(s.heap.push PySem.W.emptyDict).Ns s.heap.objs.size (λ_=>none):=⟨PySem.W.emptyDict, #[],_,e1,rfl,(λe he=>absurd he (by simp)),λ_=>rfl⟩;have I1:=I.laid (a:=s.heap.objs.size) (o:=.own (s.heap.objs.size+1)) (h':=s.heap.push PySem.W.emptyDict) (t':=s.toks) (λb u q=>Y7 _ q) (Y2 _) ⟨_,e1⟩;refine I1.laid (a:=s.heap.objs.size+1) (o:=.ins C s.heap.objs.size []) (t':=s.toks) (λb u q=>Y7 _ q) (Nat.le_of_eq (Heap.size_push _ _)) ?_;have ne:s.heap.objs.size≠s.heap.objs.size+1:=Zm (Nat.lt_succ_self _);refine⟨by rw[ah ne,aj],Zo _,ne,e2,λ_=>none,(Heap.Ns1.of_empty e3).at λo q=>Y7 _ q,λ_=>True.intro,λy hy=>absurd rfl hy⟩
def Yi{prog:Program}{w:World}{env:Env}{e:Expr}{f:Str}{pos:Pos}{s:Shared}{Q:Value->Shared->Prop}(hb:attributeBase e f env (eval e env)=eval e env)
  (h:wpAny (model prog w) A (eval e env) (λo s₁=>wpAny (model prog w) A (getAttr o f true) Q E s₁) E s):wpAny (model prog w) A (eval (.Attribute e f pos) env) Q E s:=
 Attribute_any_ h (by rw[arm_eval_Attribute,hb])
end
inductive Nk(K:PySem.W.Frag)(f:Str)(Q:VK)(x:V)(H1:Hp):Prop
 |mk (a C dx:Addr) (fs:List (Str×V)) (v:V) (_:x=.ref a) (_:H1 a=some (.ins C dx fs)) (_:eI K C) (_:NoAttr K C f) (_:fs.lookup f=some v) (_:Q v H1):Nk K f Q x H1
def tH(K:PySem.W.Frag)(ta:TE)(f:Str):TE:=λσ H Q=>ta σ H λx H1=>Nk K f Q x H1
def NY(K:PySem.W.Frag)(ta tv:TE)(f:Str):TS:=λD σ H=>tv σ H λy H1=>ta σ H1 λx H2=>∃a C dx fs,x=.ref a/\H2 a=some (.ins C dx fs)/\eI K C/\NoAttr K C f/\fs.length<1000/\
 D.nx σ (upd H2 a (.ins C dx (a8 f y fs)))
def N0(X:Cx)(op:Operator)(rd:V->V->Hp->VK->Prop):Prop:=
 ∀(pins:List (Addr×Obj)) (s:Shared) (σ:St) (H:Hp) (x y:V) (u v:Value) (Q:VK),Inv X pins σ H s->RelV x u->RelV y v->rd x y H Q->wpAny (model X.prog X.w) X.A (inplaceOp op u v) (EP X pins σ Q) X.xe s
def Yj(K:PySem.W.Frag)(ta tv:TE)(rd:V->V->Hp->VK->Prop)(f:Str):TS:=λD σ H=>ta σ H λx H1=>∃a C dx fs v,x=.ref a/\H1 a=some (.ins C dx fs)/\eI K C/\NoAttr K C f/\fs.lookup f=some v/\
 tv σ H1 λy H2=>rd v y H2 λz H3=>∃Cu qV,H3 a=some (.ins C Cu qV)/\qV.length<1000/\D.nx σ (upd H3 a (.ins C Cu (a8 f z qV)))
section
variable {X:Cx}{o e value:Expr}{f:Str}{pos pos' wx:Pos}{ta tv:TE}
def aW(he:PE X e ta)(hb:attributeBase e f X.env (eval e X.env)=eval e X.env):PE X (.Attribute e f pos) (tH X.K ta f):=by
 intro pins s σ H Q I h;refine Yi hb (au (he pins s σ H _ I h) λu s1 ⟨x,H1,I1,rx,a,C,dx,fs,v,ex,ea,c,n,l,q⟩=>?_);subst ex;obtain rfl:u=Value.ref a:=rx;exact GD I1 ea c n l λu' s2 I2 ru=>⟨v,H1,I2,ru,q⟩
def gw(ha:PE X o ta)(hv:PE X value tv)(hs:swapsWith value (some (.Attribute o f pos')) pos.line X.env=pure false):PS X (.Assign [.Attribute o f pos'] value pos) (NY X.K ta tv f):=by
 intro pins s σ H D I h;refine plainObj_wpAny_Assign_Attribute (au (hv pins s σ H _ I h) λu s1 ⟨y,H1,I1,ry,q⟩=>au (ha pins s1 σ H1 _ I1 q) λov s2 ⟨x,H2,I2,rx,a,C,dx,fs,ex,ea,c,n,l,q2⟩=>?_) hs;subst ex;obtain rfl:ov=Value.ref a:=rx;exact GF I2 ea c n l ry λs3 I3=>⟨σ,_,I3,q2⟩
def Hs{op:Operator}{rd:V->V->Hp->VK->Prop}(ha:PE X o ta)(hv:PE X value tv)(hop:N0 X op rd):PS X (.AugAssign (.Attribute o f wx) op value pos) (Yj X.K ta tv rd f):=by
 intro pins s σ H D I h;refine wpAny_AugAssign_AttributeAny (au (ha pins s σ H _ I h) λov s1 ⟨x,H1,I1,rx,a,C,dx,fs,v,ex,ea,c,n,l,q⟩=>?_);subst ex;obtain rfl:ov=Value.ref a:=rx;refine GD I1 ea c n l λu s2 I2 ru=>au (hv pins s2 σ H1 _ I2 q) λw3 s3 ⟨y,H2,I3,ry,q3⟩=>au (hop pins s3 σ H2 v y u w3 _ I3 ru ry q3) λw4 s4 ⟨z,H3,I4,rz,Cu,qV,ea',l',q4⟩=>?_;exact GF I4 ea' c n l' rz λs5 I5=>⟨σ,_,I5,q4⟩
def adF:V->V->Hp->VK->Prop:=λx y H Q=>∃i j,x=.int i/\y=.int j/\Q (.int (i+j)) H
def Ma:N0 X .Add adF:=by
 rintro pins s σ H x y u v Q I rx ry ⟨i,j,rfl,rfl,q⟩;obtain⟨t,rfl⟩:=(show∃t,u=Value.int i t from rx);obtain⟨t',rfl⟩:=(show∃t',v=Value.int j t' from ry);exact PyProof.Rows.iadd_int ⟨.int (i+j),H,I.tok _,⟨_,rfl⟩,q⟩
end
section
variable {X:Cx}{pins:List (Addr×Obj)}{σ:St}{H:Hp}{s:Shared}{A:Around}{E:Value->Shared->Prop}{Q:Value->Shared->Prop}{c:Value}{b:Bool}
inductive iH(K:PySem.W.Frag)(H:Hp):V->Value->Prop where
 |aI:iH K H .aI (.type "NoneType")
 |bl (x:Bool):iH K H (.bl x) (.type "bool")
 |int (i:Int):iH K H (.int i) (.type "int")
 |str (x:Str):iH K H (.str x) (.type "str")
 |oY (x:UInt64):iH K H (.oY x) (.type "float")
 |lst {a:Addr}{xs:List V} (e:H a=some (.lst xs)):iH K H (.ref a) (.type "list")
 |cS {a:Addr}{o:Obj}{xs:List V} (e:H a=some (.cS o (.lst xs))):iH K H (.ref a) (.type "list")
 |tup {a:Addr}{xs:List V} (e:H a=some (.tup xs)):iH K H (.ref a) (.type "tuple")
 |dK {a:Addr}{kvs:List (Key×V)} (e:H a=some (.dK kvs)):iH K H (.ref a) (.type "dict")
 |dT {a:Addr}{kvs:List (List Key×V)} (e:H a=some (.dT kvs)):iH K H (.ref a) (.type "dict")
 |ins {a C dx:Addr}{fs:List (Str×V)} (e:H a=some (.ins C dx fs)) (cl:eI K C) (ha:PySem.W.findIn K (.ref C) "__class__"=some (some (.builtin "object.__class__")))
  (hn:PySem.W.specialIn K (.builtin "object.__class__") "__get__"=some (some (.builtin "getset_descriptor.__get__"))) (OH:PySem.W.takesIn K (.builtin "object.__class__")=some true)
  (hm:PySem.W.mroIn K C (.type "object")=some true):iH K H (.ref a) (.ref C)
def Uz{x:V}{u t:Value}(I:Inv X pins σ H s)(rx:RelV x u)(ty:iH X.K H x t)(e:PySem.W.kitOne X.K t c=some b)(h:∀tk,Q (.bool b) {s with toks:=tk}):
  wpAny (model X.prog X.w) A (call (.builtin "isinstance") [u,c]) Q E s:=by
 cases ty with
 |aI=>cases(show u=Value.none from rx);exact PySem.W.kia_one PySem.W.kitx_none I.cG True.intro e (λz=>nomatch z) h
 |bl y=>cases(show u=Value.bool y from rx);exact PySem.W.kia_one PySem.W.kitx_bool I.cG True.intro e (λz=>nomatch z) h
 |int i=>obtain⟨t,q⟩:=(show∃t,u=Value.int i t from rx);cases q;exact PySem.W.kia_one PySem.W.kitx_int I.cG True.intro e (λz=>nomatch z) h
 |str y=>obtain⟨t,q⟩:=(show∃t,u=Value.str y t from rx);cases q;exact PySem.W.kia_one PySem.W.kitx_str I.cG True.intro e (λz=>nomatch z) h
 |oY y=>obtain⟨t,q⟩:=(show∃t,u=Value.float y t from rx);cases q;exact PySem.W.kia_one PySem.W.kitx_float I.cG True.intro e (λz=>nomatch z) h
 |@lst a xs ea=>
  cases(show u=Value.ref a from rx);obtain⟨_,_,n,_,h1⟩:=(show bN X.prog X.w H s.heap a (.lst xs)from I.ao a _ ea);exact PySem.W.kia_one PySem.W.kitx_list I.cG ⟨_,h1,rfl⟩ e (λz=>nomatch z) h
 |@cS a ob xs ea=>
  cases(show u=Value.ref a from rx);obtain⟨_,_,_,n,_,h1⟩:=(show bN X.prog X.w H s.heap a (.cS ob (.lst xs))from I.ao a _ ea);exact PySem.W.kia_one PySem.W.kitx_list I.cG ⟨_,h1,rfl⟩ e (λz=>nomatch z) h
 |@tup a xs ea=>
  cases(show u=Value.ref a from rx);obtain⟨_,_,_,p⟩:=(show bN X.prog X.w H s.heap a (.tup xs)from I.ao a _ ea);obtain⟨o,h1,h2,_⟩:=p;exact PySem.W.kia_one PySem.W.kitx_tuple I.cG ⟨o,h1,h2⟩ e (λz=>nomatch z) h
 |@dK a kvs ea=>
  cases(show u=Value.ref a from rx);obtain⟨_,_,vs,_,p⟩:=(show bN X.prog X.w H s.heap a (.dK kvs)from I.ao a _ ea);obtain⟨o,es,ep,h1,h2,_⟩:=p;exact PySem.W.kia_one PySem.W.kitx_dict I.cG ⟨o,h1,h2.1⟩ e (λz=>nomatch z) h
 |@dT a kvs ea=>
  cases(show u=Value.ref a from rx);obtain⟨_,_,xs,_,o,es,ep,h1,h2,_⟩:=(show bN X.prog X.w H s.heap a (.dT kvs)from I.ao a _ ea);exact PySem.W.kia_one PySem.W.kitx_dict I.cG ⟨o,h1,h2.1⟩ e (λz=>nomatch z) h
 |@ins a C dx fs ea cl ha hn OH hm=>
  cases(show u=Value.ref a from rx);obtain⟨mA,O,_⟩:=vp I.ao ea;obtain⟨od,J,_⟩:=O.look;exact PySem.W.kia_one (PySem.W.kitx_own (cl.get _) cl.hd ha hn OH hm) I.cG J e (λz=>nomatch z) h
end
structure bL(k:Nat)(A:Around):Prop where
 hd:A.handled=none
 dp:A.depth+3*k+5<recursionLimit
 un:A.units+16*k+200<cLine
def bL.mono{j k:Nat}{A:Around}(r:bL k A)(h:j<=k):bL j A:=⟨r.hd,by have:=r.dp;omega,by have:=r.un;omega⟩
def bL.deeper{k:Nat}{A:Around}(r:bL (k+1) A)(env:Env):bL k (A.deeper env):=
 ⟨r.hd,by have:=r.dp;show A.depth+1+3*k+5<_;omega,by have:=r.un;show A.units+3+16*k+200<_;omega⟩
def Th{A:Around}{C:Addr}{us:List Value}{kw:List (Str×Value)}:(A.under (.builtin "type.__call__" ⟨.ref C::us,kw⟩)).depth=A.depth+1:=by
 first|rfl|simp[Around.under,Code.weight,Code.isCreation,Code.isGuard,Code.isCaller,Code.frames,Code.isFrame,guardIds]
def Ti{A:Around}{C:Addr}{us:List Value}{kw:List (Str×Value)}:(A.under (.builtin "type.__call__" ⟨.ref C::us,kw⟩)).units=A.units+1:=by
 first|rfl|simp[Around.under,Code.cUnits,Code.frames,Code.isFrame]
def bL.make{k:Nat}{A:Around}(r:bL (k+1) A)(C:Addr)(us:List Value)(kw:List (Str×Value)):bL k (A.under (.builtin "type.__call__" ⟨.ref C::us,kw⟩)):=
 ⟨r.hd,by have:=r.dp;rw[Th];omega,by have:=r.un;rw[Ti];omega⟩
def bL.depth{k:Nat}{A:Around}(r:bL k A):A.depth<recursionLimit:=by have:=r.dp;omega
def bL.units{k:Nat}{A:Around}(r:bL k A):A.units+64<cLine:=by have:=r.un;omega
def iI:TA:=λ_ H Q=>Q [] H
def kh(ta:TE)(tr:TA):TA:=λσ H Q=>ta σ H λx H1=>tr σ H1 λxs H2=>Q (x::xs) H2
section
variable {X:Cx}{e:Expr}{es:List Expr}{te:TE}{t:TA}{pos:Pos}
def ae:PA X [] iI:=λ_ _ _ _ H Q I h=>Calls.spliced_nil ⟨[],H,I,.nil,h⟩
def aq(ha:PE X e te)(hr:PA X es t)(hs:starEach (e::es) X.env=(false,eval e X.env)::starEach es X.env:=by rfl):PA X (e::es) (kh te t):=by
 intro pos pins s σ H Q I h;rw[hs];show wpAny _ _ (spliced ((false,eval e X.env)::backTo pos (starEach es X.env))) _ _ s;refine Calls.spliced_cons (au (ha pins s σ H _ I h) λu s1 ⟨x,H1,I1,r1,q1⟩=>?_);exact au (hr pos pins s1 σ H1 _ I1 q1) λus s2 ⟨xs,H2,I2,r2,q2⟩=>⟨x::xs,H2,I2,.cons r1 r2,q2⟩
def BY(t:TA):TE:=λσ H Q=>t σ H λxs H1=>xs.length<=sizeLine/\∀p,H1 p=none->Q (.ref p) (upd H1 p (.tup xs))
def adG(t:TA):TE:=λσ H Q=>t σ H λxs H1=>xs.length<=sizeLine/\∀p,H1 p=none->Q (.ref p) (upd H1 p (.lst xs))
def cO{x1}(h:PA X es t):PE X (.Tuple es x1 pos) (BY t):=by
 intro pins s σ H Q I hq;refine wpAny_Tuple_spliced (au (h pos pins s σ H _ I hq) λus s1 ⟨xs,H1,I1,r,z,q⟩=>⟨by rw[<-r.length];exact z,?_⟩);have hf:H1 s1.heap.objs.size=none:=I1.ao.fresh (Y2 _);refine⟨.ref s1.heap.objs.size,upd H1 s1.heap.objs.size (.tup xs),I1.laid (t':=s1.toks) (λb u e=>Y7 _ e) (Y2 _) ?_,rfl,q _ hf⟩;exact⟨z,us,r,⟨_,Zp _ rfl,rfl,_,rfl⟩⟩
def qF(h:PA X es t):PE X (.List es pos) (adG t):=by
 intro pins s σ H Q I hq;refine wpAny_List_spliced (au (h pos pins s σ H _ I hq) λus s1 ⟨xs,H1,I1,r,z,q⟩=>⟨by rw[<-r.length];exact z,?_⟩);have hf:H1 s1.heap.objs.size=none:=I1.ao.fresh (Y2 _);refine⟨.ref s1.heap.objs.size,upd H1 s1.heap.objs.size (.lst xs),I1.laid (t':=s1.toks) (λb u e=>Y7 _ e) (Y2 _) ?_,rfl,q _ hf⟩;exact⟨z,us,0,r,Zp _ rfl⟩
end
abbrev Sp:=List V->Hp->VK->XK->Prop
abbrev jk:=List Env->Hp->Shared->XK->Value->Shared->Prop
structure oP(P:Program)(w:World)(K:PySem.W.Frag)(mg:Str->Option Value)(base:Heap)(A:Around)(outer:List Env)(s:Shared)(H:Hp):Prop where
 frames:A.frames=some outer
 mod:Mod K mg base
 bs:∀b o,base.get? b=some o->s.heap.get? b=some o/\H b=none
 iO:base.objs.size<=s.heap.objs.size
 gF:s.heap.FunFrames base outer
 nu:∀b∈bP outer,H b=none
 ao:bG P w H s.heap
 bare:AllBare s.gens
def CE(outer:List Env)(P:Program)(w:World)(H:Hp)(s:Shared)(Q:VK)(u:Value)(s':Shared):Prop:=
 ∃v H',s'.os=s.os/\AllBare s'.gens/\Un (bP outer) [] H H' s.heap s'.heap/\bG P w H' s'.heap/\RelV v u/\Q v H'
def CR(CX:jk)(outer:List Env)(P:Program)(w:World)(H:Hp)(s:Shared)(Q:VK)(E:XK)(r:Result)(s':Shared):Prop:=
 match r with
 |.ok (.ret u)=>CE outer P w H s Q u s'
 |.ok _=>False
 |.error e=>CX outer H s E e s'
structure aB(P:Program)(w:World)(K:PySem.W.Frag)(mg:Str->Option Value)(base:Heap)(CX:jk)(k:Nat)(f:Addr)(fd:FuncData)(ps:List Str)(sp:Sp):Prop where
 len:∀vs H Q E,sp vs H Q E->vs.length=ps.length
 run:∀(A:Around) (outer:List Env) (s:Shared) (H:Hp) (args:Args) (us:List Value) (vs:List V) (Q:VK) (E:XK),bL k A->oP P w K mg base A outer s H->BindsTo s fd args (ps.zip us)->Vals vs us->sp vs H Q E->
  codeAny (model P w) A (.call (.ref f) args) (CR CX outer P w H s Q E) s
def aB.imp{P:Program}{w:World}{K:PySem.W.Frag}{mg:Str->Option Value}{base:Heap}{CX:jk}{k:Nat}{f:Addr}{fd:FuncData}{ps:List Str}{sp OI:Sp}(F:aB P w K mg base CX k f fd ps sp)
  (h:∀vs H Q E,OI vs H Q E->sp vs H Q E):aB P w K mg base CX k f fd ps OI:=
 ⟨λvs H Q E q=>F.len vs H Q E (h _ _ _ _ q),λA outer s H args us vs Q E hr he hb hv hs=>F.run A outer s H args us vs Q E hr he hb hv (h _ _ _ _ hs)⟩
def oP.make{P:Program}{w:World}{K:PySem.W.Frag}{mg:Str->Option Value}{base:Heap}{A:Around}{outer:List Env}{s:Shared}{H:Hp}(e:oP P w K mg base A outer s H)(C:Addr)(us:List Value)(kw:List (Str×Value)):
  oP P w K mg base (A.under (.builtin "type.__call__" ⟨.ref C::us,kw⟩)) outer s H:=⟨by first|exact e.frames|(simpa[Around.under,Code.envs,Code.isFrame,pushEnvs]using e.frames),e.mod,e.bs,e.iO,e.gF,e.nu,e.ao,e.bare⟩
section
variable {X:Cx}{pins:List (Addr×Obj)}{σ:St}{H:Hp}{s s':Shared}
def Inv.BZ(I:Inv X pins σ H s):oP X.prog X.w X.K X.mg X.base X.A X.stack s H:=
 ⟨I.ok.frames,I.ok.mod,I.bs,ZQ I.ok.iO I.sz,I.stack,I.oq,I.ao,I.bare⟩
def Inv.after{Q:VK}{u:Value}(I:Inv X pins σ H s)(h:CE X.stack X.prog X.w H s Q u s'):EP X pins σ Q u s':=by
 obtain⟨v,H',os,bare,un,ao,r,q⟩:=h;obtain⟨hh,g,d,t,os'⟩:=s';obtain rfl:os'=s.os:=os;exact⟨v,H',I.call (h':=hh) (g':=g) (d':=d) (t':=t) (ch:=[]) un ao bare (λb z=>absurd z (by simp)),r,q⟩
end
def sY(sp:Sp)(b6:List V)(E:XK)(t:TA):TE:=λσ H Q=>t σ H λvs H1=>sp (vs++b6) H1 Q E
inductive Mb(C:Addr)(m:Str)(sp:Sp)(b6:List V)(E:XK)(t:TA)(σ:St)(Q:VK)(x:V)(H1:Hp):Prop
 |mk (a dx:Addr) (fs:List (Str×V)) (_:x=.ref a) (_:H1 a=some (.ins C dx fs)) (_:fs.lookup m=none) (_:t σ H1 λvs H2=>sp (x::(vs++b6)) H2 Q E):Mb C m sp b6 E t σ Q x H1
def jI(C:Addr)(m:Str)(sp:Sp)(b6:List V)(E:XK)(ta:TE)(t:TA):TE:=λσ H Q=>ta σ H λx H1=>Mb C m sp b6 E t σ Q x H1
def Nl(C:Addr)(sp:Sp)(b6:List V)(E:XK)(t:TA):TE:=λσ H Q=>t σ H λvs H1=>∀x dx,H1 x=none->H1 dx=none->dx≠x->
 sp (.ref x::(vs++b6)) (upd (upd H1 dx (.own x)) x (.ins C dx [])) (λv H2=>v=.aI/\Q (.ref x) H2) E
def Binds(K:PySem.W.Frag)(fd:FuncData)(ps:List Str)(ds:List Value):Prop:=
 ∀(s:Shared) (us:List Value),K.In s.heap->(us++ds).length=ps.length->BindsTo s fd ⟨us,[]⟩ (ps.zip (us++ds))
def Binds.all{K:PySem.W.Frag}{fd:FuncData}{ps:List Str}(h:∀us:List Value,us.length=ps.length->bindArgs fd ⟨us,[]⟩=pure (ps.zip us)):Binds K fd ps []:=λs us _ hl=>by
 rw[ZY]at hl⊢;exact .of_eq (h us hl)
def Passes(CX:jk)(X:Cx)(E:XK):Prop:=∀(pins:List (Addr×Obj)) (σ:St) (H:Hp) (s:Shared) (e:Value) (s':Shared),Inv X pins σ H s->CX X.stack H s E e s'->X.xe e s'
section
variable {X:Cx}{CX:jk}{k:Nat}{f C:Addr}{fd:FuncData}{ps:List Str}{sp:Sp}{b6:List V}{ds:List Value}{E:XK}{x m:Str}{p pos apos:Pos}{e o:Expr}{es:List Expr}{ta:TE}{t:TA}
def AR{pins:List (Addr×Obj)}{σ:St}{H:Hp}{s:Shared}{Q:VK}{us:List Value}{vs:List V}(F:aB X.prog X.w X.K X.mg X.base CX k f fd ps sp)(hr:bL k X.A)(hb:Binds X.K fd ps ds)(hd:Vals b6 ds)(hx:Passes CX X E)
  (I:Inv X pins σ H s)(r:Vals vs us)(h:sp (vs++b6) H Q E):wpAny (model X.prog X.w) X.A (call (.ref f) us) (EP X pins σ Q) X.xe s:=by
 have r2:Vals (vs++b6) (us++ds):=r.append hd;have hl:(us++ds).length=ps.length:=by rw[<-r2.length];exact F.len _ _ _ _ h
 refine wpAny_call (codeAny_mono (F.run X.A X.stack s H ⟨us,[]⟩ (us++ds) (vs++b6) Q E hr I.BZ (hb s us I.cG hl) r2 h) λr s' hq=>?_);cases r with
 |error e=>exact hx pins σ H s e s' I hq
 |ok fl=>
  cases fl with
  |ret u=>exact I.after hq
  |next=>exact Zu hq
  |brk=>exact Zu hq
  |cont=>exact Zu hq
def Ah(F:aB X.prog X.w X.K X.mg X.base CX k f fd ps sp)(hr:bL k X.A)(hg:Gl X x)(hm:X.mg x=some (.ref f))(hk:PySem.W.keepIn X.K (.ref f)=true)(hb:Binds X.K fd ps ds)(hd:Vals b6 ds)(hx:Passes CX X E)
  (ha:PA X (e::es) t)(eJ:(x==("__debug__":Str))=false:=by decide)(he:starEach (e::es) X.env=(false,eval e X.env)::starEach es X.env:=by rfl)(bO:(backTo pos (starEach es X.env)).any (·.1)=false:=by rfl):
  PE X (.Call (.Name x p) (e::es) [] pos) (sY sp b6 E t):=by
 intro pins s σ H Q I h;refine wpAny_Call_Name_kw (sD I hg hm ?_ eJ);refine PySem.W.callWith_K (h₀:=X.base) I.ok.mod.o6 hk (au (ha pos pins s σ H _ I h) λus s1 ⟨vs,H1,I1,r,q⟩=>⟨I1.cG,?_⟩) he bO;exact AR F hr hb hd hx I1 r q
def Ai{pl:Sem Bool}(he:PE X o ta)(c:eI X.K C)(hm:Meth X.K C m f)(F:aB X.prog X.w X.K X.mg X.base CX k f fd ps sp)(hr:bL k X.A)(hb:Binds X.K fd ps ds)(hd:Vals b6 ds)(hx:Passes CX X E)(ha:PA X (e::es) t)
  (bT:starEach (e::es) X.env=(false,eval e X.env)::starEach es X.env:=by rfl)(bO:(backTo pos (starEach es X.env)).any (·.1)=false:=by rfl)
  (ht:eval (.Call (.Attribute o m apos) (e::es) [] pos) X.env=(do
   let ov<-eval o X.env
   standAt apos.atName
   let(f,first)<-holding [ov] (getMethod ov m pl)
   callWith pos f first (backTo pos (starEach (e::es) X.env)) (backToKw pos (keywordEach [] X.env))):=by rfl):
  PE X (.Call (.Attribute o m apos) (e::es) [] pos) (jI C m sp b6 E ta t):=by
 intro pins s σ H Q I h;refine PySem.W.methodCall_KW (pl:=pl) (au (he pins s σ H _ I h) λu s1 ⟨x,H1,I1,rx,a,dx,fs,ex,ea,l,q⟩=>?_) ht;subst ex;obtain rfl:u=Value.ref a:=rx;refine ze I1 ea c hm l ?_;refine PySem.W.callWith_K (first:=[.ref a]) (h₀:=X.base) I.ok.mod.o6 hm.kp (au (ha pos pins s1 σ H1 _ I1 q) λus s2 ⟨vs,H2,I2,r,q2⟩=>⟨I2.cG,?_⟩) bT bO;exact AR (us:=.ref a::us) (vs:=.ref a::vs) F hr hb hd hx I2 (.cons rfl r) q2
def zJ{pl:Sem Bool}(he:PE X o ta)(c:eI X.K C)(hm:Meth X.K C m f)(F:aB X.prog X.w X.K X.mg X.base CX k f fd ps sp)(hr:bL k X.A)(hb:Binds X.K fd ps ds)(hd:Vals b6 ds)(hx:Passes CX X E)
  (ht:eval (.Call (.Attribute o m apos) [] [] pos) X.env=(do
   let ov<-eval o X.env
   standAt apos.atName
   let(f,first)<-holding [ov] (getMethod ov m pl)
   callWith pos f first (backTo pos (starEach [] X.env)) (backToKw pos (keywordEach [] X.env))):=by rfl):
  PE X (.Call (.Attribute o m apos) [] [] pos) (jI C m sp b6 E ta iI):=by
 intro pins s σ H Q I h;refine PySem.W.methodCall_KW (pl:=pl) (au (he pins s σ H _ I h) λu s1 ⟨x,H1,I1,rx,a,dx,fs,ex,ea,l,q⟩=>?_) ht;subst ex;obtain rfl:u=Value.ref a:=rx;refine ze I1 ea c hm l ?_;exact PySem.W.callWith_K0 (first:=[.ref a]) I1.cG hm.kp (AR (us:=[.ref a]) (vs:=[.ref a]) F hr hb hd hx I1 (.cons rfl .nil) q)
structure Mk(K:PySem.W.Frag)(C f:Addr):Prop where
 makes:PySem.W.makesIn K C=true
 init:PySem.W.findIn K (.ref C) "__init__"=some (some (.ref f))
 fn:PySem.W.isFn K (.ref f)=true
 kp:PySem.W.keepIn K (.ref C)=true
def Wq{pins:List (Addr×Obj)}{σ:St}{H:Hp}{s:Shared}{Q:VK}{us:List Value}{vs:List V}(M:Mk X.K C f)(F:aB X.prog X.w X.K X.mg X.base CX k f fd ps sp)(hr:bL (k+1) X.A)(hb:Binds X.K fd ps ds)(hd:Vals b6 ds)
  (hx:Passes CX X E)(I:Inv X pins σ H s)(r:Vals vs us)
  (h:∀x dx,H x=none->H dx=none->dx≠x->sp (.ref x::(vs++b6)) (upd (upd H dx (.own x)) x (.ins C dx [])) (λv H2=>v=.aI/\Q (.ref x) H2) E):
  wpAny (model X.prog X.w) X.A (call (.ref C) us) (EP X pins σ Q) X.xe s:=by
 have hq:=h (s.heap.objs.size+1) s.heap.objs.size (I.ao.fresh (Nat.le_succ _)) (I.ao.fresh (Y2 _)) (Zm (Nat.lt_succ_self _));have I2:=Inv.made (C:=C) I;have r2:Vals (V.ref (s.heap.objs.size+1)::(vs++b6)) (Value.ref (s.heap.objs.size+1)::(us++ds)):=.cons rfl (r.append hd)
 have hl:(Value.ref (s.heap.objs.size+1)::us++ds).length=ps.length:=by
  have e:=r2.length;rw[F.len _ _ _ _ hq]at e;exact e.symm
 refine wpAny_call (Wo (f:=f) I.cG M.makes M.init (beq_iff_eq.mp M.fn) (codeAny_mono (F.run _ X.stack _ _ ⟨Value.ref (s.heap.objs.size+1)::us,[]⟩ (Value.ref (s.heap.objs.size+1)::(us++ds)) _ _ E (hr.make C us [])
  (I2.BZ.make C us []) (hb _ (Value.ref (s.heap.objs.size+1)::us) I2.cG hl) r2 hq) λr s' tT=>?_))
 cases r with
 |error e=>exact hx pins σ _ _ e s' I2 tT
 |ok fl=>
  cases fl with
  |ret u=>
   obtain⟨v,H',I3,rv,ev,q3⟩:=I2.after tT;subst ev;exact⟨rv,⟨V.ref (s.heap.objs.size+1),H',I3,rfl,q3⟩⟩
  |next=>exact Zu tT
  |brk=>exact Zu tT
  |cont=>exact Zu tT
def Yk(M:Mk X.K C f)(F:aB X.prog X.w X.K X.mg X.base CX k f fd ps sp)(hr:bL (k+1) X.A)(hg:Gl X x)(hm:X.mg x=some (.ref C))(hb:Binds X.K fd ps ds)(hd:Vals b6 ds)(hx:Passes CX X E)
  (ha:PA X (e::es) t)(eJ:(x==("__debug__":Str))=false:=by decide)(he:starEach (e::es) X.env=(false,eval e X.env)::starEach es X.env:=by rfl)(bO:(backTo pos (starEach es X.env)).any (·.1)=false:=by rfl):
  PE X (.Call (.Name x p) (e::es) [] pos) (Nl C sp b6 E t):=by
 intro pins s σ H Q I h;refine wpAny_Call_Name_kw (sD I hg hm ?_ eJ);refine PySem.W.callWith_K (h₀:=X.base) I.ok.mod.o6 M.kp (au (ha pos pins s σ H _ I h) λus s1 ⟨vs,H1,I1,r,q⟩=>⟨I1.cG,?_⟩) he bO;exact Wq M F hr hb hd hx I1 r q
end
structure aN(N P:List Str)(sc:Scope):Prop where
 kind:sc.kind=.function
 co:sc.isCoroutine=false
 gen:sc.isGenerator=false
 nd:N.Nodup
 pre:N.take P.length=P
 par:∀x∈P,sc.names.lookup x=some .local\/sc.names.lookup x=some .cell
 abd:∀y∈sc.names,y.2≠.free
def Ht{kindOf:Str->Option NameKind}{x:Str}:∀{binds:List (Str×Value)}{m:Str->Option Value},(∀v,(x,v)∉binds)->bindL kindOf binds m x=m x
 |[],_,_=>rfl
 |(n,v)::r,m,h=>by
  unfold bindL;rw[Ht λw hw=>h w (Y3 _ hw)];split
  ·have:x≠n:=by rintro rfl;exact h v Y8
   simp[this]
  ·rfl
def Hu{kindOf:Str->Option NameKind}{x:Str}:∀{binds:List (Str×Value)}{m:Str->Option Value},(∀v,(x,v)∉binds)->bindC kindOf binds m x=m x
 |[],_,_=>rfl
 |(n,v)::r,m,h=>by
  unfold bindC;rw[Hu λw hw=>h w (Y3 _ hw)];split
  ·rfl
  ·have:x≠n:=by rintro rfl;exact h v Y8
   simp[this]
def Hv{kindOf:Str->Option NameKind}{x:Str}{v:Value}:∀{P:List Str}{vs:List Value}{i:Nat}{m:Str->Option Value},P.Nodup->P[i]?=some x->vs[i]?=some v->kindOf x=some .local->
  bindL kindOf (P.zip vs) m x=some v
 |[],_,_,_,_,h,_,_=>by simp at h
 |_::_,[],_,_,_,_,h,_=>by simp at h
 |p::P,w::vs,0,m,nd,h1,h2,hk=>by
  simp at h1 h2;subst h1;subst h2;show bindL kindOf ((p,w)::P.zip vs) m p=_;unfold bindL;rw[Ht λv hv=>(ZG.mp nd).1 (List.of_mem_zip hv).1,if_pos hk];simp
 |p::P,w::vs,i+1,m,nd,h1,h2,hk=>by
  show bindL kindOf ((p,w)::P.zip vs) m x=_;unfold bindL;exact Hv (i:=i) (ZG.mp nd).2 (by simpa using h1) (by simpa using h2) hk
def Hw{kindOf:Str->Option NameKind}{x:Str}{v:Value}:∀{P:List Str}{vs:List Value}{i:Nat}{m:Str->Option Value},P.Nodup->P[i]?=some x->vs[i]?=some v->kindOf x≠some .local->
  bindC kindOf (P.zip vs) m x=some v
 |[],_,_,_,_,h,_,_=>by simp at h
 |_::_,[],_,_,_,_,h,_=>by simp at h
 |p::P,w::vs,0,m,nd,h1,h2,hk=>by
  simp at h1 h2;subst h1;subst h2;show bindC kindOf ((p,w)::P.zip vs) m p=_;unfold bindC;rw[Hu λv hv=>(ZG.mp nd).1 (List.of_mem_zip hv).1,if_neg hk];simp
 |p::P,w::vs,i+1,m,nd,h1,h2,hk=>by
  show bindC kindOf ((p,w)::P.zip vs) m x=_;unfold bindC;exact Hw (i:=i) (ZG.mp nd).2 (by simpa using h1) (by simpa using h2) hk
def start(N:List Str)(vs:List V):St:=vs.map some++List.replicate (N.length-vs.length) none
def fC(CX:jk)(P:Program)(w:World)(K:PySem.W.Frag)(mg:Str->Option Value)(base:Heap)(N:List Str)(qual:Str)(scope:Scope)(f:Addr)(cd:Value)(A:Around)(outer:List Env)(s:Shared)(H:Hp)(E:XK):Cx where
 prog:=P
 w:=w
 K:=K
 mg:=mg
 base:=base
 A:=A.deeper (envOfC qual scope s.heap.objs.size f cd)
 N:=N
 s₀:=s
 H₀:=H
 env:=envOfC qual scope s.heap.objs.size f cd
 outer:=outer
 stack:=envOfC qual scope s.heap.objs.size f cd::outer
 ex:=[]
 calm:=true
 fn:=λ_=>true
 pn:=[]
 xe:=λe s'=>wpAny (model P w) (A.deeper (envOfC qual scope s.heap.objs.size f cd)) (leaving (envOfC qual scope s.heap.objs.size f cd) e) (λ_ Cv=>CX outer H s E e Cv) (λe' Cv=>CX outer H s E e' Cv) s'
def Ja{sc:Scope}{n:Nat}{x:Str}(h:sc.names.lookup x=some .cell):∃c,(cellsFrom n sc.names []).lookup x=some c:=by
 have q:=PySem.W.cellsFrom_some sc.names n [] (.inl h);exact Option.isSome_iff_exists.mp q
def UA{CX:jk}{P:Program}{w:World}{K:PySem.W.Frag}{mg:Str->Option Value}{base:Heap}{N ps:List Str}{qual:Str}{scope:Scope}{f:Addr}{cd:Value}{A:Around}{outer:List Env}{s s1:Shared}{H:Hp}{E:XK}{us:List Value}{vs:List V}
  (S:aN N ps scope)(hd:A.handled=none)(e0:oP P w K mg base A outer s H)(hl:vs.length=ps.length)(r:Vals vs us)
  (x:InCallC s s.heap.objs.size (bindL (envOfC qual scope s.heap.objs.size f cd).kindOf (ps.zip us) λ_=>none) (cellsFrom (s.heap.objs.size+1) scope.names []) (bindC (envOfC qual scope s.heap.objs.size f cd).kindOf (ps.zip us) λ_=>none) s1):
  Inv (fC CX P w K mg base N qual scope f cd A outer s H E) [] (start N vs) H s1:=by
 have bO:ps.length<=N.length:=by have:=congrArg List.length S.pre;rw[Zx]at this;omega
 obtain⟨h1,tk,rfl,hk⟩:=x.done;have tU:∀b:Addr,b∉(fC CX P w K mg base N qual scope f cd A outer s H E).ex:=λb z=>absurd (show b∈([]:List Addr)from z) (by simp)
 refine⟨⟨e0.mod,S.kind,rfl,rfl,Y2 _,λy z c h1 h2=>?_,λy hy=>?_,λy c _ h=>?_,λ_=>hd,Around.frames_deeper e0.frames,.inr ⟨rfl,rfl⟩,λb z=>absurd z (tU b),e0.bs,e0.iO,λb _ _=>tU b,λb z=>absurd z (tU b),e0.gF,e0.nu⟩,
  rfl,e0.bare,Un.kept hk,⟨_,x.toInCall.ns,λi y v h1 h2 h3=>?_⟩,λy c h=>⟨_,x.cell y c h⟩,e0.ao.fresh (Y2 _),λy c h=>?_,λp hp=>absurd (show p∈([]:List (Addr×Obj))from hp) (by simp),e0.ao.kept hk,?_⟩
 ·exact name_of_addr x.apart (ZM h1) (ZM h2)
 ·have hy:scope.names.lookup y=some .cell\/scope.names.lookup y=some .free:=hy;rcases hy with hy|hy
  ·exact Ja hy
  ·exact absurd rfl (S.abd _ (ZM hy))
 ·exact Z2 (x.above y c (ZM h))
 ·have hi:i<vs.length:=by
   unfold start at h2;by_cases hi:i<vs.length
   ·exact hi
   ·rw[Zt (by simpa using hi)]at h2;rw[ZS]at h2;split at h2<;>cases h2
  have ha:vs[i]?=some v:=by
   unfold start at h2;rw[Zr (by simpa using hi),Ze]at h2;cases e:vs[i]? with
   |none=>rw[e]at h2;cases h2
   |some a=>rw[e]at h2;cases h2;rfl
  obtain⟨u,hu,rv⟩:=r.get ha
  have hp:ps[i]?=some y:=by
   rw[<-S.pre,List.getElem?_take_of_lt (by omega)];exact h1
  have OJ:ps.Nodup:=by rw[<-S.pre];exact S.nd.sublist (List.take_sublist _ _)
  refine⟨u,rv,?_⟩;rcases S.par y (Y5 hp)with k|k
  ·exact .inl ⟨k,Hv OJ hp hu k⟩
  ·obtain⟨c,e⟩:=Ja (n:=s.heap.objs.size+1) k;refine .inr ⟨.inl k,c,e,?_⟩;have q:=x.cell y c e;rw[Hw OJ hp hu (by show scope.names.lookup y≠_;rw[k];decide)]at q;exact q
 ·exact e0.ao.fresh (Z2 (x.above y c (ZM h)))
 ·unfold start;show _=N.length;rw[Zn,Y0,ZR];omega
def Nm{CX:jk}{P:Program}{w:World}{K:PySem.W.Frag}{mg:Str->Option Value}{base:Heap}{k:Nat}{f:Addr}{name qual:Str}{params:Arguments}{body:List Stmt}{scope:Scope}{dV kV doc pm aw ct oc:Value}{an od:Option Addr}
  {jP:Array (Option Value)}{N ps:List Str}{sp:Sp}(lk:K.lookup f=some ⟨oc,od,.func (PySem.W.fnOf name qual params body scope dV kV doc pm an aw ct),jP⟩)(bR:PySem.W.codeIn K aw qual=true)(S:aN N ps scope)
  (len:∀vs H Q E,sp vs H Q E->vs.length=ps.length)
  (sZ:∀(A:Around) (outer:List Env) (s:Shared) (H:Hp) (vs:List V) (Q:VK) (E:XK),bL k (A.deeper (envOfC qual scope s.heap.objs.size f aw))->sp vs H Q E->
   ∃t,c8 (fC CX P w K mg base N qual scope f aw A outer s H E) body t/\t {nx:=λ_ H'=>Q .aI H',rt:=Q} (start N vs) H):
  aB P w K mg base CX (k+1) f (PySem.W.fnOf name qual params body scope dV kV doc pm an aw ct) ps sp:=by
 refine⟨len,λA outer s H args us vs Q E hr e0 hb r kC=>?_⟩;have hl:=len _ _ _ _ kC;have KX:K.In s.heap:=e0.mod.o6.keeps λb o e=>(e0.bs b o e).1;have lim:s.heap.NoLimit:=e0.mod.nolimit.keeps λb o e=>(e0.bs b o e).1
 have cZ:∀y∈ps.zip us,scope.names.lookup y.1=some .local\/(scope.names.lookup y.1=some .cell/\((cellsFrom (s.heap.objs.size+1) scope.names []).lookup y.1).isSome=true):=λ⟨n,v⟩ hy=>by
  rcases S.par n (List.of_mem_zip hy).1 with q|q
  ·exact .inl q
  ·exact .inr ⟨q,PySem.W.cellsFrom_some _ _ _ (.inl q)⟩
 refine codeAny_call_function hr.depth (KX _ _ lk) rfl S.co S.gen rfl (PySem.W.codeRec_of KX bR) (hb _ _ _ _ ?_);refine wpAny_newFunctionEnv_cells S.kind cZ λenv he s1 x=>?_;subst he;refine⟨lim.keeps x.toInCall.keep,codeAny_func ?_⟩;obtain⟨t,ht,hq⟩:=sZ A outer s H vs Q E (hr.deeper _) kC;have I:Inv (fC CX P w K mg base N qual scope f aw A outer s H E) [] (start N vs) H s1:=UA S hr.hd e0 hl r x;refine wpAny_mono (ht [] s1 (start N vs) H _ I hq) (λfl s' hs=>?_) λe s' hs=>hs
 have fin:∀{σ':St}{H':Hp}{v:V}{u:Value},Inv (fC CX P w K mg base N qual scope f aw A outer s H E) [] σ' H' s'->RelV v u->Q v H'->CE outer P w H s Q u s':=
  λ{σ' H' v u} J rv q=>⟨v,H',J.os,J.bare,J.base,J.ao,rv,q⟩
 cases fl with
 |ret u=>
  obtain⟨v,σ',H',J,rv,q⟩:=hs;exact fin J rv q
 |next=>
  obtain⟨σ',H',J,q⟩:=hs;exact fin (v:=V.aI) (u:=Value.none) J rfl q
 |brk=>
  obtain⟨_,_,_,q⟩:=hs;exact Zu q
 |cont=>
  obtain⟨_,_,_,q⟩:=hs;exact Zu q
section
variable {X:Cx}{x:Str}{p pos:Pos}{e:Expr}{es:List Expr}{t:TA}{id T:String}{r:List V->Hp->VK->Prop}
def OK(r:List V->Hp->VK->Prop)(t:TA):TE:=λσ H Q=>t σ H λvs H1=>r vs H1 Q
def cq(hc:fS X (.builtin id) r)(hg:Gl X x)(hm:X.mg x=none)(hv:bootBuiltins x=some (.builtin id))(ha:PA X (e::es) t)(hn:x≠"__name__":=by decide)(eJ:(x==("__debug__":Str))=false:=by decide)
  (he:starEach (e::es) X.env=(false,eval e X.env)::starEach es X.env:=by rfl)(bO:(backTo pos (starEach es X.env)).any (·.1)=false:=by rfl):PE X (.Call (.Name x p) (e::es) [] pos) (OK r t):=by
 intro pins s σ H Q I h;refine wpAny_Call_Name_kw (oy I hg hm hv ?_ hn eJ);exact PyProof.Rows.callWith_builtin1 (au (ha pos pins s σ H _ I h) λus s1 ⟨vs,H1,I1,r1,q1⟩=>hc pins s1 σ H1 vs us Q I1 r1 q1) he bO
def kN(hc:fS X (.type T) r)(hg:Gl X x)(hm:X.mg x=none)(hv:bootBuiltins x=some (.type T))(ha:PA X (e::es) t)(hn:x≠"__name__":=by decide)(eJ:(x==("__debug__":Str))=false:=by decide)
  (he:starEach (e::es) X.env=(false,eval e X.env)::starEach es X.env:=by rfl)(bO:(backTo pos (starEach es X.env)).any (·.1)=false:=by rfl):PE X (.Call (.Name x p) (e::es) [] pos) (OK r t):=by
 intro pins s σ H Q I h;refine wpAny_Call_Name_kw (oy I hg hm hv ?_ hn eJ);exact PyProof.Rows.callWith_type1 (au (ha pos pins s σ H _ I h) λus s1 ⟨vs,H1,I1,r1,q1⟩=>hc pins s1 σ H1 vs us Q I1 r1 q1) he bO
end
end L2
namespace HT
open PySem PyProof.Rows
section
variable {prog:Program}{w:World}{A:Around}{E:Value->Shared->Prop}{s:Shared}
def Yl{t b:Addr}{vs ws:List Value}{Q:Value->Shared->Prop}(ht:IsTup s.heap t vs.toArray)(hb:IsTup s.heap b ws.toArray)(hv:vs≠[])
  (h1:ws=[]->Q (.ref t) s)(h2:ws≠[]->Q (.ref s.heap.objs.size) {s with heap:=s.heap.push {cls:=.type "tuple",data:=.seq (vs++ws).toArray}})
  (hsz:vs.length+ws.length<=sizeLine):wpAny (model prog w) A (binaryOp .Add (.ref t) (.ref b)) Q E s:=by
 obtain⟨⟨cls,dd,data,sl⟩,ho,hc,n,hd⟩:=id ht;obtain⟨⟨aeN,OL,data2,OM⟩,wZ,jQ,n2,hd2⟩:=id hb;simp only at hc hd jQ hd2;subst hc hd jQ hd2;have e:vs.toArray++ws.toArray=(vs++ws).toArray:=by simp
 by_cases hw:ws=[]
 ·exact concat_meets ⟨_,ho,rfl⟩ ⟨_,wZ,rfl⟩ noFill_tuple_add seq_tuple_add PySem.F.slot_tuple_add PySem.F.entry_tuple_add (PySem.F.args_tuple_add_2 _ _)
   (tuple_addW1 t b vs.toArray ws.toArray n n2 dd OL sl OM (by simpa using hv) (by simp[hw])) ⟨ho,wZ,h1 hw⟩
 ·refine concat_meets ⟨_,ho,rfl⟩ ⟨_,wZ,rfl⟩ noFill_tuple_add seq_tuple_add PySem.F.slot_tuple_add PySem.F.entry_tuple_add (PySem.F.args_tuple_add_2 _ _)
   (tuple_addW2 t b vs.toArray ws.toArray n n2 dd OL sl OM (by simpa using hv) (by simpa using hw) (by rw[Zk,Zk];exact hsz)) ⟨ho,wZ,?_⟩
  rw[e];exact h2 hw
def a6(n d:Nat):Option Int->Nat
 |none=>d
 |some v=>if v<0 then(v+(n:Int)).toNat else min v.toNat n
def zK(n d:Nat):a6 n d none=d:=rfl
def vq(n d k:Nat):a6 n d (some (k:Int))=min k n:=by
 show(if(k:Int)<0 then((k:Int)+(n:Int)).toNat else min (k:Int).toNat n)=min k n;rw[if_neg (by omega),Y9]
def abe(n d:Nat)(hd:d<=n)(o:Option Int):a6 n d o<=n:=by
 cases o with
 |none=>exact hd
 |some v=>
  show(if v<0 then(v+(n:Int)).toNat else min v.toNat n)<=n;by_cases hv:v<0
  ·rw[if_pos hv];omega
  ·rw[if_neg hv];exact Nat.min_le_right _ _
def Ku(v:Int)(n d:Nat):(if v<0 then max (v+(n:Int)) 0 else min v (n:Int))=((a6 n d (some v):Nat):Int):=by
 show(if v<0 then max (v+(n:Int)) 0 else min v (n:Int))=(((if v<0 then(v+(n:Int)).toNat else min v.toNat n):Nat):Int);by_cases hv:v<0
 ·simp only[if_pos hv];omega
 ·simp only[if_neg hv];omega
def Tj(lo hi:Option Int)(n:Nat):Builtin.Slice.sliceAdjust lo hi 1 (n:Int)=(((a6 n 0 lo:Nat):Int),((a6 n n hi:Nat):Int)):=by
 have h1:¬((1:Int)<0):=by omega
 unfold Builtin.Slice.sliceAdjust;simp only[h1,if_false];refine Prod.ext ?_ ?_
 ·cases lo with
  |none=>rfl
  |some v=>exact Ku v n 0
 ·cases hi with
  |none=>rfl
  |some v=>exact Ku v n n
def Tn(i j:Nat):Builtin.Slice.slicePlaces (i:Int) (j:Int) 1=j-i:=by
 unfold Builtin.Slice.slicePlaces;have h1:(1:Int)>0:=by omega
 simp only[h1,if_true,Int.ediv_one];split<;>omega
def GG{v:Value}{o:Option Int}{Q:Option Int->Shared->Prop}(p:IsPart v o)(h:Q o s):wpAny (model prog w) A (Builtin.Slice.slicePartIndex v) Q E s:=by
 cases p with
 |none=>exact slicePart_none h
 |int i t=>exact slicePart_int h
def Ro{sl:Addr}{vl vu:Value}{lo hi:Option Int}{n:Nat}{Q:Int×Int×Nat->Shared->Prop}(hs:s.heap.IsSliceOf sl vl vu .none)(pl:IsPart vl lo)(pu:IsPart vu hi)
  (h:Q (((a6 n 0 lo:Nat):Int),1,a6 n n hi-a6 n 0 lo) s):wpAny (model prog w) A (Builtin.Slice.sliceApplied (.ref sl) (pure (n:Int))) Q E s:=by
 obtain⟨os,tV,ON,w5⟩:=id hs;unfold Builtin.Slice.sliceApplied Builtin.Slice.sliceFields;refine wpAny_bind (wpAny_bind (wpAny_field tV w5 (x:=vl) rfl (wpAny_bind (wpAny_field tV w5 (x:=vu) rfl (wpAny_bind (wpAny_field tV w5 (x:=.none) rfl (ZV ?_)))))));refine wpAny_bind (slicePart_none ?_);show wpAny _ _ (if((1:Int)==0)=true then _ else _) _ _ s;rw[if_neg (by decide)];refine wpAny_bind (GG pl (wpAny_bind (GG pu (wpAny_bind (ZV ?_)))));show wpAny _ _ (match Builtin.Slice.sliceAdjust lo hi 1 (n:Int)with|(lo,hi)=>pure (lo,(1:Int),Builtin.Slice.slicePlaces lo hi 1)) _ _ s;rw[Tj lo hi n];show wpAny _ _ (pure (((a6 n 0 lo:Nat):Int),(1:Int),Builtin.Slice.slicePlaces ((a6 n 0 lo:Nat):Int) ((a6 n n hi:Nat):Int) 1)) _ _ s;rw[Tn];exact ZV h
def Ws(xs:Array Value)(i k:Nat):((List.range k).filterMap λ(m:Nat)=>xs[((i:Int)+(m:Int)*1).toNat]?).toArray=((xs.toList.drop i).take k).toArray:=by
 have e:(λ(m:Nat)=>xs[((i:Int)+(m:Int)*1).toNat]?)=λm=>xs[i+m]?:=by
  funext m
  have:((i:Int)+(m:Int)*1).toNat=i+m:=by omega
  rw[this]
 rw[e];have:=pick_run xs i k;rw[List.filterMap_map]at this;have e2:((λx=>xs[x]?)∘λx=>i+x)=λm=>xs[i+m]?:=rfl;rw[e2]at this;rw[this]
def Rg{t sl:Addr}{items:Array Value}{vl vu:Value}{lo hi:Option Int}{Q:Value->Shared->Prop}(ht:IsTup s.heap t items)(hs:s.heap.IsSliceOf sl vl vu .none)(pl:IsPart vl lo)(pu:IsPart vu hi)
  (hw:¬(a6 items.size 0 lo=0/\a6 items.size items.size hi=items.size))
  (h:Q (.ref s.heap.objs.size) {s with heap:=s.heap.push {cls:=.type "tuple",data:=.seq ((items.toList.drop (a6 items.size 0 lo)).take (a6 items.size items.size hi-a6 items.size 0 lo)).toArray}})
  (hsz:items.size<=sizeLine):wpAny (model prog w) A (getItem (.ref t) (.ref sl)) Q E s:=by
 have vU:sizeOk (.seq ((items.toList.drop (a6 items.size 0 lo)).take (a6 items.size items.size hi-a6 items.size 0 lo)).toArray):=by
  show((items.toList.drop (a6 items.size 0 lo)).take (a6 items.size items.size hi-a6 items.size 0 lo)).toArray.size<=sizeLine;rw[Zk,Zx,ZJ,Array.length_toList];omega
 have hj:a6 items.size items.size hi<=items.size:=abe _ _ (Y2 _) hi;obtain⟨os,tV,ON,w5⟩:=id hs;have hTs:s.TypeIs (.ref sl) "slice":=⟨os,tV,ON⟩;unfold getItem
 try with_reducible refine wpAny_holding ?_
 first|refine wpAny_bind (ZV ?_)|skip
 refine wpAny_bind (wpAny_sequenceKey ht.typeIs (by decide) ?_)
 refine wpAny_bind (wpAny_callSpecial?_slot (name:=Str.ofString "__getitem__") ht.typeIs PyProof.Rows.slot_tuple_getitem
  (wpAny_call_entry PyProof.Rows.slot_tuple_getitem ht.typeIs entry_tuple_getitem ?_ (args_tuple_getitem _ _)))
 show wpAny _ _ (Builtin.Tuple.tupleItemsOf (.ref t)>>=_) _ _ s;refine wpAny_bind (tupleItemsOf_ ht ?_);refine wpAny_bind (wpAny_typeOf hTs ?_);rw[if_pos (by decide)];refine wpAny_bind (Ro hs pl pu ?_)
 have w6:¬((((a6 items.size 0 lo:Nat):Int)==0&&(1:Int)==1&&(a6 items.size items.size hi-a6 items.size 0 lo)==items.size)=true):=by
  intro q;rw[Bool.and_eq_true,Bool.and_eq_true]at q;have q1:((a6 items.size 0 lo:Nat):Int)=0:=eq_of_beq q.1.1;have q2:a6 items.size items.size hi-a6 items.size 0 lo=items.size:=eq_of_beq q.2;exact hw ⟨by omega,by omega⟩
 show wpAny _ _ (if(((a6 items.size 0 lo:Nat):Int)==0&&(1:Int)==1&&(a6 items.size items.size hi-a6 items.size 0 lo)==items.size)=true then _ else _) _ _ s;rw[if_neg w6,Ws]
 first
  |exact wpAny_bind (m:=Builtin.Tuple.tupleExact _) (wpAny_newObj_type (ZV ⟨_,rfl,ZV h⟩) vU)
  |exact wpAny_bind (m:=Builtin.Tuple.tupleExact _) (wpAny_newObj_type (wpAny_bind (ZV (ZV ⟨_,rfl,ZV h⟩))) vU)
  |exact wpAny_bind (wpAny_bind (m:=Builtin.Tuple.tupleExact _) (wpAny_newObj_type (ZV (ZV ⟨_,rfl,ZV h⟩)) vU))
  |exact wpAny_bind (wpAny_bind (m:=Builtin.Tuple.tupleExact _) (wpAny_newObj_type (ZV ⟨_,rfl,ZV h⟩) vU))
end
end HT
namespace L2
open PySem PySem.Spec PyProof.Rows
abbrev TO:=St->Hp->(Option Int->Hp->Prop)->Prop
def PO(X:Cx)(e:Option Expr)(t:TO):Prop:=
 ∀(pins:List (Addr×Obj)) (s:Shared) (σ:St) (H:Hp) (Q:Option Int->Hp->Prop),Inv X pins σ H s->t σ H Q->
  wpAny (model X.prog X.w) X.A (evalPart e X.env) (λu s'=>∃o H',Inv X pins σ H' s'/\IsPart u o/\Q o H') X.xe s
def Ym:TO:=λ_ H Q=>Q none H
def acB(t:TE):TO:=λσ H Q=>t σ H λx H1=>∃i,x=.int i/\Q (some i) H1
def intsAre_of{ns:List Int}:∀{us:List Value},Vals (ns.map V.int) us->IntsAre us ns:=by
 induction ns with
 |nil=>intro us r;rw[List.map_nil]at r;cases r;exact .nil
 |cons n ns ih=>
  intro us r;rw[Zq]at r;cases r with
  |cons r1 r2=>
   obtain⟨t,e⟩:=r1;subst e;exact .cons n t (ih r2)
section
variable {X:Cx}{e:Expr}{te:TE}{lo hi:Option Expr}{tl th:TO}{pos p2:Pos}
def mH:PO X none Ym:=by
 intro pins s σ H Q I h;rw[evalPart_none];exact ZV ⟨none,H,I,.none,h⟩
def jz(h:PE X e te):PO X (some e) (acB te):=by
 intro pins s σ H Q I hw;rw[evalPart_some];refine au (h pins s σ H _ I hw) λu s1 ⟨x,H1,I1,r1,q1⟩=>?_;obtain⟨i,rfl,q⟩:=q1;obtain⟨t,rfl⟩:=r1;exact⟨some i,H1,I1,.int i t,q⟩
def w9(X:Cx)(r:V->Option Int->Option Int->Hp->VK->Prop):Prop:=
 ∀(pins:List (Addr×Obj)) (s:Shared) (σ:St) (H:Hp) (x:V) (v vl vu:Value) (lo hi:Option Int) (sl:Addr) (Q:VK),Inv X pins σ H s->RelV x v->s.heap.IsSliceOf sl vl vu .none->IsPart vl lo->IsPart vu hi->r x lo hi H Q->
  ∃T id,typeLookup (.type T) "__getitem__"=pure (some (.builtin id))/\s.TypeIs v T/\wpAny (model X.prog X.w) X.A (getItem v (.ref sl)) (EP X pins σ Q) X.xe s
def tSl(r:V->Option Int->Option Int->Hp->VK->Prop)(te:TE)(tl th:TO):TE:=λσ H Q=>te σ H λx H1=>tl σ H1 λl H2=>th σ H2 λu H3=>r x l u H3 Q
def kP{r:V->Option Int->Option Int->Hp->VK->Prop}(hr:w9 X r)(he:PE X e te)(hl:PO X lo tl)(hu:PO X hi th):PE X (.Subscript e (.Slice lo hi none p2) pos) (tSl r te tl th):=by
 intro pins s σ H Q I h;refine Subscript_ (au (he pins s σ H _ I h) λv s1 ⟨x,H1,I1,r1,q1⟩=>?_);refine wpAny_Slice (au (hl pins s1 σ H1 _ I1 q1) λvl s2 ⟨l,H2,I2,pl,q2⟩=>au (hu pins s2 σ H2 _ I2 q2) λvu s3 ⟨u,H3,I3,pu,q3⟩=>?_);rw[evalPart_none];refine ZV ?_;have I4:Inv X pins σ H3 {s3 with heap:=s3.heap.push {cls:=.type "slice",data:=.fields #[vl,vu,.none]}}:=I3.kept (t':=s3.toks) λb ob q=>Y7 _ q;obtain⟨T,id,hT,ht,hg⟩:=hr pins {s3 with heap:=s3.heap.push {cls:=.type "slice",data:=.fields #[vl,vu,.none]}} σ H3 x v vl vu l u s3.heap.objs.size Q I4 r1 (Heap.IsSliceOf.new ..) pl pu q3;show wpAny (model X.prog X.w) X.A (subscriptTail e (.Slice lo hi none p2) v (.ref s3.heap.objs.size)) (EP X pins σ Q) X.xe {s3 with heap:=s3.heap.push {cls:=.type "slice",data:=.fields #[vl,vu,.none]}};exact tail_any (ops:=[.ref s3.heap.objs.size,v]) ht hT hg (by with_unfolding_all rfl)
def jg(xs:List V)(lo hi:Option Int):List V:=(xs.drop (HT.a6 xs.length 0 lo)).take (HT.a6 xs.length xs.length hi-HT.a6 xs.length 0 lo)
def Gn(xs:List V)(lo hi:Option Int):(jg xs lo hi).length<=xs.length:=by
 unfold jg;rw[Zx,ZJ];omega
def adH(K:PySem.W.Frag):V->Option Int->Option Int->Hp->VK->Prop:=λx lo hi H Q=>∃a xs,x=.ref a/\bt K H a xs/\
 ¬(HT.a6 xs.length 0 lo=0/\HT.a6 xs.length xs.length hi=xs.length)/\∀p,H p=none->Q (.ref p) (upd H p (.tup (jg xs lo hi)))
def abf:w9 X (adH X.K):=by
 intro pins s σ H x v vl vu lo hi sl Q I rx hs pl pu h;obtain⟨a,xs,rfl,hx,hw,q⟩:=h;cases rx;obtain⟨ai,r,ht,hz⟩:=I.tuple hx;have hlen:ai.toArray.size=xs.length:=by rw[Zk];exact r.length.symm
 refine⟨"tuple",_,PyProof.Rows.slot_tuple_getitem.lookup,ht.typeIs,?_⟩;refine HT.Rg ht hs pl pu (by rw[hlen];exact hw) ?_ (by rw[hlen];exact hz);rw[hlen];refine⟨.ref s.heap.objs.size,_,I.laid (t':=s.toks) (o:=.tup (jg xs lo hi)) (λb ob q=>Y7 _ q) (Y2 _) ?_,rfl,q _ (I.ao.fresh (Y2 _))⟩;exact⟨ZQ (Gn xs lo hi) hz,_,(r.drop (HT.a6 xs.length 0 lo)).take (HT.a6 xs.length xs.length hi-HT.a6 xs.length 0 lo),IsTup.new _ _⟩
inductive Kv(K:PySem.W.Frag)(x:V)(y:V)(H:Hp)(Q:VK):Prop
 |mk (a b xs ys:_) (_:x=.ref a) (_:y=.ref b) (_:bt K H a xs) (_:bt K H b ys) (_:xs≠[]) (_:xs.length+ys.length<=sizeLine) (_:(ys=[]->Q (.ref a) H)) (_:(ys≠[]->∀p,H p=none->Q (.ref p) (upd H p (.tup (xs++ys))))):Kv K x y H Q
def acC(K:PySem.W.Frag):R2:=Kv K
def Vals.Aj{xs:List V}{us:List Value}(r:Vals xs us):us=[]↔xs=[]:=by
 cases r with
 |nil=>simp
 |cons _ _=>simp
def Kw:cH X (binaryOp .Add) (acC X.K):=by
 intro pins s σ H x y v u Q I rx ry h;obtain⟨a,b,xs,ys,rfl,rfl,ha,hb,hx,hz,q1,q2⟩:=h;cases rx;cases ry;obtain⟨ai,r1,p1,_⟩:=I.tuple ha;obtain⟨B0,r2,p2,_⟩:=I.tuple hb;refine HT.Yl p1 p2 (λz=>hx (r1.Aj.mp z)) (λz=>⟨.ref a,H,I,rfl,q1 (r2.Aj.mp z)⟩) (λz=>?_) (by rw[<-r1.length, <-r2.length];exact hz);refine⟨.ref s.heap.objs.size,_,I.laid (t':=s.toks) (o:=.tup (xs++ys)) (λb ob q=>Y7 _ q) (Y2 _) ?_,rfl,q2 (λw=>z (r2.Aj.mpr w)) _ (I.ao.fresh (Y2 _))⟩;exact⟨by rw[Zn];exact hz,_,r1.append r2,IsTup.new _ _⟩
end
def fg(n:Nat)(i:Int):Option Nat:=if 0<=i then(if i<n then some i.toNat else none)else if -(n:Int)<=i then some (i+n).toNat else none
def jm{α:Type}(xs:List α)(i:Int):Option α:=(fg xs.length i).bind λj=>xs[j]?
def qv{n:Nat}{i:Int}{j:Nat}(h:fg n i=some j):seqIndex? i n=some j/\j<n/\ -(n:Int)<=i/\i<n:=by
 unfold fg at h;by_cases h0:0<=i
 ·rw[if_pos h0]at h;by_cases h1:i<n
  ·rw[if_pos h1]at h;have e:i.toNat=j:=Zf h;exact⟨by rw[seqIndex_of h0 h1,e],by omega,by omega,h1⟩
  ·rw[if_neg h1]at h;cases h
 ·rw[if_neg h0]at h;by_cases h1: -(n:Int)<=i
  ·rw[if_pos h1]at h;have e:(i+n).toNat=j:=Zf h;exact⟨by rw[seqIndex_neg (by omega) h1,e],by omega,h1,by omega⟩
  ·rw[if_neg h1]at h;cases h
def Ky{α:Type}{xs:List α}{i:Int}{v:α}(h:jm xs i=some v):∃j,seqIndex? i xs.length=some j/\xs[j]?=some v/\j<xs.length/\ -(xs.length:Int)<=i/\i<xs.length:=by
 unfold jm at h;cases e:fg xs.length i with
 |none=>rw[e]at h;cases h
 |some j=>
  rw[e]at h;obtain⟨h1,h2,h3,h4⟩:=qv e;exact⟨j,h1,h,h2,h3,h4⟩
def kR{α:Type}{xs:List α}{j:Nat}{v:α}(h:xs[j]?=some v):jm xs (j:Int)=some v:=by
 have hj:j<xs.length:=(ZL.mp h).1
 have e:fg xs.length (j:Int)=some j:=by
  unfold fg;rw[if_pos (by omega),if_pos (by omega)];simp
 unfold jm;rw[e];exact h
def Wt{α:Type}(xs:List α)(v:α):jm (xs++[v]) (-1)=some v:=by
 have hl:(xs++[v]).length=xs.length+1:=by simp
 have e:fg (xs++[v]).length (-1)=some xs.length:=by
  unfold fg;rw[hl,if_neg (by decide),if_pos (by omega)];congr 1;omega
 unfold jm;rw[e];show(xs++[v])[xs.length]?=some v;simp
def Yn(b:Expr):Prop:=∀o i,subscripted b false o i=operate [o,i] (getItem o i)
def jR(X:Cx)(r:R2):Prop:=
 ∀(value slice:Expr) (pins:List (Addr×Obj)) (s:Shared) (σ:St) (H:Hp) (x y:V) (v u:Value) (Q:VK),Inv X pins σ H s->RelV x v->RelV y u->r x y H Q->
  subscripted slice false v u=operate [v,u] (getItem v u)->wpAny (model X.prog X.w) X.A (subscriptTail value slice v u) (EP X pins σ Q) X.xe s
def OO(X:Cx)(id:String)(r:V->List V->Hp->VK->Prop):Prop:=
 ∀(pins:List (Addr×Obj)) (s:Shared) (σ:St) (H:Hp) (x:V) (xs:List V) (v:Value) (us:List Value) (Q:VK),Inv X pins σ H s->RelV x v->Vals xs us->r x xs H Q->
  wpAny (model X.prog X.w) X.A (call (.builtin id) (v::us)) (EP X pins σ Q) X.xe s
section
variable {X:Cx}{a b:Expr}{ta tb:TE}{pos:Pos}
def aD{r:R2}(hr:jR X r)(ha:PE X a ta)(hb:PE X b tb)(hs:Yn b):PE X (.Subscript a b pos) (o9 r ta tb):=by
 intro pins s σ H Q I h;exact Subscript_ (BU ha hb I h λv u s2 x y H2 I2 rx ry q=>hr a b pins s2 σ H2 x y v u Q I2 rx ry q (hs _ _))
inductive Mc(K:PySem.W.Frag)(x:V)(y:V)(H:Hp)(Q:VK):Prop
 |mk (p xs i v:_) (_:x=.ref p) (_:y=.int i) (_:af K H p xs) (_:jm xs i=some v) (_:Q v H):Mc K x y H Q
def k9(K:PySem.W.Frag):R2:=Mc K
inductive Me(K:PySem.W.Frag)(x:V)(y:V)(H:Hp)(Q:VK):Prop
 |mk (p xs i v:_) (_:x=.ref p) (_:y=.int i) (_:bt K H p xs) (_:jm xs i=some v) (_:Q v H):Me K x y H Q
def kr(K:PySem.W.Frag):R2:=Me K
def Kz:jR X (k9 X.K):=by
 intro value slice pins s σ H x y v u Q I rx ry h hs;obtain⟨p,xs,i,z,rfl,rfl,hq,he,q⟩:=h;cases rx;obtain⟨t,rfl⟩:=ry;obtain⟨ai,r,pl,hz⟩:=I.list hq;obtain⟨j,h1,h2,h3,h4,h5⟩:=Ky he;obtain⟨w,ew,gJ⟩:=r.get h2;have hl:=r.length;have hn:=qE;have fin:EP X pins σ Q w s:=⟨z,H,I,gJ,q⟩;by_cases h0:0<=i
 ·have hj:i.toNat=j:=by
   rw[seqIndex_of h0 h5]at h1;exact Zf h1
  exact item_listR pl.isList h0 (by omega) (by rw[hj];simpa using ew) fin hs
 ·have hj:(i+(ai.toArray.size:Int)).toNat=j:=by
   rw[seqIndex_neg (by omega) h4]at h1;rw[Zk, <-hl];exact Zf h1
  exact subscriptTail_builtinR (x:=w) pl.isList.typeIs slot_list_getitem.lookup
   (wpAny_getItem_list_neg (Q:=λr s'=>r=w/\EP X pins σ Q r s') pl.isList (by omega) (by rw[Zk]<;>omega) (by omega) (by rw[hj];simpa using ew) ⟨rfl,fin⟩) hs
def abg:jR X (kr X.K):=by
 intro value slice pins s σ H x y v u Q I rx ry h hs;obtain⟨p,xs,i,z,rfl,rfl,hq,he,q⟩:=h;cases rx;obtain⟨t,rfl⟩:=ry;obtain⟨ai,r,pl,hz⟩:=I.tuple hq;obtain⟨j,h1,h2,h3,h4,h5⟩:=Ky he;obtain⟨w,ew,gJ⟩:=r.get h2;have hl:=r.length;have hn:=qE;have fin:EP X pins σ Q w s:=⟨z,H,I,gJ,q⟩
 exact subscriptTail_builtinR (x:=w) pl.typeIs slot_tuple_getitem.lookup
  (getItem_tuple (j:=j) (Q:=λr s'=>r=w/\EP X pins σ Q r s') pl (by omega) (by omega) (by rw[Zk, <-hl];exact h1) (by simpa using ew) ⟨rfl,fin⟩) hs
def To(ai:List Value)(n j:Nat)(u:Value):Obj.mapSeq (·.setIfInBounds j u) {cls:=.type "list",data:=.seq ai.toArray n}={cls:=.type "list",data:=.seq (ai.set j u).toArray n}:=by
 simp[Obj.mapSeq]
def Inv.lst{pins:List (Addr×Obj)}{σ:St}{H:Hp}{s:Shared}{p:Addr}{xs:List V}(I:Inv X pins σ H s)(h:H p=some (.lst xs)):
  ∃(ai:List Value) (n:Nat),Vals xs ai/\s.heap.get? p=some {cls:=.type "list",data:=.seq ai.toArray n}/\xs.length<=sizeLine:=by
 obtain⟨z,ai,n,r,e⟩:=I.ao p _ h;exact⟨ai,n,r,e,z⟩
def Inv.abh{pins:List (Addr×Obj)}{σ:St}{H:Hp}{s:Shared}{p:Addr}{xs ys:List V}{ai its':List Value}{n n':Nat}{f:Obj->Obj}(I:Inv X pins σ H s)(h:H p=some (.lst xs))
  (ho:s.heap.get? p=some {cls:=.type "list",data:=.seq ai.toArray n})(hf:f {cls:=.type "list",data:=.seq ai.toArray n}={cls:=.type "list",data:=.seq its'.toArray n'})(r:Vals ys its')(hz:ys.length<=sizeLine)(t:Nat):
  Inv X pins σ (upd H p (.lst ys)) {s with heap:=s.heap.update p f,toks:=t}:=by
 have e:(s.heap.update p f).get? p=some {cls:=.type "list",data:=.seq its'.toArray n'}:=by
  rw[Heap.get?_update_self f ho (by rw[hf]<;>rfl),hf]
 refine I.write (x:=p) (e:=p) (by rw[h];trivial) (.inl rfl) (λb u hb q=>(Heap.get?_update_other _ _ (Ne.symm hb)).trans q) ⟨_,e⟩ ?_;exact⟨hz,its',n',r,e⟩
def acD:V->V->V->Hp->(Hp->Prop)->Prop:=λo i v H Q=>∃p xs k j,o=.ref p/\i=.int k/\H p=some (.lst xs)/\fg xs.length k=some j/\Q (upd H p (.lst (xs.set j v)))
def set_list:BQ X acD:=by
 intro pins s σ H o i v ov iv u Q I ro ri rv h;obtain⟨p,xs,k,j,rfl,rfl,hp,hj,q⟩:=h;cases ro;obtain⟨t,rfl⟩:=ri;obtain⟨ai,n,r,ho,hz⟩:=I.lst hp;obtain⟨h1,h2,h3,h4⟩:=qv hj;have hl:=r.length;have hn:=qE
 have I':Inv X pins σ (upd H p (.lst (xs.set j v))) {s with heap:=s.heap.update p (Obj.mapSeq (·.setIfInBounds j u))}:=
  I.abh hp ho (To ai n j u) (r.set rv j) (by rw[List.length_set];exact hz) s.toks
 by_cases h0:0<=k
 ·have hk:k.toNat=j:=by
   rw[seqIndex_of h0 h4]at h1;exact Zf h1
  exact PySem.W.ki_setAt ho h0 (by omega) (by rw[Zk, <-hl];exact h4) (by rw[hk];exact⟨_,I',q⟩)
 ·have hk:(k+(ai.toArray.size:Int)).toNat=j:=by
   rw[seqIndex_neg (by omega) h3]at h1;rw[Zk, <-hl];exact Zf h1
  exact PySem.W.ki_setBack ho (by omega) (by rw[Zk, <-hl];exact h3) (by omega) (by rw[hk];exact⟨_,I',q⟩)
def Sd(lo hi:Option Int)(n:Nat):(sliceBounds lo hi none n).1=((HT.a6 n 0 lo:Nat):Int)/\(sliceBounds lo hi none n).2.1=((HT.a6 n n hi:Nat):Int)/\(sliceBounds lo hi none n).2.2=1:=by
 refine⟨?_,?_,rfl⟩
 ·cases lo with
  |none=>simp[sliceBounds,HT.a6]
  |some i=>
   simp only[sliceBounds,HT.a6,Option.getD_none,show(1:Int)>0 by decide,if_true];by_cases h:i<0
   ·simp only[h,if_true]<;>omega
   ·simp only[h,if_false]<;>omega
 ·cases hi with
  |none=>simp[sliceBounds,HT.a6]
  |some i=>
   simp only[sliceBounds,HT.a6,Option.getD_none,show(1:Int)>0 by decide,if_true];by_cases h:i<0
   ·simp only[h,if_true]<;>omega
   ·simp only[h,if_false]<;>omega
def RP(ai:List Value)(lo hi:Option Int):slicePick ai.toArray lo hi none=((ai.drop (HT.a6 ai.length 0 lo)).take (HT.a6 ai.length ai.length hi-HT.a6 ai.length 0 lo)).toArray:=by
 obtain⟨h1,h2,h3⟩:=Sd lo hi ai.toArray.size;unfold slicePick;rw[h1,h2,h3];simp only[sliceRange_one,pick_run,Zk]<;>rfl
def B1(K:PySem.W.Frag):V->Option Int->Option Int->Hp->VK->Prop:=λx lo hi H Q=>∃a xs,x=.ref a/\af K H a xs/\∀p,H p=none->Q (.ref p) (upd H p (.lst (jg xs lo hi)))
def vt:w9 X (B1 X.K):=by
 intro pins s σ H x v vl vu lo hi sl Q I rx hs pl pu h;obtain⟨a,xs,rfl,hx,q⟩:=h;cases rx;obtain⟨ai,r,ht,hz⟩:=I.list hx;have hlen:=r.length;refine⟨"list",_,slot_list_getitem.lookup,ht.isList.typeIs,?_⟩;refine wpAny_getItem_list_slice ht.isList hs pl pu .none (by simp) ?_ (by rw[Zk]<;>omega);rw[RP, <-hlen];refine⟨.ref s.heap.objs.size,_,I.laid (t':=s.toks) (o:=.lst (jg xs lo hi)) (λb ob q=>Y7 _ q) (Y2 _) ?_,rfl,q _ (I.ao.fresh (Y2 _))⟩;exact⟨ZQ (Gn xs lo hi) hz,_,0,(r.drop (HT.a6 xs.length 0 lo)).take (HT.a6 xs.length xs.length hi-HT.a6 xs.length 0 lo),Zp _ rfl⟩
def fm:fS X (.builtin "len") (λxs H Q=>∃p ys,xs=[.ref p]/\(af X.K H p ys\/bt X.K H p ys)/\Q (.int ys.length) H):=by
 intro pins s σ H xs us Q I r h;obtain⟨p,ys,rfl,hq,q⟩:=h;obtain⟨u,rfl,rx⟩:=vals1 r;cases rx;have hn:=qE;rcases hq with hq|hq
 ·obtain⟨ai,r',pl,hz⟩:=I.list hq;have hlen:=r'.length;exact Calls.call_len_list pl.isList (by simp only[Zk]<;>omega) ⟨.int ys.length,H,I.tok _,⟨s.toks+1,by rw[Zk,hlen]⟩,q⟩
 ·obtain⟨ai,r',pl,hz⟩:=I.tuple hq;have hlen:=r'.length;exact len_tuple pl (by simp only[Zk]<;>omega) ⟨.int ys.length,H,I.tok _,⟨s.toks+1,by rw[Zk,hlen]⟩,q⟩
def Se:fS X (.type "list") (λxs H Q=>∃p ys,xs=[.ref p]/\(af X.K H p ys\/bt X.K H p ys)/\∀l,H l=none->Q (.ref l) (upd H l (.lst ys))):=by
 intro pins s σ H xs us Q I r h;obtain⟨p,ys,rfl,hq,q⟩:=h;obtain⟨u,rfl,rx⟩:=vals1 r;cases rx
 have fin:∀(ai:List Value),Vals ys ai->ys.length<=sizeLine->∀(h':Heap) (c':Nat),(∀b o',s.heap.get? b=some o'->h'.get? b=some o')->
   h'.get? s.heap.objs.size=some {cls:=.type "list",dict:=none,data:=.seq ai.toArray c',slots:= #[]}->EP X pins σ Q (.ref s.heap.objs.size) {s with heap:=h'}:=λai r' hz h' c' kp e=>
  ⟨.ref s.heap.objs.size,_,I.laid (t':=s.toks) kp (Y2 _) (show bN X.prog X.w _ h' _ (.lst ys)from⟨hz,ai,c',r',e⟩),rfl,q _ (I.ao.fresh (Y2 _))⟩
 rcases hq with hq|hq
 ·obtain⟨ai,r',pl,hz⟩:=I.list hq;have hlen:=r'.length;obtain⟨o,ho,hc,n,hd⟩:=pl.isList;exact call_list_seq p (.inl rfl) ho hc hd (λh' c' kp e=>fin ai r' hz h' c' kp e) (by simp only[Zk]<;>omega)
 ·obtain⟨ai,r',pl,hz⟩:=I.tuple hq;have hlen:=r'.length;obtain⟨o,ho,hc,n,hd⟩:=pl;exact call_list_seq p (.inr rfl) ho hc hd (λh' c' kp e=>fin ai r' hz h' c' kp e) (by simp only[Zk]<;>omega)
def Cw(K:PySem.W.Frag)(T:String)(x:V)(H:Hp):Prop:=match x with
 |.str _=>T="str"
 |.int _=>T="int"
 |.ref p=>(T="list"/\∃xs,af K H p xs)\/(T="tuple"/\∃o,K.lookup p=some o/\o.cls=.type "tuple"/\o.dict=none)\/
  (T="dict"/\((∃kvs,H p=some (.dK kvs))\/∃kvs,H p=some (.dT kvs)))\/(T="set"/\∃S n,H p=some (.set S n))
 |_=>False
def Mf{pins:List (Addr×Obj)}{σ:St}{H:Hp}{s:Shared}{T:String}{x:V}{v:Value}(I:Inv X pins σ H s)(r:RelV x v)(ty:Cw X.K T x H):
  s.TypeIs v T/\∀a,v=.ref a->∃ob,s.heap.get? a=some ob/\ob.dict=none:=by
 cases x with
 |str z=>
  obtain⟨t,rfl⟩:=r;cases(show T="str" from ty);exact⟨typeIs_str s z t,λ_ e=>nomatch e⟩
 |int i=>
  obtain⟨t,rfl⟩:=r;cases(show T="int" from ty);exact⟨typeIs_int s i t,λ_ e=>nomatch e⟩
 |ref p=>
  cases r;rcases ty with⟨rfl,xs,hq⟩|⟨rfl,o,hk,hc,hd⟩|⟨rfl,hk⟩|⟨rfl,S,n,hk⟩
  ·obtain⟨ai,_,pl,_⟩:=I.list hq;refine⟨pl.isList.typeIs,λa e=>?_⟩;cases e;obtain⟨o,n,e,c,hd,_⟩:=pl;exact⟨o,e,hd⟩
  ·refine⟨⟨o,I.cG p o hk,hc⟩,λa e=>?_⟩;cases e;exact⟨o,I.cG _ o hk,hd⟩
  ·have z:∃o,s.heap.get? p=some o/\o.ExactDict:=by
    rcases hk with⟨kvs,hk⟩|⟨kvs,hk⟩
    ·obtain⟨_,_,_,_,o,_,_,e,ex,_⟩:=I.ao p _ hk;exact⟨o,e,ex⟩
    ·obtain⟨_,_,_,_,o,_,_,e,ex,_⟩:=I.ao p _ hk;exact⟨o,e,ex⟩
   obtain⟨o,e,ex⟩:=z;refine⟨⟨o,e,ex.1⟩,λa e2=>?_⟩;cases e2;exact⟨o,e,ex.2.1⟩
  ·obtain⟨o,_,_,_,e,ex,_⟩:=I.ao p _ hk;refine⟨⟨o,e,ex.1⟩,λa e2=>?_⟩;cases e2;exact⟨o,e,ex.2.1⟩
 |_=>exact Zu ty
def adI(K:PySem.W.Frag)(T:String)(r:V->List V->Hp->VK->Prop)(to:TE):TE:=λσ H Q=>to σ H λx H1=>Cw K T x H1/\r x [] H1 Q
def tBM(K:PySem.W.Frag)(T:String)(r:V->List V->Hp->VK->Prop)(to:TE)(t:TA):TE:=λσ H Q=>to σ H λx H1=>Cw K T x H1/\t σ H1 λxs H2=>r x xs H2 Q
variable {o e:Expr}{es:List Expr}{to:TE}{t:TA}{name:Str}{apos cu:Pos}{T id:String}{r:V->List V->Hp->VK->Prop}
def Mg(pa:PlainAttrs T)(slot:Slot T name id)(Cy:typeOf (.builtin id)=pure (.type "method_descriptor"))(hm:OO X id r)(ho:PE X o to)
  (Bi:attributeBase o name X.env (eval o X.env)=eval o X.env:=by rfl)(Bj:(apos.endLine==cu.line)=true:=by rfl):PE X (.Call (.Attribute o name apos) [] [] cu) (adI X.K T r to):=by
 intro pins s σ H Q I h;refine wpAny_Call_method0_late Bi Bj (au (ho pins s σ H _ I h) λv s1 ⟨x,H1,I1,r1,ty,q1⟩=>?_);obtain⟨h1,h2⟩:=Mf I1 r1 ty;exact⟨T,id,pa,slot,Cy,h1,h2,Calls.callWith_builtin rfl (PySem.evalArgs_none (hm pins s1 σ H1 x [] v [] Q I1 r1 .nil q1))⟩
def fz(pa:PlainAttrs T)(slot:Slot T name id)(Cy:typeOf (.builtin id)=pure (.type "method_descriptor"))(hm:OO X id r)(ho:PE X o to)(ha:PA X (e::es) t)
  (Bi:attributeBase o name X.env (eval o X.env)=eval o X.env:=by rfl)
  (adJ:((backTo cu (starEach (e::es) X.env)).all (λx=> !x.1)&&(backToKw cu (keywordEach [] X.env)).all (λx=>x.1.isSome)
   &&decide ((e::es).length+([]:List Keyword).length+(if([]:List Keyword).isEmpty then 0 else 1)<30))=true:=by rfl)
  (Bj:(apos.endLine==cu.line)=true:=by rfl)(hs:starEach (e::es) X.env=(false,eval e X.env)::starEach es X.env:=by rfl)(abi:(backTo cu (starEach es X.env)).any (·.1)=false:=by rfl):
  PE X (.Call (.Attribute o name apos) (e::es) [] cu) (tBM X.K T r to t):=by
 intro pins s σ H Q I h;refine wpAny_Call_method_late Bi adJ Bj rfl (au (ho pins s σ H _ I h) λv s1 ⟨x,H1,I1,r1,ty,q1⟩=>?_);obtain⟨h1,h2⟩:=Mf I1 r1 ty;refine⟨T,id,pa,slot,Cy,h1,h2,?_⟩;have hA:=ha cu pins s1 σ H1 _ I1 q1;rw[hs]at hA⊢;refine Calls.callWith_builtin (by show(false||(backTo cu (starEach es X.env)).any (·.1))=false;rw[abi]<;>rfl) (Calls.evalArgs_plain ?_);exact au hA λus s2 ⟨vs,H2,I2,r2,q2⟩=>hm pins s2 σ H2 x vs v us Q I2 r1 r2 q2
end
def xa(X:Cx)(id:String)(r:V->List V->Hp->VK->Prop):Prop:=
 ∀(pins:List (Addr×Obj)) (s:Shared) (σ:St) (H:Hp) (x:V) (xs:List V) (v:Value) (us:List Value) (Q:VK),Inv X pins σ H s->RelV x v->Vals xs us->r x xs H Q->
  wpAny (model X.prog X.w) X.A (call (.builtin id) (v::us)) (EP X pins σ Q) X.xe s
def Vals.one:∀{x:V}{us:List Value},Vals [x] us->∃u,us=[u]/\RelV x u
 |_,_,.cons r .nil=>⟨_,rfl,r⟩
def Vals.zero:∀{us:List Value},Vals [] us->us=[]
 |_,.nil=>rfl
def Vals.dropLast{xs:List V}{us:List Value}(h:Vals xs us):Vals xs.dropLast us.dropLast:=by
 induction h with
 |nil=>exact .nil
 |cons r t ih=>
  cases t with
  |nil=>exact .nil
  |cons q t'=>exact .cons r ih
def Vals.eraseIdx:∀{xs:List V}{us:List Value} (i:Nat),Vals xs us->Vals (xs.eraseIdx i) (us.eraseIdx i)
 |_,_,_,.nil=>.nil
 |_,_,0,.cons _ t=>t
 |_,_,i+1,.cons r t=>.cons r (Vals.eraseIdx i t)
def Vals.rep{xs:List V}{us:List Value}(h:Vals xs us):∀k:Nat,Vals (List.replicate k xs).flatten (List.replicate k us).flatten
 |0=>.nil
 |k+1=>by
  rw[List.replicate_succ,List.replicate_succ,List.flatten_cons,List.flatten_cons];exact Vals.append h (Vals.rep h k)
def Tq{α:Type}(l:List α):l.eraseIdx (l.length-1)=l.dropLast:=by
 induction l with
 |nil=>rfl
 |cons a r ih=>
  cases r with
  |nil=>rfl
  |cons b r=>
   have e:(a::b::r).length-1=((b::r).length-1)+1:=by
    have h1:(a::b::r).length=r.length+2:=rfl;have h2:(b::r).length=r.length+1:=rfl;omega
   rw[e,List.eraseIdx_cons_succ,ih]
   all_goals rfl
def HB{α:Type}:∀(l:List α) (i:Nat),(l.eraseIdx i).length<=l.length
 |[],_=>Y2 _
 |_::_,0=>Nat.le_succ _
 |_::r,i+1=>Nat.succ_le_succ (HB r i)
def foldl_rep(ai:List Value):∀(k:Nat) (acc:List Value),
  List.foldl (λx1 x2=>x1++x2) acc.toArray (List.replicate k ai.toArray)=(acc++(List.replicate k ai).flatten).toArray
 |0,acc=>by simp
 |k+1,acc=>by
  have e:acc.toArray++ai.toArray=(acc++ai).toArray:=by simp
  have e2:(acc++ai)++(List.replicate k ai).flatten=acc++(List.replicate (k+1) ai).flatten:=by
   rw[List.replicate_succ,List.flatten_cons,ZZ]
  rw[<-e2, <-foldl_rep ai k (acc++ai), <-e,List.replicate_succ,List.foldl_cons]
section
variable {X:Cx}{pins:List (Addr×Obj)}{σ:St}{H:Hp}{s:Shared}{l b:Addr}{xs ys zs:List V}
def Inv.B3{ai its':List Value}{n:Nat}{f:Array Value->Array Value}{t':Nat}(I:Inv X pins σ H s)(hH:H l=some (.lst xs))
  (e:s.heap.get? l=some {cls:=.type "list",data:=.seq ai.toArray n})(hf:f ai.toArray=its'.toArray)(hv:Vals ys its')(hz:ys.length<=sizeLine):
  Inv X pins σ (upd H l (.lst ys)) {s with heap:=s.heap.update l (Obj.mapSeq f),toks:=t'}:=by
 have q:=PySem.IsL.update e f;rw[hf]at q;refine I.write (x:=l) (e:=l) (by rw[hH];exact trivial) (.inl rfl) (λb' u hb hu=>(Heap.get?_update_other s.heap (Obj.mapSeq f) (Ne.symm hb)).trans hu) ⟨_,q⟩ ?_;exact⟨hz,its',_,hv,q⟩
def Inv.N1{ai:List Value}{t':Nat}(I:Inv X pins σ H s)(hv:Vals ys ai)(hz:ys.length<=sizeLine):
  Inv X pins σ (upd H s.heap.objs.size (.lst ys)) {s with heap:=s.heap.push {cls:=.type "list",data:=.seq ai.toArray},toks:=t'}:=
 I.laid (λ_ _ q=>Y7 _ q) (Y2 _) ⟨hz,ai,0,hv,Zp _ rfl⟩
def Inv.fresh(I:Inv X pins σ H s):H s.heap.objs.size=none:=I.ao.fresh (Y2 _)
def Inv.qQ(I:Inv X pins σ H s)(hH:H l=some (.lst xs)):xs.length<=sizeLine/\∃(ai:List Value) (n:Nat),Vals xs ai/\xs.length=ai.length/\s.heap.get? l=some {cls:=.type "list",data:=.seq ai.toArray n}:=by
 obtain⟨z,ai,n,r,e⟩:=I.ao l _ hH;exact⟨z,ai,n,r,r.length,e⟩
def Wu{n:Nat}(h:n<=sizeLine):Builtin.List.listTooLong n=false:=by
 unfold Builtin.List.listTooLong;exact ZO (by omega)
end
section
variable {X:Cx}
inductive HC(x:V)(vs:List V)(H:Hp)(Q:VK):Prop
 |mk (l xs y:_) (_:x=.ref l) (_:vs=[y]) (_:H l=some (.lst xs)) (_:xs.length<sizeLine) (_:Q .aI (upd H l (.lst (xs++[y])))):HC x vs H Q
def Yo:V->List V->Hp->VK->Prop:=HC
def fu:xa X "list.append" Yo:=by
 intro pins s σ H x vs v us Q I rx rv h;obtain⟨l,xs,y,rfl,rfl,hH,hz,q⟩:=h;cases rx;obtain⟨u,rfl,ru⟩:=rv.one;obtain⟨z,ai,n,r,hl,e⟩:=I.qQ hH;refine call_meets F.slot_list_append ⟨_,e,rfl⟩ F.entry_list_append (F.args_list_append_2 _ _) (PySem.list_append l ai.toArray n u (by rw[Zk];omega)) ⟨e,?_⟩;refine⟨.aI,_,I.B3 (its':=ai++[u]) hH e (by simp) (r.append (.cons ru .nil)) ?_,rfl,q⟩;rw[Zn,List.length_singleton];omega
inductive Mh(x:V)(vs:List V)(H:Hp)(Q:VK):Prop
 |mk (l xs y:_) (_:x=.ref l) (_:vs=[]) (_:H l=some (.lst xs)) (_:xs[xs.length-1]?=some y) (_:Q y (upd H l (.lst xs.dropLast))):Mh x vs H Q
def adK:V->List V->Hp->VK->Prop:=Mh
def Mi:xa X "list.pop" adK:=by
 intro pins s σ H x vs v us Q I rx rv h;obtain⟨l,xs,y,rfl,rfl,hH,hy,q⟩:=h;cases rx;have hus:=rv.zero;subst hus;obtain⟨z,ai,n,r,hl,e⟩:=I.qQ hH;obtain⟨u,hu,ru⟩:=r.get hy
 have hy':ai.toArray[ai.toArray.size-1]?=some u:=by
  show ai.toArray[ai.length-1]?=some u;rw[<-Array.getElem?_toList, <-hl];exact hu
 refine call_meets F.slot_list_pop ⟨_,e,rfl⟩ F.entry_list_pop (F.args_list_pop_1 _) (MeetsSeq.list_pop_last l ai.toArray n u hy' (by rw[Zk];omega)) ⟨e,?_⟩;refine⟨y,_,I.B3 (its':=ai.dropLast) hH e ?_ r.dropLast ?_,ru,q⟩
 ·show ai.toArray.eraseIdxIfInBounds (ai.toArray.size-1)=ai.dropLast.toArray;rw[Zk,List.eraseIdxIfInBounds_toArray,Tq]
 ·rw[List.length_dropLast];omega
inductive Jb(x:V)(vs:List V)(H:Hp)(Q:VK):Prop
 |mk (l xs i k y:_) (_:x=.ref l) (_:vs=[.int i]) (_:H l=some (.lst xs)) (_: -(2^ 63)<=i) (_:i<2^ 63) (_:seqIndex? i xs.length=some k) (_:xs[k]?=some y) (_:Q y (upd H l (.lst (xs.eraseIdx k)))):Jb x vs H Q
def abj:V->List V->Hp->VK->Prop:=Jb
def Jc:xa X "list.pop" abj:=by
 intro pins s σ H x vs v us Q I rx rv h;obtain⟨l,xs,i,k,y,rfl,rfl,hH,h1,h2,hk,hy,q⟩:=h;cases rx;obtain⟨u,rfl,ru⟩:=rv.one;obtain⟨t,rfl⟩:=ru;obtain⟨z,ai,n,r,hl,e⟩:=I.qQ hH;obtain⟨w,hw,gJ⟩:=r.get hy
 refine call_meets F.slot_list_pop ⟨_,e,rfl⟩ F.entry_list_pop (F.args_list_pop_2 _ _)
  (MeetsSeq.list_pop_at l ai.toArray n i t k w (fitsIndex_both h1 h2) (by rw[Zk, <-hl];exact hk) (by rw[<-Array.getElem?_toList];exact hw) (by rw[Zk];omega)) ⟨e,?_⟩
 refine⟨y,_,I.B3 (its':=ai.eraseIdx k) hH e ?_ (r.eraseIdx k) ?_,gJ,q⟩
 ·show ai.toArray.eraseIdxIfInBounds k=(ai.eraseIdx k).toArray;rw[List.eraseIdxIfInBounds_toArray]
 ·have:=HB xs k;omega
inductive Mj(x:V)(y:V)(H:Hp)(Q:VK):Prop
 |mk (l b xs zs:_) (_:x=.ref l) (_:y=.ref b) (_:H l=some (.lst xs)) (_:H b=some (.lst zs)) (_:xs.length+zs.length<=sizeLine) (_:∀p,H p=none->Q (.ref p) (upd H p (.lst (xs++zs)))):Mj x y H Q
def wz:R2:=Mj
def Ml:cH X (binaryOp .Add) wz:=by
 intro pins s σ H x y v u Q I rx ry h;obtain⟨l,b,xs,zs,rfl,rfl,hH,hB,hz,q⟩:=h;cases rx;cases ry;obtain⟨z,ai,n,r,hl,e⟩:=I.qQ hH;obtain⟨z2,B0,n2,r2,Cz,e2⟩:=I.qQ hB;refine PySem.P.add_list e e2 ?_ (by rw[Zk,Zk];omega);have ea:ai.toArray++B0.toArray=(ai++B0).toArray:=by simp
 rw[ea];exact⟨.ref _,_,I.N1 (t':=s.toks) (r.append r2) (by rw[Zn];omega),rfl,q _ I.fresh⟩
inductive Mm(x:V)(y:V)(H:Hp)(Q:VK):Prop
 |mk (l k xs:_) (_:x=.ref l) (_:y=.int k) (_:H l=some (.lst xs)) (_: -(2^ 63)<=k) (_:k<2^ 63) (_:xs.length*k.toNat<=sizeLine) (_:∀p,H p=none->Q (.ref p) (upd H p (.lst (List.replicate k.toNat xs).flatten))):Mm x y H Q
def N5:R2:=Mm
def len_rep{α:Type}(xs:List α)(k:Nat):(List.replicate k xs).flatten.length=k*xs.length:=by
 induction k with
 |zero=>simp
 |succ k ih=>rw[List.replicate_succ,List.flatten_cons,Zn,ih,Nat.succ_mul,Nat.add_comm]
def AS:cH X (binaryOp .Mult) N5:=by
 intro pins s σ H x y v u Q I rx ry h;obtain⟨l,k,xs,rfl,rfl,hH,h1,h2,hz,q⟩:=h;cases rx;obtain⟨t,rfl⟩:=ry;obtain⟨z,ai,n,r,hl,e⟩:=I.qQ hH;have hlen:ai.toArray.size*k.toNat<=sizeLine:=by rw[Zk, <-hl];exact hz
 have adL:¬ai.toArray.size*k.toNat>(2^ 63-1)/8:=by
  have:(sizeLine:Nat)<=(2^ 63-1)/8:=by decide
  omega
 have adM:¬(!Builtin.List.listFitsIndex k)=true:=by
  rw[fitsIndex_both h1 h2];exact Zj
 have acE:¬Builtin.List.listTooLong (ai.toArray.size*k.toNat)=true:=by
  rw[Wu hlen];exact Zj
 have adN:List.foldl (λx1 x2=>x1++x2) #[] (List.replicate (if ai.toArray.isEmpty=true then 0 else k.toNat) ai.toArray)=(List.replicate k.toNat ai).flatten.toArray:=by
  have f0:∀m:Nat,List.foldl (λx1 x2=>x1++x2) #[] (List.replicate m ai.toArray)=(List.replicate m ai).flatten.toArray:=λm=>by
   have:=foldl_rep ai m [];rw[ZX]at this;exact this
  rw[f0];cases ai with
  |nil=>simp
  |cons a r'=>rw[if_neg (by simp)]
 refine wpAny_binaryOp_repeat_ref (T:="list") (U:="int") (by decide) ⟨_,e,rfl⟩ (λs'=>typeIs_int s' k t) noFill_list_mul F.fills_int_mul F.slot_int_rmul repeat_list F.slot_int_index.lookup
  (call_meets F.slot_int_rmul (typeIs_int s k t) F.entry_int_rmul (F.args_int_rmul_2 _ _) (int___rmul___int_list k t l ai.toArray n)
   ⟨e,rfl,⟨_,e,rfl⟩,call_meets F.slot_list_mul ⟨_,e,rfl⟩ F.entry_list_mul (F.args_list_mul_2 _ _) (AutoListH.list___mul___list_int_3 l ai.toArray n k t adM adL acE) ⟨e,?_⟩⟩)
 rw[adN];exact⟨.ref _,_,I.N1 (t':=s.toks) (r.rep k.toNat) (by rw[len_rep,Nat.mul_comm];exact hz),rfl,q _ I.fresh⟩
end
end L2
namespace Att
open PySem PySem.W PySem.Calls PyProof.Rows
def Rt{P:Params}{h:Heap}:∀(ns:List Int) (vs:List Value),WellAll P h vs (ns.map WData.int)->IntsAre vs ns:=by
 intro ns
 induction ns with
 |nil=>
  intro vs w;rw[List.map_nil]at w;cases w;exact .nil
 |cons n ns ih=>
  intro vs w;rw[Zq]at w;cases w with
  |cons a b=>
   cases a;exact .cons _ _ (ih _ b)
def UB{l:OpenLaw}{n:Nat}(hn:l.most=some n){P:Params}{h:Heap}{args:List WData}{vals:List Value}
  (wA:l.row.toRowW.claim.pre args=true)(CA:WellAll P h vals args):
  ∃a vs ns,vals=[Value.ref a]/\args=[WData.list (ns.map WData.int)]/\h.get? a=some {cls:=.type "list",data:=.seq vs.toArray}/\IntsAre vs ns/\ns.length<=n:=by
 have hsh:WShape.hasAll [] args [.list .int]=true:=(pre_splitW wA).1;have hc:l.pre.holds [] {args:=args}=true:=(pre_splitW wA).2;obtain⟨d,r,rfl,h1,h2⟩:=hasAllW_cons hsh;obtain rfl:=hasAllW_nil h2;obtain⟨xs,rfl,h3⟩:=hasW_list h1;obtain⟨ns,rfl⟩:=items_int h3
 have hlen:ns.length<=n:=by
  unfold OpenLaw.pre at hc
  have h4:(WTm.not (.lt (.lit (.int (n:Int))) (.len (.arg 0)))).holds [] {args:=[.list (ns.map .int)]}=true:=by
   have h4:=(holds_andW hc).1;rw[hn]at h4;exact h4
  have h5:=condW_of h4 (w_not (w_lt w_lit (w_len_list (w_arg rfl))));rw[Y0]at h5;refine Nat.le_of_not_lt λq=>?_;have q':(n:Int)<((ns.length:Nat):Int):=by omega
  first
   |(rw[ZN q']at h5;exact absurd h5 (by decide))
   |(simp at h5;omega)
 cases CA with
 |cons w1 w2=>
  cases w2;cases w1 with
  |list ho B4=>exact⟨_,_,ns,rfl,rfl,ho,Rt ns _ B4,hlen⟩
def UC(l:OpenLaw)(args:List WData):l.row.toRowW.claim.post args (.bool true) args=true:=
 postW_of (r:=l.row.toRowW) (X:=(true==true))
  (show WShape.has [] (.bool true) .bool=true by first|rfl|decide|simp[WShape.has,WShape.arms,WShape.armsAll])
  (show(WTm.eq .res (.lit (.bool true))).value [] {args:=args,res:=some (.bool true),after:=args}=some (.bool (true==true))from w_eq_bool (w_res rfl) w_lit) rfl
def SK{l:OpenLaw}{n:Nat}{q:Program}{loose:List Str}{XP:(Str->Option Value)->Heap->Prop}{YP:World->Heap->Prop}{d:DefRec}
  (hn:l.most=some n)(tW:d.params.defaults=[])
  (call:∀(w:World) (s₀ s₁:Shared) (mg mb:Str->Option Value) (fa:Addr) (o:Obj) (pm cd doc:Value) (a:Addr) (vs:List Value) (ns:List Int),
   Ground q loose [] XP w s₀ mg mb s₁.heap->YP w s₁.heap->
   s₁.heap.get? fa=some o->o.data=.func (docDef d.name d.params d.body d.scope pm cd doc)->s₁.heap.CodeRec cd d.name->mg d.name=some (.ref fa)->
   s₁.heap.get? a=some {cls:=.type "list",data:=.seq vs.toArray}->IntsAre vs ns->ns.length<=n->s₁.gens= #[]->
   codeAny (model l.prog w) callerA (.call (.ref fa) ⟨[.ref a],[]⟩) (λr s'=>r=.ok (.ret (.bool true))/\OldK s₁.heap s'.heap/\s'.os=s₁.os/\AllBare s'.gens) s₁):
  WalkO q loose XP YP l.row.toRowW d [] (λf vs=>PySem.call f vs):=by
 intro w s₀ s₁ mg mb G Y fa o pm cd doc dV kV ho hd bR hD hmg hg args vals as wA aeO OP CA xb;obtain rfl:dV=.none:=Dflts.none hD tW;obtain rfl:kV=.none:=Dflts.noKw hD;obtain⟨a,vs,ns,rfl,rfl,B5,hints,hlen⟩:=UB hn wA CA;refine enter_call (codeAny_mono (call w s₀ s₁ mg mb fa o pm cd doc a vs ns G Y ho (fd_plain hd) bR hmg B5 hints hlen hg) λr s' hq=>?_);obtain⟨rfl,h2,h3,h4⟩:=hq;exact⟨.inl ⟨.bool true,.bool true,[],rfl,λ_=>rfl,.bool true,UC l _,λ_=>⟨List.Pairwise.nil,λ_ hm=>(nomatch hm)⟩⟩,h2,h3,h4⟩
section
variable {prog:Program}{w:World}{A:Around}{E:Value->Shared->Prop}{s:Shared}{K:Frag}
end
end Att
namespace L2
open PySem PySem.Spec PyProof.Rows
def HD:∀{vs:List Value}{ns:List Int},IntsAre vs ns->Vals (ns.map V.int) vs
 |_,_,.nil=>.nil
 |_,_,.cons n t h=>.cons ⟨t,rfl⟩ (HD h)
def B6(H:Hp):Prop:=∀b,H b=none\/∃o xs,H b=some (.cS o (.lst xs))
def Wv{P:Program}{w:World}{K:PySem.W.Frag}{mg mb:Str->Option Value}{CX:jk}{k:Nat}{fa a:Addr}{fd:FuncData}{x:Str}{sp:Sp}{s₁:Shared}{vs:List Value}{ns:List Int}
  (KX:K.In s₁.heap)(OQ:s₁.heap.Ns mainGlobals mg)(hb:s₁.heap.Ns builtinsNs mb)(xc:∀x:Str,x≠"__name__"->mb x=bootBuiltins x)(adO:s₁.heap.NoLimit)(hg:s₁.gens= #[])
  (ha:s₁.heap.get? a=some {cls:=.type "list",data:=.seq vs.toArray})(hi:IntsAre vs ns)(hl:ns.length<=sizeLine)(hr:bL k callerA)
  (F:∀base:Heap,K.In base->base.Ns mainGlobals mg->aB P w K mg base CX k fa fd [x] sp)(acF:∀(s:Shared) (u:Value),BindsTo s fd ⟨[u],[]⟩ [(x,u)])
  (kC:∀H:Hp,B6 H->af K H a (ns.map V.int)->sp [.ref a] H (λv _=>v=.bl true) λ_ _ _=>False)
  (CD:∀H e s',CX [] H s₁ (λ_ _ _=>False) e s'->False):
  codeAny (model P w) callerA (.call (.ref fa) ⟨[.ref a],[]⟩) (λr s'=>r=.ok (.ret (.bool true))/\OldK s₁.heap s'.heap/\s'.os=s₁.os/\AllBare s'.gens) s₁:=by
 have rv:=HD hi;have adP:=hi.length
 have core:∀H:Hp,B6 H->af K H a (ns.map V.int)->bG P w H s₁.heap->(∀b,H b≠none->b=a)->(H a≠none->K.lookup a=none)->
   codeAny (model P w) callerA (.call (.ref fa) ⟨[.ref a],[]⟩) (λr s'=>r=.ok (.ret (.bool true))/\OldK s₁.heap s'.heap/\s'.os=s₁.os/\AllBare s'.gens) s₁:=by
  intro H hO hS ao hA hK;have KA:∀{b:Addr}{o:Obj},s₁.heap.get? b=some o->H b=none->(k8 s₁.heap H).get? b=some o:=λe n=>Wl e n
  have tU:∀{b:Addr}{o:Obj}{es:Array DictEntry}{ep:Nat},s₁.heap.get? b=some o->o.data=.dict es ep->H b=none:=λ{b o es ep} e d=>by
   cases q:H b with
   |none=>rfl
   |some u=>
    have e':b=a:=hA b (by rw[q];simp);subst e';rw[ha]at e;cases e;have d':Data.seq vs.toArray _=Data.dict es ep:=d;cases d'
  have xf:∀{b:Addr}{m:Str->Option Value},s₁.heap.Ns b m->(k8 s₁.heap H).Ns b m:=λ{b m} ⟨o,es,ep,e,d,r⟩=>⟨o,es,ep,KA e (tU e d),d,r⟩
  have OR:K.In (k8 s₁.heap H):=λb o e=>KA (KX b o e) (by
   cases q:H b with
   |none=>rfl
   |some u=>
    have e':b=a:=hA b (by rw[q];simp);subst e';rw[hK (by rw[q];simp)]at e;cases e)
  have hM:Mod K mg (k8 s₁.heap H):=⟨OR,xf OQ,⟨mb,xf hb,xc⟩,let⟨mc,h1,h2⟩:=adO;⟨mc,xf h1,h2⟩⟩;have e0:oP P w K mg (k8 s₁.heap H) callerA [] s₁ H:=⟨rfl,hM,λb o e=>Yf e,Nat.le_of_eq (Ut _ _),trivial,λb hb=>absurd (show b∈([]:List Addr)from hb) (by simp),ao,.of_eq hg⟩;refine codeAny_mono ((F _ OR (xf OQ)).run callerA [] s₁ H ⟨[.ref a],[]⟩ [.ref a] [.ref a] _ _ hr e0 (acF s₁ (.ref a)) (.cons rfl .nil) (kC H hO hS)) λr s' h=>?_;cases r with
  |error e=>exact(CD H e s' h).elim
  |ok fl=>
   cases fl with
   |next=>exact Zu h
   |brk=>exact Zu h
   |cont=>exact Zu h
   |ret u=>
    obtain⟨v,H',os,bare,un,tJ,r',q⟩:=h;have q':v=.bl true:=q;subst q';obtain rfl:u=Value.bool true:=r';refine⟨rfl,OldK.of_keep λb o e=>?_,os,bare⟩;cases q:H b with
    |none=>exact un.keep b o e q (by intro z;exact absurd (show b∈([]:List Addr)from z) (by simp)) (by simp)
    |some u=>
     rcases hO b with z|⟨ob,xs,z⟩
     ·rw[q]at z;cases z
     ·have z2:=un.fA b ob _ z;obtain⟨e1,_⟩:=ao b _ z;obtain⟨e2,_⟩:=tJ b _ z2;rw[e]at e1;cases e1;exact e2
 cases hk:K.lookup a with
 |some o=>
  have e:=KX a o hk;rw[ha]at e;cases e;refine core (λ_=>none) (λ_=>.inl rfl) (.inr ⟨_,vs.toArray,_,hk,rfl,rfl,rfl,by rw[Zk,adP];exact hl,by simpa using rv⟩) (λb u z=>by have z':(none:Option HO)=some u:=z;cases z') (λb z=>absurd rfl z) λz=>absurd rfl z
 |none=>
  refine core (λb=>if b=a then some (.cS {cls:=.type "list",data:=.seq vs.toArray} (.lst (ns.map V.int)))else none) (λb=>?_) (.inl (.inr ⟨{cls:=.type "list",data:=.seq vs.toArray},if_pos rfl⟩)) (λb u z=>?_) (λb z=>?_) λ_=>hk
  ·by_cases hb:b=a
   ·exact .inr ⟨_,_,if_pos hb⟩
   ·exact .inl (if_neg hb)
  ·by_cases hb:b=a
   ·have z':=(if_pos hb).symm.trans z;cases z';subst hb;exact⟨ha,by rw[Y0];exact hl,vs,_,rv,ha⟩
   ·have z':=(if_neg hb).symm.trans z;cases z'
  ·by_cases hb:b=a
   ·exact hb
   ·exact absurd (if_neg hb) z
def Yp{l:PySem.W.OpenLaw}{n k:Nat}{q:Program}{loose:List Str}{XP:(Str->Option Value)->Heap->Prop}{YP:World->Heap->Prop}{d:DefRec}{K:Params->PySem.W.Frag}{CX:World->jk}{sp:World->Sp}{x:Str}
  (hn:l.most=some n)(wY:n<=sizeLine)(tW:d.params.defaults=[])(hr:bL k callerA)
  (hY:∀(w:World) (h:Heap),YP w h->(K w.params).In h)
  (F:∀(w:World) (mg:Str->Option Value) (fa:Addr) (h:Heap),(K w.params).In h->h.Ns mainGlobals mg->mg d.name=some (.ref fa)->
   ∃fd:FuncData,(∀(s:Shared) (u:Value),BindsTo s fd ⟨[u],[]⟩ [(x,u)])/\
    ∀base:Heap,(K w.params).In base->base.Ns mainGlobals mg->aB l.prog w (K w.params) mg base (CX w) k fa fd [x] (sp w))
  (kC:∀(w:World) (H:Hp) (a:Addr) (ns:List Int),ns.length<=n->B6 H->af (K w.params) H a (ns.map V.int)->sp w [.ref a] H (λv _=>v=.bl true) λ_ _ _=>False)
  (CD:∀(w:World) (H:Hp) (s:Shared) (e:Value) (s':Shared),CX w [] H s (λ_ _ _=>False) e s'->False):
  PySem.W.WalkO q loose XP YP l.row.toRowW d [] (λf vs=>PySem.call f vs):=by
 refine Att.SK hn tW λw s₀ s₁ mg mb fa o pm cd doc a vs ns G Y ho hd bR hmg B5 hints hlen hg=>?_;have KX:=hY w _ Y;obtain⟨fd,hb,hF⟩:=F w mg fa _ KX G.T.g hmg;exact Wv KX G.T.g G.T.b G.T.builtins G.T.nolimit hg B5 hints (ZQ hlen wY) hr hF hb (λH hO hS=>kC w H a ns hlen hO hS) λH e s'=>CD w H s₁ e s'
def inClass(s:Stmt)(j:Nat):Stmt:=match s with
 |.ClassDef _ _ _ body _ _ _ _ _ _ _=>body.getD j (.Pass ⟨0,0,0,0⟩)
 |_=>.Pass ⟨0,0,0,0⟩
def j8(s:Stmt):Arguments:=match s with
 |.FunctionDef _ a _ _ _ _ _ _ _ _=>a
 |_=>{posonlyargs:=[],args:=[],vararg:=none,kwonlyargs:=[],kw_defaults:=[],kwarg:=none,defaults:=[]}
def eV(s:Stmt):List Stmt:=match s with
 |.FunctionDef _ _ b _ _ _ _ _ _ _=>b
 |_=>[]
def aF(s:Stmt):Scope:=match s with
 |.FunctionDef _ _ _ _ _ _ sc _ _ _=>sc
 |_=>{kind:=.function,names:=[],isGenerator:=false,isCoroutine:=false}
abbrev aM:jk:=λ_ _ _ _ _ _=>False
abbrev E0:XK:=λ_ _ _=>False
def vV{X:Cx}:Passes aM X E0:=λ_ _ _ _ _ _ _ h=>h.elim
structure aJ(K:PySem.W.Frag)(x qual:Str)(st:Stmt)(f:Addr)(fd:FuncData):Prop where
 ex:∃(oc:Value) (od:Option Addr) (kV doc pm:Value) (an:Option Addr) (aw ct:Value) (jP:Array (Option Value)),
  fd=PySem.W.fnOf x qual (j8 st) (eV st) (aF st) .none kV doc pm an aw ct/\K.lookup f=some ⟨oc,od,.func fd,jP⟩/\PySem.W.codeIn K aw qual=true
 kp:PySem.W.keepIn K (.ref f)=true
section
variable {P:Program}{w:World}{K:PySem.W.Frag}{mg:Str->Option Value}{base:Heap}
def aJ.ok{x qual:Str}{st:Stmt}{f:Addr}{fd:FuncData}{N ps:List Str}{k:Nat}{sp:Sp}(F:aJ K x qual st f fd)(S:aN N ps (aF st))(len:∀vs H Q E,sp vs H Q E->vs.length=ps.length)
  (sZ:∀(aw:Value) (A:Around) (outer:List Env) (s:Shared) (H:Hp) (vs:List V) (Q:VK) (E:XK),bL k (A.deeper (envOfC qual (aF st) s.heap.objs.size f aw))->sp vs H Q E->
   ∃t,c8 (fC aM P w K mg base N qual (aF st) f aw A outer s H E).gj (eV st) t/\t {nx:=λ_ H'=>Q .aI H',rt:=Q} (start N vs) H):aB P w K mg base aM (k+1) f fd ps sp:=by
 obtain⟨oc,od,kV,doc,pm,an,aw,ct,jP,rfl,lk,bR⟩:=F.ex;refine Nm lk bR S len λA outer s H vs Q E hr kC=>?_;obtain⟨t,h,q⟩:=sZ aw A outer s H vs Q E hr kC;exact⟨t,h.gj,q⟩
def aJ.binds{x qual:Str}{st:Stmt}{f:Addr}{fd:FuncData}{ps:List Str}(F:aJ K x qual st f fd)
  (h:∀(kV doc pm:Value) (an:Option Addr) (aw ct:Value) (us:List Value),us.length=ps.length->bindArgs (PySem.W.fnOf x qual (j8 st) (eV st) (aF st) .none kV doc pm an aw ct) ⟨us,[]⟩=pure (ps.zip us)):Binds K fd ps []:=by
 obtain⟨oc,od,kV,doc,pm,an,aw,ct,jP,rfl,lk,bR⟩:=F.ex;exact .all (h kV doc pm an aw ct)
def fun_mk{x qual:Str}{st:Stmt}{f:Addr}{oc:Value}{od an:Option Addr}{jP:Array (Option Value)}{kV doc pm aw ct:Value}(l:K.lookup f=some ⟨oc,od,.func (PySem.W.fnOf x qual (j8 st) (eV st) (aF st) .none kV doc pm an aw ct),jP⟩)
  (c:PySem.W.codeIn K aw qual=true)(k:PySem.W.keepIn K (.ref f)=true):aJ K x qual st f (PySem.W.fnOf x qual (j8 st) (eV st) (aF st) .none kV doc pm an aw ct):=⟨⟨oc,od,kV,doc,pm,an,aw,ct,jP,rfl,l,c⟩,k⟩
end
def oJ{A:Around}{k:Nat}(hr:bL k A):A.units+1<cLine:=ZP (Nat.add_le_add_left (by decide:1<=64) _) hr.units
section
variable {X:Cx}
def pv(i:Nat){x:Str}{pos:Pos}(hN:X.N[i]?=some x:=by rfl)(hv:wN X.env.scope x:=by first|exact Or.inl rfl|exact Or.inr (Or.inl rfl)|exact Or.inr (Or.inr rfl))(hd:(x==("__debug__":Str))=false:=by decide)
  (bR:(x==("__classdict__":Str))=false:=by decide):PE X (.Name x pos) (iE i):=aa5 hN hv hd bR
end
def cf{A B:Prop}(h:B):if false=true then A else B:=by
 rw[if_neg Zj];exact h
def fD{A B:Prop}(h:A):if true=true then A else B:=by
 rw[if_pos rfl];exact h
def cg{c A B:Prop} [Decidable c](h1:c->A)(h2:¬c->B):if c then A else B:=by
 by_cases h:c
 ·rw[if_pos h];exact h1 h
 ·rw[if_neg h];exact h2 h
def aa(H H':Hp):Prop:=∀b o,H b=some o->H' b=some o
def aa.refl(H:Hp):aa H H:=λ_ _ h=>h
def aa.trans{H H1 H2:Hp}(a:aa H H1)(b:aa H1 H2):aa H H2:=λc o h=>b c o (a c o h)
def aa.free{H H':Hp}(e:aa H H'){l:Addr}(h:H' l=Option.none):H l=Option.none:=by
 cases q:H l with
 |none=>rfl
 |some o=>
  rw[e l o q]at h;cases h
def aa.seq{K:PySem.W.Frag}{H H':Hp}{a:Addr}{xs:List V}(e:aa H H')(h:af K H a xs):af K H' a xs:=by
 rcases h with(h|⟨o,h⟩)|h
 ·exact .inl (.inl (e _ _ h))
 ·exact .inl (.inr ⟨o,e _ _ h⟩)
 ·exact .inr h
def Cx.b7(X:Cx)(N:List Str)(scope:Scope)(cl:List (Str×Addr))(C:Addr)(s:Shared)(H:Hp)(fp:List Addr):Cx:=
 {prog:=X.prog,w:=X.w,K:=X.K,mg:=X.mg,base:=X.base,A:=X.A,N:=N,s₀:=s,H₀:=H,env:=compEnvC scope cl C X.env,outer:=X.stack,stack:=X.stack,ex:=fp,fn:=λ_=>false,calm:=X.calm,pn:=[],xe:=λ_ _=>False}
def bE(ix:List Nat)(x:Option V)(σ:St):St:=x::ix.map λi=>(σ[i]?).join
def Nn(wi:TI)(ix:List Nat)(te:TE):TE:=λσ H Q=>wi σ H λJ H1=>∀D,H1 D=none->∃W:Nat->Nat->List V->Hp->Prop,(∃m,W 0 m [] (upd H1 D (.lst [])))/\
 ∀i m ys H2,W i m ys H2->H2 D=some (.lst ys)/\((J.stop i H2/\Q (.ref D) H2)\/(J.go i H2/\ys.length<sizeLine/\∀x H',J.e9 i H2 x H'->te (bE ix (some x) σ) H' λy H3=>
  H3 D=some (.lst ys)/\∃m',m'<m/\W (i+1) m' (ys++[y]) (upd H3 D (.lst (ys++[y])))))
def bG.sameBut{P:Program}{w:World}{H:Hp}{h h':Heap}{C:Addr}(x:bG P w H h)(hC:H C=none)(sb:Heap.SameBut C h h'):bG P w H h':=λa o e=>
 (x a o e).k7 (λb u hb q=>(sb.2 b (by
  rintro rfl;rcases hb with hb|hb
  ·rw[<-hb,hC]at e;cases e
  ·rw[hC]at hb;cases hb)).trans q) (λ_ q=>q) λ_ _ q=>q
section
variable {X:Cx}
def Ww{x:Str}{px pos:Pos}{elt iter:Expr}{scope:Scope}{cl:List (Str×Addr)}{fr:List Str}{ix:List Nat}{wi:TI}{te:TE}
  (hc:X.calm=true)(hi:PI X (.Name x px) iter wi)
  (gA:closureFor scope X.env=pure cl)(cZ:scope.kind=.function)(fR:∀y∈scope.names,y.2≠.cell)
  (gy:∀y∈scope.names,y.2=.local->scope.names.lookup y.1=some .local)(hx:scope.names.lookup x=some .local)
  (hN:(x::fr).Nodup)(fI:ix.map (λi=>X.N[i]?)=fr.map some)
  (dN:∀y∈fr,X.env.kindOf y=some .cell/\(relabel scope X.env).names.lookup y=some .cell)
  (aS:∀y c,cl.lookup y=some c->X.env.cells.lookup y=some c)
  (eZ:∀y,((relabel scope X.env).names.lookup y=some .cell\/(relabel scope X.env).names.lookup y=some .free)->∃c,cl.lookup y=some c)
  (he:∀C s H fp,PE (X.b7 (x::fr) scope cl C s H fp) elt te)
  (hs:∀x,foldedSetIterable iter X.env x=pure x:=by intro _;rfl):
  PE X (.ListComp elt [⟨.Name x px,iter,[],0⟩] scope pos) (Nn wi ix te):=by
 intro pins s σ H Q I h;rw[eval_ListComp];refine wpAny_comprehension_free (use:=none) rfl hs gA cZ gy (au (hi pins s σ H _ I h) λxv s1 h1=>au h1 λo8 s2 h2=>?_);obtain⟨it,fp,tn,J,H2,e,I2,T,gm,f2,q⟩:=h2;subst e;refine wpAny_newObj_type (wpAny_newFunctionEnv fR (by intro y hy;simp at hy) (λh₁ df dj=>?_) cZ);dsimp only at df dj⊢;have g6:H2 s2.heap.objs.size=none:=I2.ao.fresh (Y2 _);obtain⟨W,⟨m0,w0⟩,turn⟩:=q s2.heap.objs.size g6;generalize eK:s2.heap.push {cls:=.type "list",dict:=none,data:=.seq ([]:List Value).toArray}=HL at df dj⊢;have hC:HL.objs.size=s2.heap.objs.size+1:=by rw[<-eK,Heap.size_push]
 have old:∀b o,s2.heap.get? b=some o->h₁.get? b=some o:=λb o e=>(dj.2 b (by rw[hC];exact Zm (ZW (Zh e)))).trans (Y7 _ (eK▸Y7 _ e))
 have jS:h₁.get? s2.heap.objs.size=some {cls:=.type "list",data:=.seq ([]:List Value).toArray}:=
  (dj.2 _ (by rw[hC];exact Zm (Nat.lt_succ_self _))).trans (Y7 _ (eK▸Zp _ rfl))
 generalize lK:HL.objs.size=C at df dj⊢;rw[lK]at hC;have bC:∀b o,s2.heap.get? b=some o->b≠C:=λb o e=>by rw[hC];exact Zm (ZW (Zh e))
 have xi:∀b∈bP X.stack,∃o,s2.heap.get? b=some o:=λb hb=>by
  obtain⟨_,o,ho,_⟩:=I2.stack.mem hb;exact⟨o,ho⟩
 have dY:∀b∈fp,∃o,s2.heap.get? b=some o/\∀v,o.data≠.cell v:=λb hb=>T.obj 0 _ gm b hb
 have gX:∀b∈fp,b∉bP X.stack:=λb hb z=>by
  rcases Y4.mp (I2.kf b z)with z|z
  ·exact(f2 b hb).2.1 z
  ·exact(f2 b hb).2.2.1 z
 let B:=X.b7 (x::fr) scope cl C s2 H2 fp
 have lL:B.Ok:=by
  refine⟨I2.ok.mod,cZ,I2.ok.glob,I2.ok.blt,(by show s2.heap.objs.size<=C;rw[hC];exact Nat.le_succ _),λy z c e1 e2=>I2.ok.inj y z c (aS _ _ e1) (aS _ _ e2),λy hy=>eZ y hy,λy c z=>absurd (show false=true from z) Zj,
   λ_=>I2.ok.hd hc,I2.ok.frames,.inl rfl,λb hb=>⟨?_,λy c e=>(f2 b hb).2.2.2.2.1 y c (aS _ _ e)⟩,I2.bs,ZQ I2.ok.iO I2.sz,λb o e hb=>?_,λb hb=>gX b hb,I2.stack,I2.oq⟩
  ·obtain⟨o,e,_⟩:=dY b hb;exact bC b o e
  ·rcases(f2 b hb).2.2.2.1 with z|z
   ·exact I2.ok.kq b o e z
   ·exact absurd (Zv (Zh (I2.ok.bs b o e).1) z) (Z3 _)
 have IB:∀tk,Inv B [] (bE ix none σ) (upd H2 s2.heap.objs.size (.lst [])) {s2 with heap:=h₁,toks:=tk}:=λtk=>by
  refine⟨lL,rfl,I2.bare,Un.laid old (Y2 _) g6,⟨_,df,λj y v e1 e2 e3=>?_⟩,λy c e=>?_,?_,λy c e=>?_,(λp hp=>nomatch hp),I2.ao.laid old (Y2 _) ⟨Zo _,[],0,.nil,jS⟩,?_⟩
  ·cases j with
   |zero=>cases(show(some none:Option (Option V))=some (some v)from e2)
   |succ j=>
    have e1:fr[j]?=some y:=e1;have e2:(ix.map λi=>(σ[i]?).join)[j]?=some (some v):=e2;have hj:=congrArg (λl=>l[j]?) fI;simp only[Ze,e1]at hj;rw[Ze]at e2;cases jT:ix[j]? with
    |none=>rw[jT]at e2;cases e2
    |some i=>
     rw[jT]at hj e2;have hj:X.N[i]?=some y:=Zf hj;have e2:(σ[i]?).join=some v:=Zf e2
     have e2:σ[i]?=some (some v):=by
      cases z:σ[i]? with
      |none=>rw[z]at e2;cases e2
      |some z'=>rw[z]at e2;rw[show z'=some v from e2]
     obtain⟨m,hn,hl⟩:=I2.loc;have hk:=dN y (Y5 e1);obtain⟨u,ru,lk⟩:=hl i y v hj e2 (.inr (.inl hk.1));refine⟨u,ru,.inr ⟨.inl hk.2,?_⟩⟩;rcases lk with⟨z,_⟩|⟨_,c,ec,⟨oc,bQ,bR⟩⟩
     ·rw[hk.1]at z;cases z
     ·obtain⟨c',jU⟩:=eZ y (.inl hk.2);have:=aS _ _ jU;rw[ec]at this;cases this;exact⟨c,jU,oc,old c oc bQ,bR⟩
  ·obtain⟨v,oc,bQ,bR⟩:=I2.cell y c (aS _ _ e);exact⟨v,oc,old c oc bQ,bR⟩
  ·show upd H2 s2.heap.objs.size (.lst []) C=none;rw[ah (by rw[hC];exact Nat.succ_ne_self _)];exact I2.ao.fresh (by rw[hC];exact Nat.le_succ _)
  ·obtain⟨v,oc,bQ,bR⟩:=I2.cell y c (aS _ _ e);rw[ah (Zm (Zh bQ))];exact I2.eC y c (aS _ _ e)
  ·show(bE ix none σ).length=(x::fr).length;have:=congrArg List.length fI;simp only[Y0]at this;simp[bE,this]
 have dZ:∀tk,tn 0 ({s2 with heap:=h₁,toks:=tk}:Shared).heap:=λ_=>T.keep 0 _ _ gm λb hb o e=>old b o e
 have fB:∀{H':Hp},(∀b∈fp,H' b=none)->∀b∈fp,iG B [] H' b:=λhn b hb=>by
  obtain⟨o,e,_⟩:=dY b hb;exact⟨hn b hb,bC b o e,gX b hb,.inl hb,λy c ec=>(f2 b hb).2.2.2.2.1 y c (aS _ _ ec),(λp hp=>nomatch hp)⟩
 have loop:∀tk,codeAny (model X.prog X.w) X.A (.compLoop (.ListComp elt [⟨.Name x px,iter,[],0⟩] scope pos) 0 (.ref it) (.ref s2.heap.objs.size) (compEnvC scope cl C X.env))
   (compPost (model X.prog X.w) X.A X.xe none (EP X pins σ Q) (.ref s2.heap.objs.size) C) {s2 with heap:=h₁,toks:=tk}:=λtk=>by
  refine codeAny_loop rfl (λn s'=>∃i ys x' H',Inv B [] (bE ix x' σ) H' s'/\tn i s'.heap/\(∀b∈fp,H' b=none)/\W i n ys H') (λn s3 hI=>?_) m0 ⟨0,[],none,_,IB tk,dZ tk,λb hb=>?_,w0⟩
  ·obtain⟨i,ys,x',H3,I3,eG,dX,w3⟩:=hI;show wpAny _ _ ((compTurn (.ListComp elt [⟨.Name x px,iter,[],0⟩] scope pos) 0 (.ref it) (.ref s2.heap.objs.size) (compEnvC scope cl C X.env)).onRaise (λx=>do noteFrame x (compEnvC scope cl C X.env);theTreesLotGoes x)) _ _ s3;refine wpAny_noted ?_;rw[compTurn_list1];obtain⟨xj,alt⟩:=turn i n ys H3 w3;refine wpAny_bind (wpAny_standAt (wpAny_bind ?_));rcases alt with⟨stop,qn⟩|⟨go,hlen,step⟩
   ·refine au (T.done B rfl rfl rfl hc i [] s3 _ H3 _ I3 (fB dX) eG stop) λr s4 ⟨hr,I4⟩=>?_;subst hr;refine ZV ?_;obtain⟨m4,jV,_⟩:=I4.loc;refine⟨m4,jV,λh' sb=>?_⟩
    have un:Un (bP X.stack) fp H2 H3 s2.heap h':=by
     have u:=I4.base;refine⟨λb o e n hb hx=>(sb.2 b (bC b o e)).trans (u.keep b o e n hb hx),λb o e n hb hx=>?_,u.free,λb o e hx=>?_,u.fY,u.fA,u.fZ⟩
     ·obtain⟨sl,e1⟩:=u.slot b o e n hb hx;exact⟨sl,(sb.2 b (bC b o e)).trans e1⟩
     ·obtain⟨o',e1⟩:=u.there b o e hx;exact⟨o',(sb.2 b (bC b o e)).trans e1⟩
    refine⟨.ref s2.heap.objs.size,H3,I2.mR (s':={s4 with heap:=h'}) (ch:=fp) I4.os un (I4.ao.sameBut I4.free sb) I4.bare (λb hb=>⟨(f2 b hb).2.2.2.1,(f2 b hb).2.1,(f2 b hb).2.2.2.2⟩),rfl,qn⟩
   ·refine au (T.item B rfl rfl rfl hc i [] s3 _ H3 _ I3 (fB dX) eG go) λr s4 ⟨u,hr,h4⟩=>?_;subst hr;refine wpAny_bind (au h4 λ_ s5 ⟨xv,H5,I5,r5,y5,dt,jN⟩=>?_);have jO:=I5.pinned (fB jN) (T.obj _ _ dt);refine wpAny_bind (wpAny_assign_Name (kO (i:=0) (X:=B) jO hN rfl (.inl (lookup_relabel_local hx)) r5 (λs6 I6=>?_) (.inr (lookup_relabel_local hx))));have I6:Inv B ([]++jC fp s5.heap) (bE ix (some xv) σ) H5 s6:=I6;refine wpAny_bind (wpAny_bind (wpAny_mono (he C s2 H2 fp _ s6 _ H5 _ I6 (step xv H5 y5)) (λv s7 ⟨y,H7,I7,r7,tX,m',hm,w7⟩=>?_) λ_ _ z=>Zu z))
    refine wpAny_bind (wpAny_mono (fu (X:=B) _ s7 _ H7 (.ref s2.heap.objs.size) [y] (.ref s2.heap.objs.size) [v] (λ_ H8=>H8=upd H7 s2.heap.objs.size (.lst (ys++[y]))) I7 rfl (.cons r7 .nil) ⟨_,ys,y,rfl,rfl,tX,hlen,rfl⟩)
     (λ_ s8 ⟨_,H8,I8,_,e8⟩=>?_) λ_ _ z=>Zu z)
    subst e8;refine ZV (ZV ⟨rfl,m',hm,i+1,ys++[y],some xv,_,I8.j4,T.keep _ _ _ dt λb hb o e=>(I8.pin (b,o) (Za _ (Za _ (gN hb e)))).1,λb hb=>?_,w7⟩);obtain⟨o,e,d⟩:=T.obj _ _ dt b hb;exact(I8.pin (b,o) (Za _ (Za _ (gN hb e)))).2.1
  ·obtain⟨o,e,_⟩:=dY b hb;rw[ah (Zm (Zh e))];exact(f2 b hb).1
 exact codeAny_compStart_list (loop _) (T.self _ 0 _ _ _ (dZ _) (loop _))
end
inductive Wr(P:Prop):Prop where
 |mk (h:P):Wr P
def Wr.get{P:Prop}(h:Wr P):P:=by cases h;assumption
section
variable {X:Cx}{e:Expr}{te:TE}{pos p1 p2 p3:Pos}
abbrev gK(r:R2):R2:=λx y H Q=>Wr (r x y H Q)
def cH.wr{f:Value->Value->Sem Value}{r:R2}(h:cH X f r):cH X f (gK r):=λpins s σ H x y v u Q I rx ry q=>h pins s σ H x y v u Q I rx ry q.get
def aP:jR X (gK (k9 X.K)):=λvalue slice pins s σ H x y v u Q I rx ry q hs=>Kz value slice pins s σ H x y v u Q I rx ry q.get hs
def cD:jR X (gK (kr X.K)):=λvalue slice pins s σ H x y v u Q I rx ry q hs=>abg value slice pins s σ H x y v u Q I rx ry q.get hs
def tK:w9 X (λx lo hi H Q=>Wr (B1 X.K x lo hi H Q)):=λpins s σ H x v vl vu lo hi sl Q I rx hs pl pu q=>vt pins s σ H x v vl vu lo hi sl Q I rx hs pl pu q.get
def kS:cH X (binaryOp .Add) (gK wz):=Ml.wr
inductive Mp(K:PySem.W.Frag)(x:V)(y:V)(H:Hp)(Q:VK):Prop
 |mk (a b:Addr) (ns ms:List Int) (_:x=.ref a) (_:y=.ref b) (_:af K H a (ns.map V.int)) (_:af K H b (ms.map V.int)) (_:Q (.bl (decide (ns=ms))) H):Mp K x y H Q
def N6(K:PySem.W.Frag):R2:=Mp K
inductive Mq(K:PySem.W.Frag)(x:V)(y:V)(H:Hp)(Q:VK):Prop
 |mk (a b:Addr) (ns ms:List Int) (_:x=.ref a) (_:y=.ref b) (_:af K H a (ns.map V.int)) (_:af K H b (ms.map V.int)) (_:Q (.bl (!decide (ns=ms))) H):Mq K x y H Q
def B7(K:PySem.W.Frag):R2:=Mq K
def Ak(hu:X.A.units+64<cLine):cH X (compareOp .Eq) (gK (N6 X.K)):=by
 intro pins s σ H x y v u Q I rx ry h;replace h:=h.get;obtain⟨a,b,ns,ms,rfl,rfl,ha,hb,q⟩:=h;cases rx;cases ry;obtain⟨ai,r,ht,hz⟩:=I.list ha;obtain⟨its',r',nA,CI⟩:=I.list hb;exact PySem.W.eq_intsK ht.isList (intsAre_of r) nA.isList (intsAre_of r') hu ⟨.bl _,H,I,rfl,q⟩
def Yq(hu:X.A.units+64<cLine):cH X (compareOp .NotEq) (gK (B7 X.K)):=by
 intro pins s σ H x y v u Q I rx ry h;replace h:=h.get;obtain⟨a,b,ns,ms,rfl,rfl,ha,hb,q⟩:=h;cases rx;cases ry;obtain⟨ai,r,ht,hz⟩:=I.list ha;obtain⟨its',r',nA,CI⟩:=I.list hb;exact PySem.W.ne_intsK ht.isList (intsAre_of r) nA.isList (intsAre_of r') hu ⟨.bl _,H,I,rfl,q⟩
def uR:fS X (.builtin "isinstance") (λvs H Q=>∃x c t b,vs=[x,.ty c]/\iH X.K H x t/\PySem.W.kitOne X.K t (.type c)=some b/\Q (.bl b) H):=by
 intro pins s σ H vs us Q I r h;obtain⟨x,c,t,b,rfl,ty,k,q⟩:=h;cases r with
 |cons r1 rr=>
  cases rr with
  |cons r2 rr=>
   cases rr;cases r2;exact Uz I r1 ty k λtk=>⟨.bl b,H,I.tok tk,rfl,q⟩
inductive B8(K:PySem.W.Frag)(x:V)(H1:Hp)(Q:VK):Prop
 |mk (a xs:_) (_:x=.ref a) (_:af K H1 a xs) (_:∀p,H1 p=none->Q (.ref p) (upd H1 p (.lst xs.reverse))):B8 K x H1 Q
def adQ(K:PySem.W.Frag)(te:TE):TE:=λσ H Q=>te σ H λx H1=>Wr (B8 K x H1 Q)
def vW(K:PySem.W.Frag)(xs:List V)(H:Hp)(Q:VK):Prop:=∃p ys,xs=[.ref p]/\(af K H p ys\/bt K H p ys)/\∀l,H l=none->Q (.ref l) (upd H l (.lst ys))
def uT:fS X (.type "list") (λxs H Q=>Wr (vW X.K xs H Q)):=λpins s σ H vs us Q I r h=>Se pins s σ H vs us Q I r h.get
def Vals.rev{xs:List V}{us:List Value}(r:Vals xs us):Vals xs.reverse us.reverse:=by
 induction r with
 |nil=>exact .nil
 |cons h t ih=>rw[List.reverse_cons,List.reverse_cons];exact Vals.append ih (.cons h .nil)
def abk(he:PE X e te){j:Nat}:PE X (.Subscript e (.Slice none none (some (.UnaryOp .USub (.Constant (.int 1) j p1) p3)) p2) pos) (adQ X.K te):=by
 intro pins s σ H Q I h;refine Subscript_ (au (he pins s σ H _ I h) λv s1 ⟨x,H1,I1,r1,q1⟩=>?_);obtain⟨a,xs,rfl,hx,q⟩:=q1.get;cases r1;refine wpAny_Slice ?_;rw[evalPart_none];refine ZV (ZV ?_);refine au (jz (iC iy ak) pins s1 σ H1 (λo H'=>o=some (-1)/\H'=H1) I1 ⟨_,rfl,_,rfl,rfl,rfl⟩) λvk s2 ⟨o,H2,I2,pk,q2⟩=>?_;obtain⟨rfl,rfl⟩:=q2;obtain⟨ai,r,ht,hz⟩:=I2.list hx;have hlen:=r.length;have I4:Inv X pins σ H2 {s2 with heap:=s2.heap.push {cls:=.type "slice",data:=.fields #[.none,.none,vk]}}:=I2.kept (t':=s2.toks) λb ob q=>Y7 _ q;obtain⟨its',r',nA,CI⟩:=I4.list hx;refine tail_any nA.isList.typeIs slot_list_getitem.lookup ?_ (by with_unfolding_all rfl);refine wpAny_getItem_list_slice nA.isList (Heap.IsSliceOf.new ..) .none .none pk (by simp) ?_ (by rw[Zk, <-r'.length];exact CI);rw[PySem.W.krv_pick];refine⟨.ref _,_,I4.laid (t':=s2.toks) (o:=.lst xs.reverse) (λb ob q=>Y7 _ q) (Y2 _) ?_,rfl,q _ (I4.ao.fresh (Y2 _))⟩;exact⟨by rw[List.length_reverse];exact hz,its'.reverse,0,r'.rev,Zp _ rfl⟩
def Yr{x:Str}{px:Pos}{elt iter:Expr}{scope:Scope}{cl:List (Str×Addr)}{wi:TI}(fr:List Str)(ix:List Nat)
  (hi:PI X (.Name x px) iter wi)(he:∀C s H fp,PE (X.b7 (x::fr) scope cl C s H fp) elt te)
  (aS:∀y c,cl.lookup y=some c->X.env.cells.lookup y=some c)
  (gA:closureFor scope X.env=pure cl:=by rfl)(hc:X.calm=true:=by rfl)(cZ:scope.kind=.function:=by rfl)(fR:(scope.names.all λp=>p.2 != .cell)=true:=by rfl)
  (gy:(scope.names.all λp=>p.2 != .local||scope.names.lookup p.1==some .local)=true:=by rfl)(hx:scope.names.lookup x=some .local:=by rfl)
  (hN:(x::fr).Nodup:=by decide+kernel)(fI:ix.map (λi=>X.N[i]?)=fr.map some:=by rfl)
  (dN:(fr.all λy=>X.env.kindOf y==some .cell&&(relabel scope X.env).names.lookup y==some .cell)=true:=by rfl)
  (eZ:((relabel scope X.env).names.all λp=>(p.2 != .cell&&p.2 != .free)||(cl.lookup p.1).isSome)=true:=by rfl)
  (hs:∀x,foldedSetIterable iter X.env x=pure x:=by intro _;rfl):
  PE X (.ListComp elt [⟨.Name x px,iter,[],0⟩] scope pos) (Nn wi ix te):=by
 refine Ww hc hi gA cZ (λy hy e=>?_) (λy hy e=>?_) hx hN fI (λy hy=>?_) aS (λy hy=>?_) he hs
 ·have:=ZC.mp fR y hy;rw[e]at this;exact absurd this (by decide)
 ·have:=ZC.mp gy y hy;rw[e]at this;simpa using this
 ·have:=ZC.mp dN y hy;rw[Bool.and_eq_true]at this;exact⟨eq_of_beq this.1,eq_of_beq this.2⟩
 ·have:∃k,(relabel scope X.env).names.lookup y=some k/\(k=.cell\/k=.free):=by
   rcases hy with h|h
   ·exact⟨_,h,.inl rfl⟩
   ·exact⟨_,h,.inr rfl⟩
  obtain⟨k,e,hk⟩:=this;have:=ZC.mp eZ (y,k) (ZM e)
  have h2:(cl.lookup y).isSome=true:=by
   rcases hk with rfl|rfl<;>simpa using this
  exact Option.isSome_iff_exists.mp h2
def HE{K:PySem.W.Frag}{a:Addr}{ns:List Int}{ix:List Nat}{te:TE}{σ:St}{H:Hp}{Q:VK}(f:Int->Int)(hq:af K H a (ns.map V.int))(hl:ns.length<sizeLine)
  (he:∀z∈ns,∀(H':Hp) (Q':VK),Q' (.int (f z)) H'->te (bE ix (some (.int z)) σ) H' Q')(h:∀D,H D=none->Q (.ref D) (upd H D (.lst ((ns.map f).map V.int)))):
  ∀D,H D=none->∃W:Nat->Nat->List V->Hp->Prop,(∃m,W 0 m [] (upd H D (.lst [])))/\
   ∀i m ys H2,W i m ys H2->H2 D=some (.lst ys)/\(((dM K a).stop i H2/\Q (.ref D) H2)\/((dM K a).go i H2/\ys.length<sizeLine/\∀x H',(dM K a).e9 i H2 x H'->te (bE ix (some x) σ) H' λy H3=>
    H3 D=some (.lst ys)/\∃m',m'<m/\W (i+1) m' (ys++[y]) (upd H3 D (.lst (ys++[y]))))):=by
 intro D hD;refine⟨λi m ys H2=>m=ns.length-i/\i<=ns.length/\ys=((ns.take i).map f).map V.int/\H2=upd H D (.lst ys),⟨ns.length,by simp,Zo _,by simp,rfl⟩,?_⟩;rintro i m ys H2 ⟨rfl,hi,rfl,rfl⟩
 have hs:af K (upd H D (.lst (((ns.take i).map f).map V.int))) a (ns.map V.int):=by
  have s:aa H (upd H D (.lst (((ns.take i).map f).map V.int))):=λb o e=>by rw[ah (bj e hD)];exact e
  exact s.seq hq
 refine⟨aj,?_⟩;by_cases aR:i<ns.length
 ·refine .inr ⟨⟨_,V.int ns[i],hs,by simp[aR]⟩,by simp;omega,λx H' y=>?_⟩;obtain⟨e,y⟩:=y;subst e;have ey:=y _ hs;simp only[Ze,Zc aR,Option.map_some]at ey;cases ey;refine he ns[i] (ZA aR) _ _ ⟨aj,ns.length-(i+1),by omega,rfl,aR,?_,?_⟩
  ·rw[Zi aR];simp only[Zd,Zq,List.map_nil]
  ·rw[oj]
 ·have e:i=ns.length:=by omega
  subst e;refine .inl ⟨⟨_,hs,by simp⟩,?_⟩;rw[ZE (Y2 _)];exact h D hD
def wB(xs:List V)(H:Hp)(Q:VK):Prop:=xs.length<=sizeLine/\∀p,H p=none->Q (.ref p) (upd H p (.lst xs))
def Np(t:TA):TE:=λσ H Q=>t σ H λxs H1=>Wr (wB xs H1 Q)
def fO{es:List Expr}{t:TA}(h:PA X es t):PE X (.List es pos) (Np t):=by
 intro pins s σ H Q I hq;refine wpAny_List_spliced (au (h pos pins s σ H _ I hq) λus s1 ⟨xs,H1,I1,r,w⟩=>?_);obtain⟨z,q⟩:=w.get;refine⟨by rw[<-r.length];exact z,?_⟩;have hf:H1 s1.heap.objs.size=none:=I1.ao.fresh (Y2 _);refine⟨.ref s1.heap.objs.size,upd H1 s1.heap.objs.size (.lst xs),I1.laid (t':=s1.toks) (λb u e=>Y7 _ e) (Y2 _) ?_,rfl,q _ hf⟩;exact⟨z,us,0,r,Zp _ rfl⟩
end
abbrev ay(H:Hp)(a:Addr)(ns:List Int):Prop:=H a=some (.lst (ns.map V.int))
def dR{α:Type}(xs:List α)(lo hi:Option Int):List α:=(xs.drop (HT.a6 xs.length 0 lo)).take (HT.a6 xs.length xs.length hi-HT.a6 xs.length 0 lo)
def vb(ns:List Int)(lo hi:Option Int):jg (ns.map V.int) lo hi=(dR ns lo hi).map V.int:=by
 unfold jg dR;simp[List.map_drop,List.map_take]
def Ys{α:Type}(xs:List α)(k:Nat):dR xs none (some (k:Int))=xs.take k:=by
 unfold dR;rw[HT.vq,HT.zK];simp only[List.drop_zero,Nat.sub_zero];by_cases h:k<=xs.length
 ·rw[Nat.min_eq_left h]
 ·rw[Nat.min_eq_right (by omega),ZE (Y2 _),ZE (by omega)]
def uY{α:Type}(xs:List α)(k:Nat):dR xs (some (k:Int)) none=xs.drop k:=by
 unfold dR;rw[HT.vq,HT.zK];by_cases h:k<=xs.length
 ·rw[Nat.min_eq_left h,ZE (by rw[ZJ];exact Y2 _)]
 ·rw[Nat.min_eq_right (by omega),List.drop_of_length_le (Y2 _),List.drop_of_length_le (by omega)];simp
def Yt{α:Type}(xs:List α)(j k:Nat)(h:j<=k):dR xs (some (j:Int)) (some (k:Int))=(xs.drop j).take (k-j):=by
 unfold dR;rw[HT.vq,HT.vq];by_cases h1:k<=xs.length
 ·rw[Nat.min_eq_left h1,Nat.min_eq_left (by omega)]
 ·rw[Nat.min_eq_right (show xs.length<=k by omega)];by_cases h2:j<=xs.length
  ·rw[Nat.min_eq_left h2,ZE (by rw[ZJ];exact Y2 _),ZE (by rw[ZJ];omega)]
  ·rw[Nat.min_eq_right (by omega),List.drop_of_length_le (Y2 _),List.drop_of_length_le (by omega)];simp
def Wx{α:Type}(xs:List α)(lo hi:Option Int):(dR xs lo hi).length<=xs.length:=by
 unfold dR;rw[Zx,ZJ];omega
def Yu{ns:List Int}{j:Nat}(h:j<ns.length):jm (ns.map V.int) (j:Int)=some (V.int (ns[j]'h)):=kR (by rw[Ze,Zc h];rfl)
def jA{ns:List Int}{i:Nat}{y:V}(h:(ns.map V.int)[i]?=some y):∃z,y=V.int z/\ns[i]?=some z:=by
 rw[Ze]at h;cases e:ns[i]? with
 |none=>rw[e]at h;cases h
 |some z=>rw[e]at h;exact⟨z,(Zf h).symm,rfl⟩
def aa.upd{H H1:Hp}{a:Addr}{o:HO}(s:aa H H1)(n:H a=none):aa H (upd H1 a o):=λb u e=>by
 rw[ah (bj e n)];exact s b u e
def aa.ints{H H':Hp}{a:Addr}{ns:List Int}(e:aa H H')(h:ay H a ns):ay H' a ns:=e _ _ h
def ay.other{H:Hp}{a b:Addr}{ns:List Int}{o:HO}(h:ay H a ns)(n:a≠b):ay (L2.upd H b o) a ns:=by
 show L2.upd H b o a=_;rw[ah n];exact h
def ay.fresh{H:Hp}{a b:Addr}{ns:List Int}{o:HO}(h:ay H a ns)(n:H b=none):ay (L2.upd H b o) a ns:=h.other (bj h n)
def ay.put{H:Hp}{a:Addr}{ns:List Int}:ay (L2.upd H a (.lst (ns.map V.int))) a ns:=aj
def ay.snoc{H:Hp}{a:Addr}{ns:List Int}{v:Int}:ay (L2.upd H a (.lst (ns.map V.int++[V.int v]))) a (ns++[v]):=by
 show L2.upd H a _ a=_;rw[aj,Zd];rfl
def aa.fE{H H1:Hp}{a:Addr}{o:HO}(s:aa H H1)(n:H1 a=none):aa H (L2.upd H1 a o):=s.upd (s.free n)
def bI{n:Nat}(h:n<=10000000):n<sizeLine:=ZP h (by decide)
def GH{K:PySem.W.Frag}:PySem.W.kitOne K (.type "list") (.type "list")=some true:=by
 show(if(Value.type "list"==Value.type "list")=true then some true else _)=_;rw[if_pos (by decide)]
def UD{K:PySem.W.Frag}:PySem.W.kitOne K (.type "int") (.type "int")=some true:=by
 show(if(Value.type "int"==Value.type "int")=true then some true else _)=_;rw[if_pos (by decide)]
def Tr{K:PySem.W.Frag}(h:PySem.W.kitOne K (.type "int") (.type "bool")=some false:=by rfl):PySem.W.kitOne K (.type "int") (.type "bool")=some false:=h
def sU{H:Hp}{xs:List V}{Q:VK}(ns:List Int)(e:xs=ns.map V.int)(h:∀(p:Addr) (H':Hp),H p=none->ay H' p ns->aa H H'->Q (.ref p) H'):∀p,H p=none->Q (.ref p) (upd H p (.lst xs)):=λp hp=>by
 subst e;exact h p _ hp .put ((aa.refl H).upd hp)
def Bl{H:Hp}{ns:List Int}{Q:VK}(h:∀(p:Addr) (H':Hp),H p=none->ay H' p ns->aa H H'->Q (.ref p) H'):∀p,H p=none->Q (.ref p) (upd H p (.lst (ns.map V.int))):=sU ns rfl h
def acG{H:Hp}{ns:List Int}{lo hi:Option Int}{Q:VK}(h:∀(p:Addr) (H':Hp),H p=none->ay H' p (dR ns lo hi)->aa H H'->Q (.ref p) H'):∀p,H p=none->Q (.ref p) (upd H p (.lst (jg (ns.map V.int) lo hi))):=sU _ (vb ..) h
def abl{H:Hp}{ns ms:List Int}{Q:VK}(h:∀(p:Addr) (H':Hp),H p=none->ay H' p (ns++ms)->aa H H'->Q (.ref p) H'):∀p,H p=none->Q (.ref p) (upd H p (.lst (ns.map V.int++ms.map V.int))):=sU _ (by rw[Zd]) h
def abm{H:Hp}{ns:List Int}{Q:VK}(h:∀(p:Addr) (H':Hp),H p=none->ay H' p ns.reverse->aa H H'->Q (.ref p) H'):∀p,H p=none->Q (.ref p) (upd H p (.lst (ns.map V.int).reverse)):=sU _ (by rw[List.map_reverse]) h
def N7{ms:List Int}(k:Nat){i:Int}(h:k<ms.length)(e:i=(k:Int):=by rfl):jm (ms.map V.int) i=some (V.int (ms.getD k 0)):=by
 subst e;rw[Yu h];simp[List.getD,h]
def Yv{K:PySem.W.Frag}{H:Hp}{a:Addr}{ns:List Int}{Q:VK}(hq:ay H a ns)(h:∀(p:Addr) (H':Hp),H p=none->ay H' p ns->aa H H'->Q (.ref p) H'):Wr (vW K [.ref a] H Q):=⟨⟨a,_,rfl,.inl (af.of hq),Bl h⟩⟩
def sj{K:PySem.W.Frag}{H:Hp}{a:Addr}{ns:List Int}{lo hi:Option Int}{Q:VK}(hq:ay H a ns)(h:∀(p:Addr) (H':Hp),H p=none->ay H' p (dR ns lo hi)->aa H H'->Q (.ref p) H'):Wr (B1 K (.ref a) lo hi H Q):=⟨⟨a,_,rfl,af.of hq,acG h⟩⟩
def qG{H:Hp}{a b:Addr}{ns ms:List Int}{Q:VK}(ha:ay H a ns)(hb:ay H b ms)(hl:ns.length+ms.length<=10000000)(h:∀(p:Addr) (H':Hp),H p=none->ay H' p (ns++ms)->aa H H'->Q (.ref p) H'):Wr (wz (.ref a) (.ref b) H Q):=
 ⟨⟨a,b,_,_,rfl,rfl,ha,hb,by simp only[Y0];exact Z2 (bI hl),abl h⟩⟩
def abn{K:PySem.W.Frag}{H:Hp}{a:Addr}{ns:List Int}{Q:VK}(hq:af K H a (ns.map V.int))(h:∀(p:Addr) (H':Hp),H p=none->ay H' p ns.reverse->aa H H'->Q (.ref p) H'):Wr (B8 K (.ref a) H Q):=⟨⟨a,_,rfl,hq,abm h⟩⟩
def aY{K:PySem.W.Frag}{H:Hp}{a:Addr}{ns:List Int}{i:Int}{Q:VK}(k:Nat)(hq:ay H a ns)(hk:k<ns.length)(h:Q (.int (ns.getD k 0)) H)(e:i=(k:Int):=by rfl):Wr (k9 K (.ref a) (.int i) H Q):=⟨⟨a,_,i,_,rfl,rfl,af.of hq,N7 k hk e,h⟩⟩
def Yw{c:Bool}{A:Prop}{H2:Hp}{K:Hp->Prop}(P:Hp->Prop)(hP:P H2)(key:∀H,P H->K H)(h1:(∀H,P H->K H)->A):if c=true then A else K H2:=by
 cases c with
 |true=>rw[if_pos rfl];exact h1 key
 |false=>rw[if_neg Zj];exact key _ hP
def Bm{K:PySem.W.Frag}{H:Hp}{a b:Addr}{ns ms:List Int}{Q:VK}(ha:ay H a ns)(hb:ay H b ms)(h:Q (.bl (decide (ns=ms))) H):Wr (N6 K (.ref a) (.ref b) H Q):=⟨⟨a,b,ns,ms,rfl,rfl,af.of ha,af.of hb,h⟩⟩
def acH{K:PySem.W.Frag}{H:Hp}{a b:Addr}{ns ms:List Int}{Q:VK}(ha:ay H a ns)(hb:ay H b ms)(h:Q (.bl (!decide (ns=ms))) H):Wr (B7 K (.ref a) (.ref b) H Q):=⟨⟨a,b,ns,ms,rfl,rfl,af.of ha,af.of hb,h⟩⟩
def Wz{K:PySem.W.Frag}{H:Hp}{a b:Addr}{ns ms:List Int}{Q:VK}(ha:ay H a ns)(hb:ay H b ms)(e:ns=ms)(h:Q (.bl false) H):Wr (B7 K (.ref a) (.ref b) H Q):=acH ha hb (by rw[ZN e];exact h)
def jD{H:Hp}{xs:List V}{Q:VK}(ns:List Int)(h:∀(p:Addr) (H':Hp),H p=none->ay H' p ns->aa H H'->Q (.ref p) H')(e:xs=ns.map V.int:=by rfl)(hl:ns.length<=1000:=by simp):Wr (wB xs H Q):=by
 subst e;exact⟨⟨by rw[Y0];exact Z2 (bI (by omega)),Bl h⟩⟩
structure ba(P:Program)(w:World)(K:PySem.W.Frag)(mg:Str->Option Value)(base:Heap)(x:Str)(ps:List Str)(k:Nat)(sp:Sp) where
 f:Addr
 fd:FuncData
 ok:aB P w K mg base aM k f fd ps sp
 pf:mg x=some (.ref f)
 kp:PySem.W.keepIn K (.ref f)=true
 bd:Binds K fd ps []
def ba.pe{X:Cx}{x:Str}{ps:List Str}{k j:Nat}{sp:Sp}{e:Expr}{es:List Expr}{t:TA}{p pos:Pos}(R:ba X.prog X.w X.K X.mg X.base x ps k sp)(hr:bL j X.A)(ha:PA X (e::es) t)(hg:Gl X x:=by rfl)(hj:k<=j:=by decide)
  (eJ:(x==("__debug__":Str))=false:=by decide)(he:starEach (e::es) X.env=(false,eval e X.env)::starEach es X.env:=by rfl)(bO:(backTo pos (starEach es X.env)).any (·.1)=false:=by rfl):
  PE X (.Call (.Name x p) (e::es) [] pos) (sY sp [] E0 t):=Ah R.ok (hr.mono hj) hg R.pf R.kp R.bd .nil vV ha eJ he bO
end L2
set_option maxHeartbeats 4000000
namespace My
open PySem L2
structure Txt(K:PySem.W.Frag)(mg:Str->Option Value):Prop where
 len:mg "len"=none
 range:mg "range"=none
 list:mg "list"=none
 int:mg "int"=none
 bool:mg "bool"=none
 inst:mg "isinstance"=none
 tuple:mg "tuple"=none
 abs:mg "abs"=none
 enum:mg "enumerate"=none
 str:mg "str"=none
inductive Jd(K:PySem.W.Frag)(vs:List V)(H:Hp)(Q:VK)(aA:XK):Prop
 |mk (a:Addr) (ns:List Int) (many:Nat) (_:vs=[.ref a,.int many]) (_:af K H a (ns.map V.int)) (_:ns.length<=63) (_:many<=1000) (_:∀(l:Addr) (ms:List Int) (H':Hp),ms.length=many->True->H l=none->ay H' l ms->aa H H'->Q (.ref l) H'):Jd K vs H Q aA
def Mr(K:PySem.W.Frag):Sp:=Jd K
def acI:((10:Int)^ (18:Int).toNat)=1000000000000000000:=by decide
def j9:bootBuiltins "list"=some (.type "list"):=by decide+kernel
def abo:bootBuiltins "int"=some (.type "int"):=by decide+kernel
def Yx:bootBuiltins "bool"=some (.type "bool"):=by decide+kernel
def vw:bootBuiltins "isinstance"=some (.builtin "isinstance"):=by decide+kernel
def abp:bootBuiltins "str"=some (.type "str"):=by decide+kernel
def Ms:bootBuiltins "abs"=some (.builtin "abs"):=by decide+kernel
def vy:bootBuiltins "enumerate"=some (.type "enumerate"):=by decide+kernel
def push:List Int->Int->List Int
 |[],x=>[x]
 |t::r,x=>if t= -x then r else x::t::r
def cut(w:List Int):List Int:=(w.foldl push []).reverse
def WA(st:List Int)(x:Int):(push st x).length<=st.length+1:=by
 cases st with
 |nil=>simp[push]
 |cons t r=>
  show(if t= -x then r else x::t::r).length<=_;split<;>simp only[ZF]<;>omega
def Je(w:List Int):∀st:List Int,(w.foldl push st).length<=st.length+w.length:=by
 induction w with
 |nil=>intro st;simp
 |cons x w ih=>
  intro st;have:=ih (push st x);have h2:=WA st x;simp only[List.foldl_cons,ZF];omega
def UE{ns:List Int}{i:Nat}{z:Int}(h:ns[i]?=some z):(ns.take (i+1)).foldl push []=push ((ns.take i).foldl push []) z:=by
 obtain⟨hi,e⟩:=ZL.mp h;rw[Zi hi,List.foldl_append,e]
 rfl
inductive KC(K:PySem.W.Frag)(vs:List V)(H:Hp)(Q:VK)(aA:XK):Prop
 |mk (a:Addr) (ns:List Int) (_:vs=[.ref a]) (_:af K H a (ns.map V.int)) (_:ns.length<=100000) (_:∀(l:Addr) (H':Hp),H l=none->ay H' l (cut ns)->aa H H'->Q (.ref l) H'):KC K vs H Q aA
def Nq(K:PySem.W.Frag):Sp:=KC K
def UG{α:Type}(xs:List α)(v:α):dR (xs++[v]) none (some (-1))=xs:=by
 have e:HT.a6 (xs++[v]).length (xs++[v]).length (some (-1))=xs.length:=by
  simp only[HT.a6];rw[if_pos (by decide)];simp;omega
 unfold dR;rw[e,HT.zK];simp
inductive Jf(K:PySem.W.Frag)(vs:List V)(H:Hp)(Q:VK)(aA:XK):Prop
 |mk (a:Addr) (ns:List Int) (_:vs=[.ref a]) (_:af K H a (ns.map V.int)) (_:ns.length<=100000) (_:∀(l:Addr) (H':Hp),H l=none->ay H' l (ns.reverse.map (- ·))->aa H H'->Q (.ref l) H'):Jf K vs H Q aA
def Mt(K:PySem.W.Frag):Sp:=Jf K
inductive Mu(vs:List V)(H:Hp)(Q:VK)(aA:XK):Prop
 |mk (a:Addr) (ns:List Int) (_:vs=[.ref a]) (_:ay H a ns) (_:Q (.bl true) H):Mu vs H Q aA
def N8:Sp:=Mu
def Red:List Int->Prop
 |[]=>True
 |[_]=>True
 |a::b::r=>b≠ -a/\Red (b::r)
def Red.tail{a:Int}{r:List Int}(h:Red (a::r)):Red r:=by
 cases r with
 |nil=>trivial
 |cons b r=>exact h.2
def Jg{st:List Int}(h:Red st)(x:Int):Red (push st x):=by
 cases st with
 |nil=>trivial
 |cons t r=>
  show Red (if t= -x then r else x::t::r);split
  ·exact h.tail
  ·exact⟨by assumption,h⟩
def vc(w:List Int):∀{st:List Int},Red st->Red (w.foldl push st):=by
 induction w with
 |nil=>intro st h;exact h
 |cons x w ih=>intro st h;exact ih (Jg h x)
def Jh:∀(st:List Int),Red st->st.reverse.foldl push []=st:=by
 intro st
 induction st with
 |nil=>intro _;rfl
 |cons a r ih=>
  intro h;rw[List.reverse_cons,List.foldl_append,ih h.tail];cases r with
  |nil=>rfl
  |cons b q=>
   show(if b= -a then q else a::b::q)=_;rw[if_neg h.1]
def Yy(w:List Int):cut (cut w)=cut w:=by
 unfold cut;rw[Jh _ (vc w (st:=[]) trivial)]
inductive KD(K:PySem.W.Frag)(vs:List V)(H:Hp)(Q:VK)(aA:XK):Prop
 |mk (a:Addr) (ns:List Int) (_:vs=[.ref a]) (_:af K H a (ns.map V.int)) (_:ns.length<=63) (_:∀H',Q (.bl true) H'):KD K vs H Q aA
def vX(K:PySem.W.Frag):Sp:=KD K
def Ji{st:List Int}(h:Red st)(x:Int):push (push st x) (-x)=st:=by
 cases st with
 |nil=>
  show(if x= - -x then []else [-x,x])=[];rw[if_pos (by omega)]
 |cons t r=>
  show push (if t= -x then r else x::t::r) (-x)=t::r;by_cases hx:t= -x
  ·rw[if_pos hx];cases r with
   |nil=>show [-x]=[t];rw[hx]
   |cons b q=>
    have hb:b≠ -t:=h.1;show(if b= - -x then q else -x::b::q)=_;rw[if_neg (by omega),hx]
  ·rw[if_neg hx];show(if x= - -x then t::r else -x::x::t::r)=t::r;rw[if_pos (by omega)]
abbrev turn(w:List Int):List Int:=w.reverse.map (- ·)
def HF(x:Int)(w:List Int):turn (x::w)=turn w++[-x]:=by simp[turn]
def yZ(u v:List Int):turn (u++v)=turn v++turn u:=by simp[turn]
def zq(w:List Int):turn (turn w)=w:=by
 unfold turn;rw[<-List.map_reverse,List.reverse_reverse,ZK];have:((λx:Int=> -x)∘λx=> -x)=id:=by funext x;simp
 rw[this,List.map_id]
def SN(w:List Int):(turn w).length=w.length:=by simp[turn]
def UH(w:List Int):∀{st:List Int},Red st->(w++turn w).foldl push st=st:=by
 induction w with
 |nil=>intro st _;rfl
 |cons x w ih=>
  intro st h;have e:(x::w)++turn (x::w)=x::((w++turn w)++[-x]):=by rw[HF];simp
  rw[e,List.foldl_cons,List.foldl_append,ih (Jg h x)];exact Ji h x
def wC:Red []:=trivial
def uU(w:List Int):cut (w++turn w)=[]:=by
 unfold cut;rw[UH w wC]
 rfl
def GI(w:List Int):cut (turn w++w)=[]:=by
 have:=uU (turn w);rw[zq]at this;exact this
def NZ(w:List Int):Prop:=∀v∈w,v≠0
end My
namespace L2
open PySem PySem.Spec PyProof.Rows
def qX(K:PySem.W.Frag)(a:Addr):It where
 go:=λi H=>∃xs x,af K H a xs/\xs[i]?=some x
 e9:=λi H x H'=>∃t y,H t=none/\x=.ref t/\H'=upd H t (.tup [.int i,y])/\∀ys,af K H a ys->ys[i]?=some y
 stop:=λi H=>∃xs,af K H a xs/\xs.length<=i
def UI{P:Program}{w:World}{K:PySem.W.Frag}{es:List Expr}{k:Nat}{pos:Pos}(a e it:Addr)(OS:e≠it):
  Turn P w K (.Tuple es k pos) (qX K a) [e,it] e (λi h=>(∃old,IsEnum h e it ((i:Nat):Int) old)/\h.IsListIter it a i) where
 mem:=by simp
 obj:=λi h ⟨⟨old,st⟩,si⟩ b hb=>by
  rcases Y4.mp hb with rfl|hb
  ·exact⟨_,st,λv z=>by
    have z':Data.fields _=Data.cell v:=z;cases z'⟩
  ·have e':b=it:=by simpa using hb
   subst e';obtain⟨o,e,c,d⟩:=si;exact⟨o,e,λv z=>by rw[d]at z;cases z⟩
 keep:=λi h h' ⟨⟨old,st⟩,si⟩ k=>⟨⟨old,k e (by simp) _ st⟩,si.at λo q=>k it (by simp) o q⟩
 item:=by
  intro X hP hw hK hc i pins s σ H E I hf ⟨⟨old,st⟩,si⟩ hg;subst hP hw hK;obtain⟨xs,x,hq,hx⟩:=hg;obtain⟨ai,rv,p,hz⟩:=I.list hq;obtain⟨u,hu,ru⟩:=rv.get hx;obtain⟨e0,e1,e2,e3,e4,e5⟩:=hf e (by simp);obtain⟨f0,f1,f2,f3,f4,f5⟩:=hf it (by simp);have hT:=I.ao.fresh (Y2 s.heap.objs.size);refine wpAny_pyNext_enum_item st si p.isList (x:=u) (by simpa using hu) OS λh1 nr adR nB hz1 hk1=>?_;refine⟨_,rfl,wpAny_letOwnedTupleGo_enum nr λh2 CJ tY=>?_⟩;have tY:Heap.SameBut e h1 h2:=tY;have tZ:∀b o,b≠e->b≠it->s.heap.get? b=some o->h2.get? b=some o:=λb o n1 n2 q=>(tY.2 b n1).trans (hk1 b o n1 n2 q);have eT:e≠s.heap.objs.size:=Zm (Zh st);have ph:h2.get? s.heap.objs.size=some {cls:=.type "tuple",data:=.seq #[.int i s.toks,u]}:=(tY.2 _ eT.symm).trans nB;have adS:h2.IsListIter it a (i+1):=adR.at λo q=>(tY.2 it OS.symm).trans q
  have CJ:IsEnum h2 e it (((i+1:Nat)):Int) u:=by
   have:(((i+1:Nat)):Int)=(i:Int)+1:=by push_cast;rfl
   rw[this];exact CJ
  have iT:it≠s.heap.objs.size:=by
   obtain⟨o,q,_⟩:=si;exact Zm (Zh q)
  have g5:∀b o,H b=some o->b≠e/\b≠it/\b≠s.heap.objs.size:=λb o q=>⟨(λz=>by rw[z,e0]at q;cases q),(λz=>by rw[z,f0]at q;cases q),(λz=>by rw[z,hT]at q;cases q)⟩
  have ao:bG X.prog X.w (upd H s.heap.objs.size (.tup [.int i,x])) h2:=λb o q=>by
   by_cases hb:b=s.heap.objs.size
   ·subst hb;rw[aj]at q;cases q;exact⟨(show 2<=sizeLine by decide),[.int i s.toks,u],.cons ⟨_,rfl⟩ (.cons ru .nil),⟨_,ph,rfl,_,rfl⟩⟩
   ·rw[ah hb]at q;refine(I.ao b o q).k7 (λc v dA r=>tZ c v ?_ ?_ r) (λc r=>by rw[ah (g5 c _ r).2.2];exact r) λc ys r=>by rw[ah (g5 c _ r).2.2];exact r
    ·rcases dA with rfl|dA
     ·exact(g5 _ _ q).1
     ·exact(g5 _ _ dA).1
    ·rcases dA with rfl|dA
     ·exact(g5 _ _ q).2.1
     ·exact(g5 _ _ dA).2.1
  have adT:∀b o,s.heap.get? b=some o->b≠s.heap.objs.size:=λb o q=>Zm (Zh q)
  have I1:Inv X pins σ (upd H s.heap.objs.size (.tup [.int i,x])) {s with heap:=h2,toks:=s.toks+1}:=by
   refine I.step (g':=s.gens) (d':=s.drawn) (t':=s.toks+1) (ch:=[e,it]) (λb hb=>?_) (λb o _ _ dA q _=>tZ b o (λz=>dA (by simp[z])) (λz=>dA (by simp[z])) q) (λb o _ _ dA q _=>⟨o.slots,tZ b o (λz=>dA (by simp[z])) (λz=>dA (by simp[z])) q⟩)
    (λb o _ q n=>by rw[ah (adT b o q)];exact n) (λb o dA q=>⟨o,tZ b o (λz=>dA (by simp[z])) (λz=>dA (by simp[z])) q⟩) (λb ys q=>by rw[ah (g5 b _ q).2.2];exact q) (λb o ys q=>by rw[ah (g5 b _ q).2.2];exact q)
    (λb ps q=>⟨#[],by rw[ah (g5 b _ q).2.2,q];simp⟩) (λm hm=>?_) ao I.bare
   ·rcases Y4.mp hb with rfl|hb
    ·exact⟨e3,e1,e4,e5⟩
    ·have e':b=it:=by simpa using hb
     subst e';exact⟨f3,f1,f4,f5⟩
   ·obtain⟨o,ji,ep,ho,r⟩:=hm;exact⟨o,ji,ep,tZ _ _ e1.symm f1.symm ho,r⟩
  refine⟨.ref s.heap.objs.size,_,I1,rfl,⟨s.heap.objs.size,x,hT,rfl,rfl,λys hy=>by rw[I.IT hy hq];exact hx⟩,⟨⟨u,CJ⟩,adS⟩,λb hb=>?_⟩;rcases Y4.mp hb with rfl|hb
  ·rw[ah eT];exact e0
  ·have e':b=it:=by simpa using hb
   subst e';rw[ah iT];exact f0
 done:=by
  intro X hP hw hK hc i pins s σ H E I hf ⟨⟨old,st⟩,si⟩ hg;subst hP hw hK;obtain⟨xs,hq,hx⟩:=hg;obtain⟨ai,rv,p,hz⟩:=I.list hq;obtain⟨f0,f1,f2,f3,f4,f5⟩:=hf it (by simp);have hl:=rv.length;exact wpAny_pyNext_enum_end (I.ok.hd hc) st si p.isList (by simp;omega) λh' eb=>⟨rfl,I.turned (t':=s.toks) (λb o hb q=>eb b o hb q) f0 f1 f3 f4 f5⟩
 self:=λ_ _ _ _ _ ⟨⟨old,st⟩,_⟩ h=>wpAny_pyIter_enum st h
section
variable {X:Cx}
def acJ(K:PySem.W.Frag)(ta:TA):TI:=λσ H R=>ta σ H λvs H1=>∃a,vs=[.ref a]/\(∃xs,af K H1 a xs)/\R (qX K a) H1
def vz{l:Expr}{ta:TA}{p pos pt:Pos}{es:List Expr}{k:Nat}(hg:Gl X "enumerate")(hm:X.mg "enumerate"=none)(hb:bootBuiltins "enumerate"=some (.type "enumerate"))(ha:PA X [l] ta)(hs:starEach [l] X.env=[(false,eval l X.env)]:=by rfl):
  PI X (.Tuple es k pt) (.Call (.Name "enumerate" p) [l] [] pos) (acJ X.K ta):=by
 intro pins s σ H R I h;refine Call_ (oy I hg hm hb (PyProof.Rows.callWith_type1 (au (ha pos pins s σ H _ I h) λus s1 ⟨vs,H1,I1,r1,q1⟩=>?_) hs rfl));obtain⟨a,e,⟨xs,hq⟩,q⟩:=q1;subst e;cases r1 with
 |cons r rr=>
  cases rr;cases r;obtain⟨ai,rv,pl,hz⟩:=I1.list hq;refine call_enumerate_list pl.isList λh' he hit hsz hk=>?_;refine wpAny_pyIter_enum he ?_;have I2:Inv X pins σ H1 {s1 with heap:=h'}:=I1.kept (t':=s1.toks) λb o e=>hk b o e;refine⟨s1.heap.objs.size+1,[s1.heap.objs.size+1,s1.heap.objs.size],_,_,H1,rfl,I2,UI a _ _ (Nat.succ_ne_self _),⟨⟨_,he⟩,hit⟩,λb hb=>?_,q⟩;rcases Y4.mp hb with rfl|hb
  ·exact I1.qP (Nat.le_succ _) (I1.ao.fresh (Nat.le_succ _))
  ·have e:b=s1.heap.objs.size:=by simpa using hb
   subst e;exact I1.qP (Y2 _) (I1.ao.fresh (Y2 _))
def zL{K:PySem.W.Frag}{a:Addr}{xs:List V}{g:TG}{tb:TS}{D:Ends}{σ:St}{H:Hp}(Pv:Nat->St->Hp->Prop)(h0:Pv 0 σ H)(hl:∀i σ H,i<=xs.length->Pv i σ H->af K H a xs)
  (hs:∀i x σ H t,xs[i]?=some x->H t=none->Pv i σ H->g (.ref t) σ (upd H t (.tup [.int i,x])) λσ2 H2=>tb {D with nx:=Pv (i+1),ct:=Pv (i+1),bk:=D.nx} σ2 H2)(hd:∀σ H,Pv xs.length σ H->D.nx σ H):
  ∃W:Nat->Nat->St->Hp->Prop,(∃m,W 0 m σ H)/\∀i m σ H,W i m σ H->
   ((qX K a).stop i H/\D.nx σ H)\/((qX K a).go i H/\∃N:St->Hp->Prop,(∀σ' H',N σ' H'->∃m',m'<m/\W (i+1) m' σ' H')/\∀x H',(qX K a).e9 i H x H'->g x σ H' λσ2 H2=>tb {D with nx:=N,ct:=N,bk:=D.nx} σ2 H2):=by
 refine⟨λi m σ H=>m=xs.length-i/\i<=xs.length/\Pv i σ H,⟨xs.length,by simp,Zo _,h0⟩,?_⟩;rintro i m σ H ⟨rfl,hi,p⟩;have q:=hl i σ H hi p;by_cases aR:i<xs.length
 ·refine .inr ⟨⟨xs,xs[i],q,by simp[aR]⟩,Pv (i+1),λσ' H' p'=>⟨xs.length-(i+1),by omega,rfl,aR,p'⟩,λx H' y=>?_⟩;obtain⟨t,y,ht,rfl,rfl,hy⟩:=y;exact hs i y σ H t (hy xs q) ht p
 ·have e:i=xs.length:=by omega
  subst e;exact .inl ⟨⟨xs,q,Y2 _⟩,hd σ H p⟩
end
open PySem.SeqAt
end L2
namespace L2
open PySem PySem.Spec PyProof.Rows
section
variable {X:Cx}{tg:Expr}
def Ts{ys:List Str}:∀{us:List Value},Vals (ys.map V.str) us->StrsAre us ys:=by
 induction ys with
 |nil=>intro us r;rw[List.map_nil]at r;cases r;exact .nil
 |cons y ys ih=>
  intro us r;rw[Zq]at r;cases r with
  |cons r1 r2=>
   obtain⟨t,e⟩:=r1;subst e;exact .cons y t (ih r2)
inductive KG(K:PySem.W.Frag)(x:V)(vs:List V)(H:Hp)(Q:VK):Prop
 |mk (z l ys:_) (_:x=.str z) (_:vs=[.ref l]) (_:af K H l (ys.map V.str)) (_:(ys.map (·.length)).sum+ys.length*z.length<=16777216) (_:Q (.str (Txt.join z ys)) H):KG K x vs H Q
def rJoin(K:PySem.W.Frag):V->List V->Hp->VK->Prop:=KG K
def KH:xa X "str.join" (rJoin X.K):=by
 intro pins s σ H x vs v us Q I rx rv h;obtain⟨z,l,ys,rfl,rfl,hl,ao,q⟩:=h;obtain⟨t,rfl⟩:=rx;obtain⟨u,rfl,ru⟩:=rv.one;cases ru;obtain⟨ai,r,ht,hz⟩:=I.list hl;exact join_list ht.isList (by simpa using Ts r) ao λt' k=>⟨.str _,H,I.tok k,⟨_,rfl⟩,q⟩
def HG{K:PySem.W.Frag}{a:Addr}{xs:List V}{ix:List Nat}{te:TE}{σ:St}{H:Hp}{Q:VK}(f:V->V)(hq:af K H a xs)(hl:xs.length<sizeLine)
  (he:∀z∈xs,∀(H':Hp) (Q':VK),aa H H'->Q' (f z) H'->te (bE ix (some z) σ) H' Q')(h:∀D,H D=none->Q (.ref D) (upd H D (.lst (xs.map f)))):
  ∀D,H D=none->∃W:Nat->Nat->List V->Hp->Prop,(∃m,W 0 m [] (upd H D (.lst [])))/\
   ∀i m ys H2,W i m ys H2->H2 D=some (.lst ys)/\(((dM K a).stop i H2/\Q (.ref D) H2)\/((dM K a).go i H2/\ys.length<sizeLine/\∀x H',(dM K a).e9 i H2 x H'->te (bE ix (some x) σ) H' λy H3=>
    H3 D=some (.lst ys)/\∃m',m'<m/\W (i+1) m' (ys++[y]) (upd H3 D (.lst (ys++[y]))))):=by
 intro D hD;refine⟨λi m ys H2=>m=xs.length-i/\i<=xs.length/\ys=(xs.take i).map f/\H2=upd H D (.lst ys),⟨xs.length,by simp,Zo _,by simp,rfl⟩,?_⟩;rintro i m ys H2 ⟨rfl,hi,rfl,rfl⟩;have s:aa H (upd H D (.lst ((xs.take i).map f))):=λb o e=>by rw[ah (bj e hD)];exact e
 have hs:=s.seq hq;refine⟨aj,?_⟩;by_cases aR:i<xs.length
 ·refine .inr ⟨⟨_,xs[i],hs,by simp[aR]⟩,by simp;omega,λx H' y=>?_⟩;obtain⟨e,y⟩:=y;subst e;have ey:=y _ hs;rw[Zc aR]at ey;cases ey;refine he xs[i] (ZA aR) _ _ s ⟨aj,xs.length-(i+1),by omega,rfl,aR,?_,?_⟩
  ·rw[Zi aR];simp only[Zd,Zq,List.map_nil]
  ·rw[oj]
 ·have e:i=xs.length:=by omega
  subst e;refine .inl ⟨⟨_,hs,by simp⟩,?_⟩;rw[ZE (Y2 _)];exact h D hD
end
section
variable {κ:Type} [DecidableEq κ]
def bq(kvs:List (κ×V))(k:κ):Option V:=(kvs.find? λkv=>decide (kv.1=k)).map (·.2)
def putK(kvs:List (κ×V))(k:κ)(v:V):List (κ×V):=
 if(kvs.any λkv=>decide (kv.1=k))=true then kvs.map (λkv=>if kv.1=k then(kv.1,v)else kv)else kvs++[(k,v)]
def gO{p:κ×V}{r:List (κ×V)}{k:κ}(e:p.1=k):bq (p::r) k=some p.2:=by simp[bq,List.find?_cons,e]
def gP{p:κ×V}{r:List (κ×V)}{k:κ}(e:¬p.1=k):bq (p::r) k=bq r k:=by simp[bq,List.find?_cons,e]
def qh(k:κ):∀kvs:List (κ×V),(kvs.any λkv=>decide (kv.1=k))=(bq kvs k).isSome
 |[]=>rfl
 |p::r=>by
  rw[List.any_cons];by_cases e:p.1=k
  ·simp only[gO e,ZN e,Bool.true_or,Option.isSome_some]
  ·rw[gP e,ZO e,Bool.false_or];exact qh k r
def Jj(k j:κ)(y:V):∀kvs:List (κ×V),bq (kvs.map λkv=>if kv.1=k then(kv.1,y)else kv) j=(bq kvs j).map λx=>if j=k then y else x
 |[]=>rfl
 |p::r=>by
  have ih:=Jj k j y r;rw[Zq];by_cases h:p.1=k
  ·rw[if_pos h];by_cases e:p.1=j
   ·rw[gO (p:=(p.1,y)) e,gO e,Option.map_some,if_pos (e.symm.trans h)]
   ·rw[gP (p:=(p.1,y)) e,gP e,ih]
  ·rw[if_neg h];by_cases e:p.1=j
   ·rw[gO (p:=p) e,gO e,Option.map_some,if_neg (λz=>h (e.trans z))]
   ·rw[gP (p:=p) e,gP e,ih]
def HK(k j:κ)(y:V):∀kvs:List (κ×V),bq kvs k=none->bq (kvs++[(k,y)]) j=if j=k then some y else bq kvs j
 |[],_=>by
  by_cases e:k=j
  ·rw[if_pos e.symm];exact gO (p:=(k,y)) e
  ·rw[if_neg (λz=>e z.symm)];exact gP (p:=(k,y)) e
 |p::r,hn=>by
  rw[List.cons_append];have hk:¬p.1=k:=λz=>by rw[gO z]at hn;cases hn
  rw[gP hk]at hn;have ih:=HK k j y r hn;by_cases e:p.1=j
  ·rw[gO e,gO e,if_neg (λz=>hk (e.trans z))]
  ·rw[gP e,gP e,ih]
def zM(kvs:List (κ×V))(k j:κ)(y:V):bq (putK kvs k y) j=if j=k then some y else bq kvs j:=by
 unfold putK;by_cases a:(kvs.any λkv=>decide (kv.1=k))=true
 ·rw[if_pos a,Jj];rw[qh]at a;by_cases e:j=k
  ·obtain⟨x,hx⟩:=Option.isSome_iff_exists.mp a;rw[if_pos e,e,hx,Option.map_some,if_pos rfl]
  ·rw[if_neg e];cases bq kvs j with
   |none=>rfl
   |some x=>rw[Option.map_some,if_neg e]
 ·rw[if_neg a];refine HK k j y kvs ?_;rw[qh]at a;cases q:bq kvs k with
  |none=>rfl
  |some x=>rw[q]at a;exact(a rfl).elim
def rY(kvs:List (κ×V))(k:κ)(v:V):(putK kvs k v).length<=kvs.length+1:=by
 unfold putK;split
 ·rw[Y0];omega
 ·rw[Zn,ZF,List.length_nil];omega
def sk{kvs:List (κ×V)}{k:κ}(v:V)(h:bq kvs k=none):putK kvs k v=kvs++[(k,v)]:=by
 unfold putK;rw[qh,h];exact if_neg (by decide)
def eY.sh{o:Option V}{u:Option Value}(r:eY o u):o.isSome=u.isSome:=by
 cases o with
 |none=>cases u with
  |none=>rfl
  |some _=>exact(show False from r).elim
 |some _=>cases u with
  |none=>exact(show False from r).elim
  |some _=>rfl
def eY.getD{o:Option V}{u:Option Value}{d:V}{d':Value}(r:eY o u)(rd:RelV d d'):RelV (o.getD d) (u.getD d'):=by
 cases o with
 |none=>cases u with
  |none=>exact rd
  |some _=>exact(show False from r).elim
 |some _=>cases u with
  |none=>exact(show False from r).elim
  |some _=>exact r
def KV.val{kvs:List (κ×V)}{vs:List (κ×Value)}(r:KV kvs vs)(k:κ):eY (bq kvs k) (valueAt vs k):=by
 unfold KV at r
 induction r with
 |nil=>exact True.intro
 |@cons p q ps qs h t ih=>
  obtain⟨h1,h2⟩:=h;by_cases e:p.1=k
  ·have e':q.1=k:=h1.symm.trans e;have b:valueAt (q::qs) k=some q.2:=by simp[valueAt,List.find?_cons,e']
   rw[gO e,b];exact h2
  ·have e':¬q.1=k:=λz=>e (h1.trans z);have b:valueAt (q::qs) k=valueAt qs k:=by simp[valueAt,List.find?_cons,e']
   rw[gP e,b];exact ih
def KV.any{kvs:List (κ×V)}{vs:List (κ×Value)}(r:KV kvs vs)(k:κ):(kvs.any λkv=>decide (kv.1=k))=vs.any λkv=>decide (kv.1=k):=by
 unfold KV at r
 induction r with
 |nil=>rfl
 |cons h t ih=>rw[List.any_cons,List.any_cons,ih,h.1]
def KV.B9{kvs:List (κ×V)}{vs:List (κ×Value)}(r:KV kvs vs)(k:κ){y:V}{u:Value}(ry:RelV y u):
  KV (kvs.map λkv=>if kv.1=k then(kv.1,y)else kv) (vs.map λkv=>if kv.1=k then(kv.1,u)else kv):=by
 unfold KV at r⊢
 induction r with
 |nil=>exact .nil
 |@cons p q ps qs h t ih=>
  rw[Zq,Zq];refine .cons ?_ ih;obtain⟨h1,h2⟩:=h;by_cases e:p.1=k
  ·rw[if_pos e,if_pos (h1.symm.trans e)];exact⟨h1,ry⟩
  ·rw[if_neg e,if_neg (λz=>e (h1.trans z))];exact⟨h1,h2⟩
def KV.put{kvs:List (κ×V)}{vs:List (κ×Value)}(r:KV kvs vs)(k:κ){y:V}{u:Value}(ry:RelV y u):KV (putK kvs k y) (stored vs k u):=by
 unfold putK stored;rw[r.any k];by_cases e:(vs.any λkv=>decide (kv.1=k))=true
 ·rw[if_pos e,if_pos e];exact r.B9 k ry
 ·rw[if_neg e,if_neg e];exact Paired.snoc r ⟨rfl,ry⟩
def KV.length{kvs:List (κ×V)}{vs:List (κ×Value)}(r:KV kvs vs):kvs.length=vs.length:=Paired.length r
end
def mS{P:Program}{w:World}{k:Key}{u:Value}(r:RelV (kV k) u):(cJ P w).is k u=true:=by
 cases k with
 |inl i=>obtain⟨t,e⟩:=(show∃t,u=Value.int i t from r);subst e;exact SG P w i t
 |inr x=>
  cases x with
  |some x=>obtain⟨t,e⟩:=(show∃t,u=Value.str x t from r);subst e;exact SI P w x t
  |none=>cases(show u=Value.none from r);rfl
def HM{P:Program}{w:World}:∀{ks:List Key}{us:List Value},Vals (ks.map kV) us->ItemsAre (cJ P w) ks us
 |[],_,r=>by rw[List.map_nil]at r;cases r;exact .nil
 |k::ks,_,r=>by
  rw[Zq]at r;cases r with
  |cons h t=>exact .cons (mS h) (HM t)
abbrev KT(H:Hp):List (List Key×V)->List (List Key×Addr×Value)->Prop:=Paired λp q=>p.1=q.1/\H q.2.1=some (.tup (p.1.map kV))/\RelV p.2 q.2.2
def KT.val{H:Hp}{kvs:List (List Key×V)}{xs:List (List Key×Addr×Value)}(r:KT H kvs xs)(k:List Key):eY (bq kvs k) ((atKey xs k).map (·.2)):=by
 induction r with
 |nil=>exact True.intro
 |@cons p q ps qs h t ih=>
  obtain⟨h1,_,h2⟩:=h;by_cases e:p.1=k
  ·have e':q.1=k:=h1.symm.trans e;have b:atKey (q::qs) k=some q.2:=by simp[atKey,List.find?_cons,e']
   rw[gO e,b];exact h2
  ·have e':¬q.1=k:=λz=>e (h1.trans z);have b:atKey (q::qs) k=atKey qs k:=by simp[atKey,List.find?_cons,e']
   rw[gP e,b];exact ih
def KT.B9{H:Hp}{kvs:List (List Key×V)}{xs:List (List Key×Addr×Value)}(r:KT H kvs xs)(k:List Key){y:V}{u:Value}(ry:RelV y u):
  KT H (kvs.map λkv=>if kv.1=k then(kv.1,y)else kv) (xs.map (putAt k u)):=by
 induction r with
 |nil=>exact .nil
 |@cons p q ps qs h t ih=>
  rw[Zq,Zq];refine .cons ?_ ih;obtain⟨h1,h2,h3⟩:=h;unfold putAt;by_cases e:p.1=k
  ·rw[if_pos e,if_pos (h1.symm.trans e)];exact⟨h1,h2,ry⟩
  ·rw[if_neg e,if_neg (λz=>e (h1.trans z))];exact⟨h1,h2,h3⟩
def KT.put{H:Hp}{kvs:List (List Key×V)}{xs:List (List Key×Addr×Value)}(r:KT H kvs xs)(k:List Key){b:Addr}{y:V}{u:Value}(hb:H b=some (.tup (k.map kV)))(ry:RelV y u):
  KT H (putK kvs k y) (storedH xs k b u):=by
 have e:(kvs.any λkv=>decide (kv.1=k))=(atKey xs k).isSome:=by
  rw[qh,(r.val k).sh,Option.isSome_map]
 unfold putK storedH;rw[e];by_cases q:(atKey xs k).isSome=true
 ·rw[if_pos q,if_pos q];exact r.B9 k ry
 ·rw[if_neg q,if_neg q];exact Paired.snoc r ⟨rfl,hb,ry⟩
def KT.keeps{H H':Hp}{kvs:List (List Key×V)}{xs:List (List Key×Addr×Value)}(r:KT H kvs xs)(ht:∀b ys,H b=some (.tup ys)->H' b=some (.tup ys)):KT H' kvs xs:=
 Paired.BP r λ_ _ z=>⟨z.1,ht _ _ z.2.1,z.2.2⟩
section
variable {P:Program}{w:World}{H:Hp}{h:Heap}{a:Addr}
def Nr{u:HO}(ok:bG P w H h)(e:Rd H a u):bN P w H h a u:=e.ok ok
def mU{kvs:List (Key×V)}(ok:bG P w H h)(e:Rd H a (.dK kvs)):kvs.length<=sizeLine/\(a==sysModules)=false/\∃vs,KV kvs vs/\h.DictOf (cJ P w) a vs:=
 show bN P w H h a (.dK kvs)from Nr ok e
def Bn{kvs:List (Key×V)}(ok:bG P w H h)(e:H a=some (.dK kvs)):kvs.length<=sizeLine/\(a==sysModules)=false/\∃vs,KV kvs vs/\h.DictOf (cJ P w) a vs:=mU ok (.inl e)
def oB{ks:List Key}(ok:bG P w H h)(e:H a=some (.tup (ks.map kV))):(tupleKind (cJ P w)).is h ks a:=by
 obtain⟨_,ai,r,o,h1,h2,n,h3⟩:=(show bN P w H h a (.tup (ks.map kV))from ok a _ e);exact⟨o,ai.toArray,n,h1,h2,h3,by simpa using HM r⟩
def oK{kvs:List (List Key×V)}(ok:bG P w H h)(e:Rd H a (.dT kvs)):kvs.length<=sizeLine/\(a==sysModules)=false/\
  ∃xs,KT H kvs xs/\h.DictOfH (tupleKind (cJ P w)) a xs:=by
 obtain⟨z,y,xs,r,o,es,ep,h1,h2,h3,h4,h5⟩:=(show bN P w H h a (.dT kvs)from Nr ok e);refine⟨z,y,xs,r,o,es,ep,h1,h2,h3,h4,λx hx=>?_,h5⟩
 have all:∀{l:List (List Key×V)}{m:List (List Key×Addr×Value)},KT H l m->∀x∈m,(tupleKind (cJ P w)).is h x.1 x.2.1:=by
  intro l m q
  induction q with
  |nil=>intro x hx;exact nomatch hx
  |@cons p q ps qs hq t ih=>
   intro x hx;rcases Y4.mp hx with e|hx
   ·subst e;exact oB ok (by rw[<-hq.1];exact hq.2.1)
   ·exact ih x hx
 exact all r x hx
def Bo{kvs:List (List Key×V)}(ok:bG P w H h)(e:H a=some (.dT kvs)):kvs.length<=sizeLine/\(a==sysModules)=false/\
  ∃xs,KT H kvs xs/\h.DictOfH (tupleKind (cJ P w)) a xs:=oK ok (.inl e)
end
def dq(H:Hp)(a:Addr)(y:V)(r:Option V):Prop:=
 (∃kvs k,Rd H a (.dK kvs)/\y=kV k/\r=bq kvs k)\/∃kvs k b,Rd H a (.dT kvs)/\y=.ref b/\H b=some (.tup (k.map kV))/\r=bq kvs k
def gY(H:Hp)(a:Addr)(y v:V)(H':Hp):Prop:=
 (∃kvs k,H a=some (.dK kvs)/\y=kV k/\kvs.length<sizeLine/\H'=upd H a (.dK (putK kvs k v)))\/
 ∃kvs k b,H a=some (.dT kvs)/\y=.ref b/\H b=some (.tup (k.map kV))/\kvs.length<sizeLine/\H'=upd H a (.dT (putK kvs k v))
def dq.k{H:Hp}{a:Addr}{kvs:List (Key×V)}{k:Key}(e:H a=some (.dK kvs)):dq H a (kV k) (bq kvs k):=.inl ⟨kvs,k,.inl e,rfl,rfl⟩
def dq.t{H:Hp}{a b:Addr}{kvs:List (List Key×V)}{k:List Key}(e:H a=some (.dT kvs))(eb:H b=some (.tup (k.map kV))):dq H a (.ref b) (bq kvs k):=.inr ⟨kvs,k,b,.inl e,rfl,eb,rfl⟩
def gY.k{H:Hp}{a:Addr}{kvs:List (Key×V)}{k:Key}{v:V}(e:H a=some (.dK kvs))(hl:kvs.length<sizeLine):gY H a (kV k) v (upd H a (.dK (putK kvs k v))):=.inl ⟨kvs,k,e,rfl,hl,rfl⟩
def gY.t{H:Hp}{a b:Addr}{kvs:List (List Key×V)}{k:List Key}{v:V}(e:H a=some (.dT kvs))(eb:H b=some (.tup (k.map kV)))(hl:kvs.length<sizeLine):
  gY H a (.ref b) v (upd H a (.dT (putK kvs k v))):=.inr ⟨kvs,k,b,e,rfl,eb,hl,rfl⟩
section
variable {X:Cx}{pins:List (Addr×Obj)}{σ:St}{H:Hp}{s:Shared}{a:Addr}{y v:V}{u r:Value}{o:Option V}{A:Around}{E:Value->Shared->Prop}
def Inv.big(I:Inv X pins σ H s):sysModules<s.heap.objs.size:=by
 have h:mainGlobals<s.heap.objs.size:=(I.mod.glob.keeps I.bk).lt;exact Nat.lt_trans (by decide) h
def UJ{Q:Value->Shared->Prop}(hu:A.units+1<cLine)(I:Inv X pins σ H s)(g:dq H a y (some v))(ry:RelV y u)(h:∀w' s',Inv X pins σ H s'->RelV v w'->Q w' s'):
  wpAny (model X.prog X.w) A (getItem (.ref a) u) Q E s:=by
 rcases g with⟨kvs,k,e,ey,l⟩|⟨kvs,k,b,e,ey,eb,l⟩
 ·subst ey;obtain⟨z,hd,vs,rel,dd⟩:=mU I.ao e;obtain⟨w',hw,gJ⟩:=eY.some_of (v:=v) (o:=valueAt vs k) (by rw[l];exact rel.val k);exact wpAny_getItem_of (mS ry) dd.mapOf hw (h w' _ (I.tok _) gJ)
 ·subst ey;cases(show u=Value.ref b from ry);obtain⟨z,hd,xs,rel,dd⟩:=oK I.ao e;obtain⟨w',hw,gJ⟩:=eY.some_of (v:=v) (o:=(atKey xs k).map (·.2)) (by rw[l];exact rel.val k);obtain⟨p,hp,iP⟩:=Option.map_eq_some_iff.mp hw;refine wpAny_getItem_heap (tupleKind_room_in1 hu) (oB I.ao eb) dd hp ?_;rw[iP];exact h w' _ (I.tok _) gJ
def adU{Q:Value->Shared->Prop}(hu:A.units+1<cLine)(I:Inv X pins σ H s)(g:dq H a y o)(ry:RelV y u)(h:∀s',Inv X pins σ H s'->Q (.bool o.isSome) s'):
  wpAny (model X.prog X.w) A (compareOp .In u (.ref a)) Q E s:=by
 rcases g with⟨kvs,k,e,ey,l⟩|⟨kvs,k,b,e,ey,eb,l⟩
 ·subst ey;obtain⟨z,hd,vs,rel,dd⟩:=mU I.ao e;refine wpAny_in_of (mS ry) hd dd.mapOf ?_;rw[<-(rel.val k).sh, <-l];exact h _ (I.tok _)
 ·subst ey;cases(show u=Value.ref b from ry);obtain⟨z,hd,xs,rel,dd⟩:=oK I.ao e;refine wpAny_in_heap (tupleKind_room_in1 hu) (oB I.ao eb) hd dd ?_;have q:=(rel.val k).sh;rw[Option.isSome_map]at q;rw[<-q, <-l];exact h _ (I.tok _)
def Yz{Q:Value->Shared->Prop}(hu:A.units+1<cLine)(I:Inv X pins σ H s)(g:dq H a y o)(ry:RelV y u)(h:∀s',Inv X pins σ H s'->Q (.bool (!o.isSome)) s'):
  wpAny (model X.prog X.w) A (compareOp .NotIn u (.ref a)) Q E s:=by
 rcases g with⟨kvs,k,e,ey,l⟩|⟨kvs,k,b,e,ey,eb,l⟩
 ·subst ey;obtain⟨z,hd,vs,rel,dd⟩:=mU I.ao e;refine wpAny_notIn_of (mS ry) hd dd.mapOf ?_;rw[<-(rel.val k).sh, <-l];exact h _ (I.tok _)
 ·subst ey;cases(show u=Value.ref b from ry);obtain⟨z,hd,xs,rel,dd⟩:=oK I.ao e;refine wpAny_notIn_heap (tupleKind_room_in1 hu) (oB I.ao eb) hd dd ?_;have q:=(rel.val k).sh;rw[Option.isSome_map]at q;rw[<-q, <-l];exact h _ (I.tok _)
def sE{h':Heap}{t':Nat}{ob:HO}(I:Inv X pins σ H s)(mu:tN (H a))(hs:Heap.SameBut a s.heap h')(he:∃q,h'.get? a=some q)(new:bN X.prog X.w (upd H a ob) h' a ob):
  Inv X pins σ (upd H a ob) {s with heap:=h',toks:=t'}:=
 I.write (x:=a) (e:=a) mu (.inl rfl) (λb q hb z=>(hs.2 b hb).trans z) he new
def AU{P:Program}{w:World}{H':Hp}{h':Heap}{kvs:List (Key×V)}{vs:List (Key×Value)}(z:kvs.length<=sizeLine)(hd:(a==sysModules)=false)(rel:KV kvs vs)(dd:h'.DictOf (cJ P w) a vs):
  bN P w H' h' a (.dK kvs):=⟨z,hd,vs,rel,dd⟩
def UK{H':Hp}{Q:Unit->Shared->Prop}(hu:A.units+1<cLine)(I:Inv X pins σ H s)(g:gY H a y v H')(ry:RelV y u)(rv:RelV v r)(h:∀s',Inv X pins σ H' s'->Q () s'):
  wpAny (model X.prog X.w) A (setItem (.ref a) u r) Q E s:=by
 rcases g with⟨kvs,k,e,ey,l,eH⟩|⟨kvs,k,b,e,ey,eb,l,eH⟩
 ·subst ey eH;obtain⟨z,hd,vs,rel,dd⟩:=Bn I.ao e;have hz:vs.length<=sizeLine:=by rw[<-rel.length];exact z
  have hl:(putK kvs k v).length<=sizeLine:=by have:=rY kvs k v;omega
  refine wpAny_setItem_pairs (hsz:=hz) (mS ry) dd λh' jo hs=>h _ ?_;have he:∃q,h'.get? a=some q:=let⟨q,_,_,hq,_⟩:=jo;⟨q,hq⟩
  exact sE I (by rw[e];exact True.intro) hs he (AU hl hd (rel.put k rv) jo)
 ·subst ey eH;cases(show u=Value.ref b from ry);obtain⟨z,hd,xs,rel,dd⟩:=Bo I.ao e;have hz:xs.length<=sizeLine:=by rw[<-Paired.length rel];exact z
  have hl:(putK kvs k v).length<=sizeLine:=by have:=rY kvs k v;omega
  refine wpAny_setItem_heap (hsz:=hz) (tupleKind_room_in1 hu) (oB I.ao eb) dd λh' jo hs=>h _ ?_;obtain⟨q,es,ep,hq,h2,h3,h4,_,h5⟩:=jo;refine sE I (by rw[e];exact True.intro) hs ⟨q,hq⟩ ⟨hl,hd,_,(rel.put k eb rv).keeps λc ys ec=>?_,q,es,ep,hq,h2,h3,h4,h5⟩;rw[ah (Nc ec e (λz=>nomatch z))];exact ec
end
section
variable {X:Cx}{pins:List (Addr×Obj)}{σ:St}{H:Hp}{s:Shared}{a:Addr}{kvs:List (Key×V)}{k:Key}{u:Value}{A:Around}{E:Value->Shared->Prop}
def acK{Q:Value->Shared->Prop}(I:Inv X pins σ H s)(e:Rd H a (.dK kvs))(h:∀t s',Inv X pins σ H s'->Q (.int kvs.length t) s'):wpAny (model X.prog X.w) A (call (.builtin "len") [.ref a]) Q E s:=by
 obtain⟨z,hd,vs,rel,dd⟩:=mU I.ao e;refine call_len_dict hd dd (by rw[<-rel.length];rw[sizeLine_eq]at z;omega) ?_;rw[<-rel.length];exact h _ _ (I.tok _)
end
def N9(i:Expr):Prop:=∀ov iv,subscripted i false ov iv=operate [ov,iv] (getItem ov iv)
def YA{prog:Program}{w:World}{A:Around}{E:Value->Shared->Prop}{s:Shared}{env:Env}{value slice:Expr}{pos:Pos}{T id:String}{Q:Value->Shared->Prop}
  (hl:typeLookup (.type T) "__getitem__"=pure (some (.builtin id)))(hs:N9 slice)
  (h:wpAny (model prog w) A (eval value env) (λo s₁=>wpAny (model prog w) A (eval slice env) (λi s₂=>s₂.TypeIs o T/\wpAny (model prog w) A (getItem o i) Q E s₂) E s₁) E s):
  wpAny (model prog w) A (eval (.Subscript value slice pos) env) Q E s:=by
 refine Subscript_ (wpAny_mono h (λo s₁ h₁=>wpAny_mono h₁ (λi s₂ h₂=>?_) λ_ _ x=>x) λ_ _ x=>x);obtain⟨hT,h₂⟩:=h₂;unfold subscriptTail;refine wpAny_bind ?_;rw[getitemInPython_of_ne hT.not_modules];refine wpAny_bind (wpAny_specialOf hT hl ?_)
 have fin:wpAny (model prog w) A (subscripted slice false o i) (λr s₃=>wpAny (model prog w) A (letTemporaryGo value o r>>=λ_=>pure r) Q E s₃) E s₂:=by
  rw[hs o i];exact wpAny_operating (wpAny_mono h₂ (λr s₃ h₃=>wpAny_bind (wpAny_letTemporaryGo (ZV h₃))) λ_ _ x=>x)
 first
  |exact ZV (wpAny_bind fin)
  |exact wpAny_bind (ZV (wpAny_bind fin))
  |exact wpAny_bind fin
def SO{X:Cx}{pins:List (Addr×Obj)}{σ:St}{H:Hp}{s:Shared}{a:Addr}{y:V}{o:Option V}(I:Inv X pins σ H s)(g:dq H a y o):s.TypeIs (.ref a) "dict":=by
 rcases g with⟨kvs,k,e,_,_⟩|⟨kvs,k,b,e,_,_,_⟩
 ·obtain⟨_,_,vs,_,dd⟩:=mU I.ao e;exact dd.typeIs
 ·obtain⟨_,_,xs,_,dd⟩:=oK I.ao e;exact dd.typeIs
def acL(td ty:TE):TE:=λσ H Q=>td σ H λx H1=>ty σ H1 λy H2=>∃a v,x=.ref a/\dq H2 a y (some v)/\Q v H2
def adV(ty td:TE):TE:=λσ H Q=>ty σ H λy H1=>td σ H1 λx H2=>∃a o,x=.ref a/\dq H2 a y o/\Q (.bl o.isSome) H2
def YB(ty td:TE):TE:=λσ H Q=>ty σ H λy H1=>td σ H1 λx H2=>∃a o,x=.ref a/\dq H2 a y o/\Q (.bl (!o.isSome)) H2
def acM(td ty tv:TE):TS:=λD σ H=>tv σ H λv H1=>td σ H1 λx H2=>ty σ H2 λy H3=>∃a H4,x=.ref a/\gY H3 a y v H4/\D.nx σ H4
section
variable {X:Cx}{o i e value:Expr}{pos pos' wx:Pos}{td ty tv:TE}
def ka(hu:X.A.units+1<cLine)(ho:PE X o td)(hi:PE X i ty)(hs:N9 i):PE X (.Subscript o i pos) (acL td ty):=by
 intro pins s σ H Q I h;refine YA PySem.F.slot_dict_getitem.lookup hs (au (ho pins s σ H _ I h) λu s1 ⟨x,H1,I1,rx,q1⟩=>au (hi pins s1 σ H1 _ I1 q1) λiv s2 ⟨y,H2,I2,ry,a,v,ex,g,q2⟩=>?_);subst ex;obtain rfl:u=Value.ref a:=rx;exact⟨SO I2 g,UJ hu I2 g ry λw' s3 I3 gJ=>⟨v,H2,I3,gJ,q2⟩⟩
def abq(hu:X.A.units+1<cLine)(hi:PE X i ty)(ho:PE X o td):PC X .In i o (adV ty td):=by
 intro pins s σ H Q I h;refine au (hi pins s σ H _ I h) λiv s1 ⟨y,H1,I1,ry,q1⟩=>au (ho pins s1 σ H1 _ I1 q1) λu s2 ⟨x,H2,I2,rx,a,ov,ex,g,q2⟩=>?_;subst ex;obtain rfl:u=Value.ref a:=rx;exact adU hu I2 g ry λs3 I3=>⟨.bl ov.isSome,H2,I3,rfl,q2⟩
def HN(hu:X.A.units+1<cLine)(hi:PE X i ty)(ho:PE X o td):PC X .NotIn i o (YB ty td):=by
 intro pins s σ H Q I h;refine au (hi pins s σ H _ I h) λiv s1 ⟨y,H1,I1,ry,q1⟩=>au (ho pins s1 σ H1 _ I1 q1) λu s2 ⟨x,H2,I2,rx,a,ov,ex,g,q2⟩=>?_;subst ex;obtain rfl:u=Value.ref a:=rx;exact Yz hu I2 g ry λs3 I3=>⟨.bl (!ov.isSome),H2,I3,rfl,q2⟩
def Al(hu:X.A.units+1<cLine)(ho:PE X o td)(hi:PE X i ty)(hv:PE X value tv)(hs:swapsWith value (some (.Subscript o i pos')) pos.line X.env=pure false):
  PS X (.Assign [.Subscript o i pos'] value pos) (acM td ty tv):=by
 intro pins s σ H D I h;refine wpAny_Assign_Subscript (au (hv pins s σ H _ I h) λr s1 ⟨v,H1,I1,rv,q1⟩=>au (ho pins s1 σ H1 _ I1 q1) λu s2 ⟨x,H2,I2,rx,q2⟩=>au (hi pins s2 σ H2 _ I2 q2) λiv s3 ⟨y,H3,I3,ry,a,H4,ex,g,q3⟩=>?_) hs;subst ex;obtain rfl:u=Value.ref a:=rx;exact UK hu I3 g ry rv λs4 I4=>⟨σ,H4,I4,q3⟩
end
def zN{P:Program}{w:World}{H:Hp}(h:Heap)(hb:sysModules<h.objs.size):bN P w H (h.push {cls:=.type "dict",data:=.dict #[]}) h.objs.size (.dK []):=
 ⟨Zo _,ZH.mpr (Ne.symm (Zm hb)),[],.nil,Heap.DictOf.new h⟩
def WB{P:Program}{w:World}{H:Hp}(h:Heap)(hb:sysModules<h.objs.size):bN P w H (h.push {cls:=.type "dict",data:=.dict #[]}) h.objs.size (.dT []):=
 ⟨Zo _,ZH.mpr (Ne.symm (Zm hb)),[],.nil,_, #[],0,Zp _ rfl,⟨rfl,rfl,rfl⟩,rfl,rfl,List.nodup_nil⟩
def abr:TE:=λ_ H Q=>∀p,H p=none->Q (.ref p) (upd H p (.dK []))
def AV:TE:=λ_ H Q=>∀p,H p=none->Q (.ref p) (upd H p (.dT []))
section
variable {X:Cx}{pos:Pos}
def WC:PE X (.Dict [] [] pos) abr:=λpins s σ H Q I h=>
 wpAny_Dict_empty ⟨.ref s.heap.objs.size,_,I.laid (a:=s.heap.objs.size) (o:=.dK []) (t':=s.toks) (λ_ _ q=>Y7 _ q) (Y2 _) (zN s.heap I.big),rfl,h _ (I.ao.fresh (Y2 _))⟩
def WD:PE X (.Dict [] [] pos) AV:=λpins s σ H Q I h=>
 wpAny_Dict_empty ⟨.ref s.heap.objs.size,_,I.laid (a:=s.heap.objs.size) (o:=.dT []) (t':=s.toks) (λ_ _ q=>Y7 _ q) (Y2 _) (WB s.heap I.big),rfl,h _ (I.ao.fresh (Y2 _))⟩
end
def AW:List (TE×TE)->St->Hp->(List (V×V)->Hp->Prop)->Prop
 |[],_,H,Q=>Q [] H
 |(tk,tv)::r,σ,H,Q=>tk σ H λx H1=>tv σ H1 λy H2=>AW r σ H2 λps H3=>Q ((x,y)::ps) H3
abbrev VV:List (V×V)->List (Value×Value)->Prop:=Paired λp q=>RelV p.1 q.1/\RelV p.2 q.2
def xk(X:Cx)(pos:Pos)(keys:List (Option Expr))(values:List Expr)(lM:List (TE×TE)):Prop:=
 ∀(pins:List (Addr×Obj)) (s:Shared) (σ:St) (H:Hp) (Q:List (V×V)->Hp->Prop),Inv X pins σ H s->AW lM σ H Q->
  wpAny (model X.prog X.w) X.A (evalPairs (pairTrees keys values X.env pos)) (λvs s'=>∃ps H',Inv X pins σ H' s'/\VV ps vs/\Q ps H') X.xe s
def YC{X:Cx}{pos:Pos}:xk X pos [] [] []:=λpins s σ H Q I h=>pairTrees_nil_walk ⟨[],H,I,.nil,h⟩
def WE{X:Cx}{pos:Pos}{k v:Expr}{ks:List (Option Expr)}{vs:List Expr}{tk tv:TE}{lM:List (TE×TE)}(hk:PE X k tk)(hv:PE X v tv)(hr:xk X pos ks vs lM):
  xk X pos (some k::ks) (v::vs) ((tk,tv)::lM):=λpins s σ H Q I h=>
 pairTrees_cons_walk (au (hk pins s σ H _ I h) λu s1 ⟨x,H1,I1,rx,q1⟩=>au (hv pins s1 σ H1 _ I1 q1) λw2 s2 ⟨y,H2,I2,ry,q2⟩=>
  au (hr pins s2 σ H2 _ I2 q2) λws s3 ⟨ps,H3,I3,rel,q3⟩=>⟨(x,y)::ps,H3,I3,.cons ⟨rx,ry⟩ rel,q3⟩)
def kW(kvs more:List (Key×V)):List (Key×V):=more.foldl (λacc kv=>putK acc kv.1 kv.2) kvs
def KV.merge:∀{more:List (Key×V)}{rs:List (Key×Value)}{kvs:List (Key×V)}{vs:List (Key×Value)},KV more rs->KV kvs vs->KV (kW kvs more) (merged vs rs):=by
 intro more rs kvs vs r;unfold KV at r
 induction r generalizing kvs vs with
 |nil=>intro q;exact q
 |@cons p q ps qs h t ih=>
  intro r0
  have e:KV (putK kvs p.1 p.2) (stored vs q.1 q.2):=by
   have:=r0.put p.1 h.2;rw[<-h.1];exact this
  exact ih e
def FV:∀(more kvs:List (Key×V)),(kW kvs more).length<=kvs.length+more.length
 |[],kvs=>by show kvs.length<=kvs.length+0;omega
 |p::r,kvs=>by
  have h1:=FV r (putK kvs p.1 p.2);have h2:=rY kvs p.1 p.2;show(kW (putK kvs p.1 p.2) r).length<=_;rw[ZF];omega
def GJ{P:Program}{w:World}:∀{kvs:List (Key×V)}{ws:List (Value×Value)},VV (kvs.map λkv=>(kV kv.1,kv.2)) ws->∃rs,Carries (cJ P w) ws rs/\KV kvs rs
 |[],_,r=>by rw[List.map_nil]at r;cases r;exact⟨[],True.intro,.nil⟩
 |p::kvs,_,r=>by
  rw[Zq]at r;cases r with
  |@cons a b as bs h t=>
   obtain⟨rs,c,q⟩:=GJ (P:=P) (w:=w) t;obtain⟨b1,b2⟩:=b;exact⟨(p.1,b2)::rs,⟨mS h.1,rfl,c⟩,.cons ⟨rfl,h.2⟩ q⟩
def acN(lM:List (TE×TE)):TE:=λσ H Q=>∀p,H p=none->AW lM σ (upd H p (.dK [])) λps H2=>H2 p=some (.dK [])/\∃kvs:List (Key×V),ps=kvs.map (λkv=>(kV kv.1,kv.2))/\kvs.length<=15/\Q (.ref p) (upd H2 p (.dK (kW [] kvs)))
def YD{X:Cx}{pos:Pos}{keys:List (Option Expr)}{values:List Expr}{lM:List (TE×TE)}(h:xk X pos keys values lM)(B4:keys.all (·.isSome)=true)(hl:keys.length=values.length)(h0:keys≠[])
  (h15:keys.length<=15):PE X (.Dict keys values pos) (acN lM):=by
 intro pins s σ H Q I q;have hn:=I.ao.fresh (Y2 s.heap.objs.size);have I1:=I.laid (a:=s.heap.objs.size) (o:=.dK []) (h':=s.heap.push {cls:=.type "dict",data:=.dict #[]}) (t':=s.toks) (λ_ _ q=>Y7 _ q) (Y2 _) (zN s.heap I.big);refine wpAny_Dict_walk (knd:=cJ X.prog X.w) B4 hl h0 h15 (au (h pins _ σ _ _ I1 (q _ hn)) λws s2 ⟨ps,H2,I2,rel,e,kvs,ep,lk,q2⟩=>?_);subst ep;obtain⟨rs,c,rk⟩:=GJ (P:=X.prog) (w:=X.w) rel;obtain⟨z,hd,vs0,r0,dd⟩:=Bn I2.ao e;cases r0;refine⟨rs,c,dd,λh' jo hs=>⟨.ref s.heap.objs.size,_,?_,rfl,q2⟩⟩
 have hz:(kW [] kvs).length<=sizeLine:=by
  have h1:=FV kvs [];rw[List.length_nil]at h1;rw[sizeLine_eq];omega
 have he:∃q,h'.get? s.heap.objs.size=some q:=let⟨q,_,_,hq,_⟩:=jo;⟨q,hq⟩
 exact sE I2 (by rw[e];exact True.intro) hs he (AU hz hd (rk.merge .nil) jo)
structure M1(X:Cx)(o:Expr)(m:Str)(apos:Pos)(e:Expr)(cu:Pos):Prop where
 base:attributeBase o m X.env (eval o X.env)=eval o X.env
 few:((backTo cu (starEach [e] X.env)).all (λx=> !x.1)&&(backToKw cu (keywordEach [] X.env)).all (λx=>x.1.isSome)
  &&decide (([e]:List Expr).length+([]:List Keyword).length+(if([]:List Keyword).isEmpty then 0 else 1)<30))=true
 line:(apos.endLine==cu.line)=true
 trees:backTo cu (starEach [e] X.env)=[(false,eval e X.env)]
def OT(H:Hp)(a:Addr):Prop:=(∃kvs,Rd H a (.dK kvs))\/∃kvs,Rd H a (.dT kvs)
def abt{X:Cx}{pins:List (Addr×Obj)}{σ:St}{H:Hp}{s:Shared}{a:Addr}(I:Inv X pins σ H s)(d:OT H a):
  s.TypeIs (.ref a) "dict"/\(∀b,Value.ref a=.ref b->∃ob,s.heap.get? b=some ob/\ob.dict=none)/\(a==sysModules)=false:=by
 rcases d with⟨kvs,e⟩|⟨kvs,e⟩
 ·obtain⟨_,hd,vs,_,dd⟩:=mU I.ao e;refine⟨dd.typeIs,λb q=>?_,hd⟩;cases q;obtain⟨ob,_,_,h1,h2,_⟩:=dd;exact⟨ob,h1,h2.2.1⟩
 ·obtain⟨_,hd,xs,_,dd⟩:=oK I.ao e;refine⟨dd.typeIs,λb q=>?_,hd⟩;cases q;obtain⟨ob,_,_,h1,h2,_⟩:=dd;exact⟨ob,h1,h2.2.1⟩
section
variable {X:Cx}{pins:List (Addr×Obj)}{σ:St}{H:Hp}{s:Shared}{a:Addr}{y d:V}{u r:Value}{o:Option V}{A:Around}{E:Value->Shared->Prop}
def abu{Q:Value->Shared->Prop}(hu:A.units+1<cLine)(I:Inv X pins σ H s)(g:dq H a y o)(ry:RelV y u)(h:∀w' s',Inv X pins σ H s'->RelV (o.getD .aI) w'->Q w' s'):
  wpAny (model X.prog X.w) A (call (.builtin "dict.get") [.ref a,u]) Q E s:=by
 rcases g with⟨kvs,k,e,ey,l⟩|⟨kvs,k,b,e,ey,eb,l⟩
 ·subst ey;obtain⟨z,hd,vs,rel,dd⟩:=mU I.ao e;refine call_meetsIn PySem.F.slot_dict_get dd.typeIs PySem.F.entry_dict_get (PySem.F.args_dict_get_2 _ _) (meets_dict_get (cJ X.prog X.w) a (mS ry) hd) ⟨_,dd.mapOf,h _ _ (I.tok _) ?_⟩;rw[l];exact(rel.val k).getD rfl
 ·subst ey;cases(show u=Value.ref b from ry);obtain⟨z,hd,xs,rel,dd⟩:=oK I.ao e;refine call_meetsIn PySem.F.slot_dict_get dd.typeIs PySem.F.entry_dict_get (PySem.F.args_dict_get_2 _ _) (meetsH_dict_get (tupleKind (cJ X.prog X.w)) a b hd) ⟨tupleKind_room_in1 hu,k,xs,oB I.ao eb,dd,h _ _ (I.tok _) ?_⟩;rw[l];exact(rel.val k).getD rfl
end
def abv(td ty:TE):TE:=λσ H Q=>td σ H λx H1=>∃a,x=.ref a/\OT H1 a/\ty σ H1 λy H2=>∃o,dq H2 a y o/\Q (o.getD .aI) H2
section
variable {X:Cx}{o e f:Expr}{apos cu:Pos}{td ty tx:TE}
def WG(hu:X.A.units+1<cLine)(ho:PE X o td)(he:PE X e ty)(m:M1 X o "get" apos e cu):PE X (.Call (.Attribute o "get" apos) [e] [] cu) (abv td ty):=by
 intro pins s σ H Q I h;refine wpAny_Call_method m.base m.few m.line PySem.F.plainAttrs_dict PySem.F.slot_dict_get PySem.F.type_dict_get (au (ho pins s σ H _ I h) λu s1 ⟨x,H1,I1,rx,a,ex,d,q1⟩=>?_);subst ex;obtain rfl:u=Value.ref a:=rx;obtain⟨t1,t2,_⟩:=abt I1 d;refine⟨t1,t2,?_⟩;rw[m.trees];refine Calls.callWith_builtin rfl (Calls.evalArgs_plain (Calls.spliced_cons (au (he pins s1 σ H1 _ I1 q1) λiv s2 ⟨y,H2,I2,ry,ov,g,q2⟩=>Calls.spliced_nil ?_)));exact abu hu I2 g ry λw' s3 I3 gJ=>⟨_,H2,I3,gJ,q2⟩
end
section
variable {X:Cx}
def UL:fS X (.builtin "len") (λxs H Q=>∃a kvs,xs=[V.ref a]/\H a=some (.dK kvs)/\Q (.int kvs.length) H):=by
 intro pins s σ H xs us Q I r h;obtain⟨a,kvs,rfl,ha,q⟩:=h;obtain⟨u,rfl,ru⟩:=vals1 r;cases ru;exact acK I (.inl ha) λt s' I'=>⟨.int kvs.length,H,I',⟨t,rfl⟩,q⟩
end
section
variable {κ:Type} [DecidableEq κ]
def WH{kvs:List (κ×V)}{k:κ}(h:bq kvs k=none):¬k∈kvs.map (·.1):=by
 intro m;obtain⟨p,hp,e⟩:=Zg.mp m;have q:(kvs.any λkv=>decide (kv.1=k))=true:=List.any_eq_true.mpr ⟨p,hp,ZN e⟩;rw[qh,h]at q;exact absurd q (by simp)
def qw:∀{l:List κ}{k:κ},l.Nodup->¬k∈l->(l++[k]).Nodup
 |[],k,_,_=>by simp
 |a::r,k,h,hk=>by
  obtain⟨h1,h2⟩:=ZG.mp h;show(a::(r++[k])).Nodup;refine ZG.mpr ⟨λm=>?_,qw h2 λm=>hk (Y4.mpr (Or.inr m))⟩;rcases Y6.mp m with q|q
  ·exact h1 q
  ·exact hk (Y4.mpr (Or.inl (Y1.mp q).symm))
def YE{kvs:List (κ×V)}{k:κ}(v:V)(hn:(kvs.map (·.1)).Nodup)(h:bq kvs k=none):((putK kvs k v).map (·.1)).Nodup:=by
 rw[sk v h,Zd];exact qw hn (WH h)
end
def acO{P:Program}{w:World}{H:Hp}{h h':Heap}(e:h'.get? h.objs.size=some {cls:=.type "dict",data:=.dict #[]})(hb:sysModules<h.objs.size):bN P w H h' h.objs.size (.dK []):=by
 have x:bN P w H (h.push {cls:=.type "dict",data:=.dict #[]}) h.objs.size (.dK []):=zN h hb;obtain⟨z,y,vs,r,dd⟩:=x;exact⟨z,y,vs,r,dd.at λo q=>by rw[Zp _ rfl]at q;cases q;exact e⟩
section
variable {X:Cx}
def adW(ta:TA):TE:=λσ H Q=>ta σ H λvs H1=>∃j:Int,vs=[.int j]/\∀p,H1 p=none->Q (.ref p) (upd H1 p (.bA 0 j))
def Mv{a:Expr}{ta:TA}{p pos:Pos}(hg:Gl X "range")(hm:X.mg "range"=none)(ha:PA X [a] ta)(hs:starEach [a] X.env=[(false,eval a X.env)]:=by rfl):PE X (.Call (.Name "range" p) [a] [] pos) (adW ta):=by
 intro pins s σ H Q I h;refine Call_ (oy I hg hm boot_range (PyProof.Rows.callWith_type1 (au (ha pos pins s σ H _ I h) λus s1 ⟨vs,H1,I1,r1,q1⟩=>?_) hs rfl));obtain⟨j,e,q⟩:=q1;subst e;cases r1 with
 |cons r rr=>
  cases rr;obtain⟨t,rfl⟩:=r;refine call_range_1 ?_;exact⟨.ref s1.heap.objs.size,_,I1.laid (o:=.bA 0 j) (λb u e=>Y7 _ e) (Y2 _) ⟨_,_,_,Zp _ rfl⟩,rfl,q _ (I1.ao.fresh (Y2 _))⟩
inductive AX(xs:List V)(H:Hp)(Q:VK):Prop
 |mk (r:Addr) (n:Nat) (_:xs=[.ref r]) (_:H r=some (.bA 0 n)) (_:n<=1000000) (_:∀l,H l=none->Q (.ref l) (upd H l (.lst ((List.range n).map λ(i:Nat)=>V.int i)))):AX xs H Q
def Gb(hc:X.calm=true):fS X (.type "list") (λxs H Q=>Wr (AX xs H Q)):=by
 intro pins s σ H xs us Q I r h;obtain⟨ra,n,rfl,hr,hn,q⟩:=h.get;obtain⟨u,rfl,ru⟩:=r.one;cases ru;obtain⟨t,tu,tv,e⟩:=(show bN X.prog X.w H s.heap ra (.bA 0 n)from I.ao ra _ hr);have hsz:Builtin.Range.rangeSize 0 (n:Int) 1=(n:Int):=by rw[rangeSize_one];split<;>omega
 refine call_list_range (n:=n) (I.ok.hd hc) e (small_one (by omega) (by omega) (by omega) (by omega)) hsz (by omega) λh' tk acc c hk hS lu=>?_;refine⟨.ref s.heap.objs.size,_,I.laid (t':=tk) (o:=.lst ((List.range n).map λ(i:Nat)=>V.int i)) hk (Y2 _) ?_,rfl,q _ (I.ao.fresh (Y2 _))⟩;have hl:sizeLine=16777216:=sizeLine_eq;refine⟨by rw[Y0,Z4];omega,acc.toList,c,?_,by simpa using hS⟩
 have gen:∀(k:Nat) (l:List Value),l.length=n-k->(∀j v,l[j]?=some v->∃t,v=Value.int ((0:Int)+((k+j:Nat):Int)*1) t)->k<=n->Vals ((List.range' k (n-k)).map λ(i:Nat)=>V.int i) l:=by
  intro k l
  induction l generalizing k with
  |nil=>
   intro hl _ _;have:n-k=0:=by simpa using hl.symm
   rw[this];exact .nil
  |cons v l ih=>
   intro hl hv qY;have h1:n-k=(n-(k+1))+1:=by simp at hl;omega
   rw[h1,List.range'_succ,Zq];refine .cons ?_ (ih (k+1) (by simp at hl;omega) (λj v' hj=>?_) (by simp at hl;omega))
   ·obtain⟨t,e⟩:=hv 0 v rfl;exact⟨t,by rw[e];simp⟩
   ·obtain⟨t,e⟩:=hv (j+1) v' (by simpa using hj);refine⟨t,?_⟩;rw[e];congr 3;omega
 have:=gen 0 acc.toList (by simpa using lu.1) (λj v hj=>by
  obtain⟨t,e⟩:=lu.2 j v (by simpa using hj);exact⟨t,by rw[e];simp⟩) (Zo _)
 rw[Nat.sub_zero, <-List.range_eq_range']at this;exact this
def zf{lo:Int}{n:Nat}{ix:List Nat}{te:TE}{σ:St}{H:Hp}{Q:VK}
  (h:∀D,H D=none->∃Pv:Nat->List V->Hp->Prop,Pv 0 [] (upd H D (.lst []))/\(∀i ys H2,Pv i ys H2->H2 D=some (.lst ys)/\ys.length<sizeLine)/\
   (∀i ys H2,i<n->Pv i ys H2->∀Q':VK,(∀y H3,H3 D=some (.lst ys)->Pv (i+1) (ys++[y]) (upd H3 D (.lst (ys++[y])))->Q' y H3)->te (bE ix (some (.int (lo+i))) σ) H2 Q')/\∀ys H2,Pv n ys H2->Q (.ref D) H2):
  ∀D,H D=none->∃W:Nat->Nat->List V->Hp->Prop,(∃m,W 0 m [] (upd H D (.lst [])))/\
   ∀i m ys H2,W i m ys H2->H2 D=some (.lst ys)/\(((fH lo n).stop i H2/\Q (.ref D) H2)\/((fH lo n).go i H2/\ys.length<sizeLine/\∀x H',(fH lo n).e9 i H2 x H'->te (bE ix (some x) σ) H' λy H3=>
    H3 D=some (.lst ys)/\∃m',m'<m/\W (i+1) m' (ys++[y]) (upd H3 D (.lst (ys++[y]))))):=by
 intro D hD;obtain⟨Pv,p0,pl,ps,pq⟩:=h D hD;refine⟨λi m ys H2=>m=n-i/\i<=n/\Pv i ys H2/\True,⟨n,by simp,Zo _,p0,trivial⟩,?_⟩;rintro i m ys H2 ⟨rfl,hi,p,_⟩;obtain⟨e1,e2⟩:=pl i ys H2 p;refine⟨e1,?_⟩;by_cases aR:i<n
 ·refine .inr ⟨aR,e2,λx H' y=>?_⟩;obtain⟨e,y⟩:=y;subst e y;exact ps i ys _ aR p _ λy H3 e3 p3=>⟨e3,n-(i+1),by omega,rfl,aR,p3,trivial⟩
 ·have e:i=n:=by omega
  subst e;exact .inl ⟨Y2 _,pq ys H2 p⟩
end
end L2
namespace My
open PySem L2
abbrev Ps:=List (Addr×List Int)
def Tp(H:Hp)(ps:Ps):Prop:=∀p∈ps,H p.1=some (.tup (p.2.map V.int))
structure Tl(H:Hp)(l:Addr)(ps:Ps):Prop where
 is:H l=some (.lst (ps.map λp=>V.ref p.1))
 tp:Tp H ps
def Tl.same{H H':Hp}{l:Addr}{ps:Ps}(h:Tl H l ps)(s:aa H H'):Tl H' l ps:=⟨s _ _ h.is,λp hp=>s _ _ (h.tp p hp)⟩
def Tp.same{H H':Hp}{ps:Ps}(h:Tp H ps)(s:aa H H'):Tp H' ps:=λp hp=>s _ _ (h p hp)
def WI{K:PySem.W.Frag}{H:Hp}{a:Addr}{ps:Ps}{Q:VK}(hq:Tl H a ps)(h:∀(p:Addr) (H':Hp),H p=none->Tl H' p ps->aa H H'->Q (.ref p) H'):Wr (vW K [.ref a] H Q):=
 ⟨⟨a,_,rfl,.inl (af.of hq.is),λp hp=>h p _ hp ⟨aj,hq.tp.same ((aa.refl H).upd hp)⟩ ((aa.refl H).upd hp)⟩⟩
def qH{K:PySem.W.Frag}{H:Hp}{t:Addr}{r:List Int}{i:Int}{Q:VK}(k:Nat)(ht:H t=some (.tup (r.map V.int)))(hk:k<r.length)(h:Q (.int (r.getD k 0)) H)(e:i=(k:Int):=by rfl):Wr (kr K (.ref t) (.int i) H Q):=
 ⟨⟨t,_,i,_,rfl,rfl,bt.of ht,N7 k hk e,h⟩⟩
def jn(l:List Int)(a b:Nat):List Int:=l.map λm=>if m=max (l.getD a 0) (l.getD b 0)then min (l.getD a 0) (l.getD b 0)else m
def UM(l:List Int)(a b:Nat):(jn l a b).length=l.length:=by simp[jn]
structure c9(n:Nat)(l:List Int):Prop where
 len:l.length=n
 bA:∀v∈l,0<=v/\v<n
def getD_mem{l:List Int}{a:Nat}(h:a<l.length):l.getD a 0∈l:=by
 rw[List.getD,Zc h];exact ZA h
def c9.jn{n:Nat}{l:List Int}(h:c9 n l){a b:Nat}(ha:a<n)(hb:b<n):c9 n (jn l a b):=by
 refine⟨by rw[UM];exact h.len,λv hv=>?_⟩;obtain⟨m,hm,rfl⟩:=Zg.mp hv;have h1:=h.bA _ (getD_mem (a:=a) (by rw[h.len];exact ha));have h2:=h.bA _ (getD_mem (a:=b) (by rw[h.len];exact hb));split
 ·omega
 ·exact h.bA m hm
def cR(n:Nat):List Int:=(List.range n).map λ(i:Nat)=>(i:Int)
def Am(n:Nat):c9 n (cR n):=by
 refine⟨by simp[cR],λv hv=>?_⟩;obtain⟨i,hi,rfl⟩:=Zg.mp hv;have:=ZU.mp hi;omega
def Jk{K:PySem.W.Frag}{H:Hp}{r:Addr}{n:Nat}{Q:VK}(hr:H r=some (.bA 0 n))(hn:n<=1000000)(h:∀(p:Addr) (H':Hp),H p=none->ay H' p (cR n)->aa H H'->Q (.ref p) H'):Wr (AX [.ref r] H Q):=
 ⟨⟨r,n,rfl,hr,hn,sU _ (by simp[cR,ZK,Function.comp_def]) h⟩⟩
def fQ(n:Nat)(r:List Int):Prop:=∃a b:Nat,r=[(a:Int),(b:Int)]/\a<n/\b<n
def c5(n:Nat)(r:List Int):Prop:=∃(i:Int) (a:Nat) (k:Int) (b:Nat),r=[i,(a:Int),k,(b:Int)]/\a<n/\b<n
def eM(l:List Int)(r:List Int):List Int:=jn l (r.getD 0 0).toNat (r.getD 1 0).toNat
def fF(n:Nat)(ps:Ps):List Int:=ps.foldl (λl p=>eM l p.2) (cR n)
def c9.eM{n:Nat}{l r:List Int}(h:c9 n l)(hr:fQ n r):c9 n (eM l r):=by
 obtain⟨a,b,rfl,ha,hb⟩:=hr;exact h.jn ha hb
structure wD(mg:Str->Option Value):Prop where
 min:mg "min"=none
 max:mg "max"=none
def Mw:bootBuiltins "min"=some (.builtin "min"):=by decide+kernel
def AY:bootBuiltins "max"=some (.builtin "max"):=by decide+kernel
def Mx(i j:Int):(if j<i then j else i)=min i j:=by
 split<;>omega
def Mz(i j:Int):(if j>i then j else i)=max i j:=by
 split<;>omega
def An{cells:List (Str×Addr)}{a b:Str}{x y:Addr}(h1:cells.lookup a=some x)(h2:cells.lookup b=some y):∀z c,[(a,x),(b,y)].lookup z=some c->cells.lookup z=some c:=λz c h=>by
 rcases Y4.mp (ZM h)with e|e
 ·cases e;exact h1
 ·have e:(z,c)=(b,y):=by simpa using e
  cases e;exact h2
def gf(l:Addr):List (Str×V):=a8 "least" (.ref l) []
def Bp(l:Addr):gf l=([("least",V.ref l)]:List (Str×V)):=rfl
def hZ(l:Addr):(gf l).lookup ("least":Str)=some (.ref l):=by
 unfold gf;rw[my,if_pos rfl]
def abw(l m:Addr):a8 "least" (.ref m) (gf l)=gf m:=by
 rw[Bp,Bp];show(if("least":Str)="least" then [(("least":Str),V.ref m)]else _)=_;rw[if_pos rfl]
def Bq(l:Addr){m:Str}(h:¬m="least"):(gf l).lookup m=none:=by
 unfold gf;rw[my,if_neg h]
 rfl
structure jW(C:Addr)(H:Hp)(g:Addr)(ls:List Int):Prop where
 ob:∃dx l,H g=some (.ins C dx (gf l))/\ay H l ls
def Kp(g:Addr)(H H':Hp):Prop:=∀b o,H b=some o->b≠g->H' b=some o
structure mW(K:PySem.W.Frag)(mg:Str->Option Value)(C:Addr):Prop where
 cl:eI K C
 nL:NoAttr K C "least"
 mgC:mg "Groups"=some (.ref C)
inductive KI(C:Addr)(vs:List V)(H:Hp)(Q:VK)(aA:XK):Prop
 |mk (g:Addr) (ls:List Int) (a b:Nat) (_:vs=[.ref g,.int a,.int b]) (_:jW C H g ls) (_:a<ls.length) (_:b<ls.length) (_:ls.length<=1000) (_:∀H',jW C H' g (jn ls a b)->Kp g H H'->Q .aI H'):KI C vs H Q aA
def Br(C:Addr):Sp:=KI C
inductive KJ(C:Addr)(vs:List V)(H:Hp)(Q:VK)(aA:XK):Prop
 |mk (g:Addr) (ls:List Int) (a b:Nat) (_:vs=[.ref g,.int a,.int b]) (_:jW C H g ls) (_:a<ls.length) (_:b<ls.length) (_:Q (.bl (decide (ls.getD a 0=ls.getD b 0))) H):KJ C vs H Q aA
def Nt(C:Addr):Sp:=KJ C
inductive HP(C:Addr)(vs:List V)(H:Hp)(Q:VK)(aA:XK):Prop
 |mk (g dx:Addr) (n:Nat) (l:Addr) (ps:Ps) (_:vs=[.ref g,.int n,.ref l]) (_:H g=some (.ins C dx [])) (_:Tl H l ps) (_:(∀p∈ps,fQ n p.2)) (_:n<=1000) (_:ps.length<=1000) (_:∀H',jW C H' g (fF n ps)->Kp g H H'->Q .aI H'):HP C vs H Q aA
def KL(C:Addr):Sp:=HP C
def oC(s:Int):Nat:=if s=1 then 1 else 3
inductive Jl(vs:List V)(H:Hp)(Q:VK)(aA:XK):Prop
 |mk (t:Addr) (r:List Int) (s:Int) (_:vs=[.ref t,.int s]) (_:H t=some (.tup (r.map V.int))) (_:r.length=4) (_:Q (.int (r.getD (oC s) 0)) H):Jl vs H Q aA
def vI:Sp:=Jl
inductive KN(vs:List V)(H:Hp)(Q:VK)(aA:XK):Prop
 |mk (t:Addr) (r:List Int) (s:Int) (_:vs=[.ref t,.int s]) (_:H t=some (.tup (r.map V.int))) (_:r.length=4) (_:Q (.int (r.getD (oC (-s)) 0)) H):KN vs H Q aA
def Nu:Sp:=KN
def mI{cells:List (Str×Addr)}:∀z c,([]:List (Str×Addr)).lookup z=some c->cells.lookup z=some c:=λz c h=>by cases h
def ki{c:Bool}{A B:Prop}(e:c=true)(h:A):if c=true then A else B:=by rw[if_pos e];exact h
def c6{c:Bool}{A B:Prop}(e:c=false)(h:B):if c=true then A else B:=by rw[e];exact cf h
def qx{ps:Ps}{i:Nat}{y:V}(h:(ps.map λp=>V.ref p.1)[i]?=some y):∃p,y=V.ref p.1/\ps[i]?=some p:=by
 rw[Ze]at h;cases e:ps[i]? with
 |none=>rw[e]at h;cases h
 |some z=>rw[e]at h;exact⟨z,(Zf h).symm,rfl⟩
def uV{α β:Type}{f:β->α->β}{b:β}{ps:List α}{i:Nat}{z:α}(h:ps[i]?=some z):(ps.take (i+1)).foldl f b=f ((ps.take i).foldl f b) z:=by
 obtain⟨hi,e⟩:=ZL.mp h;rw[Zi hi,List.foldl_append,e]
 rfl
def UN{n:Nat}{ps:Ps}{i:Nat}{p:Addr×List Int}(h:ps[i]?=some p):fF n (ps.take (i+1))=eM (fF n (ps.take i)) p.2:=uV h
def KO{n:Nat}:∀(ps:Ps),(∀p∈ps,fQ n p.2)->c9 n (fF n ps):=by
 intro ps
 suffices∀l,c9 n l->(∀p∈ps,fQ n p.2)->c9 n (ps.foldl (λl p=>eM l p.2) l)from this _ (Am n)
 induction ps with
 |nil=>intro l h _;exact h
 |cons p ps ih=>intro l h hp;exact ih _ (h.eM (hp p (Y8 ..))) λq hq=>hp q (Y3 _ hq)
def UO{n:Nat}{ps:Ps}{i:Nat}(h:∀p∈ps,fQ n p.2):c9 n (fF n (ps.take i)):=KO _ λp hp=>h p (List.mem_of_mem_take hp)
def jW.other{C:Addr}{H:Hp}{g:Addr}{ls:List Int}(h:jW C H g ls){H':Hp}(s:aa H H'):jW C H' g ls:=by
 obtain⟨dx,l,e,i⟩:=h.ob;exact⟨dx,l,s _ _ e,s.ints i⟩
def Kp.trans{g:Addr}{H H1 H2:Hp}(a:Kp g H H1)(b:Kp g H1 H2):Kp g H H2:=λc o e n=>b c o (a c o e n) n
def Kp.of{g:Addr}{H H1:Hp}(a:aa H H1):Kp g H H1:=λc o e _=>a c o e
def Tl.kp{g:Addr}{H H':Hp}{l:Addr}{ps:Ps}(h:Tl H l ps)(k:Kp g H H'){C dx:Addr}{fs:List (Str×V)}(hg:H g=some (.ins C dx fs)):Tl H' l ps:=by
 refine⟨k _ _ h.is λe=>?_,λp hp=>k _ _ (h.tp p hp) λe=>?_⟩
 ·have:=h.is;rw[e,hg]at this;cases this
 ·have:=h.tp p hp;rw[e,hg]at this;cases this
def kD(ps:Ps)(i:Int):Option (Addr×List Int):=ps.foldl (λo p=>if i=p.2.getD 0 0 then some p else o) none
def YF{ps:Ps}{i:Int}{p:Addr×List Int}(h:kD ps i=some p):p∈ps:=by
 suffices∀(o:Option (Addr×List Int)),(ps.foldl (λo p=>if i=p.2.getD 0 0 then some p else o) o)=some p->p∈ps\/o=some p from(this none h).elim id λz=>nomatch z
 clear h
 induction ps with
 |nil=>intro o h;exact .inr h
 |cons q ps ih=>
  intro o h;rcases ih _ h with z|z
  ·exact .inl (Y3 _ z)
  ·replace z:(if i=q.2.getD 0 0 then some q else o)=some p:=z;by_cases e:i=q.2.getD 0 0
   ·rw[if_pos e]at z;cases z;exact .inl (Y8 ..)
   ·rw[if_neg e]at z;exact .inr z
def mk(r:List Int)(s:Int):Nat:=(r.getD (oC s) 0).toNat
def c5.mk{n:Nat}{r:List Int}(h:c5 n r)(s:Int):r.getD (oC s) 0=((mk r s:Nat):Int)/\mk r s<n:=by
 obtain⟨i,a,k,b,rfl,ha,hb⟩:=h;unfold My.mk oC;split
 ·exact⟨by show(a:Int)=_;simp,by show((a:Int)).toNat<n;simpa using ha⟩
 ·exact⟨by show(b:Int)=_;simp,by show((b:Int)).toNat<n;simpa using hb⟩
def c5.len{n:Nat}{r:List Int}(h:c5 n r):r.length=4:=by
 obtain⟨i,a,k,b,rfl,ha,hb⟩:=h
 rfl
def vY(r:List Int):Prop:=∃i j s:Int,r=[i,j,s]/\ -100<s/\s<100
def cE(l:List Int):Nat:=(l.map Int.toNat).sum
def Tt{f:Int->Int}:∀(l:List Int),(∀v∈l,(f v).toNat<=v.toNat)->cE (l.map f)<=cE l:=by
 intro l
 induction l with
 |nil=>intro _;exact Y2 _
 |cons a l ih=>
  intro h;have h1:=h a (Y8 ..);have h2:=ih λv hv=>h v (Y3 _ hv);simp only[cE,Zq,List.sum_cons]at *;omega
def Tu{f:Int->Int}:∀(l:List Int),(∀v∈l,(f v).toNat<=v.toNat)->(∃v∈l,(f v).toNat<v.toNat)->cE (l.map f)<cE l:=by
 intro l
 induction l with
 |nil=>intro _ h;obtain⟨_,h,_⟩:=h;cases h
 |cons a l ih=>
  intro h he;have h1:=h a (Y8 ..);have h3:=Tt l λv hv=>h v (Y3 _ hv);obtain⟨v,hv,aR⟩:=he;rcases Y4.mp hv with rfl|hv
  ·simp only[cE,Zq,List.sum_cons]at *;omega
  ·have h2:=ih (λv hv=>h v (Y3 _ hv)) ⟨v,hv,aR⟩;simp only[cE,Zq,List.sum_cons]at *;omega
def Bs{n:Nat}{l:List Int}(h:c9 n l){a b:Nat}(ha:a<n)(hb:b<n)(ne:l.getD a 0≠l.getD b 0):cE (jn l a b)<cE l:=by
 have m1:=getD_mem (l:=l) (a:=a) (by rw[h.len];exact ha);have m2:=getD_mem (l:=l) (a:=b) (by rw[h.len];exact hb);have h1:=h.bA _ m1;have h2:=h.bA _ m2;refine Tu l (λv hv=>by split<;>omega) ?_;by_cases hh:l.getD a 0<=l.getD b 0
 ·exact⟨_,m2,by rw[if_pos (by omega)];omega⟩
 ·exact⟨_,m1,by rw[if_pos (by omega)];omega⟩
def YG{n:Nat}{l:List Int}(h:c9 n l):cE l<=n*n:=by
 have:∀l:List Int,(∀v∈l,0<=v/\v<n)->cE l<=l.length*n:=by
  intro l
  induction l with
  |nil=>intro _;exact Zo _
  |cons a l ih=>
   intro h;have h1:=h a (Y8 ..);have h2:=ih λv hv=>h v (Y3 _ hv);simp only[cE,Zq,List.sum_cons,ZF,Nat.succ_mul]at *;omega
 have:=this l h.bA
 rwa [h.len]at this
structure cz(P:Program)(w:World)(K:PySem.W.Frag)(mg:Str->Option Value)(base:Heap)(C:Addr)(m:Str)(ps:List Str)(k:Nat)(sp:Sp) where
 f:Addr
 fd:FuncData
 ok:aB P w K mg base aM k f fd ps sp
 cl:eI K C
 mt:Meth K C m f
 bd:Binds K fd ps []
def cz.pe{X:Cx}{m:Str}{C:Addr}{ps:List Str}{k j:Nat}{sp:Sp}{o e:Expr}{es:List Expr}{ta:TE}{t:TA}{apos pos:Pos}{pl:Sem Bool}(R:cz X.prog X.w X.K X.mg X.base C m ps k sp)(hr:bL j X.A)(ho:PE X o ta)(ha:PA X (e::es) t)(hj:k<=j:=by decide)
  (he:starEach (e::es) X.env=(false,eval e X.env)::starEach es X.env:=by rfl)(bO:(backTo pos (starEach es X.env)).any (·.1)=false:=by rfl)
  (ht:eval (.Call (.Attribute o m apos) (e::es) [] pos) X.env=(do
   let ov<-eval o X.env
   standAt apos.atName
   let(f,first)<-holding [ov] (getMethod ov m pl)
   callWith pos f first (backTo pos (starEach (e::es) X.env)) (backToKw pos (keywordEach [] X.env))):=by rfl):
  PE X (.Call (.Attribute o m apos) (e::es) [] pos) (jI C m sp [] E0 ta t):=Ai ho R.cl R.mt R.ok (hr.mono hj) R.bd .nil vV ha he bO ht
structure kE(P:Program)(w:World)(K:PySem.W.Frag)(mg:Str->Option Value)(base:Heap)(C:Addr)(x:Str)(ps:List Str)(k:Nat)(sp:Sp) where
 f:Addr
 fd:FuncData
 ok:aB P w K mg base aM k f fd ps sp
 OU:Mk K C f
 pf:mg x=some (.ref C)
 bd:Binds K fd ps []
def kE.pe{X:Cx}{x:Str}{C:Addr}{ps:List Str}{k j:Nat}{sp:Sp}{e:Expr}{es:List Expr}{t:TA}{p pos:Pos}(R:kE X.prog X.w X.K X.mg X.base C x ps k sp)(hr:bL j X.A)(ha:PA X (e::es) t)(hg:Gl X x:=by rfl)(hj:k+1<=j:=by decide)
  (eJ:(x==("__debug__":Str))=false:=by decide)(he:starEach (e::es) X.env=(false,eval e X.env)::starEach es X.env:=by rfl)(bO:(backTo pos (starEach es X.env)).any (·.1)=false:=by rfl):
  PE X (.Call (.Name x p) (e::es) [] pos) (Nl C sp [] E0 t):=Yk R.OU R.ok (hr.mono hj) hg R.pf R.bd .nil vV ha eJ he bO
open PySem.SeqAt PyProof.Rows
def AZ{K:PySem.W.Frag}{H:Hp}{a:Addr}{xs:List V}{i:Int}{v:V}{Q:VK}(hq:H a=some (.lst xs))(e:jm xs i=some v)(h:Q v H):Wr (k9 K (.ref a) (.int i) H Q):=⟨⟨a,xs,i,v,rfl,rfl,af.of hq,e,h⟩⟩
def sF{H:Hp}{xs:List V}{Q:VK}(hl:xs.length<=1000)(h:∀(p:Addr) (H':Hp),H p=none->H' p=some (.lst xs)->aa H H'->Q (.ref p) H'):Wr (wB xs H Q):=
 ⟨⟨Z2 (bI (by omega)),λp hp=>h p _ hp aj ((aa.refl H).upd hp)⟩⟩
def cz.dO{X:Cx}{m:Str}{C:Addr}{ps:List Str}{k j:Nat}{sp:Sp}{o:Expr}{ta:TE}{apos pos:Pos}{pl:Sem Bool}(R:cz X.prog X.w X.K X.mg X.base C m ps k sp)(hr:bL j X.A)(ho:PE X o ta)(hj:k<=j:=by decide)
  (ht:eval (.Call (.Attribute o m apos) [] [] pos) X.env=(do
   let ov<-eval o X.env
   standAt apos.atName
   let(f,first)<-holding [ov] (getMethod ov m pl)
   callWith pos f first (backTo pos (starEach [] X.env)) (backToKw pos (keywordEach [] X.env))):=by rfl):
  PE X (.Call (.Attribute o m apos) [] [] pos) (jI C m sp [] E0 ta iI):=zJ ho R.cl R.mt R.ok (hr.mono hj) R.bd .nil vV ht
end My
namespace L2
open PySem PySem.Spec PyProof.Rows PySem.W
section
variable {prog:Program}{w:World}{κ:Type} [DecidableEq κ] {kn:HeapKind prog w κ}{A:Around}{E:Value->Shared->Prop}{s:Shared}
def DH(kn:HeapKind prog w κ)(h:Heap)(d:Addr)(xs:List (κ×Addr×Value))(n:Nat):Prop:=∃ob en,h.get? d=some ob/\ob.ExactDict/\ob.data=.dict en n/\en.toList=xs.map (entryOfKey kn)
def DH.ty{d:Addr}{xs:List (κ×Addr×Value)}{n:Nat}(x:DH kn s.heap d xs n):s.TypeIs (.ref d) "dict":=let⟨ob,_,e,c,_⟩:=x;⟨ob,e,c.1⟩
def DH.to{h h':Heap}{d:Addr}{xs:List (κ×Addr×Value)}{n:Nat}(x:DH kn h d xs n)(k:∀ob,h.get? d=some ob->h'.get? d=some ob):DH kn h' d xs n:=let⟨ob,en,e,r⟩:=x;⟨ob,en,k ob e,r⟩
def DH.lt{h:Heap}{d:Addr}{xs:List (κ×Addr×Value)}{n:Nat}(x:DH kn h d xs n):d<h.objs.size:=let⟨_,_,e,_⟩:=x;Zh e
def YH{d:Addr}{xs:List (κ×Addr×Value)}{n:Nat}{Q:Value->Shared->Prop}(ns:(d==sysModules)=false)(x:DH kn s.heap d xs n)
  (k:Q (.ref s.heap.objs.size) {s with heap:=s.heap.push {cls:=.type "dict_keyiterator",data:=.fields #[.ref d,.int 0 0,.int xs.length 0,.int n 0]}}):wpAny (model prog w) A (pyIter (.ref d)) Q E s:=by
 have ty:=x.ty;obtain⟨ob,en,eo,_,ed,el⟩:=x;have sz:en.size=xs.length:=size_of_entries el;refine wpAny_pyIter_slot ty PySem.F.slot_dict_iter (wpAny_call_entry PySem.F.slot_dict_iter ty PySem.F.entry_dict_iter ?_ (PySem.F.args_dict_iter_1 _));unfold Builtin.«dict.__iter__» Builtin.Dict.dictSlotNone;refine wpAny_bind (wpAny_bind (wpAny_notOrdered_dict ty ?_));refine ZV (α:=Value) (a:=.ref d) ?_;show wpAny _ _ (Builtin.Dict.showsAll d>>=λ_=>_) _ _ _;unfold Builtin.Dict.showsAll;rw[ns,if_neg Zj];refine wpAny_bind (ZV (wpAny_bind (wpAny_dictEntries eo ed (wpAny_bind (wpAny_dictEpoch eo ed (wpAny_bind (wpAny_newObj_type (ZV ⟨_,rfl,"dict_keyiterator",_,⟨_,Zp _ rfl,rfl⟩,PySem.F.slot_dict_keyiterator_next.lookup,?_⟩))))))));simpa[rawInt,sz]using k
def YI{it d:Addr}{xs:List (κ×Addr×Value)}{i n:Nat}{Q:Option Value->Shared->Prop}(hi:s.heap.IsKeyIter it d i xs.length n)(x:DH kn s.heap d xs n)(p:κ×Addr×Value)(hp:xs[i]?=some p)
  (k:∀h',h'.IsKeyIter it d (i+1) xs.length n->Heap.SameBut it s.heap h'->Q (some (.ref p.2.1)) {s with heap:=h'}):wpAny (model prog w) A (pyNext (.ref it)) Q E s:=by
 have tI:=hi.typeIs;obtain⟨oi,ei,ci,di⟩:=id hi;obtain⟨ob,en,eo,_,ed,el⟩:=x;have sz:en.size=xs.length:=size_of_entries el;have at_:en[i]?=some ⟨kn.hash p.1,.ref p.2.1,p.2.2⟩:=by rw[entry_at el,hp];rfl
 unfold pyNext;refine wpAny_bind (wpAny_attempt (wpAny_callSpecial?_slot (name:=Str.ofString "__next__") tI PySem.F.slot_dict_keyiterator_next (wpAny_call_entry PySem.F.slot_dict_keyiterator_next tI PySem.F.entry_dict_keyiterator_next ?_ (PySem.F.args_dict_keyiterator_next_1 _))));refine wpAny_bind (ZV (wpAny_bind (wpAny_bind ?_)));refine wpAny_bind (wpAny_typeNameOfWhole_keyiter tI (ZV (wpAny_bind (wpAny_fieldsOf ei di ?_))));simp only[show Builtin.Dict_items.ownsTuple "dict_keyiterator"=false from by decide,Bool.false_eq_true,if_false];have nn:¬((Value.ref d==Value.none)=true):=Zj;show wpAny _ _ (ite ((Value.ref d==Value.none)=true) _ _) _ _ _;rw[if_neg nn];refine wpAny_bind (ZV (wpAny_bind (wpAny_dictEntries eo ed ?_)));rw[sz,if_neg (by simp)];refine wpAny_bind (ZV (wpAny_bind (wpAny_dictEpoch eo ed ?_)));rw[if_neg (by simp)];refine ZV ?_;simp only[show¬((i:Int)<0)from by omega,if_false,Y9,at_];refine wpAny_bind (wpAny_bind (wpAny_typeNameOfWhole_keyiter tI (ZV (wpAny_bind (wpAny_isOneOf_keyiter tI ?_)))));refine wpAny_bind (m:=setField (.ref it) 1 (rawInt ((i:Int)+1))) (wpAny_setField ei di (by simp) ?_)
 have g7:(s.heap.update it (Obj.mapFields λvs=>vs.setIfInBounds 1 (rawInt ((i:Int)+1)))).IsKeyIter it d (i+1) xs.length n:=by
  refine⟨_,Heap.get?_update_self _ ei (Obj.isFreed_of_fields (Obj.data_mapFields di _)),(Obj.cls_mapFields ..).trans ci,?_⟩;rw[Obj.data_mapFields di];simp[rawInt]
 refine wpAny_bind (wpAny_holding (wpAny_bind (wpAny_isOneOf_keyiter (s:={s with heap:=s.heap.update it (Obj.mapFields λvs=>vs.setIfInBounds 1 (rawInt ((i:Int)+1)))}) g7.typeIs ?_)));exact ZV (ZV ⟨_,rfl,ZV (k _ g7 (Heap.SameBut.update ..))⟩)
def abx{it d:Addr}{xs:List (κ×Addr×Value)}{i n:Nat}{Q:Option Value->Shared->Prop}(hh:A.handled=none)(hi:s.heap.IsKeyIter it d i xs.length n)(x:DH kn s.heap d xs n)(hp:xs.length<=i)
  (k:∀h',Heap.ExtBut it s.heap h'->Q none {s with heap:=h'}):wpAny (model prog w) A (pyNext (.ref it)) Q E s:=by
 have tI:=hi.typeIs;obtain⟨oi,ei,ci,di⟩:=id hi;obtain⟨ob,en,eo,_,ed,el⟩:=x;have sz:en.size=xs.length:=size_of_entries el;have at_:en[i]?=none:=Array.getElem?_eq_none (by omega)
 unfold pyNext;refine wpAny_bind (wpAny_attempt (wpAny_callSpecial?_slot (name:=Str.ofString "__next__") tI PySem.F.slot_dict_keyiterator_next (wpAny_call_entry PySem.F.slot_dict_keyiterator_next tI PySem.F.entry_dict_keyiterator_next ?_ (PySem.F.args_dict_keyiterator_next_1 _))));refine wpAny_bind (ZV (wpAny_bind (wpAny_bind ?_)));refine wpAny_bind (wpAny_typeNameOfWhole_keyiter tI (ZV (wpAny_bind (wpAny_fieldsOf ei di ?_))));simp only[show Builtin.Dict_items.ownsTuple "dict_keyiterator"=false from by decide,Bool.false_eq_true,if_false];have nn:¬((Value.ref d==Value.none)=true):=Zj;show wpAny _ _ (ite ((Value.ref d==Value.none)=true) _ _) _ _ _;rw[if_neg nn];refine wpAny_bind (ZV (wpAny_bind (wpAny_dictEntries eo ed ?_)));rw[sz,if_neg (by simp)];refine wpAny_bind (ZV (wpAny_bind (wpAny_dictEpoch eo ed ?_)));rw[if_neg (by simp)];refine ZV ?_;simp only[show¬((i:Int)<0)from by omega,if_false,Y9,at_];refine wpAny_bind (wpAny_bind (wpAny_typeNameOfWhole_keyiter tI (ZV ?_)));refine wpAny_bind (m:=setField (.ref it) 0 .none) (wpAny_setField ei di (by simp) ?_);refine wpAny_bind (m:=newExc (.type "StopIteration") []) ?_;simp only[newExc,newTuple];refine wpAny_bind (wpAny_newObj_type (wpAny_bind (m:=firstArgMember _ _) (wpAny_of_eq (a:=Value.none) (by first|rfl|(simp only[firstArgMember];rfl)) (wpAny_newObj_type ?_ (by size_fits)))) (by size_fits));simp only[raiseNew];refine wpAny_bind (wpAny_handled ?_);rw[show A.in1.handled=none from hh];refine wpAny_bind (ZV (wpAny_throw ?_));refine wpAny_bind (wpAny_isInstance (T:="StopIteration") (b:=true) ⟨_,Zp _ rfl,rfl⟩ isSubtype_stop (ZV ?_));exact k _ (((Heap.SameBut.update ..).extBut.push _).push _)
def WJ(hh:A.handled=none)(it d:Addr)(ne:d≠it)(xs:List (κ×Addr×Value))(n:Nat):
  Walks prog w A it [it,d] [it] xs.length (λi v=>∃p,xs[i]?=some p/\v=.ref p.2.1) (λi h=>h.IsKeyIter it d i xs.length n/\DH kn h d xs n) where
 sub:=λb hb=>Y4.mpr (.inl (Y1.mp hb))
 frame:=λ_ _ _ st k=>⟨st.1.at λob e=>k it (Y8 ..) ob e,st.2.to λob e=>k d (Y3 _ (Y8 ..)) ob e⟩
 item:=λi s Q E lt st q=>by
  refine YI st.1 st.2 xs[i] (Zc lt) λh' cA sb=>?_;exact q _ h' s.toks ⟨_,Zc lt,rfl⟩ ⟨cA,st.2.to λob e=>sb.extBut d ob ne e⟩ λb ob nb e=>sb.extBut b ob (λz=>nb (z▸List.mem_singleton_self _)) e
 done:=λs Q E st q=>abx hh st.1 st.2 (Y2 _) λh' ex=>q h' s.toks λb ob nb e=>ex b ob (λz=>nb (z▸List.mem_singleton_self _)) e
 self:=λ_ _ _ _ st q=>wpAny_pyIter_keyiter st.1 q
def aby{d:Addr}{xs:List (κ×Addr×Value)}{n:Nat}(ns:(d==sysModules)=false):KdlSrc prog w "dict" d d xs.length (λi v=>∃p,xs[i]?=some p/\v=.ref p.2.1) (λh=>DH kn h d xs n) where
 type:=λ_ x=>x.ty
 there:=λ_ x=>⟨x.lt,x.lt⟩
 keep:=λ_ _ x k=>x.to λob e=>k d (.inl rfl) ob e
 notList:=by decide
 notTuple:=by decide
 hint:=λ_ _ _ _ x q=>kdl_hint_dict x.ty q
 iter:=λ_ _ hh x=>⟨_,_,(λ_ _ q=>YH ns x q),WJ hh _ d (Zm x.lt) xs n,⟨⟨_,Zp _ rfl,rfl,rfl⟩,x.to λob e=>Y7 _ e⟩⟩
end
section
variable {X:Cx}
inductive MA(xs:List V)(H:Hp)(Q:VK):Prop
 |mk (d:Addr) (kvs:List (List Key×V)) (_:xs=[.ref d]) (_:H d=some (.dT kvs)) (_:∀(ts:List Addr) (l:Addr),H l=none->ts.length=kvs.length->(∀(i:Nat) (t:Addr) (p:List Key×V),ts[i]?=some t->kvs[i]?=some p->H t=some (.tup (p.1.map kV)))->Q (.ref l) (upd H l (.lst (ts.map V.ref)))):MA xs H Q
def Tv(hc:X.calm=true):fS X (.type "list") (λxs H Q=>Wr (MA xs H Q)):=by
 intro pins s σ H xs us Q I r h;obtain⟨d,kvs,rfl,hd,q⟩:=h.get;obtain⟨u,rfl,ru⟩:=r.one;cases ru;obtain⟨z,ns,es,kt,ob,en,ep,e1,e2,e3,e4,e5,e6⟩:=Bo I.ao hd;have lk:kvs.length=es.length:=Paired.length kt;refine kdl_call (aby (kn:=tupleKind (cJ X.prog X.w)) (xs:=es) (n:=ep) ns) (I.ok.hd hc) ⟨ob,en,e1,e2,e3,e4⟩ (by rw[<-lk];exact z) λh' tk acc c hk hS lu=>?_;refine⟨.ref s.heap.objs.size,_,I.laid (t':=tk) (o:=.lst ((es.map λp=>p.2.1).map V.ref)) hk (Y2 _) ?_,rfl,q (es.map λp=>p.2.1) _ (I.ao.fresh (Y2 _)) (by rw[Y0];exact lk.symm) λi t p ht hp=>?_⟩
 ·refine⟨by rw[Y0,Y0, <-lk];exact z,acc.toList,c,?_,by simpa using hS⟩
  have ha:acc.toList=es.map λp=>Value.ref p.2.1:=by
   apply List.ext_getElem?;intro i;rw[Ze,Array.getElem?_toList];by_cases hi:i<es.length
   ·obtain⟨v,hv⟩:∃v,acc[i]?=some v:=⟨acc[i]'(by rw[lu.1];exact hi),Array.getElem?_eq_getElem _⟩;obtain⟨p,hp,rfl⟩:=lu.2 i v hv;rw[hv,hp];rfl
   ·rw[Array.getElem?_eq_none (by rw[lu.1];omega),ZI (by omega)];rfl
  rw[ha]
  have gen:∀l:List (List Key×Addr×Value),Vals ((l.map λp=>p.2.1).map V.ref) (l.map λp=>Value.ref p.2.1):=by
   intro l
   induction l with
   |nil=>exact .nil
   |cons p l ih=>exact .cons rfl ih
  exact gen es
 ·have gen:∀{a:List (List Key×V)}{b:List (List Key×Addr×Value)},KT H a b->∀(i:Nat) (t:Addr) (p:List Key×V),(b.map λp=>p.2.1)[i]?=some t->a[i]?=some p->H t=some (.tup (p.1.map kV)):=by
   intro a b kt
   induction kt with
   |nil=>intro i t p _ hp;simp at hp
   |@cons x y _ _ CK _ ih=>
    intro i t p ht hp;cases i with
    |zero=>
     have ht:y.2.1=t:=by simpa using ht
     have hp:x=p:=by simpa using hp
     subst ht hp;exact CK.2.1
    |succ i=>exact ih i t p (by simpa using ht) (by simpa using hp)
  exact gen kt i t p ht hp
end
end L2
namespace My
open PySem L2
structure FS where
 l:List Int
 D:Nat->List (List Key×V)
 W:List (Addr×Addr×Int)
 ss:List (List Int)
def key(k s:Int):List Key:=[.inl k,.inl s]
def cy(st:FS)(m:Nat)(k s:Int)(a:Addr):FS:=
 match bq (st.D m) (key k s)with
 |some (.ref b)=>{st with W:=st.W++[(b,a,s)]}
 |some _=>st
 |none=>{st with D:=λi=>if i=m then putK (st.D m) (key k s) (.ref a)else st.D i}
def at_(l:List Int)(m:Nat):Nat:=(l.getD m 0).toNat
def gc(rd:Addr->List Int)(st:FS)(a:Addr):FS:=
 let dZ:=cy st (at_ st.l (mk (rd a) 1)) ((rd a).getD 2 0) 1 a
 cy dZ (at_ dZ.l (mk (rd a) (-1))) ((rd a).getD 2 0) (-1) a
def dS(low:Nat)(s:FS)(e:List Key×V):FS:=
 match e.1,e.2 with
 |[.inl k,.inl sd],.ref r=>cy s low k sd r
 |_,_=>s
def cQ(l:List Int)(a b:Nat):Nat:=(min (l.getD a 0) (l.getD b 0)).toNat
def bV(l:List Int)(a b:Nat):Nat:=(max (l.getD a 0) (l.getD b 0)).toNat
def mP(st:FS)(a b:Nat):FS:=(st.D (bV st.l a b)).foldl (dS (cQ st.l a b)) {st with l:=jn st.l (cQ st.l a b) (bV st.l a b)}
def gB(rd:Addr->List Int)(st:FS)(x y:Addr)(s:Int):FS:=
 if st.l.getD (mk (rd x) (-s)) 0=st.l.getD (mk (rd y) (-s)) 0 then st
 else mP {st with ss:=st.ss++[[(rd x).getD 0 0,(rd y).getD 0 0,s]]} (mk (rd x) (-s)) (mk (rd y) (-s))
def oE(st:FS)(m:Nat)(k s:Int)(a:Addr):(cy st m k s a).l=st.l:=by
 unfold cy;split<;>rfl
def Ao(st:FS)(m:Nat)(k s:Int)(a:Addr):(cy st m k s a).ss=st.ss:=by
 unfold cy;split<;>rfl
structure Rows(n:Nat)(rows:List Addr)(rd:Addr->List Int):Prop where
 row:∀r∈rows,c5 n (rd r)
 kind:∀r∈rows,1<=(rd r).getD 2 0/\(rd r).getD 2 0<=5
def gH(s:Int):Prop:=s=1\/s= -1
structure vJ(rows:List Addr)(rd:Addr->List Int)(l:List Int)(m:Nat)(e:List Key×V):Prop where
 is:∃(s:Int) (r:Addr),e=(key ((rd r).getD 2 0) s,.ref r)/\r∈rows/\gH s/\l.getD (mk (rd r) s) 0=l.getD m 0
structure A0(rows:List Addr)(rd:Addr->List Int)(l:List Int)(e:Addr×Addr×Int):Prop where
 x:e.1∈rows
 y:e.2.1∈rows
 s:gH e.2.2
 k:(rd e.1).getD 2 0=(rd e.2.1).getD 2 0
 n:l.getD (mk (rd e.1) e.2.2) 0=l.getD (mk (rd e.2.1) e.2.2) 0
structure bB(n:Nat)(rows:List Addr)(rd:Addr->List Int)(st:FS):Prop where
 ax:c9 n st.l
 g8:∀a,a<n->st.l.getD (at_ st.l a) 0=st.l.getD a 0
 iQ:∀m,m<n->∀e∈st.D m,vJ rows rd st.l m e
 nd:∀m,m<n->((st.D m).map (·.1)).Nodup
 wt:∀e∈st.W,A0 rows rd st.l e
def km{n:Nat}{l:List Int}(L:c9 n l){m:Nat}(h:m<n):at_ l m<n/\(at_ l m:Int)=l.getD m 0:=by
 have:=L.bA _ (getD_mem (a:=m) (by rw[L.len];exact h));unfold at_
 omega
def KP:List (List Key):=[key 1 1,key 1 (-1),key 2 1,key 2 (-1),key 3 1,key 3 (-1),key 4 1,key 4 (-1),key 5 1,key 5 (-1)]
def HQ{α:Type} [DecidableEq α]:∀(a b:List α),a.Nodup->(∀x∈a,x∈b)->a.length<=b.length
 |[],b,_,_=>Zo _
 |x::a,b,nd,h=>by
  have hx:=h x (Y8 ..)
  have:=HQ a (b.erase x) nd.tail λy hy=>by
   have kF:y≠x:=λe=>by
    have:=(ZG.mp nd).1;rw[e]at hy;exact this hy
   exact(List.mem_erase_of_ne kF).mpr (h y (Y3 _ hy))
  rw[List.length_erase_of_mem hx]at this;have:=List.length_pos_of_mem hx;simp only[ZF];omega
def bB.Ca{n:Nat}{rows:List Addr}{rd:Addr->List Int}{st:FS}(R:Rows n rows rd)(h:bB n rows rd st){m:Nat}(hm:m<n):(st.D m).length<=10:=by
 have:=HQ ((st.D m).map (·.1)) KP (h.nd m hm) λk hk=>by
  obtain⟨e,he,rfl⟩:=Zg.mp hk;obtain⟨s,r,rfl,hr,hs,_⟩:=(h.iQ m hm e he).is;obtain⟨k1,k5⟩:=R.kind r hr;generalize(rd r).getD 2 0=k at k1 k5;have:k=1\/k=2\/k=3\/k=4\/k=5:=by omega
  rcases hs with rfl|rfl<;>rcases this with rfl|rfl|rfl|rfl|rfl<;>simp[KP,key]
 rw[Y0]at this;exact this
def WK{kvs:List (List Key×V)}{k:List Key}{v:V}{e:List Key×V}(h:bq kvs k=none)(he:e∈putK kvs k v):e∈kvs\/e=(k,v):=by
 rw[sk v h]at he;rcases Y6.mp he with z|z
 ·exact .inl z
 ·exact .inr (Y1.mp z)
def so:∀{kvs:List (List Key×V)}{k:List Key}{v:V},bq kvs k=some v->(k,v)∈kvs
 |[],k,v,h=>by cases h
 |p::r,k,v,h=>by
  by_cases e:p.1=k
  ·rw[gO e]at h;cases h;rw[<-e];exact Y8 ..
  ·rw[gP e]at h;exact Y3 _ (so h)
def GK:∀{kvs:List (List Key×V)}{e:List Key×V},(kvs.map (·.1)).Nodup->e∈kvs->bq kvs e.1=some e.2
 |[],e,_,h=>by cases h
 |p::r,e,nd,h=>by
  rcases Y4.mp h with rfl|h
  ·exact gO rfl
  ·have:¬p.1=e.1:=λz=>by
    have:¬p.1∈r.map (·.1):=(ZG.mp nd).1;rw[z]at this;exact this (Zg.mpr ⟨e,h,rfl⟩)
   rw[gP this];exact GK (ZG.mp nd).2 h
def bB.put{n:Nat}{rows:List Addr}{rd:Addr->List Int}{st:FS}(h:bB n rows rd st){m:Nat}(hm:m<n){a:Addr}{s:Int}(ha:a∈rows)(hs:gH s)(hl:st.l.getD (My.mk (rd a) s) 0=st.l.getD m 0):
  bB n rows rd (cy st m ((rd a).getD 2 0) s a):=by
 unfold cy;cases e:bq (st.D m) (key ((rd a).getD 2 0) s)with
 |none=>
  refine⟨h.ax,h.g8,λi hi x hx=>?_,λi hi=>?_,h.wt⟩
  ·have hx:x∈(if i=m then putK (st.D m) (key ((rd a).getD 2 0) s) (.ref a)else st.D i):=hx;by_cases jX:i=m
   ·rw[if_pos jX]at hx;rcases WK e hx with z|z
    ·exact jX▸h.iQ m hm x z
    ·exact⟨s,a,z,ha,hs,by rw[jX];exact hl⟩
   ·rw[if_neg jX]at hx;exact h.iQ i hi x hx
  ·show((if i=m then putK (st.D m) (key ((rd a).getD 2 0) s) (.ref a)else st.D i).map (·.1)).Nodup;by_cases jX:i=m
   ·rw[if_pos jX];exact YE _ (h.nd m hm) e
   ·rw[if_neg jX];exact h.nd i hi
 |some v=>
  obtain⟨s',r,er,hr,hs',hlr⟩:=(h.iQ m hm _ (so e)).is;have e1:key ((rd a).getD 2 0) s=key ((rd r).getD 2 0) s':=(Prod.mk.inj er).1;obtain rfl:v=.ref r:=(Prod.mk.inj er).2;have e2:(rd a).getD 2 0=(rd r).getD 2 0:=Sum.inl.inj (List.cons.inj e1).1;have e3:s=s':=Sum.inl.inj (List.cons.inj (List.cons.inj e1).2).1;subst e3;refine⟨h.ax,h.g8,h.iQ,h.nd,λx hx=>?_⟩;rcases Y6.mp hx with z|z
  ·exact h.wt x z
  ·obtain rfl:=Y1.mp z;exact⟨hr,ha,hs,e2.symm,hlr.trans hl.symm⟩
def vK(st:FS)(m:Nat)(k s:Int)(a:Addr):(cy st m k s a).W.length<=st.W.length+1:=by
 unfold cy;split
 ·simp
 ·simp
 ·simp
def sH{l:List Int}{a b:Nat}{x y:Nat}(hx:x<l.length)(hy:y<l.length)(h:l.getD x 0=l.getD y 0):(jn l a b).getD x 0=(jn l a b).getD y 0:=by
 unfold jn;simp only[List.getD,Ze,Zc hx,Zc hy,Option.map_some,Option.getD_some]at h⊢;rw[h]
def kX{l:List Int}{a b x:Nat}(hx:x<l.length):(jn l a b).getD x 0=if l.getD x 0=max (l.getD a 0) (l.getD b 0)then min (l.getD a 0) (l.getD b 0)else l.getD x 0:=by
 unfold jn;simp only[List.getD,Ze,Zc hx,Option.map_some,Option.getD_some]
 rfl
def qi{n:Nat}{l:List Int}(L:c9 n l){a b:Nat}(ha:a<n)(hb:b<n):cQ l a b<n/\bV l a b<n/\(cQ l a b:Int)=min (l.getD a 0) (l.getD b 0)/\(bV l a b:Int)=max (l.getD a 0) (l.getD b 0):=by
 have h1:=L.bA _ (getD_mem (a:=a) (by rw[L.len];exact ha));have h2:=L.bA _ (getD_mem (a:=b) (by rw[L.len];exact hb));unfold cQ bV;omega
def KQ{n:Nat}{l:List Int}(L:c9 n l)(I:∀a,a<n->l.getD (at_ l a) 0=l.getD a 0){a b:Nat}(ha:a<n)(hb:b<n):l.getD (cQ l a b) 0=cQ l a b/\l.getD (bV l a b) 0=bV l a b:=by
 obtain⟨_,_,e1,e2⟩:=qi L ha hb;have i1:=I a ha;have i2:=I b hb;have a1:=(km L ha).2;have a2:=(km L hb).2
 have:(cQ l a b=at_ l a/\bV l a b=at_ l b)\/(cQ l a b=at_ l b/\bV l a b=at_ l a):=by
  by_cases h:l.getD a 0<=l.getD b 0
  ·left;omega
  ·right;omega
 rcases this with⟨x,y⟩|⟨x,y⟩
 ·rw[x,y,i1,i2];omega
 ·rw[x,y,i1,i2];omega
def MB{n:Nat}{l:List Int}(L:c9 n l)(I:∀a,a<n->l.getD (at_ l a) 0=l.getD a 0){a b:Nat}(ha:a<n)(hb:b<n):jn l (cQ l a b) (bV l a b)=jn l a b:=by
 obtain⟨e1,e2⟩:=KQ L I ha hb;obtain⟨_,_,e3,e4⟩:=qi L ha hb;unfold jn;rw[e1,e2,e3,e4];refine Z1 λv _=>?_;have m1:max (min (l.getD a 0) (l.getD b 0)) (max (l.getD a 0) (l.getD b 0))=max (l.getD a 0) (l.getD b 0):=by omega
 have m2:min (min (l.getD a 0) (l.getD b 0)) (max (l.getD a 0) (l.getD b 0))=min (l.getD a 0) (l.getD b 0):=by omega
 rw[m1,m2]
def A1{n:Nat}{l:List Int}(L:c9 n l)(I:∀a,a<n->l.getD (at_ l a) 0=l.getD a 0){a b:Nat}(ha:a<n)(hb:b<n):∀x,x<n->(jn l a b).getD (at_ (jn l a b) x) 0=(jn l a b).getD x 0:=by
 intro x hx;have Lj:=L.jn ha hb;have xm:x<l.length:=by rw[L.len];exact hx
 have ex:=kX (l:=l) (a:=a) (b:=b) xm;obtain⟨lo,hi,e1,e2⟩:=qi L ha hb;obtain⟨q1,q2⟩:=KQ L I ha hb;by_cases h:l.getD x 0=max (l.getD a 0) (l.getD b 0)
 ·rw[if_pos h]at ex;have:at_ (jn l a b) x=cQ l a b:=by unfold at_;rw[ex];rfl
  rw[this,kX (by rw[L.len];exact lo),q1,e1,ex];split
  ·rfl
  ·rfl
 ·rw[if_neg h]at ex;have:at_ (jn l a b) x=at_ l x:=by unfold at_;rw[ex]
  rw[this,kX (by rw[L.len];exact(km L hx).1),I x hx,if_neg h,ex]
def bB.join{n:Nat}{rows:List Addr}{rd:Addr->List Int}{st:FS}(R:Rows n rows rd)(h:bB n rows rd st){a b:Nat}(ha:a<n)(hb:b<n):bB n rows rd {st with l:=jn st.l a b}:=by
 have ll:=h.ax.len;refine⟨h.ax.jn ha hb,A1 h.ax h.g8 ha hb,λm hm e he=>?_,h.nd,λe he=>?_⟩
 ·obtain⟨s,r,er,hr,hs,hl⟩:=(h.iQ m hm e he).is;exact⟨s,r,er,hr,hs,sH (by rw[ll];exact((R.row r hr).mk s).2) (by rw[ll];exact hm) hl⟩
 ·obtain⟨x,y,s,k,nn⟩:=h.wt e he;exact⟨x,y,s,k,sH (by rw[ll];exact((R.row _ x).mk _).2) (by rw[ll];exact((R.row _ y).mk _).2) nn⟩
def abz(st:FS){m j:Nat}(k s:Int)(a:Addr)(h:j≠m):(cy st m k s a).D j=st.D j:=by
 unfold cy;split
 ·rfl
 ·rfl
 ·show(if j=m then _ else st.D j)=_;rw[if_neg h]
def abA(st:FS){m j:Nat}(e:List Key×V)(h:j≠m):(dS m st e).D j=st.D j:=by
 unfold dS;split
 ·exact abz st _ _ _ h
 ·rfl
def KR{n:Nat}{rows:List Addr}{rd:Addr->List Int}{low:Nat}(wF:low<n):∀(es:List (List Key×V)) (st:FS),bB n rows rd st->(∀e∈es,vJ rows rd st.l low e)->
  bB n rows rd (es.foldl (dS low) st)/\(es.foldl (dS low) st).l=st.l/\(es.foldl (dS low) st).ss=st.ss/\(es.foldl (dS low) st).W.length<=st.W.length+es.length:=by
 intro es
 induction es with
 |nil=>intro st h _;exact⟨h,rfl,rfl,Y2 _⟩
 |cons e es ih=>
  intro st h he;obtain⟨s,r,er,hr,hs,hl⟩:=(he e (Y8 ..)).is;subst er;have h1:bB n rows rd (dS low st (key ((rd r).getD 2 0) s,.ref r)):=h.put wF hr hs hl;have l1:(dS low st (key ((rd r).getD 2 0) s,.ref r)).l=st.l:=oE ..;have s1:(dS low st (key ((rd r).getD 2 0) s,.ref r)).ss=st.ss:=Ao ..;have w1:(dS low st (key ((rd r).getD 2 0) s,.ref r)).W.length<=st.W.length+1:=vK ..;obtain⟨a1,a2,a3,a4⟩:=ih _ h1 (λe' h'=>by rw[l1];exact he e' (Y3 _ h'));refine⟨a1,a2.trans l1,a3.trans s1,?_⟩;simp only[List.foldl_cons,ZF];omega
def rZ{n:Nat}{l:List Int}(L:c9 n l){a b:Nat}(ha:a<n)(hb:b<n):(jn l a b).getD a 0=(jn l a b).getD b 0:=by
 rw[kX (by rw[L.len];exact ha),kX (by rw[L.len];exact hb)];by_cases h:l.getD a 0<=l.getD b 0
 ·have e:max (l.getD a 0) (l.getD b 0)=l.getD b 0:=by omega
  have e2:min (l.getD a 0) (l.getD b 0)=l.getD a 0:=by omega
  rw[e,e2,if_pos rfl];split<;>rfl
 ·have e:max (l.getD a 0) (l.getD b 0)=l.getD a 0:=by omega
  have e2:min (l.getD a 0) (l.getD b 0)=l.getD b 0:=by omega
  rw[e,e2,if_pos rfl];split<;>rfl
def bB.merge{n:Nat}{rows:List Addr}{rd:Addr->List Int}{st:FS}(R:Rows n rows rd)(h:bB n rows rd st){a b:Nat}(ha:a<n)(hb:b<n):
  bB n rows rd (mP st a b)/\(mP st a b).l=jn st.l a b/\(mP st a b).ss=st.ss/\(mP st a b).W.length<=st.W.length+10:=by
 obtain⟨lo,hi,_,_⟩:=qi h.ax ha hb;have hj:=h.join R lo hi
 obtain⟨a1,a2,a3,a4⟩:=KR lo (st.D (bV st.l a b)) _ hj λe he=>by
  obtain⟨s,r,er,hr,hs,hl⟩:=(hj.iQ _ hi e he).is;exact⟨s,r,er,hr,hs,hl.trans (rZ h.ax lo hi).symm⟩
 refine⟨a1,a2.trans (MB h.ax h.g8 ha hb),a3,ZQ a4 (Nat.add_le_add_left (h.Ca R hi) _)⟩
structure FA where
 dx:Addr
 g:Addr
 ld:Addr
 lw:Addr
 lx:Addr
 ds:List Addr
def ff(d:FA):List (Str×V):=[("groups",.ref d.g),("doors",.ref d.ld),("waiting",.ref d.lw),("steps",.ref d.lx)]
structure bU(CF CG:Addr)(H0 H:Hp)(f:Addr)(d:FA)(n:Nat)(st:FS):Prop where
 ob:H f=some (.ins CF d.dx (ff d))
 gr:jW CG H d.g st.l
 dl:H d.ld=some (.lst (d.ds.map V.ref))
 dn:d.ds.length=n
 du:d.ds.Nodup
 dd:∀m x,d.ds[m]?=some x->H x=some (.dT (st.D m))
 wl:∃wa:List Addr,H d.lw=some (.lst (wa.map V.ref))/\wa.length=st.W.length/\∀(i:Nat) (t:Addr) (e:Addr×Addr×Int),wa[i]?=some t->st.W[i]?=some e->H t=some (.tup [.ref e.1,.ref e.2.1,.int e.2.2])
 sl:∃sp:Ps,Tl H d.lx sp/\sp.map (·.2)=st.ss
 n1:d.lw≠d.lx
 n2:d.lw≠d.ld
 n3:d.lx≠d.ld
 f0:H0 f=none
 f1:H0 d.g=none
 f2:H0 d.lw=none
 f3:H0 d.lx=none
 f4:∀x∈d.ds,H0 x=none
 sa:aa H0 H
def Kx(d:FA)(H H':Hp):Prop:=∀b o,H b=some o->b≠d.lw->b≠d.lx->b≠d.g->b∉d.ds->H' b=some o
def Kx.trans{d:FA}{H H1 H2:Hp}(a:Kx d H H1)(b:Kx d H1 H2):Kx d H H2:=λc o e n1 n2 n3 n4=>b c o (a c o e n1 n2 n3 n4) n1 n2 n3 n4
def Kx.refl{d:FA}{H:Hp}:Kx d H H:=λc o e _ _ _ _=>e
def Kx.of{d:FA}{H H':Hp}(s:aa H H'):Kx d H H':=λc o e _ _ _ _=>s c o e
def bU.tup{CF CG:Addr}{H0 H H':Hp}{f:Addr}{d:FA}{n:Nat}{st:FS}(F:bU CF CG H0 H f d n st)(k:Kx d H H'){b:Addr}{xs:List V}(h:H b=some (.tup xs)):H' b=some (.tup xs):=by
 obtain⟨wa,w1,_⟩:=F.wl;obtain⟨sp,t1,_⟩:=F.sl;obtain⟨dx,gl,g1,_⟩:=F.gr.ob;refine k b _ h (λe=>?_) (λe=>?_) (λe=>?_) (λe=>?_)
 ·rw[e,w1]at h;cases h
 ·rw[e,t1.is]at h;cases h
 ·rw[e,g1]at h;cases h
 ·obtain⟨m,hm,e2⟩:=ZD e;have:=F.dd m b (by rw[Zc hm,e2]);rw[this]at h;cases h
structure oQ(K:PySem.W.Frag)(mg:Str->Option Value)(C:Addr):Prop where
 cl:eI K C
 nG:NoAttr K C "groups"
 nD:NoAttr K C "doors"
 nW:NoAttr K C "waiting"
 nS:NoAttr K C "steps"
 mgC:mg "Fold"=some (.ref C)
def mX(d:FA):(ff d).lookup ("groups":Str)=some (.ref d.g):=rfl
def Cb(d:FA):(ff d).lookup ("doors":Str)=some (.ref d.ld):=rfl
def Cd(d:FA):(ff d).lookup ("waiting":Str)=some (.ref d.lw):=rfl
def Oa(d:FA):(ff d).lookup ("steps":Str)=some (.ref d.lx):=rfl
def MC(d:FA):(ff d).lookup ("put":Str)=none:=rfl
def abC(d:FA):(ff d).lookup ("lay":Str)=none:=rfl
def WL(d:FA):(ff d).lookup ("merge":Str)=none:=rfl
def UP(d:FA):(ff d).lookup ("settle":Str)=none:=rfl
def bU.same{CF CG:Addr}{H0 H H':Hp}{f:Addr}{d:FA}{n:Nat}{st:FS}(F:bU CF CG H0 H f d n st)(s:aa H H'):bU CF CG H0 H' f d n st:=by
 obtain⟨wa,w1,w2,w3⟩:=F.wl;obtain⟨sp,t1,t2⟩:=F.sl;exact⟨s _ _ F.ob,F.gr.other s,s _ _ F.dl,F.dn,F.du,λm x e=>s _ _ (F.dd m x e),⟨wa,s _ _ w1,w2,λi t e h1 h2=>s _ _ (w3 i t e h1 h2)⟩,⟨sp,t1.same s,t2⟩,F.n1,F.n2,F.n3,F.f0,F.f1,F.f2,F.f3,F.f4,F.sa.trans s⟩
def bU.acP{CF CG:Addr}{H0 H H':Hp}{f:Addr}{d:FA}{n:Nat}{st:FS}{l':List Int}(F:bU CF CG H0 H f d n st)(k:Kp d.g H H')(g:jW CG H' d.g l')(nf:f≠d.g):bU CF CG H0 H' f d n {st with l:=l'}:=by
 obtain⟨wa,w1,w2,w3⟩:=F.wl;obtain⟨sp,t1,t2⟩:=F.sl;obtain⟨dx,gl,g1,_⟩:=F.gr.ob
 have ne:∀{b:Addr}{o:HO},H b=some o->(∀C x fs,o≠.ins C x fs)->H' b=some o:=λ{b o} e hn=>k b o e λz=>by
  rw[z,g1]at e;exact hn _ _ _ (Zf e).symm
 refine⟨k _ _ F.ob nf,g,ne F.dl (λ_ _ _ z=>nomatch z),F.dn,F.du,λm x e=>ne (F.dd m x e) (λ_ _ _ z=>nomatch z),⟨wa,ne w1 (λ_ _ _ z=>nomatch z),w2,λi t e h1 h2=>ne (w3 i t e h1 h2) (λ_ _ _ z=>nomatch z)⟩,
  ⟨sp,⟨ne t1.is (λ_ _ _ z=>nomatch z),λp hp=>ne (t1.tp p hp) (λ_ _ _ z=>nomatch z)⟩,t2⟩,F.n1,F.n2,F.n3,F.f0,F.f1,F.f2,F.f3,F.f4,λb o e=>k b o (F.sa b o e) (bj e F.f1)⟩
def Kx.kp{d:FA}{H H':Hp}(k:Kp d.g H H'):Kx d H H':=λc o e _ _ n _=>k c o e n
def HS{H:Hp}{a b:Addr}{l:List Int}{ts:List Addr}(ha:ay H a l)(hl:0<l.length)(hb:H b=some (.lst (ts.map V.ref))):a≠b:=λe=>by
 rw[e]at ha;have e2:=Zf (ha.symm.trans hb);have e3:l.map V.int=ts.map V.ref:=HO.lst.inj e2;cases l with
 |nil=>cases hl
 |cons x l=>
  cases ts with
  |nil=>cases e3
  |cons y ts=>exact nomatch(List.cons.inj e3).1
structure Frame(CF CG:Addr)(H0:Hp)(rows:List Addr)(rd:Addr->List Int)(n:Nat):Prop where
 rw:Rows n rows rd
 tp:∀r∈rows,H0 r=some (.tup ((rd r).map V.int))
 n1:n<=1000
 rl:rows.length<=1000
 ne:CF≠CG
inductive KS(CF CG:Addr)(vs:List V)(H:Hp)(Q:VK)(aA:XK):Prop
 |mk (H0:Hp) (rows:List Addr) (rd:Addr->List Int) (n:Nat) (f x t a:Addr) (d:FA) (st:FS) (m:Nat) (s:Int) (_:vs=[.ref f,.ref x,.ref t,.ref a]) (_:Frame CF CG H0 rows rd n) (_:bU CF CG H0 H f d n st) (_:bB n rows rd st) (_:m<n) (_:d.ds[m]?=some x) (_:H t=some (.tup [.int ((rd a).getD 2 0),.int s])) (_:a∈rows) (_:st.W.length<=9990000) (_:∀H',bU CF CG H0 H' f d n (cy st m ((rd a).getD 2 0) s a)->Kx d H H'->Q .aI H'):KS CF CG vs H Q aA
def tf(CF CG:Addr):Sp:=KS CF CG
inductive KU(CF CG:Addr)(vs:List V)(H:Hp)(Q:VK)(aA:XK):Prop
 |mk (H0:Hp) (rows:List Addr) (rd:Addr->List Int) (n:Nat) (f a:Addr) (d:FA) (st:FS) (_:vs=[.ref f,.ref a]) (_:Frame CF CG H0 rows rd n) (_:bU CF CG H0 H f d n st) (_:bB n rows rd st) (_:a∈rows) (_:st.W.length<=9989990) (_:∀H',bU CF CG H0 H' f d n (gc rd st a)->Kx d H H'->Q .aI H'):KU CF CG vs H Q aA
def Bt(CF CG:Addr):Sp:=KU CF CG
inductive HU(CF CG:Addr)(vs:List V)(H:Hp)(Q:VK)(aA:XK):Prop
 |mk (H0:Hp) (rows:List Addr) (rd:Addr->List Int) (n:Nat) (f:Addr) (d:FA) (st:FS) (a b:Nat) (_:vs=[.ref f,.int a,.int b]) (_:Frame CF CG H0 rows rd n) (_:bU CF CG H0 H f d n st) (_:bB n rows rd st) (_:a<n) (_:b<n) (_:st.l.getD a 0≠st.l.getD b 0) (_:st.W.length<=9989900) (_:∀H',bU CF CG H0 H' f d n (mP st a b)->Kx d H H'->Q .aI H'):HU CF CG vs H Q aA
def Ap(CF CG:Addr):Sp:=HU CF CG
def qy{H:Hp}{b x:Addr}{o u:HO}(h:H b=some o)(g:H x=some u)(n:o≠u):b≠x:=λe=>by
 rw[e,g]at h;exact n (Zf h).symm
def acQ{ds:List Addr}(nd:ds.Nodup){i j:Nat}{x y:Addr}(hi:ds[i]?=some x)(hj:ds[j]?=some y)(h:i≠j):x≠y:=λe=>by
 subst e;obtain⟨h1,e1⟩:=ZL.mp hi;obtain⟨h2,e2⟩:=ZL.mp hj;exact h (List.getElem_inj nd|>.mp (e1.trans e2.symm))
def bU.putD{CF CG:Addr}{H0 H:Hp}{f:Addr}{d:FA}{n:Nat}{st:FS}(F:bU CF CG H0 H f d n st){m:Nat}{x:Addr}(hx:d.ds[m]?=some x)(kv:List (List Key×V)):
  bU CF CG H0 (upd H x (.dT kv)) f d n {st with D:=λi=>if i=m then kv else st.D i}/\Kx d H (upd H x (.dT kv)):=by
 obtain⟨wa,w1,w2,w3⟩:=F.wl;obtain⟨sp,t1,t2⟩:=F.sl;obtain⟨gx,gl,g1,g2⟩:=F.gr.ob;have hd:=F.dd m x hx
 have k:∀{b:Addr}{o:HO},H b=some o->(∀kv,o≠.dT kv)->upd H x (.dT kv) b=some o:=λ{b o} e hn=>by
  rw[ah (qy e hd (hn _))];exact e
 refine⟨⟨k F.ob (λ_ z=>nomatch z),⟨gx,gl,k g1 (λ_ z=>nomatch z),k g2 (λ_ z=>nomatch z)⟩,k F.dl (λ_ z=>nomatch z),F.dn,F.du,λi y e=>?_,⟨wa,k w1 (λ_ z=>nomatch z),w2,λi t e h1 h2=>k (w3 i t e h1 h2) (λ_ z=>nomatch z)⟩,
  ⟨sp,⟨k t1.is (λ_ z=>nomatch z),λp hp=>k (t1.tp p hp) (λ_ z=>nomatch z)⟩,t2⟩,F.n1,F.n2,F.n3,F.f0,F.f1,F.f2,F.f3,F.f4,F.sa.upd (F.f4 x (Y5 hx))⟩,λb o e _ _ _ n4=>?_⟩
 ·show upd H x (.dT kv) y=some (.dT (if i=m then kv else st.D i));by_cases jX:i=m
  ·subst jX;rw[hx]at e;cases e;rw[if_pos rfl,aj]
  ·rw[if_neg jX,ah (acQ F.du e hx jX)];exact F.dd i y e
 ·have nb:b≠x:=λz=>n4 (by rw[z];exact Y5 hx);rw[ah nb];exact e
def bU.Ob{CF CG:Addr}{H0 H:Hp}{f:Addr}{d:FA}{n:Nat}{st:FS}(F:bU CF CG H0 H f d n st)(n0:0<n)(L:c9 n st.l)(wa:List Addr)(W:List (Addr×Addr×Int))(hl:wa.length=W.length)
  (hw:∀(i:Nat) (t:Addr) (e:Addr×Addr×Int),wa[i]?=some t->W[i]?=some e->H t=some (.tup [.ref e.1,.ref e.2.1,.int e.2.2])):
  bU CF CG H0 (upd H d.lw (.lst (wa.map V.ref))) f d n {st with W:=W}/\Kx d H (upd H d.lw (.lst (wa.map V.ref))):=by
 obtain⟨wa0,w1,w2,w3⟩:=F.wl;obtain⟨sp,t1,t2⟩:=F.sl;obtain⟨gx,gl,g1,g2⟩:=F.gr.ob
 have k:∀{b:Addr}{o:HO},H b=some o->b≠d.lw->upd H d.lw (.lst (wa.map V.ref)) b=some o:=λ{b o} e hn=>by
  rw[ah hn];exact e
 have kk:∀{b:Addr}{o:HO},H b=some o->(∀xs,o≠.lst xs)->upd H d.lw (.lst (wa.map V.ref)) b=some o:=λ{b o} e hn=>k e (qy e w1 (hn _))
 refine⟨⟨kk F.ob (λ_ z=>nomatch z),⟨gx,gl,kk g1 (λ_ z=>nomatch z),k g2 (HS g2 (by rw[L.len];exact n0) w1)⟩,k F.dl F.n2.symm,F.dn,F.du,λm x e=>kk (F.dd m x e) (λ_ z=>nomatch z),⟨wa,aj,hl,λi t e h1 h2=>kk (hw i t e h1 h2) (λ_ z=>nomatch z)⟩,
  ⟨sp,⟨k t1.is F.n1.symm,λp hp=>kk (t1.tp p hp) (λ_ z=>nomatch z)⟩,t2⟩,F.n1,F.n2,F.n3,F.f0,F.f1,F.f2,F.f3,F.f4,F.sa.upd F.f2⟩,λb o e n1 _ _ _=>k e n1⟩
def bU.adX{CF CG:Addr}{H0 H:Hp}{f:Addr}{d:FA}{n:Nat}{st:FS}(F:bU CF CG H0 H f d n st)(n0:0<n)(L:c9 n st.l)(sp:Ps)(tp:Tp H sp):
  bU CF CG H0 (upd H d.lx (.lst (sp.map λp=>V.ref p.1))) f d n {st with ss:=sp.map (·.2)}/\Kx d H (upd H d.lx (.lst (sp.map λp=>V.ref p.1))):=by
 obtain⟨wa,w1,w2,w3⟩:=F.wl;obtain⟨sp0,t1,t2⟩:=F.sl;obtain⟨gx,gl,g1,g2⟩:=F.gr.ob
 have k:∀{b:Addr}{o:HO},H b=some o->b≠d.lx->upd H d.lx (.lst (sp.map λp=>V.ref p.1)) b=some o:=λ{b o} e hn=>by
  rw[ah hn];exact e
 have kk:∀{b:Addr}{o:HO},H b=some o->(∀xs,o≠.lst xs)->upd H d.lx (.lst (sp.map λp=>V.ref p.1)) b=some o:=λ{b o} e hn=>k e (qy e t1.is (hn _));have t1':H d.lx=some (.lst ((sp0.map (·.1)).map V.ref)):=by rw[ZK];exact t1.is
 refine⟨⟨kk F.ob (λ_ z=>nomatch z),⟨gx,gl,kk g1 (λ_ z=>nomatch z),k g2 (HS g2 (by rw[L.len];exact n0) t1')⟩,k F.dl F.n3.symm,F.dn,F.du,λm x e=>kk (F.dd m x e) (λ_ z=>nomatch z),⟨wa,k w1 F.n1,w2,λi t e h1 h2=>kk (w3 i t e h1 h2) (λ_ z=>nomatch z)⟩,
  ⟨sp,⟨aj,λp hp=>kk (tp p hp) (λ_ z=>nomatch z)⟩,rfl⟩,F.n1,F.n2,F.n3,F.f0,F.f1,F.f2,F.f3,F.f4,F.sa.upd F.f3⟩,λb o e _ n2 _ _=>k e n2⟩
def UQ{st:FS}{m:Nat}{k s:Int}{a b:Addr}(h:bq (st.D m) (key k s)=some (.ref b)):cy st m k s a={st with W:=st.W++[(b,a,s)]}:=by
 unfold cy;rw[h]
def UR{st:FS}{m:Nat}{k s:Int}{a:Addr}(h:bq (st.D m) (key k s)=none):cy st m k s a={st with D:=λi=>if i=m then putK (st.D m) (key k s) (.ref a)else st.D i}:=by
 unfold cy;rw[h]
end My
namespace L2
open PySem PySem.Spec PyProof.Rows
def jc(J:It)(ix:List Nat)(te:TE)(σ:St)(H1:Hp)(Q:VK):Prop:=∀D,H1 D=none->∃W:Nat->Nat->List V->Hp->Prop,(∃m,W 0 m [] (upd H1 D (.lst [])))/\
 ∀i m ys H2,W i m ys H2->H2 D=some (.lst ys)/\((J.stop i H2/\Q (.ref D) H2)\/(J.go i H2/\ys.length<sizeLine/\∀x H',J.e9 i H2 x H'->te (bE ix (some x) σ) H' λy H3=>
  H3 D=some (.lst ys)/\∃m',m'<m/\W (i+1) m' (ys++[y]) (upd H3 D (.lst (ys++[y])))))
def mJ(J:It)(ix:List Nat)(tt:TT)(te:TE)(σ:St)(H1:Hp)(Q:VK):Prop:=∀D,H1 D=none->∃W:Nat->Nat->List V->Hp->Prop,(∃m,W 0 m [] (upd H1 D (.lst [])))/\
 ∀i m ys H2,W i m ys H2->H2 D=some (.lst ys)/\((J.stop i H2/\Q (.ref D) H2)\/(J.go i H2/\ys.length<sizeLine/\∀x H',J.e9 i H2 x H'->tt (bE ix (some x) σ) H' λb H3=>if b=true then te (bE ix (some x) σ) H3 (λy H4=>
  H4 D=some (.lst ys)/\∃m',m'<m/\W (i+1) m' (ys++[y]) (upd H4 D (.lst (ys++[y]))))else∃m',m'<m/\W (i+1) m' ys H3))
def sV(wi:TI)(ix:List Nat)(te:TE):TE:=λσ H Q=>wi σ H λJ H1=>Wr (jc J ix te σ H1 Q)
def Jm(wi:TI)(ix:List Nat)(tt:TT)(te:TE):TE:=λσ H Q=>wi σ H λJ H1=>Wr (mJ J ix tt te σ H1 Q)
def Cx.Cf(X:Cx)(N:List Str)(scope:Scope)(cl:List (Str×Addr))(x:Str)(C:Addr)(s:Shared)(H:Hp)(fp:List Addr):Cx:=
 {prog:=X.prog,w:=X.w,K:=X.K,mg:=X.mg,base:=X.base,A:=X.A,N:=N,s₀:=s,H₀:=H,env:=compEnvC scope ((x,C+1)::cl) C X.env,outer:=X.stack,stack:=X.stack,ex:=fp,fn:=λy=>y==x,calm:=X.calm,pn:=[],xe:=λ_ _=>False}
def US{M:Model}{A:Around}{E:Value->Shared->Prop}{s:Shared}{scope:Scope}{globals:Addr}{closure:List (Str×Addr)}{qual:Str}{env:Env}{Q:Env->Shared->Prop}
  (h:Q (newEnv scope s.heap.objs.size globals (cellsFrom (s.heap.objs.size+1) scope.names closure) qual none .none (some env) builtinsNs) {s with heap:=pushCells (s.heap.push {cls:=.type "dict",data:=.dict #[]}) scope.names}):
  wpAny M A (newFunctionEnv scope globals closure [] qual none .none (some env)) Q E s:=by
 simp only[newFunctionEnv,Option.isSome_some,if_true];refine wpAny_bind (wpAny_alloc ?_);refine wpAny_bind (wpAny_layCells _ (λname kind cells=>by cases hkc:kind==NameKind.cell<;>simp[hkc]) _ _ _ _ ?_);rw[show({s with heap:=s.heap.push {cls:=.type "dict",data:=.dict #[]}}:Shared).heap.objs.size=s.heap.objs.size+1 from Heap.size_push ..];exact wpAny_bind (by rw[List.forIn_nil];exact ZV (ZV h))
structure gC(X:Cx)(scope:Scope)(cl:List (Str×Addr))(x:Str)(fr:List Str)(ix:List Nat)(iter:Expr):Prop where
 adY:closureFor scope X.env=pure cl
 calm:X.calm=true
 kind:scope.kind=.function
 cell:(scope.names.all λp=>p.2 != .cell)=true
 names:(scope.names.all λp=>p.2 != .local||scope.names.lookup p.1==some .local)=true
 hx:scope.names.lookup x=some .local
 hN:(x::fr).Nodup
 fI:ix.map (λi=>X.N[i]?)=fr.map some
 fr:(fr.all λy=>X.env.kindOf y==some .cell&&(relabel scope X.env).names.lookup y==some .cell)=true
 CN:((relabel scope X.env).names.all λp=>(p.2 != .cell&&p.2 != .free)||(cl.lookup p.1).isSome)=true
 hs:∀x,foldedSetIterable iter X.env x=pure x
section
variable {X:Cx}{x:Str}{px pos:Pos}{elt iter:Expr}{scope:Scope}{cl:List (Str×Addr)}{fr:List Str}{ix:List Nat}{wi:TI}{te:TE}{tt:TT}{ifs:List Expr}
def gC.acR(k:gC X scope cl x fr ix iter):∀y∈scope.names,y.2≠.cell:=λy hy e=>by
 have:=ZC.mp k.cell y hy;rw[e]at this;exact absurd this (by decide)
def gC.abD(k:gC X scope cl x fr ix iter):∀y∈scope.names,y.2=.local->scope.names.lookup y.1=some .local:=λy hy e=>by
 have:=ZC.mp k.names y hy;rw[e]at this;simpa using this
def gC.fr'(k:gC X scope cl x fr ix iter):∀y∈fr,X.env.kindOf y=some .cell/\(relabel scope X.env).names.lookup y=some .cell:=λy hy=>by
 have:=ZC.mp k.fr y hy;rw[Bool.and_eq_true]at this;exact⟨eq_of_beq this.1,eq_of_beq this.2⟩
def gC.Oc(k:gC X scope cl x fr ix iter):∀y,((relabel scope X.env).names.lookup y=some .cell\/(relabel scope X.env).names.lookup y=some .free)->∃c,cl.lookup y=some c:=λy hy=>by
 have:∃k,(relabel scope X.env).names.lookup y=some k/\(k=.cell\/k=.free):=by
  rcases hy with h|h
  ·exact⟨_,h,.inl rfl⟩
  ·exact⟨_,h,.inr rfl⟩
 obtain⟨k',e,qY⟩:=this;have:=ZC.mp k.CN (y,k') (ZM e)
 have h2:(cl.lookup y).isSome=true:=by
  rcases qY with rfl|rfl<;>simpa using this
 exact Option.isSome_iff_exists.mp h2
def qM(B:Cx->Prop)(ifs:List Expr)(tt:TT):Prop:=(ifs=[]/\tt=λ_ H Q=>Q true H)\/∃ct,ifs=[ct]/\∀Y,B Y->PT Y ct tt
def WM{B:Cx}{BB:Cx->Prop}{pins:List (Addr×Obj)}{σ:St}{H:Hp}{s:Shared}{Q:Bool->Hp->Prop}(pj:qM BB ifs tt)(hb:BB B)(I:Inv B pins σ H s)(h:tt σ H Q):
  wpAny (model B.prog B.w) B.A (forIn ifs true λc r=>if r=true then do
   let ok<-PySem.isTrue c B.env (eval c B.env)
   pure (ForInStep.yield ok)else pure (ForInStep.yield r)) (λb s'=>∃H',Inv B pins σ H' s'/\Q b H') B.xe s:=by
 rcases pj with⟨rfl,rfl⟩|⟨ct,rfl,ht⟩
 ·rw[List.forIn_nil];exact ZV ⟨_,I,h⟩
 ·exact wpAny_tests_one (wpAny_mono (ht B hb _ s _ H _ I h) (λbb s6 ⟨H6,I6,q6⟩=>⟨H6,I6,q6⟩) λ_ _ z=>z)
def HV{use:Option (Value->Sem Unit)}{Post:Value->Shared->Prop}{p0:Pos}(k:gC X scope cl x fr ix iter)(hi:PI X (.Name x px) iter wi)(aS:∀y c,cl.lookup y=some c->X.env.cells.lookup y=some c)
  (he:∀C s H fp,PE (X.b7 (x::fr) scope cl C s H fp) elt te)(pj:qM (λY=>∃C s H fp,Y=X.b7 (x::fr) scope cl C s H fp) ifs tt)
  {pins:List (Addr×Obj)}{s:Shared}{σ:St}{H:Hp}{Q:VK}(I:Inv X pins σ H s){R:It->Hp->Prop}(h:wi σ H R)(hR:∀J H1,R J H1->Wr (mJ J ix tt te σ H1 Q))
  (fin:∀(s2 s4:Shared) (H2 H3:Hp) (fp:List Addr) (C:Addr) (x':Option V),Inv X pins σ H2 s2->(∀b∈fp,iG X pins H2 b)->C=s2.heap.objs.size+1->(∀b o,s2.heap.get? b=some o->b≠C)->Inv (X.b7 (x::fr) scope cl C s2 H2 fp) [] (bE ix x' σ) H3 s4->Q (.ref s2.heap.objs.size) H3->
   ∀a,compPost (model X.prog X.w) X.A X.xe use Post (.ref s2.heap.objs.size) C (.ok a) s4):
  wpAny (model X.prog X.w) X.A (comprehension (.ListComp elt [⟨.Name x px,iter,ifs,0⟩] scope pos) scope X.env p0 (newList []) false (eval iter X.env) use) Post X.xe s:=by
 refine wpAny_comprehension_free rfl k.hs k.adY k.kind k.abD (au (hi pins s σ H _ I h) λxv s1 h1=>au h1 λo8 s2 h2=>?_);obtain⟨it,fp,tn,J,H2,e,I2,T,gm,f2,q⟩:=h2;have q:=hR J H2 q;subst e;refine wpAny_newObj_type (wpAny_newFunctionEnv k.acR (by intro y hy;simp at hy) (λh₁ df dj=>?_) k.kind);dsimp only at df dj⊢;have g6:H2 s2.heap.objs.size=none:=I2.ao.fresh (Y2 _);obtain⟨W,⟨m0,w0⟩,turn⟩:=q.get s2.heap.objs.size g6;generalize eK:s2.heap.push {cls:=.type "list",dict:=none,data:=.seq ([]:List Value).toArray}=HL at df dj⊢;have hC:HL.objs.size=s2.heap.objs.size+1:=by rw[<-eK,Heap.size_push]
 have old:∀b o,s2.heap.get? b=some o->h₁.get? b=some o:=λb o e=>(dj.2 b (by rw[hC];exact Zm (ZW (Zh e)))).trans (Y7 _ (eK▸Y7 _ e))
 have jS:h₁.get? s2.heap.objs.size=some {cls:=.type "list",data:=.seq ([]:List Value).toArray}:=
  (dj.2 _ (by rw[hC];exact Zm (Nat.lt_succ_self _))).trans (Y7 _ (eK▸Zp _ rfl))
 generalize lK:HL.objs.size=C at df dj⊢;rw[lK]at hC;have bC:∀b o,s2.heap.get? b=some o->b≠C:=λb o e=>by rw[hC];exact Zm (ZW (Zh e))
 have xi:∀b∈bP X.stack,∃o,s2.heap.get? b=some o:=λb hb=>by
  obtain⟨_,o,ho,_⟩:=I2.stack.mem hb;exact⟨o,ho⟩
 have dY:∀b∈fp,∃o,s2.heap.get? b=some o/\∀v,o.data≠.cell v:=λb hb=>T.obj 0 _ gm b hb
 have gX:∀b∈fp,b∉bP X.stack:=λb hb z=>by
  rcases Y4.mp (I2.kf b z)with z|z
  ·exact(f2 b hb).2.1 z
  ·exact(f2 b hb).2.2.1 z
 let B:=X.b7 (x::fr) scope cl C s2 H2 fp
 have lL:B.Ok:=by
  refine⟨I2.ok.mod,k.kind,I2.ok.glob,I2.ok.blt,(by show s2.heap.objs.size<=C;rw[hC];exact Nat.le_succ _),λy z c e1 e2=>I2.ok.inj y z c (aS _ _ e1) (aS _ _ e2),λy hy=>k.Oc y hy,λy c z=>absurd (show false=true from z) Zj,
   λ_=>I2.ok.hd k.calm,I2.ok.frames,.inl rfl,λb hb=>⟨?_,λy c e=>(f2 b hb).2.2.2.2.1 y c (aS _ _ e)⟩,I2.bs,ZQ I2.ok.iO I2.sz,λb o e hb=>?_,λb hb=>gX b hb,I2.stack,I2.oq⟩
  ·obtain⟨o,e,_⟩:=dY b hb;exact bC b o e
  ·rcases(f2 b hb).2.2.2.1 with z|z
   ·exact I2.ok.kq b o e z
   ·exact absurd (Zv (Zh (I2.ok.bs b o e).1) z) (Z3 _)
 have IB:∀tk,Inv B [] (bE ix none σ) (upd H2 s2.heap.objs.size (.lst [])) {s2 with heap:=h₁,toks:=tk}:=λtk=>by
  refine⟨lL,rfl,I2.bare,Un.laid old (Y2 _) g6,⟨_,df,λj y v e1 e2 e3=>?_⟩,λy c e=>?_,?_,λy c e=>?_,(λp hp=>nomatch hp),I2.ao.laid old (Y2 _) ⟨Zo _,[],0,.nil,jS⟩,?_⟩
  ·cases j with
   |zero=>cases(show(some none:Option (Option V))=some (some v)from e2)
   |succ j=>
    have e1:fr[j]?=some y:=e1;have e2:(ix.map λi=>(σ[i]?).join)[j]?=some (some v):=e2;have hj:=congrArg (λl=>l[j]?) k.fI;simp only[Ze,e1]at hj;rw[Ze]at e2;cases jT:ix[j]? with
    |none=>rw[jT]at e2;cases e2
    |some i=>
     rw[jT]at hj e2;have hj:X.N[i]?=some y:=Zf hj;have e2:(σ[i]?).join=some v:=Zf e2
     have e2:σ[i]?=some (some v):=by
      cases z:σ[i]? with
      |none=>rw[z]at e2;cases e2
      |some z'=>rw[z]at e2;rw[show z'=some v from e2]
     obtain⟨m,hn,hl⟩:=I2.loc;have hk:=k.fr' y (Y5 e1);obtain⟨u,ru,lk⟩:=hl i y v hj e2 (.inr (.inl hk.1));refine⟨u,ru,.inr ⟨.inl hk.2,?_⟩⟩;rcases lk with⟨z,_⟩|⟨_,c,ec,⟨oc,bQ,bR⟩⟩
     ·rw[hk.1]at z;cases z
     ·obtain⟨c',jU⟩:=k.Oc y (.inl hk.2);have:=aS _ _ jU;rw[ec]at this;cases this;exact⟨c,jU,oc,old c oc bQ,bR⟩
  ·obtain⟨v,oc,bQ,bR⟩:=I2.cell y c (aS _ _ e);exact⟨v,oc,old c oc bQ,bR⟩
  ·show upd H2 s2.heap.objs.size (.lst []) C=none;rw[ah (by rw[hC];exact Nat.succ_ne_self _)];exact I2.ao.fresh (by rw[hC];exact Nat.le_succ _)
  ·obtain⟨v,oc,bQ,bR⟩:=I2.cell y c (aS _ _ e);rw[ah (Zm (Zh bQ))];exact I2.eC y c (aS _ _ e)
  ·show(bE ix none σ).length=(x::fr).length;have:=congrArg List.length k.fI;simp only[Y0]at this;simp[bE,this]
 have dZ:∀tk,tn 0 ({s2 with heap:=h₁,toks:=tk}:Shared).heap:=λ_=>T.keep 0 _ _ gm λb hb o e=>old b o e
 have fB:∀{H':Hp},(∀b∈fp,H' b=none)->∀b∈fp,iG B [] H' b:=λhn b hb=>by
  obtain⟨o,e,_⟩:=dY b hb;exact⟨hn b hb,bC b o e,gX b hb,.inl hb,λy c ec=>(f2 b hb).2.2.2.2.1 y c (aS _ _ ec),(λp hp=>nomatch hp)⟩
 have loop:∀tk,codeAny (model X.prog X.w) X.A (.compLoop (.ListComp elt [⟨.Name x px,iter,ifs,0⟩] scope pos) 0 (.ref it) (.ref s2.heap.objs.size) (compEnvC scope cl C X.env))
   (compPost (model X.prog X.w) X.A X.xe use Post (.ref s2.heap.objs.size) C) {s2 with heap:=h₁,toks:=tk}:=λtk=>by
  refine codeAny_loop rfl (λn s'=>∃i ys x' H',Inv B [] (bE ix x' σ) H' s'/\tn i s'.heap/\(∀b∈fp,H' b=none)/\W i n ys H') (λn s3 hI=>?_) m0 ⟨0,[],none,_,IB tk,dZ tk,λb hb=>?_,w0⟩
  ·obtain⟨i,ys,x',H3,I3,eG,dX,w3⟩:=hI;show wpAny _ _ ((compTurn (.ListComp elt [⟨.Name x px,iter,ifs,0⟩] scope pos) 0 (.ref it) (.ref s2.heap.objs.size) (compEnvC scope cl C X.env)).onRaise (λx=>do noteFrame x (compEnvC scope cl C X.env);theTreesLotGoes x)) _ _ s3;refine wpAny_noted ?_;rw[compTurn_list];obtain⟨xj,alt⟩:=turn i n ys H3 w3;refine wpAny_bind (wpAny_standAt (wpAny_bind ?_));rcases alt with⟨stop,qn⟩|⟨go,hlen,step⟩
   ·refine au (T.done B rfl rfl rfl k.calm i [] s3 _ H3 _ I3 (fB dX) eG stop) λr s4 ⟨hr,I4⟩=>?_;subst hr;refine ZV ?_;exact fin s2 s4 H2 H3 fp C _ I2 f2 hC bC I4 qn _
   ·refine au (T.item B rfl rfl rfl k.calm i [] s3 _ H3 _ I3 (fB dX) eG go) λr s4 ⟨u,hr,h4⟩=>?_;subst hr;refine wpAny_bind (au h4 λ_ s5 ⟨xv,H5,I5,r5,y5,dt,jN⟩=>?_);have jO:=I5.pinned (fB jN) (T.obj _ _ dt);refine wpAny_bind (wpAny_assign_Name (kO (i:=0) (X:=B) jO k.hN rfl (.inl (lookup_relabel_local k.hx)) r5 (λs6 I6=>?_) (.inr (lookup_relabel_local k.hx))));have I6:Inv B ([]++jC fp s5.heap) (bE ix (some xv) σ) H5 s6:=I6;refine wpAny_bind (wpAny_mono (WM pj ⟨C,s2,H2,fp,rfl⟩ I6 (step xv H5 y5)) (λbb xn ⟨H6,xo,q6⟩=>?_) λ_ _ z=>Zu z)
    have kp:∀{st:St}{H8:Hp}{s8:Shared},Inv B (([]:List (Addr×Obj))++jC fp s5.heap) st H8 s8->tn (i+1) s8.heap/\∀b∈fp,H8 b=none:=λI8=>⟨T.keep _ _ _ dt λb hb o e=>(I8.pin (b,o) (Za _ (Za _ (gN hb e)))).1,λb hb=>by
     obtain⟨o,e,d⟩:=T.obj _ _ dt b hb;exact(I8.pin (b,o) (Za _ (Za _ (gN hb e)))).2.1⟩
    cases bb with
    |false=>
     rw[if_neg (by decide)]at q6;obtain⟨m',hm,w7⟩:=q6;exact ZV ⟨rfl,m',hm,i+1,ys,some xv,_,xo.j4,(kp xo).1,(kp xo).2,w7⟩
    |true=>
     rw[if_pos rfl]at q6;refine wpAny_bind (wpAny_bind (wpAny_mono (he C s2 H2 fp _ xn _ H6 _ xo q6) (λv s7 ⟨y,H7,I7,r7,tX,m',hm,w7⟩=>?_) λ_ _ z=>Zu z))
     refine wpAny_bind (wpAny_mono (fu (X:=B) _ s7 _ H7 (.ref s2.heap.objs.size) [y] (.ref s2.heap.objs.size) [v] (λ_ H8=>H8=upd H7 s2.heap.objs.size (.lst (ys++[y]))) I7 rfl (.cons r7 .nil) ⟨_,ys,y,rfl,rfl,tX,hlen,rfl⟩)
      (λ_ s8 ⟨_,H8,I8,_,e8⟩=>?_) λ_ _ z=>Zu z)
     subst e8;exact ZV (ZV ⟨rfl,m',hm,i+1,ys++[y],some xv,_,I8.j4,(kp I8).1,(kp I8).2,w7⟩)
  ·obtain⟨o,e,_⟩:=dY b hb;rw[ah (Zm (Zh e))];exact(f2 b hb).1
 exact codeAny_compStart_list (loop _) (T.self _ 0 _ _ _ (dZ _) (loop _))
def HW{J:It}{σ:St}{H:Hp}{Q:VK}(h:Wr (jc J ix te σ H Q)):Wr (mJ J ix (λ_ H Q=>Q true H) te σ H Q):=⟨λD hD=>by
 obtain⟨W,w0,turn⟩:=h.get D hD;refine⟨W,w0,λi m ys H2 w=>?_⟩;obtain⟨a,b|⟨c,d,e⟩⟩:=turn i m ys H2 w
 ·exact⟨a,.inl b⟩
 ·exact⟨a,.inr ⟨c,d,λx H' y=>by
  show(if true=true then _ else _);rw[if_pos rfl];exact e x H' y⟩⟩⟩
def MD(k:gC X scope cl x fr ix iter)(hi:PI X (.Name x px) iter wi)(aS:∀y c,cl.lookup y=some c->X.env.cells.lookup y=some c)
  (he:∀C s H fp,PE (X.b7 (x::fr) scope cl C s H fp) elt te)(pj:qM (λY=>∃C s H fp,Y=X.b7 (x::fr) scope cl C s H fp) ifs tt)
  {RR:St->VK->It->Hp->Prop}(hR:∀σ Q J H1,RR σ Q J H1->Wr (mJ J ix tt te σ H1 Q)):PE X (.ListComp elt [⟨.Name x px,iter,ifs,0⟩] scope pos) (λσ H Q=>wi σ H (RR σ Q)):=by
 intro pins s σ H Q I h;rw[eval_ListComp];refine HV k hi aS he pj I h (hR σ Q) λs2 s4 H2 H3 fp C x' I2 f2 hC bC I4 qn _=>?_;obtain⟨m4,jV,_⟩:=I4.loc;refine⟨m4,jV,λh' sb=>?_⟩
 have un:Un (bP X.stack) fp H2 H3 s2.heap h':=by
  have u:=I4.base;refine⟨λb o e n hb hx=>(sb.2 b (bC b o e)).trans (u.keep b o e n hb hx),λb o e n hb hx=>?_,u.free,λb o e hx=>?_,u.fY,u.fA,u.fZ⟩
  ·obtain⟨sl,e1⟩:=u.slot b o e n hb hx;exact⟨sl,(sb.2 b (bC b o e)).trans e1⟩
  ·obtain⟨o',e1⟩:=u.there b o e hx;exact⟨o',(sb.2 b (bC b o e)).trans e1⟩
 exact⟨.ref s2.heap.objs.size,H3,I2.mR (s':={s4 with heap:=h'}) (ch:=fp) I4.os un (I4.ao.sameBut I4.free sb) I4.bare (λb hb=>⟨(f2 b hb).2.2.2.1,(f2 b hb).2.1,(f2 b hb).2.2.2.2⟩),rfl,qn⟩
def MF{ct:Expr}(ht:∀C s H fp,PT (X.b7 (x::fr) scope cl C s H fp) ct tt):qM (λY=>∃C s H fp,Y=X.b7 (x::fr) scope cl C s H fp) [ct] tt:=.inr ⟨ct,rfl,λY ⟨C,s,H,fp,e⟩=>by subst e;exact ht C s H fp⟩
def zr{ct:Expr}(fr:List Str)(ix:List Nat)(hi:PI X (.Name x px) iter wi)(ht:∀C s H fp,PT (X.b7 (x::fr) scope cl C s H fp) ct tt)(he:∀C s H fp,PE (X.b7 (x::fr) scope cl C s H fp) elt te)(aS:∀y c,cl.lookup y=some c->X.env.cells.lookup y=some c)
  (k:gC X scope cl x fr ix iter:=by exact⟨rfl,rfl,rfl,rfl,rfl,rfl,by decide+kernel,rfl,rfl,rfl,λ_=>rfl⟩):
  PE X (.ListComp elt [⟨.Name x px,iter,[ct],0⟩] scope pos) (Jm wi ix tt te):=MD k hi aS he (MF ht) λ_ _ _ _ h=>h
def KW{B:Cx->Prop}:qM B [] (λ_ H Q=>Q true H):=.inl ⟨rfl,rfl⟩
def jy(fr:List Str)(ix:List Nat)(hi:PI X (.Name x px) iter wi)(he:∀C s H fp,PE (X.b7 (x::fr) scope cl C s H fp) elt te)(aS:∀y c,cl.lookup y=some c->X.env.cells.lookup y=some c)
  (k:gC X scope cl x fr ix iter:=by exact⟨rfl,rfl,rfl,rfl,rfl,rfl,by decide+kernel,rfl,rfl,rfl,λ_=>rfl⟩):
  PE X (.ListComp elt [⟨.Name x px,iter,[],0⟩] scope pos) (sV wi ix te):=MD k hi aS he KW λ_ _ _ _ h=>HW h
end
section
variable {X:Cx}
def UT{x:Str}{px pos:Pos}{elt iter:Expr}{scope:Scope}{cl:List (Str×Addr)}{fr:List Str}{ix:List Nat}{wi:TI}{te:TE}
  (hc:X.calm=true)(hi:PI X (.Name x px) iter wi)
  (gA:closureFor scope X.env=pure cl)(cZ:scope.kind=.function)(A2:∀n,cellsFrom n scope.names cl=(x,n)::cl)(Bu:∀h:Heap,pushCells h scope.names=h.push {cls:=.type "cell",data:=.cell none})(Cg:cl.lookup x=none)
  (gy:∀y∈scope.names,y.2=.local->scope.names.lookup y.1=some .local)(hx:(relabel scope X.env).names.lookup x=some .cell)
  (hN:(x::fr).Nodup)(fI:ix.map (λi=>X.N[i]?)=fr.map some)
  (dN:∀y∈fr,X.env.kindOf y=some .cell/\(relabel scope X.env).names.lookup y=some .cell)
  (aS:∀y c,cl.lookup y=some c->X.env.cells.lookup y=some c)
  (eZ:∀y,((relabel scope X.env).names.lookup y=some .cell\/(relabel scope X.env).names.lookup y=some .free)->y=x\/∃c,cl.lookup y=some c)
  (he:∀C s H fp,PE (X.Cf (x::fr) scope cl x C s H fp) elt te)
  (hs:∀x,foldedSetIterable iter X.env x=pure x:=by intro _;rfl):
  PE X (.ListComp elt [⟨.Name x px,iter,[],0⟩] scope pos) (sV wi ix te):=by
 intro pins s σ H Q I h;rw[eval_ListComp];refine wpAny_comprehension_free (use:=none) rfl hs gA cZ gy (au (hi pins s σ H _ I h) λxv s1 h1=>au h1 λo8 s2 h2=>?_);obtain⟨it,fp,tn,J,H2,e,I2,T,gm,f2,q⟩:=h2;subst e;refine wpAny_newObj_type (US ?_);rw[A2,Bu];have g6:H2 s2.heap.objs.size=none:=I2.ao.fresh (Y2 _);obtain⟨W,⟨m0,w0⟩,turn⟩:=q.get s2.heap.objs.size g6;generalize eK:s2.heap.push {cls:=.type "list",dict:=none,data:=.seq ([]:List Value).toArray}=HL;have hC:HL.objs.size=s2.heap.objs.size+1:=by rw[<-eK,Heap.size_push]
 have df:((HL.push {cls:=.type "dict",data:=.dict #[]}).push {cls:=.type "cell",data:=.cell none}).Ns HL.objs.size (λ_=>none):=(Heap.Ns.new HL (.type "dict")).keeps λb o e=>Y7 _ e
 have Ci:((HL.push {cls:=.type "dict",data:=.dict #[]}).push {cls:=.type "cell",data:=.cell none}).get? (HL.objs.size+1)=some {cls:=.type "cell",data:=.cell none}:=by
  rw[<-Heap.size_push HL {cls:=.type "dict",data:=.dict #[]}];exact Zp _ rfl
 have old:∀b o,s2.heap.get? b=some o->((HL.push {cls:=.type "dict",data:=.dict #[]}).push {cls:=.type "cell",data:=.cell none}).get? b=some o:=λb o e=>Y7 _ (Y7 _ (eK▸Y7 _ e))
 have jS:((HL.push {cls:=.type "dict",data:=.dict #[]}).push {cls:=.type "cell",data:=.cell none}).get? s2.heap.objs.size=some {cls:=.type "list",data:=.seq ([]:List Value).toArray}:=
  Y7 _ (Y7 _ (eK▸Zp _ rfl))
 generalize hH1:((HL.push {cls:=.type "dict",data:=.dict #[]}).push {cls:=.type "cell",data:=.cell none})=h₁ at df Ci old jS;show codeAny _ _ (.compStart _ 0 _ _ (compEnvC scope ((x,HL.objs.size+1)::cl) HL.objs.size X.env)) (compPost _ _ _ none _ _ HL.objs.size) {s2 with heap:=h₁};generalize lK:HL.objs.size=C at df Ci⊢;rw[lK]at hC;have bC:∀b o,s2.heap.get? b=some o->b≠C:=λb o e=>by rw[hC];exact Zm (ZW (Zh e))
 have CP:∀b o,s2.heap.get? b=some o->C+1≠b:=λb o e=>Nat.ne_of_gt (Nat.lt_trans (Zh e) (by rw[hC];exact ZW (Nat.lt_succ_self _)))
 have pw:∀y c,((x,C+1)::cl).lookup y=some c->(y=x/\c=C+1)\/(y≠x/\cl.lookup y=some c):=λy c e=>by
  rw[List.lookup_cons]at e;cases z:y==x with
  |true=>rw[z]at e;exact .inl ⟨eq_of_beq z,(Zf e).symm⟩
  |false=>rw[z]at e;exact .inr ⟨λq=>by rw[q]at z;simp at z,e⟩
 have lkx:((x,C+1)::cl).lookup x=some (C+1):=by rw[List.lookup_cons];simp
 have OV:∀y c,cl.lookup y=some c->((x,C+1)::cl).lookup y=some c:=λy c e=>by
  rw[List.lookup_cons];cases z:y==x with
  |true=>rw[eq_of_beq z,Cg]at e;cases e
  |false=>exact e
 have Od:∀y c,cl.lookup y=some c->C+1≠c:=λy c e=>by
  obtain⟨v,oc,bQ,_⟩:=I2.cell y c (aS _ _ e);exact CP c oc bQ
 have xi:∀b∈bP X.stack,∃o,s2.heap.get? b=some o:=λb hb=>by
  obtain⟨_,o,ho,_⟩:=I2.stack.mem hb;exact⟨o,ho⟩
 have dY:∀b∈fp,∃o,s2.heap.get? b=some o/\∀v,o.data≠.cell v:=λb hb=>T.obj 0 _ gm b hb
 have gX:∀b∈fp,b∉bP X.stack:=λb hb z=>by
  rcases Y4.mp (I2.kf b z)with z|z
  ·exact(f2 b hb).2.1 z
  ·exact(f2 b hb).2.2.1 z
 let B:=X.Cf (x::fr) scope cl x C s2 H2 fp
 have lL:B.Ok:=by
  refine⟨I2.ok.mod,cZ,I2.ok.glob,I2.ok.blt,(by show s2.heap.objs.size<=C;rw[hC];exact Nat.le_succ _),λy z c e1 e2=>?inj,λy hy=>?has,λy c z e=>?cab,
   λ_=>I2.ok.hd hc,I2.ok.frames,.inl rfl,λb hb=>⟨?fb,λy c e=>?fc⟩,I2.bs,ZQ I2.ok.iO I2.sz,λb o e hb=>?bs,λb hb=>gX b hb,I2.stack,I2.oq⟩
  case inj=>
   rcases pw _ _ e1 with⟨q1,q2⟩|⟨q1,q2⟩<;>rcases pw _ _ e2 with⟨q3,q4⟩|⟨q3,q4⟩
   ·rw[q1,q3]
   ·exact absurd q2.symm (Od _ _ q4)
   ·exact absurd q4.symm (Od _ _ q2)
   ·exact I2.ok.inj y z c (aS _ _ q2) (aS _ _ q4)
  case has=>
   rcases eZ y hy with q|⟨c,q⟩
   ·rw[q];exact⟨_,lkx⟩
   ·exact⟨c,OV _ _ q⟩
  case cab=>
   rcases pw _ _ e with⟨q1,q2⟩|⟨q1,q2⟩
   ·rw[q2];show s2.heap.objs.size<=C+1;rw[hC];exact Nat.le_succ_of_le (Nat.le_succ _)
   ·exact absurd (eq_of_beq z) q1
  case fb=>
   obtain⟨o,e,_⟩:=dY b hb;exact bC b o e
  case fc=>
   rcases pw _ _ e with⟨q1,q2⟩|⟨q1,q2⟩
   ·obtain⟨o,e,_⟩:=dY b hb;rw[q2];exact CP b o e
   ·exact(f2 b hb).2.2.2.2.1 y c (aS _ _ q2)
  case bs=>
   rcases(f2 b hb).2.2.2.1 with z|z
   ·exact I2.ok.kq b o e z
   ·exact absurd (Zv (Zh (I2.ok.bs b o e).1) z) (Z3 _)
 have IB:∀tk,Inv B [] (bE ix none σ) (upd H2 s2.heap.objs.size (.lst [])) {s2 with heap:=h₁,toks:=tk}:=λtk=>by
  refine⟨lL,rfl,I2.bare,Un.laid old (Y2 _) g6,⟨_,df,λj y v e1 e2 e3=>?_⟩,λy c e=>?_,?_,λy c e=>?_,(λp hp=>nomatch hp),I2.ao.laid old (Y2 _) ⟨Zo _,[],0,.nil,jS⟩,?_⟩
  ·cases j with
   |zero=>cases(show(some none:Option (Option V))=some (some v)from e2)
   |succ j=>
    have e1:fr[j]?=some y:=e1;have e2:(ix.map λi=>(σ[i]?).join)[j]?=some (some v):=e2;have hj:=congrArg (λl=>l[j]?) fI;simp only[Ze,e1]at hj;rw[Ze]at e2;cases jT:ix[j]? with
    |none=>rw[jT]at e2;cases e2
    |some i=>
     rw[jT]at hj e2;have hj:X.N[i]?=some y:=Zf hj;have e2:(σ[i]?).join=some v:=Zf e2
     have e2:σ[i]?=some (some v):=by
      cases z:σ[i]? with
      |none=>rw[z]at e2;cases e2
      |some z'=>rw[z]at e2;rw[show z'=some v from e2]
     obtain⟨m,hn,hl⟩:=I2.loc;have hk:=dN y (Y5 e1);obtain⟨u,ru,lk⟩:=hl i y v hj e2 (.inr (.inl hk.1));refine⟨u,ru,.inr ⟨.inl hk.2,?_⟩⟩;rcases lk with⟨z,_⟩|⟨_,c,ec,⟨oc,bQ,bR⟩⟩
     ·rw[hk.1]at z;cases z
     ·rcases eZ y (.inl hk.2)with q|⟨c',jU⟩
      ·rw[q]at e1;exact absurd (Y5 e1) (ZG.mp hN).1
      ·have:=aS _ _ jU;rw[ec]at this;cases this;exact⟨c,OV _ _ jU,oc,old c oc bQ,bR⟩
  ·rcases pw _ _ e with⟨q1,q2⟩|⟨q1,q2⟩
   ·rw[q2];exact⟨_,_,Ci,rfl⟩
   ·obtain⟨v,oc,bQ,bR⟩:=I2.cell y c (aS _ _ q2);exact⟨v,oc,old c oc bQ,bR⟩
  ·show upd H2 s2.heap.objs.size (.lst []) C=none;rw[ah (by rw[hC];exact Nat.succ_ne_self _)];exact I2.ao.fresh (by rw[hC];exact Nat.le_succ _)
  ·rcases pw _ _ e with⟨q1,q2⟩|⟨q1,q2⟩
   ·rw[q2,ah (by rw[hC];exact Nat.ne_of_gt (ZW (Nat.lt_succ_self _)))];exact I2.ao.fresh (by rw[hC];exact Nat.le_succ_of_le (Nat.le_succ _))
   ·obtain⟨v,oc,bQ,bR⟩:=I2.cell y c (aS _ _ q2);rw[ah (Zm (Zh bQ))];exact I2.eC y c (aS _ _ q2)
  ·show(bE ix none σ).length=(x::fr).length;have:=congrArg List.length fI;simp only[Y0]at this;simp[bE,this]
 have dZ:∀tk,tn 0 ({s2 with heap:=h₁,toks:=tk}:Shared).heap:=λ_=>T.keep 0 _ _ gm λb hb o e=>old b o e
 have fB:∀{H':Hp},(∀b∈fp,H' b=none)->∀b∈fp,iG B [] H' b:=λhn b hb=>by
  obtain⟨o,e,_⟩:=dY b hb;refine⟨hn b hb,bC b o e,gX b hb,.inl hb,λy c ec=>?_,(λp hp=>nomatch hp)⟩;rcases pw _ _ ec with⟨q1,q2⟩|⟨q1,q2⟩
  ·rw[q2];exact CP b o e
  ·exact(f2 b hb).2.2.2.2.1 y c (aS _ _ q2)
 have loop:∀tk,codeAny (model X.prog X.w) X.A (.compLoop (.ListComp elt [⟨.Name x px,iter,[],0⟩] scope pos) 0 (.ref it) (.ref s2.heap.objs.size) (compEnvC scope ((x,C+1)::cl) C X.env))
   (compPost (model X.prog X.w) X.A X.xe none (EP X pins σ Q) (.ref s2.heap.objs.size) C) {s2 with heap:=h₁,toks:=tk}:=λtk=>by
  refine codeAny_loop rfl (λn s'=>∃i ys x' H',Inv B [] (bE ix x' σ) H' s'/\tn i s'.heap/\(∀b∈fp,H' b=none)/\W i n ys H') (λn s3 hI=>?_) m0 ⟨0,[],none,_,IB tk,dZ tk,λb hb=>?_,w0⟩
  ·obtain⟨i,ys,x',H3,I3,eG,dX,w3⟩:=hI;show wpAny _ _ ((compTurn (.ListComp elt [⟨.Name x px,iter,[],0⟩] scope pos) 0 (.ref it) (.ref s2.heap.objs.size) (compEnvC scope ((x,C+1)::cl) C X.env)).onRaise (λzz=>do noteFrame zz (compEnvC scope ((x,C+1)::cl) C X.env);theTreesLotGoes zz)) _ _ s3;refine wpAny_noted ?_;rw[compTurn_list1];obtain⟨xj,alt⟩:=turn i n ys H3 w3;refine wpAny_bind (wpAny_standAt (wpAny_bind ?_));rcases alt with⟨stop,qn⟩|⟨go,hlen,step⟩
   ·refine au (T.done B rfl rfl rfl hc i [] s3 _ H3 _ I3 (fB dX) eG stop) λr s4 ⟨hr,I4⟩=>?_;subst hr;refine ZV ?_;obtain⟨m4,jV,_⟩:=I4.loc;refine⟨m4,jV,λh' sb=>?_⟩
    have un:Un (bP X.stack) fp H2 H3 s2.heap h':=by
     have u:=I4.base;refine⟨λb o e n hb hx=>(sb.2 b (bC b o e)).trans (u.keep b o e n hb hx),λb o e n hb hx=>?_,u.free,λb o e hx=>?_,u.fY,u.fA,u.fZ⟩
     ·obtain⟨sl,e1⟩:=u.slot b o e n hb hx;exact⟨sl,(sb.2 b (bC b o e)).trans e1⟩
     ·obtain⟨o',e1⟩:=u.there b o e hx;exact⟨o',(sb.2 b (bC b o e)).trans e1⟩
    refine⟨.ref s2.heap.objs.size,H3,I2.mR (s':={s4 with heap:=h'}) (ch:=fp) I4.os un (I4.ao.sameBut I4.free sb) I4.bare (λb hb=>⟨(f2 b hb).2.2.2.1,(f2 b hb).2.1,(f2 b hb).2.2.2.2⟩),rfl,qn⟩
   ·refine au (T.item B rfl rfl rfl hc i [] s3 _ H3 _ I3 (fB dX) eG go) λr s4 ⟨u,hr,h4⟩=>?_;subst hr;refine wpAny_bind (au h4 λ_ s5 ⟨xv,H5,I5,r5,y5,dt,jN⟩=>?_);have jO:=I5.pinned (fB jN) (T.obj _ _ dt);refine wpAny_bind (wpAny_assign_Name (kO (i:=0) (X:=B) jO hN rfl (.inr hx) r5 (λs6 I6=>?_) (.inl (beq_self_eq_true x))));have I6:Inv B ([]++jC fp s5.heap) (bE ix (some xv) σ) H5 s6:=I6;refine wpAny_bind (wpAny_bind (wpAny_mono (he C s2 H2 fp _ s6 _ H5 _ I6 (step xv H5 y5)) (λv s7 ⟨y,H7,I7,r7,tX,m',hm,w7⟩=>?_) λ_ _ z=>Zu z))
    refine wpAny_bind (wpAny_mono (fu (X:=B) _ s7 _ H7 (.ref s2.heap.objs.size) [y] (.ref s2.heap.objs.size) [v] (λ_ H8=>H8=upd H7 s2.heap.objs.size (.lst (ys++[y]))) I7 rfl (.cons r7 .nil) ⟨_,ys,y,rfl,rfl,tX,hlen,rfl⟩)
     (λ_ s8 ⟨_,H8,I8,_,e8⟩=>?_) λ_ _ z=>Zu z)
    subst e8;refine ZV (ZV ⟨rfl,m',hm,i+1,ys++[y],some xv,_,I8.j4,T.keep _ _ _ dt λb hb o e=>(I8.pin (b,o) (Za _ (Za _ (gN hb e)))).1,λb hb=>?_,w7⟩);obtain⟨o,e,d⟩:=T.obj _ _ dt b hb;exact(I8.pin (b,o) (Za _ (Za _ (gN hb e)))).2.1
  ·obtain⟨o,e,_⟩:=dY b hb;rw[ah (Zm (Zh e))];exact(f2 b hb).1
 exact codeAny_compStart_list (loop _) (T.self _ 0 _ _ _ (dZ _) (loop _))
end
end L2
namespace My
open PySem L2
def bB.pop{n:Nat}{rows:List Addr}{rd:Addr->List Int}{st:FS}{W:List (Addr×Addr×Int)}{e:Addr×Addr×Int}(h:bB n rows rd st)(hW:st.W=W++[e]):bB n rows rd {st with W:=W}/\A0 rows rd st.l e:=
 ⟨⟨h.ax,h.g8,h.iQ,h.nd,λx hx=>h.wt x (by rw[hW];exact Zb _ hx)⟩,h.wt e (by rw[hW];exact Za _ (Y1.mpr rfl))⟩
def bB.t6{n:Nat}{rows:List Addr}{rd:Addr->List Int}{st:FS}(h:bB n rows rd st)(s:List (List Int)):bB n rows rd {st with ss:=s}:=⟨h.ax,h.g8,h.iQ,h.nd,h.wt⟩
def bB.lay{n:Nat}{rows:List Addr}{rd:Addr->List Int}{st:FS}(R:Rows n rows rd)(h:bB n rows rd st){a:Addr}(ha:a∈rows):
  bB n rows rd (gc rd st a)/\(gc rd st a).l=st.l/\(gc rd st a).ss=st.ss/\(gc rd st a).W.length<=st.W.length+2:=by
 have row:=R.row a ha;have fh:=h.put (km h.ax (row.mk 1).2).1 ha (.inl rfl:gH 1) (h.g8 _ (row.mk 1).2).symm;have lN:=fh.put (km fh.ax (row.mk (-1)).2).1 ha (.inr rfl:gH (-1)) (fh.g8 _ (row.mk (-1)).2).symm;refine⟨lN,(oE ..).trans (oE ..),(Ao ..).trans (Ao ..),?_⟩;have w1:=vK st (at_ st.l (My.mk (rd a) 1)) ((rd a).getD 2 0) 1 a;have w2:=vK (cy st (at_ st.l (My.mk (rd a) 1)) ((rd a).getD 2 0) 1 a) (at_ (cy st (at_ st.l (My.mk (rd a) 1)) ((rd a).getD 2 0) 1 a).l (My.mk (rd a) (-1))) ((rd a).getD 2 0) (-1) a;unfold gc;dsimp only;omega
def jq(n:Nat)(start:Ps):FS:={l:=fF n start,D:=λ_=>[],W:=[],ss:=[]}
def sI{n a:Nat}(h:a<n):(cR n).getD a 0=a:=by
 unfold cR;simp[List.getD,Ze,List.getElem?_range h]
def MG{n:Nat}{rows:List Addr}{rd:Addr->List Int}{start:Ps}(h:∀p∈start,fQ n p.2):bB n rows rd (jq n start):=by
 refine⟨KO _ h,?_,λm hm e he=>(nomatch he),λm hm=>List.nodup_nil,λe he=>(nomatch he)⟩;show∀a,a<n->(fF n start).getD (at_ (fF n start) a) 0=(fF n start).getD a 0
 suffices∀(start:Ps) (l:List Int),c9 n l->(∀a,a<n->l.getD (at_ l a) 0=l.getD a 0)->(∀p∈start,fQ n p.2)->∀a,a<n->(start.foldl (λl p=>eM l p.2) l).getD (at_ (start.foldl (λl p=>eM l p.2) l) a) 0=(start.foldl (λl p=>eM l p.2) l).getD a 0 from
  this start (cR n) (Am n) (λa ha=>by
   have e:=sI ha;have:at_ (cR n) a=a:=by unfold at_;rw[e];simp
   rw[this]) h
 clear h start;intro start
 induction start with
 |nil=>intro l _ h _;exact h
 |cons p ps ih=>
  intro l L h hp;obtain⟨a,b,er,ha,hb⟩:=hp p (Y8 ..);have e:eM l p.2=jn l a b:=by rw[er];rfl
  exact ih (eM l p.2) (L.eM ⟨a,b,er,ha,hb⟩) (by rw[e];exact A1 L h ha hb) λq hq=>hp q (Y3 _ hq)
def WN{n:Nat}{rows:List Addr}{rd:Addr->List Int}{st:FS}(R:Rows n rows rd)(h:bB n rows rd st){x y:Addr}{s:Int}(w:A0 rows rd st.l (x,y,s)):
  bB n rows rd (gB rd st x y s)/\11*cE (gB rd st x y s).l+(gB rd st x y s).W.length<=11*cE st.l+st.W.length/\(gB rd st x y s).W.length+10*cE (gB rd st x y s).l<=st.W.length+10*cE st.l/\(gB rd st x y s).ss.length+cE (gB rd st x y s).l<=st.ss.length+cE st.l:=by
 have rx:=(R.row x w.x).mk (-s);have ry:=(R.row y w.y).mk (-s);unfold gB;by_cases e:st.l.getD (My.mk (rd x) (-s)) 0=st.l.getD (My.mk (rd y) (-s)) 0
 ·rw[if_pos e];exact⟨h,Y2 _,Y2 _,Y2 _⟩
 ·rw[if_neg e];obtain⟨o1,o2,o3,o4⟩:=(h.t6 (st.ss++[[(rd x).getD 0 0,(rd y).getD 0 0,s]])).merge R rx.2 ry.2;have lt:=Bs h.ax rx.2 ry.2 e;refine⟨o1,?_,?_,?_⟩
  ·rw[o2];dsimp only at o4⊢;omega
  ·rw[o2];dsimp only at o4⊢;omega
  ·rw[o2,o3];dsimp only;rw[Zn,List.length_singleton];omega
def Keeps(n:Nat)(rows:List Addr)(rd:Addr->List Int)(J:FS->Prop):Prop:=∀(st:FS) (W:List (Addr×Addr×Int)) (x y:Addr) (s:Int),bB n rows rd st->st.W=W++[(x,y,s)]->J st->J (gB rd {st with W:=W} x y s)
inductive GL(CF CG:Addr)(vs:List V)(H:Hp)(Q:VK)(aA:XK):Prop
 |mk (H0:Hp) (rows:List Addr) (rd:Addr->List Int) (n:Nat) (f:Addr) (d:FA) (st:FS) (J:FS->Prop) (_:vs=[.ref f]) (_:Frame CF CG H0 rows rd n) (_:bU CF CG H0 H f d n st) (_:bB n rows rd st) (_:Keeps n rows rd J) (_:J st) (_:st.W.length+10*cE st.l<=9000000) (_:st.ss.length+cE st.l<=9000000) (_:∀(aX:FS) (H':Hp),bU CF CG H0 H' f d n aX->bB n rows rd aX->J aX->aX.W=[]->aX.ss.length<=9000000->Kx d H H'->Q .aI H'):GL CF CG vs H Q aA
def zO(CF CG:Addr):Sp:=GL CF CG
inductive HX(CF CG:Addr)(vs:List V)(H:Hp)(Q:VK)(aA:XK):Prop
 |mk (H0:Hp) (f dx:Addr) (n:Nat) (ls:Addr) (ps:Ps) (_:vs=[.ref f,.int n,.ref ls]) (_:H f=some (.ins CF dx [])) (_:H0 f=none) (_:aa H0 H) (_:Tl H ls ps) (_:(∀p∈ps,fQ n p.2)) (_:n<=1000) (_:ps.length<=1000) (_:CF≠CG) (_:∀(d:FA) (H':Hp),bU CF CG H0 H' f d n (jq n ps)->Q .aI H'):HX CF CG vs H Q aA
def KY(CF CG:Addr):Sp:=HX CF CG
def bZ(ps:Ps)(a:Addr):List Int:=match ps.find? (λp=>p.1==a)with
 |some p=>p.2
 |none=>[]
def SQ{a b:List Int}(h:a.map V.int=b.map V.int):a=b:=by
 induction a generalizing b with
 |nil=>cases b with
  |nil=>rfl
  |cons _ _=>cases h
 |cons x a ih=>cases b with
  |nil=>cases h
  |cons y b=>
   obtain⟨h1,h2⟩:=List.cons.inj h;rw[V.int.inj h1,ih h2]
def mK{H:Hp}{ps:Ps}(tp:Tp H ps){p:Addr×List Int}(hp:p∈ps):bZ ps p.1=p.2:=by
 unfold bZ;cases e:ps.find? (λq=>q.1==p.1)with
 |none=>
  have:=List.find?_eq_none.mp e p hp;simp at this
 |some q=>
  have h1:q.1=p.1:=by simpa using List.find?_some e
  have h2:=tp q (List.mem_of_find?_eq_some e);have h3:=tp p hp;rw[h1,h3]at h2;exact(SQ (HO.tup.inj (Zf h2))).symm
def A3(ps:Ps)(st:FS):FS:=(ps.map (·.1)).foldl (gc (bZ ps)) st
inductive GN(vs:List V)(H:Hp)(Q:VK)(aA:XK):Prop
 |mk (n:Nat) (lr ls:Addr) (ps start:Ps) (J:FS->Prop) (_:vs=[.int n,.ref lr,.ref ls]) (_:Tl H lr ps) (_:Tl H ls start) (_:(∀p∈ps,c5 n p.2/\1<=p.2.getD 2 0/\p.2.getD 2 0<=5)) (_:(∀p∈start,fQ n p.2)) (_:n<=700) (_:ps.length<=1000) (_:start.length<=1000) (_:Keeps n (ps.map (·.1)) (bZ ps) J) (_:J (A3 ps (jq n start))) (_:∀(t l1 l2:Addr) (sp:Ps) (st:FS) (H':Hp),H' t=some (.tup [.ref l1,.ref l2])->ay H' l1 st.l->Tl H' l2 sp->sp.map (·.2)=st.ss->bB n (ps.map (·.1)) (bZ ps) st->J st->st.W=[]->sp.length<=9000000->H l1=none->H l2=none->aa H H'->Q (.ref t) H'):GN vs H Q aA
def Jn:Sp:=GN
def WQ{lo:Int}{n:Nat}{ix:List Nat}{σ:St}{H:Hp}{Q:VK}(hn:n<=1000)
  (k:∀(D:Addr) (ds:List Addr) (H':Hp),H D=none->H' D=some (.lst (ds.map V.ref))->ds.length=n->ds.Nodup->(∀x∈ds,H x=none/\H' x=some (.dT [])/\x≠D)->aa H H'->Q (.ref D) H'):
  ∀D,H D=none->∃W:Nat->Nat->List V->Hp->Prop,(∃m,W 0 m [] (upd H D (.lst [])))/\
   ∀i m ys H2,W i m ys H2->H2 D=some (.lst ys)/\(((fH lo n).stop i H2/\Q (.ref D) H2)\/((fH lo n).go i H2/\ys.length<sizeLine/\∀x H',(fH lo n).e9 i H2 x H'->AV (bE ix (some x) σ) H' λy H3=>
    H3 D=some (.lst ys)/\∃m',m'<m/\W (i+1) m' (ys++[y]) (upd H3 D (.lst (ys++[y]))))):=by
 refine zf λD hD=>⟨λi ys H2=>∃ds:List Addr,ys=ds.map V.ref/\ds.length=i/\i<=n/\H2 D=some (.lst ys)/\ds.Nodup/\(∀x∈ds,H x=none/\H2 x=some (.dT [])/\x≠D)/\aa H H2,⟨[],rfl,rfl,Zo _,aj,List.nodup_nil,(λ_ z=>nomatch z),(aa.refl H).upd hD⟩,?_,?_,?_⟩
 ·rintro i ys H2 ⟨ds,rfl,hl,hi,e,_⟩;exact⟨e,bI (by rw[Y0];omega)⟩
 ·rintro i ys H2 hi ⟨ds,rfl,hl,_,e,nd,hx,s2⟩ Q' q' x pA;have nD:D≠x:=bj e pA
  have adZ:H x=none:=by
   cases h:H x with
   |none=>rfl
   |some o=>rw[s2 _ _ h]at pA;cases pA
  refine q' _ _ (by rw[ah nD];exact e) ⟨ds++[x],by rw[Zd];rfl,by simp[hl],hi,aj,?_,λz hz=>?_,?_⟩
  ·refine qw nd λhz=>?_;rw[(hx x hz).2.1]at pA;cases pA
  ·rcases Y6.mp hz with h|h
   ·obtain⟨h1,h2,h3⟩:=hx z h;exact⟨h1,by rw[ah h3,ah (bj h2 pA)];exact h2,h3⟩
   ·obtain rfl:=Y1.mp h;exact⟨adZ,by rw[ah nD.symm,aj],nD.symm⟩
  ·exact((s2.fE pA).upd hD)
 ·rintro ys H2 ⟨ds,rfl,hl,_,e,nd,hx,s2⟩;exact k D ds H2 hD e hl nd hx s2
def YJ{j n:Nat}{ix:List Nat}{σ:St}{H:Hp}{Q:VK}(hσ:σ[j]?=some (some (.int n)))(hn:n<=1000)
  (k:∀(D:Addr) (ds:List Addr) (H':Hp),H D=none->H' D=some (.lst (ds.map V.ref))->ds.length=n->ds.Nodup->(∀x∈ds,H x=none/\H' x=some (.dT [])/\x≠D)->aa H H'->Q (.ref D) H'):sV (Ni (kh (iE j) iI)) ix AV σ H Q:=
 ⟨_,hσ,_,rfl,by omega,by omega,⟨WQ (lo:=0) (n:=(n:Int).toNat) (by omega) λD ds H' h1 h2 h3 h4 h5 h6=>k D ds H' h1 h2 (by omega) h4 h5 h6⟩⟩
def good(l p q:List Int)(s:Int):Prop:=(s=1\/s= -1)/\p.getD 2 0=q.getD 2 0/\l.getD (mk p s) 0=l.getD (mk q s) 0/\¬l.getD (mk p (-s)) 0=l.getD (mk q (-s)) 0
instance{l p q:List Int}{s:Int}:Decidable (good l p q s):=by unfold good;infer_instance
def wG(ps:Ps)(l r:List Int):Option (List Int):=
 match kD ps (r.getD 0 0),kD ps (r.getD 1 0)with
 |some p,some q=>if good l p.2 q.2 (r.getD 2 0)then some (jn l (mk p.2 (-(r.getD 2 0))) (mk q.2 (-(r.getD 2 0))))else none
 |_,_=>none
def wP(ps:Ps)(l:List Int)(ss:List (List Int)):Option (List Int):=ss.foldl (λo r=>o.bind λl=>wG ps l r) (some l)
def YK{ps:Ps}{l:List Int}{ss:List (List Int)}{r:List Int}:wP ps l (ss++[r])=(wP ps l ss).bind λl=>wG ps l r:=by
 unfold wP;rw[List.foldl_append];rfl
def YL{ps:Ps}{l r:List Int}{p q:Addr×List Int}(e1:kD ps (r.getD 0 0)=some p)(e2:kD ps (r.getD 1 0)=some q)(g:good l p.2 q.2 (r.getD 2 0)):wG ps l r=some (jn l (mk p.2 (-(r.getD 2 0))) (mk q.2 (-(r.getD 2 0)))):=by
 unfold wG;rw[e1,e2];dsimp only;rw[if_pos g]
def qZ(ps:Ps):Prop:=∀p∈ps,∀q∈ps,p.2.getD 0 0=q.2.getD 0 0->p=q
def YM{ps:Ps}{i:Int}:∀{q:Addr×List Int},kD ps i=some q->q.2.getD 0 0=i:=by
 suffices∀(o:Option (Addr×List Int)),(∀q,o=some q->q.2.getD 0 0=i)->∀q,ps.foldl (λo p=>if i=p.2.getD 0 0 then some p else o) o=some q->q.2.getD 0 0=i from λ{q} h=>this none (λq z=>nomatch z) q h
 induction ps with
 |nil=>intro o h q e;exact h q e
 |cons p ps ih=>
  intro o h q e;refine ih (if i=p.2.getD 0 0 then some p else o) (λq z=>?_) q e;by_cases c:i=p.2.getD 0 0
  ·rw[if_pos c]at z;cases z;exact c.symm
  ·rw[if_neg c]at z;exact h q z
def abE{ps:Ps}{i:Int}{p:Addr×List Int}(hp:p∈ps)(h:p.2.getD 0 0=i):∃q,kD ps i=some q:=by
 suffices∀(o:Option (Addr×List Int)),(p∈ps\/∃q,o=some q)->∃q,ps.foldl (λo p=>if i=p.2.getD 0 0 then some p else o) o=some q from this none (.inl hp)
 clear hp
 induction ps with
 |nil=>
  intro o h;rcases h with z|z
  ·cases z
  ·exact z
 |cons a ps ih=>
  intro o hh;refine ih (if i=a.2.getD 0 0 then some a else o) ?_;rcases hh with z|⟨q,z⟩
  ·rcases Y4.mp z with rfl|z
   ·exact .inr ⟨p,by rw[if_pos h.symm]⟩
   ·exact .inl z
  ·refine .inr ?_;by_cases c:i=a.2.getD 0 0
   ·exact⟨a,if_pos c⟩
   ·exact⟨q,by rw[if_neg c];exact z⟩
def KZ{ps:Ps}(u:qZ ps){p:Addr×List Int}(hp:p∈ps):kD ps (p.2.getD 0 0)=some p:=by
 obtain⟨q,e⟩:=abE hp rfl;rw[e,u q (YF e) p hp (YM e)]
def JP(ps:Ps)(l0:List Int)(st:FS):Prop:=wP ps l0 st.ss=some st.l/\∀r∈st.ss,vY r
def SR{n:Nat}{ps:Ps}{l0:List Int}{H:Hp}(u:qZ ps)(tp:Tp H ps)(R:Rows n (ps.map (·.1)) (bZ ps)):Keeps n (ps.map (·.1)) (bZ ps) (JP ps l0):=by
 intro st W x y s ok eW ⟨j1,j2⟩;obtain⟨jr,we⟩:=ok.pop eW;unfold gB;by_cases he:st.l.getD (My.mk (bZ ps x) (-s)) 0=st.l.getD (My.mk (bZ ps y) (-s)) 0
 ·rw[if_pos he];exact⟨j1,j2⟩
 ·rw[if_neg he];obtain⟨o1,o2,o3,o4⟩:=(jr.t6 (st.ss++[[(bZ ps x).getD 0 0,(bZ ps y).getD 0 0,s]])).merge R ((R.row x we.x).mk (-s)).2 ((R.row y we.y).mk (-s)).2;refine⟨?_,?_⟩
  ·rw[o2,o3];show wP ps l0 (st.ss++[[(bZ ps x).getD 0 0,(bZ ps y).getD 0 0,s]])=some (jn st.l (My.mk (bZ ps x) (-s)) (My.mk (bZ ps y) (-s)));rw[YK,j1];obtain⟨p,hp,ep⟩:=Zg.mp we.x;obtain⟨q,hq,eq⟩:=Zg.mp we.y;have ep:p.1=x:=ep;have eq:q.1=y:=eq;subst ep eq;have k:=we.k;have nn:=we.n;dsimp only at k nn;rw[mK tp hp,mK tp hq]at he k nn⊢;have e1:kD ps (([p.2.getD 0 0,q.2.getD 0 0,s]:List Int).getD 0 0)=some p:=KZ u hp;have e2:kD ps (([p.2.getD 0 0,q.2.getD 0 0,s]:List Int).getD 1 0)=some q:=KZ u hq;exact YL e1 e2 ⟨we.s,k,nn,he⟩
  ·rw[o3];intro r hr;rcases Y6.mp hr with h|h
   ·exact j2 r h
   ·obtain rfl:=Y1.mp h;refine⟨_,_,s,rfl,?_⟩;have:s=1\/s= -1:=we.s;omega
def Cl(rs:List (List Int))(st:Ps)(c:Nat->Int):Prop:=(∀p∈st,c (p.2.getD 0 0).toNat=c (p.2.getD 1 0).toNat)/\
 ∀p∈rs,∀q∈rs,p.getD 2 0=q.getD 2 0->∀s,gH s->c (mk p s)=c (mk q s)->c (mk p (-s))=c (mk q (-s))
structure LCo(n:Nat)(rs:List (List Int))(st:Ps)(l:List Int):Prop where
 ax:c9 n l
 g8:∀a,a<n->l.getD (at_ l a) 0=l.getD a 0
 le:∀a:Nat,a<n->l.getD a 0<=a
 snd:∀c,Cl rs st c->∀a b,a<n->b<n->l.getD a 0=l.getD b 0->c a=c b
structure gn(n:Nat)(rs:List (List Int))(st:Ps)(l:List Int):Prop extends LCo n rs st l where
 t8:∀p∈st,l.getD (p.2.getD 0 0).toNat 0=l.getD (p.2.getD 1 0).toNat 0
def abF{l:List Int}{a b x y:Nat}(hx:x<l.length)(hy:y<l.length)(h:(jn l a b).getD x 0=(jn l a b).getD y 0):l.getD x 0=l.getD y 0\/(l.getD x 0=l.getD a 0/\l.getD y 0=l.getD b 0)\/(l.getD x 0=l.getD b 0/\l.getD y 0=l.getD a 0):=by
 rw[kX hx,kX hy]at h;split at h<;>split at h<;>omega
def LCo.jn{n:Nat}{rs:List (List Int)}{st:Ps}{l:List Int}(h:LCo n rs st l){a b:Nat}(ha:a<n)(hb:b<n)(hc:∀c,Cl rs st c->c a=c b):LCo n rs st (jn l a b):=by
 have ll:=h.ax.len;refine⟨h.ax.jn ha hb,A1 h.ax h.g8 ha hb,λx hx=>?_,λc cl x y hx hy e=>?_⟩
 ·rw[kX (by rw[ll];exact hx)];have h1:=h.le x hx;split<;>omega
 ·have ab:=hc c cl;rcases abF (by rw[ll];exact hx) (by rw[ll];exact hy) e with z|⟨z1,z2⟩|⟨z1,z2⟩
  ·exact h.snd c cl x y hx hy z
  ·rw[h.snd c cl x a hx ha z1,h.snd c cl y b hy hb z2,ab]
  ·rw[h.snd c cl x b hx hb z1,h.snd c cl y a hy ha z2,ab]
def fQ.to{n:Nat}{r:List Int}(h:fQ n r):(r.getD 0 0).toNat<n/\(r.getD 1 0).toNat<n:=by
 obtain⟨a,b,rfl,ha,hb⟩:=h;exact⟨by simpa using ha,by simpa using hb⟩
def gn.jn{n:Nat}{rs:List (List Int)}{st:Ps}{l:List Int}(bT:∀p∈st,fQ n p.2)(h:gn n rs st l){a b:Nat}(ha:a<n)(hb:b<n)(hc:∀c,Cl rs st c->c a=c b):gn n rs st (jn l a b):=by
 refine{h.toLCo.jn ha hb hc with t8:=λp hp=>?_};have ll:=h.ax.len;exact sH (by rw[ll];exact(bT p hp).to.1) (by rw[ll];exact(bT p hp).to.2) (h.t8 p hp)
def Jo{n:Nat}{rs:List (List Int)}{st:Ps}(bT:∀p∈st,fQ n p.2):gn n rs st (fF n st):=by
 suffices∀(todo:Ps) (l:List Int),LCo n rs st l->(∀p∈todo,p∈st)->LCo n rs st (todo.foldl (λl p=>eM l p.2) l)/\(∀p∈todo,(todo.foldl (λl p=>eM l p.2) l).getD (p.2.getD 0 0).toNat 0=(todo.foldl (λl p=>eM l p.2) l).getD (p.2.getD 1 0).toNat 0)/\
   ∀x y,x<n->y<n->l.getD x 0=l.getD y 0->(todo.foldl (λl p=>eM l p.2) l).getD x 0=(todo.foldl (λl p=>eM l p.2) l).getD y 0 by
  obtain⟨h1,h2,_⟩:=this st (cR n) ⟨Am n,λa ha=>by
   have e:=sI ha;have:at_ (cR n) a=a:=by unfold at_;rw[e];simp
   rw[this],λa ha=>by rw[sI ha];exact Int.le_refl _,λc _ a b ha hb e=>by rw[sI ha,sI hb]at e;rw[Int.ofNat.inj e]⟩ (λp hp=>hp)
  exact{h1 with t8:=h2}
 intro todo
 induction todo with
 |nil=>intro l h _;exact⟨h,(λ_ z=>nomatch z),λx y _ _ e=>e⟩
 |cons p ps ih=>
  intro l h hp;have po:=bT p (hp p (Y8 ..));have h1:LCo n rs st (eM l p.2):=h.jn po.to.1 po.to.2 λc cl=>cl.1 p (hp p (Y8 ..));obtain⟨g1,g2,g3⟩:=ih (eM l p.2) h1 λq hq=>hp q (Y3 _ hq);refine⟨g1,λq hq=>?_,λx y hx hy e=>g3 x y hx hy (sH (by rw[h.ax.len];exact hx) (by rw[h.ax.len];exact hy) e)⟩;rcases Y4.mp hq with rfl|hq
  ·exact g3 _ _ po.to.1 po.to.2 (rZ h.ax po.to.1 po.to.2)
  ·exact g2 q hq
def closed(rs:List (List Int))(l:List Int):Prop:=∀p∈rs,∀q∈rs,p.getD 2 0=q.getD 2 0->∀s,gH s->l.getD (mk p s) 0=l.getD (mk q s) 0->l.getD (mk p (-s)) 0=l.getD (mk q (-s)) 0
def gn.lt{n:Nat}{rs:List (List Int)}{st:Ps}{l1 l2:List Int}(h1:gn n rs st l1)(c1:closed rs l1)(h2:gn n rs st l2):∀a,a<n->l1.getD a 0<=l2.getD a 0:=by
 intro a ha;have cl:Cl rs st (λa=>l1.getD a 0):=⟨h1.t8,c1⟩;obtain⟨m1,m2⟩:=km h2.ax ha;have e:=h2.snd _ cl _ _ m1 ha (h2.g8 a ha);have:=h1.le _ m1;omega
def gn.unique{n:Nat}{rs:List (List Int)}{st:Ps}{l1 l2:List Int}(h1:gn n rs st l1)(c1:closed rs l1)(h2:gn n rs st l2)(c2:closed rs l2):l1=l2:=by
 refine List.ext_getElem (by rw[h1.ax.len,h2.ax.len]) λi pB g7=>?_;have hi:i<n:=by rw[<-h1.ax.len];exact pB
 have a:=h1.lt c1 h2 i hi;have b:=h2.lt c2 h1 i hi;simp only[List.getD,Zc pB,Zc g7,Option.getD_some]at a b;omega
def nE(n:Nat)(rd:Addr->List Int)(st:FS)(c:Nat->Int):Prop:=(∀x y,x<n->y<n->st.l.getD x 0=st.l.getD y 0->c x=c y)/\∀e∈st.W,c (mk (rd e.1) (-e.2.2))=c (mk (rd e.2.1) (-e.2.2))
def kG(n:Nat)(rd:Addr->List Int)(st:FS)(m:Nat)(k s:Int)(v:Nat):Prop:=∃r:Addr,bq (st.D m) (key k s)=some (.ref r)/\∀c,nE n rd st c->c v=c (mk (rd r) (-s))
def K0{n:Nat}{rd:Addr->List Int}{st:FS}{m:Nat}{k s:Int}{a:Addr}{c:Nat->Int}(h:nE n rd (cy st m k s a) c):nE n rd st c:=by
 refine⟨λx y hx hy e=>h.1 x y hx hy (by rw[oE];exact e),λe he=>h.2 e ?_⟩;unfold cy;split
 ·exact Zb _ he
 ·exact he
 ·exact he
def vA{n:Nat}{rd:Addr->List Int}{st:FS}{m m':Nat}{k s k' s':Int}{a:Addr}{v:Nat}(h:kG n rd st m' k' s' v):kG n rd (cy st m k s a) m' k' s' v:=by
 obtain⟨r,e,hc⟩:=h;refine⟨r,?_,λc ad=>hc c (K0 ad)⟩;unfold cy;split
 ·exact e
 ·exact e
 ·rename_i en;show bq (if m'=m then putK (st.D m) (key k s) (.ref a)else st.D m') (key k' s')=_;by_cases hm:m'=m
  ·subst hm;rw[if_pos rfl,zM,if_neg (λz=>by rw[z,en]at e;cases e)];exact e
  ·rw[if_neg hm];exact e
def Aq{n:Nat}{rows:List Addr}{rd:Addr->List Int}{st:FS}(ok:bB n rows rd st){m:Nat}(hm:m<n){k s:Int}{a:Addr}:kG n rd (cy st m k s a) m k s (mk (rd a) (-s)):=by
 unfold cy;cases e:bq (st.D m) (key k s)with
 |none=>
  refine⟨a,?_,λc _=>rfl⟩;show bq (if m=m then putK (st.D m) (key k s) (.ref a)else st.D m) (key k s)=_;rw[if_pos rfl,zM,if_pos rfl]
 |some v=>
  obtain⟨s',r,er,_⟩:=(ok.iQ m hm _ (so e)).is;obtain rfl:v=.ref r:=(Prod.mk.inj er).2;refine⟨r,e,λc ad=>?_⟩;exact(ad.2 (r,a,s) (Za _ (Y1.mpr rfl))).symm
def WT{n:Nat}{rows:List Addr}{rd:Addr->List Int}{low:Nat}(wF:low<n):∀(es:List (List Key×V)) (st:FS),bB n rows rd st->(∀e∈es,vJ rows rd st.l low e)->
  (∀c,nE n rd (es.foldl (dS low) st) c->nE n rd st c)/\(∀m k s v,kG n rd st m k s v->kG n rd (es.foldl (dS low) st) m k s v)/\∀e∈es,∀k s r,e=(key k s,V.ref r)->kG n rd (es.foldl (dS low) st) low k s (mk (rd r) (-s)):=by
 intro es
 induction es with
 |nil=>intro st h _;exact⟨λc h=>h,λm k s v h=>h,λ_ z=>nomatch z⟩
 |cons e es ih=>
  intro st h he;obtain⟨s,r,er,hr,hs,hl⟩:=(he e (Y8 ..)).is;subst er;have h1:bB n rows rd (dS low st (key ((rd r).getD 2 0) s,.ref r)):=h.put wF hr hs hl;have l1:(dS low st (key ((rd r).getD 2 0) s,.ref r)).l=st.l:=oE ..;obtain⟨a1,a2,a3⟩:=ih _ h1 (λe' h'=>by rw[l1];exact he e' (Y3 _ h'));refine⟨λc ad=>K0 (a1 c ad),λm k' s' v cv=>a2 _ _ _ _ (vA cv),λe' h' k' s' r' z=>?_⟩;rcases Y4.mp h' with rfl|h'
  ·obtain⟨z1,z2⟩:=Prod.mk.inj z;have e2:(rd r).getD 2 0=k':=Sum.inl.inj (List.cons.inj z1).1;have e3:s=s':=Sum.inl.inj (List.cons.inj (List.cons.inj z1).2).1;have e4:r=r':=V.ref.inj z2;subst e2 e3 e4;exact a2 _ _ _ _ (Aq h wF)
  ·exact a3 e' h' k' s' r' z
def t9(n:Nat)(rd:Addr->List Int)(La:Addr->Int->Prop)(st:FS):Prop:=∀r s,La r s->kG n rd st (at_ st.l (mk (rd r) s)) ((rd r).getD 2 0) s (mk (rd r) (-s))
def YN{n:Nat}{rows:List Addr}{rd:Addr->List Int}(R:Rows n rows rd):∀(as:List Addr) (st:FS) (La:Addr->Int->Prop),bB n rows rd st->(∀a∈as,a∈rows)->t9 n rd La st->t9 n rd (λr s=>La r s\/(r∈as/\gH s)) (as.foldl (gc rd) st):=by
 intro as
 induction as with
 |nil=>intro st La _ _ h r s z;exact h r s (z.elim id λy=>nomatch y.1)
 |cons a as ih=>
  intro st La ok ha h;have ar:=ha a (Y8 ..);have row:=R.row a ar;have m1:=(km ok.ax (row.mk 1).2).1;have fh:=ok.put m1 ar (.inl rfl:gH 1) (ok.g8 _ (row.mk 1).2).symm;have m2:=(km fh.ax (row.mk (-1)).2).1;obtain⟨o1,o2,_,_⟩:=ok.lay R ar;refine λr0 s0 z0=>ih (gc rd st a) (λr s=>La r s\/(r=a/\gH s)) o1 (λb hb=>ha b (Y3 _ hb)) ?_ r0 s0 ?_
  ·intro r s z;rw[o2];rcases z with z|⟨rfl,hz⟩
   ·exact vA (vA (h r s z))
   ·have hz:s=1\/s= -1:=hz;rcases hz with rfl|rfl
    ·exact vA (Aq ok m1)
    ·have:=Aq (k:=(rd r).getD 2 0) (s:= -1) (a:=r) fh m2;rw[oE]at this;unfold gc;dsimp only;rw[oE];exact this
  ·rcases z0 with z|⟨z,hs⟩
   ·exact .inl (.inl z)
   ·rcases Y4.mp z with z|z
    ·exact .inl (.inr ⟨z,hs⟩)
    ·exact .inr ⟨z,hs⟩
def WU{n:Nat}{rows:List Addr}{rd:Addr->List Int}(R:Rows n rows rd){La:Addr->Int->Prop}(hLa:∀r s,La r s->r∈rows/\gH s):Keeps n rows rd (t9 n rd La):=by
 intro st W x y s ok eW h;obtain⟨jr,we⟩:=ok.pop eW;have rx:=(R.row x we.x).mk (-s);have ry:=(R.row y we.y).mk (-s);unfold gB;by_cases he:st.l.getD (My.mk (rd x) (-s)) 0=st.l.getD (My.mk (rd y) (-s)) 0
 ·rw[if_pos he];intro r s' z;obtain⟨r',e,hc⟩:=h r s' z;refine⟨r',e,λc ad=>hc c ⟨ad.1,λe' h'=>?_⟩⟩;rw[eW]at h';rcases Y6.mp h' with q|q
  ·exact ad.2 e' q
  ·obtain rfl:=Y1.mp q;exact ad.1 _ _ rx.2 ry.2 he
 ·rw[if_neg he];have OW:=jr.t6 (st.ss++[[(rd x).getD 0 0,(rd y).getD 0 0,s]]);obtain⟨lo,hi,el,eh⟩:=qi ok.ax rx.2 ry.2;have OX:=OW.join R lo hi;obtain⟨o1,o2,_,_⟩:=OW.merge R rx.2 ry.2;have jl:=MB ok.ax ok.g8 rx.2 ry.2;have ll:=ok.ax.len
  have OY:∀c,nE n rd {st with W:=W,ss:=st.ss++[[(rd x).getD 0 0,(rd y).getD 0 0,s]],l:=jn st.l (cQ st.l (My.mk (rd x) (-s)) (My.mk (rd y) (-s))) (bV st.l (My.mk (rd x) (-s)) (My.mk (rd y) (-s)))} c->nE n rd st c:=λc ad=>by
   have xp:=ad.1;dsimp only at xp;rw[jl]at xp;refine⟨λa b ha hb e=>xp a b ha hb (sH (by rw[ll];exact ha) (by rw[ll];exact hb) e),λe' h'=>?_⟩;rw[eW]at h';rcases Y6.mp h' with q|q
   ·exact ad.2 e' q
   ·obtain rfl:=Y1.mp q;exact xp _ _ rx.2 ry.2 (rZ ok.ax rx.2 ry.2)
  have cv1:∀m k s' v,kG n rd st m k s' v->kG n rd {st with W:=W,ss:=st.ss++[[(rd x).getD 0 0,(rd y).getD 0 0,s]],l:=jn st.l (cQ st.l (My.mk (rd x) (-s)) (My.mk (rd y) (-s))) (bV st.l (My.mk (rd x) (-s)) (My.mk (rd y) (-s)))} m k s' v:=λm k s' v ⟨r',e,hc⟩=>⟨r',e,λc ad=>hc c (OY c ad)⟩
  obtain⟨f1,f2,f3⟩:=WT lo (st.D (bV st.l (My.mk (rd x) (-s)) (My.mk (rd y) (-s)))) _ OX λe he=>by
   obtain⟨s,r,er,hr,hs,hl⟩:=(OX.iQ _ hi e he).is;exact⟨s,r,er,hr,hs,hl.trans (rZ ok.ax lo hi).symm⟩
  intro r s' z;obtain⟨xq,hss⟩:=hLa r s' z;have rr:=((R.row r xq).mk s').2;have cv:=h r s' z;have ej:=kX (l:=st.l) (a:=My.mk (rd x) (-s)) (b:=My.mk (rd y) (-s)) (x:=My.mk (rd r) s') (by rw[ll];exact rr);rw[o2];show kG n rd ((st.D (bV st.l (My.mk (rd x) (-s)) (My.mk (rd y) (-s)))).foldl (dS (cQ st.l (My.mk (rd x) (-s)) (My.mk (rd y) (-s)))) _) (at_ (jn st.l (My.mk (rd x) (-s)) (My.mk (rd y) (-s))) (My.mk (rd r) s')) _ _ _;by_cases hh:st.l.getD (My.mk (rd r) s') 0=max (st.l.getD (My.mk (rd x) (-s)) 0) (st.l.getD (My.mk (rd y) (-s)) 0)
  ·rw[if_pos hh]at ej;have e1:at_ (jn st.l (My.mk (rd x) (-s)) (My.mk (rd y) (-s))) (My.mk (rd r) s')=cQ st.l (My.mk (rd x) (-s)) (My.mk (rd y) (-s)):=by unfold at_;rw[ej];rfl
   have e2:at_ st.l (My.mk (rd r) s')=bV st.l (My.mk (rd x) (-s)) (My.mk (rd y) (-s)):=by unfold at_;rw[hh];rfl
   rw[e2]at cv;obtain⟨r',e,hc⟩:=cv;obtain⟨r'',e',dA⟩:=f3 _ (so e) _ _ r' rfl;rw[e1];exact⟨r'',e',λc ad=>(hc c (OY c (f1 c ad))).trans (dA c ad)⟩
  ·rw[if_neg hh]at ej;have e1:at_ (jn st.l (My.mk (rd x) (-s)) (My.mk (rd y) (-s))) (My.mk (rd r) s')=at_ st.l (My.mk (rd r) s'):=by unfold at_;rw[ej]
   rw[e1];exact f2 _ _ _ _ (cv1 _ _ _ _ cv)
def UU{n:Nat}{ps start:Ps}{H:Hp}(tp:Tp H ps)(bT:∀p∈start,fQ n p.2)(R:Rows n (ps.map (·.1)) (bZ ps)):Keeps n (ps.map (·.1)) (bZ ps) (λst=>gn n (ps.map (·.2)) start st.l):=by
 intro st W x y s ok eW h;obtain⟨jr,we⟩:=ok.pop eW;unfold gB;by_cases he:st.l.getD (My.mk (bZ ps x) (-s)) 0=st.l.getD (My.mk (bZ ps y) (-s)) 0
 ·rw[if_pos he];exact h
 ·rw[if_neg he];have rx:=(R.row x we.x).mk;have ry:=(R.row y we.y).mk;obtain⟨o1,o2,o3,o4⟩:=(jr.t6 (st.ss++[[(bZ ps x).getD 0 0,(bZ ps y).getD 0 0,s]])).merge R (rx (-s)).2 (ry (-s)).2;show gn n (ps.map (·.2)) start (mP _ _ _).l;rw[o2];refine h.jn bT (rx (-s)).2 (ry (-s)).2 λc cl=>?_;obtain⟨p,hp,ep⟩:=Zg.mp we.x;obtain⟨q,hq,eq⟩:=Zg.mp we.y;have ep:p.1=x:=ep;have eq:q.1=y:=eq;subst ep eq;have k:=we.k;have nn:=h.snd c cl _ _ (rx s).2 (ry s).2 we.n;dsimp only at k;rw[mK tp hp,mK tp hq]at k nn⊢;exact cl.2 p.2 (Zg.mpr ⟨p,hp,rfl⟩) q.2 (Zg.mpr ⟨q,hq,rfl⟩) k s we.s nn
def Tw{n:Nat}{ps:Ps}{H:Hp}{st:FS}(tp:Tp H ps)(ok:bB n (ps.map (·.1)) (bZ ps) st)(h:t9 n (bZ ps) (λr s=>r∈ps.map (·.1)/\gH s) st)(w:st.W=[]):closed (ps.map (·.2)) st.l:=by
 intro a ha b hb k s hs e;obtain⟨p,hp,rfl⟩:=Zg.mp ha;obtain⟨q,hq,rfl⟩:=Zg.mp hb;have ad:nE n (bZ ps) st (λa=>st.l.getD a 0):=⟨λx y _ _ e=>e,λe he=>by rw[w]at he;cases he⟩;obtain⟨r1,e1,c1⟩:=h p.1 s ⟨Zg.mpr ⟨p,hp,rfl⟩,hs⟩;obtain⟨r2,e2,c2⟩:=h q.1 s ⟨Zg.mpr ⟨q,hq,rfl⟩,hs⟩;have d1:=c1 _ ad;have d2:=c2 _ ad;rw[mK tp hp]at e1 d1;rw[mK tp hq]at e2 d2;have:at_ st.l (My.mk p.2 s)=at_ st.l (My.mk q.2 s):=by unfold at_;rw[e]
 rw[this,k,e2]at e1;have:r2=r1:=V.ref.inj (Zf e1);rw[d1,d2,this]
def bK(fi st:Int)(i:Nat):Int:=if i=0 then st else fi+i-1
def za(fi st:Int)(i:Nat):bK fi st (i+1)=fi+i:=by
 unfold bK;rw[if_neg (by omega)];have:((i+1:Nat):Int)=i+1:=by omega
 omega
def rowAt(fi st:Int)(ns:List Int)(i:Nat):List Int:=
 if 0<ns.getD i 0 then [-1-(i:Int),bK fi st i,ns.getD i 0,fi+i]else [-1-(i:Int),fi+i, -ns.getD i 0,bK fi st i]
inductive HY(K:PySem.W.Frag)(vs:List V)(H:Hp)(Q:VK)(aA:XK):Prop
 |mk (fi st:Int) (l:Addr) (ns:List Int) (_:vs=[.int fi,.int st,.ref l]) (_:af K H l (ns.map V.int)) (_:ns.length<=1000) (_:NZ ns) (_:∀(p r:Addr) (ts:List Addr) (H':Hp),H p=none->H r=none->H' p=some (.tup [.ref r,.int (bK fi st ns.length)])->H' r=some (.lst (ts.map V.ref))->ts.length=ns.length->(∀j t,ts[j]?=some t->H' t=some (.tup ((rowAt fi st ns j).map V.int)))->aa H H'->Q (.ref p) H'):HY K vs H Q aA
def K4(K:PySem.W.Frag):Sp:=HY K
end My
namespace PySem.W
open PySem PySem.Spec PySem.Calls PyProof.Rows
section
variable {prog:Program}{w:World}{A:Around}{E:Value->Shared->Prop}{s:Shared}{K:Frag}{x C:Addr}{ox:Obj}
def ClsAt(C x:Addr)(h:Heap):Prop:=∃o,h.get? x=some o/\o.cls=.ref C
def ClsAt.ty{M:Model}{h:Heap}(I:ClsAt C x h):Looks M h (typeOf (.ref x)) (.ref C):=by
 obtain⟨o,h1,h2⟩:=I;exact h2▸(Looks.ld h1).andThen .now
end
end PySem.W
namespace L2
open PySem PySem.Spec PyProof.Rows
section
variable {P:Program}{w:World}{H H':Hp}{h h':Heap}{a:Addr}{o:HO}
def bN.has(x:bN P w H h a o):∃u,h.get? a=some u:=by
 cases o with
 |lst xs=>obtain⟨_,_,_,_,e⟩:=x;exact⟨_,e⟩
 |tup xs=>obtain⟨_,_,_,o,e,_⟩:=x;exact⟨_,e⟩
 |dK kvs=>obtain⟨_,_,_,_,o,_,_,e,_⟩:=x;exact⟨_,e⟩
 |dT kvs=>obtain⟨_,_,_,_,o,_,_,e,_⟩:=x;exact⟨_,e⟩
 |set S n=>obtain⟨o,_,_,_,e,_⟩:=x;exact⟨_,e⟩
 |ins C dx fs=>obtain⟨_,_,_,e,_⟩:=x;exact⟨_,e⟩
 |own y=>obtain⟨_,e⟩:=x;exact⟨_,e⟩
 |xd fs=>obtain⟨_,⟨_,_,_,e,_⟩,_⟩:=x;exact⟨_,e⟩
 |bA lo hi=>obtain⟨_,_,_,e⟩:=x;exact⟨_,e⟩
 |cS ob u=>obtain⟨e,_⟩:=x;exact⟨_,e⟩
 |nj ps=>exact⟨_,(show h.get? a=some _ from x)⟩
 |met f y=>exact⟨_,(show h.get? a=some _ from x)⟩
 |ext φ=>obtain⟨_,⟨_,e⟩,_⟩:=x;exact⟨_,e⟩
def bG.only(x:bG P w H h)(k:∀b u,H b≠none->h.get? b=some u->h'.get? b=some u):bG P w H h':=λa o e=>
 (x a o e).k7 (λb u hb q=>k b u (by
  rcases hb with hb|hb
  ·rw[hb,e];exact λz=>nomatch z
  ·rw[hb];exact λz=>nomatch z) q) (λ_ q=>q) λ_ _ q=>q
end
def gI(B:Heap)(l:List Env)(e:Addr)(cls a0 fl:Value)(h:Heap):Prop:=B.StaysIn h/\B.get? e=none/\h.FunFrames B l/\h.TracedAtW B e cls a0 fl
def gI.cls{B:Heap}{l:List Env}{e:Addr}{cls a0 fl:Value}{h:Heap}(x:gI B l e cls a0 fl h):∃o vs,h.get? e=some o/\o.cls=cls/\o.data=.fields vs:=by
 obtain⟨_,_,_,oe,vs,_,_,_,he,hc,hd,_⟩:=x;exact⟨oe,vs,he,hc.1,hd⟩
section
variable {M:Model}{A:Around}{E:Value->Shared->Prop}{s:Shared}{B:Heap}{env:Env}{outer l:List Env}{L e:Addr}{cls a0 fl:Value}{Q:Unit->Shared->Prop}
def Ar(dN:A.frames=some (env::outer))(hf:env.frame=some L)(h:gI B (env::outer) e cls a0 fl s.heap)
  (hQ:∀h',gI B (env::outer) e cls a0 (rawInt L) h'->s.heap.UpToSlots h'->Q () {s with heap:=h'}):wpAny M A (noteFrame (.ref e) env) Q E s:=by
 by_cases q9:(fl==rawInt L)=true
 ·have:fl=rawInt L:=beq_iff_eq.mp q9;subst this;exact wpAny_noteFrame_againW hf h.2.2.2 (hQ s.heap h (Heap.UpToSlots.refl _))
 obtain⟨f1,f2,f3,oe,vs,tb,otb,ts,he,⟨tF,h0⟩,hd,h1,wH,wI,pC,mY,h3⟩:=h;subst tF;have rest:∀b,b≠tb->(s.heap.update tb (Obj.mapFields (·.setIfInBounds 3 Value.none))).get? b=s.heap.get? b:=λb hb=>Heap.get?_update_other _ _ (Ne.symm hb)
 have tj:∀b o,s.heap.get? b=some o->(∀vs,o.data≠.fields vs)->b≠tb:=λb o hb jt q=>by
  rw[q,pC]at hb;cases hb;exact jt ts mY
 unfold noteFrame;simp only[hf];refine wpAny_bind (wpAny_field he hd h1 ?_);rw[if_pos (show(Value.ref tb !=Value.none)=true from by simp)];refine wpAny_bind (wpAny_field pC mY h3 ?_);rw[if_neg q9];refine wpAny_bind (wpAny_setField pC mY (Array.getElem?_eq_some_iff.mp h3).1 ?_)
 refine wpAny_entryW dN (f3.of_keeps λb o hb jt=>⟨o,(rest b (tj b o hb jt)).trans hb,rfl⟩) hf ((rest e (Ne.symm wI)).trans he)
  (λb o pD=>(rest b λq=>by rw[q,wH]at pD;cases pD).trans (f1 b o pD)) f2 hd (Array.getElem?_eq_some_iff.mp h1).1 h0 λh' ⟨x1,x2,x3,x4⟩=>?_
 exact hQ h' ⟨x1,f2,x2,x3⟩ λb o hb jt=>x4 b o ((rest b (tj b o hb jt)).trans hb) jt
def As(h:gI B l e cls a0 fl s.heap)(hQ:∀h',gI B l e cls a0 .none h'->s.heap.UpToSlots h'->Q () {s with heap:=h'}):wpAny M A (setFlight (.ref e) none) Q E s:=
 wpAny_setFlight_noneW h.1 h.2.2.1 h.2.2.2 λh' k1 k2 k3 k4=>hQ h' ⟨k1,h.2.1,k2,k3⟩ λb o hb hn=>⟨o.slots,k4 b o hb hn⟩
def WV(dN:A.frames=some (env::outer))(hf:env.frame=some L)(h:gI B (env::outer) e cls a0 fl s.heap)
  (hQ:∀h',gI B outer e cls a0 .none h'->s.heap.UpToSlots h'->Q () {s with heap:=h'}):wpAny M A (leaving env (.ref e)) Q E s:=by
 unfold leaving;refine wpAny_bind (Ar dN hf h λh1 x1 u1=>?_);refine As (s:={s with heap:=h1}) x1 λh2 x2 u2=>hQ h2 ⟨x2.1,x2.2.1,x2.2.2.1.2.2,x2.2.2.2⟩ (u1.trans u2)
def abG{fo:Option Addr}(h:gI B l e cls a0 fl s.heap)(hQ:∀h',gI B l e cls a0 (fo.elim Value.none λf=>rawInt f) h'->s.heap.UpToSlots h'->Q () {s with heap:=h'}):wpAny M A (setFlight (.ref e) fo) Q E s:=by
 obtain⟨f1,f2,f3,oe,vs,tb,otb,ts,he,tF,hd,h1,wH,wI,pC,mY,h3⟩:=h;have three:3<ts.size:=(Array.getElem?_eq_some_iff.mp h3).1;have rest:∀b,b≠tb->(s.heap.update tb (Obj.mapFields (·.setIfInBounds 3 (fo.elim Value.none λf=>rawInt f)))).get? b=s.heap.get? b:=λb hb=>Heap.get?_update_other _ _ (Ne.symm hb)
 have tj:∀b o,s.heap.get? b=some o->(∀vs,o.data≠.fields vs)->b≠tb:=λb o hb jt q=>by
  rw[q,pC]at hb;cases hb;exact jt ts mY
 unfold setFlight;refine wpAny_bind (wpAny_field he hd h1 ?_);rw[if_pos (show(Value.ref tb !=Value.none)=true from by simp)];refine wpAny_setField pC mY three (hQ _ ⟨λb o pD=>(rest b λq=>by rw[q,wH]at pD;cases pD).trans (f1 b o pD),f2,f3.of_keeps λb o hb jt=>⟨o,(rest b (tj b o hb jt)).trans hb,rfl⟩,?_⟩ λb o hb jt=>⟨o.slots,(rest b (tj b o hb jt)).trans hb⟩);exact⟨oe,vs,tb,_,_,(rest e (Ne.symm wI)).trans he,tF,hd,h1,wH,wI,Heap.get?_update_self _ pC (Obj.isFreed_of_fields (Obj.data_mapFields mY _)),Obj.data_mapFields mY _,by simp[three]⟩
end
structure mZ(B:Heap)(fs ex:List Addr)(H H':Hp)(h h':Heap):Prop where
 a1:∀b o,H' b≠none->h'.get? b=some o->B.get? b=some o
 a2:∀b o,h.get? b=some o->H b=none->b∉fs->b∉ex->B.get? b=some o
 a3:∀b o,h.get? b=some o->b∉fs->b∉ex->∃o',B.get? b=some o'
section
variable {P:Program}{w:World}{B h h1 h2:Heap}{fs ex:List Addr}{H H':Hp}
def Bv(u:Un fs ex H H' h h1)(k:mZ B fs ex H H' h h1)(hB:B.StaysIn h2)(up:h1.UpToSlots h2)(fr:∀b∈fs,∀o,h1.get? b=some o->∀vs,o.data≠.fields vs):Un fs ex H H' h h2 where
 keep:=λb o q n hb he=>hB _ _ (k.a2 b o q n hb he)
 slot:=λb o q n hb he=>by
  obtain⟨sl,e⟩:=u.slot b o q n hb he;obtain⟨wR,e'⟩:=up b _ e (fr b hb _ e);exact⟨wR,e'⟩
 free:=u.free
 there:=λb o q he=>by
  by_cases hb:b∈fs
  ·obtain⟨o',e⟩:=u.there b o q he;obtain⟨wR,e'⟩:=up b _ e (fr b hb _ e);exact⟨_,e'⟩
  ·obtain⟨o',e⟩:=k.a3 b o q hb he;exact⟨o',hB _ _ e⟩
 fY:=u.fY
 fA:=u.fA
 fZ:=u.fZ
def vB(ao:bG P w H' h1)(k:mZ B fs ex H H' h h1)(hB:B.StaysIn h2):mZ B fs ex H H' h h2/\bG P w H' h2:=by
 refine⟨⟨λb o n q=>?_,k.a2,k.a3⟩,ao.only λb u n q=>hB _ _ (k.a1 b u n q)⟩;cases e:H' b with
 |none=>exact absurd e n
 |some x=>
  obtain⟨u,hu⟩:=(ao b x e).has;have:=k.a1 b u n hu;have z:=hB _ _ this;rw[q]at z;cases z;exact this
end
structure Fly(P:Program)(w:World)(l:List Env)(H H':Hp)(h:Heap)(ea:Addr)(cls:Value)(h':Heap):Prop where
 ex:∃B a0,gI B l ea cls a0 .none h'/\mZ B (bP l) [] H H' h h'
 un:Un (bP l) [] H H' h h'
 ao:bG P w H' h'
def bS(P:Program)(w:World):jk:=λl H s E e s'=>∃ea cls H',e=.ref ea/\s'.os=s.os/\AllBare s'.gens/\Fly P w l H H' s.heap ea cls s'.heap/\E cls none H'
def rf(X:Cx)(pins:List (Addr×Obj))(σ:St)(E:XK)(e:Value)(s':Shared):Prop:=∃ea cls H' B a0 fl,e=.ref ea/\Inv X pins σ H' s'/\gI B X.stack ea cls a0 fl s'.heap/\
 mZ B X.fs X.ex X.H₀ H' X.s₀.heap s'.heap/\(∀p∈X.pn++pins,B.get? p.1=some p.2)/\E cls none H'
section
variable {X:Cx}{pins:List (Addr×Obj)}{σ:St}{H H':Hp}{s s':Shared}{B h2:Heap}
def Inv.up(I:Inv X pins σ H s)(k:mZ B X.fs X.ex X.H₀ H X.s₀.heap s.heap)(hp:∀p∈X.pn++pins,B.get? p.1=some p.2)(hB:B.StaysIn h2)(up:s.heap.UpToSlots h2):Inv X pins σ H {s with heap:=h2}:=by
 have ic:∀c v,s.heap.IsCell c v->h2.IsCell c v:=λc v ⟨o,e,d⟩=>by
  obtain⟨sl,e'⟩:=up c o e λvs z=>by rw[d]at z;cases z
  exact⟨_,e',d⟩
 obtain⟨m,hn,hl⟩:=I.loc;refine⟨I.ok,I.os,I.bare,Bv I.base k hB up λb hb o e=>?_,⟨m,up.ns hn,λi x v e1 e2 e3=>?_⟩,λx c e=>?_,I.free,I.eC,λp nF=>?_,(vB I.ao k hB).2,I.len⟩
 ·obtain⟨_,o',e',d⟩:=I.gF.mem hb;rw[e]at e';cases e';exact d
 ·obtain⟨u,r,lk⟩:=hl i x v e1 e2 e3;refine⟨u,r,?_⟩;rcases lk with lk|⟨q,c,e,z⟩
  ·exact .inl lk
  ·exact .inr ⟨q,c,e,ic _ _ z⟩
 ·obtain⟨v,z⟩:=I.cell x c e;exact⟨v,ic _ _ z⟩
 ·exact⟨hB _ _ (hp p nF),(I.pin p nF).2⟩
def Inv.vL(I:Inv X pins σ H s){b:Addr}{o:Obj}(e:X.s₀.heap.get? b=some o)(h:b∉X.fs):b∉bP X.stack:=λz=>by
 rcases Y4.mp (I.kf b z)with q|q
 ·exact absurd (Zv (Zh e) I.ok.above) (by rw[q];exact Z3 _)
 ·exact h q
def Inv.flew{E:XK}{e:Value}(I:Inv X pins σ H s)(h:bS X.prog X.w X.stack H s E e s'):rf X pins σ E e s':=by
 obtain⟨ea,cls,H',rfl,os,bare,F,hE⟩:=h;obtain⟨B,a0,fl,k⟩:=F.ex;refine⟨ea,cls,H',B,a0,.none,rfl,I.mR os F.un F.ao bare (λb z=>absurd z (by simp)),fl,⟨k.a1,λb o e n hb hx=>?_,λb o e hb hx=>?_⟩,λp hp=>?_,hE⟩
 ·exact k.a2 b o (I.base.keep b o e n hb hx) (I.base.free b o e n hx) (I.vL e hb) (by simp)
 ·obtain⟨o',e'⟩:=I.base.there b o e hx;exact k.a3 b o' e' (I.vL e hb) (by simp)
 ·obtain⟨h1,h2,h3,h4,_⟩:=I.pin p hp;refine k.a2 p.1 p.2 h1 h2 (λz=>?_) (by simp);rcases Y4.mp (I.kf _ z)with q|q
  ·exact h3 q
  ·exact h4 q
end
def PX(X:Cx)(e:Expr)(t:XK->TE):Prop:=
 ∀(pins:List (Addr×Obj)) (s:Shared) (σ:St) (H:Hp) (Q:VK) (E:XK),Inv X pins σ H s->t E σ H Q->wpAny (model X.prog X.w) X.A (eval e X.env) (EP X pins σ Q) (rf X pins σ E) s
section
variable {X:Cx}{k:Nat}{f C:Addr}{fd:FuncData}{ps:List Str}{sp:Sp}{b6:List V}{ds:List Value}{x m:Str}{p pos apos:Pos}{e o:Expr}{es:List Expr}{ta:TE}{t:TA}
def YO{pins:List (Addr×Obj)}{σ:St}{H:Hp}{s:Shared}{Q:VK}{E:XK}{us:List Value}{vs:List V}(F:aB X.prog X.w X.K X.mg X.base (bS X.prog X.w) k f fd ps sp)(hr:bL k X.A)(hb:Binds X.K fd ps ds)(hd:Vals b6 ds)
  (I:Inv X pins σ H s)(r:Vals vs us)(h:sp (vs++b6) H Q E):wpAny (model X.prog X.w) X.A (call (.ref f) us) (EP X pins σ Q) (rf X pins σ E) s:=by
 have r2:Vals (vs++b6) (us++ds):=r.append hd;have hl:(us++ds).length=ps.length:=by rw[<-r2.length];exact F.len _ _ _ _ h
 refine wpAny_call (codeAny_mono (F.run X.A X.stack s H ⟨us,[]⟩ (us++ds) (vs++b6) Q E hr I.BZ (hb s us I.cG hl) r2 h) λr s' hq=>?_);cases r with
 |error e=>exact I.flew hq
 |ok fl=>
  cases fl with
  |ret u=>exact I.after hq
  |next=>exact Zu hq
  |brk=>exact Zu hq
  |cont=>exact Zu hq
end
def fj(X:Cx)(E:XK)(e:Value)(s':Shared):Prop:=(∃pins σ,rf X pins σ E e s')\/
 ∃pins σ H h C ea args,e=.ref ea/\Inv X pins σ H {s' with heap:=h}/\Heap.MadeExcOf h s'.heap ea (.ref C) args/\E (.ref C) none H
section
variable {P:Program}{w:World}{K:PySem.W.Frag}{mg:Str->Option Value}{base:Heap}
def Inv.Jp{X:Cx}{pins:List (Addr×Obj)}{σ:St}{H:Hp}{s:Shared}(I:Inv X pins σ H s):∀b∈X.fs,∀o,s.heap.get? b=some o->∀vs,o.data≠.fields vs:=λb hb o e=>by
 obtain⟨_,o',e',d⟩:=I.gF.mem hb;rw[e]at e';cases e';exact d
def Inv.hold{X:Cx}{pins:List (Addr×Obj)}{σ:St}{H:Hp}{s:Shared}(I:Inv X pins σ H s):mZ (PySem.W.hideAll s.heap (bP X.stack)) X.fs X.ex X.H₀ H X.s₀.heap s.heap where
 a1:=λb o n e=>PySem.W.hideAll_get _ e λz=>n (I.oq b z)
 a2:=λb o e n hb hx=>PySem.W.hideAll_get _ (I.base.keep b o e n hb hx) (I.vL e hb)
 a3:=λb o e hb hx=>by
  obtain⟨o',e'⟩:=I.base.there b o e hx;exact⟨o',PySem.W.hideAll_get _ e' (I.vL e hb)⟩
def fj.out{N:List Str}{qual:Str}{scope:Scope}{f:Addr}{cd:Value}{A:Around}{outer:List Env}{s:Shared}{H:Hp}{E:XK}{e:Value}{s':Shared}(h:fj (fC (bS P w) P w K mg base N qual scope f cd A outer s H E) E e s'):
  (fC (bS P w) P w K mg base N qual scope f cd A outer s H E).xe e s':=by
 rcases h with⟨pins,σ,ea,cls,H',B,a0,fl,rfl,I,F,k,_,hE⟩|⟨pins,σ,H',h,C,ea,args,rfl,I,hx,hE⟩
 ·refine WV (L:=s.heap.objs.size) I.ok.frames rfl F λh' F' up=>?_;obtain⟨k',tJ⟩:=vB I.ao k F'.1;exact⟨ea,cls,H',rfl,I.os,I.bare,⟨⟨B,a0,F',k'⟩,Bv I.base k F'.1 up I.Jp,tJ⟩,hE⟩
 ·refine wpAny_leaves_madeW (base:=PySem.W.hideAll h (bP (fC (bS P w) P w K mg base N qual scope f cd A outer s H E).stack)) (L:=s.heap.objs.size) (h:=h) I.ok.frames rfl (λb o q=>PySem.W.of_hideAll _ q)
   (PySem.W.funFrames_hide I.stack λenv he a hf=>List.mem_filterMap.mpr ⟨env,he,hf⟩) hx λh' t F' _ _ up=>?_
  have k:=I.hold;obtain⟨k',tJ⟩:=vB I.ao k F'.1;have up':h.UpToSlots h':=(Heap.UpToSlots.of_keeps hx.keeps).trans up;exact⟨ea,.ref C,H',rfl,I.os,I.bare,⟨⟨_,_,F',k'⟩,Bv I.base k F'.1 up' I.Jp,tJ⟩,hE⟩
def aJ.gL{x qual:Str}{st:Stmt}{f:Addr}{fd:FuncData}{N ps:List Str}{k:Nat}{sp:Sp}(F:aJ K x qual st f fd)(S:aN N ps (aF st))(len:∀vs H Q E,sp vs H Q E->vs.length=ps.length)
  (sZ:∀(aw:Value) (A:Around) (outer:List Env) (s:Shared) (H:Hp) (vs:List V) (Q:VK) (E:XK),bL k (A.deeper (envOfC qual (aF st) s.heap.objs.size f aw))->sp vs H Q E->
   ∃t,c8 ((fC (bS P w) P w K mg base N qual (aF st) f aw A outer s H E).cC (fj (fC (bS P w) P w K mg base N qual (aF st) f aw A outer s H E) E)) (eV st) t/\t {nx:=λ_ H'=>Q .aI H',rt:=Q} (start N vs) H):aB P w K mg base (bS P w) (k+1) f fd ps sp:=by
 obtain⟨oc,od,kV,doc,pm,an,aw,ct,jP,rfl,lk,bR⟩:=F.ex;refine Nm lk bR S len λA outer s H vs Q E hr kC=>?_;obtain⟨t,h,q⟩:=sZ aw A outer s H vs Q E hr kC;exact⟨t,λpins s1 σ1 H1 D I hw=>wpAny_mono (h pins s1 σ1 H1 D (I.cC _) hw) (λ_ _ q=>q.fP) λ_ _ z=>fj.out z,q⟩
end
abbrev gD:List Value:=[.type "ValueError",.type "Exception",.type "BaseException",.type "object"]
def VeP(K:PySem.W.Frag)(C:Addr):Prop:=∃(dd:Option Addr) (nm qn:Str) (bs sub:List Value) (B ns:Addr) (hd ab:Bool) (sn:List Str) (col:Option Bool) (k0 k1 k2 k3 k5:Option Value),
 K.lookup C=some ⟨.type "type",dd,.cls ⟨nm,bs,.ref C::.ref B::gD,ns,qn,hd,sn,sub,ab,col,false⟩, #[k0,k1,k2,k3,some (.builtin "ValueError.__new__"),k5]⟩/\PySem.W.nsOkIn K ns=true/\PySem.W.nsIn K ns "__init__"=some none/\PySem.W.tailIn K gD (.ref B::gD)=true
noncomputable def gd(K:PySem.W.Frag)(C:Addr):Bool:=@decide (VeP K C) (Classical.propDecidable _)
def YQ{K:PySem.W.Frag}{h:Heap}{C:Addr}(X:K.In h)(q:gd K C=true):∃bm N nm qn bs hdct sn sub ab col dd k0 k1 k2 k3 k5 mN,h.get? C=some (excClassObj nm qn C N bs bm hdct sn sub ab col dd k0 k1 k2 k3 k5 "ValueError.__new__")/\h.Ns N mN/\mN "__init__"=none/\OwnTail h gD bm:=by
 obtain⟨dd,nm,qn,bs,sub,B,ns,hd,ab,sn,col,k0,k1,k2,k3,k5,ho,ao,CQ,ht⟩:=@of_decide_eq_true _ (Classical.propDecidable _) q;exact⟨.ref B::gD,ns,nm,qn,bs,hd,sn,sub,ab,col,dd,k0,k1,k2,k3,k5,_,X _ _ ho,.of_isNs (PySem.W.isNs_of_in X ao),PySem.W.nsMap_none_of_in X ao CQ,PySem.W.tail_of_in X ht⟩
def abH(C:Addr)(E:XK)(ta:TA):TS:=λ_ σ H=>ta σ H λvs H1=>vs.length<=sizeLine/\E (.ref C) none H1
def mD{X:Cx}{E:XK}{C:Addr}{x:Str}{np cu pos:Pos}{e:Expr}{es:List Expr}{ta:TA}(hc:X.calm=true)(hg:Gl X x)(hm:X.mg x=some (.ref C))(q:gd X.K C=true)(ha:PA X.gj (e::es) ta)
  (eJ:(x==("__debug__":Str))=false:=by decide)(he:starEach (e::es) X.env=(false,eval e X.env)::starEach es X.env:=by rfl)(bO:(backTo cu (starEach es X.env)).any (·.1)=false:=by rfl):
  PS (X.cC (fj X E)) (.Raise (some (.Call (.Name x np) (e::es) [] cu)) none pos) (abH C E ta):=by
 intro pins s σ H D I h;have I0:=I.fP;obtain⟨bm,N,nm,qn,bs,hdct,sn,sub,ab,col,dd,k0,k1,k2,k3,k5,mN,hC,hN,CQ,T⟩:=YQ I0.mod.o6 q
 refine wpAny_Raise_call_subT (C:=C) (nm:=nm) (q:=qn) (N:=N) (bs:=bs) (bm:=bm) (hdct:=hdct) (sn:=sn) (sub:=sub) (ab:=ab) (col:=col) (dd:=dd) (k0:=k0) (k1:=k1) (k2:=k2) (k3:=k3) (k5:=k5)
  F.excBase_ValueError (mN:=mN) (T.hasType (by decide+kernel)) (I0.ok.hd hc) (by rw[he];show(false||(backTo cu (starEach es X.env)).any (·.1))=false;rw[bO];rfl) CQ (sD I hg hm ⟨rfl,?_⟩ eJ)
 have z:=ha cu pins s σ H _ (I0.cC _) h;show wpAny _ _ (evalArgs (.ref C) true (backTo cu (starEach (e::es) X.env)) []) _ _ _;rw[he]at z⊢;refine Calls.evalArgs_plain (wpAny_mono z (λvs s2 ⟨ws,H1,I1,r,hl,hE⟩=>?_) λ_ _ z=>Zu z);have I1:=I1.fP;exact⟨rfl,by rw[<-r.length];exact hl,I1.bk _ _ hC,hN.keeps I1.bk,T.keeps I1.bk,λh' ea hx=>.inr ⟨pins,σ,H1,s2.heap,C,ea,vs,rfl,I1,hx,hE⟩⟩
def Cx.oF(X:Cx)(ea:Addr):Cx:={X with A:=X.A.mark (some (.ref ea)),calm:=false,xe:=λ_ _=>False}
section
variable {X:Cx}{pins:List (Addr×Obj)}{σ:St}{H:Hp}{s:Shared}{ea:Addr}
def Inv.oF(I:Inv X pins σ H s):Inv (X.oF ea) pins σ H s:=
 ⟨⟨I.ok.mod,I.ok.kind,I.ok.glob,I.ok.blt,I.ok.above,I.ok.inj,I.ok.has,I.ok.cab,(λz=>nomatch(show false=true from z)),I.ok.frames,I.ok.tO,I.ok.Cq,I.ok.bs,I.ok.iO,I.ok.kq,I.ok.tE,I.ok.gF,I.ok.nu⟩,I.os,I.bare,I.base,I.loc,I.cell,I.free,I.eC,I.pin,I.ao,I.len⟩
def Inv.uncaught(ok:X.Ok)(I:Inv (X.oF ea) pins σ H s):Inv X pins σ H s:=⟨ok,I.os,I.bare,I.base,I.loc,I.cell,I.free,I.eC,I.pin,I.ao,I.len⟩
end
section
variable {X:Cx}
end
structure lO(P:Program)(w:World)(K:PySem.W.Frag)(mg:Str->Option Value)(base:Heap)(x:Str)(ps:List Str)(k:Nat)(sp:Sp) where
 f:Addr
 fd:FuncData
 ok:aB P w K mg base (bS P w) k f fd ps sp
 pf:mg x=some (.ref f)
 kp:PySem.W.keepIn K (.ref f)=true
 bd:Binds K fd ps []
def oG(e:DictEntry):Bool:=match e.key with
 |.str _ _=>true
 |_=>false
def kb{K:PySem.W.Frag}{N:Addr}{c:Value}{d:Option Addr}{es:Array DictEntry}{n:Nat}{sl:Array (Option Value)}(l:K.lookup N=some ⟨c,d,.dict es n,sl⟩)(h:es.toList.all oG=true):PySem.W.nsOkIn K N=true:=by
 unfold PySem.W.nsOkIn;rw[l];rw[Array.all_toList]at h;exact h
def sJ{K:PySem.W.Frag}{C B ns:Addr}{dd od:Option Addr}{nm qn:Str}{bs sub:List Value}{hd ab:Bool}{sn:List Str}{col:Option Bool}{k0 k1 k2 k3 k5:Option Value}{oc:Value}{CT:ClassData}{jP:Array (Option Value)}
  (l:K.lookup C=some ⟨.type "type",dd,.cls ⟨nm,bs,.ref C::.ref B::gD,ns,qn,hd,sn,sub,ab,col,false⟩, #[k0,k1,k2,k3,some (.builtin "ValueError.__new__"),k5]⟩)(n1:PySem.W.nsOkIn K ns=true)(n2:PySem.W.nsIn K ns "__init__"=some none)
  (l2:K.lookup B=some ⟨oc,od,.cls CT,jP⟩)(n3:PySem.W.nsOkIn K CT.ns=true)(n4:PySem.W.nsIn K CT.ns "__init__"=some none):gd K C=true:=by
 have t:PySem.W.tailIn K gD (.ref B::gD)=true:=by
  unfold PySem.W.tailIn;dsimp only;rw[l2];dsimp only;rw[n3,n4]
  have:PySem.W.tailIn K gD gD=true:=by
   unfold PySem.W.tailIn;rw[beq_self_eq_true]
   rfl
  rw[this,Bool.or_eq_true];exact .inr rfl
 exact@ZN _ (Classical.propDecidable _) ⟨dd,nm,qn,bs,sub,B,ns,hd,ab,sn,col,k0,k1,k2,k3,k5,l,n1,n2,t⟩
def Bw{X:Cx}{E:XK}:Passes (bS X.prog X.w) (X.cC (fj X E)) E:=λpins σ _ _ _ _ I h=>.inl ⟨pins,σ,I.fP.flew h⟩
def HZ{X:Cx}{E:XK}{L:Addr}(bT:X.stack=X.env::X.outer)(dN:X.env.frame=some L):PassesOwn (model X.prog X.w) X.A X.env (fj X E):=by
 intro ev s' h
 have fin:∀(pins:List (Addr×Obj)) (σ:St) (H':Hp) (ea:Addr) (cls a0:Value) (B:Heap) (s1:Shared) (h2:Heap),Inv X pins σ H' s1->mZ B X.fs X.ex X.H₀ H' X.s₀.heap s1.heap->(∀p∈X.pn++pins,B.get? p.1=some p.2)->gI B (X.env::X.outer) ea cls a0 (rawInt L) h2->s1.heap.UpToSlots h2->E cls none H'->
   cameBackBy (model X.prog X.w) X.A X.env (fj X E) (.ref ea) {s1 with heap:=h2}:=by
  intro pins σ H' ea cls a0 B s1 h2 I k kp F2 up hE;unfold cameBackBy;obtain⟨_,_,_,oe,vs,T,oT,ts,he,_,hd,h1,_⟩:=id F2;refine wpAny_bind (wpAny_field (s:={s1 with heap:=h2}) he hd h1 ?_);rw[if_neg (by simp)];refine abG (s:={s1 with heap:=h2}) F2 λh3 F3 xr=>?_;exact .inl ⟨pins,σ,ea,cls,H',B,a0,_,rfl,I.up k kp F3.1 (up.trans xr),by rw[bT];exact F3,(vB I.ao k F3.1).1,kp,hE⟩
 rcases h with⟨pins,σ,ea,cls,H',B,a0,fl,rfl,I,F,k,kp,hE⟩|⟨pins,σ,H',h,C,ea,args,rfl,I,hx,hE⟩
 ·have lP:X.A.frames=some (X.env::X.outer):=by rw[<-bT];exact I.ok.frames
  have F':gI B (X.env::X.outer) ea cls a0 fl s'.heap:=by rw[<-bT];exact F
  refine Ar lP dN F' λh2 F2 xt=>?_;exact fin pins σ H' ea cls a0 B s' h2 I k kp F2 xt hE
 ·have lP:X.A.frames=some (X.env::X.outer):=by rw[<-bT];exact I.ok.frames
  obtain⟨t,he,_,_⟩:=hx.there;have st:(PySem.W.hideAll h (bP X.stack)).StaysIn s'.heap:=λb o q=>hx.keeps b o (PySem.W.of_hideAll _ q)
  have en:(PySem.W.hideAll h (bP X.stack)).get? ea=none:=by
   cases z:(PySem.W.hideAll h (bP X.stack)).get? ea with
   |none=>rfl
   |some o=>have:=PySem.W.of_hideAll _ z;rw[hx.new]at this;cases this
  have ff:s'.heap.FunFrames (PySem.W.hideAll h (bP X.stack)) (X.env::X.outer):=by
   rw[<-bT];exact(PySem.W.funFrames_hide I.stack λenv he a hf=>List.mem_filterMap.mpr ⟨env,he,hf⟩).of_keeps λb o hb _=>⟨o,hx.keeps b o hb,rfl⟩
  have kp:∀p∈X.pn++pins,(PySem.W.hideAll h (bP X.stack)).get? p.1=some p.2:=λp hp=>by
   obtain⟨h1,h2,h3,h4,_⟩:=I.pin p hp;refine PySem.W.hideAll_get _ h1 λz=>?_;rcases Y4.mp (I.kf _ z)with q|q
   ·exact h3 q
   ·exact h4 q
  unfold notedBy noteFrame;simp only[dN];refine wpAny_bind (wpAny_field (x:=.none) he rfl rfl ?_);rw[if_neg (by decide)];refine wpAny_entryW (a0:=.ref t) lP ff dN he st en rfl (show 1<6 by decide) rfl λh2 ⟨x1,x2,x3,x4⟩=>?_;exact fin pins σ H' ea (.ref C) (.ref t) _ {s' with heap:=h} h2 I I.hold kp ⟨x1,en,x2,x3⟩ ((Heap.UpToSlots.of_keeps hx.keeps).trans x4) hE
section
variable {X:Cx}{k:Nat}{f C:Addr}{fd:FuncData}{ps:List Str}{sp:Sp}{b6:List V}{ds:List Value}{x m:Str}{p pos apos:Pos}{e o:Expr}{es:List Expr}{ta:TE}{t:TA}
def YR{pl:Sem Bool}(he:PE X.gj o ta)(c:eI X.K C)(hm:Meth X.K C m f)(F:aB X.prog X.w X.K X.mg X.base (bS X.prog X.w) k f fd ps sp)(hr:bL k X.A)(hb:Binds X.K fd ps ds)(hd:Vals b6 ds)(ha:PA X.gj (e::es) t)
  (bT:starEach (e::es) X.env=(false,eval e X.env)::starEach es X.env:=by rfl)(bO:(backTo pos (starEach es X.env)).any (·.1)=false:=by rfl)
  (ht:eval (.Call (.Attribute o m apos) (e::es) [] pos) X.env=(do
   let ov<-eval o X.env
   standAt apos.atName
   let(f,first)<-holding [ov] (getMethod ov m pl)
   callWith pos f first (backTo pos (starEach (e::es) X.env)) (backToKw pos (keywordEach [] X.env))):=by rfl):
  PX X (.Call (.Attribute o m apos) (e::es) [] pos) (λE=>jI C m sp b6 E ta t):=by
 intro pins s σ H Q E I h;refine PySem.W.methodCall_KW (pl:=pl) (wpAny_mono (he pins s σ H _ (I.cC _) h) (λu s1 ⟨x,H1,I1,rx,a,dx,fs,ex,ea,l,q⟩=>?_) λ_ _ z=>Zu z) ht;subst ex;obtain rfl:u=Value.ref a:=rx;have I1:=I1.fP;refine ze I1 ea c hm l ?_;refine PySem.W.callWith_K (first:=[.ref a]) (h₀:=X.base) I.ok.mod.o6 hm.kp (wpAny_mono (ha pos pins s1 σ H1 _ (I1.cC _) q) (λus s2 ⟨vs,H2,I2,r,q2⟩=>⟨I2.fP.cG,?_⟩) λ_ _ z=>Zu z) bT bO;exact YO (us:=.ref a::us) (vs:=.ref a::vs) F hr hb hd I2.fP (.cons rfl r) q2
end
def rh(X:Cx)(st:Stmt)(t:XK->TS):Prop:=
 ∀(pins:List (Addr×Obj)) (s:Shared) (σ:St) (H:Hp) (D:Ends) (E:XK),Inv X pins σ H s->t E D σ H->wpAny (model X.prog X.w) X.A (exec st X.env) (SP X pins D) (rf X pins σ E) s
def acS(i:Nat)(te:XK->TE)(E:XK):TS:=λD σ H=>te E σ H λv H1=>D.nx (σ.set i (some v)) H1
def K5{X:Cx}{i:Nat}{x:Str}{e:Expr}{te:XK->TE}{px pa:Pos}(hN:X.N.Nodup)(hi:X.N[i]?=some x)(hx:Loc X.env.scope x)(he:PX X e te)(hs:swapsWith e (some (.Name x px)) pa.line X.env=pure false:=by rfl)(tP:∀x,X.fn x=true:=by intro _;rfl):
  rh X (.Assign [.Name x px] e pa) (acS i te):=by
 intro pins s σ H D E I h;refine wpAny_Assign_Name (wpAny_mono (he pins s σ H _ _ I h) (λv s1 ⟨y,H1,I1,r1,q1⟩=>?_) (λev s1 q9=>q9)) hs;exact kO I1 hN hi hx r1 (λs2 I2=>⟨_,H1,I2,q1⟩) (.inl (tP x))
def abI{X:Cx}{c:Expr}{a b:Stmt}{tc:TT}{ta tb:XK->TS}{pos:Pos}(hc:PT X.gj c tc)(ha:rh X a ta)(hb:rh X b tb):rh X (.If c [a] [b] pos) (λE=>NQ tc (ta E) (tb E)):=by
 intro pins s σ H D E I h;refine wpAny_If (wpAny_mono (hc pins s σ H _ (I.cC _) h) (λd s1 ⟨H1,I1,q1⟩=>?_) λ_ _ z=>Zu z);have I1:=I1.fP
 have fin:∀{st:Stmt}{t:XK->TS},rh X st t->t E D σ H1->wpAny (model X.prog X.w) X.A (execs [st] X.env) (SP X pins D) (rf X pins σ E) s1:=λhp q=>by
  refine wpAny_execs_cons (au (hp pins s1 σ H1 D E I1 q) λf s1 q=>?_);cases f with
  |next=>exact wpAny_execs_nil q
  |ret v=>exact q
  |brk=>exact q
  |cont=>exact q
 cases d with
 |true=>exact fin ha q1
 |false=>exact fin hb q1
def vZ(K:PySem.W.Frag)(Ce:Addr)(tb:XK->TS)(ts:TS):TS:=λD σ H=>
 tb (λcls _ H'=>∃C,cls=.ref C/\PySem.W.exmOne K (.ref C) (.ref Ce)=some true/\ts D σ H') D σ H
def YS{X:Cx}{cx:Str}{b:Stmt}{tb:XK->TS}{ts:TS}{b₀:Stmt}{Nv:List Stmt}{Ce:Addr}{np hp pos:Pos}
  (hb:rh X b tb)(hg:Gl X cx)(hm:X.mg cx=some (.ref Ce))(hsu:∀ea,c8 (X.oF ea) (b₀::Nv) ts)
  (eJ:(cx==("__debug__":Str))=false:=by decide)(bT:X.stack=X.env::X.outer:=by rfl)(dN:X.env.frame=some X.env.locals:=by rfl):
  PS X (.Try [b] [.ExceptHandler (some (.Name cx np)) none (b₀::Nv) hp] [] [] pos) (vZ X.K Ce tb ts):=by
 intro pins s σ H D I h;refine wpAny_Try_except (wpAny_execs_cons (wpAny_mono (hb pins s σ H D _ I h) (λf s1 q=>?_) (λev s1 q9=>?_)))
 ·cases f with
  |next=>exact wpAny_execs_nil (wpAny_execs_nil q)
  |ret v=>exact q
  |brk=>exact q
  |cont=>exact q
 obtain⟨ea,cls,H',B,a0,fl,rfl,I1,F1,k1,kp,C,rfl,ad0,hE⟩:=q9;have lP:X.A.frames=some (X.env::X.outer):=by rw[<-bT];exact I.ok.frames
 have F1':gI B (X.env::X.outer) ea (.ref C) a0 fl s1.heap:=by rw[<-bT];exact F1
 refine Ar lP dN F1' λh2 F2 xt=>?_;refine As (s:={s1 with heap:=h2}) F2 λh3 F3 xr=>?_;have I3:=I1.up k1 kp F3.1 (xt.trans xr);obtain⟨oe,vs,g1,g2,g3⟩:=F3.cls;have LT:PySem.W.Looks (model X.prog X.w) h3 (typeOf (.ref ea)) (.ref C):=PySem.W.ClsAt.ty ⟨oe,g1,g2⟩;refine wpAny_handleBy_cons (codeAny_handlers_test ?_) (by intro q;cases q);refine sD (X:=X.oF ea) (I3.oF (ea:=ea)) hg hm ?_ eJ;refine(PySem.W.exm_one (M:=model X.prog X.w) I3.cG LT ad0).at ?_;refine codeAny_handlers_suite ?_;refine As (s:={s1 with heap:=h3}) F3 λh4 F4 up4=>?_;have I4:=I1.up k1 kp F4.1 ((xt.trans xr).trans up4);refine wpAny_mono (hsu ea pins _ σ H' D (I4.oF (ea:=ea)) hE) (λf s7 q=>?_) λ_ _ z=>Zu z;cases f with
 |next=>obtain⟨σ',H7,I7,q⟩:=q;exact⟨_,_,I7.uncaught I.ok,q⟩
 |brk=>obtain⟨σ',H7,I7,q⟩:=q;exact⟨_,_,I7.uncaught I.ok,q⟩
 |cont=>obtain⟨σ',H7,I7,q⟩:=q;exact⟨_,_,I7.uncaught I.ok,q⟩
 |ret u=>obtain⟨v,σ',H7,I7,r,q⟩:=q;exact⟨v,_,_,I7.uncaught I.ok,r,q⟩
section
variable {X:Cx}{e:Expr}{te:TE}{pos:Pos}
def Jq{x:Str}{px:Pos}{elt iter:Expr}{scope:Scope}{cl:List (Str×Addr)}{wi:TI}(fr:List Str)(ix:List Nat)
  (hi:PI X (.Name x px) iter wi)(he:∀C s H fp,PE (X.Cf (x::fr) scope cl x C s H fp) elt te)
  (aS:∀y c,cl.lookup y=some c->X.env.cells.lookup y=some c)
  (gA:closureFor scope X.env=pure cl:=by rfl)(hc:X.calm=true:=by rfl)(cZ:scope.kind=.function:=by rfl)(A2:∀n,cellsFrom n scope.names cl=(x,n)::cl:=by intro _;rfl)
  (Bu:∀h:Heap,pushCells h scope.names=h.push {cls:=.type "cell",data:=.cell none}:=by intro _;rfl)(Cg:cl.lookup x=none:=by rfl)
  (gy:(scope.names.all λp=>p.2 != .local||scope.names.lookup p.1==some .local)=true:=by rfl)(hx:(relabel scope X.env).names.lookup x=some .cell:=by rfl)
  (hN:(x::fr).Nodup:=by decide+kernel)(fI:ix.map (λi=>X.N[i]?)=fr.map some:=by rfl)
  (dN:(fr.all λy=>X.env.kindOf y==some .cell&&(relabel scope X.env).names.lookup y==some .cell)=true:=by rfl)
  (eZ:((relabel scope X.env).names.all λp=>(p.2 != .cell&&p.2 != .free)||(p.1==x||(cl.lookup p.1).isSome))=true:=by rfl)
  (hs:∀x,foldedSetIterable iter X.env x=pure x:=by intro _;rfl):
  PE X (.ListComp elt [⟨.Name x px,iter,[],0⟩] scope pos) (sV wi ix te):=by
 refine UT hc hi gA cZ A2 Bu Cg (λy hy e=>?_) hx hN fI (λy hy=>?_) aS (λy hy=>?_) he hs
 ·have:=ZC.mp gy y hy;rw[e]at this;simpa using this
 ·have:=ZC.mp dN y hy;rw[Bool.and_eq_true]at this;exact⟨eq_of_beq this.1,eq_of_beq this.2⟩
 ·have:∃k,(relabel scope X.env).names.lookup y=some k/\(k=.cell\/k=.free):=by
   rcases hy with h|h
   ·exact⟨_,h,.inl rfl⟩
   ·exact⟨_,h,.inr rfl⟩
  obtain⟨k,e,hk⟩:=this;have:=ZC.mp eZ (y,k) (ZM e)
  have h2:(y==x||(cl.lookup y).isSome)=true:=by
   rcases hk with rfl|rfl<;>simpa using this
  rcases Bool.or_eq_true _ _|>.mp h2 with h|h
  ·exact .inl (eq_of_beq h)
  ·exact .inr (Option.isSome_iff_exists.mp h)
def zt{K:PySem.W.Frag}{a:Addr}{xs:List V}{ix:List Nat}{te:TE}{σ:St}{H:Hp}{Q:VK}
  (h:∀D,H D=none->∃Pv:Nat->List V->Hp->Prop,Pv 0 [] (upd H D (.lst []))/\(∀i ys H2,i<=xs.length->Pv i ys H2->af K H2 a xs/\H2 D=some (.lst ys)/\ys.length<sizeLine)/\
   (∀i x ys H2,xs[i]?=some x->Pv i ys H2->∀Q':VK,(∀y H3,H3 D=some (.lst ys)->Pv (i+1) (ys++[y]) (upd H3 D (.lst (ys++[y])))->Q' y H3)->te (bE ix (some x) σ) H2 Q')/\∀ys H2,Pv xs.length ys H2->Q (.ref D) H2):
  Wr (jc (dM K a) ix te σ H Q):=by
 refine⟨λD hD=>?_⟩;obtain⟨Pv,p0,pl,ps,pq⟩:=h D hD;refine⟨λi m ys H2=>m=xs.length-i/\i<=xs.length/\Pv i ys H2,⟨xs.length,by simp,Zo _,p0⟩,?_⟩;rintro i m ys H2 ⟨rfl,hi,p⟩;obtain⟨e0,e1,e2⟩:=pl i ys H2 hi p;refine⟨e1,?_⟩;by_cases aR:i<xs.length
 ·refine .inr ⟨⟨_,xs[i],e0,by simp[aR]⟩,e2,λx H' y=>?_⟩;obtain⟨e,y⟩:=y;subst e;exact ps i x ys _ (y _ e0) p _ λy H3 e3 p3=>⟨e3,xs.length-(i+1),by omega,rfl,aR,p3⟩
 ·have e:i=xs.length:=by omega
  subst e;exact .inl ⟨⟨_,e0,Y2 _⟩,pq ys H2 p⟩
def Gp{K:PySem.W.Frag}{a:Addr}{xs:List V}{ix:List Nat}{tt:TT}{te:TE}{σ:St}{H:Hp}{Q:VK}
  (h:∀D,H D=none->∃Pv:Nat->List V->Hp->Prop,Pv 0 [] (upd H D (.lst []))/\(∀i ys H2,i<=xs.length->Pv i ys H2->af K H2 a xs/\H2 D=some (.lst ys)/\ys.length<sizeLine)/\
   (∀i x ys H2,xs[i]?=some x->Pv i ys H2->∀(Q1:V->Hp->Prop) (Q0:Hp->Prop),(∀y H3,H3 D=some (.lst ys)->Pv (i+1) (ys++[y]) (upd H3 D (.lst (ys++[y])))->Q1 y H3)->(∀H3,Pv (i+1) ys H3->Q0 H3)->
    tt (bE ix (some x) σ) H2 λb H3=>if b=true then te (bE ix (some x) σ) H3 Q1 else Q0 H3)/\∀ys H2,Pv xs.length ys H2->Q (.ref D) H2):
  Wr (mJ (dM K a) ix tt te σ H Q):=by
 refine⟨λD hD=>?_⟩;obtain⟨Pv,p0,pl,ps,pq⟩:=h D hD;refine⟨λi m ys H2=>m=xs.length-i/\i<=xs.length/\Pv i ys H2,⟨xs.length,by simp,Zo _,p0⟩,?_⟩;rintro i m ys H2 ⟨rfl,hi,p⟩;obtain⟨e0,e1,e2⟩:=pl i ys H2 hi p;refine⟨e1,?_⟩;by_cases aR:i<xs.length
 ·refine .inr ⟨⟨_,xs[i],e0,by simp[aR]⟩,e2,λx H' y=>?_⟩;obtain⟨e,y⟩:=y;subst e;exact ps i x ys _ (y _ e0) p _ _ (λy H3 e3 p3=>⟨e3,xs.length-(i+1),by omega,rfl,aR,p3⟩) λH3 p3=>⟨xs.length-(i+1),by omega,rfl,aR,p3⟩
 ·have e:i=xs.length:=by omega
  subst e;exact .inl ⟨⟨_,e0,Y2 _⟩,pq ys H2 p⟩
def Gd{lo:Int}{n:Nat}{ix:List Nat}{tt:TT}{te:TE}{σ:St}{H:Hp}{Q:VK}
  (h:∀D,H D=none->∃Pv:Nat->List V->Hp->Prop,Pv 0 [] (upd H D (.lst []))/\(∀i ys H2,Pv i ys H2->H2 D=some (.lst ys)/\ys.length<sizeLine)/\
   (∀i ys H2,i<n->Pv i ys H2->∀(Q1:V->Hp->Prop) (Q0:Hp->Prop),(∀y H3,H3 D=some (.lst ys)->Pv (i+1) (ys++[y]) (upd H3 D (.lst (ys++[y])))->Q1 y H3)->(∀H3,Pv (i+1) ys H3->Q0 H3)->
    tt (bE ix (some (.int (lo+i))) σ) H2 λb H3=>if b=true then te (bE ix (some (.int (lo+i))) σ) H3 Q1 else Q0 H3)/\∀ys H2,Pv n ys H2->Q (.ref D) H2):
  Wr (mJ (fH lo n) ix tt te σ H Q):=by
 refine⟨λD hD=>?_⟩;obtain⟨Pv,p0,pl,ps,pq⟩:=h D hD;refine⟨λi m ys H2=>m=n-i/\i<=n/\Pv i ys H2,⟨n,by simp,Zo _,p0⟩,?_⟩;rintro i m ys H2 ⟨rfl,hi,p⟩;obtain⟨e1,e2⟩:=pl i ys H2 p;refine⟨e1,?_⟩;by_cases aR:i<n
 ·refine .inr ⟨aR,e2,λx H' y=>?_⟩;obtain⟨e,y⟩:=y;subst e y;exact ps i ys _ aR p _ _ (λy H3 e3 p3=>⟨e3,n-(i+1),by omega,rfl,aR,p3⟩) λH3 p3=>⟨n-(i+1),by omega,rfl,aR,p3⟩
 ·have e:i=n:=by omega
  subst e;exact .inl ⟨Y2 _,pq ys H2 p⟩
end
def Tx{K:PySem.W.Frag}{a:Addr}{ns:List Int}{ix:List Nat}{te:TE}{σ:St}{H:Hp}{Q:VK}(f:Int->Int)(hq:af K H a (ns.map V.int))(hl:ns.length<sizeLine)
  (he:∀z∈ns,∀(H':Hp) (Q':VK),Q' (.int (f z)) H'->te (bE ix (some (.int z)) σ) H' Q')(h:∀D,H D=none->Q (.ref D) (upd H D (.lst ((ns.map f).map V.int)))):Wr (jc (dM K a) ix te σ H Q):=
 ⟨λD hD=>HE f hq hl he h D hD⟩
section
variable {X:Cx}{x:Str}{px pos:Pos}{elt iter:Expr}{scope:Scope}{cl:List (Str×Addr)}{fr:List Str}{ix:List Nat}{wi:TI}{te:TE}{tt:TT}{ifs:List Expr}
variable {dP:Str}{py qR:Pos}{kT:Nat}
def MH(k:gC X scope cl x fr ix iter)(hi:PI X (.Name x px) iter wi)(aS:∀y c,cl.lookup y=some c->X.env.cells.lookup y=some c)
  (he:∀C s H fp,PE (X.b7 (x::fr) scope cl C s H fp) elt te)(pj:qM (λY=>∃C s H fp,Y=X.b7 (x::fr) scope cl C s H fp) ifs tt)(ua:X.N.Nodup)(ub:X.N[kT]?=some dP)(uc:Loc X.env.scope dP)
  (ud:swapsWith (.ListComp elt [⟨.Name x px,iter,ifs,0⟩] scope pos) (some (.Name dP py)) qR.line X.env=pure true)(hf:X.fn dP=true\/X.env.scope.names.lookup dP=some .local)
  {RR:St->VK->It->Hp->Prop}(hR:∀σ Q J H1,RR σ Q J H1->Wr (mJ J ix tt te σ H1 Q)):
  PS X (.Assign [.Name dP py] (.ListComp elt [⟨.Name x px,iter,ifs,0⟩] scope pos) qR) (mV (λσ H Q=>wi σ H (RR σ Q)) (jG kT)):=by
 intro pins s σ H DE I h;have h:wi σ H (RR σ (λx H1=>DE.nx (σ.set kT (some x)) H1)):=h;rw[exec_Assign_Name_used _ _ _ _ ud];refine wpAny_bind (wpAny_standAt (wpAny_bind ?_));show wpAny _ X.A (do let _<-comprehension (.ListComp elt [⟨.Name x px,iter,ifs,0⟩] scope pos) scope X.env _ (newList []) false (eval iter X.env) (some (assign (.Name dP py) X.env))) _ _ s;refine wpAny_bind (wpAny_mono (HV (use:=some (assign (.Name dP py) X.env)) (Post:=λ_ s'=>SP X pins DE .next s') k hi aS he pj I h (hR σ _) λs2 s4 H2 H3 fp C x' I2 f2 hC bC I4 qn _=>?_) (λ_ s' hq=>ZV (ZV hq)) λ_ _ e=>e);obtain⟨m4,jV,_⟩:=I4.loc;have IX:Inv X pins σ H3 s4:=I2.mR (s':=s4) (ch:=fp) I4.os I4.base I4.ao I4.bare (λb hb=>⟨(f2 b hb).2.2.2.1,(f2 b hb).2.1,(f2 b hb).2.2.2.2⟩)
 have OZ:C≠X.env.locals:=by
  obtain⟨mL,hnL,_⟩:=I2.loc;rw[hC];exact Nat.ne_of_gt (ZW hnL.lt)
 show wpAny _ _ (assign (.Name dP py) X.env (.ref s2.heap.objs.size)) _ _ s4;refine wpAny_assign_Name (Hk (v:=.ref s2.heap.objs.size) IX ua ub uc rfl (λs5 I5 ⟨a5,sb5,CV⟩=>?_) hf)
 have nCa:C≠a5:=by
  rcases CV with rfl|CV
  ·exact OZ
  ·obtain⟨v,oc,bQ,_⟩:=I2.cell _ _ CV;exact(bC _ _ bQ).symm
 refine⟨m4,jV.sameBut sb5 nCa,λh' sb=>⟨σ.set kT (some (.ref s2.heap.objs.size)),H3,?_,qn⟩⟩;refine I5.mR (s':={s5 with heap:=h'}) (ch:=[C]) rfl ⟨λb o e n hb hx=>(sb.2 b (λz=>hx (z▸List.mem_singleton_self _))).trans e,λb o e n hb hx=>⟨o.slots,(sb.2 b (λz=>hx (z▸List.mem_singleton_self _))).trans e⟩,λb o e n hx=>n,λb o e hx=>⟨o,(sb.2 b (λz=>hx (z▸List.mem_singleton_self _))).trans e⟩,λb xs e=>e,λb o u e=>e,λb ps e=>⟨#[],by rw[Array.append_empty];exact e⟩⟩ (I5.ao.sameBut I4.free sb) I5.bare λb hb=>?_;rw[Y1.mp hb];refine⟨.inr (ZQ I2.sz (by rw[hC];exact Nat.le_succ _)),OZ,λx c e=>?_,λp hp=>?_⟩
 ·obtain⟨v,oc,bQ,_⟩:=I2.cell x c e;exact bC _ _ bQ
 ·exact bC _ _ (I2.pin p hp).1
def zP(kT:Nat)(fr:List Str)(ix:List Nat)(ua:X.N.Nodup)(hi:PI X (.Name x px) iter wi)(he:∀C s H fp,PE (X.b7 (x::fr) scope cl C s H fp) elt te)(aS:∀y c,cl.lookup y=some c->X.env.cells.lookup y=some c)
  (ub:X.N[kT]?=some dP:=by rfl)(uc:Loc X.env.scope dP:=by first|exact .inl rfl|exact .inr rfl)
  (k:gC X scope cl x fr ix iter:=by exact⟨rfl,rfl,rfl,rfl,rfl,rfl,by decide+kernel,rfl,rfl,rfl,λ_=>rfl⟩)
  (ud:swapsWith (.ListComp elt [⟨.Name x px,iter,[],0⟩] scope pos) (some (.Name dP py)) qR.line X.env=pure true:=by rfl)(hf:X.fn dP=true\/X.env.scope.names.lookup dP=some .local:=by first|exact .inl rfl|exact .inr rfl|assumption):
  PS X (.Assign [.Name dP py] (.ListComp elt [⟨.Name x px,iter,[],0⟩] scope pos) qR) (mV (sV wi ix te) (jG kT)):=MH k hi aS he KW ua ub uc ud hf λ_ _ _ _ h=>HW h
def UW{ct:Expr}(kT:Nat)(fr:List Str)(ix:List Nat)(ua:X.N.Nodup)(hi:PI X (.Name x px) iter wi)(ht:∀C s H fp,PT (X.b7 (x::fr) scope cl C s H fp) ct tt)(he:∀C s H fp,PE (X.b7 (x::fr) scope cl C s H fp) elt te)(aS:∀y c,cl.lookup y=some c->X.env.cells.lookup y=some c)
  (ub:X.N[kT]?=some dP:=by rfl)(uc:Loc X.env.scope dP:=by first|exact .inl rfl|exact .inr rfl)
  (k:gC X scope cl x fr ix iter:=by exact⟨rfl,rfl,rfl,rfl,rfl,rfl,by decide+kernel,rfl,rfl,rfl,λ_=>rfl⟩)
  (ud:swapsWith (.ListComp elt [⟨.Name x px,iter,[ct],0⟩] scope pos) (some (.Name dP py)) qR.line X.env=pure true:=by rfl)(hf:X.fn dP=true\/X.env.scope.names.lookup dP=some .local:=by first|exact .inl rfl|exact .inr rfl|assumption):
  PS X (.Assign [.Name dP py] (.ListComp elt [⟨.Name x px,iter,[ct],0⟩] scope pos) qR) (mV (Jm wi ix tt te) (jG kT)):=MH k hi aS he (MF ht) ua ub uc ud hf λ_ _ _ _ h=>h
end
section
variable {X:Cx}{l o:Expr}{tl ta:TE}{tg:Expr}{f:Str}{pos:Pos} (K:PySem.W.Frag)
def ue(e:X.K=K):jR X (gK (k9 K)):=by subst e;exact aP
def CW(e:X.K=K)(hl:PE X l tl):PI X tg l (Nh K tl):=by subst e;exact b8 hl
def pfl(e:X.K=K)(he:PE X o ta)(hb:attributeBase o f X.env (eval o X.env)=eval o X.env):PE X (.Attribute o f pos) (tH K ta f):=by subst e;exact aW he hb
def ad2(e:X.K=K):fS X (.builtin "len") (λxs H Q=>∃p ys,xs=[.ref p]/\(af K H p ys\/bt K H p ys)/\Q (.int ys.length) H):=by subst e;exact fm
end
end L2
namespace My
open PySem L2
def oV:Option Int->V
 |none=>.aI
 |some n=>.int n
abbrev Tab:=List (List (Option Int))
abbrev Row(H:Hp)(a:Addr)(r:List (Option Int)):Prop:=H a=some (.lst (r.map oV))
structure Tb(H:Hp)(t:Addr)(as:List Addr)(T:Tab):Prop where
 is:H t=some (.lst (as.map V.ref))
 len:as.length=T.length
 rw:∀(i:Nat) a r,as[i]?=some a->T[i]?=some r->Row H a r
def cell(T:Tab)(c j:Nat):Option Int:=(T.getD c []).getD j none
def Tb.on{H H':Hp}{t:Addr}{as:List Addr}{T:Tab}(h:Tb H t as T)(k:∀a∈t::as,∀o,H a=some o->H' a=some o):Tb H' t as T:=
 ⟨k t (Y8 ..) _ h.is,h.len,λi a r e1 e2=>k a (Y3 _ (Y5 e1)) _ (h.rw i a r e1 e2)⟩
def Tb.same{H H':Hp}{t:Addr}{as:List Addr}{T:Tab}(h:Tb H t as T)(s:aa H H'):Tb H' t as T:=h.on λa _ o e=>s a o e
def Tb.at{H:Hp}{t:Addr}{as:List Addr}{T:Tab}(h:Tb H t as T){i:Nat}(hi:i<T.length):∃a,as[i]?=some a/\a∈as/\T[i]?=some (T.getD i [])/\Row H a (T.getD i []):=by
 have h1:i<as.length:=by rw[h.len];exact hi
 have e:T[i]?=some (T.getD i []):=by simp[List.getD,hi]
 exact⟨as[i],by simp[h1],ZA h1,e,h.rw i _ _ (by simp[h1]) e⟩
def Tb.live{H:Hp}{t:Addr}{as:List Addr}{T:Tab}(h:Tb H t as T):∀a∈t::as,∃o,H a=some o:=λa ha=>by
 rcases Y4.mp ha with e|e
 ·rw[e];exact⟨_,h.is⟩
 ·obtain⟨i,hi,e⟩:=ZD e;have g7:i<T.length:=by rw[<-h.len];exact hi
  exact⟨_,h.rw i a (T.getD i []) (by simp[<-e,hi]) (by simp[List.getD,g7])⟩
def Tb.set{H:Hp}{t a:Addr}{as:List Addr}{T:Tab}{i:Nat}(h:Tb H t as T)(nd:(t::as).Nodup)(e:as[i]?=some a)(r:List (Option Int)):Tb (upd H a (.lst (r.map oV))) t as (T.set i r):=by
 obtain⟨n1,n2⟩:=ZG.mp nd;have ma:=Y5 e;obtain⟨hi,ea⟩:=ZL.mp e;refine⟨?_,by rw[h.len,List.length_set],λj b s e1 e2=>?_⟩
 ·have nt:t≠a:=λz=>n1 (z▸ma);rw[ah nt];exact h.is
 ·by_cases hj:j=i
  ·subst hj;rw[e]at e1;cases e1;rw[List.getElem?_set_self (by rw[<-h.len];exact hi)]at e2;cases e2;exact aj
  ·rw[List.getElem?_set_ne (Ne.symm hj)]at e2
   have:b≠a:=λz=>by
    subst z;obtain⟨xu,eb⟩:=ZL.mp e1;exact hj ((List.getElem_inj n2).mp (eb.trans ea.symm))
   show upd H a _ b=_;rw[ah this];exact h.rw j b s e1 e2
def Tb.snoc{H:Hp}{t a:Addr}{as:List Addr}{T:Tab}{r:List (Option Int)}(h:Tb H t as T)(ha:Row H a r)(n:a≠t)(nt:t∉as):Tb (upd H t (.lst (as.map V.ref++[V.ref a]))) t (as++[a]) (T++[r]):=by
 refine⟨by rw[aj,Zd];rfl,by simp[h.len],λj b s e1 e2=>?_⟩
 have hb:b≠t:=by
  rcases Y6.mp (Y5 e1)with q|q
  ·exact λz=>nt (z▸q)
  ·rw[Y1.mp q];exact n
 show upd H t _ b=_;rw[ah hb];by_cases hj:j<as.length
 ·rw[Zr hj]at e1;rw[Zr (by rw[<-h.len];exact hj)]at e2;exact h.rw j b s e1 e2
 ·rw[Zt (by omega)]at e1;rw[Zt (by rw[<-h.len];omega), <-h.len]at e2
  have z:j-as.length=0:=by
   have:=(ZL.mp e1).1;simp at this;omega
  rw[z]at e1 e2;cases e1;cases e2;exact ha
structure aL(k n:Nat)(T:Tab):Prop where
 len:T.length=n
 row:∀r∈T,r.length=k
 bA:∀c j e,cell T c j=some e->0<=e/\e<n
 inj:∀c d j e,cell T c j=some e->cell T d j=some e->c=d
def WW{T:Tab}{c:Nat}{r:List (Option Int)}(hc:c<T.length)(i j:Nat):cell (T.set c r) i j=if i=c then r.getD j none else cell T i j:=by
 unfold cell;by_cases h:i=c
 ·subst h;rw[if_pos rfl];simp[List.getD,List.getElem?_set_self hc]
 ·rw[if_neg h];simp[List.getD,List.getElem?_set_ne (Ne.symm h)]
open PySem.SeqAt PyProof.Rows
def col(T:Tab)(j:Nat):List (Option Int):=T.map λr=>r.getD j none
def cols(k:Nat)(T:Tab):Tab:=(List.range k).map (col T)
def j5(k:Nat)(T:Tab):(cols k T).length=k:=by simp[cols]
def Au{k j:Nat}(T:Tab)(h:j<k):(cols k T)[j]?=some (col T j):=by simp[cols,h]
def zu{k j:Nat}(T:Tab)(h:j<k):(cols k T).getD j []=col T j:=by simp[List.getD,Au T h]
def kU(T:Tab)(j:Nat):(col T j).length=T.length:=by simp[col]
def oa(T:Tab)(c j:Nat):(col T j).getD c none=cell T c j:=by
 unfold col cell;by_cases h:c<T.length
 ·simp[List.getD,h]
 ·simp[List.getD,ZI (Nat.le_of_not_lt h)]
def WX{r s:List (Option Int)}(hl:r.length=s.length)(h:∀j,r.getD j none=s.getD j none):r=s:=by
 refine List.ext_getElem hl λi h1 h2=>?_;have:=h i;simpa[List.getD,h1,h2]using this
def WY{k n:Nat}{T:Tab}(h:aL k n T){c:Nat}(hc:c<n):col (cols k T) c=T.getD c []:=by
 have hcT:c<T.length:=by rw[h.len];exact hc
 have hr:(T.getD c []).length=k:=h.row _ (by simp[List.getD,hcT]);refine WX (by rw[kU,j5,hr]) λj=>?_;rw[oa];unfold cell;by_cases hj:j<k
 ·rw[zu T hj,oa];rfl
 ·have e1:(cols k T).getD j []=[]:=by rw[List.getD,ZI (by rw[j5];omega)];rfl
  have e2:(T.getD c []).getD j none=none:=by
   generalize T.getD c []=r at hr;rw[List.getD,ZI (by omega)];rfl
  rw[e1,e2];rfl
def UX{k n:Nat}{T:Tab}(h:aL k n T):cols n (cols k T)=T:=by
 refine List.ext_getElem (by rw[j5,h.len]) λi h1 h2=>?_;have hi:i<n:=by rwa [j5]at h1
 have e:=Au (cols k T) hi;rw[WY h hi]at e;have e2:(cols n (cols k T))[i]?=some ((cols n (cols k T))[i]):=by simp[h1]
 rw[e]at e2;have e3:=Zf e2;rw[<-e3];simp[List.getD,h2]
structure h9(i:Nat)(ends fs:List (Option Int)):Prop where
 len:fs.length=ends.length
 iff:∀(e:Nat) (c:Int),fs.getD e none=some c↔∃m:Nat,c=m/\m<i/\ends.getD m none=some (e:Int)
abbrev wc(ends fs:List (Option Int)):Prop:=h9 ends.length ends fs
def pE(k:Nat)(lo li:Addr):List (Str×V):=a8 "inward" (.ref li) (a8 "onward" (.ref lo) (a8 "kinds" (.int k) []))
def vd(k:Nat)(lo li:Addr)(m:Str):(pE k lo li).lookup m=if m="inward" then some (.ref li)else if m="onward" then some (.ref lo)else if m="kinds" then some (.int k)else none:=by
 unfold pE;rw[my,my,my];rfl
def abJ(k:Nat)(lo li:Addr):(pE k lo li).lookup ("inward":Str)=some (.ref li):=by rw[vd,if_pos rfl]
def A4(k:Nat)(lo li:Addr):(pE k lo li).lookup ("onward":Str)=some (.ref lo):=by rw[vd,if_neg (by decide),if_pos rfl]
def wg(k:Nat)(lo li:Addr):(pE k lo li).lookup ("kinds":Str)=some (.int k):=by rw[vd,if_neg (by decide),if_neg (by decide),if_pos rfl]
def gz(k:Nat)(lo li:Addr){m:Str}(h1:¬m="inward":=by decide)(h2:¬m="onward":=by decide)(h3:¬m="kinds":=by decide):(pE k lo li).lookup m=none:=by rw[vd,if_neg h1,if_neg h2,if_neg h3]
structure cj(C:Addr)(H:Hp)(g:Addr)(k n:Nat)(T:Tab)(fp:List Addr):Prop where
 ok:aL k n T
 k1:1<=k
 k5:k<=5
 n1:1<=n
 n7:n<=700
 ob:∃dx lo li as bs I,fp=g::((lo::as)++(li::bs))/\H g=some (.ins C dx (pE k lo li))/\Tb H lo as (cols k T)/\Tb H li bs I/\I.length=k/\∀j,j<k->wc (col T j) (I.getD j [])
def cj.on{C:Addr}{H H':Hp}{g:Addr}{k n:Nat}{T:Tab}{fp:List Addr}(h:cj C H g k n T fp)(s:∀a∈fp,∀o,H a=some o->H' a=some o):cj C H' g k n T fp:=by
 obtain⟨dx,lo,li,as,bs,I,rfl,hg,h1,h2,h3,h4⟩:=h.ob;refine⟨h.ok,h.k1,h.k5,h.n1,h.n7,dx,lo,li,as,bs,I,rfl,s g (Y8 ..) _ hg,h1.on λa ha=>s a ?_,h2.on λa ha=>s a ?_,h3,h4⟩
 ·exact Y3 _ (Zb _ ha)
 ·exact Y3 _ (Za _ ha)
def cj.same{C:Addr}{H H':Hp}{g:Addr}{k n:Nat}{T:Tab}{fp:List Addr}(h:cj C H g k n T fp)(s:aa H H'):cj C H' g k n T fp:=h.on λa _ o e=>s a o e
end My
namespace My
open PySem L2
structure lA(K:PySem.W.Frag)(mg:Str->Option Value)(C:Addr):Prop where
 cl:eI K C
 nk:NoAttr K C "kinds"
 no:NoAttr K C "onward"
 ni:NoAttr K C "inward"
 CY:∃t,mg "MOST_KINDS"=some (.int 5 t)
 mcc:∃t,mg "MOST_CHAMBERS"=some (.int 700 t)
 sum:mg "sum"=none
def Row.same{H H':Hp}{a:Addr}{r:List (Option Int)}(h:Row H a r)(s:aa H H'):Row H' a r:=s _ _ h
def Aw{r:List (Option Int)}{i:Nat}{y:V}(h:(r.map oV)[i]?=some y):∃z,y=oV z/\r[i]?=some z:=by
 rw[Ze]at h;cases e:r[i]? with
 |none=>rw[e]at h;cases h
 |some z=>rw[e]at h;exact⟨z,(Zf h).symm,rfl⟩
def K6{as:List Addr}{i:Nat}{y:V}(h:(as.map V.ref)[i]?=some y):∃z,y=V.ref z/\as[i]?=some z:=by
 rw[Ze]at h;cases e:as[i]? with
 |none=>rw[e]at h;cases h
 |some z=>rw[e]at h;exact⟨z,(Zf h).symm,rfl⟩
def getD_some{α:Type}{r:List α}{i:Nat}{z d:α}(h:r[i]?=some z):r.getD i d=z:=by rw[List.getD,h];rfl
def sL{K:PySem.W.Frag}{H:Hp}{a:Addr}{r:List (Option Int)}{i:Int}{Q:VK}(k:Nat)(hq:Row H a r)(hk:k<r.length)(h:Q (oV (r.getD k none)) H)(e:i=(k:Int):=by rfl):Wr (k9 K (.ref a) (.int i) H Q):=by
 refine⟨⟨a,_,i,_,rfl,rfl,af.of hq,?_,h⟩⟩;subst e;exact kR (by rw[Ze,show r[k]?=some (r.getD k none)by simp[List.getD,hk]];rfl)
def qI{K:PySem.W.Frag}{H:Hp}{t a:Addr}{as:List Addr}{T:Tab}{i:Int}{Q:VK}(k:Nat)(hq:Tb H t as T)(ha:as[k]?=some a)(h:Q (.ref a) H)(e:i=(k:Int):=by rfl):Wr (k9 K (.ref t) (.int i) H Q):=by
 refine⟨⟨t,_,i,_,rfl,rfl,af.of hq.is,?_,h⟩⟩;subst e;exact kR (by rw[Ze,ha];rfl)
def Jr{K:PySem.W.Frag}{t:Addr}{as:List Addr}{T:Tab}{j:Nat}{ix:List Nat}{te:TE}{σ:St}{H:Hp}{Q:VK}(h:Tb H t as T)(hl:T.length<=100000)
  (he:∀a r,r∈T->∀(H':Hp) (Q':VK),aa H H'->Row H' a r->Q' (oV (r.getD j none)) H'->te (bE ix (some (.ref a)) σ) H' Q')(hQ:∀D,H D=none->Q (.ref D) (upd H D (.lst ((col T j).map oV)))):
  Wr (jc (dM K t) ix te σ H Q):=by
 let f:V->V:=λz=>match z with
  |.ref a=>(match H a with|some (.lst xs)=>xs.getD j .aI|_=>.aI)
  |_=>.aI
 have fe:∀a r,Row H a r->f (.ref a)=oV (r.getD j none):=λa r hr=>by
  show(match H a with|some (.lst xs)=>xs.getD j .aI|_=>.aI)=_;rw[show H a=some (.lst (r.map oV))from hr];show(r.map oV).getD j .aI=_;by_cases hj:j<r.length
  ·simp[List.getD,hj]
  ·simp[List.getD,ZI (Nat.le_of_not_lt hj),oV]
 refine⟨HG (xs:=as.map V.ref) f (af.of h.is) (bI (by rw[Y0,h.len];omega)) (λz hz H' Q' s q=>?_) λD hD=>?_⟩
 ·obtain⟨a,ha,rfl⟩:=Zg.mp hz;obtain⟨i,hi,e⟩:=ZD ha;have g7:i<T.length:=by rw[<-h.len];exact hi
  have hr:=h.rw i a T[i] (by simp[<-e,hi]) (by simp[g7]);rw[fe a _ hr]at q;exact he a _ (ZA g7) H' Q' s (hr.same s) q
 ·have:(as.map V.ref).map f=(col T j).map oV:=by
   unfold col;rw[ZK,ZK];refine List.ext_getElem (by simp[h.len]) λi h1 h2=>?_;have h1':i<as.length:=by simpa using h1
   have lQ:i<T.length:=by simpa using h2
   simp only[List.getElem_map,Function.comp];exact fe _ _ (h.rw i as[i] T[i] (by simp[h1']) (by simp[lQ]))
  rw[this];exact hQ D hD
def jK{cells:List (Str×Addr)}{a:Str}{x:Addr}(h1:cells.lookup a=some x):∀z c,[(a,x)].lookup z=some c->cells.lookup z=some c:=λz c h=>by
 rw[List.lookup_cons]at h;cases e:z==a with
 |true=>rw[e]at h;rw[eq_of_beq e,h1];exact h
 |false=>rw[e]at h;cases h
def MI{H:Hp}{a:Addr}{n:Nat}{k:Int}{z:Option Int}{Q:VK}(ha:H a=some (.lst [oV z]))(hn:n<=100000)(h:∀(p:Addr) (H':Hp),H p=none->Row H' p (List.replicate n z)->aa H H'->Q (.ref p) H')(e:k=(n:Int):=by rfl):Wr (N5 (.ref a) (.int k) H Q):=by
 subst e;refine⟨⟨a,n,[oV z],rfl,rfl,ha,by omega,by omega,?_,λp hp=>?_⟩⟩
 ·exact Z2 (bI (by simp;omega))
 ·have e:(List.replicate (n:Int).toNat [oV z]).flatten=(List.replicate n z).map oV:=by
   rw[Y9];clear h hn
   induction n with
   |zero=>rfl
   |succ n ih=>rw[List.replicate_succ,List.flatten_cons,ih,List.replicate_succ,Zq];rfl
  rw[e];exact h p _ hp aj ((aa.refl H).upd hp)
inductive Ia(vs:List V)(H:Hp)(Q:VK)(aA:XK):Prop
 |mk (k n:Nat) (t:Addr) (as:List Addr) (T:Tab) (_:vs=[.int k,.ref t]) (_:Tb H t as T) (_:aL k n T) (_:1<=k) (_:k<=5) (_:1<=n) (_:n<=700) (_:Q .aI H):Ia vs H Q aA
def K7:Sp:=Ia
def vM(ends:List (Option Int)):Prop:=(∀(c:Nat) e,ends.getD c none=some e->0<=e/\e<ends.length)/\∀(c d:Nat) e,ends.getD c none=some e->ends.getD d none=some e->c=d
def aL.ends{k n:Nat}{T:Tab}(h:aL k n T)(j:Nat):vM (col T j):=by
 refine⟨λc e he=>?_,λc d e h1 h2=>?_⟩
 ·rw[oa]at he;rw[kU,h.len];exact h.bA _ _ _ he
 ·rw[oa]at h1 h2;exact h.inj _ _ _ _ h1 h2
inductive K8(vs:List V)(H:Hp)(Q:VK)(aA:XK):Prop
 |mk (a:Addr) (ends:List (Option Int)) (_:vs=[.ref a]) (_:Row H a ends) (_:vM ends) (_:ends.length<=1000) (_:∀(l:Addr) (fs:List (Option Int)) (H':Hp),H l=none->Row H' l fs->wc ends fs->aa H H'->Q (.ref l) H'):K8 vs H Q aA
def Nx:Sp:=K8
inductive Js(C:Addr)(vs:List V)(H:Hp)(Q:VK)(aA:XK):Prop
 |mk (g dx:Addr) (k n:Nat) (t:Addr) (as:List Addr) (T:Tab) (_:vs=[.ref g,.int k,.ref t]) (_:H g=some (.ins C dx [])) (_:Tb H t as T) (_:aL k n T) (_:1<=k) (_:k<=5) (_:1<=n) (_:n<=700) (_:∀(H':Hp) (fp:List Addr),cj C H' g k n T fp->(∀a∈fp,a≠g->H a=none)->Kp g H H'->Q .aI H'):Js C vs H Q aA
def A5(C:Addr):Sp:=Js C
inductive Jt(C:Addr)(vs:List V)(H:Hp)(Q:VK)(aA:XK):Prop
 |mk (g:Addr) (k n:Nat) (T:Tab) (fp:List Addr) (_:vs=[.ref g]) (_:cj C H g k n T fp) (_:Q (.int n) H):Jt C vs H Q aA
def qJ(C:Addr):Sp:=Jt C
inductive Ju(C:Addr)(vs:List V)(H:Hp)(Q:VK)(aA:XK):Prop
 |mk (g:Addr) (k n:Nat) (T:Tab) (fp:List Addr) (_:vs=[.ref g]) (_:cj C H g k n T fp) (_:∀(t:Addr) (as:List Addr) (H':Hp),H t=none->(∀a∈as,H a=none)->(t::as).Nodup->Tb H' t as T->aa H H'->Q (.ref t) H'):Ju C vs H Q aA
def vN(C:Addr):Sp:=Ju C
def h9.zero(ends:List (Option Int)):h9 0 ends (List.replicate ends.length none):=by
 refine⟨by simp,λe c=>⟨λh=>?_,λ⟨m,_,h,_⟩=>by omega⟩⟩;rw[List.getD,ZS]at h;split at h<;>cases h
def h9.skip{i:Nat}{ends fs:List (Option Int)}(h:h9 i ends fs)(e:ends.getD i none=none):h9 (i+1) ends fs:=by
 refine⟨h.len,λx c=>(h.iff x c).trans ⟨λ⟨m,a,b,d⟩=>⟨m,a,by omega,d⟩,λ⟨m,a,b,d⟩=>⟨m,a,?_,d⟩⟩⟩;by_cases q:m=i
 ·subst q;rw[e]at d;cases d
 ·omega
def h9.free{i x:Nat}{ends fs:List (Option Int)}(h:h9 i ends fs)(ok:vM ends)(e:ends.getD i none=some (x:Int)):fs.getD x none=none:=by
 cases q:fs.getD x none with
 |none=>rfl
 |some c=>
  obtain⟨m,_,hm,d⟩:=(h.iff x c).mp q;have:=ok.2 _ _ _ d e;omega
def h9.put{i x:Nat}{ends fs:List (Option Int)}(h:h9 i ends fs)(ok:vM ends)(e:ends.getD i none=some (x:Int)):h9 (i+1) ends (fs.set x (some (i:Int))):=by
 have hx:x<fs.length:=by
  have:=(ok.1 i _ e).2;rw[h.len];omega
 refine⟨by rw[List.length_set];exact h.len,λy c=>?_⟩;by_cases q:y=x
 ·subst q;have e1:(fs.set y (some (i:Int))).getD y none=some (i:Int):=by rw[List.getD,List.getElem?_set_self hx];rfl
  rw[e1];constructor
  ·intro z;exact⟨i,(Zf z).symm,by omega,e⟩
  ·rintro⟨m,rfl,hm,d⟩;rw[ok.2 _ _ _ d e]
 ·have e1:(fs.set x (some (i:Int))).getD y none=fs.getD y none:=by rw[List.getD,List.getElem?_set_ne (λz=>q z.symm)];rfl
  rw[e1,h.iff];constructor
  ·rintro⟨m,a,b,d⟩;exact⟨m,a,by omega,d⟩
  ·rintro⟨m,a,b,d⟩;refine⟨m,a,?_,d⟩;by_cases z:m=i
   ·subst z;rw[e]at d;exact absurd (Zf d) (by omega)
   ·omega
def yQ{α β:Type}(f:α->β):∀(l:List α) (i:Nat),(l.map f).eraseIdx i=(l.eraseIdx i).map f
 |[],_=>rfl
 |_::_,0=>rfl
 |a::l,i+1=>by
  show f a::(l.map f).eraseIdx i=f a::(l.eraseIdx i).map f;rw[yQ f l i]
structure dI(H H':Hp)(t:Addr)(as:List Addr)(T:Tab):Prop where
 ft:H t=none
 fa:∀a∈as,H a=none
 nd:(t::as).Nodup
 tb:Tb H' t as T
 sm:aa H H'
def dI.zero{H:Hp}{D:Addr}(h:H D=none):dI H (upd H D (.lst [])) D [] []:=⟨h,(λ_ z=>nomatch z),by simp,⟨aj,rfl,λi a r e=>by simp at e⟩,(aa.refl H).upd h⟩
def dI.snoc{H H2 H3:Hp}{D a:Addr}{as:List Addr}{T:Tab}{r:List (Option Int)}(h:dI H H2 D as T)(ha:H2 a=none)(hr:Row H3 a r)(s:aa H2 H3):dI H (upd H3 D (.lst (as.map V.ref++[V.ref a]))) D (as++[a]) (T++[r]):=by
 have nD:a≠D:=λz=>by rw[z,h.tb.is]at ha;cases ha
 obtain⟨n1,n2⟩:=ZG.mp h.nd
 have na:a∉as:=λz=>by
  obtain⟨o,e⟩:=h.tb.live a (Y3 _ z);rw[ha]at e;cases e
 refine⟨h.ft,λb hb=>?_,?_,(h.tb.same s).snoc hr nD n1,(h.sm.trans s).upd h.ft⟩
 ·rcases Y6.mp hb with q|q
  ·exact h.fa b q
  ·rw[Y1.mp q];exact h.sm.free ha
 ·refine ZG.mpr ⟨λz=>?_,qw n2 na⟩;rcases Y6.mp z with q|q
  ·exact n1 q
  ·exact nD (Y1.mp q).symm
def dI.row{H H2 H3:Hp}{D:Addr}{as:List Addr}{T:Tab}(h:dI H H2 D as T)(s:aa H2 H3):H3 D=some (.lst (as.map V.ref)):=s _ _ h.tb.is
def dI.set{H H2:Hp}{t a:Addr}{as:List Addr}{T:Tab}{i:Nat}(h:dI H H2 t as T)(e:as[i]?=some a)(r:List (Option Int)):dI H (upd H2 a (.lst (r.map oV))) t as (T.set i r):=
 ⟨h.ft,h.fa,h.nd,h.tb.set h.nd e r,h.sm.upd (h.fa a (Y5 e))⟩
def zQ{lo:Int}{n:Nat}{ix:List Nat}{te:TE}{σ:St}{H:Hp}{Q:VK}(f:Nat->List (Option Int))(hn:n<=100000)
  (he:∀i,i<n->∀H2,aa H H2->∀Q':VK,(∀(a:Addr) (H3:Hp),H2 a=none->Row H3 a (f i)->aa H2 H3->Q' (.ref a) H3)->te (bE ix (some (.int (lo+i))) σ) H2 Q')
  (hQ:∀D as H',dI H H' D as ((List.range n).map f)->Q (.ref D) H'):
  Wr (jc (fH lo n) ix te σ H Q):=by
 refine⟨zf λD hD=>⟨λi ys H2=>∃as,ys=as.map V.ref/\dI H H2 D as ((List.range i).map f)/\i<=n,⟨[],rfl,dI.zero hD,Zo _⟩,?_,?_,?_⟩⟩
 ·rintro i ys H2 ⟨as,rfl,h,hi⟩;refine⟨h.tb.is,bI ?_⟩;rw[Y0,h.tb.len];simp;omega
 ·rintro i ys H2 hi ⟨as,rfl,h,_⟩ Q' q';refine he i hi H2 h.sm Q' λa H3 ha hr s=>q' _ _ (h.row s) ⟨as++[a],by rw[Zd];rfl,?_,hi⟩;rw[List.range_succ,Zd];exact h.snoc ha hr s
 ·rintro ys H2 ⟨as,rfl,h,_⟩;exact hQ D as H2 h
def UY{K:PySem.W.Frag}{a0:Addr}{xs:List V}{ix:List Nat}{te:TE}{σ:St}{H:Hp}{Q:VK}(T:Tab)(hq:af K H a0 xs)(hl:T.length=xs.length)(hn:xs.length<=100000)
  (he:∀(i:Nat) x r,xs[i]?=some x->T[i]?=some r->∀H2,aa H H2->∀Q':VK,(∀(a:Addr) (H3:Hp),H2 a=none->Row H3 a r->aa H2 H3->Q' (.ref a) H3)->te (bE ix (some x) σ) H2 Q')
  (hQ:∀D as H',dI H H' D as T->Q (.ref D) H'):
  Wr (jc (dM K a0) ix te σ H Q):=by
 refine zt (xs:=xs) λD hD=>⟨λi ys H2=>∃as,ys=as.map V.ref/\dI H H2 D as (T.take i),⟨[],rfl,by rw[List.take_zero];exact dI.zero hD⟩,?_,?_,?_⟩
 ·rintro i ys H2 hi ⟨as,rfl,h⟩;refine⟨h.sm.seq hq,h.tb.is,bI ?_⟩;rw[Y0,h.tb.len,Zx];omega
 ·rintro i x ys H2 hi ⟨as,rfl,h⟩ Q' q';have cA:i<T.length:=by rw[hl];exact(ZL.mp hi).1
  refine he i x T[i] hi (by simp[cA]) H2 h.sm Q' λa H3 ha hr s=>q' _ _ (h.row s) ⟨as++[a],by rw[Zd];rfl,?_⟩;rw[Zi cA];exact h.snoc ha hr s
 ·rintro ys H2 ⟨as,rfl,h⟩;rw[ZE (by omega)]at h;exact hQ D as H2 h
def Ib{K:PySem.W.Frag}{a0:Addr}{xs:List V}{ix:List Nat}{te:TE}{σ:St}{H:Hp}{Q:VK}(R:Nat->List (Option Int)->Prop)(hq:af K H a0 xs)(hn:xs.length<=100000)
  (he:∀(i:Nat) x,xs[i]?=some x->∀H2,aa H H2->∀Q':VK,(∀(a:Addr) (r:List (Option Int)) (H3:Hp),H2 a=none->Row H3 a r->R i r->aa H2 H3->Q' (.ref a) H3)->te (bE ix (some x) σ) H2 Q')
  (hQ:∀D as T H',dI H H' D as T->T.length=xs.length->(∀(i:Nat) r,T[i]?=some r->R i r)->Q (.ref D) H'):
  Wr (jc (dM K a0) ix te σ H Q):=by
 refine zt (xs:=xs) λD hD=>⟨λi ys H2=>∃as T,ys=as.map V.ref/\dI H H2 D as T/\T.length=i/\i<=xs.length/\∀(j:Nat) r,T[j]?=some r->R j r,⟨[],[],rfl,dI.zero hD,rfl,Zo _,λj r e=>by simp at e⟩,?_,?_,?_⟩
 ·rintro i ys H2 hi ⟨as,T,rfl,h,e,_⟩;refine⟨h.sm.seq hq,h.tb.is,bI ?_⟩;rw[Y0,h.tb.len];omega
 ·rintro i x ys H2 hi ⟨as,T,rfl,h,e,_,hR⟩ Q' q';refine he i x hi H2 h.sm Q' λa r H3 ha hr eN s=>q' _ _ (h.row s) ⟨as++[a],T++[r],by rw[Zd];rfl,h.snoc ha hr s,by simp[e],(ZL.mp hi).1,λj r' e'=>?_⟩;by_cases hj:j<T.length
  ·rw[Zr hj]at e';exact hR j r' e'
  ·rw[Zt (by omega)]at e'
   have z:j-T.length=0:=by
    have:=(ZL.mp e').1;simp at this;omega
   rw[z]at e';cases e';have:j=i:=by omega
   rw[this];exact eN
 ·rintro ys H2 ⟨as,T,rfl,h,e,_,hR⟩;exact hQ D as T H2 h e hR
def RQ{K:PySem.W.Frag}{a:Addr}{r:List (Option Int)}{ix:List Nat}{tt:TT}{te:TE}{σ:St}{H:Hp}{Q:VK}(p:Option Int->Bool)(ha:Row H a r)(hl:r.length<=100000)
  (ht:∀z∈r,∀(H':Hp) (Q':Bool->Hp->Prop),aa H H'->Q' (p z) H'->tt (bE ix (some (oV z)) σ) H' Q')(he:∀z∈r,p z=true->∀(H':Hp) (Q':VK),aa H H'->Q' (oV z) H'->te (bE ix (some (oV z)) σ) H' Q')
  (hQ:∀(D:Addr) (H':Hp),H D=none->Row H' D (r.filter p)->aa H H'->Q (.ref D) H'):Wr (mJ (dM K a) ix tt te σ H Q):=by
 refine Gp (xs:=r.map oV) λD hD=>⟨λi ys H2=>ys=((r.take i).filter p).map oV/\H2=upd H D (.lst ys),⟨by simp,rfl⟩,?_,?_,?_⟩
 ·rintro i ys H2 hi ⟨rfl,rfl⟩;refine⟨((aa.refl H).upd hD).seq (af.of ha),aj,bI ?_⟩;have h1:=List.length_filter_le p (r.take i);have h2:(r.take i).length<=r.length:=by rw[Zx];omega
  rw[Y0];omega
 ·rintro i x ys H2 hi ⟨rfl,rfl⟩ Q1 Q0 q1 q0;obtain⟨z,rfl,ez⟩:=Aw hi;have cA:i<r.length:=(ZL.mp ez).1;have ei:r[i]=z:=(ZL.mp ez).2;have mz:=Y5 ez;refine ht z mz _ _ ((aa.refl H).upd hD) ?_;cases hp:p z with
  |true=>
   rw[if_pos rfl];refine he z mz hp _ _ ((aa.refl H).upd hD) (q1 _ _ aj ⟨?_,by rw[oj]⟩);rw[Zi cA,List.filter_append,Zd,ei];simp[hp]
  |false=>
   rw[if_neg (by decide)]
   have e:(r.take (i+1)).filter p=(r.take i).filter p:=by
    rw[Zi cA,List.filter_append,ei];simp[hp]
   exact q0 _ ⟨by rw[e],rfl⟩
 ·rintro ys H2 ⟨rfl,rfl⟩;rw[Y0,ZE (Y2 _)];exact hQ D _ hD aj ((aa.refl H).upd hD)
def Let(k:Nat)(l:Int):Prop:=l≠0/\ -(k:Int)<=l/\l<=k
def pre(T:Tab)(j c:Nat):Option Int:=((List.range T.length).find? λd=>decide (cell T d j=some (c:Int))).map λd=>(d:Int)
def az(T:Tab)(c:Nat)(l:Int):Option Int:=if 0<l then cell T c (l-1).toNat else pre T (-l-1).toNat c
def aG(T:Tab)(o:Option Int)(w:List Int):Option Int:=w.foldl (λo l=>o.bind λc=>az T c.toNat l) o
def qz{k n:Nat}{T:Tab}(h:aL k n T){c j:Nat}{e:Int}(he:cell T c j=some e):c<n:=by
 unfold cell at he;by_cases hc:c<T.length
 ·rw[h.len]at hc;exact hc
 ·simp[List.getD,ZI (Nat.le_of_not_lt hc)]at he
def eX{k n:Nat}{T:Tab}(h:aL k n T){j c:Nat}{d:Int}:pre T j c=some d↔∃m:Nat,d=m/\m<n/\cell T m j=some (c:Int):=by
 unfold pre;constructor
 ·intro e;cases q:(List.range T.length).find? (λd=>decide (cell T d j=some (c:Int)))with
  |none=>rw[q]at e;cases e
  |some m=>
   rw[q]at e;have h1:=List.find?_some q;have h1:cell T m j=some (c:Int):=by simpa using h1
   exact⟨m,(Zf e).symm,qz h h1,h1⟩
 ·rintro⟨m,rfl,hm,e⟩;cases q:(List.range T.length).find? (λd=>decide (cell T d j=some (c:Int)))with
  |none=>
   have:=List.find?_eq_none.mp q m (by rw[h.len];exact ZU.mpr hm);simp[e]at this
  |some m'=>
   have h1:=List.find?_some q;have h1:cell T m' j=some (c:Int):=by simpa using h1
   have:=h.inj _ _ _ _ e h1;rw[this];rfl
def YT{a b:Option Int}(h:∀d,a=some d↔b=some d):a=b:=by
 cases a with
 |none=>cases b with
  |none=>rfl
  |some y=>exact absurd ((h y).mpr rfl) (by simp)
 |some x=>exact((h x).mp rfl).symm
def YU{k n:Nat}{T:Tab}(h:aL k n T){j c:Nat}{fs:List (Option Int)}(b:wc (col T j) fs):fs.getD c none=pre T j c:=by
 refine YT λd=>?_;rw[b.iff,eX h];constructor
 ·rintro⟨m,e,h1,h2⟩;rw[oa]at h2;rw[kU,h.len]at h1;exact⟨m,e,h1,h2⟩
 ·rintro⟨m,e,h1,h2⟩;refine⟨m,e,by rw[kU,h.len];exact h1,by rw[oa];exact h2⟩
def eB{k n:Nat}{T:Tab}(h:aL k n T){c:Nat}{l d:Int}(e:az T c l=some d):0<=d/\d<n:=by
 unfold az at e;split at e
 ·exact h.bA _ _ _ e
 ·obtain⟨m,rfl,hm,_⟩:=(eX h).mp e;omega
def gQ{k n:Nat}{T:Tab}(h:aL k n T){c d:Nat}{l:Int}(hl:l≠0)(hc:c<n)(e:az T c l=some (d:Int)):az T d (-l)=some (c:Int):=by
 unfold az at e⊢;by_cases hp:0<l
 ·rw[if_pos hp]at e;rw[if_neg (by omega),show(- -l-1).toNat=(l-1).toNat by omega];exact(eX h).mpr ⟨c,rfl,hc,e⟩
 ·rw[if_neg hp]at e;rw[if_pos (by omega)];obtain⟨m,e1,hm,e2⟩:=(eX h).mp e;have:m=d:=by omega
  subst this;exact e2
def fN(T:Tab)(w:List Int):aG T none w=none:=by
 unfold aG
 induction w with
 |nil=>rfl
 |cons a w ih=>exact ih
def dG(T:Tab)(c:Int)(l:Int)(w:List Int):aG T (some c) (l::w)=aG T (az T c.toNat l) w:=rfl
def ke(T:Tab)(o:Option Int)(v w:List Int):aG T o (v++w)=aG T (aG T o v) w:=by unfold aG;rw[List.foldl_append]
def mE(T:Tab)(o:Option Int)(v:List Int)(l:Int):aG T o (v++[l])=(aG T o v).bind λc=>az T c.toNat l:=by rw[ke];rfl
def zR{T:Tab}{o:Option Int}{w:List Int}{i:Nat}{l:Int}(h:w[i]?=some l):aG T o (w.take (i+1))=(aG T o (w.take i)).bind λc=>az T c.toNat l:=by
 obtain⟨hi,e⟩:=ZL.mp h;rw[Zi hi,mE,e]
def WZ{T:Tab}{o:Option Int}{w:List Int}(i:Nat)(h:aG T o (w.take i)=none):aG T o w=none:=by
 have:=ke T o (w.take i) (w.drop i);rw[List.take_append_drop,h,fN]at this;exact this
def iZ{k n:Nat}{T:Tab}(h:aL k n T){c d:Int}{w:List Int}(hc:0<=c/\c<n)(e:aG T (some c) w=some d):0<=d/\d<n:=by
 induction w generalizing c with
 |nil=>cases e;exact hc
 |cons l w ih=>
  rw[dG]at e;cases q:az T c.toNat l with
  |none=>rw[q,fN]at e;cases e
  |some c'=>rw[q]at e;exact ih (eB h q) e
inductive K9(C:Addr)(vs:List V)(H:Hp)(Q:VK)(aA:XK):Prop
 |mk (g:Addr) (k n:Nat) (T:Tab) (fp:List Addr) (c:Nat) (_:vs=[.ref g,.int c]) (_:cj C H g k n T fp) (_:c<n) (_:Q .aI H):K9 C vs H Q aA
def Ny(C:Addr):Sp:=K9 C
inductive Lb(vs:List V)(H:Hp)(Q:VK)(aA:XK):Prop
 |mk (k:Nat) (wa:Addr) (ws:List Int) (_:vs=[.int k,.ref wa]) (_:ay H wa ws) (_:(∀l∈ws,Let k l)) (_:Q .aI H):Lb vs H Q aA
def Nz:Sp:=Lb
inductive Jv(C:Addr)(vs:List V)(H:Hp)(Q:VK)(aA:XK):Prop
 |mk (g:Addr) (k n:Nat) (T:Tab) (fp:List Addr) (c:Nat) (l:Int) (_:vs=[.ref g,.int c,.int l]) (_:cj C H g k n T fp) (_:c<n) (_:Let k l) (_:∀H',aa H H'->Q (oV (az T c l)) H'):Jv C vs H Q aA
def A6(C:Addr):Sp:=Jv C
def W0{p:Int->Prop}{st:List Int}{x:Int}(h:∀l∈st,p l)(hx:p x):∀l∈push st x,p l:=by
 cases st with
 |nil=>intro l hl;rw[Y1.mp hl];exact hx
 |cons t r=>
  show∀l∈(if t= -x then r else x::t::r),p l;split
  ·exact λl hl=>h l (Y3 _ hl)
  ·intro l hl;rcases Y4.mp hl with e|e
   ·rw[e];exact hx
   ·exact h l e
def Lc{p:Int->Prop}{w:List Int}(h:∀l∈w,p l):∀l∈cut w,p l:=by
 have:∀(w st:List Int),(∀l∈st,p l)->(∀l∈w,p l)->∀l∈w.foldl push st,p l:=by
  intro w
  induction w with
  |nil=>intro st h1 _;exact h1
  |cons x w ih=>intro st h1 h2;exact ih _ (W0 h1 (h2 x (Y8 ..))) λl hl=>h2 l (Y3 _ hl)
 intro l hl;unfold cut at hl;rw[List.mem_reverse]at hl;exact this w [] (λ_ z=>nomatch z) h l hl
end My
set_option autoImplicit false
namespace My
open PySem L2 PySem.SeqAt PyProof.Rows PySem.Spec
end My
namespace L2
open PySem
def vZ.abK{K:PySem.W.Frag}{Ce:Addr}{tb:XK->TS}{ts u:TS}{D:Ends}{σ:St}{H:Hp}
  (h:∀EE:XK,(∀(C:Addr) (H':Hp),PySem.W.exmOne K (.ref C) (.ref Ce)=some true->ts {D with nx:=u D} σ H'->EE (.ref C) none H')->tb EE {D with nx:=u D} σ H):oN (vZ K Ce tb ts) u D σ H:=
 h _ λC H' e q=>⟨C,rfl,e,q⟩
section
variable {X:Cx}{E:XK}{x m:Str}{C:Addr}{ps:List Str}{k j:Nat}{sp:Sp}{o e:Expr}{es:List Expr}{ta:TE}{t:TA}{apos p pos:Pos}{pl:Sem Bool}
def A7{X:Cx}:Passes (bS X.prog X.w) X E0:=λ_ _ _ _ _ _ _ ⟨_,_,_,_,_,_,_,z⟩=>z.elim
def lO.pe(R:lO X.prog X.w X.K X.mg X.base x ps k sp)(hr:bL j X.A)(ha:PA (X.cC (fj X E)) (e::es) t)(hg:Gl X x:=by rfl)(hj:k<=j:=by decide)
  (eJ:(x==("__debug__":Str))=false:=by decide)(he:starEach (e::es) X.env=(false,eval e X.env)::starEach es X.env:=by rfl)(bO:(backTo pos (starEach es X.env)).any (·.1)=false:=by rfl):
  PE (X.cC (fj X E)) (.Call (.Name x p) (e::es) [] pos) (sY sp [] E t):=Ah (X:=X.cC (fj X E)) R.ok (hr.mono hj) hg R.pf R.kp R.bd .nil Bw ha eJ he bO
def lO.dO(R:lO X.prog X.w X.K X.mg X.base x ps k sp)(hr:bL j X.A)(ha:PA X (e::es) t)(hg:Gl X x:=by rfl)(hj:k<=j:=by decide)
  (eJ:(x==("__debug__":Str))=false:=by decide)(he:starEach (e::es) X.env=(false,eval e X.env)::starEach es X.env:=by rfl)(bO:(backTo pos (starEach es X.env)).any (·.1)=false:=by rfl):
  PE X (.Call (.Name x p) (e::es) [] pos) (sY sp [] E0 t):=Ah R.ok (hr.mono hj) hg R.pf R.kp R.bd .nil A7 ha eJ he bO
end
end L2
namespace My
open PySem L2
def zg{K:PySem.W.Frag}{a:Addr}{xs:List V}{ix:List Nat}{te:TE}{σ:St}{H:Hp}{Q:VK}(f:V->V)(hq:af K H a xs)(hl:xs.length<sizeLine)
  (he:∀z∈xs,∀(H':Hp) (Q':VK),aa H H'->Q' (f z) H'->te (bE ix (some z) σ) H' Q')(h:∀(D:Addr) (H':Hp),H D=none->H' D=some (.lst (xs.map f))->aa H H'->Q (.ref D) H'):Wr (jc (dM K a) ix te σ H Q):=
 ⟨λD hD=>HG f hq hl he (λD hD=>h D _ hD aj ((aa.refl H).upd hD)) D hD⟩
def cI{K:PySem.W.Frag}{H:Hp}{a:Addr}{xs:List V}{i:Int}{v:V}{Q:VK}(hq:H a=some (.tup xs))(e:jm xs i=some v)(h:Q v H):Wr (kr K (.ref a) (.int i) H Q):=⟨⟨a,xs,i,v,rfl,rfl,bt.of hq,e,h⟩⟩
def jE{H:Hp}{xs:List V}{Q:VK}(hl:xs.length<=1000)(h:∀(p:Addr) (H':Hp),H p=none->H' p=some (.lst xs)->aa H H'->Q (.ref p) H'):Wr (wB xs H Q):=
 ⟨⟨Z2 (bI (by omega)),λp hp=>h p _ hp aj ((aa.refl H).upd hp)⟩⟩
def Ax{H:Hp}{a b:Addr}{xs ys:List V}{Q:VK}(ha:H a=some (.lst xs))(hb:H b=some (.lst ys))(hl:xs.length+ys.length<=10000000)(h:∀(p:Addr) (H':Hp),H p=none->H' p=some (.lst (xs++ys))->aa H H'->Q (.ref p) H'):Wr (wz (.ref a) (.ref b) H Q):=
 ⟨⟨a,b,_,_,rfl,rfl,ha,hb,Z2 (bI hl),λp hp=>h p _ hp aj ((aa.refl H).upd hp)⟩⟩
section
variable {X:Cx}{E:XK}{x m:Str}{C:Addr}{ps:List Str}{k j:Nat}{sp:Sp}{o e:Expr}{es:List Expr}{ta:TE}{t:TA}{apos p pos:Pos}{pl:Sem Bool}
structure b4(P:Program)(w:World)(K:PySem.W.Frag)(mg:Str->Option Value)(base:Heap)(C:Addr)(m:Str)(ps:List Str)(k:Nat)(sp:Sp) where
 f:Addr
 fd:FuncData
 ok:aB P w K mg base (bS P w) k f fd ps sp
 cl:eI K C
 mt:Meth K C m f
 bd:Binds K fd ps []
def b4.px(R:b4 X.prog X.w X.K X.mg X.base C m ps k sp)(hr:bL j X.A)(ho:PE X.gj o ta)(ha:PA X.gj (e::es) t)(hj:k<=j:=by decide)
  (he:starEach (e::es) X.env=(false,eval e X.env)::starEach es X.env:=by rfl)(bO:(backTo pos (starEach es X.env)).any (·.1)=false:=by rfl)
  (ht:eval (.Call (.Attribute o m apos) (e::es) [] pos) X.env=(do
   let ov<-eval o X.env
   standAt apos.atName
   let(f,first)<-holding [ov] (getMethod ov m pl)
   callWith pos f first (backTo pos (starEach (e::es) X.env)) (backToKw pos (keywordEach [] X.env))):=by rfl):
  PX X (.Call (.Attribute o m apos) (e::es) [] pos) (λE=>jI C m sp [] E ta t):=YR ho R.cl R.mt R.ok (hr.mono hj) R.bd .nil ha he bO ht
def b4.pe(R:b4 X.prog X.w X.K X.mg X.base C m ps k sp)(hr:bL j X.A)(ho:PE (X.cC (fj X E)) o ta)(ha:PA (X.cC (fj X E)) (e::es) t)(hj:k<=j:=by decide)
  (he:starEach (e::es) X.env=(false,eval e X.env)::starEach es X.env:=by rfl)(bO:(backTo pos (starEach es X.env)).any (·.1)=false:=by rfl)
  (ht:eval (.Call (.Attribute o m apos) (e::es) [] pos) X.env=(do
   let ov<-eval o X.env
   standAt apos.atName
   let(f,first)<-holding [ov] (getMethod ov m pl)
   callWith pos f first (backTo pos (starEach (e::es) X.env)) (backToKw pos (keywordEach [] X.env))):=by rfl):
  PE (X.cC (fj X E)) (.Call (.Attribute o m apos) (e::es) [] pos) (jI C m sp [] E ta t):=Ai (X:=X.cC (fj X E)) ho R.cl R.mt R.ok (hr.mono hj) R.bd .nil Bw ha he bO ht
def b4.dO(R:b4 X.prog X.w X.K X.mg X.base C m ps k sp)(hr:bL j X.A)(ho:PE X o ta)(ha:PA X (e::es) t)(hj:k<=j:=by decide)
  (he:starEach (e::es) X.env=(false,eval e X.env)::starEach es X.env:=by rfl)(bO:(backTo pos (starEach es X.env)).any (·.1)=false:=by rfl)
  (ht:eval (.Call (.Attribute o m apos) (e::es) [] pos) X.env=(do
   let ov<-eval o X.env
   standAt apos.atName
   let(f,first)<-holding [ov] (getMethod ov m pl)
   callWith pos f first (backTo pos (starEach (e::es) X.env)) (backToKw pos (keywordEach [] X.env))):=by rfl):
  PE X (.Call (.Attribute o m apos) (e::es) [] pos) (jI C m sp [] E0 ta t):=Ai ho R.cl R.mt R.ok (hr.mono hj) R.bd .nil A7 ha he bO ht
structure Oe(P:Program)(w:World)(K:PySem.W.Frag)(mg:Str->Option Value)(base:Heap)(C:Addr)(x:Str)(ps:List Str)(k:Nat)(sp:Sp) where
 f:Addr
 fd:FuncData
 ok:aB P w K mg base (bS P w) k f fd ps sp
 OU:Mk K C f
 pf:mg x=some (.ref C)
 bd:Binds K fd ps []
end
inductive Jw(C:Addr)(cN:Addr)(vs:List V)(H:Hp)(Q:VK)(E:XK):Prop
 |mk (g:Addr) (k n:Nat) (T:Tab) (fp:List Addr) (c:Int) (_:vs=[.ref g,.int c]) (_:cj C H g k n T fp) (_:(0<=c/\c<n->Q .aI H)) (_:(¬(0<=c/\c<n)->E (.ref cN) none H)):Jw C cN vs H Q E
def MJ(C:Addr)(cN:Addr):Sp:=Jw C cN
inductive Jx(cK:Addr)(vs:List V)(H:Hp)(Q:VK)(E:XK):Prop
 |mk (k:Nat) (wa:Addr) (ws:List Int) (_:vs=[.int k,.ref wa]) (_:ay H wa ws) (_:((∀l∈ws,Let k l)->Q .aI H)) (_:(¬(∀l∈ws,Let k l)->E (.ref cK) none H)):Jx cK vs H Q E
def MK(cK:Addr):Sp:=Jx cK
end My
namespace L2
open PySem PySem.Spec PyProof.Rows
def sC{X:Cx}{st:Stmt}{t:TS}{rest:List Stmt}{u:TS}(h1:PS X st t)(h2:c8 X rest u):c8 X (st::rest) (oN t u):=bJ h1 h2
def sO{X:Cx}{st:Stmt}{t:TS}(h:PS X st t):c8 X [st] t:=bH h
def sS{X:Cx}{i:Nat}{x:Str}{e:Expr}{te:TE}{pos pos':Pos}(hN:X.N.Nodup)(hi:X.N[i]?=some x)(hx:Loc X.env.scope x)(he:PE X e te)(hs:swapsWith e (some (.Name x pos')) pos.line X.env=pure false)(hf:X.fn x=true\/X.env.scope.names.lookup x=some .local):
  PS X (.Assign [.Name x pos'] e pos) (mV te (jG i)):=b9 hN hi hx he hs hf
def sR{X:Cx}{e:Expr}{te:TE}{pos:Pos}(he:PE X e te):PS X (.Return (some e) pos) (NO te):=ik he
def aC{X:Cx}{e:Expr}{te:TE}{es:List Expr}{t:TA}(ha:PE X e te)(hr:PA X es t)(hs:starEach (e::es) X.env=(false,eval e X.env)::starEach es X.env):PA X (e::es) (kh te t):=aq ha hr hs
def eL{X:Cx}{es:List Expr}{t:TA}{pos:Pos}(h:PA X es t):PE X (.List es pos) (Np t):=fO h
def O0{α:Type}{us:List α}(h:us.length=1):∃a,us=[a]:=by
 match us,h with
 |[a],_=>exact⟨a,rfl⟩
def CZ{α:Type}{us:List α}(h:us.length=2):∃a b,us=[a,b]:=by
 cases us with
 |nil=>cases h
 |cons a r=>obtain⟨b,rfl⟩:=O0 (us:=r) (by simpa using h);exact⟨a,b,rfl⟩
def O1{α:Type}{us:List α}(h:us.length=3):∃a b c,us=[a,b,c]:=by
 cases us with
 |nil=>cases h
 |cons a r=>obtain⟨b,c,rfl⟩:=CZ (us:=r) (by simpa using h);exact⟨a,b,c,rfl⟩
def O2{α:Type}{us:List α}(h:us.length=4):∃a b c d,us=[a,b,c,d]:=by
 cases us with
 |nil=>cases h
 |cons a r=>obtain⟨b,c,d,rfl⟩:=O1 (us:=r) (by simpa using h);exact⟨a,b,c,d,rfl⟩
def us5{α:Type}{us:List α}(h:us.length=5):∃a b c d e,us=[a,b,c,d,e]:=by
 cases us with
 |nil=>cases h
 |cons a r=>obtain⟨b,c,d,e,rfl⟩:=O2 (us:=r) (by simpa using h);exact⟨a,b,c,d,e,rfl⟩
def aQ{N P:List Str}{sc:Scope}(a:sc.kind=.function:=by rfl)(b:sc.isCoroutine=false:=by rfl)(c:sc.isGenerator=false:=by rfl)(d:N.Nodup:=by decide+kernel)(e:N.take P.length=P:=by rfl)(f:∀x∈P,sc.names.lookup x=some .local\/sc.names.lookup x=some .cell:=by decide+kernel)(g:∀y∈sc.names,y.2≠.free:=by decide+kernel):aN N P sc:=⟨a,b,c,d,e,f,g⟩
end L2
namespace My
open PySem L2
section
variable {X:Cx}{E:XK}{m:Str}{C:Addr}{ps:List Str}{k j:Nat}{sp:Sp}{o:Expr}{ta:TE}{apos pos:Pos}{pl:Sem Bool}
def b4.pz(R:b4 X.prog X.w X.K X.mg X.base C m ps k sp)(hr:bL j X.A)(ho:PE (X.cC (fj X E)) o ta)(hj:k<=j:=by decide)
  (ht:eval (.Call (.Attribute o m apos) [] [] pos) X.env=(do
   let ov<-eval o X.env
   standAt apos.atName
   let(f,first)<-holding [ov] (getMethod ov m pl)
   callWith pos f first (backTo pos (starEach [] X.env)) (backToKw pos (keywordEach [] X.env))):=by rfl):
  PE (X.cC (fj X E)) (.Call (.Attribute o m apos) [] [] pos) (jI C m sp [] E ta iI):=zJ (X:=X.cC (fj X E)) ho R.cl R.mt R.ok (hr.mono hj) R.bd .nil Bw ht
def b4.O3(R:b4 X.prog X.w X.K X.mg X.base C m ps k sp)(hr:bL j X.A)(ho:PE X o ta)(hj:k<=j:=by decide)
  (ht:eval (.Call (.Attribute o m apos) [] [] pos) X.env=(do
   let ov<-eval o X.env
   standAt apos.atName
   let(f,first)<-holding [ov] (getMethod ov m pl)
   callWith pos f first (backTo pos (starEach [] X.env)) (backToKw pos (keywordEach [] X.env))):=by rfl):
  PE X (.Call (.Attribute o m apos) [] [] pos) (jI C m sp [] E0 ta iI):=zJ ho R.cl R.mt R.ok (hr.mono hj) R.bd .nil A7 ht
end
def UZ{i:Nat}{v:V}{u:TS}{D:Ends}{σ:St}{H:Hp}(h:u D (σ.set i (some v)) H):oN (mV (tC v) (jG i)) u D σ H:=h
def Ld{n:Nat}{rows:List Addr}{rd:Addr->List Int}(R:Rows n rows rd):∀(as:List Addr) (st:FS),bB n rows rd st->(∀a∈as,a∈rows)->
  bB n rows rd (as.foldl (gc rd) st)/\(as.foldl (gc rd) st).l=st.l/\(as.foldl (gc rd) st).ss=st.ss/\(as.foldl (gc rd) st).W.length<=st.W.length+2*as.length:=by
 intro as
 induction as with
 |nil=>intro st h _;exact⟨h,rfl,rfl,Y2 _⟩
 |cons a as ih=>
  intro st h ha;obtain⟨h1,h2,h3,h4⟩:=h.lay R (ha a (Y8 ..));obtain⟨g1,g2,g3,g4⟩:=ih _ h1 λb hb=>ha b (Y3 _ hb);refine⟨g1,g2.trans h2,g3.trans h3,?_⟩;simp only[List.foldl_cons,ZF];omega
def FL(n:Nat)(rs:List (List Int))(st:Ps)(l:List Int):Prop:=gn n rs st l/\closed rs l
def FL.unique{n:Nat}{rs:List (List Int)}{st:Ps}{l l':List Int}(h:FL n rs st l)(h':FL n rs st l'):l=l':=gn.unique h.1 h.2 h'.1 h'.2
open Classical in
noncomputable def fl(n:Nat)(rs:List (List Int)):List Int:=if h:∃l,FL n rs [] l then Classical.choose h else []
def FL.eq{n:Nat}{rs:List (List Int)}{l:List Int}(h:FL n rs [] l):l=fl n rs:=by
 unfold fl;have e:∃l,FL n rs [] l:=⟨l,h⟩;rw[dif_pos e];exact h.unique (Classical.choose_spec e)
inductive Ic(vs:List V)(H:Hp)(Q:VK)(aA:XK):Prop
 |mk (n:Nat) (lr ls:Addr) (ps start:Ps) (_:vs=[.int n,.ref lr,.ref ls]) (_:Tl H lr ps) (_:Tl H ls start) (_:(∀p∈ps,c5 n p.2/\1<=p.2.getD 2 0/\p.2.getD 2 0<=5)) (_:(∀p∈start,fQ n p.2)) (_:n<=700) (_:ps.length<=1000) (_:start.length<=1000) (_:∀(t l1 l2:Addr) (sp:Ps) (l:List Int) (H':Hp),H' t=some (.tup [.ref l1,.ref l2])->ay H' l1 l->Tl H' l2 sp->FL n (ps.map (·.2)) start l->(qZ ps->wP ps (fF n start) (sp.map (·.2))=some l/\∀r∈sp.map (·.2),vY r)->sp.length<=9000000->H l1=none->H l2=none->aa H H'->Q (.ref t) H'):Ic vs H Q aA
def sM:Sp:=Ic
def W2{vs:List V}{H:Hp}{Q:VK}{E:XK}(h:sM vs H Q E):Jn vs H Q E:=by
 obtain⟨n,lr,ls,ps,start,rfl,tr,ts,rj,bT,hn,bO,C0,q⟩:=h;have tp:=tr.tp
 have R:Rows n (ps.map (·.1)) (bZ ps):=by
  refine⟨λr hr=>?_,λr hr=>?_⟩
  all_goals obtain⟨p,hp,rfl⟩:=Zg.mp hr
  all_goals rw[mK tp hp]
  ·exact(rj p hp).1
  ·exact(rj p hp).2
 have uf:bB n (ps.map (·.1)) (bZ ps) (jq n start):=MG bT;obtain⟨o1,o2,o3,o4⟩:=Ld R (ps.map (·.1)) (jq n start) uf λa ha=>ha;refine⟨n,lr,ls,ps,start,λst=>(gn n (ps.map (·.2)) start st.l/\t9 n (bZ ps) (λr s=>r∈ps.map (·.1)/\gH s) st)/\(qZ ps->JP ps (fF n start) st),rfl,tr,ts,rj,bT,hn,bO,C0,?_,⟨⟨?_,?_⟩,λu=>?_⟩,?_⟩
 ·exact λst W x y s ok eW ⟨⟨j1,j2⟩,j3⟩=>⟨⟨UU tp bT R st W x y s ok eW j1,WU R (λr s h=>h) st W x y s ok eW j2⟩,λu=>SR u tp R st W x y s ok eW (j3 u)⟩
 ·unfold A3;rw[o2];exact Jo bT
 ·have:=YN R (ps.map (·.1)) (jq n start) (λ_ _=>False) uf (λa ha=>ha) λr s z=>z.elim;exact λr s z=>this r s (.inr z)
 ·unfold A3 JP;rw[o2,o3];exact⟨rfl,(λ_ z=>nomatch z)⟩
 ·intro t l1 l2 sp st H' ht h1 h2 es ok j w hl f1 f2 s;refine q t l1 l2 sp st.l H' ht h1 h2 ⟨j.1.1,Tw tp ok j.1.2 w⟩ (λu=>?_) hl f1 f2 s;have:=j.2 u;rw[es];exact this
inductive En where
 |row(i a k b:Int)
 |ap(i a b:Int)
def En.num:En->Int
 |.row i _ _ _=>i
 |.ap i _ _=>i
def En.told:En->List V
 |.row _ a k b=>[.str "row",.int a,.int k,.int b]
 |.ap _ a b=>[.str "apart",.int a,.int b]
def En.vs(e:En):List V:=.int e.num::e.told
def En.re(e:En)(i:Int):En:=match e with
 |.row _ a k b=>.row i a k b
 |.ap _ a b=>.ap i a b
def aE(n:Nat)(a:Int):Prop:=0<=a/\a<n
def dJ(k n:Nat):En->Prop
 |.row _ a kd b=>aE n a/\(1<=kd/\kd<=k)/\aE n b
 |.ap _ a b=>aE n a/\aE n b
def dJ.mono{k n n':Nat}{e:En}(h:dJ k n e)(hn:n<=n'):dJ k n' e:=by
 cases e with
 |row i a kd b=>obtain⟨⟨a0,a1⟩,h2,⟨b0,b1⟩⟩:=h;exact⟨⟨a0,by omega⟩,h2,⟨b0,by omega⟩⟩
 |ap i a b=>obtain⟨⟨a0,a1⟩,⟨b0,b1⟩⟩:=h;exact⟨⟨a0,by omega⟩,⟨b0,by omega⟩⟩
def rowsOf(es:List En):List (List Int):=es.filterMap λe=>match e with
 |.row i a k b=>some [i,a,k,b]
 |.ap ..=>none
def cP(es:List En)(l:List Int):Option Int:=es.findSome? λe=>match e with
 |.row ..=>none
 |.ap i a b=>if l.getD a.toNat 0=l.getD b.toNat 0 then some i else none
def Tz(i a k b:Int)(es:List En)(l:List Int):cP (.row i a k b::es) l=cP es l:=rfl
def zw(i a b:Int)(es:List En)(l:List Int):cP (.ap i a b::es) l=if l.getD a.toNat 0=l.getD b.toNat 0 then some i else cP es l:=by
 unfold cP;rw[List.findSome?_cons];by_cases z:l.getD a.toNat 0=l.getD b.toNat 0
 ·rw[if_pos z];simp only[if_pos z]
 ·rw[if_neg z];simp only[if_neg z]
def uW(a b:List En):rowsOf (a++b)=rowsOf a++rowsOf b:=List.filterMap_append
def mB{k n:Nat}{es:List En}(k5:k<=5)(h:∀e∈es,dJ k n e):∀r∈rowsOf es,c5 n r/\1<=r.getD 2 0/\r.getD 2 0<=5:=λr hr=>by
 obtain⟨e,he,h1⟩:=List.mem_filterMap.mp hr;have:=h e he;cases e with
 |row i a kd b=>
  cases h1;obtain⟨⟨a0,a1⟩,⟨k0,k1⟩,⟨b0,b1⟩⟩:=this;refine⟨⟨i,a.toNat,kd,b.toNat,?_,by omega,by omega⟩,?_,?_⟩
  ·rw[Zw a0,Zw b0]
  ·exact k0
  ·show kd<=5;omega
 |ap i a b=>cases h1
def r9(es:List En):(rowsOf es).length<=es.length:=List.length_filterMap_le ..
structure El(H:Hp)(fp:List Addr)(l:Addr)(es:List En):Prop where
 ob:∃ps:List (Addr×En),H l=some (.lst (ps.map λp=>V.ref p.1))/\(∀p∈ps,H p.1=some (.tup p.2.vs))/\ps.map (·.2)=es/\l∈fp/\∀p∈ps,p.1∈fp
def El.on{H H':Hp}{fp:List Addr}{l:Addr}{es:List En}(h:El H fp l es)(s:∀a∈fp,∀o,H a=some o->H' a=some o):El H' fp l es:=by
 obtain⟨ps,h1,h2,h3,h4,h5⟩:=h.ob;exact⟨ps,s l h4 _ h1,λp hp=>s _ (h5 p hp) _ (h2 p hp),h3,h4,h5⟩
def El.same{H H':Hp}{fp:List Addr}{l:Addr}{es:List En}(h:El H fp l es)(s:aa H H'):El H' fp l es:=h.on λa _ o e=>s a o e
def El.sub{H:Hp}{fp ug:List Addr}{l:Addr}{es:List En}(h:El H fp l es)(s:∀a∈fp,a∈ug):El H ug l es:=by
 obtain⟨ps,h1,h2,h3,h4,h5⟩:=h.ob;exact⟨ps,h1,h2,h3,s l h4,λp hp=>s _ (h5 p hp)⟩
def El.other{H:Hp}{fp:List Addr}{l x:Addr}{es:List En}{o:HO}(h:El H fp l es)(n:x∉fp):El (upd H x o) fp l es:=h.on λa ha _ e=>by
 have ne:a≠x:=λz=>n (z▸ha);rw[ah ne];exact e
structure Bk where
 k:Nat
 n:Nat
 es:List En
 c:Int
 hs:List (Nat×List En×Int)
def bf(k n:Nat)(ls:Addr)(c:Int)(lh:Addr):List (Str×V):=[("kinds",.int k),("many",.int n),("standing",.ref ls),("coming",.int c),("held",.ref lh)]
def Cj(k n:Nat)(ls:Addr)(c:Int)(lh:Addr):(bf k n ls c lh).lookup ("kinds":Str)=some (.int k):=rfl
def ku(k n:Nat)(ls:Addr)(c:Int)(lh:Addr):(bf k n ls c lh).lookup ("many":Str)=some (.int n):=rfl
def lC(k n:Nat)(ls:Addr)(c:Int)(lh:Addr):(bf k n ls c lh).lookup ("standing":Str)=some (.ref ls):=rfl
def Ck(k n:Nat)(ls:Addr)(c:Int)(lh:Addr):(bf k n ls c lh).lookup ("coming":Str)=some (.int c):=rfl
def acT(k n n':Nat)(ls:Addr)(c:Int)(lh:Addr):a8 "many" (.int n') (bf k n ls c lh)=bf k n' ls c lh:=rfl
def acU(k n:Nat)(ls rm:Addr)(c:Int)(lh:Addr):a8 "standing" (.ref rm) (bf k n ls c lh)=bf k n rm c lh:=rfl
def acV(k n:Nat)(ls:Addr)(c c':Int)(lh:Addr):a8 "coming" (.int c') (bf k n ls c lh)=bf k n ls c' lh:=rfl
structure fG(K:PySem.W.Frag)(mg:Str->Option Value)(C:Addr):Prop where
 cl:eI K C
 nk:NoAttr K C "kinds"
 nn:NoAttr K C "many"
 ns:NoAttr K C "standing"
 nc:NoAttr K C "coming"
 nh:NoAttr K C "held"
 mk5:∃t,mg "MOST_KINDS"=some (.int 5 t)
 O4:∃t,mg "MOST_MARKS"=some (.int 24 t)
 m40:∃t,mg "MOST_ENTRIES"=some (.int 40 t)
 row:∃t,mg "ROW"=some (.str "row" t)
 ap:∃t,mg "APART"=some (.str "apart" t)
structure Hl(H:Hp)(fp:List Addr)(lh:Addr)(hs:List (Nat×List En×Int)):Prop where
 ob:∃qs:List (Addr×Addr×(Nat×List En×Int)),H lh=some (.lst (qs.map λq=>V.ref q.1))/\(∀q∈qs,H q.1=some (.tup [.int q.2.2.1,.ref q.2.1,.int q.2.2.2.2])/\El H fp q.2.1 q.2.2.2.1/\q.1∈fp)/\qs.map (·.2.2)=hs
structure aZ(C:Addr)(H:Hp)(g lh:Addr)(B:Bk)(rest:List Addr):Prop where
 k1:1<=B.k
 k5:B.k<=5
 d0:B.n<=24
 fJ:B.es.length<=40
 ok:∀e∈B.es,dJ B.k B.n e
 ob:∃dx ls,H g=some (.ins C dx (bf B.k B.n ls B.c lh))/\El H rest ls B.es
 hl:Hl H rest lh B.hs
 hh:∀h∈B.hs,h.1<=24/\h.2.1.length<=40/\∀e∈h.2.1,dJ B.k h.1 e
 nl:lh∉rest
 ng:g∉rest
 lv:∀a∈rest,∃o,H a=some o
def Hl.on{H H':Hp}{fp:List Addr}{lh:Addr}{hs:List (Nat×List En×Int)}(h:Hl H fp lh hs)(s:∀a∈lh::fp,∀o,H a=some o->H' a=some o):Hl H' fp lh hs:=by
 obtain⟨qs,h1,h2,h3⟩:=h.ob;exact⟨qs,s lh (Y8 ..) _ h1,λq hq=>⟨s _ (Y3 _ (h2 q hq).2.2) _ (h2 q hq).1,(h2 q hq).2.1.on λa ha=>s a (Y3 _ ha),(h2 q hq).2.2⟩,h3⟩
def Hl.sub{H:Hp}{fp ug:List Addr}{lh:Addr}{hs:List (Nat×List En×Int)}(h:Hl H fp lh hs)(s:∀a∈fp,a∈ug):Hl H ug lh hs:=by
 obtain⟨qs,h1,h2,h3⟩:=h.ob;exact⟨qs,h1,λq hq=>⟨(h2 q hq).1,(h2 q hq).2.1.sub s,s _ (h2 q hq).2.2⟩,h3⟩
section
variable {C:Addr}{H H':Hp}{g lh:Addr}{B:Bk}{rest:List Addr}
def aZ.on(h:aZ C H g lh B rest)(s:∀a∈g::lh::rest,∀o,H a=some o->H' a=some o):aZ C H' g lh B rest:=by
 obtain⟨dx,ls,h1,h2⟩:=h.ob
 exact⟨h.k1,h.k5,h.d0,h.fJ,h.ok,⟨dx,ls,s g (Y8 ..) _ h1,h2.on λa ha=>s a (Y3 _ (Y3 _ ha))⟩,h.hl.on λa ha=>s a (Y3 _ ha),h.hh,h.nl,h.ng,λa ha=>by
  obtain⟨o,e⟩:=h.lv a ha;exact⟨o,s a (Y3 _ (Y3 _ ha)) _ e⟩⟩
def aZ.same(h:aZ C H g lh B rest)(s:aa H H'):aZ C H' g lh B rest:=h.on λa _ o e=>s a o e
def aZ.other{x:Addr}{o:HO}(h:aZ C H g lh B rest)(n:x∉g::lh::rest):aZ C (upd H x o) g lh B rest:=h.on λa ha _ e=>by
 have ne:a≠x:=λz=>n (z▸ha);rw[ah ne];exact e
def aZ.fld{dx ls:Addr}{B':Bk}(h:aZ C H g lh B rest)(hg:H g=some (.ins C dx (bf B.k B.n ls B.c lh))){rm:Addr}(el:El H rest rm B'.es)(ek:B'.k=B.k)(eh:B'.hs=B.hs)(d0:B'.n<=24)(fJ:B'.es.length<=40)(ok:∀e∈B'.es,dJ B'.k B'.n e):
  aZ C (upd H g (.ins C dx (bf B'.k B'.n rm B'.c lh))) g lh B' rest:=by
 have nH:lh≠g:=λz=>by
  obtain⟨qs,h1,_⟩:=h.hl.ob;rw[z,hg]at h1;cases h1
 refine⟨by rw[ek];exact h.k1,by rw[ek];exact h.k5,d0,fJ,ok,⟨dx,rm,aj,el.other h.ng⟩,?_,by rw[eh,ek];exact h.hh,h.nl,h.ng,λa ha=>by
  obtain⟨o,e⟩:=h.lv a ha;exact⟨o,by rw[ah (show a≠g from λz=>h.ng (z▸ha))];exact e⟩⟩
 rw[eh];refine h.hl.on λa ha o e=>?_
 have ne:a≠g:=λz=>by
  rcases Y4.mp ha with q|q
  ·exact nH (q▸z)
  ·exact h.ng (z▸q)
 rw[ah ne];exact e
def aZ.more{bD:List Addr}(h:aZ C H g lh B rest)(s:∀a∈rest,a∈bD)(n1:lh∉bD)(n2:g∉bD)(n3:∀a∈bD,∃o,H a=some o):aZ C H g lh B bD:=by
 obtain⟨dx,ls,h1,h2⟩:=h.ob;exact⟨h.k1,h.k5,h.d0,h.fJ,h.ok,⟨dx,ls,h1,h2.sub s⟩,h.hl.sub s,h.hh,n1,n2,n3⟩
def aZ.not{x:Addr}(h:aZ C H g lh B rest)(hx:H x=none):x∉g::lh::rest:=λz=>by
 rcases Y4.mp z with z|z
 ·obtain⟨dx,ls,h1,h2⟩:=h.ob;rw[<-z,hx]at h1;cases h1
 rcases Y4.mp z with z|z
 ·obtain⟨qs,h3,_⟩:=h.hl.ob;rw[<-z,hx]at h3;cases h3
 ·obtain⟨o,e⟩:=h.lv x z;rw[hx]at e;cases e
def aZ.lg(h:aZ C H g lh B rest):H lh≠none/\H g≠none:=by
 obtain⟨dx,ls,h1,h2⟩:=h.ob;obtain⟨qs,h3,_⟩:=h.hl.ob;exact⟨by rw[h3];exact(λz=>nomatch z),by rw[h1];exact(λz=>nomatch z)⟩
end
def Bk.add(B:Bk)(e:En):Bk:={B with es:=B.es++[e.re B.c],c:=B.c+1}
noncomputable def Bk.ax(B:Bk):List Int:=fl B.n (rowsOf B.es)
noncomputable def Bk.oR(B:Bk):En->Prop
 |.row _ a k b=>cP B.es (fl B.n (rowsOf B.es++[[B.c,a,k,b]]))≠none
 |.ap _ a b=>B.ax.getD a.toNat 0=B.ax.getD b.toNat 0
def Nw(H:Hp)(rest bD:List Addr):Prop:=∀x∈bD,x∈rest\/H x=none
def W3{K:PySem.W.Frag}{H:Hp}{a:Addr}{xs:List V}{Q:VK}(hq:H a=some (.lst xs))(h:∀(p:Addr) (H':Hp),H p=none->H' p=some (.lst xs)->aa H H'->Q (.ref p) H'):Wr (vW K [.ref a] H Q):=
 ⟨⟨a,_,rfl,.inl (af.of hq),λp hp=>h p _ hp aj ((aa.refl H).upd hp)⟩⟩
inductive GO(vs:List V)(H:Hp)(Q:VK)(aA:XK):Prop
 |mk (l:Addr) (fp:List Addr) (es:List En) (_:vs=[.ref l]) (_:El H fp l es) (_:es.length<=1000) (_:∀(r:Addr) (ps:Ps) (H':Hp),H r=none->Tl H' r ps->ps.map (·.2)=rowsOf es->aa H H'->Q (.ref r) H'):GO vs H Q aA
def sr:Sp:=GO
inductive Le(vs:List V)(H:Hp)(Q:VK)(aA:XK):Prop
 |mk (l ll:Addr) (fp:List Addr) (es:List En) (ls:List Int) (k:Nat) (_:vs=[.ref l,.ref ll]) (_:El H fp l es) (_:ay H ll ls) (_:(∀e∈es,dJ k ls.length e)) (_:Q (oV (cP es ls)) H):Le vs H Q aA
def Bx:Sp:=Le
inductive Ie(C:Addr)(vs:List V)(H:Hp)(Q:VK)(aA:XK):Prop
 |mk (g dx:Addr) (k:Nat) (_:vs=[.ref g,.int k]) (_:H g=some (.ins C dx [])) (_:1<=k) (_:k<=5) (_:∀(H':Hp) (lh:Addr) (rest:List Addr),aZ C H' g lh ⟨k,0,[],1,[]⟩ rest->H lh=none->(∀a∈rest,H a=none)->Kp g H H'->Q .aI H'):Ie C vs H Q aA
def Ay(C:Addr):Sp:=Ie C
inductive GP(C cF:Addr)(vs:List V)(H:Hp)(Q:VK)(E:XK):Prop
 |mk (g lh:Addr) (B:Bk) (rest:List Addr) (_:vs=[.ref g]) (_:aZ C H g lh B rest) (_:(B.n<24->∀H',aZ C H' g lh {B with n:=B.n+1} rest->Kp g H H'->Q (.int B.n) H')) (_:(¬B.n<24->E (.ref cF) none H)):GP C cF vs H Q E
def zS(C cF:Addr):Sp:=GP C cF
inductive Jy(C cM:Addr)(vs:List V)(H:Hp)(Q:VK)(E:XK):Prop
 |mk (g lh:Addr) (B:Bk) (rest:List Addr) (a b:Int) (_:vs=[.ref g,.int a,.int b]) (_:aZ C H g lh B rest) (_:(aE B.n a/\aE B.n b->∀H',aa H H'->Q .aI H')) (_:(¬(aE B.n a/\aE B.n b)->∀H',aa H H'->E (.ref cM) none H')):Jy C cM vs H Q E
def sW(C cM:Addr):Sp:=Jy C cM
inductive Jz(C cF:Addr)(vs:List V)(H:Hp)(Q:VK)(E:XK):Prop
 |mk (g lh:Addr) (B:Bk) (rest:List Addr) (_:vs=[.ref g]) (_:aZ C H g lh B rest) (_:(B.es.length<40->Q .aI H)) (_:(¬B.es.length<40->E (.ref cF) none H)):Jz C cF vs H Q E
def A8(C cF:Addr):Sp:=Jz C cF
inductive Ig(C:Addr)(vs:List V)(H:Hp)(Q:VK)(aA:XK):Prop
 |mk (g lh:Addr) (B:Bk) (rest:List Addr) (t:Addr) (e:En) (_:vs=[.ref g,.ref t]) (_:aZ C H g lh B rest) (_:H t=some (.tup e.told)) (_:dJ B.k B.n e) (_:B.es.length<40) (_:∀(H':Hp) (bD:List Addr),aZ C H' g lh (B.add e) bD->Nw H rest bD->Kp g H H'->Q (.int B.c) H'):Ig C vs H Q aA
def Az(C:Addr):Sp:=Ig C
def dH(fi st:Int)(ns:List Int):List (List Int):=(List.range ns.length).map (rowAt fi st ns)
inductive Ih(C cM cK:Addr)(vs:List V)(H:Hp)(Q:VK)(E:XK):Prop
 |mk (g lh:Addr) (B:Bk) (rest:List Addr) (a b:Int) (wa:Addr) (ws:List Int) (_:vs=[.ref g,.int a,.ref wa,.int b]) (_:aZ C H g lh B rest) (_:ay H wa ws) (_:ws.length<=600) (_:(aE B.n a/\aE B.n b->(∀l∈ws,Let B.k l)->∀(t r:Addr) (ps:Ps) (H':Hp),H' t=some (.tup [.ref r,.int (bK B.n a ws.length)])->Tl H' r ps->ps.map (·.2)=rowsOf B.es++dH B.n a ws->aa H H'->Q (.ref t) H')) (_:(¬(aE B.n a/\aE B.n b)->∀H',aa H H'->E (.ref cM) none H')) (_:(aE B.n a/\aE B.n b->¬(∀l∈ws,Let B.k l)->∀H',aa H H'->E (.ref cK) none H')):Ih C cM cK vs H Q E
def AA(C cM cK:Addr):Sp:=Ih C cM cK
def se(fi st:Int)(ns:List Int):(dH fi st ns).length=ns.length:=by simp[dH]
def U0{fi st:Int}{ns:List Int}{i:Nat}(h:i<ns.length):(dH fi st ns)[i]?=some (rowAt fi st ns i):=by simp[dH,h]
def W4{H:Hp}{r:Addr}{ts:List Addr}{fi st:Int}{ns:List Int}(h1:H r=some (.lst (ts.map V.ref)))(h2:ts.length=ns.length)(h3:∀(j:Nat) t,ts[j]?=some t->H t=some (.tup ((rowAt fi st ns j).map V.int))):∃ps:Ps,Tl H r ps/\ps.map (·.2)=dH fi st ns:=by
 refine⟨ts.zip (dH fi st ns),⟨?_,λp hp=>?_⟩,?_⟩
 ·rw[h1];have:(ts.zip (dH fi st ns)).map (λp=>V.ref p.1)=((ts.zip (dH fi st ns)).map Prod.fst).map V.ref:=by rw[ZK];rfl
  rw[this,List.map_fst_zip (by rw[se];omega)]
 ·obtain⟨i,hi,e⟩:=ZD hp;have pB:i<ts.length:=by rw[List.length_zip]at hi;omega
  have g7:i<ns.length:=by omega
  have e1:p=(ts[i],rowAt fi st ns i):=by
   rw[<-e,List.getElem_zip];congr 1;simp[dH]
  rw[e1];exact h3 i _ (by simp[pB])
 ·exact List.map_snd_zip (by rw[se];omega)
def Tl.cat{H H':Hp}{a b p:Addr}{ps qs:Ps}(h1:Tl H a ps)(h2:Tl H b qs)(s:aa H H')(h:H' p=some (.lst ((ps.map λp=>V.ref p.1)++(qs.map λp=>V.ref p.1)))):Tl H' p (ps++qs):=by
 refine⟨by rw[h,Zd],λx hx=>?_⟩;rcases Y6.mp hx with z|z
 ·exact s _ _ (h1.tp x z)
 ·exact s _ _ (h2.tp x z)
def uZ{n:Nat}{a:Int}(h:aE n a)(i m:Nat)(hi:i<=m):0<=bK n a i/\bK n a i<((n+m:Nat):Int):=by
 unfold bK;obtain⟨h0,h1⟩:=h;split<;>omega
def zx{n k:Nat}{a:Int}{ws:List Int}(ha:aE n a)(k5:k<=5)(hl:∀l∈ws,Let k l):∀r∈dH n a ws,c5 (n+ws.length) r/\1<=r.getD 2 0/\r.getD 2 0<=5:=λr hr=>by
 obtain⟨i,hi,rfl⟩:=Zg.mp hr;have hi:=ZU.mp hi;have hL:Let k (ws.getD i 0):=hl _ (by simp[List.getD,hi]);obtain⟨l0,l1,l2⟩:=hL;obtain⟨h0,h1⟩:=uZ ha i ws.length (by omega);unfold rowAt;by_cases z:0<ws.getD i 0
 ·rw[if_pos z];refine⟨⟨-1-(i:Int),(bK n a i).toNat,ws.getD i 0,n+i,?_,by omega,by omega⟩,?_,?_⟩
  ·rw[Zw h0];rfl
  ·show 1<=ws.getD i 0;omega
  ·show ws.getD i 0<=5;omega
 ·rw[if_neg z];refine⟨⟨-1-(i:Int),n+i, -ws.getD i 0,(bK n a i).toNat,?_,by omega,by omega⟩,?_,?_⟩
  ·rw[Zw h0];rfl
  ·show 1<= -ws.getD i 0;omega
  ·show -ws.getD i 0<=5;omega
def ve{ps:Ps}{rs:List (List Int)}{p:List Int->Prop}(e:ps.map (·.2)=rs)(h:∀r∈rs,p r):∀x∈ps,p x.2:=λx hx=>h _ (e▸Zg.mpr ⟨x,hx,rfl⟩)
def qj{ps:Ps}{rs:List (List Int)}(e:ps.map (·.2)=rs):ps.length=rs.length:=by rw[<-e,Y0]
noncomputable def Bk.jL(B:Bk)(a:Int)(ws:List Int):List Int:=fl (B.n+ws.length) (rowsOf B.es++dH B.n a ws)
inductive Ii(C cM cK:Addr)(vs:List V)(H:Hp)(Q:VK)(E:XK):Prop
 |mk (g lh:Addr) (B:Bk) (rest:List Addr) (a b:Int) (wa:Addr) (ws:List Int) (_:vs=[.ref g,.int a,.ref wa,.int b]) (_:aZ C H g lh B rest) (_:ay H wa ws) (_:ws.length<=600) (_:(aE B.n a/\aE B.n b->(∀l∈ws,Let B.k l)->(B.jL a ws).getD (bK B.n a ws.length).toNat 0=(B.jL a ws).getD b.toNat 0->∀(l2:Addr) (sp ps:Ps) (H':Hp),Tl H' l2 sp->ps.map (·.2)=rowsOf B.es++dH B.n a ws->(qZ ps->wP ps (fF (B.n+ws.length) []) (sp.map (·.2))=some (B.jL a ws)/\∀r∈sp.map (·.2),vY r)->sp.length<=9000000->H l2=none->aa H H'->Q (.ref l2) H')) (_:(aE B.n a/\aE B.n b->(∀l∈ws,Let B.k l)->¬(B.jL a ws).getD (bK B.n a ws.length).toNat 0=(B.jL a ws).getD b.toNat 0->∀H',aa H H'->Q .aI H')) (_:(¬(aE B.n a/\aE B.n b)->∀H',aa H H'->E (.ref cM) none H')) (_:(aE B.n a/\aE B.n b->¬(∀l∈ws,Let B.k l)->∀H',aa H H'->E (.ref cK) none H')):Ii C cM cK vs H Q E
def AB(C cM cK:Addr):Sp:=Ii C cM cK
def Bk.JA(B:Bk)(a:Int):B.jL a []=B.ax:=by
 unfold Bk.jL Bk.ax;rw[show dH B.n a []=[]from rfl,ZY];rfl
inductive JB(C cM:Addr)(vs:List V)(H:Hp)(Q:VK)(E:XK):Prop
 |mk (g lh:Addr) (B:Bk) (rest:List Addr) (a b:Int) (_:vs=[.ref g,.int a,.int b]) (_:aZ C H g lh B rest) (_:(aE B.n a/\aE B.n b->B.ax.getD a.toNat 0=B.ax.getD b.toNat 0->∀(l2:Addr) (sp ps:Ps) (H':Hp),Tl H' l2 sp->ps.map (·.2)=rowsOf B.es->(qZ ps->wP ps (fF B.n []) (sp.map (·.2))=some B.ax/\∀r∈sp.map (·.2),vY r)->sp.length<=9000000->H l2=none->aa H H'->Q (.ref l2) H')) (_:(aE B.n a/\aE B.n b->¬B.ax.getD a.toNat 0=B.ax.getD b.toNat 0->∀H',aa H H'->Q .aI H')) (_:(¬(aE B.n a/\aE B.n b)->∀H',aa H H'->E (.ref cM) none H')):JB C cM vs H Q E
def ML(C cM:Addr):Sp:=JB C cM
inductive Ij(C cM:Addr)(vs:List V)(H:Hp)(Q:VK)(E:XK):Prop
 |mk (g lh:Addr) (B:Bk) (rest:List Addr) (a b:Int) (_:vs=[.ref g,.int a,.int b]) (_:aZ C H g lh B rest) (_:(aE B.n a/\aE B.n b->∀H',aa H H'->Q (.bl (decide (B.ax.getD a.toNat 0=B.ax.getD b.toNat 0))) H')) (_:(¬(aE B.n a/\aE B.n b)->∀H',aa H H'->E (.ref cM) none H')):Ij C cM vs H Q E
def Lg(C cM:Addr):Sp:=Ij C cM
inductive Ik(C cM cK cF cB:Addr)(vs:List V)(H:Hp)(Q:VK)(E:XK):Prop
 |mk (g lh:Addr) (B:Bk) (rest:List Addr) (a kd b:Int) (_:vs=[.ref g,.int a,.int kd,.int b]) (_:aZ C H g lh B rest) (_:(aE B.n a/\aE B.n b->(1<=kd/\kd<=B.k)->B.es.length<40->¬B.oR (.row 0 a kd b)->∀(H':Hp) (bD:List Addr),aZ C H' g lh (B.add (.row 0 a kd b)) bD->Nw H rest bD->Kp g H H'->Q (.int B.c) H')) (_:(¬(aE B.n a/\aE B.n b)->∀H',aa H H'->E (.ref cM) none H')) (_:(aE B.n a/\aE B.n b->¬(1<=kd/\kd<=B.k)->∀H',aa H H'->E (.ref cK) none H')) (_:(aE B.n a/\aE B.n b->(1<=kd/\kd<=B.k)->¬B.es.length<40->∀H',aa H H'->E (.ref cF) none H')) (_:(aE B.n a/\aE B.n b->(1<=kd/\kd<=B.k)->B.es.length<40->B.oR (.row 0 a kd b)->∀H',aa H H'->E (.ref cB) none H')):Ik C cM cK cF cB vs H Q E
def Lh(C cM cK cF cB:Addr):Sp:=Ik C cM cK cF cB
inductive Li(C cM cF cB:Addr)(vs:List V)(H:Hp)(Q:VK)(E:XK):Prop
 |mk (g lh:Addr) (B:Bk) (rest:List Addr) (a b:Int) (_:vs=[.ref g,.int a,.int b]) (_:aZ C H g lh B rest) (_:(aE B.n a/\aE B.n b->B.es.length<40->¬B.oR (.ap 0 a b)->∀(H':Hp) (bD:List Addr),aZ C H' g lh (B.add (.ap 0 a b)) bD->Nw H rest bD->Kp g H H'->Q (.int B.c) H')) (_:(¬(aE B.n a/\aE B.n b)->∀H',aa H H'->E (.ref cM) none H')) (_:(aE B.n a/\aE B.n b->¬B.es.length<40->∀H',aa H H'->E (.ref cF) none H')) (_:(aE B.n a/\aE B.n b->B.es.length<40->B.oR (.ap 0 a b)->∀H',aa H H'->E (.ref cB) none H')):Li C cM cF cB vs H Q E
def NA(C cM cF cB:Addr):Sp:=Li C cM cF cB
inductive Im(C:Addr)(vs:List V)(H:Hp)(Q:VK)(aA:XK):Prop
 |mk (g lh:Addr) (B:Bk) (rest:List Addr) (_:vs=[.ref g]) (_:aZ C H g lh B rest) (_:Q (.int B.n) H):Im C vs H Q aA
def YV(C:Addr):Sp:=Im C
inductive Gq(C:Addr)(vs:List V)(H:Hp)(Q:VK)(aA:XK):Prop
 |mk (g lh:Addr) (B:Bk) (rest:List Addr) (_:vs=[.ref g]) (_:aZ C H g lh B rest) (_:∀(l:Addr) (H':Hp),H l=none->El H' (l::rest) l B.es->aa H H'->Q (.ref l) H'):Gq C vs H Q aA
def U1(C:Addr):Sp:=Gq C
end My
namespace L2
open PySem PySem.Spec PyProof.Rows
section
variable {X:Cx}
end
end L2
namespace My
open PySem L2
inductive Gr(C:Addr)(vs:List V)(H:Hp)(Q:VK)(aA:XK):Prop
 |mk (g lh:Addr) (B:Bk) (rest:List Addr) (t:Addr) (e:En) (_:vs=[.ref g,.ref t]) (_:aZ C H g lh B rest) (_:H t=some (.tup e.told)) (_:dJ B.k B.n e) (_:B.es.length<40) (_:(B.oR e->∀H',aa H H'->Q .aI H')) (_:(¬B.oR e->∀(H':Hp) (bD:List Addr),aZ C H' g lh (B.add e) bD->Nw H rest bD->Kp g H H'->Q (.int B.c) H')):Gr C vs H Q aA
def u0(C:Addr):Sp:=Gr C
inductive Io(vs:List V)(H:Hp)(Q:VK)(aA:XK):Prop
 |mk (k n:Nat) (ld:Addr) (ds:List Int) (_:vs=[.int k,.int n,.ref ld]) (_:ay H ld ds) (_:ds.length=3) (_:1<=k) (_:k<=5) (_:1<=n) (_:n<=1000) (_:∀(t:Addr) (e:En) (H':Hp),H t=none->H' t=some (.tup e.told)->dJ k n e->aa H H'->Q (.ref t) H'):Io vs H Q aA
def Lk:Sp:=Io
def Cons(B:Bk):Prop:=cP B.es B.ax=none
structure Nums(B:Bk):Prop where
 c:B.c=B.es.length+1
 at_:∀(i:Nat) e,B.es[i]?=some e->e.num=(i:Int)+1
def GQ(a b:List En)(l:List Int):cP (a++b) l=(cP a l).or (cP b l):=by
 unfold cP;rw[List.findSome?_append]
def Cons.add{B:Bk}(h:Cons B){e:En}(nb:¬B.oR e):Cons (B.add e):=by
 unfold Cons;cases e with
 |row i a k b=>
  show cP (B.es++[.row B.c a k b]) (fl B.n (rowsOf (B.es++[.row B.c a k b])))=none;rw[GQ,uW];have:cP B.es (fl B.n (rowsOf B.es++[[B.c,a,k,b]]))=none:=Classical.byContradiction nb;rw[show rowsOf [.row B.c a k b]=[[B.c,a,k,b]]from rfl,this];rfl
 |ap i a b=>
  show cP (B.es++[.ap B.c a b]) (fl B.n (rowsOf (B.es++[.ap B.c a b])))=none;rw[GQ,uW,show rowsOf [.ap B.c a b]=[]from rfl,ZY,zw];have h1:cP B.es (fl B.n (rowsOf B.es))=none:=h;have h2:¬(fl B.n (rowsOf B.es)).getD a.toNat 0=(fl B.n (rowsOf B.es)).getD b.toNat 0:=nb;rw[h1,if_neg h2];rfl
def Nums.add{B:Bk}(h:Nums B)(e:En):Nums (B.add e):=by
 have en:(e.re B.c).num=B.c:=by cases e<;>rfl
 refine⟨?_,λi x hx=>?_⟩
 ·show B.c+1=((B.es++[e.re B.c]).length:Int)+1;rw[h.c];simp
 ·have hx:(B.es++[e.re B.c])[i]?=some x:=hx;by_cases hi:i<B.es.length
  ·rw[Zr hi]at hx;exact h.at_ i x hx
  ·rw[Zt (by omega)]at hx
   have z:i-B.es.length=0:=by
    have:=(ZL.mp hx).1;simp at this;omega
   rw[z]at hx;cases hx;rw[en,h.c];omega
inductive JC(C:Addr)(vs:List V)(H:Hp)(Q:VK)(aA:XK):Prop
 |mk (g lh:Addr) (rest:List Addr) (k m many:Nat) (ld:Addr) (ds:List Int) (_:vs=[.ref g,.int k,.int m,.int many,.ref ld]) (_:aZ C H g lh ⟨k,0,[],1,[]⟩ rest) (_:m<=24) (_:many<=40) (_:ay H ld ds) (_:3*many<=ds.length) (_:∀(l:Addr) (dB:List Addr) (B:Bk) (bD:List Addr) (H':Hp),aZ C H' g lh B bD->B.k=k->B.n=m->B.hs=[]->B.es.length<=many->Cons B->Nums B->El H' dB l B.es->H l=none->l∉g::lh::bD->g∉dB->lh∉dB->Nw H rest bD->(∀x∈dB,H x=none)->Kp g H H'->Q (.ref l) H'):JC C vs H Q aA
def A9(C:Addr):Sp:=JC C
def eO(l:List Int):List Int:=l.foldl (λk x=>if x∈k then k else k++[x]) []
def JD(l:List Int)(x:Int):eO (l++[x])=if x∈eO l then eO l else eO l++[x]:=by unfold eO;rw[List.foldl_append];rfl
def W5(l k:List Int):∀x∈k,x∈l.foldl (λk x=>if x∈k then k else k++[x]) k:=by
 induction l generalizing k with
 |nil=>exact λx h=>h
 |cons y l ih=>
  intro x hx;refine ih _ x ?_;dsimp only;split
  ·exact hx
  ·exact Zb _ hx
def vC(l k:List Int):∀x∈l,x∈l.foldl (λk x=>if x∈k then k else k++[x]) k:=by
 induction l generalizing k with
 |nil=>exact λx h=>nomatch h
 |cons y l ih=>
  intro x hx;rcases Y4.mp hx with e|e
  ·rw[e];refine W5 l _ y ?_;dsimp only;split
   ·assumption
   ·exact Za _ (Y1.mpr rfl)
  ·exact ih _ x e
def Ll(l:List Int):(eO l).length<=l.length:=by
 have:∀(l k:List Int),(l.foldl (λk x=>if x∈k then k else k++[x]) k).length<=k.length+l.length:=λl=>by
  induction l with
  |nil=>exact λk=>Y2 _
  |cons x l ih=>
   intro k;refine ZQ (ih _) ?_;dsimp only;split
   ·simp only[ZF];omega
   ·simp only[Zn,ZF,List.length_nil];omega
 have:=this l [];rw[List.length_nil,Nat.zero_add]at this;exact this
def rk(l:List Int):List Int:=l.map λx=>((eO l).idxOf x:Nat)
def sX(l:List Int):(rk l).length=l.length:=by simp[rk]
def NC{l:List Int}{a:Nat}(h:a<l.length):(rk l).getD a 0=((eO l).idxOf (l.getD a 0):Nat):=by
 simp[rk,List.getD,h]
def By{l:List Int}{a b:Nat}(ha:a<l.length)(hb:b<l.length):(rk l).getD a 0=(rk l).getD b 0↔l.getD a 0=l.getD b 0:=by
 rw[NC ha,NC hb];constructor
 ·intro h;have ma:l.getD a 0∈eO l:=vC l [] _ (getD_mem ha);have mb:l.getD b 0∈eO l:=vC l [] _ (getD_mem hb);have h:(eO l).idxOf (l.getD a 0)=(eO l).idxOf (l.getD b 0):=by omega
  have e1:=List.getElem_idxOf (Z0 ma);have e2:=List.getElem_idxOf (Z0 mb);rw[<-e1, <-e2];congr 1
 ·intro h;rw[h]
structure DK(kvs:List (Key×V))(K:List Int):Prop where
 len:kvs.length=K.length
 at_:∀x:Int,bq kvs (.inl x)=if x∈K then some (.int (K.idxOf x:Nat))else none
def DK.nil:DK [] []:=⟨rfl,λx=>rfl⟩
def DK.put{kvs:List (Key×V)}{K:List Int}(h:DK kvs K){x:Int}(hx:x∉K):DK (putK kvs (.inl x) (.int kvs.length)) (K++[x]):=by
 have e:bq kvs (.inl x)=none:=by rw[h.at_,if_neg hx]
 refine⟨by rw[sk _ e];simp[h.len],λy=>?_⟩;rw[zM];by_cases z:y=x
 ·rw[if_pos (by rw[z]),if_pos (by rw[z];exact Za _ (Y1.mpr rfl)),z,List.idxOf_append,if_neg hx,h.len];simp
 ·rw[if_neg (λw=>z (Sum.inl.inj w)),h.at_];by_cases m:y∈K
  ·rw[if_pos m,if_pos (Zb _ m),List.idxOf_append,if_pos m]
  ·rw[if_neg m,if_neg (λw=>by rcases Y6.mp w with w|w; ·exact m w
                              ·exact z (Y1.mp w))]
def TK{K:PySem.W.Frag}{a:Addr}{ns:List Int}{ix:List Nat}{te:TE}{σ:St}{H:Hp}{Q:VK}(f:Int->Int)(ha:ay H a ns)(hl:ns.length<=100000)
  (he:∀z∈ns,∀(H':Hp) (Q':VK),aa H H'->Q' (.int (f z)) H'->te (bE ix (some (.int z)) σ) H' Q')(h:∀(D:Addr) (H':Hp),H D=none->ay H' D (ns.map f)->aa H H'->Q (.ref D) H'):Wr (jc (dM K a) ix te σ H Q):=by
 refine zg (K:=K) (λv=>match v with|.int z=>.int (f z)|_=>.aI) (af.of ha) (bI (by rw[Y0];omega)) (λz hz H' Q' s q=>?_) λD H' hD h1 s=>h D H' hD ?_ s
 ·obtain⟨x,hx,rfl⟩:=Zg.mp hz;exact he x hx H' Q' s q
 ·show H' D=_;rw[h1,ZK,ZK];rfl
inductive JE(vs:List V)(H:Hp)(Q:VK)(aA:XK):Prop
 |mk (a:Addr) (l:List Int) (_:vs=[.ref a]) (_:ay H a l) (_:l.length<=1000) (_:∀(p:Addr) (H':Hp),H p=none->ay H' p (rk l)->aa H H'->Q (.ref p) H'):JE vs H Q aA
def MM:Sp:=JE
inductive GS(C:Addr)(vs:List V)(H:Hp)(Q:VK)(aA:XK):Prop
 |mk (g lh:Addr) (B:Bk) (rest:List Addr) (_:vs=[.ref g]) (_:aZ C H g lh B rest) (_:(∀(p:Addr) (H':Hp),ay H' p B.ax->B.ax.length=B.n->FL B.n (rowsOf B.es) [] B.ax->aa H H'->Q (.ref p) H')):GS C vs H Q aA
def JF(C:Addr):Sp:=GS C
inductive Ge(C:Addr)(vs:List V)(H:Hp)(Q:VK)(aA:XK):Prop
 |mk (g lh:Addr) (B:Bk) (rest:List Addr) (_:vs=[.ref g]) (_:aZ C H g lh B rest) (_:(∀(p:Addr) (H':Hp),H p=none->ay H' p (rk B.ax)->B.ax.length=B.n->FL B.n (rowsOf B.es) [] B.ax->aa H H'->Q (.ref p) H')):Ge C vs H Q aA
def GU(C:Addr):Sp:=Ge C
end My
namespace L2
open PySem PySem.Spec PyProof.Rows
end L2
namespace My
open PySem L2
def FL.ex{n:Nat}{rs:List (List Int)}{st:Ps}(bT:∀p∈st,fQ n p.2)(hr:∀r∈rs,c5 n r):∃l,FL n rs st l:=by
 suffices∀(m:Nat) (l:List Int),cE l<=m->gn n rs st l->∃l,FL n rs st l from this _ _ (Y2 _) (Jo bT)
 intro m
 induction m with
 |zero=>
  intro l hm h;refine⟨l,h,λp hp q hq k s hs e=>Classical.byContradiction λne=>?_⟩;have:=Bs h.ax ((hr p hp).mk (-s)).2 ((hr q hq).mk (-s)).2 ne;omega
 |succ m ih=>
  intro l hm h;by_cases c:closed rs l
  ·exact⟨l,h,c⟩
  ·simp only[closed,Classical.not_forall]at c;obtain⟨p,hp,q,hq,k,s,hs,e,ne⟩:=c;have lt:=Bs h.ax ((hr p hp).mk (-s)).2 ((hr q hq).mk (-s)).2 ne;exact ih _ (by omega) (h.jn bT ((hr p hp).mk (-s)).2 ((hr q hq).mk (-s)).2 λc cl=>cl.2 p hp q hq k s hs (h.snd c cl _ _ ((hr p hp).mk s).2 ((hr q hq).mk s).2 e))
def Bz{n:Nat}{rs:List (List Int)}(hr:∀r∈rs,c5 n r):FL n rs [] (fl n rs):=by
 obtain⟨l,h⟩:=FL.ex (st:=[]) (λ_ z=>nomatch z) hr;rw[<-h.eq];exact h
def Gs{es:List En}{l:List Int}:cP es l=none↔∀i a b,En.ap i a b∈es->¬l.getD a.toNat 0=l.getD b.toNat 0:=by
 induction es with
 |nil=>exact⟨λ_ _ _ _ z=>(nomatch z),λ_=>rfl⟩
 |cons e es ih=>
  cases e with
  |row i a k b=>
   rw[Tz,ih]
   exact⟨λh i' a' b' z=>h i' a' b' (by rcases Y4.mp z with w|w; ·cases w
                                       ·exact w),λh i' a' b' z=>h i' a' b' (Y3 _ z)⟩
  |ap i a b=>
   rw[zw];constructor
   ·intro h i' a' b' z;by_cases w:l.getD a.toNat 0=l.getD b.toNat 0
    ·rw[if_pos w]at h;cases h
    ·rw[if_neg w]at h;rcases Y4.mp z with y|y
     ·injection y with y1 y2 y3;subst y2 y3;exact w
     ·exact ih.mp h i' a' b' y
   ·intro h;rw[if_neg (h i a b (Y8 ..))];exact ih.mpr λi' a' b' z=>h i' a' b' (Y3 _ z)
def TL{es:List En}{r:List Int}:r∈rowsOf es↔∃i a k b,En.row i a k b∈es/\r=[i,a,k,b]:=by
 unfold rowsOf;rw[List.mem_filterMap];constructor
 ·rintro⟨e,he,h⟩;cases e with
  |row i a k b=>exact⟨i,a,k,b,he,(Zf h).symm⟩
  |ap i a b=>cases h
 ·rintro⟨i,a,k,b,he,rfl⟩;exact⟨_,he,rfl⟩
structure Mo where
 s:Int->Int->Int
 t:Int->Int->Int
 l:∀k x,t k (s k x)=x
 r:∀k x,s k (t k x)=x
def Mo.go(M:Mo)(x l:Int):Int:=if 0<l then M.s l x else M.t (-l) x
def Mo.wk(M:Mo)(x:Int)(ws:List Int):Int:=ws.foldl M.go x
def Mo.Fits(M:Mo)(f:Nat->Int)(rs:List (List Int)):Prop:=∀r∈rs,M.s (r.getD 2 0) (f (My.mk r 1))=f (My.mk r (-1))
def Mo.acW(M:Mo){k x y:Int}(h:M.s k x=M.s k y):x=y:=by rw[<-M.l k x,h,M.l]
def Mo.back(M:Mo){x l:Int}(h:l≠0):M.go (M.go x l) (-l)=x:=by
 unfold Mo.go;by_cases z:0<l
 ·rw[if_pos z,if_neg (by omega),Int.neg_neg,M.l]
 ·rw[if_neg z,if_pos (by omega),M.r]
def Mo.app(M:Mo)(x:Int)(u v:List Int):M.wk x (u++v)=M.wk (M.wk x u) v:=List.foldl_append ..
def Mo.ins(M:Mo)(x:Int)(u v:List Int){l:Int}(h:l≠0):M.wk x (u++[l, -l]++v)=M.wk x (u++v):=by
 rw[M.app,M.app,M.app];congr 1;exact M.back h
def Mo.cut(M:Mo){ws:List Int}(h:∀l∈ws,l≠0)(x:Int):M.wk x (cut ws)=M.wk x ws:=by
 have:∀(ws st:List Int),(∀l∈ws,l≠0)->M.wk x (ws.foldl push st).reverse=M.wk x (st.reverse++ws):=by
  intro ws
  induction ws with
  |nil=>intro st _;simp
  |cons a ws ih=>
   intro st h;have ha:=h a (Y8 ..);rw[List.foldl_cons,ih _ λl hl=>h l (Y3 _ hl)];cases st with
   |nil=>rfl
   |cons t r=>
    show M.wk x ((if t= -a then r else a::t::r).reverse++ws)=_;by_cases z:t= -a
    ·rw[if_pos z,z,List.reverse_cons];have:=M.ins x r.reverse ws (l:= -a) (by omega);rw[Int.neg_neg]at this;rw[<-this];simp
    ·rw[if_neg z];simp
 have:=this ws [] h;simpa[My.cut]using this
def pF(a b x:Int):Int:=if x=a then b else if x=b then a else x
def Lm(a b x:Int):pF a b (pF a b x)=x:=by
 unfold pF
 repeat' split
 all_goals omega
def zT:∀ps:List (Int×Int),(∀p∈ps,∀q∈ps,p.1=q.1↔p.2=q.2)->∃s t:Int->Int,(∀x,t (s x)=x)/\(∀x,s (t x)=x)/\∀p∈ps,s p.1=p.2
 |[],_=>⟨id,id,λ_=>rfl,λ_=>rfl,λ_ z=>nomatch z⟩
 |p::ps,h=>by
  obtain⟨s,t,a,b,c⟩:=zT ps λp hp q hq=>h p (Y3 _ hp) q (Y3 _ hq);refine⟨λx=>pF (s p.1) p.2 (s x),λx=>t (pF (s p.1) p.2 x),λx=>by dsimp only;rw[Lm,a],λx=>by dsimp only;rw[b,Lm],λq hq=>?_⟩;dsimp only;rcases Y4.mp hq with rfl|uh
  ·unfold pF;rw[if_pos rfl]
  ·have e:=h q hq p (Y8 ..);have sq:=c q uh;unfold pF;by_cases z1:s q.1=s p.1
   ·rw[if_pos z1];have:q.1=p.1:=by rw[<-a q.1,z1,a]
    exact(e.mp this).symm
   ·rw[if_neg z1];by_cases z2:s q.1=p.2
    ·have:q.1=p.1:=e.mpr (by rw[<-sq,z2]);rw[this]at z1;exact absurd rfl z1
    ·rw[if_neg z2,sq]
def U2{rs:List (List Int)}{l:List Int}(h:closed rs l):∃M:Mo,M.Fits (λa=>l.getD a 0) rs:=by
 have H:∀k:Int,∃s t:Int->Int,(∀x,t (s x)=x)/\(∀x,s (t x)=x)/\∀r∈rs,r.getD 2 0=k->s (l.getD (My.mk r 1) 0)=l.getD (My.mk r (-1)) 0:=λk=>by
  obtain⟨s,t,a,b,c⟩:=zT ((rs.filter λr=>r.getD 2 0==k).map λr=>(l.getD (My.mk r 1) 0,l.getD (My.mk r (-1)) 0)) λp hp q hq=>by
   obtain⟨x,hx,rfl⟩:=Zg.mp hp;obtain⟨y,hy,rfl⟩:=Zg.mp hq;obtain⟨hx,ex⟩:=ZT.mp hx;obtain⟨hy,ey⟩:=ZT.mp hy;have ee:x.getD 2 0=y.getD 2 0:=(eq_of_beq ex).trans (eq_of_beq ey).symm;have h1:=h x hx y hy ee 1 (.inl rfl);have h2:=h x hx y hy ee (-1) (.inr rfl);exact⟨h1,h2⟩
  refine⟨s,t,a,b,λr hr e=>?_⟩;exact c (l.getD (My.mk r 1) 0,l.getD (My.mk r (-1)) 0) (Zg.mpr ⟨r,ZT.mpr ⟨hr,beq_iff_eq.mpr e⟩,rfl⟩)
 refine⟨⟨λk=>Classical.choose (H k),λk=>Classical.choose (Classical.choose_spec (H k)),λk=>(Classical.choose_spec (Classical.choose_spec (H k))).1,λk=>(Classical.choose_spec (Classical.choose_spec (H k))).2.1⟩,λr hr=>?_⟩;exact(Classical.choose_spec (Classical.choose_spec (H (r.getD 2 0)))).2.2 r hr rfl
def Mo.Fits.cl{M:Mo}{f:Nat->Int}{rs:List (List Int)}{st:Ps}(h:M.Fits f rs)(hs:∀p∈st,f (p.2.getD 0 0).toNat=f (p.2.getD 1 0).toNat):Cl rs st f:=by
 refine⟨hs,λp hp q hq e s hs ee=>?_⟩;have h1:=h p hp;have h2:=h q hq;have hs:s=1\/s= -1:=hs;rcases hs with rfl|rfl
 ·rw[<-h1, <-h2,e,ee]
 ·show f (My.mk p 1)=f (My.mk q 1);rw[<-h1, <-h2,e]at ee;exact M.acW ee
def FL.iff{n:Nat}{rs:List (List Int)}{st:Ps}{l:List Int}(h:FL n rs st l){a b:Nat}(ha:a<n)(hb:b<n):l.getD a 0=l.getD b 0↔∀(M:Mo) (f:Nat->Int),M.Fits f rs->(∀p∈st,f (p.2.getD 0 0).toNat=f (p.2.getD 1 0).toNat)->f a=f b:=by
 constructor
 ·exact λe M f hf hs=>h.1.snd f (hf.cl hs) a b ha hb e
 ·intro k;obtain⟨M,hM⟩:=U2 h.2;exact k M _ hM h.1.t8
def Lo{n:Nat}{rs:List (List Int)}(hr:∀r∈rs,c5 n r){f g:Nat->Int}(h:∀x<n,f x=g x){M:Mo}:M.Fits f rs↔M.Fits g rs:=by
 constructor <;>intro k r h1<;>have:=k r h1
 ·rwa [h _ ((hr r h1).mk 1).2,h _ ((hr r h1).mk (-1)).2]at this
 ·rwa [h _ ((hr r h1).mk 1).2,h _ ((hr r h1).mk (-1)).2]
def MN{M:Mo}{f:Nat->Int}{n:Nat}{a:Int}{ws:List Int}{i:Nat}(nz:ws.getD i 0≠0):M.s ((rowAt n a ws i).getD 2 0) (f (My.mk (rowAt n a ws i) 1))=f (My.mk (rowAt n a ws i) (-1))↔f (n+i)=M.go (f (bK n a i).toNat) (ws.getD i 0):=by
 have e:((n:Int)+(i:Int)).toNat=n+i:=by omega
 unfold rowAt Mo.go;by_cases z:0<ws.getD i 0
 ·rw[if_pos z,if_pos z];show M.s (ws.getD i 0) (f (bK n a i).toNat)=f ((n:Int)+i).toNat↔_;rw[e];exact eq_comm
 ·rw[if_neg z,if_neg z];show M.s (-ws.getD i 0) (f ((n:Int)+i).toNat)=f (bK n a i).toNat↔_;rw[e];constructor
  ·intro h;rw[<-h,M.l]
  ·intro h;rw[h,M.r]
def zU(n:Nat)(a:Int)(i:Nat):(bK n a (i+1)).toNat=n+i:=by rw[za];omega
def U3(n:Nat)(a:Int):bK n a 0=a:=rfl
def Lp{M:Mo}{x:Int}{ws:List Int}{i:Nat}(h:i<ws.length):M.wk x (ws.take (i+1))=M.go (M.wk x (ws.take i)) (ws.getD i 0):=by
 rw[Zi h,M.app,show ws.getD i 0=ws[i]by simp[List.getD,h]];rfl
def JG{M:Mo}{f:Nat->Int}{n:Nat}{a:Int}{ws:List Int}(nz:∀l∈ws,l≠0)(h:M.Fits f (dH n a ws)):∀i≤ws.length,f (bK n a i).toNat=M.wk (f a.toNat) (ws.take i):=by
 intro i
 induction i with
 |zero=>intro _;rfl
 |succ i ih=>
  intro hi;have C1:ws.getD i 0≠0:=nz _ (by simp[List.getD,show i<ws.length by omega]);rw[zU,Lp (by omega), <-ih (by omega)];exact(MN C1).mp (h _ (Y5 (U0 (show i<ws.length by omega))))
def iJ(M:Mo)(f:Nat->Int)(n:Nat)(a:Int)(ws:List Int)(x:Nat):Int:=if x<n then f x else M.wk (f a.toNat) (ws.take (x-n+1))
def vf{M:Mo}{f:Nat->Int}{n:Nat}{a:Int}{ws:List Int}(ha:aE n a)(i:Nat):iJ M f n a ws (bK n a i).toNat=M.wk (f a.toNat) (ws.take i):=by
 obtain⟨a0,a1⟩:=ha;cases i with
 |zero=>
  unfold iJ;rw[U3,if_pos (by omega)];rfl
 |succ i=>
  unfold iJ;rw[zU,if_neg (by omega),show n+i-n+1=i+1 by omega]
def JH{M:Mo}{f:Nat->Int}{n:Nat}{a:Int}{ws:List Int}(ha:aE n a)(nz:∀l∈ws,l≠0):M.Fits (iJ M f n a ws) (dH n a ws):=λr hr=>by
 obtain⟨i,hi,rfl⟩:=Zg.mp hr;have hi:=ZU.mp hi;have C1:ws.getD i 0≠0:=nz _ (by simp[List.getD,hi]);refine(MN C1).mpr ?_;rw[vf ha, <-Lp hi, <-zU n a i,vf ha]
def Mo.Fits.app{M:Mo}{f:Nat->Int}{rs rt:List (List Int)}:M.Fits f (rs++rt)↔M.Fits f rs/\M.Fits f rt:=
 ⟨λh=>⟨λr hr=>h r (Zb _ hr),λr hr=>h r (Za _ hr)⟩,λh r hr=>(Y6.mp hr).elim (h.1 r) (h.2 r)⟩
def fT(rs:List (List Int))(a:Int)(ws:List Int)(b:Int):Prop:=∀(M:Mo) (f:Nat->Int),M.Fits f rs->M.wk (f a.toNat) ws=f b.toNat
def oS(es:List En)(a:Int)(ws:List Int)(b:Int):Prop:=∃i x y,En.ap i x y∈es/\∀(M:Mo) (f:Nat->Int),M.Fits f (rowsOf es)->M.wk (f a.toNat) ws=f b.toNat->f x.toNat=f y.toNat
def row_more{n m:Nat}{r:List Int}(h:c5 n r)(hm:n<=m):c5 m r:=by
 obtain⟨i,a,k,b,rfl,ha,hb⟩:=h;exact⟨i,a,k,b,rfl,by omega,by omega⟩
def take_all{ws:List Int}:ws.take ws.length=ws:=List.take_length
def W7{n:Nat}{rs:List (List Int)}{a b:Int}{ws l:List Int}(hr:∀r∈rs,c5 n r)(ha:aE n a)(hb:aE n b)(nz:∀x∈ws,x≠0)(h:FL (n+ws.length) (rs++dH n a ws) [] l):
  l.getD (bK n a ws.length).toNat 0=l.getD b.toNat 0↔fT rs a ws b:=by
 obtain⟨e0,e1⟩:=uZ ha ws.length ws.length (Y2 _);have b0:=hb;obtain⟨b0,b1⟩:=b0;rw[h.iff (a:=(bK n a ws.length).toNat) (b:=b.toNat) (by omega) (by omega)];constructor
 ·intro k M f hf;have:=k M (iJ M f n a ws) (Mo.Fits.app.mpr ⟨(Lo hr λx hx=>by unfold iJ;rw[if_pos hx]).mpr hf,JH ha nz⟩) λ_ z=>nomatch z
  rw[vf ha,take_all]at this;rw[this];unfold iJ;rw[if_pos (by omega)]
 ·intro k M f hf _;obtain⟨h1,h2⟩:=Mo.Fits.app.mp hf;rw[JG nz h2 _ (Y2 _),take_all];exact k M f h1
def YW{n k:Nat}{es:List En}{a b:Int}{ws l:List Int}{p:Addr}(ok:∀e∈es,dJ k n e)(k5:k<=5)(ha:aE n a)(hb:aE n b)(nz:∀x∈ws,x≠0)(h:FL (n+ws.length) (rowsOf es++dH n a ws) [(p,[bK n a ws.length,b])] l):
  cP es l≠none↔oS es a ws b:=by
 have hr:∀r∈rowsOf es,c5 n r:=λr hr=>(mB k5 ok r hr).1
 have key:∀x y:Int,aE n x->aE n y->(l.getD x.toNat 0=l.getD y.toNat 0↔∀(M:Mo) (f:Nat->Int),M.Fits f (rowsOf es)->M.wk (f a.toNat) ws=f b.toNat->f x.toNat=f y.toNat):=λx y hx hy=>by
  obtain⟨x0,x1⟩:=id hx;obtain⟨y0,y1⟩:=id hy;obtain⟨b0,b1⟩:=id hb;rw[h.iff (a:=x.toNat) (b:=y.toNat) (by omega) (by omega)];constructor
  ·intro k M f hf hw
   have:=k M (iJ M f n a ws) (Mo.Fits.app.mpr ⟨(Lo hr λx hx=>by unfold iJ;rw[if_pos hx]).mpr hf,JH ha nz⟩) λq hq=>by
    rw[Y1.mp hq];show iJ M f n a ws (bK n a ws.length).toNat=iJ M f n a ws b.toNat;rw[vf ha,take_all,hw];unfold iJ;rw[if_pos (by omega)]
   unfold iJ at this
   rwa [if_pos (by omega),if_pos (by omega)]at this
  ·intro k M f hf hs;obtain⟨h1,h2⟩:=Mo.Fits.app.mp hf;refine k M f h1 ?_;have:=hs _ (Y1.mpr rfl);have this:f (bK n a ws.length).toNat=f b.toNat:=this;rw[<-this,JG nz h2 _ (Y2 _),take_all]
 constructor
 ·intro z;by_cases y:∃i x y,En.ap i x y∈es/\l.getD x.toNat 0=l.getD y.toNat 0
  ·obtain⟨i,x,y,m,e⟩:=y;have:=ok _ m;exact⟨i,x,y,m,(key x y this.1 this.2).mp e⟩
  ·exact absurd (Gs.mpr λi x y' m e=>y ⟨i,x,y',m,e⟩) z
 ·rintro⟨i,x,y,m,e⟩ z;have:=ok _ m;exact Gs.mp z i x y m ((key x y this.1 this.2).mpr e)
open Classical in
noncomputable def wordOf(es:List En)(a:Int)(ws:List Int)(b:Int):Str:=if fT (rowsOf es) a ws b then"must" else if oS es a ws b then"never" else"open"
end My
namespace L2
open PySem PySem.Spec PyProof.Rows
section
variable {X:Cx}
inductive BA(K:PySem.W.Frag)(xs:List V)(H:Hp)(Q:VK):Prop
 |mk (a:Addr) (ns:List Int) (_:xs=[.ref a]) (_:af K H a (ns.map V.int)) (_:ns≠[]) (_:∀m∈ns,(∀i∈ns,i<=m)->Q (.int m) H):BA K xs H Q
def U4(hc:X.calm=true):fS X (.builtin "max") (λxs H Q=>Wr (BA X.K xs H Q)):=by
 intro pins s σ H vs us Q I r ⟨h⟩;obtain⟨a,ns,rfl,hq,ne,q⟩:=h;obtain⟨u,rfl,ru⟩:=vals1 r;cases ru;obtain⟨ai,r,pl,hz⟩:=I.list hq;have hi:=intsAre_of r;obtain⟨xs,e⟩:=hi.allInts.items;have pl:=pl.isList;rw[e]at pl;have e2:(PySem.numsOf ai)=ns:=hi.numsOf;have e3:=PySem.nums_intItems xs;have e4:ai=(PySem.intItems xs).toList:=by rw[<-e]
 rw[e4,e3]at e2;have el:xs.size=ns.length:=by rw[<-e2];simp
 have sz:0<xs.size:=by
  rw[el];cases ns with
  |nil=>exact absurd rfl ne
  |cons=>simp
 have na:∀i,i<xs.size->PySem.numAt xs i=ns.getD i 0:=λi hi=>by
  unfold PySem.numAt;rw[<-e2];simp[List.getD,hi]
 obtain⟨g1,g2⟩:=PySem.argBest_gt (PySem.numAt xs) (xs.size-1);refine PySem.max_intList (I.ok.hd hc) pl sz λv h' tk hv hk=>?_;generalize PySem.argBest (λi j=>decide (PySem.numAt xs i>PySem.numAt xs j)) (xs.size-1)=k at g1 g2 hv;have qY:k<xs.size:=by omega
 have Ct:v=.int (xs[k]).1 (xs[k]).2:=by
  have:(PySem.intItems xs)[k]?=some (.int (xs[k]).1 (xs[k]).2):=by simp[PySem.intItems,qY]
  rw[this]at hv;exact(Zf hv).symm
 have nk:(xs[k]).1=PySem.numAt xs k:=by simp[PySem.numAt,qY]
 have mm:(xs[k]).1∈ns:=by
  rw[nk,na k qY,List.getD,Zc (by omega)];exact ZA _
 refine⟨.int (xs[k]).1,H,I.kept hk,⟨_,Ct⟩,q _ mm λi cA=>?_⟩;obtain⟨j,hj,ej⟩:=ZD cA;have:=g2 j (by omega);rw[na j (by omega),List.getD,Zc hj,ej]at this;rw[nk];exact this
end
def abL{K:PySem.W.Frag}{H:Hp}{a:Addr}{ns:List Int}{Q:VK}(ha:H a=some (.lst (ns.map V.int)))(ne:ns≠[])(h:∀m∈ns,(∀i∈ns,i<=m)->Q (.int m) H):Wr (BA K [.ref a] H Q):=⟨⟨a,ns,rfl,af.of ha,ne,h⟩⟩
end L2
namespace L2
def abM{n j:Nat}{i:Int}(h:j<n)(e:i=(j:Int):=by rfl):fg n i=some j:=by
 subst e;unfold fg;rw[if_pos (by omega),if_pos (by omega)];rfl
open PySem PySem.Spec PyProof.Rows
section
variable {X:Cx}{pins:List (Addr×Obj)}{σ:St}{H:Hp}{s:Shared}{d:Addr}{kvs:List (Key×V)}
def Inv.freeze(I:Inv X pins σ H s)(e:H d=some (.dK kvs)):∃o,Inv X pins σ (upd H d (.cS o (.dK kvs))) s:=by
 have C3:=I.ao d _ e;obtain⟨z,ns,vs,kv,dd⟩:=(show bN X.prog X.w H s.heap d (.dK kvs)from C3);obtain⟨o,es,ep,ho,r⟩:=id dd;have ne:∀{b:Addr},H b=none->b≠d:=λhb q=>by rw[q,e]at hb;cases hb
 refine⟨o,I.ok,I.os,I.bare,⟨I.base.keep,I.base.slot,λb ob q n hx=>?_,I.base.there,λb xs q=>?_,λb ob u q=>?_,λb ps q=>?_⟩,I.loc,I.cell,?_,λx c q=>?_,λp hp=>?_,λa u q=>?_,I.len⟩
 ·have h1:=I.base.free b ob q n hx;rw[ah (ne h1)];exact h1
 ·have h1:=I.base.fY b xs q;rw[ah (λz=>by rw[z,e]at h1;cases h1)];exact h1
 ·have h1:=I.base.fA b ob u q;rw[ah (λz=>by rw[z,e]at h1;cases h1)];exact h1
 ·obtain⟨m,h1⟩:=I.base.fZ b ps q;exact⟨m,by rw[ah (λz=>by rw[z,e]at h1;cases h1)];exact h1⟩
 ·rw[ah (ne I.free)];exact I.free
 ·rw[ah (ne (I.eC x c q))];exact I.eC x c q
 ·obtain⟨h1,h2,h3⟩:=I.pin p hp;exact⟨h1,by rw[ah (ne h2)];exact h2,h3⟩
 ·by_cases ha:a=d
  ·subst ha;rw[aj]at q;cases q;exact⟨ho,z,ns,vs,kv,dd⟩
  ·rw[ah ha]at q;refine(I.ao a u q).k7 (λb v hb w=>w) (λb hb=>?_) λb xs hb=>?_
   ·rw[ah (λz=>by rw[z,e]at hb;cases hb)];exact hb
   ·rw[ah (λz=>by rw[z,e]at hb;cases hb)];exact hb
def acX(te:TE):TS:=λD σ H=>te σ H λx H1=>∃d kvs,x=.ref d/\H1 d=some (.dK kvs)/\∀o,D.rt x (upd H1 d (.cS o (.dK kvs)))
def YX{e:Expr}{te:TE}{pos:Pos}(he:PE X e te):PS X (.Return (some e) pos) (acX te):=by
 intro pins s σ H D I h;refine wpAny_Return_some (au (he pins s σ H _ I h) λv s1 ⟨x,H1,I1,r1,d,kvs,ex,ed,q⟩=>?_);obtain⟨o,I2⟩:=I1.freeze ed;exact⟨x,σ,_,I2,r1,q o⟩
def ui(o:Obj)(d:Addr)(kvs:List (Key×V)):It:=
 ⟨λi H=>H d=some (.cS o (.dK kvs))/\i<kvs.length,λi H x H'=>H'=H/\∃p,kvs[i]?=some p/\x=kV p.1,λi H=>H d=some (.cS o (.dK kvs))/\kvs.length<=i⟩
def Lq{P:Program}{w:World}{k:Key}{u:Value}(h:(cJ P w).is k u=true):RelV (kV k) u:=by
 have h:mQ k u=true:=h;rcases iV h with⟨i,t,rfl,rfl⟩|⟨x,t,rfl,rfl⟩|⟨rfl,rfl⟩
 ·exact⟨t,rfl⟩
 ·exact⟨t,rfl⟩
 ·exact rfl
def vg{P:Program}{w:World}{h:Heap}{o:Obj}(ok:bG P w H h)(e:H d=some (.cS o (.dK kvs))):(d==sysModules)=false/\h.get? d=some o/\∃vs,KV kvs vs/\vs.length=kvs.length/\h.DictOf (cJ P w) d vs:=by
 obtain⟨ho,z,ns,vs,kv,dd⟩:=(show bN P w H h d (.cS o (.dK kvs))from ok d _ e);exact⟨ns,ho,vs,kv,(Paired.length kv).symm,dd⟩
def KV.get{κ:Type}{a:List (κ×V)}{b:List (κ×Value)}(h:KV a b):∀{i:Nat}{p:κ×V},a[i]?=some p->∃q,b[i]?=some q/\p.1=q.1:=by
 unfold KV at h
 induction h with
 |nil=>intro i p e;simp at e
 |cons CK _ ih=>
  intro i p e;cases i with
  |zero=>cases e;exact⟨_,rfl,CK.1⟩
  |succ i=>exact ih (by simpa using e)
def U5{P:Program}{w:World}{K:PySem.W.Frag}{tg:Expr}(o:Obj)(d it:Addr)(ep:Nat)(es:Array DictEntry)(xw:o.data=.dict es ep):Turn P w K tg (ui o d kvs) [it] it (λi h=>h.IsKeyIter it d i kvs.length ep) where
 mem:=by simp
 obj:=λi h st b hb=>by
  have e:b=it:=by simpa using hb
  subst e;obtain⟨o,e,c,d⟩:=st;exact⟨o,e,λv z=>by rw[d]at z;cases z⟩
 keep:=λi h h' st k=>st.at λo e=>k it (by simp) o e
 item:=by
  intro X hP hw hK hc i pins s σ H E I hf st hg;subst hP hw hK;obtain⟨hd,hi⟩:=hg;obtain⟨ns,ho,vs,kv,hl,o',ji,kB,eF,r1,r2,r3⟩:=vg I.ao hd;rw[ho]at eF;cases eF;rw[xw]at r2;cases r2;obtain⟨q,eq,ek⟩:=kv.get (show kvs[i]?=some kvs[i]by simp[hi]);obtain⟨f0,f1,f2,f3,f4,f5⟩:=hf it (by simp);refine wpAny_pyNext_dict_item (knd:=cJ X.prog X.w) (kvs:=vs) (k:=q.1) (v:=q.2) (by rw[hl];exact st) ⟨o,es,ho,r1,xw,r3⟩ eq λkey h' BX aX sb=>?_;have I1:Inv X pins σ H {s with heap:=h'}:=I.turned (t':=s.toks) (λb o hb e=>(sb.2 b hb).trans e) f0 f1 f3 f4 f5;rw[hl]at aX;obtain⟨oo,e,c,dd⟩:=id aX;exact⟨key,rfl,vR (s:={s with heap:=h'}) e c dd (by decide) ⟨kV q.1,H,I1,Lq BX,⟨rfl,kvs[i],by simp[hi],by rw[ek]⟩,aX,λb hb=>(hf b hb).1⟩⟩
 done:=by
  intro X hP hw hK hc i pins s σ H E I hf st hg;subst hP hw hK;obtain⟨hd,hi⟩:=hg;obtain⟨ns,ho,vs,kv,hl,o',ji,kB,eF,r1,r2,r3⟩:=vg I.ao hd;rw[ho]at eF;cases eF;rw[xw]at r2;cases r2;obtain⟨f0,f1,f2,f3,f4,f5⟩:=hf it (by simp);exact wpAny_pyNext_dict_end (knd:=cJ X.prog X.w) (kvs:=vs) (I.ok.hd hc) (by rw[hl];exact st) ⟨o,es,ho,r1,xw,r3⟩ (ZI (by omega)) λh' eb=>⟨rfl,I.turned (t':=s.toks) (λb o hb e=>eb b o hb e) f0 f1 f3 f4 f5⟩
 self:=λ_ _ _ _ _ st h=>wpAny_pyIter_keyiter st h
def acY(tl:TE):TI:=λσ H R=>tl σ H λx H1=>∃d o kvs,x=.ref d/\H1 d=some (.cS o (.dK kvs))/\R (ui o d kvs) H1
def YY{l tg:Expr}{tl:TE}(hl:PE X l tl):PI X tg l (acY tl):=by
 intro pins s σ H R I h;refine au (hl pins s σ H _ I h) λv s1 ⟨x,H1,I1,r1,q1⟩=>?_;obtain⟨d,o,kvs,e,hd,q⟩:=q1;subst e;cases r1;obtain⟨ns,ho,vs,kv,ju,o',ji,kB,eF,r1,r2,r3⟩:=vg I1.ao hd;rw[ho]at eF;cases eF;refine wpAny_pyIter_dict (knd:=cJ X.prog X.w) (kvs:=vs) (ep:=kB) ns ⟨o,ji,ho,r1,r2,r3⟩ ?_;rw[ju];refine⟨s1.heap.objs.size,[s1.heap.objs.size],_,_,H1,rfl,I1.kept (t':=s1.toks) λb o e=>Y7 _ e,U5 o d _ kB ji r2,⟨_,Zp _ rfl,rfl,rfl⟩,λb hb=>?_,q⟩;have e:b=s1.heap.objs.size:=by simpa using hb
 subst e;exact I1.qP (Y2 _) (I1.ao.fresh (Y2 _))
def W8{o:Obj}{d:Addr}{kvs:List (Key×V)}{g:TG}{tb:TS}{D:Ends}{σ:St}{H:Hp}(Pv:Nat->St->Hp->Prop)(h0:Pv 0 σ H)(hl:∀i σ H,i<=kvs.length->Pv i σ H->H d=some (.cS o (.dK kvs)))
  (hs:∀(i:Nat) p σ H,kvs[i]?=some p->Pv i σ H->g (kV p.1) σ H λσ2 H2=>tb {D with nx:=Pv (i+1),ct:=Pv (i+1),bk:=D.nx} σ2 H2)(hd:∀σ H,Pv kvs.length σ H->D.nx σ H):
  ∃W:Nat->Nat->St->Hp->Prop,(∃m,W 0 m σ H)/\∀i m σ H,W i m σ H->
   ((ui o d kvs).stop i H/\D.nx σ H)\/((ui o d kvs).go i H/\∃N:St->Hp->Prop,(∀σ' H',N σ' H'->∃m',m'<m/\W (i+1) m' σ' H')/\∀x H',(ui o d kvs).e9 i H x H'->g x σ H' λσ2 H2=>tb {D with nx:=N,ct:=N,bk:=D.nx} σ2 H2):=by
 refine⟨λi m σ H=>m=kvs.length-i/\i<=kvs.length/\Pv i σ H,⟨kvs.length,by simp,Zo _,h0⟩,?_⟩;rintro i m σ H ⟨rfl,hi,p⟩;have q:=hl i σ H hi p;by_cases aR:i<kvs.length
 ·refine .inr ⟨⟨q,aR⟩,Pv (i+1),λσ' H' p'=>⟨kvs.length-(i+1),by omega,rfl,aR,p'⟩,λx H' y=>?_⟩;obtain⟨e,pp,e1,rfl⟩:=y;subst e;exact hs i pp σ _ e1 p
 ·have e:i=kvs.length:=by omega
  subst e;exact .inl ⟨⟨q,Y2 _⟩,hd σ H p⟩
end
def ja(ix:List Nat)(x y:Option V)(σ:St):St:=x::y::ix.map λi=>(σ[i]?).join
def MO(J:It)(ix:List Nat)(wj:TI)(te:TE)(σ:St)(H1:Hp)(Q:VK):Prop:=∀D,H1 D=none->∃W:Nat->Nat->List V->Hp->Prop,(∃m,W 0 m [] (upd H1 D (.lst [])))/\
 ∀i m ys H2,W i m ys H2->H2 D=some (.lst ys)/\((J.stop i H2/\Q (.ref D) H2)\/(J.go i H2/\∀x H',J.e9 i H2 x H'->∀y0,wj (ja ix (some x) y0 σ) H' λJ2 H3=>∃U:Nat->Nat->List V->Hp->Prop,(∃m2,U 0 m2 ys H3)/\
  ∀j m2 zs H4,U j m2 zs H4->H4 D=some (.lst zs)/\((J2.stop j H4/\∃m',m'<m/\W (i+1) m' zs H4)\/(J2.go j H4/\zs.length<sizeLine/\∀y H5,J2.e9 j H4 y H5->te (ja ix (some x) (some y) σ) H5 λv H6=>
   H6 D=some (.lst zs)/\∃O5,O5<m2/\U (j+1) O5 (zs++[v]) (upd H6 D (.lst (zs++[v])))))))
def MQ(wi:TI)(ix:List Nat)(wj:TI)(te:TE):TE:=λσ H Q=>wi σ H λJ H1=>Wr (MO J ix wj te σ H1 Q)
def RF(elt t1 i1 t2 i2:Expr)(scope:Scope)(pos:Pos)(it acc:Value)(env:Env):
  compTurn (.ListComp elt [⟨t1,i1,[],0⟩,⟨t2,i2,[],0⟩] scope pos) 0 it acc env=(standAt i1.pos>>=λ_=>pyNext it>>=λr=>match r with
   |none=>pure (.done .next)
   |some v=>letOwnedTupleGo t1 it v>>=λ_=>assign t1 env v>>=λ_=>
    eval i2 env>>=λx=>standAt i2.pos>>=λ_=>foldedSetIterable i2 env x>>=λx=>holding [x] (pyIter x)>>=λuj=>runOwn (.compStart (.ListComp elt [⟨t1,i1,[],0⟩,⟨t2,i2,[],0⟩] scope pos) 1 uj acc env) env>>=λ_=>
     again (.compLoop (.ListComp elt [⟨t1,i1,[],0⟩,⟨t2,i2,[],0⟩] scope pos) 0 it acc env)):=by rfl
def Ru(elt t1 i1 t2 i2:Expr)(scope:Scope)(pos:Pos)(it acc:Value)(env:Env):
  compTurn (.ListComp elt [⟨t1,i1,[],0⟩,⟨t2,i2,[],0⟩] scope pos) 1 it acc env=(standAt i2.pos>>=λ_=>pyNext it>>=λr=>match r with
   |none=>pure (.done .next)
   |some v=>letOwnedTupleGo t2 it v>>=λ_=>assign t2 env v>>=λ_=>
    (eval elt env>>=λx=>call (.builtin "list.append") [acc,x]>>=λ_=>pure ())>>=λ_=>
     again (.compLoop (.ListComp elt [⟨t1,i1,[],0⟩,⟨t2,i2,[],0⟩] scope pos) 1 it acc env)):=by rfl
def Q6{prog:Program}{w:World}{A:Around}{R:Result->Shared->Prop}{s:Shared}{elt g1 t2 i2 scope pos it acc env}
  (h0:codeAny (model prog w) A (.compLoop (.ListComp elt [g1,⟨t2,i2,[],0⟩] scope pos) 1 it acc env) R s)
  (h:wpAny (model prog w) A (pyIter it) (λC4 s'=>codeAny (model prog w) A (.compLoop (.ListComp elt [g1,⟨t2,i2,[],0⟩] scope pos) 1 C4 acc env) R s')
   (notedBy (model prog w) A env λx s'=>R (.error x) s') s):
  codeAny (model prog w) A (.compStart (.ListComp elt [g1,⟨t2,i2,[],0⟩] scope pos) 1 it acc env) R s:=by
 refine codeAny_of_tree ?_;show wpAny _ _ ((compStart (.ListComp elt [g1,⟨t2,i2,[],0⟩] scope pos) 1 it acc env).onRaise (λx=>do noteFrame x env;standAt theWindowsPlace)) _ _ s;refine wpAny_notedAt ?_;unfold compStart;show wpAny _ _ (ask>>=_) _ _ s;refine wpAny_bind (wpAny_askSetting (wpAny_ite ?_));split
 ·first
   |exact wpAny_bind (ZV (ZV (And.intro rfl h0)))
   |exact ZV (And.intro rfl h0)
 ·first
   |exact wpAny_bind (wpAny_rule (wpAny_bind (wpAny_standAt (wpAny_bind (wpAny_mono h (λC4 s' h'=>ZV (And.intro rfl h')) λ_ _ x=>x)))))
   |(refine wpAny_bind (wpAny_rule ?_);show wpAny _ _ (standAt i2.pos>>=_) _ _ s;exact wpAny_bind (wpAny_standAt (wpAny_bind (wpAny_mono h (λC4 s' h'=>ZV (And.intro rfl h')) λ_ _ x=>x))))
section
variable {X:Cx}
def U6{x y2:Str}{px py pos:Pos}{elt iter jd:Expr}{scope:Scope}{cl:List (Str×Addr)}{fr:List Str}{ix:List Nat}{wi wj:TI}{te:TE}
  (hc:X.calm=true)(hi:PI X (.Name x px) iter wi)
  (gA:closureFor scope X.env=pure cl)(cZ:scope.kind=.function)(fR:∀y∈scope.names,y.2≠.cell)
  (gy:∀y∈scope.names,y.2=.local->scope.names.lookup y.1=some .local)(hx:scope.names.lookup x=some .local)(xx:scope.names.lookup y2=some .local)
  (hN:(x::y2::fr).Nodup)(fI:ix.map (λi=>X.N[i]?)=fr.map some)
  (dN:∀y∈fr,X.env.kindOf y=some .cell/\(relabel scope X.env).names.lookup y=some .cell)
  (aS:∀y c,cl.lookup y=some c->X.env.cells.lookup y=some c)
  (eZ:∀y,((relabel scope X.env).names.lookup y=some .cell\/(relabel scope X.env).names.lookup y=some .free)->∃c,cl.lookup y=some c)
  (hj:∀C s H fp,PI (X.b7 (x::y2::fr) scope cl C s H fp) (.Name y2 py) jd wj)
  (he:∀C s H fp,PE (X.b7 (x::y2::fr) scope cl C s H fp) elt te)
  (hs:∀x,foldedSetIterable iter X.env x=pure x:=by intro _;rfl)(lJ:∀env x,foldedSetIterable jd env x=pure x:=by intro _ _;rfl):
  PE X (.ListComp elt [⟨.Name x px,iter,[],0⟩,⟨.Name y2 py,jd,[],0⟩] scope pos) (MQ wi ix wj te):=by
 intro pins s σ H Q I h;rw[eval_ListComp];refine wpAny_comprehension_free (use:=none) rfl hs gA cZ gy (au (hi pins s σ H _ I h) λxv s1 h1=>au h1 λo8 s2 h2=>?_);obtain⟨it,fp,tn,J,H2,e,I2,T,gm,f2,q⟩:=h2;subst e;refine wpAny_newObj_type (wpAny_newFunctionEnv fR (by intro y hy;simp at hy) (λh₁ df dj=>?_) cZ);dsimp only at df dj⊢;have g6:H2 s2.heap.objs.size=none:=I2.ao.fresh (Y2 _);obtain⟨W,⟨m0,w0⟩,turn⟩:=q.get s2.heap.objs.size g6;generalize eK:s2.heap.push {cls:=.type "list",dict:=none,data:=.seq ([]:List Value).toArray}=HL at df dj⊢;have hC:HL.objs.size=s2.heap.objs.size+1:=by rw[<-eK,Heap.size_push]
 have old:∀b o,s2.heap.get? b=some o->h₁.get? b=some o:=λb o e=>(dj.2 b (by rw[hC];exact Zm (ZW (Zh e)))).trans (Y7 _ (eK▸Y7 _ e))
 have jS:h₁.get? s2.heap.objs.size=some {cls:=.type "list",data:=.seq ([]:List Value).toArray}:=
  (dj.2 _ (by rw[hC];exact Zm (Nat.lt_succ_self _))).trans (Y7 _ (eK▸Zp _ rfl))
 generalize lK:HL.objs.size=C at df dj⊢;rw[lK]at hC;have bC:∀b o,s2.heap.get? b=some o->b≠C:=λb o e=>by rw[hC];exact Zm (ZW (Zh e))
 have xi:∀b∈bP X.stack,∃o,s2.heap.get? b=some o:=λb hb=>by
  obtain⟨_,o,ho,_⟩:=I2.stack.mem hb;exact⟨o,ho⟩
 have dY:∀b∈fp,∃o,s2.heap.get? b=some o/\∀v,o.data≠.cell v:=λb hb=>T.obj 0 _ gm b hb
 have gX:∀b∈fp,b∉bP X.stack:=λb hb z=>by
  rcases Y4.mp (I2.kf b z)with z|z
  ·exact(f2 b hb).2.1 z
  ·exact(f2 b hb).2.2.1 z
 let B:=X.b7 (x::y2::fr) scope cl C s2 H2 fp
 have lL:B.Ok:=by
  refine⟨I2.ok.mod,cZ,I2.ok.glob,I2.ok.blt,(by show s2.heap.objs.size<=C;rw[hC];exact Nat.le_succ _),λy z c e1 e2=>I2.ok.inj y z c (aS _ _ e1) (aS _ _ e2),λy hy=>eZ y hy,λy c z=>absurd (show false=true from z) Zj,
   λ_=>I2.ok.hd hc,I2.ok.frames,.inl rfl,λb hb=>⟨?_,λy c e=>(f2 b hb).2.2.2.2.1 y c (aS _ _ e)⟩,I2.bs,ZQ I2.ok.iO I2.sz,λb o e hb=>?_,λb hb=>gX b hb,I2.stack,I2.oq⟩
  ·obtain⟨o,e,_⟩:=dY b hb;exact bC b o e
  ·rcases(f2 b hb).2.2.2.1 with z|z
   ·exact I2.ok.kq b o e z
   ·exact absurd (Zv (Zh (I2.ok.bs b o e).1) z) (Z3 _)
 have IB:∀tk,Inv B [] (ja ix none none σ) (upd H2 s2.heap.objs.size (.lst [])) {s2 with heap:=h₁,toks:=tk}:=λtk=>by
  refine⟨lL,rfl,I2.bare,Un.laid old (Y2 _) g6,⟨_,df,λj y v e1 e2 e3=>?_⟩,λy c e=>?_,?_,λy c e=>?_,(λp hp=>nomatch hp),I2.ao.laid old (Y2 _) ⟨Zo _,[],0,.nil,jS⟩,?_⟩
  ·cases j with
   |zero=>cases(show(some none:Option (Option V))=some (some v)from e2)
   |succ j=>
    cases j with
    |zero=>cases(show(some none:Option (Option V))=some (some v)from e2)
    |succ j=>
     have e1:fr[j]?=some y:=e1;have e2:(ix.map λi=>(σ[i]?).join)[j]?=some (some v):=e2;have hj:=congrArg (λl=>l[j]?) fI;simp only[Ze,e1]at hj;rw[Ze]at e2;cases jT:ix[j]? with
     |none=>rw[jT]at e2;cases e2
     |some i=>
      rw[jT]at hj e2;have hj:X.N[i]?=some y:=Zf hj;have e2:(σ[i]?).join=some v:=Zf e2
      have e2:σ[i]?=some (some v):=by
       cases z:σ[i]? with
       |none=>rw[z]at e2;cases e2
       |some z'=>rw[z]at e2;rw[show z'=some v from e2]
      obtain⟨m,hn,hl⟩:=I2.loc;have hk:=dN y (Y5 e1);obtain⟨u,ru,lk⟩:=hl i y v hj e2 (.inr (.inl hk.1));refine⟨u,ru,.inr ⟨.inl hk.2,?_⟩⟩;rcases lk with⟨z,_⟩|⟨_,c,ec,⟨oc,bQ,bR⟩⟩
      ·rw[hk.1]at z;cases z
      ·obtain⟨c',jU⟩:=eZ y (.inl hk.2);have:=aS _ _ jU;rw[ec]at this;cases this;exact⟨c,jU,oc,old c oc bQ,bR⟩
  ·obtain⟨v,oc,bQ,bR⟩:=I2.cell y c (aS _ _ e);exact⟨v,oc,old c oc bQ,bR⟩
  ·show upd H2 s2.heap.objs.size (.lst []) C=none;rw[ah (by rw[hC];exact Nat.succ_ne_self _)];exact I2.ao.fresh (by rw[hC];exact Nat.le_succ _)
  ·obtain⟨v,oc,bQ,bR⟩:=I2.cell y c (aS _ _ e);rw[ah (Zm (Zh bQ))];exact I2.eC y c (aS _ _ e)
  ·show(ja ix none none σ).length=(x::y2::fr).length;have:=congrArg List.length fI;simp only[Y0]at this;simp[ja,this]
 have dZ:∀tk,tn 0 ({s2 with heap:=h₁,toks:=tk}:Shared).heap:=λ_=>T.keep 0 _ _ gm λb hb o e=>old b o e
 have fB:∀{H':Hp},(∀b∈fp,H' b=none)->∀b∈fp,iG B [] H' b:=λhn b hb=>by
  obtain⟨o,e,_⟩:=dY b hb;exact⟨hn b hb,bC b o e,gX b hb,.inl hb,λy c ec=>(f2 b hb).2.2.2.2.1 y c (aS _ _ ec),(λp hp=>nomatch hp)⟩
 have loop:∀tk,codeAny (model X.prog X.w) X.A (.compLoop (.ListComp elt [⟨.Name x px,iter,[],0⟩,⟨.Name y2 py,jd,[],0⟩] scope pos) 0 (.ref it) (.ref s2.heap.objs.size) (compEnvC scope cl C X.env))
   (compPost (model X.prog X.w) X.A X.xe none (EP X pins σ Q) (.ref s2.heap.objs.size) C) {s2 with heap:=h₁,toks:=tk}:=λtk=>by
  refine codeAny_loop rfl (λn s'=>∃i ys x' y' H',Inv B [] (ja ix x' y' σ) H' s'/\tn i s'.heap/\(∀b∈fp,H' b=none)/\W i n ys H') (λn s3 hI=>?_) m0 ⟨0,[],none,none,_,IB tk,dZ tk,λb hb=>?_,w0⟩
  ·obtain⟨i,ys,x',y',H3,I3,eG,dX,w3⟩:=hI;show wpAny _ _ ((compTurn (.ListComp elt [⟨.Name x px,iter,[],0⟩,⟨.Name y2 py,jd,[],0⟩] scope pos) 0 (.ref it) (.ref s2.heap.objs.size) (compEnvC scope cl C X.env)).onRaise (λx=>do noteFrame x (compEnvC scope cl C X.env);theTreesLotGoes x)) _ _ s3;refine wpAny_noted ?_;rw[RF];obtain⟨xj,alt⟩:=turn i n ys H3 w3;refine wpAny_bind (wpAny_standAt (wpAny_bind ?_));rcases alt with⟨stop,qn⟩|⟨go,step⟩
   ·refine au (T.done B rfl rfl rfl hc i [] s3 _ H3 _ I3 (fB dX) eG stop) λr s4 ⟨hr,I4⟩=>?_;subst hr;refine ZV ?_;obtain⟨m4,jV,_⟩:=I4.loc;refine⟨m4,jV,λh' sb=>?_⟩
    have un:Un (bP X.stack) fp H2 H3 s2.heap h':=by
     have u:=I4.base;refine⟨λb o e n hb hx=>(sb.2 b (bC b o e)).trans (u.keep b o e n hb hx),λb o e n hb hx=>?_,u.free,λb o e hx=>?_,u.fY,u.fA,u.fZ⟩
     ·obtain⟨sl,e1⟩:=u.slot b o e n hb hx;exact⟨sl,(sb.2 b (bC b o e)).trans e1⟩
     ·obtain⟨o',e1⟩:=u.there b o e hx;exact⟨o',(sb.2 b (bC b o e)).trans e1⟩
    refine⟨.ref s2.heap.objs.size,H3,I2.mR (s':={s4 with heap:=h'}) (ch:=fp) I4.os un (I4.ao.sameBut I4.free sb) I4.bare (λb hb=>⟨(f2 b hb).2.2.2.1,(f2 b hb).2.1,(f2 b hb).2.2.2.2⟩),rfl,qn⟩
   ·refine au (T.item B rfl rfl rfl hc i [] s3 _ H3 _ I3 (fB dX) eG go) λr s4 ⟨u,hr,h4⟩=>?_;subst hr;refine wpAny_bind (au h4 λ_ s5 ⟨xv,H5,I5,r5,y5,dt,jN⟩=>?_);have jO:=I5.pinned (fB jN) (T.obj _ _ dt);refine wpAny_bind (wpAny_assign_Name (kO (i:=0) (X:=B) jO hN rfl (.inl (lookup_relabel_local hx)) r5 (λs6 I6=>?_) (.inr (lookup_relabel_local hx))));have I6:Inv B ([]++jC fp s5.heap) (ja ix (some xv) y' σ) H5 s6:=I6;generalize O6:([]:List (Addr×Obj))++jC fp s5.heap=pp at I6
    have kp:∀{st:St}{H8:Hp}{s8:Shared},Inv B pp st H8 s8->tn (i+1) s8.heap/\∀b∈fp,H8 b=none:=λI8=>by
     subst O6
     exact⟨T.keep _ _ _ dt λb hb o e=>(I8.pin (b,o) (Za _ (Za _ (gN hb e)))).1,λb hb=>by
      obtain⟨o,e,d⟩:=T.obj _ _ dt b hb;exact(I8.pin (b,o) (Za _ (Za _ (gN hb e)))).2.1⟩
    have un8:∀{st:St}{H8:Hp}{s8:Shared},Inv B pp st H8 s8->Inv B [] st H8 s8:=λI8=>by
     subst O6;exact I8.j4
    refine wpAny_bind (wpAny_mono (hj C s2 H2 fp pp s6 _ H5 _ I6 (step xv H5 y5 y')) (λxv2 s7 h7=>?_) λ_ _ z=>Zu z);refine wpAny_bind (wpAny_standAt (wpAny_bind (wpAny_of_eq (lJ _ _) (wpAny_bind (wpAny_holding (wpAny_mono h7 (λaeP s8 h8=>?_) λ_ _ z=>Zu z))))));obtain⟨uj,pG,tn2,J2,H8,e8,I8,T2,O7,f8,q8⟩:=h8;subst e8;obtain⟨VV,⟨n0,v0⟩,acZ⟩:=q8;refine wpAny_bind (wpAny_runOwn ?_)
    have ND:∀C5:Shared,C5=s8->codeAny (model X.prog X.w) X.A (.compLoop (.ListComp elt [⟨.Name x px,iter,[],0⟩,⟨.Name y2 py,jd,[],0⟩] scope pos) 1 (.ref uj) (.ref s2.heap.objs.size) (compEnvC scope cl C X.env))
      (λr s'=>match r with|.ok _=>∃m' lS zs H',m'<n/\Inv B pp (ja ix (some xv) lS σ) H' s'/\W (i+1) m' zs H'|.error _=>False) C5:=λC5 es8=>by
     subst es8;refine codeAny_loop rfl (λn s'=>∃j zs lS H',Inv B pp (ja ix (some xv) lS σ) H' s'/\tn2 j s'.heap/\(∀b∈pG,H' b=none)/\VV j n zs H') (λn s3 hI=>?_) n0 ⟨0,ys,y',H8,I8,O7,λb hb=>(f8 b hb).1,v0⟩;obtain⟨j,zs,lS,H9,I9,O8,O9,v9⟩:=hI;show wpAny _ _ ((compTurn (.ListComp elt [⟨.Name x px,iter,[],0⟩,⟨.Name y2 py,jd,[],0⟩] scope pos) 1 (.ref uj) (.ref s2.heap.objs.size) (compEnvC scope cl C X.env)).onRaise (λx=>do noteFrame x (compEnvC scope cl C X.env);theTreesLotGoes x)) _ _ s3;refine wpAny_noted ?_;rw[Ru];obtain⟨hD9,alt⟩:=acZ j n zs H9 v9;have C6:∀{Hq:Hp},(∀b∈pG,Hq b=none)->∀b∈pG,iG B pp Hq b:=λhn b hb=>⟨hn b hb,(f8 b hb).2⟩;refine wpAny_bind (wpAny_standAt (wpAny_bind ?_));rcases alt with⟨stop,m',hm',w'⟩|⟨go,hlen,ac0⟩
     ·refine wpAny_mono (T2.done B rfl rfl rfl hc j pp s3 _ H9 (λ_ _=>False) I9 (C6 O9) O8 stop) (λr s4 ⟨hr,I4⟩=>?_) λ_ _ z=>Zu z;subst hr;exact ZV ⟨m',lS,zs,H9,hm',I4,w'⟩
     ·refine wpAny_mono (T2.item B rfl rfl rfl hc j pp s3 _ H9 (λ_ _=>False) I9 (C6 O9) O8 go) (λr s4 ⟨u,hr,h4⟩=>?_) λ_ _ z=>Zu z;subst hr;refine wpAny_bind (wpAny_mono h4 (λ_ s5' ⟨yv,C7,I10,r10,y10,Cm,ad3⟩=>?_) λ_ _ z=>Zu z);have ad4:=I10.pinned (C6 ad3) (T2.obj _ _ Cm);refine wpAny_bind (wpAny_assign_Name (kO (i:=1) (X:=B) ad4 hN rfl (.inl (lookup_relabel_local xx)) r10 (λxy C8=>?_) (.inr (lookup_relabel_local xx))));have C8:Inv B (pp++jC pG s5'.heap) (ja ix (some xv) (some yv) σ) C7 xy:=C8;refine wpAny_bind (wpAny_bind (wpAny_mono (he C s2 H2 fp _ xy _ C7 _ C8 (ac0 yv C7 y10)) (λv bu ⟨y,C9,I12,r12,Cn,m',hm,uk⟩=>?_) λ_ _ z=>Zu z))
      refine wpAny_bind (wpAny_mono (fu (X:=B) _ bu _ C9 (.ref s2.heap.objs.size) [y] (.ref s2.heap.objs.size) [v] (λ_ H8=>H8=upd C9 s2.heap.objs.size (.lst (zs++[y]))) I12 rfl (.cons r12 .nil) ⟨_,zs,y,rfl,rfl,Cn,hlen,rfl⟩)
       (λ_ gp ⟨_,H13,Dc,_,Dd⟩=>?_) λ_ _ z=>Zu z)
      subst Dd;refine ZV (ZV ⟨rfl,m',hm,j+1,zs++[y],some yv,_,Dc.j4,T2.keep _ _ _ Cm λb hb o e=>(Dc.pin (b,o) (Za _ (Za _ (gN hb e)))).1,λb hb=>?_,uk⟩);obtain⟨o,e,d⟩:=T2.obj _ _ Cm b hb;exact(Dc.pin (b,o) (Za _ (Za _ (gN hb e)))).2.1
    have cont:codeAny (model X.prog X.w) X.A (.compStart (.ListComp elt [⟨.Name x px,iter,[],0⟩,⟨.Name y2 py,jd,[],0⟩] scope pos) 1 (.ref uj) (.ref s2.heap.objs.size) (compEnvC scope cl C X.env))
      (λr s'=>match r with|.ok _=>∃m' lS zs H',m'<n/\Inv B pp (ja ix (some xv) lS σ) H' s'/\W (i+1) m' zs H'|.error _=>False) s8:=
     Q6 (ND _ rfl) (T2.self _ 0 _ _ _ O7 (ND _ rfl))
    refine codeAny_mono cont λr s' hr=>?_;cases r with
    |error _=>exact Zu hr
    |ok f=>
     obtain⟨m',lS,zs,H',hm,I',w'⟩:=hr;exact ZV ⟨rfl,m',hm,i+1,zs,some xv,lS,H',un8 I',(kp I').1,(kp I').2,w'⟩
  ·obtain⟨o,e,_⟩:=dY b hb;rw[ah (Zm (Zh e))];exact(f2 b hb).1
 exact codeAny_compStart_list (loop _) (T.self _ 0 _ _ _ (dZ _) (loop _))
end
section
variable {X:Cx}{te:TE}{pos:Pos}
def pit{l tg:Expr}{tl:TE}(K:PySem.W.Frag)(e:X.K=K)(hl:PE X l tl):PI X tg l (BR K tl):=by subst e;exact AO hl
def W9{x y2:Str}{px py:Pos}{elt iter jd:Expr}{scope:Scope}{cl:List (Str×Addr)}{wi wj:TI}(fr:List Str)(ix:List Nat)
  (hi:PI X (.Name x px) iter wi)(hj:∀C s H fp,PI (X.b7 (x::y2::fr) scope cl C s H fp) (.Name y2 py) jd wj)(he:∀C s H fp,PE (X.b7 (x::y2::fr) scope cl C s H fp) elt te)
  (aS:∀y c,cl.lookup y=some c->X.env.cells.lookup y=some c)
  (gA:closureFor scope X.env=pure cl:=by rfl)(hc:X.calm=true:=by rfl)(cZ:scope.kind=.function:=by rfl)(fR:(scope.names.all λp=>p.2 != .cell)=true:=by rfl)
  (gy:(scope.names.all λp=>p.2 != .local||scope.names.lookup p.1==some .local)=true:=by rfl)(hx:scope.names.lookup x=some .local:=by rfl)(xx:scope.names.lookup y2=some .local:=by rfl)
  (hN:(x::y2::fr).Nodup:=by decide+kernel)(fI:ix.map (λi=>X.N[i]?)=fr.map some:=by rfl)
  (dN:(fr.all λy=>X.env.kindOf y==some .cell&&(relabel scope X.env).names.lookup y==some .cell)=true:=by rfl)
  (eZ:((relabel scope X.env).names.all λp=>(p.2 != .cell&&p.2 != .free)||(cl.lookup p.1).isSome)=true:=by rfl)
  (hs:∀x,foldedSetIterable iter X.env x=pure x:=by intro _;rfl)(lJ:∀env x,foldedSetIterable jd env x=pure x:=by intro _ _;rfl):
  PE X (.ListComp elt [⟨.Name x px,iter,[],0⟩,⟨.Name y2 py,jd,[],0⟩] scope pos) (MQ wi ix wj te):=by
 refine U6 hc hi gA cZ (λy hy e=>?_) (λy hy e=>?_) hx xx hN fI (λy hy=>?_) aS (λy hy=>?_) hj he hs lJ
 ·have:=ZC.mp fR y hy;rw[e]at this;exact absurd this (by decide)
 ·have:=ZC.mp gy y hy;rw[e]at this;simpa using this
 ·have:=ZC.mp dN y hy;rw[Bool.and_eq_true]at this;exact⟨eq_of_beq this.1,eq_of_beq this.2⟩
 ·have:∃k,(relabel scope X.env).names.lookup y=some k/\(k=.cell\/k=.free):=by
   rcases hy with h|h
   ·exact⟨_,h,.inl rfl⟩
   ·exact⟨_,h,.inr rfl⟩
  obtain⟨k,e,hk⟩:=this;have:=ZC.mp eZ (y,k) (ZM e)
  have h2:(cl.lookup y).isSome=true:=by
   rcases hk with rfl|rfl<;>simpa using this
  exact Option.isSome_iff_exists.mp h2
def TN{K:PySem.W.Frag}{lo:Int}{n:Nat}{ix:List Nat}{ta:TA}{σ:St}{H:Hp}{Q:VK}(f:Nat->List Int)(hn:n<=1000)(hf:∀i,(f i).length=2)
  (ha:∀i,i<n->∀(y0:Option V) (H2:Hp) (Q':List V->Hp->Prop),Q' ((f i).map V.int) H2->ta (ja ix (some (.int (lo+i))) y0 σ) H2 Q')
  (hQ:∀D H',H D=none->H' D=some (.lst (((List.range n).flatMap f).map V.int))->aa H H'->Q (.ref D) H'):
  Wr (MO (fH lo n) ix (BR K (BY ta)) (iE 1) σ H Q):=by
 refine⟨λD hD=>⟨λi m ys H2=>m=n-i/\i<=n/\ys=((List.range i).flatMap f).map V.int/\H2 D=some (.lst ys)/\aa H H2,⟨n,rfl,Zo _,rfl,aj,(λb o e=>by rw[ah (bj e hD)];exact e)⟩,?_⟩⟩;rintro i m ys H2 ⟨rfl,hi,rfl,nI,s2⟩;refine⟨nI,?_⟩;by_cases aR:i<n
 ·refine .inr ⟨aR,λx H' y y0=>?_⟩;obtain⟨e,y⟩:=y;subst e y;refine ha i aR y0 H' _ ⟨?_,λt ht=>?_⟩
  ·rw[Y0,hf];exact(by decide:2<=sizeLine)
  refine⟨t,rfl,⟨_,bt.of aj⟩,?_⟩;have nt:D≠t:=λz=>by rw[<-z,nI]at ht;cases ht
  have len:((List.range i).flatMap f).length=2*i:=by
   clear aR hi nI ht nt s2 hD ha hn
   induction i with
   |zero=>rfl
   |succ i ih=>rw[List.range_succ,List.flatMap_append,Zn,ih];simp[hf];omega
  refine⟨λj m2 zs H4=>m2=2-j/\j<=2/\zs=((List.range i).flatMap f).map V.int++((f i).take j).map V.int/\H4=upd (upd H' t (.tup ((f i).map V.int))) D (.lst zs),⟨2,rfl,Zo _,by simp,?_⟩,?_⟩
  ·funext b
   by_cases z:b=D
   ·rw[z,aj,ah nt];exact nI
   ·rw[ah (a:=D) z]
  rintro j m2 zs H4 ⟨rfl,hj,rfl,rfl⟩;refine⟨aj,?_⟩;have st:bt K (upd (upd H' t (.tup ((f i).map V.int))) D (.lst (((List.range i).flatMap f).map V.int++((f i).take j).map V.int))) t ((f i).map V.int):=bt.of (by rw[ah (λz=>nt z.symm),aj]);by_cases xA:j<2
  ·have Df:j<(f i).length:=by rw[hf];exact xA
   refine .inr ⟨⟨_,V.int (f i)[j],st,by simp[Df]⟩,?_,λy H5 yl=>?_⟩
   ·refine ZP (?_:_<=10000) (by decide);rw[Zn,Y0,Y0,len,Zx,hf];omega
   obtain⟨e,yl⟩:=yl;subst e;have ey:=yl _ st;rw[Ze,Zc Df]at ey;cases ey;refine⟨_,rfl,aj,2-(j+1),by omega,rfl,xA,?_,by rw[oj]⟩;rw[Zi Df,Zd,ZZ];rfl
  ·have e:j=2:=by omega
   subst e;refine .inl ⟨⟨_,st,by rw[Y0,hf];exact Y2 _⟩,n-(i+1),by omega,rfl,aR,?_,aj,?_⟩
   ·rw[ZE (by rw[hf];exact Y2 _),List.range_succ,List.flatMap_append,Zd];simp
   ·intro b o e;have h1:=s2 b o e;have nb:b≠D:=bj e hD;have nb2:b≠t:=bj h1 ht;rw[ah nb,ah nb2];exact h1
 ·have e:i=n:=by omega
  subst e;exact .inl ⟨Y2 _,hQ D H2 hD nI s2⟩
end
def Lr(J:It)(n:Nat)(gT:TG)(tk tv:TE)(H1:Hp)(Q:VK):Prop:=∀D,H1 D=none->∃(e0:HO) (W:Nat->Nat->Hp->Prop),(e0=.dK []\/e0=.dT [])/\(∃m,W 0 m (upd H1 D e0))/\
 ∀i m H2,W i m H2->(J.stop i H2/\Q (.ref D) H2)\/(J.go i H2/\∀x H',J.e9 i H2 x H'->∀nb:St,nb.length=n->gT x nb H' λσ2 H3=>tk σ2 H3 λy H4=>tv σ2 H4 λyv H5=>
  ∃H6,gY H5 D y yv H6/\∃m',m'<m/\W (i+1) m' H6)
def Ls(wi:TI)(n:Nat)(gT:TG)(tk tv:TE):TE:=λσ H Q=>wi σ H λJ H1=>Wr (Lr J n gT tk tv H1 Q)
def ac1{P:Program}{w:World}{H:Hp}{h h':Heap}(e:h'.get? h.objs.size=some {cls:=.type "dict",data:=.dict #[]})(hb:sysModules<h.objs.size):bN P w H h' h.objs.size (.dT []):=
 ⟨Zo _,ZH.mpr (Ne.symm (Zm hb)),[],.nil,_, #[],0,e,⟨rfl,rfl,rfl⟩,rfl,rfl,List.nodup_nil⟩
section
variable {X:Cx}{pins:List (Addr×Obj)}{σ:St}{H:Hp}{s:Shared}{a:Addr}{y v:V}{u r:Value}{A:Around}{E:Value->Shared->Prop}
def U7{H':Hp}{Q:Unit->Shared->Prop}(hu:A.units+1<cLine)(I:Inv X pins σ H s)(g:gY H a y v H')(ry:RelV y u)(rv:RelV v r)(h:∀s',Inv X pins σ H' s'->Q () s'):
  wpAny (model X.prog X.w) A (dictSet a u r) Q E s:=by
 rcases g with⟨kvs,k,e,ey,l,eH⟩|⟨kvs,k,b,e,ey,eb,l,eH⟩
 ·subst ey eH;obtain⟨z,hd,vs,rel,dd⟩:=Bn I.ao e;have hz:vs.length<=sizeLine:=by rw[<-rel.length];exact z
  have hl:(putK kvs k v).length<=sizeLine:=by have:=rY kvs k v;omega
  refine wpAny_dictSet_pairs (hsz:=hz) (mS ry) dd λh' jo hs=>h _ ?_;have he:∃q,h'.get? a=some q:=let⟨q,_,_,hq,_⟩:=jo;⟨q,hq⟩
  exact sE I (by rw[e];exact True.intro) hs he (AU hl hd (rel.put k rv) jo)
 ·subst ey eH;cases(show u=Value.ref b from ry);obtain⟨z,hd,xs,rel,dd⟩:=Bo I.ao e;have hz:xs.length<=sizeLine:=by rw[<-Paired.length rel];exact z
  have hl:(putK kvs k v).length<=sizeLine:=by have:=rY kvs k v;omega
  refine wpAny_dictSet_heap (hsz:=hz) (show(tupleKind (cJ X.prog X.w)).room A from Nat.lt_of_succ_lt hu) (oB I.ao eb) dd λh' jo hs=>h _ ?_;obtain⟨q,es,ep,hq,h2,h3,h4,_,h5⟩:=jo;refine sE I (by rw[e];exact True.intro) hs ⟨q,hq⟩ ⟨hl,hd,_,(rel.put k eb rv).keeps λc ys ec=>?_,q,es,ep,hq,h2,h3,h4,h5⟩;rw[ah (Nc ec e (λz=>nomatch z))];exact ec
end
section
variable {X:Cx}
def TQ{NB:List Str}{lU:Expr}{gT:TG}{pos:Pos}{kx vx iter:Expr}{scope:Scope}{cl:List (Str×Addr)}{wi:TI}{tk tv:TE}
  (hu:X.A.units+1<cLine)(hc:X.calm=true)(hi:PI X lU iter wi)
  (gA:closureFor scope X.env=pure cl)(cZ:scope.kind=.function)(fR:∀y∈scope.names,y.2≠.cell)
  (gy:∀y∈scope.names,y.2=.local->scope.names.lookup y.1=some .local)
  (aS:∀y c,cl.lookup y=some c->X.env.cells.lookup y=some c)
  (eZ:∀y,((relabel scope X.env).names.lookup y=some .cell\/(relabel scope X.env).names.lookup y=some .free)->∃c,cl.lookup y=some c)
  (hg:∀C s H fp,PG (X.b7 NB scope cl C s H fp) lU gT)
  (hk:∀C s H fp,PE (X.b7 NB scope cl C s H fp) kx tk)(he:∀C s H fp,PE (X.b7 NB scope cl C s H fp) vx tv)
  (hs:∀x,foldedSetIterable iter X.env x=pure x:=by intro _;rfl):
  PE X (.DictComp kx vx [⟨lU,iter,[],0⟩] scope pos) (Ls wi NB.length gT tk tv):=by
 intro pins s σ H Q I h;rw[arm_eval_DictComp];refine wpAny_comprehension_free (use:=none) rfl hs gA cZ gy (au (hi pins s σ H _ I h) λxv s1 h1=>au h1 λo8 s2 h2=>?_);obtain⟨it,fp,tn,J,H2,e,I2,T,gm,f2,q⟩:=h2;subst e;refine wpAny_newObj_type (wpAny_newFunctionEnv fR (by intro y hy;simp at hy) (λh₁ df dj=>?_) cZ);dsimp only at df dj⊢;have g6:H2 s2.heap.objs.size=none:=I2.ao.fresh (Y2 _);obtain⟨e0,W,he0,⟨m0,w0⟩,turn⟩:=q.get s2.heap.objs.size g6;generalize eK:s2.heap.push {cls:=.type "dict",dict:=none,data:=.dict #[]}=HL at df dj⊢;have hC:HL.objs.size=s2.heap.objs.size+1:=by rw[<-eK,Heap.size_push]
 have old:∀b o,s2.heap.get? b=some o->h₁.get? b=some o:=λb o e=>(dj.2 b (by rw[hC];exact Zm (ZW (Zh e)))).trans (Y7 _ (eK▸Y7 _ e))
 have jS:h₁.get? s2.heap.objs.size=some {cls:=.type "dict",data:=.dict #[]}:=
  (dj.2 _ (by rw[hC];exact Zm (Nat.lt_succ_self _))).trans (Y7 _ (eK▸Zp _ rfl))
 generalize lK:HL.objs.size=C at df dj⊢;rw[lK]at hC;have bC:∀b o,s2.heap.get? b=some o->b≠C:=λb o e=>by rw[hC];exact Zm (ZW (Zh e))
 have xi:∀b∈bP X.stack,∃o,s2.heap.get? b=some o:=λb hb=>by
  obtain⟨_,o,ho,_⟩:=I2.stack.mem hb;exact⟨o,ho⟩
 have dY:∀b∈fp,∃o,s2.heap.get? b=some o/\∀v,o.data≠.cell v:=λb hb=>T.obj 0 _ gm b hb
 have gX:∀b∈fp,b∉bP X.stack:=λb hb z=>by
  rcases Y4.mp (I2.kf b z)with z|z
  ·exact(f2 b hb).2.1 z
  ·exact(f2 b hb).2.2.1 z
 let B:=X.b7 NB scope cl C s2 H2 fp
 have lL:B.Ok:=by
  refine⟨I2.ok.mod,cZ,I2.ok.glob,I2.ok.blt,(by show s2.heap.objs.size<=C;rw[hC];exact Nat.le_succ _),λy z c e1 e2=>I2.ok.inj y z c (aS _ _ e1) (aS _ _ e2),λy hy=>eZ y hy,λy c z=>absurd (show false=true from z) Zj,
   λ_=>I2.ok.hd hc,I2.ok.frames,.inl rfl,λb hb=>⟨?_,λy c e=>(f2 b hb).2.2.2.2.1 y c (aS _ _ e)⟩,I2.bs,ZQ I2.ok.iO I2.sz,λb o e hb=>?_,λb hb=>gX b hb,I2.stack,I2.oq⟩
  ·obtain⟨o,e,_⟩:=dY b hb;exact bC b o e
  ·rcases(f2 b hb).2.2.2.1 with z|z
   ·exact I2.ok.kq b o e z
   ·exact absurd (Zv (Zh (I2.ok.bs b o e).1) z) (Z3 _)
 have C3:∀HH,bN X.prog X.w HH h₁ s2.heap.objs.size e0:=λHH=>by
  rcases he0 with z|z
  ·subst z;exact acO jS I2.big
  ·subst z;exact ac1 jS I2.big
 have IB:∀tk,Inv B [] (List.replicate NB.length none) (upd H2 s2.heap.objs.size e0) {s2 with heap:=h₁,toks:=tk}:=λtk=>by
  refine⟨lL,rfl,I2.bare,Un.laid old (Y2 _) g6,⟨_,df,λj y v e1 e2 e3=>?_⟩,λy c e=>?_,?_,λy c e=>?_,(λp hp=>nomatch hp),I2.ao.laid old (Y2 _) (C3 _),?_⟩
  ·rw[ZS]at e2;split at e2<;>cases e2
  ·obtain⟨v,oc,bQ,bR⟩:=I2.cell y c (aS _ _ e);exact⟨v,oc,old c oc bQ,bR⟩
  ·show upd H2 s2.heap.objs.size e0 C=none;rw[ah (by rw[hC];exact Nat.succ_ne_self _)];exact I2.ao.fresh (by rw[hC];exact Nat.le_succ _)
  ·obtain⟨v,oc,bQ,bR⟩:=I2.cell y c (aS _ _ e);rw[ah (Zm (Zh bQ))];exact I2.eC y c (aS _ _ e)
  ·exact ZR
 have dZ:∀tk,tn 0 ({s2 with heap:=h₁,toks:=tk}:Shared).heap:=λ_=>T.keep 0 _ _ gm λb hb o e=>old b o e
 have fB:∀{H':Hp},(∀b∈fp,H' b=none)->∀b∈fp,iG B [] H' b:=λhn b hb=>by
  obtain⟨o,e,_⟩:=dY b hb;exact⟨hn b hb,bC b o e,gX b hb,.inl hb,λy c ec=>(f2 b hb).2.2.2.2.1 y c (aS _ _ ec),(λp hp=>nomatch hp)⟩
 have loop:∀tk,codeAny (model X.prog X.w) X.A (.compLoop (.DictComp kx vx [⟨lU,iter,[],0⟩] scope pos) 0 (.ref it) (.ref s2.heap.objs.size) (compEnvC scope cl C X.env))
   (compPost (model X.prog X.w) X.A X.xe none (EP X pins σ Q) (.ref s2.heap.objs.size) C) {s2 with heap:=h₁,toks:=tk}:=λtk=>by
  refine codeAny_loop rfl (λn s'=>∃i nb H',Inv B [] nb H' s'/\tn i s'.heap/\(∀b∈fp,H' b=none)/\W i n H') (λn s3 hI=>?_) m0 ⟨0,_,_,IB tk,dZ tk,λb hb=>?_,w0⟩
  ·obtain⟨i,nb,H3,I3,eG,dX,w3⟩:=hI;show wpAny _ _ ((compTurn (.DictComp kx vx [⟨lU,iter,[],0⟩] scope pos) 0 (.ref it) (.ref s2.heap.objs.size) (compEnvC scope cl C X.env)).onRaise (λx=>do noteFrame x (compEnvC scope cl C X.env);theTreesLotGoes x)) _ _ s3;refine wpAny_noted ?_;rw[compTurn_dict];have alt:=turn i n H3 w3;refine wpAny_bind (wpAny_standAt (wpAny_bind ?_));rcases alt with⟨stop,qn⟩|⟨go,step⟩
   ·refine au (T.done B rfl rfl rfl hc i [] s3 _ H3 _ I3 (fB dX) eG stop) λr s4 ⟨hr,I4⟩=>?_;subst hr;refine ZV ?_;obtain⟨m4,jV,_⟩:=I4.loc;refine⟨m4,jV,λh' sb=>?_⟩
    have un:Un (bP X.stack) fp H2 H3 s2.heap h':=by
     have u:=I4.base;refine⟨λb o e n hb hx=>(sb.2 b (bC b o e)).trans (u.keep b o e n hb hx),λb o e n hb hx=>?_,u.free,λb o e hx=>?_,u.fY,u.fA,u.fZ⟩
     ·obtain⟨sl,e1⟩:=u.slot b o e n hb hx;exact⟨sl,(sb.2 b (bC b o e)).trans e1⟩
     ·obtain⟨o',e1⟩:=u.there b o e hx;exact⟨o',(sb.2 b (bC b o e)).trans e1⟩
    refine⟨.ref s2.heap.objs.size,H3,I2.mR (s':={s4 with heap:=h'}) (ch:=fp) I4.os un (I4.ao.sameBut I4.free sb) I4.bare (λb hb=>⟨(f2 b hb).2.2.2.1,(f2 b hb).2.1,(f2 b hb).2.2.2.2⟩),rfl,qn⟩
   ·refine au (T.item B rfl rfl rfl hc i [] s3 _ H3 _ I3 (fB dX) eG go) λr s4 ⟨u,hr,h4⟩=>?_;subst hr;refine wpAny_bind (au h4 λ_ s5 ⟨xv,H5,I5,r5,y5,dt,jN⟩=>?_);have jO:=I5.pinned (fB jN) (T.obj _ _ dt);refine wpAny_bind (wpAny_mono (hg C s2 H2 fp _ s5 _ H5 xv u _ jO r5 (step xv H5 y5 nb I3.len)) (λ_ s6 ⟨σ2,H6,I6,q6⟩=>?_) λ_ _ z=>Zu z);refine wpAny_bind (wpAny_tests_nil (wpAny_bind (wpAny_bind (wpAny_mono (hk C s2 H2 fp _ s6 _ H6 _ I6 q6) (λkv s7 ⟨y,H7,I7,r7,q7⟩=>?_) λ_ _ z=>Zu z))));refine wpAny_bind (wpAny_holding (wpAny_mono (he C s2 H2 fp _ s7 _ H7 _ I7 q7) (λvv s8 ⟨yv,H8,I8,r8,H9,g9,m',hm,w8⟩=>?_) λ_ _ z=>Zu z));refine wpAny_bind (wpAny_standAt (wpAny_holding (U7 (X:=B) hu I8 g9 r7 r8 λs9 I9=>?_)));refine ZV ⟨rfl,m',hm,i+1,σ2,_,I9.j4,T.keep _ _ _ dt λb hb o e=>(I9.pin (b,o) (Za _ (Za _ (gN hb e)))).1,λb hb=>?_,w8⟩;obtain⟨o,e,d⟩:=T.obj _ _ dt b hb;exact(I9.pin (b,o) (Za _ (Za _ (gN hb e)))).2.1
  ·obtain⟨o,e,_⟩:=dY b hb;rw[ah (Zm (Zh e))];exact(f2 b hb).1
 exact codeAny_compStart_dict (loop _) (T.self _ 0 _ _ _ (dZ _) (loop _))
end
section
variable {X:Cx}
def pgt(K:PySem.W.Frag){pos:Pos}{es:List Expr}{k:Nat}{t:ny}{n:Nat}(e:X.K=K)(hc:X.calm=true)(h:tQ X es t)
  (hn:(assignEach es X.env).length=n:=by rfl)(bT:(assignEach es X.env).findIdx? (·.1)=none:=by rfl):PG X (.Tuple es k pos) (NR K n t):=by subst e;exact gU hc h hn bT
def U8{lU:Expr}{gT:TG}{pos:Pos}{kx vx iter:Expr}{scope:Scope}{cl:List (Str×Addr)}{wi:TI}{tk tv:TE}(NB:List Str)
  (hu:X.A.units+1<cLine)(hi:PI X lU iter wi)
  (hg:∀C s H fp,PG (X.b7 NB scope cl C s H fp) lU gT)
  (hk:∀C s H fp,PE (X.b7 NB scope cl C s H fp) kx tk)(he:∀C s H fp,PE (X.b7 NB scope cl C s H fp) vx tv)
  (aS:∀y c,cl.lookup y=some c->X.env.cells.lookup y=some c)
  (gA:closureFor scope X.env=pure cl:=by rfl)(hc:X.calm=true:=by rfl)(cZ:scope.kind=.function:=by rfl)(fR:(scope.names.all λp=>p.2 != .cell)=true:=by rfl)
  (gy:(scope.names.all λp=>p.2 != .local||scope.names.lookup p.1==some .local)=true:=by rfl)
  (eZ:((relabel scope X.env).names.all λp=>(p.2 != .cell&&p.2 != .free)||(cl.lookup p.1).isSome)=true:=by rfl)
  (hs:∀x,foldedSetIterable iter X.env x=pure x:=by intro _;rfl):
  PE X (.DictComp kx vx [⟨lU,iter,[],0⟩] scope pos) (Ls wi NB.length gT tk tv):=by
 refine TQ hu hc hi gA cZ (λy hy e=>?_) (λy hy e=>?_) aS (λy hy=>?_) hg hk he hs
 ·have:=ZC.mp fR y hy;rw[e]at this;exact absurd this (by decide)
 ·have:=ZC.mp gy y hy;rw[e]at this;simpa using this
 ·have:∃k,(relabel scope X.env).names.lookup y=some k/\(k=.cell\/k=.free):=by
   rcases hy with h|h
   ·exact⟨_,h,.inl rfl⟩
   ·exact⟨_,h,.inr rfl⟩
  obtain⟨k,e,hk⟩:=this;have:=ZC.mp eZ (y,k) (mem_of_lookup e)
  have h2:(cl.lookup y).isSome=true:=by
   rcases hk with rfl|rfl<;>simpa using this
  exact Option.isSome_iff_exists.mp h2
end
end L2
namespace My
open PySem L2
def lets(k:Nat):List Int:=(List.range k).flatMap λ(i:Nat)=>[1+(i:Int), -(1+(i:Int))]
def j6{k:Nat}{l:Int}:l∈lets k↔Let k l:=by
 unfold lets Let;rw[List.mem_flatMap];constructor
 ·rintro⟨i,hi,h⟩;have:=ZU.mp hi;rcases Y4.mp h with e|h
  ·omega
  ·have e:=Y1.mp h;omega
 ·rintro⟨h0,h1,h2⟩;refine⟨l.natAbs-1,ZU.mpr (by omega),?_⟩;by_cases hp:0<l
  ·exact Y4.mpr (.inl (by omega))
  ·exact Y3 _ (Y1.mpr (by omega))
def JI(k:Nat):(lets k).length=2*k:=by
 unfold lets
 induction k with
 |zero=>rfl
 |succ k ih=>rw[List.range_succ,List.flatMap_append,Zn,ih];simp;omega
def b5(T:Tab)(c:Nat)(O:List Nat)(l:Int):List Nat:=match az T c l with
 |none=>O
 |some d=>if d.toNat∈O then O else O++[d.toNat]
def ky(T:Tab)(k:Nat)(O:List Nat)(i:Nat):List Nat:=(lets k).foldl (b5 T (O.getD i 0)) O
def fK(T:Tab)(k:Nat):Nat->Nat->List Nat->List Nat
 |0,_,O=>O
 |f+1,i,O=>if i<O.length then fK T k f (i+1) (ky T k O i)else O
def met(T:Tab)(k n base:Nat):List Nat:=fK T k (n+1) 0 [base]
def mF{T:Tab}{k f i:Nat}{O:List Nat}(h:O.length<=i):fK T k f i O=O:=by
 cases f with
 |zero=>rfl
 |succ f=>show(if i<O.length then _ else O)=O;rw[if_neg (by omega)]
def oH{T:Tab}{k f i:Nat}{O:List Nat}(h:i<O.length):fK T k (f+1) i O=fK T k f (i+1) (ky T k O i):=by
 show(if i<O.length then _ else O)=_;rw[if_pos h]
def AD{T:Tab}{k:Nat}(P:Nat->List Nat->Prop)(h:∀i O,i<O.length->P i O->P (i+1) (ky T k O i)):∀(f i:Nat) (O:List Nat),P i O->∃i',P i' (fK T k f i O)/\((fK T k f i O).length<=i'\/i'=i+f)
 |0,i,O,p=>⟨i,p,.inr rfl⟩
 |f+1,i,O,p=>by
  by_cases hl:i<O.length
  ·rw[oH hl];obtain⟨i',p',q⟩:=AD P h f (i+1) _ (h i O hl p);exact⟨i',p',q.imp id λe=>by omega⟩
  ·rw[mF (by omega)];exact⟨i,p,.inl (by omega)⟩
def YZ{T:Tab}{c:Nat}{O:List Nat}{l:Int}:∃r,b5 T c O l=O++r:=by
 unfold b5;split
 ·exact⟨[],by simp⟩
 ·split
  ·exact⟨[],by simp⟩
  ·exact⟨_,rfl⟩
def vh{T:Tab}{c:Nat}:∀(ls:List Int) (O:List Nat),∃r,ls.foldl (b5 T c) O=O++r
 |[],O=>⟨[],by simp⟩
 |l::ls,O=>by
  obtain⟨r,e⟩:=YZ (T:=T) (c:=c) (O:=O) (l:=l);obtain⟨r',e'⟩:=vh ls (b5 T c O l);refine⟨r++r',?_⟩;show ls.foldl (b5 T c) (b5 T c O l)=_;rw[e',e,ZZ]
def aaa{T:Tab}{c:Nat}{O:List Nat}{l d:Int}(e:az T c l=some d):d.toNat∈b5 T c O l:=by
 unfold b5;rw[e];dsimp only;split
 ·assumption
 ·exact Za _ (Y1.mpr rfl)
def JJ{T:Tab}{c:Nat}{d:Int}{l:Int}(e:az T c l=some d):∀(ls:List Int) (O:List Nat),l∈ls->d.toNat∈ls.foldl (b5 T c) O
 |a::ls,O,h=>by
  show d.toNat∈ls.foldl (b5 T c) (b5 T c O a);rcases Y4.mp h with q|q
  ·obtain⟨r,e'⟩:=vh (T:=T) (c:=c) ls (b5 T c O a);rw[e'];exact Zb _ (q▸aaa e)
  ·exact JJ e ls _ q
structure eE(n:Nat)(O:List Nat):Prop where
 nd:O.Nodup
 lt:∀c∈O,c<n
def eE.b5{k n:Nat}{T:Tab}(ok:aL k n T){c:Nat}{O:List Nat}{l:Int}(h:eE n O):eE n (b5 T c O l):=by
 unfold My.b5;split
 ·exact h
 ·rename_i d e;have:=eB ok e;split
  ·exact h
  ·rename_i q;refine⟨qw h.nd q,λx hx=>?_⟩;rcases Y6.mp hx with z|z
   ·exact h.lt x z
   ·rw[Y1.mp z];omega
def eE.fold{k n:Nat}{T:Tab}(ok:aL k n T){c:Nat}:∀(ls:List Int) {O:List Nat},eE n O->eE n (ls.foldl (My.b5 T c) O)
 |[],_,h=>h
 |l::ls,O,h=>eE.fold ok ls (h.b5 ok)
def eE.len{n:Nat}{O:List Nat}(h:eE n O):O.length<=n:=by
 have gen:∀(n:Nat) (O:List Nat),O.Nodup->(∀c∈O,c<n)->O.length<=n:=by
  intro n
  induction n with
  |zero=>
   intro O _ h;cases O with
   |nil=>exact Y2 _
   |cons a _=>exact absurd (h a (Y8 ..)) (by omega)
  |succ n ih=>
   intro O nd h
   have h1:=ih (O.erase n) (nd.erase n) λc hc=>by
    have:=h c (List.mem_of_mem_erase hc);have ne:c≠n:=(nd.mem_erase_iff.mp hc).1;omega
   rw[List.length_erase]at h1;split at h1<;>omega
 exact gen n O h.nd h.lt
def cL{k n base:Nat}{T:Tab}(ok:aL k n T)(hb:base<n):eE n (met T k n base)/\base∈met T k n base/\(∀c∈met T k n base,∀l,Let k l->∀d,az T c l=some d->d.toNat∈met T k n base):=by
 have:=AD (T:=T) (k:=k) (λi O=>eE n O/\O[0]?=some base/\∀j,j<i->∀c,O[j]?=some c->∀l,Let k l->∀d,az T c l=some d->d.toNat∈O) (λi O hi ⟨h1,h2,h3⟩=>by
  obtain⟨r,e⟩:=vh (T:=T) (c:=O.getD i 0) (lets k) O;refine⟨h1.fold ok _,?_,λj hj c hc l hl d hd=>?_⟩
  ·unfold ky;rw[e];rw[Zr (ZL.mp h2).1];exact h2
  ·unfold ky at hc⊢;by_cases z:j<i
   ·rw[e]at hc⊢;rw[Zr (by omega)]at hc;exact Zb _ (h3 j z c hc l hl d hd)
   ·have z:j=i:=by omega
    subst z
    have ec:O.getD j 0=c:=by
     rw[e,Zr hi]at hc;rw[List.getD,hc];rfl
    rw[ec];exact JJ hd _ _ (j6.mpr hl)) (n+1) 0 [base] ⟨⟨by simp,λc hc=>by rw[Y1.mp hc];exact hb⟩,rfl,λj hj=>by omega⟩
 obtain⟨i',⟨h1,h2,h3⟩,q⟩:=this
 have hl:(met T k n base).length<=i':=by
  rcases q with q|q
  ·exact q
  ·have:=eE.len h1;unfold met;omega
 refine⟨h1,Y5 h2,λc hc=>?_⟩;obtain⟨j,hj,e⟩:=ZD hc;exact h3 j (by omega) c (ZL.mpr ⟨hj,e⟩)
abbrev Pw:=List (Nat×List Int)
def gi(T:Tab)(p:Nat×List Int)(W:Pw)(l:Int):Pw:=match az T p.1 l with
 |none=>W
 |some d=>if d.toNat∈W.map (·.1)then W else W++[(d.toNat,p.2++[l])]
def wJ(T:Tab)(k:Nat)(W:Pw)(i:Nat):Pw:=(lets k).foldl (gi T (W.getD i (0,[]))) W
def m7(T:Tab)(k:Nat):Nat->Nat->Pw->Pw
 |0,_,W=>W
 |f+1,i,W=>if i<W.length then m7 T k f (i+1) (wJ T k W i)else W
def bF(T:Tab)(k n base:Nat):Pw:=m7 T k (n+1) 0 [(base,[])]
def zy{T:Tab}{k f i:Nat}{W:Pw}(h:W.length<=i):m7 T k f i W=W:=by
 cases f with
 |zero=>rfl
 |succ f=>show(if i<W.length then _ else W)=W;rw[if_neg (by omega)]
def AE{T:Tab}{k f i:Nat}{W:Pw}(h:i<W.length):m7 T k (f+1) i W=m7 T k f (i+1) (wJ T k W i):=by
 show(if i<W.length then _ else W)=_;rw[if_pos h]
def Xa{T:Tab}{p:Nat×List Int}{W:Pw}{l:Int}:(gi T p W l).map (·.1)=b5 T p.1 (W.map (·.1)) l:=by
 unfold gi b5;split
 ·rfl
 ·split
  ·rfl
  ·rw[Zd];rfl
def Ip{T:Tab}{p:Nat×List Int}:∀(ls:List Int) (W:Pw),(ls.foldl (gi T p) W).map (·.1)=ls.foldl (b5 T p.1) (W.map (·.1))
 |[],_=>rfl
 |l::ls,W=>by
  show(ls.foldl (gi T p) (gi T p W l)).map (·.1)=ls.foldl (b5 T p.1) (b5 T p.1 (W.map (·.1)) l);rw[Ip ls,Xa]
def JK{T:Tab}{k:Nat}:∀(f i:Nat) (W:Pw),(m7 T k f i W).map (·.1)=fK T k f i (W.map (·.1))
 |0,_,_=>rfl
 |f+1,i,W=>by
  by_cases h:i<W.length
  ·rw[AE h,oH (by rw[Y0];exact h),JK f];unfold wJ ky;rw[Ip];have:(W.map (·.1)).getD i 0=(W.getD i (0,[])).1:=by simp[List.getD,h]
   rw[this]
  ·rw[zy (by omega),mF (by rw[Y0];omega)]
def j7(T:Tab)(k n base:Nat):(bF T k n base).map (·.1)=met T k n base:=JK ..
abbrev Wy:=List (Nat×Addr×List Int)
def keys(W:Wy):List Nat:=W.map (·.1)
def dC(W:Wy):List (Key×V):=W.map λp=>(Sum.inl (p.1:Int),V.ref p.2.1)
def era(W:Wy):Pw:=W.map λp=>(p.1,p.2.2)
def qo(W:Wy):(era W).map (·.1)=keys W:=by unfold era keys;rw[ZK];rfl
def JL{W:Wy}{c:Nat}(h:c∉keys W):bq (dC W) (.inl (c:Int))=none:=by
 unfold bq;rw[Option.map_eq_none_iff,List.find?_eq_none];intro x hx;obtain⟨p,hp,rfl⟩:=Zg.mp hx;intro z;have z:(Sum.inl (p.1:Int):Key)=.inl (c:Int):=of_decide_eq_true z;have:=Sum.inl.inj z;exact h (Zg.mpr ⟨p,hp,by omega⟩)
def zV{W:Wy}(nd:(keys W).Nodup){p:Nat×Addr×List Int}(hp:p∈W):bq (dC W) (.inl (p.1:Int))=some (.ref p.2.1):=by
 induction W with
 |nil=>cases hp
 |cons q W ih=>
  obtain⟨n1,n2⟩:=ZG.mp nd;rcases Y4.mp hp with e|e
  ·subst e;exact gO rfl
  ·have:¬(Sum.inl (q.1:Int):Key)=.inl (p.1:Int):=λz=>by
    have:=Sum.inl.inj z;exact n1 (Zg.mpr ⟨p,e,by show p.1=q.1;omega⟩)
   show bq ((Sum.inl (q.1:Int),V.ref q.2.1)::dC W) _=_;rw[gP this];exact ih n2 e
structure dU(T:Tab)(k n base:Nat)(W:Wy):Prop where
 nd:(keys W).Nodup
 lt:∀p∈W,p.1<n
 hd:∃a,W[0]?=some (base,a,[])
 wk:∀p∈W,aG T (some (base:Int)) p.2.2=some (p.1:Int)
 ll:∀p∈W,∀l∈p.2.2,Let k l
 rd:∀p∈W,cut p.2.2=p.2.2
 pr:∀p∈W,p.2.2=[]\/∃q∈W,∃l,p.2.2=q.2.2++[l]/\az T q.1 l=some (p.1:Int)
 ln:∀(j:Nat) p,W[j]?=some p->p.2.2.length<=j
def JM(w:List Int)(l:Int):cut (w++[l])=(push (w.foldl push []) l).reverse:=by unfold cut;rw[List.foldl_append];rfl
def JN{w:List Int}(h:cut w=w):w.foldl push []=w.reverse:=by
 unfold cut at h
 conv=>rhs;rw[<-h]
 rw[List.reverse_reverse]
def zW{w:List Int}{l:Int}(h:cut w=w)(hl:∀u,w≠u++[-l]):cut (w++[l])=w++[l]:=by
 rw[JM,JN h];cases e:w.reverse with
 |nil=>
  have:w=[]:=by simpa using e
  subst this;rfl
 |cons t r=>
  have hw:w=r.reverse++[t]:=by
   have:=congrArg List.reverse e;rw[List.reverse_reverse]at this;rw[this];simp
  have:¬t= -l:=λz=>hl r.reverse (by rw[hw,z]);show(if t= -l then r else l::t::r).reverse=_;rw[if_neg this,hw];simp
def dU.zero{T:Tab}{k n base:Nat}(hb:base<n)(a:Addr):dU T k n base [(base,a,[])]:=by
 refine⟨by simp[keys],?_,⟨a,rfl⟩,?_,?_,?_,?_,?_⟩
 ·intro p hp;rw[Y1.mp hp];exact hb
 ·intro p hp;rw[Y1.mp hp];rfl
 ·intro p hp;rw[Y1.mp hp];intro l hl;cases hl
 ·intro p hp;rw[Y1.mp hp];rfl
 ·intro p hp;rw[Y1.mp hp];exact .inl rfl
 ·intro j p hj
  have:j=0:=by
   have:=(ZL.mp hj).1;simp at this;omega
  subst this;cases hj;exact Zo _
def dU.add{T:Tab}{k n base:Nat}{W:Wy}(ok:aL k n T)(h:dU T k n base W){p:Nat×Addr×List Int}(hp:p∈W){l d:Int}(hl:Let k l)(e:az T p.1 l=some d)(hn:d.toNat∉keys W)(a:Addr):
  dU T k n base (W++[(d.toNat,a,p.2.2++[l])]):=by
 have hd:=eB ok e;have ed:((d.toNat:Nat):Int)=d:=by omega
 have red:cut (p.2.2++[l])=p.2.2++[l]:=by
  refine zW (h.rd p hp) λu hu=>?_;rcases h.pr p hp with z|⟨q,hq,l',e1,e2⟩
  ·rw[z]at hu;simp at hu
  ·rw[e1]at hu;have:=List.append_inj' hu rfl;have el:l'= -l:=by simpa using this.2
   subst el;have b:=gQ ok (by have:=hl.1;omega) (h.lt q hq) e2;rw[Int.neg_neg]at b;rw[e]at b;have:d=q.1:=Zf b;exact hn (by rw[this,Y9];exact Zg.mpr ⟨q,hq,rfl⟩)
 have mem:∀{x:Nat×Addr×List Int},x∈W++[(d.toNat,a,p.2.2++[l])]->x∈W\/x=(d.toNat,a,p.2.2++[l]):=λhx=>(Y6.mp hx).imp id Y1.mp;refine⟨?_,λx hx=>?_,?_,λx hx=>?_,λx hx=>?_,λx hx=>?_,λx hx=>?_,λj x hj=>?_⟩
 ·unfold keys;rw[Zd];exact qw h.nd hn
 ·rcases mem hx with z|z
  ·exact h.lt x z
  ·rw[z];show d.toNat<n;omega
 ·obtain⟨a0,z⟩:=h.hd;exact⟨a0,by rw[Zr (ZL.mp z).1];exact z⟩
 ·rcases mem hx with z|z
  ·exact h.wk x z
  ·rw[z];show aG T _ (p.2.2++[l])=some ((d.toNat:Nat):Int);rw[mE,h.wk p hp,ed];exact e
 ·rcases mem hx with z|z
  ·exact h.ll x z
  ·rw[z];intro m hm;rcases Y6.mp hm with y|y
   ·exact h.ll p hp m y
   ·rw[Y1.mp y];exact hl
 ·rcases mem hx with z|z
  ·exact h.rd x z
  ·rw[z];exact red
 ·rcases mem hx with z|z
  ·rcases h.pr x z with y|⟨q,hq,m,e1,e2⟩
   ·exact .inl y
   ·exact .inr ⟨q,Zb _ hq,m,e1,e2⟩
  ·rw[z];exact .inr ⟨p,Zb _ hp,l,rfl,by rw[e];show some d=some ((d.toNat:Nat):Int);rw[ed]⟩
 ·by_cases xA:j<W.length
  ·rw[Zr xA]at hj;exact h.ln j x hj
  ·rw[Zt (by omega)]at hj
   have z:j-W.length=0:=by
    have:=(ZL.mp hj).1;simp at this;omega
   rw[z]at hj;cases hj;obtain⟨i,hi,ei⟩:=ZD hp;have:=h.ln i p (by simp[<-ei,hi]);rw[Zn];simp only[ZF,List.length_nil];omega
structure DW(H:Hp)(d:Addr)(W:Wy):Prop where
 is:H d=some (.dK (dC W))
 wy:∀p∈W,ay H p.2.1 p.2.2
structure FW(H:Hp)(d:Addr)(W:Wy):Prop where
 is:∃o,H d=some (.cS o (.dK (dC W)))
 wy:∀p∈W,ay H p.2.1 p.2.2
def FW.same{H H':Hp}{d:Addr}{W:Wy}(h:FW H d W)(s:aa H H'):FW H' d W:=⟨let⟨o,e⟩:=h.is;⟨o,s _ _ e⟩,λp hp=>s.ints (h.wy p hp)⟩
structure WS(H0 H:Hp)(d lo:Addr)(W:Wy):Prop where
 dw:DW H d W
 io:ay H lo ((keys W).map λ(c:Nat)=>(c:Int))
 nl:∀p∈W,p.2.1≠lo
 fd:H0 d=none
 fl:H0 lo=none
 sm:aa H0 H
def WS.same{H0 H H':Hp}{d lo:Addr}{W:Wy}(h:WS H0 H d lo W)(s:aa H H'):WS H0 H' d lo W:=⟨⟨s _ _ h.dw.is,λp hp=>s.ints (h.dw.wy p hp)⟩,s.ints h.io,h.nl,h.fd,h.fl,h.sm.trans s⟩
def WS.ne{H0 H:Hp}{d lo:Addr}{W:Wy}(h:WS H0 H d lo W):d≠lo:=λz=>by
 have:=h.io;rw[<-z]at this;have e:=h.dw.is;rw[show H d=_ from this]at e;cases e
def WS.add{H0 H H':Hp}{d lo a:Addr}{W:Wy}{c:Nat}{w:List Int}(h:WS H0 H d lo W)(s:aa H H')(ha:H a=none)(ia:ay H' a w)(hc:c∉keys W):
  WS H0 (upd (upd H' d (.dK (putK (dC W) (.inl (c:Int)) (.ref a)))) lo (.lst (((keys W).map λ(c:Nat)=>(c:Int)).map V.int++[V.int c]))) d lo (W++[(c,a,w)]):=by
 have ne:=h.ne;have al:a≠lo:=λz=>by rw[z,show H lo=_ from h.io]at ha;cases ha
 have ad:a≠d:=λz=>by rw[z,h.dw.is]at ha;cases ha
 have h':=h.same s;refine⟨⟨?_,λp hp=>?_⟩,?_,λp hp=>?_,h.fd,h.fl,(h'.sm.upd h.fd).upd h.fl⟩
 ·rw[ah ne,aj,sk _ (JL hc)];unfold dC;rw[Zd];rfl
 ·rcases Y6.mp hp with z|z
  ·have n1:=h.nl p z;have i1:=h'.dw.wy p z;have n2:p.2.1≠d:=λy=>by rw[y]at i1;have e:=h'.dw.is;rw[show H' d=_ from i1]at e;cases e
   exact(i1.other n2).other n1
  ·rw[Y1.mp z];exact(ia.other ad).other al
 ·show upd _ lo _ lo=_;rw[aj];unfold keys;rw[Zd,Zd,Zd];rfl
 ·rcases Y6.mp hp with z|z
  ·exact h.nl p z
  ·rw[Y1.mp z];exact al
inductive Lu(C:Addr)(vs:List V)(H:Hp)(Q:VK)(aA:XK):Prop
 |mk (g:Addr) (k n:Nat) (T:Tab) (fp:List Addr) (_:vs=[.ref g]) (_:cj C H g k n T fp) (_:∀(l:Addr) (H':Hp),H l=none->ay H' l (lets k)->aa H H'->Q (.ref l) H'):Lu C vs H Q aA
def BC(C:Addr):Sp:=Lu C
inductive JO(C:Addr)(vs:List V)(H:Hp)(Q:VK)(aA:XK):Prop
 |mk (g:Addr) (k n:Nat) (T:Tab) (fp:List Addr) (b:Nat) (_:vs=[.ref g,.int b]) (_:cj C H g k n T fp) (_:b<n) (_:∀(d:Addr) (W:Wy) (H':Hp),H d=none->FW H' d W->dU T k n b W->era W=bF T k n b->aa H H'->Q (.ref d) H'):JO C vs H Q aA
def Ba(C:Addr):Sp:=JO C
def way(W:Pw)(c:Nat):List Int:=((W.find? λp=>p.1==c).map (·.2)).getD []
def vD{W:Pw}(nd:(W.map (·.1)).Nodup){p:Nat×List Int}(hp:p∈W):way W p.1=p.2:=by
 unfold way
 induction W with
 |nil=>cases hp
 |cons q W ih=>
  obtain⟨n1,n2⟩:=ZG.mp nd;rcases Y4.mp hp with e|e
  ·subst e;simp
  ·have:(q.1==p.1)=false:=by
    rw[ZH];intro z;exact n1 (Zg.mpr ⟨p,e,z.symm⟩)
   rw[List.find?_cons,this];exact ih n2 e
def used(W:Pw)(c:Nat)(κ:Int)(d:Nat):Bool:=decide (way W d=way W c++[κ])||decide (way W c=way W d++[-κ])
def gM(T:Tab)(W:Pw)(c j:Nat):Bool:=match cell T c j with
 |none=>false
 |some d=> !used W c ((j:Int)+1) d.toNat
def oU(T:Tab)(c j:Nat):List Int:=[(c:Int),(j:Int)+1,(cell T c j).getD 0]
def lD(T:Tab)(W:Pw)(k c:Nat):List (List Int):=((List.range k).filter (gM T W c)).map (oU T c)
def eP(T:Tab)(k:Nat)(W:Pw)(O:List Nat):List (List Int):=O.flatMap (lD T W k)
def kz(W:Pw)(t:List Int):List Int:=way W (t.getD 0 0).toNat++[t.getD 1 0]++turn (way W (t.getD 2 0).toNat)
def bw(T:Tab)(k n:Nat):List (List Int):=(eP T k (bF T k n 0) (met T k n 0)).map (kz (bF T k n 0))
def FW.get{H:Hp}{d:Addr}{W:Wy}(h:FW H d W)(nd:(keys W).Nodup){c:Nat}(hc:c∈keys W):∃a,dq H d (.int c) (some (.ref a))/\ay H a (way (era W) c):=by
 obtain⟨p,hp,rfl⟩:=Zg.mp hc;obtain⟨o,e⟩:=h.is;refine⟨p.2.1,.inl ⟨dC W,.inl (p.1:Int),.inr ⟨o,e⟩,rfl,(zV nd hp).symm⟩,?_⟩;have:way (era W) p.1=p.2.2:=vD (p:=(p.1,p.2.2)) (by rw[qo];exact nd) (Zg.mpr ⟨p,hp,rfl⟩);show ay H p.2.1 (way (era W) p.1);rw[this];exact h.wy p hp
structure Il(H:Hp)(l:Addr)(ps:Ps):Prop where
 is:H l=some (.lst (ps.map λp=>V.ref p.1))
 iv:∀p∈ps,ay H p.1 p.2
def Il.same{H H':Hp}{l:Addr}{ps:Ps}(h:Il H l ps)(s:aa H H'):Il H' l ps:=⟨s _ _ h.is,λp hp=>s.ints (h.iv p hp)⟩
def aab{H:Hp}{l q:Addr}{ps:Ps}{xs:List V}(r:List Int)(h:Tl H l ps)(hq:H q=none)(e:xs=r.map V.int:=by rfl):Tl (upd (upd H q (.tup xs)) l (.lst ((ps.map λp=>V.ref p.1)++[V.ref q]))) l (ps++[(q,r)]):=by
 subst e;have nq:l≠q:=bj h.is hq;refine⟨by rw[aj,Zd];rfl,λp hp=>?_⟩;rcases Y6.mp hp with e|e
 ·have:=h.tp p e;have n1:p.1≠l:=λz=>by rw[z,h.is]at this;cases this
  rw[ah n1,ah (bj this hq)];exact this
 ·obtain rfl:=Y1.mp e;show upd _ l _ q=_;rw[ah nq.symm,aj]
inductive JQ(vs:List V)(H:Hp)(Q:VK)(aA:XK):Prop
 |mk (d:Addr) (W:Wy) (c e:Nat) (κ:Int) (_:vs=[.ref d,.int c,.int κ,.int e]) (_:FW H d W) (_:(keys W).Nodup) (_:c∈keys W) (_:e∈keys W) (_:(∀p∈W,p.2.2.length<=1000)) (_:∀H',aa H H'->Q (.bl (used (era W) c κ e)) H'):JQ vs H Q aA
def MR:Sp:=JQ
inductive Iq(C:Addr)(vs:List V)(H:Hp)(Q:VK)(aA:XK):Prop
 |mk (g d:Addr) (k n:Nat) (T:Tab) (fp:List Addr) (W:Wy) (_:vs=[.ref g,.ref d]) (_:cj C H g k n T fp) (_:FW H d W) (_:dU T k n 0 W) (_:era W=bF T k n 0) (_:∀(l:Addr) (ps:Ps) (H':Hp),H l=none->Tl H' l ps->ps.map (·.2)=eP T k (bF T k n 0) (met T k n 0)->aa H H'->Q (.ref l) H'):Iq C vs H Q aA
def Lv(C:Addr):Sp:=Iq C
inductive JR(vs:List V)(H:Hp)(Q:VK)(aA:XK):Prop
 |mk (d t:Addr) (W:Wy) (c e:Nat) (κ:Int) (_:vs=[.ref d,.ref t]) (_:FW H d W) (_:(keys W).Nodup) (_:H t=some (.tup [.int c,.int κ,.int e])) (_:c∈keys W) (_:e∈keys W) (_:(∀p∈W,p.2.2.length<=1000)) (_:∀(l:Addr) (H':Hp),H l=none->ay H' l (kz (era W) [(c:Int),κ,(e:Int)])->aa H H'->Q (.ref l) H'):JR vs H Q aA
def MS:Sp:=JR
inductive Ir(C:Addr)(vs:List V)(H:Hp)(Q:VK)(aA:XK):Prop
 |mk (g:Addr) (k n:Nat) (T:Tab) (fp:List Addr) (_:vs=[.ref g]) (_:cj C H g k n T fp) (_:∀(l:Addr) (ps:Ps) (H':Hp),H l=none->(∀p∈ps,H p.1=none)->(l::ps.map (·.1)).Nodup->Il H' l ps->ps.map (·.2)=bw T k n->aa H H'->Q (.ref l) H'):Ir C vs H Q aA
def Lw(C:Addr):Sp:=Ir C
def dU.short{T:Tab}{k n base:Nat}{W:Wy}(h:dU T k n base W)(hn:n<=1000):∀p∈W,p.2.2.length<=1000:=λp hp=>by
 obtain⟨j,hj,e⟩:=ZD hp;have h1:=h.ln j p (by simp[<-e,hj]);have:=eE.len (n:=n) (O:=keys W) ⟨h.nd,λc hc=>by obtain⟨p,hp,rfl⟩:=Zg.mp hc;exact h.lt p hp⟩;unfold keys at this;rw[Y0]at this;omega
def kn(T:Tab)(k:Nat)(O:List Nat):List (Nat×Nat):=O.flatMap λc=>((List.range k).filter λj=>(cell T c j).isSome).map λj=>(c,j)
def abN{T:Tab}{k:Nat}{O:List Nat}{x:Nat×Nat}:x∈kn T k O↔x.1∈O/\x.2<k/\(cell T x.1 x.2).isSome=true:=by
 unfold kn;rw[List.mem_flatMap];constructor
 ·rintro⟨c,hc,h⟩;obtain⟨j,hj,rfl⟩:=Zg.mp h;obtain⟨h1,h2⟩:=ZT.mp hj;exact⟨hc,ZU.mp h1,h2⟩
 ·rintro⟨h1,h2,h3⟩;exact⟨x.1,h1,Zg.mpr ⟨x.2,ZT.mpr ⟨ZU.mpr h2,h3⟩,rfl⟩⟩
def Pa(T:Tab)(W:Pw)(x:Nat×Nat):Bool:=used W x.1 ((x.2:Int)+1) ((cell T x.1 x.2).getD 0).toNat
end My
namespace L2
open PySem PySem.Spec PyProof.Rows
end L2
namespace My
open PySem L2
def qA{T:Tab}{k:Nat}{W:Pw}{O:List Nat}{t:List Int}(h:t∈eP T k W O):∃(c j:Nat) (e:Int),t=[(c:Int),(j:Int)+1,e]/\c∈O/\j<k/\cell T c j=some e/\used W c ((j:Int)+1) e.toNat=false:=by
 unfold eP at h;obtain⟨c,hc,h⟩:=List.mem_flatMap.mp h;obtain⟨j,hj,rfl⟩:=Zg.mp h;obtain⟨h1,h2⟩:=ZT.mp hj;unfold gM at h2;cases e:cell T c j with
 |none=>rw[e]at h2;cases h2
 |some d=>
  rw[e]at h2;refine⟨c,j,d,by unfold oU;rw[e];rfl,hc,ZU.mp h1,e,?_⟩;simpa using h2
def ac2{H H':Hp}{l:Addr}{as:List Addr}{R:List (List Int)}(N:dI H H' l as (R.map λr=>r.map some)):∃ps:Ps,ps.map (·.2)=R/\ps.map (·.1)=as/\Il H' l ps:=by
 have len:as.length=R.length:=by rw[N.tb.len,Y0]
 refine⟨as.zip R,List.map_snd_zip (by omega),List.map_fst_zip (by omega),?_,λp hp=>?_⟩
 ·have:(as.zip R).map (λp=>V.ref p.1)=as.map V.ref:=by
   have z:=ZK (f:=Prod.fst) (g:=V.ref) (l:=as.zip R);rw[List.map_fst_zip (by omega)]at z;exact z.symm
  rw[this];exact N.tb.is
 ·obtain⟨i,hi,e⟩:=ZD hp;have h1:i<as.length:=by rw[List.length_zip]at hi;omega
  have h2:i<R.length:=by rw[List.length_zip]at hi;omega
  have:=N.tb.rw i as[i] (R[i].map some) (by simp[h1]) (by simp[h2]);rw[<-e,List.getElem_zip];show H' as[i]=some (.lst (R[i].map V.int));rw[show H' as[i]=_ from this,ZK]
  rfl
def Xb{H:Hp}{a:Addr}{ns:List Int}(h:ay H a ns):Row H a (ns.map some):=by
 show H a=_;rw[show H a=_ from h,ZK];rfl
def Xc{k n:Nat}{T:Tab}(ok:aL k n T){c:Int}(hc:0<=c/\c<n){st:List Int}{l d:Int}(hl:l≠0)(h:aG T (some c) (st.reverse++[l])=some d):aG T (some c) (push st l).reverse=some d:=by
 cases st with
 |nil=>exact h
 |cons t r=>
  show aG T (some c) (if t= -l then r else l::t::r).reverse=some d;split
  ·rename_i e;subst e;rw[List.reverse_cons,ZZ,ke]at h;cases q:aG T (some c) r.reverse with
   |none=>rw[q,fN]at h;cases h
   |some x=>
    rw[q]at h;have hx:=iZ ok hc q;show some x=some d;have h:(az T x.toNat (-l)).bind (λy=>az T y.toNat l)=some d:=h;cases q2:az T x.toNat (-l)with
    |none=>rw[q2]at h;cases h
    |some y=>
     rw[q2]at h;have h:az T y.toNat l=some d:=h;have hy:=eB ok q2;have b:=gQ ok (c:=x.toNat) (d:=y.toNat) (l:= -l) (by omega) (by omega) (by rw[q2];congr 1;omega);rw[Int.neg_neg,h]at b;rw[Zf b];congr 1;omega
  ·rw[List.reverse_cons]at *;rw[List.reverse_cons];exact h
def JS{k n:Nat}{T:Tab}(ok:aL k n T){c:Int}(hc:0<=c/\c<n):∀(w st:List Int) {d:Int},(∀l∈w,l≠0)->aG T (some c) (st.reverse++w)=some d->aG T (some c) (w.foldl push st).reverse=some d
 |[],st,d,_,h=>by simpa using h
 |l::w,st,d,hl,h=>by
  refine JS ok hc w (push st l) (λm hm=>hl m (Y3 _ hm)) ?_;rw[show st.reverse++l::w=(st.reverse++[l])++w by simp,ke]at h;rw[ke];cases q:aG T (some c) (st.reverse++[l])with
  |none=>rw[q,fN]at h;cases h
  |some x=>rw[q]at h;rw[Xc ok hc (hl l (Y8 ..)) q];exact h
def aac{k n:Nat}{T:Tab}(ok:aL k n T){c d:Int}(hc:0<=c/\c<n){w:List Int}(hl:∀l∈w,l≠0)(h:aG T (some c) w=some d):aG T (some c) (cut w)=some d:=JS ok hc w [] hl h
def vi{k n:Nat}{T:Tab}(ok:aL k n T):∀(w:List Int) {c d:Int},0<=c/\c<n->(∀l∈w,l≠0)->aG T (some c) w=some d->aG T (some d) (turn w)=some c
 |[],c,d,_,_,h=>by cases h;rfl
 |l::w,c,d,hc,hl,h=>by
  rw[dG]at h;cases q:az T c.toNat l with
  |none=>rw[q,fN]at h;cases h
  |some x=>
   rw[q]at h;have hx:=eB ok q;have:=vi ok w hx (λm hm=>hl m (Y3 _ hm)) h;rw[HF,ke,this];show az T x.toNat (-l)=some c;have b:=gQ ok (c:=c.toNat) (d:=x.toNat) (hl l (Y8 ..)) (by omega) (by rw[q];congr 1;omega);rw[b];congr 1;omega
def JT{k:Nat}{w:List Int}(h:∀l∈w,Let k l):∀l∈turn w,Let k l:=λl hl=>by
 obtain⟨d,hd,rfl⟩:=Zg.mp hl;have:=h d (List.mem_reverse.mp hd);unfold Let at this⊢;omega
def dm(W:Pw):Wy:=W.map λp=>(p.1,0,p.2)
def abO(W:Pw):era (dm W)=W:=by
 unfold era dm;rw[ZK];exact List.map_id W
def vE(W:Pw):keys (dm W)=W.map (·.1):=by rw[<-qo,abO]
def Xd{k n b:Nat}{T:Tab}(ok:aL k n T){W:Pw}{p:Nat×List Int}{l:Int}(hp:p∈W)(hl:Let k l)(h:dU T k n b (dm W)):dU T k n b (dm (gi T p W l))/\p∈gi T p W l:=by
 unfold gi;split
 ·exact⟨h,hp⟩
 ·rename_i d e;split
  ·exact⟨h,hp⟩
  ·rename_i q;have:=h.add ok (p:=(p.1,0,p.2)) (Zg.mpr ⟨p,hp,rfl⟩) hl e (by rw[vE];exact q) 0;refine⟨?_,Zb _ hp⟩;unfold dm at this⊢;rw[Zd];exact this
def Iu{k n b:Nat}{T:Tab}(ok:aL k n T){p:Nat×List Int}:∀(ls:List Int) {W:Pw},(∀l∈ls,Let k l)->p∈W->dU T k n b (dm W)->dU T k n b (dm (ls.foldl (gi T p) W))
 |[],_,_,_,h=>h
 |l::ls,W,hl,hp,h=>by
  obtain⟨h1,h2⟩:=Xd ok hp (hl l (Y8 ..)) h;exact Iu ok ls (λm hm=>hl m (Y3 _ hm)) h2 h1
def JU{k n b:Nat}{T:Tab}(ok:aL k n T):∀(f i:Nat) {W:Pw},dU T k n b (dm W)->dU T k n b (dm (m7 T k f i W))
 |0,_,_,h=>h
 |f+1,i,W,h=>by
  by_cases hi:i<W.length
  ·rw[AE hi];refine JU ok f (i+1) (Iu ok (lets k) (λl hl=>j6.mp hl) ?_ h);simp[List.getD,hi]
  ·rw[zy (by omega)];exact h
def su{k n b:Nat}{T:Tab}(ok:aL k n T)(hb:b<n):dU T k n b (dm (bF T k n b)):=JU ok _ _ (dU.zero hb 0)
def TU{k n b:Nat}{T:Tab}(ok:aL k n T)(hb:b<n):∀c∈keys (dm (bF T k n b)),∀l,Let k l->∀d,az T c l=some d->d.toNat∈keys (dm (bF T k n b)):=by
 rw[vE,j7];exact(cL ok hb).2.2
def Xe{w:List Int}{l:Int}(h:cut (w++[l])=w++[l]):cut w=w/\∀b,w≠b++[-l]:=by
 rw[JM]at h;have fl:=Je w [];cases e:w.foldl push []with
 |nil=>
  rw[e]at h
  have:w=[]:=by
   have:=congrArg List.length h;simp[push]at this;exact this
  subst this;exact⟨rfl,λb z=>by simp at z⟩
 |cons t r=>
  rw[e]at h;have h:(if t= -l then r else l::t::r).reverse=w++[l]:=h;rw[e]at fl;by_cases ht:t= -l
  ·rw[if_pos ht]at h;have:=congrArg List.length h;simp at this fl;omega
  ·rw[if_neg ht]at h;rw[List.reverse_cons]at h;have h1:=List.append_inj' h rfl;have cw:cut w=w:=by unfold cut;rw[e];exact h1.1
   refine⟨cw,λb z=>?_⟩;have:=JN cw;rw[e,z]at this;simp at this;exact ht this.1
def Gf:∀(n:Nat) (w u:List Int),w.length=n->cut u=u->cut w=w->(∀a b x,u≠a++[x]\/w≠b++[x])->cut (u++turn w)=u++turn w
 |0,w,u,hn,hu,_,_=>by
  have:w=[]:=List.length_eq_zero_iff.mp hn;subst this;simpa[turn]using hu
 |n+1,w,u,hn,hu,hw,hx=>by
  have kF:w≠[]:=λz=>by rw[z]at hn;simp at hn
  obtain⟨w',l,rfl⟩:∃w' l,w=w'++[l]:=⟨w.dropLast,w.getLast kF,(List.dropLast_concat_getLast kF).symm⟩;obtain⟨c1,c2⟩:=Xe hw
  have um:cut (u++[-l])=u++[-l]:=zW hu λa z=>by
   rw[Int.neg_neg]at z;rcases hx a w' l with q|q
   ·exact q z
   ·exact q rfl
  have e:u++turn (w'++[l])=(u++[-l])++turn w':=by rw[yZ];simp[turn]
  rw[e];refine Gf n w' (u++[-l]) (by simpa using hn) um c1 λa b x=>?_;by_cases q:u++[-l]=a++[x]
  ·right
   have:=(List.append_inj' q rfl).2;have: -l=x:=by simpa using this
   rw[<-this];exact c2 b
  ·exact .inl q
structure abP(T:Tab)(k m:Nat)(r:List Int):Prop where
 rd:cut r=r
 ne:r≠[]
 hm:aG T (some 0) r=some 0
 ll:∀l∈r,Let k l
 ln:r.length<=2*m+1
def mM{k n:Nat}{T:Tab}(ok:aL k n T)(hn:0<n){r:List Int}(hr:r∈bw T k n):abP T k (met T k n 0).length r:=by
 unfold bw at hr;obtain⟨t,ht,rfl⟩:=Zg.mp hr;obtain⟨c,j,e,rfl,uo,hj,ec,hu⟩:=qA ht;have wi:=su ok hn;have cl:=TU ok hn;have r0:=ok.bA _ _ _ ec;obtain⟨m,rfl⟩:∃m:Nat,e=(m:Int):=⟨e.toNat,by omega⟩;have hs:az T c ((j:Int)+1)=some (m:Int):=by unfold az;rw[if_pos (by omega),show((j:Int)+1-1).toNat=j by omega];exact ec
 have Pb:c∈keys (dm (bF T k n 0)):=by rw[vE,j7];exact uo
 have hmK:m∈keys (dm (bF T k n 0)):=cl c Pb _ ⟨by omega,by omega,by omega⟩ _ hs;obtain⟨p,hp,ep⟩:=Zg.mp Pb;obtain⟨q,hq,eq⟩:=Zg.mp hmK;have ep:p.1=c:=ep;have eq:q.1=m:=eq;have nd:((bF T k n 0).map (·.1)).Nodup:=by rw[<-vE];exact wi.nd
 have wy:∀x∈dm (bF T k n 0),way (bF T k n 0) x.1=x.2.2:=λx hx=>by
  obtain⟨y,hy,rfl⟩:=Zg.mp hx;exact vD nd hy
 have Pc:∀x∈dm (bF T k n 0),∀y∈dm (bF T k n 0),x.1=y.1->x=y:=by
  intro x hx y hy e;obtain⟨i,hi,ei⟩:=ZD hx;obtain⟨j,hj,ej⟩:=ZD hy
  have:i=j:=by
   have h1:(keys (dm (bF T k n 0)))[i]'(by unfold keys;rw[Y0];exact hi)=(keys (dm (bF T k n 0)))[j]'(by unfold keys;rw[Y0];exact hj):=by
    unfold keys;simp only[List.getElem_map,ei,ej,e]
   exact(List.getElem_inj wi.nd).mp h1
  subst this;rw[<-ei, <-ej]
 have hr:kz (bF T k n 0) [(c:Int),(j:Int)+1,(m:Int)]=p.2.2++[(j:Int)+1]++turn q.2.2:=by
  show way (bF T k n 0) (c:Int).toNat++[(j:Int)+1]++turn (way (bF T k n 0) (m:Int).toNat)=_;rw[Y9,Y9, <-ep, <-eq,wy p hp,wy q hq]
 rw[hr];unfold used at hu;rw[Y9, <-ep, <-eq,wy p hp,wy q hq,Bool.or_eq_false_iff]at hu;have u1:=of_decide_eq_false hu.1;have u2:=of_decide_eq_false hu.2
 have c1:cut (p.2.2++[(j:Int)+1])=p.2.2++[(j:Int)+1]:=by
  refine zW (wi.rd p hp) λu um=>?_;rcases wi.pr p hp with z|⟨x,hx,l',e1,e2⟩
  ·rw[z]at um;simp at um
  ·have Dh:=e1;rw[um]at e1;have:=List.append_inj' e1 rfl;have el: -((j:Int)+1)=l':=by simpa using this.2
   rw[<-el]at e2;have b:=gQ ok (by omega) (wi.lt x hx) e2;rw[Int.neg_neg,ep,hs]at b;have:q=x:=Pc q hq x hx (by have:=Zf b;omega);rw[this]at u2;exact u2 (by rw[Dh,el])
 refine⟨Gf _ _ _ rfl c1 (wi.rd q hq) λa b x=>?_,by simp,?_,λl hl=>?_,?_⟩
 ·by_cases z:p.2.2++[(j:Int)+1]=a++[x]
  ·right
   have ex:(j:Int)+1=x:=by simpa using(List.append_inj' z rfl).2
   intro hb;rcases wi.pr q hq with y|⟨x',rp,l',e1,e2⟩
   ·rw[y]at hb;simp at hb
   ·have Dh:=e1;rw[hb]at e1;have el:x=l':=by simpa using(List.append_inj' e1 rfl).2
    rw[<-el, <-ex]at e2;have b1:=gQ ok (by omega) (wi.lt x' rp) e2;have b2:=gQ ok (c:=c) (d:=q.1) (l:=(j:Int)+1) (by omega) (by rw[<-ep];exact wi.lt p hp) (by rw[hs,eq]);rw[b1]at b2;have:p=x':=Pc p hp x' rp (by have:=Zf b2;omega);exact u1 (by rw[Dh,this, <-el, <-ex])
  ·exact .inl z
 ·rw[ke,mE];have h1:aG T (some 0) p.2.2=some (p.1:Int):=wi.wk p hp;rw[h1,ep];show aG T (az T c ((j:Int)+1)) (turn q.2.2)=some 0;rw[hs, <-eq];exact vi ok q.2.2 (c:=0) ⟨by omega,by omega⟩ (λl hl=>(wi.ll q hq l hl).1) (wi.wk q hq)
 ·rcases Y6.mp hl with z|z
  ·rcases Y6.mp z with z|z
   ·exact wi.ll p hp l z
   ·rw[Y1.mp z];exact⟨by omega,by omega,by omega⟩
  ·exact JT (wi.ll q hq) l z
 ·have ln:∀x∈dm (bF T k n 0),x.2.2.length+1<=(met T k n 0).length:=λx hx=>by
   obtain⟨i,hi,ei⟩:=ZD hx;have h1:=wi.ln i x (by simp[<-ei,hi]);have h3:(dm (bF T k n 0)).length=(met T k n 0).length:=by rw[<-j7];simp[dm]
   omega
  have h1:=ln p hp;have h2:=ln q hq;simp only[Zn,ZF,List.length_nil,SN];omega
inductive MT(vs:List V)(H:Hp)(Q:VK)(aA:XK):Prop
 |mk (l:Addr) (ps:Ps) (_:vs=[.ref l]) (_:Il H l ps) (_:(∀p∈ps,cut p.2=p.2/\p.2≠[]/\p.2.length<=10000)) (_:∀H',aa H H'->Q (.bl true) H'):MT vs H Q aA
def Of:Sp:=MT
abbrev act(w st:List Int):List Int:=w.foldl push st
def AF(u v st:List Int):act (u++v) st=act v (act u st):=List.foldl_append
def snoc_ind{p:List Int->Prop}(h0:p [])(h1:∀u x,p u->p (u++[x]))(u:List Int):p u:=by
 have:∀v:List Int,p v.reverse:=λv=>by
  induction v with
  |nil=>exact h0
  |cons x v ih=>rw[List.reverse_cons];exact h1 _ _ ih
 have h:=this u.reverse
 rwa [List.reverse_reverse]at h
def Lx(u:List Int):∀{st:List Int},Red st->act (cut u) st=act u st:=by
 refine snoc_ind (p:=λu=>∀{st:List Int},Red st->act (cut u) st=act u st) (λ{st} _=>rfl) (λu x ih {st} h=>?_) u;have e:cut (u++[x])=(push (act u []) x).reverse:=by unfold cut;rw[List.foldl_append];rfl
 rw[e,AF];have ih:act (act u []).reverse st=act u st:=ih h;show act (push (act u []) x).reverse st=push (act u st) x;rw[<-ih];cases hs:act u []with
 |nil=>rfl
 |cons t r=>
  show act (if t= -x then r else x::t::r).reverse st=_;by_cases hx:t= -x
  ·rw[if_pos hx];have:act (t::r).reverse st=push (act r.reverse st) t:=by rw[List.reverse_cons,AF];rfl
   rw[this];have rp:x= -t:=by omega
   rw[rp,Ji (vc _ h)]
  ·rw[if_neg hx,List.reverse_cons (a:=x),AF]
   rfl
def vF(u v:List Int):cut (cut u++v)=cut (u++v):=by
 have:=Lx u wC;unfold cut at this⊢;rw[List.foldl_append,List.foldl_append];exact congrArg (λs=>(v.foldl push s).reverse) this
def TV{l:List Int}(h:Red l.reverse):cut l=l:=by
 unfold cut;have:=Jh l.reverse h;rw[List.reverse_reverse]at this;rw[this,List.reverse_reverse]
def aad(w:List Int):Red (cut w).reverse:=by
 unfold cut;rw[List.reverse_reverse];exact vc w wC
def sf:∀{u v:List Int},Red (u++v)↔Red u/\Red v/\∀a b,u.getLast?=some a->v.head?=some b->b≠ -a
 |[],v=>by simp[Red]
 |[x],v=>by
  cases v with
  |nil=>simp[Red]
  |cons b r=>
   show(b≠ -x/\Red (b::r))↔_;simp[Red];exact And.comm
 |x::y::u,v=>by
  have ih:=@sf (y::u) v;show(y≠ -x/\Red (y::u++v))↔(y≠ -x/\Red (y::u))/\_;rw[ih];simp only[List.getLast?_cons_cons];constructor
  ·rintro⟨a,b,c,d⟩;exact⟨⟨a,b⟩,c,d⟩
  ·rintro⟨⟨a,b⟩,c,d⟩;exact⟨a,b,c,d⟩
def AG:∀{l:List Int},Red l->Red l.reverse
 |[],_=>trivial
 |x::l,h=>by
  rw[List.reverse_cons,sf];refine⟨AG h.tail,trivial,λa b e1 e2=>?_⟩;rw[List.getLast?_reverse]at e1;cases l with
  |nil=>simp at e1
  |cons y r=>
   simp at e1 e2;have:=h.1;omega
def aae{l:List Int}(h:Red l):cut l=l:=TV (AG h)
def Iv(w:List Int):Red (cut w):=by
 have:=AG (aad w)
 rwa [List.reverse_reverse]at this
def JV(u v:List Int):cut (u++cut v)=cut (u++v):=by
 have h:=Lx v (st:=u.foldl push []) (vc u wC);unfold act at h;unfold cut at h⊢;rw[List.foldl_append,List.foldl_append,h]
def aaf(u v w:List Int):cut (u++cut v++w)=cut (u++v++w):=by
 rw[<-vF (u++cut v),JV,vF]
def JW{u v w:List Int}(h:cut v=[]):cut (u++v++w)=cut (u++w):=by
 rw[<-aaf,h,ZY]
def nJ(L:List (List Int))(c:Nat)(κ:Int):Option Nat:=L.findIdx? λt=>decide (t.getD 0 0=(c:Int)/\t.getD 1 0=κ)
def eQ(T:Tab)(L:List (List Int))(c:Nat)(l:Int):List Int:=
 if 0<l then(match nJ L c l with|some i=>[(i:Int)+1]|none=>[])
 else(match az T c l with|some d=>(match nJ L d.toNat (-l)with|some i=>[-((i:Int)+1)]|none=>[])|none=>[])
def cp(T:Tab)(L:List (List Int)):Nat->List Int->List Int
 |_,[]=>[]
 |c,l::w=>eQ T L c l++cp T L ((az T c l).getD 0).toNat w
def Ly{k n:Nat}{T:Tab}(ok:aL k n T)(L:List (List Int)):∀(u v:List Int) {c d:Nat},aG T (some (c:Int)) u=some (d:Int)->cp T L c (u++v)=cp T L c u++cp T L d v
 |[],v,c,d,h=>by
  have:c=d:=by have:=Zf h;omega
  subst this;rfl
 |l::u,v,c,d,h=>by
  rw[dG,Y9]at h;cases e:az T c l with
  |none=>rw[e,fN]at h;cases h
  |some x=>
   rw[e]at h;have hx:=eB ok e;obtain⟨m,rfl⟩:∃m:Nat,x=(m:Int):=⟨x.toNat,by omega⟩;show eQ T L c l++cp T L ((az T c l).getD 0).toNat (u++v)=(eQ T L c l++cp T L ((az T c l).getD 0).toNat u)++cp T L d v;rw[e];show eQ T L c l++cp T L (m:Int).toNat (u++v)=(eQ T L c l++cp T L (m:Int).toNat u)++cp T L d v;rw[Y9,Ly ok L u v h,ZZ]
def rowOf(R:List (List Int))(x:Int):List Int:=if 0<x then R.getD (x-1).toNat []else turn (R.getD (-x-1).toNat [])
def jv(R:List (List Int))(w:List Int):List Int:=w.flatMap (rowOf R)
def aag(R:List (List Int))(u v:List Int):jv R (u++v)=jv R u++jv R v:=List.flatMap_append
def MU(T:Tab)(k:Nat)(W:Pw):∀O:List Nat,eP T k W O=((kn T k O).filter λx=> !Pa T W x).map λx=>oU T x.1 x.2
 |[]=>rfl
 |c::O=>by
  show lD T W k c++eP T k W O=((((List.range k).filter λj=>(cell T c j).isSome).map (λj=>(c,j))++kn T k O).filter _).map _;rw[MU T k W O,List.filter_append,Zd];congr 1;unfold lD;rw[List.filter_map,ZK,List.filter_filter];show _=List.map (oU T c) _;congr 1;refine List.filter_congr λj _=>?_;unfold gM Pa;simp only[Function.comp];cases e:cell T c j<;>simp
abbrev LL(T:Tab)(k n:Nat):List (List Int):=eP T k (bF T k n 0) (met T k n 0)
structure Tree(T:Tab)(k n:Nat):Prop where
 ok:aL k n T
 hn:0<n
section
variable {T:Tab}{k n:Nat}
def Tree.nd(t:Tree T k n):(met T k n 0).Nodup:=(cL t.ok t.hn).1.nd
def Tree.cl(t:Tree T k n){c:Nat}(hc:c∈met T k n 0){l:Int}(hl:Let k l){d:Nat}(e:az T c l=some (d:Int)):d∈met T k n 0:=(cL t.ok t.hn).2.2 c hc l hl _ e
def Tree.lt(t:Tree T k n){c:Nat}(hc:c∈met T k n 0):c<n:=(cL t.ok t.hn).1.lt c hc
def Tree.zero(t:Tree T k n):0∈met T k n 0:=(cL t.ok t.hn).2.1
abbrev wy(T:Tab)(k n:Nat)(c:Nat):List Int:=way (bF T k n 0) c
def Tree.ent(t:Tree T k n){c:Nat}(hc:c∈met T k n 0):(c,0,wy T k n c)∈dm (bF T k n 0):=by
 have h:c∈(bF T k n 0).map (·.1):=by rw[j7];exact hc
 obtain⟨p,hp,rfl⟩:=Zg.mp h;have nd:((bF T k n 0).map (·.1)).Nodup:=by rw[j7];exact t.nd
 refine Zg.mpr ⟨p,hp,?_⟩;show(p.1,0,p.2)=(p.1,0,way (bF T k n 0) p.1);rw[vD nd hp]
def Tree.of(t:Tree T k n){p:Nat×Addr×List Int}(hp:p∈dm (bF T k n 0)):p.1∈met T k n 0/\p.2.2=wy T k n p.1:=by
 obtain⟨q,hq,rfl⟩:=Zg.mp hp;have nd:((bF T k n 0).map (·.1)).Nodup:=by rw[j7];exact t.nd
 exact⟨by rw[<-j7];exact Zg.mpr ⟨q,hq,rfl⟩,(vD nd hq).symm⟩
def Tree.wk(t:Tree T k n){c:Nat}(hc:c∈met T k n 0):aG T (some ((0:Nat):Int)) (wy T k n c)=some (c:Int):=(su t.ok t.hn).wk _ (t.ent hc)
def Tree.ll(t:Tree T k n){c:Nat}(hc:c∈met T k n 0):∀l∈wy T k n c,Let k l:=(su t.ok t.hn).ll _ (t.ent hc)
def Tree.pr(t:Tree T k n){c:Nat}(hc:c∈met T k n 0):wy T k n c=[]\/∃q∈met T k n 0,∃l,wy T k n c=wy T k n q++[l]/\az T q l=some (c:Int):=by
 rcases(su t.ok t.hn).pr _ (t.ent hc)with z|⟨q,hq,l,e1,e2⟩
 ·exact .inl z
 ·obtain⟨h1,h2⟩:=t.of hq;exact .inr ⟨q.1,h1,l,by rw[<-h2];exact e1,e2⟩
def Tree.Di(t:Tree T k n):wy T k n 0=[]:=by
 obtain⟨a,h⟩:=(su t.ok t.hn).hd;exact(t.of (Y5 h)).2.symm
def JX{L:List (List Int)}{c:Nat}{κ:Int}{i:Nat}(h:nJ L c κ=some i):∃x,L[i]?=some x/\x.getD 0 0=(c:Int)/\x.getD 1 0=κ:=by
 unfold nJ at h;obtain⟨hi,h1,_⟩:=List.findIdx?_eq_some_iff_getElem.mp h;exact⟨L[i],by simp[hi],of_decide_eq_true h1⟩
def JY{L:List (List Int)}{c:Nat}{κ:Int}(h:nJ L c κ=none):∀x∈L,¬(x.getD 0 0=(c:Int)/\x.getD 1 0=κ):=λx hx z=>by
 unfold nJ at h;have:=List.findIdx?_eq_none_iff.mp h x hx;rw[ZN z]at this;cases this
def MV{c:Nat}{j:Nat}{e:Int}:[(c:Int),(j:Int)+1,e]∈LL T k n↔c∈met T k n 0/\j<k/\cell T c j=some e/\used (bF T k n 0) c ((j:Int)+1) e.toNat=false:=by
 constructor
 ·intro h;obtain⟨c',j',e',h1,h2,h3,h4,h5⟩:=qA h;have a1:c=c':=by have:=(List.cons.inj h1).1;omega
  have a2:j=j':=by have:=(List.cons.inj (List.cons.inj h1).2).1;omega
  have a3:e=e':=(List.cons.inj (List.cons.inj (List.cons.inj h1).2).2).1;subst a1 a2 a3;exact⟨h2,h3,h4,h5⟩
 ·rintro⟨h1,h2,h3,h4⟩;rw[LL,MU];refine Zg.mpr ⟨(c,j),ZT.mpr ⟨abN.mpr ⟨h1,h2,by show(cell T c j).isSome=true;rw[h3];rfl⟩,?_⟩,?_⟩
  ·show(!used (bF T k n 0) c ((j:Int)+1) ((cell T c j).getD 0).toNat)=true;rw[h3];show(!used (bF T k n 0) c ((j:Int)+1) e.toNat)=true;rw[h4];rfl
  ·unfold oU;rw[h3];rfl
def TSt(T:Tab)(k n c:Nat)(l:Int)(d:Nat):Prop:=wy T k n d=wy T k n c++[l]\/wy T k n c=wy T k n d++[-l]
def Tree.eQ(t:Tree T k n){c d:Nat}{l:Int}(hc:c∈met T k n 0)(hl:Let k l)(e:az T c l=some (d:Int)):
  (eQ T (LL T k n) c l=[]/\TSt T k n c l d)\/(∃i:Nat,0<l/\eQ T (LL T k n) c l=[(i:Int)+1]/\(LL T k n)[i]?=some [(c:Int),l,(d:Int)])\/∃i:Nat,l<0/\eQ T (LL T k n) c l=[-((i:Int)+1)]/\(LL T k n)[i]?=some [(d:Int), -l,(c:Int)]:=by
 obtain⟨l0,l1,l2⟩:=hl;by_cases hp:0<l
 ·have ec:cell T c (l-1).toNat=some (d:Int):=by unfold az at e;rw[if_pos hp]at e;exact e
  have el:(((l-1).toNat:Nat):Int)+1=l:=by omega
  unfold My.eQ;rw[if_pos hp];cases q:My.nJ (LL T k n) c l with
  |some i=>
   obtain⟨x,hx,x0,x1⟩:=JX q;obtain⟨c',j',e',rfl,_,_,h4,_⟩:=qA (Y5 hx);have a1:c'=c:=by have:(c':Int)=c:=x0;omega
   have a2:(j':Int)+1=l:=x1;have a3:j'=(l-1).toNat:=by omega
   rw[a1,a3,ec]at h4;have a4:e'=d:=(Zf h4).symm;rw[a1,a2,a4]at hx;exact .inr (.inl ⟨i,hp,rfl,hx⟩)
  |none=>
   refine .inl ⟨rfl,?_⟩;cases u:used (bF T k n 0) c l d with
   |true=>
    unfold used at u;rw[Bool.or_eq_true]at u;exact u.imp of_decide_eq_true of_decide_eq_true
   |false=>
    have:=MV (T:=T) (k:=k) (n:=n) (c:=c) (j:=(l-1).toNat) (e:=(d:Int));rw[el]at this;have m:=this.mpr ⟨hc,by omega,ec,by rw[Y9];exact u⟩;exact absurd ⟨rfl,rfl⟩ (JY q _ m)
 ·have ec:cell T d (-l-1).toNat=some (c:Int):=by
   unfold az at e;rw[if_neg hp]at e;obtain⟨m,h1,h2,h3⟩:=(eX t.ok).mp e;have:m=d:=by omega
   rw[this]at h3;exact h3
  have hd:d∈met T k n 0:=t.cl hc ⟨l0,l1,l2⟩ e;have el:(((-l-1).toNat:Nat):Int)+1= -l:=by omega
  unfold My.eQ;rw[if_neg hp,e];dsimp only;rw[Y9];cases q:My.nJ (LL T k n) d (-l)with
  |some i=>
   obtain⟨x,hx,x0,x1⟩:=JX q;obtain⟨c',j',e',rfl,_,_,h4,_⟩:=qA (Y5 hx);have a1:c'=d:=by have:(c':Int)=d:=x0;omega
   have a2:(j':Int)+1= -l:=x1;have a3:j'=(-l-1).toNat:=by omega
   rw[a1,a3,ec]at h4;have a4:e'=c:=(Zf h4).symm;rw[a1,a2,a4]at hx;exact .inr (.inr ⟨i,by omega,rfl,hx⟩)
  |none=>
   refine .inl ⟨rfl,?_⟩;cases u:used (bF T k n 0) d (-l) c with
   |true=>
    unfold used at u;rw[Bool.or_eq_true,Int.neg_neg]at u;exact u.symm.imp of_decide_eq_true of_decide_eq_true
   |false=>
    have:=MV (T:=T) (k:=k) (n:=n) (c:=d) (j:=(-l-1).toNat) (e:=(c:Int));rw[el]at this;have m:=this.mpr ⟨hd,by omega,ec,by rw[Y9];exact u⟩;exact absurd ⟨rfl,rfl⟩ (JY q _ m)
def Tree.row(t:Tree T k n){i:Nat}(hi:i<(bw T k n).length):∃c d:Nat,∃l:Int,(LL T k n)[i]?=some [(c:Int),l,(d:Int)]/\c∈met T k n 0/\d∈met T k n 0/\Let k l/\0<l/\az T c l=some (d:Int)/\(bw T k n).getD i []=wy T k n c++[l]++turn (wy T k n d):=by
 have cA:i<(LL T k n).length:=by unfold bw at hi;rwa [Y0]at hi
 have hx:(LL T k n)[i]?=some (LL T k n)[i]:=by simp[cA]
 obtain⟨c,j,e,h1,h2,h3,h4,h5⟩:=qA (Y5 hx);have r:=t.ok.bA _ _ _ h4;obtain⟨d,rfl⟩:∃d:Nat,e=(d:Int):=⟨e.toNat,by omega⟩;have hs:az T c ((j:Int)+1)=some (d:Int):=by unfold az;rw[if_pos (by omega),show((j:Int)+1-1).toNat=j by omega];exact h4
 have hl:Let k ((j:Int)+1):=⟨by omega,by omega,by omega⟩;refine⟨c,d,(j:Int)+1,by rw[hx,h1],h2,t.cl h2 hl hs,hl,by omega,hs,?_⟩;unfold bw;rw[List.getD,Ze,hx,h1];show way _ (c:Int).toNat++[(j:Int)+1]++turn (way _ (d:Int).toNat)=_;rw[Y9,Y9]
def Co(m:Nat)(w:List Int):Prop:=∀x∈w,x≠0/\ -(m:Int)<=x/\x<=m
end
section
variable {T:Tab}{k n:Nat}
def zX:(bw T k n).length=(LL T k n).length:=by unfold bw;rw[Y0]
def Tree.word(t:Tree T k n):∀(w:List Int) {c d:Nat},c∈met T k n 0->(∀l∈w,Let k l)->aG T (some (c:Int)) w=some (d:Int)->Co (bw T k n).length (cp T (LL T k n) c w)
 |[],c,d,_,_,_=>λx hx=>nomatch hx
 |l::w,c,d,hc,hl,h=>by
  rw[dG,Y9]at h;have nK:=hl l (Y8 ..);cases e:az T c l with
  |none=>rw[e,fN]at h;cases h
  |some x=>
   rw[e]at h;have hx:=eB t.ok e;obtain⟨m,rfl⟩:∃m:Nat,x=(m:Int):=⟨x.toNat,by omega⟩;have ih:=t.word w (t.cl hc nK e) (λa ha=>hl a (Y3 _ ha)) h;intro y hy;have hy:y∈My.eQ T (LL T k n) c l++cp T (LL T k n) ((az T c l).getD 0).toNat w:=hy;rw[e]at hy;have hy:y∈My.eQ T (LL T k n) c l++cp T (LL T k n) (m:Int).toNat w:=hy;rw[Y9]at hy;rcases Y6.mp hy with z|z
   ·rw[zX];rcases t.eQ hc nK e with⟨z1,_⟩|⟨i,p1,z1,x1⟩|⟨i,p1,z1,x1⟩
    ·rw[z1]at z;cases z
    ·rw[z1]at z;have hi:=(ZL.mp x1).1;rw[Y1.mp z];omega
    ·rw[z1]at z;have hi:=(ZL.mp x1).1;rw[Y1.mp z];omega
   ·exact ih y z
def Tree.B(t:Tree T k n)(a:Nat)(ha:a∈met T k n 0):∀(w:List Int) {b:Nat},(∀l∈w,Let k l)->aG T (some (a:Int)) w=some (b:Int)->b∈met T k n 0/\cut (wy T k n a++w++turn (wy T k n b))=cut (My.jv (bw T k n) (cp T (LL T k n) a w)):=by
 refine snoc_ind (p:=λw=>∀{b:Nat},(∀l∈w,Let k l)->aG T (some (a:Int)) w=some (b:Int)->b∈met T k n 0/\cut (wy T k n a++w++turn (wy T k n b))=cut (My.jv (bw T k n) (cp T (LL T k n) a w))) (λ{b} _ h=>?_) (λw l ih {b} hl h=>?_)
 ·have:a=b:=by have:=Zf h;omega
  subst this;refine⟨ha,?_⟩;rw[ZY,uU];rfl
 ·have nK:Let k l:=hl l (by simp);rw[mE]at h;cases q:aG T (some (a:Int)) w with
  |none=>rw[q]at h;cases h
  |some y=>
   have hy:=iZ t.ok ⟨by omega,by have:=t.lt ha;omega⟩ q;obtain⟨b',rfl⟩:∃m:Nat,y=(m:Int):=⟨y.toNat,by omega⟩;rw[q]at h;have h:az T (b':Int).toNat l=some (b:Int):=h;rw[Y9]at h;obtain⟨rA,e⟩:=ih (λm hm=>hl m (Zb _ hm)) q;have hb:=t.cl rA nK h;refine⟨hb,?_⟩
   have es:cp T (LL T k n) a (w++[l])=cp T (LL T k n) a w++My.eQ T (LL T k n) b' l:=by
    rw[Ly t.ok _ _ _ q];show _++(My.eQ T (LL T k n) b' l++[])=_;rw[ZY]
   have lhs:cut (wy T k n a++(w++[l])++turn (wy T k n b))=cut (My.jv (bw T k n) (cp T (LL T k n) a w)++(wy T k n b'++[l]++turn (wy T k n b))):=by
    rw[<-vF (My.jv _ _), <-e,vF];have:=JW (u:=wy T k n a++w) (v:=turn (wy T k n b')++wy T k n b') (w:=[l]++turn (wy T k n b)) (GI _);have e1:wy T k n a++(w++[l])++turn (wy T k n b)=wy T k n a++w++([l]++turn (wy T k n b)):=by simp
    have e2:wy T k n a++w++turn (wy T k n b')++(wy T k n b'++[l]++turn (wy T k n b))=wy T k n a++w++(turn (wy T k n b')++wy T k n b')++([l]++turn (wy T k n b)):=by simp
    rw[e1,e2,this]
   rw[lhs,es,aag];rcases t.eQ rA nK h with⟨z1,z2⟩|⟨i,p1,z1,x1⟩|⟨i,p1,z1,x1⟩
   ·rw[z1]
    have hc:cut (wy T k n b'++[l]++turn (wy T k n b))=[]:=by
     rcases z2 with z2|z2
     ·rw[<-z2];exact uU _
     ·rw[z2];have:=JW (u:=wy T k n b) (v:=[-l]++[l]) (w:=turn (wy T k n b)) (by have:=GI [l];exact this);rw[show wy T k n b++[-l]++[l]++turn (wy T k n b)=wy T k n b++([-l]++[l])++turn (wy T k n b)by simp,this];exact uU _
    rw[<-JV,hc];rfl
   ·rw[z1];have hi:i<(bw T k n).length:=by rw[zX];exact(ZL.mp x1).1
    obtain⟨c',d',l',y1,_,_,_,_,_,y2⟩:=t.row hi;rw[x1]at y1;have y1:=Zf y1;have a1:c'=b':=by have:=(List.cons.inj y1).1;omega
    have a2:l'=l:=((List.cons.inj (List.cons.inj y1).2).1).symm;have a3:d'=b:=by have:=(List.cons.inj (List.cons.inj (List.cons.inj y1).2).2).1;omega
    rw[a1,a2,a3]at y2;show _=cut (_++(rowOf (bw T k n) ((i:Int)+1)++[]));unfold rowOf;rw[if_pos (by omega),show((i:Int)+1-1).toNat=i by omega,y2,ZY]
   ·rw[z1];have hi:i<(bw T k n).length:=by rw[zX];exact(ZL.mp x1).1
    obtain⟨c',d',l',y1,_,_,_,_,_,y2⟩:=t.row hi;rw[x1]at y1;have y1:=Zf y1;have a1:c'=b:=by have:=(List.cons.inj y1).1;omega
    have a2:l'= -l:=((List.cons.inj (List.cons.inj y1).2).1).symm;have a3:d'=b':=by have:=(List.cons.inj (List.cons.inj (List.cons.inj y1).2).2).1;omega
    rw[a1,a2,a3]at y2;show _=cut (_++(rowOf (bw T k n) (-((i:Int)+1))++[]));unfold rowOf;rw[if_neg (by omega),show(- -((i:Int)+1)-1).toNat=i by omega,y2,ZY,yZ,yZ,zq];congr 2;simp[turn]
def Tree.ad5(t:Tree T k n){w:List Int}(hl:∀l∈w,Let k l)(h:aG T (some ((0:Nat):Int)) (cut w)=some ((0:Nat):Int)):cut (My.jv (bw T k n) (cp T (LL T k n) 0 (cut w)))=cut w:=by
 have:=(t.B 0 t.zero (cut w) (Lc hl) h).2;rw[t.Di]at this;rw[<-this];show cut (cut w++[])=cut w;rw[ZY,Yy]
end
def abQ{k:Nat}{R:List (List Int)}(h:∀r∈R,∀l∈r,Let k l)(w:List Int):∀l∈jv R w,Let k l:=by
 intro l hl;unfold jv at hl;obtain⟨x,_,hx⟩:=List.mem_flatMap.mp hl
 have hd:∀i,∀l∈R.getD i [],Let k l:=λi l hl=>by
  rw[List.getD]at hl;cases e:R[i]? with
  |none=>rw[e]at hl;cases hl
  |some r=>rw[e]at hl;exact h r (Y5 e) l hl
 unfold rowOf at hx;by_cases z:0<x
 ·rw[if_pos z]at hx;exact hd _ l hx
 ·rw[if_neg z]at hx;unfold turn at hx;obtain⟨y,hy,rfl⟩:=Zg.mp hx;obtain⟨a,b,c⟩:=hd _ y (by simpa using hy);exact⟨by omega,by omega,by omega⟩
end My
namespace L2
open PySem PySem.Spec PyProof.Rows PySem.W
section
variable {X:Cx}
inductive MW(xs:List V)(H:Hp)(Q:VK):Prop
 |mk (d:Addr) (o:Obj) (kvs:List (Key×V)) (_:xs=[.ref d]) (_:H d=some (.cS o (.dK kvs))) (_:∀l:Addr,H l=none->Q (.ref l) (upd H l (.lst (kvs.map λp=>kV p.1)))):MW xs H Q
def TX(hc:X.calm=true):fS X (.type "list") (λxs H Q=>Wr (MW xs H Q)):=by
 intro pins s σ H xs us Q I r h;obtain⟨d,o,kvs,rfl,hd,q⟩:=h.get;obtain⟨u,rfl,ru⟩:=r.one;cases ru;obtain⟨ho0,z,ns0,vs0,kv0,dd0⟩:=(show bN X.prog X.w H s.heap d (.cS o (.dK kvs))from I.ao d _ hd);obtain⟨ns,ho,vs,kv,ju,o',ji,kB,eF,r1,r2,r3⟩:=vg I.ao hd;rw[ho]at eF;cases eF;refine kdl_call (kdl_dict (knd:=cJ X.prog X.w) (kvs:=vs) (ep:=kB) ns) (I.ok.hd hc) ⟨o,ji,ho,r1,r2,r3⟩ (by rw[ju];exact z) λh' tk acc c hk hS lu=>?_;refine⟨.ref s.heap.objs.size,_,I.laid (t':=tk) (o:=.lst (kvs.map λp=>kV p.1)) hk (Y2 _) ?_,rfl,q _ (I.ao.fresh (Y2 _))⟩;refine⟨by rw[Y0];exact z,acc.toList,c,?_,by simpa using hS⟩
 have gen:∀(ks:List (Key×V)) (ws:List Value),ks.length=ws.length->(∀(i:Nat) p v,ks[i]?=some p->ws[i]?=some v->RelV (kV p.1) v)->Vals (ks.map λp=>kV p.1) ws:=by
  intro ks
  induction ks with
  |nil=>intro ws e _;cases ws with|nil=>exact .nil|cons _ _=>simp at e
  |cons p ks ih=>
   intro ws e hr;cases ws with
   |nil=>simp at e
   |cons v ws=>exact .cons (hr 0 p v rfl rfl) (ih ws (by simpa using e) λi p' v' h1 h2=>hr (i+1) p' v' (by simpa using h1) (by simpa using h2))
 refine gen kvs acc.toList (by have h1:=lu.1;simp only[Array.length_toList];omega) λi p v h1 h2=>?_;rw[Array.getElem?_toList]at h2;obtain⟨k,x,e1,e2⟩:=lu.2 i v h2;obtain⟨q',e3,e4⟩:=kv.get h1;rw[e1]at e3;cases e3;rw[e4];exact Lq e2
def m1{o e:Expr}{m:Str}{apos cu:Pos}(h1:attributeBase o m X.env (eval o X.env)=eval o X.env:=by rfl)
  (h2:((backTo cu (starEach [e] X.env)).all (λx=> !x.1)&&(backToKw cu (keywordEach [] X.env)).all (λx=>x.1.isSome)
  &&decide (([e]:List Expr).length+([]:List Keyword).length+(if([]:List Keyword).isEmpty then 0 else 1)<30))=true:=by rfl)
  (h3:(apos.endLine==cu.line)=true:=by rfl)(h4:backTo cu (starEach [e] X.env)=[(false,eval e X.env)]:=by rfl):M1 X o m apos e cu:=⟨h1,h2,h3,h4⟩
end
def SS{K:PySem.W.Frag}{a:Addr}{xs:List V}{n:Nat}{gT:TG}{tk tv:TE}{H:Hp}{Q:VK}(Pv:Nat->List (Key×V)->Prop)(h0:Pv 0 [])(OP:∀H',(∀b o,H b=some o->H' b=some o)->af K H' a xs)
  (hs:∀i x H1 D kvs t,xs[i]?=some x->H1 t=none->(∀b o,H b=some o->H1 b=some o)->H D=none->H1 D=some (.dK kvs)->Pv i kvs->∀nb:St,nb.length=n->∀F:V->V->Hp->Prop,(∀y yv H5 wK H6,gY H5 D y yv H6->(∀b o,H b=some o->H6 b=some o)->H6 D=some (.dK wK)->Pv (i+1) wK->F y yv H5)->
   gT (.ref t) nb (upd H1 t (.tup [.int i,x])) λσ2 H3=>tk σ2 H3 λy H4=>tv σ2 H4 λyv H5=>F y yv H5)
  (hd:∀D H' kvs,H D=none->H' D=some (.dK kvs)->Pv xs.length kvs->(∀b o,H b=some o->H' b=some o)->Q (.ref D) H'):Wr (Lr (qX K a) n gT tk tv H Q):=by
 refine⟨λD hD=>⟨.dK [],λi m H1=>m=xs.length-i/\i<=xs.length/\(∀b o,H b=some o->H1 b=some o)/\∃kvs,H1 D=some (.dK kvs)/\Pv i kvs,.inl rfl,⟨xs.length,by simp,Zo _,λb o e=>?_,[],aj,h0⟩,?_⟩⟩
 ·rw[ah (λz=>by rw[z,hD]at e;cases e)];exact e
 ·rintro i m H1 ⟨rfl,hi,sm,kvs,eD,pv⟩;have q:=OP H1 sm;by_cases aR:i<xs.length
  ·refine .inr ⟨⟨xs,xs[i],q,by simp[aR]⟩,λx H' y nb Dj=>?_⟩;obtain⟨t,y,ht,rfl,rfl,hy⟩:=y;exact hs i y H1 D kvs t (hy xs q) ht sm hD eD pv nb Dj (λy yv H5=>∃H6,gY H5 D y yv H6/\∃m',m'<xs.length-i/\m'=xs.length-(i+1)/\i+1<=xs.length/\(∀b o,H b=some o->H6 b=some o)/\∃kvs,H6 D=some (.dK kvs)/\Pv (i+1) kvs) λy yv H5 wK H6 p6 s6 e6 pv6=>⟨H6,p6,xs.length-(i+1),by omega,rfl,aR,s6,wK,e6,pv6⟩
  ·have e:i=xs.length:=by omega
   subst e;exact .inl ⟨⟨xs,q,Y2 _⟩,hd D H1 kvs hD eD pv sm⟩
end L2
namespace My
open PySem L2
def rn(ord:List Nat)(o:Option Int):Option Int:=o.bind λe=>if e.toNat∈ord then some ((ord.idxOf e.toNat:Nat):Int)else none
def a9(T:Tab)(ord:List Nat):Tab:=ord.map λc=>(T.getD c []).map (rn ord)
def qg{T:Tab}{ord:List Nat}(i j:Nat)(hi:i<ord.length):cell (a9 T ord) i j=rn ord (cell T ord[i] j):=by
 have e:(a9 T ord).getD i []=(T.getD ord[i] []).map (rn ord):=by
  simp[a9,List.getD,hi]
 unfold cell;rw[e];generalize T.getD ord[i] []=r;simp only[List.getD,Ze];cases r[j]? <;>rfl
def zY{T:Tab}{ord:List Nat}(i j:Nat)(hi:¬i<ord.length):cell (a9 T ord) i j=none:=by
 have e:(a9 T ord).getD i []=[]:=by
  simp[a9,List.getD,ZI (Nat.le_of_not_lt hi)]
 unfold cell;rw[e];rfl
def ot{ord:List Nat}{o:Option Int}{e:Int}(h:rn ord o=some e):∃a,o=some a/\a.toNat∈ord/\e=((ord.idxOf a.toNat:Nat):Int):=by
 unfold rn at h;cases o with
 |none=>cases h
 |some a=>
  have h:(if a.toNat∈ord then some ((ord.idxOf a.toNat:Nat):Int)else none)=some e:=h;split at h
  ·rename_i m;exact⟨a,rfl,m,(Zf h).symm⟩
  ·cases h
def sN{k n:Nat}{T:Tab}(ok:aL k n T){ord:List Nat}(nd:ord.Nodup)(lt:∀c∈ord,c<n):aL k ord.length (a9 T ord) where
 len:=by simp[a9]
 row:=λr hr=>by
  obtain⟨c,hc,rfl⟩:=Zg.mp hr;rw[Y0];have:c<T.length:=by rw[ok.len];exact lt c hc
  rw[List.getD,Zc this];exact ok.row _ (ZA this)
 bA:=λc j e he=>by
  by_cases hc:c<ord.length
  ·rw[qg c j hc]at he;obtain⟨a,_,m,rfl⟩:=ot he;have:=List.idxOf_lt_length_iff.mpr m;exact⟨by omega,by omega⟩
  ·rw[zY c j hc]at he;cases he
 inj:=λc d j e h1 h2=>by
  by_cases hc:c<ord.length
  ·by_cases hd:d<ord.length
   ·rw[qg c j hc]at h1;rw[qg d j hd]at h2;obtain⟨a,ea,ma,e1⟩:=ot h1;obtain⟨b,eb,mb,e2⟩:=ot h2;have ei:ord.idxOf a.toNat=ord.idxOf b.toNat:=by omega
    have ga:=List.getElem_idxOf (List.idxOf_lt_length_iff.mpr ma);have gb:=List.getElem_idxOf (List.idxOf_lt_length_iff.mpr mb)
    have et:a.toNat=b.toNat:=by
     rw[<-ga, <-gb];simp only[ei]
    have ra:=ok.bA _ _ _ ea;have rb:=ok.bA _ _ _ eb;have eab:a=b:=by omega
    subst eab;exact(List.getElem_inj nd).mp (ok.inj _ _ _ _ ea eb)
   ·rw[zY d j hd]at h2;cases h2
  ·rw[zY c j hc]at h1;cases h1
def gE(ord:List Nat):List (Key×V):=ord.zipIdx.map λp=>(Sum.inl (p.1:Int),V.int (p.2:Int))
def TY(ord:List Nat)(c:Nat):gE (ord++[c])=gE ord++[(Sum.inl (c:Int),V.int (ord.length:Int))]:=by
 unfold gE;rw[List.zipIdx_append];simp
def U9(ord:List Nat):(gE ord).length=ord.length:=by simp[gE]
def Iw:∀(ord:List Nat) (c:Nat),bq (gE ord) (.inl (c:Int))=if c∈ord then some (V.int ((ord.idxOf c:Nat):Int))else none:=by
 intro ord
 have gen:∀(l:List Nat) (m:Nat) (c:Nat),bq (l.zipIdx m|>.map λp=>((Sum.inl (p.1:Int):Key),V.int (p.2:Int))) (.inl (c:Int))=if c∈l then some (V.int ((m+l.idxOf c:Nat):Int))else none:=by
  intro l
  induction l with
  |nil=>intro m c;rfl
  |cons x r ih=>
   intro m c;rw[List.zipIdx_cons,Zq];by_cases e:x=c
   ·subst e;simp[bq]
   ·have ne:¬((Sum.inl (x:Int):Key)=Sum.inl (c:Int)):=λz=>e (by have:=Sum.inl.inj z;omega);have:=ih (m+1) c;unfold bq at this⊢;rw[List.find?_cons_of_neg (by simpa using ne),this];by_cases mc:c∈r
    ·rw[if_pos mc,if_pos (Y3 _ mc),List.idxOf_cons];have:(x==c)=false:=by simpa using e
     rw[this];simp only[cond_false];congr 3;omega
    ·rw[if_neg mc,if_neg (λz=>(Y4.mp z).elim (λq=>e q.symm) mc)]
 intro c;have:=gen ord 0 c;rw[Nat.zero_add]at this;exact this
def Va(ord:List Nat):bq (gE ord) (.inr none)=none:=by
 unfold bq gE;rw[Option.map_eq_none_iff,List.find?_eq_none];intro x hx;obtain⟨p,_,rfl⟩:=Zg.mp hx;simp
def SU{ord:List Nat}{c:Nat}(h:c∉ord):putK (gE ord) (.inl (c:Int)) (V.int (ord.length:Int))=gE (ord++[c]):=by
 rw[TY];exact sk _ (by rw[Iw,if_neg h])
inductive Lz(C:Addr)(vs:List V)(H:Hp)(Q:VK)(aA:XK):Prop
 |mk (g la:Addr) (k n:Nat) (T:Tab) (fp:List Addr) (ord:List Nat) (_:vs=[.ref g,.ref la]) (_:cj C H g k n T fp) (_:ay H la (ord.map λ(c:Nat)=>(c:Int))) (_:ord.Nodup) (_:(∀c∈ord,c<n)) (_:ord≠[]) (_:∀(x:Addr) (fq:List Addr) (H':Hp),H x=none->(∀a∈fq,H a=none)->cj C H' x k ord.length (a9 T ord) fq->aa H H'->Q (.ref x) H'):Lz C vs H Q aA
def BD(C:Addr):Sp:=Lz C
inductive JZ(C cN:Addr)(vs:List V)(H:Hp)(Q:VK)(E:XK):Prop
 |mk (g:Addr) (k n:Nat) (T:Tab) (fp:List Addr) (b:Int) (_:vs=[.ref g,.int b]) (_:cj C H g k n T fp) (_:(0<=b/\b<n->∀(x:Addr) (fq:List Addr) (H':Hp),H x=none->(∀a∈fq,H a=none)->cj C H' x k (met T k n b.toNat).length (a9 T (met T k n b.toNat)) fq->aa H H'->Q (.ref x) H')) (_:(¬(0<=b/\b<n)->E (.ref cN) none H)):JZ C cN vs H Q E
def Bb(C cN:Addr):Sp:=JZ C cN
def mx(l:List Int):Int:=l.foldl max 0
def foldl_max(l:List Int):∀a:Int,a<=l.foldl max a/\(∀i∈l,i<=l.foldl max a)/\(l.foldl max a=a\/l.foldl max a∈l):=by
 induction l with
 |nil=>exact λa=>⟨Int.le_refl _,(λ_ z=>nomatch z),.inl rfl⟩
 |cons x l ih=>
  intro a;obtain⟨h1,h2,h3⟩:=ih (max a x);refine⟨by show a<=l.foldl max (max a x);omega,λi hi=>?_,?_⟩
  ·show i<=l.foldl max (max a x);rcases Y4.mp hi with z|z
   ·omega
   ·exact h2 i z
  ·show l.foldl max (max a x)=a\/l.foldl max (max a x)∈x::l;rcases h3 with z|z
   ·rw[z];rcases Int.le_total a x with w|w
    ·rw[show max a x=x by omega];exact .inr (Y8 ..)
    ·exact .inl (by omega)
   ·exact .inr (Y3 _ z)
def NF{l:List Int}{i:Int}(h:i∈l):i<=mx l:=(foldl_max l 0).2.1 i h
def NG(l:List Int):0<=mx l:=(foldl_max l 0).1
def BE{l:List Int}:mx l=0\/mx l∈l:=(foldl_max l 0).2.2
def ac3{l:List Int}{m:Int}(h0:0<=m)(hm:m=0\/m∈l)(hl:∀i∈l,i<=m):m=mx l:=by
 have:=NG l;rcases hm with z|z
 ·rcases BE (l:=l)with w|w
  ·omega
  ·have:=hl _ w;omega
 ·have:=NF z;rcases BE (l:=l)with w|w
  ·omega
  ·have:=hl _ w;omega
def nC(l:List Int):Nat:=(mx l).toNat+1
def MY(l:List Int):((nC l:Nat):Int)=mx l+1:=by
 have:=NG l;unfold nC;omega
def MZ{l:List Int}{x:Int}(h:x∈rk l):0<=x/\x<(eO l).length:=by
 obtain⟨y,hy,rfl⟩:=Zg.mp h;have:=Z0 (vC l [] y hy);have:(eO l).idxOf y<(eO l).length:=this;omega
def ac4{l:List Int}{x:Int}(h:x∈rk l):0<=x/\x<nC (rk l):=by
 have h1:=NF h;rw[MY];exact⟨(MZ h).1,by omega⟩
def BF(l:List Int):nC (rk l)<=l.length+1:=by
 have h2:=Ll l;unfold nC;rcases BE (l:=rk l)with z|z
 ·rw[z];omega
 ·have:=MZ z;omega
def oW(ch:List Int)(T:Tab)(r:List Int):Tab:=T.set (ch.getD (My.mk r 1) 0).toNat ((T.getD (ch.getD (My.mk r 1) 0).toNat []).set (r.getD 2 0-1).toNat (some (ch.getD (My.mk r (-1)) 0)))
def gq(k n:Nat)(ch:List Int)(rs:List (List Int)):Tab:=rs.foldl (oW ch) (List.replicate n (List.replicate k none))
structure iK(k n m:Nat)(ch:List Int)(rs:List (List Int)):Prop where
 len:ch.length=m
 bA:∀x∈ch,0<=x/\x<n
 row:∀r∈rs,c5 m r/\1<=r.getD 2 0/\r.getD 2 0<=k
 cl:closed rs ch
def iK.at{k n m:Nat}{ch:List Int}{rs:List (List Int)}(h:iK k n m ch rs){r:List Int}(hr:r∈rs)(s:Int):0<=ch.getD (My.mk r s) 0/\ch.getD (My.mk r s) 0<n:=h.bA _ (getD_mem (by rw[h.len];exact((h.row r hr).1.mk s).2))
def iK.part{k n m:Nat}{ch:List Int}{rs Pd:List (List Int)}(h:iK k n m ch rs)(s:∀r∈Pd,r∈rs):iK k n m ch Pd:=⟨h.len,h.bA,λr hr=>h.row r (s r hr),λp hp q hq=>h.cl p (s p hp) q (s q hq)⟩
structure nN(k n:Nat)(ch:List Int)(rs:List (List Int))(T:Tab):Prop where
 len:T.length=n
 row:∀r∈T,r.length=k
 lV:∀c j e,cell T c j=some e↔∃r∈rs,ch.getD (My.mk r 1) 0=(c:Nat)/\r.getD 2 0=(j:Nat)+1/\e=ch.getD (My.mk r (-1)) 0
def nN.nil(k n:Nat)(ch:List Int):nN k n ch [] (List.replicate n (List.replicate k none)):=by
 refine⟨by simp,λr hr=>by rw[(List.mem_replicate.mp hr).2];simp,λc j e=>⟨λh=>?_,λ⟨_,z,_⟩=>nomatch z⟩⟩
 have:cell (List.replicate n (List.replicate k none)) c j=none:=by
  unfold cell;simp only[List.getD,ZS];by_cases z:c<n
  ·rw[if_pos z];show(List.replicate k none)[j]?.getD none=none;rw[ZS];split<;>rfl
  ·rw[if_neg z];rfl
 rw[this]at h;cases h
def nN.put{k n m:Nat}{ch:List Int}{rs:List (List Int)}{r:List Int}{T:Tab}(h:nN k n ch rs T)(ok:iK k n m ch (rs++[r])):nN k n ch (rs++[r]) (oW ch T r):=by
 have mr:r∈rs++[r]:=Za _ (Y1.mpr rfl);obtain⟨a0,a1⟩:=ok.at mr 1;obtain⟨_,k1,k2⟩:=ok.row r mr;have hc:(ch.getD (My.mk r 1) 0).toNat<T.length:=by rw[h.len];omega
 have rl:(T.getD (ch.getD (My.mk r 1) 0).toNat []).length=k:=h.row _ (by rw[List.getD,Zc hc];exact ZA hc);refine⟨by unfold oW;rw[List.length_set];exact h.len,λx hx=>?_,λc j e=>?_⟩
 ·rcases List.mem_or_eq_of_mem_set hx with z|z
  ·exact h.row x z
  ·rw[z,List.length_set];exact rl
 ·have ce:cell (oW ch T r) c j=if c=(ch.getD (My.mk r 1) 0).toNat/\j=(r.getD 2 0-1).toNat then some (ch.getD (My.mk r (-1)) 0)else cell T c j:=by
   unfold oW;rw[WW hc];by_cases z:c=(ch.getD (My.mk r 1) 0).toNat
   ·rw[if_pos z];by_cases y:j=(r.getD 2 0-1).toNat
    ·rw[if_pos ⟨z,y⟩,y,List.getD,List.getElem?_set_self (by rw[rl];omega)];rfl
    ·rw[if_neg (λw=>y w.2),List.getD,List.getElem?_set_ne (Ne.symm y),z];rfl
   ·rw[if_neg z,if_neg (λw=>z w.1)]
  rw[ce];by_cases z:c=(ch.getD (My.mk r 1) 0).toNat/\j=(r.getD 2 0-1).toNat
  ·rw[if_pos z];constructor
   ·intro w;exact⟨r,mr,by omega,by omega,(Zf w).symm⟩
   ·rintro⟨q,hq,q1,q2,rfl⟩;have:=ok.cl r mr q hq (by omega) 1 (.inl rfl) (by omega);rw[this]
  ·rw[if_neg z,h.lV];constructor
   ·rintro⟨q,hq,q1,q2,q3⟩;exact⟨q,Zb _ hq,q1,q2,q3⟩
   ·rintro⟨q,hq,q1,q2,q3⟩;rcases Y6.mp hq with w|w
    ·exact⟨q,w,q1,q2,q3⟩
    ·obtain rfl:=Y1.mp w;exact absurd ⟨by omega,by omega⟩ z
def GV{α β:Type}(f:β->α->β)(b:β)(l:List α)(a:α):(l++[a]).foldl f b=f (l.foldl f b) a:=by rw[List.foldl_append];rfl
def zZ{k n m:Nat}{ch:List Int}{rs:List (List Int)}(ok:iK k n m ch rs):∀i,i<=rs.length->nN k n ch (rs.take i) (gq k n ch (rs.take i)):=by
 intro i
 induction i with
 |zero=>intro _;rw[List.take_zero];exact nN.nil k n ch
 |succ i ih=>
  intro hi;have h:=ih (by omega);have e:rs.take (i+1)=rs.take i++[rs[i]]:=Zi (by omega);rw[e];unfold gq;rw[GV];exact h.put (ok.part λr hr=>List.mem_of_mem_take (e▸hr))
def Bc{k n m:Nat}{ch:List Int}{rs:List (List Int)}(ok:iK k n m ch rs):nN k n ch rs (gq k n ch rs):=by
 have:=zZ ok rs.length (Y2 _)
 rwa [List.take_length]at this
def qK{k n m:Nat}{ch:List Int}{rs:List (List Int)}(ok:iK k n m ch rs):aL k n (gq k n ch rs):=by
 have h:=Bc ok;refine⟨h.len,h.row,λc j e he=>?_,λc d j e h1 h2=>?_⟩
 ·obtain⟨r,hr,_,_,rfl⟩:=(h.lV c j e).mp he;exact ok.at hr (-1)
 ·obtain⟨r,hr,r1,r2,r3⟩:=(h.lV c j e).mp h1;obtain⟨q,hq,q1,q2,q3⟩:=(h.lV d j e).mp h2;have:ch.getD (My.mk r 1) 0=ch.getD (My.mk q 1) 0:=ok.cl r hr q hq (by omega) (-1) (.inr rfl) (by omega);omega
def Vb{m:Nat}{l:List Int}{rs:List (List Int)}(ll:l.length=m)(hr:∀r∈rs,c5 m r)(h:closed rs l):closed rs (rk l):=λp hp q hq k s hs e=>by
 have a:=λs=>((hr p hp).mk s).2;have b:=λs=>((hr q hq).mk s).2;rw[<-ll]at a b;exact(By (a _) (b _)).mpr (h p hp q hq k s hs ((By (a s) (b s)).mp e))
def aah{k m:Nat}{l:List Int}{rs:List (List Int)}(ll:l.length=m)(hr:∀r∈rs,c5 m r/\1<=r.getD 2 0/\r.getD 2 0<=k)(h:closed rs l):iK k (nC (rk l)) m (rk l) rs:=
 ⟨by rw[sX];exact ll,λx hx=>ac4 hx,hr,Vb ll (λr h=>(hr r h).1) h⟩
def TZ{k n:Nat}{es:List En}(h:∀e∈es,dJ k n e):∀r∈rowsOf es,c5 n r/\1<=r.getD 2 0/\r.getD 2 0<=k:=λr hr=>by
 obtain⟨i,a,kd,b,he,rfl⟩:=TL.mp hr;obtain⟨⟨a0,a1⟩,⟨k0,k1⟩,⟨b0,b1⟩⟩:=h _ he;refine⟨⟨i,a.toNat,kd,b.toNat,?_,by omega,by omega⟩,?_,?_⟩
 ·rw[Zw a0,Zw b0]
 ·exact k0
 ·exact k1
noncomputable def Bk.bW(B:Bk):Nat:=nC (rk B.ax)
noncomputable def Bk.tab(B:Bk):Tab:=gq B.k B.bW (rk B.ax) (rowsOf B.es)
def Bk.tL{C g lh:Addr}{H:Hp}{B:Bk}{rest:List Addr}(h:aZ C H g lh B rest):iK B.k B.bW B.n (rk B.ax) (rowsOf B.es):=by
 have f:=Bz (n:=B.n) λr hr=>(mB h.k5 h.ok r hr).1;exact aah f.1.ax.len (TZ h.ok) f.2
inductive Gu(C:Addr)(vs:List V)(H:Hp)(Q:VK)(aA:XK):Prop
 |mk (k m:Nat) (lc lr:Addr) (ch:List Int) (ps:Ps) (_:vs=[.int k,.ref lc,.ref lr]) (_:ay H lc ch) (_:Tl H lr ps) (_:1<=k) (_:k<=5) (_:iK k (nC ch) m ch (ps.map (·.2))) (_:nC ch<=700) (_:m<=1000) (_:∀(g:Addr) (fq:List Addr) (H':Hp),H g=none->(∀a∈fq,H a=none)->cj C H' g k (nC ch) (gq k (nC ch) ch (ps.map (·.2))) fq->aa H H'->Q (.ref g) H'):Gu C vs H Q aA
def Iy(C:Addr):Sp:=Gu C
inductive GW(C Cc cM:Addr)(vs:List V)(H:Hp)(Q:VK)(E:XK):Prop
 |mk (g lh:Addr) (B:Bk) (rest:List Addr) (a:Int) (_:vs=[.ref g,.int a]) (_:aZ C H g lh B rest) (_:(aE B.n a->∀(x:Addr) (fq:List Addr) (H':Hp),H x=none->(∀b∈fq,H b=none)->cj Cc H' x B.k (met B.tab B.k B.bW ((rk B.ax).getD a.toNat 0).toNat).length (a9 B.tab (met B.tab B.k B.bW ((rk B.ax).getD a.toNat 0).toNat)) fq->aa H H'->Q (.ref x) H')) (_:(¬aE B.n a->∀H',aa H H'->E (.ref cM) none H')):GW C Cc cM vs H Q E
def J0(C Cc cM:Addr):Sp:=GW C Cc cM
structure Og(mg:Str->Option Value):Prop where
 ad6:∃t,mg "MUST"=some (.str "must" t)
 never:∃t,mg "NEVER"=some (.str "never" t)
 opn:∃t,mg "OPEN"=some (.str "open" t)
inductive GX(C cM cK:Addr)(vs:List V)(H:Hp)(Q:VK)(E:XK):Prop
 |mk (g lh:Addr) (B:Bk) (rest:List Addr) (a b:Int) (wa:Addr) (ws:List Int) (_:vs=[.ref g,.int a,.ref wa,.int b]) (_:aZ C H g lh B rest) (_:ay H wa ws) (_:ws.length<=600) (_:(aE B.n a/\aE B.n b->(∀l∈ws,Let B.k l)->oS B.es a ws b->∀(t:Addr) (H':Hp),aa H H'->Q (.ref t) H')) (_:(aE B.n a/\aE B.n b->(∀l∈ws,Let B.k l)->¬oS B.es a ws b->∀H',aa H H'->Q .aI H')) (_:(¬(aE B.n a/\aE B.n b)->∀H',aa H H'->E (.ref cM) none H')) (_:(aE B.n a/\aE B.n b->¬(∀l∈ws,Let B.k l)->∀H',aa H H'->E (.ref cK) none H')):GX C cM cK vs H Q E
def J3(C cM cK:Addr):Sp:=GX C cM cK
inductive Iz(C cM cK:Addr)(vs:List V)(H:Hp)(Q:VK)(E:XK):Prop
 |mk (g lh:Addr) (B:Bk) (rest:List Addr) (a b:Int) (wa:Addr) (ws:List Int) (_:vs=[.ref g,.int a,.ref wa,.int b]) (_:aZ C H g lh B rest) (_:ay H wa ws) (_:ws.length<=600) (_:(aE B.n a/\aE B.n b->(∀l∈ws,Let B.k l)->∀H',aa H H'->Q (.str (wordOf B.es a ws b)) H')) (_:(¬(aE B.n a/\aE B.n b)->∀H',aa H H'->E (.ref cM) none H')) (_:(aE B.n a/\aE B.n b->¬(∀l∈ws,Let B.k l)->∀H',aa H H'->E (.ref cK) none H')):Iz C cM cK vs H Q E
def LC(C cM cK:Addr):Sp:=Iz C cM cK
def vG{k:Nat}{ws:List Int}(h:∀l∈ws,Let k l):∀l∈ws,l≠0:=λl hl=>(h l hl).1
def Bk.nO{C g lh:Addr}{H:Hp}{B:Bk}{rest:List Addr}(h:aZ C H g lh B rest):∀r∈rowsOf B.es,c5 B.n r:=λr hr=>(mB h.k5 h.ok r hr).1
def aai{C g lh:Addr}{H:Hp}{B:Bk}{rest:List Addr}{a:Int}{ws:List Int}(h:aZ C H g lh B rest)(ha:aE B.n a)(hl:∀l∈ws,Let B.k l):FL (B.n+ws.length) (rowsOf B.es++dH B.n a ws) [] (B.jL a ws):=Bz λr hr=>by
 rcases Y6.mp hr with z|z
 ·exact row_more (Bk.nO h r z) (Nat.le_add_right _ _)
 ·exact(zx ha h.k5 hl r z).1
def IA{C g lh:Addr}{H:Hp}{B:Bk}{rest:List Addr}{a b:Int}{ws:List Int}(h:aZ C H g lh B rest)(ha:aE B.n a)(hb:aE B.n b)(hl:∀l∈ws,Let B.k l):(B.jL a ws).getD (bK B.n a ws.length).toNat 0=(B.jL a ws).getD b.toNat 0↔fT (rowsOf B.es) a ws b:=
 W7 (Bk.nO h) ha hb (vG hl) (aai h ha hl)
def T3(es:List En)(a:Int)(ws:List Int)(b:Int):(fT (rowsOf es) a ws b/\wordOf es a ws b="must")\/(¬fT (rowsOf es) a ws b/\oS es a ws b/\wordOf es a ws b="never")\/(¬fT (rowsOf es) a ws b/\¬oS es a ws b/\wordOf es a ws b="open"):=by
 unfold wordOf;by_cases h1:fT (rowsOf es) a ws b
 ·exact .inl ⟨h1,if_pos h1⟩
 ·by_cases h2:oS es a ws b
  ·exact .inr (.inl ⟨h1,h2,by rw[if_neg h1,if_pos h2]⟩)
  ·exact .inr (.inr ⟨h1,h2,by rw[if_neg h1,if_neg h2]⟩)
end My
namespace L2
open PySem PySem.Spec PyProof.Rows
section
variable {X:Cx}
def ac5(K:PySem.W.Frag):V->V->Hp->VK->Prop:=λx y H Q=>∃(p:Addr) (xs:List V) (i:Nat) (v:V),x=.ref p/\y=.int (i:Int)/\af K H p xs/\xs[i]?=some v/\Q v H
def Vc:NS X (ac5 X.K):=by
 intro pins s σ H o i ov iv Q I ro ri h;obtain⟨p,xs,j,z,rfl,rfl,hq,he,q⟩:=h;cases ro;obtain⟨t,rfl⟩:=ri;obtain⟨ai,r,pl,hz⟩:=I.list hq;obtain⟨w,ew,gJ⟩:=r.get he;have hl:=r.length;have hn:=qE;have hj:=(ZL.mp he).1;exact wpAny_getItem_list pl.isList (by omega) (by omega) (by simpa using ew) ⟨z,H,I,gJ,q⟩
end
end L2
namespace My
open PySem L2
def qa{ord:List Nat}(nd:ord.Nodup){i:Nat}(hi:i<ord.length):ord.idxOf ord[i]=i:=nd.idxOf_getElem i hi
def sP{k n:Nat}{T:Tab}(ok:aL k n T){ord:List Nat}(nd:ord.Nodup)(lt:∀c∈ord,c<n){i:Nat}(hi:i<ord.length)(l:Int):az (a9 T ord) i l=rn ord (az T ord[i] l):=by
 unfold az;by_cases z:0<l
 ·rw[if_pos z,if_pos z,qg i _ hi]
 ·rw[if_neg z,if_neg z];have da:=sN ok nd lt;apply Option.ext;intro d;rw[eX da];constructor
  ·rintro⟨m,rfl,hm,hc⟩;rw[qg m _ hm]at hc;obtain⟨a,ea,ma,e1⟩:=ot hc;have ra:=ok.bA _ _ _ ea
   have ga:a.toNat=ord[i]:=by
    have h1:=List.getElem_idxOf (List.idxOf_lt_length_iff.mpr ma);have:ord.idxOf a.toNat=i:=by omega
    rw[<-h1];simp only[this]
   have hp:pre T (-l-1).toNat ord[i]=some ((ord[m]:Nat):Int):=(eX ok).mpr ⟨ord[m],rfl,lt _ (ZA hm),by rw[ea];congr 1;omega⟩;rw[hp];unfold rn;dsimp only[Option.bind];rw[Y9,if_pos (ZA hm),qa nd hm]
  ·intro h;obtain⟨a,ea,ma,rfl⟩:=ot h;obtain⟨m,rfl,hm,hc⟩:=(eX ok).mp ea;rw[Y9]at ma⊢;have hx:=List.idxOf_lt_length_iff.mpr ma;refine⟨ord.idxOf m,rfl,hx,?_⟩;rw[qg _ _ hx,List.getElem_idxOf,hc];unfold rn;dsimp only[Option.bind];rw[Y9,if_pos (ZA hi),qa nd hi]
def J4{k n:Nat}{T:Tab}(ok:aL k n T){ord:List Nat}(nd:ord.Nodup)(lt:∀c∈ord,c<n):∀(w:List Int) (i:Nat) (hi:i<ord.length) (j:Int),aG (a9 T ord) (some (i:Int)) w=some j->∃(x:Nat) (hx:x<ord.length),j=x/\aG T (some ((ord[i]:Nat):Int)) w=some ((ord[x]:Nat):Int)
 |[],i,hi,j,h=>⟨i,hi,(Zf h).symm,rfl⟩
 |l::w,i,hi,j,h=>by
  rw[dG,Y9,sP ok nd lt hi]at h;rw[dG,Y9];cases e:rn ord (az T ord[i] l)with
  |none=>rw[e,fN]at h;cases h
  |some d=>
   obtain⟨a,ea,ma,rfl⟩:=ot e;rw[e]at h;have hx:=List.idxOf_lt_length_iff.mpr ma;obtain⟨x,pH,e1,e2⟩:=J4 ok nd lt w _ hx j h;have ra:=eB ok ea;refine⟨x,pH,e1,?_⟩;rw[ea];rw[List.getElem_idxOf,Zw ra.1]at e2;exact e2
def J5{k n:Nat}{T:Tab}(ok:aL k n T){ord:List Nat}(nd:ord.Nodup)(lt:∀c∈ord,c<n):∀(w:List Int) (i:Nat) (hi:i<ord.length) (d:Int),(∀m,m<=w.length->∀c,aG T (some ((ord[i]:Nat):Int)) (w.take m)=some c->c.toNat∈ord)->
  aG T (some ((ord[i]:Nat):Int)) w=some d->aG (a9 T ord) (some (i:Int)) w=some ((ord.idxOf d.toNat:Nat):Int)
 |[],i,hi,d,st,h=>by
  have h:some ((ord[i]:Nat):Int)=some d:=h;rw[<-Zf h,Y9,qa nd hi];rfl
 |l::w,i,hi,d,st,h=>by
  rw[dG,Y9]at h;rw[dG,Y9,sP ok nd lt hi];cases e:az T ord[i] l with
  |none=>rw[e,fN]at h;cases h
  |some a=>
   rw[e]at h;have ra:=eB ok e;have dZ:=st 1 (by simp) a (by show aG T (some ((ord[i]:Nat):Int)) [l]=some a;rw[dG,Y9,e];rfl);have hx:=List.idxOf_lt_length_iff.mpr dZ;have eg:((ord[ord.idxOf a.toNat]:Nat):Int)=a:=by rw[List.getElem_idxOf];omega
   have:rn ord (some a)=some ((ord.idxOf a.toNat:Nat):Int):=by
    unfold rn;dsimp only[Option.bind];rw[if_pos dZ]
   rw[this];refine J5 ok nd lt w _ hx d (λm hm c hc=>st (m+1) (by simpa using hm) c ?_) (by rw[eg];exact h);rw[eg]at hc;rw[List.take_succ_cons,dG,Y9,e];exact hc
def lv(b:List Bool)(c:Nat):Bool:=b.getD c false
def toL(T:Tab)(b:List Bool)(c:Nat)(l:Int):Bool:=match az T c l with
 |some d=>lv b d.toNat
 |none=>false
def jh(T:Tab)(k:Nat)(b:List Bool)(c:Nat):Nat:=(lets k).countP (toL T b c)
def cV(T:Tab)(k c:Nat):List Int:=(lets k).filterMap (az T c)
def Av(T:Tab)(k:Nat)(b:List Bool):Prop:=∀w:List Int,Red w->(∀l∈w,Let k l)->aG T (some 0) w=some 0->∀i,i<=w.length->∀c,aG T (some 0) (w.take i)=some c->lv b c.toNat=true
def LD{α:Type}{a b:α}{p:α->Bool}(ne:a≠b):∀{l:List α},a∈l->b∈l->p a=true->p b=true->2<=l.countP p
 |x::l,ha,hb,pa,pb=>by
  rw[List.countP_cons];rcases Y4.mp ha with e1|Pe
  ·rcases Y4.mp hb with e2|rA
   ·exact absurd (e1.trans e2.symm) ne
   ·have:0<l.countP p:=List.countP_pos_iff.mpr ⟨b,rA,pb⟩;rw[if_pos (e1▸pa)];omega
  ·rcases Y4.mp hb with e2|rA
   ·have:0<l.countP p:=List.countP_pos_iff.mpr ⟨a,Pe,pa⟩;rw[if_pos (e2▸pb)];omega
   ·have:=LD (p:=p) ne Pe rA pa pb;omega
def oI{b:List Bool}{h c:Nat}:lv (b.set h false) c=(lv b c&& !decide (c=h)):=by
 unfold lv;by_cases z:c=h
 ·subst z;rw[ZN rfl];by_cases y:c<b.length
  ·rw[List.getD,List.getElem?_set_self y];simp
  ·rw[List.getD,ZI (by rw[List.length_set];omega)];simp
 ·rw[List.getD,List.getElem?_set_ne (Ne.symm z),ZO z];simp[List.getD]
def aaj{k n:Nat}{T:Tab}(ok:aL k n T)(n1:1<=n){b:List Bool}{h:Nat}(av:Av T k b)(h0:h≠0)(c1:jh T k b h<=1):Av T k (b.set h false):=by
 intro w red hl hw i hi c hc;have hb:=av w red hl hw;rw[oI,hb i hi c hc,Bool.true_and];by_cases z:c.toNat=h
 ·exfalso;have z0:(0:Int)<=0/\(0:Int)<n:=by omega
  have i0:i≠0:=λe=>by
   rw[e]at hc;have:(0:Int)=c:=Zf hc;omega
  have il:i<w.length:=by
   rcases Nat.lt_or_ge i w.length with e|e
   ·exact e
   ·rw[ZE e,hw]at hc;have:(0:Int)=c:=Zf hc;omega
  obtain⟨j,rfl⟩:∃j,i=j+1:=⟨i-1,by omega⟩;have ea:w[j]?=some w[j]:=by simp[show j<w.length by omega]
  have eb:w[j+1]?=some w[j+1]:=by simp[il]
  have e1:=zR (T:=T) (o:=some 0) ea;rw[hc]at e1;cases xB:aG T (some 0) (w.take j)with
  |none=>rw[xB]at e1;cases e1
  |some d1=>
   rw[xB]at e1;have e1:some c=az T d1.toNat w[j]:=e1;have r1:=iZ ok z0 xB;have rc:=iZ ok z0 hc;have la:=hl _ (ZA (show j<w.length by omega));have lb:=hl _ (ZA il);have bk:=gQ ok la.1 (show d1.toNat<n by omega) (show az T d1.toNat w[j]=some ((h:Nat):Int)by rw[<-e1];congr 1;omega);have e2:=zR (T:=T) (o:=some 0) eb;rw[hc]at e2;have e2:aG T (some 0) (w.take (j+1+1))=az T c.toNat w[j+1]:=e2;cases Dk:aG T (some 0) (w.take (j+1+1))with
   |none=>rw[WZ (j+1+1) Dk]at hw;cases hw
   |some d2=>
    rw[Dk,z]at e2;have l1:=hb j (by omega) d1 xB;have l2:=hb (j+1+1) (by omega) d2 Dk
    have rd:w[j+1]≠ -w[j]:=by
     have:Red (w.take (j+1)++w.drop (j+1)):=by rw[List.take_append_drop];exact red
     refine(sf.mp this).2.2 _ _ ?_ ?_
     ·rw[List.getLast?_take];simp[show j<w.length by omega]
     ·rw[List.head?_drop];exact eb
    have:=LD (p:=toL T b h) rd (j6.mpr lb) (j6.mpr (show Let k (-w[j])from⟨by have:=la.1;omega,by have:=la.2.2;omega,by have:=la.2.1;omega⟩)) (by unfold toL;rw[<-e2];exact l2) (by unfold toL;rw[bk];exact l1);unfold jh at c1;omega
 ·rw[ZO z];rfl
def Xf(k:Nat):((lets k).map λl=> -l).Perm (lets k):=by
 unfold lets
 induction k with
 |zero=>exact List.Perm.refl _
 |succ k ih=>
  rw[List.range_succ,List.flatMap_append,Zd];refine List.Perm.append ih ?_;show [-(1+(k:Int)), - -(1+(k:Int))].Perm [1+(k:Int), -(1+(k:Int))];rw[Int.neg_neg];exact List.Perm.swap _ _ _
def Vd{T:Tab}{k h:Nat}{c:Int}:(cV T k h).count c=(lets k).countP λl=>az T h l==some c:=by
 unfold cV
 induction lets k with
 |nil=>rfl
 |cons l ls ih=>
  rw[List.countP_cons, <-ih];cases e:az T h l with
  |none=>rw[List.filterMap_cons_none e];rfl
  |some d=>
   rw[List.filterMap_cons_some e,List.count_cons];congr 1
def Gg{α:Type}{p q r:α->Bool}:∀{l:List α},(∀x∈l,p x=(q x||r x)/\(q x&&r x)=false)->l.countP p=l.countP q+l.countP r
 |[],_=>rfl
 |x::l,h=>by
  have h1:=h x (Y8 ..);rw[List.countP_cons,List.countP_cons,List.countP_cons,Gg λy hy=>h y (Y3 _ hy),h1.1];cases hq:q x<;>cases hr:r x<;>simp_all<;>omega
def Xg{k n:Nat}{T:Tab}(ok:aL k n T){b:List Bool}{h c:Nat}(hn:h<n)(cn:c<n)(hb:lv b h=true):jh T k b c=jh T k (b.set h false) c+(cV T k h).count (c:Int):=by
 have e1:(lets k).countP (λl=>az T c l==some (h:Int))=(lets k).countP λl=>az T h l==some (c:Int):=by
  rw[<-(Xf k).countP_eq,List.countP_map];refine List.countP_congr λl hl=>?_;have ll:=j6.mp hl;show(az T c (-l)==some (h:Int))=true↔(az T h l==some (c:Int))=true;rw[beq_iff_eq,beq_iff_eq];constructor
  ·intro e;have:=gQ ok (show -l≠0 by have:=ll.1;omega) cn e
   rwa [Int.neg_neg]at this
  ·exact λe=>gQ ok ll.1 hn e
 rw[Vd, <-e1];unfold jh;refine Gg λl _=>?_;unfold toL;cases e:az T c l with
 |none=>exact⟨rfl,rfl⟩
 |some d=>
  have rd:=eB ok e;dsimp only;rw[oI];by_cases z:d=(h:Int)
  ·subst z;rw[Y9,hb];simp
  ·have z1:¬d.toNat=h:=by omega
   have z2:(some d==some (h:Int))=false:=ZH.mpr λw=>z (Zf w);rw[ZO z1,z2];simp
structure kY(T:Tab)(k n:Nat)(b:List Bool)(many wt:List Int):Prop where
 lb:b.length=n
 lm:many.length=n
 ct:∀c,c<n->lv b c=true->many.getD c 0=(jh T k b c:Int)
 ww:∀x∈wt,∃c:Nat,x=(c:Int)/\c<n/\c≠0/\lv b c=true/\many.getD c 0<=1
 nd:wt.Nodup
 av:Av T k b
 z:lv b 0=true
structure fU(n:Nat)(b:List Bool)(h:Nat)(dz bs:List Int)(j:Nat)(many wt:List Int):Prop where
 lm:many.length=n
 ct:∀c,c<n->many.getD c 0=dz.getD c 0-((bs.take j).count (c:Int):Nat)
 ww:∀x∈wt,∃c:Nat,x=(c:Int)/\c<n/\c≠0/\lv (b.set h false) c=true/\many.getD c 0<=1
 nd:wt.Nodup
def fU.zero{T:Tab}{k n:Nat}{b:List Bool}{many wt bs:List Int}{h:Nat}(H:kY T k n b many (wt++[(h:Int)])):fU n b h many bs 0 many wt:=by
 have nd:=List.nodup_append.mp H.nd;refine⟨H.lm,λc hc=>by simp,λx hx=>?_,nd.1⟩;obtain⟨c,rfl,c1,c2,c3,c4⟩:=H.ww x (Zb _ hx);refine⟨c,rfl,c1,c2,?_,c4⟩;have ne:c≠h:=λz=>nd.2.2 _ hx _ (Y1.mpr rfl) (by rw[z]);rw[oI,c3,ZO ne];rfl
def oh{l:List Int}{o:Nat}{v:Int}(ho:o<l.length)(c:Nat):(l.set o v).getD c 0=if c=o then v else l.getD c 0:=by
 by_cases z:c=o
 ·subst z;rw[if_pos rfl,List.getD,List.getElem?_set_self ho];rfl
 ·rw[if_neg z,List.getD,List.getElem?_set_ne (Ne.symm z)];rfl
def fU.step{n:Nat}{b:List Bool}{h:Nat}{dz bs:List Int}{j:Nat}{many wt:List Int}(H:fU n b h dz bs j many wt){o:Nat}(ho:bs[j]?=some (o:Int))(on:o<n):fU n b h dz bs (j+1) (many.set o (many.getD o 0-1)) wt:=by
 have ol:o<many.length:=by rw[H.lm];exact on
 have hj:=(ZL.mp ho).1
 have et:bs.take (j+1)=bs.take j++[(o:Int)]:=by
  rw[Zi hj,(ZL.mp ho).2]
 refine⟨by rw[List.length_set];exact H.lm,λc hc=>?_,λx hx=>?_,H.nd⟩
 ·rw[oh ol,et,List.count_append,List.count_singleton];have:=H.ct c hc;by_cases z:c=o
  ·subst z;rw[if_pos rfl,this];simp;omega
  ·have z2:((o:Int)==(c:Int))=false:=ZH.mpr λw=>z (by omega);rw[if_neg z,this,z2];simp
 ·obtain⟨c,rfl,c1,c2,c3,c4⟩:=H.ww x hx;refine⟨c,rfl,c1,c2,c3,?_⟩;rw[oh ol];by_cases z:c=o
  ·subst z;rw[if_pos rfl];omega
  ·rw[if_neg z];exact c4
def fU.more{n:Nat}{b:List Bool}{h:Nat}{dz bs:List Int}{j:Nat}{many wt:List Int}(H:fU n b h dz bs j many wt){o:Nat}(ho:bs[j]?=some (o:Int))(on:o<n)(l:lv (b.set h false) o=true)(o0:o≠0)(e:many.getD o 0-1=1):
  fU n b h dz bs (j+1) (many.set o (many.getD o 0-1)) (wt++[(o:Int)]):=by
 have ol:o<many.length:=by rw[H.lm];exact on
 have S:=H.step ho on;refine⟨S.lm,S.ct,λx hx=>?_,?_⟩
 ·rcases Y6.mp hx with m|m
  ·exact S.ww x m
  ·rw[Y1.mp m];exact⟨o,rfl,on,o0,l,by rw[oh ol,if_pos rfl];omega⟩
 ·refine List.nodup_append.mpr ⟨S.nd,by simp,λx hx y hy e2=>?_⟩;rw[Y1.mp hy]at e2;obtain⟨c,rfl,_,_,_,c4⟩:=H.ww x hx;have:c=o:=by omega
  subst this;omega
def fU.done{T:Tab}{k n:Nat}(ok:aL k n T)(n1:1<=n){b:List Bool}{h:Nat}{dz kH many wt:List Int}(H:kY T k n b dz (kH++[(h:Int)]))(J:fU n b h dz (cV T k h) (cV T k h).length many wt):kY T k n (b.set h false) many wt:=by
 obtain⟨c,ec,c1,c2,c3,c4⟩:=H.ww (h:Int) (Za _ (Y1.mpr rfl));obtain rfl:h=c:=by omega
 have ch:=H.ct h c1 c3;refine⟨by rw[List.length_set];exact H.lb,J.lm,λc hc hl=>?_,J.ww,J.nd,aaj ok n1 H.av c2 (by omega),?_⟩
 ·rw[J.ct c hc,List.take_length];rw[oI]at hl;have hl:=(Bool.and_eq_true_iff.mp hl).1;have:=Xg ok (b:=b) c1 hc c3;rw[H.ct c hc hl];omega
 ·rw[oI,H.z,ZO (Ne.symm c2)];rfl
def aak{k n:Nat}{T:Tab}(ok:aL k n T){h:Nat}{x:Int}(hx:x∈cV T k h):∃o:Nat,x=(o:Int)/\o<n:=by
 obtain⟨l,_,e⟩:=List.mem_filterMap.mp hx;have:=eB ok e;exact⟨x.toNat,by omega,by omega⟩
def aal{T:Tab}{k h n:Nat}(ok:aL k n T):(cV T k h).length=jh T k (List.replicate n true) h:=by
 unfold cV jh
 induction lets k with
 |nil=>rfl
 |cons l ls ih=>
  rw[List.countP_cons, <-ih];unfold toL;cases e:az T h l with
  |none=>rw[List.filterMap_cons_none e];simp
  |some d=>
   have:=eB ok e;rw[List.filterMap_cons_some e]
   have:lv (List.replicate n true) d.toNat=true:=by
    unfold lv;rw[List.getD,ZS,if_pos (by omega)];rfl
   simp[this]
def vO{n c:Nat}:lv (List.replicate n true) c=decide (c<n):=by
 unfold lv;rw[List.getD,ZS];by_cases z:c<n
 ·rw[if_pos z,ZN z];rfl
 ·rw[if_neg z,ZO z];rfl
def kY.zero{k n:Nat}{T:Tab}(ok:aL k n T)(n1:1<=n){many:List Int}(hm:many=(List.range n).map λc=>((cV T k c).length:Int)){wt:List Int}(hw:∀x∈wt,∃c:Nat,x=(c:Int)/\c<n/\c≠0/\many.getD c 0=1)(nd:wt.Nodup):kY T k n (List.replicate n true) many wt:=by
 have z0:(0:Int)<=0/\(0:Int)<n:=by omega
 refine⟨by simp,by rw[hm];simp,λc hc _=>?_,λx hx=>?_,nd,λw _ _ _ i _ c hc=>?_,by rw[vO];exact ZN (by omega)⟩
 ·rw[<-aal ok,hm];simp[List.getD,hc]
 ·obtain⟨c,rfl,c1,c2,c3⟩:=hw x hx;exact⟨c,rfl,c1,c2,by rw[vO];exact ZN c1,by omega⟩
 ·have:=iZ ok z0 hc;rw[vO];exact ZN (by omega)
def J6{k n:Nat}{T:Tab}(ok:aL k n T){ord:List Nat}(nd:ord.Nodup)(lt:∀c∈ord,c<n)(h0:ord[0]?=some 0){w:List Int}(st:aG T (some 0) w=some 0->∀i,i<=w.length->∀c,aG T (some 0) (w.take i)=some c->c.toNat∈ord):
  aG (a9 T ord) (some 0) w=some 0↔aG T (some 0) w=some 0:=by
 obtain⟨hl,e0⟩:=ZL.mp h0;constructor
 ·intro h;obtain⟨x,hx,e1,e2⟩:=J4 ok nd lt w 0 hl 0 h;have:x=0:=by omega
  subst this;rw[e0]at e2;exact e2
 ·intro h;have:=J5 ok nd lt w 0 hl 0 (by rw[e0];exact st h) (by rw[e0];exact h)
  have i0:ord.idxOf 0=0:=by
   have:=qa nd hl
   rwa [e0]at this
  rw[show((0:Int)).toNat=0 from rfl,i0]at this;exact this
def Aa{T:Tab}{k n base:Nat}:(met T k n base)[0]?=some base:=by
 have:=AD (T:=T) (k:=k) (λ_ O=>O[0]?=some base) (λi O hi h=>by
  obtain⟨r,e⟩:=vh (T:=T) (c:=O.getD i 0) (lets k) O;unfold ky;rw[e,Zr (ZL.mp h).1];exact h) (n+1) 0 [base] rfl
 exact this.elim λ_ h=>h.1
def J7{k n:Nat}{T:Tab}(ok:aL k n T)(n1:1<=n){w:List Int}(hl:∀l∈w,Let k l):∀i,i<=w.length->∀c,aG T (some 0) (w.take i)=some c->c.toNat∈met T k n 0
 |0,_,c,h=>by
  have h:(0:Int)=c:=Zf h;rw[<-h];exact(cL ok (show 0<n by omega)).2.1
 |i+1,hi,c,h=>by
  have ea:w[i]?=some w[i]:=by simp[show i<w.length by omega]
  rw[zR ea]at h;cases e:aG T (some 0) (w.take i)with
  |none=>rw[e]at h;cases h
  |some d=>
   rw[e]at h;have ih:=J7 ok n1 hl i (by omega) d e;exact(cL ok (show 0<n by omega)).2.2 _ ih _ (hl _ (ZA (show i<w.length by omega))) _ h
def je(n:Nat)(b:List Bool):List Nat:=(List.range n).filter (lv b)
def Ab(n:Nat)(b:List Bool):(je n b).Nodup:=List.nodup_range.filter _
def vj{n:Nat}{b:List Bool}:∀c∈je n b,c<n:=λc h=>ZU.mp (ZT.mp h).1
def zh{n:Nat}{b:List Bool}(n1:1<=n)(z:lv b 0=true):(je n b)[0]?=some 0:=by
 obtain⟨m,rfl⟩:∃m,n=m+1:=⟨n-1,by omega⟩;unfold je;rw[List.range_succ_eq_map,List.filter_cons_of_pos z];rfl
def mG(T T':Tab)(k:Nat):Prop:=∀w:List Int,Red w->(∀l∈w,Let k l)->(aG T' (some 0) w=some 0↔aG T (some 0) w=some 0)
def M0{k n:Nat}{T:Tab}(ok:aL k n T)(n1:1<=n):mG T (a9 T (met T k n 0)) k:=λw _ hl=>
 J6 ok (cL ok (show 0<n by omega)).1.nd (cL ok (show 0<n by omega)).1.lt Aa λ_=>J7 ok n1 hl
def aam{k n:Nat}{T:Tab}(ok:aL k n T)(n1:1<=n){b:List Bool}(av:Av T k b)(z:lv b 0=true):mG T (a9 T (je n b)) k:=λw red hl=>
 J6 ok (Ab n b) vj (zh n1 z) λh i hi c hc=>by
  have:=iZ ok (show(0:Int)<=0/\(0:Int)<n by omega) hc;exact ZT.mpr ⟨ZU.mpr (by omega),av w red hl h i hi c hc⟩
def mG.trans{T T' Pf:Tab}{k:Nat}(a:mG T T' k)(b:mG T' Pf k):mG T Pf k:=λw r hl=>(b w r hl).trans (a w r hl)
inductive GY(C:Addr)(vs:List V)(H:Hp)(Q:VK)(aA:XK):Prop
 |mk (g:Addr) (k n:Nat) (T:Tab) (fp:List Addr) (c:Nat) (_:vs=[.ref g,.int c]) (_:cj C H g k n T fp) (_:c<n) (_:∀(l:Addr) (H':Hp),H l=none->ay H' l (cV T k c)->aa H H'->Q (.ref l) H'):GY C vs H Q aA
def J8(C:Addr):Sp:=GY C
def aan{H:Hp}{a:Addr}{ns:List Int}(h:Row H a (ns.map some)):ay H a ns:=by
 show H a=_;rw[show H a=_ from h,ZK];rfl
def IC{K:PySem.W.Frag}{a:Addr}{xs:List V}{ix:List Nat}{te:TE}{σ:St}{H:Hp}{Q:VK}(f:V->V)(hq:af K H a xs)(hl:xs.length<=100000)
  (he:∀z∈xs,∀(H':Hp) (Q':VK),aa H H'->(∀rB,aa H' rB->Q' (f z) rB)->te (bE ix (some z) σ) H' Q')(h:∀(D:Addr) (H':Hp),H D=none->H' D=some (.lst (xs.map f))->aa H H'->Q (.ref D) H'):Wr (jc (dM K a) ix te σ H Q):=by
 refine zt (xs:=xs) λD hD=>⟨λi ys H2=>ys=(xs.take i).map f/\H2 D=some (.lst ys)/\aa H H2,⟨by simp,aj,(aa.refl H).upd hD⟩,?_,?_,?_⟩
 ·rintro i ys H2 hi ⟨rfl,h1,s⟩;exact⟨s.seq hq,h1,bI (by rw[Y0,Zx];omega)⟩
 ·rintro i x ys H2 hx ⟨rfl,h1,s⟩ Q' q';refine he x (Y5 hx) H2 Q' s λH3 s3=>q' _ H3 (s3 _ _ h1) ⟨?_,aj,(s.trans s3).upd hD⟩;have hi:=(ZL.mp hx).1;rw[Zi hi,Zd,(ZL.mp hx).2];rfl
 ·rintro ys H2 ⟨rfl,h1,s⟩;rw[List.take_length]at h1;exact h D H2 hD h1 s
def T4{n:Nat}{ix:List Nat}{te:TE}{σ:St}{H:Hp}{Q:VK}(f:Nat->List Int)(hn:n<=1000)
  (he:∀i,i<n->∀(H':Hp) (Q':VK),aa H H'->(∀(a:Addr) (rB:Hp),H' a=none->ay rB a (f i)->aa H' rB->Q' (.ref a) rB)->te (bE ix (some (.int (0+(i:Int)))) σ) H' Q')
  (h:∀(D:Addr) (as:List Addr) (H':Hp),H D=none->H' D=some (.lst (as.map V.ref))->as.length=n->(∀i a,as[i]?=some a->ay H' a (f i))->aa H H'->Q (.ref D) H'):Wr (jc (fH 0 n) ix te σ H Q):=by
 refine⟨zf λD hD=>⟨λi ys H2=>∃as:List Addr,ys=as.map V.ref/\as.length=i/\i<=n/\(∀j a,as[j]?=some a->a≠D/\ay H2 a (f j))/\H2 D=some (.lst ys)/\aa H H2,⟨[],rfl,rfl,Zo _,(λj a e=>by simp at e),aj,(aa.refl H).upd hD⟩,?_,?_,?_⟩⟩
 ·rintro i ys H2 ⟨as,rfl,la,li,_,h1,_⟩;exact⟨h1,bI (by rw[Y0];omega)⟩
 ·rintro i ys H2 hi ⟨as,rfl,la,li,ia,h1,s⟩ Q' q';refine he i hi H2 Q' s λa H3 na ii s3=>?_;have ne:a≠D:=λz=>by rw[z,h1]at na;cases na
  refine q' _ H3 (s3 _ _ h1) ⟨as++[a],by simp,by simp[la],hi,λj b e=>?_,aj,(s.trans s3).upd hD⟩;by_cases z:j<as.length
  ·rw[Zr z]at e;obtain⟨n1,n2⟩:=ia j b e;exact⟨n1,by show upd _ _ _ _=_;rw[ah n1];exact s3.ints n2⟩
  ·rw[Zt (by omega)]at e;have z0:j-as.length=0:=by have:=(ZL.mp e).1;simp at this;omega
   rw[z0]at e;have e:a=b:=Zf e;subst e;have:j=i:=by omega
   subst this;exact⟨ne,by show upd _ _ _ _=_;rw[ah ne];exact ii⟩
 ·rintro ys H2 ⟨as,rfl,la,_,ia,h1,s⟩;exact h D as H2 hD h1 la (λi a e=>(ia i a e).2) s
def lW(v:V):Bool:=decide (v=V.bl true)
def LF:∀{b:List Bool}{h:Nat},lv b h=true->((b.set h false).map V.bl).countP lW<(b.map V.bl).countP lW
 |[],h,e=>by simp[lv]at e
 |x::b,0,e=>by
  have e:x=true:=e;subst e;show((V.bl false)::b.map V.bl).countP lW<((V.bl true)::b.map V.bl).countP lW;rw[List.countP_cons,List.countP_cons,if_neg (by simp[lW]),if_pos (by simp[lW])];omega
 |x::b,h+1,e=>by
  have:=LF (b:=b) (h:=h) (by simpa[lv]using e);show((V.bl x)::(b.set h false).map V.bl).countP lW<((V.bl x)::b.map V.bl).countP lW;rw[List.countP_cons,List.countP_cons];omega
def J9{n:Nat}{i:Nat}(h:i<n):fg n (i:Int)=some i:=by
 unfold fg;rw[if_pos (by omega),if_pos (by omega)];rfl
def abR{i:Nat}{v:V}{σ:St}{H:Hp}{Q:St->Hp->Prop}(h:Q (σ.set i (some v)) H):jG i v σ H Q:=h
def ac6{a b:TS}{D:Ends}{σ:St}{H:Hp}(h:a {D with nx:=b D} σ H):oN a b D σ H:=h
def fU.len{n:Nat}{b:List Bool}{h:Nat}{dz bs:List Int}{j:Nat}{many wt:List Int}(H:fU n b h dz bs j many wt):wt.length<=n:=by
 have:eE n (wt.map Int.toNat):=by
  refine⟨List.pairwise_map.mpr (List.Pairwise.imp_of_mem (R:=λa b=>a≠b) (λ{a b} ha hb ne e=>ne ?_) H.nd),λc hc=>?_⟩
  ·obtain⟨x,rfl,_⟩:=H.ww a ha;obtain⟨y,rfl,_⟩:=H.ww b hb;rw[Y9,Y9]at e;rw[e]
  ·obtain⟨x,hx,rfl⟩:=Zg.mp hc;obtain⟨y,rfl,hy,_⟩:=H.ww x hx;simpa using hy
 simpa using this.len
end My
namespace L2
open PySem PySem.Spec PyProof.Rows
end L2
namespace My
open PySem L2
def qp(n:Nat):(cR n).length=n:=by simp[cR]
def aao(n:Nat):(cR n).Nodup:=by
 unfold cR;refine List.pairwise_map.mpr ?_;exact(List.nodup_range (n:=n)).imp λPg z=>Pg (by omega)
def GZ:∀{l:List Int}{i:Nat} (hi:i<l.length),l.Perm (l[i]::l.eraseIdx i)
 |a::l,0,_=>.refl _
 |a::l,i+1,hi=>by
  have:=GZ (l:=l) (i:=i) (by simpa using hi);exact(this.cons a).trans (.swap ..)
structure lE(n c:Nat)(left ends:List Int):Prop where
 len:left.length=n-c
 pm:(left++ends).Perm (cR n)
def lE.zero(n:Nat):lE n 0 (cR n) []:=⟨qp n,by rw[ZY]⟩
def lE.step{n c i:Nat}{left ends:List Int}(h:lE n c left ends)(hi:i<left.length):lE n (c+1) (left.eraseIdx i) (ends++[left[i]]):=by
 refine⟨by rw[List.length_eraseIdx_of_lt hi,h.len];omega,?_⟩;refine List.Perm.trans ?_ h.pm;have e:left.Perm (left[i]::left.eraseIdx i):=GZ hi;refine List.Perm.trans ?_ (e.symm.append_right ends);rw[<-ZZ];exact List.perm_append_comm
def lE.done{n:Nat}{left ends:List Int}(h:lE n n left ends):ends.Perm (cR n):=by
 have:left=[]:=List.length_eq_zero_iff.mp (by have:=h.len;omega);have:=h.pm;simpa[‹left=[]›]using this
structure Ph(n:Nat)(p q:Nat->Nat):Prop where
 lt:∀x,x<n->p x<n
 lt':∀x,x<n->q x<n
 l:∀x,x<n->q (p x)=x
 r:∀x,x<n->p (q x)=x
def Oh(p:Nat->Nat):En->En
 |.row i a k b=>.row i ((p a.toNat:Nat):Int) k ((p b.toNat:Nat):Int)
 |.ap i a b=>.ap i ((p a.toNat:Nat):Int) ((p b.toNat:Nat):Int)
def aap{k n:Nat}{p q:Nat->Nat}(P:Ph n p q){e:En}(h:dJ k n e):dJ k n (Oh p e):=by
 have key:∀{a:Int},aE n a->aE n ((p a.toNat:Nat):Int):=λ{a} ⟨h0,h1⟩=>⟨by omega,by have:=P.lt a.toNat (by omega);omega⟩;cases e with
 |row i a kd b=>exact⟨key h.1,h.2.1,key h.2.2⟩
 |ap i a b=>exact⟨key h.1,key h.2⟩
structure TR(R:Nat->Nat->Prop)(k:Nat)(T T':Tab):Prop where
 fn:∀{x y y'},R x y->R x y'->y=y'
 inj:∀{x x' y},R x y->R x' y->x=x'
 go:∀{x y},R x y->∀j e,cell T x j=some e->∃e':Nat,cell T' y j=some (e':Int)/\R e.toNat e'
 og:∀{x y},R x y->∀j e,cell T' y j=some e->∃e':Nat,cell T x j=some (e':Int)/\R e' e.toNat
 up:∀{x y},R x y->∀j d,cell T d j=some (x:Int)->∃d',cell T' d' j=some (y:Int)/\R d d'
 pu:∀{x y},R x y->∀j d,cell T' d j=some (y:Int)->∃d',cell T d' j=some (x:Int)/\R d' d
def TR.az{R:Nat->Nat->Prop}{k n n':Nat}{T T':Tab}(h:TR R k T T')(ok:aL k n T)(da:aL k n' T'){x y:Nat}(r:R x y){l:Int}:
  (∀d,az T x l=some d->∃e:Nat,My.az T' y l=some (e:Int)/\R d.toNat e)/\(My.az T x l=none->My.az T' y l=none):=by
 unfold My.az;by_cases z:0<l
 ·rw[if_pos z,if_pos z];refine⟨λd hd=>h.go r _ d hd,λhn=>?_⟩;cases c:cell T' y (l-1).toNat with
  |none=>rfl
  |some e=>
   obtain⟨e',h1,_⟩:=h.og r _ e c;rw[hn]at h1;cases h1
 ·rw[if_neg z,if_neg z];refine⟨λd hd=>?_,λhn=>?_⟩
  ·obtain⟨m,rfl,_,hc⟩:=(eX ok).mp hd;obtain⟨d',h1,h2⟩:=h.up r _ _ hc;exact⟨d',(eX da).mpr ⟨d',rfl,qz da h1,h1⟩,by rw[Y9];exact h2⟩
  ·cases c:pre T' (-l-1).toNat y with
   |none=>rfl
   |some e=>
    obtain⟨m,rfl,_,hc⟩:=(eX da).mp c;obtain⟨d',h1,h2⟩:=h.pu r _ _ hc;rw[(eX ok).mpr ⟨d',rfl,qz ok h1,h1⟩]at hn;cases hn
def Zs(R:Nat->Nat->Prop)(O O':List Nat):Prop:=∃zs:List (Nat×Nat),O=zs.map (·.1)/\O'=zs.map (·.2)/\∀z∈zs,R z.1 z.2
def TR.b5{R:Nat->Nat->Prop}{k n n':Nat}{T T':Tab}(h:TR R k T T')(ok:aL k n T)(da:aL k n' T'){x y:Nat}(r:R x y){l:Int}{O O':List Nat}(z:Zs R O O'):Zs R (b5 T x O l) (My.b5 T' y O' l):=by
 obtain⟨h1,h2⟩:=h.az ok da r (l:=l);unfold My.b5;cases e:My.az T x l with
 |none=>rw[h2 e];exact z
 |some d=>
  obtain⟨d',e',rd⟩:=h1 d e;rw[e'];dsimp only;rw[Y9];obtain⟨zs,rfl,rfl,hz⟩:=z
  have:d.toNat∈zs.map (·.1)↔d'∈zs.map (·.2):=by
   constructor
   ·intro m;obtain⟨w,hw,ew⟩:=Zg.mp m;have:=hz w hw;rw[ew]at this;exact Zg.mpr ⟨w,hw,h.fn this rd⟩
   ·intro m;obtain⟨w,hw,ew⟩:=Zg.mp m;have:=hz w hw;rw[ew]at this;exact Zg.mpr ⟨w,hw,h.inj this rd⟩
  by_cases m:d.toNat∈zs.map (·.1)
  ·rw[if_pos m,if_pos (this.mp m)];exact⟨zs,rfl,rfl,hz⟩
  ·rw[if_neg m,if_neg λw=>m (this.mpr w)];refine⟨zs++[(d.toNat,d')],by simp,by simp,λw hw=>?_⟩;rcases Y6.mp hw with a|a
   ·exact hz w a
   ·rw[Y1.mp a];exact rd
def TR.row{R:Nat->Nat->Prop}{k n n':Nat}{T T':Tab}(h:TR R k T T')(ok:aL k n T)(da:aL k n' T'){O O':List Nat}(z:Zs R O O'){i:Nat}(hi:i<O.length):Zs R (ky T k O i) (ky T' k O' i):=by
 have r:R (O.getD i 0) (O'.getD i 0):=by
  obtain⟨zs,rfl,rfl,hz⟩:=z;rw[Y0]at hi;have:=hz _ (ZA hi);simpa[List.getD,hi]using this
 unfold ky;generalize O.getD i 0=x at r;generalize O'.getD i 0=y at r
 have:∀(ls:List Int) (O O':List Nat),Zs R O O'->Zs R (ls.foldl (My.b5 T x) O) (ls.foldl (My.b5 T' y) O'):=by
  intro ls
  induction ls with
  |nil=>exact λ_ _ z=>z
  |cons l ls ih=>exact λO O' z=>ih _ _ (h.b5 ok da r z)
 exact this _ _ _ z
def TR.fK{R:Nat->Nat->Prop}{k n n':Nat}{T T':Tab}(h:TR R k T T')(ok:aL k n T)(da:aL k n' T'):∀(f i:Nat) (O O':List Nat),Zs R O O'->Zs R (fK T k f i O) (My.fK T' k f i O')
 |0,_,_,_,z=>z
 |f+1,i,O,O',z=>by
  have el:O.length=O'.length:=by obtain⟨zs,rfl,rfl,_⟩:=z;simp
  by_cases hl:i<O.length
  ·rw[oH hl,oH (el▸hl)];exact h.fK ok da f _ _ _ (h.row ok da z hl)
  ·rw[mF (by omega),mF (by omega)];exact z
def aaq{r r':List (Option Int)}{g g':Option Int->Option Int}(hl:r.length=r'.length)(h:∀j,g (r.getD j none)=g' (r'.getD j none)):r.map g=r'.map g':=
 List.ext_getElem (by simp[hl]) λj h1 h2=>by
  rw[Y0]at h1 h2;have:=h j;simpa[List.getD,h1,h2]using this
def TR.idx{R:Nat->Nat->Prop}{k:Nat}{T T':Tab}(h:TR R k T T'){a b:Nat}(r:R a b):∀zs:List (Nat×Nat),(∀z∈zs,R z.1 z.2)->(zs.map (·.1)).idxOf a=(zs.map (·.2)).idxOf b/\(a∈zs.map (·.1)↔b∈zs.map (·.2))
 |[],_=>⟨rfl,by simp⟩
 |z::zs,hz=>by
  obtain⟨h1,h2⟩:=h.idx r zs λw hw=>hz w (Y3 _ hw);have rz:=hz z (Y8 ..);have e:z.1=a↔z.2=b:=⟨λe=>h.fn (e▸rz) r,λe=>h.inj (e▸rz) r⟩;rw[Zq,Zq,Y4,Y4,List.idxOf_cons,List.idxOf_cons,h1, <-h2];refine⟨?_,by rw[eq_comm,e,eq_comm]⟩;by_cases w:z.1=a
  ·rw[beq_iff_eq.mpr w,beq_iff_eq.mpr (e.mp w)]
  ·rw[ZH.mpr w,ZH.mpr λv=>w (e.mpr v)]
def TR.a9{R:Nat->Nat->Prop}{k n n':Nat}{T T':Tab}(h:TR R k T T')(ok:aL k n T)(da:aL k n' T'){O O':List Nat}(z:Zs R O O')(lt:∀c∈O,c<n)(lt':∀c∈O',c<n'):a9 T O=My.a9 T' O':=by
 obtain⟨zs,rfl,rfl,hz⟩:=z;unfold My.a9;rw[ZK,ZK];refine Z1 λw hw=>?_;have r:=hz w hw;have l1:=lt _ (Zg.mpr ⟨w,hw,rfl⟩);have l2:=lt' _ (Zg.mpr ⟨w,hw,rfl⟩);have rl:(T.getD w.1 []).length=k:=ok.row _ (by rw[List.getD,Zc (by rw[ok.len];exact l1)];exact ZA _);have rl':(T'.getD w.2 []).length=k:=da.row _ (by rw[List.getD,Zc (by rw[da.len];exact l2)];exact ZA _);refine aaq (by rw[rl,rl']) λj=>?_;show rn _ (cell T w.1 j)=rn _ (cell T' w.2 j);cases c:cell T w.1 j with
 |none=>
  cases c':cell T' w.2 j with
  |none=>rfl
  |some e=>obtain⟨e',h1,_⟩:=h.og r _ e c';rw[c]at h1;cases h1
 |some e=>
  obtain⟨e',h1,h2⟩:=h.go r _ e c;rw[h1];obtain⟨i1,i2⟩:=h.idx h2 zs hz;unfold rn;dsimp only[Option.bind];rw[Y9,i1];by_cases m:e.toNat∈zs.map (·.1)
  ·rw[if_pos m,if_pos (i2.mp m)]
  ·rw[if_neg m,if_neg λv=>m (i2.mpr v)]
def pI(ns:List Int)(x:Nat):Nat:=(ns.getD x 0).toNat
def xC(ns:List Int)(y:Nat):Nat:=ns.idxOf ((y:Nat):Int)
def vm{n:Nat}{x:Int}:x∈cR n↔0<=x/\x<n:=by
 unfold cR;rw[Zg];constructor
 ·rintro⟨y,hy,rfl⟩;have:=ZU.mp hy;omega
 ·rintro⟨h0,h1⟩;exact⟨x.toNat,ZU.mpr (by omega),by omega⟩
def abS{n:Nat}{ns:List Int}(h:ns.Perm (cR n)):Ph n (pI ns) (xC ns):=by
 have ln:ns.length=n:=by rw[h.length_eq,qp]
 have nd:ns.Nodup:=h.nodup_iff.mpr (aao n);have rg:∀x,x<n->0<=ns.getD x 0/\ns.getD x 0<n:=λx hx=>vm.mp (h.mem_iff.mp (getD_mem (by rw[ln];exact hx)));have mm:∀y:Nat,y<n->((y:Nat):Int)∈ns:=λy hy=>h.mem_iff.mpr (vm.mpr (by omega));refine⟨λx hx=>?_,λy hy=>?_,λx hx=>?_,λy hy=>?_⟩
 ·have:=rg x hx;unfold pI;omega
 ·unfold xC;have:=Z0 (mm y hy);omega
 ·have:=rg x hx;unfold xC pI;rw[Zw this.1];have hx:x<ns.length:=by omega
  rw[show ns.getD x 0=ns[x]by simp[List.getD,hx]];exact nd.idxOf_getElem x hx
 ·unfold pI xC;have hl:=Z0 (mm y hy);rw[show ns.getD (ns.idxOf ((y:Nat):Int)) 0=ns[ns.idxOf ((y:Nat):Int)]by simp[List.getD,hl],List.getElem_idxOf];omega
def vP{n:Nat}{ns:List Int}(h:ns.Perm (cR n)){a:Int}(ha:aE n a):ns.getD a.toNat 0=((pI ns a.toNat:Nat):Int):=by
 obtain⟨a0,a1⟩:=ha;have:=vm.mp (h.mem_iff.mp (getD_mem (a:=a.toNat) (by rw[h.length_eq,qp];omega)));unfold pI;omega
inductive ID(vs:List V)(H:Hp)(Q:VK)(aA:XK):Prop
 |mk (n:Nat) (ld:Addr) (ds:List Int) (_:vs=[.int n,.ref ld]) (_:ay H ld ds) (_:n<=1000) (_:n<=ds.length) (_:∀(l:Addr) (ns:List Int) (H':Hp),H l=none->ay H' l ns->ns.Perm (cR n)->aa H H'->Q (.ref l) H'):ID vs H Q aA
def LG:Sp:=ID
inductive Gv(vs:List V)(H:Hp)(Q:VK)(aA:XK):Prop
 |mk (k n:Nat) (t ln:Addr) (e:En) (ns:List Int) (_:vs=[.ref t,.ref ln]) (_:H t=some (.tup e.told)) (_:ay H ln ns) (_:dJ k n e) (_:ns.Perm (cR n)) (_:∀(t':Addr) (H':Hp),H' t'=some (.tup (Oh (pI ns) e).told)->aa H H'->Q (.ref t') H'):Gv vs H Q aA
def IE:Sp:=Gv
def oX(T:Tab)(k:Nat)(S:Nat->Bool)(c:Nat):Nat:=(lets k).countP λl=>match az T c l with
 |some d=>S d.toNat
 |none=>false
def M3(T:Tab)(k:Nat)(b:List Bool)(c:Nat):jh T k b c=oX T k (lv b) c:=rfl
def uq(T:Tab)(k:Nat)(S:Nat->Bool):Prop:=∀c,S c=true->c≠0->2<=oX T k S c
def IF{T:Tab}{k:Nat}{S S':Nat->Bool}(h:∀c,S c=true->S' c=true)(c:Nat):oX T k S c<=oX T k S' c:=by
 unfold oX;refine List.countP_mono_left λl _ e=>?_;cases d:az T c l with
 |none=>rw[d]at e;cases e
 |some d'=>rw[d]at e;exact h _ e
def Ve{T:Tab}{k:Nat}{S:Nat->Bool}{b:List Bool}{h:Nat}(cl:uq T k S)(s:∀c,S c=true->lv b c=true)(h0:h≠0)(c1:jh T k b h<=1):∀c,S c=true->lv (b.set h false) c=true:=by
 intro c hc;rw[oI,s c hc,Bool.true_and];by_cases z:c=h
 ·subst z;have h1:=cl c hc h0;have h2:=IF (T:=T) (k:=k) s c;rw[<-M3]at h2;omega
 ·rw[ZO z];rfl
def Fu(n:Nat)(b:List Bool)(many wt:List Int):Prop:=∀c,c<n->c≠0->lv b c=true->many.getD c 0<=1->((c:Nat):Int)∈wt
def Fu.pop{n:Nat}{b:List Bool}{many wt:List Int}{h:Nat}(f:Fu n b many (wt++[(h:Int)])):Fu n (b.set h false) many wt:=λc hc c0 hl hm=>by
 rw[oI,Bool.and_eq_true_iff]at hl;rcases Y6.mp (f c hc c0 hl.1 hm)with m|m
 ·exact m
 ·have e:=Y1.mp m;have e:c=h:=by omega
  have:=hl.2;rw[ZN e]at this;cases this
def Fu.step{n:Nat}{b:List Bool}{many wt:List Int}(f:Fu n b many wt){o:Nat}(ol:o<many.length)(no:¬(lv b o=true/\o≠0/\many.getD o 0-1=1)):Fu n b (many.set o (many.getD o 0-1)) wt:=λc hc c0 hl hm=>by
 rw[oh ol]at hm;by_cases z:c=o
 ·subst z;rw[if_pos rfl]at hm;by_cases e:many.getD c 0-1=1
  ·exact absurd ⟨hl,c0,e⟩ no
  ·exact f c hc c0 hl (by omega)
 ·rw[if_neg z]at hm;exact f c hc c0 hl hm
def Fu.more{n:Nat}{b:List Bool}{many wt:List Int}(f:Fu n b many wt){o:Nat}(ol:o<many.length):Fu n b (many.set o (many.getD o 0-1)) (wt++[(o:Int)]):=λc hc c0 hl hm=>by
 rw[oh ol]at hm;by_cases z:c=o
 ·subst z;exact Za _ (Y1.mpr rfl)
 ·rw[if_neg z]at hm;exact Zb _ (f c hc c0 hl hm)
def Fu.done{T:Tab}{k n:Nat}{b:List Bool}{many:List Int}(h:kY T k n b many [])(f:Fu n b many []):uq T k (lv b):=λc hc c0=>by
 have cn:c<n:=by
  have:=h.lb;unfold lv at hc;rcases Nat.lt_or_ge c n with z|z
  ·exact z
  ·rw[List.getD,ZI (by omega)]at hc;cases hc
 rw[<-M3];rcases Nat.lt_or_ge 1 (jh T k b c)with z|z
 ·exact z
 ·have:=f c cn c0 hc (by rw[h.ct c cn hc];omega);cases this
def lX(T:Tab)(k n:Nat)(b:List Bool):Prop:=∀S:Nat->Bool,uq T k S->(∀c,S c=true->c<n)->∀c,S c=true->lv b c=true
def lX.zero{T:Tab}{k n:Nat}:lX T k n (List.replicate n true):=λS _ lt c hc=>by rw[vO];exact ZN (lt c hc)
def lX.step{T:Tab}{k n:Nat}{b:List Bool}{h:Nat}(B:lX T k n b)(h0:h≠0)(c1:jh T k b h<=1):lX T k n (b.set h false):=λS cl lt=>Ve cl (B S cl lt) h0 c1
inductive FX(C:Addr)(vs:List V)(H:Hp)(Q:VK)(aA:XK):Prop
 |mk (g:Addr) (k n:Nat) (T:Tab) (fp:List Addr) (_:vs=[.ref g]) (_:cj C H g k n T fp) (_:(∀c,c<n->c≠0->1<=(cV T k c).length)) (_:∀(l:Addr) (b:List Bool) (H':Hp),H l=none->ay H' l ((je n b).map λ(c:Nat)=>(c:Int))->b.length=n->Av T k b->lv b 0=true->uq T k (lv b)->lX T k n b->aa H H'->Q (.ref l) H'):FX C vs H Q aA
def Gw(C:Addr):Sp:=FX C
def aar{k n:Nat}{T:Tab}(ok:aL k n T)(n1:1<=n):∀i,i<(met T k n 0).length->i≠0->1<=(cV (a9 T (met T k n 0)) k i).length:=by
 intro i hi i0;have mi:=cL ok (k:=k) (show 0<n by omega);have tr:Tree T k n:=⟨ok,by omega⟩;generalize eo:met T k n 0=ord at *;have hm:ord[i]∈met T k n 0:=by rw[eo];exact ZA hi
 have h0:ord[0]?=some 0:=by rw[<-eo];exact Aa
 obtain⟨l0,e0⟩:=ZL.mp h0;have ne:ord[i]≠0:=λz=>i0 ((List.getElem_inj mi.1.nd).mp (z.trans e0.symm));have wk:=tr.wk hm;have ll:=tr.ll hm;rcases List.eq_nil_or_concat (wy T k n ord[i])with e|⟨u,l,e⟩
 ·rw[e]at wk;have:((0:Nat):Int)=((ord[i]:Nat):Int):=Zf wk;omega
 ·rw[List.concat_eq_append]at e;rw[e,mE]at wk;have lk:=ll l (by rw[e];exact Za _ (Y1.mpr rfl));cases d1:aG T (some ((0:Nat):Int)) u with
  |none=>rw[d1]at wk;cases wk
  |some d=>
   rw[d1]at wk;have wk:az T d.toNat l=some ((ord[i]:Nat):Int):=wk;have rd:=iZ ok (show(0:Int)<=((0:Nat):Int)/\((0:Nat):Int)<n by omega) d1;have bk:=gQ ok lk.1 (show d.toNat<n by omega) wk;have Pj:Let k (-l):=⟨by have:=lk.1;omega,by have:=lk.2.2;omega,by have:=lk.2.1;omega⟩
   have dm:d.toNat∈ord:=by
    have:=mi.2.2 ord[i] (ZA hi) (-l) Pj _ bk
    rwa [Y9]at this
   have:((ord.idxOf d.toNat:Nat):Int)∈cV (a9 T ord) k i:=by
    refine List.mem_filterMap.mpr ⟨-l,j6.mpr Pj,?_⟩;rw[sP ok mi.1.nd mi.1.lt hi,bk];unfold rn;dsimp only[Option.bind];rw[Y9,if_pos dm]
   exact List.length_pos_of_mem this
structure qN(T:Tab)(k n:Nat)(b:List Bool):Prop where
 lb:b.length=(met T k n 0).length
 z:lv b 0=true
 cl:uq (a9 T (met T k n 0)) k (lv b)
 big:lX (a9 T (met T k n 0)) k (met T k n 0).length b
def tM(T:Tab)(k n:Nat)(b:List Bool):Tab:=a9 (a9 T (met T k n 0)) (je (met T k n 0).length b)
def fV(T:Tab)(k n:Nat)(b:List Bool):Tab:=a9 (tM T k n b) (met (tM T k n b) k (je (met T k n 0).length b).length 0)
def Ka{T:Tab}{k:Nat}:∀(f i:Nat) (O:List Nat),(fK T k f i O).length<=i+f->∀g,fK T k (f+g) i O=fK T k f i O
 |0,i,O,h,g=>by
  have h:O.length<=i:=h;rw[mF h,mF h]
 |f+1,i,O,h,g=>by
  by_cases hl:i<O.length
  ·rw[show f+1+g=(f+g)+1 by omega,oH hl,oH hl];rw[oH hl]at h;exact Ka f (i+1) _ (by omega) g
  ·rw[mF (by omega),mF (by omega)]
def Vf(n:Nat)(b:List Bool):(je n b).length<=n:=by
 have:=List.length_filter_le (lv b) (List.range n)
 rwa [Z4]at this
def ad7{b:List Bool}{n c:Nat}(lb:b.length=n)(h:lv b c=true):c<n:=by
 unfold lv at h;rcases Nat.lt_or_ge c n with z|z
 ·exact z
 ·rw[List.getD,ZI (by omega)]at h;cases h
def endsN(T:Tab)(k c:Nat):Nat:=(lets k).countP λl=>(az T c l).isSome
def Vg(k:Nat):lets (k+1)=lets k++[1+(k:Int), -(1+(k:Int))]:=by
 unfold lets;rw[List.range_succ,List.flatMap_append];rfl
def Xh{k n:Nat}{T:Tab}(ok:aL k n T){ord:List Nat}(nd:ord.Nodup)(lt:∀c∈ord,c<n){i:Nat}(hi:i<ord.length):endsN (a9 T ord) k i=oX T k (λd=>decide (d∈ord)) ord[i]:=by
 unfold endsN oX;refine List.countP_congr λl _=>?_;rw[sP ok nd lt hi];cases e:az T ord[i] l with
 |none=>exact Iff.rfl
 |some d=>
  unfold rn;dsimp only[Option.bind];by_cases m:d.toNat∈ord
  ·rw[if_pos m,ZN m];exact Iff.rfl
  ·rw[if_neg m,ZO m];exact Iff.rfl
end My
namespace L2
open PySem PySem.Spec PyProof.Rows
end L2
namespace My
open PySem L2
def LH:∀k,(lets k).Nodup
 |0=>by unfold lets;simp
 |k+1=>by
  rw[Vg];refine List.nodup_append.mpr ⟨LH k,?_,λa ha b hb e=>?_⟩
  ·refine ZG.mpr ⟨λh=>?_,by simp⟩;have:=Y1.mp h;omega
  ·have lk:=j6.mp ha;have h1:=lk.2.1;have h2:=lk.2.2;rcases Y4.mp hb with z|z
   ·omega
   ·have:=Y1.mp z;omega
end My
namespace L2
open PySem PySem.Spec PyProof.Rows
end L2
namespace My
open PySem L2
def LJ{k n:Nat}{T:Tab}(ok:aL k n T){ord:List Nat}(nd:ord.Nodup)(lt:∀c∈ord,c<n)(cl:∀c∈ord,∀l,Let k l->∀d,az T c l=some d->d.toNat∈ord):
  ∀(w:List Int),(∀l∈w,Let k l)->∀(i:Nat) (hi:i<ord.length),aG (a9 T ord) (some (i:Int)) w=rn ord (aG T (some ((ord[i]:Nat):Int)) w)
 |[],_,i,hi=>by
  show some (i:Int)=rn ord (some ((ord[i]:Nat):Int));unfold rn;dsimp only[Option.bind];rw[Y9,if_pos (ZA hi),qa nd hi]
 |l::w,hl,i,hi=>by
  rw[dG,dG,Y9,Y9,sP ok nd lt hi];cases e:az T ord[i] l with
  |none=>
   show aG _ none w=rn ord (aG T none w);rw[fN,fN];rfl
  |some d=>
   have md:=cl _ (ZA hi) l (hl l (Y8 ..)) d e;have hx:=List.idxOf_lt_length_iff.mpr md;have rd:=eB ok e;have ih:=LJ ok nd lt cl w (λl h=>hl l (Y3 _ h)) _ hx
   have er:rn ord (some d)=some ((ord.idxOf d.toNat:Nat):Int):=by
    unfold rn;dsimp only[Option.bind];rw[if_pos md]
   rw[er,ih,List.getElem_idxOf,Zw rd.1]
def LK{k nn m:Nat}{ch:List Int}{rs:List (List Int)}(ck:iK k nn m ch rs){M:Mo}{f:Nat->Int}(fa:∀x y,x<m->y<m->ch.getD x 0=ch.getD y 0->f x=f y)(hf:M.Fits f rs):
  ∀(w:List Int) (x:Nat) (d:Int),x<m->(∀l∈w,Let k l)->aG (gq k nn ch rs) (some (ch.getD x 0)) w=some d->∀y,y<m->ch.getD y 0=d->M.wk (f x) w=f y
 |[],x,d,hx,_,h,y,hy,e=>fa x y hx hy (by rw[e];exact Zf h)
 |l::w,x,d,hx,hl,h,y,hy,e=>by
  rw[dG]at h;have rx:=ck.bA _ (getD_mem (l:=ch) (a:=x) (by rw[ck.len];exact hx));obtain⟨l0,l1,l2⟩:=hl l (Y8 ..);have tok:=qK ck;have lV:=(Bc ck).lV
  have step:∀z,z<m->az (gq k nn ch rs) (ch.getD x 0).toNat l=some (ch.getD z 0)->M.go (f x) l=f z->M.wk (f x) (l::w)=f y:=λz hz e1 e2=>by
   rw[e1]at h;show M.wk (M.go (f x) l) w=f y;rw[e2];exact LK ck fa hf w z d hz (λl' h'=>hl l' (Y3 _ h')) h y hy e
  cases es:az (gq k nn ch rs) (ch.getD x 0).toNat l with
  |none=>rw[es,fN]at h;cases h
  |some q=>
   unfold az at es;by_cases z:0<l
   ·rw[if_pos z]at es;obtain⟨r,hr,r1,r2,r3⟩:=(lV _ _ _).mp es;have b1:=((ck.row r hr).1.mk 1).2;have b2:=((ck.row r hr).1.mk (-1)).2;refine step (My.mk r (-1)) b2 (by unfold az;rw[if_pos z,es,r3]) ?_;have:=hf r hr;rw[show r.getD 2 0=l by omega]at this;unfold Mo.go;rw[if_pos z,fa x (My.mk r 1) hx b1 (by omega),this]
   ·rw[if_neg z]at es;obtain⟨p,rfl,hp,ec⟩:=(eX tok).mp es;obtain⟨r,hr,r1,r2,r3⟩:=(lV _ _ _).mp ec;have b1:=((ck.row r hr).1.mk 1).2;have b2:=((ck.row r hr).1.mk (-1)).2;refine step (My.mk r 1) b1 (by unfold az;rw[if_neg z,es,r1]) ?_;have:=hf r hr;rw[show r.getD 2 0= -l by omega]at this;unfold Mo.go;rw[if_neg z,fa x (My.mk r (-1)) hx b2 (by omega), <-this,M.l]
abbrev nP:=List (Int×Int×Int)
def iR(E:nP)(x l y:Int):Prop:=if 0<l then(x,l,y)∈E else(y, -l,x)∈E
structure kI(E:nP)(n:Int):Prop where
 inj:∀p∈E,∀q∈E,p.2.1=q.2.1->(p.1=q.1↔p.2.2=q.2.2)
 lt:∀p∈E,p.1<n/\p.2.2<n
def kI.mo{E:nP}{n:Int}(h:kI E n):∃M:Mo,∀p∈E,M.s p.2.1 p.1=p.2.2:=by
 have H:∀k:Int,∃s t:Int->Int,(∀x,t (s x)=x)/\(∀x,s (t x)=x)/\∀p∈E,p.2.1=k->s p.1=p.2.2:=λk=>by
  obtain⟨s,t,a,b,c⟩:=zT ((E.filter λp=>p.2.1==k).map λp=>(p.1,p.2.2)) λp hp q hq=>by
   obtain⟨x,hx,rfl⟩:=Zg.mp hp;obtain⟨y,hy,rfl⟩:=Zg.mp hq;obtain⟨hx,ex⟩:=ZT.mp hx;obtain⟨hy,ey⟩:=ZT.mp hy;exact h.inj x hx y hy ((eq_of_beq ex).trans (eq_of_beq ey).symm)
  exact⟨s,t,a,b,λp hp e=>c (p.1,p.2.2) (Zg.mpr ⟨p,ZT.mpr ⟨hp,beq_iff_eq.mpr e⟩,rfl⟩)⟩
 refine⟨⟨λk=>Classical.choose (H k),λk=>Classical.choose (Classical.choose_spec (H k)),λk=>(Classical.choose_spec (Classical.choose_spec (H k))).1,λk=>(Classical.choose_spec (Classical.choose_spec (H k))).2.1⟩,λp hp=>?_⟩;exact(Classical.choose_spec (Classical.choose_spec (H p.2.1))).2.2 p hp rfl
def vQ{E:nP}{M:Mo}(h:∀p∈E,M.s p.2.1 p.1=p.2.2){x l y:Int}(s:iR E x l y):M.go x l=y:=by
 unfold iR at s;unfold Mo.go;by_cases z:0<l
 ·rw[if_pos z]at s⊢;exact h _ s
 ·rw[if_neg z]at s⊢;have:M.s (-l) y=x:=h _ s;rw[<-this,M.l]
def kI.more{E:nP}{n x l:Int}(h:kI E n)(hx:x<n)(l0:l≠0)(no:∀y,¬iR E x l y):∃E':nP,kI E' (n+1)/\(∀p∈E,p∈E')/\iR E' x l n/\∀l',l'≠ -l->∀y,¬iR E' n l' y:=by
 unfold iR at no;by_cases z:0<l
 ·simp only[if_pos z]at no;refine⟨(x,l,n)::E,⟨λp hp q hq e=>?_,λp hp=>?_⟩,λp hp=>Y3 _ hp,by unfold iR;rw[if_pos z];exact Y8 ..,λl' ju y s=>?_⟩
  ·rcases Y4.mp hp with rfl|hp<;>rcases Y4.mp hq with rfl|hq
   ·simp
   ·have:=h.lt q hq;constructor
    ·intro e2;have e2:x=q.1:=e2;have e:l=q.2.1:=e;exact absurd (by rw[e2,e];exact hq) (no q.2.2)
    ·intro e2;have e2:n=q.2.2:=e2;omega
   ·have:=h.lt p hp;constructor
    ·intro e2;have e2:p.1=x:=e2;have e:p.2.1=l:=e;exact absurd (by rw[<-e2, <-e];exact hp) (no p.2.2)
    ·intro e2;have e2:p.2.2=n:=e2;omega
   ·exact h.inj p hp q hq e
  ·rcases Y4.mp hp with rfl|hp
   ·exact⟨by show x<n+1;omega,by show n<n+1;omega⟩
   ·have:=h.lt p hp;omega
  ·unfold iR at s;by_cases w:0<l'
   ·rw[if_pos w]at s;rcases Y4.mp s with e|s
    ·injection e with e1 _;omega
    ·have:=(h.lt _ s).1;simp only at this;omega
   ·rw[if_neg w]at s;rcases Y4.mp s with e|s
    ·injection e with _ e;injection e with e1 _;omega
    ·have:=(h.lt _ s).2;simp only at this;omega
 ·simp only[if_neg z]at no;refine⟨(n, -l,x)::E,⟨λp hp q hq e=>?_,λp hp=>?_⟩,λp hp=>Y3 _ hp,by unfold iR;rw[if_neg z];exact Y8 ..,λl' ju y s=>?_⟩
  ·rcases Y4.mp hp with rfl|hp<;>rcases Y4.mp hq with rfl|hq
   ·simp
   ·have:=h.lt q hq;constructor
    ·intro e2;have e2:n=q.1:=e2;omega
    ·intro e2;have e2:x=q.2.2:=e2;have e: -l=q.2.1:=e;exact absurd (by rw[e2,e];exact hq) (no q.1)
   ·have:=h.lt p hp;constructor
    ·intro e2;have e2:p.1=n:=e2;omega
    ·intro e2;have e2:p.2.2=x:=e2;have e:p.2.1= -l:=e;exact absurd (by rw[<-e2, <-e];exact hp) (no p.1)
   ·exact h.inj p hp q hq e
  ·rcases Y4.mp hp with rfl|hp
   ·exact⟨by show n<n+1;omega,by show x<n+1;omega⟩
   ·have:=h.lt p hp;omega
  ·unfold iR at s;by_cases w:0<l'
   ·rw[if_pos w]at s;rcases Y4.mp s with e|s
    ·injection e with _ e;injection e with e1 _;omega
    ·have:=(h.lt _ s).1;simp only at this;omega
   ·rw[if_neg w]at s;rcases Y4.mp s with e|s
    ·injection e with e1 e;injection e with e2 e3;omega
    ·have:=(h.lt _ s).2;simp only at this;omega
def kI.out:∀(r:List Int) (E:nP) (n x:Int),kI E n->x<n->Red r->(∀l∈r,l≠0)->(∀l,r.head?=some l->∀y,¬iR E x l y)->r≠[]->∃M:Mo,(∀p∈E,M.s p.2.1 p.1=p.2.2)/\n<=M.wk x r
 |[],_,_,_,_,_,_,_,_,z=>absurd rfl z
 |l::r,E,n,x,h,hx,rd,nz,no,_=>by
  obtain⟨E',h',sub,st,no'⟩:=h.more hx (nz l (Y8 ..)) (no l rfl);cases r with
  |nil=>
   obtain⟨M,hM⟩:=h'.mo;refine⟨M,λp hp=>hM p (sub p hp),?_⟩;show n<=M.go x l;rw[vQ hM st];exact Int.le_refl _
  |cons l2 r=>
   have rC:=rd;rw[show l::l2::r=[l]++(l2::r)from rfl,sf]at rC;obtain⟨M,hM,le⟩:=kI.out (l2::r) E' (n+1) n h' (by omega) rC.2.1 (λy hy=>nz y (Y3 _ hy)) (λl' e y=>no' l' (by rw[<-Zf e];exact rC.2.2 l l2 rfl rfl) y) (List.cons_ne_nil _ _);refine⟨M,λp hp=>hM p (sub p hp),?_⟩;show n<=M.wk (M.go x l) (l2::r);rw[vQ hM st];omega
def rD(T:Tab)(k n:Nat):nP:=(List.range n).flatMap λc=>(List.range k).filterMap λj=>(cell T c j).map λe=>((c:Int),(j:Int)+1,e)
def qB{T:Tab}{k n:Nat}{p:Int×Int×Int}:p∈rD T k n↔∃c j e,c<n/\j<k/\cell T c j=some e/\p=((c:Int),(j:Int)+1,e):=by
 unfold rD;simp only[List.mem_flatMap,ZU,List.mem_filterMap,Option.map_eq_some_iff];constructor
 ·rintro⟨c,hc,j,hj,e,he,rfl⟩;exact⟨c,j,e,hc,hj,he,rfl⟩
 ·rintro⟨c,j,e,hc,hj,he,rfl⟩;exact⟨c,hc,j,hj,e,he,rfl⟩
def LM{T:Tab}{k n:Nat}(ok:aL k n T):kI (rD T k n) n:=by
 refine⟨λp hp q hq e=>?_,λp hp=>?_⟩
 ·obtain⟨c,j,x,_,_,ec,rfl⟩:=qB.mp hp;obtain⟨d,i,y,_,_,ed,rfl⟩:=qB.mp hq;have e:(j:Int)+1=(i:Int)+1:=e;obtain rfl:j=i:=by omega
  show(c:Int)=(d:Int)↔x=y;constructor
  ·intro z;obtain rfl:c=d:=by omega
   rw[ec]at ed;exact Zf ed
  ·rintro rfl;rw[ok.inj _ _ _ _ ec ed]
 ·obtain⟨c,j,x,hc,_,ec,rfl⟩:=qB.mp hp;exact⟨by show(c:Int)<n;omega,(ok.bA _ _ _ ec).2⟩
def AH{T:Tab}{k n:Nat}(ok:aL k n T){c:Nat}{l y:Int}(hl:Let k l)(h:c<n):iR (rD T k n) c l y↔az T c l=some y:=by
 obtain⟨l0,l1,l2⟩:=hl;unfold iR az;by_cases z:0<l
 ·rw[if_pos z,if_pos z,qB];constructor
  ·rintro⟨c',j,e,_,_,ec,q⟩;injection q with q1 q;injection q with q2 q3
   obtain rfl:c=c':=by omega
   rw[show(l-1).toNat=j by omega,ec,q3]
  ·intro e;exact⟨c,(l-1).toNat,y,h,by omega,e,by rw[show(((l-1).toNat:Nat):Int)+1=l by omega]⟩
 ·rw[if_neg z,if_neg z,qB,eX ok];constructor
  ·rintro⟨c',j,e,dA,_,ec,q⟩;injection q with q1 q;injection q with q2 q3
   refine⟨c',q1,dA,?_⟩;rw[show(-l-1).toNat=j by omega,ec,q3]
  ·rintro⟨m,rfl,hm,ec⟩;exact⟨m,(-l-1).toNat,_,hm,by omega,ec,by rw[show(((-l-1).toNat:Nat):Int)+1= -l by omega]⟩
def LN{T:Tab}{k n:Nat}(ok:aL k n T):∀(v:List Int) (c:Nat),c<n->Red v->(∀l∈v,Let k l)->aG T (some (c:Int)) v=none->∃M:Mo,(∀p∈rD T k n,M.s p.2.1 p.1=p.2.2)/\(n:Int)<=M.wk c v
 |[],_,_,_,_,h=>nomatch h
 |l::r,c,hc,rd,hl,h=>by
  have l0:=hl l (Y8 ..);cases e:az T c l with
  |none=>
   exact kI.out (l::r) _ n c (LM ok) (by omega) rd (λy hy=>(hl y hy).1) (λl' e' y s=>by
    obtain rfl:=Zf e';rw[(AH ok l0 hc).mp s]at e;cases e) (List.cons_ne_nil _ _)
  |some d=>
   have rd':=eB ok e;obtain⟨d,rfl⟩:∃d':Nat,d=(d':Int):=⟨d.toNat,by omega⟩;rw[dG,Y9,e]at h;have rC:=rd;rw[show l::r=[l]++r from rfl,sf]at rC;obtain⟨M,hM,le⟩:=LN ok r d (by omega) rC.2.1 (λy hy=>hl y (Y3 _ hy)) h;refine⟨M,hM,?_⟩;show(n:Int)<=M.wk (M.go c l) r;rw[vQ hM ((AH ok l0 hc).mpr e)];exact le
def Bk.fa{C g lh:Addr}{H:Hp}{B:Bk}{rest:List Addr}(h:aZ C H g lh B rest){M:Mo}{f:Nat->Int}(hf:M.Fits f (rowsOf B.es)):∀x y,x<B.n->y<B.n->(rk B.ax).getD x 0=(rk B.ax).getD y 0->f x=f y:=λx y hx hy e=>by
 have hF:FL B.n (rowsOf B.es) [] B.ax:=Bz λr hr=>(mB h.k5 h.ok r hr).1;have ll:=hF.1.ax.len;exact(hF.iff hx hy).mp ((By (by rw[ll];exact hx) (by rw[ll];exact hy)).mp e) M f hf λ_ z=>nomatch z
def Bk.Vh{C g lh:Addr}{H:Hp}{B:Bk}{rest:List Addr}(h:aZ C H g lh B rest){a b:Int}{ws:List Int}(ha:aE B.n a)(hb:aE B.n b)(hl:∀l∈ws,Let B.k l):
  fT (rowsOf B.es) a ws b↔aG B.tab (some ((rk B.ax).getD a.toNat 0)) (cut ws)=some ((rk B.ax).getD b.toNat 0):=by
 have ck:=Bk.tL h;have tok:aL B.k B.bW B.tab:=qK ck;obtain⟨a0,a1⟩:=id ha;obtain⟨b0,b1⟩:=id hb;have la:=ck.bA _ (getD_mem (l:=rk B.ax) (a:=a.toNat) (by rw[ck.len];omega));have lb:=ck.bA _ (getD_mem (l:=rk B.ax) (a:=b.toNat) (by rw[ck.len];omega));have lc:∀l∈cut ws,Let B.k l:=Lc hl;constructor
 ·intro hm
  have key:∀M:Mo,(∀p∈rD B.tab B.k B.bW,M.s p.2.1 p.1=p.2.2)->M.wk ((rk B.ax).getD a.toNat 0) (cut ws)=(rk B.ax).getD b.toNat 0:=λM hM=>by
   rw[M.cut (vG hl)];refine hm M (λx=>(rk B.ax).getD x 0) λr hr=>?_;have ra:=ck.at hr 1;have aeQ:=(ck.row r hr).2;have:cell B.tab ((rk B.ax).getD (My.mk r 1) 0).toNat (r.getD 2 0-1).toNat=some ((rk B.ax).getD (My.mk r (-1)) 0):=((Bc ck).lV _ _ _).mpr ⟨r,hr,by omega,by omega,rfl⟩;have:=hM _ (qB.mpr ⟨_,_,_,by omega,by omega,this,rfl⟩);dsimp only at this;rw[show((((rk B.ax).getD (My.mk r 1) 0).toNat:Nat):Int)=(rk B.ax).getD (My.mk r 1) 0 by omega,show(((r.getD 2 0-1).toNat:Nat):Int)+1=r.getD 2 0 by omega]at this;exact this
  cases e:aG B.tab (some ((rk B.ax).getD a.toNat 0)) (cut ws)with
  |none=>
   obtain⟨c,ec⟩:∃c:Nat,(rk B.ax).getD a.toNat 0=(c:Int):=⟨((rk B.ax).getD a.toNat 0).toNat,by omega⟩;rw[ec]at e;obtain⟨M,hM,le⟩:=LN tok (cut ws) c (by omega) (Iv ws) lc e;have:=key M hM;rw[ec]at this;omega
  |some d=>
   have rd:=iZ tok (by omega) e;obtain⟨M,hM⟩:=(LM tok).mo
   have go:∀(w:List Int) (c d:Int),0<=c/\c<B.bW->(∀l∈w,Let B.k l)->aG B.tab (some c) w=some d->M.wk c w=d:=by
    intro w
    induction w with
    |nil=>intro c d _ _ h;exact Zf h
    |cons l w ih=>
     intro c d hc hl h;rw[dG]at h;cases es:az B.tab c.toNat l with
     |none=>rw[es,fN]at h;cases h
     |some x=>
      rw[es]at h;have:=vQ hM ((AH tok (hl l (Y8 ..)) (by omega)).mpr es);rw[Zw hc.1]at this;show M.wk (M.go c l) w=d;rw[this];exact ih x d (eB tok es) (λy hy=>hl y (Y3 _ hy)) h
   rw[<-go _ _ _ (by omega) lc e,key M hM]
 ·intro e M f hf;rw[<-M.cut (vG hl)];exact LK ck (Bk.fa h hf) hf (cut ws) a.toNat _ (by omega) lc e b.toNat (by omega) rfl
def Xi{k n:Nat}{T:Tab}(ok:aL k n T){c:Nat}(hc:c<n){w:List Int}(hl:∀l∈w,Let k l):aG (a9 T (met T k n c)) (some 0) w=some 0↔aG T (some (c:Int)) w=some (c:Int):=by
 have mi:=cL ok (k:=k) hc;have hd:=Aa (T:=T) (k:=k) (n:=n) (base:=c);have p1:=List.length_pos_of_mem mi.2.1;have h1:=LJ ok mi.1.nd mi.1.lt mi.2.2 w hl 0 p1;obtain⟨l0,e0⟩:=ZL.mp hd;have nd:=mi.1.nd;have mc:=mi.2.1;generalize met T k n c=ord at *;rw[e0,show((0:Nat):Int)=0 from rfl]at h1;rw[h1];constructor
 ·intro h;obtain⟨a,ea,ma,e1⟩:=ot h;have i0:ord.idxOf a.toNat=0:=by omega
  have ga:=List.getElem_idxOf (List.idxOf_lt_length_iff.mpr ma);simp only[i0]at ga;rw[e0]at ga;have:=iZ ok ⟨by omega,by omega⟩ ea;rw[ea,show a=(c:Int)by omega]
 ·intro h;rw[h];unfold rn;dsimp only[Option.bind];rw[Y9,if_pos mc];have:=qa nd l0;rw[e0]at this;rw[this];rfl
def IG{es:List En}{a b:Int}{ws:List Int}:V.str (wordOf es a ws b)=V.str "must"↔fT (rowsOf es) a ws b:=by
 constructor
 ·intro h;have h:=V.str.inj h;rcases T3 es a ws b with⟨m,_⟩|⟨_,_,e⟩|⟨_,_,e⟩
  ·exact m
  ·rw[e]at h;exact absurd h (by decide)
  ·rw[e]at h;exact absurd h (by decide)
 ·intro m;unfold wordOf;rw[if_pos m]
end My
namespace L2
open PySem PySem.Spec PyProof.Rows PySem.Builtin PySem.Builtin.Str
section
variable {X:Cx}
def nS(i:Int):Str:=toString i
def M4(i:Int):(nS i).length<=i.natAbs+2:=by
 have:=len_str_of_int i;show(Str.ofString (toString i)).length<=_;omega
def zA{i:Int}(h:i.natAbs<=1000):i.natAbs.log2<1920:=by
 have h2:i.natAbs<2^ 1920:=ZP h (by decide);by_cases z:i.natAbs=0
 ·rw[z];decide
 ·exact(Nat.log2_lt z).mpr h2
def ad8(t1:TE)(s1:Str)(t2:TE)(s2:Str)(t3:TE):TE:=λσ H Q=>t1 σ H λv1 H1=>∃y1,v1=.str y1/\y1.length<=1000/\s1.length<=1000/\t2 σ H1 λv2 H2=>∃i,v2=.int i/\i.natAbs<=1000/\s2.length<=1000/\t3 σ H2 λv3 H3=>∃j,v3=.int j/\j.natAbs<=1000/\
 Q (.str (y1++s1++nS i++s2++nS j)) H3
def qc{n:Nat}(h:n<=10000):n<=sizeLine:=ZQ h (by decide)
def abT{e1 e2 e3:Expr}{t1 t2 t3:TE}{s1 s2:Str}{k1 k2}{p1 p2 p3 p4 p5 pos:Pos}(h1:PE X e1 t1)(h2:PE X e2 t2)(h3:PE X e3 t3):
  PE X (.JoinedStr [.FormattedValue e1 (-1) none p1,.Constant (.str s1) k1 p2,.FormattedValue e2 (-1) none p3,.Constant (.str s2) k2 p4,.FormattedValue e3 (-1) none p5] pos) (ad8 t1 s1 t2 s2 t3):=by
 intro pins s σ H Q I h;refine wpAny_JoinedStr ?_;refine wpAny_FormattedValue_plain (au (h1 pins s σ H _ I h) λv u1 ⟨x,H1,I1,r1,y1,ex,l1,ls,q1⟩=>?_);subst ex;obtain⟨t,rfl⟩:=r1
 have key:∀(z:Nat) (t0:Tok) (w1:Shared),Inv X pins σ H1 w1->∃y t,Value.str y1 t0=.str y t/\(Str.empty++y).length<=sizeLine/\Joins (model X.prog X.w) X.A X.xe [eval (.Constant (.str s1) k1 p2) X.env,eval (.FormattedValue e2 (-1) none p3) X.env,eval (.Constant (.str s2) k2 p4) X.env,eval (.FormattedValue e3 (-1) none p5) X.env] (Str.empty++y) (λout s₁=>out.length<=sizeLine/\EP X pins σ Q (.str out s₁.toks) {s₁ with toks:=s₁.toks+1}) w1:=λ_ t0 w1 J1=>by
  refine⟨y1,t0,rfl,?_,?_⟩
  ·rw[Str.empty_append];exact qc (by omega)
  rw[Str.empty_append];refine Calls.Constant_str ⟨s1,w1.toks,rfl,?_,?_⟩
  ·rw[Str.length_append];exact qc (by omega)
  refine wpAny_FormattedValue_plain (au (h2 pins _ σ H1 _ (J1.tok _) q1) λv u2 ⟨x,H2,I2,r2,i,ex,l2,Dl,q2⟩=>?_);subst ex;obtain⟨t2,rfl⟩:=r2;have li:=M4 i;refine wpAny_formatField_int (zA l2) ⟨nS i,_,rfl,?_,?_⟩
  ·rw[Str.length_append,Str.length_append];exact qc (by omega)
  refine Calls.Constant_str ⟨s2,_,rfl,?_,?_⟩
  ·rw[Str.length_append,Str.length_append,Str.length_append];exact qc (by omega)
  refine wpAny_FormattedValue_plain (au (h3 pins _ σ H2 _ ((I2.tok _).tok _) q2) λv u3 ⟨x,H3,I3,r3,j,ex,l3,q3⟩=>?_);subst ex;obtain⟨t3,rfl⟩:=r3;have lj:=M4 j
  have fit:(y1++s1++nS i++s2++nS j).length<=sizeLine:=by
   rw[Str.length_append,Str.length_append,Str.length_append,Str.length_append];exact qc (by omega)
  refine wpAny_formatField_int (zA l3) ⟨nS j,_,rfl,fit,?_⟩;exact⟨fit,.str _,H3,(I3.tok _).tok _,⟨_,rfl⟩,q3⟩
 exact wpAny_formatField_str (key 0 _ _ I1) (key 0 _ _ (I1.tok _)) (qc (by omega))
def dg(n:Nat):Str:=⟨((Nat.toDigits 10 n).map Char.toNat).toArray⟩
def tm(n:Nat):nS (n:Int)=dg n:=by
 show Str.ofString (toString (n:Int))=_;rw[Str.ofString_eq_toList];show(⟨(((Nat.repr n).toList).map Char.toNat).toArray⟩:Str)=_;unfold dg Nat.repr;simp
end
end L2
namespace My
open PySem L2
def LO(a b:Str):(a++b).cps.toList=a.cps.toList++b.cps.toList:=by rw[Str.cps_append];simp
def M5{c:Nat}:∀{A B X Y:List Nat},c∉A->c∉B->A++c::X=B++c::Y->A=B/\X=Y
 |[],[],_,_,_,_,e=>⟨rfl,(List.cons.inj e).2⟩
 |[],b::B,_,_,_,h,e=>absurd (Y4.mpr (.inl (List.cons.inj e).1)) h
 |a::A,[],_,_,h,_,e=>absurd (Y4.mpr (.inl (List.cons.inj e).1.symm)) h
 |a::A,b::B,_,_,h,g,e=>by
  obtain⟨e1,e2⟩:=List.cons.inj e;obtain⟨r1,r2⟩:=M5 (λz=>h (Y3 _ z)) (λz=>g (Y3 _ z)) e2;exact⟨by rw[e1,r1],r2⟩
def sv(s a b:Str)(r:List Str):(Str.join s (a::b::r)).cps.toList=a.cps.toList++(s.cps.toList++(Str.join s (b::r)).cps.toList):=by
 show(a++s++Str.join s (b::r)).cps.toList=_;rw[LO,LO,ZZ]
def Kb{c:Nat}:∀(as bs:List Str),as≠[]->bs≠[]->(∀y∈as,c∉y.cps.toList)->(∀y∈bs,c∉y.cps.toList)->Str.join ⟨#[c]⟩ as=Str.join ⟨#[c]⟩ bs->as=bs
 |[],_,h,_,_,_,_=>absurd rfl h
 |_::_,[],_,h,_,_,_=>absurd rfl h
 |[a],[b],_,_,_,_,e=>by rw[show a=b from e]
 |[a],b::b2::r,_,_,ha,_,e=>by
  exfalso;have h:=ha a (by simp);have e2:a.cps.toList=_:=(congrArg (λz:Str=>z.cps.toList) e).trans (sv _ _ _ _);rw[e2]at h;exact h (by simp)
 |a::a2::r,[b],_,_,_,hb,e=>by
  exfalso;have h:=hb b (by simp);have e2:b.cps.toList=_:=(congrArg (λz:Str=>z.cps.toList) e.symm).trans (sv _ _ _ _);rw[e2]at h;exact h (by simp)
 |a::a2::r,b::b2::r2,_,_,ha,hb,e=>by
  have e2:=congrArg (λz:Str=>z.cps.toList) e;replace e2:(Str.join ⟨#[c]⟩ (a::a2::r)).cps.toList=(Str.join ⟨#[c]⟩ (b::b2::r2)).cps.toList:=e2;rw[sv,sv]at e2;obtain⟨h1,h2⟩:=M5 (ha a (by simp)) (hb b (by simp)) e2;have e3:a=b:=Str.ext' (Array.toList_inj.mp h1);have e4:Str.join ⟨#[c]⟩ (a2::r)=Str.join ⟨#[c]⟩ (b2::r2):=Str.ext' (Array.toList_inj.mp h2);rw[e3,Kb (a2::r) (b2::r2) (by simp) (by simp) (λy hy=>ha y (Y3 _ hy)) (λy hy=>hb y (Y3 _ hy)) e4]
def G0{c:Nat}{ys:List Str}(h0:ys≠[])(hf:∀y∈ys,c∉y.cps.toList):Txt.split (Txt.join ⟨#[c]⟩ ys) ⟨#[c]⟩=ys:=by
 refine Kb _ _ (λz=>?_) h0 (StrLaws.split_free _ c) hf ?_
 ·have:=PyProof.Rows.split_pos (Txt.join ⟨#[c]⟩ ys) ⟨#[c]⟩;rw[z]at this;simp at this
 ·rw[StrLaws.join_split];exact StrLaws.glued_eq_join _ _
def mem_join{s:Str}{x:Nat}:∀{ys:List Str},x∈(Txt.join s ys).cps.toList->x∈s.cps.toList\/∃y∈ys,x∈y.cps.toList:=by
 intro ys h;rw[show Txt.join s ys=Str.join s ys from StrLaws.glued_eq_join _ _]at h
 induction ys with
 |nil=>simp[Str.join,Str.empty]at h
 |cons a r ih=>
  cases r with
  |nil=>exact .inr ⟨a,by simp,h⟩
  |cons b r=>
   rw[sv]at h;rcases Y6.mp h with h|h
   ·exact .inr ⟨a,by simp,h⟩
   rcases Y6.mp h with h|h
   ·exact .inl h
   rcases ih h with h|⟨y,hy,h⟩
   ·exact .inl h
   ·exact .inr ⟨y,Y3 _ hy,h⟩
def Kc(s:Str)(ys:List Str):(Txt.join s ys).length<=(ys.map (·.length)).sum+ys.length*s.length:=by
 rw[show Txt.join s ys=Str.join s ys from StrLaws.glued_eq_join _ _];exact StrLaws.join_length_le s ys
def BH:(" ":Str)=⟨#[32]⟩:=by decide+kernel
def ac7:("\n":Str)=⟨#[10]⟩:=by decide+kernel
def wO:Option Int->Str
 |none=>"-"
 |some z=>nS z
def iS(x:Option Int):Prop:=x=none\/∃m:Nat,x=some (m:Int)/\m<1000
def Oi(n:Nat):Bool:=((dg n).cps.toList.all λc=>decide (48<=c)&&decide (c<=57))&&decide ((dg n).cps.size<=3)&&decide (1<=(dg n).cps.size)&&((decide ((dg n).cps.toList.head?≠some 48))||decide (n=0))
def Xj:((List.range 1000).all Oi)=true:=by decide+kernel
structure Dg(n:Nat):Prop where
 Pk:∀c∈(dg n).cps.toList,48<=c/\c<=57
 l3:(dg n).length<=3
 l1:1<=(dg n).length
 hd:(dg n).cps.toList.head?≠some 48\/n=0
def BI{n:Nat}(h:n<1000):Dg n:=by
 have c:=ZC.mp Xj n (by simp;exact h);unfold Oi at c;rw[Bool.and_eq_true,Bool.and_eq_true,Bool.and_eq_true,Bool.or_eq_true]at c;obtain⟨⟨⟨c1,c2⟩,c3⟩,c4⟩:=c;refine⟨λx hx=>?_,of_decide_eq_true c2,of_decide_eq_true c3,c4.imp of_decide_eq_true of_decide_eq_true⟩;have:=ZC.mp c1 x hx;rw[Bool.and_eq_true]at this;exact⟨of_decide_eq_true this.1,of_decide_eq_true this.2⟩
def LQ:("-":Str)=⟨#[45]⟩:=by decide+kernel
def Xk:(("chart":Str).cps.toList.all λc=>decide (97<=c))=true:=by decide+kernel
def AI{x:Option Int}(h:iS x):∀c∈(wO x).cps.toList,45<=c/\c<=57:=by
 rcases h with rfl|⟨m,rfl,hm⟩
 ·intro c hc;have hc:c∈("-":Str).cps.toList:=hc;rw[LQ]at hc;have:c=45:=by simpa using hc
  omega
 ·intro c hc;have hc:c∈(nS (m:Int)).cps.toList:=hc;rw[tm]at hc;have:=(BI hm).Pk c hc;omega
def Bd{x:Option Int}(h:iS x):(wO x).length<=3:=by
 rcases h with rfl|⟨m,rfl,hm⟩
 ·show("-":Str).length<=3;decide+kernel
 ·show(nS (m:Int)).length<=3;rw[tm];exact(BI hm).l3
def line(r:List (Option Int)):Str:=Txt.join " " (r.map wO)
def jf(k n:Nat):Str:=("chart":Str)++" "++nS k++" "++nS n
def oM(k:Nat)(T:Tab):Str:=Txt.join "\n" (jf k T.length::T.map line)
def IH(k n:Nat):jf k n=Txt.join " " ["chart",nS k,nS n]:=rfl
def LR{n:Nat}(h:n<1000):∀c∈(nS (n:Int)).cps.toList,45<=c/\c<=57:=AI (.inr ⟨n,rfl,h⟩)
def Vi{k n:Nat}(hk:k<1000)(hn:n<1000):∀y∈[("chart":Str),nS k,nS n],∀c∈y.cps.toList,45<=c:=by
 intro y hy c hc;rcases Y4.mp hy with rfl|hy
 ·have:=of_decide_eq_true (ZC.mp Xk c hc);omega
 rcases Y4.mp hy with rfl|hy
 ·exact(LR hk c hc).1
 ·rw[Y1.mp hy]at hc;exact(LR hn c hc).1
def G4{r:List (Option Int)}(h0:r≠[])(h:∀x∈r,iS x):Txt.split (line r) ⟨#[32]⟩=r.map wO:=by
 unfold line;rw[BH];refine G0 (by simpa using h0) λy hy z=>?_;obtain⟨x,hx,rfl⟩:=Zg.mp hy;have:=AI (h x hx) _ z;omega
def Vj{r:List (Option Int)}(h:∀x∈r,iS x):10∉(line r).cps.toList:=λz=>by
 rcases mem_join z with z|⟨y,hy,z⟩
 ·rw[BH]at z;simp at z
 ·obtain⟨x,hx,rfl⟩:=Zg.mp hy;have:=AI (h x hx) _ z;omega
def T5{k n:Nat}(hk:k<1000)(hn:n<1000):10∉(jf k n).cps.toList:=λz=>by
 rw[IH]at z;rcases mem_join z with z|⟨y,hy,z⟩
 ·rw[BH]at z;simp at z
 ·have:=Vi hk hn y hy _ z;omega
def G5{k:Nat}{T:Tab}(hk:k<1000)(hn:T.length<1000)(h:∀r∈T,∀x∈r,iS x):Txt.split (oM k T) ⟨#[10]⟩=jf k T.length::T.map line:=by
 unfold oM;rw[ac7];refine G0 (by simp) λy hy=>?_;rcases Y4.mp hy with rfl|hy
 ·exact T5 hk hn
 ·obtain⟨r,hr,rfl⟩:=Zg.mp hy;exact Vj (h r hr)
def Be{α:Type}(f:α->Nat)(m:Nat):∀{l:List α},(∀x∈l,f x<=m)->(l.map f).sum<=l.length*m
 |[],_=>by simp
 |a::l,h=>by
  have:=Be f m (l:=l) λx hx=>h x (Y3 _ hx);have h1:=h a (by simp);rw[Zq,List.sum_cons,ZF,Nat.add_mul];omega
def II{r:List (Option Int)}(hr:r.length<=5)(h:∀x∈r,iS x):((r.map wO).map (·.length)).sum+(r.map wO).length*(" ":Str).length<=20:=by
 have h1:=Be (λy:Str=>y.length) 3 (l:=r.map wO) λy hy=>by
  obtain⟨x,hx,rfl⟩:=Zg.mp hy;exact Bd (h x hx)
 rw[Y0]at *;have:(" ":Str).length=1:=by decide+kernel
 rw[this];omega
def Xl{r:List (Option Int)}(hr:r.length<=5)(h:∀x∈r,iS x):(line r).length<=20:=ZQ (Kc _ _) (II hr h)
def Vk{k n:Nat}(hk:k<1000)(hn:n<1000):(jf k n).length<=20:=by
 rw[IH];refine ZQ (Kc _ _) ?_;have h1:(nS (k:Int)).length<=3:=Bd (.inr ⟨k,rfl,hk⟩);have h2:(nS (n:Int)).length<=3:=Bd (.inr ⟨n,rfl,hn⟩);have h3:(" ":Str).length=1:=by decide+kernel
 have h4:("chart":Str).length=5:=by decide+kernel
 simp only[Zq,List.map_nil,List.sum_cons,List.sum_nil,ZF,List.length_nil,h3,h4];omega
def Vl{k:Nat}{T:Tab}(hk:k<1000)(hn:T.length<1000)(h5:∀r∈T,r.length<=5)(h:∀r∈T,∀x∈r,iS x):((jf k T.length::T.map line).map (·.length)).sum+(jf k T.length::T.map line).length*("\n":Str).length<=30000:=by
 have h1:=Be (λy:Str=>y.length) 20 (l:=jf k T.length::T.map line) λy hy=>by
  rcases Y4.mp hy with rfl|hy
  ·exact Vk hk hn
  ·obtain⟨r,hr,rfl⟩:=Zg.mp hy;exact Xl (h5 r hr) (h r hr)
 have:("\n":Str).length=1:=by decide+kernel
 rw[this];rw[ZF,Y0]at *;omega
def aL.nQ{k n:Nat}{T:Tab}(ok:aL k n T)(hn:n<=1000):∀r∈T,∀x∈r,iS x:=λr hr x hx=>by
 cases x with
 |none=>exact .inl rfl
 |some e=>
  obtain⟨c,hc,rfl⟩:=ZD hr;obtain⟨j,hj,ej⟩:=ZD hx;have:=ok.bA c j e (by simp[cell,List.getD,hc,hj,ej]);exact .inr ⟨e.toNat,by congr 1;omega,by omega⟩
def fW:V->V
 |.int e=>.str (nS e)
 |_=>.str "-"
def NH(o:Option Int):fW (oV o)=.str (wO o):=by cases o<;>rfl
def abU(r:List (Option Int)):(r.map oV).map fW=(r.map wO).map V.str:=by
 rw[ZK,ZK];exact Z1 λo _=>NH o
def Vm{k:Nat}{T:Tab}{i:Nat}(hi:i<T.length):jf k T.length::(T.take (i+1)).map line=(jf k T.length::(T.take i).map line)++[line (T.getD i [])]:=by
 rw[Zi hi,Zd];simp[List.getD,hi]
structure Ln(H H2:Hp)(lr:Addr)(ys:List Str):Prop where
 fr:H lr=none
 is:H2 lr=some (.lst (ys.map V.str))
 sm:aa H H2
def Ln.snoc{H H2 H3:Hp}{lr:Addr}{ys:List Str}{y:Str}(h:Ln H H2 lr ys)(s:aa H2 H3):H3 lr=some (.lst (ys.map V.str))/\Ln H (upd H3 lr (.lst (ys.map V.str++[V.str y]))) lr (ys++[y]):=
 ⟨s _ _ h.is,h.fr,by rw[aj,Zd];rfl,λb o e=>by rw[ah (λz=>by rw[z,h.fr]at e;cases e)];exact s _ _ (h.sm _ _ e)⟩
inductive G6(vs:List V)(H:Hp)(Q:VK)(aA:XK):Prop
 |mk (x:_) (_:vs=[oV x]) (_:iS x) (_:Q (.str (wO x)) H):G6 vs H Q aA
def Kd:Sp:=G6
inductive Gx(C:Addr)(vs:List V)(H:Hp)(Q:VK)(aA:XK):Prop
 |mk (g:Addr) (k n:Nat) (T:Tab) (fp:List Addr) (_:vs=[.ref g]) (_:cj C H g k n T fp) (_:∀H',aa H H'->Q (.str (oM k T)) H'):Gx C vs H Q aA
def IJ(C:Addr):Sp:=Gx C
def IK{α:Type} [DecidableEq α]{p:α->Bool}(a:α):∀{l:List α},l.Nodup->2<=l.countP p->∃x∈l,p x=true/\x≠a
 |[],_,h=>by simp at h
 |x::l,nd,h=>by
  obtain⟨n1,n2⟩:=ZG.mp nd;rw[List.countP_cons]at h;by_cases px:p x=true
  ·by_cases e:x=a
   ·rw[if_pos px]at h;obtain⟨y,hy,py⟩:=List.countP_pos_iff.mp (show 0<l.countP p by omega);exact⟨y,Y3 _ hy,py,λz=>n1 (by rw[e, <-z];exact hy)⟩
   ·exact⟨x,Y8 ..,px,e⟩
  ·rw[if_neg px]at h;obtain⟨y,hy,py,ne⟩:=IK a n2 (by omega);exact⟨y,Y3 _ hy,py,ne⟩
def Ke(f:Nat->Nat):∀l:List Nat,∃M,∀c∈l,f c<=M
 |[]=>⟨0,λ_ z=>nomatch z⟩
 |x::l=>by
  obtain⟨M,h⟩:=Ke f l;refine⟨max M (f x),λc hc=>?_⟩;rcases Y4.mp hc with rfl|hc
  ·omega
  ·have:=h c hc;omega
structure fk(T:Tab)(k n:Nat):Prop where
 t:Tree T k n
 ad9:∀c,c<n->c≠0->2<=endsN T k c
abbrev Hm(T:Tab)(w:List Int):Prop:=aG T (some ((0:Nat):Int)) w=some ((0:Nat):Int)
section
variable {T U:Tab}{k n m:Nat}
def fk.row(h:fk T k n){c d:Nat}{l:Int}(hc:c∈met T k n 0)(hd:d∈met T k n 0)(e:az T c l=some (d:Int)){i:Nat}(hi:(LL T k n)[i]?=some [(c:Int),l,(d:Int)]):wy T k n c++[l]++turn (wy T k n d)∈bw T k n:=by
 refine Zg.mpr ⟨_,Y5 hi,?_⟩;show way _ (c:Int).toNat++[l]++turn (way _ (d:Int).toNat)=_;rw[Y9,Y9]
def fk.wm(h:fk T k n)(s:∀r∈bw T k n,Hm U r){c d:Nat}{l:Int}(hc:c∈met T k n 0)(hd:d∈met T k n 0)(e:az T c l=some (d:Int)){i:Nat}(hi:(LL T k n)[i]?=some [(c:Int),l,(d:Int)])(cX:aL k m U)(m1:0<m):
  ∃y z,aG U (some ((0:Nat):Int)) (wy T k n c)=some y/\az U y.toNat l=some z/\aG U (some ((0:Nat):Int)) (wy T k n d)=some z:=by
 have hm:=s _ (h.row hc hd e hi);unfold Hm at hm;rw[ke]at hm;cases e1:aG U (some ((0:Nat):Int)) (wy T k n c++[l])with
 |none=>rw[e1,fN]at hm;cases hm
 |some z=>
  rw[e1]at hm;have b0:(0:Int)<=((0:Nat):Int)/\((0:Nat):Int)<m:=by omega
  have bz:=iZ cX b0 e1;have nzT:∀l∈turn (wy T k n d),l≠0:=λl hl=>(JT (h.t.ll hd) l hl).1;have back:=vi cX _ bz nzT hm;rw[zq]at back;rw[mE]at e1;cases e2:aG U (some ((0:Nat):Int)) (wy T k n c)with
  |none=>rw[e2]at e1;cases e1
  |some y=>
   rw[e2]at e1;exact⟨y,z,rfl,e1,back⟩
def aas{T:Tab}{o:Option Int}{u v:List Int}{d:Int}(h:aG T o (u++v)=some d):∃y,aG T o u=some y:=by
 rw[ke]at h;cases e:aG T o u with
 |none=>rw[e,fN]at h;cases h
 |some y=>exact⟨y,rfl⟩
def fk.good(h:fk T k n)(s:∀r∈bw T k n,Hm U r)(cX:aL k m U)(m1:0<m):∀c∈met T k n 0,∃y,aG U (some ((0:Nat):Int)) (wy T k n c)=some y:=by
 obtain⟨M,hM⟩:=Ke (λc=>(wy T k n c).length) (met T k n 0)
 have gen:∀d c,c∈met T k n 0->M-(wy T k n c).length<=d->∃y,aG U (some ((0:Nat):Int)) (wy T k n c)=some y:=by
  intro d
  induction d using Nat.strongRecOn with
  |_ d ih=>
   intro c hc hd;rcases h.t.pr hc with z|⟨q,hq,l0,e1,e2⟩
   ·rw[z];exact⟨_,rfl⟩
   ·have cn:=h.t.lt hc
    have c0:c≠0:=λz=>by
     rw[z,h.t.Di]at e1;simp at e1
    obtain⟨l,hl,pl,ne⟩:=IK (-l0) (LH k) (h.ad9 c cn c0);have lk:=j6.mp hl;obtain⟨e,he⟩:=Option.isSome_iff_exists.mp pl;have re:=eB h.t.ok he;obtain⟨e,rfl⟩:∃e':Nat,e=(e':Int):=⟨e.toNat,by omega⟩;have nR:=h.t.cl hc lk he;rcases h.t.eQ hc lk he with⟨_,tr⟩|⟨i,_,_,hi⟩|⟨i,_,_,hi⟩
    ·rcases tr with tr|tr
     ·have le:=hM e nR;have lc:=hM c hc;have l1:(wy T k n e).length=(wy T k n c).length+1:=by rw[tr];simp
      obtain⟨y,hy⟩:=ih (M-(wy T k n e).length) (by omega) e nR (Y2 _);rw[tr]at hy;exact aas hy
     ·exfalso;rw[e1]at tr;have:=(List.append_inj' tr rfl).2;have:l0= -l:=by simpa using this
      exact ne (by omega)
    ·obtain⟨y,_,hy,_,_⟩:=h.wm s hc nR he hi cX m1;exact⟨y,hy⟩
    ·have bk:=gQ h.t.ok lk.1 cn he;obtain⟨_,z,_,_,hz⟩:=h.wm s nR hc bk hi cX m1;exact⟨z,hz⟩
 exact λc hc=>gen _ c hc (Y2 _)
def fk.aea(h:fk T k n)(s:∀r∈bw T k n,Hm U r)(cX:aL k m U)(m1:0<m){c e:Nat}{l:Int}(hc:c∈met T k n 0)(lk:Let k l)(he:az T c l=some (e:Int)):
  ∃y z,aG U (some ((0:Nat):Int)) (wy T k n c)=some y/\az U y.toNat l=some z/\aG U (some ((0:Nat):Int)) (wy T k n e)=some z:=by
 have nR:=h.t.cl hc lk he;have cn:=h.t.lt hc;have b0:(0:Int)<=((0:Nat):Int)/\((0:Nat):Int)<m:=by omega
 obtain⟨y,hy⟩:=h.good s cX m1 c hc;obtain⟨z,hz⟩:=h.good s cX m1 e nR;have by':=iZ cX b0 hy;have bz:=iZ cX b0 hz;rcases h.t.eQ hc lk he with⟨_,tr⟩|⟨i,_,_,hi⟩|⟨i,_,_,hi⟩
 ·rcases tr with tr|tr
  ·refine⟨y,z,hy,?_,hz⟩;rw[tr,mE,hy]at hz;exact hz
  ·refine⟨y,z,hy,?_,hz⟩;rw[tr,mE,hz]at hy;have hy:az U z.toNat (-l)=some y:=hy;have:=gQ cX (show -l≠0 by have:=lk.1;omega) (show z.toNat<m by omega) (show az U z.toNat (-l)=some ((y.toNat:Nat):Int)by rw[hy];congr 1;omega);rw[Int.neg_neg]at this;rw[this];congr 1;omega
 ·exact h.wm s hc nR he hi cX m1
 ·have bk:=gQ h.t.ok lk.1 cn he;obtain⟨z',y',h1,h2,h3⟩:=h.wm s nR hc bk hi cX m1;rw[hz]at h1;rw[hy]at h3;obtain rfl:=Zf h1;obtain rfl:=Zf h3;have:=gQ cX (show -l≠0 by have:=lk.1;omega) (show z.toNat<m by omega) (show az U z.toNat (-l)=some ((y.toNat:Nat):Int)by rw[h2];congr 1;omega);rw[Int.neg_neg]at this;refine⟨y,z,hy,?_,hz⟩;rw[this];congr 1;omega
def gs(T U:Tab)(k n:Nat)(x y:Nat):Prop:=x∈met T k n 0/\aG U (some ((0:Nat):Int)) (wy T k n x)=some (y:Int)
def fk.walk(h:fk T k n)(s:∀r∈bw T k n,Hm U r)(cX:aL k m U)(m1:0<m):∀(w:List Int) {x y:Nat},(∀l∈w,Let k l)->gs T U k n x y->∀{d:Nat},aG T (some (x:Int)) w=some (d:Int)->∃e:Nat,aG U (some (y:Int)) w=some (e:Int)/\gs T U k n d e
 |[],x,y,_,r,d,hd=>by
  have:x=d:=by have:=Zf hd;omega
  subst this;exact⟨y,rfl,r⟩
 |l::w,x,y,hl,r,d,hd=>by
  rw[dG,Y9]at hd;cases e:az T x l with
  |none=>rw[e,fN]at hd;cases hd
  |some q=>
   rw[e]at hd;have rq:=eB h.t.ok e;obtain⟨q,rfl⟩:∃q':Nat,q=(q':Int):=⟨q.toNat,by omega⟩;have lk:=hl l (Y8 ..);obtain⟨y',z,h1,h2,h3⟩:=h.aea s cX m1 r.1 lk e;rw[r.2]at h1;obtain rfl:=Zf h1;rw[Y9]at h2;have rz:=eB cX h2;obtain⟨z,rfl⟩:∃z':Nat,z=(z':Int):=⟨z.toNat,by omega⟩;rw[dG,Y9,h2];exact h.walk s cX m1 w (λl' h'=>hl l' (Y3 _ h')) ⟨h.t.cl r.1 lk e,h3⟩ hd
def gs.zero(h:fk T k n):gs T U k n 0 0:=⟨h.t.zero,by rw[h.t.Di];rfl⟩
def gs.symm(h:fk T k n)(g:fk U k m)(s:∀r∈bw T k n,Hm U r)(s':∀r∈bw U k m,Hm T r){x y:Nat}(r:gs T U k n x y):gs U T k m y x:=by
 obtain⟨e,he,re⟩:=g.walk s' h.t.ok h.t.hn (wy T k n x) (h.t.ll r.1) (gs.zero g) r.2;have:=(h.t.wk r.1).symm.trans he;have:x=e:=by have:=Zf this;omega
 subst this;exact re
def abV(h:fk T k n)(g:fk U k m)(s:∀r∈bw T k n,Hm U r)(s':∀r∈bw U k m,Hm T r):TR (gs T U k n) k T U:=by
 have fn:∀{x y y'},gs T U k n x y->gs T U k n x y'->y=y':=λ{x y y'} a b=>by
  have:=a.2.symm.trans b.2;have:=Zf this;omega
 have step:∀{x y},gs T U k n x y->∀(l:Int) (e:Nat),Let k l->az T x l=some (e:Int)->∃e':Nat,az U y l=some (e':Int)/\gs T U k n e e':=λ{x y} r l e lk he=>by
  obtain⟨e',h1,h2⟩:=h.walk s g.t.ok g.t.hn [l] (λz hz=>by rw[Y1.mp hz];exact lk) r (d:=e) (by rw[dG,Y9,he];rfl);refine⟨e',?_,h2⟩;rw[dG,Y9]at h1;exact h1
 have NI:∀{x y},gs T U k n x y->∀(l:Int) (e:Nat),Let k l->az U y l=some (e:Int)->∃e':Nat,az T x l=some (e':Int)/\gs T U k n e' e:=λ{x y} r l e lk he=>by
  obtain⟨e',h1,h2⟩:=g.walk s' h.t.ok h.t.hn [l] (λz hz=>by rw[Y1.mp hz];exact lk) (r.symm h g s s') (d:=e) (by rw[dG,Y9,he];rfl);refine⟨e',?_,h2.symm g h s' s⟩;rw[dG,Y9]at h1;exact h1
 have xD:∀{T:Tab}{n:Nat},aL k n T->∀{c j e},cell T c j=some e->j<k:=λ{T n} ok {c j e} he=>by
  rcases Nat.lt_or_ge j k with w|w
  ·exact w
  ·have hc:=qz ok he;have rl:(T.getD c []).length=k:=ok.row _ (by rw[List.getD,Zc (by rw[ok.len];exact hc)];exact ZA _);have:cell T c j=(T.getD c []).getD j none:=rfl;rw[this,List.getD,ZI (by omega)]at he;cases he
 have lp:∀{j:Nat},j<k->Let k ((j:Int)+1):=λ{j} hj=>⟨by omega,by omega,by omega⟩;have ln:∀{j:Nat},j<k->Let k (-((j:Int)+1)):=λ{j} hj=>⟨by omega,by omega,by omega⟩
 have sp:∀(T:Tab) (c j:Nat),az T c ((j:Int)+1)=cell T c j:=λT c j=>by
  unfold az;rw[if_pos (by omega),show((j:Int)+1-1).toNat=j by omega]
 have sn:∀(T:Tab) (c j:Nat),az T c (-((j:Int)+1))=pre T j c:=λT c j=>by
  unfold az;rw[if_neg (by omega),show(-(-((j:Int)+1))-1).toNat=j by omega]
 refine⟨fn,λ{x x' y} a b=>?_,λ{x y} r j e he=>?_,λ{x y} r j e he=>?_,λ{x y} r j d hd=>?_,λ{x y} r j d hd=>?_⟩
 ·have a':=a.symm h g s s';have b':=b.symm h g s s';have:=a'.2.symm.trans b'.2;have:=Zf this;omega
 ·have re:=h.t.ok.bA _ _ _ he;obtain⟨e,rfl⟩:∃e':Nat,e=(e':Int):=⟨e.toNat,by omega⟩;obtain⟨e',h1,h2⟩:=step r ((j:Int)+1) e (lp (xD h.t.ok he)) (by rw[sp];exact he);rw[sp]at h1;exact⟨e',h1,by rw[Y9];exact h2⟩
 ·have re:=g.t.ok.bA _ _ _ he;obtain⟨e,rfl⟩:∃e':Nat,e=(e':Int):=⟨e.toNat,by omega⟩;obtain⟨e',h1,h2⟩:=NI r ((j:Int)+1) e (lp (xD g.t.ok he)) (by rw[sp];exact he);rw[sp]at h1;exact⟨e',h1,by rw[Y9];exact h2⟩
 ·obtain⟨e',h1,h2⟩:=step r (-((j:Int)+1)) d (ln (xD h.t.ok hd)) (by rw[sn];exact(eX h.t.ok).mpr ⟨d,rfl,qz h.t.ok hd,hd⟩);rw[sn]at h1;obtain⟨q,q1,_,q3⟩:=(eX g.t.ok).mp h1;have:q=e':=by omega
  subst this;exact⟨q,q3,h2⟩
 ·obtain⟨e',h1,h2⟩:=NI r (-((j:Int)+1)) d (ln (xD g.t.ok hd)) (by rw[sn];exact(eX g.t.ok).mpr ⟨d,rfl,qz g.t.ok hd,hd⟩);rw[sn]at h1;obtain⟨q,q1,_,q3⟩:=(eX h.t.ok).mp h1;have:q=e':=by omega
  subst this;exact⟨q,q3,h2⟩
def Kf(ok:aL k n T)(hn:0<n)(f:Nat):fK T k (n+1+f) 0 [0]=met T k n 0:=by
 refine Ka (n+1) 0 [0] ?_ f;have:=(cL ok (k:=k) hn).1.len;unfold met at this;omega
def Xm(h:fk T k n)(g:fk U k m)(s:∀r∈bw T k n,Hm U r)(s':∀r∈bw U k m,Hm T r):a9 T (met T k n 0)=a9 U (met U k m 0):=by
 have tr:=abV h g s s';have it:=cL h.t.ok (k:=k) h.t.hn;have iu:=cL g.t.ok (k:=k) g.t.hn;refine tr.a9 h.t.ok g.t.ok ?_ it.1.lt iu.1.lt;rw[<-Kf h.t.ok h.t.hn m, <-Kf g.t.ok g.t.hn n,show m+1+n=n+1+m by omega];exact tr.fK h.t.ok g.t.ok _ _ _ _ ⟨[(0,0)],rfl,rfl,λw hw=>by rw[Y1.mp hw];exact gs.zero h⟩
def FY(h:Tree T k n)(cX:aL k m U)(m1:0<m)(s:∀r∈bw T k n,Hm U r){w:List Int}(red:Red w)(hl:∀l∈w,Let k l)(hm:Hm T w):Hm U w:=by
 have b0:(0:Int)<=((0:Nat):Int)/\((0:Nat):Int)<m:=by omega
 have cw:cut w=w:=aae red;have hh:=h.ad5 hl (by rw[cw];exact hm);rw[cw]at hh;have wd:Co (bw T k n).length (cp T (LL T k n) 0 w):=h.word w h.zero hl hm;have nzr:∀r∈bw T k n,∀l∈r,l≠0:=λr hr l hl=>((mM h.ok h.hn hr).ll l hl).1
 have gv:∀v:List Int,Co (bw T k n).length v->Hm U (jv (bw T k n) v):=by
  intro v
  induction v with
  |nil=>intro _;rfl
  |cons x v ih=>
   intro hv;obtain⟨x0,x1,x2⟩:=hv x (Y8 ..);have iv:=ih λy hy=>hv y (Y3 _ hy);show aG U _ (rowOf (bw T k n) x++jv (bw T k n) v)=_;rw[ke]
   have:Hm U (rowOf (bw T k n) x):=by
    unfold rowOf;by_cases p:0<x
    ·rw[if_pos p];exact s _ (by rw[List.getD,Zc (by omega)];exact ZA _)
    ·rw[if_neg p];have mr:(bw T k n).getD (-x-1).toNat []∈bw T k n:=by rw[List.getD,Zc (by omega)];exact ZA _
     exact vi cX _ b0 (nzr _ mr) (s _ mr)
   unfold Hm at this iv;rw[this];exact iv
 have:=aac cX b0 (λl hl=>(abQ (λr hr=>(mM h.ok h.hn hr).ll) _ l hl).1) (gv _ wd);rw[hh]at this;exact this
end
def vH{T:Tab}{k n:Nat}{b:List Bool}(ok:aL k n T)(n1:1<=n)(h:qN T k n b):fk (tM T k n b) k (je (met T k n 0).length b).length:=by
 have mi:=cL ok (k:=k) (show 0<n by omega);have fh:=sN ok mi.1.nd mi.1.lt;have p1:0<(met T k n 0).length:=List.length_pos_of_mem mi.2.1;unfold tM;obtain⟨lb,z,cl,big⟩:=h;generalize a9 T (met T k n 0)=T1 at *;generalize(met T k n 0).length=rE at *;have nd:=Ab rE b;have hh:=zh (n:=rE) (b:=b) p1 z;obtain⟨l0,e0⟩:=ZL.mp hh;have okL:=sN fh nd vj;refine⟨⟨okL,l0⟩,λx hx x0=>?_⟩;rw[Xh fh nd vj hx];have m:=(ZT.mp (ZA hx)).2;have ne:(je rE b)[x]≠0:=λw=>x0 ((List.getElem_inj nd).mp (w.trans e0.symm));refine ZQ (cl _ m ne) (IF (λd lH=>ZN ?_) _);exact ZT.mpr ⟨ZU.mpr (ad7 lb lH),lH⟩
def IL{T:Tab}{k n:Nat}{b:List Bool}(ok:aL k n T)(n1:1<=n)(h:qN T k n b)(av:Av (a9 T (met T k n 0)) k b):mG T (tM T k n b) k/\mG T (fV T k n b) k:=by
 have mi:=cL ok (k:=k) (show 0<n by omega);have fh:=sN ok mi.1.nd mi.1.lt;have p1:0<(met T k n 0).length:=List.length_pos_of_mem mi.2.1;have c:=vH ok n1 h;have a:=(M0 ok n1).trans (aam fh p1 av h.z);exact⟨a,a.trans (M0 c.t.ok c.t.hn)⟩
def SW{T U:Tab}{k n m:Nat}{b d:List Bool}(Dm:aL k n T)(n1:1<=n)(hT:qN T k n b)(aT:Av (a9 T (met T k n 0)) k b)(cX:aL k m U)(m1:1<=m)(hU:qN U k m d)(aU:Av (a9 U (met U k m 0)) k d)
  {n' m':Nat}(Dn:aL k n' (fV T k n b))(rE:1<=n')(Dp:aL k m' (fV U k m d))(Pl:1<=m'):
  fV T k n b=fV U k m d↔(∀r∈bw (fV T k n b) k n',aG U (some 0) r=some 0)/\∀r∈bw (fV U k m d) k m',aG T (some 0) r=some 0:=by
 obtain⟨a1,a2⟩:=IL Dm n1 hT aT;obtain⟨b1,b2⟩:=IL cX m1 hU aU;have cT:=vH Dm n1 hT;have cU:=vH cX m1 hU;have aeb:=λr hr=>mM Dn rE (r:=r) hr;have aec:=λr hr=>mM Dp Pl (r:=r) hr;have rd:∀{r:List Int},cut r=r->Red r:=λ{r} h=>by rw[<-h];exact Iv r
 have len:(fV T k n b).length=n':=Dn.len;have aed:(fV U k m d).length=m':=Dp.len;constructor
 ·intro e;have en:n'=m':=by rw[<-len, <-aed,e]
  subst en;refine⟨λr hr=>?_,λr hr=>?_⟩
  ·have:=aeb r hr;exact(b2 r (rd this.rd) this.ll).mp (by rw[<-e];exact this.hm)
  ·have:=aec r hr;exact(a2 r (rd this.rd) this.ll).mp (by rw[e];exact this.hm)
 ·rintro⟨s1,s2⟩;refine Xm cT cU (λr hr=>?_) λr hr=>?_
  ·have ro:=mM cT.t.ok cT.t.hn hr;have h1:=(a1 r (rd ro.rd) ro.ll).mp ro.hm;have h2:=(a2 r (rd ro.rd) ro.ll).mpr h1;have h3:Hm U r:=FY ⟨Dn,rE⟩ cX m1 s1 (rd ro.rd) ro.ll h2;exact(b1 r (rd ro.rd) ro.ll).mpr h3
  ·have ro:=mM cU.t.ok cU.t.hn hr;have h1:=(b1 r (rd ro.rd) ro.ll).mp ro.hm;have h2:=(b2 r (rd ro.rd) ro.ll).mpr h1;have h3:Hm T r:=FY ⟨Dp,Pl⟩ Dm n1 s2 (rd ro.rd) ro.ll h2;exact(a1 r (rd ro.rd) ro.ll).mpr h3
def vS(x:Str):Nat:=x.cps.toList.foldl (λa c=>10*a+(c-48)) 0
def M6:((List.range 1000).all λn=>decide (vS (dg n)=n))=true:=by decide+kernel
def abW{x y:Option Int}(hx:iS x)(hy:iS y)(e:wO x=wO y):x=y:=by
 have dash:∀{m:Nat},m<1000->nS (m:Int)≠"-":=λ{m} hm z=>by
  rw[tm,LQ]at z;have:=(BI hm).Pk 45 (by rw[z];simp);omega
 rcases hx with rfl|⟨m,rfl,hm⟩<;>rcases hy with rfl|⟨q,rfl,hq⟩
 ·rfl
 ·exact absurd e.symm (dash hq)
 ·exact absurd e (dash hm)
 ·have e:nS (m:Int)=nS (q:Int):=e;rw[tm,tm]at e;have h1:=of_decide_eq_true (ZC.mp M6 m (by simpa using hm));have h2:=of_decide_eq_true (ZC.mp M6 q (by simpa using hq));rw[<-h1, <-h2,e]
def zi{α β:Type}{f:α->β}{P:α->Prop}(hf:∀x y,P x->P y->f x=f y->x=y):∀{xs ys:List α},(∀x∈xs,P x)->(∀y∈ys,P y)->xs.map f=ys.map f->xs=ys
 |[],[],_,_,_=>rfl
 |[],y::ys,_,_,e=>nomatch e
 |x::xs,[],_,_,e=>nomatch e
 |x::xs,y::ys,hx,hy,e=>by
  obtain⟨e1,e2⟩:=List.cons.inj e;rw[hf x y (hx x (Y8 ..)) (hy y (Y8 ..)) e1,zi hf (λz hz=>hx z (Y3 _ hz)) (λz hz=>hy z (Y3 _ hz)) e2]
def Xn{k n m:Nat}{T U:Tab}(ok:aL k n T)(da:aL k m U)(k1:1<=k)(k5:k<=5)(hn:n<=700)(hm:m<=700):oM k T=oM k U↔T=U:=by
 constructor
 ·intro e;have s1:=G5 (k:=k) (by omega) (by rw[ok.len];omega) (ok.nQ (by omega));have s2:=G5 (k:=k) (by omega) (by rw[da.len];omega) (da.nQ (by omega));rw[e,s2]at s1;have e2:=(List.cons.inj s1).2;refine(zi (P:=λr:List (Option Int)=>r≠[]/\∀x∈r,iS x) (λx y hx hy e=>?_) (λr hr=>⟨λz=>?_,da.nQ (by omega) r hr⟩) (λr hr=>⟨λz=>?_,ok.nQ (by omega) r hr⟩) e2).symm
  ·have l1:=G4 hx.1 hx.2;rw[e,G4 hy.1 hy.2]at l1;exact(zi (λa b ha hb=>abW ha hb) hy.2 hx.2 l1).symm
  ·have:=da.row r hr;rw[z]at this;simp at this;omega
  ·have:=ok.row r hr;rw[z]at this;simp at this;omega
 ·rintro rfl;rfl
inductive G7(C:Addr)(vs:List V)(H:Hp)(Q:VK)(aA:XK):Prop
 |mk (g:Addr) (k n:Nat) (T:Tab) (fp:List Addr) (_:vs=[.ref g]) (_:cj C H g k n T fp) (_:∀(x:Addr) (fq:List Addr) (n':Nat) (b:List Bool) (H':Hp),H x=none->(∀a∈fq,H a=none)->cj C H' x k n' (fV T k n b) fq->qN T k n b->Av (a9 T (met T k n 0)) k b->aa H H'->Q (.ref x) H'):G7 C vs H Q aA
def Kg(C:Addr):Sp:=G7 C
inductive G8(C:Addr)(vs:List V)(H:Hp)(Q:VK)(aA:XK):Prop
 |mk (k m:Nat) (l nn ld:Addr) (dB:List Addr) (es:List En) (ns ds:List Int) (_:vs=[.int k,.int m,.ref l,.ref nn,.ref ld]) (_:El H dB l es) (_:(∀e∈es,dJ k m e)) (_:es.length<=12) (_:ay H nn ns) (_:ns.Perm (cR m)) (_:ay H ld ds) (_:ds.length=110) (_:1<=k) (_:k<=5) (_:1<=m) (_:m<=8) (_:∀(g lh:Addr) (B:Bk) (rest:List Addr) (H':Hp),aZ C H' g lh B rest->B.k=k->m<=B.n->aa H H'->Q (.ref g) H'):G8 C vs H Q aA
def Kh(C:Addr):Sp:=G8 C
inductive G9(C:Addr)(vs:List V)(H:Hp)(Q:VK)(aA:XK):Prop
 |mk (g lh:Addr) (B:Bk) (rest:List Addr) (a:Nat) (l:Addr) (ps:Ps) (_:vs=[.ref g,.int a,.ref l]) (_:aZ C H g lh B rest) (_:a<B.n) (_:Il H l ps) (_:(∀p∈ps,(∀x∈p.2,Let B.k x)/\p.2.length<=600)) (_:∀(b:Bool) (H':Hp),(b=true↔∀p∈ps,fT (rowsOf B.es) a p.2 a)->aa H H'->Q (.bl b) H'):G9 C vs H Q aA
def Ki(C:Addr):Sp:=G9 C
def OB(C:Addr)(H G:Hp)(g:Addr)(k n c:Nat):Prop:=∃(lh:Addr) (B:Bk) (rest:List Addr),aZ C G g lh B rest/\B.k=k/\B.n=n/\B.es.length<=c/\aa H G
def Kp.from{g:Addr}{H G G':Hp}(kp:Kp g G G')(s:aa H G)(hg:H g=none):aa H G':=λb o e=>kp _ _ (s _ _ e) λz=>by rw[z,hg]at e;cases e
def OB.sm{C:Addr}{H G:Hp}{g:Addr}{k n c:Nat}(h:OB C H G g k n c):aa H G:=by
 obtain⟨_,_,_,_,_,_,_,s⟩:=h;exact s
def OB.go{C:Addr}{H G G':Hp}{g:Addr}{k n c:Nat}(h:OB C H G g k n c)(s:aa G G'):OB C H G' g k n c:=by
 obtain⟨lh,B,rest,hB,e1,e2,e3,s0⟩:=h;exact⟨lh,B,rest,hB.same s,e1,e2,e3,s0.trans s⟩
def OB.le{C:Addr}{H G:Hp}{g:Addr}{k n c c':Nat}(h:OB C H G g k n c)(l:c<=c'):OB C H G g k n c':=by
 obtain⟨lh,B,rest,hB,e1,e2,e3,s0⟩:=h;exact⟨lh,B,rest,hB,e1,e2,by omega,s0⟩
def OB.ent{C:Addr}{H G:Hp}{g:Addr}{k n c:Nat}(h:OB C H G g k n c)(hg:H g=none)(Pm:c<40){t:Addr}{e:En}(ht:G t=some (.tup e.told))(ok:dJ k n e){Q:VK}{E:XK}(q:∀v G',Kp g G G'->OB C H G' g k n (c+1)->Q v G'):u0 C [.ref g,.ref t] G Q E:=by
 obtain⟨lh,B,rest,hB,e1,e2,e3,s0⟩:=h;refine⟨g,lh,B,rest,t,e,rfl,hB,ht,by rw[e1,e2];exact ok,by omega,λ_ H' s=>?_,λ_ H' bD pJ _ kp=>?_⟩
 ·exact q _ _ (Kp.of s) ⟨lh,B,rest,hB.same s,e1,e2,by omega,s0.trans s⟩
 ·refine q _ _ kp ⟨lh,B.add e,bD,pJ,by rw[<-e1];rfl,by rw[<-e2];rfl,?_,kp.from s0 hg⟩;have:(B.add e).es=B.es++[e.re B.c]:=rfl;rw[this,Zn];simp;omega
def uX{C g lh:Addr}{H:Hp}{B:Bk}{rest:List Addr}(h:aZ C H g lh B rest){a:Nat}(ha:a<B.n){r:List Int}(hr:cut r=r)(hl:∀l∈r,Let B.k l):
  fT (rowsOf B.es) a r a↔aG (a9 B.tab (met B.tab B.k B.bW ((rk B.ax).getD a 0).toNat)) (some 0) r=some 0:=by
 have ck:=Bk.tL h;have tok:aL B.k B.bW B.tab:=qK ck;have pK:aE B.n (a:Int):=⟨by omega,by omega⟩;have la:=ck.bA _ (getD_mem (l:=rk B.ax) (a:=a) (by rw[ck.len];exact ha));have mw:=Bk.Vh h pK pK hl;rw[Y9,hr]at mw;obtain⟨c,ec⟩:∃c:Nat,(rk B.ax).getD a 0=(c:Int):=⟨((rk B.ax).getD a 0).toNat,by omega⟩;rw[ec]at mw la⊢;rw[Y9];exact mw.trans (Xi tok (by omega) hl).symm
def Kj{T:Tab}{k n:Nat}{b:List Bool}(ok:aL k n T)(n1:1<=n)(h:qN T k n b):(fV T k n b).length<=n:=by
 have c:=vH ok n1 h;have l1:=(cL c.t.ok (k:=k) c.t.hn).1.len;have l2:=Vf (met T k n 0).length b;have l3:=(cL ok (k:=k) (show 0<n by omega)).1.len;unfold fV a9;rw[Y0];omega
structure BJ(mg:Str->Option Value):Prop where
 hd:∃t,mg "HEAD"=some (.str "chart" t)
 un:∃t,mg "UNKNOWN"=some (.str "-" t)
def top(i:Nat):Stmt:=PySem.Challenge.pw_chalkcave_k54_whole_cores_tell_homes.main.body.getD i (.Pass ⟨0,0,0,0⟩)
abbrev Kk:Stmt:=top 11
abbrev yo:Stmt:=inClass (top 15) 0
abbrev yR:Stmt:=inClass (top 15) 1
abbrev yG:Stmt:=inClass (top 15) 4
abbrev yS:Stmt:=inClass (top 15) 5
abbrev uL:Stmt:=inClass (top 15) 7
abbrev uO:Stmt:=top 16
abbrev yH:Stmt:=top 17
abbrev yT:Stmt:=top 18
abbrev zj:Stmt:=top 20
abbrev Bf:Stmt:=top 21
abbrev zc:Stmt:=top 22
abbrev yi:Stmt:=top 23
abbrev yU:Stmt:=top 24
abbrev yr:Stmt:=top 25
abbrev yj:Stmt:=top 26
abbrev AJ:Stmt:=top 28
abbrev yp:Stmt:=top 29
abbrev zB:Stmt:=top 30
abbrev zk:Stmt:=top 31
abbrev Fy:Stmt:=inClass (top 33) 0
abbrev Fz:Stmt:=inClass (top 33) 1
abbrev FF:Stmt:=inClass (top 33) 2
abbrev Gy:Stmt:=top 34
abbrev He:Stmt:=top 35
abbrev FC:Stmt:=inClass (top 37) 0
abbrev Hf:Stmt:=inClass (top 37) 1
abbrev Hg:Stmt:=inClass (top 37) 2
abbrev FZ:Stmt:=inClass (top 37) 3
abbrev Gh:Stmt:=inClass (top 37) 4
abbrev Kl:Stmt:=top 38
abbrev LS:Stmt:=top 39
abbrev yk:Stmt:=inClass (top 48) 0
abbrev yu:Stmt:=inClass (top 48) 1
abbrev yV:Stmt:=inClass (top 48) 2
abbrev yw:Stmt:=inClass (top 48) 3
abbrev yx:Stmt:=inClass (top 48) 5
abbrev yq:Stmt:=inClass (top 48) 6
abbrev ym:Stmt:=inClass (top 48) 10
abbrev yI:Stmt:=inClass (top 48) 11
abbrev yy:Stmt:=inClass (top 48) 12
abbrev yz:Stmt:=inClass (top 48) 13
abbrev yA:Stmt:=inClass (top 48) 16
abbrev yg:Stmt:=inClass (top 48) 17
abbrev ye:Stmt:=inClass (top 48) 18
abbrev yB:Stmt:=inClass (top 48) 21
abbrev yt:Stmt:=inClass (top 48) 22
abbrev yJ:Stmt:=inClass (top 48) 23
abbrev yf:Stmt:=inClass (top 48) 25
abbrev yh:Stmt:=inClass (top 48) 26
abbrev zC:Stmt:=top 49
abbrev yK:Stmt:=top 50
abbrev yL:Stmt:=top 51
abbrev zm:Stmt:=top 52
abbrev zD:Stmt:=top 56
abbrev zE:Stmt:=top 57
abbrev FG:Stmt:=top 59
abbrev yC:Stmt:=top 60
abbrev yW:Stmt:=top 61
abbrev zd:Stmt:=top 62
abbrev yX:Stmt:=top 63
abbrev Hh:Stmt:=top 64
abbrev F8:Stmt:=top 65
abbrev yn:Stmt:=top 66
abbrev yD:Stmt:=top 67
abbrev jx:Stmt:=top 68
abbrev yM:Stmt:=top 69
abbrev ko:Stmt:=top 70
abbrev Oj:Stmt:=FG
abbrev Ol:Stmt:=Hh
abbrev Pn:Stmt:=F8
abbrev LU:Stmt:=Kk
abbrev NJ:Stmt:=Gy
abbrev Om:Stmt:=He
abbrev Oo:Stmt:=FF
abbrev Oq:Stmt:=Fz
abbrev M7:Stmt:=Fy
abbrev M8:Stmt:=FC
abbrev Ot:Stmt:=Hf
abbrev Ou:Stmt:=Hg
abbrev LV:Stmt:=FZ
abbrev M9:Stmt:=Gh
abbrev LW:Stmt:=Kl
abbrev Na:Stmt:=LS
section
variable {P:Program}{w:World}{K:PySem.W.Frag}{mg:Str->Option Value}{base:Heap}
def kZ:aN ["_law_script","_law_many","_law_row","_law_seed","_law_cell","_law_rest","_law_k"] ["_law_script","_law_many"] (aF Oj):=aQ
def abX{f:Addr}{fd:FuncData}(F:aJ K "_law_numbers" "_law_numbers" Oj f fd)(T:Txt K mg):aB P w K mg base aM 1 f fd ["_law_script","_law_many"] (Mr K):=by
 refine F.ok kZ (λvs H Q E h=>?_) (λaw A outer s H vs Q E hr h=>?_)
 ·obtain⟨a,ns,many,rfl,_⟩:=h
  rfl
 ·obtain⟨a,ns,many,rfl,hS,hn,hm,k⟩:=h
  refine⟨_,bJ (b9 (i:=2) kZ.nd rfl (Or.inl rfl) (qF ae))
   (bJ (b9 (i:=3) kZ.nd rfl (Or.inl rfl) ak)
   (bJ (cb Zl rfl (b8 (kP vt (pv 0) mH (jz ak))) (a7 (i:=4) kZ.nd rfl (Or.inl rfl))
    (bJ (b9 (i:=3) kZ.nd rfl (Or.inl rfl) (aH cc (aH cY (aH cY (aH qD (pv 3) ak) (aH cc (pv 4) ak)) ak) ak))
    (bJ (b9 (i:=5) kZ.nd rfl (Or.inl rfl) (aH oA (pv 4) (aH abb ak ak)))
    (bJ (bo (aV jH (pv 5) ak (aO _))
     (bH (bM (fz PySem.F.plainAttrs_list PySem.F.slot_list_append PySem.F.type_list_append fu (pv 2) (aq (aH cc (pv 4) ak) ae)))) bx)
    (bH (cb Zl rfl (iX rfl T.range (aq ak ae)) (a7 (i:=6) kZ.nd rfl (Or.inl rfl))
     (bH (bo (aV jb (pv 5) ak (aO _))
      (bJ (bM (fz PySem.F.plainAttrs_list PySem.F.slot_list_append PySem.F.type_list_append fu (pv 2) (aq (aH cc (pv 5) ak) ae)))
      (bH (b9 (i:=5) kZ.nd rfl (Or.inl rfl) (aH Ag (pv 5) ak)))) bx))))))))
   (bJ (va Zl (aV jH (cq fm (by rfl) T.len PySem.boot_len (aq (pv 2) ae)) (pv 1) (aO _))
    (bJ (b9 (i:=3) kZ.nd rfl (Or.inl rfl) (aH cc (aH cY (aH cY (aH cY (aH qD (pv 3) (pv 3)) (aH qD ak (pv 3))) (aH qD ak (cq fm (by rfl) T.len PySem.boot_len (aq (pv 2) ae)))) ak) ak))
    (bH (bM (fz PySem.F.plainAttrs_list PySem.F.slot_list_append PySem.F.type_list_append fu (pv 2) (aq (aH cc (aH Ag (pv 3) ak) ak) ae))))))
   (bH (ik (kP vt (pv 2) mH (jz (pv 1)))))))),?_⟩
  refine⟨Zo _,λr dc=>?_⟩;refine⟨_,rfl,_,rfl,a,_,rfl,(aa.refl H).upd dc|>.seq hS,λp hp=>?_⟩;have xE:r≠p:=bj (H:=upd H r (.lst [])) (o:=.lst []) aj hp;have hp0:H p=none:=by rw[ah xE.symm]at hp;exact hp
  rw[vb];have aS:=Wx ns none (some 63);generalize dR ns none (some 63)=cs at aS⊢
  refine⟨p,rfl,⟨_,af.of aj⟩,eU (K:=K) (a:=p) (xs:=cs.map V.int) (λi σ H2=>∃(ms:List Int) (dW:Int) (c x y:Option V),σ=[some (.ref a),some (.int many),some (.ref r),some (.int dW),c,x,y]/\0<=dW/\dW<2147483647/\
   ms.length<=61*i/\ay H2 r ms/\ay H2 p cs/\aa H H2)
   ⟨[],17,none,none,none,rfl,by decide,by decide,Zo _,((ay.put (ns:=[])).other xE),.put,((aa.refl H).upd dc).upd hp0⟩ (λi σ H2 _ ⟨_,_,_,_,_,_,_,_,_,_,z,_⟩=>af.of z) ?_ ?_⟩
  ·rintro i y σ H2 hi ⟨ms,dW,c,x,y',rfl,h0,h1,hl,h2,h3,hs⟩;obtain⟨z,rfl,hz⟩:=jA hi;have lY:i<cs.length:=(ZL.mp hz).1;refine⟨_,rfl,_,_,rfl,rfl,.inl ⟨by omega,by omega⟩,_,rfl,_,_,rfl,rfl,(by show(0:Int)<1000003;decide),_,_,rfl,rfl,_,_,rfl,rfl,_,_,rfl,rfl,(by show(0:Int)<2147483647;decide),?_⟩;have g0:=Zz (dW*48271+z%1000003+11) (show(2147483647:Int)≠0 by decide);have g1:=Zy (dW*48271+z%1000003+11) (show(0:Int)<2147483647 by decide);refine⟨_,rfl,_,_,rfl,rfl,⟨by decide,by decide,by decide⟩,_,_,rfl,rfl,?_⟩;rw[acI];refine⟨_,rfl,_,_,rfl,rfl,_,rfl,?_⟩;refine Yw (λH2=>∃ms:List Int,ms.length<=61*i+1/\ay H2 r ms/\ay H2 p cs/\aa H H2) ⟨ms,by omega,h2,h3,hs⟩ (λH2 hP=>?key) (λkey=>?w1)
   case w1=>
    exact⟨_,rfl,.inl ⟨rfl,_,af.of h2⟩,_,rfl,_,_,rfl,rfl,(by show(0:Int)<1000;decide),r,_,_,rfl,rfl,h2,bI (by rw[Y0];omega),key _ ⟨ms++[z%1000],by simp;omega,.snoc,h3.other xE.symm,hs.upd dc⟩⟩
   case key=>
    obtain⟨ms,hl,h2,h3,hs⟩:=hP
    refine⟨_,rfl,by decide,by decide,qd (lo:=0) (n:=60) (λj σ H2=>∃(ms:List Int) (rest:Int) (y:Option V),σ=[some (.ref a),some (.int many),some (.ref r),some (.int ((dW*48271+z%1000003+11)%2147483647)),some (.int z),some (.int rest),y]/\
     ms.length<=61*i+1+j/\ay H2 r ms/\ay H2 p cs/\aa H H2) ⟨ms,_,_,rfl,by omega,h2,h3,hs⟩ ?_ ?_⟩
    ·rintro j σ H3 hj ⟨ms,rest,y,rfl,hl,h2,h3,hs⟩;refine⟨_,rfl,_,_,rfl,rfl,_,rfl,?_⟩;refine cg (λ_=>?_) (λ_=>?_)
     ·skip
      refine⟨_,rfl,.inl ⟨rfl,_,af.of h2⟩,_,rfl,_,_,rfl,rfl,(by show(0:Int)<1000;decide),r,_,_,rfl,rfl,h2,bI (by rw[Y0];omega),?_⟩;refine⟨_,rfl,_,_,rfl,rfl,⟨by decide,by decide⟩,?_⟩;exact⟨ms++[rest%1000],_,_,rfl,by simp;omega,.snoc,h3.other xE.symm,hs.upd dc⟩
     ·exact⟨ms,rest,_,rfl,by omega,h2,h3,hs⟩
    ·rintro σ H3 ⟨ms,rest,y,rfl,hl,h2,h3,hs⟩;exact⟨ms,_,_,_,_,rfl,g0,g1,by omega,h2,h3,hs⟩
  ·rintro σ H2 ⟨ms,dW,c,x,y,rfl,h0,h1,hl,h2,h3,hs⟩;rw[Y0]at hl
   refine zI (λσ H2=>∃(ms:List Int) (dW:Int) (c x y:Option V),σ=[some (.ref a),some (.int many),some (.ref r),some (.int dW),c,x,y]/\0<=dW/\dW<2147483647/\ms.length<=4000/\ay H2 r ms/\aa H H2)
    (λσ H2=>match H2 r with|some (.lst xs)=>1000-xs.length|_=>0) ⟨ms,dW,c,x,y,rfl,h0,h1,by omega,h2,hs⟩ ?_ ?_
   ·rintro σ H2 ⟨ms,dW,c,x,y,rfl,h0,h1,hl,h2,hs⟩;refine⟨_,rfl,r,_,rfl,.inl (af.of h2),_,rfl,_,_,rfl,rfl,_,rfl,?_⟩;refine cg (λaR=>?_) (λrF=>?_)
    ·have aR:=of_decide_eq_true aR;rw[Y0]at aR
     refine⟨_,rfl,_,rfl,_,_,rfl,rfl,.inl ⟨by omega,by omega⟩,_,rfl,_,_,rfl,rfl,.inl ⟨by decide,by decide⟩,_,_,rfl,rfl,_,rfl,r,_,rfl,.inl (af.of h2),_,_,rfl,rfl,.inl ⟨by decide,by decide⟩,_,_,rfl,rfl,_,_,rfl,rfl,_,_,rfl,rfl,
      (by show(0:Int)<2147483629;decide),?_⟩
     have g0:=Zz (dW*dW+69621*dW+7*((ms.map V.int).length:Int)+5) (show(2147483629:Int)≠0 by decide);have g1:=Zy (dW*dW+69621*dW+7*((ms.map V.int).length:Int)+5) (show(0:Int)<2147483629 by decide);refine⟨_,rfl,.inl ⟨rfl,_,af.of h2⟩,_,rfl,_,_,rfl,rfl,⟨by decide,by decide⟩,_,_,rfl,rfl,(by show(0:Int)<1000;decide),r,_,_,rfl,rfl,h2,bI (by rw[Y0];omega),?_⟩;refine⟨⟨ms++[_],_,_,_,_,rfl,g0,Int.lt_trans g1 (by decide),by simp;omega,.snoc,hs.upd dc⟩,?_⟩;show(match upd H2 r _ r with|some (.lst xs)=>1000-xs.length|_=>0)<(match H2 r with|some (.lst xs)=>1000-xs.length|_=>0);rw[aj,h2];simp only[Zn,Y0,List.length_singleton];omega
    ·have rF:¬((ms.map V.int).length:Int)<(many:Int):=λz=>rF (ZN z);rw[Y0]at rF;refine⟨_,rfl,_,rfl,_,rfl,r,_,rfl,af.of h2,λq hq=>?_⟩;rw[vb,Ys];exact k q (ms.take many) _ (by rw[Zx];omega) trivial (hs.free hq) .put (hs.fE hq)
   ·rintro σ H Q Q' hQ ⟨v,e,p,ys,e',q,v',Dq,i,j,e3,e4,b,e5,q5⟩;exact⟨v,e,p,ys,e',q,v',Dq,i,j,e3,e4,b,e5,hQ _ _ q5⟩
def Ov:aN ["_law_found","_law_one"] ["_law_found"] (aF Pn):=aQ
def ac8{f:Addr}{fd:FuncData}(F:aJ K "_law_is_way" "_law_is_way" Pn f fd)(T:Txt K mg):aB P w K mg base aM 1 f fd ["_law_found"] N8:=by
 refine F.ok Ov (λvs H Q E h=>?_) (λaw A outer s H vs Q E hr h=>?_)
 ·obtain⟨a,ns,rfl,_⟩:=h
  rfl
 ·obtain⟨a,ns,rfl,hS,k⟩:=h
  refine⟨_,bJ (bo (mO (iY (cq uR (by rfl) T.inst vw (aq (pv 0) (aq (vo (v:=.ty "list") rfl T.list j9 rfl) ae))))) (bH (ik jF)) bx)
   (bJ (cb Zl rfl (b8 (pv 0)) (a7 (i:=1) Ov.nd rfl (Or.inl rfl))
    (bH (bo (PW.pt (gW (mO (iY (cq uR (by rfl) T.inst vw (aq (pv 1) (aq (vo (v:=.ty "int") rfl T.int abo rfl) ae)))))
     (ij (iY (cq uR (by rfl) T.inst vw (aq (pv 1) (aq (vo (v:=.ty "bool") rfl T.bool Yx rfl) ae))))))) (bH (ik jF)) bx)))
   (bH (ik jF))),?_⟩
  refine⟨_,rfl,_,_,_,_,rfl,.lst hS,GH,_,rfl,cf ?_⟩;refine⟨_,rfl,a,rfl,⟨_,af.of hS⟩,eU (K:=K) (a:=a) (xs:=ns.map V.int) (λi σ H2=>∃(c:Option V),σ=[some (.ref a),c]/\H2=H) ⟨none,rfl,rfl⟩ (λi σ H2 _ ⟨_,_,e⟩=>by rw[e];exact af.of hS) ?_ ?_⟩
  ·rintro i y σ H2 hi ⟨c,rfl,rfl⟩;obtain⟨z,rfl,hz⟩:=jA hi;refine⟨_,rfl,_,_,_,_,rfl,.int z,UD,_,rfl,cf ?_⟩;refine⟨_,rfl,_,_,_,_,rfl,.int z,Tr,_,rfl,cf ?_⟩;exact⟨_,rfl,rfl⟩
  ·rintro σ H2 ⟨c,rfl,rfl⟩;exact k
def tw:aN ["_law_way","_law_kept","_law_one"] ["_law_way"] (aF Ol):=aQ
def abY{f:Addr}{fd:FuncData}(F:aJ K "_law_cut" "_law_cut" Ol f fd)(T:Txt K mg):aB P w K mg base aM 1 f fd ["_law_way"] (Nq K):=by
 refine F.ok tw (λvs H Q E h=>?_) (λaw A outer s H vs Q E hr h=>?_)
 ·obtain⟨a,ns,rfl,_⟩:=h
  rfl
 ·obtain⟨a,ns,rfl,hS,hn,k⟩:=h
  refine⟨_,bJ (b9 (i:=1) tw.nd rfl (Or.inl rfl) (qF ae))
   (bJ (cb Zl rfl (b8 (pv 0)) (a7 (i:=2) tw.nd rfl (Or.inl rfl))
    (bH (bo (PW.pt (oz (aV jb (cq fm (by rfl) T.len PySem.boot_len (aq (pv 1) ae)) ak (aO _)) (qt (aV dQ (aD Kz (pv 1) (iC iy ak) (λ_ _=>rfl)) (iC iy (pv 2)) (aO _)))))
     (bH (b9 (i:=1) tw.nd rfl (Or.inl rfl) (kP vt (pv 1) mH (jz (iC iy ak)))))
     (bH (b9 (i:=1) tw.nd rfl (Or.inl rfl) (aH Ml (pv 1) (qF (aq (pv 2) ae))))))))
   (bH (ik (pv 1)))),?_⟩
  refine⟨Zo _,λr dc=>?_⟩;have s0:aa H (upd H r (.lst [])):=(aa.refl H).upd dc
  refine⟨_,rfl,a,rfl,⟨_,s0.seq hS⟩,eU (K:=K) (a:=a) (xs:=ns.map V.int) (λi σ H2=>∃(r:Addr) (st:List Int) (c:Option V),σ=[some (.ref a),some (.ref r),c]/\st=(ns.take i).foldl push []/\H r=none/\ay H2 r st.reverse/\aa H H2)
   ⟨r,[],none,rfl,by simp,dc,ay.put (ns:=[]),s0⟩ (λi σ H2 _ ⟨_,_,_,_,_,_,_,s2⟩=>s2.seq hS) ?_ ?_⟩
  ·rintro i y σ H2 hi ⟨r,st,c,rfl,ur,dc,h2,s2⟩;obtain⟨z,rfl,hz⟩:=jA hi;have lY:i<ns.length:=(ZL.mp hz).1;have hl:=Je (ns.take i) [];rw[<-ur,Zx]at hl;simp only[List.length_nil]at hl;have e1:=UE hz;rw[<-ur]at e1;refine⟨_,rfl,r,_,rfl,.inl (af.of h2),_,_,rfl,rfl,_,rfl,?_⟩;cases st with
   |nil=>
    refine cf ?_;refine cf ?_;refine⟨_,rfl,_,rfl,(show 1<=sizeLine by decide),λp hp=>?_⟩;refine⟨r,p,_,_,rfl,rfl,(h2.fresh hp),aj,by simp;decide,λq hq=>?_⟩
    have uh:H2 q=none:=by
     rw[ah (λe=>by rw[e,aj]at hq;cases hq)]at hq;exact hq
    exact⟨q,[z],_,rfl,e1.symm,s2.free uh,aj,(s2.fE hp).fE hq⟩
   |cons t u=>
    have ne:decide ((0:Int)<((List.map V.int (t::u).reverse).length:Int))=true:=by simp <;>omega
    rw[ne];refine fD ?_;refine⟨_,rfl,_,rfl,r,_,_,_,rfl,rfl,af.of h2,(by rw[List.reverse_cons,Zd];exact Wt _ _),_,rfl,_,rfl,rfl,_,rfl,?_⟩;refine cg (λhc=>?_) (λhc=>?_)
    ·have hc:t= -z:=by simpa using hc
     refine⟨_,rfl,_,rfl,_,rfl,r,_,rfl,af.of h2,λp hp=>?_⟩;rw[vb,List.reverse_cons,UG];exact⟨p,u,_,rfl,by rw[e1];simp[push,hc],s2.free hp,.put,s2.fE hp⟩
    ·have hc:¬t= -z:=by simpa using hc
     refine⟨_,rfl,_,rfl,(show 1<=sizeLine by decide),λp hp=>?_⟩;refine⟨r,p,_,_,rfl,rfl,(h2.fresh hp),aj,(by simp at hl⊢;exact Z2 (bI (by omega))),λq hq=>?_⟩
     have uh:H2 q=none:=by
      rw[ah (λe=>by rw[e,aj]at hq;cases hq)]at hq;exact hq
     refine⟨q,z::t::u,_,rfl,by rw[e1];simp[push,hc],s2.free uh,?_,(s2.fE hp).fE hq⟩;rw[List.reverse_cons (a:=z)];exact .snoc
  ·rintro σ H2 ⟨r,st,c,rfl,ur,dc,h2,s2⟩;refine⟨_,rfl,k r H2 dc ?_ s2⟩;rw[Y0,ZE (Y2 _)]at ur;rw[ur]at h2;exact h2
def abZ:aN ["row","side"] ["row","side"] (aF NJ):=aQ
def aat{f:Addr}{fd:FuncData}(F:aJ K "near_mark" "near_mark" NJ f fd):aB P w K mg base aM 1 f fd ["row","side"] vI:=by
 refine F.ok abZ (λvs H Q E h=>?_) (λaw A outer s H vs Q E hr h=>?_)
 ·obtain⟨t,r,s,rfl,_⟩:=h
  rfl
 ·obtain⟨t,r,sd,rfl,ht,hl,k⟩:=h;refine⟨_,bJ (bo (aV dQ (pv 1) ak (aO _)) (bH (ik (aD cD (pv 0) ak (λ_ _=>rfl)))) bx)<|bH (ik (aD cD (pv 0) ak (λ_ _=>rfl))),?_⟩;refine⟨_,rfl,rfl,_,rfl,?_⟩;refine cg (λhe=>?_) (λhe=>?_)
  ·have he:sd=1:=by simpa using he
   unfold oC at k;rw[if_pos he]at k;exact⟨_,rfl,qH 1 ht (by omega) k⟩
  ·have he:¬sd=1:=by simpa using he
   unfold oC at k;rw[if_neg he]at k;exact⟨_,rfl,qH 3 ht (by omega) k⟩
def ac9:aN ["row","side"] ["row","side"] (aF Om):=aQ
def ab0{f:Addr}{fd:FuncData}(F:aJ K "far_mark" "far_mark" Om f fd)(R:ba P w K mg base "near_mark" ["row","side"] 1 vI):aB P w K mg base aM 2 f fd ["row","side"] Nu:=by
 refine F.ok ac9 (λvs H Q E h=>?_) (λaw A outer s H vs Q E hr h=>?_)
 ·obtain⟨t,r,s,rfl,_⟩:=h
  rfl
 ·obtain⟨t,r,sd,rfl,ht,hl,k⟩:=h;refine⟨_,bH (ik (R.pe hr (aq (pv 0) (aq (iC iy (pv 1)) ae)))),?_⟩;exact⟨_,rfl,_,rfl,_,rfl,t,r,_,rfl,ht,hl,k⟩
def BK:aN ["self","a","b","low","high"] ["self","a","b"] (aF Oo):=aQ
def ab1{f C:Addr}{fd:FuncData}(F:aJ K "unite" "Groups.unite" Oo f fd)(TM:wD mg)(TG:mW K mg C):aB P w K mg base aM 1 f fd ["self","a","b"] (Br C):=by
 refine F.ok BK (λvs H Q E h=>?_) (λaw A outer s H vs Q E hr h=>?_)
 ·obtain⟨g,ls,a,b,rfl,_⟩:=h
  rfl
 ·obtain⟨g,ls,a,b,rfl,⟨dx,l,hg,hl⟩,ha,hb,hn,k⟩:=h
  refine⟨_,bJ (b9 (i:=3) BK.nd rfl (Or.inr rfl) (cq (Hr rfl) (by rfl) TM.min Mw (aq (aD aP (aW (pv 0) rfl) (pv 1) (λ_ _=>rfl)) (aq (aD aP (aW (pv 0) rfl) (pv 2) (λ_ _=>rfl)) ae))))
   <|bJ (b9 (i:=4) BK.nd rfl (Or.inr rfl) (cq (Ho rfl) (by rfl) TM.max AY (aq (aD aP (aW (pv 0) rfl) (pv 1) (λ_ _=>rfl)) (aq (aD aP (aW (pv 0) rfl) (pv 2) (λ_ _=>rfl)) ae))))
   <|bH (gw (pv 0) (jy ["low","high"] [3,4] (b8 (aW (pv 0) rfl)) (λC s H fp=>Wm (aV dQ (pv 0) (pv 2) (aO _)) (pv 1) (pv 0)) (An rfl rfl)) rfl),?_⟩
  refine⟨_,rfl,g,C,dx,_,_,rfl,hg,TG.cl,TG.nL,hZ l,_,rfl,aY a hl ha ⟨_,rfl,g,C,dx,_,_,rfl,hg,TG.cl,TG.nL,hZ l,_,rfl,aY b hl hb ⟨_,_,rfl,?_⟩⟩⟩;rw[Mx];refine⟨_,rfl,g,C,dx,_,_,rfl,hg,TG.cl,TG.nL,hZ l,_,rfl,aY a hl ha ⟨_,rfl,g,C,dx,_,_,rfl,hg,TG.cl,TG.nL,hZ l,_,rfl,aY b hl hb ⟨_,_,rfl,?_⟩⟩⟩;rw[Mz];refine⟨_,rfl,g,C,dx,_,_,rfl,hg,TG.cl,TG.nL,hZ l,l,rfl,⟨_,af.of hl⟩,Tx (λm=>if m=max (ls.getD a 0) (ls.getD b 0)then min (ls.getD a 0) (ls.getD b 0)else m) (af.of hl) (bI (by omega)) (λz _ H' Q' q'=>?_) λD hD=>?_⟩
  ·refine⟨_,rfl,_,rfl,rfl,_,rfl,?_⟩;refine cg (λhe=>?_) (λhe=>?_)
   ·have he:z=max (ls.getD a 0) (ls.getD b 0):=by simpa using he
    rw[if_pos he]at q';exact⟨_,rfl,q'⟩
   ·have he:¬z=max (ls.getD a 0) (ls.getD b 0):=by simpa using he
    rw[if_neg he]at q';exact⟨_,rfl,q'⟩
  ·have ng:g≠D:=bj hg hD;refine⟨_,rfl,g,C,dx,_,rfl,(by rw[ah ng];exact hg),TG.cl,TG.nL,(by rw[Bp];show 1<1000;decide),?_⟩;rw[abw];refine k _ ⟨dx,D,aj,?_⟩ λc o e hc=>?_
   ·show upd _ g _ D=_;rw[ah ng.symm,aj]
    rfl
   ·rw[ah hc,ah (bj e hD)];exact e
def ada:aN ["self","a","b"] ["self","a","b"] (aF Oq):=aQ
def ab2{f C:Addr}{fd:FuncData}(F:aJ K "together" "Groups.together" Oq f fd)(TG:mW K mg C):aB P w K mg base aM 1 f fd ["self","a","b"] (Nt C):=by
 refine F.ok ada (λvs H Q E h=>?_) (λaw A outer s H vs Q E hr h=>?_)
 ·obtain⟨g,ls,a,b,rfl,_⟩:=h
  rfl
 ·obtain⟨g,ls,a,b,rfl,⟨dx,l,hg,hl⟩,ha,hb,k⟩:=h;refine⟨_,bH (ik (qu dQ (aD aP (aW (pv 0) rfl) (pv 1) (λ_ _=>rfl)) (aD aP (aW (pv 0) rfl) (pv 2) (λ_ _=>rfl)) (aO _))),?_⟩;refine⟨_,rfl,g,C,dx,_,_,rfl,hg,TG.cl,TG.nL,hZ l,_,rfl,aY a hl ha ⟨_,rfl,g,C,dx,_,_,rfl,hg,TG.cl,TG.nL,hZ l,_,rfl,aY b hl hb ⟨rfl,?_⟩⟩⟩
  have e:decide (V.int (ls.getD a 0)=V.int (ls.getD b 0))=decide (ls.getD a 0=ls.getD b 0):=by
   by_cases h:ls.getD a 0=ls.getD b 0
   ·rw[ZN h,h];exact ZN rfl
   ·rw[ZO h];exact ZO λz=>h (V.int.inj z)
  rw[e];exact k
def AK:aN ["self","marks","pairs","a","b"] ["self","marks","pairs"] (aF M7):=aQ
def Xo{f C:Addr}{fd:FuncData}(F:aJ K "__init__" "Groups.__init__" M7 f fd)(T:Txt K mg)(TG:mW K mg C)(U:cz P w K mg base C "unite" ["self","a","b"] 1 (Br C)):aB P w K mg base aM 2 f fd ["self","marks","pairs"] (KL C):=by
 refine F.ok AK (λvs H Q E h=>?_) (λaw A outer s H vs Q E hr h=>?_)
 ·obtain⟨g,dx,n,l,ps,rfl,_⟩:=h
  rfl
 ·obtain⟨g,dx,n,l,ps,rfl,hg,hl,hp,hn,bO,k⟩:=h
  refine⟨_,(bJ (gw (pv 0) (kN (Gb rfl) rfl T.list j9 (aq (Mv rfl T.range (aq (pv 1) ae)) ae)) rfl)
   (bH (cb Zl rfl (b8 (pv 2)) (gU rfl (bX (a7 (i:=3) AK.nd rfl (Or.inl rfl)) (bX (a7 (i:=4) AK.nd rfl (Or.inl rfl)) gS))) (bH (bM (U.pe hr (pv 0) (aq (pv 3) (aq (pv 4) ae)))))))),?_⟩
  refine⟨_,rfl,_,rfl,λr dc=>Jk (K:=K) aj (by omega) λq H1 hq iq s1=>?_⟩;have s1:aa H H1:=((aa.refl H).upd dc).trans s1;refine⟨_,rfl,g,C,dx,[],rfl,s1 _ _ hg,TG.cl,TG.nL,(by show 0<1000;decide),?_⟩
  have nq:q≠g:=λe=>by
   rw[e,ah (bj hg dc),hg]at hq;cases hq
  have G1:jW C (upd H1 g (.ins C dx (a8 "least" (.ref q) []))) g (fF n (ps.take 0)):=⟨dx,q,aj,iq.other nq⟩;have K1:Kp g H (upd H1 g (.ins C dx (a8 "least" (.ref q) []))):=λc o e nc=>by rw[ah nc];exact s1 _ _ e
  refine⟨_,rfl,l,rfl,⟨_,af.of (hl.kp K1 hg).is⟩,eU (K:=K) (a:=l) (xs:=ps.map λp=>V.ref p.1) (λi σ H2=>∃x y:Option V,σ=[some (.ref g),some (.int n),some (.ref l),x,y]/\jW C H2 g (fF n (ps.take i))/\Kp g H H2)
   ⟨none,none,rfl,G1,K1⟩ (λi σ H2 _ ⟨_,_,_,_,k2⟩=>af.of (hl.kp k2 hg).is) ?_ ?_⟩
  ·rintro i y σ H2 hi ⟨x,z,rfl,G2,K2⟩;obtain⟨p,rfl,ep⟩:=qx hi;obtain⟨a,b,er,ha,hb⟩:=hp p (Y5 ep);have ht:=(hl.kp K2 hg).tp p (Y5 ep);rw[er]at ht;have L2:=UO (i:=i) hp;obtain⟨Po,l2,kJ,il2⟩:=G2.ob;refine⟨p.1,_,rfl,bt.of ht,rfl,_,_,rfl,_,_,rfl,rfl,?_⟩;refine⟨_,rfl,g,Po,_,rfl,kJ,Bq _ (by decide),_,rfl,_,rfl,g,_,a,b,rfl,⟨Po,l2,kJ,il2⟩,by rw[L2.len];exact ha,by rw[L2.len];exact hb,by rw[L2.len];omega,λH3 G3 K3=>?_⟩;refine⟨_,_,rfl,?_,K2.trans K3⟩;rw[UN ep,er];exact G3
  ·rintro σ H2 ⟨x,y,rfl,G2,K2⟩;rw[Y0,List.take_length]at G2;exact k _ G2 K2
def adb:aN ["self","doors","door","row"] ["self","doors","door","row"] (aF Ou):=aQ
def ab3{f CF CG:Addr}{fd:FuncData}(F:aJ K "put" "Fold.put" Ou f fd)(TF:oQ K mg CF):aB P w K mg base aM 1 f fd ["self","doors","door","row"] (tf CF CG):=by
 refine F.ok adb (λvs H Q E h=>?_) (λaw A outer s H vs Q E hr h=>?_)
 ·obtain⟨H0,rows,rd,n,f,x,t,a,d,st,m,s,rfl,_⟩:=h
  rfl
 ·obtain⟨H0,rows,rd,n,f,x,t,a,d,st,m,sd,rfl,fr,FA,ok,hm,hx,ht,ha,hw,k⟩:=h;have de:=oJ hr;have hd:=FA.dd m x hx;have n0:0<n:=by omega
  have ph:H t=some (.tup ((key ((rd a).getD 2 0) sd).map kV)):=ht;refine⟨_,(bH (bo (AM (abq de (pv 2) (pv 1)) rfl) (bH (bM (fz PySem.F.plainAttrs_list PySem.F.slot_list_append PySem.F.type_list_append fu (aW (pv 0) rfl) (aq (cO (aq (ka de (pv 1) (pv 2) (λ_ _=>rfl)) (aq (pv 3) (aq (aD cD (pv 2) ak (λ_ _=>rfl)) ae)))) ae)))) (bH (Al de (pv 1) (pv 2) (pv 3) rfl)))),?_⟩;refine⟨_,rfl,_,rfl,x,_,rfl,dq.t hd ph,_,rfl,?_⟩;cases e:bq (st.D m) (key ((rd a).getD 2 0) sd)with
  |none=>
   refine cf ⟨_,rfl,_,rfl,_,rfl,x,_,rfl,gY.t hd ph (bI (ZQ (ok.Ca fr.rw hm) (by decide))),?_⟩;obtain⟨Pp,k'⟩:=FA.putD hx (putK (st.D m) (key ((rd a).getD 2 0) sd) (.ref a));rw[<-UR e]at Pp;exact k _ Pp k'
  |some v=>
   obtain⟨s',r,er,xq,_,_⟩:=(ok.iQ m hm _ (so e)).is;obtain rfl:v=.ref r:=(Prod.mk.inj er).2;obtain⟨wa,w1,w2,w3⟩:=FA.wl;have g:=dq.t hd ph;rw[e]at g;refine fD ⟨_,rfl,f,CF,d.dx,_,_,rfl,FA.ob,TF.cl,TF.nW,Cd d,.inl ⟨rfl,_,af.of w1⟩,_,rfl,_,rfl,x,_,rfl,g,_,rfl,_,rfl,qH (r:=[(rd a).getD 2 0,sd]) 1 ht (show 1<2 by decide) ⟨(show 3<=sizeLine by decide),λq hq=>?_⟩⟩;have F1:=FA.same (H':=upd H q (.tup [V.ref r,V.ref a,V.int sd])) ((aa.refl H).upd hq);have k1:Kx d H (upd H q (.tup [V.ref r,V.ref a,V.int sd])):=Kx.of ((aa.refl H).upd hq);have rG:d.lw≠q:=bj w1 hq;refine⟨d.lw,_,_,rfl,rfl,(by rw[ah rG];exact w1),bI (by rw[Y0];omega),?_⟩
   obtain⟨F2,k2⟩:=F1.Ob n0 ok.ax (wa++[q]) (st.W++[(r,a,sd)]) (by simp[w2]) λi t' e' h1 h2=>by
    by_cases hi:i<wa.length
    ·rw[Zr hi]at h1;rw[Zr (by omega)]at h2;have:=w3 i t' e' h1 h2;rw[ah (bj this hq)];exact this
    ·rw[Zt (by omega)]at h1 h2
     have z:i-wa.length=0:=by
      have:=(ZL.mp h1).1;simp at this;omega
     rw[z]at h1;rw[<-w2,z]at h2;cases h1;cases h2;exact aj
   rw[Zd]at F2 k2;rw[<-UQ (a:=a) e]at F2;exact k _ F2 (k1.trans k2)
def BL:aN ["self","row","side","least"] ["self","row"] (aF Ot):=aQ
def ab4{f CF CG:Addr}{fd:FuncData}(F:aJ K "lay" "Fold.lay" Ot f fd)(TF:oQ K mg CF)(TG:mW K mg CG)(N:ba P w K mg base "near_mark" ["row","side"] 1 vI)(PU:cz P w K mg base CF "put" ["self","doors","door","row"] 1 (tf CF CG)):aB P w K mg base aM 2 f fd ["self","row"] (Bt CF CG):=by
 refine F.ok BL (λvs H Q E h=>?_) (λaw A outer s H vs Q E hr h=>?_)
 ·obtain⟨H0,rows,rd,n,f,a,d,st,rfl,_⟩:=h
  rfl
 ·obtain⟨H0,rows,rd,n,f,a,d,st,rfl,fr,FA,ok,ha,hw,k⟩:=h
  refine⟨_,(bH (cb Zl rfl (AO (cO (aq ak (aq (iC iy ak) ae)))) (a7 (i:=2) BL.nd rfl (Or.inl rfl)) (bJ (b9 (i:=3) BL.nd rfl (Or.inl rfl) (aD aP (aW (aW (pv 0) rfl) rfl) (N.pe hr (aq (pv 1) (aq (pv 2) ae))) (λ_ _=>rfl)))
   (bH (bM (PU.pe hr (pv 0) (aq (aD aP (aW (pv 0) rfl) (pv 3) (λ_ _=>rfl)) (aq (cO (aq (aD cD (pv 1) ak (λ_ _=>rfl)) (aq (pv 2) ae))) (aq (pv 1) ae))))))))),?_⟩
  refine⟨_,rfl,(show 2<=sizeLine by decide),λq hq=>⟨q,rfl,⟨_,bt.of aj⟩,?_⟩⟩;have row:=fr.rw.row a ha
  have turn:∀(sd:Int) (aX:FS) (x y:Option V) (D:Ends) (H2:Hp),gH sd->bU CF CG H0 H2 f d n aX->bB n rows rd aX->aX.W.length<=9989999->Kx d (upd H q (.tup [V.int 1,V.int (-1)])) H2->
    (∀x y H3,bU CF CG H0 H3 f d n (cy aX (at_ aX.l (My.mk (rd a) sd)) ((rd a).getD 2 0) sd a)->Kx d (upd H q (.tup [V.int 1,V.int (-1)])) H3->D.nx [some (.ref f),some (.ref a),x,y] H3)->
    oN (mV (o9 (gK (k9 K)) (tH K (tH K (iE 0) "groups") "least") (sY vI [] E0 (kh (iE 1) (kh (iE 2) iI)))) (jG 3))
     (Ng (jI CF "put" (tf CF CG) [] E0 (iE 0) (kh (o9 (gK (k9 K)) (tH K (iE 0) "doors") (iE 3)) (kh (BY (kh (o9 (gK (kr K)) (iE 1) (tC (.int 2))) (kh (iE 2) iI))) (kh (iE 1) iI)))))
     D [some (.ref f),some (.ref a),some (.int sd),y] H2:=by
   intro sd aX x y D H2 hsd F2 lN w2 k2 kd;obtain⟨gx,gl,g1,g2⟩:=F2.gr.ob;have Pq:=F2.sa _ _ (fr.tp a ha);obtain⟨e1,e2⟩:=row.mk sd;have L:=lN.ax;obtain⟨m1,m2⟩:=km L e2;refine⟨_,rfl,f,CF,d.dx,_,_,rfl,F2.ob,TF.cl,TF.nG,mX d,d.g,CG,gx,_,_,rfl,g1,TG.cl,TG.nL,hZ gl,_,rfl,_,rfl,a,rd a,sd,rfl,Pq,row.len,aY (My.mk (rd a) sd) g2 (by rw[L.len];exact e2) ?_ e1⟩;obtain⟨z,hz⟩:∃z,d.ds[at_ aX.l (My.mk (rd a) sd)]?=some z:=⟨d.ds[at_ aX.l (My.mk (rd a) sd)]'(by rw[F2.dn];exact m1),Zc _⟩;refine⟨_,rfl,f,d.dx,_,rfl,F2.ob,MC d,_,rfl,f,CF,d.dx,_,_,rfl,F2.ob,TF.cl,TF.nD,Cb d,_,rfl,AZ F2.dl (v:=.ref z) (by rw[<-m2];exact kR (by rw[Ze,hz];rfl)) ?_⟩;refine⟨_,rfl,qH 2 Pq (by rw[row.len];decide) ⟨_,rfl,(show 2<=sizeLine by decide),λt ht=>⟨_,rfl,?_⟩⟩⟩;have sm:aa H2 (upd H2 t (.tup [V.int ((rd a).getD 2 0),V.int sd])):=(aa.refl H2).upd ht;exact⟨H0,rows,rd,n,f,z,t,a,d,aX,_,sd,rfl,fr,F2.same sm,lN,m1,hz,aj,ha,by omega,λH3 F3 k3=>kd _ _ H3 F3 ((k2.trans (Kx.of sm)).trans k3)⟩
  have fh:=ok.put (km ok.ax (row.mk 1).2).1 ha (.inl rfl:gH 1) (ok.g8 _ (row.mk 1).2).symm
  refine Kq (K:=K) (a:=q) (xs:=[V.int 1,V.int (-1)]) (λi σ H2=>∃x y:Option V,σ=[some (.ref f),some (.ref a),x,y]/\bU CF CG H0 H2 f d n (if i=0 then st else if i=1 then cy st (at_ st.l (My.mk (rd a) 1)) ((rd a).getD 2 0) 1 a else gc rd st a)/\Kx d (upd H q (.tup [V.int 1,V.int (-1)])) H2)
   ⟨none,none,rfl,FA.same ((aa.refl H).upd hq),Kx.refl⟩ (λi σ H2 _ ⟨_,_,_,_,k2⟩=>bt.of ((FA.same ((aa.refl H).upd hq)).tup k2 aj)) ?_ ?_
  ·rintro i v σ H2 hi ⟨x,y,rfl,F2,k2⟩;cases i with
   |zero=>
    cases hi;exact turn 1 st none y _ H2 (.inl rfl) F2 ok (by omega) k2 λx y H3 F3 k3=>⟨x,y,rfl,F3,k3⟩
   |succ i=>
    cases i with
    |zero=>
     cases hi;have w1:=vK st (at_ st.l (My.mk (rd a) 1)) ((rd a).getD 2 0) 1 a;exact turn (-1) (cy st (at_ st.l (My.mk (rd a) 1)) ((rd a).getD 2 0) 1 a) none y _ H2 (.inr rfl) F2 fh (by omega) k2 λx y H3 F3 k3=>⟨x,y,rfl,F3,k3⟩
    |succ i=>simp at hi
  ·rintro σ H2 ⟨x,y,rfl,F2,k2⟩;exact k _ F2 ((Kx.of ((aa.refl H).upd hq)).trans k2)
def Nb{low j:Nat}(h:j≠low):∀(es:List (List Key×V)) (st:FS),(es.foldl (dS low) st).D j=st.D j
 |[],_=>rfl
 |e::es,st=>(Nb h es (dS low st e)).trans (abA st e h)
def qC:aN ["self","a","b","low","high","kept","gone","door"] ["self","a","b"] (aF M9):=aQ
def Xp{f CF CG:Addr}{fd:FuncData}(F:aJ K "merge" "Fold.merge" M9 f fd)(T:Txt K mg)(TM:wD mg)(TF:oQ K mg CF)(TG:mW K mg CG)(U:cz P w K mg base CG "unite" ["self","a","b"] 1 (Br CG))(PU:cz P w K mg base CF "put" ["self","doors","door","row"] 1 (tf CF CG)):
  aB P w K mg base aM 2 f fd ["self","a","b"] (Ap CF CG):=by
 refine F.ok qC (λvs H Q E h=>?_) (λaw A outer s H vs Q E hr h=>?_)
 ·obtain⟨H0,rows,rd,n,f,d,st,a,b,rfl,_⟩:=h
  rfl
 ·obtain⟨H0,rows,rd,n,f,d,st,a,b,rfl,fr,FA,ok,ha,hb,Pg,hw,k⟩:=h;have de:=oJ hr
  refine⟨_,(bJ (b9 (i:=3) qC.nd rfl (Or.inl rfl) (cq (Hr rfl) (by rfl) TM.min Mw (aq (aD aP (aW (aW (pv 0) rfl) rfl) (pv 1) (λ_ _=>rfl)) (aq (aD aP (aW (aW (pv 0) rfl) rfl) (pv 2) (λ_ _=>rfl)) ae))))
   (bJ (b9 (i:=4) qC.nd rfl (Or.inl rfl) (cq (Ho rfl) (by rfl) TM.max AY (aq (aD aP (aW (aW (pv 0) rfl) rfl) (pv 1) (λ_ _=>rfl)) (aq (aD aP (aW (aW (pv 0) rfl) rfl) (pv 2) (λ_ _=>rfl)) ae))))
   (bJ (bM (U.pe hr (aW (pv 0) rfl) (aq (pv 3) (aq (pv 4) ae))))
   (bJ (b9 (i:=5) qC.nd rfl (Or.inl rfl) (aD aP (aW (pv 0) rfl) (pv 3) (λ_ _=>rfl)))
   (bJ (b9 (i:=6) qC.nd rfl (Or.inl rfl) (aD aP (aW (pv 0) rfl) (pv 4) (λ_ _=>rfl)))
   (bH (cb Zl rfl (b8 (kN (Tv rfl) rfl T.list j9 (aq (pv 6) ae))) (a7 (i:=7) qC.nd rfl (Or.inl rfl)) (bH (bM (PU.pe hr (pv 0) (aq (pv 5) (aq (pv 7) (aq (ka de (pv 6) (pv 7) (λ_ _=>rfl)) ae))))))))))))),?_⟩
  obtain⟨gx,gl,g1,g2⟩:=FA.gr.ob;have L:=ok.ax;have al:a<st.l.length:=by rw[L.len];exact ha
  have bl:b<st.l.length:=by rw[L.len];exact hb
  obtain⟨lo,hi,e1,e2⟩:=qi L ha hb
  have Dr:bV st.l a b≠cQ st.l a b:=by
   intro e;have:((bV st.l a b:Nat):Int)=(cQ st.l a b:Nat):=by rw[e]
   omega
  have xF:f≠d.g:=qy FA.ob g1 λz=>fr.ne (HO.ins.inj z).1;refine⟨_,rfl,f,CF,d.dx,_,_,rfl,FA.ob,TF.cl,TF.nG,mX d,d.g,CG,gx,_,_,rfl,g1,TG.cl,TG.nL,hZ gl,_,rfl,aY a g2 al ⟨_,rfl,f,CF,d.dx,_,_,rfl,FA.ob,TF.cl,TF.nG,mX d,d.g,CG,gx,_,_,rfl,g1,TG.cl,TG.nL,hZ gl,_,rfl,aY b g2 bl ⟨_,_,rfl,?_⟩⟩⟩;rw[Mx, <-e1];refine⟨_,rfl,f,CF,d.dx,_,_,rfl,FA.ob,TF.cl,TF.nG,mX d,d.g,CG,gx,_,_,rfl,g1,TG.cl,TG.nL,hZ gl,_,rfl,aY a g2 al ⟨_,rfl,f,CF,d.dx,_,_,rfl,FA.ob,TF.cl,TF.nG,mX d,d.g,CG,gx,_,_,rfl,g1,TG.cl,TG.nL,hZ gl,_,rfl,aY b g2 bl ⟨_,_,rfl,?_⟩⟩⟩;rw[Mz, <-e2];refine⟨_,rfl,f,CF,d.dx,_,_,rfl,FA.ob,TF.cl,TF.nG,mX d,d.g,gx,_,rfl,g1,Bq _ (by decide),_,rfl,_,rfl,d.g,st.l,cQ st.l a b,bV st.l a b,rfl,FA.gr,by rw[L.len];exact lo,by rw[L.len];exact hi,by rw[L.len];have:=fr.n1;omega,λH1 G1 K1=>?_⟩;have F1:=FA.acP K1 G1 xF;have fh:=ok.join fr.rw lo hi;have k1:Kx d H H1:=Kx.kp K1;obtain⟨xl,xm⟩:∃z,d.ds[cQ st.l a b]?=some z:=⟨d.ds[cQ st.l a b]'(by rw[FA.dn];exact lo),Zc _⟩;obtain⟨xh,Ds⟩:∃z,d.ds[bV st.l a b]?=some z:=⟨d.ds[bV st.l a b]'(by rw[FA.dn];exact hi),Zc _⟩;refine⟨_,rfl,f,CF,d.dx,_,_,rfl,F1.ob,TF.cl,TF.nD,Cb d,_,rfl,AZ F1.dl (v:=.ref xl) (kR (by rw[Ze,xm];rfl)) ?_⟩;refine⟨_,rfl,f,CF,d.dx,_,_,rfl,F1.ob,TF.cl,TF.nD,Cb d,_,rfl,AZ F1.dl (v:=.ref xh) (kR (by rw[Ze,Ds];rfl)) ?_⟩;have dh:=F1.dd _ _ Ds;have dl:=fh.Ca fr.rw hi
  have Pr:∀e∈st.D (bV st.l a b),vJ rows rd (jn st.l (cQ st.l a b) (bV st.l a b)) (cQ st.l a b) e:=λe he=>by
   obtain⟨s,r,er,hr,hs,hl⟩:=(fh.iQ _ hi e he).is;exact⟨s,r,er,hr,hs,hl.trans (rZ L lo hi).symm⟩
  refine⟨_,rfl,⟨⟨xh,_,rfl,dh,λts lk kK hlen aee=>⟨lk,rfl,⟨_,af.of aj⟩,?_⟩⟩⟩⟩;have F2:=F1.same (H':=upd H1 lk (.lst (ts.map V.ref))) ((aa.refl H1).upd kK);have k2:=k1.trans (Kx.of (d:=d) ((aa.refl H1).upd (o:=.lst (ts.map V.ref)) kK));have nk1:lk≠d.lw:=by obtain⟨_,w1,_⟩:=F1.wl;exact(bj w1 kK).symm
  have nk2:lk≠d.lx:=by obtain⟨_,t1,_⟩:=F1.sl;exact(bj t1.is kK).symm
  have nk3:lk≠d.g:=by obtain⟨_,_,w1,_⟩:=F1.gr.ob;exact(bj w1 kK).symm
  have nk4:lk∉d.ds:=λz=>by
   obtain⟨m,hm,e⟩:=ZD z;have:=F1.dd m lk (by rw[Zc hm,e]);rw[this]at kK;cases kK
  refine eU (K:=K) (a:=lk) (xs:=ts.map V.ref) (λi σ H3=>∃x:Option V,σ=[some (.ref f),some (.int a),some (.int b),some (.int (cQ st.l a b)),some (.int (bV st.l a b)),some (.ref xl),some (.ref xh),x]/\
   bU CF CG H0 H3 f d n (((st.D (bV st.l a b)).take i).foldl (dS (cQ st.l a b)) {st with l:=jn st.l (cQ st.l a b) (bV st.l a b)})/\Kx d (upd H1 lk (.lst (ts.map V.ref))) H3)
   ⟨none,rfl,F2,Kx.refl⟩ (λi σ H3 _ ⟨_,_,_,k3⟩=>af.of (k3 _ _ aj nk1 nk2 nk3 nk4)) ?_ ?_
  ·rintro i v σ H3 cA ⟨x,rfl,F3,k3⟩;rw[Ze]at cA;cases et:ts[i]? with
   |none=>rw[et]at cA;cases cA
   |some t=>
    rw[et]at cA;obtain rfl:=Zf cA;have il:i<(st.D (bV st.l a b)).length:=by rw[<-hlen];exact(ZL.mp et).1
    obtain⟨e,ee⟩:∃e,(st.D (bV st.l a b))[i]?=some e:=⟨_,Zc il⟩;have me:=Y5 ee;obtain⟨s,r,er,xq,hs,hl⟩:=(Pr e me).is;have tt:=aee i t e et ee;have ee':=ee;rw[er]at tt;have Pt:H3 t=some (.tup [.int ((rd r).getD 2 0),.int s]):=F2.tup k3 (by rw[ah (bj tt kK)];exact tt);obtain⟨o1,o2,o3,o4⟩:=KR lo ((st.D (bV st.l a b)).take i) _ fh λe' h'=>Pr e' (List.mem_of_mem_take h');have Pu:=F3.dd _ _ Ds;rw[Nb Dr]at Pu
    have dv:bq (st.D (bV st.l a b)) (key ((rd r).getD 2 0) s)=some (.ref r):=by
     have:=GK (fh.nd _ hi) me;rw[er]at this;exact this
    have gg:=dq.t Pu (k:=key ((rd r).getD 2 0) s) Pt;rw[dv]at gg;have lt:((st.D (bV st.l a b)).take i).length<=10:=by rw[Zx];have:(st.D (bV st.l a b)).length<=10:=dl;omega
    have hw':({st with l:=jn st.l (cQ st.l a b) (bV st.l a b)}:FS).W.length=st.W.length:=rfl;refine⟨_,rfl,f,d.dx,_,rfl,F3.ob,MC d,_,rfl,_,rfl,_,rfl,_,rfl,xh,_,rfl,gg,?_⟩;refine⟨H0,rows,rd,n,f,xl,t,r,d,_,_,s,rfl,fr,F3,o1,lo,xm,Pt,xq,by omega,λH4 F4 k4=>⟨_,rfl,?_,k3.trans k4⟩⟩;rw[uV ee',er];exact F4
  ·rintro σ H3 ⟨x,rfl,F3,k3⟩;rw[Y0,hlen]at F3;dsimp only at F3;rw[List.take_length]at F3;exact k _ F3 (k2.trans k3)
def qr:aN ["self","one","two","side","a","b"] ["self"] (aF LV):=aQ
def Vn{f CF CG:Addr}{fd:FuncData}(F:aJ K "settle" "Fold.settle" LV f fd)(TF:oQ K mg CF)(TG:mW K mg CG)(FA:ba P w K mg base "far_mark" ["row","side"] 2 Nu)(O:cz P w K mg base CG "together" ["self","a","b"] 1 (Nt CG))(ME:cz P w K mg base CF "merge" ["self","a","b"] 2 (Ap CF CG)):
  aB P w K mg base aM 3 f fd ["self"] (zO CF CG):=by
 refine F.ok qr (λvs H Q E h=>?_) (λaw A outer s H vs Q E hr h=>?_)
 ·obtain⟨H0,rows,rd,n,f,d,st,J,rfl,_⟩:=h
  rfl
 ·obtain⟨H0,rows,rd,n,f,d,st,J,rfl,fr,F0,ok,kj,j0,b1,b2,k⟩:=h
  refine⟨_,(bH (va Zl (IY (aW (pv 0) rfl) (λ_=>rfl)) (bJ (jB (Mg PySem.F.plainAttrs_list PySem.F.slot_list_pop PySem.F.type_list_pop Mi (aW (pv 0) rfl)) (gU rfl (bX (a7 (i:=1) qr.nd rfl (Or.inl rfl)) (bX (a7 (i:=2) qr.nd rfl (Or.inl rfl)) (bX (a7 (i:=3) qr.nd rfl (Or.inl rfl)) gS)))))
   (bJ (b9 (i:=4) qr.nd rfl (Or.inl rfl) (FA.pe hr (aq (pv 1) (aq (pv 3) ae))))
   (bJ (b9 (i:=5) qr.nd rfl (Or.inl rfl) (FA.pe hr (aq (pv 2) (aq (pv 3) ae))))
   (bH (bo (mO (iY (O.pe hr (aW (pv 0) rfl) (aq (pv 4) (aq (pv 5) ae))))) (bJ (bM (fz PySem.F.plainAttrs_list PySem.F.slot_list_append PySem.F.type_list_append fu (aW (pv 0) rfl) (aq (cO (aq (aD cD (pv 1) ak (λ_ _=>rfl)) (aq (aD cD (pv 2) ak (λ_ _=>rfl)) (aq (pv 3) ae)))) ae)))
   (bH (bM (ME.pe hr (pv 0) (aq (pv 4) (aq (pv 5) ae)))))) bx))))))),?_⟩
  refine⟨λm σ H2=>∃(x y z u v:Option V) (aX:FS),σ=[some (.ref f),x,y,z,u,v]/\bU CF CG H0 H2 f d n aX/\bB n rows rd aX/\J aX/\aX.W.length+10*cE aX.l<=9000000/\aX.ss.length+cE aX.l<=9000000/\Kx d H H2/\m=11*cE aX.l+aX.W.length,⟨_,none,none,none,none,none,st,rfl,F0,ok,j0,b1,b2,Kx.refl,rfl⟩,?_⟩;rintro m σ H2 ⟨x,y,z,u,v,aX,rfl,F2,lN,j2,c1,c2,k2,rfl⟩;obtain⟨wa,w1,w2,w3⟩:=F2.wl;refine⟨_,rfl,f,CF,d.dx,_,_,rfl,F2.ob,TF.cl,TF.nW,Cd d,_,.inl ⟨_,af.of w1,rfl⟩,?_⟩;rcases List.eq_nil_or_concat aX.W with eW|⟨W,e,eW⟩
  ·have:wa=[]:=by rw[eW]at w2;exact List.length_eq_zero_iff.mp w2
   rw[this];exact k aX H2 F2 lN j2 eW (by omega) k2
  ·rw[List.concat_eq_append]at eW;have wl:wa.length=W.length+1:=by rw[w2,eW,Zn];rfl
   rcases List.eq_nil_or_concat wa with ew|⟨wb,t,ew⟩
   ·rw[ew]at wl;simp at wl
   ·rw[List.concat_eq_append]at ew;subst ew;have wl:wb.length=W.length:=by rw[Zn]at wl;simpa using wl
    have ht:H2 t=some (.tup [.ref e.1,.ref e.2.1,.int e.2.2]):=w3 wb.length t e (by rw[Zt (Y2 _),Nat.sub_self];rfl) (by rw[eW,wl,Zt (Y2 _),Nat.sub_self];rfl);obtain⟨jr,we⟩:=lN.pop eW;have n0:0<n:=ZP (Zo _) ((fr.rw.row _ we.x).mk 1).2;have F3':=F2.Ob n0 lN.ax wb W wl λi t' e' h1 h2=>w3 i t' e' (by rw[Zr (ZL.mp h1).1];exact h1) (by rw[eW,Zr (ZL.mp h2).1];exact h2);obtain⟨F3,k3⟩:=F3';obtain⟨a,b,sd⟩:=e;have ra:=fr.rw.row _ we.x;have rb:=fr.rw.row _ we.y;have aef:(((wb++[t]).map V.ref).isEmpty)=false:=by rw[Zd];cases wb<;>rfl
    rw[aef];refine fD ⟨λσ' H'=>∃(x y z u v:Option V) (jM:FS),σ'=[some (.ref f),x,y,z,u,v]/\bU CF CG H0 H' f d n jM/\bB n rows rd jM/\J jM/\jM.W.length+10*cE jM.l<=9000000/\jM.ss.length+cE jM.l<=9000000/\Kx d H H'/\11*cE jM.l+jM.W.length<11*cE aX.l+aX.W.length,λσ' H' ⟨x,y,z,u,v,jM,h1,h2,h3,h4,h5,h6,h7,h8⟩=>⟨_,h8,x,y,z,u,v,jM,h1,h2,h3,h4,h5,h6,h7,rfl⟩,?_⟩;have js:=kj aX W a b sd lN eW j2;obtain⟨o1,o2,o3,o4⟩:=WN fr.rw jr we;have aeR:aX.W.length=W.length+1:=by rw[eW,Zn];rfl
    have ed:((wb++[t]).map V.ref).dropLast=wb.map V.ref:=by rw[Zd];exact List.dropLast_concat
    refine⟨_,rfl,f,CF,d.dx,_,_,rfl,F2.ob,TF.cl,TF.nW,Cd d,.inl ⟨rfl,_,af.of w1⟩,d.lw,_,.ref t,rfl,rfl,w1,by rw[Zd,Zn,Zt (by simp)];simp,?_⟩;rw[ed];have xG:=F2.tup k3 ht;refine⟨t,_,rfl,bt.of xG,rfl,_,_,rfl,_,_,rfl,_,_,rfl,rfl,?_⟩;have ta:=F3.sa _ _ (fr.tp _ we.x);have tb:=F3.sa _ _ (fr.tp _ we.y);refine⟨_,rfl,_,rfl,a,rd a,sd,rfl,ta,ra.len,?_⟩;refine⟨_,rfl,_,rfl,b,rd b,sd,rfl,tb,rb.len,?_⟩;rw[(ra.mk (-sd)).1,(rb.mk (-sd)).1];obtain⟨gx,gl,g1,g2⟩:=F3.gr.ob;have L:=jr.ax;refine⟨_,rfl,f,CF,d.dx,_,_,rfl,F3.ob,TF.cl,TF.nG,mX d,d.g,gx,_,rfl,g1,Bq _ (by decide),_,rfl,_,rfl,d.g,aX.l,My.mk (rd a) (-sd),My.mk (rd b) (-sd),rfl,F3.gr,by rw[L.len];exact(ra.mk _).2,by rw[L.len];exact(rb.mk _).2,_,rfl,?_⟩;by_cases he:aX.l.getD (My.mk (rd a) (-sd)) 0=aX.l.getD (My.mk (rd b) (-sd)) 0
    ·rw[ZN he];have ef:gB rd {aX with W:=W} a b sd={aX with W:=W}:=if_pos he;rw[ef]at js;refine cf ⟨_,_,_,_,_,{aX with W:=W},rfl,F3,jr,js,?_,c2,k2.trans k3,?_⟩
     ·dsimp only;omega
     ·dsimp only;omega
    ·rw[ZO he];have ef:gB rd {aX with W:=W} a b sd=mP {aX with W:=W,ss:=aX.ss++[[(rd a).getD 0 0,(rd b).getD 0 0,sd]]} (My.mk (rd a) (-sd)) (My.mk (rd b) (-sd)):=if_neg he;obtain⟨sp,t1,t2⟩:=F3.sl;refine fD ⟨_,rfl,f,CF,d.dx,_,_,rfl,F3.ob,TF.cl,TF.nS,Oa d,.inl ⟨rfl,_,af.of t1.is⟩,_,rfl,qH 0 ta (by rw[ra.len];decide) ⟨_,rfl,qH 0 tb (by rw[rb.len];decide) ⟨_,rfl,(show 3<=sizeLine by decide),λq hq=>?_⟩⟩⟩;have F4:=F3.same (H':=upd _ q (.tup [V.int ((rd a).getD 0 0),V.int ((rd b).getD 0 0),V.int sd])) ((aa.refl _).upd hq);have k4:Kx d _ (upd _ q (.tup [V.int ((rd a).getD 0 0),V.int ((rd b).getD 0 0),V.int sd])):=Kx.of ((aa.refl _).upd hq);have uu:d.lx≠q:=bj t1.is hq;have cp:sp.length=aX.ss.length:=by rw[<-(show _=aX.ss from t2),Y0]
     refine⟨d.lx,_,_,rfl,rfl,(by rw[ah uu];exact t1.is),bI (by rw[Y0];omega),?_⟩
     obtain⟨F5,k5⟩:=F4.adX n0 L (sp++[(q,[(rd a).getD 0 0,(rd b).getD 0 0,sd])]) λp hp=>by
      rcases Y6.mp hp with h|h
      ·have:=t1.tp p h;rw[ah (bj this hq)];exact this
      ·obtain rfl:=Y1.mp h;exact aj
     rw[Zd]at F5 k5;rw[Zd,show sp.map (·.2)=aX.ss from t2]at F5;refine⟨_,rfl,f,d.dx,_,rfl,F5.ob,WL d,_,rfl,_,rfl,H0,rows,rd,n,f,d,_,My.mk (rd a) (-sd),My.mk (rd b) (-sd),rfl,fr,F5,jr.t6 _,(ra.mk _).2,(rb.mk _).2,he,(by dsimp only;omega),λH6 F6 k6=>?_⟩;have F7:bU CF CG H0 H6 f d n (gB rd {aX with W:=W} a b sd):=by rw[ef];exact F6
     exact⟨_,_,_,_,_,_,rfl,F7,o1,js,by dsimp only at o3;omega,by dsimp only at o4;omega,(((k2.trans k3).trans k4).trans k5).trans k6,by dsimp only at o2;omega⟩
def none_of{H H':Hp}(s:aa H H'){x:Addr}(h:H' x=none):H x=none:=by
 cases e:H x with
 |none=>rfl
 |some o=>rw[s _ _ e]at h;cases h
def aau:aN ["self","marks","start"] ["self","marks","start"] (aF M8):=aQ
def Xq{f CF CG:Addr}{fd:FuncData}(F:aJ K "__init__" "Fold.__init__" M8 f fd)(T:Txt K mg)(TF:oQ K mg CF)(GR:kE P w K mg base CG "Groups" ["self","marks","pairs"] 2 (KL CG)):aB P w K mg base aM 4 f fd ["self","marks","start"] (KY CF CG):=by
 refine F.ok aau (λvs H Q E h=>?_) (λaw A outer s H vs Q E hr h=>?_)
 ·obtain⟨H0,f,dx,n,ls,ps,rfl,_⟩:=h
  rfl
 ·obtain⟨H0,f,dx,n,ls,ps,rfl,hf,f0,sa,ts,hp,hn,bO,kF,k⟩:=h
  refine⟨_,(bJ (gw (pv 0) (GR.pe hr (aq (pv 1) (aq (pv 2) ae))) rfl)
   (bJ (gw (pv 0) (jy [] [] (iX rfl T.range (aq (pv 1) ae)) (λC s H fp=>WD) mI) rfl)
   (bJ (gw (pv 0) (qF ae) rfl)
   (bH (gw (pv 0) (qF ae) rfl))))),?_⟩
  refine⟨_,rfl,_,rfl,λg gx hg hgx nd=>?_⟩;have s0:aa H (upd (upd H gx (.own g)) g (.ins CG gx [])):=((aa.refl H).upd hgx).upd hg;refine⟨g,gx,n,ls,ps,rfl,aj,ts.same s0,hp,hn,bO,λH1 G1 K1=>⟨rfl,?_⟩⟩;have s1:aa H H1:=λc o e=>K1 c o (s0 c o e) (bj e hg);have Px:=s1 _ _ hf;have xF:f≠g:=bj hf hg;have sa1:aa H0 H1:=sa.trans s1;refine⟨_,rfl,f,CF,dx,[],rfl,Px,TF.cl,TF.nG,(by show 0<1000;decide),?_⟩;have Py:aa H0 (upd H1 f (.ins CF dx (a8 "groups" (.ref g) []))):=sa1.upd f0;dsimp only[oN,NY];refine YJ (n:=n) rfl hn λD ds H3 hD e3 hl nd3 hx s3=>?_;have Pz:=s3 _ _ (aj (H:=H1) (a:=f) (o:=.ins CF dx (a8 "groups" (.ref g) [])));have uv:=Py.trans s3;refine⟨_,rfl,f,CF,dx,_,rfl,Pz,TF.cl,TF.nD,(by show 1<1000;decide),?_⟩;refine⟨Zo _,λlw rH=>⟨_,rfl,f,CF,dx,a8 "doors" (.ref D) (a8 "groups" (.ref g) []),rfl,(ah (bj aj rH)).trans aj,TF.cl,TF.nW,(by show 2<1000;decide),?_⟩⟩;refine⟨Zo _,λlx pL=>⟨_,rfl,f,CF,dx,a8 "waiting" (.ref lw) (a8 "doors" (.ref D) (a8 "groups" (.ref g) [])),rfl,(ah (bj aj pL)).trans aj,TF.cl,TF.nS,(by show 3<1000;decide),?_⟩⟩;have rG:lw≠f:=λe=>by rw[e,aj]at rH;cases rH
  have uu:lx≠f:=λe=>by rw[e,aj]at pL;cases pL
  have Dt:lw≠lx:=λe=>by rw[<-e,ah rG,aj]at pL;cases pL
  have wL:H3 lw=none:=by rw[ah rG]at rH;exact rH
  have wM:H3 lx=none:=by rw[ah uu,ah Dt.symm,ah uu]at pL;exact pL
  refine k ⟨dx,g,D,lw,lx,ds⟩ _ ?_
  have keep:∀{b:Addr}{o:HO}{o1 o2 o3 o4 o5:HO},H3 b=some o->b≠f->upd (upd (upd (upd (upd H3 f o1) lw o2) f o3) lx o4) f o5 b=some o:=λ{b o o1 o2 o3 o4 o5} e h=>by
   rw[ah h,ah (bj e wM),ah h,ah (bj e wL),ah h];exact e
  obtain⟨gx',gl,g1,g2⟩:=G1.ob;have g3:=s3 _ _ ((ah xF.symm (H:=H1) (o:=.ins CF dx (a8 "groups" (.ref g) []))).trans g1);have Du:gl≠f:=qy g2 Px (λz=>nomatch z);have g4:ay H3 gl (fF n ps):=s3 _ _ ((ah Du (H:=H1) (o:=.ins CF dx (a8 "groups" (.ref g) []))).trans g2);have nDf:D≠f:=λe=>by rw[e,aj]at hD;cases hD
  have ju:ds.length=n:=by omega
  refine⟨?_,⟨gx',gl,keep g3 xF.symm,keep g4 Du⟩,keep e3 nDf,ju,nd3,λm x e=>?_,⟨[],?_,rfl,λi t e h1 _=>nomatch h1⟩,⟨[],⟨?_,λ_ z=>nomatch z⟩,rfl⟩,Dt,(bj e3 wL).symm,(bj e3 wM).symm,f0,none_of sa hg,none_of uv wL,none_of uv wM,λx rp=>none_of Py (hx x rp).1,?_⟩
  ·rw[aj];rfl
  ·have h:=hx x (Y5 e);exact keep h.2.1 (qy h.2.1 Pz (λz=>nomatch z))
  ·show upd _ _ _ lw=_;rw[ah rG,ah Dt,ah rG,aj];rfl
  ·show upd _ _ _ lx=_;rw[ah uu,aj];rfl
  ·exact((((uv.upd f0).upd (none_of uv wL)).upd f0).upd (none_of uv wM)).upd f0
def Ac:aN ["marks","rows","start","fold","row"] ["marks","rows","start"] (aF LW):=aQ
def Vo{f CF CG:Addr}{fd:FuncData}(F:aJ K "folded" "folded" LW f fd)(T:Txt K mg)(TF:oQ K mg CF)(TG:mW K mg CG)(kF:CF≠CG)(FR:kE P w K mg base CF "Fold" ["self","marks","start"] 4 (KY CF CG))(LA:cz P w K mg base CF "lay" ["self","row"] 2 (Bt CF CG))(SE:cz P w K mg base CF "settle" ["self"] 3 (zO CF CG)):
  aB P w K mg base aM 6 f fd ["marks","rows","start"] Jn:=by
 refine F.ok Ac (λvs H Q E h=>?_) (λaw A outer s H vs Q E hr h=>?_)
 ·obtain⟨n,lr,ls,ps,start,J,rfl,_⟩:=h
  rfl
 ·obtain⟨n,lr,ls,ps,start,J,rfl,tr,ts,rj,bT,hn,bO,C0,kj,j0,k⟩:=h
  refine⟨_,(bJ (b9 (i:=3) Ac.nd rfl (Or.inl rfl) (FR.pe hr (aq (pv 0) (aq (pv 2) ae))))
   (bJ (cb Zl rfl (b8 (pv 1)) (a7 (i:=4) Ac.nd rfl (Or.inl rfl)) (bH (bM (LA.pe hr (pv 3) (aq (pv 4) ae)))))
   (bJ (bM (SE.dO hr (pv 3)))
   (bH (ik (cO (aq (kN uT rfl T.list j9 (aq (aW (aW (pv 3) rfl) rfl) ae)) (aq (kN uT rfl T.list j9 (aq (aW (pv 3) rfl) ae)) ae)))))))),?_⟩
  refine⟨_,rfl,_,rfl,λf dx hf hdx nd=>?_⟩;have s0:aa H (upd (upd H dx (.own f)) f (.ins CF dx [])):=((aa.refl H).upd hdx).upd hf;refine⟨H,f,dx,n,ls,start,rfl,aj,hf,s0,ts.same s0,bT,by omega,C0,kF,λd H1 F1=>⟨rfl,?_⟩⟩
  have fr:Frame CF CG H (ps.map (·.1)) (bZ ps) n:=by
   refine⟨⟨λr hr=>?_,λr hr=>?_⟩,λr hr=>?_,by omega,by rw[Y0];exact bO,kF⟩
   all_goals obtain⟨p,hp,rfl⟩:=Zg.mp hr
   all_goals rw[mK tr.tp hp]
   ·exact(rj p hp).1
   ·exact(rj p hp).2
   ·exact tr.tp p hp
  have uf:bB n (ps.map (·.1)) (bZ ps) (jq n start):=MG bT;have PB:∀i,_:=λi=>Ld fr.rw ((ps.map (·.1)).take i) (jq n start) uf λa ha=>List.mem_of_mem_take ha;have sl:=YG uf.ax;have nn:n*n<=490000:=Nat.mul_le_mul hn hn
  refine⟨_,rfl,lr,rfl,⟨_,af.of (tr.same F1.sa).is⟩,eU (K:=K) (a:=lr) (xs:=ps.map λp=>V.ref p.1) (λi σ H2=>∃x:Option V,σ=[some (.int n),some (.ref lr),some (.ref ls),some (.ref f),x]/\bU CF CG H H2 f d n (((ps.map (·.1)).take i).foldl (gc (bZ ps)) (jq n start)))
   ⟨none,rfl,F1⟩ (λi σ H2 _ ⟨_,_,F2⟩=>af.of (tr.same F2.sa).is) ?_ ?_⟩
  ·rintro i v σ H2 hi ⟨x,rfl,F2⟩;obtain⟨p,rfl,ep⟩:=qx hi;have em:(ps.map (·.1))[i]?=some p.1:=by rw[Ze,ep];rfl
   obtain⟨o1,_,_,o4⟩:=PB i;have:((ps.map (·.1)).take i).length<=1000:=by rw[Zx,Y0];omega
   refine⟨_,rfl,f,d.dx,_,rfl,F2.ob,abC d,_,rfl,H,_,bZ ps,n,f,p.1,d,_,rfl,fr,F2,o1,Y5 em,?_,λH3 F3 _=>⟨_,rfl,?_⟩⟩
   ·have:(jq n start).W.length=0:=rfl;omega
   ·rw[uV em];exact F3
  ·rintro σ H2 ⟨x,rfl,F2⟩;rw[Y0]at F2;obtain⟨o1,o2,o3,o4⟩:=PB ps.length;have et:(ps.map (·.1)).take ps.length=ps.map (·.1):=ZE (by rw[Y0];exact Y2 _);rw[et]at F2 o1 o2 o3 o4;have e0:(jq n start).W.length=0:=rfl;have e1:(jq n start).ss.length=0:=rfl;rw[Y0]at o4;refine⟨_,rfl,f,d.dx,_,rfl,F2.ob,UP d,H,_,bZ ps,n,f,d,_,J,rfl,fr,F2,o1,kj,j0,by rw[o2];omega,by rw[o2,o3];omega,λaX H3 F3 jr j3 w3 l3 _=>?_⟩;obtain⟨gx,gl,g1,g2⟩:=F3.gr.ob;obtain⟨sp,t1,t2⟩:=F3.sl;refine⟨_,rfl,f,CF,d.dx,_,_,rfl,F3.ob,TF.cl,TF.nG,mX d,d.g,CG,gx,_,_,rfl,g1,TG.cl,TG.nL,hZ gl,Yv g2 λl1 H4 h4 i4 s4=>?_⟩;refine⟨_,rfl,f,CF,d.dx,_,_,rfl,s4 _ _ F3.ob,TF.cl,TF.nS,Oa d,WI (t1.same s4) λl2 H5 h5 t5 s5=>⟨(show 2<=sizeLine by decide),λt ht=>?_⟩⟩;have s6:aa H5 (upd H5 t (.tup [.ref l1,.ref l2])):=(aa.refl H5).upd ht;exact k t l1 l2 sp aX _ aj (s6.ints (s5.ints i4)) (t5.same s6) t2 jr j3 w3 (by rw[<-Y0 (f:=(·.2)),t2];exact l3) (F3.sa.free h4) ((F3.sa.trans s4).free h5) (((F3.sa.trans s4).trans s5).trans s6)
def ou:aN ["first","a","way","rows","end","at","letter","new"] ["first","a","way"] (aF Na):=aQ
def Xr{f:Addr}{fd:FuncData}(F:aJ K "trail" "trail" Na f fd)(T:Txt K mg):aB P w K mg base aM 1 f fd ["first","a","way"] (K4 K):=by
 refine F.ok ou (λvs H Q E h=>?_) (λaw A outer s H vs Q E hr h=>?_)
 ·obtain⟨fi,st,l,ns,rfl,_⟩:=h
  rfl
 ·obtain⟨fi,st,l,ns,rfl,hS,hl,nz,k⟩:=h
  refine⟨_,bJ (b9 (i:=3) ou.nd rfl (Or.inl rfl) (qF ae))
   <|bJ (b9 (i:=4) ou.nd rfl (Or.inl rfl) (pv 1))
   <|bJ (cb Zl rfl (vz rfl T.enum vy (aq (pv 2) ae)) (gU rfl (bX (a7 (i:=5) ou.nd rfl (Or.inl rfl)) (bX (a7 (i:=6) ou.nd rfl (Or.inl rfl)) gS)))
    (bJ (b9 (i:=7) ou.nd rfl (Or.inl rfl) (aH cY (pv 0) (pv 5)))
    <|bJ (bo (aV jb (pv 6) ak (aO _))
     (bH (bM (fz PySem.F.plainAttrs_list PySem.F.slot_list_append PySem.F.type_list_append fu (pv 3) (aq (cO (aq (aH oA (iC iy ak) (pv 5)) (aq (pv 4) (aq (pv 6) (aq (pv 7) ae))))) ae))))
     (bH (bM (fz PySem.F.plainAttrs_list PySem.F.slot_list_append PySem.F.type_list_append fu (pv 3) (aq (cO (aq (aH oA (iC iy ak) (pv 5)) (aq (pv 7) (aq (iC iy (pv 6)) (aq (pv 4) ae))))) ae)))))
    <|bH (b9 (i:=4) ou.nd rfl (Or.inl rfl) (pv 7))))
   <|bH (ik (cO (aq (pv 3) (aq (pv 4) ae)))),?_⟩
  refine⟨Zo _,λr dc=>?_⟩;have s0:aa H (upd H r (.lst [])):=(aa.refl H).upd dc;refine⟨_,rfl,?_⟩
  refine⟨_,rfl,l,rfl,⟨_,s0.seq hS⟩,zL (K:=K) (a:=l) (xs:=ns.map V.int) (λi σ H2=>∃(ts:List Addr) (x y z:Option V),σ=[some (.int fi),some (.int st),some (.ref l),some (.ref r),some (.int (bK fi st i)),x,y,z]/\
   ts.length=i/\H2 r=some (.lst (ts.map V.ref))/\(∀j t,ts[j]?=some t->H2 t=some (.tup ((rowAt fi st ns j).map V.int)))/\aa H H2)
   ⟨[],none,none,none,rfl,rfl,aj,(λj t e=>by simp at e),s0⟩ (λi σ H2 _ ⟨_,_,_,_,_,_,_,_,s2⟩=>s2.seq hS) ?_ ?_⟩
  ·rintro i v σ H2 t hi ht ⟨ts,x,y,z,rfl,uw,h2,h3,s2⟩;obtain⟨c,rfl,hc⟩:=jA hi;have lY:i<ns.length:=(ZL.mp hc).1;have ec:ns.getD i 0=c:=by rw[List.getD,hc];rfl
   have c0:c≠0:=nz c (Y5 hc);have lQ:upd H2 t (.tup [.int i,.int c]) r=some (.lst (ts.map V.ref)):=by rw[ah (bj h2 ht)];exact h2
   have nrt:r≠t:=bj h2 ht;refine⟨t,_,rfl,bt.of aj,rfl,_,_,rfl,_,_,rfl,rfl,?_⟩;refine⟨_,rfl,_,rfl,_,_,rfl,rfl,?_⟩
   have fin:∀(q:Addr),(upd H2 t (.tup [.int i,.int c])) q=none->∃nT,nT=ts++[q]/\nT.length=i+1/\
     (upd (upd (upd H2 t (.tup [.int i,.int c])) q (.tup ((rowAt fi st ns i).map V.int))) r (.lst (ts.map V.ref++[V.ref q]))) r=some (.lst (nT.map V.ref))/\
     (∀j t',nT[j]?=some t'->(upd (upd (upd H2 t (.tup [.int i,.int c])) q (.tup ((rowAt fi st ns i).map V.int))) r (.lst (ts.map V.ref++[V.ref q]))) t'=some (.tup ((rowAt fi st ns j).map V.int)))/\
     aa H (upd (upd (upd H2 t (.tup [.int i,.int c])) q (.tup ((rowAt fi st ns i).map V.int))) r (.lst (ts.map V.ref++[V.ref q]))):=λq hq=>by
    have nrq:r≠q:=bj lQ hq;refine⟨_,rfl,by simp[uw],by rw[aj,Zd];rfl,λj t' e=>?_,((s2.fE ht).fE hq).upd dc⟩;by_cases hj:j<i
    ·rw[Zr (by omega)]at e;have e3:=h3 j t' e;have n1:t'≠r:=λz=>by rw[z,h2]at e3;cases e3
     have n2:t'≠t:=bj e3 ht;have n3:t'≠q:=λz=>by rw[z, <-ah (H:=H2) (a:=t) (o:=.tup [.int i,.int c]) (by rw[<-z];exact n2),hq]at e3;cases e3
     rw[ah n1,ah n3,ah n2];exact e3
    ·rw[Zt (by omega)]at e
     have:j=i:=by
      have:=(ZL.mp e).1;simp at this;omega
     subst this;rw[uw,Nat.sub_self]at e;have e':q=t':=by simpa using e
     subst e';rw[ah nrq.symm,aj]
   have len:(ts.map V.ref).length<sizeLine:=bI (by rw[Y0];omega);refine⟨_,rfl,_,_,rfl,rfl,_,rfl,?_⟩;refine cg (λhp=>?_) (λhp=>?_)
   ·have hp:0<c:=of_decide_eq_true hp;refine⟨_,rfl,.inl ⟨rfl,_,af.of lQ⟩,_,rfl,_,rfl,_,_,rfl,rfl,_,rfl,_,rfl,_,rfl,(show 4<=sizeLine by decide),λq hq=>?_⟩;have er:[V.int (-1-(i:Int)),V.int (bK fi st i),V.int c,V.int (fi+i)]=(rowAt fi st ns i).map V.int:=by unfold rowAt;rw[ec,if_pos hp];rfl
    obtain⟨nT,e1,e2,e3,e4,e5⟩:=fin q hq;rw[<-er]at e3 e4 e5;refine⟨r,_,_,rfl,rfl,(by rw[ah (bj lQ hq)];exact lQ),len,?_⟩;exact⟨_,rfl,nT,some (.int i),some (.int c),some (.int (fi+i)),by rw[za];rfl,e2,e3,e4,e5⟩
   ·have hp:¬0<c:=λz=>hp (ZN z);refine⟨_,rfl,.inl ⟨rfl,_,af.of lQ⟩,_,rfl,_,rfl,_,_,rfl,rfl,_,rfl,_,rfl,_,rfl,_,rfl,(show 4<=sizeLine by decide),λq hq=>?_⟩;have er:[V.int (-1-(i:Int)),V.int (fi+i),V.int (-c),V.int (bK fi st i)]=(rowAt fi st ns i).map V.int:=by unfold rowAt;rw[ec,if_neg hp];rfl
    obtain⟨nT,e1,e2,e3,e4,e5⟩:=fin q hq;rw[<-er]at e3 e4 e5;refine⟨r,_,_,rfl,rfl,(by rw[ah (bj lQ hq)];exact lQ),len,?_⟩;exact⟨_,rfl,nT,some (.int i),some (.int c),some (.int (fi+i)),by rw[za];rfl,e2,e3,e4,e5⟩
  ·rintro σ H2 ⟨ts,x,y,z,rfl,uw,h2,h3,s2⟩;rw[Y0]at uw⊢;refine⟨_,rfl,_,rfl,(show 2<=sizeLine by decide),λp hp=>?_⟩;exact k p r ts _ (s2.free hp) dc aj (by rw[ah (bj h2 hp)];exact h2) uw (λj t e=>by rw[ah (bj (h3 j t e) hp)];exact h3 j t e) (s2.fE hp)
def uN:aN ["kinds","way","letter"] ["kinds","way"] (aF uO):=aQ
def aav{f cK:Addr}{fd:FuncData}(F:aJ K "check_letters" "check_letters" uO f fd)(Ad:mg "NoKind"=some (.ref cK))(Ae:gd K cK=true)(T:Txt K mg):aB P w K mg base (bS P w) 1 f fd ["kinds","way"] (MK cK):=by
 refine F.gL uN (λvs H Q E h=>?_) (λaw A outer s H vs Q E hr h=>?_)
 ·obtain⟨k,wa,ws,rfl,_⟩:=h
  rfl
 ·obtain⟨k,wa,ws,rfl,hw,q,qe⟩:=h;refine⟨_,(@sO _ _ _ (cb (HZ rfl rfl) rfl (b8 (pv 1)) (a7 (i:=2) uN.nd rfl (Or.inl rfl)) (@sO _ _ _ (bo (PW.pt (gW (aV dQ (pv 2) ak (aO _)) (ij (aV jb (cq IZ (by rfl) T.abs Ms (@aC _ _ _ _ _ (pv 2) ae (by rfl))) (pv 0) (aO _))))) (@sO _ _ _ (mD rfl rfl Ad Ae (aq eA ae))) bx)))),?_⟩;refine⟨_,rfl,wa,rfl,⟨_,af.of hw⟩,eU (K:=K) (a:=wa) (xs:=ws.map V.int) (λi σ H2=>(∃x,σ=[some (.int k),some (.ref wa),x])/\H2=H/\∀l∈ws.take i,Let k l) ⟨⟨none,rfl⟩,rfl,by simp⟩ (λi σ H2 _ ⟨_,e,_⟩=>by rw[e];exact af.of hw) ?_ ?_⟩
  ·rintro i x σ H2 hi ⟨⟨y,rfl⟩,rfl,hl⟩;obtain⟨l,rfl,el⟩:=jA hi;have cA:i<ws.length:=(ZL.mp el).1;have ei:ws[i]=l:=(ZL.mp el).2;refine⟨_,rfl,rfl,_,rfl,cg (λz=>?_) λz=>⟨_,rfl,_,rfl,_,rfl,_,_,rfl,rfl,_,rfl,cg (λy=>?_) λy=>?_⟩⟩
   ·have z:=V.int.inj (of_decide_eq_true z);exact⟨by decide,qe λh=>(h l (Y5 el)).1 z⟩
   ·have y:=of_decide_eq_true y;exact⟨by decide,qe λh=>by have:=h l (Y5 el);obtain⟨_,a,b⟩:=this;split at y<;>omega⟩
   ·have z:¬l=0:=λw=>z (ZN (by rw[w]));have y:¬_:=λw=>y (ZN w);refine⟨⟨_,rfl⟩,rfl,λl' ju=>?_⟩;rw[Zi cA,ei]at ju;rcases Y6.mp ju with e|e
    ·exact hl l' e
    ·rw[Y1.mp e];refine⟨z,?_,?_⟩<;>(split at y<;>omega)
  ·rintro σ H2 ⟨⟨y,rfl⟩,rfl,hl⟩;rw[Y0,List.take_length]at hl;exact q hl
def T6:aN ["entries"] ["entries"] (aF zC):=aQ
def Vp{f C:Addr}{fd:FuncData}(F:aJ K "rows_of" "rows_of" zC f fd)(aK:fG K mg C):aB P w K mg base aM 1 f fd ["entries"] sr:=by
 obtain⟨_,kz⟩:=aK.row;refine F.ok T6 (λvs H Q E h=>?_) (λaw A outer s H vs Q E hr h=>?_)
 ·obtain⟨l,fp,es,rfl,_⟩:=h
  rfl
 ·obtain⟨l,fp,es,rfl,he,hl,q⟩:=h;obtain⟨ps,h1,h2,h3,h4,h5⟩:=he.ob;have lp:ps.length=es.length:=by rw[<-h3,Y0]
  refine⟨_,(@sO _ _ _ (@sR _ _ _ _ (zr [] [] (b8 (pv 0)) (λC s H fp=>aV dQ (aD (show jR _ (gK (kr K))from cD) (pv 0) ak (λ_ _=>rfl)) (gR (v:=.str "row") rfl kz ⟨_,rfl⟩) (aO _)) (λC s H fp=>cO (aq (aD (show jR _ (gK (kr K))from cD) (pv 0) ak (λ_ _=>rfl)) (aq (aD (show jR _ (gK (kr K))from cD) (pv 0) ak (λ_ _=>rfl)) (aq (aD (show jR _ (gK (kr K))from cD) (pv 0) ak (λ_ _=>rfl)) (aq (aD (show jR _ (gK (kr K))from cD) (pv 0) ak (λ_ _=>rfl)) ae))))) mI))),?_⟩;refine⟨_,rfl,l,rfl,⟨_,af.of h1⟩,Gp (xs:=ps.map λp=>V.ref p.1) λD hD=>⟨λi ys H2=>∃qs:Ps,ys=(qs.map λp=>V.ref p.1)/\qs.length<=i/\Tl H2 D qs/\qs.map (·.2)=rowsOf ((ps.take i).map (·.2))/\aa H H2,⟨[],rfl,Y2 _,⟨aj,(λ_ z=>nomatch z)⟩,rfl,(aa.refl H).upd hD⟩,?_,?_,?_⟩⟩
  ·rintro i ys H2 hi ⟨qs,rfl,ql,tl,_,s2⟩;rw[Y0]at hi;exact⟨s2.seq (af.of h1),tl.is,bI (by rw[Y0];omega)⟩
  ·rintro i x ys H2 hi ⟨qs,rfl,ql,tl,er,s2⟩ Q1 Q0 q1 q0;rw[Ze]at hi;cases ei:ps[i]? with
   |none=>rw[ei]at hi;cases hi
   |some p=>
    rw[ei]at hi;cases hi;obtain⟨cA,Dv⟩:=ZL.mp ei;have hp:=s2 _ _ (h2 p (Y5 ei));have et:(ps.take (i+1)).map (·.2)=(ps.take i).map (·.2)++[p.2]:=by rw[Zi cA,Dv,Zd];rfl
    obtain⟨pa,pe⟩:=p;cases pe with
    |row j a k b=>
     refine⟨_,rfl,cI hp rfl ⟨rfl,_,rfl,ki (by decide+kernel) ?_⟩⟩;refine⟨_,rfl,cI hp rfl ⟨_,rfl,cI hp rfl ⟨_,rfl,cI hp rfl ⟨_,rfl,cI hp rfl ⟨by show 4<=sizeLine;decide,λt ht=>?_⟩⟩⟩⟩⟩;have nD:D≠t:=bj tl.is ht;refine q1 _ _ (by rw[ah nD];exact tl.is) ⟨qs++[(t,[j,a,k,b])],by rw[Zd];rfl,by simp;omega,?_,?_,(s2.fE ht).upd hD⟩
     ·refine⟨by rw[aj,Zd];rfl,λp nF=>?_⟩;rcases Y6.mp nF with e|e
      ·have:=tl.tp p e;have n1:p.1≠D:=λz=>by rw[z,tl.is]at this;cases this
       rw[ah n1,ah (bj this ht)];exact this
      ·obtain rfl:=Y1.mp e;show upd _ D _ t=_;rw[ah nD.symm,aj];rfl
     ·rw[et,uW,Zd,er];rfl
    |ap j a b=>
     refine⟨_,rfl,cI hp rfl ⟨rfl,_,rfl,c6 (by decide+kernel) ?_⟩⟩;refine q0 _ ⟨qs,rfl,by omega,tl,?_,s2⟩;rw[et,uW,er];exact(ZY _).symm
  ·rintro ys H2 ⟨qs,rfl,ql,tl,er,s2⟩;rw[Y0,ZE (Y2 _),h3]at er;exact q D qs H2 hD tl er s2
def FH:aN ["entries","labels","entry"] ["entries","labels"] (aF yK):=aQ
def ab5{f C:Addr}{fd:FuncData}(F:aJ K "broken_oath" "broken_oath" yK f fd)(aK:fG K mg C):aB P w K mg base aM 1 f fd ["entries","labels"] Bx:=by
 obtain⟨_,Dw⟩:=aK.ap;refine F.ok FH (λvs H Q E h=>?_) (λaw A outer s H vs Q E hr h=>?_)
 ·obtain⟨l,ll,fp,es,ls,k,rfl,_⟩:=h
  rfl
 ·obtain⟨l,ll,fp,es,ls,k,rfl,he,rJ,ao,q⟩:=h;obtain⟨ps,h1,h2,h3,h4,h5⟩:=he.ob
  refine⟨_,(@sC _ _ _ _ _ (cb Zl rfl (b8 (pv 0)) (a7 (i:=2) FH.nd rfl (Or.inl rfl)) (@sO _ _ _ (bo (PW.pt (oz (aV dQ (aD cD (pv 2) ak (λ_ _=>rfl)) (gR (v:=.str "apart") rfl Dw ⟨_,rfl⟩) (aO _)) (qt (aV dQ (aD aP (pv 1) (aD cD (pv 2) ak (λ_ _=>rfl)) (λ_ _=>rfl)) (aD aP (pv 1) (aD cD (pv 2) ak (λ_ _=>rfl)) (λ_ _=>rfl)) (aO _))))) (@sO _ _ _ (@sR _ _ _ _ (aD cD (pv 2) ak (λ_ _=>rfl)))) bx)))
   (@sO _ _ _ (@sR _ _ _ _ eu))),?_⟩
  refine⟨_,rfl,l,rfl,⟨_,af.of h1⟩,eU (K:=K) (a:=l) (xs:=ps.map λp=>V.ref p.1) (λi σ H2=>(∃x,σ=[some (.ref l),some (.ref ll),x])/\H2=H/\cP es ls=cP ((ps.drop i).map (·.2)) ls) ⟨⟨none,rfl⟩,rfl,by rw[List.drop_zero,h3]⟩ (λi σ H2 _ ⟨_,e,_⟩=>by rw[e];exact af.of h1) ?_ ?_⟩
  ·rintro i x σ H2 hi ⟨⟨y,rfl⟩,rfl,eb⟩;rw[Ze]at hi;cases ei:ps[i]? with
   |none=>rw[ei]at hi;cases hi
   |some p=>
    rw[ei]at hi;cases hi;obtain⟨cA,Dv⟩:=ZL.mp ei;have mp:=Y5 ei;have hp:=h2 p mp;have ok:=ao p.2 (h3▸Zg.mpr ⟨p,mp,rfl⟩);rw[List.drop_eq_getElem_cons cA,Dv,Zq]at eb;obtain⟨pa,pe⟩:=p;cases pe with
    |row j a k b=>
     refine⟨_,rfl,cI hp rfl ⟨rfl,_,rfl,c6 (by decide+kernel) ⟨⟨_,rfl⟩,rfl,eb⟩⟩⟩
    |ap j a b=>
     obtain⟨⟨a0,a1⟩,⟨b0,b1⟩⟩:=ok;refine⟨_,rfl,cI hp rfl ⟨rfl,_,rfl,ki (by decide+kernel) ?_⟩⟩;refine⟨_,rfl,_,rfl,cI hp rfl (aY a.toNat rJ (by omega) ⟨_,rfl,_,rfl,cI hp rfl (aY b.toNat rJ (by omega) ⟨rfl,_,rfl,?_⟩ (by omega))⟩ (by omega))⟩
     have eb:cP es ls=if ls.getD a.toNat 0=ls.getD b.toNat 0 then some j else cP ((ps.drop (i+1)).map (·.2)) ls:=by
      rw[eb];exact zw ..
     by_cases z:ls.getD a.toNat 0=ls.getD b.toNat 0
     ·rw[if_pos z]at eb;rw[eb]at q;exact ki (ZN (by rw[z])) ⟨_,rfl,cI hp rfl q⟩
     ·rw[if_neg z]at eb;exact c6 (ZO λy=>z (V.int.inj y)) ⟨⟨_,rfl⟩,rfl,eb⟩
  ·rintro σ H2 ⟨⟨y,rfl⟩,rfl,eb⟩;rw[Y0,List.drop_length]at eb;rw[eb]at q;exact q
def Rv:aN ["self"] ["self"] (aF yu):=aQ
def Vq{f C cF:Addr}{fd:FuncData}(F:aJ K "chalk" "Survey.chalk" yu f fd)(Bg:mg "Full"=some (.ref cF))(Bh:gd K cF=true)(aK:fG K mg C):aB P w K mg base (bS P w) 1 f fd ["self"] (zS C cF):=by
 obtain⟨_,h24⟩:=aK.O4;refine F.gL Rv (λvs H Q E h=>?_) (λaw A outer s H vs Q E hr h=>?_)
 ·obtain⟨g,lh,B,rest,rfl,_⟩:=h
  rfl
 ·obtain⟨g,lh,B,rest,rfl,hB,q,qe⟩:=h;obtain⟨dx,ls,hg,he⟩:=id hB.ob
  refine⟨_,(@sC _ _ _ _ _ (bo (aV qL (aW (pv 0) rfl) (gR (v:=.int 24) rfl h24 ⟨_,rfl⟩) (aO _)) (@sO _ _ _ (mD rfl rfl Bg Bh (aq eA ae))) bx)
   (@sC _ _ _ _ _ (Hs (pv 0) ak Ma)
   (@sO _ _ _ (@sR _ _ _ _ (aH oA (aW (pv 0) rfl) ak))))),?_⟩
  refine⟨_,rfl,g,C,dx,_,_,rfl,hg,aK.cl,aK.nn,ku ..,_,_,rfl,rfl,_,rfl,cg (λz=>⟨by decide,qe (by have:=of_decide_eq_true z;omega)⟩) λz=>?_⟩;have z:¬_:=λy=>z (ZN y);have lt:B.n<24:=by omega
  refine⟨_,rfl,g,C,dx,_,_,rfl,hg,aK.cl,aK.nn,ku ..,_,_,rfl,rfl,dx,_,hg,(by show 5<1000;decide),?_⟩;rw[show(B.n:Int)+1=((B.n+1:Nat):Int)from rfl,acT];have pJ:=hB.fld (B':={B with n:=B.n+1}) hg he rfl rfl lt hB.fJ λe h=>(hB.ok e h).mono (Nat.le_succ _);refine⟨_,rfl,g,C,dx,_,_,rfl,aj,aK.cl,aK.nn,ku ..,_,_,rfl,rfl,?_⟩;show Q (V.int (((B.n+1:Nat):Int)-1)) _;rw[show((B.n+1:Nat):Int)-1=(B.n:Int)by omega];exact q lt _ pJ λc o e nc=>by rw[ah nc];exact e
def Fq:aN ["self","a","b","mark"] ["self","a","b"] (aF yf):=aQ
def aaw{f C cM:Addr}{fd:FuncData}(F:aJ K "check_marks" "Survey.check_marks" yf f fd)(Xs:mg "NoMark"=some (.ref cM))(Xt:gd K cM=true)(aK:fG K mg C):aB P w K mg base (bS P w) 1 f fd ["self","a","b"] (sW C cM):=by
 refine F.gL Fq (λvs H Q E h=>?_) (λaw A outer s H vs Q E hr h=>?_)
 ·obtain⟨g,lh,B,rest,a,b,rfl,_⟩:=h
  rfl
 ·obtain⟨g,lh,B,rest,a,b,rfl,hB,q,qe⟩:=h;obtain⟨dx,ls,hg,he⟩:=id hB.ob;refine⟨_,(@sO _ _ _ (cb (HZ rfl rfl) rfl (AO (cO (@aC _ _ _ _ _ (pv 1) (@aC _ _ _ _ _ (pv 2) ae (by rfl)) (by rfl)))) (a7 (i:=3) Fq.nd rfl (Or.inl rfl)) (@sO _ _ _ (bo (PW.pt (gW (aV jH (pv 3) ak (aO _)) (ij (aV qL (pv 3) (aW (pv 0) rfl) (aO _))))) (@sO _ _ _ (mD rfl rfl Xs Xt (aq eA ae))) bx)))),?_⟩;refine⟨_,rfl,_,rfl,by show 2<=sizeLine;decide,λt ht=>?_⟩;have s1:aa H (upd H t (.tup [.int a,.int b])):=(aa.refl H).upd ht;have h1:upd H t (.tup [.int a,.int b]) t=some (.tup [.int a,.int b]):=aj;generalize upd H t (.tup [.int a,.int b])=H1 at s1 h1;have eS:=s1 _ _ hg;refine⟨t,rfl,⟨_,bt.of h1⟩,Kq (K:=K) (a:=t) (xs:=[.int a,.int b]) (λi σ H2=>(∃x,σ=[some (.ref g),some (.int a),some (.int b),x])/\H2=H1/\(1<=i->aE B.n a)/\(2<=i->aE B.n b)) ⟨⟨none,rfl⟩,rfl,(λz=>by omega),(λz=>by omega)⟩ (λi σ H2 _ ⟨_,e,_⟩=>by rw[e];exact bt.of h1) ?_ ?_⟩
  ·rintro i x σ H2 hi ⟨⟨y,rfl⟩,rfl,i1,i2⟩
   obtain⟨m,rfl,w6,aeg⟩:∃m:Int,x=V.int m/\(¬aE B.n m->¬(aE B.n a/\aE B.n b))/\(aE B.n m->(1<=i+1->aE B.n a)/\(2<=i+1->aE B.n b)):=by
    match i,hi with
    |0,hi=>exact⟨a,(Zf hi).symm,(λh z=>h z.1),λh=>⟨λ_=>h,λz=>by omega⟩⟩
    |1,hi=>exact⟨b,(Zf hi).symm,(λh z=>h z.2),λh=>⟨λ_=>i1 (by omega),λ_=>h⟩⟩
   refine⟨_,rfl,_,_,rfl,rfl,_,rfl,cg (λz=>⟨by decide,qe (w6 λy=>by have:=of_decide_eq_true z;have:=y.1;omega) _ s1⟩) λz=>⟨_,rfl,_,rfl,g,C,dx,_,_,rfl,eS,aK.cl,aK.nn,ku ..,_,_,rfl,rfl,_,rfl,cg (λy=>⟨by decide,qe (w6 λw=>by have:=of_decide_eq_true y;have:=w.2;omega) _ s1⟩) λy=>?_⟩⟩;have z:¬_:=λw=>z (ZN w);have y:¬_:=λw=>y (ZN w);exact⟨⟨_,rfl⟩,rfl,aeg ⟨by omega,by omega⟩⟩
  ·rintro σ H2 ⟨⟨y,rfl⟩,rfl,i1,i2⟩;exact q ⟨i1 (by show 1<=2;decide),i2 (by show 2<=2;decide)⟩ _ s1
def Q9:aN ["self"] ["self"] (aF yh):=aQ
def aax{f C cF:Addr}{fd:FuncData}(F:aJ K "check_room" "Survey.check_room" yh f fd)(Bg:mg "Full"=some (.ref cF))(Bh:gd K cF=true)(T:Txt K mg)(aK:fG K mg C):aB P w K mg base (bS P w) 1 f fd ["self"] (A8 C cF):=by
 obtain⟨_,h40⟩:=aK.m40;refine F.gL Q9 (λvs H Q E h=>?_) (λaw A outer s H vs Q E hr h=>?_)
 ·obtain⟨g,lh,B,rest,rfl,_⟩:=h
  rfl
 ·obtain⟨g,lh,B,rest,rfl,hB,q,qe⟩:=h;obtain⟨dx,ls,hg,he⟩:=id hB.ob;obtain⟨ps,h1,h2,h3,h4,h5⟩:=he.ob;have lp:((ps.map λp=>V.ref p.1).length:Int)=B.es.length:=by rw[Y0, <-h3,Y0]
  refine⟨_,(@sO _ _ _ (bo (aV qL (cq fm (by rfl) T.len PySem.boot_len (@aC _ _ _ _ _ (aW (pv 0) rfl) ae (by rfl))) (gR (v:=.int 40) rfl h40 ⟨_,rfl⟩) (aO _)) (@sO _ _ _ (mD rfl rfl Bg Bh (aq eA ae))) bx)),?_⟩;refine⟨_,rfl,g,C,dx,_,_,rfl,hg,aK.cl,aK.ns,lC ..,ls,_,rfl,.inl (af.of h1),_,_,rfl,rfl,_,rfl,?_⟩;refine cg (λz=>⟨by decide,qe (by have:=of_decide_eq_true z;rw[lp]at this;omega)⟩) λz=>?_;have z:¬_:=λy=>z (ZN y);exact q (by rw[lp]at z;omega)
def FD:aN ["self","told","number"] ["self","told"] (aF yB):=aQ
def Xu{f C:Addr}{fd:FuncData}(F:aJ K "enter" "Survey.enter" yB f fd)(aK:fG K mg C):aB P w K mg base aM 1 f fd ["self","told"] (Az C):=by
 refine F.ok FD (λvs H Q E h=>?_) (λaw A outer s H vs Q E hr h=>?_)
 ·obtain⟨g,lh,B,rest,t,e,rfl,_⟩:=h
  rfl
 ·obtain⟨g,lh,B,rest,t,e,rfl,hB,ht,jY,fJ,q⟩:=h;obtain⟨dx,ls,hg,he⟩:=id hB.ob;obtain⟨ps,h1,h2,h3,h4,h5⟩:=id he.ob;have lp:ps.length=B.es.length:=by rw[<-h3,Y0]
  refine⟨_,(@sC _ _ _ _ _ (@sS _ 2 _ _ _ _ _ FD.nd rfl (Or.inl rfl) (aW (pv 0) rfl) (by rfl) (.inl rfl))
   (@sC _ _ _ _ _ (gw (pv 0) (aH kS (aW (pv 0) rfl) (@eL _ _ _ _ (@aC _ _ _ _ _ (aH Kw (cO (aq (pv 2) ae)) (pv 1)) ae (by rfl)))) rfl)
   (@sC _ _ _ _ _ (Hs (pv 0) ak Ma)
   (@sO _ _ _ (@sR _ _ _ _ (pv 2)))))),?_⟩
  refine⟨_,rfl,g,C,dx,_,_,rfl,hg,aK.cl,aK.nc,Ck ..,?_⟩;refine⟨_,rfl,g,C,dx,_,_,rfl,hg,aK.cl,aK.ns,lC ..,_,rfl,by show 1<=sizeLine;decide,λp1 hJ=>?_⟩;have s1:aa H (upd H p1 (.tup [.int B.c])):=(aa.refl H).upd hJ;have i1:upd H p1 (.tup [.int B.c]) p1=some (.tup [.int B.c]):=aj;generalize upd H p1 (.tup [.int B.c])=H1 at s1 i1
  have tl:1+e.told.length<=sizeLine/\e.told≠[]:=by
   cases e with
   |row=>exact⟨by show 1+4<=sizeLine;decide,(λz=>nomatch z)⟩
   |ap=>exact⟨by show 1+3<=sizeLine;decide,(λz=>nomatch z)⟩
  refine⟨_,rfl,p1,t,_,_,rfl,rfl,bt.of i1,bt.of (s1 _ _ ht),(λz=>nomatch z),tl.1,λz=>absurd z tl.2,λ_ p2 iP=>?_⟩;have ev:[V.int B.c]++e.told=(e.re B.c).vs:=by cases e<;>rfl
  rw[ev];have s2:aa H1 (upd H1 p2 (.tup (e.re B.c).vs)):=(aa.refl H1).upd iP;have i2:upd H1 p2 (.tup (e.re B.c).vs) p2=some (.tup (e.re B.c).vs):=aj;generalize upd H1 p2 (.tup (e.re B.c).vs)=H2 at s2 i2;refine jE (by show 1<=1000;decide) λp3 H3 PD i3 s3=>?_;have gp:=s1.trans (s2.trans s3);refine Ax (gp _ _ h1) i3 (by rw[Y0,lp];show B.es.length+1<=_;omega) λp4 H4 xH i4 s4=>?_;have dD:=gp.trans s4;have n4:H p4=none:=gp.free xH;have n2:H p2=none:=s1.free iP;have g2:p2≠g:=λz=>by rw[z,hg]at n2;cases n2
  have g4:p4≠g:=λz=>by rw[z,hg]at n4;cases n4
  have l2:p2≠lh:=λz=>hB.lg.1 (z▸n2);have l4:p4≠lh:=λz=>hB.lg.1 (z▸n4);have sub:∀a∈rest,a∈p4::p2::rest:=λa ha=>Y3 _ (Y3 _ ha)
  have nl':lh∉p4::p2::rest:=λz=>by
   rcases Y4.mp z with z|z
   ·exact l4 z.symm
   rcases Y4.mp z with z|z
   ·exact l2 z.symm
   ·exact hB.nl z
  have ng':g∉p4::p2::rest:=λz=>by
   rcases Y4.mp z with z|z
   ·exact g4 z.symm
   rcases Y4.mp z with z|z
   ·exact g2 z.symm
   ·exact hB.ng z
  have lv':∀a∈p4::p2::rest,∃o,H4 a=some o:=λa ha=>by
   rcases Y4.mp ha with z|z
   ·exact⟨_,z▸i4⟩
   rcases Y4.mp z with z|z
   ·exact⟨_,z▸s4 _ _ (s3 _ _ i2)⟩
   ·obtain⟨o,e⟩:=hB.lv a z;exact⟨o,dD _ _ e⟩
  have pM:=(hB.same dD).more sub nl' ng' lv';have PF:=dD _ _ hg
  have pN:El H4 (p4::p2::rest) p4 (B.add e).es:=by
   refine⟨ps++[(p2,e.re B.c)],by rw[Zd];exact i4,λp hp=>?_,by rw[Zd,h3];rfl,Y8 ..,λp hp=>?_⟩
   ·rcases Y6.mp hp with z|z
    ·exact dD _ _ (h2 p z)
    ·rw[Y1.mp z];exact s4 _ _ (s3 _ _ i2)
   ·rcases Y6.mp hp with z|z
    ·exact sub _ (h5 p z)
    ·rw[Y1.mp z];exact Y3 _ (Y8 ..)
  have lad:(B.add e).es.length<=40:=by show(B.es++[e.re B.c]).length<=40;simp;omega
  have oka:∀x∈(B.add e).es,dJ (B.add e).k (B.add e).n x:=λx hx=>by
   rcases Y6.mp (show x∈B.es++[e.re B.c]from hx)with z|z
   ·exact hB.ok x z
   ·rw[Y1.mp z];cases e<;>exact jY
  refine⟨_,rfl,g,C,dx,_,rfl,PF,aK.cl,aK.ns,(by show 5<1000;decide),?_⟩;rw[acU];refine⟨_,rfl,g,C,dx,_,_,rfl,aj,aK.cl,aK.nc,Ck ..,_,_,rfl,rfl,dx,_,aj,(by show 5<1000;decide),?_⟩;rw[acV,oj];have hB5:=pM.fld (B':=B.add e) PF pN rfl rfl hB.d0 lad oka;refine⟨_,rfl,q _ _ hB5 (λx hx=>?_) λc o e' nc=>by rw[ah nc];exact dD _ _ e'⟩;rcases Y4.mp hx with z|z
  ·rw[z];exact .inr n4
  rcases Y4.mp z with z|z
  ·rw[z];exact .inr n2
  ·exact .inl z
def yE:aN ["self","a","way","b","rows","end"] ["self","a","way","b"] (aF yJ):=aQ
def Xv{f C cM cK:Addr}{fd:FuncData}(F:aJ K "laid" "Survey.laid" yJ f fd)(aK:fG K mg C)(CM:b4 P w K mg base C "check_marks" ["self","a","b"] 1 (sW C cM))(CL:lO P w K mg base "check_letters" ["kinds","way"] 1 (MK cK))
  (TRL:ba P w K mg base "trail" ["first","a","way"] 1 (K4 K))(RW:ba P w K mg base "rows_of" ["entries"] 1 sr):aB P w K mg base (bS P w) 2 f fd ["self","a","way","b"] (AA C cM cK):=by
 refine F.gL yE (λvs H Q E h=>?_) (λaw A outer s H vs Q E hr h=>?_)
 ·obtain⟨g,lh,B,rest,a,b,wa,ws,rfl,_⟩:=h
  rfl
 ·obtain⟨g,lh,B,rest,a,b,wa,ws,rfl,hB,hw,wl,q,qm,qk⟩:=h;obtain⟨dx,ls,hg,he⟩:=id hB.ob
  refine⟨_,(@sC _ _ _ _ _ (bM (CM.pe hr (pv 0) (@aC _ _ _ _ _ (pv 1) (@aC _ _ _ _ _ (pv 3) ae (by rfl)) (by rfl))))
   (@sC _ _ _ _ _ (bM (CL.pe hr (@aC _ _ _ _ _ (aW (pv 0) rfl) (@aC _ _ _ _ _ (pv 2) ae (by rfl)) (by rfl))))
   (@sC _ _ _ _ _ (jB (TRL.pe hr (@aC _ _ _ _ _ (aW (pv 0) rfl) (@aC _ _ _ _ _ (pv 1) (@aC _ _ _ _ _ (pv 2) ae (by rfl)) (by rfl)) (by rfl))) (gU rfl (bX (a7 (i:=4) yE.nd rfl (Or.inl rfl)) (bX (a7 (i:=5) yE.nd rfl (Or.inl rfl)) gS))))
   (@sO _ _ _ (@sR _ _ _ _ (cO (@aC _ _ _ _ _ (aH kS (RW.pe hr (@aC _ _ _ _ _ (aW (pv 0) rfl) ae (by rfl))) (pv 4)) (@aC _ _ _ _ _ (pv 5) ae (by rfl)) (by rfl)))))))),?_⟩
  refine⟨_,rfl,g,dx,_,rfl,hg,rfl,_,rfl,_,rfl,g,lh,B,rest,a,b,rfl,hB,λhm H1 s1=>?_,qm⟩;refine⟨_,rfl,g,C,dx,_,_,rfl,s1 _ _ hg,aK.cl,aK.nk,Cj ..,_,rfl,B.k,wa,ws,rfl,s1.ints hw,λhl=>?_,λhl=>qk hm hl H1 s1⟩;refine⟨_,rfl,g,C,dx,_,_,rfl,s1 _ _ hg,aK.cl,aK.nn,ku ..,_,rfl,_,rfl,(B.n:Int),a,wa,ws,rfl,af.of (s1.ints hw),by omega,(λl ju=>(hl l ju).1),λp r ts H2 hp eN ip ir lts ht s2=>?_⟩;obtain⟨nU,t2,e2⟩:=W4 ir lts ht;refine⟨p,_,rfl,bt.of ip,rfl,_,_,rfl,_,_,rfl,rfl,?_⟩;have bu:=s1.trans s2;refine⟨_,rfl,g,C,dx,_,_,rfl,bu _ _ hg,aK.cl,aK.ns,lC ..,ls,rest,B.es,rfl,he.same bu,by have:=hB.fJ;omega,λr1 nV H3 PH t1 e1 s3=>?_⟩;have l1:=qj e1;have l2:=qj e2;have:=r9 B.es;have:=hB.fJ;rw[se]at l2;refine⟨_,rfl,Ax t1.is (s3 _ _ t2.is) (by rw[Y0,Y0];omega) λr4 H4 hr4 i4 s4=>?_⟩;have t4:Tl H4 r4 (nV++nU):=Tl.cat t1 (t2.same s3) s4 i4;refine⟨_,rfl,by show 2<=sizeLine;decide,λt ph=>?_⟩;have s5:aa H4 (upd H4 t (.tup [.ref r4,.int (bK B.n a ws.length)])):=(aa.refl H4).upd ph;exact q hm hl t r4 (nV++nU) _ aj (t4.same s5) (by rw[Zd,e1,e2]) (bu.trans (s3.trans (s4.trans s5)))
def rV:aN ["self","a","way","b","rows","end","labels","paper"] ["self","a","way","b"] (aF yg):=aQ
def Xw{f C cM cK:Addr}{fd:FuncData}(F:aJ K "must_paper" "Survey.must_paper" yg f fd)(T:Txt K mg)(aK:fG K mg C)(Dx:b4 P w K mg base C "laid" ["self","a","way","b"] 2 (AA C cM cK))(FO:ba P w K mg base "folded" ["marks","rows","start"] 6 sM):
  aB P w K mg base (bS P w) 7 f fd ["self","a","way","b"] (AB C cM cK):=by
 refine F.gL rV (λvs H Q E h=>?_) (λaw A outer s H vs Q E hr h=>?_)
 ·obtain⟨g,lh,B,rest,a,b,wa,ws,rfl,_⟩:=h
  rfl
 ·obtain⟨g,lh,B,rest,a,b,wa,ws,rfl,hB,hw,wl,q,q0,qm,qk⟩:=h;obtain⟨dx,ls,hg,he⟩:=id hB.ob;have d0:=hB.d0
  refine⟨_,(@sC _ _ _ _ _ (jB (Dx.pe hr (pv 0) (@aC _ _ _ _ _ (pv 1) (@aC _ _ _ _ _ (pv 2) (@aC _ _ _ _ _ (pv 3) ae (by rfl)) (by rfl)) (by rfl))) (gU rfl (bX (a7 (i:=4) rV.nd rfl (Or.inl rfl)) (bX (a7 (i:=5) rV.nd rfl (Or.inl rfl)) gS))))
   (@sC _ _ _ _ _ (jB (FO.pe hr (@aC _ _ _ _ _ (aH cY (aW (pv 0) rfl) (cq fm (by rfl) T.len PySem.boot_len (@aC _ _ _ _ _ (pv 2) ae (by rfl)))) (@aC _ _ _ _ _ (pv 4) (@aC _ _ _ _ _ (fO ae) ae (by rfl)) (by rfl)) (by rfl))) (gU rfl (bX (a7 (i:=6) rV.nd rfl (Or.inl rfl)) (bX (a7 (i:=7) rV.nd rfl (Or.inl rfl)) gS))))
   (@sC _ _ _ _ _ (bo (aV vT (aD aP (pv 6) (pv 5) (λ_ _=>rfl)) (aD aP (pv 6) (pv 3) (λ_ _=>rfl)) (aO _)) (@sO _ _ _ (@sR _ _ _ _ eu)) bx)
   (@sO _ _ _ (@sR _ _ _ _ (pv 7)))))),?_⟩
  refine⟨_,rfl,g,dx,_,rfl,hg,rfl,_,rfl,_,rfl,_,rfl,g,lh,B,rest,a,b,wa,ws,rfl,hB,hw,wl,λhm hl t r ps H1 ht tr er s1=>?_,qm,qk⟩;refine⟨t,_,rfl,bt.of ht,rfl,_,_,rfl,_,_,rfl,rfl,?_⟩;refine⟨_,rfl,g,C,dx,_,_,rfl,s1 _ _ hg,aK.cl,aK.nn,ku ..,_,rfl,wa,_,rfl,.inl (af.of (s1.ints hw)),_,_,rfl,rfl,_,rfl,jE (by show 0<=1000;decide) λl0 H2 Dy i0 s2=>?_⟩;have t2:=tr.same s2;have en:((B.n:Int)+((ws.map V.int).length:Int))=((B.n+ws.length:Nat):Int):=by rw[Y0];rfl
  have nO:∀r∈rowsOf B.es++dH B.n a ws,c5 (B.n+ws.length) r/\1<=r.getD 2 0/\r.getD 2 0<=5:=λr eN=>by
   rcases Y6.mp eN with z|z
   ·exact mB hB.k5 (λe h=>(hB.ok e h).mono (Nat.le_add_right _ _)) r z
   ·exact zx hm.1 hB.k5 hl r z
  have eP:=qj er;have:=r9 B.es;have:=hB.fJ;rw[Zn,se]at eP;refine⟨B.n+ws.length,r,l0,ps,[],by show [V.int ((B.n:Int)+((ws.map V.int).length:Int)),_,_]=_;rw[en],t2,⟨i0,(λ_ z=>nomatch z)⟩,ve er nO,(λ_ z=>nomatch z),by omega,by omega,by simp,λt3 l1 l2 sp l H3 h3 i3 tl3 fL hp cp _ f2 s3=>?_⟩;rw[er]at fL;have el:l=B.jL a ws:=fL.eq;have ll:l.length=B.n+ws.length:=fL.1.ax.len;refine⟨t3,_,rfl,bt.of h3,rfl,_,_,rfl,_,_,rfl,rfl,?_⟩;obtain⟨e0,e1⟩:=uZ hm.1 ws.length ws.length (Y2 _);obtain⟨b0,b1⟩:=hm.2;refine⟨_,rfl,_,rfl,aY (bK B.n a ws.length).toNat i3 (by omega) ⟨_,rfl,_,rfl,aY b.toNat i3 (by omega) ⟨rfl,_,rfl,?_⟩ (by omega)⟩ (by omega)⟩;have gp:=s1.trans (s2.trans s3);by_cases z:l.getD (bK B.n a ws.length).toNat 0=l.getD b.toNat 0
  ·refine c6 (by rw[z];simp) ⟨_,rfl,?_⟩;rw[el]at z;refine q hm hl z l2 sp ps H3 tl3 er (λu=>?_) cp ((s1.trans s2).free f2) gp;have:=hp u;rw[el]at this;exact this
  ·refine ki (by rw[ZO (λy=>z (V.int.inj y))];rfl) ?_;rw[el]at z;exact q0 hm hl z H3 gp
def Rw:aN ["self","a","b"] ["self","a","b"] (aF yy):=aQ
def aay{f C cM cK:Addr}{fd:FuncData}(F:aJ K "paper" "Survey.paper" yy f fd)(MP:b4 P w K mg base C "must_paper" ["self","a","way","b"] 7 (AB C cM cK)):aB P w K mg base (bS P w) 8 f fd ["self","a","b"] (ML C cM):=by
 refine F.gL Rw (λvs H Q E h=>?_) (λaw A outer s H vs Q E hr h=>?_)
 ·obtain⟨g,lh,B,rest,a,b,rfl,_⟩:=h
  rfl
 ·obtain⟨g,lh,B,rest,a,b,rfl,hB,q,q0,qm⟩:=h;obtain⟨dx,ls,hg,he⟩:=id hB.ob;refine⟨_,(@sO _ _ _ (@sR _ _ _ _ (MP.pe hr (pv 0) (@aC _ _ _ _ _ (pv 1) (@aC _ _ _ _ _ (fO ae) (@aC _ _ _ _ _ (pv 2) ae (by rfl)) (by rfl)) (by rfl))))),?_⟩;refine⟨_,rfl,g,dx,_,rfl,hg,rfl,_,rfl,jD [] λl0 H1 Dy i0 s1=>⟨_,rfl,?_⟩⟩;refine⟨g,lh,B,rest,a,b,l0,[],rfl,hB.same s1,i0,by simp,λhm _ z l2 sp ps H2 t2 er hp cp f2 s2=>?_,λhm _ z H2 s2=>?_,λhm H2 s2=>qm hm H2 (s1.trans s2),λ_ z=>absurd (λ_ y=>nomatch y) z⟩
  ·rw[B.JA]at z hp;refine q hm z l2 sp ps H2 t2 (by rw[er];exact ZY _) (λu=>hp u) cp (s1.free f2) (s1.trans s2)
  ·rw[B.JA]at z;exact q0 hm z H2 (s1.trans s2)
def RG:aN ["self","a","b"] ["self","a","b"] (aF yI):=aQ
def Xx{f C cM:Addr}{fd:FuncData}(F:aJ K "same" "Survey.same" yI f fd)(PP:b4 P w K mg base C "paper" ["self","a","b"] 8 (ML C cM)):aB P w K mg base (bS P w) 9 f fd ["self","a","b"] (Lg C cM):=by
 refine F.gL RG (λvs H Q E h=>?_) (λaw A outer s H vs Q E hr h=>?_)
 ·obtain⟨g,lh,B,rest,a,b,rfl,_⟩:=h
  rfl
 ·obtain⟨g,lh,B,rest,a,b,rfl,hB,q,qm⟩:=h;obtain⟨dx,ls,hg,he⟩:=id hB.ob;refine⟨_,(@sO _ _ _ (@sR _ _ _ _ (qu kQ (PP.pe hr (pv 0) (@aC _ _ _ _ _ (pv 1) (@aC _ _ _ _ _ (pv 2) ae (by rfl)) (by rfl))) eu (aO _)))),?_⟩;refine⟨_,rfl,g,dx,_,rfl,hg,rfl,_,rfl,_,rfl,g,lh,B,rest,a,b,rfl,hB,λhm z l2 sp ps H2 t2 er hp cp _ s2=>?_,λhm z H2 s2=>?_,qm⟩
  ·have:=q hm H2 s2;rw[ZN z]at this;exact⟨rfl,this⟩
  ·have:=q hm H2 s2;rw[ZO z]at this;exact⟨rfl,this⟩
def yN:aN ["self","a","kind","b","labels","paper"] ["self","a","kind","b"] (aF yV):=aQ
def Xy{f C cM cK cF cB:Addr}{fd:FuncData}(F:aJ K "row" "Survey.row" yV f fd)(Ad:mg "NoKind"=some (.ref cK))(Ae:gd K cK=true)(sy:mg "Barred"=some (.ref cB))(Af:gd K cB=true)(aK:fG K mg C)
  (CM:b4 P w K mg base C "check_marks" ["self","a","b"] 1 (sW C cM))(Dz:b4 P w K mg base C "check_room" ["self"] 1 (A8 C cF))(FO:ba P w K mg base "folded" ["marks","rows","start"] 6 sM)(RW:ba P w K mg base "rows_of" ["entries"] 1 sr)(BO:ba P w K mg base "broken_oath" ["entries","labels"] 1 Bx)(DA:cz P w K mg base C "enter" ["self","told"] 1 (Az C)):
  aB P w K mg base (bS P w) 7 f fd ["self","a","kind","b"] (Lh C cM cK cF cB):=by
 obtain⟨_,kz⟩:=aK.row;refine F.gL yN (λvs H Q E h=>?_) (λaw A outer s H vs Q E hr h=>?_)
 ·obtain⟨g,lh,B,rest,a,kd,b,rfl,_⟩:=h
  rfl
 ·obtain⟨g,lh,B,rest,a,kd,b,rfl,hB,q,qm,qk,qf,qb⟩:=h;obtain⟨dx,ls,hg,he⟩:=id hB.ob;have d0:=hB.d0
  refine⟨_,(@sC _ _ _ _ _ (bM (CM.pe hr (pv 0) (@aC _ _ _ _ _ (pv 1) (@aC _ _ _ _ _ (pv 3) ae (by rfl)) (by rfl))))
   (@sC _ _ _ _ _ (bo (PW.pt (gW (aV jH (pv 2) ak (aO _)) (ij (aV jb (pv 2) (aW (pv 0) rfl) (aO _))))) (@sO _ _ _ (mD rfl rfl Ad Ae (aq eA ae))) bx)
   (@sC _ _ _ _ _ (bM (Dz.pz hr (pv 0)))
   (@sC _ _ _ _ _ (jB (FO.pe hr (@aC _ _ _ _ _ (aW (pv 0) rfl) (@aC _ _ _ _ _ (aH kS (RW.pe hr (@aC _ _ _ _ _ (aW (pv 0) rfl) ae (by rfl))) (@eL _ _ _ _ (@aC _ _ _ _ _ (cO (@aC _ _ _ _ _ (aW (pv 0) rfl) (@aC _ _ _ _ _ (pv 1) (@aC _ _ _ _ _ (pv 2) (@aC _ _ _ _ _ (pv 3) ae (by rfl)) (by rfl)) (by rfl)) (by rfl))) ae (by rfl)))) (@aC _ _ _ _ _ (fO ae) ae (by rfl)) (by rfl)) (by rfl))) (gU rfl (bX (a7 (i:=4) yN.nd rfl (Or.inl rfl)) (bX (a7 (i:=5) yN.nd rfl (Or.inl rfl)) gS))))
   (@sC _ _ _ _ _ (bo (aV kQ (BO.pe hr (@aC _ _ _ _ _ (aW (pv 0) rfl) (@aC _ _ _ _ _ (pv 4) ae (by rfl)) (by rfl))) eu (aO _)) (@sO _ _ _ (mD rfl rfl sy Af (aq eA ae))) bx)
   (@sO _ _ _ (@sR _ _ _ _ (DA.pe hr (pv 0) (@aC _ _ _ _ _ (cO (@aC _ _ _ _ _ (gR (v:=.str "row") rfl kz ⟨_,rfl⟩) (@aC _ _ _ _ _ (pv 1) (@aC _ _ _ _ _ (pv 2) (@aC _ _ _ _ _ (pv 3) ae (by rfl)) (by rfl)) (by rfl)) (by rfl))) ae (by rfl)))))))))),?_⟩
  refine⟨_,rfl,g,dx,_,rfl,hg,rfl,_,rfl,_,rfl,g,lh,B,rest,a,b,rfl,hB,λhm H1 s1=>?_,qm⟩;have eS:=s1 _ _ hg;have lZ:=hB.same s1;refine⟨_,rfl,_,_,rfl,rfl,_,rfl,cg (λz=>⟨by decide,qk hm (λy=>by have:=of_decide_eq_true z;omega) _ s1⟩) λz=>⟨_,rfl,_,rfl,g,C,dx,_,_,rfl,eS,aK.cl,aK.nk,Cj ..,_,_,rfl,rfl,_,rfl,cg (λy=>⟨by decide,qk hm (λw=>by have:=of_decide_eq_true y;omega) _ s1⟩) λy=>?_⟩⟩;have z:¬_:=λw=>z (ZN w);have y:¬_:=λw=>y (ZN w);have hk:1<=kd/\kd<=B.k:=⟨by omega,by omega⟩;refine⟨_,rfl,g,dx,_,rfl,eS,rfl,g,lh,B,rest,rfl,lZ,λjJ=>?_,λjJ=>qf hm hk jJ H1 s1⟩;refine⟨_,rfl,g,C,dx,_,_,rfl,eS,aK.cl,aK.nn,ku ..,_,rfl,g,C,dx,_,_,rfl,eS,aK.cl,aK.ns,lC ..,ls,rest,B.es,rfl,he.same s1,by omega,λr1 nV H2 PH t1 e1 s2=>?_⟩;have kJ:=s2 _ _ eS;refine⟨_,rfl,g,C,dx,_,_,rfl,kJ,aK.cl,aK.nc,Ck ..,_,rfl,_,rfl,_,rfl,by show 4<=sizeLine;decide,λtp DB=>?_⟩;have s3:aa H2 (upd H2 tp (.tup [.int B.c,.int a,.int kd,.int b])):=(aa.refl H2).upd DB;have i3:upd H2 tp (.tup [.int B.c,.int a,.int kd,.int b]) tp=some (.tup [.int B.c,.int a,.int kd,.int b]):=aj;generalize upd H2 tp (.tup [.int B.c,.int a,.int kd,.int b])=H3 at s3 i3;refine jE (by show 1<=1000;decide) λl4 H4 DC i4 s4=>?_;have t4:Tl H4 l4 [(tp,[B.c,a,kd,b])]:=⟨i4,λp hp=>by rw[Y1.mp hp];exact s4 _ _ i3⟩;have l1:=qj e1;have:=r9 B.es;refine Ax (s4 _ _ (s3 _ _ t1.is)) i4 (by rw[Y0];show nV.length+1<=_;omega) λl5 H5 hl5 i5 s5=>?_;have t5:Tl H5 l5 (nV++[(tp,[B.c,a,kd,b])]):=Tl.cat (t1.same (s3.trans s4)) t4 s5 i5;have e5:(nV++[(tp,[B.c,a,kd,b])]).map (·.2)=rowsOf B.es++[[B.c,a,kd,b]]:=by rw[Zd,e1];rfl
  refine jE (by show 0<=1000;decide) λl6 H6 hl6 i6 s6=>?_
  have nO:∀r∈rowsOf B.es++[[B.c,a,kd,b]],c5 B.n r/\1<=r.getD 2 0/\r.getD 2 0<=5:=λr eN=>by
   rcases Y6.mp eN with z|z
   ·exact mB hB.k5 hB.ok r z
   ·rw[Y1.mp z];obtain⟨⟨a0,a1⟩,b0,b1⟩:=hm;have:=hB.k5;refine⟨⟨B.c,a.toNat,kd,b.toNat,by rw[Zw a0,Zw b0],by omega,by omega⟩,hk.1,?_⟩;show kd<=5;omega
  refine⟨B.n,l5,l6,_,[],rfl,t5.same s6,⟨i6,(λ_ z=>nomatch z)⟩,ve e5 nO,(λ_ z=>nomatch z),by omega,by simp;omega,by simp,λt7 la lp sp l H7 h7 i7 tl7 fL hp cp _ _ s7=>?_⟩;rw[e5]at fL;have el:l=fl B.n (rowsOf B.es++[[B.c,a,kd,b]]):=fL.eq;have ll:l.length=B.n:=fL.1.ax.len;refine⟨t7,_,rfl,bt.of h7,rfl,_,_,rfl,_,_,rfl,rfl,?_⟩;have s17:aa H1 H7:=s2.trans (s3.trans (s4.trans (s5.trans (s6.trans s7))));have ux:=s1.trans s17;refine⟨_,rfl,g,C,dx,_,_,rfl,ux _ _ hg,aK.cl,aK.ns,lC ..,_,rfl,ls,la,rest,B.es,l,B.k,rfl,he.same ux,i7,by rw[ll];exact hB.ok,rfl,_,rfl,?_⟩;cases PJ:cP B.es l with
  |some i=>
   refine fD ⟨by decide,qb hm hk jJ ?_ _ ux⟩;show cP B.es (fl B.n (rowsOf B.es++[[B.c,a,kd,b]]))≠none;rw[<-el,PJ];exact(λz=>nomatch z)
  |none=>
   refine cf ?_;refine⟨_,rfl,g,dx,_,rfl,ux _ _ hg,rfl,_,rfl,_,rfl,_,rfl,by show 4<=sizeLine;decide,λtq DD=>?_⟩;have s8:aa H7 (upd H7 tq (.tup [.str "row",.int a,.int kd,.int b])):=(aa.refl H7).upd DD;have pO:=ux.trans s8;refine⟨g,lh,B,rest,tq,.row 0 a kd b,rfl,hB.same pO,aj,⟨hm.1,hk,hm.2⟩,jJ,λH9 bD DF nw kp=>?_⟩;refine q hm hk jJ ?_ H9 bD DF (λx hx=>?_) λc o e nc=>kp c o (pO _ _ e) nc
   ·show¬cP B.es (fl B.n (rowsOf B.es++[[B.c,a,kd,b]]))≠none;rw[<-el,PJ];exact λz=>z rfl
   ·rcases nw x hx with z|z
    ·exact .inl z
    ·exact .inr (pO.free z)
def Rx:aN ["self","a","b"] ["self","a","b"] (aF yw):=aQ
def ab6{f C cM cF cB:Addr}{fd:FuncData}(F:aJ K "apart" "Survey.apart" yw f fd)(sy:mg "Barred"=some (.ref cB))(Af:gd K cB=true)(aK:fG K mg C)
  (CM:b4 P w K mg base C "check_marks" ["self","a","b"] 1 (sW C cM))(Dz:b4 P w K mg base C "check_room" ["self"] 1 (A8 C cF))(SM:b4 P w K mg base C "same" ["self","a","b"] 9 (Lg C cM))(DA:cz P w K mg base C "enter" ["self","told"] 1 (Az C)):
  aB P w K mg base (bS P w) 10 f fd ["self","a","b"] (NA C cM cF cB):=by
 obtain⟨_,Dw⟩:=aK.ap;refine F.gL Rx (λvs H Q E h=>?_) (λaw A outer s H vs Q E hr h=>?_)
 ·obtain⟨g,lh,B,rest,a,b,rfl,_⟩:=h
  rfl
 ·obtain⟨g,lh,B,rest,a,b,rfl,hB,q,qm,qf,qb⟩:=h;obtain⟨dx,ls,hg,he⟩:=id hB.ob
  refine⟨_,(@sC _ _ _ _ _ (bM (CM.pe hr (pv 0) (@aC _ _ _ _ _ (pv 1) (@aC _ _ _ _ _ (pv 2) ae (by rfl)) (by rfl))))
   (@sC _ _ _ _ _ (bM (Dz.pz hr (pv 0)))
   (@sC _ _ _ _ _ (bo (iY (SM.pe hr (pv 0) (@aC _ _ _ _ _ (pv 1) (@aC _ _ _ _ _ (pv 2) ae (by rfl)) (by rfl)))) (@sO _ _ _ (mD rfl rfl sy Af (aq eA ae))) bx)
   (@sO _ _ _ (@sR _ _ _ _ (DA.pe hr (pv 0) (@aC _ _ _ _ _ (cO (@aC _ _ _ _ _ (gR (v:=.str "apart") rfl Dw ⟨_,rfl⟩) (@aC _ _ _ _ _ (pv 1) (@aC _ _ _ _ _ (pv 2) ae (by rfl)) (by rfl)) (by rfl))) ae (by rfl)))))))),?_⟩
  refine⟨_,rfl,g,dx,_,rfl,hg,rfl,_,rfl,_,rfl,g,lh,B,rest,a,b,rfl,hB,λhm H1 s1=>?_,qm⟩;have eS:=s1 _ _ hg;have lZ:=hB.same s1;refine⟨_,rfl,g,dx,_,rfl,eS,rfl,g,lh,B,rest,rfl,lZ,λjJ=>?_,λjJ=>qf hm jJ H1 s1⟩;refine⟨_,rfl,g,dx,_,rfl,eS,rfl,_,rfl,_,rfl,g,lh,B,rest,a,b,rfl,lZ,λ_ H2 s2=>⟨_,rfl,?_⟩,λz=>absurd hm z⟩;have bu:=s1.trans s2;by_cases z:B.ax.getD a.toNat 0=B.ax.getD b.toNat 0
  ·exact ki (ZN z) ⟨by decide,qb hm jJ z _ bu⟩
  ·refine c6 (ZO z) ?_;refine⟨_,rfl,g,dx,_,rfl,bu _ _ hg,rfl,_,rfl,_,rfl,by show 3<=sizeLine;decide,λtq DD=>?_⟩;have s8:aa H2 (upd H2 tq (.tup [.str "apart",.int a,.int b])):=(aa.refl H2).upd DD;have pO:=bu.trans s8;refine⟨g,lh,B,rest,tq,.ap 0 a b,rfl,hB.same pO,aj,⟨hm.1,hm.2⟩,jJ,λH9 bD DF nw kp=>?_⟩;refine q hm jJ z H9 bD DF (λx hx=>?_) λc o e nc=>kp c o (pO _ _ e) nc;rcases nw x hx with z|z
   ·exact .inl z
   ·exact .inr (pO.free z)
def Ry:aN ["self"] ["self"] (aF yx):=aQ
def Xz{f C:Addr}{fd:FuncData}(F:aJ K "marks" "Survey.marks" yx f fd)(aK:fG K mg C):aB P w K mg base aM 1 f fd ["self"] (YV C):=by
 refine F.ok Ry (λvs H Q E h=>?_) (λaw A outer s H vs Q E hr h=>?_)
 ·obtain⟨g,lh,B,rest,rfl,_⟩:=h
  rfl
 ·obtain⟨g,lh,B,rest,rfl,hB,q⟩:=h;obtain⟨dx,ls,hg,he⟩:=id hB.ob;exact⟨_,(@sO _ _ _ (@sR _ _ _ _ (aW (pv 0) rfl))),_,rfl,g,C,dx,_,_,rfl,hg,aK.cl,aK.nn,ku ..,q⟩
def Rh:aN ["self"] ["self"] (aF yq):=aQ
def T7{f C:Addr}{fd:FuncData}(F:aJ K "entries" "Survey.entries" yq f fd)(T:Txt K mg)(aK:fG K mg C):aB P w K mg base aM 1 f fd ["self"] (U1 C):=by
 refine F.ok Rh (λvs H Q E h=>?_) (λaw A outer s H vs Q E hr h=>?_)
 ·obtain⟨g,lh,B,rest,rfl,_⟩:=h
  rfl
 ·obtain⟨g,lh,B,rest,rfl,hB,q⟩:=h;obtain⟨dx,ls,hg,he⟩:=id hB.ob;obtain⟨ps,h1,h2,h3,h4,h5⟩:=he.ob;refine⟨_,(@sO _ _ _ (@sR _ _ _ _ (kN uT rfl T.list j9 (@aC _ _ _ _ _ (aW (pv 0) rfl) ae (by rfl))))),?_⟩;refine⟨_,rfl,g,C,dx,_,_,rfl,hg,aK.cl,aK.ns,lC ..,W3 h1 λl H1 hl il s1=>?_⟩;exact q l H1 hl ⟨ps,il,λp hp=>s1 _ _ (h2 p hp),h3,Y8 ..,λp hp=>Y3 _ (h5 p hp)⟩ s1
def Rc:aN ["self","kinds"] ["self","kinds"] (aF yk):=aQ
def XA{f C:Addr}{fd:FuncData}(F:aJ K "__init__" "Survey.__init__" yk f fd)(aK:fG K mg C):aB P w K mg base aM 1 f fd ["self","kinds"] (Ay C):=by
 obtain⟨_,DG⟩:=aK.mk5;refine F.ok Rc (λvs H Q E h=>?_) (λaw A outer s H vs Q E hr h=>?_)
 ·obtain⟨g,dx,k,rfl,_⟩:=h
  rfl
 ·obtain⟨g,dx,k,rfl,hg,k1,k5,q⟩:=h
  refine⟨_,(@sC _ _ _ _ _ (bo (PW.pt (gW (aV jH (pv 1) ak (aO _)) (ij (aV jb (pv 1) (gR (v:=.int 5) rfl DG ⟨_,rfl⟩) (aO _))))) (@sO _ _ _ mC) bx)
   (@sC _ _ _ _ _ (gw (pv 0) (pv 1) rfl)
   (@sC _ _ _ _ _ (gw (pv 0) ak rfl)
   (@sC _ _ _ _ _ (gw (pv 0) (fO ae) rfl)
   (@sC _ _ _ _ _ (gw (pv 0) ak rfl)
   (@sO _ _ _ (gw (pv 0) (fO ae) rfl))))))),?_⟩
  refine⟨_,rfl,_,_,rfl,rfl,_,rfl,c6 (ZO (by omega)) ⟨_,rfl,_,_,rfl,rfl,_,rfl,c6 (ZO (by omega)) ?_⟩⟩;refine⟨_,rfl,_,rfl,g,C,dx,_,rfl,hg,aK.cl,aK.nk,(by show 0<1000;decide),?_⟩;refine⟨_,rfl,g,C,dx,_,rfl,aj,aK.cl,aK.nn,(by show 1<1000;decide),?_⟩;rw[oj];refine jE (by show 0<=1000;decide) λls H1 rJ PK s1=>?_;have gl:ls≠g:=λz=>by rw[z,aj]at rJ;cases rJ
  have eS:=s1 g _ aj;refine⟨_,rfl,g,C,dx,_,rfl,eS,aK.cl,aK.ns,(by show 2<1000;decide),?_⟩;refine⟨_,rfl,g,C,dx,_,rfl,aj,aK.cl,aK.nc,(by show 3<1000;decide),?_⟩;rw[oj];refine jE (by show 0<=1000;decide) λlh H2 nH ilh s2=>?_;have gh:lh≠g:=λz=>by rw[z,aj]at nH;cases nH
  have kJ:=s2 g _ aj;refine⟨_,rfl,g,C,dx,_,rfl,kJ,aK.cl,aK.nh,(by show 4<1000;decide),?_⟩;have Dl:H2 ls=some (.lst []):=s2 ls _ (by rw[ah gl];exact PK)
  have Dr:ls≠lh:=λz=>by
   rw[<-z,ah gl,PK]at nH;cases nH
  have aeh:H ls=none:=by rwa [ah gl]at rJ
  have aei:H lh=none:=by
   rw[ah gh]at nH;have:=s1.free nH
   rwa [ah gh]at this
  refine q _ lh [ls] ⟨k1,k5,Zo _,Zo _,(λ_ z=>nomatch z),⟨dx,ls,aj,⟨[],by rw[ah gl];exact Dl,(λ_ z=>nomatch z),rfl,Y1.mpr rfl,(λ_ z=>nomatch z)⟩⟩,⟨[],by rw[ah gh];exact ilh,(λ_ z=>nomatch z),rfl⟩,(λ_ z=>nomatch z),λz=>Dr (Y1.mp z).symm,λz=>gl (Y1.mp z).symm,λa ha=>⟨.lst [],by rw[Y1.mp ha,ah gl];exact Dl⟩⟩ aei (λa ha=>by rw[Y1.mp ha];exact aeh) λc o e nc=>?_;rw[ah nc];refine s2 _ _ ?_;rw[ah nc];refine s1 _ _ ?_;rw[ah nc];exact e
def rW:aN ["_law_book_here","_law_entry_here","_law_number"] ["_law_book_here","_law_entry_here"] (aF yC):=aQ
def T8{f C cM cK cF cB:Addr}{fd:FuncData}(F:aJ K "_law_entered" "_law_entered" yC f fd)(sy:mg "Barred"=some (.ref cB))(hex:PySem.W.exmOne K (.ref cB) (.ref cB)=some true)
  (SRW:b4 P w K mg base C "row" ["self","a","kind","b"] 7 (Lh C cM cK cF cB))(SAP:b4 P w K mg base C "apart" ["self","a","b"] 10 (NA C cM cF cB)):aB P w K mg base aM 11 f fd ["_law_book_here","_law_entry_here"] (u0 C):=by
 refine F.ok rW (λvs H Q E h=>?_) (λaw A outer s H vs Q E hr h=>?_)
 ·obtain⟨g,lh,B,rest,t,e,rfl,_⟩:=h
  rfl
 ·obtain⟨g,lh,B,rest,t,e,rfl,hB,ht,jY,fJ,qn,q⟩:=h;obtain⟨dx,ls,hg,he⟩:=id hB.ob
  refine⟨_,(@sC _ _ _ _ _ (@sS _ 2 _ _ _ _ _ rW.nd rfl (Or.inl rfl) eu (by rfl) (.inl rfl))
   (@sC _ _ _ _ _ (YS (abI (aV dQ (aD cD (pv 1) ak (λ_ _=>rfl)) eA (aO _)) (K5 (i:=2) rW.nd rfl (Or.inl rfl) (SRW.px hr (pv 0) (@aC _ _ _ _ _ (aD cD (pv 1) ak (λ_ _=>rfl)) (@aC _ _ _ _ _ (aD cD (pv 1) ak (λ_ _=>rfl)) (@aC _ _ _ _ _ (aD cD (pv 1) ak (λ_ _=>rfl)) ae (by rfl)) (by rfl)) (by rfl)))) (K5 (i:=2) rW.nd rfl (Or.inl rfl) (SAP.px hr (pv 0) (@aC _ _ _ _ _ (aD cD (pv 1) ak (λ_ _=>rfl)) (@aC _ _ _ _ _ (aD cD (pv 1) ak (λ_ _=>rfl)) ae (by rfl)) (by rfl))))) rfl sy (λea=>(@sO _ _ _ (@sS _ 2 _ _ _ _ _ rW.nd rfl (Or.inl rfl) eu (by rfl) (.inl rfl)))))
   (@sO _ _ _ (@sR _ _ _ _ (pv 2))))),?_⟩
  refine UZ ?_;refine vZ.abK λEE hEE=>?_;have EX:∀G,aa H G->Q .aI G->EE (.ref cB) none G:=λG sG z=>hEE _ _ hex ⟨_,rfl,z⟩;cases e with
  |row i a kd b=>
   obtain⟨ha,hk,hb⟩:=jY;refine⟨_,rfl,cI ht rfl ⟨rfl,_,rfl,ki (by decide+kernel) ?_⟩⟩;refine⟨_,rfl,g,dx,_,rfl,hg,rfl,_,rfl,cI ht rfl ⟨_,rfl,cI ht rfl ⟨_,rfl,cI ht rfl ?_⟩⟩⟩;refine⟨g,lh,B,rest,a,kd,b,rfl,hB,λ_ _ _ nb H' bD pJ nw kp=>⟨_,rfl,q nb H' bD pJ nw kp⟩,λz=>absurd ⟨ha,hb⟩ z,λ_ z=>absurd hk z,λ_ _ z=>absurd fJ z,λ_ _ _ br H' s'=>EX _ s' (qn br H' s')⟩
  |ap i a b=>
   obtain⟨ha,hb⟩:=jY;refine⟨_,rfl,cI ht rfl ⟨rfl,_,rfl,c6 (by decide+kernel) ?_⟩⟩;refine⟨_,rfl,g,dx,_,rfl,hg,rfl,_,rfl,cI ht rfl ⟨_,rfl,cI ht rfl ?_⟩⟩;refine⟨g,lh,B,rest,a,b,rfl,hB,λ_ _ nb H' bD pJ nw kp=>⟨_,rfl,q nb H' bD pJ nw kp⟩,λz=>absurd ⟨ha,hb⟩ z,λ_ z=>absurd fJ z,λ_ _ br H' s'=>EX _ s' (qn br H' s')⟩
def RS:aN ["_law_kinds","_law_marks","_law_draws"] ["_law_kinds","_law_marks","_law_draws"] (aF yW):=aQ
def XB{f:Addr}{fd:FuncData}(F:aJ K "_law_entry" "_law_entry" yW f fd):aB P w K mg base aM 1 f fd ["_law_kinds","_law_marks","_law_draws"] Lk:=by
 refine F.ok RS (λvs H Q E h=>?_) (λaw A outer s H vs Q E hr h=>?_)
 ·obtain⟨k,n,ld,ds,rfl,_⟩:=h
  rfl
 ·obtain⟨k,n,ld,ds,rfl,hd,l3,k1,k5,n1,n7,q⟩:=h
  refine⟨_,(@sC _ _ _ _ _ (bo (aV dQ (aH cc (aD aP (pv 2) ak (λ_ _=>rfl)) ak) ak (aO _)) (@sO _ _ _ (@sR _ _ _ _ (cO (@aC _ _ _ _ _ eA (@aC _ _ _ _ _ (aH cc (aD aP (pv 2) ak (λ_ _=>rfl)) (pv 1)) (@aC _ _ _ _ _ (aH cc (aD aP (pv 2) ak (λ_ _=>rfl)) (pv 1)) ae (by rfl)) (by rfl)) (by rfl))))) bx)
   (@sO _ _ _ (@sR _ _ _ _ (cO (@aC _ _ _ _ _ eA (@aC _ _ _ _ _ (aH cc (aD aP (pv 2) ak (λ_ _=>rfl)) (pv 1)) (@aC _ _ _ _ _ (aH cY ak (aH cc (aH Ag (aD aP (pv 2) ak (λ_ _=>rfl)) ak) (pv 0))) (@aC _ _ _ _ _ (aH cc (aD aP (pv 2) ak (λ_ _=>rfl)) (pv 1)) ae (by rfl)) (by rfl)) (by rfl)) (by rfl)))))),?_⟩
  have np:(0:Int)<n:=by omega
  have kp:(0:Int)<k:=by omega
  have pP:∀d:Int,aE n (d%n):=λd=>⟨Zz _ (by omega),Zy _ np⟩;refine⟨_,rfl,aY 0 hd (by omega) ⟨_,_,rfl,rfl,(by show(0:Int)<5;decide),rfl,_,rfl,cg (λ_=>?_) λ_=>?_⟩⟩
  ·refine⟨_,rfl,aY 1 hd (by omega) ⟨_,rfl,_,_,rfl,rfl,np,_,rfl,aY 2 hd (by omega) ⟨_,rfl,_,_,rfl,rfl,np,by show 3<=sizeLine;decide,λt ht=>?_⟩⟩⟩;exact q t (.ap 0 (ds.getD 1 0%n) (ds.getD 2 0%n)) _ ht aj ⟨pP _,pP _⟩ ((aa.refl H).upd ht)
  ·refine⟨_,rfl,aY 1 hd (by omega) ⟨_,rfl,_,_,rfl,rfl,np,_,rfl,aY 0 hd (by omega) ⟨_,_,rfl,rfl,⟨by show(0:Int)<5;decide,by show(5:Int)<1073741824;decide⟩,_,rfl,_,_,rfl,rfl,kp,_,_,rfl,rfl,_,rfl,aY 2 hd (by omega) ⟨_,rfl,_,_,rfl,rfl,np,by show 4<=sizeLine;decide,λt ht=>?_⟩⟩⟩⟩;have m0:=Zz (ds.getD 0 0/5) (show(k:Int)≠0 by omega);have m1:=Zy (ds.getD 0 0/5) kp;exact q t (.row 0 (ds.getD 1 0%n) (1+ds.getD 0 0/5%k) (ds.getD 2 0%n)) _ ht aj ⟨pP _,⟨by omega,by omega⟩,pP _⟩ ((aa.refl H).upd ht)
def p9:aN ["_law_book_here","_law_kinds","_law_marks","_law_many","_law_draws","_law_k","_law_standing","_law_entry_here","_law_number"] ["_law_book_here","_law_kinds","_law_marks","_law_many","_law_draws"] (aF zd):=aQ
def aaz{f C cF:Addr}{fd:FuncData}(F:aJ K "_law_book" "_law_book" zd f fd)(T:Txt K mg)(DI:b4 P w K mg base C "chalk" ["self"] 1 (zS C cF))(LE:ba P w K mg base "_law_entry" ["_law_kinds","_law_marks","_law_draws"] 1 Lk)(uy:ba P w K mg base "_law_entered" ["_law_book_here","_law_entry_here"] 11 (u0 C)):
  aB P w K mg base aM 12 f fd ["_law_book_here","_law_kinds","_law_marks","_law_many","_law_draws"] (A9 C):=by
 refine F.ok p9 (λvs H Q E h=>?_) (λaw A outer s H vs Q E hr h=>?_)
 ·obtain⟨g,lh,rest,k,m,many,ld,ds,rfl,_⟩:=h
  rfl
 ·obtain⟨g,lh,rest,k,m,many,ld,ds,rfl,xI,O4,aeS,hd,hl,q⟩:=h;have k1:1<=k:=xI.k1;have k5:k<=5:=xI.k5
  refine⟨_,(@sC _ _ _ _ _ (cb Zl rfl (iX rfl T.range (@aC _ _ _ _ _ (pv 2) ae (by rfl))) (a7 (i:=5) p9.nd rfl (Or.inl rfl)) (@sO _ _ _ (bM (DI.O3 hr (pv 0)))))
   (@sC _ _ _ _ _ (@sS _ 6 _ _ _ _ _ p9.nd rfl (Or.inl rfl) (fO ae) (by rfl) (.inl rfl))
   (@sC _ _ _ _ _ (cb Zl rfl (iX rfl T.range (@aC _ _ _ _ _ (pv 3) ae (by rfl))) (a7 (i:=5) p9.nd rfl (Or.inl rfl)) (@sO _ _ _ (bo (aV jb (pv 2) ak (aO _)) (@sC _ _ _ _ _ (@sS _ 7 _ _ _ _ _ p9.nd rfl (Or.inl rfl) (LE.pe hr (@aC _ _ _ _ _ (pv 1) (@aC _ _ _ _ _ (pv 2) (@aC _ _ _ _ _ (kP tK (pv 4) (jz (aH qD ak (pv 5))) (jz (aH cY (aH qD ak (pv 5)) ak))) ae (by rfl)) (by rfl)) (by rfl))) (by rfl) (.inl rfl))
   (@sC _ _ _ _ _ (@sS _ 8 _ _ _ _ _ p9.nd rfl (Or.inl rfl) (uy.pe hr (@aC _ _ _ _ _ (pv 0) (@aC _ _ _ _ _ (pv 7) ae (by rfl)) (by rfl))) (by rfl) (.inl rfl))
   (@sO _ _ _ (bo (aV kQ (pv 8) eu (aO _)) (@sO _ _ _ (bM (fz PySem.F.plainAttrs_list PySem.F.slot_list_append PySem.F.type_list_append fu (pv 6) (@aC _ _ _ _ _ (aH Kw (cO (aq (pv 8) ae)) (pv 7)) ae (by rfl))))) bx)))) bx)))
   (@sO _ _ _ (@sR _ _ _ _ (pv 6)))))),?_⟩
  have ldg:ld≠g:=λz=>by
   obtain⟨dx,ls,hg,_⟩:=xI.ob;have lH:H g=some (.lst _):=z▸hd;rw[hg]at lH;cases lH
  refine⟨_,rfl,_,rfl,by omega,by omega,qd (lo:=0) (n:=(m:Int).toNat) (λi σ H2=>(∃x,σ=[some (.ref g),some (.int k),some (.int m),some (.int many),some (.ref ld),x,none,none,none])/\aZ C H2 g lh ⟨k,i,[],1,[]⟩ rest/\Kp g H H2) ⟨⟨none,rfl⟩,xI,Kp.of (aa.refl H)⟩ ?_ ?_⟩
  ·rintro i σ H2 hi ⟨⟨x,rfl⟩,hB,kp⟩;obtain⟨dx,ls,hg,he⟩:=id hB.ob;exact⟨_,rfl,g,dx,_,rfl,hg,rfl,g,lh,_,rest,rfl,hB,λ_ H3 fM l7=>⟨⟨_,rfl⟩,fM,kp.trans l7⟩,λz=>absurd (show i<24 by omega) z⟩
  rintro σ H2 ⟨⟨x,rfl⟩,hB,kp⟩;rw[Y9]at hB;refine jE (by show 0<=1000;decide) λl H3 DJ il s3=>?_;have l7:Kp g H H3:=kp.trans (Kp.of s3);have fM:=hB.same s3;have DL:=hB.not DJ;have PL:l≠g:=λz=>DL (z▸Y8 ..)
  have xJ:H l=none:=by
   cases e:H l with
   |none=>rfl
   |some o=>have:=kp l o e PL;rw[DJ]at this;cases this
  have lhl:lh≠l:=λz=>DL (z▸Y3 _ (Y8 ..))
  refine⟨_,rfl,_,rfl,by omega,by omega,qd (lo:=0) (n:=(many:Int).toNat) (λi σ H4=>∃(x y z:Option V) (dB:List Addr) (B:Bk) (bD:List Addr),σ=[some (.ref g),some (.int k),some (.int m),some (.int many),some (.ref ld),x,some (.ref l),y,z]/\aZ C H4 g lh B bD/\B.k=k/\B.n=m/\B.hs=[]/\B.es.length<=i/\Cons B/\Nums B/\El H4 (l::dB) l B.es/\l∉g::lh::bD/\g∉l::dB/\lh∉l::dB/\l∉dB/\Nw H rest bD/\(∀x∈l::dB,H x=none)/\Kp g H H4)
   ⟨_,none,none,[],_,rest,rfl,fM,rfl,rfl,rfl,Y2 _,rfl,⟨rfl,λi e z=>by simp at z⟩,⟨[],il,(λ_ z=>nomatch z),rfl,Y8 ..,(λ_ z=>nomatch z)⟩,DL,(λz=>PL (Y1.mp z).symm),(λz=>lhl (Y1.mp z)),(λz=>nomatch z),(λx hx=>.inl hx),(λx hx=>by rw[Y1.mp hx];exact xJ),l7⟩ ?_ ?_⟩
  ·rintro i σ H4 hi ⟨x,y,z,dB,B,bD,rfl,pM,bk,bn,bh,be,bc,rK,pN,n1,n2,rL,n3,nw,fr,uz⟩;have hi:i<many:=by omega
   have hd4:ay H4 ld ds:=uz _ _ hd ldg;refine⟨_,rfl,_,_,rfl,rfl,_,rfl,cg (λhm=>?_) λhm=>⟨_,_,_,dB,B,bD,rfl,pM,bk,bn,bh,by omega,bc,rK,pN,n1,n2,rL,n3,nw,fr,uz⟩⟩;have hm:1<=m:=by have:=of_decide_eq_true hm;omega
   have e1:(3*(0+(i:Int)))=((3*i:Nat):Int):=by omega
   have e2:(3*(0+(i:Int))+3)=((3*i+3:Nat):Int):=by omega
   refine⟨_,rfl,_,rfl,_,rfl,_,rfl,_,_,rfl,rfl,.inl ⟨by omega,by omega⟩,_,rfl,_,rfl,_,_,rfl,rfl,.inl ⟨by omega,by omega⟩,_,_,rfl,rfl,_,rfl,sj hd4 λlq H5 hlq iq s5=>?_⟩;have iq:ay H5 lq (dR ds (some ((3*i:Nat):Int)) (some ((3*i+3:Nat):Int))):=by rw[<-e1, <-e2];exact iq
   rw[Yt _ _ _ (by omega)]at iq;have l3:((ds.drop (3*i)).take (3*i+3-3*i)).length=3:=by rw[Zx,ZJ];omega
   refine⟨k,m,lq,_,rfl,iq,l3,k1,k5,hm,by omega,λt e H6 ht it jY s6=>?_⟩;have DM:=s5.trans s6;have xK:Kp g H H6:=uz.trans (Kp.of DM);have DN:=pM.same DM;have rM:=pN.same DM;have tl6:t∉g::lh::bD:=(pM.same s5).not ht;have uA:H4 t=none:=s5.free ht
   have tne:t≠l:=λz=>by
    obtain⟨ps,h1,_⟩:=pN.ob;rw[<-z,uA]at h1;cases h1
   have tng:t≠g:=λz=>tl6 (z▸Y8 ..);refine⟨_,rfl,_,rfl,g,lh,B,bD,t,e,rfl,DN,it,by rw[bk,bn];exact jY,by omega,λbr H7 s7=>?_,λnb H7 NK xM PM DO=>?_⟩
   ·refine⟨_,rfl,rfl,_,rfl,cf ⟨_,_,_,dB,B,bD,rfl,DN.same s7,bk,bn,bh,by omega,bc,rK,rM.same s7,n1,n2,rL,n3,nw,fr,xK.trans (Kp.of s7)⟩⟩
   ·refine⟨_,rfl,rfl,_,rfl,fD ?_⟩;have keep:∀a,a≠g->∀o,H6 a=some o->H7 a=some o:=λa na o e=>DO a o e na;have el7:El H7 (l::dB) l B.es:=rM.on λa ha=>keep a λz=>n2 (z▸ha);have it7:H7 t=some (.tup e.told):=keep t tng _ it;obtain⟨ps,h1,h2,h3,h4,h5⟩:=id el7.ob
    have tl:1+e.told.length<=sizeLine/\e.told≠[]:=by
     cases e with
     |row=>exact⟨by show 1+4<=sizeLine;decide,(λz=>nomatch z)⟩
     |ap=>exact⟨by show 1+3<=sizeLine;decide,(λz=>nomatch z)⟩
    refine⟨_,rfl,.inl ⟨rfl,_,af.of h1⟩,_,rfl,by show 1<=sizeLine;decide,λp1 hJ=>?_⟩;have s8:aa H7 (upd H7 p1 (.tup [.int B.c])):=(aa.refl H7).upd hJ;have i8:upd H7 p1 (.tup [.int B.c]) p1=some (.tup [.int B.c]):=aj;generalize upd H7 p1 (.tup [.int B.c])=H8 at s8 i8;refine⟨_,rfl,p1,t,_,_,rfl,rfl,bt.of i8,bt.of (s8 _ _ it7),(λz=>nomatch z),tl.1,λz=>absurd z tl.2,λ_ p2 iP=>?_⟩;have ev:[V.int B.c]++e.told=(e.re B.c).vs:=by cases e<;>rfl
    rw[ev];have s9:aa H8 (upd H8 p2 (.tup (e.re B.c).vs)):=(aa.refl H8).upd iP;have i9:upd H8 p2 (.tup (e.re B.c).vs) p2=some (.tup (e.re B.c).vs):=aj;generalize upd H8 p2 (.tup (e.re B.c).vs)=H9 at s9 i9;have xN:=s8.trans s9;have qS:H7 p2=none:=s8.free iP;have PN:p2≠l:=λz=>by rw[z,h1]at qS;cases qS
    have p2H:H p2=none:=by
     cases e':H p2 with
     |none=>rfl
     |some o=>
      have p2g:p2≠g:=λz=>xM.lg.2 (z▸qS);have:=(xK.trans DO) p2 o e' p2g;rw[qS]at this;cases this
    have PQ:=xN _ _ h1;refine⟨l,_,_,rfl,rfl,PQ,bI (by rw[Y0, <-Y0 (f:=(·.2)),h3];omega),?_⟩
    have PR:l∉g::lh::NK:=λz=>by
     rcases Y4.mp z with z|z
     ·exact n1 (z▸Y8 ..)
     rcases Y4.mp z with z|z
     ·exact n1 (z▸Y3 _ (Y8 ..))
     ·rcases PM l z with z|z
      ·exact n1 (Y3 _ (Y3 _ z))
      ·obtain⟨ps6,h6,_⟩:=rM.ob;rw[h6]at z;cases z
    refine⟨_,_,_,p2::dB,B.add e,NK,rfl,(xM.same xN).other PR,bk,bn,bh,?_,bc.add nb,rK.add e,?_,PR,?_,?_,?_,?_,?_,?_⟩
    ·show(B.es++[e.re B.c]).length<=i+1;simp;omega
    ·refine⟨ps++[(p2,e.re B.c)],by rw[aj,Zd];rfl,λp hp=>?_,by rw[Zd,h3];rfl,Y8 ..,λp hp=>?_⟩
     ·rcases Y6.mp hp with z|z
      ·have DP:=xN _ _ (h2 p z);have:p.1≠l:=λy=>by rw[y,PQ]at DP;cases DP
       rw[ah this];exact DP
      ·rw[Y1.mp z,ah PN];exact i9
     ·rcases Y6.mp hp with z|z
      ·rcases Y4.mp (h5 p z)with y|y
       ·rw[y];exact Y8 ..
       ·exact Y3 _ (Y3 _ y)
      ·rw[Y1.mp z];exact Y3 _ (Y8 ..)
    ·intro z;rcases Y4.mp z with z|z
     ·exact n2 (z▸Y8 ..)
     rcases Y4.mp z with z|z
     ·exact xM.lg.2 (z▸qS)
     ·exact n2 (Y3 _ z)
    ·intro z;rcases Y4.mp z with z|z
     ·exact rL (z▸Y8 ..)
     rcases Y4.mp z with z|z
     ·exact xM.lg.1 (z▸qS)
     ·exact rL (Y3 _ z)
    ·intro z;rcases Y4.mp z with z|z
     ·exact PN z.symm
     ·exact n3 z
    ·intro x hx;rcases PM x hx with z|z
     ·exact nw x z
     ·refine .inr ?_;cases e':H x with
      |none=>rfl
      |some o=>
       by_cases xg:x=g
       ·exact absurd (xg▸z) (DN.lg.2)
       ·have:=xK x o e' xg;rw[z]at this;cases this
    ·intro x hx;rcases Y4.mp hx with z|z
     ·rw[z];exact xJ
     rcases Y4.mp z with z|z
     ·rw[z];exact p2H
     ·exact fr x (Y3 _ z)
    ·intro c o e' nc;have cl:c≠l:=λz=>by rw[z,xJ]at e';cases e'
     rw[ah cl];exact xN _ _ ((xK.trans DO) c o e' nc)
  ·rintro σ H4 ⟨x,y,z,dB,B,bD,rfl,pM,bk,bn,bh,be,bc,rK,pN,n1,n2,rL,n3,nw,fr,uz⟩;rw[Y9]at be;exact⟨_,rfl,q l _ B bD H4 pM bk bn bh be bc rK pN xJ n1 n2 rL nw fr uz⟩
def uP:aN ["_law_many","_law_draws","_law_left","_law_row","_law_k"] ["_law_many","_law_draws"] (aF yX):=aQ
def XC{f:Addr}{fd:FuncData}(F:aJ K "_law_mixed" "_law_mixed" yX f fd)(T:Txt K mg):aB P w K mg base aM 1 f fd ["_law_many","_law_draws"] LG:=by
 refine F.ok uP (λvs H Q E h=>?_) (λaw A outer s H vs Q E hr h=>?_)
 ·obtain⟨n,ld,ds,rfl,_⟩:=h
  rfl
 ·obtain⟨n,ld,ds,rfl,hd,n7,hl,q⟩:=h
  refine⟨_,(@sC _ _ _ _ _ (@sS _ 2 _ _ _ _ _ uP.nd rfl (Or.inl rfl) (kN (Gb rfl) rfl T.list j9 (aq (Mv rfl T.range (@aC _ _ _ _ _ (pv 0) ae (by rfl))) ae)) (by rfl) (.inl rfl))
   (@sC _ _ _ _ _ (@sS _ 3 _ _ _ _ _ uP.nd rfl (Or.inl rfl) (fO ae) (by rfl) (.inl rfl))
   (@sC _ _ _ _ _ (cb Zl rfl (iX rfl T.range (@aC _ _ _ _ _ (pv 0) ae (by rfl))) (a7 (i:=4) uP.nd rfl (Or.inl rfl)) (@sO _ _ _ (bM (fz PySem.F.plainAttrs_list PySem.F.slot_list_append PySem.F.type_list_append fu (pv 3) (@aC _ _ _ _ _ (fz PySem.F.plainAttrs_list PySem.F.slot_list_pop PySem.F.type_list_pop Jc (pv 2) (@aC _ _ _ _ _ (aH cc (aD aP (pv 1) (pv 4) (λ_ _=>rfl)) (cq fm (by rfl) T.len PySem.boot_len (@aC _ _ _ _ _ (pv 2) ae (by rfl)))) ae (by rfl))) ae (by rfl))))))
   (@sO _ _ _ (@sR _ _ _ _ (pv 3)))))),?_⟩
  refine⟨_,rfl,_,rfl,λr dc=>Jk (K:=K) aj (by omega) λlf H3 hlf il s3=>?_⟩;have PV:aa H H3:=((aa.refl H).upd dc).trans s3
  have aej:H lf=none:=by
   have:=hlf;by_cases z:lf=r
   ·rw[z];exact dc
   ·rwa [ah z]at this
  refine sF (by simp) λen H4 DQ ie s4=>?_;have Ow:H en=none:=PV.free DQ;have PY:lf≠en:=λz=>by rw[z]at il;rw[show H3 en=_ from il]at DQ;cases DQ
  refine⟨_,rfl,_,rfl,by omega,by omega,qd (lo:=0) (n:=(n:Int).toNat) (λc σ H5=>∃(left ends:List Int) (y7:Option V),σ=[some (.int n),some (.ref ld),some (.ref lf),some (.ref en),y7]/\aa H H5/\ay H5 lf left/\ay H5 en ends/\ends.length=c/\lE n c left ends)
   ⟨cR n,[],_,rfl,PV.trans s4,s4.ints il,ie,rfl,lE.zero n⟩ ?_ ?_⟩
  ·rintro c σ H5 hc ⟨left,ends,y7,rfl,s5,i5,e5,lc,md⟩;have hc:c<n:=by omega
   have h5:=s5.ints hd;have ll:=md.len;have e1:((left.map V.int).length:Int)=((n-c:Nat):Int):=by rw[Y0,ll]
   refine⟨_,rfl,.inl ⟨rfl,_,af.of e5⟩,_,rfl,.inl ⟨rfl,_,af.of i5⟩,_,rfl,_,rfl,aY c h5 (by omega) ?_ (by omega)⟩;generalize ds.getD c 0=d;have m0:=Zz d (show((n-c:Nat):Int)≠0 by omega);have m1:=Zy d (show(0:Int)<((n-c:Nat):Int)by omega);obtain⟨m,em⟩:∃m:Nat,d%((n-c:Nat):Int)=(m:Int):=⟨(d%((n-c:Nat):Int)).toNat,by omega⟩;have hm:m<left.length:=by omega
   have ix:fg (left.map V.int).length (m:Int)=some m:=by
    unfold fg;rw[if_pos (by omega),if_pos (by rw[Y0];omega)];rfl
   refine⟨_,rfl,lf,_,rfl,.inl (af.of i5),_,_,rfl,rfl,by rw[e1];omega,lf,_,_,m,.int left[m],rfl,rfl,i5,?_,?_,?_,?_,?_⟩
   ·rw[e1,em];omega
   ·rw[e1,em];have:=(qv ix).2.2.2;rw[Y0]at this;omega
   ·rw[e1,em];exact(qv ix).1
   ·simp[hm]
   have kL:ay (upd H5 lf (.lst ((left.map V.int).eraseIdx m))) lf (left.eraseIdx m):=by
    show upd _ _ _ _=_;rw[aj,yQ]
   have PZ:ay (upd H5 lf (.lst ((left.map V.int).eraseIdx m))) en ends:=e5.other PY.symm;have s6:aa H (upd H5 lf (.lst ((left.map V.int).eraseIdx m))):=s5.upd aej;generalize upd H5 lf (.lst ((left.map V.int).eraseIdx m))=H6 at kL PZ s6;refine⟨en,_,_,rfl,rfl,PZ,bI (by rw[Y0];omega),?_⟩;refine⟨_,_,_,rfl,s6.upd Ow,kL.other PY,ay.snoc,by simp[lc],md.step hm⟩
  ·rintro σ H5 ⟨left,ends,y7,rfl,s5,i5,e5,lc,md⟩;rw[Y9]at md;exact⟨_,rfl,q en ends H5 Ow e5 md.done s5⟩
def Rz:aN ["_law_entry_here","_law_names"] ["_law_entry_here","_law_names"] (aF yD):=aQ
def T9{f:Addr}{fd:FuncData}(F:aJ K "_law_renamed" "_law_renamed" yD f fd):aB P w K mg base aM 1 f fd ["_law_entry_here","_law_names"] IE:=by
 refine F.ok Rz (λvs H Q E h=>?_) (λaw A outer s H vs Q E hr h=>?_)
 ·obtain⟨k,n,t,ln,e,ns,rfl,_⟩:=h
  rfl
 ·obtain⟨k,n,t,ln,e,ns,rfl,ht,hn,jY,pm,q⟩:=h
  refine⟨_,(@sC _ _ _ _ _ (bo (aV dQ (aD cD (pv 0) ak (λ_ _=>rfl)) eA (aO _)) (@sO _ _ _ (@sR _ _ _ _ (cO (@aC _ _ _ _ _ eA (@aC _ _ _ _ _ (aD aP (pv 1) (aD cD (pv 0) ak (λ_ _=>rfl)) (λ_ _=>rfl)) (@aC _ _ _ _ _ (aD cD (pv 0) ak (λ_ _=>rfl)) (@aC _ _ _ _ _ (aD aP (pv 1) (aD cD (pv 0) ak (λ_ _=>rfl)) (λ_ _=>rfl)) ae (by rfl)) (by rfl)) (by rfl)) (by rfl))))) bx)
   (@sO _ _ _ (@sR _ _ _ _ (cO (@aC _ _ _ _ _ eA (@aC _ _ _ _ _ (aD aP (pv 1) (aD cD (pv 0) ak (λ_ _=>rfl)) (λ_ _=>rfl)) (@aC _ _ _ _ _ (aD aP (pv 1) (aD cD (pv 0) ak (λ_ _=>rfl)) (λ_ _=>rfl)) ae (by rfl)) (by rfl)) (by rfl)))))),?_⟩
  have nl:ns.length=n:=by rw[pm.length_eq,qp]
  cases e with
  |row i a kd b=>
   obtain⟨ha,hk,hb⟩:=jY;have a1:=vP pm ha;have b1:=vP pm hb;obtain⟨a0,a2⟩:=ha;obtain⟨b0,b2⟩:=hb;refine⟨_,rfl,cI ht rfl ⟨rfl,_,rfl,ki (by decide+kernel) ?_⟩⟩;refine⟨_,rfl,_,rfl,cI ht rfl (aY a.toNat hn (by omega) ⟨_,rfl,cI ht rfl ⟨_,rfl,_,rfl,cI ht rfl (aY b.toNat hn (by omega) ?_ (by omega))⟩⟩ (by omega))⟩;refine⟨show 4<=sizeLine from by decide,λp hp=>q p _ ?_ ((aa.refl H).upd hp)⟩;rw[aj,a1,b1];rfl
  |ap i a b=>
   obtain⟨ha,hb⟩:=jY;have a1:=vP pm ha;have b1:=vP pm hb;obtain⟨a0,a2⟩:=ha;obtain⟨b0,b2⟩:=hb;refine⟨_,rfl,cI ht rfl ⟨rfl,_,rfl,c6 (by decide+kernel) ?_⟩⟩;refine⟨_,rfl,_,rfl,cI ht rfl (aY a.toNat hn (by omega) ⟨_,rfl,_,rfl,cI ht rfl (aY b.toNat hn (by omega) ?_ (by omega))⟩ (by omega))⟩;refine⟨show 3<=sizeLine from by decide,λp hp=>q p _ ?_ ((aa.refl H).upd hp)⟩;rw[aj,a1,b1];rfl
def Fv:aN ["_law_found","_law_way"] ["_law_found"] (aF yn):=aQ
def ade{f:Addr}{fd:FuncData}(F:aJ K "_law_ways_right" "_law_ways_right" yn f fd)(T:Txt K mg)(IW:ba P w K mg base "_law_is_way" ["_law_found"] 1 N8)(CU:ba P w K mg base "_law_cut" ["_law_way"] 1 (Nq K)):aB P w K mg base aM 2 f fd ["_law_found"] Of:=by
 refine F.ok Fv (λvs H Q E h=>?_) (λaw A outer s H vs Q E hr h=>?_)
 ·obtain⟨l,ps,rfl,_⟩:=h
  rfl
 ·obtain⟨l,ps,rfl,il,hp,q⟩:=h;have hu:=hr.units
  refine⟨_,(@sC _ _ _ _ _ (bo (mO (iY (cq uR (by rfl) T.inst vw (@aC _ _ _ _ _ (pv 0) (@aC _ _ _ _ _ (vo (v:=.ty "list") rfl T.list j9 rfl) ae (by rfl)) (by rfl))))) (@sO _ _ _ (@sR _ _ _ _ jF)) bx)
   (@sC _ _ _ _ _ (cb Zl rfl (b8 (pv 0)) (a7 (i:=1) Fv.nd rfl (Or.inl rfl)) (@sO _ _ _ (bo (PW.pt (gW (mO (iY (IW.pe hr (@aC _ _ _ _ _ (pv 1) ae (by rfl))))) (gW (aV (Ak hu) (pv 1) (fO ae) (aO _)) (ij (aV (Yq hu) (pv 1) (CU.pe hr (@aC _ _ _ _ _ (pv 1) ae (by rfl))) (aO _)))))) (@sO _ _ _ (@sR _ _ _ _ jF)) bx)))
   (@sO _ _ _ (@sR _ _ _ _ jF)))),?_⟩
  refine⟨_,rfl,_,_,_,_,rfl,.lst il.is,GH,_,rfl,cf ?_⟩;refine⟨_,rfl,l,rfl,⟨_,af.of il.is⟩,eU (K:=K) (a:=l) (xs:=ps.map λp=>V.ref p.1) (λi σ H2=>(∃x,σ=[some (.ref l),x])/\aa H H2) ⟨⟨none,rfl⟩,aa.refl H⟩ (λi σ H2 _ ⟨_,s2⟩=>af.of (s2 _ _ il.is)) ?_ ?_⟩
  ·rintro i x σ H2 hi ⟨⟨y,rfl⟩,s2⟩;obtain⟨p,rfl,ep⟩:=qx hi;have mp:=Y5 ep;obtain⟨h1,h2,h3⟩:=hp p mp;have ip:=s2.ints (il.iv p mp);refine⟨_,rfl,p.1,p.2,rfl,ip,_,rfl,cf ⟨_,rfl,jD [] λl3 H3 DJ nX s3=>?_⟩⟩;refine Bm (s3.ints ip) nX ⟨_,rfl,c6 (ZO h2) ?_⟩;refine⟨_,rfl,_,rfl,p.1,p.2,rfl,af.of (s3.ints ip),by omega,λl4 H4 DC nY s4=>?_⟩;have P0:=s3.trans s4;refine Wz (P0.ints ip) nY h1.symm ⟨_,rfl,cf ⟨⟨_,rfl⟩,s2.trans P0⟩⟩
  ·rintro σ H2 ⟨⟨y,rfl⟩,s2⟩;exact q _ s2
def XD:aN ["way"] ["way"] (aF LU):=aQ
def Vr{f:Addr}{fd:FuncData}(F:aJ K "turned" "turned" LU f fd):aB P w K mg base aM 1 f fd ["way"] (Mt K):=by
 refine F.ok XD (λvs H Q E h=>?_) (λaw A outer s H vs Q E hr h=>?_)
 ·obtain⟨a,ns,rfl,_⟩:=h
  rfl
 ·obtain⟨a,ns,rfl,hS,hn,k⟩:=h;refine⟨_,bH (ik (Yr (cl:=[]) [] [] (b8 (abk (pv 0))) (λC s H fp=>iC iy (pv 0)) (λ_ _ h=>nomatch h))),?_⟩;refine⟨_,rfl,abn hS λp H1 hp h1 s1=>?_⟩;refine⟨p,rfl,⟨_,af.of h1⟩,HE (- ·) (af.of h1) (bI (by simp;omega)) (λz _ H' Q' q'=>⟨_,rfl,_,rfl,q'⟩) (Bl λD H2 hD h2 s2=>?_)⟩;exact k D _ (s1.free hD) h2 (s1.trans s2)
def FI:aN ["kinds","table","row"] ["kinds","table"] (aF yH):=aQ
def XE{f C:Addr}{fd:FuncData}(F:aJ K "check_shape" "check_shape" yH f fd)(T:Txt K mg)(TC:lA K mg C):aB P w K mg base aM 1 f fd ["kinds","table"] K7:=by
 obtain⟨_,DG⟩:=TC.CY;obtain⟨_,hmc⟩:=TC.mcc;refine F.ok FI (λvs H Q E h=>?_) (λaw A outer s H vs Q E hr h=>?_)
 ·obtain⟨k,n,t,as,T',rfl,_⟩:=h
  rfl
 ·obtain⟨k,n,t,as,T',rfl,ht,ok,k1,k5,n1,n7,q⟩:=h
  refine⟨_,(@sC _ _ _ _ _ (bo (PW.pt (gW (aV jH (pv 0) ak (aO _)) (ij (aV jb (pv 0) (gR (v:=.int 5) rfl DG ⟨_,rfl⟩) (aO _))))) (@sO _ _ _ mC) bx)
   (@sC _ _ _ _ _ (bo (PW.pt (gW (aV jH (cq fm (by rfl) T.len PySem.boot_len (@aC _ _ _ _ _ (pv 1) ae (by rfl))) ak (aO _)) (ij (aV jb (cq fm (by rfl) T.len PySem.boot_len (@aC _ _ _ _ _ (pv 1) ae (by rfl))) (gR (v:=.int 700) rfl hmc ⟨_,rfl⟩) (aO _))))) (@sO _ _ _ mC) bx)
   (@sO _ _ _ (cb Zl rfl (b8 (pv 1)) (a7 (i:=2) FI.nd rfl (Or.inl rfl)) (@sO _ _ _ (bo (aV vT (cq fm (by rfl) T.len PySem.boot_len (@aC _ _ _ _ _ (pv 2) ae (by rfl))) (pv 0) (aO _)) (@sO _ _ _ mC) bx)))))),?_⟩
  have hl:as.length=n:=by rw[ht.len,ok.len]
  have e1:((as.map V.ref).length:Int)=n:=by rw[Y0,hl]
  refine⟨_,rfl,_,_,rfl,rfl,_,rfl,c6 (ZO (by omega)) ⟨_,rfl,_,_,rfl,rfl,_,rfl,c6 (ZO (by omega)) ?_⟩⟩;refine⟨_,rfl,t,_,rfl,.inl (af.of ht.is),_,_,rfl,rfl,_,rfl,c6 (ZO (by omega)) ⟨_,rfl,t,_,rfl,.inl (af.of ht.is),_,_,rfl,rfl,_,rfl,c6 (ZO (by omega)) ?_⟩⟩;refine⟨_,rfl,t,rfl,⟨_,af.of ht.is⟩,eU (K:=K) (a:=t) (xs:=as.map V.ref) (λi σ H2=>(∃x,σ=[some (.int k),some (.ref t),x])/\H2=H) ⟨⟨none,rfl⟩,rfl⟩ (λi σ H2 _ ⟨_,e⟩=>by rw[e];exact af.of ht.is) ?_ ?_⟩
  ·rintro i x σ H2 hi ⟨⟨y,rfl⟩,rfl⟩;obtain⟨a,rfl,ea⟩:=K6 hi;have cA:i<T'.length:=by rw[<-ht.len];exact(ZL.mp ea).1
   obtain⟨a',e1,_,e2,eN⟩:=ht.at cA;rw[ea]at e1;cases e1;have rl:((T'.getD i []).map oV).length=k:=by rw[Y0];exact ok.row _ (Y5 e2)
   refine⟨_,rfl,a,_,rfl,.inl (af.of eN),_,rfl,rfl,_,rfl,c6 ?_ ⟨⟨_,rfl⟩,rfl⟩⟩;rw[rl];simp
  ·rintro σ H2 ⟨⟨y,rfl⟩,rfl⟩;exact q
def uQ:aN ["ends","found","chamber","there"] ["ends"] (aF yT):=aQ
def ab7{f:Addr}{fd:FuncData}(F:aJ K "beginnings" "beginnings" yT f fd)(T:Txt K mg):aB P w K mg base aM 1 f fd ["ends"] Nx:=by
 refine F.ok uQ (λvs H Q E h=>?_) (λaw A outer s H vs Q E hr h=>?_)
 ·obtain⟨a,ends,rfl,_⟩:=h
  rfl
 ·obtain⟨a,ends,rfl,ha,ok,hl,q⟩:=h
  refine⟨_,(@sC _ _ _ _ _ (@sS _ 1 _ _ _ _ _ uQ.nd rfl (Or.inl rfl) (aH AS.wr (fO (aq eu ae)) (cq fm (by rfl) T.len PySem.boot_len (aq (pv 0) ae))) (by rfl) (.inl rfl))
   (@sC _ _ _ _ _ (cb Zl rfl (vz rfl T.enum vy (@aC _ _ _ _ _ (pv 0) ae (by rfl))) (gU rfl (bX (a7 (i:=2) uQ.nd rfl (Or.inl rfl)) (bX (a7 (i:=3) uQ.nd rfl (Or.inl rfl)) gS))) (@sC _ _ _ _ _ (bo (aV AQ (pv 3) eu (aO _)) (@sO _ _ _ SJ) bx)
   (@sC _ _ _ _ _ (bo (PW.pt (gW (aV jH (pv 3) ak (aO _)) (ij (aV qL (pv 3) (cq fm (by rfl) T.len PySem.boot_len (@aC _ _ _ _ _ (pv 0) ae (by rfl))) (aO _))))) (@sO _ _ _ mC) bx)
   (@sC _ _ _ _ _ (bo (aV kQ (aD aP (pv 1) (pv 3) (λ_ _=>rfl)) eu (aO _)) (@sO _ _ _ mC) bx)
   (@sO _ _ _ (jB (pv 2) (AN (pv 1) (pv 3) set_list)))))))
   (@sO _ _ _ (@sR _ _ _ _ (pv 1))))),?_⟩
  refine sF (by simp) λp H1 hp ip s1=>?_;have le:((ends.map oV).length:Int)=ends.length:=by rw[Y0]
  refine⟨_,rfl,a,_,rfl,.inl (af.of (ha.same s1)),MI (z:=none) ip (by omega) (λl H2 Cz il s2=>?_) le⟩;have bu:=s1.trans s2;have rN:H l=none:=s1.free Cz
  refine⟨_,rfl,a,rfl,⟨_,af.of (ha.same bu)⟩,zL (K:=K) (a:=a) (xs:=ends.map oV) (λi σ H3=>∃(fs:List (Option Int)) (x y:Option V),σ=[some (.ref a),some (.ref l),x,y]/\Row H3 l fs/\h9 i ends fs/\aa H H3)
   ⟨_,none,none,rfl,il,h9.zero ends,bu⟩ (λi σ H3 _ ⟨_,_,_,_,_,_,s3⟩=>af.of (ha.same s3)) ?_ ?_⟩
  ·rintro i v σ H3 tt hi xG ⟨fs,x,y,rfl,nX,bp,s3⟩;obtain⟨z,rfl,ez⟩:=Aw hi;have aR:l≠tt:=bj nX xG;have s4:aa H (upd H3 tt (.tup [.int i,oV z])):=s3.fE xG;have nY:Row (upd H3 tt (.tup [.int i,oV z])) l fs:=by show upd _ _ _ _=_;rw[ah aR];exact nX
   refine⟨tt,_,rfl,bt.of aj,rfl,_,_,rfl,_,_,rfl,rfl,?_⟩;generalize upd H3 tt (.tup [.int i,oV z])=H4 at s4 nY;have eg:=getD_some (d:=none) ez;cases z with
   |none=>exact⟨_,rfl,rfl,_,rfl,fD ⟨fs,_,_,rfl,nY,bp.skip eg,s4⟩⟩
   |some e=>
    obtain⟨e0,e1⟩:=ok.1 i e eg;obtain⟨m,rfl⟩:∃m:Nat,e=(m:Int):=⟨e.toNat,by omega⟩;have fr:=bp.free ok eg;have hm:m<fs.length:=by rw[bp.len];omega
    refine⟨_,rfl,rfl,_,rfl,cf ?_⟩;refine⟨_,rfl,_,_,rfl,rfl,_,rfl,c6 (ZO (by omega)) ⟨_,rfl,_,rfl,a,_,rfl,.inl (af.of (ha.same s4)),_,_,rfl,rfl,_,rfl,c6 (ZO (by rw[le];omega)) ?_⟩⟩;refine⟨_,rfl,_,rfl,sL m nY hm ⟨rfl,_,rfl,?_⟩⟩;rw[fr];refine cf ⟨_,rfl,_,rfl,_,rfl,l,_,m,m,rfl,rfl,nY,?_,?_⟩
    ·unfold fg;rw[if_pos (by omega),if_pos (by rw[Y0];omega)];rfl
    ·refine⟨fs.set m (some (i:Int)),_,_,rfl,?_,bp.put ok eg,s4.upd rN⟩;show upd _ _ _ _=_;rw[aj,List.map_set];rfl
  ·rintro σ H3 ⟨fs,x,y,rfl,nX,bp,s3⟩;rw[Y0]at bp;exact⟨_,rfl,q l fs H3 rN nX bp s3⟩
def Ri:aN ["self","kinds","table"] ["self","kinds","table"] (aF yo):=aQ
def aaA{f C:Addr}{fd:FuncData}(F:aJ K "__init__" "Chart.__init__" yo f fd)(T:Txt K mg)(TC:lA K mg C)(SH:ba P w K mg base "check_shape" ["kinds","table"] 1 K7)(BG:ba P w K mg base "beginnings" ["ends"] 1 Nx):
  aB P w K mg base aM 2 f fd ["self","kinds","table"] (A5 C):=by
 refine F.ok Ri (λvs H Q E h=>?_) (λaw A outer s H vs Q E hr h=>?_)
 ·obtain⟨g,dx,k,n,t,as,T',rfl,_⟩:=h
  rfl
 ·obtain⟨g,dx,k,n,t,as,T',rfl,hg,ht,ok,k1,k5,n1,n7,q⟩:=h
  refine⟨_,(@sC _ _ _ _ _ (bM (SH.pe hr (@aC _ _ _ _ _ (pv 1) (@aC _ _ _ _ _ (pv 2) ae (by rfl)) (by rfl))))
   (@sC _ _ _ _ _ (gw (pv 0) (pv 1) rfl)
   (@sC _ _ _ _ _ (gw (pv 0) (Jq ["table"] [2] (iX rfl T.range (aq (pv 1) ae)) (λC s H fp=>jy ["place"] [0] (CW K rfl (pv 1)) (λC2 s2 H2 pG=>aD (ue K rfl) (pv 0) (pv 1) (λ_ _=>rfl)) (jK rfl)) (jK rfl)) rfl)
   (@sO _ _ _ (gw (pv 0) (jy [] [] (b8 (aW (pv 0) rfl)) (λC s H fp=>BG.pe hr (aq (pv 0) ae)) mI) rfl))))),?_⟩
  have hT:T'.length<=1000:=by rw[ok.len];omega
  refine⟨_,rfl,_,rfl,k,n,t,as,T',rfl,ht,ok,k1,k5,n1,n7,?_⟩;refine⟨_,rfl,_,rfl,g,C,dx,[],rfl,hg,TC.cl,TC.nk,(by show 0<1000;decide),?_⟩
  have ag:∀a∈t::as,a≠g:=λa ha z=>by
   subst z;rcases Y4.mp ha with e|e
   ·subst e;rw[ht.is]at hg;cases hg
   ·obtain⟨i,hi,e⟩:=ZD e;have g7:i<T'.length:=by rw[<-ht.len];exact hi
    have:=ht.rw i a T'[i] (by simp[<-e,hi]) (by simp[g7]);rw[show H a=_ from this]at hg;cases hg
  have nB:Tb (upd H g (.ins C dx (a8 "kinds" (.int k) []))) t as T':=ht.on λa ha o e=>by rw[ah (ag a ha)];exact e
  have eS:upd H g (.ins C dx (a8 "kinds" (.int k) [])) g=some (.ins C dx (a8 "kinds" (.int k) [])):=aj;have P4:Kp g H (upd H g (.ins C dx (a8 "kinds" (.int k) []))):=λc o e nc=>by rw[ah nc];exact e
  have lP:∀a,upd H g (.ins C dx (a8 "kinds" (.int k) [])) a=none->H a=none:=λa ha=>by
   by_cases z:a=g
   ·rw[z,aj]at ha;cases ha
   ·rwa [ah z]at ha
  generalize upd H g (.ins C dx (a8 "kinds" (.int k) []))=H1 at nB eS P4 lP;refine⟨_,rfl,_,rfl,by omega,by omega,zQ (n:=(k:Int).toNat) (λj=>col T' j) (by omega) (λj hj H2 s2 Q' q'=>?_) λlo os H2 N2=>?_⟩
  ·refine⟨_,rfl,t,rfl,⟨_,af.of (nB.same s2).is⟩,Jr (j:=j) (nB.same s2) (by omega) (λa r eN H3 Q3 s3 h3 q3=>?_) λD hD=>q' D _ hD aj ((aa.refl _).upd hD)⟩;exact⟨_,rfl,_,rfl,sL j h3 (by rw[ok.row r eN];omega) q3 (by omega)⟩
  have e2:(List.range (k:Int).toNat).map (λj=>col T' j)=cols k T':=by rw[Y9];rfl
  rw[e2]at N2;have ng:lo≠g:=λz=>by have:=N2.ft;rw[z,eS]at this;cases this
  have P5:∀a∈lo::os,a≠g:=λa ha z=>by
   rcases Y4.mp ha with e|e
   ·exact ng (e▸z)
   ·have:=N2.fa a e;rw[z,eS]at this;cases this
  refine⟨_,rfl,g,C,dx,_,rfl,N2.sm _ _ eS,TC.cl,TC.no,(by show 1<1000;decide),?_⟩;have pQ:upd H2 g (.ins C dx (a8 "onward" (.ref lo) (a8 "kinds" (.int k) []))) g=some (.ins C dx (a8 "onward" (.ref lo) (a8 "kinds" (.int k) []))):=aj;have to3:Tb (upd H2 g (.ins C dx (a8 "onward" (.ref lo) (a8 "kinds" (.int k) [])))) lo os (cols k T'):=N2.tb.on λa ha o e=>by rw[ah (P5 a ha)];exact e
  have P6:Kp g H1 (upd H2 g (.ins C dx (a8 "onward" (.ref lo) (a8 "kinds" (.int k) [])))):=λc o e nc=>by rw[ah nc];exact N2.sm _ _ e
  have dX:∀a,upd H2 g (.ins C dx (a8 "onward" (.ref lo) (a8 "kinds" (.int k) []))) a=none->H1 a=none:=λa ha=>by
   by_cases z:a=g
   ·rw[z,aj]at ha;cases ha
   ·rw[ah z]at ha;exact N2.sm.free ha
  generalize upd H2 g (.ins C dx (a8 "onward" (.ref lo) (a8 "kinds" (.int k) [])))=H3 at pQ to3 P6 dX;refine⟨_,rfl,g,C,dx,_,_,rfl,pQ,TC.cl,TC.no,(by rw[my,if_pos rfl]),lo,rfl,⟨_,af.of to3.is⟩,Ib (xs:=os.map V.ref) (λi r=>wc (col T' i) r) (af.of to3.is) (by rw[Y0,to3.len,j5];omega) (λi x hi H4 s4 Q' q'=>?_) λli bs I H4 N4 lI hI=>?_⟩
  ·obtain⟨a,rfl,ea⟩:=K6 hi
   have DR:i<k:=by
    have:=(ZL.mp ea).1;rw[to3.len,j5]at this;exact this
   have kz:Row H4 a (col T' i):=(to3.rw i a _ ea (Au T' DR)).same s4;exact⟨_,rfl,a,_,rfl,kz,ok.ends i,by rw[kU];omega,λl fs H5 hl DS hb s5=>q' l fs H5 hl DS hb s5⟩
  ·have ng4:li≠g:=λz=>by have:=N4.ft;rw[z,pQ]at this;cases this
   have aek:∀a∈li::bs,a≠g:=λa ha z=>by
    rcases Y4.mp ha with e|e
    ·exact ng4 (e▸z)
    ·have:=N4.fa a e;rw[z,pQ]at this;cases this
   refine⟨_,rfl,g,C,dx,_,rfl,N4.sm _ _ pQ,TC.cl,TC.ni,(by show 2<1000;decide),?_⟩;rw[Y0,to3.len,j5]at lI;refine q _ (g::((lo::os)++(li::bs))) ⟨ok,k1,k5,n1,n7,dx,lo,li,os,bs,I,rfl,aj,?_,?_,lI,λj hj=>?_⟩ ?_ ?_
   ·exact(to3.same N4.sm).on λa ha o e=>by rw[ah (P5 a ha)];exact e
   ·exact N4.tb.on λa ha o e=>by rw[ah (aek a ha)];exact e
   ·exact hI j _ (by simp[List.getD,lI,hj])
   ·intro a ha nag;rcases Y4.mp ha with e|e
    ·exact absurd e nag
    ·rcases Y6.mp e with e|e
     ·refine lP a ?_;rcases Y4.mp e with e|e
      ·rw[e];exact N2.ft
      ·exact N2.fa a e
     ·refine lP a (dX a ?_);rcases Y4.mp e with e|e
      ·rw[e];exact N4.ft
      ·exact N4.fa a e
   ·intro c o e nc;rw[ah nc];exact N4.sm _ _ (P6 _ _ (P4 _ _ e nc) nc)
def RT:aN ["self"] ["self"] (aF yR):=aQ
def aaB{f C:Addr}{fd:FuncData}(F:aJ K "size" "Chart.size" yR f fd)(T:Txt K mg)(TC:lA K mg C):aB P w K mg base aM 1 f fd ["self"] (qJ C):=by
 refine F.ok RT (λvs H Q E h=>?_) (λaw A outer s H vs Q E hr h=>?_)
 ·obtain⟨g,k,n,T',fp,rfl,_⟩:=h
  rfl
 ·obtain⟨g,k,n,T',fp,rfl,hc,q⟩:=h;obtain⟨dx,lo,li,as,bs,I,rfl,hg,h1,h2,h3,h4⟩:=hc.ob;refine⟨_,(@sO _ _ _ (@sR _ _ _ _ (cq fm (by rfl) T.len PySem.boot_len (@aC _ _ _ _ _ (aD aP (aW (pv 0) rfl) ak (λ_ _=>rfl)) ae (by rfl))))),?_⟩;obtain⟨a,ea,_,e0,dc⟩:=h1.at (i:=0) (by rw[j5];exact hc.k1);rw[zu T' hc.k1]at dc;refine⟨_,rfl,g,C,dx,_,_,rfl,hg,TC.cl,TC.no,A4 ..,qI 0 h1 ea ⟨a,_,rfl,.inl (af.of dc),?_⟩⟩;rw[Y0,kU,hc.ok.len];exact q
def RH:aN ["self"] ["self"] (aF yG):=aQ
def aaC{f C:Addr}{fd:FuncData}(F:aJ K "table" "Chart.table" yG f fd)(T:Txt K mg)(TC:lA K mg C)(SZ:cz P w K mg base C "size" ["self"] 1 (qJ C)):aB P w K mg base aM 2 f fd ["self"] (vN C):=by
 refine F.ok RH (λvs H Q E h=>?_) (λaw A outer s H vs Q E hr h=>?_)
 ·obtain⟨g,k,n,T',fp,rfl,_⟩:=h
  rfl
 ·obtain⟨g,k,n,T',fp,rfl,hc,q⟩:=h;obtain⟨dx,lo,li,as,bs,I,rfl,hg,h1,h2,h3,h4⟩:=id hc.ob;refine⟨_,(@sO _ _ _ (@sR _ _ _ _ (Jq ["self"] [0] (iX rfl T.range (aq (SZ.dO hr (pv 0)) ae)) (λC s H fp=>jy ["chamber"] [0] (CW K rfl (pfl K rfl (pv 1) rfl)) (λC2 s2 H2 pG=>aD (ue K rfl) (pv 0) (pv 1) (λ_ _=>rfl)) (jK rfl)) (jK rfl)))),?_⟩;have:=hc.k5;have:=hc.n7;refine⟨_,rfl,g,dx,_,rfl,hg,gz ..,g,k,n,T',_,rfl,hc,_,rfl,by omega,by omega,zQ (n:=(n:Int).toNat) (λc=>col (cols k T') c) (by omega) (λc jQ H2 s2 Q' q'=>?_) λD as2 H2 N2=>?_⟩
  ·refine⟨_,rfl,g,C,dx,_,_,rfl,s2 _ _ hg,TC.cl,TC.no,A4 ..,lo,rfl,⟨_,af.of (h1.same s2).is⟩,Jr (j:=c) (h1.same s2) (by rw[j5];omega) (λa r eN H3 Q3 s3 h3 q3=>?_) λD hD=>q' D _ hD aj ((aa.refl _).upd hD)⟩;obtain⟨j,_,rfl⟩:=Zg.mp eN;exact⟨_,rfl,_,rfl,sL c h3 (by rw[kU,hc.ok.len];omega) q3 (by omega)⟩
  ·have e:(List.range (n:Int).toNat).map (λc=>col (cols k T') c)=T':=by
    rw[Y9];exact UX hc.ok
   rw[e]at N2;exact q D as2 H2 N2.ft N2.fa N2.nd N2.tb N2.sm
def Fp:aN ["self","chamber"] ["self","chamber"] (aF uL):=aQ
def ab8{f C:Addr}{fd:FuncData}(F:aJ K "check_chamber" "Chart.check_chamber" uL f fd)(SZ:cz P w K mg base C "size" ["self"] 1 (qJ C)):aB P w K mg base aM 2 f fd ["self","chamber"] (Ny C):=by
 refine F.ok Fp (λvs H Q E h=>?_) (λaw A outer s H vs Q E hr h=>?_)
 ·obtain⟨g,k,n,T',fp,c,rfl,_⟩:=h
  rfl
 ·obtain⟨g,k,n,T',fp,c,rfl,hc,rO,q⟩:=h;obtain⟨dx,lo,li,as,bs,I,rfl,hg,_⟩:=id hc.ob;refine⟨_,(@sO _ _ _ (bo (PW.pt (gW (aV jH (pv 1) ak (aO _)) (ij (aV qL (pv 1) (SZ.dO hr (pv 0)) (aO _))))) (@sO _ _ _ mC) bx)),?_⟩;exact⟨_,rfl,_,_,rfl,rfl,_,rfl,c6 (ZO (by omega)) ⟨_,rfl,_,rfl,g,dx,_,rfl,hg,gz ..,g,k,n,T',_,rfl,hc,_,_,rfl,rfl,_,rfl,c6 (ZO (by omega)) q⟩⟩
def ab9{f:Addr}{fd:FuncData}(F:aJ K "check_letters" "check_letters" uO f fd)(T:Txt K mg):aB P w K mg base aM 1 f fd ["kinds","way"] Nz:=by
 refine F.ok uN (λvs H Q E h=>?_) (λaw A outer s H vs Q E hr h=>?_)
 ·obtain⟨k,wa,ws,rfl,_⟩:=h
  rfl
 ·obtain⟨k,wa,ws,rfl,hw,hl,q⟩:=h;refine⟨_,(@sO _ _ _ (cb Zl rfl (b8 (pv 1)) (a7 (i:=2) uN.nd rfl (Or.inl rfl)) (@sO _ _ _ (bo (PW.pt (gW (aV dQ (pv 2) ak (aO _)) (ij (aV jb (cq IZ (by rfl) T.abs Ms (@aC _ _ _ _ _ (pv 2) ae (by rfl))) (pv 0) (aO _))))) (@sO _ _ _ mC) bx)))),?_⟩;refine⟨_,rfl,wa,rfl,⟨_,af.of hw⟩,eU (K:=K) (a:=wa) (xs:=ws.map V.int) (λi σ H2=>(∃x,σ=[some (.int k),some (.ref wa),x])/\H2=H) ⟨⟨none,rfl⟩,rfl⟩ (λi σ H2 _ ⟨_,e⟩=>by rw[e];exact af.of hw) ?_ ?_⟩
  ·rintro i x σ H2 hi ⟨⟨y,rfl⟩,rfl⟩;obtain⟨l,rfl,el⟩:=jA hi;obtain⟨l0,l1,l2⟩:=hl l (Y5 el);refine⟨_,rfl,rfl,_,rfl,c6 (ZO (λz=>l0 (V.int.inj z))) ⟨_,rfl,_,rfl,_,rfl,_,_,rfl,rfl,_,rfl,c6 (ZO ?_) ⟨⟨_,rfl⟩,rfl⟩⟩⟩;split<;>omega
  ·rintro σ H2 ⟨⟨y,rfl⟩,rfl⟩;exact q
def RU:aN ["self","chamber","letter"] ["self","chamber","letter"] (aF yS):=aQ
def aaD{f C:Addr}{fd:FuncData}(F:aJ K "step" "Chart.step" yS f fd)(TC:lA K mg C)(CC:cz P w K mg base C "check_chamber" ["self","chamber"] 2 (Ny C))(CL:ba P w K mg base "check_letters" ["kinds","way"] 1 Nz):
  aB P w K mg base aM 3 f fd ["self","chamber","letter"] (A6 C):=by
 refine F.ok RU (λvs H Q E h=>?_) (λaw A outer s H vs Q E hr h=>?_)
 ·obtain⟨g,k,n,T',fp,c,l,rfl,_⟩:=h
  rfl
 ·obtain⟨g,k,n,T',fp,c,l,rfl,hc,rO,hl,q⟩:=h;obtain⟨dx,lo,li,as,bs,I,rfl,hg,h1,h2,h3,h4⟩:=id hc.ob;have⟨l0,l1,l2⟩:=hl
  refine⟨_,(@sC _ _ _ _ _ (bM (CC.pe hr (pv 0) (@aC _ _ _ _ _ (pv 1) ae (by rfl))))
   (@sC _ _ _ _ _ (bM (CL.pe hr (@aC _ _ _ _ _ (aW (pv 0) rfl) (@aC _ _ _ _ _ (@eL _ _ _ _ (@aC _ _ _ _ _ (pv 2) ae (by rfl))) ae (by rfl)) (by rfl))))
   (@sC _ _ _ _ _ (bo (aV jb (pv 2) ak (aO _)) (@sO _ _ _ (@sR _ _ _ _ (aD aP (aD aP (aW (pv 0) rfl) (aH oA (pv 2) ak) (λ_ _=>rfl)) (pv 1) (λ_ _=>rfl)))) bx)
   (@sO _ _ _ (@sR _ _ _ _ (aD aP (aD aP (aW (pv 0) rfl) (aH oA (iC iy (pv 2)) ak) (λ_ _=>rfl)) (pv 1) (λ_ _=>rfl))))))),?_⟩
  refine⟨_,rfl,g,dx,_,rfl,hg,gz ..,_,rfl,g,k,n,T',_,c,rfl,hc,rO,?_⟩;refine⟨_,rfl,g,C,dx,_,_,rfl,hg,TC.cl,TC.nk,wg ..,_,rfl,jD [l] λla H1 rN ila s1=>⟨k,la,[l],rfl,ila,(λx hx=>by rw[Y1.mp hx];exact hl),?_⟩⟩;have q:=q H1 s1;have hc:=hc.same s1;obtain⟨dx,lo,li,as,bs,I,uB,hg,h1,h2,h3,h4⟩:=id hc.ob;refine⟨_,rfl,_,_,rfl,rfl,_,rfl,cg (λhp=>?_) λhp=>?_⟩
  ·have hp:0<l:=of_decide_eq_true hp;have hj:(l-1).toNat<k:=by omega
   obtain⟨a,ea,_,e0,hV⟩:=h1.at (i:=(l-1).toNat) (by rw[j5];exact hj);rw[zu T' hj]at hV;refine⟨_,rfl,g,C,dx,_,_,rfl,hg,TC.cl,TC.no,A4 ..,_,rfl,_,_,rfl,rfl,qI (l-1).toNat h1 ea ⟨_,rfl,sL c hV (by rw[kU,hc.ok.len];exact rO) ?_⟩ (by omega)⟩;unfold az at q;rw[if_pos hp]at q;rw[oa];exact q
  ·have hp:¬0<l:=λz=>hp (ZN z);have hj:(-l-1).toNat<k:=by omega
   obtain⟨a,ea,_,e0,hV⟩:=h2.at (i:=(-l-1).toNat) (by rw[h3];exact hj);have bg:=h4 _ hj;refine⟨_,rfl,g,C,dx,_,_,rfl,hg,TC.cl,TC.ni,abJ ..,_,rfl,_,rfl,_,_,rfl,rfl,qI (-l-1).toNat h2 ea ⟨_,rfl,sL c hV (by rw[bg.len,kU,hc.ok.len];exact rO) ?_⟩ (by omega)⟩;unfold az at q;rw[if_neg hp]at q;rw[YU hc.ok bg];exact q
def Rb:aN ["chart"] ["chart"] (aF yi):=aQ
def aca{f C:Addr}{fd:FuncData}(F:aJ K "letters_in_order" "letters_in_order" yi f fd)(T:Txt K mg)(TC:lA K mg C):aB P w K mg base aM 1 f fd ["chart"] (BC C):=by
 refine F.ok Rb (λvs H Q E h=>?_) (λaw A outer s H vs Q E hr h=>?_)
 ·obtain⟨g,k,n,T',fp,rfl,_⟩:=h
  rfl
 ·obtain⟨g,k,n,T',fp,rfl,hc,q⟩:=h;obtain⟨dx,lo,li,as,bs,I,rfl,hg,h1,h2,h3,h4⟩:=id hc.ob;have k5:=hc.k5;refine⟨_,(@sO _ _ _ (@sR _ _ _ _ (W9 [] [] (Hn rfl T.range (aq ak (aq (aH cY (aW (pv 0) rfl) ak) ae))) (λC s H fp=>pit K rfl (cO (aq (pv 0) (aq (iC iy (pv 0)) ae)))) (λC s H fp=>pv 1) mI))),?_⟩;refine⟨_,rfl,g,C,dx,_,_,rfl,hg,TC.cl,TC.nk,wg ..,_,_,rfl,rfl,_,_,rfl,⟨by omega,by omega⟩,TN (λi=>[1+(i:Int), -(1+(i:Int))]) (by omega) (λ_=>rfl) (λi hi y0 H2 Q' q'=>⟨_,rfl,_,rfl,_,rfl,q'⟩) λD H' hD nI s2=>q D H' hD ?_ s2⟩;have e:((k:Int)+1-1).toNat=k:=by omega
  rw[e]at nI;exact nI
def mv:aN ["chart","base","ways","order","at","chamber","letter","there"] ["chart","base"] (aF zc):=aQ
def aaE{f C:Addr}{fd:FuncData}(F:aJ K "ways_from" "ways_from" zc f fd)(T:Txt K mg)(LI:ba P w K mg base "letters_in_order" ["chart"] 1 (BC C))(SE:cz P w K mg base C "step" ["self","chamber","letter"] 3 (A6 C)):
  aB P w K mg base aM 4 f fd ["chart","base"] (Ba C):=by
 refine F.ok mv (λvs H Q E h=>?_) (λaw A outer s H vs Q E hr h=>?_)
 ·obtain⟨g,k,n,T',fp,b,rfl,_⟩:=h
  rfl
 ·obtain⟨g,k,n,T',fp,b,rfl,hc,hb,q⟩:=h;obtain⟨dx,lo,li,as,bs,I,rfl,hg,_⟩:=id hc.ob;have de:=oJ hr;have k5:=hc.k5;have n7:=hc.n7
  refine⟨_,(@sC _ _ _ _ _ (@sS _ 2 _ _ _ _ _ mv.nd rfl (Or.inl rfl) (YD (WE (pv 1) (fO ae) YC) rfl rfl (by simp) (by decide)) (by rfl) (.inl rfl))
   (@sC _ _ _ _ _ (@sS _ 3 _ _ _ _ _ mv.nd rfl (Or.inl rfl) (@eL _ _ _ _ (@aC _ _ _ _ _ (pv 1) ae (by rfl))) (by rfl) (.inl rfl))
   (@sC _ _ _ _ _ (@sS _ 4 _ _ _ _ _ mv.nd rfl (Or.inl rfl) ak (by rfl) (.inl rfl))
   (@sC _ _ _ _ _ (va Zl (aV jH (pv 4) (cq fm (by rfl) T.len PySem.boot_len (@aC _ _ _ _ _ (pv 3) ae (by rfl))) (aO _)) (@sC _ _ _ _ _ (@sS _ 5 _ _ _ _ _ mv.nd rfl (Or.inl rfl) (aD aP (pv 3) (pv 4) (λ_ _=>rfl)) (by rfl) (.inl rfl))
   (@sC _ _ _ _ _ (cb Zl rfl (b8 (LI.pe hr (@aC _ _ _ _ _ (pv 0) ae (by rfl)))) (a7 (i:=6) mv.nd rfl (Or.inl rfl)) (@sC _ _ _ _ _ (@sS _ 7 _ _ _ _ _ mv.nd rfl (Or.inl rfl) (SE.pe hr (pv 0) (@aC _ _ _ _ _ (pv 5) (@aC _ _ _ _ _ (pv 6) ae (by rfl)) (by rfl))) (by rfl) (.inl rfl))
   (@sO _ _ _ (bo (PW.pt (oz (aV kQ (pv 7) eu (aO _)) (qt (AM (HN de (pv 7) (pv 2)) rfl)))) (@sC _ _ _ _ _ (Al de (pv 2) (pv 7) (aH kS (ka de (pv 2) (pv 5) (λ_ _=>rfl)) (@eL _ _ _ _ (@aC _ _ _ _ _ (pv 6) ae (by rfl)))) rfl)
   (@sO _ _ _ (bM (fz PySem.F.plainAttrs_list PySem.F.slot_list_append PySem.F.type_list_append fu (pv 3) (@aC _ _ _ _ _ (pv 7) ae (by rfl)))))) bx))))
   (@sO _ _ _ (aa8 (i:=4) mv.nd rfl (Or.inl rfl) ak aa9)))))
   (@sO _ _ _ (YX (pv 2))))))),?_⟩
  refine λd hd=>⟨_,rfl,sF (by simp) λa0 H1 P7 ia0 s1=>⟨s1 _ _ aj,[(.inl (b:Int),.ref a0)],rfl,by simp,?_⟩⟩;have hda:a0≠d:=λz=>by rw[z,aj]at P7;cases P7
  have DT:aa H (upd H1 d (.dK (kW [] [(.inl (b:Int),.ref a0)]))):=(((aa.refl H).upd hd).trans s1).upd hd;have P8:upd H1 d (.dK (kW [] [(.inl (b:Int),.ref a0)])) d=some (.dK (dC [(b,a0,[])])):=by rw[aj];rfl
  have DU:ay (upd H1 d (.dK (kW [] [(.inl (b:Int),.ref a0)]))) a0 []:=by show upd _ _ _ _=_;rw[ah hda];exact ia0
  generalize upd H1 d (.dK (kW [] [(.inl (b:Int),.ref a0)]))=H2 at DT P8 DU;refine⟨_,rfl,jD [(b:Int)] λlo H3 xb ilo s3=>?_⟩
  have ws3:WS H H3 d lo [(b,a0,[])]:=by
   refine⟨⟨s3 _ _ P8,λp hp=>?_⟩,ilo,λp hp=>?_,hd,DT.free xb,DT.trans s3⟩
   ·rw[Y1.mp hp];exact s3.ints DU
   ·rw[Y1.mp hp];intro z;have z:a0=lo:=z;rw[<-z,DU]at xb;cases xb
  refine zI (λσ H4=>∃(W:Wy) (i:Nat) (x5 x6 x7:Option V),σ=[some (.ref g),some (.int b),some (.ref d),some (.ref lo),some (.int i),x5,x6,x7]/\WS H H4 d lo W/\dU T' k n b W/\i<=W.length/\m7 T' k (n+1-i) i (era W)=bF T' k n b)
   (λσ H4=>match σ with|[_,_,_,_,some (.int i),_,_,_]=>n+1-i.toNat|_=>0) ⟨_,0,none,none,none,rfl,ws3,dU.zero hb a0,Zo _,rfl⟩ ?_ ?_
  ·rintro σ H4 ⟨W,i,x5,x6,x7,rfl,ws,wi,hi,eb⟩
   have wl:W.length<=n:=by
    have:=eE.len (n:=n) (O:=keys W) ⟨wi.nd,λc hc=>by obtain⟨p,hp,rfl⟩:=Zg.mp hc;exact wi.lt p hp⟩;unfold keys at this;rwa [Y0]at this
   have el:((((keys W).map λ(c:Nat)=>(c:Int)).map V.int).length:Int)=W.length:=by simp[keys]
   refine⟨_,rfl,_,rfl,lo,_,rfl,.inl (af.of ws.io),_,_,rfl,rfl,_,rfl,?_⟩;rw[el];refine cg (λaR=>?_) λrF=>?_
   ·have aR:(i:Int)<W.length:=of_decide_eq_true aR;have aR:i<W.length:=by omega
    have kK:i<(era W).length:=by unfold era;rw[Y0];exact aR
    have eW:W[i]?=some W[i]:=by simp[aR]
    generalize hp:W[i]=p at eW;have mp:p∈W:=Y5 eW
    have ec:((keys W).map λ(c:Nat)=>(c:Int)).getD i 0=(p.1:Int):=by
     have:(keys W)[i]?=some p.1:=by unfold keys;rw[Ze,eW];rfl
     rw[List.getD,Ze,this];rfl
    have ek:(era W).getD i (0,[])=(p.1,p.2.2):=by
     have:(era W)[i]?=some (p.1,p.2.2):=by unfold era;rw[Ze,eW];rfl
     rw[List.getD,this];rfl
    refine⟨_,rfl,_,rfl,aY i ws.io (by simp[keys];exact aR) ?_⟩;rw[ec];refine⟨_,rfl,g,k,n,T',_,rfl,hc.same ws.sm,λll H5 nK ill s5=>?_⟩;have ws5:=ws.same s5
    refine⟨ll,rfl,⟨_,af.of ill⟩,eU (K:=K) (a:=ll) (xs:=(lets k).map V.int) (λj σ H6=>∃(W6:Wy) (y6 y7:Option V) (r:Wy),σ=[some (.ref g),some (.int b),some (.ref d),some (.ref lo),some (.int i),some (.int p.1),y6,y7]/\WS H H6 d lo W6/\dU T' k n b W6/\W6=W++r/\ay H6 ll (lets k)/\ll≠lo/\era W6=((lets k).take j).foldl (gi T' (p.1,p.2.2)) (era W))
     ⟨W,_,_,[],rfl,ws5,wi,by simp,ill,(λz=>by rw[z,ws.io]at nK;cases nK),rfl⟩ (λj σ H6 _ ⟨_,_,_,_,_,_,_,_,e,_⟩=>af.of e) ?_ ?_⟩
    ·rintro j x σ H6 hj ⟨W6,y6,y7,r,rfl,iU,kM,rP,kL,uC,xO⟩;obtain⟨l,rfl,rM⟩:=jA hj;have hl:Let k l:=j6.mp (Y5 rM);have xP:p∈W6:=by rw[rP];exact Zb _ mp
     have es:((lets k).take (j+1)).foldl (gi T' (p.1,p.2.2)) (era W)=gi T' (p.1,p.2.2) (era W6) l:=by rw[uV rM,xO]
     refine⟨_,rfl,g,dx,_,rfl,iU.sm _ _ hg,gz ..,_,rfl,_,rfl,g,k,n,T',_,p.1,l,rfl,hc.same iU.sm,wi.lt p mp,hl,λH6' xn=>?_⟩;replace iU:=iU.same xn;replace kL:=xn.ints kL;refine⟨_,rfl,rfl,_,rfl,?_⟩;cases e:az T' p.1 l with
     |none=>
      refine cf ⟨W6,_,_,r,rfl,iU,kM,rP,kL,uC,?_⟩;rw[es];unfold gi;rw[e]
     |some dd=>
      obtain⟨z0,z1⟩:=eB hc.ok e;obtain⟨c,rfl⟩:∃c:Nat,dd=(c:Int):=⟨dd.toNat,by omega⟩;refine fD ⟨_,rfl,_,rfl,d,_,rfl,dq.k (k:=.inl (c:Int)) iU.dw.is,_,rfl,?_⟩;have ev:gi T' (p.1,p.2.2) (era W6) l=if c∈keys W6 then era W6 else era W6++[(c,p.2.2++[l])]:=by unfold gi;rw[e,qo];rfl
      by_cases rQ:c∈keys W6
      ·obtain⟨p2,iP,e2⟩:=Zg.mp rQ;have v2:=zV kM.nd iP;have e2:p2.1=c:=e2;rw[e2]at v2;rw[v2];refine cf ⟨W6,_,_,r,rfl,iU,kM,rP,kL,uC,?_⟩;rw[es,ev,if_pos rQ]
      ·rw[JL rQ]
       have wl6:W6.length<=n:=by
        have:=eE.len (n:=n) (O:=keys W6) ⟨kM.nd,λc hc=>by obtain⟨p,hp,rfl⟩:=Zg.mp hc;exact kM.lt p hp⟩;unfold keys at this;rwa [Y0]at this
       have aeT:p.2.2.length<=n:=by
        obtain⟨jj,hjj,ejj⟩:=ZD xP;have:=kM.ln jj p (by simp[<-ejj,hjj]);omega
       refine fD ⟨_,rfl,_,rfl,d,_,rfl,(by have:=dq.k (k:=.inl (p.1:Int)) iU.dw.is;rw[zV kM.nd xP]at this;exact this),_,rfl,jD [l] λq1 H7 hq1 iq1 s7=>?_⟩;refine qG (s7.ints (iU.dw.wy p xP)) iq1 (by simp;omega) λa H8 ha ia s8=>?_;have xQ:=iU.same (s7.trans s8);refine⟨_,rfl,_,rfl,d,_,rfl,gY.k (k:=.inl (c:Int)) xQ.dw.is (bI (by unfold dC;rw[Y0];omega)),?_⟩;have P9:ay (upd H8 d (.dK (putK (dC W6) (.inl (c:Int)) (.ref a)))) lo ((keys W6).map λ(c:Nat)=>(c:Int)):=xQ.io.other xQ.ne.symm;refine⟨_,rfl,.inl ⟨rfl,_,af.of P9⟩,_,rfl,lo,_,_,rfl,rfl,P9,bI (by simp[keys];omega),?_⟩;have ha6:H6' a=none:=s7.free ha;have wn:=iU.add (s7.trans s8) ha6 ia rQ
       have ael:ay (upd H8 d (.dK (putK (dC W6) (.inl (c:Int)) (.ref a)))) ll (lets k):=((s7.trans s8).ints kL).other λz=>by
        have:=xQ.dw.is;rw[<-z,show H8 ll=_ from(s7.trans s8).ints kL]at this;cases this
       refine⟨W6++[(c,a,p.2.2++[l])],_,_,r++[(c,a,p.2.2++[l])],rfl,wn,kM.add hc.ok xP hl e rQ a,by rw[rP,ZZ],ael.other uC,uC,?_⟩;rw[es,ev,if_neg rQ];unfold era;rw[Zd];rfl
    ·rintro σ H6 ⟨W6,y6,y7,r,rfl,iU,kM,rP,kL,uC,xO⟩;rw[Y0,List.take_length]at xO;refine⟨_,rfl,_,_,rfl,rfl,⟨W6,i+1,_,_,_,rfl,iU,kM,by rw[rP,Zn];omega,?_⟩,?_⟩
     ·have e1:n+1-i=(n+1-(i+1))+1:=by omega
      rw[e1,AE kK]at eb;rw[xO];unfold wJ at eb;rw[ek]at eb;exact eb
     ·show n+1-((i:Int)+1).toNat<n+1-(i:Int).toNat;omega
   ·have rF:¬(i:Int)<W.length:=λz=>rF (ZN z);have hk:(era W).length<=i:=by unfold era;rw[Y0];omega
    rw[zy hk]at eb;refine⟨_,rfl,d,_,rfl,ws.dw.is,λo=>q d W _ hd ⟨⟨o,aj⟩,λp hp=>?_⟩ wi eb (ws.sm.upd hd)⟩;have i1:=ws.dw.wy p hp;exact i1.other λy=>by rw[y]at i1;have e:=ws.dw.is;rw[show H4 d=_ from i1]at e;cases e
  ·rintro σ H Q Q' hQ ⟨v,e,v',e',p,ys,Dq,q,i,j,e3,e4,b,e5,q5⟩;exact⟨v,e,v',e',p,ys,Dq,q,i,j,e3,e4,b,e5,hQ _ _ q5⟩
def Ua:aN ["ways","chamber","kind","there"] ["ways","chamber","kind","there"] (aF zB):=aQ
def aaF{f:Addr}{fd:FuncData}(F:aJ K "is_used" "is_used" zB f fd):aB P w K mg base aM 1 f fd ["ways","chamber","kind","there"] MR:=by
 refine F.ok Ua (λvs H Q E h=>?_) (λaw A outer s H vs Q E hr h=>?_)
 ·obtain⟨d,W,c,e,κ,rfl,_⟩:=h
  rfl
 ·obtain⟨d,W,c,e,κ,rfl,fw,nd,hc,he,hl,q⟩:=h;have hu:=hr.units;have de:=oJ hr;obtain⟨a,ga,ia⟩:=fw.get nd hc;obtain⟨b,gb,ib⟩:=fw.get nd he
  have la:∀x,(way (era W) x).length<=1000:=λx=>by
   unfold way;cases z:(era W).find? (λp=>p.1==x)with
   |none=>simp
   |some p=>
    obtain⟨p',nF,rfl⟩:=Zg.mp (List.mem_of_find?_eq_some z);exact hl p' nF
  refine⟨_,(@sO _ _ _ (@sR _ _ _ _ (acs (qu (Ak hu) (ka de (pv 0) (pv 3) (λ_ _=>rfl)) (aH kS (ka de (pv 0) (pv 1) (λ_ _=>rfl)) (@eL _ _ _ _ (@aC _ _ _ _ _ (pv 2) ae (by rfl)))) (aO _)) (L7 (qu (Ak hu) (ka de (pv 0) (pv 1) (λ_ _=>rfl)) (aH kS (ka de (pv 0) (pv 3) (λ_ _=>rfl)) (@eL _ _ _ _ (@aC _ _ _ _ _ (iC iy (pv 2)) ae (by rfl)))) (aO _)))))),?_⟩;refine⟨_,rfl,_,rfl,d,_,rfl,gb,_,rfl,_,rfl,d,_,rfl,ga,_,rfl,jD [κ] λp1 H1 hJ DV s1=>?_⟩;refine qG (s1.ints ia) DV (by have:=la c;simp;omega) λp2 H2 iP uD s2=>?_;have bu:=s1.trans s2;refine Bm (bu.ints ib) uD ?_;unfold used at q;by_cases z:way (era W) e=way (era W) c++[κ]
  ·rw[ZN z]at q⊢;exact⟨_,rfl,fD (q _ bu)⟩
  ·rw[ZO z]at q⊢;have Qa:=fw.same bu;obtain⟨a2,ga2,ia2⟩:=Qa.get nd hc;obtain⟨b2,gb2,ib2⟩:=Qa.get nd he;refine⟨_,rfl,cf ⟨_,rfl,_,rfl,d,_,rfl,ga2,_,rfl,_,rfl,d,_,rfl,gb2,_,rfl,_,rfl,jD [-κ] λp3 H3 PD DX s3=>?_⟩⟩;refine qG (s3.ints ib2) DX (by have:=la e;simp;omega) λp4 H4 xH DY s4=>?_;exact Bm ((s3.trans s4).ints ia2) DY (q _ (bu.trans (s3.trans s4)))
def pZ:aN ["chart","ways","table","found","chamber","place","there"] ["chart","ways"] (aF yp):=aQ
def XF{f C:Addr}{fd:FuncData}(F:aJ K "loose_passages" "loose_passages" yp f fd)(T:Txt K mg)(TB:cz P w K mg base C "table" ["self"] 2 (vN C))(IU:ba P w K mg base "is_used" ["ways","chamber","kind","there"] 1 MR):
  aB P w K mg base aM 3 f fd ["chart","ways"] (Lv C):=by
 refine F.ok pZ (λvs H Q E h=>?_) (λaw A outer s H vs Q E hr h=>?_)
 ·obtain⟨g,d,k,n,T',fp,W,rfl,_⟩:=h
  rfl
 ·obtain⟨g,d,k,n,T',fp,W,rfl,hc,fw,wi,eW,q⟩:=h;obtain⟨dx,lo,li,as0,bs,I,rfl,hg,_⟩:=id hc.ob;have k5:=hc.k5;have n7:=hc.n7
  have wl:W.length<=n:=by
   have:=eE.len (n:=n) (O:=keys W) ⟨wi.nd,λc hc=>by obtain⟨p,hp,rfl⟩:=Zg.mp hc;exact wi.lt p hp⟩;unfold keys at this;rwa [Y0]at this
  have ek:keys W=met T' k n 0:=by rw[<-qo,eW,j7]
  have cl:=(cL hc.ok (k:=k) (base:=0) hc.n1).2.2;rw[<-ek]at cl;rw[<-eW, <-ek]at q
  refine⟨_,(@sC _ _ _ _ _ (@sS _ 2 _ _ _ _ _ pZ.nd rfl (Or.inl rfl) (TB.dO hr (pv 0)) (by rfl) (.inl rfl))
   (@sC _ _ _ _ _ (@sS _ 3 _ _ _ _ _ pZ.nd rfl (Or.inl rfl) (fO ae) (by rfl) (.inl rfl))
   (@sC _ _ _ _ _ (cb Zl rfl (YY (pv 1)) (a7 (i:=4) pZ.nd rfl (Or.inl rfl)) (@sO _ _ _ (cb Zl rfl (vz rfl T.enum vy (@aC _ _ _ _ _ (aD aP (pv 2) (pv 4) (λ_ _=>rfl)) ae (by rfl))) (gU rfl (bX (a7 (i:=5) pZ.nd rfl (Or.inl rfl)) (bX (a7 (i:=6) pZ.nd rfl (Or.inl rfl)) gS))) (@sO _ _ _ (bo (PW.pt (oz (aV kQ (pv 6) eu (aO _)) (qt (mO (iY (IU.pe hr (@aC _ _ _ _ _ (pv 1) (@aC _ _ _ _ _ (pv 4) (@aC _ _ _ _ _ (aH cY (pv 5) ak) (@aC _ _ _ _ _ (pv 6) ae (by rfl)) (by rfl)) (by rfl)) (by rfl)))))))) (@sO _ _ _ (bM (fz PySem.F.plainAttrs_list PySem.F.slot_list_append PySem.F.type_list_append fu (pv 3) (@aC _ _ _ _ _ (cO (@aC _ _ _ _ _ (pv 4) (@aC _ _ _ _ _ (aH cY (pv 5) ak) (@aC _ _ _ _ _ (pv 6) ae (by rfl)) (by rfl)) (by rfl))) ae (by rfl))))) bx)))))
   (@sO _ _ _ (@sR _ _ _ _ (pv 3)))))),?_⟩
  refine⟨_,rfl,g,dx,_,rfl,hg,gz ..,g,k,n,T',_,rfl,hc,λt as H1 ft fa nd tb s1=>?_⟩;refine sF (by simp) λl H2 hl il s2=>?_;have bu:=s1.trans s2;have fl:H l=none:=s1.free hl;obtain⟨o,eo⟩:=fw.is
  have lle:∀i,(eP T' k (era W) ((keys W).take i)).length<=i*k:=λi=>by
   unfold eP
   induction i with
   |zero=>simp
   |succ i ih=>
    by_cases hi:i<(keys W).length
    ·rw[Zi hi,List.flatMap_append,Zn,Nat.add_mul]
     have:([(keys W)[i]].flatMap (lD T' (era W) k)).length<=k:=by
      simp only[List.flatMap_cons,List.flatMap_nil,ZY];unfold lD;rw[Y0];have:=List.length_filter_le (gM T' (era W) (keys W)[i]) (List.range k);simpa using this
     omega
    ·rw[ZE (by omega)]at ih⊢;rw[Nat.add_mul];omega
  refine⟨_,rfl,d,o,_,rfl,bu _ _ eo,W8 (o:=o) (d:=d) (kvs:=dC W) (λi σ H3=>∃(ps:Ps) (x4 x5 x6:Option V),σ=[some (.ref g),some (.ref d),some (.ref t),some (.ref l),x4,x5,x6]/\Tl H3 l ps/\ps.map (·.2)=eP T' k (era W) ((keys W).take i)/\aa H H3/\aa H1 H3)
   ⟨[],none,none,none,rfl,⟨il,λ_ z=>nomatch z⟩,rfl,bu,s2⟩ (λi σ H3 _ ⟨_,_,_,_,_,_,_,s3,_⟩=>s3 _ _ eo) ?_ ?_⟩
  ·rintro i p σ H3 hi ⟨ps,x4,x5,x6,rfl,tl,nZ,s3,gp⟩
   have DZ:i<W.length:=by
    have:=(ZL.mp hi).1;unfold dC at this;rwa [Y0]at this
   have Qb:p=(.inl (W[i].1:Int),.ref W[i].2.1):=by
    unfold dC at hi;rw[Ze,Zc DZ]at hi;exact(Zf hi).symm
   generalize hx:W[i]=x at Qb;have mx:x∈W:=hx▸ZA DZ;have D0:(keys W)[i]?=some x.1:=by unfold keys;rw[Ze,Zc DZ,hx];rfl
   have mk:x.1∈keys W:=Y5 D0;have hxn:=wi.lt x mx;subst Qb;obtain⟨ra,Ox,D1,eT,hV⟩:=(tb.same gp).at (i:=x.1) (by rw[hc.ok.len];exact hxn);have aem:(T'.getD x.1 []).length=k:=hc.ok.row _ (Y5 eT);refine⟨_,rfl,_,rfl,qI x.1 (tb.same gp) Ox ⟨ra,rfl,⟨_,af.of hV⟩,?_⟩⟩
   refine zL (K:=K) (a:=ra) (xs:=(T'.getD x.1 []).map oV) (λj σ H4=>∃(l8:Ps) (y5 y6:Option V),σ=[some (.ref g),some (.ref d),some (.ref t),some (.ref l),some (.int x.1),y5,y6]/\Tl H4 l l8/\l8.map (·.2)=eP T' k (era W) ((keys W).take i)++((List.range j).filter (gM T' (era W) x.1)).map (oU T' x.1)/\j<=k/\aa H H4/\aa H1 H4)
    ⟨ps,_,_,rfl,tl,by rw[nZ];simp,Zo _,s3,gp⟩ (λj σ H4 _ ⟨_,_,_,_,_,_,_,_,s4⟩=>af.of ((tb.same s4).rw _ _ _ Ox eT)) ?_ ?_
   ·rintro j v σ H4 tt hj uA ⟨l8,y5,y6,rfl,xR,e4,hjk,s4,dD⟩;obtain⟨z,rfl,ez⟩:=Aw hj;have xu:j<k:=by have:=(ZL.mp ez).1;omega
    have ec:cell T' x.1 j=z:=getD_some ez;have s5:aa H (upd H4 tt (.tup [.int j,oV z])):=s4.fE uA;have pR:aa H1 (upd H4 tt (.tup [.int j,oV z])):=dD.fE uA;have pS:Tl (upd H4 tt (.tup [.int j,oV z])) l l8:=xR.same ((aa.refl H4).upd uA);refine⟨tt,_,rfl,bt.of aj,rfl,_,_,rfl,_,_,rfl,rfl,?_⟩;generalize upd H4 tt (.tup [.int j,oV z])=H5 at s5 pR pS
    have ef:(List.range (j+1)).filter (gM T' (era W) x.1)=(List.range j).filter (gM T' (era W) x.1)++(if gM T' (era W) x.1 j then [j]else []):=by
     rw[List.range_succ,List.filter_append];cases h:gM T' (era W) x.1 j<;>simp[h]
    cases z with
    |none=>
     refine⟨_,rfl,rfl,_,rfl,cf ⟨l8,_,_,rfl,pS,?_,xu,s5,pR⟩⟩;have:gM T' (era W) x.1 j=false:=by unfold gM;rw[ec]
     rw[ef,this,e4];simp
    |some e=>
     have r:=hc.ok.bA _ _ _ ec;obtain⟨m,rfl⟩:∃m:Nat,e=(m:Int):=⟨e.toNat,by omega⟩;have hs:az T' x.1 ((j:Int)+1)=some (m:Int):=by unfold az;rw[if_pos (by omega),show((j:Int)+1-1).toNat=j by omega];exact ec
     have mm:m∈keys W:=cl x.1 mk _ ⟨by omega,by omega,by omega⟩ _ hs;refine⟨_,rfl,rfl,_,rfl,fD ⟨_,rfl,_,rfl,_,rfl,_,_,rfl,rfl,_,rfl,d,W,x.1,m,(j:Int)+1,rfl,fw.same s5,wi.nd,mk,mm,wi.short (by omega),λH6 s6=>⟨_,rfl,?_⟩⟩⟩;have ep:gM T' (era W) x.1 j= !used (era W) x.1 ((j:Int)+1) m:=by unfold gM;rw[ec];rfl
     have Qc:=s5.trans s6;cases hu:used (era W) x.1 ((j:Int)+1) m with
     |true=>
      refine cf ⟨l8,_,_,rfl,pS.same s6,?_,xu,Qc,pR.trans s6⟩;rw[ef,ep,hu,e4];simp
     |false=>
      refine fD ⟨_,rfl,.inl ⟨rfl,_,af.of (pS.same s6).is⟩,_,rfl,_,rfl,_,_,rfl,rfl,_,rfl,(show 3<=sizeLine by decide),λqq hq=>⟨l,_,_,rfl,rfl,by rw[ah (bj (pS.same s6).is hq)];exact(pS.same s6).is,bI ?_,?_⟩⟩
      ·have h1:=congrArg List.length e4;rw[Y0,Zn,Y0]at h1;have h2:=List.length_filter_le (gM T' (era W) x.1) (List.range j);have h3:=lle i;rw[Z4]at h2;have h4:i*k<=700*5:=Nat.mul_le_mul (by omega) k5;rw[Y0];omega
      ·refine⟨l8++[(qq,[(x.1:Int),(j:Int)+1,(m:Int)])],_,_,rfl,aab _ (pS.same s6) hq,?_,xu,(Qc.fE hq).upd fl,((pR.trans s6).fE hq).upd hl⟩;rw[Zd,ef,ep,hu,e4];simp only[Bool.not_false,if_true,Zd,Zq,List.map_nil,ZZ];unfold oU;rw[ec];rfl
   ·rintro σ H4 ⟨l8,y5,y6,rfl,xR,e4,_,s4,dD⟩;refine⟨l8,_,_,_,rfl,xR,?_,s4,dD⟩;rw[Y0,aem]at e4;have DR:i<(keys W).length:=(ZL.mp D0).1;rw[e4,Zi DR];unfold eP;rw[List.flatMap_append];have:(keys W)[i]=x.1:=(ZL.mp D0).2;rw[this];simp[lD]
  ·rintro σ H3 ⟨ps,x4,x5,x6,rfl,tl,nZ,s3,gp⟩;refine⟨_,rfl,q l ps H3 fl tl ?_ s3⟩;rw[nZ];have:(dC W).length=(keys W).length:=by simp[dC,keys]
   rw[this,List.take_length]
def uS:aN ["ways","passage","chamber","kind","there"] ["ways","passage"] (aF zk):=aQ
def aaG{f:Addr}{fd:FuncData}(F:aJ K "home_row" "home_row" zk f fd)(TUR:ba P w K mg base "turned" ["way"] 1 (Mt K)):aB P w K mg base aM 2 f fd ["ways","passage"] MS:=by
 refine F.ok uS (λvs H Q E h=>?_) (λaw A outer s H vs Q E hr h=>?_)
 ·obtain⟨d,t,W,c,e,κ,rfl,_⟩:=h
  rfl
 ·obtain⟨d,t,W,c,e,κ,rfl,fw,nd,ht,hc,he,hl,q⟩:=h;have de:=oJ hr;obtain⟨a,ga,ia⟩:=fw.get nd hc
  have la:∀x,(way (era W) x).length<=1000:=λx=>by
   unfold way;cases z:(era W).find? (λp=>p.1==x)with
   |none=>simp
   |some p=>
    obtain⟨p',nF,rfl⟩:=Zg.mp (List.mem_of_find?_eq_some z);exact hl p' nF
  refine⟨_,(@sC _ _ _ _ _ (jB (pv 1) (gU rfl (bX (a7 (i:=2) uS.nd rfl (Or.inl rfl)) (bX (a7 (i:=3) uS.nd rfl (Or.inl rfl)) (bX (a7 (i:=4) uS.nd rfl (Or.inl rfl)) gS)))))
   (@sO _ _ _ (@sR _ _ _ _ (aH kS (aH kS (ka de (pv 0) (pv 2) (λ_ _=>rfl)) (@eL _ _ _ _ (@aC _ _ _ _ _ (pv 3) ae (by rfl)))) (TUR.pe hr (@aC _ _ _ _ _ (ka de (pv 0) (pv 4) (λ_ _=>rfl)) ae (by rfl))))))),?_⟩
  refine⟨_,rfl,t,_,rfl,bt.of ht,rfl,_,_,rfl,_,_,rfl,_,_,rfl,rfl,?_⟩;refine⟨_,rfl,_,rfl,d,_,rfl,ga,_,rfl,jD [κ] λp1 H1 hJ DV s1=>?_⟩;have l1:=la c;have l2:=la e;refine qG (s1.ints ia) DV (by simp;omega) λp2 H2 iP uD s2=>?_;have bu:=s1.trans s2;obtain⟨b,gb,ib⟩:=(fw.same bu).get nd he;refine⟨_,rfl,_,rfl,d,_,rfl,gb,b,_,rfl,af.of ib,by omega,λp3 H3 PD DX s3=>?_⟩;refine qG (s3.ints uD) DX (by simp;omega) λp4 H4 xH DY s4=>q p4 H4 ((bu.trans s3).free xH) ?_ ((bu.trans s3).trans s4);exact DY
def Km:aN ["chart","ways"] ["chart"] (aF AJ):=aQ
def XG{f C:Addr}{fd:FuncData}(F:aJ K "homes" "homes" AJ f fd)(WF:ba P w K mg base "ways_from" ["chart","base"] 4 (Ba C))(LP:ba P w K mg base "loose_passages" ["chart","ways"] 3 (Lv C))(HR:ba P w K mg base "home_row" ["ways","passage"] 2 MS):
  aB P w K mg base aM 5 f fd ["chart"] (Lw C):=by
 refine F.ok Km (λvs H Q E h=>?_) (λaw A outer s H vs Q E hr h=>?_)
 ·obtain⟨g,k,n,T',fp,rfl,_⟩:=h
  rfl
 ·obtain⟨g,k,n,T',fp,rfl,hc,q⟩:=h;have n7:=hc.n7;have k5:=hc.k5
  refine⟨_,(@sC _ _ _ _ _ (b9 (i:=1) Km.nd rfl (Or.inr rfl) (WF.pe hr (aq (pv 0) (aq ak ae))))
   (@sO _ _ _ (@sR _ _ _ _ (jy ["ways"] [1] (b8 (LP.pe hr (aq (pv 0) (aq (pv 1) ae)))) (λC s H fp=>HR.pe hr (aq (pv 1) (aq (pv 0) ae))) (jK rfl))))),?_⟩
  refine⟨_,rfl,g,k,n,T',fp,0,rfl,hc,hc.n1,λd W H1 hd fw wi eW s1=>?_⟩;have ek:keys W=met T' k n 0:=by rw[<-qo,eW,j7]
  have cl:=(cL hc.ok (k:=k) (base:=0) hc.n1).2.2;rw[<-ek]at cl;refine⟨_,rfl,_,rfl,g,d,k,n,T',fp,W,rfl,hc.same s1,fw,wi,eW,λl ps H2 hl tl nZ s2=>?_⟩;refine⟨l,rfl,⟨_,af.of tl.is⟩,UY (xs:=ps.map λp=>V.ref p.1) ((bw T' k n).map λr=>r.map some) (af.of tl.is) ?_ ?_ (λi x r hi eN H3 s3 Q' q'=>?_) λD as H3 N3=>?_⟩
  ·unfold bw;rw[<-nZ];simp
  ·rw[Y0];have h1:=congrArg List.length nZ;rw[Y0]at h1;rw[h1];unfold eP
   have gen:∀O:List Nat,(O.flatMap (lD T' (bF T' k n 0) k)).length<=O.length*k:=λO=>by
    induction O with
    |nil=>simp
    |cons a O ih=>
     rw[List.flatMap_cons,Zn,ZF,Nat.add_mul]
     have:(lD T' (bF T' k n 0) k a).length<=k:=by
      unfold lD;rw[Y0];have:=List.length_filter_le (gM T' (bF T' k n 0) a) (List.range k);simpa using this
     omega
   have h2:=gen (met T' k n 0);have h3:=eE.len (cL hc.ok (k:=k) (base:=0) hc.n1).1;have h4:(met T' k n 0).length*k<=700*5:=Nat.mul_le_mul (by omega) k5;omega
  ·obtain⟨p,rfl,ep⟩:=qx hi;have mp:p.2∈eP T' k (bF T' k n 0) (met T' k n 0):=by rw[<-nZ];exact Zg.mpr ⟨p,Y5 ep,rfl⟩
   obtain⟨c,j,e,et,uo,hj,ec,_⟩:=qA mp;have r0:=hc.ok.bA _ _ _ ec;obtain⟨m,rfl⟩:∃m:Nat,e=(m:Int):=⟨e.toNat,by omega⟩;rw[<-ek]at uo;have hs:az T' c ((j:Int)+1)=some (m:Int):=by unfold az;rw[if_pos (by omega),show((j:Int)+1-1).toNat=j by omega];exact ec
   have mm:m∈keys W:=cl c uo _ ⟨by omega,by omega,by omega⟩ _ hs;have ht:=(tl.same s3).tp p (Y5 ep);rw[et]at ht;refine⟨_,rfl,_,rfl,d,p.1,W,c,m,(j:Int)+1,rfl,fw.same (s2.trans s3),wi.nd,ht,uo,mm,wi.short (by omega),λl4 H4 DC nY s4=>q' l4 H4 DC ?_ s4⟩
   have er:r=(kz (bF T' k n 0) p.2).map some:=by
    unfold bw at eN;rw[Ze,Ze]at eN;have e1:(eP T' k (bF T' k n 0) (met T' k n 0))[i]?=some p.2:=by rw[<-nZ,Ze,ep];rfl
    rw[e1]at eN;exact(Zf eN).symm
   rw[er,et, <-eW];exact Xb nY
  ·obtain⟨ps3,e1,e2,nX⟩:=ac2 N3;have bu:=s1.trans s2;refine q D ps3 H3 (bu.free N3.ft) (λp hp=>bu.free (N3.fa p.1 (by rw[<-e2];exact Zg.mpr ⟨p,hp,rfl⟩))) (by rw[e2];exact N3.nd) nX e1 (bu.trans N3.sm)
def NL:(["number","chamber"]:List Str).Nodup:=by decide+kernel
def yO:aN ["chart","order","table","numbers"] ["chart","order"] (aF yU):=aQ
def acb{f C:Addr}{fd:FuncData}(F:aJ K "renumbered" "renumbered" yU f fd)(T:Txt K mg)(TC:lA K mg C)(TB:cz P w K mg base C "table" ["self"] 2 (vN C))(CH:kE P w K mg base C "Chart" ["self","kinds","table"] 2 (A5 C)):
  aB P w K mg base aM 4 f fd ["chart","order"] (BD C):=by
 refine F.ok yO (λvs H Q E h=>?_) (λaw A outer s H vs Q E hr h=>?_)
 ·obtain⟨g,la,k,n,T',fp,ord,rfl,_⟩:=h
  rfl
 ·obtain⟨g,la,k,n,T',fp,ord,rfl,hc,io,nd,lt,ne,q⟩:=h;have de:=oJ hr;obtain⟨dx,lo,li,as,bs,I,uB,hg,_⟩:=id hc.ob
  refine⟨_,(@sC _ _ _ _ _ (b9 (i:=2) yO.nd rfl (Or.inr rfl) (TB.dO hr (pv 0)))
   (@sC _ _ _ _ _ (b9 (i:=3) yO.nd rfl (Or.inr rfl) (U8 ["number","chamber"] de (vz rfl T.enum vy (aq (pv 1) ae)) (λC s H fp=>pgt K (n:=2) rfl rfl (bX (a7 (i:=0) NL rfl (Or.inl rfl) (.inr rfl)) (bX (a7 (i:=1) NL rfl (Or.inl rfl) (.inr rfl)) gS))) (λC s H fp=>pv 1) (λC s H fp=>pv 0) mI))
   (@sO _ _ _ (@sR _ _ _ _ (CH.pe hr (@aC _ _ _ _ _ (aW (pv 0) rfl) (@aC _ _ _ _ _ (jy ["table","numbers"] [2,3] (b8 (pv 1)) (λC s H fp=>jy ["numbers"] [2] (CW K rfl (aD (ue K rfl) (pv 1) (pv 0) (λ_ _=>rfl))) (λC2 s2 H2 pG=>WG de (pv 1) (pv 0) m1) (jK rfl)) (An rfl rfl) (k:=⟨rfl,rfl,rfl,rfl,rfl,rfl,by decide+kernel,rfl,rfl,rfl,λ_=>rfl⟩)) ae (by rfl)) (by rfl))))))),?_⟩
  have aeU:ord.length<=n:=eE.len ⟨nd,lt⟩;have n7:=hc.n7;have xl:((ord.map λ(c:Nat)=>(c:Int)).map V.int).length=ord.length:=by simp
  refine⟨_,rfl,g,dx,_,rfl,hg,gz ..,g,k,n,T',fp,rfl,hc,λt ts H1 ft Qd ndt tb s1=>?_⟩;have Qe:=s1.ints io;refine⟨_,rfl,la,rfl,⟨_,af.of Qe⟩,SS (K:=K) (xs:=(ord.map λ(c:Nat)=>(c:Int)).map V.int) (λi kvs=>kvs=gE (ord.take i)) rfl (λH' s=>af.of (s _ _ Qe)) (λi x H2 D kvs t' hi ht s2 hD eD pv nb Dj F hF=>?_) λD H2 kvs hD eD pv s2=>?_⟩
  ·obtain⟨z,rfl,ez⟩:=jA hi;rw[Ze]at ez;cases eo:ord[i]? with
   |none=>rw[eo]at ez;cases ez
   |some c=>
    rw[eo]at ez;obtain rfl:(c:Int)=z:=Zf ez;have lY:i<ord.length:=(ZL.mp eo).1;have ec:ord[i]=c:=(ZL.mp eo).2;obtain⟨x0,x1,rfl⟩:=CZ Dj;have nD:D≠t':=λz=>by rw[<-z,eD]at ht;cases ht
    refine⟨t',_,rfl,bt.of aj,rfl,_,_,rfl,_,_,rfl,rfl,?_⟩;refine⟨_,rfl,_,rfl,?_⟩;subst pv
    have fresh:c∉ord.take i:=λm=>by
     obtain⟨j,hj,ej⟩:=ZD m;rw[Zx]at hj;rw[List.getElem_take, <-ec]at ej;have:=(List.getElem_inj nd).mp ej;omega
    have lt':(ord.take i).length=i:=by rw[Zx];omega
    have pe:putK (gE (ord.take i)) (.inl (c:Int)) (V.int (i:Int))=gE (ord.take (i+1)):=by
     have:=SU fresh;rw[lt']at this;rw[this,Zi lY,ec]
    refine hF _ _ _ (gE (ord.take (i+1))) _ (gY.k (kvs:=gE (ord.take i)) (k:=.inl (c:Int)) (by rw[ah nD];exact eD) (bI (by rw[U9,lt'];omega))) (λb o eb=>?_) (by rw[aj,pe]) rfl;have b1:=s2 _ _ eb;rw[ah (λz=>by rw[z,hD]at eb;cases eb),ah (λz=>by rw[z,ht]at b1;cases b1)];exact b1
  rw[xl,List.take_length]at pv;subst pv;have bu:aa H H2:=s1.trans s2;have Qf:=tb.same s2;have kJ:=bu _ _ hg;refine⟨_,rfl,g,C,dx,_,_,rfl,kJ,TC.cl,TC.nk,wg ..,_,rfl,la,rfl,⟨_,af.of (bu.ints io)⟩,?_⟩;refine Ib (K:=K) (xs:=(ord.map λ(c:Nat)=>(c:Int)).map V.int) (λi r=>r=(a9 T' ord).getD i []) (af.of (bu.ints io)) (by rw[xl];omega) (λi x hi H4 s4 Q' q'=>?_) λlt2 bs R H4 N4 lR hR=>?_
  ·obtain⟨z,rfl,ez⟩:=jA hi;rw[Ze]at ez;cases eo:ord[i]? with
   |none=>rw[eo]at ez;cases ez
   |some c=>
    rw[eo]at ez;obtain rfl:(c:Int)=z:=Zf ez;have lY:i<ord.length:=(ZL.mp eo).1;have ec:ord[i]=c:=(ZL.mp eo).2;have rO:c<n:=lt c (Y5 eo);obtain⟨ra,era,D1,eT,hV⟩:=(Qf.same s4).at (i:=c) (by rw[hc.ok.len];exact rO);have eD4:=s4 _ _ eD;have rl:(T'.getD c []).length=k:=hc.ok.row _ (Y5 eT);have k5:=hc.k5
    let fv:V->V:=λv=>match v with|.int e=>oV (rn ord (some e))|_=>.aI
    have fo:∀o,fv (oV o)=oV (rn ord o):=λo=>by cases o<;>rfl
    refine⟨_,rfl,_,rfl,qI c (Qf.same s4) era ⟨ra,rfl,⟨_,af.of hV⟩,zg (K:=K) fv (af.of hV) (bI (by rw[Y0];omega)) (λz hz H5 Q5 s5 q5=>?_) λl H5 hl h5 s5=>q' l ((T'.getD c []).map (rn ord)) H5 hl ?_ ?_ s5⟩⟩
    ·obtain⟨o,mo,rfl⟩:=Zg.mp hz;rw[fo]at q5;have D2:=s5 _ _ eD4;refine⟨_,rfl,D,rfl,.inl ⟨_,.inl D2⟩,_,rfl,?_⟩;cases o with
     |none=>exact⟨_,dq.k (k:=.inr none) D2,by rw[Va];exact q5⟩
     |some e=>
      obtain⟨j,hj,ej⟩:=ZD mo;have r:=hc.ok.bA c j e (by unfold cell;rw[List.getD,Zc hj,ej];rfl);obtain⟨m,rfl⟩:∃m:Nat,e=(m:Int):=⟨e.toNat,by omega⟩;refine⟨_,dq.k (k:=.inl (m:Int)) D2,?_⟩;rw[Iw]
      have:oV (rn ord (some (m:Int)))=((if m∈ord then some (V.int ((ord.idxOf m:Nat):Int))else none).getD .aI):=by
       show oV (if((m:Int).toNat)∈ord then some ((ord.idxOf (m:Int).toNat:Nat):Int)else none)=_;rw[Y9];split<;>rfl
      rw[<-this];exact q5
    ·show H5 l=_;rw[h5,ZK,ZK];exact congrArg (λl=>some (HO.lst l)) (Z1 λo _=>fo o)
    ·simp[a9,List.getD,lY,ec]
  ·have eR:R=a9 T' ord:=by
    apply List.ext_getElem?;intro i;rw[xl]at lR;by_cases hi:i<ord.length
    ·have e1:R[i]?=some R[i]:=by simp[lR,hi]
     have:=hR i R[i] e1;rw[e1,this];simp[a9,List.getD,hi]
    ·rw[ZI (by omega),ZI (by simp[a9];omega)]
   subst eR;have da:=sN hc.ok nd lt
   have n1:1<=ord.length:=by
    cases ord with
    |nil=>exact absurd rfl ne
    |cons _ _=>simp
   refine λx dx nx pT nex=>?_;have sx:aa H4 (upd (upd H4 dx (.own x)) x (.ins C dx [])):=((aa.refl H4).upd pT).upd nx;refine⟨x,dx,k,ord.length,lt2,bs,a9 T' ord,rfl,aj,N4.tb.same sx,da,hc.k1,hc.k5,n1,by omega,λH5 fq uE ff kp=>⟨rfl,?_⟩⟩;have l9:aa H H4:=bu.trans N4.sm;have s5:aa H4 H5:=λb o e=>kp b o (sx b o e) λz=>by rw[z,nx]at e;cases e
   refine q x fq H5 (l9.free nx) (λa ha=>?_) uE (l9.trans s5);by_cases z:a=x
   ·rw[z];exact l9.free nx
   ·exact l9.free (sx.free (ff a ha z))
def SX:aN ["chart","base"] ["chart","base"] (aF zj):=aQ
def aaH{f C cN:Addr}{fd:FuncData}(F:aJ K "numbered" "numbered" zj f fd)(T:Txt K mg)(CC:b4 P w K mg base C "check_chamber" ["self","chamber"] 2 (MJ C cN))(WF:ba P w K mg base "ways_from" ["chart","base"] 4 (Ba C))(RE:ba P w K mg base "renumbered" ["chart","order"] 4 (BD C)):
  aB P w K mg base (bS P w) 5 f fd ["chart","base"] (Bb C cN):=by
 refine F.gL SX (λvs H Q E h=>?_) (λaw A outer s H vs Q E hr h=>?_)
 ·obtain⟨g,k,n,T',fp,b,rfl,_⟩:=h
  rfl
 ·obtain⟨g,k,n,T',fp,b,rfl,hc,q,qe⟩:=h;obtain⟨dx,lo,li,as,bs,I,uB,hg,_⟩:=id hc.ob
  refine⟨_,(@sC _ _ _ _ _ (bM (CC.pe hr (pv 0) (@aC _ _ _ _ _ (pv 1) ae (by rfl))))
   (@sO _ _ _ (@sR _ _ _ _ (RE.pe hr (@aC _ _ _ _ _ (pv 0) (@aC _ _ _ _ _ (kN (TX rfl) rfl T.list j9 (aq (WF.pe hr (aq (pv 0) (aq (pv 1) ae))) ae)) ae (by rfl)) (by rfl)))))),?_⟩
  refine⟨_,rfl,g,dx,_,rfl,hg,gz ..,_,rfl,g,k,n,T',_,b,rfl,hc,λhb=>?_,qe⟩;have q:=q hb;obtain⟨b,rfl⟩:∃m:Nat,b=(m:Int):=⟨b.toNat,by omega⟩;rw[Y9]at q;have Qg:b<n:=by omega
  refine⟨_,rfl,_,rfl,_,rfl,g,k,n,T',fp,b,rfl,hc,Qg,λd W H1 hd fw wi eW s1=>?_⟩;obtain⟨o,eo⟩:=fw.is;have ek:keys W=met T' k n b:=by rw[<-qo,eW,j7]
  refine⟨⟨d,o,dC W,rfl,eo,λl hl=>?_⟩⟩;have s2:aa H1 (upd H1 l (.lst ((dC W).map λp=>kV p.1))):=(aa.refl H1).upd hl
  have el:((dC W).map λp=>kV p.1)=((met T' k n b).map λ(c:Nat)=>(c:Int)).map V.int:=by
   rw[<-ek];simp[dC,keys,kV,ZK,Function.comp_def]
  have i2:ay (upd H1 l (.lst ((dC W).map λp=>kV p.1))) l ((met T' k n b).map λ(c:Nat)=>(c:Int)):=by
   show upd _ _ _ _=_;rw[aj,el]
  have mi:=cL hc.ok (k:=k) Qg;refine⟨g,l,k,n,T',fp,met T' k n b,rfl,(hc.same s1).same s2,i2,mi.1.nd,mi.1.lt,List.ne_nil_of_mem mi.2.1,λx fq H3 fx Qh D4 s3=>?_⟩;have D6:=s1.trans s2;exact q x fq H3 (D6.free fx) (λa ha=>D6.free (Qh a ha)) D4 (D6.trans s3)
def aaI{f C cN:Addr}{fd:FuncData}(F:aJ K "check_chamber" "Chart.check_chamber" uL f fd)(SY:mg "NoChamber"=some (.ref cN))(S0:gd K cN=true)(SZ:cz P w K mg base C "size" ["self"] 1 (qJ C)):aB P w K mg base (bS P w) 2 f fd ["self","chamber"] (MJ C cN):=by
 refine F.gL Fp (λvs H Q E h=>?_) (λaw A outer s H vs Q E hr h=>?_)
 ·obtain⟨g,k,n,T',fp,c,rfl,_⟩:=h
  rfl
 ·obtain⟨g,k,n,T',fp,c,rfl,hc,q,qe⟩:=h;obtain⟨dx,lo,li,as,bs,I,rfl,hg,_⟩:=id hc.ob;refine⟨_,(@sO _ _ _ (bo (PW.pt (gW (aV jH (pv 1) ak (aO _)) (ij (aV qL (pv 1) (SZ.dO hr (pv 0)) (aO _))))) (@sO _ _ _ (mD rfl rfl SY S0 (aq eA ae))) bx)),?_⟩;refine⟨_,rfl,_,_,rfl,rfl,_,rfl,cg (λz=>?_) λz=>⟨_,rfl,_,rfl,g,dx,_,rfl,hg,gz ..,g,k,n,T',_,rfl,hc,_,_,rfl,rfl,_,rfl,cg (λy=>?_) λy=>?_⟩⟩
  ·have z:=of_decide_eq_true z;exact⟨by decide,qe (by omega)⟩
  ·have y:=of_decide_eq_true y;exact⟨by decide,qe (by omega)⟩
  ·have z:¬c<0:=λw=>z (ZN w);have y:¬c>=n:=λw=>y (ZN w);exact q (by omega)
def Fw:aN ["chart","chamber","ends"] ["chart","chamber"] (aF yj):=aQ
def Vs{f C:Addr}{fd:FuncData}(F:aJ K "chambers_beside" "chambers_beside" yj f fd)(T:Txt K mg)(LI:ba P w K mg base "letters_in_order" ["chart"] 1 (BC C))(SE:cz P w K mg base C "step" ["self","chamber","letter"] 3 (A6 C)):
  aB P w K mg base aM 4 f fd ["chart","chamber"] (J8 C):=by
 refine F.ok Fw (λvs H Q E h=>?_) (λaw A outer s H vs Q E hr h=>?_)
 ·obtain⟨g,k,n,T',fp,c,rfl,_⟩:=h
  rfl
 ·obtain⟨g,k,n,T',fp,c,rfl,hc,cn,q⟩:=h;obtain⟨dx,lo,li,as,bs,I,uB,hg,_⟩:=id hc.ob;have k5:=hc.k5
  refine⟨_,(@sC _ _ _ _ _ (zP 2 ["chamber","chart"] [1,0] Fw.nd (b8 (LI.pe hr (aq (pv 0) ae))) (λC s H fp=>SE.pe hr (pv 2) (aq (pv 1) (aq (pv 0) ae))) (An rfl rfl))
   (@sO _ _ _ (@sR _ _ _ _ (zr [] [] (b8 (pv 2)) (λC s H fp=>aV kQ (pv 0) eu (aO _)) (λC s H fp=>pv 0) mI)))),?_⟩
  refine⟨_,rfl,g,k,n,T',fp,rfl,hc,λD H1 hD iD s1=>?_⟩
  let fv:V->V:=λz=>match z with
   |.int l=>oV (az T' c l)
   |_=>.aI
  have ll:=JI k;refine⟨D,rfl,⟨_,af.of iD⟩,IC (K:=K) fv (af.of iD) (by rw[Y0,ll];omega) (λz hz H2 Q2 s2 q2=>?_) λD3 H3 xj h3 s3=>?_⟩
  ·obtain⟨l,hl,rfl⟩:=Zg.mp hz;have bu:=s1.trans s2;exact⟨_,rfl,g,dx,_,rfl,bu _ _ hg,gz ..,_,rfl,_,rfl,g,k,n,T',fp,c,l,rfl,hc.same bu,cn,j6.mp hl,q2⟩
  ·have r3:Row H3 D3 ((lets k).map (az T' c)):=by
    show H3 D3=_;rw[h3,ZK,ZK];rfl
   refine⟨_,rfl,D3,rfl,⟨_,af.of r3⟩,RQ (λz=>z.isSome) r3 (by rw[Y0,ll];omega) (λz hz H4 Q4 s4 q4=>?_) (λz hz hp H4 Q4 s4 q4=>?_) λD5 H5 hD5 DS s5=>?_⟩
   ·refine⟨_,rfl,rfl,_,rfl,?_⟩;cases z<;>exact q4
   ·exact⟨_,rfl,q4⟩
   ·refine q D5 H5 ((s1.trans s3).free hD5) (aan ?_) (s1.trans (s3.trans s5))
    have:((lets k).map (az T' c)).filter (λz=>z.isSome)=(cV T' k c).map some:=by
     unfold cV
     induction lets k with
     |nil=>rfl
     |cons l ls ih=>
      cases e:az T' c l with
      |none=>rw[Zq,e,List.filter_cons_of_neg (by simp),ih,List.filterMap_cons_none e]
      |some d=>rw[Zq,e,List.filter_cons_of_pos rfl,ih,List.filterMap_cons_some e];rfl
    rw[<-this];exact DS
def n6:aN ["chart","beside","many","left","waiting","hair","other"] ["chart"] (aF yr):=aQ
def Sf{f C:Addr}{fd:FuncData}(F:aJ K "without_hairs" "without_hairs" yr f fd)(T:Txt K mg)(SZ:cz P w K mg base C "size" ["self"] 1 (qJ C))(CB:ba P w K mg base "chambers_beside" ["chart","chamber"] 4 (J8 C)):
  aB P w K mg base aM 5 f fd ["chart"] (Gw C):=by
 refine F.ok n6 (λvs H Q E h=>?_) (λaw A outer s H vs Q E hr h=>?_)
 ·obtain⟨g,k,n,T',fp,rfl,_⟩:=h
  rfl
 ·obtain⟨g,k,n,T',fp,rfl,hc,deg,q⟩:=h;obtain⟨dx,lo,li,as,bs,I,uB,hg,_⟩:=id hc.ob;have k5:=hc.k5;have n1:=hc.n1;have n7:=hc.n7;have ok:=hc.ok
  have hb:∀c,(cV T' k c).length<=10:=λc=>by
   have:=List.length_filterMap_le (az T' c) (lets k);rw[JI]at this;unfold cV;omega
  refine⟨_,(@sC _ _ _ _ _ (zP 1 ["chart"] [0] n6.nd (iX rfl T.range (aq (SZ.dO hr (pv 0)) ae)) (λC s H fp=>CB.pe hr (aq (pv 1) (aq (pv 0) ae))) (jK rfl))
   (@sC _ _ _ _ _ (b9 (i:=2) n6.nd rfl (Or.inr rfl) (jy [] [] (b8 (pv 1)) (λC s H fp=>cq (ad2 K rfl) (by rfl) T.len PySem.boot_len (aq (pv 0) ae)) mI))
   (@sC _ _ _ _ _ (b9 (i:=3) n6.nd rfl (Or.inr rfl) (aH AS.wr (fO (aq jF ae)) (SZ.dO hr (pv 0))))
   (@sC _ _ _ _ _ (UW 4 ["many"] [2] n6.nd (Hn rfl T.range (aq ak (aq (SZ.dO hr (pv 0)) ae))) (λC s H fp=>aV dQ (aD (ue K rfl) (pv 1) (pv 0) (λ_ _=>rfl)) ak (aO _)) (λC s H fp=>pv 0) (jK rfl))
   (@sC _ _ _ _ _ (va Zl (IY (pv 4) (λ_=>rfl)) (@sC _ _ _ _ _ (@sS _ 5 _ _ _ _ _ n6.nd rfl (Or.inl rfl) (Mg PySem.F.plainAttrs_list PySem.F.slot_list_pop PySem.F.type_list_pop Mi (pv 4)) (by rfl) (.inl rfl))
   (@sC _ _ _ _ _ (jB jF (AN (pv 3) (pv 5) set_list))
   (@sO _ _ _ (cb Zl rfl (b8 (aD aP (pv 1) (pv 5) (λ_ _=>rfl))) (a7 (i:=6) n6.nd rfl (Or.inl rfl)) (@sC _ _ _ _ _ (Yg (pv 2) (pv 6) Vc ak aba set_list)
   (@sO _ _ _ (bo (PW.pt (oz (iY (aD aP (pv 3) (pv 6) (λ_ _=>rfl))) (oz (aV vT (pv 6) ak (aO _)) (qt (aV dQ (aD aP (pv 2) (pv 6) (λ_ _=>rfl)) ak (aO _)))))) (@sO _ _ _ (bM (fz PySem.F.plainAttrs_list PySem.F.slot_list_append PySem.F.type_list_append fu (pv 4) (@aC _ _ _ _ _ (pv 6) ae (by rfl))))) bx))))))))
   (@sO _ _ _ (@sR _ _ _ _ (zr ["left"] [3] (iX rfl T.range (aq (SZ.dO hr (pv 0)) ae)) (λC s H fp=>iY (aD (ue K rfl) (pv 1) (pv 0) (λ_ _=>rfl))) (λC s H fp=>pv 0) (jK rfl))))))))),?_⟩
  refine⟨_,rfl,g,dx,_,rfl,hg,gz ..,g,k,n,T',fp,rfl,hc,_,rfl,by omega,by omega,T4 (λi=>cV T' k i) (by omega) (λi hi H2 Q2 s2 q2=>?_) λD as H1 nD hD la ha s1=>?_⟩
  ·exact⟨_,rfl,_,rfl,g,k,n,T',fp,i,by rw[Int.zero_add];rfl,hc.same s2,by omega,q2⟩
  have la:as.length=n:=by omega
  let fv:V->V:=λz=>match z with
   |.ref a=>(match H1 a with|some (.lst xs)=>.int xs.length|_=>.aI)
   |_=>.aI
  refine⟨_,rfl,D,rfl,⟨_,af.of hD⟩,IC (K:=K) fv (af.of hD) (by rw[Y0];omega) (λz hz H2 Q2 s2 q2=>?_) λMn H2 nM h2 s2=>?_⟩
  ·obtain⟨a,ma,rfl⟩:=Zg.mp hz;obtain⟨i,hi,ei⟩:=ZD ma;have ia:=ha i a (by rw[Zc hi,ei])
   have e:fv (.ref a)=.int (((cV T' k i).map V.int).length:Nat):=by
    show(match H1 a with|some (.lst xs)=>V.int xs.length|_=>.aI)=_;rw[show H1 a=_ from ia]
   exact⟨_,rfl,a,_,rfl,.inl (af.of (s2.ints ia)),e▸q2 H2 (aa.refl H2)⟩
  have im:ay H2 Mn ((List.range n).map λc=>((cV T' k c).length:Int)):=by
   show H2 Mn=_;rw[h2];congr 2;refine List.ext_getElem (by simp[la]) λi h3 h4=>?_;have hi:i<as.length:=by simpa using h3
   have ia:=ha i as[i] (by simp[hi]);simp only[List.getElem_map,List.getElem_range];show(match H1 as[i]with|some (.lst xs)=>V.int xs.length|_=>.aI)=_;rw[show H1 as[i]=_ from ia];show V.int (((cV T' k i).map V.int).length:Nat)=_;rw[Y0]
  have jQ:=hc.same (s1.trans s2);refine sF (by simp) λp Hq hp hq sp=>?_;have Qi:=(s1.trans s2).trans sp;refine⟨_,rfl,g,dx,_,rfl,Qi _ _ hg,gz ..,g,k,n,T',fp,rfl,hc.same Qi,⟨⟨p,(n:Int),[V.bl true],rfl,rfl,hq,by omega,by omega,by rw[Y9];exact Z2 (bI (by simp;omega)),λLf D7=>?_⟩⟩⟩
  have eL:(List.replicate (n:Int).toNat [V.bl true]).flatten=(List.replicate n true).map V.bl:=by
   rw[Y9,List.map_replicate,List.flatten_replicate_singleton]
  rw[eL];have iL:upd Hq Lf (.lst ((List.replicate n true).map V.bl)) Lf=some (.lst ((List.replicate n true).map V.bl)):=aj;have s3:aa H2 (upd Hq Lf (.lst ((List.replicate n true).map V.bl))):=sp.upd (sp.free D7)
  have Qj:Lf≠Mn:=λz=>by
   have:=sp.free D7;rw[z,show H2 Mn=_ from im]at this;cases this
  have nL1:H1 Lf=none:=(s2.trans sp).free D7;generalize upd Hq Lf (.lst ((List.replicate n true).map V.bl))=H3 at iL s3;have rR:=(s1.trans s2).trans s3;have xS:=s3.ints im;generalize em:((List.range n).map λc=>((cV T' k c).length:Int))=dz at im xS;have lm0:dz.length=n:=by rw[<-em];simp
  refine⟨_,rfl,g,dx,_,rfl,rR _ _ hg,gz ..,g,k,n,T',fp,rfl,hc.same rR,_,_,rfl,⟨by omega,by omega⟩,Gd λW hW=>⟨λi ys H4=>∃wt:List Int,ys=wt.map V.int/\wt.length<=i/\i<=n/\(∀x∈wt,∃c:Nat,x=(c:Int)/\c<1+i/\c<n/\c≠0/\dz.getD c 0=1)/\wt.Nodup/\(∀c:Nat,1<=c->c<1+i->dz.getD c 0=1->(c:Int)∈wt)/\H4 W=some (.lst ys)/\aa H3 H4,⟨[],rfl,Y2 _,Zo _,(λ_ z=>nomatch z),by simp,(λc c1 c2=>by omega),aj,(aa.refl H3).upd hW⟩,?_,?_,?_⟩⟩
  ·rintro i ys H4 ⟨wt,rfl,wl,li,_,_,_,h4,_⟩;exact⟨h4,bI (by rw[Y0];omega)⟩
  ·rintro i ys H4 hi ⟨wt,rfl,wl,li,hw,nd,xT,h4,s4⟩ Q1 Q0 q1 q0;have hi:i+1<n:=by omega
   refine⟨_,rfl,_,rfl,aY (1+i) (s4.ints xS) (by omega) ⟨rfl,_,rfl,cg (λz=>?_) λz=>?_⟩ (by omega)⟩
   ·have z:dz.getD (1+i) 0=1:=V.int.inj (of_decide_eq_true z);refine⟨_,rfl,q1 _ H4 h4 ⟨wt++[1+(i:Int)],by simp,by simp;omega,by omega,λx hx=>?_,?_,λc c1 c2 cm=>?_,aj,s4.upd hW⟩⟩
    ·rcases Y6.mp hx with m|m
     ·obtain⟨c,rfl,c1,c2,c3,c4⟩:=hw x m;exact⟨c,rfl,by omega,c2,c3,c4⟩
     ·exact⟨1+i,by rw[Y1.mp m];omega,by omega,by omega,by omega,z⟩
    ·refine List.nodup_append.mpr ⟨nd,by simp,λx hx y hy e=>?_⟩;obtain⟨c,rfl,c1,_⟩:=hw x hx;rw[Y1.mp hy]at e;omega
    ·by_cases e:c=1+i
     ·exact Za _ (Y1.mpr (by omega))
     ·exact Zb _ (xT c c1 (by omega) cm)
   ·exact q0 H4 ⟨wt,rfl,by omega,by omega,λx hx=>by
     obtain⟨c,rfl,c1,c2,c3,c4⟩:=hw x hx;exact⟨c,rfl,by omega,c2,c3,c4⟩,nd,(λc c1 c2 cm=>by
     by_cases e:c=1+i
     ·exact absurd (by rw[<-e,cm]) (λw:V.int (dz.getD (1+i) 0)=V.int 1=>z (ZN w))
     ·exact xT c c1 (by omega) cm),h4,s4⟩
  rintro ys H4 ⟨wt,rfl,wl,li,hw,nd,xT,h4,s4⟩
  have HI0:kY T' k n (List.replicate n true) dz wt:=kY.zero ok n1 em.symm (λx hx=>by
   obtain⟨c,rfl,_,c2,c3,c4⟩:=hw x hx;exact⟨c,rfl,c2,c3,c4⟩) nd
  have Fu0:Fu n (List.replicate n true) dz wt:=λc cn c0 _ cm=>by
   have h1:=deg c cn c0;refine xT c (by omega) (by omega) ?_;have h2:dz.getD c 0=((cV T' k c).length:Int):=by rw[<-em];simp[List.getD,cn]
   omega
  have D8:W≠Mn:=λz=>by rw[z,show H3 Mn=_ from xS]at hW;cases hW
  have D9:W≠Lf:=λz=>by rw[z,iL]at hW;cases hW
  have Qk:H1 W=none:=(s2.trans s3).free hW;have dD:aa H1 H4:=s2.trans (s3.trans s4);refine abR ?_;dsimp only;refine ac6 ?_
  refine zI (λσ Hx=>∃(b:List Bool) (many wt:List Int) (x5 x6:Option V),σ=[some (.ref g),some (.ref D),some (.ref Mn),some (.ref Lf),some (.ref W),x5,x6]/\ay Hx Mn many/\Hx Lf=some (.lst (b.map V.bl))/\ay Hx W wt/\kY T' k n b many wt/\Fu n b many wt/\lX T' k n b/\aa H1 Hx)
   (λσ Hx=>match Hx Lf with|some (.lst xs)=>xs.countP lW|_=>0) ⟨_,dz,wt,none,none,rfl,s4.ints xS,s4 _ _ iL,h4,HI0,Fu0,lX.zero,dD⟩ ?_ ?_
  ·rintro σ Hx ⟨b,many,wt,x5,x6,rfl,iM,iF,iW,HI,FU,BG,sx⟩;refine⟨_,rfl,_,.inl ⟨_,af.of iW,rfl⟩,?_⟩;rcases List.eq_nil_or_concat wt with e|⟨kH,hx,e⟩
   ·subst e;refine c6 (by simp) ?_;have xU:=s1.trans sx;refine⟨_,rfl,g,dx,_,rfl,xU _ _ hg,gz ..,g,k,n,T',fp,rfl,hc.same xU,_,rfl,by omega,by omega,Gd λR hR=>⟨λi ys H5=>ys=(((List.range i).filter (lv b)).map λ(c:Nat)=>(c:Int)).map V.int/\i<=n/\H5 R=some (.lst ys)/\aa Hx H5,⟨rfl,Zo _,aj,(aa.refl Hx).upd hR⟩,?_,?_,?_⟩⟩
    ·rintro i ys H5 ⟨rfl,li,h5,_⟩;have:=List.length_filter_le (lv b) (List.range i);rw[Z4]at this;exact⟨h5,bI (by rw[Y0,Y0];omega)⟩
    ·rintro i ys H5 hi ⟨rfl,li,h5,s5⟩ Q1 Q0 q1 q0;have hi:i<n:=by omega
     have lb:=HI.lb
     have eb:b[i]?=some (lv b i):=by
      unfold lv;rw[List.getD,Zc (by omega)];rfl
     refine⟨_,rfl,_,rfl,⟨⟨Lf,_,0+(i:Int),.bl (lv b i),rfl,rfl,af.of (s5 _ _ iF),by rw[Int.zero_add];exact kR (by rw[Ze,eb];rfl),_,rfl,cg (λz=>?_) λz=>?_⟩⟩⟩
     ·refine⟨_,rfl,q1 _ H5 h5 ⟨?_,by omega,aj,s5.upd hR⟩⟩;rw[List.range_succ,List.filter_append,List.filter_cons_of_pos z];simp
     ·refine q0 H5 ⟨?_,by omega,h5,s5⟩;rw[List.range_succ,List.filter_append,List.filter_cons_of_neg z];simp
    ·rintro ys H5 ⟨rfl,li,h5,s5⟩;exact q R b H5 (xU.free hR) h5 HI.lb HI.av HI.z (FU.done HI) BG (xU.trans s5)
   ·rw[List.concat_eq_append]at e;subst e;obtain⟨h,rfl,hn,h0,hl,hm1⟩:=HI.ww hx (Za _ (Y1.mpr rfl));refine ki (by simp) ?_;refine⟨_,rfl,.inl ⟨rfl,_,af.of iW⟩,W,_,.int h,rfl,rfl,iW,by simp,?_⟩
    have Ql:ay (upd Hx W (.lst ((kH++[(h:Int)]).map V.int).dropLast)) W kH:=by
     show upd _ _ _ _=_;rw[aj,Zd];simp
    have Qm:ay (upd Hx W (.lst ((kH++[(h:Int)]).map V.int).dropLast)) Mn many:=iM.other D8.symm;have Qn:upd Hx W (.lst ((kH++[(h:Int)]).map V.int).dropLast) Lf=some (.lst (b.map V.bl)):=by rw[ah D9.symm];exact iF
    have Qo:aa H1 (upd Hx W (.lst ((kH++[(h:Int)]).map V.int).dropLast)):=sx.upd Qk;generalize upd Hx W (.lst ((kH++[(h:Int)]).map V.int).dropLast)=H5 at Ql Qm Qn Qo;have lb:=HI.lb;refine⟨_,rfl,_,rfl,Lf,_,_,h,rfl,rfl,Qn,J9 (by rw[Y0];omega),?_⟩;have Qp:upd H5 Lf (.lst ((b.map V.bl).set h (.bl false))) Lf=some (.lst ((b.set h false).map V.bl)):=by rw[aj,List.map_set]
    have Qq:ay (upd H5 Lf (.lst ((b.map V.bl).set h (.bl false)))) Mn many:=Qm.other Qj.symm;have Qr:ay (upd H5 Lf (.lst ((b.map V.bl).set h (.bl false)))) W kH:=Ql.other D9;have xV:aa H1 (upd H5 Lf (.lst ((b.map V.bl).set h (.bl false)))):=Qo.upd nL1;generalize upd H5 Lf (.lst ((b.map V.bl).set h (.bl false)))=H6 at Qp Qq Qr xV;have rN:h<as.length:=by omega
    have iA:=ha h as[h] (by simp[rN]);refine⟨_,rfl,_,rfl,⟨⟨D,_,(h:Int),.ref as[h],rfl,rfl,af.of (xV _ _ hD),kR (by simp[rN]),?_⟩⟩⟩
    refine⟨as[h],rfl,⟨_,af.of (xV.ints iA)⟩,eU (K:=K) (a:=as[h]) (xs:=(cV T' k h).map V.int) (λi σ H7=>∃(c7 n5:List Int) (y6:Option V),σ=[some (.ref g),some (.ref D),some (.ref Mn),some (.ref Lf),some (.ref W),some (.int h),y6]/\ay H7 Mn c7/\H7 Lf=some (.lst ((b.set h false).map V.bl))/\ay H7 W n5/\fU n b h many (cV T' k h) i c7 n5/\Fu n (b.set h false) c7 n5/\aa H1 H7)
     ⟨many,kH,x6,rfl,Qq,Qp,Qr,fU.zero HI,FU.pop,xV⟩ (λi σ H7 _ ⟨_,_,_,_,_,_,_,_,_,s⟩=>af.of (s.ints iA)) ?_ ?_⟩
    ·rintro i y σ H7 hi ⟨c7,n5,y6,rfl,xW,xX,Ea,HJ,FJ,s7⟩;obtain⟨z,rfl,ez⟩:=jA hi;obtain⟨o,rfl,on⟩:=aak ok (Y5 ez);have om:o<c7.length:=by rw[HJ.lm];exact on
     have eg:c7.getD o 0=c7[o]:=by simp[List.getD,om]
     refine⟨_,rfl,_,rfl,Mn,_,o,.int c7[o],rfl,rfl,af.of xW,by simp[om],_,_,rfl,rfl,Mn,_,_,o,rfl,rfl,xW,J9 (by rw[Y0];omega),?_⟩
     have xY:ay (upd H7 Mn (.lst ((c7.map V.int).set o (.int (c7[o]-1))))) Mn (c7.set o (c7.getD o 0-1)):=by
      show upd _ _ _ _=_;rw[aj,eg,List.map_set]
     have xZ:upd H7 Mn (.lst ((c7.map V.int).set o (.int (c7[o]-1)))) Lf=some (.lst ((b.set h false).map V.bl)):=by rw[ah Qj];exact xX
     have ya:ay (upd H7 Mn (.lst ((c7.map V.int).set o (.int (c7[o]-1))))) W n5:=Ea.other D8;have s8:aa H1 (upd H7 Mn (.lst ((c7.map V.int).set o (.int (c7[o]-1))))):=s7.upd nM;generalize upd H7 Mn (.lst ((c7.map V.int).set o (.int (c7[o]-1))))=H8 at xY xZ ya s8;have S:=HJ.step ez on;have lb2:(b.set h false).length=n:=by rw[List.length_set];exact lb
     have eb:(b.set h false)[o]?=some (lv (b.set h false) o):=by
      unfold lv;rw[List.getD,Zc (by omega)];rfl
     refine⟨_,rfl,_,rfl,⟨⟨Lf,_,(o:Int),.bl (lv (b.set h false) o),rfl,rfl,af.of xZ,kR (by rw[Ze,eb];rfl),?_⟩⟩⟩
     have no:∀{x6':Option V},¬(lv (b.set h false) o=true/\o≠0/\c7.getD o 0-1=1)->∃(BM Eb:List Int) (y2:Option V),[some (V.ref g),some (.ref D),some (.ref Mn),some (.ref Lf),some (.ref W),some (.int h),x6']=[some (V.ref g),some (.ref D),some (.ref Mn),some (.ref Lf),some (.ref W),some (.int h),y2]/\ay H8 Mn BM/\H8 Lf=some (.lst ((b.set h false).map V.bl))/\ay H8 W Eb/\fU n b h many (cV T' k h) (i+1) BM Eb/\Fu n (b.set h false) BM Eb/\aa H1 H8:=
      λ{_} nn=>⟨_,n5,_,rfl,xY,xZ,ya,S,FJ.step om nn,s8⟩
     refine⟨_,rfl,cg (λz1=>?_) λz1=>cf (no λw=>z1 w.1)⟩;refine⟨_,rfl,rfl,_,rfl,cg (λz2=>?_) λz2=>cf (no λw=>z2 (by simp[w.2.1]))⟩;have o0:o≠0:=λw=>by subst w;simp at z2
     refine⟨_,rfl,_,rfl,aY o xY (by rw[List.length_set];exact om) ⟨rfl,_,rfl,cg (λz3=>?_) λz3=>no λw=>z3 (ZN (by rw[oh om,if_pos rfl,w.2.2]))⟩⟩;have z3:(c7.set o (c7.getD o 0-1)).getD o 0=1:=V.int.inj (of_decide_eq_true z3);rw[oh om,if_pos rfl]at z3;have wl:=HJ.len;refine⟨_,rfl,.inl ⟨rfl,_,af.of ya⟩,_,rfl,W,_,_,rfl,rfl,ya,bI (by rw[Y0];omega),?_⟩;exact⟨_,n5++[(o:Int)],_,rfl,xY.other D8.symm,by rw[ah D9.symm];exact xZ,ay.snoc,HJ.more ez on z1 o0 z3,FJ.more om,s8.upd Qk⟩
    ·rintro σ H7 ⟨c7,n5,y6,rfl,xW,xX,Ea,HJ,FJ,s7⟩;rw[Y0]at HJ;refine⟨⟨_,_,_,_,_,rfl,xW,xX,Ea,fU.done ok n1 HI HJ,FJ,BG.step h0 (by have:=HI.ct h hn hl;omega),s7⟩,?_⟩;rw[show H7 Lf=_ from xX,show Hx Lf=_ from iF];exact LF hl
  ·rintro σ H Q Q' hq ⟨v,hv,k,t,q⟩;exact⟨v,hv,k,t,hq _ _ q⟩
def LX:aN ["chart","whole"] ["chart"] (aF Bf):=aQ
def Vt{f C cN:Addr}{fd:FuncData}(F:aJ K "core" "core" Bf f fd)(NB:lO P w K mg base "numbered" ["chart","base"] 5 (Bb C cN))(RE:ba P w K mg base "renumbered" ["chart","order"] 4 (BD C))(WHS:ba P w K mg base "without_hairs" ["chart"] 5 (Gw C)):
  aB P w K mg base aM 6 f fd ["chart"] (Kg C):=by
 refine F.ok LX (λvs H Q E h=>?_) (λaw A outer s H vs Q E hr h=>?_)
 ·obtain⟨g,k,n,T',fp,rfl,_⟩:=h
  rfl
 ·obtain⟨g,k,n,T',fp,rfl,hc,q⟩:=h
  refine⟨_,(@sC _ _ _ _ _ (@sS _ 1 _ _ _ _ _ LX.nd rfl (Or.inl rfl) (NB.dO hr (@aC _ _ _ _ _ (pv 0) (@aC _ _ _ _ _ ak ae (by rfl)) (by rfl))) (by rfl) (.inl rfl))
   (@sO _ _ _ (@sR _ _ _ _ (NB.dO hr (@aC _ _ _ _ _ (RE.pe hr (@aC _ _ _ _ _ (pv 1) (@aC _ _ _ _ _ (WHS.pe hr (@aC _ _ _ _ _ (pv 1) ae (by rfl))) ae (by rfl)) (by rfl))) (@aC _ _ _ _ _ ak ae (by rfl)) (by rfl)))))),?_⟩
  have n1:=hc.n1;have z0:(0:Int)<=0/\(0:Int)<n:=by omega
  refine⟨_,rfl,g,k,n,T',fp,0,rfl,hc,λ_ x fq H1 fx Qh jZ s1=>?_,λz=>absurd z0 z⟩;have m1:=jZ.n1;refine⟨_,rfl,_,rfl,x,k,_,_,fq,rfl,jZ,aar hc.ok n1,λl b H2 nl il lb av zb cl big s2=>?_⟩;refine⟨x,l,k,_,_,fq,je _ b,rfl,jZ.same s2,il,Ab _ b,vj,λz=>?_,λx2 mf H3 fx2 aeV jQ s3=>?_⟩
  ·have:=zh m1 zb;rw[z]at this;cases this
  have m2:=jQ.n1;refine⟨x2,k,_,_,mf,0,rfl,jQ,λ_ x3 fq3 H4 fx3 aen D4 s4=>?_,λz=>absurd ⟨by omega,by omega⟩ z⟩;have rR:=s1.trans (s2.trans s3);exact q x3 fq3 _ b H4 (rR.free fx3) (λa ha=>rR.free (aen a ha)) D4 ⟨lb,zb,cl,big⟩ av (rR.trans s4)
def Ub:aN ["end"] ["end"] (aF zE):=aQ
def Vu{f:Addr}{fd:FuncData}(F:aJ K "word_of" "word_of" zE f fd)(T:Txt K mg)(TH:BJ mg):aB P w K mg base aM 1 f fd ["end"] Kd:=by
 refine F.ok Ub (λvs H Q E h=>?_) (λaw A outer s H vs Q E hr h=>?_)
 ·obtain⟨x,rfl,_⟩:=h
  rfl
 ·obtain⟨x,rfl,ho,q⟩:=h;obtain⟨tu,hun⟩:=TH.un
  refine⟨_,(@sC _ _ _ _ _ (bo (aV AQ (pv 0) eu (aO _)) (@sO _ _ _ (@sR _ _ _ _ (gR (v:=.str "-") rfl hun ⟨_,rfl⟩))) bx)
   (@sO _ _ _ (@sR _ _ _ _ (kN Sb rfl T.str abp (@aC _ _ _ _ _ (pv 0) ae (by rfl)))))),?_⟩
  rcases ho with rfl|⟨m,rfl,hm⟩
  ·exact⟨_,rfl,rfl,_,rfl,ki rfl q⟩
  ·refine⟨_,rfl,rfl,_,rfl,c6 (ZO (λz=>nomatch z)) ⟨_,rfl,(m:Int),rfl,zA (by omega),q⟩⟩
def zo:aN ["chart","rows","ends"] ["chart"] (aF zD):=aQ
def Uc{f C:Addr}{fd:FuncData}(F:aJ K "written" "written" zD f fd)(T:Txt K mg)(TC:lA K mg C)(TH:BJ mg)(SZ:cz P w K mg base C "size" ["self"] 1 (qJ C))(TB:cz P w K mg base C "table" ["self"] 2 (vN C))(WO:ba P w K mg base "word_of" ["end"] 1 Kd):
  aB P w K mg base aM 3 f fd ["chart"] (IJ C):=by
 refine F.ok zo (λvs H Q E h=>?_) (λaw A outer s H vs Q E hr h=>?_)
 ·obtain⟨g,k,n,T',fp,rfl,_⟩:=h
  rfl
 ·obtain⟨g,k,n,T',fp,rfl,hc,q⟩:=h;obtain⟨th,hhd⟩:=TH.hd;have k1:=hc.k1;have k5:=hc.k5;have n1:=hc.n1;have n7:=hc.n7;have ok:=hc.ok;have nQ:=ok.nQ (by omega);obtain⟨dx,lo,li,as,bs,I,uB,hg,_⟩:=id hc.ob
  refine⟨_,(@sC _ _ _ _ _ (@sS _ 1 _ _ _ _ _ zo.nd rfl (Or.inl rfl) (@eL _ _ _ _ (@aC _ _ _ _ _ (abT (gR (v:=.str "chart") rfl hhd ⟨_,rfl⟩) (aW (pv 0) rfl) (SZ.dO hr (pv 0))) ae (by rfl))) (by rfl) (.inl rfl))
   (@sC _ _ _ _ _ (cb Zl rfl (b8 (TB.dO hr (pv 0))) (a7 (i:=2) zo.nd rfl (Or.inl rfl)) (@sO _ _ _ (bM (fz PySem.F.plainAttrs_list PySem.F.slot_list_append PySem.F.type_list_append fu (pv 1) (@aC _ _ _ _ _ (fz PySem.F.plainAttrs_str PySem.F.slot_str_join PySem.F.type_str_join KH eA (@aC _ _ _ _ _ (jy [] [] (b8 (pv 2)) (λC s H fp=>WO.pe hr (aq (pv 0) ae)) mI) ae (by rfl))) ae (by rfl))))))
   (@sO _ _ _ (@sR _ _ _ _ (fz PySem.F.plainAttrs_str PySem.F.slot_str_join PySem.F.type_str_join KH eA (@aC _ _ _ _ _ (pv 1) ae (by rfl))))))),?_⟩
  refine⟨_,rfl,by decide+kernel,by decide+kernel,?_⟩;refine⟨_,rfl,g,C,dx,_,_,rfl,hg,TC.cl,TC.nk,wg ..,_,rfl,by omega,by decide+kernel,?_⟩;refine⟨_,rfl,g,dx,_,rfl,hg,gz ..,g,k,n,T',fp,rfl,hc,_,rfl,by omega,jE (by show 1<=1000;decide) λlr H1 f1 h1 s1=>?_⟩;have eS:=s1 _ _ hg;have jZ:=hc.same s1;refine⟨_,rfl,g,dx,_,rfl,eS,gz ..,g,k,n,T',fp,rfl,jZ,λt ts H2 ft Qd nd tb s2=>?_⟩;have lT:=ok.len;have Qs:∀r∈T',r.length<=5:=λr hr=>by rw[ok.row r hr];exact k5
  have L0:Ln H H2 lr (jf k T'.length::(T'.take 0).map line):=⟨f1,by rw[lT];exact s2 _ _ h1,s1.trans s2⟩;have nl:lr≠t:=λz=>by rw[z,ft]at h1;cases h1
  have nls:lr∉ts:=λz=>by rw[Qd _ z]at h1;cases h1
  refine⟨t,rfl,⟨_,af.of tb.is⟩,eU (K:=K) (a:=t) (xs:=ts.map V.ref) (λi σ H3=>∃x2:Option V,σ=[some (.ref g),some (.ref lr),x2]/\Ln H H3 lr (jf k T'.length::(T'.take i).map line)/\Tb H3 t ts T') ⟨_,rfl,L0,tb⟩ (λi σ H3 _ ⟨_,_,_,uF⟩=>af.of uF.is) ?_ ?_⟩
  ·rintro i x σ H3 hi ⟨x2,rfl,L3,uF⟩;have lY:i<T'.length:=by rw[<-tb.len];have:=(ZL.mp hi).1;rwa [Y0]at this
   obtain⟨ra,era,D1,eT,hV⟩:=uF.at lY;have ex:x=.ref ra:=by rw[Ze,era]at hi;exact(Zf hi).symm
   subst ex;have mT:=Y5 eT;have er:=nQ _ mT;refine⟨_,rfl,.inl ⟨rfl,_,af.of L3.is⟩,rfl,_,rfl,ra,rfl,⟨_,af.of hV⟩,?_⟩;refine zg (K:=K) fW (af.of hV) (bI (by rw[Y0,ok.row _ mT];omega)) (λz hz H5 Q5 s5 q5=>?_) λl H5 hl h5 s5=>?_
   ·obtain⟨o,mo,rfl⟩:=Zg.mp hz;rw[NH]at q5;exact⟨_,rfl,o,rfl,er o mo,q5⟩
   ·rw[abU]at h5;refine⟨_,l,_,rfl,rfl,af.of h5,ZQ (II (Qs _ mT) er) (by decide),?_⟩;obtain⟨h6,L6⟩:=L3.snoc (y:=line (T'.getD i [])) s5;refine⟨lr,_,_,rfl,rfl,h6,bI ?_,?_⟩
    ·rw[Y0,ZF,Y0,Zx];omega
    ·refine⟨_,rfl,by rw[Vm lY];exact L6,(uF.same s5).on λa ha o e=>?_⟩
     rw[ah (λz=>by
      rcases Y4.mp ha with q|q
      ·exact nl (z.symm.trans q)
      ·exact nls (z▸q))]
     exact e
  ·rintro σ H3 ⟨x2,rfl,L3,uF⟩;rw[Y0,tb.len,List.take_length]at L3;exact⟨rfl,_,rfl,_,lr,_,rfl,rfl,af.of L3.is,ZQ (Vl (by omega) (by omega) Qs nQ) (by decide),q _ L3.sm⟩
def yF:aN ["labels","numbers","label"] ["labels"] (aF yL):=aQ
def aaJ{f:Addr}{fd:FuncData}(F:aJ K "chambers_of" "chambers_of" yL f fd)(T:Txt K mg):aB P w K mg base aM 1 f fd ["labels"] MM:=by
 refine F.ok yF (λvs H Q E h=>?_) (λaw A outer s H vs Q E hr h=>?_)
 ·obtain⟨a,l,rfl,_⟩:=h
  rfl
 ·obtain⟨a,l,rfl,ha,ll,q⟩:=h;have de:=oJ hr
  refine⟨_,(@sC _ _ _ _ _ (b9 (i:=1) yF.nd rfl (Or.inr rfl) WC)
   (@sC _ _ _ _ _ (cb Zl rfl (b8 (pv 0)) (a7 (i:=2) yF.nd rfl (Or.inl rfl)) (@sO _ _ _ (bo (AM (HN de (pv 2) (pv 1)) rfl) (@sO _ _ _ (Al de (pv 1) (pv 2) (cq UL (by rfl) T.len PySem.boot_len (aq (pv 1) ae)) rfl)) bx)))
   (@sO _ _ _ (@sR _ _ _ _ (jy ["numbers"] [1] (b8 (pv 0)) (λC s H fp=>ka de (pv 1) (pv 0) (λ_ _=>rfl)) (jK rfl)))))),?_⟩
  refine λd hd=>?_;have s1:aa H (upd H d (.dK [])):=(aa.refl H).upd hd;have i1:upd H d (.dK []) d=some (.dK []):=aj;generalize upd H d (.dK [])=H1 at s1 i1;refine⟨_,rfl,a,rfl,⟨_,af.of (s1.ints ha)⟩,eU (K:=K) (a:=a) (xs:=l.map V.int) (λi σ H2=>∃(x:Option V) (kvs:List (Key×V)),σ=[some (.ref a),some (.ref d),x]/\H2 d=some (.dK kvs)/\DK kvs (eO (l.take i))/\aa H H2) ⟨none,[],rfl,i1,DK.nil,s1⟩ (λi σ H2 _ ⟨_,_,_,_,_,s2⟩=>af.of (s2.ints ha)) ?_ ?_⟩
  ·rintro i v σ H2 hi ⟨x,kvs,rfl,h2,dk,s2⟩;obtain⟨z,rfl,ez⟩:=jA hi;obtain⟨cA,ei⟩:=ZL.mp ez;have et:l.take (i+1)=l.take i++[z]:=by rw[Zi cA,ei]
   refine⟨_,rfl,_,rfl,d,_,rfl,dq.k (k:=.inl z) h2,_,rfl,?_⟩;rw[dk.at_];have kl:=Ll (l.take i);have:(l.take i).length<=l.length:=by rw[Zx];omega
   by_cases m:z∈eO (l.take i)
   ·rw[if_pos m];refine cf ⟨_,kvs,rfl,h2,?_,s2⟩;rw[et,JD,if_pos m];exact dk
   ·rw[if_neg m];refine fD ⟨_,rfl,d,kvs,rfl,h2,_,rfl,_,rfl,d,_,rfl,gY.k (k:=.inl z) h2 (bI (by rw[dk.len];omega)),?_⟩;refine⟨_,_,rfl,aj,?_,s2.upd hd⟩;rw[et,JD,if_neg m];exact dk.put m
  ·rintro σ H2 ⟨x,kvs,rfl,h2,dk,s2⟩;rw[Y0,List.take_length]at dk;refine⟨_,rfl,a,rfl,⟨_,af.of (s2.ints ha)⟩,TK (λx=>((eO l).idxOf x:Nat)) (s2.ints ha) (by omega) (λz hz H' Q' s' q'=>?_) λD H3 hD i3 s3=>q D H3 (s2.free hD) i3 (s2.trans s3)⟩;refine⟨_,rfl,_,rfl,d,_,rfl,?_,q'⟩;have g:=dq.k (k:=.inl z) (s' _ _ h2);rw[dk.at_,if_pos (show z∈eO l from vC l [] z hz)]at g;exact g
def Rp:aN ["self"] ["self"] (aF yt):=aQ
def Vv{f C:Addr}{fd:FuncData}(F:aJ K "labels" "Survey.labels" yt f fd)(aK:fG K mg C)(FO:ba P w K mg base "folded" ["marks","rows","start"] 6 sM)(RW:ba P w K mg base "rows_of" ["entries"] 1 sr):aB P w K mg base aM 7 f fd ["self"] (JF C):=by
 refine F.ok Rp (λvs H Q E h=>?_) (λaw A outer s H vs Q E hr h=>?_)
 ·obtain⟨g,lh,B,rest,rfl,_⟩:=h
  rfl
 ·obtain⟨g,lh,B,rest,rfl,hB,q⟩:=h;obtain⟨dx,ls,hg,he⟩:=id hB.ob;have d0:=hB.d0;have fJ:=hB.fJ;refine⟨_,(@sO _ _ _ (@sR _ _ _ _ (aD cD (FO.pe hr (@aC _ _ _ _ _ (aW (pv 0) rfl) (@aC _ _ _ _ _ (RW.pe hr (@aC _ _ _ _ _ (aW (pv 0) rfl) ae (by rfl))) (@aC _ _ _ _ _ (fO ae) ae (by rfl)) (by rfl)) (by rfl))) ak (λ_ _=>rfl)))),?_⟩;refine⟨_,rfl,g,C,dx,_,_,rfl,hg,aK.cl,aK.nn,ku ..,_,rfl,g,C,dx,_,_,rfl,hg,aK.cl,aK.ns,lC ..,ls,rest,B.es,rfl,he,by omega,λr1 nV H2 PH t1 e1 s2=>?_⟩;refine jE (by show 0<=1000;decide) λl6 H6 hl6 i6 s6=>?_;have l1:=qj e1;have:=r9 B.es;refine⟨B.n,r1,l6,nV,[],rfl,t1.same s6,⟨i6,(λ_ z=>nomatch z)⟩,ve e1 (mB hB.k5 hB.ok),(λ_ z=>nomatch z),by omega,by omega,by simp,λt7 la lp sp l H7 h7 i7 tl7 fL hp cp _ _ s7=>?_⟩;rw[e1]at fL;have el:l=B.ax:=fL.eq;have ll:l.length=B.n:=fL.1.ax.len;rw[el]at i7 ll fL;exact cI h7 rfl (q la H7 i7 ll fL (s2.trans (s6.trans s7)))
def Rf:aN ["self"] ["self"] (aF ym):=aQ
def S1{f C:Addr}{fd:FuncData}(F:aJ K "chambers" "Survey.chambers" ym f fd)(LAB:cz P w K mg base C "labels" ["self"] 7 (JF C))(CHO:ba P w K mg base "chambers_of" ["labels"] 1 MM):aB P w K mg base aM 8 f fd ["self"] (GU C):=by
 refine F.ok Rf (λvs H Q E h=>?_) (λaw A outer s H vs Q E hr h=>?_)
 ·obtain⟨g,lh,B,rest,rfl,_⟩:=h
  rfl
 ·obtain⟨g,lh,B,rest,rfl,hB,q⟩:=h;obtain⟨dx,ls,hg,he⟩:=id hB.ob;have d0:=hB.d0;refine⟨_,(@sO _ _ _ (@sR _ _ _ _ (CHO.pe hr (@aC _ _ _ _ _ (LAB.dO hr (pv 0)) ae (by rfl))))),?_⟩;refine⟨_,rfl,g,dx,_,rfl,hg,rfl,g,lh,B,rest,rfl,hB,λp H1 ip ll fL s1=>?_⟩;exact⟨p,B.ax,rfl,ip,by omega,λp2 H2 iP uD s2=>q p2 H2 (s1.free iP) uD ll fL (s1.trans s2)⟩
def n8:aN ["kinds","chambers","rows","size","table","number","a","kind","b"] ["kinds","chambers","rows"] (aF zm):=aQ
def Ud{f C:Addr}{fd:FuncData}(F:aJ K "chart_of" "chart_of" zm f fd)(T:Txt K mg)(TM:wD mg)(CH:kE P w K mg base C "Chart" ["self","kinds","table"] 2 (A5 C)):aB P w K mg base aM 4 f fd ["kinds","chambers","rows"] (Iy C):=by
 refine F.ok n8 (λvs H Q E h=>?_) (λaw A outer s H vs Q E hr h=>?_)
 ·obtain⟨k,m,lc,lr,ch,ps,rfl,_⟩:=h
  rfl
 ·obtain⟨k,m,lc,lr,ch,ps,rfl,hc,tl,k1,k5,ok,n7,m10,q⟩:=h
  refine⟨_,(@sC _ _ _ _ _ (@sS _ 3 _ _ _ _ _ n8.nd rfl (Or.inl rfl) (aH cY (cq (U4 rfl) (by rfl) TM.max AY (aq (aH kS (fO (aq ak ae)) (pv 1)) ae)) ak) (by rfl) (.inl rfl))
   (@sC _ _ _ _ _ (zP 4 ["kinds"] [0] n8.nd (iX rfl T.range (aq (pv 3) ae)) (λC s H fp=>aH AS.wr (fO (aq eu ae)) (pv 1)) (jK rfl))
   (@sC _ _ _ _ _ (cb Zl rfl (b8 (pv 2)) (gU rfl (bX (a7 (i:=5) n8.nd rfl (Or.inl rfl)) (bX (a7 (i:=6) n8.nd rfl (Or.inl rfl)) (bX (a7 (i:=7) n8.nd rfl (Or.inl rfl)) (bX (a7 (i:=8) n8.nd rfl (Or.inl rfl)) gS))))) (@sO _ _ _ (jB (aD aP (pv 1) (pv 8) (λ_ _=>rfl)) (AN (aD aP (pv 4) (aD aP (pv 1) (pv 6) (λ_ _=>rfl)) (λ_ _=>rfl)) (aH oA (pv 7) ak) set_list))))
   (@sO _ _ _ (@sR _ _ _ _ (CH.pe hr (@aC _ _ _ _ _ (pv 0) (@aC _ _ _ _ _ (pv 4) ae (by rfl)) (by rfl)))))))),?_⟩
  refine jD [0] λl0 H1 Dy i0 s1=>⟨_,rfl,qG i0 (s1.ints hc) (by have:=ok.len;simp;omega) λl1 H2 hl1 i1 s2=>abL i1 (by simp) λM hM Qt=>⟨_,_,rfl,rfl,?_⟩⟩
  have em:M=mx ch:=by
   refine ac3 (Qt 0 (by simp)) ?_ λi hi=>Qt i (Za _ hi);rcases Y6.mp hM with z|z
   ·exact .inl (Y1.mp z)
   ·exact .inr z
  show jG 3 (V.int (M+1)) _ _ _;rw[em, <-MY];have bu:=s1.trans s2;refine⟨_,rfl,_,rfl,by omega,by omega,zQ (n:=((nC ch:Nat):Int).toNat) (λ_=>List.replicate k none) (by omega) (λi hi H3 s3 Q' q'=>?_) λt as H3 N3=>?_⟩
  ·exact jE (by show 1<=1000;decide) λl2 H4 Cz i2 s4=>⟨_,rfl,MI (z:=none) i2 (by omega) (λp H5 hp ip s5=>q' p H5 (s4.free hp) ip (s4.trans s5))⟩
  rw[Y9]at N3
  have e0:((List.range (nC ch)).map λ_=>List.replicate k (none:Option Int))=List.replicate (nC ch) (List.replicate k none):=by
   rw[List.map_const'];simp
  rw[e0]at N3
  refine⟨_,rfl,lr,rfl,⟨_,af.of ((tl.same bu).same N3.sm).is⟩,eU (K:=K) (a:=lr) (xs:=ps.map λp=>V.ref p.1) (λi σ H4=>∃(x5 x6 x7 x8:Option V),σ=[some (.int k),some (.ref lc),some (.ref lr),some (.int (nC ch)),some (.ref t),x5,x6,x7,x8]/\dI H2 H4 t as (gq k (nC ch) ch ((ps.map (·.2)).take i)))
   ⟨none,none,none,none,rfl,N3⟩ (λi σ H4 _ ⟨_,_,_,_,_,N⟩=>af.of ((tl.same bu).same N.sm).is) ?_ ?_⟩
  ·rintro i y σ H4 hi ⟨x5,x6,x7,x8,rfl,N⟩;obtain⟨p,rfl,ep⟩:=qx hi;have hp:=Y5 ep;have ht:=((tl.same bu).same N.sm).tp p hp;have rs:(ps.map (·.2))[i]?=some p.2:=by rw[Ze,ep];rfl
   have mr:=Y5 rs;obtain⟨ro,g1,g2⟩:=ok.row p.2 mr;obtain⟨a0,a1⟩:=ok.at mr 1;have ia:=(ro.mk 1).2;have ib:=(ro.mk (-1)).2
   have ex:∃(i1:Int) (a:Nat) (kd:Int) (b:Nat),p.2=[i1,(a:Int),kd,(b:Int)]/\My.mk p.2 1=a/\My.mk p.2 (-1)=b:=by
    obtain⟨i1,a,kd,b,er,ha,hb⟩:=ro;exact⟨i1,a,kd,b,er,by rw[er];rfl,by rw[er];rfl⟩
   obtain⟨i1,a,kd,b,er,ea,eb⟩:=ex;rw[er]at ht;have gk:p.2.getD 2 0=kd:=by rw[er];rfl
   rw[ea]at ia a0 a1;rw[eb]at ib;have Qu:=(bu.trans N.sm).ints hc;have ol:=ok.len;refine⟨p.1,_,rfl,bt.of ht,rfl,_,_,rfl,_,_,rfl,_,_,rfl,_,_,rfl,rfl,?_⟩
   have hci:(ch.getD a 0).toNat<(gq k (nC ch) ch ((ps.map (·.2)).take i)).length:=by
    rw[(zZ ok i (by rw[Y0];have:=(ZL.mp ep).1;omega)).len];omega
   obtain⟨ra,era,D1,eT,hV⟩:=N.tb.at hci;have rl:((gq k (nC ch) ch ((ps.map (·.2)).take i)).getD (ch.getD a 0).toNat []).length=k:=(zZ ok i (by rw[Y0];have:=(ZL.mp ep).1;omega)).row _ (Y5 eT);refine⟨_,rfl,_,rfl,aY b Qu (by omega) ⟨_,rfl,_,rfl,_,rfl,aY a Qu (by omega) (qI (ch.getD a 0).toNat N.tb era ?_ (by omega))⟩⟩;have hkd:(kd-1).toNat<k:=by omega
   refine⟨_,rfl,_,_,rfl,rfl,ra,_,kd-1,(kd-1).toNat,rfl,rfl,hV,abM (by rw[Y0,rl];exact hkd) (by omega),⟨_,_,_,_,rfl,?_⟩⟩
   have e1:gq k (nC ch) ch ((ps.map (·.2)).take (i+1))=oW ch (gq k (nC ch) ch ((ps.map (·.2)).take i)) p.2:=by
    obtain⟨cA,ei⟩:=ZL.mp rs;rw[Zi cA,ei];unfold gq;rw[GV]
   rw[e1];unfold oW;rw[ea,eb,gk];have:=N.set era (((gq k (nC ch) ch ((ps.map (·.2)).take i)).getD (ch.getD a 0).toNat []).set (kd-1).toNat (some (ch.getD b 0)));rw[List.map_set]at this;exact this
  ·rintro σ H4 ⟨x5,x6,x7,x8,rfl,N⟩;rw[Y0, <-Y0 (f:=(·.2)),List.take_length]at N;have da:=qK ok;refine⟨_,rfl,_,rfl,λx dx nx pT nex=>?_⟩;have sx:aa H4 (upd (upd H4 dx (.own x)) x (.ins C dx [])):=((aa.refl H4).upd pT).upd nx;refine⟨x,dx,k,nC ch,t,as,_,rfl,aj,N.tb.same sx,da,k1,k5,by unfold nC;omega,n7,λH5 fq uE ff kp=>⟨rfl,?_⟩⟩;have l9:aa H H4:=bu.trans N.sm;have s5:aa H4 H5:=λb o e=>kp b o (sx b o e) λz=>by rw[z,nx]at e;cases e
   refine q x fq H5 (l9.free nx) (λa ha=>?_) uE (l9.trans s5);by_cases z:a=x
   ·rw[z];exact l9.free nx
   ·exact l9.free (sx.free (ff a ha z))
def FE:aN ["self","a","chambers"] ["self","a"] (aF yz):=aQ
def Vw{f C Cc cM cN:Addr}{fd:FuncData}(F:aJ K "piece" "Survey.piece" yz f fd)(aK:fG K mg C)(CM:b4 P w K mg base C "check_marks" ["self","a","b"] 1 (sW C cM))(CHA:cz P w K mg base C "chambers" ["self"] 8 (GU C))(RW:ba P w K mg base "rows_of" ["entries"] 1 sr)
  (COF:ba P w K mg base "chart_of" ["kinds","chambers","rows"] 4 (Iy Cc))(NB:lO P w K mg base "numbered" ["chart","base"] 5 (Bb Cc cN)):aB P w K mg base (bS P w) 9 f fd ["self","a"] (J0 C Cc cM):=by
 refine F.gL FE (λvs H Q E h=>?_) (λaw A outer s H vs Q E hr h=>?_)
 ·obtain⟨g,lh,B,rest,a,rfl,_⟩:=h
  rfl
 ·obtain⟨g,lh,B,rest,a,rfl,hB,q,qm⟩:=h;obtain⟨dx,ls,hg,he⟩:=id hB.ob;have d0:=hB.d0;have fJ:=hB.fJ
  refine⟨_,(@sC _ _ _ _ _ (bM (CM.pe hr (pv 0) (@aC _ _ _ _ _ (pv 1) (@aC _ _ _ _ _ (pv 1) ae (by rfl)) (by rfl))))
   (@sC _ _ _ _ _ (@sS _ 2 _ _ _ _ _ FE.nd rfl (Or.inl rfl) (CHA.dO hr (pv 0)) (by rfl) (.inl rfl))
   (@sO _ _ _ (@sR _ _ _ _ (NB.pe hr (@aC _ _ _ _ _ (COF.pe hr (@aC _ _ _ _ _ (aW (pv 0) rfl) (@aC _ _ _ _ _ (pv 2) (@aC _ _ _ _ _ (RW.pe hr (@aC _ _ _ _ _ (aW (pv 0) rfl) ae (by rfl))) ae (by rfl)) (by rfl)) (by rfl))) (@aC _ _ _ _ _ (aD aP (pv 2) (pv 1) (λ_ _=>rfl)) ae (by rfl)) (by rfl))))))),?_⟩
  refine⟨_,rfl,g,dx,_,rfl,hg,rfl,_,rfl,_,rfl,g,lh,B,rest,a,a,rfl,hB,λha H1 s1=>?_,λna=>qm λz=>na ⟨z,z⟩⟩;have ha:=ha.1;refine⟨_,rfl,g,dx,_,rfl,s1 _ _ hg,rfl,g,lh,B,rest,rfl,hB.same s1,λp H2 hp ip ll fL s2=>?_⟩;have bu:=s1.trans s2;have ck:=Bk.tL hB;refine⟨_,rfl,g,C,dx,_,_,rfl,bu _ _ hg,aK.cl,aK.nk,Cj ..,_,rfl,_,rfl,g,C,dx,_,_,rfl,bu _ _ hg,aK.cl,aK.ns,lC ..,ls,rest,B.es,rfl,he.same bu,by omega,λr ps H3 hr3 tl er s3=>?_⟩;have gp:=bu.trans s3;have n7:=BF B.ax;refine⟨B.k,B.n,p,r,rk B.ax,ps,rfl,s3.ints ip,tl,hB.k1,hB.k5,by rw[er];exact ck,by omega,by omega,λx fx H4 hx hfx hc s4=>?_⟩;rw[er]at hc;have hc:cj Cc H4 x B.k B.bW B.tab fx:=hc;have dD:=gp.trans s4;obtain⟨a0,a1⟩:=ha;have hb:=ck.bA ((rk B.ax).getD a.toNat 0) (getD_mem (by rw[sX,ll];omega));refine⟨_,rfl,_,rfl,aY a.toNat ((s3.trans s4).ints ip) (by rw[sX,ll];omega) ?_ (by omega)⟩;refine⟨x,B.k,B.bW,B.tab,fx,_,rfl,hc,λ_ y fq H5 hy hfq uE s5=>?_,λz=>absurd hb z⟩;exact q ⟨a0,a1⟩ y fq H5 (dD.free hy) (λb hb=>dD.free (hfq b hb)) uE (dD.trans s5)
def pY:aN ["self","a","way","b","rows","end","labels","paper","number"] ["self","a","way","b"] (aF ye):=aQ
def Vx{f C cM cK:Addr}{fd:FuncData}(F:aJ K "never_paper" "Survey.never_paper" ye f fd)(T:Txt K mg)(aK:fG K mg C)(Dx:b4 P w K mg base C "laid" ["self","a","way","b"] 2 (AA C cM cK))(FO:ba P w K mg base "folded" ["marks","rows","start"] 6 sM)(BO:ba P w K mg base "broken_oath" ["entries","labels"] 1 Bx):
  aB P w K mg base (bS P w) 7 f fd ["self","a","way","b"] (J3 C cM cK):=by
 refine F.gL pY (λvs H Q E h=>?_) (λaw A outer s H vs Q E hr h=>?_)
 ·obtain⟨g,lh,B,rest,a,b,wa,ws,rfl,_⟩:=h
  rfl
 ·obtain⟨g,lh,B,rest,a,b,wa,ws,rfl,hB,hw,wl,q,q0,qm,qk⟩:=h;obtain⟨dx,ls,hg,he⟩:=id hB.ob;have d0:=hB.d0
  refine⟨_,(@sC _ _ _ _ _ (jB (Dx.pe hr (pv 0) (@aC _ _ _ _ _ (pv 1) (@aC _ _ _ _ _ (pv 2) (@aC _ _ _ _ _ (pv 3) ae (by rfl)) (by rfl)) (by rfl))) (gU rfl (bX (a7 (i:=4) pY.nd rfl (Or.inl rfl)) (bX (a7 (i:=5) pY.nd rfl (Or.inl rfl)) gS))))
   (@sC _ _ _ _ _ (jB (FO.pe hr (@aC _ _ _ _ _ (aH cY (aW (pv 0) rfl) (cq fm (by rfl) T.len PySem.boot_len (@aC _ _ _ _ _ (pv 2) ae (by rfl)))) (@aC _ _ _ _ _ (pv 4) (@aC _ _ _ _ _ (@eL _ _ _ _ (@aC _ _ _ _ _ (cO (@aC _ _ _ _ _ (pv 5) (@aC _ _ _ _ _ (pv 3) ae (by rfl)) (by rfl))) ae (by rfl))) ae (by rfl)) (by rfl)) (by rfl))) (gU rfl (bX (a7 (i:=6) pY.nd rfl (Or.inl rfl)) (bX (a7 (i:=7) pY.nd rfl (Or.inl rfl)) gS))))
   (@sC _ _ _ _ _ (@sS _ 8 _ _ _ _ _ pY.nd rfl (Or.inl rfl) (BO.pe hr (@aC _ _ _ _ _ (aW (pv 0) rfl) (@aC _ _ _ _ _ (pv 6) ae (by rfl)) (by rfl))) (by rfl) (.inl rfl))
   (@sC _ _ _ _ _ (bo (aV AQ (pv 8) eu (aO _)) (@sO _ _ _ (@sR _ _ _ _ eu)) bx)
   (@sO _ _ _ (@sR _ _ _ _ (cO (@aC _ _ _ _ _ (pv 8) (@aC _ _ _ _ _ (pv 7) ae (by rfl)) (by rfl))))))))),?_⟩
  refine⟨_,rfl,g,dx,_,rfl,hg,rfl,_,rfl,_,rfl,_,rfl,g,lh,B,rest,a,b,wa,ws,rfl,hB,hw,wl,λhm hl t r ps H1 ht tr er s1=>?_,qm,qk⟩;refine⟨t,_,rfl,bt.of ht,rfl,_,_,rfl,_,_,rfl,rfl,?_⟩;refine⟨_,rfl,g,C,dx,_,_,rfl,s1 _ _ hg,aK.cl,aK.nn,ku ..,_,rfl,wa,_,rfl,.inl (af.of (s1.ints hw)),_,_,rfl,rfl,_,rfl,_,rfl,_,rfl,by show 2<=sizeLine;decide,λtp DB=>?_⟩;have s2:aa H1 (upd H1 tp (.tup [.int (bK B.n a ws.length),.int b])):=(aa.refl H1).upd DB;have i2:upd H1 tp (.tup [.int (bK B.n a ws.length),.int b]) tp=some (.tup [.int (bK B.n a ws.length),.int b]):=aj;generalize upd H1 tp (.tup [.int (bK B.n a ws.length),.int b])=H2 at s2 i2;refine jE (by show 1<=1000;decide) λl0 H3 Dy i3 s3=>?_;have t3:=tr.same (s2.trans s3);have en:((B.n:Int)+((ws.map V.int).length:Int))=((B.n+ws.length:Nat):Int):=by rw[Y0];rfl
  have nO:∀r∈rowsOf B.es++dH B.n a ws,c5 (B.n+ws.length) r/\1<=r.getD 2 0/\r.getD 2 0<=5:=λr eN=>by
   rcases Y6.mp eN with z|z
   ·exact mB hB.k5 (λe h=>(hB.ok e h).mono (Nat.le_add_right _ _)) r z
   ·exact zx hm.1 hB.k5 hl r z
  have eP:=qj er;have:=r9 B.es;have:=hB.fJ;rw[Zn,se]at eP;obtain⟨e0,e1⟩:=uZ hm.1 ws.length ws.length (Y2 _);obtain⟨b0,b1⟩:=hm.2;have eG:Tl H3 l0 [(tp,[bK B.n a ws.length,b])]:=⟨i3,λp hp=>by rw[Y1.mp hp];exact s3 _ _ i2⟩;refine⟨B.n+ws.length,r,l0,ps,[(tp,[bK B.n a ws.length,b])],by show [V.int ((B.n:Int)+((ws.map V.int).length:Int)),_,_]=_;rw[en],t3,eG,ve er nO,λp hp=>?_,by omega,by omega,by show 1<=1000;decide,λt4 l1 l2 sp l H4 h4 i4 xR fL hp cp _ f2 s4=>?_⟩
  ·rw[Y1.mp hp];exact⟨(bK B.n a ws.length).toNat,b.toNat,by rw[Zw e0,Zw b0],by omega,by omega⟩
  rw[er]at fL;have ll:l.length=B.n+ws.length:=fL.1.ax.len;have nv:=YW hB.ok hB.k5 hm.1 hm.2 (vG hl) fL;refine⟨t4,_,rfl,bt.of h4,rfl,_,_,rfl,_,_,rfl,rfl,?_⟩;have dD:=s1.trans (s2.trans (s3.trans s4));refine⟨_,rfl,g,C,dx,_,_,rfl,dD _ _ hg,aK.cl,aK.ns,lC ..,_,rfl,ls,l1,rest,B.es,l,B.k,rfl,he.same dD,i4,(λe h=>by rw[ll];exact(hB.ok e h).mono (Nat.le_add_right _ _)),?_⟩;cases eb:cP B.es l with
  |none=>
   exact⟨_,rfl,rfl,_,rfl,fD (q0 hm hl (λz=>nv.mpr z eb) H4 dD)⟩
  |some i=>
   refine⟨_,rfl,rfl,_,rfl,cf ⟨_,rfl,_,rfl,by show 2<=sizeLine;decide,λt5 ht5=>?_⟩⟩;exact q hm hl (nv.mp (by rw[eb];exact λz=>nomatch z)) t5 _ (dD.fE ht5)
def RA:aN ["self","a","way","b"] ["self","a","way","b"] (aF yA):=aQ
def Vy{f C cM cK:Addr}{fd:FuncData}(F:aJ K "judge" "Survey.judge" yA f fd)(TJ:Og mg)(MP:b4 P w K mg base C "must_paper" ["self","a","way","b"] 7 (AB C cM cK))(NP:b4 P w K mg base C "never_paper" ["self","a","way","b"] 7 (J3 C cM cK)):
  aB P w K mg base (bS P w) 8 f fd ["self","a","way","b"] (LC C cM cK):=by
 obtain⟨_,adf⟩:=TJ.ad6;obtain⟨_,acd⟩:=TJ.never;obtain⟨_,adg⟩:=TJ.opn;refine F.gL RA (λvs H Q E h=>?_) (λaw A outer s H vs Q E hr h=>?_)
 ·obtain⟨g,lh,B,rest,a,b,wa,ws,rfl,_⟩:=h
  rfl
 ·obtain⟨g,lh,B,rest,a,b,wa,ws,rfl,hB,hw,wl,q,qm,qk⟩:=h;obtain⟨dx,ls,hg,he⟩:=id hB.ob
  refine⟨_,(@sC _ _ _ _ _ (bo (aV kQ (MP.pe hr (pv 0) (@aC _ _ _ _ _ (pv 1) (@aC _ _ _ _ _ (pv 2) (@aC _ _ _ _ _ (pv 3) ae (by rfl)) (by rfl)) (by rfl))) eu (aO _)) (@sO _ _ _ (@sR _ _ _ _ (gR (v:=.str "must") rfl adf ⟨_,rfl⟩))) bx)
   (@sC _ _ _ _ _ (bo (aV kQ (NP.pe hr (pv 0) (@aC _ _ _ _ _ (pv 1) (@aC _ _ _ _ _ (pv 2) (@aC _ _ _ _ _ (pv 3) ae (by rfl)) (by rfl)) (by rfl))) eu (aO _)) (@sO _ _ _ (@sR _ _ _ _ (gR (v:=.str "never") rfl acd ⟨_,rfl⟩))) bx)
   (@sO _ _ _ (@sR _ _ _ _ (gR (v:=.str "open") rfl adg ⟨_,rfl⟩))))),?_⟩
  refine⟨_,rfl,g,dx,_,rfl,hg,rfl,_,rfl,_,rfl,_,rfl,g,lh,B,rest,a,b,wa,ws,rfl,hB,hw,wl,λhm hl z l2 sp ps H2 t2 er hp cp f2 s2=>?_,λhm hl z H2 s2=>?_,qm,qk⟩
  ·have z:=(IA hB hm.1 hm.2 hl).mp z;refine⟨rfl,_,rfl,fD ?_⟩;have e:wordOf B.es a ws b="must":=by unfold wordOf;rw[if_pos z]
   have:=q hm hl H2 s2;rw[e]at this;exact this
  ·have z:¬fT (rowsOf B.es) a ws b:=λy=>z ((IA hB hm.1 hm.2 hl).mpr y);refine⟨rfl,_,rfl,cf ?_⟩;refine⟨_,rfl,g,dx,_,rfl,s2 _ _ hg,rfl,_,rfl,_,rfl,_,rfl,g,lh,B,rest,a,b,wa,ws,rfl,hB.same s2,s2.ints hw,wl,λhm hl y t H3 s3=>?_,λhm hl y H3 s3=>?_,λy=>absurd hm y,λ_ y=>absurd hl y⟩
   ·refine⟨rfl,_,rfl,fD ?_⟩;have e:wordOf B.es a ws b="never":=by unfold wordOf;rw[if_neg z,if_pos y]
    have:=q hm hl H3 (s2.trans s3);rw[e]at this;exact this
   ·refine⟨rfl,_,rfl,cf ?_⟩;have e:wordOf B.es a ws b="open":=by unfold wordOf;rw[if_neg z,if_neg y]
    have:=q hm hl H3 (s2.trans s3);rw[e]at this;exact this
def mq:aN ["_law_kinds","_law_marks","_law_standing","_law_names","_law_draws","_law_other","_law_k","_law_left","_law_e","_law_ends"] ["_law_kinds","_law_marks","_law_standing","_law_names","_law_draws"] (aF jx):=aQ
def Vz{f C cF:Addr}{fd:FuncData}(F:aJ K "_law_second" "_law_second" jx f fd)(T:Txt K mg)(SV:kE P w K mg base C "Survey" ["self","kinds"] 1 (Ay C))(LB:ba P w K mg base "_law_book" ["_law_book_here","_law_kinds","_law_marks","_law_many","_law_draws"] 12 (A9 C))(DI:b4 P w K mg base C "chalk" ["self"] 1 (zS C cF))(uy:ba P w K mg base "_law_entered" ["_law_book_here","_law_entry_here"] 11 (u0 C))(RNM:ba P w K mg base "_law_renamed" ["_law_entry_here","_law_names"] 1 IE):
  aB P w K mg base aM 13 f fd ["_law_kinds","_law_marks","_law_standing","_law_names","_law_draws"] (Kh C):=by
 refine F.ok mq (λvs H Q E h=>?_) (λaw A outer s H vs Q E hr h=>?_)
 ·obtain⟨k,m,l,nn,ld,dB,es,ns,ds,rfl,_⟩:=h
  rfl
 ·obtain⟨k,m,l,nn,ld,dB,es,ns,ds,rfl,el,jY,aeo,iN,pm,hd,dl,k1,k5,m1,m8,q⟩:=h;have hu:=hr.units;have uG:(0:Int)<k:=by omega
  have Ec:(0:Int)<m:=by omega
  have nl:ns.length=m:=by rw[pm.length_eq,qp]
  have r7:∃u:TS,c8 (fC aM P w K mg base ["_law_kinds","_law_marks","_law_standing","_law_names","_law_draws","_law_other","_law_k","_law_left","_law_e","_law_ends"] "_law_second" (aF jx) f aw A outer s H E).gj ((eV jx).drop 7) u/\
    ∀(g:Addr) (n c:Nat) (x6 x7 x8 x9:Option V) (G:Hp),H g=none->OB C H G g k n c->m<=n->c<40->u {nx:=λ_ H'=>Q .aI H',rt:=Q} [some (.int k),some (.int m),some (.ref l),some (.ref nn),some (.ref ld),some (.ref g),x6,x7,x8,x9] G:=by
   refine⟨_,(@sC _ _ _ _ _ (bo (aV dQ (aH cc (aD aP (pv 4) ak (λ_ _=>rfl)) ak) ak (aO _)) (@sO _ _ _ (bM (uy.pe hr (@aC _ _ _ _ _ (pv 5) (@aC _ _ _ _ _ (cO (@aC _ _ _ _ _ eA (@aC _ _ _ _ _ (aH cc (aD aP (pv 4) ak (λ_ _=>rfl)) (pv 1)) (@aC _ _ _ _ _ (aH cY ak (aH cc (aD aP (pv 4) ak (λ_ _=>rfl)) (pv 0))) (@aC _ _ _ _ _ (aH cc (aD aP (pv 4) ak (λ_ _=>rfl)) (pv 1)) ae (by rfl)) (by rfl)) (by rfl)) (by rfl))) ae (by rfl)) (by rfl))))) bx)
   (@sO _ _ _ (@sR _ _ _ _ (pv 5)))),?_⟩
   intro g n c x6 x7 x8 x9 G hg ob mn Pm
   have fin:∀G',OB C H G' g k n (c+1)->Q (.ref g) G':=λG' mh=>by
    obtain⟨lh,B,rest,hB,e1,e2,_,s0⟩:=mh;exact q g lh B rest G' hB e1 (by rw[e2];exact mn) s0
   have hG:=ob.sm.ints hd
   have pP:∀z:Int,aE n (z%(m:Int)):=λz=>by
    have h1:=Zz z (show(m:Int)≠0 by omega);have h2:=Zy z Ec;exact⟨h1,by omega⟩
   refine⟨_,rfl,aY 0 hG (by omega) ⟨_,_,rfl,rfl,(by show(0:Int)<4;decide),rfl,_,rfl,cg (λ_=>?_) λ_=>⟨_,rfl,fin G (ob.le (by omega))⟩⟩⟩;refine⟨_,rfl,_,rfl,aY 3 hG (by omega) ⟨_,rfl,_,_,rfl,rfl,Ec,_,rfl,aY 16 hG (by omega) ⟨_,rfl,_,_,rfl,rfl,uG,_,_,rfl,rfl,_,rfl,aY 17 hG (by omega) ⟨_,rfl,_,_,rfl,rfl,Ec,by show 4<=sizeLine;decide,λt ht=>?_⟩⟩⟩⟩;have k0:=Zz (ds.getD 16 0) (show(k:Int)≠0 by omega);have k2:=Zy (ds.getD 16 0) uG;dsimp only[iI,List.cons_append,ZX];refine OB.ent (ob.go ((aa.refl G).upd ht)) hg Pm (e:=.row 0 (ds.getD 3 0%(m:Int)) (1+ds.getD 16 0%(k:Int)) (ds.getD 17 0%(m:Int))) aj ⟨pP _,⟨by omega,by omega⟩,pP _⟩ λv G' _ mh=>⟨_,rfl,fin G' mh⟩
  obtain⟨u7,hu7,kk7⟩:=r7
  have r6:∃u:TS,c8 (fC aM P w K mg base ["_law_kinds","_law_marks","_law_standing","_law_names","_law_draws","_law_other","_law_k","_law_left","_law_e","_law_ends"] "_law_second" (aF jx) f aw A outer s H E).gj ((eV jx).drop 6) u/\
    ∀(g:Addr) (c:Nat) (x6 x7 x8 x9:Option V) (G:Hp),H g=none->OB C H G g k (m+(ds.getD 2 0%4).toNat) c->c<30->u {nx:=λ_ H'=>Q .aI H',rt:=Q} [some (.int k),some (.int m),some (.ref l),some (.ref nn),some (.ref ld),some (.ref g),x6,x7,x8,x9] G:=by
   refine⟨_,(@sC _ _ _ _ _ (cb Zl rfl (iX rfl T.range (@aC _ _ _ _ _ (aH cc (aD aP (pv 4) ak (λ_ _=>rfl)) ak) ae (by rfl))) (a7 (i:=6) mq.nd rfl (Or.inl rfl)) (@sC _ _ _ _ _ (@sS _ 9 _ _ _ _ _ mq.nd rfl (Or.inl rfl) (@eL _ _ _ _ (@aC _ _ _ _ _ (aH cc (aD aP (pv 4) (aH cY ak (pv 6)) (λ_ _=>rfl)) (aH cY (pv 1) (pv 6))) (@aC _ _ _ _ _ (aH cY (pv 1) (pv 6)) ae (by rfl)) (by rfl))) (by rfl) (.inl rfl))
   (@sC _ _ _ _ _ (bo (aV dQ (aH cc (aD aP (pv 4) (aH cY ak (pv 6)) (λ_ _=>rfl)) ak) ak (aO _)) (@sO _ _ _ (@sS _ 9 _ _ _ _ _ mq.nd rfl (Or.inl rfl) (@eL _ _ _ _ (@aC _ _ _ _ _ (aD aP (pv 9) ak (λ_ _=>rfl)) (@aC _ _ _ _ _ (aD aP (pv 9) ak (λ_ _=>rfl)) ae (by rfl)) (by rfl))) (by rfl) (.inl rfl))) bx)
   (@sO _ _ _ (bM (uy.pe hr (@aC _ _ _ _ _ (pv 5) (@aC _ _ _ _ _ (cO (@aC _ _ _ _ _ eA (@aC _ _ _ _ _ (aD aP (pv 9) ak (λ_ _=>rfl)) (@aC _ _ _ _ _ (aH cY ak (aH cc (aD aP (pv 4) (aH cY ak (pv 6)) (λ_ _=>rfl)) (pv 0))) (@aC _ _ _ _ _ (aD aP (pv 9) ak (λ_ _=>rfl)) ae (by rfl)) (by rfl)) (by rfl)) (by rfl))) ae (by rfl)) (by rfl))))))))
   hu7),?_⟩
   intro g c x6 x7 x8 x9 G hg ob c30;have hG:=ob.sm.ints hd;have q0:=Zz (ds.getD 2 0) (show(4:Int)≠0 by decide);have q4:=Zy (ds.getD 2 0) (show(0:Int)<4 by decide);obtain⟨n2,uH⟩:∃n2:Nat,ds.getD 2 0%4=(n2:Int):=⟨(ds.getD 2 0%4).toNat,by omega⟩;rw[uH,Y9]at ob;rw[uH]at q4;refine⟨_,rfl,aY 2 hG (by omega) ⟨_,_,rfl,rfl,(by show(0:Int)<4;decide),(n2:Int),by show [V.int (ds.getD 2 0%4)]=_;rw[uH],by omega,by omega,?_⟩⟩;refine qd (lo:=0) (n:=(n2:Int).toNat) (λi σ Hx=>(∃y6 y9:Option V,σ=[some (.int k),some (.int m),some (.ref l),some (.ref nn),some (.ref ld),some (.ref g),y6,x7,x8,y9])/\OB C H Hx g k (m+n2) (c+i)) ⟨⟨_,_,rfl⟩,ob⟩ ?_ ?_
   ·rintro i σ Hx hi ⟨⟨y6,y9,rfl⟩,jw⟩;have hi:i<n2:=by omega
    have hx:=jw.sm.ints hd;have Qv:(0:Int)<(m:Int)+(0+(i:Int)):=by omega
    refine⟨_,rfl,_,rfl,_,_,rfl,rfl,aY (4+i) hx (by omega) ⟨_,rfl,_,rfl,_,_,rfl,rfl,_,_,rfl,rfl,Qv,_,rfl,_,rfl,_,_,rfl,rfl,jD [ds.getD (4+i) 0%((m:Int)+(0+(i:Int))),(m:Int)+(0+(i:Int))] λle H1 f1 i1 s1=>?_⟩ (by omega)⟩;have e0:=Zz (ds.getD (4+i) 0) (show(m:Int)+(0+(i:Int))≠0 by omega);have e1:=Zy (ds.getD (4+i) 0) Qv;generalize ds.getD (4+i) 0%((m:Int)+(0+(i:Int)))=x at *;generalize hy:(m:Int)+(0+(i:Int))=y at *;have Qw:aE (m+n2) x:=⟨by omega,by omega⟩;have Qx:aE (m+n2) y:=⟨by omega,by omega⟩;have uI:=jw.go s1;have pU:=s1.ints hx;have k0:=Zz (ds.getD (12+i) 0) (show(k:Int)≠0 by omega);have k2:=Zy (ds.getD (12+i) 0) uG;refine⟨_,rfl,_,rfl,_,_,rfl,rfl,aY (8+i) pU (by omega) ⟨_,_,rfl,rfl,(by show(0:Int)<2;decide),rfl,_,rfl,cg (λ_=>?_) λ_=>?_⟩ (by omega)⟩
    ·refine⟨_,rfl,aY 1 i1 (by show 1<2;decide) ⟨_,rfl,aY 0 i1 (by show 0<2;decide) (jD [y,x] λlf H2 f2 i2 s2=>?_)⟩⟩;have pH:=s2.ints pU;refine⟨_,rfl,_,rfl,aY 0 i2 (by show 0<2;decide) ⟨_,rfl,_,rfl,_,_,rfl,rfl,aY (12+i) pH (by omega) ⟨_,rfl,_,_,rfl,rfl,uG,_,_,rfl,rfl,_,rfl,aY 1 i2 (by show 1<2;decide) ⟨by show 4<=sizeLine;decide,λt ht=>?_⟩⟩ (by omega)⟩⟩;dsimp only[iI,List.cons_append,ZX];refine OB.ent ((uI.go s2).go ((aa.refl _).upd ht)) hg (by omega) (e:=.row 0 y (1+ds.getD (12+i) 0%(k:Int)) x) aj ⟨Qx,⟨by omega,by omega⟩,Qw⟩ λv G' _ mh=>⟨⟨_,_,rfl⟩,by rw[<-Nat.add_assoc];exact mh⟩
    ·refine⟨_,rfl,_,rfl,aY 0 i1 (by show 0<2;decide) ⟨_,rfl,_,rfl,_,_,rfl,rfl,aY (12+i) pU (by omega) ⟨_,rfl,_,_,rfl,rfl,uG,_,_,rfl,rfl,_,rfl,aY 1 i1 (by show 1<2;decide) ⟨by show 4<=sizeLine;decide,λt ht=>?_⟩⟩ (by omega)⟩⟩;dsimp only[iI,List.cons_append,ZX];refine OB.ent (uI.go ((aa.refl _).upd ht)) hg (by omega) (e:=.row 0 x (1+ds.getD (12+i) 0%(k:Int)) y) aj ⟨Qw,⟨by omega,by omega⟩,Qx⟩ λv G' _ mh=>⟨⟨_,_,rfl⟩,by rw[<-Nat.add_assoc];exact mh⟩
   ·rintro σ Hx ⟨⟨y6,y9,rfl⟩,jw⟩;rw[Y9]at jw;exact kk7 g (m+n2) _ y6 x7 x8 y9 Hx hg jw (by omega) (by omega)
  obtain⟨u6,hu6,kk6⟩:=r6;have NP:=abS pm
  have r5:∃u:TS,c8 (fC aM P w K mg base ["_law_kinds","_law_marks","_law_standing","_law_names","_law_draws","_law_other","_law_k","_law_left","_law_e","_law_ends"] "_law_second" (aF jx) f aw A outer s H E).gj ((eV jx).drop 5) u/\
    ∀(g p:Addr) (zs:List (Addr×En)) (x6 x8 x9:Option V) (G:Hp),H g=none->OB C H G g k (m+(ds.getD 2 0%4).toNat) 0->G p=some (.lst (zs.map λz=>V.ref z.1))->(∀z∈zs,H z.1=some (.tup z.2.vs)/\dJ k m z.2)->zs.length<=12->p≠g->u {nx:=λ_ H'=>Q .aI H',rt:=Q} [some (.int k),some (.int m),some (.ref l),some (.ref nn),some (.ref ld),some (.ref g),x6,some (.ref p),x8,x9] G:=by
   refine⟨_,(@sC _ _ _ _ _ (cb Zl rfl (b8 (pv 7)) (a7 (i:=8) mq.nd rfl (Or.inl rfl)) (@sO _ _ _ (bM (uy.pe hr (@aC _ _ _ _ _ (pv 5) (@aC _ _ _ _ _ (RNM.pe hr (@aC _ _ _ _ _ (kP abf (pv 8) (jz ak) mH) (@aC _ _ _ _ _ (pv 3) ae (by rfl)) (by rfl))) ae (by rfl)) (by rfl))))))
   hu6),?_⟩
   intro g p zs x6 x8 x9 G hg ob hp hz z12 pg;refine⟨_,rfl,p,rfl,⟨_,af.of hp⟩,eU (K:=K) (a:=p) (xs:=zs.map λz=>V.ref z.1) (λi σ Hx=>(∃y8:Option V,σ=[some (.int k),some (.int m),some (.ref l),some (.ref nn),some (.ref ld),some (.ref g),x6,some (.ref p),y8,x9])/\OB C H Hx g k (m+(ds.getD 2 0%4).toNat) i/\Hx p=some (.lst (zs.map λz=>V.ref z.1))) ⟨⟨_,rfl⟩,ob,hp⟩ (λi σ Hx _ ⟨_,_,w⟩=>af.of w) ?_ ?_⟩
   ·rintro i y σ Hx hi ⟨⟨y8,rfl⟩,jw,Qy⟩;obtain⟨pB,g7⟩:=ZL.mp hi;rw[Y0]at pB;obtain⟨te,e,eq1⟩:∃te e,zs[i]=(te,e):=⟨_,_,rfl⟩;have hy:y=.ref te:=by rw[<-g7,List.getElem_map,eq1]
    subst hy;obtain⟨Ed,eo⟩:=hz (te,e) (eq1▸ZA pB);have Ed:=jw.sm _ _ Ed;refine⟨_,rfl,_,rfl,_,rfl,te,_,rfl,bt.of Ed,λz=>by cases e<;>exact absurd (show(1:Nat)=0 from z.1) (by decide),λp1 hJ=>?_⟩;have Ee:aa Hx (upd Hx p1 (.tup (jg e.vs (some 1) none))):=(aa.refl Hx).upd hJ;have nB:upd Hx p1 (.tup (jg e.vs (some 1) none)) p1=some (.tup e.told):=by rw[aj];cases e<;>rfl
    generalize upd Hx p1 (.tup (jg e.vs (some 1) none))=Hy at Ee nB;refine⟨_,rfl,k,m,p1,nn,e,ns,rfl,nB,(jw.sm.trans Ee).ints iN,eo,pm,λt' Hz nA sz=>?_⟩;have Qz:=Ee.trans sz;dsimp only[iI,List.cons_append,ZX];refine OB.ent (jw.go Qz) hg (by omega) nA ((aap NP eo).mono (Nat.le_add_right _ _)) λv G' kp mh=>⟨⟨_,rfl⟩,mh,kp _ _ (Qz _ _ Qy) pg⟩
   ·rintro σ Hx ⟨⟨y8,rfl⟩,jw,Qy⟩;rw[Y0]at jw;exact kk6 g _ x6 (some (.ref p)) y8 x9 Hx hg jw (by omega)
  obtain⟨u5,hu5,QA⟩:=r5
  have r3:∃u:TS,c8 (fC aM P w K mg base ["_law_kinds","_law_marks","_law_standing","_law_names","_law_draws","_law_other","_law_k","_law_left","_law_e","_law_ends"] "_law_second" (aF jx) f aw A outer s H E).gj ((eV jx).drop 3) u/\
    ∀(g:Addr) (x6:Option V) (G:Hp),H g=none->OB C H G g k (m+(ds.getD 2 0%4).toNat) 0->u {nx:=λ_ H'=>Q .aI H',rt:=Q} [some (.int k),some (.int m),some (.ref l),some (.ref nn),some (.ref ld),some (.ref g),x6,none,none,none] G:=by
   refine⟨_,(@sC _ _ _ _ _ (@sS _ 7 _ _ _ _ _ mq.nd rfl (Or.inl rfl) (kN uT rfl T.list j9 (@aC _ _ _ _ _ (pv 2) ae (by rfl))) (by rfl) (.inl rfl))
   (@sC _ _ _ _ _ (bo (PW.pt (oz (aV dQ (aH cc (aD aP (pv 4) ak (λ_ _=>rfl)) ak) ak (aO _)) (qt (aV jb (cq fm (by rfl) T.len PySem.boot_len (@aC _ _ _ _ _ (pv 7) ae (by rfl))) ak (aO _))))) (@sO _ _ _ (bM (fz PySem.F.plainAttrs_list PySem.F.slot_list_pop PySem.F.type_list_pop Jc (pv 7) (@aC _ _ _ _ _ (aH cc (aD aP (pv 4) ak (λ_ _=>rfl)) (cq fm (by rfl) T.len PySem.boot_len (@aC _ _ _ _ _ (pv 7) ae (by rfl)))) ae (by rfl))))) bx)
   hu5)),?_⟩
   intro g x6 G hg ob;obtain⟨qs,q1,q2,q3,_⟩:=id el.ob;have QB:qs.length<=12:=by rw[<-Y0 (f:=(·.2)),q3];exact aeo
   have hG:=ob.sm.ints hd
   have gG:∃o,G g=some o:=by
    obtain⟨lh,B,rest,hB,_⟩:=ob;obtain⟨dx,ls,h,_⟩:=hB.ob;exact⟨_,h⟩
   refine⟨_,rfl,⟨⟨l,_,rfl,.inl (af.of (ob.sm _ _ q1)),λp hp=>?_⟩⟩⟩
   have pg:p≠g:=λz=>by
    obtain⟨o,ho⟩:=gG;rw[<-z,hp]at ho;cases ho
   have uI:=ob.go ((aa.refl G).upd (o:=.lst (qs.map λq=>V.ref q.1)) hp);have hJ:upd G p (.lst (qs.map λq=>V.ref q.1)) p=some (.lst (qs.map λq=>V.ref q.1)):=aj;have h1:=((aa.refl G).upd (o:=.lst (qs.map λq=>V.ref q.1)) hp).ints hG;have hq:∀z∈qs,H z.1=some (.tup z.2.vs)/\dJ k m z.2:=λz hz=>⟨q2 z hz,jY z.2 (by rw[<-q3];exact Zg.mpr ⟨z,hz,rfl⟩)⟩;have go:=QA g p qs x6 none none _ hg uI hJ hq QB pg;generalize hH:upd G p (.lst (qs.map λq=>V.ref q.1))=H1 at uI hJ h1 go;refine⟨_,rfl,aY 0 h1 (by omega) ⟨_,_,rfl,rfl,(by show(0:Int)<4;decide),rfl,_,rfl,cg (λ_=>⟨_,rfl,p,_,rfl,.inl (af.of hJ),_,_,rfl,rfl,_,rfl,cg (λz=>?_) λ_=>go⟩) λ_=>cf go⟩⟩;have z:=of_decide_eq_true z;have e1:((qs.map λq=>V.ref q.1).length:Int)=(qs.length:Int):=by rw[Y0]
   have p1:(0:Int)<((qs.map λq=>V.ref q.1).length:Int):=z;have m0:=Zz (ds.getD 3 0) (show((qs.map λq=>V.ref q.1).length:Int)≠0 by omega);have m9:=Zy (ds.getD 3 0) p1;obtain⟨mi,em⟩:∃mi:Nat,ds.getD 3 0%((qs.map λq=>V.ref q.1).length:Int)=(mi:Int):=⟨(ds.getD 3 0%((qs.map λq=>V.ref q.1).length:Int)).toNat,by omega⟩;have hm:mi<qs.length:=by omega
   have ix:fg (qs.map λq=>V.ref q.1).length (mi:Int)=some mi:=by
    unfold fg;rw[if_pos (by omega),if_pos (by rw[Y0];omega)];rfl
   refine⟨_,rfl,.inl ⟨rfl,_,af.of hJ⟩,_,rfl,aY 3 h1 (by omega) ⟨_,rfl,p,_,rfl,.inl (af.of hJ),_,_,rfl,rfl,p1,p,_,_,mi,.ref qs[mi].1,rfl,rfl,hJ,?_,?_,?_,?_,?_⟩⟩
   ·rw[em];omega
   ·rw[em];have:=(qv ix).2.2.2;omega
   ·rw[em];exact(qv ix).1
   ·simp[hm]
   have sz:∀z∈qs.eraseIdx mi,z∈qs:=λz hz=>List.mem_of_mem_eraseIdx hz;have e2:(qs.map λq=>V.ref q.1).eraseIdx mi=(qs.eraseIdx mi).map λq=>V.ref q.1:=yQ ..;refine QA g p (qs.eraseIdx mi) x6 none none _ hg ?_ (by rw[aj,e2]) (λz hz=>hq z (sz z hz)) (ZQ (List.length_eraseIdx_le ..) QB) pg;obtain⟨lh,B,rest,hB,b1,b2,b3,s0⟩:=ob;have np:=hB.not hp;rw[<-hH];refine⟨lh,B,rest,hB.on λx hx o e=>?_,b1,b2,b3,λb o e=>?_⟩
   ·have ne:x≠p:=λz=>np (z▸hx);rw[ah ne,ah ne];exact e
   ·have e':=s0 _ _ e;have ne:b≠p:=λz=>by rw[z,hp]at e';cases e'
    rw[ah ne,ah ne];exact e'
  obtain⟨u3,Ef,Eg⟩:=r3
  refine⟨_,(@sC _ _ _ _ _ (@sS _ 5 _ _ _ _ _ mq.nd rfl (Or.inl rfl) (SV.pe hr (@aC _ _ _ _ _ (pv 0) ae (by rfl))) (by rfl) (.inl rfl))
   (@sC _ _ _ _ _ (bo (aV dQ (aH cc (aD aP (pv 4) ak (λ_ _=>rfl)) ak) ak (aO _)) (@sC _ _ _ _ _ (bM (LB.pe hr (@aC _ _ _ _ _ (pv 5) (@aC _ _ _ _ _ (pv 0) (@aC _ _ _ _ _ (pv 1) (@aC _ _ _ _ _ (aH cc (aD aP (pv 4) ak (λ_ _=>rfl)) ak) (@aC _ _ _ _ _ (kP tK (pv 4) (jz ak) mH) ae (by rfl)) (by rfl)) (by rfl)) (by rfl)) (by rfl))))
   (@sO _ _ _ (@sR _ _ _ _ (pv 5)))) bx)
   (@sC _ _ _ _ _ (cb Zl rfl (iX rfl T.range (@aC _ _ _ _ _ (aH cY (pv 1) (aH cc (aD aP (pv 4) ak (λ_ _=>rfl)) ak)) ae (by rfl))) (a7 (i:=6) mq.nd rfl (Or.inl rfl)) (@sO _ _ _ (bM (DI.O3 hr (pv 5)))))
   Ef))),?_⟩
  refine⟨_,rfl,λg dx ng pT neg=>?_⟩;have sx:aa H (upd (upd H dx (.own g)) g (.ins C dx [])):=((aa.refl H).upd pT).upd ng;refine⟨g,dx,k,rfl,aj,k1,k5,λH1 lh rest lZ flh adh Eh=>⟨rfl,?_⟩⟩;have s1:aa H H1:=λb o e=>Eh b o (sx b o e) λz=>by rw[z,ng]at e;cases e
  have h1:=s1.ints hd;refine⟨_,rfl,aY 0 h1 (by omega) ⟨_,_,rfl,rfl,(by show(0:Int)<4;decide),rfl,_,rfl,cg (λ_=>?_) λ_=>?_⟩⟩
  ·have a0:=Zz (ds.getD 1 0) (show(13:Int)≠0 by decide);have a1:=Zy (ds.getD 1 0) (show(0:Int)<13 by decide);obtain⟨Ei,Dd⟩:∃Ei:Nat,ds.getD 1 0%13=(Ei:Int):=⟨(ds.getD 1 0%13).toNat,by omega⟩;refine⟨_,rfl,_,rfl,_,rfl,_,rfl,aY 1 h1 (by omega) ⟨_,_,rfl,rfl,(by show(0:Int)<13;decide),_,rfl,_,rfl,sj h1 λlz H2 hlz iz s2=>?_⟩⟩;have zl:(dR ds (some 20) none).length=90:=by rw[show(20:Int)=((20:Nat):Int)from rfl,uY,ZJ,dl]
   refine⟨g,lh,rest,k,m,Ei,lz,_,(by show [V.ref g,V.int k,V.int m,V.int (ds.getD 1 0%13),V.ref lz]=_;rw[Dd]),lZ.same s2,by omega,by omega,iz,by rw[zl];omega,λl' aeW B qO H3 fM bk bn _ _ _ _ _ _ _ _ _ _ _ l7=>⟨_,rfl,q g lh B qO H3 fM bk (by omega) (l7.from (s1.trans s2) ng)⟩⟩
  ·have q0:=Zz (ds.getD 2 0) (show(4:Int)≠0 by decide);have q4:=Zy (ds.getD 2 0) (show(0:Int)<4 by decide);obtain⟨n2,uH⟩:∃n2:Nat,ds.getD 2 0%4=(n2:Int):=⟨(ds.getD 2 0%4).toNat,by omega⟩;refine⟨_,rfl,_,rfl,aY 2 h1 (by omega) ⟨_,_,rfl,rfl,(by show(0:Int)<4;decide),_,_,rfl,rfl,((m+n2:Nat):Int),(by show [V.int ((m:Int)+ds.getD 2 0%4)]=_;rw[uH];rfl),by omega,by omega,?_⟩⟩;refine qd (lo:=0) (n:=((m+n2:Nat):Int).toNat) (λi σ Hx=>(∃x,σ=[some (.int k),some (.int m),some (.ref l),some (.ref nn),some (.ref ld),some (.ref g),x,none,none,none])/\aZ C Hx g lh ⟨k,i,[],1,[]⟩ rest/\Kp g H1 Hx) ⟨⟨none,rfl⟩,lZ,Kp.of (aa.refl H1)⟩ ?_ ?_
   ·rintro i σ Hx hi ⟨⟨x,rfl⟩,hD,kp⟩;obtain⟨dy,ly,hy,_⟩:=id hD.ob;exact⟨_,rfl,g,dy,_,rfl,hy,rfl,g,lh,_,rest,rfl,hD,λ_ H3 fM l7=>⟨⟨_,rfl⟩,fM,kp.trans l7⟩,λz=>absurd (show i<24 by omega) z⟩
   ·rintro σ Hx ⟨⟨x,rfl⟩,hD,kp⟩;rw[Y9]at hD;refine Eg g x Hx ng ⟨lh,_,rest,hD,rfl,?_,Zo _,kp.from s1 ng⟩;show m+n2=m+(ds.getD 2 0%4).toNat;omega
def FK:aN ["_law_book_here","_law_a","_law_rows","_law_way"] ["_law_book_here","_law_a","_law_rows"] (aF yM):=aQ
def VA{f C cM cK:Addr}{fd:FuncData}(F:aJ K "_law_within" "_law_within" yM f fd)(JDG:b4 P w K mg base C "judge" ["self","a","way","b"] 8 (LC C cM cK)):aB P w K mg base aM 9 f fd ["_law_book_here","_law_a","_law_rows"] (Ki C):=by
 refine F.ok FK (λvs H Q E h=>?_) (λaw A outer s H vs Q E hr h=>?_)
 ·obtain⟨g,lh,B,rest,a,l,ps,rfl,_⟩:=h
  rfl
 ·obtain⟨g,lh,B,rest,a,l,ps,rfl,hB,ha,il,hp,q⟩:=h
  refine⟨_,(@sC _ _ _ _ _ (cb Zl rfl (b8 (pv 2)) (a7 (i:=3) FK.nd rfl (Or.inl rfl)) (@sO _ _ _ (bo (aV vT (JDG.dO hr (pv 0) (@aC _ _ _ _ _ (pv 1) (@aC _ _ _ _ _ (pv 3) (@aC _ _ _ _ _ (pv 1) ae (by rfl)) (by rfl)) (by rfl))) eA (aO _)) (@sO _ _ _ (@sR _ _ _ _ jF)) bx)))
   (@sO _ _ _ (@sR _ _ _ _ jF))),?_⟩
  obtain⟨dx,ls,hg,_⟩:=id hB.ob;have pK:aE B.n (a:Int):=⟨by omega,by omega⟩;refine⟨_,rfl,l,rfl,⟨_,af.of il.is⟩,eU (K:=K) (a:=l) (xs:=ps.map λp=>V.ref p.1) (λi σ Hx=>(∃y,σ=[some (.ref g),some (.int a),some (.ref l),y])/\aa H Hx/\∀p∈ps.take i,fT (rowsOf B.es) a p.2 a) ⟨⟨none,rfl⟩,aa.refl _,by simp⟩ (λi σ Hx _ ⟨_,sx,_⟩=>af.of (sx _ _ il.is)) ?_ ?_⟩
  ·rintro i x σ Hx hi ⟨⟨y,rfl⟩,sx,hm⟩;obtain⟨p,rfl,ep⟩:=qx hi;have mp:=Y5 ep;obtain⟨hl,hn⟩:=hp p mp;refine⟨_,rfl,g,dx,_,rfl,sx _ _ hg,rfl,_,rfl,_,rfl,_,rfl,g,lh,B,rest,a,a,p.1,p.2,rfl,hB.same sx,(il.same sx).iv p mp,hn,λ_ _=>λH9 s9=>?_,λz=>absurd ⟨pK,pK⟩ z,λ_ z=>absurd hl z⟩;refine⟨rfl,_,rfl,?_⟩;by_cases m:fT (rowsOf B.es) a p.2 a
   ·refine c6 (by rw[ZN (IG.mpr m)];rfl) ⟨⟨_,rfl⟩,sx.trans s9,λr hr=>?_⟩;obtain⟨h1,h2⟩:=ZL.mp ep;rw[Zi h1,h2]at hr;rcases Y6.mp hr with z|z
    ·exact hm r z
    ·rw[Y1.mp z];exact m
   ·exact ki (by rw[ZO (λz=>m (IG.mp z))];rfl) (q false H9 ⟨(λz=>nomatch z),λz=>absurd (z p mp) m⟩ (sx.trans s9))
  ·rintro σ Hx ⟨⟨y,rfl⟩,sx,hm⟩;rw[Y0,List.take_length]at hm;exact q true Hx ⟨λ_=>hm,λ_=>rfl⟩ sx
end
section
variable {P:Program}{w:World}{K:PySem.W.Frag}{mg:Str->Option Value}{base:Heap}
def gV:aN ["_law_script","_law_numbers_here","_law_kinds","_law_marks","_law_book_here","_law_standing","_law_names","_law_other","_law_a","_law_one","_law_two","_law_first","_law_second_here","_law_alike"] ["_law_script"] (aF ko):=aQ
def ace{f C Cc cN:Addr}{fd:FuncData}(F:aJ K "law" "law" ko f fd)(T:Txt K mg)(N:ba P w K mg base "_law_numbers" ["_law_script","_law_many"] 1 (Mr K))(SV:kE P w K mg base C "Survey" ["self","kinds"] 1 (Ay C))(LB:ba P w K mg base "_law_book" ["_law_book_here","_law_kinds","_law_marks","_law_many","_law_draws"] 12 (A9 C))
  (MX:ba P w K mg base "_law_mixed" ["_law_many","_law_draws"] 1 LG)(SEC:ba P w K mg base "_law_second" ["_law_kinds","_law_marks","_law_standing","_law_names","_law_draws"] 13 (Kh C))(tR:b4 P w K mg base C "piece" ["self","a"] 9 (J0 C Cc cN))(CO:ba P w K mg base "core" ["chart"] 6 (Kg Cc))(HO:ba P w K mg base "homes" ["chart"] 5 (Lw Cc))
  (WR:ba P w K mg base "_law_ways_right" ["_law_found"] 2 Of)(QC:ba P w K mg base "_law_within" ["_law_book_here","_law_a","_law_rows"] 9 (Ki C))(QD:ba P w K mg base "written" ["chart"] 3 (IJ Cc)):
  aB P w K mg base aM 14 f fd ["_law_script"] (vX K):=by
 refine F.ok gV (λvs H Q E h=>?_) (λaw A outer s H vs Q E hr h=>?_)
 ·obtain⟨a,ns,rfl,_⟩:=h
  rfl
 ·obtain⟨sc,ns,rfl,hS,hn,kk⟩:=h;have hu:=hr.units
  have r14:∃u:TS,c8 (fC aM P w K mg base ["_law_script","_law_numbers_here","_law_kinds","_law_marks","_law_book_here","_law_standing","_law_names","_law_other","_law_a","_law_one","_law_two","_law_first","_law_second_here","_law_alike"] "law" (aF ko) f aw A outer s H E).gj ((eV ko).drop 14) u/\
    ∀(y0 y1 y2 y3 y4 y5 y6 y7 y8 QE QF:Option V) (x1 x2:Addr) (k n1 n2:Nat) (T1 T2:Tab) (pV mf:List Addr) (av:Bool) (G:Hp),cj Cc G x1 k n1 T1 pV->cj Cc G x2 k n2 T2 mf->(av=true↔T1=T2)->u {nx:=λ_ H'=>Q .aI H',rt:=Q} [y0,y1,y2,y3,y4,y5,y6,y7,y8,some (.ref x1),some (.ref x2),QE,QF,some (.bl av)] G:=by
   refine⟨_,(@sO _ _ _ (@sR _ _ _ _ (qu dQ (qu dQ (QD.pe hr (@aC _ _ _ _ _ (pv 9) ae (by rfl))) (QD.pe hr (@aC _ _ _ _ _ (pv 10) ae (by rfl))) (aO _)) (pv 13) (aO _)))),?_⟩;intro y0 y1 y2 y3 y4 y5 y6 y7 y8 QE QF x1 x2 k n1 n2 T1 T2 pV mf av G jZ jQ ha;refine⟨_,rfl,x1,k,n1,T1,pV,rfl,jZ,λH1 s1=>⟨_,rfl,x2,k,n2,T2,mf,rfl,jQ.same s1,λH2 s2=>⟨rfl,_,rfl,rfl,?_⟩⟩⟩;have tx:=Xn jZ.ok jQ.ok jZ.k1 jZ.k5 jZ.n7 jQ.n7
   have:decide (V.str (oM k T1)=V.str (oM k T2))=av:=by
    cases av with
    |true=>exact ZN (congrArg V.str (tx.mpr (ha.mp rfl)))
    |false=>exact ZO λz=>by cases ha.mpr (tx.mp (V.str.inj z))
   rw[this,ZN rfl];exact kk _
  obtain⟨u14,aep,Oy⟩:=r14
  have qO:∃u:TS,c8 (fC aM P w K mg base ["_law_script","_law_numbers_here","_law_kinds","_law_marks","_law_book_here","_law_standing","_law_names","_law_other","_law_a","_law_one","_law_two","_law_first","_law_second_here","_law_alike"] "law" (aF ko) f aw A outer s H E).gj ((eV ko).drop 3) u/\
    ∀(l0:Addr) (ms:List Int) (k m:Nat) (G:Hp),ay G l0 ms->ms.length=120->1<=k->k<=3->1<=m->m<=8->u {nx:=λ_ H'=>Q .aI H',rt:=Q} [some (.ref sc),some (.ref l0),some (.int k),some (.int m),none,none,none,none,none,none,none,none,none,none] G:=by
   refine⟨_,(@sC _ _ _ _ _ (@sS _ 4 _ _ _ _ _ gV.nd rfl (Or.inl rfl) (SV.pe hr (@aC _ _ _ _ _ (pv 2) ae (by rfl))) (by rfl) (.inl rfl))
   (@sC _ _ _ _ _ (@sS _ 5 _ _ _ _ _ gV.nd rfl (Or.inl rfl) (LB.pe hr (@aC _ _ _ _ _ (pv 4) (@aC _ _ _ _ _ (pv 2) (@aC _ _ _ _ _ (pv 3) (@aC _ _ _ _ _ (aH cc (aD aP (pv 1) ak (λ_ _=>rfl)) ak) (@aC _ _ _ _ _ (kP tK (pv 1) (jz ak) mH) ae (by rfl)) (by rfl)) (by rfl)) (by rfl)) (by rfl))) (by rfl) (.inl rfl))
   (@sC _ _ _ _ _ (@sS _ 6 _ _ _ _ _ gV.nd rfl (Or.inl rfl) (MX.pe hr (@aC _ _ _ _ _ (pv 3) (@aC _ _ _ _ _ (kP tK (pv 1) (jz ak) mH) ae (by rfl)) (by rfl))) (by rfl) (.inl rfl))
   (@sC _ _ _ _ _ (@sS _ 7 _ _ _ _ _ gV.nd rfl (Or.inl rfl) (SEC.pe hr (@aC _ _ _ _ _ (pv 2) (@aC _ _ _ _ _ (pv 3) (@aC _ _ _ _ _ (pv 5) (@aC _ _ _ _ _ (pv 6) (@aC _ _ _ _ _ (kP tK (pv 1) (jz ak) mH) ae (by rfl)) (by rfl)) (by rfl)) (by rfl)) (by rfl))) (by rfl) (.inl rfl))
   (@sC _ _ _ _ _ (@sS _ 8 _ _ _ _ _ gV.nd rfl (Or.inl rfl) (aH cc (aD aP (pv 1) ak (λ_ _=>rfl)) (pv 3)) (by rfl) (.inl rfl))
   (@sC _ _ _ _ _ (@sS _ 9 _ _ _ _ _ gV.nd rfl (Or.inl rfl) (CO.pe hr (@aC _ _ _ _ _ (tR.dO hr (pv 4) (@aC _ _ _ _ _ (pv 8) ae (by rfl))) ae (by rfl))) (by rfl) (.inl rfl))
   (@sC _ _ _ _ _ (@sS _ 10 _ _ _ _ _ gV.nd rfl (Or.inl rfl) (CO.pe hr (@aC _ _ _ _ _ (tR.dO hr (pv 7) (@aC _ _ _ _ _ (aD aP (pv 6) (pv 8) (λ_ _=>rfl)) ae (by rfl))) ae (by rfl))) (by rfl) (.inl rfl))
   (@sC _ _ _ _ _ (@sS _ 11 _ _ _ _ _ gV.nd rfl (Or.inl rfl) (HO.pe hr (@aC _ _ _ _ _ (pv 9) ae (by rfl))) (by rfl) (.inl rfl))
   (@sC _ _ _ _ _ (@sS _ 12 _ _ _ _ _ gV.nd rfl (Or.inl rfl) (HO.pe hr (@aC _ _ _ _ _ (pv 10) ae (by rfl))) (by rfl) (.inl rfl))
   (@sC _ _ _ _ _ (bo (PW.pt (gW (mO (iY (WR.pe hr (@aC _ _ _ _ _ (pv 11) ae (by rfl))))) (ij (mO (iY (WR.pe hr (@aC _ _ _ _ _ (pv 12) ae (by rfl)))))))) (@sO _ _ _ (@sR _ _ _ _ jF)) bx)
   (@sC _ _ _ _ _ (@sS _ 13 _ _ _ _ _ gV.nd rfl (Or.inl rfl) (aa6 (QC.pe hr (@aC _ _ _ _ _ (pv 7) (@aC _ _ _ _ _ (aD aP (pv 6) (pv 8) (λ_ _=>rfl)) (@aC _ _ _ _ _ (pv 11) ae (by rfl)) (by rfl)) (by rfl))) (L7 (QC.pe hr (@aC _ _ _ _ _ (pv 4) (@aC _ _ _ _ _ (pv 8) (@aC _ _ _ _ _ (pv 12) ae (by rfl)) (by rfl)) (by rfl))))) (by rfl) (.inl rfl))
   aep))))))))))),?_⟩
   intro l0 ms k m G h0 hm k1 k3 m1 m8;refine⟨_,rfl,λg dx ng pT neg=>?_⟩;have sx:aa G (upd (upd G dx (.own g)) g (.ins C dx [])):=((aa.refl G).upd pT).upd ng;refine⟨g,dx,k,rfl,aj,k1,by omega,λH1 lh rest lZ flh adh Eh=>⟨rfl,?_⟩⟩;have s1:aa G H1:=λb o e=>Eh b o (sx b o e) λz=>by rw[z,ng]at e;cases e
   have h1:=s1.ints h0;have c0:=Zz (ms.getD 2 0) (show(13:Int)≠0 by decide);have c1:=Zy (ms.getD 2 0) (show(0:Int)<13 by decide);obtain⟨many,ey⟩:∃y:Nat,ms.getD 2 0%13=(y:Int):=⟨(ms.getD 2 0%13).toNat,by omega⟩;refine⟨_,rfl,_,rfl,_,rfl,_,rfl,aY 2 h1 (by omega) ⟨_,_,rfl,rfl,(by show(0:Int)<13;decide),_,rfl,_,rfl,sj h1 λld H2 hld id2 s2=>?_⟩⟩;have dr:(dR ms (some 70) none).length=50:=by rw[show(70:Int)=((70:Nat):Int)from rfl,uY,ZJ,hm]
   refine⟨g,lh,rest,k,m,many,ld,_,(by show [V.ref g,V.int k,V.int m,V.int (ms.getD 2 0%13),V.ref ld]=_;rw[ey]),lZ.same s2,by omega,by omega,id2,by rw[dr];omega,λl dB B qO H3 fM bk bn bh be bc rK el3 hl nl ngf Du nw fr l7=>?_⟩;subst bk bn;have g0:l0≠g:=λz=>by rw[<-z]at ng;rw[show G l0=_ from h0]at ng;cases ng
   have h3:ay H3 l0 ms:=l7 _ _ (s2.ints h1) g0;obtain⟨dx3,ls3,pQ,_⟩:=id fM.ob;refine⟨_,rfl,_,rfl,_,rfl,sj h3 λlz H7 hlz iz s7=>?_⟩;have zl:(dR ms (some 60) none).length=60:=by rw[show(60:Int)=((60:Nat):Int)from rfl,uY,ZJ,hm]
   refine⟨B.n,lz,_,rfl,iz,by omega,by rw[zl];omega,λnn ns H8 hnn Ej pm s8=>?_⟩;have nl8:ns.length=B.n:=by rw[pm.length_eq,qp]
   have QG:=s7.trans s8;refine⟨_,rfl,_,rfl,_,rfl,_,rfl,_,rfl,_,rfl,sj (QG.ints h3) λlw H9 rH iw s9=>?_⟩;have wl:(dR ms (some 10) none).length=110:=by rw[show(10:Int)=((10:Nat):Int)from rfl,uY,ZJ,hm]
   have QH:=QG.trans s9;refine⟨B.k,B.n,l,nn,lw,dB,B.es,ns,_,rfl,el3.on λx _ o e=>QH x o e,fM.ok,by omega,s9.ints Ej,pm,iw,wl,fM.k1,fM.k5,m1,m8,λg2 QI B2 NM HA hD pW bn2 sA=>?_⟩;have Ek:=QH.trans sA;have QJ:=fM.same Ek;obtain⟨dy,ly,kJ,_⟩:=id hD.ob;have mp:(0:Int)<B.n:=by omega
   have a0:=Zz (ms.getD 3 0) (show(B.n:Int)≠0 by omega);have a1:=Zy (ms.getD 3 0) mp;refine⟨_,rfl,aY 3 (Ek.ints h3) (by omega) ⟨_,rfl,_,_,rfl,rfl,mp,?_⟩⟩;show jG 8 (V.int (ms.getD 3 0%(B.n:Int))) _ _ _;obtain⟨a,ea⟩:∃a:Nat,ms.getD 3 0%(B.n:Int)=(a:Int):=⟨(ms.getD 3 0%(B.n:Int)).toNat,by omega⟩;rw[ea]at a1⊢;have ha:a<B.n:=by omega
   have pK:aE B.n (a:Int):=⟨by omega,by omega⟩
   have Cp:aE B2.n (ns.getD a 0):=by
    have:=vm.mp (pm.mem_iff.mp (getD_mem (l:=ns) (a:=a) (by omega)));exact⟨this.1,by have:=this.2;omega⟩
   obtain⟨a2,QK⟩:∃a2:Nat,ns.getD a 0=(a2:Int):=⟨(ns.getD a 0).toNat,by have:=Cp.1;omega⟩;refine⟨_,rfl,g,dx3,_,rfl,Ek _ _ pQ,rfl,_,rfl,g,lh,B,qO,a,rfl,QJ,λ_ x fx H11 hx hfx qT xy=>?_,λz=>absurd pK z⟩;rw[Y9]at qT;refine⟨x,B.k,_,_,fx,rfl,qT,λx1 pV n1 b1 C9 pU aeX lF QL av1 bu=>?_⟩;have wo:=xy.trans bu;have Cn:=hD.same wo;refine⟨_,rfl,g2,dy,_,rfl,wo _ _ kJ,rfl,_,rfl,_,rfl,aY a ((sA.trans wo).ints (s9.ints Ej)) (by omega) ⟨g2,QI,B2,NM,_,rfl,Cn,λ_ y fy H13 hy hfy qU gp=>?_,λz=>absurd Cp z⟩⟩;rw[QK,Y9,pW]at qU;refine⟨y,B.k,_,_,fy,rfl,qU,λx2 mf n2 b2 H14 pH aeY lG QM av2 dD=>?_⟩;have BN:=gp.trans dD;refine⟨_,rfl,x1,B.k,n1,_,pV,rfl,lF.same BN,λlr ps H15 QN aeZ ae0 Oz QO pR=>?_⟩;refine⟨_,rfl,x2,B.k,n2,_,mf,rfl,lG.same pR,λQP nU H16 QQ ae1 ae2 OA QR Em=>?_⟩;have rps:∀p∈ps,p.2∈bw (fV (a9 B.tab (met B.tab B.k B.bW ((rk B.ax).getD a 0).toNat)) B.k (met B.tab B.k B.bW ((rk B.ax).getD a 0).toNat).length b1) B.k n1:=λp hp=>by rw[<-QO];exact Zg.mpr ⟨p,hp,rfl⟩
   have aeq:∀p∈nU,p.2∈bw (fV (a9 B2.tab (met B2.tab B.k B2.bW ((rk B2.ax).getD a2 0).toNat)) B.k (met B2.tab B.k B2.bW ((rk B2.ax).getD a2 0).toNat).length b2) B.k n2:=λp hp=>by rw[<-QR];exact Zg.mpr ⟨p,hp,rfl⟩
   have ca:=SW qT.ok qT.n1 QL av1 qU.ok qU.n1 QM av2 lF.ok lF.n1 lG.ok lG.n1;have mj:=λ(p:Addr×List Int) (hp:p∈ps)=>mM lF.ok lF.n1 (rps p hp);have ml:=λ(p:Addr×List Int) (hp:p∈nU)=>mM lG.ok lG.n1 (aeq p hp);have q1:=(cL lF.ok (k:=B.k) (show 0<n1 by have:=lF.n1;omega)).1.len;have q2:=(cL lG.ok (k:=B.k) (show 0<n2 by have:=lG.n1;omega)).1.len;have cl1:=Kj qT.ok qT.n1 QL;have CN:=Kj qU.ok qU.n1 QM;rw[lF.ok.len]at cl1;rw[lG.ok.len]at CN;have ck:=Bk.tL fM;have yb:=Bk.tL hD;have r1:=ck.bA ((rk B.ax).getD a 0) (getD_mem (by rw[ck.len];exact ha));have yc:a2<B2.n:=by have:=Cp.2;omega
   have r2:=yb.bA ((rk B2.ax).getD a2 0) (getD_mem (by rw[yb.len];exact yc));have QS:=(cL (qK ck) (k:=B.k) (base:=((rk B.ax).getD a 0).toNat) (by omega)).1.len;have QT:=(cL (qK yb) (k:=B2.k) (base:=((rk B2.ax).getD a2 0).toNat) (by omega)).1.len;have g1:B.bW<=B.ax.length+1:=BF B.ax;have g2':B2.bW<=B2.ax.length+1:=BF B2.ax;have g3:B.ax.length=B.n:=by have:=ck.len;rwa [sX]at this
   have g4:B2.ax.length=B2.n:=by have:=yb.len;rwa [sX]at this
   have d0:=fM.d0;have ae3:=hD.d0;have QS:(met B.tab B.k B.bW ((rk B.ax).getD a 0).toNat).length<=B.bW:=QS;have QT:(met B2.tab B.k B2.bW ((rk B2.ax).getD a2 0).toNat).length<=B2.bW:=by rw[<-pW];exact QT
   refine⟨_,rfl,lr,ps,rfl,Oz.same Em,λp hp=>⟨(mj p hp).rd,(mj p hp).ne,by have:=(mj p hp).ln;omega⟩,λHa sa=>⟨_,rfl,cf ⟨_,rfl,QP,nU,rfl,OA.same sa,λp hp=>⟨(ml p hp).rd,(ml p hp).ne,by have:=(ml p hp).ln;omega⟩,λHb sb=>⟨_,rfl,cf ?_⟩⟩⟩⟩;have Eo:=pR.trans (Em.trans (sa.trans sb));have Ep:=wo.trans (BN.trans Eo);have hDb:=hD.same Ep;have hBb:=QJ.same Ep;have pU:=(lF.same BN).same Eo;have pH:=lG.same Eo
   have P1:(∀p∈ps,fT (rowsOf B2.es) a2 p.2 a2)↔∀r∈bw (fV (a9 B.tab (met B.tab B.k B.bW ((rk B.ax).getD a 0).toNat)) B.k (met B.tab B.k B.bW ((rk B.ax).getD a 0).toNat).length b1) B.k n1,aG (a9 B2.tab (met B2.tab B.k B2.bW ((rk B2.ax).getD a2 0).toNat)) (some 0) r=some 0:=by
    rw[<-QO];constructor
    ·intro h r hr;obtain⟨p,hp,rfl⟩:=Zg.mp hr;have:=(uX hD yc (mj p hp).rd (by rw[pW];exact(mj p hp).ll)).mp (h p hp)
     rwa [pW]at this
    ·intro h p hp;refine(uX hD yc (mj p hp).rd (by rw[pW];exact(mj p hp).ll)).mpr ?_;rw[pW];exact h p.2 (Zg.mpr ⟨p,hp,rfl⟩)
   have P2:(∀p∈nU,fT (rowsOf B.es) a p.2 a)↔∀r∈bw (fV (a9 B2.tab (met B2.tab B.k B2.bW ((rk B2.ax).getD a2 0).toNat)) B.k (met B2.tab B.k B2.bW ((rk B2.ax).getD a2 0).toNat).length b2) B.k n2,aG (a9 B.tab (met B.tab B.k B.bW ((rk B.ax).getD a 0).toNat)) (some 0) r=some 0:=by
    rw[<-QR];constructor
    ·intro h r hr;obtain⟨p,hp,rfl⟩:=Zg.mp hr;exact(uX fM ha (ml p hp).rd (ml p hp).ll).mp (h p hp)
    ·intro h p hp;exact(uX fM ha (ml p hp).rd (ml p hp).ll).mpr (h p.2 (Zg.mpr ⟨p,hp,rfl⟩))
   rw[<-P1, <-P2]at ca;refine⟨_,rfl,_,rfl,_,rfl,aY a ((sA.trans Ep).ints (s9.ints Ej)) (by omega) ⟨_,rfl,g2,QI,B2,NM,a2,lr,ps,(by rw[QK];rfl),hDb,yc,Oz.same (Em.trans (sa.trans sb)),λp hp=>⟨by rw[pW];exact(mj p hp).ll,by have:=(mj p hp).ln;omega⟩,λbb Hc xc uJ=>⟨_,rfl,?_⟩⟩⟩;cases bb with
   |false=>
    refine cf ?_;refine Oy _ _ _ _ _ _ _ _ _ _ _ x1 x2 B.k n1 n2 _ _ pV mf false Hc (pU.same uJ) (pH.same uJ) ⟨(λz=>nomatch z),λz=>?_⟩;cases xc.mpr (ca.mp z).1
   |true=>
    refine fD ⟨_,rfl,_,rfl,_,rfl,g,lh,B,qO,a,QP,nU,rfl,hBb.same uJ,ha,OA.same (sa.trans (sb.trans uJ)),λp hp=>⟨(ml p hp).ll,by have:=(ml p hp).ln;omega⟩,λb3 Hd QU sd=>?_⟩;have QV:=uJ.trans sd;exact Oy _ _ _ _ _ _ _ _ _ _ _ x1 x2 B.k n1 n2 _ _ pV mf b3 Hd (pU.same QV) (pH.same QV) ⟨λz=>ca.mpr ⟨xc.mp rfl,QU.mp z⟩,λz=>QU.mpr (ca.mp z).2⟩
  obtain⟨u3,Ef,Eg⟩:=qO
  refine⟨_,(@sC _ _ _ _ _ (@sS _ 1 _ _ _ _ _ gV.nd rfl (Or.inl rfl) (N.pe hr (@aC _ _ _ _ _ (pv 0) (@aC _ _ _ _ _ ak ae (by rfl)) (by rfl))) (by rfl) (.inl rfl))
   (@sC _ _ _ _ _ (@sS _ 2 _ _ _ _ _ gV.nd rfl (Or.inl rfl) (aH cY ak (aH cc (aD aP (pv 1) ak (λ_ _=>rfl)) ak)) (by rfl) (.inl rfl))
   (@sC _ _ _ _ _ (@sS _ 3 _ _ _ _ _ gV.nd rfl (Or.inl rfl) (aH cY ak (aH cc (aD aP (pv 1) ak (λ_ _=>rfl)) ak)) (by rfl) (.inl rfl))
   Ef))),?_⟩
  refine⟨_,rfl,sc,ns,120,rfl,hS,hn,by decide,λl0 ms G hm hg f0 h0 s0=>?_⟩;have a0:=Zz (ms.getD 0 0) (show(3:Int)≠0 by decide);have a1:=Zy (ms.getD 0 0) (show(0:Int)<3 by decide);have b0:=Zz (ms.getD 1 0) (show(8:Int)≠0 by decide);have b1:=Zy (ms.getD 1 0) (show(0:Int)<8 by decide);refine⟨_,rfl,aY 0 h0 (by omega) ⟨_,_,rfl,rfl,(by show(0:Int)<3;decide),_,_,rfl,rfl,?_⟩⟩;refine⟨_,rfl,aY 1 h0 (by omega) ⟨_,_,rfl,rfl,(by show(0:Int)<8;decide),_,_,rfl,rfl,?_⟩⟩;have:=Eg l0 ms (1+ms.getD 0 0%3).toNat (1+ms.getD 1 0%8).toNat G h0 hm (by omega) (by omega) (by omega) (by omega);rw[Zw (show 0<=1+ms.getD 0 0%3 by omega),Zw (show 0<=1+ms.getD 1 0%8 by omega)]at this;exact this
end
abbrev NsN(K:PySem.W.Frag)(n:Str):Prop:=PySem.W.nsIn K mainGlobals n=some none
abbrev NsI(K:PySem.W.Frag)(n:Str)(f:Addr):Prop:=PySem.W.nsIn K mainGlobals n=some (some (.ref f))
structure De(K:PySem.W.Frag)(n:Str)(st:Stmt)(f:Addr)(d:FuncData):Prop where
 a:PySem.W.nsIn K mainGlobals n=some (some (.ref f))
 F:aJ K n n st f d
structure Md(K:PySem.W.Frag)(C:Addr)(n q:Str)(st:Stmt)(f:Addr)(d:FuncData):Prop where
 a:PySem.W.findIn K (.ref C) n=some (some (.ref f))
 i:PySem.W.isFn K (.ref f)=true
 F:aJ K n q st f d
structure hX(K:PySem.W.Frag)(n:Str)(C:Addr):Prop where
 a:PySem.W.nsIn K mainGlobals n=some (some (.ref C))
 pg:PySem.W.plainGet K C Str.empty=true
 hd:PySem.W.hasDictIn K C=true
 po:PySem.W.plainOver K C=true
 sa:PySem.W.findIn K (.ref C) "__setattr__"=some (some (.builtin "object.__setattr__"))
 ms:PySem.W.makesIn K C=true
 kc:PySem.W.keepIn K (.ref C)=true
section
variable {K:PySem.W.Frag}{h:Heap}{mg:Str->Option Value}{x:Str}
def mo{v:Value}(X:K.In h)(G:h.Ns mainGlobals mg)(a:PySem.W.nsIn K mainGlobals x=some (some v)):mg x=some v:=PySem.W.mg_of X G a
def mn(X:K.In h)(G:h.Ns mainGlobals mg)(a:NsN K x):mg x=none:=PySem.W.mg_none_of X G a
variable {P:Program}{w:World}{base:Heap}{C f:Addr}{st:Stmt}{d:FuncData}{ps:List Str}{k:Nat}{sp:Sp}{q:Str}
def hX.cl(c:hX K x C):eI K C:=⟨c.pg,c.hd,c.po,c.sa⟩
def mk1(X:K.In h)(G:h.Ns mainGlobals mg)(e:De K x st f d)(ok:aB P w K mg base aM k f d ps sp)(b:Binds K d ps []):ba P w K mg base x ps k sp:=⟨f,d,ok,mo X G e.a,e.F.kp,b⟩
def mkx(X:K.In h)(G:h.Ns mainGlobals mg)(e:De K x st f d)(ok:aB P w K mg base (bS P w) k f d ps sp)(b:Binds K d ps []):lO P w K mg base x ps k sp:=⟨f,d,ok,mo X G e.a,e.F.kp,b⟩
def mkm{n:Str}(c:hX K n C)(e:Md K C x q st f d)(ok:aB P w K mg base aM k f d ps sp)(b:Binds K d ps []):cz P w K mg base C x ps k sp:=⟨f,d,ok,c.cl,⟨e.a,e.i,e.F.kp⟩,b⟩
def aer{n:Str}(c:hX K n C)(e:Md K C x q st f d)(ok:aB P w K mg base (bS P w) k f d ps sp)(b:Binds K d ps []):b4 P w K mg base C x ps k sp:=⟨f,d,ok,c.cl,⟨e.a,e.i,e.F.kp⟩,b⟩
def CY(X:K.In h)(G:h.Ns mainGlobals mg)(c:hX K x C)(e:Md K C "__init__" q st f d)(ok:aB P w K mg base aM k f d ps sp)(b:Binds K d ps []):kE P w K mg base C x ps k sp:=⟨f,d,ok,⟨c.ms,e.a,e.i,c.kc⟩,mo X G c.a,b⟩
def aes(X:K.In h)(G:h.Ns mainGlobals mg)(c:hX K x C)(e:Md K C "__init__" q st f d)(ok:aB P w K mg base (bS P w) k f d ps sp)(b:Binds K d ps []):Oe P w K mg base C x ps k sp:=⟨f,d,ok,⟨c.ms,e.a,e.i,c.kc⟩,mo X G c.a,b⟩
variable {p1 p2 p3 p4 p5 p6 p7 p8:Str}
def dE(F:aJ K x q st f d)(h:∀(kV doc pm:Value) (an:Option Addr) (aw ct u1:Value),bindArgs (PySem.W.fnOf x q (j8 st) (eV st) (aF st) .none kV doc pm an aw ct) ⟨[u1],[]⟩=pure [(p1,u1)]:=by intros;rfl):Binds K d [p1] []:=F.binds λkV doc pm an aw ct us hl=>by
 obtain⟨u1,rfl⟩:=O0 hl;exact h kV doc pm an aw ct u1
def dF(F:aJ K x q st f d)(h:∀(kV doc pm:Value) (an:Option Addr) (aw ct u1 u2:Value),bindArgs (PySem.W.fnOf x q (j8 st) (eV st) (aF st) .none kV doc pm an aw ct) ⟨[u1,u2],[]⟩=pure [(p1,u1),(p2,u2)]:=by intros;rfl):Binds K d [p1,p2] []:=F.binds λkV doc pm an aw ct us hl=>by
 obtain⟨u1,u2,rfl⟩:=CZ hl;exact h kV doc pm an aw ct u1 u2
def gu(F:aJ K x q st f d)(h:∀(kV doc pm:Value) (an:Option Addr) (aw ct u1 u2 u3:Value),bindArgs (PySem.W.fnOf x q (j8 st) (eV st) (aF st) .none kV doc pm an aw ct) ⟨[u1,u2,u3],[]⟩=pure [(p1,u1),(p2,u2),(p3,u3)]:=by intros;rfl):Binds K d [p1,p2,p3] []:=F.binds λkV doc pm an aw ct us hl=>by
 obtain⟨u1,u2,u3,rfl⟩:=O1 hl;exact h kV doc pm an aw ct u1 u2 u3
def pX(F:aJ K x q st f d)(h:∀(kV doc pm:Value) (an:Option Addr) (aw ct u1 u2 u3 u4:Value),bindArgs (PySem.W.fnOf x q (j8 st) (eV st) (aF st) .none kV doc pm an aw ct) ⟨[u1,u2,u3,u4],[]⟩=pure [(p1,u1),(p2,u2),(p3,u3),(p4,u4)]:=by intros;rfl):Binds K d [p1,p2,p3,p4] []:=F.binds λkV doc pm an aw ct us hl=>by
 obtain⟨u1,u2,u3,u4,rfl⟩:=O2 hl;exact h kV doc pm an aw ct u1 u2 u3 u4
def QW(F:aJ K x q st f d)(h:∀(kV doc pm:Value) (an:Option Addr) (aw ct u1 u2 u3 u4 u5:Value),bindArgs (PySem.W.fnOf x q (j8 st) (eV st) (aF st) .none kV doc pm an aw ct) ⟨[u1,u2,u3,u4,u5],[]⟩=pure [(p1,u1),(p2,u2),(p3,u3),(p4,u4),(p5,u5)]:=by intros;rfl):Binds K d [p1,p2,p3,p4,p5] []:=F.binds λkV doc pm an aw ct us hl=>by
 obtain⟨u1,u2,u3,u4,u5,rfl⟩:=us5 hl;exact h kV doc pm an aw ct u1 u2 u3 u4 u5
end
def all_mk{l:PySem.W.OpenLaw}{w:World}{K:PySem.W.Frag}{h:Heap}{mg:Str->Option Value}{fa f1 f2 f3 f4 f5 f6 f7 f8 f9 f10 f11 f12 f13 f14 QN QQ f17 f18 f19 f20 f21 f22 f23 f24 f25 f26 f27 f28 f29 f30 f31 f32 f33 f34 f35 f36 f37 f38 f39 f40 f41 f42 f43 f44 f45 f46 f47 f48 f49 f50 f51 f52 f53 f54 f55 f56 f57 f58 f59 f60 f61 f62 f63 f64 f65 f66 f67 f68 ig fX cW kg sQ sT ow tD sg n9:Addr}(X:K.In h)(G:h.Ns mainGlobals mg)(hfa:mg "law"=some (.ref fa))
  {d1 d2 d3 d4 d5 d6 d7 d8 d9 d10 d11 d12 d13 d14 d15 d16 d17 d18 d19 d20 d21 d22 d23 d24 d25 d26 d27 d28 d29 d30 d31 d32 d33 d34 d35 d36 d37 d38 d39 d40 d41 d42 d43 d44 d45 d46 d47 d48 d49 d50 d51 d52 d53 d54 d55 d56 d57 d58 d59 d60 d61 d62 d63 d64 d65 d66 d67 d68:FuncData}{aet aeu aev adi aew:Tok}{VB VC:Option Addr}{VD VE:Str}{VF Ue:List Value}{zF:Addr}{VG VH:Bool}{VI:List Str}{Ug:Option Bool}{XH XI XJ XM XN:Option Value}{VJ:Value}{IM:Array DictEntry}{VL:Nat}{VM:Array (Option Value)}{odB dBn:Option Addr}{nmB qnB:Str}{bsB subB aex:List Value}{Er:Addr}{hdB abB aey:Bool}{snB:List Str}{aez:Option Bool}{cBn ocB:Value}{QX:Array DictEntry}{nBn:Nat}{slB aeA:Array (Option Value)}{VN VO:Option Addr}{VP VQ:Str}{VR Uh:List Value}{zG:Addr}{VS VT:Bool}{VU:List Str}{Ui:Option Bool}{XO XQ XR XS XT:Option Value}{VW:Value}{IP:Array DictEntry}{VX:Nat}{VY:Array (Option Value)}{VZ V1:Option Addr}{V3 V4:Str}{V6 Uj:List Value}{zH:Addr}{V7 V8:Bool}{Wa:List Str}{Uk:Option Bool}{XU XW XX XY XZ:Option Value}{Wb:Value}{IQ:Array DictEntry}{Wc:Nat}{Wd:Array (Option Value)}{aaK aaL:Option Addr}{aaM aaN:Str}{aaO X0:List Value}{AL:Addr}{aaP aaQ:Bool}{aaR:List Str}{X1:Option Bool}{acf acg ach aci acj:Option Value}{aaS:Value}{LY:Array DictEntry}{aaT:Nat}{aaU:Array (Option Value)}{Sg Sh:Option Addr}{Si Sj:Str}{Sk RV:List Value}{yY:Addr}{Sl Sm:Bool}{Sn:List Str}{RX:Option Bool}{S2 S3 S4 S5 S6:Option Value}{So:Value}{Gi:Array DictEntry}{Sq:Nat}{Sr:Array (Option Value)}{aeB:Tok}{aeC aeD aeE:Tok}{aeF aeG:Tok}
  (cGroups:hX K "Groups" ig)(cFold:hX K "Fold" fX)(cSurvey:hX K "Survey" cW)(cChart:hX K "Chart" kg)(aNoKind:NsI K "NoKind" sQ)(aNoMark:NsI K "NoMark" sT)(aBarred:NsI K "Barred" ow)(aFull:NsI K "Full" tD)(aNoChamber:NsI K "NoChamber" sg)(aCaveError:NsI K "CaveError" n9)(v1:De K "_law_numbers" FG f1 d1)(v2:De K "_law_is_way" F8 f2 d2)(v3:De K "_law_cut" Hh f3 d3)(v4:De K "_law_ways_right" yn f4 d4)(v5:De K "_law_entered" yC f5 d5)(v6:De K "_law_entry" yW f6 d6)(v7:De K "_law_book" zd f7 d7)(v8:De K "_law_mixed" yX f8 d8)(v9:De K "_law_renamed" yD f9 d9)(v10:De K "_law_second" jx f10 d10)(v11:De K "_law_within" yM f11 d11)(uk:De K "check_shape" yH f12 d12)(Es:De K "beginnings" yT f13 d13)(Et:De K "turned" Kk f14 d14)(Eu:De K "letters_in_order" yi QN d15)(Ew:De K "ways_from" zc QQ d16)(Ex:De K "is_used" zB f17 d17)(Ey:De K "loose_passages" yp f18 d18)(Ez:De K "home_row" zk f19 d19)(v20:De K "homes" AJ f20 d20)(EA:De K "renumbered" yU f21 d21)(EB:De K "numbered" zj f22 d22)(EC:De K "chambers_beside" yj f23 d23)(ED:De K "without_hairs" yr f24 d24)(EF:De K "core" Bf f25 d25)(EG:De K "word_of" zE f26 d26)(EH:De K "written" zD f27 d27)(EI:De K "chart_of" zm f28 d28)(EJ:De K "chambers_of" yL f29 d29)(v30:De K "near_mark" Gy f30 d30)(EK:De K "far_mark" He f31 d31)(EL:De K "folded" Kl f32 d32)(EM:De K "trail" LS f33 d33)(rS:De K "check_letters" uO f34 d34)(EN:De K "rows_of" zC f35 d35)(EO:De K "broken_oath" yK f36 d36)(ER:Md K ig "__init__" "Groups.__init__" Fy f37 d37)(ES:Md K ig "together" "Groups.together" Fz f38 d38)(ET:Md K ig "unite" "Groups.unite" FF f39 d39)(EU:Md K fX "__init__" "Fold.__init__" FC f40 d40)(yd:Md K fX "lay" "Fold.lay" Hf f41 d41)(EV:Md K fX "put" "Fold.put" Hg f42 d42)(EW:Md K fX "settle" "Fold.settle" FZ f43 d43)(EY:Md K fX "merge" "Fold.merge" Gh f44 d44)(EZ:Md K cW "__init__" "Survey.__init__" yk f45 d45)(E1:Md K cW "chalk" "Survey.chalk" yu f46 d46)(E2:Md K cW "row" "Survey.row" yV f47 d47)(E3:Md K cW "apart" "Survey.apart" yw f48 d48)(E4:Md K cW "marks" "Survey.marks" yx f49 d49)(E5:Md K cW "entries" "Survey.entries" yq f50 d50)(E6:Md K cW "same" "Survey.same" yI f51 d51)(E7:Md K cW "paper" "Survey.paper" yy f52 d52)(E8:Md K cW "must_paper" "Survey.must_paper" yg f53 d53)(E9:Md K cW "enter" "Survey.enter" yB f54 d54)(Fb:Md K cW "laid" "Survey.laid" yJ f55 d55)(Fc:Md K cW "check_marks" "Survey.check_marks" yf f56 d56)(Fd:Md K cW "check_room" "Survey.check_room" yh f57 d57)(Fe:Md K cW "labels" "Survey.labels" yt f58 d58)(Ff:Md K cW "chambers" "Survey.chambers" ym f59 d59)(Fg:Md K cW "piece" "Survey.piece" yz f60 d60)(Fh:Md K cW "never_paper" "Survey.never_paper" ye f61 d61)(Fi:Md K cW "judge" "Survey.judge" yA f62 d62)(Fj:Md K kg "__init__" "Chart.__init__" yo f63 d63)(Fl:Md K kg "size" "Chart.size" yR f64 d64)(Fm:Md K kg "table" "Chart.table" yG f65 d65)(rT:Md K kg "check_chamber" "Chart.check_chamber" uL f66 d66)(Fn:Md K kg "step" "Chart.step" yS f67 d67)(Fo:De K "law" ko f68 d68)(RY:NoAttr K ig "least")(S7:NoAttr K ig "lay")(Ss:NoAttr K fX "groups")(S8:NoAttr K fX "doors")(RZ:NoAttr K fX "waiting")(S9:NoAttr K fX "steps")(R0:NoAttr K cW "kinds")(Su:NoAttr K cW "many")(Rq:NoAttr K cW "standing")(RI:NoAttr K cW "coming")(Sv:NoAttr K cW "held")(Sw:NoAttr K kg "kinds")(R1:NoAttr K kg "onward")(R3:NoAttr K kg "inward")(z1:NsN K "len")(z2:NsN K "range")(z3:NsN K "list")(z4:NsN K "int")(z5:NsN K "bool")(z6:NsN K "isinstance")(z7:NsN K "tuple")(z8:NsN K "abs")(z9:NsN K "enumerate")(z10:NsN K "str")(adj:NsN K "min")(adk:NsN K "max")(adl:NsN K "sum")(QY:PySem.W.nsIn K mainGlobals "MOST_KINDS"=some (some (.int 5 aet)))(yMM:PySem.W.nsIn K mainGlobals "MOST_MARKS"=some (some (.int 24 aeu)))(yME:PySem.W.nsIn K mainGlobals "MOST_ENTRIES"=some (some (.int 40 aev)))(aeH:PySem.W.nsIn K mainGlobals "ROW"=some (some (.str "row" adi)))(yAP:PySem.W.nsIn K mainGlobals "APART"=some (some (.str "apart" aew)))(e7:PySem.W.specialIn K (.builtin "object.__class__") "__get__"=some (some (.builtin "getset_descriptor.__get__")))(e8:PySem.W.takesIn K (.builtin "object.__class__")=some true)(X2:K.lookup sQ=some ⟨.type "type",VB,.cls ⟨VD,VF,.ref sQ::.ref n9::gD,zF,VE,VG,VI,Ue,VH,Ug,false⟩, #[XH,XI,XJ,XM,some (.builtin "ValueError.__new__"),XN]⟩)(We:K.lookup zF=some ⟨VJ,VC,.dict IM VL,VM⟩)(X3:IM.toList.all oG=true)(X4:PySem.W.nsIn K zF "__init__"=some none)(lB:K.lookup n9=some ⟨ocB,odB,.cls ⟨nmB,bsB,aex,Er,qnB,hdB,snB,subB,abB,aez,aey⟩,aeA⟩)(uK:K.lookup Er=some ⟨cBn,dBn,.dict QX nBn,slB⟩)(hB:QX.toList.all oG=true)(iB:PySem.W.nsIn K Er "__init__"=some none)(X5:K.lookup sT=some ⟨.type "type",VN,.cls ⟨VP,VR,.ref sT::.ref n9::gD,zG,VQ,VS,VU,Uh,VT,Ui,false⟩, #[XO,XQ,XR,XS,some (.builtin "ValueError.__new__"),XT]⟩)(Wf:K.lookup zG=some ⟨VW,VO,.dict IP VX,VY⟩)(X6:IP.toList.all oG=true)(X7:PySem.W.nsIn K zG "__init__"=some none)(X8:K.lookup ow=some ⟨.type "type",VZ,.cls ⟨V3,V6,.ref ow::.ref n9::gD,zH,V4,V7,Wa,Uj,V8,Uk,false⟩, #[XU,XW,XX,XY,some (.builtin "ValueError.__new__"),XZ]⟩)(Wg:K.lookup zH=some ⟨Wb,V1,.dict IQ Wc,Wd⟩)(X9:IQ.toList.all oG=true)(Ya:PySem.W.nsIn K zH "__init__"=some none)(ack:K.lookup tD=some ⟨.type "type",aaK,.cls ⟨aaM,aaO,.ref tD::.ref n9::gD,AL,aaN,aaP,aaR,X0,aaQ,X1,false⟩, #[acf,acg,ach,aci,some (.builtin "ValueError.__new__"),acj]⟩)(aaV:K.lookup AL=some ⟨aaS,aaL,.dict LY aaT,aaU⟩)(acm:LY.toList.all oG=true)(acn:PySem.W.nsIn K AL "__init__"=some none)(Ta:K.lookup sg=some ⟨.type "type",Sg,.cls ⟨Si,Sk,.ref sg::.ref n9::gD,yY,Sj,Sl,Sn,RV,Sm,RX,false⟩, #[S2,S3,S4,S5,some (.builtin "ValueError.__new__"),S6]⟩)(Sx:K.lookup yY=some ⟨So,Sh,.dict Gi Sq,Sr⟩)(Tc:Gi.toList.all oG=true)(Td:PySem.W.nsIn K yY "__init__"=some none)(exsBarred:PySem.W.exmOne K (.ref ow) (.ref ow)=some true)(yMC:PySem.W.nsIn K mainGlobals "MOST_CHAMBERS"=some (some (.int 700 aeB)))(yMU:PySem.W.nsIn K mainGlobals "MUST"=some (some (.str "must" aeC)))(yNV:PySem.W.nsIn K mainGlobals "NEVER"=some (some (.str "never" aeD)))(yOP:PySem.W.nsIn K mainGlobals "OPEN"=some (some (.str "open" aeE)))(yHD:PySem.W.nsIn K mainGlobals "HEAD"=some (some (.str "chart" aeF)))(yUN:PySem.W.nsIn K mainGlobals "UNKNOWN"=some (some (.str "-" aeG)))
  :∃fd:FuncData,(∀(s:Shared) (v:Value),BindsTo s fd ⟨[v],[]⟩ [("_law_script",v)])/\∀base:Heap,K.In base->base.Ns mainGlobals mg->aB l.prog w K mg base aM 14 fa fd ["_law_script"] (vX K):=by
 have e:=hfa.symm.trans (mo X G Fo.a);cases e;have T:Txt K mg:=⟨mn X G z1,mn X G z2,mn X G z3,mn X G z4,mn X G z5,mn X G z6,mn X G z7,mn X G z8,mn X G z9,mn X G z10⟩;have Yb:=cGroups.cl;have aaW:=cGroups.a;have aco:=cFold.cl;have adn:=cFold.a;have Yc:=cSurvey.cl;have aeL:=cSurvey.a;have aaX:=cChart.cl;have aeM:=cChart.a;have TM:wD mg:=⟨mn X G adj,mn X G adk⟩;have TG:mW K mg ig:=⟨Yb,RY,mo X G aaW⟩;have TF:oQ K mg fX:=⟨aco,Ss,S8,RZ,S9,mo X G adn⟩
 have kF:fX≠ig:=λe=>by
  have z:=yd.a;rw[e,show PySem.W.findIn K (.ref ig) "lay"=some none from S7]at z;cases z
 have TS:fG K mg cW:=⟨Yc,R0,Su,Rq,RI,Sv,⟨_,mo X G QY⟩,⟨_,mo X G yMM⟩,⟨_,mo X G yME⟩,⟨_,mo X G aeH⟩,⟨_,mo X G yAP⟩⟩
 let CS:Nat->Addr:=λj=>([sQ,0,sT,0,0,sg,0,0,0,ow,tD]:List Addr).getD j 0
 have V0:gd K sQ=true:=sJ X2 (kb We X3) X4 lB (kb uK hB) iB;have V2:gd K sT=true:=sJ X5 (kb Wf X6) X7 lB (kb uK hB) iB;have V9:gd K ow=true:=sJ X8 (kb Wg X9) Ya lB (kb uK hB) iB;have QZ:gd K tD=true:=sJ ack (kb aaV acm) acn lB (kb uK hB) iB;have V5:gd K sg=true:=sJ Ta (kb Sx Tc) Td lB (kb uK hB) iB;have TC:lA K mg kg:=⟨aaX,Sw,R1,R3,⟨_,mo X G QY⟩,⟨_,mo X G yMC⟩,mn X G adl⟩;have TJ:Og mg:=⟨⟨_,mo X G yMU⟩,⟨_,mo X G yNV⟩,⟨_,mo X G yOP⟩⟩;have TH:BJ mg:=⟨⟨_,mo X G yHD⟩,⟨_,mo X G yUN⟩⟩;obtain⟨x1,x2,x3,x4,x5,x6,x7,x8,x9,e,_⟩:=Fo.F.ex;subst e;refine⟨PySem.W.fnOf "law" "law" (j8 ko) (eV ko) (aF ko) .none x3 x4 x5 x6 x7 x8,λs v=>.of_eq rfl,λbase _ _=>?_⟩;have m1:∀{x:Str}{ps:List Str}{k:Nat}{sp:Sp}{f:Addr}{st:Stmt}{d:FuncData},De K x st f d->aB l.prog w K mg base aM k f d ps sp->Binds K d ps []->ba l.prog w K mg base x ps k sp:=λe o b=>mk1 X G e o b;have m2:∀{x:Str}{ps:List Str}{k:Nat}{sp:Sp}{f:Addr}{st:Stmt}{d:FuncData},De K x st f d->aB l.prog w K mg base (bS l.prog w) k f d ps sp->Binds K d ps []->lO l.prog w K mg base x ps k sp:=λe o b=>mkx X G e o b;have m3:∀{n x q:Str}{C:Addr}{ps:List Str}{k:Nat}{sp:Sp}{f:Addr}{st:Stmt}{d:FuncData},hX K n C->Md K C x q st f d->aB l.prog w K mg base aM k f d ps sp->Binds K d ps []->cz l.prog w K mg base C x ps k sp:=λc e o b=>mkm c e o b;have m4:∀{n x q:Str}{C:Addr}{ps:List Str}{k:Nat}{sp:Sp}{f:Addr}{st:Stmt}{d:FuncData},hX K n C->Md K C x q st f d->aB l.prog w K mg base (bS l.prog w) k f d ps sp->Binds K d ps []->b4 l.prog w K mg base C x ps k sp:=λc e o b=>aer c e o b;have m5:∀{x q:Str}{C:Addr}{ps:List Str}{k:Nat}{sp:Sp}{f:Addr}{st:Stmt}{d:FuncData},hX K x C->Md K C "__init__" q st f d->aB l.prog w K mg base aM k f d ps sp->Binds K d ps []->kE l.prog w K mg base C x ps k sp:=λc e o b=>CY X G c e o b;have m6:∀{x q:Str}{C:Addr}{ps:List Str}{k:Nat}{sp:Sp}{f:Addr}{st:Stmt}{d:FuncData},hX K x C->Md K C "__init__" q st f d->aB l.prog w K mg base (bS l.prog w) k f d ps sp->Binds K d ps []->Oe l.prog w K mg base C x ps k sp:=λc e o b=>aes X G c e o b
 let RJ:=m1 v1 (abX v1.F T) (dF v1.F)
 let R4:=m1 v2 (ac8 v2.F T) (dE v2.F)
 let Ul:=m1 v3 (abY v3.F T) (dE v3.F)
 let Rj:=m1 v4 (ade v4.F T R4 Ul) (dE v4.F)
 let Sy:=m1 v6 (XB v6.F) (gu v6.F)
 let Sz:=m1 v8 (XC v8.F T) (dF v8.F)
 let RK:=m1 v9 (T9 v9.F) (dF v9.F)
 let R5:=m1 uk (XE uk.F T TC) (dF uk.F)
 let SA:=m1 Es (ab7 Es.F T) (dE Es.F)
 let Yd:=m1 Et (Vr Et.F) (dE Et.F)
 let Fx:=m1 Eu (aca Eu.F T TC) (dE Eu.F)
 let Wh:=m1 Ex (aaF Ex.F) (pX Ex.F)
 let Um:=m1 Ez (aaG Ez.F Yd) (dF Ez.F)
 let Wi:=m1 EG (Vu EG.F T TH) (dE EG.F)
 let R6:=m1 EJ (aaJ EJ.F T) (dE EJ.F)
 let Gz:=m1 v30 (aat v30.F) (dF v30.F)
 let Uo:=m1 EK (ab0 EK.F Gz) (dF EK.F)
 let aaY:=m1 EM (Xr EM.F T) (gu EM.F)
 let RB:=m1 rS (ab9 rS.F T) (dF rS.F)
 let u9:=m1 EN (Vp EN.F TS) (dE EN.F)
 let F9:=m1 EO (ab5 EO.F TS) (dF EO.F)
 let Rk:=m3 cGroups ES (ab2 ES.F TG) (gu ES.F)
 let FN:=m3 cGroups ET (ab1 ET.F TM TG) (gu ET.F)
 let Hi:=m3 (sp:=tf fX ig) cFold EV (ab3 EV.F TF) (pX EV.F)
 let SD:=m3 (sp:=Ap fX ig) cFold EY (Xp EY.F T TM TF TG FN Hi) (gu EY.F)
 let Kn:=m5 cSurvey EZ (XA EZ.F TS) (dF EZ.F)
 let FP:=m4 cSurvey E1 (Vq E1.F (mo X G aFull) QZ TS) (dE E1.F)
 let aeJ:=m3 cSurvey E4 (Xz E4.F TS) (dE E4.F)
 let aeI:=m3 cSurvey E5 (T7 E5.F T TS) (dE E5.F)
 let FQ:=m3 cSurvey E9 (Xu E9.F TS) (dF E9.F)
 let uM:=m4 cSurvey Fc (aaw Fc.F (mo X G aNoMark) V2 TS) (gu Fc.F)
 let Fs:=m4 cSurvey Fd (aax Fd.F (mo X G aFull) QZ T TS) (dE Fd.F)
 let LZ:=m5 cChart Fj (aaA Fj.F T TC R5 SA) (gu Fj.F)
 let rX:=m3 cChart Fl (aaB Fl.F T TC) (dE Fl.F)
 let yP:=m3 cChart Fm (aaC Fm.F T TC rX) (dE Fm.F)
 let Q8:=m3 cChart rT (ab8 rT.F rX) (dF rT.F)
 let Gj:=m3 cChart Fn (aaD Fn.F TC Q8 RB) (gu Fn.F)
 let Rl:=m2 rS (aav rS.F (mo X G aNoKind) V0 T) (dF rS.F)
 let Q7:=m4 cChart rT (aaI rT.F (mo X G aNoChamber) V5 rX) (dF rT.F)
 let GA:=m1 Ew (aaE Ew.F T Fx Gj) (dF Ew.F)
 let Rr:=m1 Ey (XF Ey.F T yP Wh) (dF Ey.F)
 let aaZ:=m1 v20 (XG v20.F GA Rr Um) (dE v20.F)
 let Gk:=m1 EA (acb EA.F T TC yP LZ) (dF EA.F)
 let Hj:=m2 EB (aaH EB.F T Q7 GA Gk) (dF EB.F)
 let Rm:=m1 EC (Vs EC.F T Fx Gj) (dF EC.F)
 let RC:=m1 ED (Sf ED.F T rX Rm) (dE ED.F)
 let acp:=m1 EF (Vt EF.F Hj Gk RC) (dE EF.F)
 let Wj:=m1 EH (Uc EH.F T TC TH rX yP Wi) (dE EH.F)
 let Up:=m1 EI (Ud EI.F T TM LZ) (gu EI.F)
 let Ye:=m5 cGroups ER (Xo ER.F T TG FN) (gu ER.F)
 let acq:=m5 cFold EU (Xq EU.F T TF Ye) (gu EU.F)
 let Uq:=m3 (sp:=Bt fX ig) cFold yd (ab4 yd.F TF TG Gz Hi) (dF yd.F)
 let R7:=m3 (sp:=zO fX ig) cFold EW (Vn EW.F TF TG Uo Rk SD) (dE EW.F)
 let Ga:=m4 cSurvey Fb (Xv Fb.F TS uM Rl aaY u9) (pX Fb.F)
 let vn:=m1 EL ((Vo EL.F T TF TG kF acq Uq R7).imp λ_ _ _ _=>W2) (gu EL.F)
 let SF:=m4 cSurvey E2 (Xy E2.F (mo X G aNoKind) V0 (mo X G aBarred) V9 TS uM Fs vn u9 F9 FQ) (pX E2.F)
 let Ft:=m4 cSurvey E8 (Xw E8.F T TS Ga vn) (pX E8.F)
 let RD:=m3 cSurvey Fe (Vv Fe.F TS vn u9) (dE Fe.F)
 let Rn:=m3 cSurvey Ff (S1 Ff.F RD R6) (dE Ff.F)
 let RL:=m4 cSurvey Fg (Vw Fg.F TS uM Rn u9 Up Hj) (dF Fg.F)
 let Ra:=m4 cSurvey Fh (Vx Fh.F T TS Ga vn F9) (pX Fh.F)
 let RM:=m4 cSurvey Fi (Vy Fi.F TJ Ft Ra) (pX Fi.F)
 let R8:=m1 v11 (VA v11.F RM) (gu v11.F)
 let RN:=m4 cSurvey E7 (aay E7.F Ft) (gu E7.F)
 let R9:=m4 cSurvey E6 (Xx E6.F RN) (gu E6.F)
 let RO:=m4 cSurvey E3 (ab6 E3.F (mo X G aBarred) V9 TS uM Fs R9 FQ) (gu E3.F)
 let FT:=m1 v5 (T8 v5.F (mo X G aBarred) exsBarred SF RO) (dF v5.F)
 let GB:=m1 v7 (aaz v7.F T FP Sy FT) (QW v7.F)
 let Sa:=m1 v10 (Vz v10.F T Kn GB FP FT RK) (QW v10.F)
 exact ace Fo.F T RJ Kn GB Sz Sa RL acp aaZ Rj R8 Wj
def walk{l:PySem.W.OpenLaw}{q:Program}{loose:List Str}{XP:(Str->Option Value)->Heap->Prop}{YP:World->Heap->Prop}{d:DefRec}{K:Params->PySem.W.Frag}(hn:l.most=some 63)(tW:d.params.defaults=[])
  (hY:∀(w:World) (h:Heap),YP w h->(K w.params).In h)
  (F:∀(w:World) (mg:Str->Option Value) (fa:Addr) (h:Heap),(K w.params).In h->h.Ns mainGlobals mg->mg d.name=some (.ref fa)->
   ∃fd:FuncData,(∀(s:Shared) (u:Value),BindsTo s fd ⟨[u],[]⟩ [("_law_script",u)])/\∀base:Heap,(K w.params).In base->base.Ns mainGlobals mg->aB l.prog w (K w.params) mg base aM 14 fa fd ["_law_script"] (vX (K w.params))):
  PySem.W.WalkO q loose XP YP l.row.toRowW d [] (λf vs=>PySem.call f vs):=
 L2.Yp (n:=63) (k:=14) (x:="_law_script") (CX:=λ_=>aM) (sp:=λw=>vX (K w.params)) hn (by decide) tW ⟨rfl,by decide,by decide⟩ hY F (λ_ _ a ns hl _ hS=>⟨a,ns,rfl,hS,hl,λ_=>rfl⟩) λ_ _ _ _ _ z=>z
end My
namespace PySem.W.Fast
def tw3435048752364444464:=()
def tw11847008634409622510:=()
def tw16394648651045445970:=()
def tw495657649475690135:=()
def tw9756361231648699456:=()
def tw8641187127936311539:=()
def tw15578500556418718147:=()
def tw5683933251068794786:=()
def tw16958663801656802008:=()
def tw14484457999786628776:=()
def tw13095567154157939109:=()
def tw18031590397610556139:=()
def tw9625138125366749498:=()
def tw13789636796402209003:=()
def tw5251117271460695679:=()
def tw1297419217205934094:=()
def tw1151808533517819929:=()
def tw15350159605280009816:=()
def tw8442621004326228849:=()
def tw13692093677676405863:=()
def tw17249641615874063021:=()
def tw16875004682162544348:=()
def tw11622196361395481335:=()
def tw3655504107350438097:=()
def tw810724459317995804:=()
def tw4419071143137778742:=()
def tw15205758896087822369:=()
def tw8715298055719438348:=()
def tw9884105678600164227:=()
def tw5132329579458163570:=()
def tw15642438642591359202:=()
def tw12865095927612551675:=()
def tw14056967483015640560:=()
def tw10316286640853226504:=()
def tw14604839675456078541:=()
def tw8736426630672228049:=()
def tw8415932048095393514:=()
def tw15358719305456966446:=()
def tw4245945686033336692:=()
def tw3432592593416526110:=()
def tw11041879688598420464:=()
def tw8879043046778324931:=()
def tw2318080998925719548:=()
def tw5400222849388318883:=()
def tw3661410672765887399:=()
def tw7095629961387292468:=()
def tw4338931921640731619:=()
def tw9414985015976749717:=()
def tw8601175483167671944:=()
def tw16191574429933964188:=()
def tw5181331863287977397:=()
def tw3621798561424490255:=()
def tw2805417150788534681:=()
def tw12875822604072839587:=()
def tw16093469385659878364:=()
def tw16379500994242338344:=()
def tw3109867491221709722:=()
def tw4722693477569485893:=()
def tw8170457638940942740:=()
def tw14232206461526930106:=()
def tw7111856553861023627:=()
def tw7533044476546481872:=()
def tw13082477881920675511:=()
def tw4253366187899063:=()
def tw2533667197529650139:=()
def tw15033572961201837789:=()
def tw9492074913541355375:=()
def tw15496096415213677735:=()
def tw280346396489991648:=()
def tw15714945930177689773:=()
def tw13963884844515859897:=()
def tw3833464627516250613:=()
def tw7226558974090025883:=()
def tw6939369451825246385:=()
def tw11877428975933428787:=()
def tw13294567810032942344:=()
def tw7670851816111996506:=()
def tw3766885872440272012:=()
def tw7607113586344297410:=()
def tw15350399948754463063:=()
def tw415192278131217572:=()
def tw13151763788348224967:=()
def tw3376746744851286163:=()
def tw4880139503708290318:=()
def tw15353891943651723909:=()
def tw5074203753781431592:=()
def tw6477121461436700892:=()
def tw11011231317598658784:=()
def tw7960647026514597080:=()
def tw7426585746842046222:=()
def tw14346467088304814816:=()
def tw8105551986953219039:=()
def tw2282342529492726594:=()
def tw10511334755799667264:=()
def tw13562712486032089904:=()
def tw18318648421945788241:=()
def tw4526990304104955219:=()
def tw16789689655527964451:=()
def tw8860437412998570094:=()
def tw9072797120464132168:=()
def tw6307885088596243390:=()
def tw478503736803579749:=()
def tw9444337400881215727:=()
def tw10420705868990302601:=()
def tw5237962497708966957:=()
def tw6836092967496426127:=()
def tw1637302796072034228:=()
def tw11447133331906996648:=()
def tw12112274391924774218:=()
def tw10867916877944135074:=()
def tw13403583810511382789:=()
def tw15769623008133546137:=()
def tw4624496639184827162:=()
def tw15257371763848304296:=()
def tw7606805226178198983:=()
def tw3606141931268958099:=()
def tw2336715714935880714:=()
def tw4155263995473477229:=()
def tw8179240165385774311:=()
def tw13624858937498436474:=()
def tw2640804388155400256:=()
def tw3465531229322516726:=()
def tw8720046677838392623:=()
def tw16063017108708089776:=()
def tw9949942577204000172:=()
def tw11936484053920493595:=()
def tw26178351531259598:=()
def tw895009590532746937:=()
def tw1320988676033640728:=()
def tw16152478433429103785:=()
def tw12959061410108226408:=()
def tw2952506380169888045:=()
def tw2812031211466970909:=()
def tw9919885875123086247:=()
def tw8875811857483412827:=()
def tw12413686573805976973:=()
def tw18230592952404827350:=()
def tw15495170806587090100:=()
def tw14620273124729016735:=()
def tw14865034573922277155:=()
def tw10807997794216558691:=()
def tw2745435875473528532:=()
def tw11817644574322377418:=()
def tw15525011497662342179:=()
def tw15613084945512122349:=()
def tw13431465324815945744:=()
def tw11003157283427252768:=()
def tw15552440067274919756:=()
def tw2047527483327110936:=()
def tw15080901515005577620:=()
def tw8701648543928280563:=()
def tw17339564641215799095:=()
def tw17467077723998934539:=()
def tw8111004865785015100:=()
def tw6781301705037617883:=()
def tw6293219688251861734:=()
def tw8541922307963103853:=()
def tw1301699621046029762:=()
def tw11742808484668081795:=()
def tw13729188506548539444:=()
def tw7794872327592143932:=()
def tw13893353961231778224:=()
def tw5320243352293198944:=()
def tw9371310472468028615:=()
def tw9925997258891126156:=()
def tw2038595735647376783:=()
def tw10861176223199702257:=()
def tw5658649926462807936:=()
def tw11895068000531530899:=()
def tw96544969403988504:=()
def tw13962956887313588995:=()
def tw746418592468333682:=()
def tw7324440934143638949:=()
def tw10226130237653269986:=()
def tw14781871369670550273:=()
def tw17502257289837645263:=()
def tw10277450737349511860:=()
def tw7527768193676140353:=()
def tw17835910441898844331:=()
def tw16194300404418309930:=()
def tw1499501671285487775:=()
def tw2011216203067421546:=()
def tw15363510630495163143:=()
def tw15109637547533330456:=()
def tw18088696994427244954:=()
def tw13795829003646458104:=()
def tw967175400347067541:=()
def tw7087478682862576757:=()
def tw14055390784069641114:=()
def tw3899367610670918996:=()
def tw16455727348862463744:=()
def tw11130711728319081047:=()
def tw561646398520805714:=()
def tw11706801512314918942:=()
def tw7597300886253415917:=()
def tw7590973693955418340:=()
def tw6184977600409163256:=()
def tw11052360499020139514:=()
def tw2471481302412463860:=()
def tw3643708222403657569:=()
def tw16107214323657113861:=()
def tw12042532453884633530:=()
def tw5697145857388582945:=()
def tw3868938714320110140:=()
def tw15141488546690711126:=()
def tw15838009614665591419:=()
def tw1945783399698029046:=()
def tw10306942240863006467:=()
def tw10257922430475724076:=()
def tw1348193764574002205:=()
def tw1794579210818930604:=()
def tw14719478627706061685:=()
def tw14250972253208193230:=()
def tw18043780945689755744:=()
def tw17202470584276974226:=()
def tw9088642290206191116:=()
def tw16267870959855918444:=()
def tw14537465519455763894:=()
def tw11427694373836021506:=()
def tw3425546986996191170:=()
def tw9941916967393322201:=()
def tw11102402951414744413:=()
def tw15603973191628696917:=()
def tw6859063542363988472:=()
def tw726090418892260470:=()
def tw5690062834826601981:=()
def tw9500847357791498652:=()
def tw16695570152412122009:=()
def tw3528530046262833496:=()
def tw73060205265017864:=()
def tw16243976882384077039:=()
def tw8757921506979598460:=()
def tw3879073281271487368:=()
def tw18338305172742165116:=()
def tw9438027226310630544:=()
def tw15804086158503479247:=()
def tw10054422028919114667:=()
def tw3944396796059946141:=()
def tw3034261449121580751:=()
def tw9947434371092369434:=()
def tw16275931155755599043:=()
def tw2816423742817699644:=()
def tw12237049102417770442:=()
def tw5125883390959563283:=()
def tw9454124346378603326:=()
def tw14178712418382240535:=()
def tw12979331348470145906:=()
def tw15461691730262959058:=()
def tw11586015078936332036:=()
def tw11760155195585024388:=()
def tw8736754271361400250:=()
def tw7334947551289659101:=()
def tw18232641482329831815:=()
def tw6184836696458325257:=()
def tw15133867640023551052:=()
def tw3036574977284237313:=()
def tw16224322396562340387:=()
def tw3878583597648142105:=()
def tw1203736529764739726:=()
def tw14938046445474028595:=()
def tw2654710414615330208:=()
def tw5968088813537134554:=()
def tw4774434150410289230:=()
def tw2413798903324245756:=()
def tw5708734862607171126:=()
def tw4981362418192933427:=()
def tw240362087136739418:=()
def tw6318083156864728259:=()
def tw5188763302429426238:=()
def tw7612198038063082193:=()
def tw9733383633400098680:=()
def tw1478112880533054053:=()
def tw4691744055901320633:=()
def tw8419329114010429941:=()
def tw12883798314885424675:=()
def tw6416039520627252337:=()
def tw17713024213993703626:=()
def tw7357191720922769774:=()
def tw7757283487011290250:=()
def tw610563117879412446:=()
def tw8698405994926895046:=()
def tw5162563258100200178:=()
def tw10236291344316133291:=()
def tw2924074983528322429:=()
def tw2705505500227257351:=()
def tw3407402691578250269:=()
def tw17834377839778173153:=()
def tw4104581421894154062:=()
def tw7861106714540047443:=()
def tw13794872478933113097:=()
def tw18378608158702890859:=()
def tw4083171589525420398:=()
def tw5420612273054814338:=()
def tw4070648992093613461:=()
def tw4356403131100385142:=()
def tw12570489053390028941:=()
def tw1263162691502173403:=()
def tw6444270308967649998:=()
def tw7441249235399239978:=()
def tw18372916896048924266:=()
def tw9386071912589028611:=()
def tw3905508922097377291:=()
def tw9259446981125215427:=()
def tw4329013421602761560:=()
def tw2368926702326207630:=()
def tw10794212671648009846:=()
def tw4492300155463430440:=()
def tw3970629062393052387:=()
def tw7975531076574466656:=()
def tw14870873479906194681:=()
def tw2304208397797047418:=()
def tw10417774965230970220:=()
def tw15420124775260903602:=()
def tw4793396906434030088:=()
def tw2584775144026874964:=()
def tw1538760178297944325:=()
def tw16234609750798671121:=()
def tw7965734611268120621:=()
def tw749705539005591033:=()
def tw1130236121389231372:=()
def tw13061043122221213007:=()
def tw17601679478560564878:=()
def tw10414930239229401972:=()
def tw11492776466818083971:=()
def tw11874121922232417519:=()
def tw11738384248039175815:=()
def tw13872134380021901600:=()
def tw643066979721422961:=()
def tw11250088215671405492:=()
def tw12362505834670768444:=()
def tw3427475869420869659:=()
def tw6912234099746557770:=()
def tw15515410914252777453:=()
def tw14201950140814556172:=()
def tw7640346668110739898:=()
def tw18303073035253219980:=()
def tw13044950179723046270:=()
def tw4843646085202562980:=()
def tw10878400787787562455:=()
def tw15942162527097137297:=()
def tw11069482286256751939:=()
def tw17915342520044457584:=()
def tw14389297130490102458:=()
def tw9149111121724040303:=()
def tw13428227544430261229:=()
def tw17811966283017880156:=()
def tw9744181048337689507:=()
def tw2838102497013148679:=()
def tw11368325656180575372:=()
def tw7445163178738041693:=()
def tw5573028313183629618:=()
def tw17507953541691054241:=()
def tw14788756371686516481:=()
def tw8196323282899665999:=()
def tw6205134190418468067:=()
def tw8434396222600795654:=()
def tw10749001977143359785:=()
def tw13787961038951731261:=()
def tw8808220800437952198:=()
def tw14773991995758450036:=()
def tw412542704841832737:=()
def tw4603681924469651038:=()
def tw11581462965189234912:=()
def tw18214795429707492821:=()
def tw12763762821882047514:=()
def tw6469464854965349518:=()
def tw17102849628117761207:=()
def tw3121355634813301315:=()
def tw10423410469160535377:=()
def tw16353582898997144721:=()
def tw17076652588076898738:=()
def tw9181573961304715937:=()
def tw7308713625653216830:=()
def tw14837123262475210939:=()
def tw10548605516431065311:=()
def tw2400922265694118659:=()
def tw13075548769319966868:=()
def tw1356414160866652291:=()
def tw3240857069736673717:=()
def tw8432211190480340302:=()
def tw10023346100024925803:=()
def tw18002095650521562332:=()
def tw7662682313487005587:=()
def tw9041686919093861763:=()
def tw4167411278661205334:=()
def tw11591830804421558432:=()
def tw10555624891557084689:=()
def tw10820568888036744146:=()
def tw16744790042991398659:=()
def tw12685465633474599030:=()
def tw12063961086362025649:=()
def tw17822422771537862580:=()
def tw14557827947417837455:=()
def tw6543297181724204864:=()
def tw15982503744669645965:=()
def tw10782661828107895838:=()
def tw13894762144156076318:=()
def tw14368980960866014341:=()
def tw12856961166849830258:=()
def tw9049894830128169817:=()
def tw7247620582141165669:=()
def tw5044048000785769868:=()
def tw362857554596595927:=()
def tw13394740566149741725:=()
def tw12691759423459219538:=()
def tw5727877302247246298:=()
def tw16059919842560730723:=()
def tw17665844733299914833:=()
def tw4482970092856527268:=()
def tw6956132590562665600:=()
def tw18397024078471194892:=()
def tw12494113312577609583:=()
def tw8439997784380450710:=()
def tw8983144021280334360:=()
def tw6715880383518295879:=()
def tw1370898933440221250:=()
def tw3643974081564272162:=()
def tw8657285090026213681:=()
def tw14992776931362461742:=()
def tw4097193379033539500:=()
def tw15027476355290538181:=()
def tw11330032533422692701:=()
def tw3687344032840687034:=()
def tw88899267922072916:=()
def tw16294103271768440287:=()
def tw4257362094808918021:=()
def tw14524172535120022827:=()
def tw3391817763558017535:=()
def tw9748191274278751478:=()
def tw7365426374412628831:=()
def tw6440227386265189075:=()
def tw5296248880459627810:=()
def tw12340917642014894083:=()
def tw9203927038018028346:=()
def tw862395523107367597:=()
def tw13530361177615888374:=()
def tw12865192281449664113:=()
def tw8135946542948683094:=()
def tw14180078930562523171:=()
def tw2181587143104804260:=()
def tw921819040004196237:=()
def tw5434152650122992757:=()
def tw13140959738231684286:=()
def tw5142622084560502363:=()
def tw14598549226475011330:=()
def tw72330035680917551:=()
def tw3005693138152280061:=()
def tw11566279448110192978:=()
def tw7375355019018742747:=()
def tw9479390790623842234:=()
def tw1201241441794302059:=()
def tw15957465738893762485:=()
def tw913186422552583390:=()
def tw10383339350968928784:=()
def tw5829987275255404034:=()
def tw629543905529169473:=()
def tw8912779041508560326:=()
def tw3477274558631857159:=()
def tw113825454517382148:=()
end PySem.W.Fast
def PySem.W.Fast.tw18303723859760498811:PySem.Program:=PySem.Challenge.pw_chalkcave_k54_whole_cores_tell_homes
def PySem.W.Fast.te18303723859760498811:PySem.Challenge.pw_chalkcave_k54_whole_cores_tell_homes=PySem.W.Fast.tw18303723859760498811:=rfl
open PySem PySem.W PyProof.Rows
set_option maxRecDepth 100000 in
set_option maxHeartbeats 0 in
theorem PySem.Challenge.cw_chalkcave_k54_whole_cores_tell_homes_holds : PySem.Challenge.rw_chalkcave_k54_whole_cores_tell_homes.Holds := by
 w_on;o_law;k_head;(case hw=>w_witness2)
 k_fill
 refine My.walk (l:=PySem.Challenge.rw_chalkcave_k54_whole_cores_tell_homes) rfl rfl (fun w h Y=>PySem.W.kIn_of Y) ?F
 case F=>
  intro w mg fa h KX G hmg
  refine' My.all_mk KX G hmg ?cGroups ?cFold ?cSurvey ?cChart ?aNoKind ?aNoMark ?aBarred ?aFull ?aNoChamber ?aCaveError ?_ ?_ ?_ ?_ ?_ ?_ ?_ ?_ ?_ ?_ ?_ ?_ ?_ ?_ ?_ ?_ ?_ ?_ ?_ ?_ ?_ ?_ ?_ ?_ ?_ ?_ ?_ ?_ ?_ ?_ ?_ ?_ ?_ ?_ ?_ ?_ ?_ ?_ ?_ ?_ ?_ ?_ ?_ ?_ ?_ ?_ ?_ ?_ ?_ ?_ ?_ ?_ ?_ ?_ ?_ ?_ ?_ ?_ ?_ ?_ ?_ ?_ ?_ ?_ ?_ ?_ ?_ ?_ ?_ ?_ ?_ ?_ ?_ ?_ ?_ ?_ ?_ ?_ ?_ ?_ ?_ ?_ ?_ ?_ ?_ ?_ ?_ ?_ ?_ ?_ ?_ ?_ ?_ ?_ ?_ ?_ ?_ ?_ ?_ ?_ ?_ ?_ ?_ ?_ ?_ ?_ ?_ ?_ ?_ ?_ ?_ ?_ ?_ ?_ ?_ ?_ ?_ ?_ ?_ ?_ ?_ ?_ ?_ ?_ ?_ ?_ ?exsBarred ?_ ?_ ?_ ?_ ?_ ?_
  (case cGroups=>constructor <;> k_is)
  (case cFold=>constructor <;> k_is)
  (case cSurvey=>constructor <;> k_is)
  (case cChart=>constructor <;> k_is)
  (case aNoKind=>unfold My.NsI;k_is)
  (case aNoMark=>unfold My.NsI;k_is)
  (case aBarred=>unfold My.NsI;k_is)
  (case aFull=>unfold My.NsI;k_is)
  (case aNoChamber=>unfold My.NsI;k_is)
  (case aCaveError=>unfold My.NsI;k_is)
  (case exsBarred=>kts_exm)
  all_goals first | (apply My.De.mk;k_is;apply L2.fun_mk;k_is;k_is;k_is) | (apply My.Md.mk;k_is;k_is;apply L2.fun_mk;k_is;k_is;k_is) | k_is | (unfold My.NsN;k_is) | (unfold L2.NoAttr;k_is) | rfl | skip
