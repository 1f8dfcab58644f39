import PyProof.Rows.All
import Wide.All
import OpenK.AllK
import Wide.FinOn
import Lean
import PyProof.EqAt
import PyProof.EqKinds
import PyProof.TupleCall
import Wide.Seal
import PyProof.EnumMake
import PyProof.EnumStmt
import PyProof.EnumFor
import PyProof.StrWalks
import PyProof.StrCalls
import PyProof.DictCompW
import PyProof.ListRange
import PyProof.CompUse
import KE.KDictList
import PyProof.Rows.SumAny
import PyProof.IsRules
import PyProof.ExcArgsOwn
import KE.KIsAll
import KE.KTryDeepN
import OpenK.KOwn
import KE.KTryMore
import PyProof.NsDelKeeps
import PyProof.SliceStr2
import KE.RegKIsAll
import KE.RegKTryMore
import PyProof.AssignAttr
import PyProof.Rows.SortWalk
import KE.KRevIter
import PyProof.FactsAll.range_2
import PySem.Challenge.RW_chalkcave_k32_whole_home_in_both
set_option Elab.async false
set_option linter.all false
set_option maxRecDepth 100000
namespace L2
open PySem PySem.Spec PyProof.Rows
abbrev Key:=Sum Int (Option Str)
def keyIs:Key→Value→Bool
 | .inl k,v=>Value.isInt k v
 | .inr (some x),v=>Value.isStrOf x v
 | .inr none,.none=>true
 | .inr none,_=>false
def keyH (w:World):Key→Int
 | .inl k=>hashInt k
 | .inr (some x)=>hashStr w x
 | .inr none=>reduceHash 0xFCA86420
theorem keyIs_shape:∀ {k:Key}{v:Value},keyIs k v=true→(∃ i t,k=Sum.inl i∧v=Value.int i t)∨(∃ x t,k=Sum.inr (some x)∧v=Value.str x t)∨(k=Sum.inr none∧v=Value.none)
 | .inl i,v,h=>by
  obtain ⟨t,e⟩:=Value.isInt_shape (k:=i) (v:=v) h
  exact .inl ⟨i,t,rfl,e⟩
 | .inr none,v,h=>by
  cases v <;> first | exact .inr (.inr ⟨rfl,rfl⟩) | exact absurd h (by simp [keyIs])
 | .inr (some x),v,h=>by
  obtain ⟨t,e⟩:=Value.isStrOf_shape (x:=x) (v:=v) h
  exact .inr (.inl ⟨x,t,rfl,e⟩)
theorem keyIs_int (i:Int) (t:Tok):keyIs (.inl i) (.int i t)=true:=by simp [keyIs,Value.isInt]
theorem keyIs_str (x:Str) (t:Tok):keyIs (.inr (some x)) (.str x t)=true:=by simp [keyIs,Value.isStrOf]
theorem key_ll (a b:Int):decide ((Sum.inl a:Key)=Sum.inl b)=(a == b):=by
 by_cases e:a=b
 · subst e;simp
 · have h:¬ (Sum.inl a:Key)=Sum.inl b:=fun q=>e (Sum.inl.inj q)
   rw [decide_eq_false h]
   exact (beq_eq_false_iff_ne.mpr e).symm
theorem key_rr (a b:Str):decide ((Sum.inr (some a):Key)=Sum.inr (some b))=decide (a=b):=by
 by_cases e:a=b
 · subst e;simp
 · have h:¬ (Sum.inr (some a):Key)=Sum.inr (some b):=fun q=>e (Option.some.inj (Sum.inr.inj q))
   rw [decide_eq_false h,decide_eq_false e]
theorem key_lr (a:Int) (b:Option Str):decide ((Sum.inl a:Key)=Sum.inr b)=false:=decide_eq_false (fun q=>nomatch q)
theorem key_rl (a:Option Str) (b:Int):decide ((Sum.inr a:Key)=Sum.inl b)=false:=decide_eq_false (fun q=>nomatch q)
theorem key_sn (a:Str):decide ((Sum.inr (some a):Key)=Sum.inr none)=false:=decide_eq_false (fun q=>nomatch q)
theorem key_ns (a:Str):decide ((Sum.inr none:Key)=Sum.inr (some a))=false:=decide_eq_false (fun q=>nomatch q)
theorem hash_non {prog:Program}{w:World}{A:Around}{E:Value→Shared→Prop}{s:Shared}{Q:Int→Shared→Prop} (h:Q (reduceHash 0xFCA86420) { s with toks:=s.toks+1 }):wpAny (model prog w) A (PySem.pyHash .none) Q E s:=
 PySem.W.pyHash_slot (T:="NoneType") rfl F.slot_NoneType_hash F.entry_NoneType_hash (F.args_NoneType_hash_1 _) (beq_builtin_none _) (.inl rfl) (wpAny_bind (wpAny_pure (wpAny_bind (wpAny_mkInt (wpAny_pure ⟨_,_,rfl,h⟩)))))
theorem eq_non {prog:Program}{w:World}{A:Around}{E:Value→Shared→Prop}{s:Shared}{Q:Bool→Shared→Prop} (h:Q true s):wpAny (model prog w) A (PySem.eqBool .none .none) Q E s:=by
 unfold PySem.eqBool
 refine wpAny_holding ?_
 exact wpAny_ite_split (fun _=>wpAny_bind (wpAny_rule (wpAny_pure h))) (fun z=>absurd rfl z)
def mixKind (prog:Program) (w:World):PySem.KeyKind prog w Key where
 is:=keyIs
 hash:=keyH w
 inj:=fun v a b ha hb=>by
  rcases keyIs_shape ha with ⟨i,t,rfl,rfl⟩ | ⟨x,t,rfl,rfl⟩ | ⟨rfl,rfl⟩
  · rcases keyIs_shape hb with ⟨j,u,rfl,e⟩ | ⟨y,u,rfl,e⟩ | ⟨rfl,e⟩
    · injection e with e1 _;rw [e1]
    · exact nomatch e
    · exact nomatch e
  · rcases keyIs_shape hb with ⟨j,u,rfl,e⟩ | ⟨y,u,rfl,e⟩ | ⟨rfl,e⟩
    · exact nomatch e
    · injection e with e1 _;rw [e1]
    · exact nomatch e
  · rcases keyIs_shape hb with ⟨j,u,rfl,e⟩ | ⟨y,u,rfl,e⟩ | ⟨rfl,e⟩
    · exact nomatch e
    · exact nomatch e
    · rfl
 byValue:=fun k v h=>by
  rcases keyIs_shape h with ⟨i,t,rfl,rfl⟩ | ⟨x,t,rfl,rfl⟩ | ⟨rfl,rfl⟩ <;> rfl
 pyHash:=fun hv h=>by
  rcases keyIs_shape hv with ⟨i,t,rfl,rfl⟩ | ⟨x,t,rfl,rfl⟩ | ⟨rfl,rfl⟩
  · exact wpAny_pyHash_int h
  · exact wpAny_pyHash_str h
  · exact hash_non h
 eqBool:=fun hu hv h=>by
  rcases keyIs_shape hu with ⟨i,t,rfl,rfl⟩ | ⟨x,t,rfl,rfl⟩ | ⟨rfl,rfl⟩
  · rcases keyIs_shape hv with ⟨j,u,rfl,rfl⟩ | ⟨y,u,rfl,rfl⟩ | ⟨rfl,rfl⟩
    · rw [key_ll] at h;exact wpAny_eqBool_int h
    · rw [key_lr] at h;exact SeqAt.EqAt.int_str i t y u _ _ _ _ h
    · rw [key_lr] at h;exact SeqAt.EqAt.int_none i t _ _ _ _ h
  · rcases keyIs_shape hv with ⟨j,u,rfl,rfl⟩ | ⟨y,u,rfl,rfl⟩ | ⟨rfl,rfl⟩
    · rw [key_rl] at h;exact SeqAt.EqAt.str_int x t j u _ _ _ _ h
    · rw [key_rr] at h;exact wpAny_eqBool_str h
    · rw [key_sn] at h;exact SeqAt.EqAt.str_none x t _ _ _ _ h
  · rcases keyIs_shape hv with ⟨j,u,rfl,rfl⟩ | ⟨y,u,rfl,rfl⟩ | ⟨rfl,rfl⟩
    · rw [key_rl] at h;exact SeqAt.EqAt.none_int j u _ _ _ _ h
    · rw [key_ns] at h;exact SeqAt.EqAt.none_str y u _ _ _ _ h
    · rw [decide_eq_true rfl] at h;exact eq_non h
 «strs»:=fun k x t v h=>by
  rcases keyIs_shape h with ⟨i,u,rfl,e⟩ | ⟨y,u,rfl,e⟩ | ⟨rfl,e⟩
  · exact nomatch e
  · injection e with e1 _
    subst e1
    cases v <;> rfl
  · exact nomatch e
theorem mixKind_int (prog:Program) (w:World) (i:Int) (t:Tok):(mixKind prog w).is (.inl i) (.int i t)=true:=keyIs_int i t
theorem mixKind_str (prog:Program) (w:World) (x:Str) (t:Tok):(mixKind prog w).is (.inr (some x)) (.str x t)=true:=keyIs_str x t
inductive V where
 | non | bl (b:Bool) | int (i:Int) | str (x:Str) | byt (b:Array UInt8) | flt (b:UInt64) | ref (a:Addr) | ty (n:String)
 deriving DecidableEq
def RelV:V→Value→Prop
 | .non,u=>u=Value.none
 | .bl b,u=>u=Value.bool b
 | .int i,u=>∃ t,u=Value.int i t
 | .str x,u=>∃ t,u=Value.str x t
 | .byt b,u=>∃ t,u=Value.bytes b t
 | .flt b,u=>∃ t,u=Value.float b t
 | .ref a,u=>u=Value.ref a
 | .ty n,u=>u=Value.type n
abbrev Vals:List V→List Value→Prop:=Paired RelV
theorem Vals.length {xs:List V}{us:List Value} (r:Vals xs us):xs.length=us.length:=Paired.length r
theorem Vals.get:∀ {xs:List V}{us:List Value}{i:Nat}{x:V},Vals xs us→xs[i]?=some x→∃ u,us[i]?=some u∧RelV x u
 | _,_,_,_,.nil,e=>by simp at e
 | _,_,0,_,.cons r _,e=>by simp at e;subst e;exact ⟨_,rfl,r⟩
 | _,_,i+1,x,.cons _ t,e=>by
  obtain ⟨u,h1,h2⟩:=Vals.get (i:=i) (x:=x) t (by simpa using e)
  exact ⟨u,by simpa using h1,h2⟩
theorem Vals.set {x:V}{u:Value} (r:RelV x u):∀ {xs:List V}{us:List Value} (i:Nat),Vals xs us→Vals (xs.set i x) (us.set i u)
 | _,_,_,.nil=>.nil
 | _,_,0,.cons _ t=>.cons r t
 | _,_,i+1,.cons q t=>.cons q (Vals.set r i t)
theorem Vals.append:∀ {xs ys:List V}{us ws:List Value},Vals xs us→Vals ys ws→Vals (xs++ys) (us++ws)
 | _,_,_,_,.nil,s=>s
 | _,_,_,_,.cons r t,s=>.cons r (Vals.append t s)
theorem Vals.take:∀ {xs:List V}{us:List Value} (n:Nat),Vals xs us→Vals (xs.take n) (us.take n)
 | _,_,0,_=>.nil
 | _,_,_+1,.nil=>.nil
 | _,_,n+1,.cons r t=>.cons r (Vals.take n t)
theorem Vals.drop:∀ {xs:List V}{us:List Value} (n:Nat),Vals xs us→Vals (xs.drop n) (us.drop n)
 | _,_,0,r=>r
 | _,_,_+1,.nil=>.nil
 | _,_,n+1,.cons _ t=>Vals.drop n t
def RelO:Option V→Option Value→Prop
 | some v,some u=>RelV v u
 | none,none=>True
 | _,_=>False
def KV {κ:Type}:List (κ × V)→List (κ × Value)→Prop:=Paired fun (p:κ × V) (q:κ × Value)=>p.1=q.1∧RelV p.2 q.2
def kV:Key→V
 | .inl i=>.int i
 | .inr (some x)=>.str x
 | .inr none=>.non
inductive HO where
 | lst (xs:List V)
 | tup (xs:List V)
 | dK (kvs:List (Key × V)) | dT (kvs:List (List Key × V))
 | set (S:Int→Bool) (n:Nat)
 | ins (C dx:Addr) (fs:List (Str × V))
 | own (x:Addr)
 | xd (fs:List (Str × V))
 | met (f x:Addr)
 | rng (lo hi:Int)
 | frz (o:Obj) (u:HO)
 | tbl (ps:Array Value)
 | ext (φ:Heap→Prop)
abbrev Hp:=Addr→Option HO
def upd (H:Hp) (a:Addr) (o:HO):Hp:=fun b=>if b=a then some o else H b
theorem upd_same {H:Hp}{a:Addr}{o:HO}:upd H a o a=some o:=by unfold upd;rw [if_pos rfl]
theorem upd_ne {H:Hp}{a b:Addr}{o:HO} (h:b≠a):upd H a o b=H b:=by unfold upd;rw [if_neg h]
theorem upd_upd {H:Hp}{a:Addr}{o u:HO}:upd (upd H a o) a u=upd H a u:=by
 funext b;unfold upd;split <;> rfl
theorem ne_of {H:Hp}{a b:Addr}{o u:HO} (h:H a=some o) (h':H b=some u) (d:o≠u):a≠b:=by
 intro e;subst e;rw [h] at h';exact d (Option.some.inj h')
theorem ne_of_none {H:Hp}{a b:Addr}{o:HO} (h:H a=some o) (h':H b=none):a≠b:=by
 intro e;subst e;rw [h] at h';cases h'
section
variable (P:Program) (w:World)
def ObjOk (H:Hp) (h:Heap) (a:Addr):HO→Prop
 | .lst xs=>xs.length≤sizeLine∧∃ (its:List Value) (n:Nat),Vals xs its∧h.get? a=some { cls:=.type "list",data:=.seq its.toArray n }
 | .tup xs=>xs.length≤sizeLine∧∃ its:List Value,Vals xs its∧IsTup h a its.toArray
 | .dK kvs=>kvs.length≤sizeLine∧(a == sysModules)=false∧∃ vs,KV kvs vs∧h.DictOf (mixKind P w) a vs
 | .dT kvs=>kvs.length≤sizeLine∧(a == sysModules)=false∧∃ xs:List (List Key × Addr × Value),
   Paired (fun (p:List Key × V) (q:List Key × Addr × Value)=>p.1=q.1∧H q.2.1=some (.tup (p.1.map kV))∧RelV p.2 q.2.2) kvs xs∧
   ∃ o es ep,h.get? a=some o∧o.ExactDict∧o.data=.dict es ep∧es.toList=xs.map (entryOfKey (tupleKind (mixKind P w)))∧(xs.map (·.1)).Nodup
 | .set S n=>h.SetOf (intKind P w) a S n
 | .ins C dx fs=>H dx=some (.own a)∧fs.length≤1000∧dx≠a∧h.get? a=some (PySem.W.instObj C dx)∧
   ∃ mA,h.Ns1 dx mA∧(∀ f,RelO (fs.lookup f) (mA f))∧PySem.Within mA (fs.map (·.1))
 | .own _=>∃ o,h.get? a=some o
 | .xd fs=>∃ mA,h.Ns1 a mA∧∀ f,RelO (fs.lookup f) (mA f)
 | .rng lo hi=>∃ t u v,h.get? a=some { cls:=.type "range",data:=.fields #[.int lo t,.int hi u,.int 1 v] }
 | .frz o u=>h.get? a=some o∧ObjOk H h a u
 | .tbl ps=>h.get? a=some { cls:=.none,data:=.fields ps }
 | .met f x=>h.get? a=some (PySem.W.methodObj (.ref f) (.ref x))
 | .ext φ=>φ h∧(∃ o,h.get? a=some o)∧∀ h1 h2:Heap,φ h1→(∀ o,h1.get? a=some o→h2.get? a=some o)→φ h2
def HOk (H:Hp) (h:Heap):Prop:=∀ a o,H a=some o→ObjOk P w H h a o
end
section
variable {P:Program}{w:World}{H H':Hp}{h h':Heap}{a:Addr}{o:HO}
theorem ObjOk.lt (x:ObjOk P w H h a o):a < h.objs.size:=by
 cases o with
 | lst xs=>obtain ⟨_,_,_,_,e⟩:=x;exact Heap.lt_size e
 | tup xs=>obtain ⟨_,_,_,p⟩:=x;exact p.lt
 | dK kvs=>obtain ⟨_,_,_,_,o,_,_,e,_⟩:=x;exact Heap.lt_size e
 | dT kvs=>obtain ⟨_,_,_,_,o,_,_,e,_⟩:=x;exact Heap.lt_size e
 | set S n=>obtain ⟨o,_,_,_,e,_⟩:=x;exact Heap.lt_size e
 | ins C dx fs=>obtain ⟨_,_,_,e,_⟩:=x;exact Heap.lt_size e
 | own y=>obtain ⟨_,e⟩:=x;exact Heap.lt_size e
 | xd fs=>obtain ⟨_,⟨_,_,_,e,_⟩,_⟩:=x;exact Heap.lt_size e
 | rng lo hi=>obtain ⟨_,_,_,e⟩:=x;exact Heap.lt_size e
 | frz ob u=>obtain ⟨e,_⟩:=x;exact Heap.lt_size e
 | tbl ps=>exact Heap.lt_size (show h.get? a=some _ from x)
 | met f y=>exact Heap.lt_size (show h.get? a=some _ from x)
 | ext φ=>obtain ⟨_,⟨_,e⟩,_⟩:=x;exact Heap.lt_size e
theorem Paired.mapP {α β:Type}{F G:α→β→Prop}:∀ {l₁:List α}{l₂:List β},Paired F l₁ l₂→(∀ a b,F a b→G a b)→Paired G l₁ l₂
 | _,_,.nil,_=>.nil
 | _,_,.cons r t,f=>.cons (f _ _ r) (Paired.mapP t f)
theorem ObjOk.stay (x:ObjOk P w H h a o) (k:∀ b u,(b=a∨H b=some (.own a))→h.get? b=some u→h'.get? b=some u)
  (ho:∀ b,H b=some (.own a)→H' b=some (.own a)) (ht:∀ b xs,H b=some (.tup xs)→H' b=some (.tup xs)):ObjOk P w H' h' a o:=by
 induction o with
 | lst xs=>obtain ⟨z,its,n,r,e⟩:=x;exact ⟨z,its,n,r,k _ _ (.inl rfl) e⟩
 | tup xs=>obtain ⟨z,its,r,ob,e,c⟩:=x;exact ⟨z,its,r,ob,k _ _ (.inl rfl) e,c⟩
 | dK kvs=>obtain ⟨z,y,vs,r,ob,es,ep,e,c⟩:=x;exact ⟨z,y,vs,r,ob,es,ep,k _ _ (.inl rfl) e,c⟩
 | dT kvs=>
  obtain ⟨z,y,xs,r,ob,es,ep,e,c⟩:=x
  exact ⟨z,y,xs,Paired.mapP r fun p q z=>⟨z.1,ht _ _ z.2.1,z.2.2⟩,ob,es,ep,k _ _ (.inl rfl) e,c⟩
 | set S n=>obtain ⟨ob,es,ep,t,e,c⟩:=x;exact ⟨ob,es,ep,t,k _ _ (.inl rfl) e,c⟩
 | ins C dx fs=>
  obtain ⟨d,z,ne,e,mA,⟨od,es,ep,e2,c⟩,r⟩:=x
  exact ⟨ho _ d,z,ne,k _ _ (.inl rfl) e,mA,⟨od,es,ep,k _ _ (.inr d) e2,c⟩,r⟩
 | own y=>obtain ⟨ob,e⟩:=x;exact ⟨ob,k _ _ (.inl rfl) e⟩
 | xd fs=>obtain ⟨mA,⟨od,es,ep,e,c⟩,r⟩:=x;exact ⟨mA,⟨od,es,ep,k _ _ (.inl rfl) e,c⟩,r⟩
 | rng lo hi=>obtain ⟨t,u,v,e⟩:=x;exact ⟨t,u,v,k _ _ (.inl rfl) e⟩
 | frz ob u ih=>obtain ⟨e,q⟩:=x;exact ⟨k _ _ (.inl rfl) e,ih q⟩
 | tbl ps=>
  have e:h.get? a=some { cls:=.none,data:=.fields ps }:=x
  show h'.get? a=some { cls:=.none,data:=.fields ps }
  exact k a _ (.inl rfl) e
 | met f y=>
  have e:h.get? a=some (PySem.W.methodObj (.ref f) (.ref y)):=x
  show h'.get? a=some (PySem.W.methodObj (.ref f) (.ref y))
  exact k a _ (.inl rfl) e
 | ext φ=>obtain ⟨p,⟨o,e⟩,st⟩:=x;exact ⟨st _ _ p fun o q=>k _ _ (.inl rfl) q,⟨o,k _ _ (.inl rfl) e⟩,st⟩
theorem HOk.lt (x:HOk P w H h) (e:H a=some o):a < h.objs.size:=(x a o e).lt
theorem HOk.fresh (x:HOk P w H h) (e:h.objs.size≤a):H a=none:=by
 cases q:H a with
 | none=>rfl
 | some u=>exact absurd (Nat.lt_of_lt_of_le (x.lt q) e) (Nat.lt_irrefl _)
theorem HOk.kept (x:HOk P w H h) (k:∀ b u,h.get? b=some u→h'.get? b=some u):HOk P w H h':=fun a o e=>
 (x a o e).stay (fun b u _ q=>k b u q) (fun _ q=>q) fun _ _ q=>q
theorem HOk.laid (x:HOk P w H h) (k:∀ b u,h.get? b=some u→h'.get? b=some u) (hp:h.objs.size≤a) (new:ObjOk P w (upd H a o) h' a o):HOk P w (upd H a o) h':=fun b u e=>by
 have hn:=x.fresh hp
 by_cases hb:b=a
 · subst hb;rw [upd_same] at e;cases e;exact new
 · rw [upd_ne hb] at e
   exact (x b u e).stay (fun c v _ q=>k c v q) (fun c q=>by rw [upd_ne (ne_of_none q hn)];exact q) fun c xs q=>by rw [upd_ne (ne_of_none q hn)];exact q
end
def Rd (H:Hp) (a:Addr) (u:HO):Prop:=H a=some u∨∃ o,H a=some (.frz o u)
theorem Rd.ok {P:Program}{w:World}{H:Hp}{h:Heap}{a:Addr}{u:HO} (r:Rd H a u) (x:HOk P w H h):ObjOk P w H h a u:=by
 rcases r with r | ⟨o,r⟩
 · exact x a u r
 · obtain ⟨_,q⟩:=x a _ r
   exact q
def Mut:Option HO→Prop
 | some (.lst _)=>True
 | some (.dK _)=>True
 | some (.dT _)=>True
 | some (.set _ _)=>True
 | some (.ins _ _ _)=>True
 | some (.ext _)=>True
 | _=>False
section
variable {P:Program}{w:World}{H:Hp}{h h':Heap}{x e:Addr}{o':HO}
theorem HOk.write (ok:HOk P w H h) (mu:Mut (H x)) (he:e=x∨H e=some (.own x)) (k:∀ b u,b≠e→h.get? b=some u→h'.get? b=some u) (heo:∃ u,h'.get? e=some u)
  (new:ObjOk P w (upd H x o') h' x o'):HOk P w (upd H x o') h':=fun b u q=>by
 have nown:∀ c y,H c=some (.own y)→c≠x:=fun c y r z=>by subst z;rw [r] at mu;exact mu
 have ntup:∀ c xs,H c=some (.tup xs)→c≠x:=fun c xs r z=>by subst z;rw [r] at mu;exact mu
 by_cases hb:b=x
 · subst hb;rw [upd_same] at q;cases q;exact new
 · rw [upd_ne hb] at q
   by_cases hbe:b=e
   · have q':H b=some (.own x):=by
       rcases he with z | z
       · exact absurd (hbe.trans z) hb
       · rw [hbe];exact z
     rw [q] at q';cases q'
     obtain ⟨v,hv⟩:=heo
     exact ⟨v,by rw [hbe];exact hv⟩
   · refine (ok b u q).stay (fun c v hc r=>k c v ?_ r) (fun c r=>by rw [upd_ne (nown c b r)];exact r) fun c xs r=>by rw [upd_ne (ntup c xs r)];exact r
     rcases hc with rfl | hc
     · exact hbe
     · rintro rfl
       rcases he with z | z
       · exact nown c b hc z
       · rw [hc] at z;cases z;exact hb rfl
end
structure Un (fs ex:List Addr) (H H':Hp) (h h':Heap):Prop where
 keep:∀ b o,h.get? b=some o→H b=none→b∉fs→b∉ex→h'.get? b=some o
 slot:∀ b o,h.get? b=some o→H b=none→b∈fs→b∉ex→∃ sl,h'.get? b=some { o with slots:=sl }
 free:∀ b o,h.get? b=some o→H b=none→b∉ex→H' b=none
 there:∀ b o,h.get? b=some o→b∉ex→∃ o',h'.get? b=some o'
 tups:∀ b xs,H b=some (.tup xs)→H' b=some (.tup xs)
 frzs:∀ b o u,H b=some (.frz o u)→H' b=some (.frz o u)
 tbls:∀ b ps,H b=some (.tbl ps)→∃ more,H' b=some (.tbl (ps++more))
section
variable {fs fs' ex ex':List Addr}{H H1 H2:Hp}{h h1 h2 h':Heap}{a x e:Addr}{o:HO}
theorem Un.any (u:Un fs ex H H1 h h1) {b:Addr}{ob:Obj} (q:h.get? b=some ob) (n:H b=none) (hx:b∉ex):∃ sl,h1.get? b=some { ob with slots:=sl }:=by
 by_cases hb:b∈fs
 · exact u.slot b ob q n hb hx
 · exact ⟨ob.slots,u.keep b ob q n hb hx⟩
theorem Un.kept (k:∀ b u,h.get? b=some u→h'.get? b=some u):Un fs ex H H h h':=
 ⟨fun b ob q _ _ _=>k b ob q,fun b ob q _ _ _=>⟨ob.slots,k b ob q⟩,fun _ _ _ n _=>n,fun b ob q _=>⟨ob,k b ob q⟩,fun _ _ q=>q,fun _ _ _ q=>q,fun _ ps q=>⟨#[],by rw [q];simp⟩⟩
theorem Un.refl:Un fs ex H H h h:=Un.kept fun _ _ q=>q
theorem Un.laid (k:∀ b u,h.get? b=some u→h'.get? b=some u) (hp:h.objs.size≤a) (hn:H a=none):Un fs ex H (upd H a o) h h' where
 keep:=fun b u q _ _ _=>k b u q
 slot:=fun b u q _ _ _=>⟨u.slots,k b u q⟩
 free:=fun b u q n _=>by rw [upd_ne (Nat.ne_of_lt (Nat.lt_of_lt_of_le (Heap.lt_size q) hp))];exact n
 there:=fun b u q _=>⟨u,k b u q⟩
 tups:=fun b xs q=>by rw [upd_ne (ne_of_none q hn)];exact q
 frzs:=fun b u xs q=>by rw [upd_ne (ne_of_none q hn)];exact q
 tbls:=fun b ps q=>⟨#[],by rw [upd_ne (ne_of_none q hn),q];simp⟩
theorem Un.write (mu:Mut (H x)) (he:e=x∨H e=some (.own x)) (k:∀ b u,b≠e→h.get? b=some u→h'.get? b=some u) (heo:∃ u,h'.get? e=some u):Un fs ex H (upd H x o) h h':=by
 have hx:∀ b,H b=none→b≠x:=fun b n z=>by subst z;rw [n] at mu;exact mu
 have hb:∀ b,H b=none→b≠e:=fun b n z=>by
  subst z
  rcases he with r | r
  · exact hx b n r
  · rw [n] at r;cases r
 have hm:∀ b u,H b=some u→¬ Mut (some u)→b≠x:=fun b u q nm z=>by subst z;rw [q] at mu;exact nm mu
 refine ⟨fun b u q n _ _=>k b u (hb b n) q,fun b u q n _ _=>⟨u.slots,k b u (hb b n) q⟩,fun b u q n _=>by rw [upd_ne (hx b n)];exact n,fun b u q _=>?_,
  fun b xs q=>by rw [upd_ne (hm b _ q fun z=>z)];exact q,fun b u xs q=>by rw [upd_ne (hm b _ q fun z=>z)];exact q,fun b ps q=>⟨#[],by rw [upd_ne (hm b _ q fun z=>z),q];simp⟩⟩
 by_cases hbe:b=e
 · subst hbe;exact heo
 · exact ⟨u,k b u hbe q⟩
end
def trk (h:Heap) (H:Hp):List Addr:=(List.range h.objs.size).filter fun a=>(H a).isSome
def hidT (h:Heap) (H:Hp):Heap:=PySem.W.hideAll h (trk h H)
theorem hidT_size (h:Heap) (H:Hp):(hidT h H).objs.size=h.objs.size:=PySem.W.hideAll_size _ _
theorem hidT_get {h:Heap}{H:Hp}{b:Addr}{o:Obj} (e:h.get? b=some o) (n:H b=none):(hidT h H).get? b=some o:=
 PySem.W.hideAll_get _ e fun hm=>by
  have q:(H b).isSome=true:=(List.mem_filter.mp hm).2
  rw [n] at q;simp at q
theorem of_hidT {h:Heap}{H:Hp}{b:Addr}{o:Obj} (e:(hidT h H).get? b=some o):h.get? b=some o∧H b=none:=by
 have e':h.get? b=some o:=PySem.W.of_hideAll (trk h H) e
 refine ⟨e',?_⟩
 cases q:H b with
 | none=>rfl
 | some x=>
  have hm:b∈trk h H:=List.mem_filter.mpr ⟨List.mem_range.mpr (Heap.lt_size e'),by simp [q]⟩
  have z:(hidT h H).get? b=none:=PySem.W.hideAll_none (trk h H) hm
  rw [z] at e;cases e
structure Mod (K:PySem.W.Frag) (mg:Str→Option Value) (base:Heap):Prop where
 kin:K.In base
 glob:base.Ns mainGlobals mg
 blt:∃ mb,base.Ns builtinsNs mb∧∀ x:Str,x≠"__name__"→mb x=bootBuiltins x
 nolimit:base.NoLimit
structure Cx where
 prog:Program
 w:World
 K:PySem.W.Frag
 mg:Str→Option Value
 base:Heap
 A:Around
 N:List Str
 s₀:Shared
 H₀:Hp
 env:Env
 outer:List Env
 stack:List Env
 ex:List Addr
 fn:Str→Bool
 calm:Bool
 pn:List (Addr × Obj)
 xe:Value→Shared→Prop
def frs (l:List Env):List Addr:=l.filterMap (·.frame)
abbrev Cx.fs (X:Cx):List Addr:=frs X.outer
def Vis (sc:Scope) (x:Str):Prop:=sc.names.lookup x=some .local∨sc.names.lookup x=some .cell∨sc.names.lookup x=some .free
def Loc (sc:Scope) (x:Str):Prop:=sc.names.lookup x=some .local∨sc.names.lookup x=some .cell
def Look (env:Env) (h:Heap) (m:Str→Option Value) (x:Str) (u:Value):Prop:=
 (env.kindOf x=some .local∧m x=some u)∨((env.kindOf x=some .cell∨env.kindOf x=some .free)∧∃ c,env.cells.lookup x=some c∧h.IsCell c (some u))
structure Cx.Ok (X:Cx):Prop where
 mod:Mod X.K X.mg X.base
 kind:X.env.scope.kind=.function
 glob:X.env.globals=mainGlobals
 blt:X.env.builtins=builtinsNs
 above:X.s₀.heap.objs.size≤X.env.locals
 inj:∀ x y c,X.env.cells.lookup x=some c→X.env.cells.lookup y=some c→x=y
 has:∀ x,(X.env.kindOf x=some .cell∨X.env.kindOf x=some .free)→∃ c,X.env.cells.lookup x=some c
 cab:∀ x c,X.fn x=true→X.env.cells.lookup x=some c→X.s₀.heap.objs.size≤c
 hd:X.calm=true→X.A.handled=none
 frames:X.A.frames=some X.stack
 stk:X.stack=X.outer∨(X.stack=X.env::X.outer∧X.env.frame=some X.env.locals)
 exf:∀ b∈X.ex,b≠X.env.locals∧∀ x c,X.env.cells.lookup x=some c→c≠b
 bs:∀ b o,X.base.get? b=some o→X.s₀.heap.get? b=some o∧X.H₀ b=none
 bsz:X.base.objs.size≤X.s₀.heap.objs.size
 noex:∀ b o,X.base.get? b=some o→b∉X.ex
 exfs:∀ b∈X.ex,b∉X.fs
 funs:X.s₀.heap.FunFrames X.base X.outer
 frf:∀ b∈X.fs,X.H₀ b=none
structure Inv (X:Cx) (pins:List (Addr × Obj)) (σ:List (Option V)) (H:Hp) (s:Shared):Prop where
 ok:X.Ok
 os:s.os=X.s₀.os
 bare:AllBare s.gens
 base:Un X.fs X.ex X.H₀ H X.s₀.heap s.heap
 loc:∃ m,s.heap.Ns X.env.locals m∧∀ (i:Nat) (x:Str) (v:V),X.N[i]?=some x→σ[i]?=some (some v)→Vis X.env.scope x→∃ u,RelV v u∧Look X.env s.heap m x u
 cell:∀ x c,X.env.cells.lookup x=some c→∃ v,s.heap.IsCell c v
 free:H X.env.locals=none
 freeC:∀ x c,X.env.cells.lookup x=some c→H c=none
 pin:∀ p∈X.pn++pins,s.heap.get? p.1=some p.2∧H p.1=none∧p.1≠X.env.locals∧p.1∉X.fs∧∀ v,p.2.data≠.cell v
 hok:HOk X.prog X.w H s.heap
 len:σ.length=X.N.length
section
variable {X:Cx}{pins:List (Addr × Obj)}{σ:List (Option V)}{H H':Hp}{s:Shared}{h':Heap}
theorem Cx.Ok.nofr (ok:X.Ok) {b:Addr}{o:Obj} (e:X.base.get? b=some o):b∉X.fs:=fun hb=>by
 have:=(ok.funs.mem hb).1
 rw [e] at this;cases this
theorem Inv.bs (I:Inv X pins σ H s):∀ b o,X.base.get? b=some o→s.heap.get? b=some o∧H b=none:=fun b o e=>
 ⟨I.base.keep b o (I.ok.bs b o e).1 (I.ok.bs b o e).2 (I.ok.nofr e) (I.ok.noex b o e),I.base.free b o (I.ok.bs b o e).1 (I.ok.bs b o e).2 (I.ok.noex b o e)⟩
theorem Inv.bk (I:Inv X pins σ H s):∀ b o,X.base.get? b=some o→s.heap.get? b=some o:=fun b o e=>(I.bs b o e).1
theorem Inv.mod (I:Inv X pins σ H s):Mod X.K X.mg X.base:=I.ok.mod
theorem Inv.kIn (I:Inv X pins σ H s):X.K.In s.heap:=I.ok.mod.kin.keeps I.bk
theorem Inv.lt (I:Inv X pins σ H s):X.env.locals < s.heap.objs.size:=let ⟨_,hn,_⟩:=I.loc;hn.lt
theorem Inv.sz (I:Inv X pins σ H s):X.s₀.heap.objs.size≤s.heap.objs.size:=Nat.le_trans I.ok.above (Nat.le_of_lt I.lt)
theorem Inv.nofs (I:Inv X pins σ H s) {a:Addr} (h:s.heap.objs.size≤a):a∉X.fs:=fun hb=>by
 obtain ⟨_,o,ho,_⟩:=I.ok.funs.mem hb
 exact absurd (Nat.lt_of_lt_of_le (Heap.lt_size ho) (Nat.le_trans I.sz h)) (Nat.lt_irrefl _)
theorem Inv.cne (I:Inv X pins σ H s):∀ x c,X.env.cells.lookup x=some c→c≠X.env.locals:=fun x c e z=>by
 obtain ⟨v,o,ho,hd⟩:=I.cell x c e
 obtain ⟨m,⟨o',es,ep,ho',hd',_⟩,_⟩:=I.loc
 rw [z,ho'] at ho;cases ho;rw [hd'] at hd;cases hd
theorem Inv.funs (I:Inv X pins σ H s):s.heap.FunFrames X.base X.outer:=by
 have all:∀ (l:List Env),(∀ b∈frs l,b∈X.fs)→X.s₀.heap.FunFrames X.base l→s.heap.FunFrames X.base l:=by
  intro l
  induction l with
  | nil=>intro _ _;trivial
  | cons env r ih=>
   intro hs hl
   obtain ⟨hk,⟨L,o,hf,hn,ho,hd⟩,hr⟩:=hl
   have hL:L∈X.fs:=hs L (by unfold frs;rw [List.filterMap_cons,hf];exact List.mem_cons_self)
   obtain ⟨sl,e⟩:=I.base.slot L o ho (I.ok.frf L hL) hL fun z=>I.ok.exfs L z hL
   exact ⟨hk,⟨L,_,hf,hn,e,hd⟩,ih (fun b hb=>hs b (by unfold frs;rw [List.filterMap_cons,hf];exact List.mem_cons_of_mem _ hb)) hr⟩
 exact all X.outer (fun _ hb=>hb) I.ok.funs
theorem Inv.stack (I:Inv X pins σ H s):s.heap.FunFrames X.base X.stack:=by
 rcases I.ok.stk with e | ⟨e,hf⟩
 · rw [e];exact I.funs
 · rw [e]
   obtain ⟨m,hn,_⟩:=I.loc
   refine .cons (by rw [I.ok.kind];decide) hf hn ?_ I.funs
   exact Heap.get?_none_of_le (Nat.le_trans I.ok.bsz I.ok.above)
theorem Inv.stkSub (I:Inv X pins σ H s):∀ b∈frs X.stack,b∈X.env.locals::X.fs:=fun b hb=>by
 rcases I.ok.stk with e | ⟨e,hf⟩
 · rw [e] at hb;exact List.mem_cons_of_mem _ hb
 · rw [e] at hb
   unfold frs at hb
   rw [List.filterMap_cons,hf] at hb
   exact hb
theorem Inv.stkFree (I:Inv X pins σ H s):∀ b∈frs X.stack,H b=none:=fun b hb=>by
 rcases List.mem_cons.mp (I.stkSub b hb) with e | hb
 · rw [e];exact I.free
 · obtain ⟨_,o,ho,_⟩:=I.ok.funs.mem hb
   exact I.base.free b o ho (I.ok.frf b hb) fun z=>I.ok.exfs b z hb
theorem Inv.step {g':Array GenState}{t':Nat}{d':Drawn}{ch:List Addr} (I:Inv X pins σ H s)
  (hch:∀ b∈ch,(b∈X.ex∨X.s₀.heap.objs.size≤b)∧b≠X.env.locals∧(∀ x c,X.env.cells.lookup x=some c→c≠b)∧∀ p∈X.pn++pins,p.1≠b)
  (keep:∀ b o,b≠X.env.locals→b∉X.fs→b∉ch→s.heap.get? b=some o→H b=none→h'.get? b=some o)
  (slot:∀ b o,b≠X.env.locals→b∈X.fs→b∉ch→s.heap.get? b=some o→H b=none→∃ sl,h'.get? b=some { o with slots:=sl }) (free:∀ b o,b∉ch→s.heap.get? b=some o→H b=none→H' b=none)
  (there:∀ b o,b∉ch→s.heap.get? b=some o→∃ o',h'.get? b=some o')
  (tups:∀ b xs,H b=some (.tup xs)→H' b=some (.tup xs)) (frzs:∀ b o u,H b=some (.frz o u)→H' b=some (.frz o u)) (tbls:∀ b ps,H b=some (.tbl ps)→∃ more,H' b=some (.tbl (ps++more)))
  (ns:∀ m,s.heap.Ns X.env.locals m→h'.Ns X.env.locals m) (hok:HOk X.prog X.w H' h') (hg:AllBare g'):
  Inv X pins σ H' { s with heap:=h',gens:=g',drawn:=d',toks:=t' }:=by
 have neL:∀ b o,X.s₀.heap.get? b=some o→b≠X.env.locals:=fun b o e=>Nat.ne_of_lt (Nat.lt_of_lt_of_le (Heap.lt_size e) I.ok.above)
 have neC:∀ b o,X.s₀.heap.get? b=some o→b∉X.ex→b∉ch:=fun b o e hx hb=>by
  rcases (hch b hb).1 with z | z
  · exact hx z
  · exact absurd (Nat.lt_of_lt_of_le (Heap.lt_size e) z) (Nat.lt_irrefl _)
 have cellK:∀ x c,X.env.cells.lookup x=some c→∀ v,s.heap.IsCell c v→h'.IsCell c v:=fun x c e v ⟨o,ho,hd⟩=>by
  have nch:c∉ch:=fun z=>(hch c z).2.2.1 x c e rfl
  by_cases hc:c∈X.fs
  · obtain ⟨sl,q⟩:=slot c o (I.cne x c e) hc nch ho (I.freeC x c e)
    exact ⟨_,q,hd⟩
  · exact ⟨o,keep c o (I.cne x c e) hc nch ho (I.freeC x c e),hd⟩
 refine ⟨I.ok,I.os,hg,⟨fun b o e n hb hx=>?_,fun b o e n hb hx=>?_,fun b o e n hx=>?_,fun b o e hx=>?_,fun b xs e=>tups b xs (I.base.tups b xs e),fun b o xs e=>frzs b o xs (I.base.frzs b o xs e),fun b ps e=>?_⟩,?_,fun x c e=>?_,?_,fun x c e=>?_,fun p hp=>?_,hok,I.len⟩
 · exact keep b o (neL b o e) hb (neC b o e hx) (I.base.keep b o e n hb hx) (I.base.free b o e n hx)
 · obtain ⟨sl,e1⟩:=I.base.slot b o e n hb hx
   obtain ⟨sl',e2⟩:=slot b _ (neL b o e) hb (neC b o e hx) e1 (I.base.free b o e n hx)
   exact ⟨sl',e2⟩
 · obtain ⟨o',e1⟩:=I.base.there b o e hx
   exact free b o' (neC b o e hx) e1 (I.base.free b o e n hx)
 · obtain ⟨o',e1⟩:=I.base.there b o e hx
   exact there b o' (neC b o e hx) e1
 · obtain ⟨m1,e1⟩:=I.base.tbls b ps e
   obtain ⟨m2,e2⟩:=tbls b _ e1
   exact ⟨m1++m2,by rw [e2,Array.append_assoc]⟩
 · obtain ⟨m,hn,hl⟩:=I.loc
   refine ⟨m,ns m hn,fun i x v e1 e2 e3=>?_⟩
   obtain ⟨u,r,l⟩:=hl i x v e1 e2 e3
   refine ⟨u,r,?_⟩
   rcases l with l | ⟨k,c,e,z⟩
   · exact .inl l
   · exact .inr ⟨k,c,e,cellK x c e _ z⟩
 · obtain ⟨v,z⟩:=I.cell x c e
   exact ⟨v,cellK x c e v z⟩
 · obtain ⟨m,⟨o,_,_,ho,_⟩,_⟩:=I.loc
   exact free _ o (fun z=>(hch _ z).2.1 rfl) ho I.free
 · obtain ⟨v,o,ho,hd⟩:=I.cell x c e
   exact free c o (fun z=>(hch c z).2.2.1 x c e rfl) ho (I.freeC x c e)
 · obtain ⟨e,n,ne,nf,d⟩:=I.pin p hp
   have nch:p.1∉ch:=fun z=>(hch p.1 z).2.2.2 p hp rfl
   exact ⟨keep p.1 p.2 ne nf nch e n,free p.1 p.2 nch e n,ne,nf,d⟩
theorem Inv.un {t':Nat} (I:Inv X pins σ H s) (u:Un X.fs [] H H' s.heap h') (hok:HOk X.prog X.w H' h'):Inv X pins σ H' { s with heap:=h',toks:=t' }:=by
 obtain ⟨m,⟨o,es,ep,ho,r⟩,_⟩:=id I.loc
 obtain ⟨sl,hL⟩:=u.any ho I.free (by simp)
 exact I.step (g':=s.gens) (d':=s.drawn) (ch:=[]) (fun _ z=>nomatch z) (fun b o _ hb _ e n=>u.keep b o e n hb (by simp)) (fun b o _ hb _ e n=>u.slot b o e n hb (by simp)) (fun b o _ e n=>u.free b o e n (by simp)) (fun b o _ e=>u.there b o e (by simp)) u.tups u.frzs u.tbls (fun m' hm=>by
  obtain ⟨o',es',ep',ho',r'⟩:=hm
  rw [ho] at ho';cases ho'
  exact ⟨_,es',ep',hL,r'⟩) hok I.bare
theorem Inv.call {g':Array GenState}{t':Nat}{d':Drawn}{ch:List Addr} (I:Inv X pins σ H s) (u:Un (frs X.stack) ch H H' s.heap h') (hok:HOk X.prog X.w H' h') (hg:AllBare g')
  (hch:∀ b∈ch,(b∈X.ex∨X.s₀.heap.objs.size≤b)∧b≠X.env.locals∧(∀ x c,X.env.cells.lookup x=some c→c≠b)∧∀ p∈X.pn++pins,p.1≠b):
  Inv X pins σ H' { s with heap:=h',gens:=g',drawn:=d',toks:=t' }:=by
 obtain ⟨m,⟨o,es,ep,ho,r⟩,_⟩:=id I.loc
 obtain ⟨sl,hL⟩:=u.any ho I.free fun z=>(hch _ z).2.1 rfl
 exact I.step (ch:=ch) hch (fun b o hL hb hc e n=>u.keep b o e n (fun z=>(List.mem_cons.mp (I.stkSub b z)).elim hL hb) hc) (fun b o _ _ hc e n=>u.any e n hc) (fun b o hc e n=>u.free b o e n hc) (fun b o hc e=>u.there b o e hc) u.tups u.frzs u.tbls (fun m' hm=>by
  obtain ⟨o',es',ep',ho',r'⟩:=hm
  rw [ho] at ho';cases ho'
  exact ⟨_,es',ep',hL,r'⟩) hok hg
theorem Inv.turned {t':Nat}{it:Addr} (I:Inv X pins σ H s) (k:∀ b o,b≠it→s.heap.get? b=some o→h'.get? b=some o) (hn:H it=none) (hL:it≠X.env.locals)
  (h1:it∈X.ex∨X.s₀.heap.objs.size≤it) (h2:∀ x c,X.env.cells.lookup x=some c→c≠it) (h3:∀ p∈X.pn++pins,p.1≠it):Inv X pins σ H { s with heap:=h',toks:=t' }:=by
 have nit:∀ b u,H b=some u→b≠it:=fun b u e z=>by rw [z,hn] at e;cases e
 refine I.step (g':=s.gens) (d':=s.drawn) (ch:=[it]) (fun b hb=>?_) (fun b o _ _ hc e _=>k b o (fun z=>hc (by simp [z])) e) (fun b o _ _ hc e _=>⟨o.slots,k b o (fun z=>hc (by simp [z])) e⟩) (fun _ _ _ _ n=>n)
  (fun b o hc e=>⟨o,k b o (fun z=>hc (by simp [z])) e⟩) (fun _ _ e=>e) (fun _ _ _ e=>e) (fun b ps e=>⟨#[],by rw [e];simp⟩) (fun m hm=>?_) (fun b u e=>?_) I.bare
 · have e:b=it:=by simpa using hb
   subst e
   exact ⟨h1,hL,h2,h3⟩
 · obtain ⟨o,es,ep,ho,r⟩:=hm
   exact ⟨o,es,ep,k _ o (Ne.symm hL) ho,r⟩
 · refine (I.hok b u e).stay (fun c v hc q=>k c v ?_ q) (fun _ q=>q) fun _ _ q=>q
   rcases hc with z | z
   · rw [z];exact nit b u e
   · exact nit c _ z
theorem Inv.tok (I:Inv X pins σ H s) (t:Nat):Inv X pins σ H { s with toks:=t }:=I.un (h':=s.heap) (t':=t) Un.refl I.hok
theorem Inv.kept {t':Nat} (I:Inv X pins σ H s) (k:∀ b u,s.heap.get? b=some u→h'.get? b=some u):Inv X pins σ H { s with heap:=h',toks:=t' }:=I.un (Un.kept k) (I.hok.kept k)
theorem Inv.laid {a:Addr}{o:HO}{t':Nat} (I:Inv X pins σ H s) (k:∀ b u,s.heap.get? b=some u→h'.get? b=some u) (hp:s.heap.objs.size≤a) (new:ObjOk X.prog X.w (upd H a o) h' a o):
  Inv X pins σ (upd H a o) { s with heap:=h',toks:=t' }:=I.un (Un.laid k hp (I.hok.fresh hp)) (I.hok.laid k hp new)
theorem Inv.write {x e:Addr}{o:HO}{t':Nat} (I:Inv X pins σ H s) (mu:Mut (H x)) (he:e=x∨H e=some (.own x)) (k:∀ b u,b≠e→s.heap.get? b=some u→h'.get? b=some u) (heo:∃ u,h'.get? e=some u)
  (new:ObjOk X.prog X.w (upd H x o) h' x o):Inv X pins σ (upd H x o) { s with heap:=h',toks:=t' }:=I.un (Un.write mu he k heo) (I.hok.write mu he k heo new)
theorem Inv.pins_of {pins':List (Addr × Obj)} (I:Inv X pins σ H s) (h:∀ p∈pins',s.heap.get? p.1=some p.2∧H p.1=none∧p.1≠X.env.locals∧p.1∉X.fs∧∀ v,p.2.data≠.cell v):Inv X pins' σ H s:=
 ⟨I.ok,I.os,I.bare,I.base,I.loc,I.cell,I.free,I.freeC,fun p hp=>(List.mem_append.mp hp).elim (fun z=>I.pin p (List.mem_append_left _ z)) (h p),I.hok,I.len⟩
theorem nodup_ix {N:List Str} (hN:N.Nodup) {i j:Nat}{x:Str} (a:N[i]?=some x) (b:N[j]?=some x):i=j:=by
 obtain ⟨h1,e1⟩:=List.getElem?_eq_some_iff.mp a
 obtain ⟨h2,e2⟩:=List.getElem?_eq_some_iff.mp b
 exact (List.getElem_inj hN).mp (e1.trans e2.symm)
theorem store_ok2 {M:Model}{A:Around}{E:Value→Shared→Prop}{i:Nat}{x:Str}{v:V}{u:Value}{Q:Unit→Shared→Prop} (I:Inv X pins σ H s) (hN:X.N.Nodup) (hi:X.N[i]?=some x) (hx:Loc X.env.scope x) (r:RelV v u)
  (h:∀ s',Inv X pins (σ.set i (some v)) H s'→(∃ a,Heap.SameBut a s.heap s'.heap∧(a=X.env.locals∨X.env.cells.lookup x=some a))→Q () s') (hf:X.fn x=true∨X.env.scope.names.lookup x=some .local:=by first | exact .inl rfl | exact .inr rfl | assumption):wpAny M A (storeName X.env x u) Q E s:=by
 obtain ⟨m,hn,hl⟩:=id I.loc
 have hcls:(X.env.scope.kind == .class || (X.env.scope.kind == .module && X.env.locals != X.env.globals))=false:=by rw [I.ok.kind];rfl
 have hiσ:i < σ.length:=by rw [I.len];exact (List.getElem?_eq_some_iff.mp hi).1
 have cne:=I.cne
 have tracked:∀ {a:Addr}{h':Heap},(∃ o,s.heap.get? a=some o∧H a=none)→Heap.SameBut a s.heap h'→HOk X.prog X.w H h':=fun {a h'} ha hs b ob e=>by
  obtain ⟨_,_,hfree⟩:=ha
  refine (I.hok b ob e).stay (fun c w' hc q=>(hs.2 c ?_).trans q) (fun _ q=>q) fun _ _ q=>q
  rintro rfl
  rcases hc with rfl | hc
  · rw [hfree] at e;cases e
  · rw [hfree] at hc;cases hc
 rcases hx with hk | hk
 · refine wpAny_storeName_local hk hn (fun h' hn' hs=>?_) hcls
   obtain ⟨oL,_,_,hoL,_⟩:=id hn
   refine h _ ⟨I.ok,I.os,I.bare,⟨fun b o e n hb hx=>?_,fun b o e n hb hx=>?_,I.base.free,fun b o e hx=>?_,I.base.tups,I.base.frzs,I.base.tbls⟩,⟨_,hn',fun j y v' e1 e2 e3=>?_⟩,fun y c e=>?_,I.free,I.freeC,fun p hp=>?_,tracked ⟨oL,hoL,I.free⟩ hs,by simpa using I.len⟩ ⟨_,hs,.inl rfl⟩
   · exact (hs.2 b (Nat.ne_of_lt (Nat.lt_of_lt_of_le (Heap.lt_size e) I.ok.above))).trans (I.base.keep b o e n hb hx)
   · obtain ⟨sl,e1⟩:=I.base.slot b o e n hb hx
     exact ⟨sl,(hs.2 b (Nat.ne_of_lt (Nat.lt_of_lt_of_le (Heap.lt_size e) I.ok.above))).trans e1⟩
   · obtain ⟨o',e1⟩:=I.base.there b o e hx
     exact ⟨o',(hs.2 b (Nat.ne_of_lt (Nat.lt_of_lt_of_le (Heap.lt_size e) I.ok.above))).trans e1⟩
   · by_cases hj:j=i
     · subst hj
       rw [hi] at e1;cases e1
       rw [List.getElem?_set_self hiσ] at e2
       cases e2
       exact ⟨u,r,.inl ⟨hk,by simp⟩⟩
     · rw [List.getElem?_set_ne (Ne.symm hj)] at e2
       obtain ⟨u',r',q⟩:=hl j y v' e1 e2 e3
       refine ⟨u',r',?_⟩
       rcases q with ⟨k,e⟩ | ⟨k,c,e,z⟩
       · refine .inl ⟨k,?_⟩
         have:y≠x:=fun e=>hj (nodup_ix hN e1 (e▸hi))
         simp [this,e]
       · exact .inr ⟨k,c,e,z.sameBut hs (cne y c e)⟩
   · obtain ⟨w',z⟩:=I.cell y c e
     exact ⟨w',z.sameBut hs (cne y c e)⟩
   · obtain ⟨e,n,ne,nf,d⟩:=I.pin p hp
     exact ⟨(hs.2 p.1 ne).trans e,n,ne,nf,d⟩
 · have hfn:X.fn x=true:=by
     rcases hf with z | z
     · exact z
     · rw [z] at hk;cases hk
   obtain ⟨c,hc⟩:=I.ok.has x (.inl hk)
   obtain ⟨w',z⟩:=I.cell x c hc
   refine wpAny_storeName_cell I.ok.kind hk hc z (fun h' hc' hs=>?_)
   obtain ⟨oc,hoc,hocd⟩:=id z
   refine h { s with heap:=h' } ⟨I.ok,I.os,I.bare,⟨fun b o e n hb hx=>?_,fun b o e n hb hx=>?_,I.base.free,fun b o e hx=>?_,I.base.tups,I.base.frzs,I.base.tbls⟩,⟨m,hn.sameBut hs (Ne.symm (cne x c hc)),fun j y v' e1 e2 e3=>?_⟩,fun y c' e=>?_,I.free,I.freeC,fun p hp=>?_,tracked ⟨oc,hoc,I.freeC x c hc⟩ hs,by simpa using I.len⟩ ⟨c,hs,.inr hc⟩
   · exact (hs.2 b (Nat.ne_of_lt (Nat.lt_of_lt_of_le (Heap.lt_size e) (I.ok.cab x c hfn hc)))).trans (I.base.keep b o e n hb hx)
   · obtain ⟨sl,e1⟩:=I.base.slot b o e n hb hx
     exact ⟨sl,(hs.2 b (Nat.ne_of_lt (Nat.lt_of_lt_of_le (Heap.lt_size e) (I.ok.cab x c hfn hc)))).trans e1⟩
   · obtain ⟨o',e1⟩:=I.base.there b o e hx
     exact ⟨o',(hs.2 b (Nat.ne_of_lt (Nat.lt_of_lt_of_le (Heap.lt_size e) (I.ok.cab x c hfn hc)))).trans e1⟩
   · by_cases hj:j=i
     · subst hj
       rw [hi] at e1;cases e1
       rw [List.getElem?_set_self hiσ] at e2
       cases e2
       exact ⟨u,r,.inr ⟨.inl hk,c,hc,hc'⟩⟩
     · rw [List.getElem?_set_ne (Ne.symm hj)] at e2
       obtain ⟨u',r',q⟩:=hl j y v' e1 e2 e3
       refine ⟨u',r',?_⟩
       rcases q with q | ⟨k,c',e,z'⟩
       · exact .inl q
       · refine .inr ⟨k,c',e,z'.sameBut hs ?_⟩
         rintro rfl
         exact hj (nodup_ix hN e1 (I.ok.inj _ _ _ e hc▸hi))
   · by_cases hcc:c'=c
     · subst hcc;exact ⟨_,hc'⟩
     · obtain ⟨w2,z2⟩:=I.cell y c' e
       exact ⟨w2,z2.sameBut hs hcc⟩
   · obtain ⟨e,n,ne,nf,d⟩:=I.pin p hp
     refine ⟨(hs.2 p.1 ?_).trans e,n,ne,nf,d⟩
     intro q
     rw [q,hoc] at e
     have q':oc=p.2:=Option.some.inj e
     exact d w' (by rw [← q'];exact hocd)
theorem store_ok {M:Model}{A:Around}{E:Value→Shared→Prop}{i:Nat}{x:Str}{v:V}{u:Value}{Q:Unit→Shared→Prop} (I:Inv X pins σ H s) (hN:X.N.Nodup) (hi:X.N[i]?=some x) (hx:Loc X.env.scope x) (r:RelV v u)
  (h:∀ s',Inv X pins (σ.set i (some v)) H s'→Q () s') (hf:X.fn x=true∨X.env.scope.names.lookup x=some .local:=by first | exact .inl rfl | exact .inr rfl | assumption):wpAny M A (storeName X.env x u) Q E s:=
 store_ok2 I hN hi hx r (fun s' I' _=>h s' I') hf
theorem Inv.call' {s':Shared}{ch:List Addr} (I:Inv X pins σ H s) (ho:s'.os=s.os) (u:Un (frs X.stack) ch H H' s.heap s'.heap) (hok:HOk X.prog X.w H' s'.heap) (hg:AllBare s'.gens)
  (hch:∀ b∈ch,(b∈X.ex∨X.s₀.heap.objs.size≤b)∧b≠X.env.locals∧(∀ x c,X.env.cells.lookup x=some c→c≠b)∧∀ p∈X.pn++pins,p.1≠b):Inv X pins σ H' s':=by
 obtain ⟨h',g',d',t',o'⟩:=s'
 have e:o'=s.os:=ho
 subst e
 exact I.call (g':=g') (t':=t') (d':=d') u hok hg hch
end
abbrev XK:=Value→Option Addr→Hp→Prop
abbrev St:=List (Option V)
abbrev VK:=V→Hp→Prop
abbrev TE:=St→Hp→VK→Prop
abbrev TT:=St→Hp→(Bool→Hp→Prop)→Prop
abbrev TA:=St→Hp→(List V→Hp→Prop)→Prop
structure Ends where
 nx:St→Hp→Prop
 rt:VK
 bk:St→Hp→Prop:=fun _ _=>False
 ct:St→Hp→Prop:=fun _ _=>False
abbrev TS:=Ends→St→Hp→Prop
def EP (X:Cx) (pins:List (Addr × Obj)) (σ:St) (Q:VK) (u:Value) (s':Shared):Prop:=∃ v H',Inv X pins σ H' s'∧RelV v u∧Q v H'
def TP (X:Cx) (pins:List (Addr × Obj)) (σ:St) (Q:Bool→Hp→Prop) (b:Bool) (s':Shared):Prop:=∃ H',Inv X pins σ H' s'∧Q b H'
def AP (X:Cx) (pins:List (Addr × Obj)) (σ:St) (Q:List V→Hp→Prop) (us:List Value) (s':Shared):Prop:=∃ vs H',Inv X pins σ H' s'∧Vals vs us∧Q vs H'
def SP (X:Cx) (pins:List (Addr × Obj)) (D:Ends) (f:Flow) (s':Shared):Prop:=
 match f with
 | .next=>∃ σ' H',Inv X pins σ' H' s'∧D.nx σ' H'
 | .brk=>∃ σ' H',Inv X pins σ' H' s'∧D.bk σ' H'
 | .cont=>∃ σ' H',Inv X pins σ' H' s'∧D.ct σ' H'
 | .ret u=>∃ v σ' H',Inv X pins σ' H' s'∧RelV v u∧D.rt v H'
def PE (X:Cx) (e:Expr) (t:TE):Prop:=
 ∀ (pins:List (Addr × Obj)) (s:Shared) (σ:St) (H:Hp) (Q:VK),Inv X pins σ H s→t σ H Q→wpAny (model X.prog X.w) X.A (eval e X.env) (EP X pins σ Q) X.xe s
def PT (X:Cx) (e:Expr) (t:TT):Prop:=
 ∀ (pins:List (Addr × Obj)) (s:Shared) (σ:St) (H:Hp) (Q:Bool→Hp→Prop),Inv X pins σ H s→t σ H Q→wpAny (model X.prog X.w) X.A (isTrue e X.env (eval e X.env)) (TP X pins σ Q) X.xe s
def PW (X:Cx) (e:Expr) (t:TT):Prop:=
 ∀ (whole:Sem Value) (pins:List (Addr × Obj)) (s:Shared) (σ:St) (H:Hp) (Q:Bool→Hp→Prop),Inv X pins σ H s→t σ H Q→wpAny (model X.prog X.w) X.A (isTrue e X.env whole) (TP X pins σ Q) X.xe s
theorem PW.pt {X:Cx}{e:Expr}{t:TT} (h:PW X e t):PT X e t:=h _
def PA (X:Cx) (es:List Expr) (t:TA):Prop:=
 ∀ (pos:Pos) (pins:List (Addr × Obj)) (s:Shared) (σ:St) (H:Hp) (Q:List V→Hp→Prop),Inv X pins σ H s→t σ H Q→wpAny (model X.prog X.w) X.A (spliced (backTo pos (starEach es X.env))) (AP X pins σ Q) X.xe s
def PS (X:Cx) (st:Stmt) (t:TS):Prop:=
 ∀ (pins:List (Addr × Obj)) (s:Shared) (σ:St) (H:Hp) (D:Ends),Inv X pins σ H s→t D σ H→wpAny (model X.prog X.w) X.A (exec st X.env) (SP X pins D) X.xe s
def PSs (X:Cx) (st:List Stmt) (t:TS):Prop:=
 ∀ (pins:List (Addr × Obj)) (s:Shared) (σ:St) (H:Hp) (D:Ends),Inv X pins σ H s→t D σ H→wpAny (model X.prog X.w) X.A (execs st X.env) (SP X pins D) X.xe s
theorem thn {α:Type}{t:Sem α}{Q Q':α→Shared→Prop}{M:Model}{A:Around}{E:Value→Shared→Prop}{s:Shared} (h:wpAny M A t Q E s) (hQ:∀ a s,Q a s→Q' a s):wpAny M A t Q' E s:=wpAny_mono h hQ fun _ _ x=>x
section
variable {X:Cx}
def tVar (i:Nat):TE:=fun σ H Q=>∃ v,σ[i]?=some (some v)∧Q v H
def tC (v:V):TE:=fun _ H Q=>Q v H
theorem pe_var {i:Nat}{x:Str}{pos:Pos} (hN:X.N[i]?=some x) (hv:Vis X.env.scope x) (hd:(x == ("__debug__":Str))=false:=by decide) (hcd:(x == ("__classdict__":Str))=false:=by decide):PE X (.Name x pos) (tVar i):=by
 intro pins s σ H Q I h
 obtain ⟨v,e,h⟩:=h
 obtain ⟨m,hn,hl⟩:=I.loc
 obtain ⟨u,r,l⟩:=hl i x v hN e hv
 have fin:EP X pins σ Q u s:=⟨v,H,I,r,h⟩
 rcases l with ⟨hk,hm⟩ | ⟨hk,c,hc,hcell⟩
 · exact wpAny_Name (wpAny_loadName_local I.ok.kind hk hn hm fin) hd
 · rcases hk with hk | hk
   · exact wpAny_Name (wpAny_loadName_cell I.ok.kind hk hc hcell fin) hd
   · exact wpAny_Name (wpAny_loadName_free I.ok.kind hk hc hcell fin hcd) hd
theorem pe_int {i j pos}:PE X (.Constant (.int i) j pos) (tC (.int i)):=fun _ _ _ H _ I h=>wpAny_Constant_int ⟨.int i,H,I.tok _,⟨_,rfl⟩,h⟩
theorem pe_bl {b j pos}:PE X (.Constant (.bool b) j pos) (tC (.bl b)):=fun _ _ _ H _ I h=>Constant_bool ⟨.bl b,H,I,rfl,h⟩
theorem pe_non {j pos}:PE X (.Constant .none j pos) (tC .non):=fun _ _ _ H _ I h=>Constant_none ⟨.non,H,I,rfl,h⟩
theorem pe_str {x j pos}:PE X (.Constant (.str x) j pos) (tC (.str x)):=fun _ _ _ H _ I h=>Calls.Constant_str ⟨.str x,H,I.tok _,⟨_,rfl⟩,h⟩
def Gl (X:Cx) (x:Str):Prop:=X.env.kindOf x=some .globalImplicit
theorem ld_glob {E:Value→Shared→Prop}{pins:List (Addr × Obj)}{s:Shared}{σ:St}{H:Hp}{x:Str}{u:Value}{pos:Pos}{Q:Value→Shared→Prop} (I:Inv X pins σ H s) (hg:Gl X x) (hm:X.mg x=some u) (h:Q u s)
  (hd:(x == ("__debug__":Str))=false:=by decide):wpAny (model X.prog X.w) X.A (eval (.Name x pos) X.env) Q E s:=
 Calls.Name_function_global I.ok.kind hg (Calls.loadGlobal_global (by rw [I.ok.glob];exact I.mod.glob.keeps I.bk) hm h) hd
theorem ld_blt {E:Value→Shared→Prop}{pins:List (Addr × Obj)}{s:Shared}{σ:St}{H:Hp}{x:Str}{u:Value}{pos:Pos}{Q:Value→Shared→Prop} (I:Inv X pins σ H s) (hg:Gl X x) (hm:X.mg x=none) (hv:bootBuiltins x=some u) (h:Q u s)
  (hn:x≠"__name__":=by decide) (hd:(x == ("__debug__":Str))=false:=by decide):wpAny (model X.prog X.w) X.A (eval (.Name x pos) X.env) Q E s:=by
 obtain ⟨mb,h1,h2⟩:=I.mod.blt
 exact Calls.Name_function_global I.ok.kind hg (Calls.loadGlobal_builtin (by rw [I.ok.glob];exact I.mod.glob.keeps I.bk) hm (by rw [I.ok.blt];exact h1.keeps I.bk) ((h2 x hn).trans hv) h) hd
theorem pe_glob {x:Str}{v:V}{u:Value}{pos:Pos} (hg:Gl X x) (hm:X.mg x=some u) (r:RelV v u) (hd:(x == ("__debug__":Str))=false:=by decide):PE X (.Name x pos) (tC v):=
 fun _ _ _ H _ I h=>ld_glob I hg hm ⟨v,H,I,r,h⟩ hd
theorem pe_bltn {x:Str}{v:V}{u:Value}{pos:Pos} (hg:Gl X x) (hm:X.mg x=none) (hv:bootBuiltins x=some u) (r:RelV v u) (hn:x≠"__name__":=by decide) (hd:(x == ("__debug__":Str))=false:=by decide):PE X (.Name x pos) (tC v):=
 fun _ _ _ H _ I h=>ld_blt I hg hm hv ⟨v,H,I,r,h⟩ hn hd
variable {a b:Expr}{ta tb:TE}{pos:Pos}
def PC (X:Cx) (op:CmpOp) (a b:Expr) (t:TE):Prop:=
 ∀ (pins:List (Addr × Obj)) (s:Shared) (σ:St) (H:Hp) (Q:VK),Inv X pins σ H s→t σ H Q→
  wpAny (model X.prog X.w) X.A (eval a X.env) (fun v s₁=>wpAny (model X.prog X.w) X.A (eval b X.env) (fun u s₂=>wpAny (model X.prog X.w) X.A (compareOp op v u) (EP X pins σ Q) X.xe s₂) X.xe s₁) X.xe s
def tB (t:TE):TT:=fun σ H Q=>t σ H fun x H1=>∃ c,x=.bl c∧Q c H1
theorem pt_cmp {op:CmpOp}{t:TE} (h:PC X op a b t) (h1:behindInMarks op b=false:=by first | exact nobehind _ (by decide) (by decide) | rfl):PT X (.Compare a [op] [b] pos) (tB t):=by
 intro pins s σ H Q I hw
 refine wpAny_isTrue_Compare1 (thn (h pins s σ H _ I hw) fun v s1 h1=>thn h1 fun u s2 h2=>thn h2 fun c s3 ⟨x,H1,I1,r1,q1⟩=>?_) h1
 obtain ⟨d,rfl,q⟩:=q1
 cases r1
 exact wpAny_truthy_bool ⟨H1,I1,q⟩
theorem pt_val {e:Expr}{t:TE} (h:PE X e t) (he:∀ whole,isTrue e X.env whole=(do let v ← whole;standAt e.pos;holding [v] (truthy v)):=by intro _;rfl):PT X e (tB t):=by
 intro pins s σ H Q I hw
 refine isTrue_plain (thn (h pins s σ H _ I hw) fun v s1 ⟨x,H1,I1,r1,q1⟩=>?_) (he _)
 obtain ⟨d,rfl,q⟩:=q1
 cases r1
 exact wpAny_truthy_bool ⟨H1,I1,q⟩
variable {tA tB':TT}{rest:List Expr}
def tAnd (t u:TT):TT:=fun σ H Q=>t σ H fun c H1=>if c=true then u σ H1 Q else Q false H1
def tOr (t u:TT):TT:=fun σ H Q=>t σ H fun c H1=>if c=true then Q true H1 else u σ H1 Q
def tNot (t:TT):TT:=fun σ H Q=>t σ H fun c H1=>Q (!c) H1
theorem pw_and1 (ha:PT X a tA):PW X (.BoolOp .And [a] pos) tA:=by
 intro wh pins s σ H Q I h
 refine isTrue_and (thn (ha pins s σ H Q I h) fun c s1 e=>?_)
 cases c with
 | true=>exact isTrue_and_nil e
 | false=>exact e
theorem pw_or1 (ha:PT X a tA):PW X (.BoolOp .Or [a] pos) tA:=by
 intro wh pins s σ H Q I h
 refine isTrue_or (thn (ha pins s σ H Q I h) fun c s1 e=>?_)
 cases c with
 | false=>exact isTrue_or_nil e
 | true=>exact e
theorem pw_and (ha:PT X a tA) (hb:PW X (.BoolOp .And (b::rest) pos) tB'):PW X (.BoolOp .And (a::b::rest) pos) (tAnd tA tB'):=by
 intro wh pins s σ H Q I h
 refine isTrue_and (thn (ha pins s σ H _ I h) fun c s1 ⟨H1,I1,q1⟩=>?_)
 cases c with
 | true=>exact hb wh pins s1 σ H1 Q I1 q1
 | false=>exact ⟨H1,I1,q1⟩
theorem pw_or (ha:PT X a tA) (hb:PW X (.BoolOp .Or (b::rest) pos) tB'):PW X (.BoolOp .Or (a::b::rest) pos) (tOr tA tB'):=by
 intro wh pins s σ H Q I h
 refine isTrue_or (thn (ha pins s σ H _ I h) fun c s1 ⟨H1,I1,q1⟩=>?_)
 cases c with
 | true=>exact ⟨H1,I1,q1⟩
 | false=>exact hb wh pins s1 σ H1 Q I1 q1
theorem pt_not (ha:PT X a tA):PT X (.UnaryOp .Not a pos) (tNot tA):=by
 intro pins s σ H Q I h
 exact isTrue_not (ha pins s σ H (fun c H1=>Q (!c) H1) I h)
def tAndV (ta tb:TE):TE:=fun σ H Q=>ta σ H fun x H1=>∃ c,x=.bl c∧if c=true then tb σ H1 Q else Q (.bl false) H1
def tOrV (ta tb:TE):TE:=fun σ H Q=>ta σ H fun x H1=>∃ c,x=.bl c∧if c=true then Q (.bl true) H1 else tb σ H1 Q
theorem pe_one {op}{t:TE} (h:PE X a t):PE X (.BoolOp op [a] pos) t:=fun pins s σ H Q I hw=>BoolOp_one (h pins s σ H Q I hw)
theorem pe_and (ha:PE X a ta) (hb:PE X (.BoolOp .And (b::rest) pos) tb):PE X (.BoolOp .And (a::b::rest) pos) (tAndV ta tb):=by
 intro pins s σ H Q I h
 refine BoolOp_and (thn (ha pins s σ H _ I h) fun v s1 ⟨x,H1,I1,r1,q1⟩=>?_)
 obtain ⟨c,rfl,q1⟩:=q1
 cases r1
 refine wpAny_truthy_bool ?_
 cases c with
 | true=>exact hb pins s1 σ H1 Q I1 q1
 | false=>exact ⟨.bl false,H1,I1,rfl,q1⟩
theorem pe_or (ha:PE X a ta) (hb:PE X (.BoolOp .Or (b::rest) pos) tb):PE X (.BoolOp .Or (a::b::rest) pos) (tOrV ta tb):=by
 intro pins s σ H Q I h
 refine BoolOp_or (thn (ha pins s σ H _ I h) fun v s1 ⟨x,H1,I1,r1,q1⟩=>?_)
 obtain ⟨c,rfl,q1⟩:=q1
 cases r1
 refine wpAny_truthy_bool ?_
 cases c with
 | false=>exact hb pins s1 σ H1 Q I1 q1
 | true=>exact ⟨.bl true,H1,I1,rfl,q1⟩
end
def SqL (K:PySem.W.Frag) (H:Hp) (a:Addr) (xs:List V):Prop:=
 Rd H a (.lst xs)∨
  ∃ (o:Obj) (its:Array Value) (n:Nat),K.lookup a=some o∧o.cls=.type "list"∧o.dict=none∧o.data=.seq its n∧its.size≤sizeLine∧Vals xs its.toList
def SqT (K:PySem.W.Frag) (H:Hp) (a:Addr) (xs:List V):Prop:=
 Rd H a (.tup xs)∨
  ∃ (o:Obj) (its:Array Value) (n:Nat),K.lookup a=some o∧o.cls=.type "tuple"∧o.data=.seq its n∧its.size≤sizeLine∧Vals xs its.toList
def absV:Value→Option V
 | .none=>some .non
 | .bool b=>some (.bl b)
 | .int i _=>some (.int i)
 | .str x _=>some (.str x)
 | .bytes b _=>some (.byt b)
 | .float b _=>some (.flt b)
 | .ref a=>some (.ref a)
 | .type n=>some (.ty n)
 | _=>none
theorem RelV.abs {x:V}{u:Value} (r:RelV x u):absV u=some x:=by
 cases x with
 | non=>cases r;rfl
 | bl _=>cases r;rfl
 | int _=>obtain ⟨t,rfl⟩:=r;rfl
 | str _=>obtain ⟨t,rfl⟩:=r;rfl
 | byt _=>obtain ⟨t,rfl⟩:=r;rfl
 | flt _=>obtain ⟨t,rfl⟩:=r;rfl
 | ref _=>cases r;rfl
 | ty _=>cases r;rfl
theorem RelV.inj {x y:V}{u:Value} (r:RelV x u) (q:RelV y u):x=y:=Option.some.inj (r.abs.symm.trans q.abs)
theorem Vals.inj:∀ {xs ys:List V}{us:List Value},Vals xs us→Vals ys us→xs=ys
 | _,_,_,.nil,.nil=>rfl
 | _,_,_,.cons r t,.cons r' t'=>by rw [r.inj r',Vals.inj t t']
section
variable {X:Cx}{pins:List (Addr × Obj)}{σ:St}{H:Hp}{s:Shared}{a:Addr}{xs ys:List V}
theorem SqL.of {K:PySem.W.Frag} (h:H a=some (.lst xs)):SqL K H a xs:=.inl (.inl h)
theorem SqT.of {K:PySem.W.Frag} (h:H a=some (.tup xs)):SqT K H a xs:=.inl (.inl h)
theorem Inv.list (I:Inv X pins σ H s) (h:SqL X.K H a xs):∃ its:List Value,Vals xs its∧PlainL s.heap a its.toArray∧xs.length≤sizeLine:=by
 rcases h with h | ⟨o,its,n,hk,hc,hd,hs,hz,r⟩
 · obtain ⟨z,its,n,r,e⟩:=h.ok I.hok
   exact ⟨its,r,⟨_,n,e,rfl,rfl,rfl⟩,z⟩
 · refine ⟨its.toList,r,⟨o,n,I.kIn a o hk,hc,hd,by simpa using hs⟩,?_⟩
   have e:=r.length
   simp only [Array.length_toList] at e
   omega
theorem Inv.tuple (I:Inv X pins σ H s) (h:SqT X.K H a xs):∃ its:List Value,Vals xs its∧IsTup s.heap a its.toArray∧xs.length≤sizeLine:=by
 rcases h with h | ⟨o,its,n,hk,hc,hs,hz,r⟩
 · obtain ⟨z,its,r,p⟩:=h.ok I.hok
   exact ⟨its,r,p,z⟩
 · refine ⟨its.toList,r,⟨o,I.kIn a o hk,hc,n,by simpa using hs⟩,?_⟩
   have e:=r.length
   simp only [Array.length_toList] at e
   omega
theorem Inv.list_inj (I:Inv X pins σ H s) (h:SqL X.K H a xs) (h':SqL X.K H a ys):xs=ys:=by
 obtain ⟨its,r,⟨o,n,e,_,_,d⟩,_⟩:=I.list h
 obtain ⟨its',r',⟨o',n',e',_,_,d'⟩,_⟩:=I.list h'
 rw [e] at e';cases e'
 rw [d] at d'
 injection d' with d1 _
 have:its=its':=by simpa using congrArg Array.toList d1
 subst this
 exact r.inj r'
theorem Inv.tuple_inj (I:Inv X pins σ H s) (h:SqT X.K H a xs) (h':SqT X.K H a ys):xs=ys:=by
 obtain ⟨its,r,⟨o,e,_,n,d⟩,_⟩:=I.tuple h
 obtain ⟨its',r',⟨o',e',_,n',d'⟩,_⟩:=I.tuple h'
 rw [e] at e';cases e'
 rw [d] at d'
 injection d' with d1 _
 have:its=its':=by simpa using congrArg Array.toList d1
 subst this
 exact r.inj r'
end
abbrev Cx.wish (X:Cx) (E:Value→Shared→Prop):Cx:={ X with xe:=E }
abbrev Cx.nox (X:Cx):Cx:=X.wish fun _ _=>False
theorem Cx.Ok.wish {X:Cx} (ok:X.Ok) (E:Value→Shared→Prop):(X.wish E).Ok:=
 ⟨ok.mod,ok.kind,ok.glob,ok.blt,ok.above,ok.inj,ok.has,ok.cab,ok.hd,ok.frames,ok.stk,ok.exf,ok.bs,ok.bsz,ok.noex,ok.exfs,ok.funs,ok.frf⟩
theorem Cx.Ok.unwish {X:Cx}{E:Value→Shared→Prop} (ok:(X.wish E).Ok):X.Ok:=
 ⟨ok.mod,ok.kind,ok.glob,ok.blt,ok.above,ok.inj,ok.has,ok.cab,ok.hd,ok.frames,ok.stk,ok.exf,ok.bs,ok.bsz,ok.noex,ok.exfs,ok.funs,ok.frf⟩
section
variable {X:Cx}{pins:List (Addr × Obj)}{σ:St}{H:Hp}{s:Shared}{E:Value→Shared→Prop}
theorem Inv.wish (I:Inv X pins σ H s) (E:Value→Shared→Prop):Inv (X.wish E) pins σ H s:=⟨I.ok.wish E,I.os,I.bare,I.base,I.loc,I.cell,I.free,I.freeC,I.pin,I.hok,I.len⟩
theorem Inv.unwish (I:Inv (X.wish E) pins σ H s):Inv X pins σ H s:=⟨I.ok.unwish,I.os,I.bare,I.base,I.loc,I.cell,I.free,I.freeC,I.pin,I.hok,I.len⟩
theorem SP.unwish {D:Ends}{f:Flow}{s':Shared} (h:SP (X.wish E) pins D f s'):SP X pins D f s':=by
 cases f with
 | next=>obtain ⟨σ',H',I,q⟩:=h;exact ⟨σ',H',I.unwish,q⟩
 | brk=>obtain ⟨σ',H',I,q⟩:=h;exact ⟨σ',H',I.unwish,q⟩
 | cont=>obtain ⟨σ',H',I,q⟩:=h;exact ⟨σ',H',I.unwish,q⟩
 | ret u=>obtain ⟨v,σ',H',I,r,q⟩:=h;exact ⟨v,σ',H',I.unwish,r,q⟩
theorem PSs.nox {st:List Stmt}{t:TS} (h:PSs X.nox st t):PSs X st t:=fun pins s σ H D I hw=>
 wpAny_mono (h pins s σ H D (I.wish _) hw) (fun _ _ q=>q.unwish) fun _ _ z=>False.elim z
end
section
variable {X:Cx}{st:Stmt}{rest:List Stmt}{t u:TS}{e:Expr}{te:TE}{pos:Pos}
def tNext:TS:=fun D σ H=>D.nx σ H
def tSeq (t u:TS):TS:=fun D σ H=>t { D with nx:=u D } σ H
theorem pss_nil:PSs X [] tNext:=fun _ _ σ H _ I h=>wpAny_execs_nil ⟨σ,H,I,h⟩
theorem pss_cons (h1:PS X st t) (h2:PSs X rest u):PSs X (st::rest) (tSeq t u):=by
 intro pins s σ H D I h
 refine wpAny_execs_cons (thn (h1 pins s σ H { D with nx:=u D } I h) fun f s1 q=>?_)
 cases f with
 | next=>
  obtain ⟨σ',H',I',q⟩:=q
  exact h2 pins s1 σ' H' D I' q
 | ret v=>exact q
 | brk=>exact q
 | cont=>exact q
theorem pss_one (h1:PS X st t):PSs X [st] t:=by
 intro pins s σ H D I h
 refine wpAny_execs_cons (thn (h1 pins s σ H D I h) fun f s1 q=>?_)
 cases f with
 | next=>exact wpAny_execs_nil q
 | ret v=>exact q
 | brk=>exact q
 | cont=>exact q
def tCont:TS:=fun D σ H=>D.ct σ H
theorem ps_continue:PS X (.Continue pos) tCont:=fun _ _ σ H _ I h=>wpAny_Continue ⟨σ,H,I,h⟩
theorem Inv.quiet {pins:List (Addr × Obj)}{σ:St}{H:Hp}{s:Shared} (I:Inv X pins σ H s):interactive X.env=false:=by simp [interactive,I.ok.kind]
def tDrop (te:TE):TS:=fun D σ H=>te σ H fun _ H1=>D.nx σ H1
theorem ps_expr (he:PE X e te) (hs:swapsWith e none pos.line X.env=pure false:=by rfl):PS X (.Expr e pos) (tDrop te):=by
 intro pins s σ H D I h
 exact wpAny_Expr_any (thn (he pins s σ H _ I h) fun v s1 ⟨x,H1,I1,r1,q1⟩=>⟨σ,H1,I1,q1⟩) I.quiet hs
def tRet (te:TE):TS:=fun D σ H=>te σ H D.rt
theorem ps_ret (he:PE X e te):PS X (.Return (some e) pos) (tRet te):=by
 intro pins s σ H D I h
 exact wpAny_Return_some (thn (he pins s σ H _ I h) fun v s1 ⟨x,H1,I1,r1,q1⟩=>⟨x,σ,H1,I1,r1,q1⟩)
def tIfS (c:TT) (t u:TS):TS:=fun D σ H=>c σ H fun b H1=>if b=true then t D σ H1 else u D σ H1
theorem ps_if {c:Expr}{a b:List Stmt}{tc:TT} (hc:PT X c tc) (ha:PSs X a t) (hb:PSs X b u):PS X (.If c a b pos) (tIfS tc t u):=by
 intro pins s σ H D I h
 refine wpAny_If (thn (hc pins s σ H _ I h) fun d s1 ⟨H1,I1,q1⟩=>?_)
 cases d with
 | true=>exact ha pins s1 σ H1 D I1 q1
 | false=>exact hb pins s1 σ H1 D I1 q1
def tNever:TS:=fun _ _ _=>False
theorem ps_never:PS X st tNever:=fun _ _ _ _ _ _ h=>h.elim
end
abbrev TG:=V→St→Hp→(St→Hp→Prop)→Prop
abbrev TGs:=List V→St→Hp→(St→Hp→Prop)→Prop
def PG (X:Cx) (target:Expr) (t:TG):Prop:=
 ∀ (pins:List (Addr × Obj)) (s:Shared) (σ:St) (H:Hp) (v:V) (u:Value) (Q:St→Hp→Prop),Inv X pins σ H s→RelV v u→t v σ H Q→
  wpAny (model X.prog X.w) X.A (assign target X.env u) (fun _ s'=>∃ σ' H',Inv X pins σ' H' s'∧Q σ' H') X.xe s
def PGs (X:Cx) (ts:List Expr) (t:TGs):Prop:=
 ∀ (pins:List (Addr × Obj)) (s:Shared) (σ:St) (H:Hp) (vs:List V) (us:List Value) (Q:St→Hp→Prop),Inv X pins σ H s→Vals vs us→t vs σ H Q→
  wpAny (model X.prog X.w) X.A (assignInOrder ((assignEach ts X.env).map (·.2)) us) (fun _ s'=>∃ σ' H',Inv X pins σ' H' s'∧Q σ' H') X.xe s
abbrev TSet:=V→V→V→Hp→(Hp→Prop)→Prop
def PSet (X:Cx) (t:TSet):Prop:=
 ∀ (pins:List (Addr × Obj)) (s:Shared) (σ:St) (H:Hp) (o i v:V) (ov iv u:Value) (Q:Hp→Prop),Inv X pins σ H s→RelV o ov→RelV i iv→RelV v u→t o i v H Q→
  wpAny (model X.prog X.w) X.A (setItem ov iv u) (fun _ s'=>∃ H',Inv X pins σ H' s'∧Q H') X.xe s
abbrev TIp:=V→V→Hp→VK→Prop
def PIp (X:Cx) (op:Operator) (t:TIp):Prop:=
 ∀ (pins:List (Addr × Obj)) (s:Shared) (σ:St) (H:Hp) (x y:V) (v u:Value) (Q:VK),Inv X pins σ H s→RelV x v→RelV y u→t x y H Q→
  wpAny (model X.prog X.w) X.A (inplaceOp op v u) (EP X pins σ Q) X.xe s
section
variable {X:Cx}{pos:Pos}
def gName (i:Nat):TG:=fun v σ H Q=>Q (σ.set i (some v)) H
theorem pg_name {i:Nat}{x:Str} (hN:X.N.Nodup) (hi:X.N[i]?=some x) (hx:Loc X.env.scope x) (hf:X.fn x=true∨X.env.scope.names.lookup x=some .local:=by first | exact .inl rfl | exact .inr rfl | assumption):PG X (.Name x pos) (gName i):=by
 intro pins s σ H v u Q I r h
 exact wpAny_assign_Name (store_ok I hN hi hx r (fun s' I'=>⟨_,H,I',h⟩) hf)
def gNil:TGs:=fun vs σ H Q=>vs=[]∧Q σ H
def gCons (t:TG) (u:TGs):TGs:=fun vs σ H Q=>∃ v r,vs=v::r∧t v σ H fun σ' H'=>u r σ' H' Q
theorem pgs_nil:PGs X [] gNil:=by
 intro pins s σ H vs us Q I r h
 obtain ⟨e,h⟩:=h
 subst e
 cases r
 exact assignInOrder_nil ⟨σ,H,I,h⟩
theorem pgs_cons {e:Expr}{es:List Expr}{t:TG}{u:TGs} (h1:PG X e t) (h2:PGs X es u)
  (hs:(assignEach (e::es) X.env).map (·.2)=assign e X.env::(assignEach es X.env).map (·.2):=by rfl):PGs X (e::es) (gCons t u):=by
 intro pins s σ H vs us Q I r h
 obtain ⟨v,vr,e1,h⟩:=h
 subst e1
 cases r with
 | cons r rr=>
  rw [hs]
  refine assignInOrder_cons (thn (h1 pins s σ H _ _ _ I r h) fun _ s1 ⟨σ1,H1,I1,q1⟩=>?_)
  exact h2 pins s1 σ1 H1 _ _ Q I1 rr q1
def gTup (K:PySem.W.Frag) (n:Nat) (t:TGs):TG:=fun v σ H Q=>∃ a xs,v=.ref a∧SqT K H a xs∧xs.length=n∧t xs σ H Q
theorem pg_tup {es:List Expr}{k:Nat}{t:TGs}{n:Nat} (hc:X.calm=true) (h:PGs X es t)
  (hn:(assignEach es X.env).length=n:=by rfl) (hst:(assignEach es X.env).findIdx? (·.1)=none:=by rfl):PG X (.Tuple es k pos) (gTup X.K n t):=by
 intro pins s σ H v u Q I r hw
 obtain ⟨a,xs,e1,hq,hl,hw⟩:=hw
 subst e1
 cases r
 obtain ⟨its,rv,ht,hz⟩:=I.tuple hq
 refine assign_Tuple_tuple (I.ok.hd hc) ht (by simp [hn, ← hl,rv.length]) hst fun h' hx=>?_
 have I1:Inv X pins σ H { s with heap:=h' }:=I.kept (t':=s.toks) fun b o e=>hx b o (Nat.ne_of_lt (Heap.lt_size e)) e
 exact h pins _ σ H xs _ Q I1 (by simpa using rv) hw
def gSub (to ti:TE) (t:TSet):TG:=fun v σ H Q=>to σ H fun o H1=>ti σ H1 fun i H2=>t o i v H2 fun H3=>Q σ H3
theorem pg_sub {o i:Expr}{to ti:TE}{t:TSet} (ho:PE X o to) (hi:PE X i ti) (hs:PSet X t)
  (ha:∀ v,assign (.Subscript o i pos) X.env v=(do
   let ov ← holding [v] (eval o X.env)
   let iv ← holding [v,ov] (eval i X.env)
   standAt pos
   holding [v,ov,iv] (setItem ov iv v)
   release [v,ov,iv] []):=by intro _;rfl):PG X (.Subscript o i pos) (gSub to ti t):=by
 intro pins s σ H v u Q I r h
 rw [ha]
 refine wpAny_bind (wpAny_holding (thn (ho pins s σ H _ I h) fun ov s1 ⟨x,H1,I1,r1,q1⟩=>?_))
 refine wpAny_bind (wpAny_holding (thn (hi pins s1 σ H1 _ I1 q1) fun iv s2 ⟨y,H2,I2,r2,q2⟩=>?_))
 refine wpAny_bind (wpAny_standAt (wpAny_bind (wpAny_holding (thn (hs pins s2 σ H2 x y v ov iv u _ I2 r1 r2 r q2) fun _ s3 ⟨H3,I3,q3⟩=>?_))))
 exact wpAny_release ⟨σ,H3,I3,q3⟩
def tAsg (te:TE) (g:TG):TS:=fun D σ H=>te σ H fun x H1=>g x σ H1 D.nx
theorem ps_asg {tg e:Expr}{te:TE}{g:TG} (he:PE X e te) (hg:PG X tg g) (hs:swapsWithSole [tg] e pos.line X.env=pure false:=by rfl) (hw:swappedStores [tg] e X.env=pure none:=by rfl)
  (h1:(assignEach [tg] X.env).map (·.2)=[assign tg X.env]:=by rfl):PS X (.Assign [tg] e pos) (tAsg te g):=by
 intro pins s σ H D I h
 refine wpAny_Assign_stores (thn (he pins s σ H _ I h) fun v s1 ⟨x,H1,I1,r1,q1⟩=>?_) hs hw
 rw [h1]
 exact thn (hg pins s1 σ H1 x v _ I1 r1 q1) fun _ s2 q=>q
theorem ps_set {i:Nat}{x:Str}{e:Expr}{te:TE}{pos':Pos} (hN:X.N.Nodup) (hi:X.N[i]?=some x) (hx:Loc X.env.scope x) (he:PE X e te) (hs:swapsWith e (some (.Name x pos')) pos.line X.env=pure false:=by rfl) (hf:X.fn x=true∨X.env.scope.names.lookup x=some .local:=by first | exact .inl rfl | exact .inr rfl | assumption):
  PS X (.Assign [.Name x pos'] e pos) (tAsg te (gName i)):=by
 intro pins s σ H D I h
 refine wpAny_Assign_Name (thn (he pins s σ H _ I h) fun v s1 ⟨y,H1,I1,r1,q1⟩=>?_) hs
 exact store_ok I1 hN hi hx r1 (fun s2 I2=>⟨_,H1,I2,q1⟩) hf
def tAug (i:Nat) (te:TE) (ti:TIp):TS:=fun D σ H=>∃ x,σ[i]?=some (some x)∧te σ H fun y H1=>ti x y H1 fun z H2=>D.nx (σ.set i (some z)) H2
theorem ps_aug {i:Nat}{x:Str}{e:Expr}{te:TE}{op:Operator}{ti:TIp}{pos':Pos} (hN:X.N.Nodup) (hi:X.N[i]?=some x) (hx:Loc X.env.scope x) (he:PE X e te) (ho:PIp X op ti) (hf:X.fn x=true∨X.env.scope.names.lookup x=some .local:=by first | exact .inl rfl | exact .inr rfl | assumption):
  PS X (.AugAssign (.Name x pos') op e pos) (tAug i te ti):=by
 intro pins s σ H D I h
 obtain ⟨v,e1,h⟩:=h
 obtain ⟨m,hn,hl⟩:=I.loc
 have vis:Vis X.env.scope x:=by rcases hx with k | k;exact .inl k;exact .inr (.inl k)
 obtain ⟨u,r,l⟩:=hl i x v hi e1 vis
 refine wpAny_AugAssign_Name ?_
 have go:wpAny (model X.prog X.w) X.A (eval e X.env) (fun w s₂=>wpAny (model X.prog X.w) X.A (inplaceOp op u w) (fun r s₃=>wpAny (model X.prog X.w) X.A (storeName X.env x r) (fun _=>SP X pins D .next) X.xe s₃) X.xe s₂) X.xe s:=by
  refine thn (he pins s σ H _ I h) fun w s1 ⟨y,H1,I1,r1,q1⟩=>?_
  refine thn (ho pins s1 σ H1 v y u w _ I1 r r1 q1) fun z s2 ⟨zv,H2,I2,r2,q2⟩=>?_
  exact store_ok I2 hN hi hx r2 (fun s3 I3=>⟨_,H2,I3,q2⟩) hf
 rcases l with ⟨hk,hm⟩ | ⟨hk,c,hc,hcell⟩
 · exact wpAny_loadName_local I.ok.kind hk hn hm go
 · rcases hk with hk | hk
   · exact wpAny_loadName_cell I.ok.kind hk hc hcell go
   · rcases hx with k | k
     · have:X.env.scope.names.lookup x=some .free:=hk
       rw [k] at this;cases this
     · have:X.env.scope.names.lookup x=some .free:=hk
       rw [k] at this;cases this
def ipI (f:Int→Int→Int):TIp:=fun x y H Q=>∃ i j,x=.int i∧y=.int j∧Q (.int (f i j)) H
theorem ip_add:PIp X .Add (ipI fun i j=>i+j):=by
 intro pins s σ H x y v u Q I r1 r2 h
 obtain ⟨i,j,e1,e2,q⟩:=h
 subst e1;subst e2
 obtain ⟨t,rfl⟩:=r1
 obtain ⟨t',rfl⟩:=r2
 exact iadd_int ⟨.int _,H,I.tok _,⟨_,rfl⟩,q⟩
end
section
variable {X:Cx}{pos:Pos}
def tWhile (c:TT) (tb:TS):TS:=fun D σ H=>∃ W:Nat→St→Hp→Prop,(∃ m,W m σ H)∧∀ m σ H,W m σ H→
 c σ H fun b H1=>if b=true then ∃ N:St→Hp→Prop,(∀ σ' H',N σ' H'→∃ m',m' < m∧W m' σ' H')∧tb { D with nx:=N,ct:=N,bk:=D.nx } σ H1 else D.nx σ H1
theorem ps_while {c:Expr}{body:List Stmt}{tc:TT}{tb:TS} (hp:PassesOwn (model X.prog X.w) X.A X.env X.xe) (hc:PT X c tc) (hb:PSs X body tb):PS X (.While c body [] pos) (tWhile tc tb):=by
 intro pins s σ H D I h
 obtain ⟨W,⟨m0,w0⟩,turn⟩:=h
 refine wpAny_While (codeAny_whileLoop (fun n s'=>∃ σ' H',Inv X pins σ' H' s'∧W n σ' H') ?_ m0 ⟨σ,H,I,w0⟩)
 rintro n s1 ⟨σ1,H1,I1,w1⟩
 refine wpAny_passesOwn hp (thn (hc pins s1 σ1 H1 _ I1 (turn n σ1 H1 w1)) fun b s2 ⟨H2,I2,q2⟩=>?_)
 cases b with
 | true=>
  obtain ⟨N,hN,q2⟩:=q2
  rw [if_pos rfl]
  refine wpAny_passesOwn hp (thn (hb pins s2 σ1 H2 _ I2 q2) fun f s3 q3=>?_)
  cases f with
  | next=>
   obtain ⟨σ3,H3,I3,n3⟩:=q3
   obtain ⟨m',hm,w3⟩:=hN σ3 H3 n3
   exact ⟨m',hm,σ3,H3,I3,w3⟩
  | cont=>
   obtain ⟨σ3,H3,I3,n3⟩:=q3
   obtain ⟨m',hm,w3⟩:=hN σ3 H3 n3
   exact ⟨m',hm,σ3,H3,I3,w3⟩
  | brk=>exact q3
  | ret v=>exact q3
 | false=>
  rw [if_neg Bool.false_ne_true]
  exact wpAny_execs_nil ⟨σ1,H2,I2,q2⟩
end
structure It where
 go:Nat→Hp→Prop
 yld:Nat→Hp→V→Hp→Prop
 stop:Nat→Hp→Prop
def FpOk (X:Cx) (pins:List (Addr × Obj)) (H:Hp) (b:Addr):Prop:=
 H b=none∧b≠X.env.locals∧b∉X.fs∧(b∈X.ex∨X.s₀.heap.objs.size≤b)∧(∀ x c,X.env.cells.lookup x=some c→c≠b)∧∀ p∈X.pn++pins,p.1≠b
theorem Inv.fpOk {X:Cx}{pins:List (Addr × Obj)}{σ:St}{H H':Hp}{s:Shared}{b:Addr} (I:Inv X pins σ H s) (hb:s.heap.objs.size≤b) (hn:H' b=none):FpOk X pins H' b:=by
 refine ⟨hn,Nat.ne_of_gt (Nat.lt_of_lt_of_le I.lt hb),I.nofs hb,.inr (Nat.le_trans I.sz hb),fun x c e z=>?_,fun p hp z=>?_⟩
 · obtain ⟨v,q⟩:=I.cell x c e
   exact absurd (Nat.lt_of_lt_of_le q.lt (by rw [z];exact hb)) (Nat.lt_irrefl _)
 · exact absurd (Nat.lt_of_lt_of_le (Heap.lt_size (I.pin p hp).1) (by rw [z];exact hb)) (Nat.lt_irrefl _)
structure Turn (P:Program) (w:World) (K:PySem.W.Frag) (tg:Expr) (J:It) (fp:List Addr) (it:Addr) (tn:Nat→Heap→Prop):Prop where
 mem:it∈fp
 obj:∀ i h,tn i h→∀ b∈fp,∃ o,h.get? b=some o∧∀ v,o.data≠.cell v
 keep:∀ i h h',tn i h→(∀ b∈fp,∀ o,h.get? b=some o→h'.get? b=some o)→tn i h'
 item:∀ (X:Cx),X.prog=P→X.w=w→X.K=K→X.calm=true→∀ (i:Nat) (pins:List (Addr × Obj)) (s:Shared) (σ:St) (H:Hp) (E:Value→Shared→Prop),Inv X pins σ H s→(∀ b∈fp,FpOk X pins H b)→tn i s.heap→J.go i H→
  wpAny (model P w) X.A (pyNext (.ref it)) (fun r s1=>∃ u,r=some u∧
   wpAny (model P w) X.A (letOwnedTupleGo tg (.ref it) u) (fun _ s2=>∃ x H',Inv X pins σ H' s2∧RelV x u∧J.yld i H x H'∧tn (i+1) s2.heap∧∀ b∈fp,H' b=none) E s1) E s
 done:∀ (X:Cx),X.prog=P→X.w=w→X.K=K→X.calm=true→∀ (i:Nat) (pins:List (Addr × Obj)) (s:Shared) (σ:St) (H:Hp) (E:Value→Shared→Prop),Inv X pins σ H s→(∀ b∈fp,FpOk X pins H b)→tn i s.heap→J.stop i H→
  wpAny (model P w) X.A (pyNext (.ref it)) (fun r s1=>r=none∧Inv X pins σ H s1) E s
 self:∀ (A:Around) (i:Nat) (s:Shared) (Q:Value→Shared→Prop) (E:Value→Shared→Prop),tn i s.heap→Q (.ref it) s→wpAny (model P w) A (pyIter (.ref it)) Q E s
abbrev TI:=St→Hp→(It→Hp→Prop)→Prop
def PIE (X:Cx) (pins:List (Addr × Obj)) (σ:St) (tg:Expr) (R:It→Hp→Prop) (itv:Value) (s2:Shared):Prop:=
 ∃ (it:Addr) (fp:List Addr) (tn:Nat→Heap→Prop) (J:It) (H':Hp),itv=.ref it∧Inv X pins σ H' s2∧Turn X.prog X.w X.K tg J fp it tn∧tn 0 s2.heap∧(∀ b∈fp,FpOk X pins H' b)∧R J H'
def PI (X:Cx) (tg iter:Expr) (wi:TI):Prop:=
 ∀ (pins:List (Addr × Obj)) (s:Shared) (σ:St) (H:Hp) (R:It→Hp→Prop),Inv X pins σ H s→wi σ H R→
  wpAny (model X.prog X.w) X.A (eval iter X.env) (fun v s1=>wpAny (model X.prog X.w) X.A (pyIter v) (PIE X pins σ tg R) X.xe s1) X.xe s
theorem go_of {M:Model}{A:Around}{E:Value→Shared→Prop}{s:Shared}{tg:Expr}{it:Addr}{u:Value}{o:Obj}{n:String}{vs:Array Value}{Q:Unit→Shared→Prop} (ho:s.heap.get? it=some o) (hc:o.cls=.type n) (hd:o.data=.fields vs)
  (hn:["enumerate","zip","dict_itemiterator","dict_reverseitemiterator","odict_iterator","itertools.zip_longest","itertools.pairwise"].contains n=false) (hQ:Q () s):wpAny M A (letOwnedTupleGo tg (.ref it) u) Q E s:=by
 unfold letOwnedTupleGo
 cases tg <;> first
  | exact wpAny_pure hQ
  | (cases u <;> first
    | exact wpAny_pure hQ
    | (refine wpAny_bind (wpAny_load ho ?_)
       rw [hc,hd]
       show wpAny M A (if (["enumerate","zip","dict_itemiterator","dict_reverseitemiterator","odict_iterator","itertools.zip_longest","itertools.pairwise"].contains n && vs[0]? == some (rawInt _))=true then _ else _) Q E s
       rw [if_neg (by intro h;rw [hn,Bool.false_and] at h;cases h)]
       exact wpAny_pure hQ))
def Itl (K:PySem.W.Frag) (a:Addr):It:=
 ⟨fun i H=>∃ xs x,SqL K H a xs∧xs[i]?=some x,fun i H x H'=>H'=H∧∀ xs,SqL K H a xs→xs[i]?=some x,fun i H=>∃ xs,SqL K H a xs∧xs.length≤i⟩
def Itt (K:PySem.W.Frag) (a:Addr):It:=
 ⟨fun i H=>∃ xs x,SqT K H a xs∧xs[i]?=some x,fun i H x H'=>H'=H∧∀ xs,SqT K H a xs→xs[i]?=some x,fun i H=>∃ xs,SqT K H a xs∧xs.length≤i⟩
def Itr (lo:Int) (n:Nat):It:=⟨fun i _=>i < n,fun i H x H'=>H'=H∧x=.int (lo+i),fun i _=>n≤i⟩
theorem turn_list {P:Program}{w:World}{K:PySem.W.Frag}{tg:Expr} (a it:Addr):Turn P w K tg (Itl K a) [it] it (fun i h=>h.IsListIter it a i) where
 mem:=by simp
 obj:=fun i h st b hb=>by
  have e:b=it:=by simpa using hb
  subst e
  obtain ⟨o,e,c,d⟩:=st
  exact ⟨o,e,fun v z=>by rw [d] at z;cases z⟩
 keep:=fun i h h' st k=>st.at fun o e=>k it (by simp) o e
 item:=by
  intro X hP hw hK hc i pins s σ H E I hf st hg
  subst hP hw hK
  obtain ⟨xs,x,hq,hx⟩:=hg
  obtain ⟨its,rv,p,hz⟩:=I.list hq
  obtain ⟨u,hu,ru⟩:=rv.get hx
  obtain ⟨f0,f1,f2,f3,f4,f5⟩:=hf it (by simp)
  refine wpAny_pyNext_list_item st p.isList (x:=u) (by simpa using hu) fun h' st' sb=>?_
  have I1:Inv X pins σ H { s with heap:=h' }:=I.turned (t':=s.toks) (fun b o hb e=>(sb.2 b hb).trans e) f0 f1 f3 f4 f5
  obtain ⟨o,e,c,d⟩:=id st'
  exact ⟨u,rfl,go_of (s:={ s with heap:=h' }) e c d (by decide) ⟨x,H,I1,ru,⟨rfl,fun ys hy=>by rw [I.list_inj hy hq];exact hx⟩,st',fun b hb=>(hf b hb).1⟩⟩
 done:=by
  intro X hP hw hK hc i pins s σ H E I hf st hg
  subst hP hw hK
  obtain ⟨xs,hq,hx⟩:=hg
  obtain ⟨its,rv,p,hz⟩:=I.list hq
  obtain ⟨f0,f1,f2,f3,f4,f5⟩:=hf it (by simp)
  have hl:=rv.length
  exact wpAny_pyNext_list_end (I.ok.hd hc) st p.isList (by simp;omega) fun h' eb=>⟨rfl,I.turned (t':=s.toks) (fun b o hb e=>eb b o hb e) f0 f1 f3 f4 f5⟩
 self:=fun _ _ _ _ _ st h=>wpAny_pyIter_listiter st h
theorem turn_tuple {P:Program}{w:World}{K:PySem.W.Frag}{tg:Expr} (a it:Addr):Turn P w K tg (Itt K a) [it] it (fun i h=>h.IsTupleIter it a i) where
 mem:=by simp
 obj:=fun i h st b hb=>by
  have e:b=it:=by simpa using hb
  subst e
  obtain ⟨o,e,c,d⟩:=st
  exact ⟨o,e,fun v z=>by rw [d] at z;cases z⟩
 keep:=fun i h h' st k=>st.at fun o e=>k it (by simp) o e
 item:=by
  intro X hP hw hK hc i pins s σ H E I hf st hg
  subst hP hw hK
  obtain ⟨xs,x,hq,hx⟩:=hg
  obtain ⟨its,rv,p,hz⟩:=I.tuple hq
  obtain ⟨u,hu,ru⟩:=rv.get hx
  obtain ⟨f0,f1,f2,f3,f4,f5⟩:=hf it (by simp)
  refine wpAny_pyNext_tuple_item st (show s.heap.IsTuple a its.toArray from p) (x:=u) (by simpa using hu) fun h' st' sb=>?_
  have I1:Inv X pins σ H { s with heap:=h' }:=I.turned (t':=s.toks) (fun b o hb e=>(sb.2 b hb).trans e) f0 f1 f3 f4 f5
  obtain ⟨o,e,c,d⟩:=id st'
  exact ⟨u,rfl,go_of (s:={ s with heap:=h' }) e c d (by decide) ⟨x,H,I1,ru,⟨rfl,fun ys hy=>by rw [I.tuple_inj hy hq];exact hx⟩,st',fun b hb=>(hf b hb).1⟩⟩
 done:=by
  intro X hP hw hK hc i pins s σ H E I hf st hg
  subst hP hw hK
  obtain ⟨xs,hq,hx⟩:=hg
  obtain ⟨its,rv,p,hz⟩:=I.tuple hq
  obtain ⟨f0,f1,f2,f3,f4,f5⟩:=hf it (by simp)
  have hl:=rv.length
  exact wpAny_pyNext_tuple_end (I.ok.hd hc) st (show s.heap.IsTuple a its.toArray from p) (by simp;omega) fun h' eb=>⟨rfl,I.turned (t':=s.toks) (fun b o hb e=>eb b o hb e) f0 f1 f3 f4 f5⟩
 self:=fun _ _ _ _ _ st h=>wpAny_pyIter_tupleiter st h
theorem turn_range {P:Program}{w:World}{K:PySem.W.Frag}{tg:Expr} (it:Addr) (lo:Int) (n:Nat):Turn P w K tg (Itr lo n) [it] it (fun i h=>IsRangeIter h it (lo+(i:Nat) * 1) ((n:Int) - (i:Nat)) 1) where
 mem:=by simp
 obj:=fun i h st b hb=>by
  have e:b=it:=by simpa using hb
  subst e
  exact ⟨_,st,fun v z=>by
   have z':Data.fields _=Data.cell v:=z
   cases z'⟩
 keep:=fun i h h' st k=>k it (by simp) _ st
 item:=by
  intro X hP hw hK hc i pins s σ H E I hf st hg
  subst hP hw hK
  obtain ⟨f0,f1,f2,f3,f4,f5⟩:=hf it (by simp)
  have W:=Walks.range (prog:=X.prog) (w:=X.w) (I.ok.hd hc) it lo 1 n
  refine W.item i s _ _ hg st fun v h' tk hv st' kk=>?_
  obtain ⟨t,rfl⟩:=hv
  have I1:Inv X pins σ H { s with heap:=h',toks:=tk }:=I.turned (fun b o hb e=>kk b o (by simpa using hb) e) f0 f1 f3 f4 f5
  refine ⟨_,rfl,go_of (s:={ s with heap:=h',toks:=tk }) (n:="range_iterator") st' rfl rfl (by decide) ⟨.int (lo+i),H,I1,⟨t,?_⟩,⟨rfl,rfl⟩,st',fun b hb=>(hf b hb).1⟩⟩
  rw [Int.mul_one]
 done:=by
  intro X hP hw hK hc i pins s σ H E I hf st hg
  subst hP hw hK
  obtain ⟨f0,f1,f2,f3,f4,f5⟩:=hf it (by simp)
  exact wpAny_pyNext_range_end (I.ok.hd hc) st (by have:n≤i:=hg;omega) fun h' eb=>⟨rfl,I.turned (t':=s.toks) (fun b o hb e=>eb b o hb e) f0 f1 f3 f4 f5⟩
 self:=fun _ _ _ _ _ st h=>wpAny_pyIter_rangeiter st h
section
variable {X:Cx}{tg:Expr}
def iList (K:PySem.W.Frag) (tl:TE):TI:=fun σ H R=>tl σ H fun x H1=>∃ a,x=.ref a∧(∃ xs,SqL K H1 a xs)∧R (Itl K a) H1
def iTup (K:PySem.W.Frag) (tl:TE):TI:=fun σ H R=>tl σ H fun x H1=>∃ a,x=.ref a∧(∃ xs,SqT K H1 a xs)∧R (Itt K a) H1
theorem pi_list {l:Expr}{tl:TE} (hl:PE X l tl):PI X tg l (iList X.K tl):=by
 intro pins s σ H R I h
 refine thn (hl pins s σ H _ I h) fun v s1 ⟨x,H1,I1,r1,q1⟩=>?_
 obtain ⟨a,e,⟨xs,hq⟩,q⟩:=q1
 subst e
 cases r1
 obtain ⟨its,rv,p,hz⟩:=I1.list hq
 refine wpAny_pyIter_list p.isList ?_
 refine ⟨s1.heap.objs.size,[s1.heap.objs.size],_,_,H1,rfl,I1.kept (t':=s1.toks) fun b o e=>Heap.get?_push_of_some _ e,turn_list a _,⟨_,Heap.get?_push_size _ rfl,rfl,rfl⟩,fun b hb=>?_,q⟩
 have e:b=s1.heap.objs.size:=by simpa using hb
 subst e
 exact I1.fpOk (Nat.le_refl _) (I1.hok.fresh (Nat.le_refl _))
theorem pi_tup {l:Expr}{tl:TE} (hl:PE X l tl):PI X tg l (iTup X.K tl):=by
 intro pins s σ H R I h
 refine thn (hl pins s σ H _ I h) fun v s1 ⟨x,H1,I1,r1,q1⟩=>?_
 obtain ⟨a,e,⟨xs,hq⟩,q⟩:=q1
 subst e
 cases r1
 obtain ⟨its,rv,p,hz⟩:=I1.tuple hq
 refine wpAny_pyIter_tuple (show s1.heap.IsTuple a its.toArray from p) ?_
 refine ⟨s1.heap.objs.size,[s1.heap.objs.size],_,_,H1,rfl,I1.kept (t':=s1.toks) fun b o e=>Heap.get?_push_of_some _ e,turn_tuple a _,⟨_,Heap.get?_push_size _ rfl,rfl,rfl⟩,fun b hb=>?_,q⟩
 have e:b=s1.heap.objs.size:=by simpa using hb
 subst e
 exact I1.fpOk (Nat.le_refl _) (I1.hok.fresh (Nat.le_refl _))
theorem range_it {pins:List (Addr × Obj)}{σ:St}{H:Hp}{s:Shared}{R:It→Hp→Prop}{E:Value→Shared→Prop}{lo hi:Int}{t u v:Tok}{tk:Nat} (I:Inv X pins σ H s) (h1: -(2 ^ 62)≤lo) (h2:lo < 2 ^ 62) (h3: -(2 ^ 62)≤hi) (h4:hi < 2 ^ 62)
  (q:R (Itr lo (hi - lo).toNat) H):wpAny (model X.prog X.w) X.A (pyIter (.ref s.heap.objs.size)) (PIE X pins σ tg R) E { s with heap:=s.heap.push { cls:=.type "range",data:=.fields #[.int lo t,.int hi u,.int 1 v] },toks:=tk }:=by
 refine wpAny_pyIter_range (IsRange.new ..) (small_one h1 h2 h3 h4) ?_
 have I1:Inv X pins σ H { s with heap:=s.heap.push { cls:=.type "range",data:=.fields #[.int lo t,.int hi u,.int 1 v] },toks:=tk }:=I.kept fun b o e=>Heap.get?_push_of_some _ e
 refine ⟨(s.heap.push { cls:=.type "range",data:=.fields #[.int lo t,.int hi u,.int 1 v] }).objs.size,[(s.heap.push { cls:=.type "range",data:=.fields #[.int lo t,.int hi u,.int 1 v] }).objs.size],_,_,H,rfl,
  I1.kept (t':=tk) fun b o e=>Heap.get?_push_of_some _ e,turn_range _ lo (hi - lo).toNat,?_,fun b hb=>?_,q⟩
 · have e1:lo+((0:Nat):Int) * 1=lo:=by simp
   have e2:(((hi - lo).toNat:Nat):Int) - ((0:Nat):Int)=Builtin.Range.rangeSize lo hi 1:=by rw [rangeSize_one];split <;> omega
   show IsRangeIter _ _ (lo+((0:Nat):Int) * 1) ((((hi - lo).toNat:Nat):Int) - ((0:Nat):Int)) 1
   rw [e1,e2]
   exact Heap.get?_push_size _ rfl
 · have e:b=(s.heap.push { cls:=.type "range",data:=.fields #[.int lo t,.int hi u,.int 1 v] }).objs.size:=by simpa using hb
   subst e
   exact I1.fpOk (Nat.le_refl _) (I1.hok.fresh (Nat.le_refl _))
def iRng1 (ta:TA):TI:=fun σ H R=>ta σ H fun vs H1=>∃ j:Int,vs=[.int j]∧ -(2 ^ 62)≤j∧j < 2 ^ 62∧R (Itr 0 j.toNat) H1
def iRng2 (ta:TA):TI:=fun σ H R=>ta σ H fun vs H1=>∃ i j:Int,vs=[.int i,.int j]∧(-(2 ^ 62)≤i∧i < 2 ^ 62∧ -(2 ^ 62)≤j∧j < 2 ^ 62)∧R (Itr i (j - i).toNat) H1
theorem pi_range1 {a:Expr}{ta:TA}{p pos:Pos} (hg:Gl X "range") (hm:X.mg "range"=none) (ha:PA X [a] ta) (hs:starEach [a] X.env=[(false,eval a X.env)]:=by rfl):PI X tg (.Call (.Name "range" p) [a] [] pos) (iRng1 ta):=by
 intro pins s σ H R I h
 refine Call_ (ld_blt I hg hm boot_range (PyProof.Rows.callWith_type1 (thn (ha pos pins s σ H _ I h) fun us s1 ⟨vs,H1,I1,r1,q1⟩=>?_) hs rfl))
 obtain ⟨j,e,q1,q2,q⟩:=q1
 subst e
 cases r1 with
 | cons r rr=>
  cases rr
  obtain ⟨t,rfl⟩:=r
  exact call_range_1 (range_it I1 (by omega) (by omega) q1 q2 (by simpa using q))
theorem pi_range2 {a b:Expr}{ta:TA}{p pos:Pos} (hg:Gl X "range") (hm:X.mg "range"=none) (ha:PA X [a,b] ta) (hs:starEach [a,b] X.env=[(false,eval a X.env),(false,eval b X.env)]:=by rfl) (hs2:starEach [b] X.env=[(false,eval b X.env)]:=by rfl):
  PI X tg (.Call (.Name "range" p) [a,b] [] pos) (iRng2 ta):=by
 intro pins s σ H R I h
 refine Call_ (ld_blt I hg hm boot_range (PyProof.Rows.callWith_type1 (thn (ha pos pins s σ H _ I h) fun us s1 ⟨vs,H1,I1,r1,q1⟩=>?_) (by rw [hs,hs2]) (by rw [hs2];rfl)))
 obtain ⟨i,j,e,⟨q1,q2,q3,q4⟩,q⟩:=q1
 subst e
 cases r1 with
 | cons r rr=>
  cases rr with
  | cons r' rr=>
   cases rr
   obtain ⟨t,rfl⟩:=r
   obtain ⟨t',rfl⟩:=r'
   exact call_range_2 (range_it I1 q1 q2 q3 q4 q)
def tFor (wi:TI) (g:TG) (tb:TS):TS:=fun D σ H=>wi σ H fun J H1=>∃ W:Nat→Nat→St→Hp→Prop,(∃ m,W 0 m σ H1)∧∀ i m σ H,W i m σ H→
 (J.stop i H∧D.nx σ H)∨(J.go i H∧∃ N:St→Hp→Prop,(∀ σ' H',N σ' H'→∃ m',m' < m∧W (i+1) m' σ' H')∧∀ x H',J.yld i H x H'→g x σ H' fun σ2 H2=>tb { D with nx:=N,ct:=N,bk:=D.nx } σ2 H2)
def pinsAt (fp:List Addr) (h:Heap):List (Addr × Obj):=fp.filterMap fun b=>(h.get? b).map fun o=>(b,o)
theorem mem_pinsAt {fp:List Addr}{h:Heap}{b:Addr}{o:Obj} (hb:b∈fp) (e:h.get? b=some o):(b,o)∈pinsAt fp h:=List.mem_filterMap.mpr ⟨b,hb,by rw [e];rfl⟩
theorem of_pinsAt {fp:List Addr}{h:Heap}{p:Addr × Obj} (hp:p∈pinsAt fp h):p.1∈fp∧h.get? p.1=some p.2:=by
 obtain ⟨b,hb,e⟩:=List.mem_filterMap.mp hp
 cases q:h.get? b with
 | none=>rw [q] at e;cases e
 | some o=>
  rw [q] at e
  have e':(b,o)=p:=Option.some.inj e
  subst e'
  exact ⟨hb,q⟩
theorem Inv.pinned {pins:List (Addr × Obj)}{σ:St}{H:Hp}{s:Shared}{fp:List Addr} (I:Inv X pins σ H s) (hf:∀ b∈fp,FpOk X pins H b) (ho:∀ b∈fp,∃ o,s.heap.get? b=some o∧∀ v,o.data≠.cell v):Inv X (pins++pinsAt fp s.heap) σ H s:=
 I.pins_of fun p hp=>(List.mem_append.mp hp).elim (fun z=>I.pin p (List.mem_append_right _ z)) fun z=>by
  obtain ⟨hb,e⟩:=of_pinsAt z
  obtain ⟨f0,f1,f2,_⟩:=hf p.1 hb
  obtain ⟨o,e',d⟩:=ho p.1 hb
  rw [e] at e';cases e'
  exact ⟨e,f0,f1,f2,d⟩
theorem Inv.unpinned {pins pl:List (Addr × Obj)}{σ:St}{H:Hp}{s:Shared} (I:Inv X (pins++pl) σ H s):Inv X pins σ H s:=I.pins_of fun p hp=>I.pin p (List.mem_append_right _ (List.mem_append_left _ hp))
theorem ps_for {iter:Expr}{body:List Stmt}{wi:TI}{g:TG}{tb:TS}{pos:Pos} (hp:PassesOwn (model X.prog X.w) X.A X.env X.xe) (hc:X.calm=true) (hi:PI X tg iter wi) (hg:PG X tg g) (hb:PSs X body tb)
  (hs:∀ x,foldedSetIterable iter X.env x=pure x:=by intro _;rfl):PS X (.For tg iter body [] pos) (tFor wi g tb):=by
 intro pins s σ H D I h
 refine wpAny_For (thn (hi pins s σ H _ I h) fun v s1 h1=>thn h1 fun itv s2 h2=>?_) hs
 obtain ⟨it,fp,tn,J,H2,e,I2,T,st2,f2,W,⟨m0,w0⟩,turn⟩:=h2
 subst e
 have stat:∀ {H':Hp},(∀ b∈fp,H' b=none)→∀ b∈fp,FpOk X pins H' b:=fun hn b hb=>⟨hn b hb,(f2 b hb).2⟩
 refine codeAny_forLoop_any (fun n s'=>∃ i σ' H',Inv X pins σ' H' s'∧tn i s'.heap∧(∀ b∈fp,H' b=none)∧W i n σ' H') ?_ m0 ⟨0,σ,H2,I2,st2,fun b hb=>(f2 b hb).1,w0⟩
 rintro n s3 ⟨i,σ3,H3,I3,st3,fr3,w3⟩
 rcases turn i n σ3 H3 w3 with ⟨stop,qn⟩ | ⟨go,N,hN,step⟩
 · refine wpAny_passesOwn hp (thn (T.done X rfl rfl rfl hc i pins s3 σ3 H3 X.xe I3 (stat fr3) st3 stop) fun r s4 ⟨hr,I4⟩=>?_)
   subst hr
   exact wpAny_execs_nil ⟨σ3,H3,I4,qn⟩
 · refine wpAny_passesOwn hp (thn (T.item X rfl rfl rfl hc i pins s3 σ3 H3 X.xe I3 (stat fr3) st3 go) fun r s4 ⟨u,hr,h4⟩=>?_)
   subst hr
   refine wpAny_passesOwn hp (thn h4 fun _ s5 ⟨x,H5,I5,r5,y5,st5,fr5⟩=>?_)
   have I5':=I5.pinned (stat fr5) (T.obj _ _ st5)
   refine wpAny_passesOwn hp (thn (hg _ s5 σ3 H5 x u _ I5' r5 (step x H5 y5)) fun _ s6 ⟨σ6,H6,I6,q6⟩=>?_)
   refine wpAny_passesOwn hp (thn (hb _ s6 σ6 H6 _ I6 q6) fun f s7 q7=>?_)
   have again:∀ {σ7:St}{H7:Hp},Inv X (pins++pinsAt fp s5.heap) σ7 H7 s7→N σ7 H7→∃ m,m < n∧∃ i σ' H',Inv X pins σ' H' s7∧tn i s7.heap∧(∀ b∈fp,H' b=none)∧W i m σ' H':=fun {σ7 H7} I7 n7=>by
    obtain ⟨m',hm,w7⟩:=hN σ7 H7 n7
    refine ⟨m',hm,i+1,σ7,H7,I7.unpinned,T.keep _ _ _ st5 fun b hb o e=>(I7.pin (b,o) (List.mem_append_right _ (List.mem_append_right _ (mem_pinsAt hb e)))).1,fun b hb=>?_,w7⟩
    obtain ⟨o,e,d⟩:=T.obj _ _ st5 b hb
    exact (I7.pin (b,o) (List.mem_append_right _ (List.mem_append_right _ (mem_pinsAt hb e)))).2.1
   cases f with
   | next=>obtain ⟨σ7,H7,I7,n7⟩:=q7;exact again I7 n7
   | cont=>obtain ⟨σ7,H7,I7,n7⟩:=q7;exact again I7 n7
   | brk=>obtain ⟨σ7,H7,I7,q7⟩:=q7;exact ⟨σ7,H7,I7.unpinned,q7⟩
   | ret v=>obtain ⟨x7,σ7,H7,I7,r7,q7⟩:=q7;exact ⟨x7,σ7,H7,I7.unpinned,r7,q7⟩
end
theorem for_list {K:PySem.W.Frag}{a:Addr}{xs:List V}{g:TG}{tb:TS}{D:Ends}{σ:St}{H:Hp} (Pv:Nat→St→Hp→Prop) (h0:Pv 0 σ H) (hl:∀ i σ H,i≤xs.length→Pv i σ H→SqL K H a xs)
  (hs:∀ i x σ H,xs[i]?=some x→Pv i σ H→g x σ H fun σ2 H2=>tb { D with nx:=Pv (i+1),ct:=Pv (i+1),bk:=D.nx } σ2 H2) (hd:∀ σ H,Pv xs.length σ H→D.nx σ H):
  ∃ W:Nat→Nat→St→Hp→Prop,(∃ m,W 0 m σ H)∧∀ i m σ H,W i m σ H→
   ((Itl K a).stop i H∧D.nx σ H)∨((Itl K a).go i H∧∃ N:St→Hp→Prop,(∀ σ' H',N σ' H'→∃ m',m' < m∧W (i+1) m' σ' H')∧∀ x H',(Itl K a).yld i H x H'→g x σ H' fun σ2 H2=>tb { D with nx:=N,ct:=N,bk:=D.nx } σ2 H2):=by
 refine ⟨fun i m σ H=>m=xs.length - i∧i≤xs.length∧Pv i σ H,⟨xs.length,by simp,Nat.zero_le _,h0⟩,?_⟩
 rintro i m σ H ⟨rfl,hi,p⟩
 have q:=hl i σ H hi p
 by_cases hlt:i < xs.length
 · refine .inr ⟨⟨xs,xs[i],q,by simp [hlt]⟩,Pv (i+1),fun σ' H' p'=>⟨xs.length - (i+1),by omega,rfl,hlt,p'⟩,fun x H' y=>?_⟩
   obtain ⟨e,y⟩:=y
   subst e
   exact hs i x σ _ (y xs q) p
 · have e:i=xs.length:=by omega
   subst e
   exact .inl ⟨⟨xs,q,Nat.le_refl _⟩,hd σ H p⟩
theorem for_range {lo:Int}{n:Nat}{g:TG}{tb:TS}{D:Ends}{σ:St}{H:Hp} (Pv:Nat→St→Hp→Prop) (h0:Pv 0 σ H)
  (hs:∀ i σ H,i < n→Pv i σ H→g (.int (lo+i)) σ H fun σ2 H2=>tb { D with nx:=Pv (i+1),ct:=Pv (i+1),bk:=D.nx } σ2 H2) (hd:∀ σ H,Pv n σ H→D.nx σ H):
  ∃ W:Nat→Nat→St→Hp→Prop,(∃ m,W 0 m σ H)∧∀ i m σ H,W i m σ H→
   ((Itr lo n).stop i H∧D.nx σ H)∨((Itr lo n).go i H∧∃ N:St→Hp→Prop,(∀ σ' H',N σ' H'→∃ m',m' < m∧W (i+1) m' σ' H')∧∀ x H',(Itr lo n).yld i H x H'→g x σ H' fun σ2 H2=>tb { D with nx:=N,ct:=N,bk:=D.nx } σ2 H2):=by
 refine ⟨fun i m σ H=>m=n - i∧i≤n∧Pv i σ H,⟨n,by simp,Nat.zero_le _,h0⟩,?_⟩
 rintro i m σ H ⟨rfl,hi,p⟩
 by_cases hlt:i < n
 · refine .inr ⟨hlt,Pv (i+1),fun σ' H' p'=>⟨n - (i+1),by omega,rfl,hlt,p'⟩,fun x H' y=>?_⟩
   obtain ⟨e,y⟩:=y
   subst e y
   exact hs i σ _ hlt p
 · have e:i=n:=by omega
   subst e
   exact .inl ⟨Nat.le_refl _,hd σ H p⟩
theorem while_by {c:TT}{tb:TS}{D:Ends}{σ:St}{H:Hp} (Pv:St→Hp→Prop) (μ:St→Hp→Nat) (h0:Pv σ H)
  (hs:∀ σ H,Pv σ H→c σ H fun b H1=>if b=true then tb { D with nx:=fun σ' H'=>Pv σ' H'∧μ σ' H' < μ σ H,ct:=fun σ' H'=>Pv σ' H'∧μ σ' H' < μ σ H,bk:=D.nx } σ H1 else D.nx σ H1)
  (mono:∀ σ H Q Q',(∀ b H1,Q b H1→Q' b H1)→c σ H Q→c σ H Q'):tWhile c tb D σ H:=by
 refine ⟨fun m σ H=>m=μ σ H∧Pv σ H,⟨_,rfl,h0⟩,?_⟩
 rintro m σ H ⟨rfl,p⟩
 refine mono σ H _ _ (fun b H1 q=>?_) (hs σ H p)
 cases b with
 | true=>exact ⟨_,fun σ' H' ⟨p',l⟩=>⟨_,l,rfl,p'⟩,q⟩
 | false=>exact q
abbrev R2:=V→V→Hp→VK→Prop
def OpR (X:Cx) (f:Value→Value→Sem Value) (r:R2):Prop:=
 ∀ (pins:List (Addr × Obj)) (s:Shared) (σ:St) (H:Hp) (x y:V) (v u:Value) (Q:VK),Inv X pins σ H s→RelV x v→RelV y u→r x y H Q→
  wpAny (model X.prog X.w) X.A (f v u) (EP X pins σ Q) X.xe s
def UnR (X:Cx) (f:Value→Sem Value) (r:V→Hp→VK→Prop):Prop:=
 ∀ (pins:List (Addr × Obj)) (s:Shared) (σ:St) (H:Hp) (x:V) (v:Value) (Q:VK),Inv X pins σ H s→RelV x v→r x H Q→
  wpAny (model X.prog X.w) X.A (f v) (EP X pins σ Q) X.xe s
def CallR (X:Cx) (f:Value) (r:List V→Hp→VK→Prop):Prop:=
 ∀ (pins:List (Addr × Obj)) (s:Shared) (σ:St) (H:Hp) (xs:List V) (us:List Value) (Q:VK),Inv X pins σ H s→Vals xs us→r xs H Q→
  wpAny (model X.prog X.w) X.A (call f us) (EP X pins σ Q) X.xe s
def TruR (X:Cx) (r:V→Hp→(Bool→Hp→Prop)→Prop):Prop:=
 ∀ (pins:List (Addr × Obj)) (s:Shared) (σ:St) (H:Hp) (x:V) (v:Value) (Q:Bool→Hp→Prop),Inv X pins σ H s→RelV x v→r x H Q→
  wpAny (model X.prog X.w) X.A (truthy v) (TP X pins σ Q) X.xe s
def tOp (r:R2) (ta tb:TE):TE:=fun σ H Q=>ta σ H fun x H1=>tb σ H1 fun y H2=>r x y H2 Q
def tUn (r:V→Hp→VK→Prop) (ta:TE):TE:=fun σ H Q=>ta σ H fun x H1=>r x H1 Q
def rI (C:Int→Int→Prop) (g:Int→Int→V):R2:=fun x y H Q=>∃ i j,x=.int i∧y=.int j∧C i j∧Q (g i j) H
def rI0 (g:Int→Int→V):R2:=fun x y H Q=>∃ i j,x=.int i∧y=.int j∧Q (g i j) H
def rU (g:Int→V):V→Hp→VK→Prop:=fun x H Q=>∃ i,x=.int i∧Q (g i) H
section
variable {X:Cx}{a b c:Expr}{ta tb tc:TE}{pos:Pos}
theorem binT (ha:PE X a ta) (hb:PE X b tb) {pins:List (Addr × Obj)}{s:Shared}{σ:St}{H:Hp}{R:V→V→Hp→Prop} (I:Inv X pins σ H s)
  (h:ta σ H fun x H1=>tb σ H1 fun y H2=>R x y H2) {Q:Value→Shared→Prop}{f:Value→Value→Sem Value}
  (hf:∀ v u s2 x y H2,Inv X pins σ H2 s2→RelV x v→RelV y u→R x y H2→wpAny (model X.prog X.w) X.A (f v u) Q X.xe s2):
  wpAny (model X.prog X.w) X.A (eval a X.env) (fun v s₁=>wpAny (model X.prog X.w) X.A (eval b X.env) (fun u s₂=>wpAny (model X.prog X.w) X.A (f v u) Q X.xe s₂) X.xe s₁) X.xe s:=by
 refine thn (ha pins s σ H _ I h) fun v s1 ⟨x,H1,I1,r1,q1⟩=>?_
 refine thn (hb pins s1 σ H1 _ I1 q1) fun u s2 ⟨y,H2,I2,r2,q2⟩=>?_
 exact hf v u s2 x y H2 I2 r1 r2 q2
theorem pe_op {op:Operator}{r:R2} (ho:OpR X (binaryOp op) r) (ha:PE X a ta) (hb:PE X b tb):PE X (.BinOp a op b pos) (tOp r ta tb):=by
 intro pins s σ H Q I h
 exact wpAny_BinOp (binT ha hb I h fun v u s2 x y H2 I2 rx ry q=>ho pins s2 σ H2 x y v u Q I2 rx ry q)
theorem pe_un {op:UnaryOp}{r:V→Hp→VK→Prop} (ho:UnR X (unaryOp op) r) (ha:PE X a ta):PE X (.UnaryOp op a pos) (tUn r ta):=by
 intro pins s σ H Q I h
 exact UnaryOp_ (thn (ha pins s σ H _ I h) fun v s1 ⟨x,H1,I1,r1,q1⟩=>ho pins s1 σ H1 x v Q I1 r1 q1)
theorem opI {f:Value→Value→Sem Value}{C:Int→Int→Prop}{g:Int→Int→Int}
  (rule:∀ (i j:Int) (t u:Tok) (s:Shared) (Q:Value→Shared→Prop) (E:Value→Shared→Prop),C i j→Q (.int (g i j) s.toks) { s with toks:=s.toks+1 }→wpAny (model X.prog X.w) X.A (f (.int i t) (.int j u)) Q E s):
  OpR X f (rI C fun i j=>.int (g i j)):=by
 intro pins s σ H x y v u Q I rx ry h
 obtain ⟨i,j,rfl,rfl,hc,q⟩:=h
 obtain ⟨t,rfl⟩:=rx
 obtain ⟨t',rfl⟩:=ry
 exact rule i j t t' s _ _ hc ⟨.int (g i j),H,I.tok _,⟨_,rfl⟩,q⟩
theorem opI0 {f:Value→Value→Sem Value}{g:Int→Int→Int}
  (rule:∀ (i j:Int) (t u:Tok) (s:Shared) (Q:Value→Shared→Prop) (E:Value→Shared→Prop),Q (.int (g i j) s.toks) { s with toks:=s.toks+1 }→wpAny (model X.prog X.w) X.A (f (.int i t) (.int j u)) Q E s):
  OpR X f (rI0 fun i j=>.int (g i j)):=by
 intro pins s σ H x y v u Q I rx ry h
 obtain ⟨i,j,rfl,rfl,q⟩:=h
 obtain ⟨t,rfl⟩:=rx
 obtain ⟨t',rfl⟩:=ry
 exact rule i j t t' s _ _ ⟨.int (g i j),H,I.tok _,⟨_,rfl⟩,q⟩
theorem opB0 {f:Value→Value→Sem Value}{g:Int→Int→Bool}
  (rule:∀ (i j:Int) (t u:Tok) (s:Shared) (Q:Value→Shared→Prop) (E:Value→Shared→Prop),Q (.bool (g i j)) s→wpAny (model X.prog X.w) X.A (f (.int i t) (.int j u)) Q E s):
  OpR X f (rI0 fun i j=>.bl (g i j)):=by
 intro pins s σ H x y v u Q I rx ry h
 obtain ⟨i,j,rfl,rfl,q⟩:=h
 obtain ⟨t,rfl⟩:=rx
 obtain ⟨t',rfl⟩:=ry
 exact rule i j t t' s _ _ ⟨.bl (g i j),H,I,rfl,q⟩
def CDiv (i j:Int):Prop:=0 < j∧j < 1073741824
def CPow (i j:Int):Prop:=0≤j∧j≤1000000∧i.natAbs < 2 ^ 64
def CMul (i j:Int):Prop:=(-(2 ^ 64) < i∧i < 2 ^ 64)∨(-(2 ^ 64) < j∧j < 2 ^ 64)
theorem CMul.ok {i j:Int} (h:CMul i j):IntMulOk i j:=by
 rcases h with ⟨h1,h2⟩ | ⟨h1,h2⟩
 · exact .of_left (intBits_le_64 h1 h2)
 · exact .of_right (intBits_le_64 h1 h2)
theorem op_add:OpR X (binaryOp .Add) (rI0 fun i j=>.int (i+j)):=opI0 fun _ _ _ _ _ _ _ q=>add_int q
theorem op_sub:OpR X (binaryOp .Sub) (rI0 fun i j=>.int (i - j)):=opI0 fun _ _ _ _ _ _ _ q=>sub_int q
theorem op_mul:OpR X (binaryOp .Mult) (rI CMul fun i j=>.int (i * j)):=opI fun _ _ _ _ _ _ _ hc q=>mul_int q hc.ok
theorem op_fdiv:OpR X (binaryOp .FloorDiv) (rI CDiv fun i j=>.int (i / j)):=opI fun i j _ _ _ _ _ hc q=>by
 have h1:(0:Int) < j:=hc.1
 have h2:j < 1073741824:=hc.2
 exact floordiv_int (by omega) (by rw [Int.fdiv_eq_ediv_of_nonneg i (by omega)];exact q) (.inl (PyProof.noPylong_small (by omega)))
theorem op_mod:OpR X (binaryOp .Mod) (rI (fun _ j=>0 < j) fun i j=>.int (i % j)):=opI fun i j _ _ _ _ _ hc q=>by
 have h1:(0:Int) < j:=hc
 exact mod_int' (by omega) (by rw [Int.fmod_eq_emod_of_nonneg i (by omega)];exact q)
theorem op_pow:OpR X (binaryOp .Pow) (rI CPow fun i j=>.int (i ^ j.toNat)):=opI fun _ _ _ _ _ _ _ hc q=>pow_int_small hc.1 hc.2.1 hc.2.2 q
theorem unI {f:Value→Sem Value}{g:Int→Int}
  (rule:∀ (i:Int) (t:Tok) (s:Shared) (Q:Value→Shared→Prop) (E:Value→Shared→Prop),Q (.int (g i) s.toks) { s with toks:=s.toks+1 }→wpAny (model X.prog X.w) X.A (f (.int i t)) Q E s):
  UnR X f (rU fun i=>.int (g i)):=by
 intro pins s σ H x v Q I rx h
 obtain ⟨i,rfl,q⟩:=h
 obtain ⟨t,rfl⟩:=rx
 exact rule i t s _ _ ⟨.int (g i),H,I.tok _,⟨_,rfl⟩,q⟩
theorem un_neg:UnR X (unaryOp .USub) (rU fun i=>.int (-i)):=unI fun _ _ _ _ _ q=>neg_int q
end
def scal:V→V→Bool
 | .non,.non=>true | .non,.int _=>true | .int _,.non=>true | .non,.bl _=>true | .bl _,.non=>true | .non,.str _=>true | .str _,.non=>true
 | .int _,.int _=>true | .bl _,.bl _=>true | .str _,.str _=>true | .byt _,.byt _=>true
 | .int _,.str _=>true | .str _,.int _=>true | .bl _,.str _=>true | .str _,.bl _=>true
 | _,_=>false
def rEq:R2:=fun x y H Q=>scal x y=true∧Q (.bl (decide (x=y))) H
def rNe:R2:=fun x y H Q=>scal x y=true∧Q (.bl (!decide (x=y))) H
theorem dec_int {i j:Int}:decide (V.int i=V.int j)=(i == j):=by
 rw [Bool.eq_iff_iff]
 simp
theorem dec_bl {i j:Bool}:decide (V.bl i=V.bl j)=(i == j):=by
 rw [Bool.eq_iff_iff]
 simp
theorem dec_str {i j:Str}:decide (V.str i=V.str j)=(i == j):=by
 rw [Bool.eq_iff_iff]
 simp
theorem dec_byt {i j:Array UInt8}:decide (V.byt i=V.byt j)=(i.toList == j.toList):=by
 rw [Bool.eq_iff_iff]
 cases i
 cases j
 simp
section
variable {X:Cx}{a b c:Expr}{ta tb tc:TE}{pos:Pos}
theorem fin_bl {pins:List (Addr × Obj)}{σ:St}{H:Hp}{s:Shared}{Q:VK}{k k':Bool} (I:Inv X pins σ H s) (q:Q (.bl k) H) (e:k=k'):EP X pins σ Q (.bool k') s:=by
 subst e
 exact ⟨.bl k,H,I,rfl,q⟩
theorem op_eq:OpR X (compareOp .Eq) rEq:=by
 intro pins s σ H x y v u Q I rx ry h
 obtain ⟨hs,q⟩:=h
 cases x with
 | non=>
  cases rx
  cases y with
  | non=>cases ry;exact PySem.EqNone.eq_none_none (fin_bl I q (by simp))
  | bl j=>cases ry;exact PySem.EqNone.eq_none_bool (fin_bl I q (by simp))
  | int j=>obtain ⟨t',rfl⟩:=ry;exact PySem.EqNone.eq_none_int (fin_bl I q (by simp))
  | str j=>obtain ⟨t',rfl⟩:=ry;exact PySem.EqNone.eq_none_str (fin_bl I q (by simp))
  | _=>exact absurd (show false=true from hs) Bool.false_ne_true
 | bl i=>
  cases rx
  cases y with
  | non=>cases ry;exact PySem.EqNone.eq_bool_none (fin_bl I q (by simp))
  | bl j=>cases ry;exact eq_bool (fin_bl I q dec_bl)
  | str j=>obtain ⟨t',rfl⟩:=ry;exact PySem.EqMixed.eq_bool_str (fin_bl I q (by simp))
  | _=>exact absurd (show false=true from hs) Bool.false_ne_true
 | int i=>
  obtain ⟨t,rfl⟩:=rx
  cases y with
  | non=>cases ry;exact PySem.EqNone.eq_int_none (fin_bl I q (by simp))
  | int j=>obtain ⟨t',rfl⟩:=ry;exact eq_int (fin_bl I q dec_int)
  | str j=>obtain ⟨t',rfl⟩:=ry;exact PySem.EqMixed.eq_int_str (fin_bl I q (by simp))
  | _=>exact absurd (show false=true from hs) Bool.false_ne_true
 | str i=>
  obtain ⟨t,rfl⟩:=rx
  cases y with
  | non=>cases ry;exact PySem.EqNone.eq_str_none (fin_bl I q (by simp))
  | bl j=>cases ry;exact PySem.EqMixed.eq_str_bool (fin_bl I q (by simp))
  | int j=>obtain ⟨t',rfl⟩:=ry;exact PySem.EqMixed.eq_str_int (fin_bl I q (by simp))
  | str j=>obtain ⟨t',rfl⟩:=ry;exact eq_str (fin_bl I q dec_str)
  | _=>exact absurd (show false=true from hs) Bool.false_ne_true
 | byt i=>
  obtain ⟨t,rfl⟩:=rx
  cases y with
  | byt j=>obtain ⟨t',rfl⟩:=ry;exact PySem.W.eq_bytes (fin_bl I q dec_byt)
  | _=>exact absurd (show false=true from hs) Bool.false_ne_true
 | _=>cases y <;> exact absurd (show false=true from hs) Bool.false_ne_true
theorem op_ne:OpR X (compareOp .NotEq) rNe:=by
 intro pins s σ H x y v u Q I rx ry h
 obtain ⟨hs,q⟩:=h
 cases x with
 | non=>
  cases rx
  cases y with
  | non=>cases ry;exact PySem.EqNone.ne_none_none (fin_bl I q (by simp))
  | bl j=>cases ry;exact PySem.EqNone.ne_none_bool (fin_bl I q (by simp))
  | int j=>obtain ⟨t',rfl⟩:=ry;exact PySem.EqNone.ne_none_int (fin_bl I q (by simp))
  | str j=>obtain ⟨t',rfl⟩:=ry;exact PySem.EqNone.ne_none_str (fin_bl I q (by simp))
  | _=>exact absurd (show false=true from hs) Bool.false_ne_true
 | bl i=>
  cases rx
  cases y with
  | non=>cases ry;exact PySem.EqNone.ne_bool_none (fin_bl I q (by simp))
  | bl j=>cases ry;exact ne_bool (fin_bl I q (congrArg not dec_bl))
  | str j=>obtain ⟨t',rfl⟩:=ry;exact PySem.EqMixed.ne_bool_str (fin_bl I q (by simp))
  | _=>exact absurd (show false=true from hs) Bool.false_ne_true
 | int i=>
  obtain ⟨t,rfl⟩:=rx
  cases y with
  | non=>cases ry;exact PySem.EqNone.ne_int_none (fin_bl I q (by simp))
  | int j=>obtain ⟨t',rfl⟩:=ry;exact ne_int (fin_bl I q (congrArg not dec_int))
  | str j=>obtain ⟨t',rfl⟩:=ry;exact PySem.EqMixed.ne_int_str (fin_bl I q (by simp))
  | _=>exact absurd (show false=true from hs) Bool.false_ne_true
 | str i=>
  obtain ⟨t,rfl⟩:=rx
  cases y with
  | non=>cases ry;exact PySem.EqNone.ne_str_none (fin_bl I q (by simp))
  | bl j=>cases ry;exact PySem.EqMixed.ne_str_bool (fin_bl I q (by simp))
  | int j=>obtain ⟨t',rfl⟩:=ry;exact PySem.EqMixed.ne_str_int (fin_bl I q (by simp))
  | str j=>obtain ⟨t',rfl⟩:=ry;exact ne_str (fin_bl I q (congrArg not dec_str))
  | _=>exact absurd (show false=true from hs) Bool.false_ne_true
 | byt i=>
  obtain ⟨t,rfl⟩:=rx
  cases y with
  | byt j=>obtain ⟨t',rfl⟩:=ry;exact PySem.W.ne_bytes (fin_bl I q (congrArg not dec_byt))
  | _=>exact absurd (show false=true from hs) Bool.false_ne_true
 | _=>cases y <;> exact absurd (show false=true from hs) Bool.false_ne_true
theorem op_lt:OpR X (compareOp .Lt) (rI0 fun i j=>.bl (decide (i < j))):=opB0 fun _ _ _ _ _ _ _ q=>lt_int q
theorem op_gt:OpR X (compareOp .Gt) (rI0 fun i j=>.bl (decide (j < i))):=opB0 fun _ _ _ _ _ _ _ q=>gt_int q
theorem op_ge:OpR X (compareOp .GtE) (rI0 fun i j=>.bl (decide (j≤i))):=opB0 fun _ _ _ _ _ _ _ q=>ge_int q
theorem op_isN:OpR X (compareOp .Is) (fun x y H Q=>y=.non∧Q (.bl (decide (x=.non))) H):=by
 intro pins s σ H x y v u Q I rx ry h
 obtain ⟨rfl,q⟩:=h
 cases ry
 refine is_none_gen (fin_bl I q ?_)
 cases x <;> first
  | (cases rx;rfl)
  | (obtain ⟨t,rfl⟩:=rx;rfl)
theorem op_notN:OpR X (compareOp .IsNot) (fun x y H Q=>y=.non∧Q (.bl (!decide (x=.non))) H):=by
 intro pins s σ H x y v u Q I rx ry h
 obtain ⟨rfl,q⟩:=h
 cases ry
 refine isnot_none_gen (fin_bl I q ?_)
 cases x <;> first
  | (cases rx;rfl)
  | (obtain ⟨t,rfl⟩:=rx;rfl)
theorem nomark (b:Expr) {op:CmpOp} (h:op≠.In:=by decide) (h2:op≠.NotIn:=by decide):behindInMarks op b=false:=by
 have e1:(op == CmpOp.In)=false:=by cases op <;> first | rfl | exact absurd rfl h
 have e2:(op == CmpOp.NotIn)=false:=by cases op <;> first | rfl | exact absurd rfl h2
 cases b <;> simp [behindInMarks,e1,e2]
theorem pe_cmpR {op:CmpOp}{r:R2} (ho:OpR X (compareOp op) r) (ha:PE X a ta) (hb:PE X b tb) (hm:behindInMarks op b=false):PE X (.Compare a [op] [b] pos) (tOp r ta tb):=by
 intro pins s σ H Q I h
 exact wpAny_Compare1 (binT ha hb I h fun v u s2 x y H2 I2 rx ry q=>ho pins s2 σ H2 x y v u Q I2 rx ry q) hm
def tTest (t:TE):TT:=fun σ H Q=>t σ H fun x H'=>∃ k,x=.bl k∧Q k H'
theorem pt_cmpR {op:CmpOp}{r:R2} (ho:OpR X (compareOp op) r) (ha:PE X a ta) (hb:PE X b tb) (hm:behindInMarks op b=false):PT X (.Compare a [op] [b] pos) (tTest (tOp r ta tb)):=by
 intro pins s σ H Q I h
 refine wpAny_isTrue_Compare1 (thn (ha pins s σ H _ I h) fun v s1 ⟨x,H1,I1,r1,q1⟩=>thn (hb pins s1 σ H1 _ I1 q1) fun u s2 ⟨y,H2,I2,r2,q2⟩=>
  thn (ho pins s2 σ H2 x y v u _ I2 r1 r2 q2) fun c s3 ⟨z,H3,I3,r3,k,e,q3⟩=>?_) hm
 subst e
 cases r3
 exact wpAny_truthy_bool ⟨H3,I3,q3⟩
def TruV (K:PySem.W.Frag) (x:V) (H:Hp) (k:Bool):Prop:=
 match x with
 | .non=>k=false
 | .bl b=>k=b
 | .int i=>k=(i != 0)
 | .str y=>y.length≤sizeLine∧k=((y.length:Int) != 0)
 | .byt y=>y.size≤sizeLine∧k=((y.size:Int) != 0)
 | .ref p=>(∃ xs,SqL K H p xs∧k= !xs.isEmpty)∨(∃ xs,SqT K H p xs∧k= !xs.isEmpty)∨∃ kvs,H p=some (.dK kvs)∧k= !kvs.isEmpty
 | _=>False
theorem isEmpty_kv {κ:Type}{kvs:List (κ × V)}{vs:List (κ × Value)} (r:KV kvs vs):(!vs.isEmpty)= !kvs.isEmpty:=by
 cases r <;> rfl
theorem isEmpty_of {xs:List V}{its:List Value} (r:Vals xs its):(!its.toArray.isEmpty)= !xs.isEmpty:=by
 cases r <;> simp
theorem line63:(sizeLine:Nat) < 2 ^ 63:=by rw [sizeLine_eq];decide
theorem tru_ok:TruR X (fun x H Q=>∃ k,TruV X.K x H k∧Q k H):=by
 intro pins s σ H x v Q I rx h
 obtain ⟨k,e,q⟩:=h
 have hl:=line63
 have hs:sizeLine=16777216:=sizeLine_eq
 cases x with
 | non=>
  cases rx
  have e':k=false:=e
  subst e'
  exact truthy_none ⟨H,I,q⟩
 | bl b=>
  cases rx
  have e':k=b:=e
  subst e'
  exact wpAny_truthy_bool ⟨H,I,q⟩
 | int i=>
  obtain ⟨t,rfl⟩:=rx
  have e':k=(i != 0):=e
  subst e'
  exact PySem.P.truthy_int ⟨H,I,q⟩
 | str y=>
  obtain ⟨t,rfl⟩:=rx
  obtain ⟨hy,e'⟩:y.length≤sizeLine∧k=((y.length:Int) != 0):=e
  subst e'
  exact PySem.P.truthy_str (by omega) ⟨H,I.tok _,q⟩
 | byt y=>
  obtain ⟨t,rfl⟩:=rx
  obtain ⟨hy,e'⟩:y.size≤sizeLine∧k=((y.size:Int) != 0):=e
  subst e'
  exact PySem.W.truthy_bytes (by omega) ⟨H,I.tok _,q⟩
 | ref p=>
  cases rx
  have e':(∃ xs,SqL X.K H p xs∧k= !xs.isEmpty)∨(∃ xs,SqT X.K H p xs∧k= !xs.isEmpty)∨∃ kvs,H p=some (.dK kvs)∧k= !kvs.isEmpty:=e
  rcases e' with ⟨xs,hx,e'⟩ | ⟨xs,hx,e'⟩ | ⟨kvs,hx,e'⟩
  · subst e'
    obtain ⟨its,r,pl,hz⟩:=I.list hx
    have hlen:=r.length
    exact wpAny_truthy_list pl.isList (by simp only [List.size_toArray];omega) ⟨H,I.tok _,by rw [isEmpty_of r];exact q⟩
  · subst e'
    obtain ⟨its,r,pl,hz⟩:=I.tuple hx
    have hlen:=r.length
    exact truthy_tuple pl (by simp only [List.size_toArray];omega) ⟨H,I.tok _,by rw [isEmpty_of r];exact q⟩
  · subst e'
    obtain ⟨hz,hS,vs,r,m⟩:kvs.length≤sizeLine∧(p == sysModules)=false∧∃ vs,KV kvs vs∧s.heap.DictOf (mixKind X.prog X.w) p vs:=I.hok p _ hx
    have hlen:kvs.length=vs.length:=Paired.length r
    exact wpAny_truthy_dict hS m (by omega) ⟨H,I.tok _,by rw [isEmpty_kv r];exact q⟩
 | _=>exact (show False from e).elim
theorem pt_truth (ha:PE X a ta) (he:∀ whole,isTrue a X.env whole=(do let v ← whole;standAt a.pos;holding [v] (truthy v))):
  PT X a (fun σ H Q=>ta σ H fun x H'=>∃ k,TruV X.K x H' k∧Q k H'):=by
 intro pins s σ H Q I h
 exact isTrue_plain (thn (ha pins s σ H _ I h) fun v s1 ⟨x,H1,I1,r1,q1⟩=>tru_ok pins s1 σ H1 x v Q I1 r1 q1) (he _)
theorem vals1 {x:V}{us:List Value} (r:Vals [x] us):∃ u,us=[u]∧RelV x u:=by
 cases r with
 | cons r1 r2=>cases r2;exact ⟨_,rfl,r1⟩
theorem call_abs:CallR X (.builtin "abs") (fun xs H Q=>∃ i,xs=[.int i]∧Q (.int (if i < 0 then -i else i)) H):=by
 intro pins s σ H xs us Q I r h
 obtain ⟨i,rfl,q⟩:=h
 obtain ⟨u,rfl,t,rfl⟩:=vals1 r
 exact call_abs_int fun u tk=>⟨.int (if i < 0 then -i else i),H,I.tok _,⟨_,rfl⟩,q⟩
end
structure ObjM (h:Heap) (x dx C:Addr) (mA:Str→Option Value):Prop where
 obj:h.get? x=some (PySem.W.instObj C dx)
 ns:h.Ns1 dx mA
 ne:dx≠x
theorem lookIn_ns {h:Heap}{dx:Addr}{mA:Str→Option Value} (n:h.Ns1 dx mA):∃ od,h.get? dx=some od∧∀ name,PySem.W.lookIn name od=some (mA name):=by
 obtain ⟨o,es,ep,ho,hd,hk,_,hm⟩:=n
 refine ⟨o,ho,fun name=>?_⟩
 have e:=hm name
 unfold nsFind findBy at e
 rw [← Array.find?_toList] at e
 unfold PySem.W.lookIn
 rw [hd]
 dsimp only
 split
 · rename_i y q
   rw [q] at e
   exact congrArg some e
 · rename_i q
   rw [q] at e
   have a:es.toList.any (·.refKey)=false:=by
    rw [List.any_eq_false]
    intro y hy
    obtain ⟨z,t,hkey⟩:=hk y (Array.mem_toList_iff.mp hy)
    simp [DictEntry.refKey,hkey]
   have a':¬ es.toList.any (·.refKey)=true:=by rw [a];exact Bool.false_ne_true
   rw [if_neg a']
   exact congrArg some e
theorem ObjM.look {h:Heap}{x dx C:Addr}{mA:Str→Option Value} (I:ObjM h x dx C mA):∃ od,PySem.W.InstAt h x (PySem.W.instObj C dx) C (some od)∧∀ name,PySem.W.lookIn name od=some (mA name):=
 let ⟨od,ho,hl⟩:=lookIn_ns I.ns
 ⟨od,⟨I.obj,rfl,rfl,ho⟩,hl⟩
section
variable {prog:Program}{w:World}{A:Around}{E:Value→Shared→Prop}{s:Shared}{K:PySem.W.Frag}{x dx C f:Addr}{mA:Str→Option Value}{name:Str}{v:Value}
theorem get_map {expr:Bool}{Q:Value→Shared→Prop} (X:K.In s.heap) (I:ObjM s.heap x dx C mA) (hg:PySem.W.plainGet K C name=true) (hh:PySem.W.hasDictIn K C=true)
  (ha:PySem.W.findIn K (.ref C) name=some none) (hv:mA name=some v) (hv':PySem.W.handedIn v=true) (h:Q v { s with toks:=s.toks+1 }):
  wpAny (model prog w) A (getAttr (.ref x) name expr) Q E s:=by
 obtain ⟨od,J,hl⟩:=I.look
 exact PySem.W.get_value X J (PySem.W.plainGet_of hg).1 (PySem.W.findObj_own hh ha rfl (by rw [hl,hv])) hv' h
theorem get_meth {pl:Sem Bool}{Q:Value × List Value→Shared→Prop} (X:K.In s.heap) (I:ObjM s.heap x dx C mA) (hg:PySem.W.plainGet K C name=true)
  (hf:PySem.W.findIn K (.ref C) name=some (some (.ref f))) (ht:PySem.W.isFn K (.ref f)=true) (hv:mA name=none) (h:Q (.ref f,[.ref x]) s):
  wpAny (model prog w) A (getMethod (.ref x) name pl) Q E s:=by
 obtain ⟨od,J,hl⟩:=I.look
 exact PySem.W.method_fn X J (PySem.W.plainGet_of hg).1 (PySem.W.plainGet_of hg).2 hf (beq_iff_eq.mp ht) (by show (PySem.W.lookIn name od).map (·.isSome)=some false;rw [hl,hv];rfl) h
theorem set_map {ns:List Str}{Q:Unit→Shared→Prop} (X:K.In s.heap) (I:ObjM s.heap x dx C mA)
  (hs:PySem.W.findIn K (.ref C) "__setattr__"=some (some (.builtin "object.__setattr__"))) (hp:PySem.W.plainOver K C=true) (ht:PySem.W.takerIn K C name=some none) (hh:PySem.W.hasDictIn K C=true)
  (hw:PySem.Within mA ns) (hsz:ns.length≤sizeLine)
  (h:∀ h',ObjM h' x dx C (fun y=>if y=name then some v else mA y)→Heap.SameBut dx s.heap h'→Q () { s with heap:=h',toks:=s.toks+2 }):
  wpAny (model prog w) A (setAttr (.ref x) name v) Q E s:=by
 obtain ⟨od,J,hl⟩:=I.look
 refine PySem.W.set_plain X J hs (PySem.W.osa_open (s:={ s with toks:=s.toks+1 }) (r:=none) X J hp ht fun b=>?_)
 obtain ⟨cd,hc,hd'⟩:=PySem.W.any_some hh
 have hx:s.heap.get? x=some ⟨.ref C,some dx,.plain, #[]⟩:=I.obj
 refine wpAny_bind (wpAny_pure (wpAny_bind (wpAny_bind (wpAny_loadPart hx (wpAny_bind (PySem.W.Looks.here (s:={ s with toks:=s.toks+1 }) (PySem.W.looks_clsIn X hc) ?_))))))
 rw [hd']
 refine wpAny_pure (a:=some dx) (wpAny_bind (wpAny_pure (wpAny_bind ?_)))
 refine wpAny_nsSet1 (s:={ s with toks:=s.toks+1 }) I.ns fun h' hn2 hs2=>?_
 obtain ⟨oD,esD,epD,hoD,hdD,hcD⟩:=hn2.count (PySem.Within.cons name v hw)
 refine wpAny_bind (wpAny_lookBehind hoD (by rw [hdD];exact pastItsLine_dict (Nat.le_trans hcD (by rw [List.length_cons];omega))) ?_)
 exact wpAny_pure (h _ ⟨(hs2.2 _ (Ne.symm I.ne)).trans I.obj,hn2,I.ne⟩ hs2)
theorem make_map {R:Result→Shared→Prop}{vs:List Value}{kw:List (Str × Value)} (X:K.In s.heap) (hm:PySem.W.makesIn K C=true)
  (hi:PySem.W.findIn K (.ref C) "__init__"=some (some (.ref f))) (hf:PySem.W.typeIn K (.ref f)=some (.type "function"))
  (h:codeAny (model prog w) (A.under (.builtin "type.__call__" ⟨.ref C::vs,kw⟩)) (.call (.ref f) ⟨.ref (s.heap.objs.size+1)::vs,kw⟩) (PySem.W.InitBack (s.heap.objs.size+1) R)
   { s with heap:=(s.heap.push PySem.W.emptyDict).push (PySem.W.instObj C s.heap.objs.size) }):
  codeAny (model prog w) A (.call (.ref C) ⟨vs,kw⟩) R s:=by
 obtain ⟨hh,g,d,t,os⟩:=s
 exact PySem.W.make_core (PySem.W.makes_of X hm) (PySem.W.looks_findIn X hi) (fun self=>PySem.W.bind_fn X self hf) (.inl rfl) h
end
def putF (f:Str) (v:V):List (Str × V)→List (Str × V)
 | []=>[(f,v)]
 | (g,x)::r=>if g=f then (g,v)::r else (g,x)::putF f v r
theorem lookup_putF (f g:Str) (v:V):∀ fs:List (Str × V),(putF f v fs).lookup g=if g=f then some v else fs.lookup g
 | []=>by
  show List.lookup g [(f,v)]=_
  by_cases h:g=f
  · have hb:(g == f)=true:=beq_iff_eq.mpr h
    simp only [List.lookup,hb,if_pos h]
  · have hb:(g == f)=false:=beq_eq_false_iff_ne.mpr h
    simp only [List.lookup,hb,if_neg h]
 | (k,x)::r=>by
  have ih:=lookup_putF f g v r
  rw [show putF f v ((k,x)::r)=(if k=f then (k,v)::r else (k,x)::putF f v r) from rfl]
  by_cases hk:k=f
  · rw [if_pos hk]
    by_cases h:g=k
    · have hb:(g == k)=true:=beq_iff_eq.mpr h
      simp only [List.lookup,hb,if_pos (h.trans hk)]
    · have hb:(g == k)=false:=beq_eq_false_iff_ne.mpr h
      simp only [List.lookup,hb,if_neg (fun e:g=f=>h (e.trans hk.symm))]
  · rw [if_neg hk]
    by_cases h:g=k
    · have hb:(g == k)=true:=beq_iff_eq.mpr h
      simp only [List.lookup,hb,if_neg (fun e:g=f=>hk (h.symm.trans e))]
    · have hb:(g == k)=false:=beq_eq_false_iff_ne.mpr h
      simp only [List.lookup,hb]
      exact ih
theorem keys_putF (f:Str) (v:V):∀ fs:List (Str × V),f∈(putF f v fs).map (·.1)∧∀ g,g∈fs.map (·.1)→g∈(putF f v fs).map (·.1)
 | []=>⟨by simp [putF],fun g h=>by simp at h⟩
 | (k,x)::r=>by
  obtain ⟨i1,i2⟩:=keys_putF f v r
  rw [show putF f v ((k,x)::r)=(if k=f then (k,v)::r else (k,x)::putF f v r) from rfl]
  by_cases hk:k=f
  · rw [if_pos hk]
    subst hk
    exact ⟨by simp,fun g h=>by simpa using h⟩
  · rw [if_neg hk]
    refine ⟨?_,fun g h=>?_⟩
    · rw [List.map_cons]
      exact List.mem_cons_of_mem _ i1
    · rw [List.map_cons] at h ⊢
      rcases List.mem_cons.mp h with e | e
      · exact List.mem_cons.mpr (.inl e)
      · exact List.mem_cons_of_mem _ (i2 g e)
theorem length_putF (f:Str) (v:V):∀ fs:List (Str × V),(putF f v fs).length≤fs.length+1
 | []=>by simp [putF]
 | (k,x)::r=>by
  have ih:=length_putF f v r
  rw [show putF f v ((k,x)::r)=(if k=f then (k,v)::r else (k,x)::putF f v r) from rfl]
  by_cases hk:k=f
  · rw [if_pos hk,List.length_cons,List.length_cons];omega
  · rw [if_neg hk,List.length_cons,List.length_cons];omega
theorem RelO.some_of {v:V}{o:Option Value} (r:RelO (some v) o):∃ u,o=some u∧RelV v u:=by
 cases o with
 | none=>exact (show False from r).elim
 | some u=>exact ⟨u,rfl,r⟩
theorem RelO.none_of {o:Option Value} (r:RelO none o):o=none:=by
 cases o with
 | none=>rfl
 | some u=>exact (show False from r).elim
theorem handed_of {v:V}{u:Value} (r:RelV v u):PySem.W.handedIn u=true:=by
 cases v with
 | non=>cases (show u=Value.none from r);rfl
 | bl b=>cases (show u=Value.bool b from r);rfl
 | int i=>obtain ⟨t,e⟩:=(show ∃ t,u=Value.int i t from r);cases e;rfl
 | str x=>obtain ⟨t,e⟩:=(show ∃ t,u=Value.str x t from r);cases e;rfl
 | byt b=>obtain ⟨t,e⟩:=(show ∃ t,u=Value.bytes b t from r);cases e;rfl
 | flt b=>obtain ⟨t,e⟩:=(show ∃ t,u=Value.float b t from r);cases e;rfl
 | ref a=>cases (show u=Value.ref a from r);rfl
 | ty n=>cases (show u=Value.type n from r);rfl
section
variable {P:Program}{w:World}{H H':Hp}{h h':Heap}{a C dx:Addr}{fs fs':List (Str × V)}
theorem ins_get (hok:HOk P w H h) (e:H a=some (.ins C dx fs)):∃ mA,ObjM h a dx C mA∧(∀ f,RelO (fs.lookup f) (mA f))∧PySem.Within mA (fs.map (·.1))∧fs.length≤1000∧H dx=some (.own a):=by
 obtain ⟨d,z,ne,ob,mA,n,r,q⟩:=(show ObjOk P w H h a (.ins C dx fs) from hok a _ e)
 exact ⟨mA,⟨ob,n,ne⟩,r,q,z,d⟩
end
structure Cls (K:PySem.W.Frag) (C:Addr):Prop where
 pg:PySem.W.plainGet K C Str.empty=true
 hd:PySem.W.hasDictIn K C=true
 po:PySem.W.plainOver K C=true
 sa:PySem.W.findIn K (.ref C) "__setattr__"=some (some (.builtin "object.__setattr__"))
theorem Cls.get {K:PySem.W.Frag}{C:Addr} (c:Cls K C) (f:Str):PySem.W.plainGet K C f=true:=c.pg
def NoAttr (K:PySem.W.Frag) (C:Addr) (f:Str):Prop:=PySem.W.findIn K (.ref C) f=some none
theorem NoAttr.taker {K:PySem.W.Frag}{C:Addr}{f:Str} (n:NoAttr K C f):PySem.W.takerIn K C f=some none:=by
 unfold PySem.W.takerIn
 rw [show PySem.W.findIn K (.ref C) f=some none from n]
 rfl
structure Meth (K:PySem.W.Frag) (C:Addr) (m:Str) (f:Addr):Prop where
 at_:PySem.W.findIn K (.ref C) m=some (some (.ref f))
 fn:PySem.W.isFn K (.ref f)=true
 kp:PySem.W.keepIn K (.ref f)=true
section
variable {X:Cx}{pins:List (Addr × Obj)}{σ:St}{H:Hp}{s:Shared}{a C dx:Addr}{fs:List (Str × V)}{f:Str}{v:V}{A:Around}{E:Value→Shared→Prop}
theorem getattr_ok {b:Bool}{Q:Value→Shared→Prop} (I:Inv X pins σ H s) (e:H a=some (.ins C dx fs)) (c:Cls X.K C) (n:NoAttr X.K C f) (l:fs.lookup f=some v)
  (h:∀ u s',Inv X pins σ H s'→RelV v u→Q u s'):wpAny (model X.prog X.w) A (getAttr (.ref a) f b) Q E s:=by
 obtain ⟨mA,O,r,_,_,_⟩:=ins_get I.hok e
 obtain ⟨u,hu,ru⟩:=RelO.some_of (v:=v) (o:=mA f) (by rw [← l];exact r f)
 exact get_map I.kIn O (c.get f) c.hd n hu (handed_of ru) (h u _ (I.tok _) ru)
theorem getmeth_ok {m:Str}{g:Addr}{pl:Sem Bool}{Q:Value × List Value→Shared→Prop} (I:Inv X pins σ H s) (e:H a=some (.ins C dx fs)) (c:Cls X.K C) (k:Meth X.K C m g) (l:fs.lookup m=none)
  (h:Q (.ref g,[.ref a]) s):wpAny (model X.prog X.w) A (getMethod (.ref a) m pl) Q E s:=by
 obtain ⟨mA,O,r,_,_,_⟩:=ins_get I.hok e
 have hn:mA m=none:=RelO.none_of (by rw [← l];exact r m)
 exact get_meth I.kIn O (c.get m) k.at_ k.fn hn h
theorem setattr_ok {y:V}{u:Value}{Q:Unit→Shared→Prop} (I:Inv X pins σ H s) (e:H a=some (.ins C dx fs)) (c:Cls X.K C) (n:NoAttr X.K C f) (hl:fs.length < 1000) (ry:RelV y u)
  (h:∀ s',Inv X pins σ (upd H a (.ins C dx (putF f y fs))) s'→Q () s'):wpAny (model X.prog X.w) A (setAttr (.ref a) f u) Q E s:=by
 obtain ⟨mA,O,r,wi,_,ho⟩:=ins_get I.hok e
 have hz:(fs.map (·.1)).length≤sizeLine:=by rw [List.length_map,sizeLine_eq];omega
 refine set_map I.kIn O c.sa c.po n.taker c.hd wi hz fun h' O' sb=>h _ ?_
 have hd:∃ o,h'.get? dx=some o:=let ⟨o,_,_,e',_⟩:=O'.ns;⟨o,e'⟩
 refine I.write (x:=a) (e:=dx) (by rw [e];exact True.intro) (.inr ho) (fun b q hb z=>(sb.2 b hb).trans z) hd ?_
 refine ⟨by rw [upd_ne O.ne];exact ho,?_,O.ne,O'.obj,_,O'.ns,fun g=>?_,fun g hg=>?_⟩
 · have:=length_putF f y fs;omega
 · show RelO ((putF f y fs).lookup g) (if g=f then some u else mA g)
   rw [lookup_putF]
   by_cases q:g=f
   · rw [if_pos q,if_pos q];exact ry
   · rw [if_neg q,if_neg q];exact r g
 · by_cases q:g=f
   · rw [q];exact (keys_putF f y fs).1
   · refine (keys_putF f y fs).2 g (wi g fun z=>hg ?_)
     show (if g=f then some u else mA g)=none
     rw [if_neg q];exact z
theorem Inv.made (I:Inv X pins σ H s):Inv X pins σ (upd (upd H s.heap.objs.size (.own (s.heap.objs.size+1))) (s.heap.objs.size+1) (.ins C s.heap.objs.size []))
  { s with heap:=(s.heap.push PySem.W.emptyDict).push (PySem.W.instObj C s.heap.objs.size) }:=by
 have e1:(s.heap.push PySem.W.emptyDict).get? s.heap.objs.size=some PySem.W.emptyDict:=Heap.get?_push_size s.heap rfl
 have e2:((s.heap.push PySem.W.emptyDict).push (PySem.W.instObj C s.heap.objs.size)).get? (s.heap.objs.size+1)=some (PySem.W.instObj C s.heap.objs.size):=by
  have:=Heap.get?_push_size (s.heap.push PySem.W.emptyDict) (o:=PySem.W.instObj C s.heap.objs.size) rfl
  rwa [Heap.size_push] at this
 have e3:(s.heap.push PySem.W.emptyDict).Ns s.heap.objs.size (fun _=>none):=⟨PySem.W.emptyDict, #[],_,e1,rfl,(fun e he=>absurd he (by simp)),fun _=>rfl⟩
 have I1:=I.laid (a:=s.heap.objs.size) (o:=.own (s.heap.objs.size+1)) (h':=s.heap.push PySem.W.emptyDict) (t':=s.toks) (fun b u q=>Heap.get?_push_of_some _ q) (Nat.le_refl _) ⟨_,e1⟩
 refine I1.laid (a:=s.heap.objs.size+1) (o:=.ins C s.heap.objs.size []) (t':=s.toks) (fun b u q=>Heap.get?_push_of_some _ q) (Nat.le_of_eq (Heap.size_push _ _)) ?_
 have ne:s.heap.objs.size≠s.heap.objs.size+1:=Nat.ne_of_lt (Nat.lt_succ_self _)
 refine ⟨by rw [upd_ne ne,upd_same],Nat.zero_le _,ne,e2,fun _=>none,(Heap.Ns1.of_empty e3).at fun o q=>Heap.get?_push_of_some _ q,fun _=>True.intro,fun y hy=>absurd rfl hy⟩
theorem attr_of {prog:Program}{w:World}{env:Env}{e:Expr}{f:Str}{pos:Pos}{s:Shared}{Q:Value→Shared→Prop} (hb:attributeBase e f env (eval e env)=eval e env)
  (h:wpAny (model prog w) A (eval e env) (fun o s₁=>wpAny (model prog w) A (getAttr o f true) Q E s₁) E s):wpAny (model prog w) A (eval (.Attribute e f pos) env) Q E s:=
 Attribute_any_ h (by rw [arm_eval_Attribute,hb])
end
def tFld (K:PySem.W.Frag) (ta:TE) (f:Str):TE:=fun σ H Q=>ta σ H fun x H1=>∃ a C dx fs v,x=.ref a∧H1 a=some (.ins C dx fs)∧Cls K C∧NoAttr K C f∧fs.lookup f=some v∧Q v H1
def sFld (K:PySem.W.Frag) (ta tv:TE) (f:Str):TS:=fun D σ H=>tv σ H fun y H1=>ta σ H1 fun x H2=>∃ a C dx fs,x=.ref a∧H2 a=some (.ins C dx fs)∧Cls K C∧NoAttr K C f∧fs.length < 1000∧
 D.nx σ (upd H2 a (.ins C dx (putF f y fs)))
section
variable {X:Cx}{o e value:Expr}{f:Str}{pos pos' tpos:Pos}{ta tv:TE}
theorem pe_fld (he:PE X e ta) (hb:attributeBase e f X.env (eval e X.env)=eval e X.env):PE X (.Attribute e f pos) (tFld X.K ta f):=by
 intro pins s σ H Q I h
 refine attr_of hb (thn (he pins s σ H _ I h) fun u s1 ⟨x,H1,I1,rx,a,C,dx,fs,v,ex,ea,c,n,l,q⟩=>?_)
 subst ex
 obtain rfl:u=Value.ref a:=rx
 exact getattr_ok I1 ea c n l fun u' s2 I2 ru=>⟨v,H1,I2,ru,q⟩
theorem ps_fld (ha:PE X o ta) (hv:PE X value tv) (hs:swapsWith value (some (.Attribute o f pos')) pos.line X.env=pure false):PS X (.Assign [.Attribute o f pos'] value pos) (sFld X.K ta tv f):=by
 intro pins s σ H D I h
 refine plainObj_wpAny_Assign_Attribute (thn (hv pins s σ H _ I h) fun u s1 ⟨y,H1,I1,ry,q⟩=>thn (ha pins s1 σ H1 _ I1 q) fun ov s2 ⟨x,H2,I2,rx,a,C,dx,fs,ex,ea,c,n,l,q2⟩=>?_) hs
 subst ex
 obtain rfl:ov=Value.ref a:=rx
 exact setattr_ok I2 ea c n l ry fun s3 I3=>⟨σ,_,I3,q2⟩
end
section
variable {X:Cx}{pins:List (Addr × Obj)}{σ:St}{H:Hp}{s:Shared}{A:Around}{E:Value→Shared→Prop}{Q:Value→Shared→Prop}{c:Value}{b:Bool}
inductive TyOf (K:PySem.W.Frag) (H:Hp):V→Value→Prop where
 | non:TyOf K H .non (.type "NoneType")
 | bl (x:Bool):TyOf K H (.bl x) (.type "bool")
 | int (i:Int):TyOf K H (.int i) (.type "int")
 | str (x:Str):TyOf K H (.str x) (.type "str")
 | flt (x:UInt64):TyOf K H (.flt x) (.type "float")
 | lst {a:Addr}{xs:List V} (e:H a=some (.lst xs)):TyOf K H (.ref a) (.type "list")
 | frz {a:Addr}{o:Obj}{xs:List V} (e:H a=some (.frz o (.lst xs))):TyOf K H (.ref a) (.type "list")
 | tup {a:Addr}{xs:List V} (e:H a=some (.tup xs)):TyOf K H (.ref a) (.type "tuple")
 | dK {a:Addr}{kvs:List (Key × V)} (e:H a=some (.dK kvs)):TyOf K H (.ref a) (.type "dict")
 | dT {a:Addr}{kvs:List (List Key × V)} (e:H a=some (.dT kvs)):TyOf K H (.ref a) (.type "dict")
 | ins {a C dx:Addr}{fs:List (Str × V)} (e:H a=some (.ins C dx fs)) (cl:Cls K C) (ha:PySem.W.findIn K (.ref C) "__class__"=some (some (.builtin "object.__class__")))
   (hn:PySem.W.specialIn K (.builtin "object.__class__") "__get__"=some (some (.builtin "getset_descriptor.__get__"))) (htk:PySem.W.takesIn K (.builtin "object.__class__")=some true)
   (hm:PySem.W.mroIn K C (.type "object")=some true):TyOf K H (.ref a) (.ref C)
theorem isinst_ok {x:V}{u t:Value} (I:Inv X pins σ H s) (rx:RelV x u) (ty:TyOf X.K H x t) (e:PySem.W.kitOne X.K t c=some b) (h:∀ tk,Q (.bool b) { s with toks:=tk }):
  wpAny (model X.prog X.w) A (call (.builtin "isinstance") [u,c]) Q E s:=by
 cases ty with
 | non=>cases (show u=Value.none from rx);exact PySem.W.kia_one PySem.W.kitx_none I.kIn True.intro e (fun z=>nomatch z) h
 | bl y=>cases (show u=Value.bool y from rx);exact PySem.W.kia_one PySem.W.kitx_bool I.kIn True.intro e (fun z=>nomatch z) h
 | int i=>obtain ⟨t,q⟩:=(show ∃ t,u=Value.int i t from rx);cases q;exact PySem.W.kia_one PySem.W.kitx_int I.kIn True.intro e (fun z=>nomatch z) h
 | str y=>obtain ⟨t,q⟩:=(show ∃ t,u=Value.str y t from rx);cases q;exact PySem.W.kia_one PySem.W.kitx_str I.kIn True.intro e (fun z=>nomatch z) h
 | flt y=>obtain ⟨t,q⟩:=(show ∃ t,u=Value.float y t from rx);cases q;exact PySem.W.kia_one PySem.W.kitx_float I.kIn True.intro e (fun z=>nomatch z) h
 | @lst a xs ea=>
  cases (show u=Value.ref a from rx)
  obtain ⟨_,_,n,_,h1⟩:=(show ObjOk X.prog X.w H s.heap a (.lst xs) from I.hok a _ ea)
  exact PySem.W.kia_one PySem.W.kitx_list I.kIn ⟨_,h1,rfl⟩ e (fun z=>nomatch z) h
 | @frz a ob xs ea=>
  cases (show u=Value.ref a from rx)
  obtain ⟨_,_,_,n,_,h1⟩:=(show ObjOk X.prog X.w H s.heap a (.frz ob (.lst xs)) from I.hok a _ ea)
  exact PySem.W.kia_one PySem.W.kitx_list I.kIn ⟨_,h1,rfl⟩ e (fun z=>nomatch z) h
 | @tup a xs ea=>
  cases (show u=Value.ref a from rx)
  obtain ⟨_,_,_,p⟩:=(show ObjOk X.prog X.w H s.heap a (.tup xs) from I.hok a _ ea)
  obtain ⟨o,h1,h2,_⟩:=p
  exact PySem.W.kia_one PySem.W.kitx_tuple I.kIn ⟨o,h1,h2⟩ e (fun z=>nomatch z) h
 | @dK a kvs ea=>
  cases (show u=Value.ref a from rx)
  obtain ⟨_,_,vs,_,p⟩:=(show ObjOk X.prog X.w H s.heap a (.dK kvs) from I.hok a _ ea)
  obtain ⟨o,es,ep,h1,h2,_⟩:=p
  exact PySem.W.kia_one PySem.W.kitx_dict I.kIn ⟨o,h1,h2.1⟩ e (fun z=>nomatch z) h
 | @dT a kvs ea=>
  cases (show u=Value.ref a from rx)
  obtain ⟨_,_,xs,_,o,es,ep,h1,h2,_⟩:=(show ObjOk X.prog X.w H s.heap a (.dT kvs) from I.hok a _ ea)
  exact PySem.W.kia_one PySem.W.kitx_dict I.kIn ⟨o,h1,h2.1⟩ e (fun z=>nomatch z) h
 | @ins a C dx fs ea cl ha hn htk hm=>
  cases (show u=Value.ref a from rx)
  obtain ⟨mA,O,_⟩:=ins_get I.hok ea
  obtain ⟨od,J,_⟩:=O.look
  exact PySem.W.kia_one (PySem.W.kitx_own (cl.get _) cl.hd ha hn htk hm) I.kIn J e (fun z=>nomatch z) h
end
structure Room (k:Nat) (A:Around):Prop where
 hd:A.handled=none
 dp:A.depth+3 * k+5 < recursionLimit
 un:A.units+16 * k+200 < cLine
theorem Room.mono {j k:Nat}{A:Around} (r:Room k A) (h:j≤k):Room j A:=⟨r.hd,by have:=r.dp;omega,by have:=r.un;omega⟩
theorem Room.deeper {k:Nat}{A:Around} (r:Room (k+1) A) (env:Env):Room k (A.deeper env):=
 ⟨r.hd,by have:=r.dp;show A.depth+1+3 * k+5 < _;omega,by have:=r.un;show A.units+3+16 * k+200 < _;omega⟩
theorem make_depth {A:Around}{C:Addr}{us:List Value}{kw:List (Str × Value)}:(A.under (.builtin "type.__call__" ⟨.ref C::us,kw⟩)).depth=A.depth+1:=by
 first | rfl | simp [Around.under,Code.weight,Code.isCreation,Code.isGuard,Code.isCaller,Code.frames,Code.isFrame,guardIds]
theorem make_units {A:Around}{C:Addr}{us:List Value}{kw:List (Str × Value)}:(A.under (.builtin "type.__call__" ⟨.ref C::us,kw⟩)).units=A.units+1:=by
 first | rfl | simp [Around.under,Code.cUnits,Code.frames,Code.isFrame]
theorem Room.make {k:Nat}{A:Around} (r:Room (k+1) A) (C:Addr) (us:List Value) (kw:List (Str × Value)):Room k (A.under (.builtin "type.__call__" ⟨.ref C::us,kw⟩)):=
 ⟨r.hd,by have:=r.dp;rw [make_depth];omega,by have:=r.un;rw [make_units];omega⟩
theorem Room.depth {k:Nat}{A:Around} (r:Room k A):A.depth < recursionLimit:=by have:=r.dp;omega
theorem Room.units {k:Nat}{A:Around} (r:Room k A):A.units+64 < cLine:=by have:=r.un;omega
def tNil:TA:=fun _ H Q=>Q [] H
def tCons (ta:TE) (tr:TA):TA:=fun σ H Q=>ta σ H fun x H1=>tr σ H1 fun xs H2=>Q (x::xs) H2
section
variable {X:Cx}{e:Expr}{es:List Expr}{te:TE}{t:TA}{pos:Pos}
theorem pa_nil:PA X [] tNil:=fun _ _ _ _ H Q I h=>Calls.spliced_nil ⟨[],H,I,.nil,h⟩
theorem pa_cons (ha:PE X e te) (hr:PA X es t) (hs:starEach (e::es) X.env=(false,eval e X.env)::starEach es X.env:=by rfl):PA X (e::es) (tCons te t):=by
 intro pos pins s σ H Q I h
 rw [hs]
 show wpAny _ _ (spliced ((false,eval e X.env)::backTo pos (starEach es X.env))) _ _ s
 refine Calls.spliced_cons (thn (ha pins s σ H _ I h) fun u s1 ⟨x,H1,I1,r1,q1⟩=>?_)
 exact thn (hr pos pins s1 σ H1 _ I1 q1) fun us s2 ⟨xs,H2,I2,r2,q2⟩=>⟨x::xs,H2,I2,.cons r1 r2,q2⟩
def tTup (t:TA):TE:=fun σ H Q=>t σ H fun xs H1=>xs.length≤sizeLine∧∀ p,H1 p=none→Q (.ref p) (upd H1 p (.tup xs))
def tLst (t:TA):TE:=fun σ H Q=>t σ H fun xs H1=>xs.length≤sizeLine∧∀ p,H1 p=none→Q (.ref p) (upd H1 p (.lst xs))
theorem pe_tup {x1} (h:PA X es t):PE X (.Tuple es x1 pos) (tTup t):=by
 intro pins s σ H Q I hq
 refine wpAny_Tuple_spliced (thn (h pos pins s σ H _ I hq) fun us s1 ⟨xs,H1,I1,r,z,q⟩=>⟨by rw [← r.length];exact z,?_⟩)
 have hf:H1 s1.heap.objs.size=none:=I1.hok.fresh (Nat.le_refl _)
 refine ⟨.ref s1.heap.objs.size,upd H1 s1.heap.objs.size (.tup xs),I1.laid (t':=s1.toks) (fun b u e=>Heap.get?_push_of_some _ e) (Nat.le_refl _) ?_,rfl,q _ hf⟩
 exact ⟨z,us,r,⟨_,Heap.get?_push_size _ rfl,rfl,_,rfl⟩⟩
theorem pe_lst (h:PA X es t):PE X (.List es pos) (tLst t):=by
 intro pins s σ H Q I hq
 refine wpAny_List_spliced (thn (h pos pins s σ H _ I hq) fun us s1 ⟨xs,H1,I1,r,z,q⟩=>⟨by rw [← r.length];exact z,?_⟩)
 have hf:H1 s1.heap.objs.size=none:=I1.hok.fresh (Nat.le_refl _)
 refine ⟨.ref s1.heap.objs.size,upd H1 s1.heap.objs.size (.lst xs),I1.laid (t':=s1.toks) (fun b u e=>Heap.get?_push_of_some _ e) (Nat.le_refl _) ?_,rfl,q _ hf⟩
 exact ⟨z,us,0,r,Heap.get?_push_size _ rfl⟩
end
abbrev Sp:=List V→Hp→VK→XK→Prop
abbrev CXT:=List Env→Hp→Shared→XK→Value→Shared→Prop
structure Env0 (P:Program) (w:World) (K:PySem.W.Frag) (mg:Str→Option Value) (base:Heap) (A:Around) (outer:List Env) (s:Shared) (H:Hp):Prop where
 frames:A.frames=some outer
 mod:Mod K mg base
 bs:∀ b o,base.get? b=some o→s.heap.get? b=some o∧H b=none
 bsz:base.objs.size≤s.heap.objs.size
 funs:s.heap.FunFrames base outer
 frf:∀ b∈frs outer,H b=none
 hok:HOk P w H s.heap
 bare:AllBare s.gens
def CE (outer:List Env) (P:Program) (w:World) (H:Hp) (s:Shared) (Q:VK) (u:Value) (s':Shared):Prop:=
 ∃ v H',s'.os=s.os∧AllBare s'.gens∧Un (frs outer) [] H H' s.heap s'.heap∧HOk P w H' s'.heap∧RelV v u∧Q v H'
def CR (CX:CXT) (outer:List Env) (P:Program) (w:World) (H:Hp) (s:Shared) (Q:VK) (E:XK) (r:Result) (s':Shared):Prop:=
 match r with
 | .ok (.ret u)=>CE outer P w H s Q u s'
 | .ok _=>False
 | .error e=>CX outer H s E e s'
structure FnOk (P:Program) (w:World) (K:PySem.W.Frag) (mg:Str→Option Value) (base:Heap) (CX:CXT) (k:Nat) (f:Addr) (fd:FuncData) (ps:List Str) (sp:Sp):Prop where
 len:∀ vs H Q E,sp vs H Q E→vs.length=ps.length
 run:∀ (A:Around) (outer:List Env) (s:Shared) (H:Hp) (args:Args) (us:List Value) (vs:List V) (Q:VK) (E:XK),Room k A→Env0 P w K mg base A outer s H→BindsTo s fd args (ps.zip us)→Vals vs us→sp vs H Q E→
  codeAny (model P w) A (.call (.ref f) args) (CR CX outer P w H s Q E) s
theorem Env0.make {P:Program}{w:World}{K:PySem.W.Frag}{mg:Str→Option Value}{base:Heap}{A:Around}{outer:List Env}{s:Shared}{H:Hp} (e:Env0 P w K mg base A outer s H) (C:Addr) (us:List Value) (kw:List (Str × Value)):
  Env0 P w K mg base (A.under (.builtin "type.__call__" ⟨.ref C::us,kw⟩)) outer s H:=⟨by first | exact e.frames | (simpa [Around.under,Code.envs,Code.isFrame,pushEnvs] using e.frames),e.mod,e.bs,e.bsz,e.funs,e.frf,e.hok,e.bare⟩
section
variable {X:Cx}{pins:List (Addr × Obj)}{σ:St}{H:Hp}{s s':Shared}
theorem Inv.env0 (I:Inv X pins σ H s):Env0 X.prog X.w X.K X.mg X.base X.A X.stack s H:=
 ⟨I.ok.frames,I.ok.mod,I.bs,Nat.le_trans I.ok.bsz I.sz,I.stack,I.stkFree,I.hok,I.bare⟩
theorem Inv.after {Q:VK}{u:Value} (I:Inv X pins σ H s) (h:CE X.stack X.prog X.w H s Q u s'):EP X pins σ Q u s':=by
 obtain ⟨v,H',os,bare,un,hok,r,q⟩:=h
 obtain ⟨hh,g,d,t,os'⟩:=s'
 obtain rfl:os'=s.os:=os
 exact ⟨v,H',I.call (h':=hh) (g':=g) (d':=d) (t':=t) (ch:=[]) un hok bare (fun b z=>absurd z (by simp)),r,q⟩
end
def tCall (sp:Sp) (dvs:List V) (E:XK) (t:TA):TE:=fun σ H Q=>t σ H fun vs H1=>sp (vs++dvs) H1 Q E
def tMeth (C:Addr) (m:Str) (sp:Sp) (dvs:List V) (E:XK) (ta:TE) (t:TA):TE:=fun σ H Q=>ta σ H fun x H1=>∃ a dx fs,x=.ref a∧H1 a=some (.ins C dx fs)∧fs.lookup m=none∧
 t σ H1 fun vs H2=>sp (x::(vs++dvs)) H2 Q E
def tMake (C:Addr) (sp:Sp) (dvs:List V) (E:XK) (t:TA):TE:=fun σ H Q=>t σ H fun vs H1=>∀ x dx,H1 x=none→H1 dx=none→dx≠x→
 sp (.ref x::(vs++dvs)) (upd (upd H1 dx (.own x)) x (.ins C dx [])) (fun v H2=>v=.non∧Q (.ref x) H2) E
def Binds (K:PySem.W.Frag) (fd:FuncData) (ps:List Str) (ds:List Value):Prop:=
 ∀ (s:Shared) (us:List Value),K.In s.heap→(us++ds).length=ps.length→BindsTo s fd ⟨us,[]⟩ (ps.zip (us++ds))
theorem Binds.all {K:PySem.W.Frag}{fd:FuncData}{ps:List Str} (h:∀ us:List Value,us.length=ps.length→bindArgs fd ⟨us,[]⟩=pure (ps.zip us)):Binds K fd ps []:=fun s us _ hl=>by
 rw [List.append_nil] at hl ⊢
 exact .of_eq (h us hl)
def Passes (CX:CXT) (X:Cx) (E:XK):Prop:=∀ (pins:List (Addr × Obj)) (σ:St) (H:Hp) (s:Shared) (e:Value) (s':Shared),Inv X pins σ H s→CX X.stack H s E e s'→X.xe e s'
section
variable {X:Cx}{CX:CXT}{k:Nat}{f C:Addr}{fd:FuncData}{ps:List Str}{sp:Sp}{dvs:List V}{ds:List Value}{E:XK}{x m:Str}{p pos apos:Pos}{e o:Expr}{es:List Expr}{ta:TE}{t:TA}
theorem run_fn {pins:List (Addr × Obj)}{σ:St}{H:Hp}{s:Shared}{Q:VK}{us:List Value}{vs:List V} (F:FnOk X.prog X.w X.K X.mg X.base CX k f fd ps sp) (hr:Room k X.A) (hb:Binds X.K fd ps ds) (hd:Vals dvs ds) (hx:Passes CX X E)
  (I:Inv X pins σ H s) (r:Vals vs us) (h:sp (vs++dvs) H Q E):wpAny (model X.prog X.w) X.A (call (.ref f) us) (EP X pins σ Q) X.xe s:=by
 have r2:Vals (vs++dvs) (us++ds):=r.append hd
 have hl:(us++ds).length=ps.length:=by rw [← r2.length];exact F.len _ _ _ _ h
 refine wpAny_call (codeAny_mono (F.run X.A X.stack s H ⟨us,[]⟩ (us++ds) (vs++dvs) Q E hr I.env0 (hb s us I.kIn hl) r2 h) fun r s' hq=>?_)
 cases r with
 | error e=>exact hx pins σ H s e s' I hq
 | ok fl=>
  cases fl with
  | ret u=>exact I.after hq
  | next=>exact False.elim hq
  | brk=>exact False.elim hq
  | cont=>exact False.elim hq
theorem pe_call (F:FnOk X.prog X.w X.K X.mg X.base CX k f fd ps sp) (hr:Room k X.A) (hg:Gl X x) (hm:X.mg x=some (.ref f)) (hk:PySem.W.keepIn X.K (.ref f)=true) (hb:Binds X.K fd ps ds) (hd:Vals dvs ds) (hx:Passes CX X E)
  (ha:PA X (e::es) t) (hdb:(x == ("__debug__":Str))=false:=by decide) (he:starEach (e::es) X.env=(false,eval e X.env)::starEach es X.env:=by rfl) (hpl:(backTo pos (starEach es X.env)).any (·.1)=false:=by rfl):
  PE X (.Call (.Name x p) (e::es) [] pos) (tCall sp dvs E t):=by
 intro pins s σ H Q I h
 refine wpAny_Call_Name_kw (ld_glob I hg hm ?_ hdb)
 refine PySem.W.callWith_K (h₀:=X.base) I.ok.mod.kin hk (thn (ha pos pins s σ H _ I h) fun us s1 ⟨vs,H1,I1,r,q⟩=>⟨I1.kIn,?_⟩) he hpl
 exact run_fn F hr hb hd hx I1 r q
theorem pe_meth {pl:Sem Bool} (he:PE X o ta) (c:Cls X.K C) (hm:Meth X.K C m f) (F:FnOk X.prog X.w X.K X.mg X.base CX k f fd ps sp) (hr:Room k X.A) (hb:Binds X.K fd ps ds) (hd:Vals dvs ds) (hx:Passes CX X E) (ha:PA X (e::es) t)
  (hst:starEach (e::es) X.env=(false,eval e X.env)::starEach es X.env:=by rfl) (hpl:(backTo pos (starEach es X.env)).any (·.1)=false:=by rfl)
  (ht:eval (.Call (.Attribute o m apos) (e::es) [] pos) X.env=(do
   let ov ← eval o X.env
   standAt apos.atName
   let (f,first) ← holding [ov] (getMethod ov m pl)
   callWith pos f first (backTo pos (starEach (e::es) X.env)) (backToKw pos (keywordEach [] X.env))):=by rfl):
  PE X (.Call (.Attribute o m apos) (e::es) [] pos) (tMeth C m sp dvs E ta t):=by
 intro pins s σ H Q I h
 refine PySem.W.methodCall_KW (pl:=pl) (thn (he pins s σ H _ I h) fun u s1 ⟨x,H1,I1,rx,a,dx,fs,ex,ea,l,q⟩=>?_) ht
 subst ex
 obtain rfl:u=Value.ref a:=rx
 refine getmeth_ok I1 ea c hm l ?_
 refine PySem.W.callWith_K (first:=[.ref a]) (h₀:=X.base) I.ok.mod.kin hm.kp (thn (ha pos pins s1 σ H1 _ I1 q) fun us s2 ⟨vs,H2,I2,r,q2⟩=>⟨I2.kIn,?_⟩) hst hpl
 exact run_fn (us:=.ref a::us) (vs:=.ref a::vs) F hr hb hd hx I2 (.cons rfl r) q2
theorem pe_meth0 {pl:Sem Bool} (he:PE X o ta) (c:Cls X.K C) (hm:Meth X.K C m f) (F:FnOk X.prog X.w X.K X.mg X.base CX k f fd ps sp) (hr:Room k X.A) (hb:Binds X.K fd ps ds) (hd:Vals dvs ds) (hx:Passes CX X E)
  (ht:eval (.Call (.Attribute o m apos) [] [] pos) X.env=(do
   let ov ← eval o X.env
   standAt apos.atName
   let (f,first) ← holding [ov] (getMethod ov m pl)
   callWith pos f first (backTo pos (starEach [] X.env)) (backToKw pos (keywordEach [] X.env))):=by rfl):
  PE X (.Call (.Attribute o m apos) [] [] pos) (tMeth C m sp dvs E ta tNil):=by
 intro pins s σ H Q I h
 refine PySem.W.methodCall_KW (pl:=pl) (thn (he pins s σ H _ I h) fun u s1 ⟨x,H1,I1,rx,a,dx,fs,ex,ea,l,q⟩=>?_) ht
 subst ex
 obtain rfl:u=Value.ref a:=rx
 refine getmeth_ok I1 ea c hm l ?_
 exact PySem.W.callWith_K0 (first:=[.ref a]) I1.kIn hm.kp (run_fn (us:=[.ref a]) (vs:=[.ref a]) F hr hb hd hx I1 (.cons rfl .nil) q)
structure Mk (K:PySem.W.Frag) (C f:Addr):Prop where
 makes:PySem.W.makesIn K C=true
 init:PySem.W.findIn K (.ref C) "__init__"=some (some (.ref f))
 fn:PySem.W.isFn K (.ref f)=true
 kp:PySem.W.keepIn K (.ref C)=true
theorem run_make {pins:List (Addr × Obj)}{σ:St}{H:Hp}{s:Shared}{Q:VK}{us:List Value}{vs:List V} (M:Mk X.K C f) (F:FnOk X.prog X.w X.K X.mg X.base CX k f fd ps sp) (hr:Room (k+1) X.A) (hb:Binds X.K fd ps ds) (hd:Vals dvs ds)
  (hx:Passes CX X E) (I:Inv X pins σ H s) (r:Vals vs us)
  (h:∀ x dx,H x=none→H dx=none→dx≠x→sp (.ref x::(vs++dvs)) (upd (upd H dx (.own x)) x (.ins C dx [])) (fun v H2=>v=.non∧Q (.ref x) H2) E):
  wpAny (model X.prog X.w) X.A (call (.ref C) us) (EP X pins σ Q) X.xe s:=by
 have hq:=h (s.heap.objs.size+1) s.heap.objs.size (I.hok.fresh (Nat.le_succ _)) (I.hok.fresh (Nat.le_refl _)) (Nat.ne_of_lt (Nat.lt_succ_self _))
 have I2:=Inv.made (C:=C) I
 have r2:Vals (V.ref (s.heap.objs.size+1)::(vs++dvs)) (Value.ref (s.heap.objs.size+1)::(us++ds)):=.cons rfl (r.append hd)
 have hl:(Value.ref (s.heap.objs.size+1)::us++ds).length=ps.length:=by
  have e:=r2.length
  rw [F.len _ _ _ _ hq] at e
  exact e.symm
 refine wpAny_call (make_map (f:=f) I.kIn M.makes M.init (beq_iff_eq.mp M.fn) (codeAny_mono (F.run _ X.stack _ _ ⟨Value.ref (s.heap.objs.size+1)::us,[]⟩ (Value.ref (s.heap.objs.size+1)::(us++ds)) _ _ E (hr.make C us [])
  (I2.env0.make C us []) (hb _ (Value.ref (s.heap.objs.size+1)::us) I2.kIn hl) r2 hq) fun r s' hq'=>?_))
 cases r with
 | error e=>exact hx pins σ _ _ e s' I2 hq'
 | ok fl=>
  cases fl with
  | ret u=>
   obtain ⟨v,H',I3,rv,ev,q3⟩:=I2.after hq'
   subst ev
   exact ⟨rv,⟨V.ref (s.heap.objs.size+1),H',I3,rfl,q3⟩⟩
  | next=>exact False.elim hq'
  | brk=>exact False.elim hq'
  | cont=>exact False.elim hq'
theorem pe_make (M:Mk X.K C f) (F:FnOk X.prog X.w X.K X.mg X.base CX k f fd ps sp) (hr:Room (k+1) X.A) (hg:Gl X x) (hm:X.mg x=some (.ref C)) (hb:Binds X.K fd ps ds) (hd:Vals dvs ds) (hx:Passes CX X E)
  (ha:PA X (e::es) t) (hdb:(x == ("__debug__":Str))=false:=by decide) (he:starEach (e::es) X.env=(false,eval e X.env)::starEach es X.env:=by rfl) (hpl:(backTo pos (starEach es X.env)).any (·.1)=false:=by rfl):
  PE X (.Call (.Name x p) (e::es) [] pos) (tMake C sp dvs E t):=by
 intro pins s σ H Q I h
 refine wpAny_Call_Name_kw (ld_glob I hg hm ?_ hdb)
 refine PySem.W.callWith_K (h₀:=X.base) I.ok.mod.kin M.kp (thn (ha pos pins s σ H _ I h) fun us s1 ⟨vs,H1,I1,r,q⟩=>⟨I1.kIn,?_⟩) he hpl
 exact run_make M F hr hb hd hx I1 r q
end
structure FnScope (N P:List Str) (sc:Scope):Prop where
 kind:sc.kind=.function
 co:sc.isCoroutine=false
 gen:sc.isGenerator=false
 nd:N.Nodup
 pre:N.take P.length=P
 par:∀ x∈P,sc.names.lookup x=some .local∨sc.names.lookup x=some .cell
 nofree:∀ y∈sc.names,y.2≠.free
theorem bindL_out {kindOf:Str→Option NameKind}{x:Str}:∀ {binds:List (Str × Value)}{m:Str→Option Value},(∀ v,(x,v)∉binds)→bindL kindOf binds m x=m x
 | [],_,_=>rfl
 | (n,v)::r,m,h=>by
  unfold bindL
  rw [bindL_out fun w hw=>h w (List.mem_cons_of_mem _ hw)]
  split
  · have:x≠n:=by rintro rfl;exact h v List.mem_cons_self
    simp [this]
  · rfl
theorem bindC_out {kindOf:Str→Option NameKind}{x:Str}:∀ {binds:List (Str × Value)}{m:Str→Option Value},(∀ v,(x,v)∉binds)→bindC kindOf binds m x=m x
 | [],_,_=>rfl
 | (n,v)::r,m,h=>by
  unfold bindC
  rw [bindC_out fun w hw=>h w (List.mem_cons_of_mem _ hw)]
  split
  · rfl
  · have:x≠n:=by rintro rfl;exact h v List.mem_cons_self
    simp [this]
theorem bindL_get {kindOf:Str→Option NameKind}{x:Str}{v:Value}:∀ {P:List Str}{vs:List Value}{i:Nat}{m:Str→Option Value},P.Nodup→P[i]?=some x→vs[i]?=some v→kindOf x=some .local→
  bindL kindOf (P.zip vs) m x=some v
 | [],_,_,_,_,h,_,_=>by simp at h
 | _::_,[],_,_,_,_,h,_=>by simp at h
 | p::P,w::vs,0,m,nd,h1,h2,hk=>by
  simp at h1 h2;subst h1;subst h2
  show bindL kindOf ((p,w)::P.zip vs) m p=_
  unfold bindL
  rw [bindL_out fun v hv=>(List.nodup_cons.mp nd).1 (List.of_mem_zip hv).1,if_pos hk]
  simp
 | p::P,w::vs,i+1,m,nd,h1,h2,hk=>by
  show bindL kindOf ((p,w)::P.zip vs) m x=_
  unfold bindL
  exact bindL_get (i:=i) (List.nodup_cons.mp nd).2 (by simpa using h1) (by simpa using h2) hk
theorem bindC_get {kindOf:Str→Option NameKind}{x:Str}{v:Value}:∀ {P:List Str}{vs:List Value}{i:Nat}{m:Str→Option Value},P.Nodup→P[i]?=some x→vs[i]?=some v→kindOf x≠some .local→
  bindC kindOf (P.zip vs) m x=some v
 | [],_,_,_,_,h,_,_=>by simp at h
 | _::_,[],_,_,_,_,h,_=>by simp at h
 | p::P,w::vs,0,m,nd,h1,h2,hk=>by
  simp at h1 h2;subst h1;subst h2
  show bindC kindOf ((p,w)::P.zip vs) m p=_
  unfold bindC
  rw [bindC_out fun v hv=>(List.nodup_cons.mp nd).1 (List.of_mem_zip hv).1,if_neg hk]
  simp
 | p::P,w::vs,i+1,m,nd,h1,h2,hk=>by
  show bindC kindOf ((p,w)::P.zip vs) m x=_
  unfold bindC
  exact bindC_get (i:=i) (List.nodup_cons.mp nd).2 (by simpa using h1) (by simpa using h2) hk
def start (N:List Str) (vs:List V):St:=vs.map some++List.replicate (N.length - vs.length) none
def cxOf (CX:CXT) (P:Program) (w:World) (K:PySem.W.Frag) (mg:Str→Option Value) (base:Heap) (N:List Str) (qual:Str) (scope:Scope) (f:Addr) (cd:Value) (A:Around) (outer:List Env) (s:Shared) (H:Hp) (E:XK):Cx where
 prog:=P
 w:=w
 K:=K
 mg:=mg
 base:=base
 A:=A.deeper (envOfC qual scope s.heap.objs.size f cd)
 N:=N
 s₀:=s
 H₀:=H
 env:=envOfC qual scope s.heap.objs.size f cd
 outer:=outer
 stack:=envOfC qual scope s.heap.objs.size f cd::outer
 ex:=[]
 calm:=true
 fn:=fun _=>true
 pn:=[]
 xe:=fun e s'=>wpAny (model P w) (A.deeper (envOfC qual scope s.heap.objs.size f cd)) (leaving (envOfC qual scope s.heap.objs.size f cd) e) (fun _ s''=>CX outer H s E e s'') (fun e' s''=>CX outer H s E e' s'') s'
theorem cell_has {sc:Scope}{n:Nat}{x:Str} (h:sc.names.lookup x=some .cell):∃ c,(cellsFrom n sc.names []).lookup x=some c:=by
 have q:=PySem.W.cellsFrom_some sc.names n [] (.inl h)
 exact Option.isSome_iff_exists.mp q
theorem inv_start {CX:CXT}{P:Program}{w:World}{K:PySem.W.Frag}{mg:Str→Option Value}{base:Heap}{N ps:List Str}{qual:Str}{scope:Scope}{f:Addr}{cd:Value}{A:Around}{outer:List Env}{s s1:Shared}{H:Hp}{E:XK}{us:List Value}{vs:List V}
  (S:FnScope N ps scope) (hd:A.handled=none) (e0:Env0 P w K mg base A outer s H) (hl:vs.length=ps.length) (r:Vals vs us)
  (x:InCallC s s.heap.objs.size (bindL (envOfC qual scope s.heap.objs.size f cd).kindOf (ps.zip us) fun _=>none) (cellsFrom (s.heap.objs.size+1) scope.names []) (bindC (envOfC qual scope s.heap.objs.size f cd).kindOf (ps.zip us) fun _=>none) s1):
  Inv (cxOf CX P w K mg base N qual scope f cd A outer s H E) [] (start N vs) H s1:=by
 have hpl:ps.length≤N.length:=by have:=congrArg List.length S.pre;rw [List.length_take] at this;omega
 obtain ⟨h1,tk,rfl,hk⟩:=x.done
 have noA:∀ b:Addr,b∉(cxOf CX P w K mg base N qual scope f cd A outer s H E).ex:=fun b z=>absurd (show b∈([]:List Addr) from z) (by simp)
 refine ⟨⟨e0.mod,S.kind,rfl,rfl,Nat.le_refl _,fun y z c h1 h2=>?_,fun y hy=>?_,fun y c _ h=>?_,fun _=>hd,Around.frames_deeper e0.frames,.inr ⟨rfl,rfl⟩,fun b z=>absurd z (noA b),e0.bs,e0.bsz,fun b _ _=>noA b,fun b z=>absurd z (noA b),e0.funs,e0.frf⟩,
  rfl,e0.bare,Un.kept hk,⟨_,x.toInCall.ns,fun i y v h1 h2 h3=>?_⟩,fun y c h=>⟨_,x.cell y c h⟩,e0.hok.fresh (Nat.le_refl _),fun y c h=>?_,fun p hp=>absurd (show p∈([]:List (Addr × Obj)) from hp) (by simp),e0.hok.kept hk,?_⟩
 · exact name_of_addr x.apart (PySem.mem_of_lookup h1) (PySem.mem_of_lookup h2)
 · have hy:scope.names.lookup y=some .cell∨scope.names.lookup y=some .free:=hy
   rcases hy with hy | hy
   · exact cell_has hy
   · exact absurd rfl (S.nofree _ (PySem.mem_of_lookup hy))
 · exact Nat.le_of_lt (x.above y c (PySem.mem_of_lookup h))
 · have hi:i < vs.length:=by
     unfold start at h2
     by_cases hi:i < vs.length
     · exact hi
     · rw [List.getElem?_append_right (by simpa using hi)] at h2
       rw [List.getElem?_replicate] at h2
       split at h2 <;> cases h2
   have ha:vs[i]?=some v:=by
    unfold start at h2
    rw [List.getElem?_append_left (by simpa using hi),List.getElem?_map] at h2
    cases e:vs[i]? with
    | none=>rw [e] at h2;cases h2
    | some a=>rw [e] at h2;cases h2;rfl
   obtain ⟨u,hu,rv⟩:=r.get ha
   have hp:ps[i]?=some y:=by
    rw [← S.pre,List.getElem?_take_of_lt (by omega)];exact h1
   have ndP:ps.Nodup:=by rw [← S.pre];exact S.nd.sublist (List.take_sublist _ _)
   refine ⟨u,rv,?_⟩
   rcases S.par y (List.mem_of_getElem? hp) with k | k
   · exact .inl ⟨k,bindL_get ndP hp hu k⟩
   · obtain ⟨c,e⟩:=cell_has (n:=s.heap.objs.size+1) k
     refine .inr ⟨.inl k,c,e,?_⟩
     have q:=x.cell y c e
     rw [bindC_get ndP hp hu (by show scope.names.lookup y≠_;rw [k];decide)] at q
     exact q
 · exact e0.hok.fresh (Nat.le_of_lt (x.above y c (PySem.mem_of_lookup h)))
 · unfold start
   show _=N.length
   rw [List.length_append,List.length_map,List.length_replicate]
   omega
theorem fn_of {CX:CXT}{P:Program}{w:World}{K:PySem.W.Frag}{mg:Str→Option Value}{base:Heap}{k:Nat}{f:Addr}{name qual:Str}{params:Arguments}{body:List Stmt}{scope:Scope}{dV kV doc pm cdv ct oc:Value}{an od:Option Addr}
  {osl:Array (Option Value)}{N ps:List Str}{sp:Sp} (lk:K.lookup f=some ⟨oc,od,.func (PySem.W.fnOf name qual params body scope dV kV doc pm an cdv ct),osl⟩) (hcd:PySem.W.codeIn K cdv qual=true) (S:FnScope N ps scope)
  (len:∀ vs H Q E,sp vs H Q E→vs.length=ps.length)
  (hbody:∀ (A:Around) (outer:List Env) (s:Shared) (H:Hp) (vs:List V) (Q:VK) (E:XK),Room k (A.deeper (envOfC qual scope s.heap.objs.size f cdv))→sp vs H Q E→
   ∃ t,PSs (cxOf CX P w K mg base N qual scope f cdv A outer s H E) body t∧t { nx:=fun _ H'=>Q .non H',rt:=Q } (start N vs) H):
  FnOk P w K mg base CX (k+1) f (PySem.W.fnOf name qual params body scope dV kV doc pm an cdv ct) ps sp:=by
 refine ⟨len,fun A outer s H args us vs Q E hr e0 hb r hsp=>?_⟩
 have hl:=len _ _ _ _ hsp
 have KX:K.In s.heap:=e0.mod.kin.keeps fun b o e=>(e0.bs b o e).1
 have lim:s.heap.NoLimit:=e0.mod.nolimit.keeps fun b o e=>(e0.bs b o e).1
 have hkind:∀ y∈ps.zip us,scope.names.lookup y.1=some .local∨(scope.names.lookup y.1=some .cell∧((cellsFrom (s.heap.objs.size+1) scope.names []).lookup y.1).isSome=true):=fun ⟨n,v⟩ hy=>by
  rcases S.par n (List.of_mem_zip hy).1 with q | q
  · exact .inl q
  · exact .inr ⟨q,PySem.W.cellsFrom_some _ _ _ (.inl q)⟩
 refine codeAny_call_function hr.depth (KX _ _ lk) rfl S.co S.gen rfl (PySem.W.codeRec_of KX hcd) (hb _ _ _ _ ?_)
 refine wpAny_newFunctionEnv_cells S.kind hkind fun env he s1 x=>?_
 subst he
 refine ⟨lim.keeps x.toInCall.keep,codeAny_func ?_⟩
 obtain ⟨t,ht,hq⟩:=hbody A outer s H vs Q E (hr.deeper _) hsp
 have I:Inv (cxOf CX P w K mg base N qual scope f cdv A outer s H E) [] (start N vs) H s1:=inv_start S hr.hd e0 hl r x
 refine wpAny_mono (ht [] s1 (start N vs) H _ I hq) (fun fl s' hs=>?_) fun e s' hs=>hs
 have fin:∀ {σ':St}{H':Hp}{v:V}{u:Value},Inv (cxOf CX P w K mg base N qual scope f cdv A outer s H E) [] σ' H' s'→RelV v u→Q v H'→CE outer P w H s Q u s':=
  fun {σ' H' v u} J rv q=>⟨v,H',J.os,J.bare,J.base,J.hok,rv,q⟩
 cases fl with
 | ret u=>
  obtain ⟨v,σ',H',J,rv,q⟩:=hs
  exact fin J rv q
 | next=>
  obtain ⟨σ',H',J,q⟩:=hs
  exact fin (v:=V.non) (u:=Value.none) J rfl q
 | brk=>
  obtain ⟨_,_,_,q⟩:=hs
  exact False.elim q
 | cont=>
  obtain ⟨_,_,_,q⟩:=hs
  exact False.elim q
section
variable {X:Cx}{x:Str}{p pos:Pos}{e:Expr}{es:List Expr}{t:TA}{id T:String}{r:List V→Hp→VK→Prop}
def tCB (r:List V→Hp→VK→Prop) (t:TA):TE:=fun σ H Q=>t σ H fun vs H1=>r vs H1 Q
theorem pe_callB (hc:CallR X (.builtin id) r) (hg:Gl X x) (hm:X.mg x=none) (hv:bootBuiltins x=some (.builtin id)) (ha:PA X (e::es) t) (hn:x≠"__name__":=by decide) (hdb:(x == ("__debug__":Str))=false:=by decide)
  (he:starEach (e::es) X.env=(false,eval e X.env)::starEach es X.env:=by rfl) (hpl:(backTo pos (starEach es X.env)).any (·.1)=false:=by rfl):PE X (.Call (.Name x p) (e::es) [] pos) (tCB r t):=by
 intro pins s σ H Q I h
 refine wpAny_Call_Name_kw (ld_blt I hg hm hv ?_ hn hdb)
 exact PyProof.Rows.callWith_builtin1 (thn (ha pos pins s σ H _ I h) fun us s1 ⟨vs,H1,I1,r1,q1⟩=>hc pins s1 σ H1 vs us Q I1 r1 q1) he hpl
theorem pe_callTy (hc:CallR X (.type T) r) (hg:Gl X x) (hm:X.mg x=none) (hv:bootBuiltins x=some (.type T)) (ha:PA X (e::es) t) (hn:x≠"__name__":=by decide) (hdb:(x == ("__debug__":Str))=false:=by decide)
  (he:starEach (e::es) X.env=(false,eval e X.env)::starEach es X.env:=by rfl) (hpl:(backTo pos (starEach es X.env)).any (·.1)=false:=by rfl):PE X (.Call (.Name x p) (e::es) [] pos) (tCB r t):=by
 intro pins s σ H Q I h
 refine wpAny_Call_Name_kw (ld_blt I hg hm hv ?_ hn hdb)
 exact PyProof.Rows.callWith_type1 (thn (ha pos pins s σ H _ I h) fun us s1 ⟨vs,H1,I1,r1,q1⟩=>hc pins s1 σ H1 vs us Q I1 r1 q1) he hpl
end
end L2
namespace HT
open PySem PyProof.Rows
section
variable {prog:Program}{w:World}{A:Around}{E:Value→Shared→Prop}{s:Shared}
def sIx (n d:Nat):Option Int→Nat
 | none=>d
 | some v=>if v < 0 then (v+(n:Int)).toNat else min v.toNat n
theorem sIx_none (n d:Nat):sIx n d none=d:=rfl
theorem sIx_nat (n d k:Nat):sIx n d (some (k:Int))=min k n:=by
 show (if (k:Int) < 0 then ((k:Int)+(n:Int)).toNat else min (k:Int).toNat n)=min k n
 rw [if_neg (by omega),Int.toNat_natCast]
end
end HT
namespace L2
open PySem PySem.Spec PyProof.Rows
abbrev TO:=St→Hp→(Option Int→Hp→Prop)→Prop
def PO (X:Cx) (e:Option Expr) (t:TO):Prop:=
 ∀ (pins:List (Addr × Obj)) (s:Shared) (σ:St) (H:Hp) (Q:Option Int→Hp→Prop),Inv X pins σ H s→t σ H Q→
  wpAny (model X.prog X.w) X.A (evalPart e X.env) (fun u s'=>∃ o H',Inv X pins σ H' s'∧IsPart u o∧Q o H') X.xe s
def tNoPart:TO:=fun _ H Q=>Q none H
def tPart (t:TE):TO:=fun σ H Q=>t σ H fun x H1=>∃ i,x=.int i∧Q (some i) H1
theorem intsAre_of {ns:List Int}:∀ {us:List Value},Vals (ns.map V.int) us→IntsAre us ns:=by
 induction ns with
 | nil=>intro us r;rw [List.map_nil] at r;cases r;exact .nil
 | cons n ns ih=>
  intro us r
  rw [List.map_cons] at r
  cases r with
  | cons r1 r2=>
   obtain ⟨t,e⟩:=r1
   subst e
   exact .cons n t (ih r2)
section
variable {X:Cx}{e:Expr}{te:TE}{lo hi:Option Expr}{tl th:TO}{pos p2:Pos}
theorem po_none:PO X none tNoPart:=by
 intro pins s σ H Q I h
 rw [evalPart_none]
 exact wpAny_pure ⟨none,H,I,.none,h⟩
theorem po_some (h:PE X e te):PO X (some e) (tPart te):=by
 intro pins s σ H Q I hw
 rw [evalPart_some]
 refine thn (h pins s σ H _ I hw) fun u s1 ⟨x,H1,I1,r1,q1⟩=>?_
 obtain ⟨i,rfl,q⟩:=q1
 obtain ⟨t,rfl⟩:=r1
 exact ⟨some i,H1,I1,.int i t,q⟩
def SlR (X:Cx) (r:V→Option Int→Option Int→Hp→VK→Prop):Prop:=
 ∀ (pins:List (Addr × Obj)) (s:Shared) (σ:St) (H:Hp) (x:V) (v vl vu:Value) (lo hi:Option Int) (sl:Addr) (Q:VK),Inv X pins σ H s→RelV x v→s.heap.IsSliceOf sl vl vu .none→IsPart vl lo→IsPart vu hi→r x lo hi H Q→
  ∃ T id,typeLookup (.type T) "__getitem__"=pure (some (.builtin id))∧s.TypeIs v T∧wpAny (model X.prog X.w) X.A (getItem v (.ref sl)) (EP X pins σ Q) X.xe s
def tSl (r:V→Option Int→Option Int→Hp→VK→Prop) (te:TE) (tl th:TO):TE:=fun σ H Q=>te σ H fun x H1=>tl σ H1 fun l H2=>th σ H2 fun u H3=>r x l u H3 Q
theorem pe_slice {r:V→Option Int→Option Int→Hp→VK→Prop} (hr:SlR X r) (he:PE X e te) (hl:PO X lo tl) (hu:PO X hi th):PE X (.Subscript e (.Slice lo hi none p2) pos) (tSl r te tl th):=by
 intro pins s σ H Q I h
 refine Subscript_ (thn (he pins s σ H _ I h) fun v s1 ⟨x,H1,I1,r1,q1⟩=>?_)
 refine wpAny_Slice (thn (hl pins s1 σ H1 _ I1 q1) fun vl s2 ⟨l,H2,I2,pl,q2⟩=>thn (hu pins s2 σ H2 _ I2 q2) fun vu s3 ⟨u,H3,I3,pu,q3⟩=>?_)
 rw [evalPart_none]
 refine wpAny_pure ?_
 have I4:Inv X pins σ H3 { s3 with heap:=s3.heap.push { cls:=.type "slice",data:=.fields #[vl,vu,.none] } }:=I3.kept (t':=s3.toks) fun b ob q=>Heap.get?_push_of_some _ q
 obtain ⟨T,id,hT,ht,hg⟩:=hr pins { s3 with heap:=s3.heap.push { cls:=.type "slice",data:=.fields #[vl,vu,.none] } } σ H3 x v vl vu l u s3.heap.objs.size Q I4 r1 (Heap.IsSliceOf.new ..) pl pu q3
 show wpAny (model X.prog X.w) X.A (subscriptTail e (.Slice lo hi none p2) v (.ref s3.heap.objs.size)) (EP X pins σ Q) X.xe { s3 with heap:=s3.heap.push { cls:=.type "slice",data:=.fields #[vl,vu,.none] } }
 exact tail_any (ops:=[.ref s3.heap.objs.size,v]) ht hT hg (by with_unfolding_all rfl)
def cutV (xs:List V) (lo hi:Option Int):List V:=(xs.drop (HT.sIx xs.length 0 lo)).take (HT.sIx xs.length xs.length hi - HT.sIx xs.length 0 lo)
theorem cutV_length (xs:List V) (lo hi:Option Int):(cutV xs lo hi).length≤xs.length:=by
 unfold cutV
 rw [List.length_take,List.length_drop]
 omega
end
def ixN (n:Nat) (i:Int):Option Nat:=if 0≤i then (if i < n then some i.toNat else none) else if -(n:Int)≤i then some (i+n).toNat else none
def atI {α:Type} (xs:List α) (i:Int):Option α:=(ixN xs.length i).bind fun j=>xs[j]?
theorem ixN_seq {n:Nat}{i:Int}{j:Nat} (h:ixN n i=some j):seqIndex? i n=some j∧j < n∧ -(n:Int)≤i∧i < n:=by
 unfold ixN at h
 by_cases h0:0≤i
 · rw [if_pos h0] at h
   by_cases h1:i < n
   · rw [if_pos h1] at h
     have e:i.toNat=j:=Option.some.inj h
     exact ⟨by rw [seqIndex_of h0 h1,e],by omega,by omega,h1⟩
   · rw [if_neg h1] at h;cases h
 · rw [if_neg h0] at h
   by_cases h1: -(n:Int)≤i
   · rw [if_pos h1] at h
     have e:(i+n).toNat=j:=Option.some.inj h
     exact ⟨by rw [seqIndex_neg (by omega) h1,e],by omega,h1,by omega⟩
   · rw [if_neg h1] at h;cases h
theorem atI_get {α:Type}{xs:List α}{i:Int}{v:α} (h:atI xs i=some v):∃ j,seqIndex? i xs.length=some j∧xs[j]?=some v∧j < xs.length∧ -(xs.length:Int)≤i∧i < xs.length:=by
 unfold atI at h
 cases e:ixN xs.length i with
 | none=>rw [e] at h;cases h
 | some j=>
  rw [e] at h
  obtain ⟨h1,h2,h3,h4⟩:=ixN_seq e
  exact ⟨j,h1,h,h2,h3,h4⟩
theorem atI_nat {α:Type}{xs:List α}{j:Nat}{v:α} (h:xs[j]?=some v):atI xs (j:Int)=some v:=by
 have hj:j < xs.length:=(List.getElem?_eq_some_iff.mp h).1
 have e:ixN xs.length (j:Int)=some j:=by
  unfold ixN
  rw [if_pos (by omega),if_pos (by omega)];simp
 unfold atI;rw [e];exact h
theorem atI_last {α:Type} (xs:List α) (v:α):atI (xs++[v]) (-1)=some v:=by
 have hl:(xs++[v]).length=xs.length+1:=by simp
 have e:ixN (xs++[v]).length (-1)=some xs.length:=by
  unfold ixN
  rw [hl,if_neg (by decide),if_pos (by omega)]
  congr 1
  omega
 unfold atI
 rw [e]
 show (xs++[v])[xs.length]?=some v
 simp
def PlainIx (b:Expr):Prop:=∀ o i,subscripted b false o i=operate [o,i] (getItem o i)
def IxR (X:Cx) (r:R2):Prop:=
 ∀ (value slice:Expr) (pins:List (Addr × Obj)) (s:Shared) (σ:St) (H:Hp) (x y:V) (v u:Value) (Q:VK),Inv X pins σ H s→RelV x v→RelV y u→r x y H Q→
  subscripted slice false v u=operate [v,u] (getItem v u)→wpAny (model X.prog X.w) X.A (subscriptTail value slice v u) (EP X pins σ Q) X.xe s
def MtR (X:Cx) (id:String) (r:V→List V→Hp→VK→Prop):Prop:=
 ∀ (pins:List (Addr × Obj)) (s:Shared) (σ:St) (H:Hp) (x:V) (xs:List V) (v:Value) (us:List Value) (Q:VK),Inv X pins σ H s→RelV x v→Vals xs us→r x xs H Q→
  wpAny (model X.prog X.w) X.A (call (.builtin id) (v::us)) (EP X pins σ Q) X.xe s
section
variable {X:Cx}{a b:Expr}{ta tb:TE}{pos:Pos}
theorem pe_ix {r:R2} (hr:IxR X r) (ha:PE X a ta) (hb:PE X b tb) (hs:PlainIx b):PE X (.Subscript a b pos) (tOp r ta tb):=by
 intro pins s σ H Q I h
 exact Subscript_ (binT ha hb I h fun v u s2 x y H2 I2 rx ry q=>hr a b pins s2 σ H2 x y v u Q I2 rx ry q (hs _ _))
def rIxL (K:PySem.W.Frag):R2:=fun x y H Q=>∃ p xs i v,x=.ref p∧y=.int i∧SqL K H p xs∧atI xs i=some v∧Q v H
def rIxT (K:PySem.W.Frag):R2:=fun x y H Q=>∃ p xs i v,x=.ref p∧y=.int i∧SqT K H p xs∧atI xs i=some v∧Q v H
theorem ix_list:IxR X (rIxL X.K):=by
 intro value slice pins s σ H x y v u Q I rx ry h hs
 obtain ⟨p,xs,i,z,rfl,rfl,hq,he,q⟩:=h
 cases rx
 obtain ⟨t,rfl⟩:=ry
 obtain ⟨its,r,pl,hz⟩:=I.list hq
 obtain ⟨j,h1,h2,h3,h4,h5⟩:=atI_get he
 obtain ⟨w,ew,rw'⟩:=r.get h2
 have hl:=r.length
 have hn:=line63
 have fin:EP X pins σ Q w s:=⟨z,H,I,rw',q⟩
 by_cases h0:0≤i
 · have hj:i.toNat=j:=by
     rw [seqIndex_of h0 h5] at h1
     exact Option.some.inj h1
   exact item_listR pl.isList h0 (by omega) (by rw [hj];simpa using ew) fin hs
 · have hj:(i+(its.toArray.size:Int)).toNat=j:=by
     rw [seqIndex_neg (by omega) h4] at h1
     rw [List.size_toArray, ← hl]
     exact Option.some.inj h1
   exact subscriptTail_builtinR (x:=w) pl.isList.typeIs slot_list_getitem.lookup
    (wpAny_getItem_list_neg (Q:=fun r s'=>r=w∧EP X pins σ Q r s') pl.isList (by omega) (by rw [List.size_toArray] <;> omega) (by omega) (by rw [hj];simpa using ew) ⟨rfl,fin⟩) hs
theorem ix_tup:IxR X (rIxT X.K):=by
 intro value slice pins s σ H x y v u Q I rx ry h hs
 obtain ⟨p,xs,i,z,rfl,rfl,hq,he,q⟩:=h
 cases rx
 obtain ⟨t,rfl⟩:=ry
 obtain ⟨its,r,pl,hz⟩:=I.tuple hq
 obtain ⟨j,h1,h2,h3,h4,h5⟩:=atI_get he
 obtain ⟨w,ew,rw'⟩:=r.get h2
 have hl:=r.length
 have hn:=line63
 have fin:EP X pins σ Q w s:=⟨z,H,I,rw',q⟩
 exact subscriptTail_builtinR (x:=w) pl.typeIs slot_tuple_getitem.lookup
  (getItem_tuple (j:=j) (Q:=fun r s'=>r=w∧EP X pins σ Q r s') pl (by omega) (by omega) (by rw [List.size_toArray, ← hl];exact h1) (by simpa using ew) ⟨rfl,fin⟩) hs
theorem mapSeq_set (its:List Value) (n j:Nat) (u:Value):Obj.mapSeq (·.setIfInBounds j u) { cls:=.type "list",data:=.seq its.toArray n }={ cls:=.type "list",data:=.seq (its.set j u).toArray n }:=by
 simp [Obj.mapSeq]
theorem Inv.lst {pins:List (Addr × Obj)}{σ:St}{H:Hp}{s:Shared}{p:Addr}{xs:List V} (I:Inv X pins σ H s) (h:H p=some (.lst xs)):
  ∃ (its:List Value) (n:Nat),Vals xs its∧s.heap.get? p=some { cls:=.type "list",data:=.seq its.toArray n }∧xs.length≤sizeLine:=by
 obtain ⟨z,its,n,r,e⟩:=I.hok p _ h
 exact ⟨its,n,r,e,z⟩
theorem Inv.lstUpd {pins:List (Addr × Obj)}{σ:St}{H:Hp}{s:Shared}{p:Addr}{xs ys:List V}{its its':List Value}{n n':Nat}{f:Obj→Obj} (I:Inv X pins σ H s) (h:H p=some (.lst xs))
  (ho:s.heap.get? p=some { cls:=.type "list",data:=.seq its.toArray n }) (hf:f { cls:=.type "list",data:=.seq its.toArray n }={ cls:=.type "list",data:=.seq its'.toArray n' }) (r:Vals ys its') (hz:ys.length≤sizeLine) (t:Nat):
  Inv X pins σ (upd H p (.lst ys)) { s with heap:=s.heap.update p f,toks:=t }:=by
 have e:(s.heap.update p f).get? p=some { cls:=.type "list",data:=.seq its'.toArray n' }:=by
  rw [Heap.get?_update_self f ho (by rw [hf] <;> rfl),hf]
 refine I.write (x:=p) (e:=p) (by rw [h];trivial) (.inl rfl) (fun b u hb q=>(Heap.get?_update_other _ _ (Ne.symm hb)).trans q) ⟨_,e⟩ ?_
 exact ⟨hz,its',n',r,e⟩
def rSetL:V→V→V→Hp→(Hp→Prop)→Prop:=fun o i v H Q=>∃ p xs k j,o=.ref p∧i=.int k∧H p=some (.lst xs)∧ixN xs.length k=some j∧Q (upd H p (.lst (xs.set j v)))
theorem set_list:PSet X rSetL:=by
 intro pins s σ H o i v ov iv u Q I ro ri rv h
 obtain ⟨p,xs,k,j,rfl,rfl,hp,hj,q⟩:=h
 cases ro
 obtain ⟨t,rfl⟩:=ri
 obtain ⟨its,n,r,ho,hz⟩:=I.lst hp
 obtain ⟨h1,h2,h3,h4⟩:=ixN_seq hj
 have hl:=r.length
 have hn:=line63
 have I':Inv X pins σ (upd H p (.lst (xs.set j v))) { s with heap:=s.heap.update p (Obj.mapSeq (·.setIfInBounds j u)) }:=
  I.lstUpd hp ho (mapSeq_set its n j u) (r.set rv j) (by rw [List.length_set];exact hz) s.toks
 by_cases h0:0≤k
 · have hk:k.toNat=j:=by
     rw [seqIndex_of h0 h4] at h1
     exact Option.some.inj h1
   exact PySem.W.ki_setAt ho h0 (by omega) (by rw [List.size_toArray, ← hl];exact h4) (by rw [hk];exact ⟨_,I',q⟩)
 · have hk:(k+(its.toArray.size:Int)).toNat=j:=by
     rw [seqIndex_neg (by omega) h3] at h1
     rw [List.size_toArray, ← hl]
     exact Option.some.inj h1
   exact PySem.W.ki_setBack ho (by omega) (by rw [List.size_toArray, ← hl];exact h3) (by omega) (by rw [hk];exact ⟨_,I',q⟩)
theorem slice_bounds (lo hi:Option Int) (n:Nat):(sliceBounds lo hi none n).1=((HT.sIx n 0 lo:Nat):Int)∧(sliceBounds lo hi none n).2.1=((HT.sIx n n hi:Nat):Int)∧(sliceBounds lo hi none n).2.2=1:=by
 refine ⟨?_,?_,rfl⟩
 · cases lo with
   | none=>simp [sliceBounds,HT.sIx]
   | some i=>
    simp only [sliceBounds,HT.sIx,Option.getD_none,show (1:Int) > 0 by decide,if_true]
    by_cases h:i < 0
    · simp only [h,if_true] <;> omega
    · simp only [h,if_false] <;> omega
 · cases hi with
   | none=>simp [sliceBounds,HT.sIx]
   | some i=>
    simp only [sliceBounds,HT.sIx,Option.getD_none,show (1:Int) > 0 by decide,if_true]
    by_cases h:i < 0
    · simp only [h,if_true] <;> omega
    · simp only [h,if_false] <;> omega
theorem slicePick_cut (its:List Value) (lo hi:Option Int):slicePick its.toArray lo hi none=((its.drop (HT.sIx its.length 0 lo)).take (HT.sIx its.length its.length hi - HT.sIx its.length 0 lo)).toArray:=by
 obtain ⟨h1,h2,h3⟩:=slice_bounds lo hi its.toArray.size
 unfold slicePick
 rw [h1,h2,h3]
 simp only [sliceRange_one,pick_run,List.size_toArray] <;> rfl
def rSlL (K:PySem.W.Frag):V→Option Int→Option Int→Hp→VK→Prop:=fun x lo hi H Q=>∃ a xs,x=.ref a∧SqL K H a xs∧∀ p,H p=none→Q (.ref p) (upd H p (.lst (cutV xs lo hi)))
theorem sl_list:SlR X (rSlL X.K):=by
 intro pins s σ H x v vl vu lo hi sl Q I rx hs pl pu h
 obtain ⟨a,xs,rfl,hx,q⟩:=h
 cases rx
 obtain ⟨its,r,ht,hz⟩:=I.list hx
 have hlen:=r.length
 refine ⟨"list",_,slot_list_getitem.lookup,ht.isList.typeIs,?_⟩
 refine wpAny_getItem_list_slice ht.isList hs pl pu .none (by simp) ?_ (by rw [List.size_toArray] <;> omega)
 rw [slicePick_cut, ← hlen]
 refine ⟨.ref s.heap.objs.size,_,I.laid (t':=s.toks) (o:=.lst (cutV xs lo hi)) (fun b ob q=>Heap.get?_push_of_some _ q) (Nat.le_refl _) ?_,rfl,q _ (I.hok.fresh (Nat.le_refl _))⟩
 exact ⟨Nat.le_trans (cutV_length xs lo hi) hz,_,0,(r.drop (HT.sIx xs.length 0 lo)).take (HT.sIx xs.length xs.length hi - HT.sIx xs.length 0 lo),Heap.get?_push_size _ rfl⟩
def flatV:V→Bool
 | .non=>true
 | .bl _=>true
 | .int _=>true
 | .str _=>true
 | _=>false
def eqV:V→V→Bool
 | .non,.non=>true
 | .bl a,.bl b=>a == b
 | .bl a,.int b=>(if a then 1 else 0) == b
 | .int a,.bl b=>a == (if b then 1 else 0)
 | .int a,.int b=>a == b
 | .str a,.str b=>a == b
 | _,_=>false
theorem eqAt_V {A:Around}{s:Shared}{y x:V}{u v:Value} (ry:RelV y u) (rx:RelV x v) (fy:flatV y=true) (fx:flatV x=true):SeqAt.EqAt A s u v (eqV y x):=by
 cases y with
 | non=>
  cases ry
  cases x with
  | non=>cases rx;exact SeqAt.EqAt.same _
  | bl b=>cases rx;exact SeqAt.EqAt.none_bool b
  | int b=>obtain ⟨t,rfl⟩:=rx;exact SeqAt.EqAt.none_int b t
  | str b=>obtain ⟨t,rfl⟩:=rx;exact SeqAt.EqAt.none_str b t
  | _=>exact absurd (show false=true from fx) Bool.false_ne_true
 | bl a=>
  cases ry
  cases x with
  | non=>cases rx;exact SeqAt.EqAt.bool_none a
  | bl b=>cases rx;exact SeqAt.EqAt.bool_bool a b
  | int b=>obtain ⟨t,rfl⟩:=rx;exact SeqAt.EqAt.bool_int a b t
  | str b=>obtain ⟨t,rfl⟩:=rx;exact SeqAt.EqAt.bool_str a b t
  | _=>exact absurd (show false=true from fx) Bool.false_ne_true
 | int a=>
  obtain ⟨t',rfl⟩:=ry
  cases x with
  | non=>cases rx;exact SeqAt.EqAt.int_none a t'
  | bl b=>cases rx;exact SeqAt.EqAt.int_bool a t' b
  | int b=>obtain ⟨t,rfl⟩:=rx;exact SeqAt.EqAt.int_int a t' b t
  | str b=>obtain ⟨t,rfl⟩:=rx;exact SeqAt.EqAt.int_str a t' b t
  | _=>exact absurd (show false=true from fx) Bool.false_ne_true
 | str a=>
  obtain ⟨t',rfl⟩:=ry
  cases x with
  | non=>cases rx;exact SeqAt.EqAt.str_none a t'
  | bl b=>cases rx;exact SeqAt.EqAt.str_bool a t' b
  | int b=>obtain ⟨t,rfl⟩:=rx;exact SeqAt.EqAt.str_int a t' b t
  | str b=>obtain ⟨t,rfl⟩:=rx;exact SeqAt.EqAt.str_str a t' b t
  | _=>exact absurd (show false=true from fx) Bool.false_ne_true
 | _=>exact absurd (show false=true from fy) Bool.false_ne_true
def eqU (x:V) (u:Value):Bool:=match u with
 | .none=>eqV .non x
 | .bool b=>eqV (.bl b) x
 | .int i _=>eqV (.int i) x
 | .str z _=>eqV (.str z) x
 | _=>false
theorem eqU_of {x y:V}{u:Value} (r:RelV y u) (f:flatV y=true):eqU x u=eqV y x:=by
 cases y with
 | non=>cases r;rfl
 | bl b=>cases r;rfl
 | int i=>obtain ⟨t,rfl⟩:=r;rfl
 | str z=>obtain ⟨t,rfl⟩:=r;rfl
 | _=>exact absurd (show false=true from f) Bool.false_ne_true
theorem any_eqU {x:V}:∀ {xs:List V}{us:List Value},Vals xs us→xs.all flatV=true→us.any (eqU x)=xs.any fun y=>eqV y x
 | _,_,.nil,_=>rfl
 | y::xs,u::us,.cons r t,f=>by
  rw [List.all_cons,Bool.and_eq_true] at f
  rw [List.any_cons,List.any_cons,eqU_of r f.1,any_eqU t f.2]
theorem mem_eqAt {A:Around}{s:Shared}{x:V}{v:Value} (rx:RelV x v) (fx:flatV x=true):∀ {xs:List V}{us:List Value},Vals xs us→xs.all flatV=true→∀ u∈us,SeqAt.EqAt A s u v (eqU x u)
 | _,_,.nil,_=>fun u hu=>by cases hu
 | y::xs,u::us,.cons r t,f=>fun u' hu=>by
  rw [List.all_cons,Bool.and_eq_true] at f
  rcases List.mem_cons.mp hu with rfl | hu
  · rw [eqU_of r f.1];exact eqAt_V r rx f.1 fx
  · exact mem_eqAt rx fx t f.2 u' hu
def inV (x:V) (xs:List V):Bool:=xs.any fun y=>eqV y x
def rIn (K:PySem.W.Frag) (neg:Bool):R2:=fun x y H Q=>∃ p xs,y=.ref p∧(SqL K H p xs∨SqT K H p xs)∧flatV x=true∧xs.all flatV=true∧Q (.bl (if neg then !inV x xs else inV x xs)) H
theorem op_in_seq:OpR X (compareOp .In) (rIn X.K false):=by
 intro pins s σ H x y v u Q I rx ry h
 obtain ⟨p,xs,rfl,hq,fx,fs,q⟩:=h
 cases ry
 rcases hq with hq | hq
 · obtain ⟨its,r,pl,hz⟩:=I.list hq
   refine SeqAt.in_listAt (eqU x) pl.isList (fun w hw=>mem_eqAt rx fx r fs w (by simpa using hw)) ⟨.bl _,H,I,rfl,?_⟩
   rw [show its.toArray.any (eqU x)=its.any (eqU x) by simp,any_eqU r fs]
   exact q
 · obtain ⟨its,r,pl,hz⟩:=I.tuple hq
   refine SeqAt.in_tupleAt (eqU x) pl (fun w hw=>mem_eqAt rx fx r fs w (by simpa using hw)) ⟨.bl _,H,I,rfl,?_⟩
   rw [show its.toArray.any (eqU x)=its.any (eqU x) by simp,any_eqU r fs]
   exact q
theorem call_len_seq:CallR X (.builtin "len") (fun xs H Q=>∃ p ys,xs=[.ref p]∧(SqL X.K H p ys∨SqT X.K H p ys)∧Q (.int ys.length) H):=by
 intro pins s σ H xs us Q I r h
 obtain ⟨p,ys,rfl,hq,q⟩:=h
 obtain ⟨u,rfl,rx⟩:=vals1 r
 cases rx
 have hn:=line63
 rcases hq with hq | hq
 · obtain ⟨its,r',pl,hz⟩:=I.list hq
   have hlen:=r'.length
   exact Calls.call_len_list pl.isList (by simp only [List.size_toArray] <;> omega) ⟨.int ys.length,H,I.tok _,⟨s.toks+1,by rw [List.size_toArray,hlen]⟩,q⟩
 · obtain ⟨its,r',pl,hz⟩:=I.tuple hq
   have hlen:=r'.length
   exact len_tuple pl (by simp only [List.size_toArray] <;> omega) ⟨.int ys.length,H,I.tok _,⟨s.toks+1,by rw [List.size_toArray,hlen]⟩,q⟩
theorem call_list_of:CallR X (.type "list") (fun xs H Q=>∃ p ys,xs=[.ref p]∧(SqL X.K H p ys∨SqT X.K H p ys)∧∀ l,H l=none→Q (.ref l) (upd H l (.lst ys))):=by
 intro pins s σ H xs us Q I r h
 obtain ⟨p,ys,rfl,hq,q⟩:=h
 obtain ⟨u,rfl,rx⟩:=vals1 r
 cases rx
 have fin:∀ (its:List Value),Vals ys its→ys.length≤sizeLine→∀ (h':Heap) (c':Nat),(∀ b o',s.heap.get? b=some o'→h'.get? b=some o')→
   h'.get? s.heap.objs.size=some { cls:=.type "list",dict:=none,data:=.seq its.toArray c',slots:= #[] }→EP X pins σ Q (.ref s.heap.objs.size) { s with heap:=h' }:=fun its r' hz h' c' kp e=>
  ⟨.ref s.heap.objs.size,_,I.laid (t':=s.toks) kp (Nat.le_refl _) (show ObjOk X.prog X.w _ h' _ (.lst ys) from ⟨hz,its,c',r',e⟩),rfl,q _ (I.hok.fresh (Nat.le_refl _))⟩
 rcases hq with hq | hq
 · obtain ⟨its,r',pl,hz⟩:=I.list hq
   have hlen:=r'.length
   obtain ⟨o,ho,hc,n,hd⟩:=pl.isList
   exact call_list_seq p (.inl rfl) ho hc hd (fun h' c' kp e=>fin its r' hz h' c' kp e) (by simp only [List.size_toArray] <;> omega)
 · obtain ⟨its,r',pl,hz⟩:=I.tuple hq
   have hlen:=r'.length
   obtain ⟨o,ho,hc,n,hd⟩:=pl
   exact call_list_seq p (.inr rfl) ho hc hd (fun h' c' kp e=>fin its r' hz h' c' kp e) (by simp only [List.size_toArray] <;> omega)
def tyV (K:PySem.W.Frag) (T:String) (x:V) (H:Hp):Prop:=match x with
 | .str _=>T="str"
 | .int _=>T="int"
 | .ref p=>(T="list"∧∃ xs,SqL K H p xs)∨(T="tuple"∧∃ o,K.lookup p=some o∧o.cls=.type "tuple"∧o.dict=none)∨
   (T="dict"∧((∃ kvs,H p=some (.dK kvs))∨∃ kvs,H p=some (.dT kvs)))∨(T="set"∧∃ S n,H p=some (.set S n))
 | _=>False
theorem tyV_is {pins:List (Addr × Obj)}{σ:St}{H:Hp}{s:Shared}{T:String}{x:V}{v:Value} (I:Inv X pins σ H s) (r:RelV x v) (ty:tyV X.K T x H):
  s.TypeIs v T∧∀ a,v=.ref a→∃ ob,s.heap.get? a=some ob∧ob.dict=none:=by
 cases x with
 | str z=>
  obtain ⟨t,rfl⟩:=r
  cases (show T="str" from ty)
  exact ⟨typeIs_str s z t,fun _ e=>nomatch e⟩
 | int i=>
  obtain ⟨t,rfl⟩:=r
  cases (show T="int" from ty)
  exact ⟨typeIs_int s i t,fun _ e=>nomatch e⟩
 | ref p=>
  cases r
  rcases ty with ⟨rfl,xs,hq⟩ | ⟨rfl,o,hk,hc,hd⟩ | ⟨rfl,hk⟩ | ⟨rfl,S,n,hk⟩
  · obtain ⟨its,_,pl,_⟩:=I.list hq
    refine ⟨pl.isList.typeIs,fun a e=>?_⟩
    cases e
    obtain ⟨o,n,e,c,hd,_⟩:=pl
    exact ⟨o,e,hd⟩
  · refine ⟨⟨o,I.kIn p o hk,hc⟩,fun a e=>?_⟩
    cases e
    exact ⟨o,I.kIn _ o hk,hd⟩
  · have z:∃ o,s.heap.get? p=some o∧o.ExactDict:=by
      rcases hk with ⟨kvs,hk⟩ | ⟨kvs,hk⟩
      · obtain ⟨_,_,_,_,o,_,_,e,ex,_⟩:=I.hok p _ hk
        exact ⟨o,e,ex⟩
      · obtain ⟨_,_,_,_,o,_,_,e,ex,_⟩:=I.hok p _ hk
        exact ⟨o,e,ex⟩
    obtain ⟨o,e,ex⟩:=z
    refine ⟨⟨o,e,ex.1⟩,fun a e2=>?_⟩
    cases e2
    exact ⟨o,e,ex.2.1⟩
  · obtain ⟨o,_,_,_,e,ex,_⟩:=I.hok p _ hk
    refine ⟨⟨o,e,ex.1⟩,fun a e2=>?_⟩
    cases e2
    exact ⟨o,e,ex.2.1⟩
 | _=>exact False.elim ty
def tBM0 (K:PySem.W.Frag) (T:String) (r:V→List V→Hp→VK→Prop) (to:TE):TE:=fun σ H Q=>to σ H fun x H1=>tyV K T x H1∧r x [] H1 Q
def tBM (K:PySem.W.Frag) (T:String) (r:V→List V→Hp→VK→Prop) (to:TE) (t:TA):TE:=fun σ H Q=>to σ H fun x H1=>tyV K T x H1∧t σ H1 fun xs H2=>r x xs H2 Q
variable {o e:Expr}{es:List Expr}{to:TE}{t:TA}{name:Str}{apos cpos:Pos}{T id:String}{r:V→List V→Hp→VK→Prop}
theorem pe_bm0 (pa:PlainAttrs T) (slot:Slot T name id) (hty:typeOf (.builtin id)=pure (.type "method_descriptor")) (hm:MtR X id r) (ho:PE X o to)
  (hbase:attributeBase o name X.env (eval o X.env)=eval o X.env:=by rfl) (hline:(apos.endLine == cpos.line)=true:=by rfl):PE X (.Call (.Attribute o name apos) [] [] cpos) (tBM0 X.K T r to):=by
 intro pins s σ H Q I h
 refine wpAny_Call_method0_late hbase hline (thn (ho pins s σ H _ I h) fun v s1 ⟨x,H1,I1,r1,ty,q1⟩=>?_)
 obtain ⟨h1,h2⟩:=tyV_is I1 r1 ty
 exact ⟨T,id,pa,slot,hty,h1,h2,Calls.callWith_builtin rfl (PySem.evalArgs_none (hm pins s1 σ H1 x [] v [] Q I1 r1 .nil q1))⟩
theorem pe_bm (pa:PlainAttrs T) (slot:Slot T name id) (hty:typeOf (.builtin id)=pure (.type "method_descriptor")) (hm:MtR X id r) (ho:PE X o to) (ha:PA X (e::es) t)
  (hbase:attributeBase o name X.env (eval o X.env)=eval o X.env:=by rfl)
  (hfew:((backTo cpos (starEach (e::es) X.env)).all (fun x=> !x.1) && (backToKw cpos (keywordEach [] X.env)).all (fun x=>x.1.isSome)
   && decide ((e::es).length+([]:List Keyword).length+(if ([]:List Keyword).isEmpty then 0 else 1) < 30))=true:=by rfl)
  (hline:(apos.endLine == cpos.line)=true:=by rfl) (hs:starEach (e::es) X.env=(false,eval e X.env)::starEach es X.env:=by rfl) (hplain:(backTo cpos (starEach es X.env)).any (·.1)=false:=by rfl):
  PE X (.Call (.Attribute o name apos) (e::es) [] cpos) (tBM X.K T r to t):=by
 intro pins s σ H Q I h
 refine wpAny_Call_method_late hbase hfew hline rfl (thn (ho pins s σ H _ I h) fun v s1 ⟨x,H1,I1,r1,ty,q1⟩=>?_)
 obtain ⟨h1,h2⟩:=tyV_is I1 r1 ty
 refine ⟨T,id,pa,slot,hty,h1,h2,?_⟩
 have hA:=ha cpos pins s1 σ H1 _ I1 q1
 rw [hs] at hA ⊢
 refine Calls.callWith_builtin (by show (false || (backTo cpos (starEach es X.env)).any (·.1))=false;rw [hplain] <;> rfl) (Calls.evalArgs_plain ?_)
 exact thn hA fun us s2 ⟨vs,H2,I2,r2,q2⟩=>hm pins s2 σ H2 x vs v us Q I2 r1 r2 q2
end
def MtM (X:Cx) (id:String) (r:V→List V→Hp→VK→Prop):Prop:=
 ∀ (pins:List (Addr × Obj)) (s:Shared) (σ:St) (H:Hp) (x:V) (xs:List V) (v:Value) (us:List Value) (Q:VK),Inv X pins σ H s→RelV x v→Vals xs us→r x xs H Q→
  wpAny (model X.prog X.w) X.A (call (.builtin id) (v::us)) (EP X pins σ Q) X.xe s
theorem Vals.one:∀ {x:V}{us:List Value},Vals [x] us→∃ u,us=[u]∧RelV x u
 | _,_,.cons r .nil=>⟨_,rfl,r⟩
theorem Vals.zero:∀ {us:List Value},Vals [] us→us=[]
 | _,.nil=>rfl
theorem Vals.dropLast {xs:List V}{us:List Value} (h:Vals xs us):Vals xs.dropLast us.dropLast:=by
 induction h with
 | nil=>exact .nil
 | cons r t ih=>
  cases t with
  | nil=>exact .nil
  | cons q t'=>exact .cons r ih
theorem Vals.eraseIdx:∀ {xs:List V}{us:List Value} (i:Nat),Vals xs us→Vals (xs.eraseIdx i) (us.eraseIdx i)
 | _,_,_,.nil=>.nil
 | _,_,0,.cons _ t=>t
 | _,_,i+1,.cons r t=>.cons r (Vals.eraseIdx i t)
theorem Vals.rep {xs:List V}{us:List Value} (h:Vals xs us):∀ k:Nat,Vals (List.replicate k xs).flatten (List.replicate k us).flatten
 | 0=>.nil
 | k+1=>by
  rw [List.replicate_succ,List.replicate_succ,List.flatten_cons,List.flatten_cons]
  exact Vals.append h (Vals.rep h k)
theorem erase_last {α:Type} (l:List α):l.eraseIdx (l.length - 1)=l.dropLast:=by
 induction l with
 | nil=>rfl
 | cons a r ih=>
  cases r with
  | nil=>rfl
  | cons b r=>
   have e:(a::b::r).length - 1=((b::r).length - 1)+1:=by
    have h1:(a::b::r).length=r.length+2:=rfl
    have h2:(b::r).length=r.length+1:=rfl
    omega
   rw [e,List.eraseIdx_cons_succ,ih]
   all_goals rfl
theorem len_erase {α:Type}:∀ (l:List α) (i:Nat),(l.eraseIdx i).length≤l.length
 | [],_=>Nat.le_refl _
 | _::_,0=>Nat.le_succ _
 | _::r,i+1=>Nat.succ_le_succ (len_erase r i)
theorem foldl_rep (its:List Value):∀ (k:Nat) (acc:List Value),
  List.foldl (fun x1 x2=>x1++x2) acc.toArray (List.replicate k its.toArray)=(acc++(List.replicate k its).flatten).toArray
 | 0,acc=>by simp
 | k+1,acc=>by
  have e:acc.toArray++its.toArray=(acc++its).toArray:=by simp
  have e2:(acc++its)++(List.replicate k its).flatten=acc++(List.replicate (k+1) its).flatten:=by
   rw [List.replicate_succ,List.flatten_cons,List.append_assoc]
  rw [← e2, ← foldl_rep its k (acc++its), ← e,List.replicate_succ,List.foldl_cons]
section
variable {X:Cx}{pins:List (Addr × Obj)}{σ:St}{H:Hp}{s:Shared}{l b:Addr}{xs ys zs:List V}
theorem Inv.lset {its its':List Value}{n:Nat}{f:Array Value→Array Value}{t':Nat} (I:Inv X pins σ H s) (hH:H l=some (.lst xs))
  (e:s.heap.get? l=some { cls:=.type "list",data:=.seq its.toArray n }) (hf:f its.toArray=its'.toArray) (hv:Vals ys its') (hz:ys.length≤sizeLine):
  Inv X pins σ (upd H l (.lst ys)) { s with heap:=s.heap.update l (Obj.mapSeq f),toks:=t' }:=by
 have q:=PySem.IsL.update e f
 rw [hf] at q
 refine I.write (x:=l) (e:=l) (by rw [hH];exact trivial) (.inl rfl) (fun b' u hb hu=>(Heap.get?_update_other s.heap (Obj.mapSeq f) (Ne.symm hb)).trans hu) ⟨_,q⟩ ?_
 exact ⟨hz,its',_,hv,q⟩
theorem Inv.lnew {its:List Value}{t':Nat} (I:Inv X pins σ H s) (hv:Vals ys its) (hz:ys.length≤sizeLine):
  Inv X pins σ (upd H s.heap.objs.size (.lst ys)) { s with heap:=s.heap.push { cls:=.type "list",data:=.seq its.toArray },toks:=t' }:=
 I.laid (fun _ _ q=>Heap.get?_push_of_some _ q) (Nat.le_refl _) ⟨hz,its,0,hv,Heap.get?_push_size _ rfl⟩
theorem Inv.fresh (I:Inv X pins σ H s):H s.heap.objs.size=none:=I.hok.fresh (Nat.le_refl _)
theorem Inv.lstM (I:Inv X pins σ H s) (hH:H l=some (.lst xs)):xs.length≤sizeLine∧∃ (its:List Value) (n:Nat),Vals xs its∧xs.length=its.length∧s.heap.get? l=some { cls:=.type "list",data:=.seq its.toArray n }:=by
 obtain ⟨z,its,n,r,e⟩:=I.hok l _ hH
 exact ⟨z,its,n,r,r.length,e⟩
theorem notLongL {n:Nat} (h:n≤sizeLine):Builtin.List.listTooLong n=false:=by
 unfold Builtin.List.listTooLong
 exact decide_eq_false (by omega)
end
section
variable {X:Cx}
def rAppend:V→List V→Hp→VK→Prop:=fun x vs H Q=>∃ l xs y,x=.ref l∧vs=[y]∧H l=some (.lst xs)∧xs.length < sizeLine∧Q .non (upd H l (.lst (xs++[y])))
theorem mt_append:MtM X "list.append" rAppend:=by
 intro pins s σ H x vs v us Q I rx rv h
 obtain ⟨l,xs,y,rfl,rfl,hH,hz,q⟩:=h
 cases rx
 obtain ⟨u,rfl,ru⟩:=rv.one
 obtain ⟨z,its,n,r,hl,e⟩:=I.lstM hH
 refine call_meets F.slot_list_append ⟨_,e,rfl⟩ F.entry_list_append (F.args_list_append_2 _ _) (PySem.list_append l its.toArray n u (by rw [List.size_toArray];omega)) ⟨e,?_⟩
 refine ⟨.non,_,I.lset (its':=its++[u]) hH e (by simp) (r.append (.cons ru .nil)) ?_,rfl,q⟩
 rw [List.length_append,List.length_singleton]
 omega
def rPop:V→List V→Hp→VK→Prop:=fun x vs H Q=>∃ l xs y,x=.ref l∧vs=[]∧H l=some (.lst xs)∧xs[xs.length - 1]?=some y∧Q y (upd H l (.lst xs.dropLast))
theorem mt_pop:MtM X "list.pop" rPop:=by
 intro pins s σ H x vs v us Q I rx rv h
 obtain ⟨l,xs,y,rfl,rfl,hH,hy,q⟩:=h
 cases rx
 have hus:=rv.zero
 subst hus
 obtain ⟨z,its,n,r,hl,e⟩:=I.lstM hH
 obtain ⟨u,hu,ru⟩:=r.get hy
 have hy':its.toArray[its.toArray.size - 1]?=some u:=by
  show its.toArray[its.length - 1]?=some u
  rw [← Array.getElem?_toList, ← hl]
  exact hu
 refine call_meets F.slot_list_pop ⟨_,e,rfl⟩ F.entry_list_pop (F.args_list_pop_1 _) (MeetsSeq.list_pop_last l its.toArray n u hy' (by rw [List.size_toArray];omega)) ⟨e,?_⟩
 refine ⟨y,_,I.lset (its':=its.dropLast) hH e ?_ r.dropLast ?_,ru,q⟩
 · show its.toArray.eraseIdxIfInBounds (its.toArray.size - 1)=its.dropLast.toArray
   rw [List.size_toArray,List.eraseIdxIfInBounds_toArray,erase_last]
 · rw [List.length_dropLast]
   omega
def rPopAt:V→List V→Hp→VK→Prop:=fun x vs H Q=>∃ l xs i k y,x=.ref l∧vs=[.int i]∧H l=some (.lst xs)∧ -(2 ^ 63)≤i∧i < 2 ^ 63∧seqIndex? i xs.length=some k∧xs[k]?=some y∧Q y (upd H l (.lst (xs.eraseIdx k)))
theorem mt_popAt:MtM X "list.pop" rPopAt:=by
 intro pins s σ H x vs v us Q I rx rv h
 obtain ⟨l,xs,i,k,y,rfl,rfl,hH,h1,h2,hk,hy,q⟩:=h
 cases rx
 obtain ⟨u,rfl,ru⟩:=rv.one
 obtain ⟨t,rfl⟩:=ru
 obtain ⟨z,its,n,r,hl,e⟩:=I.lstM hH
 obtain ⟨w,hw,rw'⟩:=r.get hy
 refine call_meets F.slot_list_pop ⟨_,e,rfl⟩ F.entry_list_pop (F.args_list_pop_2 _ _)
  (MeetsSeq.list_pop_at l its.toArray n i t k w (fitsIndex_both h1 h2) (by rw [List.size_toArray, ← hl];exact hk) (by rw [← Array.getElem?_toList];exact hw) (by rw [List.size_toArray];omega)) ⟨e,?_⟩
 refine ⟨y,_,I.lset (its':=its.eraseIdx k) hH e ?_ (r.eraseIdx k) ?_,rw',q⟩
 · show its.toArray.eraseIdxIfInBounds k=(its.eraseIdx k).toArray
   rw [List.eraseIdxIfInBounds_toArray]
 · have:=len_erase xs k
   omega
def rCat:R2:=fun x y H Q=>∃ l b xs zs,x=.ref l∧y=.ref b∧H l=some (.lst xs)∧H b=some (.lst zs)∧xs.length+zs.length≤sizeLine∧∀ p,H p=none→Q (.ref p) (upd H p (.lst (xs++zs)))
theorem op_cat:OpR X (binaryOp .Add) rCat:=by
 intro pins s σ H x y v u Q I rx ry h
 obtain ⟨l,b,xs,zs,rfl,rfl,hH,hB,hz,q⟩:=h
 cases rx
 cases ry
 obtain ⟨z,its,n,r,hl,e⟩:=I.lstM hH
 obtain ⟨z2,its2,n2,r2,hl2,e2⟩:=I.lstM hB
 refine PySem.P.add_list e e2 ?_ (by rw [List.size_toArray,List.size_toArray];omega)
 have ea:its.toArray++its2.toArray=(its++its2).toArray:=by simp
 rw [ea]
 exact ⟨.ref _,_,I.lnew (t':=s.toks) (r.append r2) (by rw [List.length_append];omega),rfl,q _ I.fresh⟩
def rRep:R2:=fun x y H Q=>∃ l k xs,x=.ref l∧y=.int k∧H l=some (.lst xs)∧ -(2 ^ 63)≤k∧k < 2 ^ 63∧xs.length * k.toNat≤sizeLine∧
 ∀ p,H p=none→Q (.ref p) (upd H p (.lst (List.replicate k.toNat xs).flatten))
theorem len_rep {α:Type} (xs:List α) (k:Nat):(List.replicate k xs).flatten.length=k * xs.length:=by
 induction k with
 | zero=>simp
 | succ k ih=>rw [List.replicate_succ,List.flatten_cons,List.length_append,ih,Nat.succ_mul,Nat.add_comm]
theorem op_rep:OpR X (binaryOp .Mult) rRep:=by
 intro pins s σ H x y v u Q I rx ry h
 obtain ⟨l,k,xs,rfl,rfl,hH,h1,h2,hz,q⟩:=h
 cases rx
 obtain ⟨t,rfl⟩:=ry
 obtain ⟨z,its,n,r,hl,e⟩:=I.lstM hH
 have hlen:its.toArray.size * k.toNat≤sizeLine:=by rw [List.size_toArray, ← hl];exact hz
 have hcap:¬ its.toArray.size * k.toNat > (2 ^ 63 - 1) / 8:=by
  have:(sizeLine:Nat)≤(2 ^ 63 - 1) / 8:=by decide
  omega
 have hfit:¬ (!Builtin.List.listFitsIndex k)=true:=by
  rw [fitsIndex_both h1 h2]
  exact Bool.false_ne_true
 have hlong:¬ Builtin.List.listTooLong (its.toArray.size * k.toNat)=true:=by
  rw [notLongL hlen]
  exact Bool.false_ne_true
 have hnew:List.foldl (fun x1 x2=>x1++x2) #[] (List.replicate (if its.toArray.isEmpty=true then 0 else k.toNat) its.toArray)=(List.replicate k.toNat its).flatten.toArray:=by
  have f0:∀ m:Nat,List.foldl (fun x1 x2=>x1++x2) #[] (List.replicate m its.toArray)=(List.replicate m its).flatten.toArray:=fun m=>by
   have:=foldl_rep its m []
   rw [List.nil_append] at this
   exact this
  rw [f0]
  cases its with
  | nil=>simp
  | cons a r'=>rw [if_neg (by simp)]
 refine wpAny_binaryOp_repeat_ref (T:="list") (U:="int") (by decide) ⟨_,e,rfl⟩ (fun s'=>typeIs_int s' k t) noFill_list_mul F.fills_int_mul F.slot_int_rmul repeat_list F.slot_int_index.lookup
  (call_meets F.slot_int_rmul (typeIs_int s k t) F.entry_int_rmul (F.args_int_rmul_2 _ _) (int___rmul___int_list k t l its.toArray n)
   ⟨e,rfl,⟨_,e,rfl⟩,call_meets F.slot_list_mul ⟨_,e,rfl⟩ F.entry_list_mul (F.args_list_mul_2 _ _) (AutoListH.list___mul___list_int_3 l its.toArray n k t hfit hcap hlong) ⟨e,?_⟩⟩)
 rw [hnew]
 exact ⟨.ref _,_,I.lnew (t':=s.toks) (r.rep k.toNat) (by rw [len_rep,Nat.mul_comm];exact hz),rfl,q _ I.fresh⟩
end
end L2
namespace Att
open PySem PySem.W PySem.Calls PyProof.Rows
theorem ints_of_wellAll {P:Params}{h:Heap}:∀ (ns:List Int) (vs:List Value),WellAll P h vs (ns.map WData.int)→IntsAre vs ns:=by
 intro ns
 induction ns with
 | nil=>
  intro vs w
  rw [List.map_nil] at w
  cases w
  exact .nil
 | cons n ns ih=>
  intro vs w
  rw [List.map_cons] at w
  cases w with
  | cons a b=>
   cases a
   exact .cons _ _ (ih _ b)
theorem script_of {l:OpenLaw}{n:Nat} (hn:l.most=some n) {P:Params}{h:Heap}{args:List WData}{vals:List Value}
  (hpre:l.row.toRowW.claim.pre args=true) (hwl:WellAll P h vals args):
  ∃ a vs ns,vals=[Value.ref a]∧args=[WData.list (ns.map WData.int)]∧h.get? a=some { cls:=.type "list",data:=.seq vs.toArray }∧IntsAre vs ns∧ns.length≤n:=by
 have hsh:WShape.hasAll [] args [.list .int]=true:=(pre_splitW hpre).1
 have hc:l.pre.holds [] { args:=args }=true:=(pre_splitW hpre).2
 obtain ⟨d,r,rfl,h1,h2⟩:=hasAllW_cons hsh
 obtain rfl:=hasAllW_nil h2
 obtain ⟨xs,rfl,h3⟩:=hasW_list h1
 obtain ⟨ns,rfl⟩:=items_int h3
 have hlen:ns.length≤n:=by
  unfold OpenLaw.pre at hc
  have h4:(WTm.not (.lt (.lit (.int (n:Int))) (.len (.arg 0)))).holds [] { args:=[.list (ns.map .int)] }=true:=by
   have h4:=(holds_andW hc).1
   rw [hn] at h4
   exact h4
  have h5:=condW_of h4 (w_not (w_lt w_lit (w_len_list (w_arg rfl))))
  rw [List.length_map] at h5
  refine Nat.le_of_not_lt fun q=>?_
  have q':(n:Int) < ((ns.length:Nat):Int):=by omega
  first
   | (rw [decide_eq_true q'] at h5;exact absurd h5 (by decide))
   | (simp at h5;omega)
 cases hwl with
 | cons w1 w2=>
  cases w2
  cases w1 with
  | list ho hall=>exact ⟨_,_,ns,rfl,rfl,ho,ints_of_wellAll ns _ hall,hlen⟩
theorem post_true (l:OpenLaw) (args:List WData):l.row.toRowW.claim.post args (.bool true) args=true:=
 postW_of (r:=l.row.toRowW) (X:=(true == true))
  (show WShape.has [] (.bool true) .bool=true by first | rfl | decide | simp [WShape.has,WShape.arms,WShape.armsAll])
  (show (WTm.eq .res (.lit (.bool true))).value [] { args:=args,res:=some (.bool true),after:=args }=some (.bool (true == true)) from w_eq_bool (w_res rfl) w_lit) rfl
theorem attach_call {l:OpenLaw}{n:Nat}{q:Program}{loose:List Str}{XP:(Str→Option Value)→Heap→Prop}{YP:World→Heap→Prop}{d:DefRec}
  (hn:l.most=some n) (hdf:d.params.defaults=[])
  (call:∀ (w:World) (s₀ s₁:Shared) (mg mb:Str→Option Value) (fa:Addr) (o:Obj) (pm cd doc:Value) (a:Addr) (vs:List Value) (ns:List Int),
   Ground q loose [] XP w s₀ mg mb s₁.heap→YP w s₁.heap→
   s₁.heap.get? fa=some o→o.data=.func (docDef d.name d.params d.body d.scope pm cd doc)→s₁.heap.CodeRec cd d.name→mg d.name=some (.ref fa)→
   s₁.heap.get? a=some { cls:=.type "list",data:=.seq vs.toArray }→IntsAre vs ns→ns.length≤n→s₁.gens= #[]→
   codeAny (model l.prog w) callerA (.call (.ref fa) ⟨[.ref a],[]⟩) (fun r s'=>r=.ok (.ret (.bool true))∧OldK s₁.heap s'.heap∧s'.os=s₁.os∧AllBare s'.gens) s₁):
  WalkO q loose XP YP l.row.toRowW d [] (fun f vs=>PySem.call f vs):=by
 intro w s₀ s₁ mg mb G Y fa o pm cd doc dV kV ho hd hcd hD hmg hg args vals as hpre hlay hrd hwl hlo
 obtain rfl:dV=.none:=Dflts.none hD hdf
 obtain rfl:kV=.none:=Dflts.noKw hD
 obtain ⟨a,vs,ns,rfl,rfl,hobj,hints,hlen⟩:=script_of hn hpre hwl
 refine enter_call (codeAny_mono (call w s₀ s₁ mg mb fa o pm cd doc a vs ns G Y ho (fd_plain hd) hcd hmg hobj hints hlen hg) fun r s' hq=>?_)
 obtain ⟨rfl,h2,h3,h4⟩:=hq
 exact ⟨.inl ⟨.bool true,.bool true,[],rfl,fun _=>rfl,.bool true,post_true l _,fun _=>⟨List.Pairwise.nil,fun _ hm=>(nomatch hm)⟩⟩,h2,h3,h4⟩
section
variable {prog:Program}{w:World}{A:Around}{E:Value→Shared→Prop}{s:Shared}{K:Frag}
end
end Att
namespace L2
open PySem PySem.Spec PyProof.Rows
theorem vals_ints:∀ {vs:List Value}{ns:List Int},IntsAre vs ns→Vals (ns.map V.int) vs
 | _,_,.nil=>.nil
 | _,_,.cons n t h=>.cons ⟨t,rfl⟩ (vals_ints h)
def Only (H:Hp):Prop:=∀ b,H b=none∨∃ o xs,H b=some (.frz o (.lst xs))
theorem law_call {P:Program}{w:World}{K:PySem.W.Frag}{mg mb:Str→Option Value}{CX:CXT}{k:Nat}{fa a:Addr}{fd:FuncData}{x:Str}{sp:Sp}{s₁:Shared}{vs:List Value}{ns:List Int}
  (KX:K.In s₁.heap) (hns:s₁.heap.Ns mainGlobals mg) (hb:s₁.heap.Ns builtinsNs mb) (hbb:∀ x:Str,x≠"__name__"→mb x=bootBuiltins x) (hlim:s₁.heap.NoLimit) (hg:s₁.gens= #[])
  (ha:s₁.heap.get? a=some { cls:=.type "list",data:=.seq vs.toArray }) (hi:IntsAre vs ns) (hl:ns.length≤sizeLine) (hr:Room k callerA)
  (F:∀ base:Heap,K.In base→base.Ns mainGlobals mg→FnOk P w K mg base CX k fa fd [x] sp) (hbind:∀ (s:Shared) (u:Value),BindsTo s fd ⟨[u],[]⟩ [(x,u)])
  (hsp:∀ H:Hp,Only H→SqL K H a (ns.map V.int)→sp [.ref a] H (fun v _=>v=.bl true) fun _ _ _=>False)
  (hCX:∀ H e s',CX [] H s₁ (fun _ _ _=>False) e s'→False):
  codeAny (model P w) callerA (.call (.ref fa) ⟨[.ref a],[]⟩) (fun r s'=>r=.ok (.ret (.bool true))∧OldK s₁.heap s'.heap∧s'.os=s₁.os∧AllBare s'.gens) s₁:=by
 have rv:=vals_ints hi
 have lenV:=hi.length
 have core:∀ H:Hp,Only H→SqL K H a (ns.map V.int)→HOk P w H s₁.heap→(∀ b,H b≠none→b=a)→(H a≠none→K.lookup a=none)→
   codeAny (model P w) callerA (.call (.ref fa) ⟨[.ref a],[]⟩) (fun r s'=>r=.ok (.ret (.bool true))∧OldK s₁.heap s'.heap∧s'.os=s₁.os∧AllBare s'.gens) s₁:=by
  intro H hO hS hok hA hK
  have base_of:∀ {b:Addr}{o:Obj},s₁.heap.get? b=some o→H b=none→(hidT s₁.heap H).get? b=some o:=fun e n=>hidT_get e n
  have noA:∀ {b:Addr}{o:Obj}{es:Array DictEntry}{ep:Nat},s₁.heap.get? b=some o→o.data=.dict es ep→H b=none:=fun {b o es ep} e d=>by
   cases q:H b with
   | none=>rfl
   | some u=>
    have e':b=a:=hA b (by rw [q];simp)
    subst e'
    rw [ha] at e;cases e
    have d':Data.seq vs.toArray _=Data.dict es ep:=d
    cases d'
  have nsK:∀ {b:Addr}{m:Str→Option Value},s₁.heap.Ns b m→(hidT s₁.heap H).Ns b m:=fun {b m} ⟨o,es,ep,e,d,r⟩=>⟨o,es,ep,base_of e (noA e d),d,r⟩
  have hKb:K.In (hidT s₁.heap H):=fun b o e=>base_of (KX b o e) (by
   cases q:H b with
   | none=>rfl
   | some u=>
    have e':b=a:=hA b (by rw [q];simp)
    subst e'
    rw [hK (by rw [q];simp)] at e;cases e)
  have hM:Mod K mg (hidT s₁.heap H):=⟨hKb,nsK hns,⟨mb,nsK hb,hbb⟩,let ⟨mc,h1,h2⟩:=hlim;⟨mc,nsK h1,h2⟩⟩
  have e0:Env0 P w K mg (hidT s₁.heap H) callerA [] s₁ H:=⟨rfl,hM,fun b o e=>of_hidT e,Nat.le_of_eq (hidT_size _ _),trivial,fun b hb=>absurd (show b∈([]:List Addr) from hb) (by simp),hok,.of_eq hg⟩
  refine codeAny_mono ((F _ hKb (nsK hns)).run callerA [] s₁ H ⟨[.ref a],[]⟩ [.ref a] [.ref a] _ _ hr e0 (hbind s₁ (.ref a)) (.cons rfl .nil) (hsp H hO hS)) fun r s' h=>?_
  cases r with
  | error e=>exact (hCX H e s' h).elim
  | ok fl=>
   cases fl with
   | next=>exact False.elim h
   | brk=>exact False.elim h
   | cont=>exact False.elim h
   | ret u=>
    obtain ⟨v,H',os,bare,un,hok',r',q⟩:=h
    have q':v=.bl true:=q
    subst q'
    obtain rfl:u=Value.bool true:=r'
    refine ⟨rfl,OldK.of_keep fun b o e=>?_,os,bare⟩
    cases q:H b with
    | none=>exact un.keep b o e q (by intro z;exact absurd (show b∈([]:List Addr) from z) (by simp)) (by simp)
    | some u=>
     rcases hO b with z | ⟨ob,xs,z⟩
     · rw [q] at z;cases z
     · have z2:=un.frzs b ob _ z
       obtain ⟨e1,_⟩:=hok b _ z
       obtain ⟨e2,_⟩:=hok' b _ z2
       rw [e] at e1;cases e1
       exact e2
 cases hk:K.lookup a with
 | some o=>
  have e:=KX a o hk
  rw [ha] at e
  cases e
  refine core (fun _=>none) (fun _=>.inl rfl) (.inr ⟨_,vs.toArray,_,hk,rfl,rfl,rfl,by rw [List.size_toArray,lenV];exact hl,by simpa using rv⟩) (fun b u z=>by have z':(none:Option HO)=some u:=z;cases z') (fun b z=>absurd rfl z) fun z=>absurd rfl z
 | none=>
  refine core (fun b=>if b=a then some (.frz { cls:=.type "list",data:=.seq vs.toArray } (.lst (ns.map V.int))) else none) (fun b=>?_) (.inl (.inr ⟨{ cls:=.type "list",data:=.seq vs.toArray },if_pos rfl⟩)) (fun b u z=>?_) (fun b z=>?_) fun _=>hk
  · by_cases hb:b=a
    · exact .inr ⟨_,_,if_pos hb⟩
    · exact .inl (if_neg hb)
  · by_cases hb:b=a
    · have z':=(if_pos hb).symm.trans z
      cases z'
      subst hb
      exact ⟨ha,by rw [List.length_map];exact hl,vs,_,rv,ha⟩
    · have z':=(if_neg hb).symm.trans z
      cases z'
  · by_cases hb:b=a
    · exact hb
    · exact absurd (if_neg hb) z
theorem walk_of {l:PySem.W.OpenLaw}{n k:Nat}{q:Program}{loose:List Str}{XP:(Str→Option Value)→Heap→Prop}{YP:World→Heap→Prop}{d:DefRec}{K:Params→PySem.W.Frag}{CX:World→CXT}{sp:World→Sp}{x:Str}
  (hn:l.most=some n) (hn2:n≤sizeLine) (hdf:d.params.defaults=[]) (hr:Room k callerA)
  (hY:∀ (w:World) (h:Heap),YP w h→(K w.params).In h)
  (F:∀ (w:World) (mg:Str→Option Value) (fa:Addr) (h:Heap),(K w.params).In h→h.Ns mainGlobals mg→mg d.name=some (.ref fa)→
   ∃ fd:FuncData,(∀ (s:Shared) (u:Value),BindsTo s fd ⟨[u],[]⟩ [(x,u)])∧
    ∀ base:Heap,(K w.params).In base→base.Ns mainGlobals mg→FnOk l.prog w (K w.params) mg base (CX w) k fa fd [x] (sp w))
  (hsp:∀ (w:World) (H:Hp) (a:Addr) (ns:List Int),ns.length≤n→Only H→SqL (K w.params) H a (ns.map V.int)→sp w [.ref a] H (fun v _=>v=.bl true) fun _ _ _=>False)
  (hCX:∀ (w:World) (H:Hp) (s:Shared) (e:Value) (s':Shared),CX w [] H s (fun _ _ _=>False) e s'→False):
  PySem.W.WalkO q loose XP YP l.row.toRowW d [] (fun f vs=>PySem.call f vs):=by
 refine Att.attach_call hn hdf fun w s₀ s₁ mg mb fa o pm cd doc a vs ns G Y ho hd hcd hmg hobj hints hlen hg=>?_
 have KX:=hY w _ Y
 obtain ⟨fd,hb,hF⟩:=F w mg fa _ KX G.T.g hmg
 exact law_call KX G.T.g G.T.b G.T.builtins G.T.nolimit hg hobj hints (Nat.le_trans hlen hn2) hr hF hb (fun H hO hS=>hsp w H a ns hlen hO hS) fun H e s'=>hCX w H s₁ e s'
def inClass (s:Stmt) (j:Nat):Stmt:=match s with
 | .ClassDef _ _ _ body _ _ _ _ _ _ _=>body.getD j (.Pass ⟨0,0,0,0⟩)
 | _=>.Pass ⟨0,0,0,0⟩
def defArgs (s:Stmt):Arguments:=match s with
 | .FunctionDef _ a _ _ _ _ _ _ _ _=>a
 | _=>{ posonlyargs:=[],args:=[],vararg:=none,kwonlyargs:=[],kw_defaults:=[],kwarg:=none,defaults:=[] }
def defBody (s:Stmt):List Stmt:=match s with
 | .FunctionDef _ _ b _ _ _ _ _ _ _=>b
 | _=>[]
def defScope (s:Stmt):Scope:=match s with
 | .FunctionDef _ _ _ _ _ _ sc _ _ _=>sc
 | _=>{ kind:=.function,names:=[],isGenerator:=false,isCoroutine:=false }
abbrev CX0:CXT:=fun _ _ _ _ _ _=>False
abbrev E0:XK:=fun _ _ _=>False
theorem pass0 {X:Cx}:Passes CX0 X E0:=fun _ _ _ _ _ _ _ h=>h.elim
structure Fun (K:PySem.W.Frag) (x qual:Str) (st:Stmt) (f:Addr) (fd:FuncData):Prop where
 ex:∃ (oc:Value) (od:Option Addr) (kV doc pm:Value) (an:Option Addr) (cdv ct:Value) (osl:Array (Option Value)),
  fd=PySem.W.fnOf x qual (defArgs st) (defBody st) (defScope st) .none kV doc pm an cdv ct∧K.lookup f=some ⟨oc,od,.func fd,osl⟩∧PySem.W.codeIn K cdv qual=true
 kp:PySem.W.keepIn K (.ref f)=true
section
variable {P:Program}{w:World}{K:PySem.W.Frag}{mg:Str→Option Value}{base:Heap}
theorem Fun.ok {x qual:Str}{st:Stmt}{f:Addr}{fd:FuncData}{N ps:List Str}{k:Nat}{sp:Sp} (F:Fun K x qual st f fd) (S:FnScope N ps (defScope st)) (len:∀ vs H Q E,sp vs H Q E→vs.length=ps.length)
  (hbody:∀ (cdv:Value) (A:Around) (outer:List Env) (s:Shared) (H:Hp) (vs:List V) (Q:VK) (E:XK),Room k (A.deeper (envOfC qual (defScope st) s.heap.objs.size f cdv))→sp vs H Q E→
   ∃ t,PSs (cxOf CX0 P w K mg base N qual (defScope st) f cdv A outer s H E).nox (defBody st) t∧t { nx:=fun _ H'=>Q .non H',rt:=Q } (start N vs) H):FnOk P w K mg base CX0 (k+1) f fd ps sp:=by
 obtain ⟨oc,od,kV,doc,pm,an,cdv,ct,osl,rfl,lk,hcd⟩:=F.ex
 refine fn_of lk hcd S len fun A outer s H vs Q E hr hsp=>?_
 obtain ⟨t,h,q⟩:=hbody cdv A outer s H vs Q E hr hsp
 exact ⟨t,h.nox,q⟩
theorem Fun.binds {x qual:Str}{st:Stmt}{f:Addr}{fd:FuncData}{ps:List Str} (F:Fun K x qual st f fd)
  (h:∀ (kV doc pm:Value) (an:Option Addr) (cdv ct:Value) (us:List Value),us.length=ps.length→bindArgs (PySem.W.fnOf x qual (defArgs st) (defBody st) (defScope st) .none kV doc pm an cdv ct) ⟨us,[]⟩=pure (ps.zip us)):Binds K fd ps []:=by
 obtain ⟨oc,od,kV,doc,pm,an,cdv,ct,osl,rfl,lk,hcd⟩:=F.ex
 exact .all (h kV doc pm an cdv ct)
theorem fun_mk {x qual:Str}{st:Stmt}{f:Addr}{oc:Value}{od an:Option Addr}{osl:Array (Option Value)}{kV doc pm cdv ct:Value} (l:K.lookup f=some ⟨oc,od,.func (PySem.W.fnOf x qual (defArgs st) (defBody st) (defScope st) .none kV doc pm an cdv ct),osl⟩)
  (c:PySem.W.codeIn K cdv qual=true) (k:PySem.W.keepIn K (.ref f)=true):Fun K x qual st f (PySem.W.fnOf x qual (defArgs st) (defBody st) (defScope st) .none kV doc pm an cdv ct):=⟨⟨oc,od,kV,doc,pm,an,cdv,ct,osl,rfl,l,c⟩,k⟩
end
theorem hu_of {A:Around}{k:Nat} (hr:Room k A):A.units+1 < cLine:=Nat.lt_of_le_of_lt (Nat.add_le_add_left (by decide:1≤64) _) hr.units
section
variable {X:Cx}
theorem pv (i:Nat) {x:Str}{pos:Pos} (hN:X.N[i]?=some x:=by rfl) (hv:Vis X.env.scope x:=by first | exact Or.inl rfl | exact Or.inr (Or.inl rfl) | exact Or.inr (Or.inr rfl)) (hd:(x == ("__debug__":Str))=false:=by decide)
  (hcd:(x == ("__classdict__":Str))=false:=by decide):PE X (.Name x pos) (tVar i):=pe_var hN hv hd hcd
end
theorem iteF {A B:Prop} (h:B):if false=true then A else B:=by
 rw [if_neg Bool.false_ne_true]
 exact h
theorem iteT {A B:Prop} (h:A):if true=true then A else B:=by
 rw [if_pos rfl]
 exact h
theorem ite2 {c A B:Prop} [Decidable c] (h1:c→A) (h2:¬ c→B):if c then A else B:=by
 by_cases h:c
 · rw [if_pos h]
   exact h1 h
 · rw [if_neg h]
   exact h2 h
def Same (H H':Hp):Prop:=∀ b o,H b=some o→H' b=some o
theorem Same.refl (H:Hp):Same H H:=fun _ _ h=>h
theorem Same.trans {H H1 H2:Hp} (a:Same H H1) (b:Same H1 H2):Same H H2:=fun c o h=>b c o (a c o h)
theorem Same.free {H H':Hp} (e:Same H H') {l:Addr} (h:H' l=Option.none):H l=Option.none:=by
 cases q:H l with
 | none=>rfl
 | some o=>
  rw [e l o q] at h
  cases h
theorem Same.seq {K:PySem.W.Frag}{H H':Hp}{a:Addr}{xs:List V} (e:Same H H') (h:SqL K H a xs):SqL K H' a xs:=by
 rcases h with (h | ⟨o,h⟩) | h
 · exact .inl (.inl (e _ _ h))
 · exact .inl (.inr ⟨o,e _ _ h⟩)
 · exact .inr h
def Cx.blk (X:Cx) (N:List Str) (scope:Scope) (cl:List (Str × Addr)) (C:Addr) (s:Shared) (H:Hp) (fp:List Addr):Cx:=
 { prog:=X.prog,w:=X.w,K:=X.K,mg:=X.mg,base:=X.base,A:=X.A,N:=N,s₀:=s,H₀:=H,env:=compEnvC scope cl C X.env,outer:=X.stack,stack:=X.stack,ex:=fp,fn:=fun _=>false,calm:=X.calm,pn:=[],xe:=fun _ _=>False }
def blkSt (ix:List Nat) (x:Option V) (σ:St):St:=x::ix.map fun i=>(σ[i]?).join
theorem HOk.sameBut {P:Program}{w:World}{H:Hp}{h h':Heap}{C:Addr} (x:HOk P w H h) (hC:H C=none) (sb:Heap.SameBut C h h'):HOk P w H h':=fun a o e=>
 (x a o e).stay (fun b u hb q=>(sb.2 b (by
  rintro rfl
  rcases hb with hb | hb
  · rw [← hb,hC] at e;cases e
  · rw [hC] at hb;cases hb)).trans q) (fun _ q=>q) fun _ _ q=>q
inductive Wr (P:Prop):Prop where
 | mk (h:P):Wr P
theorem Wr.get {P:Prop} (h:Wr P):P:=by cases h;assumption
section
variable {X:Cx}{e:Expr}{te:TE}{pos p1 p2 p3:Pos}
abbrev wr2 (r:R2):R2:=fun x y H Q=>Wr (r x y H Q)
theorem OpR.wr {f:Value→Value→Sem Value}{r:R2} (h:OpR X f r):OpR X f (wr2 r):=fun pins s σ H x y v u Q I rx ry q=>h pins s σ H x y v u Q I rx ry q.get
theorem ix_l:IxR X (wr2 (rIxL X.K)):=fun value slice pins s σ H x y v u Q I rx ry q hs=>ix_list value slice pins s σ H x y v u Q I rx ry q.get hs
theorem ix_t:IxR X (wr2 (rIxT X.K)):=fun value slice pins s σ H x y v u Q I rx ry q hs=>ix_tup value slice pins s σ H x y v u Q I rx ry q.get hs
theorem sl_l:SlR X (fun x lo hi H Q=>Wr (rSlL X.K x lo hi H Q)):=fun pins s σ H x v vl vu lo hi sl Q I rx hs pl pu q=>sl_list pins s σ H x v vl vu lo hi sl Q I rx hs pl pu q.get
theorem op_catW:OpR X (binaryOp .Add) (wr2 rCat):=op_cat.wr
def rEqI (K:PySem.W.Frag):R2:=fun x y H Q=>∃ (a b:Addr) (ns ms:List Int),x=.ref a∧y=.ref b∧SqL K H a (ns.map V.int)∧SqL K H b (ms.map V.int)∧Q (.bl (decide (ns=ms))) H
def rNeI (K:PySem.W.Frag):R2:=fun x y H Q=>∃ (a b:Addr) (ns ms:List Int),x=.ref a∧y=.ref b∧SqL K H a (ns.map V.int)∧SqL K H b (ms.map V.int)∧Q (.bl (!decide (ns=ms))) H
theorem op_eqIs (hu:X.A.units+64 < cLine):OpR X (compareOp .Eq) (wr2 (rEqI X.K)):=by
 intro pins s σ H x y v u Q I rx ry h
 replace h:=h.get
 obtain ⟨a,b,ns,ms,rfl,rfl,ha,hb,q⟩:=h
 cases rx
 cases ry
 obtain ⟨its,r,ht,hz⟩:=I.list ha
 obtain ⟨its',r',ht',hz'⟩:=I.list hb
 exact PySem.W.eq_intsK ht.isList (intsAre_of r) ht'.isList (intsAre_of r') hu ⟨.bl _,H,I,rfl,q⟩
theorem op_neIs (hu:X.A.units+64 < cLine):OpR X (compareOp .NotEq) (wr2 (rNeI X.K)):=by
 intro pins s σ H x y v u Q I rx ry h
 replace h:=h.get
 obtain ⟨a,b,ns,ms,rfl,rfl,ha,hb,q⟩:=h
 cases rx
 cases ry
 obtain ⟨its,r,ht,hz⟩:=I.list ha
 obtain ⟨its',r',ht',hz'⟩:=I.list hb
 exact PySem.W.ne_intsK ht.isList (intsAre_of r) ht'.isList (intsAre_of r') hu ⟨.bl _,H,I,rfl,q⟩
theorem call_isinst:CallR X (.builtin "isinstance") (fun vs H Q=>∃ x c t b,vs=[x,.ty c]∧TyOf X.K H x t∧PySem.W.kitOne X.K t (.type c)=some b∧Q (.bl b) H):=by
 intro pins s σ H vs us Q I r h
 obtain ⟨x,c,t,b,rfl,ty,k,q⟩:=h
 cases r with
 | cons r1 rr=>
  cases rr with
  | cons r2 rr=>
   cases rr
   cases r2
   exact isinst_ok I r1 ty k fun tk=>⟨.bl b,H,I.tok tk,rfl,q⟩
def rRev (K:PySem.W.Frag) (x:V) (H1:Hp) (Q:VK):Prop:=∃ a xs,x=.ref a∧SqL K H1 a xs∧∀ p,H1 p=none→Q (.ref p) (upd H1 p (.lst xs.reverse))
def tRev (K:PySem.W.Frag) (te:TE):TE:=fun σ H Q=>te σ H fun x H1=>Wr (rRev K x H1 Q)
def rList (K:PySem.W.Frag) (xs:List V) (H:Hp) (Q:VK):Prop:=∃ p ys,xs=[.ref p]∧(SqL K H p ys∨SqT K H p ys)∧∀ l,H l=none→Q (.ref l) (upd H l (.lst ys))
theorem call_listR:CallR X (.type "list") (fun xs H Q=>Wr (rList X.K xs H Q)):=fun pins s σ H vs us Q I r h=>call_list_of pins s σ H vs us Q I r h.get
theorem Vals.rev {xs:List V}{us:List Value} (r:Vals xs us):Vals xs.reverse us.reverse:=by
 induction r with
 | nil=>exact .nil
 | cons h t ih=>rw [List.reverse_cons,List.reverse_cons];exact Vals.append ih (.cons h .nil)
theorem pe_rev (he:PE X e te) {j:Nat}:PE X (.Subscript e (.Slice none none (some (.UnaryOp .USub (.Constant (.int 1) j p1) p3)) p2) pos) (tRev X.K te):=by
 intro pins s σ H Q I h
 refine Subscript_ (thn (he pins s σ H _ I h) fun v s1 ⟨x,H1,I1,r1,q1⟩=>?_)
 obtain ⟨a,xs,rfl,hx,q⟩:=q1.get
 cases r1
 refine wpAny_Slice ?_
 rw [evalPart_none]
 refine wpAny_pure (wpAny_pure ?_)
 refine thn (po_some (pe_un un_neg pe_int) pins s1 σ H1 (fun o H'=>o=some (-1)∧H'=H1) I1 ⟨_,rfl,_,rfl,rfl,rfl⟩) fun vk s2 ⟨o,H2,I2,pk,q2⟩=>?_
 obtain ⟨rfl,rfl⟩:=q2
 obtain ⟨its,r,ht,hz⟩:=I2.list hx
 have hlen:=r.length
 have I4:Inv X pins σ H2 { s2 with heap:=s2.heap.push { cls:=.type "slice",data:=.fields #[.none,.none,vk] } }:=I2.kept (t':=s2.toks) fun b ob q=>Heap.get?_push_of_some _ q
 obtain ⟨its',r',ht',hz'⟩:=I4.list hx
 refine tail_any ht'.isList.typeIs slot_list_getitem.lookup ?_ (by with_unfolding_all rfl)
 refine wpAny_getItem_list_slice ht'.isList (Heap.IsSliceOf.new ..) .none .none pk (by simp) ?_ (by rw [List.size_toArray, ← r'.length];exact hz')
 rw [PySem.W.krv_pick]
 refine ⟨.ref _,_,I4.laid (t':=s2.toks) (o:=.lst xs.reverse) (fun b ob q=>Heap.get?_push_of_some _ q) (Nat.le_refl _) ?_,rfl,q _ (I4.hok.fresh (Nat.le_refl _))⟩
 exact ⟨by rw [List.length_reverse];exact hz,its'.reverse,0,r'.rev,Heap.get?_push_size _ rfl⟩
theorem comp_ints {K:PySem.W.Frag}{a:Addr}{ns:List Int}{ix:List Nat}{te:TE}{σ:St}{H:Hp}{Q:VK} (f:Int→Int) (hq:SqL K H a (ns.map V.int)) (hl:ns.length < sizeLine)
  (he:∀ z∈ns,∀ (H':Hp) (Q':VK),Q' (.int (f z)) H'→te (blkSt ix (some (.int z)) σ) H' Q') (h:∀ D,H D=none→Q (.ref D) (upd H D (.lst ((ns.map f).map V.int)))):
  ∀ D,H D=none→∃ W:Nat→Nat→List V→Hp→Prop,(∃ m,W 0 m [] (upd H D (.lst [])))∧
   ∀ i m ys H2,W i m ys H2→H2 D=some (.lst ys)∧(((Itl K a).stop i H2∧Q (.ref D) H2)∨((Itl K a).go i H2∧ys.length < sizeLine∧∀ x H',(Itl K a).yld i H2 x H'→te (blkSt ix (some x) σ) H' fun y H3=>
    H3 D=some (.lst ys)∧∃ m',m' < m∧W (i+1) m' (ys++[y]) (upd H3 D (.lst (ys++[y]))))):=by
 intro D hD
 refine ⟨fun i m ys H2=>m=ns.length - i∧i≤ns.length∧ys=((ns.take i).map f).map V.int∧H2=upd H D (.lst ys),⟨ns.length,by simp,Nat.zero_le _,by simp,rfl⟩,?_⟩
 rintro i m ys H2 ⟨rfl,hi,rfl,rfl⟩
 have hs:SqL K (upd H D (.lst (((ns.take i).map f).map V.int))) a (ns.map V.int):=by
  have s:Same H (upd H D (.lst (((ns.take i).map f).map V.int))):=fun b o e=>by rw [upd_ne (ne_of_none e hD)];exact e
  exact s.seq hq
 refine ⟨upd_same,?_⟩
 by_cases hlt:i < ns.length
 · refine .inr ⟨⟨_,V.int ns[i],hs,by simp [hlt]⟩,by simp;omega,fun x H' y=>?_⟩
   obtain ⟨e,y⟩:=y
   subst e
   have ey:=y _ hs
   simp only [List.getElem?_map,List.getElem?_eq_getElem hlt,Option.map_some] at ey
   cases ey
   refine he ns[i] (List.getElem_mem hlt) _ _ ⟨upd_same,ns.length - (i+1),by omega,rfl,hlt,?_,?_⟩
   · rw [List.take_succ_eq_append_getElem hlt];simp only [List.map_append,List.map_cons,List.map_nil]
   · rw [upd_upd]
 · have e:i=ns.length:=by omega
   subst e
   refine .inl ⟨⟨_,hs,by simp⟩,?_⟩
   rw [List.take_of_length_le (Nat.le_refl _)]
   exact h D hD
def rLst (xs:List V) (H:Hp) (Q:VK):Prop:=xs.length≤sizeLine∧∀ p,H p=none→Q (.ref p) (upd H p (.lst xs))
def tLstW (t:TA):TE:=fun σ H Q=>t σ H fun xs H1=>Wr (rLst xs H1 Q)
theorem pe_lstW {es:List Expr}{t:TA} (h:PA X es t):PE X (.List es pos) (tLstW t):=by
 intro pins s σ H Q I hq
 refine wpAny_List_spliced (thn (h pos pins s σ H _ I hq) fun us s1 ⟨xs,H1,I1,r,w⟩=>?_)
 obtain ⟨z,q⟩:=w.get
 refine ⟨by rw [← r.length];exact z,?_⟩
 have hf:H1 s1.heap.objs.size=none:=I1.hok.fresh (Nat.le_refl _)
 refine ⟨.ref s1.heap.objs.size,upd H1 s1.heap.objs.size (.lst xs),I1.laid (t':=s1.toks) (fun b u e=>Heap.get?_push_of_some _ e) (Nat.le_refl _) ?_,rfl,q _ hf⟩
 exact ⟨z,us,0,r,Heap.get?_push_size _ rfl⟩
end
def Ite (K:PySem.W.Frag) (a:Addr):It where
 go:=fun i H=>∃ xs x,SqL K H a xs∧xs[i]?=some x
 yld:=fun i H x H'=>∃ t y,H t=none∧x=.ref t∧H'=upd H t (.tup [.int i,y])∧∀ ys,SqL K H a ys→ys[i]?=some y
 stop:=fun i H=>∃ xs,SqL K H a xs∧xs.length≤i
theorem turn_enum {P:Program}{w:World}{K:PySem.W.Frag}{es:List Expr}{k:Nat}{pos:Pos} (a e it:Addr) (hei:e≠it):
  Turn P w K (.Tuple es k pos) (Ite K a) [e,it] e (fun i h=>(∃ old,IsEnum h e it ((i:Nat):Int) old)∧h.IsListIter it a i) where
 mem:=by simp
 obj:=fun i h ⟨⟨old,st⟩,si⟩ b hb=>by
  rcases List.mem_cons.mp hb with rfl | hb
  · exact ⟨_,st,fun v z=>by
      have z':Data.fields _=Data.cell v:=z
      cases z'⟩
  · have e':b=it:=by simpa using hb
    subst e'
    obtain ⟨o,e,c,d⟩:=si
    exact ⟨o,e,fun v z=>by rw [d] at z;cases z⟩
 keep:=fun i h h' ⟨⟨old,st⟩,si⟩ k=>⟨⟨old,k e (by simp) _ st⟩,si.at fun o q=>k it (by simp) o q⟩
 item:=by
  intro X hP hw hK hc i pins s σ H E I hf ⟨⟨old,st⟩,si⟩ hg
  subst hP hw hK
  obtain ⟨xs,x,hq,hx⟩:=hg
  obtain ⟨its,rv,p,hz⟩:=I.list hq
  obtain ⟨u,hu,ru⟩:=rv.get hx
  obtain ⟨e0,e1,e2,e3,e4,e5⟩:=hf e (by simp)
  obtain ⟨f0,f1,f2,f3,f4,f5⟩:=hf it (by simp)
  have hT:=I.hok.fresh (Nat.le_refl s.heap.objs.size)
  refine wpAny_pyNext_enum_item st si p.isList (x:=u) (by simpa using hu) hei fun h1 heo hit1 ht1 hz1 hk1=>?_
  refine ⟨_,rfl,wpAny_letOwnedTupleGo_enum heo fun h2 he2 sb2=>?_⟩
  have sb2:Heap.SameBut e h1 h2:=sb2
  have hk2:∀ b o,b≠e→b≠it→s.heap.get? b=some o→h2.get? b=some o:=fun b o n1 n2 q=>(sb2.2 b n1).trans (hk1 b o n1 n2 q)
  have eT:e≠s.heap.objs.size:=Nat.ne_of_lt (Heap.lt_size st)
  have ht2:h2.get? s.heap.objs.size=some { cls:=.type "tuple",data:=.seq #[.int i s.toks,u] }:=(sb2.2 _ eT.symm).trans ht1
  have hit2:h2.IsListIter it a (i+1):=hit1.at fun o q=>(sb2.2 it hei.symm).trans q
  have he2:IsEnum h2 e it (((i+1:Nat)):Int) u:=by
   have:(((i+1:Nat)):Int)=(i:Int)+1:=by push_cast;rfl
   rw [this];exact he2
  have iT:it≠s.heap.objs.size:=by
   obtain ⟨o,q,_⟩:=si
   exact Nat.ne_of_lt (Heap.lt_size q)
  have trk:∀ b o,H b=some o→b≠e∧b≠it∧b≠s.heap.objs.size:=fun b o q=>⟨(fun z=>by rw [z,e0] at q;cases q),(fun z=>by rw [z,f0] at q;cases q),(fun z=>by rw [z,hT] at q;cases q)⟩
  have hok:HOk X.prog X.w (upd H s.heap.objs.size (.tup [.int i,x])) h2:=fun b o q=>by
   by_cases hb:b=s.heap.objs.size
   · subst hb
     rw [upd_same] at q;cases q
     exact ⟨(show 2≤sizeLine by decide),[.int i s.toks,u],.cons ⟨_,rfl⟩ (.cons ru .nil),⟨_,ht2,rfl,_,rfl⟩⟩
   · rw [upd_ne hb] at q
     refine (I.hok b o q).stay (fun c v hc' r=>hk2 c v ?_ ?_ r) (fun c r=>by rw [upd_ne (trk c _ r).2.2];exact r) fun c ys r=>by rw [upd_ne (trk c _ r).2.2];exact r
     · rcases hc' with rfl | hc'
       · exact (trk _ _ q).1
       · exact (trk _ _ hc').1
     · rcases hc' with rfl | hc'
       · exact (trk _ _ q).2.1
       · exact (trk _ _ hc').2.1
  have old':∀ b o,s.heap.get? b=some o→b≠s.heap.objs.size:=fun b o q=>Nat.ne_of_lt (Heap.lt_size q)
  have I1:Inv X pins σ (upd H s.heap.objs.size (.tup [.int i,x])) { s with heap:=h2,toks:=s.toks+1 }:=by
   refine I.step (g':=s.gens) (d':=s.drawn) (t':=s.toks+1) (ch:=[e,it]) (fun b hb=>?_) (fun b o _ _ hc' q _=>hk2 b o (fun z=>hc' (by simp [z])) (fun z=>hc' (by simp [z])) q) (fun b o _ _ hc' q _=>⟨o.slots,hk2 b o (fun z=>hc' (by simp [z])) (fun z=>hc' (by simp [z])) q⟩)
    (fun b o _ q n=>by rw [upd_ne (old' b o q)];exact n) (fun b o hc' q=>⟨o,hk2 b o (fun z=>hc' (by simp [z])) (fun z=>hc' (by simp [z])) q⟩) (fun b ys q=>by rw [upd_ne (trk b _ q).2.2];exact q) (fun b o ys q=>by rw [upd_ne (trk b _ q).2.2];exact q)
    (fun b ps q=>⟨#[],by rw [upd_ne (trk b _ q).2.2,q];simp⟩) (fun m hm=>?_) hok I.bare
   · rcases List.mem_cons.mp hb with rfl | hb
     · exact ⟨e3,e1,e4,e5⟩
     · have e':b=it:=by simpa using hb
       subst e'
       exact ⟨f3,f1,f4,f5⟩
   · obtain ⟨o,es',ep,ho,r⟩:=hm
     exact ⟨o,es',ep,hk2 _ _ e1.symm f1.symm ho,r⟩
  refine ⟨.ref s.heap.objs.size,_,I1,rfl,⟨s.heap.objs.size,x,hT,rfl,rfl,fun ys hy=>by rw [I.list_inj hy hq];exact hx⟩,⟨⟨u,he2⟩,hit2⟩,fun b hb=>?_⟩
  rcases List.mem_cons.mp hb with rfl | hb
  · rw [upd_ne eT];exact e0
  · have e':b=it:=by simpa using hb
    subst e'
    rw [upd_ne iT];exact f0
 done:=by
  intro X hP hw hK hc i pins s σ H E I hf ⟨⟨old,st⟩,si⟩ hg
  subst hP hw hK
  obtain ⟨xs,hq,hx⟩:=hg
  obtain ⟨its,rv,p,hz⟩:=I.list hq
  obtain ⟨f0,f1,f2,f3,f4,f5⟩:=hf it (by simp)
  have hl:=rv.length
  exact wpAny_pyNext_enum_end (I.ok.hd hc) st si p.isList (by simp;omega) fun h' eb=>⟨rfl,I.turned (t':=s.toks) (fun b o hb q=>eb b o hb q) f0 f1 f3 f4 f5⟩
 self:=fun _ _ _ _ _ ⟨⟨old,st⟩,_⟩ h=>wpAny_pyIter_enum st h
section
variable {X:Cx}
def iEnum (K:PySem.W.Frag) (ta:TA):TI:=fun σ H R=>ta σ H fun vs H1=>∃ a,vs=[.ref a]∧(∃ xs,SqL K H1 a xs)∧R (Ite K a) H1
theorem pi_enum {l:Expr}{ta:TA}{p pos pt:Pos}{es:List Expr}{k:Nat} (hg:Gl X "enumerate") (hm:X.mg "enumerate"=none) (hb:bootBuiltins "enumerate"=some (.type "enumerate")) (ha:PA X [l] ta) (hs:starEach [l] X.env=[(false,eval l X.env)]:=by rfl):
  PI X (.Tuple es k pt) (.Call (.Name "enumerate" p) [l] [] pos) (iEnum X.K ta):=by
 intro pins s σ H R I h
 refine Call_ (ld_blt I hg hm hb (PyProof.Rows.callWith_type1 (thn (ha pos pins s σ H _ I h) fun us s1 ⟨vs,H1,I1,r1,q1⟩=>?_) hs rfl))
 obtain ⟨a,e,⟨xs,hq⟩,q⟩:=q1
 subst e
 cases r1 with
 | cons r rr=>
  cases rr
  cases r
  obtain ⟨its,rv,pl,hz⟩:=I1.list hq
  refine call_enumerate_list pl.isList fun h' he hit hsz hk=>?_
  refine wpAny_pyIter_enum he ?_
  have I2:Inv X pins σ H1 { s1 with heap:=h' }:=I1.kept (t':=s1.toks) fun b o e=>hk b o e
  refine ⟨s1.heap.objs.size+1,[s1.heap.objs.size+1,s1.heap.objs.size],_,_,H1,rfl,I2,turn_enum a _ _ (Nat.succ_ne_self _),⟨⟨_,he⟩,hit⟩,fun b hb=>?_,q⟩
  rcases List.mem_cons.mp hb with rfl | hb
  · exact I1.fpOk (Nat.le_succ _) (I1.hok.fresh (Nat.le_succ _))
  · have e:b=s1.heap.objs.size:=by simpa using hb
    subst e
    exact I1.fpOk (Nat.le_refl _) (I1.hok.fresh (Nat.le_refl _))
theorem for_enum {K:PySem.W.Frag}{a:Addr}{xs:List V}{g:TG}{tb:TS}{D:Ends}{σ:St}{H:Hp} (Pv:Nat→St→Hp→Prop) (h0:Pv 0 σ H) (hl:∀ i σ H,i≤xs.length→Pv i σ H→SqL K H a xs)
  (hs:∀ i x σ H t,xs[i]?=some x→H t=none→Pv i σ H→g (.ref t) σ (upd H t (.tup [.int i,x])) fun σ2 H2=>tb { D with nx:=Pv (i+1),ct:=Pv (i+1),bk:=D.nx } σ2 H2) (hd:∀ σ H,Pv xs.length σ H→D.nx σ H):
  ∃ W:Nat→Nat→St→Hp→Prop,(∃ m,W 0 m σ H)∧∀ i m σ H,W i m σ H→
   ((Ite K a).stop i H∧D.nx σ H)∨((Ite K a).go i H∧∃ N:St→Hp→Prop,(∀ σ' H',N σ' H'→∃ m',m' < m∧W (i+1) m' σ' H')∧∀ x H',(Ite K a).yld i H x H'→g x σ H' fun σ2 H2=>tb { D with nx:=N,ct:=N,bk:=D.nx } σ2 H2):=by
 refine ⟨fun i m σ H=>m=xs.length - i∧i≤xs.length∧Pv i σ H,⟨xs.length,by simp,Nat.zero_le _,h0⟩,?_⟩
 rintro i m σ H ⟨rfl,hi,p⟩
 have q:=hl i σ H hi p
 by_cases hlt:i < xs.length
 · refine .inr ⟨⟨xs,xs[i],q,by simp [hlt]⟩,Pv (i+1),fun σ' H' p'=>⟨xs.length - (i+1),by omega,rfl,hlt,p'⟩,fun x H' y=>?_⟩
   obtain ⟨t,y,ht,rfl,rfl,hy⟩:=y
   exact hs i y σ H t (hy xs q) ht p
 · have e:i=xs.length:=by omega
   subst e
   exact .inl ⟨⟨xs,q,Nat.le_refl _⟩,hd σ H p⟩
end
open PySem.SeqAt
end L2
namespace L2
open PySem PySem.Spec PyProof.Rows
section
variable {X:Cx}{tg:Expr}
theorem comp_vals {K:PySem.W.Frag}{a:Addr}{xs:List V}{ix:List Nat}{te:TE}{σ:St}{H:Hp}{Q:VK} (f:V→V) (hq:SqL K H a xs) (hl:xs.length < sizeLine)
  (he:∀ z∈xs,∀ (H':Hp) (Q':VK),Same H H'→Q' (f z) H'→te (blkSt ix (some z) σ) H' Q') (h:∀ D,H D=none→Q (.ref D) (upd H D (.lst (xs.map f)))):
  ∀ D,H D=none→∃ W:Nat→Nat→List V→Hp→Prop,(∃ m,W 0 m [] (upd H D (.lst [])))∧
   ∀ i m ys H2,W i m ys H2→H2 D=some (.lst ys)∧(((Itl K a).stop i H2∧Q (.ref D) H2)∨((Itl K a).go i H2∧ys.length < sizeLine∧∀ x H',(Itl K a).yld i H2 x H'→te (blkSt ix (some x) σ) H' fun y H3=>
    H3 D=some (.lst ys)∧∃ m',m' < m∧W (i+1) m' (ys++[y]) (upd H3 D (.lst (ys++[y]))))):=by
 intro D hD
 refine ⟨fun i m ys H2=>m=xs.length - i∧i≤xs.length∧ys=(xs.take i).map f∧H2=upd H D (.lst ys),⟨xs.length,by simp,Nat.zero_le _,by simp,rfl⟩,?_⟩
 rintro i m ys H2 ⟨rfl,hi,rfl,rfl⟩
 have s:Same H (upd H D (.lst ((xs.take i).map f))):=fun b o e=>by rw [upd_ne (ne_of_none e hD)];exact e
 have hs:=s.seq hq
 refine ⟨upd_same,?_⟩
 by_cases hlt:i < xs.length
 · refine .inr ⟨⟨_,xs[i],hs,by simp [hlt]⟩,by simp;omega,fun x H' y=>?_⟩
   obtain ⟨e,y⟩:=y
   subst e
   have ey:=y _ hs
   rw [List.getElem?_eq_getElem hlt] at ey
   cases ey
   refine he xs[i] (List.getElem_mem hlt) _ _ s ⟨upd_same,xs.length - (i+1),by omega,rfl,hlt,?_,?_⟩
   · rw [List.take_succ_eq_append_getElem hlt];simp only [List.map_append,List.map_cons,List.map_nil]
   · rw [upd_upd]
 · have e:i=xs.length:=by omega
   subst e
   refine .inl ⟨⟨_,hs,by simp⟩,?_⟩
   rw [List.take_of_length_le (Nat.le_refl _)]
   exact h D hD
end
section
variable {κ:Type} [DecidableEq κ]
def valV (kvs:List (κ × V)) (k:κ):Option V:=(kvs.find? fun kv=>decide (kv.1=k)).map (·.2)
def putK (kvs:List (κ × V)) (k:κ) (v:V):List (κ × V):=
 if (kvs.any fun kv=>decide (kv.1=k))=true then kvs.map (fun kv=>if kv.1=k then (kv.1,v) else kv) else kvs++[(k,v)]
theorem valV_pos {p:κ × V}{r:List (κ × V)}{k:κ} (e:p.1=k):valV (p::r) k=some p.2:=by simp [valV,List.find?_cons,e]
theorem valV_neg {p:κ × V}{r:List (κ × V)}{k:κ} (e:¬ p.1=k):valV (p::r) k=valV r k:=by simp [valV,List.find?_cons,e]
theorem valV_any (k:κ):∀ kvs:List (κ × V),(kvs.any fun kv=>decide (kv.1=k))=(valV kvs k).isSome
 | []=>rfl
 | p::r=>by
  rw [List.any_cons]
  by_cases e:p.1=k
  · simp only [valV_pos e,decide_eq_true e,Bool.true_or,Option.isSome_some]
  · rw [valV_neg e,decide_eq_false e,Bool.false_or];exact valV_any k r
theorem valV_map (k j:κ) (y:V):∀ kvs:List (κ × V),valV (kvs.map fun kv=>if kv.1=k then (kv.1,y) else kv) j=(valV kvs j).map fun x=>if j=k then y else x
 | []=>rfl
 | p::r=>by
  have ih:=valV_map k j y r
  rw [List.map_cons]
  by_cases h:p.1=k
  · rw [if_pos h]
    by_cases e:p.1=j
    · rw [valV_pos (p:=(p.1,y)) e,valV_pos e,Option.map_some,if_pos (e.symm.trans h)]
    · rw [valV_neg (p:=(p.1,y)) e,valV_neg e,ih]
  · rw [if_neg h]
    by_cases e:p.1=j
    · rw [valV_pos (p:=p) e,valV_pos e,Option.map_some,if_neg (fun z=>h (e.trans z))]
    · rw [valV_neg (p:=p) e,valV_neg e,ih]
theorem valV_snoc (k j:κ) (y:V):∀ kvs:List (κ × V),valV kvs k=none→valV (kvs++[(k,y)]) j=if j=k then some y else valV kvs j
 | [],_=>by
  by_cases e:k=j
  · rw [if_pos e.symm];exact valV_pos (p:=(k,y)) e
  · rw [if_neg (fun z=>e z.symm)];exact valV_neg (p:=(k,y)) e
 | p::r,hn=>by
  rw [List.cons_append]
  have hk:¬ p.1=k:=fun z=>by rw [valV_pos z] at hn;cases hn
  rw [valV_neg hk] at hn
  have ih:=valV_snoc k j y r hn
  by_cases e:p.1=j
  · rw [valV_pos e,valV_pos e,if_neg (fun z=>hk (e.trans z))]
  · rw [valV_neg e,valV_neg e,ih]
theorem valV_put (kvs:List (κ × V)) (k j:κ) (y:V):valV (putK kvs k y) j=if j=k then some y else valV kvs j:=by
 unfold putK
 by_cases a:(kvs.any fun kv=>decide (kv.1=k))=true
 · rw [if_pos a,valV_map]
   rw [valV_any] at a
   by_cases e:j=k
   · obtain ⟨x,hx⟩:=Option.isSome_iff_exists.mp a
     rw [if_pos e,e,hx,Option.map_some,if_pos rfl]
   · rw [if_neg e]
     cases valV kvs j with
     | none=>rfl
     | some x=>rw [Option.map_some,if_neg e]
 · rw [if_neg a]
   refine valV_snoc k j y kvs ?_
   rw [valV_any] at a
   cases q:valV kvs k with
   | none=>rfl
   | some x=>rw [q] at a;exact (a rfl).elim
theorem length_putK (kvs:List (κ × V)) (k:κ) (v:V):(putK kvs k v).length≤kvs.length+1:=by
 unfold putK
 split
 · rw [List.length_map];omega
 · rw [List.length_append,List.length_cons,List.length_nil];omega
theorem putK_new {kvs:List (κ × V)}{k:κ} (v:V) (h:valV kvs k=none):putK kvs k v=kvs++[(k,v)]:=by
 unfold putK
 rw [valV_any,h]
 exact if_neg (by decide)
theorem RelO.isSome_eq {o:Option V}{u:Option Value} (r:RelO o u):o.isSome=u.isSome:=by
 cases o with
 | none=>cases u with
  | none=>rfl
  | some _=>exact (show False from r).elim
 | some _=>cases u with
  | none=>exact (show False from r).elim
  | some _=>rfl
theorem RelO.getD {o:Option V}{u:Option Value}{d:V}{d':Value} (r:RelO o u) (rd:RelV d d'):RelV (o.getD d) (u.getD d'):=by
 cases o with
 | none=>cases u with
  | none=>exact rd
  | some _=>exact (show False from r).elim
 | some _=>cases u with
  | none=>exact (show False from r).elim
  | some _=>exact r
theorem KV.val {kvs:List (κ × V)}{vs:List (κ × Value)} (r:KV kvs vs) (k:κ):RelO (valV kvs k) (valueAt vs k):=by
 unfold KV at r
 induction r with
 | nil=>exact True.intro
 | @cons p q ps qs h t ih=>
  obtain ⟨h1,h2⟩:=h
  by_cases e:p.1=k
  · have e':q.1=k:=h1.symm.trans e
    have b:valueAt (q::qs) k=some q.2:=by simp [valueAt,List.find?_cons,e']
    rw [valV_pos e,b];exact h2
  · have e':¬ q.1=k:=fun z=>e (h1.trans z)
    have b:valueAt (q::qs) k=valueAt qs k:=by simp [valueAt,List.find?_cons,e']
    rw [valV_neg e,b];exact ih
theorem KV.any {kvs:List (κ × V)}{vs:List (κ × Value)} (r:KV kvs vs) (k:κ):(kvs.any fun kv=>decide (kv.1=k))=vs.any fun kv=>decide (kv.1=k):=by
 unfold KV at r
 induction r with
 | nil=>rfl
 | cons h t ih=>rw [List.any_cons,List.any_cons,ih,h.1]
theorem KV.repl {kvs:List (κ × V)}{vs:List (κ × Value)} (r:KV kvs vs) (k:κ) {y:V}{u:Value} (ry:RelV y u):
  KV (kvs.map fun kv=>if kv.1=k then (kv.1,y) else kv) (vs.map fun kv=>if kv.1=k then (kv.1,u) else kv):=by
 unfold KV at r ⊢
 induction r with
 | nil=>exact .nil
 | @cons p q ps qs h t ih=>
  rw [List.map_cons,List.map_cons]
  refine .cons ?_ ih
  obtain ⟨h1,h2⟩:=h
  by_cases e:p.1=k
  · rw [if_pos e,if_pos (h1.symm.trans e)];exact ⟨h1,ry⟩
  · rw [if_neg e,if_neg (fun z=>e (h1.trans z))];exact ⟨h1,h2⟩
theorem KV.put {kvs:List (κ × V)}{vs:List (κ × Value)} (r:KV kvs vs) (k:κ) {y:V}{u:Value} (ry:RelV y u):KV (putK kvs k y) (stored vs k u):=by
 unfold putK stored
 rw [r.any k]
 by_cases e:(vs.any fun kv=>decide (kv.1=k))=true
 · rw [if_pos e,if_pos e];exact r.repl k ry
 · rw [if_neg e,if_neg e];exact Paired.snoc r ⟨rfl,ry⟩
theorem KV.length {kvs:List (κ × V)}{vs:List (κ × Value)} (r:KV kvs vs):kvs.length=vs.length:=Paired.length r
end
theorem kV_is {P:Program}{w:World}{k:Key}{u:Value} (r:RelV (kV k) u):(mixKind P w).is k u=true:=by
 cases k with
 | inl i=>obtain ⟨t,e⟩:=(show ∃ t,u=Value.int i t from r);subst e;exact mixKind_int P w i t
 | inr x=>
  cases x with
  | some x=>obtain ⟨t,e⟩:=(show ∃ t,u=Value.str x t from r);subst e;exact mixKind_str P w x t
  | none=>cases (show u=Value.none from r);rfl
theorem items_are {P:Program}{w:World}:∀ {ks:List Key}{us:List Value},Vals (ks.map kV) us→ItemsAre (mixKind P w) ks us
 | [],_,r=>by rw [List.map_nil] at r;cases r;exact .nil
 | k::ks,_,r=>by
  rw [List.map_cons] at r
  cases r with
  | cons h t=>exact .cons (kV_is h) (items_are t)
abbrev KT (H:Hp):List (List Key × V)→List (List Key × Addr × Value)→Prop:=Paired fun p q=>p.1=q.1∧H q.2.1=some (.tup (p.1.map kV))∧RelV p.2 q.2.2
theorem KT.val {H:Hp}{kvs:List (List Key × V)}{xs:List (List Key × Addr × Value)} (r:KT H kvs xs) (k:List Key):RelO (valV kvs k) ((atKey xs k).map (·.2)):=by
 induction r with
 | nil=>exact True.intro
 | @cons p q ps qs h t ih=>
  obtain ⟨h1,_,h2⟩:=h
  by_cases e:p.1=k
  · have e':q.1=k:=h1.symm.trans e
    have b:atKey (q::qs) k=some q.2:=by simp [atKey,List.find?_cons,e']
    rw [valV_pos e,b];exact h2
  · have e':¬ q.1=k:=fun z=>e (h1.trans z)
    have b:atKey (q::qs) k=atKey qs k:=by simp [atKey,List.find?_cons,e']
    rw [valV_neg e,b];exact ih
theorem KT.repl {H:Hp}{kvs:List (List Key × V)}{xs:List (List Key × Addr × Value)} (r:KT H kvs xs) (k:List Key) {y:V}{u:Value} (ry:RelV y u):
  KT H (kvs.map fun kv=>if kv.1=k then (kv.1,y) else kv) (xs.map (putAt k u)):=by
 induction r with
 | nil=>exact .nil
 | @cons p q ps qs h t ih=>
  rw [List.map_cons,List.map_cons]
  refine .cons ?_ ih
  obtain ⟨h1,h2,h3⟩:=h
  unfold putAt
  by_cases e:p.1=k
  · rw [if_pos e,if_pos (h1.symm.trans e)];exact ⟨h1,h2,ry⟩
  · rw [if_neg e,if_neg (fun z=>e (h1.trans z))];exact ⟨h1,h2,h3⟩
theorem KT.put {H:Hp}{kvs:List (List Key × V)}{xs:List (List Key × Addr × Value)} (r:KT H kvs xs) (k:List Key) {b:Addr}{y:V}{u:Value} (hb:H b=some (.tup (k.map kV))) (ry:RelV y u):
  KT H (putK kvs k y) (storedH xs k b u):=by
 have e:(kvs.any fun kv=>decide (kv.1=k))=(atKey xs k).isSome:=by
  rw [valV_any,(r.val k).isSome_eq,Option.isSome_map]
 unfold putK storedH
 rw [e]
 by_cases q:(atKey xs k).isSome=true
 · rw [if_pos q,if_pos q];exact r.repl k ry
 · rw [if_neg q,if_neg q];exact Paired.snoc r ⟨rfl,hb,ry⟩
theorem KT.keeps {H H':Hp}{kvs:List (List Key × V)}{xs:List (List Key × Addr × Value)} (r:KT H kvs xs) (ht:∀ b ys,H b=some (.tup ys)→H' b=some (.tup ys)):KT H' kvs xs:=
 Paired.mapP r fun _ _ z=>⟨z.1,ht _ _ z.2.1,z.2.2⟩
section
variable {P:Program}{w:World}{H:Hp}{h:Heap}{a:Addr}
theorem rd_of {u:HO} (ok:HOk P w H h) (e:Rd H a u):ObjOk P w H h a u:=e.ok ok
theorem dk_rd {kvs:List (Key × V)} (ok:HOk P w H h) (e:Rd H a (.dK kvs)):kvs.length≤sizeLine∧(a == sysModules)=false∧∃ vs,KV kvs vs∧h.DictOf (mixKind P w) a vs:=
 show ObjOk P w H h a (.dK kvs) from rd_of ok e
theorem dk_of {kvs:List (Key × V)} (ok:HOk P w H h) (e:H a=some (.dK kvs)):kvs.length≤sizeLine∧(a == sysModules)=false∧∃ vs,KV kvs vs∧h.DictOf (mixKind P w) a vs:=dk_rd ok (.inl e)
theorem key_of {ks:List Key} (ok:HOk P w H h) (e:H a=some (.tup (ks.map kV))):(tupleKind (mixKind P w)).is h ks a:=by
 obtain ⟨_,its,r,o,h1,h2,n,h3⟩:=(show ObjOk P w H h a (.tup (ks.map kV)) from ok a _ e)
 exact ⟨o,its.toArray,n,h1,h2,h3,by simpa using items_are r⟩
theorem dt_rd {kvs:List (List Key × V)} (ok:HOk P w H h) (e:Rd H a (.dT kvs)):kvs.length≤sizeLine∧(a == sysModules)=false∧
  ∃ xs,KT H kvs xs∧h.DictOfH (tupleKind (mixKind P w)) a xs:=by
 obtain ⟨z,y,xs,r,o,es,ep,h1,h2,h3,h4,h5⟩:=(show ObjOk P w H h a (.dT kvs) from rd_of ok e)
 refine ⟨z,y,xs,r,o,es,ep,h1,h2,h3,h4,fun x hx=>?_,h5⟩
 have all:∀ {l:List (List Key × V)}{m:List (List Key × Addr × Value)},KT H l m→∀ x∈m,(tupleKind (mixKind P w)).is h x.1 x.2.1:=by
  intro l m q
  induction q with
  | nil=>intro x hx;exact nomatch hx
  | @cons p q ps qs hq t ih=>
   intro x hx
   rcases List.mem_cons.mp hx with e | hx
   · subst e
     exact key_of ok (by rw [← hq.1];exact hq.2.1)
   · exact ih x hx
 exact all r x hx
theorem dt_of {kvs:List (List Key × V)} (ok:HOk P w H h) (e:H a=some (.dT kvs)):kvs.length≤sizeLine∧(a == sysModules)=false∧
  ∃ xs,KT H kvs xs∧h.DictOfH (tupleKind (mixKind P w)) a xs:=dt_rd ok (.inl e)
end
def DGet (H:Hp) (a:Addr) (y:V) (r:Option V):Prop:=
 (∃ kvs k,Rd H a (.dK kvs)∧y=kV k∧r=valV kvs k)∨∃ kvs k b,Rd H a (.dT kvs)∧y=.ref b∧H b=some (.tup (k.map kV))∧r=valV kvs k
def DPut (H:Hp) (a:Addr) (y v:V) (H':Hp):Prop:=
 (∃ kvs k,H a=some (.dK kvs)∧y=kV k∧kvs.length < sizeLine∧H'=upd H a (.dK (putK kvs k v)))∨
 ∃ kvs k b,H a=some (.dT kvs)∧y=.ref b∧H b=some (.tup (k.map kV))∧kvs.length < sizeLine∧H'=upd H a (.dT (putK kvs k v))
theorem DGet.k {H:Hp}{a:Addr}{kvs:List (Key × V)}{k:Key} (e:H a=some (.dK kvs)):DGet H a (kV k) (valV kvs k):=.inl ⟨kvs,k,.inl e,rfl,rfl⟩
theorem DGet.t {H:Hp}{a b:Addr}{kvs:List (List Key × V)}{k:List Key} (e:H a=some (.dT kvs)) (eb:H b=some (.tup (k.map kV))):DGet H a (.ref b) (valV kvs k):=.inr ⟨kvs,k,b,.inl e,rfl,eb,rfl⟩
theorem DPut.k {H:Hp}{a:Addr}{kvs:List (Key × V)}{k:Key}{v:V} (e:H a=some (.dK kvs)) (hl:kvs.length < sizeLine):DPut H a (kV k) v (upd H a (.dK (putK kvs k v))):=.inl ⟨kvs,k,e,rfl,hl,rfl⟩
theorem DPut.t {H:Hp}{a b:Addr}{kvs:List (List Key × V)}{k:List Key}{v:V} (e:H a=some (.dT kvs)) (eb:H b=some (.tup (k.map kV))) (hl:kvs.length < sizeLine):
  DPut H a (.ref b) v (upd H a (.dT (putK kvs k v))):=.inr ⟨kvs,k,b,e,rfl,eb,hl,rfl⟩
section
variable {X:Cx}{pins:List (Addr × Obj)}{σ:St}{H:Hp}{s:Shared}{a:Addr}{y v:V}{u r:Value}{o:Option V}{A:Around}{E:Value→Shared→Prop}
theorem Inv.big (I:Inv X pins σ H s):sysModules < s.heap.objs.size:=by
 have h:mainGlobals < s.heap.objs.size:=(I.mod.glob.keeps I.bk).lt
 exact Nat.lt_trans (by decide) h
theorem d_getItem {Q:Value→Shared→Prop} (hu:A.units+1 < cLine) (I:Inv X pins σ H s) (g:DGet H a y (some v)) (ry:RelV y u) (h:∀ w' s',Inv X pins σ H s'→RelV v w'→Q w' s'):
  wpAny (model X.prog X.w) A (getItem (.ref a) u) Q E s:=by
 rcases g with ⟨kvs,k,e,ey,l⟩ | ⟨kvs,k,b,e,ey,eb,l⟩
 · subst ey
   obtain ⟨z,hd,vs,rel,dd⟩:=dk_rd I.hok e
   obtain ⟨w',hw,rw'⟩:=RelO.some_of (v:=v) (o:=valueAt vs k) (by rw [l];exact rel.val k)
   exact wpAny_getItem_of (kV_is ry) dd.mapOf hw (h w' _ (I.tok _) rw')
 · subst ey
   cases (show u=Value.ref b from ry)
   obtain ⟨z,hd,xs,rel,dd⟩:=dt_rd I.hok e
   obtain ⟨w',hw,rw'⟩:=RelO.some_of (v:=v) (o:=(atKey xs k).map (·.2)) (by rw [l];exact rel.val k)
   obtain ⟨p,hp,hp2⟩:=Option.map_eq_some_iff.mp hw
   refine wpAny_getItem_heap (tupleKind_room_in1 hu) (key_of I.hok eb) dd hp ?_
   rw [hp2]
   exact h w' _ (I.tok _) rw'
theorem d_notIn {Q:Value→Shared→Prop} (hu:A.units+1 < cLine) (I:Inv X pins σ H s) (g:DGet H a y o) (ry:RelV y u) (h:∀ s',Inv X pins σ H s'→Q (.bool (!o.isSome)) s'):
  wpAny (model X.prog X.w) A (compareOp .NotIn u (.ref a)) Q E s:=by
 rcases g with ⟨kvs,k,e,ey,l⟩ | ⟨kvs,k,b,e,ey,eb,l⟩
 · subst ey
   obtain ⟨z,hd,vs,rel,dd⟩:=dk_rd I.hok e
   refine wpAny_notIn_of (kV_is ry) hd dd.mapOf ?_
   rw [← (rel.val k).isSome_eq, ← l]
   exact h _ (I.tok _)
 · subst ey
   cases (show u=Value.ref b from ry)
   obtain ⟨z,hd,xs,rel,dd⟩:=dt_rd I.hok e
   refine wpAny_notIn_heap (tupleKind_room_in1 hu) (key_of I.hok eb) hd dd ?_
   have q:=(rel.val k).isSome_eq
   rw [Option.isSome_map] at q
   rw [← q, ← l]
   exact h _ (I.tok _)
theorem d_write {h':Heap}{t':Nat}{ob:HO} (I:Inv X pins σ H s) (mu:Mut (H a)) (hs:Heap.SameBut a s.heap h') (he:∃ q,h'.get? a=some q) (new:ObjOk X.prog X.w (upd H a ob) h' a ob):
  Inv X pins σ (upd H a ob) { s with heap:=h',toks:=t' }:=
 I.write (x:=a) (e:=a) mu (.inl rfl) (fun b q hb z=>(hs.2 b hb).trans z) he new
theorem dk_new {P:Program}{w:World}{H':Hp}{h':Heap}{kvs:List (Key × V)}{vs:List (Key × Value)} (z:kvs.length≤sizeLine) (hd:(a == sysModules)=false) (rel:KV kvs vs) (dd:h'.DictOf (mixKind P w) a vs):
  ObjOk P w H' h' a (.dK kvs):=⟨z,hd,vs,rel,dd⟩
theorem d_setItem {H':Hp}{Q:Unit→Shared→Prop} (hu:A.units+1 < cLine) (I:Inv X pins σ H s) (g:DPut H a y v H') (ry:RelV y u) (rv:RelV v r) (h:∀ s',Inv X pins σ H' s'→Q () s'):
  wpAny (model X.prog X.w) A (setItem (.ref a) u r) Q E s:=by
 rcases g with ⟨kvs,k,e,ey,l,eH⟩ | ⟨kvs,k,b,e,ey,eb,l,eH⟩
 · subst ey eH
   obtain ⟨z,hd,vs,rel,dd⟩:=dk_of I.hok e
   have hz:vs.length≤sizeLine:=by rw [← rel.length];exact z
   have hl:(putK kvs k v).length≤sizeLine:=by have:=length_putK kvs k v;omega
   refine wpAny_setItem_pairs (hsz:=hz) (kV_is ry) dd fun h' dd' hs=>h _ ?_
   have he:∃ q,h'.get? a=some q:=let ⟨q,_,_,hq,_⟩:=dd';⟨q,hq⟩
   exact d_write I (by rw [e];exact True.intro) hs he (dk_new hl hd (rel.put k rv) dd')
 · subst ey eH
   cases (show u=Value.ref b from ry)
   obtain ⟨z,hd,xs,rel,dd⟩:=dt_of I.hok e
   have hz:xs.length≤sizeLine:=by rw [← Paired.length rel];exact z
   have hl:(putK kvs k v).length≤sizeLine:=by have:=length_putK kvs k v;omega
   refine wpAny_setItem_heap (hsz:=hz) (tupleKind_room_in1 hu) (key_of I.hok eb) dd fun h' dd' hs=>h _ ?_
   obtain ⟨q,es,ep,hq,h2,h3,h4,_,h5⟩:=dd'
   refine d_write I (by rw [e];exact True.intro) hs ⟨q,hq⟩ ⟨hl,hd,_,(rel.put k eb rv).keeps fun c ys ec=>?_,q,es,ep,hq,h2,h3,h4,h5⟩
   rw [upd_ne (ne_of ec e (fun z=>nomatch z))]
   exact ec
end
def NoSl (i:Expr):Prop:=∀ ov iv,subscripted i false ov iv=operate [ov,iv] (getItem ov iv)
theorem subD_of {prog:Program}{w:World}{A:Around}{E:Value→Shared→Prop}{s:Shared}{env:Env}{value slice:Expr}{pos:Pos}{T id:String}{Q:Value→Shared→Prop}
  (hl:typeLookup (.type T) "__getitem__"=pure (some (.builtin id))) (hs:NoSl slice)
  (h:wpAny (model prog w) A (eval value env) (fun o s₁=>wpAny (model prog w) A (eval slice env) (fun i s₂=>s₂.TypeIs o T∧wpAny (model prog w) A (getItem o i) Q E s₂) E s₁) E s):
  wpAny (model prog w) A (eval (.Subscript value slice pos) env) Q E s:=by
 refine Subscript_ (wpAny_mono h (fun o s₁ h₁=>wpAny_mono h₁ (fun i s₂ h₂=>?_) fun _ _ x=>x) fun _ _ x=>x)
 obtain ⟨hT,h₂⟩:=h₂
 unfold subscriptTail
 refine wpAny_bind ?_
 rw [getitemInPython_of_ne hT.not_modules]
 refine wpAny_bind (wpAny_specialOf hT hl ?_)
 have fin:wpAny (model prog w) A (subscripted slice false o i) (fun r s₃=>wpAny (model prog w) A (letTemporaryGo value o r >>= fun _=>pure r) Q E s₃) E s₂:=by
  rw [hs o i]
  exact wpAny_operating (wpAny_mono h₂ (fun r s₃ h₃=>wpAny_bind (wpAny_letTemporaryGo (wpAny_pure h₃))) fun _ _ x=>x)
 first
  | exact wpAny_pure (wpAny_bind fin)
  | exact wpAny_bind (wpAny_pure (wpAny_bind fin))
  | exact wpAny_bind fin
theorem dict_typeIs {X:Cx}{pins:List (Addr × Obj)}{σ:St}{H:Hp}{s:Shared}{a:Addr}{y:V}{o:Option V} (I:Inv X pins σ H s) (g:DGet H a y o):s.TypeIs (.ref a) "dict":=by
 rcases g with ⟨kvs,k,e,_,_⟩ | ⟨kvs,k,b,e,_,_,_⟩
 · obtain ⟨_,_,vs,_,dd⟩:=dk_rd I.hok e
   exact dd.typeIs
 · obtain ⟨_,_,xs,_,dd⟩:=dt_rd I.hok e
   exact dd.typeIs
def tDGet (td ty:TE):TE:=fun σ H Q=>td σ H fun x H1=>ty σ H1 fun y H2=>∃ a v,x=.ref a∧DGet H2 a y (some v)∧Q v H2
def tDNotIn (ty td:TE):TE:=fun σ H Q=>ty σ H fun y H1=>td σ H1 fun x H2=>∃ a o,x=.ref a∧DGet H2 a y o∧Q (.bl (!o.isSome)) H2
def sDPut (td ty tv:TE):TS:=fun D σ H=>tv σ H fun v H1=>td σ H1 fun x H2=>ty σ H2 fun y H3=>∃ a H4,x=.ref a∧DPut H3 a y v H4∧D.nx σ H4
section
variable {X:Cx}{o i e value:Expr}{pos pos' tpos:Pos}{td ty tv:TE}
theorem pe_dget (hu:X.A.units+1 < cLine) (ho:PE X o td) (hi:PE X i ty) (hs:NoSl i):PE X (.Subscript o i pos) (tDGet td ty):=by
 intro pins s σ H Q I h
 refine subD_of PySem.F.slot_dict_getitem.lookup hs (thn (ho pins s σ H _ I h) fun u s1 ⟨x,H1,I1,rx,q1⟩=>thn (hi pins s1 σ H1 _ I1 q1) fun iv s2 ⟨y,H2,I2,ry,a,v,ex,g,q2⟩=>?_)
 subst ex
 obtain rfl:u=Value.ref a:=rx
 exact ⟨dict_typeIs I2 g,d_getItem hu I2 g ry fun w' s3 I3 rw'=>⟨v,H2,I3,rw',q2⟩⟩
theorem pc_dnotin (hu:X.A.units+1 < cLine) (hi:PE X i ty) (ho:PE X o td):PC X .NotIn i o (tDNotIn ty td):=by
 intro pins s σ H Q I h
 refine thn (hi pins s σ H _ I h) fun iv s1 ⟨y,H1,I1,ry,q1⟩=>thn (ho pins s1 σ H1 _ I1 q1) fun u s2 ⟨x,H2,I2,rx,a,ov,ex,g,q2⟩=>?_
 subst ex
 obtain rfl:u=Value.ref a:=rx
 exact d_notIn hu I2 g ry fun s3 I3=>⟨.bl (!ov.isSome),H2,I3,rfl,q2⟩
theorem ps_dput (hu:X.A.units+1 < cLine) (ho:PE X o td) (hi:PE X i ty) (hv:PE X value tv) (hs:swapsWith value (some (.Subscript o i pos')) pos.line X.env=pure false):
  PS X (.Assign [.Subscript o i pos'] value pos) (sDPut td ty tv):=by
 intro pins s σ H D I h
 refine wpAny_Assign_Subscript (thn (hv pins s σ H _ I h) fun r s1 ⟨v,H1,I1,rv,q1⟩=>thn (ho pins s1 σ H1 _ I1 q1) fun u s2 ⟨x,H2,I2,rx,q2⟩=>thn (hi pins s2 σ H2 _ I2 q2) fun iv s3 ⟨y,H3,I3,ry,a,H4,ex,g,q3⟩=>?_) hs
 subst ex
 obtain rfl:u=Value.ref a:=rx
 exact d_setItem hu I3 g ry rv fun s4 I4=>⟨σ,H4,I4,q3⟩
end
theorem dk_empty {P:Program}{w:World}{H:Hp} (h:Heap) (hb:sysModules < h.objs.size):ObjOk P w H (h.push { cls:=.type "dict",data:=.dict #[] }) h.objs.size (.dK []):=
 ⟨Nat.zero_le _,beq_eq_false_iff_ne.mpr (Ne.symm (Nat.ne_of_lt hb)),[],.nil,Heap.DictOf.new h⟩
theorem dt_empty {P:Program}{w:World}{H:Hp} (h:Heap) (hb:sysModules < h.objs.size):ObjOk P w H (h.push { cls:=.type "dict",data:=.dict #[] }) h.objs.size (.dT []):=
 ⟨Nat.zero_le _,beq_eq_false_iff_ne.mpr (Ne.symm (Nat.ne_of_lt hb)),[],.nil,_, #[],0,Heap.get?_push_size _ rfl,⟨rfl,rfl,rfl⟩,rfl,rfl,List.nodup_nil⟩
def tPairs:List (TE × TE)→St→Hp→(List (V × V)→Hp→Prop)→Prop
 | [],_,H,Q=>Q [] H
 | (tk,tv)::r,σ,H,Q=>tk σ H fun x H1=>tv σ H1 fun y H2=>tPairs r σ H2 fun ps H3=>Q ((x,y)::ps) H3
abbrev VV:List (V × V)→List (Value × Value)→Prop:=Paired fun p q=>RelV p.1 q.1∧RelV p.2 q.2
def PPs (X:Cx) (pos:Pos) (keys:List (Option Expr)) (values:List Expr) (trs:List (TE × TE)):Prop:=
 ∀ (pins:List (Addr × Obj)) (s:Shared) (σ:St) (H:Hp) (Q:List (V × V)→Hp→Prop),Inv X pins σ H s→tPairs trs σ H Q→
  wpAny (model X.prog X.w) X.A (evalPairs (pairTrees keys values X.env pos)) (fun vs s'=>∃ ps H',Inv X pins σ H' s'∧VV ps vs∧Q ps H') X.xe s
theorem pps_nil {X:Cx}{pos:Pos}:PPs X pos [] [] []:=fun pins s σ H Q I h=>pairTrees_nil_walk ⟨[],H,I,.nil,h⟩
theorem pps_cons {X:Cx}{pos:Pos}{k v:Expr}{ks:List (Option Expr)}{vs:List Expr}{tk tv:TE}{trs:List (TE × TE)} (hk:PE X k tk) (hv:PE X v tv) (hr:PPs X pos ks vs trs):
  PPs X pos (some k::ks) (v::vs) ((tk,tv)::trs):=fun pins s σ H Q I h=>
 pairTrees_cons_walk (thn (hk pins s σ H _ I h) fun u s1 ⟨x,H1,I1,rx,q1⟩=>thn (hv pins s1 σ H1 _ I1 q1) fun w2 s2 ⟨y,H2,I2,ry,q2⟩=>
  thn (hr pins s2 σ H2 _ I2 q2) fun ws s3 ⟨ps,H3,I3,rel,q3⟩=>⟨(x,y)::ps,H3,I3,.cons ⟨rx,ry⟩ rel,q3⟩)
def mergeK (kvs more:List (Key × V)):List (Key × V):=more.foldl (fun acc kv=>putK acc kv.1 kv.2) kvs
theorem KV.merge:∀ {more:List (Key × V)}{rs:List (Key × Value)}{kvs:List (Key × V)}{vs:List (Key × Value)},KV more rs→KV kvs vs→KV (mergeK kvs more) (merged vs rs):=by
 intro more rs kvs vs r
 unfold KV at r
 induction r generalizing kvs vs with
 | nil=>intro q;exact q
 | @cons p q ps qs h t ih=>
  intro r0
  have e:KV (putK kvs p.1 p.2) (stored vs q.1 q.2):=by
   have:=r0.put p.1 h.2
   rw [← h.1];exact this
  exact ih e
theorem length_mergeK:∀ (more kvs:List (Key × V)),(mergeK kvs more).length≤kvs.length+more.length
 | [],kvs=>by show kvs.length≤kvs.length+0;omega
 | p::r,kvs=>by
  have h1:=length_mergeK r (putK kvs p.1 p.2)
  have h2:=length_putK kvs p.1 p.2
  show (mergeK (putK kvs p.1 p.2) r).length≤_
  rw [List.length_cons];omega
theorem carries_of {P:Program}{w:World}:∀ {kvs:List (Key × V)}{ws:List (Value × Value)},VV (kvs.map fun kv=>(kV kv.1,kv.2)) ws→∃ rs,Carries (mixKind P w) ws rs∧KV kvs rs
 | [],_,r=>by rw [List.map_nil] at r;cases r;exact ⟨[],True.intro,.nil⟩
 | p::kvs,_,r=>by
  rw [List.map_cons] at r
  cases r with
  | @cons a b as bs h t=>
   obtain ⟨rs,c,q⟩:=carries_of (P:=P) (w:=w) t
   obtain ⟨b1,b2⟩:=b
   exact ⟨(p.1,b2)::rs,⟨kV_is h.1,rfl,c⟩,.cons ⟨rfl,h.2⟩ q⟩
def tDisp (trs:List (TE × TE)):TE:=fun σ H Q=>∀ p,H p=none→tPairs trs σ (upd H p (.dK [])) fun ps H2=>H2 p=some (.dK [])∧∃ kvs:List (Key × V),ps=kvs.map (fun kv=>(kV kv.1,kv.2))∧kvs.length≤15∧Q (.ref p) (upd H2 p (.dK (mergeK [] kvs)))
theorem pe_disp {X:Cx}{pos:Pos}{keys:List (Option Expr)}{values:List Expr}{trs:List (TE × TE)} (h:PPs X pos keys values trs) (hall:keys.all (·.isSome)=true) (hl:keys.length=values.length) (h0:keys≠[])
  (h15:keys.length≤15):PE X (.Dict keys values pos) (tDisp trs):=by
 intro pins s σ H Q I q
 have hn:=I.hok.fresh (Nat.le_refl s.heap.objs.size)
 have I1:=I.laid (a:=s.heap.objs.size) (o:=.dK []) (h':=s.heap.push { cls:=.type "dict",data:=.dict #[] }) (t':=s.toks) (fun _ _ q=>Heap.get?_push_of_some _ q) (Nat.le_refl _) (dk_empty s.heap I.big)
 refine wpAny_Dict_walk (knd:=mixKind X.prog X.w) hall hl h0 h15 (thn (h pins _ σ _ _ I1 (q _ hn)) fun ws s2 ⟨ps,H2,I2,rel,e,kvs,ep,lk,q2⟩=>?_)
 subst ep
 obtain ⟨rs,c,rk⟩:=carries_of (P:=X.prog) (w:=X.w) rel
 obtain ⟨z,hd,vs0,r0,dd⟩:=dk_of I2.hok e
 cases r0
 refine ⟨rs,c,dd,fun h' dd' hs=>⟨.ref s.heap.objs.size,_,?_,rfl,q2⟩⟩
 have hz:(mergeK [] kvs).length≤sizeLine:=by
  have h1:=length_mergeK kvs []
  rw [List.length_nil] at h1
  rw [sizeLine_eq];omega
 have he:∃ q,h'.get? s.heap.objs.size=some q:=let ⟨q,_,_,hq,_⟩:=dd';⟨q,hq⟩
 exact d_write I2 (by rw [e];exact True.intro) hs he (dk_new hz hd (rk.merge .nil) dd')
structure M1 (X:Cx) (o:Expr) (m:Str) (apos:Pos) (e:Expr) (cpos:Pos):Prop where
 base:attributeBase o m X.env (eval o X.env)=eval o X.env
 few:((backTo cpos (starEach [e] X.env)).all (fun x=> !x.1) && (backToKw cpos (keywordEach [] X.env)).all (fun x=>x.1.isSome)
  && decide (([e]:List Expr).length+([]:List Keyword).length+(if ([]:List Keyword).isEmpty then 0 else 1) < 30))=true
 line:(apos.endLine == cpos.line)=true
 trees:backTo cpos (starEach [e] X.env)=[(false,eval e X.env)]
def IsD (H:Hp) (a:Addr):Prop:=(∃ kvs,Rd H a (.dK kvs))∨∃ kvs,Rd H a (.dT kvs)
theorem isD_at {X:Cx}{pins:List (Addr × Obj)}{σ:St}{H:Hp}{s:Shared}{a:Addr} (I:Inv X pins σ H s) (d:IsD H a):
  s.TypeIs (.ref a) "dict"∧(∀ b,Value.ref a=.ref b→∃ ob,s.heap.get? b=some ob∧ob.dict=none)∧(a == sysModules)=false:=by
 rcases d with ⟨kvs,e⟩ | ⟨kvs,e⟩
 · obtain ⟨_,hd,vs,_,dd⟩:=dk_rd I.hok e
   refine ⟨dd.typeIs,fun b q=>?_,hd⟩
   cases q
   obtain ⟨ob,_,_,h1,h2,_⟩:=dd
   exact ⟨ob,h1,h2.2.1⟩
 · obtain ⟨_,hd,xs,_,dd⟩:=dt_rd I.hok e
   refine ⟨dd.typeIs,fun b q=>?_,hd⟩
   cases q
   obtain ⟨ob,_,_,h1,h2,_⟩:=dd
   exact ⟨ob,h1,h2.2.1⟩
section
variable {X:Cx}{pins:List (Addr × Obj)}{σ:St}{H:Hp}{s:Shared}{a:Addr}{y d:V}{u r:Value}{o:Option V}{A:Around}{E:Value→Shared→Prop}
theorem d_get1 {Q:Value→Shared→Prop} (hu:A.units+1 < cLine) (I:Inv X pins σ H s) (g:DGet H a y o) (ry:RelV y u) (h:∀ w' s',Inv X pins σ H s'→RelV (o.getD .non) w'→Q w' s'):
  wpAny (model X.prog X.w) A (call (.builtin "dict.get") [.ref a,u]) Q E s:=by
 rcases g with ⟨kvs,k,e,ey,l⟩ | ⟨kvs,k,b,e,ey,eb,l⟩
 · subst ey
   obtain ⟨z,hd,vs,rel,dd⟩:=dk_rd I.hok e
   refine call_meetsIn PySem.F.slot_dict_get dd.typeIs PySem.F.entry_dict_get (PySem.F.args_dict_get_2 _ _) (meets_dict_get (mixKind X.prog X.w) a (kV_is ry) hd) ⟨_,dd.mapOf,h _ _ (I.tok _) ?_⟩
   rw [l]
   exact (rel.val k).getD rfl
 · subst ey
   cases (show u=Value.ref b from ry)
   obtain ⟨z,hd,xs,rel,dd⟩:=dt_rd I.hok e
   refine call_meetsIn PySem.F.slot_dict_get dd.typeIs PySem.F.entry_dict_get (PySem.F.args_dict_get_2 _ _) (meetsH_dict_get (tupleKind (mixKind X.prog X.w)) a b hd) ⟨tupleKind_room_in1 hu,k,xs,key_of I.hok eb,dd,h _ _ (I.tok _) ?_⟩
   rw [l]
   exact (rel.val k).getD rfl
end
section
variable {κ:Type} [DecidableEq κ]
theorem nd_snoc:∀ {l:List κ}{k:κ},l.Nodup→¬ k∈l→(l++[k]).Nodup
 | [],k,_,_=>by simp
 | a::r,k,h,hk=>by
  obtain ⟨h1,h2⟩:=List.nodup_cons.mp h
  show (a::(r++[k])).Nodup
  refine List.nodup_cons.mpr ⟨fun m=>?_,nd_snoc h2 fun m=>hk (List.mem_cons.mpr (Or.inr m))⟩
  rcases List.mem_append.mp m with q | q
  · exact h1 q
  · exact hk (List.mem_cons.mpr (Or.inl (List.mem_singleton.mp q).symm))
end
theorem dk_at {P:Program}{w:World}{H:Hp}{h h':Heap} (e:h'.get? h.objs.size=some { cls:=.type "dict",data:=.dict #[] }) (hb:sysModules < h.objs.size):ObjOk P w H h' h.objs.size (.dK []):=by
 have x:ObjOk P w H (h.push { cls:=.type "dict",data:=.dict #[] }) h.objs.size (.dK []):=dk_empty h hb
 obtain ⟨z,y,vs,r,dd⟩:=x
 exact ⟨z,y,vs,r,dd.at fun o q=>by rw [Heap.get?_push_size _ rfl] at q;cases q;exact e⟩
section
variable {X:Cx}
def tRng (ta:TA):TE:=fun σ H Q=>ta σ H fun vs H1=>∃ j:Int,vs=[.int j]∧∀ p,H1 p=none→Q (.ref p) (upd H1 p (.rng 0 j))
theorem pe_rng {a:Expr}{ta:TA}{p pos:Pos} (hg:Gl X "range") (hm:X.mg "range"=none) (ha:PA X [a] ta) (hs:starEach [a] X.env=[(false,eval a X.env)]:=by rfl):PE X (.Call (.Name "range" p) [a] [] pos) (tRng ta):=by
 intro pins s σ H Q I h
 refine Call_ (ld_blt I hg hm boot_range (PyProof.Rows.callWith_type1 (thn (ha pos pins s σ H _ I h) fun us s1 ⟨vs,H1,I1,r1,q1⟩=>?_) hs rfl))
 obtain ⟨j,e,q⟩:=q1
 subst e
 cases r1 with
 | cons r rr=>
  cases rr
  obtain ⟨t,rfl⟩:=r
  refine call_range_1 ?_
  exact ⟨.ref s1.heap.objs.size,_,I1.laid (o:=.rng 0 j) (fun b u e=>Heap.get?_push_of_some _ e) (Nat.le_refl _) ⟨_,_,_,Heap.get?_push_size _ rfl⟩,rfl,q _ (I1.hok.fresh (Nat.le_refl _))⟩
def rListR (xs:List V) (H:Hp) (Q:VK):Prop:=∃ (r:Addr) (n:Nat),xs=[.ref r]∧H r=some (.rng 0 n)∧n≤1000000∧∀ l,H l=none→Q (.ref l) (upd H l (.lst ((List.range n).map fun (i:Nat)=>V.int i)))
theorem call_listRng (hc:X.calm=true):CallR X (.type "list") (fun xs H Q=>Wr (rListR xs H Q)):=by
 intro pins s σ H xs us Q I r h
 obtain ⟨ra,n,rfl,hr,hn,q⟩:=h.get
 obtain ⟨u,rfl,ru⟩:=r.one
 cases ru
 obtain ⟨t,tu,tv,e⟩:=(show ObjOk X.prog X.w H s.heap ra (.rng 0 n) from I.hok ra _ hr)
 have hsz:Builtin.Range.rangeSize 0 (n:Int) 1=(n:Int):=by rw [rangeSize_one];split <;> omega
 refine call_list_range (n:=n) (I.ok.hd hc) e (small_one (by omega) (by omega) (by omega) (by omega)) hsz (by omega) fun h' tk acc c hk hS hacc=>?_
 refine ⟨.ref s.heap.objs.size,_,I.laid (t':=tk) (o:=.lst ((List.range n).map fun (i:Nat)=>V.int i)) hk (Nat.le_refl _) ?_,rfl,q _ (I.hok.fresh (Nat.le_refl _))⟩
 have hl:sizeLine=16777216:=sizeLine_eq
 refine ⟨by rw [List.length_map,List.length_range];omega,acc.toList,c,?_,by simpa using hS⟩
 have gen:∀ (k:Nat) (l:List Value),l.length=n - k→(∀ j v,l[j]?=some v→∃ t,v=Value.int ((0:Int)+((k+j:Nat):Int) * 1) t)→k≤n→Vals ((List.range' k (n - k)).map fun (i:Nat)=>V.int i) l:=by
  intro k l
  induction l generalizing k with
  | nil=>
   intro hl _ _
   have:n - k=0:=by simpa using hl.symm
   rw [this]
   exact .nil
  | cons v l ih=>
   intro hl hv hk'
   have h1:n - k=(n - (k+1))+1:=by simp at hl;omega
   rw [h1,List.range'_succ,List.map_cons]
   refine .cons ?_ (ih (k+1) (by simp at hl;omega) (fun j v' hj=>?_) (by simp at hl;omega))
   · obtain ⟨t,e⟩:=hv 0 v rfl
     exact ⟨t,by rw [e];simp⟩
   · obtain ⟨t,e⟩:=hv (j+1) v' (by simpa using hj)
     refine ⟨t,?_⟩
     rw [e]
     congr 3
     omega
 have:=gen 0 acc.toList (by simpa using hacc.1) (fun j v hj=>by
  obtain ⟨t,e⟩:=hacc.2 j v (by simpa using hj)
  exact ⟨t,by rw [e];simp⟩) (Nat.zero_le _)
 rw [Nat.sub_zero, ← List.range_eq_range'] at this
 exact this
theorem comp_range {lo:Int}{n:Nat}{ix:List Nat}{te:TE}{σ:St}{H:Hp}{Q:VK}
  (h:∀ D,H D=none→∃ Pv:Nat→List V→Hp→Prop,Pv 0 [] (upd H D (.lst []))∧(∀ i ys H2,Pv i ys H2→H2 D=some (.lst ys)∧ys.length < sizeLine)∧
   (∀ i ys H2,i < n→Pv i ys H2→∀ Q':VK,(∀ y H3,H3 D=some (.lst ys)→Pv (i+1) (ys++[y]) (upd H3 D (.lst (ys++[y])))→Q' y H3)→te (blkSt ix (some (.int (lo+i))) σ) H2 Q')∧∀ ys H2,Pv n ys H2→Q (.ref D) H2):
  ∀ D,H D=none→∃ W:Nat→Nat→List V→Hp→Prop,(∃ m,W 0 m [] (upd H D (.lst [])))∧
   ∀ i m ys H2,W i m ys H2→H2 D=some (.lst ys)∧(((Itr lo n).stop i H2∧Q (.ref D) H2)∨((Itr lo n).go i H2∧ys.length < sizeLine∧∀ x H',(Itr lo n).yld i H2 x H'→te (blkSt ix (some x) σ) H' fun y H3=>
    H3 D=some (.lst ys)∧∃ m',m' < m∧W (i+1) m' (ys++[y]) (upd H3 D (.lst (ys++[y]))))):=by
 intro D hD
 obtain ⟨Pv,p0,pl,ps,pq⟩:=h D hD
 refine ⟨fun i m ys H2=>m=n - i∧i≤n∧Pv i ys H2∧True,⟨n,by simp,Nat.zero_le _,p0,trivial⟩,?_⟩
 rintro i m ys H2 ⟨rfl,hi,p,_⟩
 obtain ⟨e1,e2⟩:=pl i ys H2 p
 refine ⟨e1,?_⟩
 by_cases hlt:i < n
 · refine .inr ⟨hlt,e2,fun x H' y=>?_⟩
   obtain ⟨e,y⟩:=y
   subst e y
   exact ps i ys _ hlt p _ fun y H3 e3 p3=>⟨e3,n - (i+1),by omega,rfl,hlt,p3,trivial⟩
 · have e:i=n:=by omega
   subst e
   exact .inl ⟨Nat.le_refl _,pq ys H2 p⟩
end
open PySem.W
end L2
namespace L2
open PySem PySem.Spec PyProof.Rows
abbrev Ints (H:Hp) (a:Addr) (ns:List Int):Prop:=H a=some (.lst (ns.map V.int))
def cutL {α:Type} (xs:List α) (lo hi:Option Int):List α:=(xs.drop (HT.sIx xs.length 0 lo)).take (HT.sIx xs.length xs.length hi - HT.sIx xs.length 0 lo)
theorem cutV_int (ns:List Int) (lo hi:Option Int):cutV (ns.map V.int) lo hi=(cutL ns lo hi).map V.int:=by
 unfold cutV cutL
 simp [List.map_drop,List.map_take]
theorem cutL_to {α:Type} (xs:List α) (k:Nat):cutL xs none (some (k:Int))=xs.take k:=by
 unfold cutL
 rw [HT.sIx_nat,HT.sIx_none]
 simp only [List.drop_zero,Nat.sub_zero]
 by_cases h:k≤xs.length
 · rw [Nat.min_eq_left h]
 · rw [Nat.min_eq_right (by omega),List.take_of_length_le (Nat.le_refl _),List.take_of_length_le (by omega)]
theorem cutL_from {α:Type} (xs:List α) (k:Nat):cutL xs (some (k:Int)) none=xs.drop k:=by
 unfold cutL
 rw [HT.sIx_nat,HT.sIx_none]
 by_cases h:k≤xs.length
 · rw [Nat.min_eq_left h,List.take_of_length_le (by rw [List.length_drop];exact Nat.le_refl _)]
 · rw [Nat.min_eq_right (by omega),List.drop_of_length_le (Nat.le_refl _),List.drop_of_length_le (by omega)];simp
theorem cutL_ft {α:Type} (xs:List α) (j k:Nat) (h:j≤k):cutL xs (some (j:Int)) (some (k:Int))=(xs.drop j).take (k - j):=by
 unfold cutL
 rw [HT.sIx_nat,HT.sIx_nat]
 by_cases h1:k≤xs.length
 · rw [Nat.min_eq_left h1,Nat.min_eq_left (by omega)]
 · rw [Nat.min_eq_right (show xs.length≤k by omega)]
   by_cases h2:j≤xs.length
   · rw [Nat.min_eq_left h2,List.take_of_length_le (by rw [List.length_drop];exact Nat.le_refl _),List.take_of_length_le (by rw [List.length_drop];omega)]
   · rw [Nat.min_eq_right (by omega),List.drop_of_length_le (Nat.le_refl _),List.drop_of_length_le (by omega)];simp
theorem cutL_len {α:Type} (xs:List α) (lo hi:Option Int):(cutL xs lo hi).length≤xs.length:=by
 unfold cutL
 rw [List.length_take,List.length_drop]
 omega
theorem cutL_sub {α:Type}{xs:List α}{lo hi:Option Int}{v:α} (h:v∈cutL xs lo hi):v∈xs:=List.mem_of_mem_drop (List.mem_of_mem_take h)
theorem atI_int {ns:List Int}{j:Nat} (h:j < ns.length):atI (ns.map V.int) (j:Int)=some (V.int (ns[j]'h)):=atI_nat (by rw [List.getElem?_map,List.getElem?_eq_getElem h];rfl)
theorem get_int {ns:List Int}{i:Nat}{y:V} (h:(ns.map V.int)[i]?=some y):∃ z,y=V.int z∧ns[i]?=some z:=by
 rw [List.getElem?_map] at h
 cases e:ns[i]? with
 | none=>rw [e] at h;cases h
 | some z=>rw [e] at h;exact ⟨z,(Option.some.inj h).symm,rfl⟩
theorem Same.upd {H H1:Hp}{a:Addr}{o:HO} (s:Same H H1) (n:H a=none):Same H (upd H1 a o):=fun b u e=>by
 rw [upd_ne (ne_of_none e n)];exact s b u e
theorem Same.ints {H H':Hp}{a:Addr}{ns:List Int} (e:Same H H') (h:Ints H a ns):Ints H' a ns:=e _ _ h
theorem Ints.other {H:Hp}{a b:Addr}{ns:List Int}{o:HO} (h:Ints H a ns) (n:a≠b):Ints (L2.upd H b o) a ns:=by
 show L2.upd H b o a=_
 rw [upd_ne n];exact h
theorem Ints.fresh {H:Hp}{a b:Addr}{ns:List Int}{o:HO} (h:Ints H a ns) (n:H b=none):Ints (L2.upd H b o) a ns:=h.other (ne_of_none h n)
theorem Ints.put {H:Hp}{a:Addr}{ns:List Int}:Ints (L2.upd H a (.lst (ns.map V.int))) a ns:=upd_same
theorem Ints.snoc {H:Hp}{a:Addr}{ns:List Int}{v:Int}:Ints (L2.upd H a (.lst (ns.map V.int++[V.int v]))) a (ns++[v]):=by
 show L2.upd H a _ a=_
 rw [upd_same,List.map_append];rfl
theorem Same.upd' {H H1:Hp}{a:Addr}{o:HO} (s:Same H H1) (n:H1 a=none):Same H (L2.upd H1 a o):=s.upd (s.free n)
theorem small4k {n:Nat} (h:n≤10000000):n < sizeLine:=Nat.lt_of_le_of_lt h (by decide)
theorem isList_yes {K:PySem.W.Frag}:PySem.W.kitOne K (.type "list") (.type "list")=some true:=by
 show (if (Value.type "list" == Value.type "list")=true then some true else _)=_
 rw [if_pos (by decide)]
theorem isInt_yes {K:PySem.W.Frag}:PySem.W.kitOne K (.type "int") (.type "int")=some true:=by
 show (if (Value.type "int" == Value.type "int")=true then some true else _)=_
 rw [if_pos (by decide)]
theorem intBool_no {K:PySem.W.Frag} (h:PySem.W.kitOne K (.type "int") (.type "bool")=some false:=by rfl):PySem.W.kitOne K (.type "int") (.type "bool")=some false:=h
theorem new_rd {H:Hp}{xs:List V}{Q:VK} (ns:List Int) (e:xs=ns.map V.int) (h:∀ (p:Addr) (H':Hp),H p=none→Ints H' p ns→Same H H'→Q (.ref p) H'):∀ p,H p=none→Q (.ref p) (upd H p (.lst xs)):=fun p hp=>by
 subst e
 exact h p _ hp .put ((Same.refl H).upd hp)
theorem ls_rd {H:Hp}{ns:List Int}{Q:VK} (h:∀ (p:Addr) (H':Hp),H p=none→Ints H' p ns→Same H H'→Q (.ref p) H'):∀ p,H p=none→Q (.ref p) (upd H p (.lst (ns.map V.int))):=new_rd ns rfl h
theorem sl_rd {H:Hp}{ns:List Int}{lo hi:Option Int}{Q:VK} (h:∀ (p:Addr) (H':Hp),H p=none→Ints H' p (cutL ns lo hi)→Same H H'→Q (.ref p) H'):∀ p,H p=none→Q (.ref p) (upd H p (.lst (cutV (ns.map V.int) lo hi))):=new_rd _ (cutV_int ..) h
theorem cat_rd {H:Hp}{ns ms:List Int}{Q:VK} (h:∀ (p:Addr) (H':Hp),H p=none→Ints H' p (ns++ms)→Same H H'→Q (.ref p) H'):∀ p,H p=none→Q (.ref p) (upd H p (.lst (ns.map V.int++ms.map V.int))):=new_rd _ (by rw [List.map_append]) h
theorem rev_rd {H:Hp}{ns:List Int}{Q:VK} (h:∀ (p:Addr) (H':Hp),H p=none→Ints H' p ns.reverse→Same H H'→Q (.ref p) H'):∀ p,H p=none→Q (.ref p) (upd H p (.lst (ns.map V.int).reverse)):=new_rd _ (by rw [List.map_reverse]) h
theorem at_k {ms:List Int} (k:Nat) {i:Int} (h:k < ms.length) (e:i=(k:Int):=by rfl):atI (ms.map V.int) i=some (V.int (ms.getD k 0)):=by
 subst e
 rw [atI_int h]
 simp [List.getD,h]
theorem rd_slice {K:PySem.W.Frag}{H:Hp}{a:Addr}{ns:List Int}{lo hi:Option Int}{Q:VK} (hq:Ints H a ns) (h:∀ (p:Addr) (H':Hp),H p=none→Ints H' p (cutL ns lo hi)→Same H H'→Q (.ref p) H'):Wr (rSlL K (.ref a) lo hi H Q):=⟨⟨a,_,rfl,SqL.of hq,sl_rd h⟩⟩
theorem rd_cat {H:Hp}{a b:Addr}{ns ms:List Int}{Q:VK} (ha:Ints H a ns) (hb:Ints H b ms) (hl:ns.length+ms.length≤10000000) (h:∀ (p:Addr) (H':Hp),H p=none→Ints H' p (ns++ms)→Same H H'→Q (.ref p) H'):Wr (rCat (.ref a) (.ref b) H Q):=
 ⟨⟨a,b,_,_,rfl,rfl,ha,hb,by simp only [List.length_map];exact Nat.le_of_lt (small4k hl),cat_rd h⟩⟩
theorem rd_rev {K:PySem.W.Frag}{H:Hp}{a:Addr}{ns:List Int}{Q:VK} (hq:SqL K H a (ns.map V.int)) (h:∀ (p:Addr) (H':Hp),H p=none→Ints H' p ns.reverse→Same H H'→Q (.ref p) H'):Wr (rRev K (.ref a) H Q):=⟨⟨a,_,rfl,hq,rev_rd h⟩⟩
theorem rd_at {K:PySem.W.Frag}{H:Hp}{a:Addr}{ns:List Int}{i:Int}{Q:VK} (k:Nat) (hq:Ints H a ns) (hk:k < ns.length) (h:Q (.int (ns.getD k 0)) H) (e:i=(k:Int):=by rfl):Wr (rIxL K (.ref a) (.int i) H Q):=⟨⟨a,_,i,_,rfl,rfl,SqL.of hq,at_k k hk e,h⟩⟩
theorem ite_key {c:Bool}{A:Prop}{H2:Hp}{K:Hp→Prop} (P:Hp→Prop) (hP:P H2) (key:∀ H,P H→K H) (h1:(∀ H,P H→K H)→A):if c=true then A else K H2:=by
 cases c with
 | true=>rw [if_pos rfl];exact h1 key
 | false=>rw [if_neg Bool.false_ne_true];exact key _ hP
theorem rd_eq {K:PySem.W.Frag}{H:Hp}{a b:Addr}{ns ms:List Int}{Q:VK} (ha:Ints H a ns) (hb:Ints H b ms) (h:Q (.bl (decide (ns=ms))) H):Wr (rEqI K (.ref a) (.ref b) H Q):=⟨⟨a,b,ns,ms,rfl,rfl,SqL.of ha,SqL.of hb,h⟩⟩
theorem rd_ne {K:PySem.W.Frag}{H:Hp}{a b:Addr}{ns ms:List Int}{Q:VK} (ha:Ints H a ns) (hb:Ints H b ms) (h:Q (.bl (!decide (ns=ms))) H):Wr (rNeI K (.ref a) (.ref b) H Q):=⟨⟨a,b,ns,ms,rfl,rfl,SqL.of ha,SqL.of hb,h⟩⟩
theorem rd_nsame {K:PySem.W.Frag}{H:Hp}{a b:Addr}{ns ms:List Int}{Q:VK} (ha:Ints H a ns) (hb:Ints H b ms) (e:ns=ms) (h:Q (.bl false) H):Wr (rNeI K (.ref a) (.ref b) H Q):=rd_ne ha hb (by rw [decide_eq_true e];exact h)
theorem rd_lst {H:Hp}{xs:List V}{Q:VK} (ns:List Int) (h:∀ (p:Addr) (H':Hp),H p=none→Ints H' p ns→Same H H'→Q (.ref p) H') (e:xs=ns.map V.int:=by rfl) (hl:ns.length≤1000:=by simp):Wr (rLst xs H Q):=by
 subst e
 exact ⟨⟨by rw [List.length_map];exact Nat.le_of_lt (small4k (by omega)),ls_rd h⟩⟩
structure Rdy (P:Program) (w:World) (K:PySem.W.Frag) (mg:Str→Option Value) (base:Heap) (x:Str) (ps:List Str) (k:Nat) (sp:Sp) where
 f:Addr
 fd:FuncData
 ok:FnOk P w K mg base CX0 k f fd ps sp
 mgx:mg x=some (.ref f)
 kp:PySem.W.keepIn K (.ref f)=true
 bd:Binds K fd ps []
theorem Rdy.pe {X:Cx}{x:Str}{ps:List Str}{k j:Nat}{sp:Sp}{e:Expr}{es:List Expr}{t:TA}{p pos:Pos} (R:Rdy X.prog X.w X.K X.mg X.base x ps k sp) (hr:Room j X.A) (ha:PA X (e::es) t) (hg:Gl X x:=by rfl) (hj:k≤j:=by decide)
  (hdb:(x == ("__debug__":Str))=false:=by decide) (he:starEach (e::es) X.env=(false,eval e X.env)::starEach es X.env:=by rfl) (hpl:(backTo pos (starEach es X.env)).any (·.1)=false:=by rfl):
  PE X (.Call (.Name x p) (e::es) [] pos) (tCall sp [] E0 t):=pe_call R.ok (hr.mono hj) hg R.mgx R.kp R.bd .nil pass0 ha hdb he hpl
end L2
set_option maxHeartbeats 4000000
namespace My
open PySem L2
structure Txt (K:PySem.W.Frag) (mg:Str→Option Value):Prop where
 len:mg "len"=none
 range:mg "range"=none
 list:mg "list"=none
 int:mg "int"=none
 bool:mg "bool"=none
 inst:mg "isinstance"=none
 tuple:mg "tuple"=none
 abs:mg "abs"=none
 enum:mg "enumerate"=none
 str:mg "str"=none
def spNumL (K:PySem.W.Frag):Sp:=fun vs H Q _=>∃ (a:Addr) (ns:List Int) (many:Nat),vs=[.ref a,.int many]∧SqL K H a (ns.map V.int)∧ns.length≤63∧many≤1000∧
 ∀ (l:Addr) (ms:List Int) (H':Hp),ms.length=many→True→H l=none→Ints H' l ms→Same H H'→Q (.ref l) H'
theorem pow18:((10:Int) ^ (18:Int).toNat)=1000000000000000000:=by decide
def letterOf (k d:Int):Int:=(d % (2 * k) / 2+1) * (1 - 2 * (d % 2))
def spWay (K:PySem.W.Frag):Sp:=fun vs H Q _=>∃ (a:Addr) (ns:List Int) (k:Int),vs=[.ref a,.int k]∧SqL K H a (ns.map V.int)∧ns.length≤10000∧1≤k∧k≤5∧
 ∀ (l:Addr) (H':Hp),H l=none→Ints H' l (ns.map (letterOf k))→Same H H'→Q (.ref l) H'
theorem bt_list:bootBuiltins "list"=some (.type "list"):=by decide+kernel
theorem bt_int:bootBuiltins "int"=some (.type "int"):=by decide+kernel
theorem bt_bool:bootBuiltins "bool"=some (.type "bool"):=by decide+kernel
theorem bt_inst:bootBuiltins "isinstance"=some (.builtin "isinstance"):=by decide+kernel
theorem bt_abs:bootBuiltins "abs"=some (.builtin "abs"):=by decide+kernel
theorem bt_enum:bootBuiltins "enumerate"=some (.type "enumerate"):=by decide+kernel
def push:List Int→Int→List Int
 | [],x=>[x]
 | t::r,x=>if t= -x then r else x::t::r
def cut (w:List Int):List Int:=(w.foldl push []).reverse
theorem push_len (st:List Int) (x:Int):(push st x).length≤st.length+1:=by
 cases st with
 | nil=>simp [push]
 | cons t r=>
  show (if t= -x then r else x::t::r).length≤_
  split <;> simp only [List.length_cons] <;> omega
theorem fold_len (w:List Int):∀ st:List Int,(w.foldl push st).length≤st.length+w.length:=by
 induction w with
 | nil=>intro st;simp
 | cons x w ih=>
  intro st
  have:=ih (push st x)
  have h2:=push_len st x
  simp only [List.foldl_cons,List.length_cons]
  omega
theorem take_fold {ns:List Int}{i:Nat}{z:Int} (h:ns[i]?=some z):(ns.take (i+1)).foldl push []=push ((ns.take i).foldl push []) z:=by
 obtain ⟨hi,e⟩:=List.getElem?_eq_some_iff.mp h
 rw [List.take_succ_eq_append_getElem hi,List.foldl_append,e]
 rfl
def spCan (K:PySem.W.Frag):Sp:=fun vs H Q _=>∃ (a:Addr) (ns:List Int),vs=[.ref a]∧SqL K H a (ns.map V.int)∧ns.length≤100000∧
 ∀ (l:Addr) (H':Hp),H l=none→Ints H' l (cut ns)→Same H H'→Q (.ref l) H'
theorem cutL_init {α:Type} (xs:List α) (v:α):cutL (xs++[v]) none (some (-1))=xs:=by
 have e:HT.sIx (xs++[v]).length (xs++[v]).length (some (-1))=xs.length:=by
  simp only [HT.sIx]
  rw [if_pos (by decide)]
  simp;omega
 unfold cutL
 rw [e,HT.sIx_none]
 simp
def spTurn (K:PySem.W.Frag):Sp:=fun vs H Q _=>∃ (a:Addr) (ns:List Int),vs=[.ref a]∧SqL K H a (ns.map V.int)∧ns.length≤100000∧
 ∀ (l:Addr) (H':Hp),H l=none→Ints H' l (ns.reverse.map (- ·))→Same H H'→Q (.ref l) H'
def spIs:Sp:=fun vs H Q _=>∃ (a:Addr) (ns:List Int),vs=[.ref a]∧Ints H a ns∧Q (.bl true) H
theorem cut_len (w:List Int):(cut w).length≤w.length:=by
 have:=fold_len w []
 unfold cut
 rw [List.length_reverse]
 simpa using this
def spLaw (K:PySem.W.Frag):Sp:=fun vs H Q _=>∃ (a:Addr) (ns:List Int),vs=[.ref a]∧SqL K H a (ns.map V.int)∧ns.length≤63∧∀ H',Q (.bl true) H'
abbrev turn (w:List Int):List Int:=w.reverse.map (- ·)
theorem turn_cons (x:Int) (w:List Int):turn (x::w)=turn w++[-x]:=by simp [turn]
theorem turn_append (u v:List Int):turn (u++v)=turn v++turn u:=by simp [turn]
theorem turn_length (w:List Int):(turn w).length=w.length:=by simp [turn]
abbrev Ps:=List (Addr × List Int)
def Tp (H:Hp) (ps:Ps):Prop:=∀ p∈ps,H p.1=some (.tup (p.2.map V.int))
structure Tl (H:Hp) (l:Addr) (ps:Ps):Prop where
 is:H l=some (.lst (ps.map fun p=>V.ref p.1))
 tp:Tp H ps
theorem Tl.same {H H':Hp}{l:Addr}{ps:Ps} (h:Tl H l ps) (s:Same H H'):Tl H' l ps:=⟨s _ _ h.is,fun p hp=>s _ _ (h.tp p hp)⟩
def lab0 (n:Nat):List Int:=(List.range n).map fun (i:Nat)=>(i:Int)
theorem rd_range {K:PySem.W.Frag}{H:Hp}{r:Addr}{n:Nat}{Q:VK} (hr:H r=some (.rng 0 n)) (hn:n≤1000000) (h:∀ (p:Addr) (H':Hp),H p=none→Ints H' p (lab0 n)→Same H H'→Q (.ref p) H'):Wr (rListR [.ref r] H Q):=
 ⟨⟨r,n,rfl,hr,hn,new_rd _ (by simp [lab0,List.map_map,Function.comp_def]) h⟩⟩
def Kp (g:Addr) (H H':Hp):Prop:=∀ b o,H b=some o→b≠g→H' b=some o
theorem hcl_nil {cells:List (Str × Addr)}:∀ z c,([]:List (Str × Addr)).lookup z=some c→cells.lookup z=some c:=fun z c h=>by cases h
theorem iteTe {c:Bool}{A B:Prop} (e:c=true) (h:A):if c=true then A else B:=by rw [if_pos e];exact h
theorem iteFe {c:Bool}{A B:Prop} (e:c=false) (h:B):if c=true then A else B:=by rw [e];exact iteF h
theorem get_ref {ps:Ps}{i:Nat}{y:V} (h:(ps.map fun p=>V.ref p.1)[i]?=some y):∃ p,y=V.ref p.1∧ps[i]?=some p:=by
 rw [List.getElem?_map] at h
 cases e:ps[i]? with
 | none=>rw [e] at h;cases h
 | some z=>rw [e] at h;exact ⟨z,(Option.some.inj h).symm,rfl⟩
theorem take_fold' {α β:Type}{f:β→α→β}{b:β}{ps:List α}{i:Nat}{z:α} (h:ps[i]?=some z):(ps.take (i+1)).foldl f b=f ((ps.take i).foldl f b) z:=by
 obtain ⟨hi,e⟩:=List.getElem?_eq_some_iff.mp h
 rw [List.take_succ_eq_append_getElem hi,List.foldl_append,e]
 rfl
structure Rdm (P:Program) (w:World) (K:PySem.W.Frag) (mg:Str→Option Value) (base:Heap) (C:Addr) (m:Str) (ps:List Str) (k:Nat) (sp:Sp) where
 f:Addr
 fd:FuncData
 ok:FnOk P w K mg base CX0 k f fd ps sp
 cl:Cls K C
 mt:Meth K C m f
 bd:Binds K fd ps []
theorem Rdm.pe {X:Cx}{m:Str}{C:Addr}{ps:List Str}{k j:Nat}{sp:Sp}{o e:Expr}{es:List Expr}{ta:TE}{t:TA}{apos pos:Pos}{pl:Sem Bool} (R:Rdm X.prog X.w X.K X.mg X.base C m ps k sp) (hr:Room j X.A) (ho:PE X o ta) (ha:PA X (e::es) t) (hj:k≤j:=by decide)
  (he:starEach (e::es) X.env=(false,eval e X.env)::starEach es X.env:=by rfl) (hpl:(backTo pos (starEach es X.env)).any (·.1)=false:=by rfl)
  (ht:eval (.Call (.Attribute o m apos) (e::es) [] pos) X.env=(do
   let ov ← eval o X.env
   standAt apos.atName
   let (f,first) ← holding [ov] (getMethod ov m pl)
   callWith pos f first (backTo pos (starEach (e::es) X.env)) (backToKw pos (keywordEach [] X.env))):=by rfl):
  PE X (.Call (.Attribute o m apos) (e::es) [] pos) (tMeth C m sp [] E0 ta t):=pe_meth ho R.cl R.mt R.ok (hr.mono hj) R.bd .nil pass0 ha he hpl ht
structure Rdk (P:Program) (w:World) (K:PySem.W.Frag) (mg:Str→Option Value) (base:Heap) (C:Addr) (x:Str) (ps:List Str) (k:Nat) (sp:Sp) where
 f:Addr
 fd:FuncData
 ok:FnOk P w K mg base CX0 k f fd ps sp
 mkf:Mk K C f
 mgx:mg x=some (.ref C)
 bd:Binds K fd ps []
theorem Rdk.pe {X:Cx}{x:Str}{C:Addr}{ps:List Str}{k j:Nat}{sp:Sp}{e:Expr}{es:List Expr}{t:TA}{p pos:Pos} (R:Rdk X.prog X.w X.K X.mg X.base C x ps k sp) (hr:Room j X.A) (ha:PA X (e::es) t) (hg:Gl X x:=by rfl) (hj:k+1≤j:=by decide)
  (hdb:(x == ("__debug__":Str))=false:=by decide) (he:starEach (e::es) X.env=(false,eval e X.env)::starEach es X.env:=by rfl) (hpl:(backTo pos (starEach es X.env)).any (·.1)=false:=by rfl):
  PE X (.Call (.Name x p) (e::es) [] pos) (tMake C sp [] E0 t):=pe_make R.mkf R.ok (hr.mono hj) hg R.mgx R.bd .nil pass0 ha hdb he hpl
open PySem.SeqAt PyProof.Rows
theorem rd_atV {K:PySem.W.Frag}{H:Hp}{a:Addr}{xs:List V}{i:Int}{v:V}{Q:VK} (hq:H a=some (.lst xs)) (e:atI xs i=some v) (h:Q v H):Wr (rIxL K (.ref a) (.int i) H Q):=⟨⟨a,xs,i,v,rfl,rfl,SqL.of hq,e,h⟩⟩
theorem rd_lstV {H:Hp}{xs:List V}{Q:VK} (hl:xs.length≤1000) (h:∀ (p:Addr) (H':Hp),H p=none→H' p=some (.lst xs)→Same H H'→Q (.ref p) H'):Wr (rLst xs H Q):=
 ⟨⟨Nat.le_of_lt (small4k (by omega)),fun p hp=>h p _ hp upd_same ((Same.refl H).upd hp)⟩⟩
theorem Rdm.pe0 {X:Cx}{m:Str}{C:Addr}{ps:List Str}{k j:Nat}{sp:Sp}{o:Expr}{ta:TE}{apos pos:Pos}{pl:Sem Bool} (R:Rdm X.prog X.w X.K X.mg X.base C m ps k sp) (hr:Room j X.A) (ho:PE X o ta) (hj:k≤j:=by decide)
  (ht:eval (.Call (.Attribute o m apos) [] [] pos) X.env=(do
   let ov ← eval o X.env
   standAt apos.atName
   let (f,first) ← holding [ov] (getMethod ov m pl)
   callWith pos f first (backTo pos (starEach [] X.env)) (backToKw pos (keywordEach [] X.env))):=by rfl):
  PE X (.Call (.Attribute o m apos) [] [] pos) (tMeth C m sp [] E0 ta tNil):=pe_meth0 ho R.cl R.mt R.ok (hr.mono hj) R.bd .nil pass0 ht
end My
namespace L2
open PySem PySem.Spec PyProof.Rows
def rComp (J:It) (ix:List Nat) (te:TE) (σ:St) (H1:Hp) (Q:VK):Prop:=∀ D,H1 D=none→∃ W:Nat→Nat→List V→Hp→Prop,(∃ m,W 0 m [] (upd H1 D (.lst [])))∧
 ∀ i m ys H2,W i m ys H2→H2 D=some (.lst ys)∧((J.stop i H2∧Q (.ref D) H2)∨(J.go i H2∧ys.length < sizeLine∧∀ x H',J.yld i H2 x H'→te (blkSt ix (some x) σ) H' fun y H3=>
  H3 D=some (.lst ys)∧∃ m',m' < m∧W (i+1) m' (ys++[y]) (upd H3 D (.lst (ys++[y])))))
def rCompIf (J:It) (ix:List Nat) (tt:TT) (te:TE) (σ:St) (H1:Hp) (Q:VK):Prop:=∀ D,H1 D=none→∃ W:Nat→Nat→List V→Hp→Prop,(∃ m,W 0 m [] (upd H1 D (.lst [])))∧
 ∀ i m ys H2,W i m ys H2→H2 D=some (.lst ys)∧((J.stop i H2∧Q (.ref D) H2)∨(J.go i H2∧ys.length < sizeLine∧∀ x H',J.yld i H2 x H'→tt (blkSt ix (some x) σ) H' fun b H3=>if b=true then te (blkSt ix (some x) σ) H3 (fun y H4=>
  H4 D=some (.lst ys)∧∃ m',m' < m∧W (i+1) m' (ys++[y]) (upd H4 D (.lst (ys++[y])))) else ∃ m',m' < m∧W (i+1) m' ys H3))
def tCompW (wi:TI) (ix:List Nat) (te:TE):TE:=fun σ H Q=>wi σ H fun J H1=>Wr (rComp J ix te σ H1 Q)
def Cx.blkC (X:Cx) (N:List Str) (scope:Scope) (cl:List (Str × Addr)) (x:Str) (C:Addr) (s:Shared) (H:Hp) (fp:List Addr):Cx:=
 { prog:=X.prog,w:=X.w,K:=X.K,mg:=X.mg,base:=X.base,A:=X.A,N:=N,s₀:=s,H₀:=H,env:=compEnvC scope ((x,C+1)::cl) C X.env,outer:=X.stack,stack:=X.stack,ex:=fp,fn:=fun y=>y == x,calm:=X.calm,pn:=[],xe:=fun _ _=>False }
theorem nfe_cells {M:Model}{A:Around}{E:Value→Shared→Prop}{s:Shared}{scope:Scope}{globals:Addr}{closure:List (Str × Addr)}{qual:Str}{env:Env}{Q:Env→Shared→Prop}
  (h:Q (newEnv scope s.heap.objs.size globals (cellsFrom (s.heap.objs.size+1) scope.names closure) qual none .none (some env) builtinsNs) { s with heap:=pushCells (s.heap.push { cls:=.type "dict",data:=.dict #[] }) scope.names }):
  wpAny M A (newFunctionEnv scope globals closure [] qual none .none (some env)) Q E s:=by
 simp only [newFunctionEnv,Option.isSome_some,if_true]
 refine wpAny_bind (wpAny_alloc ?_)
 refine wpAny_bind (wpAny_layCells _ (fun name kind cells=>by cases hkc:kind == NameKind.cell <;> simp [hkc]) _ _ _ _ ?_)
 rw [show ({ s with heap:=s.heap.push { cls:=.type "dict",data:=.dict #[] } }:Shared).heap.objs.size=s.heap.objs.size+1 from Heap.size_push ..]
 exact wpAny_bind (by rw [List.forIn_nil];exact wpAny_pure (wpAny_pure h))
structure CompB (X:Cx) (scope:Scope) (cl:List (Str × Addr)) (x:Str) (fr:List Str) (ix:List Nat) (iter:Expr):Prop where
 clos:closureFor scope X.env=pure cl
 calm:X.calm=true
 kind:scope.kind=.function
 cell:(scope.names.all fun p=>p.2 != .cell)=true
 names:(scope.names.all fun p=>p.2 != .local || scope.names.lookup p.1 == some .local)=true
 hx:scope.names.lookup x=some .local
 hN:(x::fr).Nodup
 hix:ix.map (fun i=>X.N[i]?)=fr.map some
 fr:(fr.all fun y=>X.env.kindOf y == some .cell && (relabel scope X.env).names.lookup y == some .cell)=true
 cl2:((relabel scope X.env).names.all fun p=>(p.2 != .cell && p.2 != .free) || (cl.lookup p.1).isSome)=true
 hs:∀ x,foldedSetIterable iter X.env x=pure x
section
variable {X:Cx}{x:Str}{px pos:Pos}{elt iter:Expr}{scope:Scope}{cl:List (Str × Addr)}{fr:List Str}{ix:List Nat}{wi:TI}{te:TE}{tt:TT}{ifs:List Expr}
theorem CompB.cell' (k:CompB X scope cl x fr ix iter):∀ y∈scope.names,y.2≠.cell:=fun y hy e=>by
 have:=List.all_eq_true.mp k.cell y hy
 rw [e] at this
 exact absurd this (by decide)
theorem CompB.names' (k:CompB X scope cl x fr ix iter):∀ y∈scope.names,y.2=.local→scope.names.lookup y.1=some .local:=fun y hy e=>by
 have:=List.all_eq_true.mp k.names y hy
 rw [e] at this
 simpa using this
theorem CompB.fr' (k:CompB X scope cl x fr ix iter):∀ y∈fr,X.env.kindOf y=some .cell∧(relabel scope X.env).names.lookup y=some .cell:=fun y hy=>by
 have:=List.all_eq_true.mp k.fr y hy
 rw [Bool.and_eq_true] at this
 exact ⟨eq_of_beq this.1,eq_of_beq this.2⟩
theorem CompB.cl2' (k:CompB X scope cl x fr ix iter):∀ y,((relabel scope X.env).names.lookup y=some .cell∨(relabel scope X.env).names.lookup y=some .free)→∃ c,cl.lookup y=some c:=fun y hy=>by
 have:∃ k,(relabel scope X.env).names.lookup y=some k∧(k=.cell∨k=.free):=by
  rcases hy with h | h
  · exact ⟨_,h,.inl rfl⟩
  · exact ⟨_,h,.inr rfl⟩
 obtain ⟨k',e,hk'⟩:=this
 have:=List.all_eq_true.mp k.cl2 (y,k') (PySem.mem_of_lookup e)
 have h2:(cl.lookup y).isSome=true:=by
  rcases hk' with rfl | rfl <;> simpa using this
 exact Option.isSome_iff_exists.mp h2
def OneIf (B:Cx→Prop) (ifs:List Expr) (tt:TT):Prop:=(ifs=[]∧tt=fun _ H Q=>Q true H)∨∃ ct,ifs=[ct]∧∀ Y,B Y→PT Y ct tt
theorem tests_of {B:Cx}{BB:Cx→Prop}{pins:List (Addr × Obj)}{σ:St}{H:Hp}{s:Shared}{Q:Bool→Hp→Prop} (hif:OneIf BB ifs tt) (hb:BB B) (I:Inv B pins σ H s) (h:tt σ H Q):
  wpAny (model B.prog B.w) B.A (forIn ifs true fun c r=>if r=true then do
   let ok ← PySem.isTrue c B.env (eval c B.env)
   pure (ForInStep.yield ok) else pure (ForInStep.yield r)) (fun b s'=>∃ H',Inv B pins σ H' s'∧Q b H') B.xe s:=by
 rcases hif with ⟨rfl,rfl⟩ | ⟨ct,rfl,ht⟩
 · rw [List.forIn_nil]
   exact wpAny_pure ⟨_,I,h⟩
 · exact wpAny_tests_one (wpAny_mono (ht B hb _ s _ H _ I h) (fun bb s6 ⟨H6,I6,q6⟩=>⟨H6,I6,q6⟩) fun _ _ z=>z)
theorem lcomp_gen {use:Option (Value→Sem Unit)}{Post:Value→Shared→Prop}{p0:Pos} (k:CompB X scope cl x fr ix iter) (hi:PI X (.Name x px) iter wi) (hcl:∀ y c,cl.lookup y=some c→X.env.cells.lookup y=some c)
  (he:∀ C s H fp,PE (X.blk (x::fr) scope cl C s H fp) elt te) (hif:OneIf (fun Y=>∃ C s H fp,Y=X.blk (x::fr) scope cl C s H fp) ifs tt)
  {pins:List (Addr × Obj)}{s:Shared}{σ:St}{H:Hp}{Q:VK} (I:Inv X pins σ H s) {R:It→Hp→Prop} (h:wi σ H R) (hR:∀ J H1,R J H1→Wr (rCompIf J ix tt te σ H1 Q))
  (fin:∀ (s2 s4:Shared) (H2 H3:Hp) (fp:List Addr) (C:Addr) (x':Option V),Inv X pins σ H2 s2→(∀ b∈fp,FpOk X pins H2 b)→C=s2.heap.objs.size+1→(∀ b o,s2.heap.get? b=some o→b≠C)→Inv (X.blk (x::fr) scope cl C s2 H2 fp) [] (blkSt ix x' σ) H3 s4→Q (.ref s2.heap.objs.size) H3→
   ∀ a,compPost (model X.prog X.w) X.A X.xe use Post (.ref s2.heap.objs.size) C (.ok a) s4):
  wpAny (model X.prog X.w) X.A (comprehension (.ListComp elt [⟨.Name x px,iter,ifs,0⟩] scope pos) scope X.env p0 (newList []) false (eval iter X.env) use) Post X.xe s:=by
 refine wpAny_comprehension_free rfl k.hs k.clos k.kind k.names' (thn (hi pins s σ H _ I h) fun xv s1 h1=>thn h1 fun itv s2 h2=>?_)
 obtain ⟨it,fp,tn,J,H2,e,I2,T,st2,f2,q⟩:=h2
 have q:=hR J H2 q
 subst e
 refine wpAny_newObj_type (wpAny_newFunctionEnv k.cell' (by intro y hy;simp at hy) (fun h₁ hns₁ hsb₁=>?_) k.kind)
 dsimp only at hns₁ hsb₁ ⊢
 have hDn:H2 s2.heap.objs.size=none:=I2.hok.fresh (Nat.le_refl _)
 obtain ⟨W,⟨m0,w0⟩,turn⟩:=q.get s2.heap.objs.size hDn
 generalize hHL:s2.heap.push { cls:=.type "list",dict:=none,data:=.seq ([]:List Value).toArray }=HL at hns₁ hsb₁ ⊢
 have hC:HL.objs.size=s2.heap.objs.size+1:=by rw [← hHL,Heap.size_push]
 have old:∀ b o,s2.heap.get? b=some o→h₁.get? b=some o:=fun b o e=>(hsb₁.2 b (by rw [hC];exact Nat.ne_of_lt (Nat.lt_succ_of_lt (Heap.lt_size e)))).trans (Heap.get?_push_of_some _ (hHL▸Heap.get?_push_of_some _ e))
 have hD1:h₁.get? s2.heap.objs.size=some { cls:=.type "list",data:=.seq ([]:List Value).toArray }:=
  (hsb₁.2 _ (by rw [hC];exact Nat.ne_of_lt (Nat.lt_succ_self _))).trans (Heap.get?_push_of_some _ (hHL▸Heap.get?_push_size _ rfl))
 generalize hCC:HL.objs.size=C at hns₁ hsb₁ ⊢
 rw [hCC] at hC
 have bC:∀ b o,s2.heap.get? b=some o→b≠C:=fun b o e=>by rw [hC];exact Nat.ne_of_lt (Nat.lt_succ_of_lt (Heap.lt_size e))
 have stl:∀ b∈frs X.stack,∃ o,s2.heap.get? b=some o:=fun b hb=>by
  obtain ⟨_,o,ho,_⟩:=I2.stack.mem hb
  exact ⟨o,ho⟩
 have fpl:∀ b∈fp,∃ o,s2.heap.get? b=some o∧∀ v,o.data≠.cell v:=fun b hb=>T.obj 0 _ st2 b hb
 have fpstk:∀ b∈fp,b∉frs X.stack:=fun b hb z=>by
  rcases List.mem_cons.mp (I2.stkSub b z) with z | z
  · exact (f2 b hb).2.1 z
  · exact (f2 b hb).2.2.1 z
 let B:=X.blk (x::fr) scope cl C s2 H2 fp
 have okB:B.Ok:=by
  refine ⟨I2.ok.mod,k.kind,I2.ok.glob,I2.ok.blt,(by show s2.heap.objs.size≤C;rw [hC];exact Nat.le_succ _),fun y z c e1 e2=>I2.ok.inj y z c (hcl _ _ e1) (hcl _ _ e2),fun y hy=>k.cl2' y hy,fun y c z=>absurd (show false=true from z) Bool.false_ne_true,
   fun _=>I2.ok.hd k.calm,I2.ok.frames,.inl rfl,fun b hb=>⟨?_,fun y c e=>(f2 b hb).2.2.2.2.1 y c (hcl _ _ e)⟩,I2.bs,Nat.le_trans I2.ok.bsz I2.sz,fun b o e hb=>?_,fun b hb=>fpstk b hb,I2.stack,I2.stkFree⟩
  · obtain ⟨o,e,_⟩:=fpl b hb
    exact bC b o e
  · rcases (f2 b hb).2.2.2.1 with z | z
    · exact I2.ok.noex b o e z
    · exact absurd (Nat.lt_of_lt_of_le (Heap.lt_size (I2.ok.bs b o e).1) z) (Nat.lt_irrefl _)
 have IB:∀ tk,Inv B [] (blkSt ix none σ) (upd H2 s2.heap.objs.size (.lst [])) { s2 with heap:=h₁,toks:=tk }:=fun tk=>by
  refine ⟨okB,rfl,I2.bare,Un.laid old (Nat.le_refl _) hDn,⟨_,hns₁,fun j y v e1 e2 e3=>?_⟩,fun y c e=>?_,?_,fun y c e=>?_,(fun p hp=>nomatch hp),I2.hok.laid old (Nat.le_refl _) ⟨Nat.zero_le _,[],0,.nil,hD1⟩,?_⟩
  · cases j with
    | zero=>cases (show (some none:Option (Option V))=some (some v) from e2)
    | succ j=>
     have e1:fr[j]?=some y:=e1
     have e2:(ix.map fun i=>(σ[i]?).join)[j]?=some (some v):=e2
     have hj:=congrArg (fun l=>l[j]?) k.hix
     simp only [List.getElem?_map,e1] at hj
     rw [List.getElem?_map] at e2
     cases hij:ix[j]? with
     | none=>rw [hij] at e2;cases e2
     | some i=>
      rw [hij] at hj e2
      have hj:X.N[i]?=some y:=Option.some.inj hj
      have e2:(σ[i]?).join=some v:=Option.some.inj e2
      have e2:σ[i]?=some (some v):=by
       cases z:σ[i]? with
       | none=>rw [z] at e2;cases e2
       | some z'=>rw [z] at e2;rw [show z'=some v from e2]
      obtain ⟨m,hn,hl⟩:=I2.loc
      have hk:=k.fr' y (List.mem_of_getElem? e1)
      obtain ⟨u,ru,lk⟩:=hl i y v hj e2 (.inr (.inl hk.1))
      refine ⟨u,ru,.inr ⟨.inl hk.2,?_⟩⟩
      rcases lk with ⟨z,_⟩ | ⟨_,c,ec,⟨oc,hoc,hcd⟩⟩
      · rw [hk.1] at z;cases z
      · obtain ⟨c',ec'⟩:=k.cl2' y (.inl hk.2)
        have:=hcl _ _ ec'
        rw [ec] at this;cases this
        exact ⟨c,ec',oc,old c oc hoc,hcd⟩
  · obtain ⟨v,oc,hoc,hcd⟩:=I2.cell y c (hcl _ _ e)
    exact ⟨v,oc,old c oc hoc,hcd⟩
  · show upd H2 s2.heap.objs.size (.lst []) C=none
    rw [upd_ne (by rw [hC];exact Nat.succ_ne_self _)]
    exact I2.hok.fresh (by rw [hC];exact Nat.le_succ _)
  · obtain ⟨v,oc,hoc,hcd⟩:=I2.cell y c (hcl _ _ e)
    rw [upd_ne (Nat.ne_of_lt (Heap.lt_size hoc))]
    exact I2.freeC y c (hcl _ _ e)
  · show (blkSt ix none σ).length=(x::fr).length
    have:=congrArg List.length k.hix
    simp only [List.length_map] at this
    simp [blkSt,this]
 have st1:∀ tk,tn 0 ({ s2 with heap:=h₁,toks:=tk }:Shared).heap:=fun _=>T.keep 0 _ _ st2 fun b hb o e=>old b o e
 have fB:∀ {H':Hp},(∀ b∈fp,H' b=none)→∀ b∈fp,FpOk B [] H' b:=fun hn b hb=>by
  obtain ⟨o,e,_⟩:=fpl b hb
  exact ⟨hn b hb,bC b o e,fpstk b hb,.inl hb,fun y c ec=>(f2 b hb).2.2.2.2.1 y c (hcl _ _ ec),(fun p hp=>nomatch hp)⟩
 have loop:∀ tk,codeAny (model X.prog X.w) X.A (.compLoop (.ListComp elt [⟨.Name x px,iter,ifs,0⟩] scope pos) 0 (.ref it) (.ref s2.heap.objs.size) (compEnvC scope cl C X.env))
   (compPost (model X.prog X.w) X.A X.xe use Post (.ref s2.heap.objs.size) C) { s2 with heap:=h₁,toks:=tk }:=fun tk=>by
  refine codeAny_loop rfl (fun n s'=>∃ i ys x' H',Inv B [] (blkSt ix x' σ) H' s'∧tn i s'.heap∧(∀ b∈fp,H' b=none)∧W i n ys H') (fun n s3 hI=>?_) m0 ⟨0,[],none,_,IB tk,st1 tk,fun b hb=>?_,w0⟩
  · obtain ⟨i,ys,x',H3,I3,st3,fr3,w3⟩:=hI
    show wpAny _ _ ((compTurn (.ListComp elt [⟨.Name x px,iter,ifs,0⟩] scope pos) 0 (.ref it) (.ref s2.heap.objs.size) (compEnvC scope cl C X.env)).onRaise (fun x=>do noteFrame x (compEnvC scope cl C X.env);theTreesLotGoes x)) _ _ s3
    refine wpAny_noted ?_
    rw [compTurn_list]
    obtain ⟨hD3,alt⟩:=turn i n ys H3 w3
    refine wpAny_bind (wpAny_standAt (wpAny_bind ?_))
    rcases alt with ⟨stop,qn⟩ | ⟨go,hlen,step⟩
    · refine thn (T.done B rfl rfl rfl k.calm i [] s3 _ H3 _ I3 (fB fr3) st3 stop) fun r s4 ⟨hr,I4⟩=>?_
      subst hr
      refine wpAny_pure ?_
      exact fin s2 s4 H2 H3 fp C _ I2 f2 hC bC I4 qn _
    · refine thn (T.item B rfl rfl rfl k.calm i [] s3 _ H3 _ I3 (fB fr3) st3 go) fun r s4 ⟨u,hr,h4⟩=>?_
      subst hr
      refine wpAny_bind (thn h4 fun _ s5 ⟨xv,H5,I5,r5,y5,st5,fr5⟩=>?_)
      have I5':=I5.pinned (fB fr5) (T.obj _ _ st5)
      refine wpAny_bind (wpAny_assign_Name (store_ok (i:=0) (X:=B) I5' k.hN rfl (.inl (lookup_relabel_local k.hx)) r5 (fun s6 I6=>?_) (.inr (lookup_relabel_local k.hx))))
      have I6:Inv B ([]++pinsAt fp s5.heap) (blkSt ix (some xv) σ) H5 s6:=I6
      refine wpAny_bind (wpAny_mono (tests_of hif ⟨C,s2,H2,fp,rfl⟩ I6 (step xv H5 y5)) (fun bb s6' ⟨H6,I6',q6⟩=>?_) fun _ _ z=>False.elim z)
      have kp:∀ {st:St}{H8:Hp}{s8:Shared},Inv B (([]:List (Addr × Obj))++pinsAt fp s5.heap) st H8 s8→tn (i+1) s8.heap∧∀ b∈fp,H8 b=none:=fun I8=>⟨T.keep _ _ _ st5 fun b hb o e=>(I8.pin (b,o) (List.mem_append_right _ (List.mem_append_right _ (mem_pinsAt hb e)))).1,fun b hb=>by
       obtain ⟨o,e,d⟩:=T.obj _ _ st5 b hb
       exact (I8.pin (b,o) (List.mem_append_right _ (List.mem_append_right _ (mem_pinsAt hb e)))).2.1⟩
      cases bb with
      | false=>
       rw [if_neg (by decide)] at q6
       obtain ⟨m',hm,w7⟩:=q6
       exact wpAny_pure ⟨rfl,m',hm,i+1,ys,some xv,_,I6'.unpinned,(kp I6').1,(kp I6').2,w7⟩
      | true=>
       rw [if_pos rfl] at q6
       refine wpAny_bind (wpAny_bind (wpAny_mono (he C s2 H2 fp _ s6' _ H6 _ I6' q6) (fun v s7 ⟨y,H7,I7,r7,hD7,m',hm,w7⟩=>?_) fun _ _ z=>False.elim z))
       refine wpAny_bind (wpAny_mono (mt_append (X:=B) _ s7 _ H7 (.ref s2.heap.objs.size) [y] (.ref s2.heap.objs.size) [v] (fun _ H8=>H8=upd H7 s2.heap.objs.size (.lst (ys++[y]))) I7 rfl (.cons r7 .nil) ⟨_,ys,y,rfl,rfl,hD7,hlen,rfl⟩)
        (fun _ s8 ⟨_,H8,I8,_,e8⟩=>?_) fun _ _ z=>False.elim z)
       subst e8
       exact wpAny_pure (wpAny_pure ⟨rfl,m',hm,i+1,ys++[y],some xv,_,I8.unpinned,(kp I8).1,(kp I8).2,w7⟩)
  · obtain ⟨o,e,_⟩:=fpl b hb
    rw [upd_ne (Nat.ne_of_lt (Heap.lt_size e))]
    exact (f2 b hb).1
 exact codeAny_compStart_list (loop _) (T.self _ 0 _ _ _ (st1 _) (loop _))
theorem comp_true {J:It}{σ:St}{H:Hp}{Q:VK} (h:Wr (rComp J ix te σ H Q)):Wr (rCompIf J ix (fun _ H Q=>Q true H) te σ H Q):=⟨fun D hD=>by
 obtain ⟨W,w0,turn⟩:=h.get D hD
 refine ⟨W,w0,fun i m ys H2 w=>?_⟩
 obtain ⟨a,b | ⟨c,d,e⟩⟩:=turn i m ys H2 w
 · exact ⟨a,.inl b⟩
 · exact ⟨a,.inr ⟨c,d,fun x H' y=>by
   show (if true=true then _ else _)
   rw [if_pos rfl];exact e x H' y⟩⟩⟩
theorem pe_gen (k:CompB X scope cl x fr ix iter) (hi:PI X (.Name x px) iter wi) (hcl:∀ y c,cl.lookup y=some c→X.env.cells.lookup y=some c)
  (he:∀ C s H fp,PE (X.blk (x::fr) scope cl C s H fp) elt te) (hif:OneIf (fun Y=>∃ C s H fp,Y=X.blk (x::fr) scope cl C s H fp) ifs tt)
  {RR:St→VK→It→Hp→Prop} (hR:∀ σ Q J H1,RR σ Q J H1→Wr (rCompIf J ix tt te σ H1 Q)):PE X (.ListComp elt [⟨.Name x px,iter,ifs,0⟩] scope pos) (fun σ H Q=>wi σ H (RR σ Q)):=by
 intro pins s σ H Q I h
 rw [eval_ListComp]
 refine lcomp_gen k hi hcl he hif I h (hR σ Q) fun s2 s4 H2 H3 fp C x' I2 f2 hC bC I4 qn _=>?_
 obtain ⟨m4,hn4,_⟩:=I4.loc
 refine ⟨m4,hn4,fun h' sb=>?_⟩
 have un:Un (frs X.stack) fp H2 H3 s2.heap h':=by
  have u:=I4.base
  refine ⟨fun b o e n hb hx=>(sb.2 b (bC b o e)).trans (u.keep b o e n hb hx),fun b o e n hb hx=>?_,u.free,fun b o e hx=>?_,u.tups,u.frzs,u.tbls⟩
  · obtain ⟨sl,e1⟩:=u.slot b o e n hb hx
    exact ⟨sl,(sb.2 b (bC b o e)).trans e1⟩
  · obtain ⟨o',e1⟩:=u.there b o e hx
    exact ⟨o',(sb.2 b (bC b o e)).trans e1⟩
 exact ⟨.ref s2.heap.objs.size,H3,I2.call' (s':={ s4 with heap:=h' }) (ch:=fp) I4.os un (I4.hok.sameBut I4.free sb) I4.bare (fun b hb=>⟨(f2 b hb).2.2.2.1,(f2 b hb).2.1,(f2 b hb).2.2.2.2⟩),rfl,qn⟩
theorem one_nil {B:Cx→Prop}:OneIf B [] (fun _ H Q=>Q true H):=.inl ⟨rfl,rfl⟩
theorem pe_compW (fr:List Str) (ix:List Nat) (hi:PI X (.Name x px) iter wi) (he:∀ C s H fp,PE (X.blk (x::fr) scope cl C s H fp) elt te) (hcl:∀ y c,cl.lookup y=some c→X.env.cells.lookup y=some c)
  (k:CompB X scope cl x fr ix iter:=by exact ⟨rfl,rfl,rfl,rfl,rfl,rfl,by decide+kernel,rfl,rfl,rfl,fun _=>rfl⟩):
  PE X (.ListComp elt [⟨.Name x px,iter,[],0⟩] scope pos) (tCompW wi ix te):=pe_gen k hi hcl he one_nil fun _ _ _ _ h=>comp_true h
end
section
variable {X:Cx}
theorem pe_lcompC {x:Str}{px pos:Pos}{elt iter:Expr}{scope:Scope}{cl:List (Str × Addr)}{fr:List Str}{ix:List Nat}{wi:TI}{te:TE}
  (hc:X.calm=true) (hi:PI X (.Name x px) iter wi)
  (hclos:closureFor scope X.env=pure cl) (hkind:scope.kind=.function) (hcells:∀ n,cellsFrom n scope.names cl=(x,n)::cl) (hpush:∀ h:Heap,pushCells h scope.names=h.push { cls:=.type "cell",data:=.cell none }) (hxcl:cl.lookup x=none)
  (hnames:∀ y∈scope.names,y.2=.local→scope.names.lookup y.1=some .local) (hx:(relabel scope X.env).names.lookup x=some .cell)
  (hN:(x::fr).Nodup) (hix:ix.map (fun i=>X.N[i]?)=fr.map some)
  (hfr:∀ y∈fr,X.env.kindOf y=some .cell∧(relabel scope X.env).names.lookup y=some .cell)
  (hcl:∀ y c,cl.lookup y=some c→X.env.cells.lookup y=some c)
  (hcl2:∀ y,((relabel scope X.env).names.lookup y=some .cell∨(relabel scope X.env).names.lookup y=some .free)→y=x∨∃ c,cl.lookup y=some c)
  (he:∀ C s H fp,PE (X.blkC (x::fr) scope cl x C s H fp) elt te)
  (hs:∀ x,foldedSetIterable iter X.env x=pure x:=by intro _;rfl):
  PE X (.ListComp elt [⟨.Name x px,iter,[],0⟩] scope pos) (tCompW wi ix te):=by
 intro pins s σ H Q I h
 rw [eval_ListComp]
 refine wpAny_comprehension_free (use:=none) rfl hs hclos hkind hnames (thn (hi pins s σ H _ I h) fun xv s1 h1=>thn h1 fun itv s2 h2=>?_)
 obtain ⟨it,fp,tn,J,H2,e,I2,T,st2,f2,q⟩:=h2
 subst e
 refine wpAny_newObj_type (nfe_cells ?_)
 rw [hcells,hpush]
 have hDn:H2 s2.heap.objs.size=none:=I2.hok.fresh (Nat.le_refl _)
 obtain ⟨W,⟨m0,w0⟩,turn⟩:=q.get s2.heap.objs.size hDn
 generalize hHL:s2.heap.push { cls:=.type "list",dict:=none,data:=.seq ([]:List Value).toArray }=HL
 have hC:HL.objs.size=s2.heap.objs.size+1:=by rw [← hHL,Heap.size_push]
 have hns₁:((HL.push { cls:=.type "dict",data:=.dict #[] }).push { cls:=.type "cell",data:=.cell none }).Ns HL.objs.size (fun _=>none):=(Heap.Ns.new HL (.type "dict")).keeps fun b o e=>Heap.get?_push_of_some _ e
 have hcl₁:((HL.push { cls:=.type "dict",data:=.dict #[] }).push { cls:=.type "cell",data:=.cell none }).get? (HL.objs.size+1)=some { cls:=.type "cell",data:=.cell none }:=by
  rw [← Heap.size_push HL { cls:=.type "dict",data:=.dict #[] }];exact Heap.get?_push_size _ rfl
 have old:∀ b o,s2.heap.get? b=some o→((HL.push { cls:=.type "dict",data:=.dict #[] }).push { cls:=.type "cell",data:=.cell none }).get? b=some o:=fun b o e=>Heap.get?_push_of_some _ (Heap.get?_push_of_some _ (hHL▸Heap.get?_push_of_some _ e))
 have hD1:((HL.push { cls:=.type "dict",data:=.dict #[] }).push { cls:=.type "cell",data:=.cell none }).get? s2.heap.objs.size=some { cls:=.type "list",data:=.seq ([]:List Value).toArray }:=
  Heap.get?_push_of_some _ (Heap.get?_push_of_some _ (hHL▸Heap.get?_push_size _ rfl))
 generalize hH1:((HL.push { cls:=.type "dict",data:=.dict #[] }).push { cls:=.type "cell",data:=.cell none })=h₁ at hns₁ hcl₁ old hD1
 show codeAny _ _ (.compStart _ 0 _ _ (compEnvC scope ((x,HL.objs.size+1)::cl) HL.objs.size X.env)) (compPost _ _ _ none _ _ HL.objs.size) { s2 with heap:=h₁ }
 generalize hCC:HL.objs.size=C at hns₁ hcl₁ ⊢
 rw [hCC] at hC
 have bC:∀ b o,s2.heap.get? b=some o→b≠C:=fun b o e=>by rw [hC];exact Nat.ne_of_lt (Nat.lt_succ_of_lt (Heap.lt_size e))
 have bCC:∀ b o,s2.heap.get? b=some o→C+1≠b:=fun b o e=>Nat.ne_of_gt (Nat.lt_trans (Heap.lt_size e) (by rw [hC];exact Nat.lt_succ_of_lt (Nat.lt_succ_self _)))
 have lkc:∀ y c,((x,C+1)::cl).lookup y=some c→(y=x∧c=C+1)∨(y≠x∧cl.lookup y=some c):=fun y c e=>by
  rw [List.lookup_cons] at e
  cases z:y == x with
  | true=>rw [z] at e;exact .inl ⟨eq_of_beq z,(Option.some.inj e).symm⟩
  | false=>rw [z] at e;exact .inr ⟨fun q=>by rw [q] at z;simp at z,e⟩
 have lkx:((x,C+1)::cl).lookup x=some (C+1):=by rw [List.lookup_cons];simp
 have lko:∀ y c,cl.lookup y=some c→((x,C+1)::cl).lookup y=some c:=fun y c e=>by
  rw [List.lookup_cons]
  cases z:y == x with
  | true=>rw [eq_of_beq z,hxcl] at e;cases e
  | false=>exact e
 have oldc:∀ y c,cl.lookup y=some c→C+1≠c:=fun y c e=>by
  obtain ⟨v,oc,hoc,_⟩:=I2.cell y c (hcl _ _ e)
  exact bCC c oc hoc
 have stl:∀ b∈frs X.stack,∃ o,s2.heap.get? b=some o:=fun b hb=>by
  obtain ⟨_,o,ho,_⟩:=I2.stack.mem hb
  exact ⟨o,ho⟩
 have fpl:∀ b∈fp,∃ o,s2.heap.get? b=some o∧∀ v,o.data≠.cell v:=fun b hb=>T.obj 0 _ st2 b hb
 have fpstk:∀ b∈fp,b∉frs X.stack:=fun b hb z=>by
  rcases List.mem_cons.mp (I2.stkSub b z) with z | z
  · exact (f2 b hb).2.1 z
  · exact (f2 b hb).2.2.1 z
 let B:=X.blkC (x::fr) scope cl x C s2 H2 fp
 have okB:B.Ok:=by
  refine ⟨I2.ok.mod,hkind,I2.ok.glob,I2.ok.blt,(by show s2.heap.objs.size≤C;rw [hC];exact Nat.le_succ _),fun y z c e1 e2=>?inj,fun y hy=>?has,fun y c z e=>?cab,
   fun _=>I2.ok.hd hc,I2.ok.frames,.inl rfl,fun b hb=>⟨?fb,fun y c e=>?fc⟩,I2.bs,Nat.le_trans I2.ok.bsz I2.sz,fun b o e hb=>?bs,fun b hb=>fpstk b hb,I2.stack,I2.stkFree⟩
  case inj=>
   rcases lkc _ _ e1 with ⟨q1,q2⟩ | ⟨q1,q2⟩ <;> rcases lkc _ _ e2 with ⟨q3,q4⟩ | ⟨q3,q4⟩
   · rw [q1,q3]
   · exact absurd q2.symm (oldc _ _ q4)
   · exact absurd q4.symm (oldc _ _ q2)
   · exact I2.ok.inj y z c (hcl _ _ q2) (hcl _ _ q4)
  case has=>
   rcases hcl2 y hy with q | ⟨c,q⟩
   · rw [q];exact ⟨_,lkx⟩
   · exact ⟨c,lko _ _ q⟩
  case cab=>
   rcases lkc _ _ e with ⟨q1,q2⟩ | ⟨q1,q2⟩
   · rw [q2];show s2.heap.objs.size≤C+1;rw [hC];exact Nat.le_succ_of_le (Nat.le_succ _)
   · exact absurd (eq_of_beq z) q1
  case fb=>
   obtain ⟨o,e,_⟩:=fpl b hb
   exact bC b o e
  case fc=>
   rcases lkc _ _ e with ⟨q1,q2⟩ | ⟨q1,q2⟩
   · obtain ⟨o,e,_⟩:=fpl b hb
     rw [q2];exact bCC b o e
   · exact (f2 b hb).2.2.2.2.1 y c (hcl _ _ q2)
  case bs=>
   rcases (f2 b hb).2.2.2.1 with z | z
   · exact I2.ok.noex b o e z
   · exact absurd (Nat.lt_of_lt_of_le (Heap.lt_size (I2.ok.bs b o e).1) z) (Nat.lt_irrefl _)
 have IB:∀ tk,Inv B [] (blkSt ix none σ) (upd H2 s2.heap.objs.size (.lst [])) { s2 with heap:=h₁,toks:=tk }:=fun tk=>by
  refine ⟨okB,rfl,I2.bare,Un.laid old (Nat.le_refl _) hDn,⟨_,hns₁,fun j y v e1 e2 e3=>?_⟩,fun y c e=>?_,?_,fun y c e=>?_,(fun p hp=>nomatch hp),I2.hok.laid old (Nat.le_refl _) ⟨Nat.zero_le _,[],0,.nil,hD1⟩,?_⟩
  · cases j with
    | zero=>cases (show (some none:Option (Option V))=some (some v) from e2)
    | succ j=>
     have e1:fr[j]?=some y:=e1
     have e2:(ix.map fun i=>(σ[i]?).join)[j]?=some (some v):=e2
     have hj:=congrArg (fun l=>l[j]?) hix
     simp only [List.getElem?_map,e1] at hj
     rw [List.getElem?_map] at e2
     cases hij:ix[j]? with
     | none=>rw [hij] at e2;cases e2
     | some i=>
      rw [hij] at hj e2
      have hj:X.N[i]?=some y:=Option.some.inj hj
      have e2:(σ[i]?).join=some v:=Option.some.inj e2
      have e2:σ[i]?=some (some v):=by
       cases z:σ[i]? with
       | none=>rw [z] at e2;cases e2
       | some z'=>rw [z] at e2;rw [show z'=some v from e2]
      obtain ⟨m,hn,hl⟩:=I2.loc
      have hk:=hfr y (List.mem_of_getElem? e1)
      obtain ⟨u,ru,lk⟩:=hl i y v hj e2 (.inr (.inl hk.1))
      refine ⟨u,ru,.inr ⟨.inl hk.2,?_⟩⟩
      rcases lk with ⟨z,_⟩ | ⟨_,c,ec,⟨oc,hoc,hcd⟩⟩
      · rw [hk.1] at z;cases z
      · rcases hcl2 y (.inl hk.2) with q | ⟨c',ec'⟩
        · rw [q] at e1
          exact absurd (List.mem_of_getElem? e1) (List.nodup_cons.mp hN).1
        · have:=hcl _ _ ec'
          rw [ec] at this;cases this
          exact ⟨c,lko _ _ ec',oc,old c oc hoc,hcd⟩
  · rcases lkc _ _ e with ⟨q1,q2⟩ | ⟨q1,q2⟩
    · rw [q2];exact ⟨_,_,hcl₁,rfl⟩
    · obtain ⟨v,oc,hoc,hcd⟩:=I2.cell y c (hcl _ _ q2)
      exact ⟨v,oc,old c oc hoc,hcd⟩
  · show upd H2 s2.heap.objs.size (.lst []) C=none
    rw [upd_ne (by rw [hC];exact Nat.succ_ne_self _)]
    exact I2.hok.fresh (by rw [hC];exact Nat.le_succ _)
  · rcases lkc _ _ e with ⟨q1,q2⟩ | ⟨q1,q2⟩
    · rw [q2,upd_ne (by rw [hC];exact Nat.ne_of_gt (Nat.lt_succ_of_lt (Nat.lt_succ_self _)))]
      exact I2.hok.fresh (by rw [hC];exact Nat.le_succ_of_le (Nat.le_succ _))
    · obtain ⟨v,oc,hoc,hcd⟩:=I2.cell y c (hcl _ _ q2)
      rw [upd_ne (Nat.ne_of_lt (Heap.lt_size hoc))]
      exact I2.freeC y c (hcl _ _ q2)
  · show (blkSt ix none σ).length=(x::fr).length
    have:=congrArg List.length hix
    simp only [List.length_map] at this
    simp [blkSt,this]
 have st1:∀ tk,tn 0 ({ s2 with heap:=h₁,toks:=tk }:Shared).heap:=fun _=>T.keep 0 _ _ st2 fun b hb o e=>old b o e
 have fB:∀ {H':Hp},(∀ b∈fp,H' b=none)→∀ b∈fp,FpOk B [] H' b:=fun hn b hb=>by
  obtain ⟨o,e,_⟩:=fpl b hb
  refine ⟨hn b hb,bC b o e,fpstk b hb,.inl hb,fun y c ec=>?_,(fun p hp=>nomatch hp)⟩
  rcases lkc _ _ ec with ⟨q1,q2⟩ | ⟨q1,q2⟩
  · rw [q2];exact bCC b o e
  · exact (f2 b hb).2.2.2.2.1 y c (hcl _ _ q2)
 have loop:∀ tk,codeAny (model X.prog X.w) X.A (.compLoop (.ListComp elt [⟨.Name x px,iter,[],0⟩] scope pos) 0 (.ref it) (.ref s2.heap.objs.size) (compEnvC scope ((x,C+1)::cl) C X.env))
   (compPost (model X.prog X.w) X.A X.xe none (EP X pins σ Q) (.ref s2.heap.objs.size) C) { s2 with heap:=h₁,toks:=tk }:=fun tk=>by
  refine codeAny_loop rfl (fun n s'=>∃ i ys x' H',Inv B [] (blkSt ix x' σ) H' s'∧tn i s'.heap∧(∀ b∈fp,H' b=none)∧W i n ys H') (fun n s3 hI=>?_) m0 ⟨0,[],none,_,IB tk,st1 tk,fun b hb=>?_,w0⟩
  · obtain ⟨i,ys,x',H3,I3,st3,fr3,w3⟩:=hI
    show wpAny _ _ ((compTurn (.ListComp elt [⟨.Name x px,iter,[],0⟩] scope pos) 0 (.ref it) (.ref s2.heap.objs.size) (compEnvC scope ((x,C+1)::cl) C X.env)).onRaise (fun zz=>do noteFrame zz (compEnvC scope ((x,C+1)::cl) C X.env);theTreesLotGoes zz)) _ _ s3
    refine wpAny_noted ?_
    rw [compTurn_list1]
    obtain ⟨hD3,alt⟩:=turn i n ys H3 w3
    refine wpAny_bind (wpAny_standAt (wpAny_bind ?_))
    rcases alt with ⟨stop,qn⟩ | ⟨go,hlen,step⟩
    · refine thn (T.done B rfl rfl rfl hc i [] s3 _ H3 _ I3 (fB fr3) st3 stop) fun r s4 ⟨hr,I4⟩=>?_
      subst hr
      refine wpAny_pure ?_
      obtain ⟨m4,hn4,_⟩:=I4.loc
      refine ⟨m4,hn4,fun h' sb=>?_⟩
      have un:Un (frs X.stack) fp H2 H3 s2.heap h':=by
       have u:=I4.base
       refine ⟨fun b o e n hb hx=>(sb.2 b (bC b o e)).trans (u.keep b o e n hb hx),fun b o e n hb hx=>?_,u.free,fun b o e hx=>?_,u.tups,u.frzs,u.tbls⟩
       · obtain ⟨sl,e1⟩:=u.slot b o e n hb hx
         exact ⟨sl,(sb.2 b (bC b o e)).trans e1⟩
       · obtain ⟨o',e1⟩:=u.there b o e hx
         exact ⟨o',(sb.2 b (bC b o e)).trans e1⟩
      refine ⟨.ref s2.heap.objs.size,H3,I2.call' (s':={ s4 with heap:=h' }) (ch:=fp) I4.os un (I4.hok.sameBut I4.free sb) I4.bare (fun b hb=>⟨(f2 b hb).2.2.2.1,(f2 b hb).2.1,(f2 b hb).2.2.2.2⟩),rfl,qn⟩
    · refine thn (T.item B rfl rfl rfl hc i [] s3 _ H3 _ I3 (fB fr3) st3 go) fun r s4 ⟨u,hr,h4⟩=>?_
      subst hr
      refine wpAny_bind (thn h4 fun _ s5 ⟨xv,H5,I5,r5,y5,st5,fr5⟩=>?_)
      have I5':=I5.pinned (fB fr5) (T.obj _ _ st5)
      refine wpAny_bind (wpAny_assign_Name (store_ok (i:=0) (X:=B) I5' hN rfl (.inr hx) r5 (fun s6 I6=>?_) (.inl (beq_self_eq_true x))))
      have I6:Inv B ([]++pinsAt fp s5.heap) (blkSt ix (some xv) σ) H5 s6:=I6
      refine wpAny_bind (wpAny_bind (wpAny_mono (he C s2 H2 fp _ s6 _ H5 _ I6 (step xv H5 y5)) (fun v s7 ⟨y,H7,I7,r7,hD7,m',hm,w7⟩=>?_) fun _ _ z=>False.elim z))
      refine wpAny_bind (wpAny_mono (mt_append (X:=B) _ s7 _ H7 (.ref s2.heap.objs.size) [y] (.ref s2.heap.objs.size) [v] (fun _ H8=>H8=upd H7 s2.heap.objs.size (.lst (ys++[y]))) I7 rfl (.cons r7 .nil) ⟨_,ys,y,rfl,rfl,hD7,hlen,rfl⟩)
       (fun _ s8 ⟨_,H8,I8,_,e8⟩=>?_) fun _ _ z=>False.elim z)
      subst e8
      refine wpAny_pure (wpAny_pure ⟨rfl,m',hm,i+1,ys++[y],some xv,_,I8.unpinned,T.keep _ _ _ st5 fun b hb o e=>(I8.pin (b,o) (List.mem_append_right _ (List.mem_append_right _ (mem_pinsAt hb e)))).1,fun b hb=>?_,w7⟩)
      obtain ⟨o,e,d⟩:=T.obj _ _ st5 b hb
      exact (I8.pin (b,o) (List.mem_append_right _ (List.mem_append_right _ (mem_pinsAt hb e)))).2.1
  · obtain ⟨o,e,_⟩:=fpl b hb
    rw [upd_ne (Nat.ne_of_lt (Heap.lt_size e))]
    exact (f2 b hb).1
 exact codeAny_compStart_list (loop _) (T.self _ 0 _ _ _ (st1 _) (loop _))
end
section
variable {X:Cx}{e:Expr}{te:TE}{pos:Pos}
theorem pe_compC {x:Str}{px:Pos}{elt iter:Expr}{scope:Scope}{cl:List (Str × Addr)}{wi:TI} (fr:List Str) (ix:List Nat)
  (hi:PI X (.Name x px) iter wi) (he:∀ C s H fp,PE (X.blkC (x::fr) scope cl x C s H fp) elt te)
  (hcl:∀ y c,cl.lookup y=some c→X.env.cells.lookup y=some c)
  (hclos:closureFor scope X.env=pure cl:=by rfl) (hc:X.calm=true:=by rfl) (hkind:scope.kind=.function:=by rfl) (hcells:∀ n,cellsFrom n scope.names cl=(x,n)::cl:=by intro _;rfl)
  (hpush:∀ h:Heap,pushCells h scope.names=h.push { cls:=.type "cell",data:=.cell none }:=by intro _;rfl) (hxcl:cl.lookup x=none:=by rfl)
  (hnames:(scope.names.all fun p=>p.2 != .local || scope.names.lookup p.1 == some .local)=true:=by rfl) (hx:(relabel scope X.env).names.lookup x=some .cell:=by rfl)
  (hN:(x::fr).Nodup:=by decide+kernel) (hix:ix.map (fun i=>X.N[i]?)=fr.map some:=by rfl)
  (hfr:(fr.all fun y=>X.env.kindOf y == some .cell && (relabel scope X.env).names.lookup y == some .cell)=true:=by rfl)
  (hcl2:((relabel scope X.env).names.all fun p=>(p.2 != .cell && p.2 != .free) || (p.1 == x || (cl.lookup p.1).isSome))=true:=by rfl)
  (hs:∀ x,foldedSetIterable iter X.env x=pure x:=by intro _;rfl):
  PE X (.ListComp elt [⟨.Name x px,iter,[],0⟩] scope pos) (tCompW wi ix te):=by
 refine pe_lcompC hc hi hclos hkind hcells hpush hxcl (fun y hy e=>?_) hx hN hix (fun y hy=>?_) hcl (fun y hy=>?_) he hs
 · have:=List.all_eq_true.mp hnames y hy
   rw [e] at this
   simpa using this
 · have:=List.all_eq_true.mp hfr y hy
   rw [Bool.and_eq_true] at this
   exact ⟨eq_of_beq this.1,eq_of_beq this.2⟩
 · have:∃ k,(relabel scope X.env).names.lookup y=some k∧(k=.cell∨k=.free):=by
     rcases hy with h | h
     · exact ⟨_,h,.inl rfl⟩
     · exact ⟨_,h,.inr rfl⟩
   obtain ⟨k,e,hk⟩:=this
   have:=List.all_eq_true.mp hcl2 (y,k) (PySem.mem_of_lookup e)
   have h2:(y == x || (cl.lookup y).isSome)=true:=by
    rcases hk with rfl | rfl <;> simpa using this
   rcases Bool.or_eq_true _ _ |>.mp h2 with h | h
   · exact .inl (eq_of_beq h)
   · exact .inr (Option.isSome_iff_exists.mp h)
theorem comp_list {K:PySem.W.Frag}{a:Addr}{xs:List V}{ix:List Nat}{te:TE}{σ:St}{H:Hp}{Q:VK}
  (h:∀ D,H D=none→∃ Pv:Nat→List V→Hp→Prop,Pv 0 [] (upd H D (.lst []))∧(∀ i ys H2,i≤xs.length→Pv i ys H2→SqL K H2 a xs∧H2 D=some (.lst ys)∧ys.length < sizeLine)∧
   (∀ i x ys H2,xs[i]?=some x→Pv i ys H2→∀ Q':VK,(∀ y H3,H3 D=some (.lst ys)→Pv (i+1) (ys++[y]) (upd H3 D (.lst (ys++[y])))→Q' y H3)→te (blkSt ix (some x) σ) H2 Q')∧∀ ys H2,Pv xs.length ys H2→Q (.ref D) H2):
  Wr (rComp (Itl K a) ix te σ H Q):=by
 refine ⟨fun D hD=>?_⟩
 obtain ⟨Pv,p0,pl,ps,pq⟩:=h D hD
 refine ⟨fun i m ys H2=>m=xs.length - i∧i≤xs.length∧Pv i ys H2,⟨xs.length,by simp,Nat.zero_le _,p0⟩,?_⟩
 rintro i m ys H2 ⟨rfl,hi,p⟩
 obtain ⟨e0,e1,e2⟩:=pl i ys H2 hi p
 refine ⟨e1,?_⟩
 by_cases hlt:i < xs.length
 · refine .inr ⟨⟨_,xs[i],e0,by simp [hlt]⟩,e2,fun x H' y=>?_⟩
   obtain ⟨e,y⟩:=y
   subst e
   exact ps i x ys _ (y _ e0) p _ fun y H3 e3 p3=>⟨e3,xs.length - (i+1),by omega,rfl,hlt,p3⟩
 · have e:i=xs.length:=by omega
   subst e
   exact .inl ⟨⟨_,e0,Nat.le_refl _⟩,pq ys H2 p⟩
end
theorem comp_intsW {K:PySem.W.Frag}{a:Addr}{ns:List Int}{ix:List Nat}{te:TE}{σ:St}{H:Hp}{Q:VK} (f:Int→Int) (hq:SqL K H a (ns.map V.int)) (hl:ns.length < sizeLine)
  (he:∀ z∈ns,∀ (H':Hp) (Q':VK),Q' (.int (f z)) H'→te (blkSt ix (some (.int z)) σ) H' Q') (h:∀ D,H D=none→Q (.ref D) (upd H D (.lst ((ns.map f).map V.int)))):Wr (rComp (Itl K a) ix te σ H Q):=
 ⟨fun D hD=>comp_ints f hq hl he h D hD⟩
section
variable {X:Cx}{x:Str}{px pos:Pos}{elt iter:Expr}{scope:Scope}{cl:List (Str × Addr)}{fr:List Str}{ix:List Nat}{wi:TI}{te:TE}{tt:TT}{ifs:List Expr}
variable {nmT:Str}{py spos:Pos}{kT:Nat}
theorem ps_gen (k:CompB X scope cl x fr ix iter) (hi:PI X (.Name x px) iter wi) (hcl:∀ y c,cl.lookup y=some c→X.env.cells.lookup y=some c)
  (he:∀ C s H fp,PE (X.blk (x::fr) scope cl C s H fp) elt te) (hif:OneIf (fun Y=>∃ C s H fp,Y=X.blk (x::fr) scope cl C s H fp) ifs tt) (hNX:X.N.Nodup) (hkT:X.N[kT]?=some nmT) (hyT:Loc X.env.scope nmT)
  (hsw:swapsWith (.ListComp elt [⟨.Name x px,iter,ifs,0⟩] scope pos) (some (.Name nmT py)) spos.line X.env=pure true) (hf:X.fn nmT=true∨X.env.scope.names.lookup nmT=some .local)
  {RR:St→VK→It→Hp→Prop} (hR:∀ σ Q J H1,RR σ Q J H1→Wr (rCompIf J ix tt te σ H1 Q)):
  PS X (.Assign [.Name nmT py] (.ListComp elt [⟨.Name x px,iter,ifs,0⟩] scope pos) spos) (tAsg (fun σ H Q=>wi σ H (RR σ Q)) (gName kT)):=by
 intro pins s σ H DE I h
 have h:wi σ H (RR σ (fun x H1=>DE.nx (σ.set kT (some x)) H1)):=h
 rw [exec_Assign_Name_used _ _ _ _ hsw]
 refine wpAny_bind (wpAny_standAt (wpAny_bind ?_))
 show wpAny _ X.A (do let _ ← comprehension (.ListComp elt [⟨.Name x px,iter,ifs,0⟩] scope pos) scope X.env _ (newList []) false (eval iter X.env) (some (assign (.Name nmT py) X.env))) _ _ s
 refine wpAny_bind (wpAny_mono (lcomp_gen (use:=some (assign (.Name nmT py) X.env)) (Post:=fun _ s'=>SP X pins DE .next s') k hi hcl he hif I h (hR σ _) fun s2 s4 H2 H3 fp C x' I2 f2 hC bC I4 qn _=>?_) (fun _ s' hq=>wpAny_pure (wpAny_pure hq)) fun _ _ e=>e)
 obtain ⟨m4,hn4,_⟩:=I4.loc
 have IX:Inv X pins σ H3 s4:=I2.call' (s':=s4) (ch:=fp) I4.os I4.base I4.hok I4.bare (fun b hb=>⟨(f2 b hb).2.2.2.1,(f2 b hb).2.1,(f2 b hb).2.2.2.2⟩)
 have hCL:C≠X.env.locals:=by
  obtain ⟨mL,hnL,_⟩:=I2.loc
  rw [hC]
  exact Nat.ne_of_gt (Nat.lt_succ_of_lt hnL.lt)
 show wpAny _ _ (assign (.Name nmT py) X.env (.ref s2.heap.objs.size)) _ _ s4
 refine wpAny_assign_Name (store_ok2 (v:=.ref s2.heap.objs.size) IX hNX hkT hyT rfl (fun s5 I5 ⟨a5,sb5,ha5⟩=>?_) hf)
 have nCa:C≠a5:=by
  rcases ha5 with rfl | ha5
  · exact hCL
  · obtain ⟨v,oc,hoc,_⟩:=I2.cell _ _ ha5
    exact (bC _ _ hoc).symm
 refine ⟨m4,hn4.sameBut sb5 nCa,fun h' sb=>⟨σ.set kT (some (.ref s2.heap.objs.size)),H3,?_,qn⟩⟩
 refine I5.call' (s':={ s5 with heap:=h' }) (ch:=[C]) rfl ⟨fun b o e n hb hx=>(sb.2 b (fun z=>hx (z▸List.mem_singleton_self _))).trans e,fun b o e n hb hx=>⟨o.slots,(sb.2 b (fun z=>hx (z▸List.mem_singleton_self _))).trans e⟩,fun b o e n hx=>n,fun b o e hx=>⟨o,(sb.2 b (fun z=>hx (z▸List.mem_singleton_self _))).trans e⟩,fun b xs e=>e,fun b o u e=>e,fun b ps e=>⟨#[],by rw [Array.append_empty];exact e⟩⟩ (I5.hok.sameBut I4.free sb) I5.bare fun b hb=>?_
 rw [List.mem_singleton.mp hb]
 refine ⟨.inr (Nat.le_trans I2.sz (by rw [hC];exact Nat.le_succ _)),hCL,fun x c e=>?_,fun p hp=>?_⟩
 · obtain ⟨v,oc,hoc,_⟩:=I2.cell x c e
   exact bC _ _ hoc
 · exact bC _ _ (I2.pin p hp).1
theorem ps_compW (kT:Nat) (fr:List Str) (ix:List Nat) (hNX:X.N.Nodup) (hi:PI X (.Name x px) iter wi) (he:∀ C s H fp,PE (X.blk (x::fr) scope cl C s H fp) elt te) (hcl:∀ y c,cl.lookup y=some c→X.env.cells.lookup y=some c)
  (hkT:X.N[kT]?=some nmT:=by rfl) (hyT:Loc X.env.scope nmT:=by first | exact .inl rfl | exact .inr rfl)
  (k:CompB X scope cl x fr ix iter:=by exact ⟨rfl,rfl,rfl,rfl,rfl,rfl,by decide+kernel,rfl,rfl,rfl,fun _=>rfl⟩)
  (hsw:swapsWith (.ListComp elt [⟨.Name x px,iter,[],0⟩] scope pos) (some (.Name nmT py)) spos.line X.env=pure true:=by rfl) (hf:X.fn nmT=true∨X.env.scope.names.lookup nmT=some .local:=by first | exact .inl rfl | exact .inr rfl | assumption):
  PS X (.Assign [.Name nmT py] (.ListComp elt [⟨.Name x px,iter,[],0⟩] scope pos) spos) (tAsg (tCompW wi ix te) (gName kT)):=ps_gen k hi hcl he one_nil hNX hkT hyT hsw hf fun _ _ _ _ h=>comp_true h
end
section
variable {X:Cx}{l o:Expr}{tl ta:TE}{tg:Expr}{f:Str}{pos:Pos} (K:PySem.W.Frag)
theorem ixl (e:X.K=K):IxR X (wr2 (rIxL K)):=by subst e;exact ix_l
theorem pil (e:X.K=K) (hl:PE X l tl):PI X tg l (iList K tl):=by subst e;exact pi_list hl
theorem pfl (e:X.K=K) (he:PE X o ta) (hb:attributeBase o f X.env (eval o X.env)=eval o X.env):PE X (.Attribute o f pos) (tFld K ta f):=by subst e;exact pe_fld he hb
theorem listK (e:X.K=K):CallR X (.type "list") (fun xs H Q=>Wr (rList K xs H Q)):=by subst e;exact call_listR
end
section
variable {X:Cx}{pins:List (Addr × Obj)}{σ:St}{H:Hp}{s:Shared}{d:Addr}{kvs:List (Key × V)}
theorem Inv.freeze (I:Inv X pins σ H s) (e:H d=some (.dK kvs)):∃ o,Inv X pins σ (upd H d (.frz o (.dK kvs))) s:=by
 have hob:=I.hok d _ e
 obtain ⟨z,ns,vs,kv,dd⟩:=(show ObjOk X.prog X.w H s.heap d (.dK kvs) from hob)
 obtain ⟨o,es,ep,ho,r⟩:=id dd
 have ne:∀ {b:Addr},H b=none→b≠d:=fun hb q=>by rw [q,e] at hb;cases hb
 refine ⟨o,I.ok,I.os,I.bare,⟨I.base.keep,I.base.slot,fun b ob q n hx=>?_,I.base.there,fun b xs q=>?_,fun b ob u q=>?_,fun b ps q=>?_⟩,I.loc,I.cell,?_,fun x c q=>?_,fun p hp=>?_,fun a u q=>?_,I.len⟩
 · have h1:=I.base.free b ob q n hx
   rw [upd_ne (ne h1)];exact h1
 · have h1:=I.base.tups b xs q
   rw [upd_ne (fun z=>by rw [z,e] at h1;cases h1)];exact h1
 · have h1:=I.base.frzs b ob u q
   rw [upd_ne (fun z=>by rw [z,e] at h1;cases h1)];exact h1
 · obtain ⟨m,h1⟩:=I.base.tbls b ps q
   exact ⟨m,by rw [upd_ne (fun z=>by rw [z,e] at h1;cases h1)];exact h1⟩
 · rw [upd_ne (ne I.free)];exact I.free
 · rw [upd_ne (ne (I.freeC x c q))];exact I.freeC x c q
 · obtain ⟨h1,h2,h3⟩:=I.pin p hp
   exact ⟨h1,by rw [upd_ne (ne h2)];exact h2,h3⟩
 · by_cases ha:a=d
   · subst ha
     rw [upd_same] at q;cases q
     exact ⟨ho,z,ns,vs,kv,dd⟩
   · rw [upd_ne ha] at q
     refine (I.hok a u q).stay (fun b v hb w=>w) (fun b hb=>?_) fun b xs hb=>?_
     · rw [upd_ne (fun z=>by rw [z,e] at hb;cases hb)];exact hb
     · rw [upd_ne (fun z=>by rw [z,e] at hb;cases hb)];exact hb
def tRetF (te:TE):TS:=fun D σ H=>te σ H fun x H1=>∃ d kvs,x=.ref d∧H1 d=some (.dK kvs)∧∀ o,D.rt x (upd H1 d (.frz o (.dK kvs)))
theorem ps_retF {e:Expr}{te:TE}{pos:Pos} (he:PE X e te):PS X (.Return (some e) pos) (tRetF te):=by
 intro pins s σ H D I h
 refine wpAny_Return_some (thn (he pins s σ H _ I h) fun v s1 ⟨x,H1,I1,r1,d,kvs,ex,ed,q⟩=>?_)
 obtain ⟨o,I2⟩:=I1.freeze ed
 exact ⟨x,σ,_,I2,r1,q o⟩
def Itd (o:Obj) (d:Addr) (kvs:List (Key × V)):It:=
 ⟨fun i H=>H d=some (.frz o (.dK kvs))∧i < kvs.length,fun i H x H'=>H'=H∧∃ p,kvs[i]?=some p∧x=kV p.1,fun i H=>H d=some (.frz o (.dK kvs))∧kvs.length≤i⟩
theorem rel_key {P:Program}{w:World}{k:Key}{u:Value} (h:(mixKind P w).is k u=true):RelV (kV k) u:=by
 have h:keyIs k u=true:=h
 rcases keyIs_shape h with ⟨i,t,rfl,rfl⟩ | ⟨x,t,rfl,rfl⟩ | ⟨rfl,rfl⟩
 · exact ⟨t,rfl⟩
 · exact ⟨t,rfl⟩
 · exact rfl
theorem frz_dict {P:Program}{w:World}{h:Heap}{o:Obj} (ok:HOk P w H h) (e:H d=some (.frz o (.dK kvs))):(d == sysModules)=false∧h.get? d=some o∧∃ vs,KV kvs vs∧vs.length=kvs.length∧h.DictOf (mixKind P w) d vs:=by
 obtain ⟨ho,z,ns,vs,kv,dd⟩:=(show ObjOk P w H h d (.frz o (.dK kvs)) from ok d _ e)
 exact ⟨ns,ho,vs,kv,(Paired.length kv).symm,dd⟩
theorem KV.get {κ:Type}{a:List (κ × V)}{b:List (κ × Value)} (h:KV a b):∀ {i:Nat}{p:κ × V},a[i]?=some p→∃ q,b[i]?=some q∧p.1=q.1:=by
 unfold KV at h
 induction h with
 | nil=>intro i p e;simp at e
 | cons hxy _ ih=>
  intro i p e
  cases i with
  | zero=>cases e;exact ⟨_,rfl,hxy.1⟩
  | succ i=>exact ih (by simpa using e)
theorem turn_dict {P:Program}{w:World}{K:PySem.W.Frag}{tg:Expr} (o:Obj) (d it:Addr) (ep:Nat) (es:Array DictEntry) (hep:o.data=.dict es ep):Turn P w K tg (Itd o d kvs) [it] it (fun i h=>h.IsKeyIter it d i kvs.length ep) where
 mem:=by simp
 obj:=fun i h st b hb=>by
  have e:b=it:=by simpa using hb
  subst e
  obtain ⟨o,e,c,d⟩:=st
  exact ⟨o,e,fun v z=>by rw [d] at z;cases z⟩
 keep:=fun i h h' st k=>st.at fun o e=>k it (by simp) o e
 item:=by
  intro X hP hw hK hc i pins s σ H E I hf st hg
  subst hP hw hK
  obtain ⟨hd,hi⟩:=hg
  obtain ⟨ns,ho,vs,kv,hl,o',es',ep',ho',r1,r2,r3⟩:=frz_dict I.hok hd
  rw [ho] at ho';cases ho'
  rw [hep] at r2;cases r2
  obtain ⟨q,eq,ek⟩:=kv.get (show kvs[i]?=some kvs[i] by simp [hi])
  obtain ⟨f0,f1,f2,f3,f4,f5⟩:=hf it (by simp)
  refine wpAny_pyNext_dict_item (knd:=mixKind X.prog X.w) (kvs:=vs) (k:=q.1) (v:=q.2) (by rw [hl];exact st) ⟨o,es,ho,r1,hep,r3⟩ eq fun key h' hkey st' sb=>?_
  have I1:Inv X pins σ H { s with heap:=h' }:=I.turned (t':=s.toks) (fun b o hb e=>(sb.2 b hb).trans e) f0 f1 f3 f4 f5
  rw [hl] at st'
  obtain ⟨oo,e,c,dd⟩:=id st'
  exact ⟨key,rfl,go_of (s:={ s with heap:=h' }) e c dd (by decide) ⟨kV q.1,H,I1,rel_key hkey,⟨rfl,kvs[i],by simp [hi],by rw [ek]⟩,st',fun b hb=>(hf b hb).1⟩⟩
 done:=by
  intro X hP hw hK hc i pins s σ H E I hf st hg
  subst hP hw hK
  obtain ⟨hd,hi⟩:=hg
  obtain ⟨ns,ho,vs,kv,hl,o',es',ep',ho',r1,r2,r3⟩:=frz_dict I.hok hd
  rw [ho] at ho';cases ho'
  rw [hep] at r2;cases r2
  obtain ⟨f0,f1,f2,f3,f4,f5⟩:=hf it (by simp)
  exact wpAny_pyNext_dict_end (knd:=mixKind X.prog X.w) (kvs:=vs) (I.ok.hd hc) (by rw [hl];exact st) ⟨o,es,ho,r1,hep,r3⟩ (List.getElem?_eq_none (by omega)) fun h' eb=>⟨rfl,I.turned (t':=s.toks) (fun b o hb e=>eb b o hb e) f0 f1 f3 f4 f5⟩
 self:=fun _ _ _ _ _ st h=>wpAny_pyIter_keyiter st h
def iDict (tl:TE):TI:=fun σ H R=>tl σ H fun x H1=>∃ d o kvs,x=.ref d∧H1 d=some (.frz o (.dK kvs))∧R (Itd o d kvs) H1
theorem pi_dict {l tg:Expr}{tl:TE} (hl:PE X l tl):PI X tg l (iDict tl):=by
 intro pins s σ H R I h
 refine thn (hl pins s σ H _ I h) fun v s1 ⟨x,H1,I1,r1,q1⟩=>?_
 obtain ⟨d,o,kvs,e,hd,q⟩:=q1
 subst e
 cases r1
 obtain ⟨ns,ho,vs,kv,hl',o',es',ep',ho',r1,r2,r3⟩:=frz_dict I1.hok hd
 rw [ho] at ho';cases ho'
 refine wpAny_pyIter_dict (knd:=mixKind X.prog X.w) (kvs:=vs) (ep:=ep') ns ⟨o,es',ho,r1,r2,r3⟩ ?_
 rw [hl']
 refine ⟨s1.heap.objs.size,[s1.heap.objs.size],_,_,H1,rfl,I1.kept (t':=s1.toks) fun b o e=>Heap.get?_push_of_some _ e,turn_dict o d _ ep' es' r2,⟨_,Heap.get?_push_size _ rfl,rfl,rfl⟩,fun b hb=>?_,q⟩
 have e:b=s1.heap.objs.size:=by simpa using hb
 subst e
 exact I1.fpOk (Nat.le_refl _) (I1.hok.fresh (Nat.le_refl _))
theorem for_dict {o:Obj}{d:Addr}{kvs:List (Key × V)}{g:TG}{tb:TS}{D:Ends}{σ:St}{H:Hp} (Pv:Nat→St→Hp→Prop) (h0:Pv 0 σ H) (hl:∀ i σ H,i≤kvs.length→Pv i σ H→H d=some (.frz o (.dK kvs)))
  (hs:∀ (i:Nat) p σ H,kvs[i]?=some p→Pv i σ H→g (kV p.1) σ H fun σ2 H2=>tb { D with nx:=Pv (i+1),ct:=Pv (i+1),bk:=D.nx } σ2 H2) (hd:∀ σ H,Pv kvs.length σ H→D.nx σ H):
  ∃ W:Nat→Nat→St→Hp→Prop,(∃ m,W 0 m σ H)∧∀ i m σ H,W i m σ H→
   ((Itd o d kvs).stop i H∧D.nx σ H)∨((Itd o d kvs).go i H∧∃ N:St→Hp→Prop,(∀ σ' H',N σ' H'→∃ m',m' < m∧W (i+1) m' σ' H')∧∀ x H',(Itd o d kvs).yld i H x H'→g x σ H' fun σ2 H2=>tb { D with nx:=N,ct:=N,bk:=D.nx } σ2 H2):=by
 refine ⟨fun i m σ H=>m=kvs.length - i∧i≤kvs.length∧Pv i σ H,⟨kvs.length,by simp,Nat.zero_le _,h0⟩,?_⟩
 rintro i m σ H ⟨rfl,hi,p⟩
 have q:=hl i σ H hi p
 by_cases hlt:i < kvs.length
 · refine .inr ⟨⟨q,hlt⟩,Pv (i+1),fun σ' H' p'=>⟨kvs.length - (i+1),by omega,rfl,hlt,p'⟩,fun x H' y=>?_⟩
   obtain ⟨e,pp,e1,rfl⟩:=y
   subst e
   exact hs i pp σ _ e1 p
 · have e:i=kvs.length:=by omega
   subst e
   exact .inl ⟨⟨q,Nat.le_refl _⟩,hd σ H p⟩
end
def blkSt2 (ix:List Nat) (x y:Option V) (σ:St):St:=x::y::ix.map fun i=>(σ[i]?).join
def rComp2 (J:It) (ix:List Nat) (wj:TI) (te:TE) (σ:St) (H1:Hp) (Q:VK):Prop:=∀ D,H1 D=none→∃ W:Nat→Nat→List V→Hp→Prop,(∃ m,W 0 m [] (upd H1 D (.lst [])))∧
 ∀ i m ys H2,W i m ys H2→H2 D=some (.lst ys)∧((J.stop i H2∧Q (.ref D) H2)∨(J.go i H2∧∀ x H',J.yld i H2 x H'→∀ y0,wj (blkSt2 ix (some x) y0 σ) H' fun J2 H3=>∃ U:Nat→Nat→List V→Hp→Prop,(∃ m2,U 0 m2 ys H3)∧
  ∀ j m2 zs H4,U j m2 zs H4→H4 D=some (.lst zs)∧((J2.stop j H4∧∃ m',m' < m∧W (i+1) m' zs H4)∨(J2.go j H4∧zs.length < sizeLine∧∀ y H5,J2.yld j H4 y H5→te (blkSt2 ix (some x) (some y) σ) H5 fun v H6=>
   H6 D=some (.lst zs)∧∃ m2',m2' < m2∧U (j+1) m2' (zs++[v]) (upd H6 D (.lst (zs++[v])))))))
def tComp2 (wi:TI) (ix:List Nat) (wj:TI) (te:TE):TE:=fun σ H Q=>wi σ H fun J H1=>Wr (rComp2 J ix wj te σ H1 Q)
theorem compTurn_list2 (elt t1 i1 t2 i2:Expr) (scope:Scope) (pos:Pos) (it acc:Value) (env:Env):
  compTurn (.ListComp elt [⟨t1,i1,[],0⟩,⟨t2,i2,[],0⟩] scope pos) 0 it acc env=(standAt i1.pos >>= fun _=>pyNext it >>= fun r=>match r with
   | none=>pure (.done .next)
   | some v=>letOwnedTupleGo t1 it v >>= fun _=>assign t1 env v >>= fun _=>
    eval i2 env >>= fun x=>standAt i2.pos >>= fun _=>foldedSetIterable i2 env x >>= fun x=>holding [x] (pyIter x) >>= fun it2=>runOwn (.compStart (.ListComp elt [⟨t1,i1,[],0⟩,⟨t2,i2,[],0⟩] scope pos) 1 it2 acc env) env >>= fun _=>
     again (.compLoop (.ListComp elt [⟨t1,i1,[],0⟩,⟨t2,i2,[],0⟩] scope pos) 0 it acc env)):=by rfl
theorem compTurn_list2b (elt t1 i1 t2 i2:Expr) (scope:Scope) (pos:Pos) (it acc:Value) (env:Env):
  compTurn (.ListComp elt [⟨t1,i1,[],0⟩,⟨t2,i2,[],0⟩] scope pos) 1 it acc env=(standAt i2.pos >>= fun _=>pyNext it >>= fun r=>match r with
   | none=>pure (.done .next)
   | some v=>letOwnedTupleGo t2 it v >>= fun _=>assign t2 env v >>= fun _=>
    (eval elt env >>= fun x=>call (.builtin "list.append") [acc,x] >>= fun _=>pure ()) >>= fun _=>
     again (.compLoop (.ListComp elt [⟨t1,i1,[],0⟩,⟨t2,i2,[],0⟩] scope pos) 1 it acc env)):=by rfl
theorem codeAny_compStart_list1 {prog:Program}{w:World}{A:Around}{R:Result→Shared→Prop}{s:Shared}{elt g1 t2 i2 scope pos it acc env}
  (h0:codeAny (model prog w) A (.compLoop (.ListComp elt [g1,⟨t2,i2,[],0⟩] scope pos) 1 it acc env) R s)
  (h:wpAny (model prog w) A (pyIter it) (fun it' s'=>codeAny (model prog w) A (.compLoop (.ListComp elt [g1,⟨t2,i2,[],0⟩] scope pos) 1 it' acc env) R s')
   (notedBy (model prog w) A env fun x s'=>R (.error x) s') s):
  codeAny (model prog w) A (.compStart (.ListComp elt [g1,⟨t2,i2,[],0⟩] scope pos) 1 it acc env) R s:=by
 refine codeAny_of_tree ?_
 show wpAny _ _ ((compStart (.ListComp elt [g1,⟨t2,i2,[],0⟩] scope pos) 1 it acc env).onRaise (fun x=>do noteFrame x env;standAt theWindowsPlace)) _ _ s
 refine wpAny_notedAt ?_
 unfold compStart
 show wpAny _ _ (ask >>= _) _ _ s
 refine wpAny_bind (wpAny_askSetting (wpAny_ite ?_))
 split
 · first
     | exact wpAny_bind (wpAny_pure (wpAny_pure (And.intro rfl h0)))
     | exact wpAny_pure (And.intro rfl h0)
 · first
     | exact wpAny_bind (wpAny_rule (wpAny_bind (wpAny_standAt (wpAny_bind (wpAny_mono h (fun it' s' h'=>wpAny_pure (And.intro rfl h')) fun _ _ x=>x)))))
     | (refine wpAny_bind (wpAny_rule ?_);show wpAny _ _ (standAt i2.pos >>= _) _ _ s;exact wpAny_bind (wpAny_standAt (wpAny_bind (wpAny_mono h (fun it' s' h'=>wpAny_pure (And.intro rfl h')) fun _ _ x=>x))))
section
variable {X:Cx}
theorem pe_lcomp2 {x y2:Str}{px py pos:Pos}{elt iter iter2:Expr}{scope:Scope}{cl:List (Str × Addr)}{fr:List Str}{ix:List Nat}{wi wj:TI}{te:TE}
  (hc:X.calm=true) (hi:PI X (.Name x px) iter wi)
  (hclos:closureFor scope X.env=pure cl) (hkind:scope.kind=.function) (hcell:∀ y∈scope.names,y.2≠.cell)
  (hnames:∀ y∈scope.names,y.2=.local→scope.names.lookup y.1=some .local) (hx:scope.names.lookup x=some .local) (hy2:scope.names.lookup y2=some .local)
  (hN:(x::y2::fr).Nodup) (hix:ix.map (fun i=>X.N[i]?)=fr.map some)
  (hfr:∀ y∈fr,X.env.kindOf y=some .cell∧(relabel scope X.env).names.lookup y=some .cell)
  (hcl:∀ y c,cl.lookup y=some c→X.env.cells.lookup y=some c)
  (hcl2:∀ y,((relabel scope X.env).names.lookup y=some .cell∨(relabel scope X.env).names.lookup y=some .free)→∃ c,cl.lookup y=some c)
  (hj:∀ C s H fp,PI (X.blk (x::y2::fr) scope cl C s H fp) (.Name y2 py) iter2 wj)
  (he:∀ C s H fp,PE (X.blk (x::y2::fr) scope cl C s H fp) elt te)
  (hs:∀ x,foldedSetIterable iter X.env x=pure x:=by intro _;rfl) (hs2:∀ env x,foldedSetIterable iter2 env x=pure x:=by intro _ _;rfl):
  PE X (.ListComp elt [⟨.Name x px,iter,[],0⟩,⟨.Name y2 py,iter2,[],0⟩] scope pos) (tComp2 wi ix wj te):=by
 intro pins s σ H Q I h
 rw [eval_ListComp]
 refine wpAny_comprehension_free (use:=none) rfl hs hclos hkind hnames (thn (hi pins s σ H _ I h) fun xv s1 h1=>thn h1 fun itv s2 h2=>?_)
 obtain ⟨it,fp,tn,J,H2,e,I2,T,st2,f2,q⟩:=h2
 subst e
 refine wpAny_newObj_type (wpAny_newFunctionEnv hcell (by intro y hy;simp at hy) (fun h₁ hns₁ hsb₁=>?_) hkind)
 dsimp only at hns₁ hsb₁ ⊢
 have hDn:H2 s2.heap.objs.size=none:=I2.hok.fresh (Nat.le_refl _)
 obtain ⟨W,⟨m0,w0⟩,turn⟩:=q.get s2.heap.objs.size hDn
 generalize hHL:s2.heap.push { cls:=.type "list",dict:=none,data:=.seq ([]:List Value).toArray }=HL at hns₁ hsb₁ ⊢
 have hC:HL.objs.size=s2.heap.objs.size+1:=by rw [← hHL,Heap.size_push]
 have old:∀ b o,s2.heap.get? b=some o→h₁.get? b=some o:=fun b o e=>(hsb₁.2 b (by rw [hC];exact Nat.ne_of_lt (Nat.lt_succ_of_lt (Heap.lt_size e)))).trans (Heap.get?_push_of_some _ (hHL▸Heap.get?_push_of_some _ e))
 have hD1:h₁.get? s2.heap.objs.size=some { cls:=.type "list",data:=.seq ([]:List Value).toArray }:=
  (hsb₁.2 _ (by rw [hC];exact Nat.ne_of_lt (Nat.lt_succ_self _))).trans (Heap.get?_push_of_some _ (hHL▸Heap.get?_push_size _ rfl))
 generalize hCC:HL.objs.size=C at hns₁ hsb₁ ⊢
 rw [hCC] at hC
 have bC:∀ b o,s2.heap.get? b=some o→b≠C:=fun b o e=>by rw [hC];exact Nat.ne_of_lt (Nat.lt_succ_of_lt (Heap.lt_size e))
 have stl:∀ b∈frs X.stack,∃ o,s2.heap.get? b=some o:=fun b hb=>by
  obtain ⟨_,o,ho,_⟩:=I2.stack.mem hb
  exact ⟨o,ho⟩
 have fpl:∀ b∈fp,∃ o,s2.heap.get? b=some o∧∀ v,o.data≠.cell v:=fun b hb=>T.obj 0 _ st2 b hb
 have fpstk:∀ b∈fp,b∉frs X.stack:=fun b hb z=>by
  rcases List.mem_cons.mp (I2.stkSub b z) with z | z
  · exact (f2 b hb).2.1 z
  · exact (f2 b hb).2.2.1 z
 let B:=X.blk (x::y2::fr) scope cl C s2 H2 fp
 have okB:B.Ok:=by
  refine ⟨I2.ok.mod,hkind,I2.ok.glob,I2.ok.blt,(by show s2.heap.objs.size≤C;rw [hC];exact Nat.le_succ _),fun y z c e1 e2=>I2.ok.inj y z c (hcl _ _ e1) (hcl _ _ e2),fun y hy=>hcl2 y hy,fun y c z=>absurd (show false=true from z) Bool.false_ne_true,
   fun _=>I2.ok.hd hc,I2.ok.frames,.inl rfl,fun b hb=>⟨?_,fun y c e=>(f2 b hb).2.2.2.2.1 y c (hcl _ _ e)⟩,I2.bs,Nat.le_trans I2.ok.bsz I2.sz,fun b o e hb=>?_,fun b hb=>fpstk b hb,I2.stack,I2.stkFree⟩
  · obtain ⟨o,e,_⟩:=fpl b hb
    exact bC b o e
  · rcases (f2 b hb).2.2.2.1 with z | z
    · exact I2.ok.noex b o e z
    · exact absurd (Nat.lt_of_lt_of_le (Heap.lt_size (I2.ok.bs b o e).1) z) (Nat.lt_irrefl _)
 have IB:∀ tk,Inv B [] (blkSt2 ix none none σ) (upd H2 s2.heap.objs.size (.lst [])) { s2 with heap:=h₁,toks:=tk }:=fun tk=>by
  refine ⟨okB,rfl,I2.bare,Un.laid old (Nat.le_refl _) hDn,⟨_,hns₁,fun j y v e1 e2 e3=>?_⟩,fun y c e=>?_,?_,fun y c e=>?_,(fun p hp=>nomatch hp),I2.hok.laid old (Nat.le_refl _) ⟨Nat.zero_le _,[],0,.nil,hD1⟩,?_⟩
  · cases j with
    | zero=>cases (show (some none:Option (Option V))=some (some v) from e2)
    | succ j=>
     cases j with
     | zero=>cases (show (some none:Option (Option V))=some (some v) from e2)
     | succ j=>
      have e1:fr[j]?=some y:=e1
      have e2:(ix.map fun i=>(σ[i]?).join)[j]?=some (some v):=e2
      have hj:=congrArg (fun l=>l[j]?) hix
      simp only [List.getElem?_map,e1] at hj
      rw [List.getElem?_map] at e2
      cases hij:ix[j]? with
      | none=>rw [hij] at e2;cases e2
      | some i=>
       rw [hij] at hj e2
       have hj:X.N[i]?=some y:=Option.some.inj hj
       have e2:(σ[i]?).join=some v:=Option.some.inj e2
       have e2:σ[i]?=some (some v):=by
        cases z:σ[i]? with
        | none=>rw [z] at e2;cases e2
        | some z'=>rw [z] at e2;rw [show z'=some v from e2]
       obtain ⟨m,hn,hl⟩:=I2.loc
       have hk:=hfr y (List.mem_of_getElem? e1)
       obtain ⟨u,ru,lk⟩:=hl i y v hj e2 (.inr (.inl hk.1))
       refine ⟨u,ru,.inr ⟨.inl hk.2,?_⟩⟩
       rcases lk with ⟨z,_⟩ | ⟨_,c,ec,⟨oc,hoc,hcd⟩⟩
       · rw [hk.1] at z;cases z
       · obtain ⟨c',ec'⟩:=hcl2 y (.inl hk.2)
         have:=hcl _ _ ec'
         rw [ec] at this;cases this
         exact ⟨c,ec',oc,old c oc hoc,hcd⟩
  · obtain ⟨v,oc,hoc,hcd⟩:=I2.cell y c (hcl _ _ e)
    exact ⟨v,oc,old c oc hoc,hcd⟩
  · show upd H2 s2.heap.objs.size (.lst []) C=none
    rw [upd_ne (by rw [hC];exact Nat.succ_ne_self _)]
    exact I2.hok.fresh (by rw [hC];exact Nat.le_succ _)
  · obtain ⟨v,oc,hoc,hcd⟩:=I2.cell y c (hcl _ _ e)
    rw [upd_ne (Nat.ne_of_lt (Heap.lt_size hoc))]
    exact I2.freeC y c (hcl _ _ e)
  · show (blkSt2 ix none none σ).length=(x::y2::fr).length
    have:=congrArg List.length hix
    simp only [List.length_map] at this
    simp [blkSt2,this]
 have st1:∀ tk,tn 0 ({ s2 with heap:=h₁,toks:=tk }:Shared).heap:=fun _=>T.keep 0 _ _ st2 fun b hb o e=>old b o e
 have fB:∀ {H':Hp},(∀ b∈fp,H' b=none)→∀ b∈fp,FpOk B [] H' b:=fun hn b hb=>by
  obtain ⟨o,e,_⟩:=fpl b hb
  exact ⟨hn b hb,bC b o e,fpstk b hb,.inl hb,fun y c ec=>(f2 b hb).2.2.2.2.1 y c (hcl _ _ ec),(fun p hp=>nomatch hp)⟩
 have loop:∀ tk,codeAny (model X.prog X.w) X.A (.compLoop (.ListComp elt [⟨.Name x px,iter,[],0⟩,⟨.Name y2 py,iter2,[],0⟩] scope pos) 0 (.ref it) (.ref s2.heap.objs.size) (compEnvC scope cl C X.env))
   (compPost (model X.prog X.w) X.A X.xe none (EP X pins σ Q) (.ref s2.heap.objs.size) C) { s2 with heap:=h₁,toks:=tk }:=fun tk=>by
  refine codeAny_loop rfl (fun n s'=>∃ i ys x' y' H',Inv B [] (blkSt2 ix x' y' σ) H' s'∧tn i s'.heap∧(∀ b∈fp,H' b=none)∧W i n ys H') (fun n s3 hI=>?_) m0 ⟨0,[],none,none,_,IB tk,st1 tk,fun b hb=>?_,w0⟩
  · obtain ⟨i,ys,x',y',H3,I3,st3,fr3,w3⟩:=hI
    show wpAny _ _ ((compTurn (.ListComp elt [⟨.Name x px,iter,[],0⟩,⟨.Name y2 py,iter2,[],0⟩] scope pos) 0 (.ref it) (.ref s2.heap.objs.size) (compEnvC scope cl C X.env)).onRaise (fun x=>do noteFrame x (compEnvC scope cl C X.env);theTreesLotGoes x)) _ _ s3
    refine wpAny_noted ?_
    rw [compTurn_list2]
    obtain ⟨hD3,alt⟩:=turn i n ys H3 w3
    refine wpAny_bind (wpAny_standAt (wpAny_bind ?_))
    rcases alt with ⟨stop,qn⟩ | ⟨go,step⟩
    · refine thn (T.done B rfl rfl rfl hc i [] s3 _ H3 _ I3 (fB fr3) st3 stop) fun r s4 ⟨hr,I4⟩=>?_
      subst hr
      refine wpAny_pure ?_
      obtain ⟨m4,hn4,_⟩:=I4.loc
      refine ⟨m4,hn4,fun h' sb=>?_⟩
      have un:Un (frs X.stack) fp H2 H3 s2.heap h':=by
       have u:=I4.base
       refine ⟨fun b o e n hb hx=>(sb.2 b (bC b o e)).trans (u.keep b o e n hb hx),fun b o e n hb hx=>?_,u.free,fun b o e hx=>?_,u.tups,u.frzs,u.tbls⟩
       · obtain ⟨sl,e1⟩:=u.slot b o e n hb hx
         exact ⟨sl,(sb.2 b (bC b o e)).trans e1⟩
       · obtain ⟨o',e1⟩:=u.there b o e hx
         exact ⟨o',(sb.2 b (bC b o e)).trans e1⟩
      refine ⟨.ref s2.heap.objs.size,H3,I2.call' (s':={ s4 with heap:=h' }) (ch:=fp) I4.os un (I4.hok.sameBut I4.free sb) I4.bare (fun b hb=>⟨(f2 b hb).2.2.2.1,(f2 b hb).2.1,(f2 b hb).2.2.2.2⟩),rfl,qn⟩
    · refine thn (T.item B rfl rfl rfl hc i [] s3 _ H3 _ I3 (fB fr3) st3 go) fun r s4 ⟨u,hr,h4⟩=>?_
      subst hr
      refine wpAny_bind (thn h4 fun _ s5 ⟨xv,H5,I5,r5,y5,st5,fr5⟩=>?_)
      have I5':=I5.pinned (fB fr5) (T.obj _ _ st5)
      refine wpAny_bind (wpAny_assign_Name (store_ok (i:=0) (X:=B) I5' hN rfl (.inl (lookup_relabel_local hx)) r5 (fun s6 I6=>?_) (.inr (lookup_relabel_local hx))))
      have I6:Inv B ([]++pinsAt fp s5.heap) (blkSt2 ix (some xv) y' σ) H5 s6:=I6
      generalize hpp:([]:List (Addr × Obj))++pinsAt fp s5.heap=pp at I6
      have kp:∀ {st:St}{H8:Hp}{s8:Shared},Inv B pp st H8 s8→tn (i+1) s8.heap∧∀ b∈fp,H8 b=none:=fun I8=>by
       subst hpp
       exact ⟨T.keep _ _ _ st5 fun b hb o e=>(I8.pin (b,o) (List.mem_append_right _ (List.mem_append_right _ (mem_pinsAt hb e)))).1,fun b hb=>by
        obtain ⟨o,e,d⟩:=T.obj _ _ st5 b hb
        exact (I8.pin (b,o) (List.mem_append_right _ (List.mem_append_right _ (mem_pinsAt hb e)))).2.1⟩
      have un8:∀ {st:St}{H8:Hp}{s8:Shared},Inv B pp st H8 s8→Inv B [] st H8 s8:=fun I8=>by
       subst hpp
       exact I8.unpinned
      refine wpAny_bind (wpAny_mono (hj C s2 H2 fp pp s6 _ H5 _ I6 (step xv H5 y5 y')) (fun xv2 s7 h7=>?_) fun _ _ z=>False.elim z)
      refine wpAny_bind (wpAny_standAt (wpAny_bind (wpAny_of_eq (hs2 _ _) (wpAny_bind (wpAny_holding (wpAny_mono h7 (fun itv2 s8 h8=>?_) fun _ _ z=>False.elim z))))))
      obtain ⟨it2,fp2,tn2,J2,H8,e8,I8,T2,st8,f8,q8⟩:=h8
      subst e8
      obtain ⟨VV,⟨n0,v0⟩,turn2⟩:=q8
      refine wpAny_bind (wpAny_runOwn ?_)
      have loop2:∀ s8':Shared,s8'=s8→codeAny (model X.prog X.w) X.A (.compLoop (.ListComp elt [⟨.Name x px,iter,[],0⟩,⟨.Name y2 py,iter2,[],0⟩] scope pos) 1 (.ref it2) (.ref s2.heap.objs.size) (compEnvC scope cl C X.env))
        (fun r s'=>match r with | .ok _=>∃ m' y'' zs H',m' < n∧Inv B pp (blkSt2 ix (some xv) y'' σ) H' s'∧W (i+1) m' zs H' | .error _=>False) s8':=fun s8' es8=>by
       subst es8
       refine codeAny_loop rfl (fun n s'=>∃ j zs y'' H',Inv B pp (blkSt2 ix (some xv) y'' σ) H' s'∧tn2 j s'.heap∧(∀ b∈fp2,H' b=none)∧VV j n zs H') (fun n s3 hI=>?_) n0 ⟨0,ys,y',H8,I8,st8,fun b hb=>(f8 b hb).1,v0⟩
       obtain ⟨j,zs,y'',H9,I9,st9,fr9,v9⟩:=hI
       show wpAny _ _ ((compTurn (.ListComp elt [⟨.Name x px,iter,[],0⟩,⟨.Name y2 py,iter2,[],0⟩] scope pos) 1 (.ref it2) (.ref s2.heap.objs.size) (compEnvC scope cl C X.env)).onRaise (fun x=>do noteFrame x (compEnvC scope cl C X.env);theTreesLotGoes x)) _ _ s3
       refine wpAny_noted ?_
       rw [compTurn_list2b]
       obtain ⟨hD9,alt⟩:=turn2 j n zs H9 v9
       have fok:∀ {Hq:Hp},(∀ b∈fp2,Hq b=none)→∀ b∈fp2,FpOk B pp Hq b:=fun hn b hb=>⟨hn b hb,(f8 b hb).2⟩
       refine wpAny_bind (wpAny_standAt (wpAny_bind ?_))
       rcases alt with ⟨stop,m',hm',w'⟩ | ⟨go,hlen,step2⟩
       · refine wpAny_mono (T2.done B rfl rfl rfl hc j pp s3 _ H9 (fun _ _=>False) I9 (fok fr9) st9 stop) (fun r s4 ⟨hr,I4⟩=>?_) fun _ _ z=>False.elim z
         subst hr
         exact wpAny_pure ⟨m',y'',zs,H9,hm',I4,w'⟩
       · refine wpAny_mono (T2.item B rfl rfl rfl hc j pp s3 _ H9 (fun _ _=>False) I9 (fok fr9) st9 go) (fun r s4 ⟨u,hr,h4⟩=>?_) fun _ _ z=>False.elim z
         subst hr
         refine wpAny_bind (wpAny_mono h4 (fun _ s5' ⟨yv,H10,I10,r10,y10,st10,fr10⟩=>?_) fun _ _ z=>False.elim z)
         have I10':=I10.pinned (fok fr10) (T2.obj _ _ st10)
         refine wpAny_bind (wpAny_assign_Name (store_ok (i:=1) (X:=B) I10' hN rfl (.inl (lookup_relabel_local hy2)) r10 (fun s11 I11=>?_) (.inr (lookup_relabel_local hy2))))
         have I11:Inv B (pp++pinsAt fp2 s5'.heap) (blkSt2 ix (some xv) (some yv) σ) H10 s11:=I11
         refine wpAny_bind (wpAny_bind (wpAny_mono (he C s2 H2 fp _ s11 _ H10 _ I11 (step2 yv H10 y10)) (fun v s12 ⟨y,H12,I12,r12,hD12,m',hm,v12⟩=>?_) fun _ _ z=>False.elim z))
         refine wpAny_bind (wpAny_mono (mt_append (X:=B) _ s12 _ H12 (.ref s2.heap.objs.size) [y] (.ref s2.heap.objs.size) [v] (fun _ H8=>H8=upd H12 s2.heap.objs.size (.lst (zs++[y]))) I12 rfl (.cons r12 .nil) ⟨_,zs,y,rfl,rfl,hD12,hlen,rfl⟩)
          (fun _ s13 ⟨_,H13,I13,_,e13⟩=>?_) fun _ _ z=>False.elim z)
         subst e13
         refine wpAny_pure (wpAny_pure ⟨rfl,m',hm,j+1,zs++[y],some yv,_,I13.unpinned,T2.keep _ _ _ st10 fun b hb o e=>(I13.pin (b,o) (List.mem_append_right _ (List.mem_append_right _ (mem_pinsAt hb e)))).1,fun b hb=>?_,v12⟩)
         obtain ⟨o,e,d⟩:=T2.obj _ _ st10 b hb
         exact (I13.pin (b,o) (List.mem_append_right _ (List.mem_append_right _ (mem_pinsAt hb e)))).2.1
      have cont:codeAny (model X.prog X.w) X.A (.compStart (.ListComp elt [⟨.Name x px,iter,[],0⟩,⟨.Name y2 py,iter2,[],0⟩] scope pos) 1 (.ref it2) (.ref s2.heap.objs.size) (compEnvC scope cl C X.env))
        (fun r s'=>match r with | .ok _=>∃ m' y'' zs H',m' < n∧Inv B pp (blkSt2 ix (some xv) y'' σ) H' s'∧W (i+1) m' zs H' | .error _=>False) s8:=
       codeAny_compStart_list1 (loop2 _ rfl) (T2.self _ 0 _ _ _ st8 (loop2 _ rfl))
      refine codeAny_mono cont fun r s' hr=>?_
      cases r with
      | error _=>exact False.elim hr
      | ok f=>
       obtain ⟨m',y'',zs,H',hm,I',w'⟩:=hr
       exact wpAny_pure ⟨rfl,m',hm,i+1,zs,some xv,y'',H',un8 I',(kp I').1,(kp I').2,w'⟩
  · obtain ⟨o,e,_⟩:=fpl b hb
    rw [upd_ne (Nat.ne_of_lt (Heap.lt_size e))]
    exact (f2 b hb).1
 exact codeAny_compStart_list (loop _) (T.self _ 0 _ _ _ (st1 _) (loop _))
end
section
variable {X:Cx}{te:TE}{pos:Pos}
theorem pit {l tg:Expr}{tl:TE} (K:PySem.W.Frag) (e:X.K=K) (hl:PE X l tl):PI X tg l (iTup K tl):=by subst e;exact pi_tup hl
theorem pe_comp2 {x y2:Str}{px py:Pos}{elt iter iter2:Expr}{scope:Scope}{cl:List (Str × Addr)}{wi wj:TI} (fr:List Str) (ix:List Nat)
  (hi:PI X (.Name x px) iter wi) (hj:∀ C s H fp,PI (X.blk (x::y2::fr) scope cl C s H fp) (.Name y2 py) iter2 wj) (he:∀ C s H fp,PE (X.blk (x::y2::fr) scope cl C s H fp) elt te)
  (hcl:∀ y c,cl.lookup y=some c→X.env.cells.lookup y=some c)
  (hclos:closureFor scope X.env=pure cl:=by rfl) (hc:X.calm=true:=by rfl) (hkind:scope.kind=.function:=by rfl) (hcell:(scope.names.all fun p=>p.2 != .cell)=true:=by rfl)
  (hnames:(scope.names.all fun p=>p.2 != .local || scope.names.lookup p.1 == some .local)=true:=by rfl) (hx:scope.names.lookup x=some .local:=by rfl) (hy2:scope.names.lookup y2=some .local:=by rfl)
  (hN:(x::y2::fr).Nodup:=by decide+kernel) (hix:ix.map (fun i=>X.N[i]?)=fr.map some:=by rfl)
  (hfr:(fr.all fun y=>X.env.kindOf y == some .cell && (relabel scope X.env).names.lookup y == some .cell)=true:=by rfl)
  (hcl2:((relabel scope X.env).names.all fun p=>(p.2 != .cell && p.2 != .free) || (cl.lookup p.1).isSome)=true:=by rfl)
  (hs:∀ x,foldedSetIterable iter X.env x=pure x:=by intro _;rfl) (hs2:∀ env x,foldedSetIterable iter2 env x=pure x:=by intro _ _;rfl):
  PE X (.ListComp elt [⟨.Name x px,iter,[],0⟩,⟨.Name y2 py,iter2,[],0⟩] scope pos) (tComp2 wi ix wj te):=by
 refine pe_lcomp2 hc hi hclos hkind (fun y hy e=>?_) (fun y hy e=>?_) hx hy2 hN hix (fun y hy=>?_) hcl (fun y hy=>?_) hj he hs hs2
 · have:=List.all_eq_true.mp hcell y hy
   rw [e] at this
   exact absurd this (by decide)
 · have:=List.all_eq_true.mp hnames y hy
   rw [e] at this
   simpa using this
 · have:=List.all_eq_true.mp hfr y hy
   rw [Bool.and_eq_true] at this
   exact ⟨eq_of_beq this.1,eq_of_beq this.2⟩
 · have:∃ k,(relabel scope X.env).names.lookup y=some k∧(k=.cell∨k=.free):=by
     rcases hy with h | h
     · exact ⟨_,h,.inl rfl⟩
     · exact ⟨_,h,.inr rfl⟩
   obtain ⟨k,e,hk⟩:=this
   have:=List.all_eq_true.mp hcl2 (y,k) (PySem.mem_of_lookup e)
   have h2:(cl.lookup y).isSome=true:=by
    rcases hk with rfl | rfl <;> simpa using this
   exact Option.isSome_iff_exists.mp h2
theorem comp2_pair {K:PySem.W.Frag}{lo:Int}{n:Nat}{ix:List Nat}{ta:TA}{σ:St}{H:Hp}{Q:VK} (f:Nat→List Int) (hn:n≤1000) (hf:∀ i,(f i).length=2)
  (ha:∀ i,i < n→∀ (y0:Option V) (H2:Hp) (Q':List V→Hp→Prop),Q' ((f i).map V.int) H2→ta (blkSt2 ix (some (.int (lo+i))) y0 σ) H2 Q')
  (hQ:∀ D H',H D=none→H' D=some (.lst (((List.range n).flatMap f).map V.int))→Same H H'→Q (.ref D) H'):
  Wr (rComp2 (Itr lo n) ix (iTup K (tTup ta)) (tVar 1) σ H Q):=by
 refine ⟨fun D hD=>⟨fun i m ys H2=>m=n - i∧i≤n∧ys=((List.range i).flatMap f).map V.int∧H2 D=some (.lst ys)∧Same H H2,⟨n,rfl,Nat.zero_le _,rfl,upd_same,(fun b o e=>by rw [upd_ne (ne_of_none e hD)];exact e)⟩,?_⟩⟩
 rintro i m ys H2 ⟨rfl,hi,rfl,hD2,s2⟩
 refine ⟨hD2,?_⟩
 by_cases hlt:i < n
 · refine .inr ⟨hlt,fun x H' y y0=>?_⟩
   obtain ⟨e,y⟩:=y
   subst e y
   refine ha i hlt y0 H' _ ⟨?_,fun t ht=>?_⟩
   · rw [List.length_map,hf];exact (by decide:2≤sizeLine)
   refine ⟨t,rfl,⟨_,SqT.of upd_same⟩,?_⟩
   have nt:D≠t:=fun z=>by rw [← z,hD2] at ht;cases ht
   have len:((List.range i).flatMap f).length=2 * i:=by
    clear hlt hi hD2 ht nt s2 hD ha hn
    induction i with
    | zero=>rfl
    | succ i ih=>rw [List.range_succ,List.flatMap_append,List.length_append,ih];simp [hf];omega
   refine ⟨fun j m2 zs H4=>m2=2 - j∧j≤2∧zs=((List.range i).flatMap f).map V.int++((f i).take j).map V.int∧H4=upd (upd H' t (.tup ((f i).map V.int))) D (.lst zs),⟨2,rfl,Nat.zero_le _,by simp,?_⟩,?_⟩
   · funext b
     by_cases z:b=D
     · rw [z,upd_same,upd_ne nt];exact hD2
     · rw [upd_ne (a:=D) z]
   rintro j m2 zs H4 ⟨rfl,hj,rfl,rfl⟩
   refine ⟨upd_same,?_⟩
   have st:SqT K (upd (upd H' t (.tup ((f i).map V.int))) D (.lst (((List.range i).flatMap f).map V.int++((f i).take j).map V.int))) t ((f i).map V.int):=SqT.of (by rw [upd_ne (fun z=>nt z.symm),upd_same])
   by_cases hj2:j < 2
   · have hj3:j < (f i).length:=by rw [hf];exact hj2
     refine .inr ⟨⟨_,V.int (f i)[j],st,by simp [hj3]⟩,?_,fun y H5 yl=>?_⟩
     · refine Nat.lt_of_le_of_lt (?_:_≤10000) (by decide)
       rw [List.length_append,List.length_map,List.length_map,len,List.length_take,hf];omega
     obtain ⟨e,yl⟩:=yl
     subst e
     have ey:=yl _ st
     rw [List.getElem?_map,List.getElem?_eq_getElem hj3] at ey
     cases ey
     refine ⟨_,rfl,upd_same,2 - (j+1),by omega,rfl,hj2,?_,by rw [upd_upd]⟩
     rw [List.take_succ_eq_append_getElem hj3,List.map_append,List.append_assoc];rfl
   · have e:j=2:=by omega
     subst e
     refine .inl ⟨⟨_,st,by rw [List.length_map,hf];exact Nat.le_refl _⟩,n - (i+1),by omega,rfl,hlt,?_,upd_same,?_⟩
     · rw [List.take_of_length_le (by rw [hf];exact Nat.le_refl _),List.range_succ,List.flatMap_append,List.map_append]
       simp
     · intro b o e
       have h1:=s2 b o e
       have nb:b≠D:=ne_of_none e hD
       have nb2:b≠t:=ne_of_none h1 ht
       rw [upd_ne nb,upd_ne nb2];exact h1
 · have e:i=n:=by omega
   subst e
   exact .inl ⟨Nat.le_refl _,hQ D H2 hD hD2 s2⟩
end
def rDCompG (J:It) (n:Nat) (gT:TG) (tk tv:TE) (H1:Hp) (Q:VK):Prop:=∀ D,H1 D=none→∃ (e0:HO) (W:Nat→Nat→Hp→Prop),(e0=.dK []∨e0=.dT [])∧(∃ m,W 0 m (upd H1 D e0))∧
 ∀ i m H2,W i m H2→(J.stop i H2∧Q (.ref D) H2)∨(J.go i H2∧∀ x H',J.yld i H2 x H'→∀ nb:St,nb.length=n→gT x nb H' fun σ2 H3=>tk σ2 H3 fun y H4=>tv σ2 H4 fun yv H5=>
  ∃ H6,DPut H5 D y yv H6∧∃ m',m' < m∧W (i+1) m' H6)
def tDCompG (wi:TI) (n:Nat) (gT:TG) (tk tv:TE):TE:=fun σ H Q=>wi σ H fun J H1=>Wr (rDCompG J n gT tk tv H1 Q)
theorem dt_at {P:Program}{w:World}{H:Hp}{h h':Heap} (e:h'.get? h.objs.size=some { cls:=.type "dict",data:=.dict #[] }) (hb:sysModules < h.objs.size):ObjOk P w H h' h.objs.size (.dT []):=
 ⟨Nat.zero_le _,beq_eq_false_iff_ne.mpr (Ne.symm (Nat.ne_of_lt hb)),[],.nil,_, #[],0,e,⟨rfl,rfl,rfl⟩,rfl,rfl,List.nodup_nil⟩
section
variable {X:Cx}{pins:List (Addr × Obj)}{σ:St}{H:Hp}{s:Shared}{a:Addr}{y v:V}{u r:Value}{A:Around}{E:Value→Shared→Prop}
theorem d_dictSet {H':Hp}{Q:Unit→Shared→Prop} (hu:A.units+1 < cLine) (I:Inv X pins σ H s) (g:DPut H a y v H') (ry:RelV y u) (rv:RelV v r) (h:∀ s',Inv X pins σ H' s'→Q () s'):
  wpAny (model X.prog X.w) A (dictSet a u r) Q E s:=by
 rcases g with ⟨kvs,k,e,ey,l,eH⟩ | ⟨kvs,k,b,e,ey,eb,l,eH⟩
 · subst ey eH
   obtain ⟨z,hd,vs,rel,dd⟩:=dk_of I.hok e
   have hz:vs.length≤sizeLine:=by rw [← rel.length];exact z
   have hl:(putK kvs k v).length≤sizeLine:=by have:=length_putK kvs k v;omega
   refine wpAny_dictSet_pairs (hsz:=hz) (kV_is ry) dd fun h' dd' hs=>h _ ?_
   have he:∃ q,h'.get? a=some q:=let ⟨q,_,_,hq,_⟩:=dd';⟨q,hq⟩
   exact d_write I (by rw [e];exact True.intro) hs he (dk_new hl hd (rel.put k rv) dd')
 · subst ey eH
   cases (show u=Value.ref b from ry)
   obtain ⟨z,hd,xs,rel,dd⟩:=dt_of I.hok e
   have hz:xs.length≤sizeLine:=by rw [← Paired.length rel];exact z
   have hl:(putK kvs k v).length≤sizeLine:=by have:=length_putK kvs k v;omega
   refine wpAny_dictSet_heap (hsz:=hz) (show (tupleKind (mixKind X.prog X.w)).room A from Nat.lt_of_succ_lt hu) (key_of I.hok eb) dd fun h' dd' hs=>h _ ?_
   obtain ⟨q,es,ep,hq,h2,h3,h4,_,h5⟩:=dd'
   refine d_write I (by rw [e];exact True.intro) hs ⟨q,hq⟩ ⟨hl,hd,_,(rel.put k eb rv).keeps fun c ys ec=>?_,q,es,ep,hq,h2,h3,h4,h5⟩
   rw [upd_ne (ne_of ec e (fun z=>nomatch z))]
   exact ec
end
section
variable {X:Cx}
theorem pe_dcompGL {NB:List Str}{tgE:Expr}{gT:TG}{pos:Pos}{kx vx iter:Expr}{scope:Scope}{cl:List (Str × Addr)}{wi:TI}{tk tv:TE}
  (hu:X.A.units+1 < cLine) (hc:X.calm=true) (hi:PI X tgE iter wi)
  (hclos:closureFor scope X.env=pure cl) (hkind:scope.kind=.function) (hcell:∀ y∈scope.names,y.2≠.cell)
  (hnames:∀ y∈scope.names,y.2=.local→scope.names.lookup y.1=some .local)
  (hcl:∀ y c,cl.lookup y=some c→X.env.cells.lookup y=some c)
  (hcl2:∀ y,((relabel scope X.env).names.lookup y=some .cell∨(relabel scope X.env).names.lookup y=some .free)→∃ c,cl.lookup y=some c)
  (hg:∀ C s H fp,PG (X.blk NB scope cl C s H fp) tgE gT)
  (hk:∀ C s H fp,PE (X.blk NB scope cl C s H fp) kx tk) (he:∀ C s H fp,PE (X.blk NB scope cl C s H fp) vx tv)
  (hs:∀ x,foldedSetIterable iter X.env x=pure x:=by intro _;rfl):
  PE X (.DictComp kx vx [⟨tgE,iter,[],0⟩] scope pos) (tDCompG wi NB.length gT tk tv):=by
 intro pins s σ H Q I h
 rw [arm_eval_DictComp]
 refine wpAny_comprehension_free (use:=none) rfl hs hclos hkind hnames (thn (hi pins s σ H _ I h) fun xv s1 h1=>thn h1 fun itv s2 h2=>?_)
 obtain ⟨it,fp,tn,J,H2,e,I2,T,st2,f2,q⟩:=h2
 subst e
 refine wpAny_newObj_type (wpAny_newFunctionEnv hcell (by intro y hy;simp at hy) (fun h₁ hns₁ hsb₁=>?_) hkind)
 dsimp only at hns₁ hsb₁ ⊢
 have hDn:H2 s2.heap.objs.size=none:=I2.hok.fresh (Nat.le_refl _)
 obtain ⟨e0,W,he0,⟨m0,w0⟩,turn⟩:=q.get s2.heap.objs.size hDn
 generalize hHL:s2.heap.push { cls:=.type "dict",dict:=none,data:=.dict #[] }=HL at hns₁ hsb₁ ⊢
 have hC:HL.objs.size=s2.heap.objs.size+1:=by rw [← hHL,Heap.size_push]
 have old:∀ b o,s2.heap.get? b=some o→h₁.get? b=some o:=fun b o e=>(hsb₁.2 b (by rw [hC];exact Nat.ne_of_lt (Nat.lt_succ_of_lt (Heap.lt_size e)))).trans (Heap.get?_push_of_some _ (hHL▸Heap.get?_push_of_some _ e))
 have hD1:h₁.get? s2.heap.objs.size=some { cls:=.type "dict",data:=.dict #[] }:=
  (hsb₁.2 _ (by rw [hC];exact Nat.ne_of_lt (Nat.lt_succ_self _))).trans (Heap.get?_push_of_some _ (hHL▸Heap.get?_push_size _ rfl))
 generalize hCC:HL.objs.size=C at hns₁ hsb₁ ⊢
 rw [hCC] at hC
 have bC:∀ b o,s2.heap.get? b=some o→b≠C:=fun b o e=>by rw [hC];exact Nat.ne_of_lt (Nat.lt_succ_of_lt (Heap.lt_size e))
 have stl:∀ b∈frs X.stack,∃ o,s2.heap.get? b=some o:=fun b hb=>by
  obtain ⟨_,o,ho,_⟩:=I2.stack.mem hb
  exact ⟨o,ho⟩
 have fpl:∀ b∈fp,∃ o,s2.heap.get? b=some o∧∀ v,o.data≠.cell v:=fun b hb=>T.obj 0 _ st2 b hb
 have fpstk:∀ b∈fp,b∉frs X.stack:=fun b hb z=>by
  rcases List.mem_cons.mp (I2.stkSub b z) with z | z
  · exact (f2 b hb).2.1 z
  · exact (f2 b hb).2.2.1 z
 let B:=X.blk NB scope cl C s2 H2 fp
 have okB:B.Ok:=by
  refine ⟨I2.ok.mod,hkind,I2.ok.glob,I2.ok.blt,(by show s2.heap.objs.size≤C;rw [hC];exact Nat.le_succ _),fun y z c e1 e2=>I2.ok.inj y z c (hcl _ _ e1) (hcl _ _ e2),fun y hy=>hcl2 y hy,fun y c z=>absurd (show false=true from z) Bool.false_ne_true,
   fun _=>I2.ok.hd hc,I2.ok.frames,.inl rfl,fun b hb=>⟨?_,fun y c e=>(f2 b hb).2.2.2.2.1 y c (hcl _ _ e)⟩,I2.bs,Nat.le_trans I2.ok.bsz I2.sz,fun b o e hb=>?_,fun b hb=>fpstk b hb,I2.stack,I2.stkFree⟩
  · obtain ⟨o,e,_⟩:=fpl b hb
    exact bC b o e
  · rcases (f2 b hb).2.2.2.1 with z | z
    · exact I2.ok.noex b o e z
    · exact absurd (Nat.lt_of_lt_of_le (Heap.lt_size (I2.ok.bs b o e).1) z) (Nat.lt_irrefl _)
 have hob:∀ HH,ObjOk X.prog X.w HH h₁ s2.heap.objs.size e0:=fun HH=>by
  rcases he0 with z | z
  · subst z;exact dk_at hD1 I2.big
  · subst z;exact dt_at hD1 I2.big
 have IB:∀ tk,Inv B [] (List.replicate NB.length none) (upd H2 s2.heap.objs.size e0) { s2 with heap:=h₁,toks:=tk }:=fun tk=>by
  refine ⟨okB,rfl,I2.bare,Un.laid old (Nat.le_refl _) hDn,⟨_,hns₁,fun j y v e1 e2 e3=>?_⟩,fun y c e=>?_,?_,fun y c e=>?_,(fun p hp=>nomatch hp),I2.hok.laid old (Nat.le_refl _) (hob _),?_⟩
  · rw [List.getElem?_replicate] at e2
    split at e2 <;> cases e2
  · obtain ⟨v,oc,hoc,hcd⟩:=I2.cell y c (hcl _ _ e)
    exact ⟨v,oc,old c oc hoc,hcd⟩
  · show upd H2 s2.heap.objs.size e0 C=none
    rw [upd_ne (by rw [hC];exact Nat.succ_ne_self _)]
    exact I2.hok.fresh (by rw [hC];exact Nat.le_succ _)
  · obtain ⟨v,oc,hoc,hcd⟩:=I2.cell y c (hcl _ _ e)
    rw [upd_ne (Nat.ne_of_lt (Heap.lt_size hoc))]
    exact I2.freeC y c (hcl _ _ e)
  · exact List.length_replicate
 have st1:∀ tk,tn 0 ({ s2 with heap:=h₁,toks:=tk }:Shared).heap:=fun _=>T.keep 0 _ _ st2 fun b hb o e=>old b o e
 have fB:∀ {H':Hp},(∀ b∈fp,H' b=none)→∀ b∈fp,FpOk B [] H' b:=fun hn b hb=>by
  obtain ⟨o,e,_⟩:=fpl b hb
  exact ⟨hn b hb,bC b o e,fpstk b hb,.inl hb,fun y c ec=>(f2 b hb).2.2.2.2.1 y c (hcl _ _ ec),(fun p hp=>nomatch hp)⟩
 have loop:∀ tk,codeAny (model X.prog X.w) X.A (.compLoop (.DictComp kx vx [⟨tgE,iter,[],0⟩] scope pos) 0 (.ref it) (.ref s2.heap.objs.size) (compEnvC scope cl C X.env))
   (compPost (model X.prog X.w) X.A X.xe none (EP X pins σ Q) (.ref s2.heap.objs.size) C) { s2 with heap:=h₁,toks:=tk }:=fun tk=>by
  refine codeAny_loop rfl (fun n s'=>∃ i nb H',Inv B [] nb H' s'∧tn i s'.heap∧(∀ b∈fp,H' b=none)∧W i n H') (fun n s3 hI=>?_) m0 ⟨0,_,_,IB tk,st1 tk,fun b hb=>?_,w0⟩
  · obtain ⟨i,nb,H3,I3,st3,fr3,w3⟩:=hI
    show wpAny _ _ ((compTurn (.DictComp kx vx [⟨tgE,iter,[],0⟩] scope pos) 0 (.ref it) (.ref s2.heap.objs.size) (compEnvC scope cl C X.env)).onRaise (fun x=>do noteFrame x (compEnvC scope cl C X.env);theTreesLotGoes x)) _ _ s3
    refine wpAny_noted ?_
    rw [compTurn_dict]
    have alt:=turn i n H3 w3
    refine wpAny_bind (wpAny_standAt (wpAny_bind ?_))
    rcases alt with ⟨stop,qn⟩ | ⟨go,step⟩
    · refine thn (T.done B rfl rfl rfl hc i [] s3 _ H3 _ I3 (fB fr3) st3 stop) fun r s4 ⟨hr,I4⟩=>?_
      subst hr
      refine wpAny_pure ?_
      obtain ⟨m4,hn4,_⟩:=I4.loc
      refine ⟨m4,hn4,fun h' sb=>?_⟩
      have un:Un (frs X.stack) fp H2 H3 s2.heap h':=by
       have u:=I4.base
       refine ⟨fun b o e n hb hx=>(sb.2 b (bC b o e)).trans (u.keep b o e n hb hx),fun b o e n hb hx=>?_,u.free,fun b o e hx=>?_,u.tups,u.frzs,u.tbls⟩
       · obtain ⟨sl,e1⟩:=u.slot b o e n hb hx
         exact ⟨sl,(sb.2 b (bC b o e)).trans e1⟩
       · obtain ⟨o',e1⟩:=u.there b o e hx
         exact ⟨o',(sb.2 b (bC b o e)).trans e1⟩
      refine ⟨.ref s2.heap.objs.size,H3,I2.call' (s':={ s4 with heap:=h' }) (ch:=fp) I4.os un (I4.hok.sameBut I4.free sb) I4.bare (fun b hb=>⟨(f2 b hb).2.2.2.1,(f2 b hb).2.1,(f2 b hb).2.2.2.2⟩),rfl,qn⟩
    · refine thn (T.item B rfl rfl rfl hc i [] s3 _ H3 _ I3 (fB fr3) st3 go) fun r s4 ⟨u,hr,h4⟩=>?_
      subst hr
      refine wpAny_bind (thn h4 fun _ s5 ⟨xv,H5,I5,r5,y5,st5,fr5⟩=>?_)
      have I5':=I5.pinned (fB fr5) (T.obj _ _ st5)
      refine wpAny_bind (wpAny_mono (hg C s2 H2 fp _ s5 _ H5 xv u _ I5' r5 (step xv H5 y5 nb I3.len)) (fun _ s6 ⟨σ2,H6,I6,q6⟩=>?_) fun _ _ z=>False.elim z)
      refine wpAny_bind (wpAny_tests_nil (wpAny_bind (wpAny_bind (wpAny_mono (hk C s2 H2 fp _ s6 _ H6 _ I6 q6) (fun kv s7 ⟨y,H7,I7,r7,q7⟩=>?_) fun _ _ z=>False.elim z))))
      refine wpAny_bind (wpAny_holding (wpAny_mono (he C s2 H2 fp _ s7 _ H7 _ I7 q7) (fun vv s8 ⟨yv,H8,I8,r8,H9,g9,m',hm,w8⟩=>?_) fun _ _ z=>False.elim z))
      refine wpAny_bind (wpAny_standAt (wpAny_holding (d_dictSet (X:=B) hu I8 g9 r7 r8 fun s9 I9=>?_)))
      refine wpAny_pure ⟨rfl,m',hm,i+1,σ2,_,I9.unpinned,T.keep _ _ _ st5 fun b hb o e=>(I9.pin (b,o) (List.mem_append_right _ (List.mem_append_right _ (mem_pinsAt hb e)))).1,fun b hb=>?_,w8⟩
      obtain ⟨o,e,d⟩:=T.obj _ _ st5 b hb
      exact (I9.pin (b,o) (List.mem_append_right _ (List.mem_append_right _ (mem_pinsAt hb e)))).2.1
  · obtain ⟨o,e,_⟩:=fpl b hb
    rw [upd_ne (Nat.ne_of_lt (Heap.lt_size e))]
    exact (f2 b hb).1
 exact codeAny_compStart_dict (loop _) (T.self _ 0 _ _ _ (st1 _) (loop _))
end
section
variable {X:Cx}
theorem pgt (K:PySem.W.Frag) {pos:Pos}{es:List Expr}{k:Nat}{t:TGs}{n:Nat} (e:X.K=K) (hc:X.calm=true) (h:PGs X es t)
  (hn:(assignEach es X.env).length=n:=by rfl) (hst:(assignEach es X.env).findIdx? (·.1)=none:=by rfl):PG X (.Tuple es k pos) (gTup K n t):=by subst e;exact pg_tup hc h hn hst
theorem pe_dcompG {tgE:Expr}{gT:TG}{pos:Pos}{kx vx iter:Expr}{scope:Scope}{cl:List (Str × Addr)}{wi:TI}{tk tv:TE} (NB:List Str)
  (hu:X.A.units+1 < cLine) (hi:PI X tgE iter wi)
  (hg:∀ C s H fp,PG (X.blk NB scope cl C s H fp) tgE gT)
  (hk:∀ C s H fp,PE (X.blk NB scope cl C s H fp) kx tk) (he:∀ C s H fp,PE (X.blk NB scope cl C s H fp) vx tv)
  (hcl:∀ y c,cl.lookup y=some c→X.env.cells.lookup y=some c)
  (hclos:closureFor scope X.env=pure cl:=by rfl) (hc:X.calm=true:=by rfl) (hkind:scope.kind=.function:=by rfl) (hcell:(scope.names.all fun p=>p.2 != .cell)=true:=by rfl)
  (hnames:(scope.names.all fun p=>p.2 != .local || scope.names.lookup p.1 == some .local)=true:=by rfl)
  (hcl2:((relabel scope X.env).names.all fun p=>(p.2 != .cell && p.2 != .free) || (cl.lookup p.1).isSome)=true:=by rfl)
  (hs:∀ x,foldedSetIterable iter X.env x=pure x:=by intro _;rfl):
  PE X (.DictComp kx vx [⟨tgE,iter,[],0⟩] scope pos) (tDCompG wi NB.length gT tk tv):=by
 refine pe_dcompGL hu hc hi hclos hkind (fun y hy e=>?_) (fun y hy e=>?_) hcl (fun y hy=>?_) hg hk he hs
 · have:=List.all_eq_true.mp hcell y hy
   rw [e] at this
   exact absurd this (by decide)
 · have:=List.all_eq_true.mp hnames y hy
   rw [e] at this
   simpa using this
 · have:∃ k,(relabel scope X.env).names.lookup y=some k∧(k=.cell∨k=.free):=by
     rcases hy with h | h
     · exact ⟨_,h,.inl rfl⟩
     · exact ⟨_,h,.inr rfl⟩
   obtain ⟨k,e,hk⟩:=this
   have:=List.all_eq_true.mp hcl2 (y,k) (mem_of_lookup e)
   have h2:(cl.lookup y).isSome=true:=by
    rcases hk with rfl | rfl <;> simpa using this
   exact Option.isSome_iff_exists.mp h2
end
theorem dcomp_enum {K:PySem.W.Frag}{a:Addr}{xs:List V}{n:Nat}{gT:TG}{tk tv:TE}{H:Hp}{Q:VK} (Pv:Nat→List (List Key × V)→Prop) (h0:Pv 0 []) (hrd:∀ H',(∀ b o,H b=some o→H' b=some o)→SqL K H' a xs)
  (hs:∀ i x H1 D kvs t,xs[i]?=some x→H1 t=none→(∀ b o,H b=some o→H1 b=some o)→H D=none→H1 D=some (.dT kvs)→Pv i kvs→∀ nb:St,nb.length=n→∀ F:V→V→Hp→Prop,(∀ y yv H5 kvs' H6,DPut H5 D y yv H6→(∀ b o,H b=some o→H6 b=some o)→H6 D=some (.dT kvs')→Pv (i+1) kvs'→F y yv H5)→
   gT (.ref t) nb (upd H1 t (.tup [.int i,x])) fun σ2 H3=>tk σ2 H3 fun y H4=>tv σ2 H4 fun yv H5=>F y yv H5)
  (hd:∀ D H' kvs,H D=none→H' D=some (.dT kvs)→Pv xs.length kvs→(∀ b o,H b=some o→H' b=some o)→Q (.ref D) H'):Wr (rDCompG (Ite K a) n gT tk tv H Q):=by
 refine ⟨fun D hD=>⟨.dT [],fun i m H1=>m=xs.length - i∧i≤xs.length∧(∀ b o,H b=some o→H1 b=some o)∧∃ kvs,H1 D=some (.dT kvs)∧Pv i kvs,.inr rfl,⟨xs.length,by simp,Nat.zero_le _,fun b o e=>?_,[],upd_same,h0⟩,?_⟩⟩
 · rw [upd_ne (fun z=>by rw [z,hD] at e;cases e)];exact e
 · rintro i m H1 ⟨rfl,hi,sm,kvs,eD,pv⟩
   have q:=hrd H1 sm
   by_cases hlt:i < xs.length
   · refine .inr ⟨⟨xs,xs[i],q,by simp [hlt]⟩,fun x H' y nb hnb=>?_⟩
     obtain ⟨t,y,ht,rfl,rfl,hy⟩:=y
     exact hs i y H1 D kvs t (hy xs q) ht sm hD eD pv nb hnb (fun y yv H5=>∃ H6,DPut H5 D y yv H6∧∃ m',m' < xs.length - i∧m'=xs.length - (i+1)∧i+1≤xs.length∧(∀ b o,H b=some o→H6 b=some o)∧∃ kvs,H6 D=some (.dT kvs)∧Pv (i+1) kvs) fun y yv H5 kvs' H6 p6 s6 e6 pv6=>⟨H6,p6,xs.length - (i+1),by omega,rfl,hlt,s6,kvs',e6,pv6⟩
   · have e:i=xs.length:=by omega
     subst e
     exact .inl ⟨⟨xs,q,Nat.le_refl _⟩,hd D H1 kvs hD eD pv sm⟩
end L2
namespace My
open PySem L2
def oV:Option Int→V
 | none=>.non
 | some n=>.int n
abbrev Tab:=List (List (Option Int))
abbrev Row (H:Hp) (a:Addr) (r:List (Option Int)):Prop:=H a=some (.lst (r.map oV))
structure Tb (H:Hp) (t:Addr) (as:List Addr) (T:Tab):Prop where
 is:H t=some (.lst (as.map V.ref))
 len:as.length=T.length
 rw:∀ (i:Nat) a r,as[i]?=some a→T[i]?=some r→Row H a r
def cell (T:Tab) (c j:Nat):Option Int:=(T.getD c []).getD j none
theorem Tb.on {H H':Hp}{t:Addr}{as:List Addr}{T:Tab} (h:Tb H t as T) (k:∀ a∈t::as,∀ o,H a=some o→H' a=some o):Tb H' t as T:=
 ⟨k t (List.mem_cons_self ..) _ h.is,h.len,fun i a r e1 e2=>k a (List.mem_cons_of_mem _ (List.mem_of_getElem? e1)) _ (h.rw i a r e1 e2)⟩
theorem Tb.same {H H':Hp}{t:Addr}{as:List Addr}{T:Tab} (h:Tb H t as T) (s:Same H H'):Tb H' t as T:=h.on fun a _ o e=>s a o e
theorem Tb.at {H:Hp}{t:Addr}{as:List Addr}{T:Tab} (h:Tb H t as T) {i:Nat} (hi:i < T.length):∃ a,as[i]?=some a∧a∈as∧T[i]?=some (T.getD i [])∧Row H a (T.getD i []):=by
 have h1:i < as.length:=by rw [h.len];exact hi
 have e:T[i]?=some (T.getD i []):=by simp [List.getD,hi]
 exact ⟨as[i],by simp [h1],List.getElem_mem h1,e,h.rw i _ _ (by simp [h1]) e⟩
theorem Tb.live {H:Hp}{t:Addr}{as:List Addr}{T:Tab} (h:Tb H t as T):∀ a∈t::as,∃ o,H a=some o:=fun a ha=>by
 rcases List.mem_cons.mp ha with e | e
 · rw [e];exact ⟨_,h.is⟩
 · obtain ⟨i,hi,e⟩:=List.getElem_of_mem e
   have hi2:i < T.length:=by rw [← h.len];exact hi
   exact ⟨_,h.rw i a (T.getD i []) (by simp [← e,hi]) (by simp [List.getD,hi2])⟩
theorem Tb.set {H:Hp}{t a:Addr}{as:List Addr}{T:Tab}{i:Nat} (h:Tb H t as T) (nd:(t::as).Nodup) (e:as[i]?=some a) (r:List (Option Int)):Tb (upd H a (.lst (r.map oV))) t as (T.set i r):=by
 obtain ⟨n1,n2⟩:=List.nodup_cons.mp nd
 have ma:=List.mem_of_getElem? e
 obtain ⟨hi,ea⟩:=List.getElem?_eq_some_iff.mp e
 refine ⟨?_,by rw [h.len,List.length_set],fun j b s e1 e2=>?_⟩
 · have nt:t≠a:=fun z=>n1 (z▸ma)
   rw [upd_ne nt];exact h.is
 · by_cases hj:j=i
   · subst hj
     rw [e] at e1;cases e1
     rw [List.getElem?_set_self (by rw [← h.len];exact hi)] at e2
     cases e2
     exact upd_same
   · rw [List.getElem?_set_ne (Ne.symm hj)] at e2
     have:b≠a:=fun z=>by
      subst z
      obtain ⟨hj',eb⟩:=List.getElem?_eq_some_iff.mp e1
      exact hj ((List.getElem_inj n2).mp (eb.trans ea.symm))
     show upd H a _ b=_
     rw [upd_ne this]
     exact h.rw j b s e1 e2
theorem Tb.snoc {H:Hp}{t a:Addr}{as:List Addr}{T:Tab}{r:List (Option Int)} (h:Tb H t as T) (ha:Row H a r) (n:a≠t) (nt:t∉as):Tb (upd H t (.lst (as.map V.ref++[V.ref a]))) t (as++[a]) (T++[r]):=by
 refine ⟨by rw [upd_same,List.map_append];rfl,by simp [h.len],fun j b s e1 e2=>?_⟩
 have hb:b≠t:=by
  rcases List.mem_append.mp (List.mem_of_getElem? e1) with q | q
  · exact fun z=>nt (z▸q)
  · rw [List.mem_singleton.mp q];exact n
 show upd H t _ b=_
 rw [upd_ne hb]
 by_cases hj:j < as.length
 · rw [List.getElem?_append_left hj] at e1
   rw [List.getElem?_append_left (by rw [← h.len];exact hj)] at e2
   exact h.rw j b s e1 e2
 · rw [List.getElem?_append_right (by omega)] at e1
   rw [List.getElem?_append_right (by rw [← h.len];omega), ← h.len] at e2
   have z:j - as.length=0:=by
    have:=(List.getElem?_eq_some_iff.mp e1).1
    simp at this;omega
   rw [z] at e1 e2
   cases e1;cases e2
   exact ha
structure TabOk (k n:Nat) (T:Tab):Prop where
 len:T.length=n
 row:∀ r∈T,r.length=k
 rng:∀ c j e,cell T c j=some e→0≤e∧e < n
 inj:∀ c d j e,cell T c j=some e→cell T d j=some e→c=d
theorem cell_set {T:Tab}{c:Nat}{r:List (Option Int)} (hc:c < T.length) (i j:Nat):cell (T.set c r) i j=if i=c then r.getD j none else cell T i j:=by
 unfold cell
 by_cases h:i=c
 · subst h
   rw [if_pos rfl]
   simp [List.getD,List.getElem?_set_self hc]
 · rw [if_neg h]
   simp [List.getD,List.getElem?_set_ne (Ne.symm h)]
theorem getD_snoc (r:List (Option Int)) (v:Option Int) (j:Nat):(r++[v]).getD j none=if j=r.length then v else r.getD j none:=by
 by_cases h:j < r.length
 · rw [if_neg (by omega)]
   simp [List.getD,List.getElem?_append_left h]
 · by_cases h2:j=r.length
   · rw [if_pos h2,h2];simp [List.getD]
   · rw [if_neg h2]
     simp only [List.getD]
     rw [List.getElem?_eq_none (by simp;omega),List.getElem?_eq_none (by omega)]
structure Mid (j c n:Nat) (T:Tab) (left:List Int):Prop where
 len:T.length=n
 row:∀ (i:Nat) r,T[i]?=some r→r.length=if i < c then j+1 else j
 rng:∀ i k e,cell T i k=some e→0≤e∧e < n
 inj:∀ i d k e,cell T i k=some e→cell T d k=some e→i=d
 nd:left.Nodup
 ll:left.length=n - c
 lr:∀ e∈left,0≤e∧e < n
 ap:∀ i e,cell T i j=some e→e∉left
theorem TabOk.cell_none {k n:Nat}{T:Tab} (h:TabOk k n T) (i j:Nat) (hj:k≤j):cell T i j=none:=by
 unfold cell
 by_cases hi:i < T.length
 · have:(T.getD i []).length=k:=h.row _ (by simp [List.getD,hi])
   simp only [List.getD]
   rw [List.getElem?_eq_none (by simp only [List.getD] at this;omega)]
   rfl
 · simp [List.getD,List.getElem?_eq_none (Nat.le_of_not_lt hi)]
theorem TabOk.mid {j n:Nat}{T:Tab} (h:TabOk j n T):Mid j 0 n T (lab0 n):=by
 refine ⟨h.len,fun i r e=>?_,h.rng,h.inj,?_,?_,?_,fun i e he=>?_⟩
 · rw [if_neg (by omega)];exact h.row r (List.mem_of_getElem? e)
 · unfold lab0
   refine (List.pairwise_map.mpr ?_)
   exact (List.nodup_range (n:=n)).imp fun hab z=>hab (by omega)
 · simp [lab0]
 · intro e he
   obtain ⟨i,hi,rfl⟩:=List.mem_map.mp he
   have:=List.mem_range.mp hi
   omega
 · rw [h.cell_none i j (Nat.le_refl _)] at he
   cases he
theorem Mid.done {j n:Nat}{T:Tab}{left:List Int} (h:Mid j n n T left):TabOk (j+1) n T:=by
 refine ⟨h.len,fun r hr=>?_,h.rng,h.inj⟩
 obtain ⟨i,hi,e⟩:=List.getElem_of_mem hr
 have:=h.row i r (by simp [← e,hi])
 rw [if_pos (by rw [← h.len];exact hi)] at this
 exact this
theorem mem_erase_idx {l:List Int}{i:Nat}{e:Int} (h:e∈l.eraseIdx i):e∈l:=(List.eraseIdx_sublist l i).subset h
theorem not_erase {l:List Int} (nd:l.Nodup) {i:Nat} (hi:i < l.length):l[i]∉l.eraseIdx i:=by
 intro h
 rw [List.mem_eraseIdx_iff_getElem] at h
 obtain ⟨j,hj,hne,e⟩:=h
 exact hne ((List.getElem_inj nd).mp e)
theorem Mid.step {j c n:Nat}{T:Tab}{left:List Int} (h:Mid j c n T left) (hc:c < n) {i:Nat} (hi:i < left.length) (v:Option Int) (hv:v=none∨v=some left[i]):
  Mid j (c+1) n (T.set c (T.getD c []++[v])) (left.eraseIdx i):=by
 have hcT:c < T.length:=by rw [h.len];exact hc
 have ec:T[c]?=some (T.getD c []):=by simp [List.getD,hcT]
 have rl:(T.getD c []).length=j:=by
  have:=h.row c _ ec
  rw [if_neg (by omega)] at this
  exact this
 have ce:∀ i' k,cell (T.set c (T.getD c []++[v])) i' k=if i'=c∧k=j then v else cell T i' k:=fun i' k=>by
  rw [cell_set hcT,getD_snoc,rl]
  by_cases h1:i'=c
  · rw [if_pos h1]
    by_cases h2:k=j
    · rw [if_pos h2,if_pos ⟨h1,h2⟩]
    · rw [if_neg h2,if_neg (fun z=>h2 z.2),h1];rfl
  · rw [if_neg h1,if_neg (fun z=>h1 z.1)]
 have cj:cell T c j=none:=by
  unfold cell
  rw [List.getD,List.getElem?_eq_none (by rw [rl];exact Nat.le_refl _)];rfl
 have lm:left[i]∈left:=List.getElem_mem hi
 have vv:∀ e,v=some e→e=left[i]:=fun e he=>by
  rcases hv with q | q
  · rw [q] at he;cases he
  · rw [q] at he;exact (Option.some.inj he).symm
 refine ⟨by rw [List.length_set];exact h.len,fun i' r e=>?_,fun i' k e he=>?_,fun i' d k e h1 h2=>?_,h.nd.sublist (List.eraseIdx_sublist ..),?_,fun e he=>h.lr e (mem_erase_idx he),fun i' e he=>?_⟩
 · by_cases hj:i'=c
   · subst hj
     rw [List.getElem?_set_self hcT] at e
     cases e
     rw [if_pos (by omega),List.length_append,rl];rfl
   · rw [List.getElem?_set_ne (Ne.symm hj)] at e
     rw [h.row i' r e]
     by_cases q:i' < c
     · rw [if_pos q,if_pos (by omega)]
     · rw [if_neg q,if_neg (by omega)]
 · rw [ce] at he
   split at he
   · rw [vv e he];exact h.lr _ lm
   · exact h.rng _ _ _ he
 · rw [ce] at h1 h2
   split at h1
   · rename_i q1
     split at h2
     · rename_i q2;rw [q1.1,q2.1]
     · rw [vv e h1,q1.2] at h2
       exact absurd lm (h.ap _ _ h2)
   · split at h2
     · rename_i q2
       rw [vv e h2,q2.2] at h1
       exact absurd lm (h.ap _ _ h1)
     · exact h.inj _ _ _ _ h1 h2
 · rw [List.length_eraseIdx,if_pos hi,h.ll];omega
 · rw [ce] at he
   split at he
   · rw [vv e he];exact not_erase h.nd hi
   · exact fun z=>h.ap _ _ he (mem_erase_idx z)
open PySem.SeqAt PyProof.Rows
def col (T:Tab) (j:Nat):List (Option Int):=T.map fun r=>r.getD j none
def cols (k:Nat) (T:Tab):Tab:=(List.range k).map (col T)
theorem cols_len (k:Nat) (T:Tab):(cols k T).length=k:=by simp [cols]
theorem cols_at {k j:Nat} (T:Tab) (h:j < k):(cols k T)[j]?=some (col T j):=by simp [cols,h]
theorem cols_getD {k j:Nat} (T:Tab) (h:j < k):(cols k T).getD j []=col T j:=by simp [List.getD,cols_at T h]
theorem col_len (T:Tab) (j:Nat):(col T j).length=T.length:=by simp [col]
theorem col_getD (T:Tab) (c j:Nat):(col T j).getD c none=cell T c j:=by
 unfold col cell
 by_cases h:c < T.length
 · simp [List.getD,h]
 · simp [List.getD,List.getElem?_eq_none (Nat.le_of_not_lt h)]
theorem getD_ext {r s:List (Option Int)} (hl:r.length=s.length) (h:∀ j,r.getD j none=s.getD j none):r=s:=by
 refine List.ext_getElem hl fun i h1 h2=>?_
 have:=h i
 simpa [List.getD,h1,h2] using this
theorem row_back {k n:Nat}{T:Tab} (h:TabOk k n T) {c:Nat} (hc:c < n):col (cols k T) c=T.getD c []:=by
 have hcT:c < T.length:=by rw [h.len];exact hc
 have hr:(T.getD c []).length=k:=h.row _ (by simp [List.getD,hcT])
 refine getD_ext (by rw [col_len,cols_len,hr]) fun j=>?_
 rw [col_getD]
 unfold cell
 by_cases hj:j < k
 · rw [cols_getD T hj,col_getD];rfl
 · have e1:(cols k T).getD j []=[]:=by rw [List.getD,List.getElem?_eq_none (by rw [cols_len];omega)];rfl
   have e2:(T.getD c []).getD j none=none:=by
    generalize T.getD c []=r at hr
    rw [List.getD,List.getElem?_eq_none (by omega)];rfl
   rw [e1,e2];rfl
theorem cols_back {k n:Nat}{T:Tab} (h:TabOk k n T):cols n (cols k T)=T:=by
 refine List.ext_getElem (by rw [cols_len,h.len]) fun i h1 h2=>?_
 have hi:i < n:=by rwa [cols_len] at h1
 have e:=cols_at (cols k T) hi
 rw [row_back h hi] at e
 have e2:(cols n (cols k T))[i]?=some ((cols n (cols k T))[i]):=by simp [h1]
 rw [e] at e2
 have e3:=Option.some.inj e2
 rw [← e3]
 simp [List.getD,h2]
structure BegPart (i:Nat) (ends fs:List (Option Int)):Prop where
 len:fs.length=ends.length
 iff:∀ (e:Nat) (c:Int),fs.getD e none=some c↔∃ m:Nat,c=m∧m < i∧ends.getD m none=some (e:Int)
abbrev BegOk (ends fs:List (Option Int)):Prop:=BegPart ends.length ends fs
def chf (k:Nat) (lo li:Addr):List (Str × V):=putF "inward" (.ref li) (putF "onward" (.ref lo) (putF "kinds" (.int k) []))
theorem chf_look (k:Nat) (lo li:Addr) (m:Str):(chf k lo li).lookup m=if m="inward" then some (.ref li) else if m="onward" then some (.ref lo) else if m="kinds" then some (.int k) else none:=by
 unfold chf
 rw [lookup_putF,lookup_putF,lookup_putF];rfl
theorem chf_in (k:Nat) (lo li:Addr):(chf k lo li).lookup ("inward":Str)=some (.ref li):=by rw [chf_look,if_pos rfl]
theorem chf_on (k:Nat) (lo li:Addr):(chf k lo li).lookup ("onward":Str)=some (.ref lo):=by rw [chf_look,if_neg (by decide),if_pos rfl]
theorem chf_k (k:Nat) (lo li:Addr):(chf k lo li).lookup ("kinds":Str)=some (.int k):=by rw [chf_look,if_neg (by decide),if_neg (by decide),if_pos rfl]
theorem chf_no (k:Nat) (lo li:Addr) {m:Str} (h1:¬ m="inward":=by decide) (h2:¬ m="onward":=by decide) (h3:¬ m="kinds":=by decide):(chf k lo li).lookup m=none:=by rw [chf_look,if_neg h1,if_neg h2,if_neg h3]
structure ChAt (C:Addr) (H:Hp) (g:Addr) (k n:Nat) (T:Tab) (fp:List Addr):Prop where
 ok:TabOk k n T
 k1:1≤k
 k5:k≤5
 n1:1≤n
 n7:n≤700
 ob:∃ dx lo li as bs I,fp=g::((lo::as)++(li::bs))∧H g=some (.ins C dx (chf k lo li))∧Tb H lo as (cols k T)∧Tb H li bs I∧I.length=k∧∀ j,j < k→BegOk (col T j) (I.getD j [])
theorem ChAt.on {C:Addr}{H H':Hp}{g:Addr}{k n:Nat}{T:Tab}{fp:List Addr} (h:ChAt C H g k n T fp) (s:∀ a∈fp,∀ o,H a=some o→H' a=some o):ChAt C H' g k n T fp:=by
 obtain ⟨dx,lo,li,as,bs,I,rfl,hg,h1,h2,h3,h4⟩:=h.ob
 refine ⟨h.ok,h.k1,h.k5,h.n1,h.n7,dx,lo,li,as,bs,I,rfl,s g (List.mem_cons_self ..) _ hg,h1.on fun a ha=>s a ?_,h2.on fun a ha=>s a ?_,h3,h4⟩
 · exact List.mem_cons_of_mem _ (List.mem_append_left _ ha)
 · exact List.mem_cons_of_mem _ (List.mem_append_right _ ha)
theorem ChAt.same {C:Addr}{H H':Hp}{g:Addr}{k n:Nat}{T:Tab}{fp:List Addr} (h:ChAt C H g k n T fp) (s:Same H H'):ChAt C H' g k n T fp:=h.on fun a _ o e=>s a o e
end My
namespace My
open PySem L2
structure TxtC (K:PySem.W.Frag) (mg:Str→Option Value) (C:Addr):Prop where
 cl:Cls K C
 nk:NoAttr K C "kinds"
 no:NoAttr K C "onward"
 ni:NoAttr K C "inward"
 mkk:∃ t,mg "MOST_KINDS"=some (.int 5 t)
 mcc:∃ t,mg "MOST_CHAMBERS"=some (.int 700 t)
 sum:mg "sum"=none
theorem Row.same {H H':Hp}{a:Addr}{r:List (Option Int)} (h:Row H a r) (s:Same H H'):Row H' a r:=s _ _ h
theorem get_opt {r:List (Option Int)}{i:Nat}{y:V} (h:(r.map oV)[i]?=some y):∃ z,y=oV z∧r[i]?=some z:=by
 rw [List.getElem?_map] at h
 cases e:r[i]? with
 | none=>rw [e] at h;cases h
 | some z=>rw [e] at h;exact ⟨z,(Option.some.inj h).symm,rfl⟩
theorem get_adr {as:List Addr}{i:Nat}{y:V} (h:(as.map V.ref)[i]?=some y):∃ z,y=V.ref z∧as[i]?=some z:=by
 rw [List.getElem?_map] at h
 cases e:as[i]? with
 | none=>rw [e] at h;cases h
 | some z=>rw [e] at h;exact ⟨z,(Option.some.inj h).symm,rfl⟩
theorem getD_some {α:Type}{r:List α}{i:Nat}{z d:α} (h:r[i]?=some z):r.getD i d=z:=by rw [List.getD,h];rfl
theorem rd_cell {K:PySem.W.Frag}{H:Hp}{a:Addr}{r:List (Option Int)}{i:Int}{Q:VK} (k:Nat) (hq:Row H a r) (hk:k < r.length) (h:Q (oV (r.getD k none)) H) (e:i=(k:Int):=by rfl):Wr (rIxL K (.ref a) (.int i) H Q):=by
 refine ⟨⟨a,_,i,_,rfl,rfl,SqL.of hq,?_,h⟩⟩
 subst e
 exact atI_nat (by rw [List.getElem?_map,show r[k]?=some (r.getD k none) by simp [List.getD,hk]];rfl)
theorem rd_row {K:PySem.W.Frag}{H:Hp}{t a:Addr}{as:List Addr}{T:Tab}{i:Int}{Q:VK} (k:Nat) (hq:Tb H t as T) (ha:as[k]?=some a) (h:Q (.ref a) H) (e:i=(k:Int):=by rfl):Wr (rIxL K (.ref t) (.int i) H Q):=by
 refine ⟨⟨t,_,i,_,rfl,rfl,SqL.of hq.is,?_,h⟩⟩
 subst e
 exact atI_nat (by rw [List.getElem?_map,ha];rfl)
theorem comp_col {K:PySem.W.Frag}{t:Addr}{as:List Addr}{T:Tab}{j:Nat}{ix:List Nat}{te:TE}{σ:St}{H:Hp}{Q:VK} (h:Tb H t as T) (hl:T.length≤100000)
  (he:∀ a r,r∈T→∀ (H':Hp) (Q':VK),Same H H'→Row H' a r→Q' (oV (r.getD j none)) H'→te (blkSt ix (some (.ref a)) σ) H' Q') (hQ:∀ D,H D=none→Q (.ref D) (upd H D (.lst ((col T j).map oV)))):
  Wr (rComp (Itl K t) ix te σ H Q):=by
 let f:V→V:=fun z=>match z with
  | .ref a=>(match H a with | some (.lst xs)=>xs.getD j .non | _=>.non)
  | _=>.non
 have fe:∀ a r,Row H a r→f (.ref a)=oV (r.getD j none):=fun a r hr=>by
  show (match H a with | some (.lst xs)=>xs.getD j .non | _=>.non)=_
  rw [show H a=some (.lst (r.map oV)) from hr]
  show (r.map oV).getD j .non=_
  by_cases hj:j < r.length
  · simp [List.getD,hj]
  · simp [List.getD,List.getElem?_eq_none (Nat.le_of_not_lt hj),oV]
 refine ⟨comp_vals (xs:=as.map V.ref) f (SqL.of h.is) (small4k (by rw [List.length_map,h.len];omega)) (fun z hz H' Q' s q=>?_) fun D hD=>?_⟩
 · obtain ⟨a,ha,rfl⟩:=List.mem_map.mp hz
   obtain ⟨i,hi,e⟩:=List.getElem_of_mem ha
   have hi2:i < T.length:=by rw [← h.len];exact hi
   have hr:=h.rw i a T[i] (by simp [← e,hi]) (by simp [hi2])
   rw [fe a _ hr] at q
   exact he a _ (List.getElem_mem hi2) H' Q' s (hr.same s) q
 · have:(as.map V.ref).map f=(col T j).map oV:=by
     unfold col
     rw [List.map_map,List.map_map]
     refine List.ext_getElem (by simp [h.len]) fun i h1 h2=>?_
     have h1':i < as.length:=by simpa using h1
     have h2':i < T.length:=by simpa using h2
     simp only [List.getElem_map,Function.comp]
     exact fe _ _ (h.rw i as[i] T[i] (by simp [h1']) (by simp [h2']))
   rw [this]
   exact hQ D hD
theorem hcl1 {cells:List (Str × Addr)}{a:Str}{x:Addr} (h1:cells.lookup a=some x):∀ z c,[(a,x)].lookup z=some c→cells.lookup z=some c:=fun z c h=>by
 rw [List.lookup_cons] at h
 cases e:z == a with
 | true=>rw [e] at h;rw [eq_of_beq e,h1];exact h
 | false=>rw [e] at h;cases h
theorem rd_rep {H:Hp}{a:Addr}{n:Nat}{k:Int}{z:Option Int}{Q:VK} (ha:H a=some (.lst [oV z])) (hn:n≤100000) (h:∀ (p:Addr) (H':Hp),H p=none→Row H' p (List.replicate n z)→Same H H'→Q (.ref p) H') (e:k=(n:Int):=by rfl):Wr (rRep (.ref a) (.int k) H Q):=by
 subst e
 refine ⟨⟨a,n,[oV z],rfl,rfl,ha,by omega,by omega,?_,fun p hp=>?_⟩⟩
 · exact Nat.le_of_lt (small4k (by simp;omega))
 · have e:(List.replicate (n:Int).toNat [oV z]).flatten=(List.replicate n z).map oV:=by
     rw [Int.toNat_natCast]
     clear h hn
     induction n with
     | zero=>rfl
     | succ n ih=>rw [List.replicate_succ,List.flatten_cons,ih,List.replicate_succ,List.map_cons];rfl
   rw [e]
   exact h p _ hp upd_same ((Same.refl H).upd hp)
def spTable:Sp:=fun vs H Q _=>∃ (k n:Nat) (ld:Addr) (ds:List Int) (sh:Int),vs=[.int k,.int n,.ref ld,.int sh]∧Ints H ld ds∧1≤k∧k≤5∧1≤n∧n≤1000∧k * n≤ds.length∧
 ∀ (t:Addr) (as:List Addr) (T:Tab) (H':Hp),H t=none→(∀ a∈as,H a=none)→(t::as).Nodup→Tb H' t as T→TabOk k n T→(sh≤0→∀ r∈T,none∉r)→Same H H'→Q (.ref t) H'
def spShape:Sp:=fun vs H Q _=>∃ (k n:Nat) (t:Addr) (as:List Addr) (T:Tab),vs=[.int k,.ref t]∧Tb H t as T∧TabOk k n T∧1≤k∧k≤5∧1≤n∧n≤700∧Q .non H
def EndsOk (ends:List (Option Int)):Prop:=(∀ (c:Nat) e,ends.getD c none=some e→0≤e∧e < ends.length)∧∀ (c d:Nat) e,ends.getD c none=some e→ends.getD d none=some e→c=d
theorem TabOk.ends {k n:Nat}{T:Tab} (h:TabOk k n T) (j:Nat):EndsOk (col T j):=by
 refine ⟨fun c e he=>?_,fun c d e h1 h2=>?_⟩
 · rw [col_getD] at he
   rw [col_len,h.len];exact h.rng _ _ _ he
 · rw [col_getD] at h1 h2
   exact h.inj _ _ _ _ h1 h2
def spBeg:Sp:=fun vs H Q _=>∃ (a:Addr) (ends:List (Option Int)),vs=[.ref a]∧Row H a ends∧EndsOk ends∧ends.length≤1000∧
 ∀ (l:Addr) (fs:List (Option Int)) (H':Hp),H l=none→Row H' l fs→BegOk ends fs→Same H H'→Q (.ref l) H'
def spInit (C:Addr):Sp:=fun vs H Q _=>∃ (g dx:Addr) (k n:Nat) (t:Addr) (as:List Addr) (T:Tab),vs=[.ref g,.int k,.ref t]∧H g=some (.ins C dx [])∧Tb H t as T∧TabOk k n T∧1≤k∧k≤5∧1≤n∧n≤700∧
 ∀ (H':Hp) (fp:List Addr),ChAt C H' g k n T fp→(∀ a∈fp,a≠g→H a=none)→Kp g H H'→Q .non H'
def spSize (C:Addr):Sp:=fun vs H Q _=>∃ (g:Addr) (k n:Nat) (T:Tab) (fp:List Addr),vs=[.ref g]∧ChAt C H g k n T fp∧Q (.int n) H
def spTabl (C:Addr):Sp:=fun vs H Q _=>∃ (g:Addr) (k n:Nat) (T:Tab) (fp:List Addr),vs=[.ref g]∧ChAt C H g k n T fp∧
 ∀ (t:Addr) (as:List Addr) (H':Hp),H t=none→(∀ a∈as,H a=none)→(t::as).Nodup→Tb H' t as T→Same H H'→Q (.ref t) H'
theorem BegPart.zero (ends:List (Option Int)):BegPart 0 ends (List.replicate ends.length none):=by
 refine ⟨by simp,fun e c=>⟨fun h=>?_,fun ⟨m,_,h,_⟩=>by omega⟩⟩
 rw [List.getD,List.getElem?_replicate] at h
 split at h <;> cases h
theorem BegPart.skip {i:Nat}{ends fs:List (Option Int)} (h:BegPart i ends fs) (e:ends.getD i none=none):BegPart (i+1) ends fs:=by
 refine ⟨h.len,fun x c=>(h.iff x c).trans ⟨fun ⟨m,a,b,d⟩=>⟨m,a,by omega,d⟩,fun ⟨m,a,b,d⟩=>⟨m,a,?_,d⟩⟩⟩
 by_cases q:m=i
 · subst q;rw [e] at d;cases d
 · omega
theorem BegPart.free {i x:Nat}{ends fs:List (Option Int)} (h:BegPart i ends fs) (ok:EndsOk ends) (e:ends.getD i none=some (x:Int)):fs.getD x none=none:=by
 cases q:fs.getD x none with
 | none=>rfl
 | some c=>
  obtain ⟨m,_,hm,d⟩:=(h.iff x c).mp q
  have:=ok.2 _ _ _ d e
  omega
theorem BegPart.put {i x:Nat}{ends fs:List (Option Int)} (h:BegPart i ends fs) (ok:EndsOk ends) (e:ends.getD i none=some (x:Int)):BegPart (i+1) ends (fs.set x (some (i:Int))):=by
 have hx:x < fs.length:=by
  have:=(ok.1 i _ e).2
  rw [h.len];omega
 refine ⟨by rw [List.length_set];exact h.len,fun y c=>?_⟩
 by_cases q:y=x
 · subst q
   have e1:(fs.set y (some (i:Int))).getD y none=some (i:Int):=by rw [List.getD,List.getElem?_set_self hx];rfl
   rw [e1]
   constructor
   · intro z;exact ⟨i,(Option.some.inj z).symm,by omega,e⟩
   · rintro ⟨m,rfl,hm,d⟩
     rw [ok.2 _ _ _ d e]
 · have e1:(fs.set x (some (i:Int))).getD y none=fs.getD y none:=by rw [List.getD,List.getElem?_set_ne (fun z=>q z.symm)];rfl
   rw [e1,h.iff]
   constructor
   · rintro ⟨m,a,b,d⟩;exact ⟨m,a,by omega,d⟩
   · rintro ⟨m,a,b,d⟩
     refine ⟨m,a,?_,d⟩
     by_cases z:m=i
     · subst z
       rw [e] at d
       exact absurd (Option.some.inj d) (by omega)
     · omega
theorem map_eraseIdx {α β:Type} (f:α→β):∀ (l:List α) (i:Nat),(l.map f).eraseIdx i=(l.eraseIdx i).map f
 | [],_=>rfl
 | _::_,0=>rfl
 | a::l,i+1=>by
  show f a::(l.map f).eraseIdx i=f a::(l.eraseIdx i).map f
  rw [map_eraseIdx f l i]
structure NewT (H H':Hp) (t:Addr) (as:List Addr) (T:Tab):Prop where
 ft:H t=none
 fa:∀ a∈as,H a=none
 nd:(t::as).Nodup
 tb:Tb H' t as T
 sm:Same H H'
theorem NewT.zero {H:Hp}{D:Addr} (h:H D=none):NewT H (upd H D (.lst [])) D [] []:=⟨h,(fun _ z=>nomatch z),by simp,⟨upd_same,rfl,fun i a r e=>by simp at e⟩,(Same.refl H).upd h⟩
theorem NewT.snoc {H H2 H3:Hp}{D a:Addr}{as:List Addr}{T:Tab}{r:List (Option Int)} (h:NewT H H2 D as T) (ha:H2 a=none) (hr:Row H3 a r) (s:Same H2 H3):NewT H (upd H3 D (.lst (as.map V.ref++[V.ref a]))) D (as++[a]) (T++[r]):=by
 have nD:a≠D:=fun z=>by rw [z,h.tb.is] at ha;cases ha
 obtain ⟨n1,n2⟩:=List.nodup_cons.mp h.nd
 have na:a∉as:=fun z=>by
  obtain ⟨o,e⟩:=h.tb.live a (List.mem_cons_of_mem _ z)
  rw [ha] at e;cases e
 refine ⟨h.ft,fun b hb=>?_,?_,(h.tb.same s).snoc hr nD n1,(h.sm.trans s).upd h.ft⟩
 · rcases List.mem_append.mp hb with q | q
   · exact h.fa b q
   · rw [List.mem_singleton.mp q];exact h.sm.free ha
 · refine List.nodup_cons.mpr ⟨fun z=>?_,nd_snoc n2 na⟩
   rcases List.mem_append.mp z with q | q
   · exact n1 q
   · exact nD (List.mem_singleton.mp q).symm
theorem NewT.row {H H2 H3:Hp}{D:Addr}{as:List Addr}{T:Tab} (h:NewT H H2 D as T) (s:Same H2 H3):H3 D=some (.lst (as.map V.ref)):=s _ _ h.tb.is
theorem NewT.set {H H2:Hp}{t a:Addr}{as:List Addr}{T:Tab}{i:Nat} (h:NewT H H2 t as T) (e:as[i]?=some a) (r:List (Option Int)):NewT H (upd H2 a (.lst (r.map oV))) t as (T.set i r):=
 ⟨h.ft,h.fa,h.nd,h.tb.set h.nd e r,h.sm.upd (h.fa a (List.mem_of_getElem? e))⟩
theorem NewT.not {H H2:Hp}{t x:Addr}{as:List Addr}{T:Tab} (h:NewT H H2 t as T) (hx:H2 x=none):x∉t::as:=fun z=>by
 obtain ⟨o,e⟩:=h.tb.live x z
 rw [hx] at e;cases e
theorem NewT.other {H H2:Hp}{t x:Addr}{as:List Addr}{T:Tab}{o:HO} (h:NewT H H2 t as T) (n:x∉t::as) (hx:H x=none):NewT H (upd H2 x o) t as T:=
 ⟨h.ft,h.fa,h.nd,h.tb.on fun a ha _ e=>by have ne:a≠x:=fun z=>n (z▸ha)
                                          rw [upd_ne ne];exact e,h.sm.upd hx⟩
theorem NewT.more {H H2 H3:Hp}{t:Addr}{as:List Addr}{T:Tab} (h:NewT H H2 t as T) (s:Same H2 H3):NewT H H3 t as T:=⟨h.ft,h.fa,h.nd,h.tb.same s,h.sm.trans s⟩
theorem comp_tab {lo:Int}{n:Nat}{ix:List Nat}{te:TE}{σ:St}{H:Hp}{Q:VK} (f:Nat→List (Option Int)) (hn:n≤100000)
  (he:∀ i,i < n→∀ H2,Same H H2→∀ Q':VK,(∀ (a:Addr) (H3:Hp),H2 a=none→Row H3 a (f i)→Same H2 H3→Q' (.ref a) H3)→te (blkSt ix (some (.int (lo+i))) σ) H2 Q')
  (hQ:∀ D as H',NewT H H' D as ((List.range n).map f)→Q (.ref D) H'):
  Wr (rComp (Itr lo n) ix te σ H Q):=by
 refine ⟨comp_range fun D hD=>⟨fun i ys H2=>∃ as,ys=as.map V.ref∧NewT H H2 D as ((List.range i).map f)∧i≤n,⟨[],rfl,NewT.zero hD,Nat.zero_le _⟩,?_,?_,?_⟩⟩
 · rintro i ys H2 ⟨as,rfl,h,hi⟩
   refine ⟨h.tb.is,small4k ?_⟩
   rw [List.length_map,h.tb.len];simp;omega
 · rintro i ys H2 hi ⟨as,rfl,h,_⟩ Q' q'
   refine he i hi H2 h.sm Q' fun a H3 ha hr s=>q' _ _ (h.row s) ⟨as++[a],by rw [List.map_append];rfl,?_,hi⟩
   rw [List.range_succ,List.map_append]
   exact h.snoc ha hr s
 · rintro ys H2 ⟨as,rfl,h,_⟩
   exact hQ D as H2 h
theorem comp_tabL {K:PySem.W.Frag}{a0:Addr}{xs:List V}{ix:List Nat}{te:TE}{σ:St}{H:Hp}{Q:VK} (T:Tab) (hq:SqL K H a0 xs) (hl:T.length=xs.length) (hn:xs.length≤100000)
  (he:∀ (i:Nat) x r,xs[i]?=some x→T[i]?=some r→∀ H2,Same H H2→∀ Q':VK,(∀ (a:Addr) (H3:Hp),H2 a=none→Row H3 a r→Same H2 H3→Q' (.ref a) H3)→te (blkSt ix (some x) σ) H2 Q')
  (hQ:∀ D as H',NewT H H' D as T→Q (.ref D) H'):
  Wr (rComp (Itl K a0) ix te σ H Q):=by
 refine comp_list (xs:=xs) fun D hD=>⟨fun i ys H2=>∃ as,ys=as.map V.ref∧NewT H H2 D as (T.take i),⟨[],rfl,by rw [List.take_zero];exact NewT.zero hD⟩,?_,?_,?_⟩
 · rintro i ys H2 hi ⟨as,rfl,h⟩
   refine ⟨h.sm.seq hq,h.tb.is,small4k ?_⟩
   rw [List.length_map,h.tb.len,List.length_take];omega
 · rintro i x ys H2 hi ⟨as,rfl,h⟩ Q' q'
   have hi':i < T.length:=by rw [hl];exact (List.getElem?_eq_some_iff.mp hi).1
   refine he i x T[i] hi (by simp [hi']) H2 h.sm Q' fun a H3 ha hr s=>q' _ _ (h.row s) ⟨as++[a],by rw [List.map_append];rfl,?_⟩
   rw [List.take_succ_eq_append_getElem hi']
   exact h.snoc ha hr s
 · rintro ys H2 ⟨as,rfl,h⟩
   rw [List.take_of_length_le (by omega)] at h
   exact hQ D as H2 h
theorem comp_tabP {K:PySem.W.Frag}{a0:Addr}{xs:List V}{ix:List Nat}{te:TE}{σ:St}{H:Hp}{Q:VK} (R:Nat→List (Option Int)→Prop) (hq:SqL K H a0 xs) (hn:xs.length≤100000)
  (he:∀ (i:Nat) x,xs[i]?=some x→∀ H2,Same H H2→∀ Q':VK,(∀ (a:Addr) (r:List (Option Int)) (H3:Hp),H2 a=none→Row H3 a r→R i r→Same H2 H3→Q' (.ref a) H3)→te (blkSt ix (some x) σ) H2 Q')
  (hQ:∀ D as T H',NewT H H' D as T→T.length=xs.length→(∀ (i:Nat) r,T[i]?=some r→R i r)→Q (.ref D) H'):
  Wr (rComp (Itl K a0) ix te σ H Q):=by
 refine comp_list (xs:=xs) fun D hD=>⟨fun i ys H2=>∃ as T,ys=as.map V.ref∧NewT H H2 D as T∧T.length=i∧i≤xs.length∧∀ (j:Nat) r,T[j]?=some r→R j r,⟨[],[],rfl,NewT.zero hD,rfl,Nat.zero_le _,fun j r e=>by simp at e⟩,?_,?_,?_⟩
 · rintro i ys H2 hi ⟨as,T,rfl,h,e,_⟩
   refine ⟨h.sm.seq hq,h.tb.is,small4k ?_⟩
   rw [List.length_map,h.tb.len];omega
 · rintro i x ys H2 hi ⟨as,T,rfl,h,e,_,hR⟩ Q' q'
   refine he i x hi H2 h.sm Q' fun a r H3 ha hr hr2 s=>q' _ _ (h.row s) ⟨as++[a],T++[r],by rw [List.map_append];rfl,h.snoc ha hr s,by simp [e],(List.getElem?_eq_some_iff.mp hi).1,fun j r' e'=>?_⟩
   by_cases hj:j < T.length
   · rw [List.getElem?_append_left hj] at e';exact hR j r' e'
   · rw [List.getElem?_append_right (by omega)] at e'
     have z:j - T.length=0:=by
      have:=(List.getElem?_eq_some_iff.mp e').1
      simp at this;omega
     rw [z] at e';cases e'
     have:j=i:=by omega
     rw [this];exact hr2
 · rintro ys H2 ⟨as,T,rfl,h,e,_,hR⟩
   exact hQ D as T H2 h e hR
theorem rd_listO {K:PySem.W.Frag}{H:Hp}{a:Addr}{r:List (Option Int)}{Q:VK} (hq:Row H a r) (h:∀ (p:Addr) (H':Hp),H p=none→Row H' p r→Same H H'→Q (.ref p) H'):Wr (rList K [.ref a] H Q):=
 ⟨⟨a,_,rfl,.inl (SqL.of hq),fun p hp=>h p _ hp upd_same ((Same.refl H).upd hp)⟩⟩
theorem TabOk.less {k n:Nat}{T:Tab} (h:TabOk k n T) {c:Nat} (hc:c < n) (j:Nat):TabOk k n (T.set c ((T.getD c []).set j none)):=by
 have hcT:c < T.length:=by rw [h.len];exact hc
 have sub:∀ i m e,cell (T.set c ((T.getD c []).set j none)) i m=some e→cell T i m=some e:=fun i m e he=>by
  rw [cell_set hcT] at he
  split at he
  · rename_i q
    rw [List.getD] at he
    by_cases z:j=m
    · subst z
      by_cases z2:j < (T.getD c []).length
      · rw [List.getElem?_set_self z2] at he;cases he
      · rw [List.getElem?_eq_none (by rw [List.length_set];omega)] at he;cases he
    · rw [List.getElem?_set_ne z] at he
      rw [q];exact he
  · exact he
 refine ⟨by rw [List.length_set];exact h.len,fun r hr=>?_,fun i m e he=>h.rng _ _ _ (sub _ _ _ he),fun i d m e h1 h2=>h.inj _ _ _ _ (sub _ _ _ h1) (sub _ _ _ h2)⟩
 rcases List.mem_or_eq_of_mem_set hr with q | q
 · exact h.row r q
 · rw [q,List.length_set];exact h.row _ (by simp [List.getD,hcT])
def Let (k:Nat) (l:Int):Prop:=l≠0∧ -(k:Int)≤l∧l≤k
def pre (T:Tab) (j c:Nat):Option Int:=((List.range T.length).find? fun d=>decide (cell T d j=some (c:Int))).map fun d=>(d:Int)
def sgo (T:Tab) (c:Nat) (l:Int):Option Int:=if 0 < l then cell T c (l - 1).toNat else pre T (-l - 1).toNat c
def wgo (T:Tab) (o:Option Int) (w:List Int):Option Int:=w.foldl (fun o l=>o.bind fun c=>sgo T c.toNat l) o
theorem cell_lt {k n:Nat}{T:Tab} (h:TabOk k n T) {c j:Nat}{e:Int} (he:cell T c j=some e):c < n:=by
 unfold cell at he
 by_cases hc:c < T.length
 · rw [h.len] at hc;exact hc
 · simp [List.getD,List.getElem?_eq_none (Nat.le_of_not_lt hc)] at he
theorem pre_iff {k n:Nat}{T:Tab} (h:TabOk k n T) {j c:Nat}{d:Int}:pre T j c=some d↔∃ m:Nat,d=m∧m < n∧cell T m j=some (c:Int):=by
 unfold pre
 constructor
 · intro e
   cases q:(List.range T.length).find? (fun d=>decide (cell T d j=some (c:Int))) with
   | none=>rw [q] at e;cases e
   | some m=>
    rw [q] at e
    have h1:=List.find?_some q
    have h1:cell T m j=some (c:Int):=by simpa using h1
    exact ⟨m,(Option.some.inj e).symm,cell_lt h h1,h1⟩
 · rintro ⟨m,rfl,hm,e⟩
   cases q:(List.range T.length).find? (fun d=>decide (cell T d j=some (c:Int))) with
   | none=>
    have:=List.find?_eq_none.mp q m (by rw [h.len];exact List.mem_range.mpr hm)
    simp [e] at this
   | some m'=>
    have h1:=List.find?_some q
    have h1:cell T m' j=some (c:Int):=by simpa using h1
    have:=h.inj _ _ _ _ e h1
    rw [this];rfl
theorem opt_ext {a b:Option Int} (h:∀ d,a=some d↔b=some d):a=b:=by
 cases a with
 | none=>cases b with
  | none=>rfl
  | some y=>exact absurd ((h y).mpr rfl) (by simp)
 | some x=>exact ((h x).mp rfl).symm
theorem beg_pre {k n:Nat}{T:Tab} (h:TabOk k n T) {j c:Nat}{fs:List (Option Int)} (b:BegOk (col T j) fs):fs.getD c none=pre T j c:=by
 refine opt_ext fun d=>?_
 rw [b.iff,pre_iff h]
 constructor
 · rintro ⟨m,e,h1,h2⟩
   rw [col_getD] at h2
   rw [col_len,h.len] at h1
   exact ⟨m,e,h1,h2⟩
 · rintro ⟨m,e,h1,h2⟩
   refine ⟨m,e,by rw [col_len,h.len];exact h1,by rw [col_getD];exact h2⟩
theorem sgo_lt {k n:Nat}{T:Tab} (h:TabOk k n T) {c:Nat}{l d:Int} (e:sgo T c l=some d):0≤d∧d < n:=by
 unfold sgo at e
 split at e
 · exact h.rng _ _ _ e
 · obtain ⟨m,rfl,hm,_⟩:=(pre_iff h).mp e
   omega
theorem sgo_back {k n:Nat}{T:Tab} (h:TabOk k n T) {c d:Nat}{l:Int} (hl:l≠0) (hc:c < n) (e:sgo T c l=some (d:Int)):sgo T d (-l)=some (c:Int):=by
 unfold sgo at e ⊢
 by_cases hp:0 < l
 · rw [if_pos hp] at e
   rw [if_neg (by omega),show (- -l - 1).toNat=(l - 1).toNat by omega]
   exact (pre_iff h).mpr ⟨c,rfl,hc,e⟩
 · rw [if_neg hp] at e
   rw [if_pos (by omega)]
   obtain ⟨m,e1,hm,e2⟩:=(pre_iff h).mp e
   have:m=d:=by omega
   subst this
   exact e2
theorem wgo_none (T:Tab) (w:List Int):wgo T none w=none:=by
 unfold wgo
 induction w with
 | nil=>rfl
 | cons a w ih=>exact ih
theorem wgo_cons (T:Tab) (c:Int) (l:Int) (w:List Int):wgo T (some c) (l::w)=wgo T (sgo T c.toNat l) w:=rfl
theorem wgo_app (T:Tab) (o:Option Int) (v w:List Int):wgo T o (v++w)=wgo T (wgo T o v) w:=by unfold wgo;rw [List.foldl_append]
theorem wgo_snoc (T:Tab) (o:Option Int) (v:List Int) (l:Int):wgo T o (v++[l])=(wgo T o v).bind fun c=>sgo T c.toNat l:=by rw [wgo_app];rfl
theorem wgo_take {T:Tab}{o:Option Int}{w:List Int}{i:Nat}{l:Int} (h:w[i]?=some l):wgo T o (w.take (i+1))=(wgo T o (w.take i)).bind fun c=>sgo T c.toNat l:=by
 obtain ⟨hi,e⟩:=List.getElem?_eq_some_iff.mp h
 rw [List.take_succ_eq_append_getElem hi,wgo_snoc,e]
theorem wgo_stop {T:Tab}{o:Option Int}{w:List Int} (i:Nat) (h:wgo T o (w.take i)=none):wgo T o w=none:=by
 have:=wgo_app T o (w.take i) (w.drop i)
 rw [List.take_append_drop,h,wgo_none] at this
 exact this
theorem wgo_lt {k n:Nat}{T:Tab} (h:TabOk k n T) {c d:Int}{w:List Int} (hc:0≤c∧c < n) (e:wgo T (some c) w=some d):0≤d∧d < n:=by
 induction w generalizing c with
 | nil=>cases e;exact hc
 | cons l w ih=>
  rw [wgo_cons] at e
  cases q:sgo T c.toNat l with
  | none=>rw [q,wgo_none] at e;cases e
  | some c'=>rw [q] at e;exact ih (sgo_lt h q) e
def spCkC (C:Addr):Sp:=fun vs H Q _=>∃ (g:Addr) (k n:Nat) (T:Tab) (fp:List Addr) (c:Nat),vs=[.ref g,.int c]∧ChAt C H g k n T fp∧c < n∧Q .non H
def spCkL:Sp:=fun vs H Q _=>∃ (k:Nat) (wa:Addr) (ws:List Int),vs=[.int k,.ref wa]∧Ints H wa ws∧(∀ l∈ws,Let k l)∧Q .non H
def spStep (C:Addr):Sp:=fun vs H Q _=>∃ (g:Addr) (k n:Nat) (T:Tab) (fp:List Addr) (c:Nat) (l:Int),vs=[.ref g,.int c,.int l]∧ChAt C H g k n T fp∧c < n∧Let k l∧∀ H',Same H H'→Q (oV (sgo T c l)) H'
def spTrace (C:Addr):Sp:=fun vs H Q _=>∃ (g:Addr) (k n:Nat) (T:Tab) (fp:List Addr) (c:Nat) (wa:Addr) (w:List Int),vs=[.ref g,.int c,.ref wa]∧ChAt C H g k n T fp∧c < n∧Ints H wa w∧w.length≤100000∧(∀ l∈w,Let k l)∧
 ∀ H',Same H H'→Q (oV (wgo T (some (c:Int)) (cut w))) H'
def spLed:Sp:=fun vs H Q _=>∃ (t:Addr) (as:List Addr) (T:Tab) (k n c:Nat) (l:Int),vs=[.ref t,.int c,.int l]∧Tb H t as T∧TabOk k n T∧n≤1000∧c < n∧Let k l∧Q (oV (sgo T c l)) H
def spTrc:Sp:=fun vs H Q _=>∃ (t:Addr) (as:List Addr) (T:Tab) (k n:Nat) (c:Nat) (wa:Addr) (w:List Int),vs=[.ref t,.int c,.ref wa]∧Tb H t as T∧TabOk k n T∧n≤1000∧c < n∧Ints H wa w∧w.length≤100000∧(∀ l∈w,Let k l)∧
 Q (oV (wgo T (some (c:Int)) w)) H
theorem push_all {p:Int→Prop}{st:List Int}{x:Int} (h:∀ l∈st,p l) (hx:p x):∀ l∈push st x,p l:=by
 cases st with
 | nil=>intro l hl;rw [List.mem_singleton.mp hl];exact hx
 | cons t r=>
  show ∀ l∈(if t= -x then r else x::t::r),p l
  split
  · exact fun l hl=>h l (List.mem_cons_of_mem _ hl)
  · intro l hl
    rcases List.mem_cons.mp hl with e | e
    · rw [e];exact hx
    · exact h l e
theorem cut_all {p:Int→Prop}{w:List Int} (h:∀ l∈w,p l):∀ l∈cut w,p l:=by
 have:∀ (w st:List Int),(∀ l∈st,p l)→(∀ l∈w,p l)→∀ l∈w.foldl push st,p l:=by
  intro w
  induction w with
  | nil=>intro st h1 _;exact h1
  | cons x w ih=>intro st h1 h2;exact ih _ (push_all h1 (h2 x (List.mem_cons_self ..))) fun l hl=>h2 l (List.mem_cons_of_mem _ hl)
 intro l hl
 unfold cut at hl
 rw [List.mem_reverse] at hl
 exact this w [] (fun _ z=>nomatch z) h l hl
def lets (k:Nat):List Int:=(List.range k).flatMap fun (i:Nat)=>[1+(i:Int), -(1+(i:Int))]
theorem lets_mem {k:Nat}{l:Int}:l∈lets k↔Let k l:=by
 unfold lets Let
 rw [List.mem_flatMap]
 constructor
 · rintro ⟨i,hi,h⟩
   have:=List.mem_range.mp hi
   rcases List.mem_cons.mp h with e | h
   · omega
   · have e:=List.mem_singleton.mp h
     omega
 · rintro ⟨h0,h1,h2⟩
   refine ⟨l.natAbs - 1,List.mem_range.mpr (by omega),?_⟩
   by_cases hp:0 < l
   · exact List.mem_cons.mpr (.inl (by omega))
   · exact List.mem_cons_of_mem _ (List.mem_singleton.mpr (by omega))
theorem lets_len (k:Nat):(lets k).length=2 * k:=by
 unfold lets
 induction k with
 | zero=>rfl
 | succ k ih=>rw [List.range_succ,List.flatMap_append,List.length_append,ih];simp;omega
def vis (T:Tab) (c:Nat) (O:List Nat) (l:Int):List Nat:=match sgo T c l with
 | none=>O
 | some d=>if d.toNat∈O then O else O++[d.toNat]
def rowO (T:Tab) (k:Nat) (O:List Nat) (i:Nat):List Nat:=(lets k).foldl (vis T (O.getD i 0)) O
def bfs (T:Tab) (k:Nat):Nat→Nat→List Nat→List Nat
 | 0,_,O=>O
 | f+1,i,O=>if i < O.length then bfs T k f (i+1) (rowO T k O i) else O
def met (T:Tab) (k n base:Nat):List Nat:=bfs T k (n+1) 0 [base]
theorem bfs_stop {T:Tab}{k f i:Nat}{O:List Nat} (h:O.length≤i):bfs T k f i O=O:=by
 cases f with
 | zero=>rfl
 | succ f=>show (if i < O.length then _ else O)=O;rw [if_neg (by omega)]
theorem bfs_go {T:Tab}{k f i:Nat}{O:List Nat} (h:i < O.length):bfs T k (f+1) i O=bfs T k f (i+1) (rowO T k O i):=by
 show (if i < O.length then _ else O)=_
 rw [if_pos h]
theorem bfs_inv {T:Tab}{k:Nat} (P:Nat→List Nat→Prop) (h:∀ i O,i < O.length→P i O→P (i+1) (rowO T k O i)):∀ (f i:Nat) (O:List Nat),P i O→∃ i',P i' (bfs T k f i O)∧((bfs T k f i O).length≤i'∨i'=i+f)
 | 0,i,O,p=>⟨i,p,.inr rfl⟩
 | f+1,i,O,p=>by
  by_cases hl:i < O.length
  · rw [bfs_go hl]
    obtain ⟨i',p',q⟩:=bfs_inv P h f (i+1) _ (h i O hl p)
    exact ⟨i',p',q.imp id fun e=>by omega⟩
  · rw [bfs_stop (by omega)]
    exact ⟨i,p,.inl (by omega)⟩
theorem vis_pre {T:Tab}{c:Nat}{O:List Nat}{l:Int}:∃ r,vis T c O l=O++r:=by
 unfold vis
 split
 · exact ⟨[],by simp⟩
 · split
   · exact ⟨[],by simp⟩
   · exact ⟨_,rfl⟩
theorem fold_pre {T:Tab}{c:Nat}:∀ (ls:List Int) (O:List Nat),∃ r,ls.foldl (vis T c) O=O++r
 | [],O=>⟨[],by simp⟩
 | l::ls,O=>by
  obtain ⟨r,e⟩:=vis_pre (T:=T) (c:=c) (O:=O) (l:=l)
  obtain ⟨r',e'⟩:=fold_pre ls (vis T c O l)
  refine ⟨r++r',?_⟩
  show ls.foldl (vis T c) (vis T c O l)=_
  rw [e',e,List.append_assoc]
theorem vis_mem {T:Tab}{c:Nat}{O:List Nat}{l d:Int} (e:sgo T c l=some d):d.toNat∈vis T c O l:=by
 unfold vis
 rw [e]
 dsimp only
 split
 · assumption
 · exact List.mem_append_right _ (List.mem_singleton.mpr rfl)
theorem fold_mem {T:Tab}{c:Nat}{d:Int}{l:Int} (e:sgo T c l=some d):∀ (ls:List Int) (O:List Nat),l∈ls→d.toNat∈ls.foldl (vis T c) O
 | a::ls,O,h=>by
  show d.toNat∈ls.foldl (vis T c) (vis T c O a)
  rcases List.mem_cons.mp h with q | q
  · obtain ⟨r,e'⟩:=fold_pre (T:=T) (c:=c) ls (vis T c O a)
    rw [e']
    exact List.mem_append_left _ (q▸vis_mem e)
  · exact fold_mem e ls _ q
structure OInv (n:Nat) (O:List Nat):Prop where
 nd:O.Nodup
 lt:∀ c∈O,c < n
theorem OInv.vis {k n:Nat}{T:Tab} (ok:TabOk k n T) {c:Nat}{O:List Nat}{l:Int} (h:OInv n O):OInv n (vis T c O l):=by
 unfold My.vis
 split
 · exact h
 · rename_i d e
   have:=sgo_lt ok e
   split
   · exact h
   · rename_i q
     refine ⟨nd_snoc h.nd q,fun x hx=>?_⟩
     rcases List.mem_append.mp hx with z | z
     · exact h.lt x z
     · rw [List.mem_singleton.mp z];omega
theorem OInv.fold {k n:Nat}{T:Tab} (ok:TabOk k n T) {c:Nat}:∀ (ls:List Int) {O:List Nat},OInv n O→OInv n (ls.foldl (My.vis T c) O)
 | [],_,h=>h
 | l::ls,O,h=>OInv.fold ok ls (h.vis ok)
theorem OInv.len {n:Nat}{O:List Nat} (h:OInv n O):O.length≤n:=by
 have gen:∀ (n:Nat) (O:List Nat),O.Nodup→(∀ c∈O,c < n)→O.length≤n:=by
  intro n
  induction n with
  | zero=>
   intro O _ h
   cases O with
   | nil=>exact Nat.le_refl _
   | cons a _=>exact absurd (h a (List.mem_cons_self ..)) (by omega)
  | succ n ih=>
   intro O nd h
   have h1:=ih (O.erase n) (nd.erase n) fun c hc=>by
    have:=h c (List.mem_of_mem_erase hc)
    have ne:c≠n:=(nd.mem_erase_iff.mp hc).1
    omega
   rw [List.length_erase] at h1
   split at h1 <;> omega
 exact gen n O h.nd h.lt
theorem met_inv {k n base:Nat}{T:Tab} (ok:TabOk k n T) (hb:base < n):OInv n (met T k n base)∧base∈met T k n base∧(∀ c∈met T k n base,∀ l,Let k l→∀ d,sgo T c l=some d→d.toNat∈met T k n base):=by
 have:=bfs_inv (T:=T) (k:=k) (fun i O=>OInv n O∧O[0]?=some base∧∀ j,j < i→∀ c,O[j]?=some c→∀ l,Let k l→∀ d,sgo T c l=some d→d.toNat∈O) (fun i O hi ⟨h1,h2,h3⟩=>by
  obtain ⟨r,e⟩:=fold_pre (T:=T) (c:=O.getD i 0) (lets k) O
  refine ⟨h1.fold ok _,?_,fun j hj c hc l hl d hd=>?_⟩
  · unfold rowO;rw [e]
    rw [List.getElem?_append_left (List.getElem?_eq_some_iff.mp h2).1];exact h2
  · unfold rowO at hc ⊢
    by_cases z:j < i
    · rw [e] at hc ⊢
      rw [List.getElem?_append_left (by omega)] at hc
      exact List.mem_append_left _ (h3 j z c hc l hl d hd)
    · have z:j=i:=by omega
      subst z
      have ec:O.getD j 0=c:=by
       rw [e,List.getElem?_append_left hi] at hc
       rw [List.getD,hc];rfl
      rw [ec]
      exact fold_mem hd _ _ (lets_mem.mpr hl)) (n+1) 0 [base] ⟨⟨by simp,fun c hc=>by rw [List.mem_singleton.mp hc];exact hb⟩,rfl,fun j hj=>by omega⟩
 obtain ⟨i',⟨h1,h2,h3⟩,q⟩:=this
 have hl:(met T k n base).length≤i':=by
  rcases q with q | q
  · exact q
  · have:=OInv.len h1
    unfold met;omega
 refine ⟨h1,List.mem_of_getElem? h2,fun c hc=>?_⟩
 obtain ⟨j,hj,e⟩:=List.getElem_of_mem hc
 exact h3 j (by omega) c (List.getElem?_eq_some_iff.mpr ⟨hj,e⟩)
abbrev Pw:=List (Nat × List Int)
def visW (T:Tab) (p:Nat × List Int) (W:Pw) (l:Int):Pw:=match sgo T p.1 l with
 | none=>W
 | some d=>if d.toNat∈W.map (·.1) then W else W++[(d.toNat,p.2++[l])]
def rowW (T:Tab) (k:Nat) (W:Pw) (i:Nat):Pw:=(lets k).foldl (visW T (W.getD i (0,[]))) W
def bfsW (T:Tab) (k:Nat):Nat→Nat→Pw→Pw
 | 0,_,W=>W
 | f+1,i,W=>if i < W.length then bfsW T k f (i+1) (rowW T k W i) else W
def metW (T:Tab) (k n base:Nat):Pw:=bfsW T k (n+1) 0 [(base,[])]
theorem bfsW_stop {T:Tab}{k f i:Nat}{W:Pw} (h:W.length≤i):bfsW T k f i W=W:=by
 cases f with
 | zero=>rfl
 | succ f=>show (if i < W.length then _ else W)=W;rw [if_neg (by omega)]
theorem bfsW_go {T:Tab}{k f i:Nat}{W:Pw} (h:i < W.length):bfsW T k (f+1) i W=bfsW T k f (i+1) (rowW T k W i):=by
 show (if i < W.length then _ else W)=_
 rw [if_pos h]
theorem visW_map {T:Tab}{p:Nat × List Int}{W:Pw}{l:Int}:(visW T p W l).map (·.1)=vis T p.1 (W.map (·.1)) l:=by
 unfold visW vis
 split
 · rfl
 · split
   · rfl
   · rw [List.map_append];rfl
theorem foldW_map {T:Tab}{p:Nat × List Int}:∀ (ls:List Int) (W:Pw),(ls.foldl (visW T p) W).map (·.1)=ls.foldl (vis T p.1) (W.map (·.1))
 | [],_=>rfl
 | l::ls,W=>by
  show (ls.foldl (visW T p) (visW T p W l)).map (·.1)=ls.foldl (vis T p.1) (vis T p.1 (W.map (·.1)) l)
  rw [foldW_map ls,visW_map]
theorem bfsW_map {T:Tab}{k:Nat}:∀ (f i:Nat) (W:Pw),(bfsW T k f i W).map (·.1)=bfs T k f i (W.map (·.1))
 | 0,_,_=>rfl
 | f+1,i,W=>by
  by_cases h:i < W.length
  · rw [bfsW_go h,bfs_go (by rw [List.length_map];exact h),bfsW_map f]
    unfold rowW rowO
    rw [foldW_map]
    have:(W.map (·.1)).getD i 0=(W.getD i (0,[])).1:=by simp [List.getD,h]
    rw [this]
  · rw [bfsW_stop (by omega),bfs_stop (by rw [List.length_map];omega)]
theorem metW_map (T:Tab) (k n base:Nat):(metW T k n base).map (·.1)=met T k n base:=bfsW_map ..
abbrev Wy:=List (Nat × Addr × List Int)
def keys (W:Wy):List Nat:=W.map (·.1)
def dkv (W:Wy):List (Key × V):=W.map fun p=>(Sum.inl (p.1:Int),V.ref p.2.1)
def era (W:Wy):Pw:=W.map fun p=>(p.1,p.2.2)
theorem era_keys (W:Wy):(era W).map (·.1)=keys W:=by unfold era keys;rw [List.map_map];rfl
theorem dkv_none {W:Wy}{c:Nat} (h:c∉keys W):valV (dkv W) (.inl (c:Int))=none:=by
 unfold valV
 rw [Option.map_eq_none_iff,List.find?_eq_none]
 intro x hx
 obtain ⟨p,hp,rfl⟩:=List.mem_map.mp hx
 intro z
 have z:(Sum.inl (p.1:Int):Key)=.inl (c:Int):=of_decide_eq_true z
 have:=Sum.inl.inj z
 exact h (List.mem_map.mpr ⟨p,hp,by omega⟩)
theorem dkv_some {W:Wy} (nd:(keys W).Nodup) {p:Nat × Addr × List Int} (hp:p∈W):valV (dkv W) (.inl (p.1:Int))=some (.ref p.2.1):=by
 induction W with
 | nil=>cases hp
 | cons q W ih=>
  obtain ⟨n1,n2⟩:=List.nodup_cons.mp nd
  rcases List.mem_cons.mp hp with e | e
  · subst e;exact valV_pos rfl
  · have:¬ (Sum.inl (q.1:Int):Key)=.inl (p.1:Int):=fun z=>by
      have:=Sum.inl.inj z
      exact n1 (List.mem_map.mpr ⟨p,e,by show p.1=q.1;omega⟩)
    show valV ((Sum.inl (q.1:Int),V.ref q.2.1)::dkv W) _=_
    rw [valV_neg this]
    exact ih n2 e
structure WInv (T:Tab) (k n base:Nat) (W:Wy):Prop where
 nd:(keys W).Nodup
 lt:∀ p∈W,p.1 < n
 hd:∃ a,W[0]?=some (base,a,[])
 wk:∀ p∈W,wgo T (some (base:Int)) p.2.2=some (p.1:Int)
 ll:∀ p∈W,∀ l∈p.2.2,Let k l
 rd:∀ p∈W,cut p.2.2=p.2.2
 pr:∀ p∈W,p.2.2=[]∨∃ q∈W,∃ l,p.2.2=q.2.2++[l]∧sgo T q.1 l=some (p.1:Int)
 ln:∀ (j:Nat) p,W[j]?=some p→p.2.2.length≤j
theorem cut_snoc (w:List Int) (l:Int):cut (w++[l])=(push (w.foldl push []) l).reverse:=by unfold cut;rw [List.foldl_append];rfl
theorem cut_fold {w:List Int} (h:cut w=w):w.foldl push []=w.reverse:=by
 unfold cut at h
 conv=>rhs;rw [← h]
 rw [List.reverse_reverse]
theorem cut_more {w:List Int}{l:Int} (h:cut w=w) (hl:∀ u,w≠u++[-l]):cut (w++[l])=w++[l]:=by
 rw [cut_snoc,cut_fold h]
 cases e:w.reverse with
 | nil=>
  have:w=[]:=by simpa using e
  subst this;rfl
 | cons t r=>
  have hw:w=r.reverse++[t]:=by
   have:=congrArg List.reverse e
   rw [List.reverse_reverse] at this
   rw [this];simp
  have:¬ t= -l:=fun z=>hl r.reverse (by rw [hw,z])
  show (if t= -l then r else l::t::r).reverse=_
  rw [if_neg this,hw];simp
theorem WInv.zero {T:Tab}{k n base:Nat} (hb:base < n) (a:Addr):WInv T k n base [(base,a,[])]:=by
 refine ⟨by simp [keys],?_,⟨a,rfl⟩,?_,?_,?_,?_,?_⟩
 · intro p hp;rw [List.mem_singleton.mp hp];exact hb
 · intro p hp;rw [List.mem_singleton.mp hp];rfl
 · intro p hp;rw [List.mem_singleton.mp hp];intro l hl;cases hl
 · intro p hp;rw [List.mem_singleton.mp hp];rfl
 · intro p hp;rw [List.mem_singleton.mp hp];exact .inl rfl
 · intro j p hj
   have:j=0:=by
    have:=(List.getElem?_eq_some_iff.mp hj).1
    simp at this;omega
   subst this;cases hj;exact Nat.zero_le _
theorem WInv.add {T:Tab}{k n base:Nat}{W:Wy} (ok:TabOk k n T) (h:WInv T k n base W) {p:Nat × Addr × List Int} (hp:p∈W) {l d:Int} (hl:Let k l) (e:sgo T p.1 l=some d) (hn:d.toNat∉keys W) (a:Addr):
  WInv T k n base (W++[(d.toNat,a,p.2.2++[l])]):=by
 have hd:=sgo_lt ok e
 have ed:((d.toNat:Nat):Int)=d:=by omega
 have red:cut (p.2.2++[l])=p.2.2++[l]:=by
  refine cut_more (h.rd p hp) fun u hu=>?_
  rcases h.pr p hp with z | ⟨q,hq,l',e1,e2⟩
  · rw [z] at hu;simp at hu
  · rw [e1] at hu
    have:=List.append_inj' hu rfl
    have el:l'= -l:=by simpa using this.2
    subst el
    have b:=sgo_back ok (by have:=hl.1;omega) (h.lt q hq) e2
    rw [Int.neg_neg] at b
    rw [e] at b
    have:d=q.1:=Option.some.inj b
    exact hn (by rw [this,Int.toNat_natCast];exact List.mem_map.mpr ⟨q,hq,rfl⟩)
 have mem:∀ {x:Nat × Addr × List Int},x∈W++[(d.toNat,a,p.2.2++[l])]→x∈W∨x=(d.toNat,a,p.2.2++[l]):=fun hx=>(List.mem_append.mp hx).imp id List.mem_singleton.mp
 refine ⟨?_,fun x hx=>?_,?_,fun x hx=>?_,fun x hx=>?_,fun x hx=>?_,fun x hx=>?_,fun j x hj=>?_⟩
 · unfold keys;rw [List.map_append];exact nd_snoc h.nd hn
 · rcases mem hx with z | z
   · exact h.lt x z
   · rw [z];show d.toNat < n;omega
 · obtain ⟨a0,z⟩:=h.hd
   exact ⟨a0,by rw [List.getElem?_append_left (List.getElem?_eq_some_iff.mp z).1];exact z⟩
 · rcases mem hx with z | z
   · exact h.wk x z
   · rw [z]
     show wgo T _ (p.2.2++[l])=some ((d.toNat:Nat):Int)
     rw [wgo_snoc,h.wk p hp,ed]
     exact e
 · rcases mem hx with z | z
   · exact h.ll x z
   · rw [z]
     intro m hm
     rcases List.mem_append.mp hm with y | y
     · exact h.ll p hp m y
     · rw [List.mem_singleton.mp y];exact hl
 · rcases mem hx with z | z
   · exact h.rd x z
   · rw [z];exact red
 · rcases mem hx with z | z
   · rcases h.pr x z with y | ⟨q,hq,m,e1,e2⟩
     · exact .inl y
     · exact .inr ⟨q,List.mem_append_left _ hq,m,e1,e2⟩
   · rw [z]
     exact .inr ⟨p,List.mem_append_left _ hp,l,rfl,by rw [e];show some d=some ((d.toNat:Nat):Int);rw [ed]⟩
 · by_cases hj2:j < W.length
   · rw [List.getElem?_append_left hj2] at hj
     exact h.ln j x hj
   · rw [List.getElem?_append_right (by omega)] at hj
     have z:j - W.length=0:=by
      have:=(List.getElem?_eq_some_iff.mp hj).1
      simp at this;omega
     rw [z] at hj
     cases hj
     obtain ⟨i,hi,ei⟩:=List.getElem_of_mem hp
     have:=h.ln i p (by simp [← ei,hi])
     rw [List.length_append]
     simp only [List.length_cons,List.length_nil]
     omega
structure DW (H:Hp) (d:Addr) (W:Wy):Prop where
 is:H d=some (.dK (dkv W))
 wy:∀ p∈W,Ints H p.2.1 p.2.2
structure FW (H:Hp) (d:Addr) (W:Wy):Prop where
 is:∃ o,H d=some (.frz o (.dK (dkv W)))
 wy:∀ p∈W,Ints H p.2.1 p.2.2
theorem FW.same {H H':Hp}{d:Addr}{W:Wy} (h:FW H d W) (s:Same H H'):FW H' d W:=⟨let ⟨o,e⟩:=h.is;⟨o,s _ _ e⟩,fun p hp=>s.ints (h.wy p hp)⟩
structure WS (H0 H:Hp) (d lo:Addr) (W:Wy):Prop where
 dw:DW H d W
 io:Ints H lo ((keys W).map fun (c:Nat)=>(c:Int))
 nl:∀ p∈W,p.2.1≠lo
 fd:H0 d=none
 fl:H0 lo=none
 sm:Same H0 H
theorem WS.same {H0 H H':Hp}{d lo:Addr}{W:Wy} (h:WS H0 H d lo W) (s:Same H H'):WS H0 H' d lo W:=⟨⟨s _ _ h.dw.is,fun p hp=>s.ints (h.dw.wy p hp)⟩,s.ints h.io,h.nl,h.fd,h.fl,h.sm.trans s⟩
theorem WS.ne {H0 H:Hp}{d lo:Addr}{W:Wy} (h:WS H0 H d lo W):d≠lo:=fun z=>by
 have:=h.io
 rw [← z] at this
 have e:=h.dw.is
 rw [show H d=_ from this] at e;cases e
theorem WS.add {H0 H H':Hp}{d lo a:Addr}{W:Wy}{c:Nat}{w:List Int} (h:WS H0 H d lo W) (s:Same H H') (ha:H a=none) (ia:Ints H' a w) (hc:c∉keys W):
  WS H0 (upd (upd H' d (.dK (putK (dkv W) (.inl (c:Int)) (.ref a)))) lo (.lst (((keys W).map fun (c:Nat)=>(c:Int)).map V.int++[V.int c]))) d lo (W++[(c,a,w)]):=by
 have ne:=h.ne
 have al:a≠lo:=fun z=>by rw [z,show H lo=_ from h.io] at ha;cases ha
 have ad:a≠d:=fun z=>by rw [z,h.dw.is] at ha;cases ha
 have h':=h.same s
 refine ⟨⟨?_,fun p hp=>?_⟩,?_,fun p hp=>?_,h.fd,h.fl,(h'.sm.upd h.fd).upd h.fl⟩
 · rw [upd_ne ne,upd_same,putK_new _ (dkv_none hc)]
   unfold dkv
   rw [List.map_append];rfl
 · rcases List.mem_append.mp hp with z | z
   · have n1:=h.nl p z
     have i1:=h'.dw.wy p z
     have n2:p.2.1≠d:=fun y=>by rw [y] at i1;have e:=h'.dw.is;rw [show H' d=_ from i1] at e;cases e
     exact (i1.other n2).other n1
   · rw [List.mem_singleton.mp z]
     exact (ia.other ad).other al
 · show upd _ lo _ lo=_
   rw [upd_same]
   unfold keys
   rw [List.map_append,List.map_append,List.map_append];rfl
 · rcases List.mem_append.mp hp with z | z
   · exact h.nl p z
   · rw [List.mem_singleton.mp z];exact al
def spLio (C:Addr):Sp:=fun vs H Q _=>∃ (g:Addr) (k n:Nat) (T:Tab) (fp:List Addr),vs=[.ref g]∧ChAt C H g k n T fp∧∀ (l:Addr) (H':Hp),H l=none→Ints H' l (lets k)→Same H H'→Q (.ref l) H'
def spWays (C:Addr):Sp:=fun vs H Q _=>∃ (g:Addr) (k n:Nat) (T:Tab) (fp:List Addr) (b:Nat),vs=[.ref g,.int b]∧ChAt C H g k n T fp∧b < n∧
 ∀ (d:Addr) (W:Wy) (H':Hp),H d=none→FW H' d W→WInv T k n b W→era W=metW T k n b→Same H H'→Q (.ref d) H'
def way (W:Pw) (c:Nat):List Int:=((W.find? fun p=>p.1 == c).map (·.2)).getD []
theorem way_mem {W:Pw} (nd:(W.map (·.1)).Nodup) {p:Nat × List Int} (hp:p∈W):way W p.1=p.2:=by
 unfold way
 induction W with
 | nil=>cases hp
 | cons q W ih=>
  obtain ⟨n1,n2⟩:=List.nodup_cons.mp nd
  rcases List.mem_cons.mp hp with e | e
  · subst e;simp
  · have:(q.1 == p.1)=false:=by
      rw [beq_eq_false_iff_ne]
      intro z
      exact n1 (List.mem_map.mpr ⟨p,e,z.symm⟩)
    rw [List.find?_cons,this]
    exact ih n2 e
def used (W:Pw) (c:Nat) (κ:Int) (d:Nat):Bool:=decide (way W d=way W c++[κ]) || decide (way W c=way W d++[-κ])
def pls (T:Tab) (W:Pw) (c j:Nat):Bool:=match cell T c j with
 | none=>false
 | some d=> !used W c ((j:Int)+1) d.toNat
def trip (T:Tab) (c j:Nat):List Int:=[(c:Int),(j:Int)+1,(cell T c j).getD 0]
def lrow (T:Tab) (W:Pw) (k c:Nat):List (List Int):=((List.range k).filter (pls T W c)).map (trip T c)
def lps (T:Tab) (k:Nat) (W:Pw) (O:List Nat):List (List Int):=O.flatMap (lrow T W k)
def hrow (W:Pw) (t:List Int):List Int:=way W (t.getD 0 0).toNat++[t.getD 1 0]++turn (way W (t.getD 2 0).toNat)
def hrows (T:Tab) (k n:Nat):List (List Int):=(lps T k (metW T k n 0) (met T k n 0)).map (hrow (metW T k n 0))
theorem FW.get {H:Hp}{d:Addr}{W:Wy} (h:FW H d W) (nd:(keys W).Nodup) {c:Nat} (hc:c∈keys W):∃ a,DGet H d (.int c) (some (.ref a))∧Ints H a (way (era W) c):=by
 obtain ⟨p,hp,rfl⟩:=List.mem_map.mp hc
 obtain ⟨o,e⟩:=h.is
 refine ⟨p.2.1,.inl ⟨dkv W,.inl (p.1:Int),.inr ⟨o,e⟩,rfl,(dkv_some nd hp).symm⟩,?_⟩
 have:way (era W) p.1=p.2.2:=way_mem (p:=(p.1,p.2.2)) (by rw [era_keys];exact nd) (List.mem_map.mpr ⟨p,hp,rfl⟩)
 show Ints H p.2.1 (way (era W) p.1)
 rw [this]
 exact h.wy p hp
structure Il (H:Hp) (l:Addr) (ps:Ps):Prop where
 is:H l=some (.lst (ps.map fun p=>V.ref p.1))
 iv:∀ p∈ps,Ints H p.1 p.2
theorem Il.same {H H':Hp}{l:Addr}{ps:Ps} (h:Il H l ps) (s:Same H H'):Il H' l ps:=⟨s _ _ h.is,fun p hp=>s.ints (h.iv p hp)⟩
theorem tl_snoc {H:Hp}{l q:Addr}{ps:Ps}{xs:List V} (r:List Int) (h:Tl H l ps) (hq:H q=none) (e:xs=r.map V.int:=by rfl):Tl (upd (upd H q (.tup xs)) l (.lst ((ps.map fun p=>V.ref p.1)++[V.ref q]))) l (ps++[(q,r)]):=by
 subst e
 have nq:l≠q:=ne_of_none h.is hq
 refine ⟨by rw [upd_same,List.map_append];rfl,fun p hp=>?_⟩
 rcases List.mem_append.mp hp with e | e
 · have:=h.tp p e
   have n1:p.1≠l:=fun z=>by rw [z,h.is] at this;cases this
   rw [upd_ne n1,upd_ne (ne_of_none this hq)]
   exact this
 · obtain rfl:=List.mem_singleton.mp e
   show upd _ l _ q=_
   rw [upd_ne nq.symm,upd_same]
def spUsed:Sp:=fun vs H Q _=>∃ (d:Addr) (W:Wy) (c e:Nat) (κ:Int),vs=[.ref d,.int c,.int κ,.int e]∧FW H d W∧(keys W).Nodup∧c∈keys W∧e∈keys W∧(∀ p∈W,p.2.2.length≤1000)∧∀ H',Same H H'→Q (.bl (used (era W) c κ e)) H'
def spLoose (C:Addr):Sp:=fun vs H Q _=>∃ (g d:Addr) (k n:Nat) (T:Tab) (fp:List Addr) (W:Wy),vs=[.ref g,.ref d]∧ChAt C H g k n T fp∧FW H d W∧WInv T k n 0 W∧era W=metW T k n 0∧
 ∀ (l:Addr) (ps:Ps) (H':Hp),H l=none→Tl H' l ps→ps.map (·.2)=lps T k (metW T k n 0) (met T k n 0)→Same H H'→Q (.ref l) H'
def spHRow:Sp:=fun vs H Q _=>∃ (d t:Addr) (W:Wy) (c e:Nat) (κ:Int),vs=[.ref d,.ref t]∧FW H d W∧(keys W).Nodup∧H t=some (.tup [.int c,.int κ,.int e])∧c∈keys W∧e∈keys W∧(∀ p∈W,p.2.2.length≤1000)∧
 ∀ (l:Addr) (H':Hp),H l=none→Ints H' l (hrow (era W) [(c:Int),κ,(e:Int)])→Same H H'→Q (.ref l) H'
def spHomes (C:Addr):Sp:=fun vs H Q _=>∃ (g:Addr) (k n:Nat) (T:Tab) (fp:List Addr),vs=[.ref g]∧ChAt C H g k n T fp∧
 ∀ (l:Addr) (ps:Ps) (H':Hp),H l=none→(∀ p∈ps,H p.1=none)→(l::ps.map (·.1)).Nodup→Il H' l ps→ps.map (·.2)=hrows T k n→Same H H'→Q (.ref l) H'
theorem WInv.short {T:Tab}{k n base:Nat}{W:Wy} (h:WInv T k n base W) (hn:n≤1000):∀ p∈W,p.2.2.length≤1000:=fun p hp=>by
 obtain ⟨j,hj,e⟩:=List.getElem_of_mem hp
 have h1:=h.ln j p (by simp [← e,hj])
 have:=OInv.len (n:=n) (O:=keys W) ⟨h.nd,fun c hc=>by obtain ⟨p,hp,rfl⟩:=List.mem_map.mp hc;exact h.lt p hp⟩
 unfold keys at this
 rw [List.length_map] at this
 omega
end My
namespace L2
open PySem PySem.Spec PyProof.Rows
end L2
namespace My
open PySem L2
theorem lps_mem {T:Tab}{k:Nat}{W:Pw}{O:List Nat}{t:List Int} (h:t∈lps T k W O):∃ (c j:Nat) (e:Int),t=[(c:Int),(j:Int)+1,e]∧c∈O∧j < k∧cell T c j=some e∧used W c ((j:Int)+1) e.toNat=false:=by
 unfold lps at h
 obtain ⟨c,hc,h⟩:=List.mem_flatMap.mp h
 obtain ⟨j,hj,rfl⟩:=List.mem_map.mp h
 obtain ⟨h1,h2⟩:=List.mem_filter.mp hj
 unfold pls at h2
 cases e:cell T c j with
 | none=>rw [e] at h2;cases h2
 | some d=>
  rw [e] at h2
  refine ⟨c,j,d,by unfold trip;rw [e];rfl,hc,List.mem_range.mp h1,e,?_⟩
  simpa using h2
theorem il_of {H H':Hp}{l:Addr}{as:List Addr}{R:List (List Int)} (N:NewT H H' l as (R.map fun r=>r.map some)):∃ ps:Ps,ps.map (·.2)=R∧ps.map (·.1)=as∧Il H' l ps:=by
 have len:as.length=R.length:=by rw [N.tb.len,List.length_map]
 refine ⟨as.zip R,List.map_snd_zip (by omega),List.map_fst_zip (by omega),?_,fun p hp=>?_⟩
 · have:(as.zip R).map (fun p=>V.ref p.1)=as.map V.ref:=by
     have z:=List.map_map (f:=Prod.fst) (g:=V.ref) (l:=as.zip R)
     rw [List.map_fst_zip (by omega)] at z
     exact z.symm
   rw [this];exact N.tb.is
 · obtain ⟨i,hi,e⟩:=List.getElem_of_mem hp
   have h1:i < as.length:=by rw [List.length_zip] at hi;omega
   have h2:i < R.length:=by rw [List.length_zip] at hi;omega
   have:=N.tb.rw i as[i] (R[i].map some) (by simp [h1]) (by simp [h2])
   rw [← e,List.getElem_zip]
   show H' as[i]=some (.lst (R[i].map V.int))
   rw [show H' as[i]=_ from this,List.map_map]
   rfl
theorem row_ints {H:Hp}{a:Addr}{ns:List Int} (h:Ints H a ns):Row H a (ns.map some):=by
 show H a=_
 rw [show H a=_ from h,List.map_map];rfl
theorem lets_at {k m:Nat} (h:m < 2 * k):(lets k)[m]?=some (((m:Int) / 2+1) * (1 - 2 * ((m:Int) % 2))):=by
 unfold lets
 induction k with
 | zero=>omega
 | succ k ih=>
  rw [List.range_succ,List.flatMap_append]
  have hl:((List.range k).flatMap fun (i:Nat)=>[1+(i:Int), -(1+(i:Int))]).length=2 * k:=lets_len k
  by_cases hm:m < 2 * k
  · rw [List.getElem?_append_left (by rw [hl];exact hm)]
    exact ih hm
  · rw [List.getElem?_append_right (by rw [hl];omega),hl]
    have:m=2 * k∨m=2 * k+1:=by omega
    rcases this with e | e
    · subst e
      have h1:((2 * k:Nat):Int) / 2=k:=by omega
      have h2:((2 * k:Nat):Int) % 2=0:=by omega
      rw [h1,h2,Nat.sub_self]
      simp;omega
    · subst e
      have h1:((2 * k+1:Nat):Int) / 2=k:=by omega
      have h2:((2 * k+1:Nat):Int) % 2=1:=by omega
      rw [h1,h2,show 2 * k+1 - 2 * k=1 by omega]
      simp;omega
theorem wgo_turn {k n:Nat}{T:Tab} (ok:TabOk k n T):∀ (w:List Int) {c d:Int},0≤c∧c < n→(∀ l∈w,l≠0)→wgo T (some c) w=some d→wgo T (some d) (turn w)=some c
 | [],c,d,_,_,h=>by cases h;rfl
 | l::w,c,d,hc,hl,h=>by
  rw [wgo_cons] at h
  cases q:sgo T c.toNat l with
  | none=>rw [q,wgo_none] at h;cases h
  | some x=>
   rw [q] at h
   have hx:=sgo_lt ok q
   have:=wgo_turn ok w hx (fun m hm=>hl m (List.mem_cons_of_mem _ hm)) h
   rw [turn_cons,wgo_app,this]
   show sgo T x.toNat (-l)=some c
   have b:=sgo_back ok (c:=c.toNat) (d:=x.toNat) (hl l (List.mem_cons_self ..)) (by omega) (by rw [q];congr 1;omega)
   rw [b];congr 1;omega
theorem letter_Let {k:Nat} (h:1≤k) (d:Int):Let k (letterOf k d):=by
 unfold Let letterOf
 have a0:=Int.emod_nonneg d (show (2 * (k:Int))≠0 by omega)
 have a1:=Int.emod_lt_of_pos d (show (0:Int) < 2 * k by omega)
 generalize d % (2 * (k:Int))=x at a0 a1
 have b:d % 2=0∨d % 2=1:=by omega
 rcases b with b | b <;> rw [b] <;> omega
theorem turn_Let {k:Nat}{w:List Int} (h:∀ l∈w,Let k l):∀ l∈turn w,Let k l:=fun l hl=>by
 obtain ⟨d,hd,rfl⟩:=List.mem_map.mp hl
 have:=h d (List.mem_reverse.mp hd)
 unfold Let at this ⊢
 omega
def dm (W:Pw):Wy:=W.map fun p=>(p.1,0,p.2)
theorem era_dm (W:Pw):era (dm W)=W:=by
 unfold era dm
 rw [List.map_map]
 exact List.map_id W
theorem keys_dm (W:Pw):keys (dm W)=W.map (·.1):=by rw [← era_keys,era_dm]
theorem visW_inv {k n b:Nat}{T:Tab} (ok:TabOk k n T) {W:Pw}{p:Nat × List Int}{l:Int} (hp:p∈W) (hl:Let k l) (h:WInv T k n b (dm W)):WInv T k n b (dm (visW T p W l))∧p∈visW T p W l:=by
 unfold visW
 split
 · exact ⟨h,hp⟩
 · rename_i d e
   split
   · exact ⟨h,hp⟩
   · rename_i q
     have:=h.add ok (p:=(p.1,0,p.2)) (List.mem_map.mpr ⟨p,hp,rfl⟩) hl e (by rw [keys_dm];exact q) 0
     refine ⟨?_,List.mem_append_left _ hp⟩
     unfold dm at this ⊢
     rw [List.map_append]
     exact this
theorem foldW_inv {k n b:Nat}{T:Tab} (ok:TabOk k n T) {p:Nat × List Int}:∀ (ls:List Int) {W:Pw},(∀ l∈ls,Let k l)→p∈W→WInv T k n b (dm W)→WInv T k n b (dm (ls.foldl (visW T p) W))
 | [],_,_,_,h=>h
 | l::ls,W,hl,hp,h=>by
  obtain ⟨h1,h2⟩:=visW_inv ok hp (hl l (List.mem_cons_self ..)) h
  exact foldW_inv ok ls (fun m hm=>hl m (List.mem_cons_of_mem _ hm)) h2 h1
theorem bfsW_inv {k n b:Nat}{T:Tab} (ok:TabOk k n T):∀ (f i:Nat) {W:Pw},WInv T k n b (dm W)→WInv T k n b (dm (bfsW T k f i W))
 | 0,_,_,h=>h
 | f+1,i,W,h=>by
  by_cases hi:i < W.length
  · rw [bfsW_go hi]
    refine bfsW_inv ok f (i+1) (foldW_inv ok (lets k) (fun l hl=>lets_mem.mp hl) ?_ h)
    simp [List.getD,hi]
  · rw [bfsW_stop (by omega)];exact h
theorem met_winv {k n b:Nat}{T:Tab} (ok:TabOk k n T) (hb:b < n):WInv T k n b (dm (metW T k n b)):=bfsW_inv ok _ _ (WInv.zero hb 0)
theorem met_closed {k n b:Nat}{T:Tab} (ok:TabOk k n T) (hb:b < n):∀ c∈keys (dm (metW T k n b)),∀ l,Let k l→∀ d,sgo T c l=some d→d.toNat∈keys (dm (metW T k n b)):=by
 rw [keys_dm,metW_map]
 exact (met_inv ok hb).2.2
theorem cut_init {w:List Int}{l:Int} (h:cut (w++[l])=w++[l]):cut w=w∧∀ b,w≠b++[-l]:=by
 rw [cut_snoc] at h
 have fl:=fold_len w []
 cases e:w.foldl push [] with
 | nil=>
  rw [e] at h
  have:w=[]:=by
   have:=congrArg List.length h
   simp [push] at this
   exact this
  subst this
  exact ⟨rfl,fun b z=>by simp at z⟩
 | cons t r=>
  rw [e] at h
  have h:(if t= -l then r else l::t::r).reverse=w++[l]:=h
  rw [e] at fl
  by_cases ht:t= -l
  · rw [if_pos ht] at h
    have:=congrArg List.length h
    simp at this fl
    omega
  · rw [if_neg ht] at h
    rw [List.reverse_cons] at h
    have h1:=List.append_inj' h rfl
    have cw:cut w=w:=by unfold cut;rw [e];exact h1.1
    refine ⟨cw,fun b z=>?_⟩
    have:=cut_fold cw
    rw [e,z] at this
    simp at this
    exact ht this.1
theorem cut_app_turn:∀ (n:Nat) (w u:List Int),w.length=n→cut u=u→cut w=w→(∀ a b x,u≠a++[x]∨w≠b++[x])→cut (u++turn w)=u++turn w
 | 0,w,u,hn,hu,_,_=>by
  have:w=[]:=List.length_eq_zero_iff.mp hn
  subst this
  simpa [turn] using hu
 | n+1,w,u,hn,hu,hw,hx=>by
  have hne:w≠[]:=fun z=>by rw [z] at hn;simp at hn
  obtain ⟨w',l,rfl⟩:∃ w' l,w=w'++[l]:=⟨w.dropLast,w.getLast hne,(List.dropLast_concat_getLast hne).symm⟩
  obtain ⟨c1,c2⟩:=cut_init hw
  have hu':cut (u++[-l])=u++[-l]:=cut_more hu fun a z=>by
   rw [Int.neg_neg] at z
   rcases hx a w' l with q | q
   · exact q z
   · exact q rfl
  have e:u++turn (w'++[l])=(u++[-l])++turn w':=by rw [turn_append];simp [turn]
  rw [e]
  refine cut_app_turn n w' (u++[-l]) (by simpa using hn) hu' c1 fun a b x=>?_
  by_cases q:u++[-l]=a++[x]
  · right
    have:=(List.append_inj' q rfl).2
    have: -l=x:=by simpa using this
    rw [← this]
    exact c2 b
  · exact .inl q
structure RowOk2 (T:Tab) (k m:Nat) (r:List Int):Prop where
 rd:cut r=r
 ne:r≠[]
 hm:wgo T (some 0) r=some 0
 ll:∀ l∈r,Let k l
 ln:r.length≤2 * m+1
theorem hrow_ok {k n:Nat}{T:Tab} (ok:TabOk k n T) (hn:0 < n) {r:List Int} (hr:r∈hrows T k n):RowOk2 T k (met T k n 0).length r:=by
 unfold hrows at hr
 obtain ⟨t,ht,rfl⟩:=List.mem_map.mp hr
 obtain ⟨c,j,e,rfl,hcO,hj,ec,hu⟩:=lps_mem ht
 have wi:=met_winv ok hn
 have cl:=met_closed ok hn
 have r0:=ok.rng _ _ _ ec
 obtain ⟨m,rfl⟩:∃ m:Nat,e=(m:Int):=⟨e.toNat,by omega⟩
 have hs:sgo T c ((j:Int)+1)=some (m:Int):=by unfold sgo;rw [if_pos (by omega),show ((j:Int)+1 - 1).toNat=j by omega];exact ec
 have hcK:c∈keys (dm (metW T k n 0)):=by rw [keys_dm,metW_map];exact hcO
 have hmK:m∈keys (dm (metW T k n 0)):=cl c hcK _ ⟨by omega,by omega,by omega⟩ _ hs
 obtain ⟨p,hp,ep⟩:=List.mem_map.mp hcK
 obtain ⟨q,hq,eq⟩:=List.mem_map.mp hmK
 have ep:p.1=c:=ep
 have eq:q.1=m:=eq
 have nd:((metW T k n 0).map (·.1)).Nodup:=by rw [← keys_dm];exact wi.nd
 have wy:∀ x∈dm (metW T k n 0),way (metW T k n 0) x.1=x.2.2:=fun x hx=>by
  obtain ⟨y,hy,rfl⟩:=List.mem_map.mp hx
  exact way_mem nd hy
 have uni:∀ x∈dm (metW T k n 0),∀ y∈dm (metW T k n 0),x.1=y.1→x=y:=by
  intro x hx y hy e
  obtain ⟨i,hi,ei⟩:=List.getElem_of_mem hx
  obtain ⟨j,hj,ej⟩:=List.getElem_of_mem hy
  have:i=j:=by
   have h1:(keys (dm (metW T k n 0)))[i]'(by unfold keys;rw [List.length_map];exact hi)=(keys (dm (metW T k n 0)))[j]'(by unfold keys;rw [List.length_map];exact hj):=by
    unfold keys
    simp only [List.getElem_map,ei,ej,e]
   exact (List.getElem_inj wi.nd).mp h1
  subst this
  rw [← ei, ← ej]
 have hr:hrow (metW T k n 0) [(c:Int),(j:Int)+1,(m:Int)]=p.2.2++[(j:Int)+1]++turn q.2.2:=by
  show way (metW T k n 0) (c:Int).toNat++[(j:Int)+1]++turn (way (metW T k n 0) (m:Int).toNat)=_
  rw [Int.toNat_natCast,Int.toNat_natCast, ← ep, ← eq,wy p hp,wy q hq]
 rw [hr]
 unfold used at hu
 rw [Int.toNat_natCast, ← ep, ← eq,wy p hp,wy q hq,Bool.or_eq_false_iff] at hu
 have u1:=of_decide_eq_false hu.1
 have u2:=of_decide_eq_false hu.2
 have c1:cut (p.2.2++[(j:Int)+1])=p.2.2++[(j:Int)+1]:=by
  refine cut_more (wi.rd p hp) fun u hu'=>?_
  rcases wi.pr p hp with z | ⟨x,hx,l',e1,e2⟩
  · rw [z] at hu';simp at hu'
  · have e1':=e1
    rw [hu'] at e1
    have:=List.append_inj' e1 rfl
    have el: -((j:Int)+1)=l':=by simpa using this.2
    rw [← el] at e2
    have b:=sgo_back ok (by omega) (wi.lt x hx) e2
    rw [Int.neg_neg,ep,hs] at b
    have:q=x:=uni q hq x hx (by have:=Option.some.inj b;omega)
    rw [this] at u2
    exact u2 (by rw [e1',el])
 refine ⟨cut_app_turn _ _ _ rfl c1 (wi.rd q hq) fun a b x=>?_,by simp,?_,fun l hl=>?_,?_⟩
 · by_cases z:p.2.2++[(j:Int)+1]=a++[x]
   · right
     have ex:(j:Int)+1=x:=by simpa using (List.append_inj' z rfl).2
     intro hb
     rcases wi.pr q hq with y | ⟨x',hx',l',e1,e2⟩
     · rw [y] at hb;simp at hb
     · have e1':=e1
       rw [hb] at e1
       have el:x=l':=by simpa using (List.append_inj' e1 rfl).2
       rw [← el, ← ex] at e2
       have b1:=sgo_back ok (by omega) (wi.lt x' hx') e2
       have b2:=sgo_back ok (c:=c) (d:=q.1) (l:=(j:Int)+1) (by omega) (by rw [← ep];exact wi.lt p hp) (by rw [hs,eq])
       rw [b1] at b2
       have:p=x':=uni p hp x' hx' (by have:=Option.some.inj b2;omega)
       exact u1 (by rw [e1',this, ← el, ← ex])
   · exact .inl z
 · rw [wgo_app,wgo_snoc]
   have h1:wgo T (some 0) p.2.2=some (p.1:Int):=wi.wk p hp
   rw [h1,ep]
   show wgo T (sgo T c ((j:Int)+1)) (turn q.2.2)=some 0
   rw [hs, ← eq]
   exact wgo_turn ok q.2.2 (c:=0) ⟨by omega,by omega⟩ (fun l hl=>(wi.ll q hq l hl).1) (wi.wk q hq)
 · rcases List.mem_append.mp hl with z | z
   · rcases List.mem_append.mp z with z | z
     · exact wi.ll p hp l z
     · rw [List.mem_singleton.mp z];exact ⟨by omega,by omega,by omega⟩
   · exact turn_Let (wi.ll q hq) l z
 · have ln:∀ x∈dm (metW T k n 0),x.2.2.length+1≤(met T k n 0).length:=fun x hx=>by
     obtain ⟨i,hi,ei⟩:=List.getElem_of_mem hx
     have h1:=wi.ln i x (by simp [← ei,hi])
     have h3:(dm (metW T k n 0)).length=(met T k n 0).length:=by rw [← metW_map];simp [dm]
     omega
   have h1:=ln p hp
   have h2:=ln q hq
   simp only [List.length_append,List.length_cons,List.length_nil,turn_length]
   omega
def spWR:Sp:=fun vs H Q _=>∃ (l:Addr) (ps:Ps),vs=[.ref l]∧Il H l ps∧(∀ p∈ps,cut p.2=p.2∧p.2≠[]∧p.2.length≤10000)∧∀ H',Same H H'→Q (.bl true) H'
structure Tree (T:Tab) (k n:Nat):Prop where
 ok:TabOk k n T
 hn:0 < n
section
variable {T:Tab}{k n:Nat}
theorem Tree.nd (t:Tree T k n):(met T k n 0).Nodup:=(met_inv t.ok t.hn).1.nd
theorem Tree.cl (t:Tree T k n) {c:Nat} (hc:c∈met T k n 0) {l:Int} (hl:Let k l) {d:Nat} (e:sgo T c l=some (d:Int)):d∈met T k n 0:=(met_inv t.ok t.hn).2.2 c hc l hl _ e
theorem Tree.zero (t:Tree T k n):0∈met T k n 0:=(met_inv t.ok t.hn).2.1
abbrev wy (T:Tab) (k n:Nat) (c:Nat):List Int:=way (metW T k n 0) c
theorem Tree.ent (t:Tree T k n) {c:Nat} (hc:c∈met T k n 0):(c,0,wy T k n c)∈dm (metW T k n 0):=by
 have h:c∈(metW T k n 0).map (·.1):=by rw [metW_map];exact hc
 obtain ⟨p,hp,rfl⟩:=List.mem_map.mp h
 have nd:((metW T k n 0).map (·.1)).Nodup:=by rw [metW_map];exact t.nd
 refine List.mem_map.mpr ⟨p,hp,?_⟩
 show (p.1,0,p.2)=(p.1,0,way (metW T k n 0) p.1)
 rw [way_mem nd hp]
theorem Tree.ll (t:Tree T k n) {c:Nat} (hc:c∈met T k n 0):∀ l∈wy T k n c,Let k l:=(met_winv t.ok t.hn).ll _ (t.ent hc)
end
def spRound:Sp:=fun vs H Q _=>∃ (t:Addr) (as:List Addr) (T:Tab) (k n c:Nat) (da:Addr) (ds:List Int),vs=[.ref t,.int k,.int c,.ref da]∧Tb H t as T∧TabOk k n T∧1≤k∧k≤5∧n≤1000∧c < n∧Ints H da ds∧ds.length≤1000∧
 ∀ (q lw:Addr) (ws:List Int) (d:Nat) (H':Hp),H q=none→H lw=none→H' q=some (.tup [.ref lw,.int d])→Ints H' lw ws→(∀ l∈ws,Let k l)→wgo T (some (c:Int)) ws=some (d:Int)→d < n→ws.length≤ds.length→Same H H'→Q (.ref q) H'
def spPaths:Sp:=fun vs H Q _=>∃ (t:Addr) (as:List Addr) (T:Tab) (k n:Nat),vs=[.ref t,.int k]∧Tb H t as T∧TabOk k n T∧1≤k∧k≤5∧1≤n∧n≤700∧
 ∀ (d:Addr) (W:Wy) (H':Hp),H d=none→FW H' d W→WInv T k n 0 W→era W=metW T k n 0→Same H H'→Q (.ref d) H'
theorem Tree.end {T:Tab}{k n:Nat} (t:Tree T k n):∀ (w:List Int) {c d:Nat},c∈met T k n 0→(∀ l∈w,Let k l)→wgo T (some (c:Int)) w=some (d:Int)→d∈met T k n 0
 | [],c,d,hc,_,h=>by cases h;exact hc
 | l::w,c,d,hc,hl,h=>by
  rw [wgo_cons,Int.toNat_natCast] at h
  cases e:sgo T c l with
  | none=>rw [e,wgo_none] at h;cases h
  | some x=>
   have r:=sgo_lt t.ok e
   obtain ⟨m,rfl⟩:∃ m:Nat,x=(m:Int):=⟨x.toNat,by omega⟩
   rw [e] at h
   exact t.end w (t.cl hc (hl l (List.mem_cons_self ..)) e) (fun x hx=>hl x (List.mem_cons_of_mem _ hx)) h
end My
set_option autoImplicit false
namespace L2
open PySem PySem.Spec PyProof.Rows PySem.W
section
variable {X:Cx}
theorem m1 {o e:Expr}{m:Str}{apos cpos:Pos} (h1:attributeBase o m X.env (eval o X.env)=eval o X.env:=by rfl)
  (h2:((backTo cpos (starEach [e] X.env)).all (fun x=> !x.1) && (backToKw cpos (keywordEach [] X.env)).all (fun x=>x.1.isSome)
  && decide (([e]:List Expr).length+([]:List Keyword).length+(if ([]:List Keyword).isEmpty then 0 else 1) < 30))=true:=by rfl)
  (h3:(apos.endLine == cpos.line)=true:=by rfl) (h4:backTo cpos (starEach [e] X.env)=[(false,eval e X.env)]:=by rfl):M1 X o m apos e cpos:=⟨h1,h2,h3,h4⟩
end
end L2
namespace L2
open PySem PySem.Spec PyProof.Rows
theorem sC {X:Cx}{st:Stmt}{t:TS}{rest:List Stmt}{u:TS} (h1:PS X st t) (h2:PSs X rest u):PSs X (st::rest) (tSeq t u):=pss_cons h1 h2
theorem sO {X:Cx}{st:Stmt}{t:TS} (h:PS X st t):PSs X [st] t:=pss_one h
theorem sS {X:Cx}{i:Nat}{x:Str}{e:Expr}{te:TE}{pos pos':Pos} (hN:X.N.Nodup) (hi:X.N[i]?=some x) (hx:Loc X.env.scope x) (he:PE X e te) (hs:swapsWith e (some (.Name x pos')) pos.line X.env=pure false) (hf:X.fn x=true∨X.env.scope.names.lookup x=some .local):
  PS X (.Assign [.Name x pos'] e pos) (tAsg te (gName i)):=ps_set hN hi hx he hs hf
theorem sR {X:Cx}{e:Expr}{te:TE}{pos:Pos} (he:PE X e te):PS X (.Return (some e) pos) (tRet te):=ps_ret he
theorem aC {X:Cx}{e:Expr}{te:TE}{es:List Expr}{t:TA} (ha:PE X e te) (hr:PA X es t) (hs:starEach (e::es) X.env=(false,eval e X.env)::starEach es X.env):PA X (e::es) (tCons te t):=pa_cons ha hr hs
theorem eL {X:Cx}{es:List Expr}{t:TA}{pos:Pos} (h:PA X es t):PE X (.List es pos) (tLstW t):=pe_lstW h
theorem us1 {α:Type}{us:List α} (h:us.length=1):∃ a,us=[a]:=by
 match us,h with
 | [a],_=>exact ⟨a,rfl⟩
theorem us2 {α:Type}{us:List α} (h:us.length=2):∃ a b,us=[a,b]:=by
 cases us with
 | nil=>cases h
 | cons a r=>obtain ⟨b,rfl⟩:=us1 (us:=r) (by simpa using h);exact ⟨a,b,rfl⟩
theorem us3 {α:Type}{us:List α} (h:us.length=3):∃ a b c,us=[a,b,c]:=by
 cases us with
 | nil=>cases h
 | cons a r=>obtain ⟨b,c,rfl⟩:=us2 (us:=r) (by simpa using h);exact ⟨a,b,c,rfl⟩
theorem us4 {α:Type}{us:List α} (h:us.length=4):∃ a b c d,us=[a,b,c,d]:=by
 cases us with
 | nil=>cases h
 | cons a r=>obtain ⟨b,c,d,rfl⟩:=us3 (us:=r) (by simpa using h);exact ⟨a,b,c,d,rfl⟩
theorem scm {N P:List Str}{sc:Scope} (a:sc.kind=.function:=by rfl) (b:sc.isCoroutine=false:=by rfl) (c:sc.isGenerator=false:=by rfl) (d:N.Nodup:=by decide+kernel) (e:N.take P.length=P:=by rfl) (f:∀ x∈P,sc.names.lookup x=some .local∨sc.names.lookup x=some .cell:=by decide+kernel) (g:∀ y∈sc.names,y.2≠.free:=by decide+kernel):FnScope N P sc:=⟨a,b,c,d,e,f,g⟩
end L2
namespace My
open PySem L2
def rn (ord:List Nat) (o:Option Int):Option Int:=o.bind fun e=>if e.toNat∈ord then some ((ord.idxOf e.toNat:Nat):Int) else none
def renT (T:Tab) (ord:List Nat):Tab:=ord.map fun c=>(T.getD c []).map (rn ord)
theorem renT_cell {T:Tab}{ord:List Nat} (i j:Nat) (hi:i < ord.length):cell (renT T ord) i j=rn ord (cell T ord[i] j):=by
 have e:(renT T ord).getD i []=(T.getD ord[i] []).map (rn ord):=by
  simp [renT,List.getD,hi]
 unfold cell
 rw [e]
 generalize T.getD ord[i] []=r
 simp only [List.getD,List.getElem?_map]
 cases r[j]? <;> rfl
theorem renT_out {T:Tab}{ord:List Nat} (i j:Nat) (hi:¬ i < ord.length):cell (renT T ord) i j=none:=by
 have e:(renT T ord).getD i []=[]:=by
  simp [renT,List.getD,List.getElem?_eq_none (Nat.le_of_not_lt hi)]
 unfold cell
 rw [e];rfl
theorem rn_some {ord:List Nat}{o:Option Int}{e:Int} (h:rn ord o=some e):∃ a,o=some a∧a.toNat∈ord∧e=((ord.idxOf a.toNat:Nat):Int):=by
 unfold rn at h
 cases o with
 | none=>cases h
 | some a=>
  have h:(if a.toNat∈ord then some ((ord.idxOf a.toNat:Nat):Int) else none)=some e:=h
  split at h
  · rename_i m;exact ⟨a,rfl,m,(Option.some.inj h).symm⟩
  · cases h
theorem renT_ok {k n:Nat}{T:Tab} (ok:TabOk k n T) {ord:List Nat} (nd:ord.Nodup) (lt:∀ c∈ord,c < n):TabOk k ord.length (renT T ord) where
 len:=by simp [renT]
 row:=fun r hr=>by
  obtain ⟨c,hc,rfl⟩:=List.mem_map.mp hr
  rw [List.length_map]
  have:c < T.length:=by rw [ok.len];exact lt c hc
  rw [List.getD,List.getElem?_eq_getElem this]
  exact ok.row _ (List.getElem_mem this)
 rng:=fun c j e he=>by
  by_cases hc:c < ord.length
  · rw [renT_cell c j hc] at he
    obtain ⟨a,_,m,rfl⟩:=rn_some he
    have:=List.idxOf_lt_length_iff.mpr m
    exact ⟨by omega,by omega⟩
  · rw [renT_out c j hc] at he;cases he
 inj:=fun c d j e h1 h2=>by
  by_cases hc:c < ord.length
  · by_cases hd:d < ord.length
    · rw [renT_cell c j hc] at h1
      rw [renT_cell d j hd] at h2
      obtain ⟨a,ea,ma,e1⟩:=rn_some h1
      obtain ⟨b,eb,mb,e2⟩:=rn_some h2
      have ei:ord.idxOf a.toNat=ord.idxOf b.toNat:=by omega
      have ga:=List.getElem_idxOf (List.idxOf_lt_length_iff.mpr ma)
      have gb:=List.getElem_idxOf (List.idxOf_lt_length_iff.mpr mb)
      have et:a.toNat=b.toNat:=by
       rw [← ga, ← gb];simp only [ei]
      have ra:=ok.rng _ _ _ ea
      have rb:=ok.rng _ _ _ eb
      have eab:a=b:=by omega
      subst eab
      exact (List.getElem_inj nd).mp (ok.inj _ _ _ _ ea eb)
    · rw [renT_out d j hd] at h2;cases h2
  · rw [renT_out c j hc] at h1;cases h1
end My
namespace PySem.W
open PySem PySem.Spec PySem.Calls PyProof.Rows
end PySem.W
namespace L2
open PySem PySem.Spec PyProof.Rows
section
variable {P:Program}{w:World}{H H':Hp}{h h':Heap}{a:Addr}{o:HO}
theorem ObjOk.has (x:ObjOk P w H h a o):∃ u,h.get? a=some u:=by
 cases o with
 | lst xs=>obtain ⟨_,_,_,_,e⟩:=x;exact ⟨_,e⟩
 | tup xs=>obtain ⟨_,_,_,o,e,_⟩:=x;exact ⟨_,e⟩
 | dK kvs=>obtain ⟨_,_,_,_,o,_,_,e,_⟩:=x;exact ⟨_,e⟩
 | dT kvs=>obtain ⟨_,_,_,_,o,_,_,e,_⟩:=x;exact ⟨_,e⟩
 | set S n=>obtain ⟨o,_,_,_,e,_⟩:=x;exact ⟨_,e⟩
 | ins C dx fs=>obtain ⟨_,_,_,e,_⟩:=x;exact ⟨_,e⟩
 | own y=>obtain ⟨_,e⟩:=x;exact ⟨_,e⟩
 | xd fs=>obtain ⟨_,⟨_,_,_,e,_⟩,_⟩:=x;exact ⟨_,e⟩
 | rng lo hi=>obtain ⟨_,_,_,e⟩:=x;exact ⟨_,e⟩
 | frz ob u=>obtain ⟨e,_⟩:=x;exact ⟨_,e⟩
 | tbl ps=>exact ⟨_,(show h.get? a=some _ from x)⟩
 | met f y=>exact ⟨_,(show h.get? a=some _ from x)⟩
 | ext φ=>obtain ⟨_,⟨_,e⟩,_⟩:=x;exact ⟨_,e⟩
theorem HOk.only (x:HOk P w H h) (k:∀ b u,H b≠none→h.get? b=some u→h'.get? b=some u):HOk P w H h':=fun a o e=>
 (x a o e).stay (fun b u hb q=>k b u (by
  rcases hb with hb | hb
  · rw [hb,e];exact fun z=>nomatch z
  · rw [hb];exact fun z=>nomatch z) q) (fun _ q=>q) fun _ _ q=>q
end
def FlAt (B:Heap) (l:List Env) (e:Addr) (cls a0 fl:Value) (h:Heap):Prop:=B.StaysIn h∧B.get? e=none∧h.FunFrames B l∧h.TracedAtW B e cls a0 fl
section
variable {M:Model}{A:Around}{E:Value→Shared→Prop}{s:Shared}{B:Heap}{env:Env}{outer l:List Env}{L e:Addr}{cls a0 fl:Value}{Q:Unit→Shared→Prop}
theorem note_fl (hfr:A.frames=some (env::outer)) (hf:env.frame=some L) (h:FlAt B (env::outer) e cls a0 fl s.heap)
  (hQ:∀ h',FlAt B (env::outer) e cls a0 (rawInt L) h'→s.heap.UpToSlots h'→Q () { s with heap:=h' }):wpAny M A (noteFrame (.ref e) env) Q E s:=by
 by_cases hfl:(fl == rawInt L)=true
 · have:fl=rawInt L:=beq_iff_eq.mp hfl
   subst this
   exact wpAny_noteFrame_againW hf h.2.2.2 (hQ s.heap h (Heap.UpToSlots.refl _))
 obtain ⟨f1,f2,f3,oe,vs,tb,otb,ts,he,⟨hcls,h0⟩,hd,h1,hntb,htbe,htb,hdtb,h3⟩:=h
 subst hcls
 have rest:∀ b,b≠tb→(s.heap.update tb (Obj.mapFields (·.setIfInBounds 3 Value.none))).get? b=s.heap.get? b:=fun b hb=>Heap.get?_update_other _ _ (Ne.symm hb)
 have noRec:∀ b o,s.heap.get? b=some o→(∀ vs,o.data≠.fields vs)→b≠tb:=fun b o hb hnf q=>by
  rw [q,htb] at hb
  cases hb
  exact hnf ts hdtb
 unfold noteFrame
 simp only [hf]
 refine wpAny_bind (wpAny_field he hd h1 ?_)
 rw [if_pos (show (Value.ref tb != Value.none)=true from by simp)]
 refine wpAny_bind (wpAny_field htb hdtb h3 ?_)
 rw [if_neg hfl]
 refine wpAny_bind (wpAny_setField htb hdtb (Array.getElem?_eq_some_iff.mp h3).1 ?_)
 refine wpAny_entryW hfr (f3.of_keeps fun b o hb hnf=>⟨o,(rest b (noRec b o hb hnf)).trans hb,rfl⟩) hf ((rest e (Ne.symm htbe)).trans he)
  (fun b o hbo=>(rest b fun q=>by rw [q,hntb] at hbo;cases hbo).trans (f1 b o hbo)) f2 hd (Array.getElem?_eq_some_iff.mp h1).1 h0 fun h' ⟨x1,x2,x3,x4⟩=>?_
 exact hQ h' ⟨x1,f2,x2,x3⟩ fun b o hb hnf=>x4 b o ((rest b (noRec b o hb hnf)).trans hb) hnf
theorem land_fl (h:FlAt B l e cls a0 fl s.heap) (hQ:∀ h',FlAt B l e cls a0 .none h'→s.heap.UpToSlots h'→Q () { s with heap:=h' }):wpAny M A (setFlight (.ref e) none) Q E s:=
 wpAny_setFlight_noneW h.1 h.2.2.1 h.2.2.2 fun h' k1 k2 k3 k4=>hQ h' ⟨k1,h.2.1,k2,k3⟩ fun b o hb hn=>⟨o.slots,k4 b o hb hn⟩
theorem leave_fl (hfr:A.frames=some (env::outer)) (hf:env.frame=some L) (h:FlAt B (env::outer) e cls a0 fl s.heap)
  (hQ:∀ h',FlAt B outer e cls a0 .none h'→s.heap.UpToSlots h'→Q () { s with heap:=h' }):wpAny M A (leaving env (.ref e)) Q E s:=by
 unfold leaving
 refine wpAny_bind (note_fl hfr hf h fun h1 x1 u1=>?_)
 refine land_fl (s:={ s with heap:=h1 }) x1 fun h2 x2 u2=>hQ h2 ⟨x2.1,x2.2.1,x2.2.2.1.2.2,x2.2.2.2⟩ (u1.trans u2)
end
structure Hold (B:Heap) (fs ex:List Addr) (H H':Hp) (h h':Heap):Prop where
 a1:∀ b o,H' b≠none→h'.get? b=some o→B.get? b=some o
 a2:∀ b o,h.get? b=some o→H b=none→b∉fs→b∉ex→B.get? b=some o
 a3:∀ b o,h.get? b=some o→b∉fs→b∉ex→∃ o',B.get? b=some o'
section
variable {P:Program}{w:World}{B h h1 h2:Heap}{fs ex:List Addr}{H H':Hp}
theorem un_up (u:Un fs ex H H' h h1) (k:Hold B fs ex H H' h h1) (hB:B.StaysIn h2) (up:h1.UpToSlots h2) (fr:∀ b∈fs,∀ o,h1.get? b=some o→∀ vs,o.data≠.fields vs):Un fs ex H H' h h2 where
 keep:=fun b o q n hb he=>hB _ _ (k.a2 b o q n hb he)
 slot:=fun b o q n hb he=>by
  obtain ⟨sl,e⟩:=u.slot b o q n hb he
  obtain ⟨sl',e'⟩:=up b _ e (fr b hb _ e)
  exact ⟨sl',e'⟩
 free:=u.free
 there:=fun b o q he=>by
  by_cases hb:b∈fs
  · obtain ⟨o',e⟩:=u.there b o q he
    obtain ⟨sl',e'⟩:=up b _ e (fr b hb _ e)
    exact ⟨_,e'⟩
  · obtain ⟨o',e⟩:=k.a3 b o q hb he
    exact ⟨o',hB _ _ e⟩
 tups:=u.tups
 frzs:=u.frzs
 tbls:=u.tbls
theorem hold_up (hok:HOk P w H' h1) (k:Hold B fs ex H H' h h1) (hB:B.StaysIn h2):Hold B fs ex H H' h h2∧HOk P w H' h2:=by
 refine ⟨⟨fun b o n q=>?_,k.a2,k.a3⟩,hok.only fun b u n q=>hB _ _ (k.a1 b u n q)⟩
 cases e:H' b with
 | none=>exact absurd e n
 | some x=>
  obtain ⟨u,hu⟩:=(hok b x e).has
  have:=k.a1 b u n hu
  have z:=hB _ _ this
  rw [q] at z
  cases z
  exact this
end
structure Fly (P:Program) (w:World) (l:List Env) (H H':Hp) (h:Heap) (ea:Addr) (cls:Value) (h':Heap):Prop where
 ex:∃ B a0,FlAt B l ea cls a0 .none h'∧Hold B (frs l) [] H H' h h'
 un:Un (frs l) [] H H' h h'
 hok:HOk P w H' h'
def CXe (P:Program) (w:World):CXT:=fun l H s E e s'=>∃ ea cls H',e=.ref ea∧s'.os=s.os∧AllBare s'.gens∧Fly P w l H H' s.heap ea cls s'.heap∧E cls none H'
def FlI (X:Cx) (pins:List (Addr × Obj)) (σ:St) (E:XK) (e:Value) (s':Shared):Prop:=∃ ea cls H' B a0 fl,e=.ref ea∧Inv X pins σ H' s'∧FlAt B X.stack ea cls a0 fl s'.heap∧
 Hold B X.fs X.ex X.H₀ H' X.s₀.heap s'.heap∧(∀ p∈X.pn++pins,B.get? p.1=some p.2)∧E cls none H'
section
variable {X:Cx}{pins:List (Addr × Obj)}{σ:St}{H H':Hp}{s s':Shared}{B h2:Heap}
theorem Inv.notStk (I:Inv X pins σ H s) {b:Addr}{o:Obj} (e:X.s₀.heap.get? b=some o) (h:b∉X.fs):b∉frs X.stack:=fun z=>by
 rcases List.mem_cons.mp (I.stkSub b z) with q | q
 · exact absurd (Nat.lt_of_lt_of_le (Heap.lt_size e) I.ok.above) (by rw [q];exact Nat.lt_irrefl _)
 · exact h q
end
def XeF (X:Cx) (E:XK) (e:Value) (s':Shared):Prop:=(∃ pins σ,FlI X pins σ E e s')∨
 ∃ pins σ H h C ea args,e=.ref ea∧Inv X pins σ H { s' with heap:=h }∧Heap.MadeExcOf h s'.heap ea (.ref C) args∧E (.ref C) none H
section
variable {P:Program}{w:World}{K:PySem.W.Frag}{mg:Str→Option Value}{base:Heap}
theorem Inv.frFields {X:Cx}{pins:List (Addr × Obj)}{σ:St}{H:Hp}{s:Shared} (I:Inv X pins σ H s):∀ b∈X.fs,∀ o,s.heap.get? b=some o→∀ vs,o.data≠.fields vs:=fun b hb o e=>by
 obtain ⟨_,o',e',d⟩:=I.funs.mem hb
 rw [e] at e'
 cases e'
 exact d
theorem Inv.hold {X:Cx}{pins:List (Addr × Obj)}{σ:St}{H:Hp}{s:Shared} (I:Inv X pins σ H s):Hold (PySem.W.hideAll s.heap (frs X.stack)) X.fs X.ex X.H₀ H X.s₀.heap s.heap where
 a1:=fun b o n e=>PySem.W.hideAll_get _ e fun z=>n (I.stkFree b z)
 a2:=fun b o e n hb hx=>PySem.W.hideAll_get _ (I.base.keep b o e n hb hx) (I.notStk e hb)
 a3:=fun b o e hb hx=>by
  obtain ⟨o',e'⟩:=I.base.there b o e hx
  exact ⟨o',PySem.W.hideAll_get _ e' (I.notStk e hb)⟩
theorem XeF.out {N:List Str}{qual:Str}{scope:Scope}{f:Addr}{cd:Value}{A:Around}{outer:List Env}{s:Shared}{H:Hp}{E:XK}{e:Value}{s':Shared} (h:XeF (cxOf (CXe P w) P w K mg base N qual scope f cd A outer s H E) E e s'):
  (cxOf (CXe P w) P w K mg base N qual scope f cd A outer s H E).xe e s':=by
 rcases h with ⟨pins,σ,ea,cls,H',B,a0,fl,rfl,I,F,k,_,hE⟩ | ⟨pins,σ,H',h,C,ea,args,rfl,I,hx,hE⟩
 · refine leave_fl (L:=s.heap.objs.size) I.ok.frames rfl F fun h' F' up=>?_
   obtain ⟨k',hok'⟩:=hold_up I.hok k F'.1
   exact ⟨ea,cls,H',rfl,I.os,I.bare,⟨⟨B,a0,F',k'⟩,un_up I.base k F'.1 up I.frFields,hok'⟩,hE⟩
 · refine wpAny_leaves_madeW (base:=PySem.W.hideAll h (frs (cxOf (CXe P w) P w K mg base N qual scope f cd A outer s H E).stack)) (L:=s.heap.objs.size) (h:=h) I.ok.frames rfl (fun b o q=>PySem.W.of_hideAll _ q)
     (PySem.W.funFrames_hide I.stack fun env he a hf=>List.mem_filterMap.mpr ⟨env,he,hf⟩) hx fun h' t F' _ _ up=>?_
   have k:=I.hold
   obtain ⟨k',hok'⟩:=hold_up I.hok k F'.1
   have up':h.UpToSlots h':=(Heap.UpToSlots.of_keeps hx.keeps).trans up
   exact ⟨ea,.ref C,H',rfl,I.os,I.bare,⟨⟨_,_,F',k'⟩,un_up I.base k F'.1 up' I.frFields,hok'⟩,hE⟩
theorem Fun.okX {x qual:Str}{st:Stmt}{f:Addr}{fd:FuncData}{N ps:List Str}{k:Nat}{sp:Sp} (F:Fun K x qual st f fd) (S:FnScope N ps (defScope st)) (len:∀ vs H Q E,sp vs H Q E→vs.length=ps.length)
  (hbody:∀ (cdv:Value) (A:Around) (outer:List Env) (s:Shared) (H:Hp) (vs:List V) (Q:VK) (E:XK),Room k (A.deeper (envOfC qual (defScope st) s.heap.objs.size f cdv))→sp vs H Q E→
   ∃ t,PSs ((cxOf (CXe P w) P w K mg base N qual (defScope st) f cdv A outer s H E).wish (XeF (cxOf (CXe P w) P w K mg base N qual (defScope st) f cdv A outer s H E) E)) (defBody st) t∧t { nx:=fun _ H'=>Q .non H',rt:=Q } (start N vs) H):FnOk P w K mg base (CXe P w) (k+1) f fd ps sp:=by
 obtain ⟨oc,od,kV,doc,pm,an,cdv,ct,osl,rfl,lk,hcd⟩:=F.ex
 refine fn_of lk hcd S len fun A outer s H vs Q E hr hsp=>?_
 obtain ⟨t,h,q⟩:=hbody cdv A outer s H vs Q E hr hsp
 exact ⟨t,fun pins s1 σ1 H1 D I hw=>wpAny_mono (h pins s1 σ1 H1 D (I.wish _) hw) (fun _ _ q=>q.unwish) fun _ _ z=>XeF.out z,q⟩
end
abbrev veMro:List Value:=[.type "ValueError",.type "Exception",.type "BaseException",.type "object"]
def VeP (K:PySem.W.Frag) (C:Addr):Prop:=∃ (dd:Option Addr) (nm qn:Str) (bs sub:List Value) (B ns:Addr) (hd ab:Bool) (sn:List Str) (col:Option Bool) (k0 k1 k2 k3 k5:Option Value),
 K.lookup C=some ⟨.type "type",dd,.cls ⟨nm,bs,.ref C::.ref B::veMro,ns,qn,hd,sn,sub,ab,col,false⟩, #[k0,k1,k2,k3,some (.builtin "ValueError.__new__"),k5]⟩∧PySem.W.nsOkIn K ns=true∧PySem.W.nsIn K ns "__init__"=some none∧PySem.W.tailIn K veMro (.ref B::veMro)=true
noncomputable def isVe (K:PySem.W.Frag) (C:Addr):Bool:=@decide (VeP K C) (Classical.propDecidable _)
theorem exc_obj {K:PySem.W.Frag}{h:Heap}{C:Addr} (X:K.In h) (q:isVe K C=true):∃ bm N nm qn bs hdct sn sub ab col dd k0 k1 k2 k3 k5 mN,h.get? C=some (excClassObj nm qn C N bs bm hdct sn sub ab col dd k0 k1 k2 k3 k5 "ValueError.__new__")∧h.Ns N mN∧mN "__init__"=none∧OwnTail h veMro bm:=by
 obtain ⟨dd,nm,qn,bs,sub,B,ns,hd,ab,sn,col,k0,k1,k2,k3,k5,ho,hok,hni,ht⟩:=@of_decide_eq_true _ (Classical.propDecidable _) q
 exact ⟨.ref B::veMro,ns,nm,qn,bs,hd,sn,sub,ab,col,dd,k0,k1,k2,k3,k5,_,X _ _ ho,.of_isNs (PySem.W.isNs_of_in X hok),PySem.W.nsMap_none_of_in X hok hni,PySem.W.tail_of_in X ht⟩
def tRaise (C:Addr) (E:XK) (ta:TA):TS:=fun _ σ H=>ta σ H fun vs H1=>vs.length≤sizeLine∧E (.ref C) none H1
theorem ps_raise {X:Cx}{E:XK}{C:Addr}{x:Str}{np cpos pos:Pos}{e:Expr}{es:List Expr}{ta:TA} (hc:X.calm=true) (hg:Gl X x) (hm:X.mg x=some (.ref C)) (q:isVe X.K C=true) (ha:PA X.nox (e::es) ta)
  (hdb:(x == ("__debug__":Str))=false:=by decide) (he:starEach (e::es) X.env=(false,eval e X.env)::starEach es X.env:=by rfl) (hpl:(backTo cpos (starEach es X.env)).any (·.1)=false:=by rfl):
  PS (X.wish (XeF X E)) (.Raise (some (.Call (.Name x np) (e::es) [] cpos)) none pos) (tRaise C E ta):=by
 intro pins s σ H D I h
 have I0:=I.unwish
 obtain ⟨bm,N,nm,qn,bs,hdct,sn,sub,ab,col,dd,k0,k1,k2,k3,k5,mN,hC,hN,hni,T⟩:=exc_obj I0.mod.kin q
 refine wpAny_Raise_call_subT (C:=C) (nm:=nm) (q:=qn) (N:=N) (bs:=bs) (bm:=bm) (hdct:=hdct) (sn:=sn) (sub:=sub) (ab:=ab) (col:=col) (dd:=dd) (k0:=k0) (k1:=k1) (k2:=k2) (k3:=k3) (k5:=k5)
  F.excBase_ValueError (mN:=mN) (T.hasType (by decide+kernel)) (I0.ok.hd hc) (by rw [he];show (false || (backTo cpos (starEach es X.env)).any (·.1))=false;rw [hpl];rfl) hni (ld_glob I hg hm ⟨rfl,?_⟩ hdb)
 have z:=ha cpos pins s σ H _ (I0.wish _) h
 show wpAny _ _ (evalArgs (.ref C) true (backTo cpos (starEach (e::es) X.env)) []) _ _ _
 rw [he] at z ⊢
 refine Calls.evalArgs_plain (wpAny_mono z (fun vs s2 ⟨ws,H1,I1,r,hl,hE⟩=>?_) fun _ _ z=>False.elim z)
 have I1:=I1.unwish
 exact ⟨rfl,by rw [← r.length];exact hl,I1.bk _ _ hC,hN.keeps I1.bk,T.keeps I1.bk,fun h' ea hx=>.inr ⟨pins,σ,H1,s2.heap,C,ea,vs,rfl,I1,hx,hE⟩⟩
section
variable {X:Cx}
end
structure Rdx (P:Program) (w:World) (K:PySem.W.Frag) (mg:Str→Option Value) (base:Heap) (x:Str) (ps:List Str) (k:Nat) (sp:Sp) where
 f:Addr
 fd:FuncData
 ok:FnOk P w K mg base (CXe P w) k f fd ps sp
 mgx:mg x=some (.ref f)
 kp:PySem.W.keepIn K (.ref f)=true
 bd:Binds K fd ps []
def strKey (e:DictEntry):Bool:=match e.key with
 | .str _ _=>true
 | _=>false
theorem nsOk_mk {K:PySem.W.Frag}{N:Addr}{c:Value}{d:Option Addr}{es:Array DictEntry}{n:Nat}{sl:Array (Option Value)} (l:K.lookup N=some ⟨c,d,.dict es n,sl⟩) (h:es.toList.all strKey=true):PySem.W.nsOkIn K N=true:=by
 unfold PySem.W.nsOkIn
 rw [l]
 rw [Array.all_toList] at h
 exact h
theorem isVe_mk {K:PySem.W.Frag}{C B ns:Addr}{dd od:Option Addr}{nm qn:Str}{bs sub:List Value}{hd ab:Bool}{sn:List Str}{col:Option Bool}{k0 k1 k2 k3 k5:Option Value}{oc:Value}{cdB:ClassData}{osl:Array (Option Value)}
  (l:K.lookup C=some ⟨.type "type",dd,.cls ⟨nm,bs,.ref C::.ref B::veMro,ns,qn,hd,sn,sub,ab,col,false⟩, #[k0,k1,k2,k3,some (.builtin "ValueError.__new__"),k5]⟩) (n1:PySem.W.nsOkIn K ns=true) (n2:PySem.W.nsIn K ns "__init__"=some none)
  (l2:K.lookup B=some ⟨oc,od,.cls cdB,osl⟩) (n3:PySem.W.nsOkIn K cdB.ns=true) (n4:PySem.W.nsIn K cdB.ns "__init__"=some none):isVe K C=true:=by
 have t:PySem.W.tailIn K veMro (.ref B::veMro)=true:=by
  unfold PySem.W.tailIn
  dsimp only
  rw [l2]
  dsimp only
  rw [n3,n4]
  have:PySem.W.tailIn K veMro veMro=true:=by
   unfold PySem.W.tailIn
   rw [beq_self_eq_true]
   rfl
  rw [this,Bool.or_eq_true]
  exact .inr rfl
 exact @decide_eq_true _ (Classical.propDecidable _) ⟨dd,nm,qn,bs,sub,B,ns,hd,ab,sn,col,k0,k1,k2,k3,k5,l,n1,n2,t⟩
end L2
namespace My
open PySem L2 PySem.SeqAt PyProof.Rows PySem.Spec
end My
namespace L2
open PySem
section
variable {X:Cx}{E:XK}{x m:Str}{C:Addr}{ps:List Str}{k j:Nat}{sp:Sp}{o e:Expr}{es:List Expr}{ta:TE}{t:TA}{apos p pos:Pos}{pl:Sem Bool}
theorem passX0 {X:Cx}:Passes (CXe X.prog X.w) X E0:=fun _ _ _ _ _ _ _ ⟨_,_,_,_,_,_,_,z⟩=>z.elim
theorem Rdx.pe0 (R:Rdx X.prog X.w X.K X.mg X.base x ps k sp) (hr:Room j X.A) (ha:PA X (e::es) t) (hg:Gl X x:=by rfl) (hj:k≤j:=by decide)
  (hdb:(x == ("__debug__":Str))=false:=by decide) (he:starEach (e::es) X.env=(false,eval e X.env)::starEach es X.env:=by rfl) (hpl:(backTo pos (starEach es X.env)).any (·.1)=false:=by rfl):
  PE X (.Call (.Name x p) (e::es) [] pos) (tCall sp [] E0 t):=pe_call R.ok (hr.mono hj) hg R.mgx R.kp R.bd .nil passX0 ha hdb he hpl
end
end L2
namespace My
open PySem L2
theorem rd_lsV {H:Hp}{xs:List V}{Q:VK} (hl:xs.length≤1000) (h:∀ (p:Addr) (H':Hp),H p=none→H' p=some (.lst xs)→Same H H'→Q (.ref p) H'):Wr (rLst xs H Q):=
 ⟨⟨Nat.le_of_lt (small4k (by omega)),fun p hp=>h p _ hp upd_same ((Same.refl H).upd hp)⟩⟩
end My
namespace L2
open PySem PySem.Spec PyProof.Rows
end L2
namespace My
open PySem L2
theorem getElem_idx {ord:List Nat} (nd:ord.Nodup) {i:Nat} (hi:i < ord.length):ord.idxOf ord[i]=i:=nd.idxOf_getElem i hi
theorem sgo_ren {k n:Nat}{T:Tab} (ok:TabOk k n T) {ord:List Nat} (nd:ord.Nodup) (lt:∀ c∈ord,c < n) {i:Nat} (hi:i < ord.length) (l:Int):sgo (renT T ord) i l=rn ord (sgo T ord[i] l):=by
 unfold sgo
 by_cases z:0 < l
 · rw [if_pos z,if_pos z,renT_cell i _ hi]
 · rw [if_neg z,if_neg z]
   have ok':=renT_ok ok nd lt
   apply Option.ext
   intro d
   rw [pre_iff ok']
   constructor
   · rintro ⟨m,rfl,hm,hc⟩
     rw [renT_cell m _ hm] at hc
     obtain ⟨a,ea,ma,e1⟩:=rn_some hc
     have ra:=ok.rng _ _ _ ea
     have ga:a.toNat=ord[i]:=by
      have h1:=List.getElem_idxOf (List.idxOf_lt_length_iff.mpr ma)
      have:ord.idxOf a.toNat=i:=by omega
      rw [← h1];simp only [this]
     have hp:pre T (-l - 1).toNat ord[i]=some ((ord[m]:Nat):Int):=(pre_iff ok).mpr ⟨ord[m],rfl,lt _ (List.getElem_mem hm),by rw [ea];congr 1;omega⟩
     rw [hp]
     unfold rn
     dsimp only [Option.bind]
     rw [Int.toNat_natCast,if_pos (List.getElem_mem hm),getElem_idx nd hm]
   · intro h
     obtain ⟨a,ea,ma,rfl⟩:=rn_some h
     obtain ⟨m,rfl,hm,hc⟩:=(pre_iff ok).mp ea
     rw [Int.toNat_natCast] at ma ⊢
     have hx:=List.idxOf_lt_length_iff.mpr ma
     refine ⟨ord.idxOf m,rfl,hx,?_⟩
     rw [renT_cell _ _ hx,List.getElem_idxOf,hc]
     unfold rn
     dsimp only [Option.bind]
     rw [Int.toNat_natCast,if_pos (List.getElem_mem hi),getElem_idx nd hi]
theorem met_head {T:Tab}{k n base:Nat}:(met T k n base)[0]?=some base:=by
 have:=bfs_inv (T:=T) (k:=k) (fun _ O=>O[0]?=some base) (fun i O hi h=>by
  obtain ⟨r,e⟩:=fold_pre (T:=T) (c:=O.getD i 0) (lets k) O
  unfold rowO
  rw [e,List.getElem?_append_left (List.getElem?_eq_some_iff.mp h).1]
  exact h) (n+1) 0 [base] rfl
 exact this.elim fun _ h=>h.1
theorem comp_same {K:PySem.W.Frag}{a:Addr}{xs:List V}{ix:List Nat}{te:TE}{σ:St}{H:Hp}{Q:VK} (f:V→V) (hq:SqL K H a xs) (hl:xs.length≤100000)
  (he:∀ z∈xs,∀ (H':Hp) (Q':VK),Same H H'→(∀ H'',Same H' H''→Q' (f z) H'')→te (blkSt ix (some z) σ) H' Q') (h:∀ (D:Addr) (H':Hp),H D=none→H' D=some (.lst (xs.map f))→Same H H'→Q (.ref D) H'):Wr (rComp (Itl K a) ix te σ H Q):=by
 refine comp_list (xs:=xs) fun D hD=>⟨fun i ys H2=>ys=(xs.take i).map f∧H2 D=some (.lst ys)∧Same H H2,⟨by simp,upd_same,(Same.refl H).upd hD⟩,?_,?_,?_⟩
 · rintro i ys H2 hi ⟨rfl,h1,s⟩
   exact ⟨s.seq hq,h1,small4k (by rw [List.length_map,List.length_take];omega)⟩
 · rintro i x ys H2 hx ⟨rfl,h1,s⟩ Q' q'
   refine he x (List.mem_of_getElem? hx) H2 Q' s fun H3 s3=>q' _ H3 (s3 _ _ h1) ⟨?_,upd_same,(s.trans s3).upd hD⟩
   have hi:=(List.getElem?_eq_some_iff.mp hx).1
   rw [List.take_succ_eq_append_getElem hi,List.map_append,(List.getElem?_eq_some_iff.mp hx).2];rfl
 · rintro ys H2 ⟨rfl,h1,s⟩
   rw [List.take_length] at h1
   exact h D H2 hD h1 s
theorem w_name {i:Nat}{v:V}{σ:St}{H:Hp}{Q:St→Hp→Prop} (h:Q (σ.set i (some v)) H):gName i v σ H Q:=h
def spHome (k:Nat):Sp:=fun vs H Q _=>∃ (t wa:Addr) (as:List Addr) (T:Tab) (n:Nat) (ws:List Int),vs=[.ref t,.ref wa]∧Tb H t as T∧TabOk k n T∧1≤n∧n≤1000∧Ints H wa ws∧(∀ l∈ws,Let k l)∧ws.length≤10000∧
 ∀ H',Same H H'→Q (.bl (decide (wgo T (some 0) (cut ws)=some 0))) H'
def spHomeA:Sp:=fun vs H Q E=>∃ k:Nat,spHome k vs H Q E
theorem rd_atT {K:PySem.W.Frag}{H:Hp}{a:Addr}{xs:List V}{i:Int}{v:V}{Q:VK} (hq:H a=some (.tup xs)) (e:atI xs i=some v) (h:Q v H):Wr (rIxT K (.ref a) (.int i) H Q):=⟨⟨a,xs,i,v,rfl,rfl,SqT.of hq,e,h⟩⟩
end My
namespace L2
open PySem PySem.Spec PyProof.Rows
section
variable {X:Cx}
def tRng2 (ta:TA):TE:=fun σ H Q=>ta σ H fun vs H1=>∃ i j:Int,vs=[.int i,.int j]∧∀ p,H1 p=none→Q (.ref p) (upd H1 p (.rng i j))
theorem pe_rng2 {a b:Expr}{ta:TA}{p pos:Pos} (hg:Gl X "range") (hm:X.mg "range"=none) (ha:PA X [a,b] ta) (hs:starEach [a,b] X.env=[(false,eval a X.env),(false,eval b X.env)]:=by rfl) (hs2:starEach [b] X.env=[(false,eval b X.env)]:=by rfl):PE X (.Call (.Name "range" p) [a,b] [] pos) (tRng2 ta):=by
 intro pins s σ H Q I h
 refine Call_ (ld_blt I hg hm boot_range (PyProof.Rows.callWith_type1 (thn (ha pos pins s σ H _ I h) fun us s1 ⟨vs,H1,I1,r1,q1⟩=>?_) (by rw [hs,hs2]) (by rw [hs2];rfl)))
 obtain ⟨i,j,e,q⟩:=q1
 subst e
 cases r1 with
 | cons r rr=>
  cases rr with
  | cons r' rr=>
   cases rr
   obtain ⟨t,rfl⟩:=r
   obtain ⟨t',rfl⟩:=r'
   refine call_range_2 ?_
   exact ⟨.ref s1.heap.objs.size,_,I1.laid (o:=.rng i j) (fun b u e=>Heap.get?_push_of_some _ e) (Nat.le_refl _) ⟨_,_,_,Heap.get?_push_size _ rfl⟩,rfl,q _ (I1.hok.fresh (Nat.le_refl _))⟩
def rListR2 (xs:List V) (H:Hp) (Q:VK):Prop:=∃ (r:Addr) (lo:Int) (n:Nat),xs=[.ref r]∧H r=some (.rng lo (lo+n))∧ -1000000≤lo∧lo≤1000000∧n≤1000000∧∀ l,H l=none→Q (.ref l) (upd H l (.lst ((List.range n).map fun (i:Nat)=>V.int (lo+i))))
theorem call_listRng2 (hc:X.calm=true):CallR X (.type "list") (fun xs H Q=>Wr (rListR2 xs H Q)):=by
 intro pins s σ H xs us Q I r h
 obtain ⟨ra,lo,n,rfl,hr,l0,l1,hn,q⟩:=h.get
 obtain ⟨u,rfl,ru⟩:=r.one
 cases ru
 obtain ⟨t,tu,tv,e⟩:=(show ObjOk X.prog X.w H s.heap ra (.rng lo (lo+n)) from I.hok ra _ hr)
 have hsz:Builtin.Range.rangeSize lo (lo+n) 1=(n:Int):=by rw [rangeSize_one];split <;> omega
 refine call_list_range (n:=n) (I.ok.hd hc) e (small_one (by omega) (by omega) (by omega) (by omega)) hsz (by omega) fun h' tk acc c hk hS hacc=>?_
 refine ⟨.ref s.heap.objs.size,_,I.laid (t':=tk) (o:=.lst ((List.range n).map fun (i:Nat)=>V.int (lo+i))) hk (Nat.le_refl _) ?_,rfl,q _ (I.hok.fresh (Nat.le_refl _))⟩
 have hl:sizeLine=16777216:=sizeLine_eq
 refine ⟨by rw [List.length_map,List.length_range];omega,acc.toList,c,?_,by simpa using hS⟩
 have gen:∀ (k:Nat) (l:List Value),l.length=n - k→(∀ j v,l[j]?=some v→∃ t,v=Value.int (lo+((k+j:Nat):Int) * 1) t)→k≤n→Vals ((List.range' k (n - k)).map fun (i:Nat)=>V.int (lo+i)) l:=by
  intro k l
  induction l generalizing k with
  | nil=>
   intro hl _ _
   have:n - k=0:=by simpa using hl.symm
   rw [this]
   exact .nil
  | cons v l ih=>
   intro hl hv hk'
   have h1:n - k=(n - (k+1))+1:=by simp at hl;omega
   rw [h1,List.range'_succ,List.map_cons]
   refine .cons ?_ (ih (k+1) (by simp at hl;omega) (fun j v' hj=>?_) (by simp at hl;omega))
   · obtain ⟨t,e⟩:=hv 0 v rfl
     exact ⟨t,by rw [e];simp⟩
   · obtain ⟨t,e⟩:=hv (j+1) v' (by simpa using hj)
     refine ⟨t,?_⟩
     rw [e]
     congr 4
     omega
 have:=gen 0 acc.toList (by simpa using hacc.1) (fun j v hj=>by
  obtain ⟨t,e⟩:=hacc.2 j v (by simpa using hj)
  exact ⟨t,by rw [e];simp⟩) (Nat.zero_le _)
 rw [Nat.sub_zero, ← List.range_eq_range'] at this
 exact this
end
end L2
namespace My
open PySem L2
end My
namespace L2
open PySem PySem.Spec PyProof.Rows
end L2
namespace My
open PySem L2
theorem rd_sliceV {K:PySem.W.Frag}{H:Hp}{a:Addr}{xs:List V}{lo hi:Option Int}{Q:VK} (hq:H a=some (.lst xs)) (h:∀ (p:Addr) (H':Hp),H p=none→H' p=some (.lst (cutV xs lo hi))→Same H H'→Q (.ref p) H'):Wr (rSlL K (.ref a) lo hi H Q):=
 ⟨⟨a,_,rfl,SqL.of hq,fun p hp=>h p _ hp upd_same ((Same.refl H).upd hp)⟩⟩
end My
namespace L2
open PySem PySem.Spec PyProof.Rows
end L2
namespace L2
end L2
namespace My
open PySem L2
theorem rd_repI {H:Hp}{a:Addr}{ns:List Int}{k:Int}{Q:VK} (ha:Ints H a ns) (h0:0≤k) (h1:k≤1000) (hl:ns.length * k.toNat≤10000) (h:∀ (p:Addr) (H':Hp),H p=none→Ints H' p (List.replicate k.toNat ns).flatten→Same H H'→Q (.ref p) H'):Wr (rRep (.ref a) (.int k) H Q):=by
 refine ⟨⟨a,k,ns.map V.int,rfl,rfl,ha,by omega,by omega,?_,fun p hp=>?_⟩⟩
 · rw [List.length_map]
   exact Nat.le_of_lt (small4k (by omega))
 · have e:(List.replicate k.toNat (ns.map V.int)).flatten=((List.replicate k.toNat ns).flatten).map V.int:=by
     rw [List.map_flatten,List.map_replicate]
   rw [e]
   exact h p _ hp upd_same ((Same.refl H).upd hp)
end My
namespace L2
open PySem PySem.Spec PyProof.Rows
end L2
namespace My
open PySem L2
end My
namespace L2
open PySem PySem.Spec PyProof.Rows
end L2
namespace My
open PySem L2
end My
namespace L2
open PySem PySem.Spec PyProof.Rows
section
variable {prog:Program}{w:World}{K:Type} [DecidableEq K] {kk:KeyKind prog w K}{A:Around}{E:Value→Shared→Prop}{s:Shared}
theorem mayTell_none {stored:List Value}{Q:Bool→Shared→Prop} (hst:∀ v∈stored,∃ k' b,v=.ref b∧(tupleKind kk).is s.heap k' b) (h:Q false s):wpAny (model prog w) A (tableMayTell .none stored) Q E s:=by
 unfold tableMayTell
 split
 · exact wpAny_pure h
 · rw [eqIsQuiet_byValue _ (show carriedByValue .none=true from rfl)]
   refine wpAny_bind (wpAny_pure ?_)
   simp only [Bool.not_true,Bool.false_eq_true,if_false]
   refine wpAny_bind ?_
   refine wpAny_forIn_list _ (fun rest r s'=>s'=s∧r=(none,())∧∀ v∈rest,∃ k' b,v=.ref b∧(tupleKind kk).is s.heap k' b) _ ?_ ?_ _ _ ⟨rfl,rfl,hst⟩
   · rintro x rest r s' ⟨rfl,rfl,hr⟩
     obtain ⟨k',b,rfl,hb⟩:=hr x List.mem_cons_self
     refine wpAny_bind ((tupleKind kk).quiet hb ?_)
     simp only [Bool.not_true,Bool.false_eq_true,if_false]
     exact wpAny_pure ⟨rfl,rfl,fun v hv=>hr v (List.mem_cons_of_mem _ hv)⟩
   · rintro r s' ⟨rfl,rfl,_⟩
     exact wpAny_pure h
theorem find_none {d:Addr}{o:Obj}{es ep}{xs:List (List K × Addr × Value)} (hN:Int) {Q:Option Nat→Shared→Prop} (hu:A.units < cLine)
  (ho:s.heap.get? d=some o) (hd:o.data=.dict es ep) (he:es.toList=xs.map (entryOfKey (tupleKind kk))) (his:∀ x∈xs,(tupleKind kk).is s.heap x.1 x.2.1)
  (hnone:Q none s):wpAny (model prog w) A (dictFind d .none hN) Q E s:=by
 have hsz:es.size=xs.length:=size_of_entries he
 have hmem:∀ e∈es,∃ x∈xs,e=entryOfKey (tupleKind kk) x:=by
  intro e hin
  have:e∈xs.map (entryOfKey (tupleKind kk)):=he▸Array.mem_toList_iff.mpr hin
  obtain ⟨x,hx,rfl⟩:=List.mem_map.mp this
  exact ⟨x,hx,rfl⟩
 have hst:∀ v∈(placesWithHash es.size (fun i=>es[i]?.map (·.hash)) hN).filterMap (fun i=>es[i]?.map (·.key)),∃ k' b,v=.ref b∧(tupleKind kk).is s.heap k' b:=by
  intro v hv
  obtain ⟨i,_,hi⟩:=List.mem_filterMap.mp hv
  cases hei:es[i]? with
  | none=>rw [hei] at hi;cases hi
  | some e=>
   rw [hei] at hi
   obtain rfl:e.key=v:=by simpa using hi
   obtain ⟨x,hx,rfl⟩:=hmem e (Array.mem_of_getElem? hei)
   exact ⟨x.1,x.2.1,rfl,his x hx⟩
 unfold dictFind
 try with_reducible refine wpAny_holding ?_
 refine wpAny_bind (wpAny_dictEntries ho hd ?_)
 dsimp only
 have eqn:∀ (b:Addr) (k':List K) (A':Around) (R:Bool→Shared→Prop),A'.units < cLine→(tupleKind kk).is s.heap k' b→R false s→wpAny (model prog w) A' (PySem.eqBool (.ref b) .none) R E s:=fun b k' A' R hu' hb r=>by
  obtain ⟨o',items,n',h1,h2,h3,_⟩:=hb
  exact SeqAt.EqAt.tuple_none (show s.heap.IsTuple b items from ⟨o',h1,h2,n',h3⟩) hu' prog w E R r
 have at_:∀ (i:Nat) (e:DictEntry),es[i]?=some e→∃ (k':List K) (b:Addr) (v':Value),e=(⟨(tupleKind kk).hash k',.ref b,v'⟩:DictEntry)∧(tupleKind kk).is s.heap k' b:=fun i e hei=>by
  obtain ⟨x,hx,rfl⟩:=hmem e (Array.mem_of_getElem? hei)
  exact ⟨x.1,x.2.1,x.2.2,rfl,his x hx⟩
 refine wpAny_ite_split (fun hall=>?_) fun _=>?_
 · unfold dictWalkPlain
   refine wpAny_bind ?_
   refine wpAny_forIn_list _ (fun rest r s'=>s'=s∧r=(none,())) _ ?_ ?_ _ _ ⟨rfl,rfl⟩
   · rintro i rest r s' ⟨rfl,rfl⟩
     cases hei:es[i]? with
     | none=>exact wpAny_pure ⟨rfl,rfl⟩
     | some e=>
      obtain ⟨k',b,v',rfl,hb⟩:=at_ i e hei
      dsimp only
      refine wpAny_ite_split (fun _=>?_) fun _=>wpAny_pure ⟨rfl,rfl⟩
      refine wpAny_bind (wpAny_dictEpoch ho hd (wpAny_bind (eqn b k' _ _ hu hb (wpAny_bind (wpAny_dictEpoch ho hd ?_)))))
      rw [if_neg (by simp)]
      rw [if_neg (by simp)]
      refine wpAny_bind (wpAny_rule (wpAny_pure ⟨rfl,rfl⟩))
   · rintro r s' ⟨rfl,rfl⟩
     exact wpAny_pure hnone
 · have loop:∀ (f:Nat→Option (Option Nat) × Option Nat→Sem (ForInStep (Option (Option Nat) × Option Nat))) (l:List Nat),(∀ i,wpAny (model prog w) A (f i (none,none)) (fun r s'=>s'=s∧r=.yield (none,none)) E s)→∀ R:Option (Option Nat) × Option Nat→Shared→Prop,R (none,none) s→wpAny (model prog w) A (forIn l (none,none) f) R E s:=fun f l hf R hR=>by
     refine wpAny_forIn_list _ (fun rest r s'=>s'=s∧r=(none,none)) _ ?_ ?_ _ _ ⟨rfl,rfl⟩
     · rintro i rest r s' ⟨rfl,rfl⟩
       refine wpAny_mono (hf i) (fun r s' ⟨e1,e2⟩=>?_) fun _ _ e=>e
       subst e1 e2
       exact ⟨rfl,rfl⟩
     · rintro r s' ⟨rfl,rfl⟩
       exact hR
   refine wpAny_ite_split (fun _=>?_) fun _=>?_
   · refine wpAny_bind (wpAny_pure ?_)
     rw [if_neg (by simp)]
     refine wpAny_bind (loop _ _ (fun i=>?_) _ ?_)
     · cases hei:es[i]? with
       | none=>exact wpAny_pure ⟨rfl,rfl⟩
       | some e=>
        obtain ⟨k',b,v',rfl,hb⟩:=at_ i e hei
        dsimp only
        refine wpAny_ite_split (fun _=>?_) fun _=>wpAny_pure ⟨rfl,rfl⟩
        refine wpAny_bind (wpAny_dictEpoch ho hd (wpAny_bind (eqn b k' _ _ hu hb (wpAny_bind (wpAny_dictEpoch ho hd ?_)))))
        rw [if_neg (by simp)]
        rw [if_neg (by simp)]
        refine wpAny_bind (wpAny_rule ?_)
        rw [if_neg (by simp)]
        exact wpAny_pure ⟨rfl,rfl⟩
     · exact wpAny_pure hnone
   · refine wpAny_bind (mayTell_none hst ?_)
     rw [if_neg (by simp)]
     refine wpAny_bind (loop _ _ (fun i=>?_) _ ?_)
     · cases hei:es[i]? with
       | none=>exact wpAny_pure ⟨rfl,rfl⟩
       | some e=>
        obtain ⟨k',b,v',rfl,hb⟩:=at_ i e hei
        dsimp only
        refine wpAny_ite_split (fun _=>?_) fun _=>wpAny_pure ⟨rfl,rfl⟩
        refine wpAny_bind (wpAny_dictEpoch ho hd (wpAny_bind (eqn b k' _ _ hu hb (wpAny_bind (wpAny_dictEpoch ho hd ?_)))))
        rw [if_neg (by simp)]
        rw [if_neg (by simp)]
        refine wpAny_bind (wpAny_rule ?_)
        rw [if_neg (by simp)]
        exact wpAny_pure ⟨rfl,rfl⟩
     · exact wpAny_pure hnone
theorem get_none {d:Addr}{xs:List (List K × Addr × Value)}{Q:Option Value→Shared→Prop} (hu:A.units < cLine) (hm:s.heap.DictOfH (tupleKind kk) d xs)
  (h:Q none { s with toks:=s.toks+1 }):wpAny (model prog w) A (dictGet d .none) Q E s:=by
 obtain ⟨o,es,ep,ho,_,hd,he,his,hn⟩:=hm
 unfold dictGet
 try with_reducible refine wpAny_holding ?_
 refine wpAny_bind (hash_non (wpAny_bind (find_none (s:={ s with toks:=s.toks+1 }) _ hu ho hd he his ?_)))
 exact wpAny_pure h
theorem meets_get_none {d:Addr} (hd:(d == sysModules)=false):
  MeetsIn prog w (Builtin.«dict.get» ⟨[.ref d,.none],[]⟩) (fun A R s=>A.in1.units < cLine∧∃ xs,s.heap.DictOfH (tupleKind kk) d xs∧R (.ok (.ret .none)) { s with toks:=s.toks+1 }):=
 .of_wp fun A R s ⟨hu,xs,hm,h⟩=>by
  show wpAny _ _ (dictGet d .none >>= _) _ _ s
  refine wpAny_bind (get_none hu hm ?_)
  show wpAny _ _ (Builtin.Dict.missed d .none >>= _) _ _ _
  exact wpAny_bind (wpAny_missed_other hd (wpAny_pure ⟨.none,rfl,h⟩))
end
def tDisp1 (tk tv:TE):TE:=fun σ H Q=>∀ p,H p=none→tk σ (upd H p (.dT [])) fun x H1=>tv σ H1 fun y H2=>∃ H3,DPut H2 p x y H3∧Q (.ref p) H3
def tDGetN (td ty:TE):TE:=fun σ H Q=>td σ H fun x H1=>∃ a,x=.ref a∧IsD H1 a∧ty σ H1 fun y H2=>(∃ o,DGet H2 a y o∧Q (o.getD .non) H2)∨(y=.non∧(∃ kvs,H2 a=some (.dT kvs))∧Q .non H2)
def tks (ps:List (Addr × List Key)):List (List Key):=ps.map fun q=>q.2
def Tus (H:Hp) (p:Addr) (ps:List (Addr × List Key)):Prop:=H p=some (.lst (ps.map fun q=>.ref q.1))∧∀ q∈ps,H q.1=some (.tup (q.2.map kV))
section
variable {X:Cx}{k v o e:Expr}{pos apos cpos:Pos}{tk tv td ty:TE}
theorem pe_disp1 (hu:X.A.units+1 < cLine) (hk:PE X k tk) (hv:PE X v tv):PE X (.Dict [some k] [v] pos) (tDisp1 tk tv):=by
 intro pins s σ H Q I q
 have hn:=I.hok.fresh (Nat.le_refl s.heap.objs.size)
 have I1:=I.laid (a:=s.heap.objs.size) (o:=.dT []) (h':=s.heap.push { cls:=.type "dict",data:=.dict #[] }) (t':=s.toks) (fun _ _ q=>Heap.get?_push_of_some _ q) (Nat.le_refl _) (dt_empty s.heap I.big)
 rw [arm_eval_Dict,zip_pairTrees [some k] [v] X.env pos rfl rfl,dictDisplay_pairs _ (by rintro ⟨⟩) (by show 1 < 17;decide)]
 refine wpAny_bind (wpAny_standAt (wpAny_bind ?_))
 unfold subDict
 refine wpAny_bind (wpAny_alloc ?_)
 refine wpAny_bind (wpAny_holding ?_)
 rw [if_pos (show (pairTrees [some k] [v] X.env pos).length≤15 by show 1≤15;decide)]
 refine wpAny_bind (pairTrees_cons_walk (thn (hk pins _ σ _ _ I1 (q _ hn)) fun u s1 ⟨x,H1,J1,rx,q1⟩=>thn (hv pins s1 σ H1 _ J1 q1) fun w2 s2 ⟨y,H2,J2,ry,H3,g,q2⟩=>pairTrees_nil_walk ?_))
 refine wpAny_holding ?_
 refine wpAny_bind ?_
 rw [List.forIn_cons]
 refine wpAny_bind (wpAny_bind (d_dictSet hu J2 g rx ry fun s3 J3=>wpAny_pure ?_))
 dsimp only
 rw [List.forIn_nil]
 exact wpAny_pure (wpAny_pure (wpAny_pure (wpAny_pure ⟨.ref s.heap.objs.size,H3,J3,rfl,q2⟩)))
theorem pe_dgetN (hu:X.A.units+1 < cLine) (ho:PE X o td) (he:PE X e ty) (m:M1 X o "get" apos e cpos):PE X (.Call (.Attribute o "get" apos) [e] [] cpos) (tDGetN td ty):=by
 intro pins s σ H Q I h
 refine wpAny_Call_method m.base m.few m.line PySem.F.plainAttrs_dict PySem.F.slot_dict_get PySem.F.type_dict_get (thn (ho pins s σ H _ I h) fun u s1 ⟨x,H1,I1,rx,a,ex,d,q1⟩=>?_)
 subst ex
 obtain rfl:u=Value.ref a:=rx
 obtain ⟨t1,t2,_⟩:=isD_at I1 d
 refine ⟨t1,t2,?_⟩
 rw [m.trees]
 refine Calls.callWith_builtin rfl (Calls.evalArgs_plain (Calls.spliced_cons (thn (he pins s1 σ H1 _ I1 q1) fun iv s2 ⟨y,H2,I2,ry,q2⟩=>Calls.spliced_nil ?_)))
 rcases q2 with ⟨ov,g,q2⟩ | ⟨rfl,⟨kvs,ea⟩,q2⟩
 · exact d_get1 hu I2 g ry fun w' s3 I3 rw'=>⟨_,H2,I3,rw',q2⟩
 · obtain rfl:iv=Value.none:=ry
   obtain ⟨z,hd,xs,rel,dd⟩:=dt_of I2.hok ea
   exact call_meetsIn PySem.F.slot_dict_get dd.typeIs PySem.F.entry_dict_get (PySem.F.args_dict_get_2 _ _) (meets_get_none hd) ⟨hu,xs,dd,⟨.non,H2,I2.tok _,rfl,q2⟩⟩
end
end L2
namespace My
open PySem L2
def pr (m:Nat):Option Int→Option Int→Option Int
 | some e,some f=>some (e * m+f)
 | _,_=>none
theorem pr_some {m:Nat}{a b:Option Int}{x:Int} (h:pr m a b=some x):∃ e f,a=some e∧b=some f∧x=e * m+f:=by
 cases a with
 | none=>cases h
 | some e=>cases b with
  | none=>cases h
  | some f=>exact ⟨e,f,rfl,rfl,(Option.some.inj h).symm⟩
def prodT (k n m:Nat) (T U:Tab):Tab:=(List.range (n * m)).map fun (x:Nat)=>(List.range k).map fun (j:Nat)=>pr m (cell T (x / m) j) (cell U (x % m) j)
theorem dm_of {m e f:Nat} (hf:f < m):(e * m+f) / m=e∧(e * m+f) % m=f:=by
 rw [Nat.mul_comm,Nat.mul_add_div (by omega),Nat.mul_add_mod,Nat.div_eq_of_lt hf,Nat.mod_eq_of_lt hf]
 exact ⟨rfl,rfl⟩
theorem dm_lt {n m e f:Nat} (he:e < n) (hf:f < m):e * m+f < n * m:=by
 have:(e+1) * m≤n * m:=Nat.mul_le_mul_right m he
 rw [Nat.add_mul] at this;omega
theorem div_lt' {n m x:Nat} (hx:x < n * m):x / m < n:=Nat.div_lt_of_lt_mul (by rw [Nat.mul_comm];exact hx)
theorem mod_lt' {n m x:Nat} (hx:x < n * m):x % m < m:=Nat.mod_lt _ (by
 rcases Nat.eq_zero_or_pos m with z | z
 · subst z;omega
 · exact z)
theorem dm_back (m x:Nat):x / m * m+x % m=x:=by rw [Nat.mul_comm];exact Nat.div_add_mod x m
section
variable {k n m:Nat}{T U:Tab}
theorem prod_cell (okT:TabOk k n T) (okU:TabOk k m U) {x:Nat} (hx:x < n * m) (j:Nat):cell (prodT k n m T U) x j=pr m (cell T (x / m) j) (cell U (x % m) j):=by
 have e:(prodT k n m T U).getD x []=(List.range k).map fun (j:Nat)=>pr m (cell T (x / m) j) (cell U (x % m) j):=by
  unfold prodT
  simp [List.getD,hx]
 rw [show cell (prodT k n m T U) x j=((prodT k n m T U).getD x []).getD j none from rfl,e]
 by_cases hj:j < k
 · simp [List.getD,hj]
 · rw [okT.cell_none _ _ (by omega),List.getD,List.getElem?_eq_none (by simp;omega)];rfl
theorem prod_cell_none {x:Nat} (hx:¬ x < n * m) (j:Nat):cell (prodT k n m T U) x j=none:=by
 have e:(prodT k n m T U).getD x []=[]:=by
  unfold prodT
  rw [List.getD,List.getElem?_eq_none (by simp;omega)];rfl
 rw [show cell (prodT k n m T U) x j=((prodT k n m T U).getD x []).getD j none from rfl,e];rfl
theorem pr_nat {x:Nat}{e f:Int} (hx:x < n * m) (he:0≤e∧e < n) (hf:0≤f∧f < m) (h:(x:Int)=e * m+f):e=((x / m:Nat):Int)∧f=((x % m:Nat):Int):=by
 obtain ⟨e',rfl⟩:∃ e':Nat,e=(e':Int):=⟨e.toNat,by omega⟩
 obtain ⟨f',rfl⟩:∃ f':Nat,f=(f':Int):=⟨f.toNat,by omega⟩
 have hf':f' < m:=by omega
 have hx':x=e' * m+f':=by
  have:((e':Int) * m+f')=((e' * m+f':Nat):Int):=by rw [Int.natCast_add,Int.natCast_mul]
  omega
 obtain ⟨a,b⟩:=dm_of (e:=e') hf'
 rw [hx',a,b]
 exact ⟨rfl,rfl⟩
theorem prod_ok (okT:TabOk k n T) (okU:TabOk k m U):TabOk k (n * m) (prodT k n m T U):=by
 refine ⟨by unfold prodT;simp,fun r hr=>?_,fun c j e he=>?_,fun c d j e h1 h2=>?_⟩
 · unfold prodT at hr
   obtain ⟨x,_,rfl⟩:=List.mem_map.mp hr
   simp
 · by_cases hc:c < n * m
   · rw [prod_cell okT okU hc] at he
     obtain ⟨a,b,ea,eb,rfl⟩:=pr_some he
     have ra:=okT.rng _ _ _ ea
     have rb:=okU.rng _ _ _ eb
     obtain ⟨a',rfl⟩:∃ a':Nat,a=(a':Int):=⟨a.toNat,by omega⟩
     obtain ⟨b',rfl⟩:∃ b':Nat,b=(b':Int):=⟨b.toNat,by omega⟩
     have:=dm_lt (n:=n) (m:=m) (e:=a') (f:=b') (by omega) (by omega)
     have e2:((a':Int) * m+b')=((a' * m+b':Nat):Int):=by rw [Int.natCast_add,Int.natCast_mul]
     omega
   · rw [prod_cell_none hc] at he;cases he
 · have hc:c < n * m:=by
     by_cases hc:c < n * m
     · exact hc
     · rw [prod_cell_none hc] at h1;cases h1
   have hd:d < n * m:=by
    by_cases hd:d < n * m
    · exact hd
    · rw [prod_cell_none hd] at h2;cases h2
   rw [prod_cell okT okU hc] at h1
   rw [prod_cell okT okU hd] at h2
   obtain ⟨a,b,ea,eb,rfl⟩:=pr_some h1
   obtain ⟨a2,b2,ea2,eb2,e2⟩:=pr_some h2
   have ra:=okT.rng _ _ _ ea
   have rb:=okU.rng _ _ _ eb
   have ra2:=okT.rng _ _ _ ea2
   have rb2:=okU.rng _ _ _ eb2
   obtain ⟨a',rfl⟩:∃ a':Nat,a=(a':Int):=⟨a.toNat,by omega⟩
   obtain ⟨b',rfl⟩:∃ b':Nat,b=(b':Int):=⟨b.toNat,by omega⟩
   have e3:((a':Int) * m+b')=((a' * m+b':Nat):Int):=by rw [Int.natCast_add,Int.natCast_mul]
   have lt:=dm_lt (n:=n) (m:=m) (e:=a') (f:=b') (by omega) (by omega)
   rw [e3] at e2
   obtain ⟨z1,z2⟩:=pr_nat lt ra2 rb2 e2
   obtain ⟨y1,y2⟩:=dm_of (m:=m) (e:=a') (f:=b') (by omega)
   rw [y1] at z1
   rw [y2] at z2
   subst z1 z2
   have i1:=okT.inj _ _ _ _ ea ea2
   have i2:=okU.inj _ _ _ _ eb eb2
   rw [← dm_back m c, ← dm_back m d,i1,i2]
theorem prod_sgo (okT:TabOk k n T) (okU:TabOk k m U) {x:Nat} (hx:x < n * m) (l:Int):sgo (prodT k n m T U) x l=pr m (sgo T (x / m) l) (sgo U (x % m) l):=by
 have okP:=prod_ok okT okU
 unfold sgo
 by_cases z:0 < l
 · rw [if_pos z,if_pos z,if_pos z,prod_cell okT okU hx]
 · rw [if_neg z,if_neg z,if_neg z]
   generalize (-l - 1).toNat=j
   cases e:pre (prodT k n m T U) j x with
   | some y=>
    obtain ⟨q,rfl,hq,hc⟩:=(pre_iff okP).mp e
    rw [prod_cell okT okU hq] at hc
    obtain ⟨a,b,ea,eb,ex⟩:=pr_some hc
    obtain ⟨rfl,rfl⟩:=pr_nat hx (okT.rng _ _ _ ea) (okU.rng _ _ _ eb) ex
    rw [(pre_iff okT).mpr ⟨q / m,rfl,div_lt' hq,ea⟩,(pre_iff okU).mpr ⟨q % m,rfl,mod_lt' hq,eb⟩]
    show _=some _
    rw [← Int.natCast_mul, ← Int.natCast_add,dm_back]
   | none=>
    cases ea:pre T j (x / m) with
    | none=>rfl
    | some a=>
     cases eb:pre U j (x % m) with
     | none=>rfl
     | some b=>
      obtain ⟨a',rfl,ha,ca⟩:=(pre_iff okT).mp ea
      obtain ⟨b',rfl,hb,cb⟩:=(pre_iff okU).mp eb
      exfalso
      have lt:=dm_lt (n:=n) (m:=m) ha hb
      have cP:cell (prodT k n m T U) (a' * m+b') j=some (x:Int):=by
       rw [prod_cell okT okU lt,(dm_of hb).1,(dm_of hb).2,ca,cb]
       show some _=some _
       rw [← Int.natCast_mul, ← Int.natCast_add,dm_back]
      rw [(pre_iff okP).mpr ⟨_,rfl,lt,cP⟩] at e
      cases e
end
def pk (m x:Nat):List Key:=[.inl ((x / m:Nat):Int),.inl ((x % m:Nat):Int)]
theorem pk_inj {m x y:Nat} (h:pk m x=pk m y):x=y:=by
 unfold pk at h
 injection h with h1 h2
 injection h2 with h2
 have e1:x / m=y / m:=by
  injection h1 with h1
  omega
 have e2:x % m=y % m:=by
  injection h2 with h2
  omega
 rw [← dm_back m x, ← dm_back m y,e1,e2]
def DP (m:Nat) (kvs:List (List Key × V)) (O:List Nat) (v:Nat→V):Prop:=kvs.length≤O.length∧∀ x,valV kvs (pk m x)=if x∈O then some (v (O.idxOf x)) else none
theorem DP.zero {m:Nat}{v:Nat→V}:DP m [] [] v:=⟨Nat.le_refl _,fun x=>by rw [if_neg (fun z=>nomatch z)];rfl⟩
theorem DP.put {m:Nat}{kvs:List (List Key × V)}{O:List Nat}{v:Nat→V} (h:DP m kvs O v) {x:Nat} (hx:x∉O) {y:V} (ey:y=v O.length):DP m (putK kvs (pk m x) y) (O++[x]) v:=by
 subst ey
 refine ⟨?_,fun z=>?_⟩
 · have:=length_putK kvs (pk m x) (v O.length)
   have:=h.1
   rw [List.length_append]
   show _≤O.length+1
   omega
 · rw [valV_put]
   by_cases e:z=x
   · subst e
     rw [if_pos rfl,if_pos (List.mem_append_right _ (List.mem_singleton.mpr rfl))]
     congr 2
     rw [List.idxOf_append,if_neg hx]
     simp
   · rw [if_neg (fun w=>e (pk_inj w)),h.2 z]
     by_cases m':z∈O
     · rw [if_pos m',if_pos (List.mem_append_left _ m'),List.idxOf_append,if_pos m']
     · rw [if_neg m',if_neg (fun w=>by
         rcases List.mem_append.mp w with w | w
         · exact m' w
         · exact e (List.mem_singleton.mp w))]
def tupP (m x:Nat):List V:=[.int ((x / m:Nat):Int),.int ((x % m:Nat):Int)]
def spPstep (C:Addr):Sp:=fun vs H Q _=>∃ (g1 g2 b:Addr) (k n m:Nat) (T U:Tab) (fp fq:List Addr) (x:Nat) (l:Int),vs=[.ref g1,.ref g2,.ref b,.int l]∧ChAt C H g1 k n T fp∧ChAt C H g2 k m U fq∧H b=some (.tup (tupP m x))∧x < n * m∧Let k l∧
 (∀ H',sgo (prodT k n m T U) x l=none→Same H H'→Q .non H')∧∀ (y:Nat) (p:Addr) (H':Hp),sgo (prodT k n m T U) x l=some (y:Int)→H p=none→H' p=some (.tup (tupP m y))→Same H H'→Q (.ref p) H'
def Prs (m:Nat) (H H':Hp) (l:Addr) (O:List Nat):Prop:=H l=none∧∃ ps:List (Addr × List Key),Tus H' l ps∧tks ps=O.map (pk m)∧Same H H'
def spPio (C:Addr):Sp:=fun vs H Q _=>∃ (g1 g2:Addr) (k n m:Nat) (T U:Tab) (fp fq:List Addr),vs=[.ref g1,.ref g2]∧ChAt C H g1 k n T fp∧ChAt C H g2 k m U fq∧n * m≤700∧
 ∀ (l:Addr) (H':Hp),Prs m H H' l (met (prodT k n m T U) k (n * m) 0)→Q (.ref l) H'
def spMetX (C cC:Addr):Sp:=fun vs H Q E=>∃ (g1 g2:Addr) (k k2 n m:Nat) (T U:Tab) (fp fq:List Addr),vs=[.ref g1,.ref g2]∧ChAt C H g1 k n T fp∧ChAt C H g2 k2 m U fq∧n * m≤700∧
 (k=k2→∀ (x:Addr) (fr:List Addr) (H':Hp),H x=none→(∀ a∈fr,H a=none)→ChAt C H' x k (met (prodT k n m T U) k (n * m) 0).length (renT (prodT k n m T U) (met (prodT k n m T U) k (n * m) 0)) fr→Same H H'→Q (.ref x) H')∧(k≠k2→E (.ref cC) none H)
theorem hclA {cells l:List (Str × Addr)}{a:Str}{x:Addr} (h1:cells.lookup a=some x) (h:∀ z c,l.lookup z=some c→cells.lookup z=some c):∀ z c,((a,x)::l).lookup z=some c→cells.lookup z=some c:=fun z c e=>by
 rw [List.lookup_cons] at e
 cases q:z == a with
 | true=>rw [q] at e;rw [eq_of_beq q,h1];exact e
 | false=>rw [q] at e;exact h z c e
theorem ren_row {k n:Nat}{P:Tab} (ok:TabOk k n P) {ord:List Nat} (lt:∀ c∈ord,c < n) {i:Nat} (hi:i < ord.length):(renT P ord).getD i []=(List.range k).map fun (j:Nat)=>rn ord (cell P ord[i] j):=by
 have e:(renT P ord).getD i []=(P.getD ord[i] []).map (rn ord):=by simp [renT,List.getD,hi]
 have hc:ord[i] < P.length:=by rw [ok.len];exact lt _ (List.getElem_mem hi)
 have rl:(P.getD ord[i] []).length=k:=ok.row _ (by rw [List.getD,List.getElem?_eq_getElem hc];exact List.getElem_mem _)
 rw [e]
 refine List.ext_getElem? fun j=>?_
 rw [List.getElem?_map,List.getElem?_map]
 by_cases hj:j < k
 · rw [List.getElem?_range hj,List.getElem?_eq_getElem (by rw [rl];exact hj)]
   show some _=some (rn ord ((P.getD ord[i] []).getD j none))
   generalize P.getD ord[i] []=r at rl
   rw [List.getD,List.getElem?_eq_getElem (by rw [rl];exact hj)];rfl
 · rw [List.getElem?_eq_none (by omega),List.getElem?_eq_none (by simp;omega)];rfl
theorem wgo_prod {k n m:Nat}{T U:Tab} (okT:TabOk k n T) (okU:TabOk k m U):∀ (w:List Int) (x:Nat),x < n * m→wgo (prodT k n m T U) (some (x:Int)) w=pr m (wgo T (some ((x / m:Nat):Int)) w) (wgo U (some ((x % m:Nat):Int)) w)
 | [],x,hx=>by
  show some _=some _
  rw [← Int.natCast_mul, ← Int.natCast_add,dm_back]
 | l::w,x,hx=>by
  rw [wgo_cons,wgo_cons,wgo_cons,Int.toNat_natCast,Int.toNat_natCast,Int.toNat_natCast,prod_sgo okT okU hx]
  cases e1:sgo T (x / m) l with
  | none=>
   rw [wgo_none]
   show wgo _ none w=pr m none _
   rw [wgo_none];rfl
  | some e=>
   cases e2:sgo U (x % m) l with
   | none=>
    rw [wgo_none]
    show wgo _ none w=pr m _ none
    rw [wgo_none]
    cases wgo T (some e) w <;> rfl
   | some f=>
    have re:=sgo_lt okT e1
    have rf:=sgo_lt okU e2
    obtain ⟨e',rfl⟩:∃ e':Nat,e=(e':Int):=⟨e.toNat,by omega⟩
    obtain ⟨f',rfl⟩:∃ e':Nat,f=(e':Int):=⟨f.toNat,by omega⟩
    have hf:f' < m:=by omega
    have lt:=dm_lt (n:=n) (m:=m) (e:=e') (f:=f') (by omega) hf
    have ih:=wgo_prod okT okU w (e' * m+f') lt
    rw [(dm_of hf).1,(dm_of hf).2,Int.natCast_add,Int.natCast_mul] at ih
    exact ih
theorem wgo_met {k n:Nat}{T:Tab} (ok:TabOk k n T) {ord:List Nat} (nd:ord.Nodup) (lt:∀ c∈ord,c < n) (cl:∀ c∈ord,∀ l,Let k l→∀ d,sgo T c l=some d→d.toNat∈ord):
  ∀ (w:List Int),(∀ l∈w,Let k l)→∀ (i:Nat) (hi:i < ord.length),wgo (renT T ord) (some (i:Int)) w=rn ord (wgo T (some ((ord[i]:Nat):Int)) w)
 | [],_,i,hi=>by
  show some (i:Int)=rn ord (some ((ord[i]:Nat):Int))
  unfold rn
  dsimp only [Option.bind]
  rw [Int.toNat_natCast,if_pos (List.getElem_mem hi),getElem_idx nd hi]
 | l::w,hl,i,hi=>by
  rw [wgo_cons,wgo_cons,Int.toNat_natCast,Int.toNat_natCast,sgo_ren ok nd lt hi]
  cases e:sgo T ord[i] l with
  | none=>
   show wgo _ none w=rn ord (wgo T none w)
   rw [wgo_none,wgo_none];rfl
  | some d=>
   have md:=cl _ (List.getElem_mem hi) l (hl l (List.mem_cons_self ..)) d e
   have hx:=List.idxOf_lt_length_iff.mpr md
   have rd:=sgo_lt ok e
   have ih:=wgo_met ok nd lt cl w (fun l h=>hl l (List.mem_cons_of_mem _ h)) _ hx
   have er:rn ord (some d)=some ((ord.idxOf d.toNat:Nat):Int):=by
    unfold rn
    dsimp only [Option.bind]
    rw [if_pos md]
   rw [er,ih,List.getElem_idxOf,Int.toNat_of_nonneg rd.1]
theorem meet_home {k n m:Nat}{T U:Tab} (okT:TabOk k n T) (okU:TabOk k m U) (n1:1≤n) (m1:1≤m) {w:List Int} (hl:∀ l∈w,Let k l):
  wgo (renT (prodT k n m T U) (met (prodT k n m T U) k (n * m) 0)) (some 0) w=some 0↔wgo T (some 0) w=some 0∧wgo U (some 0) w=some 0:=by
 have okP:=prod_ok okT okU
 have N1:0 < n * m:=Nat.mul_pos n1 m1
 have mi:=met_inv okP (k:=k) N1
 have hd:=met_head (T:=prodT k n m T U) (k:=k) (n:=n * m) (base:=0)
 have p1:=List.length_pos_of_mem mi.2.1
 have h1:=wgo_met okP mi.1.nd mi.1.lt mi.2.2 w hl 0 p1
 have h2:=wgo_prod okT okU w 0 N1
 obtain ⟨l0,e0⟩:=List.getElem?_eq_some_iff.mp hd
 generalize met (prodT k n m T U) k (n * m) 0=ord at *
 rw [e0] at h1
 rw [show ((0:Nat):Int)=0 from rfl] at h1
 rw [h1]
 rw [Nat.zero_div,Nat.zero_mod,show ((0:Nat):Int)=0 from rfl] at h2
 rw [h2]
 constructor
 · intro h
   obtain ⟨a,ea,ma,e1⟩:=rn_some h
   have ex:ord.idxOf a.toNat=0:=by omega
   have a1:=List.getElem_idxOf (List.idxOf_lt_length_iff.mpr ma)
   simp only [ex] at a1
   rw [e0] at a1
   obtain ⟨e,f,ee,ef,eq⟩:=pr_some ea
   have re:=wgo_lt okT (show (0:Int)≤0∧(0:Int) < n by omega) ee
   have rf:=wgo_lt okU (show (0:Int)≤0∧(0:Int) < m by omega) ef
   obtain ⟨e',rfl⟩:∃ e':Nat,e=(e':Int):=⟨e.toNat,by omega⟩
   obtain ⟨f',rfl⟩:∃ e':Nat,f=(e':Int):=⟨f.toNat,by omega⟩
   have e3:((e':Int) * m+f')=((e' * m+f':Nat):Int):=by rw [Int.natCast_add,Int.natCast_mul]
   have z:e' * m+f'=0:=by omega
   have z2:e' * m=0:=by omega
   have z3:e'=0:=by
    rcases Nat.mul_eq_zero.mp z2 with w | w
    · exact w
    · omega
   have z4:f'=0:=by omega
   rw [ee,ef,z3,z4]
   exact ⟨rfl,rfl⟩
 · rintro ⟨a,b⟩
   rw [a,b]
   show rn ord (some ((0:Int) * m+0))=some 0
   rw [Int.zero_mul]
   unfold rn
   dsimp only [Option.bind]
   have m0:(0+0:Int).toNat∈ord:=by
    show 0∈ord
    exact mi.2.1
   rw [if_pos m0]
   congr 1
   have:=getElem_idx mi.1.nd p1
   rw [e0] at this
   show ((ord.idxOf 0:Nat):Int)=0
   rw [this];rfl
theorem w_bl {b b':Bool}{i:Nat}{σ:St}{H:Hp}{Q:St→Hp→Prop} (e:b=b') (h:gName i (.bl b') σ H Q):gName i (.bl b) σ H Q:=e▸h
theorem flat_len {α:Type} (z:List α):∀ c,((List.replicate c z).flatten).length=c * z.length
 | 0=>by simp
 | c+1=>by rw [List.replicate_succ,List.flatten_cons,List.length_append,flat_len z c,Nat.succ_mul,Nat.add_comm]
def top (i:Nat):Stmt:=PySem.Challenge.pw_chalkcave_k32_whole_home_in_both.main.body.getD i (.Pass ⟨0,0,0,0⟩)
abbrev s_cancelled:Stmt:=top 7
abbrev s_turned:Stmt:=top 8
abbrev s_Chart___init__:Stmt:=inClass (top 12) 0
abbrev s_Chart_size:Stmt:=inClass (top 12) 1
abbrev s_Chart_table:Stmt:=inClass (top 12) 4
abbrev s_Chart_step:Stmt:=inClass (top 12) 5
abbrev s_Chart_trace:Stmt:=inClass (top 12) 6
abbrev s_Chart_check_chamber:Stmt:=inClass (top 12) 7
abbrev s_check_letters:Stmt:=top 13
abbrev s_check_shape:Stmt:=top 14
abbrev s_beginnings:Stmt:=top 15
abbrev s_ways_from:Stmt:=top 17
abbrev s_letters_in_order:Stmt:=top 18
abbrev s_met:Stmt:=top 20
abbrev s_pairs_in_order:Stmt:=top 21
abbrev s_pair_step:Stmt:=top 22
abbrev s_homes:Stmt:=top 24
abbrev s_loose_passages:Stmt:=top 25
abbrev s_is_used:Stmt:=top 26
abbrev s_home_row:Stmt:=top 27
abbrev s__law_numbers:Stmt:=top 29
abbrev s__law_way:Stmt:=top 30
abbrev s__law_cut:Stmt:=top 31
abbrev s__law_turn:Stmt:=top 32
abbrev s__law_is_way:Stmt:=top 33
abbrev s__law_table:Stmt:=top 34
abbrev s__law_led:Stmt:=top 35
abbrev s__law_trace:Stmt:=top 36
abbrev s__law_round:Stmt:=top 37
abbrev s__law_paths:Stmt:=top 38
abbrev s__law_ways_right:Stmt:=top 39
abbrev s__law_home:Stmt:=top 40
abbrev s_law:Stmt:=top 41
abbrev sNum:Stmt:=s__law_numbers
abbrev sWay:Stmt:=s__law_way
abbrev sCut:Stmt:=s__law_cut
abbrev sTurn:Stmt:=s__law_turn
abbrev sIs:Stmt:=s__law_is_way
abbrev sCan:Stmt:=s_cancelled
abbrev sTurned:Stmt:=s_turned
section
variable {P:Program}{w:World}{K:PySem.W.Frag}{mg:Str→Option Value}{base:Heap}
theorem scNum:FnScope ["_law_script","_law_many","_law_row","_law_seed","_law_cell","_law_rest","_law_k"] ["_law_script","_law_many"] (defScope sNum):=scm
theorem ok_num {f:Addr}{fd:FuncData} (F:Fun K "_law_numbers" "_law_numbers" sNum f fd) (T:Txt K mg):FnOk P w K mg base CX0 1 f fd ["_law_script","_law_many"] (spNumL K):=by
 refine F.ok scNum (fun vs H Q E h=>?_) (fun cdv A outer s H vs Q E hr h=>?_)
 · obtain ⟨a,ns,many,rfl,_⟩:=h
   rfl
 · obtain ⟨a,ns,many,rfl,hS,hn,hm,k⟩:=h
   refine ⟨_,pss_cons (ps_set (i:=2) scNum.nd rfl (Or.inl rfl) (pe_lst pa_nil))
    (pss_cons (ps_set (i:=3) scNum.nd rfl (Or.inl rfl) pe_int)
    (pss_cons (ps_for PassesOwn.never rfl (pi_list (pe_slice sl_list (pv 0) po_none (po_some pe_int))) (pg_name (i:=4) scNum.nd rfl (Or.inl rfl))
     (pss_cons (ps_set (i:=3) scNum.nd rfl (Or.inl rfl) (pe_op op_mod (pe_op op_add (pe_op op_add (pe_op op_mul (pv 3) pe_int) (pe_op op_mod (pv 4) pe_int)) pe_int) pe_int))
     (pss_cons (ps_set (i:=5) scNum.nd rfl (Or.inl rfl) (pe_op op_sub (pv 4) (pe_op op_pow pe_int pe_int)))
     (pss_cons (ps_if (pt_cmpR op_lt (pv 5) pe_int (nomark _))
      (pss_one (ps_expr (pe_bm PySem.F.plainAttrs_list PySem.F.slot_list_append PySem.F.type_list_append mt_append (pv 2) (pa_cons (pe_op op_mod (pv 4) pe_int) pa_nil)))) pss_nil)
     (pss_one (ps_for PassesOwn.never rfl (pi_range1 rfl T.range (pa_cons pe_int pa_nil)) (pg_name (i:=6) scNum.nd rfl (Or.inl rfl))
      (pss_one (ps_if (pt_cmpR op_gt (pv 5) pe_int (nomark _))
       (pss_cons (ps_expr (pe_bm PySem.F.plainAttrs_list PySem.F.slot_list_append PySem.F.type_list_append mt_append (pv 2) (pa_cons (pe_op op_mod (pv 5) pe_int) pa_nil)))
       (pss_one (ps_set (i:=5) scNum.nd rfl (Or.inl rfl) (pe_op op_fdiv (pv 5) pe_int)))) pss_nil))))))))
    (pss_cons (ps_while PassesOwn.never (pt_cmpR op_lt (pe_callB call_len_seq (by rfl) T.len PySem.boot_len (pa_cons (pv 2) pa_nil)) (pv 1) (nomark _))
     (pss_cons (ps_set (i:=3) scNum.nd rfl (Or.inl rfl) (pe_op op_mod (pe_op op_add (pe_op op_add (pe_op op_add (pe_op op_mul (pv 3) (pv 3)) (pe_op op_mul pe_int (pv 3))) (pe_op op_mul pe_int (pe_callB call_len_seq (by rfl) T.len PySem.boot_len (pa_cons (pv 2) pa_nil)))) pe_int) pe_int))
     (pss_one (ps_expr (pe_bm PySem.F.plainAttrs_list PySem.F.slot_list_append PySem.F.type_list_append mt_append (pv 2) (pa_cons (pe_op op_mod (pe_op op_fdiv (pv 3) pe_int) pe_int) pa_nil))))))
    (pss_one (ps_ret (pe_slice sl_list (pv 2) po_none (po_some (pv 1)))))))),?_⟩
   refine ⟨Nat.zero_le _,fun r hr0=>?_⟩
   refine ⟨_,rfl,_,rfl,a,_,rfl,(Same.refl H).upd hr0 |>.seq hS,fun p hp=>?_⟩
   have nrp:r≠p:=ne_of_none (H:=upd H r (.lst [])) (o:=.lst []) upd_same hp
   have hp0:H p=none:=by rw [upd_ne nrp.symm] at hp;exact hp
   rw [cutV_int]
   have hcl:=cutL_len ns none (some 63)
   generalize cutL ns none (some 63)=cs at hcl ⊢
   refine ⟨p,rfl,⟨_,SqL.of upd_same⟩,for_list (K:=K) (a:=p) (xs:=cs.map V.int) (fun i σ H2=>∃ (ms:List Int) (seed:Int) (c x y:Option V),σ=[some (.ref a),some (.int many),some (.ref r),some (.int seed),c,x,y]∧0≤seed∧seed < 2147483647∧
    ms.length≤61 * i∧Ints H2 r ms∧Ints H2 p cs∧Same H H2)
    ⟨[],17,none,none,none,rfl,by decide,by decide,Nat.zero_le _,((Ints.put (ns:=[])).other nrp),.put,((Same.refl H).upd hr0).upd hp0⟩ (fun i σ H2 _ ⟨_,_,_,_,_,_,_,_,_,_,z,_⟩=>SqL.of z) ?_ ?_⟩
   · rintro i y σ H2 hi ⟨ms,seed,c,x,y',rfl,h0,h1,hl,h2,h3,hs⟩
     obtain ⟨z,rfl,hz⟩:=get_int hi
     have hil:i < cs.length:=(List.getElem?_eq_some_iff.mp hz).1
     refine ⟨_,rfl,_,_,rfl,rfl,.inl ⟨by omega,by omega⟩,_,rfl,_,_,rfl,rfl,(by show (0:Int) < 1000003;decide),_,_,rfl,rfl,_,_,rfl,rfl,_,_,rfl,rfl,(by show (0:Int) < 2147483647;decide),?_⟩
     have g0:=Int.emod_nonneg (seed * 48271+z % 1000003+11) (show (2147483647:Int)≠0 by decide)
     have g1:=Int.emod_lt_of_pos (seed * 48271+z % 1000003+11) (show (0:Int) < 2147483647 by decide)
     refine ⟨_,rfl,_,_,rfl,rfl,⟨by decide,by decide,by decide⟩,_,_,rfl,rfl,?_⟩
     rw [pow18]
     refine ⟨_,rfl,_,_,rfl,rfl,_,rfl,?_⟩
     refine ite_key (fun H2=>∃ ms:List Int,ms.length≤61 * i+1∧Ints H2 r ms∧Ints H2 p cs∧Same H H2) ⟨ms,by omega,h2,h3,hs⟩ (fun H2 hP=>?key) (fun key=>?w1)
     case w1=>
      exact ⟨_,rfl,.inl ⟨rfl,_,SqL.of h2⟩,_,rfl,_,_,rfl,rfl,(by show (0:Int) < 1000;decide),r,_,_,rfl,rfl,h2,small4k (by rw [List.length_map];omega),key _ ⟨ms++[z % 1000],by simp;omega,.snoc,h3.other nrp.symm,hs.upd hr0⟩⟩
     case key=>
      obtain ⟨ms,hl,h2,h3,hs⟩:=hP
      refine ⟨_,rfl,by decide,by decide,for_range (lo:=0) (n:=60) (fun j σ H2=>∃ (ms:List Int) (rest:Int) (y:Option V),σ=[some (.ref a),some (.int many),some (.ref r),some (.int ((seed * 48271+z % 1000003+11) % 2147483647)),some (.int z),some (.int rest),y]∧
       ms.length≤61 * i+1+j∧Ints H2 r ms∧Ints H2 p cs∧Same H H2) ⟨ms,_,_,rfl,by omega,h2,h3,hs⟩ ?_ ?_⟩
      · rintro j σ H3 hj ⟨ms,rest,y,rfl,hl,h2,h3,hs⟩
        refine ⟨_,rfl,_,_,rfl,rfl,_,rfl,?_⟩
        refine ite2 (fun _=>?_) (fun _=>?_)
        · skip
          refine ⟨_,rfl,.inl ⟨rfl,_,SqL.of h2⟩,_,rfl,_,_,rfl,rfl,(by show (0:Int) < 1000;decide),r,_,_,rfl,rfl,h2,small4k (by rw [List.length_map];omega),?_⟩
          refine ⟨_,rfl,_,_,rfl,rfl,⟨by decide,by decide⟩,?_⟩
          exact ⟨ms++[rest % 1000],_,_,rfl,by simp;omega,.snoc,h3.other nrp.symm,hs.upd hr0⟩
        · exact ⟨ms,rest,_,rfl,by omega,h2,h3,hs⟩
      · rintro σ H3 ⟨ms,rest,y,rfl,hl,h2,h3,hs⟩
        exact ⟨ms,_,_,_,_,rfl,g0,g1,by omega,h2,h3,hs⟩
   · rintro σ H2 ⟨ms,seed,c,x,y,rfl,h0,h1,hl,h2,h3,hs⟩
     rw [List.length_map] at hl
     refine while_by (fun σ H2=>∃ (ms:List Int) (seed:Int) (c x y:Option V),σ=[some (.ref a),some (.int many),some (.ref r),some (.int seed),c,x,y]∧0≤seed∧seed < 2147483647∧ms.length≤4000∧Ints H2 r ms∧Same H H2)
      (fun σ H2=>match H2 r with | some (.lst xs)=>1000 - xs.length | _=>0) ⟨ms,seed,c,x,y,rfl,h0,h1,by omega,h2,hs⟩ ?_ ?_
     · rintro σ H2 ⟨ms,seed,c,x,y,rfl,h0,h1,hl,h2,hs⟩
       refine ⟨_,rfl,r,_,rfl,.inl (SqL.of h2),_,rfl,_,_,rfl,rfl,_,rfl,?_⟩
       refine ite2 (fun hlt=>?_) (fun hge=>?_)
       · have hlt:=of_decide_eq_true hlt
         rw [List.length_map] at hlt
         refine ⟨_,rfl,_,rfl,_,_,rfl,rfl,.inl ⟨by omega,by omega⟩,_,rfl,_,_,rfl,rfl,.inl ⟨by decide,by decide⟩,_,_,rfl,rfl,_,rfl,r,_,rfl,.inl (SqL.of h2),_,_,rfl,rfl,.inl ⟨by decide,by decide⟩,_,_,rfl,rfl,_,_,rfl,rfl,_,_,rfl,rfl,
          (by show (0:Int) < 2147483629;decide),?_⟩
         have g0:=Int.emod_nonneg (seed * seed+69621 * seed+7 * ((ms.map V.int).length:Int)+5) (show (2147483629:Int)≠0 by decide)
         have g1:=Int.emod_lt_of_pos (seed * seed+69621 * seed+7 * ((ms.map V.int).length:Int)+5) (show (0:Int) < 2147483629 by decide)
         refine ⟨_,rfl,.inl ⟨rfl,_,SqL.of h2⟩,_,rfl,_,_,rfl,rfl,⟨by decide,by decide⟩,_,_,rfl,rfl,(by show (0:Int) < 1000;decide),r,_,_,rfl,rfl,h2,small4k (by rw [List.length_map];omega),?_⟩
         refine ⟨⟨ms++[_],_,_,_,_,rfl,g0,Int.lt_trans g1 (by decide),by simp;omega,.snoc,hs.upd hr0⟩,?_⟩
         show (match upd H2 r _ r with | some (.lst xs)=>1000 - xs.length | _=>0) < (match H2 r with | some (.lst xs)=>1000 - xs.length | _=>0)
         rw [upd_same,h2]
         simp only [List.length_append,List.length_map,List.length_singleton]
         omega
       · have hge:¬ ((ms.map V.int).length:Int) < (many:Int):=fun z=>hge (decide_eq_true z)
         rw [List.length_map] at hge
         refine ⟨_,rfl,_,rfl,_,rfl,r,_,rfl,SqL.of h2,fun q hq=>?_⟩
         rw [cutV_int,cutL_to]
         exact k q (ms.take many) _ (by rw [List.length_take];omega) trivial (hs.free hq) .put (hs.upd' hq)
     · rintro σ H Q Q' hQ ⟨v,e,p,ys,e',q,v',e'',i,j,e3,e4,b,e5,q5⟩
       exact ⟨v,e,p,ys,e',q,v',e'',i,j,e3,e4,b,e5,hQ _ _ q5⟩
theorem scWay:FnScope ["_law_draws","_law_kinds"] ["_law_draws","_law_kinds"] (defScope sWay):=scm
theorem ok_way {f:Addr}{fd:FuncData} (F:Fun K "_law_way" "_law_way" sWay f fd):FnOk P w K mg base CX0 1 f fd ["_law_draws","_law_kinds"] (spWay K):=by
 refine F.ok scWay (fun vs H Q E h=>?_) (fun cdv A outer s H vs Q E hr h=>?_)
 · obtain ⟨a,ns,k,rfl,_⟩:=h
   rfl
 · obtain ⟨a,ns,k,rfl,hS,hn,h1,h5,q⟩:=h
   refine ⟨_,pss_one (ps_ret (pe_compW ["_law_kinds"] [1] (pi_list (pv 0)) (fun C s H fp=>pe_op op_mul (pe_op op_add (pe_op op_fdiv (pe_op op_mod (pv 0) (pe_op op_mul pe_int (pv 1))) pe_int) pe_int) (pe_op op_sub pe_int (pe_op op_mul pe_int (pe_op op_mod (pv 0) pe_int)))) (fun _ _ h=>h))),?_⟩
   refine ⟨_,rfl,a,rfl,⟨_,hS⟩,comp_intsW (letterOf k) hS (small4k (by omega)) (fun z _ H' Q' q'=>?_) (ls_rd q)⟩
   refine ⟨_,rfl,_,rfl,_,_,rfl,rfl,.inl ⟨by decide,by decide⟩,_,_,rfl,rfl,(by show (0:Int) < 2 * k;omega),_,_,rfl,rfl,⟨by decide,by decide⟩,_,_,rfl,rfl,_,rfl,_,_,rfl,rfl,(by show (0:Int) < 2;decide),_,_,rfl,rfl,.inl ⟨by decide,by decide⟩,_,_,rfl,rfl,_,_,rfl,rfl,.inr ⟨?_,?_⟩,q'⟩
   · have:=Int.emod_lt_of_pos z (show (0:Int) < 2 by decide)
     show -(2 ^ 64) < 1 - 2 * (z % 2)
     omega
   · have:=Int.emod_nonneg z (show (2:Int)≠0 by decide)
     show 1 - 2 * (z % 2) < 2 ^ 64
     omega
theorem scIs:FnScope ["_law_found","_law_one"] ["_law_found"] (defScope sIs):=scm
theorem ok_is {f:Addr}{fd:FuncData} (F:Fun K "_law_is_way" "_law_is_way" sIs f fd) (T:Txt K mg):FnOk P w K mg base CX0 1 f fd ["_law_found"] spIs:=by
 refine F.ok scIs (fun vs H Q E h=>?_) (fun cdv A outer s H vs Q E hr h=>?_)
 · obtain ⟨a,ns,rfl,_⟩:=h
   rfl
 · obtain ⟨a,ns,rfl,hS,k⟩:=h
   refine ⟨_,pss_cons (ps_if (pt_not (pt_val (pe_callB call_isinst (by rfl) T.inst bt_inst (pa_cons (pv 0) (pa_cons (pe_bltn (v:=.ty "list") rfl T.list bt_list rfl) pa_nil))))) (pss_one (ps_ret pe_bl)) pss_nil)
    (pss_cons (ps_for PassesOwn.never rfl (pi_list (pv 0)) (pg_name (i:=1) scIs.nd rfl (Or.inl rfl))
     (pss_one (ps_if (PW.pt (pw_or (pt_not (pt_val (pe_callB call_isinst (by rfl) T.inst bt_inst (pa_cons (pv 1) (pa_cons (pe_bltn (v:=.ty "int") rfl T.int bt_int rfl) pa_nil)))))
      (pw_or1 (pt_val (pe_callB call_isinst (by rfl) T.inst bt_inst (pa_cons (pv 1) (pa_cons (pe_bltn (v:=.ty "bool") rfl T.bool bt_bool rfl) pa_nil))))))) (pss_one (ps_ret pe_bl)) pss_nil)))
    (pss_one (ps_ret pe_bl))),?_⟩
   refine ⟨_,rfl,_,_,_,_,rfl,.lst hS,isList_yes,_,rfl,iteF ?_⟩
   refine ⟨_,rfl,a,rfl,⟨_,SqL.of hS⟩,for_list (K:=K) (a:=a) (xs:=ns.map V.int) (fun i σ H2=>∃ (c:Option V),σ=[some (.ref a),c]∧H2=H) ⟨none,rfl,rfl⟩ (fun i σ H2 _ ⟨_,_,e⟩=>by rw [e];exact SqL.of hS) ?_ ?_⟩
   · rintro i y σ H2 hi ⟨c,rfl,rfl⟩
     obtain ⟨z,rfl,hz⟩:=get_int hi
     refine ⟨_,rfl,_,_,_,_,rfl,.int z,isInt_yes,_,rfl,iteF ?_⟩
     refine ⟨_,rfl,_,_,_,_,rfl,.int z,intBool_no,_,rfl,iteF ?_⟩
     exact ⟨_,rfl,rfl⟩
   · rintro σ H2 ⟨c,rfl,rfl⟩
     exact k
theorem scCut:FnScope ["_law_way_here","_law_kept","_law_one"] ["_law_way_here"] (defScope sCut):=scm
theorem ok_cut {f:Addr}{fd:FuncData} (F:Fun K "_law_cut" "_law_cut" sCut f fd) (T:Txt K mg):FnOk P w K mg base CX0 1 f fd ["_law_way_here"] (spCan K):=by
 refine F.ok scCut (fun vs H Q E h=>?_) (fun cdv A outer s H vs Q E hr h=>?_)
 · obtain ⟨a,ns,rfl,_⟩:=h
   rfl
 · obtain ⟨a,ns,rfl,hS,hn,k⟩:=h
   refine ⟨_,pss_cons (ps_set (i:=1) scCut.nd rfl (Or.inl rfl) (pe_lst pa_nil))
    (pss_cons (ps_for PassesOwn.never rfl (pi_list (pv 0)) (pg_name (i:=2) scCut.nd rfl (Or.inl rfl))
     (pss_one (ps_if (PW.pt (pw_and (pt_cmpR op_gt (pe_callB call_len_seq (by rfl) T.len PySem.boot_len (pa_cons (pv 1) pa_nil)) pe_int (nomark _)) (pw_and1 (pt_cmpR op_eq (pe_ix ix_list (pv 1) (pe_un un_neg pe_int) (fun _ _=>rfl)) (pe_un un_neg (pv 2)) (nomark _)))))
      (pss_one (ps_set (i:=1) scCut.nd rfl (Or.inl rfl) (pe_slice sl_list (pv 1) po_none (po_some (pe_un un_neg pe_int)))))
      (pss_one (ps_set (i:=1) scCut.nd rfl (Or.inl rfl) (pe_op op_cat (pv 1) (pe_lst (pa_cons (pv 2) pa_nil))))))))
    (pss_one (ps_ret (pv 1)))),?_⟩
   refine ⟨Nat.zero_le _,fun r hr0=>?_⟩
   have s0:Same H (upd H r (.lst [])):=(Same.refl H).upd hr0
   refine ⟨_,rfl,a,rfl,⟨_,s0.seq hS⟩,for_list (K:=K) (a:=a) (xs:=ns.map V.int) (fun i σ H2=>∃ (r:Addr) (st:List Int) (c:Option V),σ=[some (.ref a),some (.ref r),c]∧st=(ns.take i).foldl push []∧H r=none∧Ints H2 r st.reverse∧Same H H2)
    ⟨r,[],none,rfl,by simp,hr0,Ints.put (ns:=[]),s0⟩ (fun i σ H2 _ ⟨_,_,_,_,_,_,_,s2⟩=>s2.seq hS) ?_ ?_⟩
   · rintro i y σ H2 hi ⟨r,st,c,rfl,est,hr0,h2,s2⟩
     obtain ⟨z,rfl,hz⟩:=get_int hi
     have hil:i < ns.length:=(List.getElem?_eq_some_iff.mp hz).1
     have hl:=fold_len (ns.take i) []
     rw [← est,List.length_take] at hl
     simp only [List.length_nil] at hl
     have e1:=take_fold hz
     rw [← est] at e1
     refine ⟨_,rfl,r,_,rfl,.inl (SqL.of h2),_,_,rfl,rfl,_,rfl,?_⟩
     cases st with
     | nil=>
      refine iteF ?_
      refine iteF ?_
      refine ⟨_,rfl,_,rfl,(show 1≤sizeLine by decide),fun p hp=>?_⟩
      refine ⟨r,p,_,_,rfl,rfl,(h2.fresh hp),upd_same,by simp;decide,fun q hq=>?_⟩
      have hq2:H2 q=none:=by
       rw [upd_ne (fun e=>by rw [e,upd_same] at hq;cases hq)] at hq
       exact hq
      exact ⟨q,[z],_,rfl,e1.symm,s2.free hq2,upd_same,(s2.upd' hp).upd' hq⟩
     | cons t u=>
      have ne:decide ((0:Int) < ((List.map V.int (t::u).reverse).length:Int))=true:=by simp <;> omega
      rw [ne]
      refine iteT ?_
      refine ⟨_,rfl,_,rfl,r,_,_,_,rfl,rfl,SqL.of h2,(by rw [List.reverse_cons,List.map_append];exact atI_last _ _),_,rfl,_,rfl,rfl,_,rfl,?_⟩
      refine ite2 (fun hc=>?_) (fun hc=>?_)
      · have hc:t= -z:=by simpa using hc
        refine ⟨_,rfl,_,rfl,_,rfl,r,_,rfl,SqL.of h2,fun p hp=>?_⟩
        rw [cutV_int,List.reverse_cons,cutL_init]
        exact ⟨p,u,_,rfl,by rw [e1];simp [push,hc],s2.free hp,.put,s2.upd' hp⟩
      · have hc:¬ t= -z:=by simpa using hc
        refine ⟨_,rfl,_,rfl,(show 1≤sizeLine by decide),fun p hp=>?_⟩
        refine ⟨r,p,_,_,rfl,rfl,(h2.fresh hp),upd_same,(by simp at hl ⊢;exact Nat.le_of_lt (small4k (by omega))),fun q hq=>?_⟩
        have hq2:H2 q=none:=by
         rw [upd_ne (fun e=>by rw [e,upd_same] at hq;cases hq)] at hq
         exact hq
        refine ⟨q,z::t::u,_,rfl,by rw [e1];simp [push,hc],s2.free hq2,?_,(s2.upd' hp).upd' hq⟩
        rw [List.reverse_cons (a:=z)]
        exact .snoc
   · rintro σ H2 ⟨r,st,c,rfl,est,hr0,h2,s2⟩
     refine ⟨_,rfl,k r H2 hr0 ?_ s2⟩
     rw [List.length_map,List.take_of_length_le (Nat.le_refl _)] at est
     rw [est] at h2
     exact h2
theorem scTurn:FnScope ["_law_way_here"] ["_law_way_here"] (defScope sTurn):=scm
theorem ok_turn {f:Addr}{fd:FuncData} (F:Fun K "_law_turn" "_law_turn" sTurn f fd):FnOk P w K mg base CX0 1 f fd ["_law_way_here"] (spTurn K):=by
 refine F.ok scTurn (fun vs H Q E h=>?_) (fun cdv A outer s H vs Q E hr h=>?_)
 · obtain ⟨a,ns,rfl,_⟩:=h
   rfl
 · obtain ⟨a,ns,rfl,hS,hn,k⟩:=h
   refine ⟨_,pss_one (ps_ret (pe_compW (cl:=[]) [] [] (pi_list (pe_rev (pv 0))) (fun C s H fp=>pe_un un_neg (pv 0)) (fun _ _ h=>nomatch h))),?_⟩
   refine ⟨_,rfl,rd_rev hS fun p H1 hp h1 s1=>?_⟩
   refine ⟨p,rfl,⟨_,SqL.of h1⟩,comp_intsW (- ·) (SqL.of h1) (small4k (by simp;omega)) (fun z _ H' Q' q'=>⟨_,rfl,_,rfl,q'⟩) (ls_rd fun D H2 hD h2 s2=>?_)⟩
   exact k D _ (s1.free hD) h2 (s1.trans s2)
theorem sc__law_table:FnScope ["_law_kinds","_law_size","_law_draws","_law_share","_law_table_here","_law_k","_law_left","_law_c","_law_d","_law_end"] ["_law_kinds","_law_size","_law_draws","_law_share"] (defScope s__law_table):=scm
theorem ok_table {f:Addr}{fd:FuncData} (F:Fun K "_law_table" "_law_table" s__law_table f fd) (T:Txt K mg):FnOk P w K mg base CX0 1 f fd ["_law_kinds","_law_size","_law_draws","_law_share"] spTable:=by
 refine F.ok sc__law_table (fun vs H Q E h=>?_) (fun cdv A outer s H vs Q E hr h=>?_)
 · obtain ⟨k,n,ld,ds,sh,rfl,_⟩:=h
   rfl
 · obtain ⟨k,n,ld,ds,sh,rfl,hd,k1,k5,n1,n7,hl,q⟩:=h
   refine ⟨_,(@sC _ _ _ _ _ (ps_compW 4 [] [] sc__law_table.nd (pi_range1 rfl T.range (pa_cons (pv 1) pa_nil)) (fun C s H fp=>pe_lstW pa_nil) hcl_nil)
    (@sC _ _ _ _ _ (ps_for PassesOwn.never rfl (pi_range1 rfl T.range (@aC _ _ _ _ _ (pv 0) pa_nil (by rfl))) (pg_name (i:=5) sc__law_table.nd rfl (Or.inl rfl)) (@sC _ _ _ _ _ (@sS _ 6 _ _ _ _ _ sc__law_table.nd rfl (Or.inl rfl) (pe_callTy (call_listRng rfl) rfl T.list bt_list (pa_cons (pe_rng rfl T.range (@aC _ _ _ _ _ (pv 1) pa_nil (by rfl))) pa_nil)) (by rfl) (.inl rfl))
    (@sO _ _ _ (ps_for PassesOwn.never rfl (pi_range1 rfl T.range (@aC _ _ _ _ _ (pv 1) pa_nil (by rfl))) (pg_name (i:=7) sc__law_table.nd rfl (Or.inl rfl)) (@sC _ _ _ _ _ (@sS _ 8 _ _ _ _ _ sc__law_table.nd rfl (Or.inl rfl) (pe_ix ix_l (pv 2) (pe_op op_add (pe_op op_mul (pv 5) (pv 1)) (pv 7)) (fun _ _=>rfl)) (by rfl) (.inl rfl))
    (@sC _ _ _ _ _ (@sS _ 9 _ _ _ _ _ sc__law_table.nd rfl (Or.inl rfl) (pe_bm PySem.F.plainAttrs_list PySem.F.slot_list_pop PySem.F.type_list_pop mt_popAt (pv 6) (@aC _ _ _ _ _ (pe_op op_mod (pv 8) (pe_callB call_len_seq (by rfl) T.len PySem.boot_len (@aC _ _ _ _ _ (pv 6) pa_nil (by rfl)))) pa_nil (by rfl))) (by rfl) (.inl rfl))
    (@sC _ _ _ _ _ (ps_if (pt_cmpR op_lt (pe_op op_mod (pe_op op_fdiv (pv 8) pe_int) pe_int) (pv 3) (nomark _)) (@sO _ _ _ (@sS _ 9 _ _ _ _ _ sc__law_table.nd rfl (Or.inl rfl) pe_non (by rfl) (.inl rfl))) pss_nil)
    (@sO _ _ _ (ps_expr (pe_bm PySem.F.plainAttrs_list PySem.F.slot_list_append PySem.F.type_list_append mt_append (pe_ix ix_l (pv 4) (pv 7) (fun _ _=>rfl)) (@aC _ _ _ _ _ (pv 9) pa_nil (by rfl))))))))))))
    (@sO _ _ _ (@sR _ _ _ _ (pv 4))))),?_⟩
   refine ⟨_,rfl,_,rfl,by omega,by omega,comp_tab (n:=(n:Int).toNat) (fun _=>[]) (by omega) (fun c hc H2 s2 Q' q'=>rd_lstV (by simp) fun p H3 hp ip s3=>q' p H3 hp ip s3) fun t as H1 N1=>?_⟩
   have T0:TabOk 0 n ((List.range (n:Int).toNat).map fun _=>[]):=by
    have cn:∀ c j,cell ((List.range (n:Int).toNat).map fun _=>[]) c j=none:=fun c j=>by
     unfold cell
     by_cases h:c < n
     · simp [List.getD,h]
     · simp [List.getD,h]
    refine ⟨by simp,fun r hr=>?_,fun c j e he=>?_,fun c d j e he=>?_⟩
    · obtain ⟨_,_,rfl⟩:=List.mem_map.mp hr;rfl
    · rw [cn] at he;cases he
    · rw [cn] at he;cases he
   refine ⟨_,rfl,_,rfl,by omega,by omega,for_range (lo:=0) (n:=(k:Int).toNat) (fun i σ H2=>∃ (T':Tab) (x5 x6 x7 x8 x9:Option V),σ=[some (.int k),some (.int n),some (.ref ld),some (.int sh),some (.ref t),x5,x6,x7,x8,x9]∧NewT H H2 t as T'∧TabOk i n T'∧(sh≤0→∀ r∈T',none∉r))
    ⟨_,none,none,none,none,none,rfl,N1,T0,fun _ r hr=>by obtain ⟨_,_,rfl⟩:=List.mem_map.mp hr;simp⟩ ?_ ?_⟩
   · rintro i σ H2 hi ⟨T',x5,x6,x7,x8,x9,rfl,N2,ok2,fu2⟩
     have hi:i < k:=by omega
     refine ⟨_,rfl,_,rfl,fun r hr0=>rd_range (K:=K) upd_same (by omega) fun lf H3 hlf il s3=>?_⟩
     have s23:Same H2 H3:=((Same.refl H2).upd hr0).trans s3
     have hlf2:H2 lf=none:=by
      have:=hlf
      by_cases z:lf=r
      · rw [z];exact hr0
      · rwa [upd_ne z] at this
     have nlf:lf∉t::as:=N2.not hlf2
     have flf:H lf=none:=N2.sm.free hlf2
     refine ⟨_,rfl,_,rfl,by omega,by omega,for_range (lo:=0) (n:=(n:Int).toNat) (fun c σ H4=>∃ (T4:Tab) (left:List Int) (y7 y8 y9:Option V),σ=[some (.int k),some (.int n),some (.ref ld),some (.int sh),some (.ref t),some (.int (0+i)),some (.ref lf),y7,y8,y9]∧NewT H H4 t as T4∧Ints H4 lf left∧Mid i c n T4 left∧(sh≤0→∀ r∈T4,none∉r))
      ⟨T',lab0 n,_,_,_,rfl,N2.more s23,il,ok2.mid,fu2⟩ ?_ ?_⟩
     · rintro c σ H4 hc ⟨T4,left,y7,y8,y9,rfl,N4,i4,md,fu4⟩
       have hc:c < n:=by omega
       have h4:=N4.sm.ints hd
       have mul:i * n+c < ds.length:=by
        have h5:(i+1) * n≤k * n:=Nat.mul_le_mul_right n hi
        rw [Nat.add_mul] at h5
        omega
       have ll:=md.ll
       have e1:((left.map V.int).length:Int)=((n - c:Nat):Int):=by rw [List.length_map,ll]
       refine ⟨_,rfl,_,rfl,_,rfl,_,_,rfl,rfl,.inl ⟨by omega,by omega⟩,_,rfl,_,_,rfl,rfl,rd_at (i * n+c) h4 mul ?_ (by rw [Int.zero_add,Int.zero_add,Int.natCast_add,Int.natCast_mul])⟩
       generalize ds.getD (i * n+c) 0=d
       have m0:=Int.emod_nonneg d (show ((n - c:Nat):Int)≠0 by omega)
       have m1:=Int.emod_lt_of_pos d (show (0:Int) < ((n - c:Nat):Int) by omega)
       obtain ⟨m,em⟩:∃ m:Nat,d % ((n - c:Nat):Int)=(m:Int):=⟨(d % ((n - c:Nat):Int)).toNat,by omega⟩
       have hm:m < left.length:=by omega
       have ix:ixN (left.map V.int).length (m:Int)=some m:=by
        unfold ixN
        rw [if_pos (by omega),if_pos (by rw [List.length_map];omega)];rfl
       refine ⟨_,rfl,.inl ⟨rfl,_,SqL.of i4⟩,_,rfl,_,rfl,lf,_,rfl,.inl (SqL.of i4),_,_,rfl,rfl,by rw [e1];omega,lf,_,_,m,.int left[m],rfl,rfl,i4,?_,?_,?_,?_,?_⟩
       · rw [e1,em];omega
       · rw [e1,em];have:=(ixN_seq ix).2.2.2;rw [List.length_map] at this;omega
       · rw [e1,em];exact (ixN_seq ix).1
       · simp [hm]
       have il5:Ints (upd H4 lf (.lst ((left.map V.int).eraseIdx m))) lf (left.eraseIdx m):=by
        show upd _ _ _ _=_
        rw [upd_same,map_eraseIdx]
       have N5:NewT H (upd H4 lf (.lst ((left.map V.int).eraseIdx m))) t as T4:=N4.other nlf flf
       generalize upd H4 lf (.lst ((left.map V.int).eraseIdx m))=H5 at il5 N5
       obtain ⟨a,ea,ma,eT,hra⟩:=N5.tb.at (i:=c) (by rw [md.len];exact hc)
       have na:lf≠a:=fun z=>nlf (z▸List.mem_cons_of_mem _ ma)
       have fin:∀ v:Option Int,(v=none∨v=some left[m])→(sh≤0→v≠none)→∀ y8 y9:Option V,∃ (T4':Tab) (left':List Int) (z7 z8 z9:Option V),[some (V.int k),some (V.int n),some (V.ref ld),some (V.int sh),some (V.ref t),some (V.int (0+i)),some (V.ref lf),some (V.int (0+c)),y8,y9]=[some (V.int k),some (V.int n),some (V.ref ld),some (V.int sh),some (V.ref t),some (V.int (0+i)),some (V.ref lf),z7,z8,z9]∧
         NewT H (upd H5 a (.lst ((T4.getD c []).map oV++[oV v]))) t as T4'∧Ints (upd H5 a (.lst ((T4.getD c []).map oV++[oV v]))) lf left'∧Mid i (c+1) n T4' left'∧(sh≤0→∀ r∈T4',none∉r):=fun v hv hv2 y8 y9=>by
        have e:(T4.getD c []).map oV++[oV v]=(T4.getD c []++[v]).map oV:=by rw [List.map_append];rfl
        rw [e]
        refine ⟨_,_,_,_,_,rfl,N5.set ea _,il5.other na,md.step hc hm v hv,fun h r hr=>?_⟩
        rcases List.mem_or_eq_of_mem_set hr with q | q
        · exact fu4 h r q
        · rw [q]
          intro z
          rcases List.mem_append.mp z with z | z
          · exact fu4 h _ (List.mem_of_getElem? eT) z
          · exact hv2 h (List.mem_singleton.mp z).symm
       refine ⟨_,rfl,_,_,rfl,rfl,⟨by decide,by decide⟩,_,_,rfl,rfl,(by show (0:Int) < 10;decide),_,rfl,_,_,rfl,rfl,_,rfl,ite2 (fun hs=>?_) fun hs=>?_⟩
       · refine ⟨_,rfl,_,rfl,rd_row c N5.tb ea ⟨.inl ⟨rfl,_,SqL.of hra⟩,_,rfl,a,_,_,rfl,rfl,hra,small4k ?_,?_⟩ (by omega)⟩
         · have:=md.row c _ eT
           rw [if_neg (by omega)] at this
           rw [List.length_map,this];omega
         · refine fin none (.inl rfl) (fun z=>?_) _ _
           have hs:=of_decide_eq_true hs
           have:=Int.emod_nonneg (d / 100) (show (10:Int)≠0 by decide)
           omega
       · refine ⟨_,rfl,_,rfl,rd_row c N5.tb ea ⟨.inl ⟨rfl,_,SqL.of hra⟩,_,rfl,a,_,_,rfl,rfl,hra,small4k ?_,?_⟩ (by omega)⟩
         · have:=md.row c _ eT
           rw [if_neg (by omega)] at this
           rw [List.length_map,this];omega
         · exact fin (some left[m]) (.inr rfl) (fun _ z=>nomatch z) _ _
     · rintro σ H4 ⟨T4,left,y7,y8,y9,rfl,N4,i4,md,fu4⟩
       rw [Int.toNat_natCast] at md
       exact ⟨_,_,_,_,_,_,rfl,N4,md.done,fu4⟩
   · rintro σ H2 ⟨T',x5,x6,x7,x8,x9,rfl,N2,ok2,fu2⟩
     rw [Int.toNat_natCast] at ok2
     exact ⟨_,rfl,q t as T' H2 N2.ft N2.fa N2.nd N2.tb ok2 fu2 N2.sm⟩
theorem sc__law_led:FnScope ["_law_table_here","_law_here","_law_one","_law_c"] ["_law_table_here","_law_here","_law_one"] (defScope s__law_led):=scm
theorem ok_led {f:Addr}{fd:FuncData} (F:Fun K "_law_led" "_law_led" s__law_led f fd) (T:Txt K mg):FnOk P w K mg base CX0 1 f fd ["_law_table_here","_law_here","_law_one"] spLed:=by
 refine F.ok sc__law_led (fun vs H Q E h=>?_) (fun cdv A outer s H vs Q E hr h=>?_)
 · obtain ⟨t,as,T',k,n,c,l,rfl,_⟩:=h
   rfl
 · obtain ⟨t,as,T',k,n,c,l,rfl,ht,ok,hn,hcn,⟨l0,l1,l2⟩,q⟩:=h
   refine ⟨_,(@sC _ _ _ _ _ (ps_if (pt_cmpR op_gt (pv 2) pe_int (nomark _)) (@sO _ _ _ (@sR _ _ _ _ (pe_ix ix_l (pe_ix ix_l (pv 0) (pv 1) (fun _ _=>rfl)) (pe_op op_sub (pv 2) pe_int) (fun _ _=>rfl)))) pss_nil)
    (@sC _ _ _ _ _ (ps_for PassesOwn.never rfl (pi_range1 rfl T.range (@aC _ _ _ _ _ (pe_callB call_len_seq (by rfl) T.len PySem.boot_len (@aC _ _ _ _ _ (pv 0) pa_nil (by rfl))) pa_nil (by rfl))) (pg_name (i:=3) sc__law_led.nd rfl (Or.inl rfl)) (@sO _ _ _ (ps_if (pt_cmpR op_eq (pe_ix ix_l (pe_ix ix_l (pv 0) (pv 3) (fun _ _=>rfl)) (pe_op op_sub (pe_un un_neg (pv 2)) pe_int) (fun _ _=>rfl)) (pv 1) (nomark _)) (@sO _ _ _ (@sR _ _ _ _ (pv 3))) pss_nil)))
    (@sO _ _ _ (@sR _ _ _ _ pe_non)))),?_⟩
   have rl:∀ {i:Nat}{a:Addr},as[i]?=some a→i < n∧Row H a (T'.getD i [])∧(T'.getD i []).length=k:=fun {i a} ea=>by
    have hi':i < T'.length:=by rw [← ht.len];exact (List.getElem?_eq_some_iff.mp ea).1
    obtain ⟨a',e1,_,e2,hr2⟩:=ht.at hi'
    rw [ea] at e1;cases e1
    exact ⟨by rw [← ok.len];exact hi',hr2,ok.row _ (List.mem_of_getElem? e2)⟩
   refine ⟨_,rfl,_,_,rfl,rfl,_,rfl,ite2 (fun hp=>?_) fun hp=>?_⟩
   · have hp:0 < l:=of_decide_eq_true hp
     obtain ⟨a,ea,_⟩:=ht.at (i:=c) (by rw [ok.len];exact hcn)
     obtain ⟨_,hra,hlen⟩:=rl ea
     refine ⟨_,rfl,_,rfl,rd_row c ht ea ⟨_,rfl,_,_,rfl,rfl,rd_cell (l - 1).toNat hra (by omega) ?_ (by omega)⟩⟩
     unfold sgo at q
     rw [if_pos hp] at q
     exact q
   · have hp:¬ 0 < l:=fun z=>hp (decide_eq_true z)
     unfold sgo at q
     rw [if_neg hp] at q
     have e1:((as.map V.ref).length:Int)=n:=by rw [List.length_map,ht.len,ok.len]
     refine ⟨_,rfl,t,_,rfl,.inl (SqL.of ht.is),_,rfl,by omega,by omega,for_range (lo:=0) (n:=((as.map V.ref).length:Int).toNat) (fun i σ H2=>(∃ x,σ=[some (.ref t),some (.int c),some (.int l),x])∧H2=H∧∀ d:Nat,d < i→cell T' d (-l - 1).toNat≠some (c:Int)) ⟨⟨none,rfl⟩,rfl,fun d hd=>by omega⟩ ?_ ?_⟩
     · rintro i σ H2 hi ⟨⟨x,rfl⟩,rfl,no⟩
       have hi:i < n:=by rw [e1] at hi;omega
       obtain ⟨a,ea,_⟩:=ht.at (i:=i) (by rw [ok.len];exact hi)
       obtain ⟨_,hra,hlen⟩:=rl ea
       refine ⟨_,rfl,_,rfl,rd_row i ht ea ⟨_,rfl,_,rfl,_,_,rfl,rfl,rd_cell (-l - 1).toNat hra (by omega) ⟨_,rfl,?_⟩ (by omega)⟩ (by omega)⟩
       have ce:(T'.getD i []).getD (-l - 1).toNat none=cell T' i (-l - 1).toNat:=rfl
       rw [ce]
       cases ec:cell T' i (-l - 1).toNat with
       | none=>exact ⟨rfl,_,rfl,iteF ⟨⟨_,rfl⟩,rfl,fun d hd=>by
         by_cases z:d=i
         · rw [z,ec];simp
         · exact no d (by omega)⟩⟩
       | some e=>
        refine ⟨rfl,_,rfl,ite2 (fun he=>?_) fun he=>?_⟩
        · have he:e=c:=by simpa [oV] using he
          subst he
          have:=(pre_iff ok).mpr ⟨i,rfl,hi,ec⟩
          rw [this] at q
          refine ⟨_,rfl,?_⟩
          show Q (V.int (0+(i:Int))) H2
          rw [Int.zero_add];exact q
        · have he:e≠c:=by simpa [oV] using he
          exact ⟨⟨_,rfl⟩,rfl,fun d hd=>by
           by_cases z:d=i
           · rw [z,ec];simpa using he
           · exact no d (by omega)⟩
     · rintro σ H2 ⟨⟨x,rfl⟩,rfl,no⟩
       rw [e1,Int.toNat_natCast] at no
       have:pre T' (-l - 1).toNat c=none:=by
        cases e:pre T' (-l - 1).toNat c with
        | none=>rfl
        | some d=>
         obtain ⟨m,_,hm,e2⟩:=(pre_iff ok).mp e
         exact absurd e2 (no m hm)
       rw [this] at q
       exact q
theorem sc__law_trace:FnScope ["_law_table_here","_law_here","_law_way_here","_law_one"] ["_law_table_here","_law_here","_law_way_here"] (defScope s__law_trace):=scm
theorem ok_trc {f:Addr}{fd:FuncData} (F:Fun K "_law_trace" "_law_trace" s__law_trace f fd) (LD:Rdy P w K mg base "_law_led" ["_law_table_here","_law_here","_law_one"] 1 spLed):FnOk P w K mg base CX0 2 f fd ["_law_table_here","_law_here","_law_way_here"] spTrc:=by
 refine F.ok sc__law_trace (fun vs H Q E h=>?_) (fun cdv A outer s H vs Q E hr h=>?_)
 · obtain ⟨t,as,T',k,n,c,wa,ws,rfl,_⟩:=h
   rfl
 · obtain ⟨t,as,T',k,n,c,wa,ws,rfl,ht,ok,hn,hcn,hw,hwl,hl,q⟩:=h
   refine ⟨_,(@sC _ _ _ _ _ (ps_for PassesOwn.never rfl (pi_list (pv 2)) (pg_name (i:=3) sc__law_trace.nd rfl (Or.inl rfl)) (@sO _ _ _ (ps_if (pt_cmpR op_notN (pv 1) pe_non (nomark _)) (@sO _ _ _ (@sS _ 1 _ _ _ _ _ sc__law_trace.nd rfl (Or.inl rfl) (LD.pe hr (@aC _ _ _ _ _ (pv 0) (@aC _ _ _ _ _ (pv 1) (@aC _ _ _ _ _ (pv 3) pa_nil (by rfl)) (by rfl)) (by rfl))) (by rfl) (.inl rfl))) pss_nil)))
    (@sO _ _ _ (@sR _ _ _ _ (pv 1)))),?_⟩
   refine ⟨_,rfl,wa,rfl,⟨_,SqL.of hw⟩,for_list (K:=K) (a:=wa) (xs:=ws.map V.int) (fun i σ H2=>(∃ x,σ=[some (.ref t),some (oV (wgo T' (some (c:Int)) (ws.take i))),some (.ref wa),x])∧H2=H) ⟨⟨none,rfl⟩,rfl⟩ (fun i σ H2 _ ⟨_,e⟩=>by rw [e];exact SqL.of hw) ?_ ?_⟩
   · rintro i x σ H2 hi ⟨⟨y,rfl⟩,rfl⟩
     obtain ⟨l,rfl,el⟩:=get_int hi
     have e2:=wgo_take (T:=T') (o:=some (c:Int)) el
     refine ⟨_,rfl,rfl,_,rfl,?_⟩
     cases ew:wgo T' (some (c:Int)) (ws.take i) with
     | none=>
      rw [ew] at e2
      refine iteF ⟨⟨some (.int l),?_⟩,rfl⟩
      rw [e2];rfl
     | some d=>
      obtain ⟨z0,z1⟩:=wgo_lt ok ⟨by omega,by omega⟩ ew
      obtain ⟨m,rfl⟩:∃ m:Nat,d=(m:Int):=⟨d.toNat,by omega⟩
      rw [ew] at e2
      refine iteT ⟨_,rfl,_,rfl,_,rfl,t,as,T',k,n,m,l,rfl,ht,ok,hn,by omega,hl l (List.mem_of_getElem? el),⟨some (.int l),?_⟩,rfl⟩
      rw [e2];rfl
   · rintro σ H2 ⟨⟨y,rfl⟩,rfl⟩
     rw [List.length_map,List.take_length]
     exact ⟨_,rfl,q⟩
theorem sc__law_round:FnScope ["_law_table_here","_law_kinds","_law_here","_law_draws","_law_way_here","_law_d","_law_some","_law_n","_law_one"] ["_law_table_here","_law_kinds","_law_here","_law_draws"] (defScope s__law_round):=scm
theorem ok_round {f:Addr}{fd:FuncData} (F:Fun K "_law_round" "_law_round" s__law_round f fd) (T:Txt K mg) (LD:Rdy P w K mg base "_law_led" ["_law_table_here","_law_here","_law_one"] 1 spLed):FnOk P w K mg base CX0 2 f fd ["_law_table_here","_law_kinds","_law_here","_law_draws"] spRound:=by
 refine F.ok sc__law_round (fun vs H Q E h=>?_) (fun cdv A outer s H vs Q E hr h=>?_)
 · obtain ⟨t,as,T',k,n,c,da,ds,rfl,_⟩:=h
   rfl
 · obtain ⟨t,as,T',k,n,c,da,ds,rfl,ht,ok,k1,k5,hn,hcn,hd,hdl,q⟩:=h
   refine ⟨_,(@sC _ _ _ _ _ (@sS _ 4 _ _ _ _ _ sc__law_round.nd rfl (Or.inl rfl) (pe_lstW pa_nil) (by rfl) (.inl rfl))
    (@sC _ _ _ _ _ (ps_for PassesOwn.never rfl (pi_list (pv 3)) (pg_name (i:=5) sc__law_round.nd rfl (Or.inl rfl)) (@sC _ _ _ _ _ (@sS _ 6 _ _ _ _ _ sc__law_round.nd rfl (Or.inl rfl) (pe_lstW pa_nil) (by rfl) (.inl rfl))
    (@sC _ _ _ _ _ (ps_for PassesOwn.never rfl (pi_range1 rfl T.range (@aC _ _ _ _ _ (pe_op op_mul pe_int (pv 1)) pa_nil (by rfl))) (pg_name (i:=7) sc__law_round.nd rfl (Or.inl rfl)) (@sC _ _ _ _ _ (@sS _ 8 _ _ _ _ _ sc__law_round.nd rfl (Or.inl rfl) (pe_op op_mul (pe_op op_add (pe_op op_fdiv (pv 7) pe_int) pe_int) (pe_op op_sub pe_int (pe_op op_mul pe_int (pe_op op_mod (pv 7) pe_int)))) (by rfl) (.inl rfl))
    (@sO _ _ _ (ps_if (pt_cmpR op_notN (LD.pe hr (@aC _ _ _ _ _ (pv 0) (@aC _ _ _ _ _ (pv 2) (@aC _ _ _ _ _ (pv 8) pa_nil (by rfl)) (by rfl)) (by rfl))) pe_non (nomark _)) (@sO _ _ _ (ps_expr (pe_bm PySem.F.plainAttrs_list PySem.F.slot_list_append PySem.F.type_list_append mt_append (pv 6) (@aC _ _ _ _ _ (pv 8) pa_nil (by rfl))))) pss_nil))))
    (@sO _ _ _ (ps_if (pt_cmpR op_gt (pe_callB call_len_seq (by rfl) T.len PySem.boot_len (@aC _ _ _ _ _ (pv 6) pa_nil (by rfl))) pe_int (nomark _)) (@sC _ _ _ _ _ (@sS _ 8 _ _ _ _ _ sc__law_round.nd rfl (Or.inl rfl) (pe_ix ix_l (pv 6) (pe_op op_mod (pv 5) (pe_callB call_len_seq (by rfl) T.len PySem.boot_len (@aC _ _ _ _ _ (pv 6) pa_nil (by rfl)))) (fun _ _=>rfl)) (by rfl) (.inl rfl))
    (@sC _ _ _ _ _ (ps_expr (pe_bm PySem.F.plainAttrs_list PySem.F.slot_list_append PySem.F.type_list_append mt_append (pv 4) (@aC _ _ _ _ _ (pv 8) pa_nil (by rfl))))
    (@sO _ _ _ (@sS _ 2 _ _ _ _ _ sc__law_round.nd rfl (Or.inl rfl) (LD.pe hr (@aC _ _ _ _ _ (pv 0) (@aC _ _ _ _ _ (pv 2) (@aC _ _ _ _ _ (pv 8) pa_nil (by rfl)) (by rfl)) (by rfl))) (by rfl) (.inl rfl))))) pss_nil)))))
    (@sO _ _ _ (@sR _ _ _ _ (pe_tup (@aC _ _ _ _ _ (pv 4) (@aC _ _ _ _ _ (pv 2) pa_nil (by rfl)) (by rfl))))))),?_⟩
   refine rd_lstV (by simp) fun lw H1 hlw ilw s1=>?_
   refine ⟨_,rfl,da,rfl,⟨_,SqL.of (s1.ints hd)⟩,for_list (K:=K) (a:=da) (xs:=ds.map V.int) (fun i σ H2=>∃ (ws:List Int) (d:Nat) (x5 x6 x7 x8:Option V),σ=[some (.ref t),some (.int k),some (.int d),some (.ref da),some (.ref lw),x5,x6,x7,x8]∧Ints H2 lw ws∧Same H H2∧(∀ l∈ws,Let k l)∧wgo T' (some (c:Int)) ws=some (d:Int)∧d < n∧ws.length≤i)
    ⟨[],c,none,none,none,none,rfl,ilw,s1,(fun _ z=>nomatch z),rfl,hcn,Nat.zero_le _⟩ (fun i σ H2 _ ⟨_,_,_,_,_,_,_,_,e,_⟩=>SqL.of (e.ints hd)) ?_ ?_⟩
   · rintro i x σ H2 hi ⟨ws,d,x5,x6,x7,x8,rfl,il2,s2,hl,ew,hdn,wl⟩
     obtain ⟨dd,rfl,ed⟩:=get_int hi
     have hin:i < ds.length:=(List.getElem?_eq_some_iff.mp ed).1
     refine rd_lstV (by simp) fun ls H3 hls ils s3=>?_
     have ls0:H ls=none:=s2.free hls
     have nlw:lw≠ls:=fun z=>by rw [← z,il2] at hls;cases hls
     refine ⟨_,rfl,_,_,rfl,rfl,.inl ⟨by omega,by omega⟩,_,rfl,by omega,by omega,for_range (lo:=0) (n:=(2 * (k:Int)).toNat) (fun j σ H6=>∃ (os:List Int) (y7 y8:Option V),σ=[some (.ref t),some (.int k),some (.int d),some (.ref da),some (.ref lw),some (.int dd),some (.ref ls),y7,y8]∧Ints H6 ls os∧Ints H6 lw ws∧Same H H6∧(∀ l∈os,Let k l∧∃ e:Nat,sgo T' d l=some (e:Int)∧e < n)∧os.length≤j)
      ⟨[],_,_,rfl,ils,s3.ints il2,s2.trans s3,(fun _ z=>nomatch z),Nat.zero_le _⟩ ?_ ?_⟩
     · rintro j σ H6 hj ⟨os,y7,y8,rfl,io6,il6,s6,ho,ol⟩
       have hj:j < 2 * k:=by omega
       have lat:=lets_at hj
       generalize hl0:((j:Int) / 2+1) * (1 - 2 * ((j:Int) % 2))=l at lat
       have hl:Let k l:=lets_mem.mp (List.mem_of_getElem? lat)
       have m0:=Int.emod_nonneg (j:Int) (show (2:Int)≠0 by decide)
       have m1:=Int.emod_lt_of_pos (j:Int) (show (0:Int) < 2 by decide)
       have el0:((0+(j:Int)) / 2+1) * (1 - 2 * ((0+(j:Int)) % 2))=l:=by rw [Int.zero_add];exact hl0
       refine ⟨_,rfl,_,_,rfl,rfl,⟨by show (0:Int) < 2;decide,by show (2:Int) < 1073741824;decide⟩,_,_,rfl,rfl,_,rfl,_,_,rfl,rfl,(by show (0:Int) < 2;decide),_,_,rfl,rfl,.inl ⟨by decide,by decide⟩,_,_,rfl,rfl,_,_,rfl,rfl,.inl ⟨by omega,by omega⟩,?_⟩
       show gName 8 (V.int (((0+(j:Int)) / 2+1) * (1 - 2 * ((0+(j:Int)) % 2)))) _ _ _
       rw [el0]
       refine ⟨_,rfl,_,rfl,_,rfl,t,as,T',k,n,d,l,rfl,ht.same s6,ok,hn,hdn,hl,?_⟩
       refine ⟨rfl,_,rfl,?_⟩
       cases e:sgo T' d l with
       | none=>exact iteF ⟨os,_,_,rfl,io6,il6,s6,ho,by omega⟩
       | some z=>
        obtain ⟨z0,z1⟩:=sgo_lt ok e
        obtain ⟨m,rfl⟩:∃ c:Nat,z=(c:Int):=⟨z.toNat,by omega⟩
        refine iteT ⟨_,rfl,.inl ⟨rfl,_,SqL.of io6⟩,_,rfl,ls,_,_,rfl,rfl,io6,small4k (by simp;omega),?_⟩
        refine ⟨os++[l],_,_,rfl,?_,il6.other nlw,s6.upd ls0,fun x hx=>?_,by rw [List.length_append];simp;omega⟩
        · show upd _ ls _ ls=_
          rw [upd_same,List.map_append];rfl
        · rcases List.mem_append.mp hx with y | y
          · exact ho x y
          · rw [List.mem_singleton.mp y];exact ⟨hl,m,e,by omega⟩
     · rintro σ H6 ⟨os,y7,y8,rfl,io6,il6,s6,ho,ol⟩
       refine ⟨_,rfl,ls,_,rfl,.inl (SqL.of io6),_,_,rfl,rfl,_,rfl,?_⟩
       by_cases h0:os.length=0
       · refine iteFe (decide_eq_false (by rw [List.length_map,h0];decide)) ?_
         exact ⟨ws,d,_,_,_,_,rfl,il6,s6,hl,ew,hdn,by omega⟩
       · have p0:(0:Int) < ((os.map V.int).length:Int):=by rw [List.length_map];omega
         refine iteTe (decide_eq_true p0) ?_
         have a0:=Int.emod_nonneg dd (show ((os.map V.int).length:Int)≠0 by omega)
         have a1:=Int.emod_lt_of_pos dd p0
         have a2:(dd % ((os.map V.int).length:Int)).toNat < os.length:=by rw [List.length_map] at a0 a1 ⊢;omega
         refine ⟨_,rfl,_,rfl,_,rfl,ls,_,rfl,.inl (SqL.of io6),_,_,rfl,rfl,p0,rd_at (dd % ((os.map V.int).length:Int)).toNat io6 a2 ?_ (by omega)⟩
         have ml:os.getD (dd % ((os.map V.int).length:Int)).toNat 0∈os:=by rw [List.getD,List.getElem?_eq_getElem a2];exact List.getElem_mem a2
         generalize os.getD (dd % ((os.map V.int).length:Int)).toNat 0=l at ml
         obtain ⟨hll,m,e,hm⟩:=ho l ml
         refine ⟨_,rfl,.inl ⟨rfl,_,SqL.of il6⟩,_,rfl,lw,_,_,rfl,rfl,il6,small4k (by simp;omega),?_⟩
         refine ⟨_,rfl,_,rfl,_,rfl,t,as,T',k,n,d,l,rfl,ht.same (s6.upd hlw),ok,hn,hdn,hll,?_⟩
         rw [e]
         refine ⟨ws++[l],m,_,_,_,_,rfl,?_,s6.upd hlw,fun x hx=>?_,?_,hm,by rw [List.length_append];simp;omega⟩
         · show upd _ lw _ lw=_
           rw [upd_same,List.map_append];rfl
         · rcases List.mem_append.mp hx with y | y
           · exact hl x y
           · rw [List.mem_singleton.mp y];exact hll
         · rw [wgo_snoc,ew];exact e
   · rintro σ H2 ⟨ws,d,x5,x6,x7,x8,rfl,il2,s2,hl,ew,hdn,wl⟩
     rw [List.length_map] at wl
     refine ⟨_,rfl,_,rfl,(show 2≤sizeLine by decide),fun p hp=>?_⟩
     exact q p lw ws d _ (s2.free hp) hlw upd_same (by show upd _ _ _ _=_;rw [upd_ne (ne_of_none il2 hp)];exact il2) hl ew hdn wl (s2.trans ((Same.refl H2).upd hp))
theorem sc__law_paths:FnScope ["_law_table_here","_law_kinds","_law_paths_here","_law_order","_law_k","_law_n","_law_one","_law_end"] ["_law_table_here","_law_kinds"] (defScope s__law_paths):=scm
theorem ok_paths {f:Addr}{fd:FuncData} (F:Fun K "_law_paths" "_law_paths" s__law_paths f fd) (T:Txt K mg) (LD:Rdy P w K mg base "_law_led" ["_law_table_here","_law_here","_law_one"] 1 spLed):FnOk P w K mg base CX0 2 f fd ["_law_table_here","_law_kinds"] spPaths:=by
 refine F.ok sc__law_paths (fun vs H Q E h=>?_) (fun cdv A outer s H vs Q E hr h=>?_)
 · obtain ⟨t,as,T',k,n,rfl,_⟩:=h
   rfl
 · obtain ⟨t,as,T',k,n,rfl,ht,ok,k1,k5,n1,n7,q⟩:=h
   have hu1:=hu_of hr
   refine ⟨_,(@sC _ _ _ _ _ (@sS _ 2 _ _ _ _ _ sc__law_paths.nd rfl (Or.inl rfl) (pe_disp (pps_cons pe_int (pe_lstW pa_nil) pps_nil) rfl rfl (by simp) (by decide)) (by rfl) (.inl rfl))
    (@sC _ _ _ _ _ (@sS _ 3 _ _ _ _ _ sc__law_paths.nd rfl (Or.inl rfl) (@eL _ _ _ _ (@aC _ _ _ _ _ pe_int pa_nil (by rfl))) (by rfl) (.inl rfl))
    (@sC _ _ _ _ _ (@sS _ 4 _ _ _ _ _ sc__law_paths.nd rfl (Or.inl rfl) pe_int (by rfl) (.inl rfl))
    (@sC _ _ _ _ _ (ps_while PassesOwn.never (pt_cmpR op_lt (pv 4) (pe_callB call_len_seq (by rfl) T.len PySem.boot_len (@aC _ _ _ _ _ (pv 3) pa_nil (by rfl))) (nomark _)) (@sC _ _ _ _ _ (ps_for PassesOwn.never rfl (pi_range1 rfl T.range (@aC _ _ _ _ _ (pe_op op_mul pe_int (pv 1)) pa_nil (by rfl))) (pg_name (i:=5) sc__law_paths.nd rfl (Or.inl rfl)) (@sC _ _ _ _ _ (@sS _ 6 _ _ _ _ _ sc__law_paths.nd rfl (Or.inl rfl) (pe_op op_mul (pe_op op_add (pe_op op_fdiv (pv 5) pe_int) pe_int) (pe_op op_sub pe_int (pe_op op_mul pe_int (pe_op op_mod (pv 5) pe_int)))) (by rfl) (.inl rfl))
    (@sC _ _ _ _ _ (@sS _ 7 _ _ _ _ _ sc__law_paths.nd rfl (Or.inl rfl) (LD.pe hr (@aC _ _ _ _ _ (pv 0) (@aC _ _ _ _ _ (pe_ix ix_l (pv 3) (pv 4) (fun _ _=>rfl)) (@aC _ _ _ _ _ (pv 6) pa_nil (by rfl)) (by rfl)) (by rfl))) (by rfl) (.inl rfl))
    (@sO _ _ _ (ps_if (PW.pt (pw_and (pt_cmpR op_notN (pv 7) pe_non (nomark _)) (pw_and1 (pt_cmp (pc_dnotin hu1 (pv 7) (pv 2)) rfl)))) (@sC _ _ _ _ _ (ps_dput hu1 (pv 2) (pv 7) (pe_op op_catW (pe_dget hu1 (pv 2) (pe_ix ix_l (pv 3) (pv 4) (fun _ _=>rfl)) (fun _ _=>rfl)) (@eL _ _ _ _ (@aC _ _ _ _ _ (pv 6) pa_nil (by rfl)))) rfl)
    (@sO _ _ _ (ps_expr (pe_bm PySem.F.plainAttrs_list PySem.F.slot_list_append PySem.F.type_list_append mt_append (pv 3) (@aC _ _ _ _ _ (pv 7) pa_nil (by rfl)))))) pss_nil)))))
    (@sO _ _ _ (ps_aug (i:=4) sc__law_paths.nd rfl (Or.inl rfl) pe_int ip_add))))
    (@sO _ _ _ (ps_retF (pv 2))))))),?_⟩
   refine fun d hd=>rd_lstV (by simp) fun a0 H1 ha0 ia0 s1=>⟨s1 _ _ upd_same,[(.inl ((0:Nat):Int),.ref a0)],rfl,by simp,?_⟩
   have hda:a0≠d:=fun z=>by rw [z,upd_same] at ha0;cases ha0
   have s1':Same H (upd H1 d (.dK (mergeK [] [(.inl ((0:Nat):Int),.ref a0)]))):=(((Same.refl H).upd hd).trans s1).upd hd
   have hd1:upd H1 d (.dK (mergeK [] [(.inl ((0:Nat):Int),.ref a0)])) d=some (.dK (dkv [(0,a0,[])])):=by rw [upd_same];rfl
   have ia1:Ints (upd H1 d (.dK (mergeK [] [(.inl ((0:Nat):Int),.ref a0)]))) a0 []:=by show upd _ _ _ _=_;rw [upd_ne hda];exact ia0
   generalize upd H1 d (.dK (mergeK [] [(.inl ((0:Nat):Int),.ref a0)]))=H2 at s1' hd1 ia1
   refine rd_lst [((0:Nat):Int)] fun lo H3 hlo ilo s3=>?_
   have ws3:WS H H3 d lo [(0,a0,[])]:=by
    refine ⟨⟨s3 _ _ hd1,fun p hp=>?_⟩,ilo,fun p hp=>?_,hd,s1'.free hlo,s1'.trans s3⟩
    · rw [List.mem_singleton.mp hp];exact s3.ints ia1
    · rw [List.mem_singleton.mp hp]
      intro z
      have z:a0=lo:=z
      rw [← z,ia1] at hlo;cases hlo
   refine while_by (fun σ H4=>∃ (W:Wy) (i:Nat) (x5 x6 x7:Option V),σ=[some (.ref t),some (.int k),some (.ref d),some (.ref lo),some (.int i),x5,x6,x7]∧WS H H4 d lo W∧WInv T' k n 0 W∧i≤W.length∧bfsW T' k (n+1 - i) i (era W)=metW T' k n 0)
    (fun σ H4=>match σ with | [_,_,_,_,some (.int i),_,_,_]=>n+1 - i.toNat | _=>0) ⟨_,0,none,none,none,rfl,ws3,WInv.zero (by omega) a0,Nat.zero_le _,rfl⟩ ?_ ?_
   · rintro σ H4 ⟨W,i,x5,x6,x7,rfl,ws,wi,hi,eb⟩
     have wl:W.length≤n:=by
      have:=OInv.len (n:=n) (O:=keys W) ⟨wi.nd,fun c hc=>by obtain ⟨p,hp,rfl⟩:=List.mem_map.mp hc;exact wi.lt p hp⟩
      unfold keys at this;rwa [List.length_map] at this
     have el:((((keys W).map fun (c:Nat)=>(c:Int)).map V.int).length:Int)=W.length:=by simp [keys]
     refine ⟨_,rfl,_,rfl,lo,_,rfl,.inl (SqL.of ws.io),_,_,rfl,rfl,_,rfl,?_⟩
     rw [el]
     refine ite2 (fun hlt=>?_) fun hge=>?_
     · have hlt:(i:Int) < W.length:=of_decide_eq_true hlt
       have hlt:i < W.length:=by omega
       have hlk:i < (era W).length:=by unfold era;rw [List.length_map];exact hlt
       have eW:W[i]?=some W[i]:=by simp [hlt]
       generalize hp:W[i]=p at eW
       have mp:p∈W:=List.mem_of_getElem? eW
       have ek:(era W).getD i (0,[])=(p.1,p.2.2):=by
        have:(era W)[i]?=some (p.1,p.2.2):=by unfold era;rw [List.getElem?_map,eW];rfl
        rw [List.getD,this];rfl
       refine ⟨_,rfl,_,_,rfl,rfl,.inl ⟨by omega,by omega⟩,_,rfl,by omega,by omega,for_range (lo:=0) (n:=(2 * (k:Int)).toNat) (fun j σ H6=>∃ (W6:Wy) (y5 y6 y7:Option V) (r:Wy),σ=[some (.ref t),some (.int k),some (.ref d),some (.ref lo),some (.int i),y5,y6,y7]∧WS H H6 d lo W6∧WInv T' k n 0 W6∧W6=W++r∧era W6=((lets k).take j).foldl (visW T' (p.1,p.2.2)) (era W))
        ⟨W,_,_,_,[],rfl,ws,wi,by simp,rfl⟩ ?_ ?_⟩
       · rintro j σ H6 hj ⟨W6,y5,y6,y7,r,rfl,ws6,wi6,eW6,ek6⟩
         have hj:j < 2 * k:=by omega
         have lat:=lets_at hj
         generalize hl0:((j:Int) / 2+1) * (1 - 2 * ((j:Int) % 2))=l at lat
         have hl:Let k l:=lets_mem.mp (List.mem_of_getElem? lat)
         have m0:=Int.emod_nonneg (j:Int) (show (2:Int)≠0 by decide)
         have m1:=Int.emod_lt_of_pos (j:Int) (show (0:Int) < 2 by decide)
         have el0:((0+(j:Int)) / 2+1) * (1 - 2 * ((0+(j:Int)) % 2))=l:=by rw [Int.zero_add];exact hl0
         have mp6:p∈W6:=by rw [eW6];exact List.mem_append_left _ mp
         have es:((lets k).take (j+1)).foldl (visW T' (p.1,p.2.2)) (era W)=visW T' (p.1,p.2.2) (era W6) l:=by rw [take_fold' lat,ek6]
         have hi6:i < ((keys W6).map fun (c:Nat)=>(c:Int)).length:=by rw [eW6];simp [keys];omega
         have ec:((keys W6).map fun (c:Nat)=>(c:Int)).getD i 0=(p.1:Int):=by
          have:(keys W6)[i]?=some p.1:=by unfold keys;rw [List.getElem?_map,eW6,List.getElem?_append_left hlt,eW];rfl
          rw [List.getD,List.getElem?_map,this];rfl
         refine ⟨_,rfl,_,_,rfl,rfl,⟨by show (0:Int) < 2;decide,by show (2:Int) < 1073741824;decide⟩,_,_,rfl,rfl,_,rfl,_,_,rfl,rfl,(by show (0:Int) < 2;decide),_,_,rfl,rfl,.inl ⟨by decide,by decide⟩,_,_,rfl,rfl,_,_,rfl,rfl,.inl ⟨by omega,by omega⟩,?_⟩
         show gName 6 (V.int (((0+(j:Int)) / 2+1) * (1 - 2 * ((0+(j:Int)) % 2)))) _ _ _
         rw [el0]
         refine ⟨_,rfl,_,rfl,_,rfl,rd_at i ws6.io hi6 ?_⟩
         rw [ec]
         refine ⟨_,rfl,t,as,T',k,n,p.1,l,rfl,ht.same ws6.sm,ok,by omega,wi.lt p mp,hl,?_⟩
         refine ⟨_,rfl,rfl,_,rfl,?_⟩
         cases e:sgo T' p.1 l with
         | none=>
          refine iteF ⟨W6,_,_,_,r,rfl,ws6,wi6,eW6,?_⟩
          rw [es];unfold visW;rw [e]
         | some dd=>
          obtain ⟨z0,z1⟩:=sgo_lt ok e
          obtain ⟨c,rfl⟩:∃ c:Nat,dd=(c:Int):=⟨dd.toNat,by omega⟩
          refine iteT ⟨_,rfl,_,rfl,d,_,rfl,DGet.k (k:=.inl (c:Int)) ws6.dw.is,_,rfl,?_⟩
          have ev:visW T' (p.1,p.2.2) (era W6) l=if c∈keys W6 then era W6 else era W6++[(c,p.2.2++[l])]:=by unfold visW;rw [e,era_keys];rfl
          by_cases hin:c∈keys W6
          · obtain ⟨p2,hp2,e2⟩:=List.mem_map.mp hin
            have v2:=dkv_some wi6.nd hp2
            have e2:p2.1=c:=e2
            rw [e2] at v2
            rw [v2]
            refine iteF ⟨W6,_,_,_,r,rfl,ws6,wi6,eW6,?_⟩
            rw [es,ev,if_pos hin]
          · rw [dkv_none hin]
            have wl6:W6.length≤n:=by
             have:=OInv.len (n:=n) (O:=keys W6) ⟨wi6.nd,fun c hc=>by obtain ⟨p,hp,rfl⟩:=List.mem_map.mp hc;exact wi6.lt p hp⟩
             unfold keys at this;rwa [List.length_map] at this
            have plen:p.2.2.length≤n:=by
             obtain ⟨jj,hjj,ejj⟩:=List.getElem_of_mem mp6
             have:=wi6.ln jj p (by simp [← ejj,hjj])
             omega
            refine iteT ⟨_,rfl,_,rfl,_,rfl,rd_at i ws6.io hi6 ?_⟩
            rw [ec]
            refine ⟨d,_,rfl,(by have:=DGet.k (k:=.inl (p.1:Int)) ws6.dw.is;rw [dkv_some wi6.nd mp6] at this;exact this),_,rfl,rd_lst [l] fun q1 H7 hq1 iq1 s7=>?_⟩
            refine rd_cat (s7.ints (ws6.dw.wy p mp6)) iq1 (by simp;omega) fun a H8 ha ia s8=>?_
            have ws8:=ws6.same (s7.trans s8)
            refine ⟨_,rfl,_,rfl,d,_,rfl,DPut.k (k:=.inl (c:Int)) ws8.dw.is (small4k (by unfold dkv;rw [List.length_map];omega)),?_⟩
            have io8:Ints (upd H8 d (.dK (putK (dkv W6) (.inl (c:Int)) (.ref a)))) lo ((keys W6).map fun (c:Nat)=>(c:Int)):=ws8.io.other ws8.ne.symm
            refine ⟨_,rfl,.inl ⟨rfl,_,SqL.of io8⟩,_,rfl,lo,_,_,rfl,rfl,io8,small4k (by simp [keys];omega),?_⟩
            have ha6:H6 a=none:=s7.free ha
            have wn:=ws6.add (s7.trans s8) ha6 ia hin
            refine ⟨W6++[(c,a,p.2.2++[l])],_,_,_,r++[(c,a,p.2.2++[l])],rfl,wn,wi6.add ok mp6 hl e hin a,by rw [eW6,List.append_assoc],?_⟩
            rw [es,ev,if_neg hin]
            unfold era;rw [List.map_append];rfl
       · rintro σ H6 ⟨W6,y5,y6,y7,r,rfl,ws6,wi6,eW6,ek6⟩
         rw [show (2 * (k:Int)).toNat=(lets k).length by rw [lets_len];omega,List.take_length] at ek6
         refine ⟨_,rfl,_,_,rfl,rfl,⟨W6,i+1,_,_,_,rfl,ws6,wi6,by rw [eW6,List.length_append];omega,?_⟩,?_⟩
         · have e1:n+1 - i=(n+1 - (i+1))+1:=by omega
           rw [e1,bfsW_go hlk] at eb
           rw [ek6]
           unfold rowW at eb
           rw [ek] at eb
           exact eb
         · show n+1 - ((i:Int)+1).toNat < n+1 - (i:Int).toNat
           omega
     · have hge:¬ (i:Int) < W.length:=fun z=>hge (decide_eq_true z)
       have hk:(era W).length≤i:=by unfold era;rw [List.length_map];omega
       rw [bfsW_stop hk] at eb
       refine ⟨_,rfl,d,_,rfl,ws.dw.is,fun o=>q d W _ hd ⟨⟨o,upd_same⟩,fun p hp=>?_⟩ wi eb (ws.sm.upd hd)⟩
       have i1:=ws.dw.wy p hp
       exact i1.other fun y=>by rw [y] at i1;have e:=ws.dw.is;rw [show H4 d=_ from i1] at e;cases e
   · rintro σ H Q Q' hQ ⟨v,e,v',e',p,ys,e'',q,i,j,e3,e4,b,e5,q5⟩
     exact ⟨v,e,v',e',p,ys,e'',q,i,j,e3,e4,b,e5,hQ _ _ q5⟩
theorem scCan:FnScope ["way","left","letter"] ["way"] (defScope sCan):=scm
theorem ok_can {f:Addr}{fd:FuncData} (F:Fun K "cancelled" "cancelled" sCan f fd):FnOk P w K mg base CX0 1 f fd ["way"] (spCan K):=by
 refine F.ok scCan (fun vs H Q E h=>?_) (fun cdv A outer s H vs Q E hr h=>?_)
 · obtain ⟨a,ns,rfl,_⟩:=h
   rfl
 · obtain ⟨a,ns,rfl,hS,hn,k⟩:=h
   refine ⟨_,pss_cons (ps_set (i:=1) scCan.nd rfl (Or.inl rfl) (pe_lst pa_nil))
    (pss_cons (ps_for PassesOwn.never rfl (pi_list (pv 0)) (pg_name (i:=2) scCan.nd rfl (Or.inl rfl))
     (pss_one (ps_if (PW.pt (pw_and (pt_truth (pv 1) (fun _=>rfl)) (pw_and1 (pt_cmpR op_eq (pe_ix ix_list (pv 1) (pe_un un_neg pe_int) (fun _ _=>rfl)) (pe_un un_neg (pv 2)) (nomark _)))))
      (pss_one (ps_expr (pe_bm0 PySem.F.plainAttrs_list PySem.F.slot_list_pop PySem.F.type_list_pop mt_pop (pv 1))))
      (pss_one (ps_expr (pe_bm PySem.F.plainAttrs_list PySem.F.slot_list_append PySem.F.type_list_append mt_append (pv 1) (pa_cons (pv 2) pa_nil)))))))
    (pss_one (ps_ret (pv 1)))),?_⟩
   refine ⟨Nat.zero_le _,fun r hr0=>?_⟩
   have s0:Same H (upd H r (.lst [])):=(Same.refl H).upd hr0
   refine ⟨_,rfl,a,rfl,⟨_,s0.seq hS⟩,for_list (K:=K) (a:=a) (xs:=ns.map V.int) (fun i σ H2=>∃ (st:List Int) (c:Option V),σ=[some (.ref a),some (.ref r),c]∧st=(ns.take i).foldl push []∧Ints H2 r st.reverse∧Same H H2)
    ⟨[],none,rfl,by simp,Ints.put (ns:=[]),s0⟩ (fun i σ H2 _ ⟨_,_,_,_,_,s2⟩=>s2.seq hS) ?_ ?_⟩
   · rintro i y σ H2 hi ⟨st,c,rfl,est,h2,s2⟩
     obtain ⟨z,rfl,hz⟩:=get_int hi
     have hil:i < ns.length:=(List.getElem?_eq_some_iff.mp hz).1
     have hl:=fold_len (ns.take i) []
     rw [← est,List.length_take] at hl
     simp only [List.length_nil] at hl
     have e1:=take_fold hz
     rw [← est] at e1
     refine ⟨_,rfl,_,.inl ⟨_,SqL.of h2,rfl⟩,?_⟩
     cases st with
     | nil=>
      refine iteF ?_
      refine iteF ?_
      refine ⟨_,rfl,.inl ⟨rfl,_,SqL.of h2⟩,_,rfl,r,_,_,rfl,rfl,h2,small4k (by simp),?_⟩
      exact ⟨[z],_,rfl,e1.symm,.snoc,s2.upd hr0⟩
     | cons t q=>
      have ne:(!(List.map V.int (t::q).reverse).isEmpty)=true:=by simp
      rw [ne]
      refine iteT ?_
      refine ⟨_,rfl,_,rfl,r,_,_,_,rfl,rfl,SqL.of h2,(by rw [List.reverse_cons,List.map_append];exact atI_last _ _),_,rfl,_,rfl,rfl,_,rfl,?_⟩
      refine ite2 (fun hc=>?_) (fun hc=>?_)
      · have hc:t= -z:=by simpa using hc
        refine ⟨_,rfl,.inl ⟨rfl,_,SqL.of h2⟩,r,_,V.int t,rfl,rfl,h2,(by simp),?_⟩
        refine ⟨q,_,rfl,by rw [e1];simp [push,hc],?_,s2.upd hr0⟩
        show upd H2 r _ r=_
        rw [upd_same,List.reverse_cons,List.map_append]
        simp
      · have hc:¬ t= -z:=by simpa using hc
        refine ⟨_,rfl,.inl ⟨rfl,_,SqL.of h2⟩,_,rfl,r,_,_,rfl,rfl,h2,small4k (by simp at hl ⊢;omega),?_⟩
        refine ⟨z::t::q,_,rfl,by rw [e1];simp [push,hc],?_,s2.upd hr0⟩
        rw [List.reverse_cons (a:=z)]
        exact .snoc
   · rintro σ H2 ⟨st,c,rfl,est,h2,s2⟩
     refine ⟨_,rfl,k r H2 hr0 ?_ s2⟩
     rw [List.length_map,List.take_of_length_le (Nat.le_refl _)] at est
     rw [est] at h2
     exact h2
theorem scTurned:FnScope ["way"] ["way"] (defScope sTurned):=scm
theorem ok_turned {f:Addr}{fd:FuncData} (F:Fun K "turned" "turned" sTurned f fd):FnOk P w K mg base CX0 1 f fd ["way"] (spTurn K):=by
 refine F.ok scTurned (fun vs H Q E h=>?_) (fun cdv A outer s H vs Q E hr h=>?_)
 · obtain ⟨a,ns,rfl,_⟩:=h
   rfl
 · obtain ⟨a,ns,rfl,hS,hn,k⟩:=h
   refine ⟨_,pss_one (ps_ret (pe_compW (cl:=[]) [] [] (pi_list (pe_rev (pv 0))) (fun C s H fp=>pe_un un_neg (pv 0)) (fun _ _ h=>nomatch h))),?_⟩
   refine ⟨_,rfl,rd_rev hS fun p H1 hp h1 s1=>?_⟩
   refine ⟨p,rfl,⟨_,SqL.of h1⟩,comp_intsW (- ·) (SqL.of h1) (small4k (by simp;omega)) (fun z _ H' Q' q'=>⟨_,rfl,_,rfl,q'⟩) (ls_rd fun D H2 hD h2 s2=>?_)⟩
   exact k D _ (s1.free hD) h2 (s1.trans s2)
theorem sc_check_shape:FnScope ["kinds","table","row"] ["kinds","table"] (defScope s_check_shape):=scm
theorem ok_shape {f C:Addr}{fd:FuncData} (F:Fun K "check_shape" "check_shape" s_check_shape f fd) (T:Txt K mg) (TC:TxtC K mg C):FnOk P w K mg base CX0 1 f fd ["kinds","table"] spShape:=by
 obtain ⟨_,hmk⟩:=TC.mkk
 obtain ⟨_,hmc⟩:=TC.mcc
 refine F.ok sc_check_shape (fun vs H Q E h=>?_) (fun cdv A outer s H vs Q E hr h=>?_)
 · obtain ⟨k,n,t,as,T',rfl,_⟩:=h
   rfl
 · obtain ⟨k,n,t,as,T',rfl,ht,ok,k1,k5,n1,n7,q⟩:=h
   refine ⟨_,(@sC _ _ _ _ _ (ps_if (PW.pt (pw_or (pt_cmpR op_lt (pv 0) pe_int (nomark _)) (pw_or1 (pt_cmpR op_gt (pv 0) (pe_glob (v:=.int 5) rfl hmk ⟨_,rfl⟩) (nomark _))))) (@sO _ _ _ ps_never) pss_nil)
    (@sC _ _ _ _ _ (ps_if (PW.pt (pw_or (pt_cmpR op_lt (pe_callB call_len_seq (by rfl) T.len PySem.boot_len (@aC _ _ _ _ _ (pv 1) pa_nil (by rfl))) pe_int (nomark _)) (pw_or1 (pt_cmpR op_gt (pe_callB call_len_seq (by rfl) T.len PySem.boot_len (@aC _ _ _ _ _ (pv 1) pa_nil (by rfl))) (pe_glob (v:=.int 700) rfl hmc ⟨_,rfl⟩) (nomark _))))) (@sO _ _ _ ps_never) pss_nil)
    (@sO _ _ _ (ps_for PassesOwn.never rfl (pi_list (pv 1)) (pg_name (i:=2) sc_check_shape.nd rfl (Or.inl rfl)) (@sO _ _ _ (ps_if (pt_cmpR op_ne (pe_callB call_len_seq (by rfl) T.len PySem.boot_len (@aC _ _ _ _ _ (pv 2) pa_nil (by rfl))) (pv 0) (nomark _)) (@sO _ _ _ ps_never) pss_nil)))))),?_⟩
   have hl:as.length=n:=by rw [ht.len,ok.len]
   have e1:((as.map V.ref).length:Int)=n:=by rw [List.length_map,hl]
   refine ⟨_,rfl,_,_,rfl,rfl,_,rfl,iteFe (decide_eq_false (by omega)) ⟨_,rfl,_,_,rfl,rfl,_,rfl,iteFe (decide_eq_false (by omega)) ?_⟩⟩
   refine ⟨_,rfl,t,_,rfl,.inl (SqL.of ht.is),_,_,rfl,rfl,_,rfl,iteFe (decide_eq_false (by omega)) ⟨_,rfl,t,_,rfl,.inl (SqL.of ht.is),_,_,rfl,rfl,_,rfl,iteFe (decide_eq_false (by omega)) ?_⟩⟩
   refine ⟨_,rfl,t,rfl,⟨_,SqL.of ht.is⟩,for_list (K:=K) (a:=t) (xs:=as.map V.ref) (fun i σ H2=>(∃ x,σ=[some (.int k),some (.ref t),x])∧H2=H) ⟨⟨none,rfl⟩,rfl⟩ (fun i σ H2 _ ⟨_,e⟩=>by rw [e];exact SqL.of ht.is) ?_ ?_⟩
   · rintro i x σ H2 hi ⟨⟨y,rfl⟩,rfl⟩
     obtain ⟨a,rfl,ea⟩:=get_adr hi
     have hi':i < T'.length:=by rw [← ht.len];exact (List.getElem?_eq_some_iff.mp ea).1
     obtain ⟨a',e1,_,e2,hr2⟩:=ht.at hi'
     rw [ea] at e1;cases e1
     have rl:((T'.getD i []).map oV).length=k:=by rw [List.length_map];exact ok.row _ (List.mem_of_getElem? e2)
     refine ⟨_,rfl,a,_,rfl,.inl (SqL.of hr2),_,rfl,rfl,_,rfl,iteFe ?_ ⟨⟨_,rfl⟩,rfl⟩⟩
     rw [rl];simp
   · rintro σ H2 ⟨⟨y,rfl⟩,rfl⟩
     exact q
theorem sc_beginnings:FnScope ["ends","found","chamber","there"] ["ends"] (defScope s_beginnings):=scm
theorem ok_beg {f:Addr}{fd:FuncData} (F:Fun K "beginnings" "beginnings" s_beginnings f fd) (T:Txt K mg):FnOk P w K mg base CX0 1 f fd ["ends"] spBeg:=by
 refine F.ok sc_beginnings (fun vs H Q E h=>?_) (fun cdv A outer s H vs Q E hr h=>?_)
 · obtain ⟨a,ends,rfl,_⟩:=h
   rfl
 · obtain ⟨a,ends,rfl,ha,ok,hl,q⟩:=h
   refine ⟨_,(@sC _ _ _ _ _ (@sS _ 1 _ _ _ _ _ sc_beginnings.nd rfl (Or.inl rfl) (pe_op op_rep.wr (pe_lstW (pa_cons pe_non pa_nil)) (pe_callB call_len_seq (by rfl) T.len PySem.boot_len (pa_cons (pv 0) pa_nil))) (by rfl) (.inl rfl))
    (@sC _ _ _ _ _ (ps_for PassesOwn.never rfl (pi_enum rfl T.enum bt_enum (@aC _ _ _ _ _ (pv 0) pa_nil (by rfl))) (pg_tup rfl (pgs_cons (pg_name (i:=2) sc_beginnings.nd rfl (Or.inl rfl)) (pgs_cons (pg_name (i:=3) sc_beginnings.nd rfl (Or.inl rfl)) pgs_nil))) (@sC _ _ _ _ _ (ps_if (pt_cmpR op_isN (pv 3) pe_non (nomark _)) (@sO _ _ _ ps_continue) pss_nil)
    (@sC _ _ _ _ _ (ps_if (PW.pt (pw_or (pt_cmpR op_lt (pv 3) pe_int (nomark _)) (pw_or1 (pt_cmpR op_ge (pv 3) (pe_callB call_len_seq (by rfl) T.len PySem.boot_len (@aC _ _ _ _ _ (pv 0) pa_nil (by rfl))) (nomark _))))) (@sO _ _ _ ps_never) pss_nil)
    (@sC _ _ _ _ _ (ps_if (pt_cmpR op_notN (pe_ix ix_l (pv 1) (pv 3) (fun _ _=>rfl)) pe_non (nomark _)) (@sO _ _ _ ps_never) pss_nil)
    (@sO _ _ _ (ps_asg (pv 2) (pg_sub (pv 1) (pv 3) set_list)))))))
    (@sO _ _ _ (@sR _ _ _ _ (pv 1))))),?_⟩
   refine rd_lstV (by simp) fun p H1 hp ip s1=>?_
   have le:((ends.map oV).length:Int)=ends.length:=by rw [List.length_map]
   refine ⟨_,rfl,a,_,rfl,.inl (SqL.of (ha.same s1)),rd_rep (z:=none) ip (by omega) (fun l H2 hl2 il s2=>?_) le⟩
   have s12:=s1.trans s2
   have hla:H l=none:=s1.free hl2
   refine ⟨_,rfl,a,rfl,⟨_,SqL.of (ha.same s12)⟩,for_enum (K:=K) (a:=a) (xs:=ends.map oV) (fun i σ H3=>∃ (fs:List (Option Int)) (x y:Option V),σ=[some (.ref a),some (.ref l),x,y]∧Row H3 l fs∧BegPart i ends fs∧Same H H3)
    ⟨_,none,none,rfl,il,BegPart.zero ends,s12⟩ (fun i σ H3 _ ⟨_,_,_,_,_,_,s3⟩=>SqL.of (ha.same s3)) ?_ ?_⟩
   · rintro i v σ H3 tt hi ht3 ⟨fs,x,y,rfl,il3,bp,s3⟩
     obtain ⟨z,rfl,ez⟩:=get_opt hi
     have hlt:l≠tt:=ne_of_none il3 ht3
     have s4:Same H (upd H3 tt (.tup [.int i,oV z])):=s3.upd' ht3
     have il4:Row (upd H3 tt (.tup [.int i,oV z])) l fs:=by show upd _ _ _ _=_;rw [upd_ne hlt];exact il3
     refine ⟨tt,_,rfl,SqT.of upd_same,rfl,_,_,rfl,_,_,rfl,rfl,?_⟩
     generalize upd H3 tt (.tup [.int i,oV z])=H4 at s4 il4
     have eg:=getD_some (d:=none) ez
     cases z with
     | none=>exact ⟨_,rfl,rfl,_,rfl,iteT ⟨fs,_,_,rfl,il4,bp.skip eg,s4⟩⟩
     | some e=>
      obtain ⟨e0,e1⟩:=ok.1 i e eg
      obtain ⟨m,rfl⟩:∃ m:Nat,e=(m:Int):=⟨e.toNat,by omega⟩
      have fr:=bp.free ok eg
      have hm:m < fs.length:=by rw [bp.len];omega
      refine ⟨_,rfl,rfl,_,rfl,iteF ?_⟩
      refine ⟨_,rfl,_,_,rfl,rfl,_,rfl,iteFe (decide_eq_false (by omega)) ⟨_,rfl,_,rfl,a,_,rfl,.inl (SqL.of (ha.same s4)),_,_,rfl,rfl,_,rfl,iteFe (decide_eq_false (by rw [le];omega)) ?_⟩⟩
      refine ⟨_,rfl,_,rfl,rd_cell m il4 hm ⟨rfl,_,rfl,?_⟩⟩
      rw [fr]
      refine iteF ⟨_,rfl,_,rfl,_,rfl,l,_,m,m,rfl,rfl,il4,?_,?_⟩
      · unfold ixN
        rw [if_pos (by omega),if_pos (by rw [List.length_map];omega)];rfl
      · refine ⟨fs.set m (some (i:Int)),_,_,rfl,?_,bp.put ok eg,s4.upd hla⟩
        show upd _ _ _ _=_
        rw [upd_same,List.map_set];rfl
   · rintro σ H3 ⟨fs,x,y,rfl,il3,bp,s3⟩
     rw [List.length_map] at bp
     exact ⟨_,rfl,q l fs H3 hla il3 bp s3⟩
theorem sc_Chart___init__:FnScope ["self","kinds","table"] ["self","kinds","table"] (defScope s_Chart___init__):=scm
theorem ok_init {f C:Addr}{fd:FuncData} (F:Fun K "__init__" "Chart.__init__" s_Chart___init__ f fd) (T:Txt K mg) (TC:TxtC K mg C) (SH:Rdy P w K mg base "check_shape" ["kinds","table"] 1 spShape) (BG:Rdy P w K mg base "beginnings" ["ends"] 1 spBeg):
  FnOk P w K mg base CX0 2 f fd ["self","kinds","table"] (spInit C):=by
 refine F.ok sc_Chart___init__ (fun vs H Q E h=>?_) (fun cdv A outer s H vs Q E hr h=>?_)
 · obtain ⟨g,dx,k,n,t,as,T',rfl,_⟩:=h
   rfl
 · obtain ⟨g,dx,k,n,t,as,T',rfl,hg,ht,ok,k1,k5,n1,n7,q⟩:=h
   refine ⟨_,(@sC _ _ _ _ _ (ps_expr (SH.pe hr (@aC _ _ _ _ _ (pv 1) (@aC _ _ _ _ _ (pv 2) pa_nil (by rfl)) (by rfl))))
    (@sC _ _ _ _ _ (ps_fld (pv 0) (pv 1) rfl)
    (@sC _ _ _ _ _ (ps_fld (pv 0) (pe_compC ["table"] [2] (pi_range1 rfl T.range (pa_cons (pv 1) pa_nil)) (fun C s H fp=>pe_compW ["place"] [0] (pil K rfl (pv 1)) (fun C2 s2 H2 fp2=>pe_ix (ixl K rfl) (pv 0) (pv 1) (fun _ _=>rfl)) (hcl1 rfl)) (hcl1 rfl)) rfl)
    (@sO _ _ _ (ps_fld (pv 0) (pe_compW [] [] (pi_list (pe_fld (pv 0) rfl)) (fun C s H fp=>BG.pe hr (pa_cons (pv 0) pa_nil)) hcl_nil) rfl))))),?_⟩
   have hT:T'.length≤1000:=by rw [ok.len];omega
   refine ⟨_,rfl,_,rfl,k,n,t,as,T',rfl,ht,ok,k1,k5,n1,n7,?_⟩
   refine ⟨_,rfl,_,rfl,g,C,dx,[],rfl,hg,TC.cl,TC.nk,(by show 0 < 1000;decide),?_⟩
   have ag:∀ a∈t::as,a≠g:=fun a ha z=>by
    subst z
    rcases List.mem_cons.mp ha with e | e
    · subst e;rw [ht.is] at hg;cases hg
    · obtain ⟨i,hi,e⟩:=List.getElem_of_mem e
      have hi2:i < T'.length:=by rw [← ht.len];exact hi
      have:=ht.rw i a T'[i] (by simp [← e,hi]) (by simp [hi2])
      rw [show H a=_ from this] at hg;cases hg
   have ht1:Tb (upd H g (.ins C dx (putF "kinds" (.int k) []))) t as T':=ht.on fun a ha o e=>by rw [upd_ne (ag a ha)];exact e
   have hg1:upd H g (.ins C dx (putF "kinds" (.int k) [])) g=some (.ins C dx (putF "kinds" (.int k) [])):=upd_same
   have k01:Kp g H (upd H g (.ins C dx (putF "kinds" (.int k) []))):=fun c o e nc=>by rw [upd_ne nc];exact e
   have fr1:∀ a,upd H g (.ins C dx (putF "kinds" (.int k) [])) a=none→H a=none:=fun a ha=>by
    by_cases z:a=g
    · rw [z,upd_same] at ha;cases ha
    · rwa [upd_ne z] at ha
   generalize upd H g (.ins C dx (putF "kinds" (.int k) []))=H1 at ht1 hg1 k01 fr1
   refine ⟨_,rfl,_,rfl,by omega,by omega,comp_tab (n:=(k:Int).toNat) (fun j=>col T' j) (by omega) (fun j hj H2 s2 Q' q'=>?_) fun lo os H2 N2=>?_⟩
   · refine ⟨_,rfl,t,rfl,⟨_,SqL.of (ht1.same s2).is⟩,comp_col (j:=j) (ht1.same s2) (by omega) (fun a r hr2 H3 Q3 s3 h3 q3=>?_) fun D hD=>q' D _ hD upd_same ((Same.refl _).upd hD)⟩
     exact ⟨_,rfl,_,rfl,rd_cell j h3 (by rw [ok.row r hr2];omega) q3 (by omega)⟩
   have e2:(List.range (k:Int).toNat).map (fun j=>col T' j)=cols k T':=by rw [Int.toNat_natCast];rfl
   rw [e2] at N2
   have ng:lo≠g:=fun z=>by have:=N2.ft;rw [z,hg1] at this;cases this
   have nos:∀ a∈lo::os,a≠g:=fun a ha z=>by
    rcases List.mem_cons.mp ha with e | e
    · exact ng (e▸z)
    · have:=N2.fa a e;rw [z,hg1] at this;cases this
   refine ⟨_,rfl,g,C,dx,_,rfl,N2.sm _ _ hg1,TC.cl,TC.no,(by show 1 < 1000;decide),?_⟩
   have hg3:upd H2 g (.ins C dx (putF "onward" (.ref lo) (putF "kinds" (.int k) []))) g=some (.ins C dx (putF "onward" (.ref lo) (putF "kinds" (.int k) []))):=upd_same
   have to3:Tb (upd H2 g (.ins C dx (putF "onward" (.ref lo) (putF "kinds" (.int k) [])))) lo os (cols k T'):=N2.tb.on fun a ha o e=>by rw [upd_ne (nos a ha)];exact e
   have k13:Kp g H1 (upd H2 g (.ins C dx (putF "onward" (.ref lo) (putF "kinds" (.int k) [])))):=fun c o e nc=>by rw [upd_ne nc];exact N2.sm _ _ e
   have fr3:∀ a,upd H2 g (.ins C dx (putF "onward" (.ref lo) (putF "kinds" (.int k) []))) a=none→H1 a=none:=fun a ha=>by
    by_cases z:a=g
    · rw [z,upd_same] at ha;cases ha
    · rw [upd_ne z] at ha;exact N2.sm.free ha
   generalize upd H2 g (.ins C dx (putF "onward" (.ref lo) (putF "kinds" (.int k) [])))=H3 at hg3 to3 k13 fr3
   refine ⟨_,rfl,g,C,dx,_,_,rfl,hg3,TC.cl,TC.no,(by rw [lookup_putF,if_pos rfl]),lo,rfl,⟨_,SqL.of to3.is⟩,comp_tabP (xs:=os.map V.ref) (fun i r=>BegOk (col T' i) r) (SqL.of to3.is) (by rw [List.length_map,to3.len,cols_len];omega) (fun i x hi H4 s4 Q' q'=>?_) fun li bs I H4 N4 lI hI=>?_⟩
   · obtain ⟨a,rfl,ea⟩:=get_adr hi
     have hik:i < k:=by
      have:=(List.getElem?_eq_some_iff.mp ea).1
      rw [to3.len,cols_len] at this;exact this
     have hrow:Row H4 a (col T' i):=(to3.rw i a _ ea (cols_at T' hik)).same s4
     exact ⟨_,rfl,a,_,rfl,hrow,ok.ends i,by rw [col_len];omega,fun l fs H5 hl hr5 hb s5=>q' l fs H5 hl hr5 hb s5⟩
   · have ng4:li≠g:=fun z=>by have:=N4.ft;rw [z,hg3] at this;cases this
     have nos4:∀ a∈li::bs,a≠g:=fun a ha z=>by
      rcases List.mem_cons.mp ha with e | e
      · exact ng4 (e▸z)
      · have:=N4.fa a e;rw [z,hg3] at this;cases this
     refine ⟨_,rfl,g,C,dx,_,rfl,N4.sm _ _ hg3,TC.cl,TC.ni,(by show 2 < 1000;decide),?_⟩
     rw [List.length_map,to3.len,cols_len] at lI
     refine q _ (g::((lo::os)++(li::bs))) ⟨ok,k1,k5,n1,n7,dx,lo,li,os,bs,I,rfl,upd_same,?_,?_,lI,fun j hj=>?_⟩ ?_ ?_
     · exact (to3.same N4.sm).on fun a ha o e=>by rw [upd_ne (nos a ha)];exact e
     · exact N4.tb.on fun a ha o e=>by rw [upd_ne (nos4 a ha)];exact e
     · exact hI j _ (by simp [List.getD,lI,hj])
     · intro a ha nag
       rcases List.mem_cons.mp ha with e | e
       · exact absurd e nag
       · rcases List.mem_append.mp e with e | e
         · refine fr1 a ?_
           rcases List.mem_cons.mp e with e | e
           · rw [e];exact N2.ft
           · exact N2.fa a e
         · refine fr1 a (fr3 a ?_)
           rcases List.mem_cons.mp e with e | e
           · rw [e];exact N4.ft
           · exact N4.fa a e
     · intro c o e nc
       rw [upd_ne nc]
       exact N4.sm _ _ (k13 _ _ (k01 _ _ e nc) nc)
theorem sc_Chart_size:FnScope ["self"] ["self"] (defScope s_Chart_size):=scm
theorem ok_size {f C:Addr}{fd:FuncData} (F:Fun K "size" "Chart.size" s_Chart_size f fd) (T:Txt K mg) (TC:TxtC K mg C):FnOk P w K mg base CX0 1 f fd ["self"] (spSize C):=by
 refine F.ok sc_Chart_size (fun vs H Q E h=>?_) (fun cdv A outer s H vs Q E hr h=>?_)
 · obtain ⟨g,k,n,T',fp,rfl,_⟩:=h
   rfl
 · obtain ⟨g,k,n,T',fp,rfl,hc,q⟩:=h
   obtain ⟨dx,lo,li,as,bs,I,rfl,hg,h1,h2,h3,h4⟩:=hc.ob
   refine ⟨_,(@sO _ _ _ (@sR _ _ _ _ (pe_callB call_len_seq (by rfl) T.len PySem.boot_len (@aC _ _ _ _ _ (pe_ix ix_l (pe_fld (pv 0) rfl) pe_int (fun _ _=>rfl)) pa_nil (by rfl))))),?_⟩
   obtain ⟨a,ea,_,e0,hr0⟩:=h1.at (i:=0) (by rw [cols_len];exact hc.k1)
   rw [cols_getD T' hc.k1] at hr0
   refine ⟨_,rfl,g,C,dx,_,_,rfl,hg,TC.cl,TC.no,chf_on ..,rd_row 0 h1 ea ⟨a,_,rfl,.inl (SqL.of hr0),?_⟩⟩
   rw [List.length_map,col_len,hc.ok.len]
   exact q
theorem sc_Chart_table:FnScope ["self"] ["self"] (defScope s_Chart_table):=scm
theorem ok_tabl {f C:Addr}{fd:FuncData} (F:Fun K "table" "Chart.table" s_Chart_table f fd) (T:Txt K mg) (TC:TxtC K mg C) (SZ:Rdm P w K mg base C "size" ["self"] 1 (spSize C)):FnOk P w K mg base CX0 2 f fd ["self"] (spTabl C):=by
 refine F.ok sc_Chart_table (fun vs H Q E h=>?_) (fun cdv A outer s H vs Q E hr h=>?_)
 · obtain ⟨g,k,n,T',fp,rfl,_⟩:=h
   rfl
 · obtain ⟨g,k,n,T',fp,rfl,hc,q⟩:=h
   obtain ⟨dx,lo,li,as,bs,I,rfl,hg,h1,h2,h3,h4⟩:=id hc.ob
   refine ⟨_,(@sO _ _ _ (@sR _ _ _ _ (pe_compC ["self"] [0] (pi_range1 rfl T.range (pa_cons (SZ.pe0 hr (pv 0)) pa_nil)) (fun C s H fp=>pe_compW ["chamber"] [0] (pil K rfl (pfl K rfl (pv 1) rfl)) (fun C2 s2 H2 fp2=>pe_ix (ixl K rfl) (pv 0) (pv 1) (fun _ _=>rfl)) (hcl1 rfl)) (hcl1 rfl)))),?_⟩
   have:=hc.k5
   have:=hc.n7
   refine ⟨_,rfl,g,dx,_,rfl,hg,chf_no ..,g,k,n,T',_,rfl,hc,_,rfl,by omega,by omega,comp_tab (n:=(n:Int).toNat) (fun c=>col (cols k T') c) (by omega) (fun c hc2 H2 s2 Q' q'=>?_) fun D as2 H2 N2=>?_⟩
   · refine ⟨_,rfl,g,C,dx,_,_,rfl,s2 _ _ hg,TC.cl,TC.no,chf_on ..,lo,rfl,⟨_,SqL.of (h1.same s2).is⟩,comp_col (j:=c) (h1.same s2) (by rw [cols_len];omega) (fun a r hr2 H3 Q3 s3 h3 q3=>?_) fun D hD=>q' D _ hD upd_same ((Same.refl _).upd hD)⟩
     obtain ⟨j,_,rfl⟩:=List.mem_map.mp hr2
     exact ⟨_,rfl,_,rfl,rd_cell c h3 (by rw [col_len,hc.ok.len];omega) q3 (by omega)⟩
   · have e:(List.range (n:Int).toNat).map (fun c=>col (cols k T') c)=T':=by
       rw [Int.toNat_natCast]
       exact cols_back hc.ok
     rw [e] at N2
     exact q D as2 H2 N2.ft N2.fa N2.nd N2.tb N2.sm
theorem sc_Chart_check_chamber:FnScope ["self","chamber"] ["self","chamber"] (defScope s_Chart_check_chamber):=scm
theorem ok_ckc {f C:Addr}{fd:FuncData} (F:Fun K "check_chamber" "Chart.check_chamber" s_Chart_check_chamber f fd) (SZ:Rdm P w K mg base C "size" ["self"] 1 (spSize C)):FnOk P w K mg base CX0 2 f fd ["self","chamber"] (spCkC C):=by
 refine F.ok sc_Chart_check_chamber (fun vs H Q E h=>?_) (fun cdv A outer s H vs Q E hr h=>?_)
 · obtain ⟨g,k,n,T',fp,c,rfl,_⟩:=h
   rfl
 · obtain ⟨g,k,n,T',fp,c,rfl,hc,hcn,q⟩:=h
   obtain ⟨dx,lo,li,as,bs,I,rfl,hg,_⟩:=id hc.ob
   refine ⟨_,(@sO _ _ _ (ps_if (PW.pt (pw_or (pt_cmpR op_lt (pv 1) pe_int (nomark _)) (pw_or1 (pt_cmpR op_ge (pv 1) (SZ.pe0 hr (pv 0)) (nomark _))))) (@sO _ _ _ ps_never) pss_nil)),?_⟩
   exact ⟨_,rfl,_,_,rfl,rfl,_,rfl,iteFe (decide_eq_false (by omega)) ⟨_,rfl,_,rfl,g,dx,_,rfl,hg,chf_no ..,g,k,n,T',_,rfl,hc,_,_,rfl,rfl,_,rfl,iteFe (decide_eq_false (by omega)) q⟩⟩
theorem sc_check_letters:FnScope ["kinds","way","letter"] ["kinds","way"] (defScope s_check_letters):=scm
theorem ok_ckl {f:Addr}{fd:FuncData} (F:Fun K "check_letters" "check_letters" s_check_letters f fd) (T:Txt K mg):FnOk P w K mg base CX0 1 f fd ["kinds","way"] spCkL:=by
 refine F.ok sc_check_letters (fun vs H Q E h=>?_) (fun cdv A outer s H vs Q E hr h=>?_)
 · obtain ⟨k,wa,ws,rfl,_⟩:=h
   rfl
 · obtain ⟨k,wa,ws,rfl,hw,hl,q⟩:=h
   refine ⟨_,(@sO _ _ _ (ps_for PassesOwn.never rfl (pi_list (pv 1)) (pg_name (i:=2) sc_check_letters.nd rfl (Or.inl rfl)) (@sO _ _ _ (ps_if (PW.pt (pw_or (pt_cmpR op_eq (pv 2) pe_int (nomark _)) (pw_or1 (pt_cmpR op_gt (pe_callB call_abs (by rfl) T.abs bt_abs (@aC _ _ _ _ _ (pv 2) pa_nil (by rfl))) (pv 0) (nomark _))))) (@sO _ _ _ ps_never) pss_nil)))),?_⟩
   refine ⟨_,rfl,wa,rfl,⟨_,SqL.of hw⟩,for_list (K:=K) (a:=wa) (xs:=ws.map V.int) (fun i σ H2=>(∃ x,σ=[some (.int k),some (.ref wa),x])∧H2=H) ⟨⟨none,rfl⟩,rfl⟩ (fun i σ H2 _ ⟨_,e⟩=>by rw [e];exact SqL.of hw) ?_ ?_⟩
   · rintro i x σ H2 hi ⟨⟨y,rfl⟩,rfl⟩
     obtain ⟨l,rfl,el⟩:=get_int hi
     obtain ⟨l0,l1,l2⟩:=hl l (List.mem_of_getElem? el)
     refine ⟨_,rfl,rfl,_,rfl,iteFe (decide_eq_false (fun z=>l0 (V.int.inj z))) ⟨_,rfl,_,rfl,_,rfl,_,_,rfl,rfl,_,rfl,iteFe (decide_eq_false ?_) ⟨⟨_,rfl⟩,rfl⟩⟩⟩
     split <;> omega
   · rintro σ H2 ⟨⟨y,rfl⟩,rfl⟩
     exact q
theorem sc_Chart_step:FnScope ["self","chamber","letter"] ["self","chamber","letter"] (defScope s_Chart_step):=scm
theorem ok_step {f C:Addr}{fd:FuncData} (F:Fun K "step" "Chart.step" s_Chart_step f fd) (TC:TxtC K mg C) (CC:Rdm P w K mg base C "check_chamber" ["self","chamber"] 2 (spCkC C)) (CL:Rdy P w K mg base "check_letters" ["kinds","way"] 1 spCkL):
  FnOk P w K mg base CX0 3 f fd ["self","chamber","letter"] (spStep C):=by
 refine F.ok sc_Chart_step (fun vs H Q E h=>?_) (fun cdv A outer s H vs Q E hr h=>?_)
 · obtain ⟨g,k,n,T',fp,c,l,rfl,_⟩:=h
   rfl
 · obtain ⟨g,k,n,T',fp,c,l,rfl,hc,hcn,hl,q⟩:=h
   obtain ⟨dx,lo,li,as,bs,I,rfl,hg,h1,h2,h3,h4⟩:=id hc.ob
   have ⟨l0,l1,l2⟩:=hl
   refine ⟨_,(@sC _ _ _ _ _ (ps_expr (CC.pe hr (pv 0) (@aC _ _ _ _ _ (pv 1) pa_nil (by rfl))))
    (@sC _ _ _ _ _ (ps_expr (CL.pe hr (@aC _ _ _ _ _ (pe_fld (pv 0) rfl) (@aC _ _ _ _ _ (@eL _ _ _ _ (@aC _ _ _ _ _ (pv 2) pa_nil (by rfl))) pa_nil (by rfl)) (by rfl))))
    (@sC _ _ _ _ _ (ps_if (pt_cmpR op_gt (pv 2) pe_int (nomark _)) (@sO _ _ _ (@sR _ _ _ _ (pe_ix ix_l (pe_ix ix_l (pe_fld (pv 0) rfl) (pe_op op_sub (pv 2) pe_int) (fun _ _=>rfl)) (pv 1) (fun _ _=>rfl)))) pss_nil)
    (@sO _ _ _ (@sR _ _ _ _ (pe_ix ix_l (pe_ix ix_l (pe_fld (pv 0) rfl) (pe_op op_sub (pe_un un_neg (pv 2)) pe_int) (fun _ _=>rfl)) (pv 1) (fun _ _=>rfl))))))),?_⟩
   refine ⟨_,rfl,g,dx,_,rfl,hg,chf_no ..,_,rfl,g,k,n,T',_,c,rfl,hc,hcn,?_⟩
   refine ⟨_,rfl,g,C,dx,_,_,rfl,hg,TC.cl,TC.nk,chf_k ..,_,rfl,rd_lst [l] fun la H1 hla ila s1=>⟨k,la,[l],rfl,ila,(fun x hx=>by rw [List.mem_singleton.mp hx];exact hl),?_⟩⟩
   have q:=q H1 s1
   have hc:=hc.same s1
   obtain ⟨dx,lo,li,as,bs,I,efp,hg,h1,h2,h3,h4⟩:=id hc.ob
   refine ⟨_,rfl,_,_,rfl,rfl,_,rfl,ite2 (fun hp=>?_) fun hp=>?_⟩
   · have hp:0 < l:=of_decide_eq_true hp
     have hj:(l - 1).toNat < k:=by omega
     obtain ⟨a,ea,_,e0,hra⟩:=h1.at (i:=(l - 1).toNat) (by rw [cols_len];exact hj)
     rw [cols_getD T' hj] at hra
     refine ⟨_,rfl,g,C,dx,_,_,rfl,hg,TC.cl,TC.no,chf_on ..,_,rfl,_,_,rfl,rfl,rd_row (l - 1).toNat h1 ea ⟨_,rfl,rd_cell c hra (by rw [col_len,hc.ok.len];exact hcn) ?_⟩ (by omega)⟩
     unfold sgo at q
     rw [if_pos hp] at q
     rw [col_getD];exact q
   · have hp:¬ 0 < l:=fun z=>hp (decide_eq_true z)
     have hj:(-l - 1).toNat < k:=by omega
     obtain ⟨a,ea,_,e0,hra⟩:=h2.at (i:=(-l - 1).toNat) (by rw [h3];exact hj)
     have bg:=h4 _ hj
     refine ⟨_,rfl,g,C,dx,_,_,rfl,hg,TC.cl,TC.ni,chf_in ..,_,rfl,_,rfl,_,_,rfl,rfl,rd_row (-l - 1).toNat h2 ea ⟨_,rfl,rd_cell c hra (by rw [bg.len,col_len,hc.ok.len];exact hcn) ?_⟩ (by omega)⟩
     unfold sgo at q
     rw [if_neg hp] at q
     rw [beg_pre hc.ok bg];exact q
theorem sc_Chart_trace:FnScope ["self","chamber","way","here","letter"] ["self","chamber","way"] (defScope s_Chart_trace):=scm
theorem ok_trace {f C:Addr}{fd:FuncData} (F:Fun K "trace" "Chart.trace" s_Chart_trace f fd) (CC:Rdm P w K mg base C "check_chamber" ["self","chamber"] 2 (spCkC C)) (TC:TxtC K mg C) (CL:Rdy P w K mg base "check_letters" ["kinds","way"] 1 spCkL)
  (SE:Rdm P w K mg base C "step" ["self","chamber","letter"] 3 (spStep C)) (CAN:Rdy P w K mg base "cancelled" ["way"] 1 (spCan K)):
  FnOk P w K mg base CX0 4 f fd ["self","chamber","way"] (spTrace C):=by
 refine F.ok sc_Chart_trace (fun vs H Q E h=>?_) (fun cdv A outer s H vs Q E hr h=>?_)
 · obtain ⟨g,k,n,T',fp,c,wa,ws,rfl,_⟩:=h
   rfl
 · obtain ⟨g,k,n,T',fp,c,wa,ws,rfl,hc,hcn,hw,hwl,hl,q⟩:=h
   obtain ⟨dx,lo,li,as,bs,I,rfl,hg,h1,h2,h3,h4⟩:=id hc.ob
   refine ⟨_,(@sC _ _ _ _ _ (ps_expr (CC.pe hr (pv 0) (@aC _ _ _ _ _ (pv 1) pa_nil (by rfl))))
    (@sC _ _ _ _ _ (ps_expr (CL.pe hr (@aC _ _ _ _ _ (pe_fld (pv 0) rfl) (@aC _ _ _ _ _ (pv 2) pa_nil (by rfl)) (by rfl))))
    (@sC _ _ _ _ _ (@sS _ 3 _ _ _ _ _ sc_Chart_trace.nd rfl (Or.inl rfl) (pv 1) (by rfl) (.inl rfl))
    (@sC _ _ _ _ _ (ps_for PassesOwn.never rfl (pi_list (CAN.pe hr (@aC _ _ _ _ _ (pv 2) pa_nil (by rfl)))) (pg_name (i:=4) sc_Chart_trace.nd rfl (Or.inl rfl)) (@sC _ _ _ _ _ (@sS _ 3 _ _ _ _ _ sc_Chart_trace.nd rfl (Or.inl rfl) (SE.pe hr (pv 0) (@aC _ _ _ _ _ (pv 3) (@aC _ _ _ _ _ (pv 4) pa_nil (by rfl)) (by rfl))) (by rfl) (.inl rfl))
    (@sO _ _ _ (ps_if (pt_cmpR op_isN (pv 3) pe_non (nomark _)) (@sO _ _ _ (@sR _ _ _ _ pe_non)) pss_nil))))
    (@sO _ _ _ (@sR _ _ _ _ (pv 3))))))),?_⟩
   refine ⟨_,rfl,g,dx,_,rfl,hg,chf_no ..,_,rfl,g,k,n,T',_,c,rfl,hc,hcn,?_⟩
   refine ⟨_,rfl,g,C,dx,_,_,rfl,hg,TC.cl,TC.nk,chf_k ..,_,rfl,k,wa,ws,rfl,hw,hl,?_⟩
   refine ⟨_,rfl,?_⟩
   refine ⟨_,rfl,wa,ws,rfl,SqL.of hw,hwl,fun cu H3 hcu icu s3=>?_⟩
   have hc3:=hc.same s3
   have hg3:=s3 _ _ hg
   refine ⟨cu,rfl,⟨_,SqL.of icu⟩,for_list (K:=K) (a:=cu) (xs:=(cut ws).map V.int) (fun i σ H4=>(∃ (x:Option V) (d:Nat),σ=[some (.ref g),some (.int c),some (.ref wa),some (.int d),x]∧d < n∧wgo T' (some (c:Int)) ((cut ws).take i)=some (d:Int))∧Same H3 H4) ⟨⟨_,c,rfl,hcn,rfl⟩,Same.refl _⟩ (fun i σ H4 _ ⟨_,e⟩=>SqL.of (e.ints icu)) ?_ ?_⟩
   · rintro i x σ H4 hi ⟨⟨y,d,rfl,hd,ew⟩,s4⟩
     obtain ⟨l,rfl,el⟩:=get_int hi
     have hl2:Let k l:=cut_all hl l (List.mem_of_getElem? el)
     have e2:=wgo_take (T:=T') (o:=some (c:Int)) el
     rw [ew] at e2
     have e2:wgo T' (some (c:Int)) ((cut ws).take (i+1))=sgo T' d l:=e2
     refine ⟨_,rfl,g,dx,_,rfl,s4 _ _ hg3,chf_no ..,_,rfl,_,rfl,g,k,n,T',_,d,l,rfl,hc3.same s4,hd,hl2,fun H5 s5=>?_⟩
     refine ⟨_,rfl,rfl,_,rfl,?_⟩
     cases es:sgo T' d l with
     | none=>
      refine iteT ?_
      rw [es] at e2
      have:=q H5 (s3.trans (s4.trans s5))
      rw [wgo_stop (i+1) e2] at this
      exact this
     | some e=>
      obtain ⟨z0,z1⟩:=sgo_lt hc.ok es
      obtain ⟨m,rfl⟩:∃ m:Nat,e=(m:Int):=⟨e.toNat,by omega⟩
      exact iteF ⟨⟨_,m,rfl,by omega,by rw [e2,es]⟩,s4.trans s5⟩
   · rintro σ H4 ⟨⟨y,d,rfl,hd,ew⟩,s4⟩
     rw [List.length_map,List.take_length] at ew
     have:=q H4 (s3.trans s4)
     rw [ew] at this
     exact ⟨_,rfl,this⟩
theorem sc__law_ways_right:FnScope ["_law_found","_law_way_here"] ["_law_found"] (defScope s__law_ways_right):=scm
theorem ok_wr {f:Addr}{fd:FuncData} (F:Fun K "_law_ways_right" "_law_ways_right" s__law_ways_right f fd) (T:Txt K mg) (IW:Rdy P w K mg base "_law_is_way" ["_law_found"] 1 spIs) (CU:Rdy P w K mg base "_law_cut" ["_law_way_here"] 1 (spCan K)):FnOk P w K mg base CX0 2 f fd ["_law_found"] spWR:=by
 refine F.ok sc__law_ways_right (fun vs H Q E h=>?_) (fun cdv A outer s H vs Q E hr h=>?_)
 · obtain ⟨l,ps,rfl,_⟩:=h
   rfl
 · obtain ⟨l,ps,rfl,il,hp,q⟩:=h
   have hu:=hr.units
   refine ⟨_,(@sC _ _ _ _ _ (ps_if (pt_not (pt_val (pe_callB call_isinst (by rfl) T.inst bt_inst (@aC _ _ _ _ _ (pv 0) (@aC _ _ _ _ _ (pe_bltn (v:=.ty "list") rfl T.list bt_list rfl) pa_nil (by rfl)) (by rfl))))) (@sO _ _ _ (@sR _ _ _ _ pe_bl)) pss_nil)
    (@sC _ _ _ _ _ (ps_for PassesOwn.never rfl (pi_list (pv 0)) (pg_name (i:=1) sc__law_ways_right.nd rfl (Or.inl rfl)) (@sO _ _ _ (ps_if (PW.pt (pw_or (pt_not (pt_val (IW.pe hr (@aC _ _ _ _ _ (pv 1) pa_nil (by rfl))))) (pw_or (pt_cmpR (op_eqIs hu) (pv 1) (pe_lstW pa_nil) (nomark _)) (pw_or1 (pt_cmpR (op_neIs hu) (pv 1) (CU.pe hr (@aC _ _ _ _ _ (pv 1) pa_nil (by rfl))) (nomark _)))))) (@sO _ _ _ (@sR _ _ _ _ pe_bl)) pss_nil)))
    (@sO _ _ _ (@sR _ _ _ _ pe_bl)))),?_⟩
   refine ⟨_,rfl,_,_,_,_,rfl,.lst il.is,isList_yes,_,rfl,iteF ?_⟩
   refine ⟨_,rfl,l,rfl,⟨_,SqL.of il.is⟩,for_list (K:=K) (a:=l) (xs:=ps.map fun p=>V.ref p.1) (fun i σ H2=>(∃ x,σ=[some (.ref l),x])∧Same H H2) ⟨⟨none,rfl⟩,Same.refl H⟩ (fun i σ H2 _ ⟨_,s2⟩=>SqL.of (s2 _ _ il.is)) ?_ ?_⟩
   · rintro i x σ H2 hi ⟨⟨y,rfl⟩,s2⟩
     obtain ⟨p,rfl,ep⟩:=get_ref hi
     have mp:=List.mem_of_getElem? ep
     obtain ⟨h1,h2,h3⟩:=hp p mp
     have ip:=s2.ints (il.iv p mp)
     refine ⟨_,rfl,p.1,p.2,rfl,ip,_,rfl,iteF ⟨_,rfl,rd_lst [] fun l3 H3 hl3 il3 s3=>?_⟩⟩
     refine rd_eq (s3.ints ip) il3 ⟨_,rfl,iteFe (decide_eq_false h2) ?_⟩
     refine ⟨_,rfl,_,rfl,p.1,p.2,rfl,SqL.of (s3.ints ip),by omega,fun l4 H4 hl4 il4 s4=>?_⟩
     have s34:=s3.trans s4
     refine rd_nsame (s34.ints ip) il4 h1.symm ⟨_,rfl,iteF ⟨⟨_,rfl⟩,s2.trans s34⟩⟩
   · rintro σ H2 ⟨⟨y,rfl⟩,s2⟩
     exact q _ s2
theorem sc_letters_in_order:FnScope ["chart"] ["chart"] (defScope s_letters_in_order):=scm
theorem ok_lio {f C:Addr}{fd:FuncData} (F:Fun K "letters_in_order" "letters_in_order" s_letters_in_order f fd) (T:Txt K mg) (TC:TxtC K mg C):FnOk P w K mg base CX0 1 f fd ["chart"] (spLio C):=by
 refine F.ok sc_letters_in_order (fun vs H Q E h=>?_) (fun cdv A outer s H vs Q E hr h=>?_)
 · obtain ⟨g,k,n,T',fp,rfl,_⟩:=h
   rfl
 · obtain ⟨g,k,n,T',fp,rfl,hc,q⟩:=h
   obtain ⟨dx,lo,li,as,bs,I,rfl,hg,h1,h2,h3,h4⟩:=id hc.ob
   have k5:=hc.k5
   refine ⟨_,(@sO _ _ _ (@sR _ _ _ _ (pe_comp2 [] [] (pi_range2 rfl T.range (pa_cons pe_int (pa_cons (pe_op op_add (pe_fld (pv 0) rfl) pe_int) pa_nil))) (fun C s H fp=>pit K rfl (pe_tup (pa_cons (pv 0) (pa_cons (pe_un un_neg (pv 0)) pa_nil)))) (fun C s H fp=>pv 1) hcl_nil))),?_⟩
   refine ⟨_,rfl,g,C,dx,_,_,rfl,hg,TC.cl,TC.nk,chf_k ..,_,_,rfl,rfl,_,_,rfl,⟨by omega,by omega⟩,comp2_pair (fun i=>[1+(i:Int), -(1+(i:Int))]) (by omega) (fun _=>rfl) (fun i hi y0 H2 Q' q'=>⟨_,rfl,_,rfl,_,rfl,q'⟩) fun D H' hD hD2 s2=>q D H' hD ?_ s2⟩
   have e:((k:Int)+1 - 1).toNat=k:=by omega
   rw [e] at hD2
   exact hD2
theorem sc_ways_from:FnScope ["chart","base","ways","order","at","chamber","letter","there"] ["chart","base"] (defScope s_ways_from):=scm
theorem ok_ways {f C:Addr}{fd:FuncData} (F:Fun K "ways_from" "ways_from" s_ways_from f fd) (T:Txt K mg) (LI:Rdy P w K mg base "letters_in_order" ["chart"] 1 (spLio C)) (SE:Rdm P w K mg base C "step" ["self","chamber","letter"] 3 (spStep C)):
  FnOk P w K mg base CX0 4 f fd ["chart","base"] (spWays C):=by
 refine F.ok sc_ways_from (fun vs H Q E h=>?_) (fun cdv A outer s H vs Q E hr h=>?_)
 · obtain ⟨g,k,n,T',fp,b,rfl,_⟩:=h
   rfl
 · obtain ⟨g,k,n,T',fp,b,rfl,hc,hb,q⟩:=h
   obtain ⟨dx,lo,li,as,bs,I,rfl,hg,_⟩:=id hc.ob
   have hu1:=hu_of hr
   have k5:=hc.k5
   have n7:=hc.n7
   refine ⟨_,(@sC _ _ _ _ _ (@sS _ 2 _ _ _ _ _ sc_ways_from.nd rfl (Or.inl rfl) (pe_disp (pps_cons (pv 1) (pe_lstW pa_nil) pps_nil) rfl rfl (by simp) (by decide)) (by rfl) (.inl rfl))
    (@sC _ _ _ _ _ (@sS _ 3 _ _ _ _ _ sc_ways_from.nd rfl (Or.inl rfl) (@eL _ _ _ _ (@aC _ _ _ _ _ (pv 1) pa_nil (by rfl))) (by rfl) (.inl rfl))
    (@sC _ _ _ _ _ (@sS _ 4 _ _ _ _ _ sc_ways_from.nd rfl (Or.inl rfl) pe_int (by rfl) (.inl rfl))
    (@sC _ _ _ _ _ (ps_while PassesOwn.never (pt_cmpR op_lt (pv 4) (pe_callB call_len_seq (by rfl) T.len PySem.boot_len (@aC _ _ _ _ _ (pv 3) pa_nil (by rfl))) (nomark _)) (@sC _ _ _ _ _ (@sS _ 5 _ _ _ _ _ sc_ways_from.nd rfl (Or.inl rfl) (pe_ix ix_l (pv 3) (pv 4) (fun _ _=>rfl)) (by rfl) (.inl rfl))
    (@sC _ _ _ _ _ (ps_for PassesOwn.never rfl (pi_list (LI.pe hr (@aC _ _ _ _ _ (pv 0) pa_nil (by rfl)))) (pg_name (i:=6) sc_ways_from.nd rfl (Or.inl rfl)) (@sC _ _ _ _ _ (@sS _ 7 _ _ _ _ _ sc_ways_from.nd rfl (Or.inl rfl) (SE.pe hr (pv 0) (@aC _ _ _ _ _ (pv 5) (@aC _ _ _ _ _ (pv 6) pa_nil (by rfl)) (by rfl))) (by rfl) (.inl rfl))
    (@sO _ _ _ (ps_if (PW.pt (pw_and (pt_cmpR op_notN (pv 7) pe_non (nomark _)) (pw_and1 (pt_cmp (pc_dnotin hu1 (pv 7) (pv 2)) rfl)))) (@sC _ _ _ _ _ (ps_dput hu1 (pv 2) (pv 7) (pe_op op_catW (pe_dget hu1 (pv 2) (pv 5) (fun _ _=>rfl)) (@eL _ _ _ _ (@aC _ _ _ _ _ (pv 6) pa_nil (by rfl)))) rfl)
    (@sO _ _ _ (ps_expr (pe_bm PySem.F.plainAttrs_list PySem.F.slot_list_append PySem.F.type_list_append mt_append (pv 3) (@aC _ _ _ _ _ (pv 7) pa_nil (by rfl)))))) pss_nil))))
    (@sO _ _ _ (ps_aug (i:=4) sc_ways_from.nd rfl (Or.inl rfl) pe_int ip_add)))))
    (@sO _ _ _ (ps_retF (pv 2))))))),?_⟩
   refine fun d hd=>⟨_,rfl,rd_lstV (by simp) fun a0 H1 ha0 ia0 s1=>⟨s1 _ _ upd_same,[(.inl (b:Int),.ref a0)],rfl,by simp,?_⟩⟩
   have hda:a0≠d:=fun z=>by rw [z,upd_same] at ha0;cases ha0
   have s1':Same H (upd H1 d (.dK (mergeK [] [(.inl (b:Int),.ref a0)]))):=(((Same.refl H).upd hd).trans s1).upd hd
   have hd1:upd H1 d (.dK (mergeK [] [(.inl (b:Int),.ref a0)])) d=some (.dK (dkv [(b,a0,[])])):=by rw [upd_same];rfl
   have ia1:Ints (upd H1 d (.dK (mergeK [] [(.inl (b:Int),.ref a0)]))) a0 []:=by show upd _ _ _ _=_;rw [upd_ne hda];exact ia0
   generalize upd H1 d (.dK (mergeK [] [(.inl (b:Int),.ref a0)]))=H2 at s1' hd1 ia1
   refine ⟨_,rfl,rd_lst [(b:Int)] fun lo H3 hlo ilo s3=>?_⟩
   have ws3:WS H H3 d lo [(b,a0,[])]:=by
    refine ⟨⟨s3 _ _ hd1,fun p hp=>?_⟩,ilo,fun p hp=>?_,hd,s1'.free hlo,s1'.trans s3⟩
    · rw [List.mem_singleton.mp hp];exact s3.ints ia1
    · rw [List.mem_singleton.mp hp]
      intro z
      have z:a0=lo:=z
      rw [← z,ia1] at hlo;cases hlo
   refine while_by (fun σ H4=>∃ (W:Wy) (i:Nat) (x5 x6 x7:Option V),σ=[some (.ref g),some (.int b),some (.ref d),some (.ref lo),some (.int i),x5,x6,x7]∧WS H H4 d lo W∧WInv T' k n b W∧i≤W.length∧bfsW T' k (n+1 - i) i (era W)=metW T' k n b)
    (fun σ H4=>match σ with | [_,_,_,_,some (.int i),_,_,_]=>n+1 - i.toNat | _=>0) ⟨_,0,none,none,none,rfl,ws3,WInv.zero hb a0,Nat.zero_le _,rfl⟩ ?_ ?_
   · rintro σ H4 ⟨W,i,x5,x6,x7,rfl,ws,wi,hi,eb⟩
     have wl:W.length≤n:=by
      have:=OInv.len (n:=n) (O:=keys W) ⟨wi.nd,fun c hc=>by obtain ⟨p,hp,rfl⟩:=List.mem_map.mp hc;exact wi.lt p hp⟩
      unfold keys at this;rwa [List.length_map] at this
     have el:((((keys W).map fun (c:Nat)=>(c:Int)).map V.int).length:Int)=W.length:=by simp [keys]
     refine ⟨_,rfl,_,rfl,lo,_,rfl,.inl (SqL.of ws.io),_,_,rfl,rfl,_,rfl,?_⟩
     rw [el]
     refine ite2 (fun hlt=>?_) fun hge=>?_
     · have hlt:(i:Int) < W.length:=of_decide_eq_true hlt
       have hlt:i < W.length:=by omega
       have hlk:i < (era W).length:=by unfold era;rw [List.length_map];exact hlt
       have eW:W[i]?=some W[i]:=by simp [hlt]
       generalize hp:W[i]=p at eW
       have mp:p∈W:=List.mem_of_getElem? eW
       have ec:((keys W).map fun (c:Nat)=>(c:Int)).getD i 0=(p.1:Int):=by
        have:(keys W)[i]?=some p.1:=by unfold keys;rw [List.getElem?_map,eW];rfl
        rw [List.getD,List.getElem?_map,this];rfl
       have ek:(era W).getD i (0,[])=(p.1,p.2.2):=by
        have:(era W)[i]?=some (p.1,p.2.2):=by unfold era;rw [List.getElem?_map,eW];rfl
        rw [List.getD,this];rfl
       refine ⟨_,rfl,_,rfl,rd_at i ws.io (by simp [keys];exact hlt) ?_⟩
       rw [ec]
       refine ⟨_,rfl,g,k,n,T',_,rfl,hc.same ws.sm,fun ll H5 hll ill s5=>?_⟩
       have ws5:=ws.same s5
       refine ⟨ll,rfl,⟨_,SqL.of ill⟩,for_list (K:=K) (a:=ll) (xs:=(lets k).map V.int) (fun j σ H6=>∃ (W6:Wy) (y6 y7:Option V) (r:Wy),σ=[some (.ref g),some (.int b),some (.ref d),some (.ref lo),some (.int i),some (.int p.1),y6,y7]∧WS H H6 d lo W6∧WInv T' k n b W6∧W6=W++r∧Ints H6 ll (lets k)∧ll≠lo∧era W6=((lets k).take j).foldl (visW T' (p.1,p.2.2)) (era W))
        ⟨W,_,_,[],rfl,ws5,wi,by simp,ill,(fun z=>by rw [z,ws.io] at hll;cases hll),rfl⟩ (fun j σ H6 _ ⟨_,_,_,_,_,_,_,_,e,_⟩=>SqL.of e) ?_ ?_⟩
       · rintro j x σ H6 hj ⟨W6,y6,y7,r,rfl,ws6,wi6,eW6,il6,nll,ek6⟩
         obtain ⟨l,rfl,el6⟩:=get_int hj
         have hl:Let k l:=lets_mem.mp (List.mem_of_getElem? el6)
         have mp6:p∈W6:=by rw [eW6];exact List.mem_append_left _ mp
         have es:((lets k).take (j+1)).foldl (visW T' (p.1,p.2.2)) (era W)=visW T' (p.1,p.2.2) (era W6) l:=by rw [take_fold' el6,ek6]
         refine ⟨_,rfl,g,dx,_,rfl,ws6.sm _ _ hg,chf_no ..,_,rfl,_,rfl,g,k,n,T',_,p.1,l,rfl,hc.same ws6.sm,wi.lt p mp,hl,fun H6' s6'=>?_⟩
         replace ws6:=ws6.same s6'
         replace il6:=s6'.ints il6
         refine ⟨_,rfl,rfl,_,rfl,?_⟩
         cases e:sgo T' p.1 l with
         | none=>
          refine iteF ⟨W6,_,_,r,rfl,ws6,wi6,eW6,il6,nll,?_⟩
          rw [es];unfold visW;rw [e]
         | some dd=>
          obtain ⟨z0,z1⟩:=sgo_lt hc.ok e
          obtain ⟨c,rfl⟩:∃ c:Nat,dd=(c:Int):=⟨dd.toNat,by omega⟩
          refine iteT ⟨_,rfl,_,rfl,d,_,rfl,DGet.k (k:=.inl (c:Int)) ws6.dw.is,_,rfl,?_⟩
          have ev:visW T' (p.1,p.2.2) (era W6) l=if c∈keys W6 then era W6 else era W6++[(c,p.2.2++[l])]:=by unfold visW;rw [e,era_keys];rfl
          by_cases hin:c∈keys W6
          · obtain ⟨p2,hp2,e2⟩:=List.mem_map.mp hin
            have v2:=dkv_some wi6.nd hp2
            have e2:p2.1=c:=e2
            rw [e2] at v2
            rw [v2]
            refine iteF ⟨W6,_,_,r,rfl,ws6,wi6,eW6,il6,nll,?_⟩
            rw [es,ev,if_pos hin]
          · rw [dkv_none hin]
            have wl6:W6.length≤n:=by
             have:=OInv.len (n:=n) (O:=keys W6) ⟨wi6.nd,fun c hc=>by obtain ⟨p,hp,rfl⟩:=List.mem_map.mp hc;exact wi6.lt p hp⟩
             unfold keys at this;rwa [List.length_map] at this
            have plen:p.2.2.length≤n:=by
             obtain ⟨jj,hjj,ejj⟩:=List.getElem_of_mem mp6
             have:=wi6.ln jj p (by simp [← ejj,hjj])
             omega
            refine iteT ⟨_,rfl,_,rfl,d,_,rfl,(by have:=DGet.k (k:=.inl (p.1:Int)) ws6.dw.is;rw [dkv_some wi6.nd mp6] at this;exact this),_,rfl,rd_lst [l] fun q1 H7 hq1 iq1 s7=>?_⟩
            refine rd_cat (s7.ints (ws6.dw.wy p mp6)) iq1 (by simp;omega) fun a H8 ha ia s8=>?_
            have ws8:=ws6.same (s7.trans s8)
            refine ⟨_,rfl,_,rfl,d,_,rfl,DPut.k (k:=.inl (c:Int)) ws8.dw.is (small4k (by unfold dkv;rw [List.length_map];omega)),?_⟩
            have io8:Ints (upd H8 d (.dK (putK (dkv W6) (.inl (c:Int)) (.ref a)))) lo ((keys W6).map fun (c:Nat)=>(c:Int)):=ws8.io.other ws8.ne.symm
            refine ⟨_,rfl,.inl ⟨rfl,_,SqL.of io8⟩,_,rfl,lo,_,_,rfl,rfl,io8,small4k (by simp [keys];omega),?_⟩
            have ha6:H6' a=none:=s7.free ha
            have wn:=ws6.add (s7.trans s8) ha6 ia hin
            have hll8:Ints (upd H8 d (.dK (putK (dkv W6) (.inl (c:Int)) (.ref a)))) ll (lets k):=((s7.trans s8).ints il6).other fun z=>by
             have:=ws8.dw.is;rw [← z,show H8 ll=_ from (s7.trans s8).ints il6] at this;cases this
            refine ⟨W6++[(c,a,p.2.2++[l])],_,_,r++[(c,a,p.2.2++[l])],rfl,wn,wi6.add hc.ok mp6 hl e hin a,by rw [eW6,List.append_assoc],hll8.other nll,nll,?_⟩
            rw [es,ev,if_neg hin]
            unfold era;rw [List.map_append];rfl
       · rintro σ H6 ⟨W6,y6,y7,r,rfl,ws6,wi6,eW6,il6,nll,ek6⟩
         rw [List.length_map,List.take_length] at ek6
         refine ⟨_,rfl,_,_,rfl,rfl,⟨W6,i+1,_,_,_,rfl,ws6,wi6,by rw [eW6,List.length_append];omega,?_⟩,?_⟩
         · have e1:n+1 - i=(n+1 - (i+1))+1:=by omega
           rw [e1,bfsW_go hlk] at eb
           rw [ek6]
           unfold rowW at eb
           rw [ek] at eb
           exact eb
         · show n+1 - ((i:Int)+1).toNat < n+1 - (i:Int).toNat
           omega
     · have hge:¬ (i:Int) < W.length:=fun z=>hge (decide_eq_true z)
       have hk:(era W).length≤i:=by unfold era;rw [List.length_map];omega
       rw [bfsW_stop hk] at eb
       refine ⟨_,rfl,d,_,rfl,ws.dw.is,fun o=>q d W _ hd ⟨⟨o,upd_same⟩,fun p hp=>?_⟩ wi eb (ws.sm.upd hd)⟩
       have i1:=ws.dw.wy p hp
       exact i1.other fun y=>by rw [y] at i1;have e:=ws.dw.is;rw [show H4 d=_ from i1] at e;cases e
   · rintro σ H Q Q' hQ ⟨v,e,v',e',p,ys,e'',q,i,j,e3,e4,b,e5,q5⟩
     exact ⟨v,e,v',e',p,ys,e'',q,i,j,e3,e4,b,e5,hQ _ _ q5⟩
theorem sc_is_used:FnScope ["ways","chamber","kind","there"] ["ways","chamber","kind","there"] (defScope s_is_used):=scm
theorem ok_used {f:Addr}{fd:FuncData} (F:Fun K "is_used" "is_used" s_is_used f fd):FnOk P w K mg base CX0 1 f fd ["ways","chamber","kind","there"] spUsed:=by
 refine F.ok sc_is_used (fun vs H Q E h=>?_) (fun cdv A outer s H vs Q E hr h=>?_)
 · obtain ⟨d,W,c,e,κ,rfl,_⟩:=h
   rfl
 · obtain ⟨d,W,c,e,κ,rfl,fw,nd,hc,he,hl,q⟩:=h
   have hu:=hr.units
   have hu1:=hu_of hr
   obtain ⟨a,ga,ia⟩:=fw.get nd hc
   obtain ⟨b,gb,ib⟩:=fw.get nd he
   have la:∀ x,(way (era W) x).length≤1000:=fun x=>by
    unfold way
    cases z:(era W).find? (fun p=>p.1 == x) with
    | none=>simp
    | some p=>
     obtain ⟨p',hp',rfl⟩:=List.mem_map.mp (List.mem_of_find?_eq_some z)
     exact hl p' hp'
   refine ⟨_,(@sO _ _ _ (@sR _ _ _ _ (pe_or (pe_cmpR (op_eqIs hu) (pe_dget hu1 (pv 0) (pv 3) (fun _ _=>rfl)) (pe_op op_catW (pe_dget hu1 (pv 0) (pv 1) (fun _ _=>rfl)) (@eL _ _ _ _ (@aC _ _ _ _ _ (pv 2) pa_nil (by rfl)))) (nomark _)) (pe_one (pe_cmpR (op_eqIs hu) (pe_dget hu1 (pv 0) (pv 1) (fun _ _=>rfl)) (pe_op op_catW (pe_dget hu1 (pv 0) (pv 3) (fun _ _=>rfl)) (@eL _ _ _ _ (@aC _ _ _ _ _ (pe_un un_neg (pv 2)) pa_nil (by rfl)))) (nomark _)))))),?_⟩
   refine ⟨_,rfl,_,rfl,d,_,rfl,gb,_,rfl,_,rfl,d,_,rfl,ga,_,rfl,rd_lst [κ] fun p1 H1 hp1 ip1 s1=>?_⟩
   refine rd_cat (s1.ints ia) ip1 (by have:=la c;simp;omega) fun p2 H2 hp2 ip2 s2=>?_
   have s12:=s1.trans s2
   refine rd_eq (s12.ints ib) ip2 ?_
   unfold used at q
   by_cases z:way (era W) e=way (era W) c++[κ]
   · rw [decide_eq_true z] at q ⊢
     exact ⟨_,rfl,iteT (q _ s12)⟩
   · rw [decide_eq_false z] at q ⊢
     have fw2:=fw.same s12
     obtain ⟨a2,ga2,ia2⟩:=fw2.get nd hc
     obtain ⟨b2,gb2,ib2⟩:=fw2.get nd he
     refine ⟨_,rfl,iteF ⟨_,rfl,_,rfl,d,_,rfl,ga2,_,rfl,_,rfl,d,_,rfl,gb2,_,rfl,_,rfl,rd_lst [-κ] fun p3 H3 hp3 ip3 s3=>?_⟩⟩
     refine rd_cat (s3.ints ib2) ip3 (by have:=la e;simp;omega) fun p4 H4 hp4 ip4 s4=>?_
     exact rd_eq ((s3.trans s4).ints ia2) ip4 (q _ (s12.trans (s3.trans s4)))
theorem sc_loose_passages:FnScope ["chart","ways","table","found","chamber","place","there"] ["chart","ways"] (defScope s_loose_passages):=scm
theorem ok_loose {f C:Addr}{fd:FuncData} (F:Fun K "loose_passages" "loose_passages" s_loose_passages f fd) (T:Txt K mg) (TB:Rdm P w K mg base C "table" ["self"] 2 (spTabl C)) (IU:Rdy P w K mg base "is_used" ["ways","chamber","kind","there"] 1 spUsed):
  FnOk P w K mg base CX0 3 f fd ["chart","ways"] (spLoose C):=by
 refine F.ok sc_loose_passages (fun vs H Q E h=>?_) (fun cdv A outer s H vs Q E hr h=>?_)
 · obtain ⟨g,d,k,n,T',fp,W,rfl,_⟩:=h
   rfl
 · obtain ⟨g,d,k,n,T',fp,W,rfl,hc,fw,wi,eW,q⟩:=h
   obtain ⟨dx,lo,li,as0,bs,I,rfl,hg,_⟩:=id hc.ob
   have k5:=hc.k5
   have n7:=hc.n7
   have wl:W.length≤n:=by
    have:=OInv.len (n:=n) (O:=keys W) ⟨wi.nd,fun c hc=>by obtain ⟨p,hp,rfl⟩:=List.mem_map.mp hc;exact wi.lt p hp⟩
    unfold keys at this;rwa [List.length_map] at this
   have ek:keys W=met T' k n 0:=by rw [← era_keys,eW,metW_map]
   have cl:=(met_inv hc.ok (k:=k) (base:=0) hc.n1).2.2
   rw [← ek] at cl
   rw [← eW, ← ek] at q
   refine ⟨_,(@sC _ _ _ _ _ (@sS _ 2 _ _ _ _ _ sc_loose_passages.nd rfl (Or.inl rfl) (TB.pe0 hr (pv 0)) (by rfl) (.inl rfl))
    (@sC _ _ _ _ _ (@sS _ 3 _ _ _ _ _ sc_loose_passages.nd rfl (Or.inl rfl) (pe_lstW pa_nil) (by rfl) (.inl rfl))
    (@sC _ _ _ _ _ (ps_for PassesOwn.never rfl (pi_dict (pv 1)) (pg_name (i:=4) sc_loose_passages.nd rfl (Or.inl rfl)) (@sO _ _ _ (ps_for PassesOwn.never rfl (pi_enum rfl T.enum bt_enum (@aC _ _ _ _ _ (pe_ix ix_l (pv 2) (pv 4) (fun _ _=>rfl)) pa_nil (by rfl))) (pg_tup rfl (pgs_cons (pg_name (i:=5) sc_loose_passages.nd rfl (Or.inl rfl)) (pgs_cons (pg_name (i:=6) sc_loose_passages.nd rfl (Or.inl rfl)) pgs_nil))) (@sO _ _ _ (ps_if (PW.pt (pw_and (pt_cmpR op_notN (pv 6) pe_non (nomark _)) (pw_and1 (pt_not (pt_val (IU.pe hr (@aC _ _ _ _ _ (pv 1) (@aC _ _ _ _ _ (pv 4) (@aC _ _ _ _ _ (pe_op op_add (pv 5) pe_int) (@aC _ _ _ _ _ (pv 6) pa_nil (by rfl)) (by rfl)) (by rfl)) (by rfl)))))))) (@sO _ _ _ (ps_expr (pe_bm PySem.F.plainAttrs_list PySem.F.slot_list_append PySem.F.type_list_append mt_append (pv 3) (@aC _ _ _ _ _ (pe_tup (@aC _ _ _ _ _ (pv 4) (@aC _ _ _ _ _ (pe_op op_add (pv 5) pe_int) (@aC _ _ _ _ _ (pv 6) pa_nil (by rfl)) (by rfl)) (by rfl))) pa_nil (by rfl))))) pss_nil)))))
    (@sO _ _ _ (@sR _ _ _ _ (pv 3)))))),?_⟩
   refine ⟨_,rfl,g,dx,_,rfl,hg,chf_no ..,g,k,n,T',_,rfl,hc,fun t as H1 ft fa nd tb s1=>?_⟩
   refine rd_lstV (by simp) fun l H2 hl il s2=>?_
   have s12:=s1.trans s2
   have fl:H l=none:=s1.free hl
   obtain ⟨o,eo⟩:=fw.is
   have lle:∀ i,(lps T' k (era W) ((keys W).take i)).length≤i * k:=fun i=>by
    unfold lps
    induction i with
    | zero=>simp
    | succ i ih=>
     by_cases hi:i < (keys W).length
     · rw [List.take_succ_eq_append_getElem hi,List.flatMap_append,List.length_append,Nat.add_mul]
       have:([(keys W)[i]].flatMap (lrow T' (era W) k)).length≤k:=by
        simp only [List.flatMap_cons,List.flatMap_nil,List.append_nil]
        unfold lrow
        rw [List.length_map]
        have:=List.length_filter_le (pls T' (era W) (keys W)[i]) (List.range k)
        simpa using this
       omega
     · rw [List.take_of_length_le (by omega)] at ih ⊢
       rw [Nat.add_mul];omega
   refine ⟨_,rfl,d,o,_,rfl,s12 _ _ eo,for_dict (o:=o) (d:=d) (kvs:=dkv W) (fun i σ H3=>∃ (ps:Ps) (x4 x5 x6:Option V),σ=[some (.ref g),some (.ref d),some (.ref t),some (.ref l),x4,x5,x6]∧Tl H3 l ps∧ps.map (·.2)=lps T' k (era W) ((keys W).take i)∧Same H H3∧Same H1 H3)
    ⟨[],none,none,none,rfl,⟨il,fun _ z=>nomatch z⟩,rfl,s12,s2⟩ (fun i σ H3 _ ⟨_,_,_,_,_,_,_,s3,_⟩=>s3 _ _ eo) ?_ ?_⟩
   · rintro i p σ H3 hi ⟨ps,x4,x5,x6,rfl,tl,eps,s3,s13⟩
     have hiW:i < W.length:=by
      have:=(List.getElem?_eq_some_iff.mp hi).1
      unfold dkv at this;rwa [List.length_map] at this
     have epp:p=(.inl (W[i].1:Int),.ref W[i].2.1):=by
      unfold dkv at hi
      rw [List.getElem?_map,List.getElem?_eq_getElem hiW] at hi
      exact (Option.some.inj hi).symm
     generalize hx:W[i]=x at epp
     have mx:x∈W:=hx▸List.getElem_mem hiW
     have ekx:(keys W)[i]?=some x.1:=by unfold keys;rw [List.getElem?_map,List.getElem?_eq_getElem hiW,hx];rfl
     have mk:x.1∈keys W:=List.mem_of_getElem? ekx
     have hxn:=wi.lt x mx
     subst epp
     obtain ⟨ra,era',mra,eT,hra⟩:=(tb.same s13).at (i:=x.1) (by rw [hc.ok.len];exact hxn)
     have rowl:(T'.getD x.1 []).length=k:=hc.ok.row _ (List.mem_of_getElem? eT)
     refine ⟨_,rfl,_,rfl,rd_row x.1 (tb.same s13) era' ⟨ra,rfl,⟨_,SqL.of hra⟩,?_⟩⟩
     refine for_enum (K:=K) (a:=ra) (xs:=(T'.getD x.1 []).map oV) (fun j σ H4=>∃ (ps4:Ps) (y5 y6:Option V),σ=[some (.ref g),some (.ref d),some (.ref t),some (.ref l),some (.int x.1),y5,y6]∧Tl H4 l ps4∧ps4.map (·.2)=lps T' k (era W) ((keys W).take i)++((List.range j).filter (pls T' (era W) x.1)).map (trip T' x.1)∧j≤k∧Same H H4∧Same H1 H4)
      ⟨ps,_,_,rfl,tl,by rw [eps];simp,Nat.zero_le _,s3,s13⟩ (fun j σ H4 _ ⟨_,_,_,_,_,_,_,_,s4⟩=>SqL.of ((tb.same s4).rw _ _ _ era' eT)) ?_ ?_
     · rintro j v σ H4 tt hj ht4 ⟨ps4,y5,y6,rfl,tl4,e4,hjk,s4,s14⟩
       obtain ⟨z,rfl,ez⟩:=get_opt hj
       have hj':j < k:=by have:=(List.getElem?_eq_some_iff.mp ez).1;omega
       have ec:cell T' x.1 j=z:=getD_some ez
       have s5:Same H (upd H4 tt (.tup [.int j,oV z])):=s4.upd' ht4
       have s15:Same H1 (upd H4 tt (.tup [.int j,oV z])):=s14.upd' ht4
       have tl5:Tl (upd H4 tt (.tup [.int j,oV z])) l ps4:=tl4.same ((Same.refl H4).upd ht4)
       refine ⟨tt,_,rfl,SqT.of upd_same,rfl,_,_,rfl,_,_,rfl,rfl,?_⟩
       generalize upd H4 tt (.tup [.int j,oV z])=H5 at s5 s15 tl5
       have ef:(List.range (j+1)).filter (pls T' (era W) x.1)=(List.range j).filter (pls T' (era W) x.1)++(if pls T' (era W) x.1 j then [j] else []):=by
        rw [List.range_succ,List.filter_append]
        cases h:pls T' (era W) x.1 j <;> simp [h]
       cases z with
       | none=>
        refine ⟨_,rfl,rfl,_,rfl,iteF ⟨ps4,_,_,rfl,tl5,?_,hj',s5,s15⟩⟩
        have:pls T' (era W) x.1 j=false:=by unfold pls;rw [ec]
        rw [ef,this,e4];simp
       | some e=>
        have r:=hc.ok.rng _ _ _ ec
        obtain ⟨m,rfl⟩:∃ m:Nat,e=(m:Int):=⟨e.toNat,by omega⟩
        have hs:sgo T' x.1 ((j:Int)+1)=some (m:Int):=by unfold sgo;rw [if_pos (by omega),show ((j:Int)+1 - 1).toNat=j by omega];exact ec
        have mm:m∈keys W:=cl x.1 mk _ ⟨by omega,by omega,by omega⟩ _ hs
        refine ⟨_,rfl,rfl,_,rfl,iteT ⟨_,rfl,_,rfl,_,rfl,_,_,rfl,rfl,_,rfl,d,W,x.1,m,(j:Int)+1,rfl,fw.same s5,wi.nd,mk,mm,wi.short (by omega),fun H6 s6=>⟨_,rfl,?_⟩⟩⟩
        have ep:pls T' (era W) x.1 j= !used (era W) x.1 ((j:Int)+1) m:=by unfold pls;rw [ec];rfl
        have s56:=s5.trans s6
        cases hu:used (era W) x.1 ((j:Int)+1) m with
        | true=>
         refine iteF ⟨ps4,_,_,rfl,tl5.same s6,?_,hj',s56,s15.trans s6⟩
         rw [ef,ep,hu,e4];simp
        | false=>
         refine iteT ⟨_,rfl,.inl ⟨rfl,_,SqL.of (tl5.same s6).is⟩,_,rfl,_,rfl,_,_,rfl,rfl,_,rfl,(show 3≤sizeLine by decide),fun qq hq=>⟨l,_,_,rfl,rfl,by rw [upd_ne (ne_of_none (tl5.same s6).is hq)];exact (tl5.same s6).is,small4k ?_,?_⟩⟩
         · have h1:=congrArg List.length e4
           rw [List.length_map,List.length_append,List.length_map] at h1
           have h2:=List.length_filter_le (pls T' (era W) x.1) (List.range j)
           have h3:=lle i
           rw [List.length_range] at h2
           have h4:i * k≤700 * 5:=Nat.mul_le_mul (by omega) k5
           rw [List.length_map];omega
         · refine ⟨ps4++[(qq,[(x.1:Int),(j:Int)+1,(m:Int)])],_,_,rfl,tl_snoc _ (tl5.same s6) hq,?_,hj',(s56.upd' hq).upd fl,((s15.trans s6).upd' hq).upd hl⟩
           rw [List.map_append,ef,ep,hu,e4]
           simp only [Bool.not_false,if_true,List.map_append,List.map_cons,List.map_nil,List.append_assoc]
           unfold trip
           rw [ec];rfl
     · rintro σ H4 ⟨ps4,y5,y6,rfl,tl4,e4,_,s4,s14⟩
       refine ⟨ps4,_,_,_,rfl,tl4,?_,s4,s14⟩
       rw [List.length_map,rowl] at e4
       have hik:i < (keys W).length:=(List.getElem?_eq_some_iff.mp ekx).1
       rw [e4,List.take_succ_eq_append_getElem hik]
       unfold lps
       rw [List.flatMap_append]
       have:(keys W)[i]=x.1:=(List.getElem?_eq_some_iff.mp ekx).2
       rw [this]
       simp [lrow]
   · rintro σ H3 ⟨ps,x4,x5,x6,rfl,tl,eps,s3,s13⟩
     refine ⟨_,rfl,q l ps H3 fl tl ?_ s3⟩
     rw [eps]
     have:(dkv W).length=(keys W).length:=by simp [dkv,keys]
     rw [this,List.take_length]
theorem sc_home_row:FnScope ["ways","passage","chamber","kind","there"] ["ways","passage"] (defScope s_home_row):=scm
theorem ok_hrow {f:Addr}{fd:FuncData} (F:Fun K "home_row" "home_row" s_home_row f fd) (TUR:Rdy P w K mg base "turned" ["way"] 1 (spTurn K)):FnOk P w K mg base CX0 2 f fd ["ways","passage"] spHRow:=by
 refine F.ok sc_home_row (fun vs H Q E h=>?_) (fun cdv A outer s H vs Q E hr h=>?_)
 · obtain ⟨d,t,W,c,e,κ,rfl,_⟩:=h
   rfl
 · obtain ⟨d,t,W,c,e,κ,rfl,fw,nd,ht,hc,he,hl,q⟩:=h
   have hu1:=hu_of hr
   obtain ⟨a,ga,ia⟩:=fw.get nd hc
   have la:∀ x,(way (era W) x).length≤1000:=fun x=>by
    unfold way
    cases z:(era W).find? (fun p=>p.1 == x) with
    | none=>simp
    | some p=>
     obtain ⟨p',hp',rfl⟩:=List.mem_map.mp (List.mem_of_find?_eq_some z)
     exact hl p' hp'
   refine ⟨_,(@sC _ _ _ _ _ (ps_asg (pv 1) (pg_tup rfl (pgs_cons (pg_name (i:=2) sc_home_row.nd rfl (Or.inl rfl)) (pgs_cons (pg_name (i:=3) sc_home_row.nd rfl (Or.inl rfl)) (pgs_cons (pg_name (i:=4) sc_home_row.nd rfl (Or.inl rfl)) pgs_nil)))))
    (@sO _ _ _ (@sR _ _ _ _ (pe_op op_catW (pe_op op_catW (pe_dget hu1 (pv 0) (pv 2) (fun _ _=>rfl)) (@eL _ _ _ _ (@aC _ _ _ _ _ (pv 3) pa_nil (by rfl)))) (TUR.pe hr (@aC _ _ _ _ _ (pe_dget hu1 (pv 0) (pv 4) (fun _ _=>rfl)) pa_nil (by rfl))))))),?_⟩
   refine ⟨_,rfl,t,_,rfl,SqT.of ht,rfl,_,_,rfl,_,_,rfl,_,_,rfl,rfl,?_⟩
   refine ⟨_,rfl,_,rfl,d,_,rfl,ga,_,rfl,rd_lst [κ] fun p1 H1 hp1 ip1 s1=>?_⟩
   have l1:=la c
   have l2:=la e
   refine rd_cat (s1.ints ia) ip1 (by simp;omega) fun p2 H2 hp2 ip2 s2=>?_
   have s12:=s1.trans s2
   obtain ⟨b,gb,ib⟩:=(fw.same s12).get nd he
   refine ⟨_,rfl,_,rfl,d,_,rfl,gb,b,_,rfl,SqL.of ib,by omega,fun p3 H3 hp3 ip3 s3=>?_⟩
   refine rd_cat (s3.ints ip2) ip3 (by simp;omega) fun p4 H4 hp4 ip4 s4=>q p4 H4 ((s12.trans s3).free hp4) ?_ ((s12.trans s3).trans s4)
   exact ip4
theorem sc_homes:FnScope ["chart","ways"] ["chart"] (defScope s_homes):=scm
theorem ok_homes {f C:Addr}{fd:FuncData} (F:Fun K "homes" "homes" s_homes f fd) (WF:Rdy P w K mg base "ways_from" ["chart","base"] 4 (spWays C)) (LP:Rdy P w K mg base "loose_passages" ["chart","ways"] 3 (spLoose C)) (HR:Rdy P w K mg base "home_row" ["ways","passage"] 2 spHRow):
  FnOk P w K mg base CX0 5 f fd ["chart"] (spHomes C):=by
 refine F.ok sc_homes (fun vs H Q E h=>?_) (fun cdv A outer s H vs Q E hr h=>?_)
 · obtain ⟨g,k,n,T',fp,rfl,_⟩:=h
   rfl
 · obtain ⟨g,k,n,T',fp,rfl,hc,q⟩:=h
   have n7:=hc.n7
   have k5:=hc.k5
   refine ⟨_,(@sC _ _ _ _ _ (ps_set (i:=1) sc_homes.nd rfl (Or.inr rfl) (WF.pe hr (pa_cons (pv 0) (pa_cons pe_int pa_nil))))
    (@sO _ _ _ (@sR _ _ _ _ (pe_compW ["ways"] [1] (pi_list (LP.pe hr (pa_cons (pv 0) (pa_cons (pv 1) pa_nil)))) (fun C s H fp=>HR.pe hr (pa_cons (pv 1) (pa_cons (pv 0) pa_nil))) (hcl1 rfl))))),?_⟩
   refine ⟨_,rfl,g,k,n,T',fp,0,rfl,hc,hc.n1,fun d W H1 hd fw wi eW s1=>?_⟩
   have ek:keys W=met T' k n 0:=by rw [← era_keys,eW,metW_map]
   have cl:=(met_inv hc.ok (k:=k) (base:=0) hc.n1).2.2
   rw [← ek] at cl
   refine ⟨_,rfl,_,rfl,g,d,k,n,T',fp,W,rfl,hc.same s1,fw,wi,eW,fun l ps H2 hl tl eps s2=>?_⟩
   refine ⟨l,rfl,⟨_,SqL.of tl.is⟩,comp_tabL (xs:=ps.map fun p=>V.ref p.1) ((hrows T' k n).map fun r=>r.map some) (SqL.of tl.is) ?_ ?_ (fun i x r hi hr2 H3 s3 Q' q'=>?_) fun D as H3 N3=>?_⟩
   · unfold hrows
     rw [← eps];simp
   · rw [List.length_map]
     have h1:=congrArg List.length eps
     rw [List.length_map] at h1
     rw [h1]
     unfold lps
     have gen:∀ O:List Nat,(O.flatMap (lrow T' (metW T' k n 0) k)).length≤O.length * k:=fun O=>by
      induction O with
      | nil=>simp
      | cons a O ih=>
       rw [List.flatMap_cons,List.length_append,List.length_cons,Nat.add_mul]
       have:(lrow T' (metW T' k n 0) k a).length≤k:=by
        unfold lrow
        rw [List.length_map]
        have:=List.length_filter_le (pls T' (metW T' k n 0) a) (List.range k)
        simpa using this
       omega
     have h2:=gen (met T' k n 0)
     have h3:=OInv.len (met_inv hc.ok (k:=k) (base:=0) hc.n1).1
     have h4:(met T' k n 0).length * k≤700 * 5:=Nat.mul_le_mul (by omega) k5
     omega
   · obtain ⟨p,rfl,ep⟩:=get_ref hi
     have mp:p.2∈lps T' k (metW T' k n 0) (met T' k n 0):=by rw [← eps];exact List.mem_map.mpr ⟨p,List.mem_of_getElem? ep,rfl⟩
     obtain ⟨c,j,e,et,hcO,hj,ec,_⟩:=lps_mem mp
     have r0:=hc.ok.rng _ _ _ ec
     obtain ⟨m,rfl⟩:∃ m:Nat,e=(m:Int):=⟨e.toNat,by omega⟩
     rw [← ek] at hcO
     have hs:sgo T' c ((j:Int)+1)=some (m:Int):=by unfold sgo;rw [if_pos (by omega),show ((j:Int)+1 - 1).toNat=j by omega];exact ec
     have mm:m∈keys W:=cl c hcO _ ⟨by omega,by omega,by omega⟩ _ hs
     have ht:=(tl.same s3).tp p (List.mem_of_getElem? ep)
     rw [et] at ht
     refine ⟨_,rfl,_,rfl,d,p.1,W,c,m,(j:Int)+1,rfl,fw.same (s2.trans s3),wi.nd,ht,hcO,mm,wi.short (by omega),fun l4 H4 hl4 il4 s4=>q' l4 H4 hl4 ?_ s4⟩
     have er:r=(hrow (metW T' k n 0) p.2).map some:=by
      unfold hrows at hr2
      rw [List.getElem?_map,List.getElem?_map] at hr2
      have e1:(lps T' k (metW T' k n 0) (met T' k n 0))[i]?=some p.2:=by rw [← eps,List.getElem?_map,ep];rfl
      rw [e1] at hr2
      exact (Option.some.inj hr2).symm
     rw [er,et, ← eW]
     exact row_ints il4
   · obtain ⟨ps3,e1,e2,il3⟩:=il_of N3
     have s12:=s1.trans s2
     refine q D ps3 H3 (s12.free N3.ft) (fun p hp=>s12.free (N3.fa p.1 (by rw [← e2];exact List.mem_map.mpr ⟨p,hp,rfl⟩))) (by rw [e2];exact N3.nd) il3 e1 (s12.trans N3.sm)
theorem sc_pair_step:FnScope ["one","two","pair","letter","ends"] ["one","two","pair","letter"] (defScope s_pair_step):=scm
theorem ok_pstep {f C:Addr}{fd:FuncData} (F:Fun K "pair_step" "pair_step" s_pair_step f fd) (T:Txt K mg) (SE:Rdm P w K mg base C "step" ["self","chamber","letter"] 3 (spStep C)):FnOk P w K mg base CX0 4 f fd ["one","two","pair","letter"] (spPstep C):=by
 refine F.ok sc_pair_step (fun vs H Q E h=>?_) (fun cdv A outer s H vs Q E hr h=>?_)
 · obtain ⟨g1,g2,b,k,n,m,T',U,fp,fq,x,l,rfl,_⟩:=h
   rfl
 · obtain ⟨g1,g2,b,k,n,m,T',U,fp,fq,x,l,rfl,hc,hd,hb,hx,lk,q0,q1⟩:=h
   refine ⟨_,(@sC _ _ _ _ _ (@sS _ 4 _ _ _ _ _ sc_pair_step.nd rfl (Or.inl rfl) (pe_tup (@aC _ _ _ _ _ (SE.pe hr (pv 0) (@aC _ _ _ _ _ (pe_ix ix_t (pv 2) pe_int (fun _ _=>rfl)) (@aC _ _ _ _ _ (pv 3) pa_nil (by rfl)) (by rfl))) (@aC _ _ _ _ _ (SE.pe hr (pv 1) (@aC _ _ _ _ _ (pe_ix ix_t (pv 2) pe_int (fun _ _=>rfl)) (@aC _ _ _ _ _ (pv 3) pa_nil (by rfl)) (by rfl))) pa_nil (by rfl)) (by rfl))) (by rfl) (.inl rfl))
    (@sC _ _ _ _ _ (ps_if (pt_cmpR op_in_seq pe_non (pv 4) rfl) (@sO _ _ _ (@sR _ _ _ _ pe_non)) pss_nil)
    (@sO _ _ _ (@sR _ _ _ _ (pv 4))))),?_⟩
   obtain ⟨dx,lo,li,as,bs,I,efp,hg,_⟩:=id hc.ob
   obtain ⟨dx2,lo2,li2,as2,bs2,I2,efp2,hg2,_⟩:=id hd.ob
   have nm0:=div_lt' hx
   have mm0:=mod_lt' hx
   have ePr:=prod_sgo hc.ok hd.ok hx l
   refine ⟨_,rfl,g1,dx,_,rfl,hg,chf_no ..,_,rfl,rd_atT hb rfl ⟨_,rfl,g1,k,n,T',fp,x / m,l,rfl,hc,nm0,lk,fun H1 s1=>?_⟩⟩
   refine ⟨_,rfl,g2,dx2,_,rfl,s1 _ _ hg2,chf_no ..,_,rfl,rd_atT (s1 _ _ hb) rfl ⟨_,rfl,g2,k,m,U,fq,x % m,l,rfl,hd.same s1,mm0,lk,fun H2 s2=>?_⟩⟩
   have s12:=s1.trans s2
   refine ⟨(by show 2≤sizeLine;decide),fun t ht=>?_⟩
   have sT:Same H2 (upd H2 t (.tup [oV (sgo T' (x / m) l),oV (sgo U (x % m) l)])):=(Same.refl H2).upd ht
   have eT:upd H2 t (.tup [oV (sgo T' (x / m) l),oV (sgo U (x % m) l)]) t=some (.tup [oV (sgo T' (x / m) l),oV (sgo U (x % m) l)]):=upd_same
   have fw:∀ o,flatV (oV o)=true:=fun o=>by cases o <;> rfl
   refine ⟨_,rfl,t,_,rfl,.inr (SqT.of eT),rfl,(by rw [List.all_cons,List.all_cons,fw,fw];rfl),_,rfl,?_⟩
   have sAll:=s12.trans sT
   cases e1:sgo T' (x / m) l with
   | none=>
    rw [e1] at ePr sAll
    exact iteTe rfl (q0 _ ePr sAll)
   | some e=>
    cases e2:sgo U (x % m) l with
    | none=>
     rw [e1,e2] at ePr sAll
     exact iteTe rfl (q0 _ ePr sAll)
    | some f'=>
     rw [e1,e2] at ePr sAll eT
     have re:=sgo_lt hc.ok e1
     have rf:=sgo_lt hd.ok e2
     obtain ⟨e',rfl⟩:∃ e':Nat,e=(e':Int):=⟨e.toNat,by omega⟩
     obtain ⟨f'',rfl⟩:∃ e':Nat,f'=(e':Int):=⟨f'.toNat,by omega⟩
     have hm:=dm_of (e:=e') (m:=m) (f:=f'') (by omega)
     refine iteFe rfl ⟨_,rfl,q1 (e' * m+f'') t _ ?_ (s12.free ht) ?_ sAll⟩
     · rw [ePr]
       show some _=some _
       rw [Int.natCast_add,Int.natCast_mul]
     · rw [eT]
       unfold tupP
       rw [hm.1,hm.2];rfl
theorem sc_pairs_in_order:FnScope ["one","two","order","seen","at","letter","there"] ["one","two"] (defScope s_pairs_in_order):=scm
theorem ok_pio {f C:Addr}{fd:FuncData} (F:Fun K "pairs_in_order" "pairs_in_order" s_pairs_in_order f fd) (T:Txt K mg) (LI:Rdy P w K mg base "letters_in_order" ["chart"] 1 (spLio C)) (PST:Rdy P w K mg base "pair_step" ["one","two","pair","letter"] 4 (spPstep C)):FnOk P w K mg base CX0 5 f fd ["one","two"] (spPio C):=by
 refine F.ok sc_pairs_in_order (fun vs H Q E h=>?_) (fun cdv A outer s H vs Q E hr h=>?_)
 · obtain ⟨g1,g2,k,n,m,T',U,fp,fq,rfl,_⟩:=h
   rfl
 · obtain ⟨g1,g2,k,n,m,T',U,fp,fq,rfl,hc,hd,nm,q⟩:=h
   have hu1:=hu_of hr
   refine ⟨_,(@sC _ _ _ _ _ (@sS _ 2 _ _ _ _ _ sc_pairs_in_order.nd rfl (Or.inl rfl) (@eL _ _ _ _ (@aC _ _ _ _ _ (pe_tup (@aC _ _ _ _ _ pe_int (@aC _ _ _ _ _ pe_int pa_nil (by rfl)) (by rfl))) pa_nil (by rfl))) (by rfl) (.inl rfl))
    (@sC _ _ _ _ _ (@sS _ 3 _ _ _ _ _ sc_pairs_in_order.nd rfl (Or.inl rfl) (pe_disp1 hu1 (pe_tup (@aC _ _ _ _ _ pe_int (@aC _ _ _ _ _ pe_int pa_nil (by rfl)) (by rfl))) pe_bl) (by rfl) (.inl rfl))
    (@sC _ _ _ _ _ (@sS _ 4 _ _ _ _ _ sc_pairs_in_order.nd rfl (Or.inl rfl) pe_int (by rfl) (.inl rfl))
    (@sC _ _ _ _ _ (ps_while PassesOwn.never (pt_cmpR op_lt (pv 4) (pe_callB call_len_seq (by rfl) T.len PySem.boot_len (@aC _ _ _ _ _ (pv 2) pa_nil (by rfl))) (nomark _)) (@sC _ _ _ _ _ (ps_for PassesOwn.never rfl (pi_list (LI.pe hr (@aC _ _ _ _ _ (pv 0) pa_nil (by rfl)))) (pg_name (i:=5) sc_pairs_in_order.nd rfl (Or.inl rfl)) (@sC _ _ _ _ _ (@sS _ 6 _ _ _ _ _ sc_pairs_in_order.nd rfl (Or.inl rfl) (PST.pe hr (@aC _ _ _ _ _ (pv 0) (@aC _ _ _ _ _ (pv 1) (@aC _ _ _ _ _ (pe_ix ix_l (pv 2) (pv 4) (fun _ _=>rfl)) (@aC _ _ _ _ _ (pv 5) pa_nil (by rfl)) (by rfl)) (by rfl)) (by rfl))) (by rfl) (.inl rfl))
    (@sO _ _ _ (ps_if (PW.pt (pw_and (pt_cmpR op_notN (pv 6) pe_non (nomark _)) (pw_and1 (pt_cmp (pc_dnotin hu1 (pv 6) (pv 3)) rfl)))) (@sC _ _ _ _ _ (ps_dput hu1 (pv 3) (pv 6) pe_bl rfl)
    (@sO _ _ _ (ps_expr (pe_bm PySem.F.plainAttrs_list PySem.F.slot_list_append PySem.F.type_list_append mt_append (pv 2) (@aC _ _ _ _ _ (pv 6) pa_nil (by rfl)))))) pss_nil))))
    (@sO _ _ _ (ps_aug (i:=4) sc_pairs_in_order.nd rfl (Or.inl rfl) pe_int ip_add))))
    (@sO _ _ _ (@sR _ _ _ _ (pv 2))))))),?_⟩
   have okP:=prod_ok hc.ok hd.ok
   have n1:=hc.n1
   have m1:=hd.n1
   have k1:=hc.k1
   have k5:=hc.k5
   have N1:0 < n * m:=Nat.mul_pos n1 m1
   have pk0:[V.int 0,V.int 0]=(pk m 0).map kV:=by simp [pk,kV]
   refine ⟨(by show 2≤sizeLine;decide),fun t0 ht0=>rd_lsV (by show 1≤1000;decide) fun lo H1 flo hlo s1=>?_⟩
   have et0:H1 t0=some (.tup ((pk m 0).map kV)):=by rw [← pk0];exact s1 _ _ upd_same
   have s01:Same H H1:=((Same.refl H).upd ht0).trans s1
   have flo0:H lo=none:=((Same.refl H).upd ht0).free flo
   refine w_name ?_
   intro d fd
   refine ⟨(by show 2≤sizeLine;decide),fun t1 ht1=>?_⟩
   have nd1:d≠t1:=fun z=>by rw [← z,upd_same] at ht1;cases ht1
   have ed1:upd (upd H1 d (.dT [])) t1 (.tup [V.int 0,V.int 0]) d=some (.dT []):=by rw [upd_ne nd1,upd_same]
   have et1:upd (upd H1 d (.dT [])) t1 (.tup [V.int 0,V.int 0]) t1=some (.tup ((pk m 0).map kV)):=by rw [upd_same,pk0]
   have s2:Same H1 (upd (upd H1 d (.dT [])) t1 (.tup [V.int 0,V.int 0])):=((Same.refl H1).upd fd).upd (by
    rw [upd_ne (Ne.symm nd1)] at ht1;exact ht1)
   refine ⟨_,DPut.t (v:=.bl true) ed1 et1 (by decide),?_⟩
   generalize upd (upd H1 d (.dT [])) t1 (.tup [V.int 0,V.int 0])=H2 at ed1 et1 s2
   have s3:Same H1 (upd H2 d (.dT (putK [] (pk m 0) (.bl true)))):=s2.upd fd
   have ed3:upd H2 d (.dT (putK [] (pk m 0) (.bl true))) d=some (.dT (putK [] (pk m 0) (.bl true))):=upd_same
   generalize upd H2 d (.dT (putK [] (pk m 0) (.bl true)))=H3 at s3 ed3
   have fd0:H d=none:=s01.free fd
   refine while_by (fun σ H4=>∃ (O:List Nat) (i:Nat) (ps:List (Addr × List Key)) (kvs:List (List Key × V)) (x5 x6:Option V),σ=[some (.ref g1),some (.ref g2),some (.ref lo),some (.ref d),some (.int i),x5,x6]∧Tus H4 lo ps∧tks ps=O.map (pk m)∧H4 d=some (.dT kvs)∧DP m kvs O (fun _=>.bl true)∧Same H H4∧OInv (n * m) O∧i≤O.length∧bfs (prodT k n m T' U) k (n * m+1 - i) i O=met (prodT k n m T' U) k (n * m) 0)
    (fun σ H4=>match σ with | [_,_,_,_,some (.int i),_,_]=>n * m+1 - i.toNat | _=>0)
    ⟨[0],0,[(t0,pk m 0)],_,none,none,rfl,⟨s3 _ _ hlo,fun q hq=>by rw [List.mem_singleton.mp hq];exact s3 _ _ et0⟩,rfl,ed3,DP.zero.put (fun z=>nomatch z) rfl,s01.trans s3,⟨by simp,fun c hc=>by rw [List.mem_singleton.mp hc];exact N1⟩,Nat.zero_le _,rfl⟩ ?_ ?_
   · rintro σ H4 ⟨O,i,ps,kvs,x5,x6,rfl,tu,ek,ed,dp,s4,oi,hi,eb⟩
     have ol:=oi.len
     have lp:ps.length=O.length:=by
      have:=congrArg List.length ek
      unfold tks at this
      simpa using this
     have el:((ps.map fun q=>V.ref q.1).length:Int)=O.length:=by rw [List.length_map,lp]
     refine ⟨_,rfl,_,rfl,lo,_,rfl,.inl (SqL.of tu.1),_,_,rfl,rfl,_,rfl,?_⟩
     rw [el]
     refine ite2 (fun hlt=>?_) fun hge=>?_
     · have hlt:(i:Int) < O.length:=of_decide_eq_true hlt
       have hlt:i < O.length:=by omega
       have eO:O[i]?=some O[i]:=by simp [hlt]
       have mO:O[i]∈O:=List.getElem_mem hlt
       generalize O[i]=c at eO mO
       have ek1:O.getD i 0=c:=by rw [List.getD,eO];rfl
       have cN:c < n * m:=oi.lt c mO
       refine ⟨_,rfl,g1,k,n,T',fp,rfl,hc.same s4,fun ll H5 fl il s5=>⟨ll,rfl,⟨_,SqL.of il⟩,for_list (K:=K) (a:=ll) (xs:=(lets k).map V.int) (fun j σ H6=>∃ (O6:List Nat) (ps6:List (Addr × List Key)) (kvs6:List (List Key × V)) (r:List Nat) (y5 y6:Option V),σ=[some (.ref g1),some (.ref g2),some (.ref lo),some (.ref d),some (.int i),y5,y6]∧Tus H6 lo ps6∧tks ps6=O6.map (pk m)∧H6 d=some (.dT kvs6)∧DP m kvs6 O6 (fun _=>.bl true)∧Same H H6∧Ints H6 ll (lets k)∧OInv (n * m) O6∧O6=O++r∧O6=((lets k).take j).foldl (vis (prodT k n m T' U) c) O)
        ⟨O,ps,kvs,[],_,_,rfl,⟨s5 _ _ tu.1,fun q hq=>s5 _ _ (tu.2 q hq)⟩,ek,s5 _ _ ed,dp,s4.trans s5,il,oi,by simp,rfl⟩ (fun j σ H6 _ ⟨_,_,_,_,_,_,_,_,_,_,_,_,ii,_⟩=>SqL.of ii) ?_ ?_⟩⟩
       · rintro j x σ H6 hj ⟨O6,ps6,kvs6,r,y5,y6,rfl,tu6,ek6,ed6,dp6,s6,il6,oi6,eO6,ef⟩
         obtain ⟨l,rfl,lat⟩:=get_int hj
         have lk:Let k l:=lets_mem.mp (List.mem_of_getElem? lat)
         have ol6:=oi6.len
         have eO6i:O6[i]?=some c:=by rw [eO6,List.getElem?_append_left hlt];exact eO
         have ek6i:(tks ps6)[i]?=some (pk m c):=by rw [ek6,List.getElem?_map,eO6i];rfl
         unfold tks at ek6i
         rw [List.getElem?_map] at ek6i
         obtain ⟨q6,eq6,e2⟩:=Option.map_eq_some_iff.mp ek6i
         have hq6:=tu6.2 q6 (List.mem_of_getElem? eq6)
         rw [e2] at hq6
         have es:((lets k).take (j+1)).foldl (vis (prodT k n m T' U) c) O=vis (prodT k n m T' U) c O6 l:=by rw [take_fold' lat, ← ef]
         refine ⟨_,rfl,_,rfl,_,rfl,_,rfl,rd_atV tu6.1 (atI_nat (by rw [List.getElem?_map,eq6];rfl)) ⟨_,rfl,g1,g2,q6.1,k,n,m,T',U,fp,fq,c,l,rfl,hc.same s6,hd.same s6,hq6,cN,lk,fun H7 e7 s7=>?_,fun y p H7 e7 fp7 hp7 s7=>?_⟩⟩
         · refine ⟨_,rfl,rfl,_,rfl,iteF ⟨O6,ps6,kvs6,r,_,_,rfl,⟨s7 _ _ tu6.1,fun q hq=>s7 _ _ (tu6.2 q hq)⟩,ek6,s7 _ _ ed6,dp6,s6.trans s7,s7 _ _ il6,oi6,eO6,?_⟩⟩
           rw [es];unfold vis;rw [e7]
         · have ev:vis (prodT k n m T' U) c O6 l=if y∈O6 then O6 else O6++[y]:=by unfold vis;rw [e7];rfl
           have ed7:=s7 _ _ ed6
           have tu7:Tus H7 lo ps6:=⟨s7 _ _ tu6.1,fun q hq=>s7 _ _ (tu6.2 q hq)⟩
           refine ⟨_,rfl,rfl,_,rfl,iteT ?_⟩
           refine ⟨_,rfl,_,rfl,d,_,rfl,DGet.t (k:=pk m y) ed7 hp7,_,rfl,?_⟩
           rw [dp6.2 y]
           by_cases hin:y∈O6
           · rw [if_pos hin]
             refine iteF ⟨O6,ps6,kvs6,r,_,_,rfl,tu7,ek6,ed7,dp6,s6.trans s7,s7 _ _ il6,oi6,eO6,?_⟩
             rw [es,ev,if_pos hin]
           · rw [if_neg hin]
             have l6:=dp6.1
             refine iteT ⟨_,rfl,_,rfl,d,_,rfl,DPut.t (k:=pk m y) ed7 hp7 (small4k (by omega)),?_⟩
             have ndl:lo≠d:=fun z=>by have:=tu7.1;rw [z,ed7] at this;cases this
             have ndp:∀ q∈ps6,q.1≠d:=fun q hq z=>by have:=tu7.2 q hq;rw [z,ed7] at this;cases this
             have ndi:ll≠d:=fun z=>by have:=s7 _ _ il6;rw [z,ed7] at this;cases this
             have npd:p≠d:=fun z=>by rw [z,ed7] at hp7;cases hp7
             have npl:p≠lo:=fun z=>by rw [z,tu7.1] at hp7;cases hp7
             have npq:∀ q∈ps6,q.1≠lo:=fun q hq z=>by have:=tu7.2 q hq;rw [z,tu7.1] at this;cases this
             have nil:ll≠lo:=fun z=>by rw [z,tu.1] at fl;cases fl
             have tl8:upd H7 d (.dT (putK kvs6 (pk m y) (.bl true))) lo=some (.lst (ps6.map fun q=>V.ref q.1)):=by rw [upd_ne ndl];exact tu7.1
             refine ⟨_,rfl,.inl ⟨rfl,_,SqL.of tl8⟩,_,rfl,lo,_,_,rfl,rfl,tl8,small4k (by
              have:=congrArg List.length ek6
              unfold tks at this
              rw [List.length_map,List.length_map] at this
              rw [List.length_map];omega),?_⟩
             have oi7:=oi6.vis okP (c:=c) (l:=l)
             rw [ev,if_neg hin] at oi7
             refine ⟨O6++[y],ps6++[(p,pk m y)],_,r++[y],_,_,rfl,⟨?_,fun q hq=>?_⟩,?_,?_,dp6.put hin rfl,((s6.trans s7).upd fd0).upd flo0,?_,oi7,by rw [eO6,List.append_assoc],by rw [es,ev,if_neg hin]⟩
             · rw [upd_same,List.map_append];rfl
             · rcases List.mem_append.mp hq with w | w
               · rw [upd_ne (npq q w),upd_ne (ndp q w)];exact tu7.2 q w
               · rw [List.mem_singleton.mp w]
                 show upd _ _ _ p=_
                 rw [upd_ne npl,upd_ne npd];exact hp7
             · unfold tks at ek6 ⊢
               rw [List.map_append,ek6,List.map_append];rfl
             · rw [upd_ne (Ne.symm ndl),upd_same]
             · show upd _ _ _ ll=_
               rw [upd_ne nil,upd_ne ndi];exact s7 _ _ il6
       · rintro σ H6 ⟨O6,ps6,kvs6,r,y5,y6,rfl,tu6,ek6,ed6,dp6,s6,il6,oi6,eO6,ef⟩
         rw [List.length_map,List.take_length] at ef
         refine ⟨_,rfl,_,_,rfl,rfl,⟨O6,i+1,ps6,kvs6,_,_,rfl,tu6,ek6,ed6,dp6,s6,oi6,by rw [eO6,List.length_append];omega,?_⟩,?_⟩
         · have e1:n * m+1 - i=(n * m+1 - (i+1))+1:=by omega
           rw [e1,bfs_go hlt] at eb
           unfold rowO at eb
           rw [ek1] at eb
           rw [ef];exact eb
         · show n * m+1 - ((i:Int)+1).toNat < n * m+1 - (i:Int).toNat
           omega
     · have hge:¬ (i:Int) < O.length:=fun z=>hge (decide_eq_true z)
       rw [bfs_stop (by omega)] at eb
       exact ⟨_,rfl,q lo H4 ⟨flo0,ps,tu,by rw [← eb];exact ek,s4⟩⟩
   · rintro σ H Q Q' hQ ⟨v,e,v',e',p,ys,e'',q,i,j,e3,e4,b,e5,q5⟩
     exact ⟨v,e,v',e',p,ys,e'',q,i,j,e3,e4,b,e5,hQ _ _ q5⟩
theorem mt_nd:(["number","pair"]:List Str).Nodup:=by decide+kernel
theorem sc_met:FnScope ["one","two","order","numbers","kinds"] ["one","two"] (defScope s_met):=scm
theorem ok_met {f C cC:Addr}{fd:FuncData} (F:Fun K "met" "met" s_met f fd) (hmNoChart:mg "NoChart"=some (.ref cC)) (hvNoChart:isVe K cC=true) (T:Txt K mg) (TC:TxtC K mg C) (PST:Rdy P w K mg base "pair_step" ["one","two","pair","letter"] 4 (spPstep C)) (PIO:Rdy P w K mg base "pairs_in_order" ["one","two"] 5 (spPio C)) (CH:Rdk P w K mg base C "Chart" ["self","kinds","table"] 2 (spInit C)):
  FnOk P w K mg base (CXe P w) 6 f fd ["one","two"] (spMetX C cC):=by
 refine F.okX sc_met (fun vs H Q E h=>?_) (fun cdv A outer s H vs Q E hr h=>?_)
 · obtain ⟨g1,g2,k,k2,n,m,T',U,fp,fq,rfl,_⟩:=h
   rfl
 · obtain ⟨g1,g2,k,k2,n,m,T',U,fp,fq,rfl,hc,hd,nm,q,qe⟩:=h
   have hu1:=hu_of hr
   refine ⟨_,(@sC _ _ _ _ _ (ps_if (pt_cmpR op_ne (pe_fld (pv 0) rfl) (pe_fld (pv 1) rfl) (nomark _)) (@sO _ _ _ (ps_raise rfl rfl hmNoChart hvNoChart (pa_cons pe_str pa_nil))) pss_nil)
    (@sC _ _ _ _ _ (@sS _ 2 _ _ _ _ _ sc_met.nd rfl (Or.inl rfl) (PIO.pe hr (@aC _ _ _ _ _ (pv 0) (@aC _ _ _ _ _ (pv 1) pa_nil (by rfl)) (by rfl))) (by rfl) (.inl rfl))
    (@sC _ _ _ _ _ (ps_set (i:=3) sc_met.nd rfl (Or.inr rfl) (pe_dcompG ["number","pair"] hu1 (pi_enum rfl T.enum bt_enum (pa_cons (pv 2) pa_nil)) (fun C s H fp=>pgt K (n:=2) rfl rfl (pgs_cons (pg_name (i:=0) mt_nd rfl (Or.inl rfl) (.inr rfl)) (pgs_cons (pg_name (i:=1) mt_nd rfl (Or.inl rfl) (.inr rfl)) pgs_nil))) (fun C s H fp=>pv 1) (fun C s H fp=>pv 0) hcl_nil))
    (@sC _ _ _ _ _ (ps_set (i:=4) sc_met.nd rfl (Or.inr rfl) (pe_callTy (call_listRng2 rfl) rfl T.list bt_list (pa_cons (pe_rng2 rfl T.range (@aC _ _ _ _ _ pe_int (@aC _ _ _ _ _ (pe_op op_add (pe_fld (pv 0) rfl) pe_int) pa_nil (by rfl)) (by rfl))) pa_nil)))
    (@sO _ _ _ (@sR _ _ _ _ (CH.pe hr (@aC _ _ _ _ _ (pe_fld (pv 0) rfl) (@aC _ _ _ _ _ (pe_compC ["kinds","numbers","one","two"] [4,3,0,1] (pi_list (pv 2)) (fun C s H fp=>pe_compW ["numbers","one","pair","two"] [2,3,0,4] (pil K rfl (pv 1)) (fun C2 s2 H2 fp2=>pe_dgetN hu1 (pv 1) (PST.pe hr (pa_cons (pv 2) (pa_cons (pv 4) (pa_cons (pv 3) (pa_cons (pv 0) pa_nil))))) m1) (hclA rfl (hclA rfl (hclA rfl (hcl1 rfl))))) (hclA rfl (hclA rfl (hclA rfl (hcl1 rfl)))) (hclos:=rfl)) pa_nil (by rfl)) (by rfl))))))))),?_⟩
   obtain ⟨dx,lo,li,as,bs,I,efp,hg,_⟩:=id hc.ob
   obtain ⟨dx2,lo2,li2,as2,bs2,I2,efp2,hg2,_⟩:=id hd.ob
   refine ⟨_,rfl,g1,C,dx,_,_,rfl,hg,TC.cl,TC.nk,chf_k ..,_,rfl,g2,C,dx2,_,_,rfl,hg2,TC.cl,TC.nk,chf_k ..,rfl,_,rfl,?_⟩
   refine ite2 (fun z=>⟨by decide,qe fun e=>?_⟩) fun z=>?_
   · rw [e] at z;simp at z
   have ekk:k=k2:=by
    by_cases e:(k:Int)=(k2:Int)
    · omega
    · exfalso
      exact z (by simp [e])
   subst ekk
   have q:=q rfl
   have n1:=hc.n1
   have m1:=hd.n1
   have k1:=hc.k1
   have k5:=hc.k5
   have okP:=prod_ok hc.ok hd.ok
   have N1:0 < n * m:=Nat.mul_pos n1 m1
   have mi:=met_inv okP (k:=k) N1
   refine ⟨_,rfl,_,rfl,g1,g2,k,n,m,T',U,fp,fq,rfl,hc,hd,nm,fun la H1 ⟨fl1,ps,tu,ek,s1⟩=>?_⟩
   have eP:=fun {x} (hx:x < n * m) l=>prod_sgo hc.ok hd.ok hx l
   generalize eord:met (prodT k n m T' U) k (n * m) 0=ord at *
   have ordl:ord.length≤n * m:=OInv.len ⟨mi.1.nd,mi.1.lt⟩
   have lp:ps.length=ord.length:=by
    have:=congrArg List.length ek
    unfold tks at this
    simpa using this
   have at_:∀ {i:Nat}{q':Addr × List Key},ps[i]?=some q'→∃ (hi:i < ord.length),q'.2=pk m ord[i]:=fun {i q'} e=>by
    have hi:i < ord.length:=by
     have:=(List.getElem?_eq_some_iff.mp e).1
     omega
    refine ⟨hi,?_⟩
    have e2:(tks ps)[i]?=some (pk m ord[i]):=by rw [ek,List.getElem?_map,List.getElem?_eq_getElem hi];rfl
    unfold tks at e2
    rw [List.getElem?_map,e] at e2
    exact Option.some.inj e2
   have get_:∀ {i:Nat}{x:V},(ps.map fun q=>V.ref q.1)[i]?=some x→∃ q',ps[i]?=some q'∧x=.ref q'.1:=fun {i x} e=>by
    rw [List.getElem?_map] at e
    obtain ⟨q',e1,e2⟩:=Option.map_eq_some_iff.mp e
    exact ⟨q',e1,e2.symm⟩
   refine ⟨_,rfl,la,rfl,⟨_,SqL.of tu.1⟩,dcomp_enum (K:=K) (xs:=ps.map fun q=>V.ref q.1) (fun i kvs=>DP m kvs (ord.take i) fun j=>.int j) DP.zero (fun H' s=>SqL.of (s _ _ tu.1)) (fun i x H2 D kvs t' hi ht s2 hD eD pv nb hnb F hF=>?_) fun D H2 kvs hD eD pv s2=>?_⟩
   · obtain ⟨q',eq',rfl⟩:=get_ hi
     obtain ⟨hil,e2⟩:=at_ eq'
     obtain ⟨x0,x1,rfl⟩:=us2 hnb
     have nD:D≠t':=fun z=>by rw [← z,eD] at ht;cases ht
     have hq2:=s2 _ _ (tu.2 q' (List.mem_of_getElem? eq'))
     rw [e2] at hq2
     have nq:q'.1≠t':=fun z=>by rw [z,ht] at hq2;cases hq2
     refine ⟨t',_,rfl,SqT.of upd_same,rfl,_,_,rfl,_,_,rfl,rfl,?_⟩
     refine ⟨_,rfl,_,rfl,?_⟩
     have lt':(ord.take i).length=i:=by rw [List.length_take];omega
     have fresh:ord[i]∉ord.take i:=fun m=>by
      obtain ⟨j,hj,ej⟩:=List.getElem_of_mem m
      rw [List.length_take] at hj
      rw [List.getElem_take] at ej
      have:=(List.getElem_inj mi.1.nd).mp ej
      omega
     have pl:=pv.1
     refine hF _ _ _ (putK kvs (pk m ord[i]) (.int i)) _ (DPut.t (k:=pk m ord[i]) (by rw [upd_ne nD];exact eD) (by rw [upd_ne nq];exact hq2) (small4k (by omega))) (fun b o eb=>?_) upd_same ?_
     · have b1:=s2 _ _ eb
       rw [upd_ne (fun z=>by rw [z,hD] at eb;cases eb),upd_ne (fun z=>by rw [z,ht] at b1;cases b1)]
       exact b1
     · have:=pv.put fresh (y:=.int (i:Int)) (by rw [lt'])
       rw [List.take_succ_eq_append_getElem hil]
       exact this
   rw [List.length_map,lp,List.take_length] at pv
   have s12:Same H H2:=s1.trans s2
   have hg2':=s12 _ _ hg
   refine w_name ?_
   refine ⟨_,rfl,g1,C,dx,_,_,rfl,hg2',TC.cl,TC.nk,chf_k ..,_,_,rfl,rfl,1,(k:Int)+1,rfl,fun r hr0=>⟨⟨r,1,k,rfl,by rw [upd_same,Int.add_comm],by decide,by decide,by omega,fun lk hlk=>?_⟩⟩⟩
   have s23:Same H2 (upd (upd H2 r (.rng 1 ((k:Int)+1))) lk (.lst ((List.range k).map fun (i:Nat)=>V.int (1+i)))):=((Same.refl H2).upd hr0).upd (by
    by_cases z:lk=r
    · rw [z];exact hr0
    · rwa [upd_ne z] at hlk)
   have elk:upd (upd H2 r (.rng 1 ((k:Int)+1))) lk (.lst ((List.range k).map fun (i:Nat)=>V.int (1+i))) lk=some (.lst ((List.range k).map fun (i:Nat)=>V.int (1+i))):=upd_same
   generalize upd (upd H2 r (.rng 1 ((k:Int)+1))) lk (.lst ((List.range k).map fun (i:Nat)=>V.int (1+i)))=H3 at s23 elk
   have s13:=s12.trans s23
   have tl3:=s23 _ _ (s2 _ _ tu.1)
   refine ⟨_,rfl,g1,C,dx,_,_,rfl,s13 _ _ hg,TC.cl,TC.nk,chf_k ..,_,rfl,la,rfl,⟨_,SqL.of tl3⟩,?_⟩
   refine comp_tabP (K:=K) (xs:=ps.map fun q=>V.ref q.1) (fun i r=>r=(renT (prodT k n m T' U) ord).getD i []) (SqL.of tl3) (by rw [List.length_map];omega) (fun i x hi H4 s4 Q' q'=>?_) fun lt2 bs R H4 N4 lR hR=>?_
   · obtain ⟨q6,eq6,rfl⟩:=get_ hi
     obtain ⟨hil,e2⟩:=at_ eq6
     have hq6:=s4 _ _ (s23 _ _ (s2 _ _ (tu.2 q6 (List.mem_of_getElem? eq6))))
     rw [e2] at hq6
     have er:=ren_row okP mi.1.lt hil
     have cN:=mi.1.lt _ (List.getElem_mem hil)
     generalize ord[i]=c at hq6 er cN
     let fv:V→V:=fun v=>match v with | .int e=>oV (rn ord (sgo (prodT k n m T' U) c e)) | _=>.non
     refine ⟨_,rfl,lk,rfl,⟨_,SqL.of (s4 _ _ elk)⟩,comp_same (K:=K) fv (SqL.of (s4 _ _ elk)) (by simp;omega) (fun z hz H5 Q5 s5 q5=>?_) fun l H5 hl h5 s5=>q' l _ H5 hl ?_ er.symm s5⟩
     · obtain ⟨j,hj,rfl⟩:=List.mem_map.mp hz
       have hj:=List.mem_range.mp hj
       have lkj:Let k (1+(j:Int)):=⟨by omega,by omega,by omega⟩
       have s45:=s4.trans s5
       have eD5:=s45 _ _ (s23 _ _ eD)
       have s15:=s13.trans s45
       refine ⟨_,rfl,D,rfl,.inr ⟨_,.inl eD5⟩,_,rfl,_,rfl,_,rfl,_,rfl,g1,g2,q6.1,k,n,m,T',U,fp,fq,c,1+(j:Int),rfl,hc.same s15,hd.same s15,s5 _ _ hq6,cN,lkj,fun H6 e6 s6=>.inr ⟨rfl,⟨_,s6 _ _ eD5⟩,?_⟩,fun y p H6 e6 fp6 hp6 s6=>.inl ⟨_,DGet.t (k:=pk m y) (s6 _ _ eD5) hp6,?_⟩⟩
       · have:=q5 H6 s6
         have ef:fv (V.int (1+(j:Int)))=.non:=by show oV (rn ord (sgo _ c _))=_;rw [e6];rfl
         rw [ef] at this
         exact this
       · have:=q5 H6 s6
         have ef:fv (V.int (1+(j:Int)))=(valV kvs (pk m y)).getD .non:=by
          show oV (rn ord (sgo _ c _))=_
          rw [e6,pv.2 y]
          show oV (if ((y:Int).toNat)∈ord then some ((ord.idxOf (y:Int).toNat:Nat):Int) else none)=_
          rw [Int.toNat_natCast]
          split <;> rfl
         rw [ef] at this
         exact this
     · show H5 l=_
       rw [h5,List.map_map,List.map_map]
       refine congrArg (fun l=>some (HO.lst l)) (List.map_congr_left fun j hj=>?_)
       show oV (rn ord (sgo _ c (1+(j:Int))))=oV (rn ord (cell _ c j))
       unfold sgo
       rw [if_pos (by omega),show (1+(j:Int) - 1).toNat=j by omega]
   · have eR:R=renT (prodT k n m T' U) ord:=by
       apply List.ext_getElem?
       intro i
       rw [List.length_map,lp] at lR
       by_cases hi:i < ord.length
       · have e1:R[i]?=some R[i]:=by simp [lR,hi]
         have:=hR i R[i] e1
         rw [e1,this]
         simp [renT,List.getD,hi]
       · rw [List.getElem?_eq_none (by omega),List.getElem?_eq_none (by simp [renT];omega)]
     subst eR
     have ok':=renT_ok okP mi.1.nd mi.1.lt
     have o1:1≤ord.length:=List.length_pos_of_mem mi.2.1
     refine fun x dx nx ndx nex=>?_
     have sx:Same H4 (upd (upd H4 dx (.own x)) x (.ins C dx [])):=((Same.refl H4).upd ndx).upd nx
     refine ⟨x,dx,k,ord.length,lt2,bs,renT (prodT k n m T' U) ord,rfl,upd_same,N4.tb.same sx,ok',k1,k5,o1,by omega,fun H5 fr hc5 ff kp=>⟨rfl,?_⟩⟩
     have s04:Same H H4:=s13.trans N4.sm
     have s5:Same H4 H5:=fun b o e=>kp b o (sx b o e) fun z=>by rw [z,nx] at e;cases e
     refine q x fr H5 (s04.free nx) (fun a ha=>?_) hc5 (s04.trans s5)
     by_cases z:a=x
     · rw [z];exact s04.free nx
     · exact s04.free (sx.free (ff a ha z))
theorem sc__law_home:FnScope ["_law_table_here","_law_way_here"] ["_law_table_here","_law_way_here"] (defScope s__law_home):=scm
theorem ok_home {f:Addr}{fd:FuncData} (F:Fun K "_law_home" "_law_home" s__law_home f fd) (CU:Rdy P w K mg base "_law_cut" ["_law_way_here"] 1 (spCan K)) (TR:Rdy P w K mg base "_law_trace" ["_law_table_here","_law_here","_law_way_here"] 2 spTrc):
  FnOk P w K mg base CX0 3 f fd ["_law_table_here","_law_way_here"] spHomeA:=by
 refine F.ok sc__law_home (fun vs H Q E h=>?_) (fun cdv A outer s H vs Q E hr h=>?_)
 · obtain ⟨k,t,wa,as,T',n,ws,rfl,_⟩:=h
   rfl
 · obtain ⟨k,t,wa,as,T',n,ws,rfl,tb,ok,n1,n7,iw,hl,wl,q⟩:=h
   have cl:=cut_len ws
   refine ⟨_,(@sO _ _ _ (@sR _ _ _ _ (pe_cmpR op_eq (TR.pe hr (@aC _ _ _ _ _ (pv 0) (@aC _ _ _ _ _ pe_int (@aC _ _ _ _ _ (CU.pe hr (@aC _ _ _ _ _ (pv 1) pa_nil (by rfl))) pa_nil (by rfl)) (by rfl)) (by rfl))) pe_int (nomark _)))),?_⟩
   refine ⟨_,rfl,_,rfl,wa,ws,rfl,SqL.of iw,by omega,fun lc H1 fc ic s1=>?_⟩
   refine ⟨t,as,T',k,n,0,lc,cut ws,rfl,tb.same s1,ok,n7,by omega,ic,by omega,cut_all hl,?_⟩
   have q1:=q H1 s1
   refine ⟨?_,?_⟩
   · cases wgo T' (some ((0:Nat):Int)) (cut ws) <;> rfl
   · have e:decide (oV (wgo T' (some ((0:Nat):Int)) (cut ws))=V.int 0)=decide (wgo T' (some 0) (cut ws)=some 0):=by
       show decide (oV (wgo T' (some 0) (cut ws))=V.int 0)=_
       cases wgo T' (some 0) (cut ws) with
       | none=>rfl
       | some c=>simp [oV]
     rw [e]
     exact q1
end
section
variable {P:Program}{w:World}{K:PySem.W.Frag}{mg:Str→Option Value}{base:Heap}
theorem sc_law:FnScope ["_law_script","_law_numbers_here","_law_kinds","_law_one","_law_two","_law_chart","_law_way_here","_law_end","_law_other","_law_table_here","_law_rows","_law_some","_law_both"] ["_law_script"] (defScope s_law):=scm
theorem ok_law {f C cC:Addr}{fd:FuncData} (F:Fun K "law" "law" s_law f fd) (T:Txt K mg) (TC:TxtC K mg C) (N:Rdy P w K mg base "_law_numbers" ["_law_script","_law_many"] 1 (spNumL K)) (TA:Rdy P w K mg base "_law_table" ["_law_kinds","_law_size","_law_draws","_law_share"] 1 spTable)
  (CH:Rdk P w K mg base C "Chart" ["self","kinds","table"] 2 (spInit C)) (TB:Rdm P w K mg base C "table" ["self"] 2 (spTabl C)) (TRA:Rdm P w K mg base C "trace" ["self","chamber","way"] 4 (spTrace C)) (MET:Rdx P w K mg base "met" ["one","two"] 6 (spMetX C cC))
  (HO:Rdy P w K mg base "homes" ["chart"] 5 (spHomes C)) (WR:Rdy P w K mg base "_law_ways_right" ["_law_found"] 2 spWR) (WA:Rdy P w K mg base "_law_way" ["_law_draws","_law_kinds"] 1 (spWay K)) (TU:Rdy P w K mg base "_law_turn" ["_law_way_here"] 1 (spTurn K)) (HM:Rdy P w K mg base "_law_home" ["_law_table_here","_law_way_here"] 3 spHomeA)
  (RO:Rdy P w K mg base "_law_round" ["_law_table_here","_law_kinds","_law_here","_law_draws"] 2 spRound) (PA:Rdy P w K mg base "_law_paths" ["_law_table_here","_law_kinds"] 2 spPaths):
  FnOk P w K mg base CX0 7 f fd ["_law_script"] (spLaw K):=by
 refine F.ok sc_law (fun vs H Q E h=>?_) (fun cdv A outer s H vs Q E hr h=>?_)
 · obtain ⟨a,ns,rfl,_⟩:=h
   rfl
 · obtain ⟨sc,ns,rfl,hS,hn,kk⟩:=h
   have hu:=hr.units
   have hu1:=hu_of hr
   have rest10:∃ u:TS,PSs (cxOf CX0 P w K mg base ["_law_script","_law_numbers_here","_law_kinds","_law_one","_law_two","_law_chart","_law_way_here","_law_end","_law_other","_law_table_here","_law_rows","_law_some","_law_both"] "law" (defScope s_law) f cdv A outer s H E).nox ((defBody s_law).drop 10) u∧
     ∀ (l0 t1 t2 g lw lo:Addr) (as bs fp:List Addr) (T' U:Tab) (z o:List Int) (k n m:Nat) (x7:Option V) (G:Hp),Tb G t1 as T'→Tb G t2 bs U→TabOk k n T'→TabOk k m U→1≤n→n≤6→1≤m→m≤6→Ints G lw z→Ints G lo o→(∀ l∈z,Let k l)→(∀ l∈o,Let k l)→z.length≤10000→o.length≤10000→
      ChAt C G g k (met (prodT k n m T' U) k (n * m) 0).length (renT (prodT k n m T' U) (met (prodT k n m T' U) k (n * m) 0)) fp→
      u { nx:=fun _ H'=>Q .non H',rt:=Q } [some (.ref sc),some (.ref l0),some (.int k),some (.ref t1),some (.ref t2),some (.ref g),some (.ref lw),x7,some (.ref lo),none,none,none,none] G:=by
    refine ⟨_,(@sC _ _ _ _ _ (@sS _ 9 _ _ _ _ _ sc_law.nd rfl (Or.inl rfl) (TB.pe0 hr (pv 5)) (by rfl) (.inl rfl))
    (@sC _ _ _ _ _ (@sS _ 10 _ _ _ _ _ sc_law.nd rfl (Or.inl rfl) (HO.pe hr (@aC _ _ _ _ _ (pv 5) pa_nil (by rfl))) (by rfl) (.inl rfl))
    (@sC _ _ _ _ _ (ps_if (pt_not (pt_val (WR.pe hr (@aC _ _ _ _ _ (pv 10) pa_nil (by rfl))))) (@sO _ _ _ (@sR _ _ _ _ pe_bl)) pss_nil)
    (@sC _ _ _ _ _ (ps_for PassesOwn.never rfl (pi_list (pe_slice sl_l (pv 10) po_none (po_some pe_int))) (pg_name (i:=11) sc_law.nd rfl (Or.inl rfl)) (@sO _ _ _ (ps_if (PW.pt (pw_or (pt_not (pt_val (HM.pe hr (@aC _ _ _ _ _ (pv 3) (@aC _ _ _ _ _ (pv 11) pa_nil (by rfl)) (by rfl))))) (pw_or1 (pt_not (pt_val (HM.pe hr (@aC _ _ _ _ _ (pv 4) (@aC _ _ _ _ _ (pv 11) pa_nil (by rfl)) (by rfl)))))))) (@sO _ _ _ (@sR _ _ _ _ pe_bl)) pss_nil)))
    (@sC _ _ _ _ _ (ps_for PassesOwn.never rfl (pi_list (@eL _ _ _ _ (@aC _ _ _ _ _ (pv 6) (@aC _ _ _ _ _ (pv 8) pa_nil (by rfl)) (by rfl)))) (pg_name (i:=11) sc_law.nd rfl (Or.inl rfl)) (@sC _ _ _ _ _ (@sS _ 12 _ _ _ _ _ sc_law.nd rfl (Or.inl rfl) (pe_and (HM.pe hr (@aC _ _ _ _ _ (pv 3) (@aC _ _ _ _ _ (pv 11) pa_nil (by rfl)) (by rfl))) (pe_one (HM.pe hr (@aC _ _ _ _ _ (pv 4) (@aC _ _ _ _ _ (pv 11) pa_nil (by rfl)) (by rfl))))) (by rfl) (.inl rfl))
    (@sO _ _ _ (ps_if (PW.pt (pw_or (pt_cmpR op_ne (HM.pe hr (@aC _ _ _ _ _ (pv 9) (@aC _ _ _ _ _ (pv 11) pa_nil (by rfl)) (by rfl))) (pv 12) (nomark _)) (pw_or1 (pt_cmpR op_ne (pe_cmpR op_eq (TRA.pe hr (pv 5) (@aC _ _ _ _ _ pe_int (@aC _ _ _ _ _ (pv 11) pa_nil (by rfl)) (by rfl))) pe_int (nomark _)) (pv 12) (nomark _))))) (@sO _ _ _ (@sR _ _ _ _ pe_bl)) pss_nil))))
    (@sO _ _ _ (@sR _ _ _ _ pe_bl))))))),?_⟩
    intro l0 t1 t2 g lw lo as bs fp T' U z o k n m x7 G tb ub ok okU n1 n6 m1 m6 iz io zl ol zn on hc
    have hh:=fun {w:List Int} (hl:∀ l∈w,Let k l)=>meet_home ok okU n1 m1 hl
    obtain ⟨dx,lo1,li1,as1,bs1,I1,efp,hg,_⟩:=id hc.ob
    have okC:=hc.ok
    have c1:=hc.n1
    have c7:=hc.n7
    have c36:(met (prodT k n m T' U) k (n * m) 0).length≤36:=by
     have h1:=OInv.len (met_inv (prod_ok ok okU) (k:=k) (base:=0) (Nat.mul_pos n1 m1)).1
     have h2:n * m≤36:=Nat.le_trans (Nat.mul_le_mul n6 m6) (by decide)
     omega
    generalize (met (prodT k n m T' U) k (n * m) 0).length=N at hc okC c1 c7 c36
    generalize renT (prodT k n m T' U) (met (prodT k n m T' U) k (n * m) 0)=P' at hc okC hh
    have rok:=fun (r:List Int) (hr:r∈hrows P' k N)=>hrow_ok okC (by omega) hr
    have ol1:=OInv.len (met_inv okC (k:=k) (base:=0) (by omega)).1
    refine ⟨_,rfl,g,dx,_,rfl,hg,chf_no ..,g,k,N,P',fp,rfl,hc,fun t3 ts3 H1 ft3 fts3 nd3 tb3 s1=>?_⟩
    refine ⟨_,rfl,g,k,N,P',fp,rfl,hc.same s1,fun lr ps H2 f2 fa2 nd2 il2 e2 s2=>?_⟩
    have rps:∀ p∈ps,RowOk2 P' k (met P' k N 0).length p.2:=fun p hp=>rok p.2 (by rw [← e2];exact List.mem_map.mpr ⟨p,hp,rfl⟩)
    refine ⟨_,rfl,lr,ps,rfl,il2,fun p hp=>⟨(rps p hp).rd,(rps p hp).ne,by have:=(rps p hp).ln;omega⟩,fun H3 s3=>⟨_,rfl,iteF ?_⟩⟩
    have il3:=il2.same s3
    have s03:=s1.trans (s2.trans s3)
    refine ⟨_,rfl,_,rfl,rd_sliceV il3.is fun ls H4 f4 h4 s4=>?_⟩
    have s04:=s03.trans s4
    have il4:=il3.same s4
    have homeL:∀ (t:Addr) (as':List Addr) (V':Tab) (N':Nat) (H5:Hp) (lz:Addr) (zz:List Int) (R:VK) (EE:XK),Tb H5 t as' V'→TabOk k N' V'→1≤N'→N'≤36→Ints H5 lz zz→(∀ l∈zz,Let k l)→zz.length≤10000→(∀ H',Same H5 H'→R (.bl (decide (wgo V' (some 0) (cut zz)=some 0))) H')→spHomeA [.ref t,.ref lz] H5 R EE:=fun t as' V' N' H5 lz zz R EE tbb okk a1 a2 izz zzl zzn r=>⟨k,t,lz,as',V',N',zz,rfl,tbb,okk,a1,by omega,izz,zzl,zzn,r⟩
    have hhb:=fun {zz:List Int} (hl:∀ l∈zz,Let k l)=>hh (cut_all hl)
    refine ⟨ls,rfl,⟨_,SqL.of h4⟩,for_list (K:=K) (a:=ls) (xs:=cutV (ps.map fun p=>V.ref p.1) none (some 9)) (fun i σ H5=>∃ x11:Option V,σ=[some (.ref sc),some (.ref l0),some (.int k),some (.ref t1),some (.ref t2),some (.ref g),some (.ref lw),x7,some (.ref lo),some (.ref t3),some (.ref lr),x11,none]∧Same H4 H5) ⟨_,rfl,Same.refl _⟩ (fun i σ H5 _ ⟨_,_,s⟩=>SqL.of (s _ _ h4)) ?_ ?_⟩
    · rintro i x σ H5 hi ⟨x11,rfl,s5⟩
      have hm:=List.mem_of_getElem? hi
      unfold cutV at hm
      obtain ⟨p,hp,rfl⟩:=List.mem_map.mp (List.mem_of_mem_drop (List.mem_of_mem_take hm))
      have rp:=rps p hp
      have ip:=s5.ints (il4.iv p hp)
      have s05:=s04.trans s5
      have hb:=(hh rp.ll).mp rp.hm
      have ln:p.2.length≤10000:=by have:=rp.ln;omega
      refine ⟨_,rfl,_,rfl,homeL t1 as T' n H5 p.1 p.2 _ _ (tb.same s05) ok n1 (by omega) ip rp.ll ln fun H6 s6=>⟨_,rfl,?_⟩⟩
      rw [rp.rd,decide_eq_true hb.1]
      refine iteF ⟨_,rfl,_,rfl,homeL t2 bs U m H6 p.1 p.2 _ _ (ub.same (s05.trans s6)) okU m1 (by omega) (s6.ints ip) rp.ll ln fun H7 s7=>⟨_,rfl,?_⟩⟩
      rw [rp.rd,decide_eq_true hb.2]
      exact iteF ⟨_,rfl,s5.trans (s6.trans s7)⟩
    · rintro σ H5 ⟨x11,rfl,s5⟩
      have s05:=s04.trans s5
      refine ⟨_,rfl,_,rfl,rd_lsV (by show 2≤1000;decide) fun lq H6 f6 h6 s6=>?_⟩
      have s06:=s05.trans s6
      have tb3':Tb H6 t3 ts3 P':=tb3.same (s2.trans (s3.trans (s4.trans (s5.trans s6))))
      refine ⟨lq,rfl,⟨_,SqL.of h6⟩,for_list (K:=K) (a:=lq) (xs:=[.ref lw,.ref lo]) (fun i σ H7=>∃ x11 x12:Option V,σ=[some (.ref sc),some (.ref l0),some (.int k),some (.ref t1),some (.ref t2),some (.ref g),some (.ref lw),x7,some (.ref lo),some (.ref t3),some (.ref lr),x11,x12]∧Same H6 H7) ⟨_,_,rfl,Same.refl _⟩ (fun i σ H7 _ ⟨_,_,_,s⟩=>SqL.of (s _ _ h6)) ?_ ?_⟩
      · rintro i x σ H7 hi ⟨x11,x12,rfl,s7⟩
        have s07:=s06.trans s7
        obtain ⟨la,zz,rfl,ia,al,an⟩:∃ (la:Addr) (zz:List Int),x=.ref la∧Ints H7 la zz∧(∀ l∈zz,Let k l)∧zz.length≤10000:=by
         match i,hi with
         | 0,hi=>exact ⟨lw,z,(Option.some.inj hi).symm,s07.ints iz,zl,zn⟩
         | 1,hi=>exact ⟨lo,o,(Option.some.inj hi).symm,s07.ints io,ol,on⟩
         | _+2,hi=>cases hi
        have hz:decide (wgo P' (some 0) (cut zz)=some 0)=(decide (wgo T' (some 0) (cut zz)=some 0) && decide (wgo U (some 0) (cut zz)=some 0)):=by
         rw [← Bool.decide_and]
         exact decide_eq_decide.mpr (hhb al)
        refine ⟨_,rfl,_,rfl,homeL t1 as T' n H7 la zz _ _ (tb.same s07) ok n1 (by omega) ia al an fun H8 s8=>⟨_,rfl,?_⟩⟩
        have eT:decide (oV (wgo P' (some ((0:Nat):Int)) (cut zz))=V.int 0)=decide (wgo P' (some 0) (cut zz)=some 0):=by
         show decide (oV (wgo P' (some 0) (cut zz))=V.int 0)=_
         cases wgo P' (some 0) (cut zz) with
         | none=>rw [decide_eq_false (fun z=>nomatch z),decide_eq_false (fun z=>nomatch z)]
         | some y=>
          refine decide_eq_decide.mpr ⟨fun z=>congrArg some (V.int.inj z),fun z=>?_⟩
          rw [Option.some.inj z];rfl
        have sc0:scal (oV (wgo P' (some ((0:Nat):Int)) (cut zz))) (.int 0)=true:=by cases wgo P' (some ((0:Nat):Int)) (cut zz) <;> rfl
        cases e1:decide (wgo T' (some 0) (cut zz)=some 0) with
        | true=>
         refine iteT ⟨_,rfl,_,rfl,homeL t2 bs U m H8 la zz _ _ (ub.same (s07.trans s8)) okU m1 (by omega) (s8.ints ia) al an fun H9 s9=>?_⟩
         rw [e1,Bool.true_and] at hz
         rw [← hz]
         have s79:=s8.trans s9
         refine w_name ?_
         refine ⟨_,rfl,_,rfl,homeL t3 ts3 P' N H9 la zz _ _ (tb3'.same (s7.trans s79)) okC (by omega) c36 (s79.ints ia) al an fun H10 s10=>⟨_,rfl,rfl,_,rfl,iteFe (by simp) ?_⟩⟩
         have s710:=s79.trans s10
         refine ⟨_,rfl,g,dx,_,rfl,s07.trans s710 _ _ hg,chf_no ..,_,rfl,g,k,N,P',fp,0,la,zz,rfl,hc.same (s07.trans s710),by omega,s710.ints ia,by omega,al,fun H11 s11=>⟨sc0,?_⟩⟩
         rw [eT]
         exact ⟨_,rfl,rfl,_,rfl,iteFe (by simp) ⟨_,_,rfl,s7.trans (s710.trans s11)⟩⟩
        | false=>
         rw [e1,Bool.false_and] at hz
         refine iteF (w_bl hz.symm ?_)
         have s79:=s8
         refine w_name ?_
         refine ⟨_,rfl,_,rfl,homeL t3 ts3 P' N H8 la zz _ _ (tb3'.same (s7.trans s79)) okC (by omega) c36 (s79.ints ia) al an fun H10 s10=>⟨_,rfl,rfl,_,rfl,iteFe (by simp) ?_⟩⟩
         have s710:=s79.trans s10
         refine ⟨_,rfl,g,dx,_,rfl,s07.trans s710 _ _ hg,chf_no ..,_,rfl,g,k,N,P',fp,0,la,zz,rfl,hc.same (s07.trans s710),by omega,s710.ints ia,by omega,al,fun H11 s11=>⟨sc0,?_⟩⟩
         rw [eT]
         exact ⟨_,rfl,rfl,_,rfl,iteFe (by simp) ⟨_,_,rfl,s7.trans (s710.trans s11)⟩⟩
      · rintro σ H7 ⟨x11,x12,rfl,s7⟩
        exact kk _
   obtain ⟨u10,hu10,kk10⟩:=rest10
   have rest9:∃ u:TS,PSs (cxOf CX0 P w K mg base ["_law_script","_law_numbers_here","_law_kinds","_law_one","_law_two","_law_chart","_law_way_here","_law_end","_law_other","_law_table_here","_law_rows","_law_some","_law_both"] "law" (defScope s_law) f cdv A outer s H E).nox ((defBody s_law).drop 9) u∧
     ∀ (l0 t1 t2 g lw:Addr) (as bs fp:List Addr) (T' U:Tab) (ms z:List Int) (k n m:Nat) (x7:Option V) (G:Hp),Ints G l0 ms→ms.length=90→Tb G t1 as T'→Tb G t2 bs U→TabOk k n T'→TabOk k m U→1≤k→k≤5→1≤n→n≤6→1≤m→m≤6→Ints G lw z→(∀ l∈z,Let k l)→z.length≤10000→
      ChAt C G g k (met (prodT k n m T' U) k (n * m) 0).length (renT (prodT k n m T' U) (met (prodT k n m T' U) k (n * m) 0)) fp→
      u { nx:=fun _ H'=>Q .non H',rt:=Q } [some (.ref sc),some (.ref l0),some (.int k),some (.ref t1),some (.ref t2),some (.ref g),some (.ref lw),x7,none,none,none,none,none] G:=by
    refine ⟨_,(@sC _ _ _ _ _ (@sS _ 8 _ _ _ _ _ sc_law.nd rfl (Or.inl rfl) (WA.pe hr (@aC _ _ _ _ _ (pe_slice sl_l (pv 1) (po_some pe_int) (po_some (pe_op op_add pe_int (pe_op op_mod (pe_ix ix_l (pv 1) pe_int (fun _ _=>rfl)) pe_int)))) (@aC _ _ _ _ _ (pv 2) pa_nil (by rfl)) (by rfl))) (by rfl) (.inl rfl))
    hu10),?_⟩
    intro l0 t1 t2 g lw as bs fp T' U ms z k n m x7 G h0 hm tb ub ok okU k1 k5 n1 n6 m1 m6 iz zl zn hc
    refine ⟨_,rfl,_,rfl,_,rfl,rd_at 30 h0 (by omega) ⟨_,_,rfl,rfl,(by show (0:Int) < 10;decide),_,_,rfl,rfl,_,rfl,rd_slice h0 fun lp H1 f1 i1 s1=>?_⟩⟩
    have c1:=cutL_len ms (some 20) (some (20+ms.getD 30 0 % 10))
    refine ⟨_,rfl,lp,_,(k:Int),rfl,SqL.of i1,by omega,by omega,by omega,fun lo H2 f2 i2 s2=>?_⟩
    have s12:=s1.trans s2
    refine kk10 l0 t1 t2 g lw lo as bs fp T' U z _ k n m x7 H2 (tb.same s12) (ub.same s12) ok okU n1 n6 m1 m6 (s12.ints iz) i2 zl (fun l hl'=>?_) zn (by rw [List.length_map];omega) (hc.same s12)
    obtain ⟨y,_,rfl⟩:=List.mem_map.mp hl'
    exact letter_Let k1 y
   obtain ⟨u9,hu9,kk9⟩:=rest9
   have rest5:∃ u:TS,PSs (cxOf CX0 P w K mg base ["_law_script","_law_numbers_here","_law_kinds","_law_one","_law_two","_law_chart","_law_way_here","_law_end","_law_other","_law_table_here","_law_rows","_law_some","_law_both"] "law" (defScope s_law) f cdv A outer s H E).nox ((defBody s_law).drop 5) u∧
     ∀ (l0 t1 t2:Addr) (as bs:List Addr) (T' U:Tab) (ms:List Int) (k n m:Nat) (G:Hp),Ints G l0 ms→ms.length=90→Tb G t1 as T'→Tb G t2 bs U→TabOk k n T'→TabOk k m U→1≤k→k≤5→1≤n→n≤6→1≤m→m≤6→
      u { nx:=fun _ H'=>Q .non H',rt:=Q } [some (.ref sc),some (.ref l0),some (.int k),some (.ref t1),some (.ref t2),none,none,none,none,none,none,none,none] G:=by
    refine ⟨_,(@sC _ _ _ _ _ (@sS _ 5 _ _ _ _ _ sc_law.nd rfl (Or.inl rfl) (MET.pe0 hr (@aC _ _ _ _ _ (CH.pe hr (@aC _ _ _ _ _ (pv 2) (@aC _ _ _ _ _ (pv 3) pa_nil (by rfl)) (by rfl))) (@aC _ _ _ _ _ (CH.pe hr (@aC _ _ _ _ _ (pv 2) (@aC _ _ _ _ _ (pv 4) pa_nil (by rfl)) (by rfl))) pa_nil (by rfl)) (by rfl))) (by rfl) (.inl rfl))
    (@sC _ _ _ _ _ (ps_asg (RO.pe hr (@aC _ _ _ _ _ (pv 3) (@aC _ _ _ _ _ (pv 2) (@aC _ _ _ _ _ pe_int (@aC _ _ _ _ _ (pe_slice sl_l (pv 1) (po_some pe_int) (po_some (pe_op op_add pe_int (pe_op op_mod (pe_ix ix_l (pv 1) pe_int (fun _ _=>rfl)) pe_int)))) pa_nil (by rfl)) (by rfl)) (by rfl)) (by rfl))) (pg_tup rfl (pgs_cons (pg_name (i:=6) sc_law.nd rfl (Or.inl rfl)) (pgs_cons (pg_name (i:=7) sc_law.nd rfl (Or.inl rfl)) pgs_nil))))
    (@sC _ _ _ _ _ (@sS _ 6 _ _ _ _ _ sc_law.nd rfl (Or.inl rfl) (pe_op op_rep.wr (pe_op op_catW (pv 6) (TU.pe hr (@aC _ _ _ _ _ (pe_dget hu1 (PA.pe hr (@aC _ _ _ _ _ (pv 3) (@aC _ _ _ _ _ (pv 2) pa_nil (by rfl)) (by rfl))) (pv 7) (fun _ _=>rfl)) pa_nil (by rfl)))) (pe_op op_add pe_int (pe_op op_mod (pe_ix ix_l (pv 1) pe_int (fun _ _=>rfl)) pe_int))) (by rfl) (.inl rfl))
    (@sC _ _ _ _ _ (ps_if (pt_cmpR op_eq (pe_op op_mod (pe_ix ix_l (pv 1) pe_int (fun _ _=>rfl)) pe_int) pe_int (nomark _)) (@sO _ _ _ (@sS _ 6 _ _ _ _ _ sc_law.nd rfl (Or.inl rfl) (pe_op op_catW (pe_slice sl_l (pv 6) (po_some pe_int) po_none) (WA.pe hr (@aC _ _ _ _ _ (@eL _ _ _ _ (@aC _ _ _ _ _ (pe_ix ix_l (pv 1) pe_int (fun _ _=>rfl)) pa_nil (by rfl))) (@aC _ _ _ _ _ (pv 2) pa_nil (by rfl)) (by rfl)))) (by rfl) (.inl rfl))) pss_nil)
    hu9)))),?_⟩
    intro l0 t1 t2 as bs T' U ms k n m G h0 hm tb ub ok okU k1 k5 n1 n6 m1 m6
    have tr:Tree T' k n:=⟨ok,by omega⟩
    have nm:n * m≤700:=Nat.le_trans (Nat.mul_le_mul n6 m6) (by decide)
    refine ⟨_,rfl,_,rfl,fun x dx nx ndx nex=>?_⟩
    have sx:Same G (upd (upd G dx (.own x)) x (.ins C dx [])):=((Same.refl G).upd ndx).upd nx
    refine ⟨x,dx,k,n,t1,as,T',rfl,upd_same,tb.same sx,ok,k1,k5,n1,by omega,fun H3 fp hc3 ff kp=>⟨rfl,?_⟩⟩
    have s3:Same G H3:=fun b o e=>kp b o (sx b o e) fun z=>by rw [z,nx] at e;cases e
    refine ⟨_,rfl,_,rfl,fun y dy ny ndy ney=>?_⟩
    have sy:Same H3 (upd (upd H3 dy (.own y)) y (.ins C dy [])):=((Same.refl H3).upd ndy).upd ny
    refine ⟨y,dy,k,m,t2,bs,U,rfl,upd_same,(ub.same s3).same sy,okU,k1,k5,m1,by omega,fun H4 fq hd4 ff4 kp4=>⟨rfl,?_⟩⟩
    have s4:Same H3 H4:=fun b o e=>kp4 b o (sy b o e) fun z=>by rw [z,ny] at e;cases e
    refine ⟨x,y,k,k,n,m,T',U,fp,fq,rfl,hc3.same s4,hd4,nm,fun _ g fr H5 fg ffr hg5 s5=>?_,fun z=>absurd rfl z⟩
    have s05:=s3.trans (s4.trans s5)
    have h5:=s05.ints h0
    refine ⟨_,rfl,_,rfl,_,rfl,_,rfl,_,rfl,rd_at 8 h5 (by omega) ⟨_,_,rfl,rfl,(by show (0:Int) < 8;decide),_,_,rfl,rfl,_,rfl,rd_slice h5 fun lq H6 f6 i6 s6=>?_⟩⟩
    have a0:=Int.emod_nonneg (ms.getD 8 0) (show (8:Int)≠0 by decide)
    have a1:=Int.emod_lt_of_pos (ms.getD 8 0) (show (0:Int) < 8 by decide)
    have c3:(cutL ms (some 10) (some (11+ms.getD 8 0 % 8))).length≤8:=by
     obtain ⟨q,eq,q1,q8⟩:∃ q:Nat,(11:Int)+ms.getD 8 0 % 8=(q:Int)∧11≤q∧q≤18:=⟨(11+ms.getD 8 0 % 8).toNat,by omega,by omega,by omega⟩
     rw [eq,show (10:Int)=((10:Nat):Int) from rfl,cutL_ft _ _ _ (by omega),List.length_take]
     omega
    have s06:=s05.trans s6
    refine ⟨t1,as,T',k,n,0,lq,_,rfl,tb.same s06,ok,k1,k5,by omega,by omega,i6,by omega,fun q lw ws d H7 fq' flw hq ilw hl ew hdn wl s7=>?_⟩
    refine ⟨q,_,rfl,SqT.of hq,rfl,_,_,rfl,_,_,rfl,rfl,?_⟩
    have s07:=s06.trans s7
    refine ⟨_,rfl,_,rfl,_,rfl,t1,as,T',k,n,rfl,tb.same s07,ok,k1,k5,n1,by omega,fun dd W H8 fd fw wi eW s8=>?_⟩
    have ek:keys W=met T' k n 0:=by rw [← era_keys,eW,metW_map]
    have dm':=tr.end ws tr.zero hl ew
    obtain ⟨la,dg,ila⟩:=fw.get wi.nd (c:=d) (by rw [ek];exact dm')
    rw [eW] at ila
    have wyl:(wy T' k n d).length≤1000:=(met_winv ok (b:=0) (by omega)).short (by omega) _ (tr.ent dm')
    refine ⟨_,rfl,dd,_,rfl,dg,la,wy T' k n d,rfl,SqL.of ila,by omega,fun lt H9 f9 i9 s9=>?_⟩
    have ilw9:=s9.ints (s8.ints ilw)
    refine rd_cat ilw9 i9 (by show _+(turn (wy T' k n d)).length≤_;rw [turn_length];omega) fun lz HA fA iA sA=>?_
    have s0A:=s07.trans (s8.trans (s9.trans sA))
    have iA:Ints HA lz (ws++turn (wy T' k n d)):=iA
    have zl:∀ l∈ws++turn (wy T' k n d),Let k l:=fun l hl'=>(List.mem_append.mp hl').elim (hl l) (turn_Let (tr.ll dm') l)
    have zn:(ws++turn (wy T' k n d)).length≤1008:=by rw [List.length_append,turn_length];omega
    generalize ws++turn (wy T' k n d)=z at iA zl zn
    have hA:=s0A.ints h0
    have e0:=Int.emod_nonneg (ms.getD 9 0) (show (6:Int)≠0 by decide)
    have e1:=Int.emod_lt_of_pos (ms.getD 9 0) (show (0:Int) < 6 by decide)
    obtain ⟨c,ec,c1,c6⟩:∃ c:Nat,(1:Int)+ms.getD 9 0 % 6=(c:Int)∧1≤c∧c≤6:=⟨(1+ms.getD 9 0 % 6).toNat,by omega,by omega,by omega⟩
    have zc:z.length * c≤6048:=Nat.le_trans (Nat.mul_le_mul zn c6) (by decide)
    refine ⟨_,rfl,rd_at 9 hA (by omega) ⟨_,_,rfl,rfl,(by show (0:Int) < 6;decide),_,_,rfl,rfl,?_⟩⟩
    refine (?_:Wr (rRep (V.ref lz) (V.int (1+ms.getD 9 0 % 6)) HA _))
    rw [ec]
    refine rd_repI iA (by omega) (by omega) (by rw [Int.toNat_natCast];omega) fun lz2 HB fB iB sB=>?_
    rw [Int.toNat_natCast] at iB
    have zl2:∀ l∈(List.replicate c z).flatten,Let k l:=fun l hl'=>by
     obtain ⟨u,hu,hl2⟩:=List.mem_flatten.mp hl'
     exact zl l ((List.eq_of_mem_replicate hu)▸hl2)
    have zn2:((List.replicate c z).flatten).length≤6048:=by
     rw [flat_len,Nat.mul_comm];exact zc
    generalize (List.replicate c z).flatten=z2 at iB zl2 zn2
    have s0B:=s0A.trans sB
    have hB:=s0B.ints h0
    have hgB:=hg5.same (s6.trans (s7.trans (s8.trans (s9.trans (sA.trans sB)))))
    refine ⟨_,rfl,rd_at 19 hB (by omega) ⟨_,_,rfl,rfl,(by show (0:Int) < 3;decide),rfl,_,rfl,ite2 (fun _=>?_) fun _=>?_⟩⟩
    · refine ⟨_,rfl,_,rfl,rd_slice iB fun b1 HC fC iC sC=>?_⟩
      have d1:=cutL_len z2 (some 1) none
      refine ⟨_,rfl,rd_at 18 (sC.ints hB) (by omega) (rd_lst [ms.getD 18 0] fun b2 HD fD iD sD=>?_)⟩
      refine ⟨_,rfl,b2,_,(k:Int),rfl,SqL.of iD,by simp,by omega,by omega,fun b3 HE fE iE sE=>?_⟩
      refine rd_cat ((sD.trans sE).ints iC) iE (by simp;omega) fun b4 HF fF iF sF=>?_
      have sBF:=sC.trans (sD.trans (sE.trans sF))
      have s0F:=s0B.trans sBF
      refine kk9 l0 t1 t2 g b4 as bs fr T' U ms _ k n m _ HF (s0F.ints h0) hm (tb.same s0F) (ub.same s0F) ok okU k1 k5 n1 n6 m1 m6 iF (fun l hl'=>?_) (by simp;omega) (hgB.same sBF)
      rcases List.mem_append.mp hl' with w | w
      · exact zl2 l (cutL_sub w)
      · obtain ⟨y',_,rfl⟩:=List.mem_map.mp w
        exact letter_Let k1 y'
    · exact kk9 l0 t1 t2 g lz2 as bs fr T' U ms z2 k n m _ HB hB hm (tb.same s0B) (ub.same s0B) ok okU k1 k5 n1 n6 m1 m6 iB zl2 (by omega) hgB
   obtain ⟨u5,hu5,kk5⟩:=rest5
   refine ⟨_,(@sC _ _ _ _ _ (@sS _ 1 _ _ _ _ _ sc_law.nd rfl (Or.inl rfl) (N.pe hr (@aC _ _ _ _ _ (pv 0) (@aC _ _ _ _ _ pe_int pa_nil (by rfl)) (by rfl))) (by rfl) (.inl rfl))
    (@sC _ _ _ _ _ (@sS _ 2 _ _ _ _ _ sc_law.nd rfl (Or.inl rfl) (pe_op op_add pe_int (pe_op op_mod (pe_ix ix_l (pv 1) pe_int (fun _ _=>rfl)) pe_int)) (by rfl) (.inl rfl))
    (@sC _ _ _ _ _ (@sS _ 3 _ _ _ _ _ sc_law.nd rfl (Or.inl rfl) (TA.pe hr (@aC _ _ _ _ _ (pv 2) (@aC _ _ _ _ _ (pe_op op_add pe_int (pe_op op_mod (pe_ix ix_l (pv 1) pe_int (fun _ _=>rfl)) pe_int)) (@aC _ _ _ _ _ (pe_slice sl_l (pv 1) (po_some pe_int) po_none) (@aC _ _ _ _ _ (pe_op op_mod (pe_ix ix_l (pv 1) pe_int (fun _ _=>rfl)) pe_int) pa_nil (by rfl)) (by rfl)) (by rfl)) (by rfl))) (by rfl) (.inl rfl))
    (@sC _ _ _ _ _ (@sS _ 4 _ _ _ _ _ sc_law.nd rfl (Or.inl rfl) (TA.pe hr (@aC _ _ _ _ _ (pv 2) (@aC _ _ _ _ _ (pe_op op_add pe_int (pe_op op_mod (pe_ix ix_l (pv 1) pe_int (fun _ _=>rfl)) pe_int)) (@aC _ _ _ _ _ (pe_slice sl_l (pv 1) (po_some pe_int) po_none) (@aC _ _ _ _ _ (pe_op op_mod (pe_ix ix_l (pv 1) pe_int (fun _ _=>rfl)) pe_int) pa_nil (by rfl)) (by rfl)) (by rfl)) (by rfl))) (by rfl) (.inl rfl))
    (@sC _ _ _ _ _ (ps_if (pt_cmpR op_eq (pe_op op_mod (pe_ix ix_l (pv 1) pe_int (fun _ _=>rfl)) pe_int) pe_int (nomark _)) (@sC _ _ _ _ _ (ps_compW 4 [] [] sc_law.nd (pi_list (pv 3)) (fun C s H fp=>pe_callTy (listK K rfl) rfl T.list bt_list (pa_cons (pv 0) pa_nil)) hcl_nil)
    (@sO _ _ _ (ps_asg pe_non (pg_sub (pe_ix ix_l (pv 4) (pe_op op_mod (pe_ix ix_l (pv 1) pe_int (fun _ _=>rfl)) (pe_callB call_len_seq (by rfl) T.len PySem.boot_len (@aC _ _ _ _ _ (pv 4) pa_nil (by rfl)))) (fun _ _=>rfl)) (pe_op op_mod (pe_ix ix_l (pv 1) pe_int (fun _ _=>rfl)) (pv 2)) set_list)))) pss_nil)
    hu5))))),?_⟩
   refine ⟨_,rfl,sc,ns,90,rfl,hS,hn,by decide,fun l0 ms H1 hms hg f0 h0 s1=>?_⟩
   have small:∀ (z:Int),∃ n:Nat,(1:Int)+z % 6=(n:Int)∧1≤n∧n≤6:=fun z=>by
    have a0:=Int.emod_nonneg z (show (6:Int)≠0 by decide)
    have a1:=Int.emod_lt_of_pos z (show (0:Int) < 6 by decide)
    exact ⟨(1+z % 6).toNat,by omega,by omega,by omega⟩
   have k0:=Int.emod_nonneg (ms.getD 0 0) (show (3:Int)≠0 by decide)
   have k0':=Int.emod_lt_of_pos (ms.getD 0 0) (show (0:Int) < 3 by decide)
   obtain ⟨k,ek,k1,k3⟩:∃ k:Nat,(1:Int)+ms.getD 0 0 % 3=(k:Int)∧1≤k∧k≤3:=⟨(1+ms.getD 0 0 % 3).toNat,by omega,by omega,by omega⟩
   obtain ⟨n,en,n1,n6⟩:=small (ms.getD 1 0)
   obtain ⟨m,em,m1,m6⟩:=small (ms.getD 3 0)
   have kn:k * n≤18:=Nat.le_trans (Nat.mul_le_mul k3 n6) (by decide)
   have km:k * m≤18:=Nat.le_trans (Nat.mul_le_mul k3 m6) (by decide)
   have d1:(cutL ms (some 40) none).length=50:=by
    rw [show (40:Int)=((40:Nat):Int) from rfl,cutL_from,List.length_drop,hms]
   have d2:(cutL ms (some 60) none).length=30:=by
    rw [show (60:Int)=((60:Nat):Int) from rfl,cutL_from,List.length_drop,hms]
   refine ⟨_,rfl,rd_at 0 h0 (by omega) ⟨_,_,rfl,rfl,(by show (0:Int) < 3;decide),_,_,rfl,rfl,?_⟩⟩
   show gName 2 (V.int (1+ms.getD 0 0 % 3)) _ _ _
   rw [ek]
   refine ⟨_,rfl,_,rfl,rd_at 1 h0 (by omega) ⟨_,_,rfl,rfl,(by show (0:Int) < 6;decide),_,_,rfl,rfl,_,rfl,_,rfl,rd_slice h0 fun ld H2 f2 i2 s2=>?_⟩⟩
   refine ⟨_,rfl,rd_at 2 (s2.ints h0) (by omega) ⟨_,_,rfl,rfl,(by show (0:Int) < 6;decide),?_⟩⟩
   refine ⟨k,n,ld,_,_,(by show [V.int k,V.int (1+ms.getD 1 0 % 6),V.ref ld,V.int _]++[]=_;rw [en];rfl),i2,k1,by omega,n1,by omega,by rw [d1];omega,fun t as T' H3 ft fa nd tb ok _ s3=>?_⟩
   have h3:=s3.ints (s2.ints h0)
   refine ⟨_,rfl,_,rfl,rd_at 3 h3 (by omega) ⟨_,_,rfl,rfl,(by show (0:Int) < 6;decide),_,_,rfl,rfl,_,rfl,_,rfl,rd_slice h3 fun le H4 f4 i4 s4=>?_⟩⟩
   refine ⟨_,rfl,rd_at 4 (s4.ints h3) (by omega) ⟨_,_,rfl,rfl,(by show (0:Int) < 6;decide),?_⟩⟩
   refine ⟨k,m,le,_,_,(by show [V.int k,V.int (1+ms.getD 3 0 % 6),V.ref le,V.int _]++[]=_;rw [em];rfl),i4,k1,by omega,m1,by omega,by rw [d2];omega,fun t2 bs U H5 ft2 fa2 nd2 ub okU _ s5=>?_⟩
   have h5:=s5.ints (s4.ints h3)
   have tb5:=tb.same (s4.trans s5)
   refine ⟨_,rfl,rd_at 5 h5 (by omega) ⟨_,_,rfl,rfl,(by show (0:Int) < 4;decide),rfl,_,rfl,ite2 (fun _=>?_) fun _=>kk5 l0 t t2 as bs T' U ms k n m H5 h5 hms tb5 ub ok okU k1 (by omega) n1 n6 m1 m6⟩⟩
   have lT:=ok.len
   refine ⟨_,rfl,t,rfl,⟨_,SqL.of tb5.is⟩,comp_tabL (xs:=as.map V.ref) T' (SqL.of tb5.is) (by rw [List.length_map,tb5.len]) (by rw [List.length_map,tb5.len];omega) (fun i x r hi hr2 H6 s6 Q' q'=>?_) fun t6 cs H6 N6=>?_⟩
   · obtain ⟨a,rfl,ea⟩:=get_adr hi
     exact ⟨_,rfl,rd_listO ((tb5.rw i a r ea hr2).same s6) q'⟩
   refine w_name ?_
   have h6:=N6.sm.ints h5
   have l6:((cs.map V.ref).length:Int)=n:=by rw [List.length_map,N6.tb.len,lT]
   have np:(0:Int) < n:=by omega
   have a0:=Int.emod_nonneg (ms.getD 6 0) (show (n:Int)≠0 by omega)
   have a1:=Int.emod_lt_of_pos (ms.getD 6 0) np
   obtain ⟨c,ec,cn⟩:∃ c:Nat,ms.getD 6 0 % (n:Int)=(c:Int)∧c < n:=⟨(ms.getD 6 0 % (n:Int)).toNat,by omega,by omega⟩
   have b0:=Int.emod_nonneg (ms.getD 7 0) (show (k:Int)≠0 by omega)
   have b1:=Int.emod_lt_of_pos (ms.getD 7 0) (show (0:Int) < k by omega)
   obtain ⟨j,ej,jk⟩:∃ j:Nat,ms.getD 7 0 % (k:Int)=(j:Int)∧j < k:=⟨(ms.getD 7 0 % (k:Int)).toNat,by omega,by omega⟩
   obtain ⟨ra,era,mra,eT,hra⟩:=N6.tb.at (i:=c) (by rw [lT];exact cn)
   have rl:(T'.getD c []).length=k:=ok.row _ (List.mem_of_getElem? eT)
   refine ⟨_,rfl,_,rfl,rd_at 6 h6 (by omega) ⟨_,rfl,t6,_,rfl,.inl (SqL.of N6.tb.is),_,_,rfl,rfl,(by rw [l6];exact np),rd_row c N6.tb era ⟨_,rfl,rd_at 7 h6 (by omega) ⟨_,rfl,_,_,rfl,rfl,(by show (0:Int) < k;omega),ra,_,(j:Int),j,rfl,?_,hra,?_,?_⟩⟩ (by rw [l6];exact ec)⟩⟩
   · show V.int (ms.getD 7 0 % (k:Int))=_
     rw [ej]
   · unfold ixN
     rw [if_pos (by omega),if_pos (by rw [List.length_map];omega)];rfl
   · have eh:((T'.getD c []).map oV).set j V.non=((T'.getD c []).set j none).map oV:=by rw [List.map_set];rfl
     have N7:=N6.set era ((T'.getD c []).set j none)
     rw [← eh] at N7
     exact kk5 l0 t t6 as cs T' _ ms k n n _ (N7.sm.ints h5) hms (tb5.same N7.sm) N7.tb ok (ok.less cn j) k1 (by omega) n1 n6 n1 n6
end
theorem all_mk {l:PySem.W.OpenLaw}{w:World}{K:PySem.W.Frag}{h:Heap}{mg:Str→Option Value}{fa f1 f2 f3 f4 f5 f6 f7 f8 f9 f10 f11 f12 f13 f14 f15 f16 f17 f18 f19 f20 f21 f22 f23 f24 f25 f26 f27 f28 f29 f30 f31 f32 f33 CChart CNoChart CCaveError:Addr} (X:K.In h) (G:h.Ns mainGlobals mg) (hfa:mg "law"=some (.ref fa))
  {d1 d2 d3 d4 d5 d6 d7 d8 d9 d10 d11 d12 d13 d14 d15 d16 d17 d18 d19 d20 d21 d22 d23 d24 d25 d26 d27 d28 d29 d30 d31 d32 d33:FuncData}{tkMK tkMC:Tok}{ddWNoChart dWnNoChart:Option Addr}{nmWNoChart qnWNoChart:Str}{bsWNoChart subWNoChart:List Value}{nsWNoChart:Addr}{hdWNoChart abWNoChart:Bool}{snWNoChart:List Str}{colWNoChart:Option Bool}{q0NoChart q1NoChart q2NoChart q3NoChart q5NoChart:Option Value}{cWnNoChart:Value}{esWNoChart:Array DictEntry}{nWnNoChart:Nat}{slWNoChart:Array (Option Value)}{odB dBn:Option Addr}{nmB qnB:Str}{bsB subB mroB:List Value}{nsB:Addr}{hdB abB delB:Bool}{snB:List Str}{colB:Option Bool}{cBn ocB:Value}{esB:Array DictEntry}{nBn:Nat}{slB oslB:Array (Option Value)}
  (a1:PySem.W.nsIn K mainGlobals "_law_numbers"=some (some (.ref f1)))
  (F1:Fun K "_law_numbers" "_law_numbers" s__law_numbers f1 d1)
  (a2:PySem.W.nsIn K mainGlobals "_law_way"=some (some (.ref f2)))
  (F2:Fun K "_law_way" "_law_way" s__law_way f2 d2)
  (a3:PySem.W.nsIn K mainGlobals "_law_cut"=some (some (.ref f3)))
  (F3:Fun K "_law_cut" "_law_cut" s__law_cut f3 d3)
  (a4:PySem.W.nsIn K mainGlobals "_law_turn"=some (some (.ref f4)))
  (F4:Fun K "_law_turn" "_law_turn" s__law_turn f4 d4)
  (a5:PySem.W.nsIn K mainGlobals "_law_is_way"=some (some (.ref f5)))
  (F5:Fun K "_law_is_way" "_law_is_way" s__law_is_way f5 d5)
  (a6:PySem.W.nsIn K mainGlobals "_law_table"=some (some (.ref f6)))
  (F6:Fun K "_law_table" "_law_table" s__law_table f6 d6)
  (a7:PySem.W.nsIn K mainGlobals "_law_led"=some (some (.ref f7)))
  (F7:Fun K "_law_led" "_law_led" s__law_led f7 d7)
  (a8:PySem.W.nsIn K mainGlobals "_law_trace"=some (some (.ref f8)))
  (F8:Fun K "_law_trace" "_law_trace" s__law_trace f8 d8)
  (a9:PySem.W.nsIn K mainGlobals "_law_round"=some (some (.ref f9)))
  (F9:Fun K "_law_round" "_law_round" s__law_round f9 d9)
  (a10:PySem.W.nsIn K mainGlobals "_law_paths"=some (some (.ref f10)))
  (F10:Fun K "_law_paths" "_law_paths" s__law_paths f10 d10)
  (a11:PySem.W.nsIn K mainGlobals "_law_ways_right"=some (some (.ref f11)))
  (F11:Fun K "_law_ways_right" "_law_ways_right" s__law_ways_right f11 d11)
  (a12:PySem.W.nsIn K mainGlobals "_law_home"=some (some (.ref f12)))
  (F12:Fun K "_law_home" "_law_home" s__law_home f12 d12)
  (a13:PySem.W.nsIn K mainGlobals "check_shape"=some (some (.ref f13)))
  (F13:Fun K "check_shape" "check_shape" s_check_shape f13 d13)
  (a14:PySem.W.nsIn K mainGlobals "beginnings"=some (some (.ref f14)))
  (F14:Fun K "beginnings" "beginnings" s_beginnings f14 d14)
  (a15:PySem.W.nsIn K mainGlobals "check_letters"=some (some (.ref f15)))
  (F15:Fun K "check_letters" "check_letters" s_check_letters f15 d15)
  (a16:PySem.W.nsIn K mainGlobals "cancelled"=some (some (.ref f16)))
  (F16:Fun K "cancelled" "cancelled" s_cancelled f16 d16)
  (a17:PySem.W.nsIn K mainGlobals "turned"=some (some (.ref f17)))
  (F17:Fun K "turned" "turned" s_turned f17 d17)
  (a18:PySem.W.nsIn K mainGlobals "letters_in_order"=some (some (.ref f18)))
  (F18:Fun K "letters_in_order" "letters_in_order" s_letters_in_order f18 d18)
  (a19:PySem.W.nsIn K mainGlobals "ways_from"=some (some (.ref f19)))
  (F19:Fun K "ways_from" "ways_from" s_ways_from f19 d19)
  (a20:PySem.W.nsIn K mainGlobals "is_used"=some (some (.ref f20)))
  (F20:Fun K "is_used" "is_used" s_is_used f20 d20)
  (a21:PySem.W.nsIn K mainGlobals "loose_passages"=some (some (.ref f21)))
  (F21:Fun K "loose_passages" "loose_passages" s_loose_passages f21 d21)
  (a22:PySem.W.nsIn K mainGlobals "home_row"=some (some (.ref f22)))
  (F22:Fun K "home_row" "home_row" s_home_row f22 d22)
  (a23:PySem.W.nsIn K mainGlobals "homes"=some (some (.ref f23)))
  (F23:Fun K "homes" "homes" s_homes f23 d23)
  (a24:PySem.W.nsIn K mainGlobals "pair_step"=some (some (.ref f24)))
  (F24:Fun K "pair_step" "pair_step" s_pair_step f24 d24)
  (a25:PySem.W.nsIn K mainGlobals "pairs_in_order"=some (some (.ref f25)))
  (F25:Fun K "pairs_in_order" "pairs_in_order" s_pairs_in_order f25 d25)
  (a26:PySem.W.nsIn K mainGlobals "met"=some (some (.ref f26)))
  (F26:Fun K "met" "met" s_met f26 d26)
  (a27:PySem.W.findIn K (.ref CChart) "__init__"=some (some (.ref f27))) (i27:PySem.W.isFn K (.ref f27)=true)
  (F27:Fun K "__init__" "Chart.__init__" s_Chart___init__ f27 d27)
  (a28:PySem.W.findIn K (.ref CChart) "size"=some (some (.ref f28))) (i28:PySem.W.isFn K (.ref f28)=true)
  (F28:Fun K "size" "Chart.size" s_Chart_size f28 d28)
  (a29:PySem.W.findIn K (.ref CChart) "table"=some (some (.ref f29))) (i29:PySem.W.isFn K (.ref f29)=true)
  (F29:Fun K "table" "Chart.table" s_Chart_table f29 d29)
  (a30:PySem.W.findIn K (.ref CChart) "check_chamber"=some (some (.ref f30))) (i30:PySem.W.isFn K (.ref f30)=true)
  (F30:Fun K "check_chamber" "Chart.check_chamber" s_Chart_check_chamber f30 d30)
  (a31:PySem.W.findIn K (.ref CChart) "step"=some (some (.ref f31))) (i31:PySem.W.isFn K (.ref f31)=true)
  (F31:Fun K "step" "Chart.step" s_Chart_step f31 d31)
  (a32:PySem.W.findIn K (.ref CChart) "trace"=some (some (.ref f32))) (i32:PySem.W.isFn K (.ref f32)=true)
  (F32:Fun K "trace" "Chart.trace" s_Chart_trace f32 d32)
  (a33:PySem.W.nsIn K mainGlobals "law"=some (some (.ref f33)))
  (F33:Fun K "law" "law" s_law f33 d33)
  (aChart:PySem.W.nsIn K mainGlobals "Chart"=some (some (.ref CChart))) (pgChart:PySem.W.plainGet K CChart Str.empty=true) (hdChart:PySem.W.hasDictIn K CChart=true) (poChart:PySem.W.plainOver K CChart=true) (saChart:PySem.W.findIn K (.ref CChart) "__setattr__"=some (some (.builtin "object.__setattr__"))) (mkChart:PySem.W.makesIn K CChart=true) (kcChart:PySem.W.keepIn K (.ref CChart)=true)
  (nChart_kinds:PySem.W.findIn K (.ref CChart) "kinds"=some none)
  (nChart_onward:PySem.W.findIn K (.ref CChart) "onward"=some none)
  (nChart_inward:PySem.W.findIn K (.ref CChart) "inward"=some none)
  (z1:PySem.W.nsIn K mainGlobals "len"=some none)
  (z2:PySem.W.nsIn K mainGlobals "range"=some none)
  (z3:PySem.W.nsIn K mainGlobals "list"=some none)
  (z4:PySem.W.nsIn K mainGlobals "int"=some none)
  (z5:PySem.W.nsIn K mainGlobals "bool"=some none)
  (z6:PySem.W.nsIn K mainGlobals "isinstance"=some none)
  (z7:PySem.W.nsIn K mainGlobals "tuple"=some none)
  (z8:PySem.W.nsIn K mainGlobals "abs"=some none)
  (z9:PySem.W.nsIn K mainGlobals "enumerate"=some none)
  (z10:PySem.W.nsIn K mainGlobals "str"=some none)
  (z_sum:PySem.W.nsIn K mainGlobals "sum"=some none)
  (aNoChart:PySem.W.nsIn K mainGlobals "NoChart"=some (some (.ref CNoChart)))
  (aCaveError:PySem.W.nsIn K mainGlobals "CaveError"=some (some (.ref CCaveError)))
  (yMK:PySem.W.nsIn K mainGlobals "MOST_KINDS"=some (some (.int 5 tkMK)))
  (yMC:PySem.W.nsIn K mainGlobals "MOST_CHAMBERS"=some (some (.int 700 tkMC)))
  (e7:PySem.W.specialIn K (.builtin "object.__class__") "__get__"=some (some (.builtin "getset_descriptor.__get__")))
  (e8:PySem.W.takesIn K (.builtin "object.__class__")=some true)
  (lWNoChart:K.lookup CNoChart=some ⟨.type "type",ddWNoChart,.cls ⟨nmWNoChart,bsWNoChart,.ref CNoChart::.ref CCaveError::veMro,nsWNoChart,qnWNoChart,hdWNoChart,snWNoChart,subWNoChart,abWNoChart,colWNoChart,false⟩, #[q0NoChart,q1NoChart,q2NoChart,q3NoChart,some (.builtin "ValueError.__new__"),q5NoChart]⟩)
  (lWnNoChart:K.lookup nsWNoChart=some ⟨cWnNoChart,dWnNoChart,.dict esWNoChart nWnNoChart,slWNoChart⟩)
  (hWNoChart:esWNoChart.toList.all strKey=true)
  (iWNoChart:PySem.W.nsIn K nsWNoChart "__init__"=some none)
  (lB:K.lookup CCaveError=some ⟨ocB,odB,.cls ⟨nmB,bsB,mroB,nsB,qnB,hdB,snB,subB,abB,colB,delB⟩,oslB⟩)
  (lBn:K.lookup nsB=some ⟨cBn,dBn,.dict esB nBn,slB⟩)
  (hB:esB.toList.all strKey=true)
  (iB:PySem.W.nsIn K nsB "__init__"=some none)
  :
  ∃ fd:FuncData,(∀ (s:Shared) (v:Value),BindsTo s fd ⟨[v],[]⟩ [("_law_script",v)])∧∀ base:Heap,K.In base→base.Ns mainGlobals mg→FnOk l.prog w K mg base CX0 7 fa fd ["_law_script"] (spLaw K):=by
 have e:=hfa.symm.trans (PySem.W.mg_of X G a33)
 cases e
 have T:Txt K mg:=⟨PySem.W.mg_none_of X G z1,PySem.W.mg_none_of X G z2,PySem.W.mg_none_of X G z3,PySem.W.mg_none_of X G z4,PySem.W.mg_none_of X G z5,PySem.W.mg_none_of X G z6,PySem.W.mg_none_of X G z7,PySem.W.mg_none_of X G z8,PySem.W.mg_none_of X G z9,PySem.W.mg_none_of X G z10⟩
 have CLChart:Cls K CChart:=⟨pgChart,hdChart,poChart,saChart⟩
 have TC:TxtC K mg CChart:=⟨CLChart,nChart_kinds,nChart_onward,nChart_inward,⟨_,PySem.W.mg_of X G yMK⟩,⟨_,PySem.W.mg_of X G yMC⟩,PySem.W.mg_none_of X G z_sum⟩
 let CS:Nat→Addr:=fun j=>([0,0,0,0,0,0,CNoChart,0,0,0,0]:List Addr).getD j 0
 have V6:isVe K CNoChart=true:=isVe_mk lWNoChart (nsOk_mk lWnNoChart hWNoChart) iWNoChart lB (nsOk_mk lBn hB) iB
 have b1:=F1.binds (ps:=["_law_script","_law_many"]) fun _ _ _ _ _ _ us hl=>by obtain ⟨_,_,rfl⟩:=us2 hl;rfl
 have b2:=F2.binds (ps:=["_law_draws","_law_kinds"]) fun _ _ _ _ _ _ us hl=>by obtain ⟨_,_,rfl⟩:=us2 hl;rfl
 have b3:=F3.binds (ps:=["_law_way_here"]) fun _ _ _ _ _ _ us hl=>by obtain ⟨_,rfl⟩:=us1 hl;rfl
 have b4:=F4.binds (ps:=["_law_way_here"]) fun _ _ _ _ _ _ us hl=>by obtain ⟨_,rfl⟩:=us1 hl;rfl
 have b5:=F5.binds (ps:=["_law_found"]) fun _ _ _ _ _ _ us hl=>by obtain ⟨_,rfl⟩:=us1 hl;rfl
 have b6:=F6.binds (ps:=["_law_kinds","_law_size","_law_draws","_law_share"]) fun _ _ _ _ _ _ us hl=>by obtain ⟨_,_,_,_,rfl⟩:=us4 hl;rfl
 have b7:=F7.binds (ps:=["_law_table_here","_law_here","_law_one"]) fun _ _ _ _ _ _ us hl=>by obtain ⟨_,_,_,rfl⟩:=us3 hl;rfl
 have b8:=F8.binds (ps:=["_law_table_here","_law_here","_law_way_here"]) fun _ _ _ _ _ _ us hl=>by obtain ⟨_,_,_,rfl⟩:=us3 hl;rfl
 have b9:=F9.binds (ps:=["_law_table_here","_law_kinds","_law_here","_law_draws"]) fun _ _ _ _ _ _ us hl=>by obtain ⟨_,_,_,_,rfl⟩:=us4 hl;rfl
 have b10:=F10.binds (ps:=["_law_table_here","_law_kinds"]) fun _ _ _ _ _ _ us hl=>by obtain ⟨_,_,rfl⟩:=us2 hl;rfl
 have b11:=F11.binds (ps:=["_law_found"]) fun _ _ _ _ _ _ us hl=>by obtain ⟨_,rfl⟩:=us1 hl;rfl
 have b12:=F12.binds (ps:=["_law_table_here","_law_way_here"]) fun _ _ _ _ _ _ us hl=>by obtain ⟨_,_,rfl⟩:=us2 hl;rfl
 have b13:=F13.binds (ps:=["kinds","table"]) fun _ _ _ _ _ _ us hl=>by obtain ⟨_,_,rfl⟩:=us2 hl;rfl
 have b14:=F14.binds (ps:=["ends"]) fun _ _ _ _ _ _ us hl=>by obtain ⟨_,rfl⟩:=us1 hl;rfl
 have b15:=F15.binds (ps:=["kinds","way"]) fun _ _ _ _ _ _ us hl=>by obtain ⟨_,_,rfl⟩:=us2 hl;rfl
 have b16:=F16.binds (ps:=["way"]) fun _ _ _ _ _ _ us hl=>by obtain ⟨_,rfl⟩:=us1 hl;rfl
 have b17:=F17.binds (ps:=["way"]) fun _ _ _ _ _ _ us hl=>by obtain ⟨_,rfl⟩:=us1 hl;rfl
 have b18:=F18.binds (ps:=["chart"]) fun _ _ _ _ _ _ us hl=>by obtain ⟨_,rfl⟩:=us1 hl;rfl
 have b19:=F19.binds (ps:=["chart","base"]) fun _ _ _ _ _ _ us hl=>by obtain ⟨_,_,rfl⟩:=us2 hl;rfl
 have b20:=F20.binds (ps:=["ways","chamber","kind","there"]) fun _ _ _ _ _ _ us hl=>by obtain ⟨_,_,_,_,rfl⟩:=us4 hl;rfl
 have b21:=F21.binds (ps:=["chart","ways"]) fun _ _ _ _ _ _ us hl=>by obtain ⟨_,_,rfl⟩:=us2 hl;rfl
 have b22:=F22.binds (ps:=["ways","passage"]) fun _ _ _ _ _ _ us hl=>by obtain ⟨_,_,rfl⟩:=us2 hl;rfl
 have b23:=F23.binds (ps:=["chart"]) fun _ _ _ _ _ _ us hl=>by obtain ⟨_,rfl⟩:=us1 hl;rfl
 have b24:=F24.binds (ps:=["one","two","pair","letter"]) fun _ _ _ _ _ _ us hl=>by obtain ⟨_,_,_,_,rfl⟩:=us4 hl;rfl
 have b25:=F25.binds (ps:=["one","two"]) fun _ _ _ _ _ _ us hl=>by obtain ⟨_,_,rfl⟩:=us2 hl;rfl
 have b26:=F26.binds (ps:=["one","two"]) fun _ _ _ _ _ _ us hl=>by obtain ⟨_,_,rfl⟩:=us2 hl;rfl
 have b27:=F27.binds (ps:=["self","kinds","table"]) fun _ _ _ _ _ _ us hl=>by obtain ⟨_,_,_,rfl⟩:=us3 hl;rfl
 have b28:=F28.binds (ps:=["self"]) fun _ _ _ _ _ _ us hl=>by obtain ⟨_,rfl⟩:=us1 hl;rfl
 have b29:=F29.binds (ps:=["self"]) fun _ _ _ _ _ _ us hl=>by obtain ⟨_,rfl⟩:=us1 hl;rfl
 have b30:=F30.binds (ps:=["self","chamber"]) fun _ _ _ _ _ _ us hl=>by obtain ⟨_,_,rfl⟩:=us2 hl;rfl
 have b31:=F31.binds (ps:=["self","chamber","letter"]) fun _ _ _ _ _ _ us hl=>by obtain ⟨_,_,_,rfl⟩:=us3 hl;rfl
 have b32:=F32.binds (ps:=["self","chamber","way"]) fun _ _ _ _ _ _ us hl=>by obtain ⟨_,_,_,rfl⟩:=us3 hl;rfl
 obtain ⟨x1,x2,x3,x4,x5,x6,x7,x8,x9,e,_⟩:=F33.ex
 subst e
 refine ⟨PySem.W.fnOf "law" "law" (defArgs s_law) (defBody s_law) (defScope s_law) .none x3 x4 x5 x6 x7 x8,fun s v=>.of_eq rfl,fun base _ _=>?_⟩
 let R__law_numbers:Rdy l.prog w K mg base "_law_numbers" ["_law_script","_law_many"] 1 (spNumL K):=⟨f1,_,ok_num F1 T,PySem.W.mg_of X G a1,F1.kp,b1⟩
 let R__law_way:Rdy l.prog w K mg base "_law_way" ["_law_draws","_law_kinds"] 1 (spWay K):=⟨f2,_,ok_way F2,PySem.W.mg_of X G a2,F2.kp,b2⟩
 let R__law_cut:Rdy l.prog w K mg base "_law_cut" ["_law_way_here"] 1 (spCan K):=⟨f3,_,ok_cut F3 T,PySem.W.mg_of X G a3,F3.kp,b3⟩
 let R__law_turn:Rdy l.prog w K mg base "_law_turn" ["_law_way_here"] 1 (spTurn K):=⟨f4,_,ok_turn F4,PySem.W.mg_of X G a4,F4.kp,b4⟩
 let R__law_is_way:Rdy l.prog w K mg base "_law_is_way" ["_law_found"] 1 spIs:=⟨f5,_,ok_is F5 T,PySem.W.mg_of X G a5,F5.kp,b5⟩
 let R__law_table:Rdy l.prog w K mg base "_law_table" ["_law_kinds","_law_size","_law_draws","_law_share"] 1 spTable:=⟨f6,_,ok_table F6 T,PySem.W.mg_of X G a6,F6.kp,b6⟩
 let R__law_led:Rdy l.prog w K mg base "_law_led" ["_law_table_here","_law_here","_law_one"] 1 spLed:=⟨f7,_,ok_led F7 T,PySem.W.mg_of X G a7,F7.kp,b7⟩
 let R__law_trace:Rdy l.prog w K mg base "_law_trace" ["_law_table_here","_law_here","_law_way_here"] 2 spTrc:=⟨f8,_,ok_trc F8 R__law_led,PySem.W.mg_of X G a8,F8.kp,b8⟩
 let R__law_round:Rdy l.prog w K mg base "_law_round" ["_law_table_here","_law_kinds","_law_here","_law_draws"] 2 spRound:=⟨f9,_,ok_round F9 T R__law_led,PySem.W.mg_of X G a9,F9.kp,b9⟩
 let R__law_paths:Rdy l.prog w K mg base "_law_paths" ["_law_table_here","_law_kinds"] 2 spPaths:=⟨f10,_,ok_paths F10 T R__law_led,PySem.W.mg_of X G a10,F10.kp,b10⟩
 let R__law_ways_right:Rdy l.prog w K mg base "_law_ways_right" ["_law_found"] 2 spWR:=⟨f11,_,ok_wr F11 T R__law_is_way R__law_cut,PySem.W.mg_of X G a11,F11.kp,b11⟩
 let R__law_home:Rdy l.prog w K mg base "_law_home" ["_law_table_here","_law_way_here"] 3 spHomeA:=⟨f12,_,ok_home F12 R__law_cut R__law_trace,PySem.W.mg_of X G a12,F12.kp,b12⟩
 let R_check_shape:Rdy l.prog w K mg base "check_shape" ["kinds","table"] 1 spShape:=⟨f13,_,ok_shape F13 T TC,PySem.W.mg_of X G a13,F13.kp,b13⟩
 let R_beginnings:Rdy l.prog w K mg base "beginnings" ["ends"] 1 spBeg:=⟨f14,_,ok_beg F14 T,PySem.W.mg_of X G a14,F14.kp,b14⟩
 let R_check_letters:Rdy l.prog w K mg base "check_letters" ["kinds","way"] 1 spCkL:=⟨f15,_,ok_ckl F15 T,PySem.W.mg_of X G a15,F15.kp,b15⟩
 let R_cancelled:Rdy l.prog w K mg base "cancelled" ["way"] 1 (spCan K):=⟨f16,_,ok_can F16,PySem.W.mg_of X G a16,F16.kp,b16⟩
 let R_turned:Rdy l.prog w K mg base "turned" ["way"] 1 (spTurn K):=⟨f17,_,ok_turned F17,PySem.W.mg_of X G a17,F17.kp,b17⟩
 let R_letters_in_order:Rdy l.prog w K mg base "letters_in_order" ["chart"] 1 (spLio CChart):=⟨f18,_,ok_lio F18 T TC,PySem.W.mg_of X G a18,F18.kp,b18⟩
 let R_is_used:Rdy l.prog w K mg base "is_used" ["ways","chamber","kind","there"] 1 spUsed:=⟨f20,_,ok_used F20,PySem.W.mg_of X G a20,F20.kp,b20⟩
 let R_home_row:Rdy l.prog w K mg base "home_row" ["ways","passage"] 2 spHRow:=⟨f22,_,ok_hrow F22 R_turned,PySem.W.mg_of X G a22,F22.kp,b22⟩
 let K_Chart:Rdk l.prog w K mg base CChart "Chart" ["self","kinds","table"] 2 (spInit CChart):=⟨f27,_,ok_init F27 T TC R_check_shape R_beginnings,⟨mkChart,a27,i27,kcChart⟩,PySem.W.mg_of X G aChart,b27⟩
 let M_Chart_size:Rdm l.prog w K mg base CChart "size" ["self"] 1 (spSize CChart):=⟨f28,_,ok_size F28 T TC,CLChart,⟨a28,i28,F28.kp⟩,b28⟩
 let M_Chart_table:Rdm l.prog w K mg base CChart "table" ["self"] 2 (spTabl CChart):=⟨f29,_,ok_tabl F29 T TC M_Chart_size,CLChart,⟨a29,i29,F29.kp⟩,b29⟩
 let M_Chart_check_chamber:Rdm l.prog w K mg base CChart "check_chamber" ["self","chamber"] 2 (spCkC CChart):=⟨f30,_,ok_ckc F30 M_Chart_size,CLChart,⟨a30,i30,F30.kp⟩,b30⟩
 let M_Chart_step:Rdm l.prog w K mg base CChart "step" ["self","chamber","letter"] 3 (spStep CChart):=⟨f31,_,ok_step F31 TC M_Chart_check_chamber R_check_letters,CLChart,⟨a31,i31,F31.kp⟩,b31⟩
 let M_Chart_trace:Rdm l.prog w K mg base CChart "trace" ["self","chamber","way"] 4 (spTrace CChart):=⟨f32,_,ok_trace F32 M_Chart_check_chamber TC R_check_letters M_Chart_step R_cancelled,CLChart,⟨a32,i32,F32.kp⟩,b32⟩
 let R_ways_from:Rdy l.prog w K mg base "ways_from" ["chart","base"] 4 (spWays CChart):=⟨f19,_,ok_ways F19 T R_letters_in_order M_Chart_step,PySem.W.mg_of X G a19,F19.kp,b19⟩
 let R_loose_passages:Rdy l.prog w K mg base "loose_passages" ["chart","ways"] 3 (spLoose CChart):=⟨f21,_,ok_loose F21 T M_Chart_table R_is_used,PySem.W.mg_of X G a21,F21.kp,b21⟩
 let R_homes:Rdy l.prog w K mg base "homes" ["chart"] 5 (spHomes CChart):=⟨f23,_,ok_homes F23 R_ways_from R_loose_passages R_home_row,PySem.W.mg_of X G a23,F23.kp,b23⟩
 let R_pair_step:Rdy l.prog w K mg base "pair_step" ["one","two","pair","letter"] 4 (spPstep CChart):=⟨f24,_,ok_pstep F24 T M_Chart_step,PySem.W.mg_of X G a24,F24.kp,b24⟩
 let R_pairs_in_order:Rdy l.prog w K mg base "pairs_in_order" ["one","two"] 5 (spPio CChart):=⟨f25,_,ok_pio F25 T R_letters_in_order R_pair_step,PySem.W.mg_of X G a25,F25.kp,b25⟩
 let R_met:Rdx l.prog w K mg base "met" ["one","two"] 6 (spMetX CChart CNoChart):=⟨f26,_,ok_met F26 (PySem.W.mg_of X G aNoChart) V6 T TC R_pair_step R_pairs_in_order K_Chart,PySem.W.mg_of X G a26,F26.kp,b26⟩
 exact ok_law F33 T TC R__law_numbers R__law_table K_Chart M_Chart_table M_Chart_trace R_met R_homes R__law_ways_right R__law_way R__law_turn R__law_home R__law_round R__law_paths
theorem walk {l:PySem.W.OpenLaw}{q:Program}{loose:List Str}{XP:(Str→Option Value)→Heap→Prop}{YP:World→Heap→Prop}{d:DefRec}{K:Params→PySem.W.Frag} (hn:l.most=some 63) (hdf:d.params.defaults=[])
  (hY:∀ (w:World) (h:Heap),YP w h→(K w.params).In h)
  (F:∀ (w:World) (mg:Str→Option Value) (fa:Addr) (h:Heap),(K w.params).In h→h.Ns mainGlobals mg→mg d.name=some (.ref fa)→
   ∃ fd:FuncData,(∀ (s:Shared) (u:Value),BindsTo s fd ⟨[u],[]⟩ [("_law_script",u)])∧∀ base:Heap,(K w.params).In base→base.Ns mainGlobals mg→FnOk l.prog w (K w.params) mg base CX0 7 fa fd ["_law_script"] (spLaw (K w.params))):
  PySem.W.WalkO q loose XP YP l.row.toRowW d [] (fun f vs=>PySem.call f vs):=
 L2.walk_of (n:=63) (k:=7) (x:="_law_script") (CX:=fun _=>CX0) (sp:=fun w=>spLaw (K w.params)) hn (by decide) hdf ⟨rfl,by decide,by decide⟩ hY F (fun _ _ a ns hl _ hS=>⟨a,ns,rfl,hS,hl,fun _=>rfl⟩) fun _ _ _ _ _ z=>z
end My
def PySem.W.Fast.tw17898527982358076803:Unit:=()
def PySem.W.Fast.tw909444420292742747:Unit:=()
def PySem.W.Fast.tw14417772477714735291:Unit:=()
def PySem.W.Fast.tw8909619617032233227:Unit:=()
def PySem.W.Fast.tw15750070934038625648:Unit:=()
def PySem.W.Fast.tw2563118648365443994:Unit:=()
def PySem.W.Fast.tw16794077976452135521:Unit:=()
def PySem.W.Fast.tw18420963583864300823:Unit:=()
def PySem.W.Fast.tw11083566940198877771:Unit:=()
def PySem.W.Fast.tw4620546115247526143:Unit:=()
def PySem.W.Fast.tw8735296277582706695:Unit:=()
def PySem.W.Fast.tw14403137835808885920:Unit:=()
def PySem.W.Fast.tw7415354871517571408:Unit:=()
def PySem.W.Fast.tw10931413068557757717:Unit:=()
def PySem.W.Fast.tw1437474942399629523:Unit:=()
def PySem.W.Fast.tw5504415211993747349:Unit:=()
def PySem.W.Fast.tw18280417716347770377:Unit:=()
def PySem.W.Fast.tw14562206047457799045:Unit:=()
def PySem.W.Fast.tw2426738410451855408:Unit:=()
def PySem.W.Fast.tw15502420964525959096:Unit:=()
def PySem.W.Fast.tw1450147511111042430:Unit:=()
def PySem.W.Fast.tw4692349954651525113:Unit:=()
def PySem.W.Fast.tw7326215394886628247:Unit:=()
def PySem.W.Fast.tw4551716408211737436:Unit:=()
def PySem.W.Fast.tw13537873096926489599:Unit:=()
def PySem.W.Fast.tw16757931528563763630:Unit:=()
def PySem.W.Fast.tw10393645504579751809:Unit:=()
def PySem.W.Fast.tw1721481114647277889:Unit:=()
def PySem.W.Fast.tw9393579953237256145:Unit:=()
def PySem.W.Fast.tw15474767289652685463:Unit:=()
def PySem.W.Fast.tw13523795045118371823:Unit:=()
def PySem.W.Fast.tw9870797280633552098:Unit:=()
def PySem.W.Fast.tw1492584774590124807:Unit:=()
def PySem.W.Fast.tw4489597381191895485:Unit:=()
def PySem.W.Fast.tw8758954715999735968:Unit:=()
def PySem.W.Fast.tw4967948690714318431:Unit:=()
def PySem.W.Fast.tw5481518090378343391:Unit:=()
def PySem.W.Fast.tw3224977946779064136:Unit:=()
def PySem.W.Fast.tw8193456592240993374:Unit:=()
def PySem.W.Fast.tw8486108522828591915:Unit:=()
def PySem.W.Fast.tw4805432376258838765:Unit:=()
def PySem.W.Fast.tw17393447697421840997:Unit:=()
def PySem.W.Fast.tw14830545904282808228:Unit:=()
def PySem.W.Fast.tw10487021413847432165:Unit:=()
def PySem.W.Fast.tw5710169880409942718:Unit:=()
def PySem.W.Fast.tw1131940773997839650:Unit:=()
def PySem.W.Fast.tw7533732388927386037:Unit:=()
def PySem.W.Fast.tw14581810204979691012:Unit:=()
def PySem.W.Fast.tw7853329523652246084:Unit:=()
def PySem.W.Fast.tw6147741634424350436:Unit:=()
def PySem.W.Fast.tw17201932388286519718:Unit:=()
def PySem.W.Fast.tw5461881237315009001:Unit:=()
def PySem.W.Fast.tw325804755424708986:Unit:=()
def PySem.W.Fast.tw2016441352373096278:Unit:=()
def PySem.W.Fast.tw13578461593062799076:Unit:=()
def PySem.W.Fast.tw16639944245732055999:Unit:=()
def PySem.W.Fast.tw11964309728557515083:Unit:=()
def PySem.W.Fast.tw11089937669742705052:Unit:=()
def PySem.W.Fast.tw10247224620793528193:Unit:=()
def PySem.W.Fast.tw11670568425639811139:Unit:=()
def PySem.W.Fast.tw12656654141355965647:Unit:=()
def PySem.W.Fast.tw8188860202316960100:Unit:=()
def PySem.W.Fast.tw17957411494969802960:Unit:=()
def PySem.W.Fast.tw16340239218106498346:Unit:=()
def PySem.W.Fast.tw815470140232355908:Unit:=()
def PySem.W.Fast.tw10521776829603529689:Unit:=()
def PySem.W.Fast.tw1078680142358449508:Unit:=()
def PySem.W.Fast.tw13143881331363332356:Unit:=()
def PySem.W.Fast.tw14428123026449877610:Unit:=()
def PySem.W.Fast.tw9579359489305643471:Unit:=()
def PySem.W.Fast.tw15350386423557565162:Unit:=()
def PySem.W.Fast.tw10714619658860059241:Unit:=()
def PySem.W.Fast.tw6464488886068318386:Unit:=()
def PySem.W.Fast.tw5287615559352528233:Unit:=()
def PySem.W.Fast.tw6390799293719373074:Unit:=()
def PySem.W.Fast.tw8979808557954142933:Unit:=()
def PySem.W.Fast.tw7208889349257639688:Unit:=()
def PySem.W.Fast.tw592630273983861240:Unit:=()
def PySem.W.Fast.tw13757180965692809769:Unit:=()
def PySem.W.Fast.tw2083798427128151239:Unit:=()
def PySem.W.Fast.tw10165614870113517683:Unit:=()
def PySem.W.Fast.tw6873626532016775937:Unit:=()
def PySem.W.Fast.tw11874006318879902979:Unit:=()
def PySem.W.Fast.tw10378032576708088656:Unit:=()
def PySem.W.Fast.tw13480724278525892857:PySem.Program:=PySem.Challenge.pw_chalkcave_k32_whole_home_in_both
theorem PySem.W.Fast.te13480724278525892857:PySem.Challenge.pw_chalkcave_k32_whole_home_in_both=PySem.W.Fast.tw13480724278525892857:=rfl
open PySem PySem.W PyProof.Rows
set_option maxRecDepth 100000 in
set_option maxHeartbeats 0 in
theorem PySem.Challenge.cw_chalkcave_k32_whole_home_in_both_holds : PySem.Challenge.rw_chalkcave_k32_whole_home_in_both.Holds := by
 w_on;o_law;k_head;(case hw=>w_witness2)
 k_fill
 refine My.walk (l:=PySem.Challenge.rw_chalkcave_k32_whole_home_in_both) rfl rfl (fun w h Y=>PySem.W.kIn_of Y) ?F
 case F=>
  intro w mg fa h KX G hmg
  refine' My.all_mk KX G hmg ?_ ?_ ?_ ?_ ?_ ?_ ?_ ?_ ?_ ?_ ?_ ?_ ?_ ?_ ?_ ?_ ?_ ?_ ?_ ?_ ?_ ?_ ?_ ?_ ?_ ?_ ?_ ?_ ?_ ?_ ?_ ?_ ?_ ?_ ?_ ?_ ?_ ?_ ?_ ?_ ?_ ?_ ?_ ?_ ?_ ?_ ?_ ?_ ?_ ?_ ?_ ?_ ?_ ?_ ?_ ?_ ?_ ?_ ?_ ?_ ?_ ?_ ?_ ?_ ?_ ?_ ?_ ?_ ?_ ?_ ?_ ?_ ?aChart ?_ ?_ ?_ ?_ ?_ ?_ ?_ ?_ ?_ ?_ ?_ ?_ ?_ ?_ ?_ ?_ ?_ ?_ ?_ ?_ ?aNoChart ?aCaveError ?_ ?_ ?_ ?_ ?_ ?_ ?_ ?_ ?_ ?_ ?_ ?_
  (case aChart=>k_is)
  (case aNoChart=>k_is)
  (case aCaveError=>k_is)
  all_goals first | (apply L2.fun_mk;k_is;k_is;k_is) | k_is | rfl | skip
