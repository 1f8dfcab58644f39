import PyProof.Rows.All
import Wide.All
import OpenK.AllK
import Wide.FinOn
import Lean
import PyProof.EqAt
import PyProof.EqKinds
import PyProof.TupleCall
import Wide.Seal
import PyProof.EnumMake
import PyProof.EnumStmt
import PyProof.EnumFor
import PyProof.StrWalks
import PyProof.StrCalls
import PyProof.DictCompW
import PyProof.ListRange
import PyProof.CompUse
import KE.KDictList
import PyProof.Rows.SumAny
import PyProof.ExcArgsOwn
import KE.KIsAll
import KE.KTryDeepN
import OpenK.KOwn
import KE.KTryMore
import PyProof.NsDelKeeps
import PyProof.SliceStr2
import KE.RegKIsAll
import KE.RegKTryMore
import PyProof.IsRules
import PyProof.AssignAttr
import PyProof.Rows.SortWalk
import KE.KRevIter
import PyProof.FactsAll.range_2
import PySem.Challenge.RW_chalkcave_k17_a_core_has_no_hairs
set_option Elab.async false
set_option linter.all false
set_option maxRecDepth 100000
namespace L2
open PySem PySem.Spec PyProof.Rows
abbrev Key:=Sum Int (Option Str)
def keyIs:Key→Value→Bool
 | .inl k,v=>Value.isInt k v
 | .inr (some x),v=>Value.isStrOf x v
 | .inr none,.none=>true
 | .inr none,_=>false
def keyH (w:World):Key→Int
 | .inl k=>hashInt k
 | .inr (some x)=>hashStr w x
 | .inr none=>reduceHash 0xFCA86420
theorem keyIs_shape:∀ {k:Key}{v:Value},keyIs k v=true→(∃ i t,k=Sum.inl i∧v=Value.int i t)∨(∃ x t,k=Sum.inr (some x)∧v=Value.str x t)∨(k=Sum.inr none∧v=Value.none)
 | .inl i,v,h=>by
  obtain ⟨t,e⟩:=Value.isInt_shape (k:=i) (v:=v) h
  exact .inl ⟨i,t,rfl,e⟩
 | .inr none,v,h=>by
  cases v <;> first | exact .inr (.inr ⟨rfl,rfl⟩) | exact absurd h (by simp [keyIs])
 | .inr (some x),v,h=>by
  obtain ⟨t,e⟩:=Value.isStrOf_shape (x:=x) (v:=v) h
  exact .inr (.inl ⟨x,t,rfl,e⟩)
theorem keyIs_int (i:Int) (t:Tok):keyIs (.inl i) (.int i t)=true:=by simp [keyIs,Value.isInt]
theorem keyIs_str (x:Str) (t:Tok):keyIs (.inr (some x)) (.str x t)=true:=by simp [keyIs,Value.isStrOf]
theorem key_ll (a b:Int):decide ((Sum.inl a:Key)=Sum.inl b)=(a == b):=by
 by_cases e:a=b
 · subst e;simp
 · have h:¬ (Sum.inl a:Key)=Sum.inl b:=fun q=>e (Sum.inl.inj q)
   rw [decide_eq_false h]
   exact (beq_eq_false_iff_ne.mpr e).symm
theorem key_rr (a b:Str):decide ((Sum.inr (some a):Key)=Sum.inr (some b))=decide (a=b):=by
 by_cases e:a=b
 · subst e;simp
 · have h:¬ (Sum.inr (some a):Key)=Sum.inr (some b):=fun q=>e (Option.some.inj (Sum.inr.inj q))
   rw [decide_eq_false h,decide_eq_false e]
theorem key_lr (a:Int) (b:Option Str):decide ((Sum.inl a:Key)=Sum.inr b)=false:=decide_eq_false (fun q=>nomatch q)
theorem key_rl (a:Option Str) (b:Int):decide ((Sum.inr a:Key)=Sum.inl b)=false:=decide_eq_false (fun q=>nomatch q)
theorem key_sn (a:Str):decide ((Sum.inr (some a):Key)=Sum.inr none)=false:=decide_eq_false (fun q=>nomatch q)
theorem key_ns (a:Str):decide ((Sum.inr none:Key)=Sum.inr (some a))=false:=decide_eq_false (fun q=>nomatch q)
theorem hash_non {prog:Program}{w:World}{A:Around}{E:Value→Shared→Prop}{s:Shared}{Q:Int→Shared→Prop} (h:Q (reduceHash 0xFCA86420) { s with toks:=s.toks+1 }):wpAny (model prog w) A (PySem.pyHash .none) Q E s:=
 PySem.W.pyHash_slot (T:="NoneType") rfl F.slot_NoneType_hash F.entry_NoneType_hash (F.args_NoneType_hash_1 _) (beq_builtin_none _) (.inl rfl) (wpAny_bind (wpAny_pure (wpAny_bind (wpAny_mkInt (wpAny_pure ⟨_,_,rfl,h⟩)))))
theorem eq_non {prog:Program}{w:World}{A:Around}{E:Value→Shared→Prop}{s:Shared}{Q:Bool→Shared→Prop} (h:Q true s):wpAny (model prog w) A (PySem.eqBool .none .none) Q E s:=by
 unfold PySem.eqBool
 refine wpAny_holding ?_
 exact wpAny_ite_split (fun _=>wpAny_bind (wpAny_rule (wpAny_pure h))) (fun z=>absurd rfl z)
def mixKind (prog:Program) (w:World):PySem.KeyKind prog w Key where
 is:=keyIs
 hash:=keyH w
 inj:=fun v a b ha hb=>by
  rcases keyIs_shape ha with ⟨i,t,rfl,rfl⟩ | ⟨x,t,rfl,rfl⟩ | ⟨rfl,rfl⟩
  · rcases keyIs_shape hb with ⟨j,u,rfl,e⟩ | ⟨y,u,rfl,e⟩ | ⟨rfl,e⟩
    · injection e with e1 _;rw [e1]
    · exact nomatch e
    · exact nomatch e
  · rcases keyIs_shape hb with ⟨j,u,rfl,e⟩ | ⟨y,u,rfl,e⟩ | ⟨rfl,e⟩
    · exact nomatch e
    · injection e with e1 _;rw [e1]
    · exact nomatch e
  · rcases keyIs_shape hb with ⟨j,u,rfl,e⟩ | ⟨y,u,rfl,e⟩ | ⟨rfl,e⟩
    · exact nomatch e
    · exact nomatch e
    · rfl
 byValue:=fun k v h=>by
  rcases keyIs_shape h with ⟨i,t,rfl,rfl⟩ | ⟨x,t,rfl,rfl⟩ | ⟨rfl,rfl⟩ <;> rfl
 pyHash:=fun hv h=>by
  rcases keyIs_shape hv with ⟨i,t,rfl,rfl⟩ | ⟨x,t,rfl,rfl⟩ | ⟨rfl,rfl⟩
  · exact wpAny_pyHash_int h
  · exact wpAny_pyHash_str h
  · exact hash_non h
 eqBool:=fun hu hv h=>by
  rcases keyIs_shape hu with ⟨i,t,rfl,rfl⟩ | ⟨x,t,rfl,rfl⟩ | ⟨rfl,rfl⟩
  · rcases keyIs_shape hv with ⟨j,u,rfl,rfl⟩ | ⟨y,u,rfl,rfl⟩ | ⟨rfl,rfl⟩
    · rw [key_ll] at h;exact wpAny_eqBool_int h
    · rw [key_lr] at h;exact SeqAt.EqAt.int_str i t y u _ _ _ _ h
    · rw [key_lr] at h;exact SeqAt.EqAt.int_none i t _ _ _ _ h
  · rcases keyIs_shape hv with ⟨j,u,rfl,rfl⟩ | ⟨y,u,rfl,rfl⟩ | ⟨rfl,rfl⟩
    · rw [key_rl] at h;exact SeqAt.EqAt.str_int x t j u _ _ _ _ h
    · rw [key_rr] at h;exact wpAny_eqBool_str h
    · rw [key_sn] at h;exact SeqAt.EqAt.str_none x t _ _ _ _ h
  · rcases keyIs_shape hv with ⟨j,u,rfl,rfl⟩ | ⟨y,u,rfl,rfl⟩ | ⟨rfl,rfl⟩
    · rw [key_rl] at h;exact SeqAt.EqAt.none_int j u _ _ _ _ h
    · rw [key_ns] at h;exact SeqAt.EqAt.none_str y u _ _ _ _ h
    · rw [decide_eq_true rfl] at h;exact eq_non h
 «strs»:=fun k x t v h=>by
  rcases keyIs_shape h with ⟨i,u,rfl,e⟩ | ⟨y,u,rfl,e⟩ | ⟨rfl,e⟩
  · exact nomatch e
  · injection e with e1 _
    subst e1
    cases v <;> rfl
  · exact nomatch e
theorem mixKind_int (prog:Program) (w:World) (i:Int) (t:Tok):(mixKind prog w).is (.inl i) (.int i t)=true:=keyIs_int i t
theorem mixKind_str (prog:Program) (w:World) (x:Str) (t:Tok):(mixKind prog w).is (.inr (some x)) (.str x t)=true:=keyIs_str x t
inductive V where
 | non | bl (b:Bool) | int (i:Int) | str (x:Str) | byt (b:Array UInt8) | flt (b:UInt64) | ref (a:Addr) | ty (n:String)
 deriving DecidableEq
def RelV:V→Value→Prop
 | .non,u=>u=Value.none
 | .bl b,u=>u=Value.bool b
 | .int i,u=>∃ t,u=Value.int i t
 | .str x,u=>∃ t,u=Value.str x t
 | .byt b,u=>∃ t,u=Value.bytes b t
 | .flt b,u=>∃ t,u=Value.float b t
 | .ref a,u=>u=Value.ref a
 | .ty n,u=>u=Value.type n
abbrev Vals:List V→List Value→Prop:=Paired RelV
theorem Vals.length {xs:List V}{us:List Value} (r:Vals xs us):xs.length=us.length:=Paired.length r
theorem Vals.get:∀ {xs:List V}{us:List Value}{i:Nat}{x:V},Vals xs us→xs[i]?=some x→∃ u,us[i]?=some u∧RelV x u
 | _,_,_,_,.nil,e=>by simp at e
 | _,_,0,_,.cons r _,e=>by simp at e;subst e;exact ⟨_,rfl,r⟩
 | _,_,i+1,x,.cons _ t,e=>by
  obtain ⟨u,h1,h2⟩:=Vals.get (i:=i) (x:=x) t (by simpa using e)
  exact ⟨u,by simpa using h1,h2⟩
theorem Vals.set {x:V}{u:Value} (r:RelV x u):∀ {xs:List V}{us:List Value} (i:Nat),Vals xs us→Vals (xs.set i x) (us.set i u)
 | _,_,_,.nil=>.nil
 | _,_,0,.cons _ t=>.cons r t
 | _,_,i+1,.cons q t=>.cons q (Vals.set r i t)
theorem Vals.append:∀ {xs ys:List V}{us ws:List Value},Vals xs us→Vals ys ws→Vals (xs++ys) (us++ws)
 | _,_,_,_,.nil,s=>s
 | _,_,_,_,.cons r t,s=>.cons r (Vals.append t s)
theorem Vals.take:∀ {xs:List V}{us:List Value} (n:Nat),Vals xs us→Vals (xs.take n) (us.take n)
 | _,_,0,_=>.nil
 | _,_,_+1,.nil=>.nil
 | _,_,n+1,.cons r t=>.cons r (Vals.take n t)
theorem Vals.drop:∀ {xs:List V}{us:List Value} (n:Nat),Vals xs us→Vals (xs.drop n) (us.drop n)
 | _,_,0,r=>r
 | _,_,_+1,.nil=>.nil
 | _,_,n+1,.cons _ t=>Vals.drop n t
def RelO:Option V→Option Value→Prop
 | some v,some u=>RelV v u
 | none,none=>True
 | _,_=>False
def KV {κ:Type}:List (κ × V)→List (κ × Value)→Prop:=Paired fun (p:κ × V) (q:κ × Value)=>p.1=q.1∧RelV p.2 q.2
def kV:Key→V
 | .inl i=>.int i
 | .inr (some x)=>.str x
 | .inr none=>.non
inductive HO where
 | lst (xs:List V)
 | tup (xs:List V)
 | dK (kvs:List (Key × V)) | dT (kvs:List (List Key × V))
 | set (S:Int→Bool) (n:Nat)
 | ins (C dx:Addr) (fs:List (Str × V))
 | own (x:Addr)
 | xd (fs:List (Str × V))
 | met (f x:Addr)
 | rng (lo hi:Int)
 | frz (o:Obj) (u:HO)
 | tbl (ps:Array Value)
 | ext (φ:Heap→Prop)
abbrev Hp:=Addr→Option HO
def upd (H:Hp) (a:Addr) (o:HO):Hp:=fun b=>if b=a then some o else H b
theorem upd_same {H:Hp}{a:Addr}{o:HO}:upd H a o a=some o:=by unfold upd;rw [if_pos rfl]
theorem upd_ne {H:Hp}{a b:Addr}{o:HO} (h:b≠a):upd H a o b=H b:=by unfold upd;rw [if_neg h]
theorem upd_upd {H:Hp}{a:Addr}{o u:HO}:upd (upd H a o) a u=upd H a u:=by
 funext b;unfold upd;split <;> rfl
theorem ne_of {H:Hp}{a b:Addr}{o u:HO} (h:H a=some o) (h':H b=some u) (d:o≠u):a≠b:=by
 intro e;subst e;rw [h] at h';exact d (Option.some.inj h')
theorem ne_of_none {H:Hp}{a b:Addr}{o:HO} (h:H a=some o) (h':H b=none):a≠b:=by
 intro e;subst e;rw [h] at h';cases h'
section
variable (P:Program) (w:World)
def ObjOk (H:Hp) (h:Heap) (a:Addr):HO→Prop
 | .lst xs=>xs.length≤sizeLine∧∃ (its:List Value) (n:Nat),Vals xs its∧h.get? a=some { cls:=.type "list",data:=.seq its.toArray n }
 | .tup xs=>xs.length≤sizeLine∧∃ its:List Value,Vals xs its∧IsTup h a its.toArray
 | .dK kvs=>kvs.length≤sizeLine∧(a == sysModules)=false∧∃ vs,KV kvs vs∧h.DictOf (mixKind P w) a vs
 | .dT kvs=>kvs.length≤sizeLine∧(a == sysModules)=false∧∃ xs:List (List Key × Addr × Value),
   Paired (fun (p:List Key × V) (q:List Key × Addr × Value)=>p.1=q.1∧H q.2.1=some (.tup (p.1.map kV))∧RelV p.2 q.2.2) kvs xs∧
   ∃ o es ep,h.get? a=some o∧o.ExactDict∧o.data=.dict es ep∧es.toList=xs.map (entryOfKey (tupleKind (mixKind P w)))∧(xs.map (·.1)).Nodup
 | .set S n=>h.SetOf (intKind P w) a S n
 | .ins C dx fs=>H dx=some (.own a)∧fs.length≤1000∧dx≠a∧h.get? a=some (PySem.W.instObj C dx)∧
   ∃ mA,h.Ns1 dx mA∧(∀ f,RelO (fs.lookup f) (mA f))∧PySem.Within mA (fs.map (·.1))
 | .own _=>∃ o,h.get? a=some o
 | .xd fs=>∃ mA,h.Ns1 a mA∧∀ f,RelO (fs.lookup f) (mA f)
 | .rng lo hi=>∃ t u v,h.get? a=some { cls:=.type "range",data:=.fields #[.int lo t,.int hi u,.int 1 v] }
 | .frz o u=>h.get? a=some o∧ObjOk H h a u
 | .tbl ps=>h.get? a=some { cls:=.none,data:=.fields ps }
 | .met f x=>h.get? a=some (PySem.W.methodObj (.ref f) (.ref x))
 | .ext φ=>φ h∧(∃ o,h.get? a=some o)∧∀ h1 h2:Heap,φ h1→(∀ o,h1.get? a=some o→h2.get? a=some o)→φ h2
def HOk (H:Hp) (h:Heap):Prop:=∀ a o,H a=some o→ObjOk P w H h a o
end
section
variable {P:Program}{w:World}{H H':Hp}{h h':Heap}{a:Addr}{o:HO}
theorem ObjOk.lt (x:ObjOk P w H h a o):a < h.objs.size:=by
 cases o with
 | lst xs=>obtain ⟨_,_,_,_,e⟩:=x;exact Heap.lt_size e
 | tup xs=>obtain ⟨_,_,_,p⟩:=x;exact p.lt
 | dK kvs=>obtain ⟨_,_,_,_,o,_,_,e,_⟩:=x;exact Heap.lt_size e
 | dT kvs=>obtain ⟨_,_,_,_,o,_,_,e,_⟩:=x;exact Heap.lt_size e
 | set S n=>obtain ⟨o,_,_,_,e,_⟩:=x;exact Heap.lt_size e
 | ins C dx fs=>obtain ⟨_,_,_,e,_⟩:=x;exact Heap.lt_size e
 | own y=>obtain ⟨_,e⟩:=x;exact Heap.lt_size e
 | xd fs=>obtain ⟨_,⟨_,_,_,e,_⟩,_⟩:=x;exact Heap.lt_size e
 | rng lo hi=>obtain ⟨_,_,_,e⟩:=x;exact Heap.lt_size e
 | frz ob u=>obtain ⟨e,_⟩:=x;exact Heap.lt_size e
 | tbl ps=>exact Heap.lt_size (show h.get? a=some _ from x)
 | met f y=>exact Heap.lt_size (show h.get? a=some _ from x)
 | ext φ=>obtain ⟨_,⟨_,e⟩,_⟩:=x;exact Heap.lt_size e
theorem Paired.mapP {α β:Type}{F G:α→β→Prop}:∀ {l₁:List α}{l₂:List β},Paired F l₁ l₂→(∀ a b,F a b→G a b)→Paired G l₁ l₂
 | _,_,.nil,_=>.nil
 | _,_,.cons r t,f=>.cons (f _ _ r) (Paired.mapP t f)
theorem ObjOk.stay (x:ObjOk P w H h a o) (k:∀ b u,(b=a∨H b=some (.own a))→h.get? b=some u→h'.get? b=some u)
  (ho:∀ b,H b=some (.own a)→H' b=some (.own a)) (ht:∀ b xs,H b=some (.tup xs)→H' b=some (.tup xs)):ObjOk P w H' h' a o:=by
 induction o with
 | lst xs=>obtain ⟨z,its,n,r,e⟩:=x;exact ⟨z,its,n,r,k _ _ (.inl rfl) e⟩
 | tup xs=>obtain ⟨z,its,r,ob,e,c⟩:=x;exact ⟨z,its,r,ob,k _ _ (.inl rfl) e,c⟩
 | dK kvs=>obtain ⟨z,y,vs,r,ob,es,ep,e,c⟩:=x;exact ⟨z,y,vs,r,ob,es,ep,k _ _ (.inl rfl) e,c⟩
 | dT kvs=>
  obtain ⟨z,y,xs,r,ob,es,ep,e,c⟩:=x
  exact ⟨z,y,xs,Paired.mapP r fun p q z=>⟨z.1,ht _ _ z.2.1,z.2.2⟩,ob,es,ep,k _ _ (.inl rfl) e,c⟩
 | set S n=>obtain ⟨ob,es,ep,t,e,c⟩:=x;exact ⟨ob,es,ep,t,k _ _ (.inl rfl) e,c⟩
 | ins C dx fs=>
  obtain ⟨d,z,ne,e,mA,⟨od,es,ep,e2,c⟩,r⟩:=x
  exact ⟨ho _ d,z,ne,k _ _ (.inl rfl) e,mA,⟨od,es,ep,k _ _ (.inr d) e2,c⟩,r⟩
 | own y=>obtain ⟨ob,e⟩:=x;exact ⟨ob,k _ _ (.inl rfl) e⟩
 | xd fs=>obtain ⟨mA,⟨od,es,ep,e,c⟩,r⟩:=x;exact ⟨mA,⟨od,es,ep,k _ _ (.inl rfl) e,c⟩,r⟩
 | rng lo hi=>obtain ⟨t,u,v,e⟩:=x;exact ⟨t,u,v,k _ _ (.inl rfl) e⟩
 | frz ob u ih=>obtain ⟨e,q⟩:=x;exact ⟨k _ _ (.inl rfl) e,ih q⟩
 | tbl ps=>
  have e:h.get? a=some { cls:=.none,data:=.fields ps }:=x
  show h'.get? a=some { cls:=.none,data:=.fields ps }
  exact k a _ (.inl rfl) e
 | met f y=>
  have e:h.get? a=some (PySem.W.methodObj (.ref f) (.ref y)):=x
  show h'.get? a=some (PySem.W.methodObj (.ref f) (.ref y))
  exact k a _ (.inl rfl) e
 | ext φ=>obtain ⟨p,⟨o,e⟩,st⟩:=x;exact ⟨st _ _ p fun o q=>k _ _ (.inl rfl) q,⟨o,k _ _ (.inl rfl) e⟩,st⟩
theorem HOk.lt (x:HOk P w H h) (e:H a=some o):a < h.objs.size:=(x a o e).lt
theorem HOk.fresh (x:HOk P w H h) (e:h.objs.size≤a):H a=none:=by
 cases q:H a with
 | none=>rfl
 | some u=>exact absurd (Nat.lt_of_lt_of_le (x.lt q) e) (Nat.lt_irrefl _)
theorem HOk.kept (x:HOk P w H h) (k:∀ b u,h.get? b=some u→h'.get? b=some u):HOk P w H h':=fun a o e=>
 (x a o e).stay (fun b u _ q=>k b u q) (fun _ q=>q) fun _ _ q=>q
theorem HOk.laid (x:HOk P w H h) (k:∀ b u,h.get? b=some u→h'.get? b=some u) (hp:h.objs.size≤a) (new:ObjOk P w (upd H a o) h' a o):HOk P w (upd H a o) h':=fun b u e=>by
 have hn:=x.fresh hp
 by_cases hb:b=a
 · subst hb;rw [upd_same] at e;cases e;exact new
 · rw [upd_ne hb] at e
   exact (x b u e).stay (fun c v _ q=>k c v q) (fun c q=>by rw [upd_ne (ne_of_none q hn)];exact q) fun c xs q=>by rw [upd_ne (ne_of_none q hn)];exact q
end
def Rd (H:Hp) (a:Addr) (u:HO):Prop:=H a=some u∨∃ o,H a=some (.frz o u)
theorem Rd.ok {P:Program}{w:World}{H:Hp}{h:Heap}{a:Addr}{u:HO} (r:Rd H a u) (x:HOk P w H h):ObjOk P w H h a u:=by
 rcases r with r | ⟨o,r⟩
 · exact x a u r
 · obtain ⟨_,q⟩:=x a _ r
   exact q
def Mut:Option HO→Prop
 | some (.lst _)=>True
 | some (.dK _)=>True
 | some (.dT _)=>True
 | some (.set _ _)=>True
 | some (.ins _ _ _)=>True
 | some (.ext _)=>True
 | _=>False
section
variable {P:Program}{w:World}{H:Hp}{h h':Heap}{x e:Addr}{o':HO}
theorem HOk.write (ok:HOk P w H h) (mu:Mut (H x)) (he:e=x∨H e=some (.own x)) (k:∀ b u,b≠e→h.get? b=some u→h'.get? b=some u) (heo:∃ u,h'.get? e=some u)
  (new:ObjOk P w (upd H x o') h' x o'):HOk P w (upd H x o') h':=fun b u q=>by
 have nown:∀ c y,H c=some (.own y)→c≠x:=fun c y r z=>by subst z;rw [r] at mu;exact mu
 have ntup:∀ c xs,H c=some (.tup xs)→c≠x:=fun c xs r z=>by subst z;rw [r] at mu;exact mu
 by_cases hb:b=x
 · subst hb;rw [upd_same] at q;cases q;exact new
 · rw [upd_ne hb] at q
   by_cases hbe:b=e
   · have q':H b=some (.own x):=by
       rcases he with z | z
       · exact absurd (hbe.trans z) hb
       · rw [hbe];exact z
     rw [q] at q';cases q'
     obtain ⟨v,hv⟩:=heo
     exact ⟨v,by rw [hbe];exact hv⟩
   · refine (ok b u q).stay (fun c v hc r=>k c v ?_ r) (fun c r=>by rw [upd_ne (nown c b r)];exact r) fun c xs r=>by rw [upd_ne (ntup c xs r)];exact r
     rcases hc with rfl | hc
     · exact hbe
     · rintro rfl
       rcases he with z | z
       · exact nown c b hc z
       · rw [hc] at z;cases z;exact hb rfl
end
structure Un (fs ex:List Addr) (H H':Hp) (h h':Heap):Prop where
 keep:∀ b o,h.get? b=some o→H b=none→b∉fs→b∉ex→h'.get? b=some o
 slot:∀ b o,h.get? b=some o→H b=none→b∈fs→b∉ex→∃ sl,h'.get? b=some { o with slots:=sl }
 free:∀ b o,h.get? b=some o→H b=none→b∉ex→H' b=none
 there:∀ b o,h.get? b=some o→b∉ex→∃ o',h'.get? b=some o'
 tups:∀ b xs,H b=some (.tup xs)→H' b=some (.tup xs)
 frzs:∀ b o u,H b=some (.frz o u)→H' b=some (.frz o u)
 tbls:∀ b ps,H b=some (.tbl ps)→∃ more,H' b=some (.tbl (ps++more))
section
variable {fs fs' ex ex':List Addr}{H H1 H2:Hp}{h h1 h2 h':Heap}{a x e:Addr}{o:HO}
theorem Un.any (u:Un fs ex H H1 h h1) {b:Addr}{ob:Obj} (q:h.get? b=some ob) (n:H b=none) (hx:b∉ex):∃ sl,h1.get? b=some { ob with slots:=sl }:=by
 by_cases hb:b∈fs
 · exact u.slot b ob q n hb hx
 · exact ⟨ob.slots,u.keep b ob q n hb hx⟩
theorem Un.kept (k:∀ b u,h.get? b=some u→h'.get? b=some u):Un fs ex H H h h':=
 ⟨fun b ob q _ _ _=>k b ob q,fun b ob q _ _ _=>⟨ob.slots,k b ob q⟩,fun _ _ _ n _=>n,fun b ob q _=>⟨ob,k b ob q⟩,fun _ _ q=>q,fun _ _ _ q=>q,fun _ ps q=>⟨#[],by rw [q];simp⟩⟩
theorem Un.refl:Un fs ex H H h h:=Un.kept fun _ _ q=>q
theorem Un.laid (k:∀ b u,h.get? b=some u→h'.get? b=some u) (hp:h.objs.size≤a) (hn:H a=none):Un fs ex H (upd H a o) h h' where
 keep:=fun b u q _ _ _=>k b u q
 slot:=fun b u q _ _ _=>⟨u.slots,k b u q⟩
 free:=fun b u q n _=>by rw [upd_ne (Nat.ne_of_lt (Nat.lt_of_lt_of_le (Heap.lt_size q) hp))];exact n
 there:=fun b u q _=>⟨u,k b u q⟩
 tups:=fun b xs q=>by rw [upd_ne (ne_of_none q hn)];exact q
 frzs:=fun b u xs q=>by rw [upd_ne (ne_of_none q hn)];exact q
 tbls:=fun b ps q=>⟨#[],by rw [upd_ne (ne_of_none q hn),q];simp⟩
theorem Un.write (mu:Mut (H x)) (he:e=x∨H e=some (.own x)) (k:∀ b u,b≠e→h.get? b=some u→h'.get? b=some u) (heo:∃ u,h'.get? e=some u):Un fs ex H (upd H x o) h h':=by
 have hx:∀ b,H b=none→b≠x:=fun b n z=>by subst z;rw [n] at mu;exact mu
 have hb:∀ b,H b=none→b≠e:=fun b n z=>by
  subst z
  rcases he with r | r
  · exact hx b n r
  · rw [n] at r;cases r
 have hm:∀ b u,H b=some u→¬ Mut (some u)→b≠x:=fun b u q nm z=>by subst z;rw [q] at mu;exact nm mu
 refine ⟨fun b u q n _ _=>k b u (hb b n) q,fun b u q n _ _=>⟨u.slots,k b u (hb b n) q⟩,fun b u q n _=>by rw [upd_ne (hx b n)];exact n,fun b u q _=>?_,
  fun b xs q=>by rw [upd_ne (hm b _ q fun z=>z)];exact q,fun b u xs q=>by rw [upd_ne (hm b _ q fun z=>z)];exact q,fun b ps q=>⟨#[],by rw [upd_ne (hm b _ q fun z=>z),q];simp⟩⟩
 by_cases hbe:b=e
 · subst hbe;exact heo
 · exact ⟨u,k b u hbe q⟩
end
def trk (h:Heap) (H:Hp):List Addr:=(List.range h.objs.size).filter fun a=>(H a).isSome
def hidT (h:Heap) (H:Hp):Heap:=PySem.W.hideAll h (trk h H)
theorem hidT_size (h:Heap) (H:Hp):(hidT h H).objs.size=h.objs.size:=PySem.W.hideAll_size _ _
theorem hidT_get {h:Heap}{H:Hp}{b:Addr}{o:Obj} (e:h.get? b=some o) (n:H b=none):(hidT h H).get? b=some o:=
 PySem.W.hideAll_get _ e fun hm=>by
  have q:(H b).isSome=true:=(List.mem_filter.mp hm).2
  rw [n] at q;simp at q
theorem of_hidT {h:Heap}{H:Hp}{b:Addr}{o:Obj} (e:(hidT h H).get? b=some o):h.get? b=some o∧H b=none:=by
 have e':h.get? b=some o:=PySem.W.of_hideAll (trk h H) e
 refine ⟨e',?_⟩
 cases q:H b with
 | none=>rfl
 | some x=>
  have hm:b∈trk h H:=List.mem_filter.mpr ⟨List.mem_range.mpr (Heap.lt_size e'),by simp [q]⟩
  have z:(hidT h H).get? b=none:=PySem.W.hideAll_none (trk h H) hm
  rw [z] at e;cases e
structure Mod (K:PySem.W.Frag) (mg:Str→Option Value) (base:Heap):Prop where
 kin:K.In base
 glob:base.Ns mainGlobals mg
 blt:∃ mb,base.Ns builtinsNs mb∧∀ x:Str,x≠"__name__"→mb x=bootBuiltins x
 nolimit:base.NoLimit
structure Cx where
 prog:Program
 w:World
 K:PySem.W.Frag
 mg:Str→Option Value
 base:Heap
 A:Around
 N:List Str
 s₀:Shared
 H₀:Hp
 env:Env
 outer:List Env
 stack:List Env
 ex:List Addr
 fn:Str→Bool
 calm:Bool
 pn:List (Addr × Obj)
 xe:Value→Shared→Prop
def frs (l:List Env):List Addr:=l.filterMap (·.frame)
abbrev Cx.fs (X:Cx):List Addr:=frs X.outer
def Vis (sc:Scope) (x:Str):Prop:=sc.names.lookup x=some .local∨sc.names.lookup x=some .cell∨sc.names.lookup x=some .free
def Loc (sc:Scope) (x:Str):Prop:=sc.names.lookup x=some .local∨sc.names.lookup x=some .cell
def Look (env:Env) (h:Heap) (m:Str→Option Value) (x:Str) (u:Value):Prop:=
 (env.kindOf x=some .local∧m x=some u)∨((env.kindOf x=some .cell∨env.kindOf x=some .free)∧∃ c,env.cells.lookup x=some c∧h.IsCell c (some u))
structure Cx.Ok (X:Cx):Prop where
 mod:Mod X.K X.mg X.base
 kind:X.env.scope.kind=.function
 glob:X.env.globals=mainGlobals
 blt:X.env.builtins=builtinsNs
 above:X.s₀.heap.objs.size≤X.env.locals
 inj:∀ x y c,X.env.cells.lookup x=some c→X.env.cells.lookup y=some c→x=y
 has:∀ x,(X.env.kindOf x=some .cell∨X.env.kindOf x=some .free)→∃ c,X.env.cells.lookup x=some c
 cab:∀ x c,X.fn x=true→X.env.cells.lookup x=some c→X.s₀.heap.objs.size≤c
 hd:X.calm=true→X.A.handled=none
 frames:X.A.frames=some X.stack
 stk:X.stack=X.outer∨(X.stack=X.env::X.outer∧X.env.frame=some X.env.locals)
 exf:∀ b∈X.ex,b≠X.env.locals∧∀ x c,X.env.cells.lookup x=some c→c≠b
 bs:∀ b o,X.base.get? b=some o→X.s₀.heap.get? b=some o∧X.H₀ b=none
 bsz:X.base.objs.size≤X.s₀.heap.objs.size
 noex:∀ b o,X.base.get? b=some o→b∉X.ex
 exfs:∀ b∈X.ex,b∉X.fs
 funs:X.s₀.heap.FunFrames X.base X.outer
 frf:∀ b∈X.fs,X.H₀ b=none
structure Inv (X:Cx) (pins:List (Addr × Obj)) (σ:List (Option V)) (H:Hp) (s:Shared):Prop where
 ok:X.Ok
 os:s.os=X.s₀.os
 bare:AllBare s.gens
 base:Un X.fs X.ex X.H₀ H X.s₀.heap s.heap
 loc:∃ m,s.heap.Ns X.env.locals m∧∀ (i:Nat) (x:Str) (v:V),X.N[i]?=some x→σ[i]?=some (some v)→Vis X.env.scope x→∃ u,RelV v u∧Look X.env s.heap m x u
 cell:∀ x c,X.env.cells.lookup x=some c→∃ v,s.heap.IsCell c v
 free:H X.env.locals=none
 freeC:∀ x c,X.env.cells.lookup x=some c→H c=none
 pin:∀ p∈X.pn++pins,s.heap.get? p.1=some p.2∧H p.1=none∧p.1≠X.env.locals∧p.1∉X.fs∧∀ v,p.2.data≠.cell v
 hok:HOk X.prog X.w H s.heap
 len:σ.length=X.N.length
section
variable {X:Cx}{pins:List (Addr × Obj)}{σ:List (Option V)}{H H':Hp}{s:Shared}{h':Heap}
theorem Cx.Ok.nofr (ok:X.Ok) {b:Addr}{o:Obj} (e:X.base.get? b=some o):b∉X.fs:=fun hb=>by
 have:=(ok.funs.mem hb).1
 rw [e] at this;cases this
theorem Inv.bs (I:Inv X pins σ H s):∀ b o,X.base.get? b=some o→s.heap.get? b=some o∧H b=none:=fun b o e=>
 ⟨I.base.keep b o (I.ok.bs b o e).1 (I.ok.bs b o e).2 (I.ok.nofr e) (I.ok.noex b o e),I.base.free b o (I.ok.bs b o e).1 (I.ok.bs b o e).2 (I.ok.noex b o e)⟩
theorem Inv.bk (I:Inv X pins σ H s):∀ b o,X.base.get? b=some o→s.heap.get? b=some o:=fun b o e=>(I.bs b o e).1
theorem Inv.mod (I:Inv X pins σ H s):Mod X.K X.mg X.base:=I.ok.mod
theorem Inv.kIn (I:Inv X pins σ H s):X.K.In s.heap:=I.ok.mod.kin.keeps I.bk
theorem Inv.lt (I:Inv X pins σ H s):X.env.locals < s.heap.objs.size:=let ⟨_,hn,_⟩:=I.loc;hn.lt
theorem Inv.sz (I:Inv X pins σ H s):X.s₀.heap.objs.size≤s.heap.objs.size:=Nat.le_trans I.ok.above (Nat.le_of_lt I.lt)
theorem Inv.nofs (I:Inv X pins σ H s) {a:Addr} (h:s.heap.objs.size≤a):a∉X.fs:=fun hb=>by
 obtain ⟨_,o,ho,_⟩:=I.ok.funs.mem hb
 exact absurd (Nat.lt_of_lt_of_le (Heap.lt_size ho) (Nat.le_trans I.sz h)) (Nat.lt_irrefl _)
theorem Inv.cne (I:Inv X pins σ H s):∀ x c,X.env.cells.lookup x=some c→c≠X.env.locals:=fun x c e z=>by
 obtain ⟨v,o,ho,hd⟩:=I.cell x c e
 obtain ⟨m,⟨o',es,ep,ho',hd',_⟩,_⟩:=I.loc
 rw [z,ho'] at ho;cases ho;rw [hd'] at hd;cases hd
theorem Inv.funs (I:Inv X pins σ H s):s.heap.FunFrames X.base X.outer:=by
 have all:∀ (l:List Env),(∀ b∈frs l,b∈X.fs)→X.s₀.heap.FunFrames X.base l→s.heap.FunFrames X.base l:=by
  intro l
  induction l with
  | nil=>intro _ _;trivial
  | cons env r ih=>
   intro hs hl
   obtain ⟨hk,⟨L,o,hf,hn,ho,hd⟩,hr⟩:=hl
   have hL:L∈X.fs:=hs L (by unfold frs;rw [List.filterMap_cons,hf];exact List.mem_cons_self)
   obtain ⟨sl,e⟩:=I.base.slot L o ho (I.ok.frf L hL) hL fun z=>I.ok.exfs L z hL
   exact ⟨hk,⟨L,_,hf,hn,e,hd⟩,ih (fun b hb=>hs b (by unfold frs;rw [List.filterMap_cons,hf];exact List.mem_cons_of_mem _ hb)) hr⟩
 exact all X.outer (fun _ hb=>hb) I.ok.funs
theorem Inv.stack (I:Inv X pins σ H s):s.heap.FunFrames X.base X.stack:=by
 rcases I.ok.stk with e | ⟨e,hf⟩
 · rw [e];exact I.funs
 · rw [e]
   obtain ⟨m,hn,_⟩:=I.loc
   refine .cons (by rw [I.ok.kind];decide) hf hn ?_ I.funs
   exact Heap.get?_none_of_le (Nat.le_trans I.ok.bsz I.ok.above)
theorem Inv.stkSub (I:Inv X pins σ H s):∀ b∈frs X.stack,b∈X.env.locals::X.fs:=fun b hb=>by
 rcases I.ok.stk with e | ⟨e,hf⟩
 · rw [e] at hb;exact List.mem_cons_of_mem _ hb
 · rw [e] at hb
   unfold frs at hb
   rw [List.filterMap_cons,hf] at hb
   exact hb
theorem Inv.stkFree (I:Inv X pins σ H s):∀ b∈frs X.stack,H b=none:=fun b hb=>by
 rcases List.mem_cons.mp (I.stkSub b hb) with e | hb
 · rw [e];exact I.free
 · obtain ⟨_,o,ho,_⟩:=I.ok.funs.mem hb
   exact I.base.free b o ho (I.ok.frf b hb) fun z=>I.ok.exfs b z hb
theorem Inv.step {g':Array GenState}{t':Nat}{d':Drawn}{ch:List Addr} (I:Inv X pins σ H s)
  (hch:∀ b∈ch,(b∈X.ex∨X.s₀.heap.objs.size≤b)∧b≠X.env.locals∧(∀ x c,X.env.cells.lookup x=some c→c≠b)∧∀ p∈X.pn++pins,p.1≠b)
  (keep:∀ b o,b≠X.env.locals→b∉X.fs→b∉ch→s.heap.get? b=some o→H b=none→h'.get? b=some o)
  (slot:∀ b o,b≠X.env.locals→b∈X.fs→b∉ch→s.heap.get? b=some o→H b=none→∃ sl,h'.get? b=some { o with slots:=sl }) (free:∀ b o,b∉ch→s.heap.get? b=some o→H b=none→H' b=none)
  (there:∀ b o,b∉ch→s.heap.get? b=some o→∃ o',h'.get? b=some o')
  (tups:∀ b xs,H b=some (.tup xs)→H' b=some (.tup xs)) (frzs:∀ b o u,H b=some (.frz o u)→H' b=some (.frz o u)) (tbls:∀ b ps,H b=some (.tbl ps)→∃ more,H' b=some (.tbl (ps++more)))
  (ns:∀ m,s.heap.Ns X.env.locals m→h'.Ns X.env.locals m) (hok:HOk X.prog X.w H' h') (hg:AllBare g'):
  Inv X pins σ H' { s with heap:=h',gens:=g',drawn:=d',toks:=t' }:=by
 have neL:∀ b o,X.s₀.heap.get? b=some o→b≠X.env.locals:=fun b o e=>Nat.ne_of_lt (Nat.lt_of_lt_of_le (Heap.lt_size e) I.ok.above)
 have neC:∀ b o,X.s₀.heap.get? b=some o→b∉X.ex→b∉ch:=fun b o e hx hb=>by
  rcases (hch b hb).1 with z | z
  · exact hx z
  · exact absurd (Nat.lt_of_lt_of_le (Heap.lt_size e) z) (Nat.lt_irrefl _)
 have cellK:∀ x c,X.env.cells.lookup x=some c→∀ v,s.heap.IsCell c v→h'.IsCell c v:=fun x c e v ⟨o,ho,hd⟩=>by
  have nch:c∉ch:=fun z=>(hch c z).2.2.1 x c e rfl
  by_cases hc:c∈X.fs
  · obtain ⟨sl,q⟩:=slot c o (I.cne x c e) hc nch ho (I.freeC x c e)
    exact ⟨_,q,hd⟩
  · exact ⟨o,keep c o (I.cne x c e) hc nch ho (I.freeC x c e),hd⟩
 refine ⟨I.ok,I.os,hg,⟨fun b o e n hb hx=>?_,fun b o e n hb hx=>?_,fun b o e n hx=>?_,fun b o e hx=>?_,fun b xs e=>tups b xs (I.base.tups b xs e),fun b o xs e=>frzs b o xs (I.base.frzs b o xs e),fun b ps e=>?_⟩,?_,fun x c e=>?_,?_,fun x c e=>?_,fun p hp=>?_,hok,I.len⟩
 · exact keep b o (neL b o e) hb (neC b o e hx) (I.base.keep b o e n hb hx) (I.base.free b o e n hx)
 · obtain ⟨sl,e1⟩:=I.base.slot b o e n hb hx
   obtain ⟨sl',e2⟩:=slot b _ (neL b o e) hb (neC b o e hx) e1 (I.base.free b o e n hx)
   exact ⟨sl',e2⟩
 · obtain ⟨o',e1⟩:=I.base.there b o e hx
   exact free b o' (neC b o e hx) e1 (I.base.free b o e n hx)
 · obtain ⟨o',e1⟩:=I.base.there b o e hx
   exact there b o' (neC b o e hx) e1
 · obtain ⟨m1,e1⟩:=I.base.tbls b ps e
   obtain ⟨m2,e2⟩:=tbls b _ e1
   exact ⟨m1++m2,by rw [e2,Array.append_assoc]⟩
 · obtain ⟨m,hn,hl⟩:=I.loc
   refine ⟨m,ns m hn,fun i x v e1 e2 e3=>?_⟩
   obtain ⟨u,r,l⟩:=hl i x v e1 e2 e3
   refine ⟨u,r,?_⟩
   rcases l with l | ⟨k,c,e,z⟩
   · exact .inl l
   · exact .inr ⟨k,c,e,cellK x c e _ z⟩
 · obtain ⟨v,z⟩:=I.cell x c e
   exact ⟨v,cellK x c e v z⟩
 · obtain ⟨m,⟨o,_,_,ho,_⟩,_⟩:=I.loc
   exact free _ o (fun z=>(hch _ z).2.1 rfl) ho I.free
 · obtain ⟨v,o,ho,hd⟩:=I.cell x c e
   exact free c o (fun z=>(hch c z).2.2.1 x c e rfl) ho (I.freeC x c e)
 · obtain ⟨e,n,ne,nf,d⟩:=I.pin p hp
   have nch:p.1∉ch:=fun z=>(hch p.1 z).2.2.2 p hp rfl
   exact ⟨keep p.1 p.2 ne nf nch e n,free p.1 p.2 nch e n,ne,nf,d⟩
theorem Inv.un {t':Nat} (I:Inv X pins σ H s) (u:Un X.fs [] H H' s.heap h') (hok:HOk X.prog X.w H' h'):Inv X pins σ H' { s with heap:=h',toks:=t' }:=by
 obtain ⟨m,⟨o,es,ep,ho,r⟩,_⟩:=id I.loc
 obtain ⟨sl,hL⟩:=u.any ho I.free (by simp)
 exact I.step (g':=s.gens) (d':=s.drawn) (ch:=[]) (fun _ z=>nomatch z) (fun b o _ hb _ e n=>u.keep b o e n hb (by simp)) (fun b o _ hb _ e n=>u.slot b o e n hb (by simp)) (fun b o _ e n=>u.free b o e n (by simp)) (fun b o _ e=>u.there b o e (by simp)) u.tups u.frzs u.tbls (fun m' hm=>by
  obtain ⟨o',es',ep',ho',r'⟩:=hm
  rw [ho] at ho';cases ho'
  exact ⟨_,es',ep',hL,r'⟩) hok I.bare
theorem Inv.call {g':Array GenState}{t':Nat}{d':Drawn}{ch:List Addr} (I:Inv X pins σ H s) (u:Un (frs X.stack) ch H H' s.heap h') (hok:HOk X.prog X.w H' h') (hg:AllBare g')
  (hch:∀ b∈ch,(b∈X.ex∨X.s₀.heap.objs.size≤b)∧b≠X.env.locals∧(∀ x c,X.env.cells.lookup x=some c→c≠b)∧∀ p∈X.pn++pins,p.1≠b):
  Inv X pins σ H' { s with heap:=h',gens:=g',drawn:=d',toks:=t' }:=by
 obtain ⟨m,⟨o,es,ep,ho,r⟩,_⟩:=id I.loc
 obtain ⟨sl,hL⟩:=u.any ho I.free fun z=>(hch _ z).2.1 rfl
 exact I.step (ch:=ch) hch (fun b o hL hb hc e n=>u.keep b o e n (fun z=>(List.mem_cons.mp (I.stkSub b z)).elim hL hb) hc) (fun b o _ _ hc e n=>u.any e n hc) (fun b o hc e n=>u.free b o e n hc) (fun b o hc e=>u.there b o e hc) u.tups u.frzs u.tbls (fun m' hm=>by
  obtain ⟨o',es',ep',ho',r'⟩:=hm
  rw [ho] at ho';cases ho'
  exact ⟨_,es',ep',hL,r'⟩) hok hg
theorem Inv.turned {t':Nat}{it:Addr} (I:Inv X pins σ H s) (k:∀ b o,b≠it→s.heap.get? b=some o→h'.get? b=some o) (hn:H it=none) (hL:it≠X.env.locals)
  (h1:it∈X.ex∨X.s₀.heap.objs.size≤it) (h2:∀ x c,X.env.cells.lookup x=some c→c≠it) (h3:∀ p∈X.pn++pins,p.1≠it):Inv X pins σ H { s with heap:=h',toks:=t' }:=by
 have nit:∀ b u,H b=some u→b≠it:=fun b u e z=>by rw [z,hn] at e;cases e
 refine I.step (g':=s.gens) (d':=s.drawn) (ch:=[it]) (fun b hb=>?_) (fun b o _ _ hc e _=>k b o (fun z=>hc (by simp [z])) e) (fun b o _ _ hc e _=>⟨o.slots,k b o (fun z=>hc (by simp [z])) e⟩) (fun _ _ _ _ n=>n)
  (fun b o hc e=>⟨o,k b o (fun z=>hc (by simp [z])) e⟩) (fun _ _ e=>e) (fun _ _ _ e=>e) (fun b ps e=>⟨#[],by rw [e];simp⟩) (fun m hm=>?_) (fun b u e=>?_) I.bare
 · have e:b=it:=by simpa using hb
   subst e
   exact ⟨h1,hL,h2,h3⟩
 · obtain ⟨o,es,ep,ho,r⟩:=hm
   exact ⟨o,es,ep,k _ o (Ne.symm hL) ho,r⟩
 · refine (I.hok b u e).stay (fun c v hc q=>k c v ?_ q) (fun _ q=>q) fun _ _ q=>q
   rcases hc with z | z
   · rw [z];exact nit b u e
   · exact nit c _ z
theorem Inv.tok (I:Inv X pins σ H s) (t:Nat):Inv X pins σ H { s with toks:=t }:=I.un (h':=s.heap) (t':=t) Un.refl I.hok
theorem Inv.kept {t':Nat} (I:Inv X pins σ H s) (k:∀ b u,s.heap.get? b=some u→h'.get? b=some u):Inv X pins σ H { s with heap:=h',toks:=t' }:=I.un (Un.kept k) (I.hok.kept k)
theorem Inv.laid {a:Addr}{o:HO}{t':Nat} (I:Inv X pins σ H s) (k:∀ b u,s.heap.get? b=some u→h'.get? b=some u) (hp:s.heap.objs.size≤a) (new:ObjOk X.prog X.w (upd H a o) h' a o):
  Inv X pins σ (upd H a o) { s with heap:=h',toks:=t' }:=I.un (Un.laid k hp (I.hok.fresh hp)) (I.hok.laid k hp new)
theorem Inv.write {x e:Addr}{o:HO}{t':Nat} (I:Inv X pins σ H s) (mu:Mut (H x)) (he:e=x∨H e=some (.own x)) (k:∀ b u,b≠e→s.heap.get? b=some u→h'.get? b=some u) (heo:∃ u,h'.get? e=some u)
  (new:ObjOk X.prog X.w (upd H x o) h' x o):Inv X pins σ (upd H x o) { s with heap:=h',toks:=t' }:=I.un (Un.write mu he k heo) (I.hok.write mu he k heo new)
theorem Inv.pins_of {pins':List (Addr × Obj)} (I:Inv X pins σ H s) (h:∀ p∈pins',s.heap.get? p.1=some p.2∧H p.1=none∧p.1≠X.env.locals∧p.1∉X.fs∧∀ v,p.2.data≠.cell v):Inv X pins' σ H s:=
 ⟨I.ok,I.os,I.bare,I.base,I.loc,I.cell,I.free,I.freeC,fun p hp=>(List.mem_append.mp hp).elim (fun z=>I.pin p (List.mem_append_left _ z)) (h p),I.hok,I.len⟩
theorem nodup_ix {N:List Str} (hN:N.Nodup) {i j:Nat}{x:Str} (a:N[i]?=some x) (b:N[j]?=some x):i=j:=by
 obtain ⟨h1,e1⟩:=List.getElem?_eq_some_iff.mp a
 obtain ⟨h2,e2⟩:=List.getElem?_eq_some_iff.mp b
 exact (List.getElem_inj hN).mp (e1.trans e2.symm)
theorem store_ok2 {M:Model}{A:Around}{E:Value→Shared→Prop}{i:Nat}{x:Str}{v:V}{u:Value}{Q:Unit→Shared→Prop} (I:Inv X pins σ H s) (hN:X.N.Nodup) (hi:X.N[i]?=some x) (hx:Loc X.env.scope x) (r:RelV v u)
  (h:∀ s',Inv X pins (σ.set i (some v)) H s'→(∃ a,Heap.SameBut a s.heap s'.heap∧(a=X.env.locals∨X.env.cells.lookup x=some a))→Q () s') (hf:X.fn x=true∨X.env.scope.names.lookup x=some .local:=by first | exact .inl rfl | exact .inr rfl | assumption):wpAny M A (storeName X.env x u) Q E s:=by
 obtain ⟨m,hn,hl⟩:=id I.loc
 have hcls:(X.env.scope.kind == .class || (X.env.scope.kind == .module && X.env.locals != X.env.globals))=false:=by rw [I.ok.kind];rfl
 have hiσ:i < σ.length:=by rw [I.len];exact (List.getElem?_eq_some_iff.mp hi).1
 have cne:=I.cne
 have tracked:∀ {a:Addr}{h':Heap},(∃ o,s.heap.get? a=some o∧H a=none)→Heap.SameBut a s.heap h'→HOk X.prog X.w H h':=fun {a h'} ha hs b ob e=>by
  obtain ⟨_,_,hfree⟩:=ha
  refine (I.hok b ob e).stay (fun c w' hc q=>(hs.2 c ?_).trans q) (fun _ q=>q) fun _ _ q=>q
  rintro rfl
  rcases hc with rfl | hc
  · rw [hfree] at e;cases e
  · rw [hfree] at hc;cases hc
 rcases hx with hk | hk
 · refine wpAny_storeName_local hk hn (fun h' hn' hs=>?_) hcls
   obtain ⟨oL,_,_,hoL,_⟩:=id hn
   refine h _ ⟨I.ok,I.os,I.bare,⟨fun b o e n hb hx=>?_,fun b o e n hb hx=>?_,I.base.free,fun b o e hx=>?_,I.base.tups,I.base.frzs,I.base.tbls⟩,⟨_,hn',fun j y v' e1 e2 e3=>?_⟩,fun y c e=>?_,I.free,I.freeC,fun p hp=>?_,tracked ⟨oL,hoL,I.free⟩ hs,by simpa using I.len⟩ ⟨_,hs,.inl rfl⟩
   · exact (hs.2 b (Nat.ne_of_lt (Nat.lt_of_lt_of_le (Heap.lt_size e) I.ok.above))).trans (I.base.keep b o e n hb hx)
   · obtain ⟨sl,e1⟩:=I.base.slot b o e n hb hx
     exact ⟨sl,(hs.2 b (Nat.ne_of_lt (Nat.lt_of_lt_of_le (Heap.lt_size e) I.ok.above))).trans e1⟩
   · obtain ⟨o',e1⟩:=I.base.there b o e hx
     exact ⟨o',(hs.2 b (Nat.ne_of_lt (Nat.lt_of_lt_of_le (Heap.lt_size e) I.ok.above))).trans e1⟩
   · by_cases hj:j=i
     · subst hj
       rw [hi] at e1;cases e1
       rw [List.getElem?_set_self hiσ] at e2
       cases e2
       exact ⟨u,r,.inl ⟨hk,by simp⟩⟩
     · rw [List.getElem?_set_ne (Ne.symm hj)] at e2
       obtain ⟨u',r',q⟩:=hl j y v' e1 e2 e3
       refine ⟨u',r',?_⟩
       rcases q with ⟨k,e⟩ | ⟨k,c,e,z⟩
       · refine .inl ⟨k,?_⟩
         have:y≠x:=fun e=>hj (nodup_ix hN e1 (e▸hi))
         simp [this,e]
       · exact .inr ⟨k,c,e,z.sameBut hs (cne y c e)⟩
   · obtain ⟨w',z⟩:=I.cell y c e
     exact ⟨w',z.sameBut hs (cne y c e)⟩
   · obtain ⟨e,n,ne,nf,d⟩:=I.pin p hp
     exact ⟨(hs.2 p.1 ne).trans e,n,ne,nf,d⟩
 · have hfn:X.fn x=true:=by
     rcases hf with z | z
     · exact z
     · rw [z] at hk;cases hk
   obtain ⟨c,hc⟩:=I.ok.has x (.inl hk)
   obtain ⟨w',z⟩:=I.cell x c hc
   refine wpAny_storeName_cell I.ok.kind hk hc z (fun h' hc' hs=>?_)
   obtain ⟨oc,hoc,hocd⟩:=id z
   refine h { s with heap:=h' } ⟨I.ok,I.os,I.bare,⟨fun b o e n hb hx=>?_,fun b o e n hb hx=>?_,I.base.free,fun b o e hx=>?_,I.base.tups,I.base.frzs,I.base.tbls⟩,⟨m,hn.sameBut hs (Ne.symm (cne x c hc)),fun j y v' e1 e2 e3=>?_⟩,fun y c' e=>?_,I.free,I.freeC,fun p hp=>?_,tracked ⟨oc,hoc,I.freeC x c hc⟩ hs,by simpa using I.len⟩ ⟨c,hs,.inr hc⟩
   · exact (hs.2 b (Nat.ne_of_lt (Nat.lt_of_lt_of_le (Heap.lt_size e) (I.ok.cab x c hfn hc)))).trans (I.base.keep b o e n hb hx)
   · obtain ⟨sl,e1⟩:=I.base.slot b o e n hb hx
     exact ⟨sl,(hs.2 b (Nat.ne_of_lt (Nat.lt_of_lt_of_le (Heap.lt_size e) (I.ok.cab x c hfn hc)))).trans e1⟩
   · obtain ⟨o',e1⟩:=I.base.there b o e hx
     exact ⟨o',(hs.2 b (Nat.ne_of_lt (Nat.lt_of_lt_of_le (Heap.lt_size e) (I.ok.cab x c hfn hc)))).trans e1⟩
   · by_cases hj:j=i
     · subst hj
       rw [hi] at e1;cases e1
       rw [List.getElem?_set_self hiσ] at e2
       cases e2
       exact ⟨u,r,.inr ⟨.inl hk,c,hc,hc'⟩⟩
     · rw [List.getElem?_set_ne (Ne.symm hj)] at e2
       obtain ⟨u',r',q⟩:=hl j y v' e1 e2 e3
       refine ⟨u',r',?_⟩
       rcases q with q | ⟨k,c',e,z'⟩
       · exact .inl q
       · refine .inr ⟨k,c',e,z'.sameBut hs ?_⟩
         rintro rfl
         exact hj (nodup_ix hN e1 (I.ok.inj _ _ _ e hc▸hi))
   · by_cases hcc:c'=c
     · subst hcc;exact ⟨_,hc'⟩
     · obtain ⟨w2,z2⟩:=I.cell y c' e
       exact ⟨w2,z2.sameBut hs hcc⟩
   · obtain ⟨e,n,ne,nf,d⟩:=I.pin p hp
     refine ⟨(hs.2 p.1 ?_).trans e,n,ne,nf,d⟩
     intro q
     rw [q,hoc] at e
     have q':oc=p.2:=Option.some.inj e
     exact d w' (by rw [← q'];exact hocd)
theorem store_ok {M:Model}{A:Around}{E:Value→Shared→Prop}{i:Nat}{x:Str}{v:V}{u:Value}{Q:Unit→Shared→Prop} (I:Inv X pins σ H s) (hN:X.N.Nodup) (hi:X.N[i]?=some x) (hx:Loc X.env.scope x) (r:RelV v u)
  (h:∀ s',Inv X pins (σ.set i (some v)) H s'→Q () s') (hf:X.fn x=true∨X.env.scope.names.lookup x=some .local:=by first | exact .inl rfl | exact .inr rfl | assumption):wpAny M A (storeName X.env x u) Q E s:=
 store_ok2 I hN hi hx r (fun s' I' _=>h s' I') hf
theorem Inv.call' {s':Shared}{ch:List Addr} (I:Inv X pins σ H s) (ho:s'.os=s.os) (u:Un (frs X.stack) ch H H' s.heap s'.heap) (hok:HOk X.prog X.w H' s'.heap) (hg:AllBare s'.gens)
  (hch:∀ b∈ch,(b∈X.ex∨X.s₀.heap.objs.size≤b)∧b≠X.env.locals∧(∀ x c,X.env.cells.lookup x=some c→c≠b)∧∀ p∈X.pn++pins,p.1≠b):Inv X pins σ H' s':=by
 obtain ⟨h',g',d',t',o'⟩:=s'
 have e:o'=s.os:=ho
 subst e
 exact I.call (g':=g') (t':=t') (d':=d') u hok hg hch
end
abbrev XK:=Value→Option Addr→Hp→Prop
abbrev St:=List (Option V)
abbrev VK:=V→Hp→Prop
abbrev TE:=St→Hp→VK→Prop
abbrev TT:=St→Hp→(Bool→Hp→Prop)→Prop
abbrev TA:=St→Hp→(List V→Hp→Prop)→Prop
structure Ends where
 nx:St→Hp→Prop
 rt:VK
 bk:St→Hp→Prop:=fun _ _=>False
 ct:St→Hp→Prop:=fun _ _=>False
abbrev TS:=Ends→St→Hp→Prop
def EP (X:Cx) (pins:List (Addr × Obj)) (σ:St) (Q:VK) (u:Value) (s':Shared):Prop:=∃ v H',Inv X pins σ H' s'∧RelV v u∧Q v H'
def TP (X:Cx) (pins:List (Addr × Obj)) (σ:St) (Q:Bool→Hp→Prop) (b:Bool) (s':Shared):Prop:=∃ H',Inv X pins σ H' s'∧Q b H'
def AP (X:Cx) (pins:List (Addr × Obj)) (σ:St) (Q:List V→Hp→Prop) (us:List Value) (s':Shared):Prop:=∃ vs H',Inv X pins σ H' s'∧Vals vs us∧Q vs H'
def SP (X:Cx) (pins:List (Addr × Obj)) (D:Ends) (f:Flow) (s':Shared):Prop:=
 match f with
 | .next=>∃ σ' H',Inv X pins σ' H' s'∧D.nx σ' H'
 | .brk=>∃ σ' H',Inv X pins σ' H' s'∧D.bk σ' H'
 | .cont=>∃ σ' H',Inv X pins σ' H' s'∧D.ct σ' H'
 | .ret u=>∃ v σ' H',Inv X pins σ' H' s'∧RelV v u∧D.rt v H'
def PE (X:Cx) (e:Expr) (t:TE):Prop:=
 ∀ (pins:List (Addr × Obj)) (s:Shared) (σ:St) (H:Hp) (Q:VK),Inv X pins σ H s→t σ H Q→wpAny (model X.prog X.w) X.A (eval e X.env) (EP X pins σ Q) X.xe s
def PT (X:Cx) (e:Expr) (t:TT):Prop:=
 ∀ (pins:List (Addr × Obj)) (s:Shared) (σ:St) (H:Hp) (Q:Bool→Hp→Prop),Inv X pins σ H s→t σ H Q→wpAny (model X.prog X.w) X.A (isTrue e X.env (eval e X.env)) (TP X pins σ Q) X.xe s
def PW (X:Cx) (e:Expr) (t:TT):Prop:=
 ∀ (whole:Sem Value) (pins:List (Addr × Obj)) (s:Shared) (σ:St) (H:Hp) (Q:Bool→Hp→Prop),Inv X pins σ H s→t σ H Q→wpAny (model X.prog X.w) X.A (isTrue e X.env whole) (TP X pins σ Q) X.xe s
theorem PW.pt {X:Cx}{e:Expr}{t:TT} (h:PW X e t):PT X e t:=h _
def PA (X:Cx) (es:List Expr) (t:TA):Prop:=
 ∀ (pos:Pos) (pins:List (Addr × Obj)) (s:Shared) (σ:St) (H:Hp) (Q:List V→Hp→Prop),Inv X pins σ H s→t σ H Q→wpAny (model X.prog X.w) X.A (spliced (backTo pos (starEach es X.env))) (AP X pins σ Q) X.xe s
def PS (X:Cx) (st:Stmt) (t:TS):Prop:=
 ∀ (pins:List (Addr × Obj)) (s:Shared) (σ:St) (H:Hp) (D:Ends),Inv X pins σ H s→t D σ H→wpAny (model X.prog X.w) X.A (exec st X.env) (SP X pins D) X.xe s
def PSs (X:Cx) (st:List Stmt) (t:TS):Prop:=
 ∀ (pins:List (Addr × Obj)) (s:Shared) (σ:St) (H:Hp) (D:Ends),Inv X pins σ H s→t D σ H→wpAny (model X.prog X.w) X.A (execs st X.env) (SP X pins D) X.xe s
theorem thn {α:Type}{t:Sem α}{Q Q':α→Shared→Prop}{M:Model}{A:Around}{E:Value→Shared→Prop}{s:Shared} (h:wpAny M A t Q E s) (hQ:∀ a s,Q a s→Q' a s):wpAny M A t Q' E s:=wpAny_mono h hQ fun _ _ x=>x
section
variable {X:Cx}
def tVar (i:Nat):TE:=fun σ H Q=>∃ v,σ[i]?=some (some v)∧Q v H
def tC (v:V):TE:=fun _ H Q=>Q v H
theorem pe_var {i:Nat}{x:Str}{pos:Pos} (hN:X.N[i]?=some x) (hv:Vis X.env.scope x) (hd:(x == ("__debug__":Str))=false:=by decide) (hcd:(x == ("__classdict__":Str))=false:=by decide):PE X (.Name x pos) (tVar i):=by
 intro pins s σ H Q I h
 obtain ⟨v,e,h⟩:=h
 obtain ⟨m,hn,hl⟩:=I.loc
 obtain ⟨u,r,l⟩:=hl i x v hN e hv
 have fin:EP X pins σ Q u s:=⟨v,H,I,r,h⟩
 rcases l with ⟨hk,hm⟩ | ⟨hk,c,hc,hcell⟩
 · exact wpAny_Name (wpAny_loadName_local I.ok.kind hk hn hm fin) hd
 · rcases hk with hk | hk
   · exact wpAny_Name (wpAny_loadName_cell I.ok.kind hk hc hcell fin) hd
   · exact wpAny_Name (wpAny_loadName_free I.ok.kind hk hc hcell fin hcd) hd
theorem pe_int {i j pos}:PE X (.Constant (.int i) j pos) (tC (.int i)):=fun _ _ _ H _ I h=>wpAny_Constant_int ⟨.int i,H,I.tok _,⟨_,rfl⟩,h⟩
theorem pe_bl {b j pos}:PE X (.Constant (.bool b) j pos) (tC (.bl b)):=fun _ _ _ H _ I h=>Constant_bool ⟨.bl b,H,I,rfl,h⟩
theorem pe_non {j pos}:PE X (.Constant .none j pos) (tC .non):=fun _ _ _ H _ I h=>Constant_none ⟨.non,H,I,rfl,h⟩
theorem pe_str {x j pos}:PE X (.Constant (.str x) j pos) (tC (.str x)):=fun _ _ _ H _ I h=>Calls.Constant_str ⟨.str x,H,I.tok _,⟨_,rfl⟩,h⟩
def Gl (X:Cx) (x:Str):Prop:=X.env.kindOf x=some .globalImplicit
theorem ld_glob {E:Value→Shared→Prop}{pins:List (Addr × Obj)}{s:Shared}{σ:St}{H:Hp}{x:Str}{u:Value}{pos:Pos}{Q:Value→Shared→Prop} (I:Inv X pins σ H s) (hg:Gl X x) (hm:X.mg x=some u) (h:Q u s)
  (hd:(x == ("__debug__":Str))=false:=by decide):wpAny (model X.prog X.w) X.A (eval (.Name x pos) X.env) Q E s:=
 Calls.Name_function_global I.ok.kind hg (Calls.loadGlobal_global (by rw [I.ok.glob];exact I.mod.glob.keeps I.bk) hm h) hd
theorem ld_blt {E:Value→Shared→Prop}{pins:List (Addr × Obj)}{s:Shared}{σ:St}{H:Hp}{x:Str}{u:Value}{pos:Pos}{Q:Value→Shared→Prop} (I:Inv X pins σ H s) (hg:Gl X x) (hm:X.mg x=none) (hv:bootBuiltins x=some u) (h:Q u s)
  (hn:x≠"__name__":=by decide) (hd:(x == ("__debug__":Str))=false:=by decide):wpAny (model X.prog X.w) X.A (eval (.Name x pos) X.env) Q E s:=by
 obtain ⟨mb,h1,h2⟩:=I.mod.blt
 exact Calls.Name_function_global I.ok.kind hg (Calls.loadGlobal_builtin (by rw [I.ok.glob];exact I.mod.glob.keeps I.bk) hm (by rw [I.ok.blt];exact h1.keeps I.bk) ((h2 x hn).trans hv) h) hd
theorem pe_glob {x:Str}{v:V}{u:Value}{pos:Pos} (hg:Gl X x) (hm:X.mg x=some u) (r:RelV v u) (hd:(x == ("__debug__":Str))=false:=by decide):PE X (.Name x pos) (tC v):=
 fun _ _ _ H _ I h=>ld_glob I hg hm ⟨v,H,I,r,h⟩ hd
theorem pe_bltn {x:Str}{v:V}{u:Value}{pos:Pos} (hg:Gl X x) (hm:X.mg x=none) (hv:bootBuiltins x=some u) (r:RelV v u) (hn:x≠"__name__":=by decide) (hd:(x == ("__debug__":Str))=false:=by decide):PE X (.Name x pos) (tC v):=
 fun _ _ _ H _ I h=>ld_blt I hg hm hv ⟨v,H,I,r,h⟩ hn hd
variable {a b:Expr}{ta tb:TE}{pos:Pos}
def PC (X:Cx) (op:CmpOp) (a b:Expr) (t:TE):Prop:=
 ∀ (pins:List (Addr × Obj)) (s:Shared) (σ:St) (H:Hp) (Q:VK),Inv X pins σ H s→t σ H Q→
  wpAny (model X.prog X.w) X.A (eval a X.env) (fun v s₁=>wpAny (model X.prog X.w) X.A (eval b X.env) (fun u s₂=>wpAny (model X.prog X.w) X.A (compareOp op v u) (EP X pins σ Q) X.xe s₂) X.xe s₁) X.xe s
def tB (t:TE):TT:=fun σ H Q=>t σ H fun x H1=>∃ c,x=.bl c∧Q c H1
theorem pt_cmp {op:CmpOp}{t:TE} (h:PC X op a b t) (h1:behindInMarks op b=false:=by first | exact nobehind _ (by decide) (by decide) | rfl):PT X (.Compare a [op] [b] pos) (tB t):=by
 intro pins s σ H Q I hw
 refine wpAny_isTrue_Compare1 (thn (h pins s σ H _ I hw) fun v s1 h1=>thn h1 fun u s2 h2=>thn h2 fun c s3 ⟨x,H1,I1,r1,q1⟩=>?_) h1
 obtain ⟨d,rfl,q⟩:=q1
 cases r1
 exact wpAny_truthy_bool ⟨H1,I1,q⟩
theorem pt_val {e:Expr}{t:TE} (h:PE X e t) (he:∀ whole,isTrue e X.env whole=(do let v ← whole;standAt e.pos;holding [v] (truthy v)):=by intro _;rfl):PT X e (tB t):=by
 intro pins s σ H Q I hw
 refine isTrue_plain (thn (h pins s σ H _ I hw) fun v s1 ⟨x,H1,I1,r1,q1⟩=>?_) (he _)
 obtain ⟨d,rfl,q⟩:=q1
 cases r1
 exact wpAny_truthy_bool ⟨H1,I1,q⟩
variable {tA tB':TT}{rest:List Expr}
def tAnd (t u:TT):TT:=fun σ H Q=>t σ H fun c H1=>if c=true then u σ H1 Q else Q false H1
def tOr (t u:TT):TT:=fun σ H Q=>t σ H fun c H1=>if c=true then Q true H1 else u σ H1 Q
def tNot (t:TT):TT:=fun σ H Q=>t σ H fun c H1=>Q (!c) H1
theorem pw_and1 (ha:PT X a tA):PW X (.BoolOp .And [a] pos) tA:=by
 intro wh pins s σ H Q I h
 refine isTrue_and (thn (ha pins s σ H Q I h) fun c s1 e=>?_)
 cases c with
 | true=>exact isTrue_and_nil e
 | false=>exact e
theorem pw_or1 (ha:PT X a tA):PW X (.BoolOp .Or [a] pos) tA:=by
 intro wh pins s σ H Q I h
 refine isTrue_or (thn (ha pins s σ H Q I h) fun c s1 e=>?_)
 cases c with
 | false=>exact isTrue_or_nil e
 | true=>exact e
theorem pw_and (ha:PT X a tA) (hb:PW X (.BoolOp .And (b::rest) pos) tB'):PW X (.BoolOp .And (a::b::rest) pos) (tAnd tA tB'):=by
 intro wh pins s σ H Q I h
 refine isTrue_and (thn (ha pins s σ H _ I h) fun c s1 ⟨H1,I1,q1⟩=>?_)
 cases c with
 | true=>exact hb wh pins s1 σ H1 Q I1 q1
 | false=>exact ⟨H1,I1,q1⟩
theorem pw_or (ha:PT X a tA) (hb:PW X (.BoolOp .Or (b::rest) pos) tB'):PW X (.BoolOp .Or (a::b::rest) pos) (tOr tA tB'):=by
 intro wh pins s σ H Q I h
 refine isTrue_or (thn (ha pins s σ H _ I h) fun c s1 ⟨H1,I1,q1⟩=>?_)
 cases c with
 | true=>exact ⟨H1,I1,q1⟩
 | false=>exact hb wh pins s1 σ H1 Q I1 q1
theorem pt_not (ha:PT X a tA):PT X (.UnaryOp .Not a pos) (tNot tA):=by
 intro pins s σ H Q I h
 exact isTrue_not (ha pins s σ H (fun c H1=>Q (!c) H1) I h)
def tIf (t:TT) (ta tb:TE):TE:=fun σ H Q=>t σ H fun c H1=>if c=true then ta σ H1 Q else tb σ H1 Q
theorem pe_ifExp {c:Expr} (hc:PT X c tA) (ha:PE X a ta) (hb:PE X b tb):PE X (.IfExp c a b pos) (tIf tA ta tb):=by
 intro pins s σ H Q I h
 refine wpAny_IfExp (thn (hc pins s σ H _ I h) fun d s1 ⟨H1,I1,q1⟩=>?_)
 cases d with
 | true=>exact ha pins s1 σ H1 Q I1 q1
 | false=>exact hb pins s1 σ H1 Q I1 q1
end
def SqL (K:PySem.W.Frag) (H:Hp) (a:Addr) (xs:List V):Prop:=
 Rd H a (.lst xs)∨
  ∃ (o:Obj) (its:Array Value) (n:Nat),K.lookup a=some o∧o.cls=.type "list"∧o.dict=none∧o.data=.seq its n∧its.size≤sizeLine∧Vals xs its.toList
def SqT (K:PySem.W.Frag) (H:Hp) (a:Addr) (xs:List V):Prop:=
 Rd H a (.tup xs)∨
  ∃ (o:Obj) (its:Array Value) (n:Nat),K.lookup a=some o∧o.cls=.type "tuple"∧o.data=.seq its n∧its.size≤sizeLine∧Vals xs its.toList
def absV:Value→Option V
 | .none=>some .non
 | .bool b=>some (.bl b)
 | .int i _=>some (.int i)
 | .str x _=>some (.str x)
 | .bytes b _=>some (.byt b)
 | .float b _=>some (.flt b)
 | .ref a=>some (.ref a)
 | .type n=>some (.ty n)
 | _=>none
theorem RelV.abs {x:V}{u:Value} (r:RelV x u):absV u=some x:=by
 cases x with
 | non=>cases r;rfl
 | bl _=>cases r;rfl
 | int _=>obtain ⟨t,rfl⟩:=r;rfl
 | str _=>obtain ⟨t,rfl⟩:=r;rfl
 | byt _=>obtain ⟨t,rfl⟩:=r;rfl
 | flt _=>obtain ⟨t,rfl⟩:=r;rfl
 | ref _=>cases r;rfl
 | ty _=>cases r;rfl
theorem RelV.inj {x y:V}{u:Value} (r:RelV x u) (q:RelV y u):x=y:=Option.some.inj (r.abs.symm.trans q.abs)
theorem Vals.inj:∀ {xs ys:List V}{us:List Value},Vals xs us→Vals ys us→xs=ys
 | _,_,_,.nil,.nil=>rfl
 | _,_,_,.cons r t,.cons r' t'=>by rw [r.inj r',Vals.inj t t']
section
variable {X:Cx}{pins:List (Addr × Obj)}{σ:St}{H:Hp}{s:Shared}{a:Addr}{xs ys:List V}
theorem SqL.of {K:PySem.W.Frag} (h:H a=some (.lst xs)):SqL K H a xs:=.inl (.inl h)
theorem SqT.of {K:PySem.W.Frag} (h:H a=some (.tup xs)):SqT K H a xs:=.inl (.inl h)
theorem Inv.list (I:Inv X pins σ H s) (h:SqL X.K H a xs):∃ its:List Value,Vals xs its∧PlainL s.heap a its.toArray∧xs.length≤sizeLine:=by
 rcases h with h | ⟨o,its,n,hk,hc,hd,hs,hz,r⟩
 · obtain ⟨z,its,n,r,e⟩:=h.ok I.hok
   exact ⟨its,r,⟨_,n,e,rfl,rfl,rfl⟩,z⟩
 · refine ⟨its.toList,r,⟨o,n,I.kIn a o hk,hc,hd,by simpa using hs⟩,?_⟩
   have e:=r.length
   simp only [Array.length_toList] at e
   omega
theorem Inv.tuple (I:Inv X pins σ H s) (h:SqT X.K H a xs):∃ its:List Value,Vals xs its∧IsTup s.heap a its.toArray∧xs.length≤sizeLine:=by
 rcases h with h | ⟨o,its,n,hk,hc,hs,hz,r⟩
 · obtain ⟨z,its,r,p⟩:=h.ok I.hok
   exact ⟨its,r,p,z⟩
 · refine ⟨its.toList,r,⟨o,I.kIn a o hk,hc,n,by simpa using hs⟩,?_⟩
   have e:=r.length
   simp only [Array.length_toList] at e
   omega
theorem Inv.list_inj (I:Inv X pins σ H s) (h:SqL X.K H a xs) (h':SqL X.K H a ys):xs=ys:=by
 obtain ⟨its,r,⟨o,n,e,_,_,d⟩,_⟩:=I.list h
 obtain ⟨its',r',⟨o',n',e',_,_,d'⟩,_⟩:=I.list h'
 rw [e] at e';cases e'
 rw [d] at d'
 injection d' with d1 _
 have:its=its':=by simpa using congrArg Array.toList d1
 subst this
 exact r.inj r'
theorem Inv.tuple_inj (I:Inv X pins σ H s) (h:SqT X.K H a xs) (h':SqT X.K H a ys):xs=ys:=by
 obtain ⟨its,r,⟨o,e,_,n,d⟩,_⟩:=I.tuple h
 obtain ⟨its',r',⟨o',e',_,n',d'⟩,_⟩:=I.tuple h'
 rw [e] at e';cases e'
 rw [d] at d'
 injection d' with d1 _
 have:its=its':=by simpa using congrArg Array.toList d1
 subst this
 exact r.inj r'
end
abbrev Cx.wish (X:Cx) (E:Value→Shared→Prop):Cx:={ X with xe:=E }
abbrev Cx.nox (X:Cx):Cx:=X.wish fun _ _=>False
theorem Cx.Ok.wish {X:Cx} (ok:X.Ok) (E:Value→Shared→Prop):(X.wish E).Ok:=
 ⟨ok.mod,ok.kind,ok.glob,ok.blt,ok.above,ok.inj,ok.has,ok.cab,ok.hd,ok.frames,ok.stk,ok.exf,ok.bs,ok.bsz,ok.noex,ok.exfs,ok.funs,ok.frf⟩
theorem Cx.Ok.unwish {X:Cx}{E:Value→Shared→Prop} (ok:(X.wish E).Ok):X.Ok:=
 ⟨ok.mod,ok.kind,ok.glob,ok.blt,ok.above,ok.inj,ok.has,ok.cab,ok.hd,ok.frames,ok.stk,ok.exf,ok.bs,ok.bsz,ok.noex,ok.exfs,ok.funs,ok.frf⟩
section
variable {X:Cx}{pins:List (Addr × Obj)}{σ:St}{H:Hp}{s:Shared}{E:Value→Shared→Prop}
theorem Inv.wish (I:Inv X pins σ H s) (E:Value→Shared→Prop):Inv (X.wish E) pins σ H s:=⟨I.ok.wish E,I.os,I.bare,I.base,I.loc,I.cell,I.free,I.freeC,I.pin,I.hok,I.len⟩
theorem Inv.unwish (I:Inv (X.wish E) pins σ H s):Inv X pins σ H s:=⟨I.ok.unwish,I.os,I.bare,I.base,I.loc,I.cell,I.free,I.freeC,I.pin,I.hok,I.len⟩
theorem SP.unwish {D:Ends}{f:Flow}{s':Shared} (h:SP (X.wish E) pins D f s'):SP X pins D f s':=by
 cases f with
 | next=>obtain ⟨σ',H',I,q⟩:=h;exact ⟨σ',H',I.unwish,q⟩
 | brk=>obtain ⟨σ',H',I,q⟩:=h;exact ⟨σ',H',I.unwish,q⟩
 | cont=>obtain ⟨σ',H',I,q⟩:=h;exact ⟨σ',H',I.unwish,q⟩
 | ret u=>obtain ⟨v,σ',H',I,r,q⟩:=h;exact ⟨v,σ',H',I.unwish,r,q⟩
theorem PSs.nox {st:List Stmt}{t:TS} (h:PSs X.nox st t):PSs X st t:=fun pins s σ H D I hw=>
 wpAny_mono (h pins s σ H D (I.wish _) hw) (fun _ _ q=>q.unwish) fun _ _ z=>False.elim z
end
section
variable {X:Cx}{st:Stmt}{rest:List Stmt}{t u:TS}{e:Expr}{te:TE}{pos:Pos}
def tNext:TS:=fun D σ H=>D.nx σ H
def tSeq (t u:TS):TS:=fun D σ H=>t { D with nx:=u D } σ H
theorem pss_nil:PSs X [] tNext:=fun _ _ σ H _ I h=>wpAny_execs_nil ⟨σ,H,I,h⟩
theorem pss_cons (h1:PS X st t) (h2:PSs X rest u):PSs X (st::rest) (tSeq t u):=by
 intro pins s σ H D I h
 refine wpAny_execs_cons (thn (h1 pins s σ H { D with nx:=u D } I h) fun f s1 q=>?_)
 cases f with
 | next=>
  obtain ⟨σ',H',I',q⟩:=q
  exact h2 pins s1 σ' H' D I' q
 | ret v=>exact q
 | brk=>exact q
 | cont=>exact q
theorem pss_one (h1:PS X st t):PSs X [st] t:=by
 intro pins s σ H D I h
 refine wpAny_execs_cons (thn (h1 pins s σ H D I h) fun f s1 q=>?_)
 cases f with
 | next=>exact wpAny_execs_nil q
 | ret v=>exact q
 | brk=>exact q
 | cont=>exact q
def tCont:TS:=fun D σ H=>D.ct σ H
theorem ps_continue:PS X (.Continue pos) tCont:=fun _ _ σ H _ I h=>wpAny_Continue ⟨σ,H,I,h⟩
theorem Inv.quiet {pins:List (Addr × Obj)}{σ:St}{H:Hp}{s:Shared} (I:Inv X pins σ H s):interactive X.env=false:=by simp [interactive,I.ok.kind]
def tDrop (te:TE):TS:=fun D σ H=>te σ H fun _ H1=>D.nx σ H1
theorem ps_expr (he:PE X e te) (hs:swapsWith e none pos.line X.env=pure false:=by rfl):PS X (.Expr e pos) (tDrop te):=by
 intro pins s σ H D I h
 exact wpAny_Expr_any (thn (he pins s σ H _ I h) fun v s1 ⟨x,H1,I1,r1,q1⟩=>⟨σ,H1,I1,q1⟩) I.quiet hs
def tRet (te:TE):TS:=fun D σ H=>te σ H D.rt
theorem ps_ret (he:PE X e te):PS X (.Return (some e) pos) (tRet te):=by
 intro pins s σ H D I h
 exact wpAny_Return_some (thn (he pins s σ H _ I h) fun v s1 ⟨x,H1,I1,r1,q1⟩=>⟨x,σ,H1,I1,r1,q1⟩)
def tIfS (c:TT) (t u:TS):TS:=fun D σ H=>c σ H fun b H1=>if b=true then t D σ H1 else u D σ H1
theorem ps_if {c:Expr}{a b:List Stmt}{tc:TT} (hc:PT X c tc) (ha:PSs X a t) (hb:PSs X b u):PS X (.If c a b pos) (tIfS tc t u):=by
 intro pins s σ H D I h
 refine wpAny_If (thn (hc pins s σ H _ I h) fun d s1 ⟨H1,I1,q1⟩=>?_)
 cases d with
 | true=>exact ha pins s1 σ H1 D I1 q1
 | false=>exact hb pins s1 σ H1 D I1 q1
def tNever:TS:=fun _ _ _=>False
theorem ps_never:PS X st tNever:=fun _ _ _ _ _ _ h=>h.elim
end
abbrev TG:=V→St→Hp→(St→Hp→Prop)→Prop
abbrev TGs:=List V→St→Hp→(St→Hp→Prop)→Prop
def PG (X:Cx) (target:Expr) (t:TG):Prop:=
 ∀ (pins:List (Addr × Obj)) (s:Shared) (σ:St) (H:Hp) (v:V) (u:Value) (Q:St→Hp→Prop),Inv X pins σ H s→RelV v u→t v σ H Q→
  wpAny (model X.prog X.w) X.A (assign target X.env u) (fun _ s'=>∃ σ' H',Inv X pins σ' H' s'∧Q σ' H') X.xe s
def PGs (X:Cx) (ts:List Expr) (t:TGs):Prop:=
 ∀ (pins:List (Addr × Obj)) (s:Shared) (σ:St) (H:Hp) (vs:List V) (us:List Value) (Q:St→Hp→Prop),Inv X pins σ H s→Vals vs us→t vs σ H Q→
  wpAny (model X.prog X.w) X.A (assignInOrder ((assignEach ts X.env).map (·.2)) us) (fun _ s'=>∃ σ' H',Inv X pins σ' H' s'∧Q σ' H') X.xe s
abbrev TSet:=V→V→V→Hp→(Hp→Prop)→Prop
def PSet (X:Cx) (t:TSet):Prop:=
 ∀ (pins:List (Addr × Obj)) (s:Shared) (σ:St) (H:Hp) (o i v:V) (ov iv u:Value) (Q:Hp→Prop),Inv X pins σ H s→RelV o ov→RelV i iv→RelV v u→t o i v H Q→
  wpAny (model X.prog X.w) X.A (setItem ov iv u) (fun _ s'=>∃ H',Inv X pins σ H' s'∧Q H') X.xe s
abbrev TIp:=V→V→Hp→VK→Prop
def PIp (X:Cx) (op:Operator) (t:TIp):Prop:=
 ∀ (pins:List (Addr × Obj)) (s:Shared) (σ:St) (H:Hp) (x y:V) (v u:Value) (Q:VK),Inv X pins σ H s→RelV x v→RelV y u→t x y H Q→
  wpAny (model X.prog X.w) X.A (inplaceOp op v u) (EP X pins σ Q) X.xe s
section
variable {X:Cx}{pos:Pos}
def gName (i:Nat):TG:=fun v σ H Q=>Q (σ.set i (some v)) H
theorem pg_name {i:Nat}{x:Str} (hN:X.N.Nodup) (hi:X.N[i]?=some x) (hx:Loc X.env.scope x) (hf:X.fn x=true∨X.env.scope.names.lookup x=some .local:=by first | exact .inl rfl | exact .inr rfl | assumption):PG X (.Name x pos) (gName i):=by
 intro pins s σ H v u Q I r h
 exact wpAny_assign_Name (store_ok I hN hi hx r (fun s' I'=>⟨_,H,I',h⟩) hf)
def gNil:TGs:=fun vs σ H Q=>vs=[]∧Q σ H
def gCons (t:TG) (u:TGs):TGs:=fun vs σ H Q=>∃ v r,vs=v::r∧t v σ H fun σ' H'=>u r σ' H' Q
theorem pgs_nil:PGs X [] gNil:=by
 intro pins s σ H vs us Q I r h
 obtain ⟨e,h⟩:=h
 subst e
 cases r
 exact assignInOrder_nil ⟨σ,H,I,h⟩
theorem pgs_cons {e:Expr}{es:List Expr}{t:TG}{u:TGs} (h1:PG X e t) (h2:PGs X es u)
  (hs:(assignEach (e::es) X.env).map (·.2)=assign e X.env::(assignEach es X.env).map (·.2):=by rfl):PGs X (e::es) (gCons t u):=by
 intro pins s σ H vs us Q I r h
 obtain ⟨v,vr,e1,h⟩:=h
 subst e1
 cases r with
 | cons r rr=>
  rw [hs]
  refine assignInOrder_cons (thn (h1 pins s σ H _ _ _ I r h) fun _ s1 ⟨σ1,H1,I1,q1⟩=>?_)
  exact h2 pins s1 σ1 H1 _ _ Q I1 rr q1
def gTup (K:PySem.W.Frag) (n:Nat) (t:TGs):TG:=fun v σ H Q=>∃ a xs,v=.ref a∧SqT K H a xs∧xs.length=n∧t xs σ H Q
theorem pg_tup {es:List Expr}{k:Nat}{t:TGs}{n:Nat} (hc:X.calm=true) (h:PGs X es t)
  (hn:(assignEach es X.env).length=n:=by rfl) (hst:(assignEach es X.env).findIdx? (·.1)=none:=by rfl):PG X (.Tuple es k pos) (gTup X.K n t):=by
 intro pins s σ H v u Q I r hw
 obtain ⟨a,xs,e1,hq,hl,hw⟩:=hw
 subst e1
 cases r
 obtain ⟨its,rv,ht,hz⟩:=I.tuple hq
 refine assign_Tuple_tuple (I.ok.hd hc) ht (by simp [hn, ← hl,rv.length]) hst fun h' hx=>?_
 have I1:Inv X pins σ H { s with heap:=h' }:=I.kept (t':=s.toks) fun b o e=>hx b o (Nat.ne_of_lt (Heap.lt_size e)) e
 exact h pins _ σ H xs _ Q I1 (by simpa using rv) hw
def gSub (to ti:TE) (t:TSet):TG:=fun v σ H Q=>to σ H fun o H1=>ti σ H1 fun i H2=>t o i v H2 fun H3=>Q σ H3
theorem pg_sub {o i:Expr}{to ti:TE}{t:TSet} (ho:PE X o to) (hi:PE X i ti) (hs:PSet X t)
  (ha:∀ v,assign (.Subscript o i pos) X.env v=(do
   let ov ← holding [v] (eval o X.env)
   let iv ← holding [v,ov] (eval i X.env)
   standAt pos
   holding [v,ov,iv] (setItem ov iv v)
   release [v,ov,iv] []):=by intro _;rfl):PG X (.Subscript o i pos) (gSub to ti t):=by
 intro pins s σ H v u Q I r h
 rw [ha]
 refine wpAny_bind (wpAny_holding (thn (ho pins s σ H _ I h) fun ov s1 ⟨x,H1,I1,r1,q1⟩=>?_))
 refine wpAny_bind (wpAny_holding (thn (hi pins s1 σ H1 _ I1 q1) fun iv s2 ⟨y,H2,I2,r2,q2⟩=>?_))
 refine wpAny_bind (wpAny_standAt (wpAny_bind (wpAny_holding (thn (hs pins s2 σ H2 x y v ov iv u _ I2 r1 r2 r q2) fun _ s3 ⟨H3,I3,q3⟩=>?_))))
 exact wpAny_release ⟨σ,H3,I3,q3⟩
def tAsg (te:TE) (g:TG):TS:=fun D σ H=>te σ H fun x H1=>g x σ H1 D.nx
theorem ps_asg {tg e:Expr}{te:TE}{g:TG} (he:PE X e te) (hg:PG X tg g) (hs:swapsWithSole [tg] e pos.line X.env=pure false:=by rfl) (hw:swappedStores [tg] e X.env=pure none:=by rfl)
  (h1:(assignEach [tg] X.env).map (·.2)=[assign tg X.env]:=by rfl):PS X (.Assign [tg] e pos) (tAsg te g):=by
 intro pins s σ H D I h
 refine wpAny_Assign_stores (thn (he pins s σ H _ I h) fun v s1 ⟨x,H1,I1,r1,q1⟩=>?_) hs hw
 rw [h1]
 exact thn (hg pins s1 σ H1 x v _ I1 r1 q1) fun _ s2 q=>q
theorem ps_set {i:Nat}{x:Str}{e:Expr}{te:TE}{pos':Pos} (hN:X.N.Nodup) (hi:X.N[i]?=some x) (hx:Loc X.env.scope x) (he:PE X e te) (hs:swapsWith e (some (.Name x pos')) pos.line X.env=pure false:=by rfl) (hf:X.fn x=true∨X.env.scope.names.lookup x=some .local:=by first | exact .inl rfl | exact .inr rfl | assumption):
  PS X (.Assign [.Name x pos'] e pos) (tAsg te (gName i)):=by
 intro pins s σ H D I h
 refine wpAny_Assign_Name (thn (he pins s σ H _ I h) fun v s1 ⟨y,H1,I1,r1,q1⟩=>?_) hs
 exact store_ok I1 hN hi hx r1 (fun s2 I2=>⟨_,H1,I2,q1⟩) hf
def tAug (i:Nat) (te:TE) (ti:TIp):TS:=fun D σ H=>∃ x,σ[i]?=some (some x)∧te σ H fun y H1=>ti x y H1 fun z H2=>D.nx (σ.set i (some z)) H2
theorem ps_aug {i:Nat}{x:Str}{e:Expr}{te:TE}{op:Operator}{ti:TIp}{pos':Pos} (hN:X.N.Nodup) (hi:X.N[i]?=some x) (hx:Loc X.env.scope x) (he:PE X e te) (ho:PIp X op ti) (hf:X.fn x=true∨X.env.scope.names.lookup x=some .local:=by first | exact .inl rfl | exact .inr rfl | assumption):
  PS X (.AugAssign (.Name x pos') op e pos) (tAug i te ti):=by
 intro pins s σ H D I h
 obtain ⟨v,e1,h⟩:=h
 obtain ⟨m,hn,hl⟩:=I.loc
 have vis:Vis X.env.scope x:=by rcases hx with k | k;exact .inl k;exact .inr (.inl k)
 obtain ⟨u,r,l⟩:=hl i x v hi e1 vis
 refine wpAny_AugAssign_Name ?_
 have go:wpAny (model X.prog X.w) X.A (eval e X.env) (fun w s₂=>wpAny (model X.prog X.w) X.A (inplaceOp op u w) (fun r s₃=>wpAny (model X.prog X.w) X.A (storeName X.env x r) (fun _=>SP X pins D .next) X.xe s₃) X.xe s₂) X.xe s:=by
  refine thn (he pins s σ H _ I h) fun w s1 ⟨y,H1,I1,r1,q1⟩=>?_
  refine thn (ho pins s1 σ H1 v y u w _ I1 r r1 q1) fun z s2 ⟨zv,H2,I2,r2,q2⟩=>?_
  exact store_ok I2 hN hi hx r2 (fun s3 I3=>⟨_,H2,I3,q2⟩) hf
 rcases l with ⟨hk,hm⟩ | ⟨hk,c,hc,hcell⟩
 · exact wpAny_loadName_local I.ok.kind hk hn hm go
 · rcases hk with hk | hk
   · exact wpAny_loadName_cell I.ok.kind hk hc hcell go
   · rcases hx with k | k
     · have:X.env.scope.names.lookup x=some .free:=hk
       rw [k] at this;cases this
     · have:X.env.scope.names.lookup x=some .free:=hk
       rw [k] at this;cases this
def tAugS (to ti te:TE) (tget:V→V→Hp→VK→Prop) (tip:TIp) (tset:TSet):TS:=fun D σ H=>to σ H fun o H1=>ti σ H1 fun i H2=>tget o i H2 fun x H3=>te σ H3 fun y H4=>tip x y H4 fun z H5=>tset o i z H5 fun H6=>D.nx σ H6
def PGet (X:Cx) (t:V→V→Hp→VK→Prop):Prop:=
 ∀ (pins:List (Addr × Obj)) (s:Shared) (σ:St) (H:Hp) (o i:V) (ov iv:Value) (Q:VK),Inv X pins σ H s→RelV o ov→RelV i iv→t o i H Q→
  wpAny (model X.prog X.w) X.A (getItem ov iv) (EP X pins σ Q) X.xe s
theorem ps_augS {o i e:Expr}{to ti te:TE}{tget:V→V→Hp→VK→Prop}{tip:TIp}{tset:TSet}{op:Operator}{tpos:Pos} (ho:PE X o to) (hi:PE X i ti) (hg:PGet X tget) (he:PE X e te) (hp:PIp X op tip) (hs:PSet X tset)
  (ha:∀ ov iv new,augStore i ov iv new=(do holding [new,ov,iv] (setItem ov iv new);release [new,ov,iv] [];pure .next):=by intros;rfl):PS X (.AugAssign (.Subscript o i tpos) op e pos) (tAugS to ti te tget tip tset):=by
 intro pins s σ H D I h
 refine wpAny_AugAssign_SubscriptAny (thn (ho pins s σ H _ I h) fun ov s1 ⟨x1,H1,I1,r1,q1⟩=>?_) ha
 refine thn (hi pins s1 σ H1 _ I1 q1) fun iv s2 ⟨x2,H2,I2,r2,q2⟩=>?_
 refine thn (hg pins s2 σ H2 x1 x2 ov iv _ I2 r1 r2 q2) fun old s3 ⟨x3,H3,I3,r3,q3⟩=>?_
 refine thn (he pins s3 σ H3 _ I3 q3) fun v s4 ⟨x4,H4,I4,r4,q4⟩=>?_
 refine thn (hp pins s4 σ H4 x3 x4 old v _ I4 r3 r4 q4) fun new s5 ⟨x5,H5,I5,r5,q5⟩=>?_
 exact thn (hs pins s5 σ H5 x1 x2 x5 ov iv new _ I5 r1 r2 r5 q5) fun _ s6 ⟨H6,I6,q6⟩=>⟨σ,H6,I6,q6⟩
def ipI (f:Int→Int→Int):TIp:=fun x y H Q=>∃ i j,x=.int i∧y=.int j∧Q (.int (f i j)) H
theorem ip_add:PIp X .Add (ipI fun i j=>i+j):=by
 intro pins s σ H x y v u Q I r1 r2 h
 obtain ⟨i,j,e1,e2,q⟩:=h
 subst e1;subst e2
 obtain ⟨t,rfl⟩:=r1
 obtain ⟨t',rfl⟩:=r2
 exact iadd_int ⟨.int _,H,I.tok _,⟨_,rfl⟩,q⟩
theorem ip_sub:PIp X .Sub (ipI fun i j=>i - j):=by
 intro pins s σ H x y v u Q I r1 r2 h
 obtain ⟨i,j,e1,e2,q⟩:=h
 subst e1;subst e2
 obtain ⟨t,rfl⟩:=r1
 obtain ⟨t',rfl⟩:=r2
 exact isub_int ⟨.int _,H,I.tok _,⟨_,rfl⟩,q⟩
end
section
variable {X:Cx}{pos:Pos}
def tWhile (c:TT) (tb:TS):TS:=fun D σ H=>∃ W:Nat→St→Hp→Prop,(∃ m,W m σ H)∧∀ m σ H,W m σ H→
 c σ H fun b H1=>if b=true then ∃ N:St→Hp→Prop,(∀ σ' H',N σ' H'→∃ m',m' < m∧W m' σ' H')∧tb { D with nx:=N,ct:=N,bk:=D.nx } σ H1 else D.nx σ H1
theorem ps_while {c:Expr}{body:List Stmt}{tc:TT}{tb:TS} (hp:PassesOwn (model X.prog X.w) X.A X.env X.xe) (hc:PT X c tc) (hb:PSs X body tb):PS X (.While c body [] pos) (tWhile tc tb):=by
 intro pins s σ H D I h
 obtain ⟨W,⟨m0,w0⟩,turn⟩:=h
 refine wpAny_While (codeAny_whileLoop (fun n s'=>∃ σ' H',Inv X pins σ' H' s'∧W n σ' H') ?_ m0 ⟨σ,H,I,w0⟩)
 rintro n s1 ⟨σ1,H1,I1,w1⟩
 refine wpAny_passesOwn hp (thn (hc pins s1 σ1 H1 _ I1 (turn n σ1 H1 w1)) fun b s2 ⟨H2,I2,q2⟩=>?_)
 cases b with
 | true=>
  obtain ⟨N,hN,q2⟩:=q2
  rw [if_pos rfl]
  refine wpAny_passesOwn hp (thn (hb pins s2 σ1 H2 _ I2 q2) fun f s3 q3=>?_)
  cases f with
  | next=>
   obtain ⟨σ3,H3,I3,n3⟩:=q3
   obtain ⟨m',hm,w3⟩:=hN σ3 H3 n3
   exact ⟨m',hm,σ3,H3,I3,w3⟩
  | cont=>
   obtain ⟨σ3,H3,I3,n3⟩:=q3
   obtain ⟨m',hm,w3⟩:=hN σ3 H3 n3
   exact ⟨m',hm,σ3,H3,I3,w3⟩
  | brk=>exact q3
  | ret v=>exact q3
 | false=>
  rw [if_neg Bool.false_ne_true]
  exact wpAny_execs_nil ⟨σ1,H2,I2,q2⟩
end
structure It where
 go:Nat→Hp→Prop
 yld:Nat→Hp→V→Hp→Prop
 stop:Nat→Hp→Prop
def FpOk (X:Cx) (pins:List (Addr × Obj)) (H:Hp) (b:Addr):Prop:=
 H b=none∧b≠X.env.locals∧b∉X.fs∧(b∈X.ex∨X.s₀.heap.objs.size≤b)∧(∀ x c,X.env.cells.lookup x=some c→c≠b)∧∀ p∈X.pn++pins,p.1≠b
theorem Inv.fpOk {X:Cx}{pins:List (Addr × Obj)}{σ:St}{H H':Hp}{s:Shared}{b:Addr} (I:Inv X pins σ H s) (hb:s.heap.objs.size≤b) (hn:H' b=none):FpOk X pins H' b:=by
 refine ⟨hn,Nat.ne_of_gt (Nat.lt_of_lt_of_le I.lt hb),I.nofs hb,.inr (Nat.le_trans I.sz hb),fun x c e z=>?_,fun p hp z=>?_⟩
 · obtain ⟨v,q⟩:=I.cell x c e
   exact absurd (Nat.lt_of_lt_of_le q.lt (by rw [z];exact hb)) (Nat.lt_irrefl _)
 · exact absurd (Nat.lt_of_lt_of_le (Heap.lt_size (I.pin p hp).1) (by rw [z];exact hb)) (Nat.lt_irrefl _)
structure Turn (P:Program) (w:World) (K:PySem.W.Frag) (tg:Expr) (J:It) (fp:List Addr) (it:Addr) (tn:Nat→Heap→Prop):Prop where
 mem:it∈fp
 obj:∀ i h,tn i h→∀ b∈fp,∃ o,h.get? b=some o∧∀ v,o.data≠.cell v
 keep:∀ i h h',tn i h→(∀ b∈fp,∀ o,h.get? b=some o→h'.get? b=some o)→tn i h'
 item:∀ (X:Cx),X.prog=P→X.w=w→X.K=K→X.calm=true→∀ (i:Nat) (pins:List (Addr × Obj)) (s:Shared) (σ:St) (H:Hp) (E:Value→Shared→Prop),Inv X pins σ H s→(∀ b∈fp,FpOk X pins H b)→tn i s.heap→J.go i H→
  wpAny (model P w) X.A (pyNext (.ref it)) (fun r s1=>∃ u,r=some u∧
   wpAny (model P w) X.A (letOwnedTupleGo tg (.ref it) u) (fun _ s2=>∃ x H',Inv X pins σ H' s2∧RelV x u∧J.yld i H x H'∧tn (i+1) s2.heap∧∀ b∈fp,H' b=none) E s1) E s
 done:∀ (X:Cx),X.prog=P→X.w=w→X.K=K→X.calm=true→∀ (i:Nat) (pins:List (Addr × Obj)) (s:Shared) (σ:St) (H:Hp) (E:Value→Shared→Prop),Inv X pins σ H s→(∀ b∈fp,FpOk X pins H b)→tn i s.heap→J.stop i H→
  wpAny (model P w) X.A (pyNext (.ref it)) (fun r s1=>r=none∧Inv X pins σ H s1) E s
 self:∀ (A:Around) (i:Nat) (s:Shared) (Q:Value→Shared→Prop) (E:Value→Shared→Prop),tn i s.heap→Q (.ref it) s→wpAny (model P w) A (pyIter (.ref it)) Q E s
abbrev TI:=St→Hp→(It→Hp→Prop)→Prop
def PIE (X:Cx) (pins:List (Addr × Obj)) (σ:St) (tg:Expr) (R:It→Hp→Prop) (itv:Value) (s2:Shared):Prop:=
 ∃ (it:Addr) (fp:List Addr) (tn:Nat→Heap→Prop) (J:It) (H':Hp),itv=.ref it∧Inv X pins σ H' s2∧Turn X.prog X.w X.K tg J fp it tn∧tn 0 s2.heap∧(∀ b∈fp,FpOk X pins H' b)∧R J H'
def PI (X:Cx) (tg iter:Expr) (wi:TI):Prop:=
 ∀ (pins:List (Addr × Obj)) (s:Shared) (σ:St) (H:Hp) (R:It→Hp→Prop),Inv X pins σ H s→wi σ H R→
  wpAny (model X.prog X.w) X.A (eval iter X.env) (fun v s1=>wpAny (model X.prog X.w) X.A (pyIter v) (PIE X pins σ tg R) X.xe s1) X.xe s
theorem go_of {M:Model}{A:Around}{E:Value→Shared→Prop}{s:Shared}{tg:Expr}{it:Addr}{u:Value}{o:Obj}{n:String}{vs:Array Value}{Q:Unit→Shared→Prop} (ho:s.heap.get? it=some o) (hc:o.cls=.type n) (hd:o.data=.fields vs)
  (hn:["enumerate","zip","dict_itemiterator","dict_reverseitemiterator","odict_iterator","itertools.zip_longest","itertools.pairwise"].contains n=false) (hQ:Q () s):wpAny M A (letOwnedTupleGo tg (.ref it) u) Q E s:=by
 unfold letOwnedTupleGo
 cases tg <;> first
  | exact wpAny_pure hQ
  | (cases u <;> first
    | exact wpAny_pure hQ
    | (refine wpAny_bind (wpAny_load ho ?_)
       rw [hc,hd]
       show wpAny M A (if (["enumerate","zip","dict_itemiterator","dict_reverseitemiterator","odict_iterator","itertools.zip_longest","itertools.pairwise"].contains n && vs[0]? == some (rawInt _))=true then _ else _) Q E s
       rw [if_neg (by intro h;rw [hn,Bool.false_and] at h;cases h)]
       exact wpAny_pure hQ))
def Itl (K:PySem.W.Frag) (a:Addr):It:=
 ⟨fun i H=>∃ xs x,SqL K H a xs∧xs[i]?=some x,fun i H x H'=>H'=H∧∀ xs,SqL K H a xs→xs[i]?=some x,fun i H=>∃ xs,SqL K H a xs∧xs.length≤i⟩
def Itt (K:PySem.W.Frag) (a:Addr):It:=
 ⟨fun i H=>∃ xs x,SqT K H a xs∧xs[i]?=some x,fun i H x H'=>H'=H∧∀ xs,SqT K H a xs→xs[i]?=some x,fun i H=>∃ xs,SqT K H a xs∧xs.length≤i⟩
def Itr (lo:Int) (n:Nat):It:=⟨fun i _=>i < n,fun i H x H'=>H'=H∧x=.int (lo+i),fun i _=>n≤i⟩
theorem turn_list {P:Program}{w:World}{K:PySem.W.Frag}{tg:Expr} (a it:Addr):Turn P w K tg (Itl K a) [it] it (fun i h=>h.IsListIter it a i) where
 mem:=by simp
 obj:=fun i h st b hb=>by
  have e:b=it:=by simpa using hb
  subst e
  obtain ⟨o,e,c,d⟩:=st
  exact ⟨o,e,fun v z=>by rw [d] at z;cases z⟩
 keep:=fun i h h' st k=>st.at fun o e=>k it (by simp) o e
 item:=by
  intro X hP hw hK hc i pins s σ H E I hf st hg
  subst hP hw hK
  obtain ⟨xs,x,hq,hx⟩:=hg
  obtain ⟨its,rv,p,hz⟩:=I.list hq
  obtain ⟨u,hu,ru⟩:=rv.get hx
  obtain ⟨f0,f1,f2,f3,f4,f5⟩:=hf it (by simp)
  refine wpAny_pyNext_list_item st p.isList (x:=u) (by simpa using hu) fun h' st' sb=>?_
  have I1:Inv X pins σ H { s with heap:=h' }:=I.turned (t':=s.toks) (fun b o hb e=>(sb.2 b hb).trans e) f0 f1 f3 f4 f5
  obtain ⟨o,e,c,d⟩:=id st'
  exact ⟨u,rfl,go_of (s:={ s with heap:=h' }) e c d (by decide) ⟨x,H,I1,ru,⟨rfl,fun ys hy=>by rw [I.list_inj hy hq];exact hx⟩,st',fun b hb=>(hf b hb).1⟩⟩
 done:=by
  intro X hP hw hK hc i pins s σ H E I hf st hg
  subst hP hw hK
  obtain ⟨xs,hq,hx⟩:=hg
  obtain ⟨its,rv,p,hz⟩:=I.list hq
  obtain ⟨f0,f1,f2,f3,f4,f5⟩:=hf it (by simp)
  have hl:=rv.length
  exact wpAny_pyNext_list_end (I.ok.hd hc) st p.isList (by simp;omega) fun h' eb=>⟨rfl,I.turned (t':=s.toks) (fun b o hb e=>eb b o hb e) f0 f1 f3 f4 f5⟩
 self:=fun _ _ _ _ _ st h=>wpAny_pyIter_listiter st h
theorem turn_tuple {P:Program}{w:World}{K:PySem.W.Frag}{tg:Expr} (a it:Addr):Turn P w K tg (Itt K a) [it] it (fun i h=>h.IsTupleIter it a i) where
 mem:=by simp
 obj:=fun i h st b hb=>by
  have e:b=it:=by simpa using hb
  subst e
  obtain ⟨o,e,c,d⟩:=st
  exact ⟨o,e,fun v z=>by rw [d] at z;cases z⟩
 keep:=fun i h h' st k=>st.at fun o e=>k it (by simp) o e
 item:=by
  intro X hP hw hK hc i pins s σ H E I hf st hg
  subst hP hw hK
  obtain ⟨xs,x,hq,hx⟩:=hg
  obtain ⟨its,rv,p,hz⟩:=I.tuple hq
  obtain ⟨u,hu,ru⟩:=rv.get hx
  obtain ⟨f0,f1,f2,f3,f4,f5⟩:=hf it (by simp)
  refine wpAny_pyNext_tuple_item st (show s.heap.IsTuple a its.toArray from p) (x:=u) (by simpa using hu) fun h' st' sb=>?_
  have I1:Inv X pins σ H { s with heap:=h' }:=I.turned (t':=s.toks) (fun b o hb e=>(sb.2 b hb).trans e) f0 f1 f3 f4 f5
  obtain ⟨o,e,c,d⟩:=id st'
  exact ⟨u,rfl,go_of (s:={ s with heap:=h' }) e c d (by decide) ⟨x,H,I1,ru,⟨rfl,fun ys hy=>by rw [I.tuple_inj hy hq];exact hx⟩,st',fun b hb=>(hf b hb).1⟩⟩
 done:=by
  intro X hP hw hK hc i pins s σ H E I hf st hg
  subst hP hw hK
  obtain ⟨xs,hq,hx⟩:=hg
  obtain ⟨its,rv,p,hz⟩:=I.tuple hq
  obtain ⟨f0,f1,f2,f3,f4,f5⟩:=hf it (by simp)
  have hl:=rv.length
  exact wpAny_pyNext_tuple_end (I.ok.hd hc) st (show s.heap.IsTuple a its.toArray from p) (by simp;omega) fun h' eb=>⟨rfl,I.turned (t':=s.toks) (fun b o hb e=>eb b o hb e) f0 f1 f3 f4 f5⟩
 self:=fun _ _ _ _ _ st h=>wpAny_pyIter_tupleiter st h
theorem turn_range {P:Program}{w:World}{K:PySem.W.Frag}{tg:Expr} (it:Addr) (lo:Int) (n:Nat):Turn P w K tg (Itr lo n) [it] it (fun i h=>IsRangeIter h it (lo+(i:Nat) * 1) ((n:Int) - (i:Nat)) 1) where
 mem:=by simp
 obj:=fun i h st b hb=>by
  have e:b=it:=by simpa using hb
  subst e
  exact ⟨_,st,fun v z=>by
   have z':Data.fields _=Data.cell v:=z
   cases z'⟩
 keep:=fun i h h' st k=>k it (by simp) _ st
 item:=by
  intro X hP hw hK hc i pins s σ H E I hf st hg
  subst hP hw hK
  obtain ⟨f0,f1,f2,f3,f4,f5⟩:=hf it (by simp)
  have W:=Walks.range (prog:=X.prog) (w:=X.w) (I.ok.hd hc) it lo 1 n
  refine W.item i s _ _ hg st fun v h' tk hv st' kk=>?_
  obtain ⟨t,rfl⟩:=hv
  have I1:Inv X pins σ H { s with heap:=h',toks:=tk }:=I.turned (fun b o hb e=>kk b o (by simpa using hb) e) f0 f1 f3 f4 f5
  refine ⟨_,rfl,go_of (s:={ s with heap:=h',toks:=tk }) (n:="range_iterator") st' rfl rfl (by decide) ⟨.int (lo+i),H,I1,⟨t,?_⟩,⟨rfl,rfl⟩,st',fun b hb=>(hf b hb).1⟩⟩
  rw [Int.mul_one]
 done:=by
  intro X hP hw hK hc i pins s σ H E I hf st hg
  subst hP hw hK
  obtain ⟨f0,f1,f2,f3,f4,f5⟩:=hf it (by simp)
  exact wpAny_pyNext_range_end (I.ok.hd hc) st (by have:n≤i:=hg;omega) fun h' eb=>⟨rfl,I.turned (t':=s.toks) (fun b o hb e=>eb b o hb e) f0 f1 f3 f4 f5⟩
 self:=fun _ _ _ _ _ st h=>wpAny_pyIter_rangeiter st h
section
variable {X:Cx}{tg:Expr}
def iList (K:PySem.W.Frag) (tl:TE):TI:=fun σ H R=>tl σ H fun x H1=>∃ a,x=.ref a∧(∃ xs,SqL K H1 a xs)∧R (Itl K a) H1
def iTup (K:PySem.W.Frag) (tl:TE):TI:=fun σ H R=>tl σ H fun x H1=>∃ a,x=.ref a∧(∃ xs,SqT K H1 a xs)∧R (Itt K a) H1
theorem pi_list {l:Expr}{tl:TE} (hl:PE X l tl):PI X tg l (iList X.K tl):=by
 intro pins s σ H R I h
 refine thn (hl pins s σ H _ I h) fun v s1 ⟨x,H1,I1,r1,q1⟩=>?_
 obtain ⟨a,e,⟨xs,hq⟩,q⟩:=q1
 subst e
 cases r1
 obtain ⟨its,rv,p,hz⟩:=I1.list hq
 refine wpAny_pyIter_list p.isList ?_
 refine ⟨s1.heap.objs.size,[s1.heap.objs.size],_,_,H1,rfl,I1.kept (t':=s1.toks) fun b o e=>Heap.get?_push_of_some _ e,turn_list a _,⟨_,Heap.get?_push_size _ rfl,rfl,rfl⟩,fun b hb=>?_,q⟩
 have e:b=s1.heap.objs.size:=by simpa using hb
 subst e
 exact I1.fpOk (Nat.le_refl _) (I1.hok.fresh (Nat.le_refl _))
theorem pi_tup {l:Expr}{tl:TE} (hl:PE X l tl):PI X tg l (iTup X.K tl):=by
 intro pins s σ H R I h
 refine thn (hl pins s σ H _ I h) fun v s1 ⟨x,H1,I1,r1,q1⟩=>?_
 obtain ⟨a,e,⟨xs,hq⟩,q⟩:=q1
 subst e
 cases r1
 obtain ⟨its,rv,p,hz⟩:=I1.tuple hq
 refine wpAny_pyIter_tuple (show s1.heap.IsTuple a its.toArray from p) ?_
 refine ⟨s1.heap.objs.size,[s1.heap.objs.size],_,_,H1,rfl,I1.kept (t':=s1.toks) fun b o e=>Heap.get?_push_of_some _ e,turn_tuple a _,⟨_,Heap.get?_push_size _ rfl,rfl,rfl⟩,fun b hb=>?_,q⟩
 have e:b=s1.heap.objs.size:=by simpa using hb
 subst e
 exact I1.fpOk (Nat.le_refl _) (I1.hok.fresh (Nat.le_refl _))
theorem range_it {pins:List (Addr × Obj)}{σ:St}{H:Hp}{s:Shared}{R:It→Hp→Prop}{E:Value→Shared→Prop}{lo hi:Int}{t u v:Tok}{tk:Nat} (I:Inv X pins σ H s) (h1: -(2 ^ 62)≤lo) (h2:lo < 2 ^ 62) (h3: -(2 ^ 62)≤hi) (h4:hi < 2 ^ 62)
  (q:R (Itr lo (hi - lo).toNat) H):wpAny (model X.prog X.w) X.A (pyIter (.ref s.heap.objs.size)) (PIE X pins σ tg R) E { s with heap:=s.heap.push { cls:=.type "range",data:=.fields #[.int lo t,.int hi u,.int 1 v] },toks:=tk }:=by
 refine wpAny_pyIter_range (IsRange.new ..) (small_one h1 h2 h3 h4) ?_
 have I1:Inv X pins σ H { s with heap:=s.heap.push { cls:=.type "range",data:=.fields #[.int lo t,.int hi u,.int 1 v] },toks:=tk }:=I.kept fun b o e=>Heap.get?_push_of_some _ e
 refine ⟨(s.heap.push { cls:=.type "range",data:=.fields #[.int lo t,.int hi u,.int 1 v] }).objs.size,[(s.heap.push { cls:=.type "range",data:=.fields #[.int lo t,.int hi u,.int 1 v] }).objs.size],_,_,H,rfl,
  I1.kept (t':=tk) fun b o e=>Heap.get?_push_of_some _ e,turn_range _ lo (hi - lo).toNat,?_,fun b hb=>?_,q⟩
 · have e1:lo+((0:Nat):Int) * 1=lo:=by simp
   have e2:(((hi - lo).toNat:Nat):Int) - ((0:Nat):Int)=Builtin.Range.rangeSize lo hi 1:=by rw [rangeSize_one];split <;> omega
   show IsRangeIter _ _ (lo+((0:Nat):Int) * 1) ((((hi - lo).toNat:Nat):Int) - ((0:Nat):Int)) 1
   rw [e1,e2]
   exact Heap.get?_push_size _ rfl
 · have e:b=(s.heap.push { cls:=.type "range",data:=.fields #[.int lo t,.int hi u,.int 1 v] }).objs.size:=by simpa using hb
   subst e
   exact I1.fpOk (Nat.le_refl _) (I1.hok.fresh (Nat.le_refl _))
def iRng1 (ta:TA):TI:=fun σ H R=>ta σ H fun vs H1=>∃ j:Int,vs=[.int j]∧ -(2 ^ 62)≤j∧j < 2 ^ 62∧R (Itr 0 j.toNat) H1
def iRng2 (ta:TA):TI:=fun σ H R=>ta σ H fun vs H1=>∃ i j:Int,vs=[.int i,.int j]∧(-(2 ^ 62)≤i∧i < 2 ^ 62∧ -(2 ^ 62)≤j∧j < 2 ^ 62)∧R (Itr i (j - i).toNat) H1
theorem pi_range1 {a:Expr}{ta:TA}{p pos:Pos} (hg:Gl X "range") (hm:X.mg "range"=none) (ha:PA X [a] ta) (hs:starEach [a] X.env=[(false,eval a X.env)]:=by rfl):PI X tg (.Call (.Name "range" p) [a] [] pos) (iRng1 ta):=by
 intro pins s σ H R I h
 refine Call_ (ld_blt I hg hm boot_range (PyProof.Rows.callWith_type1 (thn (ha pos pins s σ H _ I h) fun us s1 ⟨vs,H1,I1,r1,q1⟩=>?_) hs rfl))
 obtain ⟨j,e,q1,q2,q⟩:=q1
 subst e
 cases r1 with
 | cons r rr=>
  cases rr
  obtain ⟨t,rfl⟩:=r
  exact call_range_1 (range_it I1 (by omega) (by omega) q1 q2 (by simpa using q))
theorem pi_range2 {a b:Expr}{ta:TA}{p pos:Pos} (hg:Gl X "range") (hm:X.mg "range"=none) (ha:PA X [a,b] ta) (hs:starEach [a,b] X.env=[(false,eval a X.env),(false,eval b X.env)]:=by rfl) (hs2:starEach [b] X.env=[(false,eval b X.env)]:=by rfl):
  PI X tg (.Call (.Name "range" p) [a,b] [] pos) (iRng2 ta):=by
 intro pins s σ H R I h
 refine Call_ (ld_blt I hg hm boot_range (PyProof.Rows.callWith_type1 (thn (ha pos pins s σ H _ I h) fun us s1 ⟨vs,H1,I1,r1,q1⟩=>?_) (by rw [hs,hs2]) (by rw [hs2];rfl)))
 obtain ⟨i,j,e,⟨q1,q2,q3,q4⟩,q⟩:=q1
 subst e
 cases r1 with
 | cons r rr=>
  cases rr with
  | cons r' rr=>
   cases rr
   obtain ⟨t,rfl⟩:=r
   obtain ⟨t',rfl⟩:=r'
   exact call_range_2 (range_it I1 q1 q2 q3 q4 q)
def tFor (wi:TI) (g:TG) (tb:TS):TS:=fun D σ H=>wi σ H fun J H1=>∃ W:Nat→Nat→St→Hp→Prop,(∃ m,W 0 m σ H1)∧∀ i m σ H,W i m σ H→
 (J.stop i H∧D.nx σ H)∨(J.go i H∧∃ N:St→Hp→Prop,(∀ σ' H',N σ' H'→∃ m',m' < m∧W (i+1) m' σ' H')∧∀ x H',J.yld i H x H'→g x σ H' fun σ2 H2=>tb { D with nx:=N,ct:=N,bk:=D.nx } σ2 H2)
def pinsAt (fp:List Addr) (h:Heap):List (Addr × Obj):=fp.filterMap fun b=>(h.get? b).map fun o=>(b,o)
theorem mem_pinsAt {fp:List Addr}{h:Heap}{b:Addr}{o:Obj} (hb:b∈fp) (e:h.get? b=some o):(b,o)∈pinsAt fp h:=List.mem_filterMap.mpr ⟨b,hb,by rw [e];rfl⟩
theorem of_pinsAt {fp:List Addr}{h:Heap}{p:Addr × Obj} (hp:p∈pinsAt fp h):p.1∈fp∧h.get? p.1=some p.2:=by
 obtain ⟨b,hb,e⟩:=List.mem_filterMap.mp hp
 cases q:h.get? b with
 | none=>rw [q] at e;cases e
 | some o=>
  rw [q] at e
  have e':(b,o)=p:=Option.some.inj e
  subst e'
  exact ⟨hb,q⟩
theorem Inv.pinned {pins:List (Addr × Obj)}{σ:St}{H:Hp}{s:Shared}{fp:List Addr} (I:Inv X pins σ H s) (hf:∀ b∈fp,FpOk X pins H b) (ho:∀ b∈fp,∃ o,s.heap.get? b=some o∧∀ v,o.data≠.cell v):Inv X (pins++pinsAt fp s.heap) σ H s:=
 I.pins_of fun p hp=>(List.mem_append.mp hp).elim (fun z=>I.pin p (List.mem_append_right _ z)) fun z=>by
  obtain ⟨hb,e⟩:=of_pinsAt z
  obtain ⟨f0,f1,f2,_⟩:=hf p.1 hb
  obtain ⟨o,e',d⟩:=ho p.1 hb
  rw [e] at e';cases e'
  exact ⟨e,f0,f1,f2,d⟩
theorem Inv.unpinned {pins pl:List (Addr × Obj)}{σ:St}{H:Hp}{s:Shared} (I:Inv X (pins++pl) σ H s):Inv X pins σ H s:=I.pins_of fun p hp=>I.pin p (List.mem_append_right _ (List.mem_append_left _ hp))
theorem ps_for {iter:Expr}{body:List Stmt}{wi:TI}{g:TG}{tb:TS}{pos:Pos} (hp:PassesOwn (model X.prog X.w) X.A X.env X.xe) (hc:X.calm=true) (hi:PI X tg iter wi) (hg:PG X tg g) (hb:PSs X body tb)
  (hs:∀ x,foldedSetIterable iter X.env x=pure x:=by intro _;rfl):PS X (.For tg iter body [] pos) (tFor wi g tb):=by
 intro pins s σ H D I h
 refine wpAny_For (thn (hi pins s σ H _ I h) fun v s1 h1=>thn h1 fun itv s2 h2=>?_) hs
 obtain ⟨it,fp,tn,J,H2,e,I2,T,st2,f2,W,⟨m0,w0⟩,turn⟩:=h2
 subst e
 have stat:∀ {H':Hp},(∀ b∈fp,H' b=none)→∀ b∈fp,FpOk X pins H' b:=fun hn b hb=>⟨hn b hb,(f2 b hb).2⟩
 refine codeAny_forLoop_any (fun n s'=>∃ i σ' H',Inv X pins σ' H' s'∧tn i s'.heap∧(∀ b∈fp,H' b=none)∧W i n σ' H') ?_ m0 ⟨0,σ,H2,I2,st2,fun b hb=>(f2 b hb).1,w0⟩
 rintro n s3 ⟨i,σ3,H3,I3,st3,fr3,w3⟩
 rcases turn i n σ3 H3 w3 with ⟨stop,qn⟩ | ⟨go,N,hN,step⟩
 · refine wpAny_passesOwn hp (thn (T.done X rfl rfl rfl hc i pins s3 σ3 H3 X.xe I3 (stat fr3) st3 stop) fun r s4 ⟨hr,I4⟩=>?_)
   subst hr
   exact wpAny_execs_nil ⟨σ3,H3,I4,qn⟩
 · refine wpAny_passesOwn hp (thn (T.item X rfl rfl rfl hc i pins s3 σ3 H3 X.xe I3 (stat fr3) st3 go) fun r s4 ⟨u,hr,h4⟩=>?_)
   subst hr
   refine wpAny_passesOwn hp (thn h4 fun _ s5 ⟨x,H5,I5,r5,y5,st5,fr5⟩=>?_)
   have I5':=I5.pinned (stat fr5) (T.obj _ _ st5)
   refine wpAny_passesOwn hp (thn (hg _ s5 σ3 H5 x u _ I5' r5 (step x H5 y5)) fun _ s6 ⟨σ6,H6,I6,q6⟩=>?_)
   refine wpAny_passesOwn hp (thn (hb _ s6 σ6 H6 _ I6 q6) fun f s7 q7=>?_)
   have again:∀ {σ7:St}{H7:Hp},Inv X (pins++pinsAt fp s5.heap) σ7 H7 s7→N σ7 H7→∃ m,m < n∧∃ i σ' H',Inv X pins σ' H' s7∧tn i s7.heap∧(∀ b∈fp,H' b=none)∧W i m σ' H':=fun {σ7 H7} I7 n7=>by
    obtain ⟨m',hm,w7⟩:=hN σ7 H7 n7
    refine ⟨m',hm,i+1,σ7,H7,I7.unpinned,T.keep _ _ _ st5 fun b hb o e=>(I7.pin (b,o) (List.mem_append_right _ (List.mem_append_right _ (mem_pinsAt hb e)))).1,fun b hb=>?_,w7⟩
    obtain ⟨o,e,d⟩:=T.obj _ _ st5 b hb
    exact (I7.pin (b,o) (List.mem_append_right _ (List.mem_append_right _ (mem_pinsAt hb e)))).2.1
   cases f with
   | next=>obtain ⟨σ7,H7,I7,n7⟩:=q7;exact again I7 n7
   | cont=>obtain ⟨σ7,H7,I7,n7⟩:=q7;exact again I7 n7
   | brk=>obtain ⟨σ7,H7,I7,q7⟩:=q7;exact ⟨σ7,H7,I7.unpinned,q7⟩
   | ret v=>obtain ⟨x7,σ7,H7,I7,r7,q7⟩:=q7;exact ⟨x7,σ7,H7,I7.unpinned,r7,q7⟩
end
theorem for_list {K:PySem.W.Frag}{a:Addr}{xs:List V}{g:TG}{tb:TS}{D:Ends}{σ:St}{H:Hp} (Pv:Nat→St→Hp→Prop) (h0:Pv 0 σ H) (hl:∀ i σ H,i≤xs.length→Pv i σ H→SqL K H a xs)
  (hs:∀ i x σ H,xs[i]?=some x→Pv i σ H→g x σ H fun σ2 H2=>tb { D with nx:=Pv (i+1),ct:=Pv (i+1),bk:=D.nx } σ2 H2) (hd:∀ σ H,Pv xs.length σ H→D.nx σ H):
  ∃ W:Nat→Nat→St→Hp→Prop,(∃ m,W 0 m σ H)∧∀ i m σ H,W i m σ H→
   ((Itl K a).stop i H∧D.nx σ H)∨((Itl K a).go i H∧∃ N:St→Hp→Prop,(∀ σ' H',N σ' H'→∃ m',m' < m∧W (i+1) m' σ' H')∧∀ x H',(Itl K a).yld i H x H'→g x σ H' fun σ2 H2=>tb { D with nx:=N,ct:=N,bk:=D.nx } σ2 H2):=by
 refine ⟨fun i m σ H=>m=xs.length - i∧i≤xs.length∧Pv i σ H,⟨xs.length,by simp,Nat.zero_le _,h0⟩,?_⟩
 rintro i m σ H ⟨rfl,hi,p⟩
 have q:=hl i σ H hi p
 by_cases hlt:i < xs.length
 · refine .inr ⟨⟨xs,xs[i],q,by simp [hlt]⟩,Pv (i+1),fun σ' H' p'=>⟨xs.length - (i+1),by omega,rfl,hlt,p'⟩,fun x H' y=>?_⟩
   obtain ⟨e,y⟩:=y
   subst e
   exact hs i x σ _ (y xs q) p
 · have e:i=xs.length:=by omega
   subst e
   exact .inl ⟨⟨xs,q,Nat.le_refl _⟩,hd σ H p⟩
theorem for_range {lo:Int}{n:Nat}{g:TG}{tb:TS}{D:Ends}{σ:St}{H:Hp} (Pv:Nat→St→Hp→Prop) (h0:Pv 0 σ H)
  (hs:∀ i σ H,i < n→Pv i σ H→g (.int (lo+i)) σ H fun σ2 H2=>tb { D with nx:=Pv (i+1),ct:=Pv (i+1),bk:=D.nx } σ2 H2) (hd:∀ σ H,Pv n σ H→D.nx σ H):
  ∃ W:Nat→Nat→St→Hp→Prop,(∃ m,W 0 m σ H)∧∀ i m σ H,W i m σ H→
   ((Itr lo n).stop i H∧D.nx σ H)∨((Itr lo n).go i H∧∃ N:St→Hp→Prop,(∀ σ' H',N σ' H'→∃ m',m' < m∧W (i+1) m' σ' H')∧∀ x H',(Itr lo n).yld i H x H'→g x σ H' fun σ2 H2=>tb { D with nx:=N,ct:=N,bk:=D.nx } σ2 H2):=by
 refine ⟨fun i m σ H=>m=n - i∧i≤n∧Pv i σ H,⟨n,by simp,Nat.zero_le _,h0⟩,?_⟩
 rintro i m σ H ⟨rfl,hi,p⟩
 by_cases hlt:i < n
 · refine .inr ⟨hlt,Pv (i+1),fun σ' H' p'=>⟨n - (i+1),by omega,rfl,hlt,p'⟩,fun x H' y=>?_⟩
   obtain ⟨e,y⟩:=y
   subst e y
   exact hs i σ _ hlt p
 · have e:i=n:=by omega
   subst e
   exact .inl ⟨Nat.le_refl _,hd σ H p⟩
theorem while_by {c:TT}{tb:TS}{D:Ends}{σ:St}{H:Hp} (Pv:St→Hp→Prop) (μ:St→Hp→Nat) (h0:Pv σ H)
  (hs:∀ σ H,Pv σ H→c σ H fun b H1=>if b=true then tb { D with nx:=fun σ' H'=>Pv σ' H'∧μ σ' H' < μ σ H,ct:=fun σ' H'=>Pv σ' H'∧μ σ' H' < μ σ H,bk:=D.nx } σ H1 else D.nx σ H1)
  (mono:∀ σ H Q Q',(∀ b H1,Q b H1→Q' b H1)→c σ H Q→c σ H Q'):tWhile c tb D σ H:=by
 refine ⟨fun m σ H=>m=μ σ H∧Pv σ H,⟨_,rfl,h0⟩,?_⟩
 rintro m σ H ⟨rfl,p⟩
 refine mono σ H _ _ (fun b H1 q=>?_) (hs σ H p)
 cases b with
 | true=>exact ⟨_,fun σ' H' ⟨p',l⟩=>⟨_,l,rfl,p'⟩,q⟩
 | false=>exact q
abbrev R2:=V→V→Hp→VK→Prop
def OpR (X:Cx) (f:Value→Value→Sem Value) (r:R2):Prop:=
 ∀ (pins:List (Addr × Obj)) (s:Shared) (σ:St) (H:Hp) (x y:V) (v u:Value) (Q:VK),Inv X pins σ H s→RelV x v→RelV y u→r x y H Q→
  wpAny (model X.prog X.w) X.A (f v u) (EP X pins σ Q) X.xe s
def UnR (X:Cx) (f:Value→Sem Value) (r:V→Hp→VK→Prop):Prop:=
 ∀ (pins:List (Addr × Obj)) (s:Shared) (σ:St) (H:Hp) (x:V) (v:Value) (Q:VK),Inv X pins σ H s→RelV x v→r x H Q→
  wpAny (model X.prog X.w) X.A (f v) (EP X pins σ Q) X.xe s
def CallR (X:Cx) (f:Value) (r:List V→Hp→VK→Prop):Prop:=
 ∀ (pins:List (Addr × Obj)) (s:Shared) (σ:St) (H:Hp) (xs:List V) (us:List Value) (Q:VK),Inv X pins σ H s→Vals xs us→r xs H Q→
  wpAny (model X.prog X.w) X.A (call f us) (EP X pins σ Q) X.xe s
def TruR (X:Cx) (r:V→Hp→(Bool→Hp→Prop)→Prop):Prop:=
 ∀ (pins:List (Addr × Obj)) (s:Shared) (σ:St) (H:Hp) (x:V) (v:Value) (Q:Bool→Hp→Prop),Inv X pins σ H s→RelV x v→r x H Q→
  wpAny (model X.prog X.w) X.A (truthy v) (TP X pins σ Q) X.xe s
def tOp (r:R2) (ta tb:TE):TE:=fun σ H Q=>ta σ H fun x H1=>tb σ H1 fun y H2=>r x y H2 Q
def tUn (r:V→Hp→VK→Prop) (ta:TE):TE:=fun σ H Q=>ta σ H fun x H1=>r x H1 Q
def rI (C:Int→Int→Prop) (g:Int→Int→V):R2:=fun x y H Q=>∃ i j,x=.int i∧y=.int j∧C i j∧Q (g i j) H
def rI0 (g:Int→Int→V):R2:=fun x y H Q=>∃ i j,x=.int i∧y=.int j∧Q (g i j) H
def rU (g:Int→V):V→Hp→VK→Prop:=fun x H Q=>∃ i,x=.int i∧Q (g i) H
section
variable {X:Cx}{a b c:Expr}{ta tb tc:TE}{pos:Pos}
theorem binT (ha:PE X a ta) (hb:PE X b tb) {pins:List (Addr × Obj)}{s:Shared}{σ:St}{H:Hp}{R:V→V→Hp→Prop} (I:Inv X pins σ H s)
  (h:ta σ H fun x H1=>tb σ H1 fun y H2=>R x y H2) {Q:Value→Shared→Prop}{f:Value→Value→Sem Value}
  (hf:∀ v u s2 x y H2,Inv X pins σ H2 s2→RelV x v→RelV y u→R x y H2→wpAny (model X.prog X.w) X.A (f v u) Q X.xe s2):
  wpAny (model X.prog X.w) X.A (eval a X.env) (fun v s₁=>wpAny (model X.prog X.w) X.A (eval b X.env) (fun u s₂=>wpAny (model X.prog X.w) X.A (f v u) Q X.xe s₂) X.xe s₁) X.xe s:=by
 refine thn (ha pins s σ H _ I h) fun v s1 ⟨x,H1,I1,r1,q1⟩=>?_
 refine thn (hb pins s1 σ H1 _ I1 q1) fun u s2 ⟨y,H2,I2,r2,q2⟩=>?_
 exact hf v u s2 x y H2 I2 r1 r2 q2
theorem pe_op {op:Operator}{r:R2} (ho:OpR X (binaryOp op) r) (ha:PE X a ta) (hb:PE X b tb):PE X (.BinOp a op b pos) (tOp r ta tb):=by
 intro pins s σ H Q I h
 exact wpAny_BinOp (binT ha hb I h fun v u s2 x y H2 I2 rx ry q=>ho pins s2 σ H2 x y v u Q I2 rx ry q)
theorem pe_un {op:UnaryOp}{r:V→Hp→VK→Prop} (ho:UnR X (unaryOp op) r) (ha:PE X a ta):PE X (.UnaryOp op a pos) (tUn r ta):=by
 intro pins s σ H Q I h
 exact UnaryOp_ (thn (ha pins s σ H _ I h) fun v s1 ⟨x,H1,I1,r1,q1⟩=>ho pins s1 σ H1 x v Q I1 r1 q1)
theorem opI {f:Value→Value→Sem Value}{C:Int→Int→Prop}{g:Int→Int→Int}
  (rule:∀ (i j:Int) (t u:Tok) (s:Shared) (Q:Value→Shared→Prop) (E:Value→Shared→Prop),C i j→Q (.int (g i j) s.toks) { s with toks:=s.toks+1 }→wpAny (model X.prog X.w) X.A (f (.int i t) (.int j u)) Q E s):
  OpR X f (rI C fun i j=>.int (g i j)):=by
 intro pins s σ H x y v u Q I rx ry h
 obtain ⟨i,j,rfl,rfl,hc,q⟩:=h
 obtain ⟨t,rfl⟩:=rx
 obtain ⟨t',rfl⟩:=ry
 exact rule i j t t' s _ _ hc ⟨.int (g i j),H,I.tok _,⟨_,rfl⟩,q⟩
theorem opI0 {f:Value→Value→Sem Value}{g:Int→Int→Int}
  (rule:∀ (i j:Int) (t u:Tok) (s:Shared) (Q:Value→Shared→Prop) (E:Value→Shared→Prop),Q (.int (g i j) s.toks) { s with toks:=s.toks+1 }→wpAny (model X.prog X.w) X.A (f (.int i t) (.int j u)) Q E s):
  OpR X f (rI0 fun i j=>.int (g i j)):=by
 intro pins s σ H x y v u Q I rx ry h
 obtain ⟨i,j,rfl,rfl,q⟩:=h
 obtain ⟨t,rfl⟩:=rx
 obtain ⟨t',rfl⟩:=ry
 exact rule i j t t' s _ _ ⟨.int (g i j),H,I.tok _,⟨_,rfl⟩,q⟩
theorem opB0 {f:Value→Value→Sem Value}{g:Int→Int→Bool}
  (rule:∀ (i j:Int) (t u:Tok) (s:Shared) (Q:Value→Shared→Prop) (E:Value→Shared→Prop),Q (.bool (g i j)) s→wpAny (model X.prog X.w) X.A (f (.int i t) (.int j u)) Q E s):
  OpR X f (rI0 fun i j=>.bl (g i j)):=by
 intro pins s σ H x y v u Q I rx ry h
 obtain ⟨i,j,rfl,rfl,q⟩:=h
 obtain ⟨t,rfl⟩:=rx
 obtain ⟨t',rfl⟩:=ry
 exact rule i j t t' s _ _ ⟨.bl (g i j),H,I,rfl,q⟩
def CDiv (i j:Int):Prop:=0 < j∧j < 1073741824
def CPow (i j:Int):Prop:=0≤j∧j≤1000000∧i.natAbs < 2 ^ 64
def CMul (i j:Int):Prop:=(-(2 ^ 64) < i∧i < 2 ^ 64)∨(-(2 ^ 64) < j∧j < 2 ^ 64)
theorem CMul.ok {i j:Int} (h:CMul i j):IntMulOk i j:=by
 rcases h with ⟨h1,h2⟩ | ⟨h1,h2⟩
 · exact .of_left (intBits_le_64 h1 h2)
 · exact .of_right (intBits_le_64 h1 h2)
theorem op_add:OpR X (binaryOp .Add) (rI0 fun i j=>.int (i+j)):=opI0 fun _ _ _ _ _ _ _ q=>add_int q
theorem op_sub:OpR X (binaryOp .Sub) (rI0 fun i j=>.int (i - j)):=opI0 fun _ _ _ _ _ _ _ q=>sub_int q
theorem op_mul:OpR X (binaryOp .Mult) (rI CMul fun i j=>.int (i * j)):=opI fun _ _ _ _ _ _ _ hc q=>mul_int q hc.ok
theorem op_fdiv:OpR X (binaryOp .FloorDiv) (rI CDiv fun i j=>.int (i / j)):=opI fun i j _ _ _ _ _ hc q=>by
 have h1:(0:Int) < j:=hc.1
 have h2:j < 1073741824:=hc.2
 exact floordiv_int (by omega) (by rw [Int.fdiv_eq_ediv_of_nonneg i (by omega)];exact q) (.inl (PyProof.noPylong_small (by omega)))
theorem op_mod:OpR X (binaryOp .Mod) (rI (fun _ j=>0 < j) fun i j=>.int (i % j)):=opI fun i j _ _ _ _ _ hc q=>by
 have h1:(0:Int) < j:=hc
 exact mod_int' (by omega) (by rw [Int.fmod_eq_emod_of_nonneg i (by omega)];exact q)
theorem op_pow:OpR X (binaryOp .Pow) (rI CPow fun i j=>.int (i ^ j.toNat)):=opI fun _ _ _ _ _ _ _ hc q=>pow_int_small hc.1 hc.2.1 hc.2.2 q
theorem unI {f:Value→Sem Value}{g:Int→Int}
  (rule:∀ (i:Int) (t:Tok) (s:Shared) (Q:Value→Shared→Prop) (E:Value→Shared→Prop),Q (.int (g i) s.toks) { s with toks:=s.toks+1 }→wpAny (model X.prog X.w) X.A (f (.int i t)) Q E s):
  UnR X f (rU fun i=>.int (g i)):=by
 intro pins s σ H x v Q I rx h
 obtain ⟨i,rfl,q⟩:=h
 obtain ⟨t,rfl⟩:=rx
 exact rule i t s _ _ ⟨.int (g i),H,I.tok _,⟨_,rfl⟩,q⟩
theorem un_neg:UnR X (unaryOp .USub) (rU fun i=>.int (-i)):=unI fun _ _ _ _ _ q=>neg_int q
end
def scal:V→V→Bool
 | .non,.non=>true | .non,.int _=>true | .int _,.non=>true | .non,.bl _=>true | .bl _,.non=>true | .non,.str _=>true | .str _,.non=>true
 | .int _,.int _=>true | .bl _,.bl _=>true | .str _,.str _=>true | .byt _,.byt _=>true
 | .int _,.str _=>true | .str _,.int _=>true | .bl _,.str _=>true | .str _,.bl _=>true
 | _,_=>false
def rEq:R2:=fun x y H Q=>scal x y=true∧Q (.bl (decide (x=y))) H
def rNe:R2:=fun x y H Q=>scal x y=true∧Q (.bl (!decide (x=y))) H
theorem dec_int {i j:Int}:decide (V.int i=V.int j)=(i == j):=by
 rw [Bool.eq_iff_iff]
 simp
theorem dec_bl {i j:Bool}:decide (V.bl i=V.bl j)=(i == j):=by
 rw [Bool.eq_iff_iff]
 simp
theorem dec_str {i j:Str}:decide (V.str i=V.str j)=(i == j):=by
 rw [Bool.eq_iff_iff]
 simp
theorem dec_byt {i j:Array UInt8}:decide (V.byt i=V.byt j)=(i.toList == j.toList):=by
 rw [Bool.eq_iff_iff]
 cases i
 cases j
 simp
section
variable {X:Cx}{a b c:Expr}{ta tb tc:TE}{pos:Pos}
theorem fin_bl {pins:List (Addr × Obj)}{σ:St}{H:Hp}{s:Shared}{Q:VK}{k k':Bool} (I:Inv X pins σ H s) (q:Q (.bl k) H) (e:k=k'):EP X pins σ Q (.bool k') s:=by
 subst e
 exact ⟨.bl k,H,I,rfl,q⟩
theorem op_eq:OpR X (compareOp .Eq) rEq:=by
 intro pins s σ H x y v u Q I rx ry h
 obtain ⟨hs,q⟩:=h
 cases x with
 | non=>
  cases rx
  cases y with
  | non=>cases ry;exact PySem.EqNone.eq_none_none (fin_bl I q (by simp))
  | bl j=>cases ry;exact PySem.EqNone.eq_none_bool (fin_bl I q (by simp))
  | int j=>obtain ⟨t',rfl⟩:=ry;exact PySem.EqNone.eq_none_int (fin_bl I q (by simp))
  | str j=>obtain ⟨t',rfl⟩:=ry;exact PySem.EqNone.eq_none_str (fin_bl I q (by simp))
  | _=>exact absurd (show false=true from hs) Bool.false_ne_true
 | bl i=>
  cases rx
  cases y with
  | non=>cases ry;exact PySem.EqNone.eq_bool_none (fin_bl I q (by simp))
  | bl j=>cases ry;exact eq_bool (fin_bl I q dec_bl)
  | str j=>obtain ⟨t',rfl⟩:=ry;exact PySem.EqMixed.eq_bool_str (fin_bl I q (by simp))
  | _=>exact absurd (show false=true from hs) Bool.false_ne_true
 | int i=>
  obtain ⟨t,rfl⟩:=rx
  cases y with
  | non=>cases ry;exact PySem.EqNone.eq_int_none (fin_bl I q (by simp))
  | int j=>obtain ⟨t',rfl⟩:=ry;exact eq_int (fin_bl I q dec_int)
  | str j=>obtain ⟨t',rfl⟩:=ry;exact PySem.EqMixed.eq_int_str (fin_bl I q (by simp))
  | _=>exact absurd (show false=true from hs) Bool.false_ne_true
 | str i=>
  obtain ⟨t,rfl⟩:=rx
  cases y with
  | non=>cases ry;exact PySem.EqNone.eq_str_none (fin_bl I q (by simp))
  | bl j=>cases ry;exact PySem.EqMixed.eq_str_bool (fin_bl I q (by simp))
  | int j=>obtain ⟨t',rfl⟩:=ry;exact PySem.EqMixed.eq_str_int (fin_bl I q (by simp))
  | str j=>obtain ⟨t',rfl⟩:=ry;exact eq_str (fin_bl I q dec_str)
  | _=>exact absurd (show false=true from hs) Bool.false_ne_true
 | byt i=>
  obtain ⟨t,rfl⟩:=rx
  cases y with
  | byt j=>obtain ⟨t',rfl⟩:=ry;exact PySem.W.eq_bytes (fin_bl I q dec_byt)
  | _=>exact absurd (show false=true from hs) Bool.false_ne_true
 | _=>cases y <;> exact absurd (show false=true from hs) Bool.false_ne_true
theorem op_ne:OpR X (compareOp .NotEq) rNe:=by
 intro pins s σ H x y v u Q I rx ry h
 obtain ⟨hs,q⟩:=h
 cases x with
 | non=>
  cases rx
  cases y with
  | non=>cases ry;exact PySem.EqNone.ne_none_none (fin_bl I q (by simp))
  | bl j=>cases ry;exact PySem.EqNone.ne_none_bool (fin_bl I q (by simp))
  | int j=>obtain ⟨t',rfl⟩:=ry;exact PySem.EqNone.ne_none_int (fin_bl I q (by simp))
  | str j=>obtain ⟨t',rfl⟩:=ry;exact PySem.EqNone.ne_none_str (fin_bl I q (by simp))
  | _=>exact absurd (show false=true from hs) Bool.false_ne_true
 | bl i=>
  cases rx
  cases y with
  | non=>cases ry;exact PySem.EqNone.ne_bool_none (fin_bl I q (by simp))
  | bl j=>cases ry;exact ne_bool (fin_bl I q (congrArg not dec_bl))
  | str j=>obtain ⟨t',rfl⟩:=ry;exact PySem.EqMixed.ne_bool_str (fin_bl I q (by simp))
  | _=>exact absurd (show false=true from hs) Bool.false_ne_true
 | int i=>
  obtain ⟨t,rfl⟩:=rx
  cases y with
  | non=>cases ry;exact PySem.EqNone.ne_int_none (fin_bl I q (by simp))
  | int j=>obtain ⟨t',rfl⟩:=ry;exact ne_int (fin_bl I q (congrArg not dec_int))
  | str j=>obtain ⟨t',rfl⟩:=ry;exact PySem.EqMixed.ne_int_str (fin_bl I q (by simp))
  | _=>exact absurd (show false=true from hs) Bool.false_ne_true
 | str i=>
  obtain ⟨t,rfl⟩:=rx
  cases y with
  | non=>cases ry;exact PySem.EqNone.ne_str_none (fin_bl I q (by simp))
  | bl j=>cases ry;exact PySem.EqMixed.ne_str_bool (fin_bl I q (by simp))
  | int j=>obtain ⟨t',rfl⟩:=ry;exact PySem.EqMixed.ne_str_int (fin_bl I q (by simp))
  | str j=>obtain ⟨t',rfl⟩:=ry;exact ne_str (fin_bl I q (congrArg not dec_str))
  | _=>exact absurd (show false=true from hs) Bool.false_ne_true
 | byt i=>
  obtain ⟨t,rfl⟩:=rx
  cases y with
  | byt j=>obtain ⟨t',rfl⟩:=ry;exact PySem.W.ne_bytes (fin_bl I q (congrArg not dec_byt))
  | _=>exact absurd (show false=true from hs) Bool.false_ne_true
 | _=>cases y <;> exact absurd (show false=true from hs) Bool.false_ne_true
theorem op_lt:OpR X (compareOp .Lt) (rI0 fun i j=>.bl (decide (i < j))):=opB0 fun _ _ _ _ _ _ _ q=>lt_int q
theorem op_gt:OpR X (compareOp .Gt) (rI0 fun i j=>.bl (decide (j < i))):=opB0 fun _ _ _ _ _ _ _ q=>gt_int q
theorem op_ge:OpR X (compareOp .GtE) (rI0 fun i j=>.bl (decide (j≤i))):=opB0 fun _ _ _ _ _ _ _ q=>ge_int q
theorem op_isN:OpR X (compareOp .Is) (fun x y H Q=>y=.non∧Q (.bl (decide (x=.non))) H):=by
 intro pins s σ H x y v u Q I rx ry h
 obtain ⟨rfl,q⟩:=h
 cases ry
 refine is_none_gen (fin_bl I q ?_)
 cases x <;> first
  | (cases rx;rfl)
  | (obtain ⟨t,rfl⟩:=rx;rfl)
theorem op_notN:OpR X (compareOp .IsNot) (fun x y H Q=>y=.non∧Q (.bl (!decide (x=.non))) H):=by
 intro pins s σ H x y v u Q I rx ry h
 obtain ⟨rfl,q⟩:=h
 cases ry
 refine isnot_none_gen (fin_bl I q ?_)
 cases x <;> first
  | (cases rx;rfl)
  | (obtain ⟨t,rfl⟩:=rx;rfl)
theorem nomark (b:Expr) {op:CmpOp} (h:op≠.In:=by decide) (h2:op≠.NotIn:=by decide):behindInMarks op b=false:=by
 have e1:(op == CmpOp.In)=false:=by cases op <;> first | rfl | exact absurd rfl h
 have e2:(op == CmpOp.NotIn)=false:=by cases op <;> first | rfl | exact absurd rfl h2
 cases b <;> simp [behindInMarks,e1,e2]
theorem pe_cmpR {op:CmpOp}{r:R2} (ho:OpR X (compareOp op) r) (ha:PE X a ta) (hb:PE X b tb) (hm:behindInMarks op b=false):PE X (.Compare a [op] [b] pos) (tOp r ta tb):=by
 intro pins s σ H Q I h
 exact wpAny_Compare1 (binT ha hb I h fun v u s2 x y H2 I2 rx ry q=>ho pins s2 σ H2 x y v u Q I2 rx ry q) hm
def tTest (t:TE):TT:=fun σ H Q=>t σ H fun x H'=>∃ k,x=.bl k∧Q k H'
theorem pt_cmpR {op:CmpOp}{r:R2} (ho:OpR X (compareOp op) r) (ha:PE X a ta) (hb:PE X b tb) (hm:behindInMarks op b=false):PT X (.Compare a [op] [b] pos) (tTest (tOp r ta tb)):=by
 intro pins s σ H Q I h
 refine wpAny_isTrue_Compare1 (thn (ha pins s σ H _ I h) fun v s1 ⟨x,H1,I1,r1,q1⟩=>thn (hb pins s1 σ H1 _ I1 q1) fun u s2 ⟨y,H2,I2,r2,q2⟩=>
  thn (ho pins s2 σ H2 x y v u _ I2 r1 r2 q2) fun c s3 ⟨z,H3,I3,r3,k,e,q3⟩=>?_) hm
 subst e
 cases r3
 exact wpAny_truthy_bool ⟨H3,I3,q3⟩
def TruV (K:PySem.W.Frag) (x:V) (H:Hp) (k:Bool):Prop:=
 match x with
 | .non=>k=false
 | .bl b=>k=b
 | .int i=>k=(i != 0)
 | .str y=>y.length≤sizeLine∧k=((y.length:Int) != 0)
 | .byt y=>y.size≤sizeLine∧k=((y.size:Int) != 0)
 | .ref p=>(∃ xs,SqL K H p xs∧k= !xs.isEmpty)∨(∃ xs,SqT K H p xs∧k= !xs.isEmpty)∨∃ kvs,H p=some (.dK kvs)∧k= !kvs.isEmpty
 | _=>False
theorem isEmpty_kv {κ:Type}{kvs:List (κ × V)}{vs:List (κ × Value)} (r:KV kvs vs):(!vs.isEmpty)= !kvs.isEmpty:=by
 cases r <;> rfl
theorem isEmpty_of {xs:List V}{its:List Value} (r:Vals xs its):(!its.toArray.isEmpty)= !xs.isEmpty:=by
 cases r <;> simp
theorem line63:(sizeLine:Nat) < 2 ^ 63:=by rw [sizeLine_eq];decide
theorem tru_ok:TruR X (fun x H Q=>∃ k,TruV X.K x H k∧Q k H):=by
 intro pins s σ H x v Q I rx h
 obtain ⟨k,e,q⟩:=h
 have hl:=line63
 have hs:sizeLine=16777216:=sizeLine_eq
 cases x with
 | non=>
  cases rx
  have e':k=false:=e
  subst e'
  exact truthy_none ⟨H,I,q⟩
 | bl b=>
  cases rx
  have e':k=b:=e
  subst e'
  exact wpAny_truthy_bool ⟨H,I,q⟩
 | int i=>
  obtain ⟨t,rfl⟩:=rx
  have e':k=(i != 0):=e
  subst e'
  exact PySem.P.truthy_int ⟨H,I,q⟩
 | str y=>
  obtain ⟨t,rfl⟩:=rx
  obtain ⟨hy,e'⟩:y.length≤sizeLine∧k=((y.length:Int) != 0):=e
  subst e'
  exact PySem.P.truthy_str (by omega) ⟨H,I.tok _,q⟩
 | byt y=>
  obtain ⟨t,rfl⟩:=rx
  obtain ⟨hy,e'⟩:y.size≤sizeLine∧k=((y.size:Int) != 0):=e
  subst e'
  exact PySem.W.truthy_bytes (by omega) ⟨H,I.tok _,q⟩
 | ref p=>
  cases rx
  have e':(∃ xs,SqL X.K H p xs∧k= !xs.isEmpty)∨(∃ xs,SqT X.K H p xs∧k= !xs.isEmpty)∨∃ kvs,H p=some (.dK kvs)∧k= !kvs.isEmpty:=e
  rcases e' with ⟨xs,hx,e'⟩ | ⟨xs,hx,e'⟩ | ⟨kvs,hx,e'⟩
  · subst e'
    obtain ⟨its,r,pl,hz⟩:=I.list hx
    have hlen:=r.length
    exact wpAny_truthy_list pl.isList (by simp only [List.size_toArray];omega) ⟨H,I.tok _,by rw [isEmpty_of r];exact q⟩
  · subst e'
    obtain ⟨its,r,pl,hz⟩:=I.tuple hx
    have hlen:=r.length
    exact truthy_tuple pl (by simp only [List.size_toArray];omega) ⟨H,I.tok _,by rw [isEmpty_of r];exact q⟩
  · subst e'
    obtain ⟨hz,hS,vs,r,m⟩:kvs.length≤sizeLine∧(p == sysModules)=false∧∃ vs,KV kvs vs∧s.heap.DictOf (mixKind X.prog X.w) p vs:=I.hok p _ hx
    have hlen:kvs.length=vs.length:=Paired.length r
    exact wpAny_truthy_dict hS m (by omega) ⟨H,I.tok _,by rw [isEmpty_kv r];exact q⟩
 | _=>exact (show False from e).elim
theorem pt_truth (ha:PE X a ta) (he:∀ whole,isTrue a X.env whole=(do let v ← whole;standAt a.pos;holding [v] (truthy v))):
  PT X a (fun σ H Q=>ta σ H fun x H'=>∃ k,TruV X.K x H' k∧Q k H'):=by
 intro pins s σ H Q I h
 exact isTrue_plain (thn (ha pins s σ H _ I h) fun v s1 ⟨x,H1,I1,r1,q1⟩=>tru_ok pins s1 σ H1 x v Q I1 r1 q1) (he _)
theorem vals1 {x:V}{us:List Value} (r:Vals [x] us):∃ u,us=[u]∧RelV x u:=by
 cases r with
 | cons r1 r2=>cases r2;exact ⟨_,rfl,r1⟩
theorem call_abs:CallR X (.builtin "abs") (fun xs H Q=>∃ i,xs=[.int i]∧Q (.int (if i < 0 then -i else i)) H):=by
 intro pins s σ H xs us Q I r h
 obtain ⟨i,rfl,q⟩:=h
 obtain ⟨u,rfl,t,rfl⟩:=vals1 r
 exact call_abs_int fun u tk=>⟨.int (if i < 0 then -i else i),H,I.tok _,⟨_,rfl⟩,q⟩
theorem call_int1:CallR X (.type "int") (fun xs H Q=>(∃ i,xs=[.int i]∧Q (.int i) H)∨∃ k,xs=[.bl k]∧Q (.int (if k then 1 else 0)) H):=by
 intro pins s σ H xs us Q I r h
 rcases h with ⟨i,rfl,q⟩ | ⟨k,rfl,q⟩
 · obtain ⟨u,rfl,t,rfl⟩:=vals1 r
   exact call_int_int ⟨.int i,H,I,⟨_,rfl⟩,q⟩
 · obtain ⟨u,rfl,r1⟩:=vals1 r
   cases r1
   exact call_int_bool ⟨.int (if k then 1 else 0),H,I.tok _,⟨_,rfl⟩,q⟩
end
structure ObjM (h:Heap) (x dx C:Addr) (mA:Str→Option Value):Prop where
 obj:h.get? x=some (PySem.W.instObj C dx)
 ns:h.Ns1 dx mA
 ne:dx≠x
theorem lookIn_ns {h:Heap}{dx:Addr}{mA:Str→Option Value} (n:h.Ns1 dx mA):∃ od,h.get? dx=some od∧∀ name,PySem.W.lookIn name od=some (mA name):=by
 obtain ⟨o,es,ep,ho,hd,hk,_,hm⟩:=n
 refine ⟨o,ho,fun name=>?_⟩
 have e:=hm name
 unfold nsFind findBy at e
 rw [← Array.find?_toList] at e
 unfold PySem.W.lookIn
 rw [hd]
 dsimp only
 split
 · rename_i y q
   rw [q] at e
   exact congrArg some e
 · rename_i q
   rw [q] at e
   have a:es.toList.any (·.refKey)=false:=by
    rw [List.any_eq_false]
    intro y hy
    obtain ⟨z,t,hkey⟩:=hk y (Array.mem_toList_iff.mp hy)
    simp [DictEntry.refKey,hkey]
   have a':¬ es.toList.any (·.refKey)=true:=by rw [a];exact Bool.false_ne_true
   rw [if_neg a']
   exact congrArg some e
theorem ObjM.look {h:Heap}{x dx C:Addr}{mA:Str→Option Value} (I:ObjM h x dx C mA):∃ od,PySem.W.InstAt h x (PySem.W.instObj C dx) C (some od)∧∀ name,PySem.W.lookIn name od=some (mA name):=
 let ⟨od,ho,hl⟩:=lookIn_ns I.ns
 ⟨od,⟨I.obj,rfl,rfl,ho⟩,hl⟩
section
variable {prog:Program}{w:World}{A:Around}{E:Value→Shared→Prop}{s:Shared}{K:PySem.W.Frag}{x dx C f:Addr}{mA:Str→Option Value}{name:Str}{v:Value}
theorem get_map {expr:Bool}{Q:Value→Shared→Prop} (X:K.In s.heap) (I:ObjM s.heap x dx C mA) (hg:PySem.W.plainGet K C name=true) (hh:PySem.W.hasDictIn K C=true)
  (ha:PySem.W.findIn K (.ref C) name=some none) (hv:mA name=some v) (hv':PySem.W.handedIn v=true) (h:Q v { s with toks:=s.toks+1 }):
  wpAny (model prog w) A (getAttr (.ref x) name expr) Q E s:=by
 obtain ⟨od,J,hl⟩:=I.look
 exact PySem.W.get_value X J (PySem.W.plainGet_of hg).1 (PySem.W.findObj_own hh ha rfl (by rw [hl,hv])) hv' h
theorem get_meth {pl:Sem Bool}{Q:Value × List Value→Shared→Prop} (X:K.In s.heap) (I:ObjM s.heap x dx C mA) (hg:PySem.W.plainGet K C name=true)
  (hf:PySem.W.findIn K (.ref C) name=some (some (.ref f))) (ht:PySem.W.isFn K (.ref f)=true) (hv:mA name=none) (h:Q (.ref f,[.ref x]) s):
  wpAny (model prog w) A (getMethod (.ref x) name pl) Q E s:=by
 obtain ⟨od,J,hl⟩:=I.look
 exact PySem.W.method_fn X J (PySem.W.plainGet_of hg).1 (PySem.W.plainGet_of hg).2 hf (beq_iff_eq.mp ht) (by show (PySem.W.lookIn name od).map (·.isSome)=some false;rw [hl,hv];rfl) h
theorem set_map {ns:List Str}{Q:Unit→Shared→Prop} (X:K.In s.heap) (I:ObjM s.heap x dx C mA)
  (hs:PySem.W.findIn K (.ref C) "__setattr__"=some (some (.builtin "object.__setattr__"))) (hp:PySem.W.plainOver K C=true) (ht:PySem.W.takerIn K C name=some none) (hh:PySem.W.hasDictIn K C=true)
  (hw:PySem.Within mA ns) (hsz:ns.length≤sizeLine)
  (h:∀ h',ObjM h' x dx C (fun y=>if y=name then some v else mA y)→Heap.SameBut dx s.heap h'→Q () { s with heap:=h',toks:=s.toks+2 }):
  wpAny (model prog w) A (setAttr (.ref x) name v) Q E s:=by
 obtain ⟨od,J,hl⟩:=I.look
 refine PySem.W.set_plain X J hs (PySem.W.osa_open (s:={ s with toks:=s.toks+1 }) (r:=none) X J hp ht fun b=>?_)
 obtain ⟨cd,hc,hd'⟩:=PySem.W.any_some hh
 have hx:s.heap.get? x=some ⟨.ref C,some dx,.plain, #[]⟩:=I.obj
 refine wpAny_bind (wpAny_pure (wpAny_bind (wpAny_bind (wpAny_loadPart hx (wpAny_bind (PySem.W.Looks.here (s:={ s with toks:=s.toks+1 }) (PySem.W.looks_clsIn X hc) ?_))))))
 rw [hd']
 refine wpAny_pure (a:=some dx) (wpAny_bind (wpAny_pure (wpAny_bind ?_)))
 refine wpAny_nsSet1 (s:={ s with toks:=s.toks+1 }) I.ns fun h' hn2 hs2=>?_
 obtain ⟨oD,esD,epD,hoD,hdD,hcD⟩:=hn2.count (PySem.Within.cons name v hw)
 refine wpAny_bind (wpAny_lookBehind hoD (by rw [hdD];exact pastItsLine_dict (Nat.le_trans hcD (by rw [List.length_cons];omega))) ?_)
 exact wpAny_pure (h _ ⟨(hs2.2 _ (Ne.symm I.ne)).trans I.obj,hn2,I.ne⟩ hs2)
theorem make_map {R:Result→Shared→Prop}{vs:List Value}{kw:List (Str × Value)} (X:K.In s.heap) (hm:PySem.W.makesIn K C=true)
  (hi:PySem.W.findIn K (.ref C) "__init__"=some (some (.ref f))) (hf:PySem.W.typeIn K (.ref f)=some (.type "function"))
  (h:codeAny (model prog w) (A.under (.builtin "type.__call__" ⟨.ref C::vs,kw⟩)) (.call (.ref f) ⟨.ref (s.heap.objs.size+1)::vs,kw⟩) (PySem.W.InitBack (s.heap.objs.size+1) R)
   { s with heap:=(s.heap.push PySem.W.emptyDict).push (PySem.W.instObj C s.heap.objs.size) }):
  codeAny (model prog w) A (.call (.ref C) ⟨vs,kw⟩) R s:=by
 obtain ⟨hh,g,d,t,os⟩:=s
 exact PySem.W.make_core (PySem.W.makes_of X hm) (PySem.W.looks_findIn X hi) (fun self=>PySem.W.bind_fn X self hf) (.inl rfl) h
end
def putF (f:Str) (v:V):List (Str × V)→List (Str × V)
 | []=>[(f,v)]
 | (g,x)::r=>if g=f then (g,v)::r else (g,x)::putF f v r
theorem lookup_putF (f g:Str) (v:V):∀ fs:List (Str × V),(putF f v fs).lookup g=if g=f then some v else fs.lookup g
 | []=>by
  show List.lookup g [(f,v)]=_
  by_cases h:g=f
  · have hb:(g == f)=true:=beq_iff_eq.mpr h
    simp only [List.lookup,hb,if_pos h]
  · have hb:(g == f)=false:=beq_eq_false_iff_ne.mpr h
    simp only [List.lookup,hb,if_neg h]
 | (k,x)::r=>by
  have ih:=lookup_putF f g v r
  rw [show putF f v ((k,x)::r)=(if k=f then (k,v)::r else (k,x)::putF f v r) from rfl]
  by_cases hk:k=f
  · rw [if_pos hk]
    by_cases h:g=k
    · have hb:(g == k)=true:=beq_iff_eq.mpr h
      simp only [List.lookup,hb,if_pos (h.trans hk)]
    · have hb:(g == k)=false:=beq_eq_false_iff_ne.mpr h
      simp only [List.lookup,hb,if_neg (fun e:g=f=>h (e.trans hk.symm))]
  · rw [if_neg hk]
    by_cases h:g=k
    · have hb:(g == k)=true:=beq_iff_eq.mpr h
      simp only [List.lookup,hb,if_neg (fun e:g=f=>hk (h.symm.trans e))]
    · have hb:(g == k)=false:=beq_eq_false_iff_ne.mpr h
      simp only [List.lookup,hb]
      exact ih
theorem keys_putF (f:Str) (v:V):∀ fs:List (Str × V),f∈(putF f v fs).map (·.1)∧∀ g,g∈fs.map (·.1)→g∈(putF f v fs).map (·.1)
 | []=>⟨by simp [putF],fun g h=>by simp at h⟩
 | (k,x)::r=>by
  obtain ⟨i1,i2⟩:=keys_putF f v r
  rw [show putF f v ((k,x)::r)=(if k=f then (k,v)::r else (k,x)::putF f v r) from rfl]
  by_cases hk:k=f
  · rw [if_pos hk]
    subst hk
    exact ⟨by simp,fun g h=>by simpa using h⟩
  · rw [if_neg hk]
    refine ⟨?_,fun g h=>?_⟩
    · rw [List.map_cons]
      exact List.mem_cons_of_mem _ i1
    · rw [List.map_cons] at h ⊢
      rcases List.mem_cons.mp h with e | e
      · exact List.mem_cons.mpr (.inl e)
      · exact List.mem_cons_of_mem _ (i2 g e)
theorem length_putF (f:Str) (v:V):∀ fs:List (Str × V),(putF f v fs).length≤fs.length+1
 | []=>by simp [putF]
 | (k,x)::r=>by
  have ih:=length_putF f v r
  rw [show putF f v ((k,x)::r)=(if k=f then (k,v)::r else (k,x)::putF f v r) from rfl]
  by_cases hk:k=f
  · rw [if_pos hk,List.length_cons,List.length_cons];omega
  · rw [if_neg hk,List.length_cons,List.length_cons];omega
theorem RelO.some_of {v:V}{o:Option Value} (r:RelO (some v) o):∃ u,o=some u∧RelV v u:=by
 cases o with
 | none=>exact (show False from r).elim
 | some u=>exact ⟨u,rfl,r⟩
theorem RelO.none_of {o:Option Value} (r:RelO none o):o=none:=by
 cases o with
 | none=>rfl
 | some u=>exact (show False from r).elim
theorem handed_of {v:V}{u:Value} (r:RelV v u):PySem.W.handedIn u=true:=by
 cases v with
 | non=>cases (show u=Value.none from r);rfl
 | bl b=>cases (show u=Value.bool b from r);rfl
 | int i=>obtain ⟨t,e⟩:=(show ∃ t,u=Value.int i t from r);cases e;rfl
 | str x=>obtain ⟨t,e⟩:=(show ∃ t,u=Value.str x t from r);cases e;rfl
 | byt b=>obtain ⟨t,e⟩:=(show ∃ t,u=Value.bytes b t from r);cases e;rfl
 | flt b=>obtain ⟨t,e⟩:=(show ∃ t,u=Value.float b t from r);cases e;rfl
 | ref a=>cases (show u=Value.ref a from r);rfl
 | ty n=>cases (show u=Value.type n from r);rfl
section
variable {P:Program}{w:World}{H H':Hp}{h h':Heap}{a C dx:Addr}{fs fs':List (Str × V)}
theorem ins_get (hok:HOk P w H h) (e:H a=some (.ins C dx fs)):∃ mA,ObjM h a dx C mA∧(∀ f,RelO (fs.lookup f) (mA f))∧PySem.Within mA (fs.map (·.1))∧fs.length≤1000∧H dx=some (.own a):=by
 obtain ⟨d,z,ne,ob,mA,n,r,q⟩:=(show ObjOk P w H h a (.ins C dx fs) from hok a _ e)
 exact ⟨mA,⟨ob,n,ne⟩,r,q,z,d⟩
end
structure Cls (K:PySem.W.Frag) (C:Addr):Prop where
 pg:PySem.W.plainGet K C Str.empty=true
 hd:PySem.W.hasDictIn K C=true
 po:PySem.W.plainOver K C=true
 sa:PySem.W.findIn K (.ref C) "__setattr__"=some (some (.builtin "object.__setattr__"))
theorem Cls.get {K:PySem.W.Frag}{C:Addr} (c:Cls K C) (f:Str):PySem.W.plainGet K C f=true:=c.pg
def NoAttr (K:PySem.W.Frag) (C:Addr) (f:Str):Prop:=PySem.W.findIn K (.ref C) f=some none
theorem NoAttr.taker {K:PySem.W.Frag}{C:Addr}{f:Str} (n:NoAttr K C f):PySem.W.takerIn K C f=some none:=by
 unfold PySem.W.takerIn
 rw [show PySem.W.findIn K (.ref C) f=some none from n]
 rfl
structure Meth (K:PySem.W.Frag) (C:Addr) (m:Str) (f:Addr):Prop where
 at_:PySem.W.findIn K (.ref C) m=some (some (.ref f))
 fn:PySem.W.isFn K (.ref f)=true
 kp:PySem.W.keepIn K (.ref f)=true
section
variable {X:Cx}{pins:List (Addr × Obj)}{σ:St}{H:Hp}{s:Shared}{a C dx:Addr}{fs:List (Str × V)}{f:Str}{v:V}{A:Around}{E:Value→Shared→Prop}
theorem getattr_ok {b:Bool}{Q:Value→Shared→Prop} (I:Inv X pins σ H s) (e:H a=some (.ins C dx fs)) (c:Cls X.K C) (n:NoAttr X.K C f) (l:fs.lookup f=some v)
  (h:∀ u s',Inv X pins σ H s'→RelV v u→Q u s'):wpAny (model X.prog X.w) A (getAttr (.ref a) f b) Q E s:=by
 obtain ⟨mA,O,r,_,_,_⟩:=ins_get I.hok e
 obtain ⟨u,hu,ru⟩:=RelO.some_of (v:=v) (o:=mA f) (by rw [← l];exact r f)
 exact get_map I.kIn O (c.get f) c.hd n hu (handed_of ru) (h u _ (I.tok _) ru)
theorem getmeth_ok {m:Str}{g:Addr}{pl:Sem Bool}{Q:Value × List Value→Shared→Prop} (I:Inv X pins σ H s) (e:H a=some (.ins C dx fs)) (c:Cls X.K C) (k:Meth X.K C m g) (l:fs.lookup m=none)
  (h:Q (.ref g,[.ref a]) s):wpAny (model X.prog X.w) A (getMethod (.ref a) m pl) Q E s:=by
 obtain ⟨mA,O,r,_,_,_⟩:=ins_get I.hok e
 have hn:mA m=none:=RelO.none_of (by rw [← l];exact r m)
 exact get_meth I.kIn O (c.get m) k.at_ k.fn hn h
theorem setattr_ok {y:V}{u:Value}{Q:Unit→Shared→Prop} (I:Inv X pins σ H s) (e:H a=some (.ins C dx fs)) (c:Cls X.K C) (n:NoAttr X.K C f) (hl:fs.length < 1000) (ry:RelV y u)
  (h:∀ s',Inv X pins σ (upd H a (.ins C dx (putF f y fs))) s'→Q () s'):wpAny (model X.prog X.w) A (setAttr (.ref a) f u) Q E s:=by
 obtain ⟨mA,O,r,wi,_,ho⟩:=ins_get I.hok e
 have hz:(fs.map (·.1)).length≤sizeLine:=by rw [List.length_map,sizeLine_eq];omega
 refine set_map I.kIn O c.sa c.po n.taker c.hd wi hz fun h' O' sb=>h _ ?_
 have hd:∃ o,h'.get? dx=some o:=let ⟨o,_,_,e',_⟩:=O'.ns;⟨o,e'⟩
 refine I.write (x:=a) (e:=dx) (by rw [e];exact True.intro) (.inr ho) (fun b q hb z=>(sb.2 b hb).trans z) hd ?_
 refine ⟨by rw [upd_ne O.ne];exact ho,?_,O.ne,O'.obj,_,O'.ns,fun g=>?_,fun g hg=>?_⟩
 · have:=length_putF f y fs;omega
 · show RelO ((putF f y fs).lookup g) (if g=f then some u else mA g)
   rw [lookup_putF]
   by_cases q:g=f
   · rw [if_pos q,if_pos q];exact ry
   · rw [if_neg q,if_neg q];exact r g
 · by_cases q:g=f
   · rw [q];exact (keys_putF f y fs).1
   · refine (keys_putF f y fs).2 g (wi g fun z=>hg ?_)
     show (if g=f then some u else mA g)=none
     rw [if_neg q];exact z
theorem Inv.made (I:Inv X pins σ H s):Inv X pins σ (upd (upd H s.heap.objs.size (.own (s.heap.objs.size+1))) (s.heap.objs.size+1) (.ins C s.heap.objs.size []))
  { s with heap:=(s.heap.push PySem.W.emptyDict).push (PySem.W.instObj C s.heap.objs.size) }:=by
 have e1:(s.heap.push PySem.W.emptyDict).get? s.heap.objs.size=some PySem.W.emptyDict:=Heap.get?_push_size s.heap rfl
 have e2:((s.heap.push PySem.W.emptyDict).push (PySem.W.instObj C s.heap.objs.size)).get? (s.heap.objs.size+1)=some (PySem.W.instObj C s.heap.objs.size):=by
  have:=Heap.get?_push_size (s.heap.push PySem.W.emptyDict) (o:=PySem.W.instObj C s.heap.objs.size) rfl
  rwa [Heap.size_push] at this
 have e3:(s.heap.push PySem.W.emptyDict).Ns s.heap.objs.size (fun _=>none):=⟨PySem.W.emptyDict, #[],_,e1,rfl,(fun e he=>absurd he (by simp)),fun _=>rfl⟩
 have I1:=I.laid (a:=s.heap.objs.size) (o:=.own (s.heap.objs.size+1)) (h':=s.heap.push PySem.W.emptyDict) (t':=s.toks) (fun b u q=>Heap.get?_push_of_some _ q) (Nat.le_refl _) ⟨_,e1⟩
 refine I1.laid (a:=s.heap.objs.size+1) (o:=.ins C s.heap.objs.size []) (t':=s.toks) (fun b u q=>Heap.get?_push_of_some _ q) (Nat.le_of_eq (Heap.size_push _ _)) ?_
 have ne:s.heap.objs.size≠s.heap.objs.size+1:=Nat.ne_of_lt (Nat.lt_succ_self _)
 refine ⟨by rw [upd_ne ne,upd_same],Nat.zero_le _,ne,e2,fun _=>none,(Heap.Ns1.of_empty e3).at fun o q=>Heap.get?_push_of_some _ q,fun _=>True.intro,fun y hy=>absurd rfl hy⟩
theorem attr_of {prog:Program}{w:World}{env:Env}{e:Expr}{f:Str}{pos:Pos}{s:Shared}{Q:Value→Shared→Prop} (hb:attributeBase e f env (eval e env)=eval e env)
  (h:wpAny (model prog w) A (eval e env) (fun o s₁=>wpAny (model prog w) A (getAttr o f true) Q E s₁) E s):wpAny (model prog w) A (eval (.Attribute e f pos) env) Q E s:=
 Attribute_any_ h (by rw [arm_eval_Attribute,hb])
end
def tFld (K:PySem.W.Frag) (ta:TE) (f:Str):TE:=fun σ H Q=>ta σ H fun x H1=>∃ a C dx fs v,x=.ref a∧H1 a=some (.ins C dx fs)∧Cls K C∧NoAttr K C f∧fs.lookup f=some v∧Q v H1
def sFld (K:PySem.W.Frag) (ta tv:TE) (f:Str):TS:=fun D σ H=>tv σ H fun y H1=>ta σ H1 fun x H2=>∃ a C dx fs,x=.ref a∧H2 a=some (.ins C dx fs)∧Cls K C∧NoAttr K C f∧fs.length < 1000∧
 D.nx σ (upd H2 a (.ins C dx (putF f y fs)))
section
variable {X:Cx}{o e value:Expr}{f:Str}{pos pos' tpos:Pos}{ta tv:TE}
theorem pe_fld (he:PE X e ta) (hb:attributeBase e f X.env (eval e X.env)=eval e X.env):PE X (.Attribute e f pos) (tFld X.K ta f):=by
 intro pins s σ H Q I h
 refine attr_of hb (thn (he pins s σ H _ I h) fun u s1 ⟨x,H1,I1,rx,a,C,dx,fs,v,ex,ea,c,n,l,q⟩=>?_)
 subst ex
 obtain rfl:u=Value.ref a:=rx
 exact getattr_ok I1 ea c n l fun u' s2 I2 ru=>⟨v,H1,I2,ru,q⟩
theorem ps_fld (ha:PE X o ta) (hv:PE X value tv) (hs:swapsWith value (some (.Attribute o f pos')) pos.line X.env=pure false):PS X (.Assign [.Attribute o f pos'] value pos) (sFld X.K ta tv f):=by
 intro pins s σ H D I h
 refine plainObj_wpAny_Assign_Attribute (thn (hv pins s σ H _ I h) fun u s1 ⟨y,H1,I1,ry,q⟩=>thn (ha pins s1 σ H1 _ I1 q) fun ov s2 ⟨x,H2,I2,rx,a,C,dx,fs,ex,ea,c,n,l,q2⟩=>?_) hs
 subst ex
 obtain rfl:ov=Value.ref a:=rx
 exact setattr_ok I2 ea c n l ry fun s3 I3=>⟨σ,_,I3,q2⟩
end
section
variable {X:Cx}{pins:List (Addr × Obj)}{σ:St}{H:Hp}{s:Shared}{A:Around}{E:Value→Shared→Prop}{Q:Value→Shared→Prop}{c:Value}{b:Bool}
inductive TyOf (K:PySem.W.Frag) (H:Hp):V→Value→Prop where
 | non:TyOf K H .non (.type "NoneType")
 | bl (x:Bool):TyOf K H (.bl x) (.type "bool")
 | int (i:Int):TyOf K H (.int i) (.type "int")
 | str (x:Str):TyOf K H (.str x) (.type "str")
 | flt (x:UInt64):TyOf K H (.flt x) (.type "float")
 | lst {a:Addr}{xs:List V} (e:H a=some (.lst xs)):TyOf K H (.ref a) (.type "list")
 | frz {a:Addr}{o:Obj}{xs:List V} (e:H a=some (.frz o (.lst xs))):TyOf K H (.ref a) (.type "list")
 | tup {a:Addr}{xs:List V} (e:H a=some (.tup xs)):TyOf K H (.ref a) (.type "tuple")
 | dK {a:Addr}{kvs:List (Key × V)} (e:H a=some (.dK kvs)):TyOf K H (.ref a) (.type "dict")
 | dT {a:Addr}{kvs:List (List Key × V)} (e:H a=some (.dT kvs)):TyOf K H (.ref a) (.type "dict")
 | ins {a C dx:Addr}{fs:List (Str × V)} (e:H a=some (.ins C dx fs)) (cl:Cls K C) (ha:PySem.W.findIn K (.ref C) "__class__"=some (some (.builtin "object.__class__")))
   (hn:PySem.W.specialIn K (.builtin "object.__class__") "__get__"=some (some (.builtin "getset_descriptor.__get__"))) (htk:PySem.W.takesIn K (.builtin "object.__class__")=some true)
   (hm:PySem.W.mroIn K C (.type "object")=some true):TyOf K H (.ref a) (.ref C)
theorem isinst_ok {x:V}{u t:Value} (I:Inv X pins σ H s) (rx:RelV x u) (ty:TyOf X.K H x t) (e:PySem.W.kitOne X.K t c=some b) (h:∀ tk,Q (.bool b) { s with toks:=tk }):
  wpAny (model X.prog X.w) A (call (.builtin "isinstance") [u,c]) Q E s:=by
 cases ty with
 | non=>cases (show u=Value.none from rx);exact PySem.W.kia_one PySem.W.kitx_none I.kIn True.intro e (fun z=>nomatch z) h
 | bl y=>cases (show u=Value.bool y from rx);exact PySem.W.kia_one PySem.W.kitx_bool I.kIn True.intro e (fun z=>nomatch z) h
 | int i=>obtain ⟨t,q⟩:=(show ∃ t,u=Value.int i t from rx);cases q;exact PySem.W.kia_one PySem.W.kitx_int I.kIn True.intro e (fun z=>nomatch z) h
 | str y=>obtain ⟨t,q⟩:=(show ∃ t,u=Value.str y t from rx);cases q;exact PySem.W.kia_one PySem.W.kitx_str I.kIn True.intro e (fun z=>nomatch z) h
 | flt y=>obtain ⟨t,q⟩:=(show ∃ t,u=Value.float y t from rx);cases q;exact PySem.W.kia_one PySem.W.kitx_float I.kIn True.intro e (fun z=>nomatch z) h
 | @lst a xs ea=>
  cases (show u=Value.ref a from rx)
  obtain ⟨_,_,n,_,h1⟩:=(show ObjOk X.prog X.w H s.heap a (.lst xs) from I.hok a _ ea)
  exact PySem.W.kia_one PySem.W.kitx_list I.kIn ⟨_,h1,rfl⟩ e (fun z=>nomatch z) h
 | @frz a ob xs ea=>
  cases (show u=Value.ref a from rx)
  obtain ⟨_,_,_,n,_,h1⟩:=(show ObjOk X.prog X.w H s.heap a (.frz ob (.lst xs)) from I.hok a _ ea)
  exact PySem.W.kia_one PySem.W.kitx_list I.kIn ⟨_,h1,rfl⟩ e (fun z=>nomatch z) h
 | @tup a xs ea=>
  cases (show u=Value.ref a from rx)
  obtain ⟨_,_,_,p⟩:=(show ObjOk X.prog X.w H s.heap a (.tup xs) from I.hok a _ ea)
  obtain ⟨o,h1,h2,_⟩:=p
  exact PySem.W.kia_one PySem.W.kitx_tuple I.kIn ⟨o,h1,h2⟩ e (fun z=>nomatch z) h
 | @dK a kvs ea=>
  cases (show u=Value.ref a from rx)
  obtain ⟨_,_,vs,_,p⟩:=(show ObjOk X.prog X.w H s.heap a (.dK kvs) from I.hok a _ ea)
  obtain ⟨o,es,ep,h1,h2,_⟩:=p
  exact PySem.W.kia_one PySem.W.kitx_dict I.kIn ⟨o,h1,h2.1⟩ e (fun z=>nomatch z) h
 | @dT a kvs ea=>
  cases (show u=Value.ref a from rx)
  obtain ⟨_,_,xs,_,o,es,ep,h1,h2,_⟩:=(show ObjOk X.prog X.w H s.heap a (.dT kvs) from I.hok a _ ea)
  exact PySem.W.kia_one PySem.W.kitx_dict I.kIn ⟨o,h1,h2.1⟩ e (fun z=>nomatch z) h
 | @ins a C dx fs ea cl ha hn htk hm=>
  cases (show u=Value.ref a from rx)
  obtain ⟨mA,O,_⟩:=ins_get I.hok ea
  obtain ⟨od,J,_⟩:=O.look
  exact PySem.W.kia_one (PySem.W.kitx_own (cl.get _) cl.hd ha hn htk hm) I.kIn J e (fun z=>nomatch z) h
end
structure Room (k:Nat) (A:Around):Prop where
 hd:A.handled=none
 dp:A.depth+3 * k+5 < recursionLimit
 un:A.units+16 * k+200 < cLine
theorem Room.mono {j k:Nat}{A:Around} (r:Room k A) (h:j≤k):Room j A:=⟨r.hd,by have:=r.dp;omega,by have:=r.un;omega⟩
theorem Room.deeper {k:Nat}{A:Around} (r:Room (k+1) A) (env:Env):Room k (A.deeper env):=
 ⟨r.hd,by have:=r.dp;show A.depth+1+3 * k+5 < _;omega,by have:=r.un;show A.units+3+16 * k+200 < _;omega⟩
theorem make_depth {A:Around}{C:Addr}{us:List Value}{kw:List (Str × Value)}:(A.under (.builtin "type.__call__" ⟨.ref C::us,kw⟩)).depth=A.depth+1:=by
 first | rfl | simp [Around.under,Code.weight,Code.isCreation,Code.isGuard,Code.isCaller,Code.frames,Code.isFrame,guardIds]
theorem make_units {A:Around}{C:Addr}{us:List Value}{kw:List (Str × Value)}:(A.under (.builtin "type.__call__" ⟨.ref C::us,kw⟩)).units=A.units+1:=by
 first | rfl | simp [Around.under,Code.cUnits,Code.frames,Code.isFrame]
theorem Room.make {k:Nat}{A:Around} (r:Room (k+1) A) (C:Addr) (us:List Value) (kw:List (Str × Value)):Room k (A.under (.builtin "type.__call__" ⟨.ref C::us,kw⟩)):=
 ⟨r.hd,by have:=r.dp;rw [make_depth];omega,by have:=r.un;rw [make_units];omega⟩
theorem Room.depth {k:Nat}{A:Around} (r:Room k A):A.depth < recursionLimit:=by have:=r.dp;omega
theorem Room.units {k:Nat}{A:Around} (r:Room k A):A.units+64 < cLine:=by have:=r.un;omega
def tNil:TA:=fun _ H Q=>Q [] H
def tCons (ta:TE) (tr:TA):TA:=fun σ H Q=>ta σ H fun x H1=>tr σ H1 fun xs H2=>Q (x::xs) H2
section
variable {X:Cx}{e:Expr}{es:List Expr}{te:TE}{t:TA}{pos:Pos}
theorem pa_nil:PA X [] tNil:=fun _ _ _ _ H Q I h=>Calls.spliced_nil ⟨[],H,I,.nil,h⟩
theorem pa_cons (ha:PE X e te) (hr:PA X es t) (hs:starEach (e::es) X.env=(false,eval e X.env)::starEach es X.env:=by rfl):PA X (e::es) (tCons te t):=by
 intro pos pins s σ H Q I h
 rw [hs]
 show wpAny _ _ (spliced ((false,eval e X.env)::backTo pos (starEach es X.env))) _ _ s
 refine Calls.spliced_cons (thn (ha pins s σ H _ I h) fun u s1 ⟨x,H1,I1,r1,q1⟩=>?_)
 exact thn (hr pos pins s1 σ H1 _ I1 q1) fun us s2 ⟨xs,H2,I2,r2,q2⟩=>⟨x::xs,H2,I2,.cons r1 r2,q2⟩
def tTup (t:TA):TE:=fun σ H Q=>t σ H fun xs H1=>xs.length≤sizeLine∧∀ p,H1 p=none→Q (.ref p) (upd H1 p (.tup xs))
def tLst (t:TA):TE:=fun σ H Q=>t σ H fun xs H1=>xs.length≤sizeLine∧∀ p,H1 p=none→Q (.ref p) (upd H1 p (.lst xs))
theorem pe_tup {x1} (h:PA X es t):PE X (.Tuple es x1 pos) (tTup t):=by
 intro pins s σ H Q I hq
 refine wpAny_Tuple_spliced (thn (h pos pins s σ H _ I hq) fun us s1 ⟨xs,H1,I1,r,z,q⟩=>⟨by rw [← r.length];exact z,?_⟩)
 have hf:H1 s1.heap.objs.size=none:=I1.hok.fresh (Nat.le_refl _)
 refine ⟨.ref s1.heap.objs.size,upd H1 s1.heap.objs.size (.tup xs),I1.laid (t':=s1.toks) (fun b u e=>Heap.get?_push_of_some _ e) (Nat.le_refl _) ?_,rfl,q _ hf⟩
 exact ⟨z,us,r,⟨_,Heap.get?_push_size _ rfl,rfl,_,rfl⟩⟩
theorem pe_lst (h:PA X es t):PE X (.List es pos) (tLst t):=by
 intro pins s σ H Q I hq
 refine wpAny_List_spliced (thn (h pos pins s σ H _ I hq) fun us s1 ⟨xs,H1,I1,r,z,q⟩=>⟨by rw [← r.length];exact z,?_⟩)
 have hf:H1 s1.heap.objs.size=none:=I1.hok.fresh (Nat.le_refl _)
 refine ⟨.ref s1.heap.objs.size,upd H1 s1.heap.objs.size (.lst xs),I1.laid (t':=s1.toks) (fun b u e=>Heap.get?_push_of_some _ e) (Nat.le_refl _) ?_,rfl,q _ hf⟩
 exact ⟨z,us,0,r,Heap.get?_push_size _ rfl⟩
end
abbrev Sp:=List V→Hp→VK→XK→Prop
abbrev CXT:=List Env→Hp→Shared→XK→Value→Shared→Prop
structure Env0 (P:Program) (w:World) (K:PySem.W.Frag) (mg:Str→Option Value) (base:Heap) (A:Around) (outer:List Env) (s:Shared) (H:Hp):Prop where
 frames:A.frames=some outer
 mod:Mod K mg base
 bs:∀ b o,base.get? b=some o→s.heap.get? b=some o∧H b=none
 bsz:base.objs.size≤s.heap.objs.size
 funs:s.heap.FunFrames base outer
 frf:∀ b∈frs outer,H b=none
 hok:HOk P w H s.heap
 bare:AllBare s.gens
def CE (outer:List Env) (P:Program) (w:World) (H:Hp) (s:Shared) (Q:VK) (u:Value) (s':Shared):Prop:=
 ∃ v H',s'.os=s.os∧AllBare s'.gens∧Un (frs outer) [] H H' s.heap s'.heap∧HOk P w H' s'.heap∧RelV v u∧Q v H'
def CR (CX:CXT) (outer:List Env) (P:Program) (w:World) (H:Hp) (s:Shared) (Q:VK) (E:XK) (r:Result) (s':Shared):Prop:=
 match r with
 | .ok (.ret u)=>CE outer P w H s Q u s'
 | .ok _=>False
 | .error e=>CX outer H s E e s'
structure FnOk (P:Program) (w:World) (K:PySem.W.Frag) (mg:Str→Option Value) (base:Heap) (CX:CXT) (k:Nat) (f:Addr) (fd:FuncData) (ps:List Str) (sp:Sp):Prop where
 len:∀ vs H Q E,sp vs H Q E→vs.length=ps.length
 run:∀ (A:Around) (outer:List Env) (s:Shared) (H:Hp) (args:Args) (us:List Value) (vs:List V) (Q:VK) (E:XK),Room k A→Env0 P w K mg base A outer s H→BindsTo s fd args (ps.zip us)→Vals vs us→sp vs H Q E→
  codeAny (model P w) A (.call (.ref f) args) (CR CX outer P w H s Q E) s
theorem Env0.make {P:Program}{w:World}{K:PySem.W.Frag}{mg:Str→Option Value}{base:Heap}{A:Around}{outer:List Env}{s:Shared}{H:Hp} (e:Env0 P w K mg base A outer s H) (C:Addr) (us:List Value) (kw:List (Str × Value)):
  Env0 P w K mg base (A.under (.builtin "type.__call__" ⟨.ref C::us,kw⟩)) outer s H:=⟨by first | exact e.frames | (simpa [Around.under,Code.envs,Code.isFrame,pushEnvs] using e.frames),e.mod,e.bs,e.bsz,e.funs,e.frf,e.hok,e.bare⟩
section
variable {X:Cx}{pins:List (Addr × Obj)}{σ:St}{H:Hp}{s s':Shared}
theorem Inv.env0 (I:Inv X pins σ H s):Env0 X.prog X.w X.K X.mg X.base X.A X.stack s H:=
 ⟨I.ok.frames,I.ok.mod,I.bs,Nat.le_trans I.ok.bsz I.sz,I.stack,I.stkFree,I.hok,I.bare⟩
theorem Inv.after {Q:VK}{u:Value} (I:Inv X pins σ H s) (h:CE X.stack X.prog X.w H s Q u s'):EP X pins σ Q u s':=by
 obtain ⟨v,H',os,bare,un,hok,r,q⟩:=h
 obtain ⟨hh,g,d,t,os'⟩:=s'
 obtain rfl:os'=s.os:=os
 exact ⟨v,H',I.call (h':=hh) (g':=g) (d':=d) (t':=t) (ch:=[]) un hok bare (fun b z=>absurd z (by simp)),r,q⟩
end
def tCall (sp:Sp) (dvs:List V) (E:XK) (t:TA):TE:=fun σ H Q=>t σ H fun vs H1=>sp (vs++dvs) H1 Q E
def tMeth (C:Addr) (m:Str) (sp:Sp) (dvs:List V) (E:XK) (ta:TE) (t:TA):TE:=fun σ H Q=>ta σ H fun x H1=>∃ a dx fs,x=.ref a∧H1 a=some (.ins C dx fs)∧fs.lookup m=none∧
 t σ H1 fun vs H2=>sp (x::(vs++dvs)) H2 Q E
def tMake (C:Addr) (sp:Sp) (dvs:List V) (E:XK) (t:TA):TE:=fun σ H Q=>t σ H fun vs H1=>∀ x dx,H1 x=none→H1 dx=none→dx≠x→
 sp (.ref x::(vs++dvs)) (upd (upd H1 dx (.own x)) x (.ins C dx [])) (fun v H2=>v=.non∧Q (.ref x) H2) E
def Binds (K:PySem.W.Frag) (fd:FuncData) (ps:List Str) (ds:List Value):Prop:=
 ∀ (s:Shared) (us:List Value),K.In s.heap→(us++ds).length=ps.length→BindsTo s fd ⟨us,[]⟩ (ps.zip (us++ds))
theorem Binds.all {K:PySem.W.Frag}{fd:FuncData}{ps:List Str} (h:∀ us:List Value,us.length=ps.length→bindArgs fd ⟨us,[]⟩=pure (ps.zip us)):Binds K fd ps []:=fun s us _ hl=>by
 rw [List.append_nil] at hl ⊢
 exact .of_eq (h us hl)
def Passes (CX:CXT) (X:Cx) (E:XK):Prop:=∀ (pins:List (Addr × Obj)) (σ:St) (H:Hp) (s:Shared) (e:Value) (s':Shared),Inv X pins σ H s→CX X.stack H s E e s'→X.xe e s'
section
variable {X:Cx}{CX:CXT}{k:Nat}{f C:Addr}{fd:FuncData}{ps:List Str}{sp:Sp}{dvs:List V}{ds:List Value}{E:XK}{x m:Str}{p pos apos:Pos}{e o:Expr}{es:List Expr}{ta:TE}{t:TA}
theorem run_fn {pins:List (Addr × Obj)}{σ:St}{H:Hp}{s:Shared}{Q:VK}{us:List Value}{vs:List V} (F:FnOk X.prog X.w X.K X.mg X.base CX k f fd ps sp) (hr:Room k X.A) (hb:Binds X.K fd ps ds) (hd:Vals dvs ds) (hx:Passes CX X E)
  (I:Inv X pins σ H s) (r:Vals vs us) (h:sp (vs++dvs) H Q E):wpAny (model X.prog X.w) X.A (call (.ref f) us) (EP X pins σ Q) X.xe s:=by
 have r2:Vals (vs++dvs) (us++ds):=r.append hd
 have hl:(us++ds).length=ps.length:=by rw [← r2.length];exact F.len _ _ _ _ h
 refine wpAny_call (codeAny_mono (F.run X.A X.stack s H ⟨us,[]⟩ (us++ds) (vs++dvs) Q E hr I.env0 (hb s us I.kIn hl) r2 h) fun r s' hq=>?_)
 cases r with
 | error e=>exact hx pins σ H s e s' I hq
 | ok fl=>
  cases fl with
  | ret u=>exact I.after hq
  | next=>exact False.elim hq
  | brk=>exact False.elim hq
  | cont=>exact False.elim hq
theorem pe_call (F:FnOk X.prog X.w X.K X.mg X.base CX k f fd ps sp) (hr:Room k X.A) (hg:Gl X x) (hm:X.mg x=some (.ref f)) (hk:PySem.W.keepIn X.K (.ref f)=true) (hb:Binds X.K fd ps ds) (hd:Vals dvs ds) (hx:Passes CX X E)
  (ha:PA X (e::es) t) (hdb:(x == ("__debug__":Str))=false:=by decide) (he:starEach (e::es) X.env=(false,eval e X.env)::starEach es X.env:=by rfl) (hpl:(backTo pos (starEach es X.env)).any (·.1)=false:=by rfl):
  PE X (.Call (.Name x p) (e::es) [] pos) (tCall sp dvs E t):=by
 intro pins s σ H Q I h
 refine wpAny_Call_Name_kw (ld_glob I hg hm ?_ hdb)
 refine PySem.W.callWith_K (h₀:=X.base) I.ok.mod.kin hk (thn (ha pos pins s σ H _ I h) fun us s1 ⟨vs,H1,I1,r,q⟩=>⟨I1.kIn,?_⟩) he hpl
 exact run_fn F hr hb hd hx I1 r q
theorem pe_meth {pl:Sem Bool} (he:PE X o ta) (c:Cls X.K C) (hm:Meth X.K C m f) (F:FnOk X.prog X.w X.K X.mg X.base CX k f fd ps sp) (hr:Room k X.A) (hb:Binds X.K fd ps ds) (hd:Vals dvs ds) (hx:Passes CX X E) (ha:PA X (e::es) t)
  (hst:starEach (e::es) X.env=(false,eval e X.env)::starEach es X.env:=by rfl) (hpl:(backTo pos (starEach es X.env)).any (·.1)=false:=by rfl)
  (ht:eval (.Call (.Attribute o m apos) (e::es) [] pos) X.env=(do
   let ov ← eval o X.env
   standAt apos.atName
   let (f,first) ← holding [ov] (getMethod ov m pl)
   callWith pos f first (backTo pos (starEach (e::es) X.env)) (backToKw pos (keywordEach [] X.env))):=by rfl):
  PE X (.Call (.Attribute o m apos) (e::es) [] pos) (tMeth C m sp dvs E ta t):=by
 intro pins s σ H Q I h
 refine PySem.W.methodCall_KW (pl:=pl) (thn (he pins s σ H _ I h) fun u s1 ⟨x,H1,I1,rx,a,dx,fs,ex,ea,l,q⟩=>?_) ht
 subst ex
 obtain rfl:u=Value.ref a:=rx
 refine getmeth_ok I1 ea c hm l ?_
 refine PySem.W.callWith_K (first:=[.ref a]) (h₀:=X.base) I.ok.mod.kin hm.kp (thn (ha pos pins s1 σ H1 _ I1 q) fun us s2 ⟨vs,H2,I2,r,q2⟩=>⟨I2.kIn,?_⟩) hst hpl
 exact run_fn (us:=.ref a::us) (vs:=.ref a::vs) F hr hb hd hx I2 (.cons rfl r) q2
theorem pe_meth0 {pl:Sem Bool} (he:PE X o ta) (c:Cls X.K C) (hm:Meth X.K C m f) (F:FnOk X.prog X.w X.K X.mg X.base CX k f fd ps sp) (hr:Room k X.A) (hb:Binds X.K fd ps ds) (hd:Vals dvs ds) (hx:Passes CX X E)
  (ht:eval (.Call (.Attribute o m apos) [] [] pos) X.env=(do
   let ov ← eval o X.env
   standAt apos.atName
   let (f,first) ← holding [ov] (getMethod ov m pl)
   callWith pos f first (backTo pos (starEach [] X.env)) (backToKw pos (keywordEach [] X.env))):=by rfl):
  PE X (.Call (.Attribute o m apos) [] [] pos) (tMeth C m sp dvs E ta tNil):=by
 intro pins s σ H Q I h
 refine PySem.W.methodCall_KW (pl:=pl) (thn (he pins s σ H _ I h) fun u s1 ⟨x,H1,I1,rx,a,dx,fs,ex,ea,l,q⟩=>?_) ht
 subst ex
 obtain rfl:u=Value.ref a:=rx
 refine getmeth_ok I1 ea c hm l ?_
 exact PySem.W.callWith_K0 (first:=[.ref a]) I1.kIn hm.kp (run_fn (us:=[.ref a]) (vs:=[.ref a]) F hr hb hd hx I1 (.cons rfl .nil) q)
structure Mk (K:PySem.W.Frag) (C f:Addr):Prop where
 makes:PySem.W.makesIn K C=true
 init:PySem.W.findIn K (.ref C) "__init__"=some (some (.ref f))
 fn:PySem.W.isFn K (.ref f)=true
 kp:PySem.W.keepIn K (.ref C)=true
theorem run_make {pins:List (Addr × Obj)}{σ:St}{H:Hp}{s:Shared}{Q:VK}{us:List Value}{vs:List V} (M:Mk X.K C f) (F:FnOk X.prog X.w X.K X.mg X.base CX k f fd ps sp) (hr:Room (k+1) X.A) (hb:Binds X.K fd ps ds) (hd:Vals dvs ds)
  (hx:Passes CX X E) (I:Inv X pins σ H s) (r:Vals vs us)
  (h:∀ x dx,H x=none→H dx=none→dx≠x→sp (.ref x::(vs++dvs)) (upd (upd H dx (.own x)) x (.ins C dx [])) (fun v H2=>v=.non∧Q (.ref x) H2) E):
  wpAny (model X.prog X.w) X.A (call (.ref C) us) (EP X pins σ Q) X.xe s:=by
 have hq:=h (s.heap.objs.size+1) s.heap.objs.size (I.hok.fresh (Nat.le_succ _)) (I.hok.fresh (Nat.le_refl _)) (Nat.ne_of_lt (Nat.lt_succ_self _))
 have I2:=Inv.made (C:=C) I
 have r2:Vals (V.ref (s.heap.objs.size+1)::(vs++dvs)) (Value.ref (s.heap.objs.size+1)::(us++ds)):=.cons rfl (r.append hd)
 have hl:(Value.ref (s.heap.objs.size+1)::us++ds).length=ps.length:=by
  have e:=r2.length
  rw [F.len _ _ _ _ hq] at e
  exact e.symm
 refine wpAny_call (make_map (f:=f) I.kIn M.makes M.init (beq_iff_eq.mp M.fn) (codeAny_mono (F.run _ X.stack _ _ ⟨Value.ref (s.heap.objs.size+1)::us,[]⟩ (Value.ref (s.heap.objs.size+1)::(us++ds)) _ _ E (hr.make C us [])
  (I2.env0.make C us []) (hb _ (Value.ref (s.heap.objs.size+1)::us) I2.kIn hl) r2 hq) fun r s' hq'=>?_))
 cases r with
 | error e=>exact hx pins σ _ _ e s' I2 hq'
 | ok fl=>
  cases fl with
  | ret u=>
   obtain ⟨v,H',I3,rv,ev,q3⟩:=I2.after hq'
   subst ev
   exact ⟨rv,⟨V.ref (s.heap.objs.size+1),H',I3,rfl,q3⟩⟩
  | next=>exact False.elim hq'
  | brk=>exact False.elim hq'
  | cont=>exact False.elim hq'
theorem pe_make (M:Mk X.K C f) (F:FnOk X.prog X.w X.K X.mg X.base CX k f fd ps sp) (hr:Room (k+1) X.A) (hg:Gl X x) (hm:X.mg x=some (.ref C)) (hb:Binds X.K fd ps ds) (hd:Vals dvs ds) (hx:Passes CX X E)
  (ha:PA X (e::es) t) (hdb:(x == ("__debug__":Str))=false:=by decide) (he:starEach (e::es) X.env=(false,eval e X.env)::starEach es X.env:=by rfl) (hpl:(backTo pos (starEach es X.env)).any (·.1)=false:=by rfl):
  PE X (.Call (.Name x p) (e::es) [] pos) (tMake C sp dvs E t):=by
 intro pins s σ H Q I h
 refine wpAny_Call_Name_kw (ld_glob I hg hm ?_ hdb)
 refine PySem.W.callWith_K (h₀:=X.base) I.ok.mod.kin M.kp (thn (ha pos pins s σ H _ I h) fun us s1 ⟨vs,H1,I1,r,q⟩=>⟨I1.kIn,?_⟩) he hpl
 exact run_make M F hr hb hd hx I1 r q
end
structure FnScope (N P:List Str) (sc:Scope):Prop where
 kind:sc.kind=.function
 co:sc.isCoroutine=false
 gen:sc.isGenerator=false
 nd:N.Nodup
 pre:N.take P.length=P
 par:∀ x∈P,sc.names.lookup x=some .local∨sc.names.lookup x=some .cell
 nofree:∀ y∈sc.names,y.2≠.free
theorem bindL_out {kindOf:Str→Option NameKind}{x:Str}:∀ {binds:List (Str × Value)}{m:Str→Option Value},(∀ v,(x,v)∉binds)→bindL kindOf binds m x=m x
 | [],_,_=>rfl
 | (n,v)::r,m,h=>by
  unfold bindL
  rw [bindL_out fun w hw=>h w (List.mem_cons_of_mem _ hw)]
  split
  · have:x≠n:=by rintro rfl;exact h v List.mem_cons_self
    simp [this]
  · rfl
theorem bindC_out {kindOf:Str→Option NameKind}{x:Str}:∀ {binds:List (Str × Value)}{m:Str→Option Value},(∀ v,(x,v)∉binds)→bindC kindOf binds m x=m x
 | [],_,_=>rfl
 | (n,v)::r,m,h=>by
  unfold bindC
  rw [bindC_out fun w hw=>h w (List.mem_cons_of_mem _ hw)]
  split
  · rfl
  · have:x≠n:=by rintro rfl;exact h v List.mem_cons_self
    simp [this]
theorem bindL_get {kindOf:Str→Option NameKind}{x:Str}{v:Value}:∀ {P:List Str}{vs:List Value}{i:Nat}{m:Str→Option Value},P.Nodup→P[i]?=some x→vs[i]?=some v→kindOf x=some .local→
  bindL kindOf (P.zip vs) m x=some v
 | [],_,_,_,_,h,_,_=>by simp at h
 | _::_,[],_,_,_,_,h,_=>by simp at h
 | p::P,w::vs,0,m,nd,h1,h2,hk=>by
  simp at h1 h2;subst h1;subst h2
  show bindL kindOf ((p,w)::P.zip vs) m p=_
  unfold bindL
  rw [bindL_out fun v hv=>(List.nodup_cons.mp nd).1 (List.of_mem_zip hv).1,if_pos hk]
  simp
 | p::P,w::vs,i+1,m,nd,h1,h2,hk=>by
  show bindL kindOf ((p,w)::P.zip vs) m x=_
  unfold bindL
  exact bindL_get (i:=i) (List.nodup_cons.mp nd).2 (by simpa using h1) (by simpa using h2) hk
theorem bindC_get {kindOf:Str→Option NameKind}{x:Str}{v:Value}:∀ {P:List Str}{vs:List Value}{i:Nat}{m:Str→Option Value},P.Nodup→P[i]?=some x→vs[i]?=some v→kindOf x≠some .local→
  bindC kindOf (P.zip vs) m x=some v
 | [],_,_,_,_,h,_,_=>by simp at h
 | _::_,[],_,_,_,_,h,_=>by simp at h
 | p::P,w::vs,0,m,nd,h1,h2,hk=>by
  simp at h1 h2;subst h1;subst h2
  show bindC kindOf ((p,w)::P.zip vs) m p=_
  unfold bindC
  rw [bindC_out fun v hv=>(List.nodup_cons.mp nd).1 (List.of_mem_zip hv).1,if_neg hk]
  simp
 | p::P,w::vs,i+1,m,nd,h1,h2,hk=>by
  show bindC kindOf ((p,w)::P.zip vs) m x=_
  unfold bindC
  exact bindC_get (i:=i) (List.nodup_cons.mp nd).2 (by simpa using h1) (by simpa using h2) hk
def start (N:List Str) (vs:List V):St:=vs.map some++List.replicate (N.length - vs.length) none
def cxOf (CX:CXT) (P:Program) (w:World) (K:PySem.W.Frag) (mg:Str→Option Value) (base:Heap) (N:List Str) (qual:Str) (scope:Scope) (f:Addr) (cd:Value) (A:Around) (outer:List Env) (s:Shared) (H:Hp) (E:XK):Cx where
 prog:=P
 w:=w
 K:=K
 mg:=mg
 base:=base
 A:=A.deeper (envOfC qual scope s.heap.objs.size f cd)
 N:=N
 s₀:=s
 H₀:=H
 env:=envOfC qual scope s.heap.objs.size f cd
 outer:=outer
 stack:=envOfC qual scope s.heap.objs.size f cd::outer
 ex:=[]
 calm:=true
 fn:=fun _=>true
 pn:=[]
 xe:=fun e s'=>wpAny (model P w) (A.deeper (envOfC qual scope s.heap.objs.size f cd)) (leaving (envOfC qual scope s.heap.objs.size f cd) e) (fun _ s''=>CX outer H s E e s'') (fun e' s''=>CX outer H s E e' s'') s'
theorem cell_has {sc:Scope}{n:Nat}{x:Str} (h:sc.names.lookup x=some .cell):∃ c,(cellsFrom n sc.names []).lookup x=some c:=by
 have q:=PySem.W.cellsFrom_some sc.names n [] (.inl h)
 exact Option.isSome_iff_exists.mp q
theorem inv_start {CX:CXT}{P:Program}{w:World}{K:PySem.W.Frag}{mg:Str→Option Value}{base:Heap}{N ps:List Str}{qual:Str}{scope:Scope}{f:Addr}{cd:Value}{A:Around}{outer:List Env}{s s1:Shared}{H:Hp}{E:XK}{us:List Value}{vs:List V}
  (S:FnScope N ps scope) (hd:A.handled=none) (e0:Env0 P w K mg base A outer s H) (hl:vs.length=ps.length) (r:Vals vs us)
  (x:InCallC s s.heap.objs.size (bindL (envOfC qual scope s.heap.objs.size f cd).kindOf (ps.zip us) fun _=>none) (cellsFrom (s.heap.objs.size+1) scope.names []) (bindC (envOfC qual scope s.heap.objs.size f cd).kindOf (ps.zip us) fun _=>none) s1):
  Inv (cxOf CX P w K mg base N qual scope f cd A outer s H E) [] (start N vs) H s1:=by
 have hpl:ps.length≤N.length:=by have:=congrArg List.length S.pre;rw [List.length_take] at this;omega
 obtain ⟨h1,tk,rfl,hk⟩:=x.done
 have noA:∀ b:Addr,b∉(cxOf CX P w K mg base N qual scope f cd A outer s H E).ex:=fun b z=>absurd (show b∈([]:List Addr) from z) (by simp)
 refine ⟨⟨e0.mod,S.kind,rfl,rfl,Nat.le_refl _,fun y z c h1 h2=>?_,fun y hy=>?_,fun y c _ h=>?_,fun _=>hd,Around.frames_deeper e0.frames,.inr ⟨rfl,rfl⟩,fun b z=>absurd z (noA b),e0.bs,e0.bsz,fun b _ _=>noA b,fun b z=>absurd z (noA b),e0.funs,e0.frf⟩,
  rfl,e0.bare,Un.kept hk,⟨_,x.toInCall.ns,fun i y v h1 h2 h3=>?_⟩,fun y c h=>⟨_,x.cell y c h⟩,e0.hok.fresh (Nat.le_refl _),fun y c h=>?_,fun p hp=>absurd (show p∈([]:List (Addr × Obj)) from hp) (by simp),e0.hok.kept hk,?_⟩
 · exact name_of_addr x.apart (PySem.mem_of_lookup h1) (PySem.mem_of_lookup h2)
 · have hy:scope.names.lookup y=some .cell∨scope.names.lookup y=some .free:=hy
   rcases hy with hy | hy
   · exact cell_has hy
   · exact absurd rfl (S.nofree _ (PySem.mem_of_lookup hy))
 · exact Nat.le_of_lt (x.above y c (PySem.mem_of_lookup h))
 · have hi:i < vs.length:=by
     unfold start at h2
     by_cases hi:i < vs.length
     · exact hi
     · rw [List.getElem?_append_right (by simpa using hi)] at h2
       rw [List.getElem?_replicate] at h2
       split at h2 <;> cases h2
   have ha:vs[i]?=some v:=by
    unfold start at h2
    rw [List.getElem?_append_left (by simpa using hi),List.getElem?_map] at h2
    cases e:vs[i]? with
    | none=>rw [e] at h2;cases h2
    | some a=>rw [e] at h2;cases h2;rfl
   obtain ⟨u,hu,rv⟩:=r.get ha
   have hp:ps[i]?=some y:=by
    rw [← S.pre,List.getElem?_take_of_lt (by omega)];exact h1
   have ndP:ps.Nodup:=by rw [← S.pre];exact S.nd.sublist (List.take_sublist _ _)
   refine ⟨u,rv,?_⟩
   rcases S.par y (List.mem_of_getElem? hp) with k | k
   · exact .inl ⟨k,bindL_get ndP hp hu k⟩
   · obtain ⟨c,e⟩:=cell_has (n:=s.heap.objs.size+1) k
     refine .inr ⟨.inl k,c,e,?_⟩
     have q:=x.cell y c e
     rw [bindC_get ndP hp hu (by show scope.names.lookup y≠_;rw [k];decide)] at q
     exact q
 · exact e0.hok.fresh (Nat.le_of_lt (x.above y c (PySem.mem_of_lookup h)))
 · unfold start
   show _=N.length
   rw [List.length_append,List.length_map,List.length_replicate]
   omega
theorem fn_of {CX:CXT}{P:Program}{w:World}{K:PySem.W.Frag}{mg:Str→Option Value}{base:Heap}{k:Nat}{f:Addr}{name qual:Str}{params:Arguments}{body:List Stmt}{scope:Scope}{dV kV doc pm cdv ct oc:Value}{an od:Option Addr}
  {osl:Array (Option Value)}{N ps:List Str}{sp:Sp} (lk:K.lookup f=some ⟨oc,od,.func (PySem.W.fnOf name qual params body scope dV kV doc pm an cdv ct),osl⟩) (hcd:PySem.W.codeIn K cdv qual=true) (S:FnScope N ps scope)
  (len:∀ vs H Q E,sp vs H Q E→vs.length=ps.length)
  (hbody:∀ (A:Around) (outer:List Env) (s:Shared) (H:Hp) (vs:List V) (Q:VK) (E:XK),Room k (A.deeper (envOfC qual scope s.heap.objs.size f cdv))→sp vs H Q E→
   ∃ t,PSs (cxOf CX P w K mg base N qual scope f cdv A outer s H E) body t∧t { nx:=fun _ H'=>Q .non H',rt:=Q } (start N vs) H):
  FnOk P w K mg base CX (k+1) f (PySem.W.fnOf name qual params body scope dV kV doc pm an cdv ct) ps sp:=by
 refine ⟨len,fun A outer s H args us vs Q E hr e0 hb r hsp=>?_⟩
 have hl:=len _ _ _ _ hsp
 have KX:K.In s.heap:=e0.mod.kin.keeps fun b o e=>(e0.bs b o e).1
 have lim:s.heap.NoLimit:=e0.mod.nolimit.keeps fun b o e=>(e0.bs b o e).1
 have hkind:∀ y∈ps.zip us,scope.names.lookup y.1=some .local∨(scope.names.lookup y.1=some .cell∧((cellsFrom (s.heap.objs.size+1) scope.names []).lookup y.1).isSome=true):=fun ⟨n,v⟩ hy=>by
  rcases S.par n (List.of_mem_zip hy).1 with q | q
  · exact .inl q
  · exact .inr ⟨q,PySem.W.cellsFrom_some _ _ _ (.inl q)⟩
 refine codeAny_call_function hr.depth (KX _ _ lk) rfl S.co S.gen rfl (PySem.W.codeRec_of KX hcd) (hb _ _ _ _ ?_)
 refine wpAny_newFunctionEnv_cells S.kind hkind fun env he s1 x=>?_
 subst he
 refine ⟨lim.keeps x.toInCall.keep,codeAny_func ?_⟩
 obtain ⟨t,ht,hq⟩:=hbody A outer s H vs Q E (hr.deeper _) hsp
 have I:Inv (cxOf CX P w K mg base N qual scope f cdv A outer s H E) [] (start N vs) H s1:=inv_start S hr.hd e0 hl r x
 refine wpAny_mono (ht [] s1 (start N vs) H _ I hq) (fun fl s' hs=>?_) fun e s' hs=>hs
 have fin:∀ {σ':St}{H':Hp}{v:V}{u:Value},Inv (cxOf CX P w K mg base N qual scope f cdv A outer s H E) [] σ' H' s'→RelV v u→Q v H'→CE outer P w H s Q u s':=
  fun {σ' H' v u} J rv q=>⟨v,H',J.os,J.bare,J.base,J.hok,rv,q⟩
 cases fl with
 | ret u=>
  obtain ⟨v,σ',H',J,rv,q⟩:=hs
  exact fin J rv q
 | next=>
  obtain ⟨σ',H',J,q⟩:=hs
  exact fin (v:=V.non) (u:=Value.none) J rfl q
 | brk=>
  obtain ⟨_,_,_,q⟩:=hs
  exact False.elim q
 | cont=>
  obtain ⟨_,_,_,q⟩:=hs
  exact False.elim q
section
variable {X:Cx}{x:Str}{p pos:Pos}{e:Expr}{es:List Expr}{t:TA}{id T:String}{r:List V→Hp→VK→Prop}
def tCB (r:List V→Hp→VK→Prop) (t:TA):TE:=fun σ H Q=>t σ H fun vs H1=>r vs H1 Q
theorem pe_callB (hc:CallR X (.builtin id) r) (hg:Gl X x) (hm:X.mg x=none) (hv:bootBuiltins x=some (.builtin id)) (ha:PA X (e::es) t) (hn:x≠"__name__":=by decide) (hdb:(x == ("__debug__":Str))=false:=by decide)
  (he:starEach (e::es) X.env=(false,eval e X.env)::starEach es X.env:=by rfl) (hpl:(backTo pos (starEach es X.env)).any (·.1)=false:=by rfl):PE X (.Call (.Name x p) (e::es) [] pos) (tCB r t):=by
 intro pins s σ H Q I h
 refine wpAny_Call_Name_kw (ld_blt I hg hm hv ?_ hn hdb)
 exact PyProof.Rows.callWith_builtin1 (thn (ha pos pins s σ H _ I h) fun us s1 ⟨vs,H1,I1,r1,q1⟩=>hc pins s1 σ H1 vs us Q I1 r1 q1) he hpl
theorem pe_callTy (hc:CallR X (.type T) r) (hg:Gl X x) (hm:X.mg x=none) (hv:bootBuiltins x=some (.type T)) (ha:PA X (e::es) t) (hn:x≠"__name__":=by decide) (hdb:(x == ("__debug__":Str))=false:=by decide)
  (he:starEach (e::es) X.env=(false,eval e X.env)::starEach es X.env:=by rfl) (hpl:(backTo pos (starEach es X.env)).any (·.1)=false:=by rfl):PE X (.Call (.Name x p) (e::es) [] pos) (tCB r t):=by
 intro pins s σ H Q I h
 refine wpAny_Call_Name_kw (ld_blt I hg hm hv ?_ hn hdb)
 exact PyProof.Rows.callWith_type1 (thn (ha pos pins s σ H _ I h) fun us s1 ⟨vs,H1,I1,r1,q1⟩=>hc pins s1 σ H1 vs us Q I1 r1 q1) he hpl
end
end L2
namespace HT
open PySem PyProof.Rows
section
variable {prog:Program}{w:World}{A:Around}{E:Value→Shared→Prop}{s:Shared}
def sIx (n d:Nat):Option Int→Nat
 | none=>d
 | some v=>if v < 0 then (v+(n:Int)).toNat else min v.toNat n
theorem sIx_none (n d:Nat):sIx n d none=d:=rfl
theorem sIx_nat (n d k:Nat):sIx n d (some (k:Int))=min k n:=by
 show (if (k:Int) < 0 then ((k:Int)+(n:Int)).toNat else min (k:Int).toNat n)=min k n
 rw [if_neg (by omega),Int.toNat_natCast]
end
end HT
namespace L2
open PySem PySem.Spec PyProof.Rows
abbrev TO:=St→Hp→(Option Int→Hp→Prop)→Prop
def PO (X:Cx) (e:Option Expr) (t:TO):Prop:=
 ∀ (pins:List (Addr × Obj)) (s:Shared) (σ:St) (H:Hp) (Q:Option Int→Hp→Prop),Inv X pins σ H s→t σ H Q→
  wpAny (model X.prog X.w) X.A (evalPart e X.env) (fun u s'=>∃ o H',Inv X pins σ H' s'∧IsPart u o∧Q o H') X.xe s
def tNoPart:TO:=fun _ H Q=>Q none H
def tPart (t:TE):TO:=fun σ H Q=>t σ H fun x H1=>∃ i,x=.int i∧Q (some i) H1
section
variable {X:Cx}{e:Expr}{te:TE}{lo hi:Option Expr}{tl th:TO}{pos p2:Pos}
theorem po_none:PO X none tNoPart:=by
 intro pins s σ H Q I h
 rw [evalPart_none]
 exact wpAny_pure ⟨none,H,I,.none,h⟩
theorem po_some (h:PE X e te):PO X (some e) (tPart te):=by
 intro pins s σ H Q I hw
 rw [evalPart_some]
 refine thn (h pins s σ H _ I hw) fun u s1 ⟨x,H1,I1,r1,q1⟩=>?_
 obtain ⟨i,rfl,q⟩:=q1
 obtain ⟨t,rfl⟩:=r1
 exact ⟨some i,H1,I1,.int i t,q⟩
def SlR (X:Cx) (r:V→Option Int→Option Int→Hp→VK→Prop):Prop:=
 ∀ (pins:List (Addr × Obj)) (s:Shared) (σ:St) (H:Hp) (x:V) (v vl vu:Value) (lo hi:Option Int) (sl:Addr) (Q:VK),Inv X pins σ H s→RelV x v→s.heap.IsSliceOf sl vl vu .none→IsPart vl lo→IsPart vu hi→r x lo hi H Q→
  ∃ T id,typeLookup (.type T) "__getitem__"=pure (some (.builtin id))∧s.TypeIs v T∧wpAny (model X.prog X.w) X.A (getItem v (.ref sl)) (EP X pins σ Q) X.xe s
def tSl (r:V→Option Int→Option Int→Hp→VK→Prop) (te:TE) (tl th:TO):TE:=fun σ H Q=>te σ H fun x H1=>tl σ H1 fun l H2=>th σ H2 fun u H3=>r x l u H3 Q
theorem pe_slice {r:V→Option Int→Option Int→Hp→VK→Prop} (hr:SlR X r) (he:PE X e te) (hl:PO X lo tl) (hu:PO X hi th):PE X (.Subscript e (.Slice lo hi none p2) pos) (tSl r te tl th):=by
 intro pins s σ H Q I h
 refine Subscript_ (thn (he pins s σ H _ I h) fun v s1 ⟨x,H1,I1,r1,q1⟩=>?_)
 refine wpAny_Slice (thn (hl pins s1 σ H1 _ I1 q1) fun vl s2 ⟨l,H2,I2,pl,q2⟩=>thn (hu pins s2 σ H2 _ I2 q2) fun vu s3 ⟨u,H3,I3,pu,q3⟩=>?_)
 rw [evalPart_none]
 refine wpAny_pure ?_
 have I4:Inv X pins σ H3 { s3 with heap:=s3.heap.push { cls:=.type "slice",data:=.fields #[vl,vu,.none] } }:=I3.kept (t':=s3.toks) fun b ob q=>Heap.get?_push_of_some _ q
 obtain ⟨T,id,hT,ht,hg⟩:=hr pins { s3 with heap:=s3.heap.push { cls:=.type "slice",data:=.fields #[vl,vu,.none] } } σ H3 x v vl vu l u s3.heap.objs.size Q I4 r1 (Heap.IsSliceOf.new ..) pl pu q3
 show wpAny (model X.prog X.w) X.A (subscriptTail e (.Slice lo hi none p2) v (.ref s3.heap.objs.size)) (EP X pins σ Q) X.xe { s3 with heap:=s3.heap.push { cls:=.type "slice",data:=.fields #[vl,vu,.none] } }
 exact tail_any (ops:=[.ref s3.heap.objs.size,v]) ht hT hg (by with_unfolding_all rfl)
def cutV (xs:List V) (lo hi:Option Int):List V:=(xs.drop (HT.sIx xs.length 0 lo)).take (HT.sIx xs.length xs.length hi - HT.sIx xs.length 0 lo)
theorem cutV_length (xs:List V) (lo hi:Option Int):(cutV xs lo hi).length≤xs.length:=by
 unfold cutV
 rw [List.length_take,List.length_drop]
 omega
end
def ixN (n:Nat) (i:Int):Option Nat:=if 0≤i then (if i < n then some i.toNat else none) else if -(n:Int)≤i then some (i+n).toNat else none
def atI {α:Type} (xs:List α) (i:Int):Option α:=(ixN xs.length i).bind fun j=>xs[j]?
theorem ixN_seq {n:Nat}{i:Int}{j:Nat} (h:ixN n i=some j):seqIndex? i n=some j∧j < n∧ -(n:Int)≤i∧i < n:=by
 unfold ixN at h
 by_cases h0:0≤i
 · rw [if_pos h0] at h
   by_cases h1:i < n
   · rw [if_pos h1] at h
     have e:i.toNat=j:=Option.some.inj h
     exact ⟨by rw [seqIndex_of h0 h1,e],by omega,by omega,h1⟩
   · rw [if_neg h1] at h;cases h
 · rw [if_neg h0] at h
   by_cases h1: -(n:Int)≤i
   · rw [if_pos h1] at h
     have e:(i+n).toNat=j:=Option.some.inj h
     exact ⟨by rw [seqIndex_neg (by omega) h1,e],by omega,h1,by omega⟩
   · rw [if_neg h1] at h;cases h
theorem atI_get {α:Type}{xs:List α}{i:Int}{v:α} (h:atI xs i=some v):∃ j,seqIndex? i xs.length=some j∧xs[j]?=some v∧j < xs.length∧ -(xs.length:Int)≤i∧i < xs.length:=by
 unfold atI at h
 cases e:ixN xs.length i with
 | none=>rw [e] at h;cases h
 | some j=>
  rw [e] at h
  obtain ⟨h1,h2,h3,h4⟩:=ixN_seq e
  exact ⟨j,h1,h,h2,h3,h4⟩
theorem atI_nat {α:Type}{xs:List α}{j:Nat}{v:α} (h:xs[j]?=some v):atI xs (j:Int)=some v:=by
 have hj:j < xs.length:=(List.getElem?_eq_some_iff.mp h).1
 have e:ixN xs.length (j:Int)=some j:=by
  unfold ixN
  rw [if_pos (by omega),if_pos (by omega)];simp
 unfold atI;rw [e];exact h
theorem atI_last {α:Type} (xs:List α) (v:α):atI (xs++[v]) (-1)=some v:=by
 have hl:(xs++[v]).length=xs.length+1:=by simp
 have e:ixN (xs++[v]).length (-1)=some xs.length:=by
  unfold ixN
  rw [hl,if_neg (by decide),if_pos (by omega)]
  congr 1
  omega
 unfold atI
 rw [e]
 show (xs++[v])[xs.length]?=some v
 simp
def PlainIx (b:Expr):Prop:=∀ o i,subscripted b false o i=operate [o,i] (getItem o i)
def IxR (X:Cx) (r:R2):Prop:=
 ∀ (value slice:Expr) (pins:List (Addr × Obj)) (s:Shared) (σ:St) (H:Hp) (x y:V) (v u:Value) (Q:VK),Inv X pins σ H s→RelV x v→RelV y u→r x y H Q→
  subscripted slice false v u=operate [v,u] (getItem v u)→wpAny (model X.prog X.w) X.A (subscriptTail value slice v u) (EP X pins σ Q) X.xe s
def MtR (X:Cx) (id:String) (r:V→List V→Hp→VK→Prop):Prop:=
 ∀ (pins:List (Addr × Obj)) (s:Shared) (σ:St) (H:Hp) (x:V) (xs:List V) (v:Value) (us:List Value) (Q:VK),Inv X pins σ H s→RelV x v→Vals xs us→r x xs H Q→
  wpAny (model X.prog X.w) X.A (call (.builtin id) (v::us)) (EP X pins σ Q) X.xe s
section
variable {X:Cx}{a b:Expr}{ta tb:TE}{pos:Pos}
theorem pe_ix {r:R2} (hr:IxR X r) (ha:PE X a ta) (hb:PE X b tb) (hs:PlainIx b):PE X (.Subscript a b pos) (tOp r ta tb):=by
 intro pins s σ H Q I h
 exact Subscript_ (binT ha hb I h fun v u s2 x y H2 I2 rx ry q=>hr a b pins s2 σ H2 x y v u Q I2 rx ry q (hs _ _))
def rIxL (K:PySem.W.Frag):R2:=fun x y H Q=>∃ p xs i v,x=.ref p∧y=.int i∧SqL K H p xs∧atI xs i=some v∧Q v H
theorem ix_list:IxR X (rIxL X.K):=by
 intro value slice pins s σ H x y v u Q I rx ry h hs
 obtain ⟨p,xs,i,z,rfl,rfl,hq,he,q⟩:=h
 cases rx
 obtain ⟨t,rfl⟩:=ry
 obtain ⟨its,r,pl,hz⟩:=I.list hq
 obtain ⟨j,h1,h2,h3,h4,h5⟩:=atI_get he
 obtain ⟨w,ew,rw'⟩:=r.get h2
 have hl:=r.length
 have hn:=line63
 have fin:EP X pins σ Q w s:=⟨z,H,I,rw',q⟩
 by_cases h0:0≤i
 · have hj:i.toNat=j:=by
     rw [seqIndex_of h0 h5] at h1
     exact Option.some.inj h1
   exact item_listR pl.isList h0 (by omega) (by rw [hj];simpa using ew) fin hs
 · have hj:(i+(its.toArray.size:Int)).toNat=j:=by
     rw [seqIndex_neg (by omega) h4] at h1
     rw [List.size_toArray, ← hl]
     exact Option.some.inj h1
   exact subscriptTail_builtinR (x:=w) pl.isList.typeIs slot_list_getitem.lookup
    (wpAny_getItem_list_neg (Q:=fun r s'=>r=w∧EP X pins σ Q r s') pl.isList (by omega) (by rw [List.size_toArray] <;> omega) (by omega) (by rw [hj];simpa using ew) ⟨rfl,fin⟩) hs
theorem mapSeq_set (its:List Value) (n j:Nat) (u:Value):Obj.mapSeq (·.setIfInBounds j u) { cls:=.type "list",data:=.seq its.toArray n }={ cls:=.type "list",data:=.seq (its.set j u).toArray n }:=by
 simp [Obj.mapSeq]
theorem Inv.lst {pins:List (Addr × Obj)}{σ:St}{H:Hp}{s:Shared}{p:Addr}{xs:List V} (I:Inv X pins σ H s) (h:H p=some (.lst xs)):
  ∃ (its:List Value) (n:Nat),Vals xs its∧s.heap.get? p=some { cls:=.type "list",data:=.seq its.toArray n }∧xs.length≤sizeLine:=by
 obtain ⟨z,its,n,r,e⟩:=I.hok p _ h
 exact ⟨its,n,r,e,z⟩
theorem Inv.lstUpd {pins:List (Addr × Obj)}{σ:St}{H:Hp}{s:Shared}{p:Addr}{xs ys:List V}{its its':List Value}{n n':Nat}{f:Obj→Obj} (I:Inv X pins σ H s) (h:H p=some (.lst xs))
  (ho:s.heap.get? p=some { cls:=.type "list",data:=.seq its.toArray n }) (hf:f { cls:=.type "list",data:=.seq its.toArray n }={ cls:=.type "list",data:=.seq its'.toArray n' }) (r:Vals ys its') (hz:ys.length≤sizeLine) (t:Nat):
  Inv X pins σ (upd H p (.lst ys)) { s with heap:=s.heap.update p f,toks:=t }:=by
 have e:(s.heap.update p f).get? p=some { cls:=.type "list",data:=.seq its'.toArray n' }:=by
  rw [Heap.get?_update_self f ho (by rw [hf] <;> rfl),hf]
 refine I.write (x:=p) (e:=p) (by rw [h];trivial) (.inl rfl) (fun b u hb q=>(Heap.get?_update_other _ _ (Ne.symm hb)).trans q) ⟨_,e⟩ ?_
 exact ⟨hz,its',n',r,e⟩
def rSetL:V→V→V→Hp→(Hp→Prop)→Prop:=fun o i v H Q=>∃ p xs k j,o=.ref p∧i=.int k∧H p=some (.lst xs)∧ixN xs.length k=some j∧Q (upd H p (.lst (xs.set j v)))
theorem set_list:PSet X rSetL:=by
 intro pins s σ H o i v ov iv u Q I ro ri rv h
 obtain ⟨p,xs,k,j,rfl,rfl,hp,hj,q⟩:=h
 cases ro
 obtain ⟨t,rfl⟩:=ri
 obtain ⟨its,n,r,ho,hz⟩:=I.lst hp
 obtain ⟨h1,h2,h3,h4⟩:=ixN_seq hj
 have hl:=r.length
 have hn:=line63
 have I':Inv X pins σ (upd H p (.lst (xs.set j v))) { s with heap:=s.heap.update p (Obj.mapSeq (·.setIfInBounds j u)) }:=
  I.lstUpd hp ho (mapSeq_set its n j u) (r.set rv j) (by rw [List.length_set];exact hz) s.toks
 by_cases h0:0≤k
 · have hk:k.toNat=j:=by
     rw [seqIndex_of h0 h4] at h1
     exact Option.some.inj h1
   exact PySem.W.ki_setAt ho h0 (by omega) (by rw [List.size_toArray, ← hl];exact h4) (by rw [hk];exact ⟨_,I',q⟩)
 · have hk:(k+(its.toArray.size:Int)).toNat=j:=by
     rw [seqIndex_neg (by omega) h3] at h1
     rw [List.size_toArray, ← hl]
     exact Option.some.inj h1
   exact PySem.W.ki_setBack ho (by omega) (by rw [List.size_toArray, ← hl];exact h3) (by omega) (by rw [hk];exact ⟨_,I',q⟩)
theorem slice_bounds (lo hi:Option Int) (n:Nat):(sliceBounds lo hi none n).1=((HT.sIx n 0 lo:Nat):Int)∧(sliceBounds lo hi none n).2.1=((HT.sIx n n hi:Nat):Int)∧(sliceBounds lo hi none n).2.2=1:=by
 refine ⟨?_,?_,rfl⟩
 · cases lo with
   | none=>simp [sliceBounds,HT.sIx]
   | some i=>
    simp only [sliceBounds,HT.sIx,Option.getD_none,show (1:Int) > 0 by decide,if_true]
    by_cases h:i < 0
    · simp only [h,if_true] <;> omega
    · simp only [h,if_false] <;> omega
 · cases hi with
   | none=>simp [sliceBounds,HT.sIx]
   | some i=>
    simp only [sliceBounds,HT.sIx,Option.getD_none,show (1:Int) > 0 by decide,if_true]
    by_cases h:i < 0
    · simp only [h,if_true] <;> omega
    · simp only [h,if_false] <;> omega
theorem slicePick_cut (its:List Value) (lo hi:Option Int):slicePick its.toArray lo hi none=((its.drop (HT.sIx its.length 0 lo)).take (HT.sIx its.length its.length hi - HT.sIx its.length 0 lo)).toArray:=by
 obtain ⟨h1,h2,h3⟩:=slice_bounds lo hi its.toArray.size
 unfold slicePick
 rw [h1,h2,h3]
 simp only [sliceRange_one,pick_run,List.size_toArray] <;> rfl
def rSlL (K:PySem.W.Frag):V→Option Int→Option Int→Hp→VK→Prop:=fun x lo hi H Q=>∃ a xs,x=.ref a∧SqL K H a xs∧∀ p,H p=none→Q (.ref p) (upd H p (.lst (cutV xs lo hi)))
theorem sl_list:SlR X (rSlL X.K):=by
 intro pins s σ H x v vl vu lo hi sl Q I rx hs pl pu h
 obtain ⟨a,xs,rfl,hx,q⟩:=h
 cases rx
 obtain ⟨its,r,ht,hz⟩:=I.list hx
 have hlen:=r.length
 refine ⟨"list",_,slot_list_getitem.lookup,ht.isList.typeIs,?_⟩
 refine wpAny_getItem_list_slice ht.isList hs pl pu .none (by simp) ?_ (by rw [List.size_toArray] <;> omega)
 rw [slicePick_cut, ← hlen]
 refine ⟨.ref s.heap.objs.size,_,I.laid (t':=s.toks) (o:=.lst (cutV xs lo hi)) (fun b ob q=>Heap.get?_push_of_some _ q) (Nat.le_refl _) ?_,rfl,q _ (I.hok.fresh (Nat.le_refl _))⟩
 exact ⟨Nat.le_trans (cutV_length xs lo hi) hz,_,0,(r.drop (HT.sIx xs.length 0 lo)).take (HT.sIx xs.length xs.length hi - HT.sIx xs.length 0 lo),Heap.get?_push_size _ rfl⟩
def flatV:V→Bool
 | .non=>true
 | .bl _=>true
 | .int _=>true
 | .str _=>true
 | _=>false
def eqV:V→V→Bool
 | .non,.non=>true
 | .bl a,.bl b=>a == b
 | .bl a,.int b=>(if a then 1 else 0) == b
 | .int a,.bl b=>a == (if b then 1 else 0)
 | .int a,.int b=>a == b
 | .str a,.str b=>a == b
 | _,_=>false
theorem eqAt_V {A:Around}{s:Shared}{y x:V}{u v:Value} (ry:RelV y u) (rx:RelV x v) (fy:flatV y=true) (fx:flatV x=true):SeqAt.EqAt A s u v (eqV y x):=by
 cases y with
 | non=>
  cases ry
  cases x with
  | non=>cases rx;exact SeqAt.EqAt.same _
  | bl b=>cases rx;exact SeqAt.EqAt.none_bool b
  | int b=>obtain ⟨t,rfl⟩:=rx;exact SeqAt.EqAt.none_int b t
  | str b=>obtain ⟨t,rfl⟩:=rx;exact SeqAt.EqAt.none_str b t
  | _=>exact absurd (show false=true from fx) Bool.false_ne_true
 | bl a=>
  cases ry
  cases x with
  | non=>cases rx;exact SeqAt.EqAt.bool_none a
  | bl b=>cases rx;exact SeqAt.EqAt.bool_bool a b
  | int b=>obtain ⟨t,rfl⟩:=rx;exact SeqAt.EqAt.bool_int a b t
  | str b=>obtain ⟨t,rfl⟩:=rx;exact SeqAt.EqAt.bool_str a b t
  | _=>exact absurd (show false=true from fx) Bool.false_ne_true
 | int a=>
  obtain ⟨t',rfl⟩:=ry
  cases x with
  | non=>cases rx;exact SeqAt.EqAt.int_none a t'
  | bl b=>cases rx;exact SeqAt.EqAt.int_bool a t' b
  | int b=>obtain ⟨t,rfl⟩:=rx;exact SeqAt.EqAt.int_int a t' b t
  | str b=>obtain ⟨t,rfl⟩:=rx;exact SeqAt.EqAt.int_str a t' b t
  | _=>exact absurd (show false=true from fx) Bool.false_ne_true
 | str a=>
  obtain ⟨t',rfl⟩:=ry
  cases x with
  | non=>cases rx;exact SeqAt.EqAt.str_none a t'
  | bl b=>cases rx;exact SeqAt.EqAt.str_bool a t' b
  | int b=>obtain ⟨t,rfl⟩:=rx;exact SeqAt.EqAt.str_int a t' b t
  | str b=>obtain ⟨t,rfl⟩:=rx;exact SeqAt.EqAt.str_str a t' b t
  | _=>exact absurd (show false=true from fx) Bool.false_ne_true
 | _=>exact absurd (show false=true from fy) Bool.false_ne_true
def eqU (x:V) (u:Value):Bool:=match u with
 | .none=>eqV .non x
 | .bool b=>eqV (.bl b) x
 | .int i _=>eqV (.int i) x
 | .str z _=>eqV (.str z) x
 | _=>false
theorem eqU_of {x y:V}{u:Value} (r:RelV y u) (f:flatV y=true):eqU x u=eqV y x:=by
 cases y with
 | non=>cases r;rfl
 | bl b=>cases r;rfl
 | int i=>obtain ⟨t,rfl⟩:=r;rfl
 | str z=>obtain ⟨t,rfl⟩:=r;rfl
 | _=>exact absurd (show false=true from f) Bool.false_ne_true
theorem any_eqU {x:V}:∀ {xs:List V}{us:List Value},Vals xs us→xs.all flatV=true→us.any (eqU x)=xs.any fun y=>eqV y x
 | _,_,.nil,_=>rfl
 | y::xs,u::us,.cons r t,f=>by
  rw [List.all_cons,Bool.and_eq_true] at f
  rw [List.any_cons,List.any_cons,eqU_of r f.1,any_eqU t f.2]
theorem mem_eqAt {A:Around}{s:Shared}{x:V}{v:Value} (rx:RelV x v) (fx:flatV x=true):∀ {xs:List V}{us:List Value},Vals xs us→xs.all flatV=true→∀ u∈us,SeqAt.EqAt A s u v (eqU x u)
 | _,_,.nil,_=>fun u hu=>by cases hu
 | y::xs,u::us,.cons r t,f=>fun u' hu=>by
  rw [List.all_cons,Bool.and_eq_true] at f
  rcases List.mem_cons.mp hu with rfl | hu
  · rw [eqU_of r f.1];exact eqAt_V r rx f.1 fx
  · exact mem_eqAt rx fx t f.2 u' hu
def inV (x:V) (xs:List V):Bool:=xs.any fun y=>eqV y x
def rIn (K:PySem.W.Frag) (neg:Bool):R2:=fun x y H Q=>∃ p xs,y=.ref p∧(SqL K H p xs∨SqT K H p xs)∧flatV x=true∧xs.all flatV=true∧Q (.bl (if neg then !inV x xs else inV x xs)) H
theorem op_in_seq:OpR X (compareOp .In) (rIn X.K false):=by
 intro pins s σ H x y v u Q I rx ry h
 obtain ⟨p,xs,rfl,hq,fx,fs,q⟩:=h
 cases ry
 rcases hq with hq | hq
 · obtain ⟨its,r,pl,hz⟩:=I.list hq
   refine SeqAt.in_listAt (eqU x) pl.isList (fun w hw=>mem_eqAt rx fx r fs w (by simpa using hw)) ⟨.bl _,H,I,rfl,?_⟩
   rw [show its.toArray.any (eqU x)=its.any (eqU x) by simp,any_eqU r fs]
   exact q
 · obtain ⟨its,r,pl,hz⟩:=I.tuple hq
   refine SeqAt.in_tupleAt (eqU x) pl (fun w hw=>mem_eqAt rx fx r fs w (by simpa using hw)) ⟨.bl _,H,I,rfl,?_⟩
   rw [show its.toArray.any (eqU x)=its.any (eqU x) by simp,any_eqU r fs]
   exact q
theorem op_notIn_seq:OpR X (compareOp .NotIn) (rIn X.K true):=by
 intro pins s σ H x y v u Q I rx ry h
 obtain ⟨p,xs,rfl,hq,fx,fs,q⟩:=h
 cases ry
 rcases hq with hq | hq
 · obtain ⟨its,r,pl,hz⟩:=I.list hq
   refine SeqAt.notIn_listAt (eqU x) pl.isList (fun w hw=>mem_eqAt rx fx r fs w (by simpa using hw)) ⟨.bl _,H,I,rfl,?_⟩
   rw [show its.toArray.any (eqU x)=its.any (eqU x) by simp,any_eqU r fs]
   exact q
 · obtain ⟨its,r,pl,hz⟩:=I.tuple hq
   refine SeqAt.notIn_tupleAt (eqU x) pl (fun w hw=>mem_eqAt rx fx r fs w (by simpa using hw)) ⟨.bl _,H,I,rfl,?_⟩
   rw [show its.toArray.any (eqU x)=its.any (eqU x) by simp,any_eqU r fs]
   exact q
theorem call_len_seq:CallR X (.builtin "len") (fun xs H Q=>∃ p ys,xs=[.ref p]∧(SqL X.K H p ys∨SqT X.K H p ys)∧Q (.int ys.length) H):=by
 intro pins s σ H xs us Q I r h
 obtain ⟨p,ys,rfl,hq,q⟩:=h
 obtain ⟨u,rfl,rx⟩:=vals1 r
 cases rx
 have hn:=line63
 rcases hq with hq | hq
 · obtain ⟨its,r',pl,hz⟩:=I.list hq
   have hlen:=r'.length
   exact Calls.call_len_list pl.isList (by simp only [List.size_toArray] <;> omega) ⟨.int ys.length,H,I.tok _,⟨s.toks+1,by rw [List.size_toArray,hlen]⟩,q⟩
 · obtain ⟨its,r',pl,hz⟩:=I.tuple hq
   have hlen:=r'.length
   exact len_tuple pl (by simp only [List.size_toArray] <;> omega) ⟨.int ys.length,H,I.tok _,⟨s.toks+1,by rw [List.size_toArray,hlen]⟩,q⟩
theorem call_list_of:CallR X (.type "list") (fun xs H Q=>∃ p ys,xs=[.ref p]∧(SqL X.K H p ys∨SqT X.K H p ys)∧∀ l,H l=none→Q (.ref l) (upd H l (.lst ys))):=by
 intro pins s σ H xs us Q I r h
 obtain ⟨p,ys,rfl,hq,q⟩:=h
 obtain ⟨u,rfl,rx⟩:=vals1 r
 cases rx
 have fin:∀ (its:List Value),Vals ys its→ys.length≤sizeLine→∀ (h':Heap) (c':Nat),(∀ b o',s.heap.get? b=some o'→h'.get? b=some o')→
   h'.get? s.heap.objs.size=some { cls:=.type "list",dict:=none,data:=.seq its.toArray c',slots:= #[] }→EP X pins σ Q (.ref s.heap.objs.size) { s with heap:=h' }:=fun its r' hz h' c' kp e=>
  ⟨.ref s.heap.objs.size,_,I.laid (t':=s.toks) kp (Nat.le_refl _) (show ObjOk X.prog X.w _ h' _ (.lst ys) from ⟨hz,its,c',r',e⟩),rfl,q _ (I.hok.fresh (Nat.le_refl _))⟩
 rcases hq with hq | hq
 · obtain ⟨its,r',pl,hz⟩:=I.list hq
   have hlen:=r'.length
   obtain ⟨o,ho,hc,n,hd⟩:=pl.isList
   exact call_list_seq p (.inl rfl) ho hc hd (fun h' c' kp e=>fin its r' hz h' c' kp e) (by simp only [List.size_toArray] <;> omega)
 · obtain ⟨its,r',pl,hz⟩:=I.tuple hq
   have hlen:=r'.length
   obtain ⟨o,ho,hc,n,hd⟩:=pl
   exact call_list_seq p (.inr rfl) ho hc hd (fun h' c' kp e=>fin its r' hz h' c' kp e) (by simp only [List.size_toArray] <;> omega)
def tyV (K:PySem.W.Frag) (T:String) (x:V) (H:Hp):Prop:=match x with
 | .str _=>T="str"
 | .int _=>T="int"
 | .ref p=>(T="list"∧∃ xs,SqL K H p xs)∨(T="tuple"∧∃ o,K.lookup p=some o∧o.cls=.type "tuple"∧o.dict=none)∨
   (T="dict"∧((∃ kvs,H p=some (.dK kvs))∨∃ kvs,H p=some (.dT kvs)))∨(T="set"∧∃ S n,H p=some (.set S n))
 | _=>False
theorem tyV_is {pins:List (Addr × Obj)}{σ:St}{H:Hp}{s:Shared}{T:String}{x:V}{v:Value} (I:Inv X pins σ H s) (r:RelV x v) (ty:tyV X.K T x H):
  s.TypeIs v T∧∀ a,v=.ref a→∃ ob,s.heap.get? a=some ob∧ob.dict=none:=by
 cases x with
 | str z=>
  obtain ⟨t,rfl⟩:=r
  cases (show T="str" from ty)
  exact ⟨typeIs_str s z t,fun _ e=>nomatch e⟩
 | int i=>
  obtain ⟨t,rfl⟩:=r
  cases (show T="int" from ty)
  exact ⟨typeIs_int s i t,fun _ e=>nomatch e⟩
 | ref p=>
  cases r
  rcases ty with ⟨rfl,xs,hq⟩ | ⟨rfl,o,hk,hc,hd⟩ | ⟨rfl,hk⟩ | ⟨rfl,S,n,hk⟩
  · obtain ⟨its,_,pl,_⟩:=I.list hq
    refine ⟨pl.isList.typeIs,fun a e=>?_⟩
    cases e
    obtain ⟨o,n,e,c,hd,_⟩:=pl
    exact ⟨o,e,hd⟩
  · refine ⟨⟨o,I.kIn p o hk,hc⟩,fun a e=>?_⟩
    cases e
    exact ⟨o,I.kIn _ o hk,hd⟩
  · have z:∃ o,s.heap.get? p=some o∧o.ExactDict:=by
      rcases hk with ⟨kvs,hk⟩ | ⟨kvs,hk⟩
      · obtain ⟨_,_,_,_,o,_,_,e,ex,_⟩:=I.hok p _ hk
        exact ⟨o,e,ex⟩
      · obtain ⟨_,_,_,_,o,_,_,e,ex,_⟩:=I.hok p _ hk
        exact ⟨o,e,ex⟩
    obtain ⟨o,e,ex⟩:=z
    refine ⟨⟨o,e,ex.1⟩,fun a e2=>?_⟩
    cases e2
    exact ⟨o,e,ex.2.1⟩
  · obtain ⟨o,_,_,_,e,ex,_⟩:=I.hok p _ hk
    refine ⟨⟨o,e,ex.1⟩,fun a e2=>?_⟩
    cases e2
    exact ⟨o,e,ex.2.1⟩
 | _=>exact False.elim ty
def tBM0 (K:PySem.W.Frag) (T:String) (r:V→List V→Hp→VK→Prop) (to:TE):TE:=fun σ H Q=>to σ H fun x H1=>tyV K T x H1∧r x [] H1 Q
def tBM (K:PySem.W.Frag) (T:String) (r:V→List V→Hp→VK→Prop) (to:TE) (t:TA):TE:=fun σ H Q=>to σ H fun x H1=>tyV K T x H1∧t σ H1 fun xs H2=>r x xs H2 Q
variable {o e:Expr}{es:List Expr}{to:TE}{t:TA}{name:Str}{apos cpos:Pos}{T id:String}{r:V→List V→Hp→VK→Prop}
theorem pe_bm0 (pa:PlainAttrs T) (slot:Slot T name id) (hty:typeOf (.builtin id)=pure (.type "method_descriptor")) (hm:MtR X id r) (ho:PE X o to)
  (hbase:attributeBase o name X.env (eval o X.env)=eval o X.env:=by rfl) (hline:(apos.endLine == cpos.line)=true:=by rfl):PE X (.Call (.Attribute o name apos) [] [] cpos) (tBM0 X.K T r to):=by
 intro pins s σ H Q I h
 refine wpAny_Call_method0_late hbase hline (thn (ho pins s σ H _ I h) fun v s1 ⟨x,H1,I1,r1,ty,q1⟩=>?_)
 obtain ⟨h1,h2⟩:=tyV_is I1 r1 ty
 exact ⟨T,id,pa,slot,hty,h1,h2,Calls.callWith_builtin rfl (PySem.evalArgs_none (hm pins s1 σ H1 x [] v [] Q I1 r1 .nil q1))⟩
theorem pe_bm (pa:PlainAttrs T) (slot:Slot T name id) (hty:typeOf (.builtin id)=pure (.type "method_descriptor")) (hm:MtR X id r) (ho:PE X o to) (ha:PA X (e::es) t)
  (hbase:attributeBase o name X.env (eval o X.env)=eval o X.env:=by rfl)
  (hfew:((backTo cpos (starEach (e::es) X.env)).all (fun x=> !x.1) && (backToKw cpos (keywordEach [] X.env)).all (fun x=>x.1.isSome)
   && decide ((e::es).length+([]:List Keyword).length+(if ([]:List Keyword).isEmpty then 0 else 1) < 30))=true:=by rfl)
  (hline:(apos.endLine == cpos.line)=true:=by rfl) (hs:starEach (e::es) X.env=(false,eval e X.env)::starEach es X.env:=by rfl) (hplain:(backTo cpos (starEach es X.env)).any (·.1)=false:=by rfl):
  PE X (.Call (.Attribute o name apos) (e::es) [] cpos) (tBM X.K T r to t):=by
 intro pins s σ H Q I h
 refine wpAny_Call_method_late hbase hfew hline rfl (thn (ho pins s σ H _ I h) fun v s1 ⟨x,H1,I1,r1,ty,q1⟩=>?_)
 obtain ⟨h1,h2⟩:=tyV_is I1 r1 ty
 refine ⟨T,id,pa,slot,hty,h1,h2,?_⟩
 have hA:=ha cpos pins s1 σ H1 _ I1 q1
 rw [hs] at hA ⊢
 refine Calls.callWith_builtin (by show (false || (backTo cpos (starEach es X.env)).any (·.1))=false;rw [hplain] <;> rfl) (Calls.evalArgs_plain ?_)
 exact thn hA fun us s2 ⟨vs,H2,I2,r2,q2⟩=>hm pins s2 σ H2 x vs v us Q I2 r1 r2 q2
end
def MtM (X:Cx) (id:String) (r:V→List V→Hp→VK→Prop):Prop:=
 ∀ (pins:List (Addr × Obj)) (s:Shared) (σ:St) (H:Hp) (x:V) (xs:List V) (v:Value) (us:List Value) (Q:VK),Inv X pins σ H s→RelV x v→Vals xs us→r x xs H Q→
  wpAny (model X.prog X.w) X.A (call (.builtin id) (v::us)) (EP X pins σ Q) X.xe s
theorem Vals.one:∀ {x:V}{us:List Value},Vals [x] us→∃ u,us=[u]∧RelV x u
 | _,_,.cons r .nil=>⟨_,rfl,r⟩
theorem Vals.zero:∀ {us:List Value},Vals [] us→us=[]
 | _,.nil=>rfl
theorem Vals.dropLast {xs:List V}{us:List Value} (h:Vals xs us):Vals xs.dropLast us.dropLast:=by
 induction h with
 | nil=>exact .nil
 | cons r t ih=>
  cases t with
  | nil=>exact .nil
  | cons q t'=>exact .cons r ih
theorem Vals.eraseIdx:∀ {xs:List V}{us:List Value} (i:Nat),Vals xs us→Vals (xs.eraseIdx i) (us.eraseIdx i)
 | _,_,_,.nil=>.nil
 | _,_,0,.cons _ t=>t
 | _,_,i+1,.cons r t=>.cons r (Vals.eraseIdx i t)
theorem Vals.rep {xs:List V}{us:List Value} (h:Vals xs us):∀ k:Nat,Vals (List.replicate k xs).flatten (List.replicate k us).flatten
 | 0=>.nil
 | k+1=>by
  rw [List.replicate_succ,List.replicate_succ,List.flatten_cons,List.flatten_cons]
  exact Vals.append h (Vals.rep h k)
theorem erase_last {α:Type} (l:List α):l.eraseIdx (l.length - 1)=l.dropLast:=by
 induction l with
 | nil=>rfl
 | cons a r ih=>
  cases r with
  | nil=>rfl
  | cons b r=>
   have e:(a::b::r).length - 1=((b::r).length - 1)+1:=by
    have h1:(a::b::r).length=r.length+2:=rfl
    have h2:(b::r).length=r.length+1:=rfl
    omega
   rw [e,List.eraseIdx_cons_succ,ih]
   all_goals rfl
theorem len_erase {α:Type}:∀ (l:List α) (i:Nat),(l.eraseIdx i).length≤l.length
 | [],_=>Nat.le_refl _
 | _::_,0=>Nat.le_succ _
 | _::r,i+1=>Nat.succ_le_succ (len_erase r i)
theorem foldl_rep (its:List Value):∀ (k:Nat) (acc:List Value),
  List.foldl (fun x1 x2=>x1++x2) acc.toArray (List.replicate k its.toArray)=(acc++(List.replicate k its).flatten).toArray
 | 0,acc=>by simp
 | k+1,acc=>by
  have e:acc.toArray++its.toArray=(acc++its).toArray:=by simp
  have e2:(acc++its)++(List.replicate k its).flatten=acc++(List.replicate (k+1) its).flatten:=by
   rw [List.replicate_succ,List.flatten_cons,List.append_assoc]
  rw [← e2, ← foldl_rep its k (acc++its), ← e,List.replicate_succ,List.foldl_cons]
section
variable {X:Cx}{pins:List (Addr × Obj)}{σ:St}{H:Hp}{s:Shared}{l b:Addr}{xs ys zs:List V}
theorem Inv.lset {its its':List Value}{n:Nat}{f:Array Value→Array Value}{t':Nat} (I:Inv X pins σ H s) (hH:H l=some (.lst xs))
  (e:s.heap.get? l=some { cls:=.type "list",data:=.seq its.toArray n }) (hf:f its.toArray=its'.toArray) (hv:Vals ys its') (hz:ys.length≤sizeLine):
  Inv X pins σ (upd H l (.lst ys)) { s with heap:=s.heap.update l (Obj.mapSeq f),toks:=t' }:=by
 have q:=PySem.IsL.update e f
 rw [hf] at q
 refine I.write (x:=l) (e:=l) (by rw [hH];exact trivial) (.inl rfl) (fun b' u hb hu=>(Heap.get?_update_other s.heap (Obj.mapSeq f) (Ne.symm hb)).trans hu) ⟨_,q⟩ ?_
 exact ⟨hz,its',_,hv,q⟩
theorem Inv.lnew {its:List Value}{t':Nat} (I:Inv X pins σ H s) (hv:Vals ys its) (hz:ys.length≤sizeLine):
  Inv X pins σ (upd H s.heap.objs.size (.lst ys)) { s with heap:=s.heap.push { cls:=.type "list",data:=.seq its.toArray },toks:=t' }:=
 I.laid (fun _ _ q=>Heap.get?_push_of_some _ q) (Nat.le_refl _) ⟨hz,its,0,hv,Heap.get?_push_size _ rfl⟩
theorem Inv.fresh (I:Inv X pins σ H s):H s.heap.objs.size=none:=I.hok.fresh (Nat.le_refl _)
theorem Inv.lstM (I:Inv X pins σ H s) (hH:H l=some (.lst xs)):xs.length≤sizeLine∧∃ (its:List Value) (n:Nat),Vals xs its∧xs.length=its.length∧s.heap.get? l=some { cls:=.type "list",data:=.seq its.toArray n }:=by
 obtain ⟨z,its,n,r,e⟩:=I.hok l _ hH
 exact ⟨z,its,n,r,r.length,e⟩
theorem notLongL {n:Nat} (h:n≤sizeLine):Builtin.List.listTooLong n=false:=by
 unfold Builtin.List.listTooLong
 exact decide_eq_false (by omega)
end
section
variable {X:Cx}
def rAppend:V→List V→Hp→VK→Prop:=fun x vs H Q=>∃ l xs y,x=.ref l∧vs=[y]∧H l=some (.lst xs)∧xs.length < sizeLine∧Q .non (upd H l (.lst (xs++[y])))
theorem mt_append:MtM X "list.append" rAppend:=by
 intro pins s σ H x vs v us Q I rx rv h
 obtain ⟨l,xs,y,rfl,rfl,hH,hz,q⟩:=h
 cases rx
 obtain ⟨u,rfl,ru⟩:=rv.one
 obtain ⟨z,its,n,r,hl,e⟩:=I.lstM hH
 refine call_meets F.slot_list_append ⟨_,e,rfl⟩ F.entry_list_append (F.args_list_append_2 _ _) (PySem.list_append l its.toArray n u (by rw [List.size_toArray];omega)) ⟨e,?_⟩
 refine ⟨.non,_,I.lset (its':=its++[u]) hH e (by simp) (r.append (.cons ru .nil)) ?_,rfl,q⟩
 rw [List.length_append,List.length_singleton]
 omega
def rPop:V→List V→Hp→VK→Prop:=fun x vs H Q=>∃ l xs y,x=.ref l∧vs=[]∧H l=some (.lst xs)∧xs[xs.length - 1]?=some y∧Q y (upd H l (.lst xs.dropLast))
theorem mt_pop:MtM X "list.pop" rPop:=by
 intro pins s σ H x vs v us Q I rx rv h
 obtain ⟨l,xs,y,rfl,rfl,hH,hy,q⟩:=h
 cases rx
 have hus:=rv.zero
 subst hus
 obtain ⟨z,its,n,r,hl,e⟩:=I.lstM hH
 obtain ⟨u,hu,ru⟩:=r.get hy
 have hy':its.toArray[its.toArray.size - 1]?=some u:=by
  show its.toArray[its.length - 1]?=some u
  rw [← Array.getElem?_toList, ← hl]
  exact hu
 refine call_meets F.slot_list_pop ⟨_,e,rfl⟩ F.entry_list_pop (F.args_list_pop_1 _) (MeetsSeq.list_pop_last l its.toArray n u hy' (by rw [List.size_toArray];omega)) ⟨e,?_⟩
 refine ⟨y,_,I.lset (its':=its.dropLast) hH e ?_ r.dropLast ?_,ru,q⟩
 · show its.toArray.eraseIdxIfInBounds (its.toArray.size - 1)=its.dropLast.toArray
   rw [List.size_toArray,List.eraseIdxIfInBounds_toArray,erase_last]
 · rw [List.length_dropLast]
   omega
def rPopAt:V→List V→Hp→VK→Prop:=fun x vs H Q=>∃ l xs i k y,x=.ref l∧vs=[.int i]∧H l=some (.lst xs)∧ -(2 ^ 63)≤i∧i < 2 ^ 63∧seqIndex? i xs.length=some k∧xs[k]?=some y∧Q y (upd H l (.lst (xs.eraseIdx k)))
theorem mt_popAt:MtM X "list.pop" rPopAt:=by
 intro pins s σ H x vs v us Q I rx rv h
 obtain ⟨l,xs,i,k,y,rfl,rfl,hH,h1,h2,hk,hy,q⟩:=h
 cases rx
 obtain ⟨u,rfl,ru⟩:=rv.one
 obtain ⟨t,rfl⟩:=ru
 obtain ⟨z,its,n,r,hl,e⟩:=I.lstM hH
 obtain ⟨w,hw,rw'⟩:=r.get hy
 refine call_meets F.slot_list_pop ⟨_,e,rfl⟩ F.entry_list_pop (F.args_list_pop_2 _ _)
  (MeetsSeq.list_pop_at l its.toArray n i t k w (fitsIndex_both h1 h2) (by rw [List.size_toArray, ← hl];exact hk) (by rw [← Array.getElem?_toList];exact hw) (by rw [List.size_toArray];omega)) ⟨e,?_⟩
 refine ⟨y,_,I.lset (its':=its.eraseIdx k) hH e ?_ (r.eraseIdx k) ?_,rw',q⟩
 · show its.toArray.eraseIdxIfInBounds k=(its.eraseIdx k).toArray
   rw [List.eraseIdxIfInBounds_toArray]
 · have:=len_erase xs k
   omega
def rCat:R2:=fun x y H Q=>∃ l b xs zs,x=.ref l∧y=.ref b∧H l=some (.lst xs)∧H b=some (.lst zs)∧xs.length+zs.length≤sizeLine∧∀ p,H p=none→Q (.ref p) (upd H p (.lst (xs++zs)))
theorem op_cat:OpR X (binaryOp .Add) rCat:=by
 intro pins s σ H x y v u Q I rx ry h
 obtain ⟨l,b,xs,zs,rfl,rfl,hH,hB,hz,q⟩:=h
 cases rx
 cases ry
 obtain ⟨z,its,n,r,hl,e⟩:=I.lstM hH
 obtain ⟨z2,its2,n2,r2,hl2,e2⟩:=I.lstM hB
 refine PySem.P.add_list e e2 ?_ (by rw [List.size_toArray,List.size_toArray];omega)
 have ea:its.toArray++its2.toArray=(its++its2).toArray:=by simp
 rw [ea]
 exact ⟨.ref _,_,I.lnew (t':=s.toks) (r.append r2) (by rw [List.length_append];omega),rfl,q _ I.fresh⟩
def rRep:R2:=fun x y H Q=>∃ l k xs,x=.ref l∧y=.int k∧H l=some (.lst xs)∧ -(2 ^ 63)≤k∧k < 2 ^ 63∧xs.length * k.toNat≤sizeLine∧
 ∀ p,H p=none→Q (.ref p) (upd H p (.lst (List.replicate k.toNat xs).flatten))
theorem len_rep {α:Type} (xs:List α) (k:Nat):(List.replicate k xs).flatten.length=k * xs.length:=by
 induction k with
 | zero=>simp
 | succ k ih=>rw [List.replicate_succ,List.flatten_cons,List.length_append,ih,Nat.succ_mul,Nat.add_comm]
theorem op_rep:OpR X (binaryOp .Mult) rRep:=by
 intro pins s σ H x y v u Q I rx ry h
 obtain ⟨l,k,xs,rfl,rfl,hH,h1,h2,hz,q⟩:=h
 cases rx
 obtain ⟨t,rfl⟩:=ry
 obtain ⟨z,its,n,r,hl,e⟩:=I.lstM hH
 have hlen:its.toArray.size * k.toNat≤sizeLine:=by rw [List.size_toArray, ← hl];exact hz
 have hcap:¬ its.toArray.size * k.toNat > (2 ^ 63 - 1) / 8:=by
  have:(sizeLine:Nat)≤(2 ^ 63 - 1) / 8:=by decide
  omega
 have hfit:¬ (!Builtin.List.listFitsIndex k)=true:=by
  rw [fitsIndex_both h1 h2]
  exact Bool.false_ne_true
 have hlong:¬ Builtin.List.listTooLong (its.toArray.size * k.toNat)=true:=by
  rw [notLongL hlen]
  exact Bool.false_ne_true
 have hnew:List.foldl (fun x1 x2=>x1++x2) #[] (List.replicate (if its.toArray.isEmpty=true then 0 else k.toNat) its.toArray)=(List.replicate k.toNat its).flatten.toArray:=by
  have f0:∀ m:Nat,List.foldl (fun x1 x2=>x1++x2) #[] (List.replicate m its.toArray)=(List.replicate m its).flatten.toArray:=fun m=>by
   have:=foldl_rep its m []
   rw [List.nil_append] at this
   exact this
  rw [f0]
  cases its with
  | nil=>simp
  | cons a r'=>rw [if_neg (by simp)]
 refine wpAny_binaryOp_repeat_ref (T:="list") (U:="int") (by decide) ⟨_,e,rfl⟩ (fun s'=>typeIs_int s' k t) noFill_list_mul F.fills_int_mul F.slot_int_rmul repeat_list F.slot_int_index.lookup
  (call_meets F.slot_int_rmul (typeIs_int s k t) F.entry_int_rmul (F.args_int_rmul_2 _ _) (int___rmul___int_list k t l its.toArray n)
   ⟨e,rfl,⟨_,e,rfl⟩,call_meets F.slot_list_mul ⟨_,e,rfl⟩ F.entry_list_mul (F.args_list_mul_2 _ _) (AutoListH.list___mul___list_int_3 l its.toArray n k t hfit hcap hlong) ⟨e,?_⟩⟩)
 rw [hnew]
 exact ⟨.ref _,_,I.lnew (t':=s.toks) (r.rep k.toNat) (by rw [len_rep,Nat.mul_comm];exact hz),rfl,q _ I.fresh⟩
end
end L2
namespace Att
open PySem PySem.W PySem.Calls PyProof.Rows
theorem ints_of_wellAll {P:Params}{h:Heap}:∀ (ns:List Int) (vs:List Value),WellAll P h vs (ns.map WData.int)→IntsAre vs ns:=by
 intro ns
 induction ns with
 | nil=>
  intro vs w
  rw [List.map_nil] at w
  cases w
  exact .nil
 | cons n ns ih=>
  intro vs w
  rw [List.map_cons] at w
  cases w with
  | cons a b=>
   cases a
   exact .cons _ _ (ih _ b)
theorem script_of {l:OpenLaw}{n:Nat} (hn:l.most=some n) {P:Params}{h:Heap}{args:List WData}{vals:List Value}
  (hpre:l.row.toRowW.claim.pre args=true) (hwl:WellAll P h vals args):
  ∃ a vs ns,vals=[Value.ref a]∧args=[WData.list (ns.map WData.int)]∧h.get? a=some { cls:=.type "list",data:=.seq vs.toArray }∧IntsAre vs ns∧ns.length≤n:=by
 have hsh:WShape.hasAll [] args [.list .int]=true:=(pre_splitW hpre).1
 have hc:l.pre.holds [] { args:=args }=true:=(pre_splitW hpre).2
 obtain ⟨d,r,rfl,h1,h2⟩:=hasAllW_cons hsh
 obtain rfl:=hasAllW_nil h2
 obtain ⟨xs,rfl,h3⟩:=hasW_list h1
 obtain ⟨ns,rfl⟩:=items_int h3
 have hlen:ns.length≤n:=by
  unfold OpenLaw.pre at hc
  have h4:(WTm.not (.lt (.lit (.int (n:Int))) (.len (.arg 0)))).holds [] { args:=[.list (ns.map .int)] }=true:=by
   have h4:=(holds_andW hc).1
   rw [hn] at h4
   exact h4
  have h5:=condW_of h4 (w_not (w_lt w_lit (w_len_list (w_arg rfl))))
  rw [List.length_map] at h5
  refine Nat.le_of_not_lt fun q=>?_
  have q':(n:Int) < ((ns.length:Nat):Int):=by omega
  first
   | (rw [decide_eq_true q'] at h5;exact absurd h5 (by decide))
   | (simp at h5;omega)
 cases hwl with
 | cons w1 w2=>
  cases w2
  cases w1 with
  | list ho hall=>exact ⟨_,_,ns,rfl,rfl,ho,ints_of_wellAll ns _ hall,hlen⟩
theorem post_true (l:OpenLaw) (args:List WData):l.row.toRowW.claim.post args (.bool true) args=true:=
 postW_of (r:=l.row.toRowW) (X:=(true == true))
  (show WShape.has [] (.bool true) .bool=true by first | rfl | decide | simp [WShape.has,WShape.arms,WShape.armsAll])
  (show (WTm.eq .res (.lit (.bool true))).value [] { args:=args,res:=some (.bool true),after:=args }=some (.bool (true == true)) from w_eq_bool (w_res rfl) w_lit) rfl
theorem attach_call {l:OpenLaw}{n:Nat}{q:Program}{loose:List Str}{XP:(Str→Option Value)→Heap→Prop}{YP:World→Heap→Prop}{d:DefRec}
  (hn:l.most=some n) (hdf:d.params.defaults=[])
  (call:∀ (w:World) (s₀ s₁:Shared) (mg mb:Str→Option Value) (fa:Addr) (o:Obj) (pm cd doc:Value) (a:Addr) (vs:List Value) (ns:List Int),
   Ground q loose [] XP w s₀ mg mb s₁.heap→YP w s₁.heap→
   s₁.heap.get? fa=some o→o.data=.func (docDef d.name d.params d.body d.scope pm cd doc)→s₁.heap.CodeRec cd d.name→mg d.name=some (.ref fa)→
   s₁.heap.get? a=some { cls:=.type "list",data:=.seq vs.toArray }→IntsAre vs ns→ns.length≤n→s₁.gens= #[]→
   codeAny (model l.prog w) callerA (.call (.ref fa) ⟨[.ref a],[]⟩) (fun r s'=>r=.ok (.ret (.bool true))∧OldK s₁.heap s'.heap∧s'.os=s₁.os∧AllBare s'.gens) s₁):
  WalkO q loose XP YP l.row.toRowW d [] (fun f vs=>PySem.call f vs):=by
 intro w s₀ s₁ mg mb G Y fa o pm cd doc dV kV ho hd hcd hD hmg hg args vals as hpre hlay hrd hwl hlo
 obtain rfl:dV=.none:=Dflts.none hD hdf
 obtain rfl:kV=.none:=Dflts.noKw hD
 obtain ⟨a,vs,ns,rfl,rfl,hobj,hints,hlen⟩:=script_of hn hpre hwl
 refine enter_call (codeAny_mono (call w s₀ s₁ mg mb fa o pm cd doc a vs ns G Y ho (fd_plain hd) hcd hmg hobj hints hlen hg) fun r s' hq=>?_)
 obtain ⟨rfl,h2,h3,h4⟩:=hq
 exact ⟨.inl ⟨.bool true,.bool true,[],rfl,fun _=>rfl,.bool true,post_true l _,fun _=>⟨List.Pairwise.nil,fun _ hm=>(nomatch hm)⟩⟩,h2,h3,h4⟩
section
variable {prog:Program}{w:World}{A:Around}{E:Value→Shared→Prop}{s:Shared}{K:Frag}
end
end Att
namespace L2
open PySem PySem.Spec PyProof.Rows
theorem vals_ints:∀ {vs:List Value}{ns:List Int},IntsAre vs ns→Vals (ns.map V.int) vs
 | _,_,.nil=>.nil
 | _,_,.cons n t h=>.cons ⟨t,rfl⟩ (vals_ints h)
def Only (H:Hp):Prop:=∀ b,H b=none∨∃ o xs,H b=some (.frz o (.lst xs))
theorem law_call {P:Program}{w:World}{K:PySem.W.Frag}{mg mb:Str→Option Value}{CX:CXT}{k:Nat}{fa a:Addr}{fd:FuncData}{x:Str}{sp:Sp}{s₁:Shared}{vs:List Value}{ns:List Int}
  (KX:K.In s₁.heap) (hns:s₁.heap.Ns mainGlobals mg) (hb:s₁.heap.Ns builtinsNs mb) (hbb:∀ x:Str,x≠"__name__"→mb x=bootBuiltins x) (hlim:s₁.heap.NoLimit) (hg:s₁.gens= #[])
  (ha:s₁.heap.get? a=some { cls:=.type "list",data:=.seq vs.toArray }) (hi:IntsAre vs ns) (hl:ns.length≤sizeLine) (hr:Room k callerA)
  (F:∀ base:Heap,K.In base→base.Ns mainGlobals mg→FnOk P w K mg base CX k fa fd [x] sp) (hbind:∀ (s:Shared) (u:Value),BindsTo s fd ⟨[u],[]⟩ [(x,u)])
  (hsp:∀ H:Hp,Only H→SqL K H a (ns.map V.int)→sp [.ref a] H (fun v _=>v=.bl true) fun _ _ _=>False)
  (hCX:∀ H e s',CX [] H s₁ (fun _ _ _=>False) e s'→False):
  codeAny (model P w) callerA (.call (.ref fa) ⟨[.ref a],[]⟩) (fun r s'=>r=.ok (.ret (.bool true))∧OldK s₁.heap s'.heap∧s'.os=s₁.os∧AllBare s'.gens) s₁:=by
 have rv:=vals_ints hi
 have lenV:=hi.length
 have core:∀ H:Hp,Only H→SqL K H a (ns.map V.int)→HOk P w H s₁.heap→(∀ b,H b≠none→b=a)→(H a≠none→K.lookup a=none)→
   codeAny (model P w) callerA (.call (.ref fa) ⟨[.ref a],[]⟩) (fun r s'=>r=.ok (.ret (.bool true))∧OldK s₁.heap s'.heap∧s'.os=s₁.os∧AllBare s'.gens) s₁:=by
  intro H hO hS hok hA hK
  have base_of:∀ {b:Addr}{o:Obj},s₁.heap.get? b=some o→H b=none→(hidT s₁.heap H).get? b=some o:=fun e n=>hidT_get e n
  have noA:∀ {b:Addr}{o:Obj}{es:Array DictEntry}{ep:Nat},s₁.heap.get? b=some o→o.data=.dict es ep→H b=none:=fun {b o es ep} e d=>by
   cases q:H b with
   | none=>rfl
   | some u=>
    have e':b=a:=hA b (by rw [q];simp)
    subst e'
    rw [ha] at e;cases e
    have d':Data.seq vs.toArray _=Data.dict es ep:=d
    cases d'
  have nsK:∀ {b:Addr}{m:Str→Option Value},s₁.heap.Ns b m→(hidT s₁.heap H).Ns b m:=fun {b m} ⟨o,es,ep,e,d,r⟩=>⟨o,es,ep,base_of e (noA e d),d,r⟩
  have hKb:K.In (hidT s₁.heap H):=fun b o e=>base_of (KX b o e) (by
   cases q:H b with
   | none=>rfl
   | some u=>
    have e':b=a:=hA b (by rw [q];simp)
    subst e'
    rw [hK (by rw [q];simp)] at e;cases e)
  have hM:Mod K mg (hidT s₁.heap H):=⟨hKb,nsK hns,⟨mb,nsK hb,hbb⟩,let ⟨mc,h1,h2⟩:=hlim;⟨mc,nsK h1,h2⟩⟩
  have e0:Env0 P w K mg (hidT s₁.heap H) callerA [] s₁ H:=⟨rfl,hM,fun b o e=>of_hidT e,Nat.le_of_eq (hidT_size _ _),trivial,fun b hb=>absurd (show b∈([]:List Addr) from hb) (by simp),hok,.of_eq hg⟩
  refine codeAny_mono ((F _ hKb (nsK hns)).run callerA [] s₁ H ⟨[.ref a],[]⟩ [.ref a] [.ref a] _ _ hr e0 (hbind s₁ (.ref a)) (.cons rfl .nil) (hsp H hO hS)) fun r s' h=>?_
  cases r with
  | error e=>exact (hCX H e s' h).elim
  | ok fl=>
   cases fl with
   | next=>exact False.elim h
   | brk=>exact False.elim h
   | cont=>exact False.elim h
   | ret u=>
    obtain ⟨v,H',os,bare,un,hok',r',q⟩:=h
    have q':v=.bl true:=q
    subst q'
    obtain rfl:u=Value.bool true:=r'
    refine ⟨rfl,OldK.of_keep fun b o e=>?_,os,bare⟩
    cases q:H b with
    | none=>exact un.keep b o e q (by intro z;exact absurd (show b∈([]:List Addr) from z) (by simp)) (by simp)
    | some u=>
     rcases hO b with z | ⟨ob,xs,z⟩
     · rw [q] at z;cases z
     · have z2:=un.frzs b ob _ z
       obtain ⟨e1,_⟩:=hok b _ z
       obtain ⟨e2,_⟩:=hok' b _ z2
       rw [e] at e1;cases e1
       exact e2
 cases hk:K.lookup a with
 | some o=>
  have e:=KX a o hk
  rw [ha] at e
  cases e
  refine core (fun _=>none) (fun _=>.inl rfl) (.inr ⟨_,vs.toArray,_,hk,rfl,rfl,rfl,by rw [List.size_toArray,lenV];exact hl,by simpa using rv⟩) (fun b u z=>by have z':(none:Option HO)=some u:=z;cases z') (fun b z=>absurd rfl z) fun z=>absurd rfl z
 | none=>
  refine core (fun b=>if b=a then some (.frz { cls:=.type "list",data:=.seq vs.toArray } (.lst (ns.map V.int))) else none) (fun b=>?_) (.inl (.inr ⟨{ cls:=.type "list",data:=.seq vs.toArray },if_pos rfl⟩)) (fun b u z=>?_) (fun b z=>?_) fun _=>hk
  · by_cases hb:b=a
    · exact .inr ⟨_,_,if_pos hb⟩
    · exact .inl (if_neg hb)
  · by_cases hb:b=a
    · have z':=(if_pos hb).symm.trans z
      cases z'
      subst hb
      exact ⟨ha,by rw [List.length_map];exact hl,vs,_,rv,ha⟩
    · have z':=(if_neg hb).symm.trans z
      cases z'
  · by_cases hb:b=a
    · exact hb
    · exact absurd (if_neg hb) z
theorem walk_of {l:PySem.W.OpenLaw}{n k:Nat}{q:Program}{loose:List Str}{XP:(Str→Option Value)→Heap→Prop}{YP:World→Heap→Prop}{d:DefRec}{K:Params→PySem.W.Frag}{CX:World→CXT}{sp:World→Sp}{x:Str}
  (hn:l.most=some n) (hn2:n≤sizeLine) (hdf:d.params.defaults=[]) (hr:Room k callerA)
  (hY:∀ (w:World) (h:Heap),YP w h→(K w.params).In h)
  (F:∀ (w:World) (mg:Str→Option Value) (fa:Addr) (h:Heap),(K w.params).In h→h.Ns mainGlobals mg→mg d.name=some (.ref fa)→
   ∃ fd:FuncData,(∀ (s:Shared) (u:Value),BindsTo s fd ⟨[u],[]⟩ [(x,u)])∧
    ∀ base:Heap,(K w.params).In base→base.Ns mainGlobals mg→FnOk l.prog w (K w.params) mg base (CX w) k fa fd [x] (sp w))
  (hsp:∀ (w:World) (H:Hp) (a:Addr) (ns:List Int),ns.length≤n→Only H→SqL (K w.params) H a (ns.map V.int)→sp w [.ref a] H (fun v _=>v=.bl true) fun _ _ _=>False)
  (hCX:∀ (w:World) (H:Hp) (s:Shared) (e:Value) (s':Shared),CX w [] H s (fun _ _ _=>False) e s'→False):
  PySem.W.WalkO q loose XP YP l.row.toRowW d [] (fun f vs=>PySem.call f vs):=by
 refine Att.attach_call hn hdf fun w s₀ s₁ mg mb fa o pm cd doc a vs ns G Y ho hd hcd hmg hobj hints hlen hg=>?_
 have KX:=hY w _ Y
 obtain ⟨fd,hb,hF⟩:=F w mg fa _ KX G.T.g hmg
 exact law_call KX G.T.g G.T.b G.T.builtins G.T.nolimit hg hobj hints (Nat.le_trans hlen hn2) hr hF hb (fun H hO hS=>hsp w H a ns hlen hO hS) fun H e s'=>hCX w H s₁ e s'
def inClass (s:Stmt) (j:Nat):Stmt:=match s with
 | .ClassDef _ _ _ body _ _ _ _ _ _ _=>body.getD j (.Pass ⟨0,0,0,0⟩)
 | _=>.Pass ⟨0,0,0,0⟩
def defArgs (s:Stmt):Arguments:=match s with
 | .FunctionDef _ a _ _ _ _ _ _ _ _=>a
 | _=>{ posonlyargs:=[],args:=[],vararg:=none,kwonlyargs:=[],kw_defaults:=[],kwarg:=none,defaults:=[] }
def defBody (s:Stmt):List Stmt:=match s with
 | .FunctionDef _ _ b _ _ _ _ _ _ _=>b
 | _=>[]
def defScope (s:Stmt):Scope:=match s with
 | .FunctionDef _ _ _ _ _ _ sc _ _ _=>sc
 | _=>{ kind:=.function,names:=[],isGenerator:=false,isCoroutine:=false }
abbrev CX0:CXT:=fun _ _ _ _ _ _=>False
abbrev E0:XK:=fun _ _ _=>False
theorem pass0 {X:Cx}:Passes CX0 X E0:=fun _ _ _ _ _ _ _ h=>h.elim
structure Fun (K:PySem.W.Frag) (x qual:Str) (st:Stmt) (f:Addr) (fd:FuncData):Prop where
 ex:∃ (oc:Value) (od:Option Addr) (kV doc pm:Value) (an:Option Addr) (cdv ct:Value) (osl:Array (Option Value)),
  fd=PySem.W.fnOf x qual (defArgs st) (defBody st) (defScope st) .none kV doc pm an cdv ct∧K.lookup f=some ⟨oc,od,.func fd,osl⟩∧PySem.W.codeIn K cdv qual=true
 kp:PySem.W.keepIn K (.ref f)=true
section
variable {P:Program}{w:World}{K:PySem.W.Frag}{mg:Str→Option Value}{base:Heap}
theorem Fun.ok {x qual:Str}{st:Stmt}{f:Addr}{fd:FuncData}{N ps:List Str}{k:Nat}{sp:Sp} (F:Fun K x qual st f fd) (S:FnScope N ps (defScope st)) (len:∀ vs H Q E,sp vs H Q E→vs.length=ps.length)
  (hbody:∀ (cdv:Value) (A:Around) (outer:List Env) (s:Shared) (H:Hp) (vs:List V) (Q:VK) (E:XK),Room k (A.deeper (envOfC qual (defScope st) s.heap.objs.size f cdv))→sp vs H Q E→
   ∃ t,PSs (cxOf CX0 P w K mg base N qual (defScope st) f cdv A outer s H E).nox (defBody st) t∧t { nx:=fun _ H'=>Q .non H',rt:=Q } (start N vs) H):FnOk P w K mg base CX0 (k+1) f fd ps sp:=by
 obtain ⟨oc,od,kV,doc,pm,an,cdv,ct,osl,rfl,lk,hcd⟩:=F.ex
 refine fn_of lk hcd S len fun A outer s H vs Q E hr hsp=>?_
 obtain ⟨t,h,q⟩:=hbody cdv A outer s H vs Q E hr hsp
 exact ⟨t,h.nox,q⟩
theorem Fun.binds {x qual:Str}{st:Stmt}{f:Addr}{fd:FuncData}{ps:List Str} (F:Fun K x qual st f fd)
  (h:∀ (kV doc pm:Value) (an:Option Addr) (cdv ct:Value) (us:List Value),us.length=ps.length→bindArgs (PySem.W.fnOf x qual (defArgs st) (defBody st) (defScope st) .none kV doc pm an cdv ct) ⟨us,[]⟩=pure (ps.zip us)):Binds K fd ps []:=by
 obtain ⟨oc,od,kV,doc,pm,an,cdv,ct,osl,rfl,lk,hcd⟩:=F.ex
 exact .all (h kV doc pm an cdv ct)
theorem fun_mk {x qual:Str}{st:Stmt}{f:Addr}{oc:Value}{od an:Option Addr}{osl:Array (Option Value)}{kV doc pm cdv ct:Value} (l:K.lookup f=some ⟨oc,od,.func (PySem.W.fnOf x qual (defArgs st) (defBody st) (defScope st) .none kV doc pm an cdv ct),osl⟩)
  (c:PySem.W.codeIn K cdv qual=true) (k:PySem.W.keepIn K (.ref f)=true):Fun K x qual st f (PySem.W.fnOf x qual (defArgs st) (defBody st) (defScope st) .none kV doc pm an cdv ct):=⟨⟨oc,od,kV,doc,pm,an,cdv,ct,osl,rfl,l,c⟩,k⟩
end
theorem hu_of {A:Around}{k:Nat} (hr:Room k A):A.units+1 < cLine:=Nat.lt_of_le_of_lt (Nat.add_le_add_left (by decide:1≤64) _) hr.units
section
variable {X:Cx}
theorem pv (i:Nat) {x:Str}{pos:Pos} (hN:X.N[i]?=some x:=by rfl) (hv:Vis X.env.scope x:=by first | exact Or.inl rfl | exact Or.inr (Or.inl rfl) | exact Or.inr (Or.inr rfl)) (hd:(x == ("__debug__":Str))=false:=by decide)
  (hcd:(x == ("__classdict__":Str))=false:=by decide):PE X (.Name x pos) (tVar i):=pe_var hN hv hd hcd
end
theorem iteF {A B:Prop} (h:B):if false=true then A else B:=by
 rw [if_neg Bool.false_ne_true]
 exact h
theorem iteT {A B:Prop} (h:A):if true=true then A else B:=by
 rw [if_pos rfl]
 exact h
theorem ite2 {c A B:Prop} [Decidable c] (h1:c→A) (h2:¬ c→B):if c then A else B:=by
 by_cases h:c
 · rw [if_pos h]
   exact h1 h
 · rw [if_neg h]
   exact h2 h
def Same (H H':Hp):Prop:=∀ b o,H b=some o→H' b=some o
theorem Same.refl (H:Hp):Same H H:=fun _ _ h=>h
theorem Same.trans {H H1 H2:Hp} (a:Same H H1) (b:Same H1 H2):Same H H2:=fun c o h=>b c o (a c o h)
theorem Same.free {H H':Hp} (e:Same H H') {l:Addr} (h:H' l=Option.none):H l=Option.none:=by
 cases q:H l with
 | none=>rfl
 | some o=>
  rw [e l o q] at h
  cases h
theorem Same.seq {K:PySem.W.Frag}{H H':Hp}{a:Addr}{xs:List V} (e:Same H H') (h:SqL K H a xs):SqL K H' a xs:=by
 rcases h with (h | ⟨o,h⟩) | h
 · exact .inl (.inl (e _ _ h))
 · exact .inl (.inr ⟨o,e _ _ h⟩)
 · exact .inr h
def Cx.blk (X:Cx) (N:List Str) (scope:Scope) (cl:List (Str × Addr)) (C:Addr) (s:Shared) (H:Hp) (fp:List Addr):Cx:=
 { prog:=X.prog,w:=X.w,K:=X.K,mg:=X.mg,base:=X.base,A:=X.A,N:=N,s₀:=s,H₀:=H,env:=compEnvC scope cl C X.env,outer:=X.stack,stack:=X.stack,ex:=fp,fn:=fun _=>false,calm:=X.calm,pn:=[],xe:=fun _ _=>False }
def blkSt (ix:List Nat) (x:Option V) (σ:St):St:=x::ix.map fun i=>(σ[i]?).join
theorem HOk.sameBut {P:Program}{w:World}{H:Hp}{h h':Heap}{C:Addr} (x:HOk P w H h) (hC:H C=none) (sb:Heap.SameBut C h h'):HOk P w H h':=fun a o e=>
 (x a o e).stay (fun b u hb q=>(sb.2 b (by
  rintro rfl
  rcases hb with hb | hb
  · rw [← hb,hC] at e;cases e
  · rw [hC] at hb;cases hb)).trans q) (fun _ q=>q) fun _ _ q=>q
inductive Wr (P:Prop):Prop where
 | mk (h:P):Wr P
theorem Wr.get {P:Prop} (h:Wr P):P:=by cases h;assumption
section
variable {X:Cx}{e:Expr}{te:TE}{pos p1 p2 p3:Pos}
abbrev wr2 (r:R2):R2:=fun x y H Q=>Wr (r x y H Q)
theorem OpR.wr {f:Value→Value→Sem Value}{r:R2} (h:OpR X f r):OpR X f (wr2 r):=fun pins s σ H x y v u Q I rx ry q=>h pins s σ H x y v u Q I rx ry q.get
theorem ix_l:IxR X (wr2 (rIxL X.K)):=fun value slice pins s σ H x y v u Q I rx ry q hs=>ix_list value slice pins s σ H x y v u Q I rx ry q.get hs
theorem sl_l:SlR X (fun x lo hi H Q=>Wr (rSlL X.K x lo hi H Q)):=fun pins s σ H x v vl vu lo hi sl Q I rx hs pl pu q=>sl_list pins s σ H x v vl vu lo hi sl Q I rx hs pl pu q.get
theorem op_catW:OpR X (binaryOp .Add) (wr2 rCat):=op_cat.wr
theorem call_isinst:CallR X (.builtin "isinstance") (fun vs H Q=>∃ x c t b,vs=[x,.ty c]∧TyOf X.K H x t∧PySem.W.kitOne X.K t (.type c)=some b∧Q (.bl b) H):=by
 intro pins s σ H vs us Q I r h
 obtain ⟨x,c,t,b,rfl,ty,k,q⟩:=h
 cases r with
 | cons r1 rr=>
  cases rr with
  | cons r2 rr=>
   cases rr
   cases r2
   exact isinst_ok I r1 ty k fun tk=>⟨.bl b,H,I.tok tk,rfl,q⟩
def rList (K:PySem.W.Frag) (xs:List V) (H:Hp) (Q:VK):Prop:=∃ p ys,xs=[.ref p]∧(SqL K H p ys∨SqT K H p ys)∧∀ l,H l=none→Q (.ref l) (upd H l (.lst ys))
theorem call_listR:CallR X (.type "list") (fun xs H Q=>Wr (rList X.K xs H Q)):=fun pins s σ H vs us Q I r h=>call_list_of pins s σ H vs us Q I r h.get
def rLst (xs:List V) (H:Hp) (Q:VK):Prop:=xs.length≤sizeLine∧∀ p,H p=none→Q (.ref p) (upd H p (.lst xs))
def tLstW (t:TA):TE:=fun σ H Q=>t σ H fun xs H1=>Wr (rLst xs H1 Q)
theorem pe_lstW {es:List Expr}{t:TA} (h:PA X es t):PE X (.List es pos) (tLstW t):=by
 intro pins s σ H Q I hq
 refine wpAny_List_spliced (thn (h pos pins s σ H _ I hq) fun us s1 ⟨xs,H1,I1,r,w⟩=>?_)
 obtain ⟨z,q⟩:=w.get
 refine ⟨by rw [← r.length];exact z,?_⟩
 have hf:H1 s1.heap.objs.size=none:=I1.hok.fresh (Nat.le_refl _)
 refine ⟨.ref s1.heap.objs.size,upd H1 s1.heap.objs.size (.lst xs),I1.laid (t':=s1.toks) (fun b u e=>Heap.get?_push_of_some _ e) (Nat.le_refl _) ?_,rfl,q _ hf⟩
 exact ⟨z,us,0,r,Heap.get?_push_size _ rfl⟩
end
def Ite (K:PySem.W.Frag) (a:Addr):It where
 go:=fun i H=>∃ xs x,SqL K H a xs∧xs[i]?=some x
 yld:=fun i H x H'=>∃ t y,H t=none∧x=.ref t∧H'=upd H t (.tup [.int i,y])∧∀ ys,SqL K H a ys→ys[i]?=some y
 stop:=fun i H=>∃ xs,SqL K H a xs∧xs.length≤i
theorem turn_enum {P:Program}{w:World}{K:PySem.W.Frag}{es:List Expr}{k:Nat}{pos:Pos} (a e it:Addr) (hei:e≠it):
  Turn P w K (.Tuple es k pos) (Ite K a) [e,it] e (fun i h=>(∃ old,IsEnum h e it ((i:Nat):Int) old)∧h.IsListIter it a i) where
 mem:=by simp
 obj:=fun i h ⟨⟨old,st⟩,si⟩ b hb=>by
  rcases List.mem_cons.mp hb with rfl | hb
  · exact ⟨_,st,fun v z=>by
      have z':Data.fields _=Data.cell v:=z
      cases z'⟩
  · have e':b=it:=by simpa using hb
    subst e'
    obtain ⟨o,e,c,d⟩:=si
    exact ⟨o,e,fun v z=>by rw [d] at z;cases z⟩
 keep:=fun i h h' ⟨⟨old,st⟩,si⟩ k=>⟨⟨old,k e (by simp) _ st⟩,si.at fun o q=>k it (by simp) o q⟩
 item:=by
  intro X hP hw hK hc i pins s σ H E I hf ⟨⟨old,st⟩,si⟩ hg
  subst hP hw hK
  obtain ⟨xs,x,hq,hx⟩:=hg
  obtain ⟨its,rv,p,hz⟩:=I.list hq
  obtain ⟨u,hu,ru⟩:=rv.get hx
  obtain ⟨e0,e1,e2,e3,e4,e5⟩:=hf e (by simp)
  obtain ⟨f0,f1,f2,f3,f4,f5⟩:=hf it (by simp)
  have hT:=I.hok.fresh (Nat.le_refl s.heap.objs.size)
  refine wpAny_pyNext_enum_item st si p.isList (x:=u) (by simpa using hu) hei fun h1 heo hit1 ht1 hz1 hk1=>?_
  refine ⟨_,rfl,wpAny_letOwnedTupleGo_enum heo fun h2 he2 sb2=>?_⟩
  have sb2:Heap.SameBut e h1 h2:=sb2
  have hk2:∀ b o,b≠e→b≠it→s.heap.get? b=some o→h2.get? b=some o:=fun b o n1 n2 q=>(sb2.2 b n1).trans (hk1 b o n1 n2 q)
  have eT:e≠s.heap.objs.size:=Nat.ne_of_lt (Heap.lt_size st)
  have ht2:h2.get? s.heap.objs.size=some { cls:=.type "tuple",data:=.seq #[.int i s.toks,u] }:=(sb2.2 _ eT.symm).trans ht1
  have hit2:h2.IsListIter it a (i+1):=hit1.at fun o q=>(sb2.2 it hei.symm).trans q
  have he2:IsEnum h2 e it (((i+1:Nat)):Int) u:=by
   have:(((i+1:Nat)):Int)=(i:Int)+1:=by push_cast;rfl
   rw [this];exact he2
  have iT:it≠s.heap.objs.size:=by
   obtain ⟨o,q,_⟩:=si
   exact Nat.ne_of_lt (Heap.lt_size q)
  have trk:∀ b o,H b=some o→b≠e∧b≠it∧b≠s.heap.objs.size:=fun b o q=>⟨(fun z=>by rw [z,e0] at q;cases q),(fun z=>by rw [z,f0] at q;cases q),(fun z=>by rw [z,hT] at q;cases q)⟩
  have hok:HOk X.prog X.w (upd H s.heap.objs.size (.tup [.int i,x])) h2:=fun b o q=>by
   by_cases hb:b=s.heap.objs.size
   · subst hb
     rw [upd_same] at q;cases q
     exact ⟨(show 2≤sizeLine by decide),[.int i s.toks,u],.cons ⟨_,rfl⟩ (.cons ru .nil),⟨_,ht2,rfl,_,rfl⟩⟩
   · rw [upd_ne hb] at q
     refine (I.hok b o q).stay (fun c v hc' r=>hk2 c v ?_ ?_ r) (fun c r=>by rw [upd_ne (trk c _ r).2.2];exact r) fun c ys r=>by rw [upd_ne (trk c _ r).2.2];exact r
     · rcases hc' with rfl | hc'
       · exact (trk _ _ q).1
       · exact (trk _ _ hc').1
     · rcases hc' with rfl | hc'
       · exact (trk _ _ q).2.1
       · exact (trk _ _ hc').2.1
  have old':∀ b o,s.heap.get? b=some o→b≠s.heap.objs.size:=fun b o q=>Nat.ne_of_lt (Heap.lt_size q)
  have I1:Inv X pins σ (upd H s.heap.objs.size (.tup [.int i,x])) { s with heap:=h2,toks:=s.toks+1 }:=by
   refine I.step (g':=s.gens) (d':=s.drawn) (t':=s.toks+1) (ch:=[e,it]) (fun b hb=>?_) (fun b o _ _ hc' q _=>hk2 b o (fun z=>hc' (by simp [z])) (fun z=>hc' (by simp [z])) q) (fun b o _ _ hc' q _=>⟨o.slots,hk2 b o (fun z=>hc' (by simp [z])) (fun z=>hc' (by simp [z])) q⟩)
    (fun b o _ q n=>by rw [upd_ne (old' b o q)];exact n) (fun b o hc' q=>⟨o,hk2 b o (fun z=>hc' (by simp [z])) (fun z=>hc' (by simp [z])) q⟩) (fun b ys q=>by rw [upd_ne (trk b _ q).2.2];exact q) (fun b o ys q=>by rw [upd_ne (trk b _ q).2.2];exact q)
    (fun b ps q=>⟨#[],by rw [upd_ne (trk b _ q).2.2,q];simp⟩) (fun m hm=>?_) hok I.bare
   · rcases List.mem_cons.mp hb with rfl | hb
     · exact ⟨e3,e1,e4,e5⟩
     · have e':b=it:=by simpa using hb
       subst e'
       exact ⟨f3,f1,f4,f5⟩
   · obtain ⟨o,es',ep,ho,r⟩:=hm
     exact ⟨o,es',ep,hk2 _ _ e1.symm f1.symm ho,r⟩
  refine ⟨.ref s.heap.objs.size,_,I1,rfl,⟨s.heap.objs.size,x,hT,rfl,rfl,fun ys hy=>by rw [I.list_inj hy hq];exact hx⟩,⟨⟨u,he2⟩,hit2⟩,fun b hb=>?_⟩
  rcases List.mem_cons.mp hb with rfl | hb
  · rw [upd_ne eT];exact e0
  · have e':b=it:=by simpa using hb
    subst e'
    rw [upd_ne iT];exact f0
 done:=by
  intro X hP hw hK hc i pins s σ H E I hf ⟨⟨old,st⟩,si⟩ hg
  subst hP hw hK
  obtain ⟨xs,hq,hx⟩:=hg
  obtain ⟨its,rv,p,hz⟩:=I.list hq
  obtain ⟨f0,f1,f2,f3,f4,f5⟩:=hf it (by simp)
  have hl:=rv.length
  exact wpAny_pyNext_enum_end (I.ok.hd hc) st si p.isList (by simp;omega) fun h' eb=>⟨rfl,I.turned (t':=s.toks) (fun b o hb q=>eb b o hb q) f0 f1 f3 f4 f5⟩
 self:=fun _ _ _ _ _ ⟨⟨old,st⟩,_⟩ h=>wpAny_pyIter_enum st h
section
variable {X:Cx}
def iEnum (K:PySem.W.Frag) (ta:TA):TI:=fun σ H R=>ta σ H fun vs H1=>∃ a,vs=[.ref a]∧(∃ xs,SqL K H1 a xs)∧R (Ite K a) H1
theorem pi_enum {l:Expr}{ta:TA}{p pos pt:Pos}{es:List Expr}{k:Nat} (hg:Gl X "enumerate") (hm:X.mg "enumerate"=none) (hb:bootBuiltins "enumerate"=some (.type "enumerate")) (ha:PA X [l] ta) (hs:starEach [l] X.env=[(false,eval l X.env)]:=by rfl):
  PI X (.Tuple es k pt) (.Call (.Name "enumerate" p) [l] [] pos) (iEnum X.K ta):=by
 intro pins s σ H R I h
 refine Call_ (ld_blt I hg hm hb (PyProof.Rows.callWith_type1 (thn (ha pos pins s σ H _ I h) fun us s1 ⟨vs,H1,I1,r1,q1⟩=>?_) hs rfl))
 obtain ⟨a,e,⟨xs,hq⟩,q⟩:=q1
 subst e
 cases r1 with
 | cons r rr=>
  cases rr
  cases r
  obtain ⟨its,rv,pl,hz⟩:=I1.list hq
  refine call_enumerate_list pl.isList fun h' he hit hsz hk=>?_
  refine wpAny_pyIter_enum he ?_
  have I2:Inv X pins σ H1 { s1 with heap:=h' }:=I1.kept (t':=s1.toks) fun b o e=>hk b o e
  refine ⟨s1.heap.objs.size+1,[s1.heap.objs.size+1,s1.heap.objs.size],_,_,H1,rfl,I2,turn_enum a _ _ (Nat.succ_ne_self _),⟨⟨_,he⟩,hit⟩,fun b hb=>?_,q⟩
  rcases List.mem_cons.mp hb with rfl | hb
  · exact I1.fpOk (Nat.le_succ _) (I1.hok.fresh (Nat.le_succ _))
  · have e:b=s1.heap.objs.size:=by simpa using hb
    subst e
    exact I1.fpOk (Nat.le_refl _) (I1.hok.fresh (Nat.le_refl _))
theorem for_enum {K:PySem.W.Frag}{a:Addr}{xs:List V}{g:TG}{tb:TS}{D:Ends}{σ:St}{H:Hp} (Pv:Nat→St→Hp→Prop) (h0:Pv 0 σ H) (hl:∀ i σ H,i≤xs.length→Pv i σ H→SqL K H a xs)
  (hs:∀ i x σ H t,xs[i]?=some x→H t=none→Pv i σ H→g (.ref t) σ (upd H t (.tup [.int i,x])) fun σ2 H2=>tb { D with nx:=Pv (i+1),ct:=Pv (i+1),bk:=D.nx } σ2 H2) (hd:∀ σ H,Pv xs.length σ H→D.nx σ H):
  ∃ W:Nat→Nat→St→Hp→Prop,(∃ m,W 0 m σ H)∧∀ i m σ H,W i m σ H→
   ((Ite K a).stop i H∧D.nx σ H)∨((Ite K a).go i H∧∃ N:St→Hp→Prop,(∀ σ' H',N σ' H'→∃ m',m' < m∧W (i+1) m' σ' H')∧∀ x H',(Ite K a).yld i H x H'→g x σ H' fun σ2 H2=>tb { D with nx:=N,ct:=N,bk:=D.nx } σ2 H2):=by
 refine ⟨fun i m σ H=>m=xs.length - i∧i≤xs.length∧Pv i σ H,⟨xs.length,by simp,Nat.zero_le _,h0⟩,?_⟩
 rintro i m σ H ⟨rfl,hi,p⟩
 have q:=hl i σ H hi p
 by_cases hlt:i < xs.length
 · refine .inr ⟨⟨xs,xs[i],q,by simp [hlt]⟩,Pv (i+1),fun σ' H' p'=>⟨xs.length - (i+1),by omega,rfl,hlt,p'⟩,fun x H' y=>?_⟩
   obtain ⟨t,y,ht,rfl,rfl,hy⟩:=y
   exact hs i y σ H t (hy xs q) ht p
 · have e:i=xs.length:=by omega
   subst e
   exact .inl ⟨⟨xs,q,Nat.le_refl _⟩,hd σ H p⟩
end
open PySem.SeqAt
mutual
inductive Dt (K:PySem.W.Frag) (H:Hp):V→PyData→Prop
 | non:Dt K H .non .none
 | bl (b:Bool):Dt K H (.bl b) (.bool b)
 | int (i:Int):Dt K H (.int i) (.int i)
 | str (x:Str):Dt K H (.str x) (.str x)
 | lst {a:Addr}{xs:List V}{ds:List PyData} (h:SqL K H a xs) (r:Dts K H xs ds):Dt K H (.ref a) (.list ds)
 | tup {a:Addr}{xs:List V}{ds:List PyData} (h:SqT K H a xs) (r:Dts K H xs ds):Dt K H (.ref a) (.tuple ds)
inductive Dts (K:PySem.W.Frag) (H:Hp):List V→List PyData→Prop
 | nil:Dts K H [] []
 | cons {x:V}{d:PyData}{xs:List V}{ds:List PyData} (h:Dt K H x d) (r:Dts K H xs ds):Dts K H (x::xs) (d::ds)
end
section
variable {X:Cx}{pins:List (Addr × Obj)}{σ:St}{H:Hp}{s:Shared}
mutual
theorem Dt.reads (I:Inv X pins σ H s):∀ {x:V}{d:PyData}{u:Value},Dt X.K H x d→RelV x u→∃ as,Reads s.heap u d as
 | _,_,_,.non,r=>by cases (show _=Value.none from r);exact ⟨_,.none⟩
 | _,_,_,.bl b,r=>by cases (show _=Value.bool b from r);exact ⟨_,.bool b⟩
 | _,_,_,.int i,r=>by obtain ⟨t,e⟩:=(show ∃ t,_=Value.int i t from r);cases e;exact ⟨_,.int i t⟩
 | _,_,_,.str x,r=>by obtain ⟨t,e⟩:=(show ∃ t,_=Value.str x t from r);cases e;exact ⟨_,.str x t⟩
 | _,_,_,.lst (a:=a) h rr,r=>by
  cases (show _=Value.ref a from r)
  obtain ⟨its,rv,p,hz⟩:=I.list h
  obtain ⟨as,q⟩:=Dts.reads I rr rv
  obtain ⟨o,ho,hc,n,hd⟩:=p.isList
  exact ⟨_,.list ho hc hd (by simpa using q)⟩
 | _,_,_,.tup (a:=a) h rr,r=>by
  cases (show _=Value.ref a from r)
  obtain ⟨its,rv,p,hz⟩:=I.tuple h
  obtain ⟨as,q⟩:=Dts.reads I rr rv
  obtain ⟨o,ho,hc,n,hd⟩:=p
  exact ⟨_,.tuple ho hc hd (by simpa using q)⟩
theorem Dts.reads (I:Inv X pins σ H s):∀ {xs:List V}{ds:List PyData}{us:List Value},Dts X.K H xs ds→Vals xs us→∃ as,ReadsAll s.heap us ds as
 | _,_,_,.nil,.nil=>⟨_,.nil⟩
 | _,_,_,.cons h rr,.cons r rs=>by
  obtain ⟨as,q⟩:=Dt.reads I h r
  obtain ⟨bs,q'⟩:=Dts.reads I rr rs
  exact ⟨_,.cons q q'⟩
end
end
section
variable {X:Cx}
def rNeD (K:PySem.W.Frag):R2:=fun x y H Q=>∃ d d',Dt K H x d∧Dt K H y d'∧shaped d=true∧shaped d'=true∧noMix d d'=true∧Q (.bl (!same d d')) H
theorem op_neD (hu:X.A.units+64 < cLine):OpR X (compareOp .NotEq) (wr2 (rNeD X.K)):=by
 intro pins s σ H x y v u Q I rx ry h
 obtain ⟨d,d',a,b,sa,sb,m,q⟩:=h.get
 obtain ⟨as,ra⟩:=a.reads I rx
 obtain ⟨bs,rb⟩:=b.reads I ry
 exact ne_dataH_same ra rb sa sb hu m ⟨.bl _,H,I,rfl,q⟩
end
end L2
namespace L2
open PySem PySem.Spec PyProof.Rows
section
variable {X:Cx}{tg:Expr}
theorem comp_vals {K:PySem.W.Frag}{a:Addr}{xs:List V}{ix:List Nat}{te:TE}{σ:St}{H:Hp}{Q:VK} (f:V→V) (hq:SqL K H a xs) (hl:xs.length < sizeLine)
  (he:∀ z∈xs,∀ (H':Hp) (Q':VK),Same H H'→Q' (f z) H'→te (blkSt ix (some z) σ) H' Q') (h:∀ D,H D=none→Q (.ref D) (upd H D (.lst (xs.map f)))):
  ∀ D,H D=none→∃ W:Nat→Nat→List V→Hp→Prop,(∃ m,W 0 m [] (upd H D (.lst [])))∧
   ∀ i m ys H2,W i m ys H2→H2 D=some (.lst ys)∧(((Itl K a).stop i H2∧Q (.ref D) H2)∨((Itl K a).go i H2∧ys.length < sizeLine∧∀ x H',(Itl K a).yld i H2 x H'→te (blkSt ix (some x) σ) H' fun y H3=>
    H3 D=some (.lst ys)∧∃ m',m' < m∧W (i+1) m' (ys++[y]) (upd H3 D (.lst (ys++[y]))))):=by
 intro D hD
 refine ⟨fun i m ys H2=>m=xs.length - i∧i≤xs.length∧ys=(xs.take i).map f∧H2=upd H D (.lst ys),⟨xs.length,by simp,Nat.zero_le _,by simp,rfl⟩,?_⟩
 rintro i m ys H2 ⟨rfl,hi,rfl,rfl⟩
 have s:Same H (upd H D (.lst ((xs.take i).map f))):=fun b o e=>by rw [upd_ne (ne_of_none e hD)];exact e
 have hs:=s.seq hq
 refine ⟨upd_same,?_⟩
 by_cases hlt:i < xs.length
 · refine .inr ⟨⟨_,xs[i],hs,by simp [hlt]⟩,by simp;omega,fun x H' y=>?_⟩
   obtain ⟨e,y⟩:=y
   subst e
   have ey:=y _ hs
   rw [List.getElem?_eq_getElem hlt] at ey
   cases ey
   refine he xs[i] (List.getElem_mem hlt) _ _ s ⟨upd_same,xs.length - (i+1),by omega,rfl,hlt,?_,?_⟩
   · rw [List.take_succ_eq_append_getElem hlt];simp only [List.map_append,List.map_cons,List.map_nil]
   · rw [upd_upd]
 · have e:i=xs.length:=by omega
   subst e
   refine .inl ⟨⟨_,hs,by simp⟩,?_⟩
   rw [List.take_of_length_le (Nat.le_refl _)]
   exact h D hD
end
section
variable {κ:Type} [DecidableEq κ]
def valV (kvs:List (κ × V)) (k:κ):Option V:=(kvs.find? fun kv=>decide (kv.1=k)).map (·.2)
def putK (kvs:List (κ × V)) (k:κ) (v:V):List (κ × V):=
 if (kvs.any fun kv=>decide (kv.1=k))=true then kvs.map (fun kv=>if kv.1=k then (kv.1,v) else kv) else kvs++[(k,v)]
theorem valV_pos {p:κ × V}{r:List (κ × V)}{k:κ} (e:p.1=k):valV (p::r) k=some p.2:=by simp [valV,List.find?_cons,e]
theorem valV_neg {p:κ × V}{r:List (κ × V)}{k:κ} (e:¬ p.1=k):valV (p::r) k=valV r k:=by simp [valV,List.find?_cons,e]
theorem valV_any (k:κ):∀ kvs:List (κ × V),(kvs.any fun kv=>decide (kv.1=k))=(valV kvs k).isSome
 | []=>rfl
 | p::r=>by
  rw [List.any_cons]
  by_cases e:p.1=k
  · simp only [valV_pos e,decide_eq_true e,Bool.true_or,Option.isSome_some]
  · rw [valV_neg e,decide_eq_false e,Bool.false_or];exact valV_any k r
theorem length_putK (kvs:List (κ × V)) (k:κ) (v:V):(putK kvs k v).length≤kvs.length+1:=by
 unfold putK
 split
 · rw [List.length_map];omega
 · rw [List.length_append,List.length_cons,List.length_nil];omega
theorem putK_new {kvs:List (κ × V)}{k:κ} (v:V) (h:valV kvs k=none):putK kvs k v=kvs++[(k,v)]:=by
 unfold putK
 rw [valV_any,h]
 exact if_neg (by decide)
theorem RelO.isSome_eq {o:Option V}{u:Option Value} (r:RelO o u):o.isSome=u.isSome:=by
 cases o with
 | none=>cases u with
  | none=>rfl
  | some _=>exact (show False from r).elim
 | some _=>cases u with
  | none=>exact (show False from r).elim
  | some _=>rfl
theorem RelO.getD {o:Option V}{u:Option Value}{d:V}{d':Value} (r:RelO o u) (rd:RelV d d'):RelV (o.getD d) (u.getD d'):=by
 cases o with
 | none=>cases u with
  | none=>exact rd
  | some _=>exact (show False from r).elim
 | some _=>cases u with
  | none=>exact (show False from r).elim
  | some _=>exact r
theorem KV.val {kvs:List (κ × V)}{vs:List (κ × Value)} (r:KV kvs vs) (k:κ):RelO (valV kvs k) (valueAt vs k):=by
 unfold KV at r
 induction r with
 | nil=>exact True.intro
 | @cons p q ps qs h t ih=>
  obtain ⟨h1,h2⟩:=h
  by_cases e:p.1=k
  · have e':q.1=k:=h1.symm.trans e
    have b:valueAt (q::qs) k=some q.2:=by simp [valueAt,List.find?_cons,e']
    rw [valV_pos e,b];exact h2
  · have e':¬ q.1=k:=fun z=>e (h1.trans z)
    have b:valueAt (q::qs) k=valueAt qs k:=by simp [valueAt,List.find?_cons,e']
    rw [valV_neg e,b];exact ih
theorem KV.any {kvs:List (κ × V)}{vs:List (κ × Value)} (r:KV kvs vs) (k:κ):(kvs.any fun kv=>decide (kv.1=k))=vs.any fun kv=>decide (kv.1=k):=by
 unfold KV at r
 induction r with
 | nil=>rfl
 | cons h t ih=>rw [List.any_cons,List.any_cons,ih,h.1]
theorem KV.repl {kvs:List (κ × V)}{vs:List (κ × Value)} (r:KV kvs vs) (k:κ) {y:V}{u:Value} (ry:RelV y u):
  KV (kvs.map fun kv=>if kv.1=k then (kv.1,y) else kv) (vs.map fun kv=>if kv.1=k then (kv.1,u) else kv):=by
 unfold KV at r ⊢
 induction r with
 | nil=>exact .nil
 | @cons p q ps qs h t ih=>
  rw [List.map_cons,List.map_cons]
  refine .cons ?_ ih
  obtain ⟨h1,h2⟩:=h
  by_cases e:p.1=k
  · rw [if_pos e,if_pos (h1.symm.trans e)];exact ⟨h1,ry⟩
  · rw [if_neg e,if_neg (fun z=>e (h1.trans z))];exact ⟨h1,h2⟩
theorem KV.put {kvs:List (κ × V)}{vs:List (κ × Value)} (r:KV kvs vs) (k:κ) {y:V}{u:Value} (ry:RelV y u):KV (putK kvs k y) (stored vs k u):=by
 unfold putK stored
 rw [r.any k]
 by_cases e:(vs.any fun kv=>decide (kv.1=k))=true
 · rw [if_pos e,if_pos e];exact r.repl k ry
 · rw [if_neg e,if_neg e];exact Paired.snoc r ⟨rfl,ry⟩
theorem KV.length {kvs:List (κ × V)}{vs:List (κ × Value)} (r:KV kvs vs):kvs.length=vs.length:=Paired.length r
end
theorem kV_is {P:Program}{w:World}{k:Key}{u:Value} (r:RelV (kV k) u):(mixKind P w).is k u=true:=by
 cases k with
 | inl i=>obtain ⟨t,e⟩:=(show ∃ t,u=Value.int i t from r);subst e;exact mixKind_int P w i t
 | inr x=>
  cases x with
  | some x=>obtain ⟨t,e⟩:=(show ∃ t,u=Value.str x t from r);subst e;exact mixKind_str P w x t
  | none=>cases (show u=Value.none from r);rfl
theorem items_are {P:Program}{w:World}:∀ {ks:List Key}{us:List Value},Vals (ks.map kV) us→ItemsAre (mixKind P w) ks us
 | [],_,r=>by rw [List.map_nil] at r;cases r;exact .nil
 | k::ks,_,r=>by
  rw [List.map_cons] at r
  cases r with
  | cons h t=>exact .cons (kV_is h) (items_are t)
abbrev KT (H:Hp):List (List Key × V)→List (List Key × Addr × Value)→Prop:=Paired fun p q=>p.1=q.1∧H q.2.1=some (.tup (p.1.map kV))∧RelV p.2 q.2.2
theorem KT.val {H:Hp}{kvs:List (List Key × V)}{xs:List (List Key × Addr × Value)} (r:KT H kvs xs) (k:List Key):RelO (valV kvs k) ((atKey xs k).map (·.2)):=by
 induction r with
 | nil=>exact True.intro
 | @cons p q ps qs h t ih=>
  obtain ⟨h1,_,h2⟩:=h
  by_cases e:p.1=k
  · have e':q.1=k:=h1.symm.trans e
    have b:atKey (q::qs) k=some q.2:=by simp [atKey,List.find?_cons,e']
    rw [valV_pos e,b];exact h2
  · have e':¬ q.1=k:=fun z=>e (h1.trans z)
    have b:atKey (q::qs) k=atKey qs k:=by simp [atKey,List.find?_cons,e']
    rw [valV_neg e,b];exact ih
theorem KT.repl {H:Hp}{kvs:List (List Key × V)}{xs:List (List Key × Addr × Value)} (r:KT H kvs xs) (k:List Key) {y:V}{u:Value} (ry:RelV y u):
  KT H (kvs.map fun kv=>if kv.1=k then (kv.1,y) else kv) (xs.map (putAt k u)):=by
 induction r with
 | nil=>exact .nil
 | @cons p q ps qs h t ih=>
  rw [List.map_cons,List.map_cons]
  refine .cons ?_ ih
  obtain ⟨h1,h2,h3⟩:=h
  unfold putAt
  by_cases e:p.1=k
  · rw [if_pos e,if_pos (h1.symm.trans e)];exact ⟨h1,h2,ry⟩
  · rw [if_neg e,if_neg (fun z=>e (h1.trans z))];exact ⟨h1,h2,h3⟩
theorem KT.put {H:Hp}{kvs:List (List Key × V)}{xs:List (List Key × Addr × Value)} (r:KT H kvs xs) (k:List Key) {b:Addr}{y:V}{u:Value} (hb:H b=some (.tup (k.map kV))) (ry:RelV y u):
  KT H (putK kvs k y) (storedH xs k b u):=by
 have e:(kvs.any fun kv=>decide (kv.1=k))=(atKey xs k).isSome:=by
  rw [valV_any,(r.val k).isSome_eq,Option.isSome_map]
 unfold putK storedH
 rw [e]
 by_cases q:(atKey xs k).isSome=true
 · rw [if_pos q,if_pos q];exact r.repl k ry
 · rw [if_neg q,if_neg q];exact Paired.snoc r ⟨rfl,hb,ry⟩
theorem KT.keeps {H H':Hp}{kvs:List (List Key × V)}{xs:List (List Key × Addr × Value)} (r:KT H kvs xs) (ht:∀ b ys,H b=some (.tup ys)→H' b=some (.tup ys)):KT H' kvs xs:=
 Paired.mapP r fun _ _ z=>⟨z.1,ht _ _ z.2.1,z.2.2⟩
section
variable {P:Program}{w:World}{H:Hp}{h:Heap}{a:Addr}
theorem rd_of {u:HO} (ok:HOk P w H h) (e:Rd H a u):ObjOk P w H h a u:=e.ok ok
theorem dk_rd {kvs:List (Key × V)} (ok:HOk P w H h) (e:Rd H a (.dK kvs)):kvs.length≤sizeLine∧(a == sysModules)=false∧∃ vs,KV kvs vs∧h.DictOf (mixKind P w) a vs:=
 show ObjOk P w H h a (.dK kvs) from rd_of ok e
theorem dk_of {kvs:List (Key × V)} (ok:HOk P w H h) (e:H a=some (.dK kvs)):kvs.length≤sizeLine∧(a == sysModules)=false∧∃ vs,KV kvs vs∧h.DictOf (mixKind P w) a vs:=dk_rd ok (.inl e)
theorem key_of {ks:List Key} (ok:HOk P w H h) (e:H a=some (.tup (ks.map kV))):(tupleKind (mixKind P w)).is h ks a:=by
 obtain ⟨_,its,r,o,h1,h2,n,h3⟩:=(show ObjOk P w H h a (.tup (ks.map kV)) from ok a _ e)
 exact ⟨o,its.toArray,n,h1,h2,h3,by simpa using items_are r⟩
theorem dt_rd {kvs:List (List Key × V)} (ok:HOk P w H h) (e:Rd H a (.dT kvs)):kvs.length≤sizeLine∧(a == sysModules)=false∧
  ∃ xs,KT H kvs xs∧h.DictOfH (tupleKind (mixKind P w)) a xs:=by
 obtain ⟨z,y,xs,r,o,es,ep,h1,h2,h3,h4,h5⟩:=(show ObjOk P w H h a (.dT kvs) from rd_of ok e)
 refine ⟨z,y,xs,r,o,es,ep,h1,h2,h3,h4,fun x hx=>?_,h5⟩
 have all:∀ {l:List (List Key × V)}{m:List (List Key × Addr × Value)},KT H l m→∀ x∈m,(tupleKind (mixKind P w)).is h x.1 x.2.1:=by
  intro l m q
  induction q with
  | nil=>intro x hx;exact nomatch hx
  | @cons p q ps qs hq t ih=>
   intro x hx
   rcases List.mem_cons.mp hx with e | hx
   · subst e
     exact key_of ok (by rw [← hq.1];exact hq.2.1)
   · exact ih x hx
 exact all r x hx
theorem dt_of {kvs:List (List Key × V)} (ok:HOk P w H h) (e:H a=some (.dT kvs)):kvs.length≤sizeLine∧(a == sysModules)=false∧
  ∃ xs,KT H kvs xs∧h.DictOfH (tupleKind (mixKind P w)) a xs:=dt_rd ok (.inl e)
end
def DGet (H:Hp) (a:Addr) (y:V) (r:Option V):Prop:=
 (∃ kvs k,Rd H a (.dK kvs)∧y=kV k∧r=valV kvs k)∨∃ kvs k b,Rd H a (.dT kvs)∧y=.ref b∧H b=some (.tup (k.map kV))∧r=valV kvs k
def DPut (H:Hp) (a:Addr) (y v:V) (H':Hp):Prop:=
 (∃ kvs k,H a=some (.dK kvs)∧y=kV k∧kvs.length < sizeLine∧H'=upd H a (.dK (putK kvs k v)))∨
 ∃ kvs k b,H a=some (.dT kvs)∧y=.ref b∧H b=some (.tup (k.map kV))∧kvs.length < sizeLine∧H'=upd H a (.dT (putK kvs k v))
theorem DGet.k {H:Hp}{a:Addr}{kvs:List (Key × V)}{k:Key} (e:H a=some (.dK kvs)):DGet H a (kV k) (valV kvs k):=.inl ⟨kvs,k,.inl e,rfl,rfl⟩
theorem DPut.k {H:Hp}{a:Addr}{kvs:List (Key × V)}{k:Key}{v:V} (e:H a=some (.dK kvs)) (hl:kvs.length < sizeLine):DPut H a (kV k) v (upd H a (.dK (putK kvs k v))):=.inl ⟨kvs,k,e,rfl,hl,rfl⟩
section
variable {X:Cx}{pins:List (Addr × Obj)}{σ:St}{H:Hp}{s:Shared}{a:Addr}{y v:V}{u r:Value}{o:Option V}{A:Around}{E:Value→Shared→Prop}
theorem Inv.big (I:Inv X pins σ H s):sysModules < s.heap.objs.size:=by
 have h:mainGlobals < s.heap.objs.size:=(I.mod.glob.keeps I.bk).lt
 exact Nat.lt_trans (by decide) h
theorem d_getItem {Q:Value→Shared→Prop} (hu:A.units+1 < cLine) (I:Inv X pins σ H s) (g:DGet H a y (some v)) (ry:RelV y u) (h:∀ w' s',Inv X pins σ H s'→RelV v w'→Q w' s'):
  wpAny (model X.prog X.w) A (getItem (.ref a) u) Q E s:=by
 rcases g with ⟨kvs,k,e,ey,l⟩ | ⟨kvs,k,b,e,ey,eb,l⟩
 · subst ey
   obtain ⟨z,hd,vs,rel,dd⟩:=dk_rd I.hok e
   obtain ⟨w',hw,rw'⟩:=RelO.some_of (v:=v) (o:=valueAt vs k) (by rw [l];exact rel.val k)
   exact wpAny_getItem_of (kV_is ry) dd.mapOf hw (h w' _ (I.tok _) rw')
 · subst ey
   cases (show u=Value.ref b from ry)
   obtain ⟨z,hd,xs,rel,dd⟩:=dt_rd I.hok e
   obtain ⟨w',hw,rw'⟩:=RelO.some_of (v:=v) (o:=(atKey xs k).map (·.2)) (by rw [l];exact rel.val k)
   obtain ⟨p,hp,hp2⟩:=Option.map_eq_some_iff.mp hw
   refine wpAny_getItem_heap (tupleKind_room_in1 hu) (key_of I.hok eb) dd hp ?_
   rw [hp2]
   exact h w' _ (I.tok _) rw'
theorem d_notIn {Q:Value→Shared→Prop} (hu:A.units+1 < cLine) (I:Inv X pins σ H s) (g:DGet H a y o) (ry:RelV y u) (h:∀ s',Inv X pins σ H s'→Q (.bool (!o.isSome)) s'):
  wpAny (model X.prog X.w) A (compareOp .NotIn u (.ref a)) Q E s:=by
 rcases g with ⟨kvs,k,e,ey,l⟩ | ⟨kvs,k,b,e,ey,eb,l⟩
 · subst ey
   obtain ⟨z,hd,vs,rel,dd⟩:=dk_rd I.hok e
   refine wpAny_notIn_of (kV_is ry) hd dd.mapOf ?_
   rw [← (rel.val k).isSome_eq, ← l]
   exact h _ (I.tok _)
 · subst ey
   cases (show u=Value.ref b from ry)
   obtain ⟨z,hd,xs,rel,dd⟩:=dt_rd I.hok e
   refine wpAny_notIn_heap (tupleKind_room_in1 hu) (key_of I.hok eb) hd dd ?_
   have q:=(rel.val k).isSome_eq
   rw [Option.isSome_map] at q
   rw [← q, ← l]
   exact h _ (I.tok _)
theorem d_write {h':Heap}{t':Nat}{ob:HO} (I:Inv X pins σ H s) (mu:Mut (H a)) (hs:Heap.SameBut a s.heap h') (he:∃ q,h'.get? a=some q) (new:ObjOk X.prog X.w (upd H a ob) h' a ob):
  Inv X pins σ (upd H a ob) { s with heap:=h',toks:=t' }:=
 I.write (x:=a) (e:=a) mu (.inl rfl) (fun b q hb z=>(hs.2 b hb).trans z) he new
theorem dk_new {P:Program}{w:World}{H':Hp}{h':Heap}{kvs:List (Key × V)}{vs:List (Key × Value)} (z:kvs.length≤sizeLine) (hd:(a == sysModules)=false) (rel:KV kvs vs) (dd:h'.DictOf (mixKind P w) a vs):
  ObjOk P w H' h' a (.dK kvs):=⟨z,hd,vs,rel,dd⟩
theorem d_setItem {H':Hp}{Q:Unit→Shared→Prop} (hu:A.units+1 < cLine) (I:Inv X pins σ H s) (g:DPut H a y v H') (ry:RelV y u) (rv:RelV v r) (h:∀ s',Inv X pins σ H' s'→Q () s'):
  wpAny (model X.prog X.w) A (setItem (.ref a) u r) Q E s:=by
 rcases g with ⟨kvs,k,e,ey,l,eH⟩ | ⟨kvs,k,b,e,ey,eb,l,eH⟩
 · subst ey eH
   obtain ⟨z,hd,vs,rel,dd⟩:=dk_of I.hok e
   have hz:vs.length≤sizeLine:=by rw [← rel.length];exact z
   have hl:(putK kvs k v).length≤sizeLine:=by have:=length_putK kvs k v;omega
   refine wpAny_setItem_pairs (hsz:=hz) (kV_is ry) dd fun h' dd' hs=>h _ ?_
   have he:∃ q,h'.get? a=some q:=let ⟨q,_,_,hq,_⟩:=dd';⟨q,hq⟩
   exact d_write I (by rw [e];exact True.intro) hs he (dk_new hl hd (rel.put k rv) dd')
 · subst ey eH
   cases (show u=Value.ref b from ry)
   obtain ⟨z,hd,xs,rel,dd⟩:=dt_of I.hok e
   have hz:xs.length≤sizeLine:=by rw [← Paired.length rel];exact z
   have hl:(putK kvs k v).length≤sizeLine:=by have:=length_putK kvs k v;omega
   refine wpAny_setItem_heap (hsz:=hz) (tupleKind_room_in1 hu) (key_of I.hok eb) dd fun h' dd' hs=>h _ ?_
   obtain ⟨q,es,ep,hq,h2,h3,h4,_,h5⟩:=dd'
   refine d_write I (by rw [e];exact True.intro) hs ⟨q,hq⟩ ⟨hl,hd,_,(rel.put k eb rv).keeps fun c ys ec=>?_,q,es,ep,hq,h2,h3,h4,h5⟩
   rw [upd_ne (ne_of ec e (fun z=>nomatch z))]
   exact ec
end
def NoSl (i:Expr):Prop:=∀ ov iv,subscripted i false ov iv=operate [ov,iv] (getItem ov iv)
theorem subD_of {prog:Program}{w:World}{A:Around}{E:Value→Shared→Prop}{s:Shared}{env:Env}{value slice:Expr}{pos:Pos}{T id:String}{Q:Value→Shared→Prop}
  (hl:typeLookup (.type T) "__getitem__"=pure (some (.builtin id))) (hs:NoSl slice)
  (h:wpAny (model prog w) A (eval value env) (fun o s₁=>wpAny (model prog w) A (eval slice env) (fun i s₂=>s₂.TypeIs o T∧wpAny (model prog w) A (getItem o i) Q E s₂) E s₁) E s):
  wpAny (model prog w) A (eval (.Subscript value slice pos) env) Q E s:=by
 refine Subscript_ (wpAny_mono h (fun o s₁ h₁=>wpAny_mono h₁ (fun i s₂ h₂=>?_) fun _ _ x=>x) fun _ _ x=>x)
 obtain ⟨hT,h₂⟩:=h₂
 unfold subscriptTail
 refine wpAny_bind ?_
 rw [getitemInPython_of_ne hT.not_modules]
 refine wpAny_bind (wpAny_specialOf hT hl ?_)
 have fin:wpAny (model prog w) A (subscripted slice false o i) (fun r s₃=>wpAny (model prog w) A (letTemporaryGo value o r >>= fun _=>pure r) Q E s₃) E s₂:=by
  rw [hs o i]
  exact wpAny_operating (wpAny_mono h₂ (fun r s₃ h₃=>wpAny_bind (wpAny_letTemporaryGo (wpAny_pure h₃))) fun _ _ x=>x)
 first
  | exact wpAny_pure (wpAny_bind fin)
  | exact wpAny_bind (wpAny_pure (wpAny_bind fin))
  | exact wpAny_bind fin
theorem dict_typeIs {X:Cx}{pins:List (Addr × Obj)}{σ:St}{H:Hp}{s:Shared}{a:Addr}{y:V}{o:Option V} (I:Inv X pins σ H s) (g:DGet H a y o):s.TypeIs (.ref a) "dict":=by
 rcases g with ⟨kvs,k,e,_,_⟩ | ⟨kvs,k,b,e,_,_,_⟩
 · obtain ⟨_,_,vs,_,dd⟩:=dk_rd I.hok e
   exact dd.typeIs
 · obtain ⟨_,_,xs,_,dd⟩:=dt_rd I.hok e
   exact dd.typeIs
def tDGet (td ty:TE):TE:=fun σ H Q=>td σ H fun x H1=>ty σ H1 fun y H2=>∃ a v,x=.ref a∧DGet H2 a y (some v)∧Q v H2
def tDNotIn (ty td:TE):TE:=fun σ H Q=>ty σ H fun y H1=>td σ H1 fun x H2=>∃ a o,x=.ref a∧DGet H2 a y o∧Q (.bl (!o.isSome)) H2
def sDPut (td ty tv:TE):TS:=fun D σ H=>tv σ H fun v H1=>td σ H1 fun x H2=>ty σ H2 fun y H3=>∃ a H4,x=.ref a∧DPut H3 a y v H4∧D.nx σ H4
section
variable {X:Cx}{o i e value:Expr}{pos pos' tpos:Pos}{td ty tv:TE}
theorem pe_dget (hu:X.A.units+1 < cLine) (ho:PE X o td) (hi:PE X i ty) (hs:NoSl i):PE X (.Subscript o i pos) (tDGet td ty):=by
 intro pins s σ H Q I h
 refine subD_of PySem.F.slot_dict_getitem.lookup hs (thn (ho pins s σ H _ I h) fun u s1 ⟨x,H1,I1,rx,q1⟩=>thn (hi pins s1 σ H1 _ I1 q1) fun iv s2 ⟨y,H2,I2,ry,a,v,ex,g,q2⟩=>?_)
 subst ex
 obtain rfl:u=Value.ref a:=rx
 exact ⟨dict_typeIs I2 g,d_getItem hu I2 g ry fun w' s3 I3 rw'=>⟨v,H2,I3,rw',q2⟩⟩
theorem pc_dnotin (hu:X.A.units+1 < cLine) (hi:PE X i ty) (ho:PE X o td):PC X .NotIn i o (tDNotIn ty td):=by
 intro pins s σ H Q I h
 refine thn (hi pins s σ H _ I h) fun iv s1 ⟨y,H1,I1,ry,q1⟩=>thn (ho pins s1 σ H1 _ I1 q1) fun u s2 ⟨x,H2,I2,rx,a,ov,ex,g,q2⟩=>?_
 subst ex
 obtain rfl:u=Value.ref a:=rx
 exact d_notIn hu I2 g ry fun s3 I3=>⟨.bl (!ov.isSome),H2,I3,rfl,q2⟩
theorem ps_dput (hu:X.A.units+1 < cLine) (ho:PE X o td) (hi:PE X i ty) (hv:PE X value tv) (hs:swapsWith value (some (.Subscript o i pos')) pos.line X.env=pure false):
  PS X (.Assign [.Subscript o i pos'] value pos) (sDPut td ty tv):=by
 intro pins s σ H D I h
 refine wpAny_Assign_Subscript (thn (hv pins s σ H _ I h) fun r s1 ⟨v,H1,I1,rv,q1⟩=>thn (ho pins s1 σ H1 _ I1 q1) fun u s2 ⟨x,H2,I2,rx,q2⟩=>thn (hi pins s2 σ H2 _ I2 q2) fun iv s3 ⟨y,H3,I3,ry,a,H4,ex,g,q3⟩=>?_) hs
 subst ex
 obtain rfl:u=Value.ref a:=rx
 exact d_setItem hu I3 g ry rv fun s4 I4=>⟨σ,H4,I4,q3⟩
end
theorem dk_empty {P:Program}{w:World}{H:Hp} (h:Heap) (hb:sysModules < h.objs.size):ObjOk P w H (h.push { cls:=.type "dict",data:=.dict #[] }) h.objs.size (.dK []):=
 ⟨Nat.zero_le _,beq_eq_false_iff_ne.mpr (Ne.symm (Nat.ne_of_lt hb)),[],.nil,Heap.DictOf.new h⟩
def tPairs:List (TE × TE)→St→Hp→(List (V × V)→Hp→Prop)→Prop
 | [],_,H,Q=>Q [] H
 | (tk,tv)::r,σ,H,Q=>tk σ H fun x H1=>tv σ H1 fun y H2=>tPairs r σ H2 fun ps H3=>Q ((x,y)::ps) H3
abbrev VV:List (V × V)→List (Value × Value)→Prop:=Paired fun p q=>RelV p.1 q.1∧RelV p.2 q.2
def PPs (X:Cx) (pos:Pos) (keys:List (Option Expr)) (values:List Expr) (trs:List (TE × TE)):Prop:=
 ∀ (pins:List (Addr × Obj)) (s:Shared) (σ:St) (H:Hp) (Q:List (V × V)→Hp→Prop),Inv X pins σ H s→tPairs trs σ H Q→
  wpAny (model X.prog X.w) X.A (evalPairs (pairTrees keys values X.env pos)) (fun vs s'=>∃ ps H',Inv X pins σ H' s'∧VV ps vs∧Q ps H') X.xe s
theorem pps_nil {X:Cx}{pos:Pos}:PPs X pos [] [] []:=fun pins s σ H Q I h=>pairTrees_nil_walk ⟨[],H,I,.nil,h⟩
theorem pps_cons {X:Cx}{pos:Pos}{k v:Expr}{ks:List (Option Expr)}{vs:List Expr}{tk tv:TE}{trs:List (TE × TE)} (hk:PE X k tk) (hv:PE X v tv) (hr:PPs X pos ks vs trs):
  PPs X pos (some k::ks) (v::vs) ((tk,tv)::trs):=fun pins s σ H Q I h=>
 pairTrees_cons_walk (thn (hk pins s σ H _ I h) fun u s1 ⟨x,H1,I1,rx,q1⟩=>thn (hv pins s1 σ H1 _ I1 q1) fun w2 s2 ⟨y,H2,I2,ry,q2⟩=>
  thn (hr pins s2 σ H2 _ I2 q2) fun ws s3 ⟨ps,H3,I3,rel,q3⟩=>⟨(x,y)::ps,H3,I3,.cons ⟨rx,ry⟩ rel,q3⟩)
def mergeK (kvs more:List (Key × V)):List (Key × V):=more.foldl (fun acc kv=>putK acc kv.1 kv.2) kvs
theorem KV.merge:∀ {more:List (Key × V)}{rs:List (Key × Value)}{kvs:List (Key × V)}{vs:List (Key × Value)},KV more rs→KV kvs vs→KV (mergeK kvs more) (merged vs rs):=by
 intro more rs kvs vs r
 unfold KV at r
 induction r generalizing kvs vs with
 | nil=>intro q;exact q
 | @cons p q ps qs h t ih=>
  intro r0
  have e:KV (putK kvs p.1 p.2) (stored vs q.1 q.2):=by
   have:=r0.put p.1 h.2
   rw [← h.1];exact this
  exact ih e
theorem length_mergeK:∀ (more kvs:List (Key × V)),(mergeK kvs more).length≤kvs.length+more.length
 | [],kvs=>by show kvs.length≤kvs.length+0;omega
 | p::r,kvs=>by
  have h1:=length_mergeK r (putK kvs p.1 p.2)
  have h2:=length_putK kvs p.1 p.2
  show (mergeK (putK kvs p.1 p.2) r).length≤_
  rw [List.length_cons];omega
theorem carries_of {P:Program}{w:World}:∀ {kvs:List (Key × V)}{ws:List (Value × Value)},VV (kvs.map fun kv=>(kV kv.1,kv.2)) ws→∃ rs,Carries (mixKind P w) ws rs∧KV kvs rs
 | [],_,r=>by rw [List.map_nil] at r;cases r;exact ⟨[],True.intro,.nil⟩
 | p::kvs,_,r=>by
  rw [List.map_cons] at r
  cases r with
  | @cons a b as bs h t=>
   obtain ⟨rs,c,q⟩:=carries_of (P:=P) (w:=w) t
   obtain ⟨b1,b2⟩:=b
   exact ⟨(p.1,b2)::rs,⟨kV_is h.1,rfl,c⟩,.cons ⟨rfl,h.2⟩ q⟩
def tDisp (trs:List (TE × TE)):TE:=fun σ H Q=>∀ p,H p=none→tPairs trs σ (upd H p (.dK [])) fun ps H2=>H2 p=some (.dK [])∧∃ kvs:List (Key × V),ps=kvs.map (fun kv=>(kV kv.1,kv.2))∧kvs.length≤15∧Q (.ref p) (upd H2 p (.dK (mergeK [] kvs)))
theorem pe_disp {X:Cx}{pos:Pos}{keys:List (Option Expr)}{values:List Expr}{trs:List (TE × TE)} (h:PPs X pos keys values trs) (hall:keys.all (·.isSome)=true) (hl:keys.length=values.length) (h0:keys≠[])
  (h15:keys.length≤15):PE X (.Dict keys values pos) (tDisp trs):=by
 intro pins s σ H Q I q
 have hn:=I.hok.fresh (Nat.le_refl s.heap.objs.size)
 have I1:=I.laid (a:=s.heap.objs.size) (o:=.dK []) (h':=s.heap.push { cls:=.type "dict",data:=.dict #[] }) (t':=s.toks) (fun _ _ q=>Heap.get?_push_of_some _ q) (Nat.le_refl _) (dk_empty s.heap I.big)
 refine wpAny_Dict_walk (knd:=mixKind X.prog X.w) hall hl h0 h15 (thn (h pins _ σ _ _ I1 (q _ hn)) fun ws s2 ⟨ps,H2,I2,rel,e,kvs,ep,lk,q2⟩=>?_)
 subst ep
 obtain ⟨rs,c,rk⟩:=carries_of (P:=X.prog) (w:=X.w) rel
 obtain ⟨z,hd,vs0,r0,dd⟩:=dk_of I2.hok e
 cases r0
 refine ⟨rs,c,dd,fun h' dd' hs=>⟨.ref s.heap.objs.size,_,?_,rfl,q2⟩⟩
 have hz:(mergeK [] kvs).length≤sizeLine:=by
  have h1:=length_mergeK kvs []
  rw [List.length_nil] at h1
  rw [sizeLine_eq];omega
 have he:∃ q,h'.get? s.heap.objs.size=some q:=let ⟨q,_,_,hq,_⟩:=dd';⟨q,hq⟩
 exact d_write I2 (by rw [e];exact True.intro) hs he (dk_new hz hd (rk.merge .nil) dd')
structure M1 (X:Cx) (o:Expr) (m:Str) (apos:Pos) (e:Expr) (cpos:Pos):Prop where
 base:attributeBase o m X.env (eval o X.env)=eval o X.env
 few:((backTo cpos (starEach [e] X.env)).all (fun x=> !x.1) && (backToKw cpos (keywordEach [] X.env)).all (fun x=>x.1.isSome)
  && decide (([e]:List Expr).length+([]:List Keyword).length+(if ([]:List Keyword).isEmpty then 0 else 1) < 30))=true
 line:(apos.endLine == cpos.line)=true
 trees:backTo cpos (starEach [e] X.env)=[(false,eval e X.env)]
def IsD (H:Hp) (a:Addr):Prop:=(∃ kvs,Rd H a (.dK kvs))∨∃ kvs,Rd H a (.dT kvs)
theorem isD_at {X:Cx}{pins:List (Addr × Obj)}{σ:St}{H:Hp}{s:Shared}{a:Addr} (I:Inv X pins σ H s) (d:IsD H a):
  s.TypeIs (.ref a) "dict"∧(∀ b,Value.ref a=.ref b→∃ ob,s.heap.get? b=some ob∧ob.dict=none)∧(a == sysModules)=false:=by
 rcases d with ⟨kvs,e⟩ | ⟨kvs,e⟩
 · obtain ⟨_,hd,vs,_,dd⟩:=dk_rd I.hok e
   refine ⟨dd.typeIs,fun b q=>?_,hd⟩
   cases q
   obtain ⟨ob,_,_,h1,h2,_⟩:=dd
   exact ⟨ob,h1,h2.2.1⟩
 · obtain ⟨_,hd,xs,_,dd⟩:=dt_rd I.hok e
   refine ⟨dd.typeIs,fun b q=>?_,hd⟩
   cases q
   obtain ⟨ob,_,_,h1,h2,_⟩:=dd
   exact ⟨ob,h1,h2.2.1⟩
section
variable {X:Cx}{pins:List (Addr × Obj)}{σ:St}{H:Hp}{s:Shared}{a:Addr}{y d:V}{u r:Value}{o:Option V}{A:Around}{E:Value→Shared→Prop}
theorem d_get1 {Q:Value→Shared→Prop} (hu:A.units+1 < cLine) (I:Inv X pins σ H s) (g:DGet H a y o) (ry:RelV y u) (h:∀ w' s',Inv X pins σ H s'→RelV (o.getD .non) w'→Q w' s'):
  wpAny (model X.prog X.w) A (call (.builtin "dict.get") [.ref a,u]) Q E s:=by
 rcases g with ⟨kvs,k,e,ey,l⟩ | ⟨kvs,k,b,e,ey,eb,l⟩
 · subst ey
   obtain ⟨z,hd,vs,rel,dd⟩:=dk_rd I.hok e
   refine call_meetsIn PySem.F.slot_dict_get dd.typeIs PySem.F.entry_dict_get (PySem.F.args_dict_get_2 _ _) (meets_dict_get (mixKind X.prog X.w) a (kV_is ry) hd) ⟨_,dd.mapOf,h _ _ (I.tok _) ?_⟩
   rw [l]
   exact (rel.val k).getD rfl
 · subst ey
   cases (show u=Value.ref b from ry)
   obtain ⟨z,hd,xs,rel,dd⟩:=dt_rd I.hok e
   refine call_meetsIn PySem.F.slot_dict_get dd.typeIs PySem.F.entry_dict_get (PySem.F.args_dict_get_2 _ _) (meetsH_dict_get (tupleKind (mixKind X.prog X.w)) a b hd) ⟨tupleKind_room_in1 hu,k,xs,key_of I.hok eb,dd,h _ _ (I.tok _) ?_⟩
   rw [l]
   exact (rel.val k).getD rfl
end
def tDGet1 (td ty:TE):TE:=fun σ H Q=>td σ H fun x H1=>∃ a,x=.ref a∧IsD H1 a∧ty σ H1 fun y H2=>∃ o,DGet H2 a y o∧Q (o.getD .non) H2
section
variable {X:Cx}{o e f:Expr}{apos cpos:Pos}{td ty tx:TE}
theorem pe_dget1 (hu:X.A.units+1 < cLine) (ho:PE X o td) (he:PE X e ty) (m:M1 X o "get" apos e cpos):PE X (.Call (.Attribute o "get" apos) [e] [] cpos) (tDGet1 td ty):=by
 intro pins s σ H Q I h
 refine wpAny_Call_method m.base m.few m.line PySem.F.plainAttrs_dict PySem.F.slot_dict_get PySem.F.type_dict_get (thn (ho pins s σ H _ I h) fun u s1 ⟨x,H1,I1,rx,a,ex,d,q1⟩=>?_)
 subst ex
 obtain rfl:u=Value.ref a:=rx
 obtain ⟨t1,t2,_⟩:=isD_at I1 d
 refine ⟨t1,t2,?_⟩
 rw [m.trees]
 refine Calls.callWith_builtin rfl (Calls.evalArgs_plain (Calls.spliced_cons (thn (he pins s1 σ H1 _ I1 q1) fun iv s2 ⟨y,H2,I2,ry,ov,g,q2⟩=>Calls.spliced_nil ?_)))
 exact d_get1 hu I2 g ry fun w' s3 I3 rw'=>⟨_,H2,I3,rw',q2⟩
end
section
variable {κ:Type} [DecidableEq κ]
theorem nd_snoc:∀ {l:List κ}{k:κ},l.Nodup→¬ k∈l→(l++[k]).Nodup
 | [],k,_,_=>by simp
 | a::r,k,h,hk=>by
  obtain ⟨h1,h2⟩:=List.nodup_cons.mp h
  show (a::(r++[k])).Nodup
  refine List.nodup_cons.mpr ⟨fun m=>?_,nd_snoc h2 fun m=>hk (List.mem_cons.mpr (Or.inr m))⟩
  rcases List.mem_append.mp m with q | q
  · exact h1 q
  · exact hk (List.mem_cons.mpr (Or.inl (List.mem_singleton.mp q).symm))
end
theorem dk_at {P:Program}{w:World}{H:Hp}{h h':Heap} (e:h'.get? h.objs.size=some { cls:=.type "dict",data:=.dict #[] }) (hb:sysModules < h.objs.size):ObjOk P w H h' h.objs.size (.dK []):=by
 have x:ObjOk P w H (h.push { cls:=.type "dict",data:=.dict #[] }) h.objs.size (.dK []):=dk_empty h hb
 obtain ⟨z,y,vs,r,dd⟩:=x
 exact ⟨z,y,vs,r,dd.at fun o q=>by rw [Heap.get?_push_size _ rfl] at q;cases q;exact e⟩
section
variable {X:Cx}
def tRng (ta:TA):TE:=fun σ H Q=>ta σ H fun vs H1=>∃ j:Int,vs=[.int j]∧∀ p,H1 p=none→Q (.ref p) (upd H1 p (.rng 0 j))
theorem pe_rng {a:Expr}{ta:TA}{p pos:Pos} (hg:Gl X "range") (hm:X.mg "range"=none) (ha:PA X [a] ta) (hs:starEach [a] X.env=[(false,eval a X.env)]:=by rfl):PE X (.Call (.Name "range" p) [a] [] pos) (tRng ta):=by
 intro pins s σ H Q I h
 refine Call_ (ld_blt I hg hm boot_range (PyProof.Rows.callWith_type1 (thn (ha pos pins s σ H _ I h) fun us s1 ⟨vs,H1,I1,r1,q1⟩=>?_) hs rfl))
 obtain ⟨j,e,q⟩:=q1
 subst e
 cases r1 with
 | cons r rr=>
  cases rr
  obtain ⟨t,rfl⟩:=r
  refine call_range_1 ?_
  exact ⟨.ref s1.heap.objs.size,_,I1.laid (o:=.rng 0 j) (fun b u e=>Heap.get?_push_of_some _ e) (Nat.le_refl _) ⟨_,_,_,Heap.get?_push_size _ rfl⟩,rfl,q _ (I1.hok.fresh (Nat.le_refl _))⟩
def rListR (xs:List V) (H:Hp) (Q:VK):Prop:=∃ (r:Addr) (n:Nat),xs=[.ref r]∧H r=some (.rng 0 n)∧n≤1000000∧∀ l,H l=none→Q (.ref l) (upd H l (.lst ((List.range n).map fun (i:Nat)=>V.int i)))
theorem call_listRng (hc:X.calm=true):CallR X (.type "list") (fun xs H Q=>Wr (rListR xs H Q)):=by
 intro pins s σ H xs us Q I r h
 obtain ⟨ra,n,rfl,hr,hn,q⟩:=h.get
 obtain ⟨u,rfl,ru⟩:=r.one
 cases ru
 obtain ⟨t,tu,tv,e⟩:=(show ObjOk X.prog X.w H s.heap ra (.rng 0 n) from I.hok ra _ hr)
 have hsz:Builtin.Range.rangeSize 0 (n:Int) 1=(n:Int):=by rw [rangeSize_one];split <;> omega
 refine call_list_range (n:=n) (I.ok.hd hc) e (small_one (by omega) (by omega) (by omega) (by omega)) hsz (by omega) fun h' tk acc c hk hS hacc=>?_
 refine ⟨.ref s.heap.objs.size,_,I.laid (t':=tk) (o:=.lst ((List.range n).map fun (i:Nat)=>V.int i)) hk (Nat.le_refl _) ?_,rfl,q _ (I.hok.fresh (Nat.le_refl _))⟩
 have hl:sizeLine=16777216:=sizeLine_eq
 refine ⟨by rw [List.length_map,List.length_range];omega,acc.toList,c,?_,by simpa using hS⟩
 have gen:∀ (k:Nat) (l:List Value),l.length=n - k→(∀ j v,l[j]?=some v→∃ t,v=Value.int ((0:Int)+((k+j:Nat):Int) * 1) t)→k≤n→Vals ((List.range' k (n - k)).map fun (i:Nat)=>V.int i) l:=by
  intro k l
  induction l generalizing k with
  | nil=>
   intro hl _ _
   have:n - k=0:=by simpa using hl.symm
   rw [this]
   exact .nil
  | cons v l ih=>
   intro hl hv hk'
   have h1:n - k=(n - (k+1))+1:=by simp at hl;omega
   rw [h1,List.range'_succ,List.map_cons]
   refine .cons ?_ (ih (k+1) (by simp at hl;omega) (fun j v' hj=>?_) (by simp at hl;omega))
   · obtain ⟨t,e⟩:=hv 0 v rfl
     exact ⟨t,by rw [e];simp⟩
   · obtain ⟨t,e⟩:=hv (j+1) v' (by simpa using hj)
     refine ⟨t,?_⟩
     rw [e]
     congr 3
     omega
 have:=gen 0 acc.toList (by simpa using hacc.1) (fun j v hj=>by
  obtain ⟨t,e⟩:=hacc.2 j v (by simpa using hj)
  exact ⟨t,by rw [e];simp⟩) (Nat.zero_le _)
 rw [Nat.sub_zero, ← List.range_eq_range'] at this
 exact this
theorem comp_range {lo:Int}{n:Nat}{ix:List Nat}{te:TE}{σ:St}{H:Hp}{Q:VK}
  (h:∀ D,H D=none→∃ Pv:Nat→List V→Hp→Prop,Pv 0 [] (upd H D (.lst []))∧(∀ i ys H2,Pv i ys H2→H2 D=some (.lst ys)∧ys.length < sizeLine)∧
   (∀ i ys H2,i < n→Pv i ys H2→∀ Q':VK,(∀ y H3,H3 D=some (.lst ys)→Pv (i+1) (ys++[y]) (upd H3 D (.lst (ys++[y])))→Q' y H3)→te (blkSt ix (some (.int (lo+i))) σ) H2 Q')∧∀ ys H2,Pv n ys H2→Q (.ref D) H2):
  ∀ D,H D=none→∃ W:Nat→Nat→List V→Hp→Prop,(∃ m,W 0 m [] (upd H D (.lst [])))∧
   ∀ i m ys H2,W i m ys H2→H2 D=some (.lst ys)∧(((Itr lo n).stop i H2∧Q (.ref D) H2)∨((Itr lo n).go i H2∧ys.length < sizeLine∧∀ x H',(Itr lo n).yld i H2 x H'→te (blkSt ix (some x) σ) H' fun y H3=>
    H3 D=some (.lst ys)∧∃ m',m' < m∧W (i+1) m' (ys++[y]) (upd H3 D (.lst (ys++[y]))))):=by
 intro D hD
 obtain ⟨Pv,p0,pl,ps,pq⟩:=h D hD
 refine ⟨fun i m ys H2=>m=n - i∧i≤n∧Pv i ys H2∧True,⟨n,by simp,Nat.zero_le _,p0,trivial⟩,?_⟩
 rintro i m ys H2 ⟨rfl,hi,p,_⟩
 obtain ⟨e1,e2⟩:=pl i ys H2 p
 refine ⟨e1,?_⟩
 by_cases hlt:i < n
 · refine .inr ⟨hlt,e2,fun x H' y=>?_⟩
   obtain ⟨e,y⟩:=y
   subst e y
   exact ps i ys _ hlt p _ fun y H3 e3 p3=>⟨e3,n - (i+1),by omega,rfl,hlt,p3,trivial⟩
 · have e:i=n:=by omega
   subst e
   exact .inl ⟨Nat.le_refl _,pq ys H2 p⟩
end
open PySem.W
end L2
namespace L2
open PySem PySem.Spec PyProof.Rows
abbrev Ints (H:Hp) (a:Addr) (ns:List Int):Prop:=H a=some (.lst (ns.map V.int))
def cutL {α:Type} (xs:List α) (lo hi:Option Int):List α:=(xs.drop (HT.sIx xs.length 0 lo)).take (HT.sIx xs.length xs.length hi - HT.sIx xs.length 0 lo)
theorem cutV_int (ns:List Int) (lo hi:Option Int):cutV (ns.map V.int) lo hi=(cutL ns lo hi).map V.int:=by
 unfold cutV cutL
 simp [List.map_drop,List.map_take]
theorem cutL_to {α:Type} (xs:List α) (k:Nat):cutL xs none (some (k:Int))=xs.take k:=by
 unfold cutL
 rw [HT.sIx_nat,HT.sIx_none]
 simp only [List.drop_zero,Nat.sub_zero]
 by_cases h:k≤xs.length
 · rw [Nat.min_eq_left h]
 · rw [Nat.min_eq_right (by omega),List.take_of_length_le (Nat.le_refl _),List.take_of_length_le (by omega)]
theorem cutL_from {α:Type} (xs:List α) (k:Nat):cutL xs (some (k:Int)) none=xs.drop k:=by
 unfold cutL
 rw [HT.sIx_nat,HT.sIx_none]
 by_cases h:k≤xs.length
 · rw [Nat.min_eq_left h,List.take_of_length_le (by rw [List.length_drop];exact Nat.le_refl _)]
 · rw [Nat.min_eq_right (by omega),List.drop_of_length_le (Nat.le_refl _),List.drop_of_length_le (by omega)];simp
theorem cutL_ft {α:Type} (xs:List α) (j k:Nat) (h:j≤k):cutL xs (some (j:Int)) (some (k:Int))=(xs.drop j).take (k - j):=by
 unfold cutL
 rw [HT.sIx_nat,HT.sIx_nat]
 by_cases h1:k≤xs.length
 · rw [Nat.min_eq_left h1,Nat.min_eq_left (by omega)]
 · rw [Nat.min_eq_right (show xs.length≤k by omega)]
   by_cases h2:j≤xs.length
   · rw [Nat.min_eq_left h2,List.take_of_length_le (by rw [List.length_drop];exact Nat.le_refl _),List.take_of_length_le (by rw [List.length_drop];omega)]
   · rw [Nat.min_eq_right (by omega),List.drop_of_length_le (Nat.le_refl _),List.drop_of_length_le (by omega)];simp
theorem cutL_len {α:Type} (xs:List α) (lo hi:Option Int):(cutL xs lo hi).length≤xs.length:=by
 unfold cutL
 rw [List.length_take,List.length_drop]
 omega
theorem atI_int {ns:List Int}{j:Nat} (h:j < ns.length):atI (ns.map V.int) (j:Int)=some (V.int (ns[j]'h)):=atI_nat (by rw [List.getElem?_map,List.getElem?_eq_getElem h];rfl)
theorem get_int {ns:List Int}{i:Nat}{y:V} (h:(ns.map V.int)[i]?=some y):∃ z,y=V.int z∧ns[i]?=some z:=by
 rw [List.getElem?_map] at h
 cases e:ns[i]? with
 | none=>rw [e] at h;cases h
 | some z=>rw [e] at h;exact ⟨z,(Option.some.inj h).symm,rfl⟩
theorem Same.upd {H H1:Hp}{a:Addr}{o:HO} (s:Same H H1) (n:H a=none):Same H (upd H1 a o):=fun b u e=>by
 rw [upd_ne (ne_of_none e n)];exact s b u e
theorem Same.ints {H H':Hp}{a:Addr}{ns:List Int} (e:Same H H') (h:Ints H a ns):Ints H' a ns:=e _ _ h
theorem Ints.other {H:Hp}{a b:Addr}{ns:List Int}{o:HO} (h:Ints H a ns) (n:a≠b):Ints (L2.upd H b o) a ns:=by
 show L2.upd H b o a=_
 rw [upd_ne n];exact h
theorem Ints.put {H:Hp}{a:Addr}{ns:List Int}:Ints (L2.upd H a (.lst (ns.map V.int))) a ns:=upd_same
theorem Ints.snoc {H:Hp}{a:Addr}{ns:List Int}{v:Int}:Ints (L2.upd H a (.lst (ns.map V.int++[V.int v]))) a (ns++[v]):=by
 show L2.upd H a _ a=_
 rw [upd_same,List.map_append];rfl
theorem Same.upd' {H H1:Hp}{a:Addr}{o:HO} (s:Same H H1) (n:H1 a=none):Same H (L2.upd H1 a o):=s.upd (s.free n)
theorem small4k {n:Nat} (h:n≤10000000):n < sizeLine:=Nat.lt_of_le_of_lt h (by decide)
theorem isList_yes {K:PySem.W.Frag}:PySem.W.kitOne K (.type "list") (.type "list")=some true:=by
 show (if (Value.type "list" == Value.type "list")=true then some true else _)=_
 rw [if_pos (by decide)]
theorem isInt_yes {K:PySem.W.Frag}:PySem.W.kitOne K (.type "int") (.type "int")=some true:=by
 show (if (Value.type "int" == Value.type "int")=true then some true else _)=_
 rw [if_pos (by decide)]
theorem intBool_no {K:PySem.W.Frag} (h:PySem.W.kitOne K (.type "int") (.type "bool")=some false:=by rfl):PySem.W.kitOne K (.type "int") (.type "bool")=some false:=h
theorem new_rd {H:Hp}{xs:List V}{Q:VK} (ns:List Int) (e:xs=ns.map V.int) (h:∀ (p:Addr) (H':Hp),H p=none→Ints H' p ns→Same H H'→Q (.ref p) H'):∀ p,H p=none→Q (.ref p) (upd H p (.lst xs)):=fun p hp=>by
 subst e
 exact h p _ hp .put ((Same.refl H).upd hp)
theorem ls_rd {H:Hp}{ns:List Int}{Q:VK} (h:∀ (p:Addr) (H':Hp),H p=none→Ints H' p ns→Same H H'→Q (.ref p) H'):∀ p,H p=none→Q (.ref p) (upd H p (.lst (ns.map V.int))):=new_rd ns rfl h
theorem sl_rd {H:Hp}{ns:List Int}{lo hi:Option Int}{Q:VK} (h:∀ (p:Addr) (H':Hp),H p=none→Ints H' p (cutL ns lo hi)→Same H H'→Q (.ref p) H'):∀ p,H p=none→Q (.ref p) (upd H p (.lst (cutV (ns.map V.int) lo hi))):=new_rd _ (cutV_int ..) h
theorem cat_rd {H:Hp}{ns ms:List Int}{Q:VK} (h:∀ (p:Addr) (H':Hp),H p=none→Ints H' p (ns++ms)→Same H H'→Q (.ref p) H'):∀ p,H p=none→Q (.ref p) (upd H p (.lst (ns.map V.int++ms.map V.int))):=new_rd _ (by rw [List.map_append]) h
theorem at_k {ms:List Int} (k:Nat) {i:Int} (h:k < ms.length) (e:i=(k:Int):=by rfl):atI (ms.map V.int) i=some (V.int (ms.getD k 0)):=by
 subst e
 rw [atI_int h]
 simp [List.getD,h]
theorem rd_slice {K:PySem.W.Frag}{H:Hp}{a:Addr}{ns:List Int}{lo hi:Option Int}{Q:VK} (hq:Ints H a ns) (h:∀ (p:Addr) (H':Hp),H p=none→Ints H' p (cutL ns lo hi)→Same H H'→Q (.ref p) H'):Wr (rSlL K (.ref a) lo hi H Q):=⟨⟨a,_,rfl,SqL.of hq,sl_rd h⟩⟩
theorem rd_cat {H:Hp}{a b:Addr}{ns ms:List Int}{Q:VK} (ha:Ints H a ns) (hb:Ints H b ms) (hl:ns.length+ms.length≤10000000) (h:∀ (p:Addr) (H':Hp),H p=none→Ints H' p (ns++ms)→Same H H'→Q (.ref p) H'):Wr (rCat (.ref a) (.ref b) H Q):=
 ⟨⟨a,b,_,_,rfl,rfl,ha,hb,by simp only [List.length_map];exact Nat.le_of_lt (small4k hl),cat_rd h⟩⟩
theorem rd_at {K:PySem.W.Frag}{H:Hp}{a:Addr}{ns:List Int}{i:Int}{Q:VK} (k:Nat) (hq:Ints H a ns) (hk:k < ns.length) (h:Q (.int (ns.getD k 0)) H) (e:i=(k:Int):=by rfl):Wr (rIxL K (.ref a) (.int i) H Q):=⟨⟨a,_,i,_,rfl,rfl,SqL.of hq,at_k k hk e,h⟩⟩
theorem ite_key {c:Bool}{A:Prop}{H2:Hp}{K:Hp→Prop} (P:Hp→Prop) (hP:P H2) (key:∀ H,P H→K H) (h1:(∀ H,P H→K H)→A):if c=true then A else K H2:=by
 cases c with
 | true=>rw [if_pos rfl];exact h1 key
 | false=>rw [if_neg Bool.false_ne_true];exact key _ hP
theorem rd_lst {H:Hp}{xs:List V}{Q:VK} (ns:List Int) (h:∀ (p:Addr) (H':Hp),H p=none→Ints H' p ns→Same H H'→Q (.ref p) H') (e:xs=ns.map V.int:=by rfl) (hl:ns.length≤1000:=by simp):Wr (rLst xs H Q):=by
 subst e
 exact ⟨⟨by rw [List.length_map];exact Nat.le_of_lt (small4k (by omega)),ls_rd h⟩⟩
structure Rdy (P:Program) (w:World) (K:PySem.W.Frag) (mg:Str→Option Value) (base:Heap) (x:Str) (ps:List Str) (k:Nat) (sp:Sp) where
 f:Addr
 fd:FuncData
 ok:FnOk P w K mg base CX0 k f fd ps sp
 mgx:mg x=some (.ref f)
 kp:PySem.W.keepIn K (.ref f)=true
 bd:Binds K fd ps []
theorem Rdy.pe {X:Cx}{x:Str}{ps:List Str}{k j:Nat}{sp:Sp}{e:Expr}{es:List Expr}{t:TA}{p pos:Pos} (R:Rdy X.prog X.w X.K X.mg X.base x ps k sp) (hr:Room j X.A) (ha:PA X (e::es) t) (hg:Gl X x:=by rfl) (hj:k≤j:=by decide)
  (hdb:(x == ("__debug__":Str))=false:=by decide) (he:starEach (e::es) X.env=(false,eval e X.env)::starEach es X.env:=by rfl) (hpl:(backTo pos (starEach es X.env)).any (·.1)=false:=by rfl):
  PE X (.Call (.Name x p) (e::es) [] pos) (tCall sp [] E0 t):=pe_call R.ok (hr.mono hj) hg R.mgx R.kp R.bd .nil pass0 ha hdb he hpl
end L2
set_option maxHeartbeats 4000000
namespace My
open PySem L2
structure Txt (K:PySem.W.Frag) (mg:Str→Option Value):Prop where
 len:mg "len"=none
 range:mg "range"=none
 list:mg "list"=none
 int:mg "int"=none
 bool:mg "bool"=none
 inst:mg "isinstance"=none
 tuple:mg "tuple"=none
 abs:mg "abs"=none
 enum:mg "enumerate"=none
 str:mg "str"=none
def spNumL (K:PySem.W.Frag):Sp:=fun vs H Q _=>∃ (a:Addr) (ns:List Int) (many:Nat),vs=[.ref a,.int many]∧SqL K H a (ns.map V.int)∧ns.length≤63∧many≤1000∧
 ∀ (l:Addr) (ms:List Int) (H':Hp),ms.length=many→True→H l=none→Ints H' l ms→Same H H'→Q (.ref l) H'
theorem pow18:((10:Int) ^ (18:Int).toNat)=1000000000000000000:=by decide
theorem bt_list:bootBuiltins "list"=some (.type "list"):=by decide+kernel
theorem bt_int:bootBuiltins "int"=some (.type "int"):=by decide+kernel
theorem bt_bool:bootBuiltins "bool"=some (.type "bool"):=by decide+kernel
theorem bt_inst:bootBuiltins "isinstance"=some (.builtin "isinstance"):=by decide+kernel
theorem bt_abs:bootBuiltins "abs"=some (.builtin "abs"):=by decide+kernel
theorem bt_enum:bootBuiltins "enumerate"=some (.type "enumerate"):=by decide+kernel
def push:List Int→Int→List Int
 | [],x=>[x]
 | t::r,x=>if t= -x then r else x::t::r
def cut (w:List Int):List Int:=(w.foldl push []).reverse
theorem push_len (st:List Int) (x:Int):(push st x).length≤st.length+1:=by
 cases st with
 | nil=>simp [push]
 | cons t r=>
  show (if t= -x then r else x::t::r).length≤_
  split <;> simp only [List.length_cons] <;> omega
theorem fold_len (w:List Int):∀ st:List Int,(w.foldl push st).length≤st.length+w.length:=by
 induction w with
 | nil=>intro st;simp
 | cons x w ih=>
  intro st
  have:=ih (push st x)
  have h2:=push_len st x
  simp only [List.foldl_cons,List.length_cons]
  omega
theorem take_fold {ns:List Int}{i:Nat}{z:Int} (h:ns[i]?=some z):(ns.take (i+1)).foldl push []=push ((ns.take i).foldl push []) z:=by
 obtain ⟨hi,e⟩:=List.getElem?_eq_some_iff.mp h
 rw [List.take_succ_eq_append_getElem hi,List.foldl_append,e]
 rfl
def spCan (K:PySem.W.Frag):Sp:=fun vs H Q _=>∃ (a:Addr) (ns:List Int),vs=[.ref a]∧SqL K H a (ns.map V.int)∧ns.length≤100000∧
 ∀ (l:Addr) (H':Hp),H l=none→Ints H' l (cut ns)→Same H H'→Q (.ref l) H'
def Red:List Int→Prop
 | []=>True
 | [_]=>True
 | a::b::r=>b≠ -a∧Red (b::r)
def spLaw (K:PySem.W.Frag):Sp:=fun vs H Q _=>∃ (a:Addr) (ns:List Int),vs=[.ref a]∧SqL K H a (ns.map V.int)∧ns.length≤63∧∀ H',Q (.bl true) H'
def lab0 (n:Nat):List Int:=(List.range n).map fun (i:Nat)=>(i:Int)
theorem rd_range {K:PySem.W.Frag}{H:Hp}{r:Addr}{n:Nat}{Q:VK} (hr:H r=some (.rng 0 n)) (hn:n≤1000000) (h:∀ (p:Addr) (H':Hp),H p=none→Ints H' p (lab0 n)→Same H H'→Q (.ref p) H'):Wr (rListR [.ref r] H Q):=
 ⟨⟨r,n,rfl,hr,hn,new_rd _ (by simp [lab0,List.map_map,Function.comp_def]) h⟩⟩
theorem hcl_two {cells:List (Str × Addr)}{a b:Str}{x y:Addr} (h1:cells.lookup a=some x) (h2:cells.lookup b=some y):∀ z c,[(a,x),(b,y)].lookup z=some c→cells.lookup z=some c:=fun z c h=>by
 rcases List.mem_cons.mp (PySem.mem_of_lookup h) with e | e
 · cases e;exact h1
 · have e:(z,c)=(b,y):=by simpa using e
   cases e;exact h2
def Kp (g:Addr) (H H':Hp):Prop:=∀ b o,H b=some o→b≠g→H' b=some o
theorem hcl_nil {cells:List (Str × Addr)}:∀ z c,([]:List (Str × Addr)).lookup z=some c→cells.lookup z=some c:=fun z c h=>by cases h
theorem iteTe {c:Bool}{A B:Prop} (e:c=true) (h:A):if c=true then A else B:=by rw [if_pos e];exact h
theorem iteFe {c:Bool}{A B:Prop} (e:c=false) (h:B):if c=true then A else B:=by rw [e];exact iteF h
theorem take_fold' {α β:Type}{f:β→α→β}{b:β}{ps:List α}{i:Nat}{z:α} (h:ps[i]?=some z):(ps.take (i+1)).foldl f b=f ((ps.take i).foldl f b) z:=by
 obtain ⟨hi,e⟩:=List.getElem?_eq_some_iff.mp h
 rw [List.take_succ_eq_append_getElem hi,List.foldl_append,e]
 rfl
structure Rdm (P:Program) (w:World) (K:PySem.W.Frag) (mg:Str→Option Value) (base:Heap) (C:Addr) (m:Str) (ps:List Str) (k:Nat) (sp:Sp) where
 f:Addr
 fd:FuncData
 ok:FnOk P w K mg base CX0 k f fd ps sp
 cl:Cls K C
 mt:Meth K C m f
 bd:Binds K fd ps []
theorem Rdm.pe {X:Cx}{m:Str}{C:Addr}{ps:List Str}{k j:Nat}{sp:Sp}{o e:Expr}{es:List Expr}{ta:TE}{t:TA}{apos pos:Pos}{pl:Sem Bool} (R:Rdm X.prog X.w X.K X.mg X.base C m ps k sp) (hr:Room j X.A) (ho:PE X o ta) (ha:PA X (e::es) t) (hj:k≤j:=by decide)
  (he:starEach (e::es) X.env=(false,eval e X.env)::starEach es X.env:=by rfl) (hpl:(backTo pos (starEach es X.env)).any (·.1)=false:=by rfl)
  (ht:eval (.Call (.Attribute o m apos) (e::es) [] pos) X.env=(do
   let ov ← eval o X.env
   standAt apos.atName
   let (f,first) ← holding [ov] (getMethod ov m pl)
   callWith pos f first (backTo pos (starEach (e::es) X.env)) (backToKw pos (keywordEach [] X.env))):=by rfl):
  PE X (.Call (.Attribute o m apos) (e::es) [] pos) (tMeth C m sp [] E0 ta t):=pe_meth ho R.cl R.mt R.ok (hr.mono hj) R.bd .nil pass0 ha he hpl ht
structure Rdk (P:Program) (w:World) (K:PySem.W.Frag) (mg:Str→Option Value) (base:Heap) (C:Addr) (x:Str) (ps:List Str) (k:Nat) (sp:Sp) where
 f:Addr
 fd:FuncData
 ok:FnOk P w K mg base CX0 k f fd ps sp
 mkf:Mk K C f
 mgx:mg x=some (.ref C)
 bd:Binds K fd ps []
theorem Rdk.pe {X:Cx}{x:Str}{C:Addr}{ps:List Str}{k j:Nat}{sp:Sp}{e:Expr}{es:List Expr}{t:TA}{p pos:Pos} (R:Rdk X.prog X.w X.K X.mg X.base C x ps k sp) (hr:Room j X.A) (ha:PA X (e::es) t) (hg:Gl X x:=by rfl) (hj:k+1≤j:=by decide)
  (hdb:(x == ("__debug__":Str))=false:=by decide) (he:starEach (e::es) X.env=(false,eval e X.env)::starEach es X.env:=by rfl) (hpl:(backTo pos (starEach es X.env)).any (·.1)=false:=by rfl):
  PE X (.Call (.Name x p) (e::es) [] pos) (tMake C sp [] E0 t):=pe_make R.mkf R.ok (hr.mono hj) hg R.mgx R.bd .nil pass0 ha hdb he hpl
open PySem.SeqAt PyProof.Rows
theorem rd_atV {K:PySem.W.Frag}{H:Hp}{a:Addr}{xs:List V}{i:Int}{v:V}{Q:VK} (hq:H a=some (.lst xs)) (e:atI xs i=some v) (h:Q v H):Wr (rIxL K (.ref a) (.int i) H Q):=⟨⟨a,xs,i,v,rfl,rfl,SqL.of hq,e,h⟩⟩
theorem rd_lstV {H:Hp}{xs:List V}{Q:VK} (hl:xs.length≤1000) (h:∀ (p:Addr) (H':Hp),H p=none→H' p=some (.lst xs)→Same H H'→Q (.ref p) H'):Wr (rLst xs H Q):=
 ⟨⟨Nat.le_of_lt (small4k (by omega)),fun p hp=>h p _ hp upd_same ((Same.refl H).upd hp)⟩⟩
theorem Rdm.pe0 {X:Cx}{m:Str}{C:Addr}{ps:List Str}{k j:Nat}{sp:Sp}{o:Expr}{ta:TE}{apos pos:Pos}{pl:Sem Bool} (R:Rdm X.prog X.w X.K X.mg X.base C m ps k sp) (hr:Room j X.A) (ho:PE X o ta) (hj:k≤j:=by decide)
  (ht:eval (.Call (.Attribute o m apos) [] [] pos) X.env=(do
   let ov ← eval o X.env
   standAt apos.atName
   let (f,first) ← holding [ov] (getMethod ov m pl)
   callWith pos f first (backTo pos (starEach [] X.env)) (backToKw pos (keywordEach [] X.env))):=by rfl):
  PE X (.Call (.Attribute o m apos) [] [] pos) (tMeth C m sp [] E0 ta tNil):=pe_meth0 ho R.cl R.mt R.ok (hr.mono hj) R.bd .nil pass0 ht
end My
namespace L2
open PySem PySem.Spec PyProof.Rows
def rComp (J:It) (ix:List Nat) (te:TE) (σ:St) (H1:Hp) (Q:VK):Prop:=∀ D,H1 D=none→∃ W:Nat→Nat→List V→Hp→Prop,(∃ m,W 0 m [] (upd H1 D (.lst [])))∧
 ∀ i m ys H2,W i m ys H2→H2 D=some (.lst ys)∧((J.stop i H2∧Q (.ref D) H2)∨(J.go i H2∧ys.length < sizeLine∧∀ x H',J.yld i H2 x H'→te (blkSt ix (some x) σ) H' fun y H3=>
  H3 D=some (.lst ys)∧∃ m',m' < m∧W (i+1) m' (ys++[y]) (upd H3 D (.lst (ys++[y])))))
def rCompIf (J:It) (ix:List Nat) (tt:TT) (te:TE) (σ:St) (H1:Hp) (Q:VK):Prop:=∀ D,H1 D=none→∃ W:Nat→Nat→List V→Hp→Prop,(∃ m,W 0 m [] (upd H1 D (.lst [])))∧
 ∀ i m ys H2,W i m ys H2→H2 D=some (.lst ys)∧((J.stop i H2∧Q (.ref D) H2)∨(J.go i H2∧ys.length < sizeLine∧∀ x H',J.yld i H2 x H'→tt (blkSt ix (some x) σ) H' fun b H3=>if b=true then te (blkSt ix (some x) σ) H3 (fun y H4=>
  H4 D=some (.lst ys)∧∃ m',m' < m∧W (i+1) m' (ys++[y]) (upd H4 D (.lst (ys++[y])))) else ∃ m',m' < m∧W (i+1) m' ys H3))
def tCompW (wi:TI) (ix:List Nat) (te:TE):TE:=fun σ H Q=>wi σ H fun J H1=>Wr (rComp J ix te σ H1 Q)
def tCompIfW (wi:TI) (ix:List Nat) (tt:TT) (te:TE):TE:=fun σ H Q=>wi σ H fun J H1=>Wr (rCompIf J ix tt te σ H1 Q)
def Cx.blkC (X:Cx) (N:List Str) (scope:Scope) (cl:List (Str × Addr)) (x:Str) (C:Addr) (s:Shared) (H:Hp) (fp:List Addr):Cx:=
 { prog:=X.prog,w:=X.w,K:=X.K,mg:=X.mg,base:=X.base,A:=X.A,N:=N,s₀:=s,H₀:=H,env:=compEnvC scope ((x,C+1)::cl) C X.env,outer:=X.stack,stack:=X.stack,ex:=fp,fn:=fun y=>y == x,calm:=X.calm,pn:=[],xe:=fun _ _=>False }
theorem nfe_cells {M:Model}{A:Around}{E:Value→Shared→Prop}{s:Shared}{scope:Scope}{globals:Addr}{closure:List (Str × Addr)}{qual:Str}{env:Env}{Q:Env→Shared→Prop}
  (h:Q (newEnv scope s.heap.objs.size globals (cellsFrom (s.heap.objs.size+1) scope.names closure) qual none .none (some env) builtinsNs) { s with heap:=pushCells (s.heap.push { cls:=.type "dict",data:=.dict #[] }) scope.names }):
  wpAny M A (newFunctionEnv scope globals closure [] qual none .none (some env)) Q E s:=by
 simp only [newFunctionEnv,Option.isSome_some,if_true]
 refine wpAny_bind (wpAny_alloc ?_)
 refine wpAny_bind (wpAny_layCells _ (fun name kind cells=>by cases hkc:kind == NameKind.cell <;> simp [hkc]) _ _ _ _ ?_)
 rw [show ({ s with heap:=s.heap.push { cls:=.type "dict",data:=.dict #[] } }:Shared).heap.objs.size=s.heap.objs.size+1 from Heap.size_push ..]
 exact wpAny_bind (by rw [List.forIn_nil];exact wpAny_pure (wpAny_pure h))
structure CompB (X:Cx) (scope:Scope) (cl:List (Str × Addr)) (x:Str) (fr:List Str) (ix:List Nat) (iter:Expr):Prop where
 clos:closureFor scope X.env=pure cl
 calm:X.calm=true
 kind:scope.kind=.function
 cell:(scope.names.all fun p=>p.2 != .cell)=true
 names:(scope.names.all fun p=>p.2 != .local || scope.names.lookup p.1 == some .local)=true
 hx:scope.names.lookup x=some .local
 hN:(x::fr).Nodup
 hix:ix.map (fun i=>X.N[i]?)=fr.map some
 fr:(fr.all fun y=>X.env.kindOf y == some .cell && (relabel scope X.env).names.lookup y == some .cell)=true
 cl2:((relabel scope X.env).names.all fun p=>(p.2 != .cell && p.2 != .free) || (cl.lookup p.1).isSome)=true
 hs:∀ x,foldedSetIterable iter X.env x=pure x
section
variable {X:Cx}{x:Str}{px pos:Pos}{elt iter:Expr}{scope:Scope}{cl:List (Str × Addr)}{fr:List Str}{ix:List Nat}{wi:TI}{te:TE}{tt:TT}{ifs:List Expr}
theorem CompB.cell' (k:CompB X scope cl x fr ix iter):∀ y∈scope.names,y.2≠.cell:=fun y hy e=>by
 have:=List.all_eq_true.mp k.cell y hy
 rw [e] at this
 exact absurd this (by decide)
theorem CompB.names' (k:CompB X scope cl x fr ix iter):∀ y∈scope.names,y.2=.local→scope.names.lookup y.1=some .local:=fun y hy e=>by
 have:=List.all_eq_true.mp k.names y hy
 rw [e] at this
 simpa using this
theorem CompB.fr' (k:CompB X scope cl x fr ix iter):∀ y∈fr,X.env.kindOf y=some .cell∧(relabel scope X.env).names.lookup y=some .cell:=fun y hy=>by
 have:=List.all_eq_true.mp k.fr y hy
 rw [Bool.and_eq_true] at this
 exact ⟨eq_of_beq this.1,eq_of_beq this.2⟩
theorem CompB.cl2' (k:CompB X scope cl x fr ix iter):∀ y,((relabel scope X.env).names.lookup y=some .cell∨(relabel scope X.env).names.lookup y=some .free)→∃ c,cl.lookup y=some c:=fun y hy=>by
 have:∃ k,(relabel scope X.env).names.lookup y=some k∧(k=.cell∨k=.free):=by
  rcases hy with h | h
  · exact ⟨_,h,.inl rfl⟩
  · exact ⟨_,h,.inr rfl⟩
 obtain ⟨k',e,hk'⟩:=this
 have:=List.all_eq_true.mp k.cl2 (y,k') (PySem.mem_of_lookup e)
 have h2:(cl.lookup y).isSome=true:=by
  rcases hk' with rfl | rfl <;> simpa using this
 exact Option.isSome_iff_exists.mp h2
def OneIf (B:Cx→Prop) (ifs:List Expr) (tt:TT):Prop:=(ifs=[]∧tt=fun _ H Q=>Q true H)∨∃ ct,ifs=[ct]∧∀ Y,B Y→PT Y ct tt
theorem tests_of {B:Cx}{BB:Cx→Prop}{pins:List (Addr × Obj)}{σ:St}{H:Hp}{s:Shared}{Q:Bool→Hp→Prop} (hif:OneIf BB ifs tt) (hb:BB B) (I:Inv B pins σ H s) (h:tt σ H Q):
  wpAny (model B.prog B.w) B.A (forIn ifs true fun c r=>if r=true then do
   let ok ← PySem.isTrue c B.env (eval c B.env)
   pure (ForInStep.yield ok) else pure (ForInStep.yield r)) (fun b s'=>∃ H',Inv B pins σ H' s'∧Q b H') B.xe s:=by
 rcases hif with ⟨rfl,rfl⟩ | ⟨ct,rfl,ht⟩
 · rw [List.forIn_nil]
   exact wpAny_pure ⟨_,I,h⟩
 · exact wpAny_tests_one (wpAny_mono (ht B hb _ s _ H _ I h) (fun bb s6 ⟨H6,I6,q6⟩=>⟨H6,I6,q6⟩) fun _ _ z=>z)
theorem lcomp_gen {use:Option (Value→Sem Unit)}{Post:Value→Shared→Prop}{p0:Pos} (k:CompB X scope cl x fr ix iter) (hi:PI X (.Name x px) iter wi) (hcl:∀ y c,cl.lookup y=some c→X.env.cells.lookup y=some c)
  (he:∀ C s H fp,PE (X.blk (x::fr) scope cl C s H fp) elt te) (hif:OneIf (fun Y=>∃ C s H fp,Y=X.blk (x::fr) scope cl C s H fp) ifs tt)
  {pins:List (Addr × Obj)}{s:Shared}{σ:St}{H:Hp}{Q:VK} (I:Inv X pins σ H s) {R:It→Hp→Prop} (h:wi σ H R) (hR:∀ J H1,R J H1→Wr (rCompIf J ix tt te σ H1 Q))
  (fin:∀ (s2 s4:Shared) (H2 H3:Hp) (fp:List Addr) (C:Addr) (x':Option V),Inv X pins σ H2 s2→(∀ b∈fp,FpOk X pins H2 b)→C=s2.heap.objs.size+1→(∀ b o,s2.heap.get? b=some o→b≠C)→Inv (X.blk (x::fr) scope cl C s2 H2 fp) [] (blkSt ix x' σ) H3 s4→Q (.ref s2.heap.objs.size) H3→
   ∀ a,compPost (model X.prog X.w) X.A X.xe use Post (.ref s2.heap.objs.size) C (.ok a) s4):
  wpAny (model X.prog X.w) X.A (comprehension (.ListComp elt [⟨.Name x px,iter,ifs,0⟩] scope pos) scope X.env p0 (newList []) false (eval iter X.env) use) Post X.xe s:=by
 refine wpAny_comprehension_free rfl k.hs k.clos k.kind k.names' (thn (hi pins s σ H _ I h) fun xv s1 h1=>thn h1 fun itv s2 h2=>?_)
 obtain ⟨it,fp,tn,J,H2,e,I2,T,st2,f2,q⟩:=h2
 have q:=hR J H2 q
 subst e
 refine wpAny_newObj_type (wpAny_newFunctionEnv k.cell' (by intro y hy;simp at hy) (fun h₁ hns₁ hsb₁=>?_) k.kind)
 dsimp only at hns₁ hsb₁ ⊢
 have hDn:H2 s2.heap.objs.size=none:=I2.hok.fresh (Nat.le_refl _)
 obtain ⟨W,⟨m0,w0⟩,turn⟩:=q.get s2.heap.objs.size hDn
 generalize hHL:s2.heap.push { cls:=.type "list",dict:=none,data:=.seq ([]:List Value).toArray }=HL at hns₁ hsb₁ ⊢
 have hC:HL.objs.size=s2.heap.objs.size+1:=by rw [← hHL,Heap.size_push]
 have old:∀ b o,s2.heap.get? b=some o→h₁.get? b=some o:=fun b o e=>(hsb₁.2 b (by rw [hC];exact Nat.ne_of_lt (Nat.lt_succ_of_lt (Heap.lt_size e)))).trans (Heap.get?_push_of_some _ (hHL▸Heap.get?_push_of_some _ e))
 have hD1:h₁.get? s2.heap.objs.size=some { cls:=.type "list",data:=.seq ([]:List Value).toArray }:=
  (hsb₁.2 _ (by rw [hC];exact Nat.ne_of_lt (Nat.lt_succ_self _))).trans (Heap.get?_push_of_some _ (hHL▸Heap.get?_push_size _ rfl))
 generalize hCC:HL.objs.size=C at hns₁ hsb₁ ⊢
 rw [hCC] at hC
 have bC:∀ b o,s2.heap.get? b=some o→b≠C:=fun b o e=>by rw [hC];exact Nat.ne_of_lt (Nat.lt_succ_of_lt (Heap.lt_size e))
 have stl:∀ b∈frs X.stack,∃ o,s2.heap.get? b=some o:=fun b hb=>by
  obtain ⟨_,o,ho,_⟩:=I2.stack.mem hb
  exact ⟨o,ho⟩
 have fpl:∀ b∈fp,∃ o,s2.heap.get? b=some o∧∀ v,o.data≠.cell v:=fun b hb=>T.obj 0 _ st2 b hb
 have fpstk:∀ b∈fp,b∉frs X.stack:=fun b hb z=>by
  rcases List.mem_cons.mp (I2.stkSub b z) with z | z
  · exact (f2 b hb).2.1 z
  · exact (f2 b hb).2.2.1 z
 let B:=X.blk (x::fr) scope cl C s2 H2 fp
 have okB:B.Ok:=by
  refine ⟨I2.ok.mod,k.kind,I2.ok.glob,I2.ok.blt,(by show s2.heap.objs.size≤C;rw [hC];exact Nat.le_succ _),fun y z c e1 e2=>I2.ok.inj y z c (hcl _ _ e1) (hcl _ _ e2),fun y hy=>k.cl2' y hy,fun y c z=>absurd (show false=true from z) Bool.false_ne_true,
   fun _=>I2.ok.hd k.calm,I2.ok.frames,.inl rfl,fun b hb=>⟨?_,fun y c e=>(f2 b hb).2.2.2.2.1 y c (hcl _ _ e)⟩,I2.bs,Nat.le_trans I2.ok.bsz I2.sz,fun b o e hb=>?_,fun b hb=>fpstk b hb,I2.stack,I2.stkFree⟩
  · obtain ⟨o,e,_⟩:=fpl b hb
    exact bC b o e
  · rcases (f2 b hb).2.2.2.1 with z | z
    · exact I2.ok.noex b o e z
    · exact absurd (Nat.lt_of_lt_of_le (Heap.lt_size (I2.ok.bs b o e).1) z) (Nat.lt_irrefl _)
 have IB:∀ tk,Inv B [] (blkSt ix none σ) (upd H2 s2.heap.objs.size (.lst [])) { s2 with heap:=h₁,toks:=tk }:=fun tk=>by
  refine ⟨okB,rfl,I2.bare,Un.laid old (Nat.le_refl _) hDn,⟨_,hns₁,fun j y v e1 e2 e3=>?_⟩,fun y c e=>?_,?_,fun y c e=>?_,(fun p hp=>nomatch hp),I2.hok.laid old (Nat.le_refl _) ⟨Nat.zero_le _,[],0,.nil,hD1⟩,?_⟩
  · cases j with
    | zero=>cases (show (some none:Option (Option V))=some (some v) from e2)
    | succ j=>
     have e1:fr[j]?=some y:=e1
     have e2:(ix.map fun i=>(σ[i]?).join)[j]?=some (some v):=e2
     have hj:=congrArg (fun l=>l[j]?) k.hix
     simp only [List.getElem?_map,e1] at hj
     rw [List.getElem?_map] at e2
     cases hij:ix[j]? with
     | none=>rw [hij] at e2;cases e2
     | some i=>
      rw [hij] at hj e2
      have hj:X.N[i]?=some y:=Option.some.inj hj
      have e2:(σ[i]?).join=some v:=Option.some.inj e2
      have e2:σ[i]?=some (some v):=by
       cases z:σ[i]? with
       | none=>rw [z] at e2;cases e2
       | some z'=>rw [z] at e2;rw [show z'=some v from e2]
      obtain ⟨m,hn,hl⟩:=I2.loc
      have hk:=k.fr' y (List.mem_of_getElem? e1)
      obtain ⟨u,ru,lk⟩:=hl i y v hj e2 (.inr (.inl hk.1))
      refine ⟨u,ru,.inr ⟨.inl hk.2,?_⟩⟩
      rcases lk with ⟨z,_⟩ | ⟨_,c,ec,⟨oc,hoc,hcd⟩⟩
      · rw [hk.1] at z;cases z
      · obtain ⟨c',ec'⟩:=k.cl2' y (.inl hk.2)
        have:=hcl _ _ ec'
        rw [ec] at this;cases this
        exact ⟨c,ec',oc,old c oc hoc,hcd⟩
  · obtain ⟨v,oc,hoc,hcd⟩:=I2.cell y c (hcl _ _ e)
    exact ⟨v,oc,old c oc hoc,hcd⟩
  · show upd H2 s2.heap.objs.size (.lst []) C=none
    rw [upd_ne (by rw [hC];exact Nat.succ_ne_self _)]
    exact I2.hok.fresh (by rw [hC];exact Nat.le_succ _)
  · obtain ⟨v,oc,hoc,hcd⟩:=I2.cell y c (hcl _ _ e)
    rw [upd_ne (Nat.ne_of_lt (Heap.lt_size hoc))]
    exact I2.freeC y c (hcl _ _ e)
  · show (blkSt ix none σ).length=(x::fr).length
    have:=congrArg List.length k.hix
    simp only [List.length_map] at this
    simp [blkSt,this]
 have st1:∀ tk,tn 0 ({ s2 with heap:=h₁,toks:=tk }:Shared).heap:=fun _=>T.keep 0 _ _ st2 fun b hb o e=>old b o e
 have fB:∀ {H':Hp},(∀ b∈fp,H' b=none)→∀ b∈fp,FpOk B [] H' b:=fun hn b hb=>by
  obtain ⟨o,e,_⟩:=fpl b hb
  exact ⟨hn b hb,bC b o e,fpstk b hb,.inl hb,fun y c ec=>(f2 b hb).2.2.2.2.1 y c (hcl _ _ ec),(fun p hp=>nomatch hp)⟩
 have loop:∀ tk,codeAny (model X.prog X.w) X.A (.compLoop (.ListComp elt [⟨.Name x px,iter,ifs,0⟩] scope pos) 0 (.ref it) (.ref s2.heap.objs.size) (compEnvC scope cl C X.env))
   (compPost (model X.prog X.w) X.A X.xe use Post (.ref s2.heap.objs.size) C) { s2 with heap:=h₁,toks:=tk }:=fun tk=>by
  refine codeAny_loop rfl (fun n s'=>∃ i ys x' H',Inv B [] (blkSt ix x' σ) H' s'∧tn i s'.heap∧(∀ b∈fp,H' b=none)∧W i n ys H') (fun n s3 hI=>?_) m0 ⟨0,[],none,_,IB tk,st1 tk,fun b hb=>?_,w0⟩
  · obtain ⟨i,ys,x',H3,I3,st3,fr3,w3⟩:=hI
    show wpAny _ _ ((compTurn (.ListComp elt [⟨.Name x px,iter,ifs,0⟩] scope pos) 0 (.ref it) (.ref s2.heap.objs.size) (compEnvC scope cl C X.env)).onRaise (fun x=>do noteFrame x (compEnvC scope cl C X.env);theTreesLotGoes x)) _ _ s3
    refine wpAny_noted ?_
    rw [compTurn_list]
    obtain ⟨hD3,alt⟩:=turn i n ys H3 w3
    refine wpAny_bind (wpAny_standAt (wpAny_bind ?_))
    rcases alt with ⟨stop,qn⟩ | ⟨go,hlen,step⟩
    · refine thn (T.done B rfl rfl rfl k.calm i [] s3 _ H3 _ I3 (fB fr3) st3 stop) fun r s4 ⟨hr,I4⟩=>?_
      subst hr
      refine wpAny_pure ?_
      exact fin s2 s4 H2 H3 fp C _ I2 f2 hC bC I4 qn _
    · refine thn (T.item B rfl rfl rfl k.calm i [] s3 _ H3 _ I3 (fB fr3) st3 go) fun r s4 ⟨u,hr,h4⟩=>?_
      subst hr
      refine wpAny_bind (thn h4 fun _ s5 ⟨xv,H5,I5,r5,y5,st5,fr5⟩=>?_)
      have I5':=I5.pinned (fB fr5) (T.obj _ _ st5)
      refine wpAny_bind (wpAny_assign_Name (store_ok (i:=0) (X:=B) I5' k.hN rfl (.inl (lookup_relabel_local k.hx)) r5 (fun s6 I6=>?_) (.inr (lookup_relabel_local k.hx))))
      have I6:Inv B ([]++pinsAt fp s5.heap) (blkSt ix (some xv) σ) H5 s6:=I6
      refine wpAny_bind (wpAny_mono (tests_of hif ⟨C,s2,H2,fp,rfl⟩ I6 (step xv H5 y5)) (fun bb s6' ⟨H6,I6',q6⟩=>?_) fun _ _ z=>False.elim z)
      have kp:∀ {st:St}{H8:Hp}{s8:Shared},Inv B (([]:List (Addr × Obj))++pinsAt fp s5.heap) st H8 s8→tn (i+1) s8.heap∧∀ b∈fp,H8 b=none:=fun I8=>⟨T.keep _ _ _ st5 fun b hb o e=>(I8.pin (b,o) (List.mem_append_right _ (List.mem_append_right _ (mem_pinsAt hb e)))).1,fun b hb=>by
       obtain ⟨o,e,d⟩:=T.obj _ _ st5 b hb
       exact (I8.pin (b,o) (List.mem_append_right _ (List.mem_append_right _ (mem_pinsAt hb e)))).2.1⟩
      cases bb with
      | false=>
       rw [if_neg (by decide)] at q6
       obtain ⟨m',hm,w7⟩:=q6
       exact wpAny_pure ⟨rfl,m',hm,i+1,ys,some xv,_,I6'.unpinned,(kp I6').1,(kp I6').2,w7⟩
      | true=>
       rw [if_pos rfl] at q6
       refine wpAny_bind (wpAny_bind (wpAny_mono (he C s2 H2 fp _ s6' _ H6 _ I6' q6) (fun v s7 ⟨y,H7,I7,r7,hD7,m',hm,w7⟩=>?_) fun _ _ z=>False.elim z))
       refine wpAny_bind (wpAny_mono (mt_append (X:=B) _ s7 _ H7 (.ref s2.heap.objs.size) [y] (.ref s2.heap.objs.size) [v] (fun _ H8=>H8=upd H7 s2.heap.objs.size (.lst (ys++[y]))) I7 rfl (.cons r7 .nil) ⟨_,ys,y,rfl,rfl,hD7,hlen,rfl⟩)
        (fun _ s8 ⟨_,H8,I8,_,e8⟩=>?_) fun _ _ z=>False.elim z)
       subst e8
       exact wpAny_pure (wpAny_pure ⟨rfl,m',hm,i+1,ys++[y],some xv,_,I8.unpinned,(kp I8).1,(kp I8).2,w7⟩)
  · obtain ⟨o,e,_⟩:=fpl b hb
    rw [upd_ne (Nat.ne_of_lt (Heap.lt_size e))]
    exact (f2 b hb).1
 exact codeAny_compStart_list (loop _) (T.self _ 0 _ _ _ (st1 _) (loop _))
theorem comp_true {J:It}{σ:St}{H:Hp}{Q:VK} (h:Wr (rComp J ix te σ H Q)):Wr (rCompIf J ix (fun _ H Q=>Q true H) te σ H Q):=⟨fun D hD=>by
 obtain ⟨W,w0,turn⟩:=h.get D hD
 refine ⟨W,w0,fun i m ys H2 w=>?_⟩
 obtain ⟨a,b | ⟨c,d,e⟩⟩:=turn i m ys H2 w
 · exact ⟨a,.inl b⟩
 · exact ⟨a,.inr ⟨c,d,fun x H' y=>by
   show (if true=true then _ else _)
   rw [if_pos rfl];exact e x H' y⟩⟩⟩
theorem pe_gen (k:CompB X scope cl x fr ix iter) (hi:PI X (.Name x px) iter wi) (hcl:∀ y c,cl.lookup y=some c→X.env.cells.lookup y=some c)
  (he:∀ C s H fp,PE (X.blk (x::fr) scope cl C s H fp) elt te) (hif:OneIf (fun Y=>∃ C s H fp,Y=X.blk (x::fr) scope cl C s H fp) ifs tt)
  {RR:St→VK→It→Hp→Prop} (hR:∀ σ Q J H1,RR σ Q J H1→Wr (rCompIf J ix tt te σ H1 Q)):PE X (.ListComp elt [⟨.Name x px,iter,ifs,0⟩] scope pos) (fun σ H Q=>wi σ H (RR σ Q)):=by
 intro pins s σ H Q I h
 rw [eval_ListComp]
 refine lcomp_gen k hi hcl he hif I h (hR σ Q) fun s2 s4 H2 H3 fp C x' I2 f2 hC bC I4 qn _=>?_
 obtain ⟨m4,hn4,_⟩:=I4.loc
 refine ⟨m4,hn4,fun h' sb=>?_⟩
 have un:Un (frs X.stack) fp H2 H3 s2.heap h':=by
  have u:=I4.base
  refine ⟨fun b o e n hb hx=>(sb.2 b (bC b o e)).trans (u.keep b o e n hb hx),fun b o e n hb hx=>?_,u.free,fun b o e hx=>?_,u.tups,u.frzs,u.tbls⟩
  · obtain ⟨sl,e1⟩:=u.slot b o e n hb hx
    exact ⟨sl,(sb.2 b (bC b o e)).trans e1⟩
  · obtain ⟨o',e1⟩:=u.there b o e hx
    exact ⟨o',(sb.2 b (bC b o e)).trans e1⟩
 exact ⟨.ref s2.heap.objs.size,H3,I2.call' (s':={ s4 with heap:=h' }) (ch:=fp) I4.os un (I4.hok.sameBut I4.free sb) I4.bare (fun b hb=>⟨(f2 b hb).2.2.2.1,(f2 b hb).2.1,(f2 b hb).2.2.2.2⟩),rfl,qn⟩
theorem one_if {ct:Expr} (ht:∀ C s H fp,PT (X.blk (x::fr) scope cl C s H fp) ct tt):OneIf (fun Y=>∃ C s H fp,Y=X.blk (x::fr) scope cl C s H fp) [ct] tt:=.inr ⟨ct,rfl,fun Y ⟨C,s,H,fp,e⟩=>by subst e;exact ht C s H fp⟩
theorem pe_compIf {ct:Expr} (fr:List Str) (ix:List Nat) (hi:PI X (.Name x px) iter wi) (ht:∀ C s H fp,PT (X.blk (x::fr) scope cl C s H fp) ct tt) (he:∀ C s H fp,PE (X.blk (x::fr) scope cl C s H fp) elt te) (hcl:∀ y c,cl.lookup y=some c→X.env.cells.lookup y=some c)
  (k:CompB X scope cl x fr ix iter:=by exact ⟨rfl,rfl,rfl,rfl,rfl,rfl,by decide+kernel,rfl,rfl,rfl,fun _=>rfl⟩):
  PE X (.ListComp elt [⟨.Name x px,iter,[ct],0⟩] scope pos) (tCompIfW wi ix tt te):=pe_gen k hi hcl he (one_if ht) fun _ _ _ _ h=>h
theorem one_nil {B:Cx→Prop}:OneIf B [] (fun _ H Q=>Q true H):=.inl ⟨rfl,rfl⟩
theorem pe_compW (fr:List Str) (ix:List Nat) (hi:PI X (.Name x px) iter wi) (he:∀ C s H fp,PE (X.blk (x::fr) scope cl C s H fp) elt te) (hcl:∀ y c,cl.lookup y=some c→X.env.cells.lookup y=some c)
  (k:CompB X scope cl x fr ix iter:=by exact ⟨rfl,rfl,rfl,rfl,rfl,rfl,by decide+kernel,rfl,rfl,rfl,fun _=>rfl⟩):
  PE X (.ListComp elt [⟨.Name x px,iter,[],0⟩] scope pos) (tCompW wi ix te):=pe_gen k hi hcl he one_nil fun _ _ _ _ h=>comp_true h
end
section
variable {X:Cx}
theorem pe_lcompC {x:Str}{px pos:Pos}{elt iter:Expr}{scope:Scope}{cl:List (Str × Addr)}{fr:List Str}{ix:List Nat}{wi:TI}{te:TE}
  (hc:X.calm=true) (hi:PI X (.Name x px) iter wi)
  (hclos:closureFor scope X.env=pure cl) (hkind:scope.kind=.function) (hcells:∀ n,cellsFrom n scope.names cl=(x,n)::cl) (hpush:∀ h:Heap,pushCells h scope.names=h.push { cls:=.type "cell",data:=.cell none }) (hxcl:cl.lookup x=none)
  (hnames:∀ y∈scope.names,y.2=.local→scope.names.lookup y.1=some .local) (hx:(relabel scope X.env).names.lookup x=some .cell)
  (hN:(x::fr).Nodup) (hix:ix.map (fun i=>X.N[i]?)=fr.map some)
  (hfr:∀ y∈fr,X.env.kindOf y=some .cell∧(relabel scope X.env).names.lookup y=some .cell)
  (hcl:∀ y c,cl.lookup y=some c→X.env.cells.lookup y=some c)
  (hcl2:∀ y,((relabel scope X.env).names.lookup y=some .cell∨(relabel scope X.env).names.lookup y=some .free)→y=x∨∃ c,cl.lookup y=some c)
  (he:∀ C s H fp,PE (X.blkC (x::fr) scope cl x C s H fp) elt te)
  (hs:∀ x,foldedSetIterable iter X.env x=pure x:=by intro _;rfl):
  PE X (.ListComp elt [⟨.Name x px,iter,[],0⟩] scope pos) (tCompW wi ix te):=by
 intro pins s σ H Q I h
 rw [eval_ListComp]
 refine wpAny_comprehension_free (use:=none) rfl hs hclos hkind hnames (thn (hi pins s σ H _ I h) fun xv s1 h1=>thn h1 fun itv s2 h2=>?_)
 obtain ⟨it,fp,tn,J,H2,e,I2,T,st2,f2,q⟩:=h2
 subst e
 refine wpAny_newObj_type (nfe_cells ?_)
 rw [hcells,hpush]
 have hDn:H2 s2.heap.objs.size=none:=I2.hok.fresh (Nat.le_refl _)
 obtain ⟨W,⟨m0,w0⟩,turn⟩:=q.get s2.heap.objs.size hDn
 generalize hHL:s2.heap.push { cls:=.type "list",dict:=none,data:=.seq ([]:List Value).toArray }=HL
 have hC:HL.objs.size=s2.heap.objs.size+1:=by rw [← hHL,Heap.size_push]
 have hns₁:((HL.push { cls:=.type "dict",data:=.dict #[] }).push { cls:=.type "cell",data:=.cell none }).Ns HL.objs.size (fun _=>none):=(Heap.Ns.new HL (.type "dict")).keeps fun b o e=>Heap.get?_push_of_some _ e
 have hcl₁:((HL.push { cls:=.type "dict",data:=.dict #[] }).push { cls:=.type "cell",data:=.cell none }).get? (HL.objs.size+1)=some { cls:=.type "cell",data:=.cell none }:=by
  rw [← Heap.size_push HL { cls:=.type "dict",data:=.dict #[] }];exact Heap.get?_push_size _ rfl
 have old:∀ b o,s2.heap.get? b=some o→((HL.push { cls:=.type "dict",data:=.dict #[] }).push { cls:=.type "cell",data:=.cell none }).get? b=some o:=fun b o e=>Heap.get?_push_of_some _ (Heap.get?_push_of_some _ (hHL▸Heap.get?_push_of_some _ e))
 have hD1:((HL.push { cls:=.type "dict",data:=.dict #[] }).push { cls:=.type "cell",data:=.cell none }).get? s2.heap.objs.size=some { cls:=.type "list",data:=.seq ([]:List Value).toArray }:=
  Heap.get?_push_of_some _ (Heap.get?_push_of_some _ (hHL▸Heap.get?_push_size _ rfl))
 generalize hH1:((HL.push { cls:=.type "dict",data:=.dict #[] }).push { cls:=.type "cell",data:=.cell none })=h₁ at hns₁ hcl₁ old hD1
 show codeAny _ _ (.compStart _ 0 _ _ (compEnvC scope ((x,HL.objs.size+1)::cl) HL.objs.size X.env)) (compPost _ _ _ none _ _ HL.objs.size) { s2 with heap:=h₁ }
 generalize hCC:HL.objs.size=C at hns₁ hcl₁ ⊢
 rw [hCC] at hC
 have bC:∀ b o,s2.heap.get? b=some o→b≠C:=fun b o e=>by rw [hC];exact Nat.ne_of_lt (Nat.lt_succ_of_lt (Heap.lt_size e))
 have bCC:∀ b o,s2.heap.get? b=some o→C+1≠b:=fun b o e=>Nat.ne_of_gt (Nat.lt_trans (Heap.lt_size e) (by rw [hC];exact Nat.lt_succ_of_lt (Nat.lt_succ_self _)))
 have lkc:∀ y c,((x,C+1)::cl).lookup y=some c→(y=x∧c=C+1)∨(y≠x∧cl.lookup y=some c):=fun y c e=>by
  rw [List.lookup_cons] at e
  cases z:y == x with
  | true=>rw [z] at e;exact .inl ⟨eq_of_beq z,(Option.some.inj e).symm⟩
  | false=>rw [z] at e;exact .inr ⟨fun q=>by rw [q] at z;simp at z,e⟩
 have lkx:((x,C+1)::cl).lookup x=some (C+1):=by rw [List.lookup_cons];simp
 have lko:∀ y c,cl.lookup y=some c→((x,C+1)::cl).lookup y=some c:=fun y c e=>by
  rw [List.lookup_cons]
  cases z:y == x with
  | true=>rw [eq_of_beq z,hxcl] at e;cases e
  | false=>exact e
 have oldc:∀ y c,cl.lookup y=some c→C+1≠c:=fun y c e=>by
  obtain ⟨v,oc,hoc,_⟩:=I2.cell y c (hcl _ _ e)
  exact bCC c oc hoc
 have stl:∀ b∈frs X.stack,∃ o,s2.heap.get? b=some o:=fun b hb=>by
  obtain ⟨_,o,ho,_⟩:=I2.stack.mem hb
  exact ⟨o,ho⟩
 have fpl:∀ b∈fp,∃ o,s2.heap.get? b=some o∧∀ v,o.data≠.cell v:=fun b hb=>T.obj 0 _ st2 b hb
 have fpstk:∀ b∈fp,b∉frs X.stack:=fun b hb z=>by
  rcases List.mem_cons.mp (I2.stkSub b z) with z | z
  · exact (f2 b hb).2.1 z
  · exact (f2 b hb).2.2.1 z
 let B:=X.blkC (x::fr) scope cl x C s2 H2 fp
 have okB:B.Ok:=by
  refine ⟨I2.ok.mod,hkind,I2.ok.glob,I2.ok.blt,(by show s2.heap.objs.size≤C;rw [hC];exact Nat.le_succ _),fun y z c e1 e2=>?inj,fun y hy=>?has,fun y c z e=>?cab,
   fun _=>I2.ok.hd hc,I2.ok.frames,.inl rfl,fun b hb=>⟨?fb,fun y c e=>?fc⟩,I2.bs,Nat.le_trans I2.ok.bsz I2.sz,fun b o e hb=>?bs,fun b hb=>fpstk b hb,I2.stack,I2.stkFree⟩
  case inj=>
   rcases lkc _ _ e1 with ⟨q1,q2⟩ | ⟨q1,q2⟩ <;> rcases lkc _ _ e2 with ⟨q3,q4⟩ | ⟨q3,q4⟩
   · rw [q1,q3]
   · exact absurd q2.symm (oldc _ _ q4)
   · exact absurd q4.symm (oldc _ _ q2)
   · exact I2.ok.inj y z c (hcl _ _ q2) (hcl _ _ q4)
  case has=>
   rcases hcl2 y hy with q | ⟨c,q⟩
   · rw [q];exact ⟨_,lkx⟩
   · exact ⟨c,lko _ _ q⟩
  case cab=>
   rcases lkc _ _ e with ⟨q1,q2⟩ | ⟨q1,q2⟩
   · rw [q2];show s2.heap.objs.size≤C+1;rw [hC];exact Nat.le_succ_of_le (Nat.le_succ _)
   · exact absurd (eq_of_beq z) q1
  case fb=>
   obtain ⟨o,e,_⟩:=fpl b hb
   exact bC b o e
  case fc=>
   rcases lkc _ _ e with ⟨q1,q2⟩ | ⟨q1,q2⟩
   · obtain ⟨o,e,_⟩:=fpl b hb
     rw [q2];exact bCC b o e
   · exact (f2 b hb).2.2.2.2.1 y c (hcl _ _ q2)
  case bs=>
   rcases (f2 b hb).2.2.2.1 with z | z
   · exact I2.ok.noex b o e z
   · exact absurd (Nat.lt_of_lt_of_le (Heap.lt_size (I2.ok.bs b o e).1) z) (Nat.lt_irrefl _)
 have IB:∀ tk,Inv B [] (blkSt ix none σ) (upd H2 s2.heap.objs.size (.lst [])) { s2 with heap:=h₁,toks:=tk }:=fun tk=>by
  refine ⟨okB,rfl,I2.bare,Un.laid old (Nat.le_refl _) hDn,⟨_,hns₁,fun j y v e1 e2 e3=>?_⟩,fun y c e=>?_,?_,fun y c e=>?_,(fun p hp=>nomatch hp),I2.hok.laid old (Nat.le_refl _) ⟨Nat.zero_le _,[],0,.nil,hD1⟩,?_⟩
  · cases j with
    | zero=>cases (show (some none:Option (Option V))=some (some v) from e2)
    | succ j=>
     have e1:fr[j]?=some y:=e1
     have e2:(ix.map fun i=>(σ[i]?).join)[j]?=some (some v):=e2
     have hj:=congrArg (fun l=>l[j]?) hix
     simp only [List.getElem?_map,e1] at hj
     rw [List.getElem?_map] at e2
     cases hij:ix[j]? with
     | none=>rw [hij] at e2;cases e2
     | some i=>
      rw [hij] at hj e2
      have hj:X.N[i]?=some y:=Option.some.inj hj
      have e2:(σ[i]?).join=some v:=Option.some.inj e2
      have e2:σ[i]?=some (some v):=by
       cases z:σ[i]? with
       | none=>rw [z] at e2;cases e2
       | some z'=>rw [z] at e2;rw [show z'=some v from e2]
      obtain ⟨m,hn,hl⟩:=I2.loc
      have hk:=hfr y (List.mem_of_getElem? e1)
      obtain ⟨u,ru,lk⟩:=hl i y v hj e2 (.inr (.inl hk.1))
      refine ⟨u,ru,.inr ⟨.inl hk.2,?_⟩⟩
      rcases lk with ⟨z,_⟩ | ⟨_,c,ec,⟨oc,hoc,hcd⟩⟩
      · rw [hk.1] at z;cases z
      · rcases hcl2 y (.inl hk.2) with q | ⟨c',ec'⟩
        · rw [q] at e1
          exact absurd (List.mem_of_getElem? e1) (List.nodup_cons.mp hN).1
        · have:=hcl _ _ ec'
          rw [ec] at this;cases this
          exact ⟨c,lko _ _ ec',oc,old c oc hoc,hcd⟩
  · rcases lkc _ _ e with ⟨q1,q2⟩ | ⟨q1,q2⟩
    · rw [q2];exact ⟨_,_,hcl₁,rfl⟩
    · obtain ⟨v,oc,hoc,hcd⟩:=I2.cell y c (hcl _ _ q2)
      exact ⟨v,oc,old c oc hoc,hcd⟩
  · show upd H2 s2.heap.objs.size (.lst []) C=none
    rw [upd_ne (by rw [hC];exact Nat.succ_ne_self _)]
    exact I2.hok.fresh (by rw [hC];exact Nat.le_succ _)
  · rcases lkc _ _ e with ⟨q1,q2⟩ | ⟨q1,q2⟩
    · rw [q2,upd_ne (by rw [hC];exact Nat.ne_of_gt (Nat.lt_succ_of_lt (Nat.lt_succ_self _)))]
      exact I2.hok.fresh (by rw [hC];exact Nat.le_succ_of_le (Nat.le_succ _))
    · obtain ⟨v,oc,hoc,hcd⟩:=I2.cell y c (hcl _ _ q2)
      rw [upd_ne (Nat.ne_of_lt (Heap.lt_size hoc))]
      exact I2.freeC y c (hcl _ _ q2)
  · show (blkSt ix none σ).length=(x::fr).length
    have:=congrArg List.length hix
    simp only [List.length_map] at this
    simp [blkSt,this]
 have st1:∀ tk,tn 0 ({ s2 with heap:=h₁,toks:=tk }:Shared).heap:=fun _=>T.keep 0 _ _ st2 fun b hb o e=>old b o e
 have fB:∀ {H':Hp},(∀ b∈fp,H' b=none)→∀ b∈fp,FpOk B [] H' b:=fun hn b hb=>by
  obtain ⟨o,e,_⟩:=fpl b hb
  refine ⟨hn b hb,bC b o e,fpstk b hb,.inl hb,fun y c ec=>?_,(fun p hp=>nomatch hp)⟩
  rcases lkc _ _ ec with ⟨q1,q2⟩ | ⟨q1,q2⟩
  · rw [q2];exact bCC b o e
  · exact (f2 b hb).2.2.2.2.1 y c (hcl _ _ q2)
 have loop:∀ tk,codeAny (model X.prog X.w) X.A (.compLoop (.ListComp elt [⟨.Name x px,iter,[],0⟩] scope pos) 0 (.ref it) (.ref s2.heap.objs.size) (compEnvC scope ((x,C+1)::cl) C X.env))
   (compPost (model X.prog X.w) X.A X.xe none (EP X pins σ Q) (.ref s2.heap.objs.size) C) { s2 with heap:=h₁,toks:=tk }:=fun tk=>by
  refine codeAny_loop rfl (fun n s'=>∃ i ys x' H',Inv B [] (blkSt ix x' σ) H' s'∧tn i s'.heap∧(∀ b∈fp,H' b=none)∧W i n ys H') (fun n s3 hI=>?_) m0 ⟨0,[],none,_,IB tk,st1 tk,fun b hb=>?_,w0⟩
  · obtain ⟨i,ys,x',H3,I3,st3,fr3,w3⟩:=hI
    show wpAny _ _ ((compTurn (.ListComp elt [⟨.Name x px,iter,[],0⟩] scope pos) 0 (.ref it) (.ref s2.heap.objs.size) (compEnvC scope ((x,C+1)::cl) C X.env)).onRaise (fun zz=>do noteFrame zz (compEnvC scope ((x,C+1)::cl) C X.env);theTreesLotGoes zz)) _ _ s3
    refine wpAny_noted ?_
    rw [compTurn_list1]
    obtain ⟨hD3,alt⟩:=turn i n ys H3 w3
    refine wpAny_bind (wpAny_standAt (wpAny_bind ?_))
    rcases alt with ⟨stop,qn⟩ | ⟨go,hlen,step⟩
    · refine thn (T.done B rfl rfl rfl hc i [] s3 _ H3 _ I3 (fB fr3) st3 stop) fun r s4 ⟨hr,I4⟩=>?_
      subst hr
      refine wpAny_pure ?_
      obtain ⟨m4,hn4,_⟩:=I4.loc
      refine ⟨m4,hn4,fun h' sb=>?_⟩
      have un:Un (frs X.stack) fp H2 H3 s2.heap h':=by
       have u:=I4.base
       refine ⟨fun b o e n hb hx=>(sb.2 b (bC b o e)).trans (u.keep b o e n hb hx),fun b o e n hb hx=>?_,u.free,fun b o e hx=>?_,u.tups,u.frzs,u.tbls⟩
       · obtain ⟨sl,e1⟩:=u.slot b o e n hb hx
         exact ⟨sl,(sb.2 b (bC b o e)).trans e1⟩
       · obtain ⟨o',e1⟩:=u.there b o e hx
         exact ⟨o',(sb.2 b (bC b o e)).trans e1⟩
      refine ⟨.ref s2.heap.objs.size,H3,I2.call' (s':={ s4 with heap:=h' }) (ch:=fp) I4.os un (I4.hok.sameBut I4.free sb) I4.bare (fun b hb=>⟨(f2 b hb).2.2.2.1,(f2 b hb).2.1,(f2 b hb).2.2.2.2⟩),rfl,qn⟩
    · refine thn (T.item B rfl rfl rfl hc i [] s3 _ H3 _ I3 (fB fr3) st3 go) fun r s4 ⟨u,hr,h4⟩=>?_
      subst hr
      refine wpAny_bind (thn h4 fun _ s5 ⟨xv,H5,I5,r5,y5,st5,fr5⟩=>?_)
      have I5':=I5.pinned (fB fr5) (T.obj _ _ st5)
      refine wpAny_bind (wpAny_assign_Name (store_ok (i:=0) (X:=B) I5' hN rfl (.inr hx) r5 (fun s6 I6=>?_) (.inl (beq_self_eq_true x))))
      have I6:Inv B ([]++pinsAt fp s5.heap) (blkSt ix (some xv) σ) H5 s6:=I6
      refine wpAny_bind (wpAny_bind (wpAny_mono (he C s2 H2 fp _ s6 _ H5 _ I6 (step xv H5 y5)) (fun v s7 ⟨y,H7,I7,r7,hD7,m',hm,w7⟩=>?_) fun _ _ z=>False.elim z))
      refine wpAny_bind (wpAny_mono (mt_append (X:=B) _ s7 _ H7 (.ref s2.heap.objs.size) [y] (.ref s2.heap.objs.size) [v] (fun _ H8=>H8=upd H7 s2.heap.objs.size (.lst (ys++[y]))) I7 rfl (.cons r7 .nil) ⟨_,ys,y,rfl,rfl,hD7,hlen,rfl⟩)
       (fun _ s8 ⟨_,H8,I8,_,e8⟩=>?_) fun _ _ z=>False.elim z)
      subst e8
      refine wpAny_pure (wpAny_pure ⟨rfl,m',hm,i+1,ys++[y],some xv,_,I8.unpinned,T.keep _ _ _ st5 fun b hb o e=>(I8.pin (b,o) (List.mem_append_right _ (List.mem_append_right _ (mem_pinsAt hb e)))).1,fun b hb=>?_,w7⟩)
      obtain ⟨o,e,d⟩:=T.obj _ _ st5 b hb
      exact (I8.pin (b,o) (List.mem_append_right _ (List.mem_append_right _ (mem_pinsAt hb e)))).2.1
  · obtain ⟨o,e,_⟩:=fpl b hb
    rw [upd_ne (Nat.ne_of_lt (Heap.lt_size e))]
    exact (f2 b hb).1
 exact codeAny_compStart_list (loop _) (T.self _ 0 _ _ _ (st1 _) (loop _))
end
section
variable {X:Cx}{e:Expr}{te:TE}{pos:Pos}
theorem pe_compC {x:Str}{px:Pos}{elt iter:Expr}{scope:Scope}{cl:List (Str × Addr)}{wi:TI} (fr:List Str) (ix:List Nat)
  (hi:PI X (.Name x px) iter wi) (he:∀ C s H fp,PE (X.blkC (x::fr) scope cl x C s H fp) elt te)
  (hcl:∀ y c,cl.lookup y=some c→X.env.cells.lookup y=some c)
  (hclos:closureFor scope X.env=pure cl:=by rfl) (hc:X.calm=true:=by rfl) (hkind:scope.kind=.function:=by rfl) (hcells:∀ n,cellsFrom n scope.names cl=(x,n)::cl:=by intro _;rfl)
  (hpush:∀ h:Heap,pushCells h scope.names=h.push { cls:=.type "cell",data:=.cell none }:=by intro _;rfl) (hxcl:cl.lookup x=none:=by rfl)
  (hnames:(scope.names.all fun p=>p.2 != .local || scope.names.lookup p.1 == some .local)=true:=by rfl) (hx:(relabel scope X.env).names.lookup x=some .cell:=by rfl)
  (hN:(x::fr).Nodup:=by decide+kernel) (hix:ix.map (fun i=>X.N[i]?)=fr.map some:=by rfl)
  (hfr:(fr.all fun y=>X.env.kindOf y == some .cell && (relabel scope X.env).names.lookup y == some .cell)=true:=by rfl)
  (hcl2:((relabel scope X.env).names.all fun p=>(p.2 != .cell && p.2 != .free) || (p.1 == x || (cl.lookup p.1).isSome))=true:=by rfl)
  (hs:∀ x,foldedSetIterable iter X.env x=pure x:=by intro _;rfl):
  PE X (.ListComp elt [⟨.Name x px,iter,[],0⟩] scope pos) (tCompW wi ix te):=by
 refine pe_lcompC hc hi hclos hkind hcells hpush hxcl (fun y hy e=>?_) hx hN hix (fun y hy=>?_) hcl (fun y hy=>?_) he hs
 · have:=List.all_eq_true.mp hnames y hy
   rw [e] at this
   simpa using this
 · have:=List.all_eq_true.mp hfr y hy
   rw [Bool.and_eq_true] at this
   exact ⟨eq_of_beq this.1,eq_of_beq this.2⟩
 · have:∃ k,(relabel scope X.env).names.lookup y=some k∧(k=.cell∨k=.free):=by
     rcases hy with h | h
     · exact ⟨_,h,.inl rfl⟩
     · exact ⟨_,h,.inr rfl⟩
   obtain ⟨k,e,hk⟩:=this
   have:=List.all_eq_true.mp hcl2 (y,k) (PySem.mem_of_lookup e)
   have h2:(y == x || (cl.lookup y).isSome)=true:=by
    rcases hk with rfl | rfl <;> simpa using this
   rcases Bool.or_eq_true _ _ |>.mp h2 with h | h
   · exact .inl (eq_of_beq h)
   · exact .inr (Option.isSome_iff_exists.mp h)
theorem comp_list {K:PySem.W.Frag}{a:Addr}{xs:List V}{ix:List Nat}{te:TE}{σ:St}{H:Hp}{Q:VK}
  (h:∀ D,H D=none→∃ Pv:Nat→List V→Hp→Prop,Pv 0 [] (upd H D (.lst []))∧(∀ i ys H2,i≤xs.length→Pv i ys H2→SqL K H2 a xs∧H2 D=some (.lst ys)∧ys.length < sizeLine)∧
   (∀ i x ys H2,xs[i]?=some x→Pv i ys H2→∀ Q':VK,(∀ y H3,H3 D=some (.lst ys)→Pv (i+1) (ys++[y]) (upd H3 D (.lst (ys++[y])))→Q' y H3)→te (blkSt ix (some x) σ) H2 Q')∧∀ ys H2,Pv xs.length ys H2→Q (.ref D) H2):
  Wr (rComp (Itl K a) ix te σ H Q):=by
 refine ⟨fun D hD=>?_⟩
 obtain ⟨Pv,p0,pl,ps,pq⟩:=h D hD
 refine ⟨fun i m ys H2=>m=xs.length - i∧i≤xs.length∧Pv i ys H2,⟨xs.length,by simp,Nat.zero_le _,p0⟩,?_⟩
 rintro i m ys H2 ⟨rfl,hi,p⟩
 obtain ⟨e0,e1,e2⟩:=pl i ys H2 hi p
 refine ⟨e1,?_⟩
 by_cases hlt:i < xs.length
 · refine .inr ⟨⟨_,xs[i],e0,by simp [hlt]⟩,e2,fun x H' y=>?_⟩
   obtain ⟨e,y⟩:=y
   subst e
   exact ps i x ys _ (y _ e0) p _ fun y H3 e3 p3=>⟨e3,xs.length - (i+1),by omega,rfl,hlt,p3⟩
 · have e:i=xs.length:=by omega
   subst e
   exact .inl ⟨⟨_,e0,Nat.le_refl _⟩,pq ys H2 p⟩
theorem compIf_list {K:PySem.W.Frag}{a:Addr}{xs:List V}{ix:List Nat}{tt:TT}{te:TE}{σ:St}{H:Hp}{Q:VK}
  (h:∀ D,H D=none→∃ Pv:Nat→List V→Hp→Prop,Pv 0 [] (upd H D (.lst []))∧(∀ i ys H2,i≤xs.length→Pv i ys H2→SqL K H2 a xs∧H2 D=some (.lst ys)∧ys.length < sizeLine)∧
   (∀ i x ys H2,xs[i]?=some x→Pv i ys H2→∀ (Q1:V→Hp→Prop) (Q0:Hp→Prop),(∀ y H3,H3 D=some (.lst ys)→Pv (i+1) (ys++[y]) (upd H3 D (.lst (ys++[y])))→Q1 y H3)→(∀ H3,Pv (i+1) ys H3→Q0 H3)→
    tt (blkSt ix (some x) σ) H2 fun b H3=>if b=true then te (blkSt ix (some x) σ) H3 Q1 else Q0 H3)∧∀ ys H2,Pv xs.length ys H2→Q (.ref D) H2):
  Wr (rCompIf (Itl K a) ix tt te σ H Q):=by
 refine ⟨fun D hD=>?_⟩
 obtain ⟨Pv,p0,pl,ps,pq⟩:=h D hD
 refine ⟨fun i m ys H2=>m=xs.length - i∧i≤xs.length∧Pv i ys H2,⟨xs.length,by simp,Nat.zero_le _,p0⟩,?_⟩
 rintro i m ys H2 ⟨rfl,hi,p⟩
 obtain ⟨e0,e1,e2⟩:=pl i ys H2 hi p
 refine ⟨e1,?_⟩
 by_cases hlt:i < xs.length
 · refine .inr ⟨⟨_,xs[i],e0,by simp [hlt]⟩,e2,fun x H' y=>?_⟩
   obtain ⟨e,y⟩:=y
   subst e
   exact ps i x ys _ (y _ e0) p _ _ (fun y H3 e3 p3=>⟨e3,xs.length - (i+1),by omega,rfl,hlt,p3⟩) fun H3 p3=>⟨xs.length - (i+1),by omega,rfl,hlt,p3⟩
 · have e:i=xs.length:=by omega
   subst e
   exact .inl ⟨⟨_,e0,Nat.le_refl _⟩,pq ys H2 p⟩
theorem compIf_range {lo:Int}{n:Nat}{ix:List Nat}{tt:TT}{te:TE}{σ:St}{H:Hp}{Q:VK}
  (h:∀ D,H D=none→∃ Pv:Nat→List V→Hp→Prop,Pv 0 [] (upd H D (.lst []))∧(∀ i ys H2,Pv i ys H2→H2 D=some (.lst ys)∧ys.length < sizeLine)∧
   (∀ i ys H2,i < n→Pv i ys H2→∀ (Q1:V→Hp→Prop) (Q0:Hp→Prop),(∀ y H3,H3 D=some (.lst ys)→Pv (i+1) (ys++[y]) (upd H3 D (.lst (ys++[y])))→Q1 y H3)→(∀ H3,Pv (i+1) ys H3→Q0 H3)→
    tt (blkSt ix (some (.int (lo+i))) σ) H2 fun b H3=>if b=true then te (blkSt ix (some (.int (lo+i))) σ) H3 Q1 else Q0 H3)∧∀ ys H2,Pv n ys H2→Q (.ref D) H2):
  Wr (rCompIf (Itr lo n) ix tt te σ H Q):=by
 refine ⟨fun D hD=>?_⟩
 obtain ⟨Pv,p0,pl,ps,pq⟩:=h D hD
 refine ⟨fun i m ys H2=>m=n - i∧i≤n∧Pv i ys H2,⟨n,by simp,Nat.zero_le _,p0⟩,?_⟩
 rintro i m ys H2 ⟨rfl,hi,p⟩
 obtain ⟨e1,e2⟩:=pl i ys H2 p
 refine ⟨e1,?_⟩
 by_cases hlt:i < n
 · refine .inr ⟨hlt,e2,fun x H' y=>?_⟩
   obtain ⟨e,y⟩:=y
   subst e y
   exact ps i ys _ hlt p _ _ (fun y H3 e3 p3=>⟨e3,n - (i+1),by omega,rfl,hlt,p3⟩) fun H3 p3=>⟨n - (i+1),by omega,rfl,hlt,p3⟩
 · have e:i=n:=by omega
   subst e
   exact .inl ⟨Nat.le_refl _,pq ys H2 p⟩
def rIdx (K:PySem.W.Frag):V→List V→Hp→VK→Prop:=fun x vs H Q=>∃ l xs y j,x=.ref l∧vs=[y]∧SqL K H l xs∧flatV y=true∧xs.all flatV=true∧j < xs.length∧(xs[j]?.map fun z=>eqV z y)=some true∧(∀ m,m < j→(xs[m]?.map fun z=>eqV z y)=some false)∧Q (.int (j:Nat)) H
theorem eqU_at {x:V}{xs:List V}{us:List Value} (r:Vals xs us) (f:xs.all flatV=true) (m:Nat):us[m]?.map (eqU x)=xs[m]?.map fun z=>eqV z x:=by
 induction r generalizing m with
 | nil=>rfl
 | cons h t ih=>
  rw [List.all_cons,Bool.and_eq_true] at f
  cases m with
  | zero=>simp [eqU_of h f.1]
  | succ m=>simpa using ih f.2 m
theorem mt_lindex:MtM X "list.index" (rIdx X.K):=by
 intro pins s σ H x vs v us Q I rx rv h
 obtain ⟨l,xs,y,j,rfl,rfl,hq,fy,fx,hj,h1,h0,q⟩:=h
 cases rx
 obtain ⟨u,rfl,ru⟩:=rv.one
 obtain ⟨its,r,pl,hz⟩:=I.list hq
 obtain ⟨⟨cls,dd,data,sl⟩,ho,hc,n,hd⟩:=id pl.isList
 simp only at hc hd
 subst hc hd
 have hl:=r.length
 have at':∀ (m:Nat) (hm:m < its.toArray.size),(xs[m]?.map fun z=>eqV z y)=some (eqU y its.toArray[m]):=fun m hm=>by
  rw [← eqU_at r fx m,List.getElem?_eq_getElem (by simpa using hm)]
  simp
 have hj':j < its.toArray.size:=by simp;omega
 refine call_meets PySem.F.slot_list_index ⟨_,ho,rfl⟩ PySem.F.entry_list_index (PySem.F.args_list_index_2 _ _) (SeqAt.list_indexAt l its.toArray n dd sl u (eqU y) j hj' ?_ ?_ ?_) ⟨ho,fun w hw=>mem_eqAt ru fy r fx w (by simpa using hw),⟨.int _,H,I.tok _,⟨_,rfl⟩,q⟩⟩
 · have:xs.length < 2 ^ 62:=Nat.lt_of_le_of_lt hz (by decide)
   omega
 · rw [at' j hj'] at h1;exact Option.some.inj h1
 · intro m hm hlt
   have:=h0 m hlt
   rw [at' m hm] at this
   exact Option.some.inj this
end
section
variable {X:Cx}{x:Str}{px pos:Pos}{elt iter:Expr}{scope:Scope}{cl:List (Str × Addr)}{fr:List Str}{ix:List Nat}{wi:TI}{te:TE}{tt:TT}{ifs:List Expr}
variable {nmT:Str}{py spos:Pos}{kT:Nat}
theorem ps_gen (k:CompB X scope cl x fr ix iter) (hi:PI X (.Name x px) iter wi) (hcl:∀ y c,cl.lookup y=some c→X.env.cells.lookup y=some c)
  (he:∀ C s H fp,PE (X.blk (x::fr) scope cl C s H fp) elt te) (hif:OneIf (fun Y=>∃ C s H fp,Y=X.blk (x::fr) scope cl C s H fp) ifs tt) (hNX:X.N.Nodup) (hkT:X.N[kT]?=some nmT) (hyT:Loc X.env.scope nmT)
  (hsw:swapsWith (.ListComp elt [⟨.Name x px,iter,ifs,0⟩] scope pos) (some (.Name nmT py)) spos.line X.env=pure true) (hf:X.fn nmT=true∨X.env.scope.names.lookup nmT=some .local)
  {RR:St→VK→It→Hp→Prop} (hR:∀ σ Q J H1,RR σ Q J H1→Wr (rCompIf J ix tt te σ H1 Q)):
  PS X (.Assign [.Name nmT py] (.ListComp elt [⟨.Name x px,iter,ifs,0⟩] scope pos) spos) (tAsg (fun σ H Q=>wi σ H (RR σ Q)) (gName kT)):=by
 intro pins s σ H DE I h
 have h:wi σ H (RR σ (fun x H1=>DE.nx (σ.set kT (some x)) H1)):=h
 rw [exec_Assign_Name_used _ _ _ _ hsw]
 refine wpAny_bind (wpAny_standAt (wpAny_bind ?_))
 show wpAny _ X.A (do let _ ← comprehension (.ListComp elt [⟨.Name x px,iter,ifs,0⟩] scope pos) scope X.env _ (newList []) false (eval iter X.env) (some (assign (.Name nmT py) X.env))) _ _ s
 refine wpAny_bind (wpAny_mono (lcomp_gen (use:=some (assign (.Name nmT py) X.env)) (Post:=fun _ s'=>SP X pins DE .next s') k hi hcl he hif I h (hR σ _) fun s2 s4 H2 H3 fp C x' I2 f2 hC bC I4 qn _=>?_) (fun _ s' hq=>wpAny_pure (wpAny_pure hq)) fun _ _ e=>e)
 obtain ⟨m4,hn4,_⟩:=I4.loc
 have IX:Inv X pins σ H3 s4:=I2.call' (s':=s4) (ch:=fp) I4.os I4.base I4.hok I4.bare (fun b hb=>⟨(f2 b hb).2.2.2.1,(f2 b hb).2.1,(f2 b hb).2.2.2.2⟩)
 have hCL:C≠X.env.locals:=by
  obtain ⟨mL,hnL,_⟩:=I2.loc
  rw [hC]
  exact Nat.ne_of_gt (Nat.lt_succ_of_lt hnL.lt)
 show wpAny _ _ (assign (.Name nmT py) X.env (.ref s2.heap.objs.size)) _ _ s4
 refine wpAny_assign_Name (store_ok2 (v:=.ref s2.heap.objs.size) IX hNX hkT hyT rfl (fun s5 I5 ⟨a5,sb5,ha5⟩=>?_) hf)
 have nCa:C≠a5:=by
  rcases ha5 with rfl | ha5
  · exact hCL
  · obtain ⟨v,oc,hoc,_⟩:=I2.cell _ _ ha5
    exact (bC _ _ hoc).symm
 refine ⟨m4,hn4.sameBut sb5 nCa,fun h' sb=>⟨σ.set kT (some (.ref s2.heap.objs.size)),H3,?_,qn⟩⟩
 refine I5.call' (s':={ s5 with heap:=h' }) (ch:=[C]) rfl ⟨fun b o e n hb hx=>(sb.2 b (fun z=>hx (z▸List.mem_singleton_self _))).trans e,fun b o e n hb hx=>⟨o.slots,(sb.2 b (fun z=>hx (z▸List.mem_singleton_self _))).trans e⟩,fun b o e n hx=>n,fun b o e hx=>⟨o,(sb.2 b (fun z=>hx (z▸List.mem_singleton_self _))).trans e⟩,fun b xs e=>e,fun b o u e=>e,fun b ps e=>⟨#[],by rw [Array.append_empty];exact e⟩⟩ (I5.hok.sameBut I4.free sb) I5.bare fun b hb=>?_
 rw [List.mem_singleton.mp hb]
 refine ⟨.inr (Nat.le_trans I2.sz (by rw [hC];exact Nat.le_succ _)),hCL,fun x c e=>?_,fun p hp=>?_⟩
 · obtain ⟨v,oc,hoc,_⟩:=I2.cell x c e
   exact bC _ _ hoc
 · exact bC _ _ (I2.pin p hp).1
theorem ps_compW (kT:Nat) (fr:List Str) (ix:List Nat) (hNX:X.N.Nodup) (hi:PI X (.Name x px) iter wi) (he:∀ C s H fp,PE (X.blk (x::fr) scope cl C s H fp) elt te) (hcl:∀ y c,cl.lookup y=some c→X.env.cells.lookup y=some c)
  (hkT:X.N[kT]?=some nmT:=by rfl) (hyT:Loc X.env.scope nmT:=by first | exact .inl rfl | exact .inr rfl)
  (k:CompB X scope cl x fr ix iter:=by exact ⟨rfl,rfl,rfl,rfl,rfl,rfl,by decide+kernel,rfl,rfl,rfl,fun _=>rfl⟩)
  (hsw:swapsWith (.ListComp elt [⟨.Name x px,iter,[],0⟩] scope pos) (some (.Name nmT py)) spos.line X.env=pure true:=by rfl) (hf:X.fn nmT=true∨X.env.scope.names.lookup nmT=some .local:=by first | exact .inl rfl | exact .inr rfl | assumption):
  PS X (.Assign [.Name nmT py] (.ListComp elt [⟨.Name x px,iter,[],0⟩] scope pos) spos) (tAsg (tCompW wi ix te) (gName kT)):=ps_gen k hi hcl he one_nil hNX hkT hyT hsw hf fun _ _ _ _ h=>comp_true h
theorem ps_compIf {ct:Expr} (kT:Nat) (fr:List Str) (ix:List Nat) (hNX:X.N.Nodup) (hi:PI X (.Name x px) iter wi) (ht:∀ C s H fp,PT (X.blk (x::fr) scope cl C s H fp) ct tt) (he:∀ C s H fp,PE (X.blk (x::fr) scope cl C s H fp) elt te) (hcl:∀ y c,cl.lookup y=some c→X.env.cells.lookup y=some c)
  (hkT:X.N[kT]?=some nmT:=by rfl) (hyT:Loc X.env.scope nmT:=by first | exact .inl rfl | exact .inr rfl)
  (k:CompB X scope cl x fr ix iter:=by exact ⟨rfl,rfl,rfl,rfl,rfl,rfl,by decide+kernel,rfl,rfl,rfl,fun _=>rfl⟩)
  (hsw:swapsWith (.ListComp elt [⟨.Name x px,iter,[ct],0⟩] scope pos) (some (.Name nmT py)) spos.line X.env=pure true:=by rfl) (hf:X.fn nmT=true∨X.env.scope.names.lookup nmT=some .local:=by first | exact .inl rfl | exact .inr rfl | assumption):
  PS X (.Assign [.Name nmT py] (.ListComp elt [⟨.Name x px,iter,[ct],0⟩] scope pos) spos) (tAsg (tCompIfW wi ix tt te) (gName kT)):=ps_gen k hi hcl he (one_if ht) hNX hkT hyT hsw hf fun _ _ _ _ h=>h
end
section
variable {X:Cx}{l o:Expr}{tl ta:TE}{tg:Expr}{f:Str}{pos:Pos} (K:PySem.W.Frag)
theorem ixl (e:X.K=K):IxR X (wr2 (rIxL K)):=by subst e;exact ix_l
theorem pil (e:X.K=K) (hl:PE X l tl):PI X tg l (iList K tl):=by subst e;exact pi_list hl
theorem pfl (e:X.K=K) (he:PE X o ta) (hb:attributeBase o f X.env (eval o X.env)=eval o X.env):PE X (.Attribute o f pos) (tFld K ta f):=by subst e;exact pe_fld he hb
theorem lenK (e:X.K=K):CallR X (.builtin "len") (fun xs H Q=>∃ p ys,xs=[.ref p]∧(SqL K H p ys∨SqT K H p ys)∧Q (.int ys.length) H):=by subst e;exact call_len_seq
theorem listK (e:X.K=K):CallR X (.type "list") (fun xs H Q=>Wr (rList K xs H Q)):=by subst e;exact call_listR
theorem idxK (e:X.K=K):MtM X "list.index" (rIdx K):=by subst e;exact mt_lindex
theorem inK (e:X.K=K):OpR X (compareOp .In) (rIn K false):=by subst e;exact op_in_seq
theorem bmK {T:String}{name:Str}{r:V→List V→Hp→VK→Prop}{to:TE}{t:TA}{e:Expr}{es:List Expr}{apos:Pos} (hK:X.K=K) (h:PE X (.Call (.Attribute o name apos) (e::es) [] pos) (tBM X.K T r to t)):PE X (.Call (.Attribute o name apos) (e::es) [] pos) (tBM K T r to t):=by subst hK;exact h
end
end L2
namespace PySem.W
open PySem PySem.Spec PySem.Calls PyProof.Rows
end PySem.W
namespace L2
open PySem PySem.Spec PyProof.Rows
section
variable {P:Program}{w:World}{H H':Hp}{h h':Heap}{a:Addr}{o:HO}
theorem ObjOk.has (x:ObjOk P w H h a o):∃ u,h.get? a=some u:=by
 cases o with
 | lst xs=>obtain ⟨_,_,_,_,e⟩:=x;exact ⟨_,e⟩
 | tup xs=>obtain ⟨_,_,_,o,e,_⟩:=x;exact ⟨_,e⟩
 | dK kvs=>obtain ⟨_,_,_,_,o,_,_,e,_⟩:=x;exact ⟨_,e⟩
 | dT kvs=>obtain ⟨_,_,_,_,o,_,_,e,_⟩:=x;exact ⟨_,e⟩
 | set S n=>obtain ⟨o,_,_,_,e,_⟩:=x;exact ⟨_,e⟩
 | ins C dx fs=>obtain ⟨_,_,_,e,_⟩:=x;exact ⟨_,e⟩
 | own y=>obtain ⟨_,e⟩:=x;exact ⟨_,e⟩
 | xd fs=>obtain ⟨_,⟨_,_,_,e,_⟩,_⟩:=x;exact ⟨_,e⟩
 | rng lo hi=>obtain ⟨_,_,_,e⟩:=x;exact ⟨_,e⟩
 | frz ob u=>obtain ⟨e,_⟩:=x;exact ⟨_,e⟩
 | tbl ps=>exact ⟨_,(show h.get? a=some _ from x)⟩
 | met f y=>exact ⟨_,(show h.get? a=some _ from x)⟩
 | ext φ=>obtain ⟨_,⟨_,e⟩,_⟩:=x;exact ⟨_,e⟩
theorem HOk.only (x:HOk P w H h) (k:∀ b u,H b≠none→h.get? b=some u→h'.get? b=some u):HOk P w H h':=fun a o e=>
 (x a o e).stay (fun b u hb q=>k b u (by
  rcases hb with hb | hb
  · rw [hb,e];exact fun z=>nomatch z
  · rw [hb];exact fun z=>nomatch z) q) (fun _ q=>q) fun _ _ q=>q
end
def FlAt (B:Heap) (l:List Env) (e:Addr) (cls a0 fl:Value) (h:Heap):Prop:=B.StaysIn h∧B.get? e=none∧h.FunFrames B l∧h.TracedAtW B e cls a0 fl
section
variable {M:Model}{A:Around}{E:Value→Shared→Prop}{s:Shared}{B:Heap}{env:Env}{outer l:List Env}{L e:Addr}{cls a0 fl:Value}{Q:Unit→Shared→Prop}
theorem note_fl (hfr:A.frames=some (env::outer)) (hf:env.frame=some L) (h:FlAt B (env::outer) e cls a0 fl s.heap)
  (hQ:∀ h',FlAt B (env::outer) e cls a0 (rawInt L) h'→s.heap.UpToSlots h'→Q () { s with heap:=h' }):wpAny M A (noteFrame (.ref e) env) Q E s:=by
 by_cases hfl:(fl == rawInt L)=true
 · have:fl=rawInt L:=beq_iff_eq.mp hfl
   subst this
   exact wpAny_noteFrame_againW hf h.2.2.2 (hQ s.heap h (Heap.UpToSlots.refl _))
 obtain ⟨f1,f2,f3,oe,vs,tb,otb,ts,he,⟨hcls,h0⟩,hd,h1,hntb,htbe,htb,hdtb,h3⟩:=h
 subst hcls
 have rest:∀ b,b≠tb→(s.heap.update tb (Obj.mapFields (·.setIfInBounds 3 Value.none))).get? b=s.heap.get? b:=fun b hb=>Heap.get?_update_other _ _ (Ne.symm hb)
 have noRec:∀ b o,s.heap.get? b=some o→(∀ vs,o.data≠.fields vs)→b≠tb:=fun b o hb hnf q=>by
  rw [q,htb] at hb
  cases hb
  exact hnf ts hdtb
 unfold noteFrame
 simp only [hf]
 refine wpAny_bind (wpAny_field he hd h1 ?_)
 rw [if_pos (show (Value.ref tb != Value.none)=true from by simp)]
 refine wpAny_bind (wpAny_field htb hdtb h3 ?_)
 rw [if_neg hfl]
 refine wpAny_bind (wpAny_setField htb hdtb (Array.getElem?_eq_some_iff.mp h3).1 ?_)
 refine wpAny_entryW hfr (f3.of_keeps fun b o hb hnf=>⟨o,(rest b (noRec b o hb hnf)).trans hb,rfl⟩) hf ((rest e (Ne.symm htbe)).trans he)
  (fun b o hbo=>(rest b fun q=>by rw [q,hntb] at hbo;cases hbo).trans (f1 b o hbo)) f2 hd (Array.getElem?_eq_some_iff.mp h1).1 h0 fun h' ⟨x1,x2,x3,x4⟩=>?_
 exact hQ h' ⟨x1,f2,x2,x3⟩ fun b o hb hnf=>x4 b o ((rest b (noRec b o hb hnf)).trans hb) hnf
theorem land_fl (h:FlAt B l e cls a0 fl s.heap) (hQ:∀ h',FlAt B l e cls a0 .none h'→s.heap.UpToSlots h'→Q () { s with heap:=h' }):wpAny M A (setFlight (.ref e) none) Q E s:=
 wpAny_setFlight_noneW h.1 h.2.2.1 h.2.2.2 fun h' k1 k2 k3 k4=>hQ h' ⟨k1,h.2.1,k2,k3⟩ fun b o hb hn=>⟨o.slots,k4 b o hb hn⟩
theorem leave_fl (hfr:A.frames=some (env::outer)) (hf:env.frame=some L) (h:FlAt B (env::outer) e cls a0 fl s.heap)
  (hQ:∀ h',FlAt B outer e cls a0 .none h'→s.heap.UpToSlots h'→Q () { s with heap:=h' }):wpAny M A (leaving env (.ref e)) Q E s:=by
 unfold leaving
 refine wpAny_bind (note_fl hfr hf h fun h1 x1 u1=>?_)
 refine land_fl (s:={ s with heap:=h1 }) x1 fun h2 x2 u2=>hQ h2 ⟨x2.1,x2.2.1,x2.2.2.1.2.2,x2.2.2.2⟩ (u1.trans u2)
end
structure Hold (B:Heap) (fs ex:List Addr) (H H':Hp) (h h':Heap):Prop where
 a1:∀ b o,H' b≠none→h'.get? b=some o→B.get? b=some o
 a2:∀ b o,h.get? b=some o→H b=none→b∉fs→b∉ex→B.get? b=some o
 a3:∀ b o,h.get? b=some o→b∉fs→b∉ex→∃ o',B.get? b=some o'
section
variable {P:Program}{w:World}{B h h1 h2:Heap}{fs ex:List Addr}{H H':Hp}
theorem un_up (u:Un fs ex H H' h h1) (k:Hold B fs ex H H' h h1) (hB:B.StaysIn h2) (up:h1.UpToSlots h2) (fr:∀ b∈fs,∀ o,h1.get? b=some o→∀ vs,o.data≠.fields vs):Un fs ex H H' h h2 where
 keep:=fun b o q n hb he=>hB _ _ (k.a2 b o q n hb he)
 slot:=fun b o q n hb he=>by
  obtain ⟨sl,e⟩:=u.slot b o q n hb he
  obtain ⟨sl',e'⟩:=up b _ e (fr b hb _ e)
  exact ⟨sl',e'⟩
 free:=u.free
 there:=fun b o q he=>by
  by_cases hb:b∈fs
  · obtain ⟨o',e⟩:=u.there b o q he
    obtain ⟨sl',e'⟩:=up b _ e (fr b hb _ e)
    exact ⟨_,e'⟩
  · obtain ⟨o',e⟩:=k.a3 b o q hb he
    exact ⟨o',hB _ _ e⟩
 tups:=u.tups
 frzs:=u.frzs
 tbls:=u.tbls
theorem hold_up (hok:HOk P w H' h1) (k:Hold B fs ex H H' h h1) (hB:B.StaysIn h2):Hold B fs ex H H' h h2∧HOk P w H' h2:=by
 refine ⟨⟨fun b o n q=>?_,k.a2,k.a3⟩,hok.only fun b u n q=>hB _ _ (k.a1 b u n q)⟩
 cases e:H' b with
 | none=>exact absurd e n
 | some x=>
  obtain ⟨u,hu⟩:=(hok b x e).has
  have:=k.a1 b u n hu
  have z:=hB _ _ this
  rw [q] at z
  cases z
  exact this
end
structure Fly (P:Program) (w:World) (l:List Env) (H H':Hp) (h:Heap) (ea:Addr) (cls:Value) (h':Heap):Prop where
 ex:∃ B a0,FlAt B l ea cls a0 .none h'∧Hold B (frs l) [] H H' h h'
 un:Un (frs l) [] H H' h h'
 hok:HOk P w H' h'
def CXe (P:Program) (w:World):CXT:=fun l H s E e s'=>∃ ea cls H',e=.ref ea∧s'.os=s.os∧AllBare s'.gens∧Fly P w l H H' s.heap ea cls s'.heap∧E cls none H'
def FlI (X:Cx) (pins:List (Addr × Obj)) (σ:St) (E:XK) (e:Value) (s':Shared):Prop:=∃ ea cls H' B a0 fl,e=.ref ea∧Inv X pins σ H' s'∧FlAt B X.stack ea cls a0 fl s'.heap∧
 Hold B X.fs X.ex X.H₀ H' X.s₀.heap s'.heap∧(∀ p∈X.pn++pins,B.get? p.1=some p.2)∧E cls none H'
section
variable {X:Cx}{pins:List (Addr × Obj)}{σ:St}{H H':Hp}{s s':Shared}{B h2:Heap}
theorem Inv.notStk (I:Inv X pins σ H s) {b:Addr}{o:Obj} (e:X.s₀.heap.get? b=some o) (h:b∉X.fs):b∉frs X.stack:=fun z=>by
 rcases List.mem_cons.mp (I.stkSub b z) with q | q
 · exact absurd (Nat.lt_of_lt_of_le (Heap.lt_size e) I.ok.above) (by rw [q];exact Nat.lt_irrefl _)
 · exact h q
theorem Inv.flew {E:XK}{e:Value} (I:Inv X pins σ H s) (h:CXe X.prog X.w X.stack H s E e s'):FlI X pins σ E e s':=by
 obtain ⟨ea,cls,H',rfl,os,bare,F,hE⟩:=h
 obtain ⟨B,a0,fl,k⟩:=F.ex
 refine ⟨ea,cls,H',B,a0,.none,rfl,I.call' os F.un F.hok bare (fun b z=>absurd z (by simp)),fl,⟨k.a1,fun b o e n hb hx=>?_,fun b o e hb hx=>?_⟩,fun p hp=>?_,hE⟩
 · exact k.a2 b o (I.base.keep b o e n hb hx) (I.base.free b o e n hx) (I.notStk e hb) (by simp)
 · obtain ⟨o',e'⟩:=I.base.there b o e hx
   exact k.a3 b o' e' (I.notStk e hb) (by simp)
 · obtain ⟨h1,h2,h3,h4,_⟩:=I.pin p hp
   refine k.a2 p.1 p.2 h1 h2 (fun z=>?_) (by simp)
   rcases List.mem_cons.mp (I.stkSub _ z) with q | q
   · exact h3 q
   · exact h4 q
end
def XeF (X:Cx) (E:XK) (e:Value) (s':Shared):Prop:=(∃ pins σ,FlI X pins σ E e s')∨
 ∃ pins σ H h C ea args,e=.ref ea∧Inv X pins σ H { s' with heap:=h }∧Heap.MadeExcOf h s'.heap ea (.ref C) args∧E (.ref C) none H
section
variable {P:Program}{w:World}{K:PySem.W.Frag}{mg:Str→Option Value}{base:Heap}
theorem Inv.frFields {X:Cx}{pins:List (Addr × Obj)}{σ:St}{H:Hp}{s:Shared} (I:Inv X pins σ H s):∀ b∈X.fs,∀ o,s.heap.get? b=some o→∀ vs,o.data≠.fields vs:=fun b hb o e=>by
 obtain ⟨_,o',e',d⟩:=I.funs.mem hb
 rw [e] at e'
 cases e'
 exact d
theorem Inv.hold {X:Cx}{pins:List (Addr × Obj)}{σ:St}{H:Hp}{s:Shared} (I:Inv X pins σ H s):Hold (PySem.W.hideAll s.heap (frs X.stack)) X.fs X.ex X.H₀ H X.s₀.heap s.heap where
 a1:=fun b o n e=>PySem.W.hideAll_get _ e fun z=>n (I.stkFree b z)
 a2:=fun b o e n hb hx=>PySem.W.hideAll_get _ (I.base.keep b o e n hb hx) (I.notStk e hb)
 a3:=fun b o e hb hx=>by
  obtain ⟨o',e'⟩:=I.base.there b o e hx
  exact ⟨o',PySem.W.hideAll_get _ e' (I.notStk e hb)⟩
theorem XeF.out {N:List Str}{qual:Str}{scope:Scope}{f:Addr}{cd:Value}{A:Around}{outer:List Env}{s:Shared}{H:Hp}{E:XK}{e:Value}{s':Shared} (h:XeF (cxOf (CXe P w) P w K mg base N qual scope f cd A outer s H E) E e s'):
  (cxOf (CXe P w) P w K mg base N qual scope f cd A outer s H E).xe e s':=by
 rcases h with ⟨pins,σ,ea,cls,H',B,a0,fl,rfl,I,F,k,_,hE⟩ | ⟨pins,σ,H',h,C,ea,args,rfl,I,hx,hE⟩
 · refine leave_fl (L:=s.heap.objs.size) I.ok.frames rfl F fun h' F' up=>?_
   obtain ⟨k',hok'⟩:=hold_up I.hok k F'.1
   exact ⟨ea,cls,H',rfl,I.os,I.bare,⟨⟨B,a0,F',k'⟩,un_up I.base k F'.1 up I.frFields,hok'⟩,hE⟩
 · refine wpAny_leaves_madeW (base:=PySem.W.hideAll h (frs (cxOf (CXe P w) P w K mg base N qual scope f cd A outer s H E).stack)) (L:=s.heap.objs.size) (h:=h) I.ok.frames rfl (fun b o q=>PySem.W.of_hideAll _ q)
     (PySem.W.funFrames_hide I.stack fun env he a hf=>List.mem_filterMap.mpr ⟨env,he,hf⟩) hx fun h' t F' _ _ up=>?_
   have k:=I.hold
   obtain ⟨k',hok'⟩:=hold_up I.hok k F'.1
   have up':h.UpToSlots h':=(Heap.UpToSlots.of_keeps hx.keeps).trans up
   exact ⟨ea,.ref C,H',rfl,I.os,I.bare,⟨⟨_,_,F',k'⟩,un_up I.base k F'.1 up' I.frFields,hok'⟩,hE⟩
theorem Fun.okX {x qual:Str}{st:Stmt}{f:Addr}{fd:FuncData}{N ps:List Str}{k:Nat}{sp:Sp} (F:Fun K x qual st f fd) (S:FnScope N ps (defScope st)) (len:∀ vs H Q E,sp vs H Q E→vs.length=ps.length)
  (hbody:∀ (cdv:Value) (A:Around) (outer:List Env) (s:Shared) (H:Hp) (vs:List V) (Q:VK) (E:XK),Room k (A.deeper (envOfC qual (defScope st) s.heap.objs.size f cdv))→sp vs H Q E→
   ∃ t,PSs ((cxOf (CXe P w) P w K mg base N qual (defScope st) f cdv A outer s H E).wish (XeF (cxOf (CXe P w) P w K mg base N qual (defScope st) f cdv A outer s H E) E)) (defBody st) t∧t { nx:=fun _ H'=>Q .non H',rt:=Q } (start N vs) H):FnOk P w K mg base (CXe P w) (k+1) f fd ps sp:=by
 obtain ⟨oc,od,kV,doc,pm,an,cdv,ct,osl,rfl,lk,hcd⟩:=F.ex
 refine fn_of lk hcd S len fun A outer s H vs Q E hr hsp=>?_
 obtain ⟨t,h,q⟩:=hbody cdv A outer s H vs Q E hr hsp
 exact ⟨t,fun pins s1 σ1 H1 D I hw=>wpAny_mono (h pins s1 σ1 H1 D (I.wish _) hw) (fun _ _ q=>q.unwish) fun _ _ z=>XeF.out z,q⟩
end
abbrev veMro:List Value:=[.type "ValueError",.type "Exception",.type "BaseException",.type "object"]
def VeP (K:PySem.W.Frag) (C:Addr):Prop:=∃ (dd:Option Addr) (nm qn:Str) (bs sub:List Value) (B ns:Addr) (hd ab:Bool) (sn:List Str) (col:Option Bool) (k0 k1 k2 k3 k5:Option Value),
 K.lookup C=some ⟨.type "type",dd,.cls ⟨nm,bs,.ref C::.ref B::veMro,ns,qn,hd,sn,sub,ab,col,false⟩, #[k0,k1,k2,k3,some (.builtin "ValueError.__new__"),k5]⟩∧PySem.W.nsOkIn K ns=true∧PySem.W.nsIn K ns "__init__"=some none∧PySem.W.tailIn K veMro (.ref B::veMro)=true
noncomputable def isVe (K:PySem.W.Frag) (C:Addr):Bool:=@decide (VeP K C) (Classical.propDecidable _)
theorem exc_obj {K:PySem.W.Frag}{h:Heap}{C:Addr} (X:K.In h) (q:isVe K C=true):∃ bm N nm qn bs hdct sn sub ab col dd k0 k1 k2 k3 k5 mN,h.get? C=some (excClassObj nm qn C N bs bm hdct sn sub ab col dd k0 k1 k2 k3 k5 "ValueError.__new__")∧h.Ns N mN∧mN "__init__"=none∧OwnTail h veMro bm:=by
 obtain ⟨dd,nm,qn,bs,sub,B,ns,hd,ab,sn,col,k0,k1,k2,k3,k5,ho,hok,hni,ht⟩:=@of_decide_eq_true _ (Classical.propDecidable _) q
 exact ⟨.ref B::veMro,ns,nm,qn,bs,hd,sn,sub,ab,col,dd,k0,k1,k2,k3,k5,_,X _ _ ho,.of_isNs (PySem.W.isNs_of_in X hok),PySem.W.nsMap_none_of_in X hok hni,PySem.W.tail_of_in X ht⟩
def tRaise (C:Addr) (E:XK) (ta:TA):TS:=fun _ σ H=>ta σ H fun vs H1=>vs.length≤sizeLine∧E (.ref C) none H1
theorem ps_raise {X:Cx}{E:XK}{C:Addr}{x:Str}{np cpos pos:Pos}{e:Expr}{es:List Expr}{ta:TA} (hc:X.calm=true) (hg:Gl X x) (hm:X.mg x=some (.ref C)) (q:isVe X.K C=true) (ha:PA X.nox (e::es) ta)
  (hdb:(x == ("__debug__":Str))=false:=by decide) (he:starEach (e::es) X.env=(false,eval e X.env)::starEach es X.env:=by rfl) (hpl:(backTo cpos (starEach es X.env)).any (·.1)=false:=by rfl):
  PS (X.wish (XeF X E)) (.Raise (some (.Call (.Name x np) (e::es) [] cpos)) none pos) (tRaise C E ta):=by
 intro pins s σ H D I h
 have I0:=I.unwish
 obtain ⟨bm,N,nm,qn,bs,hdct,sn,sub,ab,col,dd,k0,k1,k2,k3,k5,mN,hC,hN,hni,T⟩:=exc_obj I0.mod.kin q
 refine wpAny_Raise_call_subT (C:=C) (nm:=nm) (q:=qn) (N:=N) (bs:=bs) (bm:=bm) (hdct:=hdct) (sn:=sn) (sub:=sub) (ab:=ab) (col:=col) (dd:=dd) (k0:=k0) (k1:=k1) (k2:=k2) (k3:=k3) (k5:=k5)
  F.excBase_ValueError (mN:=mN) (T.hasType (by decide+kernel)) (I0.ok.hd hc) (by rw [he];show (false || (backTo cpos (starEach es X.env)).any (·.1))=false;rw [hpl];rfl) hni (ld_glob I hg hm ⟨rfl,?_⟩ hdb)
 have z:=ha cpos pins s σ H _ (I0.wish _) h
 show wpAny _ _ (evalArgs (.ref C) true (backTo cpos (starEach (e::es) X.env)) []) _ _ _
 rw [he] at z ⊢
 refine Calls.evalArgs_plain (wpAny_mono z (fun vs s2 ⟨ws,H1,I1,r,hl,hE⟩=>?_) fun _ _ z=>False.elim z)
 have I1:=I1.unwish
 exact ⟨rfl,by rw [← r.length];exact hl,I1.bk _ _ hC,hN.keeps I1.bk,T.keeps I1.bk,fun h' ea hx=>.inr ⟨pins,σ,H1,s2.heap,C,ea,vs,rfl,I1,hx,hE⟩⟩
section
variable {X:Cx}
end
structure Rdx (P:Program) (w:World) (K:PySem.W.Frag) (mg:Str→Option Value) (base:Heap) (x:Str) (ps:List Str) (k:Nat) (sp:Sp) where
 f:Addr
 fd:FuncData
 ok:FnOk P w K mg base (CXe P w) k f fd ps sp
 mgx:mg x=some (.ref f)
 kp:PySem.W.keepIn K (.ref f)=true
 bd:Binds K fd ps []
def strKey (e:DictEntry):Bool:=match e.key with
 | .str _ _=>true
 | _=>false
theorem nsOk_mk {K:PySem.W.Frag}{N:Addr}{c:Value}{d:Option Addr}{es:Array DictEntry}{n:Nat}{sl:Array (Option Value)} (l:K.lookup N=some ⟨c,d,.dict es n,sl⟩) (h:es.toList.all strKey=true):PySem.W.nsOkIn K N=true:=by
 unfold PySem.W.nsOkIn
 rw [l]
 rw [Array.all_toList] at h
 exact h
theorem isVe_mk {K:PySem.W.Frag}{C B ns:Addr}{dd od:Option Addr}{nm qn:Str}{bs sub:List Value}{hd ab:Bool}{sn:List Str}{col:Option Bool}{k0 k1 k2 k3 k5:Option Value}{oc:Value}{cdB:ClassData}{osl:Array (Option Value)}
  (l:K.lookup C=some ⟨.type "type",dd,.cls ⟨nm,bs,.ref C::.ref B::veMro,ns,qn,hd,sn,sub,ab,col,false⟩, #[k0,k1,k2,k3,some (.builtin "ValueError.__new__"),k5]⟩) (n1:PySem.W.nsOkIn K ns=true) (n2:PySem.W.nsIn K ns "__init__"=some none)
  (l2:K.lookup B=some ⟨oc,od,.cls cdB,osl⟩) (n3:PySem.W.nsOkIn K cdB.ns=true) (n4:PySem.W.nsIn K cdB.ns "__init__"=some none):isVe K C=true:=by
 have t:PySem.W.tailIn K veMro (.ref B::veMro)=true:=by
  unfold PySem.W.tailIn
  dsimp only
  rw [l2]
  dsimp only
  rw [n3,n4]
  have:PySem.W.tailIn K veMro veMro=true:=by
   unfold PySem.W.tailIn
   rw [beq_self_eq_true]
   rfl
  rw [this,Bool.or_eq_true]
  exact .inr rfl
 exact @decide_eq_true _ (Classical.propDecidable _) ⟨dd,nm,qn,bs,sub,B,ns,hd,ab,sn,col,k0,k1,k2,k3,k5,l,n1,n2,t⟩
theorem passX {X:Cx}{E:XK}:Passes (CXe X.prog X.w) (X.wish (XeF X E)) E:=fun pins σ _ _ _ _ I h=>.inl ⟨pins,σ,I.unwish.flew h⟩
end L2
namespace My
open PySem L2
def oV:Option Int→V
 | none=>.non
 | some n=>.int n
abbrev Tab:=List (List (Option Int))
abbrev Row (H:Hp) (a:Addr) (r:List (Option Int)):Prop:=H a=some (.lst (r.map oV))
structure Tb (H:Hp) (t:Addr) (as:List Addr) (T:Tab):Prop where
 is:H t=some (.lst (as.map V.ref))
 len:as.length=T.length
 rw:∀ (i:Nat) a r,as[i]?=some a→T[i]?=some r→Row H a r
def cell (T:Tab) (c j:Nat):Option Int:=(T.getD c []).getD j none
theorem Tb.on {H H':Hp}{t:Addr}{as:List Addr}{T:Tab} (h:Tb H t as T) (k:∀ a∈t::as,∀ o,H a=some o→H' a=some o):Tb H' t as T:=
 ⟨k t (List.mem_cons_self ..) _ h.is,h.len,fun i a r e1 e2=>k a (List.mem_cons_of_mem _ (List.mem_of_getElem? e1)) _ (h.rw i a r e1 e2)⟩
theorem Tb.same {H H':Hp}{t:Addr}{as:List Addr}{T:Tab} (h:Tb H t as T) (s:Same H H'):Tb H' t as T:=h.on fun a _ o e=>s a o e
theorem Tb.at {H:Hp}{t:Addr}{as:List Addr}{T:Tab} (h:Tb H t as T) {i:Nat} (hi:i < T.length):∃ a,as[i]?=some a∧a∈as∧T[i]?=some (T.getD i [])∧Row H a (T.getD i []):=by
 have h1:i < as.length:=by rw [h.len];exact hi
 have e:T[i]?=some (T.getD i []):=by simp [List.getD,hi]
 exact ⟨as[i],by simp [h1],List.getElem_mem h1,e,h.rw i _ _ (by simp [h1]) e⟩
theorem Tb.live {H:Hp}{t:Addr}{as:List Addr}{T:Tab} (h:Tb H t as T):∀ a∈t::as,∃ o,H a=some o:=fun a ha=>by
 rcases List.mem_cons.mp ha with e | e
 · rw [e];exact ⟨_,h.is⟩
 · obtain ⟨i,hi,e⟩:=List.getElem_of_mem e
   have hi2:i < T.length:=by rw [← h.len];exact hi
   exact ⟨_,h.rw i a (T.getD i []) (by simp [← e,hi]) (by simp [List.getD,hi2])⟩
theorem Tb.fresh {H:Hp}{t x:Addr}{as:List Addr}{T:Tab}{o:HO} (h:Tb H t as T) (n:H x=none):Tb (upd H x o) t as T:=h.same ((Same.refl H).upd n)
theorem Tb.set {H:Hp}{t a:Addr}{as:List Addr}{T:Tab}{i:Nat} (h:Tb H t as T) (nd:(t::as).Nodup) (e:as[i]?=some a) (r:List (Option Int)):Tb (upd H a (.lst (r.map oV))) t as (T.set i r):=by
 obtain ⟨n1,n2⟩:=List.nodup_cons.mp nd
 have ma:=List.mem_of_getElem? e
 obtain ⟨hi,ea⟩:=List.getElem?_eq_some_iff.mp e
 refine ⟨?_,by rw [h.len,List.length_set],fun j b s e1 e2=>?_⟩
 · have nt:t≠a:=fun z=>n1 (z▸ma)
   rw [upd_ne nt];exact h.is
 · by_cases hj:j=i
   · subst hj
     rw [e] at e1;cases e1
     rw [List.getElem?_set_self (by rw [← h.len];exact hi)] at e2
     cases e2
     exact upd_same
   · rw [List.getElem?_set_ne (Ne.symm hj)] at e2
     have:b≠a:=fun z=>by
      subst z
      obtain ⟨hj',eb⟩:=List.getElem?_eq_some_iff.mp e1
      exact hj ((List.getElem_inj n2).mp (eb.trans ea.symm))
     show upd H a _ b=_
     rw [upd_ne this]
     exact h.rw j b s e1 e2
theorem Tb.snoc {H:Hp}{t a:Addr}{as:List Addr}{T:Tab}{r:List (Option Int)} (h:Tb H t as T) (ha:Row H a r) (n:a≠t) (nt:t∉as):Tb (upd H t (.lst (as.map V.ref++[V.ref a]))) t (as++[a]) (T++[r]):=by
 refine ⟨by rw [upd_same,List.map_append];rfl,by simp [h.len],fun j b s e1 e2=>?_⟩
 have hb:b≠t:=by
  rcases List.mem_append.mp (List.mem_of_getElem? e1) with q | q
  · exact fun z=>nt (z▸q)
  · rw [List.mem_singleton.mp q];exact n
 show upd H t _ b=_
 rw [upd_ne hb]
 by_cases hj:j < as.length
 · rw [List.getElem?_append_left hj] at e1
   rw [List.getElem?_append_left (by rw [← h.len];exact hj)] at e2
   exact h.rw j b s e1 e2
 · rw [List.getElem?_append_right (by omega)] at e1
   rw [List.getElem?_append_right (by rw [← h.len];omega), ← h.len] at e2
   have z:j - as.length=0:=by
    have:=(List.getElem?_eq_some_iff.mp e1).1
    simp at this;omega
   rw [z] at e1 e2
   cases e1;cases e2
   exact ha
structure TabOk (k n:Nat) (T:Tab):Prop where
 len:T.length=n
 row:∀ r∈T,r.length=k
 rng:∀ c j e,cell T c j=some e→0≤e∧e < n
 inj:∀ c d j e,cell T c j=some e→cell T d j=some e→c=d
theorem cell_set {T:Tab}{c:Nat}{r:List (Option Int)} (hc:c < T.length) (i j:Nat):cell (T.set c r) i j=if i=c then r.getD j none else cell T i j:=by
 unfold cell
 by_cases h:i=c
 · subst h
   rw [if_pos rfl]
   simp [List.getD,List.getElem?_set_self hc]
 · rw [if_neg h]
   simp [List.getD,List.getElem?_set_ne (Ne.symm h)]
theorem getD_snoc (r:List (Option Int)) (v:Option Int) (j:Nat):(r++[v]).getD j none=if j=r.length then v else r.getD j none:=by
 by_cases h:j < r.length
 · rw [if_neg (by omega)]
   simp [List.getD,List.getElem?_append_left h]
 · by_cases h2:j=r.length
   · rw [if_pos h2,h2];simp [List.getD]
   · rw [if_neg h2]
     simp only [List.getD]
     rw [List.getElem?_eq_none (by simp;omega),List.getElem?_eq_none (by omega)]
structure Mid (j c n:Nat) (T:Tab) (left:List Int):Prop where
 len:T.length=n
 row:∀ (i:Nat) r,T[i]?=some r→r.length=if i < c then j+1 else j
 rng:∀ i k e,cell T i k=some e→0≤e∧e < n
 inj:∀ i d k e,cell T i k=some e→cell T d k=some e→i=d
 nd:left.Nodup
 ll:left.length=n - c
 lr:∀ e∈left,0≤e∧e < n
 ap:∀ i e,cell T i j=some e→e∉left
theorem TabOk.cell_none {k n:Nat}{T:Tab} (h:TabOk k n T) (i j:Nat) (hj:k≤j):cell T i j=none:=by
 unfold cell
 by_cases hi:i < T.length
 · have:(T.getD i []).length=k:=h.row _ (by simp [List.getD,hi])
   simp only [List.getD]
   rw [List.getElem?_eq_none (by simp only [List.getD] at this;omega)]
   rfl
 · simp [List.getD,List.getElem?_eq_none (Nat.le_of_not_lt hi)]
theorem TabOk.mid {j n:Nat}{T:Tab} (h:TabOk j n T):Mid j 0 n T (lab0 n):=by
 refine ⟨h.len,fun i r e=>?_,h.rng,h.inj,?_,?_,?_,fun i e he=>?_⟩
 · rw [if_neg (by omega)];exact h.row r (List.mem_of_getElem? e)
 · unfold lab0
   refine (List.pairwise_map.mpr ?_)
   exact (List.nodup_range (n:=n)).imp fun hab z=>hab (by omega)
 · simp [lab0]
 · intro e he
   obtain ⟨i,hi,rfl⟩:=List.mem_map.mp he
   have:=List.mem_range.mp hi
   omega
 · rw [h.cell_none i j (Nat.le_refl _)] at he
   cases he
theorem Mid.done {j n:Nat}{T:Tab}{left:List Int} (h:Mid j n n T left):TabOk (j+1) n T:=by
 refine ⟨h.len,fun r hr=>?_,h.rng,h.inj⟩
 obtain ⟨i,hi,e⟩:=List.getElem_of_mem hr
 have:=h.row i r (by simp [← e,hi])
 rw [if_pos (by rw [← h.len];exact hi)] at this
 exact this
theorem mem_erase_idx {l:List Int}{i:Nat}{e:Int} (h:e∈l.eraseIdx i):e∈l:=(List.eraseIdx_sublist l i).subset h
theorem not_erase {l:List Int} (nd:l.Nodup) {i:Nat} (hi:i < l.length):l[i]∉l.eraseIdx i:=by
 intro h
 rw [List.mem_eraseIdx_iff_getElem] at h
 obtain ⟨j,hj,hne,e⟩:=h
 exact hne ((List.getElem_inj nd).mp e)
theorem Mid.step {j c n:Nat}{T:Tab}{left:List Int} (h:Mid j c n T left) (hc:c < n) {i:Nat} (hi:i < left.length) (v:Option Int) (hv:v=none∨v=some left[i]):
  Mid j (c+1) n (T.set c (T.getD c []++[v])) (left.eraseIdx i):=by
 have hcT:c < T.length:=by rw [h.len];exact hc
 have ec:T[c]?=some (T.getD c []):=by simp [List.getD,hcT]
 have rl:(T.getD c []).length=j:=by
  have:=h.row c _ ec
  rw [if_neg (by omega)] at this
  exact this
 have ce:∀ i' k,cell (T.set c (T.getD c []++[v])) i' k=if i'=c∧k=j then v else cell T i' k:=fun i' k=>by
  rw [cell_set hcT,getD_snoc,rl]
  by_cases h1:i'=c
  · rw [if_pos h1]
    by_cases h2:k=j
    · rw [if_pos h2,if_pos ⟨h1,h2⟩]
    · rw [if_neg h2,if_neg (fun z=>h2 z.2),h1];rfl
  · rw [if_neg h1,if_neg (fun z=>h1 z.1)]
 have cj:cell T c j=none:=by
  unfold cell
  rw [List.getD,List.getElem?_eq_none (by rw [rl];exact Nat.le_refl _)];rfl
 have lm:left[i]∈left:=List.getElem_mem hi
 have vv:∀ e,v=some e→e=left[i]:=fun e he=>by
  rcases hv with q | q
  · rw [q] at he;cases he
  · rw [q] at he;exact (Option.some.inj he).symm
 refine ⟨by rw [List.length_set];exact h.len,fun i' r e=>?_,fun i' k e he=>?_,fun i' d k e h1 h2=>?_,h.nd.sublist (List.eraseIdx_sublist ..),?_,fun e he=>h.lr e (mem_erase_idx he),fun i' e he=>?_⟩
 · by_cases hj:i'=c
   · subst hj
     rw [List.getElem?_set_self hcT] at e
     cases e
     rw [if_pos (by omega),List.length_append,rl];rfl
   · rw [List.getElem?_set_ne (Ne.symm hj)] at e
     rw [h.row i' r e]
     by_cases q:i' < c
     · rw [if_pos q,if_pos (by omega)]
     · rw [if_neg q,if_neg (by omega)]
 · rw [ce] at he
   split at he
   · rw [vv e he];exact h.lr _ lm
   · exact h.rng _ _ _ he
 · rw [ce] at h1 h2
   split at h1
   · rename_i q1
     split at h2
     · rename_i q2;rw [q1.1,q2.1]
     · rw [vv e h1,q1.2] at h2
       exact absurd lm (h.ap _ _ h2)
   · split at h2
     · rename_i q2
       rw [vv e h2,q2.2] at h1
       exact absurd lm (h.ap _ _ h1)
     · exact h.inj _ _ _ _ h1 h2
 · rw [List.length_eraseIdx,if_pos hi,h.ll];omega
 · rw [ce] at he
   split at he
   · rw [vv e he];exact not_erase h.nd hi
   · exact fun z=>h.ap _ _ he (mem_erase_idx z)
open PySem.SeqAt PyProof.Rows
def dO:Option Int→PyData
 | none=>.none
 | some n=>.int n
def dR (r:List (Option Int)):PyData:=.list (r.map dO)
def dTab (T:Tab):PyData:=.list (T.map dR)
theorem lay_opt:∀ r:List (Option Int),PyData.canLayAll0 (r.map dO)=true∧PyData.depthAll (r.map dO)=0∧noMixAll (r.map dO) (r.map dO)=true
 | []=>⟨by simp [PyData.canLayAll0],by simp [PyData.depthAll],by simp [noMixAll]⟩
 | a::r=>by
  obtain ⟨h1,h2,h3⟩:=lay_opt r
  cases a with
  | none=>exact ⟨by rw [List.map_cons,PyData.canLayAll0,h1];simp [dO,PyData.canLay0],by rw [List.map_cons,PyData.depthAll,h2];simp [dO,PyData.depth],by rw [List.map_cons,noMixAll,h3];simp [dO,noMix]⟩
  | some z=>exact ⟨by rw [List.map_cons,PyData.canLayAll0,h1];simp [dO,PyData.canLay0],by rw [List.map_cons,PyData.depthAll,h2];simp [dO,PyData.depth],by rw [List.map_cons,noMixAll,h3];simp [dO,noMix]⟩
theorem lay_tab:∀ T:Tab,PyData.canLayAll0 (T.map dR)=true∧PyData.depthAll (T.map dR)≤1∧noMixAll (T.map dR) (T.map dR)=true
 | []=>⟨by simp [PyData.canLayAll0],by simp [PyData.depthAll],by simp [noMixAll]⟩
 | a::r=>by
  obtain ⟨h1,h2,h3⟩:=lay_tab r
  obtain ⟨g1,g2,g3⟩:=lay_opt a
  refine ⟨?_,?_,?_⟩
  · rw [List.map_cons,PyData.canLayAll0,h1];simp [dR,PyData.canLay0,g1]
  · rw [List.map_cons,PyData.depthAll]
    have:(dR a).depth=1:=by rw [dR,PyData.depth,g2]
    omega
  · rw [List.map_cons,noMixAll,h3];simp [dR,noMix,g3]
theorem dts_opt {K:PySem.W.Frag}{H:Hp}:∀ r:List (Option Int),Dts K H (r.map oV) (r.map dO)
 | []=>.nil
 | none::r=>.cons .non (dts_opt r)
 | some z::r=>.cons (.int z) (dts_opt r)
theorem dts_rows {K:PySem.W.Frag}{H:Hp}:∀ {as:List Addr}{T:Tab},as.length=T.length→(∀ (i:Nat) a r,as[i]?=some a→T[i]?=some r→Row H a r)→Dts K H (as.map V.ref) (T.map dR)
 | [],[],_,_=>.nil
 | a::as,r::T,e,h=>.cons (.lst (SqL.of (h 0 a r rfl rfl)) (dts_opt r)) (dts_rows (by simpa using e) fun i b s h1 h2=>h (i+1) b s (by simpa using h1) (by simpa using h2))
 | [],_::_,e,_=>by simp at e
 | _::_,[],e,_=>by simp at e
theorem Tb.dt {K:PySem.W.Frag}{H:Hp}{t:Addr}{as:List Addr}{T:Tab} (h:Tb H t as T):Dt K H (.ref t) (dTab T):=.lst (SqL.of h.is) (dts_rows h.len h.rw)
theorem lay_dTab (T:Tab):shaped (dTab T)=true∧noMix (dTab T) (dTab T)=true:=by
 obtain ⟨a1,a2,a3⟩:=lay_tab T
 refine ⟨?_,?_⟩
 · unfold shaped
   rw [Bool.and_eq_true]
   refine ⟨by simp [PyData.canLay0,dTab,a1],decide_eq_true ?_⟩
   simp only [PyData.depth,dTab]
   omega
 · simp [noMix,dTab,a3]
theorem rd_neT {K:PySem.W.Frag}{H:Hp}{x y:Addr}{as bs:List Addr}{T:Tab}{Q:VK} (hx:Tb H x as T) (hy:Tb H y bs T) (h:Q (.bl false) H):Wr (rNeD K (.ref x) (.ref y) H Q):=by
 refine ⟨⟨_,_,hx.dt,hy.dt,(lay_dTab T).1,(lay_dTab T).1,(lay_dTab T).2,?_⟩⟩
 rw [PyProof.Rows.same_refl]
 exact h
def col (T:Tab) (j:Nat):List (Option Int):=T.map fun r=>r.getD j none
def cols (k:Nat) (T:Tab):Tab:=(List.range k).map (col T)
theorem cols_len (k:Nat) (T:Tab):(cols k T).length=k:=by simp [cols]
theorem cols_at {k j:Nat} (T:Tab) (h:j < k):(cols k T)[j]?=some (col T j):=by simp [cols,h]
theorem cols_getD {k j:Nat} (T:Tab) (h:j < k):(cols k T).getD j []=col T j:=by simp [List.getD,cols_at T h]
theorem col_len (T:Tab) (j:Nat):(col T j).length=T.length:=by simp [col]
theorem col_getD (T:Tab) (c j:Nat):(col T j).getD c none=cell T c j:=by
 unfold col cell
 by_cases h:c < T.length
 · simp [List.getD,h]
 · simp [List.getD,List.getElem?_eq_none (Nat.le_of_not_lt h)]
theorem getD_ext {r s:List (Option Int)} (hl:r.length=s.length) (h:∀ j,r.getD j none=s.getD j none):r=s:=by
 refine List.ext_getElem hl fun i h1 h2=>?_
 have:=h i
 simpa [List.getD,h1,h2] using this
theorem row_back {k n:Nat}{T:Tab} (h:TabOk k n T) {c:Nat} (hc:c < n):col (cols k T) c=T.getD c []:=by
 have hcT:c < T.length:=by rw [h.len];exact hc
 have hr:(T.getD c []).length=k:=h.row _ (by simp [List.getD,hcT])
 refine getD_ext (by rw [col_len,cols_len,hr]) fun j=>?_
 rw [col_getD]
 unfold cell
 by_cases hj:j < k
 · rw [cols_getD T hj,col_getD];rfl
 · have e1:(cols k T).getD j []=[]:=by rw [List.getD,List.getElem?_eq_none (by rw [cols_len];omega)];rfl
   have e2:(T.getD c []).getD j none=none:=by
    generalize T.getD c []=r at hr
    rw [List.getD,List.getElem?_eq_none (by omega)];rfl
   rw [e1,e2];rfl
theorem cols_back {k n:Nat}{T:Tab} (h:TabOk k n T):cols n (cols k T)=T:=by
 refine List.ext_getElem (by rw [cols_len,h.len]) fun i h1 h2=>?_
 have hi:i < n:=by rwa [cols_len] at h1
 have e:=cols_at (cols k T) hi
 rw [row_back h hi] at e
 have e2:(cols n (cols k T))[i]?=some ((cols n (cols k T))[i]):=by simp [h1]
 rw [e] at e2
 have e3:=Option.some.inj e2
 rw [← e3]
 simp [List.getD,h2]
structure BegPart (i:Nat) (ends fs:List (Option Int)):Prop where
 len:fs.length=ends.length
 iff:∀ (e:Nat) (c:Int),fs.getD e none=some c↔∃ m:Nat,c=m∧m < i∧ends.getD m none=some (e:Int)
abbrev BegOk (ends fs:List (Option Int)):Prop:=BegPart ends.length ends fs
def chf (k:Nat) (lo li:Addr):List (Str × V):=putF "inward" (.ref li) (putF "onward" (.ref lo) (putF "kinds" (.int k) []))
theorem chf_look (k:Nat) (lo li:Addr) (m:Str):(chf k lo li).lookup m=if m="inward" then some (.ref li) else if m="onward" then some (.ref lo) else if m="kinds" then some (.int k) else none:=by
 unfold chf
 rw [lookup_putF,lookup_putF,lookup_putF];rfl
theorem chf_in (k:Nat) (lo li:Addr):(chf k lo li).lookup ("inward":Str)=some (.ref li):=by rw [chf_look,if_pos rfl]
theorem chf_on (k:Nat) (lo li:Addr):(chf k lo li).lookup ("onward":Str)=some (.ref lo):=by rw [chf_look,if_neg (by decide),if_pos rfl]
theorem chf_k (k:Nat) (lo li:Addr):(chf k lo li).lookup ("kinds":Str)=some (.int k):=by rw [chf_look,if_neg (by decide),if_neg (by decide),if_pos rfl]
theorem chf_no (k:Nat) (lo li:Addr) {m:Str} (h1:¬ m="inward":=by decide) (h2:¬ m="onward":=by decide) (h3:¬ m="kinds":=by decide):(chf k lo li).lookup m=none:=by rw [chf_look,if_neg h1,if_neg h2,if_neg h3]
structure ChAt (C:Addr) (H:Hp) (g:Addr) (k n:Nat) (T:Tab) (fp:List Addr):Prop where
 ok:TabOk k n T
 k1:1≤k
 k5:k≤5
 n1:1≤n
 n7:n≤700
 ob:∃ dx lo li as bs I,fp=g::((lo::as)++(li::bs))∧H g=some (.ins C dx (chf k lo li))∧Tb H lo as (cols k T)∧Tb H li bs I∧I.length=k∧∀ j,j < k→BegOk (col T j) (I.getD j [])
theorem ChAt.on {C:Addr}{H H':Hp}{g:Addr}{k n:Nat}{T:Tab}{fp:List Addr} (h:ChAt C H g k n T fp) (s:∀ a∈fp,∀ o,H a=some o→H' a=some o):ChAt C H' g k n T fp:=by
 obtain ⟨dx,lo,li,as,bs,I,rfl,hg,h1,h2,h3,h4⟩:=h.ob
 refine ⟨h.ok,h.k1,h.k5,h.n1,h.n7,dx,lo,li,as,bs,I,rfl,s g (List.mem_cons_self ..) _ hg,h1.on fun a ha=>s a ?_,h2.on fun a ha=>s a ?_,h3,h4⟩
 · exact List.mem_cons_of_mem _ (List.mem_append_left _ ha)
 · exact List.mem_cons_of_mem _ (List.mem_append_right _ ha)
theorem ChAt.same {C:Addr}{H H':Hp}{g:Addr}{k n:Nat}{T:Tab}{fp:List Addr} (h:ChAt C H g k n T fp) (s:Same H H'):ChAt C H' g k n T fp:=h.on fun a _ o e=>s a o e
end My
namespace My
open PySem L2
structure TxtC (K:PySem.W.Frag) (mg:Str→Option Value) (C:Addr):Prop where
 cl:Cls K C
 nk:NoAttr K C "kinds"
 no:NoAttr K C "onward"
 ni:NoAttr K C "inward"
 mkk:∃ t,mg "MOST_KINDS"=some (.int 5 t)
 mcc:∃ t,mg "MOST_CHAMBERS"=some (.int 700 t)
 sum:mg "sum"=none
theorem Row.same {H H':Hp}{a:Addr}{r:List (Option Int)} (h:Row H a r) (s:Same H H'):Row H' a r:=s _ _ h
theorem get_opt {r:List (Option Int)}{i:Nat}{y:V} (h:(r.map oV)[i]?=some y):∃ z,y=oV z∧r[i]?=some z:=by
 rw [List.getElem?_map] at h
 cases e:r[i]? with
 | none=>rw [e] at h;cases h
 | some z=>rw [e] at h;exact ⟨z,(Option.some.inj h).symm,rfl⟩
theorem get_adr {as:List Addr}{i:Nat}{y:V} (h:(as.map V.ref)[i]?=some y):∃ z,y=V.ref z∧as[i]?=some z:=by
 rw [List.getElem?_map] at h
 cases e:as[i]? with
 | none=>rw [e] at h;cases h
 | some z=>rw [e] at h;exact ⟨z,(Option.some.inj h).symm,rfl⟩
theorem getD_some {α:Type}{r:List α}{i:Nat}{z d:α} (h:r[i]?=some z):r.getD i d=z:=by rw [List.getD,h];rfl
theorem rd_cell {K:PySem.W.Frag}{H:Hp}{a:Addr}{r:List (Option Int)}{i:Int}{Q:VK} (k:Nat) (hq:Row H a r) (hk:k < r.length) (h:Q (oV (r.getD k none)) H) (e:i=(k:Int):=by rfl):Wr (rIxL K (.ref a) (.int i) H Q):=by
 refine ⟨⟨a,_,i,_,rfl,rfl,SqL.of hq,?_,h⟩⟩
 subst e
 exact atI_nat (by rw [List.getElem?_map,show r[k]?=some (r.getD k none) by simp [List.getD,hk]];rfl)
theorem rd_row {K:PySem.W.Frag}{H:Hp}{t a:Addr}{as:List Addr}{T:Tab}{i:Int}{Q:VK} (k:Nat) (hq:Tb H t as T) (ha:as[k]?=some a) (h:Q (.ref a) H) (e:i=(k:Int):=by rfl):Wr (rIxL K (.ref t) (.int i) H Q):=by
 refine ⟨⟨t,_,i,_,rfl,rfl,SqL.of hq.is,?_,h⟩⟩
 subst e
 exact atI_nat (by rw [List.getElem?_map,ha];rfl)
theorem comp_col {K:PySem.W.Frag}{t:Addr}{as:List Addr}{T:Tab}{j:Nat}{ix:List Nat}{te:TE}{σ:St}{H:Hp}{Q:VK} (h:Tb H t as T) (hl:T.length≤100000)
  (he:∀ a r,r∈T→∀ (H':Hp) (Q':VK),Same H H'→Row H' a r→Q' (oV (r.getD j none)) H'→te (blkSt ix (some (.ref a)) σ) H' Q') (hQ:∀ D,H D=none→Q (.ref D) (upd H D (.lst ((col T j).map oV)))):
  Wr (rComp (Itl K t) ix te σ H Q):=by
 let f:V→V:=fun z=>match z with
  | .ref a=>(match H a with | some (.lst xs)=>xs.getD j .non | _=>.non)
  | _=>.non
 have fe:∀ a r,Row H a r→f (.ref a)=oV (r.getD j none):=fun a r hr=>by
  show (match H a with | some (.lst xs)=>xs.getD j .non | _=>.non)=_
  rw [show H a=some (.lst (r.map oV)) from hr]
  show (r.map oV).getD j .non=_
  by_cases hj:j < r.length
  · simp [List.getD,hj]
  · simp [List.getD,List.getElem?_eq_none (Nat.le_of_not_lt hj),oV]
 refine ⟨comp_vals (xs:=as.map V.ref) f (SqL.of h.is) (small4k (by rw [List.length_map,h.len];omega)) (fun z hz H' Q' s q=>?_) fun D hD=>?_⟩
 · obtain ⟨a,ha,rfl⟩:=List.mem_map.mp hz
   obtain ⟨i,hi,e⟩:=List.getElem_of_mem ha
   have hi2:i < T.length:=by rw [← h.len];exact hi
   have hr:=h.rw i a T[i] (by simp [← e,hi]) (by simp [hi2])
   rw [fe a _ hr] at q
   exact he a _ (List.getElem_mem hi2) H' Q' s (hr.same s) q
 · have:(as.map V.ref).map f=(col T j).map oV:=by
     unfold col
     rw [List.map_map,List.map_map]
     refine List.ext_getElem (by simp [h.len]) fun i h1 h2=>?_
     have h1':i < as.length:=by simpa using h1
     have h2':i < T.length:=by simpa using h2
     simp only [List.getElem_map,Function.comp]
     exact fe _ _ (h.rw i as[i] T[i] (by simp [h1']) (by simp [h2']))
   rw [this]
   exact hQ D hD
theorem hcl1 {cells:List (Str × Addr)}{a:Str}{x:Addr} (h1:cells.lookup a=some x):∀ z c,[(a,x)].lookup z=some c→cells.lookup z=some c:=fun z c h=>by
 rw [List.lookup_cons] at h
 cases e:z == a with
 | true=>rw [e] at h;rw [eq_of_beq e,h1];exact h
 | false=>rw [e] at h;cases h
theorem rd_rep {H:Hp}{a:Addr}{n:Nat}{k:Int}{z:Option Int}{Q:VK} (ha:H a=some (.lst [oV z])) (hn:n≤100000) (h:∀ (p:Addr) (H':Hp),H p=none→Row H' p (List.replicate n z)→Same H H'→Q (.ref p) H') (e:k=(n:Int):=by rfl):Wr (rRep (.ref a) (.int k) H Q):=by
 subst e
 refine ⟨⟨a,n,[oV z],rfl,rfl,ha,by omega,by omega,?_,fun p hp=>?_⟩⟩
 · exact Nat.le_of_lt (small4k (by simp;omega))
 · have e:(List.replicate (n:Int).toNat [oV z]).flatten=(List.replicate n z).map oV:=by
     rw [Int.toNat_natCast]
     clear h hn
     induction n with
     | zero=>rfl
     | succ n ih=>rw [List.replicate_succ,List.flatten_cons,ih,List.replicate_succ,List.map_cons];rfl
   rw [e]
   exact h p _ hp upd_same ((Same.refl H).upd hp)
def spTable:Sp:=fun vs H Q _=>∃ (k n:Nat) (ld:Addr) (ds:List Int) (sh:Int),vs=[.int k,.int n,.ref ld,.int sh]∧Ints H ld ds∧1≤k∧k≤5∧1≤n∧n≤1000∧k * n≤ds.length∧
 ∀ (t:Addr) (as:List Addr) (T:Tab) (H':Hp),H t=none→(∀ a∈as,H a=none)→(t::as).Nodup→Tb H' t as T→TabOk k n T→(sh≤0→∀ r∈T,none∉r)→Same H H'→Q (.ref t) H'
def spSameT:Sp:=fun vs H Q _=>∃ (t u:Addr) (as bs:List Addr) (T:Tab),vs=[.ref t,.ref u]∧Tb H t as T∧Tb H u bs T∧Q (.bl true) H
def spShape:Sp:=fun vs H Q _=>∃ (k n:Nat) (t:Addr) (as:List Addr) (T:Tab),vs=[.int k,.ref t]∧Tb H t as T∧TabOk k n T∧1≤k∧k≤5∧1≤n∧n≤700∧Q .non H
def EndsOk (ends:List (Option Int)):Prop:=(∀ (c:Nat) e,ends.getD c none=some e→0≤e∧e < ends.length)∧∀ (c d:Nat) e,ends.getD c none=some e→ends.getD d none=some e→c=d
theorem TabOk.ends {k n:Nat}{T:Tab} (h:TabOk k n T) (j:Nat):EndsOk (col T j):=by
 refine ⟨fun c e he=>?_,fun c d e h1 h2=>?_⟩
 · rw [col_getD] at he
   rw [col_len,h.len];exact h.rng _ _ _ he
 · rw [col_getD] at h1 h2
   exact h.inj _ _ _ _ h1 h2
def spBeg:Sp:=fun vs H Q _=>∃ (a:Addr) (ends:List (Option Int)),vs=[.ref a]∧Row H a ends∧EndsOk ends∧ends.length≤1000∧
 ∀ (l:Addr) (fs:List (Option Int)) (H':Hp),H l=none→Row H' l fs→BegOk ends fs→Same H H'→Q (.ref l) H'
def spInit (C:Addr):Sp:=fun vs H Q _=>∃ (g dx:Addr) (k n:Nat) (t:Addr) (as:List Addr) (T:Tab),vs=[.ref g,.int k,.ref t]∧H g=some (.ins C dx [])∧Tb H t as T∧TabOk k n T∧1≤k∧k≤5∧1≤n∧n≤700∧
 ∀ (H':Hp) (fp:List Addr),ChAt C H' g k n T fp→(∀ a∈fp,a≠g→H a=none)→Kp g H H'→Q .non H'
def spSize (C:Addr):Sp:=fun vs H Q _=>∃ (g:Addr) (k n:Nat) (T:Tab) (fp:List Addr),vs=[.ref g]∧ChAt C H g k n T fp∧Q (.int n) H
def spTabl (C:Addr):Sp:=fun vs H Q _=>∃ (g:Addr) (k n:Nat) (T:Tab) (fp:List Addr),vs=[.ref g]∧ChAt C H g k n T fp∧
 ∀ (t:Addr) (as:List Addr) (H':Hp),H t=none→(∀ a∈as,H a=none)→(t::as).Nodup→Tb H' t as T→Same H H'→Q (.ref t) H'
theorem BegPart.zero (ends:List (Option Int)):BegPart 0 ends (List.replicate ends.length none):=by
 refine ⟨by simp,fun e c=>⟨fun h=>?_,fun ⟨m,_,h,_⟩=>by omega⟩⟩
 rw [List.getD,List.getElem?_replicate] at h
 split at h <;> cases h
theorem BegPart.skip {i:Nat}{ends fs:List (Option Int)} (h:BegPart i ends fs) (e:ends.getD i none=none):BegPart (i+1) ends fs:=by
 refine ⟨h.len,fun x c=>(h.iff x c).trans ⟨fun ⟨m,a,b,d⟩=>⟨m,a,by omega,d⟩,fun ⟨m,a,b,d⟩=>⟨m,a,?_,d⟩⟩⟩
 by_cases q:m=i
 · subst q;rw [e] at d;cases d
 · omega
theorem BegPart.free {i x:Nat}{ends fs:List (Option Int)} (h:BegPart i ends fs) (ok:EndsOk ends) (e:ends.getD i none=some (x:Int)):fs.getD x none=none:=by
 cases q:fs.getD x none with
 | none=>rfl
 | some c=>
  obtain ⟨m,_,hm,d⟩:=(h.iff x c).mp q
  have:=ok.2 _ _ _ d e
  omega
theorem BegPart.put {i x:Nat}{ends fs:List (Option Int)} (h:BegPart i ends fs) (ok:EndsOk ends) (e:ends.getD i none=some (x:Int)):BegPart (i+1) ends (fs.set x (some (i:Int))):=by
 have hx:x < fs.length:=by
  have:=(ok.1 i _ e).2
  rw [h.len];omega
 refine ⟨by rw [List.length_set];exact h.len,fun y c=>?_⟩
 by_cases q:y=x
 · subst q
   have e1:(fs.set y (some (i:Int))).getD y none=some (i:Int):=by rw [List.getD,List.getElem?_set_self hx];rfl
   rw [e1]
   constructor
   · intro z;exact ⟨i,(Option.some.inj z).symm,by omega,e⟩
   · rintro ⟨m,rfl,hm,d⟩
     rw [ok.2 _ _ _ d e]
 · have e1:(fs.set x (some (i:Int))).getD y none=fs.getD y none:=by rw [List.getD,List.getElem?_set_ne (fun z=>q z.symm)];rfl
   rw [e1,h.iff]
   constructor
   · rintro ⟨m,a,b,d⟩;exact ⟨m,a,by omega,d⟩
   · rintro ⟨m,a,b,d⟩
     refine ⟨m,a,?_,d⟩
     by_cases z:m=i
     · subst z
       rw [e] at d
       exact absurd (Option.some.inj d) (by omega)
     · omega
theorem map_eraseIdx {α β:Type} (f:α→β):∀ (l:List α) (i:Nat),(l.map f).eraseIdx i=(l.eraseIdx i).map f
 | [],_=>rfl
 | _::_,0=>rfl
 | a::l,i+1=>by
  show f a::(l.map f).eraseIdx i=f a::(l.eraseIdx i).map f
  rw [map_eraseIdx f l i]
structure NewT (H H':Hp) (t:Addr) (as:List Addr) (T:Tab):Prop where
 ft:H t=none
 fa:∀ a∈as,H a=none
 nd:(t::as).Nodup
 tb:Tb H' t as T
 sm:Same H H'
theorem NewT.zero {H:Hp}{D:Addr} (h:H D=none):NewT H (upd H D (.lst [])) D [] []:=⟨h,(fun _ z=>nomatch z),by simp,⟨upd_same,rfl,fun i a r e=>by simp at e⟩,(Same.refl H).upd h⟩
theorem NewT.snoc {H H2 H3:Hp}{D a:Addr}{as:List Addr}{T:Tab}{r:List (Option Int)} (h:NewT H H2 D as T) (ha:H2 a=none) (hr:Row H3 a r) (s:Same H2 H3):NewT H (upd H3 D (.lst (as.map V.ref++[V.ref a]))) D (as++[a]) (T++[r]):=by
 have nD:a≠D:=fun z=>by rw [z,h.tb.is] at ha;cases ha
 obtain ⟨n1,n2⟩:=List.nodup_cons.mp h.nd
 have na:a∉as:=fun z=>by
  obtain ⟨o,e⟩:=h.tb.live a (List.mem_cons_of_mem _ z)
  rw [ha] at e;cases e
 refine ⟨h.ft,fun b hb=>?_,?_,(h.tb.same s).snoc hr nD n1,(h.sm.trans s).upd h.ft⟩
 · rcases List.mem_append.mp hb with q | q
   · exact h.fa b q
   · rw [List.mem_singleton.mp q];exact h.sm.free ha
 · refine List.nodup_cons.mpr ⟨fun z=>?_,nd_snoc n2 na⟩
   rcases List.mem_append.mp z with q | q
   · exact n1 q
   · exact nD (List.mem_singleton.mp q).symm
theorem NewT.row {H H2 H3:Hp}{D:Addr}{as:List Addr}{T:Tab} (h:NewT H H2 D as T) (s:Same H2 H3):H3 D=some (.lst (as.map V.ref)):=s _ _ h.tb.is
theorem NewT.set {H H2:Hp}{t a:Addr}{as:List Addr}{T:Tab}{i:Nat} (h:NewT H H2 t as T) (e:as[i]?=some a) (r:List (Option Int)):NewT H (upd H2 a (.lst (r.map oV))) t as (T.set i r):=
 ⟨h.ft,h.fa,h.nd,h.tb.set h.nd e r,h.sm.upd (h.fa a (List.mem_of_getElem? e))⟩
theorem NewT.not {H H2:Hp}{t x:Addr}{as:List Addr}{T:Tab} (h:NewT H H2 t as T) (hx:H2 x=none):x∉t::as:=fun z=>by
 obtain ⟨o,e⟩:=h.tb.live x z
 rw [hx] at e;cases e
theorem NewT.other {H H2:Hp}{t x:Addr}{as:List Addr}{T:Tab}{o:HO} (h:NewT H H2 t as T) (n:x∉t::as) (hx:H x=none):NewT H (upd H2 x o) t as T:=
 ⟨h.ft,h.fa,h.nd,h.tb.on fun a ha _ e=>by have ne:a≠x:=fun z=>n (z▸ha)
                                          rw [upd_ne ne];exact e,h.sm.upd hx⟩
theorem NewT.more {H H2 H3:Hp}{t:Addr}{as:List Addr}{T:Tab} (h:NewT H H2 t as T) (s:Same H2 H3):NewT H H3 t as T:=⟨h.ft,h.fa,h.nd,h.tb.same s,h.sm.trans s⟩
theorem comp_tab {lo:Int}{n:Nat}{ix:List Nat}{te:TE}{σ:St}{H:Hp}{Q:VK} (f:Nat→List (Option Int)) (hn:n≤100000)
  (he:∀ i,i < n→∀ H2,Same H H2→∀ Q':VK,(∀ (a:Addr) (H3:Hp),H2 a=none→Row H3 a (f i)→Same H2 H3→Q' (.ref a) H3)→te (blkSt ix (some (.int (lo+i))) σ) H2 Q')
  (hQ:∀ D as H',NewT H H' D as ((List.range n).map f)→Q (.ref D) H'):
  Wr (rComp (Itr lo n) ix te σ H Q):=by
 refine ⟨comp_range fun D hD=>⟨fun i ys H2=>∃ as,ys=as.map V.ref∧NewT H H2 D as ((List.range i).map f)∧i≤n,⟨[],rfl,NewT.zero hD,Nat.zero_le _⟩,?_,?_,?_⟩⟩
 · rintro i ys H2 ⟨as,rfl,h,hi⟩
   refine ⟨h.tb.is,small4k ?_⟩
   rw [List.length_map,h.tb.len];simp;omega
 · rintro i ys H2 hi ⟨as,rfl,h,_⟩ Q' q'
   refine he i hi H2 h.sm Q' fun a H3 ha hr s=>q' _ _ (h.row s) ⟨as++[a],by rw [List.map_append];rfl,?_,hi⟩
   rw [List.range_succ,List.map_append]
   exact h.snoc ha hr s
 · rintro ys H2 ⟨as,rfl,h,_⟩
   exact hQ D as H2 h
theorem comp_tabL {K:PySem.W.Frag}{a0:Addr}{xs:List V}{ix:List Nat}{te:TE}{σ:St}{H:Hp}{Q:VK} (T:Tab) (hq:SqL K H a0 xs) (hl:T.length=xs.length) (hn:xs.length≤100000)
  (he:∀ (i:Nat) x r,xs[i]?=some x→T[i]?=some r→∀ H2,Same H H2→∀ Q':VK,(∀ (a:Addr) (H3:Hp),H2 a=none→Row H3 a r→Same H2 H3→Q' (.ref a) H3)→te (blkSt ix (some x) σ) H2 Q')
  (hQ:∀ D as H',NewT H H' D as T→Q (.ref D) H'):
  Wr (rComp (Itl K a0) ix te σ H Q):=by
 refine comp_list (xs:=xs) fun D hD=>⟨fun i ys H2=>∃ as,ys=as.map V.ref∧NewT H H2 D as (T.take i),⟨[],rfl,by rw [List.take_zero];exact NewT.zero hD⟩,?_,?_,?_⟩
 · rintro i ys H2 hi ⟨as,rfl,h⟩
   refine ⟨h.sm.seq hq,h.tb.is,small4k ?_⟩
   rw [List.length_map,h.tb.len,List.length_take];omega
 · rintro i x ys H2 hi ⟨as,rfl,h⟩ Q' q'
   have hi':i < T.length:=by rw [hl];exact (List.getElem?_eq_some_iff.mp hi).1
   refine he i x T[i] hi (by simp [hi']) H2 h.sm Q' fun a H3 ha hr s=>q' _ _ (h.row s) ⟨as++[a],by rw [List.map_append];rfl,?_⟩
   rw [List.take_succ_eq_append_getElem hi']
   exact h.snoc ha hr s
 · rintro ys H2 ⟨as,rfl,h⟩
   rw [List.take_of_length_le (by omega)] at h
   exact hQ D as H2 h
theorem comp_tabP {K:PySem.W.Frag}{a0:Addr}{xs:List V}{ix:List Nat}{te:TE}{σ:St}{H:Hp}{Q:VK} (R:Nat→List (Option Int)→Prop) (hq:SqL K H a0 xs) (hn:xs.length≤100000)
  (he:∀ (i:Nat) x,xs[i]?=some x→∀ H2,Same H H2→∀ Q':VK,(∀ (a:Addr) (r:List (Option Int)) (H3:Hp),H2 a=none→Row H3 a r→R i r→Same H2 H3→Q' (.ref a) H3)→te (blkSt ix (some x) σ) H2 Q')
  (hQ:∀ D as T H',NewT H H' D as T→T.length=xs.length→(∀ (i:Nat) r,T[i]?=some r→R i r)→Q (.ref D) H'):
  Wr (rComp (Itl K a0) ix te σ H Q):=by
 refine comp_list (xs:=xs) fun D hD=>⟨fun i ys H2=>∃ as T,ys=as.map V.ref∧NewT H H2 D as T∧T.length=i∧i≤xs.length∧∀ (j:Nat) r,T[j]?=some r→R j r,⟨[],[],rfl,NewT.zero hD,rfl,Nat.zero_le _,fun j r e=>by simp at e⟩,?_,?_,?_⟩
 · rintro i ys H2 hi ⟨as,T,rfl,h,e,_⟩
   refine ⟨h.sm.seq hq,h.tb.is,small4k ?_⟩
   rw [List.length_map,h.tb.len];omega
 · rintro i x ys H2 hi ⟨as,T,rfl,h,e,_,hR⟩ Q' q'
   refine he i x hi H2 h.sm Q' fun a r H3 ha hr hr2 s=>q' _ _ (h.row s) ⟨as++[a],T++[r],by rw [List.map_append];rfl,h.snoc ha hr s,by simp [e],(List.getElem?_eq_some_iff.mp hi).1,fun j r' e'=>?_⟩
   by_cases hj:j < T.length
   · rw [List.getElem?_append_left hj] at e';exact hR j r' e'
   · rw [List.getElem?_append_right (by omega)] at e'
     have z:j - T.length=0:=by
      have:=(List.getElem?_eq_some_iff.mp e').1
      simp at this;omega
     rw [z] at e';cases e'
     have:j=i:=by omega
     rw [this];exact hr2
 · rintro ys H2 ⟨as,T,rfl,h,e,_,hR⟩
   exact hQ D as T H2 h e hR
theorem rd_listO {K:PySem.W.Frag}{H:Hp}{a:Addr}{r:List (Option Int)}{Q:VK} (hq:Row H a r) (h:∀ (p:Addr) (H':Hp),H p=none→Row H' p r→Same H H'→Q (.ref p) H'):Wr (rList K [.ref a] H Q):=
 ⟨⟨a,_,rfl,.inl (SqL.of hq),fun p hp=>h p _ hp upd_same ((Same.refl H).upd hp)⟩⟩
theorem compIf_filter {K:PySem.W.Frag}{a:Addr}{r:List (Option Int)}{ix:List Nat}{tt:TT}{te:TE}{σ:St}{H:Hp}{Q:VK} (p:Option Int→Bool) (ha:Row H a r) (hl:r.length≤100000)
  (ht:∀ z∈r,∀ (H':Hp) (Q':Bool→Hp→Prop),Same H H'→Q' (p z) H'→tt (blkSt ix (some (oV z)) σ) H' Q') (he:∀ z∈r,p z=true→∀ (H':Hp) (Q':VK),Same H H'→Q' (oV z) H'→te (blkSt ix (some (oV z)) σ) H' Q')
  (hQ:∀ (D:Addr) (H':Hp),H D=none→Row H' D (r.filter p)→Same H H'→Q (.ref D) H'):Wr (rCompIf (Itl K a) ix tt te σ H Q):=by
 refine compIf_list (xs:=r.map oV) fun D hD=>⟨fun i ys H2=>ys=((r.take i).filter p).map oV∧H2=upd H D (.lst ys),⟨by simp,rfl⟩,?_,?_,?_⟩
 · rintro i ys H2 hi ⟨rfl,rfl⟩
   refine ⟨((Same.refl H).upd hD).seq (SqL.of ha),upd_same,small4k ?_⟩
   have h1:=List.length_filter_le p (r.take i)
   have h2:(r.take i).length≤r.length:=by rw [List.length_take];omega
   rw [List.length_map];omega
 · rintro i x ys H2 hi ⟨rfl,rfl⟩ Q1 Q0 q1 q0
   obtain ⟨z,rfl,ez⟩:=get_opt hi
   have hi':i < r.length:=(List.getElem?_eq_some_iff.mp ez).1
   have ei:r[i]=z:=(List.getElem?_eq_some_iff.mp ez).2
   have mz:=List.mem_of_getElem? ez
   refine ht z mz _ _ ((Same.refl H).upd hD) ?_
   cases hp:p z with
   | true=>
    rw [if_pos rfl]
    refine he z mz hp _ _ ((Same.refl H).upd hD) (q1 _ _ upd_same ⟨?_,by rw [upd_upd]⟩)
    rw [List.take_succ_eq_append_getElem hi',List.filter_append,List.map_append,ei]
    simp [hp]
   | false=>
    rw [if_neg (by decide)]
    have e:(r.take (i+1)).filter p=(r.take i).filter p:=by
     rw [List.take_succ_eq_append_getElem hi',List.filter_append,ei]
     simp [hp]
    exact q0 _ ⟨by rw [e],rfl⟩
 · rintro ys H2 ⟨rfl,rfl⟩
   rw [List.length_map,List.take_of_length_le (Nat.le_refl _)]
   exact hQ D _ hD upd_same ((Same.refl H).upd hD)
def Let (k:Nat) (l:Int):Prop:=l≠0∧ -(k:Int)≤l∧l≤k
def pre (T:Tab) (j c:Nat):Option Int:=((List.range T.length).find? fun d=>decide (cell T d j=some (c:Int))).map fun d=>(d:Int)
def sgo (T:Tab) (c:Nat) (l:Int):Option Int:=if 0 < l then cell T c (l - 1).toNat else pre T (-l - 1).toNat c
def wgo (T:Tab) (o:Option Int) (w:List Int):Option Int:=w.foldl (fun o l=>o.bind fun c=>sgo T c.toNat l) o
theorem cell_lt {k n:Nat}{T:Tab} (h:TabOk k n T) {c j:Nat}{e:Int} (he:cell T c j=some e):c < n:=by
 unfold cell at he
 by_cases hc:c < T.length
 · rw [h.len] at hc;exact hc
 · simp [List.getD,List.getElem?_eq_none (Nat.le_of_not_lt hc)] at he
theorem pre_iff {k n:Nat}{T:Tab} (h:TabOk k n T) {j c:Nat}{d:Int}:pre T j c=some d↔∃ m:Nat,d=m∧m < n∧cell T m j=some (c:Int):=by
 unfold pre
 constructor
 · intro e
   cases q:(List.range T.length).find? (fun d=>decide (cell T d j=some (c:Int))) with
   | none=>rw [q] at e;cases e
   | some m=>
    rw [q] at e
    have h1:=List.find?_some q
    have h1:cell T m j=some (c:Int):=by simpa using h1
    exact ⟨m,(Option.some.inj e).symm,cell_lt h h1,h1⟩
 · rintro ⟨m,rfl,hm,e⟩
   cases q:(List.range T.length).find? (fun d=>decide (cell T d j=some (c:Int))) with
   | none=>
    have:=List.find?_eq_none.mp q m (by rw [h.len];exact List.mem_range.mpr hm)
    simp [e] at this
   | some m'=>
    have h1:=List.find?_some q
    have h1:cell T m' j=some (c:Int):=by simpa using h1
    have:=h.inj _ _ _ _ e h1
    rw [this];rfl
theorem opt_ext {a b:Option Int} (h:∀ d,a=some d↔b=some d):a=b:=by
 cases a with
 | none=>cases b with
  | none=>rfl
  | some y=>exact absurd ((h y).mpr rfl) (by simp)
 | some x=>exact ((h x).mp rfl).symm
theorem beg_pre {k n:Nat}{T:Tab} (h:TabOk k n T) {j c:Nat}{fs:List (Option Int)} (b:BegOk (col T j) fs):fs.getD c none=pre T j c:=by
 refine opt_ext fun d=>?_
 rw [b.iff,pre_iff h]
 constructor
 · rintro ⟨m,e,h1,h2⟩
   rw [col_getD] at h2
   rw [col_len,h.len] at h1
   exact ⟨m,e,h1,h2⟩
 · rintro ⟨m,e,h1,h2⟩
   refine ⟨m,e,by rw [col_len,h.len];exact h1,by rw [col_getD];exact h2⟩
theorem sgo_lt {k n:Nat}{T:Tab} (h:TabOk k n T) {c:Nat}{l d:Int} (e:sgo T c l=some d):0≤d∧d < n:=by
 unfold sgo at e
 split at e
 · exact h.rng _ _ _ e
 · obtain ⟨m,rfl,hm,_⟩:=(pre_iff h).mp e
   omega
theorem sgo_back {k n:Nat}{T:Tab} (h:TabOk k n T) {c d:Nat}{l:Int} (hl:l≠0) (hc:c < n) (e:sgo T c l=some (d:Int)):sgo T d (-l)=some (c:Int):=by
 unfold sgo at e ⊢
 by_cases hp:0 < l
 · rw [if_pos hp] at e
   rw [if_neg (by omega),show (- -l - 1).toNat=(l - 1).toNat by omega]
   exact (pre_iff h).mpr ⟨c,rfl,hc,e⟩
 · rw [if_neg hp] at e
   rw [if_pos (by omega)]
   obtain ⟨m,e1,hm,e2⟩:=(pre_iff h).mp e
   have:m=d:=by omega
   subst this
   exact e2
theorem wgo_none (T:Tab) (w:List Int):wgo T none w=none:=by
 unfold wgo
 induction w with
 | nil=>rfl
 | cons a w ih=>exact ih
theorem wgo_cons (T:Tab) (c:Int) (l:Int) (w:List Int):wgo T (some c) (l::w)=wgo T (sgo T c.toNat l) w:=rfl
theorem wgo_app (T:Tab) (o:Option Int) (v w:List Int):wgo T o (v++w)=wgo T (wgo T o v) w:=by unfold wgo;rw [List.foldl_append]
theorem wgo_snoc (T:Tab) (o:Option Int) (v:List Int) (l:Int):wgo T o (v++[l])=(wgo T o v).bind fun c=>sgo T c.toNat l:=by rw [wgo_app];rfl
theorem wgo_take {T:Tab}{o:Option Int}{w:List Int}{i:Nat}{l:Int} (h:w[i]?=some l):wgo T o (w.take (i+1))=(wgo T o (w.take i)).bind fun c=>sgo T c.toNat l:=by
 obtain ⟨hi,e⟩:=List.getElem?_eq_some_iff.mp h
 rw [List.take_succ_eq_append_getElem hi,wgo_snoc,e]
theorem wgo_stop {T:Tab}{o:Option Int}{w:List Int} (i:Nat) (h:wgo T o (w.take i)=none):wgo T o w=none:=by
 have:=wgo_app T o (w.take i) (w.drop i)
 rw [List.take_append_drop,h,wgo_none] at this
 exact this
theorem wgo_lt {k n:Nat}{T:Tab} (h:TabOk k n T) {c d:Int}{w:List Int} (hc:0≤c∧c < n) (e:wgo T (some c) w=some d):0≤d∧d < n:=by
 induction w generalizing c with
 | nil=>cases e;exact hc
 | cons l w ih=>
  rw [wgo_cons] at e
  cases q:sgo T c.toNat l with
  | none=>rw [q,wgo_none] at e;cases e
  | some c'=>rw [q] at e;exact ih (sgo_lt h q) e
def spCkC (C:Addr):Sp:=fun vs H Q _=>∃ (g:Addr) (k n:Nat) (T:Tab) (fp:List Addr) (c:Nat),vs=[.ref g,.int c]∧ChAt C H g k n T fp∧c < n∧Q .non H
def spCkL:Sp:=fun vs H Q _=>∃ (k:Nat) (wa:Addr) (ws:List Int),vs=[.int k,.ref wa]∧Ints H wa ws∧(∀ l∈ws,Let k l)∧Q .non H
def spStep (C:Addr):Sp:=fun vs H Q _=>∃ (g:Addr) (k n:Nat) (T:Tab) (fp:List Addr) (c:Nat) (l:Int),vs=[.ref g,.int c,.int l]∧ChAt C H g k n T fp∧c < n∧Let k l∧∀ H',Same H H'→Q (oV (sgo T c l)) H'
def spTrace (C:Addr):Sp:=fun vs H Q _=>∃ (g:Addr) (k n:Nat) (T:Tab) (fp:List Addr) (c:Nat) (wa:Addr) (w:List Int),vs=[.ref g,.int c,.ref wa]∧ChAt C H g k n T fp∧c < n∧Ints H wa w∧w.length≤100000∧(∀ l∈w,Let k l)∧
 ∀ H',Same H H'→Q (oV (wgo T (some (c:Int)) (cut w))) H'
def spLed:Sp:=fun vs H Q _=>∃ (t:Addr) (as:List Addr) (T:Tab) (k n c:Nat) (l:Int),vs=[.ref t,.int c,.int l]∧Tb H t as T∧TabOk k n T∧n≤1000∧c < n∧Let k l∧Q (oV (sgo T c l)) H
theorem push_all {p:Int→Prop}{st:List Int}{x:Int} (h:∀ l∈st,p l) (hx:p x):∀ l∈push st x,p l:=by
 cases st with
 | nil=>intro l hl;rw [List.mem_singleton.mp hl];exact hx
 | cons t r=>
  show ∀ l∈(if t= -x then r else x::t::r),p l
  split
  · exact fun l hl=>h l (List.mem_cons_of_mem _ hl)
  · intro l hl
    rcases List.mem_cons.mp hl with e | e
    · rw [e];exact hx
    · exact h l e
theorem cut_all {p:Int→Prop}{w:List Int} (h:∀ l∈w,p l):∀ l∈cut w,p l:=by
 have:∀ (w st:List Int),(∀ l∈st,p l)→(∀ l∈w,p l)→∀ l∈w.foldl push st,p l:=by
  intro w
  induction w with
  | nil=>intro st h1 _;exact h1
  | cons x w ih=>intro st h1 h2;exact ih _ (push_all h1 (h2 x (List.mem_cons_self ..))) fun l hl=>h2 l (List.mem_cons_of_mem _ hl)
 intro l hl
 unfold cut at hl
 rw [List.mem_reverse] at hl
 exact this w [] (fun _ z=>nomatch z) h l hl
end My
set_option autoImplicit false
namespace My
open PySem L2 PySem.SeqAt PyProof.Rows PySem.Spec
end My
namespace L2
open PySem
section
variable {X:Cx}{E:XK}{x m:Str}{C:Addr}{ps:List Str}{k j:Nat}{sp:Sp}{o e:Expr}{es:List Expr}{ta:TE}{t:TA}{apos p pos:Pos}{pl:Sem Bool}
theorem passX0 {X:Cx}:Passes (CXe X.prog X.w) X E0:=fun _ _ _ _ _ _ _ ⟨_,_,_,_,_,_,_,z⟩=>z.elim
theorem Rdx.pe0 (R:Rdx X.prog X.w X.K X.mg X.base x ps k sp) (hr:Room j X.A) (ha:PA X (e::es) t) (hg:Gl X x:=by rfl) (hj:k≤j:=by decide)
  (hdb:(x == ("__debug__":Str))=false:=by decide) (he:starEach (e::es) X.env=(false,eval e X.env)::starEach es X.env:=by rfl) (hpl:(backTo pos (starEach es X.env)).any (·.1)=false:=by rfl):
  PE X (.Call (.Name x p) (e::es) [] pos) (tCall sp [] E0 t):=pe_call R.ok (hr.mono hj) hg R.mgx R.kp R.bd .nil passX0 ha hdb he hpl
end
end L2
namespace My
open PySem L2
theorem comp_valsW {K:PySem.W.Frag}{a:Addr}{xs:List V}{ix:List Nat}{te:TE}{σ:St}{H:Hp}{Q:VK} (f:V→V) (hq:SqL K H a xs) (hl:xs.length < sizeLine)
  (he:∀ z∈xs,∀ (H':Hp) (Q':VK),Same H H'→Q' (f z) H'→te (blkSt ix (some z) σ) H' Q') (h:∀ (D:Addr) (H':Hp),H D=none→H' D=some (.lst (xs.map f))→Same H H'→Q (.ref D) H'):Wr (rComp (Itl K a) ix te σ H Q):=
 ⟨fun D hD=>comp_vals f hq hl he (fun D hD=>h D _ hD upd_same ((Same.refl H).upd hD)) D hD⟩
theorem rd_lsV {H:Hp}{xs:List V}{Q:VK} (hl:xs.length≤1000) (h:∀ (p:Addr) (H':Hp),H p=none→H' p=some (.lst xs)→Same H H'→Q (.ref p) H'):Wr (rLst xs H Q):=
 ⟨⟨Nat.le_of_lt (small4k (by omega)),fun p hp=>h p _ hp upd_same ((Same.refl H).upd hp)⟩⟩
section
variable {X:Cx}{E:XK}{x m:Str}{C:Addr}{ps:List Str}{k j:Nat}{sp:Sp}{o e:Expr}{es:List Expr}{ta:TE}{t:TA}{apos p pos:Pos}{pl:Sem Bool}
structure Rdmx (P:Program) (w:World) (K:PySem.W.Frag) (mg:Str→Option Value) (base:Heap) (C:Addr) (m:Str) (ps:List Str) (k:Nat) (sp:Sp) where
 f:Addr
 fd:FuncData
 ok:FnOk P w K mg base (CXe P w) k f fd ps sp
 cl:Cls K C
 mt:Meth K C m f
 bd:Binds K fd ps []
theorem Rdmx.pe (R:Rdmx X.prog X.w X.K X.mg X.base C m ps k sp) (hr:Room j X.A) (ho:PE (X.wish (XeF X E)) o ta) (ha:PA (X.wish (XeF X E)) (e::es) t) (hj:k≤j:=by decide)
  (he:starEach (e::es) X.env=(false,eval e X.env)::starEach es X.env:=by rfl) (hpl:(backTo pos (starEach es X.env)).any (·.1)=false:=by rfl)
  (ht:eval (.Call (.Attribute o m apos) (e::es) [] pos) X.env=(do
   let ov ← eval o X.env
   standAt apos.atName
   let (f,first) ← holding [ov] (getMethod ov m pl)
   callWith pos f first (backTo pos (starEach (e::es) X.env)) (backToKw pos (keywordEach [] X.env))):=by rfl):
  PE (X.wish (XeF X E)) (.Call (.Attribute o m apos) (e::es) [] pos) (tMeth C m sp [] E ta t):=pe_meth (X:=X.wish (XeF X E)) ho R.cl R.mt R.ok (hr.mono hj) R.bd .nil passX ha he hpl ht
end
def spCkCX (C:Addr) (cN:Addr):Sp:=fun vs H Q E=>∃ (g:Addr) (k n:Nat) (T:Tab) (fp:List Addr) (c:Int),vs=[.ref g,.int c]∧ChAt C H g k n T fp∧(0≤c∧c < n→Q .non H)∧(¬ (0≤c∧c < n)→E (.ref cN) none H)
end My
namespace L2
open PySem PySem.Spec PyProof.Rows
section
variable {X:Cx}
def rGetL (K:PySem.W.Frag):V→V→Hp→VK→Prop:=fun x y H Q=>∃ (p:Addr) (xs:List V) (i:Nat) (v:V),x=.ref p∧y=.int (i:Int)∧SqL K H p xs∧xs[i]?=some v∧Q v H
theorem get_listL:PGet X (rGetL X.K):=by
 intro pins s σ H o i ov iv Q I ro ri h
 obtain ⟨p,xs,j,z,rfl,rfl,hq,he,q⟩:=h
 cases ro
 obtain ⟨t,rfl⟩:=ri
 obtain ⟨its,r,pl,hz⟩:=I.list hq
 obtain ⟨w,ew,rw'⟩:=r.get he
 have hl:=r.length
 have hn:=line63
 have hj:=(List.getElem?_eq_some_iff.mp he).1
 exact wpAny_getItem_list pl.isList (by omega) (by omega) (by simpa using ew) ⟨z,H,I,rw',q⟩
end
section
variable {X:Cx}{pins:List (Addr × Obj)}{σ:St}{H:Hp}{s:Shared}{d:Addr}{kvs:List (Key × V)}
theorem Inv.freeze (I:Inv X pins σ H s) (e:H d=some (.dK kvs)):∃ o,Inv X pins σ (upd H d (.frz o (.dK kvs))) s:=by
 have hob:=I.hok d _ e
 obtain ⟨z,ns,vs,kv,dd⟩:=(show ObjOk X.prog X.w H s.heap d (.dK kvs) from hob)
 obtain ⟨o,es,ep,ho,r⟩:=id dd
 have ne:∀ {b:Addr},H b=none→b≠d:=fun hb q=>by rw [q,e] at hb;cases hb
 refine ⟨o,I.ok,I.os,I.bare,⟨I.base.keep,I.base.slot,fun b ob q n hx=>?_,I.base.there,fun b xs q=>?_,fun b ob u q=>?_,fun b ps q=>?_⟩,I.loc,I.cell,?_,fun x c q=>?_,fun p hp=>?_,fun a u q=>?_,I.len⟩
 · have h1:=I.base.free b ob q n hx
   rw [upd_ne (ne h1)];exact h1
 · have h1:=I.base.tups b xs q
   rw [upd_ne (fun z=>by rw [z,e] at h1;cases h1)];exact h1
 · have h1:=I.base.frzs b ob u q
   rw [upd_ne (fun z=>by rw [z,e] at h1;cases h1)];exact h1
 · obtain ⟨m,h1⟩:=I.base.tbls b ps q
   exact ⟨m,by rw [upd_ne (fun z=>by rw [z,e] at h1;cases h1)];exact h1⟩
 · rw [upd_ne (ne I.free)];exact I.free
 · rw [upd_ne (ne (I.freeC x c q))];exact I.freeC x c q
 · obtain ⟨h1,h2,h3⟩:=I.pin p hp
   exact ⟨h1,by rw [upd_ne (ne h2)];exact h2,h3⟩
 · by_cases ha:a=d
   · subst ha
     rw [upd_same] at q;cases q
     exact ⟨ho,z,ns,vs,kv,dd⟩
   · rw [upd_ne ha] at q
     refine (I.hok a u q).stay (fun b v hb w=>w) (fun b hb=>?_) fun b xs hb=>?_
     · rw [upd_ne (fun z=>by rw [z,e] at hb;cases hb)];exact hb
     · rw [upd_ne (fun z=>by rw [z,e] at hb;cases hb)];exact hb
def tRetF (te:TE):TS:=fun D σ H=>te σ H fun x H1=>∃ d kvs,x=.ref d∧H1 d=some (.dK kvs)∧∀ o,D.rt x (upd H1 d (.frz o (.dK kvs)))
theorem ps_retF {e:Expr}{te:TE}{pos:Pos} (he:PE X e te):PS X (.Return (some e) pos) (tRetF te):=by
 intro pins s σ H D I h
 refine wpAny_Return_some (thn (he pins s σ H _ I h) fun v s1 ⟨x,H1,I1,r1,d,kvs,ex,ed,q⟩=>?_)
 obtain ⟨o,I2⟩:=I1.freeze ed
 exact ⟨x,σ,_,I2,r1,q o⟩
theorem rel_key {P:Program}{w:World}{k:Key}{u:Value} (h:(mixKind P w).is k u=true):RelV (kV k) u:=by
 have h:keyIs k u=true:=h
 rcases keyIs_shape h with ⟨i,t,rfl,rfl⟩ | ⟨x,t,rfl,rfl⟩ | ⟨rfl,rfl⟩
 · exact ⟨t,rfl⟩
 · exact ⟨t,rfl⟩
 · exact rfl
theorem frz_dict {P:Program}{w:World}{h:Heap}{o:Obj} (ok:HOk P w H h) (e:H d=some (.frz o (.dK kvs))):(d == sysModules)=false∧h.get? d=some o∧∃ vs,KV kvs vs∧vs.length=kvs.length∧h.DictOf (mixKind P w) d vs:=by
 obtain ⟨ho,z,ns,vs,kv,dd⟩:=(show ObjOk P w H h d (.frz o (.dK kvs)) from ok d _ e)
 exact ⟨ns,ho,vs,kv,(Paired.length kv).symm,dd⟩
theorem KV.get {κ:Type}{a:List (κ × V)}{b:List (κ × Value)} (h:KV a b):∀ {i:Nat}{p:κ × V},a[i]?=some p→∃ q,b[i]?=some q∧p.1=q.1:=by
 unfold KV at h
 induction h with
 | nil=>intro i p e;simp at e
 | cons hxy _ ih=>
  intro i p e
  cases i with
  | zero=>cases e;exact ⟨_,rfl,hxy.1⟩
  | succ i=>exact ih (by simpa using e)
end
def blkSt2 (ix:List Nat) (x y:Option V) (σ:St):St:=x::y::ix.map fun i=>(σ[i]?).join
def rComp2 (J:It) (ix:List Nat) (wj:TI) (te:TE) (σ:St) (H1:Hp) (Q:VK):Prop:=∀ D,H1 D=none→∃ W:Nat→Nat→List V→Hp→Prop,(∃ m,W 0 m [] (upd H1 D (.lst [])))∧
 ∀ i m ys H2,W i m ys H2→H2 D=some (.lst ys)∧((J.stop i H2∧Q (.ref D) H2)∨(J.go i H2∧∀ x H',J.yld i H2 x H'→∀ y0,wj (blkSt2 ix (some x) y0 σ) H' fun J2 H3=>∃ U:Nat→Nat→List V→Hp→Prop,(∃ m2,U 0 m2 ys H3)∧
  ∀ j m2 zs H4,U j m2 zs H4→H4 D=some (.lst zs)∧((J2.stop j H4∧∃ m',m' < m∧W (i+1) m' zs H4)∨(J2.go j H4∧zs.length < sizeLine∧∀ y H5,J2.yld j H4 y H5→te (blkSt2 ix (some x) (some y) σ) H5 fun v H6=>
   H6 D=some (.lst zs)∧∃ m2',m2' < m2∧U (j+1) m2' (zs++[v]) (upd H6 D (.lst (zs++[v])))))))
def tComp2 (wi:TI) (ix:List Nat) (wj:TI) (te:TE):TE:=fun σ H Q=>wi σ H fun J H1=>Wr (rComp2 J ix wj te σ H1 Q)
theorem compTurn_list2 (elt t1 i1 t2 i2:Expr) (scope:Scope) (pos:Pos) (it acc:Value) (env:Env):
  compTurn (.ListComp elt [⟨t1,i1,[],0⟩,⟨t2,i2,[],0⟩] scope pos) 0 it acc env=(standAt i1.pos >>= fun _=>pyNext it >>= fun r=>match r with
   | none=>pure (.done .next)
   | some v=>letOwnedTupleGo t1 it v >>= fun _=>assign t1 env v >>= fun _=>
    eval i2 env >>= fun x=>standAt i2.pos >>= fun _=>foldedSetIterable i2 env x >>= fun x=>holding [x] (pyIter x) >>= fun it2=>runOwn (.compStart (.ListComp elt [⟨t1,i1,[],0⟩,⟨t2,i2,[],0⟩] scope pos) 1 it2 acc env) env >>= fun _=>
     again (.compLoop (.ListComp elt [⟨t1,i1,[],0⟩,⟨t2,i2,[],0⟩] scope pos) 0 it acc env)):=by rfl
theorem compTurn_list2b (elt t1 i1 t2 i2:Expr) (scope:Scope) (pos:Pos) (it acc:Value) (env:Env):
  compTurn (.ListComp elt [⟨t1,i1,[],0⟩,⟨t2,i2,[],0⟩] scope pos) 1 it acc env=(standAt i2.pos >>= fun _=>pyNext it >>= fun r=>match r with
   | none=>pure (.done .next)
   | some v=>letOwnedTupleGo t2 it v >>= fun _=>assign t2 env v >>= fun _=>
    (eval elt env >>= fun x=>call (.builtin "list.append") [acc,x] >>= fun _=>pure ()) >>= fun _=>
     again (.compLoop (.ListComp elt [⟨t1,i1,[],0⟩,⟨t2,i2,[],0⟩] scope pos) 1 it acc env)):=by rfl
theorem codeAny_compStart_list1 {prog:Program}{w:World}{A:Around}{R:Result→Shared→Prop}{s:Shared}{elt g1 t2 i2 scope pos it acc env}
  (h0:codeAny (model prog w) A (.compLoop (.ListComp elt [g1,⟨t2,i2,[],0⟩] scope pos) 1 it acc env) R s)
  (h:wpAny (model prog w) A (pyIter it) (fun it' s'=>codeAny (model prog w) A (.compLoop (.ListComp elt [g1,⟨t2,i2,[],0⟩] scope pos) 1 it' acc env) R s')
   (notedBy (model prog w) A env fun x s'=>R (.error x) s') s):
  codeAny (model prog w) A (.compStart (.ListComp elt [g1,⟨t2,i2,[],0⟩] scope pos) 1 it acc env) R s:=by
 refine codeAny_of_tree ?_
 show wpAny _ _ ((compStart (.ListComp elt [g1,⟨t2,i2,[],0⟩] scope pos) 1 it acc env).onRaise (fun x=>do noteFrame x env;standAt theWindowsPlace)) _ _ s
 refine wpAny_notedAt ?_
 unfold compStart
 show wpAny _ _ (ask >>= _) _ _ s
 refine wpAny_bind (wpAny_askSetting (wpAny_ite ?_))
 split
 · first
     | exact wpAny_bind (wpAny_pure (wpAny_pure (And.intro rfl h0)))
     | exact wpAny_pure (And.intro rfl h0)
 · first
     | exact wpAny_bind (wpAny_rule (wpAny_bind (wpAny_standAt (wpAny_bind (wpAny_mono h (fun it' s' h'=>wpAny_pure (And.intro rfl h')) fun _ _ x=>x)))))
     | (refine wpAny_bind (wpAny_rule ?_);show wpAny _ _ (standAt i2.pos >>= _) _ _ s;exact wpAny_bind (wpAny_standAt (wpAny_bind (wpAny_mono h (fun it' s' h'=>wpAny_pure (And.intro rfl h')) fun _ _ x=>x))))
section
variable {X:Cx}
theorem pe_lcomp2 {x y2:Str}{px py pos:Pos}{elt iter iter2:Expr}{scope:Scope}{cl:List (Str × Addr)}{fr:List Str}{ix:List Nat}{wi wj:TI}{te:TE}
  (hc:X.calm=true) (hi:PI X (.Name x px) iter wi)
  (hclos:closureFor scope X.env=pure cl) (hkind:scope.kind=.function) (hcell:∀ y∈scope.names,y.2≠.cell)
  (hnames:∀ y∈scope.names,y.2=.local→scope.names.lookup y.1=some .local) (hx:scope.names.lookup x=some .local) (hy2:scope.names.lookup y2=some .local)
  (hN:(x::y2::fr).Nodup) (hix:ix.map (fun i=>X.N[i]?)=fr.map some)
  (hfr:∀ y∈fr,X.env.kindOf y=some .cell∧(relabel scope X.env).names.lookup y=some .cell)
  (hcl:∀ y c,cl.lookup y=some c→X.env.cells.lookup y=some c)
  (hcl2:∀ y,((relabel scope X.env).names.lookup y=some .cell∨(relabel scope X.env).names.lookup y=some .free)→∃ c,cl.lookup y=some c)
  (hj:∀ C s H fp,PI (X.blk (x::y2::fr) scope cl C s H fp) (.Name y2 py) iter2 wj)
  (he:∀ C s H fp,PE (X.blk (x::y2::fr) scope cl C s H fp) elt te)
  (hs:∀ x,foldedSetIterable iter X.env x=pure x:=by intro _;rfl) (hs2:∀ env x,foldedSetIterable iter2 env x=pure x:=by intro _ _;rfl):
  PE X (.ListComp elt [⟨.Name x px,iter,[],0⟩,⟨.Name y2 py,iter2,[],0⟩] scope pos) (tComp2 wi ix wj te):=by
 intro pins s σ H Q I h
 rw [eval_ListComp]
 refine wpAny_comprehension_free (use:=none) rfl hs hclos hkind hnames (thn (hi pins s σ H _ I h) fun xv s1 h1=>thn h1 fun itv s2 h2=>?_)
 obtain ⟨it,fp,tn,J,H2,e,I2,T,st2,f2,q⟩:=h2
 subst e
 refine wpAny_newObj_type (wpAny_newFunctionEnv hcell (by intro y hy;simp at hy) (fun h₁ hns₁ hsb₁=>?_) hkind)
 dsimp only at hns₁ hsb₁ ⊢
 have hDn:H2 s2.heap.objs.size=none:=I2.hok.fresh (Nat.le_refl _)
 obtain ⟨W,⟨m0,w0⟩,turn⟩:=q.get s2.heap.objs.size hDn
 generalize hHL:s2.heap.push { cls:=.type "list",dict:=none,data:=.seq ([]:List Value).toArray }=HL at hns₁ hsb₁ ⊢
 have hC:HL.objs.size=s2.heap.objs.size+1:=by rw [← hHL,Heap.size_push]
 have old:∀ b o,s2.heap.get? b=some o→h₁.get? b=some o:=fun b o e=>(hsb₁.2 b (by rw [hC];exact Nat.ne_of_lt (Nat.lt_succ_of_lt (Heap.lt_size e)))).trans (Heap.get?_push_of_some _ (hHL▸Heap.get?_push_of_some _ e))
 have hD1:h₁.get? s2.heap.objs.size=some { cls:=.type "list",data:=.seq ([]:List Value).toArray }:=
  (hsb₁.2 _ (by rw [hC];exact Nat.ne_of_lt (Nat.lt_succ_self _))).trans (Heap.get?_push_of_some _ (hHL▸Heap.get?_push_size _ rfl))
 generalize hCC:HL.objs.size=C at hns₁ hsb₁ ⊢
 rw [hCC] at hC
 have bC:∀ b o,s2.heap.get? b=some o→b≠C:=fun b o e=>by rw [hC];exact Nat.ne_of_lt (Nat.lt_succ_of_lt (Heap.lt_size e))
 have stl:∀ b∈frs X.stack,∃ o,s2.heap.get? b=some o:=fun b hb=>by
  obtain ⟨_,o,ho,_⟩:=I2.stack.mem hb
  exact ⟨o,ho⟩
 have fpl:∀ b∈fp,∃ o,s2.heap.get? b=some o∧∀ v,o.data≠.cell v:=fun b hb=>T.obj 0 _ st2 b hb
 have fpstk:∀ b∈fp,b∉frs X.stack:=fun b hb z=>by
  rcases List.mem_cons.mp (I2.stkSub b z) with z | z
  · exact (f2 b hb).2.1 z
  · exact (f2 b hb).2.2.1 z
 let B:=X.blk (x::y2::fr) scope cl C s2 H2 fp
 have okB:B.Ok:=by
  refine ⟨I2.ok.mod,hkind,I2.ok.glob,I2.ok.blt,(by show s2.heap.objs.size≤C;rw [hC];exact Nat.le_succ _),fun y z c e1 e2=>I2.ok.inj y z c (hcl _ _ e1) (hcl _ _ e2),fun y hy=>hcl2 y hy,fun y c z=>absurd (show false=true from z) Bool.false_ne_true,
   fun _=>I2.ok.hd hc,I2.ok.frames,.inl rfl,fun b hb=>⟨?_,fun y c e=>(f2 b hb).2.2.2.2.1 y c (hcl _ _ e)⟩,I2.bs,Nat.le_trans I2.ok.bsz I2.sz,fun b o e hb=>?_,fun b hb=>fpstk b hb,I2.stack,I2.stkFree⟩
  · obtain ⟨o,e,_⟩:=fpl b hb
    exact bC b o e
  · rcases (f2 b hb).2.2.2.1 with z | z
    · exact I2.ok.noex b o e z
    · exact absurd (Nat.lt_of_lt_of_le (Heap.lt_size (I2.ok.bs b o e).1) z) (Nat.lt_irrefl _)
 have IB:∀ tk,Inv B [] (blkSt2 ix none none σ) (upd H2 s2.heap.objs.size (.lst [])) { s2 with heap:=h₁,toks:=tk }:=fun tk=>by
  refine ⟨okB,rfl,I2.bare,Un.laid old (Nat.le_refl _) hDn,⟨_,hns₁,fun j y v e1 e2 e3=>?_⟩,fun y c e=>?_,?_,fun y c e=>?_,(fun p hp=>nomatch hp),I2.hok.laid old (Nat.le_refl _) ⟨Nat.zero_le _,[],0,.nil,hD1⟩,?_⟩
  · cases j with
    | zero=>cases (show (some none:Option (Option V))=some (some v) from e2)
    | succ j=>
     cases j with
     | zero=>cases (show (some none:Option (Option V))=some (some v) from e2)
     | succ j=>
      have e1:fr[j]?=some y:=e1
      have e2:(ix.map fun i=>(σ[i]?).join)[j]?=some (some v):=e2
      have hj:=congrArg (fun l=>l[j]?) hix
      simp only [List.getElem?_map,e1] at hj
      rw [List.getElem?_map] at e2
      cases hij:ix[j]? with
      | none=>rw [hij] at e2;cases e2
      | some i=>
       rw [hij] at hj e2
       have hj:X.N[i]?=some y:=Option.some.inj hj
       have e2:(σ[i]?).join=some v:=Option.some.inj e2
       have e2:σ[i]?=some (some v):=by
        cases z:σ[i]? with
        | none=>rw [z] at e2;cases e2
        | some z'=>rw [z] at e2;rw [show z'=some v from e2]
       obtain ⟨m,hn,hl⟩:=I2.loc
       have hk:=hfr y (List.mem_of_getElem? e1)
       obtain ⟨u,ru,lk⟩:=hl i y v hj e2 (.inr (.inl hk.1))
       refine ⟨u,ru,.inr ⟨.inl hk.2,?_⟩⟩
       rcases lk with ⟨z,_⟩ | ⟨_,c,ec,⟨oc,hoc,hcd⟩⟩
       · rw [hk.1] at z;cases z
       · obtain ⟨c',ec'⟩:=hcl2 y (.inl hk.2)
         have:=hcl _ _ ec'
         rw [ec] at this;cases this
         exact ⟨c,ec',oc,old c oc hoc,hcd⟩
  · obtain ⟨v,oc,hoc,hcd⟩:=I2.cell y c (hcl _ _ e)
    exact ⟨v,oc,old c oc hoc,hcd⟩
  · show upd H2 s2.heap.objs.size (.lst []) C=none
    rw [upd_ne (by rw [hC];exact Nat.succ_ne_self _)]
    exact I2.hok.fresh (by rw [hC];exact Nat.le_succ _)
  · obtain ⟨v,oc,hoc,hcd⟩:=I2.cell y c (hcl _ _ e)
    rw [upd_ne (Nat.ne_of_lt (Heap.lt_size hoc))]
    exact I2.freeC y c (hcl _ _ e)
  · show (blkSt2 ix none none σ).length=(x::y2::fr).length
    have:=congrArg List.length hix
    simp only [List.length_map] at this
    simp [blkSt2,this]
 have st1:∀ tk,tn 0 ({ s2 with heap:=h₁,toks:=tk }:Shared).heap:=fun _=>T.keep 0 _ _ st2 fun b hb o e=>old b o e
 have fB:∀ {H':Hp},(∀ b∈fp,H' b=none)→∀ b∈fp,FpOk B [] H' b:=fun hn b hb=>by
  obtain ⟨o,e,_⟩:=fpl b hb
  exact ⟨hn b hb,bC b o e,fpstk b hb,.inl hb,fun y c ec=>(f2 b hb).2.2.2.2.1 y c (hcl _ _ ec),(fun p hp=>nomatch hp)⟩
 have loop:∀ tk,codeAny (model X.prog X.w) X.A (.compLoop (.ListComp elt [⟨.Name x px,iter,[],0⟩,⟨.Name y2 py,iter2,[],0⟩] scope pos) 0 (.ref it) (.ref s2.heap.objs.size) (compEnvC scope cl C X.env))
   (compPost (model X.prog X.w) X.A X.xe none (EP X pins σ Q) (.ref s2.heap.objs.size) C) { s2 with heap:=h₁,toks:=tk }:=fun tk=>by
  refine codeAny_loop rfl (fun n s'=>∃ i ys x' y' H',Inv B [] (blkSt2 ix x' y' σ) H' s'∧tn i s'.heap∧(∀ b∈fp,H' b=none)∧W i n ys H') (fun n s3 hI=>?_) m0 ⟨0,[],none,none,_,IB tk,st1 tk,fun b hb=>?_,w0⟩
  · obtain ⟨i,ys,x',y',H3,I3,st3,fr3,w3⟩:=hI
    show wpAny _ _ ((compTurn (.ListComp elt [⟨.Name x px,iter,[],0⟩,⟨.Name y2 py,iter2,[],0⟩] scope pos) 0 (.ref it) (.ref s2.heap.objs.size) (compEnvC scope cl C X.env)).onRaise (fun x=>do noteFrame x (compEnvC scope cl C X.env);theTreesLotGoes x)) _ _ s3
    refine wpAny_noted ?_
    rw [compTurn_list2]
    obtain ⟨hD3,alt⟩:=turn i n ys H3 w3
    refine wpAny_bind (wpAny_standAt (wpAny_bind ?_))
    rcases alt with ⟨stop,qn⟩ | ⟨go,step⟩
    · refine thn (T.done B rfl rfl rfl hc i [] s3 _ H3 _ I3 (fB fr3) st3 stop) fun r s4 ⟨hr,I4⟩=>?_
      subst hr
      refine wpAny_pure ?_
      obtain ⟨m4,hn4,_⟩:=I4.loc
      refine ⟨m4,hn4,fun h' sb=>?_⟩
      have un:Un (frs X.stack) fp H2 H3 s2.heap h':=by
       have u:=I4.base
       refine ⟨fun b o e n hb hx=>(sb.2 b (bC b o e)).trans (u.keep b o e n hb hx),fun b o e n hb hx=>?_,u.free,fun b o e hx=>?_,u.tups,u.frzs,u.tbls⟩
       · obtain ⟨sl,e1⟩:=u.slot b o e n hb hx
         exact ⟨sl,(sb.2 b (bC b o e)).trans e1⟩
       · obtain ⟨o',e1⟩:=u.there b o e hx
         exact ⟨o',(sb.2 b (bC b o e)).trans e1⟩
      refine ⟨.ref s2.heap.objs.size,H3,I2.call' (s':={ s4 with heap:=h' }) (ch:=fp) I4.os un (I4.hok.sameBut I4.free sb) I4.bare (fun b hb=>⟨(f2 b hb).2.2.2.1,(f2 b hb).2.1,(f2 b hb).2.2.2.2⟩),rfl,qn⟩
    · refine thn (T.item B rfl rfl rfl hc i [] s3 _ H3 _ I3 (fB fr3) st3 go) fun r s4 ⟨u,hr,h4⟩=>?_
      subst hr
      refine wpAny_bind (thn h4 fun _ s5 ⟨xv,H5,I5,r5,y5,st5,fr5⟩=>?_)
      have I5':=I5.pinned (fB fr5) (T.obj _ _ st5)
      refine wpAny_bind (wpAny_assign_Name (store_ok (i:=0) (X:=B) I5' hN rfl (.inl (lookup_relabel_local hx)) r5 (fun s6 I6=>?_) (.inr (lookup_relabel_local hx))))
      have I6:Inv B ([]++pinsAt fp s5.heap) (blkSt2 ix (some xv) y' σ) H5 s6:=I6
      generalize hpp:([]:List (Addr × Obj))++pinsAt fp s5.heap=pp at I6
      have kp:∀ {st:St}{H8:Hp}{s8:Shared},Inv B pp st H8 s8→tn (i+1) s8.heap∧∀ b∈fp,H8 b=none:=fun I8=>by
       subst hpp
       exact ⟨T.keep _ _ _ st5 fun b hb o e=>(I8.pin (b,o) (List.mem_append_right _ (List.mem_append_right _ (mem_pinsAt hb e)))).1,fun b hb=>by
        obtain ⟨o,e,d⟩:=T.obj _ _ st5 b hb
        exact (I8.pin (b,o) (List.mem_append_right _ (List.mem_append_right _ (mem_pinsAt hb e)))).2.1⟩
      have un8:∀ {st:St}{H8:Hp}{s8:Shared},Inv B pp st H8 s8→Inv B [] st H8 s8:=fun I8=>by
       subst hpp
       exact I8.unpinned
      refine wpAny_bind (wpAny_mono (hj C s2 H2 fp pp s6 _ H5 _ I6 (step xv H5 y5 y')) (fun xv2 s7 h7=>?_) fun _ _ z=>False.elim z)
      refine wpAny_bind (wpAny_standAt (wpAny_bind (wpAny_of_eq (hs2 _ _) (wpAny_bind (wpAny_holding (wpAny_mono h7 (fun itv2 s8 h8=>?_) fun _ _ z=>False.elim z))))))
      obtain ⟨it2,fp2,tn2,J2,H8,e8,I8,T2,st8,f8,q8⟩:=h8
      subst e8
      obtain ⟨VV,⟨n0,v0⟩,turn2⟩:=q8
      refine wpAny_bind (wpAny_runOwn ?_)
      have loop2:∀ s8':Shared,s8'=s8→codeAny (model X.prog X.w) X.A (.compLoop (.ListComp elt [⟨.Name x px,iter,[],0⟩,⟨.Name y2 py,iter2,[],0⟩] scope pos) 1 (.ref it2) (.ref s2.heap.objs.size) (compEnvC scope cl C X.env))
        (fun r s'=>match r with | .ok _=>∃ m' y'' zs H',m' < n∧Inv B pp (blkSt2 ix (some xv) y'' σ) H' s'∧W (i+1) m' zs H' | .error _=>False) s8':=fun s8' es8=>by
       subst es8
       refine codeAny_loop rfl (fun n s'=>∃ j zs y'' H',Inv B pp (blkSt2 ix (some xv) y'' σ) H' s'∧tn2 j s'.heap∧(∀ b∈fp2,H' b=none)∧VV j n zs H') (fun n s3 hI=>?_) n0 ⟨0,ys,y',H8,I8,st8,fun b hb=>(f8 b hb).1,v0⟩
       obtain ⟨j,zs,y'',H9,I9,st9,fr9,v9⟩:=hI
       show wpAny _ _ ((compTurn (.ListComp elt [⟨.Name x px,iter,[],0⟩,⟨.Name y2 py,iter2,[],0⟩] scope pos) 1 (.ref it2) (.ref s2.heap.objs.size) (compEnvC scope cl C X.env)).onRaise (fun x=>do noteFrame x (compEnvC scope cl C X.env);theTreesLotGoes x)) _ _ s3
       refine wpAny_noted ?_
       rw [compTurn_list2b]
       obtain ⟨hD9,alt⟩:=turn2 j n zs H9 v9
       have fok:∀ {Hq:Hp},(∀ b∈fp2,Hq b=none)→∀ b∈fp2,FpOk B pp Hq b:=fun hn b hb=>⟨hn b hb,(f8 b hb).2⟩
       refine wpAny_bind (wpAny_standAt (wpAny_bind ?_))
       rcases alt with ⟨stop,m',hm',w'⟩ | ⟨go,hlen,step2⟩
       · refine wpAny_mono (T2.done B rfl rfl rfl hc j pp s3 _ H9 (fun _ _=>False) I9 (fok fr9) st9 stop) (fun r s4 ⟨hr,I4⟩=>?_) fun _ _ z=>False.elim z
         subst hr
         exact wpAny_pure ⟨m',y'',zs,H9,hm',I4,w'⟩
       · refine wpAny_mono (T2.item B rfl rfl rfl hc j pp s3 _ H9 (fun _ _=>False) I9 (fok fr9) st9 go) (fun r s4 ⟨u,hr,h4⟩=>?_) fun _ _ z=>False.elim z
         subst hr
         refine wpAny_bind (wpAny_mono h4 (fun _ s5' ⟨yv,H10,I10,r10,y10,st10,fr10⟩=>?_) fun _ _ z=>False.elim z)
         have I10':=I10.pinned (fok fr10) (T2.obj _ _ st10)
         refine wpAny_bind (wpAny_assign_Name (store_ok (i:=1) (X:=B) I10' hN rfl (.inl (lookup_relabel_local hy2)) r10 (fun s11 I11=>?_) (.inr (lookup_relabel_local hy2))))
         have I11:Inv B (pp++pinsAt fp2 s5'.heap) (blkSt2 ix (some xv) (some yv) σ) H10 s11:=I11
         refine wpAny_bind (wpAny_bind (wpAny_mono (he C s2 H2 fp _ s11 _ H10 _ I11 (step2 yv H10 y10)) (fun v s12 ⟨y,H12,I12,r12,hD12,m',hm,v12⟩=>?_) fun _ _ z=>False.elim z))
         refine wpAny_bind (wpAny_mono (mt_append (X:=B) _ s12 _ H12 (.ref s2.heap.objs.size) [y] (.ref s2.heap.objs.size) [v] (fun _ H8=>H8=upd H12 s2.heap.objs.size (.lst (zs++[y]))) I12 rfl (.cons r12 .nil) ⟨_,zs,y,rfl,rfl,hD12,hlen,rfl⟩)
          (fun _ s13 ⟨_,H13,I13,_,e13⟩=>?_) fun _ _ z=>False.elim z)
         subst e13
         refine wpAny_pure (wpAny_pure ⟨rfl,m',hm,j+1,zs++[y],some yv,_,I13.unpinned,T2.keep _ _ _ st10 fun b hb o e=>(I13.pin (b,o) (List.mem_append_right _ (List.mem_append_right _ (mem_pinsAt hb e)))).1,fun b hb=>?_,v12⟩)
         obtain ⟨o,e,d⟩:=T2.obj _ _ st10 b hb
         exact (I13.pin (b,o) (List.mem_append_right _ (List.mem_append_right _ (mem_pinsAt hb e)))).2.1
      have cont:codeAny (model X.prog X.w) X.A (.compStart (.ListComp elt [⟨.Name x px,iter,[],0⟩,⟨.Name y2 py,iter2,[],0⟩] scope pos) 1 (.ref it2) (.ref s2.heap.objs.size) (compEnvC scope cl C X.env))
        (fun r s'=>match r with | .ok _=>∃ m' y'' zs H',m' < n∧Inv B pp (blkSt2 ix (some xv) y'' σ) H' s'∧W (i+1) m' zs H' | .error _=>False) s8:=
       codeAny_compStart_list1 (loop2 _ rfl) (T2.self _ 0 _ _ _ st8 (loop2 _ rfl))
      refine codeAny_mono cont fun r s' hr=>?_
      cases r with
      | error _=>exact False.elim hr
      | ok f=>
       obtain ⟨m',y'',zs,H',hm,I',w'⟩:=hr
       exact wpAny_pure ⟨rfl,m',hm,i+1,zs,some xv,y'',H',un8 I',(kp I').1,(kp I').2,w'⟩
  · obtain ⟨o,e,_⟩:=fpl b hb
    rw [upd_ne (Nat.ne_of_lt (Heap.lt_size e))]
    exact (f2 b hb).1
 exact codeAny_compStart_list (loop _) (T.self _ 0 _ _ _ (st1 _) (loop _))
end
section
variable {X:Cx}{te:TE}{pos:Pos}
theorem pit {l tg:Expr}{tl:TE} (K:PySem.W.Frag) (e:X.K=K) (hl:PE X l tl):PI X tg l (iTup K tl):=by subst e;exact pi_tup hl
theorem pe_comp2 {x y2:Str}{px py:Pos}{elt iter iter2:Expr}{scope:Scope}{cl:List (Str × Addr)}{wi wj:TI} (fr:List Str) (ix:List Nat)
  (hi:PI X (.Name x px) iter wi) (hj:∀ C s H fp,PI (X.blk (x::y2::fr) scope cl C s H fp) (.Name y2 py) iter2 wj) (he:∀ C s H fp,PE (X.blk (x::y2::fr) scope cl C s H fp) elt te)
  (hcl:∀ y c,cl.lookup y=some c→X.env.cells.lookup y=some c)
  (hclos:closureFor scope X.env=pure cl:=by rfl) (hc:X.calm=true:=by rfl) (hkind:scope.kind=.function:=by rfl) (hcell:(scope.names.all fun p=>p.2 != .cell)=true:=by rfl)
  (hnames:(scope.names.all fun p=>p.2 != .local || scope.names.lookup p.1 == some .local)=true:=by rfl) (hx:scope.names.lookup x=some .local:=by rfl) (hy2:scope.names.lookup y2=some .local:=by rfl)
  (hN:(x::y2::fr).Nodup:=by decide+kernel) (hix:ix.map (fun i=>X.N[i]?)=fr.map some:=by rfl)
  (hfr:(fr.all fun y=>X.env.kindOf y == some .cell && (relabel scope X.env).names.lookup y == some .cell)=true:=by rfl)
  (hcl2:((relabel scope X.env).names.all fun p=>(p.2 != .cell && p.2 != .free) || (cl.lookup p.1).isSome)=true:=by rfl)
  (hs:∀ x,foldedSetIterable iter X.env x=pure x:=by intro _;rfl) (hs2:∀ env x,foldedSetIterable iter2 env x=pure x:=by intro _ _;rfl):
  PE X (.ListComp elt [⟨.Name x px,iter,[],0⟩,⟨.Name y2 py,iter2,[],0⟩] scope pos) (tComp2 wi ix wj te):=by
 refine pe_lcomp2 hc hi hclos hkind (fun y hy e=>?_) (fun y hy e=>?_) hx hy2 hN hix (fun y hy=>?_) hcl (fun y hy=>?_) hj he hs hs2
 · have:=List.all_eq_true.mp hcell y hy
   rw [e] at this
   exact absurd this (by decide)
 · have:=List.all_eq_true.mp hnames y hy
   rw [e] at this
   simpa using this
 · have:=List.all_eq_true.mp hfr y hy
   rw [Bool.and_eq_true] at this
   exact ⟨eq_of_beq this.1,eq_of_beq this.2⟩
 · have:∃ k,(relabel scope X.env).names.lookup y=some k∧(k=.cell∨k=.free):=by
     rcases hy with h | h
     · exact ⟨_,h,.inl rfl⟩
     · exact ⟨_,h,.inr rfl⟩
   obtain ⟨k,e,hk⟩:=this
   have:=List.all_eq_true.mp hcl2 (y,k) (PySem.mem_of_lookup e)
   have h2:(cl.lookup y).isSome=true:=by
    rcases hk with rfl | rfl <;> simpa using this
   exact Option.isSome_iff_exists.mp h2
theorem comp2_pair {K:PySem.W.Frag}{lo:Int}{n:Nat}{ix:List Nat}{ta:TA}{σ:St}{H:Hp}{Q:VK} (f:Nat→List Int) (hn:n≤1000) (hf:∀ i,(f i).length=2)
  (ha:∀ i,i < n→∀ (y0:Option V) (H2:Hp) (Q':List V→Hp→Prop),Q' ((f i).map V.int) H2→ta (blkSt2 ix (some (.int (lo+i))) y0 σ) H2 Q')
  (hQ:∀ D H',H D=none→H' D=some (.lst (((List.range n).flatMap f).map V.int))→Same H H'→Q (.ref D) H'):
  Wr (rComp2 (Itr lo n) ix (iTup K (tTup ta)) (tVar 1) σ H Q):=by
 refine ⟨fun D hD=>⟨fun i m ys H2=>m=n - i∧i≤n∧ys=((List.range i).flatMap f).map V.int∧H2 D=some (.lst ys)∧Same H H2,⟨n,rfl,Nat.zero_le _,rfl,upd_same,(fun b o e=>by rw [upd_ne (ne_of_none e hD)];exact e)⟩,?_⟩⟩
 rintro i m ys H2 ⟨rfl,hi,rfl,hD2,s2⟩
 refine ⟨hD2,?_⟩
 by_cases hlt:i < n
 · refine .inr ⟨hlt,fun x H' y y0=>?_⟩
   obtain ⟨e,y⟩:=y
   subst e y
   refine ha i hlt y0 H' _ ⟨?_,fun t ht=>?_⟩
   · rw [List.length_map,hf];exact (by decide:2≤sizeLine)
   refine ⟨t,rfl,⟨_,SqT.of upd_same⟩,?_⟩
   have nt:D≠t:=fun z=>by rw [← z,hD2] at ht;cases ht
   have len:((List.range i).flatMap f).length=2 * i:=by
    clear hlt hi hD2 ht nt s2 hD ha hn
    induction i with
    | zero=>rfl
    | succ i ih=>rw [List.range_succ,List.flatMap_append,List.length_append,ih];simp [hf];omega
   refine ⟨fun j m2 zs H4=>m2=2 - j∧j≤2∧zs=((List.range i).flatMap f).map V.int++((f i).take j).map V.int∧H4=upd (upd H' t (.tup ((f i).map V.int))) D (.lst zs),⟨2,rfl,Nat.zero_le _,by simp,?_⟩,?_⟩
   · funext b
     by_cases z:b=D
     · rw [z,upd_same,upd_ne nt];exact hD2
     · rw [upd_ne (a:=D) z]
   rintro j m2 zs H4 ⟨rfl,hj,rfl,rfl⟩
   refine ⟨upd_same,?_⟩
   have st:SqT K (upd (upd H' t (.tup ((f i).map V.int))) D (.lst (((List.range i).flatMap f).map V.int++((f i).take j).map V.int))) t ((f i).map V.int):=SqT.of (by rw [upd_ne (fun z=>nt z.symm),upd_same])
   by_cases hj2:j < 2
   · have hj3:j < (f i).length:=by rw [hf];exact hj2
     refine .inr ⟨⟨_,V.int (f i)[j],st,by simp [hj3]⟩,?_,fun y H5 yl=>?_⟩
     · refine Nat.lt_of_le_of_lt (?_:_≤10000) (by decide)
       rw [List.length_append,List.length_map,List.length_map,len,List.length_take,hf];omega
     obtain ⟨e,yl⟩:=yl
     subst e
     have ey:=yl _ st
     rw [List.getElem?_map,List.getElem?_eq_getElem hj3] at ey
     cases ey
     refine ⟨_,rfl,upd_same,2 - (j+1),by omega,rfl,hj2,?_,by rw [upd_upd]⟩
     rw [List.take_succ_eq_append_getElem hj3,List.map_append,List.append_assoc];rfl
   · have e:j=2:=by omega
     subst e
     refine .inl ⟨⟨_,st,by rw [List.length_map,hf];exact Nat.le_refl _⟩,n - (i+1),by omega,rfl,hlt,?_,upd_same,?_⟩
     · rw [List.take_of_length_le (by rw [hf];exact Nat.le_refl _),List.range_succ,List.flatMap_append,List.map_append]
       simp
     · intro b o e
       have h1:=s2 b o e
       have nb:b≠D:=ne_of_none e hD
       have nb2:b≠t:=ne_of_none h1 ht
       rw [upd_ne nb,upd_ne nb2];exact h1
 · have e:i=n:=by omega
   subst e
   exact .inl ⟨Nat.le_refl _,hQ D H2 hD hD2 s2⟩
end
def rDCompG (J:It) (n:Nat) (gT:TG) (tk tv:TE) (H1:Hp) (Q:VK):Prop:=∀ D,H1 D=none→∃ (e0:HO) (W:Nat→Nat→Hp→Prop),(e0=.dK []∨e0=.dT [])∧(∃ m,W 0 m (upd H1 D e0))∧
 ∀ i m H2,W i m H2→(J.stop i H2∧Q (.ref D) H2)∨(J.go i H2∧∀ x H',J.yld i H2 x H'→∀ nb:St,nb.length=n→gT x nb H' fun σ2 H3=>tk σ2 H3 fun y H4=>tv σ2 H4 fun yv H5=>
  ∃ H6,DPut H5 D y yv H6∧∃ m',m' < m∧W (i+1) m' H6)
def tDCompG (wi:TI) (n:Nat) (gT:TG) (tk tv:TE):TE:=fun σ H Q=>wi σ H fun J H1=>Wr (rDCompG J n gT tk tv H1 Q)
theorem dt_at {P:Program}{w:World}{H:Hp}{h h':Heap} (e:h'.get? h.objs.size=some { cls:=.type "dict",data:=.dict #[] }) (hb:sysModules < h.objs.size):ObjOk P w H h' h.objs.size (.dT []):=
 ⟨Nat.zero_le _,beq_eq_false_iff_ne.mpr (Ne.symm (Nat.ne_of_lt hb)),[],.nil,_, #[],0,e,⟨rfl,rfl,rfl⟩,rfl,rfl,List.nodup_nil⟩
section
variable {X:Cx}{pins:List (Addr × Obj)}{σ:St}{H:Hp}{s:Shared}{a:Addr}{y v:V}{u r:Value}{A:Around}{E:Value→Shared→Prop}
theorem d_dictSet {H':Hp}{Q:Unit→Shared→Prop} (hu:A.units+1 < cLine) (I:Inv X pins σ H s) (g:DPut H a y v H') (ry:RelV y u) (rv:RelV v r) (h:∀ s',Inv X pins σ H' s'→Q () s'):
  wpAny (model X.prog X.w) A (dictSet a u r) Q E s:=by
 rcases g with ⟨kvs,k,e,ey,l,eH⟩ | ⟨kvs,k,b,e,ey,eb,l,eH⟩
 · subst ey eH
   obtain ⟨z,hd,vs,rel,dd⟩:=dk_of I.hok e
   have hz:vs.length≤sizeLine:=by rw [← rel.length];exact z
   have hl:(putK kvs k v).length≤sizeLine:=by have:=length_putK kvs k v;omega
   refine wpAny_dictSet_pairs (hsz:=hz) (kV_is ry) dd fun h' dd' hs=>h _ ?_
   have he:∃ q,h'.get? a=some q:=let ⟨q,_,_,hq,_⟩:=dd';⟨q,hq⟩
   exact d_write I (by rw [e];exact True.intro) hs he (dk_new hl hd (rel.put k rv) dd')
 · subst ey eH
   cases (show u=Value.ref b from ry)
   obtain ⟨z,hd,xs,rel,dd⟩:=dt_of I.hok e
   have hz:xs.length≤sizeLine:=by rw [← Paired.length rel];exact z
   have hl:(putK kvs k v).length≤sizeLine:=by have:=length_putK kvs k v;omega
   refine wpAny_dictSet_heap (hsz:=hz) (show (tupleKind (mixKind X.prog X.w)).room A from Nat.lt_of_succ_lt hu) (key_of I.hok eb) dd fun h' dd' hs=>h _ ?_
   obtain ⟨q,es,ep,hq,h2,h3,h4,_,h5⟩:=dd'
   refine d_write I (by rw [e];exact True.intro) hs ⟨q,hq⟩ ⟨hl,hd,_,(rel.put k eb rv).keeps fun c ys ec=>?_,q,es,ep,hq,h2,h3,h4,h5⟩
   rw [upd_ne (ne_of ec e (fun z=>nomatch z))]
   exact ec
end
section
variable {X:Cx}
theorem pe_dcompGL {NB:List Str}{tgE:Expr}{gT:TG}{pos:Pos}{kx vx iter:Expr}{scope:Scope}{cl:List (Str × Addr)}{wi:TI}{tk tv:TE}
  (hu:X.A.units+1 < cLine) (hc:X.calm=true) (hi:PI X tgE iter wi)
  (hclos:closureFor scope X.env=pure cl) (hkind:scope.kind=.function) (hcell:∀ y∈scope.names,y.2≠.cell)
  (hnames:∀ y∈scope.names,y.2=.local→scope.names.lookup y.1=some .local)
  (hcl:∀ y c,cl.lookup y=some c→X.env.cells.lookup y=some c)
  (hcl2:∀ y,((relabel scope X.env).names.lookup y=some .cell∨(relabel scope X.env).names.lookup y=some .free)→∃ c,cl.lookup y=some c)
  (hg:∀ C s H fp,PG (X.blk NB scope cl C s H fp) tgE gT)
  (hk:∀ C s H fp,PE (X.blk NB scope cl C s H fp) kx tk) (he:∀ C s H fp,PE (X.blk NB scope cl C s H fp) vx tv)
  (hs:∀ x,foldedSetIterable iter X.env x=pure x:=by intro _;rfl):
  PE X (.DictComp kx vx [⟨tgE,iter,[],0⟩] scope pos) (tDCompG wi NB.length gT tk tv):=by
 intro pins s σ H Q I h
 rw [arm_eval_DictComp]
 refine wpAny_comprehension_free (use:=none) rfl hs hclos hkind hnames (thn (hi pins s σ H _ I h) fun xv s1 h1=>thn h1 fun itv s2 h2=>?_)
 obtain ⟨it,fp,tn,J,H2,e,I2,T,st2,f2,q⟩:=h2
 subst e
 refine wpAny_newObj_type (wpAny_newFunctionEnv hcell (by intro y hy;simp at hy) (fun h₁ hns₁ hsb₁=>?_) hkind)
 dsimp only at hns₁ hsb₁ ⊢
 have hDn:H2 s2.heap.objs.size=none:=I2.hok.fresh (Nat.le_refl _)
 obtain ⟨e0,W,he0,⟨m0,w0⟩,turn⟩:=q.get s2.heap.objs.size hDn
 generalize hHL:s2.heap.push { cls:=.type "dict",dict:=none,data:=.dict #[] }=HL at hns₁ hsb₁ ⊢
 have hC:HL.objs.size=s2.heap.objs.size+1:=by rw [← hHL,Heap.size_push]
 have old:∀ b o,s2.heap.get? b=some o→h₁.get? b=some o:=fun b o e=>(hsb₁.2 b (by rw [hC];exact Nat.ne_of_lt (Nat.lt_succ_of_lt (Heap.lt_size e)))).trans (Heap.get?_push_of_some _ (hHL▸Heap.get?_push_of_some _ e))
 have hD1:h₁.get? s2.heap.objs.size=some { cls:=.type "dict",data:=.dict #[] }:=
  (hsb₁.2 _ (by rw [hC];exact Nat.ne_of_lt (Nat.lt_succ_self _))).trans (Heap.get?_push_of_some _ (hHL▸Heap.get?_push_size _ rfl))
 generalize hCC:HL.objs.size=C at hns₁ hsb₁ ⊢
 rw [hCC] at hC
 have bC:∀ b o,s2.heap.get? b=some o→b≠C:=fun b o e=>by rw [hC];exact Nat.ne_of_lt (Nat.lt_succ_of_lt (Heap.lt_size e))
 have stl:∀ b∈frs X.stack,∃ o,s2.heap.get? b=some o:=fun b hb=>by
  obtain ⟨_,o,ho,_⟩:=I2.stack.mem hb
  exact ⟨o,ho⟩
 have fpl:∀ b∈fp,∃ o,s2.heap.get? b=some o∧∀ v,o.data≠.cell v:=fun b hb=>T.obj 0 _ st2 b hb
 have fpstk:∀ b∈fp,b∉frs X.stack:=fun b hb z=>by
  rcases List.mem_cons.mp (I2.stkSub b z) with z | z
  · exact (f2 b hb).2.1 z
  · exact (f2 b hb).2.2.1 z
 let B:=X.blk NB scope cl C s2 H2 fp
 have okB:B.Ok:=by
  refine ⟨I2.ok.mod,hkind,I2.ok.glob,I2.ok.blt,(by show s2.heap.objs.size≤C;rw [hC];exact Nat.le_succ _),fun y z c e1 e2=>I2.ok.inj y z c (hcl _ _ e1) (hcl _ _ e2),fun y hy=>hcl2 y hy,fun y c z=>absurd (show false=true from z) Bool.false_ne_true,
   fun _=>I2.ok.hd hc,I2.ok.frames,.inl rfl,fun b hb=>⟨?_,fun y c e=>(f2 b hb).2.2.2.2.1 y c (hcl _ _ e)⟩,I2.bs,Nat.le_trans I2.ok.bsz I2.sz,fun b o e hb=>?_,fun b hb=>fpstk b hb,I2.stack,I2.stkFree⟩
  · obtain ⟨o,e,_⟩:=fpl b hb
    exact bC b o e
  · rcases (f2 b hb).2.2.2.1 with z | z
    · exact I2.ok.noex b o e z
    · exact absurd (Nat.lt_of_lt_of_le (Heap.lt_size (I2.ok.bs b o e).1) z) (Nat.lt_irrefl _)
 have hob:∀ HH,ObjOk X.prog X.w HH h₁ s2.heap.objs.size e0:=fun HH=>by
  rcases he0 with z | z
  · subst z;exact dk_at hD1 I2.big
  · subst z;exact dt_at hD1 I2.big
 have IB:∀ tk,Inv B [] (List.replicate NB.length none) (upd H2 s2.heap.objs.size e0) { s2 with heap:=h₁,toks:=tk }:=fun tk=>by
  refine ⟨okB,rfl,I2.bare,Un.laid old (Nat.le_refl _) hDn,⟨_,hns₁,fun j y v e1 e2 e3=>?_⟩,fun y c e=>?_,?_,fun y c e=>?_,(fun p hp=>nomatch hp),I2.hok.laid old (Nat.le_refl _) (hob _),?_⟩
  · rw [List.getElem?_replicate] at e2
    split at e2 <;> cases e2
  · obtain ⟨v,oc,hoc,hcd⟩:=I2.cell y c (hcl _ _ e)
    exact ⟨v,oc,old c oc hoc,hcd⟩
  · show upd H2 s2.heap.objs.size e0 C=none
    rw [upd_ne (by rw [hC];exact Nat.succ_ne_self _)]
    exact I2.hok.fresh (by rw [hC];exact Nat.le_succ _)
  · obtain ⟨v,oc,hoc,hcd⟩:=I2.cell y c (hcl _ _ e)
    rw [upd_ne (Nat.ne_of_lt (Heap.lt_size hoc))]
    exact I2.freeC y c (hcl _ _ e)
  · exact List.length_replicate
 have st1:∀ tk,tn 0 ({ s2 with heap:=h₁,toks:=tk }:Shared).heap:=fun _=>T.keep 0 _ _ st2 fun b hb o e=>old b o e
 have fB:∀ {H':Hp},(∀ b∈fp,H' b=none)→∀ b∈fp,FpOk B [] H' b:=fun hn b hb=>by
  obtain ⟨o,e,_⟩:=fpl b hb
  exact ⟨hn b hb,bC b o e,fpstk b hb,.inl hb,fun y c ec=>(f2 b hb).2.2.2.2.1 y c (hcl _ _ ec),(fun p hp=>nomatch hp)⟩
 have loop:∀ tk,codeAny (model X.prog X.w) X.A (.compLoop (.DictComp kx vx [⟨tgE,iter,[],0⟩] scope pos) 0 (.ref it) (.ref s2.heap.objs.size) (compEnvC scope cl C X.env))
   (compPost (model X.prog X.w) X.A X.xe none (EP X pins σ Q) (.ref s2.heap.objs.size) C) { s2 with heap:=h₁,toks:=tk }:=fun tk=>by
  refine codeAny_loop rfl (fun n s'=>∃ i nb H',Inv B [] nb H' s'∧tn i s'.heap∧(∀ b∈fp,H' b=none)∧W i n H') (fun n s3 hI=>?_) m0 ⟨0,_,_,IB tk,st1 tk,fun b hb=>?_,w0⟩
  · obtain ⟨i,nb,H3,I3,st3,fr3,w3⟩:=hI
    show wpAny _ _ ((compTurn (.DictComp kx vx [⟨tgE,iter,[],0⟩] scope pos) 0 (.ref it) (.ref s2.heap.objs.size) (compEnvC scope cl C X.env)).onRaise (fun x=>do noteFrame x (compEnvC scope cl C X.env);theTreesLotGoes x)) _ _ s3
    refine wpAny_noted ?_
    rw [compTurn_dict]
    have alt:=turn i n H3 w3
    refine wpAny_bind (wpAny_standAt (wpAny_bind ?_))
    rcases alt with ⟨stop,qn⟩ | ⟨go,step⟩
    · refine thn (T.done B rfl rfl rfl hc i [] s3 _ H3 _ I3 (fB fr3) st3 stop) fun r s4 ⟨hr,I4⟩=>?_
      subst hr
      refine wpAny_pure ?_
      obtain ⟨m4,hn4,_⟩:=I4.loc
      refine ⟨m4,hn4,fun h' sb=>?_⟩
      have un:Un (frs X.stack) fp H2 H3 s2.heap h':=by
       have u:=I4.base
       refine ⟨fun b o e n hb hx=>(sb.2 b (bC b o e)).trans (u.keep b o e n hb hx),fun b o e n hb hx=>?_,u.free,fun b o e hx=>?_,u.tups,u.frzs,u.tbls⟩
       · obtain ⟨sl,e1⟩:=u.slot b o e n hb hx
         exact ⟨sl,(sb.2 b (bC b o e)).trans e1⟩
       · obtain ⟨o',e1⟩:=u.there b o e hx
         exact ⟨o',(sb.2 b (bC b o e)).trans e1⟩
      refine ⟨.ref s2.heap.objs.size,H3,I2.call' (s':={ s4 with heap:=h' }) (ch:=fp) I4.os un (I4.hok.sameBut I4.free sb) I4.bare (fun b hb=>⟨(f2 b hb).2.2.2.1,(f2 b hb).2.1,(f2 b hb).2.2.2.2⟩),rfl,qn⟩
    · refine thn (T.item B rfl rfl rfl hc i [] s3 _ H3 _ I3 (fB fr3) st3 go) fun r s4 ⟨u,hr,h4⟩=>?_
      subst hr
      refine wpAny_bind (thn h4 fun _ s5 ⟨xv,H5,I5,r5,y5,st5,fr5⟩=>?_)
      have I5':=I5.pinned (fB fr5) (T.obj _ _ st5)
      refine wpAny_bind (wpAny_mono (hg C s2 H2 fp _ s5 _ H5 xv u _ I5' r5 (step xv H5 y5 nb I3.len)) (fun _ s6 ⟨σ2,H6,I6,q6⟩=>?_) fun _ _ z=>False.elim z)
      refine wpAny_bind (wpAny_tests_nil (wpAny_bind (wpAny_bind (wpAny_mono (hk C s2 H2 fp _ s6 _ H6 _ I6 q6) (fun kv s7 ⟨y,H7,I7,r7,q7⟩=>?_) fun _ _ z=>False.elim z))))
      refine wpAny_bind (wpAny_holding (wpAny_mono (he C s2 H2 fp _ s7 _ H7 _ I7 q7) (fun vv s8 ⟨yv,H8,I8,r8,H9,g9,m',hm,w8⟩=>?_) fun _ _ z=>False.elim z))
      refine wpAny_bind (wpAny_standAt (wpAny_holding (d_dictSet (X:=B) hu I8 g9 r7 r8 fun s9 I9=>?_)))
      refine wpAny_pure ⟨rfl,m',hm,i+1,σ2,_,I9.unpinned,T.keep _ _ _ st5 fun b hb o e=>(I9.pin (b,o) (List.mem_append_right _ (List.mem_append_right _ (mem_pinsAt hb e)))).1,fun b hb=>?_,w8⟩
      obtain ⟨o,e,d⟩:=T.obj _ _ st5 b hb
      exact (I9.pin (b,o) (List.mem_append_right _ (List.mem_append_right _ (mem_pinsAt hb e)))).2.1
  · obtain ⟨o,e,_⟩:=fpl b hb
    rw [upd_ne (Nat.ne_of_lt (Heap.lt_size e))]
    exact (f2 b hb).1
 exact codeAny_compStart_dict (loop _) (T.self _ 0 _ _ _ (st1 _) (loop _))
end
section
variable {X:Cx}
theorem pgt (K:PySem.W.Frag) {pos:Pos}{es:List Expr}{k:Nat}{t:TGs}{n:Nat} (e:X.K=K) (hc:X.calm=true) (h:PGs X es t)
  (hn:(assignEach es X.env).length=n:=by rfl) (hst:(assignEach es X.env).findIdx? (·.1)=none:=by rfl):PG X (.Tuple es k pos) (gTup K n t):=by subst e;exact pg_tup hc h hn hst
theorem pe_dcompG {tgE:Expr}{gT:TG}{pos:Pos}{kx vx iter:Expr}{scope:Scope}{cl:List (Str × Addr)}{wi:TI}{tk tv:TE} (NB:List Str)
  (hu:X.A.units+1 < cLine) (hi:PI X tgE iter wi)
  (hg:∀ C s H fp,PG (X.blk NB scope cl C s H fp) tgE gT)
  (hk:∀ C s H fp,PE (X.blk NB scope cl C s H fp) kx tk) (he:∀ C s H fp,PE (X.blk NB scope cl C s H fp) vx tv)
  (hcl:∀ y c,cl.lookup y=some c→X.env.cells.lookup y=some c)
  (hclos:closureFor scope X.env=pure cl:=by rfl) (hc:X.calm=true:=by rfl) (hkind:scope.kind=.function:=by rfl) (hcell:(scope.names.all fun p=>p.2 != .cell)=true:=by rfl)
  (hnames:(scope.names.all fun p=>p.2 != .local || scope.names.lookup p.1 == some .local)=true:=by rfl)
  (hcl2:((relabel scope X.env).names.all fun p=>(p.2 != .cell && p.2 != .free) || (cl.lookup p.1).isSome)=true:=by rfl)
  (hs:∀ x,foldedSetIterable iter X.env x=pure x:=by intro _;rfl):
  PE X (.DictComp kx vx [⟨tgE,iter,[],0⟩] scope pos) (tDCompG wi NB.length gT tk tv):=by
 refine pe_dcompGL hu hc hi hclos hkind (fun y hy e=>?_) (fun y hy e=>?_) hcl (fun y hy=>?_) hg hk he hs
 · have:=List.all_eq_true.mp hcell y hy
   rw [e] at this
   exact absurd this (by decide)
 · have:=List.all_eq_true.mp hnames y hy
   rw [e] at this
   simpa using this
 · have:∃ k,(relabel scope X.env).names.lookup y=some k∧(k=.cell∨k=.free):=by
     rcases hy with h | h
     · exact ⟨_,h,.inl rfl⟩
     · exact ⟨_,h,.inr rfl⟩
   obtain ⟨k,e,hk⟩:=this
   have:=List.all_eq_true.mp hcl2 (y,k) (mem_of_lookup e)
   have h2:(cl.lookup y).isSome=true:=by
    rcases hk with rfl | rfl <;> simpa using this
   exact Option.isSome_iff_exists.mp h2
end
end L2
namespace My
open PySem L2
def lets (k:Nat):List Int:=(List.range k).flatMap fun (i:Nat)=>[1+(i:Int), -(1+(i:Int))]
theorem lets_mem {k:Nat}{l:Int}:l∈lets k↔Let k l:=by
 unfold lets Let
 rw [List.mem_flatMap]
 constructor
 · rintro ⟨i,hi,h⟩
   have:=List.mem_range.mp hi
   rcases List.mem_cons.mp h with e | h
   · omega
   · have e:=List.mem_singleton.mp h
     omega
 · rintro ⟨h0,h1,h2⟩
   refine ⟨l.natAbs - 1,List.mem_range.mpr (by omega),?_⟩
   by_cases hp:0 < l
   · exact List.mem_cons.mpr (.inl (by omega))
   · exact List.mem_cons_of_mem _ (List.mem_singleton.mpr (by omega))
theorem lets_len (k:Nat):(lets k).length=2 * k:=by
 unfold lets
 induction k with
 | zero=>rfl
 | succ k ih=>rw [List.range_succ,List.flatMap_append,List.length_append,ih];simp;omega
def vis (T:Tab) (c:Nat) (O:List Nat) (l:Int):List Nat:=match sgo T c l with
 | none=>O
 | some d=>if d.toNat∈O then O else O++[d.toNat]
def rowO (T:Tab) (k:Nat) (O:List Nat) (i:Nat):List Nat:=(lets k).foldl (vis T (O.getD i 0)) O
def bfs (T:Tab) (k:Nat):Nat→Nat→List Nat→List Nat
 | 0,_,O=>O
 | f+1,i,O=>if i < O.length then bfs T k f (i+1) (rowO T k O i) else O
def met (T:Tab) (k n base:Nat):List Nat:=bfs T k (n+1) 0 [base]
theorem bfs_stop {T:Tab}{k f i:Nat}{O:List Nat} (h:O.length≤i):bfs T k f i O=O:=by
 cases f with
 | zero=>rfl
 | succ f=>show (if i < O.length then _ else O)=O;rw [if_neg (by omega)]
theorem bfs_go {T:Tab}{k f i:Nat}{O:List Nat} (h:i < O.length):bfs T k (f+1) i O=bfs T k f (i+1) (rowO T k O i):=by
 show (if i < O.length then _ else O)=_
 rw [if_pos h]
theorem bfs_inv {T:Tab}{k:Nat} (P:Nat→List Nat→Prop) (h:∀ i O,i < O.length→P i O→P (i+1) (rowO T k O i)):∀ (f i:Nat) (O:List Nat),P i O→∃ i',P i' (bfs T k f i O)∧((bfs T k f i O).length≤i'∨i'=i+f)
 | 0,i,O,p=>⟨i,p,.inr rfl⟩
 | f+1,i,O,p=>by
  by_cases hl:i < O.length
  · rw [bfs_go hl]
    obtain ⟨i',p',q⟩:=bfs_inv P h f (i+1) _ (h i O hl p)
    exact ⟨i',p',q.imp id fun e=>by omega⟩
  · rw [bfs_stop (by omega)]
    exact ⟨i,p,.inl (by omega)⟩
theorem vis_pre {T:Tab}{c:Nat}{O:List Nat}{l:Int}:∃ r,vis T c O l=O++r:=by
 unfold vis
 split
 · exact ⟨[],by simp⟩
 · split
   · exact ⟨[],by simp⟩
   · exact ⟨_,rfl⟩
theorem fold_pre {T:Tab}{c:Nat}:∀ (ls:List Int) (O:List Nat),∃ r,ls.foldl (vis T c) O=O++r
 | [],O=>⟨[],by simp⟩
 | l::ls,O=>by
  obtain ⟨r,e⟩:=vis_pre (T:=T) (c:=c) (O:=O) (l:=l)
  obtain ⟨r',e'⟩:=fold_pre ls (vis T c O l)
  refine ⟨r++r',?_⟩
  show ls.foldl (vis T c) (vis T c O l)=_
  rw [e',e,List.append_assoc]
theorem vis_mem {T:Tab}{c:Nat}{O:List Nat}{l d:Int} (e:sgo T c l=some d):d.toNat∈vis T c O l:=by
 unfold vis
 rw [e]
 dsimp only
 split
 · assumption
 · exact List.mem_append_right _ (List.mem_singleton.mpr rfl)
theorem fold_mem {T:Tab}{c:Nat}{d:Int}{l:Int} (e:sgo T c l=some d):∀ (ls:List Int) (O:List Nat),l∈ls→d.toNat∈ls.foldl (vis T c) O
 | a::ls,O,h=>by
  show d.toNat∈ls.foldl (vis T c) (vis T c O a)
  rcases List.mem_cons.mp h with q | q
  · obtain ⟨r,e'⟩:=fold_pre (T:=T) (c:=c) ls (vis T c O a)
    rw [e']
    exact List.mem_append_left _ (q▸vis_mem e)
  · exact fold_mem e ls _ q
structure OInv (n:Nat) (O:List Nat):Prop where
 nd:O.Nodup
 lt:∀ c∈O,c < n
theorem OInv.vis {k n:Nat}{T:Tab} (ok:TabOk k n T) {c:Nat}{O:List Nat}{l:Int} (h:OInv n O):OInv n (vis T c O l):=by
 unfold My.vis
 split
 · exact h
 · rename_i d e
   have:=sgo_lt ok e
   split
   · exact h
   · rename_i q
     refine ⟨nd_snoc h.nd q,fun x hx=>?_⟩
     rcases List.mem_append.mp hx with z | z
     · exact h.lt x z
     · rw [List.mem_singleton.mp z];omega
theorem OInv.fold {k n:Nat}{T:Tab} (ok:TabOk k n T) {c:Nat}:∀ (ls:List Int) {O:List Nat},OInv n O→OInv n (ls.foldl (My.vis T c) O)
 | [],_,h=>h
 | l::ls,O,h=>OInv.fold ok ls (h.vis ok)
theorem OInv.len {n:Nat}{O:List Nat} (h:OInv n O):O.length≤n:=by
 have gen:∀ (n:Nat) (O:List Nat),O.Nodup→(∀ c∈O,c < n)→O.length≤n:=by
  intro n
  induction n with
  | zero=>
   intro O _ h
   cases O with
   | nil=>exact Nat.le_refl _
   | cons a _=>exact absurd (h a (List.mem_cons_self ..)) (by omega)
  | succ n ih=>
   intro O nd h
   have h1:=ih (O.erase n) (nd.erase n) fun c hc=>by
    have:=h c (List.mem_of_mem_erase hc)
    have ne:c≠n:=(nd.mem_erase_iff.mp hc).1
    omega
   rw [List.length_erase] at h1
   split at h1 <;> omega
 exact gen n O h.nd h.lt
theorem met_inv {k n base:Nat}{T:Tab} (ok:TabOk k n T) (hb:base < n):OInv n (met T k n base)∧base∈met T k n base∧(∀ c∈met T k n base,∀ l,Let k l→∀ d,sgo T c l=some d→d.toNat∈met T k n base):=by
 have:=bfs_inv (T:=T) (k:=k) (fun i O=>OInv n O∧O[0]?=some base∧∀ j,j < i→∀ c,O[j]?=some c→∀ l,Let k l→∀ d,sgo T c l=some d→d.toNat∈O) (fun i O hi ⟨h1,h2,h3⟩=>by
  obtain ⟨r,e⟩:=fold_pre (T:=T) (c:=O.getD i 0) (lets k) O
  refine ⟨h1.fold ok _,?_,fun j hj c hc l hl d hd=>?_⟩
  · unfold rowO;rw [e]
    rw [List.getElem?_append_left (List.getElem?_eq_some_iff.mp h2).1];exact h2
  · unfold rowO at hc ⊢
    by_cases z:j < i
    · rw [e] at hc ⊢
      rw [List.getElem?_append_left (by omega)] at hc
      exact List.mem_append_left _ (h3 j z c hc l hl d hd)
    · have z:j=i:=by omega
      subst z
      have ec:O.getD j 0=c:=by
       rw [e,List.getElem?_append_left hi] at hc
       rw [List.getD,hc];rfl
      rw [ec]
      exact fold_mem hd _ _ (lets_mem.mpr hl)) (n+1) 0 [base] ⟨⟨by simp,fun c hc=>by rw [List.mem_singleton.mp hc];exact hb⟩,rfl,fun j hj=>by omega⟩
 obtain ⟨i',⟨h1,h2,h3⟩,q⟩:=this
 have hl:(met T k n base).length≤i':=by
  rcases q with q | q
  · exact q
  · have:=OInv.len h1
    unfold met;omega
 refine ⟨h1,List.mem_of_getElem? h2,fun c hc=>?_⟩
 obtain ⟨j,hj,e⟩:=List.getElem_of_mem hc
 exact h3 j (by omega) c (List.getElem?_eq_some_iff.mpr ⟨hj,e⟩)
abbrev Pw:=List (Nat × List Int)
def visW (T:Tab) (p:Nat × List Int) (W:Pw) (l:Int):Pw:=match sgo T p.1 l with
 | none=>W
 | some d=>if d.toNat∈W.map (·.1) then W else W++[(d.toNat,p.2++[l])]
def rowW (T:Tab) (k:Nat) (W:Pw) (i:Nat):Pw:=(lets k).foldl (visW T (W.getD i (0,[]))) W
def bfsW (T:Tab) (k:Nat):Nat→Nat→Pw→Pw
 | 0,_,W=>W
 | f+1,i,W=>if i < W.length then bfsW T k f (i+1) (rowW T k W i) else W
def metW (T:Tab) (k n base:Nat):Pw:=bfsW T k (n+1) 0 [(base,[])]
theorem bfsW_stop {T:Tab}{k f i:Nat}{W:Pw} (h:W.length≤i):bfsW T k f i W=W:=by
 cases f with
 | zero=>rfl
 | succ f=>show (if i < W.length then _ else W)=W;rw [if_neg (by omega)]
theorem bfsW_go {T:Tab}{k f i:Nat}{W:Pw} (h:i < W.length):bfsW T k (f+1) i W=bfsW T k f (i+1) (rowW T k W i):=by
 show (if i < W.length then _ else W)=_
 rw [if_pos h]
theorem visW_map {T:Tab}{p:Nat × List Int}{W:Pw}{l:Int}:(visW T p W l).map (·.1)=vis T p.1 (W.map (·.1)) l:=by
 unfold visW vis
 split
 · rfl
 · split
   · rfl
   · rw [List.map_append];rfl
theorem foldW_map {T:Tab}{p:Nat × List Int}:∀ (ls:List Int) (W:Pw),(ls.foldl (visW T p) W).map (·.1)=ls.foldl (vis T p.1) (W.map (·.1))
 | [],_=>rfl
 | l::ls,W=>by
  show (ls.foldl (visW T p) (visW T p W l)).map (·.1)=ls.foldl (vis T p.1) (vis T p.1 (W.map (·.1)) l)
  rw [foldW_map ls,visW_map]
theorem bfsW_map {T:Tab}{k:Nat}:∀ (f i:Nat) (W:Pw),(bfsW T k f i W).map (·.1)=bfs T k f i (W.map (·.1))
 | 0,_,_=>rfl
 | f+1,i,W=>by
  by_cases h:i < W.length
  · rw [bfsW_go h,bfs_go (by rw [List.length_map];exact h),bfsW_map f]
    unfold rowW rowO
    rw [foldW_map]
    have:(W.map (·.1)).getD i 0=(W.getD i (0,[])).1:=by simp [List.getD,h]
    rw [this]
  · rw [bfsW_stop (by omega),bfs_stop (by rw [List.length_map];omega)]
theorem metW_map (T:Tab) (k n base:Nat):(metW T k n base).map (·.1)=met T k n base:=bfsW_map ..
abbrev Wy:=List (Nat × Addr × List Int)
def keys (W:Wy):List Nat:=W.map (·.1)
def dkv (W:Wy):List (Key × V):=W.map fun p=>(Sum.inl (p.1:Int),V.ref p.2.1)
def era (W:Wy):Pw:=W.map fun p=>(p.1,p.2.2)
theorem era_keys (W:Wy):(era W).map (·.1)=keys W:=by unfold era keys;rw [List.map_map];rfl
theorem dkv_none {W:Wy}{c:Nat} (h:c∉keys W):valV (dkv W) (.inl (c:Int))=none:=by
 unfold valV
 rw [Option.map_eq_none_iff,List.find?_eq_none]
 intro x hx
 obtain ⟨p,hp,rfl⟩:=List.mem_map.mp hx
 intro z
 have z:(Sum.inl (p.1:Int):Key)=.inl (c:Int):=of_decide_eq_true z
 have:=Sum.inl.inj z
 exact h (List.mem_map.mpr ⟨p,hp,by omega⟩)
theorem dkv_some {W:Wy} (nd:(keys W).Nodup) {p:Nat × Addr × List Int} (hp:p∈W):valV (dkv W) (.inl (p.1:Int))=some (.ref p.2.1):=by
 induction W with
 | nil=>cases hp
 | cons q W ih=>
  obtain ⟨n1,n2⟩:=List.nodup_cons.mp nd
  rcases List.mem_cons.mp hp with e | e
  · subst e;exact valV_pos rfl
  · have:¬ (Sum.inl (q.1:Int):Key)=.inl (p.1:Int):=fun z=>by
      have:=Sum.inl.inj z
      exact n1 (List.mem_map.mpr ⟨p,e,by show p.1=q.1;omega⟩)
    show valV ((Sum.inl (q.1:Int),V.ref q.2.1)::dkv W) _=_
    rw [valV_neg this]
    exact ih n2 e
structure WInv (T:Tab) (k n base:Nat) (W:Wy):Prop where
 nd:(keys W).Nodup
 lt:∀ p∈W,p.1 < n
 hd:∃ a,W[0]?=some (base,a,[])
 wk:∀ p∈W,wgo T (some (base:Int)) p.2.2=some (p.1:Int)
 ll:∀ p∈W,∀ l∈p.2.2,Let k l
 rd:∀ p∈W,cut p.2.2=p.2.2
 pr:∀ p∈W,p.2.2=[]∨∃ q∈W,∃ l,p.2.2=q.2.2++[l]∧sgo T q.1 l=some (p.1:Int)
 ln:∀ (j:Nat) p,W[j]?=some p→p.2.2.length≤j
theorem cut_snoc (w:List Int) (l:Int):cut (w++[l])=(push (w.foldl push []) l).reverse:=by unfold cut;rw [List.foldl_append];rfl
theorem cut_fold {w:List Int} (h:cut w=w):w.foldl push []=w.reverse:=by
 unfold cut at h
 conv=>rhs;rw [← h]
 rw [List.reverse_reverse]
theorem cut_more {w:List Int}{l:Int} (h:cut w=w) (hl:∀ u,w≠u++[-l]):cut (w++[l])=w++[l]:=by
 rw [cut_snoc,cut_fold h]
 cases e:w.reverse with
 | nil=>
  have:w=[]:=by simpa using e
  subst this;rfl
 | cons t r=>
  have hw:w=r.reverse++[t]:=by
   have:=congrArg List.reverse e
   rw [List.reverse_reverse] at this
   rw [this];simp
  have:¬ t= -l:=fun z=>hl r.reverse (by rw [hw,z])
  show (if t= -l then r else l::t::r).reverse=_
  rw [if_neg this,hw];simp
theorem WInv.zero {T:Tab}{k n base:Nat} (hb:base < n) (a:Addr):WInv T k n base [(base,a,[])]:=by
 refine ⟨by simp [keys],?_,⟨a,rfl⟩,?_,?_,?_,?_,?_⟩
 · intro p hp;rw [List.mem_singleton.mp hp];exact hb
 · intro p hp;rw [List.mem_singleton.mp hp];rfl
 · intro p hp;rw [List.mem_singleton.mp hp];intro l hl;cases hl
 · intro p hp;rw [List.mem_singleton.mp hp];rfl
 · intro p hp;rw [List.mem_singleton.mp hp];exact .inl rfl
 · intro j p hj
   have:j=0:=by
    have:=(List.getElem?_eq_some_iff.mp hj).1
    simp at this;omega
   subst this;cases hj;exact Nat.zero_le _
theorem WInv.add {T:Tab}{k n base:Nat}{W:Wy} (ok:TabOk k n T) (h:WInv T k n base W) {p:Nat × Addr × List Int} (hp:p∈W) {l d:Int} (hl:Let k l) (e:sgo T p.1 l=some d) (hn:d.toNat∉keys W) (a:Addr):
  WInv T k n base (W++[(d.toNat,a,p.2.2++[l])]):=by
 have hd:=sgo_lt ok e
 have ed:((d.toNat:Nat):Int)=d:=by omega
 have red:cut (p.2.2++[l])=p.2.2++[l]:=by
  refine cut_more (h.rd p hp) fun u hu=>?_
  rcases h.pr p hp with z | ⟨q,hq,l',e1,e2⟩
  · rw [z] at hu;simp at hu
  · rw [e1] at hu
    have:=List.append_inj' hu rfl
    have el:l'= -l:=by simpa using this.2
    subst el
    have b:=sgo_back ok (by have:=hl.1;omega) (h.lt q hq) e2
    rw [Int.neg_neg] at b
    rw [e] at b
    have:d=q.1:=Option.some.inj b
    exact hn (by rw [this,Int.toNat_natCast];exact List.mem_map.mpr ⟨q,hq,rfl⟩)
 have mem:∀ {x:Nat × Addr × List Int},x∈W++[(d.toNat,a,p.2.2++[l])]→x∈W∨x=(d.toNat,a,p.2.2++[l]):=fun hx=>(List.mem_append.mp hx).imp id List.mem_singleton.mp
 refine ⟨?_,fun x hx=>?_,?_,fun x hx=>?_,fun x hx=>?_,fun x hx=>?_,fun x hx=>?_,fun j x hj=>?_⟩
 · unfold keys;rw [List.map_append];exact nd_snoc h.nd hn
 · rcases mem hx with z | z
   · exact h.lt x z
   · rw [z];show d.toNat < n;omega
 · obtain ⟨a0,z⟩:=h.hd
   exact ⟨a0,by rw [List.getElem?_append_left (List.getElem?_eq_some_iff.mp z).1];exact z⟩
 · rcases mem hx with z | z
   · exact h.wk x z
   · rw [z]
     show wgo T _ (p.2.2++[l])=some ((d.toNat:Nat):Int)
     rw [wgo_snoc,h.wk p hp,ed]
     exact e
 · rcases mem hx with z | z
   · exact h.ll x z
   · rw [z]
     intro m hm
     rcases List.mem_append.mp hm with y | y
     · exact h.ll p hp m y
     · rw [List.mem_singleton.mp y];exact hl
 · rcases mem hx with z | z
   · exact h.rd x z
   · rw [z];exact red
 · rcases mem hx with z | z
   · rcases h.pr x z with y | ⟨q,hq,m,e1,e2⟩
     · exact .inl y
     · exact .inr ⟨q,List.mem_append_left _ hq,m,e1,e2⟩
   · rw [z]
     exact .inr ⟨p,List.mem_append_left _ hp,l,rfl,by rw [e];show some d=some ((d.toNat:Nat):Int);rw [ed]⟩
 · by_cases hj2:j < W.length
   · rw [List.getElem?_append_left hj2] at hj
     exact h.ln j x hj
   · rw [List.getElem?_append_right (by omega)] at hj
     have z:j - W.length=0:=by
      have:=(List.getElem?_eq_some_iff.mp hj).1
      simp at this;omega
     rw [z] at hj
     cases hj
     obtain ⟨i,hi,ei⟩:=List.getElem_of_mem hp
     have:=h.ln i p (by simp [← ei,hi])
     rw [List.length_append]
     simp only [List.length_cons,List.length_nil]
     omega
structure DW (H:Hp) (d:Addr) (W:Wy):Prop where
 is:H d=some (.dK (dkv W))
 wy:∀ p∈W,Ints H p.2.1 p.2.2
structure FW (H:Hp) (d:Addr) (W:Wy):Prop where
 is:∃ o,H d=some (.frz o (.dK (dkv W)))
 wy:∀ p∈W,Ints H p.2.1 p.2.2
structure WS (H0 H:Hp) (d lo:Addr) (W:Wy):Prop where
 dw:DW H d W
 io:Ints H lo ((keys W).map fun (c:Nat)=>(c:Int))
 nl:∀ p∈W,p.2.1≠lo
 fd:H0 d=none
 fl:H0 lo=none
 sm:Same H0 H
theorem WS.same {H0 H H':Hp}{d lo:Addr}{W:Wy} (h:WS H0 H d lo W) (s:Same H H'):WS H0 H' d lo W:=⟨⟨s _ _ h.dw.is,fun p hp=>s.ints (h.dw.wy p hp)⟩,s.ints h.io,h.nl,h.fd,h.fl,h.sm.trans s⟩
theorem WS.ne {H0 H:Hp}{d lo:Addr}{W:Wy} (h:WS H0 H d lo W):d≠lo:=fun z=>by
 have:=h.io
 rw [← z] at this
 have e:=h.dw.is
 rw [show H d=_ from this] at e;cases e
theorem WS.add {H0 H H':Hp}{d lo a:Addr}{W:Wy}{c:Nat}{w:List Int} (h:WS H0 H d lo W) (s:Same H H') (ha:H a=none) (ia:Ints H' a w) (hc:c∉keys W):
  WS H0 (upd (upd H' d (.dK (putK (dkv W) (.inl (c:Int)) (.ref a)))) lo (.lst (((keys W).map fun (c:Nat)=>(c:Int)).map V.int++[V.int c]))) d lo (W++[(c,a,w)]):=by
 have ne:=h.ne
 have al:a≠lo:=fun z=>by rw [z,show H lo=_ from h.io] at ha;cases ha
 have ad:a≠d:=fun z=>by rw [z,h.dw.is] at ha;cases ha
 have h':=h.same s
 refine ⟨⟨?_,fun p hp=>?_⟩,?_,fun p hp=>?_,h.fd,h.fl,(h'.sm.upd h.fd).upd h.fl⟩
 · rw [upd_ne ne,upd_same,putK_new _ (dkv_none hc)]
   unfold dkv
   rw [List.map_append];rfl
 · rcases List.mem_append.mp hp with z | z
   · have n1:=h.nl p z
     have i1:=h'.dw.wy p z
     have n2:p.2.1≠d:=fun y=>by rw [y] at i1;have e:=h'.dw.is;rw [show H' d=_ from i1] at e;cases e
     exact (i1.other n2).other n1
   · rw [List.mem_singleton.mp z]
     exact (ia.other ad).other al
 · show upd _ lo _ lo=_
   rw [upd_same]
   unfold keys
   rw [List.map_append,List.map_append,List.map_append];rfl
 · rcases List.mem_append.mp hp with z | z
   · exact h.nl p z
   · rw [List.mem_singleton.mp z];exact al
def spLio (C:Addr):Sp:=fun vs H Q _=>∃ (g:Addr) (k n:Nat) (T:Tab) (fp:List Addr),vs=[.ref g]∧ChAt C H g k n T fp∧∀ (l:Addr) (H':Hp),H l=none→Ints H' l (lets k)→Same H H'→Q (.ref l) H'
def spWays (C:Addr):Sp:=fun vs H Q _=>∃ (g:Addr) (k n:Nat) (T:Tab) (fp:List Addr) (b:Nat),vs=[.ref g,.int b]∧ChAt C H g k n T fp∧b < n∧
 ∀ (d:Addr) (W:Wy) (H':Hp),H d=none→FW H' d W→WInv T k n b W→era W=metW T k n b→Same H H'→Q (.ref d) H'
def way (W:Pw) (c:Nat):List Int:=((W.find? fun p=>p.1 == c).map (·.2)).getD []
theorem way_mem {W:Pw} (nd:(W.map (·.1)).Nodup) {p:Nat × List Int} (hp:p∈W):way W p.1=p.2:=by
 unfold way
 induction W with
 | nil=>cases hp
 | cons q W ih=>
  obtain ⟨n1,n2⟩:=List.nodup_cons.mp nd
  rcases List.mem_cons.mp hp with e | e
  · subst e;simp
  · have:(q.1 == p.1)=false:=by
      rw [beq_eq_false_iff_ne]
      intro z
      exact n1 (List.mem_map.mpr ⟨p,e,z.symm⟩)
    rw [List.find?_cons,this]
    exact ih n2 e
end My
namespace L2
open PySem PySem.Spec PyProof.Rows
end L2
namespace My
open PySem L2
theorem lets_at {k m:Nat} (h:m < 2 * k):(lets k)[m]?=some (((m:Int) / 2+1) * (1 - 2 * ((m:Int) % 2))):=by
 unfold lets
 induction k with
 | zero=>omega
 | succ k ih=>
  rw [List.range_succ,List.flatMap_append]
  have hl:((List.range k).flatMap fun (i:Nat)=>[1+(i:Int), -(1+(i:Int))]).length=2 * k:=lets_len k
  by_cases hm:m < 2 * k
  · rw [List.getElem?_append_left (by rw [hl];exact hm)]
    exact ih hm
  · rw [List.getElem?_append_right (by rw [hl];omega),hl]
    have:m=2 * k∨m=2 * k+1:=by omega
    rcases this with e | e
    · subst e
      have h1:((2 * k:Nat):Int) / 2=k:=by omega
      have h2:((2 * k:Nat):Int) % 2=0:=by omega
      rw [h1,h2,Nat.sub_self]
      simp;omega
    · subst e
      have h1:((2 * k+1:Nat):Int) / 2=k:=by omega
      have h2:((2 * k+1:Nat):Int) % 2=1:=by omega
      rw [h1,h2,show 2 * k+1 - 2 * k=1 by omega]
      simp;omega
theorem inV_nat {c:Nat}:∀ O:List Nat,inV (.int (c:Int)) ((O.map fun (x:Nat)=>(x:Int)).map V.int)=decide (c∈O)
 | []=>rfl
 | a::O=>by
  have ih:=inV_nat (c:=c) O
  unfold inV at ih ⊢
  rw [List.map_cons,List.map_cons,List.any_cons,ih]
  show (((a:Int) == (c:Int)) || decide (c∈O))=_
  by_cases h:a=c
  · subst h;simp
  · have:((a:Int) == (c:Int))=false:=by rw [beq_eq_false_iff_ne];omega
    rw [this,Bool.false_or]
    by_cases h2:c∈O
    · rw [decide_eq_true h2,decide_eq_true (List.mem_cons_of_mem _ h2)]
    · rw [decide_eq_false h2,decide_eq_false (fun z=>(List.mem_cons.mp z).elim (fun q=>h q.symm) h2)]
theorem flat_ints (ns:List Int):(ns.map V.int).all flatV=true:=by
 rw [List.all_eq_true]
 intro x hx
 obtain ⟨z,_,rfl⟩:=List.mem_map.mp hx
 rfl
def spOrder:Sp:=fun vs H Q _=>∃ (t:Addr) (as:List Addr) (T:Tab) (k n b:Nat),vs=[.ref t,.int k,.int b]∧Tb H t as T∧TabOk k n T∧1≤k∧k≤5∧n≤1000∧b < n∧
 ∀ (l:Addr) (H':Hp),H l=none→Ints H' l ((met T k n b).map fun (c:Nat)=>(c:Int))→Same H H'→Q (.ref l) H'
def dm (W:Pw):Wy:=W.map fun p=>(p.1,0,p.2)
theorem era_dm (W:Pw):era (dm W)=W:=by
 unfold era dm
 rw [List.map_map]
 exact List.map_id W
theorem keys_dm (W:Pw):keys (dm W)=W.map (·.1):=by rw [← era_keys,era_dm]
theorem visW_inv {k n b:Nat}{T:Tab} (ok:TabOk k n T) {W:Pw}{p:Nat × List Int}{l:Int} (hp:p∈W) (hl:Let k l) (h:WInv T k n b (dm W)):WInv T k n b (dm (visW T p W l))∧p∈visW T p W l:=by
 unfold visW
 split
 · exact ⟨h,hp⟩
 · rename_i d e
   split
   · exact ⟨h,hp⟩
   · rename_i q
     have:=h.add ok (p:=(p.1,0,p.2)) (List.mem_map.mpr ⟨p,hp,rfl⟩) hl e (by rw [keys_dm];exact q) 0
     refine ⟨?_,List.mem_append_left _ hp⟩
     unfold dm at this ⊢
     rw [List.map_append]
     exact this
theorem foldW_inv {k n b:Nat}{T:Tab} (ok:TabOk k n T) {p:Nat × List Int}:∀ (ls:List Int) {W:Pw},(∀ l∈ls,Let k l)→p∈W→WInv T k n b (dm W)→WInv T k n b (dm (ls.foldl (visW T p) W))
 | [],_,_,_,h=>h
 | l::ls,W,hl,hp,h=>by
  obtain ⟨h1,h2⟩:=visW_inv ok hp (hl l (List.mem_cons_self ..)) h
  exact foldW_inv ok ls (fun m hm=>hl m (List.mem_cons_of_mem _ hm)) h2 h1
theorem bfsW_inv {k n b:Nat}{T:Tab} (ok:TabOk k n T):∀ (f i:Nat) {W:Pw},WInv T k n b (dm W)→WInv T k n b (dm (bfsW T k f i W))
 | 0,_,_,h=>h
 | f+1,i,W,h=>by
  by_cases hi:i < W.length
  · rw [bfsW_go hi]
    refine bfsW_inv ok f (i+1) (foldW_inv ok (lets k) (fun l hl=>lets_mem.mp hl) ?_ h)
    simp [List.getD,hi]
  · rw [bfsW_stop (by omega)];exact h
theorem met_winv {k n b:Nat}{T:Tab} (ok:TabOk k n T) (hb:b < n):WInv T k n b (dm (metW T k n b)):=bfsW_inv ok _ _ (WInv.zero hb 0)
theorem red_append:∀ {u v:List Int},Red (u++v)↔Red u∧Red v∧∀ a b,u.getLast?=some a→v.head?=some b→b≠ -a
 | [],v=>by simp [Red]
 | [x],v=>by
  cases v with
  | nil=>simp [Red]
  | cons b r=>
   show (b≠ -x∧Red (b::r))↔_
   simp [Red]
   exact And.comm
 | x::y::u,v=>by
  have ih:=@red_append (y::u) v
  show (y≠ -x∧Red (y::u++v))↔(y≠ -x∧Red (y::u))∧_
  rw [ih]
  simp only [List.getLast?_cons_cons]
  constructor
  · rintro ⟨a,b,c,d⟩;exact ⟨⟨a,b⟩,c,d⟩
  · rintro ⟨⟨a,b⟩,c,d⟩;exact ⟨a,b,c,d⟩
structure Tree (T:Tab) (k n:Nat):Prop where
 ok:TabOk k n T
 hn:0 < n
section
variable {T:Tab}{k n:Nat}
theorem Tree.nd (t:Tree T k n):(met T k n 0).Nodup:=(met_inv t.ok t.hn).1.nd
abbrev wy (T:Tab) (k n:Nat) (c:Nat):List Int:=way (metW T k n 0) c
theorem Tree.ent (t:Tree T k n) {c:Nat} (hc:c∈met T k n 0):(c,0,wy T k n c)∈dm (metW T k n 0):=by
 have h:c∈(metW T k n 0).map (·.1):=by rw [metW_map];exact hc
 obtain ⟨p,hp,rfl⟩:=List.mem_map.mp h
 have nd:((metW T k n 0).map (·.1)).Nodup:=by rw [metW_map];exact t.nd
 refine List.mem_map.mpr ⟨p,hp,?_⟩
 show (p.1,0,p.2)=(p.1,0,way (metW T k n 0) p.1)
 rw [way_mem nd hp]
theorem Tree.wk (t:Tree T k n) {c:Nat} (hc:c∈met T k n 0):wgo T (some ((0:Nat):Int)) (wy T k n c)=some (c:Int):=(met_winv t.ok t.hn).wk _ (t.ent hc)
theorem Tree.ll (t:Tree T k n) {c:Nat} (hc:c∈met T k n 0):∀ l∈wy T k n c,Let k l:=(met_winv t.ok t.hn).ll _ (t.ent hc)
end
end My
namespace L2
open PySem PySem.Spec PyProof.Rows PySem.W
section
variable {X:Cx}
def rListF (xs:List V) (H:Hp) (Q:VK):Prop:=∃ (d:Addr) (o:Obj) (kvs:List (Key × V)),xs=[.ref d]∧H d=some (.frz o (.dK kvs))∧∀ l:Addr,H l=none→Q (.ref l) (upd H l (.lst (kvs.map fun p=>kV p.1)))
theorem call_listF (hc:X.calm=true):CallR X (.type "list") (fun xs H Q=>Wr (rListF xs H Q)):=by
 intro pins s σ H xs us Q I r h
 obtain ⟨d,o,kvs,rfl,hd,q⟩:=h.get
 obtain ⟨u,rfl,ru⟩:=r.one
 cases ru
 obtain ⟨ho0,z,ns0,vs0,kv0,dd0⟩:=(show ObjOk X.prog X.w H s.heap d (.frz o (.dK kvs)) from I.hok d _ hd)
 obtain ⟨ns,ho,vs,kv,hl',o',es',ep',ho',r1,r2,r3⟩:=frz_dict I.hok hd
 rw [ho] at ho';cases ho'
 refine kdl_call (kdl_dict (knd:=mixKind X.prog X.w) (kvs:=vs) (ep:=ep') ns) (I.ok.hd hc) ⟨o,es',ho,r1,r2,r3⟩ (by rw [hl'];exact z) fun h' tk acc c hk hS hacc=>?_
 refine ⟨.ref s.heap.objs.size,_,I.laid (t':=tk) (o:=.lst (kvs.map fun p=>kV p.1)) hk (Nat.le_refl _) ?_,rfl,q _ (I.hok.fresh (Nat.le_refl _))⟩
 refine ⟨by rw [List.length_map];exact z,acc.toList,c,?_,by simpa using hS⟩
 have gen:∀ (ks:List (Key × V)) (ws:List Value),ks.length=ws.length→(∀ (i:Nat) p v,ks[i]?=some p→ws[i]?=some v→RelV (kV p.1) v)→Vals (ks.map fun p=>kV p.1) ws:=by
  intro ks
  induction ks with
  | nil=>intro ws e _;cases ws with | nil=>exact .nil | cons _ _=>simp at e
  | cons p ks ih=>
   intro ws e hr
   cases ws with
   | nil=>simp at e
   | cons v ws=>exact .cons (hr 0 p v rfl rfl) (ih ws (by simpa using e) fun i p' v' h1 h2=>hr (i+1) p' v' (by simpa using h1) (by simpa using h2))
 refine gen kvs acc.toList (by have h1:=hacc.1;simp only [Array.length_toList];omega) fun i p v h1 h2=>?_
 rw [Array.getElem?_toList] at h2
 obtain ⟨k,x,e1,e2⟩:=hacc.2 i v h2
 obtain ⟨q',e3,e4⟩:=kv.get h1
 rw [e1] at e3
 cases e3
 rw [e4]
 exact rel_key e2
theorem m1 {o e:Expr}{m:Str}{apos cpos:Pos} (h1:attributeBase o m X.env (eval o X.env)=eval o X.env:=by rfl)
  (h2:((backTo cpos (starEach [e] X.env)).all (fun x=> !x.1) && (backToKw cpos (keywordEach [] X.env)).all (fun x=>x.1.isSome)
  && decide (([e]:List Expr).length+([]:List Keyword).length+(if ([]:List Keyword).isEmpty then 0 else 1) < 30))=true:=by rfl)
  (h3:(apos.endLine == cpos.line)=true:=by rfl) (h4:backTo cpos (starEach [e] X.env)=[(false,eval e X.env)]:=by rfl):M1 X o m apos e cpos:=⟨h1,h2,h3,h4⟩
end
theorem dcomp_enumK {K:PySem.W.Frag}{a:Addr}{xs:List V}{n:Nat}{gT:TG}{tk tv:TE}{H:Hp}{Q:VK} (Pv:Nat→List (Key × V)→Prop) (h0:Pv 0 []) (hrd:∀ H',(∀ b o,H b=some o→H' b=some o)→SqL K H' a xs)
  (hs:∀ i x H1 D kvs t,xs[i]?=some x→H1 t=none→(∀ b o,H b=some o→H1 b=some o)→H D=none→H1 D=some (.dK kvs)→Pv i kvs→∀ nb:St,nb.length=n→∀ F:V→V→Hp→Prop,(∀ y yv H5 kvs' H6,DPut H5 D y yv H6→(∀ b o,H b=some o→H6 b=some o)→H6 D=some (.dK kvs')→Pv (i+1) kvs'→F y yv H5)→
   gT (.ref t) nb (upd H1 t (.tup [.int i,x])) fun σ2 H3=>tk σ2 H3 fun y H4=>tv σ2 H4 fun yv H5=>F y yv H5)
  (hd:∀ D H' kvs,H D=none→H' D=some (.dK kvs)→Pv xs.length kvs→(∀ b o,H b=some o→H' b=some o)→Q (.ref D) H'):Wr (rDCompG (Ite K a) n gT tk tv H Q):=by
 refine ⟨fun D hD=>⟨.dK [],fun i m H1=>m=xs.length - i∧i≤xs.length∧(∀ b o,H b=some o→H1 b=some o)∧∃ kvs,H1 D=some (.dK kvs)∧Pv i kvs,.inl rfl,⟨xs.length,by simp,Nat.zero_le _,fun b o e=>?_,[],upd_same,h0⟩,?_⟩⟩
 · rw [upd_ne (fun z=>by rw [z,hD] at e;cases e)];exact e
 · rintro i m H1 ⟨rfl,hi,sm,kvs,eD,pv⟩
   have q:=hrd H1 sm
   by_cases hlt:i < xs.length
   · refine .inr ⟨⟨xs,xs[i],q,by simp [hlt]⟩,fun x H' y nb hnb=>?_⟩
     obtain ⟨t,y,ht,rfl,rfl,hy⟩:=y
     exact hs i y H1 D kvs t (hy xs q) ht sm hD eD pv nb hnb (fun y yv H5=>∃ H6,DPut H5 D y yv H6∧∃ m',m' < xs.length - i∧m'=xs.length - (i+1)∧i+1≤xs.length∧(∀ b o,H b=some o→H6 b=some o)∧∃ kvs,H6 D=some (.dK kvs)∧Pv (i+1) kvs) fun y yv H5 kvs' H6 p6 s6 e6 pv6=>⟨H6,p6,xs.length - (i+1),by omega,rfl,hlt,s6,kvs',e6,pv6⟩
   · have e:i=xs.length:=by omega
     subst e
     exact .inl ⟨⟨xs,q,Nat.le_refl _⟩,hd D H1 kvs hD eD pv sm⟩
end L2
namespace L2
open PySem PySem.Spec PyProof.Rows
theorem sC {X:Cx}{st:Stmt}{t:TS}{rest:List Stmt}{u:TS} (h1:PS X st t) (h2:PSs X rest u):PSs X (st::rest) (tSeq t u):=pss_cons h1 h2
theorem sO {X:Cx}{st:Stmt}{t:TS} (h:PS X st t):PSs X [st] t:=pss_one h
theorem sS {X:Cx}{i:Nat}{x:Str}{e:Expr}{te:TE}{pos pos':Pos} (hN:X.N.Nodup) (hi:X.N[i]?=some x) (hx:Loc X.env.scope x) (he:PE X e te) (hs:swapsWith e (some (.Name x pos')) pos.line X.env=pure false) (hf:X.fn x=true∨X.env.scope.names.lookup x=some .local):
  PS X (.Assign [.Name x pos'] e pos) (tAsg te (gName i)):=ps_set hN hi hx he hs hf
theorem sR {X:Cx}{e:Expr}{te:TE}{pos:Pos} (he:PE X e te):PS X (.Return (some e) pos) (tRet te):=ps_ret he
theorem aC {X:Cx}{e:Expr}{te:TE}{es:List Expr}{t:TA} (ha:PE X e te) (hr:PA X es t) (hs:starEach (e::es) X.env=(false,eval e X.env)::starEach es X.env):PA X (e::es) (tCons te t):=pa_cons ha hr hs
theorem eL {X:Cx}{es:List Expr}{t:TA}{pos:Pos} (h:PA X es t):PE X (.List es pos) (tLstW t):=pe_lstW h
theorem us1 {α:Type}{us:List α} (h:us.length=1):∃ a,us=[a]:=by
 match us,h with
 | [a],_=>exact ⟨a,rfl⟩
theorem us2 {α:Type}{us:List α} (h:us.length=2):∃ a b,us=[a,b]:=by
 cases us with
 | nil=>cases h
 | cons a r=>obtain ⟨b,rfl⟩:=us1 (us:=r) (by simpa using h);exact ⟨a,b,rfl⟩
theorem us3 {α:Type}{us:List α} (h:us.length=3):∃ a b c,us=[a,b,c]:=by
 cases us with
 | nil=>cases h
 | cons a r=>obtain ⟨b,c,rfl⟩:=us2 (us:=r) (by simpa using h);exact ⟨a,b,c,rfl⟩
theorem us4 {α:Type}{us:List α} (h:us.length=4):∃ a b c d,us=[a,b,c,d]:=by
 cases us with
 | nil=>cases h
 | cons a r=>obtain ⟨b,c,d,rfl⟩:=us3 (us:=r) (by simpa using h);exact ⟨a,b,c,d,rfl⟩
theorem scm {N P:List Str}{sc:Scope} (a:sc.kind=.function:=by rfl) (b:sc.isCoroutine=false:=by rfl) (c:sc.isGenerator=false:=by rfl) (d:N.Nodup:=by decide+kernel) (e:N.take P.length=P:=by rfl) (f:∀ x∈P,sc.names.lookup x=some .local∨sc.names.lookup x=some .cell:=by decide+kernel) (g:∀ y∈sc.names,y.2≠.free:=by decide+kernel):FnScope N P sc:=⟨a,b,c,d,e,f,g⟩
end L2
namespace My
open PySem L2
def rn (ord:List Nat) (o:Option Int):Option Int:=o.bind fun e=>if e.toNat∈ord then some ((ord.idxOf e.toNat:Nat):Int) else none
def renT (T:Tab) (ord:List Nat):Tab:=ord.map fun c=>(T.getD c []).map (rn ord)
theorem renT_cell {T:Tab}{ord:List Nat} (i j:Nat) (hi:i < ord.length):cell (renT T ord) i j=rn ord (cell T ord[i] j):=by
 have e:(renT T ord).getD i []=(T.getD ord[i] []).map (rn ord):=by
  simp [renT,List.getD,hi]
 unfold cell
 rw [e]
 generalize T.getD ord[i] []=r
 simp only [List.getD,List.getElem?_map]
 cases r[j]? <;> rfl
theorem renT_out {T:Tab}{ord:List Nat} (i j:Nat) (hi:¬ i < ord.length):cell (renT T ord) i j=none:=by
 have e:(renT T ord).getD i []=[]:=by
  simp [renT,List.getD,List.getElem?_eq_none (Nat.le_of_not_lt hi)]
 unfold cell
 rw [e];rfl
theorem rn_some {ord:List Nat}{o:Option Int}{e:Int} (h:rn ord o=some e):∃ a,o=some a∧a.toNat∈ord∧e=((ord.idxOf a.toNat:Nat):Int):=by
 unfold rn at h
 cases o with
 | none=>cases h
 | some a=>
  have h:(if a.toNat∈ord then some ((ord.idxOf a.toNat:Nat):Int) else none)=some e:=h
  split at h
  · rename_i m;exact ⟨a,rfl,m,(Option.some.inj h).symm⟩
  · cases h
theorem renT_ok {k n:Nat}{T:Tab} (ok:TabOk k n T) {ord:List Nat} (nd:ord.Nodup) (lt:∀ c∈ord,c < n):TabOk k ord.length (renT T ord) where
 len:=by simp [renT]
 row:=fun r hr=>by
  obtain ⟨c,hc,rfl⟩:=List.mem_map.mp hr
  rw [List.length_map]
  have:c < T.length:=by rw [ok.len];exact lt c hc
  rw [List.getD,List.getElem?_eq_getElem this]
  exact ok.row _ (List.getElem_mem this)
 rng:=fun c j e he=>by
  by_cases hc:c < ord.length
  · rw [renT_cell c j hc] at he
    obtain ⟨a,_,m,rfl⟩:=rn_some he
    have:=List.idxOf_lt_length_iff.mpr m
    exact ⟨by omega,by omega⟩
  · rw [renT_out c j hc] at he;cases he
 inj:=fun c d j e h1 h2=>by
  by_cases hc:c < ord.length
  · by_cases hd:d < ord.length
    · rw [renT_cell c j hc] at h1
      rw [renT_cell d j hd] at h2
      obtain ⟨a,ea,ma,e1⟩:=rn_some h1
      obtain ⟨b,eb,mb,e2⟩:=rn_some h2
      have ei:ord.idxOf a.toNat=ord.idxOf b.toNat:=by omega
      have ga:=List.getElem_idxOf (List.idxOf_lt_length_iff.mpr ma)
      have gb:=List.getElem_idxOf (List.idxOf_lt_length_iff.mpr mb)
      have et:a.toNat=b.toNat:=by
       rw [← ga, ← gb];simp only [ei]
      have ra:=ok.rng _ _ _ ea
      have rb:=ok.rng _ _ _ eb
      have eab:a=b:=by omega
      subst eab
      exact (List.getElem_inj nd).mp (ok.inj _ _ _ _ ea eb)
    · rw [renT_out d j hd] at h2;cases h2
  · rw [renT_out c j hc] at h1;cases h1
def numKV (ord:List Nat):List (Key × V):=ord.zipIdx.map fun p=>(Sum.inl (p.1:Int),V.int (p.2:Int))
theorem numKV_snoc (ord:List Nat) (c:Nat):numKV (ord++[c])=numKV ord++[(Sum.inl (c:Int),V.int (ord.length:Int))]:=by
 unfold numKV
 rw [List.zipIdx_append]
 simp
theorem numKV_len (ord:List Nat):(numKV ord).length=ord.length:=by simp [numKV]
theorem numKV_val:∀ (ord:List Nat) (c:Nat),valV (numKV ord) (.inl (c:Int))=if c∈ord then some (V.int ((ord.idxOf c:Nat):Int)) else none:=by
 intro ord
 have gen:∀ (l:List Nat) (m:Nat) (c:Nat),valV (l.zipIdx m |>.map fun p=>((Sum.inl (p.1:Int):Key),V.int (p.2:Int))) (.inl (c:Int))=if c∈l then some (V.int ((m+l.idxOf c:Nat):Int)) else none:=by
  intro l
  induction l with
  | nil=>intro m c;rfl
  | cons x r ih=>
   intro m c
   rw [List.zipIdx_cons,List.map_cons]
   by_cases e:x=c
   · subst e
     simp [valV]
   · have ne:¬ ((Sum.inl (x:Int):Key)=Sum.inl (c:Int)):=fun z=>e (by have:=Sum.inl.inj z;omega)
     have:=ih (m+1) c
     unfold valV at this ⊢
     rw [List.find?_cons_of_neg (by simpa using ne),this]
     by_cases mc:c∈r
     · rw [if_pos mc,if_pos (List.mem_cons_of_mem _ mc),List.idxOf_cons]
       have:(x == c)=false:=by simpa using e
       rw [this]
       simp only [cond_false]
       congr 3
       omega
     · rw [if_neg mc,if_neg (fun z=>(List.mem_cons.mp z).elim (fun q=>e q.symm) mc)]
 intro c
 have:=gen ord 0 c
 rw [Nat.zero_add] at this
 exact this
theorem numKV_non (ord:List Nat):valV (numKV ord) (.inr none)=none:=by
 unfold valV numKV
 rw [Option.map_eq_none_iff,List.find?_eq_none]
 intro x hx
 obtain ⟨p,_,rfl⟩:=List.mem_map.mp hx
 simp
theorem numKV_fresh {ord:List Nat}{c:Nat} (h:c∉ord):putK (numKV ord) (.inl (c:Int)) (V.int (ord.length:Int))=numKV (ord++[c]):=by
 rw [numKV_snoc]
 exact putK_new _ (by rw [numKV_val,if_neg h])
def spRen (C:Addr):Sp:=fun vs H Q _=>∃ (g la:Addr) (k n:Nat) (T:Tab) (fp:List Addr) (ord:List Nat),vs=[.ref g,.ref la]∧ChAt C H g k n T fp∧Ints H la (ord.map fun (c:Nat)=>(c:Int))∧ord.Nodup∧(∀ c∈ord,c < n)∧ord≠[]∧
 ∀ (x:Addr) (fq:List Addr) (H':Hp),H x=none→(∀ a∈fq,H a=none)→ChAt C H' x k ord.length (renT T ord) fq→Same H H'→Q (.ref x) H'
def spNbrX (C cN:Addr):Sp:=fun vs H Q E=>∃ (g:Addr) (k n:Nat) (T:Tab) (fp:List Addr) (b:Int),vs=[.ref g,.int b]∧ChAt C H g k n T fp∧
 (0≤b∧b < n→∀ (x:Addr) (fq:List Addr) (H':Hp),H x=none→(∀ a∈fq,H a=none)→ChAt C H' x k (met T k n b.toNat).length (renT T (met T k n b.toNat)) fq→Same H H'→Q (.ref x) H')∧
 (¬ (0≤b∧b < n)→E (.ref cN) none H)
def spInO:Sp:=fun vs H Q _=>∃ (t la:Addr) (as:List Addr) (k n:Nat) (T:Tab) (ord:List Nat),vs=[.ref t,.ref la]∧Tb H t as T∧TabOk k n T∧n≤1000∧k≤5∧Ints H la (ord.map fun (c:Nat)=>(c:Int))∧ord.Nodup∧(∀ c∈ord,c < n)∧
 ∀ (u:Addr) (bs:List Addr) (H':Hp),H u=none→Tb H' u bs (renT T ord)→Same H H'→Q (.ref u) H'
def spBackR (C:Addr):Sp:=fun vs H Q _=>∃ (g t:Addr) (as fp:List Addr) (k n:Nat) (T:Tab),vs=[.ref g,.ref t]∧ChAt C H g k n T fp∧Tb H t as T∧∀ H',Same H H'→Q (.bl true) H'
theorem getElem_idx {ord:List Nat} (nd:ord.Nodup) {i:Nat} (hi:i < ord.length):ord.idxOf ord[i]=i:=nd.idxOf_getElem i hi
theorem sgo_ren {k n:Nat}{T:Tab} (ok:TabOk k n T) {ord:List Nat} (nd:ord.Nodup) (lt:∀ c∈ord,c < n) {i:Nat} (hi:i < ord.length) (l:Int):sgo (renT T ord) i l=rn ord (sgo T ord[i] l):=by
 unfold sgo
 by_cases z:0 < l
 · rw [if_pos z,if_pos z,renT_cell i _ hi]
 · rw [if_neg z,if_neg z]
   have ok':=renT_ok ok nd lt
   apply Option.ext
   intro d
   rw [pre_iff ok']
   constructor
   · rintro ⟨m,rfl,hm,hc⟩
     rw [renT_cell m _ hm] at hc
     obtain ⟨a,ea,ma,e1⟩:=rn_some hc
     have ra:=ok.rng _ _ _ ea
     have ga:a.toNat=ord[i]:=by
      have h1:=List.getElem_idxOf (List.idxOf_lt_length_iff.mpr ma)
      have:ord.idxOf a.toNat=i:=by omega
      rw [← h1];simp only [this]
     have hp:pre T (-l - 1).toNat ord[i]=some ((ord[m]:Nat):Int):=(pre_iff ok).mpr ⟨ord[m],rfl,lt _ (List.getElem_mem hm),by rw [ea];congr 1;omega⟩
     rw [hp]
     unfold rn
     dsimp only [Option.bind]
     rw [Int.toNat_natCast,if_pos (List.getElem_mem hm),getElem_idx nd hm]
   · intro h
     obtain ⟨a,ea,ma,rfl⟩:=rn_some h
     obtain ⟨m,rfl,hm,hc⟩:=(pre_iff ok).mp ea
     rw [Int.toNat_natCast] at ma ⊢
     have hx:=List.idxOf_lt_length_iff.mpr ma
     refine ⟨ord.idxOf m,rfl,hx,?_⟩
     rw [renT_cell _ _ hx,List.getElem_idxOf,hc]
     unfold rn
     dsimp only [Option.bind]
     rw [Int.toNat_natCast,if_pos (List.getElem_mem hi),getElem_idx nd hi]
def lv (b:List Bool) (c:Nat):Bool:=b.getD c false
def toL (T:Tab) (b:List Bool) (c:Nat) (l:Int):Bool:=match sgo T c l with
 | some d=>lv b d.toNat
 | none=>false
def hcnt (T:Tab) (k:Nat) (b:List Bool) (c:Nat):Nat:=(lets k).countP (toL T b c)
def bes (T:Tab) (k c:Nat):List Int:=(lets k).filterMap (sgo T c)
def Av (T:Tab) (k:Nat) (b:List Bool):Prop:=∀ w:List Int,Red w→(∀ l∈w,Let k l)→wgo T (some 0) w=some 0→∀ i,i≤w.length→∀ c,wgo T (some 0) (w.take i)=some c→lv b c.toNat=true
theorem two_mem {α:Type}{a b:α}{p:α→Bool} (ne:a≠b):∀ {l:List α},a∈l→b∈l→p a=true→p b=true→2≤l.countP p
 | x::l,ha,hb,pa,pb=>by
  rw [List.countP_cons]
  rcases List.mem_cons.mp ha with e1 | ha'
  · rcases List.mem_cons.mp hb with e2 | hb'
    · exact absurd (e1.trans e2.symm) ne
    · have:0 < l.countP p:=List.countP_pos_iff.mpr ⟨b,hb',pb⟩
      rw [if_pos (e1▸pa)];omega
  · rcases List.mem_cons.mp hb with e2 | hb'
    · have:0 < l.countP p:=List.countP_pos_iff.mpr ⟨a,ha',pa⟩
      rw [if_pos (e2▸pb)];omega
    · have:=two_mem (p:=p) ne ha' hb' pa pb
      omega
theorem lv_set {b:List Bool}{h c:Nat}:lv (b.set h false) c=(lv b c && !decide (c=h)):=by
 unfold lv
 by_cases z:c=h
 · subst z
   rw [decide_eq_true rfl]
   by_cases y:c < b.length
   · rw [List.getD,List.getElem?_set_self y];simp
   · rw [List.getD,List.getElem?_eq_none (by rw [List.length_set];omega)];simp
 · rw [List.getD,List.getElem?_set_ne (Ne.symm z),decide_eq_false z];simp [List.getD]
theorem av_step {k n:Nat}{T:Tab} (ok:TabOk k n T) (n1:1≤n) {b:List Bool}{h:Nat} (av:Av T k b) (h0:h≠0) (c1:hcnt T k b h≤1):Av T k (b.set h false):=by
 intro w red hl hw i hi c hc
 have hb:=av w red hl hw
 rw [lv_set,hb i hi c hc,Bool.true_and]
 by_cases z:c.toNat=h
 · exfalso
   have z0:(0:Int)≤0∧(0:Int) < n:=by omega
   have i0:i≠0:=fun e=>by
    rw [e] at hc
    have:(0:Int)=c:=Option.some.inj hc
    omega
   have il:i < w.length:=by
    rcases Nat.lt_or_ge i w.length with e | e
    · exact e
    · rw [List.take_of_length_le e,hw] at hc
      have:(0:Int)=c:=Option.some.inj hc
      omega
   obtain ⟨j,rfl⟩:∃ j,i=j+1:=⟨i - 1,by omega⟩
   have ea:w[j]?=some w[j]:=by simp [show j < w.length by omega]
   have eb:w[j+1]?=some w[j+1]:=by simp [il]
   have e1:=wgo_take (T:=T) (o:=some 0) ea
   rw [hc] at e1
   cases d1e:wgo T (some 0) (w.take j) with
   | none=>rw [d1e] at e1;cases e1
   | some d1=>
    rw [d1e] at e1
    have e1:some c=sgo T d1.toNat w[j]:=e1
    have r1:=wgo_lt ok z0 d1e
    have rc:=wgo_lt ok z0 hc
    have la:=hl _ (List.getElem_mem (show j < w.length by omega))
    have lb:=hl _ (List.getElem_mem il)
    have bk:=sgo_back ok la.1 (show d1.toNat < n by omega) (show sgo T d1.toNat w[j]=some ((h:Nat):Int) by rw [← e1];congr 1;omega)
    have e2:=wgo_take (T:=T) (o:=some 0) eb
    rw [hc] at e2
    have e2:wgo T (some 0) (w.take (j+1+1))=sgo T c.toNat w[j+1]:=e2
    cases d2e:wgo T (some 0) (w.take (j+1+1)) with
    | none=>rw [wgo_stop (j+1+1) d2e] at hw;cases hw
    | some d2=>
     rw [d2e,z] at e2
     have l1:=hb j (by omega) d1 d1e
     have l2:=hb (j+1+1) (by omega) d2 d2e
     have rd:w[j+1]≠ -w[j]:=by
      have:Red (w.take (j+1)++w.drop (j+1)):=by rw [List.take_append_drop];exact red
      refine (red_append.mp this).2.2 _ _ ?_ ?_
      · rw [List.getLast?_take];simp [show j < w.length by omega]
      · rw [List.head?_drop];exact eb
     have:=two_mem (p:=toL T b h) rd (lets_mem.mpr lb) (lets_mem.mpr (show Let k (-w[j]) from ⟨by have:=la.1;omega,by have:=la.2.2;omega,by have:=la.2.1;omega⟩)) (by unfold toL;rw [← e2];exact l2) (by unfold toL;rw [bk];exact l1)
     unfold hcnt at c1
     omega
 · rw [decide_eq_false z];rfl
theorem lets_neg (k:Nat):((lets k).map fun l=> -l).Perm (lets k):=by
 unfold lets
 induction k with
 | zero=>exact List.Perm.refl _
 | succ k ih=>
  rw [List.range_succ,List.flatMap_append,List.map_append]
  refine List.Perm.append ih ?_
  show [-(1+(k:Int)), - -(1+(k:Int))].Perm [1+(k:Int), -(1+(k:Int))]
  rw [Int.neg_neg]
  exact List.Perm.swap _ _ _
theorem count_bes {T:Tab}{k h:Nat}{c:Int}:(bes T k h).count c=(lets k).countP fun l=>sgo T h l == some c:=by
 unfold bes
 induction lets k with
 | nil=>rfl
 | cons l ls ih=>
  rw [List.countP_cons, ← ih]
  cases e:sgo T h l with
  | none=>rw [List.filterMap_cons_none e];rfl
  | some d=>
   rw [List.filterMap_cons_some e,List.count_cons]
   congr 1
theorem countP_split {α:Type}{p q r:α→Bool}:∀ {l:List α},(∀ x∈l,p x=(q x || r x)∧(q x && r x)=false)→l.countP p=l.countP q+l.countP r
 | [],_=>rfl
 | x::l,h=>by
  have h1:=h x (List.mem_cons_self ..)
  rw [List.countP_cons,List.countP_cons,List.countP_cons,countP_split fun y hy=>h y (List.mem_cons_of_mem _ hy),h1.1]
  cases hq:q x <;> cases hr:r x <;> simp_all <;> omega
theorem hcnt_set {k n:Nat}{T:Tab} (ok:TabOk k n T) {b:List Bool}{h c:Nat} (hn:h < n) (cn:c < n) (hb:lv b h=true):hcnt T k b c=hcnt T k (b.set h false) c+(bes T k h).count (c:Int):=by
 have e1:(lets k).countP (fun l=>sgo T c l == some (h:Int))=(lets k).countP fun l=>sgo T h l == some (c:Int):=by
  rw [← (lets_neg k).countP_eq,List.countP_map]
  refine List.countP_congr fun l hl=>?_
  have ll:=lets_mem.mp hl
  show (sgo T c (-l) == some (h:Int))=true↔(sgo T h l == some (c:Int))=true
  rw [beq_iff_eq,beq_iff_eq]
  constructor
  · intro e
    have:=sgo_back ok (show -l≠0 by have:=ll.1;omega) cn e
    rwa [Int.neg_neg] at this
  · exact fun e=>sgo_back ok ll.1 hn e
 rw [count_bes, ← e1]
 unfold hcnt
 refine countP_split fun l _=>?_
 unfold toL
 cases e:sgo T c l with
 | none=>exact ⟨rfl,rfl⟩
 | some d=>
  have rd:=sgo_lt ok e
  dsimp only
  rw [lv_set]
  by_cases z:d=(h:Int)
  · subst z
    rw [Int.toNat_natCast,hb];simp
  · have z1:¬ d.toNat=h:=by omega
    have z2:(some d == some (h:Int))=false:=beq_eq_false_iff_ne.mpr fun w=>z (Option.some.inj w)
    rw [decide_eq_false z1,z2];simp
structure HairI (T:Tab) (k n:Nat) (b:List Bool) (many wt:List Int):Prop where
 lb:b.length=n
 lm:many.length=n
 ct:∀ c,c < n→lv b c=true→many.getD c 0=(hcnt T k b c:Int)
 ww:∀ x∈wt,∃ c:Nat,x=(c:Int)∧c < n∧c≠0∧lv b c=true∧many.getD c 0≤1
 nd:wt.Nodup
 av:Av T k b
 z:lv b 0=true
structure HairJ (n:Nat) (b:List Bool) (h:Nat) (many0 bs:List Int) (j:Nat) (many wt:List Int):Prop where
 lm:many.length=n
 ct:∀ c,c < n→many.getD c 0=many0.getD c 0 - ((bs.take j).count (c:Int):Nat)
 ww:∀ x∈wt,∃ c:Nat,x=(c:Int)∧c < n∧c≠0∧lv (b.set h false) c=true∧many.getD c 0≤1
 nd:wt.Nodup
theorem HairJ.zero {T:Tab}{k n:Nat}{b:List Bool}{many wt bs:List Int}{h:Nat} (H:HairI T k n b many (wt++[(h:Int)])):HairJ n b h many bs 0 many wt:=by
 have nd:=List.nodup_append.mp H.nd
 refine ⟨H.lm,fun c hc=>by simp,fun x hx=>?_,nd.1⟩
 obtain ⟨c,rfl,c1,c2,c3,c4⟩:=H.ww x (List.mem_append_left _ hx)
 refine ⟨c,rfl,c1,c2,?_,c4⟩
 have ne:c≠h:=fun z=>nd.2.2 _ hx _ (List.mem_singleton.mpr rfl) (by rw [z])
 rw [lv_set,c3,decide_eq_false ne];rfl
theorem getD_set {l:List Int}{o:Nat}{v:Int} (ho:o < l.length) (c:Nat):(l.set o v).getD c 0=if c=o then v else l.getD c 0:=by
 by_cases z:c=o
 · subst z
   rw [if_pos rfl,List.getD,List.getElem?_set_self ho];rfl
 · rw [if_neg z,List.getD,List.getElem?_set_ne (Ne.symm z)];rfl
theorem HairJ.step {n:Nat}{b:List Bool}{h:Nat}{many0 bs:List Int}{j:Nat}{many wt:List Int} (H:HairJ n b h many0 bs j many wt) {o:Nat} (ho:bs[j]?=some (o:Int)) (on:o < n):HairJ n b h many0 bs (j+1) (many.set o (many.getD o 0 - 1)) wt:=by
 have ol:o < many.length:=by rw [H.lm];exact on
 have hj:=(List.getElem?_eq_some_iff.mp ho).1
 have et:bs.take (j+1)=bs.take j++[(o:Int)]:=by
  rw [List.take_succ_eq_append_getElem hj,(List.getElem?_eq_some_iff.mp ho).2]
 refine ⟨by rw [List.length_set];exact H.lm,fun c hc=>?_,fun x hx=>?_,H.nd⟩
 · rw [getD_set ol,et,List.count_append,List.count_singleton]
   have:=H.ct c hc
   by_cases z:c=o
   · subst z
     rw [if_pos rfl,this];simp;omega
   · have z2:((o:Int) == (c:Int))=false:=beq_eq_false_iff_ne.mpr fun w=>z (by omega)
     rw [if_neg z,this,z2];simp
 · obtain ⟨c,rfl,c1,c2,c3,c4⟩:=H.ww x hx
   refine ⟨c,rfl,c1,c2,c3,?_⟩
   rw [getD_set ol]
   by_cases z:c=o
   · subst z;rw [if_pos rfl];omega
   · rw [if_neg z];exact c4
theorem HairJ.more {n:Nat}{b:List Bool}{h:Nat}{many0 bs:List Int}{j:Nat}{many wt:List Int} (H:HairJ n b h many0 bs j many wt) {o:Nat} (ho:bs[j]?=some (o:Int)) (on:o < n) (l:lv (b.set h false) o=true) (o0:o≠0) (e:many.getD o 0 - 1=1):
  HairJ n b h many0 bs (j+1) (many.set o (many.getD o 0 - 1)) (wt++[(o:Int)]):=by
 have ol:o < many.length:=by rw [H.lm];exact on
 have S:=H.step ho on
 refine ⟨S.lm,S.ct,fun x hx=>?_,?_⟩
 · rcases List.mem_append.mp hx with m | m
   · exact S.ww x m
   · rw [List.mem_singleton.mp m]
     exact ⟨o,rfl,on,o0,l,by rw [getD_set ol,if_pos rfl];omega⟩
 · refine List.nodup_append.mpr ⟨S.nd,by simp,fun x hx y hy e2=>?_⟩
   rw [List.mem_singleton.mp hy] at e2
   obtain ⟨c,rfl,_,_,_,c4⟩:=H.ww x hx
   have:c=o:=by omega
   subst this
   omega
theorem HairJ.done {T:Tab}{k n:Nat} (ok:TabOk k n T) (n1:1≤n) {b:List Bool}{h:Nat}{many0 wt0 many wt:List Int} (H:HairI T k n b many0 (wt0++[(h:Int)])) (J:HairJ n b h many0 (bes T k h) (bes T k h).length many wt):HairI T k n (b.set h false) many wt:=by
 obtain ⟨c,ec,c1,c2,c3,c4⟩:=H.ww (h:Int) (List.mem_append_right _ (List.mem_singleton.mpr rfl))
 obtain rfl:h=c:=by omega
 have ch:=H.ct h c1 c3
 refine ⟨by rw [List.length_set];exact H.lb,J.lm,fun c hc hl=>?_,J.ww,J.nd,av_step ok n1 H.av c2 (by omega),?_⟩
 · rw [J.ct c hc,List.take_length]
   rw [lv_set] at hl
   have hl:=(Bool.and_eq_true_iff.mp hl).1
   have:=hcnt_set ok (b:=b) c1 hc c3
   rw [H.ct c hc hl]
   omega
 · rw [lv_set,H.z,decide_eq_false (Ne.symm c2)];rfl
theorem bes_rng {k n:Nat}{T:Tab} (ok:TabOk k n T) {h:Nat}{x:Int} (hx:x∈bes T k h):∃ o:Nat,x=(o:Int)∧o < n:=by
 obtain ⟨l,_,e⟩:=List.mem_filterMap.mp hx
 have:=sgo_lt ok e
 exact ⟨x.toNat,by omega,by omega⟩
theorem bes_len {T:Tab}{k h n:Nat} (ok:TabOk k n T):(bes T k h).length=hcnt T k (List.replicate n true) h:=by
 unfold bes hcnt
 induction lets k with
 | nil=>rfl
 | cons l ls ih=>
  rw [List.countP_cons, ← ih]
  unfold toL
  cases e:sgo T h l with
  | none=>rw [List.filterMap_cons_none e];simp
  | some d=>
   have:=sgo_lt ok e
   rw [List.filterMap_cons_some e]
   have:lv (List.replicate n true) d.toNat=true:=by
    unfold lv
    rw [List.getD,List.getElem?_replicate,if_pos (by omega)];rfl
   simp [this]
theorem lv_all {n c:Nat}:lv (List.replicate n true) c=decide (c < n):=by
 unfold lv
 rw [List.getD,List.getElem?_replicate]
 by_cases z:c < n
 · rw [if_pos z,decide_eq_true z];rfl
 · rw [if_neg z,decide_eq_false z];rfl
theorem HairI.zero {k n:Nat}{T:Tab} (ok:TabOk k n T) (n1:1≤n) {many:List Int} (hm:many=(List.range n).map fun c=>((bes T k c).length:Int)) {wt:List Int} (hw:∀ x∈wt,∃ c:Nat,x=(c:Int)∧c < n∧c≠0∧many.getD c 0=1) (nd:wt.Nodup):HairI T k n (List.replicate n true) many wt:=by
 have z0:(0:Int)≤0∧(0:Int) < n:=by omega
 refine ⟨by simp,by rw [hm];simp,fun c hc _=>?_,fun x hx=>?_,nd,fun w _ _ _ i _ c hc=>?_,by rw [lv_all];exact decide_eq_true (by omega)⟩
 · rw [← bes_len ok,hm];simp [List.getD,hc]
 · obtain ⟨c,rfl,c1,c2,c3⟩:=hw x hx
   exact ⟨c,rfl,c1,c2,by rw [lv_all];exact decide_eq_true c1,by omega⟩
 · have:=wgo_lt ok z0 hc
   rw [lv_all];exact decide_eq_true (by omega)
theorem met_head {T:Tab}{k n base:Nat}:(met T k n base)[0]?=some base:=by
 have:=bfs_inv (T:=T) (k:=k) (fun _ O=>O[0]?=some base) (fun i O hi h=>by
  obtain ⟨r,e⟩:=fold_pre (T:=T) (c:=O.getD i 0) (lets k) O
  unfold rowO
  rw [e,List.getElem?_append_left (List.getElem?_eq_some_iff.mp h).1]
  exact h) (n+1) 0 [base] rfl
 exact this.elim fun _ h=>h.1
def leftL (n:Nat) (b:List Bool):List Nat:=(List.range n).filter (lv b)
theorem leftL_nd (n:Nat) (b:List Bool):(leftL n b).Nodup:=List.nodup_range.filter _
theorem leftL_lt {n:Nat}{b:List Bool}:∀ c∈leftL n b,c < n:=fun c h=>List.mem_range.mp (List.mem_filter.mp h).1
theorem leftL_head {n:Nat}{b:List Bool} (n1:1≤n) (z:lv b 0=true):(leftL n b)[0]?=some 0:=by
 obtain ⟨m,rfl⟩:∃ m,n=m+1:=⟨n - 1,by omega⟩
 unfold leftL
 rw [List.range_succ_eq_map,List.filter_cons_of_pos z];rfl
def spBeside (C:Addr):Sp:=fun vs H Q _=>∃ (g:Addr) (k n:Nat) (T:Tab) (fp:List Addr) (c:Nat),vs=[.ref g,.int c]∧ChAt C H g k n T fp∧c < n∧∀ (l:Addr) (H':Hp),H l=none→Ints H' l (bes T k c)→Same H H'→Q (.ref l) H'
theorem rowInts {H:Hp}{a:Addr}{ns:List Int} (h:Row H a (ns.map some)):Ints H a ns:=by
 show H a=_
 rw [show H a=_ from h,List.map_map];rfl
theorem comp_same {K:PySem.W.Frag}{a:Addr}{xs:List V}{ix:List Nat}{te:TE}{σ:St}{H:Hp}{Q:VK} (f:V→V) (hq:SqL K H a xs) (hl:xs.length≤100000)
  (he:∀ z∈xs,∀ (H':Hp) (Q':VK),Same H H'→(∀ H'',Same H' H''→Q' (f z) H'')→te (blkSt ix (some z) σ) H' Q') (h:∀ (D:Addr) (H':Hp),H D=none→H' D=some (.lst (xs.map f))→Same H H'→Q (.ref D) H'):Wr (rComp (Itl K a) ix te σ H Q):=by
 refine comp_list (xs:=xs) fun D hD=>⟨fun i ys H2=>ys=(xs.take i).map f∧H2 D=some (.lst ys)∧Same H H2,⟨by simp,upd_same,(Same.refl H).upd hD⟩,?_,?_,?_⟩
 · rintro i ys H2 hi ⟨rfl,h1,s⟩
   exact ⟨s.seq hq,h1,small4k (by rw [List.length_map,List.length_take];omega)⟩
 · rintro i x ys H2 hx ⟨rfl,h1,s⟩ Q' q'
   refine he x (List.mem_of_getElem? hx) H2 Q' s fun H3 s3=>q' _ H3 (s3 _ _ h1) ⟨?_,upd_same,(s.trans s3).upd hD⟩
   have hi:=(List.getElem?_eq_some_iff.mp hx).1
   rw [List.take_succ_eq_append_getElem hi,List.map_append,(List.getElem?_eq_some_iff.mp hx).2];rfl
 · rintro ys H2 ⟨rfl,h1,s⟩
   rw [List.take_length] at h1
   exact h D H2 hD h1 s
theorem comp_lists {n:Nat}{ix:List Nat}{te:TE}{σ:St}{H:Hp}{Q:VK} (f:Nat→List Int) (hn:n≤1000)
  (he:∀ i,i < n→∀ (H':Hp) (Q':VK),Same H H'→(∀ (a:Addr) (H'':Hp),H' a=none→Ints H'' a (f i)→Same H' H''→Q' (.ref a) H'')→te (blkSt ix (some (.int (0+(i:Int)))) σ) H' Q')
  (h:∀ (D:Addr) (as:List Addr) (H':Hp),H D=none→H' D=some (.lst (as.map V.ref))→as.length=n→(∀ i a,as[i]?=some a→Ints H' a (f i))→Same H H'→Q (.ref D) H'):Wr (rComp (Itr 0 n) ix te σ H Q):=by
 refine ⟨comp_range fun D hD=>⟨fun i ys H2=>∃ as:List Addr,ys=as.map V.ref∧as.length=i∧i≤n∧(∀ j a,as[j]?=some a→a≠D∧Ints H2 a (f j))∧H2 D=some (.lst ys)∧Same H H2,⟨[],rfl,rfl,Nat.zero_le _,(fun j a e=>by simp at e),upd_same,(Same.refl H).upd hD⟩,?_,?_,?_⟩⟩
 · rintro i ys H2 ⟨as,rfl,la,li,_,h1,_⟩
   exact ⟨h1,small4k (by rw [List.length_map];omega)⟩
 · rintro i ys H2 hi ⟨as,rfl,la,li,ia,h1,s⟩ Q' q'
   refine he i hi H2 Q' s fun a H3 na ii s3=>?_
   have ne:a≠D:=fun z=>by rw [z,h1] at na;cases na
   refine q' _ H3 (s3 _ _ h1) ⟨as++[a],by simp,by simp [la],hi,fun j b e=>?_,upd_same,(s.trans s3).upd hD⟩
   by_cases z:j < as.length
   · rw [List.getElem?_append_left z] at e
     obtain ⟨n1,n2⟩:=ia j b e
     exact ⟨n1,by show upd _ _ _ _=_;rw [upd_ne n1];exact s3.ints n2⟩
   · rw [List.getElem?_append_right (by omega)] at e
     have z0:j - as.length=0:=by have:=(List.getElem?_eq_some_iff.mp e).1;simp at this;omega
     rw [z0] at e
     have e:a=b:=Option.some.inj e
     subst e
     have:j=i:=by omega
     subst this
     exact ⟨ne,by show upd _ _ _ _=_;rw [upd_ne ne];exact ii⟩
 · rintro ys H2 ⟨as,rfl,la,_,ia,h1,s⟩
   exact h D as H2 hD h1 la (fun i a e=>(ia i a e).2) s
def isT (v:V):Bool:=decide (v=V.bl true)
theorem cnt_set:∀ {b:List Bool}{h:Nat},lv b h=true→((b.set h false).map V.bl).countP isT < (b.map V.bl).countP isT
 | [],h,e=>by simp [lv] at e
 | x::b,0,e=>by
  have e:x=true:=e
  subst e
  show ((V.bl false)::b.map V.bl).countP isT < ((V.bl true)::b.map V.bl).countP isT
  rw [List.countP_cons,List.countP_cons,if_neg (by simp [isT]),if_pos (by simp [isT])]
  omega
 | x::b,h+1,e=>by
  have:=cnt_set (b:=b) (h:=h) (by simpa [lv] using e)
  show ((V.bl x)::(b.set h false).map V.bl).countP isT < ((V.bl x)::b.map V.bl).countP isT
  rw [List.countP_cons,List.countP_cons]
  omega
theorem ixN_nat' {n:Nat}{i:Nat} (h:i < n):ixN n (i:Int)=some i:=by
 unfold ixN
 rw [if_pos (by omega),if_pos (by omega)];rfl
theorem w_name {i:Nat}{v:V}{σ:St}{H:Hp}{Q:St→Hp→Prop} (h:Q (σ.set i (some v)) H):gName i v σ H Q:=h
theorem w_seq {a b:TS}{D:Ends}{σ:St}{H:Hp} (h:a { D with nx:=b D } σ H):tSeq a b D σ H:=h
theorem HairJ.len {n:Nat}{b:List Bool}{h:Nat}{many0 bs:List Int}{j:Nat}{many wt:List Int} (H:HairJ n b h many0 bs j many wt):wt.length≤n:=by
 have:OInv n (wt.map Int.toNat):=by
  refine ⟨List.pairwise_map.mpr (List.Pairwise.imp_of_mem (R:=fun a b=>a≠b) (fun {a b} ha hb ne e=>ne ?_) H.nd),fun c hc=>?_⟩
  · obtain ⟨x,rfl,_⟩:=H.ww a ha
    obtain ⟨y,rfl,_⟩:=H.ww b hb
    rw [Int.toNat_natCast,Int.toNat_natCast] at e
    rw [e]
  · obtain ⟨x,hx,rfl⟩:=List.mem_map.mp hc
    obtain ⟨y,rfl,hy,_⟩:=H.ww x hx
    simpa using hy
 simpa using this.len
end My
namespace L2
open PySem PySem.Spec PyProof.Rows
section
variable {X:Cx}
def tRng2 (ta:TA):TE:=fun σ H Q=>ta σ H fun vs H1=>∃ i j:Int,vs=[.int i,.int j]∧∀ p,H1 p=none→Q (.ref p) (upd H1 p (.rng i j))
theorem pe_rng2 {a b:Expr}{ta:TA}{p pos:Pos} (hg:Gl X "range") (hm:X.mg "range"=none) (ha:PA X [a,b] ta) (hs:starEach [a,b] X.env=[(false,eval a X.env),(false,eval b X.env)]:=by rfl) (hs2:starEach [b] X.env=[(false,eval b X.env)]:=by rfl):PE X (.Call (.Name "range" p) [a,b] [] pos) (tRng2 ta):=by
 intro pins s σ H Q I h
 refine Call_ (ld_blt I hg hm boot_range (PyProof.Rows.callWith_type1 (thn (ha pos pins s σ H _ I h) fun us s1 ⟨vs,H1,I1,r1,q1⟩=>?_) (by rw [hs,hs2]) (by rw [hs2];rfl)))
 obtain ⟨i,j,e,q⟩:=q1
 subst e
 cases r1 with
 | cons r rr=>
  cases rr with
  | cons r' rr=>
   cases rr
   obtain ⟨t,rfl⟩:=r
   obtain ⟨t',rfl⟩:=r'
   refine call_range_2 ?_
   exact ⟨.ref s1.heap.objs.size,_,I1.laid (o:=.rng i j) (fun b u e=>Heap.get?_push_of_some _ e) (Nat.le_refl _) ⟨_,_,_,Heap.get?_push_size _ rfl⟩,rfl,q _ (I1.hok.fresh (Nat.le_refl _))⟩
end
end L2
namespace My
open PySem L2
end My
namespace L2
open PySem PySem.Spec PyProof.Rows
end L2
namespace My
open PySem L2
theorem rd_sliceV {K:PySem.W.Frag}{H:Hp}{a:Addr}{xs:List V}{lo hi:Option Int}{Q:VK} (hq:H a=some (.lst xs)) (h:∀ (p:Addr) (H':Hp),H p=none→H' p=some (.lst (cutV xs lo hi))→Same H H'→Q (.ref p) H'):Wr (rSlL K (.ref a) lo hi H Q):=
 ⟨⟨a,_,rfl,SqL.of hq,fun p hp=>h p _ hp upd_same ((Same.refl H).upd hp)⟩⟩
end My
namespace L2
open PySem PySem.Spec PyProof.Rows
end L2
namespace L2
end L2
namespace My
open PySem L2
theorem comp_nons {lo:Int}{k:Nat}{ix:List Nat}{σ:St}{H:Hp}{Q:VK} (hk:k≤1000) (h:∀ (p:Addr) (H':Hp),H p=none→Row H' p (List.replicate k none)→Same H H'→Q (.ref p) H'):Wr (rComp (Itr lo k) ix (tC V.non) σ H Q):=by
 refine ⟨comp_range fun D hD=>⟨fun i ys H2=>ys=(List.replicate i (none:Option Int)).map oV∧H2 D=some (.lst ys)∧Same H H2∧i≤k,⟨rfl,upd_same,(Same.refl H).upd hD,Nat.zero_le _⟩,?_,?_,?_⟩⟩
 · rintro i ys H2 ⟨rfl,h1,s,hi⟩
   exact ⟨h1,small4k (by simp;omega)⟩
 · rintro i ys H2 hi ⟨rfl,h1,s,_⟩ Q' q'
   refine q' _ _ h1 ⟨?_,upd_same,s.upd hD,hi⟩
   rw [List.replicate_succ',List.map_append];rfl
 · rintro ys H2 ⟨rfl,h1,s,_⟩
   exact h D H2 hD h1 s
end My
namespace L2
open PySem PySem.Spec PyProof.Rows
end L2
namespace My
open PySem L2
structure TR (R:Nat→Nat→Prop) (k:Nat) (T T':Tab):Prop where
 fn:∀ {x y y'},R x y→R x y'→y=y'
 inj:∀ {x x' y},R x y→R x' y→x=x'
 go:∀ {x y},R x y→∀ j e,cell T x j=some e→∃ e':Nat,cell T' y j=some (e':Int)∧R e.toNat e'
 og:∀ {x y},R x y→∀ j e,cell T' y j=some e→∃ e':Nat,cell T x j=some (e':Int)∧R e' e.toNat
 up:∀ {x y},R x y→∀ j d,cell T d j=some (x:Int)→∃ d',cell T' d' j=some (y:Int)∧R d d'
 pu:∀ {x y},R x y→∀ j d,cell T' d j=some (y:Int)→∃ d',cell T d' j=some (x:Int)∧R d' d
theorem TR.sgo {R:Nat→Nat→Prop}{k n n':Nat}{T T':Tab} (h:TR R k T T') (ok:TabOk k n T) (ok':TabOk k n' T') {x y:Nat} (r:R x y) {l:Int}:
  (∀ d,sgo T x l=some d→∃ e:Nat,My.sgo T' y l=some (e:Int)∧R d.toNat e)∧(My.sgo T x l=none→My.sgo T' y l=none):=by
 unfold My.sgo
 by_cases z:0 < l
 · rw [if_pos z,if_pos z]
   refine ⟨fun d hd=>h.go r _ d hd,fun hn=>?_⟩
   cases c:cell T' y (l - 1).toNat with
   | none=>rfl
   | some e=>
    obtain ⟨e',h1,_⟩:=h.og r _ e c
    rw [hn] at h1;cases h1
 · rw [if_neg z,if_neg z]
   refine ⟨fun d hd=>?_,fun hn=>?_⟩
   · obtain ⟨m,rfl,_,hc⟩:=(pre_iff ok).mp hd
     obtain ⟨d',h1,h2⟩:=h.up r _ _ hc
     exact ⟨d',(pre_iff ok').mpr ⟨d',rfl,cell_lt ok' h1,h1⟩,by rw [Int.toNat_natCast];exact h2⟩
   · cases c:pre T' (-l - 1).toNat y with
     | none=>rfl
     | some e=>
      obtain ⟨m,rfl,_,hc⟩:=(pre_iff ok').mp c
      obtain ⟨d',h1,h2⟩:=h.pu r _ _ hc
      rw [(pre_iff ok).mpr ⟨d',rfl,cell_lt ok h1,h1⟩] at hn;cases hn
def Zs (R:Nat→Nat→Prop) (O O':List Nat):Prop:=∃ zs:List (Nat × Nat),O=zs.map (·.1)∧O'=zs.map (·.2)∧∀ z∈zs,R z.1 z.2
theorem TR.vis {R:Nat→Nat→Prop}{k n n':Nat}{T T':Tab} (h:TR R k T T') (ok:TabOk k n T) (ok':TabOk k n' T') {x y:Nat} (r:R x y) {l:Int}{O O':List Nat} (z:Zs R O O'):Zs R (vis T x O l) (My.vis T' y O' l):=by
 obtain ⟨h1,h2⟩:=h.sgo ok ok' r (l:=l)
 unfold My.vis
 cases e:My.sgo T x l with
 | none=>rw [h2 e];exact z
 | some d=>
  obtain ⟨d',e',rd⟩:=h1 d e
  rw [e']
  dsimp only
  rw [Int.toNat_natCast]
  obtain ⟨zs,rfl,rfl,hz⟩:=z
  have:d.toNat∈zs.map (·.1)↔d'∈zs.map (·.2):=by
   constructor
   · intro m
     obtain ⟨w,hw,ew⟩:=List.mem_map.mp m
     have:=hz w hw
     rw [ew] at this
     exact List.mem_map.mpr ⟨w,hw,h.fn this rd⟩
   · intro m
     obtain ⟨w,hw,ew⟩:=List.mem_map.mp m
     have:=hz w hw
     rw [ew] at this
     exact List.mem_map.mpr ⟨w,hw,h.inj this rd⟩
  by_cases m:d.toNat∈zs.map (·.1)
  · rw [if_pos m,if_pos (this.mp m)]
    exact ⟨zs,rfl,rfl,hz⟩
  · rw [if_neg m,if_neg fun w=>m (this.mpr w)]
    refine ⟨zs++[(d.toNat,d')],by simp,by simp,fun w hw=>?_⟩
    rcases List.mem_append.mp hw with a | a
    · exact hz w a
    · rw [List.mem_singleton.mp a];exact rd
theorem TR.row {R:Nat→Nat→Prop}{k n n':Nat}{T T':Tab} (h:TR R k T T') (ok:TabOk k n T) (ok':TabOk k n' T') {O O':List Nat} (z:Zs R O O') {i:Nat} (hi:i < O.length):Zs R (rowO T k O i) (rowO T' k O' i):=by
 have r:R (O.getD i 0) (O'.getD i 0):=by
  obtain ⟨zs,rfl,rfl,hz⟩:=z
  rw [List.length_map] at hi
  have:=hz _ (List.getElem_mem hi)
  simpa [List.getD,hi] using this
 unfold rowO
 generalize O.getD i 0=x at r
 generalize O'.getD i 0=y at r
 have:∀ (ls:List Int) (O O':List Nat),Zs R O O'→Zs R (ls.foldl (My.vis T x) O) (ls.foldl (My.vis T' y) O'):=by
  intro ls
  induction ls with
  | nil=>exact fun _ _ z=>z
  | cons l ls ih=>exact fun O O' z=>ih _ _ (h.vis ok ok' r z)
 exact this _ _ _ z
theorem TR.bfs {R:Nat→Nat→Prop}{k n n':Nat}{T T':Tab} (h:TR R k T T') (ok:TabOk k n T) (ok':TabOk k n' T'):∀ (f i:Nat) (O O':List Nat),Zs R O O'→Zs R (bfs T k f i O) (My.bfs T' k f i O')
 | 0,_,_,_,z=>z
 | f+1,i,O,O',z=>by
  have el:O.length=O'.length:=by obtain ⟨zs,rfl,rfl,_⟩:=z;simp
  by_cases hl:i < O.length
  · rw [bfs_go hl,bfs_go (el▸hl)]
    exact h.bfs ok ok' f _ _ _ (h.row ok ok' z hl)
  · rw [bfs_stop (by omega),bfs_stop (by omega)]
    exact z
theorem map_row {r r':List (Option Int)}{g g':Option Int→Option Int} (hl:r.length=r'.length) (h:∀ j,g (r.getD j none)=g' (r'.getD j none)):r.map g=r'.map g':=
 List.ext_getElem (by simp [hl]) fun j h1 h2=>by
  rw [List.length_map] at h1 h2
  have:=h j
  simpa [List.getD,h1,h2] using this
theorem TR.idx {R:Nat→Nat→Prop}{k:Nat}{T T':Tab} (h:TR R k T T') {a b:Nat} (r:R a b):∀ zs:List (Nat × Nat),(∀ z∈zs,R z.1 z.2)→(zs.map (·.1)).idxOf a=(zs.map (·.2)).idxOf b∧(a∈zs.map (·.1)↔b∈zs.map (·.2))
 | [],_=>⟨rfl,by simp⟩
 | z::zs,hz=>by
  obtain ⟨h1,h2⟩:=h.idx r zs fun w hw=>hz w (List.mem_cons_of_mem _ hw)
  have rz:=hz z (List.mem_cons_self ..)
  have e:z.1=a↔z.2=b:=⟨fun e=>h.fn (e▸rz) r,fun e=>h.inj (e▸rz) r⟩
  rw [List.map_cons,List.map_cons,List.mem_cons,List.mem_cons,List.idxOf_cons,List.idxOf_cons,h1, ← h2]
  refine ⟨?_,by rw [eq_comm,e,eq_comm]⟩
  by_cases w:z.1=a
  · rw [beq_iff_eq.mpr w,beq_iff_eq.mpr (e.mp w)]
  · rw [beq_eq_false_iff_ne.mpr w,beq_eq_false_iff_ne.mpr fun v=>w (e.mpr v)]
theorem TR.renT {R:Nat→Nat→Prop}{k n n':Nat}{T T':Tab} (h:TR R k T T') (ok:TabOk k n T) (ok':TabOk k n' T') {O O':List Nat} (z:Zs R O O') (lt:∀ c∈O,c < n) (lt':∀ c∈O',c < n'):renT T O=My.renT T' O':=by
 obtain ⟨zs,rfl,rfl,hz⟩:=z
 unfold My.renT
 rw [List.map_map,List.map_map]
 refine List.map_congr_left fun w hw=>?_
 have r:=hz w hw
 have l1:=lt _ (List.mem_map.mpr ⟨w,hw,rfl⟩)
 have l2:=lt' _ (List.mem_map.mpr ⟨w,hw,rfl⟩)
 have rl:(T.getD w.1 []).length=k:=ok.row _ (by rw [List.getD,List.getElem?_eq_getElem (by rw [ok.len];exact l1)];exact List.getElem_mem _)
 have rl':(T'.getD w.2 []).length=k:=ok'.row _ (by rw [List.getD,List.getElem?_eq_getElem (by rw [ok'.len];exact l2)];exact List.getElem_mem _)
 refine map_row (by rw [rl,rl']) fun j=>?_
 show rn _ (cell T w.1 j)=rn _ (cell T' w.2 j)
 cases c:cell T w.1 j with
 | none=>
  cases c':cell T' w.2 j with
  | none=>rfl
  | some e=>obtain ⟨e',h1,_⟩:=h.og r _ e c';rw [c] at h1;cases h1
 | some e=>
  obtain ⟨e',h1,h2⟩:=h.go r _ e c
  rw [h1]
  obtain ⟨i1,i2⟩:=h.idx h2 zs hz
  unfold rn
  dsimp only [Option.bind]
  rw [Int.toNat_natCast,i1]
  by_cases m:e.toNat∈zs.map (·.1)
  · rw [if_pos m,if_pos (i2.mp m)]
  · rw [if_neg m,if_neg fun v=>m (i2.mpr v)]
def cntS (T:Tab) (k:Nat) (S:Nat→Bool) (c:Nat):Nat:=(lets k).countP fun l=>match sgo T c l with
 | some d=>S d.toNat
 | none=>false
theorem hcnt_S (T:Tab) (k:Nat) (b:List Bool) (c:Nat):hcnt T k b c=cntS T k (lv b) c:=rfl
def Cl2 (T:Tab) (k:Nat) (S:Nat→Bool):Prop:=∀ c,S c=true→c≠0→2≤cntS T k S c
theorem cntS_mono {T:Tab}{k:Nat}{S S':Nat→Bool} (h:∀ c,S c=true→S' c=true) (c:Nat):cntS T k S c≤cntS T k S' c:=by
 unfold cntS
 refine List.countP_mono_left fun l _ e=>?_
 cases d:sgo T c l with
 | none=>rw [d] at e;cases e
 | some d'=>rw [d] at e;exact h _ e
theorem keep_step {T:Tab}{k:Nat}{S:Nat→Bool}{b:List Bool}{h:Nat} (cl:Cl2 T k S) (s:∀ c,S c=true→lv b c=true) (h0:h≠0) (c1:hcnt T k b h≤1):∀ c,S c=true→lv (b.set h false) c=true:=by
 intro c hc
 rw [lv_set,s c hc,Bool.true_and]
 by_cases z:c=h
 · subst z
   have h1:=cl c hc h0
   have h2:=cntS_mono (T:=T) (k:=k) s c
   rw [← hcnt_S] at h2
   omega
 · rw [decide_eq_false z];rfl
def Fu (n:Nat) (b:List Bool) (many wt:List Int):Prop:=∀ c,c < n→c≠0→lv b c=true→many.getD c 0≤1→((c:Nat):Int)∈wt
theorem Fu.pop {n:Nat}{b:List Bool}{many wt:List Int}{h:Nat} (f:Fu n b many (wt++[(h:Int)])):Fu n (b.set h false) many wt:=fun c hc c0 hl hm=>by
 rw [lv_set,Bool.and_eq_true_iff] at hl
 rcases List.mem_append.mp (f c hc c0 hl.1 hm) with m | m
 · exact m
 · have e:=List.mem_singleton.mp m
   have e:c=h:=by omega
   have:=hl.2
   rw [decide_eq_true e] at this;cases this
theorem Fu.step {n:Nat}{b:List Bool}{many wt:List Int} (f:Fu n b many wt) {o:Nat} (ol:o < many.length) (no:¬ (lv b o=true∧o≠0∧many.getD o 0 - 1=1)):Fu n b (many.set o (many.getD o 0 - 1)) wt:=fun c hc c0 hl hm=>by
 rw [getD_set ol] at hm
 by_cases z:c=o
 · subst z
   rw [if_pos rfl] at hm
   by_cases e:many.getD c 0 - 1=1
   · exact absurd ⟨hl,c0,e⟩ no
   · exact f c hc c0 hl (by omega)
 · rw [if_neg z] at hm
   exact f c hc c0 hl hm
theorem Fu.more {n:Nat}{b:List Bool}{many wt:List Int} (f:Fu n b many wt) {o:Nat} (ol:o < many.length):Fu n b (many.set o (many.getD o 0 - 1)) (wt++[(o:Int)]):=fun c hc c0 hl hm=>by
 rw [getD_set ol] at hm
 by_cases z:c=o
 · subst z;exact List.mem_append_right _ (List.mem_singleton.mpr rfl)
 · rw [if_neg z] at hm
   exact List.mem_append_left _ (f c hc c0 hl hm)
theorem Fu.done {T:Tab}{k n:Nat}{b:List Bool}{many:List Int} (h:HairI T k n b many []) (f:Fu n b many []):Cl2 T k (lv b):=fun c hc c0=>by
 have cn:c < n:=by
  have:=h.lb
  unfold lv at hc
  rcases Nat.lt_or_ge c n with z | z
  · exact z
  · rw [List.getD,List.getElem?_eq_none (by omega)] at hc;cases hc
 rw [← hcnt_S]
 rcases Nat.lt_or_ge 1 (hcnt T k b c) with z | z
 · exact z
 · have:=f c cn c0 hc (by rw [h.ct c cn hc];omega)
   cases this
theorem core_same {T:Tab}{k:Nat}{S S':Nat→Bool} (cl:Cl2 T k S) (z:S 0=true) (z':S' 0=true) (sub:∀ c,S c=true→S' c=true) (no1:∀ c,S' c=true→c≠0→cntS T k S' c≠1)
  (big:∀ U:Nat→Bool,Cl2 T k U→∀ c,U c=true→c≠0→S c=true) (nb:∀ c l d,S' c=true→S' d.toNat=true→l∈lets k→sgo T c l=some d→∃ l'∈lets k,sgo T d.toNat l'=some (c:Int)) (c:Nat) (hc:S' c=true):S c=true∨cntS T k S' c=0:=by
 by_cases c0:c=0
 · subst c0;exact .inl z
 by_cases e:cntS T k S' c=0
 · exact .inr e
 refine .inl ?_
 refine big (fun x=>S' x && (decide (x=0) || decide (cntS T k S' x≠0))) (fun x hx x0=>?_) c ?_ c0
 · have hx:=Bool.and_eq_true_iff.mp hx
   have h1:=no1 x hx.1 x0
   have hx2:cntS T k S' x≠0:=by
    have:=hx.2
    rw [decide_eq_false x0,Bool.false_or] at this
    exact of_decide_eq_true this
   have:cntS T k S' x≤cntS T k (fun y=>S' y && (decide (y=0) || decide (cntS T k S' y≠0))) x:=by
    refine List.countP_mono_left fun l hl e=>?_
    cases d:sgo T x l with
    | none=>rw [d] at e;cases e
    | some d'=>
     rw [d] at e
     have e:S' d'.toNat=true:=e
     show (S' d'.toNat && (decide (d'.toNat=0) || decide (cntS T k S' d'.toNat≠0)))=true
     rw [e,Bool.true_and]
     obtain ⟨l',hl',e'⟩:=nb x l d' hx.1 e hl d
     have pos:0 < cntS T k S' d'.toNat:=List.countP_pos_iff.mpr ⟨l',hl',by rw [e'];exact hx.1⟩
     rw [decide_eq_true (show cntS T k S' d'.toNat≠0 by omega),Bool.or_true]
   omega
 · show (S' c && (decide (c=0) || decide (cntS T k S' c≠0)))=true
   rw [hc,decide_eq_true (show cntS T k S' c≠0 from e)];simp
def Big (T:Tab) (k n:Nat) (b:List Bool):Prop:=∀ S:Nat→Bool,Cl2 T k S→(∀ c,S c=true→c < n)→∀ c,S c=true→lv b c=true
theorem Big.zero {T:Tab}{k n:Nat}:Big T k n (List.replicate n true):=fun S _ lt c hc=>by rw [lv_all];exact decide_eq_true (lt c hc)
theorem Big.step {T:Tab}{k n:Nat}{b:List Bool}{h:Nat} (B:Big T k n b) (h0:h≠0) (c1:hcnt T k b h≤1):Big T k n (b.set h false):=fun S cl lt=>keep_step cl (B S cl lt) h0 c1
def spWithout17 (C:Addr):Sp:=fun vs H Q _=>∃ (g:Addr) (k n:Nat) (T:Tab) (fp:List Addr),vs=[.ref g]∧ChAt C H g k n T fp∧(∀ c,c < n→c≠0→1≤(bes T k c).length)∧
 ∀ (l:Addr) (b:List Bool) (H':Hp),H l=none→Ints H' l ((leftL n b).map fun (c:Nat)=>(c:Int))→b.length=n→Av T k b→lv b 0=true→Cl2 T k (lv b)→Big T k n b→Same H H'→Q (.ref l) H'
theorem deg_met {k n:Nat}{T:Tab} (ok:TabOk k n T) (n1:1≤n):∀ i,i < (met T k n 0).length→i≠0→1≤(bes (renT T (met T k n 0)) k i).length:=by
 intro i hi i0
 have mi:=met_inv ok (k:=k) (show 0 < n by omega)
 have tr:Tree T k n:=⟨ok,by omega⟩
 generalize eo:met T k n 0=ord at *
 have hm:ord[i]∈met T k n 0:=by rw [eo];exact List.getElem_mem hi
 have h0:ord[0]?=some 0:=by rw [← eo];exact met_head
 obtain ⟨l0,e0⟩:=List.getElem?_eq_some_iff.mp h0
 have ne:ord[i]≠0:=fun z=>i0 ((List.getElem_inj mi.1.nd).mp (z.trans e0.symm))
 have wk:=tr.wk hm
 have ll:=tr.ll hm
 rcases List.eq_nil_or_concat (wy T k n ord[i]) with e | ⟨u,l,e⟩
 · rw [e] at wk
   have:((0:Nat):Int)=((ord[i]:Nat):Int):=Option.some.inj wk
   omega
 · rw [List.concat_eq_append] at e
   rw [e,wgo_snoc] at wk
   have lk:=ll l (by rw [e];exact List.mem_append_right _ (List.mem_singleton.mpr rfl))
   cases d1:wgo T (some ((0:Nat):Int)) u with
   | none=>rw [d1] at wk;cases wk
   | some d=>
    rw [d1] at wk
    have wk:sgo T d.toNat l=some ((ord[i]:Nat):Int):=wk
    have rd:=wgo_lt ok (show (0:Int)≤((0:Nat):Int)∧((0:Nat):Int) < n by omega) d1
    have bk:=sgo_back ok lk.1 (show d.toNat < n by omega) wk
    have lk':Let k (-l):=⟨by have:=lk.1;omega,by have:=lk.2.2;omega,by have:=lk.2.1;omega⟩
    have dm:d.toNat∈ord:=by
     have:=mi.2.2 ord[i] (List.getElem_mem hi) (-l) lk' _ bk
     rwa [Int.toNat_natCast] at this
    have:((ord.idxOf d.toNat:Nat):Int)∈bes (renT T ord) k i:=by
     refine List.mem_filterMap.mpr ⟨-l,lets_mem.mpr lk',?_⟩
     rw [sgo_ren ok mi.1.nd mi.1.lt hi,bk]
     unfold rn
     dsimp only [Option.bind]
     rw [Int.toNat_natCast,if_pos dm]
    exact List.length_pos_of_mem this
structure CoreT (T:Tab) (k n:Nat) (b:List Bool):Prop where
 lb:b.length=(met T k n 0).length
 z:lv b 0=true
 cl:Cl2 (renT T (met T k n 0)) k (lv b)
 big:Big (renT T (met T k n 0)) k (met T k n 0).length b
def preT (T:Tab) (k n:Nat) (b:List Bool):Tab:=renT (renT T (met T k n 0)) (leftL (met T k n 0).length b)
def coreT (T:Tab) (k n:Nat) (b:List Bool):Tab:=renT (preT T k n b) (met (preT T k n b) k (leftL (met T k n 0).length b).length 0)
def spCore17 (C:Addr):Sp:=fun vs H Q _=>∃ (g:Addr) (k n:Nat) (T:Tab) (fp:List Addr),vs=[.ref g]∧ChAt C H g k n T fp∧∀ (x:Addr) (fq:List Addr) (n':Nat) (b:List Bool) (H':Hp),H x=none→(∀ a∈fq,H a=none)→ChAt C H' x k n' (coreT T k n b) fq→CoreT T k n b→Same H H'→Q (.ref x) H'
theorem bfs_fuel {T:Tab}{k:Nat}:∀ (f i:Nat) (O:List Nat),(bfs T k f i O).length≤i+f→∀ g,bfs T k (f+g) i O=bfs T k f i O
 | 0,i,O,h,g=>by
  have h:O.length≤i:=h
  rw [bfs_stop h,bfs_stop h]
 | f+1,i,O,h,g=>by
  by_cases hl:i < O.length
  · rw [show f+1+g=(f+g)+1 by omega,bfs_go hl,bfs_go hl]
    rw [bfs_go hl] at h
    exact bfs_fuel f (i+1) _ (by omega) g
  · rw [bfs_stop (by omega),bfs_stop (by omega)]
theorem leftL_len (n:Nat) (b:List Bool):(leftL n b).length≤n:=by
 have:=List.length_filter_le (lv b) (List.range n)
 rwa [List.length_range] at this
theorem lv_n {b:List Bool}{n c:Nat} (lb:b.length=n) (h:lv b c=true):c < n:=by
 unfold lv at h
 rcases Nat.lt_or_ge c n with z | z
 · exact z
 · rw [List.getD,List.getElem?_eq_none (by omega)] at h;cases h
def CutT (T U:Tab) (b:List Bool):Prop:=∀ c j e,cell U c j=some e↔cell T c j=some e∧lv b c=true∧lv b e.toNat=true
theorem shorn_core {T U:Tab}{k n:Nat}{b b':List Bool} (ok:TabOk k n T) (n1:1≤n) (h:CoreT T k n b) (okU:TabOk k (met T k n 0).length U) (hU:CutT (renT T (met T k n 0)) U b') (lb':b'.length=(met T k n 0).length) (z':lv b' 0=true)
  (sub:∀ c,lv b c=true→lv b' c=true) (no1:∀ c,lv b' c=true→c≠0→cntS (renT T (met T k n 0)) k (lv b') c≠1):renT U (met U k (met T k n 0).length 0)=coreT T k n b:=by
 have mi:=met_inv ok (k:=k) (show 0 < n by omega)
 have ok1:=renT_ok ok mi.1.nd mi.1.lt
 have p1:0 < (met T k n 0).length:=List.length_pos_of_mem mi.2.1
 unfold coreT preT
 obtain ⟨lb,z,cl,big⟩:=h
 generalize renT T (met T k n 0)=T1 at *
 generalize (met T k n 0).length=n1' at *
 have nd:=leftL_nd n1' b
 have okL:=renT_ok ok1 nd leftL_lt
 have memL:∀ {c},c∈leftL n1' b↔lv b c=true:=fun {c}=>⟨fun m=>(List.mem_filter.mp m).2,fun m=>List.mem_filter.mpr ⟨List.mem_range.mpr (lv_n lb m),m⟩⟩
 have nb:∀ c l d,lv b' c=true→lv b' d.toNat=true→l∈lets k→sgo T1 c l=some d→∃ l'∈lets k,sgo T1 d.toNat l'=some (c:Int):=fun c l d hc _ hl e=>by
  have lk:=lets_mem.mp hl
  have rd:=sgo_lt ok1 e
  exact ⟨-l,lets_mem.mpr ⟨by have:=lk.1;omega,by have:=lk.2.2;omega,by have:=lk.2.1;omega⟩,sgo_back ok1 lk.1 (lv_n lb' hc) (show sgo T1 c l=some ((d.toNat:Nat):Int) by rw [e];congr 1;omega)⟩
 have same:=core_same cl z z' sub no1 (fun S hS c hc _=>big (fun x=>S x && decide (x < n1')) (fun x hx x0=>by
   have hx:=Bool.and_eq_true_iff.mp hx
   refine Nat.le_trans (hS x hx.1 x0) (List.countP_mono_left fun l _ e=>?_)
   cases d:sgo T1 x l with
   | none=>rw [d] at e;cases e
   | some d'=>
    rw [d] at e
    have rd:=sgo_lt ok1 d
    show (S d'.toNat && decide (d'.toNat < n1'))=true
    rw [show S d'.toNat=true from e,decide_eq_true (show d'.toNat < n1' by omega)];rfl) (fun x hx=>of_decide_eq_true (Bool.and_eq_true_iff.mp hx).2) c (by
   have:c < n1':=by
    rcases Nat.lt_or_ge c n1' with w | w
    · exact w
    · exfalso
      have h2:=hS c hc (by omega)
      obtain ⟨l,hl,e⟩:=List.countP_pos_iff.mp (show 0 < cntS T1 k S c by omega)
      cases d:sgo T1 c l with
      | none=>rw [d] at e;cases e
      | some d'=>
       unfold sgo at d
       by_cases y:0 < l
       · rw [if_pos y] at d
         have:=cell_lt ok1 d
         omega
       · rw [if_neg y] at d
         obtain ⟨m,_,_,hc⟩:=(pre_iff ok1).mp d
         have:=ok1.rng _ _ _ hc
         omega
   rw [hc,decide_eq_true this];rfl)) nb
 have inb:∀ {c l d},lv b' c=true→lv b' d.toNat=true→l∈lets k→sgo T1 c l=some d→lv b c=true:=fun {c l d} hc hd hl e=>by
  rcases same c hc with w | w
  · exact w
  · have:0 < cntS T1 k (lv b') c:=List.countP_pos_iff.mpr ⟨l,hl,by rw [e];exact hd⟩
    omega
 have jk:∀ {c j e},cell T1 c j=some e→j < k:=fun {c j e} he=>by
  rcases Nat.lt_or_ge j k with w | w
  · exact w
  · have hc:=cell_lt ok1 he
    have rl:(T1.getD c []).length=k:=ok1.row _ (by rw [List.getD,List.getElem?_eq_getElem (by rw [ok1.len];exact hc)];exact List.getElem_mem _)
    have:cell T1 c j=(T1.getD c []).getD j none:=rfl
    rw [this,List.getD,List.getElem?_eq_none (by omega)] at he;cases he
 have pos:∀ {c j e},cell T1 c j=some e→sgo T1 c ((j:Int)+1)=some e∧((j:Int)+1)∈lets k:=fun {c j e} he=>by
  have:=jk he
  refine ⟨?_,lets_mem.mpr ⟨by omega,by omega,by omega⟩⟩
  unfold sgo
  rw [if_pos (by omega),show ((j:Int)+1 - 1).toNat=j by omega];exact he
 have neg:∀ {c j}{e:Nat},cell T1 c j=some (e:Int)→sgo T1 e (-((j:Int)+1))=some (c:Int)∧(-((j:Int)+1))∈lets k:=fun {c j e} he=>by
  have:=jk he
  refine ⟨?_,lets_mem.mpr ⟨by omega,by omega,by omega⟩⟩
  unfold sgo
  rw [if_neg (by omega),show (-(-((j:Int)+1)) - 1).toNat=j by omega]
  exact (pre_iff ok1).mpr ⟨c,rfl,cell_lt ok1 he,he⟩
 have ix:∀ {c},lv b c=true→(leftL n1' b).idxOf c < (leftL n1' b).length:=fun m=>List.idxOf_lt_length_iff.mpr (memL.mpr m)
 have cellL:∀ {c},lv b c=true→∀ j,cell (renT T1 (leftL n1' b)) ((leftL n1' b).idxOf c) j=rn (leftL n1' b) (cell T1 c j):=fun {c} m j=>by
  rw [renT_cell _ j (ix m),List.getElem_idxOf]
 have tr:TR (fun x y=>lv b x=true∧y=(leftL n1' b).idxOf x) k U (renT T1 (leftL n1' b)):=by
  refine ⟨fun h1 h2=>h1.2.trans h2.2.symm,fun {x x' y} h1 h2=>?_,fun {x y} r j e he=>?_,fun {x y} r j e he=>?_,fun {x y} r j d hd=>?_,fun {x y} r j d hd=>?_⟩
  · have e:=h1.2.symm.trans h2.2
    have a1:=List.getElem_idxOf (ix h1.1)
    have a2:=List.getElem_idxOf (ix h2.1)
    rw [← a1, ← a2];simp only [e]
  · obtain ⟨hx,rfl⟩:=r
    obtain ⟨h1,h2,h3⟩:=(hU x j e).mp he
    have re:=ok1.rng _ _ _ h1
    obtain ⟨q1,q2⟩:=neg (show cell T1 x j=some ((e.toNat:Nat):Int) by rw [h1];congr 1;omega)
    have eb:lv b e.toNat=true:=inb h3 (by rw [Int.toNat_natCast];exact h2) q2 q1
    refine ⟨(leftL n1' b).idxOf e.toNat,?_,eb,rfl⟩
    rw [cellL hx,h1]
    unfold rn
    dsimp only [Option.bind]
    rw [if_pos (memL.mpr eb)]
  · obtain ⟨hx,rfl⟩:=r
    rw [cellL hx] at he
    obtain ⟨a,ea,ma,rfl⟩:=rn_some he
    have re:=ok1.rng _ _ _ ea
    have eb:=memL.mp ma
    refine ⟨a.toNat,(hU x j _).mpr ⟨by rw [ea];congr 1;omega,sub x hx,by rw [Int.toNat_natCast];exact sub _ eb⟩,eb,by rw [Int.toNat_natCast]⟩
  · obtain ⟨hx,rfl⟩:=r
    obtain ⟨h1,h2,h3⟩:=(hU d j _).mp hd
    obtain ⟨q1,q2⟩:=pos h1
    have db:lv b d=true:=inb h2 h3 q2 q1
    refine ⟨(leftL n1' b).idxOf d,?_,db,rfl⟩
    rw [cellL db,h1]
    unfold rn
    dsimp only [Option.bind]
    rw [Int.toNat_natCast,if_pos (memL.mpr hx)]
  · obtain ⟨hx,rfl⟩:=r
    have dl:=cell_lt okL hd
    rw [renT_cell d j dl] at hd
    obtain ⟨a,ea,ma,e1⟩:=rn_some hd
    have re:=ok1.rng _ _ _ ea
    have a1:=List.getElem_idxOf (List.idxOf_lt_length_iff.mpr ma)
    have a2:=List.getElem_idxOf (ix hx)
    have ei:(leftL n1' b).idxOf a.toNat=(leftL n1' b).idxOf x:=by omega
    have ax:a.toNat=x:=by rw [← a1, ← a2];simp only [ei]
    have db:=memL.mp (List.getElem_mem dl)
    refine ⟨(leftL n1' b)[d],(hU _ j _).mpr ⟨by rw [ea];congr 1;omega,sub _ db,by rw [Int.toNat_natCast];exact sub x hx⟩,db,(getElem_idx nd dl).symm⟩
 have h0:(leftL n1' b).idxOf 0=0:=by
  have hh:=leftL_head (n:=n1') (b:=b) p1 z
  obtain ⟨l0,e0⟩:=List.getElem?_eq_some_iff.mp hh
  have:=getElem_idx nd l0
  rwa [e0] at this
 have lp:0 < (leftL n1' b).length:=List.length_pos_of_mem (memL.mpr z)
 have iL:=met_inv okL (k:=k) lp
 have iU:=met_inv okU (k:=k) p1
 have fuel:met (renT T1 (leftL n1' b)) k (leftL n1' b).length 0=bfs (renT T1 (leftL n1' b)) k (n1'+1) 0 [0]:=by
  have ll:=leftL_len n1' b
  have:=bfs_fuel (T:=renT T1 (leftL n1' b)) (k:=k) ((leftL n1' b).length+1) 0 [0] (by have:=iL.1.len;unfold met at this;omega) (n1' - (leftL n1' b).length)
  rw [show (leftL n1' b).length+1+(n1' - (leftL n1' b).length)=n1'+1 by omega] at this
  exact this.symm
 refine tr.renT okU okL ?_ iU.1.lt iL.1.lt
 rw [fuel]
 exact tr.bfs okU okL _ _ _ _ ⟨[(0,0)],rfl,rfl,fun w hw=>by rw [List.mem_singleton.mp hw];exact ⟨z,h0.symm⟩⟩
def endsN (T:Tab) (k c:Nat):Nat:=(lets k).countP fun l=>(sgo T c l).isSome
theorem lets_succ (k:Nat):lets (k+1)=lets k++[1+(k:Int), -(1+(k:Int))]:=by
 unfold lets
 rw [List.range_succ,List.flatMap_append];rfl
theorem endsN_succ (T:Tab) (k c:Nat):endsN T (k+1) c=endsN T k c+(if (cell T c k).isSome then 1 else 0)+(if (pre T k c).isSome then 1 else 0):=by
 unfold endsN
 rw [lets_succ,List.countP_append,List.countP_cons,List.countP_cons,List.countP_nil]
 have e1:sgo T c (1+(k:Int))=cell T c k:=by
  unfold sgo
  rw [if_pos (by omega),show (1+(k:Int) - 1).toNat=k by omega]
 have e2:sgo T c (-(1+(k:Int)))=pre T k c:=by
  unfold sgo
  rw [if_neg (by omega),show (-(-(1+(k:Int))) - 1).toNat=k by omega]
 rw [e1,e2];omega
def spEnds:Sp:=fun vs H Q _=>∃ (t:Addr) (as:List Addr) (T:Tab) (k n c:Nat),vs=[.ref t,.int k,.int c]∧Tb H t as T∧TabOk k n T∧n≤1000∧k≤5∧c < n∧Q (.int (endsN T k c:Nat)) H
def cutRow (h c:Nat) (e:Option Int):Option Int:=if c=h∨e=some (h:Int) then none else e
def cutH (U:Tab) (h:Nat):Tab:=U.mapIdx fun c r=>r.map (cutRow h c)
theorem cell_cutH (U:Tab) (h c j:Nat):cell (cutH U h) c j=cutRow h c (cell U c j):=by
 have e:(cutH U h).getD c []=(U.getD c []).map (cutRow h c):=by
  unfold cutH
  rw [List.getD,List.getD,List.getElem?_mapIdx]
  cases U[c]? <;> rfl
 unfold cell
 rw [e]
 generalize U.getD c []=r
 rw [List.getD,List.getD,List.getElem?_map]
 cases r[j]? with
 | none=>
  show (none:Option Int)=cutRow h c none
  unfold cutRow
  split <;> rfl
 | some x=>rfl
theorem cutRow_some {h c:Nat}{o:Option Int}{e:Int}:cutRow h c o=some e↔o=some e∧c≠h∧e≠(h:Int):=by
 unfold cutRow
 by_cases z:c=h∨o=some (h:Int)
 · rw [if_pos z]
   constructor
   · intro w;cases w
   · rintro ⟨rfl,h1,h2⟩
     rcases z with z | z
     · exact absurd z h1
     · exact absurd (Option.some.inj z) h2
 · rw [if_neg z]
   exact ⟨fun w=>⟨w,fun y=>z (.inl y),fun y=>z (.inr (by rw [w,y]))⟩,fun w=>w.1⟩
theorem cutH_ok {k n:Nat}{U:Tab} (ok:TabOk k n U) (h:Nat):TabOk k n (cutH U h) where
 len:=by unfold cutH;rw [List.length_mapIdx];exact ok.len
 row:=fun r hr=>by
  unfold cutH at hr
  obtain ⟨i,hi,rfl⟩:=List.mem_mapIdx.mp hr
  rw [List.length_map]
  exact ok.row _ (List.getElem_mem hi)
 rng:=fun c j e he=>by
  rw [cell_cutH] at he
  exact ok.rng _ _ _ (cutRow_some.mp he).1
 inj:=fun c d j e h1 h2=>by
  rw [cell_cutH] at h1 h2
  exact ok.inj _ _ _ _ (cutRow_some.mp h1).1 (cutRow_some.mp h2).1
theorem CutT.step {k n:Nat}{T U:Tab}{b:List Bool} (okU:TabOk k n U) (hU:CutT T U b) (h:Nat):CutT T (cutH U h) (b.set h false):=by
 intro c j e
 rw [cell_cutH,cutRow_some,lv_set,lv_set,Bool.and_eq_true_iff,Bool.and_eq_true_iff]
 constructor
 · rintro ⟨h1,h2,h3⟩
   have re:=okU.rng _ _ _ h1
   obtain ⟨a1,a2,a3⟩:=(hU c j e).mp h1
   exact ⟨a1,⟨a2,by rw [decide_eq_false h2];rfl⟩,a3,by rw [decide_eq_false (show ¬ e.toNat=h by omega)];rfl⟩
 · rintro ⟨a1,⟨a2,b2⟩,a3,b3⟩
   refine ⟨(hU c j e).mpr ⟨a1,a2,a3⟩,fun z=>?_,fun z=>?_⟩
   · rw [decide_eq_true z] at b2;cases b2
   · rw [decide_eq_true (show e.toNat=h by omega)] at b3;cases b3
theorem ends_cut {k n:Nat}{T U:Tab}{b:List Bool} (ok:TabOk k n T) (okU:TabOk k n U) (hU:CutT T U b) {c:Nat} (hc:lv b c=true):endsN U k c=cntS T k (lv b) c:=by
 unfold endsN cntS
 refine List.countP_congr fun l hl=>?_
 have lk:=lets_mem.mp hl
 unfold sgo
 by_cases z:0 < l
 · rw [if_pos z,if_pos z]
   constructor
   · intro w
     obtain ⟨e,he⟩:=Option.isSome_iff_exists.mp w
     obtain ⟨a1,_,a3⟩:=(hU _ _ _).mp he
     rw [a1];exact a3
   · intro w
     cases e:cell T c (l - 1).toNat with
     | none=>rw [e] at w;cases w
     | some d=>
      rw [e] at w
      rw [(hU _ _ _).mpr ⟨e,hc,w⟩];rfl
 · rw [if_neg z,if_neg z]
   constructor
   · intro w
     obtain ⟨e,he⟩:=Option.isSome_iff_exists.mp w
     obtain ⟨m,rfl,hm,hcell⟩:=(pre_iff okU).mp he
     obtain ⟨a1,a2,a3⟩:=(hU _ _ _).mp hcell
     rw [(pre_iff ok).mpr ⟨m,rfl,hm,a1⟩]
     exact a2
   · intro w
     cases e:pre T (-l - 1).toNat c with
     | none=>rw [e] at w;cases w
     | some d=>
      rw [e] at w
      obtain ⟨m,rfl,hm,hcell⟩:=(pre_iff ok).mp e
      have w:lv b m=true:=w
      rw [(pre_iff okU).mpr ⟨m,rfl,hm,(hU _ _ _).mpr ⟨hcell,w,by rw [Int.toNat_natCast];exact hc⟩⟩];rfl
theorem ends_out {k n:Nat}{T U:Tab}{b:List Bool} (okU:TabOk k n U) (hU:CutT T U b) {c:Nat} (hc:lv b c=false):endsN U k c=0:=by
 unfold endsN
 refine List.countP_eq_zero.mpr fun l hl w=>?_
 obtain ⟨e,he⟩:=Option.isSome_iff_exists.mp w
 unfold sgo at he
 by_cases z:0 < l
 · rw [if_pos z] at he
   have:=((hU _ _ _).mp he).2.1
   rw [hc] at this;cases this
 · rw [if_neg z] at he
   obtain ⟨m,rfl,hm,hcell⟩:=(pre_iff okU).mp he
   have:=((hU _ _ _).mp hcell).2.2
   rw [Int.toNat_natCast,hc] at this;cases this
structure ShI (T:Tab) (k n:Nat) (b:List Bool) (U:Tab) (b':List Bool):Prop where
 okU:TabOk k n U
 cut:CutT T U b'
 lb:b'.length=n
 z:lv b' 0=true
 sub:∀ c,lv b c=true→lv b' c=true
theorem ShI.zero {k n:Nat}{T:Tab} (ok:TabOk k n T) (n1:1≤n) {b:List Bool} (lb:b.length=n):ShI T k n b T (List.replicate n true):=by
 refine ⟨ok,fun c j e=>?_,by simp,by rw [lv_all];exact decide_eq_true (by omega),fun c hc=>by rw [lv_all];exact decide_eq_true (lv_n lb hc)⟩
 constructor
 · intro he
   have re:=ok.rng _ _ _ he
   exact ⟨he,by rw [lv_all];exact decide_eq_true (cell_lt ok he),by rw [lv_all];exact decide_eq_true (by omega)⟩
 · exact fun w=>w.1
theorem ShI.step {k n:Nat}{T U:Tab}{b b':List Bool} (ok:TabOk k n T) (cl:Cl2 T k (lv b)) (I:ShI T k n b U b') {h:Nat} (h0:h≠0) (e:endsN U k h=1):ShI T k n b (cutH U h) (b'.set h false)∧((b'.set h false).map V.bl).countP isT < (b'.map V.bl).countP isT:=by
 have hb:lv b' h=true:=by
  cases w:lv b' h with
  | true=>rfl
  | false=>rw [ends_out I.okU I.cut w] at e;cases e
 have ec:=ends_cut ok I.okU I.cut hb
 rw [e] at ec
 have nb:lv b h=false:=by
  cases w:lv b h with
  | false=>rfl
  | true=>
   have h1:=cl h w h0
   have h2:=cntS_mono (T:=T) (k:=k) I.sub h
   omega
 refine ⟨⟨cutH_ok I.okU h,I.cut.step I.okU h,by rw [List.length_set];exact I.lb,?_,fun c hc=>?_⟩,cnt_set hb⟩
 · rw [lv_set,I.z,decide_eq_false (Ne.symm h0)];rfl
 · rw [lv_set,I.sub c hc,Bool.true_and]
   have:c≠h:=fun w=>by rw [w,nb] at hc;cases hc
   rw [decide_eq_false this];rfl
theorem ShI.done {k n:Nat}{T U:Tab}{b b':List Bool} (ok:TabOk k n T) (n1:1≤n) (h:CoreT T k n b) (I:ShI (renT T (met T k n 0)) k (met T k n 0).length b U b') (no1:∀ c,c < (met T k n 0).length→c≠0→endsN U k c≠1):
  renT U (met U k (met T k n 0).length 0)=coreT T k n b:=by
 have mi:=met_inv ok (k:=k) (show 0 < n by omega)
 have ok1:=renT_ok ok mi.1.nd mi.1.lt
 refine shorn_core ok n1 h I.okU I.cut I.lb I.z I.sub fun c hc c0 w=>?_
 rw [← ends_cut ok1 I.okU I.cut hc] at w
 exact no1 c (lv_n I.lb hc) c0 w
theorem ends_ren {k n:Nat}{T:Tab} (ok:TabOk k n T) {ord:List Nat} (nd:ord.Nodup) (lt:∀ c∈ord,c < n) {i:Nat} (hi:i < ord.length):endsN (renT T ord) k i=cntS T k (fun d=>decide (d∈ord)) ord[i]:=by
 unfold endsN cntS
 refine List.countP_congr fun l _=>?_
 rw [sgo_ren ok nd lt hi]
 cases e:sgo T ord[i] l with
 | none=>exact Iff.rfl
 | some d=>
  unfold rn
  dsimp only [Option.bind]
  by_cases m:d.toNat∈ord
  · rw [if_pos m,decide_eq_true m];exact Iff.rfl
  · rw [if_neg m,decide_eq_false m];exact Iff.rfl
theorem core_ends {T:Tab}{k n:Nat}{b:List Bool} (ok:TabOk k n T) (n1:1≤n) (h:CoreT T k n b) {c:Nat} (hc:c < (met (preT T k n b) k (leftL (met T k n 0).length b).length 0).length) (c0:c≠0):2≤endsN (coreT T k n b) k c:=by
 have mi:=met_inv ok (k:=k) (show 0 < n by omega)
 have ok1:=renT_ok ok mi.1.nd mi.1.lt
 have p1:0 < (met T k n 0).length:=List.length_pos_of_mem mi.2.1
 unfold coreT
 unfold preT at hc ⊢
 obtain ⟨lb,z,cl,big⟩:=h
 generalize renT T (met T k n 0)=T1 at *
 generalize (met T k n 0).length=n1' at *
 have nd:=leftL_nd n1' b
 have hh:=leftL_head (n:=n1') (b:=b) p1 z
 obtain ⟨l0,e0⟩:=List.getElem?_eq_some_iff.mp hh
 have okL:=renT_ok ok1 nd leftL_lt
 have iL:=met_inv okL (k:=k) l0
 have hd:=met_head (T:=renT T1 (leftL n1' b)) (k:=k) (n:=(leftL n1' b).length) (base:=0)
 have step:∀ {x:Nat} (hx:x < (leftL n1' b).length),x≠0→2≤endsN (renT T1 (leftL n1' b)) k x:=fun {x} hx x0=>by
  rw [ends_ren ok1 nd leftL_lt hx]
  have m:=(List.mem_filter.mp (List.getElem_mem hx)).2
  have ne:(leftL n1' b)[x]≠0:=fun w=>x0 ((List.getElem_inj nd).mp (w.trans e0.symm))
  refine Nat.le_trans (cl _ m ne) (cntS_mono (fun d hd'=>decide_eq_true ?_) _)
  exact List.mem_filter.mpr ⟨List.mem_range.mpr (lv_n lb hd'),hd'⟩
 clear e0 hh nd
 generalize renT T1 (leftL n1' b)=P at *
 generalize (leftL n1' b).length=m at *
 generalize eo:met P k m 0=ord at *
 obtain ⟨o0,eo0⟩:=List.getElem?_eq_some_iff.mp hd
 rw [ends_ren okL iL.1.nd iL.1.lt hc]
 have ne:ord[c]≠0:=fun w=>c0 ((List.getElem_inj iL.1.nd).mp (w.trans eo0.symm))
 have h2:=step (iL.1.lt _ (List.getElem_mem hc)) ne
 refine Nat.le_trans h2 ?_
 unfold endsN cntS
 refine List.countP_mono_left fun l hl w=>?_
 obtain ⟨e,he⟩:=Option.isSome_iff_exists.mp w
 rw [he]
 exact decide_eq_true (iL.2.2 _ (List.getElem_mem hc) l (lets_mem.mp hl) e he)
end My
namespace L2
open PySem PySem.Spec PyProof.Rows
def ItrD (hi:Int) (n:Nat):It:=⟨fun i _=>i < n,fun i H x H'=>H'=H∧x=.int (hi - i),fun i _=>n≤i⟩
theorem turn_rangeD {P:Program}{w:World}{K:PySem.W.Frag}{tg:Expr} (it:Addr) (hi:Int) (n:Nat):Turn P w K tg (ItrD hi n) [it] it (fun i h=>IsRangeIter h it (hi+(i:Nat) * (-1)) ((n:Int) - (i:Nat)) (-1)):=by
 refine ⟨by simp,?_,fun i h h' st k=>k it (by simp) _ st,?_,?_,fun _ _ _ _ _ st h=>wpAny_pyIter_rangeiter st h⟩
 · intro i h st b hb
   obtain rfl:b=it:=by simpa using hb
   exact ⟨_,st,fun v z=>by cases (show Data.fields _=Data.cell v from z)⟩
 · intro X hP hw hK hc i pins s σ H E I hf st hg
   subst hP hw hK
   obtain ⟨f0,f1,f2,f3,f4,f5⟩:=hf it (by simp)
   refine (Walks.range (prog:=X.prog) (w:=X.w) (I.ok.hd hc) it hi (-1) n).item i s _ _ hg st fun v h' tk hv st' kk=>?_
   obtain ⟨t,rfl⟩:=hv
   have I1:Inv X pins σ H { s with heap:=h',toks:=tk }:=I.turned (fun b o hb e=>kk b o (by simpa using hb) e) f0 f1 f3 f4 f5
   refine ⟨_,rfl,go_of (s:={ s with heap:=h',toks:=tk }) (n:="range_iterator") st' rfl rfl (by decide) ⟨.int (hi - i),H,I1,⟨t,?_⟩,⟨rfl,rfl⟩,st',fun b hb=>(hf b hb).1⟩⟩
   rw [Int.mul_neg,Int.mul_one, ← Int.sub_eq_add_neg]
 · intro X hP hw hK hc i pins s σ H E I hf st hg
   subst hP hw hK
   obtain ⟨f0,f1,f2,f3,f4,f5⟩:=hf it (by simp)
   exact wpAny_pyNext_range_end (I.ok.hd hc) st (by have:n≤i:=hg;omega) fun h' eb=>⟨rfl,I.turned (t':=s.toks) (fun b o hb e=>eb b o hb e) f0 f1 f3 f4 f5⟩
theorem for_rangeD {hi:Int}{n:Nat}{g:TG}{tb:TS}{D:Ends}{σ:St}{H:Hp} (Pv:Nat→St→Hp→Prop) (h0:Pv 0 σ H)
  (hs:∀ i σ H,i < n→Pv i σ H→g (.int (hi - i)) σ H fun σ2 H2=>tb { D with nx:=Pv (i+1),ct:=Pv (i+1),bk:=D.nx } σ2 H2) (hd:∀ σ H,Pv n σ H→D.nx σ H):
  ∃ W:Nat→Nat→St→Hp→Prop,(∃ m,W 0 m σ H)∧∀ i m σ H,W i m σ H→
   ((ItrD hi n).stop i H∧D.nx σ H)∨((ItrD hi n).go i H∧∃ N:St→Hp→Prop,(∀ σ' H',N σ' H'→∃ m',m' < m∧W (i+1) m' σ' H')∧∀ x H',(ItrD hi n).yld i H x H'→g x σ H' fun σ2 H2=>tb { D with nx:=N,ct:=N,bk:=D.nx } σ2 H2):=by
 refine ⟨fun i m σ H=>m=n - i∧i≤n∧Pv i σ H,⟨n,rfl,Nat.zero_le _,h0⟩,?_⟩
 rintro i m σ H ⟨rfl,hi',p⟩
 by_cases hl:i < n
 · refine .inr ⟨hl,Pv (i+1),fun σ' H' p'=>⟨n - (i+1),by omega,rfl,hl,p'⟩,?_⟩
   rintro x H' ⟨rfl,rfl⟩
   exact hs i σ H' hl p
 · have e:i=n:=by omega
   subst e
   exact .inl ⟨Nat.le_refl _,hd σ H p⟩
section
variable {prog:Program}{w:World}{A:Around}{E:Value→Shared→Prop}{s:Shared}
def revR (lo hi:Int):Obj:={ cls:=.type "range_iterator",data:=.fields #[rawInt (lo+(Builtin.Range.rangeSize lo hi 1 - 1) * 1),rawInt (Builtin.Range.rangeSize lo hi 1),rawInt (-1)] }
theorem call_range_rev {r:Addr}{lo hi:Int}{t u v:Tok}{Q:Value→Shared→Prop} (ho:s.heap.get? r=some { cls:=.type "range",data:=.fields #[.int lo t,.int hi u,.int 1 v] }) (h1: -(2 ^ 62)≤lo) (h2:lo < 2 ^ 62) (h3: -(2 ^ 62)≤hi) (h4:hi < 2 ^ 62)
  (h:Q (.ref s.heap.objs.size) { s with heap:=s.heap.push (revR lo hi) }):wpAny (model prog w) A (call (.builtin "range.__reversed__") [.ref r]) Q E s:=by
 refine wpAny_call_entry F.slot_range_reversed ⟨_,ho,rfl⟩ F.entry_range_reversed ?_ (F.args_range_reversed_1 _)
 unfold Builtin.«range.__reversed__»
 refine wpAny_bind (wpAny_of_eq (a:=Value.ref r) rfl ?_)
 unfold Builtin.Range.rangeFields
 refine wpAny_bind ?_
 refine wpAny_bind (wpAny_field ho rfl (x:=.int lo t) rfl ?_)
 refine wpAny_bind (wpAny_of_eq (a:=some lo) rfl ?_)
 refine wpAny_bind (wpAny_field ho rfl (x:=.int hi u) rfl ?_)
 refine wpAny_bind (wpAny_of_eq (a:=some hi) rfl ?_)
 refine wpAny_bind (wpAny_field ho rfl (x:=.int 1 v) rfl ?_)
 refine wpAny_bind (wpAny_of_eq (a:=some 1) rfl ?_)
 refine wpAny_pure ?_
 dsimp only
 have fit:∀ i:Int, -(2 ^ 63)≤i→i < 2 ^ 63→Builtin.Range.rangeFitsLong i=true:=fun i a b=>by
  unfold Builtin.Range.rangeFitsLong
  rw [decide_eq_true a,decide_eq_true b];rfl
 have hn:0≤Builtin.Range.rangeSize lo hi 1∧Builtin.Range.rangeSize lo hi 1 < 2 ^ 63:=by
  rw [rangeSize_one];split <;> omega
 rw [fit lo (by omega) (by omega),fit hi (by omega) (by omega),fit 1 (by decide) (by decide),fit (-1) (by decide) (by decide),fit (lo - 1) (by omega) (by omega),fit _ (by omega) hn.2]
 show wpAny _ _ (do let x ← newFields "range_iterator" [rawInt (lo+(Builtin.Range.rangeSize lo hi 1 - 1) * 1),rawInt (Builtin.Range.rangeSize lo hi 1),rawInt (-1)];ret x) _ _ _
 exact wpAny_bind (wpAny_newObj_type (wpAny_pure ⟨_,rfl,h⟩))
theorem sub_ri_reversed:isSubtype (.type "range_iterator") (.type "reversed")=pure false:=by rw [isSubtype_type];kernel_rfl
theorem code_reversed_range {r:Addr}{lo hi:Int}{t u v:Tok}{Q₁:Value→Shared→Prop} (ho:s.heap.get? r=some { cls:=.type "range",data:=.fields #[.int lo t,.int hi u,.int 1 v] }) (h1: -(2 ^ 62)≤lo) (h2:lo < 2 ^ 62) (h3: -(2 ^ 62)≤hi) (h4:hi < 2 ^ 62)
  (h:Q₁ (.ref s.heap.objs.size) { s with heap:=s.heap.push (revR lo hi) }):codeAny (model prog w) A (.call (.builtin "reversed.__new__") ⟨[.type "reversed",.ref r],[]⟩) (wants Q₁ E) s:=by
 have ty:s.TypeIs (.ref r) "range":=⟨_,ho,rfl⟩
 refine codeAny_of_tree ?_
 refine wpAny_bind (wpAny_of_eq (F.newCall_reversed_1 _) (wpAny_pure ⟨plainId_quiet F.plain_reversed_new _,codeAny_builtin F.entry_reversed_new ?_⟩))
 rw [Around.under_plainId F.plain_reversed_new _]
 unfold Builtin.«reversed.__new__»
 refine wpAny_bind (wpAny_of_eq (newClass_reversed _) ?_)
 try dsimp only
 refine wpAny_bind (wpAny_of_eq (a:=()) (by first | rfl | kernel_rfl) ?_)
 refine wpAny_bind (wpAny_of_eq (a:=()) (by first | rfl | kernel_rfl) ?_)
 try dsimp only
 refine wpAny_bind (wpAny_specialOf ty F.slot_range_reversed.lookup ?_)
 try dsimp only
 refine wpAny_bind (wpAny_of_eq (F.slot_range_reversed.bind _) ?_)
 try dsimp only
 have nn:¬ ((Value.builtin "range.__reversed__" == Value.none)=true):=Bool.false_ne_true
 rw [if_neg nn]
 refine wpAny_bind (wpAny_rule ?_)
 refine wpAny_bind (m:=runValue (.call (.builtin "range.__reversed__") ⟨[.ref r],[]⟩)) (show wpAny _ _ (call (.builtin "range.__reversed__") [.ref r]) _ _ _ from call_range_rev ho h1 h2 h3 h4 ?_)
 first
 | exact wpAny_pure h
 | exact wpAny_bind (wpAny_pure (wpAny_pure h))
theorem call_reversed_range {r:Addr}{lo hi:Int}{t u v:Tok}{Q:Value→Shared→Prop} (ho:s.heap.get? r=some { cls:=.type "range",data:=.fields #[.int lo t,.int hi u,.int 1 v] }) (h1: -(2 ^ 62)≤lo) (h2:lo < 2 ^ 62) (h3: -(2 ^ 62)≤hi) (h4:hi < 2 ^ 62)
  (h:Q (.ref s.heap.objs.size) { s with heap:=s.heap.push (revR lo hi) }):wpAny (model prog w) A (call (.type "reversed") [.ref r]) Q E s:=by
 refine callType_other (U:="range_iterator") (Q₁:=fun obj s₁=>obj=.ref s.heap.objs.size∧s₁={ s with heap:=s.heap.push (revR lo hi) }) (by decide+kernel) F.create_reversed ⟨_,_,F.mro_reversed⟩ F.made_reversed sub_ri_reversed (F.typeCall_reversed_1 _) (code_reversed_range ho h1 h2 h3 h4 ⟨rfl,rfl⟩) ?_
 rintro obj s₁ ⟨rfl,rfl⟩
 exact ⟨⟨_,Heap.get?_push_size _ rfl,rfl⟩,h⟩
end
section
variable {X:Cx}{tg:Expr}
def iRev (ta:TA):TI:=fun σ H R=>ta σ H fun vs H1=>∃ (r:Addr) (lo hi:Int),vs=[.ref r]∧H1 r=some (.rng lo hi)∧(-(2 ^ 62)≤lo∧lo < 2 ^ 62∧ -(2 ^ 62)≤hi∧hi < 2 ^ 62)∧R (ItrD (lo+((hi - lo).toNat:Nat) - 1) (hi - lo).toNat) H1
theorem pi_rev {l:Expr}{ta:TA}{p pos:Pos} (hg:Gl X "reversed") (hm:X.mg "reversed"=none) (hb:bootBuiltins "reversed"=some (.type "reversed")) (ha:PA X [l] ta) (hs:starEach [l] X.env=[(false,eval l X.env)]:=by rfl):
  PI X tg (.Call (.Name "reversed" p) [l] [] pos) (iRev ta):=by
 intro pins s σ H R I h
 refine Call_ (ld_blt I hg hm hb (PyProof.Rows.callWith_type1 (thn (ha pos pins s σ H _ I h) fun us s1 ⟨vs,H1,I1,r1,q1⟩=>?_) hs rfl))
 obtain ⟨r,lo,hi,e,hr,⟨h1,h2,h3,h4⟩,q⟩:=q1
 subst e
 cases r1 with
 | cons r' rr=>
  cases rr
  cases r'
  obtain ⟨t,u,v,eo⟩:=(show ObjOk X.prog X.w H1 s1.heap r (.rng lo hi) from I1.hok r _ hr)
  refine call_reversed_range eo h1 h2 h3 h4 ?_
  have hn:Builtin.Range.rangeSize lo hi 1=((hi - lo).toNat:Nat):=by rw [rangeSize_one];split <;> omega
  have st:IsRangeIter (s1.heap.push (revR lo hi)) s1.heap.objs.size (lo+((hi - lo).toNat:Nat) - 1+((0:Nat):Int) * (-1)) (((hi - lo).toNat:Int) - ((0:Nat):Int)) (-1):=by
   have e1:lo+((hi - lo).toNat:Nat) - 1+((0:Nat):Int) * (-1)=lo+(Builtin.Range.rangeSize lo hi 1 - 1) * 1:=by rw [hn];omega
   have e2:(((hi - lo).toNat:Int) - ((0:Nat):Int))=Builtin.Range.rangeSize lo hi 1:=by rw [hn];omega
   rw [e1,e2]
   exact Heap.get?_push_size _ rfl
  have I2:Inv X pins σ H1 { s1 with heap:=s1.heap.push (revR lo hi) }:=I1.kept (t':=s1.toks) fun b o e=>Heap.get?_push_of_some _ e
  refine wpAny_pyIter_rangeiter st ?_
  refine ⟨s1.heap.objs.size,[s1.heap.objs.size],_,_,H1,rfl,I2,turn_rangeD _ (lo+((hi - lo).toNat:Nat) - 1) (hi - lo).toNat,st,fun b hb=>?_,q⟩
  have e:b=s1.heap.objs.size:=by simpa using hb
  subst e
  exact I1.fpOk (Nat.le_refl _) (I1.hok.fresh (Nat.le_refl _))
end
end L2
namespace My
open PySem L2
theorem Tb.nt {H:Hp}{t:Addr}{as:List Addr}{T:Tab} (h:Tb H t as T):t∉as:=fun m=>by
 obtain ⟨i,hi,e⟩:=List.getElem_of_mem m
 have hi2:i < T.length:=by rw [← h.len];exact hi
 have r:=h.rw i t (T.getD i []) (by simp [← e,hi]) (by simp [List.getD,hi2])
 have e3:as.map V.ref=(T.getD i []).map oV:=HO.lst.inj (Option.some.inj (h.is.symm.trans r))
 have:V.ref t∈(T.getD i []).map oV:=e3▸List.mem_map_of_mem m
 obtain ⟨o,_,eo⟩:=List.mem_map.mp this
 cases o <;> cases eo
theorem Tb.put {H:Hp}{t a:Addr}{as:List Addr}{T:Tab}{i:Nat}{r:List (Option Int)} (h:Tb H t as T) (hr:Row H a r) (ne:a≠t) (hi:i < as.length):Tb (upd H t (.lst ((as.map V.ref).set i (.ref a)))) t (as.set i a) (T.set i r):=by
 refine ⟨by rw [upd_same,List.map_set],by simp [h.len],fun j b s e1 e2=>?_⟩
 by_cases z:j=i
 · subst z
   rw [List.getElem?_set_self hi] at e1
   rw [List.getElem?_set_self (by rw [← h.len];exact hi)] at e2
   cases e1;cases e2
   show upd _ _ _ _=_
   rw [upd_ne ne];exact hr
 · rw [List.getElem?_set_ne (Ne.symm z)] at e1 e2
   have:b≠t:=fun w=>h.nt (w▸List.mem_of_getElem? e1)
   show upd _ _ _ _=_
   rw [upd_ne this];exact h.rw j b s e1 e2
def midC (U:Tab) (h i:Nat):Tab:=U.mapIdx fun c r=>if c < i then r.map (cutRow h c) else r
theorem midC_len (U:Tab) (h i:Nat):(midC U h i).length=U.length:=by unfold midC;rw [List.length_mapIdx]
theorem midC_zero (U:Tab) (h:Nat):midC U h 0=U:=by
 refine List.ext_getElem? fun j=>?_
 unfold midC
 rw [List.getElem?_mapIdx]
 cases U[j]? <;> simp
theorem midC_all (U:Tab) (h:Nat):midC U h U.length=cutH U h:=by
 refine List.ext_getElem? fun j=>?_
 unfold midC cutH
 rw [List.getElem?_mapIdx,List.getElem?_mapIdx]
 by_cases z:j < U.length
 · rw [List.getElem?_eq_getElem z]
   simp [z]
 · rw [List.getElem?_eq_none (by omega)];rfl
theorem midC_at (U:Tab) (h i:Nat):(midC U h i).getD i []=U.getD i []:=by
 unfold midC
 rw [List.getD,List.getD,List.getElem?_mapIdx]
 cases U[i]? <;> simp
theorem midC_set (U:Tab) (h i:Nat):(midC U h i).set i ((U.getD i []).map (cutRow h i))=midC U h (i+1):=by
 refine List.ext_getElem? fun j=>?_
 by_cases z:j=i
 · subst z
   by_cases l:j < U.length
   · rw [List.getElem?_set_self (by rw [midC_len];exact l)]
     unfold midC
     rw [List.getElem?_mapIdx,List.getD,List.getElem?_eq_getElem l]
     simp
   · rw [List.getElem?_eq_none (by rw [List.length_set,midC_len];omega),List.getElem?_eq_none (by rw [midC_len];omega)]
 · rw [List.getElem?_set_ne (Ne.symm z)]
   unfold midC
   rw [List.getElem?_mapIdx,List.getElem?_mapIdx]
   cases U[j]? with
   | none=>rfl
   | some r=>
    show some _=some _
    refine congrArg some ?_
    show (if j < i then _ else _)=if j < i+1 then _ else _
    by_cases w:j < i
    · rw [if_pos w,if_pos (by omega)]
    · rw [if_neg w,if_neg (by omega)]
def spShorn:Sp:=fun vs H Q _=>∃ (t:Addr) (as:List Addr) (T:Tab) (k n:Nat) (b:List Bool),vs=[.ref t,.int k]∧Tb H t as (renT T (met T k n 0))∧TabOk k n T∧1≤n∧n≤700∧1≤k∧k≤5∧CoreT T k n b∧
 ∀ (u:Addr) (bs:List Addr) (H':Hp),Tb H' u bs (coreT T k n b)→Kp t H H'→Q (.ref u) H'
theorem cell_one (T:Tab) (k c j:Nat):cell (T++[List.replicate k none]) c j=cell T c j:=by
 have e2:∀ i,(List.replicate k (none:Option Int)).getD i none=none:=fun i=>by
  rw [List.getD,List.getElem?_replicate]
  split <;> rfl
 unfold cell
 rcases Nat.lt_or_ge c T.length with z | z
 · have e:(T++[List.replicate k none]).getD c []=T.getD c []:=by unfold List.getD;rw [List.getElem?_append_left z]
   rw [e]
 · have e0:T.getD c []=[]:=by unfold List.getD;rw [List.getElem?_eq_none z];rfl
   rw [e0]
   rcases Nat.lt_or_ge T.length c with w | w
   · have e:(T++[List.replicate k none]).getD c []=[]:=by unfold List.getD;rw [List.getElem?_eq_none (by simp;omega)];rfl
     rw [e]
   · have w:c=T.length:=by omega
     have e:(T++[List.replicate k none]).getD c []=List.replicate k none:=by subst w;unfold List.getD;simp
     rw [e,e2];rfl
theorem TabOk.one {k n:Nat}{T:Tab} (h:TabOk k n T):TabOk k (n+1) (T++[List.replicate k none]):=by
 refine ⟨by simp [h.len],fun r hr=>?_,fun c j e he=>?_,fun c d j e h1 h2=>?_⟩
 · rcases List.mem_append.mp hr with m | m
   · exact h.row r m
   · rw [List.mem_singleton.mp m];simp
 · rw [cell_one] at he
   have:=h.rng c j e he
   omega
 · rw [cell_one] at h1 h2
   exact h.inj c d j e h1 h2
theorem cutV_last (xs:List V) (v:V):cutV (xs++[v]) none (some (-1))=xs:=by
 have e2:HT.sIx (xs++[v]).length (xs++[v]).length (some (-1))=xs.length:=by
  simp only [HT.sIx]
  rw [if_pos (by decide)]
  simp;omega
 unfold cutV
 rw [e2,HT.sIx_none]
 simp
theorem bt_rev:bootBuiltins "reversed"=some (.type "reversed"):=by decide+kernel
theorem cell_put {T:Tab}{c j c' j':Nat}{v:Option Int} (hc:c < T.length) (hj:j < (T.getD c []).length):cell (T.set c ((T.getD c []).set j v)) c' j'=if c'=c∧j'=j then v else cell T c' j':=by
 unfold cell
 by_cases z:c'=c
 · subst z
   rw [show (T.set c' ((T.getD c' []).set j v)).getD c' []=(T.getD c' []).set j v by simp [List.getD,hc]]
   generalize T.getD c' []=r at *
   by_cases w:j'=j
   · subst w
     rw [if_pos ⟨rfl,rfl⟩];simp [List.getD,hj]
   · rw [if_neg (fun x=>w x.2)];simp [List.getD,List.getElem?_set_ne (Ne.symm w)]
 · rw [if_neg (fun x=>z x.1),show (T.set c ((T.getD c []).set j v)).getD c' []=T.getD c' [] by simp [List.getD,List.getElem?_set_ne (Ne.symm z)]]
theorem TabOk.put {k n:Nat}{T:Tab} (h:TabOk k n T) {c j e:Nat} (hc:c < n) (hj:j < k) (he:e < n) (nx:cell T c j=none) (np:∀ d,cell T d j≠some (e:Int)):TabOk k n (T.set c ((T.getD c []).set j (some (e:Int)))):=by
 have hcT:c < T.length:=by rw [h.len];exact hc
 have rl:(T.getD c []).length=k:=h.row _ (by rw [List.getD,List.getElem?_eq_getElem hcT];exact List.getElem_mem _)
 have ce:=fun c' j'=>cell_put (v:=some (e:Int)) (c':=c') (j':=j') hcT (show j < (T.getD c []).length by rw [rl];exact hj)
 refine ⟨by rw [List.length_set];exact h.len,fun r hr=>?_,fun c' j' e' he'=>?_,fun c' d' j' e' h1 h2=>?_⟩
 · rcases List.mem_or_eq_of_mem_set hr with m | m
   · exact h.row r m
   · rw [m,List.length_set];exact rl
 · rw [ce] at he'
   by_cases z:c'=c∧j'=j
   · rw [if_pos z] at he'
     have:=Option.some.inj he'
     omega
   · rw [if_neg z] at he'
     exact h.rng _ _ _ he'
 · rw [ce] at h1 h2
   by_cases z:c'=c∧j'=j
   · by_cases w:d'=c∧j'=j
     · exact z.1.trans w.1.symm
     · rw [if_pos z] at h1
       rw [if_neg w] at h2
       obtain ⟨rfl,rfl⟩:=z
       rw [← Option.some.inj h1] at h2
       exact absurd h2 (np d')
   · rw [if_neg z] at h1
     by_cases w:d'=c∧j'=j
     · rw [if_pos w] at h2
       obtain ⟨rfl,rfl⟩:=w
       rw [← Option.some.inj h2] at h1
       exact absurd h1 (np c')
     · rw [if_neg w] at h2
       exact h.inj _ _ _ _ h1 h2
def spTailed:Sp:=fun vs H Q _=>∃ (t ld:Addr) (as:List Addr) (T:Tab) (k n:Nat) (ds:List Int),vs=[.ref t,.int k,.ref ld]∧Tb H t as T∧TabOk k n T∧1≤k∧k≤5∧1≤n∧n≤16∧Ints H ld ds∧1≤ds.length∧ds.length≤36∧
 ∀ (t':Addr) (as':List Addr) (T':Tab) (n':Nat) (H':Hp),Tb H' t' as' T'→TabOk k n' T'→1≤n'→n'≤60→Same H H'→Q (.ref t') H'
theorem ite_and {c:Prop} [Decidable c] {A B:Prop} (hB:B) (h1:B→c→A):if c then A else B:=by
 by_cases z:c
 · rw [if_pos z];exact h1 hB z
 · rw [if_neg z];exact hB
theorem TabOk.none1 {k:Nat}{T:Tab} (ok:TabOk k 1 T) (h:∀ j,cell T 0 j=none):T=[List.replicate k none]:=by
 have l:=ok.len
 match T,l with
 | [r],_=>
  have rl:=ok.row r (List.mem_singleton.mpr rfl)
  congr 1
  refine List.ext_getElem? fun j=>?_
  rw [List.getElem?_replicate]
  have e:r.getD j none=none:=h j
  by_cases z:j < k
  · rw [if_pos z]
    rw [List.getD,List.getElem?_eq_getElem (by omega)] at e
    rw [List.getElem?_eq_getElem (by omega)]
    exact congrArg some e
  · rw [if_neg z,List.getElem?_eq_none (by omega)]
theorem coreT_one {T:Tab}{k n:Nat}{b:List Bool} (ok:TabOk k n T) (n1:1≤n) (h:CoreT T k n b) (only:∀ c,lv b c=true→c=0) (nl:∀ j,cell T 0 j≠some 0):coreT T k n b=[List.replicate k none]:=by
 have mi:=met_inv ok (k:=k) (show 0 < n by omega)
 have ok1:=renT_ok ok mi.1.nd mi.1.lt
 have p1:0 < (met T k n 0).length:=List.length_pos_of_mem mi.2.1
 have hd:=met_head (T:=T) (k:=k) (n:=n) (base:=0)
 have nl1:∀ j,cell (renT T (met T k n 0)) 0 j≠some 0:=fun j e=>by
  obtain ⟨l0,e0⟩:=List.getElem?_eq_some_iff.mp hd
  rw [renT_cell _ j p1] at e
  obtain ⟨a,ea,ma,e1⟩:=rn_some e
  have ex:(met T k n 0).idxOf a.toNat=0:=by omega
  have a1:=List.getElem_idxOf (List.idxOf_lt_length_iff.mpr ma)
  simp only [ex] at a1
  rw [e0] at a1 ea
  have re:=ok.rng _ _ _ ea
  exact nl j (by rw [ea];congr 1;omega)
 unfold coreT preT
 obtain ⟨lb,z,cl,big⟩:=h
 generalize renT T (met T k n 0)=T1 at *
 generalize (met T k n 0).length=n1' at *
 have nd:=leftL_nd n1' b
 have hh:=leftL_head (n:=n1') (b:=b) p1 z
 obtain ⟨l0,e0⟩:=List.getElem?_eq_some_iff.mp hh
 have okL:=renT_ok ok1 nd leftL_lt
 have m0:∀ c∈leftL n1' b,c=0:=fun c hc=>only c (List.mem_filter.mp hc).2
 have ll:(leftL n1' b).length=1:=by
  rcases Nat.lt_or_ge 1 (leftL n1' b).length with w | w
  · have h1:=m0 _ (List.getElem_mem w)
    rw [← e0] at h1
    have:=(List.getElem_inj nd).mp h1
    omega
  · omega
 have nl2:∀ j,cell (renT T1 (leftL n1' b)) 0 j=none:=fun j=>by
  cases e:cell (renT T1 (leftL n1' b)) 0 j with
  | none=>rfl
  | some x=>
   rw [renT_cell _ j l0] at e
   obtain ⟨a,ea,ma,e1⟩:=rn_some e
   have a0:=m0 _ ma
   rw [e0] at ea
   have re:=ok1.rng _ _ _ ea
   exact absurd (by rw [ea];congr 1;omega) (nl1 j)
 rw [ll] at okL ⊢
 have iL:=met_inv okL (k:=k) (show 0 < 1 by omega)
 have ml:(met (renT T1 (leftL n1' b)) k 1 0).length=1:=by
  have h1:=OInv.len iL.1
  have h2:=List.length_pos_of_mem iL.2.1
  omega
 have okC:=renT_ok okL iL.1.nd iL.1.lt
 rw [ml] at okC
 refine okC.none1 fun j=>?_
 rw [renT_cell _ j (by rw [ml];omega)]
 have hc:∀ x:Nat,x < 1→cell (renT T1 (leftL n1' b)) x j=none:=fun x hx=>by
  have:x=0:=by omega
  subst this;exact nl2 j
 rw [hc _ (iL.1.lt _ (List.getElem_mem _))];rfl
def chainT (k N j i:Nat):Tab:=(List.range N).map fun (c:Nat)=>if c < i then (List.replicate k none).set j (some ((c:Int)+1)) else List.replicate k none
theorem chain_cell {k N j i:Nat} (jk:j < k) (c j':Nat):cell (chainT k N j i) c j'=if c < N∧c < i∧j'=j then some ((c:Int)+1) else none:=by
 have e2:∀ i,(List.replicate k (none:Option Int)).getD i none=none:=fun i=>by
  rw [List.getD,List.getElem?_replicate]
  split <;> rfl
 unfold cell chainT
 by_cases h:c < N
 · have e:((List.range N).map fun (c:Nat)=>if c < i then (List.replicate k (none:Option Int)).set j (some ((c:Int)+1)) else List.replicate k none).getD c []=if c < i then (List.replicate k none).set j (some ((c:Int)+1)) else List.replicate k none:=by simp [List.getD,h]
   rw [e]
   by_cases hi:c < i
   · rw [if_pos hi]
     by_cases z:j'=j
     · subst z
       rw [if_pos ⟨h,hi,rfl⟩];simp [List.getD,jk]
     · rw [if_neg (fun x=>z x.2.2),List.getD,List.getElem?_set_ne (Ne.symm z)]
       exact e2 j'
   · rw [if_neg hi,if_neg (fun x=>hi x.2.1)];exact e2 j'
 · have e:((List.range N).map fun (c:Nat)=>if c < i then (List.replicate k (none:Option Int)).set j (some ((c:Int)+1)) else List.replicate k none).getD c []=[]:=by
     rw [List.getD,List.getElem?_eq_none (by simp;omega)];rfl
   rw [e,if_neg (fun x=>h x.1)];rfl
theorem chain_set {k N j i:Nat} (hi:i < N):(chainT k N j i).set i ((List.replicate k none).set j (some ((i:Int)+1)))=chainT k N j (i+1):=by
 refine List.ext_getElem? fun c=>?_
 unfold chainT
 by_cases z:c=i
 · subst z
   rw [List.getElem?_set_self (by simp;exact hi),List.getElem?_map,List.getElem?_range hi]
   simp
 · rw [List.getElem?_set_ne (Ne.symm z),List.getElem?_map,List.getElem?_map]
   cases e:(List.range N)[c]? with
   | none=>rfl
   | some x=>
    have:x=c:=by
     have:=List.getElem?_eq_some_iff.mp e
     obtain ⟨h,e⟩:=this
     rw [List.getElem_range] at e;exact e.symm
    subst this
    show some _=some _
    refine congrArg some ?_
    show (if x < i then _ else _)=if x < i+1 then _ else _
    by_cases w:x < i
    · rw [if_pos w,if_pos (by omega)]
    · rw [if_neg w,if_neg (by omega)]
theorem chain_zero (k N j:Nat):chainT k N j 0=(List.range N).map fun _=>List.replicate k none:=by
 unfold chainT
 refine List.map_congr_left fun c _=>?_
 rw [if_neg (by omega)]
theorem chain_ok {k N j:Nat} (jk:j < k):TabOk k N (chainT k N j (N - 1)):=by
 refine ⟨by unfold chainT;simp,fun r hr=>?_,fun c j' e he=>?_,fun c d j' e h1 h2=>?_⟩
 · unfold chainT at hr
   obtain ⟨c,_,rfl⟩:=List.mem_map.mp hr
   split <;> simp
 · rw [chain_cell jk] at he
   split at he
   · have:=Option.some.inj he
     omega
   · cases he
 · rw [chain_cell jk] at h1 h2
   split at h1
   · split at h2
     · have a1:=Option.some.inj h1
       have a2:=Option.some.inj h2
       omega
     · cases h2
   · cases h1
theorem lets_nd:∀ k,(lets k).Nodup
 | 0=>by unfold lets;simp
 | k+1=>by
  rw [lets_succ]
  refine List.nodup_append.mpr ⟨lets_nd k,?_,fun a ha b hb e=>?_⟩
  · refine List.nodup_cons.mpr ⟨fun h=>?_,by simp⟩
    have:=List.mem_singleton.mp h
    omega
  · have lk:=lets_mem.mp ha
    have h1:=lk.2.1
    have h2:=lk.2.2
    rcases List.mem_cons.mp hb with z | z
    · omega
    · have:=List.mem_singleton.mp z
      omega
theorem chain_core {k N j:Nat} (jk:j < k) (hN:1≤N) {b:List Bool} (h:CoreT (chainT k N j (N - 1)) k N b):coreT (chainT k N j (N - 1)) k N b=[List.replicate k none]:=by
 have ok:=chain_ok (N:=N) jk
 have hcell:=fun c j'=>chain_cell (k:=k) (N:=N) (j:=j) (i:=N - 1) jk c j'
 refine coreT_one ok hN h ?_ (fun j' e=>?_)
 · have mi:=met_inv ok (k:=k) (show 0 < N by omega)
   have hd:=met_head (T:=chainT k N j (N - 1)) (k:=k) (n:=N) (base:=0)
   obtain ⟨lb,z,cl,big⟩:=h
   generalize chainT k N j (N - 1)=T at *
   generalize eo:met T k N 0=ord at *
   obtain ⟨l0,e0⟩:=List.getElem?_eq_some_iff.mp hd
   have key:∀ m c,lv b c=true→(hc:c < ord.length)→c≠0→N≤ord[c]+m→False:=by
    intro m
    induction m with
    | zero=>
     intro c _ hc _ h1
     have:=mi.1.lt _ (List.getElem_mem hc)
     omega
    | succ m ih=>
     intro c hl hc c0 hm
     have h2:=cl c hl c0
     have one:cntS (renT T ord) k (lv b) c≤1:=by
      have:cntS (renT T ord) k (lv b) c≤(lets k).countP fun l=>decide (l= -((j:Int)+1)):=by
       refine List.countP_mono_left fun l hl' w=>?_
       cases d:sgo (renT T ord) c l with
       | none=>rw [d] at w;cases w
       | some d'=>
        rw [d] at w
        have w:lv b d'.toNat=true:=w
        refine decide_eq_true ?_
        have lk:=lets_mem.mp hl'
        rw [sgo_ren ok mi.1.nd mi.1.lt hc] at d
        obtain ⟨a,ea,ma,e1⟩:=rn_some d
        have dl:d'.toNat < ord.length:=by
         have:=List.idxOf_lt_length_iff.mpr ma
         omega
        have ed:ord[d'.toNat]=a.toNat:=by
         have:=List.getElem_idxOf (List.idxOf_lt_length_iff.mpr ma)
         have e2:ord.idxOf a.toNat=d'.toNat:=by omega
         simp only [e2] at this
         exact this
        unfold sgo at ea
        by_cases p:0 < l
        · rw [if_pos p,hcell] at ea
          split at ea
          · exfalso
            have ea:=Option.some.inj ea
            refine ih d'.toNat w dl (fun y=>?_) (by rw [ed];omega)
            have:ord[d'.toNat]=0:=by simp only [y];exact e0
            omega
          · cases ea
        · rw [if_neg p] at ea
          obtain ⟨x,rfl,hx,hxc⟩:=(pre_iff ok).mp ea
          rw [hcell] at hxc
          split at hxc
          · rename_i y
            have:=lk.1
            omega
          · cases hxc
      refine Nat.le_trans this ?_
      have nd:(lets k).Nodup:=lets_nd k
      have:=List.nodup_iff_count.mp nd (-((j:Int)+1))
      rw [List.count_eq_countP] at this
      refine Nat.le_trans (Nat.le_of_eq ?_) this
      refine List.countP_congr fun l _=>?_
      simp
     omega
   intro c hl
   by_cases c0:c=0
   · exact c0
   · exact (key N c hl (lb▸lv_n rfl hl) c0 (by omega)).elim
 · rw [hcell] at e
   split at e
   · have:=Option.some.inj e
     omega
   · cases e
def top (i:Nat):Stmt:=PySem.Challenge.pw_chalkcave_k17_a_core_has_no_hairs.main.body.getD i (.Pass ⟨0,0,0,0⟩)
abbrev s_cancelled:Stmt:=top 7
abbrev s_Chart___init__:Stmt:=inClass (top 11) 0
abbrev s_Chart_size:Stmt:=inClass (top 11) 1
abbrev s_Chart_table:Stmt:=inClass (top 11) 4
abbrev s_Chart_step:Stmt:=inClass (top 11) 5
abbrev s_Chart_trace:Stmt:=inClass (top 11) 6
abbrev s_Chart_check_chamber:Stmt:=inClass (top 11) 7
abbrev s_check_letters:Stmt:=top 12
abbrev s_check_shape:Stmt:=top 13
abbrev s_beginnings:Stmt:=top 14
abbrev s_numbered:Stmt:=top 16
abbrev s_core:Stmt:=top 17
abbrev s_ways_from:Stmt:=top 18
abbrev s_letters_in_order:Stmt:=top 19
abbrev s_renumbered:Stmt:=top 20
abbrev s_without_hairs:Stmt:=top 21
abbrev s_chambers_beside:Stmt:=top 22
abbrev s__law_numbers:Stmt:=top 24
abbrev s__law_table:Stmt:=top 25
abbrev s__law_led:Stmt:=top 26
abbrev s__law_order:Stmt:=top 27
abbrev s__law_in_order:Stmt:=top 28
abbrev s__law_same_table:Stmt:=top 29
abbrev s__law_back_right:Stmt:=top 30
abbrev s__law_ends:Stmt:=top 31
abbrev s__law_tailed:Stmt:=top 32
abbrev s__law_shorn:Stmt:=top 33
abbrev s_law:Stmt:=top 34
abbrev sNum:Stmt:=s__law_numbers
abbrev sCan:Stmt:=s_cancelled
section
variable {P:Program}{w:World}{K:PySem.W.Frag}{mg:Str→Option Value}{base:Heap}
theorem scNum:FnScope ["_law_script","_law_many","_law_row","_law_seed","_law_cell","_law_rest","_law_k"] ["_law_script","_law_many"] (defScope sNum):=scm
theorem ok_num {f:Addr}{fd:FuncData} (F:Fun K "_law_numbers" "_law_numbers" sNum f fd) (T:Txt K mg):FnOk P w K mg base CX0 1 f fd ["_law_script","_law_many"] (spNumL K):=by
 refine F.ok scNum (fun vs H Q E h=>?_) (fun cdv A outer s H vs Q E hr h=>?_)
 · obtain ⟨a,ns,many,rfl,_⟩:=h
   rfl
 · obtain ⟨a,ns,many,rfl,hS,hn,hm,k⟩:=h
   refine ⟨_,pss_cons (ps_set (i:=2) scNum.nd rfl (Or.inl rfl) (pe_lst pa_nil))
    (pss_cons (ps_set (i:=3) scNum.nd rfl (Or.inl rfl) pe_int)
    (pss_cons (ps_for PassesOwn.never rfl (pi_list (pe_slice sl_list (pv 0) po_none (po_some pe_int))) (pg_name (i:=4) scNum.nd rfl (Or.inl rfl))
     (pss_cons (ps_set (i:=3) scNum.nd rfl (Or.inl rfl) (pe_op op_mod (pe_op op_add (pe_op op_add (pe_op op_mul (pv 3) pe_int) (pe_op op_mod (pv 4) pe_int)) pe_int) pe_int))
     (pss_cons (ps_set (i:=5) scNum.nd rfl (Or.inl rfl) (pe_op op_sub (pv 4) (pe_op op_pow pe_int pe_int)))
     (pss_cons (ps_if (pt_cmpR op_lt (pv 5) pe_int (nomark _))
      (pss_one (ps_expr (pe_bm PySem.F.plainAttrs_list PySem.F.slot_list_append PySem.F.type_list_append mt_append (pv 2) (pa_cons (pe_op op_mod (pv 4) pe_int) pa_nil)))) pss_nil)
     (pss_one (ps_for PassesOwn.never rfl (pi_range1 rfl T.range (pa_cons pe_int pa_nil)) (pg_name (i:=6) scNum.nd rfl (Or.inl rfl))
      (pss_one (ps_if (pt_cmpR op_gt (pv 5) pe_int (nomark _))
       (pss_cons (ps_expr (pe_bm PySem.F.plainAttrs_list PySem.F.slot_list_append PySem.F.type_list_append mt_append (pv 2) (pa_cons (pe_op op_mod (pv 5) pe_int) pa_nil)))
       (pss_one (ps_set (i:=5) scNum.nd rfl (Or.inl rfl) (pe_op op_fdiv (pv 5) pe_int)))) pss_nil))))))))
    (pss_cons (ps_while PassesOwn.never (pt_cmpR op_lt (pe_callB call_len_seq (by rfl) T.len PySem.boot_len (pa_cons (pv 2) pa_nil)) (pv 1) (nomark _))
     (pss_cons (ps_set (i:=3) scNum.nd rfl (Or.inl rfl) (pe_op op_mod (pe_op op_add (pe_op op_add (pe_op op_add (pe_op op_mul (pv 3) (pv 3)) (pe_op op_mul pe_int (pv 3))) (pe_op op_mul pe_int (pe_callB call_len_seq (by rfl) T.len PySem.boot_len (pa_cons (pv 2) pa_nil)))) pe_int) pe_int))
     (pss_one (ps_expr (pe_bm PySem.F.plainAttrs_list PySem.F.slot_list_append PySem.F.type_list_append mt_append (pv 2) (pa_cons (pe_op op_mod (pe_op op_fdiv (pv 3) pe_int) pe_int) pa_nil))))))
    (pss_one (ps_ret (pe_slice sl_list (pv 2) po_none (po_some (pv 1)))))))),?_⟩
   refine ⟨Nat.zero_le _,fun r hr0=>?_⟩
   refine ⟨_,rfl,_,rfl,a,_,rfl,(Same.refl H).upd hr0 |>.seq hS,fun p hp=>?_⟩
   have nrp:r≠p:=ne_of_none (H:=upd H r (.lst [])) (o:=.lst []) upd_same hp
   have hp0:H p=none:=by rw [upd_ne nrp.symm] at hp;exact hp
   rw [cutV_int]
   have hcl:=cutL_len ns none (some 63)
   generalize cutL ns none (some 63)=cs at hcl ⊢
   refine ⟨p,rfl,⟨_,SqL.of upd_same⟩,for_list (K:=K) (a:=p) (xs:=cs.map V.int) (fun i σ H2=>∃ (ms:List Int) (seed:Int) (c x y:Option V),σ=[some (.ref a),some (.int many),some (.ref r),some (.int seed),c,x,y]∧0≤seed∧seed < 2147483647∧
    ms.length≤61 * i∧Ints H2 r ms∧Ints H2 p cs∧Same H H2)
    ⟨[],17,none,none,none,rfl,by decide,by decide,Nat.zero_le _,((Ints.put (ns:=[])).other nrp),.put,((Same.refl H).upd hr0).upd hp0⟩ (fun i σ H2 _ ⟨_,_,_,_,_,_,_,_,_,_,z,_⟩=>SqL.of z) ?_ ?_⟩
   · rintro i y σ H2 hi ⟨ms,seed,c,x,y',rfl,h0,h1,hl,h2,h3,hs⟩
     obtain ⟨z,rfl,hz⟩:=get_int hi
     have hil:i < cs.length:=(List.getElem?_eq_some_iff.mp hz).1
     refine ⟨_,rfl,_,_,rfl,rfl,.inl ⟨by omega,by omega⟩,_,rfl,_,_,rfl,rfl,(by show (0:Int) < 1000003;decide),_,_,rfl,rfl,_,_,rfl,rfl,_,_,rfl,rfl,(by show (0:Int) < 2147483647;decide),?_⟩
     have g0:=Int.emod_nonneg (seed * 48271+z % 1000003+11) (show (2147483647:Int)≠0 by decide)
     have g1:=Int.emod_lt_of_pos (seed * 48271+z % 1000003+11) (show (0:Int) < 2147483647 by decide)
     refine ⟨_,rfl,_,_,rfl,rfl,⟨by decide,by decide,by decide⟩,_,_,rfl,rfl,?_⟩
     rw [pow18]
     refine ⟨_,rfl,_,_,rfl,rfl,_,rfl,?_⟩
     refine ite_key (fun H2=>∃ ms:List Int,ms.length≤61 * i+1∧Ints H2 r ms∧Ints H2 p cs∧Same H H2) ⟨ms,by omega,h2,h3,hs⟩ (fun H2 hP=>?key) (fun key=>?w1)
     case w1=>
      exact ⟨_,rfl,.inl ⟨rfl,_,SqL.of h2⟩,_,rfl,_,_,rfl,rfl,(by show (0:Int) < 1000;decide),r,_,_,rfl,rfl,h2,small4k (by rw [List.length_map];omega),key _ ⟨ms++[z % 1000],by simp;omega,.snoc,h3.other nrp.symm,hs.upd hr0⟩⟩
     case key=>
      obtain ⟨ms,hl,h2,h3,hs⟩:=hP
      refine ⟨_,rfl,by decide,by decide,for_range (lo:=0) (n:=60) (fun j σ H2=>∃ (ms:List Int) (rest:Int) (y:Option V),σ=[some (.ref a),some (.int many),some (.ref r),some (.int ((seed * 48271+z % 1000003+11) % 2147483647)),some (.int z),some (.int rest),y]∧
       ms.length≤61 * i+1+j∧Ints H2 r ms∧Ints H2 p cs∧Same H H2) ⟨ms,_,_,rfl,by omega,h2,h3,hs⟩ ?_ ?_⟩
      · rintro j σ H3 hj ⟨ms,rest,y,rfl,hl,h2,h3,hs⟩
        refine ⟨_,rfl,_,_,rfl,rfl,_,rfl,?_⟩
        refine ite2 (fun _=>?_) (fun _=>?_)
        · skip
          refine ⟨_,rfl,.inl ⟨rfl,_,SqL.of h2⟩,_,rfl,_,_,rfl,rfl,(by show (0:Int) < 1000;decide),r,_,_,rfl,rfl,h2,small4k (by rw [List.length_map];omega),?_⟩
          refine ⟨_,rfl,_,_,rfl,rfl,⟨by decide,by decide⟩,?_⟩
          exact ⟨ms++[rest % 1000],_,_,rfl,by simp;omega,.snoc,h3.other nrp.symm,hs.upd hr0⟩
        · exact ⟨ms,rest,_,rfl,by omega,h2,h3,hs⟩
      · rintro σ H3 ⟨ms,rest,y,rfl,hl,h2,h3,hs⟩
        exact ⟨ms,_,_,_,_,rfl,g0,g1,by omega,h2,h3,hs⟩
   · rintro σ H2 ⟨ms,seed,c,x,y,rfl,h0,h1,hl,h2,h3,hs⟩
     rw [List.length_map] at hl
     refine while_by (fun σ H2=>∃ (ms:List Int) (seed:Int) (c x y:Option V),σ=[some (.ref a),some (.int many),some (.ref r),some (.int seed),c,x,y]∧0≤seed∧seed < 2147483647∧ms.length≤4000∧Ints H2 r ms∧Same H H2)
      (fun σ H2=>match H2 r with | some (.lst xs)=>1000 - xs.length | _=>0) ⟨ms,seed,c,x,y,rfl,h0,h1,by omega,h2,hs⟩ ?_ ?_
     · rintro σ H2 ⟨ms,seed,c,x,y,rfl,h0,h1,hl,h2,hs⟩
       refine ⟨_,rfl,r,_,rfl,.inl (SqL.of h2),_,rfl,_,_,rfl,rfl,_,rfl,?_⟩
       refine ite2 (fun hlt=>?_) (fun hge=>?_)
       · have hlt:=of_decide_eq_true hlt
         rw [List.length_map] at hlt
         refine ⟨_,rfl,_,rfl,_,_,rfl,rfl,.inl ⟨by omega,by omega⟩,_,rfl,_,_,rfl,rfl,.inl ⟨by decide,by decide⟩,_,_,rfl,rfl,_,rfl,r,_,rfl,.inl (SqL.of h2),_,_,rfl,rfl,.inl ⟨by decide,by decide⟩,_,_,rfl,rfl,_,_,rfl,rfl,_,_,rfl,rfl,
          (by show (0:Int) < 2147483629;decide),?_⟩
         have g0:=Int.emod_nonneg (seed * seed+69621 * seed+7 * ((ms.map V.int).length:Int)+5) (show (2147483629:Int)≠0 by decide)
         have g1:=Int.emod_lt_of_pos (seed * seed+69621 * seed+7 * ((ms.map V.int).length:Int)+5) (show (0:Int) < 2147483629 by decide)
         refine ⟨_,rfl,.inl ⟨rfl,_,SqL.of h2⟩,_,rfl,_,_,rfl,rfl,⟨by decide,by decide⟩,_,_,rfl,rfl,(by show (0:Int) < 1000;decide),r,_,_,rfl,rfl,h2,small4k (by rw [List.length_map];omega),?_⟩
         refine ⟨⟨ms++[_],_,_,_,_,rfl,g0,Int.lt_trans g1 (by decide),by simp;omega,.snoc,hs.upd hr0⟩,?_⟩
         show (match upd H2 r _ r with | some (.lst xs)=>1000 - xs.length | _=>0) < (match H2 r with | some (.lst xs)=>1000 - xs.length | _=>0)
         rw [upd_same,h2]
         simp only [List.length_append,List.length_map,List.length_singleton]
         omega
       · have hge:¬ ((ms.map V.int).length:Int) < (many:Int):=fun z=>hge (decide_eq_true z)
         rw [List.length_map] at hge
         refine ⟨_,rfl,_,rfl,_,rfl,r,_,rfl,SqL.of h2,fun q hq=>?_⟩
         rw [cutV_int,cutL_to]
         exact k q (ms.take many) _ (by rw [List.length_take];omega) trivial (hs.free hq) .put (hs.upd' hq)
     · rintro σ H Q Q' hQ ⟨v,e,p,ys,e',q,v',e'',i,j,e3,e4,b,e5,q5⟩
       exact ⟨v,e,p,ys,e',q,v',e'',i,j,e3,e4,b,e5,hQ _ _ q5⟩
theorem sc__law_table:FnScope ["_law_kinds","_law_size","_law_draws","_law_share","_law_table_here","_law_k","_law_left","_law_c","_law_d","_law_end"] ["_law_kinds","_law_size","_law_draws","_law_share"] (defScope s__law_table):=scm
theorem ok_table {f:Addr}{fd:FuncData} (F:Fun K "_law_table" "_law_table" s__law_table f fd) (T:Txt K mg):FnOk P w K mg base CX0 1 f fd ["_law_kinds","_law_size","_law_draws","_law_share"] spTable:=by
 refine F.ok sc__law_table (fun vs H Q E h=>?_) (fun cdv A outer s H vs Q E hr h=>?_)
 · obtain ⟨k,n,ld,ds,sh,rfl,_⟩:=h
   rfl
 · obtain ⟨k,n,ld,ds,sh,rfl,hd,k1,k5,n1,n7,hl,q⟩:=h
   refine ⟨_,(@sC _ _ _ _ _ (ps_compW 4 [] [] sc__law_table.nd (pi_range1 rfl T.range (pa_cons (pv 1) pa_nil)) (fun C s H fp=>pe_lstW pa_nil) hcl_nil)
    (@sC _ _ _ _ _ (ps_for PassesOwn.never rfl (pi_range1 rfl T.range (@aC _ _ _ _ _ (pv 0) pa_nil (by rfl))) (pg_name (i:=5) sc__law_table.nd rfl (Or.inl rfl)) (@sC _ _ _ _ _ (@sS _ 6 _ _ _ _ _ sc__law_table.nd rfl (Or.inl rfl) (pe_callTy (call_listRng rfl) rfl T.list bt_list (pa_cons (pe_rng rfl T.range (@aC _ _ _ _ _ (pv 1) pa_nil (by rfl))) pa_nil)) (by rfl) (.inl rfl))
    (@sO _ _ _ (ps_for PassesOwn.never rfl (pi_range1 rfl T.range (@aC _ _ _ _ _ (pv 1) pa_nil (by rfl))) (pg_name (i:=7) sc__law_table.nd rfl (Or.inl rfl)) (@sC _ _ _ _ _ (@sS _ 8 _ _ _ _ _ sc__law_table.nd rfl (Or.inl rfl) (pe_ix ix_l (pv 2) (pe_op op_add (pe_op op_mul (pv 5) (pv 1)) (pv 7)) (fun _ _=>rfl)) (by rfl) (.inl rfl))
    (@sC _ _ _ _ _ (@sS _ 9 _ _ _ _ _ sc__law_table.nd rfl (Or.inl rfl) (pe_bm PySem.F.plainAttrs_list PySem.F.slot_list_pop PySem.F.type_list_pop mt_popAt (pv 6) (@aC _ _ _ _ _ (pe_op op_mod (pv 8) (pe_callB call_len_seq (by rfl) T.len PySem.boot_len (@aC _ _ _ _ _ (pv 6) pa_nil (by rfl)))) pa_nil (by rfl))) (by rfl) (.inl rfl))
    (@sC _ _ _ _ _ (ps_if (pt_cmpR op_lt (pe_op op_mod (pe_op op_fdiv (pv 8) pe_int) pe_int) (pv 3) (nomark _)) (@sO _ _ _ (@sS _ 9 _ _ _ _ _ sc__law_table.nd rfl (Or.inl rfl) pe_non (by rfl) (.inl rfl))) pss_nil)
    (@sO _ _ _ (ps_expr (pe_bm PySem.F.plainAttrs_list PySem.F.slot_list_append PySem.F.type_list_append mt_append (pe_ix ix_l (pv 4) (pv 7) (fun _ _=>rfl)) (@aC _ _ _ _ _ (pv 9) pa_nil (by rfl))))))))))))
    (@sO _ _ _ (@sR _ _ _ _ (pv 4))))),?_⟩
   refine ⟨_,rfl,_,rfl,by omega,by omega,comp_tab (n:=(n:Int).toNat) (fun _=>[]) (by omega) (fun c hc H2 s2 Q' q'=>rd_lstV (by simp) fun p H3 hp ip s3=>q' p H3 hp ip s3) fun t as H1 N1=>?_⟩
   have T0:TabOk 0 n ((List.range (n:Int).toNat).map fun _=>[]):=by
    have cn:∀ c j,cell ((List.range (n:Int).toNat).map fun _=>[]) c j=none:=fun c j=>by
     unfold cell
     by_cases h:c < n
     · simp [List.getD,h]
     · simp [List.getD,h]
    refine ⟨by simp,fun r hr=>?_,fun c j e he=>?_,fun c d j e he=>?_⟩
    · obtain ⟨_,_,rfl⟩:=List.mem_map.mp hr;rfl
    · rw [cn] at he;cases he
    · rw [cn] at he;cases he
   refine ⟨_,rfl,_,rfl,by omega,by omega,for_range (lo:=0) (n:=(k:Int).toNat) (fun i σ H2=>∃ (T':Tab) (x5 x6 x7 x8 x9:Option V),σ=[some (.int k),some (.int n),some (.ref ld),some (.int sh),some (.ref t),x5,x6,x7,x8,x9]∧NewT H H2 t as T'∧TabOk i n T'∧(sh≤0→∀ r∈T',none∉r))
    ⟨_,none,none,none,none,none,rfl,N1,T0,fun _ r hr=>by obtain ⟨_,_,rfl⟩:=List.mem_map.mp hr;simp⟩ ?_ ?_⟩
   · rintro i σ H2 hi ⟨T',x5,x6,x7,x8,x9,rfl,N2,ok2,fu2⟩
     have hi:i < k:=by omega
     refine ⟨_,rfl,_,rfl,fun r hr0=>rd_range (K:=K) upd_same (by omega) fun lf H3 hlf il s3=>?_⟩
     have s23:Same H2 H3:=((Same.refl H2).upd hr0).trans s3
     have hlf2:H2 lf=none:=by
      have:=hlf
      by_cases z:lf=r
      · rw [z];exact hr0
      · rwa [upd_ne z] at this
     have nlf:lf∉t::as:=N2.not hlf2
     have flf:H lf=none:=N2.sm.free hlf2
     refine ⟨_,rfl,_,rfl,by omega,by omega,for_range (lo:=0) (n:=(n:Int).toNat) (fun c σ H4=>∃ (T4:Tab) (left:List Int) (y7 y8 y9:Option V),σ=[some (.int k),some (.int n),some (.ref ld),some (.int sh),some (.ref t),some (.int (0+i)),some (.ref lf),y7,y8,y9]∧NewT H H4 t as T4∧Ints H4 lf left∧Mid i c n T4 left∧(sh≤0→∀ r∈T4,none∉r))
      ⟨T',lab0 n,_,_,_,rfl,N2.more s23,il,ok2.mid,fu2⟩ ?_ ?_⟩
     · rintro c σ H4 hc ⟨T4,left,y7,y8,y9,rfl,N4,i4,md,fu4⟩
       have hc:c < n:=by omega
       have h4:=N4.sm.ints hd
       have mul:i * n+c < ds.length:=by
        have h5:(i+1) * n≤k * n:=Nat.mul_le_mul_right n hi
        rw [Nat.add_mul] at h5
        omega
       have ll:=md.ll
       have e1:((left.map V.int).length:Int)=((n - c:Nat):Int):=by rw [List.length_map,ll]
       refine ⟨_,rfl,_,rfl,_,rfl,_,_,rfl,rfl,.inl ⟨by omega,by omega⟩,_,rfl,_,_,rfl,rfl,rd_at (i * n+c) h4 mul ?_ (by rw [Int.zero_add,Int.zero_add,Int.natCast_add,Int.natCast_mul])⟩
       generalize ds.getD (i * n+c) 0=d
       have m0:=Int.emod_nonneg d (show ((n - c:Nat):Int)≠0 by omega)
       have m1:=Int.emod_lt_of_pos d (show (0:Int) < ((n - c:Nat):Int) by omega)
       obtain ⟨m,em⟩:∃ m:Nat,d % ((n - c:Nat):Int)=(m:Int):=⟨(d % ((n - c:Nat):Int)).toNat,by omega⟩
       have hm:m < left.length:=by omega
       have ix:ixN (left.map V.int).length (m:Int)=some m:=by
        unfold ixN
        rw [if_pos (by omega),if_pos (by rw [List.length_map];omega)];rfl
       refine ⟨_,rfl,.inl ⟨rfl,_,SqL.of i4⟩,_,rfl,_,rfl,lf,_,rfl,.inl (SqL.of i4),_,_,rfl,rfl,by rw [e1];omega,lf,_,_,m,.int left[m],rfl,rfl,i4,?_,?_,?_,?_,?_⟩
       · rw [e1,em];omega
       · rw [e1,em];have:=(ixN_seq ix).2.2.2;rw [List.length_map] at this;omega
       · rw [e1,em];exact (ixN_seq ix).1
       · simp [hm]
       have il5:Ints (upd H4 lf (.lst ((left.map V.int).eraseIdx m))) lf (left.eraseIdx m):=by
        show upd _ _ _ _=_
        rw [upd_same,map_eraseIdx]
       have N5:NewT H (upd H4 lf (.lst ((left.map V.int).eraseIdx m))) t as T4:=N4.other nlf flf
       generalize upd H4 lf (.lst ((left.map V.int).eraseIdx m))=H5 at il5 N5
       obtain ⟨a,ea,ma,eT,hra⟩:=N5.tb.at (i:=c) (by rw [md.len];exact hc)
       have na:lf≠a:=fun z=>nlf (z▸List.mem_cons_of_mem _ ma)
       have fin:∀ v:Option Int,(v=none∨v=some left[m])→(sh≤0→v≠none)→∀ y8 y9:Option V,∃ (T4':Tab) (left':List Int) (z7 z8 z9:Option V),[some (V.int k),some (V.int n),some (V.ref ld),some (V.int sh),some (V.ref t),some (V.int (0+i)),some (V.ref lf),some (V.int (0+c)),y8,y9]=[some (V.int k),some (V.int n),some (V.ref ld),some (V.int sh),some (V.ref t),some (V.int (0+i)),some (V.ref lf),z7,z8,z9]∧
         NewT H (upd H5 a (.lst ((T4.getD c []).map oV++[oV v]))) t as T4'∧Ints (upd H5 a (.lst ((T4.getD c []).map oV++[oV v]))) lf left'∧Mid i (c+1) n T4' left'∧(sh≤0→∀ r∈T4',none∉r):=fun v hv hv2 y8 y9=>by
        have e:(T4.getD c []).map oV++[oV v]=(T4.getD c []++[v]).map oV:=by rw [List.map_append];rfl
        rw [e]
        refine ⟨_,_,_,_,_,rfl,N5.set ea _,il5.other na,md.step hc hm v hv,fun h r hr=>?_⟩
        rcases List.mem_or_eq_of_mem_set hr with q | q
        · exact fu4 h r q
        · rw [q]
          intro z
          rcases List.mem_append.mp z with z | z
          · exact fu4 h _ (List.mem_of_getElem? eT) z
          · exact hv2 h (List.mem_singleton.mp z).symm
       refine ⟨_,rfl,_,_,rfl,rfl,⟨by decide,by decide⟩,_,_,rfl,rfl,(by show (0:Int) < 10;decide),_,rfl,_,_,rfl,rfl,_,rfl,ite2 (fun hs=>?_) fun hs=>?_⟩
       · refine ⟨_,rfl,_,rfl,rd_row c N5.tb ea ⟨.inl ⟨rfl,_,SqL.of hra⟩,_,rfl,a,_,_,rfl,rfl,hra,small4k ?_,?_⟩ (by omega)⟩
         · have:=md.row c _ eT
           rw [if_neg (by omega)] at this
           rw [List.length_map,this];omega
         · refine fin none (.inl rfl) (fun z=>?_) _ _
           have hs:=of_decide_eq_true hs
           have:=Int.emod_nonneg (d / 100) (show (10:Int)≠0 by decide)
           omega
       · refine ⟨_,rfl,_,rfl,rd_row c N5.tb ea ⟨.inl ⟨rfl,_,SqL.of hra⟩,_,rfl,a,_,_,rfl,rfl,hra,small4k ?_,?_⟩ (by omega)⟩
         · have:=md.row c _ eT
           rw [if_neg (by omega)] at this
           rw [List.length_map,this];omega
         · exact fin (some left[m]) (.inr rfl) (fun _ z=>nomatch z) _ _
     · rintro σ H4 ⟨T4,left,y7,y8,y9,rfl,N4,i4,md,fu4⟩
       rw [Int.toNat_natCast] at md
       exact ⟨_,_,_,_,_,_,rfl,N4,md.done,fu4⟩
   · rintro σ H2 ⟨T',x5,x6,x7,x8,x9,rfl,N2,ok2,fu2⟩
     rw [Int.toNat_natCast] at ok2
     exact ⟨_,rfl,q t as T' H2 N2.ft N2.fa N2.nd N2.tb ok2 fu2 N2.sm⟩
theorem sc__law_led:FnScope ["_law_table_here","_law_here","_law_one","_law_c"] ["_law_table_here","_law_here","_law_one"] (defScope s__law_led):=scm
theorem ok_led {f:Addr}{fd:FuncData} (F:Fun K "_law_led" "_law_led" s__law_led f fd) (T:Txt K mg):FnOk P w K mg base CX0 1 f fd ["_law_table_here","_law_here","_law_one"] spLed:=by
 refine F.ok sc__law_led (fun vs H Q E h=>?_) (fun cdv A outer s H vs Q E hr h=>?_)
 · obtain ⟨t,as,T',k,n,c,l,rfl,_⟩:=h
   rfl
 · obtain ⟨t,as,T',k,n,c,l,rfl,ht,ok,hn,hcn,⟨l0,l1,l2⟩,q⟩:=h
   refine ⟨_,(@sC _ _ _ _ _ (ps_if (pt_cmpR op_gt (pv 2) pe_int (nomark _)) (@sO _ _ _ (@sR _ _ _ _ (pe_ix ix_l (pe_ix ix_l (pv 0) (pv 1) (fun _ _=>rfl)) (pe_op op_sub (pv 2) pe_int) (fun _ _=>rfl)))) pss_nil)
    (@sC _ _ _ _ _ (ps_for PassesOwn.never rfl (pi_range1 rfl T.range (@aC _ _ _ _ _ (pe_callB call_len_seq (by rfl) T.len PySem.boot_len (@aC _ _ _ _ _ (pv 0) pa_nil (by rfl))) pa_nil (by rfl))) (pg_name (i:=3) sc__law_led.nd rfl (Or.inl rfl)) (@sO _ _ _ (ps_if (pt_cmpR op_eq (pe_ix ix_l (pe_ix ix_l (pv 0) (pv 3) (fun _ _=>rfl)) (pe_op op_sub (pe_un un_neg (pv 2)) pe_int) (fun _ _=>rfl)) (pv 1) (nomark _)) (@sO _ _ _ (@sR _ _ _ _ (pv 3))) pss_nil)))
    (@sO _ _ _ (@sR _ _ _ _ pe_non)))),?_⟩
   have rl:∀ {i:Nat}{a:Addr},as[i]?=some a→i < n∧Row H a (T'.getD i [])∧(T'.getD i []).length=k:=fun {i a} ea=>by
    have hi':i < T'.length:=by rw [← ht.len];exact (List.getElem?_eq_some_iff.mp ea).1
    obtain ⟨a',e1,_,e2,hr2⟩:=ht.at hi'
    rw [ea] at e1;cases e1
    exact ⟨by rw [← ok.len];exact hi',hr2,ok.row _ (List.mem_of_getElem? e2)⟩
   refine ⟨_,rfl,_,_,rfl,rfl,_,rfl,ite2 (fun hp=>?_) fun hp=>?_⟩
   · have hp:0 < l:=of_decide_eq_true hp
     obtain ⟨a,ea,_⟩:=ht.at (i:=c) (by rw [ok.len];exact hcn)
     obtain ⟨_,hra,hlen⟩:=rl ea
     refine ⟨_,rfl,_,rfl,rd_row c ht ea ⟨_,rfl,_,_,rfl,rfl,rd_cell (l - 1).toNat hra (by omega) ?_ (by omega)⟩⟩
     unfold sgo at q
     rw [if_pos hp] at q
     exact q
   · have hp:¬ 0 < l:=fun z=>hp (decide_eq_true z)
     unfold sgo at q
     rw [if_neg hp] at q
     have e1:((as.map V.ref).length:Int)=n:=by rw [List.length_map,ht.len,ok.len]
     refine ⟨_,rfl,t,_,rfl,.inl (SqL.of ht.is),_,rfl,by omega,by omega,for_range (lo:=0) (n:=((as.map V.ref).length:Int).toNat) (fun i σ H2=>(∃ x,σ=[some (.ref t),some (.int c),some (.int l),x])∧H2=H∧∀ d:Nat,d < i→cell T' d (-l - 1).toNat≠some (c:Int)) ⟨⟨none,rfl⟩,rfl,fun d hd=>by omega⟩ ?_ ?_⟩
     · rintro i σ H2 hi ⟨⟨x,rfl⟩,rfl,no⟩
       have hi:i < n:=by rw [e1] at hi;omega
       obtain ⟨a,ea,_⟩:=ht.at (i:=i) (by rw [ok.len];exact hi)
       obtain ⟨_,hra,hlen⟩:=rl ea
       refine ⟨_,rfl,_,rfl,rd_row i ht ea ⟨_,rfl,_,rfl,_,_,rfl,rfl,rd_cell (-l - 1).toNat hra (by omega) ⟨_,rfl,?_⟩ (by omega)⟩ (by omega)⟩
       have ce:(T'.getD i []).getD (-l - 1).toNat none=cell T' i (-l - 1).toNat:=rfl
       rw [ce]
       cases ec:cell T' i (-l - 1).toNat with
       | none=>exact ⟨rfl,_,rfl,iteF ⟨⟨_,rfl⟩,rfl,fun d hd=>by
         by_cases z:d=i
         · rw [z,ec];simp
         · exact no d (by omega)⟩⟩
       | some e=>
        refine ⟨rfl,_,rfl,ite2 (fun he=>?_) fun he=>?_⟩
        · have he:e=c:=by simpa [oV] using he
          subst he
          have:=(pre_iff ok).mpr ⟨i,rfl,hi,ec⟩
          rw [this] at q
          refine ⟨_,rfl,?_⟩
          show Q (V.int (0+(i:Int))) H2
          rw [Int.zero_add];exact q
        · have he:e≠c:=by simpa [oV] using he
          exact ⟨⟨_,rfl⟩,rfl,fun d hd=>by
           by_cases z:d=i
           · rw [z,ec];simpa using he
           · exact no d (by omega)⟩
     · rintro σ H2 ⟨⟨x,rfl⟩,rfl,no⟩
       rw [e1,Int.toNat_natCast] at no
       have:pre T' (-l - 1).toNat c=none:=by
        cases e:pre T' (-l - 1).toNat c with
        | none=>rfl
        | some d=>
         obtain ⟨m,_,hm,e2⟩:=(pre_iff ok).mp e
         exact absurd e2 (no m hm)
       rw [this] at q
       exact q
theorem sc__law_order:FnScope ["_law_table_here","_law_kinds","_law_base","_law_order_here","_law_k","_law_n","_law_end"] ["_law_table_here","_law_kinds","_law_base"] (defScope s__law_order):=scm
theorem ok_order {f:Addr}{fd:FuncData} (F:Fun K "_law_order" "_law_order" s__law_order f fd) (T:Txt K mg) (LD:Rdy P w K mg base "_law_led" ["_law_table_here","_law_here","_law_one"] 1 spLed):FnOk P w K mg base CX0 2 f fd ["_law_table_here","_law_kinds","_law_base"] spOrder:=by
 refine F.ok sc__law_order (fun vs H Q E h=>?_) (fun cdv A outer s H vs Q E hr h=>?_)
 · obtain ⟨t,as,T',k,n,b,rfl,_⟩:=h
   rfl
 · obtain ⟨t,as,T',k,n,b,rfl,ht,ok,k1,k5,hn,hb,q⟩:=h
   refine ⟨_,(@sC _ _ _ _ _ (@sS _ 3 _ _ _ _ _ sc__law_order.nd rfl (Or.inl rfl) (@eL _ _ _ _ (@aC _ _ _ _ _ (pv 2) pa_nil (by rfl))) (by rfl) (.inl rfl))
    (@sC _ _ _ _ _ (@sS _ 4 _ _ _ _ _ sc__law_order.nd rfl (Or.inl rfl) pe_int (by rfl) (.inl rfl))
    (@sC _ _ _ _ _ (ps_while PassesOwn.never (pt_cmpR op_lt (pv 4) (pe_callB call_len_seq (by rfl) T.len PySem.boot_len (@aC _ _ _ _ _ (pv 3) pa_nil (by rfl))) (nomark _)) (@sC _ _ _ _ _ (ps_for PassesOwn.never rfl (pi_range1 rfl T.range (@aC _ _ _ _ _ (pe_op op_mul pe_int (pv 1)) pa_nil (by rfl))) (pg_name (i:=5) sc__law_order.nd rfl (Or.inl rfl)) (@sC _ _ _ _ _ (@sS _ 6 _ _ _ _ _ sc__law_order.nd rfl (Or.inl rfl) (LD.pe hr (@aC _ _ _ _ _ (pv 0) (@aC _ _ _ _ _ (pe_ix ix_l (pv 3) (pv 4) (fun _ _=>rfl)) (@aC _ _ _ _ _ (pe_op op_mul (pe_op op_add (pe_op op_fdiv (pv 5) pe_int) pe_int) (pe_op op_sub pe_int (pe_op op_mul pe_int (pe_op op_mod (pv 5) pe_int)))) pa_nil (by rfl)) (by rfl)) (by rfl))) (by rfl) (.inl rfl))
    (@sO _ _ _ (ps_if (PW.pt (pw_and (pt_cmpR op_notN (pv 6) pe_non (nomark _)) (pw_and1 (pt_cmpR op_notIn_seq (pv 6) (pv 3) rfl)))) (@sO _ _ _ (ps_expr (pe_bm PySem.F.plainAttrs_list PySem.F.slot_list_append PySem.F.type_list_append mt_append (pv 3) (@aC _ _ _ _ _ (pv 6) pa_nil (by rfl))))) pss_nil))))
    (@sO _ _ _ (ps_aug (i:=4) sc__law_order.nd rfl (Or.inl rfl) pe_int ip_add))))
    (@sO _ _ _ (@sR _ _ _ _ (pv 3)))))),?_⟩
   refine ⟨_,rfl,rd_lst [(b:Int)] fun lo H1 hlo ilo s1=>?_⟩
   refine while_by (fun σ H4=>∃ (O:List Nat) (i:Nat) (x5 x6:Option V),σ=[some (.ref t),some (.int k),some (.int b),some (.ref lo),some (.int i),x5,x6]∧Ints H4 lo (O.map fun (c:Nat)=>(c:Int))∧Same H H4∧OInv n O∧i≤O.length∧bfs T' k (n+1 - i) i O=met T' k n b)
    (fun σ H4=>match σ with | [_,_,_,_,some (.int i),_,_]=>n+1 - i.toNat | _=>0) ⟨[b],0,none,none,rfl,ilo,s1,⟨by simp,fun c hc=>by rw [List.mem_singleton.mp hc];exact hb⟩,Nat.zero_le _,rfl⟩ ?_ ?_
   · rintro σ H4 ⟨O,i,x5,x6,rfl,io,s4,oi,hi,eb⟩
     have ol:=oi.len
     have el:(((O.map fun (c:Nat)=>(c:Int)).map V.int).length:Int)=O.length:=by simp
     refine ⟨_,rfl,_,rfl,lo,_,rfl,.inl (SqL.of io),_,_,rfl,rfl,_,rfl,?_⟩
     rw [el]
     refine ite2 (fun hlt=>?_) fun hge=>?_
     · have hlt:(i:Int) < O.length:=of_decide_eq_true hlt
       have hlt:i < O.length:=by omega
       have eO:O[i]?=some O[i]:=by simp [hlt]
       have mO:O[i]∈O:=List.getElem_mem hlt
       generalize O[i]=c at eO mO
       have ek:O.getD i 0=c:=by rw [List.getD,eO];rfl
       refine ⟨_,rfl,_,_,rfl,rfl,.inl ⟨by omega,by omega⟩,_,rfl,by omega,by omega,for_range (lo:=0) (n:=(2 * (k:Int)).toNat) (fun j σ H6=>∃ (O6:List Nat) (y5 y6:Option V) (r:List Nat),σ=[some (.ref t),some (.int k),some (.int b),some (.ref lo),some (.int i),y5,y6]∧Ints H6 lo (O6.map fun (c:Nat)=>(c:Int))∧Same H H6∧OInv n O6∧O6=O++r∧O6=((lets k).take j).foldl (vis T' c) O)
        ⟨O,_,_,[],rfl,io,s4,oi,by simp,rfl⟩ ?_ ?_⟩
       · rintro j σ H6 hj ⟨O6,y5,y6,r,rfl,io6,s6,oi6,eO6,ef⟩
         have hj:j < 2 * k:=by omega
         have ol6:=oi6.len
         have lat:=lets_at hj
         generalize hl0:((j:Int) / 2+1) * (1 - 2 * ((j:Int) % 2))=l at lat
         have hl:Let k l:=lets_mem.mp (List.mem_of_getElem? lat)
         have mc:c < n:=oi.lt c mO
         have e6:(O6.map fun (c:Nat)=>(c:Int)).getD i 0=(c:Int):=by
          have:O6[i]?=some c:=by rw [eO6,List.getElem?_append_left hlt];exact eO
          rw [List.getD,List.getElem?_map,this];rfl
         have es:((lets k).take (j+1)).foldl (vis T' c) O=vis T' c O6 l:=by rw [take_fold' lat, ← ef]
         have m0:=Int.emod_nonneg (j:Int) (show (2:Int)≠0 by decide)
         have m1:=Int.emod_lt_of_pos (j:Int) (show (0:Int) < 2 by decide)
         refine ⟨_,rfl,_,rfl,_,rfl,rd_at i io6 (by rw [List.length_map,eO6,List.length_append];omega) ?_⟩
         rw [e6]
         refine ⟨_,rfl,_,_,rfl,rfl,⟨by show (0:Int) < 2;decide,by show (2:Int) < 1073741824;decide⟩,_,_,rfl,rfl,_,rfl,_,_,rfl,rfl,(by show (0:Int) < 2;decide),_,_,rfl,rfl,.inl ⟨by decide,by decide⟩,_,_,rfl,rfl,_,_,rfl,rfl,.inl ⟨by omega,by omega⟩,?_⟩
         have el0:((0+(j:Int)) / 2+1) * (1 - 2 * ((0+(j:Int)) % 2))=l:=by rw [Int.zero_add];exact hl0
         refine ⟨t,as,T',k,n,c,l,?_,ht.same s6,ok,hn,mc,hl,?_⟩
         · show [V.ref t,V.int c,V.int (((0+(j:Int)) / 2+1) * (1 - 2 * ((0+(j:Int)) % 2)))]++[]=_
           rw [el0];rfl
         refine ⟨_,rfl,rfl,_,rfl,?_⟩
         cases e:sgo T' c l with
         | none=>
          refine iteF ⟨O6,_,_,r,rfl,io6,s6,oi6,eO6,?_⟩
          rw [es];unfold vis;rw [e]
         | some dd=>
          obtain ⟨z0,z1⟩:=sgo_lt ok e
          obtain ⟨x,rfl⟩:∃ c:Nat,dd=(c:Int):=⟨dd.toNat,by omega⟩
          have ev:vis T' c O6 l=if x∈O6 then O6 else O6++[x]:=by unfold vis;rw [e];rfl
          refine iteT ⟨_,rfl,_,rfl,lo,_,rfl,.inl (SqL.of io6),rfl,flat_ints _,_,rfl,?_⟩
          rw [if_pos rfl]
          show if (!inV (V.int (x:Int)) ((O6.map fun (c:Nat)=>(c:Int)).map V.int))=true then _ else _
          rw [inV_nat]
          by_cases hin:x∈O6
          · rw [decide_eq_true hin]
            refine iteF ⟨O6,_,_,r,rfl,io6,s6,oi6,eO6,?_⟩
            rw [es,ev,if_pos hin]
          · rw [decide_eq_false hin]
            refine iteT ⟨_,rfl,.inl ⟨rfl,_,SqL.of io6⟩,_,rfl,lo,_,_,rfl,rfl,io6,small4k (by simp;omega),?_⟩
            have oi7:=oi6.vis ok (c:=c) (l:=l)
            rw [ev,if_neg hin] at oi7
            refine ⟨O6++[x],_,_,r++[x],rfl,?_,s6.upd hlo,oi7,by rw [eO6,List.append_assoc],by rw [es,ev,if_neg hin]⟩
            show upd _ lo _ lo=_
            rw [upd_same,List.map_append,List.map_append];rfl
       · rintro σ H6 ⟨O6,y5,y6,r,rfl,io6,s6,oi6,eO6,ef⟩
         rw [show (2 * (k:Int)).toNat=(lets k).length by rw [lets_len];omega,List.take_length] at ef
         refine ⟨_,rfl,_,_,rfl,rfl,⟨O6,i+1,_,_,rfl,io6,s6,oi6,by rw [eO6,List.length_append];omega,?_⟩,?_⟩
         · have e1:n+1 - i=(n+1 - (i+1))+1:=by omega
           rw [e1,bfs_go hlt] at eb
           unfold rowO at eb
           rw [ek] at eb
           rw [ef];exact eb
         · show n+1 - ((i:Int)+1).toNat < n+1 - (i:Int).toNat
           omega
     · have hge:¬ (i:Int) < O.length:=fun z=>hge (decide_eq_true z)
       rw [bfs_stop (by omega)] at eb
       exact ⟨_,rfl,q lo H4 hlo (by rw [← eb];exact io) s4⟩
   · rintro σ H Q Q' hQ ⟨v,e,v',e',p,ys,e'',q,i,j,e3,e4,b,e5,q5⟩
     exact ⟨v,e,v',e',p,ys,e'',q,i,j,e3,e4,b,e5,hQ _ _ q5⟩
theorem scCan:FnScope ["way","left","letter"] ["way"] (defScope sCan):=scm
theorem ok_can {f:Addr}{fd:FuncData} (F:Fun K "cancelled" "cancelled" sCan f fd):FnOk P w K mg base CX0 1 f fd ["way"] (spCan K):=by
 refine F.ok scCan (fun vs H Q E h=>?_) (fun cdv A outer s H vs Q E hr h=>?_)
 · obtain ⟨a,ns,rfl,_⟩:=h
   rfl
 · obtain ⟨a,ns,rfl,hS,hn,k⟩:=h
   refine ⟨_,pss_cons (ps_set (i:=1) scCan.nd rfl (Or.inl rfl) (pe_lst pa_nil))
    (pss_cons (ps_for PassesOwn.never rfl (pi_list (pv 0)) (pg_name (i:=2) scCan.nd rfl (Or.inl rfl))
     (pss_one (ps_if (PW.pt (pw_and (pt_truth (pv 1) (fun _=>rfl)) (pw_and1 (pt_cmpR op_eq (pe_ix ix_list (pv 1) (pe_un un_neg pe_int) (fun _ _=>rfl)) (pe_un un_neg (pv 2)) (nomark _)))))
      (pss_one (ps_expr (pe_bm0 PySem.F.plainAttrs_list PySem.F.slot_list_pop PySem.F.type_list_pop mt_pop (pv 1))))
      (pss_one (ps_expr (pe_bm PySem.F.plainAttrs_list PySem.F.slot_list_append PySem.F.type_list_append mt_append (pv 1) (pa_cons (pv 2) pa_nil)))))))
    (pss_one (ps_ret (pv 1)))),?_⟩
   refine ⟨Nat.zero_le _,fun r hr0=>?_⟩
   have s0:Same H (upd H r (.lst [])):=(Same.refl H).upd hr0
   refine ⟨_,rfl,a,rfl,⟨_,s0.seq hS⟩,for_list (K:=K) (a:=a) (xs:=ns.map V.int) (fun i σ H2=>∃ (st:List Int) (c:Option V),σ=[some (.ref a),some (.ref r),c]∧st=(ns.take i).foldl push []∧Ints H2 r st.reverse∧Same H H2)
    ⟨[],none,rfl,by simp,Ints.put (ns:=[]),s0⟩ (fun i σ H2 _ ⟨_,_,_,_,_,s2⟩=>s2.seq hS) ?_ ?_⟩
   · rintro i y σ H2 hi ⟨st,c,rfl,est,h2,s2⟩
     obtain ⟨z,rfl,hz⟩:=get_int hi
     have hil:i < ns.length:=(List.getElem?_eq_some_iff.mp hz).1
     have hl:=fold_len (ns.take i) []
     rw [← est,List.length_take] at hl
     simp only [List.length_nil] at hl
     have e1:=take_fold hz
     rw [← est] at e1
     refine ⟨_,rfl,_,.inl ⟨_,SqL.of h2,rfl⟩,?_⟩
     cases st with
     | nil=>
      refine iteF ?_
      refine iteF ?_
      refine ⟨_,rfl,.inl ⟨rfl,_,SqL.of h2⟩,_,rfl,r,_,_,rfl,rfl,h2,small4k (by simp),?_⟩
      exact ⟨[z],_,rfl,e1.symm,.snoc,s2.upd hr0⟩
     | cons t q=>
      have ne:(!(List.map V.int (t::q).reverse).isEmpty)=true:=by simp
      rw [ne]
      refine iteT ?_
      refine ⟨_,rfl,_,rfl,r,_,_,_,rfl,rfl,SqL.of h2,(by rw [List.reverse_cons,List.map_append];exact atI_last _ _),_,rfl,_,rfl,rfl,_,rfl,?_⟩
      refine ite2 (fun hc=>?_) (fun hc=>?_)
      · have hc:t= -z:=by simpa using hc
        refine ⟨_,rfl,.inl ⟨rfl,_,SqL.of h2⟩,r,_,V.int t,rfl,rfl,h2,(by simp),?_⟩
        refine ⟨q,_,rfl,by rw [e1];simp [push,hc],?_,s2.upd hr0⟩
        show upd H2 r _ r=_
        rw [upd_same,List.reverse_cons,List.map_append]
        simp
      · have hc:¬ t= -z:=by simpa using hc
        refine ⟨_,rfl,.inl ⟨rfl,_,SqL.of h2⟩,_,rfl,r,_,_,rfl,rfl,h2,small4k (by simp at hl ⊢;omega),?_⟩
        refine ⟨z::t::q,_,rfl,by rw [e1];simp [push,hc],?_,s2.upd hr0⟩
        rw [List.reverse_cons (a:=z)]
        exact .snoc
   · rintro σ H2 ⟨st,c,rfl,est,h2,s2⟩
     refine ⟨_,rfl,k r H2 hr0 ?_ s2⟩
     rw [List.length_map,List.take_of_length_le (Nat.le_refl _)] at est
     rw [est] at h2
     exact h2
theorem sc_check_shape:FnScope ["kinds","table","row"] ["kinds","table"] (defScope s_check_shape):=scm
theorem ok_shape {f C:Addr}{fd:FuncData} (F:Fun K "check_shape" "check_shape" s_check_shape f fd) (T:Txt K mg) (TC:TxtC K mg C):FnOk P w K mg base CX0 1 f fd ["kinds","table"] spShape:=by
 obtain ⟨_,hmk⟩:=TC.mkk
 obtain ⟨_,hmc⟩:=TC.mcc
 refine F.ok sc_check_shape (fun vs H Q E h=>?_) (fun cdv A outer s H vs Q E hr h=>?_)
 · obtain ⟨k,n,t,as,T',rfl,_⟩:=h
   rfl
 · obtain ⟨k,n,t,as,T',rfl,ht,ok,k1,k5,n1,n7,q⟩:=h
   refine ⟨_,(@sC _ _ _ _ _ (ps_if (PW.pt (pw_or (pt_cmpR op_lt (pv 0) pe_int (nomark _)) (pw_or1 (pt_cmpR op_gt (pv 0) (pe_glob (v:=.int 5) rfl hmk ⟨_,rfl⟩) (nomark _))))) (@sO _ _ _ ps_never) pss_nil)
    (@sC _ _ _ _ _ (ps_if (PW.pt (pw_or (pt_cmpR op_lt (pe_callB call_len_seq (by rfl) T.len PySem.boot_len (@aC _ _ _ _ _ (pv 1) pa_nil (by rfl))) pe_int (nomark _)) (pw_or1 (pt_cmpR op_gt (pe_callB call_len_seq (by rfl) T.len PySem.boot_len (@aC _ _ _ _ _ (pv 1) pa_nil (by rfl))) (pe_glob (v:=.int 700) rfl hmc ⟨_,rfl⟩) (nomark _))))) (@sO _ _ _ ps_never) pss_nil)
    (@sO _ _ _ (ps_for PassesOwn.never rfl (pi_list (pv 1)) (pg_name (i:=2) sc_check_shape.nd rfl (Or.inl rfl)) (@sO _ _ _ (ps_if (pt_cmpR op_ne (pe_callB call_len_seq (by rfl) T.len PySem.boot_len (@aC _ _ _ _ _ (pv 2) pa_nil (by rfl))) (pv 0) (nomark _)) (@sO _ _ _ ps_never) pss_nil)))))),?_⟩
   have hl:as.length=n:=by rw [ht.len,ok.len]
   have e1:((as.map V.ref).length:Int)=n:=by rw [List.length_map,hl]
   refine ⟨_,rfl,_,_,rfl,rfl,_,rfl,iteFe (decide_eq_false (by omega)) ⟨_,rfl,_,_,rfl,rfl,_,rfl,iteFe (decide_eq_false (by omega)) ?_⟩⟩
   refine ⟨_,rfl,t,_,rfl,.inl (SqL.of ht.is),_,_,rfl,rfl,_,rfl,iteFe (decide_eq_false (by omega)) ⟨_,rfl,t,_,rfl,.inl (SqL.of ht.is),_,_,rfl,rfl,_,rfl,iteFe (decide_eq_false (by omega)) ?_⟩⟩
   refine ⟨_,rfl,t,rfl,⟨_,SqL.of ht.is⟩,for_list (K:=K) (a:=t) (xs:=as.map V.ref) (fun i σ H2=>(∃ x,σ=[some (.int k),some (.ref t),x])∧H2=H) ⟨⟨none,rfl⟩,rfl⟩ (fun i σ H2 _ ⟨_,e⟩=>by rw [e];exact SqL.of ht.is) ?_ ?_⟩
   · rintro i x σ H2 hi ⟨⟨y,rfl⟩,rfl⟩
     obtain ⟨a,rfl,ea⟩:=get_adr hi
     have hi':i < T'.length:=by rw [← ht.len];exact (List.getElem?_eq_some_iff.mp ea).1
     obtain ⟨a',e1,_,e2,hr2⟩:=ht.at hi'
     rw [ea] at e1;cases e1
     have rl:((T'.getD i []).map oV).length=k:=by rw [List.length_map];exact ok.row _ (List.mem_of_getElem? e2)
     refine ⟨_,rfl,a,_,rfl,.inl (SqL.of hr2),_,rfl,rfl,_,rfl,iteFe ?_ ⟨⟨_,rfl⟩,rfl⟩⟩
     rw [rl];simp
   · rintro σ H2 ⟨⟨y,rfl⟩,rfl⟩
     exact q
theorem sc_beginnings:FnScope ["ends","found","chamber","there"] ["ends"] (defScope s_beginnings):=scm
theorem ok_beg {f:Addr}{fd:FuncData} (F:Fun K "beginnings" "beginnings" s_beginnings f fd) (T:Txt K mg):FnOk P w K mg base CX0 1 f fd ["ends"] spBeg:=by
 refine F.ok sc_beginnings (fun vs H Q E h=>?_) (fun cdv A outer s H vs Q E hr h=>?_)
 · obtain ⟨a,ends,rfl,_⟩:=h
   rfl
 · obtain ⟨a,ends,rfl,ha,ok,hl,q⟩:=h
   refine ⟨_,(@sC _ _ _ _ _ (@sS _ 1 _ _ _ _ _ sc_beginnings.nd rfl (Or.inl rfl) (pe_op op_rep.wr (pe_lstW (pa_cons pe_non pa_nil)) (pe_callB call_len_seq (by rfl) T.len PySem.boot_len (pa_cons (pv 0) pa_nil))) (by rfl) (.inl rfl))
    (@sC _ _ _ _ _ (ps_for PassesOwn.never rfl (pi_enum rfl T.enum bt_enum (@aC _ _ _ _ _ (pv 0) pa_nil (by rfl))) (pg_tup rfl (pgs_cons (pg_name (i:=2) sc_beginnings.nd rfl (Or.inl rfl)) (pgs_cons (pg_name (i:=3) sc_beginnings.nd rfl (Or.inl rfl)) pgs_nil))) (@sC _ _ _ _ _ (ps_if (pt_cmpR op_isN (pv 3) pe_non (nomark _)) (@sO _ _ _ ps_continue) pss_nil)
    (@sC _ _ _ _ _ (ps_if (PW.pt (pw_or (pt_cmpR op_lt (pv 3) pe_int (nomark _)) (pw_or1 (pt_cmpR op_ge (pv 3) (pe_callB call_len_seq (by rfl) T.len PySem.boot_len (@aC _ _ _ _ _ (pv 0) pa_nil (by rfl))) (nomark _))))) (@sO _ _ _ ps_never) pss_nil)
    (@sC _ _ _ _ _ (ps_if (pt_cmpR op_notN (pe_ix ix_l (pv 1) (pv 3) (fun _ _=>rfl)) pe_non (nomark _)) (@sO _ _ _ ps_never) pss_nil)
    (@sO _ _ _ (ps_asg (pv 2) (pg_sub (pv 1) (pv 3) set_list)))))))
    (@sO _ _ _ (@sR _ _ _ _ (pv 1))))),?_⟩
   refine rd_lstV (by simp) fun p H1 hp ip s1=>?_
   have le:((ends.map oV).length:Int)=ends.length:=by rw [List.length_map]
   refine ⟨_,rfl,a,_,rfl,.inl (SqL.of (ha.same s1)),rd_rep (z:=none) ip (by omega) (fun l H2 hl2 il s2=>?_) le⟩
   have s12:=s1.trans s2
   have hla:H l=none:=s1.free hl2
   refine ⟨_,rfl,a,rfl,⟨_,SqL.of (ha.same s12)⟩,for_enum (K:=K) (a:=a) (xs:=ends.map oV) (fun i σ H3=>∃ (fs:List (Option Int)) (x y:Option V),σ=[some (.ref a),some (.ref l),x,y]∧Row H3 l fs∧BegPart i ends fs∧Same H H3)
    ⟨_,none,none,rfl,il,BegPart.zero ends,s12⟩ (fun i σ H3 _ ⟨_,_,_,_,_,_,s3⟩=>SqL.of (ha.same s3)) ?_ ?_⟩
   · rintro i v σ H3 tt hi ht3 ⟨fs,x,y,rfl,il3,bp,s3⟩
     obtain ⟨z,rfl,ez⟩:=get_opt hi
     have hlt:l≠tt:=ne_of_none il3 ht3
     have s4:Same H (upd H3 tt (.tup [.int i,oV z])):=s3.upd' ht3
     have il4:Row (upd H3 tt (.tup [.int i,oV z])) l fs:=by show upd _ _ _ _=_;rw [upd_ne hlt];exact il3
     refine ⟨tt,_,rfl,SqT.of upd_same,rfl,_,_,rfl,_,_,rfl,rfl,?_⟩
     generalize upd H3 tt (.tup [.int i,oV z])=H4 at s4 il4
     have eg:=getD_some (d:=none) ez
     cases z with
     | none=>exact ⟨_,rfl,rfl,_,rfl,iteT ⟨fs,_,_,rfl,il4,bp.skip eg,s4⟩⟩
     | some e=>
      obtain ⟨e0,e1⟩:=ok.1 i e eg
      obtain ⟨m,rfl⟩:∃ m:Nat,e=(m:Int):=⟨e.toNat,by omega⟩
      have fr:=bp.free ok eg
      have hm:m < fs.length:=by rw [bp.len];omega
      refine ⟨_,rfl,rfl,_,rfl,iteF ?_⟩
      refine ⟨_,rfl,_,_,rfl,rfl,_,rfl,iteFe (decide_eq_false (by omega)) ⟨_,rfl,_,rfl,a,_,rfl,.inl (SqL.of (ha.same s4)),_,_,rfl,rfl,_,rfl,iteFe (decide_eq_false (by rw [le];omega)) ?_⟩⟩
      refine ⟨_,rfl,_,rfl,rd_cell m il4 hm ⟨rfl,_,rfl,?_⟩⟩
      rw [fr]
      refine iteF ⟨_,rfl,_,rfl,_,rfl,l,_,m,m,rfl,rfl,il4,?_,?_⟩
      · unfold ixN
        rw [if_pos (by omega),if_pos (by rw [List.length_map];omega)];rfl
      · refine ⟨fs.set m (some (i:Int)),_,_,rfl,?_,bp.put ok eg,s4.upd hla⟩
        show upd _ _ _ _=_
        rw [upd_same,List.map_set];rfl
   · rintro σ H3 ⟨fs,x,y,rfl,il3,bp,s3⟩
     rw [List.length_map] at bp
     exact ⟨_,rfl,q l fs H3 hla il3 bp s3⟩
theorem sc_Chart___init__:FnScope ["self","kinds","table"] ["self","kinds","table"] (defScope s_Chart___init__):=scm
theorem ok_init {f C:Addr}{fd:FuncData} (F:Fun K "__init__" "Chart.__init__" s_Chart___init__ f fd) (T:Txt K mg) (TC:TxtC K mg C) (SH:Rdy P w K mg base "check_shape" ["kinds","table"] 1 spShape) (BG:Rdy P w K mg base "beginnings" ["ends"] 1 spBeg):
  FnOk P w K mg base CX0 2 f fd ["self","kinds","table"] (spInit C):=by
 refine F.ok sc_Chart___init__ (fun vs H Q E h=>?_) (fun cdv A outer s H vs Q E hr h=>?_)
 · obtain ⟨g,dx,k,n,t,as,T',rfl,_⟩:=h
   rfl
 · obtain ⟨g,dx,k,n,t,as,T',rfl,hg,ht,ok,k1,k5,n1,n7,q⟩:=h
   refine ⟨_,(@sC _ _ _ _ _ (ps_expr (SH.pe hr (@aC _ _ _ _ _ (pv 1) (@aC _ _ _ _ _ (pv 2) pa_nil (by rfl)) (by rfl))))
    (@sC _ _ _ _ _ (ps_fld (pv 0) (pv 1) rfl)
    (@sC _ _ _ _ _ (ps_fld (pv 0) (pe_compC ["table"] [2] (pi_range1 rfl T.range (pa_cons (pv 1) pa_nil)) (fun C s H fp=>pe_compW ["place"] [0] (pil K rfl (pv 1)) (fun C2 s2 H2 fp2=>pe_ix (ixl K rfl) (pv 0) (pv 1) (fun _ _=>rfl)) (hcl1 rfl)) (hcl1 rfl)) rfl)
    (@sO _ _ _ (ps_fld (pv 0) (pe_compW [] [] (pi_list (pe_fld (pv 0) rfl)) (fun C s H fp=>BG.pe hr (pa_cons (pv 0) pa_nil)) hcl_nil) rfl))))),?_⟩
   have hT:T'.length≤1000:=by rw [ok.len];omega
   refine ⟨_,rfl,_,rfl,k,n,t,as,T',rfl,ht,ok,k1,k5,n1,n7,?_⟩
   refine ⟨_,rfl,_,rfl,g,C,dx,[],rfl,hg,TC.cl,TC.nk,(by show 0 < 1000;decide),?_⟩
   have ag:∀ a∈t::as,a≠g:=fun a ha z=>by
    subst z
    rcases List.mem_cons.mp ha with e | e
    · subst e;rw [ht.is] at hg;cases hg
    · obtain ⟨i,hi,e⟩:=List.getElem_of_mem e
      have hi2:i < T'.length:=by rw [← ht.len];exact hi
      have:=ht.rw i a T'[i] (by simp [← e,hi]) (by simp [hi2])
      rw [show H a=_ from this] at hg;cases hg
   have ht1:Tb (upd H g (.ins C dx (putF "kinds" (.int k) []))) t as T':=ht.on fun a ha o e=>by rw [upd_ne (ag a ha)];exact e
   have hg1:upd H g (.ins C dx (putF "kinds" (.int k) [])) g=some (.ins C dx (putF "kinds" (.int k) [])):=upd_same
   have k01:Kp g H (upd H g (.ins C dx (putF "kinds" (.int k) []))):=fun c o e nc=>by rw [upd_ne nc];exact e
   have fr1:∀ a,upd H g (.ins C dx (putF "kinds" (.int k) [])) a=none→H a=none:=fun a ha=>by
    by_cases z:a=g
    · rw [z,upd_same] at ha;cases ha
    · rwa [upd_ne z] at ha
   generalize upd H g (.ins C dx (putF "kinds" (.int k) []))=H1 at ht1 hg1 k01 fr1
   refine ⟨_,rfl,_,rfl,by omega,by omega,comp_tab (n:=(k:Int).toNat) (fun j=>col T' j) (by omega) (fun j hj H2 s2 Q' q'=>?_) fun lo os H2 N2=>?_⟩
   · refine ⟨_,rfl,t,rfl,⟨_,SqL.of (ht1.same s2).is⟩,comp_col (j:=j) (ht1.same s2) (by omega) (fun a r hr2 H3 Q3 s3 h3 q3=>?_) fun D hD=>q' D _ hD upd_same ((Same.refl _).upd hD)⟩
     exact ⟨_,rfl,_,rfl,rd_cell j h3 (by rw [ok.row r hr2];omega) q3 (by omega)⟩
   have e2:(List.range (k:Int).toNat).map (fun j=>col T' j)=cols k T':=by rw [Int.toNat_natCast];rfl
   rw [e2] at N2
   have ng:lo≠g:=fun z=>by have:=N2.ft;rw [z,hg1] at this;cases this
   have nos:∀ a∈lo::os,a≠g:=fun a ha z=>by
    rcases List.mem_cons.mp ha with e | e
    · exact ng (e▸z)
    · have:=N2.fa a e;rw [z,hg1] at this;cases this
   refine ⟨_,rfl,g,C,dx,_,rfl,N2.sm _ _ hg1,TC.cl,TC.no,(by show 1 < 1000;decide),?_⟩
   have hg3:upd H2 g (.ins C dx (putF "onward" (.ref lo) (putF "kinds" (.int k) []))) g=some (.ins C dx (putF "onward" (.ref lo) (putF "kinds" (.int k) []))):=upd_same
   have to3:Tb (upd H2 g (.ins C dx (putF "onward" (.ref lo) (putF "kinds" (.int k) [])))) lo os (cols k T'):=N2.tb.on fun a ha o e=>by rw [upd_ne (nos a ha)];exact e
   have k13:Kp g H1 (upd H2 g (.ins C dx (putF "onward" (.ref lo) (putF "kinds" (.int k) [])))):=fun c o e nc=>by rw [upd_ne nc];exact N2.sm _ _ e
   have fr3:∀ a,upd H2 g (.ins C dx (putF "onward" (.ref lo) (putF "kinds" (.int k) []))) a=none→H1 a=none:=fun a ha=>by
    by_cases z:a=g
    · rw [z,upd_same] at ha;cases ha
    · rw [upd_ne z] at ha;exact N2.sm.free ha
   generalize upd H2 g (.ins C dx (putF "onward" (.ref lo) (putF "kinds" (.int k) [])))=H3 at hg3 to3 k13 fr3
   refine ⟨_,rfl,g,C,dx,_,_,rfl,hg3,TC.cl,TC.no,(by rw [lookup_putF,if_pos rfl]),lo,rfl,⟨_,SqL.of to3.is⟩,comp_tabP (xs:=os.map V.ref) (fun i r=>BegOk (col T' i) r) (SqL.of to3.is) (by rw [List.length_map,to3.len,cols_len];omega) (fun i x hi H4 s4 Q' q'=>?_) fun li bs I H4 N4 lI hI=>?_⟩
   · obtain ⟨a,rfl,ea⟩:=get_adr hi
     have hik:i < k:=by
      have:=(List.getElem?_eq_some_iff.mp ea).1
      rw [to3.len,cols_len] at this;exact this
     have hrow:Row H4 a (col T' i):=(to3.rw i a _ ea (cols_at T' hik)).same s4
     exact ⟨_,rfl,a,_,rfl,hrow,ok.ends i,by rw [col_len];omega,fun l fs H5 hl hr5 hb s5=>q' l fs H5 hl hr5 hb s5⟩
   · have ng4:li≠g:=fun z=>by have:=N4.ft;rw [z,hg3] at this;cases this
     have nos4:∀ a∈li::bs,a≠g:=fun a ha z=>by
      rcases List.mem_cons.mp ha with e | e
      · exact ng4 (e▸z)
      · have:=N4.fa a e;rw [z,hg3] at this;cases this
     refine ⟨_,rfl,g,C,dx,_,rfl,N4.sm _ _ hg3,TC.cl,TC.ni,(by show 2 < 1000;decide),?_⟩
     rw [List.length_map,to3.len,cols_len] at lI
     refine q _ (g::((lo::os)++(li::bs))) ⟨ok,k1,k5,n1,n7,dx,lo,li,os,bs,I,rfl,upd_same,?_,?_,lI,fun j hj=>?_⟩ ?_ ?_
     · exact (to3.same N4.sm).on fun a ha o e=>by rw [upd_ne (nos a ha)];exact e
     · exact N4.tb.on fun a ha o e=>by rw [upd_ne (nos4 a ha)];exact e
     · exact hI j _ (by simp [List.getD,lI,hj])
     · intro a ha nag
       rcases List.mem_cons.mp ha with e | e
       · exact absurd e nag
       · rcases List.mem_append.mp e with e | e
         · refine fr1 a ?_
           rcases List.mem_cons.mp e with e | e
           · rw [e];exact N2.ft
           · exact N2.fa a e
         · refine fr1 a (fr3 a ?_)
           rcases List.mem_cons.mp e with e | e
           · rw [e];exact N4.ft
           · exact N4.fa a e
     · intro c o e nc
       rw [upd_ne nc]
       exact N4.sm _ _ (k13 _ _ (k01 _ _ e nc) nc)
theorem sc_Chart_size:FnScope ["self"] ["self"] (defScope s_Chart_size):=scm
theorem ok_size {f C:Addr}{fd:FuncData} (F:Fun K "size" "Chart.size" s_Chart_size f fd) (T:Txt K mg) (TC:TxtC K mg C):FnOk P w K mg base CX0 1 f fd ["self"] (spSize C):=by
 refine F.ok sc_Chart_size (fun vs H Q E h=>?_) (fun cdv A outer s H vs Q E hr h=>?_)
 · obtain ⟨g,k,n,T',fp,rfl,_⟩:=h
   rfl
 · obtain ⟨g,k,n,T',fp,rfl,hc,q⟩:=h
   obtain ⟨dx,lo,li,as,bs,I,rfl,hg,h1,h2,h3,h4⟩:=hc.ob
   refine ⟨_,(@sO _ _ _ (@sR _ _ _ _ (pe_callB call_len_seq (by rfl) T.len PySem.boot_len (@aC _ _ _ _ _ (pe_ix ix_l (pe_fld (pv 0) rfl) pe_int (fun _ _=>rfl)) pa_nil (by rfl))))),?_⟩
   obtain ⟨a,ea,_,e0,hr0⟩:=h1.at (i:=0) (by rw [cols_len];exact hc.k1)
   rw [cols_getD T' hc.k1] at hr0
   refine ⟨_,rfl,g,C,dx,_,_,rfl,hg,TC.cl,TC.no,chf_on ..,rd_row 0 h1 ea ⟨a,_,rfl,.inl (SqL.of hr0),?_⟩⟩
   rw [List.length_map,col_len,hc.ok.len]
   exact q
theorem sc_Chart_table:FnScope ["self"] ["self"] (defScope s_Chart_table):=scm
theorem ok_tabl {f C:Addr}{fd:FuncData} (F:Fun K "table" "Chart.table" s_Chart_table f fd) (T:Txt K mg) (TC:TxtC K mg C) (SZ:Rdm P w K mg base C "size" ["self"] 1 (spSize C)):FnOk P w K mg base CX0 2 f fd ["self"] (spTabl C):=by
 refine F.ok sc_Chart_table (fun vs H Q E h=>?_) (fun cdv A outer s H vs Q E hr h=>?_)
 · obtain ⟨g,k,n,T',fp,rfl,_⟩:=h
   rfl
 · obtain ⟨g,k,n,T',fp,rfl,hc,q⟩:=h
   obtain ⟨dx,lo,li,as,bs,I,rfl,hg,h1,h2,h3,h4⟩:=id hc.ob
   refine ⟨_,(@sO _ _ _ (@sR _ _ _ _ (pe_compC ["self"] [0] (pi_range1 rfl T.range (pa_cons (SZ.pe0 hr (pv 0)) pa_nil)) (fun C s H fp=>pe_compW ["chamber"] [0] (pil K rfl (pfl K rfl (pv 1) rfl)) (fun C2 s2 H2 fp2=>pe_ix (ixl K rfl) (pv 0) (pv 1) (fun _ _=>rfl)) (hcl1 rfl)) (hcl1 rfl)))),?_⟩
   have:=hc.k5
   have:=hc.n7
   refine ⟨_,rfl,g,dx,_,rfl,hg,chf_no ..,g,k,n,T',_,rfl,hc,_,rfl,by omega,by omega,comp_tab (n:=(n:Int).toNat) (fun c=>col (cols k T') c) (by omega) (fun c hc2 H2 s2 Q' q'=>?_) fun D as2 H2 N2=>?_⟩
   · refine ⟨_,rfl,g,C,dx,_,_,rfl,s2 _ _ hg,TC.cl,TC.no,chf_on ..,lo,rfl,⟨_,SqL.of (h1.same s2).is⟩,comp_col (j:=c) (h1.same s2) (by rw [cols_len];omega) (fun a r hr2 H3 Q3 s3 h3 q3=>?_) fun D hD=>q' D _ hD upd_same ((Same.refl _).upd hD)⟩
     obtain ⟨j,_,rfl⟩:=List.mem_map.mp hr2
     exact ⟨_,rfl,_,rfl,rd_cell c h3 (by rw [col_len,hc.ok.len];omega) q3 (by omega)⟩
   · have e:(List.range (n:Int).toNat).map (fun c=>col (cols k T') c)=T':=by
       rw [Int.toNat_natCast]
       exact cols_back hc.ok
     rw [e] at N2
     exact q D as2 H2 N2.ft N2.fa N2.nd N2.tb N2.sm
theorem sc_Chart_check_chamber:FnScope ["self","chamber"] ["self","chamber"] (defScope s_Chart_check_chamber):=scm
theorem ok_ckc {f C:Addr}{fd:FuncData} (F:Fun K "check_chamber" "Chart.check_chamber" s_Chart_check_chamber f fd) (SZ:Rdm P w K mg base C "size" ["self"] 1 (spSize C)):FnOk P w K mg base CX0 2 f fd ["self","chamber"] (spCkC C):=by
 refine F.ok sc_Chart_check_chamber (fun vs H Q E h=>?_) (fun cdv A outer s H vs Q E hr h=>?_)
 · obtain ⟨g,k,n,T',fp,c,rfl,_⟩:=h
   rfl
 · obtain ⟨g,k,n,T',fp,c,rfl,hc,hcn,q⟩:=h
   obtain ⟨dx,lo,li,as,bs,I,rfl,hg,_⟩:=id hc.ob
   refine ⟨_,(@sO _ _ _ (ps_if (PW.pt (pw_or (pt_cmpR op_lt (pv 1) pe_int (nomark _)) (pw_or1 (pt_cmpR op_ge (pv 1) (SZ.pe0 hr (pv 0)) (nomark _))))) (@sO _ _ _ ps_never) pss_nil)),?_⟩
   exact ⟨_,rfl,_,_,rfl,rfl,_,rfl,iteFe (decide_eq_false (by omega)) ⟨_,rfl,_,rfl,g,dx,_,rfl,hg,chf_no ..,g,k,n,T',_,rfl,hc,_,_,rfl,rfl,_,rfl,iteFe (decide_eq_false (by omega)) q⟩⟩
theorem sc_check_letters:FnScope ["kinds","way","letter"] ["kinds","way"] (defScope s_check_letters):=scm
theorem ok_ckl {f:Addr}{fd:FuncData} (F:Fun K "check_letters" "check_letters" s_check_letters f fd) (T:Txt K mg):FnOk P w K mg base CX0 1 f fd ["kinds","way"] spCkL:=by
 refine F.ok sc_check_letters (fun vs H Q E h=>?_) (fun cdv A outer s H vs Q E hr h=>?_)
 · obtain ⟨k,wa,ws,rfl,_⟩:=h
   rfl
 · obtain ⟨k,wa,ws,rfl,hw,hl,q⟩:=h
   refine ⟨_,(@sO _ _ _ (ps_for PassesOwn.never rfl (pi_list (pv 1)) (pg_name (i:=2) sc_check_letters.nd rfl (Or.inl rfl)) (@sO _ _ _ (ps_if (PW.pt (pw_or (pt_cmpR op_eq (pv 2) pe_int (nomark _)) (pw_or1 (pt_cmpR op_gt (pe_callB call_abs (by rfl) T.abs bt_abs (@aC _ _ _ _ _ (pv 2) pa_nil (by rfl))) (pv 0) (nomark _))))) (@sO _ _ _ ps_never) pss_nil)))),?_⟩
   refine ⟨_,rfl,wa,rfl,⟨_,SqL.of hw⟩,for_list (K:=K) (a:=wa) (xs:=ws.map V.int) (fun i σ H2=>(∃ x,σ=[some (.int k),some (.ref wa),x])∧H2=H) ⟨⟨none,rfl⟩,rfl⟩ (fun i σ H2 _ ⟨_,e⟩=>by rw [e];exact SqL.of hw) ?_ ?_⟩
   · rintro i x σ H2 hi ⟨⟨y,rfl⟩,rfl⟩
     obtain ⟨l,rfl,el⟩:=get_int hi
     obtain ⟨l0,l1,l2⟩:=hl l (List.mem_of_getElem? el)
     refine ⟨_,rfl,rfl,_,rfl,iteFe (decide_eq_false (fun z=>l0 (V.int.inj z))) ⟨_,rfl,_,rfl,_,rfl,_,_,rfl,rfl,_,rfl,iteFe (decide_eq_false ?_) ⟨⟨_,rfl⟩,rfl⟩⟩⟩
     split <;> omega
   · rintro σ H2 ⟨⟨y,rfl⟩,rfl⟩
     exact q
theorem sc_Chart_step:FnScope ["self","chamber","letter"] ["self","chamber","letter"] (defScope s_Chart_step):=scm
theorem ok_step {f C:Addr}{fd:FuncData} (F:Fun K "step" "Chart.step" s_Chart_step f fd) (TC:TxtC K mg C) (CC:Rdm P w K mg base C "check_chamber" ["self","chamber"] 2 (spCkC C)) (CL:Rdy P w K mg base "check_letters" ["kinds","way"] 1 spCkL):
  FnOk P w K mg base CX0 3 f fd ["self","chamber","letter"] (spStep C):=by
 refine F.ok sc_Chart_step (fun vs H Q E h=>?_) (fun cdv A outer s H vs Q E hr h=>?_)
 · obtain ⟨g,k,n,T',fp,c,l,rfl,_⟩:=h
   rfl
 · obtain ⟨g,k,n,T',fp,c,l,rfl,hc,hcn,hl,q⟩:=h
   obtain ⟨dx,lo,li,as,bs,I,rfl,hg,h1,h2,h3,h4⟩:=id hc.ob
   have ⟨l0,l1,l2⟩:=hl
   refine ⟨_,(@sC _ _ _ _ _ (ps_expr (CC.pe hr (pv 0) (@aC _ _ _ _ _ (pv 1) pa_nil (by rfl))))
    (@sC _ _ _ _ _ (ps_expr (CL.pe hr (@aC _ _ _ _ _ (pe_fld (pv 0) rfl) (@aC _ _ _ _ _ (@eL _ _ _ _ (@aC _ _ _ _ _ (pv 2) pa_nil (by rfl))) pa_nil (by rfl)) (by rfl))))
    (@sC _ _ _ _ _ (ps_if (pt_cmpR op_gt (pv 2) pe_int (nomark _)) (@sO _ _ _ (@sR _ _ _ _ (pe_ix ix_l (pe_ix ix_l (pe_fld (pv 0) rfl) (pe_op op_sub (pv 2) pe_int) (fun _ _=>rfl)) (pv 1) (fun _ _=>rfl)))) pss_nil)
    (@sO _ _ _ (@sR _ _ _ _ (pe_ix ix_l (pe_ix ix_l (pe_fld (pv 0) rfl) (pe_op op_sub (pe_un un_neg (pv 2)) pe_int) (fun _ _=>rfl)) (pv 1) (fun _ _=>rfl))))))),?_⟩
   refine ⟨_,rfl,g,dx,_,rfl,hg,chf_no ..,_,rfl,g,k,n,T',_,c,rfl,hc,hcn,?_⟩
   refine ⟨_,rfl,g,C,dx,_,_,rfl,hg,TC.cl,TC.nk,chf_k ..,_,rfl,rd_lst [l] fun la H1 hla ila s1=>⟨k,la,[l],rfl,ila,(fun x hx=>by rw [List.mem_singleton.mp hx];exact hl),?_⟩⟩
   have q:=q H1 s1
   have hc:=hc.same s1
   obtain ⟨dx,lo,li,as,bs,I,efp,hg,h1,h2,h3,h4⟩:=id hc.ob
   refine ⟨_,rfl,_,_,rfl,rfl,_,rfl,ite2 (fun hp=>?_) fun hp=>?_⟩
   · have hp:0 < l:=of_decide_eq_true hp
     have hj:(l - 1).toNat < k:=by omega
     obtain ⟨a,ea,_,e0,hra⟩:=h1.at (i:=(l - 1).toNat) (by rw [cols_len];exact hj)
     rw [cols_getD T' hj] at hra
     refine ⟨_,rfl,g,C,dx,_,_,rfl,hg,TC.cl,TC.no,chf_on ..,_,rfl,_,_,rfl,rfl,rd_row (l - 1).toNat h1 ea ⟨_,rfl,rd_cell c hra (by rw [col_len,hc.ok.len];exact hcn) ?_⟩ (by omega)⟩
     unfold sgo at q
     rw [if_pos hp] at q
     rw [col_getD];exact q
   · have hp:¬ 0 < l:=fun z=>hp (decide_eq_true z)
     have hj:(-l - 1).toNat < k:=by omega
     obtain ⟨a,ea,_,e0,hra⟩:=h2.at (i:=(-l - 1).toNat) (by rw [h3];exact hj)
     have bg:=h4 _ hj
     refine ⟨_,rfl,g,C,dx,_,_,rfl,hg,TC.cl,TC.ni,chf_in ..,_,rfl,_,rfl,_,_,rfl,rfl,rd_row (-l - 1).toNat h2 ea ⟨_,rfl,rd_cell c hra (by rw [bg.len,col_len,hc.ok.len];exact hcn) ?_⟩ (by omega)⟩
     unfold sgo at q
     rw [if_neg hp] at q
     rw [beg_pre hc.ok bg];exact q
theorem sc_Chart_trace:FnScope ["self","chamber","way","here","letter"] ["self","chamber","way"] (defScope s_Chart_trace):=scm
theorem ok_trace {f C:Addr}{fd:FuncData} (F:Fun K "trace" "Chart.trace" s_Chart_trace f fd) (CC:Rdm P w K mg base C "check_chamber" ["self","chamber"] 2 (spCkC C)) (TC:TxtC K mg C) (CL:Rdy P w K mg base "check_letters" ["kinds","way"] 1 spCkL)
  (SE:Rdm P w K mg base C "step" ["self","chamber","letter"] 3 (spStep C)) (CAN:Rdy P w K mg base "cancelled" ["way"] 1 (spCan K)):
  FnOk P w K mg base CX0 4 f fd ["self","chamber","way"] (spTrace C):=by
 refine F.ok sc_Chart_trace (fun vs H Q E h=>?_) (fun cdv A outer s H vs Q E hr h=>?_)
 · obtain ⟨g,k,n,T',fp,c,wa,ws,rfl,_⟩:=h
   rfl
 · obtain ⟨g,k,n,T',fp,c,wa,ws,rfl,hc,hcn,hw,hwl,hl,q⟩:=h
   obtain ⟨dx,lo,li,as,bs,I,rfl,hg,h1,h2,h3,h4⟩:=id hc.ob
   refine ⟨_,(@sC _ _ _ _ _ (ps_expr (CC.pe hr (pv 0) (@aC _ _ _ _ _ (pv 1) pa_nil (by rfl))))
    (@sC _ _ _ _ _ (ps_expr (CL.pe hr (@aC _ _ _ _ _ (pe_fld (pv 0) rfl) (@aC _ _ _ _ _ (pv 2) pa_nil (by rfl)) (by rfl))))
    (@sC _ _ _ _ _ (@sS _ 3 _ _ _ _ _ sc_Chart_trace.nd rfl (Or.inl rfl) (pv 1) (by rfl) (.inl rfl))
    (@sC _ _ _ _ _ (ps_for PassesOwn.never rfl (pi_list (CAN.pe hr (@aC _ _ _ _ _ (pv 2) pa_nil (by rfl)))) (pg_name (i:=4) sc_Chart_trace.nd rfl (Or.inl rfl)) (@sC _ _ _ _ _ (@sS _ 3 _ _ _ _ _ sc_Chart_trace.nd rfl (Or.inl rfl) (SE.pe hr (pv 0) (@aC _ _ _ _ _ (pv 3) (@aC _ _ _ _ _ (pv 4) pa_nil (by rfl)) (by rfl))) (by rfl) (.inl rfl))
    (@sO _ _ _ (ps_if (pt_cmpR op_isN (pv 3) pe_non (nomark _)) (@sO _ _ _ (@sR _ _ _ _ pe_non)) pss_nil))))
    (@sO _ _ _ (@sR _ _ _ _ (pv 3))))))),?_⟩
   refine ⟨_,rfl,g,dx,_,rfl,hg,chf_no ..,_,rfl,g,k,n,T',_,c,rfl,hc,hcn,?_⟩
   refine ⟨_,rfl,g,C,dx,_,_,rfl,hg,TC.cl,TC.nk,chf_k ..,_,rfl,k,wa,ws,rfl,hw,hl,?_⟩
   refine ⟨_,rfl,?_⟩
   refine ⟨_,rfl,wa,ws,rfl,SqL.of hw,hwl,fun cu H3 hcu icu s3=>?_⟩
   have hc3:=hc.same s3
   have hg3:=s3 _ _ hg
   refine ⟨cu,rfl,⟨_,SqL.of icu⟩,for_list (K:=K) (a:=cu) (xs:=(cut ws).map V.int) (fun i σ H4=>(∃ (x:Option V) (d:Nat),σ=[some (.ref g),some (.int c),some (.ref wa),some (.int d),x]∧d < n∧wgo T' (some (c:Int)) ((cut ws).take i)=some (d:Int))∧Same H3 H4) ⟨⟨_,c,rfl,hcn,rfl⟩,Same.refl _⟩ (fun i σ H4 _ ⟨_,e⟩=>SqL.of (e.ints icu)) ?_ ?_⟩
   · rintro i x σ H4 hi ⟨⟨y,d,rfl,hd,ew⟩,s4⟩
     obtain ⟨l,rfl,el⟩:=get_int hi
     have hl2:Let k l:=cut_all hl l (List.mem_of_getElem? el)
     have e2:=wgo_take (T:=T') (o:=some (c:Int)) el
     rw [ew] at e2
     have e2:wgo T' (some (c:Int)) ((cut ws).take (i+1))=sgo T' d l:=e2
     refine ⟨_,rfl,g,dx,_,rfl,s4 _ _ hg3,chf_no ..,_,rfl,_,rfl,g,k,n,T',_,d,l,rfl,hc3.same s4,hd,hl2,fun H5 s5=>?_⟩
     refine ⟨_,rfl,rfl,_,rfl,?_⟩
     cases es:sgo T' d l with
     | none=>
      refine iteT ?_
      rw [es] at e2
      have:=q H5 (s3.trans (s4.trans s5))
      rw [wgo_stop (i+1) e2] at this
      exact this
     | some e=>
      obtain ⟨z0,z1⟩:=sgo_lt hc.ok es
      obtain ⟨m,rfl⟩:∃ m:Nat,e=(m:Int):=⟨e.toNat,by omega⟩
      exact iteF ⟨⟨_,m,rfl,by omega,by rw [e2,es]⟩,s4.trans s5⟩
   · rintro σ H4 ⟨⟨y,d,rfl,hd,ew⟩,s4⟩
     rw [List.length_map,List.take_length] at ew
     have:=q H4 (s3.trans s4)
     rw [ew] at this
     exact ⟨_,rfl,this⟩
theorem sc_letters_in_order:FnScope ["chart"] ["chart"] (defScope s_letters_in_order):=scm
theorem ok_lio {f C:Addr}{fd:FuncData} (F:Fun K "letters_in_order" "letters_in_order" s_letters_in_order f fd) (T:Txt K mg) (TC:TxtC K mg C):FnOk P w K mg base CX0 1 f fd ["chart"] (spLio C):=by
 refine F.ok sc_letters_in_order (fun vs H Q E h=>?_) (fun cdv A outer s H vs Q E hr h=>?_)
 · obtain ⟨g,k,n,T',fp,rfl,_⟩:=h
   rfl
 · obtain ⟨g,k,n,T',fp,rfl,hc,q⟩:=h
   obtain ⟨dx,lo,li,as,bs,I,rfl,hg,h1,h2,h3,h4⟩:=id hc.ob
   have k5:=hc.k5
   refine ⟨_,(@sO _ _ _ (@sR _ _ _ _ (pe_comp2 [] [] (pi_range2 rfl T.range (pa_cons pe_int (pa_cons (pe_op op_add (pe_fld (pv 0) rfl) pe_int) pa_nil))) (fun C s H fp=>pit K rfl (pe_tup (pa_cons (pv 0) (pa_cons (pe_un un_neg (pv 0)) pa_nil)))) (fun C s H fp=>pv 1) hcl_nil))),?_⟩
   refine ⟨_,rfl,g,C,dx,_,_,rfl,hg,TC.cl,TC.nk,chf_k ..,_,_,rfl,rfl,_,_,rfl,⟨by omega,by omega⟩,comp2_pair (fun i=>[1+(i:Int), -(1+(i:Int))]) (by omega) (fun _=>rfl) (fun i hi y0 H2 Q' q'=>⟨_,rfl,_,rfl,_,rfl,q'⟩) fun D H' hD hD2 s2=>q D H' hD ?_ s2⟩
   have e:((k:Int)+1 - 1).toNat=k:=by omega
   rw [e] at hD2
   exact hD2
theorem sc_ways_from:FnScope ["chart","base","ways","order","at","chamber","letter","there"] ["chart","base"] (defScope s_ways_from):=scm
theorem ok_ways {f C:Addr}{fd:FuncData} (F:Fun K "ways_from" "ways_from" s_ways_from f fd) (T:Txt K mg) (LI:Rdy P w K mg base "letters_in_order" ["chart"] 1 (spLio C)) (SE:Rdm P w K mg base C "step" ["self","chamber","letter"] 3 (spStep C)):
  FnOk P w K mg base CX0 4 f fd ["chart","base"] (spWays C):=by
 refine F.ok sc_ways_from (fun vs H Q E h=>?_) (fun cdv A outer s H vs Q E hr h=>?_)
 · obtain ⟨g,k,n,T',fp,b,rfl,_⟩:=h
   rfl
 · obtain ⟨g,k,n,T',fp,b,rfl,hc,hb,q⟩:=h
   obtain ⟨dx,lo,li,as,bs,I,rfl,hg,_⟩:=id hc.ob
   have hu1:=hu_of hr
   have k5:=hc.k5
   have n7:=hc.n7
   refine ⟨_,(@sC _ _ _ _ _ (@sS _ 2 _ _ _ _ _ sc_ways_from.nd rfl (Or.inl rfl) (pe_disp (pps_cons (pv 1) (pe_lstW pa_nil) pps_nil) rfl rfl (by simp) (by decide)) (by rfl) (.inl rfl))
    (@sC _ _ _ _ _ (@sS _ 3 _ _ _ _ _ sc_ways_from.nd rfl (Or.inl rfl) (@eL _ _ _ _ (@aC _ _ _ _ _ (pv 1) pa_nil (by rfl))) (by rfl) (.inl rfl))
    (@sC _ _ _ _ _ (@sS _ 4 _ _ _ _ _ sc_ways_from.nd rfl (Or.inl rfl) pe_int (by rfl) (.inl rfl))
    (@sC _ _ _ _ _ (ps_while PassesOwn.never (pt_cmpR op_lt (pv 4) (pe_callB call_len_seq (by rfl) T.len PySem.boot_len (@aC _ _ _ _ _ (pv 3) pa_nil (by rfl))) (nomark _)) (@sC _ _ _ _ _ (@sS _ 5 _ _ _ _ _ sc_ways_from.nd rfl (Or.inl rfl) (pe_ix ix_l (pv 3) (pv 4) (fun _ _=>rfl)) (by rfl) (.inl rfl))
    (@sC _ _ _ _ _ (ps_for PassesOwn.never rfl (pi_list (LI.pe hr (@aC _ _ _ _ _ (pv 0) pa_nil (by rfl)))) (pg_name (i:=6) sc_ways_from.nd rfl (Or.inl rfl)) (@sC _ _ _ _ _ (@sS _ 7 _ _ _ _ _ sc_ways_from.nd rfl (Or.inl rfl) (SE.pe hr (pv 0) (@aC _ _ _ _ _ (pv 5) (@aC _ _ _ _ _ (pv 6) pa_nil (by rfl)) (by rfl))) (by rfl) (.inl rfl))
    (@sO _ _ _ (ps_if (PW.pt (pw_and (pt_cmpR op_notN (pv 7) pe_non (nomark _)) (pw_and1 (pt_cmp (pc_dnotin hu1 (pv 7) (pv 2)) rfl)))) (@sC _ _ _ _ _ (ps_dput hu1 (pv 2) (pv 7) (pe_op op_catW (pe_dget hu1 (pv 2) (pv 5) (fun _ _=>rfl)) (@eL _ _ _ _ (@aC _ _ _ _ _ (pv 6) pa_nil (by rfl)))) rfl)
    (@sO _ _ _ (ps_expr (pe_bm PySem.F.plainAttrs_list PySem.F.slot_list_append PySem.F.type_list_append mt_append (pv 3) (@aC _ _ _ _ _ (pv 7) pa_nil (by rfl)))))) pss_nil))))
    (@sO _ _ _ (ps_aug (i:=4) sc_ways_from.nd rfl (Or.inl rfl) pe_int ip_add)))))
    (@sO _ _ _ (ps_retF (pv 2))))))),?_⟩
   refine fun d hd=>⟨_,rfl,rd_lstV (by simp) fun a0 H1 ha0 ia0 s1=>⟨s1 _ _ upd_same,[(.inl (b:Int),.ref a0)],rfl,by simp,?_⟩⟩
   have hda:a0≠d:=fun z=>by rw [z,upd_same] at ha0;cases ha0
   have s1':Same H (upd H1 d (.dK (mergeK [] [(.inl (b:Int),.ref a0)]))):=(((Same.refl H).upd hd).trans s1).upd hd
   have hd1:upd H1 d (.dK (mergeK [] [(.inl (b:Int),.ref a0)])) d=some (.dK (dkv [(b,a0,[])])):=by rw [upd_same];rfl
   have ia1:Ints (upd H1 d (.dK (mergeK [] [(.inl (b:Int),.ref a0)]))) a0 []:=by show upd _ _ _ _=_;rw [upd_ne hda];exact ia0
   generalize upd H1 d (.dK (mergeK [] [(.inl (b:Int),.ref a0)]))=H2 at s1' hd1 ia1
   refine ⟨_,rfl,rd_lst [(b:Int)] fun lo H3 hlo ilo s3=>?_⟩
   have ws3:WS H H3 d lo [(b,a0,[])]:=by
    refine ⟨⟨s3 _ _ hd1,fun p hp=>?_⟩,ilo,fun p hp=>?_,hd,s1'.free hlo,s1'.trans s3⟩
    · rw [List.mem_singleton.mp hp];exact s3.ints ia1
    · rw [List.mem_singleton.mp hp]
      intro z
      have z:a0=lo:=z
      rw [← z,ia1] at hlo;cases hlo
   refine while_by (fun σ H4=>∃ (W:Wy) (i:Nat) (x5 x6 x7:Option V),σ=[some (.ref g),some (.int b),some (.ref d),some (.ref lo),some (.int i),x5,x6,x7]∧WS H H4 d lo W∧WInv T' k n b W∧i≤W.length∧bfsW T' k (n+1 - i) i (era W)=metW T' k n b)
    (fun σ H4=>match σ with | [_,_,_,_,some (.int i),_,_,_]=>n+1 - i.toNat | _=>0) ⟨_,0,none,none,none,rfl,ws3,WInv.zero hb a0,Nat.zero_le _,rfl⟩ ?_ ?_
   · rintro σ H4 ⟨W,i,x5,x6,x7,rfl,ws,wi,hi,eb⟩
     have wl:W.length≤n:=by
      have:=OInv.len (n:=n) (O:=keys W) ⟨wi.nd,fun c hc=>by obtain ⟨p,hp,rfl⟩:=List.mem_map.mp hc;exact wi.lt p hp⟩
      unfold keys at this;rwa [List.length_map] at this
     have el:((((keys W).map fun (c:Nat)=>(c:Int)).map V.int).length:Int)=W.length:=by simp [keys]
     refine ⟨_,rfl,_,rfl,lo,_,rfl,.inl (SqL.of ws.io),_,_,rfl,rfl,_,rfl,?_⟩
     rw [el]
     refine ite2 (fun hlt=>?_) fun hge=>?_
     · have hlt:(i:Int) < W.length:=of_decide_eq_true hlt
       have hlt:i < W.length:=by omega
       have hlk:i < (era W).length:=by unfold era;rw [List.length_map];exact hlt
       have eW:W[i]?=some W[i]:=by simp [hlt]
       generalize hp:W[i]=p at eW
       have mp:p∈W:=List.mem_of_getElem? eW
       have ec:((keys W).map fun (c:Nat)=>(c:Int)).getD i 0=(p.1:Int):=by
        have:(keys W)[i]?=some p.1:=by unfold keys;rw [List.getElem?_map,eW];rfl
        rw [List.getD,List.getElem?_map,this];rfl
       have ek:(era W).getD i (0,[])=(p.1,p.2.2):=by
        have:(era W)[i]?=some (p.1,p.2.2):=by unfold era;rw [List.getElem?_map,eW];rfl
        rw [List.getD,this];rfl
       refine ⟨_,rfl,_,rfl,rd_at i ws.io (by simp [keys];exact hlt) ?_⟩
       rw [ec]
       refine ⟨_,rfl,g,k,n,T',_,rfl,hc.same ws.sm,fun ll H5 hll ill s5=>?_⟩
       have ws5:=ws.same s5
       refine ⟨ll,rfl,⟨_,SqL.of ill⟩,for_list (K:=K) (a:=ll) (xs:=(lets k).map V.int) (fun j σ H6=>∃ (W6:Wy) (y6 y7:Option V) (r:Wy),σ=[some (.ref g),some (.int b),some (.ref d),some (.ref lo),some (.int i),some (.int p.1),y6,y7]∧WS H H6 d lo W6∧WInv T' k n b W6∧W6=W++r∧Ints H6 ll (lets k)∧ll≠lo∧era W6=((lets k).take j).foldl (visW T' (p.1,p.2.2)) (era W))
        ⟨W,_,_,[],rfl,ws5,wi,by simp,ill,(fun z=>by rw [z,ws.io] at hll;cases hll),rfl⟩ (fun j σ H6 _ ⟨_,_,_,_,_,_,_,_,e,_⟩=>SqL.of e) ?_ ?_⟩
       · rintro j x σ H6 hj ⟨W6,y6,y7,r,rfl,ws6,wi6,eW6,il6,nll,ek6⟩
         obtain ⟨l,rfl,el6⟩:=get_int hj
         have hl:Let k l:=lets_mem.mp (List.mem_of_getElem? el6)
         have mp6:p∈W6:=by rw [eW6];exact List.mem_append_left _ mp
         have es:((lets k).take (j+1)).foldl (visW T' (p.1,p.2.2)) (era W)=visW T' (p.1,p.2.2) (era W6) l:=by rw [take_fold' el6,ek6]
         refine ⟨_,rfl,g,dx,_,rfl,ws6.sm _ _ hg,chf_no ..,_,rfl,_,rfl,g,k,n,T',_,p.1,l,rfl,hc.same ws6.sm,wi.lt p mp,hl,fun H6' s6'=>?_⟩
         replace ws6:=ws6.same s6'
         replace il6:=s6'.ints il6
         refine ⟨_,rfl,rfl,_,rfl,?_⟩
         cases e:sgo T' p.1 l with
         | none=>
          refine iteF ⟨W6,_,_,r,rfl,ws6,wi6,eW6,il6,nll,?_⟩
          rw [es];unfold visW;rw [e]
         | some dd=>
          obtain ⟨z0,z1⟩:=sgo_lt hc.ok e
          obtain ⟨c,rfl⟩:∃ c:Nat,dd=(c:Int):=⟨dd.toNat,by omega⟩
          refine iteT ⟨_,rfl,_,rfl,d,_,rfl,DGet.k (k:=.inl (c:Int)) ws6.dw.is,_,rfl,?_⟩
          have ev:visW T' (p.1,p.2.2) (era W6) l=if c∈keys W6 then era W6 else era W6++[(c,p.2.2++[l])]:=by unfold visW;rw [e,era_keys];rfl
          by_cases hin:c∈keys W6
          · obtain ⟨p2,hp2,e2⟩:=List.mem_map.mp hin
            have v2:=dkv_some wi6.nd hp2
            have e2:p2.1=c:=e2
            rw [e2] at v2
            rw [v2]
            refine iteF ⟨W6,_,_,r,rfl,ws6,wi6,eW6,il6,nll,?_⟩
            rw [es,ev,if_pos hin]
          · rw [dkv_none hin]
            have wl6:W6.length≤n:=by
             have:=OInv.len (n:=n) (O:=keys W6) ⟨wi6.nd,fun c hc=>by obtain ⟨p,hp,rfl⟩:=List.mem_map.mp hc;exact wi6.lt p hp⟩
             unfold keys at this;rwa [List.length_map] at this
            have plen:p.2.2.length≤n:=by
             obtain ⟨jj,hjj,ejj⟩:=List.getElem_of_mem mp6
             have:=wi6.ln jj p (by simp [← ejj,hjj])
             omega
            refine iteT ⟨_,rfl,_,rfl,d,_,rfl,(by have:=DGet.k (k:=.inl (p.1:Int)) ws6.dw.is;rw [dkv_some wi6.nd mp6] at this;exact this),_,rfl,rd_lst [l] fun q1 H7 hq1 iq1 s7=>?_⟩
            refine rd_cat (s7.ints (ws6.dw.wy p mp6)) iq1 (by simp;omega) fun a H8 ha ia s8=>?_
            have ws8:=ws6.same (s7.trans s8)
            refine ⟨_,rfl,_,rfl,d,_,rfl,DPut.k (k:=.inl (c:Int)) ws8.dw.is (small4k (by unfold dkv;rw [List.length_map];omega)),?_⟩
            have io8:Ints (upd H8 d (.dK (putK (dkv W6) (.inl (c:Int)) (.ref a)))) lo ((keys W6).map fun (c:Nat)=>(c:Int)):=ws8.io.other ws8.ne.symm
            refine ⟨_,rfl,.inl ⟨rfl,_,SqL.of io8⟩,_,rfl,lo,_,_,rfl,rfl,io8,small4k (by simp [keys];omega),?_⟩
            have ha6:H6' a=none:=s7.free ha
            have wn:=ws6.add (s7.trans s8) ha6 ia hin
            have hll8:Ints (upd H8 d (.dK (putK (dkv W6) (.inl (c:Int)) (.ref a)))) ll (lets k):=((s7.trans s8).ints il6).other fun z=>by
             have:=ws8.dw.is;rw [← z,show H8 ll=_ from (s7.trans s8).ints il6] at this;cases this
            refine ⟨W6++[(c,a,p.2.2++[l])],_,_,r++[(c,a,p.2.2++[l])],rfl,wn,wi6.add hc.ok mp6 hl e hin a,by rw [eW6,List.append_assoc],hll8.other nll,nll,?_⟩
            rw [es,ev,if_neg hin]
            unfold era;rw [List.map_append];rfl
       · rintro σ H6 ⟨W6,y6,y7,r,rfl,ws6,wi6,eW6,il6,nll,ek6⟩
         rw [List.length_map,List.take_length] at ek6
         refine ⟨_,rfl,_,_,rfl,rfl,⟨W6,i+1,_,_,_,rfl,ws6,wi6,by rw [eW6,List.length_append];omega,?_⟩,?_⟩
         · have e1:n+1 - i=(n+1 - (i+1))+1:=by omega
           rw [e1,bfsW_go hlk] at eb
           rw [ek6]
           unfold rowW at eb
           rw [ek] at eb
           exact eb
         · show n+1 - ((i:Int)+1).toNat < n+1 - (i:Int).toNat
           omega
     · have hge:¬ (i:Int) < W.length:=fun z=>hge (decide_eq_true z)
       have hk:(era W).length≤i:=by unfold era;rw [List.length_map];omega
       rw [bfsW_stop hk] at eb
       refine ⟨_,rfl,d,_,rfl,ws.dw.is,fun o=>q d W _ hd ⟨⟨o,upd_same⟩,fun p hp=>?_⟩ wi eb (ws.sm.upd hd)⟩
       have i1:=ws.dw.wy p hp
       exact i1.other fun y=>by rw [y] at i1;have e:=ws.dw.is;rw [show H4 d=_ from i1] at e;cases e
   · rintro σ H Q Q' hQ ⟨v,e,v',e',p,ys,e'',q,i,j,e3,e4,b,e5,q5⟩
     exact ⟨v,e,v',e',p,ys,e'',q,i,j,e3,e4,b,e5,hQ _ _ q5⟩
theorem rn_nd:(["number","chamber"]:List Str).Nodup:=by decide+kernel
theorem sc_renumbered:FnScope ["chart","order","table","numbers"] ["chart","order"] (defScope s_renumbered):=scm
theorem ok_ren {f C:Addr}{fd:FuncData} (F:Fun K "renumbered" "renumbered" s_renumbered f fd) (T:Txt K mg) (TC:TxtC K mg C) (TB:Rdm P w K mg base C "table" ["self"] 2 (spTabl C)) (CH:Rdk P w K mg base C "Chart" ["self","kinds","table"] 2 (spInit C)):
  FnOk P w K mg base CX0 4 f fd ["chart","order"] (spRen C):=by
 refine F.ok sc_renumbered (fun vs H Q E h=>?_) (fun cdv A outer s H vs Q E hr h=>?_)
 · obtain ⟨g,la,k,n,T',fp,ord,rfl,_⟩:=h
   rfl
 · obtain ⟨g,la,k,n,T',fp,ord,rfl,hc,io,nd,lt,ne,q⟩:=h
   have hu1:=hu_of hr
   obtain ⟨dx,lo,li,as,bs,I,efp,hg,_⟩:=id hc.ob
   refine ⟨_,(@sC _ _ _ _ _ (ps_set (i:=2) sc_renumbered.nd rfl (Or.inr rfl) (TB.pe0 hr (pv 0)))
    (@sC _ _ _ _ _ (ps_set (i:=3) sc_renumbered.nd rfl (Or.inr rfl) (pe_dcompG ["number","chamber"] hu1 (pi_enum rfl T.enum bt_enum (pa_cons (pv 1) pa_nil)) (fun C s H fp=>pgt K (n:=2) rfl rfl (pgs_cons (pg_name (i:=0) rn_nd rfl (Or.inl rfl) (.inr rfl)) (pgs_cons (pg_name (i:=1) rn_nd rfl (Or.inl rfl) (.inr rfl)) pgs_nil))) (fun C s H fp=>pv 1) (fun C s H fp=>pv 0) hcl_nil))
    (@sO _ _ _ (@sR _ _ _ _ (CH.pe hr (@aC _ _ _ _ _ (pe_fld (pv 0) rfl) (@aC _ _ _ _ _ (pe_compW ["table","numbers"] [2,3] (pi_list (pv 1)) (fun C s H fp=>pe_compW ["numbers"] [2] (pil K rfl (pe_ix (ixl K rfl) (pv 1) (pv 0) (fun _ _=>rfl))) (fun C2 s2 H2 fp2=>pe_dget1 hu1 (pv 1) (pv 0) m1) (hcl1 rfl)) (hcl_two rfl rfl) (k:=⟨rfl,rfl,rfl,rfl,rfl,rfl,by decide+kernel,rfl,rfl,rfl,fun _=>rfl⟩)) pa_nil (by rfl)) (by rfl))))))),?_⟩
   have ordl:ord.length≤n:=OInv.len ⟨nd,lt⟩
   have n7:=hc.n7
   have xl:((ord.map fun (c:Nat)=>(c:Int)).map V.int).length=ord.length:=by simp
   refine ⟨_,rfl,g,dx,_,rfl,hg,chf_no ..,g,k,n,T',fp,rfl,hc,fun t ts H1 ft fts ndt tb s1=>?_⟩
   have io1:=s1.ints io
   refine ⟨_,rfl,la,rfl,⟨_,SqL.of io1⟩,dcomp_enumK (K:=K) (xs:=(ord.map fun (c:Nat)=>(c:Int)).map V.int) (fun i kvs=>kvs=numKV (ord.take i)) rfl (fun H' s=>SqL.of (s _ _ io1)) (fun i x H2 D kvs t' hi ht s2 hD eD pv nb hnb F hF=>?_) fun D H2 kvs hD eD pv s2=>?_⟩
   · obtain ⟨z,rfl,ez⟩:=get_int hi
     rw [List.getElem?_map] at ez
     cases eo:ord[i]? with
     | none=>rw [eo] at ez;cases ez
     | some c=>
      rw [eo] at ez
      obtain rfl:(c:Int)=z:=Option.some.inj ez
      have hil:i < ord.length:=(List.getElem?_eq_some_iff.mp eo).1
      have ec:ord[i]=c:=(List.getElem?_eq_some_iff.mp eo).2
      obtain ⟨x0,x1,rfl⟩:=us2 hnb
      have nD:D≠t':=fun z=>by rw [← z,eD] at ht;cases ht
      refine ⟨t',_,rfl,SqT.of upd_same,rfl,_,_,rfl,_,_,rfl,rfl,?_⟩
      refine ⟨_,rfl,_,rfl,?_⟩
      subst pv
      have fresh:c∉ord.take i:=fun m=>by
       obtain ⟨j,hj,ej⟩:=List.getElem_of_mem m
       rw [List.length_take] at hj
       rw [List.getElem_take, ← ec] at ej
       have:=(List.getElem_inj nd).mp ej
       omega
      have lt':(ord.take i).length=i:=by rw [List.length_take];omega
      have pe:putK (numKV (ord.take i)) (.inl (c:Int)) (V.int (i:Int))=numKV (ord.take (i+1)):=by
       have:=numKV_fresh fresh
       rw [lt'] at this
       rw [this,List.take_succ_eq_append_getElem hil,ec]
      refine hF _ _ _ (numKV (ord.take (i+1))) _ (DPut.k (kvs:=numKV (ord.take i)) (k:=.inl (c:Int)) (by rw [upd_ne nD];exact eD) (small4k (by rw [numKV_len,lt'];omega))) (fun b o eb=>?_) (by rw [upd_same,pe]) rfl
      have b1:=s2 _ _ eb
      rw [upd_ne (fun z=>by rw [z,hD] at eb;cases eb),upd_ne (fun z=>by rw [z,ht] at b1;cases b1)]
      exact b1
   rw [xl,List.take_length] at pv
   subst pv
   have s12:Same H H2:=s1.trans s2
   have tb2:=tb.same s2
   have hg2:=s12 _ _ hg
   refine ⟨_,rfl,g,C,dx,_,_,rfl,hg2,TC.cl,TC.nk,chf_k ..,_,rfl,la,rfl,⟨_,SqL.of (s12.ints io)⟩,?_⟩
   refine comp_tabP (K:=K) (xs:=(ord.map fun (c:Nat)=>(c:Int)).map V.int) (fun i r=>r=(renT T' ord).getD i []) (SqL.of (s12.ints io)) (by rw [xl];omega) (fun i x hi H4 s4 Q' q'=>?_) fun lt2 bs R H4 N4 lR hR=>?_
   · obtain ⟨z,rfl,ez⟩:=get_int hi
     rw [List.getElem?_map] at ez
     cases eo:ord[i]? with
     | none=>rw [eo] at ez;cases ez
     | some c=>
      rw [eo] at ez
      obtain rfl:(c:Int)=z:=Option.some.inj ez
      have hil:i < ord.length:=(List.getElem?_eq_some_iff.mp eo).1
      have ec:ord[i]=c:=(List.getElem?_eq_some_iff.mp eo).2
      have hcn:c < n:=lt c (List.mem_of_getElem? eo)
      obtain ⟨ra,era,mra,eT,hra⟩:=(tb2.same s4).at (i:=c) (by rw [hc.ok.len];exact hcn)
      have eD4:=s4 _ _ eD
      have rl:(T'.getD c []).length=k:=hc.ok.row _ (List.mem_of_getElem? eT)
      have k5:=hc.k5
      let fv:V→V:=fun v=>match v with | .int e=>oV (rn ord (some e)) | _=>.non
      have fo:∀ o,fv (oV o)=oV (rn ord o):=fun o=>by cases o <;> rfl
      refine ⟨_,rfl,_,rfl,rd_row c (tb2.same s4) era ⟨ra,rfl,⟨_,SqL.of hra⟩,comp_valsW (K:=K) fv (SqL.of hra) (small4k (by rw [List.length_map];omega)) (fun z hz H5 Q5 s5 q5=>?_) fun l H5 hl h5 s5=>q' l ((T'.getD c []).map (rn ord)) H5 hl ?_ ?_ s5⟩⟩
      · obtain ⟨o,mo,rfl⟩:=List.mem_map.mp hz
        rw [fo] at q5
        have eD5:=s5 _ _ eD4
        refine ⟨_,rfl,D,rfl,.inl ⟨_,.inl eD5⟩,_,rfl,?_⟩
        cases o with
        | none=>exact ⟨_,DGet.k (k:=.inr none) eD5,by rw [numKV_non];exact q5⟩
        | some e=>
         obtain ⟨j,hj,ej⟩:=List.getElem_of_mem mo
         have r:=hc.ok.rng c j e (by unfold cell;rw [List.getD,List.getElem?_eq_getElem hj,ej];rfl)
         obtain ⟨m,rfl⟩:∃ m:Nat,e=(m:Int):=⟨e.toNat,by omega⟩
         refine ⟨_,DGet.k (k:=.inl (m:Int)) eD5,?_⟩
         rw [numKV_val]
         have:oV (rn ord (some (m:Int)))=((if m∈ord then some (V.int ((ord.idxOf m:Nat):Int)) else none).getD .non):=by
          show oV (if ((m:Int).toNat)∈ord then some ((ord.idxOf (m:Int).toNat:Nat):Int) else none)=_
          rw [Int.toNat_natCast]
          split <;> rfl
         rw [← this];exact q5
      · show H5 l=_
        rw [h5,List.map_map,List.map_map]
        exact congrArg (fun l=>some (HO.lst l)) (List.map_congr_left fun o _=>fo o)
      · simp [renT,List.getD,hil,ec]
   · have eR:R=renT T' ord:=by
       apply List.ext_getElem?
       intro i
       rw [xl] at lR
       by_cases hi:i < ord.length
       · have e1:R[i]?=some R[i]:=by simp [lR,hi]
         have:=hR i R[i] e1
         rw [e1,this]
         simp [renT,List.getD,hi]
       · rw [List.getElem?_eq_none (by omega),List.getElem?_eq_none (by simp [renT];omega)]
     subst eR
     have ok':=renT_ok hc.ok nd lt
     have n1:1≤ord.length:=by
      cases ord with
      | nil=>exact absurd rfl ne
      | cons _ _=>simp
     refine fun x dx nx ndx nex=>?_
     have sx:Same H4 (upd (upd H4 dx (.own x)) x (.ins C dx [])):=((Same.refl H4).upd ndx).upd nx
     refine ⟨x,dx,k,ord.length,lt2,bs,renT T' ord,rfl,upd_same,N4.tb.same sx,ok',hc.k1,hc.k5,n1,by omega,fun H5 fq hc5 ff kp=>⟨rfl,?_⟩⟩
     have s04:Same H H4:=s12.trans N4.sm
     have s5:Same H4 H5:=fun b o e=>kp b o (sx b o e) fun z=>by rw [z,nx] at e;cases e
     refine q x fq H5 (s04.free nx) (fun a ha=>?_) hc5 (s04.trans s5)
     by_cases z:a=x
     · rw [z];exact s04.free nx
     · exact s04.free (sx.free (ff a ha z))
theorem sc_numbered:FnScope ["chart","base"] ["chart","base"] (defScope s_numbered):=scm
theorem ok_nbrX {f C cN:Addr}{fd:FuncData} (F:Fun K "numbered" "numbered" s_numbered f fd) (T:Txt K mg) (CC:Rdmx P w K mg base C "check_chamber" ["self","chamber"] 2 (spCkCX C cN)) (WF:Rdy P w K mg base "ways_from" ["chart","base"] 4 (spWays C)) (RE:Rdy P w K mg base "renumbered" ["chart","order"] 4 (spRen C)):
  FnOk P w K mg base (CXe P w) 5 f fd ["chart","base"] (spNbrX C cN):=by
 refine F.okX sc_numbered (fun vs H Q E h=>?_) (fun cdv A outer s H vs Q E hr h=>?_)
 · obtain ⟨g,k,n,T',fp,b,rfl,_⟩:=h
   rfl
 · obtain ⟨g,k,n,T',fp,b,rfl,hc,q,qe⟩:=h
   obtain ⟨dx,lo,li,as,bs,I,efp,hg,_⟩:=id hc.ob
   refine ⟨_,(@sC _ _ _ _ _ (ps_expr (CC.pe hr (pv 0) (@aC _ _ _ _ _ (pv 1) pa_nil (by rfl))))
    (@sO _ _ _ (@sR _ _ _ _ (RE.pe hr (@aC _ _ _ _ _ (pv 0) (@aC _ _ _ _ _ (pe_callTy (call_listF rfl) rfl T.list bt_list (pa_cons (WF.pe hr (pa_cons (pv 0) (pa_cons (pv 1) pa_nil))) pa_nil)) pa_nil (by rfl)) (by rfl)))))),?_⟩
   refine ⟨_,rfl,g,dx,_,rfl,hg,chf_no ..,_,rfl,g,k,n,T',_,b,rfl,hc,fun hb=>?_,qe⟩
   have q:=q hb
   obtain ⟨b,rfl⟩:∃ m:Nat,b=(m:Int):=⟨b.toNat,by omega⟩
   rw [Int.toNat_natCast] at q
   have hbn:b < n:=by omega
   refine ⟨_,rfl,_,rfl,_,rfl,g,k,n,T',fp,b,rfl,hc,hbn,fun d W H1 hd fw wi eW s1=>?_⟩
   obtain ⟨o,eo⟩:=fw.is
   have ek:keys W=met T' k n b:=by rw [← era_keys,eW,metW_map]
   refine ⟨⟨d,o,dkv W,rfl,eo,fun l hl=>?_⟩⟩
   have s2:Same H1 (upd H1 l (.lst ((dkv W).map fun p=>kV p.1))):=(Same.refl H1).upd hl
   have el:((dkv W).map fun p=>kV p.1)=((met T' k n b).map fun (c:Nat)=>(c:Int)).map V.int:=by
    rw [← ek]
    simp [dkv,keys,kV,List.map_map,Function.comp_def]
   have i2:Ints (upd H1 l (.lst ((dkv W).map fun p=>kV p.1))) l ((met T' k n b).map fun (c:Nat)=>(c:Int)):=by
    show upd _ _ _ _=_
    rw [upd_same,el]
   have mi:=met_inv hc.ok (k:=k) hbn
   refine ⟨g,l,k,n,T',fp,met T' k n b,rfl,(hc.same s1).same s2,i2,mi.1.nd,mi.1.lt,List.ne_nil_of_mem mi.2.1,fun x fq H3 fx ffq hc3 s3=>?_⟩
   have s02:=s1.trans s2
   exact q x fq H3 (s02.free fx) (fun a ha=>s02.free (ffq a ha)) hc3 (s02.trans s3)
theorem sc__law_in_order:FnScope ["_law_table_here","_law_order_here","_law_made","_law_c"] ["_law_table_here","_law_order_here"] (defScope s__law_in_order):=scm
theorem ok_inO {f:Addr}{fd:FuncData} (F:Fun K "_law_in_order" "_law_in_order" s__law_in_order f fd) (T:Txt K mg):FnOk P w K mg base CX0 1 f fd ["_law_table_here","_law_order_here"] spInO:=by
 refine F.ok sc__law_in_order (fun vs H Q E h=>?_) (fun cdv A outer s H vs Q E hr h=>?_)
 · obtain ⟨t,la,as,k,n,T',ord,rfl,_⟩:=h
   rfl
 · obtain ⟨t,la,as,k,n,T',ord,rfl,tb,ok,n10,k5,io,nd,lt,q⟩:=h
   refine ⟨_,(@sC _ _ _ _ _ (@sS _ 2 _ _ _ _ _ sc__law_in_order.nd rfl (Or.inl rfl) (pe_lstW pa_nil) (by rfl) (.inl rfl))
    (@sC _ _ _ _ _ (ps_for PassesOwn.never rfl (pi_list (pv 1)) (pg_name (i:=3) sc__law_in_order.nd rfl (Or.inl rfl)) (@sO _ _ _ (ps_expr (pe_bm PySem.F.plainAttrs_list PySem.F.slot_list_append PySem.F.type_list_append mt_append (pv 2) (@aC _ _ _ _ _ (pe_compW ["_law_order_here"] [1] (pi_list (pe_ix ix_l (pv 0) (pv 3) (fun _ _=>rfl))) (fun C s H fp=>pe_ifExp (pt_cmpR (inK K rfl) (pv 0) (pv 1) rfl) (bmK K rfl (pe_bm PySem.F.plainAttrs_list PySem.F.slot_list_index PySem.F.type_list_index (idxK K rfl) (pv 1) (pa_cons (pv 0) pa_nil))) pe_non) (hcl1 rfl)) pa_nil (by rfl))))))
    (@sO _ _ _ (@sR _ _ _ _ (pv 2))))),?_⟩
   have xl:((ord.map fun (c:Nat)=>(c:Int)).map V.int).length=ord.length:=by simp
   have ordl:ord.length≤n:=OInv.len ⟨nd,lt⟩
   have fl:(((ord.map fun (c:Nat)=>(c:Int)).map V.int).all flatV)=true:=by
    rw [List.all_eq_true]
    intro v hv
    obtain ⟨z,_,rfl⟩:=List.mem_map.mp hv
    rfl
   have fw:∀ o,flatV (oV o)=true:=fun o=>by cases o <;> rfl
   have rT:∀ i,(hi:i < ord.length)→(renT T' ord).take (i+1)=(renT T' ord).take i++[(T'.getD ord[i] []).map (rn ord)]:=fun i hi=>by
    have h2:i < (renT T' ord).length:=by simp [renT,hi]
    rw [List.take_succ_eq_append_getElem h2]
    simp [renT]
   refine rd_lsV (by decide) fun lm H1 f1 h1 s1=>?_
   refine ⟨_,rfl,la,rfl,⟨_,SqL.of (s1.ints io)⟩,for_list (K:=K) (a:=la) (xs:=(ord.map fun (c:Nat)=>(c:Int)).map V.int) (fun i σ H3=>∃ (bs:List Addr) (x:Option V),σ=[some (.ref t),some (.ref la),some (.ref lm),x]∧NewT H H3 lm bs ((renT T' ord).take i))
    ⟨[],none,rfl,⟨f1,(fun _ z=>nomatch z),by simp,⟨h1,rfl,fun i a r e=>by simp at e⟩,s1⟩⟩ (fun i σ H3 _ ⟨_,_,_,N⟩=>SqL.of (N.sm.ints io)) ?_ ?_⟩
   · rintro i x σ H3 hi ⟨bs,y,rfl,N⟩
     obtain ⟨z,rfl,ez⟩:=get_int hi
     rw [List.getElem?_map] at ez
     cases eo:ord[i]? with
     | none=>rw [eo] at ez;cases ez
     | some c=>
      rw [eo] at ez
      obtain rfl:(c:Int)=z:=Option.some.inj ez
      have hil:i < ord.length:=(List.getElem?_eq_some_iff.mp eo).1
      have ec:ord[i]=c:=(List.getElem?_eq_some_iff.mp eo).2
      have hcn:c < n:=lt c (List.mem_of_getElem? eo)
      obtain ⟨ra,era,mra,eT,hra⟩:=(tb.same N.sm).at (i:=c) (by rw [ok.len];exact hcn)
      have rl:(T'.getD c []).length=k:=ok.row _ (List.mem_of_getElem? eT)
      let fv:V→V:=fun v=>match v with | .int e=>oV (rn ord (some e)) | _=>.non
      have fo:∀ o,fv (oV o)=oV (rn ord o):=fun o=>by cases o <;> rfl
      refine ⟨_,rfl,.inl ⟨rfl,_,SqL.of N.tb.is⟩,_,rfl,_,rfl,rd_row c (tb.same N.sm) era ⟨ra,rfl,⟨_,SqL.of hra⟩,comp_valsW (K:=K) fv (SqL.of hra) (small4k (by rw [List.length_map];omega)) (fun z hz H5 Q5 s5 q5=>?_) fun l H5 hl h5 s5=>?_⟩⟩
      · obtain ⟨o,mo,rfl⟩:=List.mem_map.mp hz
        rw [fo] at q5
        have io5:=s5.ints (N.sm.ints io)
        refine ⟨_,rfl,_,rfl,la,_,rfl,.inl (SqL.of io5),fw o,fl,_,rfl,?_⟩
        cases o with
        | none=>
         refine iteFe ?_ q5
         show inV V.non _=false
         unfold inV
         rw [List.any_eq_false]
         intro v hv
         obtain ⟨z,_,rfl⟩:=List.mem_map.mp hv
         exact Bool.false_ne_true
        | some e=>
         obtain ⟨j,hj,ej⟩:=List.getElem_of_mem mo
         have r:=ok.rng c j e (by unfold cell;rw [List.getD,List.getElem?_eq_getElem hj,ej];rfl)
         obtain ⟨m,rfl⟩:∃ m:Nat,e=(m:Int):=⟨e.toNat,by omega⟩
         show if inV (V.int (m:Int)) _=true then _ else _
         rw [inV_nat]
         have er:rn ord (some (m:Int))=if m∈ord then some ((ord.idxOf m:Nat):Int) else none:=by
          show (if ((m:Int).toNat)∈ord then some ((ord.idxOf (m:Int).toNat:Nat):Int) else none)=_
          rw [Int.toNat_natCast]
         rw [er] at q5
         by_cases mm:m∈ord
         · rw [if_pos mm] at q5
           have hj:=List.idxOf_lt_length_iff.mpr mm
           have at_:∀ j,(hj:j < ord.length)→(((ord.map fun (c:Nat)=>(c:Int)).map V.int)[j]?.map fun z=>eqV z (oV (some (m:Int))))=some (decide (ord[j]=m)):=fun j hj=>by
            rw [List.getElem?_map,List.getElem?_map,List.getElem?_eq_getElem hj]
            show some (((ord[j]:Nat):Int) == (m:Int))=_
            congr 1
            by_cases z:ord[j]=m
            · rw [z,decide_eq_true rfl];simp
            · rw [decide_eq_false z]
              have z':¬ (((ord[j]:Nat):Int)=(m:Int)):=by omega
              simpa using z'
           refine iteTe (decide_eq_true mm) ⟨_,rfl,.inl ⟨rfl,_,SqL.of io5⟩,_,rfl,la,_,_,ord.idxOf m,rfl,rfl,SqL.of io5,rfl,fl,by rw [xl];exact hj,?_,fun j' hj'=>?_,q5⟩
           · rw [at_ _ hj,List.getElem_idxOf hj];simp
           · rw [at_ _ (by omega),decide_eq_false]
             intro z
             have:=nd.idxOf_getElem j' (by omega)
             rw [z] at this
             omega
         · rw [if_neg mm] at q5
           exact iteFe (decide_eq_false mm) q5
      · have N5:H5 lm=some (.lst (bs.map V.ref)):=s5 _ _ N.tb.is
        refine ⟨lm,_,_,rfl,rfl,N5,small4k ?_,?_⟩
        · rw [List.length_map,N.tb.len,List.length_take];omega
        · refine ⟨bs++[l],_,rfl,?_⟩
          rw [rT i hil,ec]
          refine N.snoc hl ?_ s5
          show H5 l=_
          rw [h5,List.map_map,List.map_map]
          exact congrArg (fun l=>some (HO.lst l)) (List.map_congr_left fun o _=>fo o)
   · rintro σ H3 ⟨bs,y,rfl,N⟩
     rw [xl,List.take_of_length_le (by simp [renT])] at N
     exact ⟨_,rfl,q lm bs H3 N.ft N.tb N.sm⟩
theorem sc__law_back_right:FnScope ["_law_chart","_law_table_here","_law_c","_law_k","_law_end"] ["_law_chart","_law_table_here"] (defScope s__law_back_right):=scm
theorem ok_backR {f C:Addr}{fd:FuncData} (F:Fun K "_law_back_right" "_law_back_right" s__law_back_right f fd) (T:Txt K mg) (TRA:Rdm P w K mg base C "trace" ["self","chamber","way"] 4 (spTrace C)) (SE:Rdm P w K mg base C "step" ["self","chamber","letter"] 3 (spStep C)) (SZ:Rdm P w K mg base C "size" ["self"] 1 (spSize C)):
  FnOk P w K mg base CX0 5 f fd ["_law_chart","_law_table_here"] (spBackR C):=by
 refine F.ok sc__law_back_right (fun vs H Q E h=>?_) (fun cdv A outer s H vs Q E hr h=>?_)
 · obtain ⟨g,t,as,fp,k,n,T',rfl,_⟩:=h
   rfl
 · obtain ⟨g,t,as,fp,k,n,T',rfl,hc,tb,q⟩:=h
   refine ⟨_,(@sC _ _ _ _ _ (ps_for PassesOwn.never rfl (pi_range1 rfl T.range (@aC _ _ _ _ _ (pe_callB call_len_seq (by rfl) T.len PySem.boot_len (@aC _ _ _ _ _ (pv 1) pa_nil (by rfl))) pa_nil (by rfl))) (pg_name (i:=2) sc__law_back_right.nd rfl (Or.inl rfl)) (@sO _ _ _ (ps_for PassesOwn.never rfl (pi_range1 rfl T.range (@aC _ _ _ _ _ (pe_callB call_len_seq (by rfl) T.len PySem.boot_len (@aC _ _ _ _ _ (pe_ix ix_l (pv 1) (pv 2) (fun _ _=>rfl)) pa_nil (by rfl))) pa_nil (by rfl))) (pg_name (i:=3) sc__law_back_right.nd rfl (Or.inl rfl)) (@sC _ _ _ _ _ (@sS _ 4 _ _ _ _ _ sc__law_back_right.nd rfl (Or.inl rfl) (pe_ix ix_l (pe_ix ix_l (pv 1) (pv 2) (fun _ _=>rfl)) (pv 3) (fun _ _=>rfl)) (by rfl) (.inl rfl))
    (@sC _ _ _ _ _ (ps_if (PW.pt (pw_and (pt_cmpR op_notN (pv 4) pe_non (nomark _)) (pw_and1 (pt_cmpR op_ne (TRA.pe hr (pv 0) (@aC _ _ _ _ _ (pv 4) (@aC _ _ _ _ _ (@eL _ _ _ _ (@aC _ _ _ _ _ (pe_op op_sub (pe_un un_neg (pv 3)) pe_int) pa_nil (by rfl))) pa_nil (by rfl)) (by rfl))) (pv 2) (nomark _))))) (@sO _ _ _ (@sR _ _ _ _ pe_bl)) pss_nil)
    (@sO _ _ _ (ps_if (pt_cmpR op_ne (SE.pe hr (pv 0) (@aC _ _ _ _ _ (pv 2) (@aC _ _ _ _ _ (pe_op op_add (pv 3) pe_int) pa_nil (by rfl)) (by rfl))) (pv 4) (nomark _)) (@sO _ _ _ (@sR _ _ _ _ pe_bl)) pss_nil)))))))
    (@sO _ _ _ (@sR _ _ _ _ (pe_cmpR op_eq (SZ.pe0 hr (pv 0)) (pe_callB call_len_seq (by rfl) T.len PySem.boot_len (@aC _ _ _ _ _ (pv 1) pa_nil (by rfl))) (nomark _))))),?_⟩
   have n7:=hc.n7
   have k5:=hc.k5
   have ok:=hc.ok
   have tl:((as.map V.ref).length:Int)=n:=by rw [List.length_map,tb.len,ok.len]
   refine ⟨_,rfl,t,_,rfl,.inl (SqL.of tb.is),_,rfl,by rw [tl];omega,by rw [tl];omega,for_range (lo:=0) (n:=((as.map V.ref).length:Int).toNat) (fun i σ H2=>(∃ (x y z:Option V),σ=[some (.ref g),some (.ref t),x,y,z])∧Same H H2) ⟨⟨none,none,none,rfl⟩,Same.refl H⟩ ?_ ?_⟩
   · rintro c σ H2 hc' ⟨⟨x,y,z,rfl⟩,s2⟩
     have hcn:c < n:=by rw [tl] at hc';omega
     obtain ⟨ra,era,mra,eT,hra⟩:=(tb.same s2).at (i:=c) (by rw [ok.len];exact hcn)
     have rl:(T'.getD c []).length=k:=ok.row _ (List.mem_of_getElem? eT)
     have rl':(((T'.getD c []).map oV).length:Int)=k:=by rw [List.length_map,rl]
     refine ⟨_,rfl,_,rfl,rd_row c (tb.same s2) era ⟨ra,_,rfl,.inl (SqL.of hra),_,rfl,by rw [rl'];omega,by rw [rl'];omega,for_range (lo:=0) (n:=(((T'.getD c []).map oV).length:Int).toNat) (fun j σ H3=>(∃ (y z:Option V),σ=[some (.ref g),some (.ref t),some (.int (0+(c:Int))),y,z])∧Same H H3) ⟨⟨_,_,rfl⟩,s2⟩ ?_ ?_⟩ (by omega)⟩
     · rintro j σ H3 hj' ⟨⟨y,z,rfl⟩,s3⟩
       have hj:j < k:=by rw [rl'] at hj';omega
       obtain ⟨ra,era,mra,eT,hra⟩:=(tb.same s3).at (i:=c) (by rw [ok.len];exact hcn)
       have hc3:=hc.same s3
       obtain ⟨dx,lo,li,as3,bs3,I3,efp,hg3,_⟩:=id hc3.ob
       refine ⟨_,rfl,_,rfl,rd_row c (tb.same s3) era ⟨_,rfl,rd_cell j hra (by rw [rl];exact hj) ?_ (by omega)⟩ (by omega)⟩
       have ecell:(T'.getD c []).getD j none=cell T' c j:=rfl
       rw [ecell]
       have lj:Let k (0+(j:Int)+1):=⟨by omega,by omega,by omega⟩
       have sg:sgo T' c (0+(j:Int)+1)=cell T' c j:=by
        unfold sgo
        rw [if_pos (by omega)]
        congr 1
        omega
       have z0:(0:Int)+(c:Int)=(c:Int):=Int.zero_add _
       have sc:∀ o,scal (oV o) (oV o)=true:=fun o=>by cases o <;> rfl
       cases ec:cell T' c j with
       | none=>
        refine ⟨_,rfl,rfl,_,rfl,iteF (iteF ?_)⟩
        refine ⟨_,rfl,g,dx,_,rfl,hg3,chf_no ..,_,rfl,_,rfl,_,_,rfl,rfl,g,k,n,T',fp,c,0+(j:Int)+1,(by show [V.ref g,V.int (0+(c:Int)),V.int (0+(j:Int)+1)]=_;rw [z0]),hc.same s3,hcn,lj,fun G' sG'=>?_⟩
        rw [sg,ec]
        replace sG':=s3.trans sG'
        exact ⟨_,rfl,sc _,_,rfl,iteFe (by simp) ⟨⟨_,_,rfl⟩,sG'⟩⟩
       | some e=>
        obtain ⟨e0,e1⟩:=ok.rng _ _ _ ec
        obtain ⟨m,rfl⟩:∃ m:Nat,e=(m:Int):=⟨e.toNat,by omega⟩
        refine ⟨_,rfl,rfl,_,rfl,iteT ?_⟩
        refine ⟨_,rfl,g,dx,_,rfl,hg3,chf_no ..,_,rfl,_,rfl,_,rfl,_,_,rfl,rfl,rd_lst [-(0+(j:Int)) - 1] fun lw H4 f4 i4 s4=>?_⟩
        have s34:=s3.trans s4
        refine ⟨g,k,n,T',fp,m,lw,[-(0+(j:Int)) - 1],rfl,hc.same s34,by omega,i4,by simp,(fun l hl=>by rw [List.mem_singleton.mp hl];exact ⟨by omega,by omega,by omega⟩),fun H5 s5=>?_⟩
        have ew:wgo T' (some (m:Int)) (cut [-(0+(j:Int)) - 1])=some (c:Int):=by
         show sgo T' ((m:Int).toNat) (-(0+(j:Int)) - 1)=_
         unfold sgo
         rw [if_neg (by omega),Int.toNat_natCast,show (-(-(0+(j:Int)) - 1) - 1).toNat=j by omega]
         exact (pre_iff ok).mpr ⟨c,rfl,hcn,ec⟩
        rw [ew]
        have s35:=s34.trans s5
        obtain ⟨dx5,lo5,li5,as5,bs5,I5,efp5,hg5,_⟩:=id (hc.same s35).ob
        refine ⟨_,rfl,rfl,_,rfl,iteFe (by rw [z0];simp [oV]) ?_⟩
        refine ⟨_,rfl,g,dx5,_,rfl,hg5,chf_no ..,_,rfl,_,rfl,_,_,rfl,rfl,g,k,n,T',fp,c,0+(j:Int)+1,(by show [V.ref g,V.int (0+(c:Int)),V.int (0+(j:Int)+1)]=_;rw [z0]),hc.same s35,hcn,lj,fun G' sG'=>?_⟩
        rw [sg,ec]
        replace sG':=s35.trans sG'
        exact ⟨_,rfl,sc _,_,rfl,iteFe (by simp) ⟨⟨_,_,rfl⟩,sG'⟩⟩
     · rintro σ H3 ⟨⟨y,z,rfl⟩,s3⟩
       exact ⟨⟨_,_,_,rfl⟩,s3⟩
   · rintro σ H2 ⟨⟨x,y,z,rfl⟩,s2⟩
     obtain ⟨dx,lo,li,as3,bs3,I3,efp,hg3,_⟩:=id (hc.same s2).ob
     refine ⟨_,rfl,g,dx,_,rfl,hg3,chf_no ..,g,k,n,T',fp,rfl,hc.same s2,_,rfl,t,_,rfl,.inl (SqL.of (tb.same s2).is),rfl,?_⟩
     rw [tl,decide_eq_true rfl]
     exact q H2 s2
theorem sc__law_same_table:FnScope ["_law_found","_law_due","_law_outs","_law_end"] ["_law_found","_law_due"] (defScope s__law_same_table):=scm
theorem ok_sameT {f:Addr}{fd:FuncData} (F:Fun K "_law_same_table" "_law_same_table" s__law_same_table f fd) (T:Txt K mg):FnOk P w K mg base CX0 1 f fd ["_law_found","_law_due"] spSameT:=by
 refine F.ok sc__law_same_table (fun vs H Q E h=>?_) (fun cdv A outer s H vs Q E hr h=>?_)
 · obtain ⟨t,u,as,bs,T',rfl,_⟩:=h
   rfl
 · obtain ⟨t,u,as,bs,T',rfl,ht,hu',q⟩:=h
   have hu:=hr.units
   refine ⟨_,(@sC _ _ _ _ _ (ps_if (PW.pt (pw_or (pt_not (pt_val (pe_callB call_isinst (by rfl) T.inst bt_inst (@aC _ _ _ _ _ (pv 0) (@aC _ _ _ _ _ (pe_bltn (v:=.ty "list") rfl T.list bt_list rfl) pa_nil (by rfl)) (by rfl))))) (pw_or1 (pt_cmpR (op_neD hu) (pv 0) (pv 1) (nomark _))))) (@sO _ _ _ (@sR _ _ _ _ pe_bl)) pss_nil)
    (@sC _ _ _ _ _ (ps_for PassesOwn.never rfl (pi_list (pv 0)) (pg_name (i:=2) sc__law_same_table.nd rfl (Or.inl rfl)) (@sC _ _ _ _ _ (ps_if (pt_not (pt_val (pe_callB call_isinst (by rfl) T.inst bt_inst (@aC _ _ _ _ _ (pv 2) (@aC _ _ _ _ _ (pe_bltn (v:=.ty "list") rfl T.list bt_list rfl) pa_nil (by rfl)) (by rfl))))) (@sO _ _ _ (@sR _ _ _ _ pe_bl)) pss_nil)
    (@sO _ _ _ (ps_for PassesOwn.never rfl (pi_list (pv 2)) (pg_name (i:=3) sc__law_same_table.nd rfl (Or.inl rfl)) (@sO _ _ _ (ps_if (PW.pt (pw_and (pt_cmpR op_notN (pv 3) pe_non (nomark _)) (pw_and1 (PW.pt (pw_or (pt_not (pt_val (pe_callB call_isinst (by rfl) T.inst bt_inst (@aC _ _ _ _ _ (pv 3) (@aC _ _ _ _ _ (pe_bltn (v:=.ty "int") rfl T.int bt_int rfl) pa_nil (by rfl)) (by rfl))))) (pw_or1 (pt_val (pe_callB call_isinst (by rfl) T.inst bt_inst (@aC _ _ _ _ _ (pv 3) (@aC _ _ _ _ _ (pe_bltn (v:=.ty "bool") rfl T.bool bt_bool rfl) pa_nil (by rfl)) (by rfl)))))))))) (@sO _ _ _ (@sR _ _ _ _ pe_bl)) pss_nil))))))
    (@sO _ _ _ (@sR _ _ _ _ pe_bl)))),?_⟩
   refine ⟨_,rfl,_,_,_,_,rfl,.lst ht.is,isList_yes,_,rfl,iteF ⟨_,rfl,_,rfl,rd_neT ht hu' ⟨_,rfl,iteF ?_⟩⟩⟩
   refine ⟨_,rfl,t,rfl,⟨_,SqL.of ht.is⟩,for_list (K:=K) (a:=t) (xs:=as.map V.ref) (fun i σ H2=>(∃ x y,σ=[some (.ref t),some (.ref u),x,y])∧H2=H) ⟨⟨none,none,rfl⟩,rfl⟩ (fun i σ H2 _ ⟨_,e⟩=>by rw [e];exact SqL.of ht.is) ?_ ?_⟩
   · rintro i x σ H2 hi ⟨⟨y,z,rfl⟩,rfl⟩
     obtain ⟨a,rfl,ea⟩:=get_adr hi
     have hi':i < T'.length:=by rw [← ht.len];exact (List.getElem?_eq_some_iff.mp ea).1
     have hra:=ht.rw i a T'[i] ea (by simp [hi'])
     refine ⟨_,rfl,_,_,_,_,rfl,.lst hra,isList_yes,_,rfl,iteF ?_⟩
     refine ⟨_,rfl,a,rfl,⟨_,SqL.of hra⟩,for_list (K:=K) (a:=a) (xs:=T'[i].map oV) (fun i σ H3=>(∃ x y,σ=[some (.ref t),some (.ref u),x,y])∧H3=H2) ⟨⟨_,_,rfl⟩,rfl⟩ (fun i σ H2 _ ⟨_,e⟩=>by rw [e];exact SqL.of hra) ?_ ?_⟩
     · rintro j x σ H3 hj ⟨⟨y,z,rfl⟩,rfl⟩
       obtain ⟨v,rfl,ev⟩:=get_opt hj
       cases v with
       | none=>exact ⟨_,rfl,rfl,_,rfl,iteF ⟨⟨_,_,rfl⟩,rfl⟩⟩
       | some v=>
        refine ⟨_,rfl,rfl,_,rfl,iteT ⟨_,rfl,_,_,_,_,rfl,.int v,isInt_yes,_,rfl,iteF ⟨_,rfl,_,_,_,_,rfl,.int v,intBool_no,_,rfl,?_⟩⟩⟩
        exact ⟨⟨_,_,rfl⟩,rfl⟩
     · rintro σ H3 ⟨⟨y,z,rfl⟩,rfl⟩
       exact ⟨⟨_,_,rfl⟩,rfl⟩
   · rintro σ H2 ⟨⟨y,z,rfl⟩,rfl⟩
     exact q
theorem ok_ckcX {f C cN:Addr}{fd:FuncData} (F:Fun K "check_chamber" "Chart.check_chamber" s_Chart_check_chamber f fd) (hmNoChamber:mg "NoChamber"=some (.ref cN)) (hvNoChamber:isVe K cN=true) (SZ:Rdm P w K mg base C "size" ["self"] 1 (spSize C)):FnOk P w K mg base (CXe P w) 2 f fd ["self","chamber"] (spCkCX C cN):=by
 refine F.okX sc_Chart_check_chamber (fun vs H Q E h=>?_) (fun cdv A outer s H vs Q E hr h=>?_)
 · obtain ⟨g,k,n,T',fp,c,rfl,_⟩:=h
   rfl
 · obtain ⟨g,k,n,T',fp,c,rfl,hc,q,qe⟩:=h
   obtain ⟨dx,lo,li,as,bs,I,rfl,hg,_⟩:=id hc.ob
   refine ⟨_,(@sO _ _ _ (ps_if (PW.pt (pw_or (pt_cmpR op_lt (pv 1) pe_int (nomark _)) (pw_or1 (pt_cmpR op_ge (pv 1) (SZ.pe0 hr (pv 0)) (nomark _))))) (@sO _ _ _ (ps_raise rfl rfl hmNoChamber hvNoChamber (pa_cons pe_str pa_nil))) pss_nil)),?_⟩
   refine ⟨_,rfl,_,_,rfl,rfl,_,rfl,ite2 (fun z=>?_) fun z=>⟨_,rfl,_,rfl,g,dx,_,rfl,hg,chf_no ..,g,k,n,T',_,rfl,hc,_,_,rfl,rfl,_,rfl,ite2 (fun y=>?_) fun y=>?_⟩⟩
   · have z:=of_decide_eq_true z
     exact ⟨by decide,qe (by omega)⟩
   · have y:=of_decide_eq_true y
     exact ⟨by decide,qe (by omega)⟩
   · have z:¬ c < 0:=fun w=>z (decide_eq_true w)
     have y:¬ c ≥ n:=fun w=>y (decide_eq_true w)
     exact q (by omega)
theorem sc_chambers_beside:FnScope ["chart","chamber","ends"] ["chart","chamber"] (defScope s_chambers_beside):=scm
theorem ok_beside {f C:Addr}{fd:FuncData} (F:Fun K "chambers_beside" "chambers_beside" s_chambers_beside f fd) (T:Txt K mg) (LI:Rdy P w K mg base "letters_in_order" ["chart"] 1 (spLio C)) (SE:Rdm P w K mg base C "step" ["self","chamber","letter"] 3 (spStep C)):
  FnOk P w K mg base CX0 4 f fd ["chart","chamber"] (spBeside C):=by
 refine F.ok sc_chambers_beside (fun vs H Q E h=>?_) (fun cdv A outer s H vs Q E hr h=>?_)
 · obtain ⟨g,k,n,T',fp,c,rfl,_⟩:=h
   rfl
 · obtain ⟨g,k,n,T',fp,c,rfl,hc,cn,q⟩:=h
   obtain ⟨dx,lo,li,as,bs,I,efp,hg,_⟩:=id hc.ob
   have k5:=hc.k5
   refine ⟨_,(@sC _ _ _ _ _ (ps_compW 2 ["chamber","chart"] [1,0] sc_chambers_beside.nd (pi_list (LI.pe hr (pa_cons (pv 0) pa_nil))) (fun C s H fp=>SE.pe hr (pv 2) (pa_cons (pv 1) (pa_cons (pv 0) pa_nil))) (hcl_two rfl rfl))
    (@sO _ _ _ (@sR _ _ _ _ (pe_compIf [] [] (pi_list (pv 2)) (fun C s H fp=>pt_cmpR op_notN (pv 0) pe_non (nomark _)) (fun C s H fp=>pv 0) hcl_nil)))),?_⟩
   refine ⟨_,rfl,g,k,n,T',fp,rfl,hc,fun D H1 hD iD s1=>?_⟩
   let fv:V→V:=fun z=>match z with
    | .int l=>oV (sgo T' c l)
    | _=>.non
   have ll:=lets_len k
   refine ⟨D,rfl,⟨_,SqL.of iD⟩,comp_same (K:=K) fv (SqL.of iD) (by rw [List.length_map,ll];omega) (fun z hz H2 Q2 s2 q2=>?_) fun D3 H3 hD3 h3 s3=>?_⟩
   · obtain ⟨l,hl,rfl⟩:=List.mem_map.mp hz
     have s12:=s1.trans s2
     exact ⟨_,rfl,g,dx,_,rfl,s12 _ _ hg,chf_no ..,_,rfl,_,rfl,g,k,n,T',fp,c,l,rfl,hc.same s12,cn,lets_mem.mp hl,q2⟩
   · have r3:Row H3 D3 ((lets k).map (sgo T' c)):=by
       show H3 D3=_
       rw [h3,List.map_map,List.map_map];rfl
     refine ⟨_,rfl,D3,rfl,⟨_,SqL.of r3⟩,compIf_filter (fun z=>z.isSome) r3 (by rw [List.length_map,ll];omega) (fun z hz H4 Q4 s4 q4=>?_) (fun z hz hp H4 Q4 s4 q4=>?_) fun D5 H5 hD5 hr5 s5=>?_⟩
     · refine ⟨_,rfl,rfl,_,rfl,?_⟩
       cases z <;> exact q4
     · exact ⟨_,rfl,q4⟩
     · refine q D5 H5 ((s1.trans s3).free hD5) (rowInts ?_) (s1.trans (s3.trans s5))
       have:((lets k).map (sgo T' c)).filter (fun z=>z.isSome)=(bes T' k c).map some:=by
        unfold bes
        induction lets k with
        | nil=>rfl
        | cons l ls ih=>
         cases e:sgo T' c l with
         | none=>rw [List.map_cons,e,List.filter_cons_of_neg (by simp),ih,List.filterMap_cons_none e]
         | some d=>rw [List.map_cons,e,List.filter_cons_of_pos rfl,ih,List.filterMap_cons_some e];rfl
       rw [← this]
       exact hr5
theorem sc_without_hairs:FnScope ["chart","beside","many","left","waiting","hair","other"] ["chart"] (defScope s_without_hairs):=scm
theorem ok_without17 {f C:Addr}{fd:FuncData} (F:Fun K "without_hairs" "without_hairs" s_without_hairs f fd) (T:Txt K mg) (SZ:Rdm P w K mg base C "size" ["self"] 1 (spSize C)) (CB:Rdy P w K mg base "chambers_beside" ["chart","chamber"] 4 (spBeside C)):
  FnOk P w K mg base CX0 5 f fd ["chart"] (spWithout17 C):=by
 refine F.ok sc_without_hairs (fun vs H Q E h=>?_) (fun cdv A outer s H vs Q E hr h=>?_)
 · obtain ⟨g,k,n,T',fp,rfl,_⟩:=h
   rfl
 · obtain ⟨g,k,n,T',fp,rfl,hc,deg,q⟩:=h
   obtain ⟨dx,lo,li,as,bs,I,efp,hg,_⟩:=id hc.ob
   have k5:=hc.k5
   have n1:=hc.n1
   have n7:=hc.n7
   have ok:=hc.ok
   have hb:∀ c,(bes T' k c).length≤10:=fun c=>by
    have:=List.length_filterMap_le (sgo T' c) (lets k)
    rw [lets_len] at this
    unfold bes;omega
   refine ⟨_,(@sC _ _ _ _ _ (ps_compW 1 ["chart"] [0] sc_without_hairs.nd (pi_range1 rfl T.range (pa_cons (SZ.pe0 hr (pv 0)) pa_nil)) (fun C s H fp=>CB.pe hr (pa_cons (pv 1) (pa_cons (pv 0) pa_nil))) (hcl1 rfl))
    (@sC _ _ _ _ _ (ps_set (i:=2) sc_without_hairs.nd rfl (Or.inr rfl) (pe_compW [] [] (pi_list (pv 1)) (fun C s H fp=>pe_callB (lenK K rfl) (by rfl) T.len PySem.boot_len (pa_cons (pv 0) pa_nil)) hcl_nil))
    (@sC _ _ _ _ _ (ps_set (i:=3) sc_without_hairs.nd rfl (Or.inr rfl) (pe_op op_rep.wr (pe_lstW (pa_cons pe_bl pa_nil)) (SZ.pe0 hr (pv 0))))
    (@sC _ _ _ _ _ (ps_compIf 4 ["many"] [2] sc_without_hairs.nd (pi_range2 rfl T.range (pa_cons pe_int (pa_cons (SZ.pe0 hr (pv 0)) pa_nil))) (fun C s H fp=>pt_cmpR op_eq (pe_ix (ixl K rfl) (pv 1) (pv 0) (fun _ _=>rfl)) pe_int (nomark _)) (fun C s H fp=>pv 0) (hcl1 rfl))
    (@sC _ _ _ _ _ (ps_while PassesOwn.never (pt_truth (pv 4) (fun _=>rfl)) (@sC _ _ _ _ _ (@sS _ 5 _ _ _ _ _ sc_without_hairs.nd rfl (Or.inl rfl) (pe_bm0 PySem.F.plainAttrs_list PySem.F.slot_list_pop PySem.F.type_list_pop mt_pop (pv 4)) (by rfl) (.inl rfl))
    (@sC _ _ _ _ _ (ps_asg pe_bl (pg_sub (pv 3) (pv 5) set_list))
    (@sO _ _ _ (ps_for PassesOwn.never rfl (pi_list (pe_ix ix_l (pv 1) (pv 5) (fun _ _=>rfl))) (pg_name (i:=6) sc_without_hairs.nd rfl (Or.inl rfl)) (@sC _ _ _ _ _ (ps_augS (pv 2) (pv 6) get_listL pe_int ip_sub set_list)
    (@sO _ _ _ (ps_if (PW.pt (pw_and (pt_val (pe_ix ix_l (pv 3) (pv 6) (fun _ _=>rfl))) (pw_and (pt_cmpR op_ne (pv 6) pe_int (nomark _)) (pw_and1 (pt_cmpR op_eq (pe_ix ix_l (pv 2) (pv 6) (fun _ _=>rfl)) pe_int (nomark _)))))) (@sO _ _ _ (ps_expr (pe_bm PySem.F.plainAttrs_list PySem.F.slot_list_append PySem.F.type_list_append mt_append (pv 4) (@aC _ _ _ _ _ (pv 6) pa_nil (by rfl))))) pss_nil))))))))
    (@sO _ _ _ (@sR _ _ _ _ (pe_compIf ["left"] [3] (pi_range1 rfl T.range (pa_cons (SZ.pe0 hr (pv 0)) pa_nil)) (fun C s H fp=>pt_val (pe_ix (ixl K rfl) (pv 1) (pv 0) (fun _ _=>rfl))) (fun C s H fp=>pv 0) (hcl1 rfl))))))))),?_⟩
   refine ⟨_,rfl,g,dx,_,rfl,hg,chf_no ..,g,k,n,T',fp,rfl,hc,_,rfl,by omega,by omega,comp_lists (fun i=>bes T' k i) (by omega) (fun i hi H2 Q2 s2 q2=>?_) fun D as H1 nD hD la ha s1=>?_⟩
   · exact ⟨_,rfl,_,rfl,g,k,n,T',fp,i,by rw [Int.zero_add];rfl,hc.same s2,by omega,q2⟩
   have la:as.length=n:=by omega
   let fv:V→V:=fun z=>match z with
    | .ref a=>(match H1 a with | some (.lst xs)=>.int xs.length | _=>.non)
    | _=>.non
   refine ⟨_,rfl,D,rfl,⟨_,SqL.of hD⟩,comp_same (K:=K) fv (SqL.of hD) (by rw [List.length_map];omega) (fun z hz H2 Q2 s2 q2=>?_) fun Mn H2 nM h2 s2=>?_⟩
   · obtain ⟨a,ma,rfl⟩:=List.mem_map.mp hz
     obtain ⟨i,hi,ei⟩:=List.getElem_of_mem ma
     have ia:=ha i a (by rw [List.getElem?_eq_getElem hi,ei])
     have e:fv (.ref a)=.int (((bes T' k i).map V.int).length:Nat):=by
      show (match H1 a with | some (.lst xs)=>V.int xs.length | _=>.non)=_
      rw [show H1 a=_ from ia]
     exact ⟨_,rfl,a,_,rfl,.inl (SqL.of (s2.ints ia)),e▸q2 H2 (Same.refl H2)⟩
   have im:Ints H2 Mn ((List.range n).map fun c=>((bes T' k c).length:Int)):=by
    show H2 Mn=_
    rw [h2]
    congr 2
    refine List.ext_getElem (by simp [la]) fun i h3 h4=>?_
    have hi:i < as.length:=by simpa using h3
    have ia:=ha i as[i] (by simp [hi])
    simp only [List.getElem_map,List.getElem_range]
    show (match H1 as[i] with | some (.lst xs)=>V.int xs.length | _=>.non)=_
    rw [show H1 as[i]=_ from ia]
    show V.int (((bes T' k i).map V.int).length:Nat)=_
    rw [List.length_map]
   have hc2:=hc.same (s1.trans s2)
   refine rd_lstV (by simp) fun p Hq hp hq sp=>?_
   have s2p:=(s1.trans s2).trans sp
   refine ⟨_,rfl,g,dx,_,rfl,s2p _ _ hg,chf_no ..,g,k,n,T',fp,rfl,hc.same s2p,⟨⟨p,(n:Int),[V.bl true],rfl,rfl,hq,by omega,by omega,by rw [Int.toNat_natCast];exact Nat.le_of_lt (small4k (by simp;omega)),fun Lf hLf=>?_⟩⟩⟩
   have eL:(List.replicate (n:Int).toNat [V.bl true]).flatten=(List.replicate n true).map V.bl:=by
    rw [Int.toNat_natCast,List.map_replicate,List.flatten_replicate_singleton]
   rw [eL]
   have iL:upd Hq Lf (.lst ((List.replicate n true).map V.bl)) Lf=some (.lst ((List.replicate n true).map V.bl)):=upd_same
   have s3:Same H2 (upd Hq Lf (.lst ((List.replicate n true).map V.bl))):=sp.upd (sp.free hLf)
   have nLM:Lf≠Mn:=fun z=>by
    have:=sp.free hLf
    rw [z,show H2 Mn=_ from im] at this;cases this
   have nL1:H1 Lf=none:=(s2.trans sp).free hLf
   generalize upd Hq Lf (.lst ((List.replicate n true).map V.bl))=H3 at iL s3
   have s03:=(s1.trans s2).trans s3
   have im3:=s3.ints im
   generalize em:((List.range n).map fun c=>((bes T' k c).length:Int))=many0 at im im3
   have lm0:many0.length=n:=by rw [← em];simp
   refine ⟨_,rfl,g,dx,_,rfl,s03 _ _ hg,chf_no ..,g,k,n,T',fp,rfl,hc.same s03,_,_,rfl,⟨by omega,by omega⟩,compIf_range fun W hW=>⟨fun i ys H4=>∃ wt:List Int,ys=wt.map V.int∧wt.length≤i∧i≤n∧(∀ x∈wt,∃ c:Nat,x=(c:Int)∧c < 1+i∧c < n∧c≠0∧many0.getD c 0=1)∧wt.Nodup∧(∀ c:Nat,1≤c→c < 1+i→many0.getD c 0=1→(c:Int)∈wt)∧H4 W=some (.lst ys)∧Same H3 H4,⟨[],rfl,Nat.le_refl _,Nat.zero_le _,(fun _ z=>nomatch z),by simp,(fun c c1 c2=>by omega),upd_same,(Same.refl H3).upd hW⟩,?_,?_,?_⟩⟩
   · rintro i ys H4 ⟨wt,rfl,wl,li,_,_,_,h4,_⟩
     exact ⟨h4,small4k (by rw [List.length_map];omega)⟩
   · rintro i ys H4 hi ⟨wt,rfl,wl,li,hw,nd,ha1,h4,s4⟩ Q1 Q0 q1 q0
     have hi:i+1 < n:=by omega
     refine ⟨_,rfl,_,rfl,rd_at (1+i) (s4.ints im3) (by omega) ⟨rfl,_,rfl,ite2 (fun z=>?_) fun z=>?_⟩ (by omega)⟩
     · have z:many0.getD (1+i) 0=1:=V.int.inj (of_decide_eq_true z)
       refine ⟨_,rfl,q1 _ H4 h4 ⟨wt++[1+(i:Int)],by simp,by simp;omega,by omega,fun x hx=>?_,?_,fun c c1 c2 cm=>?_,upd_same,s4.upd hW⟩⟩
       · rcases List.mem_append.mp hx with m | m
         · obtain ⟨c,rfl,c1,c2,c3,c4⟩:=hw x m
           exact ⟨c,rfl,by omega,c2,c3,c4⟩
         · exact ⟨1+i,by rw [List.mem_singleton.mp m];omega,by omega,by omega,by omega,z⟩
       · refine List.nodup_append.mpr ⟨nd,by simp,fun x hx y hy e=>?_⟩
         obtain ⟨c,rfl,c1,_⟩:=hw x hx
         rw [List.mem_singleton.mp hy] at e
         omega
       · by_cases e:c=1+i
         · exact List.mem_append_right _ (List.mem_singleton.mpr (by omega))
         · exact List.mem_append_left _ (ha1 c c1 (by omega) cm)
     · exact q0 H4 ⟨wt,rfl,by omega,by omega,fun x hx=>by
         obtain ⟨c,rfl,c1,c2,c3,c4⟩:=hw x hx
         exact ⟨c,rfl,by omega,c2,c3,c4⟩,nd,(fun c c1 c2 cm=>by
         by_cases e:c=1+i
         · exact absurd (by rw [← e,cm]) (fun w:V.int (many0.getD (1+i) 0)=V.int 1=>z (decide_eq_true w))
         · exact ha1 c c1 (by omega) cm),h4,s4⟩
   rintro ys H4 ⟨wt,rfl,wl,li,hw,nd,ha1,h4,s4⟩
   have HI0:HairI T' k n (List.replicate n true) many0 wt:=HairI.zero ok n1 em.symm (fun x hx=>by
    obtain ⟨c,rfl,_,c2,c3,c4⟩:=hw x hx
    exact ⟨c,rfl,c2,c3,c4⟩) nd
   have Fu0:Fu n (List.replicate n true) many0 wt:=fun c cn c0 _ cm=>by
    have h1:=deg c cn c0
    refine ha1 c (by omega) (by omega) ?_
    have h2:many0.getD c 0=((bes T' k c).length:Int):=by rw [← em];simp [List.getD,cn]
    omega
   have nWM:W≠Mn:=fun z=>by rw [z,show H3 Mn=_ from im3] at hW;cases hW
   have nWL:W≠Lf:=fun z=>by rw [z,iL] at hW;cases hW
   have nW1:H1 W=none:=(s2.trans s3).free hW
   have s14:Same H1 H4:=s2.trans (s3.trans s4)
   refine w_name ?_
   dsimp only
   refine w_seq ?_
   refine while_by (fun σ Hx=>∃ (b:List Bool) (many wt:List Int) (x5 x6:Option V),σ=[some (.ref g),some (.ref D),some (.ref Mn),some (.ref Lf),some (.ref W),x5,x6]∧Ints Hx Mn many∧Hx Lf=some (.lst (b.map V.bl))∧Ints Hx W wt∧HairI T' k n b many wt∧Fu n b many wt∧Big T' k n b∧Same H1 Hx)
    (fun σ Hx=>match Hx Lf with | some (.lst xs)=>xs.countP isT | _=>0) ⟨_,many0,wt,none,none,rfl,s4.ints im3,s4 _ _ iL,h4,HI0,Fu0,Big.zero,s14⟩ ?_ ?_
   · rintro σ Hx ⟨b,many,wt,x5,x6,rfl,iM,iF,iW,HI,FU,BG,sx⟩
     refine ⟨_,rfl,_,.inl ⟨_,SqL.of iW,rfl⟩,?_⟩
     rcases List.eq_nil_or_concat wt with e | ⟨wt0,hx,e⟩
     · subst e
       refine iteFe (by simp) ?_
       have sHx:=s1.trans sx
       refine ⟨_,rfl,g,dx,_,rfl,sHx _ _ hg,chf_no ..,g,k,n,T',fp,rfl,hc.same sHx,_,rfl,by omega,by omega,compIf_range fun R hR=>⟨fun i ys H5=>ys=(((List.range i).filter (lv b)).map fun (c:Nat)=>(c:Int)).map V.int∧i≤n∧H5 R=some (.lst ys)∧Same Hx H5,⟨rfl,Nat.zero_le _,upd_same,(Same.refl Hx).upd hR⟩,?_,?_,?_⟩⟩
       · rintro i ys H5 ⟨rfl,li,h5,_⟩
         have:=List.length_filter_le (lv b) (List.range i)
         rw [List.length_range] at this
         exact ⟨h5,small4k (by rw [List.length_map,List.length_map];omega)⟩
       · rintro i ys H5 hi ⟨rfl,li,h5,s5⟩ Q1 Q0 q1 q0
         have hi:i < n:=by omega
         have lb:=HI.lb
         have eb:b[i]?=some (lv b i):=by
          unfold lv
          rw [List.getD,List.getElem?_eq_getElem (by omega)];rfl
         refine ⟨_,rfl,_,rfl,⟨⟨Lf,_,0+(i:Int),.bl (lv b i),rfl,rfl,SqL.of (s5 _ _ iF),by rw [Int.zero_add];exact atI_nat (by rw [List.getElem?_map,eb];rfl),_,rfl,ite2 (fun z=>?_) fun z=>?_⟩⟩⟩
         · refine ⟨_,rfl,q1 _ H5 h5 ⟨?_,by omega,upd_same,s5.upd hR⟩⟩
           rw [List.range_succ,List.filter_append,List.filter_cons_of_pos z];simp
         · refine q0 H5 ⟨?_,by omega,h5,s5⟩
           rw [List.range_succ,List.filter_append,List.filter_cons_of_neg z];simp
       · rintro ys H5 ⟨rfl,li,h5,s5⟩
         exact q R b H5 (sHx.free hR) h5 HI.lb HI.av HI.z (FU.done HI) BG (sHx.trans s5)
     · rw [List.concat_eq_append] at e
       subst e
       obtain ⟨h,rfl,hn,h0,hl,hm1⟩:=HI.ww hx (List.mem_append_right _ (List.mem_singleton.mpr rfl))
       refine iteTe (by simp) ?_
       refine ⟨_,rfl,.inl ⟨rfl,_,SqL.of iW⟩,W,_,.int h,rfl,rfl,iW,by simp,?_⟩
       have iW5:Ints (upd Hx W (.lst ((wt0++[(h:Int)]).map V.int).dropLast)) W wt0:=by
        show upd _ _ _ _=_
        rw [upd_same,List.map_append];simp
       have iM5:Ints (upd Hx W (.lst ((wt0++[(h:Int)]).map V.int).dropLast)) Mn many:=iM.other nWM.symm
       have iF5:upd Hx W (.lst ((wt0++[(h:Int)]).map V.int).dropLast) Lf=some (.lst (b.map V.bl)):=by rw [upd_ne nWL.symm];exact iF
       have sx5:Same H1 (upd Hx W (.lst ((wt0++[(h:Int)]).map V.int).dropLast)):=sx.upd nW1
       generalize upd Hx W (.lst ((wt0++[(h:Int)]).map V.int).dropLast)=H5 at iW5 iM5 iF5 sx5
       have lb:=HI.lb
       refine ⟨_,rfl,_,rfl,Lf,_,_,h,rfl,rfl,iF5,ixN_nat' (by rw [List.length_map];omega),?_⟩
       have iF6:upd H5 Lf (.lst ((b.map V.bl).set h (.bl false))) Lf=some (.lst ((b.set h false).map V.bl)):=by rw [upd_same,List.map_set]
       have iM6:Ints (upd H5 Lf (.lst ((b.map V.bl).set h (.bl false)))) Mn many:=iM5.other nLM.symm
       have iW6:Ints (upd H5 Lf (.lst ((b.map V.bl).set h (.bl false)))) W wt0:=iW5.other nWL
       have sx6:Same H1 (upd H5 Lf (.lst ((b.map V.bl).set h (.bl false)))):=sx5.upd nL1
       generalize upd H5 Lf (.lst ((b.map V.bl).set h (.bl false)))=H6 at iF6 iM6 iW6 sx6
       have hla:h < as.length:=by omega
       have iA:=ha h as[h] (by simp [hla])
       refine ⟨_,rfl,_,rfl,⟨⟨D,_,(h:Int),.ref as[h],rfl,rfl,SqL.of (sx6 _ _ hD),atI_nat (by simp [hla]),?_⟩⟩⟩
       refine ⟨as[h],rfl,⟨_,SqL.of (sx6.ints iA)⟩,for_list (K:=K) (a:=as[h]) (xs:=(bes T' k h).map V.int) (fun i σ H7=>∃ (many' wt':List Int) (y6:Option V),σ=[some (.ref g),some (.ref D),some (.ref Mn),some (.ref Lf),some (.ref W),some (.int h),y6]∧Ints H7 Mn many'∧H7 Lf=some (.lst ((b.set h false).map V.bl))∧Ints H7 W wt'∧HairJ n b h many (bes T' k h) i many' wt'∧Fu n (b.set h false) many' wt'∧Same H1 H7)
        ⟨many,wt0,x6,rfl,iM6,iF6,iW6,HairJ.zero HI,FU.pop,sx6⟩ (fun i σ H7 _ ⟨_,_,_,_,_,_,_,_,_,s⟩=>SqL.of (s.ints iA)) ?_ ?_⟩
       · rintro i y σ H7 hi ⟨many',wt',y6,rfl,iM7,iF7,iW7,HJ,FJ,s7⟩
         obtain ⟨z,rfl,ez⟩:=get_int hi
         obtain ⟨o,rfl,on⟩:=bes_rng ok (List.mem_of_getElem? ez)
         have om:o < many'.length:=by rw [HJ.lm];exact on
         have eg:many'.getD o 0=many'[o]:=by simp [List.getD,om]
         refine ⟨_,rfl,_,rfl,Mn,_,o,.int many'[o],rfl,rfl,SqL.of iM7,by simp [om],_,_,rfl,rfl,Mn,_,_,o,rfl,rfl,iM7,ixN_nat' (by rw [List.length_map];omega),?_⟩
         have iM8:Ints (upd H7 Mn (.lst ((many'.map V.int).set o (.int (many'[o] - 1))))) Mn (many'.set o (many'.getD o 0 - 1)):=by
          show upd _ _ _ _=_
          rw [upd_same,eg,List.map_set]
         have iF8:upd H7 Mn (.lst ((many'.map V.int).set o (.int (many'[o] - 1)))) Lf=some (.lst ((b.set h false).map V.bl)):=by rw [upd_ne nLM];exact iF7
         have iW8:Ints (upd H7 Mn (.lst ((many'.map V.int).set o (.int (many'[o] - 1))))) W wt':=iW7.other nWM
         have s8:Same H1 (upd H7 Mn (.lst ((many'.map V.int).set o (.int (many'[o] - 1))))):=s7.upd nM
         generalize upd H7 Mn (.lst ((many'.map V.int).set o (.int (many'[o] - 1))))=H8 at iM8 iF8 iW8 s8
         have S:=HJ.step ez on
         have lb2:(b.set h false).length=n:=by rw [List.length_set];exact lb
         have eb:(b.set h false)[o]?=some (lv (b.set h false) o):=by
          unfold lv
          rw [List.getD,List.getElem?_eq_getElem (by omega)];rfl
         refine ⟨_,rfl,_,rfl,⟨⟨Lf,_,(o:Int),.bl (lv (b.set h false) o),rfl,rfl,SqL.of iF8,atI_nat (by rw [List.getElem?_map,eb];rfl),?_⟩⟩⟩
         have no:∀ {x6':Option V},¬ (lv (b.set h false) o=true∧o≠0∧many'.getD o 0 - 1=1)→∃ (many2 wt2:List Int) (y2:Option V),[some (V.ref g),some (.ref D),some (.ref Mn),some (.ref Lf),some (.ref W),some (.int h),x6']=[some (V.ref g),some (.ref D),some (.ref Mn),some (.ref Lf),some (.ref W),some (.int h),y2]∧Ints H8 Mn many2∧H8 Lf=some (.lst ((b.set h false).map V.bl))∧Ints H8 W wt2∧HairJ n b h many (bes T' k h) (i+1) many2 wt2∧Fu n (b.set h false) many2 wt2∧Same H1 H8:=
          fun {_} nn=>⟨_,wt',_,rfl,iM8,iF8,iW8,S,FJ.step om nn,s8⟩
         refine ⟨_,rfl,ite2 (fun z1=>?_) fun z1=>iteF (no fun w=>z1 w.1)⟩
         refine ⟨_,rfl,rfl,_,rfl,ite2 (fun z2=>?_) fun z2=>iteF (no fun w=>z2 (by simp [w.2.1]))⟩
         have o0:o≠0:=fun w=>by subst w;simp at z2
         refine ⟨_,rfl,_,rfl,rd_at o iM8 (by rw [List.length_set];exact om) ⟨rfl,_,rfl,ite2 (fun z3=>?_) fun z3=>no fun w=>z3 (decide_eq_true (by rw [getD_set om,if_pos rfl,w.2.2]))⟩⟩
         have z3:(many'.set o (many'.getD o 0 - 1)).getD o 0=1:=V.int.inj (of_decide_eq_true z3)
         rw [getD_set om,if_pos rfl] at z3
         have wl:=HJ.len
         refine ⟨_,rfl,.inl ⟨rfl,_,SqL.of iW8⟩,_,rfl,W,_,_,rfl,rfl,iW8,small4k (by rw [List.length_map];omega),?_⟩
         exact ⟨_,wt'++[(o:Int)],_,rfl,iM8.other nWM.symm,by rw [upd_ne nWL.symm];exact iF8,Ints.snoc,HJ.more ez on z1 o0 z3,FJ.more om,s8.upd nW1⟩
       · rintro σ H7 ⟨many',wt',y6,rfl,iM7,iF7,iW7,HJ,FJ,s7⟩
         rw [List.length_map] at HJ
         refine ⟨⟨_,_,_,_,_,rfl,iM7,iF7,iW7,HairJ.done ok n1 HI HJ,FJ,BG.step h0 (by have:=HI.ct h hn hl;omega),s7⟩,?_⟩
         rw [show H7 Lf=_ from iF7,show Hx Lf=_ from iF]
         exact cnt_set hl
   · rintro σ H Q Q' hq ⟨v,hv,k,t,q⟩
     exact ⟨v,hv,k,t,hq _ _ q⟩
theorem sc_core:FnScope ["chart","whole"] ["chart"] (defScope s_core):=scm
theorem ok_core17 {f C cN:Addr}{fd:FuncData} (F:Fun K "core" "core" s_core f fd) (NB:Rdx P w K mg base "numbered" ["chart","base"] 5 (spNbrX C cN)) (RE:Rdy P w K mg base "renumbered" ["chart","order"] 4 (spRen C)) (WHS:Rdy P w K mg base "without_hairs" ["chart"] 5 (spWithout17 C)):
  FnOk P w K mg base CX0 6 f fd ["chart"] (spCore17 C):=by
 refine F.ok sc_core (fun vs H Q E h=>?_) (fun cdv A outer s H vs Q E hr h=>?_)
 · obtain ⟨g,k,n,T',fp,rfl,_⟩:=h
   rfl
 · obtain ⟨g,k,n,T',fp,rfl,hc,q⟩:=h
   refine ⟨_,(@sC _ _ _ _ _ (@sS _ 1 _ _ _ _ _ sc_core.nd rfl (Or.inl rfl) (NB.pe0 hr (@aC _ _ _ _ _ (pv 0) (@aC _ _ _ _ _ pe_int pa_nil (by rfl)) (by rfl))) (by rfl) (.inl rfl))
    (@sO _ _ _ (@sR _ _ _ _ (NB.pe0 hr (@aC _ _ _ _ _ (RE.pe hr (@aC _ _ _ _ _ (pv 1) (@aC _ _ _ _ _ (WHS.pe hr (@aC _ _ _ _ _ (pv 1) pa_nil (by rfl))) pa_nil (by rfl)) (by rfl))) (@aC _ _ _ _ _ pe_int pa_nil (by rfl)) (by rfl)))))),?_⟩
   have n1:=hc.n1
   have z0:(0:Int)≤0∧(0:Int) < n:=by omega
   refine ⟨_,rfl,g,k,n,T',fp,0,rfl,hc,fun _ x fq H1 fx ffq hc1 s1=>?_,fun z=>absurd z0 z⟩
   have m1:=hc1.n1
   refine ⟨_,rfl,_,rfl,x,k,_,_,fq,rfl,hc1,deg_met hc.ok n1,fun l b H2 nl il lb av zb cl big s2=>?_⟩
   refine ⟨x,l,k,_,_,fq,leftL _ b,rfl,hc1.same s2,il,leftL_nd _ b,leftL_lt,fun z=>?_,fun x2 fq2 H3 fx2 ffq2 hc2 s3=>?_⟩
   · have:=leftL_head m1 zb
     rw [z] at this;cases this
   have m2:=hc2.n1
   refine ⟨x2,k,_,_,fq2,0,rfl,hc2,fun _ x3 fq3 H4 fx3 ffq3 hc3 s4=>?_,fun z=>absurd ⟨by omega,by omega⟩ z⟩
   have s03:=s1.trans (s2.trans s3)
   exact q x3 fq3 _ b H4 (s03.free fx3) (fun a ha=>s03.free (ffq3 a ha)) hc3 ⟨lb,zb,cl,big⟩ (s03.trans s4)
theorem sc__law_ends:FnScope ["_law_table_here","_law_kinds","_law_here","_law_many","_law_kind"] ["_law_table_here","_law_kinds","_law_here"] (defScope s__law_ends):=scm
theorem ok_ends {f:Addr}{fd:FuncData} (F:Fun K "_law_ends" "_law_ends" s__law_ends f fd) (T:Txt K mg) (LD:Rdy P w K mg base "_law_led" ["_law_table_here","_law_here","_law_one"] 1 spLed):
  FnOk P w K mg base CX0 2 f fd ["_law_table_here","_law_kinds","_law_here"] spEnds:=by
 refine F.ok sc__law_ends (fun vs H Q E h=>?_) (fun cdv A outer s H vs Q E hr h=>?_)
 · obtain ⟨t,as,T',k,n,c,rfl,_⟩:=h
   rfl
 · obtain ⟨t,as,T',k,n,c,rfl,tb,ok,n7,k5,cn,q⟩:=h
   refine ⟨_,(@sC _ _ _ _ _ (@sS _ 3 _ _ _ _ _ sc__law_ends.nd rfl (Or.inl rfl) pe_int (by rfl) (.inl rfl))
    (@sC _ _ _ _ _ (ps_for PassesOwn.never rfl (pi_range1 rfl T.range (@aC _ _ _ _ _ (pv 1) pa_nil (by rfl))) (pg_name (i:=4) sc__law_ends.nd rfl (Or.inl rfl)) (@sC _ _ _ _ _ (@sS _ 3 _ _ _ _ _ sc__law_ends.nd rfl (Or.inl rfl) (pe_op op_add (pv 3) (pe_callTy call_int1 rfl T.int bt_int (pa_cons (pe_cmpR op_notN (pe_ix ix_l (pe_ix ix_l (pv 0) (pv 2) (fun _ _=>rfl)) (pv 4) (fun _ _=>rfl)) pe_non (nomark _)) pa_nil))) (by rfl) (.inl rfl))
    (@sO _ _ _ (@sS _ 3 _ _ _ _ _ sc__law_ends.nd rfl (Or.inl rfl) (pe_op op_add (pv 3) (pe_callTy call_int1 rfl T.int bt_int (pa_cons (pe_cmpR op_notN (LD.pe hr (pa_cons (pv 0) (pa_cons (pv 2) (pa_cons (pe_op op_sub (pe_un un_neg (pv 4)) pe_int) pa_nil)))) pe_non (nomark _)) pa_nil))) (by rfl) (.inl rfl)))))
    (@sO _ _ _ (@sR _ _ _ _ (pv 3))))),?_⟩
   refine ⟨_,rfl,_,rfl,by omega,by omega,for_range (lo:=0) (n:=(k:Int).toNat) (fun i σ H2=>(∃ x4,σ=[some (.ref t),some (.int k),some (.int c),some (.int (endsN T' i c:Nat)),x4])∧H2=H) ⟨⟨none,rfl⟩,rfl⟩ ?_ ?_⟩
   · rintro i σ H2 hi ⟨⟨x4,rfl⟩,rfl⟩
     have hi:i < k:=by omega
     obtain ⟨a,ea,_,e2,hra⟩:=tb.at (i:=c) (by rw [ok.len];exact cn)
     have rl:(T'.getD c []).length=k:=ok.row _ (List.mem_of_getElem? e2)
     have n1:∀ o:Option Int,(!decide (oV o=V.non))=o.isSome:=fun o=>by cases o <;> simp [oV]
     refine ⟨_,rfl,_,rfl,_,rfl,rd_row c tb ea ⟨_,rfl,rd_cell i hra (by omega) ⟨rfl,.inr ⟨_,rfl,_,_,rfl,rfl,?_⟩⟩ (by omega)⟩⟩
     rw [n1]
     have lk:Let k (-(0+(i:Int)) - 1):=⟨by omega,by omega,by omega⟩
     refine ⟨_,rfl,_,rfl,_,rfl,_,rfl,_,rfl,_,_,rfl,rfl,t,as,T',k,n,c,_,rfl,tb,ok,n7,cn,lk,⟨rfl,.inr ⟨_,rfl,_,_,rfl,rfl,⟨some (.int (0+(i:Int))),?_⟩,rfl⟩⟩⟩
     rw [n1]
     have e3:sgo T' c (-(0+(i:Int)) - 1)=pre T' i c:=by
      unfold sgo
      rw [if_neg (by omega),show (-(-(0+(i:Int)) - 1) - 1).toNat=i by omega]
     rw [e3]
     show [_,_,_,some (V.int _),_]=_
     have e4:((endsN T' (i+1) c:Nat):Int)=(endsN T' i c:Nat)+(if (cell T' c i).isSome=true then 1 else 0)+(if (pre T' i c).isSome=true then 1 else 0):=by
      rw [endsN_succ]
      split <;> split <;> simp
     rw [e4];rfl
   · rintro σ H2 ⟨⟨x4,rfl⟩,rfl⟩
     rw [Int.toNat_natCast]
     exact ⟨_,rfl,q⟩
theorem sc__law_shorn:FnScope ["_law_table_here","_law_kinds","_law_moving","_law_here","_law_c"] ["_law_table_here","_law_kinds"] (defScope s__law_shorn):=scm
theorem ok_shorn {f:Addr}{fd:FuncData} (F:Fun K "_law_shorn" "_law_shorn" s__law_shorn f fd) (T:Txt K mg) (hrev:mg "reversed"=none) (EN:Rdy P w K mg base "_law_ends" ["_law_table_here","_law_kinds","_law_here"] 2 spEnds) (OR:Rdy P w K mg base "_law_order" ["_law_table_here","_law_kinds","_law_base"] 2 spOrder) (IO:Rdy P w K mg base "_law_in_order" ["_law_table_here","_law_order_here"] 1 spInO):
  FnOk P w K mg base CX0 3 f fd ["_law_table_here","_law_kinds"] spShorn:=by
 refine F.ok sc__law_shorn (fun vs H Q E h=>?_) (fun cdv A outer s H vs Q E hr h=>?_)
 · obtain ⟨t,as,T',k,n,b,rfl,_⟩:=h
   rfl
 · obtain ⟨t,as,T',k,n,b,rfl,tb,ok,n1,n7,k1,k5,hc,q⟩:=h
   refine ⟨_,(@sC _ _ _ _ _ (@sS _ 2 _ _ _ _ _ sc__law_shorn.nd rfl (Or.inl rfl) pe_bl (by rfl) (.inl rfl))
    (@sC _ _ _ _ _ (ps_while PassesOwn.never (pt_val (pv 2)) (@sC _ _ _ _ _ (@sS _ 2 _ _ _ _ _ sc__law_shorn.nd rfl (Or.inl rfl) pe_bl (by rfl) (.inl rfl))
    (@sO _ _ _ (ps_for PassesOwn.never rfl (pi_rev rfl hrev bt_rev (@aC _ _ _ _ _ (pe_rng2 rfl T.range (@aC _ _ _ _ _ pe_int (@aC _ _ _ _ _ (pe_callB call_len_seq (by rfl) T.len PySem.boot_len (@aC _ _ _ _ _ (pv 0) pa_nil (by rfl))) pa_nil (by rfl)) (by rfl))) pa_nil (by rfl))) (pg_name (i:=3) sc__law_shorn.nd rfl (Or.inr rfl)) (@sO _ _ _ (ps_if (pt_cmpR op_eq (EN.pe hr (@aC _ _ _ _ _ (pv 0) (@aC _ _ _ _ _ (pv 1) (@aC _ _ _ _ _ (pv 3) pa_nil (by rfl)) (by rfl)) (by rfl))) pe_int (nomark _)) (@sC _ _ _ _ _ (@sS _ 2 _ _ _ _ _ sc__law_shorn.nd rfl (Or.inl rfl) pe_bl (by rfl) (.inl rfl))
    (@sO _ _ _ (ps_for PassesOwn.never rfl (pi_range1 rfl T.range (@aC _ _ _ _ _ (pe_callB call_len_seq (by rfl) T.len PySem.boot_len (@aC _ _ _ _ _ (pv 0) pa_nil (by rfl))) pa_nil (by rfl))) (pg_name (i:=4) sc__law_shorn.nd rfl (Or.inr rfl)) (@sO _ _ _ (ps_asg (pe_compW ["_law_c","_law_here"] [4,3] (pi_list (pe_ix ix_l (pv 0) (pv 4) (fun _ _=>rfl))) (fun C s H fp=>pe_ifExp (PW.pt (pw_or (pt_cmpR op_eq (pv 1) (pv 2) (nomark _)) (pw_or1 (pt_cmpR op_eq (pv 0) (pv 2) (nomark _))))) pe_non (pv 0)) (hcl_two rfl rfl)) (pg_sub (pv 0) (pv 4) set_list)))))) pss_nil))))))
    (@sO _ _ _ (@sR _ _ _ _ (IO.pe hr (@aC _ _ _ _ _ (pv 0) (@aC _ _ _ _ _ (OR.pe hr (@aC _ _ _ _ _ (pv 0) (@aC _ _ _ _ _ (pv 1) (@aC _ _ _ _ _ pe_int pa_nil (by rfl)) (by rfl)) (by rfl))) pa_nil (by rfl)) (by rfl))))))),?_⟩
   have mi:=met_inv ok (k:=k) (show 0 < n by omega)
   have ok1:=renT_ok ok mi.1.nd mi.1.lt
   have p1:0 < (met T' k n 0).length:=List.length_pos_of_mem mi.2.1
   have pn:(met T' k n 0).length≤n:=OInv.len ⟨mi.1.nd,mi.1.lt⟩
   have hdone:=fun {U b'} (I:ShI (renT T' (met T' k n 0)) k (met T' k n 0).length b U b')=>I.done ok n1 hc
   have lb:=hc.lb
   have cl:=hc.cl
   generalize eT1:renT T' (met T' k n 0)=T1 at *
   generalize eN:(met T' k n 0).length=m at *
   refine ⟨fun q' σ H4=>∃ (mv:Bool) (U:Tab) (b':List Bool) (as4:List Addr) (x3 x4:Option V),q'=(b'.map V.bl).countP isT+(if mv=true then 1 else 0)∧σ=[some (.ref t),some (.int k),some (.bl mv),x3,x4]∧Tb H4 t as4 U∧ShI T1 k m b U b'∧(mv=false→∀ c,c < m→c≠0→endsN U k c≠1)∧Kp t H H4,
    ⟨_,true,T1,List.replicate m true,as,none,none,rfl,rfl,tb,ShI.zero ok1 p1 lb,(fun z=>nomatch z),fun _ _ e _=>e⟩,?_⟩
   rintro q0 σ H4 ⟨mv,U,b',as4,x3,x4,rfl,rfl,tb4,I4,fin4,kp4⟩
   refine ⟨_,rfl,_,rfl,?_⟩
   cases mv with
   | false=>
    refine iteF ?_
    have fin4:=fin4 rfl
    have okU:=I4.okU
    have miU:=met_inv okU (k:=k) p1
    refine ⟨_,rfl,_,rfl,_,rfl,t,as4,U,k,m,0,rfl,tb4,okU,k1,k5,by omega,p1,fun la H5 fa ia s5=>?_⟩
    refine ⟨t,la,as4,k,m,U,met U k m 0,rfl,tb4.same s5,okU,by omega,k5,ia,miU.1.nd,miU.1.lt,fun u bs H6 fu tb6 s6=>?_⟩
    rw [hdone I4 fin4] at tb6
    exact q u bs H6 tb6 fun a o e ne=>s6 _ _ (s5 _ _ (kp4 a o e ne))
   | true=>
    refine iteT ?_
    refine ⟨_,fun σ' H' w=>w,?_⟩
    have lU:U.length=m:=I4.okU.len
    have la4:((as4.map V.ref).length:Int)=m:=by rw [List.length_map,tb4.len,lU]
    refine ⟨_,rfl,t,_,rfl,.inl (SqL.of tb4.is),1,_,rfl,fun r hr0=>?_⟩
    rw [la4]
    have n62:(m:Int) < 2 ^ 62:=by
     have:(m:Int)≤700:=by omega
     exact Int.lt_of_le_of_lt this (by decide)
    refine ⟨r,1,(m:Int),rfl,upd_same,⟨by decide,by decide,Int.le_trans (by decide) (Int.natCast_nonneg m),n62⟩,?_⟩
    have em:((m:Int) - 1).toNat=m - 1:=by omega
    rw [em]
    refine for_rangeD (fun i σ H5=>∃ (mv:Bool) (U5:Tab) (b5:List Bool) (as5:List Addr) (x3 x4:Option V),σ=[some (.ref t),some (.int k),some (.bl mv),x3,x4]∧Tb H5 t as5 U5∧ShI T1 k m b U5 b5∧Kp t H H5∧
     (mv=false→(b5.map V.bl).countP isT=(b'.map V.bl).countP isT∧∀ c,m≤c+i→c < m→c≠0→endsN U5 k c≠1)∧(mv=true→(b5.map V.bl).countP isT < (b'.map V.bl).countP isT))
     ⟨false,U,b',as4,x3,x4,rfl,tb4.fresh hr0,I4,fun a o e ne=>by rw [upd_ne (fun z=>by rw [z] at e;have:=kp4 r o e (by intro w;rw [w] at hr0;rw [tb4.is] at hr0;cases hr0);rw [hr0] at this;cases this)];exact kp4 a o e ne,fun _=>⟨rfl,fun c h1 h2=>by omega⟩,fun z=>nomatch z⟩ ?_ ?_
    · rintro i σ H5 hi ⟨mv,U5,b5,as5,y3,y4,rfl,tb5,I5,kp5,f5,t5⟩
      obtain ⟨h,eh,hh1,hh2⟩:∃ h:Nat,(1:Int)+((m - 1:Nat):Int) - 1 - (i:Int)=(h:Int)∧1≤h∧h+i+1=m:=⟨m - 1 - i,by omega,by omega,by omega⟩
      rw [eh]
      have okU:=I5.okU
      refine ⟨_,rfl,_,rfl,_,rfl,t,as5,U5,k,m,h,rfl,tb5,okU,by omega,k5,by omega,?_⟩
      refine ⟨rfl,_,rfl,ite2 (fun z=>?_) fun z=>?_⟩
      · have z:endsN U5 k h=1:=by
          have:=V.int.inj (of_decide_eq_true z)
          omega
        obtain ⟨I6,lt6⟩:=I5.step ok1 cl (show h≠0 by omega) z
        have lU5:U5.length=m:=okU.len
        have la5:((as5.map V.ref).length:Int)=m:=by rw [List.length_map,tb5.len,lU5]
        refine ⟨_,rfl,t,_,rfl,.inl (SqL.of tb5.is),_,rfl,?_⟩
        rw [la5]
        refine ⟨by omega,by omega,for_range (lo:=0) (n:=(m:Int).toNat) (fun c σ H6=>∃ (as6:List Addr) (z4:Option V),σ=[some (.ref t),some (.int k),some (.bl true),some (.int h),z4]∧Tb H6 t as6 (midC U5 h c)∧Kp t H H6)
         ⟨as5,_,rfl,by rw [midC_zero];exact tb5,kp5⟩ ?_ ?_⟩
        · rintro c σ H6 hc ⟨as6,z4,rfl,tb6,kp6⟩
          have hc:c < m:=by omega
          rw [Int.zero_add]
          obtain ⟨ra,era,mra,_,hra⟩:=tb6.at (i:=c) (by rw [midC_len];omega)
          rw [midC_at] at hra
          have eT:U5[c]?=some (U5.getD c []):=by simp [List.getD,lU5,hc]
          have rl:(U5.getD c []).length=k:=okU.row _ (List.mem_of_getElem? eT)
          let fv:V→V:=fun v=>match v with | .int e=>oV (cutRow h c (some e)) | _=>.non
          have fo:∀ o,fv (oV o)=oV (cutRow h c o):=fun o=>by
           cases o with
           | none=>
            show V.non=oV (cutRow h c none)
            unfold cutRow
            split <;> rfl
           | some e=>rfl
          refine ⟨_,rfl,_,rfl,rd_row c tb6 era ⟨ra,rfl,⟨_,SqL.of hra⟩,comp_valsW (K:=K) fv (SqL.of hra) (small4k (by rw [List.length_map];omega)) (fun z hz H7 Q7 s7 q7=>?_) fun l H7 hl h7 s7=>?_⟩⟩
          · obtain ⟨o,mo,rfl⟩:=List.mem_map.mp hz
            rw [fo] at q7
            refine ⟨_,rfl,_,rfl,rfl,_,rfl,?_⟩
            have key:∀ bb:Bool,bb=decide (c=h∨o=some (h:Int))→if bb=true then Q7 V.non H7 else ∃ v,some (some (oV o))=some (some v)∧Q7 v H7:=fun bb eb=>by
             unfold cutRow at q7
             by_cases w:c=h∨o=some (h:Int)
             · rw [if_pos w] at q7
               exact iteTe (eb.trans (decide_eq_true w)) q7
             · rw [if_neg w] at q7
               exact iteFe (eb.trans (decide_eq_false w)) ⟨_,rfl,q7⟩
            refine ite2 (fun w=>key true ?_) fun w=>?_
            · have:c=h:=by have:=V.int.inj (of_decide_eq_true w);omega
              rw [decide_eq_true (Or.inl this)]
            · have nc:¬ c=h:=fun e=>w (by rw [e];exact decide_eq_true rfl)
              refine ⟨_,rfl,_,rfl,?_,_,rfl,?_⟩
              · cases o <;> rfl
              · refine (key (decide (oV o=V.int (h:Int))) ?_:_)
                cases o with
                | none=>rw [decide_eq_false (fun x=>nomatch x),decide_eq_false (fun x=>x.elim nc fun y=>nomatch y)]
                | some e=>
                 show decide (V.int e=V.int (h:Int))=_
                 by_cases x:e=(h:Int)
                 · rw [x,decide_eq_true rfl,decide_eq_true (Or.inr rfl)]
                 · rw [decide_eq_false (fun y=>x (V.int.inj y)),decide_eq_false (fun y=>y.elim nc fun y=>x (Option.some.inj y))]
          · have tb7:=tb6.same s7
            have hl7:Row H7 l ((U5.getD c []).map (cutRow h c)):=by
             show H7 l=_
             rw [h7,List.map_map,List.map_map]
             exact congrArg (fun l=>some (HO.lst l)) (List.map_congr_left fun o _=>fo o)
            have nlt:l≠t:=fun w=>by rw [w,tb6.is] at hl;cases hl
            have la6:as6.length=m:=by rw [tb6.len,midC_len];exact lU5
            refine ⟨_,rfl,_,rfl,t,_,(c:Int),c,rfl,rfl,tb7.is,?_,as6.set c l,_,rfl,?_,fun a o e ne=>?_⟩
            · unfold ixN
              rw [if_pos (by omega),if_pos (by rw [List.length_map];omega)];rfl
            · have:=tb7.put (i:=c) hl7 nlt (by omega)
              rw [midC_set] at this
              exact this
            · show upd _ _ _ _=_
              rw [upd_ne ne]
              exact s7 _ _ (kp6 a o e ne)
        · rintro σ H6 ⟨as6,z4,rfl,tb6,kp6⟩
          rw [show (m:Int).toNat=U5.length by omega,midC_all] at tb6
          exact ⟨true,cutH U5 h,b5.set h false,as6,_,_,rfl,tb6,I6,kp6,fun z=>(nomatch z),fun _=>by
           cases mv with
           | false=>rw [← (f5 rfl).1];exact lt6
           | true=>exact Nat.lt_trans lt6 (t5 rfl)⟩
      · have z:endsN U5 k h≠1:=fun w=>z (by rw [w];exact decide_eq_true rfl)
        refine ⟨mv,U5,b5,as5,_,_,rfl,tb5,I5,kp5,fun w=>⟨(f5 w).1,fun c h1 h2 h3=>?_⟩,t5⟩
        by_cases e:c=h
        · rw [e];exact z
        · exact (f5 w).2 c (by omega) h2 h3
    · rintro σ H5 ⟨mv,U5,b5,as5,y3,y4,rfl,tb5,I5,kp5,f5,t5⟩
      refine ⟨(b5.map V.bl).countP isT+(if mv=true then 1 else 0),?_,mv,U5,b5,as5,y3,y4,rfl,rfl,tb5,I5,fun z c h1 h2=>(f5 z).2 c (by omega) h1 h2,kp5⟩
      rw [if_pos rfl]
      cases mv with
      | false=>rw [if_neg Bool.false_ne_true,(f5 rfl).1];omega
      | true=>have:=t5 rfl;rw [if_pos rfl];omega
theorem sc__law_tailed:FnScope ["_law_table_here","_law_kinds","_law_draws","_law_here","_law_d","_law_fresh","_law_kind"] ["_law_table_here","_law_kinds","_law_draws"] (defScope s__law_tailed):=scm
theorem ok_tailed {f:Addr}{fd:FuncData} (F:Fun K "_law_tailed" "_law_tailed" s__law_tailed f fd) (T:Txt K mg) (LD:Rdy P w K mg base "_law_led" ["_law_table_here","_law_here","_law_one"] 1 spLed):
  FnOk P w K mg base CX0 2 f fd ["_law_table_here","_law_kinds","_law_draws"] spTailed:=by
 refine F.ok sc__law_tailed (fun vs H Q E h=>?_) (fun cdv A outer s H vs Q E hr h=>?_)
 · obtain ⟨t,ld,as,T',k,n,ds,rfl,_⟩:=h
   rfl
 · obtain ⟨t,ld,as,T',k,n,ds,rfl,tb,ok,k1,k5,n1,n16,id,d1,d36,q⟩:=h
   refine ⟨_,(@sC _ _ _ _ _ (ps_compW 0 [] [] sc__law_tailed.nd (pi_list (pv 0)) (fun C s H fp=>pe_callTy (listK K rfl) rfl T.list bt_list (pa_cons (pv 0) pa_nil)) hcl_nil)
    (@sC _ _ _ _ _ (@sS _ 3 _ _ _ _ _ sc__law_tailed.nd rfl (Or.inl rfl) (pe_op op_mod (pe_ix ix_l (pv 2) pe_int (fun _ _=>rfl)) (pe_callB call_len_seq (by rfl) T.len PySem.boot_len (@aC _ _ _ _ _ (pv 0) pa_nil (by rfl)))) (by rfl) (.inl rfl))
    (@sC _ _ _ _ _ (ps_for PassesOwn.never rfl (pi_list (pe_slice sl_l (pv 2) (po_some pe_int) po_none)) (pg_name (i:=4) sc__law_tailed.nd rfl (Or.inl rfl)) (@sC _ _ _ _ _ (@sS _ 5 _ _ _ _ _ sc__law_tailed.nd rfl (Or.inl rfl) (pe_callB call_len_seq (by rfl) T.len PySem.boot_len (@aC _ _ _ _ _ (pv 0) pa_nil (by rfl))) (by rfl) (.inl rfl))
    (@sC _ _ _ _ _ (@sS _ 6 _ _ _ _ _ sc__law_tailed.nd rfl (Or.inl rfl) (pe_op op_mod (pv 4) (pv 1)) (by rfl) (.inl rfl))
    (@sC _ _ _ _ _ (ps_expr (pe_bm PySem.F.plainAttrs_list PySem.F.slot_list_append PySem.F.type_list_append mt_append (pv 0) (@aC _ _ _ _ _ (pe_compW [] [] (pi_range1 rfl T.range (pa_cons (pv 1) pa_nil)) (fun C s H fp=>pe_non) hcl_nil) pa_nil (by rfl))))
    (@sO _ _ _ (ps_if (PW.pt (pw_and (pt_cmpR op_eq (pe_op op_mod (pe_op op_fdiv (pv 4) pe_int) pe_int) pe_int (nomark _)) (pw_and1 (pt_cmpR op_isN (pe_ix ix_l (pe_ix ix_l (pv 0) (pv 3) (fun _ _=>rfl)) (pv 6) (fun _ _=>rfl)) pe_non (nomark _))))) (@sC _ _ _ _ _ (ps_asg (pv 5) (pg_sub (pe_ix ix_l (pv 0) (pv 3) (fun _ _=>rfl)) (pv 6) set_list))
    (@sO _ _ _ (@sS _ 3 _ _ _ _ _ sc__law_tailed.nd rfl (Or.inl rfl) (pv 5) (by rfl) (.inl rfl)))) (@sO _ _ _ (ps_if (pt_cmpR op_isN (LD.pe hr (@aC _ _ _ _ _ (pe_slice sl_l (pv 0) po_none (po_some (pe_un un_neg pe_int))) (@aC _ _ _ _ _ (pv 3) (@aC _ _ _ _ _ (pe_op op_sub (pe_un un_neg (pv 6)) pe_int) pa_nil (by rfl)) (by rfl)) (by rfl))) pe_non (nomark _)) (@sC _ _ _ _ _ (ps_asg (pv 3) (pg_sub (pe_ix ix_l (pv 0) (pv 5) (fun _ _=>rfl)) (pv 6) set_list))
    (@sO _ _ _ (@sS _ 3 _ _ _ _ _ sc__law_tailed.nd rfl (Or.inl rfl) (pv 5) (by rfl) (.inl rfl)))) pss_nil))))))))
    (@sO _ _ _ (@sR _ _ _ _ (pv 0)))))),?_⟩
   have lT:=ok.len
   refine ⟨_,rfl,t,rfl,⟨_,SqL.of tb.is⟩,comp_tabL (xs:=as.map V.ref) T' (SqL.of tb.is) (by rw [List.length_map,tb.len]) (by rw [List.length_map,tb.len];omega) (fun i x r hi hr2 H2 s2 Q' q'=>?_) fun t2 bs H2 N2=>?_⟩
   · obtain ⟨a,rfl,ea⟩:=get_adr hi
     exact ⟨_,rfl,rd_listO ((tb.rw i a r ea hr2).same s2) q'⟩
   · refine w_name ?_
     have id2:=N2.sm.ints id
     have l2:((bs.map V.ref).length:Int)=n:=by rw [List.length_map,N2.tb.len,lT]
     refine ⟨_,rfl,rd_at 0 id2 (by omega) ⟨_,rfl,t2,_,rfl,.inl (SqL.of N2.tb.is),_,_,rfl,rfl,?_⟩⟩
     rw [l2]
     have a0:=Int.emod_nonneg (ds.getD 0 0) (show (n:Int)≠0 by omega)
     have a1:=Int.emod_lt_of_pos (ds.getD 0 0) (show (0:Int) < n by omega)
     obtain ⟨c0,ec0,cn0⟩:∃ c:Nat,ds.getD 0 0 % (n:Int)=(c:Int)∧c < n:=⟨(ds.getD 0 0 % (n:Int)).toNat,by omega,by omega⟩
     refine ⟨by show (0:Int) < n;omega,?_⟩
     show gName 3 (V.int (ds.getD 0 0 % (n:Int))) _ _ _
     rw [ec0]
     refine ⟨_,rfl,_,rfl,rd_slice id2 fun lq H3 f3 i3 s3=>?_⟩
     have cl3:=cutL_len ds (some 1) none
     generalize cutL ds (some 1) none=es at i3 cl3
     have N3:=N2.more s3
     refine ⟨lq,rfl,⟨_,SqL.of i3⟩,for_list (K:=K) (a:=lq) (xs:=es.map V.int) (fun i σ H4=>∃ (T4:Tab) (as4:List Addr) (n4 c:Nat) (x4 x5 x6:Option V),σ=[some (.ref t2),some (.int k),some (.ref ld),some (.int c),x4,x5,x6]∧NewT H H4 t2 as4 T4∧TabOk k n4 T4∧1≤n4∧n4≤n+i∧c < n4∧Ints H4 lq es∧lq∉t2::as4)
      ⟨T',bs,n,c0,none,none,none,rfl,N3,ok,n1,Nat.le_refl _,cn0,i3,N2.not f3⟩ (fun i σ H4 _ ⟨_,_,_,_,_,_,_,_,_,_,_,_,_,ii,_⟩=>SqL.of ii) ?_ ?_⟩
     · rintro i x σ H4 hi ⟨T4,as4,n4,c,x4,x5,x6,rfl,N4,ok4,n41,n4n,cn,i4,nq4⟩
       obtain ⟨d,rfl,ed⟩:=get_int hi
       have hil:i < es.length:=(List.getElem?_eq_some_iff.mp ed).1
       have l4:((as4.map V.ref).length:Int)=n4:=by rw [List.length_map,N4.tb.len,ok4.len]
       refine ⟨_,rfl,t2,_,rfl,.inl (SqL.of N4.tb.is),?_⟩
       rw [l4]
       have b0:=Int.emod_nonneg d (show (k:Int)≠0 by omega)
       have b1:=Int.emod_lt_of_pos d (show (0:Int) < k by omega)
       obtain ⟨j,ej,jk⟩:∃ j:Nat,d % (k:Int)=(j:Int)∧j < k:=⟨(d % (k:Int)).toNat,by omega,by omega⟩
       refine ⟨_,rfl,_,rfl,_,_,rfl,rfl,(by show (0:Int) < k;omega),?_⟩
       show gName 6 (V.int (d % (k:Int))) _ _ _
       rw [ej]
       refine ⟨_,rfl,.inl ⟨rfl,_,SqL.of N4.tb.is⟩,_,rfl,_,rfl,by omega,by omega,comp_nons (k:=(k:Int).toNat) (by omega) fun p H5 hp ip s5=>?_⟩
       have ep:(List.replicate (k:Int).toNat (none:Option Int))=List.replicate k none:=by rw [Int.toNat_natCast]
       rw [ep] at ip
       have N5:=N4.more s5
       refine ⟨t2,_,_,rfl,rfl,N5.tb.is,small4k (by rw [List.length_map,N5.tb.len,ok4.len];omega),?_⟩
       have N6:NewT H (upd H5 t2 (.lst (as4.map V.ref++[V.ref p]))) t2 (as4++[p]) (T4++[List.replicate k none]):=N4.snoc hp ip s5
       have ok6:=ok4.one
       have nl6:lq≠t2:=fun z=>nq4 (z▸List.mem_cons_self ..)
       have nlp:lq≠p:=fun z=>by rw [← z,show H4 lq=_ from i4] at hp;cases hp
       have nq6:lq∉t2::(as4++[p]):=fun z=>by
        rcases List.mem_cons.mp z with z | z
        · exact nl6 z
        · rcases List.mem_append.mp z with z | z
          · exact nq4 (List.mem_cons_of_mem _ z)
          · exact nlp (List.mem_singleton.mp z)
       have i6:Ints (upd H5 t2 (.lst (as4.map V.ref++[V.ref p]))) lq es:=by
        show upd _ _ _ _=_
        rw [upd_ne nl6];exact s5 _ _ i4
       generalize upd H5 t2 (.lst (as4.map V.ref++[V.ref p]))=H6 at N6 i6
       obtain ⟨ra,era,mra,_,hra⟩:=N6.tb.at (i:=c) (by rw [ok6.len];omega)
       have eT:(T4++[List.replicate k none])[c]?=some ((T4++[List.replicate k none]).getD c []):=by rw [List.getD,List.getElem?_eq_getElem (by rw [ok6.len];omega)];rfl
       have rl:((T4++[List.replicate k none]).getD c []).length=k:=ok6.row _ (List.mem_of_getElem? eT)
       have cj6:cell (T4++[List.replicate k none]) c j=cell T4 c j:=cell_one T4 k c j
       have setq:∀ {x:Addr}{r:List (Option Int)},x∈as4++[p]→Ints (upd H6 x (.lst (r.map oV))) lq es:=fun {x r} mx=>by
        show upd _ _ _ _=_
        rw [upd_ne (fun z:lq=x=>nq6 (by rw [z];exact List.mem_cons_of_mem _ mx))];exact i6
       refine ⟨_,rfl,_,_,rfl,rfl,⟨by decide,by decide⟩,_,_,rfl,rfl,(by show (0:Int) < 2;decide),rfl,_,rfl,ite_and ?_ fun hB z=>?_⟩
       · refine iteF ?_
         have nt6:=N6.tb
         refine ⟨_,rfl,_,rfl,_,rfl,rd_sliceV nt6.is fun sl H7 f7 h7 s7=>?_⟩
         rw [List.map_append,show ([p].map V.ref)=[V.ref p] from rfl,cutV_last] at h7
         have tb7:Tb H7 sl as4 T4:=⟨h7,N4.tb.len,fun i' a' r' e1 e2=>by
          have l1:=(List.getElem?_eq_some_iff.mp e1).1
          have l2:=(List.getElem?_eq_some_iff.mp e2).1
          exact s7 _ _ (nt6.rw i' a' r' (by rw [List.getElem?_append_left l1];exact e1) (by rw [List.getElem?_append_left l2];exact e2))⟩
         have lk:Let k (-(j:Int) - 1):=⟨by omega,by omega,by omega⟩
         refine ⟨_,rfl,_,rfl,_,rfl,_,_,rfl,rfl,sl,as4,T4,k,n4,c,_,rfl,tb7,ok4,by omega,cn,lk,⟨rfl,_,rfl,?_⟩⟩
         cases el:sgo T4 c (-(j:Int) - 1) with
         | some e=>exact iteFe (decide_eq_false (fun z=>nomatch z)) ⟨_,_,n4+1,c,_,_,_,rfl,N6.more s7,ok6,by omega,by omega,by omega,s7 _ _ i6,nq6⟩
         | none=>
          refine iteTe rfl ?_
          have N7:=N6.more s7
          obtain ⟨rb,erb,mrb,_,hrb⟩:=N7.tb.at (i:=n4) (by rw [ok6.len];omega)
          have eTb:(T4++[List.replicate k none])[n4]?=some ((T4++[List.replicate k none]).getD n4 []):=by rw [List.getD,List.getElem?_eq_getElem (by rw [ok6.len];omega)];rfl
          have rlb:((T4++[List.replicate k none]).getD n4 []).length=k:=ok6.row _ (List.mem_of_getElem? eTb)
          refine ⟨_,rfl,_,rfl,_,rfl,rd_row n4 N7.tb erb ⟨_,rfl,rb,_,(j:Int),j,rfl,rfl,hrb,?_,_,rfl,?_⟩⟩
          · unfold ixN
            rw [if_pos (by omega),if_pos (by rw [List.length_map];omega)];rfl
          · have eh:(((T4++[List.replicate k none]).getD n4 []).map oV).set j (V.int (c:Int))=(((T4++[List.replicate k none]).getD n4 []).set j (some (c:Int))).map oV:=by rw [List.map_set];rfl
            rw [eh]
            refine ⟨_,_,n4+1,n4,_,_,_,rfl,N7.set erb _,ok6.put (by omega) jk (by omega) ?_ (fun d' hd=>?_),by omega,by omega,by omega,?_,nq6⟩
            · rw [cell_one]
              cases w:cell T4 n4 j with
              | none=>rfl
              | some e=>have:=cell_lt ok4 w;omega
            · rw [cell_one] at hd
              have dl:=cell_lt ok4 hd
              have:sgo T4 c (-(j:Int) - 1)=some (d':Int):=by
               unfold sgo
               rw [if_neg (by omega),show (-(-(j:Int) - 1) - 1).toNat=j by omega]
               exact (pre_iff ok4).mpr ⟨d',rfl,dl,hd⟩
              rw [el] at this;cases this
            · show upd _ _ _ _=_
              rw [upd_ne (fun z:lq=rb=>nq6 (by rw [z];exact List.mem_cons_of_mem _ mrb))]
              exact s7 _ _ i6
       · refine ⟨_,rfl,_,rfl,rd_row c N6.tb era ⟨_,rfl,rd_cell j hra (by omega) ⟨rfl,_,rfl,?_⟩⟩⟩
         have ej6:((T4++[List.replicate k none]).getD c []).getD j none=cell T4 c j:=cj6
         rw [ej6]
         cases ec:cell T4 c j with
         | some e=>exact hB
         | none=>
          refine iteTe rfl ?_
          refine ⟨_,rfl,_,rfl,_,rfl,rd_row c N6.tb era ⟨_,rfl,ra,_,(j:Int),j,rfl,rfl,hra,?_,_,rfl,?_⟩⟩
          · unfold ixN
            rw [if_pos (by omega),if_pos (by rw [List.length_map];omega)];rfl
          · have eh:(((T4++[List.replicate k none]).getD c []).map oV).set j (V.int (n4:Int))=(((T4++[List.replicate k none]).getD c []).set j (some (n4:Int))).map oV:=by rw [List.map_set];rfl
            rw [eh]
            refine ⟨_,_,n4+1,n4,_,_,_,rfl,N6.set era _,ok6.put (by omega) jk (by omega) (cj6.trans ec) (fun d' hd=>?_),by omega,by omega,by omega,setq mra,nq6⟩
            rw [cell_one] at hd
            have:=ok4.rng _ _ _ hd
            omega
     · rintro σ H4 ⟨T4,as4,n4,c,x4,x5,x6,rfl,N4,ok4,n41,n4n,cn,i4,nq4⟩
       rw [List.length_map] at n4n
       exact ⟨_,rfl,q t2 as4 T4 n4 H4 N4.tb ok4 n41 (by omega) N4.sm⟩
end
section
variable {P:Program}{w:World}{K:PySem.W.Frag}{mg:Str→Option Value}{base:Heap}
theorem sc_law:FnScope ["_law_script","_law_numbers_here","_law_kinds","_law_size","_law_table_here","_law_many","_law_chart","_law_found","_law_rows","_law_c","_law_told","_law_due","_law_here"] ["_law_script"] (defScope s_law):=scm
theorem ok_law {f C:Addr}{fd:FuncData} (F:Fun K "law" "law" s_law f fd) (T:Txt K mg) (TC:TxtC K mg C) (N:Rdy P w K mg base "_law_numbers" ["_law_script","_law_many"] 1 (spNumL K)) (TA:Rdy P w K mg base "_law_table" ["_law_kinds","_law_size","_law_draws","_law_share"] 1 spTable)
  (TAI:Rdy P w K mg base "_law_tailed" ["_law_table_here","_law_kinds","_law_draws"] 2 spTailed) (CH:Rdk P w K mg base C "Chart" ["self","kinds","table"] 2 (spInit C)) (CO:Rdy P w K mg base "core" ["chart"] 6 (spCore17 C)) (TB:Rdm P w K mg base C "table" ["self"] 2 (spTabl C))
  (ST:Rdy P w K mg base "_law_same_table" ["_law_found","_law_due"] 1 spSameT) (OR:Rdy P w K mg base "_law_order" ["_law_table_here","_law_kinds","_law_base"] 2 spOrder) (IO:Rdy P w K mg base "_law_in_order" ["_law_table_here","_law_order_here"] 1 spInO)
  (SHN:Rdy P w K mg base "_law_shorn" ["_law_table_here","_law_kinds"] 3 spShorn) (BR:Rdy P w K mg base "_law_back_right" ["_law_chart","_law_table_here"] 5 (spBackR C)) (EN:Rdy P w K mg base "_law_ends" ["_law_table_here","_law_kinds","_law_here"] 2 spEnds):
  FnOk P w K mg base CX0 7 f fd ["_law_script"] (spLaw K):=by
 refine F.ok sc_law (fun vs H Q E h=>?_) (fun cdv A outer s H vs Q E hr h=>?_)
 · obtain ⟨a,ns,rfl,_⟩:=h
   rfl
 · obtain ⟨sc,ns,rfl,hS,hn,kk⟩:=h
   have hu:=hr.units
   have hu1:=hu_of hr
   have rest9:∃ u:TS,PSs (cxOf CX0 P w K mg base ["_law_script","_law_numbers_here","_law_kinds","_law_size","_law_table_here","_law_many","_law_chart","_law_found","_law_rows","_law_c","_law_told","_law_due","_law_here"] "law" (defScope s_law) f cdv A outer s H E).nox ((defBody s_law).drop 9) u∧
     ∀ (l0 t g x:Addr) (as fp fq:List Addr) (T':Tab) (k n n':Nat) (b:List Bool) (vn x5 x8 x9:Option V) (G:Hp),Tb G t as T'→ChAt C G g k n T' fp→ChAt C G x k n' (coreT T' k n b) fq→CoreT T' k n b→
      u { nx:=fun _ H'=>Q .non H',rt:=Q } [some (.ref sc),some (.ref l0),some (.int k),vn,some (.ref t),x5,some (.ref g),some (.ref x),x8,x9,none,none,none] G:=by
    refine ⟨_,(@sC _ _ _ _ _ (ps_if (PW.pt (pw_or (pt_not (pt_val (ST.pe hr (@aC _ _ _ _ _ (TB.pe0 hr (pv 6)) (@aC _ _ _ _ _ (pv 4) pa_nil (by rfl)) (by rfl))))) (pw_or1 (pt_cmpR op_ne (pe_fld (pv 7) rfl) (pv 2) (nomark _))))) (@sO _ _ _ (@sR _ _ _ _ pe_bl)) pss_nil)
    (@sC _ _ _ _ _ (@sS _ 10 _ _ _ _ _ sc_law.nd rfl (Or.inl rfl) (TB.pe0 hr (pv 7)) (by rfl) (.inl rfl))
    (@sC _ _ _ _ _ (@sS _ 11 _ _ _ _ _ sc_law.nd rfl (Or.inl rfl) (IO.pe hr (@aC _ _ _ _ _ (pv 4) (@aC _ _ _ _ _ (OR.pe hr (@aC _ _ _ _ _ (pv 4) (@aC _ _ _ _ _ (pv 2) (@aC _ _ _ _ _ pe_int pa_nil (by rfl)) (by rfl)) (by rfl))) pa_nil (by rfl)) (by rfl))) (by rfl) (.inl rfl))
    (@sC _ _ _ _ _ (ps_if (PW.pt (pw_or (pt_not (pt_val (ST.pe hr (@aC _ _ _ _ _ (pv 10) (@aC _ _ _ _ _ (SHN.pe hr (@aC _ _ _ _ _ (pv 11) (@aC _ _ _ _ _ (pv 2) pa_nil (by rfl)) (by rfl))) pa_nil (by rfl)) (by rfl))))) (pw_or1 (pt_not (pt_val (BR.pe hr (@aC _ _ _ _ _ (pv 7) (@aC _ _ _ _ _ (pv 10) pa_nil (by rfl)) (by rfl)))))))) (@sO _ _ _ (@sR _ _ _ _ pe_bl)) pss_nil)
    (@sC _ _ _ _ _ (ps_for PassesOwn.never rfl (pi_range2 rfl T.range (@aC _ _ _ _ _ pe_int (@aC _ _ _ _ _ (pe_callB call_len_seq (by rfl) T.len PySem.boot_len (@aC _ _ _ _ _ (pv 10) pa_nil (by rfl))) pa_nil (by rfl)) (by rfl))) (pg_name (i:=12) sc_law.nd rfl (Or.inl rfl)) (@sO _ _ _ (ps_if (pt_cmpR op_lt (EN.pe hr (@aC _ _ _ _ _ (pv 10) (@aC _ _ _ _ _ (pv 2) (@aC _ _ _ _ _ (pv 12) pa_nil (by rfl)) (by rfl)) (by rfl))) pe_int (nomark _)) (@sO _ _ _ (@sR _ _ _ _ pe_bl)) pss_nil)))
    (@sO _ _ _ (@sR _ _ _ _ pe_bl))))))),?_⟩
    intro l0 t g x as fp fq T' k n n' b vn x5 x8 x9 G tb hc hy hb
    have ok:=hc.ok
    have ok2:=hy.ok
    have n1:=hc.n1
    have n7:=hc.n7
    have m1:=hy.n1
    have m7:=hy.n7
    have k1:=hc.k1
    have k5:=hc.k5
    obtain ⟨dx,lo,li,as1,bs1,I1,efp,hg,_⟩:=id hc.ob
    obtain ⟨dy,lo2,li2,as2,bs2,I2,efp2,hgy,_⟩:=id hy.ob
    refine ⟨_,rfl,g,dx,_,rfl,hg,chf_no ..,g,k,n,T',fp,rfl,hc,fun tt tas H1 ftt fta ndt ttb s1=>?_⟩
    refine ⟨_,rfl,tt,t,tas,as,T',rfl,ttb,tb.same s1,⟨_,rfl,iteF ?_⟩⟩
    have hy1:=hy.same s1
    refine ⟨_,rfl,x,C,dy,_,_,rfl,s1 _ _ hgy,TC.cl,TC.nk,chf_k ..,_,rfl,rfl,_,rfl,iteFe (by simp) ?_⟩
    refine ⟨_,rfl,x,dy,_,rfl,s1 _ _ hgy,chf_no ..,x,k,n',_,fq,rfl,hy1,fun t2 ts2 H2 ft2 fts2 nd2 tb2 s2=>?_⟩
    have s12:=s1.trans s2
    have mi:=met_inv ok (k:=k) (show 0 < n by omega)
    refine ⟨_,rfl,_,rfl,_,rfl,t,as,T',k,n,0,rfl,tb.same s12,ok,k1,k5,by omega,by omega,fun la H3 fa ia s3=>?_⟩
    have s13:=s12.trans s3
    refine ⟨t,la,as,k,n,T',met T' k n 0,rfl,tb.same s13,ok,by omega,k5,ia,mi.1.nd,mi.1.lt,fun u bs H4 fu tbu s4=>?_⟩
    refine ⟨_,rfl,_,rfl,_,rfl,u,bs,T',k,n,b,rfl,tbu,ok,n1,n7,k1,k5,hb,fun v vs H5 tbv kp=>?_⟩
    have s35:Same H3 H5:=fun a o e=>kp a o (s4 _ _ e) fun z=>by rw [z,fu] at e;cases e
    have s25:=s3.trans s35
    refine ⟨t2,v,ts2,vs,_,rfl,tb2.same s25,tbv,⟨_,rfl,iteF ?_⟩⟩
    refine ⟨_,rfl,_,rfl,x,t2,ts2,fq,k,n',_,rfl,hy1.same (s2.trans s25),tb2.same s25,fun H6 s6=>⟨_,rfl,iteF ?_⟩⟩
    have tb6:=tb2.same (s25.trans s6)
    have l6:((ts2.map V.ref).length:Int)=n':=by rw [List.length_map,tb6.len,ok2.len]
    have en:n'=(met (preT T' k n b) k (leftL (met T' k n 0).length b).length 0).length:=by
     rw [← ok2.len]
     unfold coreT
     simp [renT]
    have ce:=fun {c} hcn c0=>core_ends ok n1 hb (c:=c) hcn c0
    rw [← en] at ce
    refine ⟨_,rfl,t2,_,rfl,.inl (SqL.of tb6.is),1,_,rfl,?_⟩
    rw [l6]
    refine ⟨⟨by omega,by omega⟩,for_range (lo:=1) (n:=((n':Int) - 1).toNat) (fun i σ H7=>∃ x12:Option V,σ=[some (.ref sc),some (.ref l0),some (.int k),vn,some (.ref t),x5,some (.ref g),some (.ref x),x8,x9,some (.ref t2),some (.ref u),x12]∧H7=H6) ⟨_,rfl,rfl⟩ ?_ ?_⟩
    · rintro i σ H7 hi ⟨x12,rfl,rfl⟩
      have hin:1+i < n':=by omega
      have c2:=ce hin (by omega)
      rw [show (1:Int)+(i:Int)=((1+i:Nat):Int) by omega]
      refine ⟨_,rfl,_,rfl,_,rfl,t2,ts2,_,k,n',1+i,rfl,tb6,ok2,by omega,k5,hin,?_⟩
      refine ⟨_,_,rfl,rfl,_,rfl,iteFe (decide_eq_false (by omega)) ⟨_,rfl,rfl⟩⟩
    · rintro σ H7 ⟨x12,rfl,rfl⟩
      exact kk _
   obtain ⟨u9,hu9,kk9⟩:=rest9
   have rest8:∃ u:TS,PSs (cxOf CX0 P w K mg base ["_law_script","_law_numbers_here","_law_kinds","_law_size","_law_table_here","_law_many","_law_chart","_law_found","_law_rows","_law_c","_law_told","_law_due","_law_here"] "law" (defScope s_law) f cdv A outer s H E).nox ((defBody s_law).drop 8) u∧
     ∀ (l0 t g x:Addr) (as fp fq:List Addr) (ms:List Int) (T':Tab) (k n n':Nat) (b:List Bool) (vn x5:Option V) (G:Hp),Ints G l0 ms→ms.length=210→Tb G t as T'→ChAt C G g k n T' fp→ChAt C G x k n' (coreT T' k n b) fq→CoreT T' k n b→
      u { nx:=fun _ H'=>Q .non H',rt:=Q } [some (.ref sc),some (.ref l0),some (.int k),vn,some (.ref t),x5,some (.ref g),some (.ref x),none,none,none,none,none] G:=by
    refine ⟨_,(@sC _ _ _ _ _ (ps_if (pt_cmpR op_eq (pe_op op_mod (pe_ix ix_l (pv 1) pe_int (fun _ _=>rfl)) pe_int) pe_int (nomark _)) (@sC _ _ _ _ _ (ps_compW 8 ["_law_kinds"] [2] sc_law.nd (pi_range1 rfl T.range (pa_cons (pe_op op_add pe_int (pe_op op_mod (pe_ix ix_l (pv 1) pe_int (fun _ _=>rfl)) pe_int)) pa_nil)) (fun C s H fp=>pe_compW [] [] (pi_range1 rfl T.range (pa_cons (pv 1) pa_nil)) (fun C2 s2 H2 fp2=>pe_non) hcl_nil) (hcl1 rfl))
    (@sC _ _ _ _ _ (ps_for PassesOwn.never rfl (pi_range1 rfl T.range (@aC _ _ _ _ _ (pe_op op_sub (pe_callB call_len_seq (by rfl) T.len PySem.boot_len (@aC _ _ _ _ _ (pv 8) pa_nil (by rfl))) pe_int) pa_nil (by rfl))) (pg_name (i:=9) sc_law.nd rfl (Or.inl rfl)) (@sO _ _ _ (ps_asg (pe_op op_add (pv 9) pe_int) (pg_sub (pe_ix ix_l (pv 8) (pv 9) (fun _ _=>rfl)) (pe_op op_mod (pe_ix ix_l (pv 1) pe_int (fun _ _=>rfl)) (pv 2)) set_list))))
    (@sO _ _ _ (ps_if (pt_not (pt_val (ST.pe hr (@aC _ _ _ _ _ (TB.pe0 hr (CO.pe hr (@aC _ _ _ _ _ (CH.pe hr (@aC _ _ _ _ _ (pv 2) (@aC _ _ _ _ _ (pv 8) pa_nil (by rfl)) (by rfl))) pa_nil (by rfl)))) (@aC _ _ _ _ _ (@eL _ _ _ _ (@aC _ _ _ _ _ (pe_ix ix_l (pv 8) (pe_un un_neg pe_int) (fun _ _=>rfl)) pa_nil (by rfl))) pa_nil (by rfl)) (by rfl))))) (@sO _ _ _ (@sR _ _ _ _ pe_bl)) pss_nil)))) pss_nil)
    hu9),?_⟩
    intro l0 t g x as fp fq ms T' k n n' b vn x5 G h0 hm tb hc hy hb
    have k1:=hc.k1
    have k5:=hc.k5
    refine ⟨_,rfl,rd_at 7 h0 (by omega) ⟨_,_,rfl,rfl,(by show (0:Int) < 9;decide),rfl,_,rfl,ite2 (fun _=>?_) fun _=>kk9 l0 t g x as fp fq T' k n n' b vn x5 _ _ G tb hc hy hb⟩⟩
    have a0:=Int.emod_nonneg (ms.getD 8 0) (show (100:Int)≠0 by decide)
    have a1:=Int.emod_lt_of_pos (ms.getD 8 0) (show (0:Int) < 100 by decide)
    obtain ⟨m,em,m1,m2⟩:∃ m:Nat,(101:Int)+ms.getD 8 0 % 100=(m:Int)∧101≤m∧m≤200:=⟨(101+ms.getD 8 0 % 100).toNat,by omega,by omega,by omega⟩
    refine ⟨_,rfl,rd_at 8 h0 (by omega) ⟨_,_,rfl,rfl,(by show (0:Int) < 100;decide),_,_,rfl,rfl,_,rfl,?_⟩⟩
    rw [em]
    refine ⟨by omega,by omega,comp_tab (n:=(m:Int).toNat) (fun _=>List.replicate k none) (by omega) (fun i hi H4 s4 Q' q'=>?_) fun r rs H1 N1=>?_⟩
    · exact ⟨_,rfl,_,rfl,by omega,by omega,comp_nons (k:=(k:Int).toNat) (by omega) fun p H5 hp ip s5=>by
        rw [Int.toNat_natCast] at ip
        exact q' p H5 hp ip s5⟩
    have b0:=Int.emod_nonneg (ms.getD 9 0) (show (k:Int)≠0 by omega)
    have b1:=Int.emod_lt_of_pos (ms.getD 9 0) (show (0:Int) < k by omega)
    obtain ⟨j,ej,jk⟩:∃ j:Nat,ms.getD 9 0 % (k:Int)=(j:Int)∧j < k:=⟨(ms.getD 9 0 % (k:Int)).toNat,by omega,by omega⟩
    rw [Int.toNat_natCast, ← chain_zero k m j] at N1
    have lr:((rs.map V.ref).length:Int)=m:=by rw [List.length_map,N1.tb.len];unfold chainT;simp
    refine w_name ?_
    refine ⟨_,rfl,r,_,rfl,.inl (SqL.of N1.tb.is),_,_,rfl,rfl,_,rfl,?_⟩
    rw [lr]
    refine ⟨by omega,by omega,for_range (lo:=0) (n:=((m:Int) - 1).toNat) (fun i σ H2=>∃ (rs2:List Addr) (x9:Option V),σ=[some (.ref sc),some (.ref l0),some (.int k),vn,some (.ref t),x5,some (.ref g),some (.ref x),some (.ref r),x9,none,none,none]∧NewT G H2 r rs2 (chainT k m j i)) ⟨rs,_,rfl,N1⟩ ?_ ?_⟩
    · rintro i σ H2 hi ⟨rs2,x9,rfl,N2⟩
      have hi:i+1 < m:=by omega
      rw [Int.zero_add]
      obtain ⟨ra,era,mra,eT,hra⟩:=N2.tb.at (i:=i) (by unfold chainT;simp;omega)
      have er:(chainT k m j i).getD i []=List.replicate k none:=by
       unfold chainT
       simp [List.getD,show i < m by omega]
      rw [er] at hra
      refine ⟨_,rfl,_,_,rfl,rfl,_,rfl,_,rfl,rd_row i N2.tb era ⟨_,rfl,rd_at 9 (N2.sm.ints h0) (by omega) ⟨_,rfl,_,_,rfl,rfl,(by show (0:Int) < k;omega),ra,_,(j:Int),j,rfl,?_,hra,?_,?_⟩⟩⟩
      · show V.int (ms.getD 9 0 % (k:Int))=_
        rw [ej]
      · unfold ixN
        rw [if_pos (by omega),if_pos (by rw [List.length_map,List.length_replicate];omega)];rfl
      · have eh:((List.replicate k (none:Option Int)).map oV).set j (V.int ((i:Int)+1))=((List.replicate k none).set j (some ((i:Int)+1))).map oV:=by rw [List.map_set];rfl
        have N3:=N2.set era ((List.replicate k none).set j (some ((i:Int)+1)))
        rw [chain_set (show i < m by omega), ← eh] at N3
        exact ⟨rs2,_,rfl,N3⟩
    · rintro σ H2 ⟨rs2,x9,rfl,N2⟩
      rw [show ((m:Int) - 1).toNat=m - 1 by omega] at N2
      have okc:=chain_ok (N:=m) jk
      refine ⟨_,rfl,_,rfl,fun y dx nx ndx nex=>?_⟩
      have sx:Same H2 (upd (upd H2 dx (.own y)) y (.ins C dx [])):=((Same.refl H2).upd ndx).upd nx
      refine ⟨y,dx,k,m,r,rs2,_,rfl,upd_same,N2.tb.same sx,okc,k1,k5,by omega,by omega,fun H3 fp3 hc3 ff kp=>⟨rfl,?_⟩⟩
      have s3:Same H2 H3:=fun a o e=>kp a o (sx a o e) fun z=>by rw [z,nx] at e;cases e
      refine ⟨y,k,m,_,fp3,rfl,hc3,fun x2 fq2 n2 b2 H4 fx2 ffq hc4 cT s4=>?_⟩
      rw [chain_core jk (by omega) cT] at hc4
      obtain ⟨d2,lo2,li2,as4,bs4,I4,efp4,hg4,_⟩:=id hc4.ob
      refine ⟨x2,d2,_,rfl,hg4,chf_no ..,x2,k,n2,_,fq2,rfl,hc4,fun t2 ts2 H5 ft2 fts2 nd2 tb2 s5=>?_⟩
      have s25:=s3.trans (s4.trans s5)
      have tr5:=N2.tb.same s25
      have lc:(chainT k m j (m - 1)).length=m:=by unfold chainT;simp
      obtain ⟨ra,era,mra,_,hra⟩:=tr5.at (i:=m - 1) (by omega)
      have er:(chainT k m j (m - 1)).getD (m - 1) []=List.replicate k none:=by
       unfold chainT
       simp [List.getD,show m - 1 < m by omega]
      rw [er] at hra
      have lr2:=tr5.len
      rw [lc] at lr2
      have eat:atI (rs2.map V.ref) (-1)=some (V.ref ra):=by
       rcases List.eq_nil_or_concat rs2 with e | ⟨u,l,e⟩
       · rw [e] at lr2
         have:0=m:=lr2
         omega
       · rw [List.concat_eq_append] at e
         rw [e,List.length_append] at lr2
         have lr2:u.length+1=m:=lr2
         rw [e,List.getElem?_append_right (by omega),show m - 1 - u.length=0 by omega] at era
         have:l=ra:=Option.some.inj era
         rw [e,this,List.map_append]
         exact atI_last _ _
      refine ⟨_,rfl,_,rfl,rd_atV tr5.is eat (rd_lsV (by show 1≤1000;decide) fun v H6 f6 h6 s6=>?_)⟩
      have s06:=N2.sm.trans (s25.trans s6)
      refine ⟨t2,v,ts2,[ra],_,rfl,tb2.same s6,⟨h6,rfl,fun i' a' r' e1 e2=>?_⟩,⟨_,rfl,iteF ?_⟩⟩
      · match i' with
        | 0=>
         cases e1;cases e2
         exact s6 _ _ hra
        | _+1=>cases e1
      · exact kk9 l0 t g x as fp fq T' k n n' b vn x5 _ _ H6 (tb.same s06) (hc.same s06) (hy.same s06) hb
   obtain ⟨u8,hu8,kk8⟩:=rest8
   have rest6:∃ u:TS,PSs (cxOf CX0 P w K mg base ["_law_script","_law_numbers_here","_law_kinds","_law_size","_law_table_here","_law_many","_law_chart","_law_found","_law_rows","_law_c","_law_told","_law_due","_law_here"] "law" (defScope s_law) f cdv A outer s H E).nox ((defBody s_law).drop 6) u∧
     ∀ (l0 t:Addr) (as:List Addr) (ms:List Int) (T':Tab) (k n:Nat) (vn x5:Option V) (G:Hp),Ints G l0 ms→ms.length=210→Tb G t as T'→TabOk k n T'→1≤k→k≤5→1≤n→n≤60→
      u { nx:=fun _ H'=>Q .non H',rt:=Q } [some (.ref sc),some (.ref l0),some (.int k),vn,some (.ref t),x5,none,none,none,none,none,none,none] G:=by
    refine ⟨_,(@sC _ _ _ _ _ (@sS _ 6 _ _ _ _ _ sc_law.nd rfl (Or.inl rfl) (CH.pe hr (@aC _ _ _ _ _ (pv 2) (@aC _ _ _ _ _ (pv 4) pa_nil (by rfl)) (by rfl))) (by rfl) (.inl rfl))
    (@sC _ _ _ _ _ (@sS _ 7 _ _ _ _ _ sc_law.nd rfl (Or.inl rfl) (CO.pe hr (@aC _ _ _ _ _ (pv 6) pa_nil (by rfl))) (by rfl) (.inl rfl))
    hu8)),?_⟩
    intro l0 t as ms T' k n vn x5 G h0 hm tb ok k1 k5 n1 n60
    refine ⟨_,rfl,_,rfl,fun y dx nx ndx nex=>?_⟩
    have sx:Same G (upd (upd G dx (.own y)) y (.ins C dx [])):=((Same.refl G).upd ndx).upd nx
    refine ⟨y,dx,k,n,t,as,_,rfl,upd_same,tb.same sx,ok,k1,k5,by omega,by omega,fun H3 fp hc3 ff kp=>⟨rfl,?_⟩⟩
    have s3:Same G H3:=fun a o e=>kp a o (sx a o e) fun z=>by rw [z,nx] at e;cases e
    refine ⟨_,rfl,y,k,n,T',fp,rfl,hc3,fun x fq n2 b2 H4 fx ffq hc4 cT s4=>?_⟩
    have s34:=s3.trans s4
    exact kk8 l0 t y x as fp fq ms T' k n n2 b2 vn x5 H4 (s34.ints h0) hm (tb.same s34) (hc3.same s4) hc4 cT
   obtain ⟨u6,hu6,kk6⟩:=rest6
   have rest4:∃ u:TS,PSs (cxOf CX0 P w K mg base ["_law_script","_law_numbers_here","_law_kinds","_law_size","_law_table_here","_law_many","_law_chart","_law_found","_law_rows","_law_c","_law_told","_law_due","_law_here"] "law" (defScope s_law) f cdv A outer s H E).nox ((defBody s_law).drop 4) u∧
     ∀ (l0:Addr) (ms:List Int) (k n:Nat) (G:Hp),Ints G l0 ms→ms.length=210→1≤k→k≤5→1≤n→n≤16→u { nx:=fun _ H'=>Q .non H',rt:=Q } [some (.ref sc),some (.ref l0),some (.int k),some (.int n),none,none,none,none,none,none,none,none,none] G:=by
    refine ⟨_,(@sC _ _ _ _ _ (@sS _ 4 _ _ _ _ _ sc_law.nd rfl (Or.inl rfl) (TA.pe hr (@aC _ _ _ _ _ (pv 2) (@aC _ _ _ _ _ (pv 3) (@aC _ _ _ _ _ (pe_slice sl_l (pv 1) (po_some pe_int) po_none) (@aC _ _ _ _ _ (pe_op op_mod (pe_ix ix_l (pv 1) pe_int (fun _ _=>rfl)) pe_int) pa_nil (by rfl)) (by rfl)) (by rfl)) (by rfl))) (by rfl) (.inl rfl))
    (@sC _ _ _ _ _ (ps_if (pt_cmpR op_eq (pe_op op_mod (pe_ix ix_l (pv 1) pe_int (fun _ _=>rfl)) pe_int) pe_int (nomark _)) (@sC _ _ _ _ _ (@sS _ 5 _ _ _ _ _ sc_law.nd rfl (Or.inl rfl) (pe_op op_add pe_int (pe_op op_mod (pe_ix ix_l (pv 1) pe_int (fun _ _=>rfl)) pe_int)) (by rfl) (.inl rfl))
    (@sC _ _ _ _ _ (ps_if (pt_cmpR op_eq (pe_op op_fdiv (pe_ix ix_l (pv 1) pe_int (fun _ _=>rfl)) pe_int) pe_int (nomark _)) (@sO _ _ _ (@sS _ 5 _ _ _ _ _ sc_law.nd rfl (Or.inl rfl) pe_int (by rfl) (.inl rfl))) pss_nil)
    (@sO _ _ _ (@sS _ 4 _ _ _ _ _ sc_law.nd rfl (Or.inl rfl) (TAI.pe hr (@aC _ _ _ _ _ (pv 4) (@aC _ _ _ _ _ (pv 2) (@aC _ _ _ _ _ (pe_slice sl_l (pv 1) (po_some pe_int) (po_some (pv 5))) pa_nil (by rfl)) (by rfl)) (by rfl))) (by rfl) (.inl rfl))))) pss_nil)
    hu6)),?_⟩
    intro l0 ms k n G h0 hm k1 k5 n1 n16
    have hkn:k * n≤80:=Nat.le_trans (Nat.mul_le_mul k5 n16) (by decide)
    have dr:(cutL ms (some 50) none).length=160:=by
     rw [show (50:Int)=((50:Nat):Int) from rfl,cutL_from,List.length_drop,hm]
    refine ⟨_,rfl,_,rfl,_,rfl,_,rfl,rd_slice h0 fun ld H1 f1 i1 s1=>?_⟩
    refine ⟨_,rfl,rd_at 3 (s1.ints h0) (by omega) ⟨_,_,rfl,rfl,(by show (0:Int) < 7;decide),?_⟩⟩
    refine ⟨k,n,ld,_,_,rfl,i1,k1,k5,n1,by omega,by rw [dr];omega,fun t as T' H2 ft fa nd tb ok _ s2=>?_⟩
    have h2:=s2.ints (s1.ints h0)
    refine ⟨_,rfl,rd_at 4 h2 (by omega) ⟨_,_,rfl,rfl,(by show (0:Int) < 2;decide),rfl,_,rfl,ite2 (fun _=>?_) fun _=>kk6 l0 t as ms T' k n _ _ H2 h2 hm tb ok k1 k5 n1 (by omega)⟩⟩
    have a0:=Int.emod_nonneg (ms.getD 6 0) (show (6:Int)≠0 by decide)
    have a1:=Int.emod_lt_of_pos (ms.getD 6 0) (show (0:Int) < 6 by decide)
    have tail:∀ (q:Nat),7≤q→q≤36→∀ x5:Option V,∀ lq H3,Ints H3 lq (cutL ms (some 5) (some (q:Int)))→Same H2 H3→spTailed [.ref t,.int k,.ref lq] H3 (fun v H'=>u6 { nx:=fun _ H'=>Q .non H',rt:=Q } [some (.ref sc),some (.ref l0),some (.int k),some (.int n),some v,x5,none,none,none,none,none,none,none] H') E0:=fun q q7 q36 x5 lq H3 iq s3=>by
     have lq:(cutL ms (some 5) (some (q:Int))).length=q - 5:=by
      rw [show (5:Int)=((5:Nat):Int) from rfl,cutL_ft _ _ _ (by omega),List.length_take,List.length_drop,hm]
      omega
     exact ⟨t,_,as,T',k,n,_,rfl,tb.same s3,ok,k1,k5,n1,n16,iq,by omega,by omega,fun t' as' T2 n2 H4 tb2 ok2 m1 m60 s4=>kk6 l0 t' as' ms T2 k n2 _ _ H4 (s4.ints (s3.ints h2)) hm tb2 ok2 k1 k5 m1 m60⟩
    refine ⟨_,rfl,rd_at 6 h2 (by omega) ⟨_,_,rfl,rfl,(by show (0:Int) < 6;decide),_,_,rfl,rfl,?_⟩⟩
    refine ⟨_,rfl,rd_at 5 h2 (by omega) ⟨_,_,rfl,rfl,⟨by decide,by decide⟩,rfl,_,rfl,ite2 (fun _=>?_) fun _=>?_⟩⟩
    · exact ⟨_,rfl,_,rfl,_,rfl,_,rfl,_,rfl,_,rfl,rd_slice h2 fun lq H3 f3 i3 s3=>tail 36 (by decide) (by decide) _ lq H3 i3 s3⟩
    · obtain ⟨q,eq,q7,q36⟩:∃ q:Nat,(7:Int)+ms.getD 6 0 % 6=(q:Int)∧7≤q∧q≤36:=⟨(7+ms.getD 6 0 % 6).toNat,by omega,by omega,by omega⟩
      refine ⟨_,rfl,_,rfl,_,rfl,_,rfl,_,rfl,_,rfl,rd_slice h2 fun lq H3 f3 i3 s3=>tail q q7 q36 _ lq H3 ?_ s3⟩
      rw [← eq];exact i3
   obtain ⟨u4,hu4,kk4⟩:=rest4
   refine ⟨_,(@sC _ _ _ _ _ (@sS _ 1 _ _ _ _ _ sc_law.nd rfl (Or.inl rfl) (N.pe hr (@aC _ _ _ _ _ (pv 0) (@aC _ _ _ _ _ pe_int pa_nil (by rfl)) (by rfl))) (by rfl) (.inl rfl))
    (@sC _ _ _ _ _ (ps_set (i:=2) sc_law.nd rfl (Or.inr rfl) (pe_op op_add pe_int (pe_op op_mod (pe_ix ix_l (pv 1) pe_int (fun _ _=>rfl)) pe_int)))
    (@sC _ _ _ _ _ (@sS _ 3 _ _ _ _ _ sc_law.nd rfl (Or.inl rfl) (pe_op op_add pe_int (pe_op op_mod (pe_ix ix_l (pv 1) pe_int (fun _ _=>rfl)) pe_int)) (by rfl) (.inl rfl))
    (@sC _ _ _ _ _ (ps_if (pt_cmpR op_eq (pe_op op_mod (pe_ix ix_l (pv 1) pe_int (fun _ _=>rfl)) pe_int) pe_int (nomark _)) (@sO _ _ _ (@sS _ 3 _ _ _ _ _ sc_law.nd rfl (Or.inl rfl) (pe_op op_add pe_int (pe_op op_mod (pe_ix ix_l (pv 1) pe_int (fun _ _=>rfl)) pe_int)) (by rfl) (.inl rfl))) pss_nil)
    hu4)))),?_⟩
   refine ⟨_,rfl,sc,ns,210,rfl,hS,hn,by decide,fun l0 ms H1 hms hg f0 h0 s1=>?_⟩
   have a0:=Int.emod_nonneg (ms.getD 0 0) (show (5:Int)≠0 by decide)
   have a1:=Int.emod_lt_of_pos (ms.getD 0 0) (show (0:Int) < 5 by decide)
   have b0:=Int.emod_nonneg (ms.getD 1 0) (show (9:Int)≠0 by decide)
   have b1:=Int.emod_lt_of_pos (ms.getD 1 0) (show (0:Int) < 9 by decide)
   have c0:=Int.emod_nonneg (ms.getD 1 0) (show (16:Int)≠0 by decide)
   have c1:=Int.emod_lt_of_pos (ms.getD 1 0) (show (0:Int) < 16 by decide)
   refine ⟨_,rfl,rd_at 0 h0 (by omega) ⟨_,_,rfl,rfl,(by show (0:Int) < 5;decide),_,_,rfl,rfl,?_⟩⟩
   refine ⟨_,rfl,rd_at 1 h0 (by omega) ⟨_,_,rfl,rfl,(by show (0:Int) < 9;decide),_,_,rfl,rfl,?_⟩⟩
   refine ⟨_,rfl,rd_at 2 h0 (by omega) ⟨_,_,rfl,rfl,(by show (0:Int) < 8;decide),rfl,_,rfl,?_⟩⟩
   refine ite2 (fun _=>?_) (fun _=>?_)
   · refine ⟨_,rfl,rd_at 1 h0 (by omega) ⟨_,_,rfl,rfl,(by show (0:Int) < 16;decide),_,_,rfl,rfl,?_⟩⟩
     have:=kk4 l0 ms (1+ms.getD 0 0 % 5).toNat (1+ms.getD 1 0 % 16).toNat H1 h0 hms (by omega) (by omega) (by omega) (by omega)
     rw [Int.toNat_of_nonneg (show 0≤1+ms.getD 0 0 % 5 by omega),Int.toNat_of_nonneg (show 0≤1+ms.getD 1 0 % 16 by omega)] at this
     exact this
   · have:=kk4 l0 ms (1+ms.getD 0 0 % 5).toNat (1+ms.getD 1 0 % 9).toNat H1 h0 hms (by omega) (by omega) (by omega) (by omega)
     rw [Int.toNat_of_nonneg (show 0≤1+ms.getD 0 0 % 5 by omega),Int.toNat_of_nonneg (show 0≤1+ms.getD 1 0 % 9 by omega)] at this
     exact this
end
theorem all_mk {l:PySem.W.OpenLaw}{w:World}{K:PySem.W.Frag}{h:Heap}{mg:Str→Option Value}{fa f1 f2 f3 f4 f5 f6 f7 f8 f9 f10 f11 f12 f13 f14 f15 f16 f17 f18 f19 f20 f21 f22 f23 f24 f25 f26 f27 f28 CChart CNoChamber CCaveError:Addr} (X:K.In h) (G:h.Ns mainGlobals mg) (hfa:mg "law"=some (.ref fa))
  {d1 d2 d3 d4 d5 d6 d7 d8 d9 d10 d11 d12 d13 d14 d15 d16 d17 d18 d19 d20 d21 d22 d23 d24 d25 d26 d27 d28:FuncData}{tkMK tkMC:Tok}{ddWNoChamber dWnNoChamber:Option Addr}{nmWNoChamber qnWNoChamber:Str}{bsWNoChamber subWNoChamber:List Value}{nsWNoChamber:Addr}{hdWNoChamber abWNoChamber:Bool}{snWNoChamber:List Str}{colWNoChamber:Option Bool}{q0NoChamber q1NoChamber q2NoChamber q3NoChamber q5NoChamber:Option Value}{cWnNoChamber:Value}{esWNoChamber:Array DictEntry}{nWnNoChamber:Nat}{slWNoChamber:Array (Option Value)}{odB dBn:Option Addr}{nmB qnB:Str}{bsB subB mroB:List Value}{nsB:Addr}{hdB abB delB:Bool}{snB:List Str}{colB:Option Bool}{cBn ocB:Value}{esB:Array DictEntry}{nBn:Nat}{slB oslB:Array (Option Value)}
  (a1:PySem.W.nsIn K mainGlobals "_law_numbers"=some (some (.ref f1)))
  (F1:Fun K "_law_numbers" "_law_numbers" s__law_numbers f1 d1)
  (a2:PySem.W.nsIn K mainGlobals "_law_table"=some (some (.ref f2)))
  (F2:Fun K "_law_table" "_law_table" s__law_table f2 d2)
  (a3:PySem.W.nsIn K mainGlobals "_law_led"=some (some (.ref f3)))
  (F3:Fun K "_law_led" "_law_led" s__law_led f3 d3)
  (a4:PySem.W.nsIn K mainGlobals "_law_order"=some (some (.ref f4)))
  (F4:Fun K "_law_order" "_law_order" s__law_order f4 d4)
  (a5:PySem.W.nsIn K mainGlobals "_law_in_order"=some (some (.ref f5)))
  (F5:Fun K "_law_in_order" "_law_in_order" s__law_in_order f5 d5)
  (a6:PySem.W.nsIn K mainGlobals "_law_same_table"=some (some (.ref f6)))
  (F6:Fun K "_law_same_table" "_law_same_table" s__law_same_table f6 d6)
  (a7:PySem.W.nsIn K mainGlobals "_law_back_right"=some (some (.ref f7)))
  (F7:Fun K "_law_back_right" "_law_back_right" s__law_back_right f7 d7)
  (a8:PySem.W.nsIn K mainGlobals "_law_ends"=some (some (.ref f8)))
  (F8:Fun K "_law_ends" "_law_ends" s__law_ends f8 d8)
  (a9:PySem.W.nsIn K mainGlobals "_law_tailed"=some (some (.ref f9)))
  (F9:Fun K "_law_tailed" "_law_tailed" s__law_tailed f9 d9)
  (a10:PySem.W.nsIn K mainGlobals "_law_shorn"=some (some (.ref f10)))
  (F10:Fun K "_law_shorn" "_law_shorn" s__law_shorn f10 d10)
  (a11:PySem.W.nsIn K mainGlobals "check_shape"=some (some (.ref f11)))
  (F11:Fun K "check_shape" "check_shape" s_check_shape f11 d11)
  (a12:PySem.W.nsIn K mainGlobals "beginnings"=some (some (.ref f12)))
  (F12:Fun K "beginnings" "beginnings" s_beginnings f12 d12)
  (a13:PySem.W.nsIn K mainGlobals "check_letters"=some (some (.ref f13)))
  (F13:Fun K "check_letters" "check_letters" s_check_letters f13 d13)
  (a14:PySem.W.nsIn K mainGlobals "cancelled"=some (some (.ref f14)))
  (F14:Fun K "cancelled" "cancelled" s_cancelled f14 d14)
  (a15:PySem.W.nsIn K mainGlobals "letters_in_order"=some (some (.ref f15)))
  (F15:Fun K "letters_in_order" "letters_in_order" s_letters_in_order f15 d15)
  (a16:PySem.W.nsIn K mainGlobals "ways_from"=some (some (.ref f16)))
  (F16:Fun K "ways_from" "ways_from" s_ways_from f16 d16)
  (a17:PySem.W.nsIn K mainGlobals "renumbered"=some (some (.ref f17)))
  (F17:Fun K "renumbered" "renumbered" s_renumbered f17 d17)
  (a18:PySem.W.nsIn K mainGlobals "numbered"=some (some (.ref f18)))
  (F18:Fun K "numbered" "numbered" s_numbered f18 d18)
  (a19:PySem.W.nsIn K mainGlobals "chambers_beside"=some (some (.ref f19)))
  (F19:Fun K "chambers_beside" "chambers_beside" s_chambers_beside f19 d19)
  (a20:PySem.W.nsIn K mainGlobals "without_hairs"=some (some (.ref f20)))
  (F20:Fun K "without_hairs" "without_hairs" s_without_hairs f20 d20)
  (a21:PySem.W.nsIn K mainGlobals "core"=some (some (.ref f21)))
  (F21:Fun K "core" "core" s_core f21 d21)
  (a22:PySem.W.findIn K (.ref CChart) "__init__"=some (some (.ref f22))) (i22:PySem.W.isFn K (.ref f22)=true)
  (F22:Fun K "__init__" "Chart.__init__" s_Chart___init__ f22 d22)
  (a23:PySem.W.findIn K (.ref CChart) "size"=some (some (.ref f23))) (i23:PySem.W.isFn K (.ref f23)=true)
  (F23:Fun K "size" "Chart.size" s_Chart_size f23 d23)
  (a24:PySem.W.findIn K (.ref CChart) "table"=some (some (.ref f24))) (i24:PySem.W.isFn K (.ref f24)=true)
  (F24:Fun K "table" "Chart.table" s_Chart_table f24 d24)
  (a25:PySem.W.findIn K (.ref CChart) "check_chamber"=some (some (.ref f25))) (i25:PySem.W.isFn K (.ref f25)=true)
  (F25:Fun K "check_chamber" "Chart.check_chamber" s_Chart_check_chamber f25 d25)
  (a26:PySem.W.findIn K (.ref CChart) "step"=some (some (.ref f26))) (i26:PySem.W.isFn K (.ref f26)=true)
  (F26:Fun K "step" "Chart.step" s_Chart_step f26 d26)
  (a27:PySem.W.findIn K (.ref CChart) "trace"=some (some (.ref f27))) (i27:PySem.W.isFn K (.ref f27)=true)
  (F27:Fun K "trace" "Chart.trace" s_Chart_trace f27 d27)
  (a28:PySem.W.nsIn K mainGlobals "law"=some (some (.ref f28)))
  (F28:Fun K "law" "law" s_law f28 d28)
  (aChart:PySem.W.nsIn K mainGlobals "Chart"=some (some (.ref CChart))) (pgChart:PySem.W.plainGet K CChart Str.empty=true) (hdChart:PySem.W.hasDictIn K CChart=true) (poChart:PySem.W.plainOver K CChart=true) (saChart:PySem.W.findIn K (.ref CChart) "__setattr__"=some (some (.builtin "object.__setattr__"))) (mkChart:PySem.W.makesIn K CChart=true) (kcChart:PySem.W.keepIn K (.ref CChart)=true)
  (nChart_kinds:PySem.W.findIn K (.ref CChart) "kinds"=some none)
  (nChart_onward:PySem.W.findIn K (.ref CChart) "onward"=some none)
  (nChart_inward:PySem.W.findIn K (.ref CChart) "inward"=some none)
  (z1:PySem.W.nsIn K mainGlobals "len"=some none)
  (z2:PySem.W.nsIn K mainGlobals "range"=some none)
  (z3:PySem.W.nsIn K mainGlobals "list"=some none)
  (z4:PySem.W.nsIn K mainGlobals "int"=some none)
  (z5:PySem.W.nsIn K mainGlobals "bool"=some none)
  (z6:PySem.W.nsIn K mainGlobals "isinstance"=some none)
  (z7:PySem.W.nsIn K mainGlobals "tuple"=some none)
  (z8:PySem.W.nsIn K mainGlobals "abs"=some none)
  (z9:PySem.W.nsIn K mainGlobals "enumerate"=some none)
  (z10:PySem.W.nsIn K mainGlobals "str"=some none)
  (z_sum:PySem.W.nsIn K mainGlobals "sum"=some none)
  (z_reversed:PySem.W.nsIn K mainGlobals "reversed"=some none)
  (aNoChamber:PySem.W.nsIn K mainGlobals "NoChamber"=some (some (.ref CNoChamber)))
  (aCaveError:PySem.W.nsIn K mainGlobals "CaveError"=some (some (.ref CCaveError)))
  (yMK:PySem.W.nsIn K mainGlobals "MOST_KINDS"=some (some (.int 5 tkMK)))
  (yMC:PySem.W.nsIn K mainGlobals "MOST_CHAMBERS"=some (some (.int 700 tkMC)))
  (e7:PySem.W.specialIn K (.builtin "object.__class__") "__get__"=some (some (.builtin "getset_descriptor.__get__")))
  (e8:PySem.W.takesIn K (.builtin "object.__class__")=some true)
  (lWNoChamber:K.lookup CNoChamber=some ⟨.type "type",ddWNoChamber,.cls ⟨nmWNoChamber,bsWNoChamber,.ref CNoChamber::.ref CCaveError::veMro,nsWNoChamber,qnWNoChamber,hdWNoChamber,snWNoChamber,subWNoChamber,abWNoChamber,colWNoChamber,false⟩, #[q0NoChamber,q1NoChamber,q2NoChamber,q3NoChamber,some (.builtin "ValueError.__new__"),q5NoChamber]⟩)
  (lWnNoChamber:K.lookup nsWNoChamber=some ⟨cWnNoChamber,dWnNoChamber,.dict esWNoChamber nWnNoChamber,slWNoChamber⟩)
  (hWNoChamber:esWNoChamber.toList.all strKey=true)
  (iWNoChamber:PySem.W.nsIn K nsWNoChamber "__init__"=some none)
  (lB:K.lookup CCaveError=some ⟨ocB,odB,.cls ⟨nmB,bsB,mroB,nsB,qnB,hdB,snB,subB,abB,colB,delB⟩,oslB⟩)
  (lBn:K.lookup nsB=some ⟨cBn,dBn,.dict esB nBn,slB⟩)
  (hB:esB.toList.all strKey=true)
  (iB:PySem.W.nsIn K nsB "__init__"=some none)
  :
  ∃ fd:FuncData,(∀ (s:Shared) (v:Value),BindsTo s fd ⟨[v],[]⟩ [("_law_script",v)])∧∀ base:Heap,K.In base→base.Ns mainGlobals mg→FnOk l.prog w K mg base CX0 7 fa fd ["_law_script"] (spLaw K):=by
 have e:=hfa.symm.trans (PySem.W.mg_of X G a28)
 cases e
 have T:Txt K mg:=⟨PySem.W.mg_none_of X G z1,PySem.W.mg_none_of X G z2,PySem.W.mg_none_of X G z3,PySem.W.mg_none_of X G z4,PySem.W.mg_none_of X G z5,PySem.W.mg_none_of X G z6,PySem.W.mg_none_of X G z7,PySem.W.mg_none_of X G z8,PySem.W.mg_none_of X G z9,PySem.W.mg_none_of X G z10⟩
 have CLChart:Cls K CChart:=⟨pgChart,hdChart,poChart,saChart⟩
 have TC:TxtC K mg CChart:=⟨CLChart,nChart_kinds,nChart_onward,nChart_inward,⟨_,PySem.W.mg_of X G yMK⟩,⟨_,PySem.W.mg_of X G yMC⟩,PySem.W.mg_none_of X G z_sum⟩
 let CS:Nat→Addr:=fun j=>([0,0,0,0,0,CNoChamber,0,0,0,0,0]:List Addr).getD j 0
 have V5:isVe K CNoChamber=true:=isVe_mk lWNoChamber (nsOk_mk lWnNoChamber hWNoChamber) iWNoChamber lB (nsOk_mk lBn hB) iB
 have hrev:mg "reversed"=none:=PySem.W.mg_none_of X G z_reversed
 have b1:=F1.binds (ps:=["_law_script","_law_many"]) fun _ _ _ _ _ _ us hl=>by obtain ⟨_,_,rfl⟩:=us2 hl;rfl
 have b2:=F2.binds (ps:=["_law_kinds","_law_size","_law_draws","_law_share"]) fun _ _ _ _ _ _ us hl=>by obtain ⟨_,_,_,_,rfl⟩:=us4 hl;rfl
 have b3:=F3.binds (ps:=["_law_table_here","_law_here","_law_one"]) fun _ _ _ _ _ _ us hl=>by obtain ⟨_,_,_,rfl⟩:=us3 hl;rfl
 have b4:=F4.binds (ps:=["_law_table_here","_law_kinds","_law_base"]) fun _ _ _ _ _ _ us hl=>by obtain ⟨_,_,_,rfl⟩:=us3 hl;rfl
 have b5:=F5.binds (ps:=["_law_table_here","_law_order_here"]) fun _ _ _ _ _ _ us hl=>by obtain ⟨_,_,rfl⟩:=us2 hl;rfl
 have b6:=F6.binds (ps:=["_law_found","_law_due"]) fun _ _ _ _ _ _ us hl=>by obtain ⟨_,_,rfl⟩:=us2 hl;rfl
 have b7:=F7.binds (ps:=["_law_chart","_law_table_here"]) fun _ _ _ _ _ _ us hl=>by obtain ⟨_,_,rfl⟩:=us2 hl;rfl
 have b8:=F8.binds (ps:=["_law_table_here","_law_kinds","_law_here"]) fun _ _ _ _ _ _ us hl=>by obtain ⟨_,_,_,rfl⟩:=us3 hl;rfl
 have b9:=F9.binds (ps:=["_law_table_here","_law_kinds","_law_draws"]) fun _ _ _ _ _ _ us hl=>by obtain ⟨_,_,_,rfl⟩:=us3 hl;rfl
 have b10:=F10.binds (ps:=["_law_table_here","_law_kinds"]) fun _ _ _ _ _ _ us hl=>by obtain ⟨_,_,rfl⟩:=us2 hl;rfl
 have b11:=F11.binds (ps:=["kinds","table"]) fun _ _ _ _ _ _ us hl=>by obtain ⟨_,_,rfl⟩:=us2 hl;rfl
 have b12:=F12.binds (ps:=["ends"]) fun _ _ _ _ _ _ us hl=>by obtain ⟨_,rfl⟩:=us1 hl;rfl
 have b13:=F13.binds (ps:=["kinds","way"]) fun _ _ _ _ _ _ us hl=>by obtain ⟨_,_,rfl⟩:=us2 hl;rfl
 have b14:=F14.binds (ps:=["way"]) fun _ _ _ _ _ _ us hl=>by obtain ⟨_,rfl⟩:=us1 hl;rfl
 have b15:=F15.binds (ps:=["chart"]) fun _ _ _ _ _ _ us hl=>by obtain ⟨_,rfl⟩:=us1 hl;rfl
 have b16:=F16.binds (ps:=["chart","base"]) fun _ _ _ _ _ _ us hl=>by obtain ⟨_,_,rfl⟩:=us2 hl;rfl
 have b17:=F17.binds (ps:=["chart","order"]) fun _ _ _ _ _ _ us hl=>by obtain ⟨_,_,rfl⟩:=us2 hl;rfl
 have b18:=F18.binds (ps:=["chart","base"]) fun _ _ _ _ _ _ us hl=>by obtain ⟨_,_,rfl⟩:=us2 hl;rfl
 have b19:=F19.binds (ps:=["chart","chamber"]) fun _ _ _ _ _ _ us hl=>by obtain ⟨_,_,rfl⟩:=us2 hl;rfl
 have b20:=F20.binds (ps:=["chart"]) fun _ _ _ _ _ _ us hl=>by obtain ⟨_,rfl⟩:=us1 hl;rfl
 have b21:=F21.binds (ps:=["chart"]) fun _ _ _ _ _ _ us hl=>by obtain ⟨_,rfl⟩:=us1 hl;rfl
 have b22:=F22.binds (ps:=["self","kinds","table"]) fun _ _ _ _ _ _ us hl=>by obtain ⟨_,_,_,rfl⟩:=us3 hl;rfl
 have b23:=F23.binds (ps:=["self"]) fun _ _ _ _ _ _ us hl=>by obtain ⟨_,rfl⟩:=us1 hl;rfl
 have b24:=F24.binds (ps:=["self"]) fun _ _ _ _ _ _ us hl=>by obtain ⟨_,rfl⟩:=us1 hl;rfl
 have b25:=F25.binds (ps:=["self","chamber"]) fun _ _ _ _ _ _ us hl=>by obtain ⟨_,_,rfl⟩:=us2 hl;rfl
 have b26:=F26.binds (ps:=["self","chamber","letter"]) fun _ _ _ _ _ _ us hl=>by obtain ⟨_,_,_,rfl⟩:=us3 hl;rfl
 have b27:=F27.binds (ps:=["self","chamber","way"]) fun _ _ _ _ _ _ us hl=>by obtain ⟨_,_,_,rfl⟩:=us3 hl;rfl
 obtain ⟨x1,x2,x3,x4,x5,x6,x7,x8,x9,e,_⟩:=F28.ex
 subst e
 refine ⟨PySem.W.fnOf "law" "law" (defArgs s_law) (defBody s_law) (defScope s_law) .none x3 x4 x5 x6 x7 x8,fun s v=>.of_eq rfl,fun base _ _=>?_⟩
 let R__law_numbers:Rdy l.prog w K mg base "_law_numbers" ["_law_script","_law_many"] 1 (spNumL K):=⟨f1,_,ok_num F1 T,PySem.W.mg_of X G a1,F1.kp,b1⟩
 let R__law_table:Rdy l.prog w K mg base "_law_table" ["_law_kinds","_law_size","_law_draws","_law_share"] 1 spTable:=⟨f2,_,ok_table F2 T,PySem.W.mg_of X G a2,F2.kp,b2⟩
 let R__law_led:Rdy l.prog w K mg base "_law_led" ["_law_table_here","_law_here","_law_one"] 1 spLed:=⟨f3,_,ok_led F3 T,PySem.W.mg_of X G a3,F3.kp,b3⟩
 let R__law_order:Rdy l.prog w K mg base "_law_order" ["_law_table_here","_law_kinds","_law_base"] 2 spOrder:=⟨f4,_,ok_order F4 T R__law_led,PySem.W.mg_of X G a4,F4.kp,b4⟩
 let R__law_in_order:Rdy l.prog w K mg base "_law_in_order" ["_law_table_here","_law_order_here"] 1 spInO:=⟨f5,_,ok_inO F5 T,PySem.W.mg_of X G a5,F5.kp,b5⟩
 let R__law_same_table:Rdy l.prog w K mg base "_law_same_table" ["_law_found","_law_due"] 1 spSameT:=⟨f6,_,ok_sameT F6 T,PySem.W.mg_of X G a6,F6.kp,b6⟩
 let R__law_ends:Rdy l.prog w K mg base "_law_ends" ["_law_table_here","_law_kinds","_law_here"] 2 spEnds:=⟨f8,_,ok_ends F8 T R__law_led,PySem.W.mg_of X G a8,F8.kp,b8⟩
 let R__law_tailed:Rdy l.prog w K mg base "_law_tailed" ["_law_table_here","_law_kinds","_law_draws"] 2 spTailed:=⟨f9,_,ok_tailed F9 T R__law_led,PySem.W.mg_of X G a9,F9.kp,b9⟩
 let R__law_shorn:Rdy l.prog w K mg base "_law_shorn" ["_law_table_here","_law_kinds"] 3 spShorn:=⟨f10,_,ok_shorn F10 T hrev R__law_ends R__law_order R__law_in_order,PySem.W.mg_of X G a10,F10.kp,b10⟩
 let R_check_shape:Rdy l.prog w K mg base "check_shape" ["kinds","table"] 1 spShape:=⟨f11,_,ok_shape F11 T TC,PySem.W.mg_of X G a11,F11.kp,b11⟩
 let R_beginnings:Rdy l.prog w K mg base "beginnings" ["ends"] 1 spBeg:=⟨f12,_,ok_beg F12 T,PySem.W.mg_of X G a12,F12.kp,b12⟩
 let R_check_letters:Rdy l.prog w K mg base "check_letters" ["kinds","way"] 1 spCkL:=⟨f13,_,ok_ckl F13 T,PySem.W.mg_of X G a13,F13.kp,b13⟩
 let R_cancelled:Rdy l.prog w K mg base "cancelled" ["way"] 1 (spCan K):=⟨f14,_,ok_can F14,PySem.W.mg_of X G a14,F14.kp,b14⟩
 let R_letters_in_order:Rdy l.prog w K mg base "letters_in_order" ["chart"] 1 (spLio CChart):=⟨f15,_,ok_lio F15 T TC,PySem.W.mg_of X G a15,F15.kp,b15⟩
 let K_Chart:Rdk l.prog w K mg base CChart "Chart" ["self","kinds","table"] 2 (spInit CChart):=⟨f22,_,ok_init F22 T TC R_check_shape R_beginnings,⟨mkChart,a22,i22,kcChart⟩,PySem.W.mg_of X G aChart,b22⟩
 let M_Chart_size:Rdm l.prog w K mg base CChart "size" ["self"] 1 (spSize CChart):=⟨f23,_,ok_size F23 T TC,CLChart,⟨a23,i23,F23.kp⟩,b23⟩
 let M_Chart_table:Rdm l.prog w K mg base CChart "table" ["self"] 2 (spTabl CChart):=⟨f24,_,ok_tabl F24 T TC M_Chart_size,CLChart,⟨a24,i24,F24.kp⟩,b24⟩
 let M_Chart_check_chamber:Rdm l.prog w K mg base CChart "check_chamber" ["self","chamber"] 2 (spCkC CChart):=⟨f25,_,ok_ckc F25 M_Chart_size,CLChart,⟨a25,i25,F25.kp⟩,b25⟩
 let M_Chart_step:Rdm l.prog w K mg base CChart "step" ["self","chamber","letter"] 3 (spStep CChart):=⟨f26,_,ok_step F26 TC M_Chart_check_chamber R_check_letters,CLChart,⟨a26,i26,F26.kp⟩,b26⟩
 let M_Chart_trace:Rdm l.prog w K mg base CChart "trace" ["self","chamber","way"] 4 (spTrace CChart):=⟨f27,_,ok_trace F27 M_Chart_check_chamber TC R_check_letters M_Chart_step R_cancelled,CLChart,⟨a27,i27,F27.kp⟩,b27⟩
 let M_Chart_check_chamber_X:Rdmx l.prog w K mg base CChart "check_chamber" ["self","chamber"] 2 (spCkCX CChart CNoChamber):=⟨f25,_,ok_ckcX F25 (PySem.W.mg_of X G aNoChamber) V5 M_Chart_size,CLChart,⟨a25,i25,F25.kp⟩,b25⟩
 let R__law_back_right:Rdy l.prog w K mg base "_law_back_right" ["_law_chart","_law_table_here"] 5 (spBackR CChart):=⟨f7,_,ok_backR F7 T M_Chart_trace M_Chart_step M_Chart_size,PySem.W.mg_of X G a7,F7.kp,b7⟩
 let R_ways_from:Rdy l.prog w K mg base "ways_from" ["chart","base"] 4 (spWays CChart):=⟨f16,_,ok_ways F16 T R_letters_in_order M_Chart_step,PySem.W.mg_of X G a16,F16.kp,b16⟩
 let R_renumbered:Rdy l.prog w K mg base "renumbered" ["chart","order"] 4 (spRen CChart):=⟨f17,_,ok_ren F17 T TC M_Chart_table K_Chart,PySem.W.mg_of X G a17,F17.kp,b17⟩
 let R_numbered:Rdx l.prog w K mg base "numbered" ["chart","base"] 5 (spNbrX CChart CNoChamber):=⟨f18,_,ok_nbrX F18 T M_Chart_check_chamber_X R_ways_from R_renumbered,PySem.W.mg_of X G a18,F18.kp,b18⟩
 let R_chambers_beside:Rdy l.prog w K mg base "chambers_beside" ["chart","chamber"] 4 (spBeside CChart):=⟨f19,_,ok_beside F19 T R_letters_in_order M_Chart_step,PySem.W.mg_of X G a19,F19.kp,b19⟩
 let R_without_hairs:Rdy l.prog w K mg base "without_hairs" ["chart"] 5 (spWithout17 CChart):=⟨f20,_,ok_without17 F20 T M_Chart_size R_chambers_beside,PySem.W.mg_of X G a20,F20.kp,b20⟩
 let R_core:Rdy l.prog w K mg base "core" ["chart"] 6 (spCore17 CChart):=⟨f21,_,ok_core17 F21 R_numbered R_renumbered R_without_hairs,PySem.W.mg_of X G a21,F21.kp,b21⟩
 exact ok_law F28 T TC R__law_numbers R__law_table R__law_tailed K_Chart R_core M_Chart_table R__law_same_table R__law_order R__law_in_order R__law_shorn R__law_back_right R__law_ends
theorem walk {l:PySem.W.OpenLaw}{q:Program}{loose:List Str}{XP:(Str→Option Value)→Heap→Prop}{YP:World→Heap→Prop}{d:DefRec}{K:Params→PySem.W.Frag} (hn:l.most=some 63) (hdf:d.params.defaults=[])
  (hY:∀ (w:World) (h:Heap),YP w h→(K w.params).In h)
  (F:∀ (w:World) (mg:Str→Option Value) (fa:Addr) (h:Heap),(K w.params).In h→h.Ns mainGlobals mg→mg d.name=some (.ref fa)→
   ∃ fd:FuncData,(∀ (s:Shared) (u:Value),BindsTo s fd ⟨[u],[]⟩ [("_law_script",u)])∧∀ base:Heap,(K w.params).In base→base.Ns mainGlobals mg→FnOk l.prog w (K w.params) mg base CX0 7 fa fd ["_law_script"] (spLaw (K w.params))):
  PySem.W.WalkO q loose XP YP l.row.toRowW d [] (fun f vs=>PySem.call f vs):=
 L2.walk_of (n:=63) (k:=7) (x:="_law_script") (CX:=fun _=>CX0) (sp:=fun w=>spLaw (K w.params)) hn (by decide) hdf ⟨rfl,by decide,by decide⟩ hY F (fun _ _ a ns hl _ hS=>⟨a,ns,rfl,hS,hl,fun _=>rfl⟩) fun _ _ _ _ _ z=>z
end My
def PySem.W.Fast.tw18435049444107521660:Unit:=()
def PySem.W.Fast.tw6602750835960369146:Unit:=()
def PySem.W.Fast.tw11686129523873226275:Unit:=()
def PySem.W.Fast.tw7294468790700264428:Unit:=()
def PySem.W.Fast.tw16396435197567531764:Unit:=()
def PySem.W.Fast.tw5328304195166170892:Unit:=()
def PySem.W.Fast.tw725728490017548047:Unit:=()
def PySem.W.Fast.tw14818107082643278034:Unit:=()
def PySem.W.Fast.tw17405927397702126421:Unit:=()
def PySem.W.Fast.tw13623942710292695191:Unit:=()
def PySem.W.Fast.tw10991640307987918718:Unit:=()
def PySem.W.Fast.tw13610196540318584975:Unit:=()
def PySem.W.Fast.tw5521479476123041845:Unit:=()
def PySem.W.Fast.tw12313211456929708663:Unit:=()
def PySem.W.Fast.tw10766699311925105569:Unit:=()
def PySem.W.Fast.tw10572390828638827487:Unit:=()
def PySem.W.Fast.tw6094702622848503669:Unit:=()
def PySem.W.Fast.tw967918494717136634:Unit:=()
def PySem.W.Fast.tw10420483648571062927:Unit:=()
def PySem.W.Fast.tw865456137421013018:Unit:=()
def PySem.W.Fast.tw11820682851217638016:Unit:=()
def PySem.W.Fast.tw18434866248624541761:Unit:=()
def PySem.W.Fast.tw13138950499699945352:Unit:=()
def PySem.W.Fast.tw10083425061182281399:Unit:=()
def PySem.W.Fast.tw17678037840451655048:Unit:=()
def PySem.W.Fast.tw10060624856082000653:Unit:=()
def PySem.W.Fast.tw9670664957795538956:Unit:=()
def PySem.W.Fast.tw337200251640777031:Unit:=()
def PySem.W.Fast.tw16904115615345747669:Unit:=()
def PySem.W.Fast.tw15096636045322957778:Unit:=()
def PySem.W.Fast.tw14819723707039006105:Unit:=()
def PySem.W.Fast.tw3086517354713587354:Unit:=()
def PySem.W.Fast.tw12923992089695776853:Unit:=()
def PySem.W.Fast.tw14538213420282788080:Unit:=()
def PySem.W.Fast.tw2651334674787768302:Unit:=()
def PySem.W.Fast.tw3092376516974361574:Unit:=()
def PySem.W.Fast.tw2991277063756708892:Unit:=()
def PySem.W.Fast.tw16279764906229187534:Unit:=()
def PySem.W.Fast.tw7213342497293784464:Unit:=()
def PySem.W.Fast.tw12407183282647026370:Unit:=()
def PySem.W.Fast.tw18054508035273658493:Unit:=()
def PySem.W.Fast.tw13410298815228777556:Unit:=()
def PySem.W.Fast.tw1131494959339935434:Unit:=()
def PySem.W.Fast.tw11265794109048854745:Unit:=()
def PySem.W.Fast.tw15898178512033155910:Unit:=()
def PySem.W.Fast.tw6913519523546511235:Unit:=()
def PySem.W.Fast.tw10485696907712627441:Unit:=()
def PySem.W.Fast.tw15016374479704359746:Unit:=()
def PySem.W.Fast.tw2672058950221475062:Unit:=()
def PySem.W.Fast.tw6768018665028746944:Unit:=()
def PySem.W.Fast.tw2282529777666739982:Unit:=()
def PySem.W.Fast.tw12907711926270642012:Unit:=()
def PySem.W.Fast.tw14397199558031174782:Unit:=()
def PySem.W.Fast.tw9128902956953424023:Unit:=()
def PySem.W.Fast.tw16542510442545170757:Unit:=()
def PySem.W.Fast.tw14354896811198849903:Unit:=()
def PySem.W.Fast.tw5069150357216724369:Unit:=()
def PySem.W.Fast.tw10677703375354206590:Unit:=()
def PySem.W.Fast.tw14940937201156741225:Unit:=()
def PySem.W.Fast.tw13184656464512552734:Unit:=()
def PySem.W.Fast.tw13565507918072648515:Unit:=()
def PySem.W.Fast.tw9351609759631420563:Unit:=()
def PySem.W.Fast.tw7929259015462862447:Unit:=()
def PySem.W.Fast.tw10395321982292059465:Unit:=()
def PySem.W.Fast.tw15346915817935097548:Unit:=()
def PySem.W.Fast.tw8365458624661666975:Unit:=()
def PySem.W.Fast.tw8791155422027136704:Unit:=()
def PySem.W.Fast.tw12656580538931730695:Unit:=()
def PySem.W.Fast.tw1609443782715456984:Unit:=()
def PySem.W.Fast.tw5787054176317537927:Unit:=()
def PySem.W.Fast.tw13517132631493947478:Unit:=()
def PySem.W.Fast.tw9774575095895594803:Unit:=()
def PySem.W.Fast.tw9000086614473372582:Unit:=()
def PySem.W.Fast.tw2748779342490941814:Unit:=()
def PySem.W.Fast.tw7119555676956623904:Unit:=()
def PySem.W.Fast.tw4496534272772056520:Unit:=()
def PySem.W.Fast.tw5069250640939984199:PySem.Program:=PySem.Challenge.pw_chalkcave_k17_a_core_has_no_hairs
theorem PySem.W.Fast.te5069250640939984199:PySem.Challenge.pw_chalkcave_k17_a_core_has_no_hairs=PySem.W.Fast.tw5069250640939984199:=rfl
open PySem PySem.W PyProof.Rows
set_option maxRecDepth 100000 in
set_option maxHeartbeats 0 in
theorem PySem.Challenge.cw_chalkcave_k17_a_core_has_no_hairs_holds : PySem.Challenge.rw_chalkcave_k17_a_core_has_no_hairs.Holds := by
 w_on;o_law;k_head;(case hw=>w_witness2)
 k_fill
 refine My.walk (l:=PySem.Challenge.rw_chalkcave_k17_a_core_has_no_hairs) rfl rfl (fun w h Y=>PySem.W.kIn_of Y) ?F
 case F=>
  intro w mg fa h KX G hmg
  refine' My.all_mk KX G hmg ?_ ?_ ?_ ?_ ?_ ?_ ?_ ?_ ?_ ?_ ?_ ?_ ?_ ?_ ?_ ?_ ?_ ?_ ?_ ?_ ?_ ?_ ?_ ?_ ?_ ?_ ?_ ?_ ?_ ?_ ?_ ?_ ?_ ?_ ?_ ?_ ?_ ?_ ?_ ?_ ?_ ?_ ?_ ?_ ?_ ?_ ?_ ?_ ?_ ?_ ?_ ?_ ?_ ?_ ?_ ?_ ?_ ?_ ?_ ?_ ?_ ?_ ?aChart ?_ ?_ ?_ ?_ ?_ ?_ ?_ ?_ ?_ ?_ ?_ ?_ ?_ ?_ ?_ ?_ ?_ ?_ ?_ ?_ ?_ ?aNoChamber ?aCaveError ?_ ?_ ?_ ?_ ?_ ?_ ?_ ?_ ?_ ?_ ?_ ?_
  (case aChart=>k_is)
  (case aNoChamber=>k_is)
  (case aCaveError=>k_is)
  all_goals first | (apply L2.fun_mk;k_is;k_is;k_is) | k_is | rfl | skip
