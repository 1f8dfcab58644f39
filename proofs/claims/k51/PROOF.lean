import PyProof.Rows.All
import Wide.All
import OpenK.AllK
import Wide.FinOn
import Lean
import PyProof.EqAt
import PyProof.EqKinds
import PyProof.TupleCall
import Wide.Seal
import PyProof.EnumMake
import PyProof.EnumStmt
import PyProof.EnumFor
import PyProof.StrWalks
import PyProof.StrCalls
import PyProof.DictCompW
import PyProof.ListRange
import PyProof.CompUse
import KE.KDictList
import PyProof.ExcArgsOwn
import KE.KIsAll
import KE.KTryDeepN
import OpenK.KOwn
import KE.KTryMore
import PyProof.NsDelKeeps
import PyProof.SliceStr2
import KE.RegKIsAll
import KE.RegKTryMore
import PyProof.Rows.SumAny
import PyProof.AssignAttr
import PyProof.IsRules
import PyProof.Rows.SortWalk
import PySem.Challenge.RW_chalkcave_k51_marks_under_other_numbers
set_option Elab.async false
set_option linter.all false
set_option maxRecDepth 100000
namespace L2
open PySem PySem.Spec PyProof.Rows
abbrev Key:=Sum Int (Option Str)
def keyIs:Key→Value→Bool
 | .inl k,v=>Value.isInt k v
 | .inr (some x),v=>Value.isStrOf x v
 | .inr none,.none=>true
 | .inr none,_=>false
def keyH (w:World):Key→Int
 | .inl k=>hashInt k
 | .inr (some x)=>hashStr w x
 | .inr none=>reduceHash 0xFCA86420
theorem keyIs_shape:∀ {k:Key}{v:Value},keyIs k v=true→(∃ i t,k=Sum.inl i∧v=Value.int i t)∨(∃ x t,k=Sum.inr (some x)∧v=Value.str x t)∨(k=Sum.inr none∧v=Value.none)
 | .inl i,v,h=>by
  obtain ⟨t,e⟩:=Value.isInt_shape (k:=i) (v:=v) h
  exact .inl ⟨i,t,rfl,e⟩
 | .inr none,v,h=>by
  cases v <;> first | exact .inr (.inr ⟨rfl,rfl⟩) | exact absurd h (by simp [keyIs])
 | .inr (some x),v,h=>by
  obtain ⟨t,e⟩:=Value.isStrOf_shape (x:=x) (v:=v) h
  exact .inr (.inl ⟨x,t,rfl,e⟩)
theorem keyIs_int (i:Int) (t:Tok):keyIs (.inl i) (.int i t)=true:=by simp [keyIs,Value.isInt]
theorem keyIs_str (x:Str) (t:Tok):keyIs (.inr (some x)) (.str x t)=true:=by simp [keyIs,Value.isStrOf]
theorem key_ll (a b:Int):decide ((Sum.inl a:Key)=Sum.inl b)=(a == b):=by
 by_cases e:a=b
 · subst e;simp
 · have h:¬ (Sum.inl a:Key)=Sum.inl b:=fun q=>e (Sum.inl.inj q)
   rw [decide_eq_false h]
   exact (beq_eq_false_iff_ne.mpr e).symm
theorem key_rr (a b:Str):decide ((Sum.inr (some a):Key)=Sum.inr (some b))=decide (a=b):=by
 by_cases e:a=b
 · subst e;simp
 · have h:¬ (Sum.inr (some a):Key)=Sum.inr (some b):=fun q=>e (Option.some.inj (Sum.inr.inj q))
   rw [decide_eq_false h,decide_eq_false e]
theorem key_lr (a:Int) (b:Option Str):decide ((Sum.inl a:Key)=Sum.inr b)=false:=decide_eq_false (fun q=>nomatch q)
theorem key_rl (a:Option Str) (b:Int):decide ((Sum.inr a:Key)=Sum.inl b)=false:=decide_eq_false (fun q=>nomatch q)
theorem key_sn (a:Str):decide ((Sum.inr (some a):Key)=Sum.inr none)=false:=decide_eq_false (fun q=>nomatch q)
theorem key_ns (a:Str):decide ((Sum.inr none:Key)=Sum.inr (some a))=false:=decide_eq_false (fun q=>nomatch q)
theorem hash_non {prog:Program}{w:World}{A:Around}{E:Value→Shared→Prop}{s:Shared}{Q:Int→Shared→Prop} (h:Q (reduceHash 0xFCA86420) { s with toks:=s.toks+1 }):wpAny (model prog w) A (PySem.pyHash .none) Q E s:=
 PySem.W.pyHash_slot (T:="NoneType") rfl F.slot_NoneType_hash F.entry_NoneType_hash (F.args_NoneType_hash_1 _) (beq_builtin_none _) (.inl rfl) (wpAny_bind (wpAny_pure (wpAny_bind (wpAny_mkInt (wpAny_pure ⟨_,_,rfl,h⟩)))))
theorem eq_non {prog:Program}{w:World}{A:Around}{E:Value→Shared→Prop}{s:Shared}{Q:Bool→Shared→Prop} (h:Q true s):wpAny (model prog w) A (PySem.eqBool .none .none) Q E s:=by
 unfold PySem.eqBool
 refine wpAny_holding ?_
 exact wpAny_ite_split (fun _=>wpAny_bind (wpAny_rule (wpAny_pure h))) (fun z=>absurd rfl z)
def mixKind (prog:Program) (w:World):PySem.KeyKind prog w Key where
 is:=keyIs
 hash:=keyH w
 inj:=fun v a b ha hb=>by
  rcases keyIs_shape ha with ⟨i,t,rfl,rfl⟩ | ⟨x,t,rfl,rfl⟩ | ⟨rfl,rfl⟩
  · rcases keyIs_shape hb with ⟨j,u,rfl,e⟩ | ⟨y,u,rfl,e⟩ | ⟨rfl,e⟩
    · injection e with e1 _;rw [e1]
    · exact nomatch e
    · exact nomatch e
  · rcases keyIs_shape hb with ⟨j,u,rfl,e⟩ | ⟨y,u,rfl,e⟩ | ⟨rfl,e⟩
    · exact nomatch e
    · injection e with e1 _;rw [e1]
    · exact nomatch e
  · rcases keyIs_shape hb with ⟨j,u,rfl,e⟩ | ⟨y,u,rfl,e⟩ | ⟨rfl,e⟩
    · exact nomatch e
    · exact nomatch e
    · rfl
 byValue:=fun k v h=>by
  rcases keyIs_shape h with ⟨i,t,rfl,rfl⟩ | ⟨x,t,rfl,rfl⟩ | ⟨rfl,rfl⟩ <;> rfl
 pyHash:=fun hv h=>by
  rcases keyIs_shape hv with ⟨i,t,rfl,rfl⟩ | ⟨x,t,rfl,rfl⟩ | ⟨rfl,rfl⟩
  · exact wpAny_pyHash_int h
  · exact wpAny_pyHash_str h
  · exact hash_non h
 eqBool:=fun hu hv h=>by
  rcases keyIs_shape hu with ⟨i,t,rfl,rfl⟩ | ⟨x,t,rfl,rfl⟩ | ⟨rfl,rfl⟩
  · rcases keyIs_shape hv with ⟨j,u,rfl,rfl⟩ | ⟨y,u,rfl,rfl⟩ | ⟨rfl,rfl⟩
    · rw [key_ll] at h;exact wpAny_eqBool_int h
    · rw [key_lr] at h;exact SeqAt.EqAt.int_str i t y u _ _ _ _ h
    · rw [key_lr] at h;exact SeqAt.EqAt.int_none i t _ _ _ _ h
  · rcases keyIs_shape hv with ⟨j,u,rfl,rfl⟩ | ⟨y,u,rfl,rfl⟩ | ⟨rfl,rfl⟩
    · rw [key_rl] at h;exact SeqAt.EqAt.str_int x t j u _ _ _ _ h
    · rw [key_rr] at h;exact wpAny_eqBool_str h
    · rw [key_sn] at h;exact SeqAt.EqAt.str_none x t _ _ _ _ h
  · rcases keyIs_shape hv with ⟨j,u,rfl,rfl⟩ | ⟨y,u,rfl,rfl⟩ | ⟨rfl,rfl⟩
    · rw [key_rl] at h;exact SeqAt.EqAt.none_int j u _ _ _ _ h
    · rw [key_ns] at h;exact SeqAt.EqAt.none_str y u _ _ _ _ h
    · rw [decide_eq_true rfl] at h;exact eq_non h
 «strs»:=fun k x t v h=>by
  rcases keyIs_shape h with ⟨i,u,rfl,e⟩ | ⟨y,u,rfl,e⟩ | ⟨rfl,e⟩
  · exact nomatch e
  · injection e with e1 _
    subst e1
    cases v <;> rfl
  · exact nomatch e
theorem mixKind_int (prog:Program) (w:World) (i:Int) (t:Tok):(mixKind prog w).is (.inl i) (.int i t)=true:=keyIs_int i t
theorem mixKind_str (prog:Program) (w:World) (x:Str) (t:Tok):(mixKind prog w).is (.inr (some x)) (.str x t)=true:=keyIs_str x t
inductive V where
 | non | bl (b:Bool) | int (i:Int) | str (x:Str) | byt (b:Array UInt8) | flt (b:UInt64) | ref (a:Addr) | ty (n:String)
 deriving DecidableEq
def RelV:V→Value→Prop
 | .non,u=>u=Value.none
 | .bl b,u=>u=Value.bool b
 | .int i,u=>∃ t,u=Value.int i t
 | .str x,u=>∃ t,u=Value.str x t
 | .byt b,u=>∃ t,u=Value.bytes b t
 | .flt b,u=>∃ t,u=Value.float b t
 | .ref a,u=>u=Value.ref a
 | .ty n,u=>u=Value.type n
abbrev Vals:List V→List Value→Prop:=Paired RelV
theorem Vals.length {xs:List V}{us:List Value} (r:Vals xs us):xs.length=us.length:=Paired.length r
theorem Vals.get:∀ {xs:List V}{us:List Value}{i:Nat}{x:V},Vals xs us→xs[i]?=some x→∃ u,us[i]?=some u∧RelV x u
 | _,_,_,_,.nil,e=>by simp at e
 | _,_,0,_,.cons r _,e=>by simp at e;subst e;exact ⟨_,rfl,r⟩
 | _,_,i+1,x,.cons _ t,e=>by
  obtain ⟨u,h1,h2⟩:=Vals.get (i:=i) (x:=x) t (by simpa using e)
  exact ⟨u,by simpa using h1,h2⟩
theorem Vals.set {x:V}{u:Value} (r:RelV x u):∀ {xs:List V}{us:List Value} (i:Nat),Vals xs us→Vals (xs.set i x) (us.set i u)
 | _,_,_,.nil=>.nil
 | _,_,0,.cons _ t=>.cons r t
 | _,_,i+1,.cons q t=>.cons q (Vals.set r i t)
theorem Vals.append:∀ {xs ys:List V}{us ws:List Value},Vals xs us→Vals ys ws→Vals (xs++ys) (us++ws)
 | _,_,_,_,.nil,s=>s
 | _,_,_,_,.cons r t,s=>.cons r (Vals.append t s)
theorem Vals.take:∀ {xs:List V}{us:List Value} (n:Nat),Vals xs us→Vals (xs.take n) (us.take n)
 | _,_,0,_=>.nil
 | _,_,_+1,.nil=>.nil
 | _,_,n+1,.cons r t=>.cons r (Vals.take n t)
theorem Vals.drop:∀ {xs:List V}{us:List Value} (n:Nat),Vals xs us→Vals (xs.drop n) (us.drop n)
 | _,_,0,r=>r
 | _,_,_+1,.nil=>.nil
 | _,_,n+1,.cons _ t=>Vals.drop n t
def RelO:Option V→Option Value→Prop
 | some v,some u=>RelV v u
 | none,none=>True
 | _,_=>False
def KV {κ:Type}:List (κ × V)→List (κ × Value)→Prop:=Paired fun (p:κ × V) (q:κ × Value)=>p.1=q.1∧RelV p.2 q.2
def kV:Key→V
 | .inl i=>.int i
 | .inr (some x)=>.str x
 | .inr none=>.non
inductive HO where
 | lst (xs:List V)
 | tup (xs:List V)
 | dK (kvs:List (Key × V)) | dT (kvs:List (List Key × V))
 | set (S:Int→Bool) (n:Nat)
 | ins (C dx:Addr) (fs:List (Str × V))
 | own (x:Addr)
 | xd (fs:List (Str × V))
 | met (f x:Addr)
 | rng (lo hi:Int)
 | frz (o:Obj) (u:HO)
 | tbl (ps:Array Value)
 | ext (φ:Heap→Prop)
abbrev Hp:=Addr→Option HO
def upd (H:Hp) (a:Addr) (o:HO):Hp:=fun b=>if b=a then some o else H b
theorem upd_same {H:Hp}{a:Addr}{o:HO}:upd H a o a=some o:=by unfold upd;rw [if_pos rfl]
theorem upd_ne {H:Hp}{a b:Addr}{o:HO} (h:b≠a):upd H a o b=H b:=by unfold upd;rw [if_neg h]
theorem upd_upd {H:Hp}{a:Addr}{o u:HO}:upd (upd H a o) a u=upd H a u:=by
 funext b;unfold upd;split <;> rfl
theorem ne_of {H:Hp}{a b:Addr}{o u:HO} (h:H a=some o) (h':H b=some u) (d:o≠u):a≠b:=by
 intro e;subst e;rw [h] at h';exact d (Option.some.inj h')
theorem ne_of_none {H:Hp}{a b:Addr}{o:HO} (h:H a=some o) (h':H b=none):a≠b:=by
 intro e;subst e;rw [h] at h';cases h'
section
variable (P:Program) (w:World)
def ObjOk (H:Hp) (h:Heap) (a:Addr):HO→Prop
 | .lst xs=>xs.length≤sizeLine∧∃ (its:List Value) (n:Nat),Vals xs its∧h.get? a=some { cls:=.type "list",data:=.seq its.toArray n }
 | .tup xs=>xs.length≤sizeLine∧∃ its:List Value,Vals xs its∧IsTup h a its.toArray
 | .dK kvs=>kvs.length≤sizeLine∧(a == sysModules)=false∧∃ vs,KV kvs vs∧h.DictOf (mixKind P w) a vs
 | .dT kvs=>kvs.length≤sizeLine∧(a == sysModules)=false∧∃ xs:List (List Key × Addr × Value),
   Paired (fun (p:List Key × V) (q:List Key × Addr × Value)=>p.1=q.1∧H q.2.1=some (.tup (p.1.map kV))∧RelV p.2 q.2.2) kvs xs∧
   ∃ o es ep,h.get? a=some o∧o.ExactDict∧o.data=.dict es ep∧es.toList=xs.map (entryOfKey (tupleKind (mixKind P w)))∧(xs.map (·.1)).Nodup
 | .set S n=>h.SetOf (intKind P w) a S n
 | .ins C dx fs=>H dx=some (.own a)∧fs.length≤1000∧dx≠a∧h.get? a=some (PySem.W.instObj C dx)∧
   ∃ mA,h.Ns1 dx mA∧(∀ f,RelO (fs.lookup f) (mA f))∧PySem.Within mA (fs.map (·.1))
 | .own _=>∃ o,h.get? a=some o
 | .xd fs=>∃ mA,h.Ns1 a mA∧∀ f,RelO (fs.lookup f) (mA f)
 | .rng lo hi=>∃ t u v,h.get? a=some { cls:=.type "range",data:=.fields #[.int lo t,.int hi u,.int 1 v] }
 | .frz o u=>h.get? a=some o∧ObjOk H h a u
 | .tbl ps=>h.get? a=some { cls:=.none,data:=.fields ps }
 | .met f x=>h.get? a=some (PySem.W.methodObj (.ref f) (.ref x))
 | .ext φ=>φ h∧(∃ o,h.get? a=some o)∧∀ h1 h2:Heap,φ h1→(∀ o,h1.get? a=some o→h2.get? a=some o)→φ h2
def HOk (H:Hp) (h:Heap):Prop:=∀ a o,H a=some o→ObjOk P w H h a o
end
section
variable {P:Program}{w:World}{H H':Hp}{h h':Heap}{a:Addr}{o:HO}
theorem ObjOk.lt (x:ObjOk P w H h a o):a < h.objs.size:=by
 cases o with
 | lst xs=>obtain ⟨_,_,_,_,e⟩:=x;exact Heap.lt_size e
 | tup xs=>obtain ⟨_,_,_,p⟩:=x;exact p.lt
 | dK kvs=>obtain ⟨_,_,_,_,o,_,_,e,_⟩:=x;exact Heap.lt_size e
 | dT kvs=>obtain ⟨_,_,_,_,o,_,_,e,_⟩:=x;exact Heap.lt_size e
 | set S n=>obtain ⟨o,_,_,_,e,_⟩:=x;exact Heap.lt_size e
 | ins C dx fs=>obtain ⟨_,_,_,e,_⟩:=x;exact Heap.lt_size e
 | own y=>obtain ⟨_,e⟩:=x;exact Heap.lt_size e
 | xd fs=>obtain ⟨_,⟨_,_,_,e,_⟩,_⟩:=x;exact Heap.lt_size e
 | rng lo hi=>obtain ⟨_,_,_,e⟩:=x;exact Heap.lt_size e
 | frz ob u=>obtain ⟨e,_⟩:=x;exact Heap.lt_size e
 | tbl ps=>exact Heap.lt_size (show h.get? a=some _ from x)
 | met f y=>exact Heap.lt_size (show h.get? a=some _ from x)
 | ext φ=>obtain ⟨_,⟨_,e⟩,_⟩:=x;exact Heap.lt_size e
theorem Paired.mapP {α β:Type}{F G:α→β→Prop}:∀ {l₁:List α}{l₂:List β},Paired F l₁ l₂→(∀ a b,F a b→G a b)→Paired G l₁ l₂
 | _,_,.nil,_=>.nil
 | _,_,.cons r t,f=>.cons (f _ _ r) (Paired.mapP t f)
theorem ObjOk.stay (x:ObjOk P w H h a o) (k:∀ b u,(b=a∨H b=some (.own a))→h.get? b=some u→h'.get? b=some u)
  (ho:∀ b,H b=some (.own a)→H' b=some (.own a)) (ht:∀ b xs,H b=some (.tup xs)→H' b=some (.tup xs)):ObjOk P w H' h' a o:=by
 induction o with
 | lst xs=>obtain ⟨z,its,n,r,e⟩:=x;exact ⟨z,its,n,r,k _ _ (.inl rfl) e⟩
 | tup xs=>obtain ⟨z,its,r,ob,e,c⟩:=x;exact ⟨z,its,r,ob,k _ _ (.inl rfl) e,c⟩
 | dK kvs=>obtain ⟨z,y,vs,r,ob,es,ep,e,c⟩:=x;exact ⟨z,y,vs,r,ob,es,ep,k _ _ (.inl rfl) e,c⟩
 | dT kvs=>
  obtain ⟨z,y,xs,r,ob,es,ep,e,c⟩:=x
  exact ⟨z,y,xs,Paired.mapP r fun p q z=>⟨z.1,ht _ _ z.2.1,z.2.2⟩,ob,es,ep,k _ _ (.inl rfl) e,c⟩
 | set S n=>obtain ⟨ob,es,ep,t,e,c⟩:=x;exact ⟨ob,es,ep,t,k _ _ (.inl rfl) e,c⟩
 | ins C dx fs=>
  obtain ⟨d,z,ne,e,mA,⟨od,es,ep,e2,c⟩,r⟩:=x
  exact ⟨ho _ d,z,ne,k _ _ (.inl rfl) e,mA,⟨od,es,ep,k _ _ (.inr d) e2,c⟩,r⟩
 | own y=>obtain ⟨ob,e⟩:=x;exact ⟨ob,k _ _ (.inl rfl) e⟩
 | xd fs=>obtain ⟨mA,⟨od,es,ep,e,c⟩,r⟩:=x;exact ⟨mA,⟨od,es,ep,k _ _ (.inl rfl) e,c⟩,r⟩
 | rng lo hi=>obtain ⟨t,u,v,e⟩:=x;exact ⟨t,u,v,k _ _ (.inl rfl) e⟩
 | frz ob u ih=>obtain ⟨e,q⟩:=x;exact ⟨k _ _ (.inl rfl) e,ih q⟩
 | tbl ps=>
  have e:h.get? a=some { cls:=.none,data:=.fields ps }:=x
  show h'.get? a=some { cls:=.none,data:=.fields ps }
  exact k a _ (.inl rfl) e
 | met f y=>
  have e:h.get? a=some (PySem.W.methodObj (.ref f) (.ref y)):=x
  show h'.get? a=some (PySem.W.methodObj (.ref f) (.ref y))
  exact k a _ (.inl rfl) e
 | ext φ=>obtain ⟨p,⟨o,e⟩,st⟩:=x;exact ⟨st _ _ p fun o q=>k _ _ (.inl rfl) q,⟨o,k _ _ (.inl rfl) e⟩,st⟩
theorem HOk.lt (x:HOk P w H h) (e:H a=some o):a < h.objs.size:=(x a o e).lt
theorem HOk.fresh (x:HOk P w H h) (e:h.objs.size≤a):H a=none:=by
 cases q:H a with
 | none=>rfl
 | some u=>exact absurd (Nat.lt_of_lt_of_le (x.lt q) e) (Nat.lt_irrefl _)
theorem HOk.kept (x:HOk P w H h) (k:∀ b u,h.get? b=some u→h'.get? b=some u):HOk P w H h':=fun a o e=>
 (x a o e).stay (fun b u _ q=>k b u q) (fun _ q=>q) fun _ _ q=>q
theorem HOk.laid (x:HOk P w H h) (k:∀ b u,h.get? b=some u→h'.get? b=some u) (hp:h.objs.size≤a) (new:ObjOk P w (upd H a o) h' a o):HOk P w (upd H a o) h':=fun b u e=>by
 have hn:=x.fresh hp
 by_cases hb:b=a
 · subst hb;rw [upd_same] at e;cases e;exact new
 · rw [upd_ne hb] at e
   exact (x b u e).stay (fun c v _ q=>k c v q) (fun c q=>by rw [upd_ne (ne_of_none q hn)];exact q) fun c xs q=>by rw [upd_ne (ne_of_none q hn)];exact q
end
def Rd (H:Hp) (a:Addr) (u:HO):Prop:=H a=some u∨∃ o,H a=some (.frz o u)
theorem Rd.ok {P:Program}{w:World}{H:Hp}{h:Heap}{a:Addr}{u:HO} (r:Rd H a u) (x:HOk P w H h):ObjOk P w H h a u:=by
 rcases r with r | ⟨o,r⟩
 · exact x a u r
 · obtain ⟨_,q⟩:=x a _ r
   exact q
def Mut:Option HO→Prop
 | some (.lst _)=>True
 | some (.dK _)=>True
 | some (.dT _)=>True
 | some (.set _ _)=>True
 | some (.ins _ _ _)=>True
 | some (.ext _)=>True
 | _=>False
section
variable {P:Program}{w:World}{H:Hp}{h h':Heap}{x e:Addr}{o':HO}
theorem HOk.write (ok:HOk P w H h) (mu:Mut (H x)) (he:e=x∨H e=some (.own x)) (k:∀ b u,b≠e→h.get? b=some u→h'.get? b=some u) (heo:∃ u,h'.get? e=some u)
  (new:ObjOk P w (upd H x o') h' x o'):HOk P w (upd H x o') h':=fun b u q=>by
 have nown:∀ c y,H c=some (.own y)→c≠x:=fun c y r z=>by subst z;rw [r] at mu;exact mu
 have ntup:∀ c xs,H c=some (.tup xs)→c≠x:=fun c xs r z=>by subst z;rw [r] at mu;exact mu
 by_cases hb:b=x
 · subst hb;rw [upd_same] at q;cases q;exact new
 · rw [upd_ne hb] at q
   by_cases hbe:b=e
   · have q':H b=some (.own x):=by
       rcases he with z | z
       · exact absurd (hbe.trans z) hb
       · rw [hbe];exact z
     rw [q] at q';cases q'
     obtain ⟨v,hv⟩:=heo
     exact ⟨v,by rw [hbe];exact hv⟩
   · refine (ok b u q).stay (fun c v hc r=>k c v ?_ r) (fun c r=>by rw [upd_ne (nown c b r)];exact r) fun c xs r=>by rw [upd_ne (ntup c xs r)];exact r
     rcases hc with rfl | hc
     · exact hbe
     · rintro rfl
       rcases he with z | z
       · exact nown c b hc z
       · rw [hc] at z;cases z;exact hb rfl
end
structure Un (fs ex:List Addr) (H H':Hp) (h h':Heap):Prop where
 keep:∀ b o,h.get? b=some o→H b=none→b∉fs→b∉ex→h'.get? b=some o
 slot:∀ b o,h.get? b=some o→H b=none→b∈fs→b∉ex→∃ sl,h'.get? b=some { o with slots:=sl }
 free:∀ b o,h.get? b=some o→H b=none→b∉ex→H' b=none
 there:∀ b o,h.get? b=some o→b∉ex→∃ o',h'.get? b=some o'
 tups:∀ b xs,H b=some (.tup xs)→H' b=some (.tup xs)
 frzs:∀ b o u,H b=some (.frz o u)→H' b=some (.frz o u)
 tbls:∀ b ps,H b=some (.tbl ps)→∃ more,H' b=some (.tbl (ps++more))
section
variable {fs fs' ex ex':List Addr}{H H1 H2:Hp}{h h1 h2 h':Heap}{a x e:Addr}{o:HO}
theorem Un.any (u:Un fs ex H H1 h h1) {b:Addr}{ob:Obj} (q:h.get? b=some ob) (n:H b=none) (hx:b∉ex):∃ sl,h1.get? b=some { ob with slots:=sl }:=by
 by_cases hb:b∈fs
 · exact u.slot b ob q n hb hx
 · exact ⟨ob.slots,u.keep b ob q n hb hx⟩
theorem Un.kept (k:∀ b u,h.get? b=some u→h'.get? b=some u):Un fs ex H H h h':=
 ⟨fun b ob q _ _ _=>k b ob q,fun b ob q _ _ _=>⟨ob.slots,k b ob q⟩,fun _ _ _ n _=>n,fun b ob q _=>⟨ob,k b ob q⟩,fun _ _ q=>q,fun _ _ _ q=>q,fun _ ps q=>⟨#[],by rw [q];simp⟩⟩
theorem Un.refl:Un fs ex H H h h:=Un.kept fun _ _ q=>q
theorem Un.laid (k:∀ b u,h.get? b=some u→h'.get? b=some u) (hp:h.objs.size≤a) (hn:H a=none):Un fs ex H (upd H a o) h h' where
 keep:=fun b u q _ _ _=>k b u q
 slot:=fun b u q _ _ _=>⟨u.slots,k b u q⟩
 free:=fun b u q n _=>by rw [upd_ne (Nat.ne_of_lt (Nat.lt_of_lt_of_le (Heap.lt_size q) hp))];exact n
 there:=fun b u q _=>⟨u,k b u q⟩
 tups:=fun b xs q=>by rw [upd_ne (ne_of_none q hn)];exact q
 frzs:=fun b u xs q=>by rw [upd_ne (ne_of_none q hn)];exact q
 tbls:=fun b ps q=>⟨#[],by rw [upd_ne (ne_of_none q hn),q];simp⟩
theorem Un.write (mu:Mut (H x)) (he:e=x∨H e=some (.own x)) (k:∀ b u,b≠e→h.get? b=some u→h'.get? b=some u) (heo:∃ u,h'.get? e=some u):Un fs ex H (upd H x o) h h':=by
 have hx:∀ b,H b=none→b≠x:=fun b n z=>by subst z;rw [n] at mu;exact mu
 have hb:∀ b,H b=none→b≠e:=fun b n z=>by
  subst z
  rcases he with r | r
  · exact hx b n r
  · rw [n] at r;cases r
 have hm:∀ b u,H b=some u→¬ Mut (some u)→b≠x:=fun b u q nm z=>by subst z;rw [q] at mu;exact nm mu
 refine ⟨fun b u q n _ _=>k b u (hb b n) q,fun b u q n _ _=>⟨u.slots,k b u (hb b n) q⟩,fun b u q n _=>by rw [upd_ne (hx b n)];exact n,fun b u q _=>?_,
  fun b xs q=>by rw [upd_ne (hm b _ q fun z=>z)];exact q,fun b u xs q=>by rw [upd_ne (hm b _ q fun z=>z)];exact q,fun b ps q=>⟨#[],by rw [upd_ne (hm b _ q fun z=>z),q];simp⟩⟩
 by_cases hbe:b=e
 · subst hbe;exact heo
 · exact ⟨u,k b u hbe q⟩
end
def trk (h:Heap) (H:Hp):List Addr:=(List.range h.objs.size).filter fun a=>(H a).isSome
def hidT (h:Heap) (H:Hp):Heap:=PySem.W.hideAll h (trk h H)
theorem hidT_size (h:Heap) (H:Hp):(hidT h H).objs.size=h.objs.size:=PySem.W.hideAll_size _ _
theorem hidT_get {h:Heap}{H:Hp}{b:Addr}{o:Obj} (e:h.get? b=some o) (n:H b=none):(hidT h H).get? b=some o:=
 PySem.W.hideAll_get _ e fun hm=>by
  have q:(H b).isSome=true:=(List.mem_filter.mp hm).2
  rw [n] at q;simp at q
theorem of_hidT {h:Heap}{H:Hp}{b:Addr}{o:Obj} (e:(hidT h H).get? b=some o):h.get? b=some o∧H b=none:=by
 have e':h.get? b=some o:=PySem.W.of_hideAll (trk h H) e
 refine ⟨e',?_⟩
 cases q:H b with
 | none=>rfl
 | some x=>
  have hm:b∈trk h H:=List.mem_filter.mpr ⟨List.mem_range.mpr (Heap.lt_size e'),by simp [q]⟩
  have z:(hidT h H).get? b=none:=PySem.W.hideAll_none (trk h H) hm
  rw [z] at e;cases e
structure Mod (K:PySem.W.Frag) (mg:Str→Option Value) (base:Heap):Prop where
 kin:K.In base
 glob:base.Ns mainGlobals mg
 blt:∃ mb,base.Ns builtinsNs mb∧∀ x:Str,x≠"__name__"→mb x=bootBuiltins x
 nolimit:base.NoLimit
structure Cx where
 prog:Program
 w:World
 K:PySem.W.Frag
 mg:Str→Option Value
 base:Heap
 A:Around
 N:List Str
 s₀:Shared
 H₀:Hp
 env:Env
 outer:List Env
 stack:List Env
 ex:List Addr
 fn:Str→Bool
 calm:Bool
 pn:List (Addr × Obj)
 xe:Value→Shared→Prop
def frs (l:List Env):List Addr:=l.filterMap (·.frame)
abbrev Cx.fs (X:Cx):List Addr:=frs X.outer
def Vis (sc:Scope) (x:Str):Prop:=sc.names.lookup x=some .local∨sc.names.lookup x=some .cell∨sc.names.lookup x=some .free
def Loc (sc:Scope) (x:Str):Prop:=sc.names.lookup x=some .local∨sc.names.lookup x=some .cell
def Look (env:Env) (h:Heap) (m:Str→Option Value) (x:Str) (u:Value):Prop:=
 (env.kindOf x=some .local∧m x=some u)∨((env.kindOf x=some .cell∨env.kindOf x=some .free)∧∃ c,env.cells.lookup x=some c∧h.IsCell c (some u))
structure Cx.Ok (X:Cx):Prop where
 mod:Mod X.K X.mg X.base
 kind:X.env.scope.kind=.function
 glob:X.env.globals=mainGlobals
 blt:X.env.builtins=builtinsNs
 above:X.s₀.heap.objs.size≤X.env.locals
 inj:∀ x y c,X.env.cells.lookup x=some c→X.env.cells.lookup y=some c→x=y
 has:∀ x,(X.env.kindOf x=some .cell∨X.env.kindOf x=some .free)→∃ c,X.env.cells.lookup x=some c
 cab:∀ x c,X.fn x=true→X.env.cells.lookup x=some c→X.s₀.heap.objs.size≤c
 hd:X.calm=true→X.A.handled=none
 frames:X.A.frames=some X.stack
 stk:X.stack=X.outer∨(X.stack=X.env::X.outer∧X.env.frame=some X.env.locals)
 exf:∀ b∈X.ex,b≠X.env.locals∧∀ x c,X.env.cells.lookup x=some c→c≠b
 bs:∀ b o,X.base.get? b=some o→X.s₀.heap.get? b=some o∧X.H₀ b=none
 bsz:X.base.objs.size≤X.s₀.heap.objs.size
 noex:∀ b o,X.base.get? b=some o→b∉X.ex
 exfs:∀ b∈X.ex,b∉X.fs
 funs:X.s₀.heap.FunFrames X.base X.outer
 frf:∀ b∈X.fs,X.H₀ b=none
structure Inv (X:Cx) (pins:List (Addr × Obj)) (σ:List (Option V)) (H:Hp) (s:Shared):Prop where
 ok:X.Ok
 os:s.os=X.s₀.os
 bare:AllBare s.gens
 base:Un X.fs X.ex X.H₀ H X.s₀.heap s.heap
 loc:∃ m,s.heap.Ns X.env.locals m∧∀ (i:Nat) (x:Str) (v:V),X.N[i]?=some x→σ[i]?=some (some v)→Vis X.env.scope x→∃ u,RelV v u∧Look X.env s.heap m x u
 cell:∀ x c,X.env.cells.lookup x=some c→∃ v,s.heap.IsCell c v
 free:H X.env.locals=none
 freeC:∀ x c,X.env.cells.lookup x=some c→H c=none
 pin:∀ p∈X.pn++pins,s.heap.get? p.1=some p.2∧H p.1=none∧p.1≠X.env.locals∧p.1∉X.fs∧∀ v,p.2.data≠.cell v
 hok:HOk X.prog X.w H s.heap
 len:σ.length=X.N.length
section
variable {X:Cx}{pins:List (Addr × Obj)}{σ:List (Option V)}{H H':Hp}{s:Shared}{h':Heap}
theorem Cx.Ok.nofr (ok:X.Ok) {b:Addr}{o:Obj} (e:X.base.get? b=some o):b∉X.fs:=fun hb=>by
 have:=(ok.funs.mem hb).1
 rw [e] at this;cases this
theorem Inv.bs (I:Inv X pins σ H s):∀ b o,X.base.get? b=some o→s.heap.get? b=some o∧H b=none:=fun b o e=>
 ⟨I.base.keep b o (I.ok.bs b o e).1 (I.ok.bs b o e).2 (I.ok.nofr e) (I.ok.noex b o e),I.base.free b o (I.ok.bs b o e).1 (I.ok.bs b o e).2 (I.ok.noex b o e)⟩
theorem Inv.bk (I:Inv X pins σ H s):∀ b o,X.base.get? b=some o→s.heap.get? b=some o:=fun b o e=>(I.bs b o e).1
theorem Inv.mod (I:Inv X pins σ H s):Mod X.K X.mg X.base:=I.ok.mod
theorem Inv.kIn (I:Inv X pins σ H s):X.K.In s.heap:=I.ok.mod.kin.keeps I.bk
theorem Inv.lt (I:Inv X pins σ H s):X.env.locals < s.heap.objs.size:=let ⟨_,hn,_⟩:=I.loc;hn.lt
theorem Inv.sz (I:Inv X pins σ H s):X.s₀.heap.objs.size≤s.heap.objs.size:=Nat.le_trans I.ok.above (Nat.le_of_lt I.lt)
theorem Inv.nofs (I:Inv X pins σ H s) {a:Addr} (h:s.heap.objs.size≤a):a∉X.fs:=fun hb=>by
 obtain ⟨_,o,ho,_⟩:=I.ok.funs.mem hb
 exact absurd (Nat.lt_of_lt_of_le (Heap.lt_size ho) (Nat.le_trans I.sz h)) (Nat.lt_irrefl _)
theorem Inv.cne (I:Inv X pins σ H s):∀ x c,X.env.cells.lookup x=some c→c≠X.env.locals:=fun x c e z=>by
 obtain ⟨v,o,ho,hd⟩:=I.cell x c e
 obtain ⟨m,⟨o',es,ep,ho',hd',_⟩,_⟩:=I.loc
 rw [z,ho'] at ho;cases ho;rw [hd'] at hd;cases hd
theorem Inv.funs (I:Inv X pins σ H s):s.heap.FunFrames X.base X.outer:=by
 have all:∀ (l:List Env),(∀ b∈frs l,b∈X.fs)→X.s₀.heap.FunFrames X.base l→s.heap.FunFrames X.base l:=by
  intro l
  induction l with
  | nil=>intro _ _;trivial
  | cons env r ih=>
   intro hs hl
   obtain ⟨hk,⟨L,o,hf,hn,ho,hd⟩,hr⟩:=hl
   have hL:L∈X.fs:=hs L (by unfold frs;rw [List.filterMap_cons,hf];exact List.mem_cons_self)
   obtain ⟨sl,e⟩:=I.base.slot L o ho (I.ok.frf L hL) hL fun z=>I.ok.exfs L z hL
   exact ⟨hk,⟨L,_,hf,hn,e,hd⟩,ih (fun b hb=>hs b (by unfold frs;rw [List.filterMap_cons,hf];exact List.mem_cons_of_mem _ hb)) hr⟩
 exact all X.outer (fun _ hb=>hb) I.ok.funs
theorem Inv.stack (I:Inv X pins σ H s):s.heap.FunFrames X.base X.stack:=by
 rcases I.ok.stk with e | ⟨e,hf⟩
 · rw [e];exact I.funs
 · rw [e]
   obtain ⟨m,hn,_⟩:=I.loc
   refine .cons (by rw [I.ok.kind];decide) hf hn ?_ I.funs
   exact Heap.get?_none_of_le (Nat.le_trans I.ok.bsz I.ok.above)
theorem Inv.stkSub (I:Inv X pins σ H s):∀ b∈frs X.stack,b∈X.env.locals::X.fs:=fun b hb=>by
 rcases I.ok.stk with e | ⟨e,hf⟩
 · rw [e] at hb;exact List.mem_cons_of_mem _ hb
 · rw [e] at hb
   unfold frs at hb
   rw [List.filterMap_cons,hf] at hb
   exact hb
theorem Inv.stkFree (I:Inv X pins σ H s):∀ b∈frs X.stack,H b=none:=fun b hb=>by
 rcases List.mem_cons.mp (I.stkSub b hb) with e | hb
 · rw [e];exact I.free
 · obtain ⟨_,o,ho,_⟩:=I.ok.funs.mem hb
   exact I.base.free b o ho (I.ok.frf b hb) fun z=>I.ok.exfs b z hb
theorem Inv.step {g':Array GenState}{t':Nat}{d':Drawn}{ch:List Addr} (I:Inv X pins σ H s)
  (hch:∀ b∈ch,(b∈X.ex∨X.s₀.heap.objs.size≤b)∧b≠X.env.locals∧(∀ x c,X.env.cells.lookup x=some c→c≠b)∧∀ p∈X.pn++pins,p.1≠b)
  (keep:∀ b o,b≠X.env.locals→b∉X.fs→b∉ch→s.heap.get? b=some o→H b=none→h'.get? b=some o)
  (slot:∀ b o,b≠X.env.locals→b∈X.fs→b∉ch→s.heap.get? b=some o→H b=none→∃ sl,h'.get? b=some { o with slots:=sl }) (free:∀ b o,b∉ch→s.heap.get? b=some o→H b=none→H' b=none)
  (there:∀ b o,b∉ch→s.heap.get? b=some o→∃ o',h'.get? b=some o')
  (tups:∀ b xs,H b=some (.tup xs)→H' b=some (.tup xs)) (frzs:∀ b o u,H b=some (.frz o u)→H' b=some (.frz o u)) (tbls:∀ b ps,H b=some (.tbl ps)→∃ more,H' b=some (.tbl (ps++more)))
  (ns:∀ m,s.heap.Ns X.env.locals m→h'.Ns X.env.locals m) (hok:HOk X.prog X.w H' h') (hg:AllBare g'):
  Inv X pins σ H' { s with heap:=h',gens:=g',drawn:=d',toks:=t' }:=by
 have neL:∀ b o,X.s₀.heap.get? b=some o→b≠X.env.locals:=fun b o e=>Nat.ne_of_lt (Nat.lt_of_lt_of_le (Heap.lt_size e) I.ok.above)
 have neC:∀ b o,X.s₀.heap.get? b=some o→b∉X.ex→b∉ch:=fun b o e hx hb=>by
  rcases (hch b hb).1 with z | z
  · exact hx z
  · exact absurd (Nat.lt_of_lt_of_le (Heap.lt_size e) z) (Nat.lt_irrefl _)
 have cellK:∀ x c,X.env.cells.lookup x=some c→∀ v,s.heap.IsCell c v→h'.IsCell c v:=fun x c e v ⟨o,ho,hd⟩=>by
  have nch:c∉ch:=fun z=>(hch c z).2.2.1 x c e rfl
  by_cases hc:c∈X.fs
  · obtain ⟨sl,q⟩:=slot c o (I.cne x c e) hc nch ho (I.freeC x c e)
    exact ⟨_,q,hd⟩
  · exact ⟨o,keep c o (I.cne x c e) hc nch ho (I.freeC x c e),hd⟩
 refine ⟨I.ok,I.os,hg,⟨fun b o e n hb hx=>?_,fun b o e n hb hx=>?_,fun b o e n hx=>?_,fun b o e hx=>?_,fun b xs e=>tups b xs (I.base.tups b xs e),fun b o xs e=>frzs b o xs (I.base.frzs b o xs e),fun b ps e=>?_⟩,?_,fun x c e=>?_,?_,fun x c e=>?_,fun p hp=>?_,hok,I.len⟩
 · exact keep b o (neL b o e) hb (neC b o e hx) (I.base.keep b o e n hb hx) (I.base.free b o e n hx)
 · obtain ⟨sl,e1⟩:=I.base.slot b o e n hb hx
   obtain ⟨sl',e2⟩:=slot b _ (neL b o e) hb (neC b o e hx) e1 (I.base.free b o e n hx)
   exact ⟨sl',e2⟩
 · obtain ⟨o',e1⟩:=I.base.there b o e hx
   exact free b o' (neC b o e hx) e1 (I.base.free b o e n hx)
 · obtain ⟨o',e1⟩:=I.base.there b o e hx
   exact there b o' (neC b o e hx) e1
 · obtain ⟨m1,e1⟩:=I.base.tbls b ps e
   obtain ⟨m2,e2⟩:=tbls b _ e1
   exact ⟨m1++m2,by rw [e2,Array.append_assoc]⟩
 · obtain ⟨m,hn,hl⟩:=I.loc
   refine ⟨m,ns m hn,fun i x v e1 e2 e3=>?_⟩
   obtain ⟨u,r,l⟩:=hl i x v e1 e2 e3
   refine ⟨u,r,?_⟩
   rcases l with l | ⟨k,c,e,z⟩
   · exact .inl l
   · exact .inr ⟨k,c,e,cellK x c e _ z⟩
 · obtain ⟨v,z⟩:=I.cell x c e
   exact ⟨v,cellK x c e v z⟩
 · obtain ⟨m,⟨o,_,_,ho,_⟩,_⟩:=I.loc
   exact free _ o (fun z=>(hch _ z).2.1 rfl) ho I.free
 · obtain ⟨v,o,ho,hd⟩:=I.cell x c e
   exact free c o (fun z=>(hch c z).2.2.1 x c e rfl) ho (I.freeC x c e)
 · obtain ⟨e,n,ne,nf,d⟩:=I.pin p hp
   have nch:p.1∉ch:=fun z=>(hch p.1 z).2.2.2 p hp rfl
   exact ⟨keep p.1 p.2 ne nf nch e n,free p.1 p.2 nch e n,ne,nf,d⟩
theorem Inv.un {t':Nat} (I:Inv X pins σ H s) (u:Un X.fs [] H H' s.heap h') (hok:HOk X.prog X.w H' h'):Inv X pins σ H' { s with heap:=h',toks:=t' }:=by
 obtain ⟨m,⟨o,es,ep,ho,r⟩,_⟩:=id I.loc
 obtain ⟨sl,hL⟩:=u.any ho I.free (by simp)
 exact I.step (g':=s.gens) (d':=s.drawn) (ch:=[]) (fun _ z=>nomatch z) (fun b o _ hb _ e n=>u.keep b o e n hb (by simp)) (fun b o _ hb _ e n=>u.slot b o e n hb (by simp)) (fun b o _ e n=>u.free b o e n (by simp)) (fun b o _ e=>u.there b o e (by simp)) u.tups u.frzs u.tbls (fun m' hm=>by
  obtain ⟨o',es',ep',ho',r'⟩:=hm
  rw [ho] at ho';cases ho'
  exact ⟨_,es',ep',hL,r'⟩) hok I.bare
theorem Inv.call {g':Array GenState}{t':Nat}{d':Drawn}{ch:List Addr} (I:Inv X pins σ H s) (u:Un (frs X.stack) ch H H' s.heap h') (hok:HOk X.prog X.w H' h') (hg:AllBare g')
  (hch:∀ b∈ch,(b∈X.ex∨X.s₀.heap.objs.size≤b)∧b≠X.env.locals∧(∀ x c,X.env.cells.lookup x=some c→c≠b)∧∀ p∈X.pn++pins,p.1≠b):
  Inv X pins σ H' { s with heap:=h',gens:=g',drawn:=d',toks:=t' }:=by
 obtain ⟨m,⟨o,es,ep,ho,r⟩,_⟩:=id I.loc
 obtain ⟨sl,hL⟩:=u.any ho I.free fun z=>(hch _ z).2.1 rfl
 exact I.step (ch:=ch) hch (fun b o hL hb hc e n=>u.keep b o e n (fun z=>(List.mem_cons.mp (I.stkSub b z)).elim hL hb) hc) (fun b o _ _ hc e n=>u.any e n hc) (fun b o hc e n=>u.free b o e n hc) (fun b o hc e=>u.there b o e hc) u.tups u.frzs u.tbls (fun m' hm=>by
  obtain ⟨o',es',ep',ho',r'⟩:=hm
  rw [ho] at ho';cases ho'
  exact ⟨_,es',ep',hL,r'⟩) hok hg
theorem Inv.turned {t':Nat}{it:Addr} (I:Inv X pins σ H s) (k:∀ b o,b≠it→s.heap.get? b=some o→h'.get? b=some o) (hn:H it=none) (hL:it≠X.env.locals)
  (h1:it∈X.ex∨X.s₀.heap.objs.size≤it) (h2:∀ x c,X.env.cells.lookup x=some c→c≠it) (h3:∀ p∈X.pn++pins,p.1≠it):Inv X pins σ H { s with heap:=h',toks:=t' }:=by
 have nit:∀ b u,H b=some u→b≠it:=fun b u e z=>by rw [z,hn] at e;cases e
 refine I.step (g':=s.gens) (d':=s.drawn) (ch:=[it]) (fun b hb=>?_) (fun b o _ _ hc e _=>k b o (fun z=>hc (by simp [z])) e) (fun b o _ _ hc e _=>⟨o.slots,k b o (fun z=>hc (by simp [z])) e⟩) (fun _ _ _ _ n=>n)
  (fun b o hc e=>⟨o,k b o (fun z=>hc (by simp [z])) e⟩) (fun _ _ e=>e) (fun _ _ _ e=>e) (fun b ps e=>⟨#[],by rw [e];simp⟩) (fun m hm=>?_) (fun b u e=>?_) I.bare
 · have e:b=it:=by simpa using hb
   subst e
   exact ⟨h1,hL,h2,h3⟩
 · obtain ⟨o,es,ep,ho,r⟩:=hm
   exact ⟨o,es,ep,k _ o (Ne.symm hL) ho,r⟩
 · refine (I.hok b u e).stay (fun c v hc q=>k c v ?_ q) (fun _ q=>q) fun _ _ q=>q
   rcases hc with z | z
   · rw [z];exact nit b u e
   · exact nit c _ z
theorem Inv.tok (I:Inv X pins σ H s) (t:Nat):Inv X pins σ H { s with toks:=t }:=I.un (h':=s.heap) (t':=t) Un.refl I.hok
theorem Inv.kept {t':Nat} (I:Inv X pins σ H s) (k:∀ b u,s.heap.get? b=some u→h'.get? b=some u):Inv X pins σ H { s with heap:=h',toks:=t' }:=I.un (Un.kept k) (I.hok.kept k)
theorem Inv.laid {a:Addr}{o:HO}{t':Nat} (I:Inv X pins σ H s) (k:∀ b u,s.heap.get? b=some u→h'.get? b=some u) (hp:s.heap.objs.size≤a) (new:ObjOk X.prog X.w (upd H a o) h' a o):
  Inv X pins σ (upd H a o) { s with heap:=h',toks:=t' }:=I.un (Un.laid k hp (I.hok.fresh hp)) (I.hok.laid k hp new)
theorem Inv.write {x e:Addr}{o:HO}{t':Nat} (I:Inv X pins σ H s) (mu:Mut (H x)) (he:e=x∨H e=some (.own x)) (k:∀ b u,b≠e→s.heap.get? b=some u→h'.get? b=some u) (heo:∃ u,h'.get? e=some u)
  (new:ObjOk X.prog X.w (upd H x o) h' x o):Inv X pins σ (upd H x o) { s with heap:=h',toks:=t' }:=I.un (Un.write mu he k heo) (I.hok.write mu he k heo new)
theorem Inv.pins_of {pins':List (Addr × Obj)} (I:Inv X pins σ H s) (h:∀ p∈pins',s.heap.get? p.1=some p.2∧H p.1=none∧p.1≠X.env.locals∧p.1∉X.fs∧∀ v,p.2.data≠.cell v):Inv X pins' σ H s:=
 ⟨I.ok,I.os,I.bare,I.base,I.loc,I.cell,I.free,I.freeC,fun p hp=>(List.mem_append.mp hp).elim (fun z=>I.pin p (List.mem_append_left _ z)) (h p),I.hok,I.len⟩
theorem nodup_ix {N:List Str} (hN:N.Nodup) {i j:Nat}{x:Str} (a:N[i]?=some x) (b:N[j]?=some x):i=j:=by
 obtain ⟨h1,e1⟩:=List.getElem?_eq_some_iff.mp a
 obtain ⟨h2,e2⟩:=List.getElem?_eq_some_iff.mp b
 exact (List.getElem_inj hN).mp (e1.trans e2.symm)
theorem store_ok2 {M:Model}{A:Around}{E:Value→Shared→Prop}{i:Nat}{x:Str}{v:V}{u:Value}{Q:Unit→Shared→Prop} (I:Inv X pins σ H s) (hN:X.N.Nodup) (hi:X.N[i]?=some x) (hx:Loc X.env.scope x) (r:RelV v u)
  (h:∀ s',Inv X pins (σ.set i (some v)) H s'→(∃ a,Heap.SameBut a s.heap s'.heap∧(a=X.env.locals∨X.env.cells.lookup x=some a))→Q () s') (hf:X.fn x=true∨X.env.scope.names.lookup x=some .local:=by first | exact .inl rfl | exact .inr rfl | assumption):wpAny M A (storeName X.env x u) Q E s:=by
 obtain ⟨m,hn,hl⟩:=id I.loc
 have hcls:(X.env.scope.kind == .class || (X.env.scope.kind == .module && X.env.locals != X.env.globals))=false:=by rw [I.ok.kind];rfl
 have hiσ:i < σ.length:=by rw [I.len];exact (List.getElem?_eq_some_iff.mp hi).1
 have cne:=I.cne
 have tracked:∀ {a:Addr}{h':Heap},(∃ o,s.heap.get? a=some o∧H a=none)→Heap.SameBut a s.heap h'→HOk X.prog X.w H h':=fun {a h'} ha hs b ob e=>by
  obtain ⟨_,_,hfree⟩:=ha
  refine (I.hok b ob e).stay (fun c w' hc q=>(hs.2 c ?_).trans q) (fun _ q=>q) fun _ _ q=>q
  rintro rfl
  rcases hc with rfl | hc
  · rw [hfree] at e;cases e
  · rw [hfree] at hc;cases hc
 rcases hx with hk | hk
 · refine wpAny_storeName_local hk hn (fun h' hn' hs=>?_) hcls
   obtain ⟨oL,_,_,hoL,_⟩:=id hn
   refine h _ ⟨I.ok,I.os,I.bare,⟨fun b o e n hb hx=>?_,fun b o e n hb hx=>?_,I.base.free,fun b o e hx=>?_,I.base.tups,I.base.frzs,I.base.tbls⟩,⟨_,hn',fun j y v' e1 e2 e3=>?_⟩,fun y c e=>?_,I.free,I.freeC,fun p hp=>?_,tracked ⟨oL,hoL,I.free⟩ hs,by simpa using I.len⟩ ⟨_,hs,.inl rfl⟩
   · exact (hs.2 b (Nat.ne_of_lt (Nat.lt_of_lt_of_le (Heap.lt_size e) I.ok.above))).trans (I.base.keep b o e n hb hx)
   · obtain ⟨sl,e1⟩:=I.base.slot b o e n hb hx
     exact ⟨sl,(hs.2 b (Nat.ne_of_lt (Nat.lt_of_lt_of_le (Heap.lt_size e) I.ok.above))).trans e1⟩
   · obtain ⟨o',e1⟩:=I.base.there b o e hx
     exact ⟨o',(hs.2 b (Nat.ne_of_lt (Nat.lt_of_lt_of_le (Heap.lt_size e) I.ok.above))).trans e1⟩
   · by_cases hj:j=i
     · subst hj
       rw [hi] at e1;cases e1
       rw [List.getElem?_set_self hiσ] at e2
       cases e2
       exact ⟨u,r,.inl ⟨hk,by simp⟩⟩
     · rw [List.getElem?_set_ne (Ne.symm hj)] at e2
       obtain ⟨u',r',q⟩:=hl j y v' e1 e2 e3
       refine ⟨u',r',?_⟩
       rcases q with ⟨k,e⟩ | ⟨k,c,e,z⟩
       · refine .inl ⟨k,?_⟩
         have:y≠x:=fun e=>hj (nodup_ix hN e1 (e▸hi))
         simp [this,e]
       · exact .inr ⟨k,c,e,z.sameBut hs (cne y c e)⟩
   · obtain ⟨w',z⟩:=I.cell y c e
     exact ⟨w',z.sameBut hs (cne y c e)⟩
   · obtain ⟨e,n,ne,nf,d⟩:=I.pin p hp
     exact ⟨(hs.2 p.1 ne).trans e,n,ne,nf,d⟩
 · have hfn:X.fn x=true:=by
     rcases hf with z | z
     · exact z
     · rw [z] at hk;cases hk
   obtain ⟨c,hc⟩:=I.ok.has x (.inl hk)
   obtain ⟨w',z⟩:=I.cell x c hc
   refine wpAny_storeName_cell I.ok.kind hk hc z (fun h' hc' hs=>?_)
   obtain ⟨oc,hoc,hocd⟩:=id z
   refine h { s with heap:=h' } ⟨I.ok,I.os,I.bare,⟨fun b o e n hb hx=>?_,fun b o e n hb hx=>?_,I.base.free,fun b o e hx=>?_,I.base.tups,I.base.frzs,I.base.tbls⟩,⟨m,hn.sameBut hs (Ne.symm (cne x c hc)),fun j y v' e1 e2 e3=>?_⟩,fun y c' e=>?_,I.free,I.freeC,fun p hp=>?_,tracked ⟨oc,hoc,I.freeC x c hc⟩ hs,by simpa using I.len⟩ ⟨c,hs,.inr hc⟩
   · exact (hs.2 b (Nat.ne_of_lt (Nat.lt_of_lt_of_le (Heap.lt_size e) (I.ok.cab x c hfn hc)))).trans (I.base.keep b o e n hb hx)
   · obtain ⟨sl,e1⟩:=I.base.slot b o e n hb hx
     exact ⟨sl,(hs.2 b (Nat.ne_of_lt (Nat.lt_of_lt_of_le (Heap.lt_size e) (I.ok.cab x c hfn hc)))).trans e1⟩
   · obtain ⟨o',e1⟩:=I.base.there b o e hx
     exact ⟨o',(hs.2 b (Nat.ne_of_lt (Nat.lt_of_lt_of_le (Heap.lt_size e) (I.ok.cab x c hfn hc)))).trans e1⟩
   · by_cases hj:j=i
     · subst hj
       rw [hi] at e1;cases e1
       rw [List.getElem?_set_self hiσ] at e2
       cases e2
       exact ⟨u,r,.inr ⟨.inl hk,c,hc,hc'⟩⟩
     · rw [List.getElem?_set_ne (Ne.symm hj)] at e2
       obtain ⟨u',r',q⟩:=hl j y v' e1 e2 e3
       refine ⟨u',r',?_⟩
       rcases q with q | ⟨k,c',e,z'⟩
       · exact .inl q
       · refine .inr ⟨k,c',e,z'.sameBut hs ?_⟩
         rintro rfl
         exact hj (nodup_ix hN e1 (I.ok.inj _ _ _ e hc▸hi))
   · by_cases hcc:c'=c
     · subst hcc;exact ⟨_,hc'⟩
     · obtain ⟨w2,z2⟩:=I.cell y c' e
       exact ⟨w2,z2.sameBut hs hcc⟩
   · obtain ⟨e,n,ne,nf,d⟩:=I.pin p hp
     refine ⟨(hs.2 p.1 ?_).trans e,n,ne,nf,d⟩
     intro q
     rw [q,hoc] at e
     have q':oc=p.2:=Option.some.inj e
     exact d w' (by rw [← q'];exact hocd)
theorem store_ok {M:Model}{A:Around}{E:Value→Shared→Prop}{i:Nat}{x:Str}{v:V}{u:Value}{Q:Unit→Shared→Prop} (I:Inv X pins σ H s) (hN:X.N.Nodup) (hi:X.N[i]?=some x) (hx:Loc X.env.scope x) (r:RelV v u)
  (h:∀ s',Inv X pins (σ.set i (some v)) H s'→Q () s') (hf:X.fn x=true∨X.env.scope.names.lookup x=some .local:=by first | exact .inl rfl | exact .inr rfl | assumption):wpAny M A (storeName X.env x u) Q E s:=
 store_ok2 I hN hi hx r (fun s' I' _=>h s' I') hf
theorem Inv.call' {s':Shared}{ch:List Addr} (I:Inv X pins σ H s) (ho:s'.os=s.os) (u:Un (frs X.stack) ch H H' s.heap s'.heap) (hok:HOk X.prog X.w H' s'.heap) (hg:AllBare s'.gens)
  (hch:∀ b∈ch,(b∈X.ex∨X.s₀.heap.objs.size≤b)∧b≠X.env.locals∧(∀ x c,X.env.cells.lookup x=some c→c≠b)∧∀ p∈X.pn++pins,p.1≠b):Inv X pins σ H' s':=by
 obtain ⟨h',g',d',t',o'⟩:=s'
 have e:o'=s.os:=ho
 subst e
 exact I.call (g':=g') (t':=t') (d':=d') u hok hg hch
end
abbrev XK:=Value→Option Addr→Hp→Prop
abbrev St:=List (Option V)
abbrev VK:=V→Hp→Prop
abbrev TE:=St→Hp→VK→Prop
abbrev TT:=St→Hp→(Bool→Hp→Prop)→Prop
abbrev TA:=St→Hp→(List V→Hp→Prop)→Prop
structure Ends where
 nx:St→Hp→Prop
 rt:VK
 bk:St→Hp→Prop:=fun _ _=>False
 ct:St→Hp→Prop:=fun _ _=>False
abbrev TS:=Ends→St→Hp→Prop
def EP (X:Cx) (pins:List (Addr × Obj)) (σ:St) (Q:VK) (u:Value) (s':Shared):Prop:=∃ v H',Inv X pins σ H' s'∧RelV v u∧Q v H'
def TP (X:Cx) (pins:List (Addr × Obj)) (σ:St) (Q:Bool→Hp→Prop) (b:Bool) (s':Shared):Prop:=∃ H',Inv X pins σ H' s'∧Q b H'
def AP (X:Cx) (pins:List (Addr × Obj)) (σ:St) (Q:List V→Hp→Prop) (us:List Value) (s':Shared):Prop:=∃ vs H',Inv X pins σ H' s'∧Vals vs us∧Q vs H'
def SP (X:Cx) (pins:List (Addr × Obj)) (D:Ends) (f:Flow) (s':Shared):Prop:=
 match f with
 | .next=>∃ σ' H',Inv X pins σ' H' s'∧D.nx σ' H'
 | .brk=>∃ σ' H',Inv X pins σ' H' s'∧D.bk σ' H'
 | .cont=>∃ σ' H',Inv X pins σ' H' s'∧D.ct σ' H'
 | .ret u=>∃ v σ' H',Inv X pins σ' H' s'∧RelV v u∧D.rt v H'
def PE (X:Cx) (e:Expr) (t:TE):Prop:=
 ∀ (pins:List (Addr × Obj)) (s:Shared) (σ:St) (H:Hp) (Q:VK),Inv X pins σ H s→t σ H Q→wpAny (model X.prog X.w) X.A (eval e X.env) (EP X pins σ Q) X.xe s
def PT (X:Cx) (e:Expr) (t:TT):Prop:=
 ∀ (pins:List (Addr × Obj)) (s:Shared) (σ:St) (H:Hp) (Q:Bool→Hp→Prop),Inv X pins σ H s→t σ H Q→wpAny (model X.prog X.w) X.A (isTrue e X.env (eval e X.env)) (TP X pins σ Q) X.xe s
def PW (X:Cx) (e:Expr) (t:TT):Prop:=
 ∀ (whole:Sem Value) (pins:List (Addr × Obj)) (s:Shared) (σ:St) (H:Hp) (Q:Bool→Hp→Prop),Inv X pins σ H s→t σ H Q→wpAny (model X.prog X.w) X.A (isTrue e X.env whole) (TP X pins σ Q) X.xe s
theorem PW.pt {X:Cx}{e:Expr}{t:TT} (h:PW X e t):PT X e t:=h _
def PA (X:Cx) (es:List Expr) (t:TA):Prop:=
 ∀ (pos:Pos) (pins:List (Addr × Obj)) (s:Shared) (σ:St) (H:Hp) (Q:List V→Hp→Prop),Inv X pins σ H s→t σ H Q→wpAny (model X.prog X.w) X.A (spliced (backTo pos (starEach es X.env))) (AP X pins σ Q) X.xe s
def PS (X:Cx) (st:Stmt) (t:TS):Prop:=
 ∀ (pins:List (Addr × Obj)) (s:Shared) (σ:St) (H:Hp) (D:Ends),Inv X pins σ H s→t D σ H→wpAny (model X.prog X.w) X.A (exec st X.env) (SP X pins D) X.xe s
def PSs (X:Cx) (st:List Stmt) (t:TS):Prop:=
 ∀ (pins:List (Addr × Obj)) (s:Shared) (σ:St) (H:Hp) (D:Ends),Inv X pins σ H s→t D σ H→wpAny (model X.prog X.w) X.A (execs st X.env) (SP X pins D) X.xe s
theorem thn {α:Type}{t:Sem α}{Q Q':α→Shared→Prop}{M:Model}{A:Around}{E:Value→Shared→Prop}{s:Shared} (h:wpAny M A t Q E s) (hQ:∀ a s,Q a s→Q' a s):wpAny M A t Q' E s:=wpAny_mono h hQ fun _ _ x=>x
section
variable {X:Cx}
def tVar (i:Nat):TE:=fun σ H Q=>∃ v,σ[i]?=some (some v)∧Q v H
def tC (v:V):TE:=fun _ H Q=>Q v H
theorem pe_var {i:Nat}{x:Str}{pos:Pos} (hN:X.N[i]?=some x) (hv:Vis X.env.scope x) (hd:(x == ("__debug__":Str))=false:=by decide) (hcd:(x == ("__classdict__":Str))=false:=by decide):PE X (.Name x pos) (tVar i):=by
 intro pins s σ H Q I h
 obtain ⟨v,e,h⟩:=h
 obtain ⟨m,hn,hl⟩:=I.loc
 obtain ⟨u,r,l⟩:=hl i x v hN e hv
 have fin:EP X pins σ Q u s:=⟨v,H,I,r,h⟩
 rcases l with ⟨hk,hm⟩ | ⟨hk,c,hc,hcell⟩
 · exact wpAny_Name (wpAny_loadName_local I.ok.kind hk hn hm fin) hd
 · rcases hk with hk | hk
   · exact wpAny_Name (wpAny_loadName_cell I.ok.kind hk hc hcell fin) hd
   · exact wpAny_Name (wpAny_loadName_free I.ok.kind hk hc hcell fin hcd) hd
theorem pe_int {i j pos}:PE X (.Constant (.int i) j pos) (tC (.int i)):=fun _ _ _ H _ I h=>wpAny_Constant_int ⟨.int i,H,I.tok _,⟨_,rfl⟩,h⟩
theorem pe_bl {b j pos}:PE X (.Constant (.bool b) j pos) (tC (.bl b)):=fun _ _ _ H _ I h=>Constant_bool ⟨.bl b,H,I,rfl,h⟩
theorem pe_non {j pos}:PE X (.Constant .none j pos) (tC .non):=fun _ _ _ H _ I h=>Constant_none ⟨.non,H,I,rfl,h⟩
theorem pe_str {x j pos}:PE X (.Constant (.str x) j pos) (tC (.str x)):=fun _ _ _ H _ I h=>Calls.Constant_str ⟨.str x,H,I.tok _,⟨_,rfl⟩,h⟩
def Gl (X:Cx) (x:Str):Prop:=X.env.kindOf x=some .globalImplicit
theorem ld_glob {E:Value→Shared→Prop}{pins:List (Addr × Obj)}{s:Shared}{σ:St}{H:Hp}{x:Str}{u:Value}{pos:Pos}{Q:Value→Shared→Prop} (I:Inv X pins σ H s) (hg:Gl X x) (hm:X.mg x=some u) (h:Q u s)
  (hd:(x == ("__debug__":Str))=false:=by decide):wpAny (model X.prog X.w) X.A (eval (.Name x pos) X.env) Q E s:=
 Calls.Name_function_global I.ok.kind hg (Calls.loadGlobal_global (by rw [I.ok.glob];exact I.mod.glob.keeps I.bk) hm h) hd
theorem ld_blt {E:Value→Shared→Prop}{pins:List (Addr × Obj)}{s:Shared}{σ:St}{H:Hp}{x:Str}{u:Value}{pos:Pos}{Q:Value→Shared→Prop} (I:Inv X pins σ H s) (hg:Gl X x) (hm:X.mg x=none) (hv:bootBuiltins x=some u) (h:Q u s)
  (hn:x≠"__name__":=by decide) (hd:(x == ("__debug__":Str))=false:=by decide):wpAny (model X.prog X.w) X.A (eval (.Name x pos) X.env) Q E s:=by
 obtain ⟨mb,h1,h2⟩:=I.mod.blt
 exact Calls.Name_function_global I.ok.kind hg (Calls.loadGlobal_builtin (by rw [I.ok.glob];exact I.mod.glob.keeps I.bk) hm (by rw [I.ok.blt];exact h1.keeps I.bk) ((h2 x hn).trans hv) h) hd
theorem pe_glob {x:Str}{v:V}{u:Value}{pos:Pos} (hg:Gl X x) (hm:X.mg x=some u) (r:RelV v u) (hd:(x == ("__debug__":Str))=false:=by decide):PE X (.Name x pos) (tC v):=
 fun _ _ _ H _ I h=>ld_glob I hg hm ⟨v,H,I,r,h⟩ hd
variable {a b:Expr}{ta tb:TE}{pos:Pos}
def PC (X:Cx) (op:CmpOp) (a b:Expr) (t:TE):Prop:=
 ∀ (pins:List (Addr × Obj)) (s:Shared) (σ:St) (H:Hp) (Q:VK),Inv X pins σ H s→t σ H Q→
  wpAny (model X.prog X.w) X.A (eval a X.env) (fun v s₁=>wpAny (model X.prog X.w) X.A (eval b X.env) (fun u s₂=>wpAny (model X.prog X.w) X.A (compareOp op v u) (EP X pins σ Q) X.xe s₂) X.xe s₁) X.xe s
def tB (t:TE):TT:=fun σ H Q=>t σ H fun x H1=>∃ c,x=.bl c∧Q c H1
theorem pt_cmp {op:CmpOp}{t:TE} (h:PC X op a b t) (h1:behindInMarks op b=false:=by first | exact nobehind _ (by decide) (by decide) | rfl):PT X (.Compare a [op] [b] pos) (tB t):=by
 intro pins s σ H Q I hw
 refine wpAny_isTrue_Compare1 (thn (h pins s σ H _ I hw) fun v s1 h1=>thn h1 fun u s2 h2=>thn h2 fun c s3 ⟨x,H1,I1,r1,q1⟩=>?_) h1
 obtain ⟨d,rfl,q⟩:=q1
 cases r1
 exact wpAny_truthy_bool ⟨H1,I1,q⟩
theorem pt_val {e:Expr}{t:TE} (h:PE X e t) (he:∀ whole,isTrue e X.env whole=(do let v ← whole;standAt e.pos;holding [v] (truthy v)):=by intro _;rfl):PT X e (tB t):=by
 intro pins s σ H Q I hw
 refine isTrue_plain (thn (h pins s σ H _ I hw) fun v s1 ⟨x,H1,I1,r1,q1⟩=>?_) (he _)
 obtain ⟨d,rfl,q⟩:=q1
 cases r1
 exact wpAny_truthy_bool ⟨H1,I1,q⟩
variable {tA tB':TT}{rest:List Expr}
def tAnd (t u:TT):TT:=fun σ H Q=>t σ H fun c H1=>if c=true then u σ H1 Q else Q false H1
def tOr (t u:TT):TT:=fun σ H Q=>t σ H fun c H1=>if c=true then Q true H1 else u σ H1 Q
def tNot (t:TT):TT:=fun σ H Q=>t σ H fun c H1=>Q (!c) H1
theorem pw_and1 (ha:PT X a tA):PW X (.BoolOp .And [a] pos) tA:=by
 intro wh pins s σ H Q I h
 refine isTrue_and (thn (ha pins s σ H Q I h) fun c s1 e=>?_)
 cases c with
 | true=>exact isTrue_and_nil e
 | false=>exact e
theorem pw_or1 (ha:PT X a tA):PW X (.BoolOp .Or [a] pos) tA:=by
 intro wh pins s σ H Q I h
 refine isTrue_or (thn (ha pins s σ H Q I h) fun c s1 e=>?_)
 cases c with
 | false=>exact isTrue_or_nil e
 | true=>exact e
theorem pw_and (ha:PT X a tA) (hb:PW X (.BoolOp .And (b::rest) pos) tB'):PW X (.BoolOp .And (a::b::rest) pos) (tAnd tA tB'):=by
 intro wh pins s σ H Q I h
 refine isTrue_and (thn (ha pins s σ H _ I h) fun c s1 ⟨H1,I1,q1⟩=>?_)
 cases c with
 | true=>exact hb wh pins s1 σ H1 Q I1 q1
 | false=>exact ⟨H1,I1,q1⟩
theorem pw_or (ha:PT X a tA) (hb:PW X (.BoolOp .Or (b::rest) pos) tB'):PW X (.BoolOp .Or (a::b::rest) pos) (tOr tA tB'):=by
 intro wh pins s σ H Q I h
 refine isTrue_or (thn (ha pins s σ H _ I h) fun c s1 ⟨H1,I1,q1⟩=>?_)
 cases c with
 | true=>exact ⟨H1,I1,q1⟩
 | false=>exact hb wh pins s1 σ H1 Q I1 q1
theorem pt_not (ha:PT X a tA):PT X (.UnaryOp .Not a pos) (tNot tA):=by
 intro pins s σ H Q I h
 exact isTrue_not (ha pins s σ H (fun c H1=>Q (!c) H1) I h)
def tIf (t:TT) (ta tb:TE):TE:=fun σ H Q=>t σ H fun c H1=>if c=true then ta σ H1 Q else tb σ H1 Q
theorem pe_ifExp {c:Expr} (hc:PT X c tA) (ha:PE X a ta) (hb:PE X b tb):PE X (.IfExp c a b pos) (tIf tA ta tb):=by
 intro pins s σ H Q I h
 refine wpAny_IfExp (thn (hc pins s σ H _ I h) fun d s1 ⟨H1,I1,q1⟩=>?_)
 cases d with
 | true=>exact ha pins s1 σ H1 Q I1 q1
 | false=>exact hb pins s1 σ H1 Q I1 q1
end
def SqL (K:PySem.W.Frag) (H:Hp) (a:Addr) (xs:List V):Prop:=
 Rd H a (.lst xs)∨
  ∃ (o:Obj) (its:Array Value) (n:Nat),K.lookup a=some o∧o.cls=.type "list"∧o.dict=none∧o.data=.seq its n∧its.size≤sizeLine∧Vals xs its.toList
def SqT (K:PySem.W.Frag) (H:Hp) (a:Addr) (xs:List V):Prop:=
 Rd H a (.tup xs)∨
  ∃ (o:Obj) (its:Array Value) (n:Nat),K.lookup a=some o∧o.cls=.type "tuple"∧o.data=.seq its n∧its.size≤sizeLine∧Vals xs its.toList
def absV:Value→Option V
 | .none=>some .non
 | .bool b=>some (.bl b)
 | .int i _=>some (.int i)
 | .str x _=>some (.str x)
 | .bytes b _=>some (.byt b)
 | .float b _=>some (.flt b)
 | .ref a=>some (.ref a)
 | .type n=>some (.ty n)
 | _=>none
theorem RelV.abs {x:V}{u:Value} (r:RelV x u):absV u=some x:=by
 cases x with
 | non=>cases r;rfl
 | bl _=>cases r;rfl
 | int _=>obtain ⟨t,rfl⟩:=r;rfl
 | str _=>obtain ⟨t,rfl⟩:=r;rfl
 | byt _=>obtain ⟨t,rfl⟩:=r;rfl
 | flt _=>obtain ⟨t,rfl⟩:=r;rfl
 | ref _=>cases r;rfl
 | ty _=>cases r;rfl
theorem RelV.inj {x y:V}{u:Value} (r:RelV x u) (q:RelV y u):x=y:=Option.some.inj (r.abs.symm.trans q.abs)
theorem Vals.inj:∀ {xs ys:List V}{us:List Value},Vals xs us→Vals ys us→xs=ys
 | _,_,_,.nil,.nil=>rfl
 | _,_,_,.cons r t,.cons r' t'=>by rw [r.inj r',Vals.inj t t']
section
variable {X:Cx}{pins:List (Addr × Obj)}{σ:St}{H:Hp}{s:Shared}{a:Addr}{xs ys:List V}
theorem SqL.of {K:PySem.W.Frag} (h:H a=some (.lst xs)):SqL K H a xs:=.inl (.inl h)
theorem SqT.of {K:PySem.W.Frag} (h:H a=some (.tup xs)):SqT K H a xs:=.inl (.inl h)
theorem Inv.list (I:Inv X pins σ H s) (h:SqL X.K H a xs):∃ its:List Value,Vals xs its∧PlainL s.heap a its.toArray∧xs.length≤sizeLine:=by
 rcases h with h | ⟨o,its,n,hk,hc,hd,hs,hz,r⟩
 · obtain ⟨z,its,n,r,e⟩:=h.ok I.hok
   exact ⟨its,r,⟨_,n,e,rfl,rfl,rfl⟩,z⟩
 · refine ⟨its.toList,r,⟨o,n,I.kIn a o hk,hc,hd,by simpa using hs⟩,?_⟩
   have e:=r.length
   simp only [Array.length_toList] at e
   omega
theorem Inv.tuple (I:Inv X pins σ H s) (h:SqT X.K H a xs):∃ its:List Value,Vals xs its∧IsTup s.heap a its.toArray∧xs.length≤sizeLine:=by
 rcases h with h | ⟨o,its,n,hk,hc,hs,hz,r⟩
 · obtain ⟨z,its,r,p⟩:=h.ok I.hok
   exact ⟨its,r,p,z⟩
 · refine ⟨its.toList,r,⟨o,I.kIn a o hk,hc,n,by simpa using hs⟩,?_⟩
   have e:=r.length
   simp only [Array.length_toList] at e
   omega
theorem Inv.list_inj (I:Inv X pins σ H s) (h:SqL X.K H a xs) (h':SqL X.K H a ys):xs=ys:=by
 obtain ⟨its,r,⟨o,n,e,_,_,d⟩,_⟩:=I.list h
 obtain ⟨its',r',⟨o',n',e',_,_,d'⟩,_⟩:=I.list h'
 rw [e] at e';cases e'
 rw [d] at d'
 injection d' with d1 _
 have:its=its':=by simpa using congrArg Array.toList d1
 subst this
 exact r.inj r'
theorem Inv.tuple_inj (I:Inv X pins σ H s) (h:SqT X.K H a xs) (h':SqT X.K H a ys):xs=ys:=by
 obtain ⟨its,r,⟨o,e,_,n,d⟩,_⟩:=I.tuple h
 obtain ⟨its',r',⟨o',e',_,n',d'⟩,_⟩:=I.tuple h'
 rw [e] at e';cases e'
 rw [d] at d'
 injection d' with d1 _
 have:its=its':=by simpa using congrArg Array.toList d1
 subst this
 exact r.inj r'
end
abbrev Cx.wish (X:Cx) (E:Value→Shared→Prop):Cx:={ X with xe:=E }
abbrev Cx.nox (X:Cx):Cx:=X.wish fun _ _=>False
theorem Cx.Ok.wish {X:Cx} (ok:X.Ok) (E:Value→Shared→Prop):(X.wish E).Ok:=
 ⟨ok.mod,ok.kind,ok.glob,ok.blt,ok.above,ok.inj,ok.has,ok.cab,ok.hd,ok.frames,ok.stk,ok.exf,ok.bs,ok.bsz,ok.noex,ok.exfs,ok.funs,ok.frf⟩
theorem Cx.Ok.unwish {X:Cx}{E:Value→Shared→Prop} (ok:(X.wish E).Ok):X.Ok:=
 ⟨ok.mod,ok.kind,ok.glob,ok.blt,ok.above,ok.inj,ok.has,ok.cab,ok.hd,ok.frames,ok.stk,ok.exf,ok.bs,ok.bsz,ok.noex,ok.exfs,ok.funs,ok.frf⟩
section
variable {X:Cx}{pins:List (Addr × Obj)}{σ:St}{H:Hp}{s:Shared}{E:Value→Shared→Prop}
theorem Inv.wish (I:Inv X pins σ H s) (E:Value→Shared→Prop):Inv (X.wish E) pins σ H s:=⟨I.ok.wish E,I.os,I.bare,I.base,I.loc,I.cell,I.free,I.freeC,I.pin,I.hok,I.len⟩
theorem Inv.unwish (I:Inv (X.wish E) pins σ H s):Inv X pins σ H s:=⟨I.ok.unwish,I.os,I.bare,I.base,I.loc,I.cell,I.free,I.freeC,I.pin,I.hok,I.len⟩
theorem SP.unwish {D:Ends}{f:Flow}{s':Shared} (h:SP (X.wish E) pins D f s'):SP X pins D f s':=by
 cases f with
 | next=>obtain ⟨σ',H',I,q⟩:=h;exact ⟨σ',H',I.unwish,q⟩
 | brk=>obtain ⟨σ',H',I,q⟩:=h;exact ⟨σ',H',I.unwish,q⟩
 | cont=>obtain ⟨σ',H',I,q⟩:=h;exact ⟨σ',H',I.unwish,q⟩
 | ret u=>obtain ⟨v,σ',H',I,r,q⟩:=h;exact ⟨v,σ',H',I.unwish,r,q⟩
theorem PSs.nox {st:List Stmt}{t:TS} (h:PSs X.nox st t):PSs X st t:=fun pins s σ H D I hw=>
 wpAny_mono (h pins s σ H D (I.wish _) hw) (fun _ _ q=>q.unwish) fun _ _ z=>False.elim z
end
section
variable {X:Cx}{st:Stmt}{rest:List Stmt}{t u:TS}{e:Expr}{te:TE}{pos:Pos}
def tNext:TS:=fun D σ H=>D.nx σ H
def tSeq (t u:TS):TS:=fun D σ H=>t { D with nx:=u D } σ H
theorem pss_nil:PSs X [] tNext:=fun _ _ σ H _ I h=>wpAny_execs_nil ⟨σ,H,I,h⟩
theorem pss_cons (h1:PS X st t) (h2:PSs X rest u):PSs X (st::rest) (tSeq t u):=by
 intro pins s σ H D I h
 refine wpAny_execs_cons (thn (h1 pins s σ H { D with nx:=u D } I h) fun f s1 q=>?_)
 cases f with
 | next=>
  obtain ⟨σ',H',I',q⟩:=q
  exact h2 pins s1 σ' H' D I' q
 | ret v=>exact q
 | brk=>exact q
 | cont=>exact q
theorem pss_one (h1:PS X st t):PSs X [st] t:=by
 intro pins s σ H D I h
 refine wpAny_execs_cons (thn (h1 pins s σ H D I h) fun f s1 q=>?_)
 cases f with
 | next=>exact wpAny_execs_nil q
 | ret v=>exact q
 | brk=>exact q
 | cont=>exact q
def tCont:TS:=fun D σ H=>D.ct σ H
theorem ps_continue:PS X (.Continue pos) tCont:=fun _ _ σ H _ I h=>wpAny_Continue ⟨σ,H,I,h⟩
theorem Inv.quiet {pins:List (Addr × Obj)}{σ:St}{H:Hp}{s:Shared} (I:Inv X pins σ H s):interactive X.env=false:=by simp [interactive,I.ok.kind]
def tDrop (te:TE):TS:=fun D σ H=>te σ H fun _ H1=>D.nx σ H1
theorem ps_expr (he:PE X e te) (hs:swapsWith e none pos.line X.env=pure false:=by rfl):PS X (.Expr e pos) (tDrop te):=by
 intro pins s σ H D I h
 exact wpAny_Expr_any (thn (he pins s σ H _ I h) fun v s1 ⟨x,H1,I1,r1,q1⟩=>⟨σ,H1,I1,q1⟩) I.quiet hs
def tRet (te:TE):TS:=fun D σ H=>te σ H D.rt
theorem ps_ret (he:PE X e te):PS X (.Return (some e) pos) (tRet te):=by
 intro pins s σ H D I h
 exact wpAny_Return_some (thn (he pins s σ H _ I h) fun v s1 ⟨x,H1,I1,r1,q1⟩=>⟨x,σ,H1,I1,r1,q1⟩)
def tIfS (c:TT) (t u:TS):TS:=fun D σ H=>c σ H fun b H1=>if b=true then t D σ H1 else u D σ H1
theorem ps_if {c:Expr}{a b:List Stmt}{tc:TT} (hc:PT X c tc) (ha:PSs X a t) (hb:PSs X b u):PS X (.If c a b pos) (tIfS tc t u):=by
 intro pins s σ H D I h
 refine wpAny_If (thn (hc pins s σ H _ I h) fun d s1 ⟨H1,I1,q1⟩=>?_)
 cases d with
 | true=>exact ha pins s1 σ H1 D I1 q1
 | false=>exact hb pins s1 σ H1 D I1 q1
def tNever:TS:=fun _ _ _=>False
theorem ps_never:PS X st tNever:=fun _ _ _ _ _ _ h=>h.elim
end
abbrev TG:=V→St→Hp→(St→Hp→Prop)→Prop
abbrev TGs:=List V→St→Hp→(St→Hp→Prop)→Prop
def PG (X:Cx) (target:Expr) (t:TG):Prop:=
 ∀ (pins:List (Addr × Obj)) (s:Shared) (σ:St) (H:Hp) (v:V) (u:Value) (Q:St→Hp→Prop),Inv X pins σ H s→RelV v u→t v σ H Q→
  wpAny (model X.prog X.w) X.A (assign target X.env u) (fun _ s'=>∃ σ' H',Inv X pins σ' H' s'∧Q σ' H') X.xe s
def PGs (X:Cx) (ts:List Expr) (t:TGs):Prop:=
 ∀ (pins:List (Addr × Obj)) (s:Shared) (σ:St) (H:Hp) (vs:List V) (us:List Value) (Q:St→Hp→Prop),Inv X pins σ H s→Vals vs us→t vs σ H Q→
  wpAny (model X.prog X.w) X.A (assignInOrder ((assignEach ts X.env).map (·.2)) us) (fun _ s'=>∃ σ' H',Inv X pins σ' H' s'∧Q σ' H') X.xe s
abbrev TSet:=V→V→V→Hp→(Hp→Prop)→Prop
def PSet (X:Cx) (t:TSet):Prop:=
 ∀ (pins:List (Addr × Obj)) (s:Shared) (σ:St) (H:Hp) (o i v:V) (ov iv u:Value) (Q:Hp→Prop),Inv X pins σ H s→RelV o ov→RelV i iv→RelV v u→t o i v H Q→
  wpAny (model X.prog X.w) X.A (setItem ov iv u) (fun _ s'=>∃ H',Inv X pins σ H' s'∧Q H') X.xe s
abbrev TIp:=V→V→Hp→VK→Prop
def PIp (X:Cx) (op:Operator) (t:TIp):Prop:=
 ∀ (pins:List (Addr × Obj)) (s:Shared) (σ:St) (H:Hp) (x y:V) (v u:Value) (Q:VK),Inv X pins σ H s→RelV x v→RelV y u→t x y H Q→
  wpAny (model X.prog X.w) X.A (inplaceOp op v u) (EP X pins σ Q) X.xe s
section
variable {X:Cx}{pos:Pos}
def gName (i:Nat):TG:=fun v σ H Q=>Q (σ.set i (some v)) H
theorem pg_name {i:Nat}{x:Str} (hN:X.N.Nodup) (hi:X.N[i]?=some x) (hx:Loc X.env.scope x) (hf:X.fn x=true∨X.env.scope.names.lookup x=some .local:=by first | exact .inl rfl | exact .inr rfl | assumption):PG X (.Name x pos) (gName i):=by
 intro pins s σ H v u Q I r h
 exact wpAny_assign_Name (store_ok I hN hi hx r (fun s' I'=>⟨_,H,I',h⟩) hf)
def gNil:TGs:=fun vs σ H Q=>vs=[]∧Q σ H
def gCons (t:TG) (u:TGs):TGs:=fun vs σ H Q=>∃ v r,vs=v::r∧t v σ H fun σ' H'=>u r σ' H' Q
theorem pgs_nil:PGs X [] gNil:=by
 intro pins s σ H vs us Q I r h
 obtain ⟨e,h⟩:=h
 subst e
 cases r
 exact assignInOrder_nil ⟨σ,H,I,h⟩
theorem pgs_cons {e:Expr}{es:List Expr}{t:TG}{u:TGs} (h1:PG X e t) (h2:PGs X es u)
  (hs:(assignEach (e::es) X.env).map (·.2)=assign e X.env::(assignEach es X.env).map (·.2):=by rfl):PGs X (e::es) (gCons t u):=by
 intro pins s σ H vs us Q I r h
 obtain ⟨v,vr,e1,h⟩:=h
 subst e1
 cases r with
 | cons r rr=>
  rw [hs]
  refine assignInOrder_cons (thn (h1 pins s σ H _ _ _ I r h) fun _ s1 ⟨σ1,H1,I1,q1⟩=>?_)
  exact h2 pins s1 σ1 H1 _ _ Q I1 rr q1
def gTup (K:PySem.W.Frag) (n:Nat) (t:TGs):TG:=fun v σ H Q=>∃ a xs,v=.ref a∧SqT K H a xs∧xs.length=n∧t xs σ H Q
theorem pg_tup {es:List Expr}{k:Nat}{t:TGs}{n:Nat} (hc:X.calm=true) (h:PGs X es t)
  (hn:(assignEach es X.env).length=n:=by rfl) (hst:(assignEach es X.env).findIdx? (·.1)=none:=by rfl):PG X (.Tuple es k pos) (gTup X.K n t):=by
 intro pins s σ H v u Q I r hw
 obtain ⟨a,xs,e1,hq,hl,hw⟩:=hw
 subst e1
 cases r
 obtain ⟨its,rv,ht,hz⟩:=I.tuple hq
 refine assign_Tuple_tuple (I.ok.hd hc) ht (by simp [hn, ← hl,rv.length]) hst fun h' hx=>?_
 have I1:Inv X pins σ H { s with heap:=h' }:=I.kept (t':=s.toks) fun b o e=>hx b o (Nat.ne_of_lt (Heap.lt_size e)) e
 exact h pins _ σ H xs _ Q I1 (by simpa using rv) hw
def gSub (to ti:TE) (t:TSet):TG:=fun v σ H Q=>to σ H fun o H1=>ti σ H1 fun i H2=>t o i v H2 fun H3=>Q σ H3
theorem pg_sub {o i:Expr}{to ti:TE}{t:TSet} (ho:PE X o to) (hi:PE X i ti) (hs:PSet X t)
  (ha:∀ v,assign (.Subscript o i pos) X.env v=(do
   let ov ← holding [v] (eval o X.env)
   let iv ← holding [v,ov] (eval i X.env)
   standAt pos
   holding [v,ov,iv] (setItem ov iv v)
   release [v,ov,iv] []):=by intro _;rfl):PG X (.Subscript o i pos) (gSub to ti t):=by
 intro pins s σ H v u Q I r h
 rw [ha]
 refine wpAny_bind (wpAny_holding (thn (ho pins s σ H _ I h) fun ov s1 ⟨x,H1,I1,r1,q1⟩=>?_))
 refine wpAny_bind (wpAny_holding (thn (hi pins s1 σ H1 _ I1 q1) fun iv s2 ⟨y,H2,I2,r2,q2⟩=>?_))
 refine wpAny_bind (wpAny_standAt (wpAny_bind (wpAny_holding (thn (hs pins s2 σ H2 x y v ov iv u _ I2 r1 r2 r q2) fun _ s3 ⟨H3,I3,q3⟩=>?_))))
 exact wpAny_release ⟨σ,H3,I3,q3⟩
def tAsg (te:TE) (g:TG):TS:=fun D σ H=>te σ H fun x H1=>g x σ H1 D.nx
theorem ps_asg {tg e:Expr}{te:TE}{g:TG} (he:PE X e te) (hg:PG X tg g) (hs:swapsWithSole [tg] e pos.line X.env=pure false:=by rfl) (hw:swappedStores [tg] e X.env=pure none:=by rfl)
  (h1:(assignEach [tg] X.env).map (·.2)=[assign tg X.env]:=by rfl):PS X (.Assign [tg] e pos) (tAsg te g):=by
 intro pins s σ H D I h
 refine wpAny_Assign_stores (thn (he pins s σ H _ I h) fun v s1 ⟨x,H1,I1,r1,q1⟩=>?_) hs hw
 rw [h1]
 exact thn (hg pins s1 σ H1 x v _ I1 r1 q1) fun _ s2 q=>q
theorem ps_set {i:Nat}{x:Str}{e:Expr}{te:TE}{pos':Pos} (hN:X.N.Nodup) (hi:X.N[i]?=some x) (hx:Loc X.env.scope x) (he:PE X e te) (hs:swapsWith e (some (.Name x pos')) pos.line X.env=pure false:=by rfl) (hf:X.fn x=true∨X.env.scope.names.lookup x=some .local:=by first | exact .inl rfl | exact .inr rfl | assumption):
  PS X (.Assign [.Name x pos'] e pos) (tAsg te (gName i)):=by
 intro pins s σ H D I h
 refine wpAny_Assign_Name (thn (he pins s σ H _ I h) fun v s1 ⟨y,H1,I1,r1,q1⟩=>?_) hs
 exact store_ok I1 hN hi hx r1 (fun s2 I2=>⟨_,H1,I2,q1⟩) hf
def tAug (i:Nat) (te:TE) (ti:TIp):TS:=fun D σ H=>∃ x,σ[i]?=some (some x)∧te σ H fun y H1=>ti x y H1 fun z H2=>D.nx (σ.set i (some z)) H2
theorem ps_aug {i:Nat}{x:Str}{e:Expr}{te:TE}{op:Operator}{ti:TIp}{pos':Pos} (hN:X.N.Nodup) (hi:X.N[i]?=some x) (hx:Loc X.env.scope x) (he:PE X e te) (ho:PIp X op ti) (hf:X.fn x=true∨X.env.scope.names.lookup x=some .local:=by first | exact .inl rfl | exact .inr rfl | assumption):
  PS X (.AugAssign (.Name x pos') op e pos) (tAug i te ti):=by
 intro pins s σ H D I h
 obtain ⟨v,e1,h⟩:=h
 obtain ⟨m,hn,hl⟩:=I.loc
 have vis:Vis X.env.scope x:=by rcases hx with k | k;exact .inl k;exact .inr (.inl k)
 obtain ⟨u,r,l⟩:=hl i x v hi e1 vis
 refine wpAny_AugAssign_Name ?_
 have go:wpAny (model X.prog X.w) X.A (eval e X.env) (fun w s₂=>wpAny (model X.prog X.w) X.A (inplaceOp op u w) (fun r s₃=>wpAny (model X.prog X.w) X.A (storeName X.env x r) (fun _=>SP X pins D .next) X.xe s₃) X.xe s₂) X.xe s:=by
  refine thn (he pins s σ H _ I h) fun w s1 ⟨y,H1,I1,r1,q1⟩=>?_
  refine thn (ho pins s1 σ H1 v y u w _ I1 r r1 q1) fun z s2 ⟨zv,H2,I2,r2,q2⟩=>?_
  exact store_ok I2 hN hi hx r2 (fun s3 I3=>⟨_,H2,I3,q2⟩) hf
 rcases l with ⟨hk,hm⟩ | ⟨hk,c,hc,hcell⟩
 · exact wpAny_loadName_local I.ok.kind hk hn hm go
 · rcases hk with hk | hk
   · exact wpAny_loadName_cell I.ok.kind hk hc hcell go
   · rcases hx with k | k
     · have:X.env.scope.names.lookup x=some .free:=hk
       rw [k] at this;cases this
     · have:X.env.scope.names.lookup x=some .free:=hk
       rw [k] at this;cases this
def ipI (f:Int→Int→Int):TIp:=fun x y H Q=>∃ i j,x=.int i∧y=.int j∧Q (.int (f i j)) H
theorem ip_add:PIp X .Add (ipI fun i j=>i+j):=by
 intro pins s σ H x y v u Q I r1 r2 h
 obtain ⟨i,j,e1,e2,q⟩:=h
 subst e1;subst e2
 obtain ⟨t,rfl⟩:=r1
 obtain ⟨t',rfl⟩:=r2
 exact iadd_int ⟨.int _,H,I.tok _,⟨_,rfl⟩,q⟩
end
section
variable {X:Cx}{pos:Pos}
def tWhile (c:TT) (tb:TS):TS:=fun D σ H=>∃ W:Nat→St→Hp→Prop,(∃ m,W m σ H)∧∀ m σ H,W m σ H→
 c σ H fun b H1=>if b=true then ∃ N:St→Hp→Prop,(∀ σ' H',N σ' H'→∃ m',m' < m∧W m' σ' H')∧tb { D with nx:=N,ct:=N,bk:=D.nx } σ H1 else D.nx σ H1
theorem ps_while {c:Expr}{body:List Stmt}{tc:TT}{tb:TS} (hp:PassesOwn (model X.prog X.w) X.A X.env X.xe) (hc:PT X c tc) (hb:PSs X body tb):PS X (.While c body [] pos) (tWhile tc tb):=by
 intro pins s σ H D I h
 obtain ⟨W,⟨m0,w0⟩,turn⟩:=h
 refine wpAny_While (codeAny_whileLoop (fun n s'=>∃ σ' H',Inv X pins σ' H' s'∧W n σ' H') ?_ m0 ⟨σ,H,I,w0⟩)
 rintro n s1 ⟨σ1,H1,I1,w1⟩
 refine wpAny_passesOwn hp (thn (hc pins s1 σ1 H1 _ I1 (turn n σ1 H1 w1)) fun b s2 ⟨H2,I2,q2⟩=>?_)
 cases b with
 | true=>
  obtain ⟨N,hN,q2⟩:=q2
  rw [if_pos rfl]
  refine wpAny_passesOwn hp (thn (hb pins s2 σ1 H2 _ I2 q2) fun f s3 q3=>?_)
  cases f with
  | next=>
   obtain ⟨σ3,H3,I3,n3⟩:=q3
   obtain ⟨m',hm,w3⟩:=hN σ3 H3 n3
   exact ⟨m',hm,σ3,H3,I3,w3⟩
  | cont=>
   obtain ⟨σ3,H3,I3,n3⟩:=q3
   obtain ⟨m',hm,w3⟩:=hN σ3 H3 n3
   exact ⟨m',hm,σ3,H3,I3,w3⟩
  | brk=>exact q3
  | ret v=>exact q3
 | false=>
  rw [if_neg Bool.false_ne_true]
  exact wpAny_execs_nil ⟨σ1,H2,I2,q2⟩
end
structure It where
 go:Nat→Hp→Prop
 yld:Nat→Hp→V→Hp→Prop
 stop:Nat→Hp→Prop
def FpOk (X:Cx) (pins:List (Addr × Obj)) (H:Hp) (b:Addr):Prop:=
 H b=none∧b≠X.env.locals∧b∉X.fs∧(b∈X.ex∨X.s₀.heap.objs.size≤b)∧(∀ x c,X.env.cells.lookup x=some c→c≠b)∧∀ p∈X.pn++pins,p.1≠b
theorem Inv.fpOk {X:Cx}{pins:List (Addr × Obj)}{σ:St}{H H':Hp}{s:Shared}{b:Addr} (I:Inv X pins σ H s) (hb:s.heap.objs.size≤b) (hn:H' b=none):FpOk X pins H' b:=by
 refine ⟨hn,Nat.ne_of_gt (Nat.lt_of_lt_of_le I.lt hb),I.nofs hb,.inr (Nat.le_trans I.sz hb),fun x c e z=>?_,fun p hp z=>?_⟩
 · obtain ⟨v,q⟩:=I.cell x c e
   exact absurd (Nat.lt_of_lt_of_le q.lt (by rw [z];exact hb)) (Nat.lt_irrefl _)
 · exact absurd (Nat.lt_of_lt_of_le (Heap.lt_size (I.pin p hp).1) (by rw [z];exact hb)) (Nat.lt_irrefl _)
structure Turn (P:Program) (w:World) (K:PySem.W.Frag) (tg:Expr) (J:It) (fp:List Addr) (it:Addr) (tn:Nat→Heap→Prop):Prop where
 mem:it∈fp
 obj:∀ i h,tn i h→∀ b∈fp,∃ o,h.get? b=some o∧∀ v,o.data≠.cell v
 keep:∀ i h h',tn i h→(∀ b∈fp,∀ o,h.get? b=some o→h'.get? b=some o)→tn i h'
 item:∀ (X:Cx),X.prog=P→X.w=w→X.K=K→X.calm=true→∀ (i:Nat) (pins:List (Addr × Obj)) (s:Shared) (σ:St) (H:Hp) (E:Value→Shared→Prop),Inv X pins σ H s→(∀ b∈fp,FpOk X pins H b)→tn i s.heap→J.go i H→
  wpAny (model P w) X.A (pyNext (.ref it)) (fun r s1=>∃ u,r=some u∧
   wpAny (model P w) X.A (letOwnedTupleGo tg (.ref it) u) (fun _ s2=>∃ x H',Inv X pins σ H' s2∧RelV x u∧J.yld i H x H'∧tn (i+1) s2.heap∧∀ b∈fp,H' b=none) E s1) E s
 done:∀ (X:Cx),X.prog=P→X.w=w→X.K=K→X.calm=true→∀ (i:Nat) (pins:List (Addr × Obj)) (s:Shared) (σ:St) (H:Hp) (E:Value→Shared→Prop),Inv X pins σ H s→(∀ b∈fp,FpOk X pins H b)→tn i s.heap→J.stop i H→
  wpAny (model P w) X.A (pyNext (.ref it)) (fun r s1=>r=none∧Inv X pins σ H s1) E s
 self:∀ (A:Around) (i:Nat) (s:Shared) (Q:Value→Shared→Prop) (E:Value→Shared→Prop),tn i s.heap→Q (.ref it) s→wpAny (model P w) A (pyIter (.ref it)) Q E s
abbrev TI:=St→Hp→(It→Hp→Prop)→Prop
def PIE (X:Cx) (pins:List (Addr × Obj)) (σ:St) (tg:Expr) (R:It→Hp→Prop) (itv:Value) (s2:Shared):Prop:=
 ∃ (it:Addr) (fp:List Addr) (tn:Nat→Heap→Prop) (J:It) (H':Hp),itv=.ref it∧Inv X pins σ H' s2∧Turn X.prog X.w X.K tg J fp it tn∧tn 0 s2.heap∧(∀ b∈fp,FpOk X pins H' b)∧R J H'
def PI (X:Cx) (tg iter:Expr) (wi:TI):Prop:=
 ∀ (pins:List (Addr × Obj)) (s:Shared) (σ:St) (H:Hp) (R:It→Hp→Prop),Inv X pins σ H s→wi σ H R→
  wpAny (model X.prog X.w) X.A (eval iter X.env) (fun v s1=>wpAny (model X.prog X.w) X.A (pyIter v) (PIE X pins σ tg R) X.xe s1) X.xe s
theorem go_of {M:Model}{A:Around}{E:Value→Shared→Prop}{s:Shared}{tg:Expr}{it:Addr}{u:Value}{o:Obj}{n:String}{vs:Array Value}{Q:Unit→Shared→Prop} (ho:s.heap.get? it=some o) (hc:o.cls=.type n) (hd:o.data=.fields vs)
  (hn:["enumerate","zip","dict_itemiterator","dict_reverseitemiterator","odict_iterator","itertools.zip_longest","itertools.pairwise"].contains n=false) (hQ:Q () s):wpAny M A (letOwnedTupleGo tg (.ref it) u) Q E s:=by
 unfold letOwnedTupleGo
 cases tg <;> first
  | exact wpAny_pure hQ
  | (cases u <;> first
    | exact wpAny_pure hQ
    | (refine wpAny_bind (wpAny_load ho ?_)
       rw [hc,hd]
       show wpAny M A (if (["enumerate","zip","dict_itemiterator","dict_reverseitemiterator","odict_iterator","itertools.zip_longest","itertools.pairwise"].contains n && vs[0]? == some (rawInt _))=true then _ else _) Q E s
       rw [if_neg (by intro h;rw [hn,Bool.false_and] at h;cases h)]
       exact wpAny_pure hQ))
def Itl (K:PySem.W.Frag) (a:Addr):It:=
 ⟨fun i H=>∃ xs x,SqL K H a xs∧xs[i]?=some x,fun i H x H'=>H'=H∧∀ xs,SqL K H a xs→xs[i]?=some x,fun i H=>∃ xs,SqL K H a xs∧xs.length≤i⟩
def Itt (K:PySem.W.Frag) (a:Addr):It:=
 ⟨fun i H=>∃ xs x,SqT K H a xs∧xs[i]?=some x,fun i H x H'=>H'=H∧∀ xs,SqT K H a xs→xs[i]?=some x,fun i H=>∃ xs,SqT K H a xs∧xs.length≤i⟩
def Itr (lo:Int) (n:Nat):It:=⟨fun i _=>i < n,fun i H x H'=>H'=H∧x=.int (lo+i),fun i _=>n≤i⟩
theorem turn_list {P:Program}{w:World}{K:PySem.W.Frag}{tg:Expr} (a it:Addr):Turn P w K tg (Itl K a) [it] it (fun i h=>h.IsListIter it a i) where
 mem:=by simp
 obj:=fun i h st b hb=>by
  have e:b=it:=by simpa using hb
  subst e
  obtain ⟨o,e,c,d⟩:=st
  exact ⟨o,e,fun v z=>by rw [d] at z;cases z⟩
 keep:=fun i h h' st k=>st.at fun o e=>k it (by simp) o e
 item:=by
  intro X hP hw hK hc i pins s σ H E I hf st hg
  subst hP hw hK
  obtain ⟨xs,x,hq,hx⟩:=hg
  obtain ⟨its,rv,p,hz⟩:=I.list hq
  obtain ⟨u,hu,ru⟩:=rv.get hx
  obtain ⟨f0,f1,f2,f3,f4,f5⟩:=hf it (by simp)
  refine wpAny_pyNext_list_item st p.isList (x:=u) (by simpa using hu) fun h' st' sb=>?_
  have I1:Inv X pins σ H { s with heap:=h' }:=I.turned (t':=s.toks) (fun b o hb e=>(sb.2 b hb).trans e) f0 f1 f3 f4 f5
  obtain ⟨o,e,c,d⟩:=id st'
  exact ⟨u,rfl,go_of (s:={ s with heap:=h' }) e c d (by decide) ⟨x,H,I1,ru,⟨rfl,fun ys hy=>by rw [I.list_inj hy hq];exact hx⟩,st',fun b hb=>(hf b hb).1⟩⟩
 done:=by
  intro X hP hw hK hc i pins s σ H E I hf st hg
  subst hP hw hK
  obtain ⟨xs,hq,hx⟩:=hg
  obtain ⟨its,rv,p,hz⟩:=I.list hq
  obtain ⟨f0,f1,f2,f3,f4,f5⟩:=hf it (by simp)
  have hl:=rv.length
  exact wpAny_pyNext_list_end (I.ok.hd hc) st p.isList (by simp;omega) fun h' eb=>⟨rfl,I.turned (t':=s.toks) (fun b o hb e=>eb b o hb e) f0 f1 f3 f4 f5⟩
 self:=fun _ _ _ _ _ st h=>wpAny_pyIter_listiter st h
theorem turn_tuple {P:Program}{w:World}{K:PySem.W.Frag}{tg:Expr} (a it:Addr):Turn P w K tg (Itt K a) [it] it (fun i h=>h.IsTupleIter it a i) where
 mem:=by simp
 obj:=fun i h st b hb=>by
  have e:b=it:=by simpa using hb
  subst e
  obtain ⟨o,e,c,d⟩:=st
  exact ⟨o,e,fun v z=>by rw [d] at z;cases z⟩
 keep:=fun i h h' st k=>st.at fun o e=>k it (by simp) o e
 item:=by
  intro X hP hw hK hc i pins s σ H E I hf st hg
  subst hP hw hK
  obtain ⟨xs,x,hq,hx⟩:=hg
  obtain ⟨its,rv,p,hz⟩:=I.tuple hq
  obtain ⟨u,hu,ru⟩:=rv.get hx
  obtain ⟨f0,f1,f2,f3,f4,f5⟩:=hf it (by simp)
  refine wpAny_pyNext_tuple_item st (show s.heap.IsTuple a its.toArray from p) (x:=u) (by simpa using hu) fun h' st' sb=>?_
  have I1:Inv X pins σ H { s with heap:=h' }:=I.turned (t':=s.toks) (fun b o hb e=>(sb.2 b hb).trans e) f0 f1 f3 f4 f5
  obtain ⟨o,e,c,d⟩:=id st'
  exact ⟨u,rfl,go_of (s:={ s with heap:=h' }) e c d (by decide) ⟨x,H,I1,ru,⟨rfl,fun ys hy=>by rw [I.tuple_inj hy hq];exact hx⟩,st',fun b hb=>(hf b hb).1⟩⟩
 done:=by
  intro X hP hw hK hc i pins s σ H E I hf st hg
  subst hP hw hK
  obtain ⟨xs,hq,hx⟩:=hg
  obtain ⟨its,rv,p,hz⟩:=I.tuple hq
  obtain ⟨f0,f1,f2,f3,f4,f5⟩:=hf it (by simp)
  have hl:=rv.length
  exact wpAny_pyNext_tuple_end (I.ok.hd hc) st (show s.heap.IsTuple a its.toArray from p) (by simp;omega) fun h' eb=>⟨rfl,I.turned (t':=s.toks) (fun b o hb e=>eb b o hb e) f0 f1 f3 f4 f5⟩
 self:=fun _ _ _ _ _ st h=>wpAny_pyIter_tupleiter st h
theorem turn_range {P:Program}{w:World}{K:PySem.W.Frag}{tg:Expr} (it:Addr) (lo:Int) (n:Nat):Turn P w K tg (Itr lo n) [it] it (fun i h=>IsRangeIter h it (lo+(i:Nat) * 1) ((n:Int) - (i:Nat)) 1) where
 mem:=by simp
 obj:=fun i h st b hb=>by
  have e:b=it:=by simpa using hb
  subst e
  exact ⟨_,st,fun v z=>by
   have z':Data.fields _=Data.cell v:=z
   cases z'⟩
 keep:=fun i h h' st k=>k it (by simp) _ st
 item:=by
  intro X hP hw hK hc i pins s σ H E I hf st hg
  subst hP hw hK
  obtain ⟨f0,f1,f2,f3,f4,f5⟩:=hf it (by simp)
  have W:=Walks.range (prog:=X.prog) (w:=X.w) (I.ok.hd hc) it lo 1 n
  refine W.item i s _ _ hg st fun v h' tk hv st' kk=>?_
  obtain ⟨t,rfl⟩:=hv
  have I1:Inv X pins σ H { s with heap:=h',toks:=tk }:=I.turned (fun b o hb e=>kk b o (by simpa using hb) e) f0 f1 f3 f4 f5
  refine ⟨_,rfl,go_of (s:={ s with heap:=h',toks:=tk }) (n:="range_iterator") st' rfl rfl (by decide) ⟨.int (lo+i),H,I1,⟨t,?_⟩,⟨rfl,rfl⟩,st',fun b hb=>(hf b hb).1⟩⟩
  rw [Int.mul_one]
 done:=by
  intro X hP hw hK hc i pins s σ H E I hf st hg
  subst hP hw hK
  obtain ⟨f0,f1,f2,f3,f4,f5⟩:=hf it (by simp)
  exact wpAny_pyNext_range_end (I.ok.hd hc) st (by have:n≤i:=hg;omega) fun h' eb=>⟨rfl,I.turned (t':=s.toks) (fun b o hb e=>eb b o hb e) f0 f1 f3 f4 f5⟩
 self:=fun _ _ _ _ _ st h=>wpAny_pyIter_rangeiter st h
section
variable {X:Cx}{tg:Expr}
def iList (K:PySem.W.Frag) (tl:TE):TI:=fun σ H R=>tl σ H fun x H1=>∃ a,x=.ref a∧(∃ xs,SqL K H1 a xs)∧R (Itl K a) H1
def iTup (K:PySem.W.Frag) (tl:TE):TI:=fun σ H R=>tl σ H fun x H1=>∃ a,x=.ref a∧(∃ xs,SqT K H1 a xs)∧R (Itt K a) H1
theorem pi_list {l:Expr}{tl:TE} (hl:PE X l tl):PI X tg l (iList X.K tl):=by
 intro pins s σ H R I h
 refine thn (hl pins s σ H _ I h) fun v s1 ⟨x,H1,I1,r1,q1⟩=>?_
 obtain ⟨a,e,⟨xs,hq⟩,q⟩:=q1
 subst e
 cases r1
 obtain ⟨its,rv,p,hz⟩:=I1.list hq
 refine wpAny_pyIter_list p.isList ?_
 refine ⟨s1.heap.objs.size,[s1.heap.objs.size],_,_,H1,rfl,I1.kept (t':=s1.toks) fun b o e=>Heap.get?_push_of_some _ e,turn_list a _,⟨_,Heap.get?_push_size _ rfl,rfl,rfl⟩,fun b hb=>?_,q⟩
 have e:b=s1.heap.objs.size:=by simpa using hb
 subst e
 exact I1.fpOk (Nat.le_refl _) (I1.hok.fresh (Nat.le_refl _))
theorem pi_tup {l:Expr}{tl:TE} (hl:PE X l tl):PI X tg l (iTup X.K tl):=by
 intro pins s σ H R I h
 refine thn (hl pins s σ H _ I h) fun v s1 ⟨x,H1,I1,r1,q1⟩=>?_
 obtain ⟨a,e,⟨xs,hq⟩,q⟩:=q1
 subst e
 cases r1
 obtain ⟨its,rv,p,hz⟩:=I1.tuple hq
 refine wpAny_pyIter_tuple (show s1.heap.IsTuple a its.toArray from p) ?_
 refine ⟨s1.heap.objs.size,[s1.heap.objs.size],_,_,H1,rfl,I1.kept (t':=s1.toks) fun b o e=>Heap.get?_push_of_some _ e,turn_tuple a _,⟨_,Heap.get?_push_size _ rfl,rfl,rfl⟩,fun b hb=>?_,q⟩
 have e:b=s1.heap.objs.size:=by simpa using hb
 subst e
 exact I1.fpOk (Nat.le_refl _) (I1.hok.fresh (Nat.le_refl _))
theorem range_it {pins:List (Addr × Obj)}{σ:St}{H:Hp}{s:Shared}{R:It→Hp→Prop}{E:Value→Shared→Prop}{lo hi:Int}{t u v:Tok}{tk:Nat} (I:Inv X pins σ H s) (h1: -(2 ^ 62)≤lo) (h2:lo < 2 ^ 62) (h3: -(2 ^ 62)≤hi) (h4:hi < 2 ^ 62)
  (q:R (Itr lo (hi - lo).toNat) H):wpAny (model X.prog X.w) X.A (pyIter (.ref s.heap.objs.size)) (PIE X pins σ tg R) E { s with heap:=s.heap.push { cls:=.type "range",data:=.fields #[.int lo t,.int hi u,.int 1 v] },toks:=tk }:=by
 refine wpAny_pyIter_range (IsRange.new ..) (small_one h1 h2 h3 h4) ?_
 have I1:Inv X pins σ H { s with heap:=s.heap.push { cls:=.type "range",data:=.fields #[.int lo t,.int hi u,.int 1 v] },toks:=tk }:=I.kept fun b o e=>Heap.get?_push_of_some _ e
 refine ⟨(s.heap.push { cls:=.type "range",data:=.fields #[.int lo t,.int hi u,.int 1 v] }).objs.size,[(s.heap.push { cls:=.type "range",data:=.fields #[.int lo t,.int hi u,.int 1 v] }).objs.size],_,_,H,rfl,
  I1.kept (t':=tk) fun b o e=>Heap.get?_push_of_some _ e,turn_range _ lo (hi - lo).toNat,?_,fun b hb=>?_,q⟩
 · have e1:lo+((0:Nat):Int) * 1=lo:=by simp
   have e2:(((hi - lo).toNat:Nat):Int) - ((0:Nat):Int)=Builtin.Range.rangeSize lo hi 1:=by rw [rangeSize_one];split <;> omega
   show IsRangeIter _ _ (lo+((0:Nat):Int) * 1) ((((hi - lo).toNat:Nat):Int) - ((0:Nat):Int)) 1
   rw [e1,e2]
   exact Heap.get?_push_size _ rfl
 · have e:b=(s.heap.push { cls:=.type "range",data:=.fields #[.int lo t,.int hi u,.int 1 v] }).objs.size:=by simpa using hb
   subst e
   exact I1.fpOk (Nat.le_refl _) (I1.hok.fresh (Nat.le_refl _))
def iRng1 (ta:TA):TI:=fun σ H R=>ta σ H fun vs H1=>∃ j:Int,vs=[.int j]∧ -(2 ^ 62)≤j∧j < 2 ^ 62∧R (Itr 0 j.toNat) H1
def iRng2 (ta:TA):TI:=fun σ H R=>ta σ H fun vs H1=>∃ i j:Int,vs=[.int i,.int j]∧(-(2 ^ 62)≤i∧i < 2 ^ 62∧ -(2 ^ 62)≤j∧j < 2 ^ 62)∧R (Itr i (j - i).toNat) H1
theorem pi_range1 {a:Expr}{ta:TA}{p pos:Pos} (hg:Gl X "range") (hm:X.mg "range"=none) (ha:PA X [a] ta) (hs:starEach [a] X.env=[(false,eval a X.env)]:=by rfl):PI X tg (.Call (.Name "range" p) [a] [] pos) (iRng1 ta):=by
 intro pins s σ H R I h
 refine Call_ (ld_blt I hg hm boot_range (PyProof.Rows.callWith_type1 (thn (ha pos pins s σ H _ I h) fun us s1 ⟨vs,H1,I1,r1,q1⟩=>?_) hs rfl))
 obtain ⟨j,e,q1,q2,q⟩:=q1
 subst e
 cases r1 with
 | cons r rr=>
  cases rr
  obtain ⟨t,rfl⟩:=r
  exact call_range_1 (range_it I1 (by omega) (by omega) q1 q2 (by simpa using q))
theorem pi_range2 {a b:Expr}{ta:TA}{p pos:Pos} (hg:Gl X "range") (hm:X.mg "range"=none) (ha:PA X [a,b] ta) (hs:starEach [a,b] X.env=[(false,eval a X.env),(false,eval b X.env)]:=by rfl) (hs2:starEach [b] X.env=[(false,eval b X.env)]:=by rfl):
  PI X tg (.Call (.Name "range" p) [a,b] [] pos) (iRng2 ta):=by
 intro pins s σ H R I h
 refine Call_ (ld_blt I hg hm boot_range (PyProof.Rows.callWith_type1 (thn (ha pos pins s σ H _ I h) fun us s1 ⟨vs,H1,I1,r1,q1⟩=>?_) (by rw [hs,hs2]) (by rw [hs2];rfl)))
 obtain ⟨i,j,e,⟨q1,q2,q3,q4⟩,q⟩:=q1
 subst e
 cases r1 with
 | cons r rr=>
  cases rr with
  | cons r' rr=>
   cases rr
   obtain ⟨t,rfl⟩:=r
   obtain ⟨t',rfl⟩:=r'
   exact call_range_2 (range_it I1 q1 q2 q3 q4 q)
def tFor (wi:TI) (g:TG) (tb:TS):TS:=fun D σ H=>wi σ H fun J H1=>∃ W:Nat→Nat→St→Hp→Prop,(∃ m,W 0 m σ H1)∧∀ i m σ H,W i m σ H→
 (J.stop i H∧D.nx σ H)∨(J.go i H∧∃ N:St→Hp→Prop,(∀ σ' H',N σ' H'→∃ m',m' < m∧W (i+1) m' σ' H')∧∀ x H',J.yld i H x H'→g x σ H' fun σ2 H2=>tb { D with nx:=N,ct:=N,bk:=D.nx } σ2 H2)
def pinsAt (fp:List Addr) (h:Heap):List (Addr × Obj):=fp.filterMap fun b=>(h.get? b).map fun o=>(b,o)
theorem mem_pinsAt {fp:List Addr}{h:Heap}{b:Addr}{o:Obj} (hb:b∈fp) (e:h.get? b=some o):(b,o)∈pinsAt fp h:=List.mem_filterMap.mpr ⟨b,hb,by rw [e];rfl⟩
theorem of_pinsAt {fp:List Addr}{h:Heap}{p:Addr × Obj} (hp:p∈pinsAt fp h):p.1∈fp∧h.get? p.1=some p.2:=by
 obtain ⟨b,hb,e⟩:=List.mem_filterMap.mp hp
 cases q:h.get? b with
 | none=>rw [q] at e;cases e
 | some o=>
  rw [q] at e
  have e':(b,o)=p:=Option.some.inj e
  subst e'
  exact ⟨hb,q⟩
theorem Inv.pinned {pins:List (Addr × Obj)}{σ:St}{H:Hp}{s:Shared}{fp:List Addr} (I:Inv X pins σ H s) (hf:∀ b∈fp,FpOk X pins H b) (ho:∀ b∈fp,∃ o,s.heap.get? b=some o∧∀ v,o.data≠.cell v):Inv X (pins++pinsAt fp s.heap) σ H s:=
 I.pins_of fun p hp=>(List.mem_append.mp hp).elim (fun z=>I.pin p (List.mem_append_right _ z)) fun z=>by
  obtain ⟨hb,e⟩:=of_pinsAt z
  obtain ⟨f0,f1,f2,_⟩:=hf p.1 hb
  obtain ⟨o,e',d⟩:=ho p.1 hb
  rw [e] at e';cases e'
  exact ⟨e,f0,f1,f2,d⟩
theorem Inv.unpinned {pins pl:List (Addr × Obj)}{σ:St}{H:Hp}{s:Shared} (I:Inv X (pins++pl) σ H s):Inv X pins σ H s:=I.pins_of fun p hp=>I.pin p (List.mem_append_right _ (List.mem_append_left _ hp))
theorem ps_for {iter:Expr}{body:List Stmt}{wi:TI}{g:TG}{tb:TS}{pos:Pos} (hp:PassesOwn (model X.prog X.w) X.A X.env X.xe) (hc:X.calm=true) (hi:PI X tg iter wi) (hg:PG X tg g) (hb:PSs X body tb)
  (hs:∀ x,foldedSetIterable iter X.env x=pure x:=by intro _;rfl):PS X (.For tg iter body [] pos) (tFor wi g tb):=by
 intro pins s σ H D I h
 refine wpAny_For (thn (hi pins s σ H _ I h) fun v s1 h1=>thn h1 fun itv s2 h2=>?_) hs
 obtain ⟨it,fp,tn,J,H2,e,I2,T,st2,f2,W,⟨m0,w0⟩,turn⟩:=h2
 subst e
 have stat:∀ {H':Hp},(∀ b∈fp,H' b=none)→∀ b∈fp,FpOk X pins H' b:=fun hn b hb=>⟨hn b hb,(f2 b hb).2⟩
 refine codeAny_forLoop_any (fun n s'=>∃ i σ' H',Inv X pins σ' H' s'∧tn i s'.heap∧(∀ b∈fp,H' b=none)∧W i n σ' H') ?_ m0 ⟨0,σ,H2,I2,st2,fun b hb=>(f2 b hb).1,w0⟩
 rintro n s3 ⟨i,σ3,H3,I3,st3,fr3,w3⟩
 rcases turn i n σ3 H3 w3 with ⟨stop,qn⟩ | ⟨go,N,hN,step⟩
 · refine wpAny_passesOwn hp (thn (T.done X rfl rfl rfl hc i pins s3 σ3 H3 X.xe I3 (stat fr3) st3 stop) fun r s4 ⟨hr,I4⟩=>?_)
   subst hr
   exact wpAny_execs_nil ⟨σ3,H3,I4,qn⟩
 · refine wpAny_passesOwn hp (thn (T.item X rfl rfl rfl hc i pins s3 σ3 H3 X.xe I3 (stat fr3) st3 go) fun r s4 ⟨u,hr,h4⟩=>?_)
   subst hr
   refine wpAny_passesOwn hp (thn h4 fun _ s5 ⟨x,H5,I5,r5,y5,st5,fr5⟩=>?_)
   have I5':=I5.pinned (stat fr5) (T.obj _ _ st5)
   refine wpAny_passesOwn hp (thn (hg _ s5 σ3 H5 x u _ I5' r5 (step x H5 y5)) fun _ s6 ⟨σ6,H6,I6,q6⟩=>?_)
   refine wpAny_passesOwn hp (thn (hb _ s6 σ6 H6 _ I6 q6) fun f s7 q7=>?_)
   have again:∀ {σ7:St}{H7:Hp},Inv X (pins++pinsAt fp s5.heap) σ7 H7 s7→N σ7 H7→∃ m,m < n∧∃ i σ' H',Inv X pins σ' H' s7∧tn i s7.heap∧(∀ b∈fp,H' b=none)∧W i m σ' H':=fun {σ7 H7} I7 n7=>by
    obtain ⟨m',hm,w7⟩:=hN σ7 H7 n7
    refine ⟨m',hm,i+1,σ7,H7,I7.unpinned,T.keep _ _ _ st5 fun b hb o e=>(I7.pin (b,o) (List.mem_append_right _ (List.mem_append_right _ (mem_pinsAt hb e)))).1,fun b hb=>?_,w7⟩
    obtain ⟨o,e,d⟩:=T.obj _ _ st5 b hb
    exact (I7.pin (b,o) (List.mem_append_right _ (List.mem_append_right _ (mem_pinsAt hb e)))).2.1
   cases f with
   | next=>obtain ⟨σ7,H7,I7,n7⟩:=q7;exact again I7 n7
   | cont=>obtain ⟨σ7,H7,I7,n7⟩:=q7;exact again I7 n7
   | brk=>obtain ⟨σ7,H7,I7,q7⟩:=q7;exact ⟨σ7,H7,I7.unpinned,q7⟩
   | ret v=>obtain ⟨x7,σ7,H7,I7,r7,q7⟩:=q7;exact ⟨x7,σ7,H7,I7.unpinned,r7,q7⟩
end
theorem for_list {K:PySem.W.Frag}{a:Addr}{xs:List V}{g:TG}{tb:TS}{D:Ends}{σ:St}{H:Hp} (Pv:Nat→St→Hp→Prop) (h0:Pv 0 σ H) (hl:∀ i σ H,i≤xs.length→Pv i σ H→SqL K H a xs)
  (hs:∀ i x σ H,xs[i]?=some x→Pv i σ H→g x σ H fun σ2 H2=>tb { D with nx:=Pv (i+1),ct:=Pv (i+1),bk:=D.nx } σ2 H2) (hd:∀ σ H,Pv xs.length σ H→D.nx σ H):
  ∃ W:Nat→Nat→St→Hp→Prop,(∃ m,W 0 m σ H)∧∀ i m σ H,W i m σ H→
   ((Itl K a).stop i H∧D.nx σ H)∨((Itl K a).go i H∧∃ N:St→Hp→Prop,(∀ σ' H',N σ' H'→∃ m',m' < m∧W (i+1) m' σ' H')∧∀ x H',(Itl K a).yld i H x H'→g x σ H' fun σ2 H2=>tb { D with nx:=N,ct:=N,bk:=D.nx } σ2 H2):=by
 refine ⟨fun i m σ H=>m=xs.length - i∧i≤xs.length∧Pv i σ H,⟨xs.length,by simp,Nat.zero_le _,h0⟩,?_⟩
 rintro i m σ H ⟨rfl,hi,p⟩
 have q:=hl i σ H hi p
 by_cases hlt:i < xs.length
 · refine .inr ⟨⟨xs,xs[i],q,by simp [hlt]⟩,Pv (i+1),fun σ' H' p'=>⟨xs.length - (i+1),by omega,rfl,hlt,p'⟩,fun x H' y=>?_⟩
   obtain ⟨e,y⟩:=y
   subst e
   exact hs i x σ _ (y xs q) p
 · have e:i=xs.length:=by omega
   subst e
   exact .inl ⟨⟨xs,q,Nat.le_refl _⟩,hd σ H p⟩
theorem for_tup {K:PySem.W.Frag}{a:Addr}{xs:List V}{g:TG}{tb:TS}{D:Ends}{σ:St}{H:Hp} (Pv:Nat→St→Hp→Prop) (h0:Pv 0 σ H) (hl:∀ i σ H,i≤xs.length→Pv i σ H→SqT K H a xs)
  (hs:∀ i x σ H,xs[i]?=some x→Pv i σ H→g x σ H fun σ2 H2=>tb { D with nx:=Pv (i+1),ct:=Pv (i+1),bk:=D.nx } σ2 H2) (hd:∀ σ H,Pv xs.length σ H→D.nx σ H):
  ∃ W:Nat→Nat→St→Hp→Prop,(∃ m,W 0 m σ H)∧∀ i m σ H,W i m σ H→
   ((Itt K a).stop i H∧D.nx σ H)∨((Itt K a).go i H∧∃ N:St→Hp→Prop,(∀ σ' H',N σ' H'→∃ m',m' < m∧W (i+1) m' σ' H')∧∀ x H',(Itt K a).yld i H x H'→g x σ H' fun σ2 H2=>tb { D with nx:=N,ct:=N,bk:=D.nx } σ2 H2):=by
 refine ⟨fun i m σ H=>m=xs.length - i∧i≤xs.length∧Pv i σ H,⟨xs.length,by simp,Nat.zero_le _,h0⟩,?_⟩
 rintro i m σ H ⟨rfl,hi,p⟩
 have q:=hl i σ H hi p
 by_cases hlt:i < xs.length
 · refine .inr ⟨⟨xs,xs[i],q,by simp [hlt]⟩,Pv (i+1),fun σ' H' p'=>⟨xs.length - (i+1),by omega,rfl,hlt,p'⟩,fun x H' y=>?_⟩
   obtain ⟨e,y⟩:=y
   subst e
   exact hs i x σ _ (y xs q) p
 · have e:i=xs.length:=by omega
   subst e
   exact .inl ⟨⟨xs,q,Nat.le_refl _⟩,hd σ H p⟩
theorem for_range {lo:Int}{n:Nat}{g:TG}{tb:TS}{D:Ends}{σ:St}{H:Hp} (Pv:Nat→St→Hp→Prop) (h0:Pv 0 σ H)
  (hs:∀ i σ H,i < n→Pv i σ H→g (.int (lo+i)) σ H fun σ2 H2=>tb { D with nx:=Pv (i+1),ct:=Pv (i+1),bk:=D.nx } σ2 H2) (hd:∀ σ H,Pv n σ H→D.nx σ H):
  ∃ W:Nat→Nat→St→Hp→Prop,(∃ m,W 0 m σ H)∧∀ i m σ H,W i m σ H→
   ((Itr lo n).stop i H∧D.nx σ H)∨((Itr lo n).go i H∧∃ N:St→Hp→Prop,(∀ σ' H',N σ' H'→∃ m',m' < m∧W (i+1) m' σ' H')∧∀ x H',(Itr lo n).yld i H x H'→g x σ H' fun σ2 H2=>tb { D with nx:=N,ct:=N,bk:=D.nx } σ2 H2):=by
 refine ⟨fun i m σ H=>m=n - i∧i≤n∧Pv i σ H,⟨n,by simp,Nat.zero_le _,h0⟩,?_⟩
 rintro i m σ H ⟨rfl,hi,p⟩
 by_cases hlt:i < n
 · refine .inr ⟨hlt,Pv (i+1),fun σ' H' p'=>⟨n - (i+1),by omega,rfl,hlt,p'⟩,fun x H' y=>?_⟩
   obtain ⟨e,y⟩:=y
   subst e y
   exact hs i σ _ hlt p
 · have e:i=n:=by omega
   subst e
   exact .inl ⟨Nat.le_refl _,hd σ H p⟩
theorem while_by {c:TT}{tb:TS}{D:Ends}{σ:St}{H:Hp} (Pv:St→Hp→Prop) (μ:St→Hp→Nat) (h0:Pv σ H)
  (hs:∀ σ H,Pv σ H→c σ H fun b H1=>if b=true then tb { D with nx:=fun σ' H'=>Pv σ' H'∧μ σ' H' < μ σ H,ct:=fun σ' H'=>Pv σ' H'∧μ σ' H' < μ σ H,bk:=D.nx } σ H1 else D.nx σ H1)
  (mono:∀ σ H Q Q',(∀ b H1,Q b H1→Q' b H1)→c σ H Q→c σ H Q'):tWhile c tb D σ H:=by
 refine ⟨fun m σ H=>m=μ σ H∧Pv σ H,⟨_,rfl,h0⟩,?_⟩
 rintro m σ H ⟨rfl,p⟩
 refine mono σ H _ _ (fun b H1 q=>?_) (hs σ H p)
 cases b with
 | true=>exact ⟨_,fun σ' H' ⟨p',l⟩=>⟨_,l,rfl,p'⟩,q⟩
 | false=>exact q
abbrev R2:=V→V→Hp→VK→Prop
def OpR (X:Cx) (f:Value→Value→Sem Value) (r:R2):Prop:=
 ∀ (pins:List (Addr × Obj)) (s:Shared) (σ:St) (H:Hp) (x y:V) (v u:Value) (Q:VK),Inv X pins σ H s→RelV x v→RelV y u→r x y H Q→
  wpAny (model X.prog X.w) X.A (f v u) (EP X pins σ Q) X.xe s
def UnR (X:Cx) (f:Value→Sem Value) (r:V→Hp→VK→Prop):Prop:=
 ∀ (pins:List (Addr × Obj)) (s:Shared) (σ:St) (H:Hp) (x:V) (v:Value) (Q:VK),Inv X pins σ H s→RelV x v→r x H Q→
  wpAny (model X.prog X.w) X.A (f v) (EP X pins σ Q) X.xe s
def CallR (X:Cx) (f:Value) (r:List V→Hp→VK→Prop):Prop:=
 ∀ (pins:List (Addr × Obj)) (s:Shared) (σ:St) (H:Hp) (xs:List V) (us:List Value) (Q:VK),Inv X pins σ H s→Vals xs us→r xs H Q→
  wpAny (model X.prog X.w) X.A (call f us) (EP X pins σ Q) X.xe s
def TruR (X:Cx) (r:V→Hp→(Bool→Hp→Prop)→Prop):Prop:=
 ∀ (pins:List (Addr × Obj)) (s:Shared) (σ:St) (H:Hp) (x:V) (v:Value) (Q:Bool→Hp→Prop),Inv X pins σ H s→RelV x v→r x H Q→
  wpAny (model X.prog X.w) X.A (truthy v) (TP X pins σ Q) X.xe s
def tOp (r:R2) (ta tb:TE):TE:=fun σ H Q=>ta σ H fun x H1=>tb σ H1 fun y H2=>r x y H2 Q
def tUn (r:V→Hp→VK→Prop) (ta:TE):TE:=fun σ H Q=>ta σ H fun x H1=>r x H1 Q
def rI (C:Int→Int→Prop) (g:Int→Int→V):R2:=fun x y H Q=>∃ i j,x=.int i∧y=.int j∧C i j∧Q (g i j) H
def rI0 (g:Int→Int→V):R2:=fun x y H Q=>∃ i j,x=.int i∧y=.int j∧Q (g i j) H
def rU (g:Int→V):V→Hp→VK→Prop:=fun x H Q=>∃ i,x=.int i∧Q (g i) H
section
variable {X:Cx}{a b c:Expr}{ta tb tc:TE}{pos:Pos}
theorem binT (ha:PE X a ta) (hb:PE X b tb) {pins:List (Addr × Obj)}{s:Shared}{σ:St}{H:Hp}{R:V→V→Hp→Prop} (I:Inv X pins σ H s)
  (h:ta σ H fun x H1=>tb σ H1 fun y H2=>R x y H2) {Q:Value→Shared→Prop}{f:Value→Value→Sem Value}
  (hf:∀ v u s2 x y H2,Inv X pins σ H2 s2→RelV x v→RelV y u→R x y H2→wpAny (model X.prog X.w) X.A (f v u) Q X.xe s2):
  wpAny (model X.prog X.w) X.A (eval a X.env) (fun v s₁=>wpAny (model X.prog X.w) X.A (eval b X.env) (fun u s₂=>wpAny (model X.prog X.w) X.A (f v u) Q X.xe s₂) X.xe s₁) X.xe s:=by
 refine thn (ha pins s σ H _ I h) fun v s1 ⟨x,H1,I1,r1,q1⟩=>?_
 refine thn (hb pins s1 σ H1 _ I1 q1) fun u s2 ⟨y,H2,I2,r2,q2⟩=>?_
 exact hf v u s2 x y H2 I2 r1 r2 q2
theorem pe_op {op:Operator}{r:R2} (ho:OpR X (binaryOp op) r) (ha:PE X a ta) (hb:PE X b tb):PE X (.BinOp a op b pos) (tOp r ta tb):=by
 intro pins s σ H Q I h
 exact wpAny_BinOp (binT ha hb I h fun v u s2 x y H2 I2 rx ry q=>ho pins s2 σ H2 x y v u Q I2 rx ry q)
theorem pe_un {op:UnaryOp}{r:V→Hp→VK→Prop} (ho:UnR X (unaryOp op) r) (ha:PE X a ta):PE X (.UnaryOp op a pos) (tUn r ta):=by
 intro pins s σ H Q I h
 exact UnaryOp_ (thn (ha pins s σ H _ I h) fun v s1 ⟨x,H1,I1,r1,q1⟩=>ho pins s1 σ H1 x v Q I1 r1 q1)
theorem opI {f:Value→Value→Sem Value}{C:Int→Int→Prop}{g:Int→Int→Int}
  (rule:∀ (i j:Int) (t u:Tok) (s:Shared) (Q:Value→Shared→Prop) (E:Value→Shared→Prop),C i j→Q (.int (g i j) s.toks) { s with toks:=s.toks+1 }→wpAny (model X.prog X.w) X.A (f (.int i t) (.int j u)) Q E s):
  OpR X f (rI C fun i j=>.int (g i j)):=by
 intro pins s σ H x y v u Q I rx ry h
 obtain ⟨i,j,rfl,rfl,hc,q⟩:=h
 obtain ⟨t,rfl⟩:=rx
 obtain ⟨t',rfl⟩:=ry
 exact rule i j t t' s _ _ hc ⟨.int (g i j),H,I.tok _,⟨_,rfl⟩,q⟩
theorem opI0 {f:Value→Value→Sem Value}{g:Int→Int→Int}
  (rule:∀ (i j:Int) (t u:Tok) (s:Shared) (Q:Value→Shared→Prop) (E:Value→Shared→Prop),Q (.int (g i j) s.toks) { s with toks:=s.toks+1 }→wpAny (model X.prog X.w) X.A (f (.int i t) (.int j u)) Q E s):
  OpR X f (rI0 fun i j=>.int (g i j)):=by
 intro pins s σ H x y v u Q I rx ry h
 obtain ⟨i,j,rfl,rfl,q⟩:=h
 obtain ⟨t,rfl⟩:=rx
 obtain ⟨t',rfl⟩:=ry
 exact rule i j t t' s _ _ ⟨.int (g i j),H,I.tok _,⟨_,rfl⟩,q⟩
theorem opB0 {f:Value→Value→Sem Value}{g:Int→Int→Bool}
  (rule:∀ (i j:Int) (t u:Tok) (s:Shared) (Q:Value→Shared→Prop) (E:Value→Shared→Prop),Q (.bool (g i j)) s→wpAny (model X.prog X.w) X.A (f (.int i t) (.int j u)) Q E s):
  OpR X f (rI0 fun i j=>.bl (g i j)):=by
 intro pins s σ H x y v u Q I rx ry h
 obtain ⟨i,j,rfl,rfl,q⟩:=h
 obtain ⟨t,rfl⟩:=rx
 obtain ⟨t',rfl⟩:=ry
 exact rule i j t t' s _ _ ⟨.bl (g i j),H,I,rfl,q⟩
def CDiv (i j:Int):Prop:=0 < j∧j < 1073741824
def CPow (i j:Int):Prop:=0≤j∧j≤1000000∧i.natAbs < 2 ^ 64
def CMul (i j:Int):Prop:=(-(2 ^ 64) < i∧i < 2 ^ 64)∨(-(2 ^ 64) < j∧j < 2 ^ 64)
theorem CMul.ok {i j:Int} (h:CMul i j):IntMulOk i j:=by
 rcases h with ⟨h1,h2⟩ | ⟨h1,h2⟩
 · exact .of_left (intBits_le_64 h1 h2)
 · exact .of_right (intBits_le_64 h1 h2)
theorem op_add:OpR X (binaryOp .Add) (rI0 fun i j=>.int (i+j)):=opI0 fun _ _ _ _ _ _ _ q=>add_int q
theorem op_sub:OpR X (binaryOp .Sub) (rI0 fun i j=>.int (i - j)):=opI0 fun _ _ _ _ _ _ _ q=>sub_int q
theorem op_mul:OpR X (binaryOp .Mult) (rI CMul fun i j=>.int (i * j)):=opI fun _ _ _ _ _ _ _ hc q=>mul_int q hc.ok
theorem op_fdiv:OpR X (binaryOp .FloorDiv) (rI CDiv fun i j=>.int (i / j)):=opI fun i j _ _ _ _ _ hc q=>by
 have h1:(0:Int) < j:=hc.1
 have h2:j < 1073741824:=hc.2
 exact floordiv_int (by omega) (by rw [Int.fdiv_eq_ediv_of_nonneg i (by omega)];exact q) (.inl (PyProof.noPylong_small (by omega)))
theorem op_mod:OpR X (binaryOp .Mod) (rI (fun _ j=>0 < j) fun i j=>.int (i % j)):=opI fun i j _ _ _ _ _ hc q=>by
 have h1:(0:Int) < j:=hc
 exact mod_int' (by omega) (by rw [Int.fmod_eq_emod_of_nonneg i (by omega)];exact q)
theorem op_pow:OpR X (binaryOp .Pow) (rI CPow fun i j=>.int (i ^ j.toNat)):=opI fun _ _ _ _ _ _ _ hc q=>pow_int_small hc.1 hc.2.1 hc.2.2 q
theorem unI {f:Value→Sem Value}{g:Int→Int}
  (rule:∀ (i:Int) (t:Tok) (s:Shared) (Q:Value→Shared→Prop) (E:Value→Shared→Prop),Q (.int (g i) s.toks) { s with toks:=s.toks+1 }→wpAny (model X.prog X.w) X.A (f (.int i t)) Q E s):
  UnR X f (rU fun i=>.int (g i)):=by
 intro pins s σ H x v Q I rx h
 obtain ⟨i,rfl,q⟩:=h
 obtain ⟨t,rfl⟩:=rx
 exact rule i t s _ _ ⟨.int (g i),H,I.tok _,⟨_,rfl⟩,q⟩
theorem un_neg:UnR X (unaryOp .USub) (rU fun i=>.int (-i)):=unI fun _ _ _ _ _ q=>neg_int q
end
def scal:V→V→Bool
 | .non,.non=>true | .non,.int _=>true | .int _,.non=>true | .non,.bl _=>true | .bl _,.non=>true | .non,.str _=>true | .str _,.non=>true
 | .int _,.int _=>true | .bl _,.bl _=>true | .str _,.str _=>true | .byt _,.byt _=>true
 | .int _,.str _=>true | .str _,.int _=>true | .bl _,.str _=>true | .str _,.bl _=>true
 | _,_=>false
def rEq:R2:=fun x y H Q=>scal x y=true∧Q (.bl (decide (x=y))) H
def rNe:R2:=fun x y H Q=>scal x y=true∧Q (.bl (!decide (x=y))) H
theorem dec_int {i j:Int}:decide (V.int i=V.int j)=(i == j):=by
 rw [Bool.eq_iff_iff]
 simp
theorem dec_bl {i j:Bool}:decide (V.bl i=V.bl j)=(i == j):=by
 rw [Bool.eq_iff_iff]
 simp
theorem dec_str {i j:Str}:decide (V.str i=V.str j)=(i == j):=by
 rw [Bool.eq_iff_iff]
 simp
theorem dec_byt {i j:Array UInt8}:decide (V.byt i=V.byt j)=(i.toList == j.toList):=by
 rw [Bool.eq_iff_iff]
 cases i
 cases j
 simp
section
variable {X:Cx}{a b c:Expr}{ta tb tc:TE}{pos:Pos}
theorem fin_bl {pins:List (Addr × Obj)}{σ:St}{H:Hp}{s:Shared}{Q:VK}{k k':Bool} (I:Inv X pins σ H s) (q:Q (.bl k) H) (e:k=k'):EP X pins σ Q (.bool k') s:=by
 subst e
 exact ⟨.bl k,H,I,rfl,q⟩
theorem op_eq:OpR X (compareOp .Eq) rEq:=by
 intro pins s σ H x y v u Q I rx ry h
 obtain ⟨hs,q⟩:=h
 cases x with
 | non=>
  cases rx
  cases y with
  | non=>cases ry;exact PySem.EqNone.eq_none_none (fin_bl I q (by simp))
  | bl j=>cases ry;exact PySem.EqNone.eq_none_bool (fin_bl I q (by simp))
  | int j=>obtain ⟨t',rfl⟩:=ry;exact PySem.EqNone.eq_none_int (fin_bl I q (by simp))
  | str j=>obtain ⟨t',rfl⟩:=ry;exact PySem.EqNone.eq_none_str (fin_bl I q (by simp))
  | _=>exact absurd (show false=true from hs) Bool.false_ne_true
 | bl i=>
  cases rx
  cases y with
  | non=>cases ry;exact PySem.EqNone.eq_bool_none (fin_bl I q (by simp))
  | bl j=>cases ry;exact eq_bool (fin_bl I q dec_bl)
  | str j=>obtain ⟨t',rfl⟩:=ry;exact PySem.EqMixed.eq_bool_str (fin_bl I q (by simp))
  | _=>exact absurd (show false=true from hs) Bool.false_ne_true
 | int i=>
  obtain ⟨t,rfl⟩:=rx
  cases y with
  | non=>cases ry;exact PySem.EqNone.eq_int_none (fin_bl I q (by simp))
  | int j=>obtain ⟨t',rfl⟩:=ry;exact eq_int (fin_bl I q dec_int)
  | str j=>obtain ⟨t',rfl⟩:=ry;exact PySem.EqMixed.eq_int_str (fin_bl I q (by simp))
  | _=>exact absurd (show false=true from hs) Bool.false_ne_true
 | str i=>
  obtain ⟨t,rfl⟩:=rx
  cases y with
  | non=>cases ry;exact PySem.EqNone.eq_str_none (fin_bl I q (by simp))
  | bl j=>cases ry;exact PySem.EqMixed.eq_str_bool (fin_bl I q (by simp))
  | int j=>obtain ⟨t',rfl⟩:=ry;exact PySem.EqMixed.eq_str_int (fin_bl I q (by simp))
  | str j=>obtain ⟨t',rfl⟩:=ry;exact eq_str (fin_bl I q dec_str)
  | _=>exact absurd (show false=true from hs) Bool.false_ne_true
 | byt i=>
  obtain ⟨t,rfl⟩:=rx
  cases y with
  | byt j=>obtain ⟨t',rfl⟩:=ry;exact PySem.W.eq_bytes (fin_bl I q dec_byt)
  | _=>exact absurd (show false=true from hs) Bool.false_ne_true
 | _=>cases y <;> exact absurd (show false=true from hs) Bool.false_ne_true
theorem op_ne:OpR X (compareOp .NotEq) rNe:=by
 intro pins s σ H x y v u Q I rx ry h
 obtain ⟨hs,q⟩:=h
 cases x with
 | non=>
  cases rx
  cases y with
  | non=>cases ry;exact PySem.EqNone.ne_none_none (fin_bl I q (by simp))
  | bl j=>cases ry;exact PySem.EqNone.ne_none_bool (fin_bl I q (by simp))
  | int j=>obtain ⟨t',rfl⟩:=ry;exact PySem.EqNone.ne_none_int (fin_bl I q (by simp))
  | str j=>obtain ⟨t',rfl⟩:=ry;exact PySem.EqNone.ne_none_str (fin_bl I q (by simp))
  | _=>exact absurd (show false=true from hs) Bool.false_ne_true
 | bl i=>
  cases rx
  cases y with
  | non=>cases ry;exact PySem.EqNone.ne_bool_none (fin_bl I q (by simp))
  | bl j=>cases ry;exact ne_bool (fin_bl I q (congrArg not dec_bl))
  | str j=>obtain ⟨t',rfl⟩:=ry;exact PySem.EqMixed.ne_bool_str (fin_bl I q (by simp))
  | _=>exact absurd (show false=true from hs) Bool.false_ne_true
 | int i=>
  obtain ⟨t,rfl⟩:=rx
  cases y with
  | non=>cases ry;exact PySem.EqNone.ne_int_none (fin_bl I q (by simp))
  | int j=>obtain ⟨t',rfl⟩:=ry;exact ne_int (fin_bl I q (congrArg not dec_int))
  | str j=>obtain ⟨t',rfl⟩:=ry;exact PySem.EqMixed.ne_int_str (fin_bl I q (by simp))
  | _=>exact absurd (show false=true from hs) Bool.false_ne_true
 | str i=>
  obtain ⟨t,rfl⟩:=rx
  cases y with
  | non=>cases ry;exact PySem.EqNone.ne_str_none (fin_bl I q (by simp))
  | bl j=>cases ry;exact PySem.EqMixed.ne_str_bool (fin_bl I q (by simp))
  | int j=>obtain ⟨t',rfl⟩:=ry;exact PySem.EqMixed.ne_str_int (fin_bl I q (by simp))
  | str j=>obtain ⟨t',rfl⟩:=ry;exact ne_str (fin_bl I q (congrArg not dec_str))
  | _=>exact absurd (show false=true from hs) Bool.false_ne_true
 | byt i=>
  obtain ⟨t,rfl⟩:=rx
  cases y with
  | byt j=>obtain ⟨t',rfl⟩:=ry;exact PySem.W.ne_bytes (fin_bl I q (congrArg not dec_byt))
  | _=>exact absurd (show false=true from hs) Bool.false_ne_true
 | _=>cases y <;> exact absurd (show false=true from hs) Bool.false_ne_true
theorem op_lt:OpR X (compareOp .Lt) (rI0 fun i j=>.bl (decide (i < j))):=opB0 fun _ _ _ _ _ _ _ q=>lt_int q
theorem op_gt:OpR X (compareOp .Gt) (rI0 fun i j=>.bl (decide (j < i))):=opB0 fun _ _ _ _ _ _ _ q=>gt_int q
theorem op_ge:OpR X (compareOp .GtE) (rI0 fun i j=>.bl (decide (j≤i))):=opB0 fun _ _ _ _ _ _ _ q=>ge_int q
theorem op_isN:OpR X (compareOp .Is) (fun x y H Q=>y=.non∧Q (.bl (decide (x=.non))) H):=by
 intro pins s σ H x y v u Q I rx ry h
 obtain ⟨rfl,q⟩:=h
 cases ry
 refine is_none_gen (fin_bl I q ?_)
 cases x <;> first
  | (cases rx;rfl)
  | (obtain ⟨t,rfl⟩:=rx;rfl)
theorem op_notN:OpR X (compareOp .IsNot) (fun x y H Q=>y=.non∧Q (.bl (!decide (x=.non))) H):=by
 intro pins s σ H x y v u Q I rx ry h
 obtain ⟨rfl,q⟩:=h
 cases ry
 refine isnot_none_gen (fin_bl I q ?_)
 cases x <;> first
  | (cases rx;rfl)
  | (obtain ⟨t,rfl⟩:=rx;rfl)
theorem nomark (b:Expr) {op:CmpOp} (h:op≠.In:=by decide) (h2:op≠.NotIn:=by decide):behindInMarks op b=false:=by
 have e1:(op == CmpOp.In)=false:=by cases op <;> first | rfl | exact absurd rfl h
 have e2:(op == CmpOp.NotIn)=false:=by cases op <;> first | rfl | exact absurd rfl h2
 cases b <;> simp [behindInMarks,e1,e2]
theorem pe_cmpR {op:CmpOp}{r:R2} (ho:OpR X (compareOp op) r) (ha:PE X a ta) (hb:PE X b tb) (hm:behindInMarks op b=false):PE X (.Compare a [op] [b] pos) (tOp r ta tb):=by
 intro pins s σ H Q I h
 exact wpAny_Compare1 (binT ha hb I h fun v u s2 x y H2 I2 rx ry q=>ho pins s2 σ H2 x y v u Q I2 rx ry q) hm
def tTest (t:TE):TT:=fun σ H Q=>t σ H fun x H'=>∃ k,x=.bl k∧Q k H'
theorem pt_cmpR {op:CmpOp}{r:R2} (ho:OpR X (compareOp op) r) (ha:PE X a ta) (hb:PE X b tb) (hm:behindInMarks op b=false):PT X (.Compare a [op] [b] pos) (tTest (tOp r ta tb)):=by
 intro pins s σ H Q I h
 refine wpAny_isTrue_Compare1 (thn (ha pins s σ H _ I h) fun v s1 ⟨x,H1,I1,r1,q1⟩=>thn (hb pins s1 σ H1 _ I1 q1) fun u s2 ⟨y,H2,I2,r2,q2⟩=>
  thn (ho pins s2 σ H2 x y v u _ I2 r1 r2 q2) fun c s3 ⟨z,H3,I3,r3,k,e,q3⟩=>?_) hm
 subst e
 cases r3
 exact wpAny_truthy_bool ⟨H3,I3,q3⟩
def TruV (K:PySem.W.Frag) (x:V) (H:Hp) (k:Bool):Prop:=
 match x with
 | .non=>k=false
 | .bl b=>k=b
 | .int i=>k=(i != 0)
 | .str y=>y.length≤sizeLine∧k=((y.length:Int) != 0)
 | .byt y=>y.size≤sizeLine∧k=((y.size:Int) != 0)
 | .ref p=>(∃ xs,SqL K H p xs∧k= !xs.isEmpty)∨(∃ xs,SqT K H p xs∧k= !xs.isEmpty)∨∃ kvs,H p=some (.dK kvs)∧k= !kvs.isEmpty
 | _=>False
theorem isEmpty_kv {κ:Type}{kvs:List (κ × V)}{vs:List (κ × Value)} (r:KV kvs vs):(!vs.isEmpty)= !kvs.isEmpty:=by
 cases r <;> rfl
theorem isEmpty_of {xs:List V}{its:List Value} (r:Vals xs its):(!its.toArray.isEmpty)= !xs.isEmpty:=by
 cases r <;> simp
theorem line63:(sizeLine:Nat) < 2 ^ 63:=by rw [sizeLine_eq];decide
theorem tru_ok:TruR X (fun x H Q=>∃ k,TruV X.K x H k∧Q k H):=by
 intro pins s σ H x v Q I rx h
 obtain ⟨k,e,q⟩:=h
 have hl:=line63
 have hs:sizeLine=16777216:=sizeLine_eq
 cases x with
 | non=>
  cases rx
  have e':k=false:=e
  subst e'
  exact truthy_none ⟨H,I,q⟩
 | bl b=>
  cases rx
  have e':k=b:=e
  subst e'
  exact wpAny_truthy_bool ⟨H,I,q⟩
 | int i=>
  obtain ⟨t,rfl⟩:=rx
  have e':k=(i != 0):=e
  subst e'
  exact PySem.P.truthy_int ⟨H,I,q⟩
 | str y=>
  obtain ⟨t,rfl⟩:=rx
  obtain ⟨hy,e'⟩:y.length≤sizeLine∧k=((y.length:Int) != 0):=e
  subst e'
  exact PySem.P.truthy_str (by omega) ⟨H,I.tok _,q⟩
 | byt y=>
  obtain ⟨t,rfl⟩:=rx
  obtain ⟨hy,e'⟩:y.size≤sizeLine∧k=((y.size:Int) != 0):=e
  subst e'
  exact PySem.W.truthy_bytes (by omega) ⟨H,I.tok _,q⟩
 | ref p=>
  cases rx
  have e':(∃ xs,SqL X.K H p xs∧k= !xs.isEmpty)∨(∃ xs,SqT X.K H p xs∧k= !xs.isEmpty)∨∃ kvs,H p=some (.dK kvs)∧k= !kvs.isEmpty:=e
  rcases e' with ⟨xs,hx,e'⟩ | ⟨xs,hx,e'⟩ | ⟨kvs,hx,e'⟩
  · subst e'
    obtain ⟨its,r,pl,hz⟩:=I.list hx
    have hlen:=r.length
    exact wpAny_truthy_list pl.isList (by simp only [List.size_toArray];omega) ⟨H,I.tok _,by rw [isEmpty_of r];exact q⟩
  · subst e'
    obtain ⟨its,r,pl,hz⟩:=I.tuple hx
    have hlen:=r.length
    exact truthy_tuple pl (by simp only [List.size_toArray];omega) ⟨H,I.tok _,by rw [isEmpty_of r];exact q⟩
  · subst e'
    obtain ⟨hz,hS,vs,r,m⟩:kvs.length≤sizeLine∧(p == sysModules)=false∧∃ vs,KV kvs vs∧s.heap.DictOf (mixKind X.prog X.w) p vs:=I.hok p _ hx
    have hlen:kvs.length=vs.length:=Paired.length r
    exact wpAny_truthy_dict hS m (by omega) ⟨H,I.tok _,by rw [isEmpty_kv r];exact q⟩
 | _=>exact (show False from e).elim
theorem pt_truth (ha:PE X a ta) (he:∀ whole,isTrue a X.env whole=(do let v ← whole;standAt a.pos;holding [v] (truthy v))):
  PT X a (fun σ H Q=>ta σ H fun x H'=>∃ k,TruV X.K x H' k∧Q k H'):=by
 intro pins s σ H Q I h
 exact isTrue_plain (thn (ha pins s σ H _ I h) fun v s1 ⟨x,H1,I1,r1,q1⟩=>tru_ok pins s1 σ H1 x v Q I1 r1 q1) (he _)
theorem vals1 {x:V}{us:List Value} (r:Vals [x] us):∃ u,us=[u]∧RelV x u:=by
 cases r with
 | cons r1 r2=>cases r2;exact ⟨_,rfl,r1⟩
theorem vals2 {x y:V}{us:List Value} (r:Vals [x,y] us):∃ u w',us=[u,w']∧RelV x u∧RelV y w':=by
 cases r with
 | cons r1 r2=>
  cases r2 with
  | cons r3 r4=>cases r4;exact ⟨_,_,rfl,r1,r3⟩
theorem call_abs:CallR X (.builtin "abs") (fun xs H Q=>∃ i,xs=[.int i]∧Q (.int (if i < 0 then -i else i)) H):=by
 intro pins s σ H xs us Q I r h
 obtain ⟨i,rfl,q⟩:=h
 obtain ⟨u,rfl,t,rfl⟩:=vals1 r
 exact call_abs_int fun u tk=>⟨.int (if i < 0 then -i else i),H,I.tok _,⟨_,rfl⟩,q⟩
theorem call_max2 (hc:X.calm=true):CallR X (.builtin "max") (fun xs H Q=>∃ i j,xs=[.int i,.int j]∧Q (.int (if j > i then j else i)) H):=by
 intro pins s σ H xs us Q I r h
 obtain ⟨i,j,rfl,q⟩:=h
 obtain ⟨u,w',rfl,⟨t,rfl⟩,⟨t',rfl⟩⟩:=vals2 r
 refine max_two_ints (I.ok.hd hc) fun h' tk k=>⟨_,H,I.kept k,?_,q⟩
 by_cases hj:j > i
 · rw [if_pos hj,if_pos hj];exact ⟨_,rfl⟩
 · rw [if_neg hj,if_neg hj];exact ⟨_,rfl⟩
theorem call_min2 (hc:X.calm=true):CallR X (.builtin "min") (fun xs H Q=>∃ i j,xs=[.int i,.int j]∧Q (.int (if j < i then j else i)) H):=by
 intro pins s σ H xs us Q I r h
 obtain ⟨i,j,rfl,q⟩:=h
 obtain ⟨u,w',rfl,⟨t,rfl⟩,⟨t',rfl⟩⟩:=vals2 r
 refine min_two_ints (I.ok.hd hc) fun h' tk k=>⟨_,H,I.kept k,?_,q⟩
 by_cases hj:j < i
 · rw [if_pos hj,if_pos hj];exact ⟨_,rfl⟩
 · rw [if_neg hj,if_neg hj];exact ⟨_,rfl⟩
end
structure ObjM (h:Heap) (x dx C:Addr) (mA:Str→Option Value):Prop where
 obj:h.get? x=some (PySem.W.instObj C dx)
 ns:h.Ns1 dx mA
 ne:dx≠x
theorem lookIn_ns {h:Heap}{dx:Addr}{mA:Str→Option Value} (n:h.Ns1 dx mA):∃ od,h.get? dx=some od∧∀ name,PySem.W.lookIn name od=some (mA name):=by
 obtain ⟨o,es,ep,ho,hd,hk,_,hm⟩:=n
 refine ⟨o,ho,fun name=>?_⟩
 have e:=hm name
 unfold nsFind findBy at e
 rw [← Array.find?_toList] at e
 unfold PySem.W.lookIn
 rw [hd]
 dsimp only
 split
 · rename_i y q
   rw [q] at e
   exact congrArg some e
 · rename_i q
   rw [q] at e
   have a:es.toList.any (·.refKey)=false:=by
    rw [List.any_eq_false]
    intro y hy
    obtain ⟨z,t,hkey⟩:=hk y (Array.mem_toList_iff.mp hy)
    simp [DictEntry.refKey,hkey]
   have a':¬ es.toList.any (·.refKey)=true:=by rw [a];exact Bool.false_ne_true
   rw [if_neg a']
   exact congrArg some e
theorem ObjM.look {h:Heap}{x dx C:Addr}{mA:Str→Option Value} (I:ObjM h x dx C mA):∃ od,PySem.W.InstAt h x (PySem.W.instObj C dx) C (some od)∧∀ name,PySem.W.lookIn name od=some (mA name):=
 let ⟨od,ho,hl⟩:=lookIn_ns I.ns
 ⟨od,⟨I.obj,rfl,rfl,ho⟩,hl⟩
section
variable {prog:Program}{w:World}{A:Around}{E:Value→Shared→Prop}{s:Shared}{K:PySem.W.Frag}{x dx C f:Addr}{mA:Str→Option Value}{name:Str}{v:Value}
theorem get_map {expr:Bool}{Q:Value→Shared→Prop} (X:K.In s.heap) (I:ObjM s.heap x dx C mA) (hg:PySem.W.plainGet K C name=true) (hh:PySem.W.hasDictIn K C=true)
  (ha:PySem.W.findIn K (.ref C) name=some none) (hv:mA name=some v) (hv':PySem.W.handedIn v=true) (h:Q v { s with toks:=s.toks+1 }):
  wpAny (model prog w) A (getAttr (.ref x) name expr) Q E s:=by
 obtain ⟨od,J,hl⟩:=I.look
 exact PySem.W.get_value X J (PySem.W.plainGet_of hg).1 (PySem.W.findObj_own hh ha rfl (by rw [hl,hv])) hv' h
theorem get_meth {pl:Sem Bool}{Q:Value × List Value→Shared→Prop} (X:K.In s.heap) (I:ObjM s.heap x dx C mA) (hg:PySem.W.plainGet K C name=true)
  (hf:PySem.W.findIn K (.ref C) name=some (some (.ref f))) (ht:PySem.W.isFn K (.ref f)=true) (hv:mA name=none) (h:Q (.ref f,[.ref x]) s):
  wpAny (model prog w) A (getMethod (.ref x) name pl) Q E s:=by
 obtain ⟨od,J,hl⟩:=I.look
 exact PySem.W.method_fn X J (PySem.W.plainGet_of hg).1 (PySem.W.plainGet_of hg).2 hf (beq_iff_eq.mp ht) (by show (PySem.W.lookIn name od).map (·.isSome)=some false;rw [hl,hv];rfl) h
theorem set_map {ns:List Str}{Q:Unit→Shared→Prop} (X:K.In s.heap) (I:ObjM s.heap x dx C mA)
  (hs:PySem.W.findIn K (.ref C) "__setattr__"=some (some (.builtin "object.__setattr__"))) (hp:PySem.W.plainOver K C=true) (ht:PySem.W.takerIn K C name=some none) (hh:PySem.W.hasDictIn K C=true)
  (hw:PySem.Within mA ns) (hsz:ns.length≤sizeLine)
  (h:∀ h',ObjM h' x dx C (fun y=>if y=name then some v else mA y)→Heap.SameBut dx s.heap h'→Q () { s with heap:=h',toks:=s.toks+2 }):
  wpAny (model prog w) A (setAttr (.ref x) name v) Q E s:=by
 obtain ⟨od,J,hl⟩:=I.look
 refine PySem.W.set_plain X J hs (PySem.W.osa_open (s:={ s with toks:=s.toks+1 }) (r:=none) X J hp ht fun b=>?_)
 obtain ⟨cd,hc,hd'⟩:=PySem.W.any_some hh
 have hx:s.heap.get? x=some ⟨.ref C,some dx,.plain, #[]⟩:=I.obj
 refine wpAny_bind (wpAny_pure (wpAny_bind (wpAny_bind (wpAny_loadPart hx (wpAny_bind (PySem.W.Looks.here (s:={ s with toks:=s.toks+1 }) (PySem.W.looks_clsIn X hc) ?_))))))
 rw [hd']
 refine wpAny_pure (a:=some dx) (wpAny_bind (wpAny_pure (wpAny_bind ?_)))
 refine wpAny_nsSet1 (s:={ s with toks:=s.toks+1 }) I.ns fun h' hn2 hs2=>?_
 obtain ⟨oD,esD,epD,hoD,hdD,hcD⟩:=hn2.count (PySem.Within.cons name v hw)
 refine wpAny_bind (wpAny_lookBehind hoD (by rw [hdD];exact pastItsLine_dict (Nat.le_trans hcD (by rw [List.length_cons];omega))) ?_)
 exact wpAny_pure (h _ ⟨(hs2.2 _ (Ne.symm I.ne)).trans I.obj,hn2,I.ne⟩ hs2)
theorem make_map {R:Result→Shared→Prop}{vs:List Value}{kw:List (Str × Value)} (X:K.In s.heap) (hm:PySem.W.makesIn K C=true)
  (hi:PySem.W.findIn K (.ref C) "__init__"=some (some (.ref f))) (hf:PySem.W.typeIn K (.ref f)=some (.type "function"))
  (h:codeAny (model prog w) (A.under (.builtin "type.__call__" ⟨.ref C::vs,kw⟩)) (.call (.ref f) ⟨.ref (s.heap.objs.size+1)::vs,kw⟩) (PySem.W.InitBack (s.heap.objs.size+1) R)
   { s with heap:=(s.heap.push PySem.W.emptyDict).push (PySem.W.instObj C s.heap.objs.size) }):
  codeAny (model prog w) A (.call (.ref C) ⟨vs,kw⟩) R s:=by
 obtain ⟨hh,g,d,t,os⟩:=s
 exact PySem.W.make_core (PySem.W.makes_of X hm) (PySem.W.looks_findIn X hi) (fun self=>PySem.W.bind_fn X self hf) (.inl rfl) h
end
def putF (f:Str) (v:V):List (Str × V)→List (Str × V)
 | []=>[(f,v)]
 | (g,x)::r=>if g=f then (g,v)::r else (g,x)::putF f v r
theorem lookup_putF (f g:Str) (v:V):∀ fs:List (Str × V),(putF f v fs).lookup g=if g=f then some v else fs.lookup g
 | []=>by
  show List.lookup g [(f,v)]=_
  by_cases h:g=f
  · have hb:(g == f)=true:=beq_iff_eq.mpr h
    simp only [List.lookup,hb,if_pos h]
  · have hb:(g == f)=false:=beq_eq_false_iff_ne.mpr h
    simp only [List.lookup,hb,if_neg h]
 | (k,x)::r=>by
  have ih:=lookup_putF f g v r
  rw [show putF f v ((k,x)::r)=(if k=f then (k,v)::r else (k,x)::putF f v r) from rfl]
  by_cases hk:k=f
  · rw [if_pos hk]
    by_cases h:g=k
    · have hb:(g == k)=true:=beq_iff_eq.mpr h
      simp only [List.lookup,hb,if_pos (h.trans hk)]
    · have hb:(g == k)=false:=beq_eq_false_iff_ne.mpr h
      simp only [List.lookup,hb,if_neg (fun e:g=f=>h (e.trans hk.symm))]
  · rw [if_neg hk]
    by_cases h:g=k
    · have hb:(g == k)=true:=beq_iff_eq.mpr h
      simp only [List.lookup,hb,if_neg (fun e:g=f=>hk (h.symm.trans e))]
    · have hb:(g == k)=false:=beq_eq_false_iff_ne.mpr h
      simp only [List.lookup,hb]
      exact ih
theorem keys_putF (f:Str) (v:V):∀ fs:List (Str × V),f∈(putF f v fs).map (·.1)∧∀ g,g∈fs.map (·.1)→g∈(putF f v fs).map (·.1)
 | []=>⟨by simp [putF],fun g h=>by simp at h⟩
 | (k,x)::r=>by
  obtain ⟨i1,i2⟩:=keys_putF f v r
  rw [show putF f v ((k,x)::r)=(if k=f then (k,v)::r else (k,x)::putF f v r) from rfl]
  by_cases hk:k=f
  · rw [if_pos hk]
    subst hk
    exact ⟨by simp,fun g h=>by simpa using h⟩
  · rw [if_neg hk]
    refine ⟨?_,fun g h=>?_⟩
    · rw [List.map_cons]
      exact List.mem_cons_of_mem _ i1
    · rw [List.map_cons] at h ⊢
      rcases List.mem_cons.mp h with e | e
      · exact List.mem_cons.mpr (.inl e)
      · exact List.mem_cons_of_mem _ (i2 g e)
theorem length_putF (f:Str) (v:V):∀ fs:List (Str × V),(putF f v fs).length≤fs.length+1
 | []=>by simp [putF]
 | (k,x)::r=>by
  have ih:=length_putF f v r
  rw [show putF f v ((k,x)::r)=(if k=f then (k,v)::r else (k,x)::putF f v r) from rfl]
  by_cases hk:k=f
  · rw [if_pos hk,List.length_cons,List.length_cons];omega
  · rw [if_neg hk,List.length_cons,List.length_cons];omega
theorem RelO.some_of {v:V}{o:Option Value} (r:RelO (some v) o):∃ u,o=some u∧RelV v u:=by
 cases o with
 | none=>exact (show False from r).elim
 | some u=>exact ⟨u,rfl,r⟩
theorem RelO.none_of {o:Option Value} (r:RelO none o):o=none:=by
 cases o with
 | none=>rfl
 | some u=>exact (show False from r).elim
theorem handed_of {v:V}{u:Value} (r:RelV v u):PySem.W.handedIn u=true:=by
 cases v with
 | non=>cases (show u=Value.none from r);rfl
 | bl b=>cases (show u=Value.bool b from r);rfl
 | int i=>obtain ⟨t,e⟩:=(show ∃ t,u=Value.int i t from r);cases e;rfl
 | str x=>obtain ⟨t,e⟩:=(show ∃ t,u=Value.str x t from r);cases e;rfl
 | byt b=>obtain ⟨t,e⟩:=(show ∃ t,u=Value.bytes b t from r);cases e;rfl
 | flt b=>obtain ⟨t,e⟩:=(show ∃ t,u=Value.float b t from r);cases e;rfl
 | ref a=>cases (show u=Value.ref a from r);rfl
 | ty n=>cases (show u=Value.type n from r);rfl
section
variable {P:Program}{w:World}{H H':Hp}{h h':Heap}{a C dx:Addr}{fs fs':List (Str × V)}
theorem ins_get (hok:HOk P w H h) (e:H a=some (.ins C dx fs)):∃ mA,ObjM h a dx C mA∧(∀ f,RelO (fs.lookup f) (mA f))∧PySem.Within mA (fs.map (·.1))∧fs.length≤1000∧H dx=some (.own a):=by
 obtain ⟨d,z,ne,ob,mA,n,r,q⟩:=(show ObjOk P w H h a (.ins C dx fs) from hok a _ e)
 exact ⟨mA,⟨ob,n,ne⟩,r,q,z,d⟩
end
structure Cls (K:PySem.W.Frag) (C:Addr):Prop where
 pg:PySem.W.plainGet K C Str.empty=true
 hd:PySem.W.hasDictIn K C=true
 po:PySem.W.plainOver K C=true
 sa:PySem.W.findIn K (.ref C) "__setattr__"=some (some (.builtin "object.__setattr__"))
theorem Cls.get {K:PySem.W.Frag}{C:Addr} (c:Cls K C) (f:Str):PySem.W.plainGet K C f=true:=c.pg
def NoAttr (K:PySem.W.Frag) (C:Addr) (f:Str):Prop:=PySem.W.findIn K (.ref C) f=some none
theorem NoAttr.taker {K:PySem.W.Frag}{C:Addr}{f:Str} (n:NoAttr K C f):PySem.W.takerIn K C f=some none:=by
 unfold PySem.W.takerIn
 rw [show PySem.W.findIn K (.ref C) f=some none from n]
 rfl
structure Meth (K:PySem.W.Frag) (C:Addr) (m:Str) (f:Addr):Prop where
 at_:PySem.W.findIn K (.ref C) m=some (some (.ref f))
 fn:PySem.W.isFn K (.ref f)=true
 kp:PySem.W.keepIn K (.ref f)=true
section
variable {X:Cx}{pins:List (Addr × Obj)}{σ:St}{H:Hp}{s:Shared}{a C dx:Addr}{fs:List (Str × V)}{f:Str}{v:V}{A:Around}{E:Value→Shared→Prop}
theorem getattr_ok {b:Bool}{Q:Value→Shared→Prop} (I:Inv X pins σ H s) (e:H a=some (.ins C dx fs)) (c:Cls X.K C) (n:NoAttr X.K C f) (l:fs.lookup f=some v)
  (h:∀ u s',Inv X pins σ H s'→RelV v u→Q u s'):wpAny (model X.prog X.w) A (getAttr (.ref a) f b) Q E s:=by
 obtain ⟨mA,O,r,_,_,_⟩:=ins_get I.hok e
 obtain ⟨u,hu,ru⟩:=RelO.some_of (v:=v) (o:=mA f) (by rw [← l];exact r f)
 exact get_map I.kIn O (c.get f) c.hd n hu (handed_of ru) (h u _ (I.tok _) ru)
theorem getmeth_ok {m:Str}{g:Addr}{pl:Sem Bool}{Q:Value × List Value→Shared→Prop} (I:Inv X pins σ H s) (e:H a=some (.ins C dx fs)) (c:Cls X.K C) (k:Meth X.K C m g) (l:fs.lookup m=none)
  (h:Q (.ref g,[.ref a]) s):wpAny (model X.prog X.w) A (getMethod (.ref a) m pl) Q E s:=by
 obtain ⟨mA,O,r,_,_,_⟩:=ins_get I.hok e
 have hn:mA m=none:=RelO.none_of (by rw [← l];exact r m)
 exact get_meth I.kIn O (c.get m) k.at_ k.fn hn h
theorem setattr_ok {y:V}{u:Value}{Q:Unit→Shared→Prop} (I:Inv X pins σ H s) (e:H a=some (.ins C dx fs)) (c:Cls X.K C) (n:NoAttr X.K C f) (hl:fs.length < 1000) (ry:RelV y u)
  (h:∀ s',Inv X pins σ (upd H a (.ins C dx (putF f y fs))) s'→Q () s'):wpAny (model X.prog X.w) A (setAttr (.ref a) f u) Q E s:=by
 obtain ⟨mA,O,r,wi,_,ho⟩:=ins_get I.hok e
 have hz:(fs.map (·.1)).length≤sizeLine:=by rw [List.length_map,sizeLine_eq];omega
 refine set_map I.kIn O c.sa c.po n.taker c.hd wi hz fun h' O' sb=>h _ ?_
 have hd:∃ o,h'.get? dx=some o:=let ⟨o,_,_,e',_⟩:=O'.ns;⟨o,e'⟩
 refine I.write (x:=a) (e:=dx) (by rw [e];exact True.intro) (.inr ho) (fun b q hb z=>(sb.2 b hb).trans z) hd ?_
 refine ⟨by rw [upd_ne O.ne];exact ho,?_,O.ne,O'.obj,_,O'.ns,fun g=>?_,fun g hg=>?_⟩
 · have:=length_putF f y fs;omega
 · show RelO ((putF f y fs).lookup g) (if g=f then some u else mA g)
   rw [lookup_putF]
   by_cases q:g=f
   · rw [if_pos q,if_pos q];exact ry
   · rw [if_neg q,if_neg q];exact r g
 · by_cases q:g=f
   · rw [q];exact (keys_putF f y fs).1
   · refine (keys_putF f y fs).2 g (wi g fun z=>hg ?_)
     show (if g=f then some u else mA g)=none
     rw [if_neg q];exact z
theorem Inv.made (I:Inv X pins σ H s):Inv X pins σ (upd (upd H s.heap.objs.size (.own (s.heap.objs.size+1))) (s.heap.objs.size+1) (.ins C s.heap.objs.size []))
  { s with heap:=(s.heap.push PySem.W.emptyDict).push (PySem.W.instObj C s.heap.objs.size) }:=by
 have e1:(s.heap.push PySem.W.emptyDict).get? s.heap.objs.size=some PySem.W.emptyDict:=Heap.get?_push_size s.heap rfl
 have e2:((s.heap.push PySem.W.emptyDict).push (PySem.W.instObj C s.heap.objs.size)).get? (s.heap.objs.size+1)=some (PySem.W.instObj C s.heap.objs.size):=by
  have:=Heap.get?_push_size (s.heap.push PySem.W.emptyDict) (o:=PySem.W.instObj C s.heap.objs.size) rfl
  rwa [Heap.size_push] at this
 have e3:(s.heap.push PySem.W.emptyDict).Ns s.heap.objs.size (fun _=>none):=⟨PySem.W.emptyDict, #[],_,e1,rfl,(fun e he=>absurd he (by simp)),fun _=>rfl⟩
 have I1:=I.laid (a:=s.heap.objs.size) (o:=.own (s.heap.objs.size+1)) (h':=s.heap.push PySem.W.emptyDict) (t':=s.toks) (fun b u q=>Heap.get?_push_of_some _ q) (Nat.le_refl _) ⟨_,e1⟩
 refine I1.laid (a:=s.heap.objs.size+1) (o:=.ins C s.heap.objs.size []) (t':=s.toks) (fun b u q=>Heap.get?_push_of_some _ q) (Nat.le_of_eq (Heap.size_push _ _)) ?_
 have ne:s.heap.objs.size≠s.heap.objs.size+1:=Nat.ne_of_lt (Nat.lt_succ_self _)
 refine ⟨by rw [upd_ne ne,upd_same],Nat.zero_le _,ne,e2,fun _=>none,(Heap.Ns1.of_empty e3).at fun o q=>Heap.get?_push_of_some _ q,fun _=>True.intro,fun y hy=>absurd rfl hy⟩
theorem attr_of {prog:Program}{w:World}{env:Env}{e:Expr}{f:Str}{pos:Pos}{s:Shared}{Q:Value→Shared→Prop} (hb:attributeBase e f env (eval e env)=eval e env)
  (h:wpAny (model prog w) A (eval e env) (fun o s₁=>wpAny (model prog w) A (getAttr o f true) Q E s₁) E s):wpAny (model prog w) A (eval (.Attribute e f pos) env) Q E s:=
 Attribute_any_ h (by rw [arm_eval_Attribute,hb])
end
def tFld (K:PySem.W.Frag) (ta:TE) (f:Str):TE:=fun σ H Q=>ta σ H fun x H1=>∃ a C dx fs v,x=.ref a∧H1 a=some (.ins C dx fs)∧Cls K C∧NoAttr K C f∧fs.lookup f=some v∧Q v H1
def sFld (K:PySem.W.Frag) (ta tv:TE) (f:Str):TS:=fun D σ H=>tv σ H fun y H1=>ta σ H1 fun x H2=>∃ a C dx fs,x=.ref a∧H2 a=some (.ins C dx fs)∧Cls K C∧NoAttr K C f∧fs.length < 1000∧
 D.nx σ (upd H2 a (.ins C dx (putF f y fs)))
def InOp (X:Cx) (op:Operator) (rd:V→V→Hp→VK→Prop):Prop:=
 ∀ (pins:List (Addr × Obj)) (s:Shared) (σ:St) (H:Hp) (x y:V) (u v:Value) (Q:VK),Inv X pins σ H s→RelV x u→RelV y v→rd x y H Q→wpAny (model X.prog X.w) X.A (inplaceOp op u v) (EP X pins σ Q) X.xe s
def sFldAug (K:PySem.W.Frag) (ta tv:TE) (rd:V→V→Hp→VK→Prop) (f:Str):TS:=fun D σ H=>ta σ H fun x H1=>∃ a C dx fs v,x=.ref a∧H1 a=some (.ins C dx fs)∧Cls K C∧NoAttr K C f∧fs.lookup f=some v∧
 tv σ H1 fun y H2=>rd v y H2 fun z H3=>∃ dx' fs',H3 a=some (.ins C dx' fs')∧fs'.length < 1000∧D.nx σ (upd H3 a (.ins C dx' (putF f z fs')))
section
variable {X:Cx}{o e value:Expr}{f:Str}{pos pos' tpos:Pos}{ta tv:TE}
theorem pe_fld (he:PE X e ta) (hb:attributeBase e f X.env (eval e X.env)=eval e X.env):PE X (.Attribute e f pos) (tFld X.K ta f):=by
 intro pins s σ H Q I h
 refine attr_of hb (thn (he pins s σ H _ I h) fun u s1 ⟨x,H1,I1,rx,a,C,dx,fs,v,ex,ea,c,n,l,q⟩=>?_)
 subst ex
 obtain rfl:u=Value.ref a:=rx
 exact getattr_ok I1 ea c n l fun u' s2 I2 ru=>⟨v,H1,I2,ru,q⟩
theorem ps_fld (ha:PE X o ta) (hv:PE X value tv) (hs:swapsWith value (some (.Attribute o f pos')) pos.line X.env=pure false):PS X (.Assign [.Attribute o f pos'] value pos) (sFld X.K ta tv f):=by
 intro pins s σ H D I h
 refine plainObj_wpAny_Assign_Attribute (thn (hv pins s σ H _ I h) fun u s1 ⟨y,H1,I1,ry,q⟩=>thn (ha pins s1 σ H1 _ I1 q) fun ov s2 ⟨x,H2,I2,rx,a,C,dx,fs,ex,ea,c,n,l,q2⟩=>?_) hs
 subst ex
 obtain rfl:ov=Value.ref a:=rx
 exact setattr_ok I2 ea c n l ry fun s3 I3=>⟨σ,_,I3,q2⟩
theorem ps_fldaug {op:Operator}{rd:V→V→Hp→VK→Prop} (ha:PE X o ta) (hv:PE X value tv) (hop:InOp X op rd):PS X (.AugAssign (.Attribute o f tpos) op value pos) (sFldAug X.K ta tv rd f):=by
 intro pins s σ H D I h
 refine wpAny_AugAssign_AttributeAny (thn (ha pins s σ H _ I h) fun ov s1 ⟨x,H1,I1,rx,a,C,dx,fs,v,ex,ea,c,n,l,q⟩=>?_)
 subst ex
 obtain rfl:ov=Value.ref a:=rx
 refine getattr_ok I1 ea c n l fun u s2 I2 ru=>thn (hv pins s2 σ H1 _ I2 q) fun w3 s3 ⟨y,H2,I3,ry,q3⟩=>thn (hop pins s3 σ H2 v y u w3 _ I3 ru ry q3) fun w4 s4 ⟨z,H3,I4,rz,dx',fs',ea',l',q4⟩=>?_
 exact setattr_ok I4 ea' c n l' rz fun s5 I5=>⟨σ,_,I5,q4⟩
def rAdd:V→V→Hp→VK→Prop:=fun x y H Q=>∃ i j,x=.int i∧y=.int j∧Q (.int (i+j)) H
theorem in_add:InOp X .Add rAdd:=by
 rintro pins s σ H x y u v Q I rx ry ⟨i,j,rfl,rfl,q⟩
 obtain ⟨t,rfl⟩:=(show ∃ t,u=Value.int i t from rx)
 obtain ⟨t',rfl⟩:=(show ∃ t',v=Value.int j t' from ry)
 exact PyProof.Rows.iadd_int ⟨.int (i+j),H,I.tok _,⟨_,rfl⟩,q⟩
end
section
variable {X:Cx}{pins:List (Addr × Obj)}{σ:St}{H:Hp}{s:Shared}{A:Around}{E:Value→Shared→Prop}{Q:Value→Shared→Prop}{c:Value}{b:Bool}
end
structure Room (k:Nat) (A:Around):Prop where
 hd:A.handled=none
 dp:A.depth+3 * k+5 < recursionLimit
 un:A.units+16 * k+200 < cLine
theorem Room.mono {j k:Nat}{A:Around} (r:Room k A) (h:j≤k):Room j A:=⟨r.hd,by have:=r.dp;omega,by have:=r.un;omega⟩
theorem Room.deeper {k:Nat}{A:Around} (r:Room (k+1) A) (env:Env):Room k (A.deeper env):=
 ⟨r.hd,by have:=r.dp;show A.depth+1+3 * k+5 < _;omega,by have:=r.un;show A.units+3+16 * k+200 < _;omega⟩
theorem make_depth {A:Around}{C:Addr}{us:List Value}{kw:List (Str × Value)}:(A.under (.builtin "type.__call__" ⟨.ref C::us,kw⟩)).depth=A.depth+1:=by
 first | rfl | simp [Around.under,Code.weight,Code.isCreation,Code.isGuard,Code.isCaller,Code.frames,Code.isFrame,guardIds]
theorem make_units {A:Around}{C:Addr}{us:List Value}{kw:List (Str × Value)}:(A.under (.builtin "type.__call__" ⟨.ref C::us,kw⟩)).units=A.units+1:=by
 first | rfl | simp [Around.under,Code.cUnits,Code.frames,Code.isFrame]
theorem Room.make {k:Nat}{A:Around} (r:Room (k+1) A) (C:Addr) (us:List Value) (kw:List (Str × Value)):Room k (A.under (.builtin "type.__call__" ⟨.ref C::us,kw⟩)):=
 ⟨r.hd,by have:=r.dp;rw [make_depth];omega,by have:=r.un;rw [make_units];omega⟩
theorem Room.depth {k:Nat}{A:Around} (r:Room k A):A.depth < recursionLimit:=by have:=r.dp;omega
theorem Room.units {k:Nat}{A:Around} (r:Room k A):A.units+64 < cLine:=by have:=r.un;omega
def tNil:TA:=fun _ H Q=>Q [] H
def tCons (ta:TE) (tr:TA):TA:=fun σ H Q=>ta σ H fun x H1=>tr σ H1 fun xs H2=>Q (x::xs) H2
section
variable {X:Cx}{e:Expr}{es:List Expr}{te:TE}{t:TA}{pos:Pos}
theorem pa_nil:PA X [] tNil:=fun _ _ _ _ H Q I h=>Calls.spliced_nil ⟨[],H,I,.nil,h⟩
theorem pa_cons (ha:PE X e te) (hr:PA X es t) (hs:starEach (e::es) X.env=(false,eval e X.env)::starEach es X.env:=by rfl):PA X (e::es) (tCons te t):=by
 intro pos pins s σ H Q I h
 rw [hs]
 show wpAny _ _ (spliced ((false,eval e X.env)::backTo pos (starEach es X.env))) _ _ s
 refine Calls.spliced_cons (thn (ha pins s σ H _ I h) fun u s1 ⟨x,H1,I1,r1,q1⟩=>?_)
 exact thn (hr pos pins s1 σ H1 _ I1 q1) fun us s2 ⟨xs,H2,I2,r2,q2⟩=>⟨x::xs,H2,I2,.cons r1 r2,q2⟩
def tTup (t:TA):TE:=fun σ H Q=>t σ H fun xs H1=>xs.length≤sizeLine∧∀ p,H1 p=none→Q (.ref p) (upd H1 p (.tup xs))
def tLst (t:TA):TE:=fun σ H Q=>t σ H fun xs H1=>xs.length≤sizeLine∧∀ p,H1 p=none→Q (.ref p) (upd H1 p (.lst xs))
theorem pe_tup {x1} (h:PA X es t):PE X (.Tuple es x1 pos) (tTup t):=by
 intro pins s σ H Q I hq
 refine wpAny_Tuple_spliced (thn (h pos pins s σ H _ I hq) fun us s1 ⟨xs,H1,I1,r,z,q⟩=>⟨by rw [← r.length];exact z,?_⟩)
 have hf:H1 s1.heap.objs.size=none:=I1.hok.fresh (Nat.le_refl _)
 refine ⟨.ref s1.heap.objs.size,upd H1 s1.heap.objs.size (.tup xs),I1.laid (t':=s1.toks) (fun b u e=>Heap.get?_push_of_some _ e) (Nat.le_refl _) ?_,rfl,q _ hf⟩
 exact ⟨z,us,r,⟨_,Heap.get?_push_size _ rfl,rfl,_,rfl⟩⟩
theorem pe_lst (h:PA X es t):PE X (.List es pos) (tLst t):=by
 intro pins s σ H Q I hq
 refine wpAny_List_spliced (thn (h pos pins s σ H _ I hq) fun us s1 ⟨xs,H1,I1,r,z,q⟩=>⟨by rw [← r.length];exact z,?_⟩)
 have hf:H1 s1.heap.objs.size=none:=I1.hok.fresh (Nat.le_refl _)
 refine ⟨.ref s1.heap.objs.size,upd H1 s1.heap.objs.size (.lst xs),I1.laid (t':=s1.toks) (fun b u e=>Heap.get?_push_of_some _ e) (Nat.le_refl _) ?_,rfl,q _ hf⟩
 exact ⟨z,us,0,r,Heap.get?_push_size _ rfl⟩
end
abbrev Sp:=List V→Hp→VK→XK→Prop
abbrev CXT:=List Env→Hp→Shared→XK→Value→Shared→Prop
structure Env0 (P:Program) (w:World) (K:PySem.W.Frag) (mg:Str→Option Value) (base:Heap) (A:Around) (outer:List Env) (s:Shared) (H:Hp):Prop where
 frames:A.frames=some outer
 mod:Mod K mg base
 bs:∀ b o,base.get? b=some o→s.heap.get? b=some o∧H b=none
 bsz:base.objs.size≤s.heap.objs.size
 funs:s.heap.FunFrames base outer
 frf:∀ b∈frs outer,H b=none
 hok:HOk P w H s.heap
 bare:AllBare s.gens
def CE (outer:List Env) (P:Program) (w:World) (H:Hp) (s:Shared) (Q:VK) (u:Value) (s':Shared):Prop:=
 ∃ v H',s'.os=s.os∧AllBare s'.gens∧Un (frs outer) [] H H' s.heap s'.heap∧HOk P w H' s'.heap∧RelV v u∧Q v H'
def CR (CX:CXT) (outer:List Env) (P:Program) (w:World) (H:Hp) (s:Shared) (Q:VK) (E:XK) (r:Result) (s':Shared):Prop:=
 match r with
 | .ok (.ret u)=>CE outer P w H s Q u s'
 | .ok _=>False
 | .error e=>CX outer H s E e s'
structure FnOk (P:Program) (w:World) (K:PySem.W.Frag) (mg:Str→Option Value) (base:Heap) (CX:CXT) (k:Nat) (f:Addr) (fd:FuncData) (ps:List Str) (sp:Sp):Prop where
 len:∀ vs H Q E,sp vs H Q E→vs.length=ps.length
 run:∀ (A:Around) (outer:List Env) (s:Shared) (H:Hp) (args:Args) (us:List Value) (vs:List V) (Q:VK) (E:XK),Room k A→Env0 P w K mg base A outer s H→BindsTo s fd args (ps.zip us)→Vals vs us→sp vs H Q E→
  codeAny (model P w) A (.call (.ref f) args) (CR CX outer P w H s Q E) s
theorem FnOk.imp {P:Program}{w:World}{K:PySem.W.Frag}{mg:Str→Option Value}{base:Heap}{CX:CXT}{k:Nat}{f:Addr}{fd:FuncData}{ps:List Str}{sp sp':Sp} (F:FnOk P w K mg base CX k f fd ps sp)
  (h:∀ vs H Q E,sp' vs H Q E→sp vs H Q E):FnOk P w K mg base CX k f fd ps sp':=
 ⟨fun vs H Q E q=>F.len vs H Q E (h _ _ _ _ q),fun A outer s H args us vs Q E hr he hb hv hs=>F.run A outer s H args us vs Q E hr he hb hv (h _ _ _ _ hs)⟩
theorem Env0.make {P:Program}{w:World}{K:PySem.W.Frag}{mg:Str→Option Value}{base:Heap}{A:Around}{outer:List Env}{s:Shared}{H:Hp} (e:Env0 P w K mg base A outer s H) (C:Addr) (us:List Value) (kw:List (Str × Value)):
  Env0 P w K mg base (A.under (.builtin "type.__call__" ⟨.ref C::us,kw⟩)) outer s H:=⟨by first | exact e.frames | (simpa [Around.under,Code.envs,Code.isFrame,pushEnvs] using e.frames),e.mod,e.bs,e.bsz,e.funs,e.frf,e.hok,e.bare⟩
section
variable {X:Cx}{pins:List (Addr × Obj)}{σ:St}{H:Hp}{s s':Shared}
theorem Inv.env0 (I:Inv X pins σ H s):Env0 X.prog X.w X.K X.mg X.base X.A X.stack s H:=
 ⟨I.ok.frames,I.ok.mod,I.bs,Nat.le_trans I.ok.bsz I.sz,I.stack,I.stkFree,I.hok,I.bare⟩
theorem Inv.after {Q:VK}{u:Value} (I:Inv X pins σ H s) (h:CE X.stack X.prog X.w H s Q u s'):EP X pins σ Q u s':=by
 obtain ⟨v,H',os,bare,un,hok,r,q⟩:=h
 obtain ⟨hh,g,d,t,os'⟩:=s'
 obtain rfl:os'=s.os:=os
 exact ⟨v,H',I.call (h':=hh) (g':=g) (d':=d) (t':=t) (ch:=[]) un hok bare (fun b z=>absurd z (by simp)),r,q⟩
end
def tCall (sp:Sp) (dvs:List V) (E:XK) (t:TA):TE:=fun σ H Q=>t σ H fun vs H1=>sp (vs++dvs) H1 Q E
def tMeth (C:Addr) (m:Str) (sp:Sp) (dvs:List V) (E:XK) (ta:TE) (t:TA):TE:=fun σ H Q=>ta σ H fun x H1=>∃ a dx fs,x=.ref a∧H1 a=some (.ins C dx fs)∧fs.lookup m=none∧
 t σ H1 fun vs H2=>sp (x::(vs++dvs)) H2 Q E
def tMake (C:Addr) (sp:Sp) (dvs:List V) (E:XK) (t:TA):TE:=fun σ H Q=>t σ H fun vs H1=>∀ x dx,H1 x=none→H1 dx=none→dx≠x→
 sp (.ref x::(vs++dvs)) (upd (upd H1 dx (.own x)) x (.ins C dx [])) (fun v H2=>v=.non∧Q (.ref x) H2) E
def Binds (K:PySem.W.Frag) (fd:FuncData) (ps:List Str) (ds:List Value):Prop:=
 ∀ (s:Shared) (us:List Value),K.In s.heap→(us++ds).length=ps.length→BindsTo s fd ⟨us,[]⟩ (ps.zip (us++ds))
theorem Binds.all {K:PySem.W.Frag}{fd:FuncData}{ps:List Str} (h:∀ us:List Value,us.length=ps.length→bindArgs fd ⟨us,[]⟩=pure (ps.zip us)):Binds K fd ps []:=fun s us _ hl=>by
 rw [List.append_nil] at hl ⊢
 exact .of_eq (h us hl)
def Passes (CX:CXT) (X:Cx) (E:XK):Prop:=∀ (pins:List (Addr × Obj)) (σ:St) (H:Hp) (s:Shared) (e:Value) (s':Shared),Inv X pins σ H s→CX X.stack H s E e s'→X.xe e s'
section
variable {X:Cx}{CX:CXT}{k:Nat}{f C:Addr}{fd:FuncData}{ps:List Str}{sp:Sp}{dvs:List V}{ds:List Value}{E:XK}{x m:Str}{p pos apos:Pos}{e o:Expr}{es:List Expr}{ta:TE}{t:TA}
theorem run_fn {pins:List (Addr × Obj)}{σ:St}{H:Hp}{s:Shared}{Q:VK}{us:List Value}{vs:List V} (F:FnOk X.prog X.w X.K X.mg X.base CX k f fd ps sp) (hr:Room k X.A) (hb:Binds X.K fd ps ds) (hd:Vals dvs ds) (hx:Passes CX X E)
  (I:Inv X pins σ H s) (r:Vals vs us) (h:sp (vs++dvs) H Q E):wpAny (model X.prog X.w) X.A (call (.ref f) us) (EP X pins σ Q) X.xe s:=by
 have r2:Vals (vs++dvs) (us++ds):=r.append hd
 have hl:(us++ds).length=ps.length:=by rw [← r2.length];exact F.len _ _ _ _ h
 refine wpAny_call (codeAny_mono (F.run X.A X.stack s H ⟨us,[]⟩ (us++ds) (vs++dvs) Q E hr I.env0 (hb s us I.kIn hl) r2 h) fun r s' hq=>?_)
 cases r with
 | error e=>exact hx pins σ H s e s' I hq
 | ok fl=>
  cases fl with
  | ret u=>exact I.after hq
  | next=>exact False.elim hq
  | brk=>exact False.elim hq
  | cont=>exact False.elim hq
theorem pe_call (F:FnOk X.prog X.w X.K X.mg X.base CX k f fd ps sp) (hr:Room k X.A) (hg:Gl X x) (hm:X.mg x=some (.ref f)) (hk:PySem.W.keepIn X.K (.ref f)=true) (hb:Binds X.K fd ps ds) (hd:Vals dvs ds) (hx:Passes CX X E)
  (ha:PA X (e::es) t) (hdb:(x == ("__debug__":Str))=false:=by decide) (he:starEach (e::es) X.env=(false,eval e X.env)::starEach es X.env:=by rfl) (hpl:(backTo pos (starEach es X.env)).any (·.1)=false:=by rfl):
  PE X (.Call (.Name x p) (e::es) [] pos) (tCall sp dvs E t):=by
 intro pins s σ H Q I h
 refine wpAny_Call_Name_kw (ld_glob I hg hm ?_ hdb)
 refine PySem.W.callWith_K (h₀:=X.base) I.ok.mod.kin hk (thn (ha pos pins s σ H _ I h) fun us s1 ⟨vs,H1,I1,r,q⟩=>⟨I1.kIn,?_⟩) he hpl
 exact run_fn F hr hb hd hx I1 r q
theorem pe_meth {pl:Sem Bool} (he:PE X o ta) (c:Cls X.K C) (hm:Meth X.K C m f) (F:FnOk X.prog X.w X.K X.mg X.base CX k f fd ps sp) (hr:Room k X.A) (hb:Binds X.K fd ps ds) (hd:Vals dvs ds) (hx:Passes CX X E) (ha:PA X (e::es) t)
  (hst:starEach (e::es) X.env=(false,eval e X.env)::starEach es X.env:=by rfl) (hpl:(backTo pos (starEach es X.env)).any (·.1)=false:=by rfl)
  (ht:eval (.Call (.Attribute o m apos) (e::es) [] pos) X.env=(do
   let ov ← eval o X.env
   standAt apos.atName
   let (f,first) ← holding [ov] (getMethod ov m pl)
   callWith pos f first (backTo pos (starEach (e::es) X.env)) (backToKw pos (keywordEach [] X.env))):=by rfl):
  PE X (.Call (.Attribute o m apos) (e::es) [] pos) (tMeth C m sp dvs E ta t):=by
 intro pins s σ H Q I h
 refine PySem.W.methodCall_KW (pl:=pl) (thn (he pins s σ H _ I h) fun u s1 ⟨x,H1,I1,rx,a,dx,fs,ex,ea,l,q⟩=>?_) ht
 subst ex
 obtain rfl:u=Value.ref a:=rx
 refine getmeth_ok I1 ea c hm l ?_
 refine PySem.W.callWith_K (first:=[.ref a]) (h₀:=X.base) I.ok.mod.kin hm.kp (thn (ha pos pins s1 σ H1 _ I1 q) fun us s2 ⟨vs,H2,I2,r,q2⟩=>⟨I2.kIn,?_⟩) hst hpl
 exact run_fn (us:=.ref a::us) (vs:=.ref a::vs) F hr hb hd hx I2 (.cons rfl r) q2
theorem pe_meth0 {pl:Sem Bool} (he:PE X o ta) (c:Cls X.K C) (hm:Meth X.K C m f) (F:FnOk X.prog X.w X.K X.mg X.base CX k f fd ps sp) (hr:Room k X.A) (hb:Binds X.K fd ps ds) (hd:Vals dvs ds) (hx:Passes CX X E)
  (ht:eval (.Call (.Attribute o m apos) [] [] pos) X.env=(do
   let ov ← eval o X.env
   standAt apos.atName
   let (f,first) ← holding [ov] (getMethod ov m pl)
   callWith pos f first (backTo pos (starEach [] X.env)) (backToKw pos (keywordEach [] X.env))):=by rfl):
  PE X (.Call (.Attribute o m apos) [] [] pos) (tMeth C m sp dvs E ta tNil):=by
 intro pins s σ H Q I h
 refine PySem.W.methodCall_KW (pl:=pl) (thn (he pins s σ H _ I h) fun u s1 ⟨x,H1,I1,rx,a,dx,fs,ex,ea,l,q⟩=>?_) ht
 subst ex
 obtain rfl:u=Value.ref a:=rx
 refine getmeth_ok I1 ea c hm l ?_
 exact PySem.W.callWith_K0 (first:=[.ref a]) I1.kIn hm.kp (run_fn (us:=[.ref a]) (vs:=[.ref a]) F hr hb hd hx I1 (.cons rfl .nil) q)
structure Mk (K:PySem.W.Frag) (C f:Addr):Prop where
 makes:PySem.W.makesIn K C=true
 init:PySem.W.findIn K (.ref C) "__init__"=some (some (.ref f))
 fn:PySem.W.isFn K (.ref f)=true
 kp:PySem.W.keepIn K (.ref C)=true
theorem run_make {pins:List (Addr × Obj)}{σ:St}{H:Hp}{s:Shared}{Q:VK}{us:List Value}{vs:List V} (M:Mk X.K C f) (F:FnOk X.prog X.w X.K X.mg X.base CX k f fd ps sp) (hr:Room (k+1) X.A) (hb:Binds X.K fd ps ds) (hd:Vals dvs ds)
  (hx:Passes CX X E) (I:Inv X pins σ H s) (r:Vals vs us)
  (h:∀ x dx,H x=none→H dx=none→dx≠x→sp (.ref x::(vs++dvs)) (upd (upd H dx (.own x)) x (.ins C dx [])) (fun v H2=>v=.non∧Q (.ref x) H2) E):
  wpAny (model X.prog X.w) X.A (call (.ref C) us) (EP X pins σ Q) X.xe s:=by
 have hq:=h (s.heap.objs.size+1) s.heap.objs.size (I.hok.fresh (Nat.le_succ _)) (I.hok.fresh (Nat.le_refl _)) (Nat.ne_of_lt (Nat.lt_succ_self _))
 have I2:=Inv.made (C:=C) I
 have r2:Vals (V.ref (s.heap.objs.size+1)::(vs++dvs)) (Value.ref (s.heap.objs.size+1)::(us++ds)):=.cons rfl (r.append hd)
 have hl:(Value.ref (s.heap.objs.size+1)::us++ds).length=ps.length:=by
  have e:=r2.length
  rw [F.len _ _ _ _ hq] at e
  exact e.symm
 refine wpAny_call (make_map (f:=f) I.kIn M.makes M.init (beq_iff_eq.mp M.fn) (codeAny_mono (F.run _ X.stack _ _ ⟨Value.ref (s.heap.objs.size+1)::us,[]⟩ (Value.ref (s.heap.objs.size+1)::(us++ds)) _ _ E (hr.make C us [])
  (I2.env0.make C us []) (hb _ (Value.ref (s.heap.objs.size+1)::us) I2.kIn hl) r2 hq) fun r s' hq'=>?_))
 cases r with
 | error e=>exact hx pins σ _ _ e s' I2 hq'
 | ok fl=>
  cases fl with
  | ret u=>
   obtain ⟨v,H',I3,rv,ev,q3⟩:=I2.after hq'
   subst ev
   exact ⟨rv,⟨V.ref (s.heap.objs.size+1),H',I3,rfl,q3⟩⟩
  | next=>exact False.elim hq'
  | brk=>exact False.elim hq'
  | cont=>exact False.elim hq'
theorem pe_make (M:Mk X.K C f) (F:FnOk X.prog X.w X.K X.mg X.base CX k f fd ps sp) (hr:Room (k+1) X.A) (hg:Gl X x) (hm:X.mg x=some (.ref C)) (hb:Binds X.K fd ps ds) (hd:Vals dvs ds) (hx:Passes CX X E)
  (ha:PA X (e::es) t) (hdb:(x == ("__debug__":Str))=false:=by decide) (he:starEach (e::es) X.env=(false,eval e X.env)::starEach es X.env:=by rfl) (hpl:(backTo pos (starEach es X.env)).any (·.1)=false:=by rfl):
  PE X (.Call (.Name x p) (e::es) [] pos) (tMake C sp dvs E t):=by
 intro pins s σ H Q I h
 refine wpAny_Call_Name_kw (ld_glob I hg hm ?_ hdb)
 refine PySem.W.callWith_K (h₀:=X.base) I.ok.mod.kin M.kp (thn (ha pos pins s σ H _ I h) fun us s1 ⟨vs,H1,I1,r,q⟩=>⟨I1.kIn,?_⟩) he hpl
 exact run_make M F hr hb hd hx I1 r q
end
section
variable {X:Cx}{CX:CXT}{k:Nat}{f C:Addr}{fd:FuncData}{ps ks:List Str}{sp:Sp}{E:XK}{x m:Str}{p pos apos kpos:Pos}{e o:Expr}{es:List Expr}{kws:List Keyword}{te ta:TE}{t tk:TA}{nm:Option Str}
variable {g:List Value→List Value→List Value}{gV:List V→List V→List V}
end
structure FnScope (N P:List Str) (sc:Scope):Prop where
 kind:sc.kind=.function
 co:sc.isCoroutine=false
 gen:sc.isGenerator=false
 nd:N.Nodup
 pre:N.take P.length=P
 par:∀ x∈P,sc.names.lookup x=some .local∨sc.names.lookup x=some .cell
 nofree:∀ y∈sc.names,y.2≠.free
theorem bindL_out {kindOf:Str→Option NameKind}{x:Str}:∀ {binds:List (Str × Value)}{m:Str→Option Value},(∀ v,(x,v)∉binds)→bindL kindOf binds m x=m x
 | [],_,_=>rfl
 | (n,v)::r,m,h=>by
  unfold bindL
  rw [bindL_out fun w hw=>h w (List.mem_cons_of_mem _ hw)]
  split
  · have:x≠n:=by rintro rfl;exact h v List.mem_cons_self
    simp [this]
  · rfl
theorem bindC_out {kindOf:Str→Option NameKind}{x:Str}:∀ {binds:List (Str × Value)}{m:Str→Option Value},(∀ v,(x,v)∉binds)→bindC kindOf binds m x=m x
 | [],_,_=>rfl
 | (n,v)::r,m,h=>by
  unfold bindC
  rw [bindC_out fun w hw=>h w (List.mem_cons_of_mem _ hw)]
  split
  · rfl
  · have:x≠n:=by rintro rfl;exact h v List.mem_cons_self
    simp [this]
theorem bindL_get {kindOf:Str→Option NameKind}{x:Str}{v:Value}:∀ {P:List Str}{vs:List Value}{i:Nat}{m:Str→Option Value},P.Nodup→P[i]?=some x→vs[i]?=some v→kindOf x=some .local→
  bindL kindOf (P.zip vs) m x=some v
 | [],_,_,_,_,h,_,_=>by simp at h
 | _::_,[],_,_,_,_,h,_=>by simp at h
 | p::P,w::vs,0,m,nd,h1,h2,hk=>by
  simp at h1 h2;subst h1;subst h2
  show bindL kindOf ((p,w)::P.zip vs) m p=_
  unfold bindL
  rw [bindL_out fun v hv=>(List.nodup_cons.mp nd).1 (List.of_mem_zip hv).1,if_pos hk]
  simp
 | p::P,w::vs,i+1,m,nd,h1,h2,hk=>by
  show bindL kindOf ((p,w)::P.zip vs) m x=_
  unfold bindL
  exact bindL_get (i:=i) (List.nodup_cons.mp nd).2 (by simpa using h1) (by simpa using h2) hk
theorem bindC_get {kindOf:Str→Option NameKind}{x:Str}{v:Value}:∀ {P:List Str}{vs:List Value}{i:Nat}{m:Str→Option Value},P.Nodup→P[i]?=some x→vs[i]?=some v→kindOf x≠some .local→
  bindC kindOf (P.zip vs) m x=some v
 | [],_,_,_,_,h,_,_=>by simp at h
 | _::_,[],_,_,_,_,h,_=>by simp at h
 | p::P,w::vs,0,m,nd,h1,h2,hk=>by
  simp at h1 h2;subst h1;subst h2
  show bindC kindOf ((p,w)::P.zip vs) m p=_
  unfold bindC
  rw [bindC_out fun v hv=>(List.nodup_cons.mp nd).1 (List.of_mem_zip hv).1,if_neg hk]
  simp
 | p::P,w::vs,i+1,m,nd,h1,h2,hk=>by
  show bindC kindOf ((p,w)::P.zip vs) m x=_
  unfold bindC
  exact bindC_get (i:=i) (List.nodup_cons.mp nd).2 (by simpa using h1) (by simpa using h2) hk
def start (N:List Str) (vs:List V):St:=vs.map some++List.replicate (N.length - vs.length) none
def cxOf (CX:CXT) (P:Program) (w:World) (K:PySem.W.Frag) (mg:Str→Option Value) (base:Heap) (N:List Str) (qual:Str) (scope:Scope) (f:Addr) (cd:Value) (A:Around) (outer:List Env) (s:Shared) (H:Hp) (E:XK):Cx where
 prog:=P
 w:=w
 K:=K
 mg:=mg
 base:=base
 A:=A.deeper (envOfC qual scope s.heap.objs.size f cd)
 N:=N
 s₀:=s
 H₀:=H
 env:=envOfC qual scope s.heap.objs.size f cd
 outer:=outer
 stack:=envOfC qual scope s.heap.objs.size f cd::outer
 ex:=[]
 calm:=true
 fn:=fun _=>true
 pn:=[]
 xe:=fun e s'=>wpAny (model P w) (A.deeper (envOfC qual scope s.heap.objs.size f cd)) (leaving (envOfC qual scope s.heap.objs.size f cd) e) (fun _ s''=>CX outer H s E e s'') (fun e' s''=>CX outer H s E e' s'') s'
theorem cell_has {sc:Scope}{n:Nat}{x:Str} (h:sc.names.lookup x=some .cell):∃ c,(cellsFrom n sc.names []).lookup x=some c:=by
 have q:=PySem.W.cellsFrom_some sc.names n [] (.inl h)
 exact Option.isSome_iff_exists.mp q
theorem inv_start {CX:CXT}{P:Program}{w:World}{K:PySem.W.Frag}{mg:Str→Option Value}{base:Heap}{N ps:List Str}{qual:Str}{scope:Scope}{f:Addr}{cd:Value}{A:Around}{outer:List Env}{s s1:Shared}{H:Hp}{E:XK}{us:List Value}{vs:List V}
  (S:FnScope N ps scope) (hd:A.handled=none) (e0:Env0 P w K mg base A outer s H) (hl:vs.length=ps.length) (r:Vals vs us)
  (x:InCallC s s.heap.objs.size (bindL (envOfC qual scope s.heap.objs.size f cd).kindOf (ps.zip us) fun _=>none) (cellsFrom (s.heap.objs.size+1) scope.names []) (bindC (envOfC qual scope s.heap.objs.size f cd).kindOf (ps.zip us) fun _=>none) s1):
  Inv (cxOf CX P w K mg base N qual scope f cd A outer s H E) [] (start N vs) H s1:=by
 have hpl:ps.length≤N.length:=by have:=congrArg List.length S.pre;rw [List.length_take] at this;omega
 obtain ⟨h1,tk,rfl,hk⟩:=x.done
 have noA:∀ b:Addr,b∉(cxOf CX P w K mg base N qual scope f cd A outer s H E).ex:=fun b z=>absurd (show b∈([]:List Addr) from z) (by simp)
 refine ⟨⟨e0.mod,S.kind,rfl,rfl,Nat.le_refl _,fun y z c h1 h2=>?_,fun y hy=>?_,fun y c _ h=>?_,fun _=>hd,Around.frames_deeper e0.frames,.inr ⟨rfl,rfl⟩,fun b z=>absurd z (noA b),e0.bs,e0.bsz,fun b _ _=>noA b,fun b z=>absurd z (noA b),e0.funs,e0.frf⟩,
  rfl,e0.bare,Un.kept hk,⟨_,x.toInCall.ns,fun i y v h1 h2 h3=>?_⟩,fun y c h=>⟨_,x.cell y c h⟩,e0.hok.fresh (Nat.le_refl _),fun y c h=>?_,fun p hp=>absurd (show p∈([]:List (Addr × Obj)) from hp) (by simp),e0.hok.kept hk,?_⟩
 · exact name_of_addr x.apart (PySem.mem_of_lookup h1) (PySem.mem_of_lookup h2)
 · have hy:scope.names.lookup y=some .cell∨scope.names.lookup y=some .free:=hy
   rcases hy with hy | hy
   · exact cell_has hy
   · exact absurd rfl (S.nofree _ (PySem.mem_of_lookup hy))
 · exact Nat.le_of_lt (x.above y c (PySem.mem_of_lookup h))
 · have hi:i < vs.length:=by
     unfold start at h2
     by_cases hi:i < vs.length
     · exact hi
     · rw [List.getElem?_append_right (by simpa using hi)] at h2
       rw [List.getElem?_replicate] at h2
       split at h2 <;> cases h2
   have ha:vs[i]?=some v:=by
    unfold start at h2
    rw [List.getElem?_append_left (by simpa using hi),List.getElem?_map] at h2
    cases e:vs[i]? with
    | none=>rw [e] at h2;cases h2
    | some a=>rw [e] at h2;cases h2;rfl
   obtain ⟨u,hu,rv⟩:=r.get ha
   have hp:ps[i]?=some y:=by
    rw [← S.pre,List.getElem?_take_of_lt (by omega)];exact h1
   have ndP:ps.Nodup:=by rw [← S.pre];exact S.nd.sublist (List.take_sublist _ _)
   refine ⟨u,rv,?_⟩
   rcases S.par y (List.mem_of_getElem? hp) with k | k
   · exact .inl ⟨k,bindL_get ndP hp hu k⟩
   · obtain ⟨c,e⟩:=cell_has (n:=s.heap.objs.size+1) k
     refine .inr ⟨.inl k,c,e,?_⟩
     have q:=x.cell y c e
     rw [bindC_get ndP hp hu (by show scope.names.lookup y≠_;rw [k];decide)] at q
     exact q
 · exact e0.hok.fresh (Nat.le_of_lt (x.above y c (PySem.mem_of_lookup h)))
 · unfold start
   show _=N.length
   rw [List.length_append,List.length_map,List.length_replicate]
   omega
theorem fn_of {CX:CXT}{P:Program}{w:World}{K:PySem.W.Frag}{mg:Str→Option Value}{base:Heap}{k:Nat}{f:Addr}{name qual:Str}{params:Arguments}{body:List Stmt}{scope:Scope}{dV kV doc pm cdv ct oc:Value}{an od:Option Addr}
  {osl:Array (Option Value)}{N ps:List Str}{sp:Sp} (lk:K.lookup f=some ⟨oc,od,.func (PySem.W.fnOf name qual params body scope dV kV doc pm an cdv ct),osl⟩) (hcd:PySem.W.codeIn K cdv qual=true) (S:FnScope N ps scope)
  (len:∀ vs H Q E,sp vs H Q E→vs.length=ps.length)
  (hbody:∀ (A:Around) (outer:List Env) (s:Shared) (H:Hp) (vs:List V) (Q:VK) (E:XK),Room k (A.deeper (envOfC qual scope s.heap.objs.size f cdv))→sp vs H Q E→
   ∃ t,PSs (cxOf CX P w K mg base N qual scope f cdv A outer s H E) body t∧t { nx:=fun _ H'=>Q .non H',rt:=Q } (start N vs) H):
  FnOk P w K mg base CX (k+1) f (PySem.W.fnOf name qual params body scope dV kV doc pm an cdv ct) ps sp:=by
 refine ⟨len,fun A outer s H args us vs Q E hr e0 hb r hsp=>?_⟩
 have hl:=len _ _ _ _ hsp
 have KX:K.In s.heap:=e0.mod.kin.keeps fun b o e=>(e0.bs b o e).1
 have lim:s.heap.NoLimit:=e0.mod.nolimit.keeps fun b o e=>(e0.bs b o e).1
 have hkind:∀ y∈ps.zip us,scope.names.lookup y.1=some .local∨(scope.names.lookup y.1=some .cell∧((cellsFrom (s.heap.objs.size+1) scope.names []).lookup y.1).isSome=true):=fun ⟨n,v⟩ hy=>by
  rcases S.par n (List.of_mem_zip hy).1 with q | q
  · exact .inl q
  · exact .inr ⟨q,PySem.W.cellsFrom_some _ _ _ (.inl q)⟩
 refine codeAny_call_function hr.depth (KX _ _ lk) rfl S.co S.gen rfl (PySem.W.codeRec_of KX hcd) (hb _ _ _ _ ?_)
 refine wpAny_newFunctionEnv_cells S.kind hkind fun env he s1 x=>?_
 subst he
 refine ⟨lim.keeps x.toInCall.keep,codeAny_func ?_⟩
 obtain ⟨t,ht,hq⟩:=hbody A outer s H vs Q E (hr.deeper _) hsp
 have I:Inv (cxOf CX P w K mg base N qual scope f cdv A outer s H E) [] (start N vs) H s1:=inv_start S hr.hd e0 hl r x
 refine wpAny_mono (ht [] s1 (start N vs) H _ I hq) (fun fl s' hs=>?_) fun e s' hs=>hs
 have fin:∀ {σ':St}{H':Hp}{v:V}{u:Value},Inv (cxOf CX P w K mg base N qual scope f cdv A outer s H E) [] σ' H' s'→RelV v u→Q v H'→CE outer P w H s Q u s':=
  fun {σ' H' v u} J rv q=>⟨v,H',J.os,J.bare,J.base,J.hok,rv,q⟩
 cases fl with
 | ret u=>
  obtain ⟨v,σ',H',J,rv,q⟩:=hs
  exact fin J rv q
 | next=>
  obtain ⟨σ',H',J,q⟩:=hs
  exact fin (v:=V.non) (u:=Value.none) J rfl q
 | brk=>
  obtain ⟨_,_,_,q⟩:=hs
  exact False.elim q
 | cont=>
  obtain ⟨_,_,_,q⟩:=hs
  exact False.elim q
section
variable {X:Cx}{x:Str}{p pos:Pos}{e:Expr}{es:List Expr}{t:TA}{id T:String}{r:List V→Hp→VK→Prop}
def tCB (r:List V→Hp→VK→Prop) (t:TA):TE:=fun σ H Q=>t σ H fun vs H1=>r vs H1 Q
theorem pe_callB (hc:CallR X (.builtin id) r) (hg:Gl X x) (hm:X.mg x=none) (hv:bootBuiltins x=some (.builtin id)) (ha:PA X (e::es) t) (hn:x≠"__name__":=by decide) (hdb:(x == ("__debug__":Str))=false:=by decide)
  (he:starEach (e::es) X.env=(false,eval e X.env)::starEach es X.env:=by rfl) (hpl:(backTo pos (starEach es X.env)).any (·.1)=false:=by rfl):PE X (.Call (.Name x p) (e::es) [] pos) (tCB r t):=by
 intro pins s σ H Q I h
 refine wpAny_Call_Name_kw (ld_blt I hg hm hv ?_ hn hdb)
 exact PyProof.Rows.callWith_builtin1 (thn (ha pos pins s σ H _ I h) fun us s1 ⟨vs,H1,I1,r1,q1⟩=>hc pins s1 σ H1 vs us Q I1 r1 q1) he hpl
theorem pe_callTy (hc:CallR X (.type T) r) (hg:Gl X x) (hm:X.mg x=none) (hv:bootBuiltins x=some (.type T)) (ha:PA X (e::es) t) (hn:x≠"__name__":=by decide) (hdb:(x == ("__debug__":Str))=false:=by decide)
  (he:starEach (e::es) X.env=(false,eval e X.env)::starEach es X.env:=by rfl) (hpl:(backTo pos (starEach es X.env)).any (·.1)=false:=by rfl):PE X (.Call (.Name x p) (e::es) [] pos) (tCB r t):=by
 intro pins s σ H Q I h
 refine wpAny_Call_Name_kw (ld_blt I hg hm hv ?_ hn hdb)
 exact PyProof.Rows.callWith_type1 (thn (ha pos pins s σ H _ I h) fun us s1 ⟨vs,H1,I1,r1,q1⟩=>hc pins s1 σ H1 vs us Q I1 r1 q1) he hpl
end
end L2
namespace HT
open PySem PyProof.Rows
section
open PySem.SeqAt
open PySem.AutoSeq1 (wpAny_loadPart')
open PySem.MeetsSeq PySem.MeetsSeq2 PySem.MeetsSeq3
end
section
variable {prog:Program}{w:World}{A:Around}{E:Value→Shared→Prop}{s:Shared}
theorem cat_tup {t b:Addr}{vs ws:List Value}{Q:Value→Shared→Prop} (ht:IsTup s.heap t vs.toArray) (hb:IsTup s.heap b ws.toArray) (hv:vs≠[])
  (h1:ws=[]→Q (.ref t) s) (h2:ws≠[]→Q (.ref s.heap.objs.size) { s with heap:=s.heap.push { cls:=.type "tuple",data:=.seq (vs++ws).toArray } })
  (hsz:vs.length+ws.length≤sizeLine):wpAny (model prog w) A (binaryOp .Add (.ref t) (.ref b)) Q E s:=by
 obtain ⟨⟨cls,dd,data,sl⟩,ho,hc,n,hd⟩:=id ht
 obtain ⟨⟨cls2,dd2,data2,sl2⟩,ho2,hc2,n2,hd2⟩:=id hb
 simp only at hc hd hc2 hd2
 subst hc hd hc2 hd2
 have e:vs.toArray++ws.toArray=(vs++ws).toArray:=by simp
 by_cases hw:ws=[]
 · exact concat_meets ⟨_,ho,rfl⟩ ⟨_,ho2,rfl⟩ noFill_tuple_add seq_tuple_add PySem.F.slot_tuple_add PySem.F.entry_tuple_add (PySem.F.args_tuple_add_2 _ _)
     (tuple_addW1 t b vs.toArray ws.toArray n n2 dd dd2 sl sl2 (by simpa using hv) (by simp [hw])) ⟨ho,ho2,h1 hw⟩
 · refine concat_meets ⟨_,ho,rfl⟩ ⟨_,ho2,rfl⟩ noFill_tuple_add seq_tuple_add PySem.F.slot_tuple_add PySem.F.entry_tuple_add (PySem.F.args_tuple_add_2 _ _)
     (tuple_addW2 t b vs.toArray ws.toArray n n2 dd dd2 sl sl2 (by simpa using hv) (by simpa using hw) (by rw [List.size_toArray,List.size_toArray];exact hsz)) ⟨ho,ho2,?_⟩
   rw [e]
   exact h2 hw
def sIx (n d:Nat):Option Int→Nat
 | none=>d
 | some v=>if v < 0 then (v+(n:Int)).toNat else min v.toNat n
theorem sIx_none (n d:Nat):sIx n d none=d:=rfl
theorem sIx_nat (n d k:Nat):sIx n d (some (k:Int))=min k n:=by
 show (if (k:Int) < 0 then ((k:Int)+(n:Int)).toNat else min (k:Int).toNat n)=min k n
 rw [if_neg (by omega),Int.toNat_natCast]
theorem sIx_le (n d:Nat) (hd:d≤n) (o:Option Int):sIx n d o≤n:=by
 cases o with
 | none=>exact hd
 | some v=>
  show (if v < 0 then (v+(n:Int)).toNat else min v.toNat n)≤n
  by_cases hv:v < 0
  · rw [if_pos hv];omega
  · rw [if_neg hv];exact Nat.min_le_right _ _
theorem clip_eq (v:Int) (n d:Nat):(if v < 0 then max (v+(n:Int)) 0 else min v (n:Int))=((sIx n d (some v):Nat):Int):=by
 show (if v < 0 then max (v+(n:Int)) 0 else min v (n:Int))=(((if v < 0 then (v+(n:Int)).toNat else min v.toNat n):Nat):Int)
 by_cases hv:v < 0
 · simp only [if_pos hv];omega
 · simp only [if_neg hv];omega
theorem adjust_gen (lo hi:Option Int) (n:Nat):Builtin.Slice.sliceAdjust lo hi 1 (n:Int)=(((sIx n 0 lo:Nat):Int),((sIx n n hi:Nat):Int)):=by
 have h1:¬ ((1:Int) < 0):=by omega
 unfold Builtin.Slice.sliceAdjust
 simp only [h1,if_false]
 refine Prod.ext ?_ ?_
 · cases lo with
   | none=>rfl
   | some v=>exact clip_eq v n 0
 · cases hi with
   | none=>rfl
   | some v=>exact clip_eq v n n
theorem places_gen (i j:Nat):Builtin.Slice.slicePlaces (i:Int) (j:Int) 1=j - i:=by
 unfold Builtin.Slice.slicePlaces
 have h1:(1:Int) > 0:=by omega
 simp only [h1,if_true,Int.ediv_one]
 split <;> omega
theorem slicePart_ {v:Value}{o:Option Int}{Q:Option Int→Shared→Prop} (p:IsPart v o) (h:Q o s):wpAny (model prog w) A (Builtin.Slice.slicePartIndex v) Q E s:=by
 cases p with
 | none=>exact slicePart_none h
 | int i t=>exact slicePart_int h
theorem sliceApplied_gen {sl:Addr}{vl vu:Value}{lo hi:Option Int}{n:Nat}{Q:Int × Int × Nat→Shared→Prop} (hs:s.heap.IsSliceOf sl vl vu .none) (pl:IsPart vl lo) (pu:IsPart vu hi)
  (h:Q (((sIx n 0 lo:Nat):Int),1,sIx n n hi - sIx n 0 lo) s):wpAny (model prog w) A (Builtin.Slice.sliceApplied (.ref sl) (pure (n:Int))) Q E s:=by
 obtain ⟨os,hos,hcs,hds⟩:=id hs
 unfold Builtin.Slice.sliceApplied Builtin.Slice.sliceFields
 refine wpAny_bind (wpAny_bind (wpAny_field hos hds (x:=vl) rfl (wpAny_bind (wpAny_field hos hds (x:=vu) rfl (wpAny_bind (wpAny_field hos hds (x:=.none) rfl (wpAny_pure ?_)))))))
 refine wpAny_bind (slicePart_none ?_)
 show wpAny _ _ (if ((1:Int) == 0)=true then _ else _) _ _ s
 rw [if_neg (by decide)]
 refine wpAny_bind (slicePart_ pl (wpAny_bind (slicePart_ pu (wpAny_bind (wpAny_pure ?_)))))
 show wpAny _ _ (match Builtin.Slice.sliceAdjust lo hi 1 (n:Int) with | (lo,hi)=>pure (lo,(1:Int),Builtin.Slice.slicePlaces lo hi 1)) _ _ s
 rw [adjust_gen lo hi n]
 show wpAny _ _ (pure (((sIx n 0 lo:Nat):Int),(1:Int),Builtin.Slice.slicePlaces ((sIx n 0 lo:Nat):Int) ((sIx n n hi:Nat):Int) 1)) _ _ s
 rw [places_gen]
 exact wpAny_pure h
theorem pick_gen (xs:Array Value) (i k:Nat):((List.range k).filterMap fun (m:Nat)=>xs[((i:Int)+(m:Int) * 1).toNat]?).toArray=((xs.toList.drop i).take k).toArray:=by
 have e:(fun (m:Nat)=>xs[((i:Int)+(m:Int) * 1).toNat]?)=fun m=>xs[i+m]?:=by
  funext m
  have:((i:Int)+(m:Int) * 1).toNat=i+m:=by omega
  rw [this]
 rw [e]
 have:=pick_run xs i k
 rw [List.filterMap_map] at this
 have e2:((fun x=>xs[x]?) ∘ fun x=>i+x)=fun m=>xs[i+m]?:=rfl
 rw [e2] at this
 rw [this]
theorem getItem_tuple_cut {t sl:Addr}{items:Array Value}{vl vu:Value}{lo hi:Option Int}{Q:Value→Shared→Prop} (ht:IsTup s.heap t items) (hs:s.heap.IsSliceOf sl vl vu .none) (pl:IsPart vl lo) (pu:IsPart vu hi)
  (hw:¬ (sIx items.size 0 lo=0∧sIx items.size items.size hi=items.size))
  (h:Q (.ref s.heap.objs.size) { s with heap:=s.heap.push { cls:=.type "tuple",data:=.seq ((items.toList.drop (sIx items.size 0 lo)).take (sIx items.size items.size hi - sIx items.size 0 lo)).toArray } })
  (hsz:items.size≤sizeLine):wpAny (model prog w) A (getItem (.ref t) (.ref sl)) Q E s:=by
 have htake:sizeOk (.seq ((items.toList.drop (sIx items.size 0 lo)).take (sIx items.size items.size hi - sIx items.size 0 lo)).toArray):=by
  show ((items.toList.drop (sIx items.size 0 lo)).take (sIx items.size items.size hi - sIx items.size 0 lo)).toArray.size≤sizeLine
  rw [List.size_toArray,List.length_take,List.length_drop,Array.length_toList]
  omega
 have hj:sIx items.size items.size hi≤items.size:=sIx_le _ _ (Nat.le_refl _) hi
 obtain ⟨os,hos,hcs,hds⟩:=id hs
 have hTs:s.TypeIs (.ref sl) "slice":=⟨os,hos,hcs⟩
 unfold getItem
 try with_reducible refine wpAny_holding ?_
 first | refine wpAny_bind (wpAny_pure ?_) | skip
 refine wpAny_bind (wpAny_sequenceKey ht.typeIs (by decide) ?_)
 refine wpAny_bind (wpAny_callSpecial?_slot (name:=Str.ofString "__getitem__") ht.typeIs PyProof.Rows.slot_tuple_getitem
  (wpAny_call_entry PyProof.Rows.slot_tuple_getitem ht.typeIs entry_tuple_getitem ?_ (args_tuple_getitem _ _)))
 show wpAny _ _ (Builtin.Tuple.tupleItemsOf (.ref t) >>= _) _ _ s
 refine wpAny_bind (tupleItemsOf_ ht ?_)
 refine wpAny_bind (wpAny_typeOf hTs ?_)
 rw [if_pos (by decide)]
 refine wpAny_bind (sliceApplied_gen hs pl pu ?_)
 have hno:¬ ((((sIx items.size 0 lo:Nat):Int) == 0 && (1:Int) == 1 && (sIx items.size items.size hi - sIx items.size 0 lo) == items.size)=true):=by
  intro q
  rw [Bool.and_eq_true,Bool.and_eq_true] at q
  have q1:((sIx items.size 0 lo:Nat):Int)=0:=eq_of_beq q.1.1
  have q2:sIx items.size items.size hi - sIx items.size 0 lo=items.size:=eq_of_beq q.2
  exact hw ⟨by omega,by omega⟩
 show wpAny _ _ (if (((sIx items.size 0 lo:Nat):Int) == 0 && (1:Int) == 1 && (sIx items.size items.size hi - sIx items.size 0 lo) == items.size)=true then _ else _) _ _ s
 rw [if_neg hno,pick_gen]
 first
  | exact wpAny_bind (m:=Builtin.Tuple.tupleExact _) (wpAny_newObj_type (wpAny_pure ⟨_,rfl,wpAny_pure h⟩) htake)
  | exact wpAny_bind (m:=Builtin.Tuple.tupleExact _) (wpAny_newObj_type (wpAny_bind (wpAny_pure (wpAny_pure ⟨_,rfl,wpAny_pure h⟩))) htake)
  | exact wpAny_bind (wpAny_bind (m:=Builtin.Tuple.tupleExact _) (wpAny_newObj_type (wpAny_pure (wpAny_pure ⟨_,rfl,wpAny_pure h⟩)) htake))
  | exact wpAny_bind (wpAny_bind (m:=Builtin.Tuple.tupleExact _) (wpAny_newObj_type (wpAny_pure ⟨_,rfl,wpAny_pure h⟩) htake))
end
end HT
namespace L2
open PySem PySem.Spec PyProof.Rows
abbrev TO:=St→Hp→(Option Int→Hp→Prop)→Prop
def PO (X:Cx) (e:Option Expr) (t:TO):Prop:=
 ∀ (pins:List (Addr × Obj)) (s:Shared) (σ:St) (H:Hp) (Q:Option Int→Hp→Prop),Inv X pins σ H s→t σ H Q→
  wpAny (model X.prog X.w) X.A (evalPart e X.env) (fun u s'=>∃ o H',Inv X pins σ H' s'∧IsPart u o∧Q o H') X.xe s
def tNoPart:TO:=fun _ H Q=>Q none H
def tPart (t:TE):TO:=fun σ H Q=>t σ H fun x H1=>∃ i,x=.int i∧Q (some i) H1
theorem intsAre_of {ns:List Int}:∀ {us:List Value},Vals (ns.map V.int) us→IntsAre us ns:=by
 induction ns with
 | nil=>intro us r;rw [List.map_nil] at r;cases r;exact .nil
 | cons n ns ih=>
  intro us r
  rw [List.map_cons] at r
  cases r with
  | cons r1 r2=>
   obtain ⟨t,e⟩:=r1
   subst e
   exact .cons n t (ih r2)
section
variable {X:Cx}{e:Expr}{te:TE}{lo hi:Option Expr}{tl th:TO}{pos p2:Pos}
theorem po_none:PO X none tNoPart:=by
 intro pins s σ H Q I h
 rw [evalPart_none]
 exact wpAny_pure ⟨none,H,I,.none,h⟩
theorem po_some (h:PE X e te):PO X (some e) (tPart te):=by
 intro pins s σ H Q I hw
 rw [evalPart_some]
 refine thn (h pins s σ H _ I hw) fun u s1 ⟨x,H1,I1,r1,q1⟩=>?_
 obtain ⟨i,rfl,q⟩:=q1
 obtain ⟨t,rfl⟩:=r1
 exact ⟨some i,H1,I1,.int i t,q⟩
def SlR (X:Cx) (r:V→Option Int→Option Int→Hp→VK→Prop):Prop:=
 ∀ (pins:List (Addr × Obj)) (s:Shared) (σ:St) (H:Hp) (x:V) (v vl vu:Value) (lo hi:Option Int) (sl:Addr) (Q:VK),Inv X pins σ H s→RelV x v→s.heap.IsSliceOf sl vl vu .none→IsPart vl lo→IsPart vu hi→r x lo hi H Q→
  ∃ T id,typeLookup (.type T) "__getitem__"=pure (some (.builtin id))∧s.TypeIs v T∧wpAny (model X.prog X.w) X.A (getItem v (.ref sl)) (EP X pins σ Q) X.xe s
def tSl (r:V→Option Int→Option Int→Hp→VK→Prop) (te:TE) (tl th:TO):TE:=fun σ H Q=>te σ H fun x H1=>tl σ H1 fun l H2=>th σ H2 fun u H3=>r x l u H3 Q
theorem pe_slice {r:V→Option Int→Option Int→Hp→VK→Prop} (hr:SlR X r) (he:PE X e te) (hl:PO X lo tl) (hu:PO X hi th):PE X (.Subscript e (.Slice lo hi none p2) pos) (tSl r te tl th):=by
 intro pins s σ H Q I h
 refine Subscript_ (thn (he pins s σ H _ I h) fun v s1 ⟨x,H1,I1,r1,q1⟩=>?_)
 refine wpAny_Slice (thn (hl pins s1 σ H1 _ I1 q1) fun vl s2 ⟨l,H2,I2,pl,q2⟩=>thn (hu pins s2 σ H2 _ I2 q2) fun vu s3 ⟨u,H3,I3,pu,q3⟩=>?_)
 rw [evalPart_none]
 refine wpAny_pure ?_
 have I4:Inv X pins σ H3 { s3 with heap:=s3.heap.push { cls:=.type "slice",data:=.fields #[vl,vu,.none] } }:=I3.kept (t':=s3.toks) fun b ob q=>Heap.get?_push_of_some _ q
 obtain ⟨T,id,hT,ht,hg⟩:=hr pins { s3 with heap:=s3.heap.push { cls:=.type "slice",data:=.fields #[vl,vu,.none] } } σ H3 x v vl vu l u s3.heap.objs.size Q I4 r1 (Heap.IsSliceOf.new ..) pl pu q3
 show wpAny (model X.prog X.w) X.A (subscriptTail e (.Slice lo hi none p2) v (.ref s3.heap.objs.size)) (EP X pins σ Q) X.xe { s3 with heap:=s3.heap.push { cls:=.type "slice",data:=.fields #[vl,vu,.none] } }
 exact tail_any (ops:=[.ref s3.heap.objs.size,v]) ht hT hg (by with_unfolding_all rfl)
def cutV (xs:List V) (lo hi:Option Int):List V:=(xs.drop (HT.sIx xs.length 0 lo)).take (HT.sIx xs.length xs.length hi - HT.sIx xs.length 0 lo)
theorem cutV_length (xs:List V) (lo hi:Option Int):(cutV xs lo hi).length≤xs.length:=by
 unfold cutV
 rw [List.length_take,List.length_drop]
 omega
def rSlT (K:PySem.W.Frag):V→Option Int→Option Int→Hp→VK→Prop:=fun x lo hi H Q=>∃ a xs,x=.ref a∧SqT K H a xs∧
 ¬ (HT.sIx xs.length 0 lo=0∧HT.sIx xs.length xs.length hi=xs.length)∧∀ p,H p=none→Q (.ref p) (upd H p (.tup (cutV xs lo hi)))
theorem sl_tup:SlR X (rSlT X.K):=by
 intro pins s σ H x v vl vu lo hi sl Q I rx hs pl pu h
 obtain ⟨a,xs,rfl,hx,hw,q⟩:=h
 cases rx
 obtain ⟨its,r,ht,hz⟩:=I.tuple hx
 have hlen:its.toArray.size=xs.length:=by rw [List.size_toArray];exact r.length.symm
 refine ⟨"tuple",_,PyProof.Rows.slot_tuple_getitem.lookup,ht.typeIs,?_⟩
 refine HT.getItem_tuple_cut ht hs pl pu (by rw [hlen];exact hw) ?_ (by rw [hlen];exact hz)
 rw [hlen]
 refine ⟨.ref s.heap.objs.size,_,I.laid (t':=s.toks) (o:=.tup (cutV xs lo hi)) (fun b ob q=>Heap.get?_push_of_some _ q) (Nat.le_refl _) ?_,rfl,q _ (I.hok.fresh (Nat.le_refl _))⟩
 exact ⟨Nat.le_trans (cutV_length xs lo hi) hz,_,(r.drop (HT.sIx xs.length 0 lo)).take (HT.sIx xs.length xs.length hi - HT.sIx xs.length 0 lo),IsTup.new _ _⟩
def rCatT (K:PySem.W.Frag):R2:=fun x y H Q=>∃ a b xs ys,x=.ref a∧y=.ref b∧SqT K H a xs∧SqT K H b ys∧xs≠[]∧xs.length+ys.length≤sizeLine∧
 (ys=[]→Q (.ref a) H)∧(ys≠[]→∀ p,H p=none→Q (.ref p) (upd H p (.tup (xs++ys))))
theorem Vals.nil_iff {xs:List V}{us:List Value} (r:Vals xs us):us=[]↔xs=[]:=by
 cases r with
 | nil=>simp
 | cons _ _=>simp
theorem op_catT:OpR X (binaryOp .Add) (rCatT X.K):=by
 intro pins s σ H x y v u Q I rx ry h
 obtain ⟨a,b,xs,ys,rfl,rfl,ha,hb,hx,hz,q1,q2⟩:=h
 cases rx
 cases ry
 obtain ⟨its,r1,p1,_⟩:=I.tuple ha
 obtain ⟨its2,r2,p2,_⟩:=I.tuple hb
 refine HT.cat_tup p1 p2 (fun z=>hx (r1.nil_iff.mp z)) (fun z=>⟨.ref a,H,I,rfl,q1 (r2.nil_iff.mp z)⟩) (fun z=>?_) (by rw [← r1.length, ← r2.length];exact hz)
 refine ⟨.ref s.heap.objs.size,_,I.laid (t':=s.toks) (o:=.tup (xs++ys)) (fun b ob q=>Heap.get?_push_of_some _ q) (Nat.le_refl _) ?_,rfl,q2 (fun w=>z (r2.nil_iff.mpr w)) _ (I.hok.fresh (Nat.le_refl _))⟩
 exact ⟨by rw [List.length_append];exact hz,_,r1.append r2,IsTup.new _ _⟩
end
def ixN (n:Nat) (i:Int):Option Nat:=if 0≤i then (if i < n then some i.toNat else none) else if -(n:Int)≤i then some (i+n).toNat else none
def atI {α:Type} (xs:List α) (i:Int):Option α:=(ixN xs.length i).bind fun j=>xs[j]?
theorem ixN_seq {n:Nat}{i:Int}{j:Nat} (h:ixN n i=some j):seqIndex? i n=some j∧j < n∧ -(n:Int)≤i∧i < n:=by
 unfold ixN at h
 by_cases h0:0≤i
 · rw [if_pos h0] at h
   by_cases h1:i < n
   · rw [if_pos h1] at h
     have e:i.toNat=j:=Option.some.inj h
     exact ⟨by rw [seqIndex_of h0 h1,e],by omega,by omega,h1⟩
   · rw [if_neg h1] at h;cases h
 · rw [if_neg h0] at h
   by_cases h1: -(n:Int)≤i
   · rw [if_pos h1] at h
     have e:(i+n).toNat=j:=Option.some.inj h
     exact ⟨by rw [seqIndex_neg (by omega) h1,e],by omega,h1,by omega⟩
   · rw [if_neg h1] at h;cases h
theorem atI_get {α:Type}{xs:List α}{i:Int}{v:α} (h:atI xs i=some v):∃ j,seqIndex? i xs.length=some j∧xs[j]?=some v∧j < xs.length∧ -(xs.length:Int)≤i∧i < xs.length:=by
 unfold atI at h
 cases e:ixN xs.length i with
 | none=>rw [e] at h;cases h
 | some j=>
  rw [e] at h
  obtain ⟨h1,h2,h3,h4⟩:=ixN_seq e
  exact ⟨j,h1,h,h2,h3,h4⟩
theorem atI_nat {α:Type}{xs:List α}{j:Nat}{v:α} (h:xs[j]?=some v):atI xs (j:Int)=some v:=by
 have hj:j < xs.length:=(List.getElem?_eq_some_iff.mp h).1
 have e:ixN xs.length (j:Int)=some j:=by
  unfold ixN
  rw [if_pos (by omega),if_pos (by omega)];simp
 unfold atI;rw [e];exact h
def PlainIx (b:Expr):Prop:=∀ o i,subscripted b false o i=operate [o,i] (getItem o i)
def IxR (X:Cx) (r:R2):Prop:=
 ∀ (value slice:Expr) (pins:List (Addr × Obj)) (s:Shared) (σ:St) (H:Hp) (x y:V) (v u:Value) (Q:VK),Inv X pins σ H s→RelV x v→RelV y u→r x y H Q→
  subscripted slice false v u=operate [v,u] (getItem v u)→wpAny (model X.prog X.w) X.A (subscriptTail value slice v u) (EP X pins σ Q) X.xe s
def MtR (X:Cx) (id:String) (r:V→List V→Hp→VK→Prop):Prop:=
 ∀ (pins:List (Addr × Obj)) (s:Shared) (σ:St) (H:Hp) (x:V) (xs:List V) (v:Value) (us:List Value) (Q:VK),Inv X pins σ H s→RelV x v→Vals xs us→r x xs H Q→
  wpAny (model X.prog X.w) X.A (call (.builtin id) (v::us)) (EP X pins σ Q) X.xe s
section
variable {X:Cx}{a b:Expr}{ta tb:TE}{pos:Pos}
theorem pe_ix {r:R2} (hr:IxR X r) (ha:PE X a ta) (hb:PE X b tb) (hs:PlainIx b):PE X (.Subscript a b pos) (tOp r ta tb):=by
 intro pins s σ H Q I h
 exact Subscript_ (binT ha hb I h fun v u s2 x y H2 I2 rx ry q=>hr a b pins s2 σ H2 x y v u Q I2 rx ry q (hs _ _))
def rIxL (K:PySem.W.Frag):R2:=fun x y H Q=>∃ p xs i v,x=.ref p∧y=.int i∧SqL K H p xs∧atI xs i=some v∧Q v H
def rIxT (K:PySem.W.Frag):R2:=fun x y H Q=>∃ p xs i v,x=.ref p∧y=.int i∧SqT K H p xs∧atI xs i=some v∧Q v H
theorem ix_list:IxR X (rIxL X.K):=by
 intro value slice pins s σ H x y v u Q I rx ry h hs
 obtain ⟨p,xs,i,z,rfl,rfl,hq,he,q⟩:=h
 cases rx
 obtain ⟨t,rfl⟩:=ry
 obtain ⟨its,r,pl,hz⟩:=I.list hq
 obtain ⟨j,h1,h2,h3,h4,h5⟩:=atI_get he
 obtain ⟨w,ew,rw'⟩:=r.get h2
 have hl:=r.length
 have hn:=line63
 have fin:EP X pins σ Q w s:=⟨z,H,I,rw',q⟩
 by_cases h0:0≤i
 · have hj:i.toNat=j:=by
     rw [seqIndex_of h0 h5] at h1
     exact Option.some.inj h1
   exact item_listR pl.isList h0 (by omega) (by rw [hj];simpa using ew) fin hs
 · have hj:(i+(its.toArray.size:Int)).toNat=j:=by
     rw [seqIndex_neg (by omega) h4] at h1
     rw [List.size_toArray, ← hl]
     exact Option.some.inj h1
   exact subscriptTail_builtinR (x:=w) pl.isList.typeIs slot_list_getitem.lookup
    (wpAny_getItem_list_neg (Q:=fun r s'=>r=w∧EP X pins σ Q r s') pl.isList (by omega) (by rw [List.size_toArray] <;> omega) (by omega) (by rw [hj];simpa using ew) ⟨rfl,fin⟩) hs
theorem ix_tup:IxR X (rIxT X.K):=by
 intro value slice pins s σ H x y v u Q I rx ry h hs
 obtain ⟨p,xs,i,z,rfl,rfl,hq,he,q⟩:=h
 cases rx
 obtain ⟨t,rfl⟩:=ry
 obtain ⟨its,r,pl,hz⟩:=I.tuple hq
 obtain ⟨j,h1,h2,h3,h4,h5⟩:=atI_get he
 obtain ⟨w,ew,rw'⟩:=r.get h2
 have hl:=r.length
 have hn:=line63
 have fin:EP X pins σ Q w s:=⟨z,H,I,rw',q⟩
 exact subscriptTail_builtinR (x:=w) pl.typeIs slot_tuple_getitem.lookup
  (getItem_tuple (j:=j) (Q:=fun r s'=>r=w∧EP X pins σ Q r s') pl (by omega) (by omega) (by rw [List.size_toArray, ← hl];exact h1) (by simpa using ew) ⟨rfl,fin⟩) hs
theorem mapSeq_set (its:List Value) (n j:Nat) (u:Value):Obj.mapSeq (·.setIfInBounds j u) { cls:=.type "list",data:=.seq its.toArray n }={ cls:=.type "list",data:=.seq (its.set j u).toArray n }:=by
 simp [Obj.mapSeq]
theorem Inv.lst {pins:List (Addr × Obj)}{σ:St}{H:Hp}{s:Shared}{p:Addr}{xs:List V} (I:Inv X pins σ H s) (h:H p=some (.lst xs)):
  ∃ (its:List Value) (n:Nat),Vals xs its∧s.heap.get? p=some { cls:=.type "list",data:=.seq its.toArray n }∧xs.length≤sizeLine:=by
 obtain ⟨z,its,n,r,e⟩:=I.hok p _ h
 exact ⟨its,n,r,e,z⟩
theorem Inv.lstUpd {pins:List (Addr × Obj)}{σ:St}{H:Hp}{s:Shared}{p:Addr}{xs ys:List V}{its its':List Value}{n n':Nat}{f:Obj→Obj} (I:Inv X pins σ H s) (h:H p=some (.lst xs))
  (ho:s.heap.get? p=some { cls:=.type "list",data:=.seq its.toArray n }) (hf:f { cls:=.type "list",data:=.seq its.toArray n }={ cls:=.type "list",data:=.seq its'.toArray n' }) (r:Vals ys its') (hz:ys.length≤sizeLine) (t:Nat):
  Inv X pins σ (upd H p (.lst ys)) { s with heap:=s.heap.update p f,toks:=t }:=by
 have e:(s.heap.update p f).get? p=some { cls:=.type "list",data:=.seq its'.toArray n' }:=by
  rw [Heap.get?_update_self f ho (by rw [hf] <;> rfl),hf]
 refine I.write (x:=p) (e:=p) (by rw [h];trivial) (.inl rfl) (fun b u hb q=>(Heap.get?_update_other _ _ (Ne.symm hb)).trans q) ⟨_,e⟩ ?_
 exact ⟨hz,its',n',r,e⟩
def rSetL:V→V→V→Hp→(Hp→Prop)→Prop:=fun o i v H Q=>∃ p xs k j,o=.ref p∧i=.int k∧H p=some (.lst xs)∧ixN xs.length k=some j∧Q (upd H p (.lst (xs.set j v)))
theorem set_list:PSet X rSetL:=by
 intro pins s σ H o i v ov iv u Q I ro ri rv h
 obtain ⟨p,xs,k,j,rfl,rfl,hp,hj,q⟩:=h
 cases ro
 obtain ⟨t,rfl⟩:=ri
 obtain ⟨its,n,r,ho,hz⟩:=I.lst hp
 obtain ⟨h1,h2,h3,h4⟩:=ixN_seq hj
 have hl:=r.length
 have hn:=line63
 have I':Inv X pins σ (upd H p (.lst (xs.set j v))) { s with heap:=s.heap.update p (Obj.mapSeq (·.setIfInBounds j u)) }:=
  I.lstUpd hp ho (mapSeq_set its n j u) (r.set rv j) (by rw [List.length_set];exact hz) s.toks
 by_cases h0:0≤k
 · have hk:k.toNat=j:=by
     rw [seqIndex_of h0 h4] at h1
     exact Option.some.inj h1
   exact PySem.W.ki_setAt ho h0 (by omega) (by rw [List.size_toArray, ← hl];exact h4) (by rw [hk];exact ⟨_,I',q⟩)
 · have hk:(k+(its.toArray.size:Int)).toNat=j:=by
     rw [seqIndex_neg (by omega) h3] at h1
     rw [List.size_toArray, ← hl]
     exact Option.some.inj h1
   exact PySem.W.ki_setBack ho (by omega) (by rw [List.size_toArray, ← hl];exact h3) (by omega) (by rw [hk];exact ⟨_,I',q⟩)
theorem slice_bounds (lo hi:Option Int) (n:Nat):(sliceBounds lo hi none n).1=((HT.sIx n 0 lo:Nat):Int)∧(sliceBounds lo hi none n).2.1=((HT.sIx n n hi:Nat):Int)∧(sliceBounds lo hi none n).2.2=1:=by
 refine ⟨?_,?_,rfl⟩
 · cases lo with
   | none=>simp [sliceBounds,HT.sIx]
   | some i=>
    simp only [sliceBounds,HT.sIx,Option.getD_none,show (1:Int) > 0 by decide,if_true]
    by_cases h:i < 0
    · simp only [h,if_true] <;> omega
    · simp only [h,if_false] <;> omega
 · cases hi with
   | none=>simp [sliceBounds,HT.sIx]
   | some i=>
    simp only [sliceBounds,HT.sIx,Option.getD_none,show (1:Int) > 0 by decide,if_true]
    by_cases h:i < 0
    · simp only [h,if_true] <;> omega
    · simp only [h,if_false] <;> omega
theorem slicePick_cut (its:List Value) (lo hi:Option Int):slicePick its.toArray lo hi none=((its.drop (HT.sIx its.length 0 lo)).take (HT.sIx its.length its.length hi - HT.sIx its.length 0 lo)).toArray:=by
 obtain ⟨h1,h2,h3⟩:=slice_bounds lo hi its.toArray.size
 unfold slicePick
 rw [h1,h2,h3]
 simp only [sliceRange_one,pick_run,List.size_toArray] <;> rfl
def rSlL (K:PySem.W.Frag):V→Option Int→Option Int→Hp→VK→Prop:=fun x lo hi H Q=>∃ a xs,x=.ref a∧SqL K H a xs∧∀ p,H p=none→Q (.ref p) (upd H p (.lst (cutV xs lo hi)))
theorem sl_list:SlR X (rSlL X.K):=by
 intro pins s σ H x v vl vu lo hi sl Q I rx hs pl pu h
 obtain ⟨a,xs,rfl,hx,q⟩:=h
 cases rx
 obtain ⟨its,r,ht,hz⟩:=I.list hx
 have hlen:=r.length
 refine ⟨"list",_,slot_list_getitem.lookup,ht.isList.typeIs,?_⟩
 refine wpAny_getItem_list_slice ht.isList hs pl pu .none (by simp) ?_ (by rw [List.size_toArray] <;> omega)
 rw [slicePick_cut, ← hlen]
 refine ⟨.ref s.heap.objs.size,_,I.laid (t':=s.toks) (o:=.lst (cutV xs lo hi)) (fun b ob q=>Heap.get?_push_of_some _ q) (Nat.le_refl _) ?_,rfl,q _ (I.hok.fresh (Nat.le_refl _))⟩
 exact ⟨Nat.le_trans (cutV_length xs lo hi) hz,_,0,(r.drop (HT.sIx xs.length 0 lo)).take (HT.sIx xs.length xs.length hi - HT.sIx xs.length 0 lo),Heap.get?_push_size _ rfl⟩
def flatV:V→Bool
 | .non=>true
 | .bl _=>true
 | .int _=>true
 | .str _=>true
 | _=>false
def eqV:V→V→Bool
 | .non,.non=>true
 | .bl a,.bl b=>a == b
 | .bl a,.int b=>(if a then 1 else 0) == b
 | .int a,.bl b=>a == (if b then 1 else 0)
 | .int a,.int b=>a == b
 | .str a,.str b=>a == b
 | _,_=>false
theorem eqAt_V {A:Around}{s:Shared}{y x:V}{u v:Value} (ry:RelV y u) (rx:RelV x v) (fy:flatV y=true) (fx:flatV x=true):SeqAt.EqAt A s u v (eqV y x):=by
 cases y with
 | non=>
  cases ry
  cases x with
  | non=>cases rx;exact SeqAt.EqAt.same _
  | bl b=>cases rx;exact SeqAt.EqAt.none_bool b
  | int b=>obtain ⟨t,rfl⟩:=rx;exact SeqAt.EqAt.none_int b t
  | str b=>obtain ⟨t,rfl⟩:=rx;exact SeqAt.EqAt.none_str b t
  | _=>exact absurd (show false=true from fx) Bool.false_ne_true
 | bl a=>
  cases ry
  cases x with
  | non=>cases rx;exact SeqAt.EqAt.bool_none a
  | bl b=>cases rx;exact SeqAt.EqAt.bool_bool a b
  | int b=>obtain ⟨t,rfl⟩:=rx;exact SeqAt.EqAt.bool_int a b t
  | str b=>obtain ⟨t,rfl⟩:=rx;exact SeqAt.EqAt.bool_str a b t
  | _=>exact absurd (show false=true from fx) Bool.false_ne_true
 | int a=>
  obtain ⟨t',rfl⟩:=ry
  cases x with
  | non=>cases rx;exact SeqAt.EqAt.int_none a t'
  | bl b=>cases rx;exact SeqAt.EqAt.int_bool a t' b
  | int b=>obtain ⟨t,rfl⟩:=rx;exact SeqAt.EqAt.int_int a t' b t
  | str b=>obtain ⟨t,rfl⟩:=rx;exact SeqAt.EqAt.int_str a t' b t
  | _=>exact absurd (show false=true from fx) Bool.false_ne_true
 | str a=>
  obtain ⟨t',rfl⟩:=ry
  cases x with
  | non=>cases rx;exact SeqAt.EqAt.str_none a t'
  | bl b=>cases rx;exact SeqAt.EqAt.str_bool a t' b
  | int b=>obtain ⟨t,rfl⟩:=rx;exact SeqAt.EqAt.str_int a t' b t
  | str b=>obtain ⟨t,rfl⟩:=rx;exact SeqAt.EqAt.str_str a t' b t
  | _=>exact absurd (show false=true from fx) Bool.false_ne_true
 | _=>exact absurd (show false=true from fy) Bool.false_ne_true
def eqU (x:V) (u:Value):Bool:=match u with
 | .none=>eqV .non x
 | .bool b=>eqV (.bl b) x
 | .int i _=>eqV (.int i) x
 | .str z _=>eqV (.str z) x
 | _=>false
theorem eqU_of {x y:V}{u:Value} (r:RelV y u) (f:flatV y=true):eqU x u=eqV y x:=by
 cases y with
 | non=>cases r;rfl
 | bl b=>cases r;rfl
 | int i=>obtain ⟨t,rfl⟩:=r;rfl
 | str z=>obtain ⟨t,rfl⟩:=r;rfl
 | _=>exact absurd (show false=true from f) Bool.false_ne_true
theorem any_eqU {x:V}:∀ {xs:List V}{us:List Value},Vals xs us→xs.all flatV=true→us.any (eqU x)=xs.any fun y=>eqV y x
 | _,_,.nil,_=>rfl
 | y::xs,u::us,.cons r t,f=>by
  rw [List.all_cons,Bool.and_eq_true] at f
  rw [List.any_cons,List.any_cons,eqU_of r f.1,any_eqU t f.2]
theorem mem_eqAt {A:Around}{s:Shared}{x:V}{v:Value} (rx:RelV x v) (fx:flatV x=true):∀ {xs:List V}{us:List Value},Vals xs us→xs.all flatV=true→∀ u∈us,SeqAt.EqAt A s u v (eqU x u)
 | _,_,.nil,_=>fun u hu=>by cases hu
 | y::xs,u::us,.cons r t,f=>fun u' hu=>by
  rw [List.all_cons,Bool.and_eq_true] at f
  rcases List.mem_cons.mp hu with rfl | hu
  · rw [eqU_of r f.1];exact eqAt_V r rx f.1 fx
  · exact mem_eqAt rx fx t f.2 u' hu
def inV (x:V) (xs:List V):Bool:=xs.any fun y=>eqV y x
def rIn (K:PySem.W.Frag) (neg:Bool):R2:=fun x y H Q=>∃ p xs,y=.ref p∧(SqL K H p xs∨SqT K H p xs)∧flatV x=true∧xs.all flatV=true∧Q (.bl (if neg then !inV x xs else inV x xs)) H
theorem op_notIn_seq:OpR X (compareOp .NotIn) (rIn X.K true):=by
 intro pins s σ H x y v u Q I rx ry h
 obtain ⟨p,xs,rfl,hq,fx,fs,q⟩:=h
 cases ry
 rcases hq with hq | hq
 · obtain ⟨its,r,pl,hz⟩:=I.list hq
   refine SeqAt.notIn_listAt (eqU x) pl.isList (fun w hw=>mem_eqAt rx fx r fs w (by simpa using hw)) ⟨.bl _,H,I,rfl,?_⟩
   rw [show its.toArray.any (eqU x)=its.any (eqU x) by simp,any_eqU r fs]
   exact q
 · obtain ⟨its,r,pl,hz⟩:=I.tuple hq
   refine SeqAt.notIn_tupleAt (eqU x) pl (fun w hw=>mem_eqAt rx fx r fs w (by simpa using hw)) ⟨.bl _,H,I,rfl,?_⟩
   rw [show its.toArray.any (eqU x)=its.any (eqU x) by simp,any_eqU r fs]
   exact q
theorem call_len_seq:CallR X (.builtin "len") (fun xs H Q=>∃ p ys,xs=[.ref p]∧(SqL X.K H p ys∨SqT X.K H p ys)∧Q (.int ys.length) H):=by
 intro pins s σ H xs us Q I r h
 obtain ⟨p,ys,rfl,hq,q⟩:=h
 obtain ⟨u,rfl,rx⟩:=vals1 r
 cases rx
 have hn:=line63
 rcases hq with hq | hq
 · obtain ⟨its,r',pl,hz⟩:=I.list hq
   have hlen:=r'.length
   exact Calls.call_len_list pl.isList (by simp only [List.size_toArray] <;> omega) ⟨.int ys.length,H,I.tok _,⟨s.toks+1,by rw [List.size_toArray,hlen]⟩,q⟩
 · obtain ⟨its,r',pl,hz⟩:=I.tuple hq
   have hlen:=r'.length
   exact len_tuple pl (by simp only [List.size_toArray] <;> omega) ⟨.int ys.length,H,I.tok _,⟨s.toks+1,by rw [List.size_toArray,hlen]⟩,q⟩
theorem call_list_of:CallR X (.type "list") (fun xs H Q=>∃ p ys,xs=[.ref p]∧(SqL X.K H p ys∨SqT X.K H p ys)∧∀ l,H l=none→Q (.ref l) (upd H l (.lst ys))):=by
 intro pins s σ H xs us Q I r h
 obtain ⟨p,ys,rfl,hq,q⟩:=h
 obtain ⟨u,rfl,rx⟩:=vals1 r
 cases rx
 have fin:∀ (its:List Value),Vals ys its→ys.length≤sizeLine→∀ (h':Heap) (c':Nat),(∀ b o',s.heap.get? b=some o'→h'.get? b=some o')→
   h'.get? s.heap.objs.size=some { cls:=.type "list",dict:=none,data:=.seq its.toArray c',slots:= #[] }→EP X pins σ Q (.ref s.heap.objs.size) { s with heap:=h' }:=fun its r' hz h' c' kp e=>
  ⟨.ref s.heap.objs.size,_,I.laid (t':=s.toks) kp (Nat.le_refl _) (show ObjOk X.prog X.w _ h' _ (.lst ys) from ⟨hz,its,c',r',e⟩),rfl,q _ (I.hok.fresh (Nat.le_refl _))⟩
 rcases hq with hq | hq
 · obtain ⟨its,r',pl,hz⟩:=I.list hq
   have hlen:=r'.length
   obtain ⟨o,ho,hc,n,hd⟩:=pl.isList
   exact call_list_seq p (.inl rfl) ho hc hd (fun h' c' kp e=>fin its r' hz h' c' kp e) (by simp only [List.size_toArray] <;> omega)
 · obtain ⟨its,r',pl,hz⟩:=I.tuple hq
   have hlen:=r'.length
   obtain ⟨o,ho,hc,n,hd⟩:=pl
   exact call_list_seq p (.inr rfl) ho hc hd (fun h' c' kp e=>fin its r' hz h' c' kp e) (by simp only [List.size_toArray] <;> omega)
def tyV (K:PySem.W.Frag) (T:String) (x:V) (H:Hp):Prop:=match x with
 | .str _=>T="str"
 | .int _=>T="int"
 | .ref p=>(T="list"∧∃ xs,SqL K H p xs)∨(T="tuple"∧∃ o,K.lookup p=some o∧o.cls=.type "tuple"∧o.dict=none)∨
   (T="dict"∧((∃ kvs,H p=some (.dK kvs))∨∃ kvs,H p=some (.dT kvs)))∨(T="set"∧∃ S n,H p=some (.set S n))
 | _=>False
theorem tyV_is {pins:List (Addr × Obj)}{σ:St}{H:Hp}{s:Shared}{T:String}{x:V}{v:Value} (I:Inv X pins σ H s) (r:RelV x v) (ty:tyV X.K T x H):
  s.TypeIs v T∧∀ a,v=.ref a→∃ ob,s.heap.get? a=some ob∧ob.dict=none:=by
 cases x with
 | str z=>
  obtain ⟨t,rfl⟩:=r
  cases (show T="str" from ty)
  exact ⟨typeIs_str s z t,fun _ e=>nomatch e⟩
 | int i=>
  obtain ⟨t,rfl⟩:=r
  cases (show T="int" from ty)
  exact ⟨typeIs_int s i t,fun _ e=>nomatch e⟩
 | ref p=>
  cases r
  rcases ty with ⟨rfl,xs,hq⟩ | ⟨rfl,o,hk,hc,hd⟩ | ⟨rfl,hk⟩ | ⟨rfl,S,n,hk⟩
  · obtain ⟨its,_,pl,_⟩:=I.list hq
    refine ⟨pl.isList.typeIs,fun a e=>?_⟩
    cases e
    obtain ⟨o,n,e,c,hd,_⟩:=pl
    exact ⟨o,e,hd⟩
  · refine ⟨⟨o,I.kIn p o hk,hc⟩,fun a e=>?_⟩
    cases e
    exact ⟨o,I.kIn _ o hk,hd⟩
  · have z:∃ o,s.heap.get? p=some o∧o.ExactDict:=by
      rcases hk with ⟨kvs,hk⟩ | ⟨kvs,hk⟩
      · obtain ⟨_,_,_,_,o,_,_,e,ex,_⟩:=I.hok p _ hk
        exact ⟨o,e,ex⟩
      · obtain ⟨_,_,_,_,o,_,_,e,ex,_⟩:=I.hok p _ hk
        exact ⟨o,e,ex⟩
    obtain ⟨o,e,ex⟩:=z
    refine ⟨⟨o,e,ex.1⟩,fun a e2=>?_⟩
    cases e2
    exact ⟨o,e,ex.2.1⟩
  · obtain ⟨o,_,_,_,e,ex,_⟩:=I.hok p _ hk
    refine ⟨⟨o,e,ex.1⟩,fun a e2=>?_⟩
    cases e2
    exact ⟨o,e,ex.2.1⟩
 | _=>exact False.elim ty
def tBM0 (K:PySem.W.Frag) (T:String) (r:V→List V→Hp→VK→Prop) (to:TE):TE:=fun σ H Q=>to σ H fun x H1=>tyV K T x H1∧r x [] H1 Q
def tBM (K:PySem.W.Frag) (T:String) (r:V→List V→Hp→VK→Prop) (to:TE) (t:TA):TE:=fun σ H Q=>to σ H fun x H1=>tyV K T x H1∧t σ H1 fun xs H2=>r x xs H2 Q
variable {o e:Expr}{es:List Expr}{to:TE}{t:TA}{name:Str}{apos cpos:Pos}{T id:String}{r:V→List V→Hp→VK→Prop}
theorem pe_bm0 (pa:PlainAttrs T) (slot:Slot T name id) (hty:typeOf (.builtin id)=pure (.type "method_descriptor")) (hm:MtR X id r) (ho:PE X o to)
  (hbase:attributeBase o name X.env (eval o X.env)=eval o X.env:=by rfl) (hline:(apos.endLine == cpos.line)=true:=by rfl):PE X (.Call (.Attribute o name apos) [] [] cpos) (tBM0 X.K T r to):=by
 intro pins s σ H Q I h
 refine wpAny_Call_method0_late hbase hline (thn (ho pins s σ H _ I h) fun v s1 ⟨x,H1,I1,r1,ty,q1⟩=>?_)
 obtain ⟨h1,h2⟩:=tyV_is I1 r1 ty
 exact ⟨T,id,pa,slot,hty,h1,h2,Calls.callWith_builtin rfl (PySem.evalArgs_none (hm pins s1 σ H1 x [] v [] Q I1 r1 .nil q1))⟩
theorem pe_bm (pa:PlainAttrs T) (slot:Slot T name id) (hty:typeOf (.builtin id)=pure (.type "method_descriptor")) (hm:MtR X id r) (ho:PE X o to) (ha:PA X (e::es) t)
  (hbase:attributeBase o name X.env (eval o X.env)=eval o X.env:=by rfl)
  (hfew:((backTo cpos (starEach (e::es) X.env)).all (fun x=> !x.1) && (backToKw cpos (keywordEach [] X.env)).all (fun x=>x.1.isSome)
   && decide ((e::es).length+([]:List Keyword).length+(if ([]:List Keyword).isEmpty then 0 else 1) < 30))=true:=by rfl)
  (hline:(apos.endLine == cpos.line)=true:=by rfl) (hs:starEach (e::es) X.env=(false,eval e X.env)::starEach es X.env:=by rfl) (hplain:(backTo cpos (starEach es X.env)).any (·.1)=false:=by rfl):
  PE X (.Call (.Attribute o name apos) (e::es) [] cpos) (tBM X.K T r to t):=by
 intro pins s σ H Q I h
 refine wpAny_Call_method_late hbase hfew hline rfl (thn (ho pins s σ H _ I h) fun v s1 ⟨x,H1,I1,r1,ty,q1⟩=>?_)
 obtain ⟨h1,h2⟩:=tyV_is I1 r1 ty
 refine ⟨T,id,pa,slot,hty,h1,h2,?_⟩
 have hA:=ha cpos pins s1 σ H1 _ I1 q1
 rw [hs] at hA ⊢
 refine Calls.callWith_builtin (by show (false || (backTo cpos (starEach es X.env)).any (·.1))=false;rw [hplain] <;> rfl) (Calls.evalArgs_plain ?_)
 exact thn hA fun us s2 ⟨vs,H2,I2,r2,q2⟩=>hm pins s2 σ H2 x vs v us Q I2 r1 r2 q2
end
def MtM (X:Cx) (id:String) (r:V→List V→Hp→VK→Prop):Prop:=
 ∀ (pins:List (Addr × Obj)) (s:Shared) (σ:St) (H:Hp) (x:V) (xs:List V) (v:Value) (us:List Value) (Q:VK),Inv X pins σ H s→RelV x v→Vals xs us→r x xs H Q→
  wpAny (model X.prog X.w) X.A (call (.builtin id) (v::us)) (EP X pins σ Q) X.xe s
theorem Vals.one:∀ {x:V}{us:List Value},Vals [x] us→∃ u,us=[u]∧RelV x u
 | _,_,.cons r .nil=>⟨_,rfl,r⟩
theorem Vals.zero:∀ {us:List Value},Vals [] us→us=[]
 | _,.nil=>rfl
theorem Vals.dropLast {xs:List V}{us:List Value} (h:Vals xs us):Vals xs.dropLast us.dropLast:=by
 induction h with
 | nil=>exact .nil
 | cons r t ih=>
  cases t with
  | nil=>exact .nil
  | cons q t'=>exact .cons r ih
theorem Vals.eraseIdx:∀ {xs:List V}{us:List Value} (i:Nat),Vals xs us→Vals (xs.eraseIdx i) (us.eraseIdx i)
 | _,_,_,.nil=>.nil
 | _,_,0,.cons _ t=>t
 | _,_,i+1,.cons r t=>.cons r (Vals.eraseIdx i t)
theorem Vals.rep {xs:List V}{us:List Value} (h:Vals xs us):∀ k:Nat,Vals (List.replicate k xs).flatten (List.replicate k us).flatten
 | 0=>.nil
 | k+1=>by
  rw [List.replicate_succ,List.replicate_succ,List.flatten_cons,List.flatten_cons]
  exact Vals.append h (Vals.rep h k)
theorem erase_last {α:Type} (l:List α):l.eraseIdx (l.length - 1)=l.dropLast:=by
 induction l with
 | nil=>rfl
 | cons a r ih=>
  cases r with
  | nil=>rfl
  | cons b r=>
   have e:(a::b::r).length - 1=((b::r).length - 1)+1:=by
    have h1:(a::b::r).length=r.length+2:=rfl
    have h2:(b::r).length=r.length+1:=rfl
    omega
   rw [e,List.eraseIdx_cons_succ,ih]
   all_goals rfl
theorem len_erase {α:Type}:∀ (l:List α) (i:Nat),(l.eraseIdx i).length≤l.length
 | [],_=>Nat.le_refl _
 | _::_,0=>Nat.le_succ _
 | _::r,i+1=>Nat.succ_le_succ (len_erase r i)
theorem foldl_rep (its:List Value):∀ (k:Nat) (acc:List Value),
  List.foldl (fun x1 x2=>x1++x2) acc.toArray (List.replicate k its.toArray)=(acc++(List.replicate k its).flatten).toArray
 | 0,acc=>by simp
 | k+1,acc=>by
  have e:acc.toArray++its.toArray=(acc++its).toArray:=by simp
  have e2:(acc++its)++(List.replicate k its).flatten=acc++(List.replicate (k+1) its).flatten:=by
   rw [List.replicate_succ,List.flatten_cons,List.append_assoc]
  rw [← e2, ← foldl_rep its k (acc++its), ← e,List.replicate_succ,List.foldl_cons]
section
variable {X:Cx}{pins:List (Addr × Obj)}{σ:St}{H:Hp}{s:Shared}{l b:Addr}{xs ys zs:List V}
theorem Inv.lset {its its':List Value}{n:Nat}{f:Array Value→Array Value}{t':Nat} (I:Inv X pins σ H s) (hH:H l=some (.lst xs))
  (e:s.heap.get? l=some { cls:=.type "list",data:=.seq its.toArray n }) (hf:f its.toArray=its'.toArray) (hv:Vals ys its') (hz:ys.length≤sizeLine):
  Inv X pins σ (upd H l (.lst ys)) { s with heap:=s.heap.update l (Obj.mapSeq f),toks:=t' }:=by
 have q:=PySem.IsL.update e f
 rw [hf] at q
 refine I.write (x:=l) (e:=l) (by rw [hH];exact trivial) (.inl rfl) (fun b' u hb hu=>(Heap.get?_update_other s.heap (Obj.mapSeq f) (Ne.symm hb)).trans hu) ⟨_,q⟩ ?_
 exact ⟨hz,its',_,hv,q⟩
theorem Inv.lnew {its:List Value}{t':Nat} (I:Inv X pins σ H s) (hv:Vals ys its) (hz:ys.length≤sizeLine):
  Inv X pins σ (upd H s.heap.objs.size (.lst ys)) { s with heap:=s.heap.push { cls:=.type "list",data:=.seq its.toArray },toks:=t' }:=
 I.laid (fun _ _ q=>Heap.get?_push_of_some _ q) (Nat.le_refl _) ⟨hz,its,0,hv,Heap.get?_push_size _ rfl⟩
theorem Inv.fresh (I:Inv X pins σ H s):H s.heap.objs.size=none:=I.hok.fresh (Nat.le_refl _)
theorem Inv.lstM (I:Inv X pins σ H s) (hH:H l=some (.lst xs)):xs.length≤sizeLine∧∃ (its:List Value) (n:Nat),Vals xs its∧xs.length=its.length∧s.heap.get? l=some { cls:=.type "list",data:=.seq its.toArray n }:=by
 obtain ⟨z,its,n,r,e⟩:=I.hok l _ hH
 exact ⟨z,its,n,r,r.length,e⟩
theorem notLongL {n:Nat} (h:n≤sizeLine):Builtin.List.listTooLong n=false:=by
 unfold Builtin.List.listTooLong
 exact decide_eq_false (by omega)
end
section
variable {X:Cx}
def rAppend:V→List V→Hp→VK→Prop:=fun x vs H Q=>∃ l xs y,x=.ref l∧vs=[y]∧H l=some (.lst xs)∧xs.length < sizeLine∧Q .non (upd H l (.lst (xs++[y])))
theorem mt_append:MtM X "list.append" rAppend:=by
 intro pins s σ H x vs v us Q I rx rv h
 obtain ⟨l,xs,y,rfl,rfl,hH,hz,q⟩:=h
 cases rx
 obtain ⟨u,rfl,ru⟩:=rv.one
 obtain ⟨z,its,n,r,hl,e⟩:=I.lstM hH
 refine call_meets F.slot_list_append ⟨_,e,rfl⟩ F.entry_list_append (F.args_list_append_2 _ _) (PySem.list_append l its.toArray n u (by rw [List.size_toArray];omega)) ⟨e,?_⟩
 refine ⟨.non,_,I.lset (its':=its++[u]) hH e (by simp) (r.append (.cons ru .nil)) ?_,rfl,q⟩
 rw [List.length_append,List.length_singleton]
 omega
def rPop:V→List V→Hp→VK→Prop:=fun x vs H Q=>∃ l xs y,x=.ref l∧vs=[]∧H l=some (.lst xs)∧xs[xs.length - 1]?=some y∧Q y (upd H l (.lst xs.dropLast))
theorem mt_pop:MtM X "list.pop" rPop:=by
 intro pins s σ H x vs v us Q I rx rv h
 obtain ⟨l,xs,y,rfl,rfl,hH,hy,q⟩:=h
 cases rx
 have hus:=rv.zero
 subst hus
 obtain ⟨z,its,n,r,hl,e⟩:=I.lstM hH
 obtain ⟨u,hu,ru⟩:=r.get hy
 have hy':its.toArray[its.toArray.size - 1]?=some u:=by
  show its.toArray[its.length - 1]?=some u
  rw [← Array.getElem?_toList, ← hl]
  exact hu
 refine call_meets F.slot_list_pop ⟨_,e,rfl⟩ F.entry_list_pop (F.args_list_pop_1 _) (MeetsSeq.list_pop_last l its.toArray n u hy' (by rw [List.size_toArray];omega)) ⟨e,?_⟩
 refine ⟨y,_,I.lset (its':=its.dropLast) hH e ?_ r.dropLast ?_,ru,q⟩
 · show its.toArray.eraseIdxIfInBounds (its.toArray.size - 1)=its.dropLast.toArray
   rw [List.size_toArray,List.eraseIdxIfInBounds_toArray,erase_last]
 · rw [List.length_dropLast]
   omega
def rPopAt:V→List V→Hp→VK→Prop:=fun x vs H Q=>∃ l xs i k y,x=.ref l∧vs=[.int i]∧H l=some (.lst xs)∧ -(2 ^ 63)≤i∧i < 2 ^ 63∧seqIndex? i xs.length=some k∧xs[k]?=some y∧Q y (upd H l (.lst (xs.eraseIdx k)))
theorem mt_popAt:MtM X "list.pop" rPopAt:=by
 intro pins s σ H x vs v us Q I rx rv h
 obtain ⟨l,xs,i,k,y,rfl,rfl,hH,h1,h2,hk,hy,q⟩:=h
 cases rx
 obtain ⟨u,rfl,ru⟩:=rv.one
 obtain ⟨t,rfl⟩:=ru
 obtain ⟨z,its,n,r,hl,e⟩:=I.lstM hH
 obtain ⟨w,hw,rw'⟩:=r.get hy
 refine call_meets F.slot_list_pop ⟨_,e,rfl⟩ F.entry_list_pop (F.args_list_pop_2 _ _)
  (MeetsSeq.list_pop_at l its.toArray n i t k w (fitsIndex_both h1 h2) (by rw [List.size_toArray, ← hl];exact hk) (by rw [← Array.getElem?_toList];exact hw) (by rw [List.size_toArray];omega)) ⟨e,?_⟩
 refine ⟨y,_,I.lset (its':=its.eraseIdx k) hH e ?_ (r.eraseIdx k) ?_,rw',q⟩
 · show its.toArray.eraseIdxIfInBounds k=(its.eraseIdx k).toArray
   rw [List.eraseIdxIfInBounds_toArray]
 · have:=len_erase xs k
   omega
def rCat:R2:=fun x y H Q=>∃ l b xs zs,x=.ref l∧y=.ref b∧H l=some (.lst xs)∧H b=some (.lst zs)∧xs.length+zs.length≤sizeLine∧∀ p,H p=none→Q (.ref p) (upd H p (.lst (xs++zs)))
theorem op_cat:OpR X (binaryOp .Add) rCat:=by
 intro pins s σ H x y v u Q I rx ry h
 obtain ⟨l,b,xs,zs,rfl,rfl,hH,hB,hz,q⟩:=h
 cases rx
 cases ry
 obtain ⟨z,its,n,r,hl,e⟩:=I.lstM hH
 obtain ⟨z2,its2,n2,r2,hl2,e2⟩:=I.lstM hB
 refine PySem.P.add_list e e2 ?_ (by rw [List.size_toArray,List.size_toArray];omega)
 have ea:its.toArray++its2.toArray=(its++its2).toArray:=by simp
 rw [ea]
 exact ⟨.ref _,_,I.lnew (t':=s.toks) (r.append r2) (by rw [List.length_append];omega),rfl,q _ I.fresh⟩
def rRep:R2:=fun x y H Q=>∃ l k xs,x=.ref l∧y=.int k∧H l=some (.lst xs)∧ -(2 ^ 63)≤k∧k < 2 ^ 63∧xs.length * k.toNat≤sizeLine∧
 ∀ p,H p=none→Q (.ref p) (upd H p (.lst (List.replicate k.toNat xs).flatten))
theorem len_rep {α:Type} (xs:List α) (k:Nat):(List.replicate k xs).flatten.length=k * xs.length:=by
 induction k with
 | zero=>simp
 | succ k ih=>rw [List.replicate_succ,List.flatten_cons,List.length_append,ih,Nat.succ_mul,Nat.add_comm]
theorem op_rep:OpR X (binaryOp .Mult) rRep:=by
 intro pins s σ H x y v u Q I rx ry h
 obtain ⟨l,k,xs,rfl,rfl,hH,h1,h2,hz,q⟩:=h
 cases rx
 obtain ⟨t,rfl⟩:=ry
 obtain ⟨z,its,n,r,hl,e⟩:=I.lstM hH
 have hlen:its.toArray.size * k.toNat≤sizeLine:=by rw [List.size_toArray, ← hl];exact hz
 have hcap:¬ its.toArray.size * k.toNat > (2 ^ 63 - 1) / 8:=by
  have:(sizeLine:Nat)≤(2 ^ 63 - 1) / 8:=by decide
  omega
 have hfit:¬ (!Builtin.List.listFitsIndex k)=true:=by
  rw [fitsIndex_both h1 h2]
  exact Bool.false_ne_true
 have hlong:¬ Builtin.List.listTooLong (its.toArray.size * k.toNat)=true:=by
  rw [notLongL hlen]
  exact Bool.false_ne_true
 have hnew:List.foldl (fun x1 x2=>x1++x2) #[] (List.replicate (if its.toArray.isEmpty=true then 0 else k.toNat) its.toArray)=(List.replicate k.toNat its).flatten.toArray:=by
  have f0:∀ m:Nat,List.foldl (fun x1 x2=>x1++x2) #[] (List.replicate m its.toArray)=(List.replicate m its).flatten.toArray:=fun m=>by
   have:=foldl_rep its m []
   rw [List.nil_append] at this
   exact this
  rw [f0]
  cases its with
  | nil=>simp
  | cons a r'=>rw [if_neg (by simp)]
 refine wpAny_binaryOp_repeat_ref (T:="list") (U:="int") (by decide) ⟨_,e,rfl⟩ (fun s'=>typeIs_int s' k t) noFill_list_mul F.fills_int_mul F.slot_int_rmul repeat_list F.slot_int_index.lookup
  (call_meets F.slot_int_rmul (typeIs_int s k t) F.entry_int_rmul (F.args_int_rmul_2 _ _) (int___rmul___int_list k t l its.toArray n)
   ⟨e,rfl,⟨_,e,rfl⟩,call_meets F.slot_list_mul ⟨_,e,rfl⟩ F.entry_list_mul (F.args_list_mul_2 _ _) (AutoListH.list___mul___list_int_3 l its.toArray n k t hfit hcap hlong) ⟨e,?_⟩⟩)
 rw [hnew]
 exact ⟨.ref _,_,I.lnew (t':=s.toks) (r.rep k.toNat) (by rw [len_rep,Nat.mul_comm];exact hz),rfl,q _ I.fresh⟩
end
section
variable {prog:Program}{w:World}{A:Around}{E:Value→Shared→Prop}{s:Shared}
end
section
variable {X:Cx}
end
end L2
namespace Att
open PySem PySem.W PySem.Calls PyProof.Rows
theorem ints_of_wellAll {P:Params}{h:Heap}:∀ (ns:List Int) (vs:List Value),WellAll P h vs (ns.map WData.int)→IntsAre vs ns:=by
 intro ns
 induction ns with
 | nil=>
  intro vs w
  rw [List.map_nil] at w
  cases w
  exact .nil
 | cons n ns ih=>
  intro vs w
  rw [List.map_cons] at w
  cases w with
  | cons a b=>
   cases a
   exact .cons _ _ (ih _ b)
theorem script_of {l:OpenLaw}{n:Nat} (hn:l.most=some n) {P:Params}{h:Heap}{args:List WData}{vals:List Value}
  (hpre:l.row.toRowW.claim.pre args=true) (hwl:WellAll P h vals args):
  ∃ a vs ns,vals=[Value.ref a]∧args=[WData.list (ns.map WData.int)]∧h.get? a=some { cls:=.type "list",data:=.seq vs.toArray }∧IntsAre vs ns∧ns.length≤n:=by
 have hsh:WShape.hasAll [] args [.list .int]=true:=(pre_splitW hpre).1
 have hc:l.pre.holds [] { args:=args }=true:=(pre_splitW hpre).2
 obtain ⟨d,r,rfl,h1,h2⟩:=hasAllW_cons hsh
 obtain rfl:=hasAllW_nil h2
 obtain ⟨xs,rfl,h3⟩:=hasW_list h1
 obtain ⟨ns,rfl⟩:=items_int h3
 have hlen:ns.length≤n:=by
  unfold OpenLaw.pre at hc
  have h4:(WTm.not (.lt (.lit (.int (n:Int))) (.len (.arg 0)))).holds [] { args:=[.list (ns.map .int)] }=true:=by
   have h4:=(holds_andW hc).1
   rw [hn] at h4
   exact h4
  have h5:=condW_of h4 (w_not (w_lt w_lit (w_len_list (w_arg rfl))))
  rw [List.length_map] at h5
  refine Nat.le_of_not_lt fun q=>?_
  have q':(n:Int) < ((ns.length:Nat):Int):=by omega
  first
   | (rw [decide_eq_true q'] at h5;exact absurd h5 (by decide))
   | (simp at h5;omega)
 cases hwl with
 | cons w1 w2=>
  cases w2
  cases w1 with
  | list ho hall=>exact ⟨_,_,ns,rfl,rfl,ho,ints_of_wellAll ns _ hall,hlen⟩
theorem post_true (l:OpenLaw) (args:List WData):l.row.toRowW.claim.post args (.bool true) args=true:=
 postW_of (r:=l.row.toRowW) (X:=(true == true))
  (show WShape.has [] (.bool true) .bool=true by first | rfl | decide | simp [WShape.has,WShape.arms,WShape.armsAll])
  (show (WTm.eq .res (.lit (.bool true))).value [] { args:=args,res:=some (.bool true),after:=args }=some (.bool (true == true)) from w_eq_bool (w_res rfl) w_lit) rfl
theorem attach_call {l:OpenLaw}{n:Nat}{q:Program}{loose:List Str}{XP:(Str→Option Value)→Heap→Prop}{YP:World→Heap→Prop}{d:DefRec}
  (hn:l.most=some n) (hdf:d.params.defaults=[])
  (call:∀ (w:World) (s₀ s₁:Shared) (mg mb:Str→Option Value) (fa:Addr) (o:Obj) (pm cd doc:Value) (a:Addr) (vs:List Value) (ns:List Int),
   Ground q loose [] XP w s₀ mg mb s₁.heap→YP w s₁.heap→
   s₁.heap.get? fa=some o→o.data=.func (docDef d.name d.params d.body d.scope pm cd doc)→s₁.heap.CodeRec cd d.name→mg d.name=some (.ref fa)→
   s₁.heap.get? a=some { cls:=.type "list",data:=.seq vs.toArray }→IntsAre vs ns→ns.length≤n→s₁.gens= #[]→
   codeAny (model l.prog w) callerA (.call (.ref fa) ⟨[.ref a],[]⟩) (fun r s'=>r=.ok (.ret (.bool true))∧OldK s₁.heap s'.heap∧s'.os=s₁.os∧AllBare s'.gens) s₁):
  WalkO q loose XP YP l.row.toRowW d [] (fun f vs=>PySem.call f vs):=by
 intro w s₀ s₁ mg mb G Y fa o pm cd doc dV kV ho hd hcd hD hmg hg args vals as hpre hlay hrd hwl hlo
 obtain rfl:dV=.none:=Dflts.none hD hdf
 obtain rfl:kV=.none:=Dflts.noKw hD
 obtain ⟨a,vs,ns,rfl,rfl,hobj,hints,hlen⟩:=script_of hn hpre hwl
 refine enter_call (codeAny_mono (call w s₀ s₁ mg mb fa o pm cd doc a vs ns G Y ho (fd_plain hd) hcd hmg hobj hints hlen hg) fun r s' hq=>?_)
 obtain ⟨rfl,h2,h3,h4⟩:=hq
 exact ⟨.inl ⟨.bool true,.bool true,[],rfl,fun _=>rfl,.bool true,post_true l _,fun _=>⟨List.Pairwise.nil,fun _ hm=>(nomatch hm)⟩⟩,h2,h3,h4⟩
section
variable {prog:Program}{w:World}{A:Around}{E:Value→Shared→Prop}{s:Shared}{K:Frag}
end
end Att
namespace L2
open PySem PySem.Spec PyProof.Rows
theorem vals_ints:∀ {vs:List Value}{ns:List Int},IntsAre vs ns→Vals (ns.map V.int) vs
 | _,_,.nil=>.nil
 | _,_,.cons n t h=>.cons ⟨t,rfl⟩ (vals_ints h)
def Only (H:Hp):Prop:=∀ b,H b=none∨∃ o xs,H b=some (.frz o (.lst xs))
theorem law_call {P:Program}{w:World}{K:PySem.W.Frag}{mg mb:Str→Option Value}{CX:CXT}{k:Nat}{fa a:Addr}{fd:FuncData}{x:Str}{sp:Sp}{s₁:Shared}{vs:List Value}{ns:List Int}
  (KX:K.In s₁.heap) (hns:s₁.heap.Ns mainGlobals mg) (hb:s₁.heap.Ns builtinsNs mb) (hbb:∀ x:Str,x≠"__name__"→mb x=bootBuiltins x) (hlim:s₁.heap.NoLimit) (hg:s₁.gens= #[])
  (ha:s₁.heap.get? a=some { cls:=.type "list",data:=.seq vs.toArray }) (hi:IntsAre vs ns) (hl:ns.length≤sizeLine) (hr:Room k callerA)
  (F:∀ base:Heap,K.In base→base.Ns mainGlobals mg→FnOk P w K mg base CX k fa fd [x] sp) (hbind:∀ (s:Shared) (u:Value),BindsTo s fd ⟨[u],[]⟩ [(x,u)])
  (hsp:∀ H:Hp,Only H→SqL K H a (ns.map V.int)→sp [.ref a] H (fun v _=>v=.bl true) fun _ _ _=>False)
  (hCX:∀ H e s',CX [] H s₁ (fun _ _ _=>False) e s'→False):
  codeAny (model P w) callerA (.call (.ref fa) ⟨[.ref a],[]⟩) (fun r s'=>r=.ok (.ret (.bool true))∧OldK s₁.heap s'.heap∧s'.os=s₁.os∧AllBare s'.gens) s₁:=by
 have rv:=vals_ints hi
 have lenV:=hi.length
 have core:∀ H:Hp,Only H→SqL K H a (ns.map V.int)→HOk P w H s₁.heap→(∀ b,H b≠none→b=a)→(H a≠none→K.lookup a=none)→
   codeAny (model P w) callerA (.call (.ref fa) ⟨[.ref a],[]⟩) (fun r s'=>r=.ok (.ret (.bool true))∧OldK s₁.heap s'.heap∧s'.os=s₁.os∧AllBare s'.gens) s₁:=by
  intro H hO hS hok hA hK
  have base_of:∀ {b:Addr}{o:Obj},s₁.heap.get? b=some o→H b=none→(hidT s₁.heap H).get? b=some o:=fun e n=>hidT_get e n
  have noA:∀ {b:Addr}{o:Obj}{es:Array DictEntry}{ep:Nat},s₁.heap.get? b=some o→o.data=.dict es ep→H b=none:=fun {b o es ep} e d=>by
   cases q:H b with
   | none=>rfl
   | some u=>
    have e':b=a:=hA b (by rw [q];simp)
    subst e'
    rw [ha] at e;cases e
    have d':Data.seq vs.toArray _=Data.dict es ep:=d
    cases d'
  have nsK:∀ {b:Addr}{m:Str→Option Value},s₁.heap.Ns b m→(hidT s₁.heap H).Ns b m:=fun {b m} ⟨o,es,ep,e,d,r⟩=>⟨o,es,ep,base_of e (noA e d),d,r⟩
  have hKb:K.In (hidT s₁.heap H):=fun b o e=>base_of (KX b o e) (by
   cases q:H b with
   | none=>rfl
   | some u=>
    have e':b=a:=hA b (by rw [q];simp)
    subst e'
    rw [hK (by rw [q];simp)] at e;cases e)
  have hM:Mod K mg (hidT s₁.heap H):=⟨hKb,nsK hns,⟨mb,nsK hb,hbb⟩,let ⟨mc,h1,h2⟩:=hlim;⟨mc,nsK h1,h2⟩⟩
  have e0:Env0 P w K mg (hidT s₁.heap H) callerA [] s₁ H:=⟨rfl,hM,fun b o e=>of_hidT e,Nat.le_of_eq (hidT_size _ _),trivial,fun b hb=>absurd (show b∈([]:List Addr) from hb) (by simp),hok,.of_eq hg⟩
  refine codeAny_mono ((F _ hKb (nsK hns)).run callerA [] s₁ H ⟨[.ref a],[]⟩ [.ref a] [.ref a] _ _ hr e0 (hbind s₁ (.ref a)) (.cons rfl .nil) (hsp H hO hS)) fun r s' h=>?_
  cases r with
  | error e=>exact (hCX H e s' h).elim
  | ok fl=>
   cases fl with
   | next=>exact False.elim h
   | brk=>exact False.elim h
   | cont=>exact False.elim h
   | ret u=>
    obtain ⟨v,H',os,bare,un,hok',r',q⟩:=h
    have q':v=.bl true:=q
    subst q'
    obtain rfl:u=Value.bool true:=r'
    refine ⟨rfl,OldK.of_keep fun b o e=>?_,os,bare⟩
    cases q:H b with
    | none=>exact un.keep b o e q (by intro z;exact absurd (show b∈([]:List Addr) from z) (by simp)) (by simp)
    | some u=>
     rcases hO b with z | ⟨ob,xs,z⟩
     · rw [q] at z;cases z
     · have z2:=un.frzs b ob _ z
       obtain ⟨e1,_⟩:=hok b _ z
       obtain ⟨e2,_⟩:=hok' b _ z2
       rw [e] at e1;cases e1
       exact e2
 cases hk:K.lookup a with
 | some o=>
  have e:=KX a o hk
  rw [ha] at e
  cases e
  refine core (fun _=>none) (fun _=>.inl rfl) (.inr ⟨_,vs.toArray,_,hk,rfl,rfl,rfl,by rw [List.size_toArray,lenV];exact hl,by simpa using rv⟩) (fun b u z=>by have z':(none:Option HO)=some u:=z;cases z') (fun b z=>absurd rfl z) fun z=>absurd rfl z
 | none=>
  refine core (fun b=>if b=a then some (.frz { cls:=.type "list",data:=.seq vs.toArray } (.lst (ns.map V.int))) else none) (fun b=>?_) (.inl (.inr ⟨{ cls:=.type "list",data:=.seq vs.toArray },if_pos rfl⟩)) (fun b u z=>?_) (fun b z=>?_) fun _=>hk
  · by_cases hb:b=a
    · exact .inr ⟨_,_,if_pos hb⟩
    · exact .inl (if_neg hb)
  · by_cases hb:b=a
    · have z':=(if_pos hb).symm.trans z
      cases z'
      subst hb
      exact ⟨ha,by rw [List.length_map];exact hl,vs,_,rv,ha⟩
    · have z':=(if_neg hb).symm.trans z
      cases z'
  · by_cases hb:b=a
    · exact hb
    · exact absurd (if_neg hb) z
theorem walk_of {l:PySem.W.OpenLaw}{n k:Nat}{q:Program}{loose:List Str}{XP:(Str→Option Value)→Heap→Prop}{YP:World→Heap→Prop}{d:DefRec}{K:Params→PySem.W.Frag}{CX:World→CXT}{sp:World→Sp}{x:Str}
  (hn:l.most=some n) (hn2:n≤sizeLine) (hdf:d.params.defaults=[]) (hr:Room k callerA)
  (hY:∀ (w:World) (h:Heap),YP w h→(K w.params).In h)
  (F:∀ (w:World) (mg:Str→Option Value) (fa:Addr) (h:Heap),(K w.params).In h→h.Ns mainGlobals mg→mg d.name=some (.ref fa)→
   ∃ fd:FuncData,(∀ (s:Shared) (u:Value),BindsTo s fd ⟨[u],[]⟩ [(x,u)])∧
    ∀ base:Heap,(K w.params).In base→base.Ns mainGlobals mg→FnOk l.prog w (K w.params) mg base (CX w) k fa fd [x] (sp w))
  (hsp:∀ (w:World) (H:Hp) (a:Addr) (ns:List Int),ns.length≤n→Only H→SqL (K w.params) H a (ns.map V.int)→sp w [.ref a] H (fun v _=>v=.bl true) fun _ _ _=>False)
  (hCX:∀ (w:World) (H:Hp) (s:Shared) (e:Value) (s':Shared),CX w [] H s (fun _ _ _=>False) e s'→False):
  PySem.W.WalkO q loose XP YP l.row.toRowW d [] (fun f vs=>PySem.call f vs):=by
 refine Att.attach_call hn hdf fun w s₀ s₁ mg mb fa o pm cd doc a vs ns G Y ho hd hcd hmg hobj hints hlen hg=>?_
 have KX:=hY w _ Y
 obtain ⟨fd,hb,hF⟩:=F w mg fa _ KX G.T.g hmg
 exact law_call KX G.T.g G.T.b G.T.builtins G.T.nolimit hg hobj hints (Nat.le_trans hlen hn2) hr hF hb (fun H hO hS=>hsp w H a ns hlen hO hS) fun H e s'=>hCX w H s₁ e s'
def inClass (s:Stmt) (j:Nat):Stmt:=match s with
 | .ClassDef _ _ _ body _ _ _ _ _ _ _=>body.getD j (.Pass ⟨0,0,0,0⟩)
 | _=>.Pass ⟨0,0,0,0⟩
def defArgs (s:Stmt):Arguments:=match s with
 | .FunctionDef _ a _ _ _ _ _ _ _ _=>a
 | _=>{ posonlyargs:=[],args:=[],vararg:=none,kwonlyargs:=[],kw_defaults:=[],kwarg:=none,defaults:=[] }
def defBody (s:Stmt):List Stmt:=match s with
 | .FunctionDef _ _ b _ _ _ _ _ _ _=>b
 | _=>[]
def defScope (s:Stmt):Scope:=match s with
 | .FunctionDef _ _ _ _ _ _ sc _ _ _=>sc
 | _=>{ kind:=.function,names:=[],isGenerator:=false,isCoroutine:=false }
abbrev CX0:CXT:=fun _ _ _ _ _ _=>False
abbrev E0:XK:=fun _ _ _=>False
theorem pass0 {X:Cx}:Passes CX0 X E0:=fun _ _ _ _ _ _ _ h=>h.elim
structure Fun (K:PySem.W.Frag) (x qual:Str) (st:Stmt) (f:Addr) (fd:FuncData):Prop where
 ex:∃ (oc:Value) (od:Option Addr) (kV doc pm:Value) (an:Option Addr) (cdv ct:Value) (osl:Array (Option Value)),
  fd=PySem.W.fnOf x qual (defArgs st) (defBody st) (defScope st) .none kV doc pm an cdv ct∧K.lookup f=some ⟨oc,od,.func fd,osl⟩∧PySem.W.codeIn K cdv qual=true
 kp:PySem.W.keepIn K (.ref f)=true
section
variable {P:Program}{w:World}{K:PySem.W.Frag}{mg:Str→Option Value}{base:Heap}
theorem Fun.ok {x qual:Str}{st:Stmt}{f:Addr}{fd:FuncData}{N ps:List Str}{k:Nat}{sp:Sp} (F:Fun K x qual st f fd) (S:FnScope N ps (defScope st)) (len:∀ vs H Q E,sp vs H Q E→vs.length=ps.length)
  (hbody:∀ (cdv:Value) (A:Around) (outer:List Env) (s:Shared) (H:Hp) (vs:List V) (Q:VK) (E:XK),Room k (A.deeper (envOfC qual (defScope st) s.heap.objs.size f cdv))→sp vs H Q E→
   ∃ t,PSs (cxOf CX0 P w K mg base N qual (defScope st) f cdv A outer s H E).nox (defBody st) t∧t { nx:=fun _ H'=>Q .non H',rt:=Q } (start N vs) H):FnOk P w K mg base CX0 (k+1) f fd ps sp:=by
 obtain ⟨oc,od,kV,doc,pm,an,cdv,ct,osl,rfl,lk,hcd⟩:=F.ex
 refine fn_of lk hcd S len fun A outer s H vs Q E hr hsp=>?_
 obtain ⟨t,h,q⟩:=hbody cdv A outer s H vs Q E hr hsp
 exact ⟨t,h.nox,q⟩
theorem Fun.binds {x qual:Str}{st:Stmt}{f:Addr}{fd:FuncData}{ps:List Str} (F:Fun K x qual st f fd)
  (h:∀ (kV doc pm:Value) (an:Option Addr) (cdv ct:Value) (us:List Value),us.length=ps.length→bindArgs (PySem.W.fnOf x qual (defArgs st) (defBody st) (defScope st) .none kV doc pm an cdv ct) ⟨us,[]⟩=pure (ps.zip us)):Binds K fd ps []:=by
 obtain ⟨oc,od,kV,doc,pm,an,cdv,ct,osl,rfl,lk,hcd⟩:=F.ex
 exact .all (h kV doc pm an cdv ct)
theorem fun_mk {x qual:Str}{st:Stmt}{f:Addr}{oc:Value}{od an:Option Addr}{osl:Array (Option Value)}{kV doc pm cdv ct:Value} (l:K.lookup f=some ⟨oc,od,.func (PySem.W.fnOf x qual (defArgs st) (defBody st) (defScope st) .none kV doc pm an cdv ct),osl⟩)
  (c:PySem.W.codeIn K cdv qual=true) (k:PySem.W.keepIn K (.ref f)=true):Fun K x qual st f (PySem.W.fnOf x qual (defArgs st) (defBody st) (defScope st) .none kV doc pm an cdv ct):=⟨⟨oc,od,kV,doc,pm,an,cdv,ct,osl,rfl,l,c⟩,k⟩
end
theorem hu_of {A:Around}{k:Nat} (hr:Room k A):A.units+1 < cLine:=Nat.lt_of_le_of_lt (Nat.add_le_add_left (by decide:1≤64) _) hr.units
section
variable {X:Cx}
theorem pv (i:Nat) {x:Str}{pos:Pos} (hN:X.N[i]?=some x:=by rfl) (hv:Vis X.env.scope x:=by first | exact Or.inl rfl | exact Or.inr (Or.inl rfl) | exact Or.inr (Or.inr rfl)) (hd:(x == ("__debug__":Str))=false:=by decide)
  (hcd:(x == ("__classdict__":Str))=false:=by decide):PE X (.Name x pos) (tVar i):=pe_var hN hv hd hcd
end
theorem iteF {A B:Prop} (h:B):if false=true then A else B:=by
 rw [if_neg Bool.false_ne_true]
 exact h
theorem iteT {A B:Prop} (h:A):if true=true then A else B:=by
 rw [if_pos rfl]
 exact h
theorem ite2 {c A B:Prop} [Decidable c] (h1:c→A) (h2:¬ c→B):if c then A else B:=by
 by_cases h:c
 · rw [if_pos h]
   exact h1 h
 · rw [if_neg h]
   exact h2 h
def Same (H H':Hp):Prop:=∀ b o,H b=some o→H' b=some o
theorem Same.refl (H:Hp):Same H H:=fun _ _ h=>h
theorem Same.trans {H H1 H2:Hp} (a:Same H H1) (b:Same H1 H2):Same H H2:=fun c o h=>b c o (a c o h)
theorem Same.free {H H':Hp} (e:Same H H') {l:Addr} (h:H' l=Option.none):H l=Option.none:=by
 cases q:H l with
 | none=>rfl
 | some o=>
  rw [e l o q] at h
  cases h
theorem Same.seq {K:PySem.W.Frag}{H H':Hp}{a:Addr}{xs:List V} (e:Same H H') (h:SqL K H a xs):SqL K H' a xs:=by
 rcases h with (h | ⟨o,h⟩) | h
 · exact .inl (.inl (e _ _ h))
 · exact .inl (.inr ⟨o,e _ _ h⟩)
 · exact .inr h
def Cx.blk (X:Cx) (N:List Str) (scope:Scope) (cl:List (Str × Addr)) (C:Addr) (s:Shared) (H:Hp) (fp:List Addr):Cx:=
 { prog:=X.prog,w:=X.w,K:=X.K,mg:=X.mg,base:=X.base,A:=X.A,N:=N,s₀:=s,H₀:=H,env:=compEnvC scope cl C X.env,outer:=X.stack,stack:=X.stack,ex:=fp,fn:=fun _=>false,calm:=X.calm,pn:=[],xe:=fun _ _=>False }
def blkSt (ix:List Nat) (x:Option V) (σ:St):St:=x::ix.map fun i=>(σ[i]?).join
theorem HOk.sameBut {P:Program}{w:World}{H:Hp}{h h':Heap}{C:Addr} (x:HOk P w H h) (hC:H C=none) (sb:Heap.SameBut C h h'):HOk P w H h':=fun a o e=>
 (x a o e).stay (fun b u hb q=>(sb.2 b (by
  rintro rfl
  rcases hb with hb | hb
  · rw [← hb,hC] at e;cases e
  · rw [hC] at hb;cases hb)).trans q) (fun _ q=>q) fun _ _ q=>q
section
variable {X:Cx}
end
inductive Wr (P:Prop):Prop where
 | mk (h:P):Wr P
theorem Wr.get {P:Prop} (h:Wr P):P:=by cases h;assumption
section
variable {X:Cx}{e:Expr}{te:TE}{pos p1 p2 p3:Pos}
abbrev wr2 (r:R2):R2:=fun x y H Q=>Wr (r x y H Q)
theorem OpR.wr {f:Value→Value→Sem Value}{r:R2} (h:OpR X f r):OpR X f (wr2 r):=fun pins s σ H x y v u Q I rx ry q=>h pins s σ H x y v u Q I rx ry q.get
theorem ix_l:IxR X (wr2 (rIxL X.K)):=fun value slice pins s σ H x y v u Q I rx ry q hs=>ix_list value slice pins s σ H x y v u Q I rx ry q.get hs
theorem ix_t:IxR X (wr2 (rIxT X.K)):=fun value slice pins s σ H x y v u Q I rx ry q hs=>ix_tup value slice pins s σ H x y v u Q I rx ry q.get hs
theorem sl_l:SlR X (fun x lo hi H Q=>Wr (rSlL X.K x lo hi H Q)):=fun pins s σ H x v vl vu lo hi sl Q I rx hs pl pu q=>sl_list pins s σ H x v vl vu lo hi sl Q I rx hs pl pu q.get
theorem op_catW:OpR X (binaryOp .Add) (wr2 rCat):=op_cat.wr
def rEqI (K:PySem.W.Frag):R2:=fun x y H Q=>∃ (a b:Addr) (ns ms:List Int),x=.ref a∧y=.ref b∧SqL K H a (ns.map V.int)∧SqL K H b (ms.map V.int)∧Q (.bl (decide (ns=ms))) H
theorem op_eqIs (hu:X.A.units+64 < cLine):OpR X (compareOp .Eq) (wr2 (rEqI X.K)):=by
 intro pins s σ H x y v u Q I rx ry h
 replace h:=h.get
 obtain ⟨a,b,ns,ms,rfl,rfl,ha,hb,q⟩:=h
 cases rx
 cases ry
 obtain ⟨its,r,ht,hz⟩:=I.list ha
 obtain ⟨its',r',ht',hz'⟩:=I.list hb
 exact PySem.W.eq_intsK ht.isList (intsAre_of r) ht'.isList (intsAre_of r') hu ⟨.bl _,H,I,rfl,q⟩
def rRev (K:PySem.W.Frag) (x:V) (H1:Hp) (Q:VK):Prop:=∃ a xs,x=.ref a∧SqL K H1 a xs∧∀ p,H1 p=none→Q (.ref p) (upd H1 p (.lst xs.reverse))
def tRev (K:PySem.W.Frag) (te:TE):TE:=fun σ H Q=>te σ H fun x H1=>Wr (rRev K x H1 Q)
def rList (K:PySem.W.Frag) (xs:List V) (H:Hp) (Q:VK):Prop:=∃ p ys,xs=[.ref p]∧(SqL K H p ys∨SqT K H p ys)∧∀ l,H l=none→Q (.ref l) (upd H l (.lst ys))
theorem call_listR:CallR X (.type "list") (fun xs H Q=>Wr (rList X.K xs H Q)):=fun pins s σ H vs us Q I r h=>call_list_of pins s σ H vs us Q I r h.get
theorem Vals.rev {xs:List V}{us:List Value} (r:Vals xs us):Vals xs.reverse us.reverse:=by
 induction r with
 | nil=>exact .nil
 | cons h t ih=>rw [List.reverse_cons,List.reverse_cons];exact Vals.append ih (.cons h .nil)
theorem pe_rev (he:PE X e te) {j:Nat}:PE X (.Subscript e (.Slice none none (some (.UnaryOp .USub (.Constant (.int 1) j p1) p3)) p2) pos) (tRev X.K te):=by
 intro pins s σ H Q I h
 refine Subscript_ (thn (he pins s σ H _ I h) fun v s1 ⟨x,H1,I1,r1,q1⟩=>?_)
 obtain ⟨a,xs,rfl,hx,q⟩:=q1.get
 cases r1
 refine wpAny_Slice ?_
 rw [evalPart_none]
 refine wpAny_pure (wpAny_pure ?_)
 refine thn (po_some (pe_un un_neg pe_int) pins s1 σ H1 (fun o H'=>o=some (-1)∧H'=H1) I1 ⟨_,rfl,_,rfl,rfl,rfl⟩) fun vk s2 ⟨o,H2,I2,pk,q2⟩=>?_
 obtain ⟨rfl,rfl⟩:=q2
 obtain ⟨its,r,ht,hz⟩:=I2.list hx
 have hlen:=r.length
 have I4:Inv X pins σ H2 { s2 with heap:=s2.heap.push { cls:=.type "slice",data:=.fields #[.none,.none,vk] } }:=I2.kept (t':=s2.toks) fun b ob q=>Heap.get?_push_of_some _ q
 obtain ⟨its',r',ht',hz'⟩:=I4.list hx
 refine tail_any ht'.isList.typeIs slot_list_getitem.lookup ?_ (by with_unfolding_all rfl)
 refine wpAny_getItem_list_slice ht'.isList (Heap.IsSliceOf.new ..) .none .none pk (by simp) ?_ (by rw [List.size_toArray, ← r'.length];exact hz')
 rw [PySem.W.krv_pick]
 refine ⟨.ref _,_,I4.laid (t':=s2.toks) (o:=.lst xs.reverse) (fun b ob q=>Heap.get?_push_of_some _ q) (Nat.le_refl _) ?_,rfl,q _ (I4.hok.fresh (Nat.le_refl _))⟩
 exact ⟨by rw [List.length_reverse];exact hz,its'.reverse,0,r'.rev,Heap.get?_push_size _ rfl⟩
theorem comp_ints {K:PySem.W.Frag}{a:Addr}{ns:List Int}{ix:List Nat}{te:TE}{σ:St}{H:Hp}{Q:VK} (f:Int→Int) (hq:SqL K H a (ns.map V.int)) (hl:ns.length < sizeLine)
  (he:∀ z∈ns,∀ (H':Hp) (Q':VK),Q' (.int (f z)) H'→te (blkSt ix (some (.int z)) σ) H' Q') (h:∀ D,H D=none→Q (.ref D) (upd H D (.lst ((ns.map f).map V.int)))):
  ∀ D,H D=none→∃ W:Nat→Nat→List V→Hp→Prop,(∃ m,W 0 m [] (upd H D (.lst [])))∧
   ∀ i m ys H2,W i m ys H2→H2 D=some (.lst ys)∧(((Itl K a).stop i H2∧Q (.ref D) H2)∨((Itl K a).go i H2∧ys.length < sizeLine∧∀ x H',(Itl K a).yld i H2 x H'→te (blkSt ix (some x) σ) H' fun y H3=>
    H3 D=some (.lst ys)∧∃ m',m' < m∧W (i+1) m' (ys++[y]) (upd H3 D (.lst (ys++[y]))))):=by
 intro D hD
 refine ⟨fun i m ys H2=>m=ns.length - i∧i≤ns.length∧ys=((ns.take i).map f).map V.int∧H2=upd H D (.lst ys),⟨ns.length,by simp,Nat.zero_le _,by simp,rfl⟩,?_⟩
 rintro i m ys H2 ⟨rfl,hi,rfl,rfl⟩
 have hs:SqL K (upd H D (.lst (((ns.take i).map f).map V.int))) a (ns.map V.int):=by
  have s:Same H (upd H D (.lst (((ns.take i).map f).map V.int))):=fun b o e=>by rw [upd_ne (ne_of_none e hD)];exact e
  exact s.seq hq
 refine ⟨upd_same,?_⟩
 by_cases hlt:i < ns.length
 · refine .inr ⟨⟨_,V.int ns[i],hs,by simp [hlt]⟩,by simp;omega,fun x H' y=>?_⟩
   obtain ⟨e,y⟩:=y
   subst e
   have ey:=y _ hs
   simp only [List.getElem?_map,List.getElem?_eq_getElem hlt,Option.map_some] at ey
   cases ey
   refine he ns[i] (List.getElem_mem hlt) _ _ ⟨upd_same,ns.length - (i+1),by omega,rfl,hlt,?_,?_⟩
   · rw [List.take_succ_eq_append_getElem hlt];simp only [List.map_append,List.map_cons,List.map_nil]
   · rw [upd_upd]
 · have e:i=ns.length:=by omega
   subst e
   refine .inl ⟨⟨_,hs,by simp⟩,?_⟩
   rw [List.take_of_length_le (Nat.le_refl _)]
   exact h D hD
def rLst (xs:List V) (H:Hp) (Q:VK):Prop:=xs.length≤sizeLine∧∀ p,H p=none→Q (.ref p) (upd H p (.lst xs))
def tLstW (t:TA):TE:=fun σ H Q=>t σ H fun xs H1=>Wr (rLst xs H1 Q)
theorem pe_lstW {es:List Expr}{t:TA} (h:PA X es t):PE X (.List es pos) (tLstW t):=by
 intro pins s σ H Q I hq
 refine wpAny_List_spliced (thn (h pos pins s σ H _ I hq) fun us s1 ⟨xs,H1,I1,r,w⟩=>?_)
 obtain ⟨z,q⟩:=w.get
 refine ⟨by rw [← r.length];exact z,?_⟩
 have hf:H1 s1.heap.objs.size=none:=I1.hok.fresh (Nat.le_refl _)
 refine ⟨.ref s1.heap.objs.size,upd H1 s1.heap.objs.size (.lst xs),I1.laid (t':=s1.toks) (fun b u e=>Heap.get?_push_of_some _ e) (Nat.le_refl _) ?_,rfl,q _ hf⟩
 exact ⟨z,us,0,r,Heap.get?_push_size _ rfl⟩
end
abbrev Ints (H:Hp) (a:Addr) (ns:List Int):Prop:=H a=some (.lst (ns.map V.int))
def cutL {α:Type} (xs:List α) (lo hi:Option Int):List α:=(xs.drop (HT.sIx xs.length 0 lo)).take (HT.sIx xs.length xs.length hi - HT.sIx xs.length 0 lo)
theorem cutV_int (ns:List Int) (lo hi:Option Int):cutV (ns.map V.int) lo hi=(cutL ns lo hi).map V.int:=by
 unfold cutV cutL
 simp [List.map_drop,List.map_take]
theorem cutL_to {α:Type} (xs:List α) (k:Nat):cutL xs none (some (k:Int))=xs.take k:=by
 unfold cutL
 rw [HT.sIx_nat,HT.sIx_none]
 simp only [List.drop_zero,Nat.sub_zero]
 by_cases h:k≤xs.length
 · rw [Nat.min_eq_left h]
 · rw [Nat.min_eq_right (by omega),List.take_of_length_le (Nat.le_refl _),List.take_of_length_le (by omega)]
theorem cutL_from {α:Type} (xs:List α) (k:Nat):cutL xs (some (k:Int)) none=xs.drop k:=by
 unfold cutL
 rw [HT.sIx_nat,HT.sIx_none]
 by_cases h:k≤xs.length
 · rw [Nat.min_eq_left h,List.take_of_length_le (by rw [List.length_drop];exact Nat.le_refl _)]
 · rw [Nat.min_eq_right (by omega),List.drop_of_length_le (Nat.le_refl _),List.drop_of_length_le (by omega)];simp
theorem cutL_ft {α:Type} (xs:List α) (j k:Nat) (h:j≤k):cutL xs (some (j:Int)) (some (k:Int))=(xs.drop j).take (k - j):=by
 unfold cutL
 rw [HT.sIx_nat,HT.sIx_nat]
 by_cases h1:k≤xs.length
 · rw [Nat.min_eq_left h1,Nat.min_eq_left (by omega)]
 · rw [Nat.min_eq_right (show xs.length≤k by omega)]
   by_cases h2:j≤xs.length
   · rw [Nat.min_eq_left h2,List.take_of_length_le (by rw [List.length_drop];exact Nat.le_refl _),List.take_of_length_le (by rw [List.length_drop];omega)]
   · rw [Nat.min_eq_right (by omega),List.drop_of_length_le (Nat.le_refl _),List.drop_of_length_le (by omega)];simp
theorem cutL_len {α:Type} (xs:List α) (lo hi:Option Int):(cutL xs lo hi).length≤xs.length:=by
 unfold cutL
 rw [List.length_take,List.length_drop]
 omega
theorem cutL_sub {α:Type}{xs:List α}{lo hi:Option Int}{v:α} (h:v∈cutL xs lo hi):v∈xs:=List.mem_of_mem_drop (List.mem_of_mem_take h)
theorem atI_int {ns:List Int}{j:Nat} (h:j < ns.length):atI (ns.map V.int) (j:Int)=some (V.int (ns[j]'h)):=atI_nat (by rw [List.getElem?_map,List.getElem?_eq_getElem h];rfl)
theorem get_int {ns:List Int}{i:Nat}{y:V} (h:(ns.map V.int)[i]?=some y):∃ z,y=V.int z∧ns[i]?=some z:=by
 rw [List.getElem?_map] at h
 cases e:ns[i]? with
 | none=>rw [e] at h;cases h
 | some z=>rw [e] at h;exact ⟨z,(Option.some.inj h).symm,rfl⟩
theorem Same.upd {H H1:Hp}{a:Addr}{o:HO} (s:Same H H1) (n:H a=none):Same H (upd H1 a o):=fun b u e=>by
 rw [upd_ne (ne_of_none e n)];exact s b u e
theorem Same.ints {H H':Hp}{a:Addr}{ns:List Int} (e:Same H H') (h:Ints H a ns):Ints H' a ns:=e _ _ h
theorem Ints.other {H:Hp}{a b:Addr}{ns:List Int}{o:HO} (h:Ints H a ns) (n:a≠b):Ints (L2.upd H b o) a ns:=by
 show L2.upd H b o a=_
 rw [upd_ne n];exact h
theorem Ints.put {H:Hp}{a:Addr}{ns:List Int}:Ints (L2.upd H a (.lst (ns.map V.int))) a ns:=upd_same
theorem Ints.snoc {H:Hp}{a:Addr}{ns:List Int}{v:Int}:Ints (L2.upd H a (.lst (ns.map V.int++[V.int v]))) a (ns++[v]):=by
 show L2.upd H a _ a=_
 rw [upd_same,List.map_append];rfl
theorem Same.upd' {H H1:Hp}{a:Addr}{o:HO} (s:Same H H1) (n:H1 a=none):Same H (L2.upd H1 a o):=s.upd (s.free n)
theorem small4k {n:Nat} (h:n≤10000000):n < sizeLine:=Nat.lt_of_le_of_lt h (by decide)
theorem new_rd {H:Hp}{xs:List V}{Q:VK} (ns:List Int) (e:xs=ns.map V.int) (h:∀ (p:Addr) (H':Hp),H p=none→Ints H' p ns→Same H H'→Q (.ref p) H'):∀ p,H p=none→Q (.ref p) (upd H p (.lst xs)):=fun p hp=>by
 subst e
 exact h p _ hp .put ((Same.refl H).upd hp)
theorem ls_rd {H:Hp}{ns:List Int}{Q:VK} (h:∀ (p:Addr) (H':Hp),H p=none→Ints H' p ns→Same H H'→Q (.ref p) H'):∀ p,H p=none→Q (.ref p) (upd H p (.lst (ns.map V.int))):=new_rd ns rfl h
theorem sl_rd {H:Hp}{ns:List Int}{lo hi:Option Int}{Q:VK} (h:∀ (p:Addr) (H':Hp),H p=none→Ints H' p (cutL ns lo hi)→Same H H'→Q (.ref p) H'):∀ p,H p=none→Q (.ref p) (upd H p (.lst (cutV (ns.map V.int) lo hi))):=new_rd _ (cutV_int ..) h
theorem cat_rd {H:Hp}{ns ms:List Int}{Q:VK} (h:∀ (p:Addr) (H':Hp),H p=none→Ints H' p (ns++ms)→Same H H'→Q (.ref p) H'):∀ p,H p=none→Q (.ref p) (upd H p (.lst (ns.map V.int++ms.map V.int))):=new_rd _ (by rw [List.map_append]) h
theorem rev_rd {H:Hp}{ns:List Int}{Q:VK} (h:∀ (p:Addr) (H':Hp),H p=none→Ints H' p ns.reverse→Same H H'→Q (.ref p) H'):∀ p,H p=none→Q (.ref p) (upd H p (.lst (ns.map V.int).reverse)):=new_rd _ (by rw [List.map_reverse]) h
theorem at_k {ms:List Int} (k:Nat) {i:Int} (h:k < ms.length) (e:i=(k:Int):=by rfl):atI (ms.map V.int) i=some (V.int (ms.getD k 0)):=by
 subst e
 rw [atI_int h]
 simp [List.getD,h]
theorem rd_list {K:PySem.W.Frag}{H:Hp}{a:Addr}{ns:List Int}{Q:VK} (hq:Ints H a ns) (h:∀ (p:Addr) (H':Hp),H p=none→Ints H' p ns→Same H H'→Q (.ref p) H'):Wr (rList K [.ref a] H Q):=⟨⟨a,_,rfl,.inl (SqL.of hq),ls_rd h⟩⟩
theorem rd_slice {K:PySem.W.Frag}{H:Hp}{a:Addr}{ns:List Int}{lo hi:Option Int}{Q:VK} (hq:Ints H a ns) (h:∀ (p:Addr) (H':Hp),H p=none→Ints H' p (cutL ns lo hi)→Same H H'→Q (.ref p) H'):Wr (rSlL K (.ref a) lo hi H Q):=⟨⟨a,_,rfl,SqL.of hq,sl_rd h⟩⟩
theorem rd_cat {H:Hp}{a b:Addr}{ns ms:List Int}{Q:VK} (ha:Ints H a ns) (hb:Ints H b ms) (hl:ns.length+ms.length≤10000000) (h:∀ (p:Addr) (H':Hp),H p=none→Ints H' p (ns++ms)→Same H H'→Q (.ref p) H'):Wr (rCat (.ref a) (.ref b) H Q):=
 ⟨⟨a,b,_,_,rfl,rfl,ha,hb,by simp only [List.length_map];exact Nat.le_of_lt (small4k hl),cat_rd h⟩⟩
theorem rd_rev {K:PySem.W.Frag}{H:Hp}{a:Addr}{ns:List Int}{Q:VK} (hq:SqL K H a (ns.map V.int)) (h:∀ (p:Addr) (H':Hp),H p=none→Ints H' p ns.reverse→Same H H'→Q (.ref p) H'):Wr (rRev K (.ref a) H Q):=⟨⟨a,_,rfl,hq,rev_rd h⟩⟩
theorem rd_at {K:PySem.W.Frag}{H:Hp}{a:Addr}{ns:List Int}{i:Int}{Q:VK} (k:Nat) (hq:Ints H a ns) (hk:k < ns.length) (h:Q (.int (ns.getD k 0)) H) (e:i=(k:Int):=by rfl):Wr (rIxL K (.ref a) (.int i) H Q):=⟨⟨a,_,i,_,rfl,rfl,SqL.of hq,at_k k hk e,h⟩⟩
theorem ite_key {c:Bool}{A:Prop}{H2:Hp}{K:Hp→Prop} (P:Hp→Prop) (hP:P H2) (key:∀ H,P H→K H) (h1:(∀ H,P H→K H)→A):if c=true then A else K H2:=by
 cases c with
 | true=>rw [if_pos rfl];exact h1 key
 | false=>rw [if_neg Bool.false_ne_true];exact key _ hP
theorem rd_eq {K:PySem.W.Frag}{H:Hp}{a b:Addr}{ns ms:List Int}{Q:VK} (ha:Ints H a ns) (hb:Ints H b ms) (h:Q (.bl (decide (ns=ms))) H):Wr (rEqI K (.ref a) (.ref b) H Q):=⟨⟨a,b,ns,ms,rfl,rfl,SqL.of ha,SqL.of hb,h⟩⟩
theorem rd_same {K:PySem.W.Frag}{H:Hp}{a b:Addr}{ns ms:List Int}{Q:VK} (ha:Ints H a ns) (hb:Ints H b ms) (e:ns=ms) (h:Q (.bl true) H):Wr (rEqI K (.ref a) (.ref b) H Q):=rd_eq ha hb (by rw [decide_eq_true e];exact h)
theorem rd_lst {H:Hp}{xs:List V}{Q:VK} (ns:List Int) (h:∀ (p:Addr) (H':Hp),H p=none→Ints H' p ns→Same H H'→Q (.ref p) H') (e:xs=ns.map V.int:=by rfl) (hl:ns.length≤1000:=by simp):Wr (rLst xs H Q):=by
 subst e
 exact ⟨⟨by rw [List.length_map];exact Nat.le_of_lt (small4k (by omega)),ls_rd h⟩⟩
structure Rdy (P:Program) (w:World) (K:PySem.W.Frag) (mg:Str→Option Value) (base:Heap) (x:Str) (ps:List Str) (k:Nat) (sp:Sp) where
 f:Addr
 fd:FuncData
 ok:FnOk P w K mg base CX0 k f fd ps sp
 mgx:mg x=some (.ref f)
 kp:PySem.W.keepIn K (.ref f)=true
 bd:Binds K fd ps []
theorem Rdy.pe {X:Cx}{x:Str}{ps:List Str}{k j:Nat}{sp:Sp}{e:Expr}{es:List Expr}{t:TA}{p pos:Pos} (R:Rdy X.prog X.w X.K X.mg X.base x ps k sp) (hr:Room j X.A) (ha:PA X (e::es) t) (hg:Gl X x:=by rfl) (hj:k≤j:=by decide)
  (hdb:(x == ("__debug__":Str))=false:=by decide) (he:starEach (e::es) X.env=(false,eval e X.env)::starEach es X.env:=by rfl) (hpl:(backTo pos (starEach es X.env)).any (·.1)=false:=by rfl):
  PE X (.Call (.Name x p) (e::es) [] pos) (tCall sp [] E0 t):=pe_call R.ok (hr.mono hj) hg R.mgx R.kp R.bd .nil pass0 ha hdb he hpl
end L2
set_option maxHeartbeats 4000000
namespace My
open PySem L2
structure Txt (K:PySem.W.Frag) (mg:Str→Option Value):Prop where
 len:mg "len"=none
 range:mg "range"=none
 list:mg "list"=none
 int:mg "int"=none
 bool:mg "bool"=none
 inst:mg "isinstance"=none
 tuple:mg "tuple"=none
 abs:mg "abs"=none
 enum:mg "enumerate"=none
 str:mg "str"=none
def spNumL (K:PySem.W.Frag):Sp:=fun vs H Q _=>∃ (a:Addr) (ns:List Int) (many:Nat),vs=[.ref a,.int many]∧SqL K H a (ns.map V.int)∧ns.length≤63∧many≤1000∧
 ∀ (l:Addr) (ms:List Int) (H':Hp),ms.length=many→True→H l=none→Ints H' l ms→Same H H'→Q (.ref l) H'
theorem pow18:((10:Int) ^ (18:Int).toNat)=1000000000000000000:=by decide
def letterOf (k d:Int):Int:=(d % (2 * k) / 2+1) * (1 - 2 * (d % 2))
def spWay (K:PySem.W.Frag):Sp:=fun vs H Q _=>∃ (a:Addr) (ns:List Int) (k:Int),vs=[.ref a,.int k]∧SqL K H a (ns.map V.int)∧ns.length≤10000∧1≤k∧k≤5∧
 ∀ (l:Addr) (H':Hp),H l=none→Ints H' l (ns.map (letterOf k))→Same H H'→Q (.ref l) H'
theorem bt_list:bootBuiltins "list"=some (.type "list"):=by decide+kernel
theorem bt_abs:bootBuiltins "abs"=some (.builtin "abs"):=by decide+kernel
theorem bt_enum:bootBuiltins "enumerate"=some (.type "enumerate"):=by decide+kernel
def push:List Int→Int→List Int
 | [],x=>[x]
 | t::r,x=>if t= -x then r else x::t::r
def cut (w:List Int):List Int:=(w.foldl push []).reverse
def spTurn (K:PySem.W.Frag):Sp:=fun vs H Q _=>∃ (a:Addr) (ns:List Int),vs=[.ref a]∧SqL K H a (ns.map V.int)∧ns.length≤100000∧
 ∀ (l:Addr) (H':Hp),H l=none→Ints H' l (ns.reverse.map (- ·))→Same H H'→Q (.ref l) H'
def spLaw (K:PySem.W.Frag):Sp:=fun vs H Q _=>∃ (a:Addr) (ns:List Int),vs=[.ref a]∧SqL K H a (ns.map V.int)∧ns.length≤63∧∀ H',Q (.bl true) H'
abbrev turn (w:List Int):List Int:=w.reverse.map (- ·)
def NZ (w:List Int):Prop:=∀ v∈w,v≠0
end My
namespace L2
open PySem PySem.Spec PyProof.Rows
def Ite (K:PySem.W.Frag) (a:Addr):It where
 go:=fun i H=>∃ xs x,SqL K H a xs∧xs[i]?=some x
 yld:=fun i H x H'=>∃ t y,H t=none∧x=.ref t∧H'=upd H t (.tup [.int i,y])∧∀ ys,SqL K H a ys→ys[i]?=some y
 stop:=fun i H=>∃ xs,SqL K H a xs∧xs.length≤i
theorem turn_enum {P:Program}{w:World}{K:PySem.W.Frag}{es:List Expr}{k:Nat}{pos:Pos} (a e it:Addr) (hei:e≠it):
  Turn P w K (.Tuple es k pos) (Ite K a) [e,it] e (fun i h=>(∃ old,IsEnum h e it ((i:Nat):Int) old)∧h.IsListIter it a i) where
 mem:=by simp
 obj:=fun i h ⟨⟨old,st⟩,si⟩ b hb=>by
  rcases List.mem_cons.mp hb with rfl | hb
  · exact ⟨_,st,fun v z=>by
      have z':Data.fields _=Data.cell v:=z
      cases z'⟩
  · have e':b=it:=by simpa using hb
    subst e'
    obtain ⟨o,e,c,d⟩:=si
    exact ⟨o,e,fun v z=>by rw [d] at z;cases z⟩
 keep:=fun i h h' ⟨⟨old,st⟩,si⟩ k=>⟨⟨old,k e (by simp) _ st⟩,si.at fun o q=>k it (by simp) o q⟩
 item:=by
  intro X hP hw hK hc i pins s σ H E I hf ⟨⟨old,st⟩,si⟩ hg
  subst hP hw hK
  obtain ⟨xs,x,hq,hx⟩:=hg
  obtain ⟨its,rv,p,hz⟩:=I.list hq
  obtain ⟨u,hu,ru⟩:=rv.get hx
  obtain ⟨e0,e1,e2,e3,e4,e5⟩:=hf e (by simp)
  obtain ⟨f0,f1,f2,f3,f4,f5⟩:=hf it (by simp)
  have hT:=I.hok.fresh (Nat.le_refl s.heap.objs.size)
  refine wpAny_pyNext_enum_item st si p.isList (x:=u) (by simpa using hu) hei fun h1 heo hit1 ht1 hz1 hk1=>?_
  refine ⟨_,rfl,wpAny_letOwnedTupleGo_enum heo fun h2 he2 sb2=>?_⟩
  have sb2:Heap.SameBut e h1 h2:=sb2
  have hk2:∀ b o,b≠e→b≠it→s.heap.get? b=some o→h2.get? b=some o:=fun b o n1 n2 q=>(sb2.2 b n1).trans (hk1 b o n1 n2 q)
  have eT:e≠s.heap.objs.size:=Nat.ne_of_lt (Heap.lt_size st)
  have ht2:h2.get? s.heap.objs.size=some { cls:=.type "tuple",data:=.seq #[.int i s.toks,u] }:=(sb2.2 _ eT.symm).trans ht1
  have hit2:h2.IsListIter it a (i+1):=hit1.at fun o q=>(sb2.2 it hei.symm).trans q
  have he2:IsEnum h2 e it (((i+1:Nat)):Int) u:=by
   have:(((i+1:Nat)):Int)=(i:Int)+1:=by push_cast;rfl
   rw [this];exact he2
  have iT:it≠s.heap.objs.size:=by
   obtain ⟨o,q,_⟩:=si
   exact Nat.ne_of_lt (Heap.lt_size q)
  have trk:∀ b o,H b=some o→b≠e∧b≠it∧b≠s.heap.objs.size:=fun b o q=>⟨(fun z=>by rw [z,e0] at q;cases q),(fun z=>by rw [z,f0] at q;cases q),(fun z=>by rw [z,hT] at q;cases q)⟩
  have hok:HOk X.prog X.w (upd H s.heap.objs.size (.tup [.int i,x])) h2:=fun b o q=>by
   by_cases hb:b=s.heap.objs.size
   · subst hb
     rw [upd_same] at q;cases q
     exact ⟨(show 2≤sizeLine by decide),[.int i s.toks,u],.cons ⟨_,rfl⟩ (.cons ru .nil),⟨_,ht2,rfl,_,rfl⟩⟩
   · rw [upd_ne hb] at q
     refine (I.hok b o q).stay (fun c v hc' r=>hk2 c v ?_ ?_ r) (fun c r=>by rw [upd_ne (trk c _ r).2.2];exact r) fun c ys r=>by rw [upd_ne (trk c _ r).2.2];exact r
     · rcases hc' with rfl | hc'
       · exact (trk _ _ q).1
       · exact (trk _ _ hc').1
     · rcases hc' with rfl | hc'
       · exact (trk _ _ q).2.1
       · exact (trk _ _ hc').2.1
  have old':∀ b o,s.heap.get? b=some o→b≠s.heap.objs.size:=fun b o q=>Nat.ne_of_lt (Heap.lt_size q)
  have I1:Inv X pins σ (upd H s.heap.objs.size (.tup [.int i,x])) { s with heap:=h2,toks:=s.toks+1 }:=by
   refine I.step (g':=s.gens) (d':=s.drawn) (t':=s.toks+1) (ch:=[e,it]) (fun b hb=>?_) (fun b o _ _ hc' q _=>hk2 b o (fun z=>hc' (by simp [z])) (fun z=>hc' (by simp [z])) q) (fun b o _ _ hc' q _=>⟨o.slots,hk2 b o (fun z=>hc' (by simp [z])) (fun z=>hc' (by simp [z])) q⟩)
    (fun b o _ q n=>by rw [upd_ne (old' b o q)];exact n) (fun b o hc' q=>⟨o,hk2 b o (fun z=>hc' (by simp [z])) (fun z=>hc' (by simp [z])) q⟩) (fun b ys q=>by rw [upd_ne (trk b _ q).2.2];exact q) (fun b o ys q=>by rw [upd_ne (trk b _ q).2.2];exact q)
    (fun b ps q=>⟨#[],by rw [upd_ne (trk b _ q).2.2,q];simp⟩) (fun m hm=>?_) hok I.bare
   · rcases List.mem_cons.mp hb with rfl | hb
     · exact ⟨e3,e1,e4,e5⟩
     · have e':b=it:=by simpa using hb
       subst e'
       exact ⟨f3,f1,f4,f5⟩
   · obtain ⟨o,es',ep,ho,r⟩:=hm
     exact ⟨o,es',ep,hk2 _ _ e1.symm f1.symm ho,r⟩
  refine ⟨.ref s.heap.objs.size,_,I1,rfl,⟨s.heap.objs.size,x,hT,rfl,rfl,fun ys hy=>by rw [I.list_inj hy hq];exact hx⟩,⟨⟨u,he2⟩,hit2⟩,fun b hb=>?_⟩
  rcases List.mem_cons.mp hb with rfl | hb
  · rw [upd_ne eT];exact e0
  · have e':b=it:=by simpa using hb
    subst e'
    rw [upd_ne iT];exact f0
 done:=by
  intro X hP hw hK hc i pins s σ H E I hf ⟨⟨old,st⟩,si⟩ hg
  subst hP hw hK
  obtain ⟨xs,hq,hx⟩:=hg
  obtain ⟨its,rv,p,hz⟩:=I.list hq
  obtain ⟨f0,f1,f2,f3,f4,f5⟩:=hf it (by simp)
  have hl:=rv.length
  exact wpAny_pyNext_enum_end (I.ok.hd hc) st si p.isList (by simp;omega) fun h' eb=>⟨rfl,I.turned (t':=s.toks) (fun b o hb q=>eb b o hb q) f0 f1 f3 f4 f5⟩
 self:=fun _ _ _ _ _ ⟨⟨old,st⟩,_⟩ h=>wpAny_pyIter_enum st h
section
variable {X:Cx}
def iEnum (K:PySem.W.Frag) (ta:TA):TI:=fun σ H R=>ta σ H fun vs H1=>∃ a,vs=[.ref a]∧(∃ xs,SqL K H1 a xs)∧R (Ite K a) H1
theorem pi_enum {l:Expr}{ta:TA}{p pos pt:Pos}{es:List Expr}{k:Nat} (hg:Gl X "enumerate") (hm:X.mg "enumerate"=none) (hb:bootBuiltins "enumerate"=some (.type "enumerate")) (ha:PA X [l] ta) (hs:starEach [l] X.env=[(false,eval l X.env)]:=by rfl):
  PI X (.Tuple es k pt) (.Call (.Name "enumerate" p) [l] [] pos) (iEnum X.K ta):=by
 intro pins s σ H R I h
 refine Call_ (ld_blt I hg hm hb (PyProof.Rows.callWith_type1 (thn (ha pos pins s σ H _ I h) fun us s1 ⟨vs,H1,I1,r1,q1⟩=>?_) hs rfl))
 obtain ⟨a,e,⟨xs,hq⟩,q⟩:=q1
 subst e
 cases r1 with
 | cons r rr=>
  cases rr
  cases r
  obtain ⟨its,rv,pl,hz⟩:=I1.list hq
  refine call_enumerate_list pl.isList fun h' he hit hsz hk=>?_
  refine wpAny_pyIter_enum he ?_
  have I2:Inv X pins σ H1 { s1 with heap:=h' }:=I1.kept (t':=s1.toks) fun b o e=>hk b o e
  refine ⟨s1.heap.objs.size+1,[s1.heap.objs.size+1,s1.heap.objs.size],_,_,H1,rfl,I2,turn_enum a _ _ (Nat.succ_ne_self _),⟨⟨_,he⟩,hit⟩,fun b hb=>?_,q⟩
  rcases List.mem_cons.mp hb with rfl | hb
  · exact I1.fpOk (Nat.le_succ _) (I1.hok.fresh (Nat.le_succ _))
  · have e:b=s1.heap.objs.size:=by simpa using hb
    subst e
    exact I1.fpOk (Nat.le_refl _) (I1.hok.fresh (Nat.le_refl _))
theorem for_enum {K:PySem.W.Frag}{a:Addr}{xs:List V}{g:TG}{tb:TS}{D:Ends}{σ:St}{H:Hp} (Pv:Nat→St→Hp→Prop) (h0:Pv 0 σ H) (hl:∀ i σ H,i≤xs.length→Pv i σ H→SqL K H a xs)
  (hs:∀ i x σ H t,xs[i]?=some x→H t=none→Pv i σ H→g (.ref t) σ (upd H t (.tup [.int i,x])) fun σ2 H2=>tb { D with nx:=Pv (i+1),ct:=Pv (i+1),bk:=D.nx } σ2 H2) (hd:∀ σ H,Pv xs.length σ H→D.nx σ H):
  ∃ W:Nat→Nat→St→Hp→Prop,(∃ m,W 0 m σ H)∧∀ i m σ H,W i m σ H→
   ((Ite K a).stop i H∧D.nx σ H)∨((Ite K a).go i H∧∃ N:St→Hp→Prop,(∀ σ' H',N σ' H'→∃ m',m' < m∧W (i+1) m' σ' H')∧∀ x H',(Ite K a).yld i H x H'→g x σ H' fun σ2 H2=>tb { D with nx:=N,ct:=N,bk:=D.nx } σ2 H2):=by
 refine ⟨fun i m σ H=>m=xs.length - i∧i≤xs.length∧Pv i σ H,⟨xs.length,by simp,Nat.zero_le _,h0⟩,?_⟩
 rintro i m σ H ⟨rfl,hi,p⟩
 have q:=hl i σ H hi p
 by_cases hlt:i < xs.length
 · refine .inr ⟨⟨xs,xs[i],q,by simp [hlt]⟩,Pv (i+1),fun σ' H' p'=>⟨xs.length - (i+1),by omega,rfl,hlt,p'⟩,fun x H' y=>?_⟩
   obtain ⟨t,y,ht,rfl,rfl,hy⟩:=y
   exact hs i y σ H t (hy xs q) ht p
 · have e:i=xs.length:=by omega
   subst e
   exact .inl ⟨⟨xs,q,Nat.le_refl _⟩,hd σ H p⟩
end
open PySem.SeqAt
mutual
inductive Dt (K:PySem.W.Frag) (H:Hp):V→PyData→Prop
 | non:Dt K H .non .none
 | bl (b:Bool):Dt K H (.bl b) (.bool b)
 | int (i:Int):Dt K H (.int i) (.int i)
 | str (x:Str):Dt K H (.str x) (.str x)
 | lst {a:Addr}{xs:List V}{ds:List PyData} (h:SqL K H a xs) (r:Dts K H xs ds):Dt K H (.ref a) (.list ds)
 | tup {a:Addr}{xs:List V}{ds:List PyData} (h:SqT K H a xs) (r:Dts K H xs ds):Dt K H (.ref a) (.tuple ds)
inductive Dts (K:PySem.W.Frag) (H:Hp):List V→List PyData→Prop
 | nil:Dts K H [] []
 | cons {x:V}{d:PyData}{xs:List V}{ds:List PyData} (h:Dt K H x d) (r:Dts K H xs ds):Dts K H (x::xs) (d::ds)
end
section
variable {X:Cx}{pins:List (Addr × Obj)}{σ:St}{H:Hp}{s:Shared}
mutual
theorem Dt.reads (I:Inv X pins σ H s):∀ {x:V}{d:PyData}{u:Value},Dt X.K H x d→RelV x u→∃ as,Reads s.heap u d as
 | _,_,_,.non,r=>by cases (show _=Value.none from r);exact ⟨_,.none⟩
 | _,_,_,.bl b,r=>by cases (show _=Value.bool b from r);exact ⟨_,.bool b⟩
 | _,_,_,.int i,r=>by obtain ⟨t,e⟩:=(show ∃ t,_=Value.int i t from r);cases e;exact ⟨_,.int i t⟩
 | _,_,_,.str x,r=>by obtain ⟨t,e⟩:=(show ∃ t,_=Value.str x t from r);cases e;exact ⟨_,.str x t⟩
 | _,_,_,.lst (a:=a) h rr,r=>by
  cases (show _=Value.ref a from r)
  obtain ⟨its,rv,p,hz⟩:=I.list h
  obtain ⟨as,q⟩:=Dts.reads I rr rv
  obtain ⟨o,ho,hc,n,hd⟩:=p.isList
  exact ⟨_,.list ho hc hd (by simpa using q)⟩
 | _,_,_,.tup (a:=a) h rr,r=>by
  cases (show _=Value.ref a from r)
  obtain ⟨its,rv,p,hz⟩:=I.tuple h
  obtain ⟨as,q⟩:=Dts.reads I rr rv
  obtain ⟨o,ho,hc,n,hd⟩:=p
  exact ⟨_,.tuple ho hc hd (by simpa using q)⟩
theorem Dts.reads (I:Inv X pins σ H s):∀ {xs:List V}{ds:List PyData}{us:List Value},Dts X.K H xs ds→Vals xs us→∃ as,ReadsAll s.heap us ds as
 | _,_,_,.nil,.nil=>⟨_,.nil⟩
 | _,_,_,.cons h rr,.cons r rs=>by
  obtain ⟨as,q⟩:=Dt.reads I h r
  obtain ⟨bs,q'⟩:=Dts.reads I rr rs
  exact ⟨_,.cons q q'⟩
end
end
section
variable {X:Cx}
def rEqD (K:PySem.W.Frag):R2:=fun x y H Q=>∃ d d',Dt K H x d∧Dt K H y d'∧shaped d=true∧shaped d'=true∧noMix d d'=true∧Q (.bl (same d d')) H
theorem op_eqD (hu:X.A.units+64 < cLine):OpR X (compareOp .Eq) (wr2 (rEqD X.K)):=by
 intro pins s σ H x y v u Q I rx ry h
 obtain ⟨d,d',a,b,sa,sb,m,q⟩:=h.get
 obtain ⟨as,ra⟩:=a.reads I rx
 obtain ⟨bs,rb⟩:=b.reads I ry
 exact eq_dataH_same ra rb sa sb hu m ⟨.bl _,H,I,rfl,q⟩
end
end L2
namespace L2
open PySem PySem.Spec PyProof.Rows
section
variable {X:Cx}{tg:Expr}
theorem comp_vals {K:PySem.W.Frag}{a:Addr}{xs:List V}{ix:List Nat}{te:TE}{σ:St}{H:Hp}{Q:VK} (f:V→V) (hq:SqL K H a xs) (hl:xs.length < sizeLine)
  (he:∀ z∈xs,∀ (H':Hp) (Q':VK),Same H H'→Q' (f z) H'→te (blkSt ix (some z) σ) H' Q') (h:∀ D,H D=none→Q (.ref D) (upd H D (.lst (xs.map f)))):
  ∀ D,H D=none→∃ W:Nat→Nat→List V→Hp→Prop,(∃ m,W 0 m [] (upd H D (.lst [])))∧
   ∀ i m ys H2,W i m ys H2→H2 D=some (.lst ys)∧(((Itl K a).stop i H2∧Q (.ref D) H2)∨((Itl K a).go i H2∧ys.length < sizeLine∧∀ x H',(Itl K a).yld i H2 x H'→te (blkSt ix (some x) σ) H' fun y H3=>
    H3 D=some (.lst ys)∧∃ m',m' < m∧W (i+1) m' (ys++[y]) (upd H3 D (.lst (ys++[y]))))):=by
 intro D hD
 refine ⟨fun i m ys H2=>m=xs.length - i∧i≤xs.length∧ys=(xs.take i).map f∧H2=upd H D (.lst ys),⟨xs.length,by simp,Nat.zero_le _,by simp,rfl⟩,?_⟩
 rintro i m ys H2 ⟨rfl,hi,rfl,rfl⟩
 have s:Same H (upd H D (.lst ((xs.take i).map f))):=fun b o e=>by rw [upd_ne (ne_of_none e hD)];exact e
 have hs:=s.seq hq
 refine ⟨upd_same,?_⟩
 by_cases hlt:i < xs.length
 · refine .inr ⟨⟨_,xs[i],hs,by simp [hlt]⟩,by simp;omega,fun x H' y=>?_⟩
   obtain ⟨e,y⟩:=y
   subst e
   have ey:=y _ hs
   rw [List.getElem?_eq_getElem hlt] at ey
   cases ey
   refine he xs[i] (List.getElem_mem hlt) _ _ s ⟨upd_same,xs.length - (i+1),by omega,rfl,hlt,?_,?_⟩
   · rw [List.take_succ_eq_append_getElem hlt];simp only [List.map_append,List.map_cons,List.map_nil]
   · rw [upd_upd]
 · have e:i=xs.length:=by omega
   subst e
   refine .inl ⟨⟨_,hs,by simp⟩,?_⟩
   rw [List.take_of_length_le (Nat.le_refl _)]
   exact h D hD
end
section
variable {κ:Type} [DecidableEq κ]
def valV (kvs:List (κ × V)) (k:κ):Option V:=(kvs.find? fun kv=>decide (kv.1=k)).map (·.2)
def putK (kvs:List (κ × V)) (k:κ) (v:V):List (κ × V):=
 if (kvs.any fun kv=>decide (kv.1=k))=true then kvs.map (fun kv=>if kv.1=k then (kv.1,v) else kv) else kvs++[(k,v)]
theorem valV_pos {p:κ × V}{r:List (κ × V)}{k:κ} (e:p.1=k):valV (p::r) k=some p.2:=by simp [valV,List.find?_cons,e]
theorem valV_neg {p:κ × V}{r:List (κ × V)}{k:κ} (e:¬ p.1=k):valV (p::r) k=valV r k:=by simp [valV,List.find?_cons,e]
theorem valV_any (k:κ):∀ kvs:List (κ × V),(kvs.any fun kv=>decide (kv.1=k))=(valV kvs k).isSome
 | []=>rfl
 | p::r=>by
  rw [List.any_cons]
  by_cases e:p.1=k
  · simp only [valV_pos e,decide_eq_true e,Bool.true_or,Option.isSome_some]
  · rw [valV_neg e,decide_eq_false e,Bool.false_or];exact valV_any k r
theorem valV_map (k j:κ) (y:V):∀ kvs:List (κ × V),valV (kvs.map fun kv=>if kv.1=k then (kv.1,y) else kv) j=(valV kvs j).map fun x=>if j=k then y else x
 | []=>rfl
 | p::r=>by
  have ih:=valV_map k j y r
  rw [List.map_cons]
  by_cases h:p.1=k
  · rw [if_pos h]
    by_cases e:p.1=j
    · rw [valV_pos (p:=(p.1,y)) e,valV_pos e,Option.map_some,if_pos (e.symm.trans h)]
    · rw [valV_neg (p:=(p.1,y)) e,valV_neg e,ih]
  · rw [if_neg h]
    by_cases e:p.1=j
    · rw [valV_pos (p:=p) e,valV_pos e,Option.map_some,if_neg (fun z=>h (e.trans z))]
    · rw [valV_neg (p:=p) e,valV_neg e,ih]
theorem valV_snoc (k j:κ) (y:V):∀ kvs:List (κ × V),valV kvs k=none→valV (kvs++[(k,y)]) j=if j=k then some y else valV kvs j
 | [],_=>by
  by_cases e:k=j
  · rw [if_pos e.symm];exact valV_pos (p:=(k,y)) e
  · rw [if_neg (fun z=>e z.symm)];exact valV_neg (p:=(k,y)) e
 | p::r,hn=>by
  rw [List.cons_append]
  have hk:¬ p.1=k:=fun z=>by rw [valV_pos z] at hn;cases hn
  rw [valV_neg hk] at hn
  have ih:=valV_snoc k j y r hn
  by_cases e:p.1=j
  · rw [valV_pos e,valV_pos e,if_neg (fun z=>hk (e.trans z))]
  · rw [valV_neg e,valV_neg e,ih]
theorem valV_put (kvs:List (κ × V)) (k j:κ) (y:V):valV (putK kvs k y) j=if j=k then some y else valV kvs j:=by
 unfold putK
 by_cases a:(kvs.any fun kv=>decide (kv.1=k))=true
 · rw [if_pos a,valV_map]
   rw [valV_any] at a
   by_cases e:j=k
   · obtain ⟨x,hx⟩:=Option.isSome_iff_exists.mp a
     rw [if_pos e,e,hx,Option.map_some,if_pos rfl]
   · rw [if_neg e]
     cases valV kvs j with
     | none=>rfl
     | some x=>rw [Option.map_some,if_neg e]
 · rw [if_neg a]
   refine valV_snoc k j y kvs ?_
   rw [valV_any] at a
   cases q:valV kvs k with
   | none=>rfl
   | some x=>rw [q] at a;exact (a rfl).elim
theorem length_putK (kvs:List (κ × V)) (k:κ) (v:V):(putK kvs k v).length≤kvs.length+1:=by
 unfold putK
 split
 · rw [List.length_map];omega
 · rw [List.length_append,List.length_cons,List.length_nil];omega
theorem putK_new {kvs:List (κ × V)}{k:κ} (v:V) (h:valV kvs k=none):putK kvs k v=kvs++[(k,v)]:=by
 unfold putK
 rw [valV_any,h]
 exact if_neg (by decide)
theorem RelO.isSome_eq {o:Option V}{u:Option Value} (r:RelO o u):o.isSome=u.isSome:=by
 cases o with
 | none=>cases u with
  | none=>rfl
  | some _=>exact (show False from r).elim
 | some _=>cases u with
  | none=>exact (show False from r).elim
  | some _=>rfl
theorem RelO.getD {o:Option V}{u:Option Value}{d:V}{d':Value} (r:RelO o u) (rd:RelV d d'):RelV (o.getD d) (u.getD d'):=by
 cases o with
 | none=>cases u with
  | none=>exact rd
  | some _=>exact (show False from r).elim
 | some _=>cases u with
  | none=>exact (show False from r).elim
  | some _=>exact r
theorem KV.val {kvs:List (κ × V)}{vs:List (κ × Value)} (r:KV kvs vs) (k:κ):RelO (valV kvs k) (valueAt vs k):=by
 unfold KV at r
 induction r with
 | nil=>exact True.intro
 | @cons p q ps qs h t ih=>
  obtain ⟨h1,h2⟩:=h
  by_cases e:p.1=k
  · have e':q.1=k:=h1.symm.trans e
    have b:valueAt (q::qs) k=some q.2:=by simp [valueAt,List.find?_cons,e']
    rw [valV_pos e,b];exact h2
  · have e':¬ q.1=k:=fun z=>e (h1.trans z)
    have b:valueAt (q::qs) k=valueAt qs k:=by simp [valueAt,List.find?_cons,e']
    rw [valV_neg e,b];exact ih
theorem KV.any {kvs:List (κ × V)}{vs:List (κ × Value)} (r:KV kvs vs) (k:κ):(kvs.any fun kv=>decide (kv.1=k))=vs.any fun kv=>decide (kv.1=k):=by
 unfold KV at r
 induction r with
 | nil=>rfl
 | cons h t ih=>rw [List.any_cons,List.any_cons,ih,h.1]
theorem KV.repl {kvs:List (κ × V)}{vs:List (κ × Value)} (r:KV kvs vs) (k:κ) {y:V}{u:Value} (ry:RelV y u):
  KV (kvs.map fun kv=>if kv.1=k then (kv.1,y) else kv) (vs.map fun kv=>if kv.1=k then (kv.1,u) else kv):=by
 unfold KV at r ⊢
 induction r with
 | nil=>exact .nil
 | @cons p q ps qs h t ih=>
  rw [List.map_cons,List.map_cons]
  refine .cons ?_ ih
  obtain ⟨h1,h2⟩:=h
  by_cases e:p.1=k
  · rw [if_pos e,if_pos (h1.symm.trans e)];exact ⟨h1,ry⟩
  · rw [if_neg e,if_neg (fun z=>e (h1.trans z))];exact ⟨h1,h2⟩
theorem KV.put {kvs:List (κ × V)}{vs:List (κ × Value)} (r:KV kvs vs) (k:κ) {y:V}{u:Value} (ry:RelV y u):KV (putK kvs k y) (stored vs k u):=by
 unfold putK stored
 rw [r.any k]
 by_cases e:(vs.any fun kv=>decide (kv.1=k))=true
 · rw [if_pos e,if_pos e];exact r.repl k ry
 · rw [if_neg e,if_neg e];exact Paired.snoc r ⟨rfl,ry⟩
theorem KV.length {kvs:List (κ × V)}{vs:List (κ × Value)} (r:KV kvs vs):kvs.length=vs.length:=Paired.length r
end
theorem kV_is {P:Program}{w:World}{k:Key}{u:Value} (r:RelV (kV k) u):(mixKind P w).is k u=true:=by
 cases k with
 | inl i=>obtain ⟨t,e⟩:=(show ∃ t,u=Value.int i t from r);subst e;exact mixKind_int P w i t
 | inr x=>
  cases x with
  | some x=>obtain ⟨t,e⟩:=(show ∃ t,u=Value.str x t from r);subst e;exact mixKind_str P w x t
  | none=>cases (show u=Value.none from r);rfl
theorem items_are {P:Program}{w:World}:∀ {ks:List Key}{us:List Value},Vals (ks.map kV) us→ItemsAre (mixKind P w) ks us
 | [],_,r=>by rw [List.map_nil] at r;cases r;exact .nil
 | k::ks,_,r=>by
  rw [List.map_cons] at r
  cases r with
  | cons h t=>exact .cons (kV_is h) (items_are t)
abbrev KT (H:Hp):List (List Key × V)→List (List Key × Addr × Value)→Prop:=Paired fun p q=>p.1=q.1∧H q.2.1=some (.tup (p.1.map kV))∧RelV p.2 q.2.2
theorem KT.val {H:Hp}{kvs:List (List Key × V)}{xs:List (List Key × Addr × Value)} (r:KT H kvs xs) (k:List Key):RelO (valV kvs k) ((atKey xs k).map (·.2)):=by
 induction r with
 | nil=>exact True.intro
 | @cons p q ps qs h t ih=>
  obtain ⟨h1,_,h2⟩:=h
  by_cases e:p.1=k
  · have e':q.1=k:=h1.symm.trans e
    have b:atKey (q::qs) k=some q.2:=by simp [atKey,List.find?_cons,e']
    rw [valV_pos e,b];exact h2
  · have e':¬ q.1=k:=fun z=>e (h1.trans z)
    have b:atKey (q::qs) k=atKey qs k:=by simp [atKey,List.find?_cons,e']
    rw [valV_neg e,b];exact ih
theorem KT.repl {H:Hp}{kvs:List (List Key × V)}{xs:List (List Key × Addr × Value)} (r:KT H kvs xs) (k:List Key) {y:V}{u:Value} (ry:RelV y u):
  KT H (kvs.map fun kv=>if kv.1=k then (kv.1,y) else kv) (xs.map (putAt k u)):=by
 induction r with
 | nil=>exact .nil
 | @cons p q ps qs h t ih=>
  rw [List.map_cons,List.map_cons]
  refine .cons ?_ ih
  obtain ⟨h1,h2,h3⟩:=h
  unfold putAt
  by_cases e:p.1=k
  · rw [if_pos e,if_pos (h1.symm.trans e)];exact ⟨h1,h2,ry⟩
  · rw [if_neg e,if_neg (fun z=>e (h1.trans z))];exact ⟨h1,h2,h3⟩
theorem KT.put {H:Hp}{kvs:List (List Key × V)}{xs:List (List Key × Addr × Value)} (r:KT H kvs xs) (k:List Key) {b:Addr}{y:V}{u:Value} (hb:H b=some (.tup (k.map kV))) (ry:RelV y u):
  KT H (putK kvs k y) (storedH xs k b u):=by
 have e:(kvs.any fun kv=>decide (kv.1=k))=(atKey xs k).isSome:=by
  rw [valV_any,(r.val k).isSome_eq,Option.isSome_map]
 unfold putK storedH
 rw [e]
 by_cases q:(atKey xs k).isSome=true
 · rw [if_pos q,if_pos q];exact r.repl k ry
 · rw [if_neg q,if_neg q];exact Paired.snoc r ⟨rfl,hb,ry⟩
theorem KT.keeps {H H':Hp}{kvs:List (List Key × V)}{xs:List (List Key × Addr × Value)} (r:KT H kvs xs) (ht:∀ b ys,H b=some (.tup ys)→H' b=some (.tup ys)):KT H' kvs xs:=
 Paired.mapP r fun _ _ z=>⟨z.1,ht _ _ z.2.1,z.2.2⟩
section
variable {P:Program}{w:World}{H:Hp}{h:Heap}{a:Addr}
theorem rd_of {u:HO} (ok:HOk P w H h) (e:Rd H a u):ObjOk P w H h a u:=e.ok ok
theorem dk_rd {kvs:List (Key × V)} (ok:HOk P w H h) (e:Rd H a (.dK kvs)):kvs.length≤sizeLine∧(a == sysModules)=false∧∃ vs,KV kvs vs∧h.DictOf (mixKind P w) a vs:=
 show ObjOk P w H h a (.dK kvs) from rd_of ok e
theorem dk_of {kvs:List (Key × V)} (ok:HOk P w H h) (e:H a=some (.dK kvs)):kvs.length≤sizeLine∧(a == sysModules)=false∧∃ vs,KV kvs vs∧h.DictOf (mixKind P w) a vs:=dk_rd ok (.inl e)
theorem key_of {ks:List Key} (ok:HOk P w H h) (e:H a=some (.tup (ks.map kV))):(tupleKind (mixKind P w)).is h ks a:=by
 obtain ⟨_,its,r,o,h1,h2,n,h3⟩:=(show ObjOk P w H h a (.tup (ks.map kV)) from ok a _ e)
 exact ⟨o,its.toArray,n,h1,h2,h3,by simpa using items_are r⟩
theorem dt_rd {kvs:List (List Key × V)} (ok:HOk P w H h) (e:Rd H a (.dT kvs)):kvs.length≤sizeLine∧(a == sysModules)=false∧
  ∃ xs,KT H kvs xs∧h.DictOfH (tupleKind (mixKind P w)) a xs:=by
 obtain ⟨z,y,xs,r,o,es,ep,h1,h2,h3,h4,h5⟩:=(show ObjOk P w H h a (.dT kvs) from rd_of ok e)
 refine ⟨z,y,xs,r,o,es,ep,h1,h2,h3,h4,fun x hx=>?_,h5⟩
 have all:∀ {l:List (List Key × V)}{m:List (List Key × Addr × Value)},KT H l m→∀ x∈m,(tupleKind (mixKind P w)).is h x.1 x.2.1:=by
  intro l m q
  induction q with
  | nil=>intro x hx;exact nomatch hx
  | @cons p q ps qs hq t ih=>
   intro x hx
   rcases List.mem_cons.mp hx with e | hx
   · subst e
     exact key_of ok (by rw [← hq.1];exact hq.2.1)
   · exact ih x hx
 exact all r x hx
theorem dt_of {kvs:List (List Key × V)} (ok:HOk P w H h) (e:H a=some (.dT kvs)):kvs.length≤sizeLine∧(a == sysModules)=false∧
  ∃ xs,KT H kvs xs∧h.DictOfH (tupleKind (mixKind P w)) a xs:=dt_rd ok (.inl e)
end
def DGet (H:Hp) (a:Addr) (y:V) (r:Option V):Prop:=
 (∃ kvs k,Rd H a (.dK kvs)∧y=kV k∧r=valV kvs k)∨∃ kvs k b,Rd H a (.dT kvs)∧y=.ref b∧H b=some (.tup (k.map kV))∧r=valV kvs k
def DPut (H:Hp) (a:Addr) (y v:V) (H':Hp):Prop:=
 (∃ kvs k,H a=some (.dK kvs)∧y=kV k∧kvs.length < sizeLine∧H'=upd H a (.dK (putK kvs k v)))∨
 ∃ kvs k b,H a=some (.dT kvs)∧y=.ref b∧H b=some (.tup (k.map kV))∧kvs.length < sizeLine∧H'=upd H a (.dT (putK kvs k v))
theorem DGet.k {H:Hp}{a:Addr}{kvs:List (Key × V)}{k:Key} (e:H a=some (.dK kvs)):DGet H a (kV k) (valV kvs k):=.inl ⟨kvs,k,.inl e,rfl,rfl⟩
theorem DGet.t {H:Hp}{a b:Addr}{kvs:List (List Key × V)}{k:List Key} (e:H a=some (.dT kvs)) (eb:H b=some (.tup (k.map kV))):DGet H a (.ref b) (valV kvs k):=.inr ⟨kvs,k,b,.inl e,rfl,eb,rfl⟩
theorem DPut.k {H:Hp}{a:Addr}{kvs:List (Key × V)}{k:Key}{v:V} (e:H a=some (.dK kvs)) (hl:kvs.length < sizeLine):DPut H a (kV k) v (upd H a (.dK (putK kvs k v))):=.inl ⟨kvs,k,e,rfl,hl,rfl⟩
theorem DPut.t {H:Hp}{a b:Addr}{kvs:List (List Key × V)}{k:List Key}{v:V} (e:H a=some (.dT kvs)) (eb:H b=some (.tup (k.map kV))) (hl:kvs.length < sizeLine):
  DPut H a (.ref b) v (upd H a (.dT (putK kvs k v))):=.inr ⟨kvs,k,b,e,rfl,eb,hl,rfl⟩
section
variable {X:Cx}{pins:List (Addr × Obj)}{σ:St}{H:Hp}{s:Shared}{a:Addr}{y v:V}{u r:Value}{o:Option V}{A:Around}{E:Value→Shared→Prop}
theorem Inv.big (I:Inv X pins σ H s):sysModules < s.heap.objs.size:=by
 have h:mainGlobals < s.heap.objs.size:=(I.mod.glob.keeps I.bk).lt
 exact Nat.lt_trans (by decide) h
theorem d_getItem {Q:Value→Shared→Prop} (hu:A.units+1 < cLine) (I:Inv X pins σ H s) (g:DGet H a y (some v)) (ry:RelV y u) (h:∀ w' s',Inv X pins σ H s'→RelV v w'→Q w' s'):
  wpAny (model X.prog X.w) A (getItem (.ref a) u) Q E s:=by
 rcases g with ⟨kvs,k,e,ey,l⟩ | ⟨kvs,k,b,e,ey,eb,l⟩
 · subst ey
   obtain ⟨z,hd,vs,rel,dd⟩:=dk_rd I.hok e
   obtain ⟨w',hw,rw'⟩:=RelO.some_of (v:=v) (o:=valueAt vs k) (by rw [l];exact rel.val k)
   exact wpAny_getItem_of (kV_is ry) dd.mapOf hw (h w' _ (I.tok _) rw')
 · subst ey
   cases (show u=Value.ref b from ry)
   obtain ⟨z,hd,xs,rel,dd⟩:=dt_rd I.hok e
   obtain ⟨w',hw,rw'⟩:=RelO.some_of (v:=v) (o:=(atKey xs k).map (·.2)) (by rw [l];exact rel.val k)
   obtain ⟨p,hp,hp2⟩:=Option.map_eq_some_iff.mp hw
   refine wpAny_getItem_heap (tupleKind_room_in1 hu) (key_of I.hok eb) dd hp ?_
   rw [hp2]
   exact h w' _ (I.tok _) rw'
theorem d_in {Q:Value→Shared→Prop} (hu:A.units+1 < cLine) (I:Inv X pins σ H s) (g:DGet H a y o) (ry:RelV y u) (h:∀ s',Inv X pins σ H s'→Q (.bool o.isSome) s'):
  wpAny (model X.prog X.w) A (compareOp .In u (.ref a)) Q E s:=by
 rcases g with ⟨kvs,k,e,ey,l⟩ | ⟨kvs,k,b,e,ey,eb,l⟩
 · subst ey
   obtain ⟨z,hd,vs,rel,dd⟩:=dk_rd I.hok e
   refine wpAny_in_of (kV_is ry) hd dd.mapOf ?_
   rw [← (rel.val k).isSome_eq, ← l]
   exact h _ (I.tok _)
 · subst ey
   cases (show u=Value.ref b from ry)
   obtain ⟨z,hd,xs,rel,dd⟩:=dt_rd I.hok e
   refine wpAny_in_heap (tupleKind_room_in1 hu) (key_of I.hok eb) hd dd ?_
   have q:=(rel.val k).isSome_eq
   rw [Option.isSome_map] at q
   rw [← q, ← l]
   exact h _ (I.tok _)
theorem d_notIn {Q:Value→Shared→Prop} (hu:A.units+1 < cLine) (I:Inv X pins σ H s) (g:DGet H a y o) (ry:RelV y u) (h:∀ s',Inv X pins σ H s'→Q (.bool (!o.isSome)) s'):
  wpAny (model X.prog X.w) A (compareOp .NotIn u (.ref a)) Q E s:=by
 rcases g with ⟨kvs,k,e,ey,l⟩ | ⟨kvs,k,b,e,ey,eb,l⟩
 · subst ey
   obtain ⟨z,hd,vs,rel,dd⟩:=dk_rd I.hok e
   refine wpAny_notIn_of (kV_is ry) hd dd.mapOf ?_
   rw [← (rel.val k).isSome_eq, ← l]
   exact h _ (I.tok _)
 · subst ey
   cases (show u=Value.ref b from ry)
   obtain ⟨z,hd,xs,rel,dd⟩:=dt_rd I.hok e
   refine wpAny_notIn_heap (tupleKind_room_in1 hu) (key_of I.hok eb) hd dd ?_
   have q:=(rel.val k).isSome_eq
   rw [Option.isSome_map] at q
   rw [← q, ← l]
   exact h _ (I.tok _)
theorem d_write {h':Heap}{t':Nat}{ob:HO} (I:Inv X pins σ H s) (mu:Mut (H a)) (hs:Heap.SameBut a s.heap h') (he:∃ q,h'.get? a=some q) (new:ObjOk X.prog X.w (upd H a ob) h' a ob):
  Inv X pins σ (upd H a ob) { s with heap:=h',toks:=t' }:=
 I.write (x:=a) (e:=a) mu (.inl rfl) (fun b q hb z=>(hs.2 b hb).trans z) he new
theorem dk_new {P:Program}{w:World}{H':Hp}{h':Heap}{kvs:List (Key × V)}{vs:List (Key × Value)} (z:kvs.length≤sizeLine) (hd:(a == sysModules)=false) (rel:KV kvs vs) (dd:h'.DictOf (mixKind P w) a vs):
  ObjOk P w H' h' a (.dK kvs):=⟨z,hd,vs,rel,dd⟩
theorem d_setItem {H':Hp}{Q:Unit→Shared→Prop} (hu:A.units+1 < cLine) (I:Inv X pins σ H s) (g:DPut H a y v H') (ry:RelV y u) (rv:RelV v r) (h:∀ s',Inv X pins σ H' s'→Q () s'):
  wpAny (model X.prog X.w) A (setItem (.ref a) u r) Q E s:=by
 rcases g with ⟨kvs,k,e,ey,l,eH⟩ | ⟨kvs,k,b,e,ey,eb,l,eH⟩
 · subst ey eH
   obtain ⟨z,hd,vs,rel,dd⟩:=dk_of I.hok e
   have hz:vs.length≤sizeLine:=by rw [← rel.length];exact z
   have hl:(putK kvs k v).length≤sizeLine:=by have:=length_putK kvs k v;omega
   refine wpAny_setItem_pairs (hsz:=hz) (kV_is ry) dd fun h' dd' hs=>h _ ?_
   have he:∃ q,h'.get? a=some q:=let ⟨q,_,_,hq,_⟩:=dd';⟨q,hq⟩
   exact d_write I (by rw [e];exact True.intro) hs he (dk_new hl hd (rel.put k rv) dd')
 · subst ey eH
   cases (show u=Value.ref b from ry)
   obtain ⟨z,hd,xs,rel,dd⟩:=dt_of I.hok e
   have hz:xs.length≤sizeLine:=by rw [← Paired.length rel];exact z
   have hl:(putK kvs k v).length≤sizeLine:=by have:=length_putK kvs k v;omega
   refine wpAny_setItem_heap (hsz:=hz) (tupleKind_room_in1 hu) (key_of I.hok eb) dd fun h' dd' hs=>h _ ?_
   obtain ⟨q,es,ep,hq,h2,h3,h4,_,h5⟩:=dd'
   refine d_write I (by rw [e];exact True.intro) hs ⟨q,hq⟩ ⟨hl,hd,_,(rel.put k eb rv).keeps fun c ys ec=>?_,q,es,ep,hq,h2,h3,h4,h5⟩
   rw [upd_ne (ne_of ec e (fun z=>nomatch z))]
   exact ec
end
section
variable {X:Cx}{pins:List (Addr × Obj)}{σ:St}{H:Hp}{s:Shared}{a:Addr}{kvs:List (Key × V)}{k:Key}{u:Value}{A:Around}{E:Value→Shared→Prop}
theorem d_len {Q:Value→Shared→Prop} (I:Inv X pins σ H s) (e:Rd H a (.dK kvs)) (h:∀ t s',Inv X pins σ H s'→Q (.int kvs.length t) s'):wpAny (model X.prog X.w) A (call (.builtin "len") [.ref a]) Q E s:=by
 obtain ⟨z,hd,vs,rel,dd⟩:=dk_rd I.hok e
 refine call_len_dict hd dd (by rw [← rel.length];rw [sizeLine_eq] at z;omega) ?_
 rw [← rel.length]
 exact h _ _ (I.tok _)
end
def NoSl (i:Expr):Prop:=∀ ov iv,subscripted i false ov iv=operate [ov,iv] (getItem ov iv)
theorem subD_of {prog:Program}{w:World}{A:Around}{E:Value→Shared→Prop}{s:Shared}{env:Env}{value slice:Expr}{pos:Pos}{T id:String}{Q:Value→Shared→Prop}
  (hl:typeLookup (.type T) "__getitem__"=pure (some (.builtin id))) (hs:NoSl slice)
  (h:wpAny (model prog w) A (eval value env) (fun o s₁=>wpAny (model prog w) A (eval slice env) (fun i s₂=>s₂.TypeIs o T∧wpAny (model prog w) A (getItem o i) Q E s₂) E s₁) E s):
  wpAny (model prog w) A (eval (.Subscript value slice pos) env) Q E s:=by
 refine Subscript_ (wpAny_mono h (fun o s₁ h₁=>wpAny_mono h₁ (fun i s₂ h₂=>?_) fun _ _ x=>x) fun _ _ x=>x)
 obtain ⟨hT,h₂⟩:=h₂
 unfold subscriptTail
 refine wpAny_bind ?_
 rw [getitemInPython_of_ne hT.not_modules]
 refine wpAny_bind (wpAny_specialOf hT hl ?_)
 have fin:wpAny (model prog w) A (subscripted slice false o i) (fun r s₃=>wpAny (model prog w) A (letTemporaryGo value o r >>= fun _=>pure r) Q E s₃) E s₂:=by
  rw [hs o i]
  exact wpAny_operating (wpAny_mono h₂ (fun r s₃ h₃=>wpAny_bind (wpAny_letTemporaryGo (wpAny_pure h₃))) fun _ _ x=>x)
 first
  | exact wpAny_pure (wpAny_bind fin)
  | exact wpAny_bind (wpAny_pure (wpAny_bind fin))
  | exact wpAny_bind fin
theorem dict_typeIs {X:Cx}{pins:List (Addr × Obj)}{σ:St}{H:Hp}{s:Shared}{a:Addr}{y:V}{o:Option V} (I:Inv X pins σ H s) (g:DGet H a y o):s.TypeIs (.ref a) "dict":=by
 rcases g with ⟨kvs,k,e,_,_⟩ | ⟨kvs,k,b,e,_,_,_⟩
 · obtain ⟨_,_,vs,_,dd⟩:=dk_rd I.hok e
   exact dd.typeIs
 · obtain ⟨_,_,xs,_,dd⟩:=dt_rd I.hok e
   exact dd.typeIs
def tDGet (td ty:TE):TE:=fun σ H Q=>td σ H fun x H1=>ty σ H1 fun y H2=>∃ a v,x=.ref a∧DGet H2 a y (some v)∧Q v H2
def tDIn (ty td:TE):TE:=fun σ H Q=>ty σ H fun y H1=>td σ H1 fun x H2=>∃ a o,x=.ref a∧DGet H2 a y o∧Q (.bl o.isSome) H2
def tDNotIn (ty td:TE):TE:=fun σ H Q=>ty σ H fun y H1=>td σ H1 fun x H2=>∃ a o,x=.ref a∧DGet H2 a y o∧Q (.bl (!o.isSome)) H2
def sDPut (td ty tv:TE):TS:=fun D σ H=>tv σ H fun v H1=>td σ H1 fun x H2=>ty σ H2 fun y H3=>∃ a H4,x=.ref a∧DPut H3 a y v H4∧D.nx σ H4
section
variable {X:Cx}{o i e value:Expr}{pos pos' tpos:Pos}{td ty tv:TE}
theorem pe_dget (hu:X.A.units+1 < cLine) (ho:PE X o td) (hi:PE X i ty) (hs:NoSl i):PE X (.Subscript o i pos) (tDGet td ty):=by
 intro pins s σ H Q I h
 refine subD_of PySem.F.slot_dict_getitem.lookup hs (thn (ho pins s σ H _ I h) fun u s1 ⟨x,H1,I1,rx,q1⟩=>thn (hi pins s1 σ H1 _ I1 q1) fun iv s2 ⟨y,H2,I2,ry,a,v,ex,g,q2⟩=>?_)
 subst ex
 obtain rfl:u=Value.ref a:=rx
 exact ⟨dict_typeIs I2 g,d_getItem hu I2 g ry fun w' s3 I3 rw'=>⟨v,H2,I3,rw',q2⟩⟩
theorem pc_din (hu:X.A.units+1 < cLine) (hi:PE X i ty) (ho:PE X o td):PC X .In i o (tDIn ty td):=by
 intro pins s σ H Q I h
 refine thn (hi pins s σ H _ I h) fun iv s1 ⟨y,H1,I1,ry,q1⟩=>thn (ho pins s1 σ H1 _ I1 q1) fun u s2 ⟨x,H2,I2,rx,a,ov,ex,g,q2⟩=>?_
 subst ex
 obtain rfl:u=Value.ref a:=rx
 exact d_in hu I2 g ry fun s3 I3=>⟨.bl ov.isSome,H2,I3,rfl,q2⟩
theorem pc_dnotin (hu:X.A.units+1 < cLine) (hi:PE X i ty) (ho:PE X o td):PC X .NotIn i o (tDNotIn ty td):=by
 intro pins s σ H Q I h
 refine thn (hi pins s σ H _ I h) fun iv s1 ⟨y,H1,I1,ry,q1⟩=>thn (ho pins s1 σ H1 _ I1 q1) fun u s2 ⟨x,H2,I2,rx,a,ov,ex,g,q2⟩=>?_
 subst ex
 obtain rfl:u=Value.ref a:=rx
 exact d_notIn hu I2 g ry fun s3 I3=>⟨.bl (!ov.isSome),H2,I3,rfl,q2⟩
theorem ps_dput (hu:X.A.units+1 < cLine) (ho:PE X o td) (hi:PE X i ty) (hv:PE X value tv) (hs:swapsWith value (some (.Subscript o i pos')) pos.line X.env=pure false):
  PS X (.Assign [.Subscript o i pos'] value pos) (sDPut td ty tv):=by
 intro pins s σ H D I h
 refine wpAny_Assign_Subscript (thn (hv pins s σ H _ I h) fun r s1 ⟨v,H1,I1,rv,q1⟩=>thn (ho pins s1 σ H1 _ I1 q1) fun u s2 ⟨x,H2,I2,rx,q2⟩=>thn (hi pins s2 σ H2 _ I2 q2) fun iv s3 ⟨y,H3,I3,ry,a,H4,ex,g,q3⟩=>?_) hs
 subst ex
 obtain rfl:u=Value.ref a:=rx
 exact d_setItem hu I3 g ry rv fun s4 I4=>⟨σ,H4,I4,q3⟩
end
theorem dk_empty {P:Program}{w:World}{H:Hp} (h:Heap) (hb:sysModules < h.objs.size):ObjOk P w H (h.push { cls:=.type "dict",data:=.dict #[] }) h.objs.size (.dK []):=
 ⟨Nat.zero_le _,beq_eq_false_iff_ne.mpr (Ne.symm (Nat.ne_of_lt hb)),[],.nil,Heap.DictOf.new h⟩
theorem dt_empty {P:Program}{w:World}{H:Hp} (h:Heap) (hb:sysModules < h.objs.size):ObjOk P w H (h.push { cls:=.type "dict",data:=.dict #[] }) h.objs.size (.dT []):=
 ⟨Nat.zero_le _,beq_eq_false_iff_ne.mpr (Ne.symm (Nat.ne_of_lt hb)),[],.nil,_, #[],0,Heap.get?_push_size _ rfl,⟨rfl,rfl,rfl⟩,rfl,rfl,List.nodup_nil⟩
def tDNewK:TE:=fun _ H Q=>∀ p,H p=none→Q (.ref p) (upd H p (.dK []))
def tDNewT:TE:=fun _ H Q=>∀ p,H p=none→Q (.ref p) (upd H p (.dT []))
section
variable {X:Cx}{pos:Pos}
theorem pe_dnewK:PE X (.Dict [] [] pos) tDNewK:=fun pins s σ H Q I h=>
 wpAny_Dict_empty ⟨.ref s.heap.objs.size,_,I.laid (a:=s.heap.objs.size) (o:=.dK []) (t':=s.toks) (fun _ _ q=>Heap.get?_push_of_some _ q) (Nat.le_refl _) (dk_empty s.heap I.big),rfl,h _ (I.hok.fresh (Nat.le_refl _))⟩
theorem pe_dnewT:PE X (.Dict [] [] pos) tDNewT:=fun pins s σ H Q I h=>
 wpAny_Dict_empty ⟨.ref s.heap.objs.size,_,I.laid (a:=s.heap.objs.size) (o:=.dT []) (t':=s.toks) (fun _ _ q=>Heap.get?_push_of_some _ q) (Nat.le_refl _) (dt_empty s.heap I.big),rfl,h _ (I.hok.fresh (Nat.le_refl _))⟩
end
def tPairs:List (TE × TE)→St→Hp→(List (V × V)→Hp→Prop)→Prop
 | [],_,H,Q=>Q [] H
 | (tk,tv)::r,σ,H,Q=>tk σ H fun x H1=>tv σ H1 fun y H2=>tPairs r σ H2 fun ps H3=>Q ((x,y)::ps) H3
abbrev VV:List (V × V)→List (Value × Value)→Prop:=Paired fun p q=>RelV p.1 q.1∧RelV p.2 q.2
def PPs (X:Cx) (pos:Pos) (keys:List (Option Expr)) (values:List Expr) (trs:List (TE × TE)):Prop:=
 ∀ (pins:List (Addr × Obj)) (s:Shared) (σ:St) (H:Hp) (Q:List (V × V)→Hp→Prop),Inv X pins σ H s→tPairs trs σ H Q→
  wpAny (model X.prog X.w) X.A (evalPairs (pairTrees keys values X.env pos)) (fun vs s'=>∃ ps H',Inv X pins σ H' s'∧VV ps vs∧Q ps H') X.xe s
theorem pps_nil {X:Cx}{pos:Pos}:PPs X pos [] [] []:=fun pins s σ H Q I h=>pairTrees_nil_walk ⟨[],H,I,.nil,h⟩
theorem pps_cons {X:Cx}{pos:Pos}{k v:Expr}{ks:List (Option Expr)}{vs:List Expr}{tk tv:TE}{trs:List (TE × TE)} (hk:PE X k tk) (hv:PE X v tv) (hr:PPs X pos ks vs trs):
  PPs X pos (some k::ks) (v::vs) ((tk,tv)::trs):=fun pins s σ H Q I h=>
 pairTrees_cons_walk (thn (hk pins s σ H _ I h) fun u s1 ⟨x,H1,I1,rx,q1⟩=>thn (hv pins s1 σ H1 _ I1 q1) fun w2 s2 ⟨y,H2,I2,ry,q2⟩=>
  thn (hr pins s2 σ H2 _ I2 q2) fun ws s3 ⟨ps,H3,I3,rel,q3⟩=>⟨(x,y)::ps,H3,I3,.cons ⟨rx,ry⟩ rel,q3⟩)
def mergeK (kvs more:List (Key × V)):List (Key × V):=more.foldl (fun acc kv=>putK acc kv.1 kv.2) kvs
theorem KV.merge:∀ {more:List (Key × V)}{rs:List (Key × Value)}{kvs:List (Key × V)}{vs:List (Key × Value)},KV more rs→KV kvs vs→KV (mergeK kvs more) (merged vs rs):=by
 intro more rs kvs vs r
 unfold KV at r
 induction r generalizing kvs vs with
 | nil=>intro q;exact q
 | @cons p q ps qs h t ih=>
  intro r0
  have e:KV (putK kvs p.1 p.2) (stored vs q.1 q.2):=by
   have:=r0.put p.1 h.2
   rw [← h.1];exact this
  exact ih e
theorem length_mergeK:∀ (more kvs:List (Key × V)),(mergeK kvs more).length≤kvs.length+more.length
 | [],kvs=>by show kvs.length≤kvs.length+0;omega
 | p::r,kvs=>by
  have h1:=length_mergeK r (putK kvs p.1 p.2)
  have h2:=length_putK kvs p.1 p.2
  show (mergeK (putK kvs p.1 p.2) r).length≤_
  rw [List.length_cons];omega
theorem carries_of {P:Program}{w:World}:∀ {kvs:List (Key × V)}{ws:List (Value × Value)},VV (kvs.map fun kv=>(kV kv.1,kv.2)) ws→∃ rs,Carries (mixKind P w) ws rs∧KV kvs rs
 | [],_,r=>by rw [List.map_nil] at r;cases r;exact ⟨[],True.intro,.nil⟩
 | p::kvs,_,r=>by
  rw [List.map_cons] at r
  cases r with
  | @cons a b as bs h t=>
   obtain ⟨rs,c,q⟩:=carries_of (P:=P) (w:=w) t
   obtain ⟨b1,b2⟩:=b
   exact ⟨(p.1,b2)::rs,⟨kV_is h.1,rfl,c⟩,.cons ⟨rfl,h.2⟩ q⟩
def tDisp (trs:List (TE × TE)):TE:=fun σ H Q=>∀ p,H p=none→tPairs trs σ (upd H p (.dK [])) fun ps H2=>H2 p=some (.dK [])∧∃ kvs:List (Key × V),ps=kvs.map (fun kv=>(kV kv.1,kv.2))∧kvs.length≤15∧Q (.ref p) (upd H2 p (.dK (mergeK [] kvs)))
theorem pe_disp {X:Cx}{pos:Pos}{keys:List (Option Expr)}{values:List Expr}{trs:List (TE × TE)} (h:PPs X pos keys values trs) (hall:keys.all (·.isSome)=true) (hl:keys.length=values.length) (h0:keys≠[])
  (h15:keys.length≤15):PE X (.Dict keys values pos) (tDisp trs):=by
 intro pins s σ H Q I q
 have hn:=I.hok.fresh (Nat.le_refl s.heap.objs.size)
 have I1:=I.laid (a:=s.heap.objs.size) (o:=.dK []) (h':=s.heap.push { cls:=.type "dict",data:=.dict #[] }) (t':=s.toks) (fun _ _ q=>Heap.get?_push_of_some _ q) (Nat.le_refl _) (dk_empty s.heap I.big)
 refine wpAny_Dict_walk (knd:=mixKind X.prog X.w) hall hl h0 h15 (thn (h pins _ σ _ _ I1 (q _ hn)) fun ws s2 ⟨ps,H2,I2,rel,e,kvs,ep,lk,q2⟩=>?_)
 subst ep
 obtain ⟨rs,c,rk⟩:=carries_of (P:=X.prog) (w:=X.w) rel
 obtain ⟨z,hd,vs0,r0,dd⟩:=dk_of I2.hok e
 cases r0
 refine ⟨rs,c,dd,fun h' dd' hs=>⟨.ref s.heap.objs.size,_,?_,rfl,q2⟩⟩
 have hz:(mergeK [] kvs).length≤sizeLine:=by
  have h1:=length_mergeK kvs []
  rw [List.length_nil] at h1
  rw [sizeLine_eq];omega
 have he:∃ q,h'.get? s.heap.objs.size=some q:=let ⟨q,_,_,hq,_⟩:=dd';⟨q,hq⟩
 exact d_write I2 (by rw [e];exact True.intro) hs he (dk_new hz hd (rk.merge .nil) dd')
structure M1 (X:Cx) (o:Expr) (m:Str) (apos:Pos) (e:Expr) (cpos:Pos):Prop where
 base:attributeBase o m X.env (eval o X.env)=eval o X.env
 few:((backTo cpos (starEach [e] X.env)).all (fun x=> !x.1) && (backToKw cpos (keywordEach [] X.env)).all (fun x=>x.1.isSome)
  && decide (([e]:List Expr).length+([]:List Keyword).length+(if ([]:List Keyword).isEmpty then 0 else 1) < 30))=true
 line:(apos.endLine == cpos.line)=true
 trees:backTo cpos (starEach [e] X.env)=[(false,eval e X.env)]
def IsD (H:Hp) (a:Addr):Prop:=(∃ kvs,Rd H a (.dK kvs))∨∃ kvs,Rd H a (.dT kvs)
theorem isD_at {X:Cx}{pins:List (Addr × Obj)}{σ:St}{H:Hp}{s:Shared}{a:Addr} (I:Inv X pins σ H s) (d:IsD H a):
  s.TypeIs (.ref a) "dict"∧(∀ b,Value.ref a=.ref b→∃ ob,s.heap.get? b=some ob∧ob.dict=none)∧(a == sysModules)=false:=by
 rcases d with ⟨kvs,e⟩ | ⟨kvs,e⟩
 · obtain ⟨_,hd,vs,_,dd⟩:=dk_rd I.hok e
   refine ⟨dd.typeIs,fun b q=>?_,hd⟩
   cases q
   obtain ⟨ob,_,_,h1,h2,_⟩:=dd
   exact ⟨ob,h1,h2.2.1⟩
 · obtain ⟨_,hd,xs,_,dd⟩:=dt_rd I.hok e
   refine ⟨dd.typeIs,fun b q=>?_,hd⟩
   cases q
   obtain ⟨ob,_,_,h1,h2,_⟩:=dd
   exact ⟨ob,h1,h2.2.1⟩
section
variable {X:Cx}{pins:List (Addr × Obj)}{σ:St}{H:Hp}{s:Shared}{a:Addr}{y d:V}{u r:Value}{o:Option V}{A:Around}{E:Value→Shared→Prop}
theorem d_get1 {Q:Value→Shared→Prop} (hu:A.units+1 < cLine) (I:Inv X pins σ H s) (g:DGet H a y o) (ry:RelV y u) (h:∀ w' s',Inv X pins σ H s'→RelV (o.getD .non) w'→Q w' s'):
  wpAny (model X.prog X.w) A (call (.builtin "dict.get") [.ref a,u]) Q E s:=by
 rcases g with ⟨kvs,k,e,ey,l⟩ | ⟨kvs,k,b,e,ey,eb,l⟩
 · subst ey
   obtain ⟨z,hd,vs,rel,dd⟩:=dk_rd I.hok e
   refine call_meetsIn PySem.F.slot_dict_get dd.typeIs PySem.F.entry_dict_get (PySem.F.args_dict_get_2 _ _) (meets_dict_get (mixKind X.prog X.w) a (kV_is ry) hd) ⟨_,dd.mapOf,h _ _ (I.tok _) ?_⟩
   rw [l]
   exact (rel.val k).getD rfl
 · subst ey
   cases (show u=Value.ref b from ry)
   obtain ⟨z,hd,xs,rel,dd⟩:=dt_rd I.hok e
   refine call_meetsIn PySem.F.slot_dict_get dd.typeIs PySem.F.entry_dict_get (PySem.F.args_dict_get_2 _ _) (meetsH_dict_get (tupleKind (mixKind X.prog X.w)) a b hd) ⟨tupleKind_room_in1 hu,k,xs,key_of I.hok eb,dd,h _ _ (I.tok _) ?_⟩
   rw [l]
   exact (rel.val k).getD rfl
end
def tDGet1 (td ty:TE):TE:=fun σ H Q=>td σ H fun x H1=>∃ a,x=.ref a∧IsD H1 a∧ty σ H1 fun y H2=>∃ o,DGet H2 a y o∧Q (o.getD .non) H2
section
variable {X:Cx}{o e f:Expr}{apos cpos:Pos}{td ty tx:TE}
theorem pe_dget1 (hu:X.A.units+1 < cLine) (ho:PE X o td) (he:PE X e ty) (m:M1 X o "get" apos e cpos):PE X (.Call (.Attribute o "get" apos) [e] [] cpos) (tDGet1 td ty):=by
 intro pins s σ H Q I h
 refine wpAny_Call_method m.base m.few m.line PySem.F.plainAttrs_dict PySem.F.slot_dict_get PySem.F.type_dict_get (thn (ho pins s σ H _ I h) fun u s1 ⟨x,H1,I1,rx,a,ex,d,q1⟩=>?_)
 subst ex
 obtain rfl:u=Value.ref a:=rx
 obtain ⟨t1,t2,_⟩:=isD_at I1 d
 refine ⟨t1,t2,?_⟩
 rw [m.trees]
 refine Calls.callWith_builtin rfl (Calls.evalArgs_plain (Calls.spliced_cons (thn (he pins s1 σ H1 _ I1 q1) fun iv s2 ⟨y,H2,I2,ry,ov,g,q2⟩=>Calls.spliced_nil ?_)))
 exact d_get1 hu I2 g ry fun w' s3 I3 rw'=>⟨_,H2,I3,rw',q2⟩
end
section
variable {X:Cx}{pins:List (Addr × Obj)}{σ:St}{H:Hp}{s:Shared}{a:Addr}{kvs:List (Key × V)}{A:Around}{E:Value→Shared→Prop}
end
section
variable {X:Cx}{pins:List (Addr × Obj)}{σ:St}{H:Hp}{s:Shared}{a:Addr}{y:V}{u:Value}{A:Around}{E:Value→Shared→Prop}
end
section
variable {X:Cx}
theorem call_lenD:CallR X (.builtin "len") (fun xs H Q=>∃ a kvs,xs=[V.ref a]∧H a=some (.dK kvs)∧Q (.int kvs.length) H):=by
 intro pins s σ H xs us Q I r h
 obtain ⟨a,kvs,rfl,ha,q⟩:=h
 obtain ⟨u,rfl,ru⟩:=vals1 r
 cases ru
 exact d_len I (.inl ha) fun t s' I'=>⟨.int kvs.length,H,I',⟨t,rfl⟩,q⟩
end
section
variable {κ:Type} [DecidableEq κ]
theorem valV_not {kvs:List (κ × V)}{k:κ} (h:valV kvs k=none):¬ k∈kvs.map (·.1):=by
 intro m
 obtain ⟨p,hp,e⟩:=List.mem_map.mp m
 have q:(kvs.any fun kv=>decide (kv.1=k))=true:=List.any_eq_true.mpr ⟨p,hp,decide_eq_true e⟩
 rw [valV_any,h] at q
 exact absurd q (by simp)
theorem nd_snoc:∀ {l:List κ}{k:κ},l.Nodup→¬ k∈l→(l++[k]).Nodup
 | [],k,_,_=>by simp
 | a::r,k,h,hk=>by
  obtain ⟨h1,h2⟩:=List.nodup_cons.mp h
  show (a::(r++[k])).Nodup
  refine List.nodup_cons.mpr ⟨fun m=>?_,nd_snoc h2 fun m=>hk (List.mem_cons.mpr (Or.inr m))⟩
  rcases List.mem_append.mp m with q | q
  · exact h1 q
  · exact hk (List.mem_cons.mpr (Or.inl (List.mem_singleton.mp q).symm))
theorem nd_putK {kvs:List (κ × V)}{k:κ} (v:V) (hn:(kvs.map (·.1)).Nodup) (h:valV kvs k=none):((putK kvs k v).map (·.1)).Nodup:=by
 rw [putK_new v h,List.map_append]
 exact nd_snoc hn (valV_not h)
end
theorem dk_at {P:Program}{w:World}{H:Hp}{h h':Heap} (e:h'.get? h.objs.size=some { cls:=.type "dict",data:=.dict #[] }) (hb:sysModules < h.objs.size):ObjOk P w H h' h.objs.size (.dK []):=by
 have x:ObjOk P w H (h.push { cls:=.type "dict",data:=.dict #[] }) h.objs.size (.dK []):=dk_empty h hb
 obtain ⟨z,y,vs,r,dd⟩:=x
 exact ⟨z,y,vs,r,dd.at fun o q=>by rw [Heap.get?_push_size _ rfl] at q;cases q;exact e⟩
section
variable {X:Cx}
def tRng (ta:TA):TE:=fun σ H Q=>ta σ H fun vs H1=>∃ j:Int,vs=[.int j]∧∀ p,H1 p=none→Q (.ref p) (upd H1 p (.rng 0 j))
theorem pe_rng {a:Expr}{ta:TA}{p pos:Pos} (hg:Gl X "range") (hm:X.mg "range"=none) (ha:PA X [a] ta) (hs:starEach [a] X.env=[(false,eval a X.env)]:=by rfl):PE X (.Call (.Name "range" p) [a] [] pos) (tRng ta):=by
 intro pins s σ H Q I h
 refine Call_ (ld_blt I hg hm boot_range (PyProof.Rows.callWith_type1 (thn (ha pos pins s σ H _ I h) fun us s1 ⟨vs,H1,I1,r1,q1⟩=>?_) hs rfl))
 obtain ⟨j,e,q⟩:=q1
 subst e
 cases r1 with
 | cons r rr=>
  cases rr
  obtain ⟨t,rfl⟩:=r
  refine call_range_1 ?_
  exact ⟨.ref s1.heap.objs.size,_,I1.laid (o:=.rng 0 j) (fun b u e=>Heap.get?_push_of_some _ e) (Nat.le_refl _) ⟨_,_,_,Heap.get?_push_size _ rfl⟩,rfl,q _ (I1.hok.fresh (Nat.le_refl _))⟩
def rListR (xs:List V) (H:Hp) (Q:VK):Prop:=∃ (r:Addr) (n:Nat),xs=[.ref r]∧H r=some (.rng 0 n)∧n≤1000000∧∀ l,H l=none→Q (.ref l) (upd H l (.lst ((List.range n).map fun (i:Nat)=>V.int i)))
theorem call_listRng (hc:X.calm=true):CallR X (.type "list") (fun xs H Q=>Wr (rListR xs H Q)):=by
 intro pins s σ H xs us Q I r h
 obtain ⟨ra,n,rfl,hr,hn,q⟩:=h.get
 obtain ⟨u,rfl,ru⟩:=r.one
 cases ru
 obtain ⟨t,tu,tv,e⟩:=(show ObjOk X.prog X.w H s.heap ra (.rng 0 n) from I.hok ra _ hr)
 have hsz:Builtin.Range.rangeSize 0 (n:Int) 1=(n:Int):=by rw [rangeSize_one];split <;> omega
 refine call_list_range (n:=n) (I.ok.hd hc) e (small_one (by omega) (by omega) (by omega) (by omega)) hsz (by omega) fun h' tk acc c hk hS hacc=>?_
 refine ⟨.ref s.heap.objs.size,_,I.laid (t':=tk) (o:=.lst ((List.range n).map fun (i:Nat)=>V.int i)) hk (Nat.le_refl _) ?_,rfl,q _ (I.hok.fresh (Nat.le_refl _))⟩
 have hl:sizeLine=16777216:=sizeLine_eq
 refine ⟨by rw [List.length_map,List.length_range];omega,acc.toList,c,?_,by simpa using hS⟩
 have gen:∀ (k:Nat) (l:List Value),l.length=n - k→(∀ j v,l[j]?=some v→∃ t,v=Value.int ((0:Int)+((k+j:Nat):Int) * 1) t)→k≤n→Vals ((List.range' k (n - k)).map fun (i:Nat)=>V.int i) l:=by
  intro k l
  induction l generalizing k with
  | nil=>
   intro hl _ _
   have:n - k=0:=by simpa using hl.symm
   rw [this]
   exact .nil
  | cons v l ih=>
   intro hl hv hk'
   have h1:n - k=(n - (k+1))+1:=by simp at hl;omega
   rw [h1,List.range'_succ,List.map_cons]
   refine .cons ?_ (ih (k+1) (by simp at hl;omega) (fun j v' hj=>?_) (by simp at hl;omega))
   · obtain ⟨t,e⟩:=hv 0 v rfl
     exact ⟨t,by rw [e];simp⟩
   · obtain ⟨t,e⟩:=hv (j+1) v' (by simpa using hj)
     refine ⟨t,?_⟩
     rw [e]
     congr 3
     omega
 have:=gen 0 acc.toList (by simpa using hacc.1) (fun j v hj=>by
  obtain ⟨t,e⟩:=hacc.2 j v (by simpa using hj)
  exact ⟨t,by rw [e];simp⟩) (Nat.zero_le _)
 rw [Nat.sub_zero, ← List.range_eq_range'] at this
 exact this
theorem comp_range {lo:Int}{n:Nat}{ix:List Nat}{te:TE}{σ:St}{H:Hp}{Q:VK}
  (h:∀ D,H D=none→∃ Pv:Nat→List V→Hp→Prop,Pv 0 [] (upd H D (.lst []))∧(∀ i ys H2,Pv i ys H2→H2 D=some (.lst ys)∧ys.length < sizeLine)∧
   (∀ i ys H2,i < n→Pv i ys H2→∀ Q':VK,(∀ y H3,H3 D=some (.lst ys)→Pv (i+1) (ys++[y]) (upd H3 D (.lst (ys++[y])))→Q' y H3)→te (blkSt ix (some (.int (lo+i))) σ) H2 Q')∧∀ ys H2,Pv n ys H2→Q (.ref D) H2):
  ∀ D,H D=none→∃ W:Nat→Nat→List V→Hp→Prop,(∃ m,W 0 m [] (upd H D (.lst [])))∧
   ∀ i m ys H2,W i m ys H2→H2 D=some (.lst ys)∧(((Itr lo n).stop i H2∧Q (.ref D) H2)∨((Itr lo n).go i H2∧ys.length < sizeLine∧∀ x H',(Itr lo n).yld i H2 x H'→te (blkSt ix (some x) σ) H' fun y H3=>
    H3 D=some (.lst ys)∧∃ m',m' < m∧W (i+1) m' (ys++[y]) (upd H3 D (.lst (ys++[y]))))):=by
 intro D hD
 obtain ⟨Pv,p0,pl,ps,pq⟩:=h D hD
 refine ⟨fun i m ys H2=>m=n - i∧i≤n∧Pv i ys H2∧True,⟨n,by simp,Nat.zero_le _,p0,trivial⟩,?_⟩
 rintro i m ys H2 ⟨rfl,hi,p,_⟩
 obtain ⟨e1,e2⟩:=pl i ys H2 p
 refine ⟨e1,?_⟩
 by_cases hlt:i < n
 · refine .inr ⟨hlt,e2,fun x H' y=>?_⟩
   obtain ⟨e,y⟩:=y
   subst e y
   exact ps i ys _ hlt p _ fun y H3 e3 p3=>⟨e3,n - (i+1),by omega,rfl,hlt,p3,trivial⟩
 · have e:i=n:=by omega
   subst e
   exact .inl ⟨Nat.le_refl _,pq ys H2 p⟩
end
section
variable {X:Cx}
end
end L2
namespace My
open PySem L2
abbrev Ps:=List (Addr × List Int)
def Tp (H:Hp) (ps:Ps):Prop:=∀ p∈ps,H p.1=some (.tup (p.2.map V.int))
structure Tl (H:Hp) (l:Addr) (ps:Ps):Prop where
 is:H l=some (.lst (ps.map fun p=>V.ref p.1))
 tp:Tp H ps
theorem Tl.same {H H':Hp}{l:Addr}{ps:Ps} (h:Tl H l ps) (s:Same H H'):Tl H' l ps:=⟨s _ _ h.is,fun p hp=>s _ _ (h.tp p hp)⟩
theorem Tp.same {H H':Hp}{ps:Ps} (h:Tp H ps) (s:Same H H'):Tp H' ps:=fun p hp=>s _ _ (h p hp)
theorem rd_listT {K:PySem.W.Frag}{H:Hp}{a:Addr}{ps:Ps}{Q:VK} (hq:Tl H a ps) (h:∀ (p:Addr) (H':Hp),H p=none→Tl H' p ps→Same H H'→Q (.ref p) H'):Wr (rList K [.ref a] H Q):=
 ⟨⟨a,_,rfl,.inl (SqL.of hq.is),fun p hp=>h p _ hp ⟨upd_same,hq.tp.same ((Same.refl H).upd hp)⟩ ((Same.refl H).upd hp)⟩⟩
theorem rd_col {K:PySem.W.Frag}{H:Hp}{t:Addr}{r:List Int}{i:Int}{Q:VK} (k:Nat) (ht:H t=some (.tup (r.map V.int))) (hk:k < r.length) (h:Q (.int (r.getD k 0)) H) (e:i=(k:Int):=by rfl):Wr (rIxT K (.ref t) (.int i) H Q):=
 ⟨⟨t,_,i,_,rfl,rfl,SqT.of ht,at_k k hk e,h⟩⟩
def jn (l:List Int) (a b:Nat):List Int:=l.map fun m=>if m=max (l.getD a 0) (l.getD b 0) then min (l.getD a 0) (l.getD b 0) else m
theorem jn_length (l:List Int) (a b:Nat):(jn l a b).length=l.length:=by simp [jn]
structure Lab (n:Nat) (l:List Int):Prop where
 len:l.length=n
 rng:∀ v∈l,0≤v∧v < n
theorem getD_mem {l:List Int}{a:Nat} (h:a < l.length):l.getD a 0∈l:=by
 rw [List.getD,List.getElem?_eq_getElem h];exact List.getElem_mem h
theorem Lab.jn {n:Nat}{l:List Int} (h:Lab n l) {a b:Nat} (ha:a < n) (hb:b < n):Lab n (jn l a b):=by
 refine ⟨by rw [jn_length];exact h.len,fun v hv=>?_⟩
 obtain ⟨m,hm,rfl⟩:=List.mem_map.mp hv
 have h1:=h.rng _ (getD_mem (a:=a) (by rw [h.len];exact ha))
 have h2:=h.rng _ (getD_mem (a:=b) (by rw [h.len];exact hb))
 split
 · omega
 · exact h.rng m hm
def lab0 (n:Nat):List Int:=(List.range n).map fun (i:Nat)=>(i:Int)
theorem lab0_ok (n:Nat):Lab n (lab0 n):=by
 refine ⟨by simp [lab0],fun v hv=>?_⟩
 obtain ⟨i,hi,rfl⟩:=List.mem_map.mp hv
 have:=List.mem_range.mp hi
 omega
theorem rd_range {K:PySem.W.Frag}{H:Hp}{r:Addr}{n:Nat}{Q:VK} (hr:H r=some (.rng 0 n)) (hn:n≤1000000) (h:∀ (p:Addr) (H':Hp),H p=none→Ints H' p (lab0 n)→Same H H'→Q (.ref p) H'):Wr (rListR [.ref r] H Q):=
 ⟨⟨r,n,rfl,hr,hn,new_rd _ (by simp [lab0,List.map_map,Function.comp_def]) h⟩⟩
def PairOk (n:Nat) (r:List Int):Prop:=∃ a b:Nat,r=[(a:Int),(b:Int)]∧a < n∧b < n
def RowOk (n:Nat) (r:List Int):Prop:=∃ (i:Int) (a:Nat) (k:Int) (b:Nat),r=[i,(a:Int),k,(b:Int)]∧a < n∧b < n
def jnP (l:List Int) (r:List Int):List Int:=jn l (r.getD 0 0).toNat (r.getD 1 0).toNat
def labs (n:Nat) (ps:Ps):List Int:=ps.foldl (fun l p=>jnP l p.2) (lab0 n)
theorem Lab.jnP {n:Nat}{l r:List Int} (h:Lab n l) (hr:PairOk n r):Lab n (jnP l r):=by
 obtain ⟨a,b,rfl,ha,hb⟩:=hr
 exact h.jn ha hb
def spJn (K:PySem.W.Frag):Sp:=fun vs H Q _=>∃ (l:Addr) (ls:List Int) (a b:Nat),vs=[.ref l,.int a,.int b]∧Ints H l ls∧a < ls.length∧b < ls.length∧ls.length≤1000∧∀ (p:Addr) (H':Hp),H p=none→Ints H' p (jn ls a b)→Same H H'→Q (.ref p) H'
structure TxtM (mg:Str→Option Value):Prop where
 min:mg "min"=none
 max:mg "max"=none
theorem bt_min:bootBuiltins "min"=some (.builtin "min"):=by decide+kernel
theorem bt_max:bootBuiltins "max"=some (.builtin "max"):=by decide+kernel
theorem min_if (i j:Int):(if j < i then j else i)=min i j:=by
 split <;> omega
theorem max_if (i j:Int):(if j > i then j else i)=max i j:=by
 split <;> omega
theorem hcl_two {cells:List (Str × Addr)}{a b:Str}{x y:Addr} (h1:cells.lookup a=some x) (h2:cells.lookup b=some y):∀ z c,[(a,x),(b,y)].lookup z=some c→cells.lookup z=some c:=fun z c h=>by
 rcases List.mem_cons.mp (PySem.mem_of_lookup h) with e | e
 · cases e;exact h1
 · have e:(z,c)=(b,y):=by simpa using e
   cases e;exact h2
def gf (l:Addr):List (Str × V):=putF "least" (.ref l) []
theorem gf_eq (l:Addr):gf l=([("least",V.ref l)]:List (Str × V)):=rfl
theorem gf_least (l:Addr):(gf l).lookup ("least":Str)=some (.ref l):=by
 unfold gf
 rw [lookup_putF,if_pos rfl]
theorem gf_put (l m:Addr):putF "least" (.ref m) (gf l)=gf m:=by
 rw [gf_eq,gf_eq]
 show (if ("least":Str)="least" then [(("least":Str),V.ref m)] else _)=_
 rw [if_pos rfl]
theorem gf_no (l:Addr) {m:Str} (h:¬ m="least"):(gf l).lookup m=none:=by
 unfold gf
 rw [lookup_putF,if_neg h]
 rfl
structure GAt (C:Addr) (H:Hp) (g:Addr) (ls:List Int):Prop where
 ob:∃ dx l,H g=some (.ins C dx (gf l))∧Ints H l ls
def Kp (g:Addr) (H H':Hp):Prop:=∀ b o,H b=some o→b≠g→H' b=some o
structure TxtG (K:PySem.W.Frag) (mg:Str→Option Value) (C:Addr):Prop where
 cl:Cls K C
 nL:NoAttr K C "least"
 mgC:mg "Groups"=some (.ref C)
def spUni (C:Addr):Sp:=fun vs H Q _=>∃ (g:Addr) (ls:List Int) (a b:Nat),vs=[.ref g,.int a,.int b]∧GAt C H g ls∧a < ls.length∧b < ls.length∧ls.length≤1000∧∀ H',GAt C H' g (jn ls a b)→Kp g H H'→Q .non H'
def spTog (C:Addr):Sp:=fun vs H Q _=>∃ (g:Addr) (ls:List Int) (a b:Nat),vs=[.ref g,.int a,.int b]∧GAt C H g ls∧a < ls.length∧b < ls.length∧Q (.bl (decide (ls.getD a 0=ls.getD b 0))) H
def spGInit (C:Addr):Sp:=fun vs H Q _=>∃ (g dx:Addr) (n:Nat) (l:Addr) (ps:Ps),vs=[.ref g,.int n,.ref l]∧H g=some (.ins C dx [])∧Tl H l ps∧(∀ p∈ps,PairOk n p.2)∧n≤1000∧ps.length≤1000∧∀ H',GAt C H' g (labs n ps)→Kp g H H'→Q .non H'
def nearIx (s:Int):Nat:=if s=1 then 1 else 3
def spNear:Sp:=fun vs H Q _=>∃ (t:Addr) (r:List Int) (s:Int),vs=[.ref t,.int s]∧H t=some (.tup (r.map V.int))∧r.length=4∧Q (.int (r.getD (nearIx s) 0)) H
def spFar:Sp:=fun vs H Q _=>∃ (t:Addr) (r:List Int) (s:Int),vs=[.ref t,.int s]∧H t=some (.tup (r.map V.int))∧r.length=4∧Q (.int (r.getD (nearIx (-s)) 0)) H
theorem hcl_nil {cells:List (Str × Addr)}:∀ z c,([]:List (Str × Addr)).lookup z=some c→cells.lookup z=some c:=fun z c h=>by cases h
theorem iteTe {c:Bool}{A B:Prop} (e:c=true) (h:A):if c=true then A else B:=by rw [if_pos e];exact h
theorem iteFe {c:Bool}{A B:Prop} (e:c=false) (h:B):if c=true then A else B:=by rw [e];exact iteF h
theorem get_ref {ps:Ps}{i:Nat}{y:V} (h:(ps.map fun p=>V.ref p.1)[i]?=some y):∃ p,y=V.ref p.1∧ps[i]?=some p:=by
 rw [List.getElem?_map] at h
 cases e:ps[i]? with
 | none=>rw [e] at h;cases h
 | some z=>rw [e] at h;exact ⟨z,(Option.some.inj h).symm,rfl⟩
theorem take_fold' {α β:Type}{f:β→α→β}{b:β}{ps:List α}{i:Nat}{z:α} (h:ps[i]?=some z):(ps.take (i+1)).foldl f b=f ((ps.take i).foldl f b) z:=by
 obtain ⟨hi,e⟩:=List.getElem?_eq_some_iff.mp h
 rw [List.take_succ_eq_append_getElem hi,List.foldl_append,e]
 rfl
theorem labs_succ {n:Nat}{ps:Ps}{i:Nat}{p:Addr × List Int} (h:ps[i]?=some p):labs n (ps.take (i+1))=jnP (labs n (ps.take i)) p.2:=take_fold' h
theorem labs_ok {n:Nat}:∀ (ps:Ps),(∀ p∈ps,PairOk n p.2)→Lab n (labs n ps):=by
 intro ps
 suffices ∀ l,Lab n l→(∀ p∈ps,PairOk n p.2)→Lab n (ps.foldl (fun l p=>jnP l p.2) l) from this _ (lab0_ok n)
 induction ps with
 | nil=>intro l h _;exact h
 | cons p ps ih=>intro l h hp;exact ih _ (h.jnP (hp p (List.mem_cons_self ..))) fun q hq=>hp q (List.mem_cons_of_mem _ hq)
theorem labs_take {n:Nat}{ps:Ps}{i:Nat} (h:∀ p∈ps,PairOk n p.2):Lab n (labs n (ps.take i)):=labs_ok _ fun p hp=>h p (List.mem_of_mem_take hp)
theorem GAt.other {C:Addr}{H:Hp}{g:Addr}{ls:List Int} (h:GAt C H g ls) {H':Hp} (s:Same H H'):GAt C H' g ls:=by
 obtain ⟨dx,l,e,i⟩:=h.ob
 exact ⟨dx,l,s _ _ e,s.ints i⟩
theorem Kp.trans {g:Addr}{H H1 H2:Hp} (a:Kp g H H1) (b:Kp g H1 H2):Kp g H H2:=fun c o e n=>b c o (a c o e n) n
theorem Kp.of {g:Addr}{H H1:Hp} (a:Same H H1):Kp g H H1:=fun c o e _=>a c o e
theorem Tl.kp {g:Addr}{H H':Hp}{l:Addr}{ps:Ps} (h:Tl H l ps) (k:Kp g H H') {C dx:Addr}{fs:List (Str × V)} (hg:H g=some (.ins C dx fs)):Tl H' l ps:=by
 refine ⟨k _ _ h.is fun e=>?_,fun p hp=>k _ _ (h.tp p hp) fun e=>?_⟩
 · have:=h.is;rw [e,hg] at this;cases this
 · have:=h.tp p hp;rw [e,hg] at this;cases this
def fnd (ps:Ps) (i:Int):Option (Addr × List Int):=ps.foldl (fun o p=>if i=p.2.getD 0 0 then some p else o) none
theorem fnd_mem {ps:Ps}{i:Int}{p:Addr × List Int} (h:fnd ps i=some p):p∈ps:=by
 suffices ∀ (o:Option (Addr × List Int)),(ps.foldl (fun o p=>if i=p.2.getD 0 0 then some p else o) o)=some p→p∈ps∨o=some p from (this none h).elim id fun z=>nomatch z
 clear h
 induction ps with
 | nil=>intro o h;exact .inr h
 | cons q ps ih=>
  intro o h
  rcases ih _ h with z | z
  · exact .inl (List.mem_cons_of_mem _ z)
  · replace z:(if i=q.2.getD 0 0 then some q else o)=some p:=z
    by_cases e:i=q.2.getD 0 0
    · rw [if_pos e] at z;cases z;exact .inl (List.mem_cons_self ..)
    · rw [if_neg e] at z;exact .inr z
def mk (r:List Int) (s:Int):Nat:=(r.getD (nearIx s) 0).toNat
theorem RowOk.mk {n:Nat}{r:List Int} (h:RowOk n r) (s:Int):r.getD (nearIx s) 0=((mk r s:Nat):Int)∧mk r s < n:=by
 obtain ⟨i,a,k,b,rfl,ha,hb⟩:=h
 unfold My.mk nearIx
 split
 · exact ⟨by show (a:Int)=_;simp,by show ((a:Int)).toNat < n;simpa using ha⟩
 · exact ⟨by show (b:Int)=_;simp,by show ((b:Int)).toNat < n;simpa using hb⟩
theorem RowOk.len {n:Nat}{r:List Int} (h:RowOk n r):r.length=4:=by
 obtain ⟨i,a,k,b,rfl,ha,hb⟩:=h
 rfl
def TriOk (r:List Int):Prop:=∃ i j s:Int,r=[i,j,s]∧ -100 < s∧s < 100
def sumL (l:List Int):Nat:=(l.map Int.toNat).sum
theorem sum_map_le {f:Int→Int}:∀ (l:List Int),(∀ v∈l,(f v).toNat≤v.toNat)→sumL (l.map f)≤sumL l:=by
 intro l
 induction l with
 | nil=>intro _;exact Nat.le_refl _
 | cons a l ih=>
  intro h
  have h1:=h a (List.mem_cons_self ..)
  have h2:=ih fun v hv=>h v (List.mem_cons_of_mem _ hv)
  simp only [sumL,List.map_cons,List.sum_cons] at *
  omega
theorem sum_map_lt {f:Int→Int}:∀ (l:List Int),(∀ v∈l,(f v).toNat≤v.toNat)→(∃ v∈l,(f v).toNat < v.toNat)→sumL (l.map f) < sumL l:=by
 intro l
 induction l with
 | nil=>intro _ h;obtain ⟨_,h,_⟩:=h;cases h
 | cons a l ih=>
  intro h he
  have h1:=h a (List.mem_cons_self ..)
  have h3:=sum_map_le l fun v hv=>h v (List.mem_cons_of_mem _ hv)
  obtain ⟨v,hv,hlt⟩:=he
  rcases List.mem_cons.mp hv with rfl | hv
  · simp only [sumL,List.map_cons,List.sum_cons] at *
    omega
  · have h2:=ih (fun v hv=>h v (List.mem_cons_of_mem _ hv)) ⟨v,hv,hlt⟩
    simp only [sumL,List.map_cons,List.sum_cons] at *
    omega
theorem jn_le {n:Nat}{l:List Int} (h:Lab n l) {a b:Nat} (ha:a < n) (hb:b < n):sumL (jn l a b)≤sumL l:=by
 have h1:=h.rng _ (getD_mem (a:=a) (by rw [h.len];exact ha))
 have h2:=h.rng _ (getD_mem (a:=b) (by rw [h.len];exact hb))
 refine sum_map_le l fun v hv=>?_
 split <;> omega
theorem jn_lt {n:Nat}{l:List Int} (h:Lab n l) {a b:Nat} (ha:a < n) (hb:b < n) (ne:l.getD a 0≠l.getD b 0):sumL (jn l a b) < sumL l:=by
 have m1:=getD_mem (l:=l) (a:=a) (by rw [h.len];exact ha)
 have m2:=getD_mem (l:=l) (a:=b) (by rw [h.len];exact hb)
 have h1:=h.rng _ m1
 have h2:=h.rng _ m2
 refine sum_map_lt l (fun v hv=>by split <;> omega) ?_
 by_cases hh:l.getD a 0≤l.getD b 0
 · exact ⟨_,m2,by rw [if_pos (by omega)];omega⟩
 · exact ⟨_,m1,by rw [if_pos (by omega)];omega⟩
theorem jn_eq {l:List Int}{a b:Nat} (e:l.getD a 0=l.getD b 0):jn l a b=l:=by
 unfold jn
 rw [e]
 conv=>rhs;rw [← List.map_id l]
 refine List.map_congr_left fun v _=>?_
 show _=v
 split <;> omega
theorem sumL_le {n:Nat}{l:List Int} (h:Lab n l):sumL l≤n * n:=by
 have:∀ l:List Int,(∀ v∈l,0≤v∧v < n)→sumL l≤l.length * n:=by
  intro l
  induction l with
  | nil=>intro _;exact Nat.zero_le _
  | cons a l ih=>
   intro h
   have h1:=h a (List.mem_cons_self ..)
   have h2:=ih fun v hv=>h v (List.mem_cons_of_mem _ hv)
   simp only [sumL,List.map_cons,List.sum_cons,List.length_cons,Nat.succ_mul] at *
   omega
 have:=this l h.rng
 rwa [h.len] at this
theorem two_lt {n:Nat}{l:List Int} (h:Lab n l) {a b c d:Nat} (ha:a < n) (hb:b < n) (hc:c < n) (hd:d < n) (ne:decide (l.getD a 0=l.getD b 0)≠decide (l.getD c 0=l.getD d 0)):sumL (jn (jn l a b) c d) < sumL l:=by
 by_cases e:l.getD a 0=l.getD b 0
 · have e2:l.getD c 0≠l.getD d 0:=fun z=>ne (by rw [decide_eq_true e,decide_eq_true z])
   rw [jn_eq e]
   exact jn_lt h hc hd e2
 · exact Nat.lt_of_le_of_lt (jn_le (h.jn ha hb) hc hd) (jn_lt h ha hb e)
structure Rdm (P:Program) (w:World) (K:PySem.W.Frag) (mg:Str→Option Value) (base:Heap) (C:Addr) (m:Str) (ps:List Str) (k:Nat) (sp:Sp) where
 f:Addr
 fd:FuncData
 ok:FnOk P w K mg base CX0 k f fd ps sp
 cl:Cls K C
 mt:Meth K C m f
 bd:Binds K fd ps []
theorem Rdm.pe {X:Cx}{m:Str}{C:Addr}{ps:List Str}{k j:Nat}{sp:Sp}{o e:Expr}{es:List Expr}{ta:TE}{t:TA}{apos pos:Pos}{pl:Sem Bool} (R:Rdm X.prog X.w X.K X.mg X.base C m ps k sp) (hr:Room j X.A) (ho:PE X o ta) (ha:PA X (e::es) t) (hj:k≤j:=by decide)
  (he:starEach (e::es) X.env=(false,eval e X.env)::starEach es X.env:=by rfl) (hpl:(backTo pos (starEach es X.env)).any (·.1)=false:=by rfl)
  (ht:eval (.Call (.Attribute o m apos) (e::es) [] pos) X.env=(do
   let ov ← eval o X.env
   standAt apos.atName
   let (f,first) ← holding [ov] (getMethod ov m pl)
   callWith pos f first (backTo pos (starEach (e::es) X.env)) (backToKw pos (keywordEach [] X.env))):=by rfl):
  PE X (.Call (.Attribute o m apos) (e::es) [] pos) (tMeth C m sp [] E0 ta t):=pe_meth ho R.cl R.mt R.ok (hr.mono hj) R.bd .nil pass0 ha he hpl ht
structure Rdk (P:Program) (w:World) (K:PySem.W.Frag) (mg:Str→Option Value) (base:Heap) (C:Addr) (x:Str) (ps:List Str) (k:Nat) (sp:Sp) where
 f:Addr
 fd:FuncData
 ok:FnOk P w K mg base CX0 k f fd ps sp
 mkf:Mk K C f
 mgx:mg x=some (.ref C)
 bd:Binds K fd ps []
theorem Rdk.pe {X:Cx}{x:Str}{C:Addr}{ps:List Str}{k j:Nat}{sp:Sp}{e:Expr}{es:List Expr}{t:TA}{p pos:Pos} (R:Rdk X.prog X.w X.K X.mg X.base C x ps k sp) (hr:Room j X.A) (ha:PA X (e::es) t) (hg:Gl X x:=by rfl) (hj:k+1≤j:=by decide)
  (hdb:(x == ("__debug__":Str))=false:=by decide) (he:starEach (e::es) X.env=(false,eval e X.env)::starEach es X.env:=by rfl) (hpl:(backTo pos (starEach es X.env)).any (·.1)=false:=by rfl):
  PE X (.Call (.Name x p) (e::es) [] pos) (tMake C sp [] E0 t):=pe_make R.mkf R.ok (hr.mono hj) hg R.mgx R.bd .nil pass0 ha hdb he hpl
open PySem.SeqAt PyProof.Rows
theorem rd_atV {K:PySem.W.Frag}{H:Hp}{a:Addr}{xs:List V}{i:Int}{v:V}{Q:VK} (hq:H a=some (.lst xs)) (e:atI xs i=some v) (h:Q v H):Wr (rIxL K (.ref a) (.int i) H Q):=⟨⟨a,xs,i,v,rfl,rfl,SqL.of hq,e,h⟩⟩
theorem rd_lstV {H:Hp}{xs:List V}{Q:VK} (hl:xs.length≤1000) (h:∀ (p:Addr) (H':Hp),H p=none→H' p=some (.lst xs)→Same H H'→Q (.ref p) H'):Wr (rLst xs H Q):=
 ⟨⟨Nat.le_of_lt (small4k (by omega)),fun p hp=>h p _ hp upd_same ((Same.refl H).upd hp)⟩⟩
theorem Rdm.pe0 {X:Cx}{m:Str}{C:Addr}{ps:List Str}{k j:Nat}{sp:Sp}{o:Expr}{ta:TE}{apos pos:Pos}{pl:Sem Bool} (R:Rdm X.prog X.w X.K X.mg X.base C m ps k sp) (hr:Room j X.A) (ho:PE X o ta) (hj:k≤j:=by decide)
  (ht:eval (.Call (.Attribute o m apos) [] [] pos) X.env=(do
   let ov ← eval o X.env
   standAt apos.atName
   let (f,first) ← holding [ov] (getMethod ov m pl)
   callWith pos f first (backTo pos (starEach [] X.env)) (backToKw pos (keywordEach [] X.env))):=by rfl):
  PE X (.Call (.Attribute o m apos) [] [] pos) (tMeth C m sp [] E0 ta tNil):=pe_meth0 ho R.cl R.mt R.ok (hr.mono hj) R.bd .nil pass0 ht
end My
namespace L2
open PySem PySem.Spec PyProof.Rows PySem.W
section
variable {prog:Program}{w:World}{κ:Type} [DecidableEq κ] {kn:HeapKind prog w κ}{A:Around}{E:Value→Shared→Prop}{s:Shared}
def DH (kn:HeapKind prog w κ) (h:Heap) (d:Addr) (xs:List (κ × Addr × Value)) (n:Nat):Prop:=∃ ob en,h.get? d=some ob∧ob.ExactDict∧ob.data=.dict en n∧en.toList=xs.map (entryOfKey kn)
theorem DH.ty {d:Addr}{xs:List (κ × Addr × Value)}{n:Nat} (x:DH kn s.heap d xs n):s.TypeIs (.ref d) "dict":=let ⟨ob,_,e,c,_⟩:=x;⟨ob,e,c.1⟩
theorem DH.to {h h':Heap}{d:Addr}{xs:List (κ × Addr × Value)}{n:Nat} (x:DH kn h d xs n) (k:∀ ob,h.get? d=some ob→h'.get? d=some ob):DH kn h' d xs n:=let ⟨ob,en,e,r⟩:=x;⟨ob,en,k ob e,r⟩
theorem DH.lt {h:Heap}{d:Addr}{xs:List (κ × Addr × Value)}{n:Nat} (x:DH kn h d xs n):d < h.objs.size:=let ⟨_,_,e,_⟩:=x;Heap.lt_size e
theorem dh_iter {d:Addr}{xs:List (κ × Addr × Value)}{n:Nat}{Q:Value→Shared→Prop} (ns:(d == sysModules)=false) (x:DH kn s.heap d xs n)
  (k:Q (.ref s.heap.objs.size) { s with heap:=s.heap.push { cls:=.type "dict_keyiterator",data:=.fields #[.ref d,.int 0 0,.int xs.length 0,.int n 0] } }):wpAny (model prog w) A (pyIter (.ref d)) Q E s:=by
 have ty:=x.ty
 obtain ⟨ob,en,eo,_,ed,el⟩:=x
 have sz:en.size=xs.length:=size_of_entries el
 refine wpAny_pyIter_slot ty PySem.F.slot_dict_iter (wpAny_call_entry PySem.F.slot_dict_iter ty PySem.F.entry_dict_iter ?_ (PySem.F.args_dict_iter_1 _))
 unfold Builtin.«dict.__iter__» Builtin.Dict.dictSlotNone
 refine wpAny_bind (wpAny_bind (wpAny_notOrdered_dict ty ?_))
 refine wpAny_pure (α:=Value) (a:=.ref d) ?_
 show wpAny _ _ (Builtin.Dict.showsAll d >>= fun _=>_) _ _ _
 unfold Builtin.Dict.showsAll
 rw [ns,if_neg Bool.false_ne_true]
 refine wpAny_bind (wpAny_pure (wpAny_bind (wpAny_dictEntries eo ed (wpAny_bind (wpAny_dictEpoch eo ed (wpAny_bind (wpAny_newObj_type (wpAny_pure ⟨_,rfl,"dict_keyiterator",_,⟨_,Heap.get?_push_size _ rfl,rfl⟩,PySem.F.slot_dict_keyiterator_next.lookup,?_⟩))))))))
 simpa [rawInt,sz] using k
theorem dh_next {it d:Addr}{xs:List (κ × Addr × Value)}{i n:Nat}{Q:Option Value→Shared→Prop} (hi:s.heap.IsKeyIter it d i xs.length n) (x:DH kn s.heap d xs n) (p:κ × Addr × Value) (hp:xs[i]?=some p)
  (k:∀ h',h'.IsKeyIter it d (i+1) xs.length n→Heap.SameBut it s.heap h'→Q (some (.ref p.2.1)) { s with heap:=h' }):wpAny (model prog w) A (pyNext (.ref it)) Q E s:=by
 have tI:=hi.typeIs
 obtain ⟨oi,ei,ci,di⟩:=id hi
 obtain ⟨ob,en,eo,_,ed,el⟩:=x
 have sz:en.size=xs.length:=size_of_entries el
 have at_:en[i]?=some ⟨kn.hash p.1,.ref p.2.1,p.2.2⟩:=by rw [entry_at el,hp];rfl
 unfold pyNext
 refine wpAny_bind (wpAny_attempt (wpAny_callSpecial?_slot (name:=Str.ofString "__next__") tI PySem.F.slot_dict_keyiterator_next (wpAny_call_entry PySem.F.slot_dict_keyiterator_next tI PySem.F.entry_dict_keyiterator_next ?_ (PySem.F.args_dict_keyiterator_next_1 _))))
 refine wpAny_bind (wpAny_pure (wpAny_bind (wpAny_bind ?_)))
 refine wpAny_bind (wpAny_typeNameOfWhole_keyiter tI (wpAny_pure (wpAny_bind (wpAny_fieldsOf ei di ?_))))
 simp only [show Builtin.Dict_items.ownsTuple "dict_keyiterator"=false from by decide,Bool.false_eq_true,if_false]
 have nn:¬ ((Value.ref d == Value.none)=true):=Bool.false_ne_true
 show wpAny _ _ (ite ((Value.ref d == Value.none)=true) _ _) _ _ _
 rw [if_neg nn]
 refine wpAny_bind (wpAny_pure (wpAny_bind (wpAny_dictEntries eo ed ?_)))
 rw [sz,if_neg (by simp)]
 refine wpAny_bind (wpAny_pure (wpAny_bind (wpAny_dictEpoch eo ed ?_)))
 rw [if_neg (by simp)]
 refine wpAny_pure ?_
 simp only [show ¬ ((i:Int) < 0) from by omega,if_false,Int.toNat_natCast,at_]
 refine wpAny_bind (wpAny_bind (wpAny_typeNameOfWhole_keyiter tI (wpAny_pure (wpAny_bind (wpAny_isOneOf_keyiter tI ?_)))))
 refine wpAny_bind (m:=setField (.ref it) 1 (rawInt ((i:Int)+1))) (wpAny_setField ei di (by simp) ?_)
 have hi2:(s.heap.update it (Obj.mapFields fun vs=>vs.setIfInBounds 1 (rawInt ((i:Int)+1)))).IsKeyIter it d (i+1) xs.length n:=by
  refine ⟨_,Heap.get?_update_self _ ei (Obj.isFreed_of_fields (Obj.data_mapFields di _)),(Obj.cls_mapFields ..).trans ci,?_⟩
  rw [Obj.data_mapFields di]
  simp [rawInt]
 refine wpAny_bind (wpAny_holding (wpAny_bind (wpAny_isOneOf_keyiter (s:={ s with heap:=s.heap.update it (Obj.mapFields fun vs=>vs.setIfInBounds 1 (rawInt ((i:Int)+1))) }) hi2.typeIs ?_)))
 exact wpAny_pure (wpAny_pure ⟨_,rfl,wpAny_pure (k _ hi2 (Heap.SameBut.update ..))⟩)
theorem dh_end {it d:Addr}{xs:List (κ × Addr × Value)}{i n:Nat}{Q:Option Value→Shared→Prop} (hh:A.handled=none) (hi:s.heap.IsKeyIter it d i xs.length n) (x:DH kn s.heap d xs n) (hp:xs.length≤i)
  (k:∀ h',Heap.ExtBut it s.heap h'→Q none { s with heap:=h' }):wpAny (model prog w) A (pyNext (.ref it)) Q E s:=by
 have tI:=hi.typeIs
 obtain ⟨oi,ei,ci,di⟩:=id hi
 obtain ⟨ob,en,eo,_,ed,el⟩:=x
 have sz:en.size=xs.length:=size_of_entries el
 have at_:en[i]?=none:=Array.getElem?_eq_none (by omega)
 unfold pyNext
 refine wpAny_bind (wpAny_attempt (wpAny_callSpecial?_slot (name:=Str.ofString "__next__") tI PySem.F.slot_dict_keyiterator_next (wpAny_call_entry PySem.F.slot_dict_keyiterator_next tI PySem.F.entry_dict_keyiterator_next ?_ (PySem.F.args_dict_keyiterator_next_1 _))))
 refine wpAny_bind (wpAny_pure (wpAny_bind (wpAny_bind ?_)))
 refine wpAny_bind (wpAny_typeNameOfWhole_keyiter tI (wpAny_pure (wpAny_bind (wpAny_fieldsOf ei di ?_))))
 simp only [show Builtin.Dict_items.ownsTuple "dict_keyiterator"=false from by decide,Bool.false_eq_true,if_false]
 have nn:¬ ((Value.ref d == Value.none)=true):=Bool.false_ne_true
 show wpAny _ _ (ite ((Value.ref d == Value.none)=true) _ _) _ _ _
 rw [if_neg nn]
 refine wpAny_bind (wpAny_pure (wpAny_bind (wpAny_dictEntries eo ed ?_)))
 rw [sz,if_neg (by simp)]
 refine wpAny_bind (wpAny_pure (wpAny_bind (wpAny_dictEpoch eo ed ?_)))
 rw [if_neg (by simp)]
 refine wpAny_pure ?_
 simp only [show ¬ ((i:Int) < 0) from by omega,if_false,Int.toNat_natCast,at_]
 refine wpAny_bind (wpAny_bind (wpAny_typeNameOfWhole_keyiter tI (wpAny_pure ?_)))
 refine wpAny_bind (m:=setField (.ref it) 0 .none) (wpAny_setField ei di (by simp) ?_)
 refine wpAny_bind (m:=newExc (.type "StopIteration") []) ?_
 simp only [newExc,newTuple]
 refine wpAny_bind (wpAny_newObj_type (wpAny_bind (m:=firstArgMember _ _) (wpAny_of_eq (a:=Value.none) (by first | rfl | (simp only [firstArgMember];rfl)) (wpAny_newObj_type ?_ (by size_fits)))) (by size_fits))
 simp only [raiseNew]
 refine wpAny_bind (wpAny_handled ?_)
 rw [show A.in1.handled=none from hh]
 refine wpAny_bind (wpAny_pure (wpAny_throw ?_))
 refine wpAny_bind (wpAny_isInstance (T:="StopIteration") (b:=true) ⟨_,Heap.get?_push_size _ rfl,rfl⟩ isSubtype_stop (wpAny_pure ?_))
 exact k _ (((Heap.SameBut.update ..).extBut.push _).push _)
theorem dh_walks (hh:A.handled=none) (it d:Addr) (ne:d≠it) (xs:List (κ × Addr × Value)) (n:Nat):
  Walks prog w A it [it,d] [it] xs.length (fun i v=>∃ p,xs[i]?=some p∧v=.ref p.2.1) (fun i h=>h.IsKeyIter it d i xs.length n∧DH kn h d xs n) where
 sub:=fun b hb=>List.mem_cons.mpr (.inl (List.mem_singleton.mp hb))
 frame:=fun _ _ _ st k=>⟨st.1.at fun ob e=>k it (List.mem_cons_self ..) ob e,st.2.to fun ob e=>k d (List.mem_cons_of_mem _ (List.mem_cons_self ..)) ob e⟩
 item:=fun i s Q E lt st q=>by
  refine dh_next st.1 st.2 xs[i] (List.getElem?_eq_getElem lt) fun h' hi' sb=>?_
  exact q _ h' s.toks ⟨_,List.getElem?_eq_getElem lt,rfl⟩ ⟨hi',st.2.to fun ob e=>sb.extBut d ob ne e⟩ fun b ob nb e=>sb.extBut b ob (fun z=>nb (z▸List.mem_singleton_self _)) e
 done:=fun s Q E st q=>dh_end hh st.1 st.2 (Nat.le_refl _) fun h' ex=>q h' s.toks fun b ob nb e=>ex b ob (fun z=>nb (z▸List.mem_singleton_self _)) e
 self:=fun _ _ _ _ st q=>wpAny_pyIter_keyiter st.1 q
theorem dh_src {d:Addr}{xs:List (κ × Addr × Value)}{n:Nat} (ns:(d == sysModules)=false):KdlSrc prog w "dict" d d xs.length (fun i v=>∃ p,xs[i]?=some p∧v=.ref p.2.1) (fun h=>DH kn h d xs n) where
 type:=fun _ x=>x.ty
 there:=fun _ x=>⟨x.lt,x.lt⟩
 keep:=fun _ _ x k=>x.to fun ob e=>k d (.inl rfl) ob e
 notList:=by decide
 notTuple:=by decide
 hint:=fun _ _ _ _ x q=>kdl_hint_dict x.ty q
 iter:=fun _ _ hh x=>⟨_,_,(fun _ _ q=>dh_iter ns x q),dh_walks hh _ d (Nat.ne_of_lt x.lt) xs n,⟨⟨_,Heap.get?_push_size _ rfl,rfl,rfl⟩,x.to fun ob e=>Heap.get?_push_of_some _ e⟩⟩
end
section
variable {X:Cx}
def rListD (xs:List V) (H:Hp) (Q:VK):Prop:=∃ (d:Addr) (kvs:List (List Key × V)),xs=[.ref d]∧H d=some (.dT kvs)∧
 ∀ (ts:List Addr) (l:Addr),H l=none→ts.length=kvs.length→(∀ (i:Nat) (t:Addr) (p:List Key × V),ts[i]?=some t→kvs[i]?=some p→H t=some (.tup (p.1.map kV)))→Q (.ref l) (upd H l (.lst (ts.map V.ref)))
theorem call_listD (hc:X.calm=true):CallR X (.type "list") (fun xs H Q=>Wr (rListD xs H Q)):=by
 intro pins s σ H xs us Q I r h
 obtain ⟨d,kvs,rfl,hd,q⟩:=h.get
 obtain ⟨u,rfl,ru⟩:=r.one
 cases ru
 obtain ⟨z,ns,es,kt,ob,en,ep,e1,e2,e3,e4,e5,e6⟩:=dt_of I.hok hd
 have lk:kvs.length=es.length:=Paired.length kt
 refine kdl_call (dh_src (kn:=tupleKind (mixKind X.prog X.w)) (xs:=es) (n:=ep) ns) (I.ok.hd hc) ⟨ob,en,e1,e2,e3,e4⟩ (by rw [← lk];exact z) fun h' tk acc c hk hS hacc=>?_
 refine ⟨.ref s.heap.objs.size,_,I.laid (t':=tk) (o:=.lst ((es.map fun p=>p.2.1).map V.ref)) hk (Nat.le_refl _) ?_,rfl,q (es.map fun p=>p.2.1) _ (I.hok.fresh (Nat.le_refl _)) (by rw [List.length_map];exact lk.symm) fun i t p ht hp=>?_⟩
 · refine ⟨by rw [List.length_map,List.length_map, ← lk];exact z,acc.toList,c,?_,by simpa using hS⟩
   have ha:acc.toList=es.map fun p=>Value.ref p.2.1:=by
    apply List.ext_getElem?
    intro i
    rw [List.getElem?_map,Array.getElem?_toList]
    by_cases hi:i < es.length
    · obtain ⟨v,hv⟩:∃ v,acc[i]?=some v:=⟨acc[i]'(by rw [hacc.1];exact hi),Array.getElem?_eq_getElem _⟩
      obtain ⟨p,hp,rfl⟩:=hacc.2 i v hv
      rw [hv,hp];rfl
    · rw [Array.getElem?_eq_none (by rw [hacc.1];omega),List.getElem?_eq_none (by omega)];rfl
   rw [ha]
   have gen:∀ l:List (List Key × Addr × Value),Vals ((l.map fun p=>p.2.1).map V.ref) (l.map fun p=>Value.ref p.2.1):=by
    intro l
    induction l with
    | nil=>exact .nil
    | cons p l ih=>exact .cons rfl ih
   exact gen es
 · have gen:∀ {a:List (List Key × V)}{b:List (List Key × Addr × Value)},KT H a b→∀ (i:Nat) (t:Addr) (p:List Key × V),(b.map fun p=>p.2.1)[i]?=some t→a[i]?=some p→H t=some (.tup (p.1.map kV)):=by
     intro a b kt
     induction kt with
     | nil=>intro i t p _ hp;simp at hp
     | @cons x y _ _ hxy _ ih=>
      intro i t p ht hp
      cases i with
      | zero=>
       have ht:y.2.1=t:=by simpa using ht
       have hp:x=p:=by simpa using hp
       subst ht hp
       exact hxy.2.1
      | succ i=>exact ih i t p (by simpa using ht) (by simpa using hp)
   exact gen kt i t p ht hp
end
end L2
namespace My
open PySem L2
structure FS where
 l:List Int
 D:Nat→List (List Key × V)
 W:List (Addr × Addr × Int)
 ss:List (List Int)
def key (k s:Int):List Key:=[.inl k,.inl s]
def fput (st:FS) (m:Nat) (k s:Int) (a:Addr):FS:=
 match valV (st.D m) (key k s) with
 | some (.ref b)=>{ st with W:=st.W++[(b,a,s)] }
 | some _=>st
 | none=>{ st with D:=fun i=>if i=m then putK (st.D m) (key k s) (.ref a) else st.D i }
def at_ (l:List Int) (m:Nat):Nat:=(l.getD m 0).toNat
def flay (rd:Addr→List Int) (st:FS) (a:Addr):FS:=
 let st1:=fput st (at_ st.l (mk (rd a) 1)) ((rd a).getD 2 0) 1 a
 fput st1 (at_ st1.l (mk (rd a) (-1))) ((rd a).getD 2 0) (-1) a
def fone (low:Nat) (s:FS) (e:List Key × V):FS:=
 match e.1,e.2 with
 | [.inl k,.inl sd],.ref r=>fput s low k sd r
 | _,_=>s
def lowOf (l:List Int) (a b:Nat):Nat:=(min (l.getD a 0) (l.getD b 0)).toNat
def highOf (l:List Int) (a b:Nat):Nat:=(max (l.getD a 0) (l.getD b 0)).toNat
def fmerge (st:FS) (a b:Nat):FS:=(st.D (highOf st.l a b)).foldl (fone (lowOf st.l a b)) { st with l:=jn st.l (lowOf st.l a b) (highOf st.l a b) }
def fstep (rd:Addr→List Int) (st:FS) (x y:Addr) (s:Int):FS:=
 if st.l.getD (mk (rd x) (-s)) 0=st.l.getD (mk (rd y) (-s)) 0 then st
 else fmerge { st with ss:=st.ss++[[(rd x).getD 0 0,(rd y).getD 0 0,s]] } (mk (rd x) (-s)) (mk (rd y) (-s))
theorem fput_l (st:FS) (m:Nat) (k s:Int) (a:Addr):(fput st m k s a).l=st.l:=by
 unfold fput;split <;> rfl
theorem fput_ss (st:FS) (m:Nat) (k s:Int) (a:Addr):(fput st m k s a).ss=st.ss:=by
 unfold fput;split <;> rfl
structure Rows (n:Nat) (rows:List Addr) (rd:Addr→List Int):Prop where
 row:∀ r∈rows,RowOk n (rd r)
 kind:∀ r∈rows,1≤(rd r).getD 2 0∧(rd r).getD 2 0≤5
def Side (s:Int):Prop:=s=1∨s= -1
structure DoorOk (rows:List Addr) (rd:Addr→List Int) (l:List Int) (m:Nat) (e:List Key × V):Prop where
 is:∃ (s:Int) (r:Addr),e=(key ((rd r).getD 2 0) s,.ref r)∧r∈rows∧Side s∧l.getD (mk (rd r) s) 0=l.getD m 0
structure WaitOk (rows:List Addr) (rd:Addr→List Int) (l:List Int) (e:Addr × Addr × Int):Prop where
 x:e.1∈rows
 y:e.2.1∈rows
 s:Side e.2.2
 k:(rd e.1).getD 2 0=(rd e.2.1).getD 2 0
 n:l.getD (mk (rd e.1) e.2.2) 0=l.getD (mk (rd e.2.1) e.2.2) 0
structure FOk (n:Nat) (rows:List Addr) (rd:Addr→List Int) (st:FS):Prop where
 lab:Lab n st.l
 idm:∀ a,a < n→st.l.getD (at_ st.l a) 0=st.l.getD a 0
 dom:∀ m,m < n→∀ e∈st.D m,DoorOk rows rd st.l m e
 nd:∀ m,m < n→((st.D m).map (·.1)).Nodup
 wt:∀ e∈st.W,WaitOk rows rd st.l e
theorem at_lt {n:Nat}{l:List Int} (L:Lab n l) {m:Nat} (h:m < n):at_ l m < n∧(at_ l m:Int)=l.getD m 0:=by
 have:=L.rng _ (getD_mem (a:=m) (by rw [L.len];exact h))
 unfold at_
 omega
def allKeys:List (List Key):=[key 1 1,key 1 (-1),key 2 1,key 2 (-1),key 3 1,key 3 (-1),key 4 1,key 4 (-1),key 5 1,key 5 (-1)]
theorem nodup_len {α:Type} [DecidableEq α]:∀ (a b:List α),a.Nodup→(∀ x∈a,x∈b)→a.length≤b.length
 | [],b,_,_=>Nat.zero_le _
 | x::a,b,nd,h=>by
  have hx:=h x (List.mem_cons_self ..)
  have:=nodup_len a (b.erase x) nd.tail fun y hy=>by
   have hne:y≠x:=fun e=>by
    have:=(List.nodup_cons.mp nd).1
    rw [e] at hy
    exact this hy
   exact (List.mem_erase_of_ne hne).mpr (h y (List.mem_cons_of_mem _ hy))
  rw [List.length_erase_of_mem hx] at this
  have:=List.length_pos_of_mem hx
  simp only [List.length_cons]
  omega
theorem FOk.dlen {n:Nat}{rows:List Addr}{rd:Addr→List Int}{st:FS} (R:Rows n rows rd) (h:FOk n rows rd st) {m:Nat} (hm:m < n):(st.D m).length≤10:=by
 have:=nodup_len ((st.D m).map (·.1)) allKeys (h.nd m hm) fun k hk=>by
  obtain ⟨e,he,rfl⟩:=List.mem_map.mp hk
  obtain ⟨s,r,rfl,hr,hs,_⟩:=(h.dom m hm e he).is
  obtain ⟨k1,k5⟩:=R.kind r hr
  generalize (rd r).getD 2 0=k at k1 k5
  have:k=1∨k=2∨k=3∨k=4∨k=5:=by omega
  rcases hs with rfl | rfl <;> rcases this with rfl | rfl | rfl | rfl | rfl <;> simp [allKeys,key]
 rw [List.length_map] at this
 exact this
theorem mem_putK {kvs:List (List Key × V)}{k:List Key}{v:V}{e:List Key × V} (h:valV kvs k=none) (he:e∈putK kvs k v):e∈kvs∨e=(k,v):=by
 rw [putK_new v h] at he
 rcases List.mem_append.mp he with z | z
 · exact .inl z
 · exact .inr (List.mem_singleton.mp z)
theorem valV_mem:∀ {kvs:List (List Key × V)}{k:List Key}{v:V},valV kvs k=some v→(k,v)∈kvs
 | [],k,v,h=>by cases h
 | p::r,k,v,h=>by
  by_cases e:p.1=k
  · rw [valV_pos e] at h
    cases h
    rw [← e]
    exact List.mem_cons_self ..
  · rw [valV_neg e] at h
    exact List.mem_cons_of_mem _ (valV_mem h)
theorem valV_of_nd:∀ {kvs:List (List Key × V)}{e:List Key × V},(kvs.map (·.1)).Nodup→e∈kvs→valV kvs e.1=some e.2
 | [],e,_,h=>by cases h
 | p::r,e,nd,h=>by
  rcases List.mem_cons.mp h with rfl | h
  · exact valV_pos rfl
  · have:¬ p.1=e.1:=fun z=>by
      have:¬ p.1∈r.map (·.1):=(List.nodup_cons.mp nd).1
      rw [z] at this
      exact this (List.mem_map.mpr ⟨e,h,rfl⟩)
    rw [valV_neg this]
    exact valV_of_nd (List.nodup_cons.mp nd).2 h
theorem FOk.put {n:Nat}{rows:List Addr}{rd:Addr→List Int}{st:FS} (h:FOk n rows rd st) {m:Nat} (hm:m < n) {a:Addr}{s:Int} (ha:a∈rows) (hs:Side s) (hl:st.l.getD (My.mk (rd a) s) 0=st.l.getD m 0):
  FOk n rows rd (fput st m ((rd a).getD 2 0) s a):=by
 unfold fput
 cases e:valV (st.D m) (key ((rd a).getD 2 0) s) with
 | none=>
  refine ⟨h.lab,h.idm,fun i hi x hx=>?_,fun i hi=>?_,h.wt⟩
  · have hx:x∈(if i=m then putK (st.D m) (key ((rd a).getD 2 0) s) (.ref a) else st.D i):=hx
    by_cases him:i=m
    · rw [if_pos him] at hx
      rcases mem_putK e hx with z | z
      · exact him▸h.dom m hm x z
      · exact ⟨s,a,z,ha,hs,by rw [him];exact hl⟩
    · rw [if_neg him] at hx
      exact h.dom i hi x hx
  · show ((if i=m then putK (st.D m) (key ((rd a).getD 2 0) s) (.ref a) else st.D i).map (·.1)).Nodup
    by_cases him:i=m
    · rw [if_pos him];exact nd_putK _ (h.nd m hm) e
    · rw [if_neg him];exact h.nd i hi
 | some v=>
  obtain ⟨s',r,er,hr,hs',hlr⟩:=(h.dom m hm _ (valV_mem e)).is
  have e1:key ((rd a).getD 2 0) s=key ((rd r).getD 2 0) s':=(Prod.mk.inj er).1
  obtain rfl:v=.ref r:=(Prod.mk.inj er).2
  have e2:(rd a).getD 2 0=(rd r).getD 2 0:=Sum.inl.inj (List.cons.inj e1).1
  have e3:s=s':=Sum.inl.inj (List.cons.inj (List.cons.inj e1).2).1
  subst e3
  refine ⟨h.lab,h.idm,h.dom,h.nd,fun x hx=>?_⟩
  rcases List.mem_append.mp hx with z | z
  · exact h.wt x z
  · obtain rfl:=List.mem_singleton.mp z
    exact ⟨hr,ha,hs,e2.symm,hlr.trans hl.symm⟩
theorem fput_W (st:FS) (m:Nat) (k s:Int) (a:Addr):(fput st m k s a).W.length≤st.W.length+1:=by
 unfold fput
 split
 · simp
 · simp
 · simp
theorem jn_keep {l:List Int}{a b:Nat}{x y:Nat} (hx:x < l.length) (hy:y < l.length) (h:l.getD x 0=l.getD y 0):(jn l a b).getD x 0=(jn l a b).getD y 0:=by
 unfold jn
 simp only [List.getD,List.getElem?_map,List.getElem?_eq_getElem hx,List.getElem?_eq_getElem hy,Option.map_some,Option.getD_some] at h ⊢
 rw [h]
theorem jn_at {l:List Int}{a b x:Nat} (hx:x < l.length):(jn l a b).getD x 0=if l.getD x 0=max (l.getD a 0) (l.getD b 0) then min (l.getD a 0) (l.getD b 0) else l.getD x 0:=by
 unfold jn
 simp only [List.getD,List.getElem?_map,List.getElem?_eq_getElem hx,Option.map_some,Option.getD_some]
 rfl
theorem low_high {n:Nat}{l:List Int} (L:Lab n l) {a b:Nat} (ha:a < n) (hb:b < n):lowOf l a b < n∧highOf l a b < n∧(lowOf l a b:Int)=min (l.getD a 0) (l.getD b 0)∧(highOf l a b:Int)=max (l.getD a 0) (l.getD b 0):=by
 have h1:=L.rng _ (getD_mem (a:=a) (by rw [L.len];exact ha))
 have h2:=L.rng _ (getD_mem (a:=b) (by rw [L.len];exact hb))
 unfold lowOf highOf
 omega
theorem low_lab {n:Nat}{l:List Int} (L:Lab n l) (I:∀ a,a < n→l.getD (at_ l a) 0=l.getD a 0) {a b:Nat} (ha:a < n) (hb:b < n):l.getD (lowOf l a b) 0=lowOf l a b∧l.getD (highOf l a b) 0=highOf l a b:=by
 obtain ⟨_,_,e1,e2⟩:=low_high L ha hb
 have i1:=I a ha
 have i2:=I b hb
 have a1:=(at_lt L ha).2
 have a2:=(at_lt L hb).2
 have:(lowOf l a b=at_ l a∧highOf l a b=at_ l b)∨(lowOf l a b=at_ l b∧highOf l a b=at_ l a):=by
  by_cases h:l.getD a 0≤l.getD b 0
  · left;omega
  · right;omega
 rcases this with ⟨x,y⟩ | ⟨x,y⟩
 · rw [x,y,i1,i2];omega
 · rw [x,y,i1,i2];omega
theorem jn_low {n:Nat}{l:List Int} (L:Lab n l) (I:∀ a,a < n→l.getD (at_ l a) 0=l.getD a 0) {a b:Nat} (ha:a < n) (hb:b < n):jn l (lowOf l a b) (highOf l a b)=jn l a b:=by
 obtain ⟨e1,e2⟩:=low_lab L I ha hb
 obtain ⟨_,_,e3,e4⟩:=low_high L ha hb
 unfold jn
 rw [e1,e2,e3,e4]
 refine List.map_congr_left fun v _=>?_
 have m1:max (min (l.getD a 0) (l.getD b 0)) (max (l.getD a 0) (l.getD b 0))=max (l.getD a 0) (l.getD b 0):=by omega
 have m2:min (min (l.getD a 0) (l.getD b 0)) (max (l.getD a 0) (l.getD b 0))=min (l.getD a 0) (l.getD b 0):=by omega
 rw [m1,m2]
theorem idm_jn {n:Nat}{l:List Int} (L:Lab n l) (I:∀ a,a < n→l.getD (at_ l a) 0=l.getD a 0) {a b:Nat} (ha:a < n) (hb:b < n):∀ x,x < n→(jn l a b).getD (at_ (jn l a b) x) 0=(jn l a b).getD x 0:=by
 intro x hx
 have Lj:=L.jn ha hb
 have hxl:x < l.length:=by rw [L.len];exact hx
 have ex:=jn_at (l:=l) (a:=a) (b:=b) hxl
 obtain ⟨lo,hi,e1,e2⟩:=low_high L ha hb
 obtain ⟨q1,q2⟩:=low_lab L I ha hb
 by_cases h:l.getD x 0=max (l.getD a 0) (l.getD b 0)
 · rw [if_pos h] at ex
   have:at_ (jn l a b) x=lowOf l a b:=by unfold at_;rw [ex];rfl
   rw [this,jn_at (by rw [L.len];exact lo),q1,e1,ex]
   split
   · rfl
   · rfl
 · rw [if_neg h] at ex
   have:at_ (jn l a b) x=at_ l x:=by unfold at_;rw [ex]
   rw [this,jn_at (by rw [L.len];exact (at_lt L hx).1),I x hx,if_neg h,ex]
theorem FOk.join {n:Nat}{rows:List Addr}{rd:Addr→List Int}{st:FS} (R:Rows n rows rd) (h:FOk n rows rd st) {a b:Nat} (ha:a < n) (hb:b < n):FOk n rows rd { st with l:=jn st.l a b }:=by
 have ll:=h.lab.len
 refine ⟨h.lab.jn ha hb,idm_jn h.lab h.idm ha hb,fun m hm e he=>?_,h.nd,fun e he=>?_⟩
 · obtain ⟨s,r,er,hr,hs,hl⟩:=(h.dom m hm e he).is
   exact ⟨s,r,er,hr,hs,jn_keep (by rw [ll];exact ((R.row r hr).mk s).2) (by rw [ll];exact hm) hl⟩
 · obtain ⟨x,y,s,k,nn⟩:=h.wt e he
   exact ⟨x,y,s,k,jn_keep (by rw [ll];exact ((R.row _ x).mk _).2) (by rw [ll];exact ((R.row _ y).mk _).2) nn⟩
theorem fput_D (st:FS) {m j:Nat} (k s:Int) (a:Addr) (h:j≠m):(fput st m k s a).D j=st.D j:=by
 unfold fput
 split
 · rfl
 · rfl
 · show (if j=m then _ else st.D j)=_
   rw [if_neg h]
theorem fone_D (st:FS) {m j:Nat} (e:List Key × V) (h:j≠m):(fone m st e).D j=st.D j:=by
 unfold fone
 split
 · exact fput_D st _ _ _ h
 · rfl
theorem fold_ok {n:Nat}{rows:List Addr}{rd:Addr→List Int}{low:Nat} (hlow:low < n):∀ (es:List (List Key × V)) (st:FS),FOk n rows rd st→(∀ e∈es,DoorOk rows rd st.l low e)→
  FOk n rows rd (es.foldl (fone low) st)∧(es.foldl (fone low) st).l=st.l∧(es.foldl (fone low) st).ss=st.ss∧(es.foldl (fone low) st).W.length≤st.W.length+es.length:=by
 intro es
 induction es with
 | nil=>intro st h _;exact ⟨h,rfl,rfl,Nat.le_refl _⟩
 | cons e es ih=>
  intro st h he
  obtain ⟨s,r,er,hr,hs,hl⟩:=(he e (List.mem_cons_self ..)).is
  subst er
  have h1:FOk n rows rd (fone low st (key ((rd r).getD 2 0) s,.ref r)):=h.put hlow hr hs hl
  have l1:(fone low st (key ((rd r).getD 2 0) s,.ref r)).l=st.l:=fput_l ..
  have s1:(fone low st (key ((rd r).getD 2 0) s,.ref r)).ss=st.ss:=fput_ss ..
  have w1:(fone low st (key ((rd r).getD 2 0) s,.ref r)).W.length≤st.W.length+1:=fput_W ..
  obtain ⟨a1,a2,a3,a4⟩:=ih _ h1 (fun e' h'=>by rw [l1];exact he e' (List.mem_cons_of_mem _ h'))
  refine ⟨a1,a2.trans l1,a3.trans s1,?_⟩
  simp only [List.foldl_cons,List.length_cons]
  omega
theorem low_joined {n:Nat}{l:List Int} (L:Lab n l) {a b:Nat} (ha:a < n) (hb:b < n):(jn l a b).getD a 0=(jn l a b).getD b 0:=by
 rw [jn_at (by rw [L.len];exact ha),jn_at (by rw [L.len];exact hb)]
 by_cases h:l.getD a 0≤l.getD b 0
 · have e:max (l.getD a 0) (l.getD b 0)=l.getD b 0:=by omega
   have e2:min (l.getD a 0) (l.getD b 0)=l.getD a 0:=by omega
   rw [e,e2,if_pos rfl]
   split <;> rfl
 · have e:max (l.getD a 0) (l.getD b 0)=l.getD a 0:=by omega
   have e2:min (l.getD a 0) (l.getD b 0)=l.getD b 0:=by omega
   rw [e,e2,if_pos rfl]
   split <;> rfl
theorem FOk.merge {n:Nat}{rows:List Addr}{rd:Addr→List Int}{st:FS} (R:Rows n rows rd) (h:FOk n rows rd st) {a b:Nat} (ha:a < n) (hb:b < n):
  FOk n rows rd (fmerge st a b)∧(fmerge st a b).l=jn st.l a b∧(fmerge st a b).ss=st.ss∧(fmerge st a b).W.length≤st.W.length+10:=by
 obtain ⟨lo,hi,_,_⟩:=low_high h.lab ha hb
 have hj:=h.join R lo hi
 obtain ⟨a1,a2,a3,a4⟩:=fold_ok lo (st.D (highOf st.l a b)) _ hj fun e he=>by
  obtain ⟨s,r,er,hr,hs,hl⟩:=(hj.dom _ hi e he).is
  exact ⟨s,r,er,hr,hs,hl.trans (low_joined h.lab lo hi).symm⟩
 refine ⟨a1,a2.trans (jn_low h.lab h.idm ha hb),a3,Nat.le_trans a4 (Nat.add_le_add_left (h.dlen R hi) _)⟩
structure FA where
 dx:Addr
 g:Addr
 ld:Addr
 lw:Addr
 lx:Addr
 ds:List Addr
def ff (d:FA):List (Str × V):=[("groups",.ref d.g),("doors",.ref d.ld),("waiting",.ref d.lw),("steps",.ref d.lx)]
structure FAt (CF CG:Addr) (H0 H:Hp) (f:Addr) (d:FA) (n:Nat) (st:FS):Prop where
 ob:H f=some (.ins CF d.dx (ff d))
 gr:GAt CG H d.g st.l
 dl:H d.ld=some (.lst (d.ds.map V.ref))
 dn:d.ds.length=n
 du:d.ds.Nodup
 dd:∀ m x,d.ds[m]?=some x→H x=some (.dT (st.D m))
 wl:∃ wa:List Addr,H d.lw=some (.lst (wa.map V.ref))∧wa.length=st.W.length∧∀ (i:Nat) (t:Addr) (e:Addr × Addr × Int),wa[i]?=some t→st.W[i]?=some e→H t=some (.tup [.ref e.1,.ref e.2.1,.int e.2.2])
 sl:∃ sp:Ps,Tl H d.lx sp∧sp.map (·.2)=st.ss
 n1:d.lw≠d.lx
 n2:d.lw≠d.ld
 n3:d.lx≠d.ld
 f0:H0 f=none
 f1:H0 d.g=none
 f2:H0 d.lw=none
 f3:H0 d.lx=none
 f4:∀ x∈d.ds,H0 x=none
 sa:Same H0 H
def Kx (d:FA) (H H':Hp):Prop:=∀ b o,H b=some o→b≠d.lw→b≠d.lx→b≠d.g→b∉d.ds→H' b=some o
theorem Kx.trans {d:FA}{H H1 H2:Hp} (a:Kx d H H1) (b:Kx d H1 H2):Kx d H H2:=fun c o e n1 n2 n3 n4=>b c o (a c o e n1 n2 n3 n4) n1 n2 n3 n4
theorem Kx.refl {d:FA}{H:Hp}:Kx d H H:=fun c o e _ _ _ _=>e
theorem Kx.of {d:FA}{H H':Hp} (s:Same H H'):Kx d H H':=fun c o e _ _ _ _=>s c o e
theorem FAt.tup {CF CG:Addr}{H0 H H':Hp}{f:Addr}{d:FA}{n:Nat}{st:FS} (F:FAt CF CG H0 H f d n st) (k:Kx d H H') {b:Addr}{xs:List V} (h:H b=some (.tup xs)):H' b=some (.tup xs):=by
 obtain ⟨wa,w1,_⟩:=F.wl
 obtain ⟨sp,t1,_⟩:=F.sl
 obtain ⟨dx,gl,g1,_⟩:=F.gr.ob
 refine k b _ h (fun e=>?_) (fun e=>?_) (fun e=>?_) (fun e=>?_)
 · rw [e,w1] at h;cases h
 · rw [e,t1.is] at h;cases h
 · rw [e,g1] at h;cases h
 · obtain ⟨m,hm,e2⟩:=List.getElem_of_mem e
   have:=F.dd m b (by rw [List.getElem?_eq_getElem hm,e2])
   rw [this] at h;cases h
structure TxtF (K:PySem.W.Frag) (mg:Str→Option Value) (C:Addr):Prop where
 cl:Cls K C
 nG:NoAttr K C "groups"
 nD:NoAttr K C "doors"
 nW:NoAttr K C "waiting"
 nS:NoAttr K C "steps"
 mgC:mg "Fold"=some (.ref C)
theorem ff_g (d:FA):(ff d).lookup ("groups":Str)=some (.ref d.g):=rfl
theorem ff_d (d:FA):(ff d).lookup ("doors":Str)=some (.ref d.ld):=rfl
theorem ff_w (d:FA):(ff d).lookup ("waiting":Str)=some (.ref d.lw):=rfl
theorem ff_s (d:FA):(ff d).lookup ("steps":Str)=some (.ref d.lx):=rfl
theorem ff_put (d:FA):(ff d).lookup ("put":Str)=none:=rfl
theorem ff_lay (d:FA):(ff d).lookup ("lay":Str)=none:=rfl
theorem ff_merge (d:FA):(ff d).lookup ("merge":Str)=none:=rfl
theorem ff_settle (d:FA):(ff d).lookup ("settle":Str)=none:=rfl
theorem FAt.same {CF CG:Addr}{H0 H H':Hp}{f:Addr}{d:FA}{n:Nat}{st:FS} (F:FAt CF CG H0 H f d n st) (s:Same H H'):FAt CF CG H0 H' f d n st:=by
 obtain ⟨wa,w1,w2,w3⟩:=F.wl
 obtain ⟨sp,t1,t2⟩:=F.sl
 exact ⟨s _ _ F.ob,F.gr.other s,s _ _ F.dl,F.dn,F.du,fun m x e=>s _ _ (F.dd m x e),⟨wa,s _ _ w1,w2,fun i t e h1 h2=>s _ _ (w3 i t e h1 h2)⟩,⟨sp,t1.same s,t2⟩,F.n1,F.n2,F.n3,F.f0,F.f1,F.f2,F.f3,F.f4,F.sa.trans s⟩
theorem FAt.relab {CF CG:Addr}{H0 H H':Hp}{f:Addr}{d:FA}{n:Nat}{st:FS}{l':List Int} (F:FAt CF CG H0 H f d n st) (k:Kp d.g H H') (g:GAt CG H' d.g l') (nf:f≠d.g):FAt CF CG H0 H' f d n { st with l:=l' }:=by
 obtain ⟨wa,w1,w2,w3⟩:=F.wl
 obtain ⟨sp,t1,t2⟩:=F.sl
 obtain ⟨dx,gl,g1,_⟩:=F.gr.ob
 have ne:∀ {b:Addr}{o:HO},H b=some o→(∀ C x fs,o≠.ins C x fs)→H' b=some o:=fun {b o} e hn=>k b o e fun z=>by
  rw [z,g1] at e
  exact hn _ _ _ (Option.some.inj e).symm
 refine ⟨k _ _ F.ob nf,g,ne F.dl (fun _ _ _ z=>nomatch z),F.dn,F.du,fun m x e=>ne (F.dd m x e) (fun _ _ _ z=>nomatch z),⟨wa,ne w1 (fun _ _ _ z=>nomatch z),w2,fun i t e h1 h2=>ne (w3 i t e h1 h2) (fun _ _ _ z=>nomatch z)⟩,
  ⟨sp,⟨ne t1.is (fun _ _ _ z=>nomatch z),fun p hp=>ne (t1.tp p hp) (fun _ _ _ z=>nomatch z)⟩,t2⟩,F.n1,F.n2,F.n3,F.f0,F.f1,F.f2,F.f3,F.f4,fun b o e=>k b o (F.sa b o e) (ne_of_none e F.f1)⟩
theorem Kx.kp {d:FA}{H H':Hp} (k:Kp d.g H H'):Kx d H H':=fun c o e _ _ n _=>k c o e n
theorem ints_refs {H:Hp}{a b:Addr}{l:List Int}{ts:List Addr} (ha:Ints H a l) (hl:0 < l.length) (hb:H b=some (.lst (ts.map V.ref))):a≠b:=fun e=>by
 rw [e] at ha
 have e2:=Option.some.inj (ha.symm.trans hb)
 have e3:l.map V.int=ts.map V.ref:=HO.lst.inj e2
 cases l with
 | nil=>cases hl
 | cons x l=>
  cases ts with
  | nil=>cases e3
  | cons y ts=>exact nomatch (List.cons.inj e3).1
structure Frame (CF CG:Addr) (H0:Hp) (rows:List Addr) (rd:Addr→List Int) (n:Nat):Prop where
 rw:Rows n rows rd
 tp:∀ r∈rows,H0 r=some (.tup ((rd r).map V.int))
 n1:n≤1000
 rl:rows.length≤1000
 ne:CF≠CG
def spPut (CF CG:Addr):Sp:=fun vs H Q _=>∃ (H0:Hp) (rows:List Addr) (rd:Addr→List Int) (n:Nat) (f x t a:Addr) (d:FA) (st:FS) (m:Nat) (s:Int),vs=[.ref f,.ref x,.ref t,.ref a]∧Frame CF CG H0 rows rd n∧FAt CF CG H0 H f d n st∧FOk n rows rd st∧m < n∧d.ds[m]?=some x∧
 H t=some (.tup [.int ((rd a).getD 2 0),.int s])∧a∈rows∧st.W.length≤9990000∧∀ H',FAt CF CG H0 H' f d n (fput st m ((rd a).getD 2 0) s a)→Kx d H H'→Q .non H'
def spLay (CF CG:Addr):Sp:=fun vs H Q _=>∃ (H0:Hp) (rows:List Addr) (rd:Addr→List Int) (n:Nat) (f a:Addr) (d:FA) (st:FS),vs=[.ref f,.ref a]∧Frame CF CG H0 rows rd n∧FAt CF CG H0 H f d n st∧FOk n rows rd st∧
 a∈rows∧st.W.length≤9989990∧∀ H',FAt CF CG H0 H' f d n (flay rd st a)→Kx d H H'→Q .non H'
def spMerge (CF CG:Addr):Sp:=fun vs H Q _=>∃ (H0:Hp) (rows:List Addr) (rd:Addr→List Int) (n:Nat) (f:Addr) (d:FA) (st:FS) (a b:Nat),vs=[.ref f,.int a,.int b]∧Frame CF CG H0 rows rd n∧FAt CF CG H0 H f d n st∧FOk n rows rd st∧
 a < n∧b < n∧st.l.getD a 0≠st.l.getD b 0∧st.W.length≤9989900∧∀ H',FAt CF CG H0 H' f d n (fmerge st a b)→Kx d H H'→Q .non H'
theorem ne_kind {H:Hp}{b x:Addr}{o u:HO} (h:H b=some o) (g:H x=some u) (n:o≠u):b≠x:=fun e=>by
 rw [e,g] at h
 exact n (Option.some.inj h).symm
theorem nd_ne {ds:List Addr} (nd:ds.Nodup) {i j:Nat}{x y:Addr} (hi:ds[i]?=some x) (hj:ds[j]?=some y) (h:i≠j):x≠y:=fun e=>by
 subst e
 obtain ⟨h1,e1⟩:=List.getElem?_eq_some_iff.mp hi
 obtain ⟨h2,e2⟩:=List.getElem?_eq_some_iff.mp hj
 exact h (List.getElem_inj nd |>.mp (e1.trans e2.symm))
theorem FAt.putD {CF CG:Addr}{H0 H:Hp}{f:Addr}{d:FA}{n:Nat}{st:FS} (F:FAt CF CG H0 H f d n st) {m:Nat}{x:Addr} (hx:d.ds[m]?=some x) (kv:List (List Key × V)):
  FAt CF CG H0 (upd H x (.dT kv)) f d n { st with D:=fun i=>if i=m then kv else st.D i }∧Kx d H (upd H x (.dT kv)):=by
 obtain ⟨wa,w1,w2,w3⟩:=F.wl
 obtain ⟨sp,t1,t2⟩:=F.sl
 obtain ⟨gx,gl,g1,g2⟩:=F.gr.ob
 have hd:=F.dd m x hx
 have k:∀ {b:Addr}{o:HO},H b=some o→(∀ kv,o≠.dT kv)→upd H x (.dT kv) b=some o:=fun {b o} e hn=>by
  rw [upd_ne (ne_kind e hd (hn _))];exact e
 refine ⟨⟨k F.ob (fun _ z=>nomatch z),⟨gx,gl,k g1 (fun _ z=>nomatch z),k g2 (fun _ z=>nomatch z)⟩,k F.dl (fun _ z=>nomatch z),F.dn,F.du,fun i y e=>?_,⟨wa,k w1 (fun _ z=>nomatch z),w2,fun i t e h1 h2=>k (w3 i t e h1 h2) (fun _ z=>nomatch z)⟩,
  ⟨sp,⟨k t1.is (fun _ z=>nomatch z),fun p hp=>k (t1.tp p hp) (fun _ z=>nomatch z)⟩,t2⟩,F.n1,F.n2,F.n3,F.f0,F.f1,F.f2,F.f3,F.f4,F.sa.upd (F.f4 x (List.mem_of_getElem? hx))⟩,fun b o e _ _ _ n4=>?_⟩
 · show upd H x (.dT kv) y=some (.dT (if i=m then kv else st.D i))
   by_cases him:i=m
   · subst him
     rw [hx] at e
     cases e
     rw [if_pos rfl,upd_same]
   · rw [if_neg him,upd_ne (nd_ne F.du e hx him)]
     exact F.dd i y e
 · have nb:b≠x:=fun z=>n4 (by rw [z];exact List.mem_of_getElem? hx)
   rw [upd_ne nb];exact e
theorem FAt.putW {CF CG:Addr}{H0 H:Hp}{f:Addr}{d:FA}{n:Nat}{st:FS} (F:FAt CF CG H0 H f d n st) (n0:0 < n) (L:Lab n st.l) (wa:List Addr) (W:List (Addr × Addr × Int)) (hl:wa.length=W.length)
  (hw:∀ (i:Nat) (t:Addr) (e:Addr × Addr × Int),wa[i]?=some t→W[i]?=some e→H t=some (.tup [.ref e.1,.ref e.2.1,.int e.2.2])):
  FAt CF CG H0 (upd H d.lw (.lst (wa.map V.ref))) f d n { st with W:=W }∧Kx d H (upd H d.lw (.lst (wa.map V.ref))):=by
 obtain ⟨wa0,w1,w2,w3⟩:=F.wl
 obtain ⟨sp,t1,t2⟩:=F.sl
 obtain ⟨gx,gl,g1,g2⟩:=F.gr.ob
 have k:∀ {b:Addr}{o:HO},H b=some o→b≠d.lw→upd H d.lw (.lst (wa.map V.ref)) b=some o:=fun {b o} e hn=>by
  rw [upd_ne hn];exact e
 have kk:∀ {b:Addr}{o:HO},H b=some o→(∀ xs,o≠.lst xs)→upd H d.lw (.lst (wa.map V.ref)) b=some o:=fun {b o} e hn=>k e (ne_kind e w1 (hn _))
 refine ⟨⟨kk F.ob (fun _ z=>nomatch z),⟨gx,gl,kk g1 (fun _ z=>nomatch z),k g2 (ints_refs g2 (by rw [L.len];exact n0) w1)⟩,k F.dl F.n2.symm,F.dn,F.du,fun m x e=>kk (F.dd m x e) (fun _ z=>nomatch z),⟨wa,upd_same,hl,fun i t e h1 h2=>kk (hw i t e h1 h2) (fun _ z=>nomatch z)⟩,
  ⟨sp,⟨k t1.is F.n1.symm,fun p hp=>kk (t1.tp p hp) (fun _ z=>nomatch z)⟩,t2⟩,F.n1,F.n2,F.n3,F.f0,F.f1,F.f2,F.f3,F.f4,F.sa.upd F.f2⟩,fun b o e n1 _ _ _=>k e n1⟩
theorem FAt.putS {CF CG:Addr}{H0 H:Hp}{f:Addr}{d:FA}{n:Nat}{st:FS} (F:FAt CF CG H0 H f d n st) (n0:0 < n) (L:Lab n st.l) (sp:Ps) (tp:Tp H sp):
  FAt CF CG H0 (upd H d.lx (.lst (sp.map fun p=>V.ref p.1))) f d n { st with ss:=sp.map (·.2) }∧Kx d H (upd H d.lx (.lst (sp.map fun p=>V.ref p.1))):=by
 obtain ⟨wa,w1,w2,w3⟩:=F.wl
 obtain ⟨sp0,t1,t2⟩:=F.sl
 obtain ⟨gx,gl,g1,g2⟩:=F.gr.ob
 have k:∀ {b:Addr}{o:HO},H b=some o→b≠d.lx→upd H d.lx (.lst (sp.map fun p=>V.ref p.1)) b=some o:=fun {b o} e hn=>by
  rw [upd_ne hn];exact e
 have kk:∀ {b:Addr}{o:HO},H b=some o→(∀ xs,o≠.lst xs)→upd H d.lx (.lst (sp.map fun p=>V.ref p.1)) b=some o:=fun {b o} e hn=>k e (ne_kind e t1.is (hn _))
 have t1':H d.lx=some (.lst ((sp0.map (·.1)).map V.ref)):=by rw [List.map_map];exact t1.is
 refine ⟨⟨kk F.ob (fun _ z=>nomatch z),⟨gx,gl,kk g1 (fun _ z=>nomatch z),k g2 (ints_refs g2 (by rw [L.len];exact n0) t1')⟩,k F.dl F.n3.symm,F.dn,F.du,fun m x e=>kk (F.dd m x e) (fun _ z=>nomatch z),⟨wa,k w1 F.n1,w2,fun i t e h1 h2=>kk (w3 i t e h1 h2) (fun _ z=>nomatch z)⟩,
  ⟨sp,⟨upd_same,fun p hp=>kk (tp p hp) (fun _ z=>nomatch z)⟩,rfl⟩,F.n1,F.n2,F.n3,F.f0,F.f1,F.f2,F.f3,F.f4,F.sa.upd F.f3⟩,fun b o e _ n2 _ _=>k e n2⟩
theorem fput_some {st:FS}{m:Nat}{k s:Int}{a b:Addr} (h:valV (st.D m) (key k s)=some (.ref b)):fput st m k s a={ st with W:=st.W++[(b,a,s)] }:=by
 unfold fput;rw [h]
theorem fput_none {st:FS}{m:Nat}{k s:Int}{a:Addr} (h:valV (st.D m) (key k s)=none):fput st m k s a={ st with D:=fun i=>if i=m then putK (st.D m) (key k s) (.ref a) else st.D i }:=by
 unfold fput;rw [h]
end My
namespace L2
open PySem PySem.Spec PyProof.Rows
def rComp (J:It) (ix:List Nat) (te:TE) (σ:St) (H1:Hp) (Q:VK):Prop:=∀ D,H1 D=none→∃ W:Nat→Nat→List V→Hp→Prop,(∃ m,W 0 m [] (upd H1 D (.lst [])))∧
 ∀ i m ys H2,W i m ys H2→H2 D=some (.lst ys)∧((J.stop i H2∧Q (.ref D) H2)∨(J.go i H2∧ys.length < sizeLine∧∀ x H',J.yld i H2 x H'→te (blkSt ix (some x) σ) H' fun y H3=>
  H3 D=some (.lst ys)∧∃ m',m' < m∧W (i+1) m' (ys++[y]) (upd H3 D (.lst (ys++[y])))))
def rCompIf (J:It) (ix:List Nat) (tt:TT) (te:TE) (σ:St) (H1:Hp) (Q:VK):Prop:=∀ D,H1 D=none→∃ W:Nat→Nat→List V→Hp→Prop,(∃ m,W 0 m [] (upd H1 D (.lst [])))∧
 ∀ i m ys H2,W i m ys H2→H2 D=some (.lst ys)∧((J.stop i H2∧Q (.ref D) H2)∨(J.go i H2∧ys.length < sizeLine∧∀ x H',J.yld i H2 x H'→tt (blkSt ix (some x) σ) H' fun b H3=>if b=true then te (blkSt ix (some x) σ) H3 (fun y H4=>
  H4 D=some (.lst ys)∧∃ m',m' < m∧W (i+1) m' (ys++[y]) (upd H4 D (.lst (ys++[y])))) else ∃ m',m' < m∧W (i+1) m' ys H3))
def tCompW (wi:TI) (ix:List Nat) (te:TE):TE:=fun σ H Q=>wi σ H fun J H1=>Wr (rComp J ix te σ H1 Q)
def tCompIfW (wi:TI) (ix:List Nat) (tt:TT) (te:TE):TE:=fun σ H Q=>wi σ H fun J H1=>Wr (rCompIf J ix tt te σ H1 Q)
def Cx.blkC (X:Cx) (N:List Str) (scope:Scope) (cl:List (Str × Addr)) (x:Str) (C:Addr) (s:Shared) (H:Hp) (fp:List Addr):Cx:=
 { prog:=X.prog,w:=X.w,K:=X.K,mg:=X.mg,base:=X.base,A:=X.A,N:=N,s₀:=s,H₀:=H,env:=compEnvC scope ((x,C+1)::cl) C X.env,outer:=X.stack,stack:=X.stack,ex:=fp,fn:=fun y=>y == x,calm:=X.calm,pn:=[],xe:=fun _ _=>False }
theorem nfe_cells {M:Model}{A:Around}{E:Value→Shared→Prop}{s:Shared}{scope:Scope}{globals:Addr}{closure:List (Str × Addr)}{qual:Str}{env:Env}{Q:Env→Shared→Prop}
  (h:Q (newEnv scope s.heap.objs.size globals (cellsFrom (s.heap.objs.size+1) scope.names closure) qual none .none (some env) builtinsNs) { s with heap:=pushCells (s.heap.push { cls:=.type "dict",data:=.dict #[] }) scope.names }):
  wpAny M A (newFunctionEnv scope globals closure [] qual none .none (some env)) Q E s:=by
 simp only [newFunctionEnv,Option.isSome_some,if_true]
 refine wpAny_bind (wpAny_alloc ?_)
 refine wpAny_bind (wpAny_layCells _ (fun name kind cells=>by cases hkc:kind == NameKind.cell <;> simp [hkc]) _ _ _ _ ?_)
 rw [show ({ s with heap:=s.heap.push { cls:=.type "dict",data:=.dict #[] } }:Shared).heap.objs.size=s.heap.objs.size+1 from Heap.size_push ..]
 exact wpAny_bind (by rw [List.forIn_nil];exact wpAny_pure (wpAny_pure h))
structure CompB (X:Cx) (scope:Scope) (cl:List (Str × Addr)) (x:Str) (fr:List Str) (ix:List Nat) (iter:Expr):Prop where
 clos:closureFor scope X.env=pure cl
 calm:X.calm=true
 kind:scope.kind=.function
 cell:(scope.names.all fun p=>p.2 != .cell)=true
 names:(scope.names.all fun p=>p.2 != .local || scope.names.lookup p.1 == some .local)=true
 hx:scope.names.lookup x=some .local
 hN:(x::fr).Nodup
 hix:ix.map (fun i=>X.N[i]?)=fr.map some
 fr:(fr.all fun y=>X.env.kindOf y == some .cell && (relabel scope X.env).names.lookup y == some .cell)=true
 cl2:((relabel scope X.env).names.all fun p=>(p.2 != .cell && p.2 != .free) || (cl.lookup p.1).isSome)=true
 hs:∀ x,foldedSetIterable iter X.env x=pure x
section
variable {X:Cx}{x:Str}{px pos:Pos}{elt iter:Expr}{scope:Scope}{cl:List (Str × Addr)}{fr:List Str}{ix:List Nat}{wi:TI}{te:TE}{tt:TT}{ifs:List Expr}
theorem CompB.cell' (k:CompB X scope cl x fr ix iter):∀ y∈scope.names,y.2≠.cell:=fun y hy e=>by
 have:=List.all_eq_true.mp k.cell y hy
 rw [e] at this
 exact absurd this (by decide)
theorem CompB.names' (k:CompB X scope cl x fr ix iter):∀ y∈scope.names,y.2=.local→scope.names.lookup y.1=some .local:=fun y hy e=>by
 have:=List.all_eq_true.mp k.names y hy
 rw [e] at this
 simpa using this
theorem CompB.fr' (k:CompB X scope cl x fr ix iter):∀ y∈fr,X.env.kindOf y=some .cell∧(relabel scope X.env).names.lookup y=some .cell:=fun y hy=>by
 have:=List.all_eq_true.mp k.fr y hy
 rw [Bool.and_eq_true] at this
 exact ⟨eq_of_beq this.1,eq_of_beq this.2⟩
theorem CompB.cl2' (k:CompB X scope cl x fr ix iter):∀ y,((relabel scope X.env).names.lookup y=some .cell∨(relabel scope X.env).names.lookup y=some .free)→∃ c,cl.lookup y=some c:=fun y hy=>by
 have:∃ k,(relabel scope X.env).names.lookup y=some k∧(k=.cell∨k=.free):=by
  rcases hy with h | h
  · exact ⟨_,h,.inl rfl⟩
  · exact ⟨_,h,.inr rfl⟩
 obtain ⟨k',e,hk'⟩:=this
 have:=List.all_eq_true.mp k.cl2 (y,k') (PySem.mem_of_lookup e)
 have h2:(cl.lookup y).isSome=true:=by
  rcases hk' with rfl | rfl <;> simpa using this
 exact Option.isSome_iff_exists.mp h2
def OneIf (B:Cx→Prop) (ifs:List Expr) (tt:TT):Prop:=(ifs=[]∧tt=fun _ H Q=>Q true H)∨∃ ct,ifs=[ct]∧∀ Y,B Y→PT Y ct tt
theorem tests_of {B:Cx}{BB:Cx→Prop}{pins:List (Addr × Obj)}{σ:St}{H:Hp}{s:Shared}{Q:Bool→Hp→Prop} (hif:OneIf BB ifs tt) (hb:BB B) (I:Inv B pins σ H s) (h:tt σ H Q):
  wpAny (model B.prog B.w) B.A (forIn ifs true fun c r=>if r=true then do
   let ok ← PySem.isTrue c B.env (eval c B.env)
   pure (ForInStep.yield ok) else pure (ForInStep.yield r)) (fun b s'=>∃ H',Inv B pins σ H' s'∧Q b H') B.xe s:=by
 rcases hif with ⟨rfl,rfl⟩ | ⟨ct,rfl,ht⟩
 · rw [List.forIn_nil]
   exact wpAny_pure ⟨_,I,h⟩
 · exact wpAny_tests_one (wpAny_mono (ht B hb _ s _ H _ I h) (fun bb s6 ⟨H6,I6,q6⟩=>⟨H6,I6,q6⟩) fun _ _ z=>z)
theorem lcomp_gen {use:Option (Value→Sem Unit)}{Post:Value→Shared→Prop}{p0:Pos} (k:CompB X scope cl x fr ix iter) (hi:PI X (.Name x px) iter wi) (hcl:∀ y c,cl.lookup y=some c→X.env.cells.lookup y=some c)
  (he:∀ C s H fp,PE (X.blk (x::fr) scope cl C s H fp) elt te) (hif:OneIf (fun Y=>∃ C s H fp,Y=X.blk (x::fr) scope cl C s H fp) ifs tt)
  {pins:List (Addr × Obj)}{s:Shared}{σ:St}{H:Hp}{Q:VK} (I:Inv X pins σ H s) {R:It→Hp→Prop} (h:wi σ H R) (hR:∀ J H1,R J H1→Wr (rCompIf J ix tt te σ H1 Q))
  (fin:∀ (s2 s4:Shared) (H2 H3:Hp) (fp:List Addr) (C:Addr) (x':Option V),Inv X pins σ H2 s2→(∀ b∈fp,FpOk X pins H2 b)→C=s2.heap.objs.size+1→(∀ b o,s2.heap.get? b=some o→b≠C)→Inv (X.blk (x::fr) scope cl C s2 H2 fp) [] (blkSt ix x' σ) H3 s4→Q (.ref s2.heap.objs.size) H3→
   ∀ a,compPost (model X.prog X.w) X.A X.xe use Post (.ref s2.heap.objs.size) C (.ok a) s4):
  wpAny (model X.prog X.w) X.A (comprehension (.ListComp elt [⟨.Name x px,iter,ifs,0⟩] scope pos) scope X.env p0 (newList []) false (eval iter X.env) use) Post X.xe s:=by
 refine wpAny_comprehension_free rfl k.hs k.clos k.kind k.names' (thn (hi pins s σ H _ I h) fun xv s1 h1=>thn h1 fun itv s2 h2=>?_)
 obtain ⟨it,fp,tn,J,H2,e,I2,T,st2,f2,q⟩:=h2
 have q:=hR J H2 q
 subst e
 refine wpAny_newObj_type (wpAny_newFunctionEnv k.cell' (by intro y hy;simp at hy) (fun h₁ hns₁ hsb₁=>?_) k.kind)
 dsimp only at hns₁ hsb₁ ⊢
 have hDn:H2 s2.heap.objs.size=none:=I2.hok.fresh (Nat.le_refl _)
 obtain ⟨W,⟨m0,w0⟩,turn⟩:=q.get s2.heap.objs.size hDn
 generalize hHL:s2.heap.push { cls:=.type "list",dict:=none,data:=.seq ([]:List Value).toArray }=HL at hns₁ hsb₁ ⊢
 have hC:HL.objs.size=s2.heap.objs.size+1:=by rw [← hHL,Heap.size_push]
 have old:∀ b o,s2.heap.get? b=some o→h₁.get? b=some o:=fun b o e=>(hsb₁.2 b (by rw [hC];exact Nat.ne_of_lt (Nat.lt_succ_of_lt (Heap.lt_size e)))).trans (Heap.get?_push_of_some _ (hHL▸Heap.get?_push_of_some _ e))
 have hD1:h₁.get? s2.heap.objs.size=some { cls:=.type "list",data:=.seq ([]:List Value).toArray }:=
  (hsb₁.2 _ (by rw [hC];exact Nat.ne_of_lt (Nat.lt_succ_self _))).trans (Heap.get?_push_of_some _ (hHL▸Heap.get?_push_size _ rfl))
 generalize hCC:HL.objs.size=C at hns₁ hsb₁ ⊢
 rw [hCC] at hC
 have bC:∀ b o,s2.heap.get? b=some o→b≠C:=fun b o e=>by rw [hC];exact Nat.ne_of_lt (Nat.lt_succ_of_lt (Heap.lt_size e))
 have stl:∀ b∈frs X.stack,∃ o,s2.heap.get? b=some o:=fun b hb=>by
  obtain ⟨_,o,ho,_⟩:=I2.stack.mem hb
  exact ⟨o,ho⟩
 have fpl:∀ b∈fp,∃ o,s2.heap.get? b=some o∧∀ v,o.data≠.cell v:=fun b hb=>T.obj 0 _ st2 b hb
 have fpstk:∀ b∈fp,b∉frs X.stack:=fun b hb z=>by
  rcases List.mem_cons.mp (I2.stkSub b z) with z | z
  · exact (f2 b hb).2.1 z
  · exact (f2 b hb).2.2.1 z
 let B:=X.blk (x::fr) scope cl C s2 H2 fp
 have okB:B.Ok:=by
  refine ⟨I2.ok.mod,k.kind,I2.ok.glob,I2.ok.blt,(by show s2.heap.objs.size≤C;rw [hC];exact Nat.le_succ _),fun y z c e1 e2=>I2.ok.inj y z c (hcl _ _ e1) (hcl _ _ e2),fun y hy=>k.cl2' y hy,fun y c z=>absurd (show false=true from z) Bool.false_ne_true,
   fun _=>I2.ok.hd k.calm,I2.ok.frames,.inl rfl,fun b hb=>⟨?_,fun y c e=>(f2 b hb).2.2.2.2.1 y c (hcl _ _ e)⟩,I2.bs,Nat.le_trans I2.ok.bsz I2.sz,fun b o e hb=>?_,fun b hb=>fpstk b hb,I2.stack,I2.stkFree⟩
  · obtain ⟨o,e,_⟩:=fpl b hb
    exact bC b o e
  · rcases (f2 b hb).2.2.2.1 with z | z
    · exact I2.ok.noex b o e z
    · exact absurd (Nat.lt_of_lt_of_le (Heap.lt_size (I2.ok.bs b o e).1) z) (Nat.lt_irrefl _)
 have IB:∀ tk,Inv B [] (blkSt ix none σ) (upd H2 s2.heap.objs.size (.lst [])) { s2 with heap:=h₁,toks:=tk }:=fun tk=>by
  refine ⟨okB,rfl,I2.bare,Un.laid old (Nat.le_refl _) hDn,⟨_,hns₁,fun j y v e1 e2 e3=>?_⟩,fun y c e=>?_,?_,fun y c e=>?_,(fun p hp=>nomatch hp),I2.hok.laid old (Nat.le_refl _) ⟨Nat.zero_le _,[],0,.nil,hD1⟩,?_⟩
  · cases j with
    | zero=>cases (show (some none:Option (Option V))=some (some v) from e2)
    | succ j=>
     have e1:fr[j]?=some y:=e1
     have e2:(ix.map fun i=>(σ[i]?).join)[j]?=some (some v):=e2
     have hj:=congrArg (fun l=>l[j]?) k.hix
     simp only [List.getElem?_map,e1] at hj
     rw [List.getElem?_map] at e2
     cases hij:ix[j]? with
     | none=>rw [hij] at e2;cases e2
     | some i=>
      rw [hij] at hj e2
      have hj:X.N[i]?=some y:=Option.some.inj hj
      have e2:(σ[i]?).join=some v:=Option.some.inj e2
      have e2:σ[i]?=some (some v):=by
       cases z:σ[i]? with
       | none=>rw [z] at e2;cases e2
       | some z'=>rw [z] at e2;rw [show z'=some v from e2]
      obtain ⟨m,hn,hl⟩:=I2.loc
      have hk:=k.fr' y (List.mem_of_getElem? e1)
      obtain ⟨u,ru,lk⟩:=hl i y v hj e2 (.inr (.inl hk.1))
      refine ⟨u,ru,.inr ⟨.inl hk.2,?_⟩⟩
      rcases lk with ⟨z,_⟩ | ⟨_,c,ec,⟨oc,hoc,hcd⟩⟩
      · rw [hk.1] at z;cases z
      · obtain ⟨c',ec'⟩:=k.cl2' y (.inl hk.2)
        have:=hcl _ _ ec'
        rw [ec] at this;cases this
        exact ⟨c,ec',oc,old c oc hoc,hcd⟩
  · obtain ⟨v,oc,hoc,hcd⟩:=I2.cell y c (hcl _ _ e)
    exact ⟨v,oc,old c oc hoc,hcd⟩
  · show upd H2 s2.heap.objs.size (.lst []) C=none
    rw [upd_ne (by rw [hC];exact Nat.succ_ne_self _)]
    exact I2.hok.fresh (by rw [hC];exact Nat.le_succ _)
  · obtain ⟨v,oc,hoc,hcd⟩:=I2.cell y c (hcl _ _ e)
    rw [upd_ne (Nat.ne_of_lt (Heap.lt_size hoc))]
    exact I2.freeC y c (hcl _ _ e)
  · show (blkSt ix none σ).length=(x::fr).length
    have:=congrArg List.length k.hix
    simp only [List.length_map] at this
    simp [blkSt,this]
 have st1:∀ tk,tn 0 ({ s2 with heap:=h₁,toks:=tk }:Shared).heap:=fun _=>T.keep 0 _ _ st2 fun b hb o e=>old b o e
 have fB:∀ {H':Hp},(∀ b∈fp,H' b=none)→∀ b∈fp,FpOk B [] H' b:=fun hn b hb=>by
  obtain ⟨o,e,_⟩:=fpl b hb
  exact ⟨hn b hb,bC b o e,fpstk b hb,.inl hb,fun y c ec=>(f2 b hb).2.2.2.2.1 y c (hcl _ _ ec),(fun p hp=>nomatch hp)⟩
 have loop:∀ tk,codeAny (model X.prog X.w) X.A (.compLoop (.ListComp elt [⟨.Name x px,iter,ifs,0⟩] scope pos) 0 (.ref it) (.ref s2.heap.objs.size) (compEnvC scope cl C X.env))
   (compPost (model X.prog X.w) X.A X.xe use Post (.ref s2.heap.objs.size) C) { s2 with heap:=h₁,toks:=tk }:=fun tk=>by
  refine codeAny_loop rfl (fun n s'=>∃ i ys x' H',Inv B [] (blkSt ix x' σ) H' s'∧tn i s'.heap∧(∀ b∈fp,H' b=none)∧W i n ys H') (fun n s3 hI=>?_) m0 ⟨0,[],none,_,IB tk,st1 tk,fun b hb=>?_,w0⟩
  · obtain ⟨i,ys,x',H3,I3,st3,fr3,w3⟩:=hI
    show wpAny _ _ ((compTurn (.ListComp elt [⟨.Name x px,iter,ifs,0⟩] scope pos) 0 (.ref it) (.ref s2.heap.objs.size) (compEnvC scope cl C X.env)).onRaise (fun x=>do noteFrame x (compEnvC scope cl C X.env);theTreesLotGoes x)) _ _ s3
    refine wpAny_noted ?_
    rw [compTurn_list]
    obtain ⟨hD3,alt⟩:=turn i n ys H3 w3
    refine wpAny_bind (wpAny_standAt (wpAny_bind ?_))
    rcases alt with ⟨stop,qn⟩ | ⟨go,hlen,step⟩
    · refine thn (T.done B rfl rfl rfl k.calm i [] s3 _ H3 _ I3 (fB fr3) st3 stop) fun r s4 ⟨hr,I4⟩=>?_
      subst hr
      refine wpAny_pure ?_
      exact fin s2 s4 H2 H3 fp C _ I2 f2 hC bC I4 qn _
    · refine thn (T.item B rfl rfl rfl k.calm i [] s3 _ H3 _ I3 (fB fr3) st3 go) fun r s4 ⟨u,hr,h4⟩=>?_
      subst hr
      refine wpAny_bind (thn h4 fun _ s5 ⟨xv,H5,I5,r5,y5,st5,fr5⟩=>?_)
      have I5':=I5.pinned (fB fr5) (T.obj _ _ st5)
      refine wpAny_bind (wpAny_assign_Name (store_ok (i:=0) (X:=B) I5' k.hN rfl (.inl (lookup_relabel_local k.hx)) r5 (fun s6 I6=>?_) (.inr (lookup_relabel_local k.hx))))
      have I6:Inv B ([]++pinsAt fp s5.heap) (blkSt ix (some xv) σ) H5 s6:=I6
      refine wpAny_bind (wpAny_mono (tests_of hif ⟨C,s2,H2,fp,rfl⟩ I6 (step xv H5 y5)) (fun bb s6' ⟨H6,I6',q6⟩=>?_) fun _ _ z=>False.elim z)
      have kp:∀ {st:St}{H8:Hp}{s8:Shared},Inv B (([]:List (Addr × Obj))++pinsAt fp s5.heap) st H8 s8→tn (i+1) s8.heap∧∀ b∈fp,H8 b=none:=fun I8=>⟨T.keep _ _ _ st5 fun b hb o e=>(I8.pin (b,o) (List.mem_append_right _ (List.mem_append_right _ (mem_pinsAt hb e)))).1,fun b hb=>by
       obtain ⟨o,e,d⟩:=T.obj _ _ st5 b hb
       exact (I8.pin (b,o) (List.mem_append_right _ (List.mem_append_right _ (mem_pinsAt hb e)))).2.1⟩
      cases bb with
      | false=>
       rw [if_neg (by decide)] at q6
       obtain ⟨m',hm,w7⟩:=q6
       exact wpAny_pure ⟨rfl,m',hm,i+1,ys,some xv,_,I6'.unpinned,(kp I6').1,(kp I6').2,w7⟩
      | true=>
       rw [if_pos rfl] at q6
       refine wpAny_bind (wpAny_bind (wpAny_mono (he C s2 H2 fp _ s6' _ H6 _ I6' q6) (fun v s7 ⟨y,H7,I7,r7,hD7,m',hm,w7⟩=>?_) fun _ _ z=>False.elim z))
       refine wpAny_bind (wpAny_mono (mt_append (X:=B) _ s7 _ H7 (.ref s2.heap.objs.size) [y] (.ref s2.heap.objs.size) [v] (fun _ H8=>H8=upd H7 s2.heap.objs.size (.lst (ys++[y]))) I7 rfl (.cons r7 .nil) ⟨_,ys,y,rfl,rfl,hD7,hlen,rfl⟩)
        (fun _ s8 ⟨_,H8,I8,_,e8⟩=>?_) fun _ _ z=>False.elim z)
       subst e8
       exact wpAny_pure (wpAny_pure ⟨rfl,m',hm,i+1,ys++[y],some xv,_,I8.unpinned,(kp I8).1,(kp I8).2,w7⟩)
  · obtain ⟨o,e,_⟩:=fpl b hb
    rw [upd_ne (Nat.ne_of_lt (Heap.lt_size e))]
    exact (f2 b hb).1
 exact codeAny_compStart_list (loop _) (T.self _ 0 _ _ _ (st1 _) (loop _))
theorem comp_true {J:It}{σ:St}{H:Hp}{Q:VK} (h:Wr (rComp J ix te σ H Q)):Wr (rCompIf J ix (fun _ H Q=>Q true H) te σ H Q):=⟨fun D hD=>by
 obtain ⟨W,w0,turn⟩:=h.get D hD
 refine ⟨W,w0,fun i m ys H2 w=>?_⟩
 obtain ⟨a,b | ⟨c,d,e⟩⟩:=turn i m ys H2 w
 · exact ⟨a,.inl b⟩
 · exact ⟨a,.inr ⟨c,d,fun x H' y=>by
   show (if true=true then _ else _)
   rw [if_pos rfl];exact e x H' y⟩⟩⟩
theorem pe_gen (k:CompB X scope cl x fr ix iter) (hi:PI X (.Name x px) iter wi) (hcl:∀ y c,cl.lookup y=some c→X.env.cells.lookup y=some c)
  (he:∀ C s H fp,PE (X.blk (x::fr) scope cl C s H fp) elt te) (hif:OneIf (fun Y=>∃ C s H fp,Y=X.blk (x::fr) scope cl C s H fp) ifs tt)
  {RR:St→VK→It→Hp→Prop} (hR:∀ σ Q J H1,RR σ Q J H1→Wr (rCompIf J ix tt te σ H1 Q)):PE X (.ListComp elt [⟨.Name x px,iter,ifs,0⟩] scope pos) (fun σ H Q=>wi σ H (RR σ Q)):=by
 intro pins s σ H Q I h
 rw [eval_ListComp]
 refine lcomp_gen k hi hcl he hif I h (hR σ Q) fun s2 s4 H2 H3 fp C x' I2 f2 hC bC I4 qn _=>?_
 obtain ⟨m4,hn4,_⟩:=I4.loc
 refine ⟨m4,hn4,fun h' sb=>?_⟩
 have un:Un (frs X.stack) fp H2 H3 s2.heap h':=by
  have u:=I4.base
  refine ⟨fun b o e n hb hx=>(sb.2 b (bC b o e)).trans (u.keep b o e n hb hx),fun b o e n hb hx=>?_,u.free,fun b o e hx=>?_,u.tups,u.frzs,u.tbls⟩
  · obtain ⟨sl,e1⟩:=u.slot b o e n hb hx
    exact ⟨sl,(sb.2 b (bC b o e)).trans e1⟩
  · obtain ⟨o',e1⟩:=u.there b o e hx
    exact ⟨o',(sb.2 b (bC b o e)).trans e1⟩
 exact ⟨.ref s2.heap.objs.size,H3,I2.call' (s':={ s4 with heap:=h' }) (ch:=fp) I4.os un (I4.hok.sameBut I4.free sb) I4.bare (fun b hb=>⟨(f2 b hb).2.2.2.1,(f2 b hb).2.1,(f2 b hb).2.2.2.2⟩),rfl,qn⟩
theorem one_if {ct:Expr} (ht:∀ C s H fp,PT (X.blk (x::fr) scope cl C s H fp) ct tt):OneIf (fun Y=>∃ C s H fp,Y=X.blk (x::fr) scope cl C s H fp) [ct] tt:=.inr ⟨ct,rfl,fun Y ⟨C,s,H,fp,e⟩=>by subst e;exact ht C s H fp⟩
theorem pe_compIf {ct:Expr} (fr:List Str) (ix:List Nat) (hi:PI X (.Name x px) iter wi) (ht:∀ C s H fp,PT (X.blk (x::fr) scope cl C s H fp) ct tt) (he:∀ C s H fp,PE (X.blk (x::fr) scope cl C s H fp) elt te) (hcl:∀ y c,cl.lookup y=some c→X.env.cells.lookup y=some c)
  (k:CompB X scope cl x fr ix iter:=by exact ⟨rfl,rfl,rfl,rfl,rfl,rfl,by decide+kernel,rfl,rfl,rfl,fun _=>rfl⟩):
  PE X (.ListComp elt [⟨.Name x px,iter,[ct],0⟩] scope pos) (tCompIfW wi ix tt te):=pe_gen k hi hcl he (one_if ht) fun _ _ _ _ h=>h
theorem one_nil {B:Cx→Prop}:OneIf B [] (fun _ H Q=>Q true H):=.inl ⟨rfl,rfl⟩
theorem pe_compW (fr:List Str) (ix:List Nat) (hi:PI X (.Name x px) iter wi) (he:∀ C s H fp,PE (X.blk (x::fr) scope cl C s H fp) elt te) (hcl:∀ y c,cl.lookup y=some c→X.env.cells.lookup y=some c)
  (k:CompB X scope cl x fr ix iter:=by exact ⟨rfl,rfl,rfl,rfl,rfl,rfl,by decide+kernel,rfl,rfl,rfl,fun _=>rfl⟩):
  PE X (.ListComp elt [⟨.Name x px,iter,[],0⟩] scope pos) (tCompW wi ix te):=pe_gen k hi hcl he one_nil fun _ _ _ _ h=>comp_true h
end
section
variable {X:Cx}
theorem pe_lcompC {x:Str}{px pos:Pos}{elt iter:Expr}{scope:Scope}{cl:List (Str × Addr)}{fr:List Str}{ix:List Nat}{wi:TI}{te:TE}
  (hc:X.calm=true) (hi:PI X (.Name x px) iter wi)
  (hclos:closureFor scope X.env=pure cl) (hkind:scope.kind=.function) (hcells:∀ n,cellsFrom n scope.names cl=(x,n)::cl) (hpush:∀ h:Heap,pushCells h scope.names=h.push { cls:=.type "cell",data:=.cell none }) (hxcl:cl.lookup x=none)
  (hnames:∀ y∈scope.names,y.2=.local→scope.names.lookup y.1=some .local) (hx:(relabel scope X.env).names.lookup x=some .cell)
  (hN:(x::fr).Nodup) (hix:ix.map (fun i=>X.N[i]?)=fr.map some)
  (hfr:∀ y∈fr,X.env.kindOf y=some .cell∧(relabel scope X.env).names.lookup y=some .cell)
  (hcl:∀ y c,cl.lookup y=some c→X.env.cells.lookup y=some c)
  (hcl2:∀ y,((relabel scope X.env).names.lookup y=some .cell∨(relabel scope X.env).names.lookup y=some .free)→y=x∨∃ c,cl.lookup y=some c)
  (he:∀ C s H fp,PE (X.blkC (x::fr) scope cl x C s H fp) elt te)
  (hs:∀ x,foldedSetIterable iter X.env x=pure x:=by intro _;rfl):
  PE X (.ListComp elt [⟨.Name x px,iter,[],0⟩] scope pos) (tCompW wi ix te):=by
 intro pins s σ H Q I h
 rw [eval_ListComp]
 refine wpAny_comprehension_free (use:=none) rfl hs hclos hkind hnames (thn (hi pins s σ H _ I h) fun xv s1 h1=>thn h1 fun itv s2 h2=>?_)
 obtain ⟨it,fp,tn,J,H2,e,I2,T,st2,f2,q⟩:=h2
 subst e
 refine wpAny_newObj_type (nfe_cells ?_)
 rw [hcells,hpush]
 have hDn:H2 s2.heap.objs.size=none:=I2.hok.fresh (Nat.le_refl _)
 obtain ⟨W,⟨m0,w0⟩,turn⟩:=q.get s2.heap.objs.size hDn
 generalize hHL:s2.heap.push { cls:=.type "list",dict:=none,data:=.seq ([]:List Value).toArray }=HL
 have hC:HL.objs.size=s2.heap.objs.size+1:=by rw [← hHL,Heap.size_push]
 have hns₁:((HL.push { cls:=.type "dict",data:=.dict #[] }).push { cls:=.type "cell",data:=.cell none }).Ns HL.objs.size (fun _=>none):=(Heap.Ns.new HL (.type "dict")).keeps fun b o e=>Heap.get?_push_of_some _ e
 have hcl₁:((HL.push { cls:=.type "dict",data:=.dict #[] }).push { cls:=.type "cell",data:=.cell none }).get? (HL.objs.size+1)=some { cls:=.type "cell",data:=.cell none }:=by
  rw [← Heap.size_push HL { cls:=.type "dict",data:=.dict #[] }];exact Heap.get?_push_size _ rfl
 have old:∀ b o,s2.heap.get? b=some o→((HL.push { cls:=.type "dict",data:=.dict #[] }).push { cls:=.type "cell",data:=.cell none }).get? b=some o:=fun b o e=>Heap.get?_push_of_some _ (Heap.get?_push_of_some _ (hHL▸Heap.get?_push_of_some _ e))
 have hD1:((HL.push { cls:=.type "dict",data:=.dict #[] }).push { cls:=.type "cell",data:=.cell none }).get? s2.heap.objs.size=some { cls:=.type "list",data:=.seq ([]:List Value).toArray }:=
  Heap.get?_push_of_some _ (Heap.get?_push_of_some _ (hHL▸Heap.get?_push_size _ rfl))
 generalize hH1:((HL.push { cls:=.type "dict",data:=.dict #[] }).push { cls:=.type "cell",data:=.cell none })=h₁ at hns₁ hcl₁ old hD1
 show codeAny _ _ (.compStart _ 0 _ _ (compEnvC scope ((x,HL.objs.size+1)::cl) HL.objs.size X.env)) (compPost _ _ _ none _ _ HL.objs.size) { s2 with heap:=h₁ }
 generalize hCC:HL.objs.size=C at hns₁ hcl₁ ⊢
 rw [hCC] at hC
 have bC:∀ b o,s2.heap.get? b=some o→b≠C:=fun b o e=>by rw [hC];exact Nat.ne_of_lt (Nat.lt_succ_of_lt (Heap.lt_size e))
 have bCC:∀ b o,s2.heap.get? b=some o→C+1≠b:=fun b o e=>Nat.ne_of_gt (Nat.lt_trans (Heap.lt_size e) (by rw [hC];exact Nat.lt_succ_of_lt (Nat.lt_succ_self _)))
 have lkc:∀ y c,((x,C+1)::cl).lookup y=some c→(y=x∧c=C+1)∨(y≠x∧cl.lookup y=some c):=fun y c e=>by
  rw [List.lookup_cons] at e
  cases z:y == x with
  | true=>rw [z] at e;exact .inl ⟨eq_of_beq z,(Option.some.inj e).symm⟩
  | false=>rw [z] at e;exact .inr ⟨fun q=>by rw [q] at z;simp at z,e⟩
 have lkx:((x,C+1)::cl).lookup x=some (C+1):=by rw [List.lookup_cons];simp
 have lko:∀ y c,cl.lookup y=some c→((x,C+1)::cl).lookup y=some c:=fun y c e=>by
  rw [List.lookup_cons]
  cases z:y == x with
  | true=>rw [eq_of_beq z,hxcl] at e;cases e
  | false=>exact e
 have oldc:∀ y c,cl.lookup y=some c→C+1≠c:=fun y c e=>by
  obtain ⟨v,oc,hoc,_⟩:=I2.cell y c (hcl _ _ e)
  exact bCC c oc hoc
 have stl:∀ b∈frs X.stack,∃ o,s2.heap.get? b=some o:=fun b hb=>by
  obtain ⟨_,o,ho,_⟩:=I2.stack.mem hb
  exact ⟨o,ho⟩
 have fpl:∀ b∈fp,∃ o,s2.heap.get? b=some o∧∀ v,o.data≠.cell v:=fun b hb=>T.obj 0 _ st2 b hb
 have fpstk:∀ b∈fp,b∉frs X.stack:=fun b hb z=>by
  rcases List.mem_cons.mp (I2.stkSub b z) with z | z
  · exact (f2 b hb).2.1 z
  · exact (f2 b hb).2.2.1 z
 let B:=X.blkC (x::fr) scope cl x C s2 H2 fp
 have okB:B.Ok:=by
  refine ⟨I2.ok.mod,hkind,I2.ok.glob,I2.ok.blt,(by show s2.heap.objs.size≤C;rw [hC];exact Nat.le_succ _),fun y z c e1 e2=>?inj,fun y hy=>?has,fun y c z e=>?cab,
   fun _=>I2.ok.hd hc,I2.ok.frames,.inl rfl,fun b hb=>⟨?fb,fun y c e=>?fc⟩,I2.bs,Nat.le_trans I2.ok.bsz I2.sz,fun b o e hb=>?bs,fun b hb=>fpstk b hb,I2.stack,I2.stkFree⟩
  case inj=>
   rcases lkc _ _ e1 with ⟨q1,q2⟩ | ⟨q1,q2⟩ <;> rcases lkc _ _ e2 with ⟨q3,q4⟩ | ⟨q3,q4⟩
   · rw [q1,q3]
   · exact absurd q2.symm (oldc _ _ q4)
   · exact absurd q4.symm (oldc _ _ q2)
   · exact I2.ok.inj y z c (hcl _ _ q2) (hcl _ _ q4)
  case has=>
   rcases hcl2 y hy with q | ⟨c,q⟩
   · rw [q];exact ⟨_,lkx⟩
   · exact ⟨c,lko _ _ q⟩
  case cab=>
   rcases lkc _ _ e with ⟨q1,q2⟩ | ⟨q1,q2⟩
   · rw [q2];show s2.heap.objs.size≤C+1;rw [hC];exact Nat.le_succ_of_le (Nat.le_succ _)
   · exact absurd (eq_of_beq z) q1
  case fb=>
   obtain ⟨o,e,_⟩:=fpl b hb
   exact bC b o e
  case fc=>
   rcases lkc _ _ e with ⟨q1,q2⟩ | ⟨q1,q2⟩
   · obtain ⟨o,e,_⟩:=fpl b hb
     rw [q2];exact bCC b o e
   · exact (f2 b hb).2.2.2.2.1 y c (hcl _ _ q2)
  case bs=>
   rcases (f2 b hb).2.2.2.1 with z | z
   · exact I2.ok.noex b o e z
   · exact absurd (Nat.lt_of_lt_of_le (Heap.lt_size (I2.ok.bs b o e).1) z) (Nat.lt_irrefl _)
 have IB:∀ tk,Inv B [] (blkSt ix none σ) (upd H2 s2.heap.objs.size (.lst [])) { s2 with heap:=h₁,toks:=tk }:=fun tk=>by
  refine ⟨okB,rfl,I2.bare,Un.laid old (Nat.le_refl _) hDn,⟨_,hns₁,fun j y v e1 e2 e3=>?_⟩,fun y c e=>?_,?_,fun y c e=>?_,(fun p hp=>nomatch hp),I2.hok.laid old (Nat.le_refl _) ⟨Nat.zero_le _,[],0,.nil,hD1⟩,?_⟩
  · cases j with
    | zero=>cases (show (some none:Option (Option V))=some (some v) from e2)
    | succ j=>
     have e1:fr[j]?=some y:=e1
     have e2:(ix.map fun i=>(σ[i]?).join)[j]?=some (some v):=e2
     have hj:=congrArg (fun l=>l[j]?) hix
     simp only [List.getElem?_map,e1] at hj
     rw [List.getElem?_map] at e2
     cases hij:ix[j]? with
     | none=>rw [hij] at e2;cases e2
     | some i=>
      rw [hij] at hj e2
      have hj:X.N[i]?=some y:=Option.some.inj hj
      have e2:(σ[i]?).join=some v:=Option.some.inj e2
      have e2:σ[i]?=some (some v):=by
       cases z:σ[i]? with
       | none=>rw [z] at e2;cases e2
       | some z'=>rw [z] at e2;rw [show z'=some v from e2]
      obtain ⟨m,hn,hl⟩:=I2.loc
      have hk:=hfr y (List.mem_of_getElem? e1)
      obtain ⟨u,ru,lk⟩:=hl i y v hj e2 (.inr (.inl hk.1))
      refine ⟨u,ru,.inr ⟨.inl hk.2,?_⟩⟩
      rcases lk with ⟨z,_⟩ | ⟨_,c,ec,⟨oc,hoc,hcd⟩⟩
      · rw [hk.1] at z;cases z
      · rcases hcl2 y (.inl hk.2) with q | ⟨c',ec'⟩
        · rw [q] at e1
          exact absurd (List.mem_of_getElem? e1) (List.nodup_cons.mp hN).1
        · have:=hcl _ _ ec'
          rw [ec] at this;cases this
          exact ⟨c,lko _ _ ec',oc,old c oc hoc,hcd⟩
  · rcases lkc _ _ e with ⟨q1,q2⟩ | ⟨q1,q2⟩
    · rw [q2];exact ⟨_,_,hcl₁,rfl⟩
    · obtain ⟨v,oc,hoc,hcd⟩:=I2.cell y c (hcl _ _ q2)
      exact ⟨v,oc,old c oc hoc,hcd⟩
  · show upd H2 s2.heap.objs.size (.lst []) C=none
    rw [upd_ne (by rw [hC];exact Nat.succ_ne_self _)]
    exact I2.hok.fresh (by rw [hC];exact Nat.le_succ _)
  · rcases lkc _ _ e with ⟨q1,q2⟩ | ⟨q1,q2⟩
    · rw [q2,upd_ne (by rw [hC];exact Nat.ne_of_gt (Nat.lt_succ_of_lt (Nat.lt_succ_self _)))]
      exact I2.hok.fresh (by rw [hC];exact Nat.le_succ_of_le (Nat.le_succ _))
    · obtain ⟨v,oc,hoc,hcd⟩:=I2.cell y c (hcl _ _ q2)
      rw [upd_ne (Nat.ne_of_lt (Heap.lt_size hoc))]
      exact I2.freeC y c (hcl _ _ q2)
  · show (blkSt ix none σ).length=(x::fr).length
    have:=congrArg List.length hix
    simp only [List.length_map] at this
    simp [blkSt,this]
 have st1:∀ tk,tn 0 ({ s2 with heap:=h₁,toks:=tk }:Shared).heap:=fun _=>T.keep 0 _ _ st2 fun b hb o e=>old b o e
 have fB:∀ {H':Hp},(∀ b∈fp,H' b=none)→∀ b∈fp,FpOk B [] H' b:=fun hn b hb=>by
  obtain ⟨o,e,_⟩:=fpl b hb
  refine ⟨hn b hb,bC b o e,fpstk b hb,.inl hb,fun y c ec=>?_,(fun p hp=>nomatch hp)⟩
  rcases lkc _ _ ec with ⟨q1,q2⟩ | ⟨q1,q2⟩
  · rw [q2];exact bCC b o e
  · exact (f2 b hb).2.2.2.2.1 y c (hcl _ _ q2)
 have loop:∀ tk,codeAny (model X.prog X.w) X.A (.compLoop (.ListComp elt [⟨.Name x px,iter,[],0⟩] scope pos) 0 (.ref it) (.ref s2.heap.objs.size) (compEnvC scope ((x,C+1)::cl) C X.env))
   (compPost (model X.prog X.w) X.A X.xe none (EP X pins σ Q) (.ref s2.heap.objs.size) C) { s2 with heap:=h₁,toks:=tk }:=fun tk=>by
  refine codeAny_loop rfl (fun n s'=>∃ i ys x' H',Inv B [] (blkSt ix x' σ) H' s'∧tn i s'.heap∧(∀ b∈fp,H' b=none)∧W i n ys H') (fun n s3 hI=>?_) m0 ⟨0,[],none,_,IB tk,st1 tk,fun b hb=>?_,w0⟩
  · obtain ⟨i,ys,x',H3,I3,st3,fr3,w3⟩:=hI
    show wpAny _ _ ((compTurn (.ListComp elt [⟨.Name x px,iter,[],0⟩] scope pos) 0 (.ref it) (.ref s2.heap.objs.size) (compEnvC scope ((x,C+1)::cl) C X.env)).onRaise (fun zz=>do noteFrame zz (compEnvC scope ((x,C+1)::cl) C X.env);theTreesLotGoes zz)) _ _ s3
    refine wpAny_noted ?_
    rw [compTurn_list1]
    obtain ⟨hD3,alt⟩:=turn i n ys H3 w3
    refine wpAny_bind (wpAny_standAt (wpAny_bind ?_))
    rcases alt with ⟨stop,qn⟩ | ⟨go,hlen,step⟩
    · refine thn (T.done B rfl rfl rfl hc i [] s3 _ H3 _ I3 (fB fr3) st3 stop) fun r s4 ⟨hr,I4⟩=>?_
      subst hr
      refine wpAny_pure ?_
      obtain ⟨m4,hn4,_⟩:=I4.loc
      refine ⟨m4,hn4,fun h' sb=>?_⟩
      have un:Un (frs X.stack) fp H2 H3 s2.heap h':=by
       have u:=I4.base
       refine ⟨fun b o e n hb hx=>(sb.2 b (bC b o e)).trans (u.keep b o e n hb hx),fun b o e n hb hx=>?_,u.free,fun b o e hx=>?_,u.tups,u.frzs,u.tbls⟩
       · obtain ⟨sl,e1⟩:=u.slot b o e n hb hx
         exact ⟨sl,(sb.2 b (bC b o e)).trans e1⟩
       · obtain ⟨o',e1⟩:=u.there b o e hx
         exact ⟨o',(sb.2 b (bC b o e)).trans e1⟩
      refine ⟨.ref s2.heap.objs.size,H3,I2.call' (s':={ s4 with heap:=h' }) (ch:=fp) I4.os un (I4.hok.sameBut I4.free sb) I4.bare (fun b hb=>⟨(f2 b hb).2.2.2.1,(f2 b hb).2.1,(f2 b hb).2.2.2.2⟩),rfl,qn⟩
    · refine thn (T.item B rfl rfl rfl hc i [] s3 _ H3 _ I3 (fB fr3) st3 go) fun r s4 ⟨u,hr,h4⟩=>?_
      subst hr
      refine wpAny_bind (thn h4 fun _ s5 ⟨xv,H5,I5,r5,y5,st5,fr5⟩=>?_)
      have I5':=I5.pinned (fB fr5) (T.obj _ _ st5)
      refine wpAny_bind (wpAny_assign_Name (store_ok (i:=0) (X:=B) I5' hN rfl (.inr hx) r5 (fun s6 I6=>?_) (.inl (beq_self_eq_true x))))
      have I6:Inv B ([]++pinsAt fp s5.heap) (blkSt ix (some xv) σ) H5 s6:=I6
      refine wpAny_bind (wpAny_bind (wpAny_mono (he C s2 H2 fp _ s6 _ H5 _ I6 (step xv H5 y5)) (fun v s7 ⟨y,H7,I7,r7,hD7,m',hm,w7⟩=>?_) fun _ _ z=>False.elim z))
      refine wpAny_bind (wpAny_mono (mt_append (X:=B) _ s7 _ H7 (.ref s2.heap.objs.size) [y] (.ref s2.heap.objs.size) [v] (fun _ H8=>H8=upd H7 s2.heap.objs.size (.lst (ys++[y]))) I7 rfl (.cons r7 .nil) ⟨_,ys,y,rfl,rfl,hD7,hlen,rfl⟩)
       (fun _ s8 ⟨_,H8,I8,_,e8⟩=>?_) fun _ _ z=>False.elim z)
      subst e8
      refine wpAny_pure (wpAny_pure ⟨rfl,m',hm,i+1,ys++[y],some xv,_,I8.unpinned,T.keep _ _ _ st5 fun b hb o e=>(I8.pin (b,o) (List.mem_append_right _ (List.mem_append_right _ (mem_pinsAt hb e)))).1,fun b hb=>?_,w7⟩)
      obtain ⟨o,e,d⟩:=T.obj _ _ st5 b hb
      exact (I8.pin (b,o) (List.mem_append_right _ (List.mem_append_right _ (mem_pinsAt hb e)))).2.1
  · obtain ⟨o,e,_⟩:=fpl b hb
    rw [upd_ne (Nat.ne_of_lt (Heap.lt_size e))]
    exact (f2 b hb).1
 exact codeAny_compStart_list (loop _) (T.self _ 0 _ _ _ (st1 _) (loop _))
end
end L2
namespace My
open PySem L2
theorem FOk.pop {n:Nat}{rows:List Addr}{rd:Addr→List Int}{st:FS}{W:List (Addr × Addr × Int)}{e:Addr × Addr × Int} (h:FOk n rows rd st) (hW:st.W=W++[e]):FOk n rows rd { st with W:=W }∧WaitOk rows rd st.l e:=
 ⟨⟨h.lab,h.idm,h.dom,h.nd,fun x hx=>h.wt x (by rw [hW];exact List.mem_append_left _ hx)⟩,h.wt e (by rw [hW];exact List.mem_append_right _ (List.mem_singleton.mpr rfl))⟩
theorem FOk.sss {n:Nat}{rows:List Addr}{rd:Addr→List Int}{st:FS} (h:FOk n rows rd st) (s:List (List Int)):FOk n rows rd { st with ss:=s }:=⟨h.lab,h.idm,h.dom,h.nd,h.wt⟩
theorem FOk.lay {n:Nat}{rows:List Addr}{rd:Addr→List Int}{st:FS} (R:Rows n rows rd) (h:FOk n rows rd st) {a:Addr} (ha:a∈rows):
  FOk n rows rd (flay rd st a)∧(flay rd st a).l=st.l∧(flay rd st a).ss=st.ss∧(flay rd st a).W.length≤st.W.length+2:=by
 have row:=R.row a ha
 have ok1:=h.put (at_lt h.lab (row.mk 1).2).1 ha (.inl rfl:Side 1) (h.idm _ (row.mk 1).2).symm
 have ok2:=ok1.put (at_lt ok1.lab (row.mk (-1)).2).1 ha (.inr rfl:Side (-1)) (ok1.idm _ (row.mk (-1)).2).symm
 refine ⟨ok2,(fput_l ..).trans (fput_l ..),(fput_ss ..).trans (fput_ss ..),?_⟩
 have w1:=fput_W st (at_ st.l (My.mk (rd a) 1)) ((rd a).getD 2 0) 1 a
 have w2:=fput_W (fput st (at_ st.l (My.mk (rd a) 1)) ((rd a).getD 2 0) 1 a) (at_ (fput st (at_ st.l (My.mk (rd a) 1)) ((rd a).getD 2 0) 1 a).l (My.mk (rd a) (-1))) ((rd a).getD 2 0) (-1) a
 unfold flay
 dsimp only
 omega
def fs0 (n:Nat) (start:Ps):FS:={ l:=labs n start,D:=fun _=>[],W:=[],ss:=[] }
theorem lab0_at {n a:Nat} (h:a < n):(lab0 n).getD a 0=a:=by
 unfold lab0
 simp [List.getD,List.getElem?_map,List.getElem?_range h]
theorem fs0_ok {n:Nat}{rows:List Addr}{rd:Addr→List Int}{start:Ps} (h:∀ p∈start,PairOk n p.2):FOk n rows rd (fs0 n start):=by
 refine ⟨labs_ok _ h,?_,fun m hm e he=>(nomatch he),fun m hm=>List.nodup_nil,fun e he=>(nomatch he)⟩
 show ∀ a,a < n→(labs n start).getD (at_ (labs n start) a) 0=(labs n start).getD a 0
 suffices ∀ (start:Ps) (l:List Int),Lab n l→(∀ a,a < n→l.getD (at_ l a) 0=l.getD a 0)→(∀ p∈start,PairOk n p.2)→∀ a,a < n→(start.foldl (fun l p=>jnP l p.2) l).getD (at_ (start.foldl (fun l p=>jnP l p.2) l) a) 0=(start.foldl (fun l p=>jnP l p.2) l).getD a 0 from
  this start (lab0 n) (lab0_ok n) (fun a ha=>by
   have e:=lab0_at ha
   have:at_ (lab0 n) a=a:=by unfold at_;rw [e];simp
   rw [this]) h
 clear h start
 intro start
 induction start with
 | nil=>intro l _ h _;exact h
 | cons p ps ih=>
  intro l L h hp
  obtain ⟨a,b,er,ha,hb⟩:=hp p (List.mem_cons_self ..)
  have e:jnP l p.2=jn l a b:=by rw [er];rfl
  exact ih (jnP l p.2) (L.jnP ⟨a,b,er,ha,hb⟩) (by rw [e];exact idm_jn L h ha hb) fun q hq=>hp q (List.mem_cons_of_mem _ hq)
theorem fstep_ok {n:Nat}{rows:List Addr}{rd:Addr→List Int}{st:FS} (R:Rows n rows rd) (h:FOk n rows rd st) {x y:Addr}{s:Int} (w:WaitOk rows rd st.l (x,y,s)):
  FOk n rows rd (fstep rd st x y s)∧11 * sumL (fstep rd st x y s).l+(fstep rd st x y s).W.length≤11 * sumL st.l+st.W.length∧(fstep rd st x y s).W.length+10 * sumL (fstep rd st x y s).l≤st.W.length+10 * sumL st.l∧(fstep rd st x y s).ss.length+sumL (fstep rd st x y s).l≤st.ss.length+sumL st.l:=by
 have rx:=(R.row x w.x).mk (-s)
 have ry:=(R.row y w.y).mk (-s)
 unfold fstep
 by_cases e:st.l.getD (My.mk (rd x) (-s)) 0=st.l.getD (My.mk (rd y) (-s)) 0
 · rw [if_pos e]
   exact ⟨h,Nat.le_refl _,Nat.le_refl _,Nat.le_refl _⟩
 · rw [if_neg e]
   obtain ⟨o1,o2,o3,o4⟩:=(h.sss (st.ss++[[(rd x).getD 0 0,(rd y).getD 0 0,s]])).merge R rx.2 ry.2
   have lt:=jn_lt h.lab rx.2 ry.2 e
   refine ⟨o1,?_,?_,?_⟩
   · rw [o2];dsimp only at o4 ⊢;omega
   · rw [o2];dsimp only at o4 ⊢;omega
   · rw [o2,o3];dsimp only;rw [List.length_append,List.length_singleton];omega
def Keeps (n:Nat) (rows:List Addr) (rd:Addr→List Int) (J:FS→Prop):Prop:=∀ (st:FS) (W:List (Addr × Addr × Int)) (x y:Addr) (s:Int),FOk n rows rd st→st.W=W++[(x,y,s)]→J st→J (fstep rd { st with W:=W } x y s)
def spSettle (CF CG:Addr):Sp:=fun vs H Q _=>∃ (H0:Hp) (rows:List Addr) (rd:Addr→List Int) (n:Nat) (f:Addr) (d:FA) (st:FS) (J:FS→Prop),vs=[.ref f]∧Frame CF CG H0 rows rd n∧FAt CF CG H0 H f d n st∧FOk n rows rd st∧Keeps n rows rd J∧J st∧
 st.W.length+10 * sumL st.l≤9000000∧st.ss.length+sumL st.l≤9000000∧∀ (st':FS) (H':Hp),FAt CF CG H0 H' f d n st'→FOk n rows rd st'→J st'→st'.W=[]→st'.ss.length≤9000000→Kx d H H'→Q .non H'
def spFInit (CF CG:Addr):Sp:=fun vs H Q _=>∃ (H0:Hp) (f dx:Addr) (n:Nat) (ls:Addr) (ps:Ps),vs=[.ref f,.int n,.ref ls]∧H f=some (.ins CF dx [])∧H0 f=none∧Same H0 H∧Tl H ls ps∧(∀ p∈ps,PairOk n p.2)∧n≤1000∧ps.length≤1000∧CF≠CG∧
 ∀ (d:FA) (H':Hp),FAt CF CG H0 H' f d n (fs0 n ps)→Q .non H'
def rdOf (ps:Ps) (a:Addr):List Int:=match ps.find? (fun p=>p.1 == a) with
 | some p=>p.2
 | none=>[]
theorem map_int_inj {a b:List Int} (h:a.map V.int=b.map V.int):a=b:=by
 induction a generalizing b with
 | nil=>cases b with
  | nil=>rfl
  | cons _ _=>cases h
 | cons x a ih=>cases b with
  | nil=>cases h
  | cons y b=>
   obtain ⟨h1,h2⟩:=List.cons.inj h
   rw [V.int.inj h1,ih h2]
theorem rdOf_eq {H:Hp}{ps:Ps} (tp:Tp H ps) {p:Addr × List Int} (hp:p∈ps):rdOf ps p.1=p.2:=by
 unfold rdOf
 cases e:ps.find? (fun q=>q.1 == p.1) with
 | none=>
  have:=List.find?_eq_none.mp e p hp
  simp at this
 | some q=>
  have h1:q.1=p.1:=by simpa using List.find?_some e
  have h2:=tp q (List.mem_of_find?_eq_some e)
  have h3:=tp p hp
  rw [h1,h3] at h2
  exact (map_int_inj (HO.tup.inj (Option.some.inj h2))).symm
def layAll (ps:Ps) (st:FS):FS:=(ps.map (·.1)).foldl (flay (rdOf ps)) st
def spFolded:Sp:=fun vs H Q _=>∃ (n:Nat) (lr ls:Addr) (ps start:Ps) (J:FS→Prop),vs=[.int n,.ref lr,.ref ls]∧Tl H lr ps∧Tl H ls start∧(∀ p∈ps,RowOk n p.2∧1≤p.2.getD 2 0∧p.2.getD 2 0≤5)∧(∀ p∈start,PairOk n p.2)∧n≤700∧ps.length≤1000∧start.length≤1000∧
 Keeps n (ps.map (·.1)) (rdOf ps) J∧J (layAll ps (fs0 n start))∧
 ∀ (t l1 l2:Addr) (sp:Ps) (st:FS) (H':Hp),H' t=some (.tup [.ref l1,.ref l2])→Ints H' l1 st.l→Tl H' l2 sp→sp.map (·.2)=st.ss→FOk n (ps.map (·.1)) (rdOf ps) st→J st→st.W=[]→sp.length≤9000000→H l1=none→H l2=none→Same H H'→Q (.ref t) H'
theorem dicts_rd {lo:Int}{n:Nat}{ix:List Nat}{σ:St}{H:Hp}{Q:VK} (hn:n≤1000)
  (k:∀ (D:Addr) (ds:List Addr) (H':Hp),H D=none→H' D=some (.lst (ds.map V.ref))→ds.length=n→ds.Nodup→(∀ x∈ds,H x=none∧H' x=some (.dT [])∧x≠D)→Same H H'→Q (.ref D) H'):
  ∀ D,H D=none→∃ W:Nat→Nat→List V→Hp→Prop,(∃ m,W 0 m [] (upd H D (.lst [])))∧
   ∀ i m ys H2,W i m ys H2→H2 D=some (.lst ys)∧(((Itr lo n).stop i H2∧Q (.ref D) H2)∨((Itr lo n).go i H2∧ys.length < sizeLine∧∀ x H',(Itr lo n).yld i H2 x H'→tDNewT (blkSt ix (some x) σ) H' fun y H3=>
    H3 D=some (.lst ys)∧∃ m',m' < m∧W (i+1) m' (ys++[y]) (upd H3 D (.lst (ys++[y]))))):=by
 refine comp_range fun D hD=>⟨fun i ys H2=>∃ ds:List Addr,ys=ds.map V.ref∧ds.length=i∧i≤n∧H2 D=some (.lst ys)∧ds.Nodup∧(∀ x∈ds,H x=none∧H2 x=some (.dT [])∧x≠D)∧Same H H2,⟨[],rfl,rfl,Nat.zero_le _,upd_same,List.nodup_nil,(fun _ z=>nomatch z),(Same.refl H).upd hD⟩,?_,?_,?_⟩
 · rintro i ys H2 ⟨ds,rfl,hl,hi,e,_⟩
   exact ⟨e,small4k (by rw [List.length_map];omega)⟩
 · rintro i ys H2 hi ⟨ds,rfl,hl,_,e,nd,hx,s2⟩ Q' q' x hx0
   have nD:D≠x:=ne_of_none e hx0
   have hx0':H x=none:=by
    cases h:H x with
    | none=>rfl
    | some o=>rw [s2 _ _ h] at hx0;cases hx0
   refine q' _ _ (by rw [upd_ne nD];exact e) ⟨ds++[x],by rw [List.map_append];rfl,by simp [hl],hi,upd_same,?_,fun z hz=>?_,?_⟩
   · refine nd_snoc nd fun hz=>?_
     rw [(hx x hz).2.1] at hx0;cases hx0
   · rcases List.mem_append.mp hz with h | h
     · obtain ⟨h1,h2,h3⟩:=hx z h
       exact ⟨h1,by rw [upd_ne h3,upd_ne (ne_of_none h2 hx0)];exact h2,h3⟩
     · obtain rfl:=List.mem_singleton.mp h
       exact ⟨hx0',by rw [upd_ne nD.symm,upd_same],nD.symm⟩
   · exact ((s2.upd' hx0).upd hD)
 · rintro ys H2 ⟨ds,rfl,hl,_,e,nd,hx,s2⟩
   exact k D ds H2 hD e hl nd hx s2
theorem newD_rd {j n:Nat}{ix:List Nat}{σ:St}{H:Hp}{Q:VK} (hσ:σ[j]?=some (some (.int n))) (hn:n≤1000)
  (k:∀ (D:Addr) (ds:List Addr) (H':Hp),H D=none→H' D=some (.lst (ds.map V.ref))→ds.length=n→ds.Nodup→(∀ x∈ds,H x=none∧H' x=some (.dT [])∧x≠D)→Same H H'→Q (.ref D) H'):tCompW (iRng1 (tCons (tVar j) tNil)) ix tDNewT σ H Q:=
 ⟨_,hσ,_,rfl,by omega,by omega,⟨dicts_rd (lo:=0) (n:=(n:Int).toNat) (by omega) fun D ds H' h1 h2 h3 h4 h5 h6=>k D ds H' h1 h2 (by omega) h4 h5 h6⟩⟩
def good (l p q:List Int) (s:Int):Prop:=(s=1∨s= -1)∧p.getD 2 0=q.getD 2 0∧l.getD (mk p s) 0=l.getD (mk q s) 0∧¬ l.getD (mk p (-s)) 0=l.getD (mk q (-s)) 0
instance {l p q:List Int}{s:Int}:Decidable (good l p q s):=by unfold good;infer_instance
def stpP (ps:Ps) (l r:List Int):Option (List Int):=
 match fnd ps (r.getD 0 0),fnd ps (r.getD 1 0) with
 | some p,some q=>if good l p.2 q.2 (r.getD 2 0) then some (jn l (mk p.2 (-(r.getD 2 0))) (mk q.2 (-(r.getD 2 0)))) else none
 | _,_=>none
def wP (ps:Ps) (l:List Int) (ss:List (List Int)):Option (List Int):=ss.foldl (fun o r=>o.bind fun l=>stpP ps l r) (some l)
theorem wP_snoc {ps:Ps}{l:List Int}{ss:List (List Int)}{r:List Int}:wP ps l (ss++[r])=(wP ps l ss).bind fun l=>stpP ps l r:=by
 unfold wP;rw [List.foldl_append];rfl
theorem stpP_eq {ps:Ps}{l r:List Int}{p q:Addr × List Int} (e1:fnd ps (r.getD 0 0)=some p) (e2:fnd ps (r.getD 1 0)=some q) (g:good l p.2 q.2 (r.getD 2 0)):stpP ps l r=some (jn l (mk p.2 (-(r.getD 2 0))) (mk q.2 (-(r.getD 2 0)))):=by
 unfold stpP
 rw [e1,e2]
 dsimp only
 rw [if_pos g]
def Unl (ps:Ps):Prop:=∀ p∈ps,∀ q∈ps,p.2.getD 0 0=q.2.getD 0 0→p=q
theorem fnd_num {ps:Ps}{i:Int}:∀ {q:Addr × List Int},fnd ps i=some q→q.2.getD 0 0=i:=by
 suffices ∀ (o:Option (Addr × List Int)),(∀ q,o=some q→q.2.getD 0 0=i)→∀ q,ps.foldl (fun o p=>if i=p.2.getD 0 0 then some p else o) o=some q→q.2.getD 0 0=i from fun {q} h=>this none (fun q z=>nomatch z) q h
 induction ps with
 | nil=>intro o h q e;exact h q e
 | cons p ps ih=>
  intro o h q e
  refine ih (if i=p.2.getD 0 0 then some p else o) (fun q z=>?_) q e
  by_cases c:i=p.2.getD 0 0
  · rw [if_pos c] at z;cases z;exact c.symm
  · rw [if_neg c] at z;exact h q z
theorem fnd_is {ps:Ps}{i:Int}{p:Addr × List Int} (hp:p∈ps) (h:p.2.getD 0 0=i):∃ q,fnd ps i=some q:=by
 suffices ∀ (o:Option (Addr × List Int)),(p∈ps∨∃ q,o=some q)→∃ q,ps.foldl (fun o p=>if i=p.2.getD 0 0 then some p else o) o=some q from this none (.inl hp)
 clear hp
 induction ps with
 | nil=>
  intro o h
  rcases h with z | z
  · cases z
  · exact z
 | cons a ps ih=>
  intro o hh
  refine ih (if i=a.2.getD 0 0 then some a else o) ?_
  rcases hh with z | ⟨q,z⟩
  · rcases List.mem_cons.mp z with rfl | z
    · exact .inr ⟨p,by rw [if_pos h.symm]⟩
    · exact .inl z
  · refine .inr ?_
    by_cases c:i=a.2.getD 0 0
    · exact ⟨a,if_pos c⟩
    · exact ⟨q,by rw [if_neg c];exact z⟩
theorem fnd_unl {ps:Ps} (u:Unl ps) {p:Addr × List Int} (hp:p∈ps):fnd ps (p.2.getD 0 0)=some p:=by
 obtain ⟨q,e⟩:=fnd_is hp rfl
 rw [e,u q (fnd_mem e) p hp (fnd_num e)]
def JP (ps:Ps) (l0:List Int) (st:FS):Prop:=wP ps l0 st.ss=some st.l∧∀ r∈st.ss,TriOk r
theorem keeps_paper {n:Nat}{ps:Ps}{l0:List Int}{H:Hp} (u:Unl ps) (tp:Tp H ps) (R:Rows n (ps.map (·.1)) (rdOf ps)):Keeps n (ps.map (·.1)) (rdOf ps) (JP ps l0):=by
 intro st W x y s ok eW ⟨j1,j2⟩
 obtain ⟨ok3,we⟩:=ok.pop eW
 unfold fstep
 by_cases he:st.l.getD (My.mk (rdOf ps x) (-s)) 0=st.l.getD (My.mk (rdOf ps y) (-s)) 0
 · rw [if_pos he]
   exact ⟨j1,j2⟩
 · rw [if_neg he]
   obtain ⟨o1,o2,o3,o4⟩:=(ok3.sss (st.ss++[[(rdOf ps x).getD 0 0,(rdOf ps y).getD 0 0,s]])).merge R ((R.row x we.x).mk (-s)).2 ((R.row y we.y).mk (-s)).2
   refine ⟨?_,?_⟩
   · rw [o2,o3]
     show wP ps l0 (st.ss++[[(rdOf ps x).getD 0 0,(rdOf ps y).getD 0 0,s]])=some (jn st.l (My.mk (rdOf ps x) (-s)) (My.mk (rdOf ps y) (-s)))
     rw [wP_snoc,j1]
     obtain ⟨p,hp,ep⟩:=List.mem_map.mp we.x
     obtain ⟨q,hq,eq⟩:=List.mem_map.mp we.y
     have ep:p.1=x:=ep
     have eq:q.1=y:=eq
     subst ep eq
     have k:=we.k
     have nn:=we.n
     dsimp only at k nn
     rw [rdOf_eq tp hp,rdOf_eq tp hq] at he k nn ⊢
     have e1:fnd ps (([p.2.getD 0 0,q.2.getD 0 0,s]:List Int).getD 0 0)=some p:=fnd_unl u hp
     have e2:fnd ps (([p.2.getD 0 0,q.2.getD 0 0,s]:List Int).getD 1 0)=some q:=fnd_unl u hq
     exact stpP_eq e1 e2 ⟨we.s,k,nn,he⟩
   · rw [o3]
     intro r hr
     rcases List.mem_append.mp hr with h | h
     · exact j2 r h
     · obtain rfl:=List.mem_singleton.mp h
       refine ⟨_,_,s,rfl,?_⟩
       have:s=1∨s= -1:=we.s
       omega
def Cl (rs:List (List Int)) (st:Ps) (c:Nat→Int):Prop:=(∀ p∈st,c (p.2.getD 0 0).toNat=c (p.2.getD 1 0).toNat)∧
 ∀ p∈rs,∀ q∈rs,p.getD 2 0=q.getD 2 0→∀ s,Side s→c (mk p s)=c (mk q s)→c (mk p (-s))=c (mk q (-s))
structure LCo (n:Nat) (rs:List (List Int)) (st:Ps) (l:List Int):Prop where
 lab:Lab n l
 idm:∀ a,a < n→l.getD (at_ l a) 0=l.getD a 0
 le:∀ a:Nat,a < n→l.getD a 0≤a
 snd:∀ c,Cl rs st c→∀ a b,a < n→b < n→l.getD a 0=l.getD b 0→c a=c b
structure LOk (n:Nat) (rs:List (List Int)) (st:Ps) (l:List Int):Prop extends LCo n rs st l where
 stt:∀ p∈st,l.getD (p.2.getD 0 0).toNat 0=l.getD (p.2.getD 1 0).toNat 0
theorem jn_eqs {l:List Int}{a b x y:Nat} (hx:x < l.length) (hy:y < l.length) (h:(jn l a b).getD x 0=(jn l a b).getD y 0):l.getD x 0=l.getD y 0∨(l.getD x 0=l.getD a 0∧l.getD y 0=l.getD b 0)∨(l.getD x 0=l.getD b 0∧l.getD y 0=l.getD a 0):=by
 rw [jn_at hx,jn_at hy] at h
 split at h <;> split at h <;> omega
theorem LCo.jn {n:Nat}{rs:List (List Int)}{st:Ps}{l:List Int} (h:LCo n rs st l) {a b:Nat} (ha:a < n) (hb:b < n) (hc:∀ c,Cl rs st c→c a=c b):LCo n rs st (jn l a b):=by
 have ll:=h.lab.len
 refine ⟨h.lab.jn ha hb,idm_jn h.lab h.idm ha hb,fun x hx=>?_,fun c cl x y hx hy e=>?_⟩
 · rw [jn_at (by rw [ll];exact hx)]
   have h1:=h.le x hx
   split <;> omega
 · have ab:=hc c cl
   rcases jn_eqs (by rw [ll];exact hx) (by rw [ll];exact hy) e with z | ⟨z1,z2⟩ | ⟨z1,z2⟩
   · exact h.snd c cl x y hx hy z
   · rw [h.snd c cl x a hx ha z1,h.snd c cl y b hy hb z2,ab]
   · rw [h.snd c cl x b hx hb z1,h.snd c cl y a hy ha z2,ab]
theorem PairOk.to {n:Nat}{r:List Int} (h:PairOk n r):(r.getD 0 0).toNat < n∧(r.getD 1 0).toNat < n:=by
 obtain ⟨a,b,rfl,ha,hb⟩:=h
 exact ⟨by simpa using ha,by simpa using hb⟩
theorem LOk.jn {n:Nat}{rs:List (List Int)}{st:Ps}{l:List Int} (hst:∀ p∈st,PairOk n p.2) (h:LOk n rs st l) {a b:Nat} (ha:a < n) (hb:b < n) (hc:∀ c,Cl rs st c→c a=c b):LOk n rs st (jn l a b):=by
 refine { h.toLCo.jn ha hb hc with stt:=fun p hp=>?_ }
 have ll:=h.lab.len
 exact jn_keep (by rw [ll];exact (hst p hp).to.1) (by rw [ll];exact (hst p hp).to.2) (h.stt p hp)
theorem labs_LOk {n:Nat}{rs:List (List Int)}{st:Ps} (hst:∀ p∈st,PairOk n p.2):LOk n rs st (labs n st):=by
 suffices ∀ (todo:Ps) (l:List Int),LCo n rs st l→(∀ p∈todo,p∈st)→LCo n rs st (todo.foldl (fun l p=>jnP l p.2) l)∧(∀ p∈todo,(todo.foldl (fun l p=>jnP l p.2) l).getD (p.2.getD 0 0).toNat 0=(todo.foldl (fun l p=>jnP l p.2) l).getD (p.2.getD 1 0).toNat 0)∧
   ∀ x y,x < n→y < n→l.getD x 0=l.getD y 0→(todo.foldl (fun l p=>jnP l p.2) l).getD x 0=(todo.foldl (fun l p=>jnP l p.2) l).getD y 0 by
  obtain ⟨h1,h2,_⟩:=this st (lab0 n) ⟨lab0_ok n,fun a ha=>by
   have e:=lab0_at ha
   have:at_ (lab0 n) a=a:=by unfold at_;rw [e];simp
   rw [this],fun a ha=>by rw [lab0_at ha];exact Int.le_refl _,fun c _ a b ha hb e=>by rw [lab0_at ha,lab0_at hb] at e;rw [Int.ofNat.inj e]⟩ (fun p hp=>hp)
  exact { h1 with stt:=h2 }
 intro todo
 induction todo with
 | nil=>intro l h _;exact ⟨h,(fun _ z=>nomatch z),fun x y _ _ e=>e⟩
 | cons p ps ih=>
  intro l h hp
  have po:=hst p (hp p (List.mem_cons_self ..))
  have h1:LCo n rs st (jnP l p.2):=h.jn po.to.1 po.to.2 fun c cl=>cl.1 p (hp p (List.mem_cons_self ..))
  obtain ⟨g1,g2,g3⟩:=ih (jnP l p.2) h1 fun q hq=>hp q (List.mem_cons_of_mem _ hq)
  refine ⟨g1,fun q hq=>?_,fun x y hx hy e=>g3 x y hx hy (jn_keep (by rw [h.lab.len];exact hx) (by rw [h.lab.len];exact hy) e)⟩
  rcases List.mem_cons.mp hq with rfl | hq
  · exact g3 _ _ po.to.1 po.to.2 (low_joined h.lab po.to.1 po.to.2)
  · exact g2 q hq
def closed (rs:List (List Int)) (l:List Int):Prop:=∀ p∈rs,∀ q∈rs,p.getD 2 0=q.getD 2 0→∀ s,Side s→l.getD (mk p s) 0=l.getD (mk q s) 0→l.getD (mk p (-s)) 0=l.getD (mk q (-s)) 0
theorem LOk.lt {n:Nat}{rs:List (List Int)}{st:Ps}{l1 l2:List Int} (h1:LOk n rs st l1) (c1:closed rs l1) (h2:LOk n rs st l2):∀ a,a < n→l1.getD a 0≤l2.getD a 0:=by
 intro a ha
 have cl:Cl rs st (fun a=>l1.getD a 0):=⟨h1.stt,c1⟩
 obtain ⟨m1,m2⟩:=at_lt h2.lab ha
 have e:=h2.snd _ cl _ _ m1 ha (h2.idm a ha)
 have:=h1.le _ m1
 omega
theorem LOk.unique {n:Nat}{rs:List (List Int)}{st:Ps}{l1 l2:List Int} (h1:LOk n rs st l1) (c1:closed rs l1) (h2:LOk n rs st l2) (c2:closed rs l2):l1=l2:=by
 refine List.ext_getElem (by rw [h1.lab.len,h2.lab.len]) fun i hi1 hi2=>?_
 have hi:i < n:=by rw [← h1.lab.len];exact hi1
 have a:=h1.lt c1 h2 i hi
 have b:=h2.lt c2 h1 i hi
 simp only [List.getD,List.getElem?_eq_getElem hi1,List.getElem?_eq_getElem hi2,Option.getD_some] at a b
 omega
def Adm (n:Nat) (rd:Addr→List Int) (st:FS) (c:Nat→Int):Prop:=(∀ x y,x < n→y < n→st.l.getD x 0=st.l.getD y 0→c x=c y)∧∀ e∈st.W,c (mk (rd e.1) (-e.2.2))=c (mk (rd e.2.1) (-e.2.2))
def Cvd (n:Nat) (rd:Addr→List Int) (st:FS) (m:Nat) (k s:Int) (v:Nat):Prop:=∃ r:Addr,valV (st.D m) (key k s)=some (.ref r)∧∀ c,Adm n rd st c→c v=c (mk (rd r) (-s))
theorem adm_put {n:Nat}{rd:Addr→List Int}{st:FS}{m:Nat}{k s:Int}{a:Addr}{c:Nat→Int} (h:Adm n rd (fput st m k s a) c):Adm n rd st c:=by
 refine ⟨fun x y hx hy e=>h.1 x y hx hy (by rw [fput_l];exact e),fun e he=>h.2 e ?_⟩
 unfold fput
 split
 · exact List.mem_append_left _ he
 · exact he
 · exact he
theorem cvd_put {n:Nat}{rd:Addr→List Int}{st:FS}{m m':Nat}{k s k' s':Int}{a:Addr}{v:Nat} (h:Cvd n rd st m' k' s' v):Cvd n rd (fput st m k s a) m' k' s' v:=by
 obtain ⟨r,e,hc⟩:=h
 refine ⟨r,?_,fun c ad=>hc c (adm_put ad)⟩
 unfold fput
 split
 · exact e
 · exact e
 · rename_i en
   show valV (if m'=m then putK (st.D m) (key k s) (.ref a) else st.D m') (key k' s')=_
   by_cases hm:m'=m
   · subst hm
     rw [if_pos rfl,valV_put,if_neg (fun z=>by rw [z,en] at e;cases e)]
     exact e
   · rw [if_neg hm];exact e
theorem cvd_new {n:Nat}{rows:List Addr}{rd:Addr→List Int}{st:FS} (ok:FOk n rows rd st) {m:Nat} (hm:m < n) {k s:Int}{a:Addr}:Cvd n rd (fput st m k s a) m k s (mk (rd a) (-s)):=by
 unfold fput
 cases e:valV (st.D m) (key k s) with
 | none=>
  refine ⟨a,?_,fun c _=>rfl⟩
  show valV (if m=m then putK (st.D m) (key k s) (.ref a) else st.D m) (key k s)=_
  rw [if_pos rfl,valV_put,if_pos rfl]
 | some v=>
  obtain ⟨s',r,er,_⟩:=(ok.dom m hm _ (valV_mem e)).is
  obtain rfl:v=.ref r:=(Prod.mk.inj er).2
  refine ⟨r,e,fun c ad=>?_⟩
  exact (ad.2 (r,a,s) (List.mem_append_right _ (List.mem_singleton.mpr rfl))).symm
theorem fold_cvd {n:Nat}{rows:List Addr}{rd:Addr→List Int}{low:Nat} (hlow:low < n):∀ (es:List (List Key × V)) (st:FS),FOk n rows rd st→(∀ e∈es,DoorOk rows rd st.l low e)→
  (∀ c,Adm n rd (es.foldl (fone low) st) c→Adm n rd st c)∧(∀ m k s v,Cvd n rd st m k s v→Cvd n rd (es.foldl (fone low) st) m k s v)∧∀ e∈es,∀ k s r,e=(key k s,V.ref r)→Cvd n rd (es.foldl (fone low) st) low k s (mk (rd r) (-s)):=by
 intro es
 induction es with
 | nil=>intro st h _;exact ⟨fun c h=>h,fun m k s v h=>h,fun _ z=>nomatch z⟩
 | cons e es ih=>
  intro st h he
  obtain ⟨s,r,er,hr,hs,hl⟩:=(he e (List.mem_cons_self ..)).is
  subst er
  have h1:FOk n rows rd (fone low st (key ((rd r).getD 2 0) s,.ref r)):=h.put hlow hr hs hl
  have l1:(fone low st (key ((rd r).getD 2 0) s,.ref r)).l=st.l:=fput_l ..
  obtain ⟨a1,a2,a3⟩:=ih _ h1 (fun e' h'=>by rw [l1];exact he e' (List.mem_cons_of_mem _ h'))
  refine ⟨fun c ad=>adm_put (a1 c ad),fun m k' s' v cv=>a2 _ _ _ _ (cvd_put cv),fun e' h' k' s' r' z=>?_⟩
  rcases List.mem_cons.mp h' with rfl | h'
  · obtain ⟨z1,z2⟩:=Prod.mk.inj z
    have e2:(rd r).getD 2 0=k':=Sum.inl.inj (List.cons.inj z1).1
    have e3:s=s':=Sum.inl.inj (List.cons.inj (List.cons.inj z1).2).1
    have e4:r=r':=V.ref.inj z2
    subst e2 e3 e4
    exact a2 _ _ _ _ (cvd_new h hlow)
  · exact a3 e' h' k' s' r' z
def Cov (n:Nat) (rd:Addr→List Int) (La:Addr→Int→Prop) (st:FS):Prop:=∀ r s,La r s→Cvd n rd st (at_ st.l (mk (rd r) s)) ((rd r).getD 2 0) s (mk (rd r) (-s))
theorem cov_lay {n:Nat}{rows:List Addr}{rd:Addr→List Int} (R:Rows n rows rd):∀ (as:List Addr) (st:FS) (La:Addr→Int→Prop),FOk n rows rd st→(∀ a∈as,a∈rows)→Cov n rd La st→Cov n rd (fun r s=>La r s∨(r∈as∧Side s)) (as.foldl (flay rd) st):=by
 intro as
 induction as with
 | nil=>intro st La _ _ h r s z;exact h r s (z.elim id fun y=>nomatch y.1)
 | cons a as ih=>
  intro st La ok ha h
  have ar:=ha a (List.mem_cons_self ..)
  have row:=R.row a ar
  have m1:=(at_lt ok.lab (row.mk 1).2).1
  have ok1:=ok.put m1 ar (.inl rfl:Side 1) (ok.idm _ (row.mk 1).2).symm
  have m2:=(at_lt ok1.lab (row.mk (-1)).2).1
  obtain ⟨o1,o2,_,_⟩:=ok.lay R ar
  refine fun r0 s0 z0=>ih (flay rd st a) (fun r s=>La r s∨(r=a∧Side s)) o1 (fun b hb=>ha b (List.mem_cons_of_mem _ hb)) ?_ r0 s0 ?_
  · intro r s z
    rw [o2]
    rcases z with z | ⟨rfl,hz⟩
    · exact cvd_put (cvd_put (h r s z))
    · have hz:s=1∨s= -1:=hz
      rcases hz with rfl | rfl
      · exact cvd_put (cvd_new ok m1)
      · have:=cvd_new (k:=(rd r).getD 2 0) (s:= -1) (a:=r) ok1 m2
        rw [fput_l] at this
        unfold flay
        dsimp only
        rw [fput_l]
        exact this
  · rcases z0 with z | ⟨z,hs⟩
    · exact .inl (.inl z)
    · rcases List.mem_cons.mp z with z | z
      · exact .inl (.inr ⟨z,hs⟩)
      · exact .inr ⟨z,hs⟩
theorem cov_step {n:Nat}{rows:List Addr}{rd:Addr→List Int} (R:Rows n rows rd) {La:Addr→Int→Prop} (hLa:∀ r s,La r s→r∈rows∧Side s):Keeps n rows rd (Cov n rd La):=by
 intro st W x y s ok eW h
 obtain ⟨ok3,we⟩:=ok.pop eW
 have rx:=(R.row x we.x).mk (-s)
 have ry:=(R.row y we.y).mk (-s)
 unfold fstep
 by_cases he:st.l.getD (My.mk (rd x) (-s)) 0=st.l.getD (My.mk (rd y) (-s)) 0
 · rw [if_pos he]
   intro r s' z
   obtain ⟨r',e,hc⟩:=h r s' z
   refine ⟨r',e,fun c ad=>hc c ⟨ad.1,fun e' h'=>?_⟩⟩
   rw [eW] at h'
   rcases List.mem_append.mp h' with q | q
   · exact ad.2 e' q
   · obtain rfl:=List.mem_singleton.mp q
     exact ad.1 _ _ rx.2 ry.2 he
 · rw [if_neg he]
   have ok4:=ok3.sss (st.ss++[[(rd x).getD 0 0,(rd y).getD 0 0,s]])
   obtain ⟨lo,hi,el,eh⟩:=low_high ok.lab rx.2 ry.2
   have okj:=ok4.join R lo hi
   obtain ⟨o1,o2,_,_⟩:=ok4.merge R rx.2 ry.2
   have jl:=jn_low ok.lab ok.idm rx.2 ry.2
   have ll:=ok.lab.len
   have adm:∀ c,Adm n rd { st with W:=W,ss:=st.ss++[[(rd x).getD 0 0,(rd y).getD 0 0,s]],l:=jn st.l (lowOf st.l (My.mk (rd x) (-s)) (My.mk (rd y) (-s))) (highOf st.l (My.mk (rd x) (-s)) (My.mk (rd y) (-s))) } c→Adm n rd st c:=fun c ad=>by
    have ad1:=ad.1
    dsimp only at ad1
    rw [jl] at ad1
    refine ⟨fun a b ha hb e=>ad1 a b ha hb (jn_keep (by rw [ll];exact ha) (by rw [ll];exact hb) e),fun e' h'=>?_⟩
    rw [eW] at h'
    rcases List.mem_append.mp h' with q | q
    · exact ad.2 e' q
    · obtain rfl:=List.mem_singleton.mp q
      exact ad1 _ _ rx.2 ry.2 (low_joined ok.lab rx.2 ry.2)
   have cv1:∀ m k s' v,Cvd n rd st m k s' v→Cvd n rd { st with W:=W,ss:=st.ss++[[(rd x).getD 0 0,(rd y).getD 0 0,s]],l:=jn st.l (lowOf st.l (My.mk (rd x) (-s)) (My.mk (rd y) (-s))) (highOf st.l (My.mk (rd x) (-s)) (My.mk (rd y) (-s))) } m k s' v:=fun m k s' v ⟨r',e,hc⟩=>⟨r',e,fun c ad=>hc c (adm c ad)⟩
   obtain ⟨f1,f2,f3⟩:=fold_cvd lo (st.D (highOf st.l (My.mk (rd x) (-s)) (My.mk (rd y) (-s)))) _ okj fun e he=>by
    obtain ⟨s,r,er,hr,hs,hl⟩:=(okj.dom _ hi e he).is
    exact ⟨s,r,er,hr,hs,hl.trans (low_joined ok.lab lo hi).symm⟩
   intro r s' z
   obtain ⟨hrr,hss⟩:=hLa r s' z
   have rr:=((R.row r hrr).mk s').2
   have cv:=h r s' z
   have ej:=jn_at (l:=st.l) (a:=My.mk (rd x) (-s)) (b:=My.mk (rd y) (-s)) (x:=My.mk (rd r) s') (by rw [ll];exact rr)
   rw [o2]
   show Cvd n rd ((st.D (highOf st.l (My.mk (rd x) (-s)) (My.mk (rd y) (-s)))).foldl (fone (lowOf st.l (My.mk (rd x) (-s)) (My.mk (rd y) (-s)))) _) (at_ (jn st.l (My.mk (rd x) (-s)) (My.mk (rd y) (-s))) (My.mk (rd r) s')) _ _ _
   by_cases hh:st.l.getD (My.mk (rd r) s') 0=max (st.l.getD (My.mk (rd x) (-s)) 0) (st.l.getD (My.mk (rd y) (-s)) 0)
   · rw [if_pos hh] at ej
     have e1:at_ (jn st.l (My.mk (rd x) (-s)) (My.mk (rd y) (-s))) (My.mk (rd r) s')=lowOf st.l (My.mk (rd x) (-s)) (My.mk (rd y) (-s)):=by unfold at_;rw [ej];rfl
     have e2:at_ st.l (My.mk (rd r) s')=highOf st.l (My.mk (rd x) (-s)) (My.mk (rd y) (-s)):=by unfold at_;rw [hh];rfl
     rw [e2] at cv
     obtain ⟨r',e,hc⟩:=cv
     obtain ⟨r'',e',hc'⟩:=f3 _ (valV_mem e) _ _ r' rfl
     rw [e1]
     exact ⟨r'',e',fun c ad=>(hc c (adm c (f1 c ad))).trans (hc' c ad)⟩
   · rw [if_neg hh] at ej
     have e1:at_ (jn st.l (My.mk (rd x) (-s)) (My.mk (rd y) (-s))) (My.mk (rd r) s')=at_ st.l (My.mk (rd r) s'):=by unfold at_;rw [ej]
     rw [e1]
     exact f2 _ _ _ _ (cv1 _ _ _ _ cv)
theorem keeps_lab {n:Nat}{ps start:Ps}{H:Hp} (tp:Tp H ps) (hst:∀ p∈start,PairOk n p.2) (R:Rows n (ps.map (·.1)) (rdOf ps)):Keeps n (ps.map (·.1)) (rdOf ps) (fun st=>LOk n (ps.map (·.2)) start st.l):=by
 intro st W x y s ok eW h
 obtain ⟨ok3,we⟩:=ok.pop eW
 unfold fstep
 by_cases he:st.l.getD (My.mk (rdOf ps x) (-s)) 0=st.l.getD (My.mk (rdOf ps y) (-s)) 0
 · rw [if_pos he]
   exact h
 · rw [if_neg he]
   have rx:=(R.row x we.x).mk
   have ry:=(R.row y we.y).mk
   obtain ⟨o1,o2,o3,o4⟩:=(ok3.sss (st.ss++[[(rdOf ps x).getD 0 0,(rdOf ps y).getD 0 0,s]])).merge R (rx (-s)).2 (ry (-s)).2
   show LOk n (ps.map (·.2)) start (fmerge _ _ _).l
   rw [o2]
   refine h.jn hst (rx (-s)).2 (ry (-s)).2 fun c cl=>?_
   obtain ⟨p,hp,ep⟩:=List.mem_map.mp we.x
   obtain ⟨q,hq,eq⟩:=List.mem_map.mp we.y
   have ep:p.1=x:=ep
   have eq:q.1=y:=eq
   subst ep eq
   have k:=we.k
   have nn:=h.snd c cl _ _ (rx s).2 (ry s).2 we.n
   dsimp only at k
   rw [rdOf_eq tp hp,rdOf_eq tp hq] at k nn ⊢
   exact cl.2 p.2 (List.mem_map.mpr ⟨p,hp,rfl⟩) q.2 (List.mem_map.mpr ⟨q,hq,rfl⟩) k s we.s nn
theorem cov_closed {n:Nat}{ps:Ps}{H:Hp}{st:FS} (tp:Tp H ps) (ok:FOk n (ps.map (·.1)) (rdOf ps) st) (h:Cov n (rdOf ps) (fun r s=>r∈ps.map (·.1)∧Side s) st) (w:st.W=[]):closed (ps.map (·.2)) st.l:=by
 intro a ha b hb k s hs e
 obtain ⟨p,hp,rfl⟩:=List.mem_map.mp ha
 obtain ⟨q,hq,rfl⟩:=List.mem_map.mp hb
 have ad:Adm n (rdOf ps) st (fun a=>st.l.getD a 0):=⟨fun x y _ _ e=>e,fun e he=>by rw [w] at he;cases he⟩
 obtain ⟨r1,e1,c1⟩:=h p.1 s ⟨List.mem_map.mpr ⟨p,hp,rfl⟩,hs⟩
 obtain ⟨r2,e2,c2⟩:=h q.1 s ⟨List.mem_map.mpr ⟨q,hq,rfl⟩,hs⟩
 have d1:=c1 _ ad
 have d2:=c2 _ ad
 rw [rdOf_eq tp hp] at e1 d1
 rw [rdOf_eq tp hq] at e2 d2
 have:at_ st.l (My.mk p.2 s)=at_ st.l (My.mk q.2 s):=by unfold at_;rw [e]
 rw [this,k,e2] at e1
 have:r2=r1:=V.ref.inj (Option.some.inj e1)
 rw [d1,d2,this]
def spLFold:Sp:=fun vs H Q _=>∃ (n:Nat) (lr ls:Addr) (ps st:Ps),vs=[.int n,.ref lr,.ref ls]∧Tl H lr ps∧Tl H ls st∧(∀ p∈ps,RowOk n p.2)∧(∀ p∈st,PairOk n p.2)∧n≤1000∧ps.length≤1000∧st.length≤1000∧
 ∀ (l:List Int) (p:Addr) (H':Hp),Ints H' p l→LOk n (ps.map (·.2)) st l→closed (ps.map (·.2)) l→Same H H'→Q (.ref p) H'
def hereAt (fi st:Int) (i:Nat):Int:=if i=0 then st else fi+i - 1
theorem hereAt_succ (fi st:Int) (i:Nat):hereAt fi st (i+1)=fi+i:=by
 unfold hereAt
 rw [if_neg (by omega)]
 have:((i+1:Nat):Int)=i+1:=by omega
 omega
def rowAt (fi st:Int) (ns:List Int) (i:Nat):List Int:=
 if 0 < ns.getD i 0 then [-1 - (i:Int),hereAt fi st i,ns.getD i 0,fi+i] else [-1 - (i:Int),fi+i, -ns.getD i 0,hereAt fi st i]
def spTrail (K:PySem.W.Frag):Sp:=fun vs H Q _=>∃ (fi st:Int) (l:Addr) (ns:List Int),vs=[.int fi,.int st,.ref l]∧SqL K H l (ns.map V.int)∧ns.length≤1000∧NZ ns∧
 ∀ (p r:Addr) (ts:List Addr) (H':Hp),H p=none→H r=none→H' p=some (.tup [.ref r,.int (hereAt fi st ns.length)])→H' r=some (.lst (ts.map V.ref))→ts.length=ns.length→
  (∀ j t,ts[j]?=some t→H' t=some (.tup ((rowAt fi st ns j).map V.int)))→Same H H'→Q (.ref p) H'
end My
namespace PySem.W
open PySem PySem.Spec PySem.Calls PyProof.Rows
section
variable {prog:Program}{w:World}{A:Around}{E:Value→Shared→Prop}{s:Shared}{K:Frag}{x C:Addr}{ox:Obj}
def ClsAt (C x:Addr) (h:Heap):Prop:=∃ o,h.get? x=some o∧o.cls=.ref C
theorem ClsAt.ty {M:Model}{h:Heap} (I:ClsAt C x h):Looks M h (typeOf (.ref x)) (.ref C):=by
 obtain ⟨o,h1,h2⟩:=I
 exact h2▸(Looks.ld h1).andThen .now
end
end PySem.W
namespace L2
open PySem PySem.Spec PyProof.Rows
section
variable {P:Program}{w:World}{H H':Hp}{h h':Heap}{a:Addr}{o:HO}
theorem ObjOk.has (x:ObjOk P w H h a o):∃ u,h.get? a=some u:=by
 cases o with
 | lst xs=>obtain ⟨_,_,_,_,e⟩:=x;exact ⟨_,e⟩
 | tup xs=>obtain ⟨_,_,_,o,e,_⟩:=x;exact ⟨_,e⟩
 | dK kvs=>obtain ⟨_,_,_,_,o,_,_,e,_⟩:=x;exact ⟨_,e⟩
 | dT kvs=>obtain ⟨_,_,_,_,o,_,_,e,_⟩:=x;exact ⟨_,e⟩
 | set S n=>obtain ⟨o,_,_,_,e,_⟩:=x;exact ⟨_,e⟩
 | ins C dx fs=>obtain ⟨_,_,_,e,_⟩:=x;exact ⟨_,e⟩
 | own y=>obtain ⟨_,e⟩:=x;exact ⟨_,e⟩
 | xd fs=>obtain ⟨_,⟨_,_,_,e,_⟩,_⟩:=x;exact ⟨_,e⟩
 | rng lo hi=>obtain ⟨_,_,_,e⟩:=x;exact ⟨_,e⟩
 | frz ob u=>obtain ⟨e,_⟩:=x;exact ⟨_,e⟩
 | tbl ps=>exact ⟨_,(show h.get? a=some _ from x)⟩
 | met f y=>exact ⟨_,(show h.get? a=some _ from x)⟩
 | ext φ=>obtain ⟨_,⟨_,e⟩,_⟩:=x;exact ⟨_,e⟩
theorem HOk.only (x:HOk P w H h) (k:∀ b u,H b≠none→h.get? b=some u→h'.get? b=some u):HOk P w H h':=fun a o e=>
 (x a o e).stay (fun b u hb q=>k b u (by
  rcases hb with hb | hb
  · rw [hb,e];exact fun z=>nomatch z
  · rw [hb];exact fun z=>nomatch z) q) (fun _ q=>q) fun _ _ q=>q
end
def FlAt (B:Heap) (l:List Env) (e:Addr) (cls a0 fl:Value) (h:Heap):Prop:=B.StaysIn h∧B.get? e=none∧h.FunFrames B l∧h.TracedAtW B e cls a0 fl
theorem FlAt.cls {B:Heap}{l:List Env}{e:Addr}{cls a0 fl:Value}{h:Heap} (x:FlAt B l e cls a0 fl h):∃ o vs,h.get? e=some o∧o.cls=cls∧o.data=.fields vs:=by
 obtain ⟨_,_,_,oe,vs,_,_,_,he,hc,hd,_⟩:=x
 exact ⟨oe,vs,he,hc.1,hd⟩
section
variable {M:Model}{A:Around}{E:Value→Shared→Prop}{s:Shared}{B:Heap}{env:Env}{outer l:List Env}{L e:Addr}{cls a0 fl:Value}{Q:Unit→Shared→Prop}
theorem note_fl (hfr:A.frames=some (env::outer)) (hf:env.frame=some L) (h:FlAt B (env::outer) e cls a0 fl s.heap)
  (hQ:∀ h',FlAt B (env::outer) e cls a0 (rawInt L) h'→s.heap.UpToSlots h'→Q () { s with heap:=h' }):wpAny M A (noteFrame (.ref e) env) Q E s:=by
 by_cases hfl:(fl == rawInt L)=true
 · have:fl=rawInt L:=beq_iff_eq.mp hfl
   subst this
   exact wpAny_noteFrame_againW hf h.2.2.2 (hQ s.heap h (Heap.UpToSlots.refl _))
 obtain ⟨f1,f2,f3,oe,vs,tb,otb,ts,he,⟨hcls,h0⟩,hd,h1,hntb,htbe,htb,hdtb,h3⟩:=h
 subst hcls
 have rest:∀ b,b≠tb→(s.heap.update tb (Obj.mapFields (·.setIfInBounds 3 Value.none))).get? b=s.heap.get? b:=fun b hb=>Heap.get?_update_other _ _ (Ne.symm hb)
 have noRec:∀ b o,s.heap.get? b=some o→(∀ vs,o.data≠.fields vs)→b≠tb:=fun b o hb hnf q=>by
  rw [q,htb] at hb
  cases hb
  exact hnf ts hdtb
 unfold noteFrame
 simp only [hf]
 refine wpAny_bind (wpAny_field he hd h1 ?_)
 rw [if_pos (show (Value.ref tb != Value.none)=true from by simp)]
 refine wpAny_bind (wpAny_field htb hdtb h3 ?_)
 rw [if_neg hfl]
 refine wpAny_bind (wpAny_setField htb hdtb (Array.getElem?_eq_some_iff.mp h3).1 ?_)
 refine wpAny_entryW hfr (f3.of_keeps fun b o hb hnf=>⟨o,(rest b (noRec b o hb hnf)).trans hb,rfl⟩) hf ((rest e (Ne.symm htbe)).trans he)
  (fun b o hbo=>(rest b fun q=>by rw [q,hntb] at hbo;cases hbo).trans (f1 b o hbo)) f2 hd (Array.getElem?_eq_some_iff.mp h1).1 h0 fun h' ⟨x1,x2,x3,x4⟩=>?_
 exact hQ h' ⟨x1,f2,x2,x3⟩ fun b o hb hnf=>x4 b o ((rest b (noRec b o hb hnf)).trans hb) hnf
theorem land_fl (h:FlAt B l e cls a0 fl s.heap) (hQ:∀ h',FlAt B l e cls a0 .none h'→s.heap.UpToSlots h'→Q () { s with heap:=h' }):wpAny M A (setFlight (.ref e) none) Q E s:=
 wpAny_setFlight_noneW h.1 h.2.2.1 h.2.2.2 fun h' k1 k2 k3 k4=>hQ h' ⟨k1,h.2.1,k2,k3⟩ fun b o hb hn=>⟨o.slots,k4 b o hb hn⟩
theorem leave_fl (hfr:A.frames=some (env::outer)) (hf:env.frame=some L) (h:FlAt B (env::outer) e cls a0 fl s.heap)
  (hQ:∀ h',FlAt B outer e cls a0 .none h'→s.heap.UpToSlots h'→Q () { s with heap:=h' }):wpAny M A (leaving env (.ref e)) Q E s:=by
 unfold leaving
 refine wpAny_bind (note_fl hfr hf h fun h1 x1 u1=>?_)
 refine land_fl (s:={ s with heap:=h1 }) x1 fun h2 x2 u2=>hQ h2 ⟨x2.1,x2.2.1,x2.2.2.1.2.2,x2.2.2.2⟩ (u1.trans u2)
theorem put_fl {fo:Option Addr} (h:FlAt B l e cls a0 fl s.heap) (hQ:∀ h',FlAt B l e cls a0 (fo.elim Value.none fun f=>rawInt f) h'→s.heap.UpToSlots h'→Q () { s with heap:=h' }):wpAny M A (setFlight (.ref e) fo) Q E s:=by
 obtain ⟨f1,f2,f3,oe,vs,tb,otb,ts,he,hcls,hd,h1,hntb,htbe,htb,hdtb,h3⟩:=h
 have three:3 < ts.size:=(Array.getElem?_eq_some_iff.mp h3).1
 have rest:∀ b,b≠tb→(s.heap.update tb (Obj.mapFields (·.setIfInBounds 3 (fo.elim Value.none fun f=>rawInt f)))).get? b=s.heap.get? b:=fun b hb=>Heap.get?_update_other _ _ (Ne.symm hb)
 have noRec:∀ b o,s.heap.get? b=some o→(∀ vs,o.data≠.fields vs)→b≠tb:=fun b o hb hnf q=>by
  rw [q,htb] at hb
  cases hb
  exact hnf ts hdtb
 unfold setFlight
 refine wpAny_bind (wpAny_field he hd h1 ?_)
 rw [if_pos (show (Value.ref tb != Value.none)=true from by simp)]
 refine wpAny_setField htb hdtb three (hQ _ ⟨fun b o hbo=>(rest b fun q=>by rw [q,hntb] at hbo;cases hbo).trans (f1 b o hbo),f2,f3.of_keeps fun b o hb hnf=>⟨o,(rest b (noRec b o hb hnf)).trans hb,rfl⟩,?_⟩ fun b o hb hnf=>⟨o.slots,(rest b (noRec b o hb hnf)).trans hb⟩)
 exact ⟨oe,vs,tb,_,_,(rest e (Ne.symm htbe)).trans he,hcls,hd,h1,hntb,htbe,Heap.get?_update_self _ htb (Obj.isFreed_of_fields (Obj.data_mapFields hdtb _)),Obj.data_mapFields hdtb _,by simp [three]⟩
end
structure Hold (B:Heap) (fs ex:List Addr) (H H':Hp) (h h':Heap):Prop where
 a1:∀ b o,H' b≠none→h'.get? b=some o→B.get? b=some o
 a2:∀ b o,h.get? b=some o→H b=none→b∉fs→b∉ex→B.get? b=some o
 a3:∀ b o,h.get? b=some o→b∉fs→b∉ex→∃ o',B.get? b=some o'
section
variable {P:Program}{w:World}{B h h1 h2:Heap}{fs ex:List Addr}{H H':Hp}
theorem un_up (u:Un fs ex H H' h h1) (k:Hold B fs ex H H' h h1) (hB:B.StaysIn h2) (up:h1.UpToSlots h2) (fr:∀ b∈fs,∀ o,h1.get? b=some o→∀ vs,o.data≠.fields vs):Un fs ex H H' h h2 where
 keep:=fun b o q n hb he=>hB _ _ (k.a2 b o q n hb he)
 slot:=fun b o q n hb he=>by
  obtain ⟨sl,e⟩:=u.slot b o q n hb he
  obtain ⟨sl',e'⟩:=up b _ e (fr b hb _ e)
  exact ⟨sl',e'⟩
 free:=u.free
 there:=fun b o q he=>by
  by_cases hb:b∈fs
  · obtain ⟨o',e⟩:=u.there b o q he
    obtain ⟨sl',e'⟩:=up b _ e (fr b hb _ e)
    exact ⟨_,e'⟩
  · obtain ⟨o',e⟩:=k.a3 b o q hb he
    exact ⟨o',hB _ _ e⟩
 tups:=u.tups
 frzs:=u.frzs
 tbls:=u.tbls
theorem hold_up (hok:HOk P w H' h1) (k:Hold B fs ex H H' h h1) (hB:B.StaysIn h2):Hold B fs ex H H' h h2∧HOk P w H' h2:=by
 refine ⟨⟨fun b o n q=>?_,k.a2,k.a3⟩,hok.only fun b u n q=>hB _ _ (k.a1 b u n q)⟩
 cases e:H' b with
 | none=>exact absurd e n
 | some x=>
  obtain ⟨u,hu⟩:=(hok b x e).has
  have:=k.a1 b u n hu
  have z:=hB _ _ this
  rw [q] at z
  cases z
  exact this
end
structure Fly (P:Program) (w:World) (l:List Env) (H H':Hp) (h:Heap) (ea:Addr) (cls:Value) (h':Heap):Prop where
 ex:∃ B a0,FlAt B l ea cls a0 .none h'∧Hold B (frs l) [] H H' h h'
 un:Un (frs l) [] H H' h h'
 hok:HOk P w H' h'
def CXe (P:Program) (w:World):CXT:=fun l H s E e s'=>∃ ea cls H',e=.ref ea∧s'.os=s.os∧AllBare s'.gens∧Fly P w l H H' s.heap ea cls s'.heap∧E cls none H'
def FlI (X:Cx) (pins:List (Addr × Obj)) (σ:St) (E:XK) (e:Value) (s':Shared):Prop:=∃ ea cls H' B a0 fl,e=.ref ea∧Inv X pins σ H' s'∧FlAt B X.stack ea cls a0 fl s'.heap∧
 Hold B X.fs X.ex X.H₀ H' X.s₀.heap s'.heap∧(∀ p∈X.pn++pins,B.get? p.1=some p.2)∧E cls none H'
section
variable {X:Cx}{pins:List (Addr × Obj)}{σ:St}{H H':Hp}{s s':Shared}{B h2:Heap}
theorem Inv.up (I:Inv X pins σ H s) (k:Hold B X.fs X.ex X.H₀ H X.s₀.heap s.heap) (hp:∀ p∈X.pn++pins,B.get? p.1=some p.2) (hB:B.StaysIn h2) (up:s.heap.UpToSlots h2):Inv X pins σ H { s with heap:=h2 }:=by
 have ic:∀ c v,s.heap.IsCell c v→h2.IsCell c v:=fun c v ⟨o,e,d⟩=>by
  obtain ⟨sl,e'⟩:=up c o e fun vs z=>by rw [d] at z;cases z
  exact ⟨_,e',d⟩
 obtain ⟨m,hn,hl⟩:=I.loc
 refine ⟨I.ok,I.os,I.bare,un_up I.base k hB up fun b hb o e=>?_,⟨m,up.ns hn,fun i x v e1 e2 e3=>?_⟩,fun x c e=>?_,I.free,I.freeC,fun p hp'=>?_,(hold_up I.hok k hB).2,I.len⟩
 · obtain ⟨_,o',e',d⟩:=I.funs.mem hb
   rw [e] at e'
   cases e'
   exact d
 · obtain ⟨u,r,lk⟩:=hl i x v e1 e2 e3
   refine ⟨u,r,?_⟩
   rcases lk with lk | ⟨q,c,e,z⟩
   · exact .inl lk
   · exact .inr ⟨q,c,e,ic _ _ z⟩
 · obtain ⟨v,z⟩:=I.cell x c e
   exact ⟨v,ic _ _ z⟩
 · exact ⟨hB _ _ (hp p hp'),(I.pin p hp').2⟩
theorem Inv.notStk (I:Inv X pins σ H s) {b:Addr}{o:Obj} (e:X.s₀.heap.get? b=some o) (h:b∉X.fs):b∉frs X.stack:=fun z=>by
 rcases List.mem_cons.mp (I.stkSub b z) with q | q
 · exact absurd (Nat.lt_of_lt_of_le (Heap.lt_size e) I.ok.above) (by rw [q];exact Nat.lt_irrefl _)
 · exact h q
theorem Inv.flew {E:XK}{e:Value} (I:Inv X pins σ H s) (h:CXe X.prog X.w X.stack H s E e s'):FlI X pins σ E e s':=by
 obtain ⟨ea,cls,H',rfl,os,bare,F,hE⟩:=h
 obtain ⟨B,a0,fl,k⟩:=F.ex
 refine ⟨ea,cls,H',B,a0,.none,rfl,I.call' os F.un F.hok bare (fun b z=>absurd z (by simp)),fl,⟨k.a1,fun b o e n hb hx=>?_,fun b o e hb hx=>?_⟩,fun p hp=>?_,hE⟩
 · exact k.a2 b o (I.base.keep b o e n hb hx) (I.base.free b o e n hx) (I.notStk e hb) (by simp)
 · obtain ⟨o',e'⟩:=I.base.there b o e hx
   exact k.a3 b o' e' (I.notStk e hb) (by simp)
 · obtain ⟨h1,h2,h3,h4,_⟩:=I.pin p hp
   refine k.a2 p.1 p.2 h1 h2 (fun z=>?_) (by simp)
   rcases List.mem_cons.mp (I.stkSub _ z) with q | q
   · exact h3 q
   · exact h4 q
end
def PX (X:Cx) (e:Expr) (t:XK→TE):Prop:=
 ∀ (pins:List (Addr × Obj)) (s:Shared) (σ:St) (H:Hp) (Q:VK) (E:XK),Inv X pins σ H s→t E σ H Q→wpAny (model X.prog X.w) X.A (eval e X.env) (EP X pins σ Q) (FlI X pins σ E) s
section
variable {X:Cx}{k:Nat}{f C:Addr}{fd:FuncData}{ps:List Str}{sp:Sp}{dvs:List V}{ds:List Value}{x m:Str}{p pos apos:Pos}{e o:Expr}{es:List Expr}{ta:TE}{t:TA}
theorem run_fnX {pins:List (Addr × Obj)}{σ:St}{H:Hp}{s:Shared}{Q:VK}{E:XK}{us:List Value}{vs:List V} (F:FnOk X.prog X.w X.K X.mg X.base (CXe X.prog X.w) k f fd ps sp) (hr:Room k X.A) (hb:Binds X.K fd ps ds) (hd:Vals dvs ds)
  (I:Inv X pins σ H s) (r:Vals vs us) (h:sp (vs++dvs) H Q E):wpAny (model X.prog X.w) X.A (call (.ref f) us) (EP X pins σ Q) (FlI X pins σ E) s:=by
 have r2:Vals (vs++dvs) (us++ds):=r.append hd
 have hl:(us++ds).length=ps.length:=by rw [← r2.length];exact F.len _ _ _ _ h
 refine wpAny_call (codeAny_mono (F.run X.A X.stack s H ⟨us,[]⟩ (us++ds) (vs++dvs) Q E hr I.env0 (hb s us I.kIn hl) r2 h) fun r s' hq=>?_)
 cases r with
 | error e=>exact I.flew hq
 | ok fl=>
  cases fl with
  | ret u=>exact I.after hq
  | next=>exact False.elim hq
  | brk=>exact False.elim hq
  | cont=>exact False.elim hq
end
def XeF (X:Cx) (E:XK) (e:Value) (s':Shared):Prop:=(∃ pins σ,FlI X pins σ E e s')∨
 ∃ pins σ H h C ea args,e=.ref ea∧Inv X pins σ H { s' with heap:=h }∧Heap.MadeExcOf h s'.heap ea (.ref C) args∧E (.ref C) none H
section
variable {P:Program}{w:World}{K:PySem.W.Frag}{mg:Str→Option Value}{base:Heap}
theorem Inv.frFields {X:Cx}{pins:List (Addr × Obj)}{σ:St}{H:Hp}{s:Shared} (I:Inv X pins σ H s):∀ b∈X.fs,∀ o,s.heap.get? b=some o→∀ vs,o.data≠.fields vs:=fun b hb o e=>by
 obtain ⟨_,o',e',d⟩:=I.funs.mem hb
 rw [e] at e'
 cases e'
 exact d
theorem Inv.hold {X:Cx}{pins:List (Addr × Obj)}{σ:St}{H:Hp}{s:Shared} (I:Inv X pins σ H s):Hold (PySem.W.hideAll s.heap (frs X.stack)) X.fs X.ex X.H₀ H X.s₀.heap s.heap where
 a1:=fun b o n e=>PySem.W.hideAll_get _ e fun z=>n (I.stkFree b z)
 a2:=fun b o e n hb hx=>PySem.W.hideAll_get _ (I.base.keep b o e n hb hx) (I.notStk e hb)
 a3:=fun b o e hb hx=>by
  obtain ⟨o',e'⟩:=I.base.there b o e hx
  exact ⟨o',PySem.W.hideAll_get _ e' (I.notStk e hb)⟩
theorem XeF.out {N:List Str}{qual:Str}{scope:Scope}{f:Addr}{cd:Value}{A:Around}{outer:List Env}{s:Shared}{H:Hp}{E:XK}{e:Value}{s':Shared} (h:XeF (cxOf (CXe P w) P w K mg base N qual scope f cd A outer s H E) E e s'):
  (cxOf (CXe P w) P w K mg base N qual scope f cd A outer s H E).xe e s':=by
 rcases h with ⟨pins,σ,ea,cls,H',B,a0,fl,rfl,I,F,k,_,hE⟩ | ⟨pins,σ,H',h,C,ea,args,rfl,I,hx,hE⟩
 · refine leave_fl (L:=s.heap.objs.size) I.ok.frames rfl F fun h' F' up=>?_
   obtain ⟨k',hok'⟩:=hold_up I.hok k F'.1
   exact ⟨ea,cls,H',rfl,I.os,I.bare,⟨⟨B,a0,F',k'⟩,un_up I.base k F'.1 up I.frFields,hok'⟩,hE⟩
 · refine wpAny_leaves_madeW (base:=PySem.W.hideAll h (frs (cxOf (CXe P w) P w K mg base N qual scope f cd A outer s H E).stack)) (L:=s.heap.objs.size) (h:=h) I.ok.frames rfl (fun b o q=>PySem.W.of_hideAll _ q)
     (PySem.W.funFrames_hide I.stack fun env he a hf=>List.mem_filterMap.mpr ⟨env,he,hf⟩) hx fun h' t F' _ _ up=>?_
   have k:=I.hold
   obtain ⟨k',hok'⟩:=hold_up I.hok k F'.1
   have up':h.UpToSlots h':=(Heap.UpToSlots.of_keeps hx.keeps).trans up
   exact ⟨ea,.ref C,H',rfl,I.os,I.bare,⟨⟨_,_,F',k'⟩,un_up I.base k F'.1 up' I.frFields,hok'⟩,hE⟩
theorem Fun.okX {x qual:Str}{st:Stmt}{f:Addr}{fd:FuncData}{N ps:List Str}{k:Nat}{sp:Sp} (F:Fun K x qual st f fd) (S:FnScope N ps (defScope st)) (len:∀ vs H Q E,sp vs H Q E→vs.length=ps.length)
  (hbody:∀ (cdv:Value) (A:Around) (outer:List Env) (s:Shared) (H:Hp) (vs:List V) (Q:VK) (E:XK),Room k (A.deeper (envOfC qual (defScope st) s.heap.objs.size f cdv))→sp vs H Q E→
   ∃ t,PSs ((cxOf (CXe P w) P w K mg base N qual (defScope st) f cdv A outer s H E).wish (XeF (cxOf (CXe P w) P w K mg base N qual (defScope st) f cdv A outer s H E) E)) (defBody st) t∧t { nx:=fun _ H'=>Q .non H',rt:=Q } (start N vs) H):FnOk P w K mg base (CXe P w) (k+1) f fd ps sp:=by
 obtain ⟨oc,od,kV,doc,pm,an,cdv,ct,osl,rfl,lk,hcd⟩:=F.ex
 refine fn_of lk hcd S len fun A outer s H vs Q E hr hsp=>?_
 obtain ⟨t,h,q⟩:=hbody cdv A outer s H vs Q E hr hsp
 exact ⟨t,fun pins s1 σ1 H1 D I hw=>wpAny_mono (h pins s1 σ1 H1 D (I.wish _) hw) (fun _ _ q=>q.unwish) fun _ _ z=>XeF.out z,q⟩
end
abbrev veMro:List Value:=[.type "ValueError",.type "Exception",.type "BaseException",.type "object"]
def VeP (K:PySem.W.Frag) (C:Addr):Prop:=∃ (dd:Option Addr) (nm qn:Str) (bs sub:List Value) (B ns:Addr) (hd ab:Bool) (sn:List Str) (col:Option Bool) (k0 k1 k2 k3 k5:Option Value),
 K.lookup C=some ⟨.type "type",dd,.cls ⟨nm,bs,.ref C::.ref B::veMro,ns,qn,hd,sn,sub,ab,col,false⟩, #[k0,k1,k2,k3,some (.builtin "ValueError.__new__"),k5]⟩∧PySem.W.nsOkIn K ns=true∧PySem.W.nsIn K ns "__init__"=some none∧PySem.W.tailIn K veMro (.ref B::veMro)=true
noncomputable def isVe (K:PySem.W.Frag) (C:Addr):Bool:=@decide (VeP K C) (Classical.propDecidable _)
theorem exc_obj {K:PySem.W.Frag}{h:Heap}{C:Addr} (X:K.In h) (q:isVe K C=true):∃ bm N nm qn bs hdct sn sub ab col dd k0 k1 k2 k3 k5 mN,h.get? C=some (excClassObj nm qn C N bs bm hdct sn sub ab col dd k0 k1 k2 k3 k5 "ValueError.__new__")∧h.Ns N mN∧mN "__init__"=none∧OwnTail h veMro bm:=by
 obtain ⟨dd,nm,qn,bs,sub,B,ns,hd,ab,sn,col,k0,k1,k2,k3,k5,ho,hok,hni,ht⟩:=@of_decide_eq_true _ (Classical.propDecidable _) q
 exact ⟨.ref B::veMro,ns,nm,qn,bs,hd,sn,sub,ab,col,dd,k0,k1,k2,k3,k5,_,X _ _ ho,.of_isNs (PySem.W.isNs_of_in X hok),PySem.W.nsMap_none_of_in X hok hni,PySem.W.tail_of_in X ht⟩
def tRaise (C:Addr) (E:XK) (ta:TA):TS:=fun _ σ H=>ta σ H fun vs H1=>vs.length≤sizeLine∧E (.ref C) none H1
theorem ps_raise {X:Cx}{E:XK}{C:Addr}{x:Str}{np cpos pos:Pos}{e:Expr}{es:List Expr}{ta:TA} (hc:X.calm=true) (hg:Gl X x) (hm:X.mg x=some (.ref C)) (q:isVe X.K C=true) (ha:PA X.nox (e::es) ta)
  (hdb:(x == ("__debug__":Str))=false:=by decide) (he:starEach (e::es) X.env=(false,eval e X.env)::starEach es X.env:=by rfl) (hpl:(backTo cpos (starEach es X.env)).any (·.1)=false:=by rfl):
  PS (X.wish (XeF X E)) (.Raise (some (.Call (.Name x np) (e::es) [] cpos)) none pos) (tRaise C E ta):=by
 intro pins s σ H D I h
 have I0:=I.unwish
 obtain ⟨bm,N,nm,qn,bs,hdct,sn,sub,ab,col,dd,k0,k1,k2,k3,k5,mN,hC,hN,hni,T⟩:=exc_obj I0.mod.kin q
 refine wpAny_Raise_call_subT (C:=C) (nm:=nm) (q:=qn) (N:=N) (bs:=bs) (bm:=bm) (hdct:=hdct) (sn:=sn) (sub:=sub) (ab:=ab) (col:=col) (dd:=dd) (k0:=k0) (k1:=k1) (k2:=k2) (k3:=k3) (k5:=k5)
  F.excBase_ValueError (mN:=mN) (T.hasType (by decide+kernel)) (I0.ok.hd hc) (by rw [he];show (false || (backTo cpos (starEach es X.env)).any (·.1))=false;rw [hpl];rfl) hni (ld_glob I hg hm ⟨rfl,?_⟩ hdb)
 have z:=ha cpos pins s σ H _ (I0.wish _) h
 show wpAny _ _ (evalArgs (.ref C) true (backTo cpos (starEach (e::es) X.env)) []) _ _ _
 rw [he] at z ⊢
 refine Calls.evalArgs_plain (wpAny_mono z (fun vs s2 ⟨ws,H1,I1,r,hl,hE⟩=>?_) fun _ _ z=>False.elim z)
 have I1:=I1.unwish
 exact ⟨rfl,by rw [← r.length];exact hl,I1.bk _ _ hC,hN.keeps I1.bk,T.keeps I1.bk,fun h' ea hx=>.inr ⟨pins,σ,H1,s2.heap,C,ea,vs,rfl,I1,hx,hE⟩⟩
section
variable {X:Cx}
end
def Cx.caught (X:Cx) (ea:Addr):Cx:={ X with A:=X.A.mark (some (.ref ea)),calm:=false,xe:=fun _ _=>False }
section
variable {X:Cx}{pins:List (Addr × Obj)}{σ:St}{H:Hp}{s:Shared}{ea:Addr}
theorem Inv.caught (I:Inv X pins σ H s):Inv (X.caught ea) pins σ H s:=
 ⟨⟨I.ok.mod,I.ok.kind,I.ok.glob,I.ok.blt,I.ok.above,I.ok.inj,I.ok.has,I.ok.cab,(fun z=>nomatch (show false=true from z)),I.ok.frames,I.ok.stk,I.ok.exf,I.ok.bs,I.ok.bsz,I.ok.noex,I.ok.exfs,I.ok.funs,I.ok.frf⟩,I.os,I.bare,I.base,I.loc,I.cell,I.free,I.freeC,I.pin,I.hok,I.len⟩
theorem Inv.uncaught (ok:X.Ok) (I:Inv (X.caught ea) pins σ H s):Inv X pins σ H s:=⟨ok,I.os,I.bare,I.base,I.loc,I.cell,I.free,I.freeC,I.pin,I.hok,I.len⟩
end
section
variable {X:Cx}
end
structure Rdx (P:Program) (w:World) (K:PySem.W.Frag) (mg:Str→Option Value) (base:Heap) (x:Str) (ps:List Str) (k:Nat) (sp:Sp) where
 f:Addr
 fd:FuncData
 ok:FnOk P w K mg base (CXe P w) k f fd ps sp
 mgx:mg x=some (.ref f)
 kp:PySem.W.keepIn K (.ref f)=true
 bd:Binds K fd ps []
def strKey (e:DictEntry):Bool:=match e.key with
 | .str _ _=>true
 | _=>false
theorem nsOk_mk {K:PySem.W.Frag}{N:Addr}{c:Value}{d:Option Addr}{es:Array DictEntry}{n:Nat}{sl:Array (Option Value)} (l:K.lookup N=some ⟨c,d,.dict es n,sl⟩) (h:es.toList.all strKey=true):PySem.W.nsOkIn K N=true:=by
 unfold PySem.W.nsOkIn
 rw [l]
 rw [Array.all_toList] at h
 exact h
theorem isVe_mk {K:PySem.W.Frag}{C B ns:Addr}{dd od:Option Addr}{nm qn:Str}{bs sub:List Value}{hd ab:Bool}{sn:List Str}{col:Option Bool}{k0 k1 k2 k3 k5:Option Value}{oc:Value}{cdB:ClassData}{osl:Array (Option Value)}
  (l:K.lookup C=some ⟨.type "type",dd,.cls ⟨nm,bs,.ref C::.ref B::veMro,ns,qn,hd,sn,sub,ab,col,false⟩, #[k0,k1,k2,k3,some (.builtin "ValueError.__new__"),k5]⟩) (n1:PySem.W.nsOkIn K ns=true) (n2:PySem.W.nsIn K ns "__init__"=some none)
  (l2:K.lookup B=some ⟨oc,od,.cls cdB,osl⟩) (n3:PySem.W.nsOkIn K cdB.ns=true) (n4:PySem.W.nsIn K cdB.ns "__init__"=some none):isVe K C=true:=by
 have t:PySem.W.tailIn K veMro (.ref B::veMro)=true:=by
  unfold PySem.W.tailIn
  dsimp only
  rw [l2]
  dsimp only
  rw [n3,n4]
  have:PySem.W.tailIn K veMro veMro=true:=by
   unfold PySem.W.tailIn
   rw [beq_self_eq_true]
   rfl
  rw [this,Bool.or_eq_true]
  exact .inr rfl
 exact @decide_eq_true _ (Classical.propDecidable _) ⟨dd,nm,qn,bs,sub,B,ns,hd,ab,sn,col,k0,k1,k2,k3,k5,l,n1,n2,t⟩
theorem passX {X:Cx}{E:XK}:Passes (CXe X.prog X.w) (X.wish (XeF X E)) E:=fun pins σ _ _ _ _ I h=>.inl ⟨pins,σ,I.unwish.flew h⟩
theorem passesXeF {X:Cx}{E:XK}{L:Addr} (hst:X.stack=X.env::X.outer) (hfr:X.env.frame=some L):PassesOwn (model X.prog X.w) X.A X.env (XeF X E):=by
 intro ev s' h
 have fin:∀ (pins:List (Addr × Obj)) (σ:St) (H':Hp) (ea:Addr) (cls a0:Value) (B:Heap) (s1:Shared) (h2:Heap),Inv X pins σ H' s1→Hold B X.fs X.ex X.H₀ H' X.s₀.heap s1.heap→(∀ p∈X.pn++pins,B.get? p.1=some p.2)→FlAt B (X.env::X.outer) ea cls a0 (rawInt L) h2→s1.heap.UpToSlots h2→E cls none H'→
   cameBackBy (model X.prog X.w) X.A X.env (XeF X E) (.ref ea) { s1 with heap:=h2 }:=by
  intro pins σ H' ea cls a0 B s1 h2 I k kp F2 up hE
  unfold cameBackBy
  obtain ⟨_,_,_,oe,vs,T,oT,ts,he,_,hd,h1,_⟩:=id F2
  refine wpAny_bind (wpAny_field (s:={ s1 with heap:=h2 }) he hd h1 ?_)
  rw [if_neg (by simp)]
  refine put_fl (s:={ s1 with heap:=h2 }) F2 fun h3 F3 up3=>?_
  exact .inl ⟨pins,σ,ea,cls,H',B,a0,_,rfl,I.up k kp F3.1 (up.trans up3),by rw [hst];exact F3,(hold_up I.hok k F3.1).1,kp,hE⟩
 rcases h with ⟨pins,σ,ea,cls,H',B,a0,fl,rfl,I,F,k,kp,hE⟩ | ⟨pins,σ,H',h,C,ea,args,rfl,I,hx,hE⟩
 · have fr1:X.A.frames=some (X.env::X.outer):=by rw [← hst];exact I.ok.frames
   have F':FlAt B (X.env::X.outer) ea cls a0 fl s'.heap:=by rw [← hst];exact F
   refine note_fl fr1 hfr F' fun h2 F2 up2=>?_
   exact fin pins σ H' ea cls a0 B s' h2 I k kp F2 up2 hE
 · have fr1:X.A.frames=some (X.env::X.outer):=by rw [← hst];exact I.ok.frames
   obtain ⟨t,he,_,_⟩:=hx.there
   have st:(PySem.W.hideAll h (frs X.stack)).StaysIn s'.heap:=fun b o q=>hx.keeps b o (PySem.W.of_hideAll _ q)
   have en:(PySem.W.hideAll h (frs X.stack)).get? ea=none:=by
    cases z:(PySem.W.hideAll h (frs X.stack)).get? ea with
    | none=>rfl
    | some o=>have:=PySem.W.of_hideAll _ z;rw [hx.new] at this;cases this
   have ff:s'.heap.FunFrames (PySem.W.hideAll h (frs X.stack)) (X.env::X.outer):=by
    rw [← hst]
    exact (PySem.W.funFrames_hide I.stack fun env he a hf=>List.mem_filterMap.mpr ⟨env,he,hf⟩).of_keeps fun b o hb _=>⟨o,hx.keeps b o hb,rfl⟩
   have kp:∀ p∈X.pn++pins,(PySem.W.hideAll h (frs X.stack)).get? p.1=some p.2:=fun p hp=>by
    obtain ⟨h1,h2,h3,h4,_⟩:=I.pin p hp
    refine PySem.W.hideAll_get _ h1 fun z=>?_
    rcases List.mem_cons.mp (I.stkSub _ z) with q | q
    · exact h3 q
    · exact h4 q
   unfold notedBy noteFrame
   simp only [hfr]
   refine wpAny_bind (wpAny_field (x:=.none) he rfl rfl ?_)
   rw [if_neg (by decide)]
   refine wpAny_entryW (a0:=.ref t) fr1 ff hfr he st en rfl (show 1 < 6 by decide) rfl fun h2 ⟨x1,x2,x3,x4⟩=>?_
   exact fin pins σ H' ea (.ref C) (.ref t) _ { s' with heap:=h } h2 I I.hold kp ⟨x1,en,x2,x3⟩ ((Heap.UpToSlots.of_keeps hx.keeps).trans x4) hE
section
variable {X:Cx}{k:Nat}{f C:Addr}{fd:FuncData}{ps:List Str}{sp:Sp}{dvs:List V}{ds:List Value}{x m:Str}{p pos apos:Pos}{e o:Expr}{es:List Expr}{ta:TE}{t:TA}
theorem px_meth {pl:Sem Bool} (he:PE X.nox o ta) (c:Cls X.K C) (hm:Meth X.K C m f) (F:FnOk X.prog X.w X.K X.mg X.base (CXe X.prog X.w) k f fd ps sp) (hr:Room k X.A) (hb:Binds X.K fd ps ds) (hd:Vals dvs ds) (ha:PA X.nox (e::es) t)
  (hst:starEach (e::es) X.env=(false,eval e X.env)::starEach es X.env:=by rfl) (hpl:(backTo pos (starEach es X.env)).any (·.1)=false:=by rfl)
  (ht:eval (.Call (.Attribute o m apos) (e::es) [] pos) X.env=(do
   let ov ← eval o X.env
   standAt apos.atName
   let (f,first) ← holding [ov] (getMethod ov m pl)
   callWith pos f first (backTo pos (starEach (e::es) X.env)) (backToKw pos (keywordEach [] X.env))):=by rfl):
  PX X (.Call (.Attribute o m apos) (e::es) [] pos) (fun E=>tMeth C m sp dvs E ta t):=by
 intro pins s σ H Q E I h
 refine PySem.W.methodCall_KW (pl:=pl) (wpAny_mono (he pins s σ H _ (I.wish _) h) (fun u s1 ⟨x,H1,I1,rx,a,dx,fs,ex,ea,l,q⟩=>?_) fun _ _ z=>False.elim z) ht
 subst ex
 obtain rfl:u=Value.ref a:=rx
 have I1:=I1.unwish
 refine getmeth_ok I1 ea c hm l ?_
 refine PySem.W.callWith_K (first:=[.ref a]) (h₀:=X.base) I.ok.mod.kin hm.kp (wpAny_mono (ha pos pins s1 σ H1 _ (I1.wish _) q) (fun us s2 ⟨vs,H2,I2,r,q2⟩=>⟨I2.unwish.kIn,?_⟩) fun _ _ z=>False.elim z) hst hpl
 exact run_fnX (us:=.ref a::us) (vs:=.ref a::vs) F hr hb hd I2.unwish (.cons rfl r) q2
end
def PSX (X:Cx) (st:Stmt) (t:XK→TS):Prop:=
 ∀ (pins:List (Addr × Obj)) (s:Shared) (σ:St) (H:Hp) (D:Ends) (E:XK),Inv X pins σ H s→t E D σ H→wpAny (model X.prog X.w) X.A (exec st X.env) (SP X pins D) (FlI X pins σ E) s
def tSetX (i:Nat) (te:XK→TE) (E:XK):TS:=fun D σ H=>te E σ H fun v H1=>D.nx (σ.set i (some v)) H1
theorem psx_set {X:Cx}{i:Nat}{x:Str}{e:Expr}{te:XK→TE}{px pa:Pos} (hN:X.N.Nodup) (hi:X.N[i]?=some x) (hx:Loc X.env.scope x) (he:PX X e te) (hs:swapsWith e (some (.Name x px)) pa.line X.env=pure false:=by rfl) (hfn:∀ x,X.fn x=true:=by intro _;rfl):
  PSX X (.Assign [.Name x px] e pa) (tSetX i te):=by
 intro pins s σ H D E I h
 refine wpAny_Assign_Name (wpAny_mono (he pins s σ H _ _ I h) (fun v s1 ⟨y,H1,I1,r1,q1⟩=>?_) (fun ev s1 hfl=>hfl)) hs
 exact store_ok I1 hN hi hx r1 (fun s2 I2=>⟨_,H1,I2,q1⟩) (.inl (hfn x))
theorem psx_if {X:Cx}{c:Expr}{a b:Stmt}{tc:TT}{ta tb:XK→TS}{pos:Pos} (hc:PT X.nox c tc) (ha:PSX X a ta) (hb:PSX X b tb):PSX X (.If c [a] [b] pos) (fun E=>tIfS tc (ta E) (tb E)):=by
 intro pins s σ H D E I h
 refine wpAny_If (wpAny_mono (hc pins s σ H _ (I.wish _) h) (fun d s1 ⟨H1,I1,q1⟩=>?_) fun _ _ z=>False.elim z)
 have I1:=I1.unwish
 have fin:∀ {st:Stmt}{t:XK→TS},PSX X st t→t E D σ H1→wpAny (model X.prog X.w) X.A (execs [st] X.env) (SP X pins D) (FlI X pins σ E) s1:=fun hp q=>by
  refine wpAny_execs_cons (thn (hp pins s1 σ H1 D E I1 q) fun f s1 q=>?_)
  cases f with
  | next=>exact wpAny_execs_nil q
  | ret v=>exact q
  | brk=>exact q
  | cont=>exact q
 cases d with
 | true=>exact fin ha q1
 | false=>exact fin hb q1
def tTryN (K:PySem.W.Frag) (Ce:Addr) (tb:XK→TS) (ts:TS):TS:=fun D σ H=>
 tb (fun cls _ H'=>∃ C,cls=.ref C∧PySem.W.exmOne K (.ref C) (.ref Ce)=some true∧ts D σ H') D σ H
theorem ps_tryN {X:Cx}{cx:Str}{b:Stmt}{tb:XK→TS}{ts:TS}{b₀:Stmt}{suite:List Stmt}{Ce:Addr}{np hp pos:Pos}
  (hb:PSX X b tb) (hg:Gl X cx) (hm:X.mg cx=some (.ref Ce)) (hsu:∀ ea,PSs (X.caught ea) (b₀::suite) ts)
  (hdb:(cx == ("__debug__":Str))=false:=by decide) (hst:X.stack=X.env::X.outer:=by rfl) (hfr:X.env.frame=some X.env.locals:=by rfl):
  PS X (.Try [b] [.ExceptHandler (some (.Name cx np)) none (b₀::suite) hp] [] [] pos) (tTryN X.K Ce tb ts):=by
 intro pins s σ H D I h
 refine wpAny_Try_except (wpAny_execs_cons (wpAny_mono (hb pins s σ H D _ I h) (fun f s1 q=>?_) (fun ev s1 hfl=>?_)))
 · cases f with
   | next=>exact wpAny_execs_nil (wpAny_execs_nil q)
   | ret v=>exact q
   | brk=>exact q
   | cont=>exact q
 obtain ⟨ea,cls,H',B,a0,fl,rfl,I1,F1,k1,kp,C,rfl,hexm,hE⟩:=hfl
 have fr1:X.A.frames=some (X.env::X.outer):=by rw [← hst];exact I.ok.frames
 have F1':FlAt B (X.env::X.outer) ea (.ref C) a0 fl s1.heap:=by rw [← hst];exact F1
 refine note_fl fr1 hfr F1' fun h2 F2 up2=>?_
 refine land_fl (s:={ s1 with heap:=h2 }) F2 fun h3 F3 up3=>?_
 have I3:=I1.up k1 kp F3.1 (up2.trans up3)
 obtain ⟨oe,vs,g1,g2,g3⟩:=F3.cls
 have LT:PySem.W.Looks (model X.prog X.w) h3 (typeOf (.ref ea)) (.ref C):=PySem.W.ClsAt.ty ⟨oe,g1,g2⟩
 refine wpAny_handleBy_cons (codeAny_handlers_test ?_) (by intro q;cases q)
 refine ld_glob (X:=X.caught ea) (I3.caught (ea:=ea)) hg hm ?_ hdb
 refine (PySem.W.exm_one (M:=model X.prog X.w) I3.kIn LT hexm).at ?_
 refine codeAny_handlers_suite ?_
 refine land_fl (s:={ s1 with heap:=h3 }) F3 fun h4 F4 up4=>?_
 have I4:=I1.up k1 kp F4.1 ((up2.trans up3).trans up4)
 refine wpAny_mono (hsu ea pins _ σ H' D (I4.caught (ea:=ea)) hE) (fun f s7 q=>?_) fun _ _ z=>False.elim z
 cases f with
 | next=>obtain ⟨σ',H7,I7,q⟩:=q;exact ⟨_,_,I7.uncaught I.ok,q⟩
 | brk=>obtain ⟨σ',H7,I7,q⟩:=q;exact ⟨_,_,I7.uncaught I.ok,q⟩
 | cont=>obtain ⟨σ',H7,I7,q⟩:=q;exact ⟨_,_,I7.uncaught I.ok,q⟩
 | ret u=>obtain ⟨v,σ',H7,I7,r,q⟩:=q;exact ⟨v,_,_,I7.uncaught I.ok,r,q⟩
section
variable {X:Cx}{e:Expr}{te:TE}{pos:Pos}
theorem pe_compC {x:Str}{px:Pos}{elt iter:Expr}{scope:Scope}{cl:List (Str × Addr)}{wi:TI} (fr:List Str) (ix:List Nat)
  (hi:PI X (.Name x px) iter wi) (he:∀ C s H fp,PE (X.blkC (x::fr) scope cl x C s H fp) elt te)
  (hcl:∀ y c,cl.lookup y=some c→X.env.cells.lookup y=some c)
  (hclos:closureFor scope X.env=pure cl:=by rfl) (hc:X.calm=true:=by rfl) (hkind:scope.kind=.function:=by rfl) (hcells:∀ n,cellsFrom n scope.names cl=(x,n)::cl:=by intro _;rfl)
  (hpush:∀ h:Heap,pushCells h scope.names=h.push { cls:=.type "cell",data:=.cell none }:=by intro _;rfl) (hxcl:cl.lookup x=none:=by rfl)
  (hnames:(scope.names.all fun p=>p.2 != .local || scope.names.lookup p.1 == some .local)=true:=by rfl) (hx:(relabel scope X.env).names.lookup x=some .cell:=by rfl)
  (hN:(x::fr).Nodup:=by decide+kernel) (hix:ix.map (fun i=>X.N[i]?)=fr.map some:=by rfl)
  (hfr:(fr.all fun y=>X.env.kindOf y == some .cell && (relabel scope X.env).names.lookup y == some .cell)=true:=by rfl)
  (hcl2:((relabel scope X.env).names.all fun p=>(p.2 != .cell && p.2 != .free) || (p.1 == x || (cl.lookup p.1).isSome))=true:=by rfl)
  (hs:∀ x,foldedSetIterable iter X.env x=pure x:=by intro _;rfl):
  PE X (.ListComp elt [⟨.Name x px,iter,[],0⟩] scope pos) (tCompW wi ix te):=by
 refine pe_lcompC hc hi hclos hkind hcells hpush hxcl (fun y hy e=>?_) hx hN hix (fun y hy=>?_) hcl (fun y hy=>?_) he hs
 · have:=List.all_eq_true.mp hnames y hy
   rw [e] at this
   simpa using this
 · have:=List.all_eq_true.mp hfr y hy
   rw [Bool.and_eq_true] at this
   exact ⟨eq_of_beq this.1,eq_of_beq this.2⟩
 · have:∃ k,(relabel scope X.env).names.lookup y=some k∧(k=.cell∨k=.free):=by
     rcases hy with h | h
     · exact ⟨_,h,.inl rfl⟩
     · exact ⟨_,h,.inr rfl⟩
   obtain ⟨k,e,hk⟩:=this
   have:=List.all_eq_true.mp hcl2 (y,k) (PySem.mem_of_lookup e)
   have h2:(y == x || (cl.lookup y).isSome)=true:=by
    rcases hk with rfl | rfl <;> simpa using this
   rcases Bool.or_eq_true _ _ |>.mp h2 with h | h
   · exact .inl (eq_of_beq h)
   · exact .inr (Option.isSome_iff_exists.mp h)
theorem comp_list {K:PySem.W.Frag}{a:Addr}{xs:List V}{ix:List Nat}{te:TE}{σ:St}{H:Hp}{Q:VK}
  (h:∀ D,H D=none→∃ Pv:Nat→List V→Hp→Prop,Pv 0 [] (upd H D (.lst []))∧(∀ i ys H2,i≤xs.length→Pv i ys H2→SqL K H2 a xs∧H2 D=some (.lst ys)∧ys.length < sizeLine)∧
   (∀ i x ys H2,xs[i]?=some x→Pv i ys H2→∀ Q':VK,(∀ y H3,H3 D=some (.lst ys)→Pv (i+1) (ys++[y]) (upd H3 D (.lst (ys++[y])))→Q' y H3)→te (blkSt ix (some x) σ) H2 Q')∧∀ ys H2,Pv xs.length ys H2→Q (.ref D) H2):
  Wr (rComp (Itl K a) ix te σ H Q):=by
 refine ⟨fun D hD=>?_⟩
 obtain ⟨Pv,p0,pl,ps,pq⟩:=h D hD
 refine ⟨fun i m ys H2=>m=xs.length - i∧i≤xs.length∧Pv i ys H2,⟨xs.length,by simp,Nat.zero_le _,p0⟩,?_⟩
 rintro i m ys H2 ⟨rfl,hi,p⟩
 obtain ⟨e0,e1,e2⟩:=pl i ys H2 hi p
 refine ⟨e1,?_⟩
 by_cases hlt:i < xs.length
 · refine .inr ⟨⟨_,xs[i],e0,by simp [hlt]⟩,e2,fun x H' y=>?_⟩
   obtain ⟨e,y⟩:=y
   subst e
   exact ps i x ys _ (y _ e0) p _ fun y H3 e3 p3=>⟨e3,xs.length - (i+1),by omega,rfl,hlt,p3⟩
 · have e:i=xs.length:=by omega
   subst e
   exact .inl ⟨⟨_,e0,Nat.le_refl _⟩,pq ys H2 p⟩
theorem compIf_list {K:PySem.W.Frag}{a:Addr}{xs:List V}{ix:List Nat}{tt:TT}{te:TE}{σ:St}{H:Hp}{Q:VK}
  (h:∀ D,H D=none→∃ Pv:Nat→List V→Hp→Prop,Pv 0 [] (upd H D (.lst []))∧(∀ i ys H2,i≤xs.length→Pv i ys H2→SqL K H2 a xs∧H2 D=some (.lst ys)∧ys.length < sizeLine)∧
   (∀ i x ys H2,xs[i]?=some x→Pv i ys H2→∀ (Q1:V→Hp→Prop) (Q0:Hp→Prop),(∀ y H3,H3 D=some (.lst ys)→Pv (i+1) (ys++[y]) (upd H3 D (.lst (ys++[y])))→Q1 y H3)→(∀ H3,Pv (i+1) ys H3→Q0 H3)→
    tt (blkSt ix (some x) σ) H2 fun b H3=>if b=true then te (blkSt ix (some x) σ) H3 Q1 else Q0 H3)∧∀ ys H2,Pv xs.length ys H2→Q (.ref D) H2):
  Wr (rCompIf (Itl K a) ix tt te σ H Q):=by
 refine ⟨fun D hD=>?_⟩
 obtain ⟨Pv,p0,pl,ps,pq⟩:=h D hD
 refine ⟨fun i m ys H2=>m=xs.length - i∧i≤xs.length∧Pv i ys H2,⟨xs.length,by simp,Nat.zero_le _,p0⟩,?_⟩
 rintro i m ys H2 ⟨rfl,hi,p⟩
 obtain ⟨e0,e1,e2⟩:=pl i ys H2 hi p
 refine ⟨e1,?_⟩
 by_cases hlt:i < xs.length
 · refine .inr ⟨⟨_,xs[i],e0,by simp [hlt]⟩,e2,fun x H' y=>?_⟩
   obtain ⟨e,y⟩:=y
   subst e
   exact ps i x ys _ (y _ e0) p _ _ (fun y H3 e3 p3=>⟨e3,xs.length - (i+1),by omega,rfl,hlt,p3⟩) fun H3 p3=>⟨xs.length - (i+1),by omega,rfl,hlt,p3⟩
 · have e:i=xs.length:=by omega
   subst e
   exact .inl ⟨⟨_,e0,Nat.le_refl _⟩,pq ys H2 p⟩
def rIdx (K:PySem.W.Frag):V→List V→Hp→VK→Prop:=fun x vs H Q=>∃ l xs y j,x=.ref l∧vs=[y]∧SqL K H l xs∧flatV y=true∧xs.all flatV=true∧j < xs.length∧(xs[j]?.map fun z=>eqV z y)=some true∧(∀ m,m < j→(xs[m]?.map fun z=>eqV z y)=some false)∧Q (.int (j:Nat)) H
theorem eqU_at {x:V}{xs:List V}{us:List Value} (r:Vals xs us) (f:xs.all flatV=true) (m:Nat):us[m]?.map (eqU x)=xs[m]?.map fun z=>eqV z x:=by
 induction r generalizing m with
 | nil=>rfl
 | cons h t ih=>
  rw [List.all_cons,Bool.and_eq_true] at f
  cases m with
  | zero=>simp [eqU_of h f.1]
  | succ m=>simpa using ih f.2 m
theorem mt_lindex:MtM X "list.index" (rIdx X.K):=by
 intro pins s σ H x vs v us Q I rx rv h
 obtain ⟨l,xs,y,j,rfl,rfl,hq,fy,fx,hj,h1,h0,q⟩:=h
 cases rx
 obtain ⟨u,rfl,ru⟩:=rv.one
 obtain ⟨its,r,pl,hz⟩:=I.list hq
 obtain ⟨⟨cls,dd,data,sl⟩,ho,hc,n,hd⟩:=id pl.isList
 simp only at hc hd
 subst hc hd
 have hl:=r.length
 have at':∀ (m:Nat) (hm:m < its.toArray.size),(xs[m]?.map fun z=>eqV z y)=some (eqU y its.toArray[m]):=fun m hm=>by
  rw [← eqU_at r fx m,List.getElem?_eq_getElem (by simpa using hm)]
  simp
 have hj':j < its.toArray.size:=by simp;omega
 refine call_meets PySem.F.slot_list_index ⟨_,ho,rfl⟩ PySem.F.entry_list_index (PySem.F.args_list_index_2 _ _) (SeqAt.list_indexAt l its.toArray n dd sl u (eqU y) j hj' ?_ ?_ ?_) ⟨ho,fun w hw=>mem_eqAt ru fy r fx w (by simpa using hw),⟨.int _,H,I.tok _,⟨_,rfl⟩,q⟩⟩
 · have:xs.length < 2 ^ 62:=Nat.lt_of_le_of_lt hz (by decide)
   omega
 · rw [at' j hj'] at h1;exact Option.some.inj h1
 · intro m hm hlt
   have:=h0 m hlt
   rw [at' m hm] at this
   exact Option.some.inj this
end
theorem comp_intsW {K:PySem.W.Frag}{a:Addr}{ns:List Int}{ix:List Nat}{te:TE}{σ:St}{H:Hp}{Q:VK} (f:Int→Int) (hq:SqL K H a (ns.map V.int)) (hl:ns.length < sizeLine)
  (he:∀ z∈ns,∀ (H':Hp) (Q':VK),Q' (.int (f z)) H'→te (blkSt ix (some (.int z)) σ) H' Q') (h:∀ D,H D=none→Q (.ref D) (upd H D (.lst ((ns.map f).map V.int)))):Wr (rComp (Itl K a) ix te σ H Q):=
 ⟨fun D hD=>comp_ints f hq hl he h D hD⟩
section
variable {X:Cx}{x:Str}{px pos:Pos}{elt iter:Expr}{scope:Scope}{cl:List (Str × Addr)}{fr:List Str}{ix:List Nat}{wi:TI}{te:TE}{tt:TT}{ifs:List Expr}
variable {nmT:Str}{py spos:Pos}{kT:Nat}
theorem ps_gen (k:CompB X scope cl x fr ix iter) (hi:PI X (.Name x px) iter wi) (hcl:∀ y c,cl.lookup y=some c→X.env.cells.lookup y=some c)
  (he:∀ C s H fp,PE (X.blk (x::fr) scope cl C s H fp) elt te) (hif:OneIf (fun Y=>∃ C s H fp,Y=X.blk (x::fr) scope cl C s H fp) ifs tt) (hNX:X.N.Nodup) (hkT:X.N[kT]?=some nmT) (hyT:Loc X.env.scope nmT)
  (hsw:swapsWith (.ListComp elt [⟨.Name x px,iter,ifs,0⟩] scope pos) (some (.Name nmT py)) spos.line X.env=pure true) (hf:X.fn nmT=true∨X.env.scope.names.lookup nmT=some .local)
  {RR:St→VK→It→Hp→Prop} (hR:∀ σ Q J H1,RR σ Q J H1→Wr (rCompIf J ix tt te σ H1 Q)):
  PS X (.Assign [.Name nmT py] (.ListComp elt [⟨.Name x px,iter,ifs,0⟩] scope pos) spos) (tAsg (fun σ H Q=>wi σ H (RR σ Q)) (gName kT)):=by
 intro pins s σ H DE I h
 have h:wi σ H (RR σ (fun x H1=>DE.nx (σ.set kT (some x)) H1)):=h
 rw [exec_Assign_Name_used _ _ _ _ hsw]
 refine wpAny_bind (wpAny_standAt (wpAny_bind ?_))
 show wpAny _ X.A (do let _ ← comprehension (.ListComp elt [⟨.Name x px,iter,ifs,0⟩] scope pos) scope X.env _ (newList []) false (eval iter X.env) (some (assign (.Name nmT py) X.env))) _ _ s
 refine wpAny_bind (wpAny_mono (lcomp_gen (use:=some (assign (.Name nmT py) X.env)) (Post:=fun _ s'=>SP X pins DE .next s') k hi hcl he hif I h (hR σ _) fun s2 s4 H2 H3 fp C x' I2 f2 hC bC I4 qn _=>?_) (fun _ s' hq=>wpAny_pure (wpAny_pure hq)) fun _ _ e=>e)
 obtain ⟨m4,hn4,_⟩:=I4.loc
 have IX:Inv X pins σ H3 s4:=I2.call' (s':=s4) (ch:=fp) I4.os I4.base I4.hok I4.bare (fun b hb=>⟨(f2 b hb).2.2.2.1,(f2 b hb).2.1,(f2 b hb).2.2.2.2⟩)
 have hCL:C≠X.env.locals:=by
  obtain ⟨mL,hnL,_⟩:=I2.loc
  rw [hC]
  exact Nat.ne_of_gt (Nat.lt_succ_of_lt hnL.lt)
 show wpAny _ _ (assign (.Name nmT py) X.env (.ref s2.heap.objs.size)) _ _ s4
 refine wpAny_assign_Name (store_ok2 (v:=.ref s2.heap.objs.size) IX hNX hkT hyT rfl (fun s5 I5 ⟨a5,sb5,ha5⟩=>?_) hf)
 have nCa:C≠a5:=by
  rcases ha5 with rfl | ha5
  · exact hCL
  · obtain ⟨v,oc,hoc,_⟩:=I2.cell _ _ ha5
    exact (bC _ _ hoc).symm
 refine ⟨m4,hn4.sameBut sb5 nCa,fun h' sb=>⟨σ.set kT (some (.ref s2.heap.objs.size)),H3,?_,qn⟩⟩
 refine I5.call' (s':={ s5 with heap:=h' }) (ch:=[C]) rfl ⟨fun b o e n hb hx=>(sb.2 b (fun z=>hx (z▸List.mem_singleton_self _))).trans e,fun b o e n hb hx=>⟨o.slots,(sb.2 b (fun z=>hx (z▸List.mem_singleton_self _))).trans e⟩,fun b o e n hx=>n,fun b o e hx=>⟨o,(sb.2 b (fun z=>hx (z▸List.mem_singleton_self _))).trans e⟩,fun b xs e=>e,fun b o u e=>e,fun b ps e=>⟨#[],by rw [Array.append_empty];exact e⟩⟩ (I5.hok.sameBut I4.free sb) I5.bare fun b hb=>?_
 rw [List.mem_singleton.mp hb]
 refine ⟨.inr (Nat.le_trans I2.sz (by rw [hC];exact Nat.le_succ _)),hCL,fun x c e=>?_,fun p hp=>?_⟩
 · obtain ⟨v,oc,hoc,_⟩:=I2.cell x c e
   exact bC _ _ hoc
 · exact bC _ _ (I2.pin p hp).1
theorem ps_compW (kT:Nat) (fr:List Str) (ix:List Nat) (hNX:X.N.Nodup) (hi:PI X (.Name x px) iter wi) (he:∀ C s H fp,PE (X.blk (x::fr) scope cl C s H fp) elt te) (hcl:∀ y c,cl.lookup y=some c→X.env.cells.lookup y=some c)
  (hkT:X.N[kT]?=some nmT:=by rfl) (hyT:Loc X.env.scope nmT:=by first | exact .inl rfl | exact .inr rfl)
  (k:CompB X scope cl x fr ix iter:=by exact ⟨rfl,rfl,rfl,rfl,rfl,rfl,by decide+kernel,rfl,rfl,rfl,fun _=>rfl⟩)
  (hsw:swapsWith (.ListComp elt [⟨.Name x px,iter,[],0⟩] scope pos) (some (.Name nmT py)) spos.line X.env=pure true:=by rfl) (hf:X.fn nmT=true∨X.env.scope.names.lookup nmT=some .local:=by first | exact .inl rfl | exact .inr rfl | assumption):
  PS X (.Assign [.Name nmT py] (.ListComp elt [⟨.Name x px,iter,[],0⟩] scope pos) spos) (tAsg (tCompW wi ix te) (gName kT)):=ps_gen k hi hcl he one_nil hNX hkT hyT hsw hf fun _ _ _ _ h=>comp_true h
end
section
variable {X:Cx}{l o:Expr}{tl ta:TE}{tg:Expr}{f:Str}{pos:Pos} (K:PySem.W.Frag)
theorem ixl (e:X.K=K):IxR X (wr2 (rIxL K)):=by subst e;exact ix_l
theorem pil (e:X.K=K) (hl:PE X l tl):PI X tg l (iList K tl):=by subst e;exact pi_list hl
theorem pfl (e:X.K=K) (he:PE X o ta) (hb:attributeBase o f X.env (eval o X.env)=eval o X.env):PE X (.Attribute o f pos) (tFld K ta f):=by subst e;exact pe_fld he hb
theorem idxK (e:X.K=K):MtM X "list.index" (rIdx K):=by subst e;exact mt_lindex
theorem bmK {T:String}{name:Str}{r:V→List V→Hp→VK→Prop}{to:TE}{t:TA}{e:Expr}{es:List Expr}{apos:Pos} (hK:X.K=K) (h:PE X (.Call (.Attribute o name apos) (e::es) [] pos) (tBM X.K T r to t)):PE X (.Call (.Attribute o name apos) (e::es) [] pos) (tBM K T r to t):=by subst hK;exact h
end
end L2
namespace My
open PySem L2
def oV:Option Int→V
 | none=>.non
 | some n=>.int n
abbrev Tab:=List (List (Option Int))
abbrev Row (H:Hp) (a:Addr) (r:List (Option Int)):Prop:=H a=some (.lst (r.map oV))
structure Tb (H:Hp) (t:Addr) (as:List Addr) (T:Tab):Prop where
 is:H t=some (.lst (as.map V.ref))
 len:as.length=T.length
 rw:∀ (i:Nat) a r,as[i]?=some a→T[i]?=some r→Row H a r
def cell (T:Tab) (c j:Nat):Option Int:=(T.getD c []).getD j none
theorem Tb.on {H H':Hp}{t:Addr}{as:List Addr}{T:Tab} (h:Tb H t as T) (k:∀ a∈t::as,∀ o,H a=some o→H' a=some o):Tb H' t as T:=
 ⟨k t (List.mem_cons_self ..) _ h.is,h.len,fun i a r e1 e2=>k a (List.mem_cons_of_mem _ (List.mem_of_getElem? e1)) _ (h.rw i a r e1 e2)⟩
theorem Tb.same {H H':Hp}{t:Addr}{as:List Addr}{T:Tab} (h:Tb H t as T) (s:Same H H'):Tb H' t as T:=h.on fun a _ o e=>s a o e
theorem Tb.at {H:Hp}{t:Addr}{as:List Addr}{T:Tab} (h:Tb H t as T) {i:Nat} (hi:i < T.length):∃ a,as[i]?=some a∧a∈as∧T[i]?=some (T.getD i [])∧Row H a (T.getD i []):=by
 have h1:i < as.length:=by rw [h.len];exact hi
 have e:T[i]?=some (T.getD i []):=by simp [List.getD,hi]
 exact ⟨as[i],by simp [h1],List.getElem_mem h1,e,h.rw i _ _ (by simp [h1]) e⟩
theorem Tb.live {H:Hp}{t:Addr}{as:List Addr}{T:Tab} (h:Tb H t as T):∀ a∈t::as,∃ o,H a=some o:=fun a ha=>by
 rcases List.mem_cons.mp ha with e | e
 · rw [e];exact ⟨_,h.is⟩
 · obtain ⟨i,hi,e⟩:=List.getElem_of_mem e
   have hi2:i < T.length:=by rw [← h.len];exact hi
   exact ⟨_,h.rw i a (T.getD i []) (by simp [← e,hi]) (by simp [List.getD,hi2])⟩
theorem Tb.set {H:Hp}{t a:Addr}{as:List Addr}{T:Tab}{i:Nat} (h:Tb H t as T) (nd:(t::as).Nodup) (e:as[i]?=some a) (r:List (Option Int)):Tb (upd H a (.lst (r.map oV))) t as (T.set i r):=by
 obtain ⟨n1,n2⟩:=List.nodup_cons.mp nd
 have ma:=List.mem_of_getElem? e
 obtain ⟨hi,ea⟩:=List.getElem?_eq_some_iff.mp e
 refine ⟨?_,by rw [h.len,List.length_set],fun j b s e1 e2=>?_⟩
 · have nt:t≠a:=fun z=>n1 (z▸ma)
   rw [upd_ne nt];exact h.is
 · by_cases hj:j=i
   · subst hj
     rw [e] at e1;cases e1
     rw [List.getElem?_set_self (by rw [← h.len];exact hi)] at e2
     cases e2
     exact upd_same
   · rw [List.getElem?_set_ne (Ne.symm hj)] at e2
     have:b≠a:=fun z=>by
      subst z
      obtain ⟨hj',eb⟩:=List.getElem?_eq_some_iff.mp e1
      exact hj ((List.getElem_inj n2).mp (eb.trans ea.symm))
     show upd H a _ b=_
     rw [upd_ne this]
     exact h.rw j b s e1 e2
theorem Tb.snoc {H:Hp}{t a:Addr}{as:List Addr}{T:Tab}{r:List (Option Int)} (h:Tb H t as T) (ha:Row H a r) (n:a≠t) (nt:t∉as):Tb (upd H t (.lst (as.map V.ref++[V.ref a]))) t (as++[a]) (T++[r]):=by
 refine ⟨by rw [upd_same,List.map_append];rfl,by simp [h.len],fun j b s e1 e2=>?_⟩
 have hb:b≠t:=by
  rcases List.mem_append.mp (List.mem_of_getElem? e1) with q | q
  · exact fun z=>nt (z▸q)
  · rw [List.mem_singleton.mp q];exact n
 show upd H t _ b=_
 rw [upd_ne hb]
 by_cases hj:j < as.length
 · rw [List.getElem?_append_left hj] at e1
   rw [List.getElem?_append_left (by rw [← h.len];exact hj)] at e2
   exact h.rw j b s e1 e2
 · rw [List.getElem?_append_right (by omega)] at e1
   rw [List.getElem?_append_right (by rw [← h.len];omega), ← h.len] at e2
   have z:j - as.length=0:=by
    have:=(List.getElem?_eq_some_iff.mp e1).1
    simp at this;omega
   rw [z] at e1 e2
   cases e1;cases e2
   exact ha
structure TabOk (k n:Nat) (T:Tab):Prop where
 len:T.length=n
 row:∀ r∈T,r.length=k
 rng:∀ c j e,cell T c j=some e→0≤e∧e < n
 inj:∀ c d j e,cell T c j=some e→cell T d j=some e→c=d
theorem cell_set {T:Tab}{c:Nat}{r:List (Option Int)} (hc:c < T.length) (i j:Nat):cell (T.set c r) i j=if i=c then r.getD j none else cell T i j:=by
 unfold cell
 by_cases h:i=c
 · subst h
   rw [if_pos rfl]
   simp [List.getD,List.getElem?_set_self hc]
 · rw [if_neg h]
   simp [List.getD,List.getElem?_set_ne (Ne.symm h)]
open PySem.SeqAt PyProof.Rows
def dO:Option Int→PyData
 | none=>.none
 | some n=>.int n
def dR (r:List (Option Int)):PyData:=.list (r.map dO)
def dTab (T:Tab):PyData:=.list (T.map dR)
theorem lay_opt:∀ r:List (Option Int),PyData.canLayAll0 (r.map dO)=true∧PyData.depthAll (r.map dO)=0∧noMixAll (r.map dO) (r.map dO)=true
 | []=>⟨by simp [PyData.canLayAll0],by simp [PyData.depthAll],by simp [noMixAll]⟩
 | a::r=>by
  obtain ⟨h1,h2,h3⟩:=lay_opt r
  cases a with
  | none=>exact ⟨by rw [List.map_cons,PyData.canLayAll0,h1];simp [dO,PyData.canLay0],by rw [List.map_cons,PyData.depthAll,h2];simp [dO,PyData.depth],by rw [List.map_cons,noMixAll,h3];simp [dO,noMix]⟩
  | some z=>exact ⟨by rw [List.map_cons,PyData.canLayAll0,h1];simp [dO,PyData.canLay0],by rw [List.map_cons,PyData.depthAll,h2];simp [dO,PyData.depth],by rw [List.map_cons,noMixAll,h3];simp [dO,noMix]⟩
theorem lay_tab:∀ T:Tab,PyData.canLayAll0 (T.map dR)=true∧PyData.depthAll (T.map dR)≤1∧noMixAll (T.map dR) (T.map dR)=true
 | []=>⟨by simp [PyData.canLayAll0],by simp [PyData.depthAll],by simp [noMixAll]⟩
 | a::r=>by
  obtain ⟨h1,h2,h3⟩:=lay_tab r
  obtain ⟨g1,g2,g3⟩:=lay_opt a
  refine ⟨?_,?_,?_⟩
  · rw [List.map_cons,PyData.canLayAll0,h1];simp [dR,PyData.canLay0,g1]
  · rw [List.map_cons,PyData.depthAll]
    have:(dR a).depth=1:=by rw [dR,PyData.depth,g2]
    omega
  · rw [List.map_cons,noMixAll,h3];simp [dR,noMix,g3]
theorem dts_opt {K:PySem.W.Frag}{H:Hp}:∀ r:List (Option Int),Dts K H (r.map oV) (r.map dO)
 | []=>.nil
 | none::r=>.cons .non (dts_opt r)
 | some z::r=>.cons (.int z) (dts_opt r)
theorem dts_rows {K:PySem.W.Frag}{H:Hp}:∀ {as:List Addr}{T:Tab},as.length=T.length→(∀ (i:Nat) a r,as[i]?=some a→T[i]?=some r→Row H a r)→Dts K H (as.map V.ref) (T.map dR)
 | [],[],_,_=>.nil
 | a::as,r::T,e,h=>.cons (.lst (SqL.of (h 0 a r rfl rfl)) (dts_opt r)) (dts_rows (by simpa using e) fun i b s h1 h2=>h (i+1) b s (by simpa using h1) (by simpa using h2))
 | [],_::_,e,_=>by simp at e
 | _::_,[],e,_=>by simp at e
theorem Tb.dt {K:PySem.W.Frag}{H:Hp}{t:Addr}{as:List Addr}{T:Tab} (h:Tb H t as T):Dt K H (.ref t) (dTab T):=.lst (SqL.of h.is) (dts_rows h.len h.rw)
theorem lay_dTab (T:Tab):shaped (dTab T)=true∧noMix (dTab T) (dTab T)=true:=by
 obtain ⟨a1,a2,a3⟩:=lay_tab T
 refine ⟨?_,?_⟩
 · unfold shaped
   rw [Bool.and_eq_true]
   refine ⟨by simp [PyData.canLay0,dTab,a1],decide_eq_true ?_⟩
   simp only [PyData.depth,dTab]
   omega
 · simp [noMix,dTab,a3]
def col (T:Tab) (j:Nat):List (Option Int):=T.map fun r=>r.getD j none
def cols (k:Nat) (T:Tab):Tab:=(List.range k).map (col T)
theorem cols_len (k:Nat) (T:Tab):(cols k T).length=k:=by simp [cols]
theorem cols_at {k j:Nat} (T:Tab) (h:j < k):(cols k T)[j]?=some (col T j):=by simp [cols,h]
theorem cols_getD {k j:Nat} (T:Tab) (h:j < k):(cols k T).getD j []=col T j:=by simp [List.getD,cols_at T h]
theorem col_len (T:Tab) (j:Nat):(col T j).length=T.length:=by simp [col]
theorem col_getD (T:Tab) (c j:Nat):(col T j).getD c none=cell T c j:=by
 unfold col cell
 by_cases h:c < T.length
 · simp [List.getD,h]
 · simp [List.getD,List.getElem?_eq_none (Nat.le_of_not_lt h)]
theorem getD_ext {r s:List (Option Int)} (hl:r.length=s.length) (h:∀ j,r.getD j none=s.getD j none):r=s:=by
 refine List.ext_getElem hl fun i h1 h2=>?_
 have:=h i
 simpa [List.getD,h1,h2] using this
theorem row_back {k n:Nat}{T:Tab} (h:TabOk k n T) {c:Nat} (hc:c < n):col (cols k T) c=T.getD c []:=by
 have hcT:c < T.length:=by rw [h.len];exact hc
 have hr:(T.getD c []).length=k:=h.row _ (by simp [List.getD,hcT])
 refine getD_ext (by rw [col_len,cols_len,hr]) fun j=>?_
 rw [col_getD]
 unfold cell
 by_cases hj:j < k
 · rw [cols_getD T hj,col_getD];rfl
 · have e1:(cols k T).getD j []=[]:=by rw [List.getD,List.getElem?_eq_none (by rw [cols_len];omega)];rfl
   have e2:(T.getD c []).getD j none=none:=by
    generalize T.getD c []=r at hr
    rw [List.getD,List.getElem?_eq_none (by omega)];rfl
   rw [e1,e2];rfl
theorem cols_back {k n:Nat}{T:Tab} (h:TabOk k n T):cols n (cols k T)=T:=by
 refine List.ext_getElem (by rw [cols_len,h.len]) fun i h1 h2=>?_
 have hi:i < n:=by rwa [cols_len] at h1
 have e:=cols_at (cols k T) hi
 rw [row_back h hi] at e
 have e2:(cols n (cols k T))[i]?=some ((cols n (cols k T))[i]):=by simp [h1]
 rw [e] at e2
 have e3:=Option.some.inj e2
 rw [← e3]
 simp [List.getD,h2]
structure BegPart (i:Nat) (ends fs:List (Option Int)):Prop where
 len:fs.length=ends.length
 iff:∀ (e:Nat) (c:Int),fs.getD e none=some c↔∃ m:Nat,c=m∧m < i∧ends.getD m none=some (e:Int)
abbrev BegOk (ends fs:List (Option Int)):Prop:=BegPart ends.length ends fs
def chf (k:Nat) (lo li:Addr):List (Str × V):=putF "inward" (.ref li) (putF "onward" (.ref lo) (putF "kinds" (.int k) []))
theorem chf_look (k:Nat) (lo li:Addr) (m:Str):(chf k lo li).lookup m=if m="inward" then some (.ref li) else if m="onward" then some (.ref lo) else if m="kinds" then some (.int k) else none:=by
 unfold chf
 rw [lookup_putF,lookup_putF,lookup_putF];rfl
theorem chf_in (k:Nat) (lo li:Addr):(chf k lo li).lookup ("inward":Str)=some (.ref li):=by rw [chf_look,if_pos rfl]
theorem chf_on (k:Nat) (lo li:Addr):(chf k lo li).lookup ("onward":Str)=some (.ref lo):=by rw [chf_look,if_neg (by decide),if_pos rfl]
theorem chf_k (k:Nat) (lo li:Addr):(chf k lo li).lookup ("kinds":Str)=some (.int k):=by rw [chf_look,if_neg (by decide),if_neg (by decide),if_pos rfl]
theorem chf_no (k:Nat) (lo li:Addr) {m:Str} (h1:¬ m="inward":=by decide) (h2:¬ m="onward":=by decide) (h3:¬ m="kinds":=by decide):(chf k lo li).lookup m=none:=by rw [chf_look,if_neg h1,if_neg h2,if_neg h3]
structure ChAt (C:Addr) (H:Hp) (g:Addr) (k n:Nat) (T:Tab) (fp:List Addr):Prop where
 ok:TabOk k n T
 k1:1≤k
 k5:k≤5
 n1:1≤n
 n7:n≤700
 ob:∃ dx lo li as bs I,fp=g::((lo::as)++(li::bs))∧H g=some (.ins C dx (chf k lo li))∧Tb H lo as (cols k T)∧Tb H li bs I∧I.length=k∧∀ j,j < k→BegOk (col T j) (I.getD j [])
theorem ChAt.on {C:Addr}{H H':Hp}{g:Addr}{k n:Nat}{T:Tab}{fp:List Addr} (h:ChAt C H g k n T fp) (s:∀ a∈fp,∀ o,H a=some o→H' a=some o):ChAt C H' g k n T fp:=by
 obtain ⟨dx,lo,li,as,bs,I,rfl,hg,h1,h2,h3,h4⟩:=h.ob
 refine ⟨h.ok,h.k1,h.k5,h.n1,h.n7,dx,lo,li,as,bs,I,rfl,s g (List.mem_cons_self ..) _ hg,h1.on fun a ha=>s a ?_,h2.on fun a ha=>s a ?_,h3,h4⟩
 · exact List.mem_cons_of_mem _ (List.mem_append_left _ ha)
 · exact List.mem_cons_of_mem _ (List.mem_append_right _ ha)
theorem ChAt.same {C:Addr}{H H':Hp}{g:Addr}{k n:Nat}{T:Tab}{fp:List Addr} (h:ChAt C H g k n T fp) (s:Same H H'):ChAt C H' g k n T fp:=h.on fun a _ o e=>s a o e
end My
namespace My
open PySem L2
structure TxtC (K:PySem.W.Frag) (mg:Str→Option Value) (C:Addr):Prop where
 cl:Cls K C
 nk:NoAttr K C "kinds"
 no:NoAttr K C "onward"
 ni:NoAttr K C "inward"
 mkk:∃ t,mg "MOST_KINDS"=some (.int 5 t)
 mcc:∃ t,mg "MOST_CHAMBERS"=some (.int 700 t)
 sum:mg "sum"=none
theorem Row.same {H H':Hp}{a:Addr}{r:List (Option Int)} (h:Row H a r) (s:Same H H'):Row H' a r:=s _ _ h
theorem get_opt {r:List (Option Int)}{i:Nat}{y:V} (h:(r.map oV)[i]?=some y):∃ z,y=oV z∧r[i]?=some z:=by
 rw [List.getElem?_map] at h
 cases e:r[i]? with
 | none=>rw [e] at h;cases h
 | some z=>rw [e] at h;exact ⟨z,(Option.some.inj h).symm,rfl⟩
theorem get_adr {as:List Addr}{i:Nat}{y:V} (h:(as.map V.ref)[i]?=some y):∃ z,y=V.ref z∧as[i]?=some z:=by
 rw [List.getElem?_map] at h
 cases e:as[i]? with
 | none=>rw [e] at h;cases h
 | some z=>rw [e] at h;exact ⟨z,(Option.some.inj h).symm,rfl⟩
theorem getD_some {α:Type}{r:List α}{i:Nat}{z d:α} (h:r[i]?=some z):r.getD i d=z:=by rw [List.getD,h];rfl
theorem rd_cell {K:PySem.W.Frag}{H:Hp}{a:Addr}{r:List (Option Int)}{i:Int}{Q:VK} (k:Nat) (hq:Row H a r) (hk:k < r.length) (h:Q (oV (r.getD k none)) H) (e:i=(k:Int):=by rfl):Wr (rIxL K (.ref a) (.int i) H Q):=by
 refine ⟨⟨a,_,i,_,rfl,rfl,SqL.of hq,?_,h⟩⟩
 subst e
 exact atI_nat (by rw [List.getElem?_map,show r[k]?=some (r.getD k none) by simp [List.getD,hk]];rfl)
theorem rd_row {K:PySem.W.Frag}{H:Hp}{t a:Addr}{as:List Addr}{T:Tab}{i:Int}{Q:VK} (k:Nat) (hq:Tb H t as T) (ha:as[k]?=some a) (h:Q (.ref a) H) (e:i=(k:Int):=by rfl):Wr (rIxL K (.ref t) (.int i) H Q):=by
 refine ⟨⟨t,_,i,_,rfl,rfl,SqL.of hq.is,?_,h⟩⟩
 subst e
 exact atI_nat (by rw [List.getElem?_map,ha];rfl)
theorem comp_col {K:PySem.W.Frag}{t:Addr}{as:List Addr}{T:Tab}{j:Nat}{ix:List Nat}{te:TE}{σ:St}{H:Hp}{Q:VK} (h:Tb H t as T) (hl:T.length≤100000)
  (he:∀ a r,r∈T→∀ (H':Hp) (Q':VK),Same H H'→Row H' a r→Q' (oV (r.getD j none)) H'→te (blkSt ix (some (.ref a)) σ) H' Q') (hQ:∀ D,H D=none→Q (.ref D) (upd H D (.lst ((col T j).map oV)))):
  Wr (rComp (Itl K t) ix te σ H Q):=by
 let f:V→V:=fun z=>match z with
  | .ref a=>(match H a with | some (.lst xs)=>xs.getD j .non | _=>.non)
  | _=>.non
 have fe:∀ a r,Row H a r→f (.ref a)=oV (r.getD j none):=fun a r hr=>by
  show (match H a with | some (.lst xs)=>xs.getD j .non | _=>.non)=_
  rw [show H a=some (.lst (r.map oV)) from hr]
  show (r.map oV).getD j .non=_
  by_cases hj:j < r.length
  · simp [List.getD,hj]
  · simp [List.getD,List.getElem?_eq_none (Nat.le_of_not_lt hj),oV]
 refine ⟨comp_vals (xs:=as.map V.ref) f (SqL.of h.is) (small4k (by rw [List.length_map,h.len];omega)) (fun z hz H' Q' s q=>?_) fun D hD=>?_⟩
 · obtain ⟨a,ha,rfl⟩:=List.mem_map.mp hz
   obtain ⟨i,hi,e⟩:=List.getElem_of_mem ha
   have hi2:i < T.length:=by rw [← h.len];exact hi
   have hr:=h.rw i a T[i] (by simp [← e,hi]) (by simp [hi2])
   rw [fe a _ hr] at q
   exact he a _ (List.getElem_mem hi2) H' Q' s (hr.same s) q
 · have:(as.map V.ref).map f=(col T j).map oV:=by
     unfold col
     rw [List.map_map,List.map_map]
     refine List.ext_getElem (by simp [h.len]) fun i h1 h2=>?_
     have h1':i < as.length:=by simpa using h1
     have h2':i < T.length:=by simpa using h2
     simp only [List.getElem_map,Function.comp]
     exact fe _ _ (h.rw i as[i] T[i] (by simp [h1']) (by simp [h2']))
   rw [this]
   exact hQ D hD
theorem hcl1 {cells:List (Str × Addr)}{a:Str}{x:Addr} (h1:cells.lookup a=some x):∀ z c,[(a,x)].lookup z=some c→cells.lookup z=some c:=fun z c h=>by
 rw [List.lookup_cons] at h
 cases e:z == a with
 | true=>rw [e] at h;rw [eq_of_beq e,h1];exact h
 | false=>rw [e] at h;cases h
theorem rd_rep {H:Hp}{a:Addr}{n:Nat}{k:Int}{z:Option Int}{Q:VK} (ha:H a=some (.lst [oV z])) (hn:n≤100000) (h:∀ (p:Addr) (H':Hp),H p=none→Row H' p (List.replicate n z)→Same H H'→Q (.ref p) H') (e:k=(n:Int):=by rfl):Wr (rRep (.ref a) (.int k) H Q):=by
 subst e
 refine ⟨⟨a,n,[oV z],rfl,rfl,ha,by omega,by omega,?_,fun p hp=>?_⟩⟩
 · exact Nat.le_of_lt (small4k (by simp;omega))
 · have e:(List.replicate (n:Int).toNat [oV z]).flatten=(List.replicate n z).map oV:=by
     rw [Int.toNat_natCast]
     clear h hn
     induction n with
     | zero=>rfl
     | succ n ih=>rw [List.replicate_succ,List.flatten_cons,ih,List.replicate_succ,List.map_cons];rfl
   rw [e]
   exact h p _ hp upd_same ((Same.refl H).upd hp)
def spShape:Sp:=fun vs H Q _=>∃ (k n:Nat) (t:Addr) (as:List Addr) (T:Tab),vs=[.int k,.ref t]∧Tb H t as T∧TabOk k n T∧1≤k∧k≤5∧1≤n∧n≤700∧Q .non H
def EndsOk (ends:List (Option Int)):Prop:=(∀ (c:Nat) e,ends.getD c none=some e→0≤e∧e < ends.length)∧∀ (c d:Nat) e,ends.getD c none=some e→ends.getD d none=some e→c=d
theorem TabOk.ends {k n:Nat}{T:Tab} (h:TabOk k n T) (j:Nat):EndsOk (col T j):=by
 refine ⟨fun c e he=>?_,fun c d e h1 h2=>?_⟩
 · rw [col_getD] at he
   rw [col_len,h.len];exact h.rng _ _ _ he
 · rw [col_getD] at h1 h2
   exact h.inj _ _ _ _ h1 h2
def spBeg:Sp:=fun vs H Q _=>∃ (a:Addr) (ends:List (Option Int)),vs=[.ref a]∧Row H a ends∧EndsOk ends∧ends.length≤1000∧
 ∀ (l:Addr) (fs:List (Option Int)) (H':Hp),H l=none→Row H' l fs→BegOk ends fs→Same H H'→Q (.ref l) H'
def spInit (C:Addr):Sp:=fun vs H Q _=>∃ (g dx:Addr) (k n:Nat) (t:Addr) (as:List Addr) (T:Tab),vs=[.ref g,.int k,.ref t]∧H g=some (.ins C dx [])∧Tb H t as T∧TabOk k n T∧1≤k∧k≤5∧1≤n∧n≤700∧
 ∀ (H':Hp) (fp:List Addr),ChAt C H' g k n T fp→(∀ a∈fp,a≠g→H a=none)→Kp g H H'→Q .non H'
def spSize (C:Addr):Sp:=fun vs H Q _=>∃ (g:Addr) (k n:Nat) (T:Tab) (fp:List Addr),vs=[.ref g]∧ChAt C H g k n T fp∧Q (.int n) H
def spTabl (C:Addr):Sp:=fun vs H Q _=>∃ (g:Addr) (k n:Nat) (T:Tab) (fp:List Addr),vs=[.ref g]∧ChAt C H g k n T fp∧
 ∀ (t:Addr) (as:List Addr) (H':Hp),H t=none→(∀ a∈as,H a=none)→(t::as).Nodup→Tb H' t as T→Same H H'→Q (.ref t) H'
theorem BegPart.zero (ends:List (Option Int)):BegPart 0 ends (List.replicate ends.length none):=by
 refine ⟨by simp,fun e c=>⟨fun h=>?_,fun ⟨m,_,h,_⟩=>by omega⟩⟩
 rw [List.getD,List.getElem?_replicate] at h
 split at h <;> cases h
theorem BegPart.skip {i:Nat}{ends fs:List (Option Int)} (h:BegPart i ends fs) (e:ends.getD i none=none):BegPart (i+1) ends fs:=by
 refine ⟨h.len,fun x c=>(h.iff x c).trans ⟨fun ⟨m,a,b,d⟩=>⟨m,a,by omega,d⟩,fun ⟨m,a,b,d⟩=>⟨m,a,?_,d⟩⟩⟩
 by_cases q:m=i
 · subst q;rw [e] at d;cases d
 · omega
theorem BegPart.free {i x:Nat}{ends fs:List (Option Int)} (h:BegPart i ends fs) (ok:EndsOk ends) (e:ends.getD i none=some (x:Int)):fs.getD x none=none:=by
 cases q:fs.getD x none with
 | none=>rfl
 | some c=>
  obtain ⟨m,_,hm,d⟩:=(h.iff x c).mp q
  have:=ok.2 _ _ _ d e
  omega
theorem BegPart.put {i x:Nat}{ends fs:List (Option Int)} (h:BegPart i ends fs) (ok:EndsOk ends) (e:ends.getD i none=some (x:Int)):BegPart (i+1) ends (fs.set x (some (i:Int))):=by
 have hx:x < fs.length:=by
  have:=(ok.1 i _ e).2
  rw [h.len];omega
 refine ⟨by rw [List.length_set];exact h.len,fun y c=>?_⟩
 by_cases q:y=x
 · subst q
   have e1:(fs.set y (some (i:Int))).getD y none=some (i:Int):=by rw [List.getD,List.getElem?_set_self hx];rfl
   rw [e1]
   constructor
   · intro z;exact ⟨i,(Option.some.inj z).symm,by omega,e⟩
   · rintro ⟨m,rfl,hm,d⟩
     rw [ok.2 _ _ _ d e]
 · have e1:(fs.set x (some (i:Int))).getD y none=fs.getD y none:=by rw [List.getD,List.getElem?_set_ne (fun z=>q z.symm)];rfl
   rw [e1,h.iff]
   constructor
   · rintro ⟨m,a,b,d⟩;exact ⟨m,a,by omega,d⟩
   · rintro ⟨m,a,b,d⟩
     refine ⟨m,a,?_,d⟩
     by_cases z:m=i
     · subst z
       rw [e] at d
       exact absurd (Option.some.inj d) (by omega)
     · omega
theorem map_eraseIdx {α β:Type} (f:α→β):∀ (l:List α) (i:Nat),(l.map f).eraseIdx i=(l.eraseIdx i).map f
 | [],_=>rfl
 | _::_,0=>rfl
 | a::l,i+1=>by
  show f a::(l.map f).eraseIdx i=f a::(l.eraseIdx i).map f
  rw [map_eraseIdx f l i]
structure NewT (H H':Hp) (t:Addr) (as:List Addr) (T:Tab):Prop where
 ft:H t=none
 fa:∀ a∈as,H a=none
 nd:(t::as).Nodup
 tb:Tb H' t as T
 sm:Same H H'
theorem NewT.zero {H:Hp}{D:Addr} (h:H D=none):NewT H (upd H D (.lst [])) D [] []:=⟨h,(fun _ z=>nomatch z),by simp,⟨upd_same,rfl,fun i a r e=>by simp at e⟩,(Same.refl H).upd h⟩
theorem NewT.snoc {H H2 H3:Hp}{D a:Addr}{as:List Addr}{T:Tab}{r:List (Option Int)} (h:NewT H H2 D as T) (ha:H2 a=none) (hr:Row H3 a r) (s:Same H2 H3):NewT H (upd H3 D (.lst (as.map V.ref++[V.ref a]))) D (as++[a]) (T++[r]):=by
 have nD:a≠D:=fun z=>by rw [z,h.tb.is] at ha;cases ha
 obtain ⟨n1,n2⟩:=List.nodup_cons.mp h.nd
 have na:a∉as:=fun z=>by
  obtain ⟨o,e⟩:=h.tb.live a (List.mem_cons_of_mem _ z)
  rw [ha] at e;cases e
 refine ⟨h.ft,fun b hb=>?_,?_,(h.tb.same s).snoc hr nD n1,(h.sm.trans s).upd h.ft⟩
 · rcases List.mem_append.mp hb with q | q
   · exact h.fa b q
   · rw [List.mem_singleton.mp q];exact h.sm.free ha
 · refine List.nodup_cons.mpr ⟨fun z=>?_,nd_snoc n2 na⟩
   rcases List.mem_append.mp z with q | q
   · exact n1 q
   · exact nD (List.mem_singleton.mp q).symm
theorem NewT.row {H H2 H3:Hp}{D:Addr}{as:List Addr}{T:Tab} (h:NewT H H2 D as T) (s:Same H2 H3):H3 D=some (.lst (as.map V.ref)):=s _ _ h.tb.is
theorem NewT.set {H H2:Hp}{t a:Addr}{as:List Addr}{T:Tab}{i:Nat} (h:NewT H H2 t as T) (e:as[i]?=some a) (r:List (Option Int)):NewT H (upd H2 a (.lst (r.map oV))) t as (T.set i r):=
 ⟨h.ft,h.fa,h.nd,h.tb.set h.nd e r,h.sm.upd (h.fa a (List.mem_of_getElem? e))⟩
theorem comp_tab {lo:Int}{n:Nat}{ix:List Nat}{te:TE}{σ:St}{H:Hp}{Q:VK} (f:Nat→List (Option Int)) (hn:n≤100000)
  (he:∀ i,i < n→∀ H2,Same H H2→∀ Q':VK,(∀ (a:Addr) (H3:Hp),H2 a=none→Row H3 a (f i)→Same H2 H3→Q' (.ref a) H3)→te (blkSt ix (some (.int (lo+i))) σ) H2 Q')
  (hQ:∀ D as H',NewT H H' D as ((List.range n).map f)→Q (.ref D) H'):
  Wr (rComp (Itr lo n) ix te σ H Q):=by
 refine ⟨comp_range fun D hD=>⟨fun i ys H2=>∃ as,ys=as.map V.ref∧NewT H H2 D as ((List.range i).map f)∧i≤n,⟨[],rfl,NewT.zero hD,Nat.zero_le _⟩,?_,?_,?_⟩⟩
 · rintro i ys H2 ⟨as,rfl,h,hi⟩
   refine ⟨h.tb.is,small4k ?_⟩
   rw [List.length_map,h.tb.len];simp;omega
 · rintro i ys H2 hi ⟨as,rfl,h,_⟩ Q' q'
   refine he i hi H2 h.sm Q' fun a H3 ha hr s=>q' _ _ (h.row s) ⟨as++[a],by rw [List.map_append];rfl,?_,hi⟩
   rw [List.range_succ,List.map_append]
   exact h.snoc ha hr s
 · rintro ys H2 ⟨as,rfl,h,_⟩
   exact hQ D as H2 h
theorem comp_tabP {K:PySem.W.Frag}{a0:Addr}{xs:List V}{ix:List Nat}{te:TE}{σ:St}{H:Hp}{Q:VK} (R:Nat→List (Option Int)→Prop) (hq:SqL K H a0 xs) (hn:xs.length≤100000)
  (he:∀ (i:Nat) x,xs[i]?=some x→∀ H2,Same H H2→∀ Q':VK,(∀ (a:Addr) (r:List (Option Int)) (H3:Hp),H2 a=none→Row H3 a r→R i r→Same H2 H3→Q' (.ref a) H3)→te (blkSt ix (some x) σ) H2 Q')
  (hQ:∀ D as T H',NewT H H' D as T→T.length=xs.length→(∀ (i:Nat) r,T[i]?=some r→R i r)→Q (.ref D) H'):
  Wr (rComp (Itl K a0) ix te σ H Q):=by
 refine comp_list (xs:=xs) fun D hD=>⟨fun i ys H2=>∃ as T,ys=as.map V.ref∧NewT H H2 D as T∧T.length=i∧i≤xs.length∧∀ (j:Nat) r,T[j]?=some r→R j r,⟨[],[],rfl,NewT.zero hD,rfl,Nat.zero_le _,fun j r e=>by simp at e⟩,?_,?_,?_⟩
 · rintro i ys H2 hi ⟨as,T,rfl,h,e,_⟩
   refine ⟨h.sm.seq hq,h.tb.is,small4k ?_⟩
   rw [List.length_map,h.tb.len];omega
 · rintro i x ys H2 hi ⟨as,T,rfl,h,e,_,hR⟩ Q' q'
   refine he i x hi H2 h.sm Q' fun a r H3 ha hr hr2 s=>q' _ _ (h.row s) ⟨as++[a],T++[r],by rw [List.map_append];rfl,h.snoc ha hr s,by simp [e],(List.getElem?_eq_some_iff.mp hi).1,fun j r' e'=>?_⟩
   by_cases hj:j < T.length
   · rw [List.getElem?_append_left hj] at e';exact hR j r' e'
   · rw [List.getElem?_append_right (by omega)] at e'
     have z:j - T.length=0:=by
      have:=(List.getElem?_eq_some_iff.mp e').1
      simp at this;omega
     rw [z] at e';cases e'
     have:j=i:=by omega
     rw [this];exact hr2
 · rintro ys H2 ⟨as,T,rfl,h,e,_,hR⟩
   exact hQ D as T H2 h e hR
def Let (k:Nat) (l:Int):Prop:=l≠0∧ -(k:Int)≤l∧l≤k
def pre (T:Tab) (j c:Nat):Option Int:=((List.range T.length).find? fun d=>decide (cell T d j=some (c:Int))).map fun d=>(d:Int)
def sgo (T:Tab) (c:Nat) (l:Int):Option Int:=if 0 < l then cell T c (l - 1).toNat else pre T (-l - 1).toNat c
def wgo (T:Tab) (o:Option Int) (w:List Int):Option Int:=w.foldl (fun o l=>o.bind fun c=>sgo T c.toNat l) o
theorem cell_lt {k n:Nat}{T:Tab} (h:TabOk k n T) {c j:Nat}{e:Int} (he:cell T c j=some e):c < n:=by
 unfold cell at he
 by_cases hc:c < T.length
 · rw [h.len] at hc;exact hc
 · simp [List.getD,List.getElem?_eq_none (Nat.le_of_not_lt hc)] at he
theorem pre_iff {k n:Nat}{T:Tab} (h:TabOk k n T) {j c:Nat}{d:Int}:pre T j c=some d↔∃ m:Nat,d=m∧m < n∧cell T m j=some (c:Int):=by
 unfold pre
 constructor
 · intro e
   cases q:(List.range T.length).find? (fun d=>decide (cell T d j=some (c:Int))) with
   | none=>rw [q] at e;cases e
   | some m=>
    rw [q] at e
    have h1:=List.find?_some q
    have h1:cell T m j=some (c:Int):=by simpa using h1
    exact ⟨m,(Option.some.inj e).symm,cell_lt h h1,h1⟩
 · rintro ⟨m,rfl,hm,e⟩
   cases q:(List.range T.length).find? (fun d=>decide (cell T d j=some (c:Int))) with
   | none=>
    have:=List.find?_eq_none.mp q m (by rw [h.len];exact List.mem_range.mpr hm)
    simp [e] at this
   | some m'=>
    have h1:=List.find?_some q
    have h1:cell T m' j=some (c:Int):=by simpa using h1
    have:=h.inj _ _ _ _ e h1
    rw [this];rfl
theorem opt_ext {a b:Option Int} (h:∀ d,a=some d↔b=some d):a=b:=by
 cases a with
 | none=>cases b with
  | none=>rfl
  | some y=>exact absurd ((h y).mpr rfl) (by simp)
 | some x=>exact ((h x).mp rfl).symm
theorem beg_pre {k n:Nat}{T:Tab} (h:TabOk k n T) {j c:Nat}{fs:List (Option Int)} (b:BegOk (col T j) fs):fs.getD c none=pre T j c:=by
 refine opt_ext fun d=>?_
 rw [b.iff,pre_iff h]
 constructor
 · rintro ⟨m,e,h1,h2⟩
   rw [col_getD] at h2
   rw [col_len,h.len] at h1
   exact ⟨m,e,h1,h2⟩
 · rintro ⟨m,e,h1,h2⟩
   refine ⟨m,e,by rw [col_len,h.len];exact h1,by rw [col_getD];exact h2⟩
theorem sgo_lt {k n:Nat}{T:Tab} (h:TabOk k n T) {c:Nat}{l d:Int} (e:sgo T c l=some d):0≤d∧d < n:=by
 unfold sgo at e
 split at e
 · exact h.rng _ _ _ e
 · obtain ⟨m,rfl,hm,_⟩:=(pre_iff h).mp e
   omega
theorem sgo_back {k n:Nat}{T:Tab} (h:TabOk k n T) {c d:Nat}{l:Int} (hl:l≠0) (hc:c < n) (e:sgo T c l=some (d:Int)):sgo T d (-l)=some (c:Int):=by
 unfold sgo at e ⊢
 by_cases hp:0 < l
 · rw [if_pos hp] at e
   rw [if_neg (by omega),show (- -l - 1).toNat=(l - 1).toNat by omega]
   exact (pre_iff h).mpr ⟨c,rfl,hc,e⟩
 · rw [if_neg hp] at e
   rw [if_pos (by omega)]
   obtain ⟨m,e1,hm,e2⟩:=(pre_iff h).mp e
   have:m=d:=by omega
   subst this
   exact e2
theorem wgo_app (T:Tab) (o:Option Int) (v w:List Int):wgo T o (v++w)=wgo T (wgo T o v) w:=by unfold wgo;rw [List.foldl_append]
theorem wgo_snoc (T:Tab) (o:Option Int) (v:List Int) (l:Int):wgo T o (v++[l])=(wgo T o v).bind fun c=>sgo T c.toNat l:=by rw [wgo_app];rfl
def spCkC (C:Addr):Sp:=fun vs H Q _=>∃ (g:Addr) (k n:Nat) (T:Tab) (fp:List Addr) (c:Nat),vs=[.ref g,.int c]∧ChAt C H g k n T fp∧c < n∧Q .non H
def spCkL:Sp:=fun vs H Q _=>∃ (k:Nat) (wa:Addr) (ws:List Int),vs=[.int k,.ref wa]∧Ints H wa ws∧(∀ l∈ws,Let k l)∧Q .non H
def spStep (C:Addr):Sp:=fun vs H Q _=>∃ (g:Addr) (k n:Nat) (T:Tab) (fp:List Addr) (c:Nat) (l:Int),vs=[.ref g,.int c,.int l]∧ChAt C H g k n T fp∧c < n∧Let k l∧∀ H',Same H H'→Q (oV (sgo T c l)) H'
def spLed:Sp:=fun vs H Q _=>∃ (t:Addr) (as:List Addr) (T:Tab) (k n c:Nat) (l:Int),vs=[.ref t,.int c,.int l]∧Tb H t as T∧TabOk k n T∧n≤1000∧c < n∧Let k l∧Q (oV (sgo T c l)) H
end My
set_option autoImplicit false
namespace My
open PySem L2 PySem.SeqAt PyProof.Rows PySem.Spec
section
variable {K:PySem.W.Frag}{H:Hp}{x y:V}{d d':PyData}{m:Bool}{Q:VK}
end
end My
namespace L2
open PySem
theorem tTryN.splitS {K:PySem.W.Frag}{Ce:Addr}{tb:XK→TS}{ts u:TS}{D:Ends}{σ:St}{H:Hp}
  (h:∀ EE:XK,(∀ (C:Addr) (H':Hp),PySem.W.exmOne K (.ref C) (.ref Ce)=some true→ts { D with nx:=u D } σ H'→EE (.ref C) none H')→tb EE { D with nx:=u D } σ H):tSeq (tTryN K Ce tb ts) u D σ H:=
 h _ fun C H' e q=>⟨C,rfl,e,q⟩
section
variable {X:Cx}{E:XK}{x m:Str}{C:Addr}{ps:List Str}{k j:Nat}{sp:Sp}{o e:Expr}{es:List Expr}{ta:TE}{t:TA}{apos p pos:Pos}{pl:Sem Bool}
theorem passX0 {X:Cx}:Passes (CXe X.prog X.w) X E0:=fun _ _ _ _ _ _ _ ⟨_,_,_,_,_,_,_,z⟩=>z.elim
theorem Rdx.pe (R:Rdx X.prog X.w X.K X.mg X.base x ps k sp) (hr:Room j X.A) (ha:PA (X.wish (XeF X E)) (e::es) t) (hg:Gl X x:=by rfl) (hj:k≤j:=by decide)
  (hdb:(x == ("__debug__":Str))=false:=by decide) (he:starEach (e::es) X.env=(false,eval e X.env)::starEach es X.env:=by rfl) (hpl:(backTo pos (starEach es X.env)).any (·.1)=false:=by rfl):
  PE (X.wish (XeF X E)) (.Call (.Name x p) (e::es) [] pos) (tCall sp [] E t):=pe_call (X:=X.wish (XeF X E)) R.ok (hr.mono hj) hg R.mgx R.kp R.bd .nil passX ha hdb he hpl
end
end L2
namespace My
open PySem L2
theorem comp_valsW {K:PySem.W.Frag}{a:Addr}{xs:List V}{ix:List Nat}{te:TE}{σ:St}{H:Hp}{Q:VK} (f:V→V) (hq:SqL K H a xs) (hl:xs.length < sizeLine)
  (he:∀ z∈xs,∀ (H':Hp) (Q':VK),Same H H'→Q' (f z) H'→te (blkSt ix (some z) σ) H' Q') (h:∀ (D:Addr) (H':Hp),H D=none→H' D=some (.lst (xs.map f))→Same H H'→Q (.ref D) H'):Wr (rComp (Itl K a) ix te σ H Q):=
 ⟨fun D hD=>comp_vals f hq hl he (fun D hD=>h D _ hD upd_same ((Same.refl H).upd hD)) D hD⟩
theorem rd_tupAt {K:PySem.W.Frag}{H:Hp}{a:Addr}{xs:List V}{i:Int}{v:V}{Q:VK} (hq:H a=some (.tup xs)) (e:atI xs i=some v) (h:Q v H):Wr (rIxT K (.ref a) (.int i) H Q):=⟨⟨a,xs,i,v,rfl,rfl,SqT.of hq,e,h⟩⟩
theorem rd_lsV {H:Hp}{xs:List V}{Q:VK} (hl:xs.length≤1000) (h:∀ (p:Addr) (H':Hp),H p=none→H' p=some (.lst xs)→Same H H'→Q (.ref p) H'):Wr (rLst xs H Q):=
 ⟨⟨Nat.le_of_lt (small4k (by omega)),fun p hp=>h p _ hp upd_same ((Same.refl H).upd hp)⟩⟩
theorem rd_catV {H:Hp}{a b:Addr}{xs ys:List V}{Q:VK} (ha:H a=some (.lst xs)) (hb:H b=some (.lst ys)) (hl:xs.length+ys.length≤10000000) (h:∀ (p:Addr) (H':Hp),H p=none→H' p=some (.lst (xs++ys))→Same H H'→Q (.ref p) H'):Wr (rCat (.ref a) (.ref b) H Q):=
 ⟨⟨a,b,_,_,rfl,rfl,ha,hb,Nat.le_of_lt (small4k hl),fun p hp=>h p _ hp upd_same ((Same.refl H).upd hp)⟩⟩
section
variable {X:Cx}{E:XK}{x m:Str}{C:Addr}{ps:List Str}{k j:Nat}{sp:Sp}{o e:Expr}{es:List Expr}{ta:TE}{t:TA}{apos p pos:Pos}{pl:Sem Bool}
structure Rdmx (P:Program) (w:World) (K:PySem.W.Frag) (mg:Str→Option Value) (base:Heap) (C:Addr) (m:Str) (ps:List Str) (k:Nat) (sp:Sp) where
 f:Addr
 fd:FuncData
 ok:FnOk P w K mg base (CXe P w) k f fd ps sp
 cl:Cls K C
 mt:Meth K C m f
 bd:Binds K fd ps []
theorem Rdmx.px (R:Rdmx X.prog X.w X.K X.mg X.base C m ps k sp) (hr:Room j X.A) (ho:PE X.nox o ta) (ha:PA X.nox (e::es) t) (hj:k≤j:=by decide)
  (he:starEach (e::es) X.env=(false,eval e X.env)::starEach es X.env:=by rfl) (hpl:(backTo pos (starEach es X.env)).any (·.1)=false:=by rfl)
  (ht:eval (.Call (.Attribute o m apos) (e::es) [] pos) X.env=(do
   let ov ← eval o X.env
   standAt apos.atName
   let (f,first) ← holding [ov] (getMethod ov m pl)
   callWith pos f first (backTo pos (starEach (e::es) X.env)) (backToKw pos (keywordEach [] X.env))):=by rfl):
  PX X (.Call (.Attribute o m apos) (e::es) [] pos) (fun E=>tMeth C m sp [] E ta t):=px_meth ho R.cl R.mt R.ok (hr.mono hj) R.bd .nil ha he hpl ht
theorem Rdmx.pe (R:Rdmx X.prog X.w X.K X.mg X.base C m ps k sp) (hr:Room j X.A) (ho:PE (X.wish (XeF X E)) o ta) (ha:PA (X.wish (XeF X E)) (e::es) t) (hj:k≤j:=by decide)
  (he:starEach (e::es) X.env=(false,eval e X.env)::starEach es X.env:=by rfl) (hpl:(backTo pos (starEach es X.env)).any (·.1)=false:=by rfl)
  (ht:eval (.Call (.Attribute o m apos) (e::es) [] pos) X.env=(do
   let ov ← eval o X.env
   standAt apos.atName
   let (f,first) ← holding [ov] (getMethod ov m pl)
   callWith pos f first (backTo pos (starEach (e::es) X.env)) (backToKw pos (keywordEach [] X.env))):=by rfl):
  PE (X.wish (XeF X E)) (.Call (.Attribute o m apos) (e::es) [] pos) (tMeth C m sp [] E ta t):=pe_meth (X:=X.wish (XeF X E)) ho R.cl R.mt R.ok (hr.mono hj) R.bd .nil passX ha he hpl ht
theorem Rdmx.pe0 (R:Rdmx X.prog X.w X.K X.mg X.base C m ps k sp) (hr:Room j X.A) (ho:PE X o ta) (ha:PA X (e::es) t) (hj:k≤j:=by decide)
  (he:starEach (e::es) X.env=(false,eval e X.env)::starEach es X.env:=by rfl) (hpl:(backTo pos (starEach es X.env)).any (·.1)=false:=by rfl)
  (ht:eval (.Call (.Attribute o m apos) (e::es) [] pos) X.env=(do
   let ov ← eval o X.env
   standAt apos.atName
   let (f,first) ← holding [ov] (getMethod ov m pl)
   callWith pos f first (backTo pos (starEach (e::es) X.env)) (backToKw pos (keywordEach [] X.env))):=by rfl):
  PE X (.Call (.Attribute o m apos) (e::es) [] pos) (tMeth C m sp [] E0 ta t):=pe_meth ho R.cl R.mt R.ok (hr.mono hj) R.bd .nil passX0 ha he hpl ht
structure Rdkx (P:Program) (w:World) (K:PySem.W.Frag) (mg:Str→Option Value) (base:Heap) (C:Addr) (x:Str) (ps:List Str) (k:Nat) (sp:Sp) where
 f:Addr
 fd:FuncData
 ok:FnOk P w K mg base (CXe P w) k f fd ps sp
 mkf:Mk K C f
 mgx:mg x=some (.ref C)
 bd:Binds K fd ps []
end
def spCkCX (C:Addr) (cN:Addr):Sp:=fun vs H Q E=>∃ (g:Addr) (k n:Nat) (T:Tab) (fp:List Addr) (c:Int),vs=[.ref g,.int c]∧ChAt C H g k n T fp∧(0≤c∧c < n→Q .non H)∧(¬ (0≤c∧c < n)→E (.ref cN) none H)
def spCkLX (cK:Addr):Sp:=fun vs H Q E=>∃ (k:Nat) (wa:Addr) (ws:List Int),vs=[.int k,.ref wa]∧Ints H wa ws∧((∀ l∈ws,Let k l)→Q .non H)∧(¬ (∀ l∈ws,Let k l)→E (.ref cK) none H)
end My
namespace L2
open PySem PySem.Spec PyProof.Rows
theorem sC {X:Cx}{st:Stmt}{t:TS}{rest:List Stmt}{u:TS} (h1:PS X st t) (h2:PSs X rest u):PSs X (st::rest) (tSeq t u):=pss_cons h1 h2
theorem sO {X:Cx}{st:Stmt}{t:TS} (h:PS X st t):PSs X [st] t:=pss_one h
theorem sS {X:Cx}{i:Nat}{x:Str}{e:Expr}{te:TE}{pos pos':Pos} (hN:X.N.Nodup) (hi:X.N[i]?=some x) (hx:Loc X.env.scope x) (he:PE X e te) (hs:swapsWith e (some (.Name x pos')) pos.line X.env=pure false) (hf:X.fn x=true∨X.env.scope.names.lookup x=some .local):
  PS X (.Assign [.Name x pos'] e pos) (tAsg te (gName i)):=ps_set hN hi hx he hs hf
theorem sR {X:Cx}{e:Expr}{te:TE}{pos:Pos} (he:PE X e te):PS X (.Return (some e) pos) (tRet te):=ps_ret he
theorem aC {X:Cx}{e:Expr}{te:TE}{es:List Expr}{t:TA} (ha:PE X e te) (hr:PA X es t) (hs:starEach (e::es) X.env=(false,eval e X.env)::starEach es X.env):PA X (e::es) (tCons te t):=pa_cons ha hr hs
theorem eL {X:Cx}{es:List Expr}{t:TA}{pos:Pos} (h:PA X es t):PE X (.List es pos) (tLstW t):=pe_lstW h
theorem us1 {α:Type}{us:List α} (h:us.length=1):∃ a,us=[a]:=by
 match us,h with
 | [a],_=>exact ⟨a,rfl⟩
theorem us2 {α:Type}{us:List α} (h:us.length=2):∃ a b,us=[a,b]:=by
 cases us with
 | nil=>cases h
 | cons a r=>obtain ⟨b,rfl⟩:=us1 (us:=r) (by simpa using h);exact ⟨a,b,rfl⟩
theorem us3 {α:Type}{us:List α} (h:us.length=3):∃ a b c,us=[a,b,c]:=by
 cases us with
 | nil=>cases h
 | cons a r=>obtain ⟨b,c,rfl⟩:=us2 (us:=r) (by simpa using h);exact ⟨a,b,c,rfl⟩
theorem us4 {α:Type}{us:List α} (h:us.length=4):∃ a b c d,us=[a,b,c,d]:=by
 cases us with
 | nil=>cases h
 | cons a r=>obtain ⟨b,c,d,rfl⟩:=us3 (us:=r) (by simpa using h);exact ⟨a,b,c,d,rfl⟩
theorem us5 {α:Type}{us:List α} (h:us.length=5):∃ a b c d e,us=[a,b,c,d,e]:=by
 cases us with
 | nil=>cases h
 | cons a r=>obtain ⟨b,c,d,e,rfl⟩:=us4 (us:=r) (by simpa using h);exact ⟨a,b,c,d,e,rfl⟩
theorem scm {N P:List Str}{sc:Scope} (a:sc.kind=.function:=by rfl) (b:sc.isCoroutine=false:=by rfl) (c:sc.isGenerator=false:=by rfl) (d:N.Nodup:=by decide+kernel) (e:N.take P.length=P:=by rfl) (f:∀ x∈P,sc.names.lookup x=some .local∨sc.names.lookup x=some .cell:=by decide+kernel) (g:∀ y∈sc.names,y.2≠.free:=by decide+kernel):FnScope N P sc:=⟨a,b,c,d,e,f,g⟩
end L2
namespace My
open PySem L2
section
variable {X:Cx}{E:XK}{m:Str}{C:Addr}{ps:List Str}{k j:Nat}{sp:Sp}{o:Expr}{ta:TE}{apos pos:Pos}{pl:Sem Bool}
theorem Rdmx.pz (R:Rdmx X.prog X.w X.K X.mg X.base C m ps k sp) (hr:Room j X.A) (ho:PE (X.wish (XeF X E)) o ta) (hj:k≤j:=by decide)
  (ht:eval (.Call (.Attribute o m apos) [] [] pos) X.env=(do
   let ov ← eval o X.env
   standAt apos.atName
   let (f,first) ← holding [ov] (getMethod ov m pl)
   callWith pos f first (backTo pos (starEach [] X.env)) (backToKw pos (keywordEach [] X.env))):=by rfl):
  PE (X.wish (XeF X E)) (.Call (.Attribute o m apos) [] [] pos) (tMeth C m sp [] E ta tNil):=pe_meth0 (X:=X.wish (XeF X E)) ho R.cl R.mt R.ok (hr.mono hj) R.bd .nil passX ht
theorem Rdmx.pz0 (R:Rdmx X.prog X.w X.K X.mg X.base C m ps k sp) (hr:Room j X.A) (ho:PE X o ta) (hj:k≤j:=by decide)
  (ht:eval (.Call (.Attribute o m apos) [] [] pos) X.env=(do
   let ov ← eval o X.env
   standAt apos.atName
   let (f,first) ← holding [ov] (getMethod ov m pl)
   callWith pos f first (backTo pos (starEach [] X.env)) (backToKw pos (keywordEach [] X.env))):=by rfl):
  PE X (.Call (.Attribute o m apos) [] [] pos) (tMeth C m sp [] E0 ta tNil):=pe_meth0 ho R.cl R.mt R.ok (hr.mono hj) R.bd .nil passX0 ht
end
theorem seq_const {i:Nat}{v:V}{u:TS}{D:Ends}{σ:St}{H:Hp} (h:u D (σ.set i (some v)) H):tSeq (tAsg (tC v) (gName i)) u D σ H:=h
theorem layk_ok {n:Nat}{rows:List Addr}{rd:Addr→List Int} (R:Rows n rows rd):∀ (as:List Addr) (st:FS),FOk n rows rd st→(∀ a∈as,a∈rows)→
  FOk n rows rd (as.foldl (flay rd) st)∧(as.foldl (flay rd) st).l=st.l∧(as.foldl (flay rd) st).ss=st.ss∧(as.foldl (flay rd) st).W.length≤st.W.length+2 * as.length:=by
 intro as
 induction as with
 | nil=>intro st h _;exact ⟨h,rfl,rfl,Nat.le_refl _⟩
 | cons a as ih=>
  intro st h ha
  obtain ⟨h1,h2,h3,h4⟩:=h.lay R (ha a (List.mem_cons_self ..))
  obtain ⟨g1,g2,g3,g4⟩:=ih _ h1 fun b hb=>ha b (List.mem_cons_of_mem _ hb)
  refine ⟨g1,g2.trans h2,g3.trans h3,?_⟩
  simp only [List.foldl_cons,List.length_cons]
  omega
def FL (n:Nat) (rs:List (List Int)) (st:Ps) (l:List Int):Prop:=LOk n rs st l∧closed rs l
theorem FL.unique {n:Nat}{rs:List (List Int)}{st:Ps}{l l':List Int} (h:FL n rs st l) (h':FL n rs st l'):l=l':=LOk.unique h.1 h.2 h'.1 h'.2
open Classical in
noncomputable def fl (n:Nat) (rs:List (List Int)):List Int:=if h:∃ l,FL n rs [] l then Classical.choose h else []
theorem FL.eq {n:Nat}{rs:List (List Int)}{l:List Int} (h:FL n rs [] l):l=fl n rs:=by
 unfold fl
 have e:∃ l,FL n rs [] l:=⟨l,h⟩
 rw [dif_pos e]
 exact h.unique (Classical.choose_spec e)
def spFold2:Sp:=fun vs H Q _=>∃ (n:Nat) (lr ls:Addr) (ps start:Ps),vs=[.int n,.ref lr,.ref ls]∧Tl H lr ps∧Tl H ls start∧(∀ p∈ps,RowOk n p.2∧1≤p.2.getD 2 0∧p.2.getD 2 0≤5)∧(∀ p∈start,PairOk n p.2)∧n≤700∧ps.length≤1000∧start.length≤1000∧
 ∀ (t l1 l2:Addr) (sp:Ps) (l:List Int) (H':Hp),H' t=some (.tup [.ref l1,.ref l2])→Ints H' l1 l→Tl H' l2 sp→FL n (ps.map (·.2)) start l→(Unl ps→wP ps (labs n start) (sp.map (·.2))=some l∧∀ r∈sp.map (·.2),TriOk r)→sp.length≤9000000→H l1=none→H l2=none→Same H H'→Q (.ref t) H'
theorem fold2_of {vs:List V}{H:Hp}{Q:VK}{E:XK} (h:spFold2 vs H Q E):spFolded vs H Q E:=by
 obtain ⟨n,lr,ls,ps,start,rfl,tr,ts,hps,hst,hn,hpl,hsl,q⟩:=h
 have tp:=tr.tp
 have R:Rows n (ps.map (·.1)) (rdOf ps):=by
  refine ⟨fun r hr=>?_,fun r hr=>?_⟩
  all_goals obtain ⟨p,hp,rfl⟩:=List.mem_map.mp hr
  all_goals rw [rdOf_eq tp hp]
  · exact (hps p hp).1
  · exact (hps p hp).2
 have ok0:FOk n (ps.map (·.1)) (rdOf ps) (fs0 n start):=fs0_ok hst
 obtain ⟨o1,o2,o3,o4⟩:=layk_ok R (ps.map (·.1)) (fs0 n start) ok0 fun a ha=>ha
 refine ⟨n,lr,ls,ps,start,fun st=>(LOk n (ps.map (·.2)) start st.l∧Cov n (rdOf ps) (fun r s=>r∈ps.map (·.1)∧Side s) st)∧(Unl ps→JP ps (labs n start) st),rfl,tr,ts,hps,hst,hn,hpl,hsl,?_,⟨⟨?_,?_⟩,fun u=>?_⟩,?_⟩
 · exact fun st W x y s ok eW ⟨⟨j1,j2⟩,j3⟩=>⟨⟨keeps_lab tp hst R st W x y s ok eW j1,cov_step R (fun r s h=>h) st W x y s ok eW j2⟩,fun u=>keeps_paper u tp R st W x y s ok eW (j3 u)⟩
 · unfold layAll
   rw [o2]
   exact labs_LOk hst
 · have:=cov_lay R (ps.map (·.1)) (fs0 n start) (fun _ _=>False) ok0 (fun a ha=>ha) fun r s z=>z.elim
   exact fun r s z=>this r s (.inr z)
 · unfold layAll JP
   rw [o2,o3]
   exact ⟨rfl,(fun _ z=>nomatch z)⟩
 · intro t l1 l2 sp st H' ht h1 h2 es ok j w hl f1 f2 s
   refine q t l1 l2 sp st.l H' ht h1 h2 ⟨j.1.1,cov_closed tp ok j.1.2 w⟩ (fun u=>?_) hl f1 f2 s
   have:=j.2 u
   rw [es]
   exact this
inductive En where
 | row (i a k b:Int)
 | ap (i a b:Int)
def En.num:En→Int
 | .row i _ _ _=>i
 | .ap i _ _=>i
def En.told:En→List V
 | .row _ a k b=>[.str "row",.int a,.int k,.int b]
 | .ap _ a b=>[.str "apart",.int a,.int b]
def En.vs (e:En):List V:=.int e.num::e.told
def En.re (e:En) (i:Int):En:=match e with
 | .row _ a k b=>.row i a k b
 | .ap _ a b=>.ap i a b
def InM (n:Nat) (a:Int):Prop:=0≤a∧a < n
def EnOk (k n:Nat):En→Prop
 | .row _ a kd b=>InM n a∧(1≤kd∧kd≤k)∧InM n b
 | .ap _ a b=>InM n a∧InM n b
theorem EnOk.mono {k n n':Nat}{e:En} (h:EnOk k n e) (hn:n≤n'):EnOk k n' e:=by
 cases e with
 | row i a kd b=>obtain ⟨⟨a0,a1⟩,h2,⟨b0,b1⟩⟩:=h;exact ⟨⟨a0,by omega⟩,h2,⟨b0,by omega⟩⟩
 | ap i a b=>obtain ⟨⟨a0,a1⟩,⟨b0,b1⟩⟩:=h;exact ⟨⟨a0,by omega⟩,⟨b0,by omega⟩⟩
def rowsOf (es:List En):List (List Int):=es.filterMap fun e=>match e with
 | .row i a k b=>some [i,a,k,b]
 | .ap ..=>none
def broken (es:List En) (l:List Int):Option Int:=es.findSome? fun e=>match e with
 | .row ..=>none
 | .ap i a b=>if l.getD a.toNat 0=l.getD b.toNat 0 then some i else none
theorem broken_row (i a k b:Int) (es:List En) (l:List Int):broken (.row i a k b::es) l=broken es l:=rfl
theorem broken_ap (i a b:Int) (es:List En) (l:List Int):broken (.ap i a b::es) l=if l.getD a.toNat 0=l.getD b.toNat 0 then some i else broken es l:=by
 unfold broken
 rw [List.findSome?_cons]
 by_cases z:l.getD a.toNat 0=l.getD b.toNat 0
 · rw [if_pos z];simp only [if_pos z]
 · rw [if_neg z];simp only [if_neg z]
theorem rowsOf_app (a b:List En):rowsOf (a++b)=rowsOf a++rowsOf b:=List.filterMap_append
theorem rowsOf_ok {k n:Nat}{es:List En} (k5:k≤5) (h:∀ e∈es,EnOk k n e):∀ r∈rowsOf es,RowOk n r∧1≤r.getD 2 0∧r.getD 2 0≤5:=fun r hr=>by
 obtain ⟨e,he,h1⟩:=List.mem_filterMap.mp hr
 have:=h e he
 cases e with
 | row i a kd b=>
  cases h1
  obtain ⟨⟨a0,a1⟩,⟨k0,k1⟩,⟨b0,b1⟩⟩:=this
  refine ⟨⟨i,a.toNat,kd,b.toNat,?_,by omega,by omega⟩,?_,?_⟩
  · rw [Int.toNat_of_nonneg a0,Int.toNat_of_nonneg b0]
  · exact k0
  · show kd≤5;omega
 | ap i a b=>cases h1
theorem rowsOf_len (es:List En):(rowsOf es).length≤es.length:=List.length_filterMap_le ..
structure El (H:Hp) (fp:List Addr) (l:Addr) (es:List En):Prop where
 ob:∃ ps:List (Addr × En),H l=some (.lst (ps.map fun p=>V.ref p.1))∧(∀ p∈ps,H p.1=some (.tup p.2.vs))∧ps.map (·.2)=es∧l∈fp∧∀ p∈ps,p.1∈fp
theorem El.on {H H':Hp}{fp:List Addr}{l:Addr}{es:List En} (h:El H fp l es) (s:∀ a∈fp,∀ o,H a=some o→H' a=some o):El H' fp l es:=by
 obtain ⟨ps,h1,h2,h3,h4,h5⟩:=h.ob
 exact ⟨ps,s l h4 _ h1,fun p hp=>s _ (h5 p hp) _ (h2 p hp),h3,h4,h5⟩
theorem El.same {H H':Hp}{fp:List Addr}{l:Addr}{es:List En} (h:El H fp l es) (s:Same H H'):El H' fp l es:=h.on fun a _ o e=>s a o e
theorem El.sub {H:Hp}{fp fp':List Addr}{l:Addr}{es:List En} (h:El H fp l es) (s:∀ a∈fp,a∈fp'):El H fp' l es:=by
 obtain ⟨ps,h1,h2,h3,h4,h5⟩:=h.ob
 exact ⟨ps,h1,h2,h3,s l h4,fun p hp=>s _ (h5 p hp)⟩
theorem El.other {H:Hp}{fp:List Addr}{l x:Addr}{es:List En}{o:HO} (h:El H fp l es) (n:x∉fp):El (upd H x o) fp l es:=h.on fun a ha _ e=>by
 have ne:a≠x:=fun z=>n (z▸ha)
 rw [upd_ne ne];exact e
structure Bk where
 k:Nat
 n:Nat
 es:List En
 c:Int
 hs:List (Nat × List En × Int)
def bf (k n:Nat) (ls:Addr) (c:Int) (lh:Addr):List (Str × V):=[("kinds",.int k),("many",.int n),("standing",.ref ls),("coming",.int c),("held",.ref lh)]
theorem bf_k (k n:Nat) (ls:Addr) (c:Int) (lh:Addr):(bf k n ls c lh).lookup ("kinds":Str)=some (.int k):=rfl
theorem bf_n (k n:Nat) (ls:Addr) (c:Int) (lh:Addr):(bf k n ls c lh).lookup ("many":Str)=some (.int n):=rfl
theorem bf_s (k n:Nat) (ls:Addr) (c:Int) (lh:Addr):(bf k n ls c lh).lookup ("standing":Str)=some (.ref ls):=rfl
theorem bf_c (k n:Nat) (ls:Addr) (c:Int) (lh:Addr):(bf k n ls c lh).lookup ("coming":Str)=some (.int c):=rfl
theorem bf_pn (k n n':Nat) (ls:Addr) (c:Int) (lh:Addr):putF "many" (.int n') (bf k n ls c lh)=bf k n' ls c lh:=rfl
theorem bf_ps (k n:Nat) (ls ls':Addr) (c:Int) (lh:Addr):putF "standing" (.ref ls') (bf k n ls c lh)=bf k n ls' c lh:=rfl
theorem bf_pc (k n:Nat) (ls:Addr) (c c':Int) (lh:Addr):putF "coming" (.int c') (bf k n ls c lh)=bf k n ls c' lh:=rfl
structure TxtS (K:PySem.W.Frag) (mg:Str→Option Value) (C:Addr):Prop where
 cl:Cls K C
 nk:NoAttr K C "kinds"
 nn:NoAttr K C "many"
 ns:NoAttr K C "standing"
 nc:NoAttr K C "coming"
 nh:NoAttr K C "held"
 mk5:∃ t,mg "MOST_KINDS"=some (.int 5 t)
 m24:∃ t,mg "MOST_MARKS"=some (.int 24 t)
 m40:∃ t,mg "MOST_ENTRIES"=some (.int 40 t)
 row:∃ t,mg "ROW"=some (.str "row" t)
 ap:∃ t,mg "APART"=some (.str "apart" t)
structure Hl (H:Hp) (fp:List Addr) (lh:Addr) (hs:List (Nat × List En × Int)):Prop where
 ob:∃ qs:List (Addr × Addr × (Nat × List En × Int)),H lh=some (.lst (qs.map fun q=>V.ref q.1))∧(∀ q∈qs,H q.1=some (.tup [.int q.2.2.1,.ref q.2.1,.int q.2.2.2.2])∧El H fp q.2.1 q.2.2.2.1∧q.1∈fp)∧qs.map (·.2.2)=hs
structure BkAt (C:Addr) (H:Hp) (g lh:Addr) (B:Bk) (rest:List Addr):Prop where
 k1:1≤B.k
 k5:B.k≤5
 n24:B.n≤24
 e40:B.es.length≤40
 ok:∀ e∈B.es,EnOk B.k B.n e
 ob:∃ dx ls,H g=some (.ins C dx (bf B.k B.n ls B.c lh))∧El H rest ls B.es
 hl:Hl H rest lh B.hs
 hh:∀ h∈B.hs,h.1≤24∧h.2.1.length≤40∧∀ e∈h.2.1,EnOk B.k h.1 e
 nl:lh∉rest
 ng:g∉rest
 lv:∀ a∈rest,∃ o,H a=some o
theorem Hl.on {H H':Hp}{fp:List Addr}{lh:Addr}{hs:List (Nat × List En × Int)} (h:Hl H fp lh hs) (s:∀ a∈lh::fp,∀ o,H a=some o→H' a=some o):Hl H' fp lh hs:=by
 obtain ⟨qs,h1,h2,h3⟩:=h.ob
 exact ⟨qs,s lh (List.mem_cons_self ..) _ h1,fun q hq=>⟨s _ (List.mem_cons_of_mem _ (h2 q hq).2.2) _ (h2 q hq).1,(h2 q hq).2.1.on fun a ha=>s a (List.mem_cons_of_mem _ ha),(h2 q hq).2.2⟩,h3⟩
theorem Hl.sub {H:Hp}{fp fp':List Addr}{lh:Addr}{hs:List (Nat × List En × Int)} (h:Hl H fp lh hs) (s:∀ a∈fp,a∈fp'):Hl H fp' lh hs:=by
 obtain ⟨qs,h1,h2,h3⟩:=h.ob
 exact ⟨qs,h1,fun q hq=>⟨(h2 q hq).1,(h2 q hq).2.1.sub s,s _ (h2 q hq).2.2⟩,h3⟩
section
variable {C:Addr}{H H':Hp}{g lh:Addr}{B:Bk}{rest:List Addr}
theorem BkAt.on (h:BkAt C H g lh B rest) (s:∀ a∈g::lh::rest,∀ o,H a=some o→H' a=some o):BkAt C H' g lh B rest:=by
 obtain ⟨dx,ls,h1,h2⟩:=h.ob
 exact ⟨h.k1,h.k5,h.n24,h.e40,h.ok,⟨dx,ls,s g (List.mem_cons_self ..) _ h1,h2.on fun a ha=>s a (List.mem_cons_of_mem _ (List.mem_cons_of_mem _ ha))⟩,h.hl.on fun a ha=>s a (List.mem_cons_of_mem _ ha),h.hh,h.nl,h.ng,fun a ha=>by
  obtain ⟨o,e⟩:=h.lv a ha
  exact ⟨o,s a (List.mem_cons_of_mem _ (List.mem_cons_of_mem _ ha)) _ e⟩⟩
theorem BkAt.same (h:BkAt C H g lh B rest) (s:Same H H'):BkAt C H' g lh B rest:=h.on fun a _ o e=>s a o e
theorem BkAt.other {x:Addr}{o:HO} (h:BkAt C H g lh B rest) (n:x∉g::lh::rest):BkAt C (upd H x o) g lh B rest:=h.on fun a ha _ e=>by
 have ne:a≠x:=fun z=>n (z▸ha)
 rw [upd_ne ne];exact e
theorem BkAt.fld {dx ls:Addr}{B':Bk} (h:BkAt C H g lh B rest) (hg:H g=some (.ins C dx (bf B.k B.n ls B.c lh))) {ls':Addr} (el:El H rest ls' B'.es) (ek:B'.k=B.k) (eh:B'.hs=B.hs) (n24:B'.n≤24) (e40:B'.es.length≤40) (ok:∀ e∈B'.es,EnOk B'.k B'.n e):
  BkAt C (upd H g (.ins C dx (bf B'.k B'.n ls' B'.c lh))) g lh B' rest:=by
 have hlh:lh≠g:=fun z=>by
  obtain ⟨qs,h1,_⟩:=h.hl.ob
  rw [z,hg] at h1;cases h1
 refine ⟨by rw [ek];exact h.k1,by rw [ek];exact h.k5,n24,e40,ok,⟨dx,ls',upd_same,el.other h.ng⟩,?_,by rw [eh,ek];exact h.hh,h.nl,h.ng,fun a ha=>by
  obtain ⟨o,e⟩:=h.lv a ha
  exact ⟨o,by rw [upd_ne (show a≠g from fun z=>h.ng (z▸ha))];exact e⟩⟩
 rw [eh]
 refine h.hl.on fun a ha o e=>?_
 have ne:a≠g:=fun z=>by
  rcases List.mem_cons.mp ha with q | q
  · exact hlh (q▸z)
  · exact h.ng (z▸q)
 rw [upd_ne ne];exact e
theorem BkAt.more {rest':List Addr} (h:BkAt C H g lh B rest) (s:∀ a∈rest,a∈rest') (n1:lh∉rest') (n2:g∉rest') (n3:∀ a∈rest',∃ o,H a=some o):BkAt C H g lh B rest':=by
 obtain ⟨dx,ls,h1,h2⟩:=h.ob
 exact ⟨h.k1,h.k5,h.n24,h.e40,h.ok,⟨dx,ls,h1,h2.sub s⟩,h.hl.sub s,h.hh,n1,n2,n3⟩
theorem BkAt.not {x:Addr} (h:BkAt C H g lh B rest) (hx:H x=none):x∉g::lh::rest:=fun z=>by
 rcases List.mem_cons.mp z with z | z
 · obtain ⟨dx,ls,h1,h2⟩:=h.ob
   rw [← z,hx] at h1;cases h1
 rcases List.mem_cons.mp z with z | z
 · obtain ⟨qs,h3,_⟩:=h.hl.ob
   rw [← z,hx] at h3;cases h3
 · obtain ⟨o,e⟩:=h.lv x z
   rw [hx] at e;cases e
theorem BkAt.lg (h:BkAt C H g lh B rest):H lh≠none∧H g≠none:=by
 obtain ⟨dx,ls,h1,h2⟩:=h.ob
 obtain ⟨qs,h3,_⟩:=h.hl.ob
 exact ⟨by rw [h3];exact (fun z=>nomatch z),by rw [h1];exact (fun z=>nomatch z)⟩
end
def Bk.add (B:Bk) (e:En):Bk:={ B with es:=B.es++[e.re B.c],c:=B.c+1 }
noncomputable def Bk.lab (B:Bk):List Int:=fl B.n (rowsOf B.es)
noncomputable def Bk.bars (B:Bk):En→Prop
 | .row _ a k b=>broken B.es (fl B.n (rowsOf B.es++[[B.c,a,k,b]]))≠none
 | .ap _ a b=>B.lab.getD a.toNat 0=B.lab.getD b.toNat 0
def Nw (H:Hp) (rest rest':List Addr):Prop:=∀ x∈rest',x∈rest∨H x=none
theorem rd_listV {K:PySem.W.Frag}{H:Hp}{a:Addr}{xs:List V}{Q:VK} (hq:H a=some (.lst xs)) (h:∀ (p:Addr) (H':Hp),H p=none→H' p=some (.lst xs)→Same H H'→Q (.ref p) H'):Wr (rList K [.ref a] H Q):=
 ⟨⟨a,_,rfl,.inl (SqL.of hq),fun p hp=>h p _ hp upd_same ((Same.refl H).upd hp)⟩⟩
def spRowsOf:Sp:=fun vs H Q _=>∃ (l:Addr) (fp:List Addr) (es:List En),vs=[.ref l]∧El H fp l es∧es.length≤1000∧∀ (r:Addr) (ps:Ps) (H':Hp),H r=none→Tl H' r ps→ps.map (·.2)=rowsOf es→Same H H'→Q (.ref r) H'
def spBrk:Sp:=fun vs H Q _=>∃ (l ll:Addr) (fp:List Addr) (es:List En) (ls:List Int) (k:Nat),vs=[.ref l,.ref ll]∧El H fp l es∧Ints H ll ls∧(∀ e∈es,EnOk k ls.length e)∧Q (oV (broken es ls)) H
def spSInit (C:Addr):Sp:=fun vs H Q _=>∃ (g dx:Addr) (k:Nat),vs=[.ref g,.int k]∧H g=some (.ins C dx [])∧1≤k∧k≤5∧∀ (H':Hp) (lh:Addr) (rest:List Addr),BkAt C H' g lh ⟨k,0,[],1,[]⟩ rest→H lh=none→(∀ a∈rest,H a=none)→Kp g H H'→Q .non H'
def spChalkX (C cF:Addr):Sp:=fun vs H Q E=>∃ (g lh:Addr) (B:Bk) (rest:List Addr),vs=[.ref g]∧BkAt C H g lh B rest∧(B.n < 24→∀ H',BkAt C H' g lh { B with n:=B.n+1 } rest→Kp g H H'→Q (.int B.n) H')∧(¬ B.n < 24→E (.ref cF) none H)
def spCkMX (C cM:Addr):Sp:=fun vs H Q E=>∃ (g lh:Addr) (B:Bk) (rest:List Addr) (a b:Int),vs=[.ref g,.int a,.int b]∧BkAt C H g lh B rest∧(InM B.n a∧InM B.n b→∀ H',Same H H'→Q .non H')∧(¬ (InM B.n a∧InM B.n b)→∀ H',Same H H'→E (.ref cM) none H')
def spCkRX (C cF:Addr):Sp:=fun vs H Q E=>∃ (g lh:Addr) (B:Bk) (rest:List Addr),vs=[.ref g]∧BkAt C H g lh B rest∧(B.es.length < 40→Q .non H)∧(¬ B.es.length < 40→E (.ref cF) none H)
def spEnter (C:Addr):Sp:=fun vs H Q _=>∃ (g lh:Addr) (B:Bk) (rest:List Addr) (t:Addr) (e:En),vs=[.ref g,.ref t]∧BkAt C H g lh B rest∧H t=some (.tup e.told)∧EnOk B.k B.n e∧B.es.length < 40∧
 ∀ (H':Hp) (rest':List Addr),BkAt C H' g lh (B.add e) rest'→Nw H rest rest'→Kp g H H'→Q (.int B.c) H'
def trailR (fi st:Int) (ns:List Int):List (List Int):=(List.range ns.length).map (rowAt fi st ns)
def spLaidX (C cM cK:Addr):Sp:=fun vs H Q E=>∃ (g lh:Addr) (B:Bk) (rest:List Addr) (a b:Int) (wa:Addr) (ws:List Int),vs=[.ref g,.int a,.ref wa,.int b]∧BkAt C H g lh B rest∧Ints H wa ws∧ws.length≤600∧
 (InM B.n a∧InM B.n b→(∀ l∈ws,Let B.k l)→∀ (t r:Addr) (ps:Ps) (H':Hp),H' t=some (.tup [.ref r,.int (hereAt B.n a ws.length)])→Tl H' r ps→ps.map (·.2)=rowsOf B.es++trailR B.n a ws→Same H H'→Q (.ref t) H')∧
 (¬ (InM B.n a∧InM B.n b)→∀ H',Same H H'→E (.ref cM) none H')∧(InM B.n a∧InM B.n b→¬ (∀ l∈ws,Let B.k l)→∀ H',Same H H'→E (.ref cK) none H')
theorem trailR_len (fi st:Int) (ns:List Int):(trailR fi st ns).length=ns.length:=by simp [trailR]
theorem trailR_at {fi st:Int}{ns:List Int}{i:Nat} (h:i < ns.length):(trailR fi st ns)[i]?=some (rowAt fi st ns i):=by simp [trailR,h]
theorem trail_tl {H:Hp}{r:Addr}{ts:List Addr}{fi st:Int}{ns:List Int} (h1:H r=some (.lst (ts.map V.ref))) (h2:ts.length=ns.length) (h3:∀ (j:Nat) t,ts[j]?=some t→H t=some (.tup ((rowAt fi st ns j).map V.int))):∃ ps:Ps,Tl H r ps∧ps.map (·.2)=trailR fi st ns:=by
 refine ⟨ts.zip (trailR fi st ns),⟨?_,fun p hp=>?_⟩,?_⟩
 · rw [h1]
   have:(ts.zip (trailR fi st ns)).map (fun p=>V.ref p.1)=((ts.zip (trailR fi st ns)).map Prod.fst).map V.ref:=by rw [List.map_map];rfl
   rw [this,List.map_fst_zip (by rw [trailR_len];omega)]
 · obtain ⟨i,hi,e⟩:=List.getElem_of_mem hp
   have hi1:i < ts.length:=by rw [List.length_zip] at hi;omega
   have hi2:i < ns.length:=by omega
   have e1:p=(ts[i],rowAt fi st ns i):=by
    rw [← e,List.getElem_zip]
    congr 1
    simp [trailR]
   rw [e1]
   exact h3 i _ (by simp [hi1])
 · exact List.map_snd_zip (by rw [trailR_len];omega)
theorem Tl.cat {H H':Hp}{a b p:Addr}{ps qs:Ps} (h1:Tl H a ps) (h2:Tl H b qs) (s:Same H H') (h:H' p=some (.lst ((ps.map fun p=>V.ref p.1)++(qs.map fun p=>V.ref p.1)))):Tl H' p (ps++qs):=by
 refine ⟨by rw [h,List.map_append],fun x hx=>?_⟩
 rcases List.mem_append.mp hx with z | z
 · exact s _ _ (h1.tp x z)
 · exact s _ _ (h2.tp x z)
theorem hereAt_lt {n:Nat}{a:Int} (h:InM n a) (i m:Nat) (hi:i≤m):0≤hereAt n a i∧hereAt n a i < ((n+m:Nat):Int):=by
 unfold hereAt
 obtain ⟨h0,h1⟩:=h
 split <;> omega
theorem trailR_ok {n k:Nat}{a:Int}{ws:List Int} (ha:InM n a) (k5:k≤5) (hl:∀ l∈ws,Let k l):∀ r∈trailR n a ws,RowOk (n+ws.length) r∧1≤r.getD 2 0∧r.getD 2 0≤5:=fun r hr=>by
 obtain ⟨i,hi,rfl⟩:=List.mem_map.mp hr
 have hi:=List.mem_range.mp hi
 have hL:Let k (ws.getD i 0):=hl _ (by simp [List.getD,hi])
 obtain ⟨l0,l1,l2⟩:=hL
 obtain ⟨h0,h1⟩:=hereAt_lt ha i ws.length (by omega)
 unfold rowAt
 by_cases z:0 < ws.getD i 0
 · rw [if_pos z]
   refine ⟨⟨-1 - (i:Int),(hereAt n a i).toNat,ws.getD i 0,n+i,?_,by omega,by omega⟩,?_,?_⟩
   · rw [Int.toNat_of_nonneg h0];rfl
   · show 1≤ws.getD i 0;omega
   · show ws.getD i 0≤5;omega
 · rw [if_neg z]
   refine ⟨⟨-1 - (i:Int),n+i, -ws.getD i 0,(hereAt n a i).toNat,?_,by omega,by omega⟩,?_,?_⟩
   · rw [Int.toNat_of_nonneg h0];rfl
   · show 1≤ -ws.getD i 0;omega
   · show -ws.getD i 0≤5;omega
theorem rows_all {ps:Ps}{rs:List (List Int)}{p:List Int→Prop} (e:ps.map (·.2)=rs) (h:∀ r∈rs,p r):∀ x∈ps,p x.2:=fun x hx=>h _ (e▸List.mem_map.mpr ⟨x,hx,rfl⟩)
theorem rows_len {ps:Ps}{rs:List (List Int)} (e:ps.map (·.2)=rs):ps.length=rs.length:=by rw [← e,List.length_map]
noncomputable def Bk.tlab (B:Bk) (a:Int) (ws:List Int):List Int:=fl (B.n+ws.length) (rowsOf B.es++trailR B.n a ws)
def spMustX (C cM cK:Addr):Sp:=fun vs H Q E=>∃ (g lh:Addr) (B:Bk) (rest:List Addr) (a b:Int) (wa:Addr) (ws:List Int),vs=[.ref g,.int a,.ref wa,.int b]∧BkAt C H g lh B rest∧Ints H wa ws∧ws.length≤600∧
 (InM B.n a∧InM B.n b→(∀ l∈ws,Let B.k l)→(B.tlab a ws).getD (hereAt B.n a ws.length).toNat 0=(B.tlab a ws).getD b.toNat 0→∀ (l2:Addr) (sp ps:Ps) (H':Hp),Tl H' l2 sp→ps.map (·.2)=rowsOf B.es++trailR B.n a ws→(Unl ps→wP ps (labs (B.n+ws.length) []) (sp.map (·.2))=some (B.tlab a ws)∧∀ r∈sp.map (·.2),TriOk r)→sp.length≤9000000→H l2=none→Same H H'→Q (.ref l2) H')∧
 (InM B.n a∧InM B.n b→(∀ l∈ws,Let B.k l)→¬ (B.tlab a ws).getD (hereAt B.n a ws.length).toNat 0=(B.tlab a ws).getD b.toNat 0→∀ H',Same H H'→Q .non H')∧
 (¬ (InM B.n a∧InM B.n b)→∀ H',Same H H'→E (.ref cM) none H')∧(InM B.n a∧InM B.n b→¬ (∀ l∈ws,Let B.k l)→∀ H',Same H H'→E (.ref cK) none H')
theorem Bk.tlab_nil (B:Bk) (a:Int):B.tlab a []=B.lab:=by
 unfold Bk.tlab Bk.lab
 rw [show trailR B.n a []=[] from rfl,List.append_nil];rfl
def spPapX (C cM:Addr):Sp:=fun vs H Q E=>∃ (g lh:Addr) (B:Bk) (rest:List Addr) (a b:Int),vs=[.ref g,.int a,.int b]∧BkAt C H g lh B rest∧
 (InM B.n a∧InM B.n b→B.lab.getD a.toNat 0=B.lab.getD b.toNat 0→∀ (l2:Addr) (sp ps:Ps) (H':Hp),Tl H' l2 sp→ps.map (·.2)=rowsOf B.es→(Unl ps→wP ps (labs B.n []) (sp.map (·.2))=some B.lab∧∀ r∈sp.map (·.2),TriOk r)→sp.length≤9000000→H l2=none→Same H H'→Q (.ref l2) H')∧
 (InM B.n a∧InM B.n b→¬ B.lab.getD a.toNat 0=B.lab.getD b.toNat 0→∀ H',Same H H'→Q .non H')∧(¬ (InM B.n a∧InM B.n b)→∀ H',Same H H'→E (.ref cM) none H')
def spSameX (C cM:Addr):Sp:=fun vs H Q E=>∃ (g lh:Addr) (B:Bk) (rest:List Addr) (a b:Int),vs=[.ref g,.int a,.int b]∧BkAt C H g lh B rest∧
 (InM B.n a∧InM B.n b→∀ H',Same H H'→Q (.bl (decide (B.lab.getD a.toNat 0=B.lab.getD b.toNat 0))) H')∧(¬ (InM B.n a∧InM B.n b)→∀ H',Same H H'→E (.ref cM) none H')
def spSRowX (C cM cK cF cB:Addr):Sp:=fun vs H Q E=>∃ (g lh:Addr) (B:Bk) (rest:List Addr) (a kd b:Int),vs=[.ref g,.int a,.int kd,.int b]∧BkAt C H g lh B rest∧
 (InM B.n a∧InM B.n b→(1≤kd∧kd≤B.k)→B.es.length < 40→¬ B.bars (.row 0 a kd b)→∀ (H':Hp) (rest':List Addr),BkAt C H' g lh (B.add (.row 0 a kd b)) rest'→Nw H rest rest'→Kp g H H'→Q (.int B.c) H')∧
 (¬ (InM B.n a∧InM B.n b)→∀ H',Same H H'→E (.ref cM) none H')∧(InM B.n a∧InM B.n b→¬ (1≤kd∧kd≤B.k)→∀ H',Same H H'→E (.ref cK) none H')∧
 (InM B.n a∧InM B.n b→(1≤kd∧kd≤B.k)→¬ B.es.length < 40→∀ H',Same H H'→E (.ref cF) none H')∧(InM B.n a∧InM B.n b→(1≤kd∧kd≤B.k)→B.es.length < 40→B.bars (.row 0 a kd b)→∀ H',Same H H'→E (.ref cB) none H')
def spApX (C cM cF cB:Addr):Sp:=fun vs H Q E=>∃ (g lh:Addr) (B:Bk) (rest:List Addr) (a b:Int),vs=[.ref g,.int a,.int b]∧BkAt C H g lh B rest∧
 (InM B.n a∧InM B.n b→B.es.length < 40→¬ B.bars (.ap 0 a b)→∀ (H':Hp) (rest':List Addr),BkAt C H' g lh (B.add (.ap 0 a b)) rest'→Nw H rest rest'→Kp g H H'→Q (.int B.c) H')∧
 (¬ (InM B.n a∧InM B.n b)→∀ H',Same H H'→E (.ref cM) none H')∧
 (InM B.n a∧InM B.n b→¬ B.es.length < 40→∀ H',Same H H'→E (.ref cF) none H')∧(InM B.n a∧InM B.n b→B.es.length < 40→B.bars (.ap 0 a b)→∀ H',Same H H'→E (.ref cB) none H')
def spMarks (C:Addr):Sp:=fun vs H Q _=>∃ (g lh:Addr) (B:Bk) (rest:List Addr),vs=[.ref g]∧BkAt C H g lh B rest∧Q (.int B.n) H
def spEntries (C:Addr):Sp:=fun vs H Q _=>∃ (g lh:Addr) (B:Bk) (rest:List Addr),vs=[.ref g]∧BkAt C H g lh B rest∧∀ (l:Addr) (H':Hp),H l=none→El H' (l::rest) l B.es→Same H H'→Q (.ref l) H'
end My
namespace L2
open PySem PySem.Spec PyProof.Rows
section
variable {X:Cx}
end
end L2
namespace My
open PySem L2
def spEntered (C:Addr):Sp:=fun vs H Q _=>∃ (g lh:Addr) (B:Bk) (rest:List Addr) (t:Addr) (e:En),vs=[.ref g,.ref t]∧BkAt C H g lh B rest∧H t=some (.tup e.told)∧EnOk B.k B.n e∧B.es.length < 40∧
 (B.bars e→∀ H',Same H H'→Q .non H')∧(¬ B.bars e→∀ (H':Hp) (rest':List Addr),BkAt C H' g lh (B.add e) rest'→Nw H rest rest'→Kp g H H'→Q (.int B.c) H')
def spEntry:Sp:=fun vs H Q _=>∃ (k n:Nat) (ld:Addr) (ds:List Int),vs=[.int k,.int n,.ref ld]∧Ints H ld ds∧ds.length=3∧1≤k∧k≤5∧1≤n∧n≤1000∧∀ (t:Addr) (e:En) (H':Hp),H t=none→H' t=some (.tup e.told)→EnOk k n e→Same H H'→Q (.ref t) H'
def Cons (B:Bk):Prop:=broken B.es B.lab=none
structure Nums (B:Bk):Prop where
 c:B.c=B.es.length+1
 at_:∀ (i:Nat) e,B.es[i]?=some e→e.num=(i:Int)+1
theorem broken_app (a b:List En) (l:List Int):broken (a++b) l=(broken a l).or (broken b l):=by
 unfold broken
 rw [List.findSome?_append]
theorem Cons.add {B:Bk} (h:Cons B) {e:En} (nb:¬ B.bars e):Cons (B.add e):=by
 unfold Cons
 cases e with
 | row i a k b=>
  show broken (B.es++[.row B.c a k b]) (fl B.n (rowsOf (B.es++[.row B.c a k b])))=none
  rw [broken_app,rowsOf_app]
  have:broken B.es (fl B.n (rowsOf B.es++[[B.c,a,k,b]]))=none:=Classical.byContradiction nb
  rw [show rowsOf [.row B.c a k b]=[[B.c,a,k,b]] from rfl,this];rfl
 | ap i a b=>
  show broken (B.es++[.ap B.c a b]) (fl B.n (rowsOf (B.es++[.ap B.c a b])))=none
  rw [broken_app,rowsOf_app,show rowsOf [.ap B.c a b]=[] from rfl,List.append_nil,broken_ap]
  have h1:broken B.es (fl B.n (rowsOf B.es))=none:=h
  have h2:¬ (fl B.n (rowsOf B.es)).getD a.toNat 0=(fl B.n (rowsOf B.es)).getD b.toNat 0:=nb
  rw [h1,if_neg h2];rfl
theorem Nums.add {B:Bk} (h:Nums B) (e:En):Nums (B.add e):=by
 have en:(e.re B.c).num=B.c:=by cases e <;> rfl
 refine ⟨?_,fun i x hx=>?_⟩
 · show B.c+1=((B.es++[e.re B.c]).length:Int)+1
   rw [h.c];simp
 · have hx:(B.es++[e.re B.c])[i]?=some x:=hx
   by_cases hi:i < B.es.length
   · rw [List.getElem?_append_left hi] at hx;exact h.at_ i x hx
   · rw [List.getElem?_append_right (by omega)] at hx
     have z:i - B.es.length=0:=by
      have:=(List.getElem?_eq_some_iff.mp hx).1
      simp at this;omega
     rw [z] at hx;cases hx
     rw [en,h.c];omega
def spBook (C:Addr):Sp:=fun vs H Q _=>∃ (g lh:Addr) (rest:List Addr) (k m many:Nat) (ld:Addr) (ds:List Int),vs=[.ref g,.int k,.int m,.int many,.ref ld]∧BkAt C H g lh ⟨k,0,[],1,[]⟩ rest∧m≤24∧many≤40∧Ints H ld ds∧3 * many≤ds.length∧
 ∀ (l:Addr) (fl':List Addr) (B:Bk) (rest':List Addr) (H':Hp),BkAt C H' g lh B rest'→B.k=k→B.n=m→B.hs=[]→B.es.length≤many→Cons B→Nums B→El H' fl' l B.es→H l=none→l∉g::lh::rest'→g∉fl'→lh∉fl'→Nw H rest rest'→(∀ x∈fl',H x=none)→Kp g H H'→Q (.ref l) H'
def knw (l:List Int):List Int:=l.foldl (fun k x=>if x∈k then k else k++[x]) []
theorem knw_snoc (l:List Int) (x:Int):knw (l++[x])=if x∈knw l then knw l else knw l++[x]:=by unfold knw;rw [List.foldl_append];rfl
theorem knw_nd (l:List Int):(knw l).Nodup:=by
 have:∀ (l k:List Int),k.Nodup→(l.foldl (fun k x=>if x∈k then k else k++[x]) k).Nodup:=fun l=>by
  induction l with
  | nil=>exact fun k h=>h
  | cons x l ih=>
   intro k h
   refine ih _ ?_
   dsimp only
   split
   · exact h
   · rename_i hx
     rw [List.nodup_append]
     refine ⟨h,List.pairwise_singleton _ x,fun a ha b hb z=>?_⟩
     rw [List.mem_singleton.mp hb] at z
     exact hx (z▸ha)
 exact this l [] List.nodup_nil
theorem knw_mono (l k:List Int):∀ x∈k,x∈l.foldl (fun k x=>if x∈k then k else k++[x]) k:=by
 induction l generalizing k with
 | nil=>exact fun x h=>h
 | cons y l ih=>
  intro x hx
  refine ih _ x ?_
  dsimp only
  split
  · exact hx
  · exact List.mem_append_left _ hx
theorem knw_mem (l k:List Int):∀ x∈l,x∈l.foldl (fun k x=>if x∈k then k else k++[x]) k:=by
 induction l generalizing k with
 | nil=>exact fun x h=>nomatch h
 | cons y l ih=>
  intro x hx
  rcases List.mem_cons.mp hx with e | e
  · rw [e]
    refine knw_mono l _ y ?_
    dsimp only
    split
    · assumption
    · exact List.mem_append_right _ (List.mem_singleton.mpr rfl)
  · exact ih _ x e
theorem knw_len (l:List Int):(knw l).length≤l.length:=by
 have:∀ (l k:List Int),(l.foldl (fun k x=>if x∈k then k else k++[x]) k).length≤k.length+l.length:=fun l=>by
  induction l with
  | nil=>exact fun k=>Nat.le_refl _
  | cons x l ih=>
   intro k
   refine Nat.le_trans (ih _) ?_
   dsimp only
   split
   · simp only [List.length_cons];omega
   · simp only [List.length_append,List.length_cons,List.length_nil];omega
 have:=this l []
 rw [List.length_nil,Nat.zero_add] at this
 exact this
def rk (l:List Int):List Int:=l.map fun x=>((knw l).idxOf x:Nat)
theorem rk_len (l:List Int):(rk l).length=l.length:=by simp [rk]
theorem rk_at {l:List Int}{a:Nat} (h:a < l.length):(rk l).getD a 0=((knw l).idxOf (l.getD a 0):Nat):=by
 simp [rk,List.getD,h]
theorem rk_eq {l:List Int}{a b:Nat} (ha:a < l.length) (hb:b < l.length):(rk l).getD a 0=(rk l).getD b 0↔l.getD a 0=l.getD b 0:=by
 rw [rk_at ha,rk_at hb]
 constructor
 · intro h
   have ma:l.getD a 0∈knw l:=knw_mem l [] _ (getD_mem ha)
   have mb:l.getD b 0∈knw l:=knw_mem l [] _ (getD_mem hb)
   have h:(knw l).idxOf (l.getD a 0)=(knw l).idxOf (l.getD b 0):=by omega
   have e1:=List.getElem_idxOf (List.idxOf_lt_length_of_mem ma)
   have e2:=List.getElem_idxOf (List.idxOf_lt_length_of_mem mb)
   rw [← e1, ← e2]
   congr 1
 · intro h;rw [h]
structure DK (kvs:List (Key × V)) (K:List Int):Prop where
 len:kvs.length=K.length
 at_:∀ x:Int,valV kvs (.inl x)=if x∈K then some (.int (K.idxOf x:Nat)) else none
theorem DK.nil:DK [] []:=⟨rfl,fun x=>rfl⟩
theorem DK.put {kvs:List (Key × V)}{K:List Int} (h:DK kvs K) {x:Int} (hx:x∉K):DK (putK kvs (.inl x) (.int kvs.length)) (K++[x]):=by
 have e:valV kvs (.inl x)=none:=by rw [h.at_,if_neg hx]
 refine ⟨by rw [putK_new _ e];simp [h.len],fun y=>?_⟩
 rw [valV_put]
 by_cases z:y=x
 · rw [if_pos (by rw [z]),if_pos (by rw [z];exact List.mem_append_right _ (List.mem_singleton.mpr rfl)),z,List.idxOf_append,if_neg hx,h.len]
   simp
 · rw [if_neg (fun w=>z (Sum.inl.inj w)),h.at_]
   by_cases m:y∈K
   · rw [if_pos m,if_pos (List.mem_append_left _ m),List.idxOf_append,if_pos m]
   · rw [if_neg m,if_neg (fun w=>by rcases List.mem_append.mp w with w | w; · exact m w
                                    · exact z (List.mem_singleton.mp w))]
theorem inV_ints (x:Int) (l:List Int):inV (V.int x) (l.map V.int)=decide (x∈l):=by
 unfold inV
 by_cases h:x∈l
 · rw [decide_eq_true h,List.any_eq_true]
   exact ⟨V.int x,List.mem_map.mpr ⟨x,h,rfl⟩,by simp [eqV]⟩
 · rw [decide_eq_false h,List.any_eq_false]
   intro v hv
   obtain ⟨z,hz,rfl⟩:=List.mem_map.mp hv
   have:¬ z=x:=fun e=>h (e▸hz)
   simp [eqV,this,Ne.symm this]
theorem flat_intsC (l:List Int):(l.map V.int).all flatV=true:=by
 rw [List.all_eq_true]
 intro v hv
 obtain ⟨z,_,rfl⟩:=List.mem_map.mp hv
 rfl
theorem rd_idx {K:PySem.W.Frag}{H:Hp}{a:Addr}{l:List Int}{x:Int}{Q:VK} (ha:Ints H a l) (hx:x∈l) (h:Q (.int (l.idxOf x:Nat)) H):rIdx K (.ref a) [.int x] H Q:=by
 have hlt:=List.idxOf_lt_length_of_mem hx
 refine ⟨a,_,_,l.idxOf x,rfl,rfl,SqL.of ha,rfl,flat_intsC l,by rw [List.length_map];exact hlt,?_,fun m hm=>?_,h⟩
 · rw [List.getElem?_map,List.getElem?_eq_getElem hlt]
   show some (eqV (.int l[l.idxOf x]) (.int x))=some true
   rw [List.getElem_idxOf hlt]
   simp [eqV]
 · have hm2:m < l.length:=by omega
   rw [List.getElem?_map,List.getElem?_eq_getElem hm2]
   show some (eqV (.int l[m]) (.int x))=some false
   have:¬ l[m]=x:=by
    have:=List.not_of_lt_findIdx (p:=(· == x)) (xs:=l) (i:=m) hm
    simpa using this
   simp [eqV,this]
theorem comp_intsH {K:PySem.W.Frag}{a:Addr}{ns:List Int}{ix:List Nat}{te:TE}{σ:St}{H:Hp}{Q:VK} (f:Int→Int) (ha:Ints H a ns) (hl:ns.length≤100000)
  (he:∀ z∈ns,∀ (H':Hp) (Q':VK),Same H H'→Q' (.int (f z)) H'→te (blkSt ix (some (.int z)) σ) H' Q') (h:∀ (D:Addr) (H':Hp),H D=none→Ints H' D (ns.map f)→Same H H'→Q (.ref D) H'):Wr (rComp (Itl K a) ix te σ H Q):=by
 refine comp_valsW (K:=K) (fun v=>match v with | .int z=>.int (f z) | _=>.non) (SqL.of ha) (small4k (by rw [List.length_map];omega)) (fun z hz H' Q' s q=>?_) fun D H' hD h1 s=>h D H' hD ?_ s
 · obtain ⟨x,hx,rfl⟩:=List.mem_map.mp hz
   exact he x hx H' Q' s q
 · show H' D=_
   rw [h1,List.map_map,List.map_map];rfl
def spChOf:Sp:=fun vs H Q _=>∃ (a:Addr) (l:List Int),vs=[.ref a]∧Ints H a l∧l.length≤1000∧∀ (p:Addr) (H':Hp),H p=none→Ints H' p (rk l)→Same H H'→Q (.ref p) H'
def spLabels (C:Addr):Sp:=fun vs H Q _=>∃ (g lh:Addr) (B:Bk) (rest:List Addr),vs=[.ref g]∧BkAt C H g lh B rest∧(∀ (p:Addr) (H':Hp),Ints H' p B.lab→B.lab.length=B.n→FL B.n (rowsOf B.es) [] B.lab→Same H H'→Q (.ref p) H')
def spChambers (C:Addr):Sp:=fun vs H Q _=>∃ (g lh:Addr) (B:Bk) (rest:List Addr),vs=[.ref g]∧BkAt C H g lh B rest∧(∀ (p:Addr) (H':Hp),H p=none→Ints H' p (rk B.lab)→B.lab.length=B.n→FL B.n (rowsOf B.es) [] B.lab→Same H H'→Q (.ref p) H')
end My
namespace L2
open PySem PySem.Spec PyProof.Rows
section
variable {X:Cx}
end
end L2
namespace My
open PySem L2
theorem FL.ex {n:Nat}{rs:List (List Int)}{st:Ps} (hst:∀ p∈st,PairOk n p.2) (hr:∀ r∈rs,RowOk n r):∃ l,FL n rs st l:=by
 suffices ∀ (m:Nat) (l:List Int),sumL l≤m→LOk n rs st l→∃ l,FL n rs st l from this _ _ (Nat.le_refl _) (labs_LOk hst)
 intro m
 induction m with
 | zero=>
  intro l hm h
  refine ⟨l,h,fun p hp q hq k s hs e=>Classical.byContradiction fun ne=>?_⟩
  have:=jn_lt h.lab ((hr p hp).mk (-s)).2 ((hr q hq).mk (-s)).2 ne
  omega
 | succ m ih=>
  intro l hm h
  by_cases c:closed rs l
  · exact ⟨l,h,c⟩
  · simp only [closed,Classical.not_forall] at c
    obtain ⟨p,hp,q,hq,k,s,hs,e,ne⟩:=c
    have lt:=jn_lt h.lab ((hr p hp).mk (-s)).2 ((hr q hq).mk (-s)).2 ne
    exact ih _ (by omega) (h.jn hst ((hr p hp).mk (-s)).2 ((hr q hq).mk (-s)).2 fun c cl=>cl.2 p hp q hq k s hs (h.snd c cl _ _ ((hr p hp).mk s).2 ((hr q hq).mk s).2 e))
theorem fl_FL {n:Nat}{rs:List (List Int)} (hr:∀ r∈rs,RowOk n r):FL n rs [] (fl n rs):=by
 obtain ⟨l,h⟩:=FL.ex (st:=[]) (fun _ z=>nomatch z) hr
 rw [← h.eq];exact h
theorem broken_none {es:List En}{l:List Int}:broken es l=none↔∀ i a b,En.ap i a b∈es→¬ l.getD a.toNat 0=l.getD b.toNat 0:=by
 induction es with
 | nil=>exact ⟨fun _ _ _ _ z=>(nomatch z),fun _=>rfl⟩
 | cons e es ih=>
  cases e with
  | row i a k b=>
   rw [broken_row,ih]
   exact ⟨fun h i' a' b' z=>h i' a' b' (by rcases List.mem_cons.mp z with w | w; · cases w
                                           · exact w),fun h i' a' b' z=>h i' a' b' (List.mem_cons_of_mem _ z)⟩
  | ap i a b=>
   rw [broken_ap]
   constructor
   · intro h i' a' b' z
     by_cases w:l.getD a.toNat 0=l.getD b.toNat 0
     · rw [if_pos w] at h;cases h
     · rw [if_neg w] at h
       rcases List.mem_cons.mp z with y | y
       · injection y with y1 y2 y3;subst y2 y3;exact w
       · exact ih.mp h i' a' b' y
   · intro h
     rw [if_neg (h i a b (List.mem_cons_self ..))]
     exact ih.mpr fun i' a' b' z=>h i' a' b' (List.mem_cons_of_mem _ z)
def ConsE (n:Nat) (es:List En):Prop:=broken es (fl n (rowsOf es))=none
theorem mem_rowsOf {es:List En}{r:List Int}:r∈rowsOf es↔∃ i a k b,En.row i a k b∈es∧r=[i,a,k,b]:=by
 unfold rowsOf
 rw [List.mem_filterMap]
 constructor
 · rintro ⟨e,he,h⟩
   cases e with
   | row i a k b=>exact ⟨i,a,k,b,he,(Option.some.inj h).symm⟩
   | ap i a b=>cases h
 · rintro ⟨i,a,k,b,he,rfl⟩
   exact ⟨_,he,rfl⟩
section
variable {C:Addr}{H H' H2:Hp}{g lh lh':Addr}{B B':Bk}{rest rest':List Addr}
end
structure Mo where
 s:Int→Int→Int
 t:Int→Int→Int
 l:∀ k x,t k (s k x)=x
 r:∀ k x,s k (t k x)=x
def Mo.go (M:Mo) (x l:Int):Int:=if 0 < l then M.s l x else M.t (-l) x
def Mo.wk (M:Mo) (x:Int) (ws:List Int):Int:=ws.foldl M.go x
def Mo.Fits (M:Mo) (f:Nat→Int) (rs:List (List Int)):Prop:=∀ r∈rs,M.s (r.getD 2 0) (f (My.mk r 1))=f (My.mk r (-1))
theorem Mo.s_inj (M:Mo) {k x y:Int} (h:M.s k x=M.s k y):x=y:=by rw [← M.l k x,h,M.l]
theorem Mo.app (M:Mo) (x:Int) (u v:List Int):M.wk x (u++v)=M.wk (M.wk x u) v:=List.foldl_append ..
def swp (a b x:Int):Int:=if x=a then b else if x=b then a else x
theorem swp_swp (a b x:Int):swp a b (swp a b x)=x:=by
 unfold swp
 repeat' split
 all_goals omega
theorem ext_perm:∀ ps:List (Int × Int),(∀ p∈ps,∀ q∈ps,p.1=q.1↔p.2=q.2)→∃ s t:Int→Int,(∀ x,t (s x)=x)∧(∀ x,s (t x)=x)∧∀ p∈ps,s p.1=p.2
 | [],_=>⟨id,id,fun _=>rfl,fun _=>rfl,fun _ z=>nomatch z⟩
 | p::ps,h=>by
  obtain ⟨s,t,a,b,c⟩:=ext_perm ps fun p hp q hq=>h p (List.mem_cons_of_mem _ hp) q (List.mem_cons_of_mem _ hq)
  refine ⟨fun x=>swp (s p.1) p.2 (s x),fun x=>t (swp (s p.1) p.2 x),fun x=>by dsimp only;rw [swp_swp,a],fun x=>by dsimp only;rw [b,swp_swp],fun q hq=>?_⟩
  dsimp only
  rcases List.mem_cons.mp hq with rfl | hq2
  · unfold swp;rw [if_pos rfl]
  · have e:=h q hq p (List.mem_cons_self ..)
    have sq:=c q hq2
    unfold swp
    by_cases z1:s q.1=s p.1
    · rw [if_pos z1]
      have:q.1=p.1:=by rw [← a q.1,z1,a]
      exact (e.mp this).symm
    · rw [if_neg z1]
      by_cases z2:s q.1=p.2
      · have:q.1=p.1:=e.mpr (by rw [← sq,z2])
        rw [this] at z1
        exact absurd rfl z1
      · rw [if_neg z2,sq]
theorem closed_mo {rs:List (List Int)}{l:List Int} (h:closed rs l):∃ M:Mo,M.Fits (fun a=>l.getD a 0) rs:=by
 have H:∀ k:Int,∃ s t:Int→Int,(∀ x,t (s x)=x)∧(∀ x,s (t x)=x)∧∀ r∈rs,r.getD 2 0=k→s (l.getD (My.mk r 1) 0)=l.getD (My.mk r (-1)) 0:=fun k=>by
  obtain ⟨s,t,a,b,c⟩:=ext_perm ((rs.filter fun r=>r.getD 2 0 == k).map fun r=>(l.getD (My.mk r 1) 0,l.getD (My.mk r (-1)) 0)) fun p hp q hq=>by
   obtain ⟨x,hx,rfl⟩:=List.mem_map.mp hp
   obtain ⟨y,hy,rfl⟩:=List.mem_map.mp hq
   obtain ⟨hx,ex⟩:=List.mem_filter.mp hx
   obtain ⟨hy,ey⟩:=List.mem_filter.mp hy
   have ee:x.getD 2 0=y.getD 2 0:=(eq_of_beq ex).trans (eq_of_beq ey).symm
   have h1:=h x hx y hy ee 1 (.inl rfl)
   have h2:=h x hx y hy ee (-1) (.inr rfl)
   exact ⟨h1,h2⟩
  refine ⟨s,t,a,b,fun r hr e=>?_⟩
  exact c (l.getD (My.mk r 1) 0,l.getD (My.mk r (-1)) 0) (List.mem_map.mpr ⟨r,List.mem_filter.mpr ⟨hr,beq_iff_eq.mpr e⟩,rfl⟩)
 refine ⟨⟨fun k=>Classical.choose (H k),fun k=>Classical.choose (Classical.choose_spec (H k)),fun k=>(Classical.choose_spec (Classical.choose_spec (H k))).1,fun k=>(Classical.choose_spec (Classical.choose_spec (H k))).2.1⟩,fun r hr=>?_⟩
 exact (Classical.choose_spec (Classical.choose_spec (H (r.getD 2 0)))).2.2 r hr rfl
theorem Mo.Fits.cl {M:Mo}{f:Nat→Int}{rs:List (List Int)}{st:Ps} (h:M.Fits f rs) (hs:∀ p∈st,f (p.2.getD 0 0).toNat=f (p.2.getD 1 0).toNat):Cl rs st f:=by
 refine ⟨hs,fun p hp q hq e s hs ee=>?_⟩
 have h1:=h p hp
 have h2:=h q hq
 have hs:s=1∨s= -1:=hs
 rcases hs with rfl | rfl
 · rw [← h1, ← h2,e,ee]
 · show f (My.mk p 1)=f (My.mk q 1)
   rw [← h1, ← h2,e] at ee
   exact M.s_inj ee
theorem FL.iff {n:Nat}{rs:List (List Int)}{st:Ps}{l:List Int} (h:FL n rs st l) {a b:Nat} (ha:a < n) (hb:b < n):l.getD a 0=l.getD b 0↔∀ (M:Mo) (f:Nat→Int),M.Fits f rs→(∀ p∈st,f (p.2.getD 0 0).toNat=f (p.2.getD 1 0).toNat)→f a=f b:=by
 constructor
 · exact fun e M f hf hs=>h.1.snd f (hf.cl hs) a b ha hb e
 · intro k
   obtain ⟨M,hM⟩:=closed_mo h.2
   exact k M _ hM h.1.stt
theorem rows_lt {n:Nat}{rs:List (List Int)} (hr:∀ r∈rs,RowOk n r) {f g:Nat→Int} (h:∀ x < n,f x=g x) {M:Mo}:M.Fits f rs↔M.Fits g rs:=by
 constructor <;> intro k r h1 <;> have:=k r h1
 · rwa [h _ ((hr r h1).mk 1).2,h _ ((hr r h1).mk (-1)).2] at this
 · rwa [h _ ((hr r h1).mk 1).2,h _ ((hr r h1).mk (-1)).2]
theorem row_go {M:Mo}{f:Nat→Int}{n:Nat}{a:Int}{ws:List Int}{i:Nat} (nz:ws.getD i 0≠0):M.s ((rowAt n a ws i).getD 2 0) (f (My.mk (rowAt n a ws i) 1))=f (My.mk (rowAt n a ws i) (-1))↔f (n+i)=M.go (f (hereAt n a i).toNat) (ws.getD i 0):=by
 have e:((n:Int)+(i:Int)).toNat=n+i:=by omega
 unfold rowAt Mo.go
 by_cases z:0 < ws.getD i 0
 · rw [if_pos z,if_pos z]
   show M.s (ws.getD i 0) (f (hereAt n a i).toNat)=f ((n:Int)+i).toNat↔_
   rw [e]
   exact eq_comm
 · rw [if_neg z,if_neg z]
   show M.s (-ws.getD i 0) (f ((n:Int)+i).toNat)=f (hereAt n a i).toNat↔_
   rw [e]
   constructor
   · intro h;rw [← h,M.l]
   · intro h;rw [h,M.r]
theorem here_nat (n:Nat) (a:Int) (i:Nat):(hereAt n a (i+1)).toNat=n+i:=by rw [hereAt_succ];omega
theorem here_zero (n:Nat) (a:Int):hereAt n a 0=a:=rfl
theorem wk_take {M:Mo}{x:Int}{ws:List Int}{i:Nat} (h:i < ws.length):M.wk x (ws.take (i+1))=M.go (M.wk x (ws.take i)) (ws.getD i 0):=by
 rw [List.take_succ_eq_append_getElem h,M.app,show ws.getD i 0=ws[i] by simp [List.getD,h]];rfl
theorem trail_wk {M:Mo}{f:Nat→Int}{n:Nat}{a:Int}{ws:List Int} (nz:∀ l∈ws,l≠0) (h:M.Fits f (trailR n a ws)):∀ i≤ws.length,f (hereAt n a i).toNat=M.wk (f a.toNat) (ws.take i):=by
 intro i
 induction i with
 | zero=>intro _;rfl
 | succ i ih=>
  intro hi
  have nzi:ws.getD i 0≠0:=nz _ (by simp [List.getD,show i < ws.length by omega])
  rw [here_nat,wk_take (by omega), ← ih (by omega)]
  exact (row_go nzi).mp (h _ (List.mem_of_getElem? (trailR_at (show i < ws.length by omega))))
def extF (M:Mo) (f:Nat→Int) (n:Nat) (a:Int) (ws:List Int) (x:Nat):Int:=if x < n then f x else M.wk (f a.toNat) (ws.take (x - n+1))
theorem ext_here {M:Mo}{f:Nat→Int}{n:Nat}{a:Int}{ws:List Int} (ha:InM n a) (i:Nat):extF M f n a ws (hereAt n a i).toNat=M.wk (f a.toNat) (ws.take i):=by
 obtain ⟨a0,a1⟩:=ha
 cases i with
 | zero=>
  unfold extF
  rw [here_zero,if_pos (by omega)];rfl
 | succ i=>
  unfold extF
  rw [here_nat,if_neg (by omega),show n+i - n+1=i+1 by omega]
theorem ext_fits {M:Mo}{f:Nat→Int}{n:Nat}{a:Int}{ws:List Int} (ha:InM n a) (nz:∀ l∈ws,l≠0):M.Fits (extF M f n a ws) (trailR n a ws):=fun r hr=>by
 obtain ⟨i,hi,rfl⟩:=List.mem_map.mp hr
 have hi:=List.mem_range.mp hi
 have nzi:ws.getD i 0≠0:=nz _ (by simp [List.getD,hi])
 refine (row_go nzi).mpr ?_
 rw [ext_here ha, ← wk_take hi, ← here_nat n a i,ext_here ha]
theorem Mo.Fits.app {M:Mo}{f:Nat→Int}{rs rt:List (List Int)}:M.Fits f (rs++rt)↔M.Fits f rs∧M.Fits f rt:=
 ⟨fun h=>⟨fun r hr=>h r (List.mem_append_left _ hr),fun r hr=>h r (List.mem_append_right _ hr)⟩,fun h r hr=>(List.mem_append.mp hr).elim (h.1 r) (h.2 r)⟩
def MustP (rs:List (List Int)) (a:Int) (ws:List Int) (b:Int):Prop:=∀ (M:Mo) (f:Nat→Int),M.Fits f rs→M.wk (f a.toNat) ws=f b.toNat
def NevP (es:List En) (a:Int) (ws:List Int) (b:Int):Prop:=∃ i x y,En.ap i x y∈es∧∀ (M:Mo) (f:Nat→Int),M.Fits f (rowsOf es)→M.wk (f a.toNat) ws=f b.toNat→f x.toNat=f y.toNat
theorem row_more {n m:Nat}{r:List Int} (h:RowOk n r) (hm:n≤m):RowOk m r:=by
 obtain ⟨i,a,k,b,rfl,ha,hb⟩:=h
 exact ⟨i,a,k,b,rfl,by omega,by omega⟩
theorem take_all {ws:List Int}:ws.take ws.length=ws:=List.take_length
theorem must_iff {n:Nat}{rs:List (List Int)}{a b:Int}{ws l:List Int} (hr:∀ r∈rs,RowOk n r) (ha:InM n a) (hb:InM n b) (nz:∀ x∈ws,x≠0) (h:FL (n+ws.length) (rs++trailR n a ws) [] l):
  l.getD (hereAt n a ws.length).toNat 0=l.getD b.toNat 0↔MustP rs a ws b:=by
 obtain ⟨e0,e1⟩:=hereAt_lt ha ws.length ws.length (Nat.le_refl _)
 have b0:=hb
 obtain ⟨b0,b1⟩:=b0
 rw [h.iff (a:=(hereAt n a ws.length).toNat) (b:=b.toNat) (by omega) (by omega)]
 constructor
 · intro k M f hf
   have:=k M (extF M f n a ws) (Mo.Fits.app.mpr ⟨(rows_lt hr fun x hx=>by unfold extF;rw [if_pos hx]).mpr hf,ext_fits ha nz⟩) fun _ z=>nomatch z
   rw [ext_here ha,take_all] at this
   rw [this]
   unfold extF
   rw [if_pos (by omega)]
 · intro k M f hf _
   obtain ⟨h1,h2⟩:=Mo.Fits.app.mp hf
   rw [trail_wk nz h2 _ (Nat.le_refl _),take_all]
   exact k M f h1
theorem nev_iff {n k:Nat}{es:List En}{a b:Int}{ws l:List Int}{p:Addr} (ok:∀ e∈es,EnOk k n e) (k5:k≤5) (ha:InM n a) (hb:InM n b) (nz:∀ x∈ws,x≠0) (h:FL (n+ws.length) (rowsOf es++trailR n a ws) [(p,[hereAt n a ws.length,b])] l):
  broken es l≠none↔NevP es a ws b:=by
 have hr:∀ r∈rowsOf es,RowOk n r:=fun r hr=>(rowsOf_ok k5 ok r hr).1
 have key:∀ x y:Int,InM n x→InM n y→(l.getD x.toNat 0=l.getD y.toNat 0↔∀ (M:Mo) (f:Nat→Int),M.Fits f (rowsOf es)→M.wk (f a.toNat) ws=f b.toNat→f x.toNat=f y.toNat):=fun x y hx hy=>by
  obtain ⟨x0,x1⟩:=id hx
  obtain ⟨y0,y1⟩:=id hy
  obtain ⟨b0,b1⟩:=id hb
  rw [h.iff (a:=x.toNat) (b:=y.toNat) (by omega) (by omega)]
  constructor
  · intro k M f hf hw
    have:=k M (extF M f n a ws) (Mo.Fits.app.mpr ⟨(rows_lt hr fun x hx=>by unfold extF;rw [if_pos hx]).mpr hf,ext_fits ha nz⟩) fun q hq=>by
     rw [List.mem_singleton.mp hq]
     show extF M f n a ws (hereAt n a ws.length).toNat=extF M f n a ws b.toNat
     rw [ext_here ha,take_all,hw]
     unfold extF
     rw [if_pos (by omega)]
    unfold extF at this
    rwa [if_pos (by omega),if_pos (by omega)] at this
  · intro k M f hf hs
    obtain ⟨h1,h2⟩:=Mo.Fits.app.mp hf
    refine k M f h1 ?_
    have:=hs _ (List.mem_singleton.mpr rfl)
    have this:f (hereAt n a ws.length).toNat=f b.toNat:=this
    rw [← this,trail_wk nz h2 _ (Nat.le_refl _),take_all]
 constructor
 · intro z
   by_cases y:∃ i x y,En.ap i x y∈es∧l.getD x.toNat 0=l.getD y.toNat 0
   · obtain ⟨i,x,y,m,e⟩:=y
     have:=ok _ m
     exact ⟨i,x,y,m,(key x y this.1 this.2).mp e⟩
   · exact absurd (broken_none.mpr fun i x y' m e=>y ⟨i,x,y',m,e⟩) z
 · rintro ⟨i,x,y,m,e⟩ z
   have:=ok _ m
   exact broken_none.mp z i x y m ((key x y this.1 this.2).mpr e)
open Classical in
noncomputable def wordOf (es:List En) (a:Int) (ws:List Int) (b:Int):Str:=if MustP (rowsOf es) a ws b then "must" else if NevP es a ws b then "never" else "open"
end My
namespace L2
open PySem PySem.Spec PyProof.Rows
section
variable {X:Cx}
def rMax1 (K:PySem.W.Frag) (xs:List V) (H:Hp) (Q:VK):Prop:=∃ (a:Addr) (ns:List Int),xs=[.ref a]∧SqL K H a (ns.map V.int)∧ns≠[]∧∀ m∈ns,(∀ i∈ns,i≤m)→Q (.int m) H
theorem call_max1 (hc:X.calm=true):CallR X (.builtin "max") (fun xs H Q=>Wr (rMax1 X.K xs H Q)):=by
 intro pins s σ H vs us Q I r ⟨h⟩
 obtain ⟨a,ns,rfl,hq,ne,q⟩:=h
 obtain ⟨u,rfl,ru⟩:=vals1 r
 cases ru
 obtain ⟨its,r,pl,hz⟩:=I.list hq
 have hi:=intsAre_of r
 obtain ⟨xs,e⟩:=hi.allInts.items
 have pl:=pl.isList
 rw [e] at pl
 have e2:(PySem.numsOf its)=ns:=hi.numsOf
 have e3:=PySem.nums_intItems xs
 have e4:its=(PySem.intItems xs).toList:=by rw [← e]
 rw [e4,e3] at e2
 have el:xs.size=ns.length:=by rw [← e2];simp
 have sz:0 < xs.size:=by
  rw [el]
  cases ns with
  | nil=>exact absurd rfl ne
  | cons=>simp
 have na:∀ i,i < xs.size→PySem.numAt xs i=ns.getD i 0:=fun i hi=>by
  unfold PySem.numAt
  rw [← e2]
  simp [List.getD,hi]
 obtain ⟨g1,g2⟩:=PySem.argBest_gt (PySem.numAt xs) (xs.size - 1)
 refine PySem.max_intList (I.ok.hd hc) pl sz fun v h' tk hv hk=>?_
 generalize PySem.argBest (fun i j=>decide (PySem.numAt xs i > PySem.numAt xs j)) (xs.size - 1)=k at g1 g2 hv
 have hk':k < xs.size:=by omega
 have hv':v=.int (xs[k]).1 (xs[k]).2:=by
  have:(PySem.intItems xs)[k]?=some (.int (xs[k]).1 (xs[k]).2):=by simp [PySem.intItems,hk']
  rw [this] at hv
  exact (Option.some.inj hv).symm
 have nk:(xs[k]).1=PySem.numAt xs k:=by simp [PySem.numAt,hk']
 have mm:(xs[k]).1∈ns:=by
  rw [nk,na k hk',List.getD,List.getElem?_eq_getElem (by omega)]
  exact List.getElem_mem _
 refine ⟨.int (xs[k]).1,H,I.kept hk,⟨_,hv'⟩,q _ mm fun i hi'=>?_⟩
 obtain ⟨j,hj,ej⟩:=List.getElem_of_mem hi'
 have:=g2 j (by omega)
 rw [na j (by omega),List.getD,List.getElem?_eq_getElem hj,ej] at this
 rw [nk]
 exact this
end
theorem rd_max {K:PySem.W.Frag}{H:Hp}{a:Addr}{ns:List Int}{Q:VK} (ha:H a=some (.lst (ns.map V.int))) (ne:ns≠[]) (h:∀ m∈ns,(∀ i∈ns,i≤m)→Q (.int m) H):Wr (rMax1 K [.ref a] H Q):=⟨⟨a,ns,rfl,SqL.of ha,ne,h⟩⟩
end L2
namespace L2
theorem ixN_at {n j:Nat}{i:Int} (h:j < n) (e:i=(j:Int):=by rfl):ixN n i=some j:=by
 subst e
 unfold ixN
 rw [if_pos (by omega),if_pos (by omega)];rfl
open PySem PySem.Spec PyProof.Rows
section
variable {X:Cx}{pins:List (Addr × Obj)}{σ:St}{H:Hp}{s:Shared}{d:Addr}{kvs:List (Key × V)}
theorem Inv.freeze (I:Inv X pins σ H s) (e:H d=some (.dK kvs)):∃ o,Inv X pins σ (upd H d (.frz o (.dK kvs))) s:=by
 have hob:=I.hok d _ e
 obtain ⟨z,ns,vs,kv,dd⟩:=(show ObjOk X.prog X.w H s.heap d (.dK kvs) from hob)
 obtain ⟨o,es,ep,ho,r⟩:=id dd
 have ne:∀ {b:Addr},H b=none→b≠d:=fun hb q=>by rw [q,e] at hb;cases hb
 refine ⟨o,I.ok,I.os,I.bare,⟨I.base.keep,I.base.slot,fun b ob q n hx=>?_,I.base.there,fun b xs q=>?_,fun b ob u q=>?_,fun b ps q=>?_⟩,I.loc,I.cell,?_,fun x c q=>?_,fun p hp=>?_,fun a u q=>?_,I.len⟩
 · have h1:=I.base.free b ob q n hx
   rw [upd_ne (ne h1)];exact h1
 · have h1:=I.base.tups b xs q
   rw [upd_ne (fun z=>by rw [z,e] at h1;cases h1)];exact h1
 · have h1:=I.base.frzs b ob u q
   rw [upd_ne (fun z=>by rw [z,e] at h1;cases h1)];exact h1
 · obtain ⟨m,h1⟩:=I.base.tbls b ps q
   exact ⟨m,by rw [upd_ne (fun z=>by rw [z,e] at h1;cases h1)];exact h1⟩
 · rw [upd_ne (ne I.free)];exact I.free
 · rw [upd_ne (ne (I.freeC x c q))];exact I.freeC x c q
 · obtain ⟨h1,h2,h3⟩:=I.pin p hp
   exact ⟨h1,by rw [upd_ne (ne h2)];exact h2,h3⟩
 · by_cases ha:a=d
   · subst ha
     rw [upd_same] at q;cases q
     exact ⟨ho,z,ns,vs,kv,dd⟩
   · rw [upd_ne ha] at q
     refine (I.hok a u q).stay (fun b v hb w=>w) (fun b hb=>?_) fun b xs hb=>?_
     · rw [upd_ne (fun z=>by rw [z,e] at hb;cases hb)];exact hb
     · rw [upd_ne (fun z=>by rw [z,e] at hb;cases hb)];exact hb
def tRetF (te:TE):TS:=fun D σ H=>te σ H fun x H1=>∃ d kvs,x=.ref d∧H1 d=some (.dK kvs)∧∀ o,D.rt x (upd H1 d (.frz o (.dK kvs)))
theorem ps_retF {e:Expr}{te:TE}{pos:Pos} (he:PE X e te):PS X (.Return (some e) pos) (tRetF te):=by
 intro pins s σ H D I h
 refine wpAny_Return_some (thn (he pins s σ H _ I h) fun v s1 ⟨x,H1,I1,r1,d,kvs,ex,ed,q⟩=>?_)
 obtain ⟨o,I2⟩:=I1.freeze ed
 exact ⟨x,σ,_,I2,r1,q o⟩
theorem rel_key {P:Program}{w:World}{k:Key}{u:Value} (h:(mixKind P w).is k u=true):RelV (kV k) u:=by
 have h:keyIs k u=true:=h
 rcases keyIs_shape h with ⟨i,t,rfl,rfl⟩ | ⟨x,t,rfl,rfl⟩ | ⟨rfl,rfl⟩
 · exact ⟨t,rfl⟩
 · exact ⟨t,rfl⟩
 · exact rfl
theorem frz_dict {P:Program}{w:World}{h:Heap}{o:Obj} (ok:HOk P w H h) (e:H d=some (.frz o (.dK kvs))):(d == sysModules)=false∧h.get? d=some o∧∃ vs,KV kvs vs∧vs.length=kvs.length∧h.DictOf (mixKind P w) d vs:=by
 obtain ⟨ho,z,ns,vs,kv,dd⟩:=(show ObjOk P w H h d (.frz o (.dK kvs)) from ok d _ e)
 exact ⟨ns,ho,vs,kv,(Paired.length kv).symm,dd⟩
theorem KV.get {κ:Type}{a:List (κ × V)}{b:List (κ × Value)} (h:KV a b):∀ {i:Nat}{p:κ × V},a[i]?=some p→∃ q,b[i]?=some q∧p.1=q.1:=by
 unfold KV at h
 induction h with
 | nil=>intro i p e;simp at e
 | cons hxy _ ih=>
  intro i p e
  cases i with
  | zero=>cases e;exact ⟨_,rfl,hxy.1⟩
  | succ i=>exact ih (by simpa using e)
end
def blkSt2 (ix:List Nat) (x y:Option V) (σ:St):St:=x::y::ix.map fun i=>(σ[i]?).join
def rComp2 (J:It) (ix:List Nat) (wj:TI) (te:TE) (σ:St) (H1:Hp) (Q:VK):Prop:=∀ D,H1 D=none→∃ W:Nat→Nat→List V→Hp→Prop,(∃ m,W 0 m [] (upd H1 D (.lst [])))∧
 ∀ i m ys H2,W i m ys H2→H2 D=some (.lst ys)∧((J.stop i H2∧Q (.ref D) H2)∨(J.go i H2∧∀ x H',J.yld i H2 x H'→∀ y0,wj (blkSt2 ix (some x) y0 σ) H' fun J2 H3=>∃ U:Nat→Nat→List V→Hp→Prop,(∃ m2,U 0 m2 ys H3)∧
  ∀ j m2 zs H4,U j m2 zs H4→H4 D=some (.lst zs)∧((J2.stop j H4∧∃ m',m' < m∧W (i+1) m' zs H4)∨(J2.go j H4∧zs.length < sizeLine∧∀ y H5,J2.yld j H4 y H5→te (blkSt2 ix (some x) (some y) σ) H5 fun v H6=>
   H6 D=some (.lst zs)∧∃ m2',m2' < m2∧U (j+1) m2' (zs++[v]) (upd H6 D (.lst (zs++[v])))))))
def tComp2 (wi:TI) (ix:List Nat) (wj:TI) (te:TE):TE:=fun σ H Q=>wi σ H fun J H1=>Wr (rComp2 J ix wj te σ H1 Q)
theorem compTurn_list2 (elt t1 i1 t2 i2:Expr) (scope:Scope) (pos:Pos) (it acc:Value) (env:Env):
  compTurn (.ListComp elt [⟨t1,i1,[],0⟩,⟨t2,i2,[],0⟩] scope pos) 0 it acc env=(standAt i1.pos >>= fun _=>pyNext it >>= fun r=>match r with
   | none=>pure (.done .next)
   | some v=>letOwnedTupleGo t1 it v >>= fun _=>assign t1 env v >>= fun _=>
    eval i2 env >>= fun x=>standAt i2.pos >>= fun _=>foldedSetIterable i2 env x >>= fun x=>holding [x] (pyIter x) >>= fun it2=>runOwn (.compStart (.ListComp elt [⟨t1,i1,[],0⟩,⟨t2,i2,[],0⟩] scope pos) 1 it2 acc env) env >>= fun _=>
     again (.compLoop (.ListComp elt [⟨t1,i1,[],0⟩,⟨t2,i2,[],0⟩] scope pos) 0 it acc env)):=by rfl
theorem compTurn_list2b (elt t1 i1 t2 i2:Expr) (scope:Scope) (pos:Pos) (it acc:Value) (env:Env):
  compTurn (.ListComp elt [⟨t1,i1,[],0⟩,⟨t2,i2,[],0⟩] scope pos) 1 it acc env=(standAt i2.pos >>= fun _=>pyNext it >>= fun r=>match r with
   | none=>pure (.done .next)
   | some v=>letOwnedTupleGo t2 it v >>= fun _=>assign t2 env v >>= fun _=>
    (eval elt env >>= fun x=>call (.builtin "list.append") [acc,x] >>= fun _=>pure ()) >>= fun _=>
     again (.compLoop (.ListComp elt [⟨t1,i1,[],0⟩,⟨t2,i2,[],0⟩] scope pos) 1 it acc env)):=by rfl
theorem codeAny_compStart_list1 {prog:Program}{w:World}{A:Around}{R:Result→Shared→Prop}{s:Shared}{elt g1 t2 i2 scope pos it acc env}
  (h0:codeAny (model prog w) A (.compLoop (.ListComp elt [g1,⟨t2,i2,[],0⟩] scope pos) 1 it acc env) R s)
  (h:wpAny (model prog w) A (pyIter it) (fun it' s'=>codeAny (model prog w) A (.compLoop (.ListComp elt [g1,⟨t2,i2,[],0⟩] scope pos) 1 it' acc env) R s')
   (notedBy (model prog w) A env fun x s'=>R (.error x) s') s):
  codeAny (model prog w) A (.compStart (.ListComp elt [g1,⟨t2,i2,[],0⟩] scope pos) 1 it acc env) R s:=by
 refine codeAny_of_tree ?_
 show wpAny _ _ ((compStart (.ListComp elt [g1,⟨t2,i2,[],0⟩] scope pos) 1 it acc env).onRaise (fun x=>do noteFrame x env;standAt theWindowsPlace)) _ _ s
 refine wpAny_notedAt ?_
 unfold compStart
 show wpAny _ _ (ask >>= _) _ _ s
 refine wpAny_bind (wpAny_askSetting (wpAny_ite ?_))
 split
 · first
     | exact wpAny_bind (wpAny_pure (wpAny_pure (And.intro rfl h0)))
     | exact wpAny_pure (And.intro rfl h0)
 · first
     | exact wpAny_bind (wpAny_rule (wpAny_bind (wpAny_standAt (wpAny_bind (wpAny_mono h (fun it' s' h'=>wpAny_pure (And.intro rfl h')) fun _ _ x=>x)))))
     | (refine wpAny_bind (wpAny_rule ?_);show wpAny _ _ (standAt i2.pos >>= _) _ _ s;exact wpAny_bind (wpAny_standAt (wpAny_bind (wpAny_mono h (fun it' s' h'=>wpAny_pure (And.intro rfl h')) fun _ _ x=>x))))
section
variable {X:Cx}
theorem pe_lcomp2 {x y2:Str}{px py pos:Pos}{elt iter iter2:Expr}{scope:Scope}{cl:List (Str × Addr)}{fr:List Str}{ix:List Nat}{wi wj:TI}{te:TE}
  (hc:X.calm=true) (hi:PI X (.Name x px) iter wi)
  (hclos:closureFor scope X.env=pure cl) (hkind:scope.kind=.function) (hcell:∀ y∈scope.names,y.2≠.cell)
  (hnames:∀ y∈scope.names,y.2=.local→scope.names.lookup y.1=some .local) (hx:scope.names.lookup x=some .local) (hy2:scope.names.lookup y2=some .local)
  (hN:(x::y2::fr).Nodup) (hix:ix.map (fun i=>X.N[i]?)=fr.map some)
  (hfr:∀ y∈fr,X.env.kindOf y=some .cell∧(relabel scope X.env).names.lookup y=some .cell)
  (hcl:∀ y c,cl.lookup y=some c→X.env.cells.lookup y=some c)
  (hcl2:∀ y,((relabel scope X.env).names.lookup y=some .cell∨(relabel scope X.env).names.lookup y=some .free)→∃ c,cl.lookup y=some c)
  (hj:∀ C s H fp,PI (X.blk (x::y2::fr) scope cl C s H fp) (.Name y2 py) iter2 wj)
  (he:∀ C s H fp,PE (X.blk (x::y2::fr) scope cl C s H fp) elt te)
  (hs:∀ x,foldedSetIterable iter X.env x=pure x:=by intro _;rfl) (hs2:∀ env x,foldedSetIterable iter2 env x=pure x:=by intro _ _;rfl):
  PE X (.ListComp elt [⟨.Name x px,iter,[],0⟩,⟨.Name y2 py,iter2,[],0⟩] scope pos) (tComp2 wi ix wj te):=by
 intro pins s σ H Q I h
 rw [eval_ListComp]
 refine wpAny_comprehension_free (use:=none) rfl hs hclos hkind hnames (thn (hi pins s σ H _ I h) fun xv s1 h1=>thn h1 fun itv s2 h2=>?_)
 obtain ⟨it,fp,tn,J,H2,e,I2,T,st2,f2,q⟩:=h2
 subst e
 refine wpAny_newObj_type (wpAny_newFunctionEnv hcell (by intro y hy;simp at hy) (fun h₁ hns₁ hsb₁=>?_) hkind)
 dsimp only at hns₁ hsb₁ ⊢
 have hDn:H2 s2.heap.objs.size=none:=I2.hok.fresh (Nat.le_refl _)
 obtain ⟨W,⟨m0,w0⟩,turn⟩:=q.get s2.heap.objs.size hDn
 generalize hHL:s2.heap.push { cls:=.type "list",dict:=none,data:=.seq ([]:List Value).toArray }=HL at hns₁ hsb₁ ⊢
 have hC:HL.objs.size=s2.heap.objs.size+1:=by rw [← hHL,Heap.size_push]
 have old:∀ b o,s2.heap.get? b=some o→h₁.get? b=some o:=fun b o e=>(hsb₁.2 b (by rw [hC];exact Nat.ne_of_lt (Nat.lt_succ_of_lt (Heap.lt_size e)))).trans (Heap.get?_push_of_some _ (hHL▸Heap.get?_push_of_some _ e))
 have hD1:h₁.get? s2.heap.objs.size=some { cls:=.type "list",data:=.seq ([]:List Value).toArray }:=
  (hsb₁.2 _ (by rw [hC];exact Nat.ne_of_lt (Nat.lt_succ_self _))).trans (Heap.get?_push_of_some _ (hHL▸Heap.get?_push_size _ rfl))
 generalize hCC:HL.objs.size=C at hns₁ hsb₁ ⊢
 rw [hCC] at hC
 have bC:∀ b o,s2.heap.get? b=some o→b≠C:=fun b o e=>by rw [hC];exact Nat.ne_of_lt (Nat.lt_succ_of_lt (Heap.lt_size e))
 have stl:∀ b∈frs X.stack,∃ o,s2.heap.get? b=some o:=fun b hb=>by
  obtain ⟨_,o,ho,_⟩:=I2.stack.mem hb
  exact ⟨o,ho⟩
 have fpl:∀ b∈fp,∃ o,s2.heap.get? b=some o∧∀ v,o.data≠.cell v:=fun b hb=>T.obj 0 _ st2 b hb
 have fpstk:∀ b∈fp,b∉frs X.stack:=fun b hb z=>by
  rcases List.mem_cons.mp (I2.stkSub b z) with z | z
  · exact (f2 b hb).2.1 z
  · exact (f2 b hb).2.2.1 z
 let B:=X.blk (x::y2::fr) scope cl C s2 H2 fp
 have okB:B.Ok:=by
  refine ⟨I2.ok.mod,hkind,I2.ok.glob,I2.ok.blt,(by show s2.heap.objs.size≤C;rw [hC];exact Nat.le_succ _),fun y z c e1 e2=>I2.ok.inj y z c (hcl _ _ e1) (hcl _ _ e2),fun y hy=>hcl2 y hy,fun y c z=>absurd (show false=true from z) Bool.false_ne_true,
   fun _=>I2.ok.hd hc,I2.ok.frames,.inl rfl,fun b hb=>⟨?_,fun y c e=>(f2 b hb).2.2.2.2.1 y c (hcl _ _ e)⟩,I2.bs,Nat.le_trans I2.ok.bsz I2.sz,fun b o e hb=>?_,fun b hb=>fpstk b hb,I2.stack,I2.stkFree⟩
  · obtain ⟨o,e,_⟩:=fpl b hb
    exact bC b o e
  · rcases (f2 b hb).2.2.2.1 with z | z
    · exact I2.ok.noex b o e z
    · exact absurd (Nat.lt_of_lt_of_le (Heap.lt_size (I2.ok.bs b o e).1) z) (Nat.lt_irrefl _)
 have IB:∀ tk,Inv B [] (blkSt2 ix none none σ) (upd H2 s2.heap.objs.size (.lst [])) { s2 with heap:=h₁,toks:=tk }:=fun tk=>by
  refine ⟨okB,rfl,I2.bare,Un.laid old (Nat.le_refl _) hDn,⟨_,hns₁,fun j y v e1 e2 e3=>?_⟩,fun y c e=>?_,?_,fun y c e=>?_,(fun p hp=>nomatch hp),I2.hok.laid old (Nat.le_refl _) ⟨Nat.zero_le _,[],0,.nil,hD1⟩,?_⟩
  · cases j with
    | zero=>cases (show (some none:Option (Option V))=some (some v) from e2)
    | succ j=>
     cases j with
     | zero=>cases (show (some none:Option (Option V))=some (some v) from e2)
     | succ j=>
      have e1:fr[j]?=some y:=e1
      have e2:(ix.map fun i=>(σ[i]?).join)[j]?=some (some v):=e2
      have hj:=congrArg (fun l=>l[j]?) hix
      simp only [List.getElem?_map,e1] at hj
      rw [List.getElem?_map] at e2
      cases hij:ix[j]? with
      | none=>rw [hij] at e2;cases e2
      | some i=>
       rw [hij] at hj e2
       have hj:X.N[i]?=some y:=Option.some.inj hj
       have e2:(σ[i]?).join=some v:=Option.some.inj e2
       have e2:σ[i]?=some (some v):=by
        cases z:σ[i]? with
        | none=>rw [z] at e2;cases e2
        | some z'=>rw [z] at e2;rw [show z'=some v from e2]
       obtain ⟨m,hn,hl⟩:=I2.loc
       have hk:=hfr y (List.mem_of_getElem? e1)
       obtain ⟨u,ru,lk⟩:=hl i y v hj e2 (.inr (.inl hk.1))
       refine ⟨u,ru,.inr ⟨.inl hk.2,?_⟩⟩
       rcases lk with ⟨z,_⟩ | ⟨_,c,ec,⟨oc,hoc,hcd⟩⟩
       · rw [hk.1] at z;cases z
       · obtain ⟨c',ec'⟩:=hcl2 y (.inl hk.2)
         have:=hcl _ _ ec'
         rw [ec] at this;cases this
         exact ⟨c,ec',oc,old c oc hoc,hcd⟩
  · obtain ⟨v,oc,hoc,hcd⟩:=I2.cell y c (hcl _ _ e)
    exact ⟨v,oc,old c oc hoc,hcd⟩
  · show upd H2 s2.heap.objs.size (.lst []) C=none
    rw [upd_ne (by rw [hC];exact Nat.succ_ne_self _)]
    exact I2.hok.fresh (by rw [hC];exact Nat.le_succ _)
  · obtain ⟨v,oc,hoc,hcd⟩:=I2.cell y c (hcl _ _ e)
    rw [upd_ne (Nat.ne_of_lt (Heap.lt_size hoc))]
    exact I2.freeC y c (hcl _ _ e)
  · show (blkSt2 ix none none σ).length=(x::y2::fr).length
    have:=congrArg List.length hix
    simp only [List.length_map] at this
    simp [blkSt2,this]
 have st1:∀ tk,tn 0 ({ s2 with heap:=h₁,toks:=tk }:Shared).heap:=fun _=>T.keep 0 _ _ st2 fun b hb o e=>old b o e
 have fB:∀ {H':Hp},(∀ b∈fp,H' b=none)→∀ b∈fp,FpOk B [] H' b:=fun hn b hb=>by
  obtain ⟨o,e,_⟩:=fpl b hb
  exact ⟨hn b hb,bC b o e,fpstk b hb,.inl hb,fun y c ec=>(f2 b hb).2.2.2.2.1 y c (hcl _ _ ec),(fun p hp=>nomatch hp)⟩
 have loop:∀ tk,codeAny (model X.prog X.w) X.A (.compLoop (.ListComp elt [⟨.Name x px,iter,[],0⟩,⟨.Name y2 py,iter2,[],0⟩] scope pos) 0 (.ref it) (.ref s2.heap.objs.size) (compEnvC scope cl C X.env))
   (compPost (model X.prog X.w) X.A X.xe none (EP X pins σ Q) (.ref s2.heap.objs.size) C) { s2 with heap:=h₁,toks:=tk }:=fun tk=>by
  refine codeAny_loop rfl (fun n s'=>∃ i ys x' y' H',Inv B [] (blkSt2 ix x' y' σ) H' s'∧tn i s'.heap∧(∀ b∈fp,H' b=none)∧W i n ys H') (fun n s3 hI=>?_) m0 ⟨0,[],none,none,_,IB tk,st1 tk,fun b hb=>?_,w0⟩
  · obtain ⟨i,ys,x',y',H3,I3,st3,fr3,w3⟩:=hI
    show wpAny _ _ ((compTurn (.ListComp elt [⟨.Name x px,iter,[],0⟩,⟨.Name y2 py,iter2,[],0⟩] scope pos) 0 (.ref it) (.ref s2.heap.objs.size) (compEnvC scope cl C X.env)).onRaise (fun x=>do noteFrame x (compEnvC scope cl C X.env);theTreesLotGoes x)) _ _ s3
    refine wpAny_noted ?_
    rw [compTurn_list2]
    obtain ⟨hD3,alt⟩:=turn i n ys H3 w3
    refine wpAny_bind (wpAny_standAt (wpAny_bind ?_))
    rcases alt with ⟨stop,qn⟩ | ⟨go,step⟩
    · refine thn (T.done B rfl rfl rfl hc i [] s3 _ H3 _ I3 (fB fr3) st3 stop) fun r s4 ⟨hr,I4⟩=>?_
      subst hr
      refine wpAny_pure ?_
      obtain ⟨m4,hn4,_⟩:=I4.loc
      refine ⟨m4,hn4,fun h' sb=>?_⟩
      have un:Un (frs X.stack) fp H2 H3 s2.heap h':=by
       have u:=I4.base
       refine ⟨fun b o e n hb hx=>(sb.2 b (bC b o e)).trans (u.keep b o e n hb hx),fun b o e n hb hx=>?_,u.free,fun b o e hx=>?_,u.tups,u.frzs,u.tbls⟩
       · obtain ⟨sl,e1⟩:=u.slot b o e n hb hx
         exact ⟨sl,(sb.2 b (bC b o e)).trans e1⟩
       · obtain ⟨o',e1⟩:=u.there b o e hx
         exact ⟨o',(sb.2 b (bC b o e)).trans e1⟩
      refine ⟨.ref s2.heap.objs.size,H3,I2.call' (s':={ s4 with heap:=h' }) (ch:=fp) I4.os un (I4.hok.sameBut I4.free sb) I4.bare (fun b hb=>⟨(f2 b hb).2.2.2.1,(f2 b hb).2.1,(f2 b hb).2.2.2.2⟩),rfl,qn⟩
    · refine thn (T.item B rfl rfl rfl hc i [] s3 _ H3 _ I3 (fB fr3) st3 go) fun r s4 ⟨u,hr,h4⟩=>?_
      subst hr
      refine wpAny_bind (thn h4 fun _ s5 ⟨xv,H5,I5,r5,y5,st5,fr5⟩=>?_)
      have I5':=I5.pinned (fB fr5) (T.obj _ _ st5)
      refine wpAny_bind (wpAny_assign_Name (store_ok (i:=0) (X:=B) I5' hN rfl (.inl (lookup_relabel_local hx)) r5 (fun s6 I6=>?_) (.inr (lookup_relabel_local hx))))
      have I6:Inv B ([]++pinsAt fp s5.heap) (blkSt2 ix (some xv) y' σ) H5 s6:=I6
      generalize hpp:([]:List (Addr × Obj))++pinsAt fp s5.heap=pp at I6
      have kp:∀ {st:St}{H8:Hp}{s8:Shared},Inv B pp st H8 s8→tn (i+1) s8.heap∧∀ b∈fp,H8 b=none:=fun I8=>by
       subst hpp
       exact ⟨T.keep _ _ _ st5 fun b hb o e=>(I8.pin (b,o) (List.mem_append_right _ (List.mem_append_right _ (mem_pinsAt hb e)))).1,fun b hb=>by
        obtain ⟨o,e,d⟩:=T.obj _ _ st5 b hb
        exact (I8.pin (b,o) (List.mem_append_right _ (List.mem_append_right _ (mem_pinsAt hb e)))).2.1⟩
      have un8:∀ {st:St}{H8:Hp}{s8:Shared},Inv B pp st H8 s8→Inv B [] st H8 s8:=fun I8=>by
       subst hpp
       exact I8.unpinned
      refine wpAny_bind (wpAny_mono (hj C s2 H2 fp pp s6 _ H5 _ I6 (step xv H5 y5 y')) (fun xv2 s7 h7=>?_) fun _ _ z=>False.elim z)
      refine wpAny_bind (wpAny_standAt (wpAny_bind (wpAny_of_eq (hs2 _ _) (wpAny_bind (wpAny_holding (wpAny_mono h7 (fun itv2 s8 h8=>?_) fun _ _ z=>False.elim z))))))
      obtain ⟨it2,fp2,tn2,J2,H8,e8,I8,T2,st8,f8,q8⟩:=h8
      subst e8
      obtain ⟨VV,⟨n0,v0⟩,turn2⟩:=q8
      refine wpAny_bind (wpAny_runOwn ?_)
      have loop2:∀ s8':Shared,s8'=s8→codeAny (model X.prog X.w) X.A (.compLoop (.ListComp elt [⟨.Name x px,iter,[],0⟩,⟨.Name y2 py,iter2,[],0⟩] scope pos) 1 (.ref it2) (.ref s2.heap.objs.size) (compEnvC scope cl C X.env))
        (fun r s'=>match r with | .ok _=>∃ m' y'' zs H',m' < n∧Inv B pp (blkSt2 ix (some xv) y'' σ) H' s'∧W (i+1) m' zs H' | .error _=>False) s8':=fun s8' es8=>by
       subst es8
       refine codeAny_loop rfl (fun n s'=>∃ j zs y'' H',Inv B pp (blkSt2 ix (some xv) y'' σ) H' s'∧tn2 j s'.heap∧(∀ b∈fp2,H' b=none)∧VV j n zs H') (fun n s3 hI=>?_) n0 ⟨0,ys,y',H8,I8,st8,fun b hb=>(f8 b hb).1,v0⟩
       obtain ⟨j,zs,y'',H9,I9,st9,fr9,v9⟩:=hI
       show wpAny _ _ ((compTurn (.ListComp elt [⟨.Name x px,iter,[],0⟩,⟨.Name y2 py,iter2,[],0⟩] scope pos) 1 (.ref it2) (.ref s2.heap.objs.size) (compEnvC scope cl C X.env)).onRaise (fun x=>do noteFrame x (compEnvC scope cl C X.env);theTreesLotGoes x)) _ _ s3
       refine wpAny_noted ?_
       rw [compTurn_list2b]
       obtain ⟨hD9,alt⟩:=turn2 j n zs H9 v9
       have fok:∀ {Hq:Hp},(∀ b∈fp2,Hq b=none)→∀ b∈fp2,FpOk B pp Hq b:=fun hn b hb=>⟨hn b hb,(f8 b hb).2⟩
       refine wpAny_bind (wpAny_standAt (wpAny_bind ?_))
       rcases alt with ⟨stop,m',hm',w'⟩ | ⟨go,hlen,step2⟩
       · refine wpAny_mono (T2.done B rfl rfl rfl hc j pp s3 _ H9 (fun _ _=>False) I9 (fok fr9) st9 stop) (fun r s4 ⟨hr,I4⟩=>?_) fun _ _ z=>False.elim z
         subst hr
         exact wpAny_pure ⟨m',y'',zs,H9,hm',I4,w'⟩
       · refine wpAny_mono (T2.item B rfl rfl rfl hc j pp s3 _ H9 (fun _ _=>False) I9 (fok fr9) st9 go) (fun r s4 ⟨u,hr,h4⟩=>?_) fun _ _ z=>False.elim z
         subst hr
         refine wpAny_bind (wpAny_mono h4 (fun _ s5' ⟨yv,H10,I10,r10,y10,st10,fr10⟩=>?_) fun _ _ z=>False.elim z)
         have I10':=I10.pinned (fok fr10) (T2.obj _ _ st10)
         refine wpAny_bind (wpAny_assign_Name (store_ok (i:=1) (X:=B) I10' hN rfl (.inl (lookup_relabel_local hy2)) r10 (fun s11 I11=>?_) (.inr (lookup_relabel_local hy2))))
         have I11:Inv B (pp++pinsAt fp2 s5'.heap) (blkSt2 ix (some xv) (some yv) σ) H10 s11:=I11
         refine wpAny_bind (wpAny_bind (wpAny_mono (he C s2 H2 fp _ s11 _ H10 _ I11 (step2 yv H10 y10)) (fun v s12 ⟨y,H12,I12,r12,hD12,m',hm,v12⟩=>?_) fun _ _ z=>False.elim z))
         refine wpAny_bind (wpAny_mono (mt_append (X:=B) _ s12 _ H12 (.ref s2.heap.objs.size) [y] (.ref s2.heap.objs.size) [v] (fun _ H8=>H8=upd H12 s2.heap.objs.size (.lst (zs++[y]))) I12 rfl (.cons r12 .nil) ⟨_,zs,y,rfl,rfl,hD12,hlen,rfl⟩)
          (fun _ s13 ⟨_,H13,I13,_,e13⟩=>?_) fun _ _ z=>False.elim z)
         subst e13
         refine wpAny_pure (wpAny_pure ⟨rfl,m',hm,j+1,zs++[y],some yv,_,I13.unpinned,T2.keep _ _ _ st10 fun b hb o e=>(I13.pin (b,o) (List.mem_append_right _ (List.mem_append_right _ (mem_pinsAt hb e)))).1,fun b hb=>?_,v12⟩)
         obtain ⟨o,e,d⟩:=T2.obj _ _ st10 b hb
         exact (I13.pin (b,o) (List.mem_append_right _ (List.mem_append_right _ (mem_pinsAt hb e)))).2.1
      have cont:codeAny (model X.prog X.w) X.A (.compStart (.ListComp elt [⟨.Name x px,iter,[],0⟩,⟨.Name y2 py,iter2,[],0⟩] scope pos) 1 (.ref it2) (.ref s2.heap.objs.size) (compEnvC scope cl C X.env))
        (fun r s'=>match r with | .ok _=>∃ m' y'' zs H',m' < n∧Inv B pp (blkSt2 ix (some xv) y'' σ) H' s'∧W (i+1) m' zs H' | .error _=>False) s8:=
       codeAny_compStart_list1 (loop2 _ rfl) (T2.self _ 0 _ _ _ st8 (loop2 _ rfl))
      refine codeAny_mono cont fun r s' hr=>?_
      cases r with
      | error _=>exact False.elim hr
      | ok f=>
       obtain ⟨m',y'',zs,H',hm,I',w'⟩:=hr
       exact wpAny_pure ⟨rfl,m',hm,i+1,zs,some xv,y'',H',un8 I',(kp I').1,(kp I').2,w'⟩
  · obtain ⟨o,e,_⟩:=fpl b hb
    rw [upd_ne (Nat.ne_of_lt (Heap.lt_size e))]
    exact (f2 b hb).1
 exact codeAny_compStart_list (loop _) (T.self _ 0 _ _ _ (st1 _) (loop _))
end
section
variable {X:Cx}{te:TE}{pos:Pos}
theorem pit {l tg:Expr}{tl:TE} (K:PySem.W.Frag) (e:X.K=K) (hl:PE X l tl):PI X tg l (iTup K tl):=by subst e;exact pi_tup hl
theorem pe_comp2 {x y2:Str}{px py:Pos}{elt iter iter2:Expr}{scope:Scope}{cl:List (Str × Addr)}{wi wj:TI} (fr:List Str) (ix:List Nat)
  (hi:PI X (.Name x px) iter wi) (hj:∀ C s H fp,PI (X.blk (x::y2::fr) scope cl C s H fp) (.Name y2 py) iter2 wj) (he:∀ C s H fp,PE (X.blk (x::y2::fr) scope cl C s H fp) elt te)
  (hcl:∀ y c,cl.lookup y=some c→X.env.cells.lookup y=some c)
  (hclos:closureFor scope X.env=pure cl:=by rfl) (hc:X.calm=true:=by rfl) (hkind:scope.kind=.function:=by rfl) (hcell:(scope.names.all fun p=>p.2 != .cell)=true:=by rfl)
  (hnames:(scope.names.all fun p=>p.2 != .local || scope.names.lookup p.1 == some .local)=true:=by rfl) (hx:scope.names.lookup x=some .local:=by rfl) (hy2:scope.names.lookup y2=some .local:=by rfl)
  (hN:(x::y2::fr).Nodup:=by decide+kernel) (hix:ix.map (fun i=>X.N[i]?)=fr.map some:=by rfl)
  (hfr:(fr.all fun y=>X.env.kindOf y == some .cell && (relabel scope X.env).names.lookup y == some .cell)=true:=by rfl)
  (hcl2:((relabel scope X.env).names.all fun p=>(p.2 != .cell && p.2 != .free) || (cl.lookup p.1).isSome)=true:=by rfl)
  (hs:∀ x,foldedSetIterable iter X.env x=pure x:=by intro _;rfl) (hs2:∀ env x,foldedSetIterable iter2 env x=pure x:=by intro _ _;rfl):
  PE X (.ListComp elt [⟨.Name x px,iter,[],0⟩,⟨.Name y2 py,iter2,[],0⟩] scope pos) (tComp2 wi ix wj te):=by
 refine pe_lcomp2 hc hi hclos hkind (fun y hy e=>?_) (fun y hy e=>?_) hx hy2 hN hix (fun y hy=>?_) hcl (fun y hy=>?_) hj he hs hs2
 · have:=List.all_eq_true.mp hcell y hy
   rw [e] at this
   exact absurd this (by decide)
 · have:=List.all_eq_true.mp hnames y hy
   rw [e] at this
   simpa using this
 · have:=List.all_eq_true.mp hfr y hy
   rw [Bool.and_eq_true] at this
   exact ⟨eq_of_beq this.1,eq_of_beq this.2⟩
 · have:∃ k,(relabel scope X.env).names.lookup y=some k∧(k=.cell∨k=.free):=by
     rcases hy with h | h
     · exact ⟨_,h,.inl rfl⟩
     · exact ⟨_,h,.inr rfl⟩
   obtain ⟨k,e,hk⟩:=this
   have:=List.all_eq_true.mp hcl2 (y,k) (PySem.mem_of_lookup e)
   have h2:(cl.lookup y).isSome=true:=by
    rcases hk with rfl | rfl <;> simpa using this
   exact Option.isSome_iff_exists.mp h2
theorem comp2_pair {K:PySem.W.Frag}{lo:Int}{n:Nat}{ix:List Nat}{ta:TA}{σ:St}{H:Hp}{Q:VK} (f:Nat→List Int) (hn:n≤1000) (hf:∀ i,(f i).length=2)
  (ha:∀ i,i < n→∀ (y0:Option V) (H2:Hp) (Q':List V→Hp→Prop),Q' ((f i).map V.int) H2→ta (blkSt2 ix (some (.int (lo+i))) y0 σ) H2 Q')
  (hQ:∀ D H',H D=none→H' D=some (.lst (((List.range n).flatMap f).map V.int))→Same H H'→Q (.ref D) H'):
  Wr (rComp2 (Itr lo n) ix (iTup K (tTup ta)) (tVar 1) σ H Q):=by
 refine ⟨fun D hD=>⟨fun i m ys H2=>m=n - i∧i≤n∧ys=((List.range i).flatMap f).map V.int∧H2 D=some (.lst ys)∧Same H H2,⟨n,rfl,Nat.zero_le _,rfl,upd_same,(fun b o e=>by rw [upd_ne (ne_of_none e hD)];exact e)⟩,?_⟩⟩
 rintro i m ys H2 ⟨rfl,hi,rfl,hD2,s2⟩
 refine ⟨hD2,?_⟩
 by_cases hlt:i < n
 · refine .inr ⟨hlt,fun x H' y y0=>?_⟩
   obtain ⟨e,y⟩:=y
   subst e y
   refine ha i hlt y0 H' _ ⟨?_,fun t ht=>?_⟩
   · rw [List.length_map,hf];exact (by decide:2≤sizeLine)
   refine ⟨t,rfl,⟨_,SqT.of upd_same⟩,?_⟩
   have nt:D≠t:=fun z=>by rw [← z,hD2] at ht;cases ht
   have len:((List.range i).flatMap f).length=2 * i:=by
    clear hlt hi hD2 ht nt s2 hD ha hn
    induction i with
    | zero=>rfl
    | succ i ih=>rw [List.range_succ,List.flatMap_append,List.length_append,ih];simp [hf];omega
   refine ⟨fun j m2 zs H4=>m2=2 - j∧j≤2∧zs=((List.range i).flatMap f).map V.int++((f i).take j).map V.int∧H4=upd (upd H' t (.tup ((f i).map V.int))) D (.lst zs),⟨2,rfl,Nat.zero_le _,by simp,?_⟩,?_⟩
   · funext b
     by_cases z:b=D
     · rw [z,upd_same,upd_ne nt];exact hD2
     · rw [upd_ne (a:=D) z]
   rintro j m2 zs H4 ⟨rfl,hj,rfl,rfl⟩
   refine ⟨upd_same,?_⟩
   have st:SqT K (upd (upd H' t (.tup ((f i).map V.int))) D (.lst (((List.range i).flatMap f).map V.int++((f i).take j).map V.int))) t ((f i).map V.int):=SqT.of (by rw [upd_ne (fun z=>nt z.symm),upd_same])
   by_cases hj2:j < 2
   · have hj3:j < (f i).length:=by rw [hf];exact hj2
     refine .inr ⟨⟨_,V.int (f i)[j],st,by simp [hj3]⟩,?_,fun y H5 yl=>?_⟩
     · refine Nat.lt_of_le_of_lt (?_:_≤10000) (by decide)
       rw [List.length_append,List.length_map,List.length_map,len,List.length_take,hf];omega
     obtain ⟨e,yl⟩:=yl
     subst e
     have ey:=yl _ st
     rw [List.getElem?_map,List.getElem?_eq_getElem hj3] at ey
     cases ey
     refine ⟨_,rfl,upd_same,2 - (j+1),by omega,rfl,hj2,?_,by rw [upd_upd]⟩
     rw [List.take_succ_eq_append_getElem hj3,List.map_append,List.append_assoc];rfl
   · have e:j=2:=by omega
     subst e
     refine .inl ⟨⟨_,st,by rw [List.length_map,hf];exact Nat.le_refl _⟩,n - (i+1),by omega,rfl,hlt,?_,upd_same,?_⟩
     · rw [List.take_of_length_le (by rw [hf];exact Nat.le_refl _),List.range_succ,List.flatMap_append,List.map_append]
       simp
     · intro b o e
       have h1:=s2 b o e
       have nb:b≠D:=ne_of_none e hD
       have nb2:b≠t:=ne_of_none h1 ht
       rw [upd_ne nb,upd_ne nb2];exact h1
 · have e:i=n:=by omega
   subst e
   exact .inl ⟨Nat.le_refl _,hQ D H2 hD hD2 s2⟩
end
def rDCompG (J:It) (n:Nat) (gT:TG) (tk tv:TE) (H1:Hp) (Q:VK):Prop:=∀ D,H1 D=none→∃ (e0:HO) (W:Nat→Nat→Hp→Prop),(e0=.dK []∨e0=.dT [])∧(∃ m,W 0 m (upd H1 D e0))∧
 ∀ i m H2,W i m H2→(J.stop i H2∧Q (.ref D) H2)∨(J.go i H2∧∀ x H',J.yld i H2 x H'→∀ nb:St,nb.length=n→gT x nb H' fun σ2 H3=>tk σ2 H3 fun y H4=>tv σ2 H4 fun yv H5=>
  ∃ H6,DPut H5 D y yv H6∧∃ m',m' < m∧W (i+1) m' H6)
def tDCompG (wi:TI) (n:Nat) (gT:TG) (tk tv:TE):TE:=fun σ H Q=>wi σ H fun J H1=>Wr (rDCompG J n gT tk tv H1 Q)
theorem dt_at {P:Program}{w:World}{H:Hp}{h h':Heap} (e:h'.get? h.objs.size=some { cls:=.type "dict",data:=.dict #[] }) (hb:sysModules < h.objs.size):ObjOk P w H h' h.objs.size (.dT []):=
 ⟨Nat.zero_le _,beq_eq_false_iff_ne.mpr (Ne.symm (Nat.ne_of_lt hb)),[],.nil,_, #[],0,e,⟨rfl,rfl,rfl⟩,rfl,rfl,List.nodup_nil⟩
section
variable {X:Cx}{pins:List (Addr × Obj)}{σ:St}{H:Hp}{s:Shared}{a:Addr}{y v:V}{u r:Value}{A:Around}{E:Value→Shared→Prop}
theorem d_dictSet {H':Hp}{Q:Unit→Shared→Prop} (hu:A.units+1 < cLine) (I:Inv X pins σ H s) (g:DPut H a y v H') (ry:RelV y u) (rv:RelV v r) (h:∀ s',Inv X pins σ H' s'→Q () s'):
  wpAny (model X.prog X.w) A (dictSet a u r) Q E s:=by
 rcases g with ⟨kvs,k,e,ey,l,eH⟩ | ⟨kvs,k,b,e,ey,eb,l,eH⟩
 · subst ey eH
   obtain ⟨z,hd,vs,rel,dd⟩:=dk_of I.hok e
   have hz:vs.length≤sizeLine:=by rw [← rel.length];exact z
   have hl:(putK kvs k v).length≤sizeLine:=by have:=length_putK kvs k v;omega
   refine wpAny_dictSet_pairs (hsz:=hz) (kV_is ry) dd fun h' dd' hs=>h _ ?_
   have he:∃ q,h'.get? a=some q:=let ⟨q,_,_,hq,_⟩:=dd';⟨q,hq⟩
   exact d_write I (by rw [e];exact True.intro) hs he (dk_new hl hd (rel.put k rv) dd')
 · subst ey eH
   cases (show u=Value.ref b from ry)
   obtain ⟨z,hd,xs,rel,dd⟩:=dt_of I.hok e
   have hz:xs.length≤sizeLine:=by rw [← Paired.length rel];exact z
   have hl:(putK kvs k v).length≤sizeLine:=by have:=length_putK kvs k v;omega
   refine wpAny_dictSet_heap (hsz:=hz) (show (tupleKind (mixKind X.prog X.w)).room A from Nat.lt_of_succ_lt hu) (key_of I.hok eb) dd fun h' dd' hs=>h _ ?_
   obtain ⟨q,es,ep,hq,h2,h3,h4,_,h5⟩:=dd'
   refine d_write I (by rw [e];exact True.intro) hs ⟨q,hq⟩ ⟨hl,hd,_,(rel.put k eb rv).keeps fun c ys ec=>?_,q,es,ep,hq,h2,h3,h4,h5⟩
   rw [upd_ne (ne_of ec e (fun z=>nomatch z))]
   exact ec
end
section
variable {X:Cx}
theorem pe_dcompGL {NB:List Str}{tgE:Expr}{gT:TG}{pos:Pos}{kx vx iter:Expr}{scope:Scope}{cl:List (Str × Addr)}{wi:TI}{tk tv:TE}
  (hu:X.A.units+1 < cLine) (hc:X.calm=true) (hi:PI X tgE iter wi)
  (hclos:closureFor scope X.env=pure cl) (hkind:scope.kind=.function) (hcell:∀ y∈scope.names,y.2≠.cell)
  (hnames:∀ y∈scope.names,y.2=.local→scope.names.lookup y.1=some .local)
  (hcl:∀ y c,cl.lookup y=some c→X.env.cells.lookup y=some c)
  (hcl2:∀ y,((relabel scope X.env).names.lookup y=some .cell∨(relabel scope X.env).names.lookup y=some .free)→∃ c,cl.lookup y=some c)
  (hg:∀ C s H fp,PG (X.blk NB scope cl C s H fp) tgE gT)
  (hk:∀ C s H fp,PE (X.blk NB scope cl C s H fp) kx tk) (he:∀ C s H fp,PE (X.blk NB scope cl C s H fp) vx tv)
  (hs:∀ x,foldedSetIterable iter X.env x=pure x:=by intro _;rfl):
  PE X (.DictComp kx vx [⟨tgE,iter,[],0⟩] scope pos) (tDCompG wi NB.length gT tk tv):=by
 intro pins s σ H Q I h
 rw [arm_eval_DictComp]
 refine wpAny_comprehension_free (use:=none) rfl hs hclos hkind hnames (thn (hi pins s σ H _ I h) fun xv s1 h1=>thn h1 fun itv s2 h2=>?_)
 obtain ⟨it,fp,tn,J,H2,e,I2,T,st2,f2,q⟩:=h2
 subst e
 refine wpAny_newObj_type (wpAny_newFunctionEnv hcell (by intro y hy;simp at hy) (fun h₁ hns₁ hsb₁=>?_) hkind)
 dsimp only at hns₁ hsb₁ ⊢
 have hDn:H2 s2.heap.objs.size=none:=I2.hok.fresh (Nat.le_refl _)
 obtain ⟨e0,W,he0,⟨m0,w0⟩,turn⟩:=q.get s2.heap.objs.size hDn
 generalize hHL:s2.heap.push { cls:=.type "dict",dict:=none,data:=.dict #[] }=HL at hns₁ hsb₁ ⊢
 have hC:HL.objs.size=s2.heap.objs.size+1:=by rw [← hHL,Heap.size_push]
 have old:∀ b o,s2.heap.get? b=some o→h₁.get? b=some o:=fun b o e=>(hsb₁.2 b (by rw [hC];exact Nat.ne_of_lt (Nat.lt_succ_of_lt (Heap.lt_size e)))).trans (Heap.get?_push_of_some _ (hHL▸Heap.get?_push_of_some _ e))
 have hD1:h₁.get? s2.heap.objs.size=some { cls:=.type "dict",data:=.dict #[] }:=
  (hsb₁.2 _ (by rw [hC];exact Nat.ne_of_lt (Nat.lt_succ_self _))).trans (Heap.get?_push_of_some _ (hHL▸Heap.get?_push_size _ rfl))
 generalize hCC:HL.objs.size=C at hns₁ hsb₁ ⊢
 rw [hCC] at hC
 have bC:∀ b o,s2.heap.get? b=some o→b≠C:=fun b o e=>by rw [hC];exact Nat.ne_of_lt (Nat.lt_succ_of_lt (Heap.lt_size e))
 have stl:∀ b∈frs X.stack,∃ o,s2.heap.get? b=some o:=fun b hb=>by
  obtain ⟨_,o,ho,_⟩:=I2.stack.mem hb
  exact ⟨o,ho⟩
 have fpl:∀ b∈fp,∃ o,s2.heap.get? b=some o∧∀ v,o.data≠.cell v:=fun b hb=>T.obj 0 _ st2 b hb
 have fpstk:∀ b∈fp,b∉frs X.stack:=fun b hb z=>by
  rcases List.mem_cons.mp (I2.stkSub b z) with z | z
  · exact (f2 b hb).2.1 z
  · exact (f2 b hb).2.2.1 z
 let B:=X.blk NB scope cl C s2 H2 fp
 have okB:B.Ok:=by
  refine ⟨I2.ok.mod,hkind,I2.ok.glob,I2.ok.blt,(by show s2.heap.objs.size≤C;rw [hC];exact Nat.le_succ _),fun y z c e1 e2=>I2.ok.inj y z c (hcl _ _ e1) (hcl _ _ e2),fun y hy=>hcl2 y hy,fun y c z=>absurd (show false=true from z) Bool.false_ne_true,
   fun _=>I2.ok.hd hc,I2.ok.frames,.inl rfl,fun b hb=>⟨?_,fun y c e=>(f2 b hb).2.2.2.2.1 y c (hcl _ _ e)⟩,I2.bs,Nat.le_trans I2.ok.bsz I2.sz,fun b o e hb=>?_,fun b hb=>fpstk b hb,I2.stack,I2.stkFree⟩
  · obtain ⟨o,e,_⟩:=fpl b hb
    exact bC b o e
  · rcases (f2 b hb).2.2.2.1 with z | z
    · exact I2.ok.noex b o e z
    · exact absurd (Nat.lt_of_lt_of_le (Heap.lt_size (I2.ok.bs b o e).1) z) (Nat.lt_irrefl _)
 have hob:∀ HH,ObjOk X.prog X.w HH h₁ s2.heap.objs.size e0:=fun HH=>by
  rcases he0 with z | z
  · subst z;exact dk_at hD1 I2.big
  · subst z;exact dt_at hD1 I2.big
 have IB:∀ tk,Inv B [] (List.replicate NB.length none) (upd H2 s2.heap.objs.size e0) { s2 with heap:=h₁,toks:=tk }:=fun tk=>by
  refine ⟨okB,rfl,I2.bare,Un.laid old (Nat.le_refl _) hDn,⟨_,hns₁,fun j y v e1 e2 e3=>?_⟩,fun y c e=>?_,?_,fun y c e=>?_,(fun p hp=>nomatch hp),I2.hok.laid old (Nat.le_refl _) (hob _),?_⟩
  · rw [List.getElem?_replicate] at e2
    split at e2 <;> cases e2
  · obtain ⟨v,oc,hoc,hcd⟩:=I2.cell y c (hcl _ _ e)
    exact ⟨v,oc,old c oc hoc,hcd⟩
  · show upd H2 s2.heap.objs.size e0 C=none
    rw [upd_ne (by rw [hC];exact Nat.succ_ne_self _)]
    exact I2.hok.fresh (by rw [hC];exact Nat.le_succ _)
  · obtain ⟨v,oc,hoc,hcd⟩:=I2.cell y c (hcl _ _ e)
    rw [upd_ne (Nat.ne_of_lt (Heap.lt_size hoc))]
    exact I2.freeC y c (hcl _ _ e)
  · exact List.length_replicate
 have st1:∀ tk,tn 0 ({ s2 with heap:=h₁,toks:=tk }:Shared).heap:=fun _=>T.keep 0 _ _ st2 fun b hb o e=>old b o e
 have fB:∀ {H':Hp},(∀ b∈fp,H' b=none)→∀ b∈fp,FpOk B [] H' b:=fun hn b hb=>by
  obtain ⟨o,e,_⟩:=fpl b hb
  exact ⟨hn b hb,bC b o e,fpstk b hb,.inl hb,fun y c ec=>(f2 b hb).2.2.2.2.1 y c (hcl _ _ ec),(fun p hp=>nomatch hp)⟩
 have loop:∀ tk,codeAny (model X.prog X.w) X.A (.compLoop (.DictComp kx vx [⟨tgE,iter,[],0⟩] scope pos) 0 (.ref it) (.ref s2.heap.objs.size) (compEnvC scope cl C X.env))
   (compPost (model X.prog X.w) X.A X.xe none (EP X pins σ Q) (.ref s2.heap.objs.size) C) { s2 with heap:=h₁,toks:=tk }:=fun tk=>by
  refine codeAny_loop rfl (fun n s'=>∃ i nb H',Inv B [] nb H' s'∧tn i s'.heap∧(∀ b∈fp,H' b=none)∧W i n H') (fun n s3 hI=>?_) m0 ⟨0,_,_,IB tk,st1 tk,fun b hb=>?_,w0⟩
  · obtain ⟨i,nb,H3,I3,st3,fr3,w3⟩:=hI
    show wpAny _ _ ((compTurn (.DictComp kx vx [⟨tgE,iter,[],0⟩] scope pos) 0 (.ref it) (.ref s2.heap.objs.size) (compEnvC scope cl C X.env)).onRaise (fun x=>do noteFrame x (compEnvC scope cl C X.env);theTreesLotGoes x)) _ _ s3
    refine wpAny_noted ?_
    rw [compTurn_dict]
    have alt:=turn i n H3 w3
    refine wpAny_bind (wpAny_standAt (wpAny_bind ?_))
    rcases alt with ⟨stop,qn⟩ | ⟨go,step⟩
    · refine thn (T.done B rfl rfl rfl hc i [] s3 _ H3 _ I3 (fB fr3) st3 stop) fun r s4 ⟨hr,I4⟩=>?_
      subst hr
      refine wpAny_pure ?_
      obtain ⟨m4,hn4,_⟩:=I4.loc
      refine ⟨m4,hn4,fun h' sb=>?_⟩
      have un:Un (frs X.stack) fp H2 H3 s2.heap h':=by
       have u:=I4.base
       refine ⟨fun b o e n hb hx=>(sb.2 b (bC b o e)).trans (u.keep b o e n hb hx),fun b o e n hb hx=>?_,u.free,fun b o e hx=>?_,u.tups,u.frzs,u.tbls⟩
       · obtain ⟨sl,e1⟩:=u.slot b o e n hb hx
         exact ⟨sl,(sb.2 b (bC b o e)).trans e1⟩
       · obtain ⟨o',e1⟩:=u.there b o e hx
         exact ⟨o',(sb.2 b (bC b o e)).trans e1⟩
      refine ⟨.ref s2.heap.objs.size,H3,I2.call' (s':={ s4 with heap:=h' }) (ch:=fp) I4.os un (I4.hok.sameBut I4.free sb) I4.bare (fun b hb=>⟨(f2 b hb).2.2.2.1,(f2 b hb).2.1,(f2 b hb).2.2.2.2⟩),rfl,qn⟩
    · refine thn (T.item B rfl rfl rfl hc i [] s3 _ H3 _ I3 (fB fr3) st3 go) fun r s4 ⟨u,hr,h4⟩=>?_
      subst hr
      refine wpAny_bind (thn h4 fun _ s5 ⟨xv,H5,I5,r5,y5,st5,fr5⟩=>?_)
      have I5':=I5.pinned (fB fr5) (T.obj _ _ st5)
      refine wpAny_bind (wpAny_mono (hg C s2 H2 fp _ s5 _ H5 xv u _ I5' r5 (step xv H5 y5 nb I3.len)) (fun _ s6 ⟨σ2,H6,I6,q6⟩=>?_) fun _ _ z=>False.elim z)
      refine wpAny_bind (wpAny_tests_nil (wpAny_bind (wpAny_bind (wpAny_mono (hk C s2 H2 fp _ s6 _ H6 _ I6 q6) (fun kv s7 ⟨y,H7,I7,r7,q7⟩=>?_) fun _ _ z=>False.elim z))))
      refine wpAny_bind (wpAny_holding (wpAny_mono (he C s2 H2 fp _ s7 _ H7 _ I7 q7) (fun vv s8 ⟨yv,H8,I8,r8,H9,g9,m',hm,w8⟩=>?_) fun _ _ z=>False.elim z))
      refine wpAny_bind (wpAny_standAt (wpAny_holding (d_dictSet (X:=B) hu I8 g9 r7 r8 fun s9 I9=>?_)))
      refine wpAny_pure ⟨rfl,m',hm,i+1,σ2,_,I9.unpinned,T.keep _ _ _ st5 fun b hb o e=>(I9.pin (b,o) (List.mem_append_right _ (List.mem_append_right _ (mem_pinsAt hb e)))).1,fun b hb=>?_,w8⟩
      obtain ⟨o,e,d⟩:=T.obj _ _ st5 b hb
      exact (I9.pin (b,o) (List.mem_append_right _ (List.mem_append_right _ (mem_pinsAt hb e)))).2.1
  · obtain ⟨o,e,_⟩:=fpl b hb
    rw [upd_ne (Nat.ne_of_lt (Heap.lt_size e))]
    exact (f2 b hb).1
 exact codeAny_compStart_dict (loop _) (T.self _ 0 _ _ _ (st1 _) (loop _))
end
section
variable {X:Cx}
theorem pgt (K:PySem.W.Frag) {pos:Pos}{es:List Expr}{k:Nat}{t:TGs}{n:Nat} (e:X.K=K) (hc:X.calm=true) (h:PGs X es t)
  (hn:(assignEach es X.env).length=n:=by rfl) (hst:(assignEach es X.env).findIdx? (·.1)=none:=by rfl):PG X (.Tuple es k pos) (gTup K n t):=by subst e;exact pg_tup hc h hn hst
theorem pe_dcompG {tgE:Expr}{gT:TG}{pos:Pos}{kx vx iter:Expr}{scope:Scope}{cl:List (Str × Addr)}{wi:TI}{tk tv:TE} (NB:List Str)
  (hu:X.A.units+1 < cLine) (hi:PI X tgE iter wi)
  (hg:∀ C s H fp,PG (X.blk NB scope cl C s H fp) tgE gT)
  (hk:∀ C s H fp,PE (X.blk NB scope cl C s H fp) kx tk) (he:∀ C s H fp,PE (X.blk NB scope cl C s H fp) vx tv)
  (hcl:∀ y c,cl.lookup y=some c→X.env.cells.lookup y=some c)
  (hclos:closureFor scope X.env=pure cl:=by rfl) (hc:X.calm=true:=by rfl) (hkind:scope.kind=.function:=by rfl) (hcell:(scope.names.all fun p=>p.2 != .cell)=true:=by rfl)
  (hnames:(scope.names.all fun p=>p.2 != .local || scope.names.lookup p.1 == some .local)=true:=by rfl)
  (hcl2:((relabel scope X.env).names.all fun p=>(p.2 != .cell && p.2 != .free) || (cl.lookup p.1).isSome)=true:=by rfl)
  (hs:∀ x,foldedSetIterable iter X.env x=pure x:=by intro _;rfl):
  PE X (.DictComp kx vx [⟨tgE,iter,[],0⟩] scope pos) (tDCompG wi NB.length gT tk tv):=by
 refine pe_dcompGL hu hc hi hclos hkind (fun y hy e=>?_) (fun y hy e=>?_) hcl (fun y hy=>?_) hg hk he hs
 · have:=List.all_eq_true.mp hcell y hy
   rw [e] at this
   exact absurd this (by decide)
 · have:=List.all_eq_true.mp hnames y hy
   rw [e] at this
   simpa using this
 · have:∃ k,(relabel scope X.env).names.lookup y=some k∧(k=.cell∨k=.free):=by
     rcases hy with h | h
     · exact ⟨_,h,.inl rfl⟩
     · exact ⟨_,h,.inr rfl⟩
   obtain ⟨k,e,hk⟩:=this
   have:=List.all_eq_true.mp hcl2 (y,k) (mem_of_lookup e)
   have h2:(cl.lookup y).isSome=true:=by
    rcases hk with rfl | rfl <;> simpa using this
   exact Option.isSome_iff_exists.mp h2
end
end L2
namespace My
open PySem L2
def lets (k:Nat):List Int:=(List.range k).flatMap fun (i:Nat)=>[1+(i:Int), -(1+(i:Int))]
theorem lets_mem {k:Nat}{l:Int}:l∈lets k↔Let k l:=by
 unfold lets Let
 rw [List.mem_flatMap]
 constructor
 · rintro ⟨i,hi,h⟩
   have:=List.mem_range.mp hi
   rcases List.mem_cons.mp h with e | h
   · omega
   · have e:=List.mem_singleton.mp h
     omega
 · rintro ⟨h0,h1,h2⟩
   refine ⟨l.natAbs - 1,List.mem_range.mpr (by omega),?_⟩
   by_cases hp:0 < l
   · exact List.mem_cons.mpr (.inl (by omega))
   · exact List.mem_cons_of_mem _ (List.mem_singleton.mpr (by omega))
theorem lets_len (k:Nat):(lets k).length=2 * k:=by
 unfold lets
 induction k with
 | zero=>rfl
 | succ k ih=>rw [List.range_succ,List.flatMap_append,List.length_append,ih];simp;omega
def vis (T:Tab) (c:Nat) (O:List Nat) (l:Int):List Nat:=match sgo T c l with
 | none=>O
 | some d=>if d.toNat∈O then O else O++[d.toNat]
def rowO (T:Tab) (k:Nat) (O:List Nat) (i:Nat):List Nat:=(lets k).foldl (vis T (O.getD i 0)) O
def bfs (T:Tab) (k:Nat):Nat→Nat→List Nat→List Nat
 | 0,_,O=>O
 | f+1,i,O=>if i < O.length then bfs T k f (i+1) (rowO T k O i) else O
def met (T:Tab) (k n base:Nat):List Nat:=bfs T k (n+1) 0 [base]
theorem bfs_stop {T:Tab}{k f i:Nat}{O:List Nat} (h:O.length≤i):bfs T k f i O=O:=by
 cases f with
 | zero=>rfl
 | succ f=>show (if i < O.length then _ else O)=O;rw [if_neg (by omega)]
theorem bfs_go {T:Tab}{k f i:Nat}{O:List Nat} (h:i < O.length):bfs T k (f+1) i O=bfs T k f (i+1) (rowO T k O i):=by
 show (if i < O.length then _ else O)=_
 rw [if_pos h]
theorem bfs_inv {T:Tab}{k:Nat} (P:Nat→List Nat→Prop) (h:∀ i O,i < O.length→P i O→P (i+1) (rowO T k O i)):∀ (f i:Nat) (O:List Nat),P i O→∃ i',P i' (bfs T k f i O)∧((bfs T k f i O).length≤i'∨i'=i+f)
 | 0,i,O,p=>⟨i,p,.inr rfl⟩
 | f+1,i,O,p=>by
  by_cases hl:i < O.length
  · rw [bfs_go hl]
    obtain ⟨i',p',q⟩:=bfs_inv P h f (i+1) _ (h i O hl p)
    exact ⟨i',p',q.imp id fun e=>by omega⟩
  · rw [bfs_stop (by omega)]
    exact ⟨i,p,.inl (by omega)⟩
theorem vis_pre {T:Tab}{c:Nat}{O:List Nat}{l:Int}:∃ r,vis T c O l=O++r:=by
 unfold vis
 split
 · exact ⟨[],by simp⟩
 · split
   · exact ⟨[],by simp⟩
   · exact ⟨_,rfl⟩
theorem fold_pre {T:Tab}{c:Nat}:∀ (ls:List Int) (O:List Nat),∃ r,ls.foldl (vis T c) O=O++r
 | [],O=>⟨[],by simp⟩
 | l::ls,O=>by
  obtain ⟨r,e⟩:=vis_pre (T:=T) (c:=c) (O:=O) (l:=l)
  obtain ⟨r',e'⟩:=fold_pre ls (vis T c O l)
  refine ⟨r++r',?_⟩
  show ls.foldl (vis T c) (vis T c O l)=_
  rw [e',e,List.append_assoc]
theorem vis_mem {T:Tab}{c:Nat}{O:List Nat}{l d:Int} (e:sgo T c l=some d):d.toNat∈vis T c O l:=by
 unfold vis
 rw [e]
 dsimp only
 split
 · assumption
 · exact List.mem_append_right _ (List.mem_singleton.mpr rfl)
theorem fold_mem {T:Tab}{c:Nat}{d:Int}{l:Int} (e:sgo T c l=some d):∀ (ls:List Int) (O:List Nat),l∈ls→d.toNat∈ls.foldl (vis T c) O
 | a::ls,O,h=>by
  show d.toNat∈ls.foldl (vis T c) (vis T c O a)
  rcases List.mem_cons.mp h with q | q
  · obtain ⟨r,e'⟩:=fold_pre (T:=T) (c:=c) ls (vis T c O a)
    rw [e']
    exact List.mem_append_left _ (q▸vis_mem e)
  · exact fold_mem e ls _ q
structure OInv (n:Nat) (O:List Nat):Prop where
 nd:O.Nodup
 lt:∀ c∈O,c < n
theorem OInv.vis {k n:Nat}{T:Tab} (ok:TabOk k n T) {c:Nat}{O:List Nat}{l:Int} (h:OInv n O):OInv n (vis T c O l):=by
 unfold My.vis
 split
 · exact h
 · rename_i d e
   have:=sgo_lt ok e
   split
   · exact h
   · rename_i q
     refine ⟨nd_snoc h.nd q,fun x hx=>?_⟩
     rcases List.mem_append.mp hx with z | z
     · exact h.lt x z
     · rw [List.mem_singleton.mp z];omega
theorem OInv.fold {k n:Nat}{T:Tab} (ok:TabOk k n T) {c:Nat}:∀ (ls:List Int) {O:List Nat},OInv n O→OInv n (ls.foldl (My.vis T c) O)
 | [],_,h=>h
 | l::ls,O,h=>OInv.fold ok ls (h.vis ok)
theorem OInv.len {n:Nat}{O:List Nat} (h:OInv n O):O.length≤n:=by
 have gen:∀ (n:Nat) (O:List Nat),O.Nodup→(∀ c∈O,c < n)→O.length≤n:=by
  intro n
  induction n with
  | zero=>
   intro O _ h
   cases O with
   | nil=>exact Nat.le_refl _
   | cons a _=>exact absurd (h a (List.mem_cons_self ..)) (by omega)
  | succ n ih=>
   intro O nd h
   have h1:=ih (O.erase n) (nd.erase n) fun c hc=>by
    have:=h c (List.mem_of_mem_erase hc)
    have ne:c≠n:=(nd.mem_erase_iff.mp hc).1
    omega
   rw [List.length_erase] at h1
   split at h1 <;> omega
 exact gen n O h.nd h.lt
theorem met_inv {k n base:Nat}{T:Tab} (ok:TabOk k n T) (hb:base < n):OInv n (met T k n base)∧base∈met T k n base∧(∀ c∈met T k n base,∀ l,Let k l→∀ d,sgo T c l=some d→d.toNat∈met T k n base):=by
 have:=bfs_inv (T:=T) (k:=k) (fun i O=>OInv n O∧O[0]?=some base∧∀ j,j < i→∀ c,O[j]?=some c→∀ l,Let k l→∀ d,sgo T c l=some d→d.toNat∈O) (fun i O hi ⟨h1,h2,h3⟩=>by
  obtain ⟨r,e⟩:=fold_pre (T:=T) (c:=O.getD i 0) (lets k) O
  refine ⟨h1.fold ok _,?_,fun j hj c hc l hl d hd=>?_⟩
  · unfold rowO;rw [e]
    rw [List.getElem?_append_left (List.getElem?_eq_some_iff.mp h2).1];exact h2
  · unfold rowO at hc ⊢
    by_cases z:j < i
    · rw [e] at hc ⊢
      rw [List.getElem?_append_left (by omega)] at hc
      exact List.mem_append_left _ (h3 j z c hc l hl d hd)
    · have z:j=i:=by omega
      subst z
      have ec:O.getD j 0=c:=by
       rw [e,List.getElem?_append_left hi] at hc
       rw [List.getD,hc];rfl
      rw [ec]
      exact fold_mem hd _ _ (lets_mem.mpr hl)) (n+1) 0 [base] ⟨⟨by simp,fun c hc=>by rw [List.mem_singleton.mp hc];exact hb⟩,rfl,fun j hj=>by omega⟩
 obtain ⟨i',⟨h1,h2,h3⟩,q⟩:=this
 have hl:(met T k n base).length≤i':=by
  rcases q with q | q
  · exact q
  · have:=OInv.len h1
    unfold met;omega
 refine ⟨h1,List.mem_of_getElem? h2,fun c hc=>?_⟩
 obtain ⟨j,hj,e⟩:=List.getElem_of_mem hc
 exact h3 j (by omega) c (List.getElem?_eq_some_iff.mpr ⟨hj,e⟩)
abbrev Pw:=List (Nat × List Int)
def visW (T:Tab) (p:Nat × List Int) (W:Pw) (l:Int):Pw:=match sgo T p.1 l with
 | none=>W
 | some d=>if d.toNat∈W.map (·.1) then W else W++[(d.toNat,p.2++[l])]
def rowW (T:Tab) (k:Nat) (W:Pw) (i:Nat):Pw:=(lets k).foldl (visW T (W.getD i (0,[]))) W
def bfsW (T:Tab) (k:Nat):Nat→Nat→Pw→Pw
 | 0,_,W=>W
 | f+1,i,W=>if i < W.length then bfsW T k f (i+1) (rowW T k W i) else W
def metW (T:Tab) (k n base:Nat):Pw:=bfsW T k (n+1) 0 [(base,[])]
theorem bfsW_stop {T:Tab}{k f i:Nat}{W:Pw} (h:W.length≤i):bfsW T k f i W=W:=by
 cases f with
 | zero=>rfl
 | succ f=>show (if i < W.length then _ else W)=W;rw [if_neg (by omega)]
theorem bfsW_go {T:Tab}{k f i:Nat}{W:Pw} (h:i < W.length):bfsW T k (f+1) i W=bfsW T k f (i+1) (rowW T k W i):=by
 show (if i < W.length then _ else W)=_
 rw [if_pos h]
theorem visW_map {T:Tab}{p:Nat × List Int}{W:Pw}{l:Int}:(visW T p W l).map (·.1)=vis T p.1 (W.map (·.1)) l:=by
 unfold visW vis
 split
 · rfl
 · split
   · rfl
   · rw [List.map_append];rfl
theorem foldW_map {T:Tab}{p:Nat × List Int}:∀ (ls:List Int) (W:Pw),(ls.foldl (visW T p) W).map (·.1)=ls.foldl (vis T p.1) (W.map (·.1))
 | [],_=>rfl
 | l::ls,W=>by
  show (ls.foldl (visW T p) (visW T p W l)).map (·.1)=ls.foldl (vis T p.1) (vis T p.1 (W.map (·.1)) l)
  rw [foldW_map ls,visW_map]
theorem bfsW_map {T:Tab}{k:Nat}:∀ (f i:Nat) (W:Pw),(bfsW T k f i W).map (·.1)=bfs T k f i (W.map (·.1))
 | 0,_,_=>rfl
 | f+1,i,W=>by
  by_cases h:i < W.length
  · rw [bfsW_go h,bfs_go (by rw [List.length_map];exact h),bfsW_map f]
    unfold rowW rowO
    rw [foldW_map]
    have:(W.map (·.1)).getD i 0=(W.getD i (0,[])).1:=by simp [List.getD,h]
    rw [this]
  · rw [bfsW_stop (by omega),bfs_stop (by rw [List.length_map];omega)]
theorem metW_map (T:Tab) (k n base:Nat):(metW T k n base).map (·.1)=met T k n base:=bfsW_map ..
abbrev Wy:=List (Nat × Addr × List Int)
def keys (W:Wy):List Nat:=W.map (·.1)
def dkv (W:Wy):List (Key × V):=W.map fun p=>(Sum.inl (p.1:Int),V.ref p.2.1)
def era (W:Wy):Pw:=W.map fun p=>(p.1,p.2.2)
theorem era_keys (W:Wy):(era W).map (·.1)=keys W:=by unfold era keys;rw [List.map_map];rfl
theorem dkv_none {W:Wy}{c:Nat} (h:c∉keys W):valV (dkv W) (.inl (c:Int))=none:=by
 unfold valV
 rw [Option.map_eq_none_iff,List.find?_eq_none]
 intro x hx
 obtain ⟨p,hp,rfl⟩:=List.mem_map.mp hx
 intro z
 have z:(Sum.inl (p.1:Int):Key)=.inl (c:Int):=of_decide_eq_true z
 have:=Sum.inl.inj z
 exact h (List.mem_map.mpr ⟨p,hp,by omega⟩)
theorem dkv_some {W:Wy} (nd:(keys W).Nodup) {p:Nat × Addr × List Int} (hp:p∈W):valV (dkv W) (.inl (p.1:Int))=some (.ref p.2.1):=by
 induction W with
 | nil=>cases hp
 | cons q W ih=>
  obtain ⟨n1,n2⟩:=List.nodup_cons.mp nd
  rcases List.mem_cons.mp hp with e | e
  · subst e;exact valV_pos rfl
  · have:¬ (Sum.inl (q.1:Int):Key)=.inl (p.1:Int):=fun z=>by
      have:=Sum.inl.inj z
      exact n1 (List.mem_map.mpr ⟨p,e,by show p.1=q.1;omega⟩)
    show valV ((Sum.inl (q.1:Int),V.ref q.2.1)::dkv W) _=_
    rw [valV_neg this]
    exact ih n2 e
structure WInv (T:Tab) (k n base:Nat) (W:Wy):Prop where
 nd:(keys W).Nodup
 lt:∀ p∈W,p.1 < n
 hd:∃ a,W[0]?=some (base,a,[])
 wk:∀ p∈W,wgo T (some (base:Int)) p.2.2=some (p.1:Int)
 ll:∀ p∈W,∀ l∈p.2.2,Let k l
 rd:∀ p∈W,cut p.2.2=p.2.2
 pr:∀ p∈W,p.2.2=[]∨∃ q∈W,∃ l,p.2.2=q.2.2++[l]∧sgo T q.1 l=some (p.1:Int)
 ln:∀ (j:Nat) p,W[j]?=some p→p.2.2.length≤j
theorem cut_snoc (w:List Int) (l:Int):cut (w++[l])=(push (w.foldl push []) l).reverse:=by unfold cut;rw [List.foldl_append];rfl
theorem cut_fold {w:List Int} (h:cut w=w):w.foldl push []=w.reverse:=by
 unfold cut at h
 conv=>rhs;rw [← h]
 rw [List.reverse_reverse]
theorem cut_more {w:List Int}{l:Int} (h:cut w=w) (hl:∀ u,w≠u++[-l]):cut (w++[l])=w++[l]:=by
 rw [cut_snoc,cut_fold h]
 cases e:w.reverse with
 | nil=>
  have:w=[]:=by simpa using e
  subst this;rfl
 | cons t r=>
  have hw:w=r.reverse++[t]:=by
   have:=congrArg List.reverse e
   rw [List.reverse_reverse] at this
   rw [this];simp
  have:¬ t= -l:=fun z=>hl r.reverse (by rw [hw,z])
  show (if t= -l then r else l::t::r).reverse=_
  rw [if_neg this,hw];simp
theorem WInv.zero {T:Tab}{k n base:Nat} (hb:base < n) (a:Addr):WInv T k n base [(base,a,[])]:=by
 refine ⟨by simp [keys],?_,⟨a,rfl⟩,?_,?_,?_,?_,?_⟩
 · intro p hp;rw [List.mem_singleton.mp hp];exact hb
 · intro p hp;rw [List.mem_singleton.mp hp];rfl
 · intro p hp;rw [List.mem_singleton.mp hp];intro l hl;cases hl
 · intro p hp;rw [List.mem_singleton.mp hp];rfl
 · intro p hp;rw [List.mem_singleton.mp hp];exact .inl rfl
 · intro j p hj
   have:j=0:=by
    have:=(List.getElem?_eq_some_iff.mp hj).1
    simp at this;omega
   subst this;cases hj;exact Nat.zero_le _
theorem WInv.add {T:Tab}{k n base:Nat}{W:Wy} (ok:TabOk k n T) (h:WInv T k n base W) {p:Nat × Addr × List Int} (hp:p∈W) {l d:Int} (hl:Let k l) (e:sgo T p.1 l=some d) (hn:d.toNat∉keys W) (a:Addr):
  WInv T k n base (W++[(d.toNat,a,p.2.2++[l])]):=by
 have hd:=sgo_lt ok e
 have ed:((d.toNat:Nat):Int)=d:=by omega
 have red:cut (p.2.2++[l])=p.2.2++[l]:=by
  refine cut_more (h.rd p hp) fun u hu=>?_
  rcases h.pr p hp with z | ⟨q,hq,l',e1,e2⟩
  · rw [z] at hu;simp at hu
  · rw [e1] at hu
    have:=List.append_inj' hu rfl
    have el:l'= -l:=by simpa using this.2
    subst el
    have b:=sgo_back ok (by have:=hl.1;omega) (h.lt q hq) e2
    rw [Int.neg_neg] at b
    rw [e] at b
    have:d=q.1:=Option.some.inj b
    exact hn (by rw [this,Int.toNat_natCast];exact List.mem_map.mpr ⟨q,hq,rfl⟩)
 have mem:∀ {x:Nat × Addr × List Int},x∈W++[(d.toNat,a,p.2.2++[l])]→x∈W∨x=(d.toNat,a,p.2.2++[l]):=fun hx=>(List.mem_append.mp hx).imp id List.mem_singleton.mp
 refine ⟨?_,fun x hx=>?_,?_,fun x hx=>?_,fun x hx=>?_,fun x hx=>?_,fun x hx=>?_,fun j x hj=>?_⟩
 · unfold keys;rw [List.map_append];exact nd_snoc h.nd hn
 · rcases mem hx with z | z
   · exact h.lt x z
   · rw [z];show d.toNat < n;omega
 · obtain ⟨a0,z⟩:=h.hd
   exact ⟨a0,by rw [List.getElem?_append_left (List.getElem?_eq_some_iff.mp z).1];exact z⟩
 · rcases mem hx with z | z
   · exact h.wk x z
   · rw [z]
     show wgo T _ (p.2.2++[l])=some ((d.toNat:Nat):Int)
     rw [wgo_snoc,h.wk p hp,ed]
     exact e
 · rcases mem hx with z | z
   · exact h.ll x z
   · rw [z]
     intro m hm
     rcases List.mem_append.mp hm with y | y
     · exact h.ll p hp m y
     · rw [List.mem_singleton.mp y];exact hl
 · rcases mem hx with z | z
   · exact h.rd x z
   · rw [z];exact red
 · rcases mem hx with z | z
   · rcases h.pr x z with y | ⟨q,hq,m,e1,e2⟩
     · exact .inl y
     · exact .inr ⟨q,List.mem_append_left _ hq,m,e1,e2⟩
   · rw [z]
     exact .inr ⟨p,List.mem_append_left _ hp,l,rfl,by rw [e];show some d=some ((d.toNat:Nat):Int);rw [ed]⟩
 · by_cases hj2:j < W.length
   · rw [List.getElem?_append_left hj2] at hj
     exact h.ln j x hj
   · rw [List.getElem?_append_right (by omega)] at hj
     have z:j - W.length=0:=by
      have:=(List.getElem?_eq_some_iff.mp hj).1
      simp at this;omega
     rw [z] at hj
     cases hj
     obtain ⟨i,hi,ei⟩:=List.getElem_of_mem hp
     have:=h.ln i p (by simp [← ei,hi])
     rw [List.length_append]
     simp only [List.length_cons,List.length_nil]
     omega
structure DW (H:Hp) (d:Addr) (W:Wy):Prop where
 is:H d=some (.dK (dkv W))
 wy:∀ p∈W,Ints H p.2.1 p.2.2
structure FW (H:Hp) (d:Addr) (W:Wy):Prop where
 is:∃ o,H d=some (.frz o (.dK (dkv W)))
 wy:∀ p∈W,Ints H p.2.1 p.2.2
structure WS (H0 H:Hp) (d lo:Addr) (W:Wy):Prop where
 dw:DW H d W
 io:Ints H lo ((keys W).map fun (c:Nat)=>(c:Int))
 nl:∀ p∈W,p.2.1≠lo
 fd:H0 d=none
 fl:H0 lo=none
 sm:Same H0 H
theorem WS.same {H0 H H':Hp}{d lo:Addr}{W:Wy} (h:WS H0 H d lo W) (s:Same H H'):WS H0 H' d lo W:=⟨⟨s _ _ h.dw.is,fun p hp=>s.ints (h.dw.wy p hp)⟩,s.ints h.io,h.nl,h.fd,h.fl,h.sm.trans s⟩
theorem WS.ne {H0 H:Hp}{d lo:Addr}{W:Wy} (h:WS H0 H d lo W):d≠lo:=fun z=>by
 have:=h.io
 rw [← z] at this
 have e:=h.dw.is
 rw [show H d=_ from this] at e;cases e
theorem WS.add {H0 H H':Hp}{d lo a:Addr}{W:Wy}{c:Nat}{w:List Int} (h:WS H0 H d lo W) (s:Same H H') (ha:H a=none) (ia:Ints H' a w) (hc:c∉keys W):
  WS H0 (upd (upd H' d (.dK (putK (dkv W) (.inl (c:Int)) (.ref a)))) lo (.lst (((keys W).map fun (c:Nat)=>(c:Int)).map V.int++[V.int c]))) d lo (W++[(c,a,w)]):=by
 have ne:=h.ne
 have al:a≠lo:=fun z=>by rw [z,show H lo=_ from h.io] at ha;cases ha
 have ad:a≠d:=fun z=>by rw [z,h.dw.is] at ha;cases ha
 have h':=h.same s
 refine ⟨⟨?_,fun p hp=>?_⟩,?_,fun p hp=>?_,h.fd,h.fl,(h'.sm.upd h.fd).upd h.fl⟩
 · rw [upd_ne ne,upd_same,putK_new _ (dkv_none hc)]
   unfold dkv
   rw [List.map_append];rfl
 · rcases List.mem_append.mp hp with z | z
   · have n1:=h.nl p z
     have i1:=h'.dw.wy p z
     have n2:p.2.1≠d:=fun y=>by rw [y] at i1;have e:=h'.dw.is;rw [show H' d=_ from i1] at e;cases e
     exact (i1.other n2).other n1
   · rw [List.mem_singleton.mp z]
     exact (ia.other ad).other al
 · show upd _ lo _ lo=_
   rw [upd_same]
   unfold keys
   rw [List.map_append,List.map_append,List.map_append];rfl
 · rcases List.mem_append.mp hp with z | z
   · exact h.nl p z
   · rw [List.mem_singleton.mp z];exact al
def spLio (C:Addr):Sp:=fun vs H Q _=>∃ (g:Addr) (k n:Nat) (T:Tab) (fp:List Addr),vs=[.ref g]∧ChAt C H g k n T fp∧∀ (l:Addr) (H':Hp),H l=none→Ints H' l (lets k)→Same H H'→Q (.ref l) H'
def spWays (C:Addr):Sp:=fun vs H Q _=>∃ (g:Addr) (k n:Nat) (T:Tab) (fp:List Addr) (b:Nat),vs=[.ref g,.int b]∧ChAt C H g k n T fp∧b < n∧
 ∀ (d:Addr) (W:Wy) (H':Hp),H d=none→FW H' d W→WInv T k n b W→era W=metW T k n b→Same H H'→Q (.ref d) H'
end My
namespace L2
open PySem PySem.Spec PyProof.Rows
end L2
namespace My
open PySem L2
theorem lets_at {k m:Nat} (h:m < 2 * k):(lets k)[m]?=some (((m:Int) / 2+1) * (1 - 2 * ((m:Int) % 2))):=by
 unfold lets
 induction k with
 | zero=>omega
 | succ k ih=>
  rw [List.range_succ,List.flatMap_append]
  have hl:((List.range k).flatMap fun (i:Nat)=>[1+(i:Int), -(1+(i:Int))]).length=2 * k:=lets_len k
  by_cases hm:m < 2 * k
  · rw [List.getElem?_append_left (by rw [hl];exact hm)]
    exact ih hm
  · rw [List.getElem?_append_right (by rw [hl];omega),hl]
    have:m=2 * k∨m=2 * k+1:=by omega
    rcases this with e | e
    · subst e
      have h1:((2 * k:Nat):Int) / 2=k:=by omega
      have h2:((2 * k:Nat):Int) % 2=0:=by omega
      rw [h1,h2,Nat.sub_self]
      simp;omega
    · subst e
      have h1:((2 * k+1:Nat):Int) / 2=k:=by omega
      have h2:((2 * k+1:Nat):Int) % 2=1:=by omega
      rw [h1,h2,show 2 * k+1 - 2 * k=1 by omega]
      simp;omega
theorem flat_ints (ns:List Int):(ns.map V.int).all flatV=true:=by
 rw [List.all_eq_true]
 intro x hx
 obtain ⟨z,_,rfl⟩:=List.mem_map.mp hx
 rfl
theorem letter_Let {k:Nat} (h:1≤k) (d:Int):Let k (letterOf k d):=by
 unfold Let letterOf
 have a0:=Int.emod_nonneg d (show (2 * (k:Int))≠0 by omega)
 have a1:=Int.emod_lt_of_pos d (show (0:Int) < 2 * k by omega)
 generalize d % (2 * (k:Int))=x at a0 a1
 have b:d % 2=0∨d % 2=1:=by omega
 rcases b with b | b <;> rw [b] <;> omega
theorem way_Let {k:Nat} (h:1≤k) (ds:List Int):∀ l∈ds.map (letterOf k),Let k l:=fun l hl=>by
 obtain ⟨d,_,rfl⟩:=List.mem_map.mp hl
 exact letter_Let h d
theorem rd_eqT {K:PySem.W.Frag}{H:Hp}{x y:Addr}{as bs:List Addr}{T:Tab}{Q:VK} (hx:Tb H x as T) (hy:Tb H y bs T) (h:Q (.bl true) H):Wr (rEqD K (.ref x) (.ref y) H Q):=by
 refine ⟨⟨_,_,hx.dt,hy.dt,(lay_dTab T).1,(lay_dTab T).1,(lay_dTab T).2,?_⟩⟩
 rw [PyProof.Rows.same_refl]
 exact h
section
variable {T:Tab}{k n:Nat}
end
section
variable {T:Tab}{k n:Nat}
end
def spRound:Sp:=fun vs H Q _=>∃ (t:Addr) (as:List Addr) (T:Tab) (k n c:Nat) (da:Addr) (ds:List Int),vs=[.ref t,.int k,.int c,.ref da]∧Tb H t as T∧TabOk k n T∧1≤k∧k≤5∧n≤1000∧c < n∧Ints H da ds∧ds.length≤1000∧
 ∀ (q lw:Addr) (ws:List Int) (d:Nat) (H':Hp),H q=none→H lw=none→H' q=some (.tup [.ref lw,.int d])→Ints H' lw ws→(∀ l∈ws,Let k l)→wgo T (some (c:Int)) ws=some (d:Int)→d < n→ws.length≤ds.length→Same H H'→Q (.ref q) H'
end My
namespace L2
open PySem PySem.Spec PyProof.Rows PySem.W
section
variable {X:Cx}
def rListF (xs:List V) (H:Hp) (Q:VK):Prop:=∃ (d:Addr) (o:Obj) (kvs:List (Key × V)),xs=[.ref d]∧H d=some (.frz o (.dK kvs))∧∀ l:Addr,H l=none→Q (.ref l) (upd H l (.lst (kvs.map fun p=>kV p.1)))
theorem call_listF (hc:X.calm=true):CallR X (.type "list") (fun xs H Q=>Wr (rListF xs H Q)):=by
 intro pins s σ H xs us Q I r h
 obtain ⟨d,o,kvs,rfl,hd,q⟩:=h.get
 obtain ⟨u,rfl,ru⟩:=r.one
 cases ru
 obtain ⟨ho0,z,ns0,vs0,kv0,dd0⟩:=(show ObjOk X.prog X.w H s.heap d (.frz o (.dK kvs)) from I.hok d _ hd)
 obtain ⟨ns,ho,vs,kv,hl',o',es',ep',ho',r1,r2,r3⟩:=frz_dict I.hok hd
 rw [ho] at ho';cases ho'
 refine kdl_call (kdl_dict (knd:=mixKind X.prog X.w) (kvs:=vs) (ep:=ep') ns) (I.ok.hd hc) ⟨o,es',ho,r1,r2,r3⟩ (by rw [hl'];exact z) fun h' tk acc c hk hS hacc=>?_
 refine ⟨.ref s.heap.objs.size,_,I.laid (t':=tk) (o:=.lst (kvs.map fun p=>kV p.1)) hk (Nat.le_refl _) ?_,rfl,q _ (I.hok.fresh (Nat.le_refl _))⟩
 refine ⟨by rw [List.length_map];exact z,acc.toList,c,?_,by simpa using hS⟩
 have gen:∀ (ks:List (Key × V)) (ws:List Value),ks.length=ws.length→(∀ (i:Nat) p v,ks[i]?=some p→ws[i]?=some v→RelV (kV p.1) v)→Vals (ks.map fun p=>kV p.1) ws:=by
  intro ks
  induction ks with
  | nil=>intro ws e _;cases ws with | nil=>exact .nil | cons _ _=>simp at e
  | cons p ks ih=>
   intro ws e hr
   cases ws with
   | nil=>simp at e
   | cons v ws=>exact .cons (hr 0 p v rfl rfl) (ih ws (by simpa using e) fun i p' v' h1 h2=>hr (i+1) p' v' (by simpa using h1) (by simpa using h2))
 refine gen kvs acc.toList (by have h1:=hacc.1;simp only [Array.length_toList];omega) fun i p v h1 h2=>?_
 rw [Array.getElem?_toList] at h2
 obtain ⟨k,x,e1,e2⟩:=hacc.2 i v h2
 obtain ⟨q',e3,e4⟩:=kv.get h1
 rw [e1] at e3
 cases e3
 rw [e4]
 exact rel_key e2
theorem m1 {o e:Expr}{m:Str}{apos cpos:Pos} (h1:attributeBase o m X.env (eval o X.env)=eval o X.env:=by rfl)
  (h2:((backTo cpos (starEach [e] X.env)).all (fun x=> !x.1) && (backToKw cpos (keywordEach [] X.env)).all (fun x=>x.1.isSome)
  && decide (([e]:List Expr).length+([]:List Keyword).length+(if ([]:List Keyword).isEmpty then 0 else 1) < 30))=true:=by rfl)
  (h3:(apos.endLine == cpos.line)=true:=by rfl) (h4:backTo cpos (starEach [e] X.env)=[(false,eval e X.env)]:=by rfl):M1 X o m apos e cpos:=⟨h1,h2,h3,h4⟩
end
theorem dcomp_enumK {K:PySem.W.Frag}{a:Addr}{xs:List V}{n:Nat}{gT:TG}{tk tv:TE}{H:Hp}{Q:VK} (Pv:Nat→List (Key × V)→Prop) (h0:Pv 0 []) (hrd:∀ H',(∀ b o,H b=some o→H' b=some o)→SqL K H' a xs)
  (hs:∀ i x H1 D kvs t,xs[i]?=some x→H1 t=none→(∀ b o,H b=some o→H1 b=some o)→H D=none→H1 D=some (.dK kvs)→Pv i kvs→∀ nb:St,nb.length=n→∀ F:V→V→Hp→Prop,(∀ y yv H5 kvs' H6,DPut H5 D y yv H6→(∀ b o,H b=some o→H6 b=some o)→H6 D=some (.dK kvs')→Pv (i+1) kvs'→F y yv H5)→
   gT (.ref t) nb (upd H1 t (.tup [.int i,x])) fun σ2 H3=>tk σ2 H3 fun y H4=>tv σ2 H4 fun yv H5=>F y yv H5)
  (hd:∀ D H' kvs,H D=none→H' D=some (.dK kvs)→Pv xs.length kvs→(∀ b o,H b=some o→H' b=some o)→Q (.ref D) H'):Wr (rDCompG (Ite K a) n gT tk tv H Q):=by
 refine ⟨fun D hD=>⟨.dK [],fun i m H1=>m=xs.length - i∧i≤xs.length∧(∀ b o,H b=some o→H1 b=some o)∧∃ kvs,H1 D=some (.dK kvs)∧Pv i kvs,.inl rfl,⟨xs.length,by simp,Nat.zero_le _,fun b o e=>?_,[],upd_same,h0⟩,?_⟩⟩
 · rw [upd_ne (fun z=>by rw [z,hD] at e;cases e)];exact e
 · rintro i m H1 ⟨rfl,hi,sm,kvs,eD,pv⟩
   have q:=hrd H1 sm
   by_cases hlt:i < xs.length
   · refine .inr ⟨⟨xs,xs[i],q,by simp [hlt]⟩,fun x H' y nb hnb=>?_⟩
     obtain ⟨t,y,ht,rfl,rfl,hy⟩:=y
     exact hs i y H1 D kvs t (hy xs q) ht sm hD eD pv nb hnb (fun y yv H5=>∃ H6,DPut H5 D y yv H6∧∃ m',m' < xs.length - i∧m'=xs.length - (i+1)∧i+1≤xs.length∧(∀ b o,H b=some o→H6 b=some o)∧∃ kvs,H6 D=some (.dK kvs)∧Pv (i+1) kvs) fun y yv H5 kvs' H6 p6 s6 e6 pv6=>⟨H6,p6,xs.length - (i+1),by omega,rfl,hlt,s6,kvs',e6,pv6⟩
   · have e:i=xs.length:=by omega
     subst e
     exact .inl ⟨⟨xs,q,Nat.le_refl _⟩,hd D H1 kvs hD eD pv sm⟩
end L2
namespace My
open PySem L2
def rn (ord:List Nat) (o:Option Int):Option Int:=o.bind fun e=>if e.toNat∈ord then some ((ord.idxOf e.toNat:Nat):Int) else none
def renT (T:Tab) (ord:List Nat):Tab:=ord.map fun c=>(T.getD c []).map (rn ord)
theorem renT_cell {T:Tab}{ord:List Nat} (i j:Nat) (hi:i < ord.length):cell (renT T ord) i j=rn ord (cell T ord[i] j):=by
 have e:(renT T ord).getD i []=(T.getD ord[i] []).map (rn ord):=by
  simp [renT,List.getD,hi]
 unfold cell
 rw [e]
 generalize T.getD ord[i] []=r
 simp only [List.getD,List.getElem?_map]
 cases r[j]? <;> rfl
theorem renT_out {T:Tab}{ord:List Nat} (i j:Nat) (hi:¬ i < ord.length):cell (renT T ord) i j=none:=by
 have e:(renT T ord).getD i []=[]:=by
  simp [renT,List.getD,List.getElem?_eq_none (Nat.le_of_not_lt hi)]
 unfold cell
 rw [e];rfl
theorem rn_some {ord:List Nat}{o:Option Int}{e:Int} (h:rn ord o=some e):∃ a,o=some a∧a.toNat∈ord∧e=((ord.idxOf a.toNat:Nat):Int):=by
 unfold rn at h
 cases o with
 | none=>cases h
 | some a=>
  have h:(if a.toNat∈ord then some ((ord.idxOf a.toNat:Nat):Int) else none)=some e:=h
  split at h
  · rename_i m;exact ⟨a,rfl,m,(Option.some.inj h).symm⟩
  · cases h
theorem renT_ok {k n:Nat}{T:Tab} (ok:TabOk k n T) {ord:List Nat} (nd:ord.Nodup) (lt:∀ c∈ord,c < n):TabOk k ord.length (renT T ord) where
 len:=by simp [renT]
 row:=fun r hr=>by
  obtain ⟨c,hc,rfl⟩:=List.mem_map.mp hr
  rw [List.length_map]
  have:c < T.length:=by rw [ok.len];exact lt c hc
  rw [List.getD,List.getElem?_eq_getElem this]
  exact ok.row _ (List.getElem_mem this)
 rng:=fun c j e he=>by
  by_cases hc:c < ord.length
  · rw [renT_cell c j hc] at he
    obtain ⟨a,_,m,rfl⟩:=rn_some he
    have:=List.idxOf_lt_length_iff.mpr m
    exact ⟨by omega,by omega⟩
  · rw [renT_out c j hc] at he;cases he
 inj:=fun c d j e h1 h2=>by
  by_cases hc:c < ord.length
  · by_cases hd:d < ord.length
    · rw [renT_cell c j hc] at h1
      rw [renT_cell d j hd] at h2
      obtain ⟨a,ea,ma,e1⟩:=rn_some h1
      obtain ⟨b,eb,mb,e2⟩:=rn_some h2
      have ei:ord.idxOf a.toNat=ord.idxOf b.toNat:=by omega
      have ga:=List.getElem_idxOf (List.idxOf_lt_length_iff.mpr ma)
      have gb:=List.getElem_idxOf (List.idxOf_lt_length_iff.mpr mb)
      have et:a.toNat=b.toNat:=by
       rw [← ga, ← gb];simp only [ei]
      have ra:=ok.rng _ _ _ ea
      have rb:=ok.rng _ _ _ eb
      have eab:a=b:=by omega
      subst eab
      exact (List.getElem_inj nd).mp (ok.inj _ _ _ _ ea eb)
    · rw [renT_out d j hd] at h2;cases h2
  · rw [renT_out c j hc] at h1;cases h1
def numKV (ord:List Nat):List (Key × V):=ord.zipIdx.map fun p=>(Sum.inl (p.1:Int),V.int (p.2:Int))
theorem numKV_snoc (ord:List Nat) (c:Nat):numKV (ord++[c])=numKV ord++[(Sum.inl (c:Int),V.int (ord.length:Int))]:=by
 unfold numKV
 rw [List.zipIdx_append]
 simp
theorem numKV_len (ord:List Nat):(numKV ord).length=ord.length:=by simp [numKV]
theorem numKV_val:∀ (ord:List Nat) (c:Nat),valV (numKV ord) (.inl (c:Int))=if c∈ord then some (V.int ((ord.idxOf c:Nat):Int)) else none:=by
 intro ord
 have gen:∀ (l:List Nat) (m:Nat) (c:Nat),valV (l.zipIdx m |>.map fun p=>((Sum.inl (p.1:Int):Key),V.int (p.2:Int))) (.inl (c:Int))=if c∈l then some (V.int ((m+l.idxOf c:Nat):Int)) else none:=by
  intro l
  induction l with
  | nil=>intro m c;rfl
  | cons x r ih=>
   intro m c
   rw [List.zipIdx_cons,List.map_cons]
   by_cases e:x=c
   · subst e
     simp [valV]
   · have ne:¬ ((Sum.inl (x:Int):Key)=Sum.inl (c:Int)):=fun z=>e (by have:=Sum.inl.inj z;omega)
     have:=ih (m+1) c
     unfold valV at this ⊢
     rw [List.find?_cons_of_neg (by simpa using ne),this]
     by_cases mc:c∈r
     · rw [if_pos mc,if_pos (List.mem_cons_of_mem _ mc),List.idxOf_cons]
       have:(x == c)=false:=by simpa using e
       rw [this]
       simp only [cond_false]
       congr 3
       omega
     · rw [if_neg mc,if_neg (fun z=>(List.mem_cons.mp z).elim (fun q=>e q.symm) mc)]
 intro c
 have:=gen ord 0 c
 rw [Nat.zero_add] at this
 exact this
theorem numKV_non (ord:List Nat):valV (numKV ord) (.inr none)=none:=by
 unfold valV numKV
 rw [Option.map_eq_none_iff,List.find?_eq_none]
 intro x hx
 obtain ⟨p,_,rfl⟩:=List.mem_map.mp hx
 simp
theorem numKV_fresh {ord:List Nat}{c:Nat} (h:c∉ord):putK (numKV ord) (.inl (c:Int)) (V.int (ord.length:Int))=numKV (ord++[c]):=by
 rw [numKV_snoc]
 exact putK_new _ (by rw [numKV_val,if_neg h])
def spRen (C:Addr):Sp:=fun vs H Q _=>∃ (g la:Addr) (k n:Nat) (T:Tab) (fp:List Addr) (ord:List Nat),vs=[.ref g,.ref la]∧ChAt C H g k n T fp∧Ints H la (ord.map fun (c:Nat)=>(c:Int))∧ord.Nodup∧(∀ c∈ord,c < n)∧ord≠[]∧
 ∀ (x:Addr) (fq:List Addr) (H':Hp),H x=none→(∀ a∈fq,H a=none)→ChAt C H' x k ord.length (renT T ord) fq→Same H H'→Q (.ref x) H'
def spNbrX (C cN:Addr):Sp:=fun vs H Q E=>∃ (g:Addr) (k n:Nat) (T:Tab) (fp:List Addr) (b:Int),vs=[.ref g,.int b]∧ChAt C H g k n T fp∧
 (0≤b∧b < n→∀ (x:Addr) (fq:List Addr) (H':Hp),H x=none→(∀ a∈fq,H a=none)→ChAt C H' x k (met T k n b.toNat).length (renT T (met T k n b.toNat)) fq→Same H H'→Q (.ref x) H')∧
 (¬ (0≤b∧b < n)→E (.ref cN) none H)
def mx (l:List Int):Int:=l.foldl max 0
theorem foldl_max (l:List Int):∀ a:Int,a≤l.foldl max a∧(∀ i∈l,i≤l.foldl max a)∧(l.foldl max a=a∨l.foldl max a∈l):=by
 induction l with
 | nil=>exact fun a=>⟨Int.le_refl _,(fun _ z=>nomatch z),.inl rfl⟩
 | cons x l ih=>
  intro a
  obtain ⟨h1,h2,h3⟩:=ih (max a x)
  refine ⟨by show a≤l.foldl max (max a x);omega,fun i hi=>?_,?_⟩
  · show i≤l.foldl max (max a x)
    rcases List.mem_cons.mp hi with z | z
    · omega
    · exact h2 i z
  · show l.foldl max (max a x)=a∨l.foldl max (max a x)∈x::l
    rcases h3 with z | z
    · rw [z]
      rcases Int.le_total a x with w | w
      · rw [show max a x=x by omega];exact .inr (List.mem_cons_self ..)
      · exact .inl (by omega)
    · exact .inr (List.mem_cons_of_mem _ z)
theorem mx_ge {l:List Int}{i:Int} (h:i∈l):i≤mx l:=(foldl_max l 0).2.1 i h
theorem mx_nn (l:List Int):0≤mx l:=(foldl_max l 0).1
theorem mx_of {l:List Int}:mx l=0∨mx l∈l:=(foldl_max l 0).2.2
theorem mx_is {l:List Int}{m:Int} (h0:0≤m) (hm:m=0∨m∈l) (hl:∀ i∈l,i≤m):m=mx l:=by
 have:=mx_nn l
 rcases hm with z | z
 · rcases mx_of (l:=l) with w | w
   · omega
   · have:=hl _ w;omega
 · have:=mx_ge z
   rcases mx_of (l:=l) with w | w
   · omega
   · have:=hl _ w;omega
def nC (l:List Int):Nat:=(mx l).toNat+1
theorem nC_int (l:List Int):((nC l:Nat):Int)=mx l+1:=by
 have:=mx_nn l
 unfold nC;omega
theorem knw_sub (l k:List Int):∀ x∈l.foldl (fun k x=>if x∈k then k else k++[x]) k,x∈k∨x∈l:=by
 induction l generalizing k with
 | nil=>exact fun x h=>.inl h
 | cons y l ih=>
  intro x hx
  rcases ih _ x hx with z | z
  · dsimp only at z
    split at z
    · exact .inl z
    · rcases List.mem_append.mp z with w | w
      · exact .inl w
      · rw [List.mem_singleton.mp w];exact .inr (List.mem_cons_self ..)
  · exact .inr (List.mem_cons_of_mem _ z)
theorem rk_rng {l:List Int}{x:Int} (h:x∈rk l):0≤x∧x < (knw l).length:=by
 obtain ⟨y,hy,rfl⟩:=List.mem_map.mp h
 have:=List.idxOf_lt_length_of_mem (knw_mem l [] y hy)
 have:(knw l).idxOf y < (knw l).length:=this
 omega
theorem rk_lt {l:List Int}{x:Int} (h:x∈rk l):0≤x∧x < nC (rk l):=by
 have h1:=mx_ge h
 rw [nC_int]
 exact ⟨(rk_rng h).1,by omega⟩
theorem nC_rk (l:List Int):nC (rk l)≤l.length+1:=by
 have h2:=knw_len l
 unfold nC
 rcases mx_of (l:=rk l) with z | z
 · rw [z];omega
 · have:=rk_rng z;omega
theorem nC_knw {l:List Int} (h:l≠[]):nC (rk l)=(knw l).length:=by
 have k1:∀ x∈knw l,x∈l:=fun x hx=>(knw_sub l [] x hx).elim (fun z=>nomatch z) id
 obtain ⟨y,hy⟩:∃ y,y∈l:=by
  cases l with
  | nil=>exact absurd rfl h
  | cons y l=>exact ⟨y,List.mem_cons_self ..⟩
 have pos:1≤(knw l).length:=List.length_pos_of_mem (knw_mem l [] y hy)
 have last:((knw l).length:Int) - 1=mx (rk l):=by
  refine mx_is (by omega) (.inr ?_) fun i hi=>by have:=rk_rng hi;omega
  have hl:(knw l).length - 1 < (knw l).length:=by omega
  refine List.mem_map.mpr ⟨(knw l)[(knw l).length - 1],k1 _ (List.getElem_mem hl),?_⟩
  rw [(knw_nd l).idxOf_getElem _ hl]
  omega
 unfold nC
 omega
def putR (ch:List Int) (T:Tab) (r:List Int):Tab:=T.set (ch.getD (My.mk r 1) 0).toNat ((T.getD (ch.getD (My.mk r 1) 0).toNat []).set (r.getD 2 0 - 1).toNat (some (ch.getD (My.mk r (-1)) 0)))
def chT (k n:Nat) (ch:List Int) (rs:List (List Int)):Tab:=rs.foldl (putR ch) (List.replicate n (List.replicate k none))
structure ChOk (k n m:Nat) (ch:List Int) (rs:List (List Int)):Prop where
 len:ch.length=m
 rng:∀ x∈ch,0≤x∧x < n
 row:∀ r∈rs,RowOk m r∧1≤r.getD 2 0∧r.getD 2 0≤k
 cl:closed rs ch
theorem ChOk.at {k n m:Nat}{ch:List Int}{rs:List (List Int)} (h:ChOk k n m ch rs) {r:List Int} (hr:r∈rs) (s:Int):0≤ch.getD (My.mk r s) 0∧ch.getD (My.mk r s) 0 < n:=h.rng _ (getD_mem (by rw [h.len];exact ((h.row r hr).1.mk s).2))
theorem ChOk.part {k n m:Nat}{ch:List Int}{rs rs':List (List Int)} (h:ChOk k n m ch rs) (s:∀ r∈rs',r∈rs):ChOk k n m ch rs':=⟨h.len,h.rng,fun r hr=>h.row r (s r hr),fun p hp q hq=>h.cl p (s p hp) q (s q hq)⟩
structure ChT (k n:Nat) (ch:List Int) (rs:List (List Int)) (T:Tab):Prop where
 len:T.length=n
 row:∀ r∈T,r.length=k
 cel:∀ c j e,cell T c j=some e↔∃ r∈rs,ch.getD (My.mk r 1) 0=(c:Nat)∧r.getD 2 0=(j:Nat)+1∧e=ch.getD (My.mk r (-1)) 0
theorem ChT.nil (k n:Nat) (ch:List Int):ChT k n ch [] (List.replicate n (List.replicate k none)):=by
 refine ⟨by simp,fun r hr=>by rw [(List.mem_replicate.mp hr).2];simp,fun c j e=>⟨fun h=>?_,fun ⟨_,z,_⟩=>nomatch z⟩⟩
 have:cell (List.replicate n (List.replicate k none)) c j=none:=by
  unfold cell
  simp only [List.getD,List.getElem?_replicate]
  by_cases z:c < n
  · rw [if_pos z]
    show (List.replicate k none)[j]?.getD none=none
    rw [List.getElem?_replicate]
    split <;> rfl
  · rw [if_neg z];rfl
 rw [this] at h;cases h
theorem ChT.put {k n m:Nat}{ch:List Int}{rs:List (List Int)}{r:List Int}{T:Tab} (h:ChT k n ch rs T) (ok:ChOk k n m ch (rs++[r])):ChT k n ch (rs++[r]) (putR ch T r):=by
 have mr:r∈rs++[r]:=List.mem_append_right _ (List.mem_singleton.mpr rfl)
 obtain ⟨a0,a1⟩:=ok.at mr 1
 obtain ⟨_,k1,k2⟩:=ok.row r mr
 have hc:(ch.getD (My.mk r 1) 0).toNat < T.length:=by rw [h.len];omega
 have rl:(T.getD (ch.getD (My.mk r 1) 0).toNat []).length=k:=h.row _ (by rw [List.getD,List.getElem?_eq_getElem hc];exact List.getElem_mem hc)
 refine ⟨by unfold putR;rw [List.length_set];exact h.len,fun x hx=>?_,fun c j e=>?_⟩
 · rcases List.mem_or_eq_of_mem_set hx with z | z
   · exact h.row x z
   · rw [z,List.length_set];exact rl
 · have ce:cell (putR ch T r) c j=if c=(ch.getD (My.mk r 1) 0).toNat∧j=(r.getD 2 0 - 1).toNat then some (ch.getD (My.mk r (-1)) 0) else cell T c j:=by
     unfold putR
     rw [cell_set hc]
     by_cases z:c=(ch.getD (My.mk r 1) 0).toNat
     · rw [if_pos z]
       by_cases y:j=(r.getD 2 0 - 1).toNat
       · rw [if_pos ⟨z,y⟩,y,List.getD,List.getElem?_set_self (by rw [rl];omega)];rfl
       · rw [if_neg (fun w=>y w.2),List.getD,List.getElem?_set_ne (Ne.symm y),z];rfl
     · rw [if_neg z,if_neg (fun w=>z w.1)]
   rw [ce]
   by_cases z:c=(ch.getD (My.mk r 1) 0).toNat∧j=(r.getD 2 0 - 1).toNat
   · rw [if_pos z]
     constructor
     · intro w
       exact ⟨r,mr,by omega,by omega,(Option.some.inj w).symm⟩
     · rintro ⟨q,hq,q1,q2,rfl⟩
       have:=ok.cl r mr q hq (by omega) 1 (.inl rfl) (by omega)
       rw [this]
   · rw [if_neg z,h.cel]
     constructor
     · rintro ⟨q,hq,q1,q2,q3⟩
       exact ⟨q,List.mem_append_left _ hq,q1,q2,q3⟩
     · rintro ⟨q,hq,q1,q2,q3⟩
       rcases List.mem_append.mp hq with w | w
       · exact ⟨q,w,q1,q2,q3⟩
       · obtain rfl:=List.mem_singleton.mp w
         exact absurd ⟨by omega,by omega⟩ z
theorem foldl_snoc {α β:Type} (f:β→α→β) (b:β) (l:List α) (a:α):(l++[a]).foldl f b=f (l.foldl f b) a:=by rw [List.foldl_append];rfl
theorem chT_take {k n m:Nat}{ch:List Int}{rs:List (List Int)} (ok:ChOk k n m ch rs):∀ i,i≤rs.length→ChT k n ch (rs.take i) (chT k n ch (rs.take i)):=by
 intro i
 induction i with
 | zero=>intro _;rw [List.take_zero];exact ChT.nil k n ch
 | succ i ih=>
  intro hi
  have h:=ih (by omega)
  have e:rs.take (i+1)=rs.take i++[rs[i]]:=List.take_succ_eq_append_getElem (by omega)
  rw [e]
  unfold chT
  rw [foldl_snoc]
  exact h.put (ok.part fun r hr=>List.mem_of_mem_take (e▸hr))
theorem chT_is {k n m:Nat}{ch:List Int}{rs:List (List Int)} (ok:ChOk k n m ch rs):ChT k n ch rs (chT k n ch rs):=by
 have:=chT_take ok rs.length (Nat.le_refl _)
 rwa [List.take_length] at this
theorem chT_ok {k n m:Nat}{ch:List Int}{rs:List (List Int)} (ok:ChOk k n m ch rs):TabOk k n (chT k n ch rs):=by
 have h:=chT_is ok
 refine ⟨h.len,h.row,fun c j e he=>?_,fun c d j e h1 h2=>?_⟩
 · obtain ⟨r,hr,_,_,rfl⟩:=(h.cel c j e).mp he
   exact ok.at hr (-1)
 · obtain ⟨r,hr,r1,r2,r3⟩:=(h.cel c j e).mp h1
   obtain ⟨q,hq,q1,q2,q3⟩:=(h.cel d j e).mp h2
   have:ch.getD (My.mk r 1) 0=ch.getD (My.mk q 1) 0:=ok.cl r hr q hq (by omega) (-1) (.inr rfl) (by omega)
   omega
theorem rk_closed {m:Nat}{l:List Int}{rs:List (List Int)} (ll:l.length=m) (hr:∀ r∈rs,RowOk m r) (h:closed rs l):closed rs (rk l):=fun p hp q hq k s hs e=>by
 have a:=fun s=>((hr p hp).mk s).2
 have b:=fun s=>((hr q hq).mk s).2
 rw [← ll] at a b
 exact (rk_eq (a _) (b _)).mpr (h p hp q hq k s hs ((rk_eq (a s) (b s)).mp e))
theorem rk_chok {k m:Nat}{l:List Int}{rs:List (List Int)} (ll:l.length=m) (hr:∀ r∈rs,RowOk m r∧1≤r.getD 2 0∧r.getD 2 0≤k) (h:closed rs l):ChOk k (nC (rk l)) m (rk l) rs:=
 ⟨by rw [rk_len];exact ll,fun x hx=>rk_lt hx,hr,rk_closed ll (fun r h=>(hr r h).1) h⟩
theorem rowsOf_okk {k n:Nat}{es:List En} (h:∀ e∈es,EnOk k n e):∀ r∈rowsOf es,RowOk n r∧1≤r.getD 2 0∧r.getD 2 0≤k:=fun r hr=>by
 obtain ⟨i,a,kd,b,he,rfl⟩:=mem_rowsOf.mp hr
 obtain ⟨⟨a0,a1⟩,⟨k0,k1⟩,⟨b0,b1⟩⟩:=h _ he
 refine ⟨⟨i,a.toNat,kd,b.toNat,?_,by omega,by omega⟩,?_,?_⟩
 · rw [Int.toNat_of_nonneg a0,Int.toNat_of_nonneg b0]
 · exact k0
 · exact k1
noncomputable def Bk.nch (B:Bk):Nat:=nC (rk B.lab)
noncomputable def Bk.tab (B:Bk):Tab:=chT B.k B.nch (rk B.lab) (rowsOf B.es)
theorem Bk.chok {C g lh:Addr}{H:Hp}{B:Bk}{rest:List Addr} (h:BkAt C H g lh B rest):ChOk B.k B.nch B.n (rk B.lab) (rowsOf B.es):=by
 have f:=fl_FL (n:=B.n) fun r hr=>(rowsOf_ok h.k5 h.ok r hr).1
 exact rk_chok f.1.lab.len (rowsOf_okk h.ok) f.2
theorem comp_nons {lo:Int}{k:Nat}{ix:List Nat}{σ:St}{H:Hp}{Q:VK} (hk:k≤1000) (h:∀ (p:Addr) (H':Hp),H p=none→Row H' p (List.replicate k none)→Same H H'→Q (.ref p) H'):Wr (rComp (Itr lo k) ix (tC V.non) σ H Q):=by
 refine ⟨comp_range fun D hD=>⟨fun i ys H2=>ys=(List.replicate i (none:Option Int)).map oV∧H2 D=some (.lst ys)∧Same H H2∧i≤k,⟨rfl,upd_same,(Same.refl H).upd hD,Nat.zero_le _⟩,?_,?_,?_⟩⟩
 · rintro i ys H2 ⟨rfl,h1,s,hi⟩
   exact ⟨h1,small4k (by simp;omega)⟩
 · rintro i ys H2 hi ⟨rfl,h1,s,_⟩ Q' q'
   refine q' _ _ h1 ⟨?_,upd_same,s.upd hD,hi⟩
   rw [List.replicate_succ',List.map_append];rfl
 · rintro ys H2 ⟨rfl,h1,s,_⟩
   exact h D H2 hD h1 s
def spChartOf (C:Addr):Sp:=fun vs H Q _=>∃ (k m:Nat) (lc lr:Addr) (ch:List Int) (ps:Ps),vs=[.int k,.ref lc,.ref lr]∧Ints H lc ch∧Tl H lr ps∧1≤k∧k≤5∧ChOk k (nC ch) m ch (ps.map (·.2))∧nC ch≤700∧m≤1000∧
 ∀ (g:Addr) (fq:List Addr) (H':Hp),H g=none→(∀ a∈fq,H a=none)→ChAt C H' g k (nC ch) (chT k (nC ch) ch (ps.map (·.2))) fq→Same H H'→Q (.ref g) H'
def spPieceX (C Cc cM:Addr):Sp:=fun vs H Q E=>∃ (g lh:Addr) (B:Bk) (rest:List Addr) (a:Int),vs=[.ref g,.int a]∧BkAt C H g lh B rest∧
 (InM B.n a→∀ (x:Addr) (fq:List Addr) (H':Hp),H x=none→(∀ b∈fq,H b=none)→ChAt Cc H' x B.k (met B.tab B.k B.nch ((rk B.lab).getD a.toNat 0).toNat).length (renT B.tab (met B.tab B.k B.nch ((rk B.lab).getD a.toNat 0).toNat)) fq→Same H H'→Q (.ref x) H')∧
 (¬ InM B.n a→∀ H',Same H H'→E (.ref cM) none H')
def spLChart:Sp:=fun vs H Q _=>∃ (k m:Nat) (lr:Addr) (ps:Ps),vs=[.int k,.int m,.ref lr]∧Tl H lr ps∧(∀ p∈ps,RowOk m p.2∧1≤p.2.getD 2 0∧p.2.getD 2 0≤k)∧k≤5∧1≤m∧m≤600∧ps.length≤1000∧
 ∀ (p lp t:Addr) (as:List Addr) (l:List Int) (H':Hp),H' p=some (.tup [.ref lp,.ref t])→Ints H' lp (rk l)→Tb H' t as (chT k (nC (rk l)) (rk l) (ps.map (·.2)))→FL m (ps.map (·.2)) [] l→Same H H'→Q (.ref p) H'
structure TxtJ (mg:Str→Option Value):Prop where
 must:∃ t,mg "MUST"=some (.str "must" t)
 never:∃ t,mg "NEVER"=some (.str "never" t)
 opn:∃ t,mg "OPEN"=some (.str "open" t)
def spNeverJ (C cM cK:Addr):Sp:=fun vs H Q E=>∃ (g lh:Addr) (B:Bk) (rest:List Addr) (a b:Int) (wa:Addr) (ws:List Int),vs=[.ref g,.int a,.ref wa,.int b]∧BkAt C H g lh B rest∧Ints H wa ws∧ws.length≤600∧
 (InM B.n a∧InM B.n b→(∀ l∈ws,Let B.k l)→NevP B.es a ws b→∀ (t:Addr) (H':Hp),Same H H'→Q (.ref t) H')∧
 (InM B.n a∧InM B.n b→(∀ l∈ws,Let B.k l)→¬ NevP B.es a ws b→∀ H',Same H H'→Q .non H')∧
 (¬ (InM B.n a∧InM B.n b)→∀ H',Same H H'→E (.ref cM) none H')∧(InM B.n a∧InM B.n b→¬ (∀ l∈ws,Let B.k l)→∀ H',Same H H'→E (.ref cK) none H')
def spJudge (C cM cK:Addr):Sp:=fun vs H Q E=>∃ (g lh:Addr) (B:Bk) (rest:List Addr) (a b:Int) (wa:Addr) (ws:List Int),vs=[.ref g,.int a,.ref wa,.int b]∧BkAt C H g lh B rest∧Ints H wa ws∧ws.length≤600∧
 (InM B.n a∧InM B.n b→(∀ l∈ws,Let B.k l)→∀ H',Same H H'→Q (.str (wordOf B.es a ws b)) H')∧
 (¬ (InM B.n a∧InM B.n b)→∀ H',Same H H'→E (.ref cM) none H')∧(InM B.n a∧InM B.n b→¬ (∀ l∈ws,Let B.k l)→∀ H',Same H H'→E (.ref cK) none H')
theorem lets_nz {k:Nat}{ws:List Int} (h:∀ l∈ws,Let k l):∀ l∈ws,l≠0:=fun l hl=>(h l hl).1
theorem Bk.rok {C g lh:Addr}{H:Hp}{B:Bk}{rest:List Addr} (h:BkAt C H g lh B rest):∀ r∈rowsOf B.es,RowOk B.n r:=fun r hr=>(rowsOf_ok h.k5 h.ok r hr).1
theorem tlab_FL {C g lh:Addr}{H:Hp}{B:Bk}{rest:List Addr}{a:Int}{ws:List Int} (h:BkAt C H g lh B rest) (ha:InM B.n a) (hl:∀ l∈ws,Let B.k l):FL (B.n+ws.length) (rowsOf B.es++trailR B.n a ws) [] (B.tlab a ws):=fl_FL fun r hr=>by
 rcases List.mem_append.mp hr with z | z
 · exact row_more (Bk.rok h r z) (Nat.le_add_right _ _)
 · exact (trailR_ok ha h.k5 hl r z).1
theorem tlab_must {C g lh:Addr}{H:Hp}{B:Bk}{rest:List Addr}{a b:Int}{ws:List Int} (h:BkAt C H g lh B rest) (ha:InM B.n a) (hb:InM B.n b) (hl:∀ l∈ws,Let B.k l):(B.tlab a ws).getD (hereAt B.n a ws.length).toNat 0=(B.tlab a ws).getD b.toNat 0↔MustP (rowsOf B.es) a ws b:=
 must_iff (Bk.rok h) ha hb (lets_nz hl) (tlab_FL h ha hl)
theorem rk_onto {l:List Int}{d:Nat} (hl:l≠[]) (h:d < nC (rk l)):(d:Int)∈rk l:=by
 rw [nC_knw hl] at h
 have m:(knw l)[d]∈l:=(knw_sub l [] _ (List.getElem_mem h)).elim (fun z=>nomatch z) id
 exact List.mem_map.mpr ⟨_,m,by rw [(knw_nd l).idxOf_getElem _ h]⟩
theorem rd_repI {H:Hp}{a:Addr}{ns:List Int}{k:Int}{Q:VK} (ha:Ints H a ns) (h0:0≤k) (h1:k≤1000) (hl:ns.length * k.toNat≤10000) (h:∀ (p:Addr) (H':Hp),H p=none→Ints H' p (List.replicate k.toNat ns).flatten→Same H H'→Q (.ref p) H'):Wr (rRep (.ref a) (.int k) H Q):=by
 refine ⟨⟨a,k,ns.map V.int,rfl,rfl,ha,by omega,by omega,?_,fun p hp=>?_⟩⟩
 · rw [List.length_map]
   exact Nat.le_of_lt (small4k (by omega))
 · have e:(List.replicate k.toNat (ns.map V.int)).flatten=((List.replicate k.toNat ns).flatten).map V.int:=by
     rw [List.map_flatten,List.map_replicate]
   rw [e]
   exact h p _ hp upd_same ((Same.refl H).upd hp)
theorem mem_rep {n:Nat}{ns:List Int}{x:Int} (h:x∈(List.replicate n ns).flatten):x∈ns:=by
 obtain ⟨l,h1,h2⟩:=List.mem_flatten.mp h
 rwa [(List.mem_replicate.mp h1).2] at h2
theorem let_turn {k:Nat}{ws:List Int} (h:∀ l∈ws,Let k l):∀ l∈turn ws,Let k l:=fun l hl=>by
 unfold turn at hl
 simp only [List.mem_map,List.mem_reverse] at hl
 obtain ⟨y,hy,rfl⟩:=hl
 obtain ⟨h1,h2,h3⟩:=h y hy
 exact ⟨by omega,by omega,by omega⟩
theorem let_neg {k:Nat}{l:Int} (h:Let k l):Let k (-l):=⟨by have:=h.1;omega,by have:=h.2.2;omega,by have:=h.2.1;omega⟩
theorem turn_len (ws:List Int):(turn ws).length=ws.length:=by simp [turn]
def spAsked49:Sp:=fun vs H Q _=>∃ (k n:Nat) (lr ld:Addr) (ps:Ps) (ds:List Int),vs=[.int k,.int n,.ref lr,.ref ld]∧Tl H lr ps∧(∀ p∈ps,RowOk n p.2∧1≤p.2.getD 2 0∧p.2.getD 2 0≤k)∧Ints H ld ds∧ds.length=40∧1≤k∧k≤5∧1≤n∧n≤600∧ps.length≤1000∧
 ∀ (t wa:Addr) (a b:Int) (ws:List Int) (H':Hp),H' t=some (.tup [.int a,.ref wa,.int b])→Ints H' wa ws→InM n a→InM n b→(∀ l∈ws,Let k l)→ws.length≤400→H wa=none→Same H H'→Q (.ref t) H'
theorem rows_sub {es fs:List En} (h:∀ e∈es,e∈fs):∀ r∈rowsOf es,r∈rowsOf fs:=fun r hr=>by
 obtain ⟨e,he,h1⟩:=List.mem_filterMap.mp hr
 exact List.mem_filterMap.mpr ⟨e,h e he,h1⟩
theorem cons_mo {k n:Nat}{es:List En} (ok:∀ e∈es,EnOk k n e) (k5:k≤5) (h:ConsE n es):∃ (M:Mo) (f:Nat→Int),M.Fits f (rowsOf es)∧∀ i x y,En.ap i x y∈es→f x.toNat≠f y.toNat:=by
 have hF:FL n (rowsOf es) [] (fl n (rowsOf es)):=fl_FL fun r hr=>(rowsOf_ok k5 ok r hr).1
 obtain ⟨M,hM⟩:=closed_mo hF.2
 exact ⟨M,_,hM,fun i x y m=>broken_none.mp h i x y m⟩
end My
namespace L2
open PySem PySem.Spec PyProof.Rows
section
variable {X:Cx}
end
end L2
namespace My
open PySem L2
theorem lab0_len (n:Nat):(lab0 n).length=n:=by simp [lab0]
theorem lab0_nd (n:Nat):(lab0 n).Nodup:=by
 unfold lab0
 refine List.pairwise_map.mpr ?_
 exact (List.nodup_range (n:=n)).imp fun hab z=>hab (by omega)
theorem erase_perm:∀ {l:List Int}{i:Nat} (hi:i < l.length),l.Perm (l[i]::l.eraseIdx i)
 | a::l,0,_=>.refl _
 | a::l,i+1,hi=>by
  have:=erase_perm (l:=l) (i:=i) (by simpa using hi)
  exact (this.cons a).trans (.swap ..)
structure MidP (n c:Nat) (left ends:List Int):Prop where
 len:left.length=n - c
 pm:(left++ends).Perm (lab0 n)
theorem MidP.zero (n:Nat):MidP n 0 (lab0 n) []:=⟨lab0_len n,by rw [List.append_nil]⟩
theorem MidP.step {n c i:Nat}{left ends:List Int} (h:MidP n c left ends) (hi:i < left.length):MidP n (c+1) (left.eraseIdx i) (ends++[left[i]]):=by
 refine ⟨by rw [List.length_eraseIdx_of_lt hi,h.len];omega,?_⟩
 refine List.Perm.trans ?_ h.pm
 have e:left.Perm (left[i]::left.eraseIdx i):=erase_perm hi
 refine List.Perm.trans ?_ (e.symm.append_right ends)
 rw [← List.append_assoc]
 exact List.perm_append_comm
theorem MidP.done {n:Nat}{left ends:List Int} (h:MidP n n left ends):ends.Perm (lab0 n):=by
 have:left=[]:=List.length_eq_zero_iff.mp (by have:=h.len;omega)
 have:=h.pm
 simpa [‹left=[]›] using this
structure Nms (n:Nat) (p q:Nat→Nat):Prop where
 lt:∀ x,x < n→p x < n
 lt':∀ x,x < n→q x < n
 l:∀ x,x < n→q (p x)=x
 r:∀ x,x < n→p (q x)=x
theorem Nms.symm {n:Nat}{p q:Nat→Nat} (h:Nms n p q):Nms n q p:=⟨h.lt',h.lt,h.r,h.l⟩
def renE (p:Nat→Nat):En→En
 | .row i a k b=>.row i ((p a.toNat:Nat):Int) k ((p b.toNat:Nat):Int)
 | .ap i a b=>.ap i ((p a.toNat:Nat):Int) ((p b.toNat:Nat):Int)
theorem renE_ok {k n:Nat}{p q:Nat→Nat} (P:Nms n p q) {e:En} (h:EnOk k n e):EnOk k n (renE p e):=by
 have key:∀ {a:Int},InM n a→InM n ((p a.toNat:Nat):Int):=fun {a} ⟨h0,h1⟩=>⟨by omega,by have:=P.lt a.toNat (by omega);omega⟩
 cases e with
 | row i a kd b=>exact ⟨key h.1,h.2.1,key h.2.2⟩
 | ap i a b=>exact ⟨key h.1,key h.2⟩
theorem fits_ren {M:Mo}{f:Nat→Int}{p:Nat→Nat}{es:List En}:M.Fits f (rowsOf (es.map (renE p)))↔M.Fits (fun x=>f (p x)) (rowsOf es):=by
 constructor
 · intro h r hr
   obtain ⟨i,a,k,b,m,rfl⟩:=mem_rowsOf.mp hr
   exact h [i,((p a.toNat:Nat):Int),k,((p b.toNat:Nat):Int)] (mem_rowsOf.mpr ⟨i,_,k,_,List.mem_map.mpr ⟨_,m,rfl⟩,rfl⟩)
 · intro h r hr
   obtain ⟨i,a,k,b,m,rfl⟩:=mem_rowsOf.mp hr
   obtain ⟨e,he,ee⟩:=List.mem_map.mp m
   cases e with
   | row i' a' k' b'=>
    have ee:En.row i' ((p a'.toNat:Nat):Int) k' ((p b'.toNat:Nat):Int)=En.row i a k b:=ee
    injection ee with e1 e2 e3 e4
    subst e1 e2 e3 e4
    exact h [i',a',k',b'] (mem_rowsOf.mpr ⟨i',a',k',b',he,rfl⟩)
   | ap i' a' b'=>cases ee
theorem fits_back {M:Mo}{f:Nat→Int}{n:Nat}{p q:Nat→Nat} (P:Nms n p q) {es:List En} (hr:∀ r∈rowsOf es,RowOk n r) (h:M.Fits f (rowsOf es)):M.Fits (fun y=>f (q y)) (rowsOf (es.map (renE p))):=
 fits_ren.mpr ((rows_lt hr fun x hx=>by show f (q (p x))=f x;rw [P.l x hx]).mpr h)
theorem must_ren {n:Nat}{p q:Nat→Nat} (P:Nms n p q) {es:List En} (hr:∀ r∈rowsOf es,RowOk n r) {a b:Int} (ha:InM n a) (hb:InM n b) {ws:List Int}:
  MustP (rowsOf (es.map (renE p))) ((p a.toNat:Nat):Int) ws ((p b.toNat:Nat):Int)↔MustP (rowsOf es) a ws b:=by
 obtain ⟨a0,a1⟩:=ha
 obtain ⟨b0,b1⟩:=hb
 constructor
 · intro k M f hf
   have:=k M _ (fits_back P hr hf)
   rw [Int.toNat_natCast,Int.toNat_natCast,P.l _ (by omega),P.l _ (by omega)] at this
   exact this
 · intro k M f hf
   have:=k M _ (fits_ren.mp hf)
   rw [Int.toNat_natCast,Int.toNat_natCast]
   exact this
theorem nev_ren {k n:Nat}{p q:Nat→Nat} (P:Nms n p q) {es:List En} (hr:∀ r∈rowsOf es,RowOk n r) (ok:∀ e∈es,EnOk k n e) {a b:Int} (ha:InM n a) (hb:InM n b) {ws:List Int}:
  NevP (es.map (renE p)) ((p a.toNat:Nat):Int) ws ((p b.toNat:Nat):Int)↔NevP es a ws b:=by
 obtain ⟨a0,a1⟩:=ha
 obtain ⟨b0,b1⟩:=hb
 constructor
 · rintro ⟨i,x,y,m,h⟩
   obtain ⟨e,he,ee⟩:=List.mem_map.mp m
   cases e with
   | row i' a' k' b'=>cases ee
   | ap i' a' b'=>
    have ee:En.ap i' ((p a'.toNat:Nat):Int) ((p b'.toNat:Nat):Int)=En.ap i x y:=ee
    injection ee with e1 e2 e3
    subst e1 e2 e3
    obtain ⟨⟨x0,x1⟩,⟨y0,y1⟩⟩:=ok _ he
    refine ⟨i',a',b',he,fun M f hf hw=>?_⟩
    have:=h M _ (fits_back P hr hf)
    rw [Int.toNat_natCast,Int.toNat_natCast,Int.toNat_natCast,Int.toNat_natCast,P.l _ (by omega),P.l _ (by omega),P.l _ (by omega),P.l _ (by omega)] at this
    exact this hw
 · rintro ⟨i,x,y,m,h⟩
   refine ⟨i,_,_,List.mem_map.mpr ⟨_,m,rfl⟩,fun M f hf hw=>?_⟩
   rw [Int.toNat_natCast,Int.toNat_natCast] at hw ⊢
   exact h M _ (fits_ren.mp hf) hw
theorem word_ren {k n:Nat}{p q:Nat→Nat} (P:Nms n p q) {es:List En} (hr:∀ r∈rowsOf es,RowOk n r) (ok:∀ e∈es,EnOk k n e) {a b:Int} (ha:InM n a) (hb:InM n b) {ws:List Int}:
  wordOf (es.map (renE p)) ((p a.toNat:Nat):Int) ws ((p b.toNat:Nat):Int)=wordOf es a ws b:=by
 unfold wordOf
 rw [propext (must_ren P hr ha hb),propext (nev_ren P hr ok ha hb)]
theorem lab_must {n:Nat}{rs:List (List Int)} (hr:∀ r∈rs,RowOk n r) {a b:Int} (ha:InM n a) (hb:InM n b):(fl n rs).getD a.toNat 0=(fl n rs).getD b.toNat 0↔MustP rs a [] b:=by
 obtain ⟨a0,a1⟩:=ha
 obtain ⟨b0,b1⟩:=hb
 rw [(fl_FL hr).iff (by omega) (by omega)]
 constructor
 · intro k M f hf
   exact k M f hf (fun _ z=>nomatch z)
 · intro k M f hf _
   exact k M f hf
theorem lab_ren {n:Nat}{p q:Nat→Nat} (P:Nms n p q) {es:List En} (hr:∀ r∈rowsOf es,RowOk n r) (hr':∀ r∈rowsOf (es.map (renE p)),RowOk n r) {a b:Nat} (ha:a < n) (hb:b < n):
  (fl n (rowsOf (es.map (renE p)))).getD (p a) 0=(fl n (rowsOf (es.map (renE p)))).getD (p b) 0↔(fl n (rowsOf es)).getD a 0=(fl n (rowsOf es)).getD b 0:=by
 have pa:=P.lt a ha
 have pb:=P.lt b hb
 have h1:=lab_must hr' (a:=((p a:Nat):Int)) (b:=((p b:Nat):Int)) ⟨by omega,by omega⟩ ⟨by omega,by omega⟩
 have h2:=lab_must hr (a:=((a:Nat):Int)) (b:=((b:Nat):Int)) ⟨by omega,by omega⟩ ⟨by omega,by omega⟩
 have h3:=must_ren P hr (a:=((a:Nat):Int)) (b:=((b:Nat):Int)) ⟨by omega,by omega⟩ ⟨by omega,by omega⟩ (ws:=[])
 simp only [Int.toNat_natCast] at h1 h2 h3
 exact h1.trans (h3.trans h2.symm)
theorem cons_of {k n:Nat}{es:List En} (ok:∀ e∈es,EnOk k n e) (k5:k≤5) {M:Mo}{f:Nat→Int} (hf:M.Fits f (rowsOf es)) (ho:∀ i x y,En.ap i x y∈es→f x.toNat≠f y.toNat):ConsE n es:=
 broken_none.mpr fun i x y m e=>by
  obtain ⟨hx,hy⟩:=ok _ m
  exact ho i x y m ((lab_must (fun r hr=>(rowsOf_ok k5 ok r hr).1) hx hy).mp e M f hf)
theorem cons_ren {k n:Nat}{p q:Nat→Nat} (P:Nms n p q) {es fs:List En} (ok:∀ e∈es,EnOk k n e) (k5:k≤5) (h:ConsE n es) (s:∀ e∈fs,e∈es):ConsE n (fs.map (renE p)):=by
 obtain ⟨M,f,hf,ho⟩:=cons_mo ok k5 h
 have okf:∀ e∈fs,EnOk k n e:=fun e he=>ok e (s e he)
 refine cons_of (k:=k) (fun e he=>?_) k5 (fits_back P (fun r hr=>(rowsOf_ok k5 okf r hr).1) fun r hr=>hf r (rows_sub s r hr)) fun i x y m=>?_
 · obtain ⟨e2,he2,rfl⟩:=List.mem_map.mp he
   exact renE_ok P (okf e2 he2)
 · obtain ⟨e,he,ee⟩:=List.mem_map.mp m
   cases e with
   | row i' a' k' b'=>cases ee
   | ap i' a' b'=>
    have ee:En.ap i' ((p a'.toNat:Nat):Int) ((p b'.toNat:Nat):Int)=En.ap i x y:=ee
    injection ee with e1 e2 e3
    subst e1 e2 e3
    obtain ⟨⟨x0,x1⟩,⟨y0,y1⟩⟩:=okf _ he
    rw [Int.toNat_natCast,Int.toNat_natCast,P.l _ (by omega),P.l _ (by omega)]
    exact ho _ _ _ (s _ he)
theorem not_bars {B:Bk}{e:En} (h:ConsE B.n (B.es++[e.re B.c])):¬ B.bars e:=by
 have hb:=broken_none.mp h
 cases e with
 | row i a k b=>
  intro z
  refine z (broken_none.mpr fun i' x y m e=>hb i' x y (List.mem_append_left _ m) ?_)
  have:rowsOf (B.es++[(En.row i a k b).re B.c])=rowsOf B.es++[[B.c,a,k,b]]:=by
   unfold rowsOf
   rw [List.filterMap_append];rfl
  rw [this];exact e
 | ap i a b=>
  intro z
  refine hb B.c a b (List.mem_append_right _ (List.mem_singleton.mpr rfl)) ?_
  have:rowsOf (B.es++[(En.ap i a b).re B.c])=rowsOf B.es:=by
   unfold rowsOf
   rw [List.filterMap_append];exact List.append_nil _
  rw [this];exact z
structure ChR (m:Nat) (p q:Nat→Nat) (c c':List Int):Prop where
 P:Nms m p q
 len:c.length=m
 len':c'.length=m
 eq:∀ a,a < m→∀ b,b < m→(c'.getD (p a) 0=c'.getD (p b) 0↔c.getD a 0=c.getD b 0)
 rng:∀ x∈c,0≤x∧x < nC c
 rng':∀ x∈c',0≤x∧x < nC c'
 on:∀ d,d < nC c→(d:Int)∈c
 on':∀ d,d < nC c'→(d:Int)∈c'
theorem ChR.symm {m:Nat}{p q:Nat→Nat}{c c':List Int} (h:ChR m p q c c'):ChR m q p c' c:=
 ⟨h.P.symm,h.len',h.len,fun a ha b hb=>by
  have:=h.eq (q a) (h.P.lt' a ha) (q b) (h.P.lt' b hb)
  rw [h.P.r a ha,h.P.r b hb] at this
  exact this.symm,h.rng',h.rng,h.on',h.on⟩
def Rl (m:Nat) (p:Nat→Nat) (c c':List Int) (x y:Nat):Prop:=∃ a,a < m∧c.getD a 0=(x:Int)∧c'.getD (p a) 0=(y:Int)
theorem ChR.fn {m:Nat}{p q:Nat→Nat}{c c':List Int} (h:ChR m p q c c') {x y y':Nat} (h1:Rl m p c c' x y) (h2:Rl m p c c' x y'):y=y':=by
 obtain ⟨a,ha,a1,a2⟩:=h1
 obtain ⟨b,hb,b1,b2⟩:=h2
 have:=(h.eq a ha b hb).mpr (by rw [a1,b1])
 rw [a2,b2] at this
 omega
theorem ChR.inj {m:Nat}{p q:Nat→Nat}{c c':List Int} (h:ChR m p q c c') {x x' y:Nat} (h1:Rl m p c c' x y) (h2:Rl m p c c' x' y):x=x':=by
 obtain ⟨a,ha,a1,a2⟩:=h1
 obtain ⟨b,hb,b1,b2⟩:=h2
 have:=(h.eq a ha b hb).mp (by rw [a2,b2])
 rw [a1,b1] at this
 omega
theorem ChR.rl {m:Nat}{p q:Nat→Nat}{c c':List Int} (h:ChR m p q c c') {a:Nat} (ha:a < m):Rl m p c c' (c.getD a 0).toNat (c'.getD (p a) 0).toNat:=by
 have h1:=h.rng _ (getD_mem (by rw [h.len];exact ha))
 have h2:=h.rng' _ (getD_mem (by rw [h.len'];exact h.P.lt a ha))
 exact ⟨a,ha,by omega,by omega⟩
theorem ChR.to {m:Nat}{p q:Nat→Nat}{c c':List Int} (h:ChR m p q c c') {x:Nat} (hx:x < nC c):∃ y,y < nC c'∧Rl m p c c' x y:=by
 obtain ⟨a,ha,e⟩:=List.getElem_of_mem (h.on x hx)
 have g:c.getD a 0=(x:Int):=by simp [List.getD,ha,e]
 rw [h.len] at ha
 have:=h.rl ha
 rw [g,Int.toNat_natCast] at this
 have h2:=h.rng' _ (getD_mem (by rw [h.len'];exact h.P.lt a ha))
 exact ⟨_,by omega,this⟩
theorem ChR.nle {m:Nat}{p q:Nat→Nat}{c c':List Int} (h:ChR m p q c c'):nC c≤nC c':=by
 have H:∀ x:Nat,∃ y,x < nC c→y < nC c'∧Rl m p c c' x y:=fun x=>by
  by_cases z:x < nC c
  · obtain ⟨y,hy⟩:=h.to z
    exact ⟨y,fun _=>hy⟩
  · exact ⟨0,fun w=>absurd w z⟩
 have:OInv (nC c') ((List.range (nC c)).map fun x=>Classical.choose (H x)):=by
  refine ⟨?_,fun y hy=>?_⟩
  · refine List.pairwise_map.mpr (List.Pairwise.imp_of_mem (R:=fun a b=>a≠b) (fun {a b} ha hb ne e=>ne ?_) List.nodup_range)
    have h1:=Classical.choose_spec (H a) (List.mem_range.mp ha)
    have h2:=Classical.choose_spec (H b) (List.mem_range.mp hb)
    rw [e] at h1
    exact h.inj h1.2 h2.2
  · obtain ⟨x,hx,rfl⟩:=List.mem_map.mp hy
    exact (Classical.choose_spec (H x) (List.mem_range.mp hx)).1
 have:=this.len
 simpa using this
theorem ChR.neq {m:Nat}{p q:Nat→Nat}{c c':List Int} (h:ChR m p q c c'):nC c'=nC c:=Nat.le_antisymm h.symm.nle h.nle
structure TR (R:Nat→Nat→Prop) (k:Nat) (T T':Tab):Prop where
 fn:∀ {x y y'},R x y→R x y'→y=y'
 inj:∀ {x x' y},R x y→R x' y→x=x'
 go:∀ {x y},R x y→∀ j e,cell T x j=some e→∃ e':Nat,cell T' y j=some (e':Int)∧R e.toNat e'
 og:∀ {x y},R x y→∀ j e,cell T' y j=some e→∃ e':Nat,cell T x j=some (e':Int)∧R e' e.toNat
 up:∀ {x y},R x y→∀ j d,cell T d j=some (x:Int)→∃ d',cell T' d' j=some (y:Int)∧R d d'
 pu:∀ {x y},R x y→∀ j d,cell T' d j=some (y:Int)→∃ d',cell T d' j=some (x:Int)∧R d' d
theorem TR.sgo {R:Nat→Nat→Prop}{k n n':Nat}{T T':Tab} (h:TR R k T T') (ok:TabOk k n T) (ok':TabOk k n' T') {x y:Nat} (r:R x y) {l:Int}:
  (∀ d,sgo T x l=some d→∃ e:Nat,My.sgo T' y l=some (e:Int)∧R d.toNat e)∧(My.sgo T x l=none→My.sgo T' y l=none):=by
 unfold My.sgo
 by_cases z:0 < l
 · rw [if_pos z,if_pos z]
   refine ⟨fun d hd=>h.go r _ d hd,fun hn=>?_⟩
   cases c:cell T' y (l - 1).toNat with
   | none=>rfl
   | some e=>
    obtain ⟨e',h1,_⟩:=h.og r _ e c
    rw [hn] at h1;cases h1
 · rw [if_neg z,if_neg z]
   refine ⟨fun d hd=>?_,fun hn=>?_⟩
   · obtain ⟨m,rfl,_,hc⟩:=(pre_iff ok).mp hd
     obtain ⟨d',h1,h2⟩:=h.up r _ _ hc
     exact ⟨d',(pre_iff ok').mpr ⟨d',rfl,cell_lt ok' h1,h1⟩,by rw [Int.toNat_natCast];exact h2⟩
   · cases c:pre T' (-l - 1).toNat y with
     | none=>rfl
     | some e=>
      obtain ⟨m,rfl,_,hc⟩:=(pre_iff ok').mp c
      obtain ⟨d',h1,h2⟩:=h.pu r _ _ hc
      rw [(pre_iff ok).mpr ⟨d',rfl,cell_lt ok h1,h1⟩] at hn;cases hn
def Zs (R:Nat→Nat→Prop) (O O':List Nat):Prop:=∃ zs:List (Nat × Nat),O=zs.map (·.1)∧O'=zs.map (·.2)∧∀ z∈zs,R z.1 z.2
theorem TR.vis {R:Nat→Nat→Prop}{k n n':Nat}{T T':Tab} (h:TR R k T T') (ok:TabOk k n T) (ok':TabOk k n' T') {x y:Nat} (r:R x y) {l:Int}{O O':List Nat} (z:Zs R O O'):Zs R (vis T x O l) (My.vis T' y O' l):=by
 obtain ⟨h1,h2⟩:=h.sgo ok ok' r (l:=l)
 unfold My.vis
 cases e:My.sgo T x l with
 | none=>rw [h2 e];exact z
 | some d=>
  obtain ⟨d',e',rd⟩:=h1 d e
  rw [e']
  dsimp only
  rw [Int.toNat_natCast]
  obtain ⟨zs,rfl,rfl,hz⟩:=z
  have:d.toNat∈zs.map (·.1)↔d'∈zs.map (·.2):=by
   constructor
   · intro m
     obtain ⟨w,hw,ew⟩:=List.mem_map.mp m
     have:=hz w hw
     rw [ew] at this
     exact List.mem_map.mpr ⟨w,hw,h.fn this rd⟩
   · intro m
     obtain ⟨w,hw,ew⟩:=List.mem_map.mp m
     have:=hz w hw
     rw [ew] at this
     exact List.mem_map.mpr ⟨w,hw,h.inj this rd⟩
  by_cases m:d.toNat∈zs.map (·.1)
  · rw [if_pos m,if_pos (this.mp m)]
    exact ⟨zs,rfl,rfl,hz⟩
  · rw [if_neg m,if_neg fun w=>m (this.mpr w)]
    refine ⟨zs++[(d.toNat,d')],by simp,by simp,fun w hw=>?_⟩
    rcases List.mem_append.mp hw with a | a
    · exact hz w a
    · rw [List.mem_singleton.mp a];exact rd
theorem TR.row {R:Nat→Nat→Prop}{k n n':Nat}{T T':Tab} (h:TR R k T T') (ok:TabOk k n T) (ok':TabOk k n' T') {O O':List Nat} (z:Zs R O O') {i:Nat} (hi:i < O.length):Zs R (rowO T k O i) (rowO T' k O' i):=by
 have r:R (O.getD i 0) (O'.getD i 0):=by
  obtain ⟨zs,rfl,rfl,hz⟩:=z
  rw [List.length_map] at hi
  have:=hz _ (List.getElem_mem hi)
  simpa [List.getD,hi] using this
 unfold rowO
 generalize O.getD i 0=x at r
 generalize O'.getD i 0=y at r
 have:∀ (ls:List Int) (O O':List Nat),Zs R O O'→Zs R (ls.foldl (My.vis T x) O) (ls.foldl (My.vis T' y) O'):=by
  intro ls
  induction ls with
  | nil=>exact fun _ _ z=>z
  | cons l ls ih=>exact fun O O' z=>ih _ _ (h.vis ok ok' r z)
 exact this _ _ _ z
theorem TR.bfs {R:Nat→Nat→Prop}{k n n':Nat}{T T':Tab} (h:TR R k T T') (ok:TabOk k n T) (ok':TabOk k n' T'):∀ (f i:Nat) (O O':List Nat),Zs R O O'→Zs R (bfs T k f i O) (My.bfs T' k f i O')
 | 0,_,_,_,z=>z
 | f+1,i,O,O',z=>by
  have el:O.length=O'.length:=by obtain ⟨zs,rfl,rfl,_⟩:=z;simp
  by_cases hl:i < O.length
  · rw [bfs_go hl,bfs_go (el▸hl)]
    exact h.bfs ok ok' f _ _ _ (h.row ok ok' z hl)
  · rw [bfs_stop (by omega),bfs_stop (by omega)]
    exact z
theorem map_row {r r':List (Option Int)}{g g':Option Int→Option Int} (hl:r.length=r'.length) (h:∀ j,g (r.getD j none)=g' (r'.getD j none)):r.map g=r'.map g':=
 List.ext_getElem (by simp [hl]) fun j h1 h2=>by
  rw [List.length_map] at h1 h2
  have:=h j
  simpa [List.getD,h1,h2] using this
theorem TR.idx {R:Nat→Nat→Prop}{k:Nat}{T T':Tab} (h:TR R k T T') {a b:Nat} (r:R a b):∀ zs:List (Nat × Nat),(∀ z∈zs,R z.1 z.2)→(zs.map (·.1)).idxOf a=(zs.map (·.2)).idxOf b∧(a∈zs.map (·.1)↔b∈zs.map (·.2))
 | [],_=>⟨rfl,by simp⟩
 | z::zs,hz=>by
  obtain ⟨h1,h2⟩:=h.idx r zs fun w hw=>hz w (List.mem_cons_of_mem _ hw)
  have rz:=hz z (List.mem_cons_self ..)
  have e:z.1=a↔z.2=b:=⟨fun e=>h.fn (e▸rz) r,fun e=>h.inj (e▸rz) r⟩
  rw [List.map_cons,List.map_cons,List.mem_cons,List.mem_cons,List.idxOf_cons,List.idxOf_cons,h1, ← h2]
  refine ⟨?_,by rw [eq_comm,e,eq_comm]⟩
  by_cases w:z.1=a
  · rw [beq_iff_eq.mpr w,beq_iff_eq.mpr (e.mp w)]
  · rw [beq_eq_false_iff_ne.mpr w,beq_eq_false_iff_ne.mpr fun v=>w (e.mpr v)]
theorem TR.renT {R:Nat→Nat→Prop}{k n n':Nat}{T T':Tab} (h:TR R k T T') (ok:TabOk k n T) (ok':TabOk k n' T') {O O':List Nat} (z:Zs R O O') (lt:∀ c∈O,c < n) (lt':∀ c∈O',c < n'):renT T O=My.renT T' O':=by
 obtain ⟨zs,rfl,rfl,hz⟩:=z
 unfold My.renT
 rw [List.map_map,List.map_map]
 refine List.map_congr_left fun w hw=>?_
 have r:=hz w hw
 have l1:=lt _ (List.mem_map.mpr ⟨w,hw,rfl⟩)
 have l2:=lt' _ (List.mem_map.mpr ⟨w,hw,rfl⟩)
 have rl:(T.getD w.1 []).length=k:=ok.row _ (by rw [List.getD,List.getElem?_eq_getElem (by rw [ok.len];exact l1)];exact List.getElem_mem _)
 have rl':(T'.getD w.2 []).length=k:=ok'.row _ (by rw [List.getD,List.getElem?_eq_getElem (by rw [ok'.len];exact l2)];exact List.getElem_mem _)
 refine map_row (by rw [rl,rl']) fun j=>?_
 show rn _ (cell T w.1 j)=rn _ (cell T' w.2 j)
 cases c:cell T w.1 j with
 | none=>
  cases c':cell T' w.2 j with
  | none=>rfl
  | some e=>obtain ⟨e',h1,_⟩:=h.og r _ e c';rw [c] at h1;cases h1
 | some e=>
  obtain ⟨e',h1,h2⟩:=h.go r _ e c
  rw [h1]
  obtain ⟨i1,i2⟩:=h.idx h2 zs hz
  unfold rn
  dsimp only [Option.bind]
  rw [Int.toNat_natCast,i1]
  by_cases m:e.toNat∈zs.map (·.1)
  · rw [if_pos m,if_pos (i2.mp m)]
  · rw [if_neg m,if_neg fun v=>m (i2.mpr v)]
theorem rows_ren {p:Nat→Nat}{es:List En}{r:List Int}:r∈rowsOf (es.map (renE p))↔∃ i a k b,En.row i a k b∈es∧r=[i,((p a.toNat:Nat):Int),k,((p b.toNat:Nat):Int)]:=by
 rw [mem_rowsOf]
 constructor
 · rintro ⟨i,a,k,b,m,rfl⟩
   obtain ⟨e,he,ee⟩:=List.mem_map.mp m
   cases e with
   | row i' a' k' b'=>
    have ee:En.row i' ((p a'.toNat:Nat):Int) k' ((p b'.toNat:Nat):Int)=En.row i a k b:=ee
    injection ee with e1 e2 e3 e4
    subst e1 e2 e3 e4
    exact ⟨_,_,_,_,he,rfl⟩
   | ap i' a' b'=>cases ee
 · rintro ⟨i,a,k,b,m,rfl⟩
   exact ⟨i,_,k,_,List.mem_map.mpr ⟨_,m,rfl⟩,rfl⟩
theorem ChR.tr {k m:Nat}{p q:Nat→Nat}{c c':List Int}{es:List En} (h:ChR m p q c c') (ok:ChOk k (nC c) m c (rowsOf es)) (ok':ChOk k (nC c') m c' (rowsOf (es.map (renE p)))) (eo:∀ e∈es,EnOk k m e):
  TR (Rl m p c c') k (chT k (nC c) c (rowsOf es)) (chT k (nC c') c' (rowsOf (es.map (renE p)))):=by
 have C:=chT_is ok
 have C':=chT_is ok'
 have at1:∀ {i a kd b:Int},En.row i a kd b∈es→a.toNat < m∧b.toNat < m:=fun he=>by
  obtain ⟨⟨a0,a1⟩,_,⟨b0,b1⟩⟩:=eo _ he
  omega
 refine ⟨h.fn,h.inj,fun {x y} r j e he=>?_,fun {x y} r j e he=>?_,fun {x y} r j d hd=>?_,fun {x y} r j d hd=>?_⟩
 · obtain ⟨ro,hr,r1,r2,rfl⟩:=(C.cel x j e).mp he
   obtain ⟨i,a,kd,b,m1,rfl⟩:=mem_rowsOf.mp hr
   obtain ⟨la,lb⟩:=at1 m1
   have r1:c.getD a.toNat 0=(x:Int):=r1
   have ra:=h.rl la
   rw [r1,Int.toNat_natCast] at ra
   have ey:=h.fn r ra
   have rb:=h.rl lb
   have nn:=h.rng' _ (getD_mem (by rw [h.len'];exact h.P.lt _ la))
   have nb:=h.rng' _ (getD_mem (by rw [h.len'];exact h.P.lt _ lb))
   refine ⟨_,(C'.cel y j _).mpr ⟨_,rows_ren.mpr ⟨i,a,kd,b,m1,rfl⟩,?_,r2,?_⟩,rb⟩
   · show c'.getD (p a.toNat) 0=_
     omega
   · show _=c'.getD (p b.toNat) 0
     omega
 · obtain ⟨ro,hr,r1,r2,rfl⟩:=(C'.cel y j e).mp he
   obtain ⟨i,a,kd,b,m1,rfl⟩:=rows_ren.mp hr
   obtain ⟨la,lb⟩:=at1 m1
   have r1:c'.getD (p a.toNat) 0=(y:Int):=r1
   have ra:=h.rl la
   rw [r1,Int.toNat_natCast] at ra
   have ey:=h.inj r ra
   have rb:=h.rl lb
   have nn:=h.rng _ (getD_mem (by rw [h.len];exact la))
   have nb:=h.rng _ (getD_mem (by rw [h.len];exact lb))
   refine ⟨_,(C.cel x j _).mpr ⟨_,mem_rowsOf.mpr ⟨i,a,kd,b,m1,rfl⟩,?_,r2,?_⟩,rb⟩
   · show c.getD a.toNat 0=_
     omega
   · show _=c.getD b.toNat 0
     omega
 · obtain ⟨ro,hr,r1,r2,r3⟩:=(C.cel d j _).mp hd
   obtain ⟨i,a,kd,b,m1,rfl⟩:=mem_rowsOf.mp hr
   obtain ⟨la,lb⟩:=at1 m1
   have r1:c.getD a.toNat 0=(d:Int):=r1
   have r3:(x:Int)=c.getD b.toNat 0:=r3
   have ra:=h.rl la
   rw [r1,Int.toNat_natCast] at ra
   have rb:=h.rl lb
   rw [← r3,Int.toNat_natCast] at rb
   have ey:=h.fn r rb
   have nn:=h.rng' _ (getD_mem (by rw [h.len'];exact h.P.lt _ la))
   have nb:=h.rng' _ (getD_mem (by rw [h.len'];exact h.P.lt _ lb))
   refine ⟨_,(C'.cel _ j _).mpr ⟨_,rows_ren.mpr ⟨i,a,kd,b,m1,rfl⟩,?_,r2,?_⟩,ra⟩
   · show c'.getD (p a.toNat) 0=_
     omega
   · show _=c'.getD (p b.toNat) 0
     omega
 · obtain ⟨ro,hr,r1,r2,r3⟩:=(C'.cel d j _).mp hd
   obtain ⟨i,a,kd,b,m1,rfl⟩:=rows_ren.mp hr
   obtain ⟨la,lb⟩:=at1 m1
   have r1:c'.getD (p a.toNat) 0=(d:Int):=r1
   have r3:(y:Int)=c'.getD (p b.toNat) 0:=r3
   have ra:=h.rl la
   rw [r1,Int.toNat_natCast] at ra
   have rb:=h.rl lb
   rw [← r3,Int.toNat_natCast] at rb
   have ey:=h.inj r rb
   have nn:=h.rng _ (getD_mem (by rw [h.len];exact la))
   have nb:=h.rng _ (getD_mem (by rw [h.len];exact lb))
   refine ⟨_,(C.cel _ j _).mpr ⟨_,mem_rowsOf.mpr ⟨i,a,kd,b,m1,rfl⟩,?_,r2,?_⟩,ra⟩
   · show c.getD a.toNat 0=_
     omega
   · show _=c.getD b.toNat 0
     omega
def nmP (ns:List Int) (x:Nat):Nat:=(ns.getD x 0).toNat
def nmQ (ns:List Int) (y:Nat):Nat:=ns.idxOf ((y:Nat):Int)
theorem mem_lab0 {n:Nat}{x:Int}:x∈lab0 n↔0≤x∧x < n:=by
 unfold lab0
 rw [List.mem_map]
 constructor
 · rintro ⟨y,hy,rfl⟩
   have:=List.mem_range.mp hy
   omega
 · rintro ⟨h0,h1⟩
   exact ⟨x.toNat,List.mem_range.mpr (by omega),by omega⟩
theorem nms_of {n:Nat}{ns:List Int} (h:ns.Perm (lab0 n)):Nms n (nmP ns) (nmQ ns):=by
 have ln:ns.length=n:=by rw [h.length_eq,lab0_len]
 have nd:ns.Nodup:=h.nodup_iff.mpr (lab0_nd n)
 have rg:∀ x,x < n→0≤ns.getD x 0∧ns.getD x 0 < n:=fun x hx=>mem_lab0.mp (h.mem_iff.mp (getD_mem (by rw [ln];exact hx)))
 have mm:∀ y:Nat,y < n→((y:Nat):Int)∈ns:=fun y hy=>h.mem_iff.mpr (mem_lab0.mpr (by omega))
 refine ⟨fun x hx=>?_,fun y hy=>?_,fun x hx=>?_,fun y hy=>?_⟩
 · have:=rg x hx
   unfold nmP;omega
 · unfold nmQ
   have:=List.idxOf_lt_length_of_mem (mm y hy)
   omega
 · have:=rg x hx
   unfold nmQ nmP
   rw [Int.toNat_of_nonneg this.1]
   have hx:x < ns.length:=by omega
   rw [show ns.getD x 0=ns[x] by simp [List.getD,hx]]
   exact nd.idxOf_getElem x hx
 · unfold nmP nmQ
   have hl:=List.idxOf_lt_length_of_mem (mm y hy)
   rw [show ns.getD (ns.idxOf ((y:Nat):Int)) 0=ns[ns.idxOf ((y:Nat):Int)] by simp [List.getD,hl],List.getElem_idxOf]
   omega
theorem nms_at {n:Nat}{ns:List Int} (h:ns.Perm (lab0 n)) {a:Int} (ha:InM n a):ns.getD a.toNat 0=((nmP ns a.toNat:Nat):Int):=by
 obtain ⟨a0,a1⟩:=ha
 have:=mem_lab0.mp (h.mem_iff.mp (getD_mem (a:=a.toNat) (by rw [h.length_eq,lab0_len];omega)))
 unfold nmP;omega
def spMixed:Sp:=fun vs H Q _=>∃ (n:Nat) (ld:Addr) (ds:List Int),vs=[.int n,.ref ld]∧Ints H ld ds∧n≤1000∧n≤ds.length∧∀ (l:Addr) (ns:List Int) (H':Hp),H l=none→Ints H' l ns→ns.Perm (lab0 n)→Same H H'→Q (.ref l) H'
def spRenamed:Sp:=fun vs H Q _=>∃ (k n:Nat) (t ln:Addr) (e:En) (ns:List Int),vs=[.ref t,.ref ln]∧H t=some (.tup e.told)∧Ints H ln ns∧EnOk k n e∧ns.Perm (lab0 n)∧∀ (t':Addr) (H':Hp),H' t'=some (.tup (renE (nmP ns) e).told)→Same H H'→Q (.ref t') H'
theorem piece_ren {C g lh g' lh':Addr}{H H':Hp}{B B':Bk}{rest rest':List Addr} (hB:BkAt C H g lh B rest) (hB':BkAt C H' g' lh' B' rest') {p q:Nat→Nat} (P:Nms B.n p q) (ek:B'.k=B.k) (en:B'.n=B.n) (ee:B'.es=B.es.map (renE p)) {a:Nat} (ha:a < B.n):
  renT B'.tab (met B'.tab B'.k B'.nch ((rk B'.lab).getD (p a) 0).toNat)=renT B.tab (met B.tab B.k B.nch ((rk B.lab).getD a 0).toNat):=by
 have ck:=Bk.chok hB
 have ck':=Bk.chok hB'
 have hr:=Bk.rok hB
 have hr':=Bk.rok hB'
 have f:=fl_FL hr
 have f':=fl_FL hr'
 have l1:B.lab.length=B.n:=f.1.lab.len
 have l2:B'.lab.length=B.n:=en▸f'.1.lab.len
 rw [en,ee] at hr'
 have cr:ChR B.n p q (rk B.lab) (rk B'.lab):=by
  refine ⟨P,by rw [rk_len,l1],by rw [rk_len,l2],fun x hx y hy=>?_,fun x hx=>rk_lt hx,fun x hx=>rk_lt hx,fun d hd=>rk_onto (fun z=>?_) hd,fun d hd=>rk_onto (fun z=>?_) hd⟩
  · rw [rk_eq (by rw [l2];exact P.lt x hx) (by rw [l2];exact P.lt y hy),rk_eq (by rw [l1];exact hx) (by rw [l1];exact hy)]
    unfold Bk.lab
    rw [en,ee]
    exact lab_ren P hr hr' hx hy
  · rw [z] at l1;simp at l1;omega
  · rw [z] at l2;simp at l2;omega
 have T1:TabOk B.k B.nch B.tab:=chT_ok ck
 have T2:TabOk B.k B'.nch B'.tab:=by
  have:=chT_ok ck'
  unfold Bk.tab
  rw [ek] at this ⊢
  exact this
 have ck2:ChOk B.k (nC (rk B'.lab)) B.n (rk B'.lab) (rowsOf (B.es.map (renE p))):=by
  have:=ck'
  unfold Bk.nch at this
  rw [ek,en,ee] at this
  exact this
 have tr:TR (Rl B.n p (rk B.lab) (rk B'.lab)) B.k B.tab B'.tab:=by
  have:=cr.tr (es:=B.es) ck ck2 hB.ok
  unfold Bk.tab Bk.nch
  rw [ek,ee]
  exact this
 have hn:B'.nch=B.nch:=cr.neq
 have r:=cr.rl ha
 have x1:=cr.rng _ (getD_mem (by rw [cr.len];exact ha))
 have x2:=cr.rng' _ (getD_mem (by rw [cr.len'];exact P.lt a ha))
 have xn:((rk B.lab).getD a 0).toNat < B.nch:=by show _ < nC (rk B.lab);omega
 have xn':((rk B'.lab).getD (p a) 0).toNat < B'.nch:=by show _ < nC (rk B'.lab);omega
 have i1:=met_inv T1 xn
 have i2:=met_inv T2 xn'
 rw [ek]
 refine (tr.renT T1 T2 ?_ i1.1.lt i2.1.lt).symm
 unfold met
 rw [hn]
 refine tr.bfs T1 T2 _ _ _ _ ⟨[(_,_)],rfl,rfl,fun z hz=>?_⟩
 rw [List.mem_singleton.mp hz]
 exact r
theorem ren_re (p:Nat→Nat) (e:En):(renE p e).re e.num=renE p e:=by cases e <;> rfl
def top (i:Nat):Stmt:=PySem.Challenge.pw_chalkcave_k51_marks_under_other_numbers.main.body.getD i (.Pass ⟨0,0,0,0⟩)
abbrev s_Chart___init__:Stmt:=inClass (top 13) 0
abbrev s_Chart_size:Stmt:=inClass (top 13) 1
abbrev s_Chart_table:Stmt:=inClass (top 13) 4
abbrev s_Chart_step:Stmt:=inClass (top 13) 5
abbrev s_Chart_check_chamber:Stmt:=inClass (top 13) 7
abbrev s_check_letters:Stmt:=top 14
abbrev s_check_shape:Stmt:=top 15
abbrev s_beginnings:Stmt:=top 16
abbrev s_Groups___init__:Stmt:=inClass (top 18) 0
abbrev s_Groups_together:Stmt:=inClass (top 18) 1
abbrev s_Groups_unite:Stmt:=inClass (top 18) 2
abbrev s_near_mark:Stmt:=top 19
abbrev s_far_mark:Stmt:=top 20
abbrev s_Fold___init__:Stmt:=inClass (top 22) 0
abbrev s_Fold_lay:Stmt:=inClass (top 22) 1
abbrev s_Fold_put:Stmt:=inClass (top 22) 2
abbrev s_Fold_settle:Stmt:=inClass (top 22) 3
abbrev s_Fold_merge:Stmt:=inClass (top 22) 4
abbrev s_folded:Stmt:=top 23
abbrev s_trail:Stmt:=top 24
abbrev s_numbered:Stmt:=top 26
abbrev s_ways_from:Stmt:=top 27
abbrev s_letters_in_order:Stmt:=top 28
abbrev s_renumbered:Stmt:=top 29
abbrev s_Survey___init__:Stmt:=inClass (top 38) 0
abbrev s_Survey_chalk:Stmt:=inClass (top 38) 1
abbrev s_Survey_row:Stmt:=inClass (top 38) 2
abbrev s_Survey_apart:Stmt:=inClass (top 38) 3
abbrev s_Survey_marks:Stmt:=inClass (top 38) 5
abbrev s_Survey_entries:Stmt:=inClass (top 38) 6
abbrev s_Survey_chambers:Stmt:=inClass (top 38) 10
abbrev s_Survey_same:Stmt:=inClass (top 38) 11
abbrev s_Survey_paper:Stmt:=inClass (top 38) 12
abbrev s_Survey_piece:Stmt:=inClass (top 38) 13
abbrev s_Survey_judge:Stmt:=inClass (top 38) 16
abbrev s_Survey_must_paper:Stmt:=inClass (top 38) 17
abbrev s_Survey_never_paper:Stmt:=inClass (top 38) 18
abbrev s_Survey_enter:Stmt:=inClass (top 38) 21
abbrev s_Survey_labels:Stmt:=inClass (top 38) 22
abbrev s_Survey_laid:Stmt:=inClass (top 38) 23
abbrev s_Survey_check_marks:Stmt:=inClass (top 38) 25
abbrev s_Survey_check_room:Stmt:=inClass (top 38) 26
abbrev s_rows_of:Stmt:=top 39
abbrev s_broken_oath:Stmt:=top 40
abbrev s_chambers_of:Stmt:=top 41
abbrev s_chart_of:Stmt:=top 42
abbrev s__law_numbers:Stmt:=top 44
abbrev s__law_way:Stmt:=top 45
abbrev s__law_entered:Stmt:=top 47
abbrev s__law_entry:Stmt:=top 48
abbrev s__law_book:Stmt:=top 49
abbrev s__law_rows:Stmt:=top 50
abbrev s__law_joined:Stmt:=top 51
abbrev s__law_folded:Stmt:=top 52
abbrev s__law_ranked:Stmt:=top 53
abbrev s__law_led:Stmt:=top 54
abbrev s__law_round:Stmt:=top 55
abbrev s__law_chart:Stmt:=top 57
abbrev s__law_turn:Stmt:=top 58
abbrev s__law_asked:Stmt:=top 59
abbrev s__law_mixed:Stmt:=top 60
abbrev s__law_renamed:Stmt:=top 61
abbrev s_law:Stmt:=top 62
abbrev sNum:Stmt:=s__law_numbers
abbrev sWay:Stmt:=s__law_way
abbrev sTurn:Stmt:=s__law_turn
abbrev sNear:Stmt:=s_near_mark
abbrev sFar:Stmt:=s_far_mark
abbrev sUni:Stmt:=s_Groups_unite
abbrev sTog:Stmt:=s_Groups_together
abbrev sGInit:Stmt:=s_Groups___init__
abbrev sFInit:Stmt:=s_Fold___init__
abbrev sLay:Stmt:=s_Fold_lay
abbrev sPut:Stmt:=s_Fold_put
abbrev sSettle:Stmt:=s_Fold_settle
abbrev sMerge:Stmt:=s_Fold_merge
abbrev sFolded:Stmt:=s_folded
abbrev sTrail:Stmt:=s_trail
abbrev sJn:Stmt:=s__law_joined
abbrev sLFold:Stmt:=s__law_folded
section
variable {P:Program}{w:World}{K:PySem.W.Frag}{mg:Str→Option Value}{base:Heap}
theorem scNum:FnScope ["_law_script","_law_many","_law_row","_law_seed","_law_cell","_law_rest","_law_k"] ["_law_script","_law_many"] (defScope sNum):=scm
theorem ok_num {f:Addr}{fd:FuncData} (F:Fun K "_law_numbers" "_law_numbers" sNum f fd) (T:Txt K mg):FnOk P w K mg base CX0 1 f fd ["_law_script","_law_many"] (spNumL K):=by
 refine F.ok scNum (fun vs H Q E h=>?_) (fun cdv A outer s H vs Q E hr h=>?_)
 · obtain ⟨a,ns,many,rfl,_⟩:=h
   rfl
 · obtain ⟨a,ns,many,rfl,hS,hn,hm,k⟩:=h
   refine ⟨_,pss_cons (ps_set (i:=2) scNum.nd rfl (Or.inl rfl) (pe_lst pa_nil))
    (pss_cons (ps_set (i:=3) scNum.nd rfl (Or.inl rfl) pe_int)
    (pss_cons (ps_for PassesOwn.never rfl (pi_list (pe_slice sl_list (pv 0) po_none (po_some pe_int))) (pg_name (i:=4) scNum.nd rfl (Or.inl rfl))
     (pss_cons (ps_set (i:=3) scNum.nd rfl (Or.inl rfl) (pe_op op_mod (pe_op op_add (pe_op op_add (pe_op op_mul (pv 3) pe_int) (pe_op op_mod (pv 4) pe_int)) pe_int) pe_int))
     (pss_cons (ps_set (i:=5) scNum.nd rfl (Or.inl rfl) (pe_op op_sub (pv 4) (pe_op op_pow pe_int pe_int)))
     (pss_cons (ps_if (pt_cmpR op_lt (pv 5) pe_int (nomark _))
      (pss_one (ps_expr (pe_bm PySem.F.plainAttrs_list PySem.F.slot_list_append PySem.F.type_list_append mt_append (pv 2) (pa_cons (pe_op op_mod (pv 4) pe_int) pa_nil)))) pss_nil)
     (pss_one (ps_for PassesOwn.never rfl (pi_range1 rfl T.range (pa_cons pe_int pa_nil)) (pg_name (i:=6) scNum.nd rfl (Or.inl rfl))
      (pss_one (ps_if (pt_cmpR op_gt (pv 5) pe_int (nomark _))
       (pss_cons (ps_expr (pe_bm PySem.F.plainAttrs_list PySem.F.slot_list_append PySem.F.type_list_append mt_append (pv 2) (pa_cons (pe_op op_mod (pv 5) pe_int) pa_nil)))
       (pss_one (ps_set (i:=5) scNum.nd rfl (Or.inl rfl) (pe_op op_fdiv (pv 5) pe_int)))) pss_nil))))))))
    (pss_cons (ps_while PassesOwn.never (pt_cmpR op_lt (pe_callB call_len_seq (by rfl) T.len PySem.boot_len (pa_cons (pv 2) pa_nil)) (pv 1) (nomark _))
     (pss_cons (ps_set (i:=3) scNum.nd rfl (Or.inl rfl) (pe_op op_mod (pe_op op_add (pe_op op_add (pe_op op_add (pe_op op_mul (pv 3) (pv 3)) (pe_op op_mul pe_int (pv 3))) (pe_op op_mul pe_int (pe_callB call_len_seq (by rfl) T.len PySem.boot_len (pa_cons (pv 2) pa_nil)))) pe_int) pe_int))
     (pss_one (ps_expr (pe_bm PySem.F.plainAttrs_list PySem.F.slot_list_append PySem.F.type_list_append mt_append (pv 2) (pa_cons (pe_op op_mod (pe_op op_fdiv (pv 3) pe_int) pe_int) pa_nil))))))
    (pss_one (ps_ret (pe_slice sl_list (pv 2) po_none (po_some (pv 1)))))))),?_⟩
   refine ⟨Nat.zero_le _,fun r hr0=>?_⟩
   refine ⟨_,rfl,_,rfl,a,_,rfl,(Same.refl H).upd hr0 |>.seq hS,fun p hp=>?_⟩
   have nrp:r≠p:=ne_of_none (H:=upd H r (.lst [])) (o:=.lst []) upd_same hp
   have hp0:H p=none:=by rw [upd_ne nrp.symm] at hp;exact hp
   rw [cutV_int]
   have hcl:=cutL_len ns none (some 63)
   generalize cutL ns none (some 63)=cs at hcl ⊢
   refine ⟨p,rfl,⟨_,SqL.of upd_same⟩,for_list (K:=K) (a:=p) (xs:=cs.map V.int) (fun i σ H2=>∃ (ms:List Int) (seed:Int) (c x y:Option V),σ=[some (.ref a),some (.int many),some (.ref r),some (.int seed),c,x,y]∧0≤seed∧seed < 2147483647∧
    ms.length≤61 * i∧Ints H2 r ms∧Ints H2 p cs∧Same H H2)
    ⟨[],17,none,none,none,rfl,by decide,by decide,Nat.zero_le _,((Ints.put (ns:=[])).other nrp),.put,((Same.refl H).upd hr0).upd hp0⟩ (fun i σ H2 _ ⟨_,_,_,_,_,_,_,_,_,_,z,_⟩=>SqL.of z) ?_ ?_⟩
   · rintro i y σ H2 hi ⟨ms,seed,c,x,y',rfl,h0,h1,hl,h2,h3,hs⟩
     obtain ⟨z,rfl,hz⟩:=get_int hi
     have hil:i < cs.length:=(List.getElem?_eq_some_iff.mp hz).1
     refine ⟨_,rfl,_,_,rfl,rfl,.inl ⟨by omega,by omega⟩,_,rfl,_,_,rfl,rfl,(by show (0:Int) < 1000003;decide),_,_,rfl,rfl,_,_,rfl,rfl,_,_,rfl,rfl,(by show (0:Int) < 2147483647;decide),?_⟩
     have g0:=Int.emod_nonneg (seed * 48271+z % 1000003+11) (show (2147483647:Int)≠0 by decide)
     have g1:=Int.emod_lt_of_pos (seed * 48271+z % 1000003+11) (show (0:Int) < 2147483647 by decide)
     refine ⟨_,rfl,_,_,rfl,rfl,⟨by decide,by decide,by decide⟩,_,_,rfl,rfl,?_⟩
     rw [pow18]
     refine ⟨_,rfl,_,_,rfl,rfl,_,rfl,?_⟩
     refine ite_key (fun H2=>∃ ms:List Int,ms.length≤61 * i+1∧Ints H2 r ms∧Ints H2 p cs∧Same H H2) ⟨ms,by omega,h2,h3,hs⟩ (fun H2 hP=>?key) (fun key=>?w1)
     case w1=>
      exact ⟨_,rfl,.inl ⟨rfl,_,SqL.of h2⟩,_,rfl,_,_,rfl,rfl,(by show (0:Int) < 1000;decide),r,_,_,rfl,rfl,h2,small4k (by rw [List.length_map];omega),key _ ⟨ms++[z % 1000],by simp;omega,.snoc,h3.other nrp.symm,hs.upd hr0⟩⟩
     case key=>
      obtain ⟨ms,hl,h2,h3,hs⟩:=hP
      refine ⟨_,rfl,by decide,by decide,for_range (lo:=0) (n:=60) (fun j σ H2=>∃ (ms:List Int) (rest:Int) (y:Option V),σ=[some (.ref a),some (.int many),some (.ref r),some (.int ((seed * 48271+z % 1000003+11) % 2147483647)),some (.int z),some (.int rest),y]∧
       ms.length≤61 * i+1+j∧Ints H2 r ms∧Ints H2 p cs∧Same H H2) ⟨ms,_,_,rfl,by omega,h2,h3,hs⟩ ?_ ?_⟩
      · rintro j σ H3 hj ⟨ms,rest,y,rfl,hl,h2,h3,hs⟩
        refine ⟨_,rfl,_,_,rfl,rfl,_,rfl,?_⟩
        refine ite2 (fun _=>?_) (fun _=>?_)
        · skip
          refine ⟨_,rfl,.inl ⟨rfl,_,SqL.of h2⟩,_,rfl,_,_,rfl,rfl,(by show (0:Int) < 1000;decide),r,_,_,rfl,rfl,h2,small4k (by rw [List.length_map];omega),?_⟩
          refine ⟨_,rfl,_,_,rfl,rfl,⟨by decide,by decide⟩,?_⟩
          exact ⟨ms++[rest % 1000],_,_,rfl,by simp;omega,.snoc,h3.other nrp.symm,hs.upd hr0⟩
        · exact ⟨ms,rest,_,rfl,by omega,h2,h3,hs⟩
      · rintro σ H3 ⟨ms,rest,y,rfl,hl,h2,h3,hs⟩
        exact ⟨ms,_,_,_,_,rfl,g0,g1,by omega,h2,h3,hs⟩
   · rintro σ H2 ⟨ms,seed,c,x,y,rfl,h0,h1,hl,h2,h3,hs⟩
     rw [List.length_map] at hl
     refine while_by (fun σ H2=>∃ (ms:List Int) (seed:Int) (c x y:Option V),σ=[some (.ref a),some (.int many),some (.ref r),some (.int seed),c,x,y]∧0≤seed∧seed < 2147483647∧ms.length≤4000∧Ints H2 r ms∧Same H H2)
      (fun σ H2=>match H2 r with | some (.lst xs)=>1000 - xs.length | _=>0) ⟨ms,seed,c,x,y,rfl,h0,h1,by omega,h2,hs⟩ ?_ ?_
     · rintro σ H2 ⟨ms,seed,c,x,y,rfl,h0,h1,hl,h2,hs⟩
       refine ⟨_,rfl,r,_,rfl,.inl (SqL.of h2),_,rfl,_,_,rfl,rfl,_,rfl,?_⟩
       refine ite2 (fun hlt=>?_) (fun hge=>?_)
       · have hlt:=of_decide_eq_true hlt
         rw [List.length_map] at hlt
         refine ⟨_,rfl,_,rfl,_,_,rfl,rfl,.inl ⟨by omega,by omega⟩,_,rfl,_,_,rfl,rfl,.inl ⟨by decide,by decide⟩,_,_,rfl,rfl,_,rfl,r,_,rfl,.inl (SqL.of h2),_,_,rfl,rfl,.inl ⟨by decide,by decide⟩,_,_,rfl,rfl,_,_,rfl,rfl,_,_,rfl,rfl,
          (by show (0:Int) < 2147483629;decide),?_⟩
         have g0:=Int.emod_nonneg (seed * seed+69621 * seed+7 * ((ms.map V.int).length:Int)+5) (show (2147483629:Int)≠0 by decide)
         have g1:=Int.emod_lt_of_pos (seed * seed+69621 * seed+7 * ((ms.map V.int).length:Int)+5) (show (0:Int) < 2147483629 by decide)
         refine ⟨_,rfl,.inl ⟨rfl,_,SqL.of h2⟩,_,rfl,_,_,rfl,rfl,⟨by decide,by decide⟩,_,_,rfl,rfl,(by show (0:Int) < 1000;decide),r,_,_,rfl,rfl,h2,small4k (by rw [List.length_map];omega),?_⟩
         refine ⟨⟨ms++[_],_,_,_,_,rfl,g0,Int.lt_trans g1 (by decide),by simp;omega,.snoc,hs.upd hr0⟩,?_⟩
         show (match upd H2 r _ r with | some (.lst xs)=>1000 - xs.length | _=>0) < (match H2 r with | some (.lst xs)=>1000 - xs.length | _=>0)
         rw [upd_same,h2]
         simp only [List.length_append,List.length_map,List.length_singleton]
         omega
       · have hge:¬ ((ms.map V.int).length:Int) < (many:Int):=fun z=>hge (decide_eq_true z)
         rw [List.length_map] at hge
         refine ⟨_,rfl,_,rfl,_,rfl,r,_,rfl,SqL.of h2,fun q hq=>?_⟩
         rw [cutV_int,cutL_to]
         exact k q (ms.take many) _ (by rw [List.length_take];omega) trivial (hs.free hq) .put (hs.upd' hq)
     · rintro σ H Q Q' hQ ⟨v,e,p,ys,e',q,v',e'',i,j,e3,e4,b,e5,q5⟩
       exact ⟨v,e,p,ys,e',q,v',e'',i,j,e3,e4,b,e5,hQ _ _ q5⟩
theorem scWay:FnScope ["_law_draws","_law_kinds"] ["_law_draws","_law_kinds"] (defScope sWay):=scm
theorem ok_way {f:Addr}{fd:FuncData} (F:Fun K "_law_way" "_law_way" sWay f fd):FnOk P w K mg base CX0 1 f fd ["_law_draws","_law_kinds"] (spWay K):=by
 refine F.ok scWay (fun vs H Q E h=>?_) (fun cdv A outer s H vs Q E hr h=>?_)
 · obtain ⟨a,ns,k,rfl,_⟩:=h
   rfl
 · obtain ⟨a,ns,k,rfl,hS,hn,h1,h5,q⟩:=h
   refine ⟨_,pss_one (ps_ret (pe_compW ["_law_kinds"] [1] (pi_list (pv 0)) (fun C s H fp=>pe_op op_mul (pe_op op_add (pe_op op_fdiv (pe_op op_mod (pv 0) (pe_op op_mul pe_int (pv 1))) pe_int) pe_int) (pe_op op_sub pe_int (pe_op op_mul pe_int (pe_op op_mod (pv 0) pe_int)))) (fun _ _ h=>h))),?_⟩
   refine ⟨_,rfl,a,rfl,⟨_,hS⟩,comp_intsW (letterOf k) hS (small4k (by omega)) (fun z _ H' Q' q'=>?_) (ls_rd q)⟩
   refine ⟨_,rfl,_,rfl,_,_,rfl,rfl,.inl ⟨by decide,by decide⟩,_,_,rfl,rfl,(by show (0:Int) < 2 * k;omega),_,_,rfl,rfl,⟨by decide,by decide⟩,_,_,rfl,rfl,_,rfl,_,_,rfl,rfl,(by show (0:Int) < 2;decide),_,_,rfl,rfl,.inl ⟨by decide,by decide⟩,_,_,rfl,rfl,_,_,rfl,rfl,.inr ⟨?_,?_⟩,q'⟩
   · have:=Int.emod_lt_of_pos z (show (0:Int) < 2 by decide)
     show -(2 ^ 64) < 1 - 2 * (z % 2)
     omega
   · have:=Int.emod_nonneg z (show (2:Int)≠0 by decide)
     show 1 - 2 * (z % 2) < 2 ^ 64
     omega
theorem scTurn:FnScope ["_law_way_here"] ["_law_way_here"] (defScope sTurn):=scm
theorem ok_turn {f:Addr}{fd:FuncData} (F:Fun K "_law_turn" "_law_turn" sTurn f fd):FnOk P w K mg base CX0 1 f fd ["_law_way_here"] (spTurn K):=by
 refine F.ok scTurn (fun vs H Q E h=>?_) (fun cdv A outer s H vs Q E hr h=>?_)
 · obtain ⟨a,ns,rfl,_⟩:=h
   rfl
 · obtain ⟨a,ns,rfl,hS,hn,k⟩:=h
   refine ⟨_,pss_one (ps_ret (pe_compW (cl:=[]) [] [] (pi_list (pe_rev (pv 0))) (fun C s H fp=>pe_un un_neg (pv 0)) (fun _ _ h=>nomatch h))),?_⟩
   refine ⟨_,rfl,rd_rev hS fun p H1 hp h1 s1=>?_⟩
   refine ⟨p,rfl,⟨_,SqL.of h1⟩,comp_intsW (- ·) (SqL.of h1) (small4k (by simp;omega)) (fun z _ H' Q' q'=>⟨_,rfl,_,rfl,q'⟩) (ls_rd fun D H2 hD h2 s2=>?_)⟩
   exact k D _ (s1.free hD) h2 (s1.trans s2)
theorem scNear:FnScope ["row","side"] ["row","side"] (defScope sNear):=scm
theorem ok_near {f:Addr}{fd:FuncData} (F:Fun K "near_mark" "near_mark" sNear f fd):FnOk P w K mg base CX0 1 f fd ["row","side"] spNear:=by
 refine F.ok scNear (fun vs H Q E h=>?_) (fun cdv A outer s H vs Q E hr h=>?_)
 · obtain ⟨t,r,s,rfl,_⟩:=h
   rfl
 · obtain ⟨t,r,sd,rfl,ht,hl,k⟩:=h
   refine ⟨_,pss_cons (ps_if (pt_cmpR op_eq (pv 1) pe_int (nomark _)) (pss_one (ps_ret (pe_ix ix_t (pv 0) pe_int (fun _ _=>rfl)))) pss_nil) <| pss_one (ps_ret (pe_ix ix_t (pv 0) pe_int (fun _ _=>rfl))),?_⟩
   refine ⟨_,rfl,rfl,_,rfl,?_⟩
   refine ite2 (fun he=>?_) (fun he=>?_)
   · have he:sd=1:=by simpa using he
     unfold nearIx at k
     rw [if_pos he] at k
     exact ⟨_,rfl,rd_col 1 ht (by omega) k⟩
   · have he:¬ sd=1:=by simpa using he
     unfold nearIx at k
     rw [if_neg he] at k
     exact ⟨_,rfl,rd_col 3 ht (by omega) k⟩
theorem scFar:FnScope ["row","side"] ["row","side"] (defScope sFar):=scm
theorem ok_far {f:Addr}{fd:FuncData} (F:Fun K "far_mark" "far_mark" sFar f fd) (R:Rdy P w K mg base "near_mark" ["row","side"] 1 spNear):FnOk P w K mg base CX0 2 f fd ["row","side"] spFar:=by
 refine F.ok scFar (fun vs H Q E h=>?_) (fun cdv A outer s H vs Q E hr h=>?_)
 · obtain ⟨t,r,s,rfl,_⟩:=h
   rfl
 · obtain ⟨t,r,sd,rfl,ht,hl,k⟩:=h
   refine ⟨_,pss_one (ps_ret (R.pe hr (pa_cons (pv 0) (pa_cons (pe_un un_neg (pv 1)) pa_nil)))),?_⟩
   exact ⟨_,rfl,_,rfl,_,rfl,t,r,_,rfl,ht,hl,k⟩
theorem scUni:FnScope ["self","a","b","low","high"] ["self","a","b"] (defScope sUni):=scm
theorem ok_uni {f C:Addr}{fd:FuncData} (F:Fun K "unite" "Groups.unite" sUni f fd) (TM:TxtM mg) (TG:TxtG K mg C):FnOk P w K mg base CX0 1 f fd ["self","a","b"] (spUni C):=by
 refine F.ok scUni (fun vs H Q E h=>?_) (fun cdv A outer s H vs Q E hr h=>?_)
 · obtain ⟨g,ls,a,b,rfl,_⟩:=h
   rfl
 · obtain ⟨g,ls,a,b,rfl,⟨dx,l,hg,hl⟩,ha,hb,hn,k⟩:=h
   refine ⟨_,pss_cons (ps_set (i:=3) scUni.nd rfl (Or.inr rfl) (pe_callB (call_min2 rfl) (by rfl) TM.min bt_min (pa_cons (pe_ix ix_l (pe_fld (pv 0) rfl) (pv 1) (fun _ _=>rfl)) (pa_cons (pe_ix ix_l (pe_fld (pv 0) rfl) (pv 2) (fun _ _=>rfl)) pa_nil))))
    <| pss_cons (ps_set (i:=4) scUni.nd rfl (Or.inr rfl) (pe_callB (call_max2 rfl) (by rfl) TM.max bt_max (pa_cons (pe_ix ix_l (pe_fld (pv 0) rfl) (pv 1) (fun _ _=>rfl)) (pa_cons (pe_ix ix_l (pe_fld (pv 0) rfl) (pv 2) (fun _ _=>rfl)) pa_nil))))
    <| pss_one (ps_fld (pv 0) (pe_compW ["low","high"] [3,4] (pi_list (pe_fld (pv 0) rfl)) (fun C s H fp=>pe_ifExp (pt_cmpR op_eq (pv 0) (pv 2) (nomark _)) (pv 1) (pv 0)) (hcl_two rfl rfl)) rfl),?_⟩
   refine ⟨_,rfl,g,C,dx,_,_,rfl,hg,TG.cl,TG.nL,gf_least l,_,rfl,rd_at a hl ha ⟨_,rfl,g,C,dx,_,_,rfl,hg,TG.cl,TG.nL,gf_least l,_,rfl,rd_at b hl hb ⟨_,_,rfl,?_⟩⟩⟩
   rw [min_if]
   refine ⟨_,rfl,g,C,dx,_,_,rfl,hg,TG.cl,TG.nL,gf_least l,_,rfl,rd_at a hl ha ⟨_,rfl,g,C,dx,_,_,rfl,hg,TG.cl,TG.nL,gf_least l,_,rfl,rd_at b hl hb ⟨_,_,rfl,?_⟩⟩⟩
   rw [max_if]
   refine ⟨_,rfl,g,C,dx,_,_,rfl,hg,TG.cl,TG.nL,gf_least l,l,rfl,⟨_,SqL.of hl⟩,comp_intsW (fun m=>if m=max (ls.getD a 0) (ls.getD b 0) then min (ls.getD a 0) (ls.getD b 0) else m) (SqL.of hl) (small4k (by omega)) (fun z _ H' Q' q'=>?_) fun D hD=>?_⟩
   · refine ⟨_,rfl,_,rfl,rfl,_,rfl,?_⟩
     refine ite2 (fun he=>?_) (fun he=>?_)
     · have he:z=max (ls.getD a 0) (ls.getD b 0):=by simpa using he
       rw [if_pos he] at q'
       exact ⟨_,rfl,q'⟩
     · have he:¬ z=max (ls.getD a 0) (ls.getD b 0):=by simpa using he
       rw [if_neg he] at q'
       exact ⟨_,rfl,q'⟩
   · have ng:g≠D:=ne_of_none hg hD
     refine ⟨_,rfl,g,C,dx,_,rfl,(by rw [upd_ne ng];exact hg),TG.cl,TG.nL,(by rw [gf_eq];show 1 < 1000;decide),?_⟩
     rw [gf_put]
     refine k _ ⟨dx,D,upd_same,?_⟩ fun c o e hc=>?_
     · show upd _ g _ D=_
       rw [upd_ne ng.symm,upd_same]
       rfl
     · rw [upd_ne hc,upd_ne (ne_of_none e hD)]
       exact e
theorem scTog:FnScope ["self","a","b"] ["self","a","b"] (defScope sTog):=scm
theorem ok_tog {f C:Addr}{fd:FuncData} (F:Fun K "together" "Groups.together" sTog f fd) (TG:TxtG K mg C):FnOk P w K mg base CX0 1 f fd ["self","a","b"] (spTog C):=by
 refine F.ok scTog (fun vs H Q E h=>?_) (fun cdv A outer s H vs Q E hr h=>?_)
 · obtain ⟨g,ls,a,b,rfl,_⟩:=h
   rfl
 · obtain ⟨g,ls,a,b,rfl,⟨dx,l,hg,hl⟩,ha,hb,k⟩:=h
   refine ⟨_,pss_one (ps_ret (pe_cmpR op_eq (pe_ix ix_l (pe_fld (pv 0) rfl) (pv 1) (fun _ _=>rfl)) (pe_ix ix_l (pe_fld (pv 0) rfl) (pv 2) (fun _ _=>rfl)) (nomark _))),?_⟩
   refine ⟨_,rfl,g,C,dx,_,_,rfl,hg,TG.cl,TG.nL,gf_least l,_,rfl,rd_at a hl ha ⟨_,rfl,g,C,dx,_,_,rfl,hg,TG.cl,TG.nL,gf_least l,_,rfl,rd_at b hl hb ⟨rfl,?_⟩⟩⟩
   have e:decide (V.int (ls.getD a 0)=V.int (ls.getD b 0))=decide (ls.getD a 0=ls.getD b 0):=by
    by_cases h:ls.getD a 0=ls.getD b 0
    · rw [decide_eq_true h,h];exact decide_eq_true rfl
    · rw [decide_eq_false h];exact decide_eq_false fun z=>h (V.int.inj z)
   rw [e]
   exact k
theorem scGInit:FnScope ["self","marks","pairs","a","b"] ["self","marks","pairs"] (defScope sGInit):=scm
theorem ok_ginit {f C:Addr}{fd:FuncData} (F:Fun K "__init__" "Groups.__init__" sGInit f fd) (T:Txt K mg) (TG:TxtG K mg C) (U:Rdm P w K mg base C "unite" ["self","a","b"] 1 (spUni C)):FnOk P w K mg base CX0 2 f fd ["self","marks","pairs"] (spGInit C):=by
 refine F.ok scGInit (fun vs H Q E h=>?_) (fun cdv A outer s H vs Q E hr h=>?_)
 · obtain ⟨g,dx,n,l,ps,rfl,_⟩:=h
   rfl
 · obtain ⟨g,dx,n,l,ps,rfl,hg,hl,hp,hn,hpl,k⟩:=h
   refine ⟨_,(pss_cons (ps_fld (pv 0) (pe_callTy (call_listRng rfl) rfl T.list bt_list (pa_cons (pe_rng rfl T.range (pa_cons (pv 1) pa_nil)) pa_nil)) rfl)
    (pss_one (ps_for PassesOwn.never rfl (pi_list (pv 2)) (pg_tup rfl (pgs_cons (pg_name (i:=3) scGInit.nd rfl (Or.inl rfl)) (pgs_cons (pg_name (i:=4) scGInit.nd rfl (Or.inl rfl)) pgs_nil))) (pss_one (ps_expr (U.pe hr (pv 0) (pa_cons (pv 3) (pa_cons (pv 4) pa_nil)))))))),?_⟩
   refine ⟨_,rfl,_,rfl,fun r hr0=>rd_range (K:=K) upd_same (by omega) fun q H1 hq iq s1=>?_⟩
   have s1:Same H H1:=((Same.refl H).upd hr0).trans s1
   refine ⟨_,rfl,g,C,dx,[],rfl,s1 _ _ hg,TG.cl,TG.nL,(by show 0 < 1000;decide),?_⟩
   have nq:q≠g:=fun e=>by
    rw [e,upd_ne (ne_of_none hg hr0),hg] at hq
    cases hq
   have G1:GAt C (upd H1 g (.ins C dx (putF "least" (.ref q) []))) g (labs n (ps.take 0)):=⟨dx,q,upd_same,iq.other nq⟩
   have K1:Kp g H (upd H1 g (.ins C dx (putF "least" (.ref q) []))):=fun c o e nc=>by rw [upd_ne nc];exact s1 _ _ e
   refine ⟨_,rfl,l,rfl,⟨_,SqL.of (hl.kp K1 hg).is⟩,for_list (K:=K) (a:=l) (xs:=ps.map fun p=>V.ref p.1) (fun i σ H2=>∃ x y:Option V,σ=[some (.ref g),some (.int n),some (.ref l),x,y]∧GAt C H2 g (labs n (ps.take i))∧Kp g H H2)
    ⟨none,none,rfl,G1,K1⟩ (fun i σ H2 _ ⟨_,_,_,_,k2⟩=>SqL.of (hl.kp k2 hg).is) ?_ ?_⟩
   · rintro i y σ H2 hi ⟨x,z,rfl,G2,K2⟩
     obtain ⟨p,rfl,ep⟩:=get_ref hi
     obtain ⟨a,b,er,ha,hb⟩:=hp p (List.mem_of_getElem? ep)
     have ht:=(hl.kp K2 hg).tp p (List.mem_of_getElem? ep)
     rw [er] at ht
     have L2:=labs_take (i:=i) hp
     obtain ⟨dx2,l2,hg2,il2⟩:=G2.ob
     refine ⟨p.1,_,rfl,SqT.of ht,rfl,_,_,rfl,_,_,rfl,rfl,?_⟩
     refine ⟨_,rfl,g,dx2,_,rfl,hg2,gf_no _ (by decide),_,rfl,_,rfl,g,_,a,b,rfl,⟨dx2,l2,hg2,il2⟩,by rw [L2.len];exact ha,by rw [L2.len];exact hb,by rw [L2.len];omega,fun H3 G3 K3=>?_⟩
     refine ⟨_,_,rfl,?_,K2.trans K3⟩
     rw [labs_succ ep,er]
     exact G3
   · rintro σ H2 ⟨x,y,rfl,G2,K2⟩
     rw [List.length_map,List.take_length] at G2
     exact k _ G2 K2
theorem scPut:FnScope ["self","doors","door","row"] ["self","doors","door","row"] (defScope sPut):=scm
theorem ok_put {f CF CG:Addr}{fd:FuncData} (F:Fun K "put" "Fold.put" sPut f fd) (TF:TxtF K mg CF):FnOk P w K mg base CX0 1 f fd ["self","doors","door","row"] (spPut CF CG):=by
 refine F.ok scPut (fun vs H Q E h=>?_) (fun cdv A outer s H vs Q E hr h=>?_)
 · obtain ⟨H0,rows,rd,n,f,x,t,a,d,st,m,s,rfl,_⟩:=h
   rfl
 · obtain ⟨H0,rows,rd,n,f,x,t,a,d,st,m,sd,rfl,fr,FA,ok,hm,hx,ht,ha,hw,k⟩:=h
   have hu1:=hu_of hr
   have hd:=FA.dd m x hx
   have n0:0 < n:=by omega
   have ht2:H t=some (.tup ((key ((rd a).getD 2 0) sd).map kV)):=ht
   refine ⟨_,(pss_one (ps_if (pt_cmp (pc_din hu1 (pv 2) (pv 1)) rfl) (pss_one (ps_expr (pe_bm PySem.F.plainAttrs_list PySem.F.slot_list_append PySem.F.type_list_append mt_append (pe_fld (pv 0) rfl) (pa_cons (pe_tup (pa_cons (pe_dget hu1 (pv 1) (pv 2) (fun _ _=>rfl)) (pa_cons (pv 3) (pa_cons (pe_ix ix_t (pv 2) pe_int (fun _ _=>rfl)) pa_nil)))) pa_nil)))) (pss_one (ps_dput hu1 (pv 1) (pv 2) (pv 3) rfl)))),?_⟩
   refine ⟨_,rfl,_,rfl,x,_,rfl,DGet.t hd ht2,_,rfl,?_⟩
   cases e:valV (st.D m) (key ((rd a).getD 2 0) sd) with
   | none=>
    refine iteF ⟨_,rfl,_,rfl,_,rfl,x,_,rfl,DPut.t hd ht2 (small4k (Nat.le_trans (ok.dlen fr.rw hm) (by decide))),?_⟩
    obtain ⟨FA',k'⟩:=FA.putD hx (putK (st.D m) (key ((rd a).getD 2 0) sd) (.ref a))
    rw [← fput_none e] at FA'
    exact k _ FA' k'
   | some v=>
    obtain ⟨s',r,er,hrr,_,_⟩:=(ok.dom m hm _ (valV_mem e)).is
    obtain rfl:v=.ref r:=(Prod.mk.inj er).2
    obtain ⟨wa,w1,w2,w3⟩:=FA.wl
    have g:=DGet.t hd ht2
    rw [e] at g
    refine iteT ⟨_,rfl,f,CF,d.dx,_,_,rfl,FA.ob,TF.cl,TF.nW,ff_w d,.inl ⟨rfl,_,SqL.of w1⟩,_,rfl,_,rfl,x,_,rfl,g,_,rfl,_,rfl,rd_col (r:=[(rd a).getD 2 0,sd]) 1 ht (show 1 < 2 by decide) ⟨(show 3≤sizeLine by decide),fun q hq=>?_⟩⟩
    have F1:=FA.same (H':=upd H q (.tup [V.ref r,V.ref a,V.int sd])) ((Same.refl H).upd hq)
    have k1:Kx d H (upd H q (.tup [V.ref r,V.ref a,V.int sd])):=Kx.of ((Same.refl H).upd hq)
    have nlw:d.lw≠q:=ne_of_none w1 hq
    refine ⟨d.lw,_,_,rfl,rfl,(by rw [upd_ne nlw];exact w1),small4k (by rw [List.length_map];omega),?_⟩
    obtain ⟨F2,k2⟩:=F1.putW n0 ok.lab (wa++[q]) (st.W++[(r,a,sd)]) (by simp [w2]) fun i t' e' h1 h2=>by
     by_cases hi:i < wa.length
     · rw [List.getElem?_append_left hi] at h1
       rw [List.getElem?_append_left (by omega)] at h2
       have:=w3 i t' e' h1 h2
       rw [upd_ne (ne_of_none this hq)]
       exact this
     · rw [List.getElem?_append_right (by omega)] at h1 h2
       have z:i - wa.length=0:=by
        have:=(List.getElem?_eq_some_iff.mp h1).1
        simp at this
        omega
       rw [z] at h1
       rw [← w2,z] at h2
       cases h1
       cases h2
       exact upd_same
    rw [List.map_append] at F2 k2
    rw [← fput_some (a:=a) e] at F2
    exact k _ F2 (k1.trans k2)
theorem scLay:FnScope ["self","row","side","least"] ["self","row"] (defScope sLay):=scm
theorem ok_lay {f CF CG:Addr}{fd:FuncData} (F:Fun K "lay" "Fold.lay" sLay f fd) (TF:TxtF K mg CF) (TG:TxtG K mg CG) (N:Rdy P w K mg base "near_mark" ["row","side"] 1 spNear) (PU:Rdm P w K mg base CF "put" ["self","doors","door","row"] 1 (spPut CF CG)):FnOk P w K mg base CX0 2 f fd ["self","row"] (spLay CF CG):=by
 refine F.ok scLay (fun vs H Q E h=>?_) (fun cdv A outer s H vs Q E hr h=>?_)
 · obtain ⟨H0,rows,rd,n,f,a,d,st,rfl,_⟩:=h
   rfl
 · obtain ⟨H0,rows,rd,n,f,a,d,st,rfl,fr,FA,ok,ha,hw,k⟩:=h
   refine ⟨_,(pss_one (ps_for PassesOwn.never rfl (pi_tup (pe_tup (pa_cons pe_int (pa_cons (pe_un un_neg pe_int) pa_nil)))) (pg_name (i:=2) scLay.nd rfl (Or.inl rfl)) (pss_cons (ps_set (i:=3) scLay.nd rfl (Or.inl rfl) (pe_ix ix_l (pe_fld (pe_fld (pv 0) rfl) rfl) (N.pe hr (pa_cons (pv 1) (pa_cons (pv 2) pa_nil))) (fun _ _=>rfl)))
    (pss_one (ps_expr (PU.pe hr (pv 0) (pa_cons (pe_ix ix_l (pe_fld (pv 0) rfl) (pv 3) (fun _ _=>rfl)) (pa_cons (pe_tup (pa_cons (pe_ix ix_t (pv 1) pe_int (fun _ _=>rfl)) (pa_cons (pv 2) pa_nil))) (pa_cons (pv 1) pa_nil))))))))),?_⟩
   refine ⟨_,rfl,(show 2≤sizeLine by decide),fun q hq=>⟨q,rfl,⟨_,SqT.of upd_same⟩,?_⟩⟩
   have row:=fr.rw.row a ha
   have turn:∀ (sd:Int) (st':FS) (x y:Option V) (D:Ends) (H2:Hp),Side sd→FAt CF CG H0 H2 f d n st'→FOk n rows rd st'→st'.W.length≤9989999→Kx d (upd H q (.tup [V.int 1,V.int (-1)])) H2→
     (∀ x y H3,FAt CF CG H0 H3 f d n (fput st' (at_ st'.l (My.mk (rd a) sd)) ((rd a).getD 2 0) sd a)→Kx d (upd H q (.tup [V.int 1,V.int (-1)])) H3→D.nx [some (.ref f),some (.ref a),x,y] H3)→
     tSeq (tAsg (tOp (wr2 (rIxL K)) (tFld K (tFld K (tVar 0) "groups") "least") (tCall spNear [] E0 (tCons (tVar 1) (tCons (tVar 2) tNil)))) (gName 3))
      (tDrop (tMeth CF "put" (spPut CF CG) [] E0 (tVar 0) (tCons (tOp (wr2 (rIxL K)) (tFld K (tVar 0) "doors") (tVar 3)) (tCons (tTup (tCons (tOp (wr2 (rIxT K)) (tVar 1) (tC (.int 2))) (tCons (tVar 2) tNil))) (tCons (tVar 1) tNil)))))
      D [some (.ref f),some (.ref a),some (.int sd),y] H2:=by
    intro sd st' x y D H2 hsd F2 ok2 w2 k2 kd
    obtain ⟨gx,gl,g1,g2⟩:=F2.gr.ob
    have hat:=F2.sa _ _ (fr.tp a ha)
    obtain ⟨e1,e2⟩:=row.mk sd
    have L:=ok2.lab
    obtain ⟨m1,m2⟩:=at_lt L e2
    refine ⟨_,rfl,f,CF,d.dx,_,_,rfl,F2.ob,TF.cl,TF.nG,ff_g d,d.g,CG,gx,_,_,rfl,g1,TG.cl,TG.nL,gf_least gl,_,rfl,_,rfl,a,rd a,sd,rfl,hat,row.len,rd_at (My.mk (rd a) sd) g2 (by rw [L.len];exact e2) ?_ e1⟩
    obtain ⟨z,hz⟩:∃ z,d.ds[at_ st'.l (My.mk (rd a) sd)]?=some z:=⟨d.ds[at_ st'.l (My.mk (rd a) sd)]'(by rw [F2.dn];exact m1),List.getElem?_eq_getElem _⟩
    refine ⟨_,rfl,f,d.dx,_,rfl,F2.ob,ff_put d,_,rfl,f,CF,d.dx,_,_,rfl,F2.ob,TF.cl,TF.nD,ff_d d,_,rfl,rd_atV F2.dl (v:=.ref z) (by rw [← m2];exact atI_nat (by rw [List.getElem?_map,hz];rfl)) ?_⟩
    refine ⟨_,rfl,rd_col 2 hat (by rw [row.len];decide) ⟨_,rfl,(show 2≤sizeLine by decide),fun t ht=>⟨_,rfl,?_⟩⟩⟩
    have sm:Same H2 (upd H2 t (.tup [V.int ((rd a).getD 2 0),V.int sd])):=(Same.refl H2).upd ht
    exact ⟨H0,rows,rd,n,f,z,t,a,d,st',_,sd,rfl,fr,F2.same sm,ok2,m1,hz,upd_same,ha,by omega,fun H3 F3 k3=>kd _ _ H3 F3 ((k2.trans (Kx.of sm)).trans k3)⟩
   have ok1:=ok.put (at_lt ok.lab (row.mk 1).2).1 ha (.inl rfl:Side 1) (ok.idm _ (row.mk 1).2).symm
   refine for_tup (K:=K) (a:=q) (xs:=[V.int 1,V.int (-1)]) (fun i σ H2=>∃ x y:Option V,σ=[some (.ref f),some (.ref a),x,y]∧FAt CF CG H0 H2 f d n (if i=0 then st else if i=1 then fput st (at_ st.l (My.mk (rd a) 1)) ((rd a).getD 2 0) 1 a else flay rd st a)∧Kx d (upd H q (.tup [V.int 1,V.int (-1)])) H2)
    ⟨none,none,rfl,FA.same ((Same.refl H).upd hq),Kx.refl⟩ (fun i σ H2 _ ⟨_,_,_,_,k2⟩=>SqT.of ((FA.same ((Same.refl H).upd hq)).tup k2 upd_same)) ?_ ?_
   · rintro i v σ H2 hi ⟨x,y,rfl,F2,k2⟩
     cases i with
     | zero=>
      cases hi
      exact turn 1 st none y _ H2 (.inl rfl) F2 ok (by omega) k2 fun x y H3 F3 k3=>⟨x,y,rfl,F3,k3⟩
     | succ i=>
      cases i with
      | zero=>
       cases hi
       have w1:=fput_W st (at_ st.l (My.mk (rd a) 1)) ((rd a).getD 2 0) 1 a
       exact turn (-1) (fput st (at_ st.l (My.mk (rd a) 1)) ((rd a).getD 2 0) 1 a) none y _ H2 (.inr rfl) F2 ok1 (by omega) k2 fun x y H3 F3 k3=>⟨x,y,rfl,F3,k3⟩
      | succ i=>simp at hi
   · rintro σ H2 ⟨x,y,rfl,F2,k2⟩
     exact k _ F2 ((Kx.of ((Same.refl H).upd hq)).trans k2)
theorem fold_D {low j:Nat} (h:j≠low):∀ (es:List (List Key × V)) (st:FS),(es.foldl (fone low) st).D j=st.D j
 | [],_=>rfl
 | e::es,st=>(fold_D h es (fone low st e)).trans (fone_D st e h)
theorem scMerge:FnScope ["self","a","b","low","high","kept","gone","door"] ["self","a","b"] (defScope sMerge):=scm
theorem ok_merge {f CF CG:Addr}{fd:FuncData} (F:Fun K "merge" "Fold.merge" sMerge f fd) (T:Txt K mg) (TM:TxtM mg) (TF:TxtF K mg CF) (TG:TxtG K mg CG) (U:Rdm P w K mg base CG "unite" ["self","a","b"] 1 (spUni CG)) (PU:Rdm P w K mg base CF "put" ["self","doors","door","row"] 1 (spPut CF CG)):
  FnOk P w K mg base CX0 2 f fd ["self","a","b"] (spMerge CF CG):=by
 refine F.ok scMerge (fun vs H Q E h=>?_) (fun cdv A outer s H vs Q E hr h=>?_)
 · obtain ⟨H0,rows,rd,n,f,d,st,a,b,rfl,_⟩:=h
   rfl
 · obtain ⟨H0,rows,rd,n,f,d,st,a,b,rfl,fr,FA,ok,ha,hb,hab,hw,k⟩:=h
   have hu1:=hu_of hr
   refine ⟨_,(pss_cons (ps_set (i:=3) scMerge.nd rfl (Or.inl rfl) (pe_callB (call_min2 rfl) (by rfl) TM.min bt_min (pa_cons (pe_ix ix_l (pe_fld (pe_fld (pv 0) rfl) rfl) (pv 1) (fun _ _=>rfl)) (pa_cons (pe_ix ix_l (pe_fld (pe_fld (pv 0) rfl) rfl) (pv 2) (fun _ _=>rfl)) pa_nil))))
    (pss_cons (ps_set (i:=4) scMerge.nd rfl (Or.inl rfl) (pe_callB (call_max2 rfl) (by rfl) TM.max bt_max (pa_cons (pe_ix ix_l (pe_fld (pe_fld (pv 0) rfl) rfl) (pv 1) (fun _ _=>rfl)) (pa_cons (pe_ix ix_l (pe_fld (pe_fld (pv 0) rfl) rfl) (pv 2) (fun _ _=>rfl)) pa_nil))))
    (pss_cons (ps_expr (U.pe hr (pe_fld (pv 0) rfl) (pa_cons (pv 3) (pa_cons (pv 4) pa_nil))))
    (pss_cons (ps_set (i:=5) scMerge.nd rfl (Or.inl rfl) (pe_ix ix_l (pe_fld (pv 0) rfl) (pv 3) (fun _ _=>rfl)))
    (pss_cons (ps_set (i:=6) scMerge.nd rfl (Or.inl rfl) (pe_ix ix_l (pe_fld (pv 0) rfl) (pv 4) (fun _ _=>rfl)))
    (pss_one (ps_for PassesOwn.never rfl (pi_list (pe_callTy (call_listD rfl) rfl T.list bt_list (pa_cons (pv 6) pa_nil))) (pg_name (i:=7) scMerge.nd rfl (Or.inl rfl)) (pss_one (ps_expr (PU.pe hr (pv 0) (pa_cons (pv 5) (pa_cons (pv 7) (pa_cons (pe_dget hu1 (pv 6) (pv 7) (fun _ _=>rfl)) pa_nil))))))))))))),?_⟩
   obtain ⟨gx,gl,g1,g2⟩:=FA.gr.ob
   have L:=ok.lab
   have al:a < st.l.length:=by rw [L.len];exact ha
   have bl:b < st.l.length:=by rw [L.len];exact hb
   obtain ⟨lo,hi,e1,e2⟩:=low_high L ha hb
   have nlh:highOf st.l a b≠lowOf st.l a b:=by
    intro e
    have:((highOf st.l a b:Nat):Int)=(lowOf st.l a b:Nat):=by rw [e]
    omega
   have nfg:f≠d.g:=ne_kind FA.ob g1 fun z=>fr.ne (HO.ins.inj z).1
   refine ⟨_,rfl,f,CF,d.dx,_,_,rfl,FA.ob,TF.cl,TF.nG,ff_g d,d.g,CG,gx,_,_,rfl,g1,TG.cl,TG.nL,gf_least gl,_,rfl,rd_at a g2 al ⟨_,rfl,f,CF,d.dx,_,_,rfl,FA.ob,TF.cl,TF.nG,ff_g d,d.g,CG,gx,_,_,rfl,g1,TG.cl,TG.nL,gf_least gl,_,rfl,rd_at b g2 bl ⟨_,_,rfl,?_⟩⟩⟩
   rw [min_if, ← e1]
   refine ⟨_,rfl,f,CF,d.dx,_,_,rfl,FA.ob,TF.cl,TF.nG,ff_g d,d.g,CG,gx,_,_,rfl,g1,TG.cl,TG.nL,gf_least gl,_,rfl,rd_at a g2 al ⟨_,rfl,f,CF,d.dx,_,_,rfl,FA.ob,TF.cl,TF.nG,ff_g d,d.g,CG,gx,_,_,rfl,g1,TG.cl,TG.nL,gf_least gl,_,rfl,rd_at b g2 bl ⟨_,_,rfl,?_⟩⟩⟩
   rw [max_if, ← e2]
   refine ⟨_,rfl,f,CF,d.dx,_,_,rfl,FA.ob,TF.cl,TF.nG,ff_g d,d.g,gx,_,rfl,g1,gf_no _ (by decide),_,rfl,_,rfl,d.g,st.l,lowOf st.l a b,highOf st.l a b,rfl,FA.gr,by rw [L.len];exact lo,by rw [L.len];exact hi,by rw [L.len];have:=fr.n1;omega,fun H1 G1 K1=>?_⟩
   have F1:=FA.relab K1 G1 nfg
   have ok1:=ok.join fr.rw lo hi
   have k1:Kx d H H1:=Kx.kp K1
   obtain ⟨xl,hxl⟩:∃ z,d.ds[lowOf st.l a b]?=some z:=⟨d.ds[lowOf st.l a b]'(by rw [FA.dn];exact lo),List.getElem?_eq_getElem _⟩
   obtain ⟨xh,hxh⟩:∃ z,d.ds[highOf st.l a b]?=some z:=⟨d.ds[highOf st.l a b]'(by rw [FA.dn];exact hi),List.getElem?_eq_getElem _⟩
   refine ⟨_,rfl,f,CF,d.dx,_,_,rfl,F1.ob,TF.cl,TF.nD,ff_d d,_,rfl,rd_atV F1.dl (v:=.ref xl) (atI_nat (by rw [List.getElem?_map,hxl];rfl)) ?_⟩
   refine ⟨_,rfl,f,CF,d.dx,_,_,rfl,F1.ob,TF.cl,TF.nD,ff_d d,_,rfl,rd_atV F1.dl (v:=.ref xh) (atI_nat (by rw [List.getElem?_map,hxh];rfl)) ?_⟩
   have dh:=F1.dd _ _ hxh
   have dl:=ok1.dlen fr.rw hi
   have hes:∀ e∈st.D (highOf st.l a b),DoorOk rows rd (jn st.l (lowOf st.l a b) (highOf st.l a b)) (lowOf st.l a b) e:=fun e he=>by
    obtain ⟨s,r,er,hr,hs,hl⟩:=(ok1.dom _ hi e he).is
    exact ⟨s,r,er,hr,hs,hl.trans (low_joined L lo hi).symm⟩
   refine ⟨_,rfl,⟨⟨xh,_,rfl,dh,fun ts lk hlk hlen htup=>⟨lk,rfl,⟨_,SqL.of upd_same⟩,?_⟩⟩⟩⟩
   have F2:=F1.same (H':=upd H1 lk (.lst (ts.map V.ref))) ((Same.refl H1).upd hlk)
   have k2:=k1.trans (Kx.of (d:=d) ((Same.refl H1).upd (o:=.lst (ts.map V.ref)) hlk))
   have nk1:lk≠d.lw:=by obtain ⟨_,w1,_⟩:=F1.wl;exact (ne_of_none w1 hlk).symm
   have nk2:lk≠d.lx:=by obtain ⟨_,t1,_⟩:=F1.sl;exact (ne_of_none t1.is hlk).symm
   have nk3:lk≠d.g:=by obtain ⟨_,_,w1,_⟩:=F1.gr.ob;exact (ne_of_none w1 hlk).symm
   have nk4:lk∉d.ds:=fun z=>by
    obtain ⟨m,hm,e⟩:=List.getElem_of_mem z
    have:=F1.dd m lk (by rw [List.getElem?_eq_getElem hm,e])
    rw [this] at hlk;cases hlk
   refine for_list (K:=K) (a:=lk) (xs:=ts.map V.ref) (fun i σ H3=>∃ x:Option V,σ=[some (.ref f),some (.int a),some (.int b),some (.int (lowOf st.l a b)),some (.int (highOf st.l a b)),some (.ref xl),some (.ref xh),x]∧
    FAt CF CG H0 H3 f d n (((st.D (highOf st.l a b)).take i).foldl (fone (lowOf st.l a b)) { st with l:=jn st.l (lowOf st.l a b) (highOf st.l a b) })∧Kx d (upd H1 lk (.lst (ts.map V.ref))) H3)
    ⟨none,rfl,F2,Kx.refl⟩ (fun i σ H3 _ ⟨_,_,_,k3⟩=>SqL.of (k3 _ _ upd_same nk1 nk2 nk3 nk4)) ?_ ?_
   · rintro i v σ H3 hi' ⟨x,rfl,F3,k3⟩
     rw [List.getElem?_map] at hi'
     cases et:ts[i]? with
     | none=>rw [et] at hi';cases hi'
     | some t=>
      rw [et] at hi'
      obtain rfl:=Option.some.inj hi'
      have il:i < (st.D (highOf st.l a b)).length:=by rw [← hlen];exact (List.getElem?_eq_some_iff.mp et).1
      obtain ⟨e,ee⟩:∃ e,(st.D (highOf st.l a b))[i]?=some e:=⟨_,List.getElem?_eq_getElem il⟩
      have me:=List.mem_of_getElem? ee
      obtain ⟨s,r,er,hrr,hs,hl⟩:=(hes e me).is
      have tt:=htup i t e et ee
      have ee':=ee
      rw [er] at tt
      have tt3:H3 t=some (.tup [.int ((rd r).getD 2 0),.int s]):=F2.tup k3 (by rw [upd_ne (ne_of_none tt hlk)];exact tt)
      obtain ⟨o1,o2,o3,o4⟩:=fold_ok lo ((st.D (highOf st.l a b)).take i) _ ok1 fun e' h'=>hes e' (List.mem_of_mem_take h')
      have dh3:=F3.dd _ _ hxh
      rw [fold_D nlh] at dh3
      have dv:valV (st.D (highOf st.l a b)) (key ((rd r).getD 2 0) s)=some (.ref r):=by
       have:=valV_of_nd (ok1.nd _ hi) me
       rw [er] at this
       exact this
      have gg:=DGet.t dh3 (k:=key ((rd r).getD 2 0) s) tt3
      rw [dv] at gg
      have lt:((st.D (highOf st.l a b)).take i).length≤10:=by rw [List.length_take];have:(st.D (highOf st.l a b)).length≤10:=dl;omega
      have hw':({ st with l:=jn st.l (lowOf st.l a b) (highOf st.l a b) }:FS).W.length=st.W.length:=rfl
      refine ⟨_,rfl,f,d.dx,_,rfl,F3.ob,ff_put d,_,rfl,_,rfl,_,rfl,_,rfl,xh,_,rfl,gg,?_⟩
      refine ⟨H0,rows,rd,n,f,xl,t,r,d,_,_,s,rfl,fr,F3,o1,lo,hxl,tt3,hrr,by omega,fun H4 F4 k4=>⟨_,rfl,?_,k3.trans k4⟩⟩
      rw [take_fold' ee',er]
      exact F4
   · rintro σ H3 ⟨x,rfl,F3,k3⟩
     rw [List.length_map,hlen] at F3
     dsimp only at F3
     rw [List.take_length] at F3
     exact k _ F3 (k2.trans k3)
theorem scSettle:FnScope ["self","one","two","side","a","b"] ["self"] (defScope sSettle):=scm
theorem ok_settle {f CF CG:Addr}{fd:FuncData} (F:Fun K "settle" "Fold.settle" sSettle f fd) (TF:TxtF K mg CF) (TG:TxtG K mg CG) (FA:Rdy P w K mg base "far_mark" ["row","side"] 2 spFar) (O:Rdm P w K mg base CG "together" ["self","a","b"] 1 (spTog CG)) (ME:Rdm P w K mg base CF "merge" ["self","a","b"] 2 (spMerge CF CG)):
  FnOk P w K mg base CX0 3 f fd ["self"] (spSettle CF CG):=by
 refine F.ok scSettle (fun vs H Q E h=>?_) (fun cdv A outer s H vs Q E hr h=>?_)
 · obtain ⟨H0,rows,rd,n,f,d,st,J,rfl,_⟩:=h
   rfl
 · obtain ⟨H0,rows,rd,n,f,d,st,J,rfl,fr,F0,ok,kj,j0,b1,b2,k⟩:=h
   refine ⟨_,(pss_one (ps_while PassesOwn.never (pt_truth (pe_fld (pv 0) rfl) (fun _=>rfl)) (pss_cons (ps_asg (pe_bm0 PySem.F.plainAttrs_list PySem.F.slot_list_pop PySem.F.type_list_pop mt_pop (pe_fld (pv 0) rfl)) (pg_tup rfl (pgs_cons (pg_name (i:=1) scSettle.nd rfl (Or.inl rfl)) (pgs_cons (pg_name (i:=2) scSettle.nd rfl (Or.inl rfl)) (pgs_cons (pg_name (i:=3) scSettle.nd rfl (Or.inl rfl)) pgs_nil)))))
    (pss_cons (ps_set (i:=4) scSettle.nd rfl (Or.inl rfl) (FA.pe hr (pa_cons (pv 1) (pa_cons (pv 3) pa_nil))))
    (pss_cons (ps_set (i:=5) scSettle.nd rfl (Or.inl rfl) (FA.pe hr (pa_cons (pv 2) (pa_cons (pv 3) pa_nil))))
    (pss_one (ps_if (pt_not (pt_val (O.pe hr (pe_fld (pv 0) rfl) (pa_cons (pv 4) (pa_cons (pv 5) pa_nil))))) (pss_cons (ps_expr (pe_bm PySem.F.plainAttrs_list PySem.F.slot_list_append PySem.F.type_list_append mt_append (pe_fld (pv 0) rfl) (pa_cons (pe_tup (pa_cons (pe_ix ix_t (pv 1) pe_int (fun _ _=>rfl)) (pa_cons (pe_ix ix_t (pv 2) pe_int (fun _ _=>rfl)) (pa_cons (pv 3) pa_nil)))) pa_nil)))
    (pss_one (ps_expr (ME.pe hr (pv 0) (pa_cons (pv 4) (pa_cons (pv 5) pa_nil)))))) pss_nil))))))),?_⟩
   refine ⟨fun m σ H2=>∃ (x y z u v:Option V) (st':FS),σ=[some (.ref f),x,y,z,u,v]∧FAt CF CG H0 H2 f d n st'∧FOk n rows rd st'∧J st'∧st'.W.length+10 * sumL st'.l≤9000000∧st'.ss.length+sumL st'.l≤9000000∧Kx d H H2∧m=11 * sumL st'.l+st'.W.length,⟨_,none,none,none,none,none,st,rfl,F0,ok,j0,b1,b2,Kx.refl,rfl⟩,?_⟩
   rintro m σ H2 ⟨x,y,z,u,v,st',rfl,F2,ok2,j2,c1,c2,k2,rfl⟩
   obtain ⟨wa,w1,w2,w3⟩:=F2.wl
   refine ⟨_,rfl,f,CF,d.dx,_,_,rfl,F2.ob,TF.cl,TF.nW,ff_w d,_,.inl ⟨_,SqL.of w1,rfl⟩,?_⟩
   rcases List.eq_nil_or_concat st'.W with eW | ⟨W,e,eW⟩
   · have:wa=[]:=by rw [eW] at w2;exact List.length_eq_zero_iff.mp w2
     rw [this]
     exact k st' H2 F2 ok2 j2 eW (by omega) k2
   · rw [List.concat_eq_append] at eW
     have wl:wa.length=W.length+1:=by rw [w2,eW,List.length_append];rfl
     rcases List.eq_nil_or_concat wa with ew | ⟨wb,t,ew⟩
     · rw [ew] at wl;simp at wl
     · rw [List.concat_eq_append] at ew
       subst ew
       have wl:wb.length=W.length:=by rw [List.length_append] at wl;simpa using wl
       have ht:H2 t=some (.tup [.ref e.1,.ref e.2.1,.int e.2.2]):=w3 wb.length t e (by rw [List.getElem?_append_right (Nat.le_refl _),Nat.sub_self];rfl) (by rw [eW,wl,List.getElem?_append_right (Nat.le_refl _),Nat.sub_self];rfl)
       obtain ⟨ok3,we⟩:=ok2.pop eW
       have n0:0 < n:=Nat.lt_of_le_of_lt (Nat.zero_le _) ((fr.rw.row _ we.x).mk 1).2
       have F3':=F2.putW n0 ok2.lab wb W wl fun i t' e' h1 h2=>w3 i t' e' (by rw [List.getElem?_append_left (List.getElem?_eq_some_iff.mp h1).1];exact h1) (by rw [eW,List.getElem?_append_left (List.getElem?_eq_some_iff.mp h2).1];exact h2)
       obtain ⟨F3,k3⟩:=F3'
       obtain ⟨a,b,sd⟩:=e
       have ra:=fr.rw.row _ we.x
       have rb:=fr.rw.row _ we.y
       have hrep:(((wb++[t]).map V.ref).isEmpty)=false:=by rw [List.map_append];cases wb <;> rfl
       rw [hrep]
       refine iteT ⟨fun σ' H'=>∃ (x y z u v:Option V) (st'':FS),σ'=[some (.ref f),x,y,z,u,v]∧FAt CF CG H0 H' f d n st''∧FOk n rows rd st''∧J st''∧st''.W.length+10 * sumL st''.l≤9000000∧st''.ss.length+sumL st''.l≤9000000∧Kx d H H'∧11 * sumL st''.l+st''.W.length < 11 * sumL st'.l+st'.W.length,fun σ' H' ⟨x,y,z,u,v,st'',h1,h2,h3,h4,h5,h6,h7,h8⟩=>⟨_,h8,x,y,z,u,v,st'',h1,h2,h3,h4,h5,h6,h7,rfl⟩,?_⟩
       have js:=kj st' W a b sd ok2 eW j2
       obtain ⟨o1,o2,o3,o4⟩:=fstep_ok fr.rw ok3 we
       have wlen:st'.W.length=W.length+1:=by rw [eW,List.length_append];rfl
       have ed:((wb++[t]).map V.ref).dropLast=wb.map V.ref:=by rw [List.map_append];exact List.dropLast_concat
       refine ⟨_,rfl,f,CF,d.dx,_,_,rfl,F2.ob,TF.cl,TF.nW,ff_w d,.inl ⟨rfl,_,SqL.of w1⟩,d.lw,_,.ref t,rfl,rfl,w1,by rw [List.map_append,List.length_append,List.getElem?_append_right (by simp)];simp,?_⟩
       rw [ed]
       have ht3:=F2.tup k3 ht
       refine ⟨t,_,rfl,SqT.of ht3,rfl,_,_,rfl,_,_,rfl,_,_,rfl,rfl,?_⟩
       have ta:=F3.sa _ _ (fr.tp _ we.x)
       have tb:=F3.sa _ _ (fr.tp _ we.y)
       refine ⟨_,rfl,_,rfl,a,rd a,sd,rfl,ta,ra.len,?_⟩
       refine ⟨_,rfl,_,rfl,b,rd b,sd,rfl,tb,rb.len,?_⟩
       rw [(ra.mk (-sd)).1,(rb.mk (-sd)).1]
       obtain ⟨gx,gl,g1,g2⟩:=F3.gr.ob
       have L:=ok3.lab
       refine ⟨_,rfl,f,CF,d.dx,_,_,rfl,F3.ob,TF.cl,TF.nG,ff_g d,d.g,gx,_,rfl,g1,gf_no _ (by decide),_,rfl,_,rfl,d.g,st'.l,My.mk (rd a) (-sd),My.mk (rd b) (-sd),rfl,F3.gr,by rw [L.len];exact (ra.mk _).2,by rw [L.len];exact (rb.mk _).2,_,rfl,?_⟩
       by_cases he:st'.l.getD (My.mk (rd a) (-sd)) 0=st'.l.getD (My.mk (rd b) (-sd)) 0
       · rw [decide_eq_true he]
         have ef:fstep rd { st' with W:=W } a b sd={ st' with W:=W }:=if_pos he
         rw [ef] at js
         refine iteF ⟨_,_,_,_,_,{ st' with W:=W },rfl,F3,ok3,js,?_,c2,k2.trans k3,?_⟩
         · dsimp only;omega
         · dsimp only;omega
       · rw [decide_eq_false he]
         have ef:fstep rd { st' with W:=W } a b sd=fmerge { st' with W:=W,ss:=st'.ss++[[(rd a).getD 0 0,(rd b).getD 0 0,sd]] } (My.mk (rd a) (-sd)) (My.mk (rd b) (-sd)):=if_neg he
         obtain ⟨sp,t1,t2⟩:=F3.sl
         refine iteT ⟨_,rfl,f,CF,d.dx,_,_,rfl,F3.ob,TF.cl,TF.nS,ff_s d,.inl ⟨rfl,_,SqL.of t1.is⟩,_,rfl,rd_col 0 ta (by rw [ra.len];decide) ⟨_,rfl,rd_col 0 tb (by rw [rb.len];decide) ⟨_,rfl,(show 3≤sizeLine by decide),fun q hq=>?_⟩⟩⟩
         have F4:=F3.same (H':=upd _ q (.tup [V.int ((rd a).getD 0 0),V.int ((rd b).getD 0 0),V.int sd])) ((Same.refl _).upd hq)
         have k4:Kx d _ (upd _ q (.tup [V.int ((rd a).getD 0 0),V.int ((rd b).getD 0 0),V.int sd])):=Kx.of ((Same.refl _).upd hq)
         have nlx:d.lx≠q:=ne_of_none t1.is hq
         have spl:sp.length=st'.ss.length:=by rw [← (show _=st'.ss from t2),List.length_map]
         refine ⟨d.lx,_,_,rfl,rfl,(by rw [upd_ne nlx];exact t1.is),small4k (by rw [List.length_map];omega),?_⟩
         obtain ⟨F5,k5⟩:=F4.putS n0 L (sp++[(q,[(rd a).getD 0 0,(rd b).getD 0 0,sd])]) fun p hp=>by
          rcases List.mem_append.mp hp with h | h
          · have:=t1.tp p h
            rw [upd_ne (ne_of_none this hq)]
            exact this
          · obtain rfl:=List.mem_singleton.mp h
            exact upd_same
         rw [List.map_append] at F5 k5
         rw [List.map_append,show sp.map (·.2)=st'.ss from t2] at F5
         refine ⟨_,rfl,f,d.dx,_,rfl,F5.ob,ff_merge d,_,rfl,_,rfl,H0,rows,rd,n,f,d,_,My.mk (rd a) (-sd),My.mk (rd b) (-sd),rfl,fr,F5,ok3.sss _,(ra.mk _).2,(rb.mk _).2,he,(by dsimp only;omega),fun H6 F6 k6=>?_⟩
         have F7:FAt CF CG H0 H6 f d n (fstep rd { st' with W:=W } a b sd):=by rw [ef];exact F6
         exact ⟨_,_,_,_,_,_,rfl,F7,o1,js,by dsimp only at o3;omega,by dsimp only at o4;omega,(((k2.trans k3).trans k4).trans k5).trans k6,by dsimp only at o2;omega⟩
theorem none_of {H H':Hp} (s:Same H H') {x:Addr} (h:H' x=none):H x=none:=by
 cases e:H x with
 | none=>rfl
 | some o=>rw [s _ _ e] at h;cases h
theorem scFInit:FnScope ["self","marks","start"] ["self","marks","start"] (defScope sFInit):=scm
theorem ok_finit {f CF CG:Addr}{fd:FuncData} (F:Fun K "__init__" "Fold.__init__" sFInit f fd) (T:Txt K mg) (TF:TxtF K mg CF) (GR:Rdk P w K mg base CG "Groups" ["self","marks","pairs"] 2 (spGInit CG)):FnOk P w K mg base CX0 4 f fd ["self","marks","start"] (spFInit CF CG):=by
 refine F.ok scFInit (fun vs H Q E h=>?_) (fun cdv A outer s H vs Q E hr h=>?_)
 · obtain ⟨H0,f,dx,n,ls,ps,rfl,_⟩:=h
   rfl
 · obtain ⟨H0,f,dx,n,ls,ps,rfl,hf,f0,sa,ts,hp,hn,hpl,hne,k⟩:=h
   refine ⟨_,(pss_cons (ps_fld (pv 0) (GR.pe hr (pa_cons (pv 1) (pa_cons (pv 2) pa_nil))) rfl)
    (pss_cons (ps_fld (pv 0) (pe_compW [] [] (pi_range1 rfl T.range (pa_cons (pv 1) pa_nil)) (fun C s H fp=>pe_dnewT) hcl_nil) rfl)
    (pss_cons (ps_fld (pv 0) (pe_lst pa_nil) rfl)
    (pss_one (ps_fld (pv 0) (pe_lst pa_nil) rfl))))),?_⟩
   refine ⟨_,rfl,_,rfl,fun g gx hg hgx nd=>?_⟩
   have s0:Same H (upd (upd H gx (.own g)) g (.ins CG gx [])):=((Same.refl H).upd hgx).upd hg
   refine ⟨g,gx,n,ls,ps,rfl,upd_same,ts.same s0,hp,hn,hpl,fun H1 G1 K1=>⟨rfl,?_⟩⟩
   have s1:Same H H1:=fun c o e=>K1 c o (s0 c o e) (ne_of_none e hg)
   have hf1:=s1 _ _ hf
   have nfg:f≠g:=ne_of_none hf hg
   have sa1:Same H0 H1:=sa.trans s1
   refine ⟨_,rfl,f,CF,dx,[],rfl,hf1,TF.cl,TF.nG,(by show 0 < 1000;decide),?_⟩
   have sa2:Same H0 (upd H1 f (.ins CF dx (putF "groups" (.ref g) []))):=sa1.upd f0
   dsimp only [tSeq,sFld]
   refine newD_rd (n:=n) rfl hn fun D ds H3 hD e3 hl nd3 hx s3=>?_
   have hf3:=s3 _ _ (upd_same (H:=H1) (a:=f) (o:=.ins CF dx (putF "groups" (.ref g) [])))
   have sa3:=sa2.trans s3
   refine ⟨_,rfl,f,CF,dx,_,rfl,hf3,TF.cl,TF.nD,(by show 1 < 1000;decide),?_⟩
   refine ⟨Nat.zero_le _,fun lw hlw=>⟨_,rfl,f,CF,dx,putF "doors" (.ref D) (putF "groups" (.ref g) []),rfl,(upd_ne (ne_of_none upd_same hlw)).trans upd_same,TF.cl,TF.nW,(by show 2 < 1000;decide),?_⟩⟩
   refine ⟨Nat.zero_le _,fun lx hlx=>⟨_,rfl,f,CF,dx,putF "waiting" (.ref lw) (putF "doors" (.ref D) (putF "groups" (.ref g) [])),rfl,(upd_ne (ne_of_none upd_same hlx)).trans upd_same,TF.cl,TF.nS,(by show 3 < 1000;decide),?_⟩⟩
   have nlw:lw≠f:=fun e=>by rw [e,upd_same] at hlw;cases hlw
   have nlx:lx≠f:=fun e=>by rw [e,upd_same] at hlx;cases hlx
   have nxw:lw≠lx:=fun e=>by rw [← e,upd_ne nlw,upd_same] at hlx;cases hlx
   have hlw3:H3 lw=none:=by rw [upd_ne nlw] at hlw;exact hlw
   have hlx3:H3 lx=none:=by rw [upd_ne nlx,upd_ne nxw.symm,upd_ne nlx] at hlx;exact hlx
   refine k ⟨dx,g,D,lw,lx,ds⟩ _ ?_
   have keep:∀ {b:Addr}{o:HO}{o1 o2 o3 o4 o5:HO},H3 b=some o→b≠f→upd (upd (upd (upd (upd H3 f o1) lw o2) f o3) lx o4) f o5 b=some o:=fun {b o o1 o2 o3 o4 o5} e h=>by
    rw [upd_ne h,upd_ne (ne_of_none e hlx3),upd_ne h,upd_ne (ne_of_none e hlw3),upd_ne h];exact e
   obtain ⟨gx',gl,g1,g2⟩:=G1.ob
   have g3:=s3 _ _ ((upd_ne nfg.symm (H:=H1) (o:=.ins CF dx (putF "groups" (.ref g) []))).trans g1)
   have nlf:gl≠f:=ne_kind g2 hf1 (fun z=>nomatch z)
   have g4:Ints H3 gl (labs n ps):=s3 _ _ ((upd_ne nlf (H:=H1) (o:=.ins CF dx (putF "groups" (.ref g) []))).trans g2)
   have nDf:D≠f:=fun e=>by rw [e,upd_same] at hD;cases hD
   have hl':ds.length=n:=by omega
   refine ⟨?_,⟨gx',gl,keep g3 nfg.symm,keep g4 nlf⟩,keep e3 nDf,hl',nd3,fun m x e=>?_,⟨[],?_,rfl,fun i t e h1 _=>nomatch h1⟩,⟨[],⟨?_,fun _ z=>nomatch z⟩,rfl⟩,nxw,(ne_of_none e3 hlw3).symm,(ne_of_none e3 hlx3).symm,f0,none_of sa hg,none_of sa3 hlw3,none_of sa3 hlx3,fun x hx'=>none_of sa2 (hx x hx').1,?_⟩
   · rw [upd_same];rfl
   · have h:=hx x (List.mem_of_getElem? e)
     exact keep h.2.1 (ne_kind h.2.1 hf3 (fun z=>nomatch z))
   · show upd _ _ _ lw=_
     rw [upd_ne nlw,upd_ne nxw,upd_ne nlw,upd_same];rfl
   · show upd _ _ _ lx=_
     rw [upd_ne nlx,upd_same];rfl
   · exact ((((sa3.upd f0).upd (none_of sa3 hlw3)).upd f0).upd (none_of sa3 hlx3)).upd f0
theorem scFolded:FnScope ["marks","rows","start","fold","row"] ["marks","rows","start"] (defScope sFolded):=scm
theorem ok_folded {f CF CG:Addr}{fd:FuncData} (F:Fun K "folded" "folded" sFolded f fd) (T:Txt K mg) (TF:TxtF K mg CF) (TG:TxtG K mg CG) (hne:CF≠CG) (FR:Rdk P w K mg base CF "Fold" ["self","marks","start"] 4 (spFInit CF CG)) (LA:Rdm P w K mg base CF "lay" ["self","row"] 2 (spLay CF CG)) (SE:Rdm P w K mg base CF "settle" ["self"] 3 (spSettle CF CG)):
  FnOk P w K mg base CX0 6 f fd ["marks","rows","start"] spFolded:=by
 refine F.ok scFolded (fun vs H Q E h=>?_) (fun cdv A outer s H vs Q E hr h=>?_)
 · obtain ⟨n,lr,ls,ps,start,J,rfl,_⟩:=h
   rfl
 · obtain ⟨n,lr,ls,ps,start,J,rfl,tr,ts,hps,hst,hn,hpl,hsl,kj,j0,k⟩:=h
   refine ⟨_,(pss_cons (ps_set (i:=3) scFolded.nd rfl (Or.inl rfl) (FR.pe hr (pa_cons (pv 0) (pa_cons (pv 2) pa_nil))))
    (pss_cons (ps_for PassesOwn.never rfl (pi_list (pv 1)) (pg_name (i:=4) scFolded.nd rfl (Or.inl rfl)) (pss_one (ps_expr (LA.pe hr (pv 3) (pa_cons (pv 4) pa_nil)))))
    (pss_cons (ps_expr (SE.pe0 hr (pv 3)))
    (pss_one (ps_ret (pe_tup (pa_cons (pe_callTy call_listR rfl T.list bt_list (pa_cons (pe_fld (pe_fld (pv 3) rfl) rfl) pa_nil)) (pa_cons (pe_callTy call_listR rfl T.list bt_list (pa_cons (pe_fld (pv 3) rfl) pa_nil)) pa_nil)))))))),?_⟩
   refine ⟨_,rfl,_,rfl,fun f dx hf hdx nd=>?_⟩
   have s0:Same H (upd (upd H dx (.own f)) f (.ins CF dx [])):=((Same.refl H).upd hdx).upd hf
   refine ⟨H,f,dx,n,ls,start,rfl,upd_same,hf,s0,ts.same s0,hst,by omega,hsl,hne,fun d H1 F1=>⟨rfl,?_⟩⟩
   have fr:Frame CF CG H (ps.map (·.1)) (rdOf ps) n:=by
    refine ⟨⟨fun r hr=>?_,fun r hr=>?_⟩,fun r hr=>?_,by omega,by rw [List.length_map];exact hpl,hne⟩
    all_goals obtain ⟨p,hp,rfl⟩:=List.mem_map.mp hr
    all_goals rw [rdOf_eq tr.tp hp]
    · exact (hps p hp).1
    · exact (hps p hp).2
    · exact tr.tp p hp
   have ok0:FOk n (ps.map (·.1)) (rdOf ps) (fs0 n start):=fs0_ok hst
   have okk:∀ i,_:=fun i=>layk_ok fr.rw ((ps.map (·.1)).take i) (fs0 n start) ok0 fun a ha=>List.mem_of_mem_take ha
   have sl:=sumL_le ok0.lab
   have nn:n * n≤490000:=Nat.mul_le_mul hn hn
   refine ⟨_,rfl,lr,rfl,⟨_,SqL.of (tr.same F1.sa).is⟩,for_list (K:=K) (a:=lr) (xs:=ps.map fun p=>V.ref p.1) (fun i σ H2=>∃ x:Option V,σ=[some (.int n),some (.ref lr),some (.ref ls),some (.ref f),x]∧FAt CF CG H H2 f d n (((ps.map (·.1)).take i).foldl (flay (rdOf ps)) (fs0 n start)))
    ⟨none,rfl,F1⟩ (fun i σ H2 _ ⟨_,_,F2⟩=>SqL.of (tr.same F2.sa).is) ?_ ?_⟩
   · rintro i v σ H2 hi ⟨x,rfl,F2⟩
     obtain ⟨p,rfl,ep⟩:=get_ref hi
     have em:(ps.map (·.1))[i]?=some p.1:=by rw [List.getElem?_map,ep];rfl
     obtain ⟨o1,_,_,o4⟩:=okk i
     have:((ps.map (·.1)).take i).length≤1000:=by rw [List.length_take,List.length_map];omega
     refine ⟨_,rfl,f,d.dx,_,rfl,F2.ob,ff_lay d,_,rfl,H,_,rdOf ps,n,f,p.1,d,_,rfl,fr,F2,o1,List.mem_of_getElem? em,?_,fun H3 F3 _=>⟨_,rfl,?_⟩⟩
     · have:(fs0 n start).W.length=0:=rfl
       omega
     · rw [take_fold' em]
       exact F3
   · rintro σ H2 ⟨x,rfl,F2⟩
     rw [List.length_map] at F2
     obtain ⟨o1,o2,o3,o4⟩:=okk ps.length
     have et:(ps.map (·.1)).take ps.length=ps.map (·.1):=List.take_of_length_le (by rw [List.length_map];exact Nat.le_refl _)
     rw [et] at F2 o1 o2 o3 o4
     have e0:(fs0 n start).W.length=0:=rfl
     have e1:(fs0 n start).ss.length=0:=rfl
     rw [List.length_map] at o4
     refine ⟨_,rfl,f,d.dx,_,rfl,F2.ob,ff_settle d,H,_,rdOf ps,n,f,d,_,J,rfl,fr,F2,o1,kj,j0,by rw [o2];omega,by rw [o2,o3];omega,fun st' H3 F3 ok3 j3 w3 l3 _=>?_⟩
     obtain ⟨gx,gl,g1,g2⟩:=F3.gr.ob
     obtain ⟨sp,t1,t2⟩:=F3.sl
     refine ⟨_,rfl,f,CF,d.dx,_,_,rfl,F3.ob,TF.cl,TF.nG,ff_g d,d.g,CG,gx,_,_,rfl,g1,TG.cl,TG.nL,gf_least gl,rd_list g2 fun l1 H4 h4 i4 s4=>?_⟩
     refine ⟨_,rfl,f,CF,d.dx,_,_,rfl,s4 _ _ F3.ob,TF.cl,TF.nS,ff_s d,rd_listT (t1.same s4) fun l2 H5 h5 t5 s5=>⟨(show 2≤sizeLine by decide),fun t ht=>?_⟩⟩
     have s6:Same H5 (upd H5 t (.tup [.ref l1,.ref l2])):=(Same.refl H5).upd ht
     exact k t l1 l2 sp st' _ upd_same (s6.ints (s5.ints i4)) (t5.same s6) t2 ok3 j3 w3 (by rw [← List.length_map (f:=(·.2)),t2];exact l3) (F3.sa.free h4) ((F3.sa.trans s4).free h5) (((F3.sa.trans s4).trans s5).trans s6)
theorem scTrail:FnScope ["first","a","way","rows","end","at","letter","new"] ["first","a","way"] (defScope sTrail):=scm
theorem ok_trail {f:Addr}{fd:FuncData} (F:Fun K "trail" "trail" sTrail f fd) (T:Txt K mg):FnOk P w K mg base CX0 1 f fd ["first","a","way"] (spTrail K):=by
 refine F.ok scTrail (fun vs H Q E h=>?_) (fun cdv A outer s H vs Q E hr h=>?_)
 · obtain ⟨fi,st,l,ns,rfl,_⟩:=h
   rfl
 · obtain ⟨fi,st,l,ns,rfl,hS,hl,nz,k⟩:=h
   refine ⟨_,pss_cons (ps_set (i:=3) scTrail.nd rfl (Or.inl rfl) (pe_lst pa_nil))
    <| pss_cons (ps_set (i:=4) scTrail.nd rfl (Or.inl rfl) (pv 1))
    <| pss_cons (ps_for PassesOwn.never rfl (pi_enum rfl T.enum bt_enum (pa_cons (pv 2) pa_nil)) (pg_tup rfl (pgs_cons (pg_name (i:=5) scTrail.nd rfl (Or.inl rfl)) (pgs_cons (pg_name (i:=6) scTrail.nd rfl (Or.inl rfl)) pgs_nil)))
     (pss_cons (ps_set (i:=7) scTrail.nd rfl (Or.inl rfl) (pe_op op_add (pv 0) (pv 5)))
     <| pss_cons (ps_if (pt_cmpR op_gt (pv 6) pe_int (nomark _))
      (pss_one (ps_expr (pe_bm PySem.F.plainAttrs_list PySem.F.slot_list_append PySem.F.type_list_append mt_append (pv 3) (pa_cons (pe_tup (pa_cons (pe_op op_sub (pe_un un_neg pe_int) (pv 5)) (pa_cons (pv 4) (pa_cons (pv 6) (pa_cons (pv 7) pa_nil))))) pa_nil))))
      (pss_one (ps_expr (pe_bm PySem.F.plainAttrs_list PySem.F.slot_list_append PySem.F.type_list_append mt_append (pv 3) (pa_cons (pe_tup (pa_cons (pe_op op_sub (pe_un un_neg pe_int) (pv 5)) (pa_cons (pv 7) (pa_cons (pe_un un_neg (pv 6)) (pa_cons (pv 4) pa_nil))))) pa_nil)))))
     <| pss_one (ps_set (i:=4) scTrail.nd rfl (Or.inl rfl) (pv 7))))
    <| pss_one (ps_ret (pe_tup (pa_cons (pv 3) (pa_cons (pv 4) pa_nil)))),?_⟩
   refine ⟨Nat.zero_le _,fun r hr0=>?_⟩
   have s0:Same H (upd H r (.lst [])):=(Same.refl H).upd hr0
   refine ⟨_,rfl,?_⟩
   refine ⟨_,rfl,l,rfl,⟨_,s0.seq hS⟩,for_enum (K:=K) (a:=l) (xs:=ns.map V.int) (fun i σ H2=>∃ (ts:List Addr) (x y z:Option V),σ=[some (.int fi),some (.int st),some (.ref l),some (.ref r),some (.int (hereAt fi st i)),x,y,z]∧
    ts.length=i∧H2 r=some (.lst (ts.map V.ref))∧(∀ j t,ts[j]?=some t→H2 t=some (.tup ((rowAt fi st ns j).map V.int)))∧Same H H2)
    ⟨[],none,none,none,rfl,rfl,upd_same,(fun j t e=>by simp at e),s0⟩ (fun i σ H2 _ ⟨_,_,_,_,_,_,_,_,s2⟩=>s2.seq hS) ?_ ?_⟩
   · rintro i v σ H2 t hi ht ⟨ts,x,y,z,rfl,hts,h2,h3,s2⟩
     obtain ⟨c,rfl,hc⟩:=get_int hi
     have hil:i < ns.length:=(List.getElem?_eq_some_iff.mp hc).1
     have ec:ns.getD i 0=c:=by rw [List.getD,hc];rfl
     have c0:c≠0:=nz c (List.mem_of_getElem? hc)
     have h2':upd H2 t (.tup [.int i,.int c]) r=some (.lst (ts.map V.ref)):=by rw [upd_ne (ne_of_none h2 ht)];exact h2
     have nrt:r≠t:=ne_of_none h2 ht
     refine ⟨t,_,rfl,SqT.of upd_same,rfl,_,_,rfl,_,_,rfl,rfl,?_⟩
     refine ⟨_,rfl,_,rfl,_,_,rfl,rfl,?_⟩
     have fin:∀ (q:Addr),(upd H2 t (.tup [.int i,.int c])) q=none→∃ ts',ts'=ts++[q]∧ts'.length=i+1∧
       (upd (upd (upd H2 t (.tup [.int i,.int c])) q (.tup ((rowAt fi st ns i).map V.int))) r (.lst (ts.map V.ref++[V.ref q]))) r=some (.lst (ts'.map V.ref))∧
       (∀ j t',ts'[j]?=some t'→(upd (upd (upd H2 t (.tup [.int i,.int c])) q (.tup ((rowAt fi st ns i).map V.int))) r (.lst (ts.map V.ref++[V.ref q]))) t'=some (.tup ((rowAt fi st ns j).map V.int)))∧
       Same H (upd (upd (upd H2 t (.tup [.int i,.int c])) q (.tup ((rowAt fi st ns i).map V.int))) r (.lst (ts.map V.ref++[V.ref q]))):=fun q hq=>by
      have nrq:r≠q:=ne_of_none h2' hq
      refine ⟨_,rfl,by simp [hts],by rw [upd_same,List.map_append];rfl,fun j t' e=>?_,((s2.upd' ht).upd' hq).upd hr0⟩
      by_cases hj:j < i
      · rw [List.getElem?_append_left (by omega)] at e
        have e3:=h3 j t' e
        have n1:t'≠r:=fun z=>by rw [z,h2] at e3;cases e3
        have n2:t'≠t:=ne_of_none e3 ht
        have n3:t'≠q:=fun z=>by rw [z, ← upd_ne (H:=H2) (a:=t) (o:=.tup [.int i,.int c]) (by rw [← z];exact n2),hq] at e3;cases e3
        rw [upd_ne n1,upd_ne n3,upd_ne n2]
        exact e3
      · rw [List.getElem?_append_right (by omega)] at e
        have:j=i:=by
         have:=(List.getElem?_eq_some_iff.mp e).1
         simp at this
         omega
        subst this
        rw [hts,Nat.sub_self] at e
        have e':q=t':=by simpa using e
        subst e'
        rw [upd_ne nrq.symm,upd_same]
     have len:(ts.map V.ref).length < sizeLine:=small4k (by rw [List.length_map];omega)
     refine ⟨_,rfl,_,_,rfl,rfl,_,rfl,?_⟩
     refine ite2 (fun hp=>?_) (fun hp=>?_)
     · have hp:0 < c:=of_decide_eq_true hp
       refine ⟨_,rfl,.inl ⟨rfl,_,SqL.of h2'⟩,_,rfl,_,rfl,_,_,rfl,rfl,_,rfl,_,rfl,_,rfl,(show 4≤sizeLine by decide),fun q hq=>?_⟩
       have er:[V.int (-1 - (i:Int)),V.int (hereAt fi st i),V.int c,V.int (fi+i)]=(rowAt fi st ns i).map V.int:=by unfold rowAt;rw [ec,if_pos hp];rfl
       obtain ⟨ts',e1,e2,e3,e4,e5⟩:=fin q hq
       rw [← er] at e3 e4 e5
       refine ⟨r,_,_,rfl,rfl,(by rw [upd_ne (ne_of_none h2' hq)];exact h2'),len,?_⟩
       exact ⟨_,rfl,ts',some (.int i),some (.int c),some (.int (fi+i)),by rw [hereAt_succ];rfl,e2,e3,e4,e5⟩
     · have hp:¬ 0 < c:=fun z=>hp (decide_eq_true z)
       refine ⟨_,rfl,.inl ⟨rfl,_,SqL.of h2'⟩,_,rfl,_,rfl,_,_,rfl,rfl,_,rfl,_,rfl,_,rfl,_,rfl,(show 4≤sizeLine by decide),fun q hq=>?_⟩
       have er:[V.int (-1 - (i:Int)),V.int (fi+i),V.int (-c),V.int (hereAt fi st i)]=(rowAt fi st ns i).map V.int:=by unfold rowAt;rw [ec,if_neg hp];rfl
       obtain ⟨ts',e1,e2,e3,e4,e5⟩:=fin q hq
       rw [← er] at e3 e4 e5
       refine ⟨r,_,_,rfl,rfl,(by rw [upd_ne (ne_of_none h2' hq)];exact h2'),len,?_⟩
       exact ⟨_,rfl,ts',some (.int i),some (.int c),some (.int (fi+i)),by rw [hereAt_succ];rfl,e2,e3,e4,e5⟩
   · rintro σ H2 ⟨ts,x,y,z,rfl,hts,h2,h3,s2⟩
     rw [List.length_map] at hts ⊢
     refine ⟨_,rfl,_,rfl,(show 2≤sizeLine by decide),fun p hp=>?_⟩
     exact k p r ts _ (s2.free hp) hr0 upd_same (by rw [upd_ne (ne_of_none h2 hp)];exact h2) hts (fun j t e=>by rw [upd_ne (ne_of_none (h3 j t e) hp)];exact h3 j t e) (s2.upd' hp)
theorem sc_check_letters:FnScope ["kinds","way","letter"] ["kinds","way"] (defScope s_check_letters):=scm
theorem ok_cklX {f cK:Addr}{fd:FuncData} (F:Fun K "check_letters" "check_letters" s_check_letters f fd) (hmNoKind:mg "NoKind"=some (.ref cK)) (hvNoKind:isVe K cK=true) (T:Txt K mg):FnOk P w K mg base (CXe P w) 1 f fd ["kinds","way"] (spCkLX cK):=by
 refine F.okX sc_check_letters (fun vs H Q E h=>?_) (fun cdv A outer s H vs Q E hr h=>?_)
 · obtain ⟨k,wa,ws,rfl,_⟩:=h
   rfl
 · obtain ⟨k,wa,ws,rfl,hw,q,qe⟩:=h
   refine ⟨_,(@sO _ _ _ (ps_for (passesXeF rfl rfl) rfl (pi_list (pv 1)) (pg_name (i:=2) sc_check_letters.nd rfl (Or.inl rfl)) (@sO _ _ _ (ps_if (PW.pt (pw_or (pt_cmpR op_eq (pv 2) pe_int (nomark _)) (pw_or1 (pt_cmpR op_gt (pe_callB call_abs (by rfl) T.abs bt_abs (@aC _ _ _ _ _ (pv 2) pa_nil (by rfl))) (pv 0) (nomark _))))) (@sO _ _ _ (ps_raise rfl rfl hmNoKind hvNoKind (pa_cons pe_str pa_nil))) pss_nil)))),?_⟩
   refine ⟨_,rfl,wa,rfl,⟨_,SqL.of hw⟩,for_list (K:=K) (a:=wa) (xs:=ws.map V.int) (fun i σ H2=>(∃ x,σ=[some (.int k),some (.ref wa),x])∧H2=H∧∀ l∈ws.take i,Let k l) ⟨⟨none,rfl⟩,rfl,by simp⟩ (fun i σ H2 _ ⟨_,e,_⟩=>by rw [e];exact SqL.of hw) ?_ ?_⟩
   · rintro i x σ H2 hi ⟨⟨y,rfl⟩,rfl,hl⟩
     obtain ⟨l,rfl,el⟩:=get_int hi
     have hi':i < ws.length:=(List.getElem?_eq_some_iff.mp el).1
     have ei:ws[i]=l:=(List.getElem?_eq_some_iff.mp el).2
     refine ⟨_,rfl,rfl,_,rfl,ite2 (fun z=>?_) fun z=>⟨_,rfl,_,rfl,_,rfl,_,_,rfl,rfl,_,rfl,ite2 (fun y=>?_) fun y=>?_⟩⟩
     · have z:=V.int.inj (of_decide_eq_true z)
       exact ⟨by decide,qe fun h=>(h l (List.mem_of_getElem? el)).1 z⟩
     · have y:=of_decide_eq_true y
       exact ⟨by decide,qe fun h=>by have:=h l (List.mem_of_getElem? el);obtain ⟨_,a,b⟩:=this;split at y <;> omega⟩
     · have z:¬ l=0:=fun w=>z (decide_eq_true (by rw [w]))
       have y:¬ _:=fun w=>y (decide_eq_true w)
       refine ⟨⟨_,rfl⟩,rfl,fun l' hl'=>?_⟩
       rw [List.take_succ_eq_append_getElem hi',ei] at hl'
       rcases List.mem_append.mp hl' with e | e
       · exact hl l' e
       · rw [List.mem_singleton.mp e]
         refine ⟨z,?_,?_⟩ <;> (split at y <;> omega)
   · rintro σ H2 ⟨⟨y,rfl⟩,rfl,hl⟩
     rw [List.length_map,List.take_length] at hl
     exact q hl
theorem sc_rows_of:FnScope ["entries"] ["entries"] (defScope s_rows_of):=scm
theorem ok_rowsOf {f C:Addr}{fd:FuncData} (F:Fun K "rows_of" "rows_of" s_rows_of f fd) (TS':TxtS K mg C):FnOk P w K mg base CX0 1 f fd ["entries"] spRowsOf:=by
 obtain ⟨_,hrow⟩:=TS'.row
 refine F.ok sc_rows_of (fun vs H Q E h=>?_) (fun cdv A outer s H vs Q E hr h=>?_)
 · obtain ⟨l,fp,es,rfl,_⟩:=h
   rfl
 · obtain ⟨l,fp,es,rfl,he,hl,q⟩:=h
   obtain ⟨ps,h1,h2,h3,h4,h5⟩:=he.ob
   have lp:ps.length=es.length:=by rw [← h3,List.length_map]
   refine ⟨_,(@sO _ _ _ (@sR _ _ _ _ (pe_compIf [] [] (pi_list (pv 0)) (fun C s H fp=>pt_cmpR op_eq (pe_ix (show IxR _ (wr2 (rIxT K)) from ix_t) (pv 0) pe_int (fun _ _=>rfl)) (pe_glob (v:=.str "row") rfl hrow ⟨_,rfl⟩) (nomark _)) (fun C s H fp=>pe_tup (pa_cons (pe_ix (show IxR _ (wr2 (rIxT K)) from ix_t) (pv 0) pe_int (fun _ _=>rfl)) (pa_cons (pe_ix (show IxR _ (wr2 (rIxT K)) from ix_t) (pv 0) pe_int (fun _ _=>rfl)) (pa_cons (pe_ix (show IxR _ (wr2 (rIxT K)) from ix_t) (pv 0) pe_int (fun _ _=>rfl)) (pa_cons (pe_ix (show IxR _ (wr2 (rIxT K)) from ix_t) (pv 0) pe_int (fun _ _=>rfl)) pa_nil))))) hcl_nil))),?_⟩
   refine ⟨_,rfl,l,rfl,⟨_,SqL.of h1⟩,compIf_list (xs:=ps.map fun p=>V.ref p.1) fun D hD=>⟨fun i ys H2=>∃ qs:Ps,ys=(qs.map fun p=>V.ref p.1)∧qs.length≤i∧Tl H2 D qs∧qs.map (·.2)=rowsOf ((ps.take i).map (·.2))∧Same H H2,⟨[],rfl,Nat.le_refl _,⟨upd_same,(fun _ z=>nomatch z)⟩,rfl,(Same.refl H).upd hD⟩,?_,?_,?_⟩⟩
   · rintro i ys H2 hi ⟨qs,rfl,ql,tl,_,s2⟩
     rw [List.length_map] at hi
     exact ⟨s2.seq (SqL.of h1),tl.is,small4k (by rw [List.length_map];omega)⟩
   · rintro i x ys H2 hi ⟨qs,rfl,ql,tl,er,s2⟩ Q1 Q0 q1 q0
     rw [List.getElem?_map] at hi
     cases ei:ps[i]? with
     | none=>rw [ei] at hi;cases hi
     | some p=>
      rw [ei] at hi;cases hi
      obtain ⟨hi',ei'⟩:=List.getElem?_eq_some_iff.mp ei
      have hp:=s2 _ _ (h2 p (List.mem_of_getElem? ei))
      have et:(ps.take (i+1)).map (·.2)=(ps.take i).map (·.2)++[p.2]:=by rw [List.take_succ_eq_append_getElem hi',ei',List.map_append];rfl
      obtain ⟨pa,pe⟩:=p
      cases pe with
      | row j a k b=>
       refine ⟨_,rfl,rd_tupAt hp rfl ⟨rfl,_,rfl,iteTe (by decide+kernel) ?_⟩⟩
       refine ⟨_,rfl,rd_tupAt hp rfl ⟨_,rfl,rd_tupAt hp rfl ⟨_,rfl,rd_tupAt hp rfl ⟨_,rfl,rd_tupAt hp rfl ⟨by show 4≤sizeLine;decide,fun t ht=>?_⟩⟩⟩⟩⟩
       have nD:D≠t:=ne_of_none tl.is ht
       refine q1 _ _ (by rw [upd_ne nD];exact tl.is) ⟨qs++[(t,[j,a,k,b])],by rw [List.map_append];rfl,by simp;omega,?_,?_,(s2.upd' ht).upd hD⟩
       · refine ⟨by rw [upd_same,List.map_append];rfl,fun p hp'=>?_⟩
         rcases List.mem_append.mp hp' with e | e
         · have:=tl.tp p e
           have n1:p.1≠D:=fun z=>by rw [z,tl.is] at this;cases this
           rw [upd_ne n1,upd_ne (ne_of_none this ht)]
           exact this
         · obtain rfl:=List.mem_singleton.mp e
           show upd _ D _ t=_
           rw [upd_ne nD.symm,upd_same];rfl
       · rw [et,rowsOf_app,List.map_append,er];rfl
      | ap j a b=>
       refine ⟨_,rfl,rd_tupAt hp rfl ⟨rfl,_,rfl,iteFe (by decide+kernel) ?_⟩⟩
       refine q0 _ ⟨qs,rfl,by omega,tl,?_,s2⟩
       rw [et,rowsOf_app,er]
       exact (List.append_nil _).symm
   · rintro ys H2 ⟨qs,rfl,ql,tl,er,s2⟩
     rw [List.length_map,List.take_of_length_le (Nat.le_refl _),h3] at er
     exact q D qs H2 hD tl er s2
theorem sc_broken_oath:FnScope ["entries","labels","entry"] ["entries","labels"] (defScope s_broken_oath):=scm
theorem ok_brk {f C:Addr}{fd:FuncData} (F:Fun K "broken_oath" "broken_oath" s_broken_oath f fd) (TS':TxtS K mg C):FnOk P w K mg base CX0 1 f fd ["entries","labels"] spBrk:=by
 obtain ⟨_,hap⟩:=TS'.ap
 refine F.ok sc_broken_oath (fun vs H Q E h=>?_) (fun cdv A outer s H vs Q E hr h=>?_)
 · obtain ⟨l,ll,fp,es,ls,k,rfl,_⟩:=h
   rfl
 · obtain ⟨l,ll,fp,es,ls,k,rfl,he,hls,hok,q⟩:=h
   obtain ⟨ps,h1,h2,h3,h4,h5⟩:=he.ob
   refine ⟨_,(@sC _ _ _ _ _ (ps_for PassesOwn.never rfl (pi_list (pv 0)) (pg_name (i:=2) sc_broken_oath.nd rfl (Or.inl rfl)) (@sO _ _ _ (ps_if (PW.pt (pw_and (pt_cmpR op_eq (pe_ix ix_t (pv 2) pe_int (fun _ _=>rfl)) (pe_glob (v:=.str "apart") rfl hap ⟨_,rfl⟩) (nomark _)) (pw_and1 (pt_cmpR op_eq (pe_ix ix_l (pv 1) (pe_ix ix_t (pv 2) pe_int (fun _ _=>rfl)) (fun _ _=>rfl)) (pe_ix ix_l (pv 1) (pe_ix ix_t (pv 2) pe_int (fun _ _=>rfl)) (fun _ _=>rfl)) (nomark _))))) (@sO _ _ _ (@sR _ _ _ _ (pe_ix ix_t (pv 2) pe_int (fun _ _=>rfl)))) pss_nil)))
    (@sO _ _ _ (@sR _ _ _ _ pe_non))),?_⟩
   refine ⟨_,rfl,l,rfl,⟨_,SqL.of h1⟩,for_list (K:=K) (a:=l) (xs:=ps.map fun p=>V.ref p.1) (fun i σ H2=>(∃ x,σ=[some (.ref l),some (.ref ll),x])∧H2=H∧broken es ls=broken ((ps.drop i).map (·.2)) ls) ⟨⟨none,rfl⟩,rfl,by rw [List.drop_zero,h3]⟩ (fun i σ H2 _ ⟨_,e,_⟩=>by rw [e];exact SqL.of h1) ?_ ?_⟩
   · rintro i x σ H2 hi ⟨⟨y,rfl⟩,rfl,eb⟩
     rw [List.getElem?_map] at hi
     cases ei:ps[i]? with
     | none=>rw [ei] at hi;cases hi
     | some p=>
      rw [ei] at hi;cases hi
      obtain ⟨hi',ei'⟩:=List.getElem?_eq_some_iff.mp ei
      have mp:=List.mem_of_getElem? ei
      have hp:=h2 p mp
      have ok:=hok p.2 (h3▸List.mem_map.mpr ⟨p,mp,rfl⟩)
      rw [List.drop_eq_getElem_cons hi',ei',List.map_cons] at eb
      obtain ⟨pa,pe⟩:=p
      cases pe with
      | row j a k b=>
       refine ⟨_,rfl,rd_tupAt hp rfl ⟨rfl,_,rfl,iteFe (by decide+kernel) ⟨⟨_,rfl⟩,rfl,eb⟩⟩⟩
      | ap j a b=>
       obtain ⟨⟨a0,a1⟩,⟨b0,b1⟩⟩:=ok
       refine ⟨_,rfl,rd_tupAt hp rfl ⟨rfl,_,rfl,iteTe (by decide+kernel) ?_⟩⟩
       refine ⟨_,rfl,_,rfl,rd_tupAt hp rfl (rd_at a.toNat hls (by omega) ⟨_,rfl,_,rfl,rd_tupAt hp rfl (rd_at b.toNat hls (by omega) ⟨rfl,_,rfl,?_⟩ (by omega))⟩ (by omega))⟩
       have eb:broken es ls=if ls.getD a.toNat 0=ls.getD b.toNat 0 then some j else broken ((ps.drop (i+1)).map (·.2)) ls:=by
        rw [eb]
        exact broken_ap ..
       by_cases z:ls.getD a.toNat 0=ls.getD b.toNat 0
       · rw [if_pos z] at eb
         rw [eb] at q
         exact iteTe (decide_eq_true (by rw [z])) ⟨_,rfl,rd_tupAt hp rfl q⟩
       · rw [if_neg z] at eb
         exact iteFe (decide_eq_false fun y=>z (V.int.inj y)) ⟨⟨_,rfl⟩,rfl,eb⟩
   · rintro σ H2 ⟨⟨y,rfl⟩,rfl,eb⟩
     rw [List.length_map,List.drop_length] at eb
     rw [eb] at q
     exact q
theorem sc_Survey_chalk:FnScope ["self"] ["self"] (defScope s_Survey_chalk):=scm
theorem ok_chalkX {f C cF:Addr}{fd:FuncData} (F:Fun K "chalk" "Survey.chalk" s_Survey_chalk f fd) (hmFull:mg "Full"=some (.ref cF)) (hvFull:isVe K cF=true) (TS':TxtS K mg C):FnOk P w K mg base (CXe P w) 1 f fd ["self"] (spChalkX C cF):=by
 obtain ⟨_,h24⟩:=TS'.m24
 refine F.okX sc_Survey_chalk (fun vs H Q E h=>?_) (fun cdv A outer s H vs Q E hr h=>?_)
 · obtain ⟨g,lh,B,rest,rfl,_⟩:=h
   rfl
 · obtain ⟨g,lh,B,rest,rfl,hB,q,qe⟩:=h
   obtain ⟨dx,ls,hg,he⟩:=id hB.ob
   refine ⟨_,(@sC _ _ _ _ _ (ps_if (pt_cmpR op_ge (pe_fld (pv 0) rfl) (pe_glob (v:=.int 24) rfl h24 ⟨_,rfl⟩) (nomark _)) (@sO _ _ _ (ps_raise rfl rfl hmFull hvFull (pa_cons pe_str pa_nil))) pss_nil)
    (@sC _ _ _ _ _ (ps_fldaug (pv 0) pe_int in_add)
    (@sO _ _ _ (@sR _ _ _ _ (pe_op op_sub (pe_fld (pv 0) rfl) pe_int))))),?_⟩
   refine ⟨_,rfl,g,C,dx,_,_,rfl,hg,TS'.cl,TS'.nn,bf_n ..,_,_,rfl,rfl,_,rfl,ite2 (fun z=>⟨by decide,qe (by have:=of_decide_eq_true z;omega)⟩) fun z=>?_⟩
   have z:¬ _:=fun y=>z (decide_eq_true y)
   have lt:B.n < 24:=by omega
   refine ⟨_,rfl,g,C,dx,_,_,rfl,hg,TS'.cl,TS'.nn,bf_n ..,_,_,rfl,rfl,dx,_,hg,(by show 5 < 1000;decide),?_⟩
   rw [show (B.n:Int)+1=((B.n+1:Nat):Int) from rfl,bf_pn]
   have hB':=hB.fld (B':={ B with n:=B.n+1 }) hg he rfl rfl lt hB.e40 fun e h=>(hB.ok e h).mono (Nat.le_succ _)
   refine ⟨_,rfl,g,C,dx,_,_,rfl,upd_same,TS'.cl,TS'.nn,bf_n ..,_,_,rfl,rfl,?_⟩
   show Q (V.int (((B.n+1:Nat):Int) - 1)) _
   rw [show ((B.n+1:Nat):Int) - 1=(B.n:Int) by omega]
   exact q lt _ hB' fun c o e nc=>by rw [upd_ne nc];exact e
theorem sc_Survey_check_marks:FnScope ["self","a","b","mark"] ["self","a","b"] (defScope s_Survey_check_marks):=scm
theorem ok_ckMX {f C cM:Addr}{fd:FuncData} (F:Fun K "check_marks" "Survey.check_marks" s_Survey_check_marks f fd) (hmNoMark:mg "NoMark"=some (.ref cM)) (hvNoMark:isVe K cM=true) (TS':TxtS K mg C):FnOk P w K mg base (CXe P w) 1 f fd ["self","a","b"] (spCkMX C cM):=by
 refine F.okX sc_Survey_check_marks (fun vs H Q E h=>?_) (fun cdv A outer s H vs Q E hr h=>?_)
 · obtain ⟨g,lh,B,rest,a,b,rfl,_⟩:=h
   rfl
 · obtain ⟨g,lh,B,rest,a,b,rfl,hB,q,qe⟩:=h
   obtain ⟨dx,ls,hg,he⟩:=id hB.ob
   refine ⟨_,(@sO _ _ _ (ps_for (passesXeF rfl rfl) rfl (pi_tup (pe_tup (@aC _ _ _ _ _ (pv 1) (@aC _ _ _ _ _ (pv 2) pa_nil (by rfl)) (by rfl)))) (pg_name (i:=3) sc_Survey_check_marks.nd rfl (Or.inl rfl)) (@sO _ _ _ (ps_if (PW.pt (pw_or (pt_cmpR op_lt (pv 3) pe_int (nomark _)) (pw_or1 (pt_cmpR op_ge (pv 3) (pe_fld (pv 0) rfl) (nomark _))))) (@sO _ _ _ (ps_raise rfl rfl hmNoMark hvNoMark (pa_cons pe_str pa_nil))) pss_nil)))),?_⟩
   refine ⟨_,rfl,_,rfl,by show 2≤sizeLine;decide,fun t ht=>?_⟩
   have s1:Same H (upd H t (.tup [.int a,.int b])):=(Same.refl H).upd ht
   have h1:upd H t (.tup [.int a,.int b]) t=some (.tup [.int a,.int b]):=upd_same
   generalize upd H t (.tup [.int a,.int b])=H1 at s1 h1
   have hg1:=s1 _ _ hg
   refine ⟨t,rfl,⟨_,SqT.of h1⟩,for_tup (K:=K) (a:=t) (xs:=[.int a,.int b]) (fun i σ H2=>(∃ x,σ=[some (.ref g),some (.int a),some (.int b),x])∧H2=H1∧(1≤i→InM B.n a)∧(2≤i→InM B.n b)) ⟨⟨none,rfl⟩,rfl,(fun z=>by omega),(fun z=>by omega)⟩ (fun i σ H2 _ ⟨_,e,_⟩=>by rw [e];exact SqT.of h1) ?_ ?_⟩
   · rintro i x σ H2 hi ⟨⟨y,rfl⟩,rfl,i1,i2⟩
     obtain ⟨m,rfl,hno,hyes⟩:∃ m:Int,x=V.int m∧(¬ InM B.n m→¬ (InM B.n a∧InM B.n b))∧(InM B.n m→(1≤i+1→InM B.n a)∧(2≤i+1→InM B.n b)):=by
      match i,hi with
      | 0,hi=>exact ⟨a,(Option.some.inj hi).symm,(fun h z=>h z.1),fun h=>⟨fun _=>h,fun z=>by omega⟩⟩
      | 1,hi=>exact ⟨b,(Option.some.inj hi).symm,(fun h z=>h z.2),fun h=>⟨fun _=>i1 (by omega),fun _=>h⟩⟩
     refine ⟨_,rfl,_,_,rfl,rfl,_,rfl,ite2 (fun z=>⟨by decide,qe (hno fun y=>by have:=of_decide_eq_true z;have:=y.1;omega) _ s1⟩) fun z=>⟨_,rfl,_,rfl,g,C,dx,_,_,rfl,hg1,TS'.cl,TS'.nn,bf_n ..,_,_,rfl,rfl,_,rfl,ite2 (fun y=>⟨by decide,qe (hno fun w=>by have:=of_decide_eq_true y;have:=w.2;omega) _ s1⟩) fun y=>?_⟩⟩
     have z:¬ _:=fun w=>z (decide_eq_true w)
     have y:¬ _:=fun w=>y (decide_eq_true w)
     exact ⟨⟨_,rfl⟩,rfl,hyes ⟨by omega,by omega⟩⟩
   · rintro σ H2 ⟨⟨y,rfl⟩,rfl,i1,i2⟩
     exact q ⟨i1 (by show 1≤2;decide),i2 (by show 2≤2;decide)⟩ _ s1
theorem sc_Survey_check_room:FnScope ["self"] ["self"] (defScope s_Survey_check_room):=scm
theorem ok_ckRX {f C cF:Addr}{fd:FuncData} (F:Fun K "check_room" "Survey.check_room" s_Survey_check_room f fd) (hmFull:mg "Full"=some (.ref cF)) (hvFull:isVe K cF=true) (T:Txt K mg) (TS':TxtS K mg C):FnOk P w K mg base (CXe P w) 1 f fd ["self"] (spCkRX C cF):=by
 obtain ⟨_,h40⟩:=TS'.m40
 refine F.okX sc_Survey_check_room (fun vs H Q E h=>?_) (fun cdv A outer s H vs Q E hr h=>?_)
 · obtain ⟨g,lh,B,rest,rfl,_⟩:=h
   rfl
 · obtain ⟨g,lh,B,rest,rfl,hB,q,qe⟩:=h
   obtain ⟨dx,ls,hg,he⟩:=id hB.ob
   obtain ⟨ps,h1,h2,h3,h4,h5⟩:=he.ob
   have lp:((ps.map fun p=>V.ref p.1).length:Int)=B.es.length:=by rw [List.length_map, ← h3,List.length_map]
   refine ⟨_,(@sO _ _ _ (ps_if (pt_cmpR op_ge (pe_callB call_len_seq (by rfl) T.len PySem.boot_len (@aC _ _ _ _ _ (pe_fld (pv 0) rfl) pa_nil (by rfl))) (pe_glob (v:=.int 40) rfl h40 ⟨_,rfl⟩) (nomark _)) (@sO _ _ _ (ps_raise rfl rfl hmFull hvFull (pa_cons pe_str pa_nil))) pss_nil)),?_⟩
   refine ⟨_,rfl,g,C,dx,_,_,rfl,hg,TS'.cl,TS'.ns,bf_s ..,ls,_,rfl,.inl (SqL.of h1),_,_,rfl,rfl,_,rfl,?_⟩
   refine ite2 (fun z=>⟨by decide,qe (by have:=of_decide_eq_true z;rw [lp] at this;omega)⟩) fun z=>?_
   have z:¬ _:=fun y=>z (decide_eq_true y)
   exact q (by rw [lp] at z;omega)
theorem sc_Survey_enter:FnScope ["self","told","number"] ["self","told"] (defScope s_Survey_enter):=scm
theorem ok_enter {f C:Addr}{fd:FuncData} (F:Fun K "enter" "Survey.enter" s_Survey_enter f fd) (TS':TxtS K mg C):FnOk P w K mg base CX0 1 f fd ["self","told"] (spEnter C):=by
 refine F.ok sc_Survey_enter (fun vs H Q E h=>?_) (fun cdv A outer s H vs Q E hr h=>?_)
 · obtain ⟨g,lh,B,rest,t,e,rfl,_⟩:=h
   rfl
 · obtain ⟨g,lh,B,rest,t,e,rfl,hB,ht,eok,e40,q⟩:=h
   obtain ⟨dx,ls,hg,he⟩:=id hB.ob
   obtain ⟨ps,h1,h2,h3,h4,h5⟩:=id he.ob
   have lp:ps.length=B.es.length:=by rw [← h3,List.length_map]
   refine ⟨_,(@sC _ _ _ _ _ (@sS _ 2 _ _ _ _ _ sc_Survey_enter.nd rfl (Or.inl rfl) (pe_fld (pv 0) rfl) (by rfl) (.inl rfl))
    (@sC _ _ _ _ _ (ps_fld (pv 0) (pe_op op_catW (pe_fld (pv 0) rfl) (@eL _ _ _ _ (@aC _ _ _ _ _ (pe_op op_catT (pe_tup (pa_cons (pv 2) pa_nil)) (pv 1)) pa_nil (by rfl)))) rfl)
    (@sC _ _ _ _ _ (ps_fldaug (pv 0) pe_int in_add)
    (@sO _ _ _ (@sR _ _ _ _ (pv 2)))))),?_⟩
   refine ⟨_,rfl,g,C,dx,_,_,rfl,hg,TS'.cl,TS'.nc,bf_c ..,?_⟩
   refine ⟨_,rfl,g,C,dx,_,_,rfl,hg,TS'.cl,TS'.ns,bf_s ..,_,rfl,by show 1≤sizeLine;decide,fun p1 hp1=>?_⟩
   have s1:Same H (upd H p1 (.tup [.int B.c])):=(Same.refl H).upd hp1
   have i1:upd H p1 (.tup [.int B.c]) p1=some (.tup [.int B.c]):=upd_same
   generalize upd H p1 (.tup [.int B.c])=H1 at s1 i1
   have tl:1+e.told.length≤sizeLine∧e.told≠[]:=by
    cases e with
    | row=>exact ⟨by show 1+4≤sizeLine;decide,(fun z=>nomatch z)⟩
    | ap=>exact ⟨by show 1+3≤sizeLine;decide,(fun z=>nomatch z)⟩
   refine ⟨_,rfl,p1,t,_,_,rfl,rfl,SqT.of i1,SqT.of (s1 _ _ ht),(fun z=>nomatch z),tl.1,fun z=>absurd z tl.2,fun _ p2 hp2=>?_⟩
   have ev:[V.int B.c]++e.told=(e.re B.c).vs:=by cases e <;> rfl
   rw [ev]
   have s2:Same H1 (upd H1 p2 (.tup (e.re B.c).vs)):=(Same.refl H1).upd hp2
   have i2:upd H1 p2 (.tup (e.re B.c).vs) p2=some (.tup (e.re B.c).vs):=upd_same
   generalize upd H1 p2 (.tup (e.re B.c).vs)=H2 at s2 i2
   refine rd_lsV (by show 1≤1000;decide) fun p3 H3 hp3 i3 s3=>?_
   have s13:=s1.trans (s2.trans s3)
   refine rd_catV (s13 _ _ h1) i3 (by rw [List.length_map,lp];show B.es.length+1≤_;omega) fun p4 H4 hp4 i4 s4=>?_
   have s14:=s13.trans s4
   have n4:H p4=none:=s13.free hp4
   have n2:H p2=none:=s1.free hp2
   have g2:p2≠g:=fun z=>by rw [z,hg] at n2;cases n2
   have g4:p4≠g:=fun z=>by rw [z,hg] at n4;cases n4
   have l2:p2≠lh:=fun z=>hB.lg.1 (z▸n2)
   have l4:p4≠lh:=fun z=>hB.lg.1 (z▸n4)
   have sub:∀ a∈rest,a∈p4::p2::rest:=fun a ha=>List.mem_cons_of_mem _ (List.mem_cons_of_mem _ ha)
   have nl':lh∉p4::p2::rest:=fun z=>by
    rcases List.mem_cons.mp z with z | z
    · exact l4 z.symm
    rcases List.mem_cons.mp z with z | z
    · exact l2 z.symm
    · exact hB.nl z
   have ng':g∉p4::p2::rest:=fun z=>by
    rcases List.mem_cons.mp z with z | z
    · exact g4 z.symm
    rcases List.mem_cons.mp z with z | z
    · exact g2 z.symm
    · exact hB.ng z
   have lv':∀ a∈p4::p2::rest,∃ o,H4 a=some o:=fun a ha=>by
    rcases List.mem_cons.mp ha with z | z
    · exact ⟨_,z▸i4⟩
    rcases List.mem_cons.mp z with z | z
    · exact ⟨_,z▸s4 _ _ (s3 _ _ i2)⟩
    · obtain ⟨o,e⟩:=hB.lv a z
      exact ⟨o,s14 _ _ e⟩
   have hB4:=(hB.same s14).more sub nl' ng' lv'
   have hg4:=s14 _ _ hg
   have el4:El H4 (p4::p2::rest) p4 (B.add e).es:=by
    refine ⟨ps++[(p2,e.re B.c)],by rw [List.map_append];exact i4,fun p hp=>?_,by rw [List.map_append,h3];rfl,List.mem_cons_self ..,fun p hp=>?_⟩
    · rcases List.mem_append.mp hp with z | z
      · exact s14 _ _ (h2 p z)
      · rw [List.mem_singleton.mp z];exact s4 _ _ (s3 _ _ i2)
    · rcases List.mem_append.mp hp with z | z
      · exact sub _ (h5 p z)
      · rw [List.mem_singleton.mp z];exact List.mem_cons_of_mem _ (List.mem_cons_self ..)
   have lad:(B.add e).es.length≤40:=by show (B.es++[e.re B.c]).length≤40;simp;omega
   have oka:∀ x∈(B.add e).es,EnOk (B.add e).k (B.add e).n x:=fun x hx=>by
    rcases List.mem_append.mp (show x∈B.es++[e.re B.c] from hx) with z | z
    · exact hB.ok x z
    · rw [List.mem_singleton.mp z];cases e <;> exact eok
   refine ⟨_,rfl,g,C,dx,_,rfl,hg4,TS'.cl,TS'.ns,(by show 5 < 1000;decide),?_⟩
   rw [bf_ps]
   refine ⟨_,rfl,g,C,dx,_,_,rfl,upd_same,TS'.cl,TS'.nc,bf_c ..,_,_,rfl,rfl,dx,_,upd_same,(by show 5 < 1000;decide),?_⟩
   rw [bf_pc,upd_upd]
   have hB5:=hB4.fld (B':=B.add e) hg4 el4 rfl rfl hB.n24 lad oka
   refine ⟨_,rfl,q _ _ hB5 (fun x hx=>?_) fun c o e' nc=>by rw [upd_ne nc];exact s14 _ _ e'⟩
   rcases List.mem_cons.mp hx with z | z
   · rw [z];exact .inr n4
   rcases List.mem_cons.mp z with z | z
   · rw [z];exact .inr n2
   · exact .inl z
theorem sc_Survey_laid:FnScope ["self","a","way","b","rows","end"] ["self","a","way","b"] (defScope s_Survey_laid):=scm
theorem ok_laidX {f C cM cK:Addr}{fd:FuncData} (F:Fun K "laid" "Survey.laid" s_Survey_laid f fd) (TS':TxtS K mg C) (CM:Rdmx P w K mg base C "check_marks" ["self","a","b"] 1 (spCkMX C cM)) (CL:Rdx P w K mg base "check_letters" ["kinds","way"] 1 (spCkLX cK))
  (TRL:Rdy P w K mg base "trail" ["first","a","way"] 1 (spTrail K)) (RW:Rdy P w K mg base "rows_of" ["entries"] 1 spRowsOf):FnOk P w K mg base (CXe P w) 2 f fd ["self","a","way","b"] (spLaidX C cM cK):=by
 refine F.okX sc_Survey_laid (fun vs H Q E h=>?_) (fun cdv A outer s H vs Q E hr h=>?_)
 · obtain ⟨g,lh,B,rest,a,b,wa,ws,rfl,_⟩:=h
   rfl
 · obtain ⟨g,lh,B,rest,a,b,wa,ws,rfl,hB,hw,wl,q,qm,qk⟩:=h
   obtain ⟨dx,ls,hg,he⟩:=id hB.ob
   refine ⟨_,(@sC _ _ _ _ _ (ps_expr (CM.pe hr (pv 0) (@aC _ _ _ _ _ (pv 1) (@aC _ _ _ _ _ (pv 3) pa_nil (by rfl)) (by rfl))))
    (@sC _ _ _ _ _ (ps_expr (CL.pe hr (@aC _ _ _ _ _ (pe_fld (pv 0) rfl) (@aC _ _ _ _ _ (pv 2) pa_nil (by rfl)) (by rfl))))
    (@sC _ _ _ _ _ (ps_asg (TRL.pe hr (@aC _ _ _ _ _ (pe_fld (pv 0) rfl) (@aC _ _ _ _ _ (pv 1) (@aC _ _ _ _ _ (pv 2) pa_nil (by rfl)) (by rfl)) (by rfl))) (pg_tup rfl (pgs_cons (pg_name (i:=4) sc_Survey_laid.nd rfl (Or.inl rfl)) (pgs_cons (pg_name (i:=5) sc_Survey_laid.nd rfl (Or.inl rfl)) pgs_nil))))
    (@sO _ _ _ (@sR _ _ _ _ (pe_tup (@aC _ _ _ _ _ (pe_op op_catW (RW.pe hr (@aC _ _ _ _ _ (pe_fld (pv 0) rfl) pa_nil (by rfl))) (pv 4)) (@aC _ _ _ _ _ (pv 5) pa_nil (by rfl)) (by rfl)))))))),?_⟩
   refine ⟨_,rfl,g,dx,_,rfl,hg,rfl,_,rfl,_,rfl,g,lh,B,rest,a,b,rfl,hB,fun hm H1 s1=>?_,qm⟩
   refine ⟨_,rfl,g,C,dx,_,_,rfl,s1 _ _ hg,TS'.cl,TS'.nk,bf_k ..,_,rfl,B.k,wa,ws,rfl,s1.ints hw,fun hl=>?_,fun hl=>qk hm hl H1 s1⟩
   refine ⟨_,rfl,g,C,dx,_,_,rfl,s1 _ _ hg,TS'.cl,TS'.nn,bf_n ..,_,rfl,_,rfl,(B.n:Int),a,wa,ws,rfl,SqL.of (s1.ints hw),by omega,(fun l hl'=>(hl l hl').1),fun p r ts H2 hp hr2 ip ir lts ht s2=>?_⟩
   obtain ⟨ps2,t2,e2⟩:=trail_tl ir lts ht
   refine ⟨p,_,rfl,SqT.of ip,rfl,_,_,rfl,_,_,rfl,rfl,?_⟩
   have s12:=s1.trans s2
   refine ⟨_,rfl,g,C,dx,_,_,rfl,s12 _ _ hg,TS'.cl,TS'.ns,bf_s ..,ls,rest,B.es,rfl,he.same s12,by have:=hB.e40;omega,fun r1 ps1 H3 hr1 t1 e1 s3=>?_⟩
   have l1:=rows_len e1
   have l2:=rows_len e2
   have:=rowsOf_len B.es
   have:=hB.e40
   rw [trailR_len] at l2
   refine ⟨_,rfl,rd_catV t1.is (s3 _ _ t2.is) (by rw [List.length_map,List.length_map];omega) fun r4 H4 hr4 i4 s4=>?_⟩
   have t4:Tl H4 r4 (ps1++ps2):=Tl.cat t1 (t2.same s3) s4 i4
   refine ⟨_,rfl,by show 2≤sizeLine;decide,fun t ht2=>?_⟩
   have s5:Same H4 (upd H4 t (.tup [.ref r4,.int (hereAt B.n a ws.length)])):=(Same.refl H4).upd ht2
   exact q hm hl t r4 (ps1++ps2) _ upd_same (t4.same s5) (by rw [List.map_append,e1,e2]) (s12.trans (s3.trans (s4.trans s5)))
theorem sc_Survey_must_paper:FnScope ["self","a","way","b","rows","end","labels","paper"] ["self","a","way","b"] (defScope s_Survey_must_paper):=scm
theorem ok_mustX {f C cM cK:Addr}{fd:FuncData} (F:Fun K "must_paper" "Survey.must_paper" s_Survey_must_paper f fd) (T:Txt K mg) (TS':TxtS K mg C) (LAI:Rdmx P w K mg base C "laid" ["self","a","way","b"] 2 (spLaidX C cM cK)) (FO:Rdy P w K mg base "folded" ["marks","rows","start"] 6 spFold2):
  FnOk P w K mg base (CXe P w) 7 f fd ["self","a","way","b"] (spMustX C cM cK):=by
 refine F.okX sc_Survey_must_paper (fun vs H Q E h=>?_) (fun cdv A outer s H vs Q E hr h=>?_)
 · obtain ⟨g,lh,B,rest,a,b,wa,ws,rfl,_⟩:=h
   rfl
 · obtain ⟨g,lh,B,rest,a,b,wa,ws,rfl,hB,hw,wl,q,q0,qm,qk⟩:=h
   obtain ⟨dx,ls,hg,he⟩:=id hB.ob
   have n24:=hB.n24
   refine ⟨_,(@sC _ _ _ _ _ (ps_asg (LAI.pe hr (pv 0) (@aC _ _ _ _ _ (pv 1) (@aC _ _ _ _ _ (pv 2) (@aC _ _ _ _ _ (pv 3) pa_nil (by rfl)) (by rfl)) (by rfl))) (pg_tup rfl (pgs_cons (pg_name (i:=4) sc_Survey_must_paper.nd rfl (Or.inl rfl)) (pgs_cons (pg_name (i:=5) sc_Survey_must_paper.nd rfl (Or.inl rfl)) pgs_nil))))
    (@sC _ _ _ _ _ (ps_asg (FO.pe hr (@aC _ _ _ _ _ (pe_op op_add (pe_fld (pv 0) rfl) (pe_callB call_len_seq (by rfl) T.len PySem.boot_len (@aC _ _ _ _ _ (pv 2) pa_nil (by rfl)))) (@aC _ _ _ _ _ (pv 4) (@aC _ _ _ _ _ (pe_lstW pa_nil) pa_nil (by rfl)) (by rfl)) (by rfl))) (pg_tup rfl (pgs_cons (pg_name (i:=6) sc_Survey_must_paper.nd rfl (Or.inl rfl)) (pgs_cons (pg_name (i:=7) sc_Survey_must_paper.nd rfl (Or.inl rfl)) pgs_nil))))
    (@sC _ _ _ _ _ (ps_if (pt_cmpR op_ne (pe_ix ix_l (pv 6) (pv 5) (fun _ _=>rfl)) (pe_ix ix_l (pv 6) (pv 3) (fun _ _=>rfl)) (nomark _)) (@sO _ _ _ (@sR _ _ _ _ pe_non)) pss_nil)
    (@sO _ _ _ (@sR _ _ _ _ (pv 7)))))),?_⟩
   refine ⟨_,rfl,g,dx,_,rfl,hg,rfl,_,rfl,_,rfl,_,rfl,g,lh,B,rest,a,b,wa,ws,rfl,hB,hw,wl,fun hm hl t r ps H1 ht tr er s1=>?_,qm,qk⟩
   refine ⟨t,_,rfl,SqT.of ht,rfl,_,_,rfl,_,_,rfl,rfl,?_⟩
   refine ⟨_,rfl,g,C,dx,_,_,rfl,s1 _ _ hg,TS'.cl,TS'.nn,bf_n ..,_,rfl,wa,_,rfl,.inl (SqL.of (s1.ints hw)),_,_,rfl,rfl,_,rfl,rd_lsV (by show 0≤1000;decide) fun l0 H2 hl0 i0 s2=>?_⟩
   have t2:=tr.same s2
   have en:((B.n:Int)+((ws.map V.int).length:Int))=((B.n+ws.length:Nat):Int):=by rw [List.length_map];rfl
   have rok:∀ r∈rowsOf B.es++trailR B.n a ws,RowOk (B.n+ws.length) r∧1≤r.getD 2 0∧r.getD 2 0≤5:=fun r hr2=>by
    rcases List.mem_append.mp hr2 with z | z
    · exact rowsOf_ok hB.k5 (fun e h=>(hB.ok e h).mono (Nat.le_add_right _ _)) r z
    · exact trailR_ok hm.1 hB.k5 hl r z
   have lps:=rows_len er
   have:=rowsOf_len B.es
   have:=hB.e40
   rw [List.length_append,trailR_len] at lps
   refine ⟨B.n+ws.length,r,l0,ps,[],by show [V.int ((B.n:Int)+((ws.map V.int).length:Int)),_,_]=_;rw [en],t2,⟨i0,(fun _ z=>nomatch z)⟩,rows_all er rok,(fun _ z=>nomatch z),by omega,by omega,by simp,fun t3 l1 l2 sp l H3 h3 i3 tl3 fL hp spl _ f2 s3=>?_⟩
   rw [er] at fL
   have el:l=B.tlab a ws:=fL.eq
   have ll:l.length=B.n+ws.length:=fL.1.lab.len
   refine ⟨t3,_,rfl,SqT.of h3,rfl,_,_,rfl,_,_,rfl,rfl,?_⟩
   obtain ⟨e0,e1⟩:=hereAt_lt hm.1 ws.length ws.length (Nat.le_refl _)
   obtain ⟨b0,b1⟩:=hm.2
   refine ⟨_,rfl,_,rfl,rd_at (hereAt B.n a ws.length).toNat i3 (by omega) ⟨_,rfl,_,rfl,rd_at b.toNat i3 (by omega) ⟨rfl,_,rfl,?_⟩ (by omega)⟩ (by omega)⟩
   have s13:=s1.trans (s2.trans s3)
   by_cases z:l.getD (hereAt B.n a ws.length).toNat 0=l.getD b.toNat 0
   · refine iteFe (by rw [z];simp) ⟨_,rfl,?_⟩
     rw [el] at z
     refine q hm hl z l2 sp ps H3 tl3 er (fun u=>?_) spl ((s1.trans s2).free f2) s13
     have:=hp u
     rw [el] at this
     exact this
   · refine iteTe (by rw [decide_eq_false (fun y=>z (V.int.inj y))];rfl) ?_
     rw [el] at z
     exact q0 hm hl z H3 s13
theorem sc_Survey_paper:FnScope ["self","a","b"] ["self","a","b"] (defScope s_Survey_paper):=scm
theorem ok_papX {f C cM cK:Addr}{fd:FuncData} (F:Fun K "paper" "Survey.paper" s_Survey_paper f fd) (MP:Rdmx P w K mg base C "must_paper" ["self","a","way","b"] 7 (spMustX C cM cK)):FnOk P w K mg base (CXe P w) 8 f fd ["self","a","b"] (spPapX C cM):=by
 refine F.okX sc_Survey_paper (fun vs H Q E h=>?_) (fun cdv A outer s H vs Q E hr h=>?_)
 · obtain ⟨g,lh,B,rest,a,b,rfl,_⟩:=h
   rfl
 · obtain ⟨g,lh,B,rest,a,b,rfl,hB,q,q0,qm⟩:=h
   obtain ⟨dx,ls,hg,he⟩:=id hB.ob
   refine ⟨_,(@sO _ _ _ (@sR _ _ _ _ (MP.pe hr (pv 0) (@aC _ _ _ _ _ (pv 1) (@aC _ _ _ _ _ (pe_lstW pa_nil) (@aC _ _ _ _ _ (pv 2) pa_nil (by rfl)) (by rfl)) (by rfl))))),?_⟩
   refine ⟨_,rfl,g,dx,_,rfl,hg,rfl,_,rfl,rd_lst [] fun l0 H1 hl0 i0 s1=>⟨_,rfl,?_⟩⟩
   refine ⟨g,lh,B,rest,a,b,l0,[],rfl,hB.same s1,i0,by simp,fun hm _ z l2 sp ps H2 t2 er hp spl f2 s2=>?_,fun hm _ z H2 s2=>?_,fun hm H2 s2=>qm hm H2 (s1.trans s2),fun _ z=>absurd (fun _ y=>nomatch y) z⟩
   · rw [B.tlab_nil] at z hp
     refine q hm z l2 sp ps H2 t2 (by rw [er];exact List.append_nil _) (fun u=>hp u) spl (s1.free f2) (s1.trans s2)
   · rw [B.tlab_nil] at z
     exact q0 hm z H2 (s1.trans s2)
theorem sc_Survey_same:FnScope ["self","a","b"] ["self","a","b"] (defScope s_Survey_same):=scm
theorem ok_sameX {f C cM:Addr}{fd:FuncData} (F:Fun K "same" "Survey.same" s_Survey_same f fd) (PP:Rdmx P w K mg base C "paper" ["self","a","b"] 8 (spPapX C cM)):FnOk P w K mg base (CXe P w) 9 f fd ["self","a","b"] (spSameX C cM):=by
 refine F.okX sc_Survey_same (fun vs H Q E h=>?_) (fun cdv A outer s H vs Q E hr h=>?_)
 · obtain ⟨g,lh,B,rest,a,b,rfl,_⟩:=h
   rfl
 · obtain ⟨g,lh,B,rest,a,b,rfl,hB,q,qm⟩:=h
   obtain ⟨dx,ls,hg,he⟩:=id hB.ob
   refine ⟨_,(@sO _ _ _ (@sR _ _ _ _ (pe_cmpR op_notN (PP.pe hr (pv 0) (@aC _ _ _ _ _ (pv 1) (@aC _ _ _ _ _ (pv 2) pa_nil (by rfl)) (by rfl))) pe_non (nomark _)))),?_⟩
   refine ⟨_,rfl,g,dx,_,rfl,hg,rfl,_,rfl,_,rfl,g,lh,B,rest,a,b,rfl,hB,fun hm z l2 sp ps H2 t2 er hp spl _ s2=>?_,fun hm z H2 s2=>?_,qm⟩
   · have:=q hm H2 s2
     rw [decide_eq_true z] at this
     exact ⟨rfl,this⟩
   · have:=q hm H2 s2
     rw [decide_eq_false z] at this
     exact ⟨rfl,this⟩
theorem sc_Survey_row:FnScope ["self","a","kind","b","labels","paper"] ["self","a","kind","b"] (defScope s_Survey_row):=scm
theorem ok_srowX {f C cM cK cF cB:Addr}{fd:FuncData} (F:Fun K "row" "Survey.row" s_Survey_row f fd) (hmNoKind:mg "NoKind"=some (.ref cK)) (hvNoKind:isVe K cK=true) (hmBarred:mg "Barred"=some (.ref cB)) (hvBarred:isVe K cB=true) (TS':TxtS K mg C)
  (CM:Rdmx P w K mg base C "check_marks" ["self","a","b"] 1 (spCkMX C cM)) (CRM:Rdmx P w K mg base C "check_room" ["self"] 1 (spCkRX C cF)) (FO:Rdy P w K mg base "folded" ["marks","rows","start"] 6 spFold2) (RW:Rdy P w K mg base "rows_of" ["entries"] 1 spRowsOf) (BO:Rdy P w K mg base "broken_oath" ["entries","labels"] 1 spBrk) (ENT:Rdm P w K mg base C "enter" ["self","told"] 1 (spEnter C)):
  FnOk P w K mg base (CXe P w) 7 f fd ["self","a","kind","b"] (spSRowX C cM cK cF cB):=by
 obtain ⟨_,hrow⟩:=TS'.row
 refine F.okX sc_Survey_row (fun vs H Q E h=>?_) (fun cdv A outer s H vs Q E hr h=>?_)
 · obtain ⟨g,lh,B,rest,a,kd,b,rfl,_⟩:=h
   rfl
 · obtain ⟨g,lh,B,rest,a,kd,b,rfl,hB,q,qm,qk,qf,qb⟩:=h
   obtain ⟨dx,ls,hg,he⟩:=id hB.ob
   have n24:=hB.n24
   refine ⟨_,(@sC _ _ _ _ _ (ps_expr (CM.pe hr (pv 0) (@aC _ _ _ _ _ (pv 1) (@aC _ _ _ _ _ (pv 3) pa_nil (by rfl)) (by rfl))))
    (@sC _ _ _ _ _ (ps_if (PW.pt (pw_or (pt_cmpR op_lt (pv 2) pe_int (nomark _)) (pw_or1 (pt_cmpR op_gt (pv 2) (pe_fld (pv 0) rfl) (nomark _))))) (@sO _ _ _ (ps_raise rfl rfl hmNoKind hvNoKind (pa_cons pe_str pa_nil))) pss_nil)
    (@sC _ _ _ _ _ (ps_expr (CRM.pz hr (pv 0)))
    (@sC _ _ _ _ _ (ps_asg (FO.pe hr (@aC _ _ _ _ _ (pe_fld (pv 0) rfl) (@aC _ _ _ _ _ (pe_op op_catW (RW.pe hr (@aC _ _ _ _ _ (pe_fld (pv 0) rfl) pa_nil (by rfl))) (@eL _ _ _ _ (@aC _ _ _ _ _ (pe_tup (@aC _ _ _ _ _ (pe_fld (pv 0) rfl) (@aC _ _ _ _ _ (pv 1) (@aC _ _ _ _ _ (pv 2) (@aC _ _ _ _ _ (pv 3) pa_nil (by rfl)) (by rfl)) (by rfl)) (by rfl))) pa_nil (by rfl)))) (@aC _ _ _ _ _ (pe_lstW pa_nil) pa_nil (by rfl)) (by rfl)) (by rfl))) (pg_tup rfl (pgs_cons (pg_name (i:=4) sc_Survey_row.nd rfl (Or.inl rfl)) (pgs_cons (pg_name (i:=5) sc_Survey_row.nd rfl (Or.inl rfl)) pgs_nil))))
    (@sC _ _ _ _ _ (ps_if (pt_cmpR op_notN (BO.pe hr (@aC _ _ _ _ _ (pe_fld (pv 0) rfl) (@aC _ _ _ _ _ (pv 4) pa_nil (by rfl)) (by rfl))) pe_non (nomark _)) (@sO _ _ _ (ps_raise rfl rfl hmBarred hvBarred (pa_cons pe_str pa_nil))) pss_nil)
    (@sO _ _ _ (@sR _ _ _ _ (ENT.pe hr (pv 0) (@aC _ _ _ _ _ (pe_tup (@aC _ _ _ _ _ (pe_glob (v:=.str "row") rfl hrow ⟨_,rfl⟩) (@aC _ _ _ _ _ (pv 1) (@aC _ _ _ _ _ (pv 2) (@aC _ _ _ _ _ (pv 3) pa_nil (by rfl)) (by rfl)) (by rfl)) (by rfl))) pa_nil (by rfl)))))))))),?_⟩
   refine ⟨_,rfl,g,dx,_,rfl,hg,rfl,_,rfl,_,rfl,g,lh,B,rest,a,b,rfl,hB,fun hm H1 s1=>?_,qm⟩
   have hg1:=s1 _ _ hg
   have hB1:=hB.same s1
   refine ⟨_,rfl,_,_,rfl,rfl,_,rfl,ite2 (fun z=>⟨by decide,qk hm (fun y=>by have:=of_decide_eq_true z;omega) _ s1⟩) fun z=>⟨_,rfl,_,rfl,g,C,dx,_,_,rfl,hg1,TS'.cl,TS'.nk,bf_k ..,_,_,rfl,rfl,_,rfl,ite2 (fun y=>⟨by decide,qk hm (fun w=>by have:=of_decide_eq_true y;omega) _ s1⟩) fun y=>?_⟩⟩
   have z:¬ _:=fun w=>z (decide_eq_true w)
   have y:¬ _:=fun w=>y (decide_eq_true w)
   have hk:1≤kd∧kd≤B.k:=⟨by omega,by omega⟩
   refine ⟨_,rfl,g,dx,_,rfl,hg1,rfl,g,lh,B,rest,rfl,hB1,fun hroom=>?_,fun hroom=>qf hm hk hroom H1 s1⟩
   refine ⟨_,rfl,g,C,dx,_,_,rfl,hg1,TS'.cl,TS'.nn,bf_n ..,_,rfl,g,C,dx,_,_,rfl,hg1,TS'.cl,TS'.ns,bf_s ..,ls,rest,B.es,rfl,he.same s1,by omega,fun r1 ps1 H2 hr1 t1 e1 s2=>?_⟩
   have hg2:=s2 _ _ hg1
   refine ⟨_,rfl,g,C,dx,_,_,rfl,hg2,TS'.cl,TS'.nc,bf_c ..,_,rfl,_,rfl,_,rfl,by show 4≤sizeLine;decide,fun tp htp=>?_⟩
   have s3:Same H2 (upd H2 tp (.tup [.int B.c,.int a,.int kd,.int b])):=(Same.refl H2).upd htp
   have i3:upd H2 tp (.tup [.int B.c,.int a,.int kd,.int b]) tp=some (.tup [.int B.c,.int a,.int kd,.int b]):=upd_same
   generalize upd H2 tp (.tup [.int B.c,.int a,.int kd,.int b])=H3 at s3 i3
   refine rd_lsV (by show 1≤1000;decide) fun l4 H4 hl4 i4 s4=>?_
   have t4:Tl H4 l4 [(tp,[B.c,a,kd,b])]:=⟨i4,fun p hp=>by rw [List.mem_singleton.mp hp];exact s4 _ _ i3⟩
   have l1:=rows_len e1
   have:=rowsOf_len B.es
   refine rd_catV (s4 _ _ (s3 _ _ t1.is)) i4 (by rw [List.length_map];show ps1.length+1≤_;omega) fun l5 H5 hl5 i5 s5=>?_
   have t5:Tl H5 l5 (ps1++[(tp,[B.c,a,kd,b])]):=Tl.cat (t1.same (s3.trans s4)) t4 s5 i5
   have e5:(ps1++[(tp,[B.c,a,kd,b])]).map (·.2)=rowsOf B.es++[[B.c,a,kd,b]]:=by rw [List.map_append,e1];rfl
   refine rd_lsV (by show 0≤1000;decide) fun l6 H6 hl6 i6 s6=>?_
   have rok:∀ r∈rowsOf B.es++[[B.c,a,kd,b]],RowOk B.n r∧1≤r.getD 2 0∧r.getD 2 0≤5:=fun r hr2=>by
    rcases List.mem_append.mp hr2 with z | z
    · exact rowsOf_ok hB.k5 hB.ok r z
    · rw [List.mem_singleton.mp z]
      obtain ⟨⟨a0,a1⟩,b0,b1⟩:=hm
      have:=hB.k5
      refine ⟨⟨B.c,a.toNat,kd,b.toNat,by rw [Int.toNat_of_nonneg a0,Int.toNat_of_nonneg b0],by omega,by omega⟩,hk.1,?_⟩
      show kd≤5;omega
   refine ⟨B.n,l5,l6,_,[],rfl,t5.same s6,⟨i6,(fun _ z=>nomatch z)⟩,rows_all e5 rok,(fun _ z=>nomatch z),by omega,by simp;omega,by simp,fun t7 la lp sp l H7 h7 i7 tl7 fL hp spl _ _ s7=>?_⟩
   rw [e5] at fL
   have el:l=fl B.n (rowsOf B.es++[[B.c,a,kd,b]]):=fL.eq
   have ll:l.length=B.n:=fL.1.lab.len
   refine ⟨t7,_,rfl,SqT.of h7,rfl,_,_,rfl,_,_,rfl,rfl,?_⟩
   have s17:Same H1 H7:=s2.trans (s3.trans (s4.trans (s5.trans (s6.trans s7))))
   have s07:=s1.trans s17
   refine ⟨_,rfl,g,C,dx,_,_,rfl,s07 _ _ hg,TS'.cl,TS'.ns,bf_s ..,_,rfl,ls,la,rest,B.es,l,B.k,rfl,he.same s07,i7,by rw [ll];exact hB.ok,rfl,_,rfl,?_⟩
   cases hbr:broken B.es l with
   | some i=>
    refine iteT ⟨by decide,qb hm hk hroom ?_ _ s07⟩
    show broken B.es (fl B.n (rowsOf B.es++[[B.c,a,kd,b]]))≠none
    rw [← el,hbr];exact (fun z=>nomatch z)
   | none=>
    refine iteF ?_
    refine ⟨_,rfl,g,dx,_,rfl,s07 _ _ hg,rfl,_,rfl,_,rfl,_,rfl,by show 4≤sizeLine;decide,fun tq htq=>?_⟩
    have s8:Same H7 (upd H7 tq (.tup [.str "row",.int a,.int kd,.int b])):=(Same.refl H7).upd htq
    have s08:=s07.trans s8
    refine ⟨g,lh,B,rest,tq,.row 0 a kd b,rfl,hB.same s08,upd_same,⟨hm.1,hk,hm.2⟩,hroom,fun H9 rest' hB9 nw kp=>?_⟩
    refine q hm hk hroom ?_ H9 rest' hB9 (fun x hx=>?_) fun c o e nc=>kp c o (s08 _ _ e) nc
    · show ¬ broken B.es (fl B.n (rowsOf B.es++[[B.c,a,kd,b]]))≠none
      rw [← el,hbr];exact fun z=>z rfl
    · rcases nw x hx with z | z
      · exact .inl z
      · exact .inr (s08.free z)
theorem sc_Survey_apart:FnScope ["self","a","b"] ["self","a","b"] (defScope s_Survey_apart):=scm
theorem ok_apX {f C cM cF cB:Addr}{fd:FuncData} (F:Fun K "apart" "Survey.apart" s_Survey_apart f fd) (hmBarred:mg "Barred"=some (.ref cB)) (hvBarred:isVe K cB=true) (TS':TxtS K mg C)
  (CM:Rdmx P w K mg base C "check_marks" ["self","a","b"] 1 (spCkMX C cM)) (CRM:Rdmx P w K mg base C "check_room" ["self"] 1 (spCkRX C cF)) (SM:Rdmx P w K mg base C "same" ["self","a","b"] 9 (spSameX C cM)) (ENT:Rdm P w K mg base C "enter" ["self","told"] 1 (spEnter C)):
  FnOk P w K mg base (CXe P w) 10 f fd ["self","a","b"] (spApX C cM cF cB):=by
 obtain ⟨_,hap⟩:=TS'.ap
 refine F.okX sc_Survey_apart (fun vs H Q E h=>?_) (fun cdv A outer s H vs Q E hr h=>?_)
 · obtain ⟨g,lh,B,rest,a,b,rfl,_⟩:=h
   rfl
 · obtain ⟨g,lh,B,rest,a,b,rfl,hB,q,qm,qf,qb⟩:=h
   obtain ⟨dx,ls,hg,he⟩:=id hB.ob
   refine ⟨_,(@sC _ _ _ _ _ (ps_expr (CM.pe hr (pv 0) (@aC _ _ _ _ _ (pv 1) (@aC _ _ _ _ _ (pv 2) pa_nil (by rfl)) (by rfl))))
    (@sC _ _ _ _ _ (ps_expr (CRM.pz hr (pv 0)))
    (@sC _ _ _ _ _ (ps_if (pt_val (SM.pe hr (pv 0) (@aC _ _ _ _ _ (pv 1) (@aC _ _ _ _ _ (pv 2) pa_nil (by rfl)) (by rfl)))) (@sO _ _ _ (ps_raise rfl rfl hmBarred hvBarred (pa_cons pe_str pa_nil))) pss_nil)
    (@sO _ _ _ (@sR _ _ _ _ (ENT.pe hr (pv 0) (@aC _ _ _ _ _ (pe_tup (@aC _ _ _ _ _ (pe_glob (v:=.str "apart") rfl hap ⟨_,rfl⟩) (@aC _ _ _ _ _ (pv 1) (@aC _ _ _ _ _ (pv 2) pa_nil (by rfl)) (by rfl)) (by rfl))) pa_nil (by rfl)))))))),?_⟩
   refine ⟨_,rfl,g,dx,_,rfl,hg,rfl,_,rfl,_,rfl,g,lh,B,rest,a,b,rfl,hB,fun hm H1 s1=>?_,qm⟩
   have hg1:=s1 _ _ hg
   have hB1:=hB.same s1
   refine ⟨_,rfl,g,dx,_,rfl,hg1,rfl,g,lh,B,rest,rfl,hB1,fun hroom=>?_,fun hroom=>qf hm hroom H1 s1⟩
   refine ⟨_,rfl,g,dx,_,rfl,hg1,rfl,_,rfl,_,rfl,g,lh,B,rest,a,b,rfl,hB1,fun _ H2 s2=>⟨_,rfl,?_⟩,fun z=>absurd hm z⟩
   have s12:=s1.trans s2
   by_cases z:B.lab.getD a.toNat 0=B.lab.getD b.toNat 0
   · exact iteTe (decide_eq_true z) ⟨by decide,qb hm hroom z _ s12⟩
   · refine iteFe (decide_eq_false z) ?_
     refine ⟨_,rfl,g,dx,_,rfl,s12 _ _ hg,rfl,_,rfl,_,rfl,by show 3≤sizeLine;decide,fun tq htq=>?_⟩
     have s8:Same H2 (upd H2 tq (.tup [.str "apart",.int a,.int b])):=(Same.refl H2).upd htq
     have s08:=s12.trans s8
     refine ⟨g,lh,B,rest,tq,.ap 0 a b,rfl,hB.same s08,upd_same,⟨hm.1,hm.2⟩,hroom,fun H9 rest' hB9 nw kp=>?_⟩
     refine q hm hroom z H9 rest' hB9 (fun x hx=>?_) fun c o e nc=>kp c o (s08 _ _ e) nc
     rcases nw x hx with z | z
     · exact .inl z
     · exact .inr (s08.free z)
theorem sc_Survey_marks:FnScope ["self"] ["self"] (defScope s_Survey_marks):=scm
theorem ok_marks {f C:Addr}{fd:FuncData} (F:Fun K "marks" "Survey.marks" s_Survey_marks f fd) (TS':TxtS K mg C):FnOk P w K mg base CX0 1 f fd ["self"] (spMarks C):=by
 refine F.ok sc_Survey_marks (fun vs H Q E h=>?_) (fun cdv A outer s H vs Q E hr h=>?_)
 · obtain ⟨g,lh,B,rest,rfl,_⟩:=h
   rfl
 · obtain ⟨g,lh,B,rest,rfl,hB,q⟩:=h
   obtain ⟨dx,ls,hg,he⟩:=id hB.ob
   exact ⟨_,(@sO _ _ _ (@sR _ _ _ _ (pe_fld (pv 0) rfl))),_,rfl,g,C,dx,_,_,rfl,hg,TS'.cl,TS'.nn,bf_n ..,q⟩
theorem sc_Survey_entries:FnScope ["self"] ["self"] (defScope s_Survey_entries):=scm
theorem ok_entries {f C:Addr}{fd:FuncData} (F:Fun K "entries" "Survey.entries" s_Survey_entries f fd) (T:Txt K mg) (TS':TxtS K mg C):FnOk P w K mg base CX0 1 f fd ["self"] (spEntries C):=by
 refine F.ok sc_Survey_entries (fun vs H Q E h=>?_) (fun cdv A outer s H vs Q E hr h=>?_)
 · obtain ⟨g,lh,B,rest,rfl,_⟩:=h
   rfl
 · obtain ⟨g,lh,B,rest,rfl,hB,q⟩:=h
   obtain ⟨dx,ls,hg,he⟩:=id hB.ob
   obtain ⟨ps,h1,h2,h3,h4,h5⟩:=he.ob
   refine ⟨_,(@sO _ _ _ (@sR _ _ _ _ (pe_callTy call_listR rfl T.list bt_list (@aC _ _ _ _ _ (pe_fld (pv 0) rfl) pa_nil (by rfl))))),?_⟩
   refine ⟨_,rfl,g,C,dx,_,_,rfl,hg,TS'.cl,TS'.ns,bf_s ..,rd_listV h1 fun l H1 hl il s1=>?_⟩
   exact q l H1 hl ⟨ps,il,fun p hp=>s1 _ _ (h2 p hp),h3,List.mem_cons_self ..,fun p hp=>List.mem_cons_of_mem _ (h5 p hp)⟩ s1
theorem sc_Survey___init__:FnScope ["self","kinds"] ["self","kinds"] (defScope s_Survey___init__):=scm
theorem ok_sinit {f C:Addr}{fd:FuncData} (F:Fun K "__init__" "Survey.__init__" s_Survey___init__ f fd) (TS':TxtS K mg C):FnOk P w K mg base CX0 1 f fd ["self","kinds"] (spSInit C):=by
 obtain ⟨_,hmk⟩:=TS'.mk5
 refine F.ok sc_Survey___init__ (fun vs H Q E h=>?_) (fun cdv A outer s H vs Q E hr h=>?_)
 · obtain ⟨g,dx,k,rfl,_⟩:=h
   rfl
 · obtain ⟨g,dx,k,rfl,hg,k1,k5,q⟩:=h
   refine ⟨_,(@sC _ _ _ _ _ (ps_if (PW.pt (pw_or (pt_cmpR op_lt (pv 1) pe_int (nomark _)) (pw_or1 (pt_cmpR op_gt (pv 1) (pe_glob (v:=.int 5) rfl hmk ⟨_,rfl⟩) (nomark _))))) (@sO _ _ _ ps_never) pss_nil)
    (@sC _ _ _ _ _ (ps_fld (pv 0) (pv 1) rfl)
    (@sC _ _ _ _ _ (ps_fld (pv 0) pe_int rfl)
    (@sC _ _ _ _ _ (ps_fld (pv 0) (pe_lstW pa_nil) rfl)
    (@sC _ _ _ _ _ (ps_fld (pv 0) pe_int rfl)
    (@sO _ _ _ (ps_fld (pv 0) (pe_lstW pa_nil) rfl))))))),?_⟩
   refine ⟨_,rfl,_,_,rfl,rfl,_,rfl,iteFe (decide_eq_false (by omega)) ⟨_,rfl,_,_,rfl,rfl,_,rfl,iteFe (decide_eq_false (by omega)) ?_⟩⟩
   refine ⟨_,rfl,_,rfl,g,C,dx,_,rfl,hg,TS'.cl,TS'.nk,(by show 0 < 1000;decide),?_⟩
   refine ⟨_,rfl,g,C,dx,_,rfl,upd_same,TS'.cl,TS'.nn,(by show 1 < 1000;decide),?_⟩
   rw [upd_upd]
   refine rd_lsV (by show 0≤1000;decide) fun ls H1 hls ils s1=>?_
   have gl:ls≠g:=fun z=>by rw [z,upd_same] at hls;cases hls
   have hg1:=s1 g _ upd_same
   refine ⟨_,rfl,g,C,dx,_,rfl,hg1,TS'.cl,TS'.ns,(by show 2 < 1000;decide),?_⟩
   refine ⟨_,rfl,g,C,dx,_,rfl,upd_same,TS'.cl,TS'.nc,(by show 3 < 1000;decide),?_⟩
   rw [upd_upd]
   refine rd_lsV (by show 0≤1000;decide) fun lh H2 hlh ilh s2=>?_
   have gh:lh≠g:=fun z=>by rw [z,upd_same] at hlh;cases hlh
   have hg2:=s2 g _ upd_same
   refine ⟨_,rfl,g,C,dx,_,rfl,hg2,TS'.cl,TS'.nh,(by show 4 < 1000;decide),?_⟩
   have ls2:H2 ls=some (.lst []):=s2 ls _ (by rw [upd_ne gl];exact ils)
   have nlh:ls≠lh:=fun z=>by
    rw [← z,upd_ne gl,ils] at hlh;cases hlh
   have hls0:H ls=none:=by rwa [upd_ne gl] at hls
   have hlh0:H lh=none:=by
    rw [upd_ne gh] at hlh
    have:=s1.free hlh
    rwa [upd_ne gh] at this
   refine q _ lh [ls] ⟨k1,k5,Nat.zero_le _,Nat.zero_le _,(fun _ z=>nomatch z),⟨dx,ls,upd_same,⟨[],by rw [upd_ne gl];exact ls2,(fun _ z=>nomatch z),rfl,List.mem_singleton.mpr rfl,(fun _ z=>nomatch z)⟩⟩,⟨[],by rw [upd_ne gh];exact ilh,(fun _ z=>nomatch z),rfl⟩,(fun _ z=>nomatch z),fun z=>nlh (List.mem_singleton.mp z).symm,fun z=>gl (List.mem_singleton.mp z).symm,fun a ha=>⟨.lst [],by rw [List.mem_singleton.mp ha,upd_ne gl];exact ls2⟩⟩ hlh0 (fun a ha=>by rw [List.mem_singleton.mp ha];exact hls0) fun c o e nc=>?_
   rw [upd_ne nc]
   refine s2 _ _ ?_
   rw [upd_ne nc]
   refine s1 _ _ ?_
   rw [upd_ne nc];exact e
theorem sc__law_entered:FnScope ["_law_book_here","_law_entry_here","_law_number"] ["_law_book_here","_law_entry_here"] (defScope s__law_entered):=scm
theorem ok_entered {f C cM cK cF cB:Addr}{fd:FuncData} (F:Fun K "_law_entered" "_law_entered" s__law_entered f fd) (hmBarred:mg "Barred"=some (.ref cB)) (hex:PySem.W.exmOne K (.ref cB) (.ref cB)=some true)
  (SRW:Rdmx P w K mg base C "row" ["self","a","kind","b"] 7 (spSRowX C cM cK cF cB)) (SAP:Rdmx P w K mg base C "apart" ["self","a","b"] 10 (spApX C cM cF cB)):FnOk P w K mg base CX0 11 f fd ["_law_book_here","_law_entry_here"] (spEntered C):=by
 refine F.ok sc__law_entered (fun vs H Q E h=>?_) (fun cdv A outer s H vs Q E hr h=>?_)
 · obtain ⟨g,lh,B,rest,t,e,rfl,_⟩:=h
   rfl
 · obtain ⟨g,lh,B,rest,t,e,rfl,hB,ht,eok,e40,qn,q⟩:=h
   obtain ⟨dx,ls,hg,he⟩:=id hB.ob
   refine ⟨_,(@sC _ _ _ _ _ (@sS _ 2 _ _ _ _ _ sc__law_entered.nd rfl (Or.inl rfl) pe_non (by rfl) (.inl rfl))
    (@sC _ _ _ _ _ (ps_tryN (psx_if (pt_cmpR op_eq (pe_ix ix_t (pv 1) pe_int (fun _ _=>rfl)) pe_str (nomark _)) (psx_set (i:=2) sc__law_entered.nd rfl (Or.inl rfl) (SRW.px hr (pv 0) (@aC _ _ _ _ _ (pe_ix ix_t (pv 1) pe_int (fun _ _=>rfl)) (@aC _ _ _ _ _ (pe_ix ix_t (pv 1) pe_int (fun _ _=>rfl)) (@aC _ _ _ _ _ (pe_ix ix_t (pv 1) pe_int (fun _ _=>rfl)) pa_nil (by rfl)) (by rfl)) (by rfl)))) (psx_set (i:=2) sc__law_entered.nd rfl (Or.inl rfl) (SAP.px hr (pv 0) (@aC _ _ _ _ _ (pe_ix ix_t (pv 1) pe_int (fun _ _=>rfl)) (@aC _ _ _ _ _ (pe_ix ix_t (pv 1) pe_int (fun _ _=>rfl)) pa_nil (by rfl)) (by rfl))))) rfl hmBarred (fun ea=>(@sO _ _ _ (@sS _ 2 _ _ _ _ _ sc__law_entered.nd rfl (Or.inl rfl) pe_non (by rfl) (.inl rfl)))))
    (@sO _ _ _ (@sR _ _ _ _ (pv 2))))),?_⟩
   refine seq_const ?_
   refine tTryN.splitS fun EE hEE=>?_
   have EX:∀ G,Same H G→Q .non G→EE (.ref cB) none G:=fun G sG z=>hEE _ _ hex ⟨_,rfl,z⟩
   cases e with
   | row i a kd b=>
    obtain ⟨ha,hk,hb⟩:=eok
    refine ⟨_,rfl,rd_tupAt ht rfl ⟨rfl,_,rfl,iteTe (by decide+kernel) ?_⟩⟩
    refine ⟨_,rfl,g,dx,_,rfl,hg,rfl,_,rfl,rd_tupAt ht rfl ⟨_,rfl,rd_tupAt ht rfl ⟨_,rfl,rd_tupAt ht rfl ?_⟩⟩⟩
    refine ⟨g,lh,B,rest,a,kd,b,rfl,hB,fun _ _ _ nb H' rest' hB' nw kp=>⟨_,rfl,q nb H' rest' hB' nw kp⟩,fun z=>absurd ⟨ha,hb⟩ z,fun _ z=>absurd hk z,fun _ _ z=>absurd e40 z,fun _ _ _ br H' s'=>EX _ s' (qn br H' s')⟩
   | ap i a b=>
    obtain ⟨ha,hb⟩:=eok
    refine ⟨_,rfl,rd_tupAt ht rfl ⟨rfl,_,rfl,iteFe (by decide+kernel) ?_⟩⟩
    refine ⟨_,rfl,g,dx,_,rfl,hg,rfl,_,rfl,rd_tupAt ht rfl ⟨_,rfl,rd_tupAt ht rfl ?_⟩⟩
    refine ⟨g,lh,B,rest,a,b,rfl,hB,fun _ _ nb H' rest' hB' nw kp=>⟨_,rfl,q nb H' rest' hB' nw kp⟩,fun z=>absurd ⟨ha,hb⟩ z,fun _ z=>absurd e40 z,fun _ _ br H' s'=>EX _ s' (qn br H' s')⟩
theorem sc__law_entry:FnScope ["_law_kinds","_law_marks","_law_draws"] ["_law_kinds","_law_marks","_law_draws"] (defScope s__law_entry):=scm
theorem ok_entry {f:Addr}{fd:FuncData} (F:Fun K "_law_entry" "_law_entry" s__law_entry f fd):FnOk P w K mg base CX0 1 f fd ["_law_kinds","_law_marks","_law_draws"] spEntry:=by
 refine F.ok sc__law_entry (fun vs H Q E h=>?_) (fun cdv A outer s H vs Q E hr h=>?_)
 · obtain ⟨k,n,ld,ds,rfl,_⟩:=h
   rfl
 · obtain ⟨k,n,ld,ds,rfl,hd,l3,k1,k5,n1,n7,q⟩:=h
   refine ⟨_,(@sC _ _ _ _ _ (ps_if (pt_cmpR op_eq (pe_op op_mod (pe_ix ix_l (pv 2) pe_int (fun _ _=>rfl)) pe_int) pe_int (nomark _)) (@sO _ _ _ (@sR _ _ _ _ (pe_tup (@aC _ _ _ _ _ pe_str (@aC _ _ _ _ _ (pe_op op_mod (pe_ix ix_l (pv 2) pe_int (fun _ _=>rfl)) (pv 1)) (@aC _ _ _ _ _ (pe_op op_mod (pe_ix ix_l (pv 2) pe_int (fun _ _=>rfl)) (pv 1)) pa_nil (by rfl)) (by rfl)) (by rfl))))) pss_nil)
    (@sO _ _ _ (@sR _ _ _ _ (pe_tup (@aC _ _ _ _ _ pe_str (@aC _ _ _ _ _ (pe_op op_mod (pe_ix ix_l (pv 2) pe_int (fun _ _=>rfl)) (pv 1)) (@aC _ _ _ _ _ (pe_op op_add pe_int (pe_op op_mod (pe_op op_fdiv (pe_ix ix_l (pv 2) pe_int (fun _ _=>rfl)) pe_int) (pv 0))) (@aC _ _ _ _ _ (pe_op op_mod (pe_ix ix_l (pv 2) pe_int (fun _ _=>rfl)) (pv 1)) pa_nil (by rfl)) (by rfl)) (by rfl)) (by rfl)))))),?_⟩
   have np:(0:Int) < n:=by omega
   have kp:(0:Int) < k:=by omega
   have inM:∀ d:Int,InM n (d % n):=fun d=>⟨Int.emod_nonneg _ (by omega),Int.emod_lt_of_pos _ np⟩
   refine ⟨_,rfl,rd_at 0 hd (by omega) ⟨_,_,rfl,rfl,(by show (0:Int) < 5;decide),rfl,_,rfl,ite2 (fun _=>?_) fun _=>?_⟩⟩
   · refine ⟨_,rfl,rd_at 1 hd (by omega) ⟨_,rfl,_,_,rfl,rfl,np,_,rfl,rd_at 2 hd (by omega) ⟨_,rfl,_,_,rfl,rfl,np,by show 3≤sizeLine;decide,fun t ht=>?_⟩⟩⟩
     exact q t (.ap 0 (ds.getD 1 0 % n) (ds.getD 2 0 % n)) _ ht upd_same ⟨inM _,inM _⟩ ((Same.refl H).upd ht)
   · refine ⟨_,rfl,rd_at 1 hd (by omega) ⟨_,rfl,_,_,rfl,rfl,np,_,rfl,rd_at 0 hd (by omega) ⟨_,_,rfl,rfl,⟨by show (0:Int) < 5;decide,by show (5:Int) < 1073741824;decide⟩,_,rfl,_,_,rfl,rfl,kp,_,_,rfl,rfl,_,rfl,rd_at 2 hd (by omega) ⟨_,rfl,_,_,rfl,rfl,np,by show 4≤sizeLine;decide,fun t ht=>?_⟩⟩⟩⟩
     have m0:=Int.emod_nonneg (ds.getD 0 0 / 5) (show (k:Int)≠0 by omega)
     have m1:=Int.emod_lt_of_pos (ds.getD 0 0 / 5) kp
     exact q t (.row 0 (ds.getD 1 0 % n) (1+ds.getD 0 0 / 5 % k) (ds.getD 2 0 % n)) _ ht upd_same ⟨inM _,⟨by omega,by omega⟩,inM _⟩ ((Same.refl H).upd ht)
theorem sc__law_book:FnScope ["_law_book_here","_law_kinds","_law_marks","_law_many","_law_draws","_law_k","_law_standing","_law_entry_here","_law_number"] ["_law_book_here","_law_kinds","_law_marks","_law_many","_law_draws"] (defScope s__law_book):=scm
theorem ok_book {f C cF:Addr}{fd:FuncData} (F:Fun K "_law_book" "_law_book" s__law_book f fd) (T:Txt K mg) (CHK:Rdmx P w K mg base C "chalk" ["self"] 1 (spChalkX C cF)) (LE:Rdy P w K mg base "_law_entry" ["_law_kinds","_law_marks","_law_draws"] 1 spEntry) (LEN:Rdy P w K mg base "_law_entered" ["_law_book_here","_law_entry_here"] 11 (spEntered C)):
  FnOk P w K mg base CX0 12 f fd ["_law_book_here","_law_kinds","_law_marks","_law_many","_law_draws"] (spBook C):=by
 refine F.ok sc__law_book (fun vs H Q E h=>?_) (fun cdv A outer s H vs Q E hr h=>?_)
 · obtain ⟨g,lh,rest,k,m,many,ld,ds,rfl,_⟩:=h
   rfl
 · obtain ⟨g,lh,rest,k,m,many,ld,ds,rfl,hB0,m24,my40,hd,hl,q⟩:=h
   have k1:1≤k:=hB0.k1
   have k5:k≤5:=hB0.k5
   refine ⟨_,(@sC _ _ _ _ _ (ps_for PassesOwn.never rfl (pi_range1 rfl T.range (@aC _ _ _ _ _ (pv 2) pa_nil (by rfl))) (pg_name (i:=5) sc__law_book.nd rfl (Or.inl rfl)) (@sO _ _ _ (ps_expr (CHK.pz0 hr (pv 0)))))
    (@sC _ _ _ _ _ (@sS _ 6 _ _ _ _ _ sc__law_book.nd rfl (Or.inl rfl) (pe_lstW pa_nil) (by rfl) (.inl rfl))
    (@sC _ _ _ _ _ (ps_for PassesOwn.never rfl (pi_range1 rfl T.range (@aC _ _ _ _ _ (pv 3) pa_nil (by rfl))) (pg_name (i:=5) sc__law_book.nd rfl (Or.inl rfl)) (@sO _ _ _ (ps_if (pt_cmpR op_gt (pv 2) pe_int (nomark _)) (@sC _ _ _ _ _ (@sS _ 7 _ _ _ _ _ sc__law_book.nd rfl (Or.inl rfl) (LE.pe hr (@aC _ _ _ _ _ (pv 1) (@aC _ _ _ _ _ (pv 2) (@aC _ _ _ _ _ (pe_slice sl_l (pv 4) (po_some (pe_op op_mul pe_int (pv 5))) (po_some (pe_op op_add (pe_op op_mul pe_int (pv 5)) pe_int))) pa_nil (by rfl)) (by rfl)) (by rfl))) (by rfl) (.inl rfl))
    (@sC _ _ _ _ _ (@sS _ 8 _ _ _ _ _ sc__law_book.nd rfl (Or.inl rfl) (LEN.pe hr (@aC _ _ _ _ _ (pv 0) (@aC _ _ _ _ _ (pv 7) pa_nil (by rfl)) (by rfl))) (by rfl) (.inl rfl))
    (@sO _ _ _ (ps_if (pt_cmpR op_notN (pv 8) pe_non (nomark _)) (@sO _ _ _ (ps_expr (pe_bm PySem.F.plainAttrs_list PySem.F.slot_list_append PySem.F.type_list_append mt_append (pv 6) (@aC _ _ _ _ _ (pe_op op_catT (pe_tup (pa_cons (pv 8) pa_nil)) (pv 7)) pa_nil (by rfl))))) pss_nil)))) pss_nil)))
    (@sO _ _ _ (@sR _ _ _ _ (pv 6)))))),?_⟩
   have ldg:ld≠g:=fun z=>by
    obtain ⟨dx,ls,hg,_⟩:=hB0.ob
    have hd':H g=some (.lst _):=z▸hd
    rw [hg] at hd';cases hd'
   refine ⟨_,rfl,_,rfl,by omega,by omega,for_range (lo:=0) (n:=(m:Int).toNat) (fun i σ H2=>(∃ x,σ=[some (.ref g),some (.int k),some (.int m),some (.int many),some (.ref ld),x,none,none,none])∧BkAt C H2 g lh ⟨k,i,[],1,[]⟩ rest∧Kp g H H2) ⟨⟨none,rfl⟩,hB0,Kp.of (Same.refl H)⟩ ?_ ?_⟩
   · rintro i σ H2 hi ⟨⟨x,rfl⟩,hB,kp⟩
     obtain ⟨dx,ls,hg,he⟩:=id hB.ob
     exact ⟨_,rfl,g,dx,_,rfl,hg,rfl,g,lh,_,rest,rfl,hB,fun _ H3 hB3 kp3=>⟨⟨_,rfl⟩,hB3,kp.trans kp3⟩,fun z=>absurd (show i < 24 by omega) z⟩
   rintro σ H2 ⟨⟨x,rfl⟩,hB,kp⟩
   rw [Int.toNat_natCast] at hB
   refine rd_lsV (by show 0≤1000;decide) fun l H3 hl3 il s3=>?_
   have kp3:Kp g H H3:=kp.trans (Kp.of s3)
   have hB3:=hB.same s3
   have nl3:=hB.not hl3
   have hgl:l≠g:=fun z=>nl3 (z▸List.mem_cons_self ..)
   have hln:H l=none:=by
    cases e:H l with
    | none=>rfl
    | some o=>have:=kp l o e hgl;rw [hl3] at this;cases this
   have lhl:lh≠l:=fun z=>nl3 (z▸List.mem_cons_of_mem _ (List.mem_cons_self ..))
   refine ⟨_,rfl,_,rfl,by omega,by omega,for_range (lo:=0) (n:=(many:Int).toNat) (fun i σ H4=>∃ (x y z:Option V) (fl':List Addr) (B:Bk) (rest':List Addr),σ=[some (.ref g),some (.int k),some (.int m),some (.int many),some (.ref ld),x,some (.ref l),y,z]∧BkAt C H4 g lh B rest'∧B.k=k∧B.n=m∧B.hs=[]∧B.es.length≤i∧Cons B∧Nums B∧El H4 (l::fl') l B.es∧l∉g::lh::rest'∧g∉l::fl'∧lh∉l::fl'∧l∉fl'∧Nw H rest rest'∧(∀ x∈l::fl',H x=none)∧Kp g H H4)
    ⟨_,none,none,[],_,rest,rfl,hB3,rfl,rfl,rfl,Nat.le_refl _,rfl,⟨rfl,fun i e z=>by simp at z⟩,⟨[],il,(fun _ z=>nomatch z),rfl,List.mem_cons_self ..,(fun _ z=>nomatch z)⟩,nl3,(fun z=>hgl (List.mem_singleton.mp z).symm),(fun z=>lhl (List.mem_singleton.mp z)),(fun z=>nomatch z),(fun x hx=>.inl hx),(fun x hx=>by rw [List.mem_singleton.mp hx];exact hln),kp3⟩ ?_ ?_⟩
   · rintro i σ H4 hi ⟨x,y,z,fl',B,rest',rfl,hB4,bk,bn,bh,be,bc,bnu,el4,n1,n2,n2',n3,nw,fr,kp4⟩
     have hi:i < many:=by omega
     have hd4:Ints H4 ld ds:=kp4 _ _ hd ldg
     refine ⟨_,rfl,_,_,rfl,rfl,_,rfl,ite2 (fun hm=>?_) fun hm=>⟨_,_,_,fl',B,rest',rfl,hB4,bk,bn,bh,by omega,bc,bnu,el4,n1,n2,n2',n3,nw,fr,kp4⟩⟩
     have hm:1≤m:=by have:=of_decide_eq_true hm;omega
     have e1:(3 * (0+(i:Int)))=((3 * i:Nat):Int):=by omega
     have e2:(3 * (0+(i:Int))+3)=((3 * i+3:Nat):Int):=by omega
     refine ⟨_,rfl,_,rfl,_,rfl,_,rfl,_,_,rfl,rfl,.inl ⟨by omega,by omega⟩,_,rfl,_,rfl,_,_,rfl,rfl,.inl ⟨by omega,by omega⟩,_,_,rfl,rfl,_,rfl,rd_slice hd4 fun lq H5 hlq iq s5=>?_⟩
     have iq:Ints H5 lq (cutL ds (some ((3 * i:Nat):Int)) (some ((3 * i+3:Nat):Int))):=by rw [← e1, ← e2];exact iq
     rw [cutL_ft _ _ _ (by omega)] at iq
     have l3:((ds.drop (3 * i)).take (3 * i+3 - 3 * i)).length=3:=by rw [List.length_take,List.length_drop];omega
     refine ⟨k,m,lq,_,rfl,iq,l3,k1,k5,hm,by omega,fun t e H6 ht it eok s6=>?_⟩
     have s46:=s5.trans s6
     have kp6:Kp g H H6:=kp4.trans (Kp.of s46)
     have hB6:=hB4.same s46
     have el6:=el4.same s46
     have tl6:t∉g::lh::rest':=(hB4.same s5).not ht
     have ht4:H4 t=none:=s5.free ht
     have tne:t≠l:=fun z=>by
      obtain ⟨ps,h1,_⟩:=el4.ob
      rw [← z,ht4] at h1;cases h1
     have tng:t≠g:=fun z=>tl6 (z▸List.mem_cons_self ..)
     refine ⟨_,rfl,_,rfl,g,lh,B,rest',t,e,rfl,hB6,it,by rw [bk,bn];exact eok,by omega,fun br H7 s7=>?_,fun nb H7 rest7 hB7 nw7 kp7=>?_⟩
     · refine ⟨_,rfl,rfl,_,rfl,iteF ⟨_,_,_,fl',B,rest',rfl,hB6.same s7,bk,bn,bh,by omega,bc,bnu,el6.same s7,n1,n2,n2',n3,nw,fr,kp6.trans (Kp.of s7)⟩⟩
     · refine ⟨_,rfl,rfl,_,rfl,iteT ?_⟩
       have keep:∀ a,a≠g→∀ o,H6 a=some o→H7 a=some o:=fun a na o e=>kp7 a o e na
       have el7:El H7 (l::fl') l B.es:=el6.on fun a ha=>keep a fun z=>n2 (z▸ha)
       have it7:H7 t=some (.tup e.told):=keep t tng _ it
       obtain ⟨ps,h1,h2,h3,h4,h5⟩:=id el7.ob
       have tl:1+e.told.length≤sizeLine∧e.told≠[]:=by
        cases e with
        | row=>exact ⟨by show 1+4≤sizeLine;decide,(fun z=>nomatch z)⟩
        | ap=>exact ⟨by show 1+3≤sizeLine;decide,(fun z=>nomatch z)⟩
       refine ⟨_,rfl,.inl ⟨rfl,_,SqL.of h1⟩,_,rfl,by show 1≤sizeLine;decide,fun p1 hp1=>?_⟩
       have s8:Same H7 (upd H7 p1 (.tup [.int B.c])):=(Same.refl H7).upd hp1
       have i8:upd H7 p1 (.tup [.int B.c]) p1=some (.tup [.int B.c]):=upd_same
       generalize upd H7 p1 (.tup [.int B.c])=H8 at s8 i8
       refine ⟨_,rfl,p1,t,_,_,rfl,rfl,SqT.of i8,SqT.of (s8 _ _ it7),(fun z=>nomatch z),tl.1,fun z=>absurd z tl.2,fun _ p2 hp2=>?_⟩
       have ev:[V.int B.c]++e.told=(e.re B.c).vs:=by cases e <;> rfl
       rw [ev]
       have s9:Same H8 (upd H8 p2 (.tup (e.re B.c).vs)):=(Same.refl H8).upd hp2
       have i9:upd H8 p2 (.tup (e.re B.c).vs) p2=some (.tup (e.re B.c).vs):=upd_same
       generalize upd H8 p2 (.tup (e.re B.c).vs)=H9 at s9 i9
       have s79:=s8.trans s9
       have hp2':H7 p2=none:=s8.free hp2
       have p2l:p2≠l:=fun z=>by rw [z,h1] at hp2';cases hp2'
       have p2H:H p2=none:=by
        cases e':H p2 with
        | none=>rfl
        | some o=>
         have p2g:p2≠g:=fun z=>hB7.lg.2 (z▸hp2')
         have:=(kp6.trans kp7) p2 o e' p2g
         rw [hp2'] at this;cases this
       have h19:=s79 _ _ h1
       refine ⟨l,_,_,rfl,rfl,h19,small4k (by rw [List.length_map, ← List.length_map (f:=(·.2)),h3];omega),?_⟩
       have hl7:l∉g::lh::rest7:=fun z=>by
        rcases List.mem_cons.mp z with z | z
        · exact n1 (z▸List.mem_cons_self ..)
        rcases List.mem_cons.mp z with z | z
        · exact n1 (z▸List.mem_cons_of_mem _ (List.mem_cons_self ..))
        · rcases nw7 l z with z | z
          · exact n1 (List.mem_cons_of_mem _ (List.mem_cons_of_mem _ z))
          · obtain ⟨ps6,h6,_⟩:=el6.ob
            rw [h6] at z;cases z
       refine ⟨_,_,_,p2::fl',B.add e,rest7,rfl,(hB7.same s79).other hl7,bk,bn,bh,?_,bc.add nb,bnu.add e,?_,hl7,?_,?_,?_,?_,?_,?_⟩
       · show (B.es++[e.re B.c]).length≤i+1;simp;omega
       · refine ⟨ps++[(p2,e.re B.c)],by rw [upd_same,List.map_append];rfl,fun p hp=>?_,by rw [List.map_append,h3];rfl,List.mem_cons_self ..,fun p hp=>?_⟩
         · rcases List.mem_append.mp hp with z | z
           · have hp7:=s79 _ _ (h2 p z)
             have:p.1≠l:=fun y=>by rw [y,h19] at hp7;cases hp7
             rw [upd_ne this];exact hp7
           · rw [List.mem_singleton.mp z,upd_ne p2l];exact i9
         · rcases List.mem_append.mp hp with z | z
           · rcases List.mem_cons.mp (h5 p z) with y | y
             · rw [y];exact List.mem_cons_self ..
             · exact List.mem_cons_of_mem _ (List.mem_cons_of_mem _ y)
           · rw [List.mem_singleton.mp z];exact List.mem_cons_of_mem _ (List.mem_cons_self ..)
       · intro z
         rcases List.mem_cons.mp z with z | z
         · exact n2 (z▸List.mem_cons_self ..)
         rcases List.mem_cons.mp z with z | z
         · exact hB7.lg.2 (z▸hp2')
         · exact n2 (List.mem_cons_of_mem _ z)
       · intro z
         rcases List.mem_cons.mp z with z | z
         · exact n2' (z▸List.mem_cons_self ..)
         rcases List.mem_cons.mp z with z | z
         · exact hB7.lg.1 (z▸hp2')
         · exact n2' (List.mem_cons_of_mem _ z)
       · intro z
         rcases List.mem_cons.mp z with z | z
         · exact p2l z.symm
         · exact n3 z
       · intro x hx
         rcases nw7 x hx with z | z
         · exact nw x z
         · refine .inr ?_
           cases e':H x with
           | none=>rfl
           | some o=>
            by_cases xg:x=g
            · exact absurd (xg▸z) (hB6.lg.2)
            · have:=kp6 x o e' xg
              rw [z] at this;cases this
       · intro x hx
         rcases List.mem_cons.mp hx with z | z
         · rw [z];exact hln
         rcases List.mem_cons.mp z with z | z
         · rw [z];exact p2H
         · exact fr x (List.mem_cons_of_mem _ z)
       · intro c o e' nc
         have cl:c≠l:=fun z=>by rw [z,hln] at e';cases e'
         rw [upd_ne cl]
         exact s79 _ _ ((kp6.trans kp7) c o e' nc)
   · rintro σ H4 ⟨x,y,z,fl',B,rest',rfl,hB4,bk,bn,bh,be,bc,bnu,el4,n1,n2,n2',n3,nw,fr,kp4⟩
     rw [Int.toNat_natCast] at be
     exact ⟨_,rfl,q l _ B rest' H4 hB4 bk bn bh be bc bnu el4 hln n1 n2 n2' nw fr kp4⟩
theorem sc__law_rows:FnScope ["_law_standing"] ["_law_standing"] (defScope s__law_rows):=scm
theorem ok_lrows {f:Addr}{fd:FuncData} (F:Fun K "_law_rows" "_law_rows" s__law_rows f fd):FnOk P w K mg base CX0 1 f fd ["_law_standing"] spRowsOf:=by
 refine F.ok sc__law_rows (fun vs H Q E h=>?_) (fun cdv A outer s H vs Q E hr h=>?_)
 · obtain ⟨l,fp,es,rfl,_⟩:=h
   rfl
 · obtain ⟨l,fp,es,rfl,he,hl,q⟩:=h
   obtain ⟨ps,h1,h2,h3,h4,h5⟩:=he.ob
   have lp:ps.length=es.length:=by rw [← h3,List.length_map]
   refine ⟨_,(@sO _ _ _ (@sR _ _ _ _ (pe_compIf [] [] (pi_list (pv 0)) (fun C s H fp=>pt_cmpR op_eq (pe_ix (show IxR _ (wr2 (rIxT K)) from ix_t) (pv 0) pe_int (fun _ _=>rfl)) pe_str (nomark _)) (fun C s H fp=>pe_tup (pa_cons (pe_ix (show IxR _ (wr2 (rIxT K)) from ix_t) (pv 0) pe_int (fun _ _=>rfl)) (pa_cons (pe_ix (show IxR _ (wr2 (rIxT K)) from ix_t) (pv 0) pe_int (fun _ _=>rfl)) (pa_cons (pe_ix (show IxR _ (wr2 (rIxT K)) from ix_t) (pv 0) pe_int (fun _ _=>rfl)) (pa_cons (pe_ix (show IxR _ (wr2 (rIxT K)) from ix_t) (pv 0) pe_int (fun _ _=>rfl)) pa_nil))))) hcl_nil))),?_⟩
   refine ⟨_,rfl,l,rfl,⟨_,SqL.of h1⟩,compIf_list (xs:=ps.map fun p=>V.ref p.1) fun D hD=>⟨fun i ys H2=>∃ qs:Ps,ys=(qs.map fun p=>V.ref p.1)∧qs.length≤i∧Tl H2 D qs∧qs.map (·.2)=rowsOf ((ps.take i).map (·.2))∧Same H H2,⟨[],rfl,Nat.le_refl _,⟨upd_same,(fun _ z=>nomatch z)⟩,rfl,(Same.refl H).upd hD⟩,?_,?_,?_⟩⟩
   · rintro i ys H2 hi ⟨qs,rfl,ql,tl,_,s2⟩
     rw [List.length_map] at hi
     exact ⟨s2.seq (SqL.of h1),tl.is,small4k (by rw [List.length_map];omega)⟩
   · rintro i x ys H2 hi ⟨qs,rfl,ql,tl,er,s2⟩ Q1 Q0 q1 q0
     rw [List.getElem?_map] at hi
     cases ei:ps[i]? with
     | none=>rw [ei] at hi;cases hi
     | some p=>
      rw [ei] at hi;cases hi
      obtain ⟨hi',ei'⟩:=List.getElem?_eq_some_iff.mp ei
      have hp:=s2 _ _ (h2 p (List.mem_of_getElem? ei))
      have et:(ps.take (i+1)).map (·.2)=(ps.take i).map (·.2)++[p.2]:=by rw [List.take_succ_eq_append_getElem hi',ei',List.map_append];rfl
      obtain ⟨pa,pe⟩:=p
      cases pe with
      | row j a k b=>
       refine ⟨_,rfl,rd_tupAt hp rfl ⟨rfl,_,rfl,iteTe (by decide+kernel) ?_⟩⟩
       refine ⟨_,rfl,rd_tupAt hp rfl ⟨_,rfl,rd_tupAt hp rfl ⟨_,rfl,rd_tupAt hp rfl ⟨_,rfl,rd_tupAt hp rfl ⟨by show 4≤sizeLine;decide,fun t ht=>?_⟩⟩⟩⟩⟩
       have nD:D≠t:=ne_of_none tl.is ht
       refine q1 _ _ (by rw [upd_ne nD];exact tl.is) ⟨qs++[(t,[j,a,k,b])],by rw [List.map_append];rfl,by simp;omega,?_,?_,(s2.upd' ht).upd hD⟩
       · refine ⟨by rw [upd_same,List.map_append];rfl,fun p hp'=>?_⟩
         rcases List.mem_append.mp hp' with e | e
         · have:=tl.tp p e
           have n1:p.1≠D:=fun z=>by rw [z,tl.is] at this;cases this
           rw [upd_ne n1,upd_ne (ne_of_none this ht)]
           exact this
         · obtain rfl:=List.mem_singleton.mp e
           show upd _ D _ t=_
           rw [upd_ne nD.symm,upd_same];rfl
       · rw [et,rowsOf_app,List.map_append,er];rfl
      | ap j a b=>
       refine ⟨_,rfl,rd_tupAt hp rfl ⟨rfl,_,rfl,iteFe (by decide+kernel) ?_⟩⟩
       refine q0 _ ⟨qs,rfl,by omega,tl,?_,s2⟩
       rw [et,rowsOf_app,er]
       exact (List.append_nil _).symm
   · rintro ys H2 ⟨qs,rfl,ql,tl,er,s2⟩
     rw [List.length_map,List.take_of_length_le (Nat.le_refl _),h3] at er
     exact q D qs H2 hD tl er s2
theorem scJn:FnScope ["_law_labels","_law_one","_law_two","_law_low","_law_high"] ["_law_labels","_law_one","_law_two"] (defScope sJn):=scm
theorem ok_jn {f:Addr}{fd:FuncData} (F:Fun K "_law_joined" "_law_joined" sJn f fd) (TM:TxtM mg):FnOk P w K mg base CX0 1 f fd ["_law_labels","_law_one","_law_two"] (spJn K):=by
 refine F.ok scJn (fun vs H Q E h=>?_) (fun cdv A outer s H vs Q E hr h=>?_)
 · obtain ⟨l,ls,a,b,rfl,_⟩:=h
   rfl
 · obtain ⟨l,ls,a,b,rfl,hl,ha,hb,hn,k⟩:=h
   refine ⟨_,pss_cons (ps_set (i:=3) scJn.nd rfl (Or.inr rfl) (pe_callB (call_min2 rfl) (by rfl) TM.min bt_min (pa_cons (pe_ix ix_l (pv 0) (pv 1) (fun _ _=>rfl)) (pa_cons (pe_ix ix_l (pv 0) (pv 2) (fun _ _=>rfl)) pa_nil))))
    <| pss_cons (ps_set (i:=4) scJn.nd rfl (Or.inr rfl) (pe_callB (call_max2 rfl) (by rfl) TM.max bt_max (pa_cons (pe_ix ix_l (pv 0) (pv 1) (fun _ _=>rfl)) (pa_cons (pe_ix ix_l (pv 0) (pv 2) (fun _ _=>rfl)) pa_nil))))
    <| pss_one (ps_ret (pe_compW ["_law_low","_law_high"] [3,4] (pi_list (pv 0)) (fun C s H fp=>pe_ifExp (pt_cmpR op_eq (pv 0) (pv 2) (nomark _)) (pv 1) (pv 0)) (hcl_two rfl rfl))),?_⟩
   refine ⟨_,rfl,_,rfl,rd_at a hl ha ⟨_,rfl,_,rfl,rd_at b hl hb ⟨_,_,rfl,?_⟩⟩⟩
   rw [min_if]
   refine ⟨_,rfl,_,rfl,rd_at a hl ha ⟨_,rfl,_,rfl,rd_at b hl hb ⟨_,_,rfl,?_⟩⟩⟩
   rw [max_if]
   refine ⟨_,rfl,l,rfl,⟨_,SqL.of hl⟩,comp_intsW (fun m=>if m=max (ls.getD a 0) (ls.getD b 0) then min (ls.getD a 0) (ls.getD b 0) else m) (SqL.of hl) (small4k (by omega)) (fun z _ H' Q' q'=>?_) (ls_rd k)⟩
   refine ⟨_,rfl,_,rfl,rfl,_,rfl,?_⟩
   refine ite2 (fun he=>?_) (fun he=>?_)
   · have he:z=max (ls.getD a 0) (ls.getD b 0):=by simpa using he
     rw [if_pos he] at q'
     exact ⟨_,rfl,q'⟩
   · have he:¬ z=max (ls.getD a 0) (ls.getD b 0):=by simpa using he
     rw [if_neg he] at q'
     exact ⟨_,rfl,q'⟩
theorem dec_int (a b:Int):decide (V.int a=V.int b)=decide (a=b):=by
 by_cases h:a=b
 · rw [decide_eq_true h,h];exact decide_eq_true rfl
 · rw [decide_eq_false h];exact decide_eq_false fun z=>h (V.int.inj z)
def fine (l p q:List Int):Prop:=p.getD 2 0=q.getD 2 0→decide (l.getD (My.mk p 1) 0=l.getD (My.mk q 1) 0)=decide (l.getD (My.mk p (-1)) 0=l.getD (My.mk q (-1)) 0)
theorem closed_of {ps:Ps}{l:List Int} (h:∀ p∈ps,∀ q∈ps,fine l p.2 q.2):closed (ps.map (·.2)) l:=by
 intro a ha b hb k s hs e
 obtain ⟨p,hp,rfl⟩:=List.mem_map.mp ha
 obtain ⟨q,hq,rfl⟩:=List.mem_map.mp hb
 have f:=h p hp q hq k
 have hs:s=1∨s= -1:=hs
 rcases hs with rfl | rfl
 · rw [decide_eq_true e] at f
   exact of_decide_eq_true f.symm
 · rw [decide_eq_true e] at f
   exact of_decide_eq_true f
theorem both_cl {rs:List (List Int)}{st:Ps}{n:Nat}{l p q:List Int} (h:LOk n rs st l) (hp:p∈rs) (hq:q∈rs) (rp:RowOk n p) (rq:RowOk n q) (k:p.getD 2 0=q.getD 2 0) (hne:decide (l.getD (My.mk p 1) 0=l.getD (My.mk q 1) 0)≠decide (l.getD (My.mk p (-1)) 0=l.getD (My.mk q (-1)) 0)) (c:Nat→Int) (cl:Cl rs st c):c (My.mk p 1)=c (My.mk q 1)∧c (My.mk p (-1))=c (My.mk q (-1)):=by
 by_cases e:l.getD (My.mk p 1) 0=l.getD (My.mk q 1) 0
 · have e1:=h.snd c cl _ _ (rp.mk 1).2 (rq.mk 1).2 e
   exact ⟨e1,cl.2 p hp q hq k 1 (.inl rfl) e1⟩
 · have e2:l.getD (My.mk p (-1)) 0=l.getD (My.mk q (-1)) 0:=by
     by_cases e2:l.getD (My.mk p (-1)) 0=l.getD (My.mk q (-1)) 0
     · exact e2
     · exact absurd (by rw [decide_eq_false e,decide_eq_false e2]) hne
   have e1:=h.snd c cl _ _ (rp.mk (-1)).2 (rq.mk (-1)).2 e2
   exact ⟨cl.2 p hp q hq k (-1) (.inr rfl) e1,e1⟩
structure PsOk (H0 H:Hp) (q:Addr) (n:Nat) (rs:List (List Int)) (st:Ps) (l:List Int):Prop where
 lo:LOk n rs st l
 il:Ints H q l
 sa:Same H0 H
theorem scLFold:FnScope ["_law_marks","_law_rows_here","_law_start","_law_labels","_law_a","_law_b","_law_moving","_law_one","_law_two","_law_near","_law_far"] ["_law_marks","_law_rows_here","_law_start"] (defScope sLFold):=scm
theorem ok_lfold {f:Addr}{fd:FuncData} (F:Fun K "_law_folded" "_law_folded" sLFold f fd) (T:Txt K mg) (J:Rdy P w K mg base "_law_joined" ["_law_labels","_law_one","_law_two"] 1 (spJn K)):FnOk P w K mg base CX0 2 f fd ["_law_marks","_law_rows_here","_law_start"] spLFold:=by
 refine F.ok scLFold (fun vs H Q E h=>?_) (fun cdv A outer s H vs Q E hr h=>?_)
 · obtain ⟨n,lr,ls,ps,st,rfl,_⟩:=h
   rfl
 · obtain ⟨n,lr,ls,ps,st,rfl,tr,ts,hps,hst,hn,hpl,hsl,k⟩:=h
   refine ⟨_,(pss_cons (ps_set (i:=3) scLFold.nd rfl (Or.inl rfl) (pe_callTy (call_listRng rfl) rfl T.list bt_list (pa_cons (pe_rng rfl T.range (pa_cons (pv 0) pa_nil)) pa_nil)))
    (pss_cons (ps_for PassesOwn.never rfl (pi_list (pv 2)) (pg_tup rfl (pgs_cons (pg_name (i:=4) scLFold.nd rfl (Or.inl rfl)) (pgs_cons (pg_name (i:=5) scLFold.nd rfl (Or.inl rfl)) pgs_nil))) (pss_one (ps_set (i:=3) scLFold.nd rfl (Or.inl rfl) (J.pe hr (pa_cons (pv 3) (pa_cons (pv 4) (pa_cons (pv 5) pa_nil)))))))
    (pss_cons (ps_set (i:=6) scLFold.nd rfl (Or.inl rfl) pe_bl)
    (pss_cons (ps_while PassesOwn.never (pt_val (pv 6)) (pss_cons (ps_set (i:=6) scLFold.nd rfl (Or.inl rfl) pe_bl)
    (pss_one (ps_for PassesOwn.never rfl (pi_list (pv 1)) (pg_name (i:=7) scLFold.nd rfl (Or.inl rfl)) (pss_one (ps_for PassesOwn.never rfl (pi_list (pv 1)) (pg_name (i:=8) scLFold.nd rfl (Or.inl rfl)) (pss_cons (ps_set (i:=9) scLFold.nd rfl (Or.inl rfl) (pe_cmpR op_eq (pe_ix ix_l (pv 3) (pe_ix ix_t (pv 7) pe_int (fun _ _=>rfl)) (fun _ _=>rfl)) (pe_ix ix_l (pv 3) (pe_ix ix_t (pv 8) pe_int (fun _ _=>rfl)) (fun _ _=>rfl)) (nomark _)))
    (pss_cons (ps_set (i:=10) scLFold.nd rfl (Or.inl rfl) (pe_cmpR op_eq (pe_ix ix_l (pv 3) (pe_ix ix_t (pv 7) pe_int (fun _ _=>rfl)) (fun _ _=>rfl)) (pe_ix ix_l (pv 3) (pe_ix ix_t (pv 8) pe_int (fun _ _=>rfl)) (fun _ _=>rfl)) (nomark _)))
    (pss_one (ps_if (PW.pt (pw_and (pt_cmpR op_eq (pe_ix ix_t (pv 7) pe_int (fun _ _=>rfl)) (pe_ix ix_t (pv 8) pe_int (fun _ _=>rfl)) (nomark _)) (pw_and1 (pt_cmpR op_ne (pv 9) (pv 10) (nomark _))))) (pss_cons (ps_set (i:=3) scLFold.nd rfl (Or.inl rfl) (J.pe hr (pa_cons (pv 3) (pa_cons (pe_ix ix_t (pv 7) pe_int (fun _ _=>rfl)) (pa_cons (pe_ix ix_t (pv 8) pe_int (fun _ _=>rfl)) pa_nil)))))
    (pss_cons (ps_set (i:=3) scLFold.nd rfl (Or.inl rfl) (J.pe hr (pa_cons (pv 3) (pa_cons (pe_ix ix_t (pv 7) pe_int (fun _ _=>rfl)) (pa_cons (pe_ix ix_t (pv 8) pe_int (fun _ _=>rfl)) pa_nil)))))
    (pss_one (ps_set (i:=6) scLFold.nd rfl (Or.inl rfl) pe_bl)))) pss_nil))))))))))
    (pss_one (ps_ret (pv 3))))))),?_⟩
   refine ⟨_,rfl,_,rfl,fun r hr0=>rd_range (K:=K) upd_same (by omega) fun q H1 hq iq s1=>?_⟩
   have s1:Same H H1:=((Same.refl H).upd hr0).trans s1
   refine ⟨_,rfl,ls,rfl,⟨_,SqL.of (ts.same s1).is⟩,for_list (K:=K) (a:=ls) (xs:=st.map fun p=>V.ref p.1) (fun i σ H2=>∃ (x y:Option V) (q:Addr),σ=[some (.int n),some (.ref lr),some (.ref ls),some (.ref q),x,y,none,none,none,none,none]∧Ints H2 q (labs n (st.take i))∧Same H H2)
    ⟨none,none,q,rfl,iq,s1⟩ (fun i σ H2 _ ⟨_,_,_,_,_,k2⟩=>SqL.of (ts.same k2).is) ?_ ?_⟩
   · rintro i y σ H2 hi ⟨x,z,q,rfl,i2,s2⟩
     obtain ⟨p,rfl,ep⟩:=get_ref hi
     obtain ⟨a,b,er,ha,hb⟩:=hst p (List.mem_of_getElem? ep)
     have ht:=(ts.same s2).tp p (List.mem_of_getElem? ep)
     rw [er] at ht
     have L2:=labs_take (i:=i) hst
     refine ⟨p.1,_,rfl,SqT.of ht,rfl,_,_,rfl,_,_,rfl,rfl,?_⟩
     refine ⟨_,rfl,_,rfl,_,rfl,q,_,a,b,rfl,i2,by rw [L2.len];exact ha,by rw [L2.len];exact hb,by rw [L2.len];omega,fun q' H3 hq' i3 s3=>?_⟩
     refine ⟨_,_,q',rfl,?_,s2.trans s3⟩
     rw [labs_succ ep,er]
     exact i3
   rintro σ H2 ⟨x,z,q,rfl,i2,s2⟩
   rw [List.length_map,List.take_length] at i2
   refine ⟨fun m σ H3=>∃ (q:Addr) (l:List Int) (mv:Bool) (u v t w:Option V),σ=[some (.int n),some (.ref lr),some (.ref ls),some (.ref q),x,z,some (.bl mv),u,v,t,w]∧PsOk H H3 q n (ps.map (·.2)) st l∧(mv=false→∀ p∈ps,∀ q∈ps,fine l p.2 q.2)∧m=2 * sumL l+mv.toNat,
    ⟨_,q,_,true,none,none,none,none,rfl,⟨labs_LOk hst,i2,s2⟩,(fun z=>nomatch z),rfl⟩,?_⟩
   rintro m σ H3 ⟨q,l,mv,u,v,t,w,rfl,ok,hf,rfl⟩
   refine ⟨_,rfl,mv,rfl,?_⟩
   cases mv with
   | false=>exact iteF ⟨_,rfl,k l q H3 ok.il ok.lo (closed_of (hf rfl)) ok.sa⟩
   | true=>
    clear hf
    refine iteT ⟨fun σ H4=>∃ (q:Addr) (l':List Int) (mv:Bool) (u v t w:Option V),σ=[some (.int n),some (.ref lr),some (.ref ls),some (.ref q),x,z,some (.bl mv),u,v,t,w]∧PsOk H H4 q n (ps.map (·.2)) st l'∧(mv=false→∀ p∈ps,∀ q∈ps,fine l' p.2 q.2)∧sumL l'+mv.toNat≤sumL l,?_,?_⟩
    · rintro σ H4 ⟨q,l',mv,u,v,t,w,rfl,ok',hf',hm⟩
      refine ⟨_,?_,q,l',mv,u,v,t,w,rfl,ok',hf',rfl⟩
      have:mv.toNat≤1:=by cases mv <;> decide
      show 2 * sumL l'+mv.toNat < 2 * sumL l+1
      omega
    · refine ⟨_,rfl,lr,rfl,⟨_,SqL.of (tr.same ok.sa).is⟩,for_list (K:=K) (a:=lr) (xs:=ps.map fun p=>V.ref p.1) (fun i σ H4=>∃ (q:Addr) (l':List Int) (mv:Bool) (u v t w:Option V),σ=[some (.int n),some (.ref lr),some (.ref ls),some (.ref q),x,z,some (.bl mv),u,v,t,w]∧PsOk H H4 q n (ps.map (·.2)) st l'∧(mv=false→∀ p∈ps.take i,∀ q∈ps,fine l' p.2 q.2)∧sumL l'+mv.toNat≤sumL l)
        ⟨q,l,false,u,v,t,w,rfl,ok,(fun _ _ z=>nomatch z),Nat.le_refl _⟩ (fun i σ H4 _ ⟨_,_,_,_,_,_,_,_,o,_⟩=>SqL.of (tr.same o.sa).is) ?_ (fun σ H4 h=>?_)⟩
      rotate_left
      · obtain ⟨q,l',mv,u,v,t,w,e,o,hf,hm⟩:=h
        rw [List.length_map,List.take_length] at hf
        exact ⟨q,l',mv,u,v,t,w,e,o,hf,hm⟩
      rintro i y σ H4 hi ⟨q4,l4,mv4,u4,v4,t4,w4,rfl,ok4,hf4,hm4⟩
      obtain ⟨p1,rfl,ep1⟩:=get_ref hi
      have m1:=List.mem_of_getElem? ep1
      refine ⟨_,rfl,lr,rfl,⟨_,SqL.of (tr.same ok4.sa).is⟩,for_list (K:=K) (a:=lr) (xs:=ps.map fun p=>V.ref p.1) (fun j σ H4=>∃ (q:Addr) (l':List Int) (mv:Bool) (v t w:Option V),σ=[some (.int n),some (.ref lr),some (.ref ls),some (.ref q),x,z,some (.bl mv),some (.ref p1.1),v,t,w]∧PsOk H H4 q n (ps.map (·.2)) st l'∧(mv=false→(∀ p∈ps.take i,∀ q∈ps,fine l' p.2 q.2)∧∀ q∈ps.take j,fine l' p1.2 q.2)∧sumL l'+mv.toNat≤sumL l)
       ⟨q4,l4,mv4,v4,t4,w4,rfl,ok4,(fun z=>⟨hf4 z,fun _ z=>nomatch z⟩),hm4⟩ (fun i σ H4 _ ⟨_,_,_,_,_,_,_,o,_⟩=>SqL.of (tr.same o.sa).is) ?_ (fun σ H4 h=>?_)⟩
      rotate_left
      · obtain ⟨q,l',mv,v,t,w,e,o,hf,hm⟩:=h
        rw [List.length_map,List.take_length] at hf
        refine ⟨q,l',mv,_,v,t,w,e,o,fun z p hp=>?_,hm⟩
        obtain ⟨hi1,e1⟩:=List.getElem?_eq_some_iff.mp ep1
        rw [List.take_succ_eq_append_getElem hi1] at hp
        rcases List.mem_append.mp hp with h' | h'
        · exact (hf z).1 p h'
        · rw [e1] at h'
          obtain rfl:=List.mem_singleton.mp h'
          exact (hf z).2
      clear ok ok4 hm4 hf4
      rintro j y2 σ H5 hi2 ⟨q5,l5,mv5,v5,t5,w5,rfl,ok5,hf5,hm5⟩
      obtain ⟨p2,rfl,ep2⟩:=get_ref hi2
      have m2:=List.mem_of_getElem? ep2
      have t1:=(tr.same ok5.sa).tp p1 m1
      have t2:=(tr.same ok5.sa).tp p2 m2
      have r1:=hps p1 m1
      have r2:=hps p2 m2
      obtain ⟨n1,a1,k1,b1,er1,ha1,hb1⟩:=hps p1 m1
      obtain ⟨n2,a2,k2,b2,er2,ha2,hb2⟩:=hps p2 m2
      have x1:My.mk p1.2 1=a1∧My.mk p1.2 (-1)=b1∧p1.2.getD 2 0=k1:=by rw [er1];exact ⟨Int.toNat_natCast a1,Int.toNat_natCast b1,rfl⟩
      have x2:My.mk p2.2 1=a2∧My.mk p2.2 (-1)=b2∧p2.2.getD 2 0=k2:=by rw [er2];exact ⟨Int.toNat_natCast a2,Int.toNat_natCast b2,rfl⟩
      rw [er1] at t1
      rw [er2] at t2
      have L5:=ok5.lo.lab.len
      refine ⟨_,rfl,_,rfl,rd_col 1 t1 (show 1 < 4 by decide) (rd_at a1 ok5.il (by omega) ⟨_,rfl,_,rfl,rd_col 1 t2 (show 1 < 4 by decide) (rd_at a2 ok5.il (by omega) ⟨rfl,?_⟩)⟩)⟩
      rw [dec_int]
      refine ⟨_,rfl,_,rfl,rd_col 3 t1 (show 3 < 4 by decide) (rd_at b1 ok5.il (by omega) ⟨_,rfl,_,rfl,rd_col 3 t2 (show 3 < 4 by decide) (rd_at b2 ok5.il (by omega) ⟨rfl,?_⟩)⟩)⟩
      rw [dec_int]
      have stay:∀ (t w:Option V),fine l5 p1.2 p2.2→∃ (q:Addr) (l':List Int) (mv:Bool) (v t' w':Option V),([some (.int n),some (.ref lr),some (.ref ls),some (.ref q5),x,z,some (.bl mv5),some (.ref p1.1),some (.ref p2.1),t,w]:St)=[some (.int n),some (.ref lr),some (.ref ls),some (.ref q),x,z,some (.bl mv),some (.ref p1.1),v,t',w']∧PsOk H H5 q n (ps.map (·.2)) st l'∧(mv=false→(∀ p∈ps.take i,∀ q∈ps,fine l' p.2 q.2)∧∀ q∈ps.take (j+1),fine l' p1.2 q.2)∧sumL l'+mv.toNat≤sumL l:=fun t w hfi=>by
       refine ⟨q5,l5,mv5,_,t,w,rfl,ok5,fun z=>⟨(hf5 z).1,fun p hp=>?_⟩,hm5⟩
       obtain ⟨hi1,e1⟩:=List.getElem?_eq_some_iff.mp ep2
       rw [List.take_succ_eq_append_getElem hi1] at hp
       rcases List.mem_append.mp hp with h' | h'
       · exact (hf5 z).2 p h'
       · rw [e1] at h'
         obtain rfl:=List.mem_singleton.mp h'
         exact hfi
      refine ⟨_,rfl,rd_col 2 t1 (show 2 < 4 by decide) ⟨_,rfl,rd_col 2 t2 (show 2 < 4 by decide) ⟨rfl,_,rfl,?_⟩⟩⟩
      refine ite2 (fun hk=>?_) (fun hk=>stay _ _ fun z=>absurd z (by rw [x1.2.2,x2.2.2];simpa using hk))
      have hk:k1=k2:=by simpa using hk
      refine ⟨_,rfl,_,rfl,rfl,_,rfl,?_⟩
      refine ite2 (fun hne=>?_) (fun hne=>stay _ _ fun _=>?_)
      rotate_left
      · rw [x1.1,x1.2.1,x2.1,x2.2.1]
        simpa using hne
      have hne:decide (l5.getD a1 0=l5.getD a2 0)≠decide (l5.getD b1 0=l5.getD b2 0):=fun e=>by
       rw [e] at hne
       simp at hne
      have lt:=two_lt ok5.lo.lab ha1 ha2 hb1 hb2 hne
      have bo:=both_cl ok5.lo (List.mem_map.mpr ⟨p1,m1,rfl⟩) (List.mem_map.mpr ⟨p2,m2,rfl⟩) r1 r2 (by rw [x1.2.2,x2.2.2];exact hk) (by rw [x1.1,x1.2.1,x2.1,x2.2.1];exact hne)
      rw [x1.1,x1.2.1,x2.1,x2.2.1] at bo
      have lo6:=ok5.lo.jn hst ha1 ha2 fun c cl=>(bo c cl).1
      have lo7:=lo6.jn hst hb1 hb2 fun c cl=>(bo c cl).2
      refine ⟨_,rfl,_,rfl,rd_col 1 t1 (show 1 < 4 by decide) ⟨_,rfl,rd_col 1 t2 (show 1 < 4 by decide) ⟨q5,l5,a1,a2,rfl,ok5.il,by omega,by omega,by omega,fun q7 H7 f7 i7 s7=>?_⟩⟩⟩
      refine ⟨_,rfl,_,rfl,rd_col 3 (s7 _ _ t1) (show 3 < 4 by decide) ⟨_,rfl,rd_col 3 (s7 _ _ t2) (show 3 < 4 by decide) ⟨q7,_,b1,b2,rfl,i7,by rw [jn_length];omega,by rw [jn_length];omega,by rw [jn_length];omega,fun q8 H8 f8 i8 s8=>?_⟩⟩⟩
      refine ⟨q8,_,true,_,_,_,rfl,⟨lo7,i8,(ok5.sa.trans s7).trans s8⟩,(fun z=>nomatch z),?_⟩
      show _+1≤_
      omega
theorem sc__law_led:FnScope ["_law_table","_law_here","_law_one","_law_c"] ["_law_table","_law_here","_law_one"] (defScope s__law_led):=scm
theorem ok_led {f:Addr}{fd:FuncData} (F:Fun K "_law_led" "_law_led" s__law_led f fd) (T:Txt K mg):FnOk P w K mg base CX0 1 f fd ["_law_table","_law_here","_law_one"] spLed:=by
 refine F.ok sc__law_led (fun vs H Q E h=>?_) (fun cdv A outer s H vs Q E hr h=>?_)
 · obtain ⟨t,as,T',k,n,c,l,rfl,_⟩:=h
   rfl
 · obtain ⟨t,as,T',k,n,c,l,rfl,ht,ok,hn,hcn,⟨l0,l1,l2⟩,q⟩:=h
   refine ⟨_,(@sC _ _ _ _ _ (ps_if (pt_cmpR op_gt (pv 2) pe_int (nomark _)) (@sO _ _ _ (@sR _ _ _ _ (pe_ix ix_l (pe_ix ix_l (pv 0) (pv 1) (fun _ _=>rfl)) (pe_op op_sub (pv 2) pe_int) (fun _ _=>rfl)))) pss_nil)
    (@sC _ _ _ _ _ (ps_for PassesOwn.never rfl (pi_range1 rfl T.range (@aC _ _ _ _ _ (pe_callB call_len_seq (by rfl) T.len PySem.boot_len (@aC _ _ _ _ _ (pv 0) pa_nil (by rfl))) pa_nil (by rfl))) (pg_name (i:=3) sc__law_led.nd rfl (Or.inl rfl)) (@sO _ _ _ (ps_if (pt_cmpR op_eq (pe_ix ix_l (pe_ix ix_l (pv 0) (pv 3) (fun _ _=>rfl)) (pe_op op_sub (pe_un un_neg (pv 2)) pe_int) (fun _ _=>rfl)) (pv 1) (nomark _)) (@sO _ _ _ (@sR _ _ _ _ (pv 3))) pss_nil)))
    (@sO _ _ _ (@sR _ _ _ _ pe_non)))),?_⟩
   have rl:∀ {i:Nat}{a:Addr},as[i]?=some a→i < n∧Row H a (T'.getD i [])∧(T'.getD i []).length=k:=fun {i a} ea=>by
    have hi':i < T'.length:=by rw [← ht.len];exact (List.getElem?_eq_some_iff.mp ea).1
    obtain ⟨a',e1,_,e2,hr2⟩:=ht.at hi'
    rw [ea] at e1;cases e1
    exact ⟨by rw [← ok.len];exact hi',hr2,ok.row _ (List.mem_of_getElem? e2)⟩
   refine ⟨_,rfl,_,_,rfl,rfl,_,rfl,ite2 (fun hp=>?_) fun hp=>?_⟩
   · have hp:0 < l:=of_decide_eq_true hp
     obtain ⟨a,ea,_⟩:=ht.at (i:=c) (by rw [ok.len];exact hcn)
     obtain ⟨_,hra,hlen⟩:=rl ea
     refine ⟨_,rfl,_,rfl,rd_row c ht ea ⟨_,rfl,_,_,rfl,rfl,rd_cell (l - 1).toNat hra (by omega) ?_ (by omega)⟩⟩
     unfold sgo at q
     rw [if_pos hp] at q
     exact q
   · have hp:¬ 0 < l:=fun z=>hp (decide_eq_true z)
     unfold sgo at q
     rw [if_neg hp] at q
     have e1:((as.map V.ref).length:Int)=n:=by rw [List.length_map,ht.len,ok.len]
     refine ⟨_,rfl,t,_,rfl,.inl (SqL.of ht.is),_,rfl,by omega,by omega,for_range (lo:=0) (n:=((as.map V.ref).length:Int).toNat) (fun i σ H2=>(∃ x,σ=[some (.ref t),some (.int c),some (.int l),x])∧H2=H∧∀ d:Nat,d < i→cell T' d (-l - 1).toNat≠some (c:Int)) ⟨⟨none,rfl⟩,rfl,fun d hd=>by omega⟩ ?_ ?_⟩
     · rintro i σ H2 hi ⟨⟨x,rfl⟩,rfl,no⟩
       have hi:i < n:=by rw [e1] at hi;omega
       obtain ⟨a,ea,_⟩:=ht.at (i:=i) (by rw [ok.len];exact hi)
       obtain ⟨_,hra,hlen⟩:=rl ea
       refine ⟨_,rfl,_,rfl,rd_row i ht ea ⟨_,rfl,_,rfl,_,_,rfl,rfl,rd_cell (-l - 1).toNat hra (by omega) ⟨_,rfl,?_⟩ (by omega)⟩ (by omega)⟩
       have ce:(T'.getD i []).getD (-l - 1).toNat none=cell T' i (-l - 1).toNat:=rfl
       rw [ce]
       cases ec:cell T' i (-l - 1).toNat with
       | none=>exact ⟨rfl,_,rfl,iteF ⟨⟨_,rfl⟩,rfl,fun d hd=>by
         by_cases z:d=i
         · rw [z,ec];simp
         · exact no d (by omega)⟩⟩
       | some e=>
        refine ⟨rfl,_,rfl,ite2 (fun he=>?_) fun he=>?_⟩
        · have he:e=c:=by simpa [oV] using he
          subst he
          have:=(pre_iff ok).mpr ⟨i,rfl,hi,ec⟩
          rw [this] at q
          refine ⟨_,rfl,?_⟩
          show Q (V.int (0+(i:Int))) H2
          rw [Int.zero_add];exact q
        · have he:e≠c:=by simpa [oV] using he
          exact ⟨⟨_,rfl⟩,rfl,fun d hd=>by
           by_cases z:d=i
           · rw [z,ec];simpa using he
           · exact no d (by omega)⟩
     · rintro σ H2 ⟨⟨x,rfl⟩,rfl,no⟩
       rw [e1,Int.toNat_natCast] at no
       have:pre T' (-l - 1).toNat c=none:=by
        cases e:pre T' (-l - 1).toNat c with
        | none=>rfl
        | some d=>
         obtain ⟨m,_,hm,e2⟩:=(pre_iff ok).mp e
         exact absurd e2 (no m hm)
       rw [this] at q
       exact q
theorem sc__law_round:FnScope ["_law_table","_law_kinds","_law_here","_law_draws","_law_way_here","_law_d","_law_some","_law_n","_law_one"] ["_law_table","_law_kinds","_law_here","_law_draws"] (defScope s__law_round):=scm
theorem ok_round {f:Addr}{fd:FuncData} (F:Fun K "_law_round" "_law_round" s__law_round f fd) (T:Txt K mg) (LD:Rdy P w K mg base "_law_led" ["_law_table","_law_here","_law_one"] 1 spLed):FnOk P w K mg base CX0 2 f fd ["_law_table","_law_kinds","_law_here","_law_draws"] spRound:=by
 refine F.ok sc__law_round (fun vs H Q E h=>?_) (fun cdv A outer s H vs Q E hr h=>?_)
 · obtain ⟨t,as,T',k,n,c,da,ds,rfl,_⟩:=h
   rfl
 · obtain ⟨t,as,T',k,n,c,da,ds,rfl,ht,ok,k1,k5,hn,hcn,hd,hdl,q⟩:=h
   refine ⟨_,(@sC _ _ _ _ _ (@sS _ 4 _ _ _ _ _ sc__law_round.nd rfl (Or.inl rfl) (pe_lstW pa_nil) (by rfl) (.inl rfl))
    (@sC _ _ _ _ _ (ps_for PassesOwn.never rfl (pi_list (pv 3)) (pg_name (i:=5) sc__law_round.nd rfl (Or.inl rfl)) (@sC _ _ _ _ _ (@sS _ 6 _ _ _ _ _ sc__law_round.nd rfl (Or.inl rfl) (pe_lstW pa_nil) (by rfl) (.inl rfl))
    (@sC _ _ _ _ _ (ps_for PassesOwn.never rfl (pi_range1 rfl T.range (@aC _ _ _ _ _ (pe_op op_mul pe_int (pv 1)) pa_nil (by rfl))) (pg_name (i:=7) sc__law_round.nd rfl (Or.inl rfl)) (@sC _ _ _ _ _ (@sS _ 8 _ _ _ _ _ sc__law_round.nd rfl (Or.inl rfl) (pe_op op_mul (pe_op op_add (pe_op op_fdiv (pv 7) pe_int) pe_int) (pe_op op_sub pe_int (pe_op op_mul pe_int (pe_op op_mod (pv 7) pe_int)))) (by rfl) (.inl rfl))
    (@sO _ _ _ (ps_if (pt_cmpR op_notN (LD.pe hr (@aC _ _ _ _ _ (pv 0) (@aC _ _ _ _ _ (pv 2) (@aC _ _ _ _ _ (pv 8) pa_nil (by rfl)) (by rfl)) (by rfl))) pe_non (nomark _)) (@sO _ _ _ (ps_expr (pe_bm PySem.F.plainAttrs_list PySem.F.slot_list_append PySem.F.type_list_append mt_append (pv 6) (@aC _ _ _ _ _ (pv 8) pa_nil (by rfl))))) pss_nil))))
    (@sO _ _ _ (ps_if (pt_cmpR op_gt (pe_callB call_len_seq (by rfl) T.len PySem.boot_len (@aC _ _ _ _ _ (pv 6) pa_nil (by rfl))) pe_int (nomark _)) (@sC _ _ _ _ _ (@sS _ 8 _ _ _ _ _ sc__law_round.nd rfl (Or.inl rfl) (pe_ix ix_l (pv 6) (pe_op op_mod (pv 5) (pe_callB call_len_seq (by rfl) T.len PySem.boot_len (@aC _ _ _ _ _ (pv 6) pa_nil (by rfl)))) (fun _ _=>rfl)) (by rfl) (.inl rfl))
    (@sC _ _ _ _ _ (ps_expr (pe_bm PySem.F.plainAttrs_list PySem.F.slot_list_append PySem.F.type_list_append mt_append (pv 4) (@aC _ _ _ _ _ (pv 8) pa_nil (by rfl))))
    (@sO _ _ _ (@sS _ 2 _ _ _ _ _ sc__law_round.nd rfl (Or.inl rfl) (LD.pe hr (@aC _ _ _ _ _ (pv 0) (@aC _ _ _ _ _ (pv 2) (@aC _ _ _ _ _ (pv 8) pa_nil (by rfl)) (by rfl)) (by rfl))) (by rfl) (.inl rfl))))) pss_nil)))))
    (@sO _ _ _ (@sR _ _ _ _ (pe_tup (@aC _ _ _ _ _ (pv 4) (@aC _ _ _ _ _ (pv 2) pa_nil (by rfl)) (by rfl))))))),?_⟩
   refine rd_lstV (by simp) fun lw H1 hlw ilw s1=>?_
   refine ⟨_,rfl,da,rfl,⟨_,SqL.of (s1.ints hd)⟩,for_list (K:=K) (a:=da) (xs:=ds.map V.int) (fun i σ H2=>∃ (ws:List Int) (d:Nat) (x5 x6 x7 x8:Option V),σ=[some (.ref t),some (.int k),some (.int d),some (.ref da),some (.ref lw),x5,x6,x7,x8]∧Ints H2 lw ws∧Same H H2∧(∀ l∈ws,Let k l)∧wgo T' (some (c:Int)) ws=some (d:Int)∧d < n∧ws.length≤i)
    ⟨[],c,none,none,none,none,rfl,ilw,s1,(fun _ z=>nomatch z),rfl,hcn,Nat.zero_le _⟩ (fun i σ H2 _ ⟨_,_,_,_,_,_,_,_,e,_⟩=>SqL.of (e.ints hd)) ?_ ?_⟩
   · rintro i x σ H2 hi ⟨ws,d,x5,x6,x7,x8,rfl,il2,s2,hl,ew,hdn,wl⟩
     obtain ⟨dd,rfl,ed⟩:=get_int hi
     have hin:i < ds.length:=(List.getElem?_eq_some_iff.mp ed).1
     refine rd_lstV (by simp) fun ls H3 hls ils s3=>?_
     have ls0:H ls=none:=s2.free hls
     have nlw:lw≠ls:=fun z=>by rw [← z,il2] at hls;cases hls
     refine ⟨_,rfl,_,_,rfl,rfl,.inl ⟨by omega,by omega⟩,_,rfl,by omega,by omega,for_range (lo:=0) (n:=(2 * (k:Int)).toNat) (fun j σ H6=>∃ (os:List Int) (y7 y8:Option V),σ=[some (.ref t),some (.int k),some (.int d),some (.ref da),some (.ref lw),some (.int dd),some (.ref ls),y7,y8]∧Ints H6 ls os∧Ints H6 lw ws∧Same H H6∧(∀ l∈os,Let k l∧∃ e:Nat,sgo T' d l=some (e:Int)∧e < n)∧os.length≤j)
      ⟨[],_,_,rfl,ils,s3.ints il2,s2.trans s3,(fun _ z=>nomatch z),Nat.zero_le _⟩ ?_ ?_⟩
     · rintro j σ H6 hj ⟨os,y7,y8,rfl,io6,il6,s6,ho,ol⟩
       have hj:j < 2 * k:=by omega
       have lat:=lets_at hj
       generalize hl0:((j:Int) / 2+1) * (1 - 2 * ((j:Int) % 2))=l at lat
       have hl:Let k l:=lets_mem.mp (List.mem_of_getElem? lat)
       have m0:=Int.emod_nonneg (j:Int) (show (2:Int)≠0 by decide)
       have m1:=Int.emod_lt_of_pos (j:Int) (show (0:Int) < 2 by decide)
       have el0:((0+(j:Int)) / 2+1) * (1 - 2 * ((0+(j:Int)) % 2))=l:=by rw [Int.zero_add];exact hl0
       refine ⟨_,rfl,_,_,rfl,rfl,⟨by show (0:Int) < 2;decide,by show (2:Int) < 1073741824;decide⟩,_,_,rfl,rfl,_,rfl,_,_,rfl,rfl,(by show (0:Int) < 2;decide),_,_,rfl,rfl,.inl ⟨by decide,by decide⟩,_,_,rfl,rfl,_,_,rfl,rfl,.inl ⟨by omega,by omega⟩,?_⟩
       show gName 8 (V.int (((0+(j:Int)) / 2+1) * (1 - 2 * ((0+(j:Int)) % 2)))) _ _ _
       rw [el0]
       refine ⟨_,rfl,_,rfl,_,rfl,t,as,T',k,n,d,l,rfl,ht.same s6,ok,hn,hdn,hl,?_⟩
       refine ⟨rfl,_,rfl,?_⟩
       cases e:sgo T' d l with
       | none=>exact iteF ⟨os,_,_,rfl,io6,il6,s6,ho,by omega⟩
       | some z=>
        obtain ⟨z0,z1⟩:=sgo_lt ok e
        obtain ⟨m,rfl⟩:∃ c:Nat,z=(c:Int):=⟨z.toNat,by omega⟩
        refine iteT ⟨_,rfl,.inl ⟨rfl,_,SqL.of io6⟩,_,rfl,ls,_,_,rfl,rfl,io6,small4k (by simp;omega),?_⟩
        refine ⟨os++[l],_,_,rfl,?_,il6.other nlw,s6.upd ls0,fun x hx=>?_,by rw [List.length_append];simp;omega⟩
        · show upd _ ls _ ls=_
          rw [upd_same,List.map_append];rfl
        · rcases List.mem_append.mp hx with y | y
          · exact ho x y
          · rw [List.mem_singleton.mp y];exact ⟨hl,m,e,by omega⟩
     · rintro σ H6 ⟨os,y7,y8,rfl,io6,il6,s6,ho,ol⟩
       refine ⟨_,rfl,ls,_,rfl,.inl (SqL.of io6),_,_,rfl,rfl,_,rfl,?_⟩
       by_cases h0:os.length=0
       · refine iteFe (decide_eq_false (by rw [List.length_map,h0];decide)) ?_
         exact ⟨ws,d,_,_,_,_,rfl,il6,s6,hl,ew,hdn,by omega⟩
       · have p0:(0:Int) < ((os.map V.int).length:Int):=by rw [List.length_map];omega
         refine iteTe (decide_eq_true p0) ?_
         have a0:=Int.emod_nonneg dd (show ((os.map V.int).length:Int)≠0 by omega)
         have a1:=Int.emod_lt_of_pos dd p0
         have a2:(dd % ((os.map V.int).length:Int)).toNat < os.length:=by rw [List.length_map] at a0 a1 ⊢;omega
         refine ⟨_,rfl,_,rfl,_,rfl,ls,_,rfl,.inl (SqL.of io6),_,_,rfl,rfl,p0,rd_at (dd % ((os.map V.int).length:Int)).toNat io6 a2 ?_ (by omega)⟩
         have ml:os.getD (dd % ((os.map V.int).length:Int)).toNat 0∈os:=by rw [List.getD,List.getElem?_eq_getElem a2];exact List.getElem_mem a2
         generalize os.getD (dd % ((os.map V.int).length:Int)).toNat 0=l at ml
         obtain ⟨hll,m,e,hm⟩:=ho l ml
         refine ⟨_,rfl,.inl ⟨rfl,_,SqL.of il6⟩,_,rfl,lw,_,_,rfl,rfl,il6,small4k (by simp;omega),?_⟩
         refine ⟨_,rfl,_,rfl,_,rfl,t,as,T',k,n,d,l,rfl,ht.same (s6.upd hlw),ok,hn,hdn,hll,?_⟩
         rw [e]
         refine ⟨ws++[l],m,_,_,_,_,rfl,?_,s6.upd hlw,fun x hx=>?_,?_,hm,by rw [List.length_append];simp;omega⟩
         · show upd _ lw _ lw=_
           rw [upd_same,List.map_append];rfl
         · rcases List.mem_append.mp hx with y | y
           · exact hl x y
           · rw [List.mem_singleton.mp y];exact hll
         · rw [wgo_snoc,ew];exact e
   · rintro σ H2 ⟨ws,d,x5,x6,x7,x8,rfl,il2,s2,hl,ew,hdn,wl⟩
     rw [List.length_map] at wl
     refine ⟨_,rfl,_,rfl,(show 2≤sizeLine by decide),fun p hp=>?_⟩
     exact q p lw ws d _ (s2.free hp) hlw upd_same (by show upd _ _ _ _=_;rw [upd_ne (ne_of_none il2 hp)];exact il2) hl ew hdn wl (s2.trans ((Same.refl H2).upd hp))
theorem sc__law_chart:FnScope ["_law_kinds","_law_marks","_law_rows_here","_law_places","_law_table","_law_row"] ["_law_kinds","_law_marks","_law_rows_here"] (defScope s__law_chart):=scm
theorem ok_lchart {f:Addr}{fd:FuncData} (F:Fun K "_law_chart" "_law_chart" s__law_chart f fd) (T:Txt K mg) (TM:TxtM mg) (LF:Rdy P w K mg base "_law_folded" ["_law_marks","_law_rows_here","_law_start"] 2 spLFold) (RK:Rdy P w K mg base "_law_ranked" ["_law_labels"] 1 spChOf):FnOk P w K mg base CX0 3 f fd ["_law_kinds","_law_marks","_law_rows_here"] spLChart:=by
 refine F.ok sc__law_chart (fun vs H Q E h=>?_) (fun cdv A outer s H vs Q E hr h=>?_)
 · obtain ⟨k,m,lr,ps,rfl,_⟩:=h
   rfl
 · obtain ⟨k,m,lr,ps,rfl,tl,hps,k5,m1,m6,pl,q⟩:=h
   refine ⟨_,(@sC _ _ _ _ _ (@sS _ 3 _ _ _ _ _ sc__law_chart.nd rfl (Or.inl rfl) (RK.pe hr (@aC _ _ _ _ _ (LF.pe hr (@aC _ _ _ _ _ (pv 1) (@aC _ _ _ _ _ (pv 2) (@aC _ _ _ _ _ (pe_lstW pa_nil) pa_nil (by rfl)) (by rfl)) (by rfl))) pa_nil (by rfl))) (by rfl) (.inl rfl))
    (@sC _ _ _ _ _ (ps_compW 4 ["_law_kinds"] [0] sc__law_chart.nd (pi_range1 rfl T.range (pa_cons (pe_op op_add (pe_callB (call_max1 rfl) (by rfl) TM.max bt_max (pa_cons (pv 3) pa_nil)) pe_int) pa_nil)) (fun C s H fp=>pe_compW [] [] (pi_range1 rfl T.range (pa_cons (pv 1) pa_nil)) (fun C2 s2 H2 fp2=>pe_non) hcl_nil) (hcl1 rfl))
    (@sC _ _ _ _ _ (ps_for PassesOwn.never rfl (pi_list (pv 2)) (pg_name (i:=5) sc__law_chart.nd rfl (Or.inl rfl)) (@sO _ _ _ (ps_asg (pe_ix ix_l (pv 3) (pe_ix ix_t (pv 5) pe_int (fun _ _=>rfl)) (fun _ _=>rfl)) (pg_sub (pe_ix ix_l (pv 4) (pe_ix ix_l (pv 3) (pe_ix ix_t (pv 5) pe_int (fun _ _=>rfl)) (fun _ _=>rfl)) (fun _ _=>rfl)) (pe_op op_sub (pe_ix ix_t (pv 5) pe_int (fun _ _=>rfl)) pe_int) set_list))))
    (@sO _ _ _ (@sR _ _ _ _ (pe_tup (@aC _ _ _ _ _ (pv 3) (@aC _ _ _ _ _ (pv 4) pa_nil (by rfl)) (by rfl)))))))),?_⟩
   refine ⟨_,rfl,_,rfl,rd_lsV (by show 0≤1000;decide) fun le H1 hle ie s1=>⟨m,lr,le,ps,[],rfl,tl.same s1,⟨ie,(fun _ z=>nomatch z)⟩,fun p hp=>(hps p hp).1,(fun _ z=>nomatch z),by omega,pl,by show 0≤1000;decide,fun l p H2 il lok cl s2=>?_⟩⟩
   have ll:=lok.lab.len
   refine ⟨p,l,rfl,il,by omega,fun lp H3 hlp ip s3=>?_⟩
   have s13:=s1.trans (s2.trans s3)
   have fL:FL m (ps.map (·.2)) [] l:=⟨lok,cl⟩
   have ok:ChOk k (nC (rk l)) m (rk l) (ps.map (·.2)):=rk_chok ll (fun r hr=>by
    obtain ⟨p,hp,rfl⟩:=List.mem_map.mp hr
    exact hps p hp) cl
   have n7:=nC_rk l
   have rne:rk l≠[]:=fun z=>by
    have:=congrArg List.length z
    rw [rk_len,ll] at this
    simp at this;omega
   generalize ech:rk l=ch at ip ok n7 rne
   refine ⟨_,rfl,rd_max ip rne fun M hM hmx=>⟨_,_,rfl,rfl,?_⟩⟩
   obtain rfl:M=mx ch:=mx_is (ok.rng M hM).1 (.inr hM) hmx
   have nci:=nC_int ch
   refine ⟨_,rfl,by omega,by omega,comp_tab (n:=(mx ch+1).toNat) (fun _=>List.replicate k none) (by omega) (fun i hi H4 s4 Q' q'=>?_) fun t as H4 N4=>?_⟩
   · exact ⟨_,rfl,_,rfl,by omega,by omega,comp_nons (k:=(k:Int).toNat) (by omega) fun p H5 hp ip s5=>by
       rw [Int.toNat_natCast] at ip
       exact q' p H5 hp ip s5⟩
   have eN:(mx ch+1).toNat=nC ch:=by omega
   rw [eN] at N4
   have e0:((List.range (nC ch)).map fun _=>List.replicate k (none:Option Int))=List.replicate (nC ch) (List.replicate k none):=by
    rw [List.map_const'];simp
   rw [e0] at N4
   refine ⟨_,rfl,lr,rfl,⟨_,SqL.of ((tl.same s13).same N4.sm).is⟩,for_list (K:=K) (a:=lr) (xs:=ps.map fun p=>V.ref p.1) (fun i σ H4=>∃ (x5:Option V),σ=[some (.int k),some (.int m),some (.ref lr),some (.ref lp),some (.ref t),x5]∧NewT H3 H4 t as (chT k (nC ch) ch ((ps.map (·.2)).take i)))
    ⟨none,rfl,N4⟩ (fun i σ H4 _ ⟨_,_,N⟩=>SqL.of ((tl.same s13).same N.sm).is) ?_ ?_⟩
   · rintro i y σ H4 hi ⟨x5,rfl,N⟩
     obtain ⟨p,rfl,ep⟩:=get_ref hi
     have hp:=List.mem_of_getElem? ep
     have ht:=((tl.same s13).same N.sm).tp p hp
     have rs:(ps.map (·.2))[i]?=some p.2:=by rw [List.getElem?_map,ep];rfl
     have mr:=List.mem_of_getElem? rs
     obtain ⟨ro,g1,g2⟩:=ok.row p.2 mr
     obtain ⟨a0,a1⟩:=ok.at mr 1
     have ia:=(ro.mk 1).2
     have ib:=(ro.mk (-1)).2
     have ea:=(ro.mk 1).1
     have eb:=(ro.mk (-1)).1
     have rl4:=ro.len
     have hcH:=N.sm.ints ip
     have ol:=ok.len
     have hti:=chT_take ok i (by rw [List.length_map];have:=(List.getElem?_eq_some_iff.mp ep).1;omega)
     have hci:(ch.getD (My.mk p.2 1) 0).toNat < (chT k (nC ch) ch ((ps.map (·.2)).take i)).length:=by rw [hti.len];omega
     obtain ⟨ra,era,mra,eT,hra⟩:=N.tb.at hci
     have rl:((chT k (nC ch) ch ((ps.map (·.2)).take i)).getD (ch.getD (My.mk p.2 1) 0).toNat []).length=k:=hti.row _ (List.mem_of_getElem? eT)
     have hkd:(p.2.getD 2 0 - 1).toNat < k:=by omega
     refine ⟨_,rfl,_,rfl,rd_col 3 ht (by omega) (rd_at (My.mk p.2 (-1)) hcH (by omega) ⟨_,rfl,_,rfl,_,rfl,rd_col 1 ht (by omega) (rd_at (My.mk p.2 1) hcH (by omega) (rd_row (ch.getD (My.mk p.2 1) 0).toNat N.tb era ⟨_,rfl,rd_col 2 ht (by omega) ⟨_,_,rfl,rfl,ra,_,p.2.getD 2 0 - 1,(p.2.getD 2 0 - 1).toNat,rfl,rfl,hra,ixN_at (by rw [List.length_map,rl];exact hkd) (by omega),⟨_,rfl,?_⟩⟩⟩ (by omega)) ea)⟩ eb)⟩
     have e1:chT k (nC ch) ch ((ps.map (·.2)).take (i+1))=putR ch (chT k (nC ch) ch ((ps.map (·.2)).take i)) p.2:=by
      obtain ⟨hi',ei⟩:=List.getElem?_eq_some_iff.mp rs
      rw [List.take_succ_eq_append_getElem hi',ei]
      unfold chT
      rw [foldl_snoc]
     rw [e1]
     unfold putR
     have:=N.set era (((chT k (nC ch) ch ((ps.map (·.2)).take i)).getD (ch.getD (My.mk p.2 1) 0).toNat []).set (p.2.getD 2 0 - 1).toNat (some (ch.getD (My.mk p.2 (-1)) 0)))
     rw [List.map_set] at this
     exact this
   · rintro σ H4 ⟨x5,rfl,N⟩
     rw [List.length_map, ← List.length_map (f:=(·.2)),List.take_length] at N
     refine ⟨_,rfl,_,rfl,by show 2≤sizeLine;decide,fun p hp=>?_⟩
     have q':=q p lp t as l (upd H4 p (.tup [.ref lp,.ref t]))
     have s5:Same H4 (upd H4 p (.tup [.ref lp,.ref t])):=(Same.refl H4).upd hp
     rw [ech] at q'
     exact q' upd_same (s5.ints (N.sm.ints ip)) (N.tb.same s5) fL ((s13.trans N.sm).trans s5)
theorem sc_check_shape:FnScope ["kinds","table","row"] ["kinds","table"] (defScope s_check_shape):=scm
theorem ok_shape {f C:Addr}{fd:FuncData} (F:Fun K "check_shape" "check_shape" s_check_shape f fd) (T:Txt K mg) (TC:TxtC K mg C):FnOk P w K mg base CX0 1 f fd ["kinds","table"] spShape:=by
 obtain ⟨_,hmk⟩:=TC.mkk
 obtain ⟨_,hmc⟩:=TC.mcc
 refine F.ok sc_check_shape (fun vs H Q E h=>?_) (fun cdv A outer s H vs Q E hr h=>?_)
 · obtain ⟨k,n,t,as,T',rfl,_⟩:=h
   rfl
 · obtain ⟨k,n,t,as,T',rfl,ht,ok,k1,k5,n1,n7,q⟩:=h
   refine ⟨_,(@sC _ _ _ _ _ (ps_if (PW.pt (pw_or (pt_cmpR op_lt (pv 0) pe_int (nomark _)) (pw_or1 (pt_cmpR op_gt (pv 0) (pe_glob (v:=.int 5) rfl hmk ⟨_,rfl⟩) (nomark _))))) (@sO _ _ _ ps_never) pss_nil)
    (@sC _ _ _ _ _ (ps_if (PW.pt (pw_or (pt_cmpR op_lt (pe_callB call_len_seq (by rfl) T.len PySem.boot_len (@aC _ _ _ _ _ (pv 1) pa_nil (by rfl))) pe_int (nomark _)) (pw_or1 (pt_cmpR op_gt (pe_callB call_len_seq (by rfl) T.len PySem.boot_len (@aC _ _ _ _ _ (pv 1) pa_nil (by rfl))) (pe_glob (v:=.int 700) rfl hmc ⟨_,rfl⟩) (nomark _))))) (@sO _ _ _ ps_never) pss_nil)
    (@sO _ _ _ (ps_for PassesOwn.never rfl (pi_list (pv 1)) (pg_name (i:=2) sc_check_shape.nd rfl (Or.inl rfl)) (@sO _ _ _ (ps_if (pt_cmpR op_ne (pe_callB call_len_seq (by rfl) T.len PySem.boot_len (@aC _ _ _ _ _ (pv 2) pa_nil (by rfl))) (pv 0) (nomark _)) (@sO _ _ _ ps_never) pss_nil)))))),?_⟩
   have hl:as.length=n:=by rw [ht.len,ok.len]
   have e1:((as.map V.ref).length:Int)=n:=by rw [List.length_map,hl]
   refine ⟨_,rfl,_,_,rfl,rfl,_,rfl,iteFe (decide_eq_false (by omega)) ⟨_,rfl,_,_,rfl,rfl,_,rfl,iteFe (decide_eq_false (by omega)) ?_⟩⟩
   refine ⟨_,rfl,t,_,rfl,.inl (SqL.of ht.is),_,_,rfl,rfl,_,rfl,iteFe (decide_eq_false (by omega)) ⟨_,rfl,t,_,rfl,.inl (SqL.of ht.is),_,_,rfl,rfl,_,rfl,iteFe (decide_eq_false (by omega)) ?_⟩⟩
   refine ⟨_,rfl,t,rfl,⟨_,SqL.of ht.is⟩,for_list (K:=K) (a:=t) (xs:=as.map V.ref) (fun i σ H2=>(∃ x,σ=[some (.int k),some (.ref t),x])∧H2=H) ⟨⟨none,rfl⟩,rfl⟩ (fun i σ H2 _ ⟨_,e⟩=>by rw [e];exact SqL.of ht.is) ?_ ?_⟩
   · rintro i x σ H2 hi ⟨⟨y,rfl⟩,rfl⟩
     obtain ⟨a,rfl,ea⟩:=get_adr hi
     have hi':i < T'.length:=by rw [← ht.len];exact (List.getElem?_eq_some_iff.mp ea).1
     obtain ⟨a',e1,_,e2,hr2⟩:=ht.at hi'
     rw [ea] at e1;cases e1
     have rl:((T'.getD i []).map oV).length=k:=by rw [List.length_map];exact ok.row _ (List.mem_of_getElem? e2)
     refine ⟨_,rfl,a,_,rfl,.inl (SqL.of hr2),_,rfl,rfl,_,rfl,iteFe ?_ ⟨⟨_,rfl⟩,rfl⟩⟩
     rw [rl];simp
   · rintro σ H2 ⟨⟨y,rfl⟩,rfl⟩
     exact q
theorem sc_beginnings:FnScope ["ends","found","chamber","there"] ["ends"] (defScope s_beginnings):=scm
theorem ok_beg {f:Addr}{fd:FuncData} (F:Fun K "beginnings" "beginnings" s_beginnings f fd) (T:Txt K mg):FnOk P w K mg base CX0 1 f fd ["ends"] spBeg:=by
 refine F.ok sc_beginnings (fun vs H Q E h=>?_) (fun cdv A outer s H vs Q E hr h=>?_)
 · obtain ⟨a,ends,rfl,_⟩:=h
   rfl
 · obtain ⟨a,ends,rfl,ha,ok,hl,q⟩:=h
   refine ⟨_,(@sC _ _ _ _ _ (@sS _ 1 _ _ _ _ _ sc_beginnings.nd rfl (Or.inl rfl) (pe_op op_rep.wr (pe_lstW (pa_cons pe_non pa_nil)) (pe_callB call_len_seq (by rfl) T.len PySem.boot_len (pa_cons (pv 0) pa_nil))) (by rfl) (.inl rfl))
    (@sC _ _ _ _ _ (ps_for PassesOwn.never rfl (pi_enum rfl T.enum bt_enum (@aC _ _ _ _ _ (pv 0) pa_nil (by rfl))) (pg_tup rfl (pgs_cons (pg_name (i:=2) sc_beginnings.nd rfl (Or.inl rfl)) (pgs_cons (pg_name (i:=3) sc_beginnings.nd rfl (Or.inl rfl)) pgs_nil))) (@sC _ _ _ _ _ (ps_if (pt_cmpR op_isN (pv 3) pe_non (nomark _)) (@sO _ _ _ ps_continue) pss_nil)
    (@sC _ _ _ _ _ (ps_if (PW.pt (pw_or (pt_cmpR op_lt (pv 3) pe_int (nomark _)) (pw_or1 (pt_cmpR op_ge (pv 3) (pe_callB call_len_seq (by rfl) T.len PySem.boot_len (@aC _ _ _ _ _ (pv 0) pa_nil (by rfl))) (nomark _))))) (@sO _ _ _ ps_never) pss_nil)
    (@sC _ _ _ _ _ (ps_if (pt_cmpR op_notN (pe_ix ix_l (pv 1) (pv 3) (fun _ _=>rfl)) pe_non (nomark _)) (@sO _ _ _ ps_never) pss_nil)
    (@sO _ _ _ (ps_asg (pv 2) (pg_sub (pv 1) (pv 3) set_list)))))))
    (@sO _ _ _ (@sR _ _ _ _ (pv 1))))),?_⟩
   refine rd_lstV (by simp) fun p H1 hp ip s1=>?_
   have le:((ends.map oV).length:Int)=ends.length:=by rw [List.length_map]
   refine ⟨_,rfl,a,_,rfl,.inl (SqL.of (ha.same s1)),rd_rep (z:=none) ip (by omega) (fun l H2 hl2 il s2=>?_) le⟩
   have s12:=s1.trans s2
   have hla:H l=none:=s1.free hl2
   refine ⟨_,rfl,a,rfl,⟨_,SqL.of (ha.same s12)⟩,for_enum (K:=K) (a:=a) (xs:=ends.map oV) (fun i σ H3=>∃ (fs:List (Option Int)) (x y:Option V),σ=[some (.ref a),some (.ref l),x,y]∧Row H3 l fs∧BegPart i ends fs∧Same H H3)
    ⟨_,none,none,rfl,il,BegPart.zero ends,s12⟩ (fun i σ H3 _ ⟨_,_,_,_,_,_,s3⟩=>SqL.of (ha.same s3)) ?_ ?_⟩
   · rintro i v σ H3 tt hi ht3 ⟨fs,x,y,rfl,il3,bp,s3⟩
     obtain ⟨z,rfl,ez⟩:=get_opt hi
     have hlt:l≠tt:=ne_of_none il3 ht3
     have s4:Same H (upd H3 tt (.tup [.int i,oV z])):=s3.upd' ht3
     have il4:Row (upd H3 tt (.tup [.int i,oV z])) l fs:=by show upd _ _ _ _=_;rw [upd_ne hlt];exact il3
     refine ⟨tt,_,rfl,SqT.of upd_same,rfl,_,_,rfl,_,_,rfl,rfl,?_⟩
     generalize upd H3 tt (.tup [.int i,oV z])=H4 at s4 il4
     have eg:=getD_some (d:=none) ez
     cases z with
     | none=>exact ⟨_,rfl,rfl,_,rfl,iteT ⟨fs,_,_,rfl,il4,bp.skip eg,s4⟩⟩
     | some e=>
      obtain ⟨e0,e1⟩:=ok.1 i e eg
      obtain ⟨m,rfl⟩:∃ m:Nat,e=(m:Int):=⟨e.toNat,by omega⟩
      have fr:=bp.free ok eg
      have hm:m < fs.length:=by rw [bp.len];omega
      refine ⟨_,rfl,rfl,_,rfl,iteF ?_⟩
      refine ⟨_,rfl,_,_,rfl,rfl,_,rfl,iteFe (decide_eq_false (by omega)) ⟨_,rfl,_,rfl,a,_,rfl,.inl (SqL.of (ha.same s4)),_,_,rfl,rfl,_,rfl,iteFe (decide_eq_false (by rw [le];omega)) ?_⟩⟩
      refine ⟨_,rfl,_,rfl,rd_cell m il4 hm ⟨rfl,_,rfl,?_⟩⟩
      rw [fr]
      refine iteF ⟨_,rfl,_,rfl,_,rfl,l,_,m,m,rfl,rfl,il4,?_,?_⟩
      · unfold ixN
        rw [if_pos (by omega),if_pos (by rw [List.length_map];omega)];rfl
      · refine ⟨fs.set m (some (i:Int)),_,_,rfl,?_,bp.put ok eg,s4.upd hla⟩
        show upd _ _ _ _=_
        rw [upd_same,List.map_set];rfl
   · rintro σ H3 ⟨fs,x,y,rfl,il3,bp,s3⟩
     rw [List.length_map] at bp
     exact ⟨_,rfl,q l fs H3 hla il3 bp s3⟩
theorem sc_Chart___init__:FnScope ["self","kinds","table"] ["self","kinds","table"] (defScope s_Chart___init__):=scm
theorem ok_init {f C:Addr}{fd:FuncData} (F:Fun K "__init__" "Chart.__init__" s_Chart___init__ f fd) (T:Txt K mg) (TC:TxtC K mg C) (SH:Rdy P w K mg base "check_shape" ["kinds","table"] 1 spShape) (BG:Rdy P w K mg base "beginnings" ["ends"] 1 spBeg):
  FnOk P w K mg base CX0 2 f fd ["self","kinds","table"] (spInit C):=by
 refine F.ok sc_Chart___init__ (fun vs H Q E h=>?_) (fun cdv A outer s H vs Q E hr h=>?_)
 · obtain ⟨g,dx,k,n,t,as,T',rfl,_⟩:=h
   rfl
 · obtain ⟨g,dx,k,n,t,as,T',rfl,hg,ht,ok,k1,k5,n1,n7,q⟩:=h
   refine ⟨_,(@sC _ _ _ _ _ (ps_expr (SH.pe hr (@aC _ _ _ _ _ (pv 1) (@aC _ _ _ _ _ (pv 2) pa_nil (by rfl)) (by rfl))))
    (@sC _ _ _ _ _ (ps_fld (pv 0) (pv 1) rfl)
    (@sC _ _ _ _ _ (ps_fld (pv 0) (pe_compC ["table"] [2] (pi_range1 rfl T.range (pa_cons (pv 1) pa_nil)) (fun C s H fp=>pe_compW ["place"] [0] (pil K rfl (pv 1)) (fun C2 s2 H2 fp2=>pe_ix (ixl K rfl) (pv 0) (pv 1) (fun _ _=>rfl)) (hcl1 rfl)) (hcl1 rfl)) rfl)
    (@sO _ _ _ (ps_fld (pv 0) (pe_compW [] [] (pi_list (pe_fld (pv 0) rfl)) (fun C s H fp=>BG.pe hr (pa_cons (pv 0) pa_nil)) hcl_nil) rfl))))),?_⟩
   have hT:T'.length≤1000:=by rw [ok.len];omega
   refine ⟨_,rfl,_,rfl,k,n,t,as,T',rfl,ht,ok,k1,k5,n1,n7,?_⟩
   refine ⟨_,rfl,_,rfl,g,C,dx,[],rfl,hg,TC.cl,TC.nk,(by show 0 < 1000;decide),?_⟩
   have ag:∀ a∈t::as,a≠g:=fun a ha z=>by
    subst z
    rcases List.mem_cons.mp ha with e | e
    · subst e;rw [ht.is] at hg;cases hg
    · obtain ⟨i,hi,e⟩:=List.getElem_of_mem e
      have hi2:i < T'.length:=by rw [← ht.len];exact hi
      have:=ht.rw i a T'[i] (by simp [← e,hi]) (by simp [hi2])
      rw [show H a=_ from this] at hg;cases hg
   have ht1:Tb (upd H g (.ins C dx (putF "kinds" (.int k) []))) t as T':=ht.on fun a ha o e=>by rw [upd_ne (ag a ha)];exact e
   have hg1:upd H g (.ins C dx (putF "kinds" (.int k) [])) g=some (.ins C dx (putF "kinds" (.int k) [])):=upd_same
   have k01:Kp g H (upd H g (.ins C dx (putF "kinds" (.int k) []))):=fun c o e nc=>by rw [upd_ne nc];exact e
   have fr1:∀ a,upd H g (.ins C dx (putF "kinds" (.int k) [])) a=none→H a=none:=fun a ha=>by
    by_cases z:a=g
    · rw [z,upd_same] at ha;cases ha
    · rwa [upd_ne z] at ha
   generalize upd H g (.ins C dx (putF "kinds" (.int k) []))=H1 at ht1 hg1 k01 fr1
   refine ⟨_,rfl,_,rfl,by omega,by omega,comp_tab (n:=(k:Int).toNat) (fun j=>col T' j) (by omega) (fun j hj H2 s2 Q' q'=>?_) fun lo os H2 N2=>?_⟩
   · refine ⟨_,rfl,t,rfl,⟨_,SqL.of (ht1.same s2).is⟩,comp_col (j:=j) (ht1.same s2) (by omega) (fun a r hr2 H3 Q3 s3 h3 q3=>?_) fun D hD=>q' D _ hD upd_same ((Same.refl _).upd hD)⟩
     exact ⟨_,rfl,_,rfl,rd_cell j h3 (by rw [ok.row r hr2];omega) q3 (by omega)⟩
   have e2:(List.range (k:Int).toNat).map (fun j=>col T' j)=cols k T':=by rw [Int.toNat_natCast];rfl
   rw [e2] at N2
   have ng:lo≠g:=fun z=>by have:=N2.ft;rw [z,hg1] at this;cases this
   have nos:∀ a∈lo::os,a≠g:=fun a ha z=>by
    rcases List.mem_cons.mp ha with e | e
    · exact ng (e▸z)
    · have:=N2.fa a e;rw [z,hg1] at this;cases this
   refine ⟨_,rfl,g,C,dx,_,rfl,N2.sm _ _ hg1,TC.cl,TC.no,(by show 1 < 1000;decide),?_⟩
   have hg3:upd H2 g (.ins C dx (putF "onward" (.ref lo) (putF "kinds" (.int k) []))) g=some (.ins C dx (putF "onward" (.ref lo) (putF "kinds" (.int k) []))):=upd_same
   have to3:Tb (upd H2 g (.ins C dx (putF "onward" (.ref lo) (putF "kinds" (.int k) [])))) lo os (cols k T'):=N2.tb.on fun a ha o e=>by rw [upd_ne (nos a ha)];exact e
   have k13:Kp g H1 (upd H2 g (.ins C dx (putF "onward" (.ref lo) (putF "kinds" (.int k) [])))):=fun c o e nc=>by rw [upd_ne nc];exact N2.sm _ _ e
   have fr3:∀ a,upd H2 g (.ins C dx (putF "onward" (.ref lo) (putF "kinds" (.int k) []))) a=none→H1 a=none:=fun a ha=>by
    by_cases z:a=g
    · rw [z,upd_same] at ha;cases ha
    · rw [upd_ne z] at ha;exact N2.sm.free ha
   generalize upd H2 g (.ins C dx (putF "onward" (.ref lo) (putF "kinds" (.int k) [])))=H3 at hg3 to3 k13 fr3
   refine ⟨_,rfl,g,C,dx,_,_,rfl,hg3,TC.cl,TC.no,(by rw [lookup_putF,if_pos rfl]),lo,rfl,⟨_,SqL.of to3.is⟩,comp_tabP (xs:=os.map V.ref) (fun i r=>BegOk (col T' i) r) (SqL.of to3.is) (by rw [List.length_map,to3.len,cols_len];omega) (fun i x hi H4 s4 Q' q'=>?_) fun li bs I H4 N4 lI hI=>?_⟩
   · obtain ⟨a,rfl,ea⟩:=get_adr hi
     have hik:i < k:=by
      have:=(List.getElem?_eq_some_iff.mp ea).1
      rw [to3.len,cols_len] at this;exact this
     have hrow:Row H4 a (col T' i):=(to3.rw i a _ ea (cols_at T' hik)).same s4
     exact ⟨_,rfl,a,_,rfl,hrow,ok.ends i,by rw [col_len];omega,fun l fs H5 hl hr5 hb s5=>q' l fs H5 hl hr5 hb s5⟩
   · have ng4:li≠g:=fun z=>by have:=N4.ft;rw [z,hg3] at this;cases this
     have nos4:∀ a∈li::bs,a≠g:=fun a ha z=>by
      rcases List.mem_cons.mp ha with e | e
      · exact ng4 (e▸z)
      · have:=N4.fa a e;rw [z,hg3] at this;cases this
     refine ⟨_,rfl,g,C,dx,_,rfl,N4.sm _ _ hg3,TC.cl,TC.ni,(by show 2 < 1000;decide),?_⟩
     rw [List.length_map,to3.len,cols_len] at lI
     refine q _ (g::((lo::os)++(li::bs))) ⟨ok,k1,k5,n1,n7,dx,lo,li,os,bs,I,rfl,upd_same,?_,?_,lI,fun j hj=>?_⟩ ?_ ?_
     · exact (to3.same N4.sm).on fun a ha o e=>by rw [upd_ne (nos a ha)];exact e
     · exact N4.tb.on fun a ha o e=>by rw [upd_ne (nos4 a ha)];exact e
     · exact hI j _ (by simp [List.getD,lI,hj])
     · intro a ha nag
       rcases List.mem_cons.mp ha with e | e
       · exact absurd e nag
       · rcases List.mem_append.mp e with e | e
         · refine fr1 a ?_
           rcases List.mem_cons.mp e with e | e
           · rw [e];exact N2.ft
           · exact N2.fa a e
         · refine fr1 a (fr3 a ?_)
           rcases List.mem_cons.mp e with e | e
           · rw [e];exact N4.ft
           · exact N4.fa a e
     · intro c o e nc
       rw [upd_ne nc]
       exact N4.sm _ _ (k13 _ _ (k01 _ _ e nc) nc)
theorem sc_Chart_size:FnScope ["self"] ["self"] (defScope s_Chart_size):=scm
theorem ok_size {f C:Addr}{fd:FuncData} (F:Fun K "size" "Chart.size" s_Chart_size f fd) (T:Txt K mg) (TC:TxtC K mg C):FnOk P w K mg base CX0 1 f fd ["self"] (spSize C):=by
 refine F.ok sc_Chart_size (fun vs H Q E h=>?_) (fun cdv A outer s H vs Q E hr h=>?_)
 · obtain ⟨g,k,n,T',fp,rfl,_⟩:=h
   rfl
 · obtain ⟨g,k,n,T',fp,rfl,hc,q⟩:=h
   obtain ⟨dx,lo,li,as,bs,I,rfl,hg,h1,h2,h3,h4⟩:=hc.ob
   refine ⟨_,(@sO _ _ _ (@sR _ _ _ _ (pe_callB call_len_seq (by rfl) T.len PySem.boot_len (@aC _ _ _ _ _ (pe_ix ix_l (pe_fld (pv 0) rfl) pe_int (fun _ _=>rfl)) pa_nil (by rfl))))),?_⟩
   obtain ⟨a,ea,_,e0,hr0⟩:=h1.at (i:=0) (by rw [cols_len];exact hc.k1)
   rw [cols_getD T' hc.k1] at hr0
   refine ⟨_,rfl,g,C,dx,_,_,rfl,hg,TC.cl,TC.no,chf_on ..,rd_row 0 h1 ea ⟨a,_,rfl,.inl (SqL.of hr0),?_⟩⟩
   rw [List.length_map,col_len,hc.ok.len]
   exact q
theorem sc_Chart_table:FnScope ["self"] ["self"] (defScope s_Chart_table):=scm
theorem ok_tabl {f C:Addr}{fd:FuncData} (F:Fun K "table" "Chart.table" s_Chart_table f fd) (T:Txt K mg) (TC:TxtC K mg C) (SZ:Rdm P w K mg base C "size" ["self"] 1 (spSize C)):FnOk P w K mg base CX0 2 f fd ["self"] (spTabl C):=by
 refine F.ok sc_Chart_table (fun vs H Q E h=>?_) (fun cdv A outer s H vs Q E hr h=>?_)
 · obtain ⟨g,k,n,T',fp,rfl,_⟩:=h
   rfl
 · obtain ⟨g,k,n,T',fp,rfl,hc,q⟩:=h
   obtain ⟨dx,lo,li,as,bs,I,rfl,hg,h1,h2,h3,h4⟩:=id hc.ob
   refine ⟨_,(@sO _ _ _ (@sR _ _ _ _ (pe_compC ["self"] [0] (pi_range1 rfl T.range (pa_cons (SZ.pe0 hr (pv 0)) pa_nil)) (fun C s H fp=>pe_compW ["chamber"] [0] (pil K rfl (pfl K rfl (pv 1) rfl)) (fun C2 s2 H2 fp2=>pe_ix (ixl K rfl) (pv 0) (pv 1) (fun _ _=>rfl)) (hcl1 rfl)) (hcl1 rfl)))),?_⟩
   have:=hc.k5
   have:=hc.n7
   refine ⟨_,rfl,g,dx,_,rfl,hg,chf_no ..,g,k,n,T',_,rfl,hc,_,rfl,by omega,by omega,comp_tab (n:=(n:Int).toNat) (fun c=>col (cols k T') c) (by omega) (fun c hc2 H2 s2 Q' q'=>?_) fun D as2 H2 N2=>?_⟩
   · refine ⟨_,rfl,g,C,dx,_,_,rfl,s2 _ _ hg,TC.cl,TC.no,chf_on ..,lo,rfl,⟨_,SqL.of (h1.same s2).is⟩,comp_col (j:=c) (h1.same s2) (by rw [cols_len];omega) (fun a r hr2 H3 Q3 s3 h3 q3=>?_) fun D hD=>q' D _ hD upd_same ((Same.refl _).upd hD)⟩
     obtain ⟨j,_,rfl⟩:=List.mem_map.mp hr2
     exact ⟨_,rfl,_,rfl,rd_cell c h3 (by rw [col_len,hc.ok.len];omega) q3 (by omega)⟩
   · have e:(List.range (n:Int).toNat).map (fun c=>col (cols k T') c)=T':=by
       rw [Int.toNat_natCast]
       exact cols_back hc.ok
     rw [e] at N2
     exact q D as2 H2 N2.ft N2.fa N2.nd N2.tb N2.sm
theorem sc_Chart_check_chamber:FnScope ["self","chamber"] ["self","chamber"] (defScope s_Chart_check_chamber):=scm
theorem ok_ckc {f C:Addr}{fd:FuncData} (F:Fun K "check_chamber" "Chart.check_chamber" s_Chart_check_chamber f fd) (SZ:Rdm P w K mg base C "size" ["self"] 1 (spSize C)):FnOk P w K mg base CX0 2 f fd ["self","chamber"] (spCkC C):=by
 refine F.ok sc_Chart_check_chamber (fun vs H Q E h=>?_) (fun cdv A outer s H vs Q E hr h=>?_)
 · obtain ⟨g,k,n,T',fp,c,rfl,_⟩:=h
   rfl
 · obtain ⟨g,k,n,T',fp,c,rfl,hc,hcn,q⟩:=h
   obtain ⟨dx,lo,li,as,bs,I,rfl,hg,_⟩:=id hc.ob
   refine ⟨_,(@sO _ _ _ (ps_if (PW.pt (pw_or (pt_cmpR op_lt (pv 1) pe_int (nomark _)) (pw_or1 (pt_cmpR op_ge (pv 1) (SZ.pe0 hr (pv 0)) (nomark _))))) (@sO _ _ _ ps_never) pss_nil)),?_⟩
   exact ⟨_,rfl,_,_,rfl,rfl,_,rfl,iteFe (decide_eq_false (by omega)) ⟨_,rfl,_,rfl,g,dx,_,rfl,hg,chf_no ..,g,k,n,T',_,rfl,hc,_,_,rfl,rfl,_,rfl,iteFe (decide_eq_false (by omega)) q⟩⟩
theorem ok_ckl {f:Addr}{fd:FuncData} (F:Fun K "check_letters" "check_letters" s_check_letters f fd) (T:Txt K mg):FnOk P w K mg base CX0 1 f fd ["kinds","way"] spCkL:=by
 refine F.ok sc_check_letters (fun vs H Q E h=>?_) (fun cdv A outer s H vs Q E hr h=>?_)
 · obtain ⟨k,wa,ws,rfl,_⟩:=h
   rfl
 · obtain ⟨k,wa,ws,rfl,hw,hl,q⟩:=h
   refine ⟨_,(@sO _ _ _ (ps_for PassesOwn.never rfl (pi_list (pv 1)) (pg_name (i:=2) sc_check_letters.nd rfl (Or.inl rfl)) (@sO _ _ _ (ps_if (PW.pt (pw_or (pt_cmpR op_eq (pv 2) pe_int (nomark _)) (pw_or1 (pt_cmpR op_gt (pe_callB call_abs (by rfl) T.abs bt_abs (@aC _ _ _ _ _ (pv 2) pa_nil (by rfl))) (pv 0) (nomark _))))) (@sO _ _ _ ps_never) pss_nil)))),?_⟩
   refine ⟨_,rfl,wa,rfl,⟨_,SqL.of hw⟩,for_list (K:=K) (a:=wa) (xs:=ws.map V.int) (fun i σ H2=>(∃ x,σ=[some (.int k),some (.ref wa),x])∧H2=H) ⟨⟨none,rfl⟩,rfl⟩ (fun i σ H2 _ ⟨_,e⟩=>by rw [e];exact SqL.of hw) ?_ ?_⟩
   · rintro i x σ H2 hi ⟨⟨y,rfl⟩,rfl⟩
     obtain ⟨l,rfl,el⟩:=get_int hi
     obtain ⟨l0,l1,l2⟩:=hl l (List.mem_of_getElem? el)
     refine ⟨_,rfl,rfl,_,rfl,iteFe (decide_eq_false (fun z=>l0 (V.int.inj z))) ⟨_,rfl,_,rfl,_,rfl,_,_,rfl,rfl,_,rfl,iteFe (decide_eq_false ?_) ⟨⟨_,rfl⟩,rfl⟩⟩⟩
     split <;> omega
   · rintro σ H2 ⟨⟨y,rfl⟩,rfl⟩
     exact q
theorem sc_Chart_step:FnScope ["self","chamber","letter"] ["self","chamber","letter"] (defScope s_Chart_step):=scm
theorem ok_step {f C:Addr}{fd:FuncData} (F:Fun K "step" "Chart.step" s_Chart_step f fd) (TC:TxtC K mg C) (CC:Rdm P w K mg base C "check_chamber" ["self","chamber"] 2 (spCkC C)) (CL:Rdy P w K mg base "check_letters" ["kinds","way"] 1 spCkL):
  FnOk P w K mg base CX0 3 f fd ["self","chamber","letter"] (spStep C):=by
 refine F.ok sc_Chart_step (fun vs H Q E h=>?_) (fun cdv A outer s H vs Q E hr h=>?_)
 · obtain ⟨g,k,n,T',fp,c,l,rfl,_⟩:=h
   rfl
 · obtain ⟨g,k,n,T',fp,c,l,rfl,hc,hcn,hl,q⟩:=h
   obtain ⟨dx,lo,li,as,bs,I,rfl,hg,h1,h2,h3,h4⟩:=id hc.ob
   have ⟨l0,l1,l2⟩:=hl
   refine ⟨_,(@sC _ _ _ _ _ (ps_expr (CC.pe hr (pv 0) (@aC _ _ _ _ _ (pv 1) pa_nil (by rfl))))
    (@sC _ _ _ _ _ (ps_expr (CL.pe hr (@aC _ _ _ _ _ (pe_fld (pv 0) rfl) (@aC _ _ _ _ _ (@eL _ _ _ _ (@aC _ _ _ _ _ (pv 2) pa_nil (by rfl))) pa_nil (by rfl)) (by rfl))))
    (@sC _ _ _ _ _ (ps_if (pt_cmpR op_gt (pv 2) pe_int (nomark _)) (@sO _ _ _ (@sR _ _ _ _ (pe_ix ix_l (pe_ix ix_l (pe_fld (pv 0) rfl) (pe_op op_sub (pv 2) pe_int) (fun _ _=>rfl)) (pv 1) (fun _ _=>rfl)))) pss_nil)
    (@sO _ _ _ (@sR _ _ _ _ (pe_ix ix_l (pe_ix ix_l (pe_fld (pv 0) rfl) (pe_op op_sub (pe_un un_neg (pv 2)) pe_int) (fun _ _=>rfl)) (pv 1) (fun _ _=>rfl))))))),?_⟩
   refine ⟨_,rfl,g,dx,_,rfl,hg,chf_no ..,_,rfl,g,k,n,T',_,c,rfl,hc,hcn,?_⟩
   refine ⟨_,rfl,g,C,dx,_,_,rfl,hg,TC.cl,TC.nk,chf_k ..,_,rfl,rd_lst [l] fun la H1 hla ila s1=>⟨k,la,[l],rfl,ila,(fun x hx=>by rw [List.mem_singleton.mp hx];exact hl),?_⟩⟩
   have q:=q H1 s1
   have hc:=hc.same s1
   obtain ⟨dx,lo,li,as,bs,I,efp,hg,h1,h2,h3,h4⟩:=id hc.ob
   refine ⟨_,rfl,_,_,rfl,rfl,_,rfl,ite2 (fun hp=>?_) fun hp=>?_⟩
   · have hp:0 < l:=of_decide_eq_true hp
     have hj:(l - 1).toNat < k:=by omega
     obtain ⟨a,ea,_,e0,hra⟩:=h1.at (i:=(l - 1).toNat) (by rw [cols_len];exact hj)
     rw [cols_getD T' hj] at hra
     refine ⟨_,rfl,g,C,dx,_,_,rfl,hg,TC.cl,TC.no,chf_on ..,_,rfl,_,_,rfl,rfl,rd_row (l - 1).toNat h1 ea ⟨_,rfl,rd_cell c hra (by rw [col_len,hc.ok.len];exact hcn) ?_⟩ (by omega)⟩
     unfold sgo at q
     rw [if_pos hp] at q
     rw [col_getD];exact q
   · have hp:¬ 0 < l:=fun z=>hp (decide_eq_true z)
     have hj:(-l - 1).toNat < k:=by omega
     obtain ⟨a,ea,_,e0,hra⟩:=h2.at (i:=(-l - 1).toNat) (by rw [h3];exact hj)
     have bg:=h4 _ hj
     refine ⟨_,rfl,g,C,dx,_,_,rfl,hg,TC.cl,TC.ni,chf_in ..,_,rfl,_,rfl,_,_,rfl,rfl,rd_row (-l - 1).toNat h2 ea ⟨_,rfl,rd_cell c hra (by rw [bg.len,col_len,hc.ok.len];exact hcn) ?_⟩ (by omega)⟩
     unfold sgo at q
     rw [if_neg hp] at q
     rw [beg_pre hc.ok bg];exact q
theorem sc_letters_in_order:FnScope ["chart"] ["chart"] (defScope s_letters_in_order):=scm
theorem ok_lio {f C:Addr}{fd:FuncData} (F:Fun K "letters_in_order" "letters_in_order" s_letters_in_order f fd) (T:Txt K mg) (TC:TxtC K mg C):FnOk P w K mg base CX0 1 f fd ["chart"] (spLio C):=by
 refine F.ok sc_letters_in_order (fun vs H Q E h=>?_) (fun cdv A outer s H vs Q E hr h=>?_)
 · obtain ⟨g,k,n,T',fp,rfl,_⟩:=h
   rfl
 · obtain ⟨g,k,n,T',fp,rfl,hc,q⟩:=h
   obtain ⟨dx,lo,li,as,bs,I,rfl,hg,h1,h2,h3,h4⟩:=id hc.ob
   have k5:=hc.k5
   refine ⟨_,(@sO _ _ _ (@sR _ _ _ _ (pe_comp2 [] [] (pi_range2 rfl T.range (pa_cons pe_int (pa_cons (pe_op op_add (pe_fld (pv 0) rfl) pe_int) pa_nil))) (fun C s H fp=>pit K rfl (pe_tup (pa_cons (pv 0) (pa_cons (pe_un un_neg (pv 0)) pa_nil)))) (fun C s H fp=>pv 1) hcl_nil))),?_⟩
   refine ⟨_,rfl,g,C,dx,_,_,rfl,hg,TC.cl,TC.nk,chf_k ..,_,_,rfl,rfl,_,_,rfl,⟨by omega,by omega⟩,comp2_pair (fun i=>[1+(i:Int), -(1+(i:Int))]) (by omega) (fun _=>rfl) (fun i hi y0 H2 Q' q'=>⟨_,rfl,_,rfl,_,rfl,q'⟩) fun D H' hD hD2 s2=>q D H' hD ?_ s2⟩
   have e:((k:Int)+1 - 1).toNat=k:=by omega
   rw [e] at hD2
   exact hD2
theorem sc_ways_from:FnScope ["chart","base","ways","order","at","chamber","letter","there"] ["chart","base"] (defScope s_ways_from):=scm
theorem ok_ways {f C:Addr}{fd:FuncData} (F:Fun K "ways_from" "ways_from" s_ways_from f fd) (T:Txt K mg) (LI:Rdy P w K mg base "letters_in_order" ["chart"] 1 (spLio C)) (SE:Rdm P w K mg base C "step" ["self","chamber","letter"] 3 (spStep C)):
  FnOk P w K mg base CX0 4 f fd ["chart","base"] (spWays C):=by
 refine F.ok sc_ways_from (fun vs H Q E h=>?_) (fun cdv A outer s H vs Q E hr h=>?_)
 · obtain ⟨g,k,n,T',fp,b,rfl,_⟩:=h
   rfl
 · obtain ⟨g,k,n,T',fp,b,rfl,hc,hb,q⟩:=h
   obtain ⟨dx,lo,li,as,bs,I,rfl,hg,_⟩:=id hc.ob
   have hu1:=hu_of hr
   have k5:=hc.k5
   have n7:=hc.n7
   refine ⟨_,(@sC _ _ _ _ _ (@sS _ 2 _ _ _ _ _ sc_ways_from.nd rfl (Or.inl rfl) (pe_disp (pps_cons (pv 1) (pe_lstW pa_nil) pps_nil) rfl rfl (by simp) (by decide)) (by rfl) (.inl rfl))
    (@sC _ _ _ _ _ (@sS _ 3 _ _ _ _ _ sc_ways_from.nd rfl (Or.inl rfl) (@eL _ _ _ _ (@aC _ _ _ _ _ (pv 1) pa_nil (by rfl))) (by rfl) (.inl rfl))
    (@sC _ _ _ _ _ (@sS _ 4 _ _ _ _ _ sc_ways_from.nd rfl (Or.inl rfl) pe_int (by rfl) (.inl rfl))
    (@sC _ _ _ _ _ (ps_while PassesOwn.never (pt_cmpR op_lt (pv 4) (pe_callB call_len_seq (by rfl) T.len PySem.boot_len (@aC _ _ _ _ _ (pv 3) pa_nil (by rfl))) (nomark _)) (@sC _ _ _ _ _ (@sS _ 5 _ _ _ _ _ sc_ways_from.nd rfl (Or.inl rfl) (pe_ix ix_l (pv 3) (pv 4) (fun _ _=>rfl)) (by rfl) (.inl rfl))
    (@sC _ _ _ _ _ (ps_for PassesOwn.never rfl (pi_list (LI.pe hr (@aC _ _ _ _ _ (pv 0) pa_nil (by rfl)))) (pg_name (i:=6) sc_ways_from.nd rfl (Or.inl rfl)) (@sC _ _ _ _ _ (@sS _ 7 _ _ _ _ _ sc_ways_from.nd rfl (Or.inl rfl) (SE.pe hr (pv 0) (@aC _ _ _ _ _ (pv 5) (@aC _ _ _ _ _ (pv 6) pa_nil (by rfl)) (by rfl))) (by rfl) (.inl rfl))
    (@sO _ _ _ (ps_if (PW.pt (pw_and (pt_cmpR op_notN (pv 7) pe_non (nomark _)) (pw_and1 (pt_cmp (pc_dnotin hu1 (pv 7) (pv 2)) rfl)))) (@sC _ _ _ _ _ (ps_dput hu1 (pv 2) (pv 7) (pe_op op_catW (pe_dget hu1 (pv 2) (pv 5) (fun _ _=>rfl)) (@eL _ _ _ _ (@aC _ _ _ _ _ (pv 6) pa_nil (by rfl)))) rfl)
    (@sO _ _ _ (ps_expr (pe_bm PySem.F.plainAttrs_list PySem.F.slot_list_append PySem.F.type_list_append mt_append (pv 3) (@aC _ _ _ _ _ (pv 7) pa_nil (by rfl)))))) pss_nil))))
    (@sO _ _ _ (ps_aug (i:=4) sc_ways_from.nd rfl (Or.inl rfl) pe_int ip_add)))))
    (@sO _ _ _ (ps_retF (pv 2))))))),?_⟩
   refine fun d hd=>⟨_,rfl,rd_lstV (by simp) fun a0 H1 ha0 ia0 s1=>⟨s1 _ _ upd_same,[(.inl (b:Int),.ref a0)],rfl,by simp,?_⟩⟩
   have hda:a0≠d:=fun z=>by rw [z,upd_same] at ha0;cases ha0
   have s1':Same H (upd H1 d (.dK (mergeK [] [(.inl (b:Int),.ref a0)]))):=(((Same.refl H).upd hd).trans s1).upd hd
   have hd1:upd H1 d (.dK (mergeK [] [(.inl (b:Int),.ref a0)])) d=some (.dK (dkv [(b,a0,[])])):=by rw [upd_same];rfl
   have ia1:Ints (upd H1 d (.dK (mergeK [] [(.inl (b:Int),.ref a0)]))) a0 []:=by show upd _ _ _ _=_;rw [upd_ne hda];exact ia0
   generalize upd H1 d (.dK (mergeK [] [(.inl (b:Int),.ref a0)]))=H2 at s1' hd1 ia1
   refine ⟨_,rfl,rd_lst [(b:Int)] fun lo H3 hlo ilo s3=>?_⟩
   have ws3:WS H H3 d lo [(b,a0,[])]:=by
    refine ⟨⟨s3 _ _ hd1,fun p hp=>?_⟩,ilo,fun p hp=>?_,hd,s1'.free hlo,s1'.trans s3⟩
    · rw [List.mem_singleton.mp hp];exact s3.ints ia1
    · rw [List.mem_singleton.mp hp]
      intro z
      have z:a0=lo:=z
      rw [← z,ia1] at hlo;cases hlo
   refine while_by (fun σ H4=>∃ (W:Wy) (i:Nat) (x5 x6 x7:Option V),σ=[some (.ref g),some (.int b),some (.ref d),some (.ref lo),some (.int i),x5,x6,x7]∧WS H H4 d lo W∧WInv T' k n b W∧i≤W.length∧bfsW T' k (n+1 - i) i (era W)=metW T' k n b)
    (fun σ H4=>match σ with | [_,_,_,_,some (.int i),_,_,_]=>n+1 - i.toNat | _=>0) ⟨_,0,none,none,none,rfl,ws3,WInv.zero hb a0,Nat.zero_le _,rfl⟩ ?_ ?_
   · rintro σ H4 ⟨W,i,x5,x6,x7,rfl,ws,wi,hi,eb⟩
     have wl:W.length≤n:=by
      have:=OInv.len (n:=n) (O:=keys W) ⟨wi.nd,fun c hc=>by obtain ⟨p,hp,rfl⟩:=List.mem_map.mp hc;exact wi.lt p hp⟩
      unfold keys at this;rwa [List.length_map] at this
     have el:((((keys W).map fun (c:Nat)=>(c:Int)).map V.int).length:Int)=W.length:=by simp [keys]
     refine ⟨_,rfl,_,rfl,lo,_,rfl,.inl (SqL.of ws.io),_,_,rfl,rfl,_,rfl,?_⟩
     rw [el]
     refine ite2 (fun hlt=>?_) fun hge=>?_
     · have hlt:(i:Int) < W.length:=of_decide_eq_true hlt
       have hlt:i < W.length:=by omega
       have hlk:i < (era W).length:=by unfold era;rw [List.length_map];exact hlt
       have eW:W[i]?=some W[i]:=by simp [hlt]
       generalize hp:W[i]=p at eW
       have mp:p∈W:=List.mem_of_getElem? eW
       have ec:((keys W).map fun (c:Nat)=>(c:Int)).getD i 0=(p.1:Int):=by
        have:(keys W)[i]?=some p.1:=by unfold keys;rw [List.getElem?_map,eW];rfl
        rw [List.getD,List.getElem?_map,this];rfl
       have ek:(era W).getD i (0,[])=(p.1,p.2.2):=by
        have:(era W)[i]?=some (p.1,p.2.2):=by unfold era;rw [List.getElem?_map,eW];rfl
        rw [List.getD,this];rfl
       refine ⟨_,rfl,_,rfl,rd_at i ws.io (by simp [keys];exact hlt) ?_⟩
       rw [ec]
       refine ⟨_,rfl,g,k,n,T',_,rfl,hc.same ws.sm,fun ll H5 hll ill s5=>?_⟩
       have ws5:=ws.same s5
       refine ⟨ll,rfl,⟨_,SqL.of ill⟩,for_list (K:=K) (a:=ll) (xs:=(lets k).map V.int) (fun j σ H6=>∃ (W6:Wy) (y6 y7:Option V) (r:Wy),σ=[some (.ref g),some (.int b),some (.ref d),some (.ref lo),some (.int i),some (.int p.1),y6,y7]∧WS H H6 d lo W6∧WInv T' k n b W6∧W6=W++r∧Ints H6 ll (lets k)∧ll≠lo∧era W6=((lets k).take j).foldl (visW T' (p.1,p.2.2)) (era W))
        ⟨W,_,_,[],rfl,ws5,wi,by simp,ill,(fun z=>by rw [z,ws.io] at hll;cases hll),rfl⟩ (fun j σ H6 _ ⟨_,_,_,_,_,_,_,_,e,_⟩=>SqL.of e) ?_ ?_⟩
       · rintro j x σ H6 hj ⟨W6,y6,y7,r,rfl,ws6,wi6,eW6,il6,nll,ek6⟩
         obtain ⟨l,rfl,el6⟩:=get_int hj
         have hl:Let k l:=lets_mem.mp (List.mem_of_getElem? el6)
         have mp6:p∈W6:=by rw [eW6];exact List.mem_append_left _ mp
         have es:((lets k).take (j+1)).foldl (visW T' (p.1,p.2.2)) (era W)=visW T' (p.1,p.2.2) (era W6) l:=by rw [take_fold' el6,ek6]
         refine ⟨_,rfl,g,dx,_,rfl,ws6.sm _ _ hg,chf_no ..,_,rfl,_,rfl,g,k,n,T',_,p.1,l,rfl,hc.same ws6.sm,wi.lt p mp,hl,fun H6' s6'=>?_⟩
         replace ws6:=ws6.same s6'
         replace il6:=s6'.ints il6
         refine ⟨_,rfl,rfl,_,rfl,?_⟩
         cases e:sgo T' p.1 l with
         | none=>
          refine iteF ⟨W6,_,_,r,rfl,ws6,wi6,eW6,il6,nll,?_⟩
          rw [es];unfold visW;rw [e]
         | some dd=>
          obtain ⟨z0,z1⟩:=sgo_lt hc.ok e
          obtain ⟨c,rfl⟩:∃ c:Nat,dd=(c:Int):=⟨dd.toNat,by omega⟩
          refine iteT ⟨_,rfl,_,rfl,d,_,rfl,DGet.k (k:=.inl (c:Int)) ws6.dw.is,_,rfl,?_⟩
          have ev:visW T' (p.1,p.2.2) (era W6) l=if c∈keys W6 then era W6 else era W6++[(c,p.2.2++[l])]:=by unfold visW;rw [e,era_keys];rfl
          by_cases hin:c∈keys W6
          · obtain ⟨p2,hp2,e2⟩:=List.mem_map.mp hin
            have v2:=dkv_some wi6.nd hp2
            have e2:p2.1=c:=e2
            rw [e2] at v2
            rw [v2]
            refine iteF ⟨W6,_,_,r,rfl,ws6,wi6,eW6,il6,nll,?_⟩
            rw [es,ev,if_pos hin]
          · rw [dkv_none hin]
            have wl6:W6.length≤n:=by
             have:=OInv.len (n:=n) (O:=keys W6) ⟨wi6.nd,fun c hc=>by obtain ⟨p,hp,rfl⟩:=List.mem_map.mp hc;exact wi6.lt p hp⟩
             unfold keys at this;rwa [List.length_map] at this
            have plen:p.2.2.length≤n:=by
             obtain ⟨jj,hjj,ejj⟩:=List.getElem_of_mem mp6
             have:=wi6.ln jj p (by simp [← ejj,hjj])
             omega
            refine iteT ⟨_,rfl,_,rfl,d,_,rfl,(by have:=DGet.k (k:=.inl (p.1:Int)) ws6.dw.is;rw [dkv_some wi6.nd mp6] at this;exact this),_,rfl,rd_lst [l] fun q1 H7 hq1 iq1 s7=>?_⟩
            refine rd_cat (s7.ints (ws6.dw.wy p mp6)) iq1 (by simp;omega) fun a H8 ha ia s8=>?_
            have ws8:=ws6.same (s7.trans s8)
            refine ⟨_,rfl,_,rfl,d,_,rfl,DPut.k (k:=.inl (c:Int)) ws8.dw.is (small4k (by unfold dkv;rw [List.length_map];omega)),?_⟩
            have io8:Ints (upd H8 d (.dK (putK (dkv W6) (.inl (c:Int)) (.ref a)))) lo ((keys W6).map fun (c:Nat)=>(c:Int)):=ws8.io.other ws8.ne.symm
            refine ⟨_,rfl,.inl ⟨rfl,_,SqL.of io8⟩,_,rfl,lo,_,_,rfl,rfl,io8,small4k (by simp [keys];omega),?_⟩
            have ha6:H6' a=none:=s7.free ha
            have wn:=ws6.add (s7.trans s8) ha6 ia hin
            have hll8:Ints (upd H8 d (.dK (putK (dkv W6) (.inl (c:Int)) (.ref a)))) ll (lets k):=((s7.trans s8).ints il6).other fun z=>by
             have:=ws8.dw.is;rw [← z,show H8 ll=_ from (s7.trans s8).ints il6] at this;cases this
            refine ⟨W6++[(c,a,p.2.2++[l])],_,_,r++[(c,a,p.2.2++[l])],rfl,wn,wi6.add hc.ok mp6 hl e hin a,by rw [eW6,List.append_assoc],hll8.other nll,nll,?_⟩
            rw [es,ev,if_neg hin]
            unfold era;rw [List.map_append];rfl
       · rintro σ H6 ⟨W6,y6,y7,r,rfl,ws6,wi6,eW6,il6,nll,ek6⟩
         rw [List.length_map,List.take_length] at ek6
         refine ⟨_,rfl,_,_,rfl,rfl,⟨W6,i+1,_,_,_,rfl,ws6,wi6,by rw [eW6,List.length_append];omega,?_⟩,?_⟩
         · have e1:n+1 - i=(n+1 - (i+1))+1:=by omega
           rw [e1,bfsW_go hlk] at eb
           rw [ek6]
           unfold rowW at eb
           rw [ek] at eb
           exact eb
         · show n+1 - ((i:Int)+1).toNat < n+1 - (i:Int).toNat
           omega
     · have hge:¬ (i:Int) < W.length:=fun z=>hge (decide_eq_true z)
       have hk:(era W).length≤i:=by unfold era;rw [List.length_map];omega
       rw [bfsW_stop hk] at eb
       refine ⟨_,rfl,d,_,rfl,ws.dw.is,fun o=>q d W _ hd ⟨⟨o,upd_same⟩,fun p hp=>?_⟩ wi eb (ws.sm.upd hd)⟩
       have i1:=ws.dw.wy p hp
       exact i1.other fun y=>by rw [y] at i1;have e:=ws.dw.is;rw [show H4 d=_ from i1] at e;cases e
   · rintro σ H Q Q' hQ ⟨v,e,v',e',p,ys,e'',q,i,j,e3,e4,b,e5,q5⟩
     exact ⟨v,e,v',e',p,ys,e'',q,i,j,e3,e4,b,e5,hQ _ _ q5⟩
theorem rn_nd:(["number","chamber"]:List Str).Nodup:=by decide+kernel
theorem sc_renumbered:FnScope ["chart","order","table","numbers"] ["chart","order"] (defScope s_renumbered):=scm
theorem ok_ren {f C:Addr}{fd:FuncData} (F:Fun K "renumbered" "renumbered" s_renumbered f fd) (T:Txt K mg) (TC:TxtC K mg C) (TB:Rdm P w K mg base C "table" ["self"] 2 (spTabl C)) (CH:Rdk P w K mg base C "Chart" ["self","kinds","table"] 2 (spInit C)):
  FnOk P w K mg base CX0 4 f fd ["chart","order"] (spRen C):=by
 refine F.ok sc_renumbered (fun vs H Q E h=>?_) (fun cdv A outer s H vs Q E hr h=>?_)
 · obtain ⟨g,la,k,n,T',fp,ord,rfl,_⟩:=h
   rfl
 · obtain ⟨g,la,k,n,T',fp,ord,rfl,hc,io,nd,lt,ne,q⟩:=h
   have hu1:=hu_of hr
   obtain ⟨dx,lo,li,as,bs,I,efp,hg,_⟩:=id hc.ob
   refine ⟨_,(@sC _ _ _ _ _ (ps_set (i:=2) sc_renumbered.nd rfl (Or.inr rfl) (TB.pe0 hr (pv 0)))
    (@sC _ _ _ _ _ (ps_set (i:=3) sc_renumbered.nd rfl (Or.inr rfl) (pe_dcompG ["number","chamber"] hu1 (pi_enum rfl T.enum bt_enum (pa_cons (pv 1) pa_nil)) (fun C s H fp=>pgt K (n:=2) rfl rfl (pgs_cons (pg_name (i:=0) rn_nd rfl (Or.inl rfl) (.inr rfl)) (pgs_cons (pg_name (i:=1) rn_nd rfl (Or.inl rfl) (.inr rfl)) pgs_nil))) (fun C s H fp=>pv 1) (fun C s H fp=>pv 0) hcl_nil))
    (@sO _ _ _ (@sR _ _ _ _ (CH.pe hr (@aC _ _ _ _ _ (pe_fld (pv 0) rfl) (@aC _ _ _ _ _ (pe_compW ["table","numbers"] [2,3] (pi_list (pv 1)) (fun C s H fp=>pe_compW ["numbers"] [2] (pil K rfl (pe_ix (ixl K rfl) (pv 1) (pv 0) (fun _ _=>rfl))) (fun C2 s2 H2 fp2=>pe_dget1 hu1 (pv 1) (pv 0) m1) (hcl1 rfl)) (hcl_two rfl rfl) (k:=⟨rfl,rfl,rfl,rfl,rfl,rfl,by decide+kernel,rfl,rfl,rfl,fun _=>rfl⟩)) pa_nil (by rfl)) (by rfl))))))),?_⟩
   have ordl:ord.length≤n:=OInv.len ⟨nd,lt⟩
   have n7:=hc.n7
   have xl:((ord.map fun (c:Nat)=>(c:Int)).map V.int).length=ord.length:=by simp
   refine ⟨_,rfl,g,dx,_,rfl,hg,chf_no ..,g,k,n,T',fp,rfl,hc,fun t ts H1 ft fts ndt tb s1=>?_⟩
   have io1:=s1.ints io
   refine ⟨_,rfl,la,rfl,⟨_,SqL.of io1⟩,dcomp_enumK (K:=K) (xs:=(ord.map fun (c:Nat)=>(c:Int)).map V.int) (fun i kvs=>kvs=numKV (ord.take i)) rfl (fun H' s=>SqL.of (s _ _ io1)) (fun i x H2 D kvs t' hi ht s2 hD eD pv nb hnb F hF=>?_) fun D H2 kvs hD eD pv s2=>?_⟩
   · obtain ⟨z,rfl,ez⟩:=get_int hi
     rw [List.getElem?_map] at ez
     cases eo:ord[i]? with
     | none=>rw [eo] at ez;cases ez
     | some c=>
      rw [eo] at ez
      obtain rfl:(c:Int)=z:=Option.some.inj ez
      have hil:i < ord.length:=(List.getElem?_eq_some_iff.mp eo).1
      have ec:ord[i]=c:=(List.getElem?_eq_some_iff.mp eo).2
      obtain ⟨x0,x1,rfl⟩:=us2 hnb
      have nD:D≠t':=fun z=>by rw [← z,eD] at ht;cases ht
      refine ⟨t',_,rfl,SqT.of upd_same,rfl,_,_,rfl,_,_,rfl,rfl,?_⟩
      refine ⟨_,rfl,_,rfl,?_⟩
      subst pv
      have fresh:c∉ord.take i:=fun m=>by
       obtain ⟨j,hj,ej⟩:=List.getElem_of_mem m
       rw [List.length_take] at hj
       rw [List.getElem_take, ← ec] at ej
       have:=(List.getElem_inj nd).mp ej
       omega
      have lt':(ord.take i).length=i:=by rw [List.length_take];omega
      have pe:putK (numKV (ord.take i)) (.inl (c:Int)) (V.int (i:Int))=numKV (ord.take (i+1)):=by
       have:=numKV_fresh fresh
       rw [lt'] at this
       rw [this,List.take_succ_eq_append_getElem hil,ec]
      refine hF _ _ _ (numKV (ord.take (i+1))) _ (DPut.k (kvs:=numKV (ord.take i)) (k:=.inl (c:Int)) (by rw [upd_ne nD];exact eD) (small4k (by rw [numKV_len,lt'];omega))) (fun b o eb=>?_) (by rw [upd_same,pe]) rfl
      have b1:=s2 _ _ eb
      rw [upd_ne (fun z=>by rw [z,hD] at eb;cases eb),upd_ne (fun z=>by rw [z,ht] at b1;cases b1)]
      exact b1
   rw [xl,List.take_length] at pv
   subst pv
   have s12:Same H H2:=s1.trans s2
   have tb2:=tb.same s2
   have hg2:=s12 _ _ hg
   refine ⟨_,rfl,g,C,dx,_,_,rfl,hg2,TC.cl,TC.nk,chf_k ..,_,rfl,la,rfl,⟨_,SqL.of (s12.ints io)⟩,?_⟩
   refine comp_tabP (K:=K) (xs:=(ord.map fun (c:Nat)=>(c:Int)).map V.int) (fun i r=>r=(renT T' ord).getD i []) (SqL.of (s12.ints io)) (by rw [xl];omega) (fun i x hi H4 s4 Q' q'=>?_) fun lt2 bs R H4 N4 lR hR=>?_
   · obtain ⟨z,rfl,ez⟩:=get_int hi
     rw [List.getElem?_map] at ez
     cases eo:ord[i]? with
     | none=>rw [eo] at ez;cases ez
     | some c=>
      rw [eo] at ez
      obtain rfl:(c:Int)=z:=Option.some.inj ez
      have hil:i < ord.length:=(List.getElem?_eq_some_iff.mp eo).1
      have ec:ord[i]=c:=(List.getElem?_eq_some_iff.mp eo).2
      have hcn:c < n:=lt c (List.mem_of_getElem? eo)
      obtain ⟨ra,era,mra,eT,hra⟩:=(tb2.same s4).at (i:=c) (by rw [hc.ok.len];exact hcn)
      have eD4:=s4 _ _ eD
      have rl:(T'.getD c []).length=k:=hc.ok.row _ (List.mem_of_getElem? eT)
      have k5:=hc.k5
      let fv:V→V:=fun v=>match v with | .int e=>oV (rn ord (some e)) | _=>.non
      have fo:∀ o,fv (oV o)=oV (rn ord o):=fun o=>by cases o <;> rfl
      refine ⟨_,rfl,_,rfl,rd_row c (tb2.same s4) era ⟨ra,rfl,⟨_,SqL.of hra⟩,comp_valsW (K:=K) fv (SqL.of hra) (small4k (by rw [List.length_map];omega)) (fun z hz H5 Q5 s5 q5=>?_) fun l H5 hl h5 s5=>q' l ((T'.getD c []).map (rn ord)) H5 hl ?_ ?_ s5⟩⟩
      · obtain ⟨o,mo,rfl⟩:=List.mem_map.mp hz
        rw [fo] at q5
        have eD5:=s5 _ _ eD4
        refine ⟨_,rfl,D,rfl,.inl ⟨_,.inl eD5⟩,_,rfl,?_⟩
        cases o with
        | none=>exact ⟨_,DGet.k (k:=.inr none) eD5,by rw [numKV_non];exact q5⟩
        | some e=>
         obtain ⟨j,hj,ej⟩:=List.getElem_of_mem mo
         have r:=hc.ok.rng c j e (by unfold cell;rw [List.getD,List.getElem?_eq_getElem hj,ej];rfl)
         obtain ⟨m,rfl⟩:∃ m:Nat,e=(m:Int):=⟨e.toNat,by omega⟩
         refine ⟨_,DGet.k (k:=.inl (m:Int)) eD5,?_⟩
         rw [numKV_val]
         have:oV (rn ord (some (m:Int)))=((if m∈ord then some (V.int ((ord.idxOf m:Nat):Int)) else none).getD .non):=by
          show oV (if ((m:Int).toNat)∈ord then some ((ord.idxOf (m:Int).toNat:Nat):Int) else none)=_
          rw [Int.toNat_natCast]
          split <;> rfl
         rw [← this];exact q5
      · show H5 l=_
        rw [h5,List.map_map,List.map_map]
        exact congrArg (fun l=>some (HO.lst l)) (List.map_congr_left fun o _=>fo o)
      · simp [renT,List.getD,hil,ec]
   · have eR:R=renT T' ord:=by
       apply List.ext_getElem?
       intro i
       rw [xl] at lR
       by_cases hi:i < ord.length
       · have e1:R[i]?=some R[i]:=by simp [lR,hi]
         have:=hR i R[i] e1
         rw [e1,this]
         simp [renT,List.getD,hi]
       · rw [List.getElem?_eq_none (by omega),List.getElem?_eq_none (by simp [renT];omega)]
     subst eR
     have ok':=renT_ok hc.ok nd lt
     have n1:1≤ord.length:=by
      cases ord with
      | nil=>exact absurd rfl ne
      | cons _ _=>simp
     refine fun x dx nx ndx nex=>?_
     have sx:Same H4 (upd (upd H4 dx (.own x)) x (.ins C dx [])):=((Same.refl H4).upd ndx).upd nx
     refine ⟨x,dx,k,ord.length,lt2,bs,renT T' ord,rfl,upd_same,N4.tb.same sx,ok',hc.k1,hc.k5,n1,by omega,fun H5 fq hc5 ff kp=>⟨rfl,?_⟩⟩
     have s04:Same H H4:=s12.trans N4.sm
     have s5:Same H4 H5:=fun b o e=>kp b o (sx b o e) fun z=>by rw [z,nx] at e;cases e
     refine q x fq H5 (s04.free nx) (fun a ha=>?_) hc5 (s04.trans s5)
     by_cases z:a=x
     · rw [z];exact s04.free nx
     · exact s04.free (sx.free (ff a ha z))
theorem sc_numbered:FnScope ["chart","base"] ["chart","base"] (defScope s_numbered):=scm
theorem ok_nbrX {f C cN:Addr}{fd:FuncData} (F:Fun K "numbered" "numbered" s_numbered f fd) (T:Txt K mg) (CC:Rdmx P w K mg base C "check_chamber" ["self","chamber"] 2 (spCkCX C cN)) (WF:Rdy P w K mg base "ways_from" ["chart","base"] 4 (spWays C)) (RE:Rdy P w K mg base "renumbered" ["chart","order"] 4 (spRen C)):
  FnOk P w K mg base (CXe P w) 5 f fd ["chart","base"] (spNbrX C cN):=by
 refine F.okX sc_numbered (fun vs H Q E h=>?_) (fun cdv A outer s H vs Q E hr h=>?_)
 · obtain ⟨g,k,n,T',fp,b,rfl,_⟩:=h
   rfl
 · obtain ⟨g,k,n,T',fp,b,rfl,hc,q,qe⟩:=h
   obtain ⟨dx,lo,li,as,bs,I,efp,hg,_⟩:=id hc.ob
   refine ⟨_,(@sC _ _ _ _ _ (ps_expr (CC.pe hr (pv 0) (@aC _ _ _ _ _ (pv 1) pa_nil (by rfl))))
    (@sO _ _ _ (@sR _ _ _ _ (RE.pe hr (@aC _ _ _ _ _ (pv 0) (@aC _ _ _ _ _ (pe_callTy (call_listF rfl) rfl T.list bt_list (pa_cons (WF.pe hr (pa_cons (pv 0) (pa_cons (pv 1) pa_nil))) pa_nil)) pa_nil (by rfl)) (by rfl)))))),?_⟩
   refine ⟨_,rfl,g,dx,_,rfl,hg,chf_no ..,_,rfl,g,k,n,T',_,b,rfl,hc,fun hb=>?_,qe⟩
   have q:=q hb
   obtain ⟨b,rfl⟩:∃ m:Nat,b=(m:Int):=⟨b.toNat,by omega⟩
   rw [Int.toNat_natCast] at q
   have hbn:b < n:=by omega
   refine ⟨_,rfl,_,rfl,_,rfl,g,k,n,T',fp,b,rfl,hc,hbn,fun d W H1 hd fw wi eW s1=>?_⟩
   obtain ⟨o,eo⟩:=fw.is
   have ek:keys W=met T' k n b:=by rw [← era_keys,eW,metW_map]
   refine ⟨⟨d,o,dkv W,rfl,eo,fun l hl=>?_⟩⟩
   have s2:Same H1 (upd H1 l (.lst ((dkv W).map fun p=>kV p.1))):=(Same.refl H1).upd hl
   have el:((dkv W).map fun p=>kV p.1)=((met T' k n b).map fun (c:Nat)=>(c:Int)).map V.int:=by
    rw [← ek]
    simp [dkv,keys,kV,List.map_map,Function.comp_def]
   have i2:Ints (upd H1 l (.lst ((dkv W).map fun p=>kV p.1))) l ((met T' k n b).map fun (c:Nat)=>(c:Int)):=by
    show upd _ _ _ _=_
    rw [upd_same,el]
   have mi:=met_inv hc.ok (k:=k) hbn
   refine ⟨g,l,k,n,T',fp,met T' k n b,rfl,(hc.same s1).same s2,i2,mi.1.nd,mi.1.lt,List.ne_nil_of_mem mi.2.1,fun x fq H3 fx ffq hc3 s3=>?_⟩
   have s02:=s1.trans s2
   exact q x fq H3 (s02.free fx) (fun a ha=>s02.free (ffq a ha)) hc3 (s02.trans s3)
theorem ok_ckcX {f C cN:Addr}{fd:FuncData} (F:Fun K "check_chamber" "Chart.check_chamber" s_Chart_check_chamber f fd) (hmNoChamber:mg "NoChamber"=some (.ref cN)) (hvNoChamber:isVe K cN=true) (SZ:Rdm P w K mg base C "size" ["self"] 1 (spSize C)):FnOk P w K mg base (CXe P w) 2 f fd ["self","chamber"] (spCkCX C cN):=by
 refine F.okX sc_Chart_check_chamber (fun vs H Q E h=>?_) (fun cdv A outer s H vs Q E hr h=>?_)
 · obtain ⟨g,k,n,T',fp,c,rfl,_⟩:=h
   rfl
 · obtain ⟨g,k,n,T',fp,c,rfl,hc,q,qe⟩:=h
   obtain ⟨dx,lo,li,as,bs,I,rfl,hg,_⟩:=id hc.ob
   refine ⟨_,(@sO _ _ _ (ps_if (PW.pt (pw_or (pt_cmpR op_lt (pv 1) pe_int (nomark _)) (pw_or1 (pt_cmpR op_ge (pv 1) (SZ.pe0 hr (pv 0)) (nomark _))))) (@sO _ _ _ (ps_raise rfl rfl hmNoChamber hvNoChamber (pa_cons pe_str pa_nil))) pss_nil)),?_⟩
   refine ⟨_,rfl,_,_,rfl,rfl,_,rfl,ite2 (fun z=>?_) fun z=>⟨_,rfl,_,rfl,g,dx,_,rfl,hg,chf_no ..,g,k,n,T',_,rfl,hc,_,_,rfl,rfl,_,rfl,ite2 (fun y=>?_) fun y=>?_⟩⟩
   · have z:=of_decide_eq_true z
     exact ⟨by decide,qe (by omega)⟩
   · have y:=of_decide_eq_true y
     exact ⟨by decide,qe (by omega)⟩
   · have z:¬ c < 0:=fun w=>z (decide_eq_true w)
     have y:¬ c ≥ n:=fun w=>y (decide_eq_true w)
     exact q (by omega)
theorem sc_chambers_of:FnScope ["labels","numbers","label"] ["labels"] (defScope s_chambers_of):=scm
theorem ok_chOf {f:Addr}{fd:FuncData} (F:Fun K "chambers_of" "chambers_of" s_chambers_of f fd) (T:Txt K mg):FnOk P w K mg base CX0 1 f fd ["labels"] spChOf:=by
 refine F.ok sc_chambers_of (fun vs H Q E h=>?_) (fun cdv A outer s H vs Q E hr h=>?_)
 · obtain ⟨a,l,rfl,_⟩:=h
   rfl
 · obtain ⟨a,l,rfl,ha,ll,q⟩:=h
   have hu1:=hu_of hr
   refine ⟨_,(@sC _ _ _ _ _ (ps_set (i:=1) sc_chambers_of.nd rfl (Or.inr rfl) pe_dnewK)
    (@sC _ _ _ _ _ (ps_for PassesOwn.never rfl (pi_list (pv 0)) (pg_name (i:=2) sc_chambers_of.nd rfl (Or.inl rfl)) (@sO _ _ _ (ps_if (pt_cmp (pc_dnotin hu1 (pv 2) (pv 1)) rfl) (@sO _ _ _ (ps_dput hu1 (pv 1) (pv 2) (pe_callB call_lenD (by rfl) T.len PySem.boot_len (pa_cons (pv 1) pa_nil)) rfl)) pss_nil)))
    (@sO _ _ _ (@sR _ _ _ _ (pe_compW ["numbers"] [1] (pi_list (pv 0)) (fun C s H fp=>pe_dget hu1 (pv 1) (pv 0) (fun _ _=>rfl)) (hcl1 rfl)))))),?_⟩
   refine fun d hd=>?_
   have s1:Same H (upd H d (.dK [])):=(Same.refl H).upd hd
   have i1:upd H d (.dK []) d=some (.dK []):=upd_same
   generalize upd H d (.dK [])=H1 at s1 i1
   refine ⟨_,rfl,a,rfl,⟨_,SqL.of (s1.ints ha)⟩,for_list (K:=K) (a:=a) (xs:=l.map V.int) (fun i σ H2=>∃ (x:Option V) (kvs:List (Key × V)),σ=[some (.ref a),some (.ref d),x]∧H2 d=some (.dK kvs)∧DK kvs (knw (l.take i))∧Same H H2) ⟨none,[],rfl,i1,DK.nil,s1⟩ (fun i σ H2 _ ⟨_,_,_,_,_,s2⟩=>SqL.of (s2.ints ha)) ?_ ?_⟩
   · rintro i v σ H2 hi ⟨x,kvs,rfl,h2,dk,s2⟩
     obtain ⟨z,rfl,ez⟩:=get_int hi
     obtain ⟨hi',ei⟩:=List.getElem?_eq_some_iff.mp ez
     have et:l.take (i+1)=l.take i++[z]:=by rw [List.take_succ_eq_append_getElem hi',ei]
     refine ⟨_,rfl,_,rfl,d,_,rfl,DGet.k (k:=.inl z) h2,_,rfl,?_⟩
     rw [dk.at_]
     have kl:=knw_len (l.take i)
     have:(l.take i).length≤l.length:=by rw [List.length_take];omega
     by_cases m:z∈knw (l.take i)
     · rw [if_pos m]
       refine iteF ⟨_,kvs,rfl,h2,?_,s2⟩
       rw [et,knw_snoc,if_pos m];exact dk
     · rw [if_neg m]
       refine iteT ⟨_,rfl,d,kvs,rfl,h2,_,rfl,_,rfl,d,_,rfl,DPut.k (k:=.inl z) h2 (small4k (by rw [dk.len];omega)),?_⟩
       refine ⟨_,_,rfl,upd_same,?_,s2.upd hd⟩
       rw [et,knw_snoc,if_neg m];exact dk.put m
   · rintro σ H2 ⟨x,kvs,rfl,h2,dk,s2⟩
     rw [List.length_map,List.take_length] at dk
     refine ⟨_,rfl,a,rfl,⟨_,SqL.of (s2.ints ha)⟩,comp_intsH (fun x=>((knw l).idxOf x:Nat)) (s2.ints ha) (by omega) (fun z hz H' Q' s' q'=>?_) fun D H3 hD i3 s3=>q D H3 (s2.free hD) i3 (s2.trans s3)⟩
     refine ⟨_,rfl,_,rfl,d,_,rfl,?_,q'⟩
     have g:=DGet.k (k:=.inl z) (s' _ _ h2)
     rw [dk.at_,if_pos (show z∈knw l from knw_mem l [] z hz)] at g
     exact g
theorem sc_Survey_labels:FnScope ["self"] ["self"] (defScope s_Survey_labels):=scm
theorem ok_labels {f C:Addr}{fd:FuncData} (F:Fun K "labels" "Survey.labels" s_Survey_labels f fd) (TS':TxtS K mg C) (FO:Rdy P w K mg base "folded" ["marks","rows","start"] 6 spFold2) (RW:Rdy P w K mg base "rows_of" ["entries"] 1 spRowsOf):FnOk P w K mg base CX0 7 f fd ["self"] (spLabels C):=by
 refine F.ok sc_Survey_labels (fun vs H Q E h=>?_) (fun cdv A outer s H vs Q E hr h=>?_)
 · obtain ⟨g,lh,B,rest,rfl,_⟩:=h
   rfl
 · obtain ⟨g,lh,B,rest,rfl,hB,q⟩:=h
   obtain ⟨dx,ls,hg,he⟩:=id hB.ob
   have n24:=hB.n24
   have e40:=hB.e40
   refine ⟨_,(@sO _ _ _ (@sR _ _ _ _ (pe_ix ix_t (FO.pe hr (@aC _ _ _ _ _ (pe_fld (pv 0) rfl) (@aC _ _ _ _ _ (RW.pe hr (@aC _ _ _ _ _ (pe_fld (pv 0) rfl) pa_nil (by rfl))) (@aC _ _ _ _ _ (pe_lstW pa_nil) pa_nil (by rfl)) (by rfl)) (by rfl))) pe_int (fun _ _=>rfl)))),?_⟩
   refine ⟨_,rfl,g,C,dx,_,_,rfl,hg,TS'.cl,TS'.nn,bf_n ..,_,rfl,g,C,dx,_,_,rfl,hg,TS'.cl,TS'.ns,bf_s ..,ls,rest,B.es,rfl,he,by omega,fun r1 ps1 H2 hr1 t1 e1 s2=>?_⟩
   refine rd_lsV (by show 0≤1000;decide) fun l6 H6 hl6 i6 s6=>?_
   have l1:=rows_len e1
   have:=rowsOf_len B.es
   refine ⟨B.n,r1,l6,ps1,[],rfl,t1.same s6,⟨i6,(fun _ z=>nomatch z)⟩,rows_all e1 (rowsOf_ok hB.k5 hB.ok),(fun _ z=>nomatch z),by omega,by omega,by simp,fun t7 la lp sp l H7 h7 i7 tl7 fL hp spl _ _ s7=>?_⟩
   rw [e1] at fL
   have el:l=B.lab:=fL.eq
   have ll:l.length=B.n:=fL.1.lab.len
   rw [el] at i7 ll fL
   exact rd_tupAt h7 rfl (q la H7 i7 ll fL (s2.trans (s6.trans s7)))
theorem sc_Survey_chambers:FnScope ["self"] ["self"] (defScope s_Survey_chambers):=scm
theorem ok_chambers {f C:Addr}{fd:FuncData} (F:Fun K "chambers" "Survey.chambers" s_Survey_chambers f fd) (LAB:Rdm P w K mg base C "labels" ["self"] 7 (spLabels C)) (CHO:Rdy P w K mg base "chambers_of" ["labels"] 1 spChOf):FnOk P w K mg base CX0 8 f fd ["self"] (spChambers C):=by
 refine F.ok sc_Survey_chambers (fun vs H Q E h=>?_) (fun cdv A outer s H vs Q E hr h=>?_)
 · obtain ⟨g,lh,B,rest,rfl,_⟩:=h
   rfl
 · obtain ⟨g,lh,B,rest,rfl,hB,q⟩:=h
   obtain ⟨dx,ls,hg,he⟩:=id hB.ob
   have n24:=hB.n24
   refine ⟨_,(@sO _ _ _ (@sR _ _ _ _ (CHO.pe hr (@aC _ _ _ _ _ (LAB.pe0 hr (pv 0)) pa_nil (by rfl))))),?_⟩
   refine ⟨_,rfl,g,dx,_,rfl,hg,rfl,g,lh,B,rest,rfl,hB,fun p H1 ip ll fL s1=>?_⟩
   exact ⟨p,B.lab,rfl,ip,by omega,fun p2 H2 hp2 ip2 s2=>q p2 H2 (s1.free hp2) ip2 ll fL (s1.trans s2)⟩
theorem sc__law_ranked:FnScope ["_law_labels","_law_known","_law_label"] ["_law_labels"] (defScope s__law_ranked):=scm
theorem ok_ranked {f:Addr}{fd:FuncData} (F:Fun K "_law_ranked" "_law_ranked" s__law_ranked f fd):FnOk P w K mg base CX0 1 f fd ["_law_labels"] spChOf:=by
 refine F.ok sc__law_ranked (fun vs H Q E h=>?_) (fun cdv A outer s H vs Q E hr h=>?_)
 · obtain ⟨a,l,rfl,_⟩:=h
   rfl
 · obtain ⟨a,l,rfl,ha,ll,q⟩:=h
   refine ⟨_,(@sC _ _ _ _ _ (ps_set (i:=1) sc__law_ranked.nd rfl (Or.inr rfl) (pe_lstW pa_nil))
    (@sC _ _ _ _ _ (ps_for PassesOwn.never rfl (pi_list (pv 0)) (pg_name (i:=2) sc__law_ranked.nd rfl (Or.inl rfl)) (@sO _ _ _ (ps_if (pt_cmpR op_notIn_seq (pv 2) (pv 1) rfl) (@sO _ _ _ (ps_expr (pe_bm PySem.F.plainAttrs_list PySem.F.slot_list_append PySem.F.type_list_append mt_append (pv 1) (@aC _ _ _ _ _ (pv 2) pa_nil (by rfl))))) pss_nil)))
    (@sO _ _ _ (@sR _ _ _ _ (pe_compW ["_law_known"] [1] (pi_list (pv 0)) (fun C s H fp=>bmK K rfl (pe_bm PySem.F.plainAttrs_list PySem.F.slot_list_index PySem.F.type_list_index (idxK K rfl) (pv 1) (pa_cons (pv 0) pa_nil))) (hcl1 rfl)))))),?_⟩
   refine rd_lst [] fun d H1 hd i1 s1=>?_
   refine ⟨_,rfl,a,rfl,⟨_,SqL.of (s1.ints ha)⟩,for_list (K:=K) (a:=a) (xs:=l.map V.int) (fun i σ H2=>∃ (x:Option V),σ=[some (.ref a),some (.ref d),x]∧Ints H2 d (knw (l.take i))∧Same H H2) ⟨none,rfl,i1,s1⟩ (fun i σ H2 _ ⟨_,_,_,s2⟩=>SqL.of (s2.ints ha)) ?_ ?_⟩
   · rintro i v σ H2 hi ⟨x,rfl,h2,s2⟩
     obtain ⟨z,rfl,ez⟩:=get_int hi
     obtain ⟨hi',ei⟩:=List.getElem?_eq_some_iff.mp ez
     have et:l.take (i+1)=l.take i++[z]:=by rw [List.take_succ_eq_append_getElem hi',ei]
     refine ⟨_,rfl,_,rfl,d,_,rfl,.inl (SqL.of h2),rfl,flat_ints _,_,rfl,?_⟩
     show if (!inV (V.int z) ((knw (l.take i)).map V.int))=true then _ else _
     rw [inV_ints]
     have kl:=knw_len (l.take i)
     have:(l.take i).length≤l.length:=by rw [List.length_take];omega
     by_cases m:z∈knw (l.take i)
     · rw [decide_eq_true m]
       refine iteF ⟨_,rfl,?_,s2⟩
       rw [et,knw_snoc,if_pos m];exact h2
     · rw [decide_eq_false m]
       refine iteT ⟨_,rfl,.inl ⟨rfl,_,SqL.of h2⟩,_,rfl,d,_,_,rfl,rfl,h2,small4k (by rw [List.length_map];omega),?_⟩
       refine ⟨_,rfl,?_,s2.upd hd⟩
       rw [et,knw_snoc,if_neg m];exact Ints.snoc
   · rintro σ H2 ⟨x,rfl,h2,s2⟩
     rw [List.length_map,List.take_length] at h2
     refine ⟨_,rfl,a,rfl,⟨_,SqL.of (s2.ints ha)⟩,comp_intsH (fun x=>((knw l).idxOf x:Nat)) (s2.ints ha) (by omega) (fun z hz H' Q' s' q'=>?_) fun D H3 hD i3 s3=>q D H3 (s2.free hD) i3 (s2.trans s3)⟩
     exact ⟨_,rfl,.inl ⟨rfl,_,SqL.of (s'.ints h2)⟩,_,rfl,rd_idx (s'.ints h2) (knw_mem l [] z hz) q'⟩
theorem sc_chart_of:FnScope ["kinds","chambers","rows","size","table","number","a","kind","b"] ["kinds","chambers","rows"] (defScope s_chart_of):=scm
theorem ok_chartOf {f C:Addr}{fd:FuncData} (F:Fun K "chart_of" "chart_of" s_chart_of f fd) (T:Txt K mg) (TM:TxtM mg) (CH:Rdk P w K mg base C "Chart" ["self","kinds","table"] 2 (spInit C)):FnOk P w K mg base CX0 4 f fd ["kinds","chambers","rows"] (spChartOf C):=by
 refine F.ok sc_chart_of (fun vs H Q E h=>?_) (fun cdv A outer s H vs Q E hr h=>?_)
 · obtain ⟨k,m,lc,lr,ch,ps,rfl,_⟩:=h
   rfl
 · obtain ⟨k,m,lc,lr,ch,ps,rfl,hc,tl,k1,k5,ok,n7,m10,q⟩:=h
   refine ⟨_,(@sC _ _ _ _ _ (@sS _ 3 _ _ _ _ _ sc_chart_of.nd rfl (Or.inl rfl) (pe_op op_add (pe_callB (call_max1 rfl) (by rfl) TM.max bt_max (pa_cons (pe_op op_catW (pe_lstW (pa_cons pe_int pa_nil)) (pv 1)) pa_nil)) pe_int) (by rfl) (.inl rfl))
    (@sC _ _ _ _ _ (ps_compW 4 ["kinds"] [0] sc_chart_of.nd (pi_range1 rfl T.range (pa_cons (pv 3) pa_nil)) (fun C s H fp=>pe_op op_rep.wr (pe_lstW (pa_cons pe_non pa_nil)) (pv 1)) (hcl1 rfl))
    (@sC _ _ _ _ _ (ps_for PassesOwn.never rfl (pi_list (pv 2)) (pg_tup rfl (pgs_cons (pg_name (i:=5) sc_chart_of.nd rfl (Or.inl rfl)) (pgs_cons (pg_name (i:=6) sc_chart_of.nd rfl (Or.inl rfl)) (pgs_cons (pg_name (i:=7) sc_chart_of.nd rfl (Or.inl rfl)) (pgs_cons (pg_name (i:=8) sc_chart_of.nd rfl (Or.inl rfl)) pgs_nil))))) (@sO _ _ _ (ps_asg (pe_ix ix_l (pv 1) (pv 8) (fun _ _=>rfl)) (pg_sub (pe_ix ix_l (pv 4) (pe_ix ix_l (pv 1) (pv 6) (fun _ _=>rfl)) (fun _ _=>rfl)) (pe_op op_sub (pv 7) pe_int) set_list))))
    (@sO _ _ _ (@sR _ _ _ _ (CH.pe hr (@aC _ _ _ _ _ (pv 0) (@aC _ _ _ _ _ (pv 4) pa_nil (by rfl)) (by rfl)))))))),?_⟩
   refine rd_lst [0] fun l0 H1 hl0 i0 s1=>⟨_,rfl,rd_cat i0 (s1.ints hc) (by have:=ok.len;simp;omega) fun l1 H2 hl1 i1 s2=>rd_max i1 (by simp) fun M hM hmx=>⟨_,_,rfl,rfl,?_⟩⟩
   have em:M=mx ch:=by
    refine mx_is (hmx 0 (by simp)) ?_ fun i hi=>hmx i (List.mem_append_right _ hi)
    rcases List.mem_append.mp hM with z | z
    · exact .inl (List.mem_singleton.mp z)
    · exact .inr z
   show gName 3 (V.int (M+1)) _ _ _
   rw [em, ← nC_int]
   have s12:=s1.trans s2
   refine ⟨_,rfl,_,rfl,by omega,by omega,comp_tab (n:=((nC ch:Nat):Int).toNat) (fun _=>List.replicate k none) (by omega) (fun i hi H3 s3 Q' q'=>?_) fun t as H3 N3=>?_⟩
   · exact rd_lsV (by show 1≤1000;decide) fun l2 H4 hl2 i2 s4=>⟨_,rfl,rd_rep (z:=none) i2 (by omega) (fun p H5 hp ip s5=>q' p H5 (s4.free hp) ip (s4.trans s5))⟩
   rw [Int.toNat_natCast] at N3
   have e0:((List.range (nC ch)).map fun _=>List.replicate k (none:Option Int))=List.replicate (nC ch) (List.replicate k none):=by
    rw [List.map_const'];simp
   rw [e0] at N3
   refine ⟨_,rfl,lr,rfl,⟨_,SqL.of ((tl.same s12).same N3.sm).is⟩,for_list (K:=K) (a:=lr) (xs:=ps.map fun p=>V.ref p.1) (fun i σ H4=>∃ (x5 x6 x7 x8:Option V),σ=[some (.int k),some (.ref lc),some (.ref lr),some (.int (nC ch)),some (.ref t),x5,x6,x7,x8]∧NewT H2 H4 t as (chT k (nC ch) ch ((ps.map (·.2)).take i)))
    ⟨none,none,none,none,rfl,N3⟩ (fun i σ H4 _ ⟨_,_,_,_,_,N⟩=>SqL.of ((tl.same s12).same N.sm).is) ?_ ?_⟩
   · rintro i y σ H4 hi ⟨x5,x6,x7,x8,rfl,N⟩
     obtain ⟨p,rfl,ep⟩:=get_ref hi
     have hp:=List.mem_of_getElem? ep
     have ht:=((tl.same s12).same N.sm).tp p hp
     have rs:(ps.map (·.2))[i]?=some p.2:=by rw [List.getElem?_map,ep];rfl
     have mr:=List.mem_of_getElem? rs
     obtain ⟨ro,g1,g2⟩:=ok.row p.2 mr
     obtain ⟨a0,a1⟩:=ok.at mr 1
     have ia:=(ro.mk 1).2
     have ib:=(ro.mk (-1)).2
     have ex:∃ (i1:Int) (a:Nat) (kd:Int) (b:Nat),p.2=[i1,(a:Int),kd,(b:Int)]∧My.mk p.2 1=a∧My.mk p.2 (-1)=b:=by
      obtain ⟨i1,a,kd,b,er,ha,hb⟩:=ro
      exact ⟨i1,a,kd,b,er,by rw [er];rfl,by rw [er];rfl⟩
     obtain ⟨i1,a,kd,b,er,ea,eb⟩:=ex
     rw [er] at ht
     have gk:p.2.getD 2 0=kd:=by rw [er];rfl
     rw [ea] at ia a0 a1
     rw [eb] at ib
     have hcH:=(s12.trans N.sm).ints hc
     have ol:=ok.len
     refine ⟨p.1,_,rfl,SqT.of ht,rfl,_,_,rfl,_,_,rfl,_,_,rfl,_,_,rfl,rfl,?_⟩
     have hci:(ch.getD a 0).toNat < (chT k (nC ch) ch ((ps.map (·.2)).take i)).length:=by
      rw [(chT_take ok i (by rw [List.length_map];have:=(List.getElem?_eq_some_iff.mp ep).1;omega)).len];omega
     obtain ⟨ra,era,mra,eT,hra⟩:=N.tb.at hci
     have rl:((chT k (nC ch) ch ((ps.map (·.2)).take i)).getD (ch.getD a 0).toNat []).length=k:=(chT_take ok i (by rw [List.length_map];have:=(List.getElem?_eq_some_iff.mp ep).1;omega)).row _ (List.mem_of_getElem? eT)
     refine ⟨_,rfl,_,rfl,rd_at b hcH (by omega) ⟨_,rfl,_,rfl,_,rfl,rd_at a hcH (by omega) (rd_row (ch.getD a 0).toNat N.tb era ?_ (by omega))⟩⟩
     have hkd:(kd - 1).toNat < k:=by omega
     refine ⟨_,rfl,_,_,rfl,rfl,ra,_,kd - 1,(kd - 1).toNat,rfl,rfl,hra,ixN_at (by rw [List.length_map,rl];exact hkd) (by omega),⟨_,_,_,_,rfl,?_⟩⟩
     have e1:chT k (nC ch) ch ((ps.map (·.2)).take (i+1))=putR ch (chT k (nC ch) ch ((ps.map (·.2)).take i)) p.2:=by
      obtain ⟨hi',ei⟩:=List.getElem?_eq_some_iff.mp rs
      rw [List.take_succ_eq_append_getElem hi',ei]
      unfold chT
      rw [foldl_snoc]
     rw [e1]
     unfold putR
     rw [ea,eb,gk]
     have:=N.set era (((chT k (nC ch) ch ((ps.map (·.2)).take i)).getD (ch.getD a 0).toNat []).set (kd - 1).toNat (some (ch.getD b 0)))
     rw [List.map_set] at this
     exact this
   · rintro σ H4 ⟨x5,x6,x7,x8,rfl,N⟩
     rw [List.length_map, ← List.length_map (f:=(·.2)),List.take_length] at N
     have ok':=chT_ok ok
     refine ⟨_,rfl,_,rfl,fun x dx nx ndx nex=>?_⟩
     have sx:Same H4 (upd (upd H4 dx (.own x)) x (.ins C dx [])):=((Same.refl H4).upd ndx).upd nx
     refine ⟨x,dx,k,nC ch,t,as,_,rfl,upd_same,N.tb.same sx,ok',k1,k5,by unfold nC;omega,n7,fun H5 fq hc5 ff kp=>⟨rfl,?_⟩⟩
     have s04:Same H H4:=s12.trans N.sm
     have s5:Same H4 H5:=fun b o e=>kp b o (sx b o e) fun z=>by rw [z,nx] at e;cases e
     refine q x fq H5 (s04.free nx) (fun a ha=>?_) hc5 (s04.trans s5)
     by_cases z:a=x
     · rw [z];exact s04.free nx
     · exact s04.free (sx.free (ff a ha z))
theorem sc_Survey_piece:FnScope ["self","a","chambers"] ["self","a"] (defScope s_Survey_piece):=scm
theorem ok_pieceX {f C Cc cM cN:Addr}{fd:FuncData} (F:Fun K "piece" "Survey.piece" s_Survey_piece f fd) (TS':TxtS K mg C) (CM:Rdmx P w K mg base C "check_marks" ["self","a","b"] 1 (spCkMX C cM)) (CHA:Rdm P w K mg base C "chambers" ["self"] 8 (spChambers C)) (RW:Rdy P w K mg base "rows_of" ["entries"] 1 spRowsOf)
  (COF:Rdy P w K mg base "chart_of" ["kinds","chambers","rows"] 4 (spChartOf Cc)) (NB:Rdx P w K mg base "numbered" ["chart","base"] 5 (spNbrX Cc cN)):FnOk P w K mg base (CXe P w) 9 f fd ["self","a"] (spPieceX C Cc cM):=by
 refine F.okX sc_Survey_piece (fun vs H Q E h=>?_) (fun cdv A outer s H vs Q E hr h=>?_)
 · obtain ⟨g,lh,B,rest,a,rfl,_⟩:=h
   rfl
 · obtain ⟨g,lh,B,rest,a,rfl,hB,q,qm⟩:=h
   obtain ⟨dx,ls,hg,he⟩:=id hB.ob
   have n24:=hB.n24
   have e40:=hB.e40
   refine ⟨_,(@sC _ _ _ _ _ (ps_expr (CM.pe hr (pv 0) (@aC _ _ _ _ _ (pv 1) (@aC _ _ _ _ _ (pv 1) pa_nil (by rfl)) (by rfl))))
    (@sC _ _ _ _ _ (@sS _ 2 _ _ _ _ _ sc_Survey_piece.nd rfl (Or.inl rfl) (CHA.pe0 hr (pv 0)) (by rfl) (.inl rfl))
    (@sO _ _ _ (@sR _ _ _ _ (NB.pe hr (@aC _ _ _ _ _ (COF.pe hr (@aC _ _ _ _ _ (pe_fld (pv 0) rfl) (@aC _ _ _ _ _ (pv 2) (@aC _ _ _ _ _ (RW.pe hr (@aC _ _ _ _ _ (pe_fld (pv 0) rfl) pa_nil (by rfl))) pa_nil (by rfl)) (by rfl)) (by rfl))) (@aC _ _ _ _ _ (pe_ix ix_l (pv 2) (pv 1) (fun _ _=>rfl)) pa_nil (by rfl)) (by rfl))))))),?_⟩
   refine ⟨_,rfl,g,dx,_,rfl,hg,rfl,_,rfl,_,rfl,g,lh,B,rest,a,a,rfl,hB,fun ha H1 s1=>?_,fun na=>qm fun z=>na ⟨z,z⟩⟩
   have ha:=ha.1
   refine ⟨_,rfl,g,dx,_,rfl,s1 _ _ hg,rfl,g,lh,B,rest,rfl,hB.same s1,fun p H2 hp ip ll fL s2=>?_⟩
   have s12:=s1.trans s2
   have ck:=Bk.chok hB
   refine ⟨_,rfl,g,C,dx,_,_,rfl,s12 _ _ hg,TS'.cl,TS'.nk,bf_k ..,_,rfl,_,rfl,g,C,dx,_,_,rfl,s12 _ _ hg,TS'.cl,TS'.ns,bf_s ..,ls,rest,B.es,rfl,he.same s12,by omega,fun r ps H3 hr3 tl er s3=>?_⟩
   have s13:=s12.trans s3
   have n7:=nC_rk B.lab
   refine ⟨B.k,B.n,p,r,rk B.lab,ps,rfl,s3.ints ip,tl,hB.k1,hB.k5,by rw [er];exact ck,by omega,by omega,fun x fx H4 hx hfx hc s4=>?_⟩
   rw [er] at hc
   have hc:ChAt Cc H4 x B.k B.nch B.tab fx:=hc
   have s14:=s13.trans s4
   obtain ⟨a0,a1⟩:=ha
   have hb:=ck.rng ((rk B.lab).getD a.toNat 0) (getD_mem (by rw [rk_len,ll];omega))
   refine ⟨_,rfl,_,rfl,rd_at a.toNat ((s3.trans s4).ints ip) (by rw [rk_len,ll];omega) ?_ (by omega)⟩
   refine ⟨x,B.k,B.nch,B.tab,fx,_,rfl,hc,fun _ y fq H5 hy hfq hc5 s5=>?_,fun z=>absurd hb z⟩
   exact q ⟨a0,a1⟩ y fq H5 (s14.free hy) (fun b hb=>s14.free (hfq b hb)) hc5 (s14.trans s5)
theorem sc_Survey_never_paper:FnScope ["self","a","way","b","rows","end","labels","paper","number"] ["self","a","way","b"] (defScope s_Survey_never_paper):=scm
theorem ok_neverJ {f C cM cK:Addr}{fd:FuncData} (F:Fun K "never_paper" "Survey.never_paper" s_Survey_never_paper f fd) (T:Txt K mg) (TS':TxtS K mg C) (LAI:Rdmx P w K mg base C "laid" ["self","a","way","b"] 2 (spLaidX C cM cK)) (FO:Rdy P w K mg base "folded" ["marks","rows","start"] 6 spFold2) (BO:Rdy P w K mg base "broken_oath" ["entries","labels"] 1 spBrk):
  FnOk P w K mg base (CXe P w) 7 f fd ["self","a","way","b"] (spNeverJ C cM cK):=by
 refine F.okX sc_Survey_never_paper (fun vs H Q E h=>?_) (fun cdv A outer s H vs Q E hr h=>?_)
 · obtain ⟨g,lh,B,rest,a,b,wa,ws,rfl,_⟩:=h
   rfl
 · obtain ⟨g,lh,B,rest,a,b,wa,ws,rfl,hB,hw,wl,q,q0,qm,qk⟩:=h
   obtain ⟨dx,ls,hg,he⟩:=id hB.ob
   have n24:=hB.n24
   refine ⟨_,(@sC _ _ _ _ _ (ps_asg (LAI.pe hr (pv 0) (@aC _ _ _ _ _ (pv 1) (@aC _ _ _ _ _ (pv 2) (@aC _ _ _ _ _ (pv 3) pa_nil (by rfl)) (by rfl)) (by rfl))) (pg_tup rfl (pgs_cons (pg_name (i:=4) sc_Survey_never_paper.nd rfl (Or.inl rfl)) (pgs_cons (pg_name (i:=5) sc_Survey_never_paper.nd rfl (Or.inl rfl)) pgs_nil))))
    (@sC _ _ _ _ _ (ps_asg (FO.pe hr (@aC _ _ _ _ _ (pe_op op_add (pe_fld (pv 0) rfl) (pe_callB call_len_seq (by rfl) T.len PySem.boot_len (@aC _ _ _ _ _ (pv 2) pa_nil (by rfl)))) (@aC _ _ _ _ _ (pv 4) (@aC _ _ _ _ _ (@eL _ _ _ _ (@aC _ _ _ _ _ (pe_tup (@aC _ _ _ _ _ (pv 5) (@aC _ _ _ _ _ (pv 3) pa_nil (by rfl)) (by rfl))) pa_nil (by rfl))) pa_nil (by rfl)) (by rfl)) (by rfl))) (pg_tup rfl (pgs_cons (pg_name (i:=6) sc_Survey_never_paper.nd rfl (Or.inl rfl)) (pgs_cons (pg_name (i:=7) sc_Survey_never_paper.nd rfl (Or.inl rfl)) pgs_nil))))
    (@sC _ _ _ _ _ (@sS _ 8 _ _ _ _ _ sc_Survey_never_paper.nd rfl (Or.inl rfl) (BO.pe hr (@aC _ _ _ _ _ (pe_fld (pv 0) rfl) (@aC _ _ _ _ _ (pv 6) pa_nil (by rfl)) (by rfl))) (by rfl) (.inl rfl))
    (@sC _ _ _ _ _ (ps_if (pt_cmpR op_isN (pv 8) pe_non (nomark _)) (@sO _ _ _ (@sR _ _ _ _ pe_non)) pss_nil)
    (@sO _ _ _ (@sR _ _ _ _ (pe_tup (@aC _ _ _ _ _ (pv 8) (@aC _ _ _ _ _ (pv 7) pa_nil (by rfl)) (by rfl))))))))),?_⟩
   refine ⟨_,rfl,g,dx,_,rfl,hg,rfl,_,rfl,_,rfl,_,rfl,g,lh,B,rest,a,b,wa,ws,rfl,hB,hw,wl,fun hm hl t r ps H1 ht tr er s1=>?_,qm,qk⟩
   refine ⟨t,_,rfl,SqT.of ht,rfl,_,_,rfl,_,_,rfl,rfl,?_⟩
   refine ⟨_,rfl,g,C,dx,_,_,rfl,s1 _ _ hg,TS'.cl,TS'.nn,bf_n ..,_,rfl,wa,_,rfl,.inl (SqL.of (s1.ints hw)),_,_,rfl,rfl,_,rfl,_,rfl,_,rfl,by show 2≤sizeLine;decide,fun tp htp=>?_⟩
   have s2:Same H1 (upd H1 tp (.tup [.int (hereAt B.n a ws.length),.int b])):=(Same.refl H1).upd htp
   have i2:upd H1 tp (.tup [.int (hereAt B.n a ws.length),.int b]) tp=some (.tup [.int (hereAt B.n a ws.length),.int b]):=upd_same
   generalize upd H1 tp (.tup [.int (hereAt B.n a ws.length),.int b])=H2 at s2 i2
   refine rd_lsV (by show 1≤1000;decide) fun l0 H3 hl0 i3 s3=>?_
   have t3:=tr.same (s2.trans s3)
   have en:((B.n:Int)+((ws.map V.int).length:Int))=((B.n+ws.length:Nat):Int):=by rw [List.length_map];rfl
   have rok:∀ r∈rowsOf B.es++trailR B.n a ws,RowOk (B.n+ws.length) r∧1≤r.getD 2 0∧r.getD 2 0≤5:=fun r hr2=>by
    rcases List.mem_append.mp hr2 with z | z
    · exact rowsOf_ok hB.k5 (fun e h=>(hB.ok e h).mono (Nat.le_add_right _ _)) r z
    · exact trailR_ok hm.1 hB.k5 hl r z
   have lps:=rows_len er
   have:=rowsOf_len B.es
   have:=hB.e40
   rw [List.length_append,trailR_len] at lps
   obtain ⟨e0,e1⟩:=hereAt_lt hm.1 ws.length ws.length (Nat.le_refl _)
   obtain ⟨b0,b1⟩:=hm.2
   have st3:Tl H3 l0 [(tp,[hereAt B.n a ws.length,b])]:=⟨i3,fun p hp=>by rw [List.mem_singleton.mp hp];exact s3 _ _ i2⟩
   refine ⟨B.n+ws.length,r,l0,ps,[(tp,[hereAt B.n a ws.length,b])],by show [V.int ((B.n:Int)+((ws.map V.int).length:Int)),_,_]=_;rw [en],t3,st3,rows_all er rok,fun p hp=>?_,by omega,by omega,by show 1≤1000;decide,fun t4 l1 l2 sp l H4 h4 i4 tl4 fL hp spl _ f2 s4=>?_⟩
   · rw [List.mem_singleton.mp hp]
     exact ⟨(hereAt B.n a ws.length).toNat,b.toNat,by rw [Int.toNat_of_nonneg e0,Int.toNat_of_nonneg b0],by omega,by omega⟩
   rw [er] at fL
   have ll:l.length=B.n+ws.length:=fL.1.lab.len
   have nv:=nev_iff hB.ok hB.k5 hm.1 hm.2 (lets_nz hl) fL
   refine ⟨t4,_,rfl,SqT.of h4,rfl,_,_,rfl,_,_,rfl,rfl,?_⟩
   have s14:=s1.trans (s2.trans (s3.trans s4))
   refine ⟨_,rfl,g,C,dx,_,_,rfl,s14 _ _ hg,TS'.cl,TS'.ns,bf_s ..,_,rfl,ls,l1,rest,B.es,l,B.k,rfl,he.same s14,i4,(fun e h=>by rw [ll];exact (hB.ok e h).mono (Nat.le_add_right _ _)),?_⟩
   cases eb:broken B.es l with
   | none=>
    exact ⟨_,rfl,rfl,_,rfl,iteT (q0 hm hl (fun z=>nv.mpr z eb) H4 s14)⟩
   | some i=>
    refine ⟨_,rfl,rfl,_,rfl,iteF ⟨_,rfl,_,rfl,by show 2≤sizeLine;decide,fun t5 ht5=>?_⟩⟩
    exact q hm hl (nv.mp (by rw [eb];exact fun z=>nomatch z)) t5 _ (s14.upd' ht5)
theorem sc_Survey_judge:FnScope ["self","a","way","b"] ["self","a","way","b"] (defScope s_Survey_judge):=scm
theorem ok_judgeJ {f C cM cK:Addr}{fd:FuncData} (F:Fun K "judge" "Survey.judge" s_Survey_judge f fd) (TJ:TxtJ mg) (MP:Rdmx P w K mg base C "must_paper" ["self","a","way","b"] 7 (spMustX C cM cK)) (NP:Rdmx P w K mg base C "never_paper" ["self","a","way","b"] 7 (spNeverJ C cM cK)):
  FnOk P w K mg base (CXe P w) 8 f fd ["self","a","way","b"] (spJudge C cM cK):=by
 obtain ⟨_,hmust⟩:=TJ.must
 obtain ⟨_,hnever⟩:=TJ.never
 obtain ⟨_,hopen⟩:=TJ.opn
 refine F.okX sc_Survey_judge (fun vs H Q E h=>?_) (fun cdv A outer s H vs Q E hr h=>?_)
 · obtain ⟨g,lh,B,rest,a,b,wa,ws,rfl,_⟩:=h
   rfl
 · obtain ⟨g,lh,B,rest,a,b,wa,ws,rfl,hB,hw,wl,q,qm,qk⟩:=h
   obtain ⟨dx,ls,hg,he⟩:=id hB.ob
   refine ⟨_,(@sC _ _ _ _ _ (ps_if (pt_cmpR op_notN (MP.pe hr (pv 0) (@aC _ _ _ _ _ (pv 1) (@aC _ _ _ _ _ (pv 2) (@aC _ _ _ _ _ (pv 3) pa_nil (by rfl)) (by rfl)) (by rfl))) pe_non (nomark _)) (@sO _ _ _ (@sR _ _ _ _ (pe_glob (v:=.str "must") rfl hmust ⟨_,rfl⟩))) pss_nil)
    (@sC _ _ _ _ _ (ps_if (pt_cmpR op_notN (NP.pe hr (pv 0) (@aC _ _ _ _ _ (pv 1) (@aC _ _ _ _ _ (pv 2) (@aC _ _ _ _ _ (pv 3) pa_nil (by rfl)) (by rfl)) (by rfl))) pe_non (nomark _)) (@sO _ _ _ (@sR _ _ _ _ (pe_glob (v:=.str "never") rfl hnever ⟨_,rfl⟩))) pss_nil)
    (@sO _ _ _ (@sR _ _ _ _ (pe_glob (v:=.str "open") rfl hopen ⟨_,rfl⟩))))),?_⟩
   refine ⟨_,rfl,g,dx,_,rfl,hg,rfl,_,rfl,_,rfl,_,rfl,g,lh,B,rest,a,b,wa,ws,rfl,hB,hw,wl,fun hm hl z l2 sp ps H2 t2 er hp spl f2 s2=>?_,fun hm hl z H2 s2=>?_,qm,qk⟩
   · have z:=(tlab_must hB hm.1 hm.2 hl).mp z
     refine ⟨rfl,_,rfl,iteT ?_⟩
     have e:wordOf B.es a ws b="must":=by unfold wordOf;rw [if_pos z]
     have:=q hm hl H2 s2
     rw [e] at this
     exact this
   · have z:¬ MustP (rowsOf B.es) a ws b:=fun y=>z ((tlab_must hB hm.1 hm.2 hl).mpr y)
     refine ⟨rfl,_,rfl,iteF ?_⟩
     refine ⟨_,rfl,g,dx,_,rfl,s2 _ _ hg,rfl,_,rfl,_,rfl,_,rfl,g,lh,B,rest,a,b,wa,ws,rfl,hB.same s2,s2.ints hw,wl,fun hm hl y t H3 s3=>?_,fun hm hl y H3 s3=>?_,fun y=>absurd hm y,fun _ y=>absurd hl y⟩
     · refine ⟨rfl,_,rfl,iteT ?_⟩
       have e:wordOf B.es a ws b="never":=by unfold wordOf;rw [if_neg z,if_pos y]
       have:=q hm hl H3 (s2.trans s3)
       rw [e] at this
       exact this
     · refine ⟨rfl,_,rfl,iteF ?_⟩
       have e:wordOf B.es a ws b="open":=by unfold wordOf;rw [if_neg z,if_neg y]
       have:=q hm hl H3 (s2.trans s3)
       rw [e] at this
       exact this
theorem sc__law_asked:FnScope ["_law_kinds","_law_marks","_law_rows_here","_law_draws","_law_a","_law_b","_law_way_here","_law_places","_law_table","_law_end","_law_often","_law_at","_law_one"] ["_law_kinds","_law_marks","_law_rows_here","_law_draws"] (defScope s__law_asked):=scm
theorem ok_asked49 {f:Addr}{fd:FuncData} (F:Fun K "_law_asked" "_law_asked" s__law_asked f fd) (T:Txt K mg) (WA:Rdy P w K mg base "_law_way" ["_law_draws","_law_kinds"] 1 (spWay K)) (TU:Rdy P w K mg base "_law_turn" ["_law_way_here"] 1 (spTurn K)) (LCH:Rdy P w K mg base "_law_chart" ["_law_kinds","_law_marks","_law_rows_here"] 3 spLChart) (RO:Rdy P w K mg base "_law_round" ["_law_table","_law_kinds","_law_here","_law_draws"] 2 spRound):
  FnOk P w K mg base CX0 4 f fd ["_law_kinds","_law_marks","_law_rows_here","_law_draws"] spAsked49:=by
 refine F.ok sc__law_asked (fun vs H Q E h=>?_) (fun cdv A outer s H vs Q E hr h=>?_)
 · obtain ⟨k,n,lr,ld,ps,ds,rfl,_⟩:=h
   rfl
 · obtain ⟨k,n,lr,ld,ps,ds,rfl,tl,hps,hd,dl,k1,k5,n1,n6,pl,q⟩:=h
   have np:(0:Int) < n:=by omega
   have dd:∀ {c:Int}{a b:Int}{A B:Prop},(decide (V.int a=V.int b)=true→A)→(¬ decide (V.int a=V.int b)=true→B)→(if decide (V.int a=V.int b)=true then A else B):=fun h1 h2=>ite2 h1 h2
   have r7:∃ u:TS,PSs (cxOf CX0 P w K mg base ["_law_kinds","_law_marks","_law_rows_here","_law_draws","_law_a","_law_b","_law_way_here","_law_places","_law_table","_law_end","_law_often","_law_at","_law_one"] "_law_asked" (defScope s__law_asked) f cdv A outer s H E).nox ((defBody s__law_asked).drop 7) u∧
     ∀ (a b:Int) (wa:Addr) (ws:List Int) (x7 x8 x9 x10:Option V) (G:Hp),InM n a→InM n b→Ints G wa ws→(∀ l∈ws,Let k l)→ws.length≤150→H wa=none→Same H G→
      u { nx:=fun _ H'=>Q .non H',rt:=Q } [some (.int k),some (.int n),some (.ref lr),some (.ref ld),some (.int a),some (.int b),some (.ref wa),x7,x8,x9,x10,none,none] G:=by
    refine ⟨_,(@sC _ _ _ _ _ (ps_if (pt_cmpR op_eq (pe_op op_mod (pe_op op_fdiv (pe_ix ix_l (pv 3) pe_int (fun _ _=>rfl)) pe_int) pe_int) pe_int (nomark _)) (@sC _ _ _ _ _ (@sS _ 11 _ _ _ _ _ sc__law_asked.nd rfl (Or.inl rfl) (pe_op op_mod (pe_ix ix_l (pv 3) pe_int (fun _ _=>rfl)) (pe_op op_add (pe_callB call_len_seq (by rfl) T.len PySem.boot_len (@aC _ _ _ _ _ (pv 6) pa_nil (by rfl))) pe_int)) (by rfl) (.inl rfl))
    (@sC _ _ _ _ _ (@sS _ 12 _ _ _ _ _ sc__law_asked.nd rfl (Or.inl rfl) (pe_ix ix_l (WA.pe hr (@aC _ _ _ _ _ (pe_slice sl_l (pv 3) (po_some pe_int) (po_some pe_int)) (@aC _ _ _ _ _ (pv 0) pa_nil (by rfl)) (by rfl))) pe_int (fun _ _=>rfl)) (by rfl) (.inl rfl))
    (@sO _ _ _ (@sS _ 6 _ _ _ _ _ sc__law_asked.nd rfl (Or.inl rfl) (pe_op op_catW (pe_op op_catW (pe_slice sl_l (pv 6) po_none (po_some (pv 11))) (@eL _ _ _ _ (@aC _ _ _ _ _ (pv 12) (@aC _ _ _ _ _ (pe_un un_neg (pv 12)) pa_nil (by rfl)) (by rfl)))) (pe_slice sl_l (pv 6) (po_some (pv 11)) po_none)) (by rfl) (.inl rfl))))) pss_nil)
    (@sO _ _ _ (@sR _ _ _ _ (pe_tup (@aC _ _ _ _ _ (pv 4) (@aC _ _ _ _ _ (pv 6) (@aC _ _ _ _ _ (pv 5) pa_nil (by rfl)) (by rfl)) (by rfl)))))),?_⟩
    intro a b wa ws x7 x8 x9 x10 G ha hb iw hl wl fw s0
    have hd0:=s0.ints hd
    refine ⟨_,rfl,rd_at 4 hd0 (by omega) ⟨_,_,rfl,rfl,⟨by show (0:Int) < 2;decide,by show (2:Int) < 1073741824;decide⟩,_,_,rfl,rfl,(by show (0:Int) < 4;decide),rfl,_,rfl,ite2 (fun _=>?_) fun _=>?_⟩⟩
    · have p1:(0:Int) < ((ws.map V.int).length:Int)+1:=by omega
      refine ⟨_,rfl,rd_at 5 hd0 (by omega) ⟨_,rfl,wa,_,rfl,.inl (SqL.of iw),_,_,rfl,rfl,_,_,rfl,rfl,p1,?_⟩⟩
      show gName 11 (V.int (ds.getD 5 0 % (((ws.map V.int).length:Int)+1))) _ _ _
      generalize ds.getD 5 0 % (((ws.map V.int).length:Int)+1)=at'
      refine ⟨_,rfl,_,rfl,_,rfl,rd_slice hd0 fun l1 H1 f1 i1 s1=>?_⟩
      have cl:(cutL ds (some 5) (some 6)).length=1:=by
       rw [show (6:Int)=((6:Nat):Int) from rfl,show (5:Int)=((5:Nat):Int) from rfl,cutL_ft _ _ _ (by decide),List.length_take,List.length_drop,dl];decide
      refine ⟨_,rfl,l1,_,(k:Int),rfl,SqL.of i1,by omega,by omega,by omega,fun l2 H2 f2 i2 s2=>?_⟩
      have w2:=way_Let k1 (cutL ds (some 5) (some 6))
      generalize hgs:(cutL ds (some 5) (some 6)).map (letterOf k)=gs at i2 w2
      have gl:gs.length=1:=by rw [← hgs,List.length_map,cl]
      refine rd_at 0 i2 (by omega) ?_
      have lx:Let k (gs.getD 0 0):=w2 _ (by simp [List.getD,gl])
      generalize gs.getD 0 0=x at lx
      have iw2:=(s1.trans s2).ints iw
      refine ⟨_,rfl,_,rfl,_,rfl,rd_slice iw2 fun l3 H3 f3 i3 s3=>?_⟩
      refine ⟨_,rfl,_,rfl,_,rfl,rd_lst [x, -x] fun l4 H4 f4 i4 s4=>?_⟩
      have c3:=cutL_len ws none (some at')
      have c6:=cutL_len ws (some at') none
      refine rd_cat (s4.ints i3) i4 (by simp;omega) fun l5 H5 f5 i5 s5=>?_
      refine ⟨_,rfl,_,rfl,_,rfl,rd_slice ((s3.trans (s4.trans s5)).ints iw2) fun l6 H6 f6 i6 s6=>?_⟩
      refine rd_cat (s6.ints i5) i6 (by simp;omega) fun l7 H7 f7 i7 s7=>?_
      have s17:=s1.trans (s2.trans (s3.trans (s4.trans (s5.trans (s6.trans s7)))))
      refine ⟨_,rfl,_,rfl,_,rfl,by show 3≤sizeLine;decide,fun t ht=>?_⟩
      have st:=(Same.refl H7).upd (o:=.tup [.int a,.ref l7,.int b]) ht
      refine q t l7 a b _ _ upd_same (st.ints i7) ha hb (fun l hl'=>?_) (by simp;omega) ((s0.trans (s1.trans (s2.trans (s3.trans (s4.trans (s5.trans s6)))))).free f7) ((s0.trans s17).trans st)
      rcases List.mem_append.mp hl' with z | z
      · rcases List.mem_append.mp z with y | y
        · exact hl l (cutL_sub y)
        · rcases List.mem_cons.mp y with w | w
          · rw [w];exact lx
          · rw [List.mem_singleton.mp w];exact let_neg lx
      · exact hl l (cutL_sub z)
    · refine ⟨_,rfl,_,rfl,_,rfl,by show 3≤sizeLine;decide,fun t ht=>?_⟩
      have st:=(Same.refl G).upd (o:=.tup [.int a,.ref wa,.int b]) ht
      exact q t wa a b _ _ upd_same (st.ints iw) ha hb hl (by omega) fw (s0.trans st)
   obtain ⟨u7,hu7,kk7⟩:=r7
   have r6:∃ u:TS,PSs (cxOf CX0 P w K mg base ["_law_kinds","_law_marks","_law_rows_here","_law_draws","_law_a","_law_b","_law_way_here","_law_places","_law_table","_law_end","_law_often","_law_at","_law_one"] "_law_asked" (defScope s__law_asked) f cdv A outer s H E).nox ((defBody s__law_asked).drop 6) u∧
     ∀ (a b:Int) (wa:Addr) (ws:List Int) (x7 x8 x9 x10:Option V) (G:Hp),InM n a→InM n b→Ints G wa ws→(∀ l∈ws,Let k l)→ws.length≤150→H wa=none→Same H G→
      u { nx:=fun _ H'=>Q .non H',rt:=Q } [some (.int k),some (.int n),some (.ref lr),some (.ref ld),some (.int a),some (.int b),some (.ref wa),x7,x8,x9,x10,none,none] G:=by
    refine ⟨_,(@sC _ _ _ _ _ (ps_if (pt_cmpR op_eq (pe_op op_mod (pe_ix ix_l (pv 3) pe_int (fun _ _=>rfl)) pe_int) pe_int (nomark _)) (@sO _ _ _ (@sS _ 6 _ _ _ _ _ sc__law_asked.nd rfl (Or.inl rfl) (pe_op op_rep.wr (pv 6) (pe_op op_fdiv pe_int (pe_op op_add pe_int (pe_callB call_len_seq (by rfl) T.len PySem.boot_len (@aC _ _ _ _ _ (pv 6) pa_nil (by rfl)))))) (by rfl) (.inl rfl))) pss_nil)
    hu7),?_⟩
    intro a b wa ws x7 x8 x9 x10 G ha hb iw hl wl fw s0
    have hd0:=s0.ints hd
    refine ⟨_,rfl,rd_at 3 hd0 (by omega) ⟨_,_,rfl,rfl,(by show (0:Int) < 29;decide),rfl,_,rfl,ite2 (fun _=>?_) fun _=>kk7 a b wa ws x7 x8 x9 x10 G ha hb iw hl wl fw s0⟩⟩
    have p1:(0:Int) < 1+((ws.map V.int).length:Int):=by omega
    have e1:((ws.map V.int).length:Int)=ws.length:=by rw [List.length_map]
    have d0:0≤120 / (1+((ws.map V.int).length:Int)):=Int.ediv_nonneg (by decide) (by omega)
    have d1:(120 / (1+((ws.map V.int).length:Int))) * (1+((ws.map V.int).length:Int))≤120:=Int.ediv_mul_le _ (by omega)
    refine ⟨_,rfl,_,rfl,wa,_,rfl,.inl (SqL.of iw),_,_,rfl,rfl,_,_,rfl,rfl,⟨p1,by show 1+((ws.map V.int).length:Int) < 1073741824;omega⟩,?_⟩
    show Wr (rRep (.ref wa) (.int (120 / (1+((ws.map V.int).length:Int)))) G _)
    have mm:ws.length * (120 / (1+((ws.map V.int).length:Int))).toNat≤120:=by
     rw [e1] at d0 d1 ⊢
     obtain ⟨c,hc⟩:∃ c:Nat,120 / (1+(ws.length:Int))=(c:Int):=⟨(120 / (1+(ws.length:Int))).toNat,by omega⟩
     rw [hc] at d1 ⊢
     have:c * (1+ws.length)≤120:=by exact_mod_cast d1
     rw [Nat.mul_add,Nat.mul_one] at this
     rw [Int.toNat_natCast,Nat.mul_comm]
     omega
    have dle:120 / (1+((ws.map V.int).length:Int))≤1000:=by
     have:120 / (1+((ws.map V.int).length:Int)) * 1≤120 / (1+((ws.map V.int).length:Int)) * (1+((ws.map V.int).length:Int)):=Int.mul_le_mul_of_nonneg_left (by omega) d0
     omega
    refine rd_repI iw d0 dle (by omega) fun l1 H1 f1 i1 s1=>?_
    refine kk7 a b l1 _ x7 x8 x9 x10 H1 ha hb i1 (fun l hl'=>hl l (mem_rep hl')) ?_ (s0.free f1) (s0.trans s1)
    rw [len_rep,Nat.mul_comm];omega
   obtain ⟨u6,hu6,kk6⟩:=r6
   have r5:∃ u:TS,PSs (cxOf CX0 P w K mg base ["_law_kinds","_law_marks","_law_rows_here","_law_draws","_law_a","_law_b","_law_way_here","_law_places","_law_table","_law_end","_law_often","_law_at","_law_one"] "_law_asked" (defScope s__law_asked) f cdv A outer s H E).nox ((defBody s__law_asked).drop 5) u∧
     ∀ (a b:Int) (wa:Addr) (ws:List Int) (x7 x8 x9:Option V) (G:Hp),InM n a→InM n b→Ints G wa ws→(∀ l∈ws,Let k l)→ws.length≤25→H wa=none→Same H G→
      u { nx:=fun _ H'=>Q .non H',rt:=Q } [some (.int k),some (.int n),some (.ref lr),some (.ref ld),some (.int a),some (.int b),some (.ref wa),x7,x8,x9,none,none,none] G:=by
    refine ⟨_,(@sC _ _ _ _ _ (ps_if (pt_cmpR op_eq (pe_op op_mod (pe_ix ix_l (pv 3) pe_int (fun _ _=>rfl)) pe_int) pe_int (nomark _)) (@sC _ _ _ _ _ (@sS _ 10 _ _ _ _ _ sc__law_asked.nd rfl (Or.inl rfl) (pe_op op_fdiv pe_int (pe_op op_add pe_int (pe_op op_mul pe_int (pe_callB call_len_seq (by rfl) T.len PySem.boot_len (@aC _ _ _ _ _ (pv 6) pa_nil (by rfl)))))) (by rfl) (.inl rfl))
    (@sO _ _ _ (@sS _ 6 _ _ _ _ _ sc__law_asked.nd rfl (Or.inl rfl) (pe_op op_catW (pe_op op_rep.wr (pe_op op_catW (pv 6) (TU.pe hr (@aC _ _ _ _ _ (pv 6) pa_nil (by rfl)))) (pv 10)) (pv 6)) (by rfl) (.inl rfl)))) pss_nil)
    hu6),?_⟩
    intro a b wa ws x7 x8 x9 G ha hb iw hl wl fw s0
    have hd0:=s0.ints hd
    refine ⟨_,rfl,rd_at 3 hd0 (by omega) ⟨_,_,rfl,rfl,(by show (0:Int) < 29;decide),rfl,_,rfl,ite2 (fun _=>?_) fun _=>kk6 a b wa ws x7 x8 x9 none G ha hb iw hl (by omega) fw s0⟩⟩
    have e1:((ws.map V.int).length:Int)=ws.length:=by rw [List.length_map]
    have p1:(0:Int) < 1+2 * ((ws.map V.int).length:Int):=by omega
    refine ⟨_,rfl,wa,_,rfl,.inl (SqL.of iw),_,_,rfl,rfl,.inl ⟨by decide,by decide⟩,_,_,rfl,rfl,_,_,rfl,rfl,⟨p1,by show 1+2 * ((ws.map V.int).length:Int) < 1073741824;omega⟩,?_⟩
    show gName 10 (V.int (120 / (1+2 * ((ws.map V.int).length:Int)))) _ _ _
    have d0:0≤120 / (1+2 * ((ws.map V.int).length:Int)):=Int.ediv_nonneg (by decide) (by omega)
    have d1:(120 / (1+2 * ((ws.map V.int).length:Int))) * (1+2 * ((ws.map V.int).length:Int))≤120:=Int.ediv_mul_le _ (by omega)
    have dle:120 / (1+2 * ((ws.map V.int).length:Int))≤1000:=by
     have:120 / (1+2 * ((ws.map V.int).length:Int)) * 1≤120 / (1+2 * ((ws.map V.int).length:Int)) * (1+2 * ((ws.map V.int).length:Int)):=Int.mul_le_mul_of_nonneg_left (by omega) d0
     omega
    have mm:(2 * ws.length) * (120 / (1+2 * ((ws.map V.int).length:Int))).toNat≤120:=by
     rw [e1] at d0 d1 ⊢
     obtain ⟨c,hc⟩:∃ c:Nat,120 / (1+2 * (ws.length:Int))=(c:Int):=⟨(120 / (1+2 * (ws.length:Int))).toNat,by omega⟩
     rw [hc] at d1 ⊢
     have:c * (1+2 * ws.length)≤120:=by exact_mod_cast d1
     rw [Nat.mul_add,Nat.mul_one] at this
     rw [Int.toNat_natCast,Nat.mul_comm]
     omega
    generalize 120 / (1+2 * ((ws.map V.int).length:Int))=often at d0 dle mm
    refine ⟨_,rfl,_,rfl,wa,ws,rfl,SqL.of iw,by omega,fun l1 H1 f1 i1 s1=>?_⟩
    have tl1:=turn_len ws
    replace i1:Ints H1 l1 (turn ws):=i1
    generalize htw:turn ws=tw at i1 tl1
    have lw:(ws++tw).length=2 * ws.length:=by rw [List.length_append,tl1];omega
    refine rd_cat (s1.ints iw) i1 (by omega) fun l2 H2 f2 i2 s2=>⟨_,rfl,?_⟩
    refine rd_repI i2 d0 dle (by rw [lw];omega) fun l3 H3 f3 i3 s3=>⟨_,rfl,?_⟩
    have s13:=s1.trans (s2.trans s3)
    have l3l:((List.replicate often.toNat (ws++tw)).flatten).length≤120:=by
     rw [len_rep,lw,Nat.mul_comm];omega
    refine rd_cat i3 (s13.ints iw) (by omega) fun l4 H4 f4 i4 s4=>?_
    refine kk6 a b l4 _ x7 x8 x9 (some (.int often)) H4 ha hb i4 (fun l hl'=>?_) (by rw [List.length_append];omega) ((s0.trans s13).free f4) (s0.trans (s13.trans s4))
    rcases List.mem_append.mp hl' with z | z
    · rcases List.mem_append.mp (mem_rep z) with y | y
      · exact hl l y
      · rw [← htw] at y
        exact let_turn hl l y
    · exact hl l z
   obtain ⟨u5,hu5,kk5⟩:=r5
   have r4:∃ u:TS,PSs (cxOf CX0 P w K mg base ["_law_kinds","_law_marks","_law_rows_here","_law_draws","_law_a","_law_b","_law_way_here","_law_places","_law_table","_law_end","_law_often","_law_at","_law_one"] "_law_asked" (defScope s__law_asked) f cdv A outer s H E).nox ((defBody s__law_asked).drop 4) u∧
     ∀ (a b:Int) (wa:Addr) (ws:List Int) (G:Hp),InM n a→InM n b→Ints G wa ws→(∀ l∈ws,Let k l)→ws.length≤25→H wa=none→Same H G→
      u { nx:=fun _ H'=>Q .non H',rt:=Q } [some (.int k),some (.int n),some (.ref lr),some (.ref ld),some (.int a),some (.int b),some (.ref wa),none,none,none,none,none,none] G:=by
    refine ⟨_,(@sC _ _ _ _ _ (ps_if (pt_cmpR op_eq (pe_op op_mod (pe_ix ix_l (pv 3) pe_int (fun _ _=>rfl)) pe_int) pe_int (nomark _)) (@sC _ _ _ _ _ (ps_asg (LCH.pe hr (@aC _ _ _ _ _ (pv 0) (@aC _ _ _ _ _ (pv 1) (@aC _ _ _ _ _ (pv 2) pa_nil (by rfl)) (by rfl)) (by rfl))) (pg_tup rfl (pgs_cons (pg_name (i:=7) sc__law_asked.nd rfl (Or.inl rfl)) (pgs_cons (pg_name (i:=8) sc__law_asked.nd rfl (Or.inl rfl)) pgs_nil))))
    (@sC _ _ _ _ _ (ps_asg (RO.pe hr (@aC _ _ _ _ _ (pv 8) (@aC _ _ _ _ _ (pv 0) (@aC _ _ _ _ _ (pe_ix ix_l (pv 7) (pv 4) (fun _ _=>rfl)) (@aC _ _ _ _ _ (pe_slice sl_l (pv 3) (po_some pe_int) (po_some (pe_op op_add pe_int (pe_op op_mod (pe_ix ix_l (pv 3) pe_int (fun _ _=>rfl)) pe_int)))) pa_nil (by rfl)) (by rfl)) (by rfl)) (by rfl))) (pg_tup rfl (pgs_cons (pg_name (i:=6) sc__law_asked.nd rfl (Or.inl rfl)) (pgs_cons (pg_name (i:=9) sc__law_asked.nd rfl (Or.inl rfl)) pgs_nil))))
    (@sO _ _ _ (@sS _ 5 _ _ _ _ _ sc__law_asked.nd rfl (Or.inl rfl) (bmK K rfl (pe_bm PySem.F.plainAttrs_list PySem.F.slot_list_index PySem.F.type_list_index (idxK K rfl) (pv 7) (@aC _ _ _ _ _ (pv 9) pa_nil (by rfl)))) (by rfl) (.inl rfl))))) pss_nil)
    hu5),?_⟩
    intro a b wa ws G ha hb iw hl wl fw s0
    have hd0:=s0.ints hd
    refine ⟨_,rfl,rd_at 4 hd0 (by omega) ⟨_,_,rfl,rfl,(by show (0:Int) < 2;decide),rfl,_,rfl,ite2 (fun _=>?_) fun _=>kk5 a b wa ws none none none G ha hb iw hl wl fw s0⟩⟩
    refine ⟨_,rfl,_,rfl,_,rfl,k,n,lr,ps,rfl,tl.same s0,hps,k5,n1,n6,pl,fun p lp t as l H1 hp ip tb fL s1=>?_⟩
    refine ⟨p,_,rfl,SqT.of hp,rfl,_,_,rfl,_,_,rfl,rfl,?_⟩
    have ll:=fL.1.lab.len
    have ck:ChOk k (nC (rk l)) n (rk l) (ps.map (·.2)):=rk_chok ll (fun r hr=>by
     obtain ⟨p,hp,rfl⟩:=List.mem_map.mp hr
     exact hps p hp) fL.2
    have tok:=chT_ok ck
    have n7:=nC_rk l
    obtain ⟨a0,a1⟩:=id ha
    have cr:=ck.rng ((rk l).getD a.toNat 0) (getD_mem (by rw [rk_len,ll];omega))
    obtain ⟨c,ec⟩:∃ c:Nat,(rk l).getD a.toNat 0=(c:Int):=⟨((rk l).getD a.toNat 0).toNat,by omega⟩
    have s01:=s0.trans s1
    refine ⟨_,rfl,_,rfl,_,rfl,_,rfl,rd_at a.toNat ip (by rw [rk_len,ll];omega) ⟨_,rfl,_,rfl,_,rfl,rd_at 2 (s01.ints hd) (by omega) ⟨_,_,rfl,rfl,(by show (0:Int) < 10;decide),_,_,rfl,rfl,_,rfl,rd_slice (s01.ints hd) fun l2 H2 f2 i2 s2=>?_⟩⟩ (by omega)⟩
    have cl:(cutL ds (some 6) (some (6+ds.getD 2 0 % 10))).length≤25:=by
     obtain ⟨j,ej⟩:∃ j:Nat,ds.getD 2 0 % 10=(j:Int):=⟨(ds.getD 2 0 % 10).toNat,by have:=Int.emod_nonneg (ds.getD 2 0) (show (10:Int)≠0 by decide);omega⟩
     have:=Int.emod_lt_of_pos (ds.getD 2 0) (show (0:Int) < 10 by decide)
     rw [ej,show (6:Int)+(j:Int)=((6+j:Nat):Int) by omega,show (6:Int)=((6:Nat):Int) from rfl,cutL_ft _ _ _ (by omega),List.length_take]
     omega
    refine ⟨t,as,_,k,nC (rk l),c,l2,_,by rw [ec];rfl,tb.same s2,tok,k1,k5,by omega,by omega,i2,by omega,fun q3 lw ws' d H3 _ fw3 hq3 iw3 hl3 _ hdn wl3 s3=>?_⟩
    refine ⟨q3,_,rfl,SqT.of hq3,rfl,_,_,rfl,_,_,rfl,rfl,?_⟩
    have md:(d:Int)∈rk l:=rk_onto (fun z=>by rw [z] at ll;simp at ll;omega) hdn
    have il:=List.idxOf_lt_length_of_mem md
    rw [rk_len,ll] at il
    refine ⟨_,rfl,.inl ⟨rfl,_,SqL.of ((s2.trans s3).ints ip)⟩,_,rfl,?_⟩
    unfold tNil
    refine rd_idx (K:=K) ((s2.trans s3).ints ip) md ?_
    exact kk5 a _ lw ws' _ _ _ H3 ha ⟨by omega,by omega⟩ iw3 hl3 (by omega) ((s01.trans s2).free fw3) (s01.trans (s2.trans s3))
   obtain ⟨u4,hu4,kk4⟩:=r4
   refine ⟨_,(@sC _ _ _ _ _ (@sS _ 4 _ _ _ _ _ sc__law_asked.nd rfl (Or.inl rfl) (pe_op op_mod (pe_ix ix_l (pv 3) pe_int (fun _ _=>rfl)) (pv 1)) (by rfl) (.inl rfl))
    (@sC _ _ _ _ _ (@sS _ 5 _ _ _ _ _ sc__law_asked.nd rfl (Or.inl rfl) (pe_op op_mod (pe_ix ix_l (pv 3) pe_int (fun _ _=>rfl)) (pv 1)) (by rfl) (.inl rfl))
    (@sC _ _ _ _ _ (@sS _ 6 _ _ _ _ _ sc__law_asked.nd rfl (Or.inl rfl) (WA.pe hr (@aC _ _ _ _ _ (pe_slice sl_l (pv 3) (po_some pe_int) (po_some (pe_op op_add pe_int (pe_op op_mod (pe_ix ix_l (pv 3) pe_int (fun _ _=>rfl)) pe_int)))) (@aC _ _ _ _ _ (pv 0) pa_nil (by rfl)) (by rfl))) (by rfl) (.inl rfl))
    (@sC _ _ _ _ _ (ps_if (pt_cmpR op_eq (pe_op op_mod (pe_ix ix_l (pv 3) pe_int (fun _ _=>rfl)) pe_int) pe_int (nomark _)) (@sO _ _ _ (@sS _ 6 _ _ _ _ _ sc__law_asked.nd rfl (Or.inl rfl) (WA.pe hr (@aC _ _ _ _ _ (pe_slice sl_l (pv 3) (po_some pe_int) (po_some (pe_op op_add pe_int (pe_op op_mod (pe_ix ix_l (pv 3) pe_int (fun _ _=>rfl)) pe_int)))) (@aC _ _ _ _ _ (pv 0) pa_nil (by rfl)) (by rfl))) (by rfl) (.inl rfl))) pss_nil)
    hu4)))),?_⟩
   have m:=fun (x:Int)=>(⟨Int.emod_nonneg x (show (n:Int)≠0 by omega),Int.emod_lt_of_pos x np⟩:InM n (x % (n:Int)))
   have mod:∀ (x:Int) (c:Nat),0 < c→∃ j:Nat,x % (c:Int)=(j:Int)∧j < c:=fun x c h=>by
    have a0:=Int.emod_nonneg x (show (c:Int)≠0 by omega)
    have a1:=Int.emod_lt_of_pos x (show (0:Int) < c by omega)
    exact ⟨(x % (c:Int)).toNat,by omega,by omega⟩
   have cl:∀ j:Nat,j≤25→(cutL ds (some 6) (some (6+(j:Int)))).length≤25:=fun j hj=>by
    rw [show (6:Int)+(j:Int)=((6+j:Nat):Int) by omega,show (6:Int)=((6:Nat):Int) from rfl,cutL_ft _ _ _ (by omega),List.length_take]
    omega
   obtain ⟨j1,e1,hj1⟩:=mod (ds.getD 2 0) 10 (by decide)
   obtain ⟨j2,e2,hj2⟩:=mod (ds.getD 2 0) 26 (by decide)
   have c1:(cutL ds (some 6) (some (6+ds.getD 2 0 % 10))).length≤25:=by rw [show ds.getD 2 0 % 10=(j1:Int) from e1];exact cl j1 (by omega)
   have c2:(cutL ds (some 6) (some (6+ds.getD 2 0 % 26))).length≤25:=by rw [show ds.getD 2 0 % 26=(j2:Int) from e2];exact cl j2 (by omega)
   refine ⟨_,rfl,rd_at 0 hd (by omega) ⟨_,rfl,_,_,rfl,rfl,np,?_⟩⟩
   refine ⟨_,rfl,rd_at 1 hd (by omega) ⟨_,rfl,_,_,rfl,rfl,np,?_⟩⟩
   refine ⟨_,rfl,_,rfl,_,rfl,rd_at 2 hd (by omega) ⟨_,_,rfl,rfl,(by show (0:Int) < 10;decide),_,_,rfl,rfl,_,rfl,rd_slice hd fun l1 H1 f1 i1 s1=>?_⟩⟩
   refine ⟨_,rfl,l1,_,(k:Int),rfl,SqL.of i1,by omega,by omega,by omega,fun l2 H2 f2 i2 s2=>?_⟩
   have s02:=s1.trans s2
   refine ⟨_,rfl,rd_at 3 (s02.ints hd) (by omega) ⟨_,_,rfl,rfl,(by show (0:Int) < 7;decide),rfl,_,rfl,ite2 (fun _=>?_) fun _=>?_⟩⟩
   · refine ⟨_,rfl,_,rfl,_,rfl,rd_at 2 (s02.ints hd) (by omega) ⟨_,_,rfl,rfl,(by show (0:Int) < 26;decide),_,_,rfl,rfl,_,rfl,rd_slice (s02.ints hd) fun l3 H3 f3 i3 s3=>?_⟩⟩
     refine ⟨_,rfl,l3,_,(k:Int),rfl,SqL.of i3,by omega,by omega,by omega,fun l4 H4 f4 i4 s4=>?_⟩
     exact kk4 _ _ l4 _ H4 (m _) (m _) i4 (way_Let k1 _) (by rw [List.length_map];exact c2) ((s02.trans s3).free f4) (s02.trans (s3.trans s4))
   · exact kk4 _ _ l2 _ H2 (m _) (m _) i2 (way_Let k1 _) (by rw [List.length_map];exact c1) (s1.free f2) s02
theorem sc__law_mixed:FnScope ["_law_many","_law_draws","_law_left","_law_row","_law_k"] ["_law_many","_law_draws"] (defScope s__law_mixed):=scm
theorem ok_mixed {f:Addr}{fd:FuncData} (F:Fun K "_law_mixed" "_law_mixed" s__law_mixed f fd) (T:Txt K mg):FnOk P w K mg base CX0 1 f fd ["_law_many","_law_draws"] spMixed:=by
 refine F.ok sc__law_mixed (fun vs H Q E h=>?_) (fun cdv A outer s H vs Q E hr h=>?_)
 · obtain ⟨n,ld,ds,rfl,_⟩:=h
   rfl
 · obtain ⟨n,ld,ds,rfl,hd,n7,hl,q⟩:=h
   refine ⟨_,(@sC _ _ _ _ _ (@sS _ 2 _ _ _ _ _ sc__law_mixed.nd rfl (Or.inl rfl) (pe_callTy (call_listRng rfl) rfl T.list bt_list (pa_cons (pe_rng rfl T.range (@aC _ _ _ _ _ (pv 0) pa_nil (by rfl))) pa_nil)) (by rfl) (.inl rfl))
    (@sC _ _ _ _ _ (@sS _ 3 _ _ _ _ _ sc__law_mixed.nd rfl (Or.inl rfl) (pe_lstW pa_nil) (by rfl) (.inl rfl))
    (@sC _ _ _ _ _ (ps_for PassesOwn.never rfl (pi_range1 rfl T.range (@aC _ _ _ _ _ (pv 0) pa_nil (by rfl))) (pg_name (i:=4) sc__law_mixed.nd rfl (Or.inl rfl)) (@sO _ _ _ (ps_expr (pe_bm PySem.F.plainAttrs_list PySem.F.slot_list_append PySem.F.type_list_append mt_append (pv 3) (@aC _ _ _ _ _ (pe_bm PySem.F.plainAttrs_list PySem.F.slot_list_pop PySem.F.type_list_pop mt_popAt (pv 2) (@aC _ _ _ _ _ (pe_op op_mod (pe_ix ix_l (pv 1) (pv 4) (fun _ _=>rfl)) (pe_callB call_len_seq (by rfl) T.len PySem.boot_len (@aC _ _ _ _ _ (pv 2) pa_nil (by rfl)))) pa_nil (by rfl))) pa_nil (by rfl))))))
    (@sO _ _ _ (@sR _ _ _ _ (pv 3)))))),?_⟩
   refine ⟨_,rfl,_,rfl,fun r hr0=>rd_range (K:=K) upd_same (by omega) fun lf H3 hlf il s3=>?_⟩
   have s23:Same H H3:=((Same.refl H).upd hr0).trans s3
   have hlf2:H lf=none:=by
    have:=hlf
    by_cases z:lf=r
    · rw [z];exact hr0
    · rwa [upd_ne z] at this
   refine rd_lstV (by simp) fun en H4 hen ie s4=>?_
   have hen2:H en=none:=s23.free hen
   have nle:lf≠en:=fun z=>by rw [z] at il;rw [show H3 en=_ from il] at hen;cases hen
   refine ⟨_,rfl,_,rfl,by omega,by omega,for_range (lo:=0) (n:=(n:Int).toNat) (fun c σ H5=>∃ (left ends:List Int) (y7:Option V),σ=[some (.int n),some (.ref ld),some (.ref lf),some (.ref en),y7]∧Same H H5∧Ints H5 lf left∧Ints H5 en ends∧ends.length=c∧MidP n c left ends)
    ⟨lab0 n,[],_,rfl,s23.trans s4,s4.ints il,ie,rfl,MidP.zero n⟩ ?_ ?_⟩
   · rintro c σ H5 hc ⟨left,ends,y7,rfl,s5,i5,e5,lc,md⟩
     have hc:c < n:=by omega
     have h5:=s5.ints hd
     have ll:=md.len
     have e1:((left.map V.int).length:Int)=((n - c:Nat):Int):=by rw [List.length_map,ll]
     refine ⟨_,rfl,.inl ⟨rfl,_,SqL.of e5⟩,_,rfl,.inl ⟨rfl,_,SqL.of i5⟩,_,rfl,_,rfl,rd_at c h5 (by omega) ?_ (by omega)⟩
     generalize ds.getD c 0=d
     have m0:=Int.emod_nonneg d (show ((n - c:Nat):Int)≠0 by omega)
     have m1:=Int.emod_lt_of_pos d (show (0:Int) < ((n - c:Nat):Int) by omega)
     obtain ⟨m,em⟩:∃ m:Nat,d % ((n - c:Nat):Int)=(m:Int):=⟨(d % ((n - c:Nat):Int)).toNat,by omega⟩
     have hm:m < left.length:=by omega
     have ix:ixN (left.map V.int).length (m:Int)=some m:=by
      unfold ixN
      rw [if_pos (by omega),if_pos (by rw [List.length_map];omega)];rfl
     refine ⟨_,rfl,lf,_,rfl,.inl (SqL.of i5),_,_,rfl,rfl,by rw [e1];omega,lf,_,_,m,.int left[m],rfl,rfl,i5,?_,?_,?_,?_,?_⟩
     · rw [e1,em];omega
     · rw [e1,em];have:=(ixN_seq ix).2.2.2;rw [List.length_map] at this;omega
     · rw [e1,em];exact (ixN_seq ix).1
     · simp [hm]
     have il6:Ints (upd H5 lf (.lst ((left.map V.int).eraseIdx m))) lf (left.eraseIdx m):=by
      show upd _ _ _ _=_
      rw [upd_same,map_eraseIdx]
     have ie6:Ints (upd H5 lf (.lst ((left.map V.int).eraseIdx m))) en ends:=e5.other nle.symm
     have s6:Same H (upd H5 lf (.lst ((left.map V.int).eraseIdx m))):=s5.upd hlf2
     generalize upd H5 lf (.lst ((left.map V.int).eraseIdx m))=H6 at il6 ie6 s6
     refine ⟨en,_,_,rfl,rfl,ie6,small4k (by rw [List.length_map];omega),?_⟩
     refine ⟨_,_,_,rfl,s6.upd hen2,il6.other nle,Ints.snoc,by simp [lc],md.step hm⟩
   · rintro σ H5 ⟨left,ends,y7,rfl,s5,i5,e5,lc,md⟩
     rw [Int.toNat_natCast] at md
     exact ⟨_,rfl,q en ends H5 hen2 e5 md.done s5⟩
theorem sc__law_renamed:FnScope ["_law_entry_here","_law_names"] ["_law_entry_here","_law_names"] (defScope s__law_renamed):=scm
theorem ok_renamed {f:Addr}{fd:FuncData} (F:Fun K "_law_renamed" "_law_renamed" s__law_renamed f fd):FnOk P w K mg base CX0 1 f fd ["_law_entry_here","_law_names"] spRenamed:=by
 refine F.ok sc__law_renamed (fun vs H Q E h=>?_) (fun cdv A outer s H vs Q E hr h=>?_)
 · obtain ⟨k,n,t,ln,e,ns,rfl,_⟩:=h
   rfl
 · obtain ⟨k,n,t,ln,e,ns,rfl,ht,hn,eok,pm,q⟩:=h
   refine ⟨_,(@sC _ _ _ _ _ (ps_if (pt_cmpR op_eq (pe_ix ix_t (pv 0) pe_int (fun _ _=>rfl)) pe_str (nomark _)) (@sO _ _ _ (@sR _ _ _ _ (pe_tup (@aC _ _ _ _ _ pe_str (@aC _ _ _ _ _ (pe_ix ix_l (pv 1) (pe_ix ix_t (pv 0) pe_int (fun _ _=>rfl)) (fun _ _=>rfl)) (@aC _ _ _ _ _ (pe_ix ix_t (pv 0) pe_int (fun _ _=>rfl)) (@aC _ _ _ _ _ (pe_ix ix_l (pv 1) (pe_ix ix_t (pv 0) pe_int (fun _ _=>rfl)) (fun _ _=>rfl)) pa_nil (by rfl)) (by rfl)) (by rfl)) (by rfl))))) pss_nil)
    (@sO _ _ _ (@sR _ _ _ _ (pe_tup (@aC _ _ _ _ _ pe_str (@aC _ _ _ _ _ (pe_ix ix_l (pv 1) (pe_ix ix_t (pv 0) pe_int (fun _ _=>rfl)) (fun _ _=>rfl)) (@aC _ _ _ _ _ (pe_ix ix_l (pv 1) (pe_ix ix_t (pv 0) pe_int (fun _ _=>rfl)) (fun _ _=>rfl)) pa_nil (by rfl)) (by rfl)) (by rfl)))))),?_⟩
   have nl:ns.length=n:=by rw [pm.length_eq,lab0_len]
   cases e with
   | row i a kd b=>
    obtain ⟨ha,hk,hb⟩:=eok
    have a1:=nms_at pm ha
    have b1:=nms_at pm hb
    obtain ⟨a0,a2⟩:=ha
    obtain ⟨b0,b2⟩:=hb
    refine ⟨_,rfl,rd_tupAt ht rfl ⟨rfl,_,rfl,iteTe (by decide+kernel) ?_⟩⟩
    refine ⟨_,rfl,_,rfl,rd_tupAt ht rfl (rd_at a.toNat hn (by omega) ⟨_,rfl,rd_tupAt ht rfl ⟨_,rfl,_,rfl,rd_tupAt ht rfl (rd_at b.toNat hn (by omega) ?_ (by omega))⟩⟩ (by omega))⟩
    refine ⟨show 4≤sizeLine from by decide,fun p hp=>q p _ ?_ ((Same.refl H).upd hp)⟩
    rw [upd_same,a1,b1];rfl
   | ap i a b=>
    obtain ⟨ha,hb⟩:=eok
    have a1:=nms_at pm ha
    have b1:=nms_at pm hb
    obtain ⟨a0,a2⟩:=ha
    obtain ⟨b0,b2⟩:=hb
    refine ⟨_,rfl,rd_tupAt ht rfl ⟨rfl,_,rfl,iteFe (by decide+kernel) ?_⟩⟩
    refine ⟨_,rfl,_,rfl,rd_tupAt ht rfl (rd_at a.toNat hn (by omega) ⟨_,rfl,_,rfl,rd_tupAt ht rfl (rd_at b.toNat hn (by omega) ?_ (by omega))⟩ (by omega))⟩
    refine ⟨show 3≤sizeLine from by decide,fun p hp=>q p _ ?_ ((Same.refl H).upd hp)⟩
    rw [upd_same,a1,b1];rfl
end
section
variable {P:Program}{w:World}{K:PySem.W.Frag}{mg:Str→Option Value}{base:Heap}
theorem sc_law:FnScope ["_law_script","_law_numbers_here","_law_kinds","_law_marks","_law_many","_law_book_here","_law_standing","_law_rows_here","_law_a","_law_way_here","_law_b","_law_names","_law_other","_law_k","_law_e"] ["_law_script"] (defScope s_law):=scm
theorem ok_law {f C Cc cF cM cK cN:Addr}{fd:FuncData} (F:Fun K "law" "law" s_law f fd) (T:Txt K mg) (N:Rdy P w K mg base "_law_numbers" ["_law_script","_law_many"] 1 (spNumL K)) (SV:Rdk P w K mg base C "Survey" ["self","kinds"] 1 (spSInit C)) (LB:Rdy P w K mg base "_law_book" ["_law_book_here","_law_kinds","_law_marks","_law_many","_law_draws"] 12 (spBook C))
  (LR:Rdy P w K mg base "_law_rows" ["_law_standing"] 1 spRowsOf) (AS:Rdy P w K mg base "_law_asked" ["_law_kinds","_law_marks","_law_rows_here","_law_draws"] 4 spAsked49) (MX:Rdy P w K mg base "_law_mixed" ["_law_many","_law_draws"] 1 spMixed) (RNM:Rdy P w K mg base "_law_renamed" ["_law_entry_here","_law_names"] 1 spRenamed) (CHK:Rdmx P w K mg base C "chalk" ["self"] 1 (spChalkX C cF)) (LEN:Rdy P w K mg base "_law_entered" ["_law_book_here","_law_entry_here"] 11 (spEntered C))
  (SM:Rdmx P w K mg base C "same" ["self","a","b"] 9 (spSameX C cM)) (JDG:Rdmx P w K mg base C "judge" ["self","a","way","b"] 8 (spJudge C cM cK)) (PIE:Rdmx P w K mg base C "piece" ["self","a"] 9 (spPieceX C Cc cN)) (TB:Rdm P w K mg base Cc "table" ["self"] 2 (spTabl Cc)) (ETS:Rdm P w K mg base C "entries" ["self"] 1 (spEntries C)):
  FnOk P w K mg base CX0 14 f fd ["_law_script"] (spLaw K):=by
 refine F.ok sc_law (fun vs H Q E h=>?_) (fun cdv A outer s H vs Q E hr h=>?_)
 · obtain ⟨a,ns,rfl,_⟩:=h
   rfl
 · obtain ⟨sc,ns,rfl,hS,hn,kk⟩:=h
   have hu:=hr.units
   have rest5:∃ u:TS,PSs (cxOf CX0 P w K mg base ["_law_script","_law_numbers_here","_law_kinds","_law_marks","_law_many","_law_book_here","_law_standing","_law_rows_here","_law_a","_law_way_here","_law_b","_law_names","_law_other","_law_k","_law_e"] "law" (defScope s_law) f cdv A outer s H E).nox ((defBody s_law).drop 5) u∧
     ∀ (l0:Addr) (ms:List Int) (k m many:Nat) (G:Hp),Ints G l0 ms→ms.length=200→1≤k→k≤5→m≤24→many≤40→u { nx:=fun _ H'=>Q .non H',rt:=Q } [some (.ref sc),some (.ref l0),some (.int k),some (.int m),some (.int many),none,none,none,none,none,none,none,none,none,none] G:=by
    refine ⟨_,(@sC _ _ _ _ _ (@sS _ 5 _ _ _ _ _ sc_law.nd rfl (Or.inl rfl) (SV.pe hr (@aC _ _ _ _ _ (pv 2) pa_nil (by rfl))) (by rfl) (.inl rfl))
    (@sC _ _ _ _ _ (@sS _ 6 _ _ _ _ _ sc_law.nd rfl (Or.inl rfl) (LB.pe hr (@aC _ _ _ _ _ (pv 5) (@aC _ _ _ _ _ (pv 2) (@aC _ _ _ _ _ (pv 3) (@aC _ _ _ _ _ (pv 4) (@aC _ _ _ _ _ (pe_slice sl_l (pv 1) (po_some pe_int) po_none) pa_nil (by rfl)) (by rfl)) (by rfl)) (by rfl)) (by rfl))) (by rfl) (.inl rfl))
    (@sC _ _ _ _ _ (ps_if (pt_cmpR op_eq (pv 3) pe_int (nomark _)) (@sO _ _ _ (@sR _ _ _ _ (pe_cmpR (op_eqIs hu) (ETS.pe0 hr (pv 5)) (pe_lstW pa_nil) (nomark _)))) pss_nil)
    (@sC _ _ _ _ _ (@sS _ 7 _ _ _ _ _ sc_law.nd rfl (Or.inl rfl) (LR.pe hr (@aC _ _ _ _ _ (pv 6) pa_nil (by rfl))) (by rfl) (.inl rfl))
    (@sC _ _ _ _ _ (ps_asg (AS.pe hr (@aC _ _ _ _ _ (pv 2) (@aC _ _ _ _ _ (pv 3) (@aC _ _ _ _ _ (pv 7) (@aC _ _ _ _ _ (pe_slice sl_l (pv 1) (po_some pe_int) (po_some pe_int)) pa_nil (by rfl)) (by rfl)) (by rfl)) (by rfl))) (pg_tup rfl (pgs_cons (pg_name (i:=8) sc_law.nd rfl (Or.inl rfl)) (pgs_cons (pg_name (i:=9) sc_law.nd rfl (Or.inl rfl)) (pgs_cons (pg_name (i:=10) sc_law.nd rfl (Or.inl rfl)) pgs_nil)))))
    (@sC _ _ _ _ _ (@sS _ 11 _ _ _ _ _ sc_law.nd rfl (Or.inl rfl) (MX.pe hr (@aC _ _ _ _ _ (pv 3) (@aC _ _ _ _ _ (pe_slice sl_l (pv 1) (po_some pe_int) po_none) pa_nil (by rfl)) (by rfl))) (by rfl) (.inl rfl))
    (@sC _ _ _ _ _ (@sS _ 12 _ _ _ _ _ sc_law.nd rfl (Or.inl rfl) (SV.pe hr (@aC _ _ _ _ _ (pv 2) pa_nil (by rfl))) (by rfl) (.inl rfl))
    (@sC _ _ _ _ _ (ps_for PassesOwn.never rfl (pi_range1 rfl T.range (@aC _ _ _ _ _ (pv 3) pa_nil (by rfl))) (pg_name (i:=13) sc_law.nd rfl (Or.inl rfl)) (@sO _ _ _ (ps_expr (CHK.pz0 hr (pv 12)))))
    (@sC _ _ _ _ _ (ps_for PassesOwn.never rfl (pi_list (pv 6)) (pg_name (i:=14) sc_law.nd rfl (Or.inl rfl)) (@sO _ _ _ (ps_if (pt_cmpR op_isN (LEN.pe hr (@aC _ _ _ _ _ (pv 12) (@aC _ _ _ _ _ (RNM.pe hr (@aC _ _ _ _ _ (pe_slice sl_tup (pv 14) (po_some pe_int) po_none) (@aC _ _ _ _ _ (pv 11) pa_nil (by rfl)) (by rfl))) pa_nil (by rfl)) (by rfl))) pe_non (nomark _)) (@sO _ _ _ (@sR _ _ _ _ pe_bl)) pss_nil)))
    (@sC _ _ _ _ _ (ps_for PassesOwn.never rfl (pi_range1 rfl T.range (@aC _ _ _ _ _ (pv 3) pa_nil (by rfl))) (pg_name (i:=13) sc_law.nd rfl (Or.inl rfl)) (@sO _ _ _ (ps_if (pt_cmpR op_ne (SM.pe0 hr (pv 12) (@aC _ _ _ _ _ (pe_ix ix_l (pv 11) (pv 13) (fun _ _=>rfl)) (@aC _ _ _ _ _ (pe_ix ix_l (pv 11) (pv 10) (fun _ _=>rfl)) pa_nil (by rfl)) (by rfl))) (SM.pe0 hr (pv 5) (@aC _ _ _ _ _ (pv 13) (@aC _ _ _ _ _ (pv 10) pa_nil (by rfl)) (by rfl))) (nomark _)) (@sO _ _ _ (@sR _ _ _ _ pe_bl)) pss_nil)))
    (@sC _ _ _ _ _ (ps_if (pt_cmpR op_ne (JDG.pe0 hr (pv 12) (@aC _ _ _ _ _ (pe_ix ix_l (pv 11) (pv 8) (fun _ _=>rfl)) (@aC _ _ _ _ _ (pv 9) (@aC _ _ _ _ _ (pe_ix ix_l (pv 11) (pv 10) (fun _ _=>rfl)) pa_nil (by rfl)) (by rfl)) (by rfl))) (JDG.pe0 hr (pv 5) (@aC _ _ _ _ _ (pv 8) (@aC _ _ _ _ _ (pv 9) (@aC _ _ _ _ _ (pv 10) pa_nil (by rfl)) (by rfl)) (by rfl))) (nomark _)) (@sO _ _ _ (@sR _ _ _ _ pe_bl)) pss_nil)
    (@sO _ _ _ (@sR _ _ _ _ (pe_cmpR (op_eqD hu) (TB.pe0 hr (PIE.pe0 hr (pv 12) (@aC _ _ _ _ _ (pe_ix ix_l (pv 11) (pv 8) (fun _ _=>rfl)) pa_nil (by rfl)))) (TB.pe0 hr (PIE.pe0 hr (pv 5) (@aC _ _ _ _ _ (pv 8) pa_nil (by rfl)))) (nomark _))))))))))))))),?_⟩
    intro l0 ms k m many G h0 hm k1 k5 m24 my40
    refine ⟨_,rfl,fun g dx ng ndx neg=>?_⟩
    have sx:Same G (upd (upd G dx (.own g)) g (.ins C dx [])):=((Same.refl G).upd ndx).upd ng
    refine ⟨g,dx,k,rfl,upd_same,k1,k5,fun H1 lh rest hB1 flh frest kp1=>⟨rfl,?_⟩⟩
    have s1:Same G H1:=fun b o e=>kp1 b o (sx b o e) fun z=>by rw [z,ng] at e;cases e
    have h1:=s1.ints h0
    refine ⟨_,rfl,_,rfl,_,rfl,_,rfl,_,rfl,_,rfl,rd_slice h1 fun ld H2 hld id2 s2=>?_⟩
    have dr:(cutL ms (some 60) none).length=140:=by rw [show (60:Int)=((60:Nat):Int) from rfl,cutL_from,List.length_drop,hm]
    refine ⟨g,lh,rest,k,m,many,ld,_,rfl,hB1.same s2,m24,my40,id2,by rw [dr];omega,fun l fl' B rest3 H3 hB3 bk bn bh be bc bnu el3 hl nl ngf nlf nw fr kp3=>?_⟩
    subst bk bn
    have g0:l0≠g:=fun z=>by rw [← z] at ng;rw [show G l0=_ from h0] at ng;cases ng
    have h3:Ints H3 l0 ms:=kp3 _ _ (s2.ints h1) g0
    have e40:=hB3.e40
    obtain ⟨dx3,ls3,hg3,_⟩:=id hB3.ob
    refine ⟨_,rfl,rfl,_,rfl,ite2 (fun z=>?_) fun z=>?_⟩
    · have z:B.n=0:=by have:=V.int.inj (of_decide_eq_true z);omega
      refine ⟨_,rfl,g,dx3,_,rfl,hg3,rfl,g,lh,B,rest3,rfl,hB3,fun p H4 hp el4 s4=>rd_lst [] fun l0 H5 hl0 i0 s5=>rd_same (ns:=[]) (s5 _ _ ?_) i0 rfl (kk _)⟩
      have:B.es=[]:=List.eq_nil_iff_forall_not_mem.mpr fun e he=>by
       have:=hB3.ok e he
       cases e with
       | row i a kd b=>obtain ⟨⟨_,_⟩,_⟩:=this;omega
       | ap i a b=>obtain ⟨⟨_,_⟩,_⟩:=this;omega
      obtain ⟨ps,e1,_,e3,_⟩:=el4.ob
      rw [this] at e3
      rw [e1,List.map_eq_nil_iff.mp e3];rfl
    have m1:1≤B.n:=by
     have z:¬ (B.n:Int)=0:=fun w=>z (decide_eq_true (by rw [w]))
     omega
    refine ⟨_,rfl,l,fl',B.es,rfl,el3,by omega,fun r ps H4 hr4 tl er s4=>?_⟩
    have okk:=rowsOf_okk hB3.ok
    have rlen:=rowsOf_len B.es
    have pl:=rows_len er
    have h4:=s4.ints h3
    refine ⟨_,rfl,_,rfl,_,rfl,_,rfl,_,rfl,_,rfl,rd_slice h4 fun lq H5 hlq iq s5=>?_⟩
    have ql:(cutL ms (some 20) (some 60)).length=40:=by
     rw [show (60:Int)=((60:Nat):Int) from rfl,show (20:Int)=((20:Nat):Int) from rfl,cutL_ft _ _ _ (by decide),List.length_take,List.length_drop,hm];decide
    refine ⟨B.k,B.n,r,lq,ps,_,rfl,tl.same s5,fun p hp=>rows_all er okk p hp,iq,ql,k1,k5,m1,by omega,by omega,fun t wa a b ws H6 ht iw ha hb hl' wl _ s6=>?_⟩
    refine ⟨t,_,rfl,SqT.of ht,rfl,_,_,rfl,_,_,rfl,_,_,rfl,rfl,?_⟩
    have s36:=s4.trans (s5.trans s6)
    have nz:=lets_nz hl'
    refine ⟨_,rfl,_,rfl,_,rfl,rd_slice (s36.ints h3) fun lz H7 hlz iz s7=>?_⟩
    have zl:(cutL ms (some 70) none).length=130:=by rw [show (70:Int)=((70:Nat):Int) from rfl,cutL_from,List.length_drop,hm]
    refine ⟨B.n,lz,_,rfl,iz,by omega,by rw [zl];omega,fun nn ns H8 hnn in8 pm s8=>?_⟩
    have NP:=nms_of pm
    have nl8:ns.length=B.n:=by rw [pm.length_eq,lab0_len]
    have s38:=s36.trans (s7.trans s8)
    refine ⟨_,rfl,fun g2 dx2 ng2 ndx2 neg2=>?_⟩
    have sx2:Same H8 (upd (upd H8 dx2 (.own g2)) g2 (.ins C dx2 [])):=((Same.refl H8).upd ndx2).upd ng2
    refine ⟨g2,dx2,B.k,rfl,upd_same,k1,k5,fun H9 lh2 rest2 hD9 flh2 frest2 kp9=>⟨rfl,?_⟩⟩
    have s89:Same H8 H9:=fun b o e=>kp9 b o (sx2 b o e) fun z=>by rw [z,ng2] at e;cases e
    have s39:=s38.trans s89
    have oth:∀ {G':Hp}{x:Addr}{o:HO},Kp g2 H9 G'→H8 x=some o→G' x=some o:=fun kp e=>kp _ _ (s89 _ _ e) fun z=>by rw [z,ng2] at e;cases e
    have hB8:=hB3.same s38
    have bAt:∀ {G':Hp},Kp g2 H9 G'→BkAt C G' g lh B rest3:=fun kp=>hB8.on fun x _ o e=>oth kp e
    have m0:(0:Int)≤B.n:=by omega
    refine ⟨_,rfl,_,rfl,by omega,by omega,for_range (lo:=0) (n:=(B.n:Int).toNat) (fun i σ Hx=>(∃ x,σ=[some (.ref sc),some (.ref l0),some (.int B.k),some (.int B.n),some (.int many),some (.ref g),some (.ref l),some (.ref r),some (.int a),some (.ref wa),some (.int b),some (.ref nn),some (.ref g2),x,none])∧BkAt C Hx g2 lh2 ⟨B.k,i,[],1,[]⟩ rest2∧Kp g2 H9 Hx) ⟨⟨none,rfl⟩,hD9,Kp.of (Same.refl H9)⟩ ?_ ?_⟩
    · rintro i σ Hx hi ⟨⟨x,rfl⟩,hD,kp⟩
      obtain ⟨dy,ly,hy,_⟩:=id hD.ob
      exact ⟨_,rfl,g2,dy,_,rfl,hy,rfl,g2,lh2,_,rest2,rfl,hD,fun _ H3 hB3 kp3=>⟨⟨_,rfl⟩,hB3,kp.trans kp3⟩,fun z=>absurd (show i < 24 by omega) z⟩
    rintro σ HA ⟨⟨x,rfl⟩,hDA,kpA⟩
    rw [Int.toNat_natCast] at hDA
    have elA:=el3.on fun x _ o e=>oth kpA (s38 x o e)
    obtain ⟨qs,q1,q2,q3,_⟩:=id elA.ob
    have ql3:qs.length=B.es.length:=by rw [← q3,List.length_map]
    refine ⟨_,rfl,l,rfl,⟨_,SqL.of q1⟩,for_list (K:=K) (a:=l) (xs:=qs.map fun q=>V.ref q.1) (fun i σ Hx=>∃ (x13 x14:Option V) (restx:List Addr) (cx:Int),σ=[some (.ref sc),some (.ref l0),some (.int B.k),some (.int B.n),some (.int many),some (.ref g),some (.ref l),some (.ref r),some (.int a),some (.ref wa),some (.int b),some (.ref nn),some (.ref g2),x13,x14]∧BkAt C Hx g2 lh2 ⟨B.k,B.n,(B.es.take i).map (renE (nmP ns)),cx,[]⟩ restx∧cx=(i:Int)+1∧i≤B.es.length∧Kp g2 HA Hx) ⟨_,_,_,_,rfl,hDA,rfl,Nat.zero_le _,Kp.of (Same.refl HA)⟩ (fun i σ Hx _ ⟨_,_,_,_,_,_,_,_,kp⟩=>SqL.of (kp _ _ q1 fun z=>by
     obtain ⟨dy,ly,hy,_⟩:=id hDA.ob
     rw [← z,q1] at hy;cases hy)) ?_ ?_⟩
    · rintro i y σ Hx hi ⟨x13,x14,restx,cx,rfl,hD,rfl,li,kp⟩
      obtain ⟨hi1,hi2⟩:=List.getElem?_eq_some_iff.mp hi
      rw [List.length_map] at hi1
      have hie:i < B.es.length:=by omega
      obtain ⟨te,e,eq1⟩:∃ te e,qs[i]=(te,e):=⟨_,_,rfl⟩
      have hy:y=.ref te:=by rw [← hi2,List.getElem_map,eq1]
      have ee:B.es[i]=e:=by
       have:(qs.map (·.2))[i]?=some e:=by simp [hi1,eq1]
       rw [q3] at this
       exact (List.getElem?_eq_some_iff.mp this).2
      subst hy
      have kpx:=kpA.trans kp
      have em:e∈B.es:=ee▸List.getElem_mem hie
      have eok:=hB3.ok e em
      have hte:Hx te=some (.tup e.vs):=kp _ _ (q2 (te,e) (by rw [← eq1];exact List.getElem_mem hi1)) fun z=>by
       have h:=q2 _ (show (te,e)∈qs by rw [← eq1];exact List.getElem_mem hi1)
       obtain ⟨dy,ly,hy,_⟩:=id hDA.ob
       rw [← z,show HA te=_ from h] at hy;cases hy
      have iN:Ints Hx nn ns:=oth kpx in8
      have eno:=bnu.at_ i e (by rw [List.getElem?_eq_getElem hie,ee])
      have lo:(B.es.take i).length=i:=by rw [List.length_take];omega
      have eB:(B.es.take i).map (renE (nmP ns))++[(renE (nmP ns) e).re ((i:Int)+1)]=(B.es.take (i+1)).map (renE (nmP ns)):=by
       rw [← eno,ren_re,List.take_succ_eq_append_getElem hie,List.map_append,ee];rfl
      refine ⟨_,rfl,_,rfl,_,rfl,te,_,rfl,SqT.of hte,fun z=>by cases e <;> exact absurd (show (1:Nat)=0 from z.1) (by decide),fun p1 hp1=>?_⟩
      have sp1:Same Hx (upd Hx p1 (.tup (cutV e.vs (some 1) none))):=(Same.refl Hx).upd hp1
      have ht1:upd Hx p1 (.tup (cutV e.vs (some 1) none)) p1=some (.tup e.told):=by rw [upd_same];cases e <;> rfl
      generalize upd Hx p1 (.tup (cutV e.vs (some 1) none))=Hy at sp1 ht1
      refine ⟨_,rfl,B.k,B.n,p1,nn,e,ns,rfl,ht1,sp1.ints iN,eok,pm,fun t' Hz ht' sz=>?_⟩
      have sxz:=sp1.trans sz
      have nb:¬ (⟨B.k,B.n,(B.es.take i).map (renE (nmP ns)),(i:Int)+1,[]⟩:Bk).bars (renE (nmP ns) e):=by
       refine not_bars ?_
       show ConsE B.n ((B.es.take i).map (renE (nmP ns))++[(renE (nmP ns) e).re ((i:Int)+1)])
       rw [eB]
       exact cons_ren NP hB3.ok hB3.k5 bc fun x hx=>List.mem_of_mem_take hx
      refine ⟨g2,lh2,_,restx,t',renE (nmP ns) e,rfl,hD.same sxz,ht',renE_ok NP eok,by rw [List.length_map,lo];omega,fun z=>absurd z nb,fun _ Hw restw hBw nww kpw=>⟨rfl,_,rfl,iteFe (by simp) ⟨_,_,restw,(i:Int)+1+1,rfl,?_,by omega,by omega,kp.trans ((Kp.of sxz).trans kpw)⟩⟩⟩
      have:Bk.add ⟨B.k,B.n,(B.es.take i).map (renE (nmP ns)),(i:Int)+1,[]⟩ (renE (nmP ns) e)=⟨B.k,B.n,(B.es.take (i+1)).map (renE (nmP ns)),(i:Int)+1+1,[]⟩:=by rw [← eB];rfl
      rw [this] at hBw
      exact hBw
    · rintro σ HB ⟨x13,x14,restx,cx,rfl,hD,rfl,li,kp⟩
      rw [List.length_map,ql3,List.take_length] at hD
      have kpx:=kpA.trans kp
      have iN:Ints HB nn ns:=oth kpx in8
      have iW:Ints HB wa ws:=oth kpx ((s7.trans s8).ints iw)
      have hBB:=bAt kpx
      have hgB:HB g=some (.ins C dx3 (bf B.k B.n ls3 B.c lh)):=oth kpx (s38 _ _ hg3)
      obtain ⟨dy,ly,hyB,_⟩:=id hD.ob
      have rok:=Bk.rok hB3
      have rok':=Bk.rok hD
      have rg:∀ x,x < B.n→InM B.n (ns.getD x 0):=fun x hx=>mem_lab0.mp (pm.mem_iff.mp (getD_mem (by rw [nl8];exact hx)))
      obtain ⟨a0,a1⟩:=id ha
      obtain ⟨b0,b1⟩:=id hb
      refine ⟨_,rfl,_,rfl,by omega,by omega,for_range (lo:=0) (n:=(B.n:Int).toNat) (fun i σ Hx=>(∃ y13 y14,σ=[some (.ref sc),some (.ref l0),some (.int B.k),some (.int B.n),some (.int many),some (.ref g),some (.ref l),some (.ref r),some (.int a),some (.ref wa),some (.int b),some (.ref nn),some (.ref g2),y13,y14])∧Same HB Hx) ⟨⟨_,_,rfl⟩,Same.refl HB⟩ ?_ ?_⟩
      · rintro i σ Hx hi ⟨⟨y13,y14,rfl⟩,sx⟩
        have hi:i < B.n:=by omega
        refine ⟨_,rfl,g2,dy,_,rfl,sx _ _ hyB,rfl,_,rfl,_,rfl,rd_at i (sx.ints iN) (by omega) ⟨_,rfl,_,rfl,rd_at b.toNat (sx.ints iN) (by omega) ?_ (by omega)⟩ (by omega)⟩
        refine ⟨g2,lh2,_,restx,_,_,rfl,hD.same sx,fun _ Hy sy=>?_,fun z=>absurd ⟨rg i hi,rg b.toNat (by omega)⟩ z⟩
        have sxy:=sx.trans sy
        refine ⟨_,rfl,g,dx3,_,rfl,sxy _ _ hgB,rfl,_,rfl,_,rfl,g,lh,B,rest3,_,_,rfl,hBB.same sxy,fun _ Hz sz=>?_,fun z=>absurd ⟨⟨by omega,by omega⟩,hb⟩ z⟩
        have key:=lab_ren NP rok rok' hi (show b.toNat < B.n by omega)
        have ei:(0+(i:Int)).toNat=i:=by omega
        have kv:decide ((⟨B.k,B.n,B.es.map (renE (nmP ns)),(B.es.length:Int)+1,[]⟩:Bk).lab.getD (nmP ns i) 0=(⟨B.k,B.n,B.es.map (renE (nmP ns)),(B.es.length:Int)+1,[]⟩:Bk).lab.getD (nmP ns b.toNat) 0)=decide (B.lab.getD (0+(i:Int)).toNat 0=B.lab.getD b.toNat 0):=by
         rw [ei];exact decide_eq_decide.mpr key
        exact ⟨rfl,_,rfl,iteFe (by rw [Bool.not_eq_false',decide_eq_true_iff];exact congrArg V.bl kv) ⟨⟨_,_,rfl⟩,sxy.trans sz⟩⟩
      · rintro σ Hx ⟨⟨y13,y14,rfl⟩,sx⟩
        refine ⟨_,rfl,g2,dy,_,rfl,sx _ _ hyB,rfl,_,rfl,_,rfl,rd_at a.toNat (sx.ints iN) (by omega) ⟨_,rfl,_,rfl,_,rfl,rd_at b.toNat (sx.ints iN) (by omega) ?_ (by omega)⟩ (by omega)⟩
        refine ⟨g2,lh2,_,restx,_,_,wa,ws,rfl,hD.same sx,sx.ints iW,by omega,fun _ _=>fun Hy sy=>?_,fun z=>absurd ⟨rg _ (by omega),rg _ (by omega)⟩ z,fun _ z=>absurd hl' z⟩
        have kw:wordOf (B.es.map (renE (nmP ns))) (ns.getD a.toNat 0) ws (ns.getD b.toNat 0)=wordOf B.es a ws b:=by
         rw [nms_at pm ha,nms_at pm hb];exact word_ren NP rok hB3.ok ha hb
        have sxy:=sx.trans sy
        refine ⟨_,rfl,g,dx3,_,rfl,sxy _ _ hgB,rfl,_,rfl,_,rfl,_,rfl,g,lh,B,rest3,a,b,wa,ws,rfl,hBB.same sxy,sxy.ints iW,by omega,fun _ _=>fun Hz sz=>⟨rfl,_,rfl,iteFe (by rw [Bool.not_eq_false',decide_eq_true_iff];exact congrArg V.str kw) ?_⟩,fun z=>absurd ⟨ha,hb⟩ z,fun _ z=>absurd hl' z⟩
        have sxz:=sxy.trans sz
        refine ⟨_,rfl,g2,dy,_,rfl,sxz _ _ hyB,rfl,_,rfl,_,rfl,rd_at a.toNat (sxz.ints iN) (by omega) ⟨g2,lh2,_,restx,_,rfl,hD.same sxz,fun _ x fx H8' hx hfx hc8 s8'=>?_,fun z=>absurd (rg _ (by omega)) z⟩ (by omega)⟩
        obtain ⟨du,lo3,li3,as3,bs3,I3,efp3,hgu,_⟩:=id hc8.ob
        refine ⟨x,du,_,rfl,hgu,chf_no ..,x,_,_,_,fx,rfl,hc8,fun t3 ts3 H11 ft3 fts3 nd3 tb3 s11=>?_⟩
        have sq:=sxz.trans (s8'.trans s11)
        refine ⟨_,rfl,g,dx3,_,rfl,sq _ _ hgB,rfl,_,rfl,g,lh,B,rest3,a,rfl,hBB.same sq,fun _ x' fx' H12 hx' hfx' hc12 s12=>?_,fun z=>absurd ha z⟩
        obtain ⟨dv,lo4,li4,as4,bs4,I4,efp4,hgv,_⟩:=id hc12.ob
        refine ⟨x',dv,_,rfl,hgv,chf_no ..,x',_,_,_,fx',rfl,hc12,fun t4 ts4 H13 ft4 fts4 nd4 tb4 s13=>?_⟩
        have pr:=piece_ren hB3 hD NP rfl rfl rfl (show a.toNat < B.n by omega)
        rw [← pr] at tb4
        exact rd_eqT (tb3.same (s12.trans s13)) tb4 (kk _)
   obtain ⟨u5,hu5,kk5⟩:=rest5
   refine ⟨_,(@sC _ _ _ _ _ (@sS _ 1 _ _ _ _ _ sc_law.nd rfl (Or.inl rfl) (N.pe hr (@aC _ _ _ _ _ (pv 0) (@aC _ _ _ _ _ pe_int pa_nil (by rfl)) (by rfl))) (by rfl) (.inl rfl))
    (@sC _ _ _ _ _ (@sS _ 2 _ _ _ _ _ sc_law.nd rfl (Or.inl rfl) (pe_op op_add pe_int (pe_op op_mod (pe_ix ix_l (pv 1) pe_int (fun _ _=>rfl)) pe_int)) (by rfl) (.inl rfl))
    (@sC _ _ _ _ _ (@sS _ 3 _ _ _ _ _ sc_law.nd rfl (Or.inl rfl) (pe_op op_mod (pe_ix ix_l (pv 1) pe_int (fun _ _=>rfl)) pe_int) (by rfl) (.inl rfl))
    (@sC _ _ _ _ _ (@sS _ 4 _ _ _ _ _ sc_law.nd rfl (Or.inl rfl) (pe_op op_mod (pe_ix ix_l (pv 1) pe_int (fun _ _=>rfl)) pe_int) (by rfl) (.inl rfl))
    (@sC _ _ _ _ _ (ps_if (pt_cmpR op_eq (pe_op op_mod (pe_ix ix_l (pv 1) pe_int (fun _ _=>rfl)) pe_int) pe_int (nomark _)) (@sC _ _ _ _ _ (@sS _ 3 _ _ _ _ _ sc_law.nd rfl (Or.inl rfl) (pe_op op_mod (pe_ix ix_l (pv 1) pe_int (fun _ _=>rfl)) pe_int) (by rfl) (.inl rfl))
    (@sO _ _ _ (@sS _ 4 _ _ _ _ _ sc_law.nd rfl (Or.inl rfl) (pe_op op_mod (pe_ix ix_l (pv 1) pe_int (fun _ _=>rfl)) pe_int) (by rfl) (.inl rfl)))) pss_nil)
    hu5))))),?_⟩
   refine ⟨_,rfl,sc,ns,200,rfl,hS,hn,by decide,fun l0 ms H1 hms hg f0 h0 s1=>?_⟩
   have a0:=Int.emod_nonneg (ms.getD 0 0) (show (5:Int)≠0 by decide)
   have a1:=Int.emod_lt_of_pos (ms.getD 0 0) (show (0:Int) < 5 by decide)
   have b0:=Int.emod_nonneg (ms.getD 1 0) (show (11:Int)≠0 by decide)
   have b1:=Int.emod_lt_of_pos (ms.getD 1 0) (show (0:Int) < 11 by decide)
   have c0:=Int.emod_nonneg (ms.getD 2 0) (show (15:Int)≠0 by decide)
   have c1:=Int.emod_lt_of_pos (ms.getD 2 0) (show (0:Int) < 15 by decide)
   have d0:=Int.emod_nonneg (ms.getD 1 0) (show (25:Int)≠0 by decide)
   have d1:=Int.emod_lt_of_pos (ms.getD 1 0) (show (0:Int) < 25 by decide)
   have e0:=Int.emod_nonneg (ms.getD 2 0) (show (41:Int)≠0 by decide)
   have e1:=Int.emod_lt_of_pos (ms.getD 2 0) (show (0:Int) < 41 by decide)
   refine ⟨_,rfl,rd_at 0 h0 (by omega) ⟨_,_,rfl,rfl,(by show (0:Int) < 5;decide),_,_,rfl,rfl,?_⟩⟩
   refine ⟨_,rfl,rd_at 1 h0 (by omega) ⟨_,_,rfl,rfl,(by show (0:Int) < 11;decide),?_⟩⟩
   refine ⟨_,rfl,rd_at 2 h0 (by omega) ⟨_,_,rfl,rfl,(by show (0:Int) < 15;decide),?_⟩⟩
   refine ⟨_,rfl,rd_at 3 h0 (by omega) ⟨_,_,rfl,rfl,(by show (0:Int) < 9;decide),rfl,_,rfl,?_⟩⟩
   refine ite2 (fun _=>?_) (fun _=>?_)
   · refine ⟨_,rfl,rd_at 1 h0 (by omega) ⟨_,_,rfl,rfl,(by show (0:Int) < 25;decide),?_⟩⟩
     refine ⟨_,rfl,rd_at 2 h0 (by omega) ⟨_,_,rfl,rfl,(by show (0:Int) < 41;decide),?_⟩⟩
     have:=kk5 l0 ms (1+ms.getD 0 0 % 5).toNat (ms.getD 1 0 % 25).toNat (ms.getD 2 0 % 41).toNat H1 h0 hms (by omega) (by omega) (by omega) (by omega)
     rw [Int.toNat_of_nonneg (show 0≤1+ms.getD 0 0 % 5 by omega),Int.toNat_of_nonneg d0,Int.toNat_of_nonneg e0] at this
     exact this
   · have:=kk5 l0 ms (1+ms.getD 0 0 % 5).toNat (ms.getD 1 0 % 11).toNat (ms.getD 2 0 % 15).toNat H1 h0 hms (by omega) (by omega) (by omega) (by omega)
     rw [Int.toNat_of_nonneg (show 0≤1+ms.getD 0 0 % 5 by omega),Int.toNat_of_nonneg b0,Int.toNat_of_nonneg c0] at this
     exact this
end
abbrev NsN (K:PySem.W.Frag) (n:Str):Prop:=PySem.W.nsIn K mainGlobals n=some none
abbrev NsI (K:PySem.W.Frag) (n:Str) (f:Addr):Prop:=PySem.W.nsIn K mainGlobals n=some (some (.ref f))
structure De (K:PySem.W.Frag) (n:Str) (st:Stmt) (f:Addr) (d:FuncData):Prop where
 a:PySem.W.nsIn K mainGlobals n=some (some (.ref f))
 F:Fun K n n st f d
structure Md (K:PySem.W.Frag) (C:Addr) (n q:Str) (st:Stmt) (f:Addr) (d:FuncData):Prop where
 a:PySem.W.findIn K (.ref C) n=some (some (.ref f))
 i:PySem.W.isFn K (.ref f)=true
 F:Fun K n q st f d
structure ClI (K:PySem.W.Frag) (n:Str) (C:Addr):Prop where
 a:PySem.W.nsIn K mainGlobals n=some (some (.ref C))
 pg:PySem.W.plainGet K C Str.empty=true
 hd:PySem.W.hasDictIn K C=true
 po:PySem.W.plainOver K C=true
 sa:PySem.W.findIn K (.ref C) "__setattr__"=some (some (.builtin "object.__setattr__"))
 ms:PySem.W.makesIn K C=true
 kc:PySem.W.keepIn K (.ref C)=true
section
variable {K:PySem.W.Frag}{h:Heap}{mg:Str→Option Value}{x:Str}
theorem mo {v:Value} (X:K.In h) (G:h.Ns mainGlobals mg) (a:PySem.W.nsIn K mainGlobals x=some (some v)):mg x=some v:=PySem.W.mg_of X G a
theorem mn (X:K.In h) (G:h.Ns mainGlobals mg) (a:NsN K x):mg x=none:=PySem.W.mg_none_of X G a
variable {P:Program}{w:World}{base:Heap}{C f:Addr}{st:Stmt}{d:FuncData}{ps:List Str}{k:Nat}{sp:Sp}{q:Str}
theorem ClI.cl (c:ClI K x C):Cls K C:=⟨c.pg,c.hd,c.po,c.sa⟩
def mk1 (X:K.In h) (G:h.Ns mainGlobals mg) (e:De K x st f d) (ok:FnOk P w K mg base CX0 k f d ps sp) (b:Binds K d ps []):Rdy P w K mg base x ps k sp:=⟨f,d,ok,mo X G e.a,e.F.kp,b⟩
def mkx (X:K.In h) (G:h.Ns mainGlobals mg) (e:De K x st f d) (ok:FnOk P w K mg base (CXe P w) k f d ps sp) (b:Binds K d ps []):Rdx P w K mg base x ps k sp:=⟨f,d,ok,mo X G e.a,e.F.kp,b⟩
def mkm {n:Str} (c:ClI K n C) (e:Md K C x q st f d) (ok:FnOk P w K mg base CX0 k f d ps sp) (b:Binds K d ps []):Rdm P w K mg base C x ps k sp:=⟨f,d,ok,c.cl,⟨e.a,e.i,e.F.kp⟩,b⟩
def mkmx {n:Str} (c:ClI K n C) (e:Md K C x q st f d) (ok:FnOk P w K mg base (CXe P w) k f d ps sp) (b:Binds K d ps []):Rdmx P w K mg base C x ps k sp:=⟨f,d,ok,c.cl,⟨e.a,e.i,e.F.kp⟩,b⟩
def mkk (X:K.In h) (G:h.Ns mainGlobals mg) (c:ClI K x C) (e:Md K C "__init__" q st f d) (ok:FnOk P w K mg base CX0 k f d ps sp) (b:Binds K d ps []):Rdk P w K mg base C x ps k sp:=⟨f,d,ok,⟨c.ms,e.a,e.i,c.kc⟩,mo X G c.a,b⟩
def mkkx (X:K.In h) (G:h.Ns mainGlobals mg) (c:ClI K x C) (e:Md K C "__init__" q st f d) (ok:FnOk P w K mg base (CXe P w) k f d ps sp) (b:Binds K d ps []):Rdkx P w K mg base C x ps k sp:=⟨f,d,ok,⟨c.ms,e.a,e.i,c.kc⟩,mo X G c.a,b⟩
variable {p1 p2 p3 p4 p5 p6 p7 p8:Str}
theorem bd1 (F:Fun K x q st f d) (h:∀ (kV doc pm:Value) (an:Option Addr) (cdv ct u1:Value),bindArgs (PySem.W.fnOf x q (defArgs st) (defBody st) (defScope st) .none kV doc pm an cdv ct) ⟨[u1],[]⟩=pure [(p1,u1)]:=by intros;rfl):Binds K d [p1] []:=F.binds fun kV doc pm an cdv ct us hl=>by
 obtain ⟨u1,rfl⟩:=us1 hl
 exact h kV doc pm an cdv ct u1
theorem bd2 (F:Fun K x q st f d) (h:∀ (kV doc pm:Value) (an:Option Addr) (cdv ct u1 u2:Value),bindArgs (PySem.W.fnOf x q (defArgs st) (defBody st) (defScope st) .none kV doc pm an cdv ct) ⟨[u1,u2],[]⟩=pure [(p1,u1),(p2,u2)]:=by intros;rfl):Binds K d [p1,p2] []:=F.binds fun kV doc pm an cdv ct us hl=>by
 obtain ⟨u1,u2,rfl⟩:=us2 hl
 exact h kV doc pm an cdv ct u1 u2
theorem bd3 (F:Fun K x q st f d) (h:∀ (kV doc pm:Value) (an:Option Addr) (cdv ct u1 u2 u3:Value),bindArgs (PySem.W.fnOf x q (defArgs st) (defBody st) (defScope st) .none kV doc pm an cdv ct) ⟨[u1,u2,u3],[]⟩=pure [(p1,u1),(p2,u2),(p3,u3)]:=by intros;rfl):Binds K d [p1,p2,p3] []:=F.binds fun kV doc pm an cdv ct us hl=>by
 obtain ⟨u1,u2,u3,rfl⟩:=us3 hl
 exact h kV doc pm an cdv ct u1 u2 u3
theorem bd4 (F:Fun K x q st f d) (h:∀ (kV doc pm:Value) (an:Option Addr) (cdv ct u1 u2 u3 u4:Value),bindArgs (PySem.W.fnOf x q (defArgs st) (defBody st) (defScope st) .none kV doc pm an cdv ct) ⟨[u1,u2,u3,u4],[]⟩=pure [(p1,u1),(p2,u2),(p3,u3),(p4,u4)]:=by intros;rfl):Binds K d [p1,p2,p3,p4] []:=F.binds fun kV doc pm an cdv ct us hl=>by
 obtain ⟨u1,u2,u3,u4,rfl⟩:=us4 hl
 exact h kV doc pm an cdv ct u1 u2 u3 u4
theorem bd5 (F:Fun K x q st f d) (h:∀ (kV doc pm:Value) (an:Option Addr) (cdv ct u1 u2 u3 u4 u5:Value),bindArgs (PySem.W.fnOf x q (defArgs st) (defBody st) (defScope st) .none kV doc pm an cdv ct) ⟨[u1,u2,u3,u4,u5],[]⟩=pure [(p1,u1),(p2,u2),(p3,u3),(p4,u4),(p5,u5)]:=by intros;rfl):Binds K d [p1,p2,p3,p4,p5] []:=F.binds fun kV doc pm an cdv ct us hl=>by
 obtain ⟨u1,u2,u3,u4,u5,rfl⟩:=us5 hl
 exact h kV doc pm an cdv ct u1 u2 u3 u4 u5
end
theorem all_mk {l:PySem.W.OpenLaw}{w:World}{K:PySem.W.Frag}{h:Heap}{mg:Str→Option Value}{fa f1 f2 f3 f4 f5 f6 f7 f8 f9 f10 f11 f12 f13 f14 f15 f16 f17 f18 f19 f20 f21 f22 f23 f24 f25 f26 f27 f28 f29 f30 f31 f32 f33 f34 f35 f36 f37 f38 f39 f40 f41 f42 f43 f44 f45 f46 f47 f48 f49 f50 f51 f52 f53 f54 f55 f56 f57 f58 f59 f60 f61 f62 f63 CGroups CFold CSurvey CChart CNoKind CNoMark CBarred CFull CNoChamber CCaveError:Addr} (X:K.In h) (G:h.Ns mainGlobals mg) (hfa:mg "law"=some (.ref fa))
  {d1 d2 d3 d4 d5 d6 d7 d8 d9 d10 d11 d12 d13 d14 d15 d16 d17 d18 d19 d20 d21 d22 d23 d24 d25 d26 d27 d28 d29 d30 d31 d32 d33 d34 d35 d36 d37 d38 d39 d40 d41 d42 d43 d44 d45 d46 d47 d48 d49 d50 d51 d52 d53 d54 d55 d56 d57 d58 d59 d60 d61 d62 d63:FuncData}{tkMK tkMM tkME tkROW tkAP:Tok}{ddWNoKind dWnNoKind:Option Addr}{nmWNoKind qnWNoKind:Str}{bsWNoKind subWNoKind:List Value}{nsWNoKind:Addr}{hdWNoKind abWNoKind:Bool}{snWNoKind:List Str}{colWNoKind:Option Bool}{q0NoKind q1NoKind q2NoKind q3NoKind q5NoKind:Option Value}{cWnNoKind:Value}{esWNoKind:Array DictEntry}{nWnNoKind:Nat}{slWNoKind:Array (Option Value)}{odB dBn:Option Addr}{nmB qnB:Str}{bsB subB mroB:List Value}{nsB:Addr}{hdB abB delB:Bool}{snB:List Str}{colB:Option Bool}{cBn ocB:Value}{esB:Array DictEntry}{nBn:Nat}{slB oslB:Array (Option Value)}{ddWNoMark dWnNoMark:Option Addr}{nmWNoMark qnWNoMark:Str}{bsWNoMark subWNoMark:List Value}{nsWNoMark:Addr}{hdWNoMark abWNoMark:Bool}{snWNoMark:List Str}{colWNoMark:Option Bool}{q0NoMark q1NoMark q2NoMark q3NoMark q5NoMark:Option Value}{cWnNoMark:Value}{esWNoMark:Array DictEntry}{nWnNoMark:Nat}{slWNoMark:Array (Option Value)}{ddWBarred dWnBarred:Option Addr}{nmWBarred qnWBarred:Str}{bsWBarred subWBarred:List Value}{nsWBarred:Addr}{hdWBarred abWBarred:Bool}{snWBarred:List Str}{colWBarred:Option Bool}{q0Barred q1Barred q2Barred q3Barred q5Barred:Option Value}{cWnBarred:Value}{esWBarred:Array DictEntry}{nWnBarred:Nat}{slWBarred:Array (Option Value)}{ddWFull dWnFull:Option Addr}{nmWFull qnWFull:Str}{bsWFull subWFull:List Value}{nsWFull:Addr}{hdWFull abWFull:Bool}{snWFull:List Str}{colWFull:Option Bool}{q0Full q1Full q2Full q3Full q5Full:Option Value}{cWnFull:Value}{esWFull:Array DictEntry}{nWnFull:Nat}{slWFull:Array (Option Value)}{ddWNoChamber dWnNoChamber:Option Addr}{nmWNoChamber qnWNoChamber:Str}{bsWNoChamber subWNoChamber:List Value}{nsWNoChamber:Addr}{hdWNoChamber abWNoChamber:Bool}{snWNoChamber:List Str}{colWNoChamber:Option Bool}{q0NoChamber q1NoChamber q2NoChamber q3NoChamber q5NoChamber:Option Value}{cWnNoChamber:Value}{esWNoChamber:Array DictEntry}{nWnNoChamber:Nat}{slWNoChamber:Array (Option Value)}{tkMC:Tok}{tkMU tkNV tkOP:Tok}
  (cGroups:ClI K "Groups" CGroups) (cFold:ClI K "Fold" CFold) (cSurvey:ClI K "Survey" CSurvey) (cChart:ClI K "Chart" CChart) (aNoKind:NsI K "NoKind" CNoKind) (aNoMark:NsI K "NoMark" CNoMark) (aBarred:NsI K "Barred" CBarred) (aFull:NsI K "Full" CFull) (aNoChamber:NsI K "NoChamber" CNoChamber) (aCaveError:NsI K "CaveError" CCaveError) (v1:De K "_law_numbers" s__law_numbers f1 d1) (v2:De K "_law_way" s__law_way f2 d2) (v3:De K "_law_turn" s__law_turn f3 d3) (v4:De K "_law_entered" s__law_entered f4 d4) (v5:De K "_law_entry" s__law_entry f5 d5) (v6:De K "_law_book" s__law_book f6 d6) (v7:De K "_law_rows" s__law_rows f7 d7) (v8:De K "_law_joined" s__law_joined f8 d8) (v9:De K "_law_folded" s__law_folded f9 d9) (v10:De K "_law_ranked" s__law_ranked f10 d10) (v11:De K "_law_led" s__law_led f11 d11) (v12:De K "_law_round" s__law_round f12 d12) (v13:De K "_law_chart" s__law_chart f13 d13) (v14:De K "_law_asked" s__law_asked f14 d14) (v15:De K "_law_mixed" s__law_mixed f15 d15) (v16:De K "_law_renamed" s__law_renamed f16 d16) (v17:De K "check_shape" s_check_shape f17 d17) (v18:De K "beginnings" s_beginnings f18 d18) (v19:De K "letters_in_order" s_letters_in_order f19 d19) (v20:De K "ways_from" s_ways_from f20 d20) (v21:De K "renumbered" s_renumbered f21 d21) (v22:De K "numbered" s_numbered f22 d22) (v23:De K "chart_of" s_chart_of f23 d23) (v24:De K "chambers_of" s_chambers_of f24 d24) (v25:De K "near_mark" s_near_mark f25 d25) (v26:De K "far_mark" s_far_mark f26 d26) (v27:De K "folded" s_folded f27 d27) (v28:De K "trail" s_trail f28 d28) (v29:De K "check_letters" s_check_letters f29 d29) (v30:De K "rows_of" s_rows_of f30 d30) (v31:De K "broken_oath" s_broken_oath f31 d31) (v32:Md K CGroups "__init__" "Groups.__init__" s_Groups___init__ f32 d32) (v33:Md K CGroups "together" "Groups.together" s_Groups_together f33 d33) (v34:Md K CGroups "unite" "Groups.unite" s_Groups_unite f34 d34) (v35:Md K CFold "__init__" "Fold.__init__" s_Fold___init__ f35 d35) (v36:Md K CFold "lay" "Fold.lay" s_Fold_lay f36 d36) (v37:Md K CFold "put" "Fold.put" s_Fold_put f37 d37) (v38:Md K CFold "settle" "Fold.settle" s_Fold_settle f38 d38) (v39:Md K CFold "merge" "Fold.merge" s_Fold_merge f39 d39) (v40:Md K CSurvey "__init__" "Survey.__init__" s_Survey___init__ f40 d40) (v41:Md K CSurvey "chalk" "Survey.chalk" s_Survey_chalk f41 d41) (v42:Md K CSurvey "row" "Survey.row" s_Survey_row f42 d42) (v43:Md K CSurvey "apart" "Survey.apart" s_Survey_apart f43 d43) (v44:Md K CSurvey "marks" "Survey.marks" s_Survey_marks f44 d44) (v45:Md K CSurvey "entries" "Survey.entries" s_Survey_entries f45 d45) (v46:Md K CSurvey "same" "Survey.same" s_Survey_same f46 d46) (v47:Md K CSurvey "paper" "Survey.paper" s_Survey_paper f47 d47) (v48:Md K CSurvey "must_paper" "Survey.must_paper" s_Survey_must_paper f48 d48) (v49:Md K CSurvey "enter" "Survey.enter" s_Survey_enter f49 d49) (v50:Md K CSurvey "laid" "Survey.laid" s_Survey_laid f50 d50) (v51:Md K CSurvey "check_marks" "Survey.check_marks" s_Survey_check_marks f51 d51) (v52:Md K CSurvey "check_room" "Survey.check_room" s_Survey_check_room f52 d52) (v53:Md K CSurvey "labels" "Survey.labels" s_Survey_labels f53 d53) (v54:Md K CSurvey "chambers" "Survey.chambers" s_Survey_chambers f54 d54) (v55:Md K CSurvey "piece" "Survey.piece" s_Survey_piece f55 d55) (v56:Md K CSurvey "never_paper" "Survey.never_paper" s_Survey_never_paper f56 d56) (v57:Md K CSurvey "judge" "Survey.judge" s_Survey_judge f57 d57) (v58:Md K CChart "__init__" "Chart.__init__" s_Chart___init__ f58 d58) (v59:Md K CChart "size" "Chart.size" s_Chart_size f59 d59) (v60:Md K CChart "table" "Chart.table" s_Chart_table f60 d60) (v61:Md K CChart "check_chamber" "Chart.check_chamber" s_Chart_check_chamber f61 d61) (v62:Md K CChart "step" "Chart.step" s_Chart_step f62 d62) (v63:De K "law" s_law f63 d63) (nGroups_least:NoAttr K CGroups "least") (nGroups_lay:NoAttr K CGroups "lay") (nFold_groups:NoAttr K CFold "groups") (nFold_doors:NoAttr K CFold "doors") (nFold_waiting:NoAttr K CFold "waiting") (nFold_steps:NoAttr K CFold "steps") (nSurvey_kinds:NoAttr K CSurvey "kinds") (nSurvey_many:NoAttr K CSurvey "many") (nSurvey_standing:NoAttr K CSurvey "standing") (nSurvey_coming:NoAttr K CSurvey "coming") (nSurvey_held:NoAttr K CSurvey "held") (nChart_kinds:NoAttr K CChart "kinds") (nChart_onward:NoAttr K CChart "onward") (nChart_inward:NoAttr K CChart "inward") (z1:NsN K "len") (z2:NsN K "range") (z3:NsN K "list") (z4:NsN K "int") (z5:NsN K "bool") (z6:NsN K "isinstance") (z7:NsN K "tuple") (z8:NsN K "abs") (z9:NsN K "enumerate") (z10:NsN K "str") (z_min:NsN K "min") (z_max:NsN K "max") (z_sum:NsN K "sum") (yMK:PySem.W.nsIn K mainGlobals "MOST_KINDS"=some (some (.int 5 tkMK))) (yMM:PySem.W.nsIn K mainGlobals "MOST_MARKS"=some (some (.int 24 tkMM))) (yME:PySem.W.nsIn K mainGlobals "MOST_ENTRIES"=some (some (.int 40 tkME))) (yROW:PySem.W.nsIn K mainGlobals "ROW"=some (some (.str "row" tkROW))) (yAP:PySem.W.nsIn K mainGlobals "APART"=some (some (.str "apart" tkAP))) (e7:PySem.W.specialIn K (.builtin "object.__class__") "__get__"=some (some (.builtin "getset_descriptor.__get__"))) (e8:PySem.W.takesIn K (.builtin "object.__class__")=some true) (lWNoKind:K.lookup CNoKind=some ⟨.type "type",ddWNoKind,.cls ⟨nmWNoKind,bsWNoKind,.ref CNoKind::.ref CCaveError::veMro,nsWNoKind,qnWNoKind,hdWNoKind,snWNoKind,subWNoKind,abWNoKind,colWNoKind,false⟩, #[q0NoKind,q1NoKind,q2NoKind,q3NoKind,some (.builtin "ValueError.__new__"),q5NoKind]⟩) (lWnNoKind:K.lookup nsWNoKind=some ⟨cWnNoKind,dWnNoKind,.dict esWNoKind nWnNoKind,slWNoKind⟩) (hWNoKind:esWNoKind.toList.all strKey=true) (iWNoKind:PySem.W.nsIn K nsWNoKind "__init__"=some none) (lB:K.lookup CCaveError=some ⟨ocB,odB,.cls ⟨nmB,bsB,mroB,nsB,qnB,hdB,snB,subB,abB,colB,delB⟩,oslB⟩) (lBn:K.lookup nsB=some ⟨cBn,dBn,.dict esB nBn,slB⟩) (hB:esB.toList.all strKey=true) (iB:PySem.W.nsIn K nsB "__init__"=some none) (lWNoMark:K.lookup CNoMark=some ⟨.type "type",ddWNoMark,.cls ⟨nmWNoMark,bsWNoMark,.ref CNoMark::.ref CCaveError::veMro,nsWNoMark,qnWNoMark,hdWNoMark,snWNoMark,subWNoMark,abWNoMark,colWNoMark,false⟩, #[q0NoMark,q1NoMark,q2NoMark,q3NoMark,some (.builtin "ValueError.__new__"),q5NoMark]⟩) (lWnNoMark:K.lookup nsWNoMark=some ⟨cWnNoMark,dWnNoMark,.dict esWNoMark nWnNoMark,slWNoMark⟩) (hWNoMark:esWNoMark.toList.all strKey=true) (iWNoMark:PySem.W.nsIn K nsWNoMark "__init__"=some none) (lWBarred:K.lookup CBarred=some ⟨.type "type",ddWBarred,.cls ⟨nmWBarred,bsWBarred,.ref CBarred::.ref CCaveError::veMro,nsWBarred,qnWBarred,hdWBarred,snWBarred,subWBarred,abWBarred,colWBarred,false⟩, #[q0Barred,q1Barred,q2Barred,q3Barred,some (.builtin "ValueError.__new__"),q5Barred]⟩) (lWnBarred:K.lookup nsWBarred=some ⟨cWnBarred,dWnBarred,.dict esWBarred nWnBarred,slWBarred⟩) (hWBarred:esWBarred.toList.all strKey=true) (iWBarred:PySem.W.nsIn K nsWBarred "__init__"=some none) (lWFull:K.lookup CFull=some ⟨.type "type",ddWFull,.cls ⟨nmWFull,bsWFull,.ref CFull::.ref CCaveError::veMro,nsWFull,qnWFull,hdWFull,snWFull,subWFull,abWFull,colWFull,false⟩, #[q0Full,q1Full,q2Full,q3Full,some (.builtin "ValueError.__new__"),q5Full]⟩) (lWnFull:K.lookup nsWFull=some ⟨cWnFull,dWnFull,.dict esWFull nWnFull,slWFull⟩) (hWFull:esWFull.toList.all strKey=true) (iWFull:PySem.W.nsIn K nsWFull "__init__"=some none) (lWNoChamber:K.lookup CNoChamber=some ⟨.type "type",ddWNoChamber,.cls ⟨nmWNoChamber,bsWNoChamber,.ref CNoChamber::.ref CCaveError::veMro,nsWNoChamber,qnWNoChamber,hdWNoChamber,snWNoChamber,subWNoChamber,abWNoChamber,colWNoChamber,false⟩, #[q0NoChamber,q1NoChamber,q2NoChamber,q3NoChamber,some (.builtin "ValueError.__new__"),q5NoChamber]⟩) (lWnNoChamber:K.lookup nsWNoChamber=some ⟨cWnNoChamber,dWnNoChamber,.dict esWNoChamber nWnNoChamber,slWNoChamber⟩) (hWNoChamber:esWNoChamber.toList.all strKey=true) (iWNoChamber:PySem.W.nsIn K nsWNoChamber "__init__"=some none) (exsBarred:PySem.W.exmOne K (.ref CBarred) (.ref CBarred)=some true) (yMC:PySem.W.nsIn K mainGlobals "MOST_CHAMBERS"=some (some (.int 700 tkMC))) (yMU:PySem.W.nsIn K mainGlobals "MUST"=some (some (.str "must" tkMU))) (yNV:PySem.W.nsIn K mainGlobals "NEVER"=some (some (.str "never" tkNV))) (yOP:PySem.W.nsIn K mainGlobals "OPEN"=some (some (.str "open" tkOP)))
  :∃ fd:FuncData,(∀ (s:Shared) (v:Value),BindsTo s fd ⟨[v],[]⟩ [("_law_script",v)])∧∀ base:Heap,K.In base→base.Ns mainGlobals mg→FnOk l.prog w K mg base CX0 14 fa fd ["_law_script"] (spLaw K):=by
 have e:=hfa.symm.trans (mo X G v63.a)
 cases e
 have T:Txt K mg:=⟨mn X G z1,mn X G z2,mn X G z3,mn X G z4,mn X G z5,mn X G z6,mn X G z7,mn X G z8,mn X G z9,mn X G z10⟩
 have CLGroups:=cGroups.cl;have aGroups:=cGroups.a
 have CLFold:=cFold.cl;have aFold:=cFold.a
 have CLSurvey:=cSurvey.cl;have aSurvey:=cSurvey.a
 have CLChart:=cChart.cl;have aChart:=cChart.a
 have TM:TxtM mg:=⟨mn X G z_min,mn X G z_max⟩
 have TG:TxtG K mg CGroups:=⟨CLGroups,nGroups_least,mo X G aGroups⟩
 have TF:TxtF K mg CFold:=⟨CLFold,nFold_groups,nFold_doors,nFold_waiting,nFold_steps,mo X G aFold⟩
 have hne:CFold≠CGroups:=fun e=>by
  have z:=v36.a
  rw [e,show PySem.W.findIn K (.ref CGroups) "lay"=some none from nGroups_lay] at z
  cases z
 have TS:TxtS K mg CSurvey:=⟨CLSurvey,nSurvey_kinds,nSurvey_many,nSurvey_standing,nSurvey_coming,nSurvey_held,⟨_,mo X G yMK⟩,⟨_,mo X G yMM⟩,⟨_,mo X G yME⟩,⟨_,mo X G yROW⟩,⟨_,mo X G yAP⟩⟩
 let CS:Nat→Addr:=fun j=>([CNoKind,0,CNoMark,0,0,CNoChamber,0,0,0,CBarred,CFull]:List Addr).getD j 0
 have V0:isVe K CNoKind=true:=isVe_mk lWNoKind (nsOk_mk lWnNoKind hWNoKind) iWNoKind lB (nsOk_mk lBn hB) iB
 have V2:isVe K CNoMark=true:=isVe_mk lWNoMark (nsOk_mk lWnNoMark hWNoMark) iWNoMark lB (nsOk_mk lBn hB) iB
 have V9:isVe K CBarred=true:=isVe_mk lWBarred (nsOk_mk lWnBarred hWBarred) iWBarred lB (nsOk_mk lBn hB) iB
 have V10:isVe K CFull=true:=isVe_mk lWFull (nsOk_mk lWnFull hWFull) iWFull lB (nsOk_mk lBn hB) iB
 have V5:isVe K CNoChamber=true:=isVe_mk lWNoChamber (nsOk_mk lWnNoChamber hWNoChamber) iWNoChamber lB (nsOk_mk lBn hB) iB
 have TC:TxtC K mg CChart:=⟨CLChart,nChart_kinds,nChart_onward,nChart_inward,⟨_,mo X G yMK⟩,⟨_,mo X G yMC⟩,mn X G z_sum⟩
 have TJ:TxtJ mg:=⟨⟨_,mo X G yMU⟩,⟨_,mo X G yNV⟩,⟨_,mo X G yOP⟩⟩
 obtain ⟨x1,x2,x3,x4,x5,x6,x7,x8,x9,e,_⟩:=v63.F.ex
 subst e
 refine ⟨PySem.W.fnOf "law" "law" (defArgs s_law) (defBody s_law) (defScope s_law) .none x3 x4 x5 x6 x7 x8,fun s v=>.of_eq rfl,fun base _ _=>?_⟩
 have m1:∀ {x:Str}{ps:List Str}{k:Nat}{sp:Sp}{f:Addr}{st:Stmt}{d:FuncData},De K x st f d→FnOk l.prog w K mg base CX0 k f d ps sp→Binds K d ps []→Rdy l.prog w K mg base x ps k sp:=fun e o b=>mk1 X G e o b
 have m2:∀ {x:Str}{ps:List Str}{k:Nat}{sp:Sp}{f:Addr}{st:Stmt}{d:FuncData},De K x st f d→FnOk l.prog w K mg base (CXe l.prog w) k f d ps sp→Binds K d ps []→Rdx l.prog w K mg base x ps k sp:=fun e o b=>mkx X G e o b
 have m3:∀ {n x q:Str}{C:Addr}{ps:List Str}{k:Nat}{sp:Sp}{f:Addr}{st:Stmt}{d:FuncData},ClI K n C→Md K C x q st f d→FnOk l.prog w K mg base CX0 k f d ps sp→Binds K d ps []→Rdm l.prog w K mg base C x ps k sp:=fun c e o b=>mkm c e o b
 have m4:∀ {n x q:Str}{C:Addr}{ps:List Str}{k:Nat}{sp:Sp}{f:Addr}{st:Stmt}{d:FuncData},ClI K n C→Md K C x q st f d→FnOk l.prog w K mg base (CXe l.prog w) k f d ps sp→Binds K d ps []→Rdmx l.prog w K mg base C x ps k sp:=fun c e o b=>mkmx c e o b
 have m5:∀ {x q:Str}{C:Addr}{ps:List Str}{k:Nat}{sp:Sp}{f:Addr}{st:Stmt}{d:FuncData},ClI K x C→Md K C "__init__" q st f d→FnOk l.prog w K mg base CX0 k f d ps sp→Binds K d ps []→Rdk l.prog w K mg base C x ps k sp:=fun c e o b=>mkk X G c e o b
 have m6:∀ {x q:Str}{C:Addr}{ps:List Str}{k:Nat}{sp:Sp}{f:Addr}{st:Stmt}{d:FuncData},ClI K x C→Md K C "__init__" q st f d→FnOk l.prog w K mg base (CXe l.prog w) k f d ps sp→Binds K d ps []→Rdkx l.prog w K mg base C x ps k sp:=fun c e o b=>mkkx X G c e o b
 let R__law_numbers:=m1 v1 (ok_num v1.F T) (bd2 v1.F)
 let R__law_way:=m1 v2 (ok_way v2.F) (bd2 v2.F)
 let R__law_turn:=m1 v3 (ok_turn v3.F) (bd1 v3.F)
 let R__law_entry:=m1 v5 (ok_entry v5.F) (bd3 v5.F)
 let R__law_rows:=m1 v7 (ok_lrows v7.F) (bd1 v7.F)
 let R__law_joined:=m1 v8 (ok_jn v8.F TM) (bd3 v8.F)
 let R__law_folded:=m1 v9 (ok_lfold v9.F T R__law_joined) (bd3 v9.F)
 let R__law_ranked:=m1 v10 (ok_ranked v10.F) (bd1 v10.F)
 let R__law_led:=m1 v11 (ok_led v11.F T) (bd3 v11.F)
 let R__law_round:=m1 v12 (ok_round v12.F T R__law_led) (bd4 v12.F)
 let R__law_chart:=m1 v13 (ok_lchart v13.F T TM R__law_folded R__law_ranked) (bd3 v13.F)
 let R__law_asked:=m1 v14 (ok_asked49 v14.F T R__law_way R__law_turn R__law_chart R__law_round) (bd4 v14.F)
 let R__law_mixed:=m1 v15 (ok_mixed v15.F T) (bd2 v15.F)
 let R__law_renamed:=m1 v16 (ok_renamed v16.F) (bd2 v16.F)
 let R_check_shape:=m1 v17 (ok_shape v17.F T TC) (bd2 v17.F)
 let R_beginnings:=m1 v18 (ok_beg v18.F T) (bd1 v18.F)
 let R_letters_in_order:=m1 v19 (ok_lio v19.F T TC) (bd1 v19.F)
 let R_chambers_of:=m1 v24 (ok_chOf v24.F T) (bd1 v24.F)
 let R_near_mark:=m1 v25 (ok_near v25.F) (bd2 v25.F)
 let R_far_mark:=m1 v26 (ok_far v26.F R_near_mark) (bd2 v26.F)
 let R_trail:=m1 v28 (ok_trail v28.F T) (bd3 v28.F)
 let R_check_letters:=m1 v29 (ok_ckl v29.F T) (bd2 v29.F)
 let R_rows_of:=m1 v30 (ok_rowsOf v30.F TS) (bd1 v30.F)
 let R_broken_oath:=m1 v31 (ok_brk v31.F TS) (bd2 v31.F)
 let M_Groups_together:=m3 cGroups v33 (ok_tog v33.F TG) (bd3 v33.F)
 let M_Groups_unite:=m3 cGroups v34 (ok_uni v34.F TM TG) (bd3 v34.F)
 let M_Fold_put:=m3 (sp:=spPut CFold CGroups) cFold v37 (ok_put v37.F TF) (bd4 v37.F)
 let M_Fold_merge:=m3 (sp:=spMerge CFold CGroups) cFold v39 (ok_merge v39.F T TM TF TG M_Groups_unite M_Fold_put) (bd3 v39.F)
 let K_Survey:=m5 cSurvey v40 (ok_sinit v40.F TS) (bd2 v40.F)
 let M_Survey_chalk:=m4 cSurvey v41 (ok_chalkX v41.F (mo X G aFull) V10 TS) (bd1 v41.F)
 let M_Survey_marks:=m3 cSurvey v44 (ok_marks v44.F TS) (bd1 v44.F)
 let M_Survey_entries:=m3 cSurvey v45 (ok_entries v45.F T TS) (bd1 v45.F)
 let M_Survey_enter:=m3 cSurvey v49 (ok_enter v49.F TS) (bd2 v49.F)
 let M_Survey_check_marks:=m4 cSurvey v51 (ok_ckMX v51.F (mo X G aNoMark) V2 TS) (bd3 v51.F)
 let M_Survey_check_room:=m4 cSurvey v52 (ok_ckRX v52.F (mo X G aFull) V10 T TS) (bd1 v52.F)
 let K_Chart:=m5 cChart v58 (ok_init v58.F T TC R_check_shape R_beginnings) (bd3 v58.F)
 let M_Chart_size:=m3 cChart v59 (ok_size v59.F T TC) (bd1 v59.F)
 let M_Chart_table:=m3 cChart v60 (ok_tabl v60.F T TC M_Chart_size) (bd1 v60.F)
 let M_Chart_check_chamber:=m3 cChart v61 (ok_ckc v61.F M_Chart_size) (bd2 v61.F)
 let M_Chart_step:=m3 cChart v62 (ok_step v62.F TC M_Chart_check_chamber R_check_letters) (bd3 v62.F)
 let R_check_letters_X:=m2 v29 (ok_cklX v29.F (mo X G aNoKind) V0 T) (bd2 v29.F)
 let M_Chart_check_chamber_X:=m4 cChart v61 (ok_ckcX v61.F (mo X G aNoChamber) V5 M_Chart_size) (bd2 v61.F)
 let R_ways_from:=m1 v20 (ok_ways v20.F T R_letters_in_order M_Chart_step) (bd2 v20.F)
 let R_renumbered:=m1 v21 (ok_ren v21.F T TC M_Chart_table K_Chart) (bd2 v21.F)
 let R_numbered:=m2 v22 (ok_nbrX v22.F T M_Chart_check_chamber_X R_ways_from R_renumbered) (bd2 v22.F)
 let R_chart_of:=m1 v23 (ok_chartOf v23.F T TM K_Chart) (bd3 v23.F)
 let K_Groups:=m5 cGroups v32 (ok_ginit v32.F T TG M_Groups_unite) (bd3 v32.F)
 let K_Fold:=m5 cFold v35 (ok_finit v35.F T TF K_Groups) (bd3 v35.F)
 let M_Fold_lay:=m3 (sp:=spLay CFold CGroups) cFold v36 (ok_lay v36.F TF TG R_near_mark M_Fold_put) (bd2 v36.F)
 let M_Fold_settle:=m3 (sp:=spSettle CFold CGroups) cFold v38 (ok_settle v38.F TF TG R_far_mark M_Groups_together M_Fold_merge) (bd1 v38.F)
 let M_Survey_laid:=m4 cSurvey v50 (ok_laidX v50.F TS M_Survey_check_marks R_check_letters_X R_trail R_rows_of) (bd4 v50.F)
 let R_folded:=m1 v27 ((ok_folded v27.F T TF TG hne K_Fold M_Fold_lay M_Fold_settle).imp fun _ _ _ _=>fold2_of) (bd3 v27.F)
 let M_Survey_row:=m4 cSurvey v42 (ok_srowX v42.F (mo X G aNoKind) V0 (mo X G aBarred) V9 TS M_Survey_check_marks M_Survey_check_room R_folded R_rows_of R_broken_oath M_Survey_enter) (bd4 v42.F)
 let M_Survey_must_paper:=m4 cSurvey v48 (ok_mustX v48.F T TS M_Survey_laid R_folded) (bd4 v48.F)
 let M_Survey_labels:=m3 cSurvey v53 (ok_labels v53.F TS R_folded R_rows_of) (bd1 v53.F)
 let M_Survey_chambers:=m3 cSurvey v54 (ok_chambers v54.F M_Survey_labels R_chambers_of) (bd1 v54.F)
 let M_Survey_piece:=m4 cSurvey v55 (ok_pieceX v55.F TS M_Survey_check_marks M_Survey_chambers R_rows_of R_chart_of R_numbered) (bd2 v55.F)
 let M_Survey_never_paper:=m4 cSurvey v56 (ok_neverJ v56.F T TS M_Survey_laid R_folded R_broken_oath) (bd4 v56.F)
 let M_Survey_judge:=m4 cSurvey v57 (ok_judgeJ v57.F TJ M_Survey_must_paper M_Survey_never_paper) (bd4 v57.F)
 let M_Survey_paper:=m4 cSurvey v47 (ok_papX v47.F M_Survey_must_paper) (bd3 v47.F)
 let M_Survey_same:=m4 cSurvey v46 (ok_sameX v46.F M_Survey_paper) (bd3 v46.F)
 let M_Survey_apart:=m4 cSurvey v43 (ok_apX v43.F (mo X G aBarred) V9 TS M_Survey_check_marks M_Survey_check_room M_Survey_same M_Survey_enter) (bd3 v43.F)
 let R__law_entered:=m1 v4 (ok_entered v4.F (mo X G aBarred) exsBarred M_Survey_row M_Survey_apart) (bd2 v4.F)
 let R__law_book:=m1 v6 (ok_book v6.F T M_Survey_chalk R__law_entry R__law_entered) (bd5 v6.F)
 exact ok_law v63.F T R__law_numbers K_Survey R__law_book R__law_rows R__law_asked R__law_mixed R__law_renamed M_Survey_chalk R__law_entered M_Survey_same M_Survey_judge M_Survey_piece M_Chart_table M_Survey_entries
theorem walk {l:PySem.W.OpenLaw}{q:Program}{loose:List Str}{XP:(Str→Option Value)→Heap→Prop}{YP:World→Heap→Prop}{d:DefRec}{K:Params→PySem.W.Frag} (hn:l.most=some 63) (hdf:d.params.defaults=[])
  (hY:∀ (w:World) (h:Heap),YP w h→(K w.params).In h)
  (F:∀ (w:World) (mg:Str→Option Value) (fa:Addr) (h:Heap),(K w.params).In h→h.Ns mainGlobals mg→mg d.name=some (.ref fa)→
   ∃ fd:FuncData,(∀ (s:Shared) (u:Value),BindsTo s fd ⟨[u],[]⟩ [("_law_script",u)])∧∀ base:Heap,(K w.params).In base→base.Ns mainGlobals mg→FnOk l.prog w (K w.params) mg base CX0 14 fa fd ["_law_script"] (spLaw (K w.params))):
  PySem.W.WalkO q loose XP YP l.row.toRowW d [] (fun f vs=>PySem.call f vs):=
 L2.walk_of (n:=63) (k:=14) (x:="_law_script") (CX:=fun _=>CX0) (sp:=fun w=>spLaw (K w.params)) hn (by decide) hdf ⟨rfl,by decide,by decide⟩ hY F (fun _ _ a ns hl _ hS=>⟨a,ns,rfl,hS,hl,fun _=>rfl⟩) fun _ _ _ _ _ z=>z
end My
namespace PySem.W.Fast
def tw15223438877403834991:=()
def tw6217989541559013977:=()
def tw17608307421915636549:=()
def tw5329737164242767997:=()
def tw2014695941080893164:=()
def tw6540726397546563230:=()
def tw8050441262754535674:=()
def tw14532448129181654083:=()
def tw15066921920748036984:=()
def tw2719271753166098403:=()
def tw5222415681842794994:=()
def tw2389425268130865514:=()
def tw6448558418021260554:=()
def tw4194404126725367832:=()
def tw14174281320699306500:=()
def tw249919555239808829:=()
def tw6989607707953711792:=()
def tw6802173724119061299:=()
def tw5319332593953315956:=()
def tw16209535730050616540:=()
def tw7494293669075504357:=()
def tw7994777251059631692:=()
def tw6615355184564366046:=()
def tw14812207686981170551:=()
def tw4115152937457694869:=()
def tw907208309911207428:=()
def tw1075774620369638069:=()
def tw8898529919053522228:=()
def tw9937882514643753657:=()
def tw12023075102784979165:=()
def tw4816515792959381274:=()
def tw9291197895364381236:=()
def tw3030312120740024781:=()
def tw10776201051376899304:=()
def tw16854073278136517505:=()
def tw12316154190425095838:=()
def tw2640786266672446235:=()
def tw14567462559793615642:=()
def tw9982714579906143547:=()
def tw11723151424833336399:=()
def tw18174744667738999959:=()
def tw2355942085054654835:=()
def tw15534454182702089064:=()
def tw9009416992948431656:=()
def tw1095845800025863852:=()
def tw12486497644419992593:=()
def tw9252412078784166327:=()
def tw9982637118853061581:=()
def tw8631085416000559595:=()
def tw4581438428402789200:=()
def tw8956887401104305579:=()
def tw1106166872682267726:=()
def tw8565629776030448720:=()
def tw9266087824486798879:=()
def tw2703122670878746794:=()
def tw9885022467191841519:=()
def tw9824954395367997941:=()
def tw8877902839042677655:=()
def tw12645631712687091720:=()
def tw4550370976831678063:=()
def tw981094273019062111:=()
def tw15862976900316446962:=()
def tw13297379738638117146:=()
def tw5201523790540326500:=()
def tw8103734651459909563:=()
def tw1987339305254426357:=()
def tw14530040740677813737:=()
def tw6035368570491783065:=()
def tw1625158848746308871:=()
def tw10080734331885708379:=()
def tw4043530185634104325:=()
def tw9716106829073926544:=()
def tw9164696480964750127:=()
def tw2613966122591556958:=()
def tw12501512154597082740:=()
def tw7804693838632408171:=()
def tw12200264220945950766:=()
def tw17096963355123101615:=()
def tw11763049109334751247:=()
def tw565677487689318536:=()
def tw7758708454862921357:=()
def tw10615770999743858293:=()
def tw3185127088243921225:=()
def tw13562494655817659578:=()
def tw17210430226325544700:=()
def tw4432458472000813143:=()
def tw14636398298715881832:=()
def tw5085186199366995386:=()
def tw15283478307391153301:=()
def tw14845198360599574909:=()
def tw17559877357336115105:=()
def tw6884796308966111250:=()
def tw9082481426874139230:=()
def tw5313624504220826150:=()
def tw10147917758572417335:=()
def tw13371640135056747991:=()
def tw13722489275560873170:=()
def tw796980617394688666:=()
def tw9529505231671846116:=()
def tw9306306391426240398:=()
def tw2927567870209692580:=()
def tw9517670428723149018:=()
def tw2572335598575274561:=()
def tw13362996568000004460:=()
def tw11217442825871968206:=()
def tw10056447339972503296:=()
def tw2925994396874996548:=()
def tw2234968859412767066:=()
def tw1492944236673892782:=()
def tw12058732524345079795:=()
def tw5028657158893917941:=()
def tw17346035569354133746:=()
def tw4989321435244528515:=()
def tw7079506992698705587:=()
def tw6124803391623370256:=()
def tw15790951386915518370:=()
def tw9581084358942451887:=()
def tw5389704495577763605:=()
def tw2645329765823874840:=()
def tw13133608746057966728:=()
def tw9936479727715350074:=()
def tw15819248063828255683:=()
def tw11808133323896894088:=()
def tw5884794783514428860:=()
def tw11226991674744339271:=()
def tw7212182543889194865:=()
def tw6590554613862339971:=()
def tw820116121541216669:=()
def tw15400553883390521228:=()
def tw731758876445971039:=()
def tw10760359864002563823:=()
def tw8022153700203621750:=()
def tw10693777064863381007:=()
def tw343539413133038205:=()
def tw3580067987449121773:=()
def tw16174465413707595582:=()
def tw3451777434879112450:=()
def tw4049545769634155434:=()
def tw5934660407417320845:=()
def tw11917398772607295951:=()
def tw9563426606039203145:=()
def tw4893893866768879834:=()
def tw5061424659074017207:=()
def tw13607565266338208669:=()
def tw12899079186190997176:=()
def tw14698336242358163875:=()
def tw6385488842453753945:=()
def tw14431017829498850284:=()
def tw10547061476651467331:=()
def tw15992282837468966220:=()
def tw1661244628161386858:=()
def tw7182386319686540098:=()
def tw1307116871120324897:=()
def tw246041494461884680:=()
def tw3526652110368490750:=()
def tw129605250877333226:=()
def tw17154884422841651456:=()
def tw11139356728690989994:=()
def tw14482336699746538936:=()
def tw8270827097079117025:=()
def tw1949485354384307663:=()
def tw17870782900221825102:=()
def tw13924713169122181621:=()
def tw10581344809612431366:=()
def tw7586587540872753897:=()
def tw16563382140111369582:=()
def tw1939978271541987488:=()
def tw748237040889959608:=()
def tw15330851286988364433:=()
def tw7889721661497731738:=()
def tw6537027365189951452:=()
def tw8640599805341410837:=()
def tw4554264114162307976:=()
def tw16409278275456384143:=()
def tw7382557444535902141:=()
def tw714468740318617998:=()
def tw795641194950326707:=()
def tw16698677452100372655:=()
def tw17549125175211460111:=()
def tw11630729247056122239:=()
def tw16281596314313670481:=()
def tw1001545119760248993:=()
def tw6220859717439791089:=()
def tw4905759656750337875:=()
def tw6809616163161844651:=()
def tw3803580891004325888:=()
def tw11081580643498018852:=()
def tw13009314093095179366:=()
def tw5888843026065105966:=()
def tw9718232177177216918:=()
def tw11579604223805684338:=()
def tw17260602731803204948:=()
def tw18261199878694958255:=()
end PySem.W.Fast
def PySem.W.Fast.tw756091714607967162:PySem.Program:=PySem.Challenge.pw_chalkcave_k51_marks_under_other_numbers
theorem PySem.W.Fast.te756091714607967162:PySem.Challenge.pw_chalkcave_k51_marks_under_other_numbers=PySem.W.Fast.tw756091714607967162:=rfl
open PySem PySem.W PyProof.Rows
set_option maxRecDepth 100000 in
set_option maxHeartbeats 0 in
theorem PySem.Challenge.cw_chalkcave_k51_marks_under_other_numbers_holds : PySem.Challenge.rw_chalkcave_k51_marks_under_other_numbers.Holds := by
 w_on;o_law;k_head;(case hw=>w_witness2)
 k_fill
 refine My.walk (l:=PySem.Challenge.rw_chalkcave_k51_marks_under_other_numbers) rfl rfl (fun w h Y=>PySem.W.kIn_of Y) ?F
 case F=>
  intro w mg fa h KX G hmg
  refine' My.all_mk KX G hmg ?cGroups ?cFold ?cSurvey ?cChart ?aNoKind ?aNoMark ?aBarred ?aFull ?aNoChamber ?aCaveError ?_ ?_ ?_ ?_ ?_ ?_ ?_ ?_ ?_ ?_ ?_ ?_ ?_ ?_ ?_ ?_ ?_ ?_ ?_ ?_ ?_ ?_ ?_ ?_ ?_ ?_ ?_ ?_ ?_ ?_ ?_ ?_ ?_ ?_ ?_ ?_ ?_ ?_ ?_ ?_ ?_ ?_ ?_ ?_ ?_ ?_ ?_ ?_ ?_ ?_ ?_ ?_ ?_ ?_ ?_ ?_ ?_ ?_ ?_ ?_ ?_ ?_ ?_ ?_ ?_ ?_ ?_ ?_ ?_ ?_ ?_ ?_ ?_ ?_ ?_ ?_ ?_ ?_ ?_ ?_ ?_ ?_ ?_ ?_ ?_ ?_ ?_ ?_ ?_ ?_ ?_ ?_ ?_ ?_ ?_ ?_ ?_ ?_ ?_ ?_ ?_ ?_ ?_ ?_ ?_ ?_ ?_ ?_ ?_ ?_ ?_ ?_ ?_ ?_ ?_ ?_ ?_ ?_ ?_ ?_ ?_ ?exsBarred ?_ ?_ ?_ ?_
  (case cGroups=>constructor <;> k_is)
  (case cFold=>constructor <;> k_is)
  (case cSurvey=>constructor <;> k_is)
  (case cChart=>constructor <;> k_is)
  (case aNoKind=>unfold My.NsI;k_is)
  (case aNoMark=>unfold My.NsI;k_is)
  (case aBarred=>unfold My.NsI;k_is)
  (case aFull=>unfold My.NsI;k_is)
  (case aNoChamber=>unfold My.NsI;k_is)
  (case aCaveError=>unfold My.NsI;k_is)
  (case exsBarred=>kts_exm)
  all_goals first | (apply My.De.mk;k_is;apply L2.fun_mk;k_is;k_is;k_is) | (apply My.Md.mk;k_is;k_is;apply L2.fun_mk;k_is;k_is;k_is) | k_is | (unfold My.NsN;k_is) | (unfold L2.NoAttr;k_is) | rfl | skip
